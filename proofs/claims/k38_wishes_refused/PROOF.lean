import PyProof.Rows.All
import Wide.All
import OpenK.AllK
import Wide.FinOn
import Lean
import PyProof.EqAt
import PyProof.EqKinds
import PyProof.TupleCall
import PyProof.CompFree
import PyProof.Rows.SumAny
import PyProof.ZipIter
import PyProof.ConsumeWalk
import PySem.Challenge.RW_clackrow_k38_wishes_refused
import KE.KSortTup
import KE.KDictSum
import PyProof.Sound
import KE.KLam
import PyProof.WalkInts
import PyProof.Rows.SeqCalls
import PyProof.Draws
import KE.KDictLaws
import KE.KDictList
import PyProof.Rows.SortShell
import PyProof.Rows.SortWalk
import PyProof.DictTruth
import KE.KDictOf
import PyProof.AttrMissHeap
import PyProof.WalksS
import PyProof.Walks
import PyProof.Seq
import PyProof.ListNew
import PyProof.CollectWalk
import PyProof.Rows.Range3
import KE.KSortAsk
import PyProof.SetScanFacts
import PyProof.SetKind
import PyProof.Rows.SetFrom
import PyProof.LongRange
import KE.KTryMore
set_option hygiene false
local macro_rules|`(∅)=>`(by lia)
local macro_rules|`(tactic|rcases $h:ident:$e with $p)=>if h.getId==`q then `(tactic|(refine hid (λ_ Zz=>?_);rcases $e:term with $p;refine Zz ?_;clear Zz)) else if h.getId==`r then `(tactic|(refine $e (λf cdv A outer s H vs Q E hr h=>?_);rcases q:h with $p)) else Lean.Macro.throwUnsupported
set_option Elab.async false
set_option linter.all false
set_option maxRecDepth 100000
set_option maxHeartbeats 8000000
section
open PySem PySem.Spec PyProof.Rows
abbrev Fg:=PySem.W.Frag
def zL0:0<=sizeLine:=by decide
def zL1:1<=sizeLine:=by decide
def zL2:2<=sizeLine:=by decide
def zL3:3<=sizeLine:=by decide
def zL4:4<=sizeLine:=by decide
def zL8:8<=sizeLine:=by decide
def wc:=@wpAny_bind
def we:=@List.length_map
def wf:=@Heap.get?_push_of_some
def wg:=@Nat.le_refl
def wj:=@wpAny_pure
def wm:=@decide_eq_true
def wn:=@List.mem_map
def wo:=@List.getElem?_map
def wq:=@Int.fdiv_eq_ediv_of_nonneg
def wu:=@Rat.intCast_mul
def ww:=@List.length_cons
def wx:=@List.mem_cons
def wA:=@decide_eq_false
def wB:=@Heap.lt_size
def wC:=@List.getElem?_eq_getElem
def wD:=@List.mem_singleton
def wE:=@Heap.get?_push_size
def wF:=@List.size_toArray
def wG:=@of_decide_eq_true
def wH:=@List.mem_cons_self
def wI:=@List.length_append
def wJ:=@Array.length_toList
def wK:=@Array.getElem?_eq_getElem
def wL:=@Array.getElem?_toList
def wM:=@List.mem_of_getElem?
def wN:=@List.getElem?_append_right
def wO:=@List.mem_cons_of_mem
def wP:=@List.getElem?_eq_some_iff
def wQ:=@List.mem_append
def wR:=@Array.getElem?_eq_some_iff
def wS:=@Nat.ne_of_lt
def wT:=@Nat.lt_of_lt_of_le
def wU:=@List.getElem?_append_left
def wV:=@List.mem_append_right
def wW:=@Int.mul_pos
def wX:=@Rat.intCast_pos
def wY:=@Int.mul_ediv_cancel_left
def wZ:=@Bool.false_ne_true
def w4:=@PySem.W.mg_none_of
def w8:=@Nat.zero_le
def yj:=@List.length_take
def yk:=@Rat.divInt_eq_div
def ym:=@PyProof.Rows.boot_isinstance
def yn:=@Heap.get?_update_other
def yp:=@PySem.F.excBase_ValueError
def yq:=@PySem.W.mg_of
def yr:=@Rat.num_divInt_den
def yt:=@List.take_length
def yu:=@Int.le_trans
def yx:=@Rat.mul_le_mul_of_nonneg_right
def yA:=@List.map_cons
def yB:=@List.append_nil
def yC:=@PySem.F.plainAttrs_list
def yD:=@Array.toList_append
def yE:=@List.take_add_one
def yF:=@List.append_assoc
def yG:=@List.length_range
def yH:=@Nat.le_trans
def yI:=@Int.le_of_lt
def yJ:=@List.getElem?_eq_none
def yK:=@PyProof.Rows.boot_abs
def yL:=@Int.mul_le_mul_of_nonneg_right
def yM:=@Int.ne_of_gt
def yN:=@wpAny_holding
def yO:=@wpAny_newObj_type
def yP:=@List.mem_append_left
def yQ:=@Int.lt_or_le
def yR:=@PySem.F.slot_list_append
def yS:=@PySem.F.type_list_append
def yT:=@PyProof.Rows.callWith_type1
def yU:=@Heap.get?_update_self
def yV:=@List.map_append
def yW:=@List.map_map
def yX:=@List.length_eq_zero_iff
def yY:=@Rat.intCast_le_intCast
def yZ:=@wpAny_mono
def uc:=@PySem.W.kia_one
def ue:=@Rat.mul_pos
def uf:=@List.length_singleton
def ug:=@Rat.divInt_eq_divInt_iff
def uh:=@Int.mul_nonpos_of_nonneg_of_nonpos
def ui:=@Int.gcd_pos_of_ne_zero_left
def uj:=@Int.mul_lt_mul_of_pos_right
def uo:=@wpAny_Call_Name_kw
def ur:=@Int.gcd_dvd_left
def ut:=@Rat.le_of_lt
def uu:=@wpAny_call_entry
def uw:=@Array.getElem?_eq_none
def uy:=@wpAny_truthy_bool
def uz:=@List.take_append_drop
def uA:=@Rat.intCast_inj
def uD:=@Nat.eq_zero_or_pos
def uE:=@List.filter_append
def uF:=@Nat.lt_irrefl
def uG:=@Int.fdiv_eq_ediv_of_dvd
def uH:=@List.getElem?_cons_succ
def uI:=@List.ext_getElem?
def uJ:=@decide_eq_true_eq
def uK:=@List.find?_cons
def uL:=@Int.emod_nonneg
def uM:=@List.map_congr_left
def uN:=@Bool.and_eq_true
def uO:=@List.length_replicate
def uP:=@Int.natAbs_dvd_natAbs
def uQ:=@Int.le_refl
def uR:=@Bool.eq_iff_iff
def uS:=@List.nodup_cons
def uT:=@PyProof.Rows.slot_tuple_getitem
def uU:=@Int.mul_ne_zero
def uV:=@Nat.lt_succ_of_lt
def uW:=@wpAny_passesOwn
def uX:=@wpAny_setState_of
def uY:=@Int.eq_ofNat_of_zero_le
def uZ:=@wpAny_setEntries_of
def u7:=@Array.toList_inj
def u8:=@Rat.mul_le_mul_of_nonneg_left
def u9:=@Int.not_lt
def Wa:=@Array.getElem?_extract
def Wc:=@PyProof.Rows.boot_list
def Wd:=@Int.emod_lt_of_pos
def We:=@List.getElem?_take
def Wf:=@Rat.divInt_mul_divInt
def Wg:=@Nat.sub_self
def Wh:=@List.length_filter_le
def Wi:=@List.mem_iff_getElem?
def Wj:=@List.foldl_cons
def Wk:=@Rat.num_intCast
def Wm:=@Int.gcd_dvd_right
def Wo:=@Int.mul_assoc
def Wp:=@Int.dvd_trans
def Wq:=@wpAny_attempt
def Wr:=@Int.ediv_pos_of_pos_of_dvd
def Ws:=@Heap.size_push
def Wu:=@List.pairwise_iff_getElem
def Wv:=@List.take_zero
def Ww:=@PySem.F.plain_extend_loop
def Wx:=@List.mem_of_find?_eq_some
def Wy:=@Nat.ne_of_gt
def Wz:=@List.getElem?_take_of_lt
def WB:=@PySem.F.args_tuple_add_2
def WC:=@Int.mul_comm
def WD:=@PyProof.Rows.boot_sorted
def WE:=@Int.zero_mul
def WF:=@Int.mul_nonpos_of_nonpos_of_nonneg
def WG:=@Array.append_assoc
def WH:=@List.getElem?_replicate
def WJ:=@PySem.F.entry_tuple_add
def WK:=@Nat.lt_of_le_of_lt
def WL:=@List.nil_append
def WM:=@List.getElem?_drop
def WN:=@Int.ediv_nonneg
def WO:=@PyProof.Rows.boot_tuple
def WP:=@Rat.intCast_neg
def WQ:=@Rat.den_intCast
def WR:=@wpAny_execs_nil
def WS:=@List.getElem?_set_self
def WT:=@PySem.F.slot_tuple_add
def WU:=@PySem.F.slot_list_iadd
def WV:=@wpAny_field
def WW:=@List.mem_range
def WX:=@Nat.le_of_eq
def WY:=@PyProof.Rows.callWith_builtin1
def W5:=@Int.gcd_comm
def W6:=@List.perm_append_comm
def W7:=@List.getElem?_toArray
def W8:=@PyProof.Rows.boot_int
def W9:=@PyProof.Rows.boot_max
def Ya:=@Int.mul_ediv_add_emod
def Yb:=@Nat.lt_succ_self
def Yc:=@List.length_drop
def Yd:=@List.mem_reverse
def Ye:=@Int.ediv_le_self
def Yf:=@List.getElem?_set_ne
def Yg:=@Array.toList_reverse
def Yh:=@Int.gcd_pos_of_ne_zero_right
def Yi:=@PySem.F.slot_dict_setdefault
def Yj:=@PySem.F.type_dict_setdefault
def Yk:=@wpAny_rule
def Yl:=@List.mem_filter
def Ym:=@List.filterMap_cons
def Yn:=@List.range_succ
def Yo:=@Int.dvd_of_mul_dvd_mul_left
def Yp:=@wpAny_updateSeq
def Yq:=@Array.perm_iff_toList_perm
def Yr:=@Int.add_mul_emod_self_left
def Ys:=@Int.le_of_mul_le_mul_right
def Yt:=@Nat.le_of_lt
def Yu:=@List.mem_filterMap
def Yv:=@PySem.W.callWith_K
def Yw:=@Nat.eq_or_lt_of_le
def Yx:=@Bool.false_eq_true
def Yy:=@Int.dvd_refl
def Yz:=@List.find?_eq_none
def YA:=@Rat.intCast_nonneg
def YB:=@wpAny_typeOf
def YC:=@wpAny_setField_rec
def YD:=@Bool.false_and
def YE:=@List.extract_eq_take_drop
def YF:=@Bool.and_false
def YG:=@wpAny_fieldsOf
def YH:=@Option.isSome_iff_exists
def YI:=@Int.gcd_dvd_natAbs_right
def YJ:=@Array.toList_push
def YK:=@Array.getD
def YL:=@List.foldl_append
def YM:=@Int.mul_left_comm
def YN:=@List.nodup_append
def YO:=@wpAny_pyIter_list
def YQ:=@wpAny_call
def YR:=@wpAny_comprehension_free
def YS:=@Int.mul_one
def YT:=@Nat.le_of_dvd
def YU:=@Int.one_mul
def YV:=@List.any_cons
def YW:=@Bool.true_and
def YX:=@PySem.W.excIn
def YY:=@wpAny_standAt
def YZ:=@wpAny_of_eq
def Y0:=@wpAny_newList
def Y1:=@List.not_mem_nil
def Y2:=@List.all_eq_true
def Y3:=@Option.getD_some
def Y4:=@List.countP_cons
def Y5:=@wpAny_askSetting
def Y6:=@List.of_mem_zip
def Y7:=@List.length_nil
def Y8:=@Nat.zero_add
def Y9:=@Int.mul_dvd_mul
def Ua:=@Rat.zero_mul
def Ub:=@Rat.intCast_add
def Uc:=@List.nodup_nil
def Ud:=@Int.mul_nonneg
def Ue:=@Int.natAbs_mul
def Uf:=@Rat.mul_nonneg
def Ug:=@wpAny_setField
def Uh:=@Nat.mul_add
def Ui:=@wpAny_load
end
theorem rL {α:Sort _}{a:α}:a=a:=rfl
namespace L2
open PySem PySem.Spec PyProof.Rows
abbrev Key:=Sum Int Str
def Jc:Key->Value->Bool
 | .inl k,v=>Value.isInt k v
 | .inr x,v=>Value.isStrOf x v
def keyH (w:World):Key->Int
 | .inl k=>hashInt k
 | .inr x=>hashStr w x
theorem xM:∀{k:Key}{v:Value},Jc k v=true->(∃i t,k=Sum.inl i/\v=Value.int i t)\/(∃x t,k=Sum.inr x/\v=Value.str x t)
 | .inl i,v,h=>by
  obtain⟨t,e⟩:=Value.isInt_shape (k:=i) (v:=v) h
  exact .inl ⟨i,t,rL,e⟩
 | .inr x,v,h=>by
  obtain⟨t,e⟩:=Value.isStrOf_shape (x:=x) (v:=v) h
  exact .inr ⟨x,t,rL,e⟩
theorem zcX (i:Int) (t:Tok):Jc (.inl i) (.int i t)=true:=by simp[Jc,Value.isInt]
theorem zcY (x:Str) (t:Tok):Jc (.inr x) (.str x t)=true:=by simp[Jc,Value.isStrOf]
theorem zh4 (a b:Int):decide ((Sum.inl a:Key)=Sum.inl b)=(a == b):=by
 by_cases e:a=b
 ·subst e;simp
 ·have h:¬(Sum.inl a:Key)=Sum.inl b:=λq=>e (Sum.inl.inj q)
  rw[wA h]
  exact(beq_eq_false_iff_ne.mpr e).symm
theorem zh7 (a b:Str):decide ((Sum.inr a:Key)=Sum.inr b)=decide (a=b):=by
 by_cases e:a=b
 ·subst e;simp
 ·have h:¬(Sum.inr a:Key)=Sum.inr b:=λq=>e (Sum.inr.inj q)
  rw[wA h,wA e]
theorem zh5 (a:Int) (b:Str):decide ((Sum.inl a:Key)=Sum.inr b)=false:=wA (λq=>nomatch q)
theorem zh6 (a:Str) (b:Int):decide ((Sum.inr a:Key)=Sum.inl b)=false:=wA (λq=>nomatch q)
def xU (prog:Program) (w:World):PySem.KeyKind prog w Key where
 is:=Jc
 hash:=keyH w
 inj:=λv a b ha hb=>by
  rcases xM ha with⟨i,t,rfl,rfl⟩ | ⟨x,t,rfl,rfl⟩
  ·rcases xM hb with⟨j,u,rfl,e⟩ | ⟨y,u,rfl,e⟩
   ·injection e with e1 _;rw[e1]
   ·exact nomatch e
  ·rcases xM hb with⟨j,u,rfl,e⟩ | ⟨y,u,rfl,e⟩
   ·exact nomatch e
   ·injection e with e1 _;rw[e1]
 byValue:=λk v h=>by
  rcases xM h with⟨i,t,rfl,rfl⟩ | ⟨x,t,rfl,rfl⟩ <;> rfl
 pyHash:=λhv h=>by
  rcases xM hv with⟨i,t,rfl,rfl⟩ | ⟨x,t,rfl,rfl⟩
  ·exact wpAny_pyHash_int h
  ·exact wpAny_pyHash_str h
 eqBool:=λhu hv h=>by
  rcases xM hu with⟨i,t,rfl,rfl⟩ | ⟨x,t,rfl,rfl⟩
  ·rcases xM hv with⟨j,u,rfl,rfl⟩ | ⟨y,u,rfl,rfl⟩
   ·rw[zh4]at h;exact wpAny_eqBool_int h
   ·rw[zh5]at h;exact SeqAt.EqAt.int_str i t y u _ _ _ _ h
  ·rcases xM hv with⟨j,u,rfl,rfl⟩ | ⟨y,u,rfl,rfl⟩
   ·rw[zh6]at h;exact SeqAt.EqAt.str_int x t j u _ _ _ _ h
   ·rw[zh7]at h;exact wpAny_eqBool_str h
 «strs»:=λk x t v h=>by
  rcases xM h with⟨i,u,rfl,e⟩ | ⟨y,u,rfl,e⟩
  ·exact nomatch e
  ·injection e with e1 _
   subst e1
   cases v <;> rfl
theorem zap (prog:Program) (w:World) (i:Int) (t:Tok):(xU prog w).is (.inl i) (.int i t)=true:=zcX i t
theorem zaq (prog:Program) (w:World) (x:Str) (t:Tok):(xU prog w).is (.inr x) (.str x t)=true:=zcY x t
inductive V where
 | non | bl (b:Bool) | int (i:Int) | str (x:Str) | byt (b:Array UInt8) | flt (b:UInt64) | ref (a:Addr) | ty (n:String)
 deriving DecidableEq
def xi:V->Value->Prop
 | .non,u=>u=Value.none
 | .bl b,u=>u=Value.bool b
 | .int i,u=>∃t,u=Value.int i t
 | .str x,u=>∃t,u=Value.str x t
 | .byt b,u=>∃t,u=Value.bytes b t
 | .flt b,u=>∃t,u=Value.float b t
 | .ref a,u=>u=Value.ref a
 | .ty n,u=>u=Value.type n
abbrev xa:List V->List Value->Prop:=Paired xi
theorem xa.length {xs:List V}{us:List Value}(r:xa xs us):xs.length=us.length:=Paired.length r
theorem xa.get:∀{xs:List V}{us:List Value}{i:Nat}{x:V},xa xs us->xs[i]? = some x->∃u,us[i]? = some u/\xi x u
 | _,_,_,_,.nil,e=>by simp at e
 | _,_,0,_,.cons r _,e=>by simp at e;subst e;exact⟨_,rfl,r⟩
 | _,_,i+1,x,.cons _ t,e=>by
  obtain⟨u,h1,h2⟩:=xa.get (i:=i) (x:=x) t (by simpa using e)
  exact⟨u,by simpa using h1,h2⟩
theorem xa.set {x:V}{u:Value}(r:xi x u):∀{xs:List V}{us:List Value}(i:Nat),xa xs us->xa (xs.set i x) (us.set i u)
 | _,_,_,.nil=>.nil
 | _,_,0,.cons _ t=>.cons r t
 | _,_,i+1,.cons q t=>.cons q (xa.set r i t)
theorem xa.append:∀{xs ys:List V}{us ws:List Value},xa xs us->xa ys ws->xa (xs++ys) (us++ws)
 | _,_,_,_,.nil,s=>s
 | _,_,_,_,.cons r t,s=>.cons r (xa.append t s)
theorem xa.take:∀{xs:List V}{us:List Value}(n:Nat),xa xs us->xa (xs.take n) (us.take n)
 | _,_,0,_=>.nil
 | _,_,_+1,.nil=>.nil
 | _,_,n+1,.cons r t=>.cons r (xa.take n t)
theorem xa.drop:∀{xs:List V}{us:List Value}(n:Nat),xa xs us->xa (xs.drop n) (us.drop n)
 | _,_,0,r=>r
 | _,_,_+1,.nil=>.nil
 | _,_,n+1,.cons _ t=>xa.drop n t
def Vf:Option V->Option Value->Prop
 | some v,some u=>xi v u
 | none,none=>True
 | _,_=>False
def KV {κ:Type}:List (κ×V)->List (κ×Value)->Prop:=Paired λ(p:κ×V) (q:κ×Value)=>p.1=q.1/\xi p.2 q.2
def kV:Key->V
 | .inl i=>.int i
 | .inr x=>.str x
inductive HO where
 | lst (xs:List V)
 | tup (xs:List V)
 | dK (kvs:List (Key×V)) | dT (kvs:List (List Key×V))
 | set (S:Int->Bool) (n:Nat)
 | ins (C dx:Addr) (fs:List (Str×V))
 | own (x:Addr)
 | xd (fs:List (Str×V))
 | met (f x:Addr)
 | rng (lo hi:Int)
 | frz (o:Obj) (u:HO)
 | tbl (ps:Array Value)
 | ext (φ:Heap->Prop)
abbrev Hp:=Addr->Option HO
def upd (H:Hp) (a:Addr) (o:HO):Hp:=λb=>if b=a then some o else H b
theorem zg {H:Hp}{a:Addr}{o:HO}:upd H a o a=some o:=by unfold upd;rw[if_pos rfl]
theorem zO {H:Hp}{a b:Addr}{o:HO}(h:b≠a):upd H a o b=H b:=by unfold upd;rw[if_neg h]
theorem zjO {H:Hp}{a b:Addr}{o u:HO}(h:H a=some o) (h':H b=some u) (d:o≠u):a≠b:=by
 intro e;subst e;rw[h]at h';exact d (Option.some.inj h')
theorem zQ {H:Hp}{a b:Addr}{o:HO}(h:H a=some o) (h':H b=none):a≠b:=by
 intro e;subst e;rw[h]at h';cases h'
section
variable (P:Program) (w:World)
def xE (H:Hp) (h:Heap) (a:Addr):HO->Prop
 | .lst xs=>xs.length<=sizeLine/\∃(its:List Value) (n:Nat),xa xs its/\h.get? a=some { cls:=.type "list",data:=.seq its.toArray n }
 | .tup xs=>xs.length<=sizeLine/\∃its:List Value,xa xs its/\IsTup h a its.toArray
 | .dK kvs=>kvs.length<=sizeLine/\(a == sysModules)=false/\∃vs,KV kvs vs/\h.DictOf (xU P w) a vs
 | .dT kvs=>kvs.length<=sizeLine/\(a == sysModules)=false/\∃xs:List (List Key×Addr×Value),
   Paired (λ(p:List Key×V) (q:List Key×Addr×Value)=>p.1=q.1/\H q.2.1=some (.tup (p.1.map kV))/\xi p.2 q.2.2) kvs xs ∧
   ∃o es ep,h.get? a=some o/\o.ExactDict/\o.data = .dict es ep/\es.toList=xs.map (entryOfKey (tupleKind (xU P w)))/\(xs.map (·.1)).Nodup
 | .set S n=>h.SetOf (intKind P w) a S n
 | .ins C dx fs=>H dx=some (.own a)/\fs.length<=1000/\dx≠a/\h.get? a=some (PySem.W.instObj C dx) ∧
   ∃mA,h.Ns1 dx mA/\(∀f,Vf (fs.lookup f) (mA f))/\PySem.Within mA (fs.map (·.1))
 | .own _=>∃o,h.get? a=some o
 | .xd fs=>∃mA,h.Ns1 a mA/\∀f,Vf (fs.lookup f) (mA f)
 | .rng lo hi=>∃t u v,h.get? a=some { cls:=.type "range",data:=.fields #[.int lo t,.int hi u,.int 1 v] }
 | .frz o u=>h.get? a=some o/\xE H h a u
 | .tbl ps=>h.get? a=some { cls:=.none,data:=.fields ps }
 | .met f x=>h.get? a=some (PySem.W.methodObj (.ref f) (.ref x))
 | .ext φ=>φ h/\(∃o,h.get? a=some o)/\∀h1 h2:Heap,φ h1->(∀o,h1.get? a=some o->h2.get? a=some o)->φ h2
def HOk (H:Hp) (h:Heap):Prop:=∀a o,H a=some o->xE P w H h a o
end
section
variable {P:Program}{w:World}{H H':Hp}{h h':Heap}{a:Addr}{o:HO}
theorem xE.lt (x:xE P w H h a o):a<h.objs.size:=by
 cases o with
 | lst xs=>obtain⟨_,_,_,_,e⟩:=x;exact wB e
 | tup xs=>obtain⟨_,_,_,p⟩:=x;exact p.lt
 | dK kvs=>obtain⟨_,_,_,_,o,_,_,e,_⟩:=x;exact wB e
 | dT kvs=>obtain⟨_,_,_,_,o,_,_,e,_⟩:=x;exact wB e
 | set S n=>obtain⟨o,_,_,_,e,_⟩:=x;exact wB e
 | ins C dx fs=>obtain⟨_,_,_,e,_⟩:=x;exact wB e
 | own y=>obtain⟨_,e⟩:=x;exact wB e
 | xd fs=>obtain⟨_,⟨_,_,_,e,_⟩,_⟩:=x;exact wB e
 | rng lo hi=>obtain⟨_,_,_,e⟩:=x;exact wB e
 | frz ob u=>obtain⟨e,_⟩:=x;exact wB e
 | tbl ps=>exact wB (show h.get? a=some _ from x)
 | met f y=>exact wB (show h.get? a=some _ from x)
 | ext φ=>obtain⟨_,⟨_,e⟩,_⟩:=x;exact wB e
theorem Paired.mapP {α β:Type}{F G:α->β->Prop}:∀{l₁:List α}{l₂:List β},Paired F l₁ l₂->(∀a b,F a b->G a b)->Paired G l₁ l₂
 | _,_,.nil,_=>.nil
 | _,_,.cons r t,f=>.cons (f _ _ r) (Paired.mapP t f)
theorem xE.stay (x:xE P w H h a o) (k:∀b u,(b=a\/H b=some (.own a))->h.get? b=some u->h'.get? b=some u)
  (ho:∀b,H b=some (.own a)->H' b=some (.own a)) (ht:∀b xs,H b=some (.tup xs)->H' b=some (.tup xs)):xE P w H' h' a o:=by
 induction o with
 | lst xs=>obtain⟨z,its,n,r,e⟩:=x;exact⟨z,its,n,r,k _ _ (.inl rfl) e⟩
 | tup xs=>obtain⟨z,its,r,ob,e,c⟩:=x;exact⟨z,its,r,ob,k _ _ (.inl rfl) e,c⟩
 | dK kvs=>obtain⟨z,y,vs,r,ob,es,ep,e,c⟩:=x;exact⟨z,y,vs,r,ob,es,ep,k _ _ (.inl rfl) e,c⟩
 | dT kvs =>
  obtain⟨z,y,xs,r,ob,es,ep,e,c⟩:=x
  exact⟨z,y,xs,Paired.mapP r λp q z=>⟨z.1,ht _ _ z.2.1,z.2.2⟩,ob,es,ep,k _ _ (.inl rL) e,c⟩
 | set S n=>obtain⟨ob,es,ep,t,e,c⟩:=x;exact⟨ob,es,ep,t,k _ _ (.inl rfl) e,c⟩
 | ins C dx fs =>
  obtain⟨d,z,ne,e,mA,⟨od,es,ep,e2,c⟩,r⟩:=x
  exact⟨ho _ d,z,ne,k _ _ (.inl rL) e,mA,⟨od,es,ep,k _ _ (.inr d) e2,c⟩,r⟩
 | own y=>obtain⟨ob,e⟩:=x;exact⟨ob,k _ _ (.inl rfl) e⟩
 | xd fs=>obtain⟨mA,⟨od,es,ep,e,c⟩,r⟩:=x;exact⟨mA,⟨od,es,ep,k _ _ (.inl rfl) e,c⟩,r⟩
 | rng lo hi=>obtain⟨t,u,v,e⟩:=x;exact⟨t,u,v,k _ _ (.inl rfl) e⟩
 | frz ob u ih=>obtain⟨e,q⟩:=x;exact⟨k _ _ (.inl rfl) e,ih q⟩
 | tbl ps =>
  have e:h.get? a=some { cls:=.none,data:=.fields ps }:=x
  show h'.get? a=some { cls:=.none,data:=.fields ps }
  exact k a _ (.inl rL) e
 | met f y =>
  have e:h.get? a=some (PySem.W.methodObj (.ref f) (.ref y)):=x
  show h'.get? a=some (PySem.W.methodObj (.ref f) (.ref y))
  exact k a _ (.inl rL) e
 | ext φ=>obtain⟨p,⟨o,e⟩,st⟩:=x;exact⟨st _ _ p λo q=>k _ _ (.inl rfl) q,⟨o,k _ _ (.inl rfl) e⟩,st⟩
theorem HOk.lt (x:HOk P w H h) (e:H a=some o):a<h.objs.size:=(x a o e).lt
theorem HOk.fresh (x:HOk P w H h) (e:h.objs.size<=a):H a=none:=by
 cases q:H a with
 | none=>rfl
 | some u=>exact absurd (wT (x.lt q) e) (uF _)
theorem HOk.kept (x:HOk P w H h) (k:∀b u,h.get? b=some u->h'.get? b=some u):HOk P w H h':=λa o e =>
 (x a o e).stay (λb u _ q=>k b u q) (λ_ q=>q) λ_ _ q=>q
theorem HOk.laid (x:HOk P w H h) (k:∀b u,h.get? b=some u->h'.get? b=some u) (hp:h.objs.size<=a) (new:xE P w (upd H a o) h' a o):HOk P w (upd H a o) h':=λb u e=>by
 have hn:=x.fresh hp
 by_cases hb:b=a
 ·subst hb;rw[zg]at e;cases e;exact new
 ·rw[zO hb]at e
  exact(x b u e).stay (λc v _ q=>k c v q) (λc q=>by rw[zO (zQ q hn)];exact q) λc xs q=>by rw[zO (zQ q hn)];exact q
end
def Rd (H:Hp) (a:Addr) (u:HO):Prop:=H a=some u\/∃o,H a=some (.frz o u)
theorem Rd.ok {P:Program}{w:World}{H:Hp}{h:Heap}{a:Addr}{u:HO}(r:Rd H a u) (x:HOk P w H h):xE P w H h a u:=by
 rcases r with r | ⟨o,r⟩
 ·exact x a u r
 ·obtain⟨_,q⟩:=x a _ r
  exact q
def Mut:Option HO->Prop
 | some (.lst _)=>True
 | some (.dK _)=>True
 | some (.dT _)=>True
 | some (.set _ _)=>True
 | some (.ins _ _ _)=>True
 | some (.ext _)=>True
 | _=>False
section
variable {P:Program}{w:World}{H:Hp}{h h':Heap}{x e:Addr}{o':HO}
theorem HOk.write (ok:HOk P w H h) (mu:Mut (H x)) (he:e=x\/H e=some (.own x)) (k:∀b u,b≠e->h.get? b=some u->h'.get? b=some u) (heo:∃u,h'.get? e=some u)
  (new:xE P w (upd H x o') h' x o'):HOk P w (upd H x o') h':=λb u q=>by
 have nown:∀c y,H c=some (.own y)->c≠x:=λc y r z=>by subst z;rw[r]at mu;exact mu
 have ntup:∀c xs,H c=some (.tup xs)->c≠x:=λc xs r z=>by subst z;rw[r]at mu;exact mu
 by_cases hb:b=x
 ·subst hb;rw[zg]at q;cases q;exact new
 ·rw[zO hb]at q
  by_cases hbe:b=e
  ·have q':H b=some (.own x):=by
    rcases he with z | z
    ·exact absurd (hbe.trans z) hb
    ·rw[hbe];exact z
   rw[q]at q';cases q'
   obtain⟨v,hv⟩:=heo
   exact⟨v,by rw[hbe];exact hv⟩
  ·refine(ok b u q).stay (λc v hc r=>k c v ?_ r) (λc r=>by rw[zO (nown c b r)];exact r) λc xs r=>by rw[zO (ntup c xs r)];exact r
   rcases hc with rfl | hc
   ·exact hbe
   ·rintro rfl
    rcases he with z | z
    ·exact nown c b hc z
    ·rw[hc]at z;cases z;exact hb rfl
end
structure Un (fs ex:List Addr) (H H':Hp) (h h':Heap):Prop where
 keep:∀b o,h.get? b=some o->H b=none->b∉fs->b∉ex->h'.get? b=some o
 slot:∀b o,h.get? b=some o->H b=none->b∈fs->b∉ex->∃sl,h'.get? b=some { o with slots:=sl }
 free:∀b o,h.get? b=some o->H b=none->b∉ex->H' b=none
 there:∀b o,h.get? b=some o->b∉ex->∃o',h'.get? b=some o'
 tups:∀b xs,H b=some (.tup xs)->H' b=some (.tup xs)
 frzs:∀b o u,H b=some (.frz o u)->H' b=some (.frz o u)
 tbls:∀b ps,H b=some (.tbl ps)->∃more,H' b=some (.tbl (ps++more))
section
variable {fs fs' ex ex':List Addr}{H H1 H2:Hp}{h h1 h2 h':Heap}{a x e:Addr}{o:HO}
theorem Un.any (u:Un fs ex H H1 h h1){b:Addr}{ob:Obj}(q:h.get? b=some ob) (n:H b=none) (hx:b∉ex):∃sl,h1.get? b=some { ob with slots:=sl }:=by
 by_cases hb:b∈fs
 ·exact u.slot b ob q n hb hx
 ·exact⟨ob.slots,u.keep b ob q n hb hx⟩
theorem Un.kept (k:∀b u,h.get? b=some u->h'.get? b=some u):Un fs ex H H h h' :=
 ⟨λb ob q _ _ _=>k b ob q,λb ob q _ _ _=>⟨ob.slots,k b ob q⟩,λ_ _ _ n _=>n,λb ob q _=>⟨ob,k b ob q⟩,λ_ _ q=>q,λ_ _ _ q=>q,λ_ ps q=>⟨#[],by rw[q];simp⟩⟩
theorem Un.refl:Un fs ex H H h h:=Un.kept λ_ _ q=>q
theorem Un.laid (k:∀b u,h.get? b=some u->h'.get? b=some u) (hp:h.objs.size<=a) (hn:H a=none):Un fs ex H (upd H a o) h h' where
 keep:=λb u q _ _ _=>k b u q
 slot:=λb u q _ _ _=>⟨u.slots,k b u q⟩
 free:=λb u q n _=>by rw[zO (wS (wT (wB q) hp))];exact n
 there:=λb u q _=>⟨u,k b u q⟩
 tups:=λb xs q=>by rw[zO (zQ q hn)];exact q
 frzs:=λb u xs q=>by rw[zO (zQ q hn)];exact q
 tbls:=λb ps q=>⟨#[],by rw[zO (zQ q hn),q];simp⟩
theorem Un.write (mu:Mut (H x)) (he:e=x\/H e=some (.own x)) (k:∀b u,b≠e->h.get? b=some u->h'.get? b=some u) (heo:∃u,h'.get? e=some u):Un fs ex H (upd H x o) h h':=by
 have hx:∀b,H b=none->b≠x:=λb n z=>by subst z;rw[n]at mu;exact mu
 have hb:∀b,H b=none->b≠e:=λb n z=>by
  subst z
  rcases he with r | r
  ·exact hx b n r
  ·rw[n]at r;cases r
 have hm:∀b u,H b=some u->¬Mut (some u)->b≠x:=λb u q nm z=>by subst z;rw[q]at mu;exact nm mu
 refine⟨λb u q n _ _=>k b u (hb b n) q,λb u q n _ _=>⟨u.slots,k b u (hb b n) q⟩,λb u q n _=>by rw[zO (hx b n)];exact n,λb u q _=>?_,
  λb xs q=>by rw[zO (hm b _ q λz=>z)];exact q,λb u xs q=>by rw[zO (hm b _ q λz=>z)];exact q,λb ps q=>⟨#[],by rw[zO (hm b _ q λz=>z),q];simp⟩⟩
 by_cases hbe:b=e
 ·subst hbe;exact heo
 ·exact⟨u,k b u hbe q⟩
end
def trk (h:Heap) (H:Hp):List Addr:=(List.range h.objs.size).filter λa=>(H a).isSome
def JI (h:Heap) (H:Hp):Heap:=PySem.W.hideAll h (trk h H)
theorem zcU (h:Heap) (H:Hp):(JI h H).objs.size=h.objs.size:=PySem.W.hideAll_size _ _
theorem zec {h:Heap}{H:Hp}{b:Addr}{o:Obj}(e:h.get? b=some o) (n:H b=none):(JI h H).get? b=some o :=
 PySem.W.hideAll_get _ e λhm=>by
  have q:(H b).isSome=true:=(Yl.mp hm).2
  rw[n]at q;simp at q
theorem zgh {h:Heap}{H:Hp}{b:Addr}{o:Obj}(e:(JI h H).get? b=some o):h.get? b=some o/\H b=none:=by
 have e':h.get? b=some o:=PySem.W.of_hideAll (trk h H) e
 refine⟨e',?_⟩
 cases q:H b with
 | none=>rfl
 | some x =>
  have hm:b∈trk h H:=Yl.mpr ⟨WW.mpr (wB e'),by simp[q]⟩
  have z:(JI h H).get? b=none:=PySem.W.hideAll_none (trk h H) hm
  rw[z]at e;cases e
structure Mod (K:Fg) (mg:Str->Option Value) (base:Heap):Prop where
 kin:K.In base
 glob:base.Ns mainGlobals mg
 blt:∃mb,base.Ns builtinsNs mb/\∀x:Str,x≠"__name__"->mb x=bootBuiltins x
 nolimit:base.NoLimit
structure Cx where
 prog:Program
 w:World
 K:Fg
 mg:Str->Option Value
 base:Heap
 A:Around
 N:List Str
 s₀:Shared
 H₀:Hp
 env:Env
 outer:List Env
 stack:List Env
 ex:List Addr
 fn:Str->Bool
 calm:Bool
 pn:List (Addr×Obj)
 xe:Value->Shared->Prop
def frs (l:List Env):List Addr:=l.filterMap (·.frame)
abbrev Cx.fs (X:Cx):List Addr:=frs X.outer
def Vis (sc:Scope) (x:Str):Prop:=sc.names.lookup x=some .local ∨ sc.names.lookup x=some .cell\/sc.names.lookup x=some .free
def Loc (sc:Scope) (x:Str):Prop:=sc.names.lookup x=some .local ∨ sc.names.lookup x=some .cell
def Look (env:Env) (h:Heap) (m:Str->Option Value) (x:Str) (u:Value):Prop :=
 (env.kindOf x=some .local ∧ m x=some u)\/((env.kindOf x=some .cell\/env.kindOf x=some .free)/\∃c,env.cells.lookup x=some c/\h.IsCell c (some u))
structure Cx.Ok (X:Cx):Prop where
 mod:Mod X.K X.mg X.base
 kind:X.env.scope.kind = .function
 glob:X.env.globals=mainGlobals
 blt:X.env.builtins=builtinsNs
 above:X.s₀.heap.objs.size<=X.env.locals
 inj:∀x y c,X.env.cells.lookup x=some c->X.env.cells.lookup y=some c->x=y
 has:∀x,(X.env.kindOf x=some .cell\/X.env.kindOf x=some .free)->∃c,X.env.cells.lookup x=some c
 cab:∀x c,X.fn x=true->X.env.cells.lookup x=some c->X.s₀.heap.objs.size<=c
 hd:X.calm=true->X.A.handled=none
 frames:X.A.frames=some X.stack
 stk:X.stack=X.outer\/(X.stack=X.env::X.outer/\X.env.frame=some X.env.locals)
 exf:∀b∈X.ex,b≠X.env.locals/\∀x c,X.env.cells.lookup x=some c->c≠b
 bs:∀b o,X.base.get? b=some o->X.s₀.heap.get? b=some o/\X.H₀ b=none
 bsz:X.base.objs.size<=X.s₀.heap.objs.size
 noex:∀b o,X.base.get? b=some o->b∉X.ex
 exfs:∀b∈X.ex,b∉X.fs
 funs:X.s₀.heap.FunFrames X.base X.outer
 frf:∀b∈X.fs,X.H₀ b=none
structure Inv (X:Cx) (pz:List (Addr×Obj)) (σ:List (Option V)) (H:Hp) (s:Shared):Prop where
 ok:X.Ok
 os:s.os=X.s₀.os
 bare:AllBare s.gens
 base:Un X.fs X.ex X.H₀ H X.s₀.heap s.heap
 loc:∃m,s.heap.Ns X.env.locals m/\∀(i:Nat) (x:Str) (v:V),X.N[i]? = some x->σ[i]? = some (some v)->Vis X.env.scope x->∃u,xi v u/\Look X.env s.heap m x u
 cell:∀x c,X.env.cells.lookup x=some c->∃v,s.heap.IsCell c v
 free:H X.env.locals=none
 freeC:∀x c,X.env.cells.lookup x=some c->H c=none
 pin:∀p∈X.pn++pz,s.heap.get? p.1=some p.2/\H p.1=none/\p.1≠X.env.locals/\p.1∉X.fs/\∀v,p.2.data≠.cell v
 hok:HOk X.prog X.w H s.heap
 len:σ.length=X.N.length
section
variable {X:Cx}{pz:List (Addr×Obj)}{σ:List (Option V)}{H H':Hp}{s:Shared}{h':Heap}
theorem Cx.Ok.nofr (ok:X.Ok){b:Addr}{o:Obj}(e:X.base.get? b=some o):b∉X.fs:=λhb=>by
 have:=(ok.funs.mem hb).1
 rw[e]at this;cases this
theorem Inv.bs (I:Inv X pz σ H s):∀b o,X.base.get? b=some o->s.heap.get? b=some o/\H b=none:=λb o e =>
 ⟨I.base.keep b o (I.ok.bs b o e).1 (I.ok.bs b o e).2 (I.ok.nofr e) (I.ok.noex b o e),I.base.free b o (I.ok.bs b o e).1 (I.ok.bs b o e).2 (I.ok.noex b o e)⟩
theorem Inv.bk (I:Inv X pz σ H s):∀b o,X.base.get? b=some o->s.heap.get? b=some o:=λb o e=>(I.bs b o e).1
theorem Inv.mod (I:Inv X pz σ H s):Mod X.K X.mg X.base:=I.ok.mod
theorem Inv.kIn (I:Inv X pz σ H s):X.K.In s.heap:=I.ok.mod.kin.keeps I.bk
theorem Inv.lt (I:Inv X pz σ H s):X.env.locals<s.heap.objs.size:=let ⟨_,hn,_⟩:=I.loc;hn.lt
theorem Inv.sz (I:Inv X pz σ H s):X.s₀.heap.objs.size<=s.heap.objs.size:=yH I.ok.above (Yt I.lt)
theorem Inv.nofs (I:Inv X pz σ H s){a:Addr}(h:s.heap.objs.size<=a):a∉X.fs:=λhb=>by
 obtain⟨_,o,ho,_⟩:=I.ok.funs.mem hb
 exact absurd (wT (wB ho) (yH I.sz h)) (uF _)
theorem Inv.cne (I:Inv X pz σ H s):∀x c,X.env.cells.lookup x=some c->c≠X.env.locals:=λx c e z=>by
 obtain⟨v,o,ho,hd⟩:=I.cell x c e
 obtain⟨m,⟨o',es,ep,ho',hd',_⟩,_⟩:=I.loc
 rw[z,ho']at ho;cases ho;rw[hd']at hd;cases hd
theorem Inv.funs (I:Inv X pz σ H s):s.heap.FunFrames X.base X.outer:=by
 have all:∀(l:List Env),(∀b∈frs l,b∈X.fs)->X.s₀.heap.FunFrames X.base l->s.heap.FunFrames X.base l:=by
  intro l
  induction l with
  | nil=>intro _ _;trivial
  | cons env r ih =>
   intro hs hl
   obtain⟨hk,⟨L,o,hf,hn,ho,hd⟩,hr⟩:=hl
   have hL:L∈X.fs:=hs L (by unfold frs;rw[Ym,hf];exact wH)
   obtain⟨sl,e⟩:=I.base.slot L o ho (I.ok.frf L hL) hL λz=>I.ok.exfs L z hL
   exact⟨hk,⟨L,_,hf,hn,e,hd⟩,ih (λb hb=>hs b (by unfold frs;rw[Ym,hf];exact wO _ hb)) hr⟩
 exact all X.outer (λ_ hb=>hb) I.ok.funs
theorem Inv.stack (I:Inv X pz σ H s):s.heap.FunFrames X.base X.stack:=by
 rcases I.ok.stk with e | ⟨e,hf⟩
 ·rw[e];exact I.funs
 ·rw[e]
  obtain⟨m,hn,_⟩:=I.loc
  refine .cons (by rw[I.ok.kind];decide) hf hn ?_ I.funs
  exact Heap.get?_none_of_le (yH I.ok.bsz I.ok.above)
theorem Inv.stkSub (I:Inv X pz σ H s):∀b∈frs X.stack,b∈X.env.locals::X.fs:=λb hb=>by
 rcases I.ok.stk with e | ⟨e,hf⟩
 ·rw[e]at hb;exact wO _ hb
 ·rw[e]at hb
  unfold frs at hb
  rw[Ym,hf]at hb
  exact hb
theorem Inv.stkFree (I:Inv X pz σ H s):∀b∈frs X.stack,H b=none:=λb hb=>by
 rcases wx.mp (I.stkSub b hb)with e | hb
 ·rw[e];exact I.free
 ·obtain⟨_,o,ho,_⟩:=I.ok.funs.mem hb
  exact I.base.free b o ho (I.ok.frf b hb) λz=>I.ok.exfs b z hb
theorem Inv.step {g':Array GenState}{t':Nat}{d':Drawn}{ch:List Addr}(I:Inv X pz σ H s)
  (hch:∀b∈ch,(b∈X.ex\/X.s₀.heap.objs.size<=b)/\b≠X.env.locals/\(∀x c,X.env.cells.lookup x=some c->c≠b)/\∀p∈X.pn++pz,p.1≠b)
  (keep:∀b o,b≠X.env.locals->b∉X.fs->b∉ch->s.heap.get? b=some o->H b=none->h'.get? b=some o)
  (slot:∀b o,b≠X.env.locals->b∈X.fs->b∉ch->s.heap.get? b=some o->H b=none->∃sl,h'.get? b=some { o with slots:=sl }) (free:∀b o,b∉ch->s.heap.get? b=some o->H b=none->H' b=none)
  (there:∀b o,b∉ch->s.heap.get? b=some o->∃o',h'.get? b=some o')
  (tups:∀b xs,H b=some (.tup xs)->H' b=some (.tup xs)) (frzs:∀b o u,H b=some (.frz o u)->H' b=some (.frz o u)) (tbls:∀b ps,H b=some (.tbl ps)->∃more,H' b=some (.tbl (ps++more)))
  (ns:∀m,s.heap.Ns X.env.locals m->h'.Ns X.env.locals m) (hok:HOk X.prog X.w H' h') (hg:AllBare g') :
  Inv X pz σ H' { s with heap:=h',gens:=g',drawn:=d',toks:=t' }:=by
 have neL:∀b o,X.s₀.heap.get? b=some o->b≠X.env.locals:=λb o e=>wS (wT (wB e) I.ok.above)
 have neC:∀b o,X.s₀.heap.get? b=some o->b∉X.ex->b∉ch:=λb o e hx hb=>by
  rcases(hch b hb).1 with z | z
  ·exact hx z
  ·exact absurd (wT (wB e) z) (uF _)
 have cellK:∀x c,X.env.cells.lookup x=some c->∀v,s.heap.IsCell c v->h'.IsCell c v:=λx c e v ⟨o,ho,hd⟩=>by
  have nch:c∉ch:=λz=>(hch c z).2.2.1 x c e rfl
  by_cases hc:c∈X.fs
  ·obtain⟨sl,q⟩:=slot c o (I.cne x c e) hc nch ho (I.freeC x c e)
   exact⟨_,q,hd⟩
  ·exact⟨o,keep c o (I.cne x c e) hc nch ho (I.freeC x c e),hd⟩
 refine⟨I.ok,I.os,hg,⟨λb o e n hb hx=>?_,λb o e n hb hx=>?_,λb o e n hx=>?_,λb o e hx=>?_,λb xs e=>tups b xs (I.base.tups b xs e),λb o xs e=>frzs b o xs (I.base.frzs b o xs e),λb ps e=>?_⟩,?_,λx c e=>?_,?_,λx c e=>?_,λp hp=>?_,hok,I.len⟩
 ·exact keep b o (neL b o e) hb (neC b o e hx) (I.base.keep b o e n hb hx) (I.base.free b o e n hx)
 ·obtain⟨sl,e1⟩:=I.base.slot b o e n hb hx
  obtain⟨sl',e2⟩:=slot b _ (neL b o e) hb (neC b o e hx) e1 (I.base.free b o e n hx)
  exact⟨sl',e2⟩
 ·obtain⟨o',e1⟩:=I.base.there b o e hx
  exact free b o' (neC b o e hx) e1 (I.base.free b o e n hx)
 ·obtain⟨o',e1⟩:=I.base.there b o e hx
  exact there b o' (neC b o e hx) e1
 ·obtain⟨m1,e1⟩:=I.base.tbls b ps e
  obtain⟨m2,e2⟩:=tbls b _ e1
  exact⟨m1++m2,by rw[e2,WG]⟩
 ·obtain⟨m,hn,hl⟩:=I.loc
  refine⟨m,ns m hn,λi x v e1 e2 e3=>?_⟩
  obtain⟨u,r,l⟩:=hl i x v e1 e2 e3
  refine⟨u,r,?_⟩
  rcases l with l | ⟨k,c,e,z⟩
  ·exact .inl l
  ·exact .inr ⟨k,c,e,cellK x c e _ z⟩
 ·obtain⟨v,z⟩:=I.cell x c e
  exact⟨v,cellK x c e v z⟩
 ·obtain⟨m,⟨o,_,_,ho,_⟩,_⟩:=I.loc
  exact free _ o (λz=>(hch _ z).2.1 rL) ho I.free
 ·obtain⟨v,o,ho,hd⟩:=I.cell x c e
  exact free c o (λz=>(hch c z).2.2.1 x c e rL) ho (I.freeC x c e)
 ·obtain⟨e,n,ne,nf,d⟩:=I.pin p hp
  have nch:p.1∉ch:=λz=>(hch p.1 z).2.2.2 p hp rfl
  exact⟨keep p.1 p.2 ne nf nch e n,free p.1 p.2 nch e n,ne,nf,d⟩
theorem Inv.un {t':Nat}(I:Inv X pz σ H s) (u:Un X.fs [] H H' s.heap h') (hok:HOk X.prog X.w H' h'):Inv X pz σ H' { s with heap:=h',toks:=t' }:=by
 obtain⟨m,⟨o,es,ep,ho,r⟩,_⟩:=id I.loc
 obtain⟨sl,hL⟩:=u.any ho I.free (by simp)
 exact I.step (g':=s.gens) (d':=s.drawn) (ch:=[]) (λ_ z=>nomatch z) (λb o _ hb _ e n=>u.keep b o e n hb (by simp)) (λb o _ hb _ e n=>u.slot b o e n hb (by simp)) (λb o _ e n=>u.free b o e n (by simp)) (λb o _ e=>u.there b o e (by simp)) u.tups u.frzs u.tbls (λm' hm=>by
  obtain⟨o',es',ep',ho',r'⟩:=hm
  rw[ho]at ho';cases ho'
  exact⟨_,es',ep',hL,r'⟩) hok I.bare
theorem Inv.call {g':Array GenState}{t':Nat}{d':Drawn}{ch:List Addr}(I:Inv X pz σ H s) (u:Un (frs X.stack) ch H H' s.heap h') (hok:HOk X.prog X.w H' h') (hg:AllBare g')
  (hch:∀b∈ch,(b∈X.ex\/X.s₀.heap.objs.size<=b)/\b≠X.env.locals/\(∀x c,X.env.cells.lookup x=some c->c≠b)/\∀p∈X.pn++pz,p.1≠b) :
  Inv X pz σ H' { s with heap:=h',gens:=g',drawn:=d',toks:=t' }:=by
 obtain⟨m,⟨o,es,ep,ho,r⟩,_⟩:=id I.loc
 obtain⟨sl,hL⟩:=u.any ho I.free λz=>(hch _ z).2.1 rfl
 exact I.step (ch:=ch) hch (λb o hL hb hc e n=>u.keep b o e n (λz=>(wx.mp (I.stkSub b z)).elim hL hb) hc) (λb o _ _ hc e n=>u.any e n hc) (λb o hc e n=>u.free b o e n hc) (λb o hc e=>u.there b o e hc) u.tups u.frzs u.tbls (λm' hm=>by
  obtain⟨o',es',ep',ho',r'⟩:=hm
  rw[ho]at ho';cases ho'
  exact⟨_,es',ep',hL,r'⟩) hok hg
theorem Inv.turned {t':Nat}{it:Addr}(I:Inv X pz σ H s) (k:∀b o,b≠it->s.heap.get? b=some o->h'.get? b=some o) (hn:H it=none) (hL:it≠X.env.locals)
  (h1:it∈X.ex\/X.s₀.heap.objs.size<=it) (h2:∀x c,X.env.cells.lookup x=some c->c≠it) (h3:∀p∈X.pn++pz,p.1≠it):Inv X pz σ H { s with heap:=h',toks:=t' }:=by
 have nit:∀b u,H b=some u->b≠it:=λb u e z=>by rw[z,hn]at e;cases e
 refine I.step (g':=s.gens) (d':=s.drawn) (ch:=[it]) (λb hb=>?_) (λb o _ _ hc e _=>k b o (λz=>hc (by simp[z])) e) (λb o _ _ hc e _=>⟨o.slots,k b o (λz=>hc (by simp[z])) e⟩) (λ_ _ _ _ n=>n)
  (λb o hc e=>⟨o,k b o (λz=>hc (by simp[z])) e⟩) (λ_ _ e=>e) (λ_ _ _ e=>e) (λb ps e=>⟨#[],by rw[e];simp⟩) (λm hm=>?_) (λb u e=>?_) I.bare
 ·have e:b=it:=by simpa using hb
  subst e
  exact⟨h1,hL,h2,h3⟩
 ·obtain⟨o,es,ep,ho,r⟩:=hm
  exact⟨o,es,ep,k _ o (Ne.symm hL) ho,r⟩
 ·refine(I.hok b u e).stay (λc v hc q=>k c v ?_ q) (λ_ q=>q) λ_ _ q=>q
  rcases hc with z | z
  ·rw[z];exact nit b u e
  ·exact nit c _ z
theorem Inv.tok (I:Inv X pz σ H s) (t:Nat):Inv X pz σ H { s with toks:=t }:=I.un (h':=s.heap) (t':=t) Un.refl I.hok
theorem Inv.kept {t':Nat}(I:Inv X pz σ H s) (k:∀b u,s.heap.get? b=some u->h'.get? b=some u):Inv X pz σ H { s with heap:=h',toks:=t' }:=I.un (Un.kept k) (I.hok.kept k)
theorem Inv.laid {a:Addr}{o:HO}{t':Nat}(I:Inv X pz σ H s) (k:∀b u,s.heap.get? b=some u->h'.get? b=some u) (hp:s.heap.objs.size<=a) (new:xE X.prog X.w (upd H a o) h' a o) :
  Inv X pz σ (upd H a o) { s with heap:=h',toks:=t' }:=I.un (Un.laid k hp (I.hok.fresh hp)) (I.hok.laid k hp new)
theorem Inv.write {x e:Addr}{o:HO}{t':Nat}(I:Inv X pz σ H s) (mu:Mut (H x)) (he:e=x\/H e=some (.own x)) (k:∀b u,b≠e->s.heap.get? b=some u->h'.get? b=some u) (heo:∃u,h'.get? e=some u)
  (new:xE X.prog X.w (upd H x o) h' x o):Inv X pz σ (upd H x o) { s with heap:=h',toks:=t' }:=I.un (Un.write mu he k heo) (I.hok.write mu he k heo new)
theorem Inv.pins_of {pz':List (Addr×Obj)} (I:Inv X pz σ H s) (h:∀p∈pz',s.heap.get? p.1=some p.2/\H p.1=none/\p.1≠X.env.locals/\p.1∉X.fs/\∀v,p.2.data≠.cell v):Inv X pz' σ H s :=
 ⟨I.ok,I.os,I.bare,I.base,I.loc,I.cell,I.free,I.freeC,λp hp=>(wQ.mp hp).elim (λz=>I.pin p (yP _ z)) (h p),I.hok,I.len⟩
theorem Vo {N:List Str}(hN:N.Nodup){i j:Nat}{x:Str}(a:N[i]? = some x) (b:N[j]? = some x):i=j:=by
 obtain⟨h1,e1⟩:=wP.mp a
 obtain⟨h2,e2⟩:=wP.mp b
 exact(List.getElem_inj hN).mp (e1.trans e2.symm)
theorem Jo {M:Model}{A:Around}{E:Value->Shared->Prop}{i:Nat}{x:Str}{v:V}{u:Value}{Q:Unit->Shared->Prop}(I:Inv X pz σ H s) (hN:X.N.Nodup) (hi:X.N[i]? = some x) (hx:Loc X.env.scope x) (r:xi v u)
  (h:∀s',Inv X pz (σ.set i (some v)) H s'->(∃a,Heap.SameBut a s.heap s'.heap/\(a=X.env.locals\/X.env.cells.lookup x=some a))->Q () s') (hf:X.fn x=true\/X.env.scope.names.lookup x=some .local := by first | exact .inl rfl | exact .inr rfl | assumption):wpAny M A (storeName X.env x u) Q E s:=by
 obtain⟨m,hn,hl⟩:=id I.loc
 have hcls:(X.env.scope.kind == .class || (X.env.scope.kind == .module&&X.env.locals != X.env.globals))=false:=by rw[I.ok.kind];rfl
 have hiσ:i<σ.length:=by rw[I.len];exact(wP.mp hi).1
 have cne:=I.cne
 have tracked:∀{a:Addr}{h':Heap},(∃o,s.heap.get? a=some o/\H a=none)->Heap.SameBut a s.heap h'->HOk X.prog X.w H h':=λ{a h'} ha hs b ob e=>by
  obtain⟨_,_,hfree⟩:=ha
  refine(I.hok b ob e).stay (λc w' hc q=>(hs.2 c ?_).trans q) (λ_ q=>q) λ_ _ q=>q
  rintro rfl
  rcases hc with rfl | hc
  ·rw[hfree]at e;cases e
  ·rw[hfree]at hc;cases hc
 rcases hx with hk | hk
 ·refine wpAny_storeName_local hk hn (λh' hn' hs=>?_) hcls
  obtain⟨oL,_,_,hoL,_⟩:=id hn
  refine h _ ⟨I.ok,I.os,I.bare,⟨λb o e n hb hx=>?_,λb o e n hb hx=>?_,I.base.free,λb o e hx=>?_,I.base.tups,I.base.frzs,I.base.tbls⟩,⟨_,hn',λj y v' e1 e2 e3=>?_⟩,λy c e=>?_,I.free,I.freeC,λp hp=>?_,tracked ⟨oL,hoL,I.free⟩ hs,by simpa using I.len⟩ ⟨_,hs,.inl rfl⟩
  ·exact(hs.2 b (wS (wT (wB e) I.ok.above))).trans (I.base.keep b o e n hb hx)
  ·obtain⟨sl,e1⟩:=I.base.slot b o e n hb hx
   exact⟨sl,(hs.2 b (wS (wT (wB e) I.ok.above))).trans e1⟩
  ·obtain⟨o',e1⟩:=I.base.there b o e hx
   exact⟨o',(hs.2 b (wS (wT (wB e) I.ok.above))).trans e1⟩
  ·by_cases hj:j=i
   ·subst hj
    rw[hi]at e1;cases e1
    rw[WS hiσ]at e2
    cases e2
    exact⟨u,r,.inl ⟨hk,by simp⟩⟩
   ·rw[Yf (Ne.symm hj)]at e2
    obtain⟨u',r',q⟩:=hl j y v' e1 e2 e3
    refine⟨u',r',?_⟩
    rcases q with⟨k,e⟩ | ⟨k,c,e,z⟩
    ·refine .inl ⟨k,?_⟩
     have:y≠x:=λe=>hj (Vo hN e1 (e ▸ hi))
     simp[this,e]
    ·exact .inr ⟨k,c,e,z.sameBut hs (cne y c e)⟩
  ·obtain⟨w',z⟩:=I.cell y c e
   exact⟨w',z.sameBut hs (cne y c e)⟩
  ·obtain⟨e,n,ne,nf,d⟩:=I.pin p hp
   exact⟨(hs.2 p.1 ne).trans e,n,ne,nf,d⟩
 ·have hfn:X.fn x=true:=by
   rcases hf with z | z
   ·exact z
   ·rw[z]at hk;cases hk
  obtain⟨c,hc⟩:=I.ok.has x (.inl hk)
  obtain⟨w',z⟩:=I.cell x c hc
  refine wpAny_storeName_cell I.ok.kind hk hc z (λh' hc' hs=>?_)
  obtain⟨oc,hoc,hocd⟩:=id z
  refine h { s with heap:=h' } ⟨I.ok,I.os,I.bare,⟨λb o e n hb hx=>?_,λb o e n hb hx=>?_,I.base.free,λb o e hx=>?_,I.base.tups,I.base.frzs,I.base.tbls⟩,⟨m,hn.sameBut hs (Ne.symm (cne x c hc)),λj y v' e1 e2 e3=>?_⟩,λy c' e=>?_,I.free,I.freeC,λp hp=>?_,tracked ⟨oc,hoc,I.freeC x c hc⟩ hs,by simpa using I.len⟩ ⟨c,hs,.inr hc⟩
  ·exact(hs.2 b (wS (wT (wB e) (I.ok.cab x c hfn hc)))).trans (I.base.keep b o e n hb hx)
  ·obtain⟨sl,e1⟩:=I.base.slot b o e n hb hx
   exact⟨sl,(hs.2 b (wS (wT (wB e) (I.ok.cab x c hfn hc)))).trans e1⟩
  ·obtain⟨o',e1⟩:=I.base.there b o e hx
   exact⟨o',(hs.2 b (wS (wT (wB e) (I.ok.cab x c hfn hc)))).trans e1⟩
  ·by_cases hj:j=i
   ·subst hj
    rw[hi]at e1;cases e1
    rw[WS hiσ]at e2
    cases e2
    exact⟨u,r,.inr ⟨.inl hk,c,hc,hc'⟩⟩
   ·rw[Yf (Ne.symm hj)]at e2
    obtain⟨u',r',q⟩:=hl j y v' e1 e2 e3
    refine⟨u',r',?_⟩
    rcases q with q | ⟨k,c',e,z'⟩
    ·exact .inl q
    ·refine .inr ⟨k,c',e,z'.sameBut hs ?_⟩
     rintro rfl
     exact hj (Vo hN e1 (I.ok.inj _ _ _ e hc ▸ hi))
  ·by_cases hcc:c'=c
   ·subst hcc;exact⟨_,hc'⟩
   ·obtain⟨w2,z2⟩:=I.cell y c' e
    exact⟨w2,z2.sameBut hs hcc⟩
  ·obtain⟨e,n,ne,nf,d⟩:=I.pin p hp
   refine⟨(hs.2 p.1 ?_).trans e,n,ne,nf,d⟩
   intro q
   rw[q,hoc]at e
   have q':oc=p.2:=Option.some.inj e
   exact d w' (by rw[<-q'];exact hocd)
theorem Ze {M:Model}{A:Around}{E:Value->Shared->Prop}{i:Nat}{x:Str}{v:V}{u:Value}{Q:Unit->Shared->Prop}(I:Inv X pz σ H s) (hN:X.N.Nodup) (hi:X.N[i]? = some x) (hx:Loc X.env.scope x) (r:xi v u)
  (h:∀s',Inv X pz (σ.set i (some v)) H s'->Q () s') (hf:X.fn x=true\/X.env.scope.names.lookup x=some .local := by first | exact .inl rfl | exact .inr rfl | assumption):wpAny M A (storeName X.env x u) Q E s :=
 Jo I hN hi hx r (λs' I' _=>h s' I') hf
theorem Inv.call' {s':Shared}{ch:List Addr}(I:Inv X pz σ H s) (ho:s'.os=s.os) (u:Un (frs X.stack) ch H H' s.heap s'.heap) (hok:HOk X.prog X.w H' s'.heap) (hg:AllBare s'.gens)
  (hch:∀b∈ch,(b∈X.ex\/X.s₀.heap.objs.size<=b)/\b≠X.env.locals/\(∀x c,X.env.cells.lookup x=some c->c≠b)/\∀p∈X.pn++pz,p.1≠b):Inv X pz σ H' s':=by
 obtain⟨h',g',d',t',o'⟩:=s'
 have e:o'=s.os:=ho
 subst e
 exact I.call (g':=g') (t':=t') (d':=d') u hok hg hch
end
abbrev XK:=Value->Option Addr->Hp->Prop
abbrev St:=List (Option V)
abbrev Sr (a:Addr):Option V:=some (.ref a)
abbrev Si (i:Int):Option V:=some (.int i)
abbrev VK:=V->Hp->Prop
abbrev TE:=St->Hp->VK->Prop
abbrev TT:=St->Hp->(Bool->Hp->Prop)->Prop
abbrev TA:=St->Hp->(List V->Hp->Prop)->Prop
structure Zf where
 nx:St->Hp->Prop
 rt:VK
 bk:St->Hp->Prop:=λ_ _=>False
 ct:St->Hp->Prop:=λ_ _=>False
abbrev TS:=Zf->St->Hp->Prop
def EP (X:Cx) (pz:List (Addr×Obj)) (σ:St) (Q:VK) (u:Value) (s':Shared):Prop:=∃v H',Inv X pz σ H' s'/\xi v u/\Q v H'
def TP (X:Cx) (pz:List (Addr×Obj)) (σ:St) (Q:Bool->Hp->Prop) (b:Bool) (s':Shared):Prop:=∃H',Inv X pz σ H' s'/\Q b H'
def AP (X:Cx) (pz:List (Addr×Obj)) (σ:St) (Q:List V->Hp->Prop) (us:List Value) (s':Shared):Prop:=∃vs H',Inv X pz σ H' s'/\xa vs us/\Q vs H'
def SP (X:Cx) (pz:List (Addr×Obj)) (D:Zf) (f:Flow) (s':Shared):Prop :=
 match f with
 | .next=>∃σ' H',Inv X pz σ' H' s'/\D.nx σ' H'
 | .brk=>∃σ' H',Inv X pz σ' H' s'/\D.bk σ' H'
 | .cont=>∃σ' H',Inv X pz σ' H' s'/\D.ct σ' H'
 | .ret u=>∃v σ' H',Inv X pz σ' H' s'/\xi v u/\D.rt v H'
def PE (X:Cx) (e:Expr) (t:TE):Prop :=
 ∀(pz:List (Addr×Obj)) (s:Shared) (σ:St) (H:Hp) (Q:VK),Inv X pz σ H s->t σ H Q->wpAny (model X.prog X.w) X.A (eval e X.env) (EP X pz σ Q) X.xe s
def PT (X:Cx) (e:Expr) (t:TT):Prop :=
 ∀(pz:List (Addr×Obj)) (s:Shared) (σ:St) (H:Hp) (Q:Bool->Hp->Prop),Inv X pz σ H s->t σ H Q->wpAny (model X.prog X.w) X.A (isTrue e X.env (eval e X.env)) (TP X pz σ Q) X.xe s
def PW (X:Cx) (e:Expr) (t:TT):Prop :=
 ∀(whole:Sem Value) (pz:List (Addr×Obj)) (s:Shared) (σ:St) (H:Hp) (Q:Bool->Hp->Prop),Inv X pz σ H s->t σ H Q->wpAny (model X.prog X.w) X.A (isTrue e X.env whole) (TP X pz σ Q) X.xe s
theorem PW.pt {X:Cx}{e:Expr}{t:TT}(h:PW X e t):PT X e t:=h _
def PA (X:Cx) (es:List Expr) (t:TA):Prop :=
 ∀(pos:Pos) (pz:List (Addr×Obj)) (s:Shared) (σ:St) (H:Hp) (Q:List V->Hp->Prop),Inv X pz σ H s->t σ H Q->wpAny (model X.prog X.w) X.A (spliced (backTo pos (starEach es X.env))) (AP X pz σ Q) X.xe s
def PS (X:Cx) (st:Stmt) (t:TS):Prop :=
 ∀(pz:List (Addr×Obj)) (s:Shared) (σ:St) (H:Hp) (D:Zf),Inv X pz σ H s->t D σ H->wpAny (model X.prog X.w) X.A (exec st X.env) (SP X pz D) X.xe s
def PSs (X:Cx) (st:List Stmt) (t:TS):Prop :=
 ∀(pz:List (Addr×Obj)) (s:Shared) (σ:St) (H:Hp) (D:Zf),Inv X pz σ H s->t D σ H->wpAny (model X.prog X.w) X.A (execs st X.env) (SP X pz D) X.xe s
theorem thn {α:Type}{t:Sem α}{Q Q':α->Shared->Prop}{M:Model}{A:Around}{E:Value->Shared->Prop}{s:Shared}(h:wpAny M A t Q E s) (hQ:∀a s,Q a s->Q' a s):wpAny M A t Q' E s:=yZ h hQ λ_ _ x=>x
section
variable {X:Cx}
inductive zhH (i:Nat) (σ:St) (H:Hp) (Q:VK):Prop
 | mk:∀v,(σ[i]? = some (some v))->(Q v H)->zhH i σ H Q
def xy (i:Nat):TE:=λσ H Q=>zhH i σ H Q
def tC (v:V):TE:=λ_ H Q=>Q v H
theorem ziO {i:Nat}{x:Str}{pos:Pos}(hN:X.N[i]? = some x) (hv:Vis X.env.scope x) (hd:(x == ("__debug__":Str))=false:=by decide) (hcd:(x == ("__classdict__":Str))=false:=by decide):PE X (.Name x pos) (xy i):=by
 intro pz s σ H Q I h
 obtain⟨v,e,h⟩:=h
 obtain⟨m,hn,hl⟩:=I.loc
 obtain⟨u,r,l⟩:=hl i x v hN e hv
 have fin:EP X pz σ Q u s:=⟨v,H,I,r,h⟩
 rcases l with⟨hk,hm⟩ | ⟨hk,c,hc,hcell⟩
 ·exact wpAny_Name (wpAny_loadName_local I.ok.kind hk hn hm fin) hd
 ·rcases hk with hk | hk
  ·exact wpAny_Name (wpAny_loadName_cell I.ok.kind hk hc hcell fin) hd
  ·exact wpAny_Name (wpAny_loadName_free I.ok.kind hk hc hcell fin hcd) hd
theorem zh {i j pos}:PE X (.Constant (.int i) j pos) (tC (.int i)):=λ_ _ _ H _ I h=>wpAny_Constant_int ⟨.int i,H,I.tok _,⟨_,rfl⟩,h⟩
theorem Zc {b j pos}:PE X (.Constant (.bool b) j pos) (tC (.bl b)):=λ_ _ _ H _ I h=>Constant_bool ⟨.bl b,H,I,rfl,h⟩
theorem xf {j pos}:PE X (.Constant .none j pos) (tC .non):=λ_ _ _ H _ I h=>Constant_none ⟨.non,H,I,rfl,h⟩
theorem xG {x j pos}:PE X (.Constant (.str x) j pos) (tC (.str x)):=λ_ _ _ H _ I h=>Calls.Constant_str ⟨.str x,H,I.tok _,⟨_,rfl⟩,h⟩
def Gl (X:Cx) (x:Str):Prop:=X.env.kindOf x=some .globalImplicit
theorem Z4 {E:Value->Shared->Prop}{pz:List (Addr×Obj)}{s:Shared}{σ:St}{H:Hp}{x:Str}{u:Value}{pos:Pos}{Q:Value->Shared->Prop}(I:Inv X pz σ H s) (hg:Gl X x) (hm:X.mg x=some u) (h:Q u s)
  (hd:(x == ("__debug__":Str))=false:=by decide):wpAny (model X.prog X.w) X.A (eval (.Name x pos) X.env) Q E s :=
 Calls.Name_function_global I.ok.kind hg (Calls.loadGlobal_global (by rw[I.ok.glob];exact I.mod.glob.keeps I.bk) hm h) hd
theorem Zi {E:Value->Shared->Prop}{pz:List (Addr×Obj)}{s:Shared}{σ:St}{H:Hp}{x:Str}{u:Value}{pos:Pos}{Q:Value->Shared->Prop}(I:Inv X pz σ H s) (hg:Gl X x) (hm:X.mg x=none) (hv:bootBuiltins x=some u) (h:Q u s)
  (hn:x≠"__name__":=by decide) (hd:(x == ("__debug__":Str))=false:=by decide):wpAny (model X.prog X.w) X.A (eval (.Name x pos) X.env) Q E s:=by
 obtain⟨mb,h1,h2⟩:=I.mod.blt
 exact Calls.Name_function_global I.ok.kind hg (Calls.loadGlobal_builtin (by rw[I.ok.glob];exact I.mod.glob.keeps I.bk) hm (by rw[I.ok.blt];exact h1.keeps I.bk) ((h2 x hn).trans hv) h) hd
theorem qa {x:Str}{v:V}{u:Value}{pos:Pos}(hg:Gl X x) (hm:X.mg x=some u) (r:xi v u) (hd:(x == ("__debug__":Str))=false:=by decide):PE X (.Name x pos) (tC v) :=
 λ_ _ _ H _ I h=>Z4 I hg hm ⟨v,H,I,r,h⟩ hd
theorem X9 {x:Str}{v:V}{u:Value}{pos:Pos}(hg:Gl X x) (hm:X.mg x=none) (hv:bootBuiltins x=some u) (r:xi v u) (hn:x≠"__name__":=by decide) (hd:(x == ("__debug__":Str))=false:=by decide):PE X (.Name x pos) (tC v) :=
 λ_ _ _ H _ I h=>Zi I hg hm hv ⟨v,H,I,r,h⟩ hn hd
variable {a b:Expr}{ta tb:TE}{pos:Pos}
variable {tA tB':TT}{rest:List Expr}
def tAnd (t u:TT):TT:=λσ H Q=>t σ H λc H1=>if c=true then u σ H1 Q else Q false H1
def tOr (t u:TT):TT:=λσ H Q=>t σ H λc H1=>if c=true then Q true H1 else u σ H1 Q
def tNot (t:TT):TT:=λσ H Q=>t σ H λc H1=>Q (!c) H1
theorem vd (ha:PT X a tA):PW X (.BoolOp .And [a] pos) tA:=by
 intro wh pz s σ H Q I h
 refine isTrue_and (thn (ha pz s σ H Q I h) λc s1 e=>?_)
 cases c with
 | true=>exact isTrue_and_nil e
 | false=>exact e
theorem ZK (ha:PT X a tA):PW X (.BoolOp .Or [a] pos) tA:=by
 intro wh pz s σ H Q I h
 refine isTrue_or (thn (ha pz s σ H Q I h) λc s1 e=>?_)
 cases c with
 | false=>exact isTrue_or_nil e
 | true=>exact e
theorem vV (ha:PT X a tA) (hb:PW X (.BoolOp .And (b::rest) pos) tB'):PW X (.BoolOp .And (a::b::rest) pos) (tAnd tA tB'):=by
 intro wh pz s σ H Q I h
 refine isTrue_and (thn (ha pz s σ H _ I h) λc s1 ⟨H1,I1,q1⟩=>?_)
 cases c with
 | true=>exact hb wh pz s1 σ H1 Q I1 q1
 | false=>exact⟨H1,I1,q1⟩
theorem Xh (ha:PT X a tA) (hb:PW X (.BoolOp .Or (b::rest) pos) tB'):PW X (.BoolOp .Or (a::b::rest) pos) (tOr tA tB'):=by
 intro wh pz s σ H Q I h
 refine isTrue_or (thn (ha pz s σ H _ I h) λc s1 ⟨H1,I1,q1⟩=>?_)
 cases c with
 | true=>exact⟨H1,I1,q1⟩
 | false=>exact hb wh pz s1 σ H1 Q I1 q1
theorem vn (ha:PT X a tA):PT X (.UnaryOp .Not a pos) (tNot tA):=by
 intro pz s σ H Q I h
 exact isTrue_not (ha pz s σ H (λc H1=>Q (!c) H1) I h)
inductive zfu (tb:TE) (σ:St) (Q:VK) (x:V) (H1:Hp):Prop
 | mk:∀c,(x = .bl c)->(if c=true then tb σ H1 Q else Q (.bl false) H1)->zfu tb σ Q x H1
def zkx (ta tb:TE):TE:=λσ H Q=>ta σ H λx H1=>zfu tb σ Q x H1
inductive zhF (tb:TE) (σ:St) (Q:VK) (x:V) (H1:Hp):Prop
 | mk:∀c,(x = .bl c)->(if c=true then Q (.bl true) H1 else tb σ H1 Q)->zhF tb σ Q x H1
def zjp (ta tb:TE):TE:=λσ H Q=>ta σ H λx H1=>zhF tb σ Q x H1
inductive zfy (Q:VK) (x:V) (H1:Hp):Prop
 | mk:∀c,(x = .bl c)->(Q (.bl (!c)) H1)->zfy Q x H1
def zkC (ta:TE):TE:=λσ H Q=>ta σ H λx H1=>zfy Q x H1
theorem vT {op}{t:TE}(h:PE X a t):PE X (.BoolOp op [a] pos) t:=λpz s σ H Q I hw=>BoolOp_one (h pz s σ H Q I hw)
theorem qJ (ha:PE X a ta) (hb:PE X (.BoolOp .And (b::rest) pos) tb):PE X (.BoolOp .And (a::b::rest) pos) (zkx ta tb):=by
 intro pz s σ H Q I h
 refine BoolOp_and (thn (ha pz s σ H _ I h) λv s1 ⟨x,H1,I1,r1,q1⟩=>?_)
 obtain⟨c,rfl,q1⟩:=q1
 cases r1
 refine uy ?_
 cases c with
 | true=>exact hb pz s1 σ H1 Q I1 q1
 | false=>exact⟨.bl false,H1,I1,rfl,q1⟩
theorem zke (ha:PE X a ta) (hb:PE X (.BoolOp .Or (b::rest) pos) tb):PE X (.BoolOp .Or (a::b::rest) pos) (zjp ta tb):=by
 intro pz s σ H Q I h
 refine BoolOp_or (thn (ha pz s σ H _ I h) λv s1 ⟨x,H1,I1,r1,q1⟩=>?_)
 obtain⟨c,rfl,q1⟩:=q1
 cases r1
 refine uy ?_
 cases c with
 | false=>exact hb pz s1 σ H1 Q I1 q1
 | true=>exact⟨.bl true,H1,I1,rfl,q1⟩
theorem ziN (ha:PE X a ta):PE X (.UnaryOp .Not a pos) (zkC ta):=by
 intro pz s σ H Q I h
 refine UnaryOp_ (thn (ha pz s σ H _ I h) λv s1 ⟨x,H1,I1,r1,q1⟩=>?_)
 obtain⟨c,rfl,q1⟩:=q1
 cases r1
 exact not_of (uy ⟨.bl (!c),H1,I1,rL,q1⟩)
def tIf (t:TT) (ta tb:TE):TE:=λσ H Q=>t σ H λc H1=>if c=true then ta σ H1 Q else tb σ H1 Q
theorem Qa {c:Expr}(hc:PT X c tA) (ha:PE X a ta) (hb:PE X b tb):PE X (.IfExp c a b pos) (tIf tA ta tb):=by
 intro pz s σ H Q I h
 refine wpAny_IfExp (thn (hc pz s σ H _ I h) λd s1 ⟨H1,I1,q1⟩=>?_)
 cases d with
 | true=>exact ha pz s1 σ H1 Q I1 q1
 | false=>exact hb pz s1 σ H1 Q I1 q1
end
def SqL (K:Fg) (H:Hp) (a:Addr) (xs:List V):Prop :=
 Rd H a (.lst xs) ∨
  ∃(o:Obj) (its:Array Value) (n:Nat),K.lookup a=some o/\o.cls = .type "list"/\o.dict=none/\o.data = .seq its n/\its.size<=sizeLine/\xa xs its.toList
def SqT (K:Fg) (H:Hp) (a:Addr) (xs:List V):Prop :=
 Rd H a (.tup xs) ∨
  ∃(o:Obj) (its:Array Value) (n:Nat),K.lookup a=some o/\o.cls = .type "tuple"/\o.data = .seq its n/\its.size<=sizeLine/\xa xs its.toList
def absV:Value->Option V
 | .none=>some .non
 | .bool b=>some (.bl b)
 | .int i _=>some (.int i)
 | .str x _=>some (.str x)
 | .bytes b _=>some (.byt b)
 | .float b _=>some (.flt b)
 | .ref a=>some (.ref a)
 | .type n=>some (.ty n)
 | _=>none
theorem xi.abs {x:V}{u:Value}(r:xi x u):absV u=some x:=by
 cases x with
 | non=>cases r;rfl
 | bl _=>cases r;rfl
 | int _=>obtain⟨t,rfl⟩:=r;rfl
 | str _=>obtain⟨t,rfl⟩:=r;rfl
 | byt _=>obtain⟨t,rfl⟩:=r;rfl
 | flt _=>obtain⟨t,rfl⟩:=r;rfl
 | ref _=>cases r;rfl
 | ty _=>cases r;rfl
theorem xi.inj {x y:V}{u:Value}(r:xi x u) (q:xi y u):x=y:=Option.some.inj (r.abs.symm.trans q.abs)
theorem xa.inj:∀{xs ys:List V}{us:List Value},xa xs us->xa ys us->xs=ys
 | _,_,_,.nil,.nil=>rfl
 | _,_,_,.cons r t,.cons r' t'=>by rw[r.inj r',xa.inj t t']
section
variable {X:Cx}{pz:List (Addr×Obj)}{σ:St}{H:Hp}{s:Shared}{a:Addr}{xs ys:List V}
theorem SqL.of {K:Fg}(h:H a=some (.lst xs)):SqL K H a xs:=.inl (.inl h)
theorem SqT.of {K:Fg}(h:H a=some (.tup xs)):SqT K H a xs:=.inl (.inl h)
theorem Inv.list (I:Inv X pz σ H s) (h:SqL X.K H a xs):∃its:List Value,xa xs its/\PlainL s.heap a its.toArray/\xs.length<=sizeLine:=by
 rcases h with h | ⟨o,its,n,hk,hc,hd,hs,hz,r⟩
 ·obtain⟨z,its,n,r,e⟩:=h.ok I.hok
  exact⟨its,r,⟨_,n,e,rL,rL,rL⟩,z⟩
 ·refine⟨its.toList,r,⟨o,n,I.kIn a o hk,hc,hd,by simpa using hs⟩,?_⟩
  have e:=r.length
  simp only[wJ]at e
  lia
theorem Inv.tuple (I:Inv X pz σ H s) (h:SqT X.K H a xs):∃its:List Value,xa xs its/\IsTup s.heap a its.toArray/\xs.length<=sizeLine:=by
 rcases h with h | ⟨o,its,n,hk,hc,hs,hz,r⟩
 ·obtain⟨z,its,r,p⟩:=h.ok I.hok
  exact⟨its,r,p,z⟩
 ·refine⟨its.toList,r,⟨o,I.kIn a o hk,hc,n,by simpa using hs⟩,?_⟩
  have e:=r.length
  simp only[wJ]at e
  lia
theorem Inv.list_inj (I:Inv X pz σ H s) (h:SqL X.K H a xs) (h':SqL X.K H a ys):xs=ys:=by
 obtain⟨its,r,⟨o,n,e,_,_,d⟩,_⟩:=I.list h
 obtain⟨its',r',⟨o',n',e',_,_,d'⟩,_⟩:=I.list h'
 rw[e]at e';cases e'
 rw[d]at d'
 injection d' with d1 _
 have:its=its':=by simpa using congrArg Array.toList d1
 subst this
 exact r.inj r'
theorem Inv.tuple_inj (I:Inv X pz σ H s) (h:SqT X.K H a xs) (h':SqT X.K H a ys):xs=ys:=by
 obtain⟨its,r,⟨o,e,_,n,d⟩,_⟩:=I.tuple h
 obtain⟨its',r',⟨o',e',_,n',d'⟩,_⟩:=I.tuple h'
 rw[e]at e';cases e'
 rw[d]at d'
 injection d' with d1 _
 have:its=its':=by simpa using congrArg Array.toList d1
 subst this
 exact r.inj r'
end
abbrev Cx.wish (X:Cx) (E:Value->Shared->Prop):Cx:={ X with xe:=E }
abbrev Cx.nox (X:Cx):Cx:=X.wish λ_ _=>False
theorem Cx.Ok.wish {X:Cx}(ok:X.Ok) (E:Value->Shared->Prop):(X.wish E).Ok :=
 ⟨ok.mod,ok.kind,ok.glob,ok.blt,ok.above,ok.inj,ok.has,ok.cab,ok.hd,ok.frames,ok.stk,ok.exf,ok.bs,ok.bsz,ok.noex,ok.exfs,ok.funs,ok.frf⟩
theorem Cx.Ok.unwish {X:Cx}{E:Value->Shared->Prop}(ok:(X.wish E).Ok):X.Ok :=
 ⟨ok.mod,ok.kind,ok.glob,ok.blt,ok.above,ok.inj,ok.has,ok.cab,ok.hd,ok.frames,ok.stk,ok.exf,ok.bs,ok.bsz,ok.noex,ok.exfs,ok.funs,ok.frf⟩
section
variable {X:Cx}{pz:List (Addr×Obj)}{σ:St}{H:Hp}{s:Shared}{E:Value->Shared->Prop}
theorem Inv.wish (I:Inv X pz σ H s) (E:Value->Shared->Prop):Inv (X.wish E) pz σ H s:=⟨I.ok.wish E,I.os,I.bare,I.base,I.loc,I.cell,I.free,I.freeC,I.pin,I.hok,I.len⟩
theorem Inv.unwish (I:Inv (X.wish E) pz σ H s):Inv X pz σ H s:=⟨I.ok.unwish,I.os,I.bare,I.base,I.loc,I.cell,I.free,I.freeC,I.pin,I.hok,I.len⟩
theorem SP.unwish {D:Zf}{f:Flow}{s':Shared}(h:SP (X.wish E) pz D f s'):SP X pz D f s':=by
 cases f with
 | next=>obtain⟨σ',H',I,q⟩:=h;exact⟨σ',H',I.unwish,q⟩
 | brk=>obtain⟨σ',H',I,q⟩:=h;exact⟨σ',H',I.unwish,q⟩
 | cont=>obtain⟨σ',H',I,q⟩:=h;exact⟨σ',H',I.unwish,q⟩
 | ret u=>obtain⟨v,σ',H',I,r,q⟩:=h;exact⟨v,σ',H',I.unwish,r,q⟩
theorem PSs.nox {st:List Stmt}{t:TS}(h:PSs X.nox st t):PSs X st t:=λpz s σ H D I hw =>
 yZ (h pz s σ H D (I.wish _) hw) (λ_ _ q=>q.unwish) λ_ _ z=>False.elim z
end
section
variable {X:Cx}{st:Stmt}{rest:List Stmt}{t u:TS}{e:Expr}{te:TE}{pos:Pos}
def zhE:TS:=λD σ H=>D.nx σ H
def zbz (t u:TS):TS:=λD σ H=>t { D with nx:=u D } σ H
theorem zN:PSs X [] zhE:=λ_ _ σ H _ I h=>WR ⟨σ,H,I,h⟩
theorem ze (h1:PS X st t) (h2:PSs X rest u):PSs X (st::rest) (zbz t u):=by
 intro pz s σ H D I h
 refine wpAny_execs_cons (thn (h1 pz s σ H { D with nx:=u D } I h) λf s1 q=>?_)
 cases f with
 | next =>
  obtain⟨σ',H',I',q⟩:=q
  exact h2 pz s1 σ' H' D I' q
 | ret v=>exact q
 | brk=>exact q
 | cont=>exact q
theorem zj (h1:PS X st t):PSs X [st] t:=by
 intro pz s σ H D I h
 refine wpAny_execs_cons (thn (h1 pz s σ H D I h) λf s1 q=>?_)
 cases f with
 | next=>exact WR q
 | ret v=>exact q
 | brk=>exact q
 | cont=>exact q
theorem Inv.quiet {pz:List (Addr×Obj)}{σ:St}{H:Hp}{s:Shared}(I:Inv X pz σ H s):interactive X.env=false:=by simp[interactive,I.ok.kind]
def zkz (te:TE):TS:=λD σ H=>te σ H λ_ H1=>D.nx σ H1
theorem xm (he:PE X e te) (hs:swapsWith e none pos.line X.env=pure false:=by rfl):PS X (.Expr e pos) (zkz te):=by
 intro pz s σ H D I h
 exact wpAny_Expr_any (thn (he pz s σ H _ I h) λv s1 ⟨x,H1,I1,r1,q1⟩=>⟨σ,H1,I1,q1⟩) I.quiet hs
def zfz (te:TE):TS:=λD σ H=>te σ H D.rt
theorem zD (he:PE X e te):PS X (.Return (some e) pos) (zfz te):=by
 intro pz s σ H D I h
 exact wpAny_Return_some (thn (he pz s σ H _ I h) λv s1 ⟨x,H1,I1,r1,q1⟩=>⟨x,σ,H1,I1,r1,q1⟩)
def tIfS (c:TT) (t u:TS):TS:=λD σ H=>c σ H λb H1=>if b=true then t D σ H1 else u D σ H1
theorem zX {c:Expr}{a b:List Stmt}{tc:TT}(hc:PT X c tc) (ha:PSs X a t) (hb:PSs X b u):PS X (.If c a b pos) (tIfS tc t u):=by
 intro pz s σ H D I h
 refine wpAny_If (thn (hc pz s σ H _ I h) λd s1 ⟨H1,I1,q1⟩=>?_)
 cases d with
 | true=>exact ha pz s1 σ H1 D I1 q1
 | false=>exact hb pz s1 σ H1 D I1 q1
def zfx:TS:=λ_ _ _=>False
theorem zeM:PS X st zfx:=λ_ _ _ _ _ _ h=>h.elim
theorem qt {sts:List Stmt}:PSs X sts zfx:=λ_ _ _ _ _ _ h=>h.elim
end
abbrev TG:=V->St->Hp->(St->Hp->Prop)->Prop
abbrev TGs:=List V->St->Hp->(St->Hp->Prop)->Prop
def PG (X:Cx) (target:Expr) (t:TG):Prop :=
 ∀(pz:List (Addr×Obj)) (s:Shared) (σ:St) (H:Hp) (v:V) (u:Value) (Q:St->Hp->Prop),Inv X pz σ H s->xi v u->t v σ H Q →
  wpAny (model X.prog X.w) X.A (assign target X.env u) (λ_ s'=>∃σ' H',Inv X pz σ' H' s'/\Q σ' H') X.xe s
def PGs (X:Cx) (ts:List Expr) (t:TGs):Prop :=
 ∀(pz:List (Addr×Obj)) (s:Shared) (σ:St) (H:Hp) (vs:List V) (us:List Value) (Q:St->Hp->Prop),Inv X pz σ H s->xa vs us->t vs σ H Q →
  wpAny (model X.prog X.w) X.A (assignInOrder ((assignEach ts X.env).map (·.2)) us) (λ_ s'=>∃σ' H',Inv X pz σ' H' s'/\Q σ' H') X.xe s
abbrev zhM:=V->V->V->Hp->(Hp->Prop)->Prop
def zjA (X:Cx) (t:zhM):Prop :=
 ∀(pz:List (Addr×Obj)) (s:Shared) (σ:St) (H:Hp) (o i v:V) (ov iv u:Value) (Q:Hp->Prop),Inv X pz σ H s->xi o ov->xi i iv->xi v u->t o i v H Q →
  wpAny (model X.prog X.w) X.A (setItem ov iv u) (λ_ s'=>∃H',Inv X pz σ H' s'/\Q H') X.xe s
abbrev TIp:=V->V->Hp->VK->Prop
def PIp (X:Cx) (op:Operator) (t:TIp):Prop :=
 ∀(pz:List (Addr×Obj)) (s:Shared) (σ:St) (H:Hp) (x y:V) (v u:Value) (Q:VK),Inv X pz σ H s->xi x v->xi y u->t x y H Q →
  wpAny (model X.prog X.w) X.A (inplaceOp op v u) (EP X pz σ Q) X.xe s
section
variable {X:Cx}{pos:Pos}
def zG (i:Nat):TG:=λv σ H Q=>Q (σ.set i (some v)) H
theorem JR {i:Nat}{x:Str}(hN:X.N.Nodup) (hi:X.N[i]? = some x) (hx:Loc X.env.scope x) (hf:X.fn x=true\/X.env.scope.names.lookup x=some .local := by first | exact .inl rfl | exact .inr rfl | assumption):PG X (.Name x pos) (zG i):=by
 intro pz s σ H v u Q I r h
 exact wpAny_assign_Name (Ze I hN hi hx r (λs' I'=>⟨_,H,I',h⟩) hf)
theorem pgl {i:Nat}{x:Str}{pos:Pos}(hN:X.N.Nodup) (hi:X.N[i]? = some x:=by rfl) (hx:Loc X.env.scope x:=by exact Or.inl rfl) (hf:X.fn x=true\/X.env.scope.names.lookup x=some .local := by first | exact .inl rfl | exact .inr rfl | assumption):PG X (.Name x pos) (zG i):=JR hN hi hx hf
def za5:TGs:=λvs σ H Q=>vs=[]/\Q σ H
def v9 (t:TG) (u:TGs):TGs:=λvs σ H Q=>∃v r,vs=v::r/\t v σ H λσ' H'=>u r σ' H' Q
theorem xI:PGs X [] za5:=by
 intro pz s σ H vs us Q I r h
 obtain⟨e,h⟩:=h
 subst e
 cases r
 exact assignInOrder_nil ⟨σ,H,I,h⟩
theorem zP {e:Expr}{es:List Expr}{t:TG}{u:TGs}(h1:PG X e t) (h2:PGs X es u)
  (hs:(assignEach (e::es) X.env).map (·.2)=assign e X.env::(assignEach es X.env).map (·.2):=by rfl):PGs X (e::es) (v9 t u):=by
 intro pz s σ H vs us Q I r h
 obtain⟨v,vr,e1,h⟩:=h
 subst e1
 cases r with
 | cons r rr =>
  rw[hs]
  refine assignInOrder_cons (thn (h1 pz s σ H _ _ _ I r h) λ_ s1 ⟨σ1,H1,I1,q1⟩=>?_)
  exact h2 pz s1 σ1 H1 _ _ Q I1 rr q1
def zai (K:Fg) (n:Nat) (t:TGs):TG:=λv σ H Q=>∃a xs,v = .ref a/\SqT K H a xs/\xs.length=n/\t xs σ H Q
theorem qY {es:List Expr}{k:Nat}{t:TGs}{n:Nat}(hc:X.calm=true) (h:PGs X es t)
  (hn:(assignEach es X.env).length=n:=by rfl) (hst:(assignEach es X.env).findIdx? (·.1)=none:=by rfl):PG X (.Tuple es k pos) (zai X.K n t):=by
 intro pz s σ H v u Q I r hw
 obtain⟨a,xs,e1,hq,hl,hw⟩:=hw
 subst e1
 cases r
 obtain⟨its,rv,ht,hz⟩:=I.tuple hq
 refine assign_Tuple_tuple (I.ok.hd hc) ht (by simp[hn,<-hl,rv.length]) hst λh' hx=>?_
 have I1:Inv X pz σ H { s with heap:=h' }:=I.kept (t':=s.toks) λb o e=>hx b o (wS (wB e)) e
 exact h pz _ σ H xs _ Q I1 (by simpa using rv) hw
def gSub (to ti:TE) (t:zhM):TG:=λv σ H Q=>to σ H λo H1=>ti σ H1 λi H2=>t o i v H2 λH3=>Q σ H3
theorem zeG {o i:Expr}{to ti:TE}{t:zhM}(ho:PE X o to) (hi:PE X i ti) (hs:zjA X t)
  (ha:∀v,assign (.Subscript o i pos) X.env v=(do
   let ov <-holding [v] (eval o X.env)
   let iv <-holding [v,ov] (eval i X.env)
   standAt pos
   holding [v,ov,iv] (setItem ov iv v)
   release [v,ov,iv] []):=by intro _;rfl):PG X (.Subscript o i pos) (gSub to ti t):=by
 intro pz s σ H v u Q I r h
 rw[ha]
 refine wc (yN (thn (ho pz s σ H _ I h) λov s1 ⟨x,H1,I1,r1,q1⟩=>?_))
 refine wc (yN (thn (hi pz s1 σ H1 _ I1 q1) λiv s2 ⟨y,H2,I2,r2,q2⟩=>?_))
 refine wc (YY (wc (yN (thn (hs pz s2 σ H2 x y v ov iv u _ I2 r1 r2 r q2) λ_ s3 ⟨H3,I3,q3⟩=>?_))))
 exact wpAny_release ⟨σ,H3,I3,q3⟩
def zdv (te:TE) (g:TG):TS:=λD σ H=>te σ H λx H1=>g x σ H1 D.nx
theorem Zk {tg e:Expr}{te:TE}{g:TG}(he:PE X e te) (hg:PG X tg g) (hs:swapsWithSole [tg] e pos.line X.env=pure false:=by rfl) (hw:swappedStores [tg] e X.env=pure none:=by rfl)
  (h1:(assignEach [tg] X.env).map (·.2)=[assign tg X.env]:=by rfl):PS X (.Assign [tg] e pos) (zdv te g):=by
 intro pz s σ H D I h
 refine wpAny_Assign_stores (thn (he pz s σ H _ I h) λv s1 ⟨x,H1,I1,r1,q1⟩=>?_) hs hw
 rw[h1]
 exact thn (hg pz s1 σ H1 x v _ I1 r1 q1) λ_ s2 q=>q
theorem Qv {i:Nat}{x:Str}{e:Expr}{te:TE}{pos':Pos}(hN:X.N.Nodup) (hi:X.N[i]? = some x) (hx:Loc X.env.scope x) (he:PE X e te) (hs:swapsWith e (some (.Name x pos')) pos.line X.env=pure false:=by rfl) (hf:X.fn x=true\/X.env.scope.names.lookup x=some .local := by first | exact .inl rfl | exact .inr rfl | assumption) :
  PS X (.Assign [.Name x pos'] e pos) (zdv te (zG i)):=by
 intro pz s σ H D I h
 refine wpAny_Assign_Name (thn (he pz s σ H _ I h) λv s1 ⟨y,H1,I1,r1,q1⟩=>?_) hs
 exact Ze I1 hN hi hx r1 (λs2 I2=>⟨_,H1,I2,q1⟩) hf
theorem psl {i:Nat}{x:Str}{e:Expr}{te:TE}{pos pos':Pos}(hN:X.N.Nodup) (he:PE X e te) (hi:X.N[i]? = some x:=by rfl) (hx:Loc X.env.scope x:=by exact Or.inl rfl) (hs:swapsWith e (some (.Name x pos')) pos.line X.env=pure false:=by rfl) (hf:X.fn x=true\/X.env.scope.names.lookup x=some .local := by first | exact .inl rfl | exact .inr rfl | assumption) :
  PS X (.Assign [.Name x pos'] e pos) (zdv te (zG i)):=Qv hN hi hx he hs hf
def tPar (i j:Nat) (ta:TA):TS:=λD σ H=>ta σ H λvs H1=>∃v w,vs=[v,w]/\D.nx ((σ.set i (some v)).set j (some w)) H1
theorem Xn {i j:Nat}{x y:Str}{a b:Expr}{ta:TA}{px py pt:Pos} {kt k2 pt2} (hc:X.calm=true) (hN:X.N.Nodup) (hi:X.N[i]? = some x) (hj:X.N[j]? = some y) (hij:i≠j)
  (hx:X.env.scope.names.lookup x=some .local) (hy:X.env.scope.names.lookup y=some .local) (ha:PA X [a,b] ta)
  (hw:swappedStores [.Tuple [.Name x px,.Name y py] kt pt] (.Tuple [a,b] k2 pt2) X.env=pure (some [x,y]))
  (hs:swapsWithSole [.Tuple [.Name x px,.Name y py] kt pt] (.Tuple [a,b] k2 pt2) pos.line X.env=pure false:=by rfl) :
  PS X (.Assign [.Tuple [.Name x px,.Name y py] kt pt] (.Tuple [a,b] k2 pt2) pos) (tPar i j ta):=by
 intro pz s σ H D I h
 rw[exec_Assign_arm]
 refine wc (YY ?_)
 rw[hs]
 refine wc (wj ?_)
 rw[if_neg (by decide)]
 refine wc (Tuple_ (thn (ha _ pz s σ H _ I h) λus s1 ⟨vs,H1,I1,r1,q1⟩=>?_))
 obtain⟨v,w,e1,q1⟩:=q1
 subst e1
 obtain⟨u1,u2,rfl,rv,rw'⟩:∃u1 u2,us=[u1,u2]/\xi v u1/\xi w u2:=by
  cases r1 with
  | cons p q =>
   cases q with
   | cons p' q' =>
    cases q'
    exact⟨_,_,rL,p,p'⟩
 refine yO ?_ (zL2)
 have I2:Inv X pz σ H1 { s1 with heap:=s1.heap.push { cls:=.type "tuple",data:=.seq [u1,u2].toArray } }:=I1.kept (t':=s1.toks) λb o e=>wf _ e
 rw[hw]
 refine wc (wj ?_)
 show wpAny (model X.prog X.w) X.A (do rule "assign.swapped-stores";let items <-unpackItems (.ref s1.heap.objs.size) 2 none;assignInOrder [λv=>bindName X.env y v,λv=>bindName X.env x v] items.reverse;pure Flow.next) _ _ _
 refine wc (Yk (wc (unpackItems_tuple (items:=#[u1,u2]) (I.ok.hd hc) (IsTup.new s1.heap _) λh' hx'=>?_)))
 have I3:=I2.kept (h':=h') (t':=s1.toks) λb o e=>hx' b o (wS (wB e)) e
 show wpAny _ _ (assignInOrder [λv=>bindName X.env y v,λv=>bindName X.env x v] [u2,u1] >>= λ_=>pure Flow.next) _ _ _
 refine wc (assignInOrder_cons (wpAny_bindName (Ze I3 hN hj (.inl hy) rw' (λs2 I4=>?_) (.inr hy))))
 refine assignInOrder_cons (wpAny_bindName (Ze I4 hN hi (.inl hx) rv (λs3 I5=>assignInOrder_nil (wj ?_)) (.inr hx)))
 rw[List.set_comm _ _ (Ne.symm hij)]at I5
 exact⟨_,H1,I5,q1⟩
def tAug (i:Nat) (te:TE) (ti:TIp):TS:=λD σ H=>∃x,σ[i]? = some (some x)/\te σ H λy H1=>ti x y H1 λz H2=>D.nx (σ.set i (some z)) H2
theorem ziS {i:Nat}{x:Str}{e:Expr}{te:TE}{op:Operator}{ti:TIp}{pos':Pos}(hN:X.N.Nodup) (hi:X.N[i]? = some x) (hx:Loc X.env.scope x) (he:PE X e te) (ho:PIp X op ti) (hf:X.fn x=true\/X.env.scope.names.lookup x=some .local := by first | exact .inl rfl | exact .inr rfl | assumption) :
  PS X (.AugAssign (.Name x pos') op e pos) (tAug i te ti):=by
 intro pz s σ H D I h
 obtain⟨v,e1,h⟩:=h
 obtain⟨m,hn,hl⟩:=I.loc
 have vis:Vis X.env.scope x:=by rcases hx with k | k;exact .inl k;exact .inr (.inl k)
 obtain⟨u,r,l⟩:=hl i x v hi e1 vis
 refine wpAny_AugAssign_Name ?_
 have go:wpAny (model X.prog X.w) X.A (eval e X.env) (λw s₂=>wpAny (model X.prog X.w) X.A (inplaceOp op u w) (λr s₃=>wpAny (model X.prog X.w) X.A (storeName X.env x r) (λ_=>SP X pz D .next) X.xe s₃) X.xe s₂) X.xe s:=by
  refine thn (he pz s σ H _ I h) λw s1 ⟨y,H1,I1,r1,q1⟩=>?_
  refine thn (ho pz s1 σ H1 v y u w _ I1 r r1 q1) λz s2 ⟨zv,H2,I2,r2,q2⟩=>?_
  exact Ze I2 hN hi hx r2 (λs3 I3=>⟨_,H2,I3,q2⟩) hf
 rcases l with⟨hk,hm⟩ | ⟨hk,c,hc,hcell⟩
 ·exact wpAny_loadName_local I.ok.kind hk hn hm go
 ·rcases hk with hk | hk
  ·exact wpAny_loadName_cell I.ok.kind hk hc hcell go
  ·rcases hx with k | k
   ·have:X.env.scope.names.lookup x=some .free:=hk
    rw[k]at this;cases this
   ·have:X.env.scope.names.lookup x=some .free:=hk
    rw[k]at this;cases this
def zfB (c:TT) (tb:TS):TS:=λD σ H=>∃W:Nat->St->Hp->Prop,(∃m,W m σ H)/\∀m σ H,W m σ H →
 c σ H λb H1=>if b=true then ∃N:St->Hp->Prop,(∀σ' H',N σ' H'->∃m',m'<m/\W m' σ' H')/\tb { D with nx:=N,ct:=N,bk:=D.nx } σ H1 else D.nx σ H1
theorem zay {c:Expr}{body:List Stmt}{tc:TT}{tb:TS}(hp:PassesOwn (model X.prog X.w) X.A X.env X.xe) (hc:PT X c tc) (hb:PSs X body tb):PS X (.While c body [] pos) (zfB tc tb):=by
 intro pz s σ H D I h
 obtain⟨W,⟨m0,w0⟩,turn⟩:=h
 refine wpAny_While (codeAny_whileLoop (λn s'=>∃σ' H',Inv X pz σ' H' s'/\W n σ' H') ?_ m0 ⟨σ,H,I,w0⟩)
 rintro n s1 ⟨σ1,H1,I1,w1⟩
 refine uW hp (thn (hc pz s1 σ1 H1 _ I1 (turn n σ1 H1 w1)) λb s2 ⟨H2,I2,q2⟩=>?_)
 cases b with
 | true =>
  obtain⟨N,hN,q2⟩:=q2
  rw[if_pos rfl]
  refine uW hp (thn (hb pz s2 σ1 H2 _ I2 q2) λf s3 q3=>?_)
  cases f with
  | next =>
   obtain⟨σ3,H3,I3,n3⟩:=q3
   obtain⟨m',hm,w3⟩:=hN σ3 H3 n3
   exact⟨m',hm,σ3,H3,I3,w3⟩
  | cont =>
   obtain⟨σ3,H3,I3,n3⟩:=q3
   obtain⟨m',hm,w3⟩:=hN σ3 H3 n3
   exact⟨m',hm,σ3,H3,I3,w3⟩
  | brk=>exact q3
  | ret v=>exact q3
 | false =>
  rw[if_neg wZ]
  exact WR ⟨σ1,H2,I2,q2⟩
end
structure It where
 go:Nat->Hp->Prop
 yld:Nat->Hp->V->Hp->Prop
 stop:Nat->Hp->Prop
def Vd (X:Cx) (pz:List (Addr×Obj)) (H:Hp) (b:Addr):Prop :=
 H b=none/\b≠X.env.locals/\b∉X.fs/\(b∈X.ex\/X.s₀.heap.objs.size<=b)/\(∀x c,X.env.cells.lookup x=some c->c≠b)/\∀p∈X.pn++pz,p.1≠b
theorem Inv.fpOk {X:Cx}{pz:List (Addr×Obj)}{σ:St}{H H':Hp}{s:Shared}{b:Addr}(I:Inv X pz σ H s) (hb:s.heap.objs.size<=b) (hn:H' b=none):Vd X pz H' b:=by
 refine⟨hn,Wy (wT I.lt hb),I.nofs hb,.inr (yH I.sz hb),λx c e z=>?_,λp hp z=>?_⟩
 ·obtain⟨v,q⟩:=I.cell x c e
  exact absurd (wT q.lt (by rw[z];exact hb)) (uF _)
 ·exact absurd (wT (wB (I.pin p hp).1) (by rw[z];exact hb)) (uF _)
structure zfM (P:Program) (w:World) (K:Fg) (tg:Expr) (J:It) (fp:List Addr) (it:Addr) (tn:Nat->Heap->Prop):Prop where
 mem:it∈fp
 obj:∀i h,tn i h->∀b∈fp,∃o,h.get? b=some o/\∀v,o.data≠.cell v
 keep:∀i h h',tn i h->(∀b∈fp,∀o,h.get? b=some o->h'.get? b=some o)->tn i h'
 item:∀(X:Cx),X.prog=P->X.w=w->X.K=K->X.calm=true->∀(i:Nat) (pz:List (Addr×Obj)) (s:Shared) (σ:St) (H:Hp) (E:Value->Shared->Prop),Inv X pz σ H s->(∀b∈fp,Vd X pz H b)->tn i s.heap->J.go i H →
  wpAny (model P w) X.A (pyNext (.ref it)) (λr s1=>∃u,r=some u ∧
   wpAny (model P w) X.A (letOwnedTupleGo tg (.ref it) u) (λ_ s2=>∃x H',Inv X pz σ H' s2/\xi x u/\J.yld i H x H'/\tn (i+1) s2.heap/\∀b∈fp,H' b=none) E s1) E s
 done:∀(X:Cx),X.prog=P->X.w=w->X.K=K->X.calm=true->∀(i:Nat) (pz:List (Addr×Obj)) (s:Shared) (σ:St) (H:Hp) (E:Value->Shared->Prop),Inv X pz σ H s->(∀b∈fp,Vd X pz H b)->tn i s.heap->J.stop i H →
  wpAny (model P w) X.A (pyNext (.ref it)) (λr s1=>r=none/\Inv X pz σ H s1) E s
 self:∀(A:Around) (i:Nat) (s:Shared) (Q:Value->Shared->Prop) (E:Value->Shared->Prop),tn i s.heap->Q (.ref it) s->wpAny (model P w) A (pyIter (.ref it)) Q E s
abbrev TI:=St->Hp->(It->Hp->Prop)->Prop
def PIE (X:Cx) (pz:List (Addr×Obj)) (σ:St) (tg:Expr) (R:It->Hp->Prop) (itv:Value) (s2:Shared):Prop :=
 ∃(it:Addr) (fp:List Addr) (tn:Nat->Heap->Prop) (J:It) (H':Hp),itv = .ref it/\Inv X pz σ H' s2/\zfM X.prog X.w X.K tg J fp it tn/\tn 0 s2.heap/\(∀b∈fp,Vd X pz H' b)/\R J H'
def PI (X:Cx) (tg iter:Expr) (wi:TI):Prop :=
 ∀(pz:List (Addr×Obj)) (s:Shared) (σ:St) (H:Hp) (R:It->Hp->Prop),Inv X pz σ H s->wi σ H R →
  wpAny (model X.prog X.w) X.A (eval iter X.env) (λv s1=>wpAny (model X.prog X.w) X.A (pyIter v) (PIE X pz σ tg R) X.xe s1) X.xe s
theorem zea {M:Model}{A:Around}{E:Value->Shared->Prop}{s:Shared}{tg:Expr}{it:Addr}{u:Value}{o:Obj}{n:String}{vs:Array Value}{Q:Unit->Shared->Prop}(ho:s.heap.get? it=some o) (hc:o.cls = .type n) (hd:o.data = .fields vs)
  (hn:["enumerate","zip","dict_itemiterator","dict_reverseitemiterator","odict_iterator","itertools.zip_longest","itertools.pairwise"].contains n=false) (hQ:Q () s):wpAny M A (letOwnedTupleGo tg (.ref it) u) Q E s:=by
 unfold letOwnedTupleGo
 cases tg <;> first
  | exact wj hQ
  | (cases u <;> first
    | exact wj hQ
    | (refine wc (Ui ho ?_)
       rw[hc,hd]
       show wpAny M A (if(["enumerate","zip","dict_itemiterator","dict_reverseitemiterator","odict_iterator","itertools.zip_longest","itertools.pairwise"].contains n&&vs[0]? == some (rawInt _))=true then _ else _) Q E s
       rw[if_neg (by intro h;rw[hn,YD]at h;cases h)]
       exact wj hQ))
def Itl (K:Fg) (a:Addr):It :=
 ⟨λi H=>∃xs x,SqL K H a xs/\xs[i]? = some x,λi H x H'=>H'=H/\∀xs,SqL K H a xs->xs[i]? = some x,λi H=>∃xs,SqL K H a xs/\xs.length<=i⟩
def Itt (K:Fg) (a:Addr):It :=
 ⟨λi H=>∃xs x,SqT K H a xs/\xs[i]? = some x,λi H x H'=>H'=H/\∀xs,SqT K H a xs->xs[i]? = some x,λi H=>∃xs,SqT K H a xs/\xs.length<=i⟩
def Itr (lo:Int) (n:Nat):It:=⟨λi _=>i<n,λi H x H'=>H'=H/\x = .int (lo+i),λi _=>n<=i⟩
theorem zdx {P:Program}{w:World}{K:Fg}{tg:Expr}(a it:Addr):zfM P w K tg (Itl K a) [it] it (λi h=>h.IsListIter it a i) where
 mem:=by simp
 obj:=λi h st b hb=>by
  have e:b=it:=by simpa using hb
  subst e
  obtain⟨o,e,c,d⟩:=st
  exact⟨o,e,λv z=>by rw[d]at z;cases z⟩
 keep:=λi h h' st k=>st.at λo e=>k it (by simp) o e
 item:=by
  intro X hP hw hK hc i pz s σ H E I hf st hg
  subst hP hw hK
  obtain⟨xs,x,hq,hx⟩:=hg
  obtain⟨its,rv,p,hz⟩:=I.list hq
  obtain⟨u,hu,ru⟩:=rv.get hx
  obtain⟨f0,f1,f2,f3,f4,f5⟩:=hf it (by simp)
  refine wpAny_pyNext_list_item st p.isList (x:=u) (by simpa using hu) λh' st' sb=>?_
  have I1:Inv X pz σ H { s with heap:=h' }:=I.turned (t':=s.toks) (λb o hb e=>(sb.2 b hb).trans e) f0 f1 f3 f4 f5
  obtain⟨o,e,c,d⟩:=id st'
  exact⟨u,rfl,zea (s:={ s with heap:=h' }) e c d (by decide) ⟨x,H,I1,ru,⟨rfl,λys hy=>by rw[I.list_inj hy hq];exact hx⟩,st',λb hb=>(hf b hb).1⟩⟩
 done:=by
  intro X hP hw hK hc i pz s σ H E I hf st hg
  subst hP hw hK
  obtain⟨xs,hq,hx⟩:=hg
  obtain⟨its,rv,p,hz⟩:=I.list hq
  obtain⟨f0,f1,f2,f3,f4,f5⟩:=hf it (by simp)
  have hl:=rv.length
  exact wpAny_pyNext_list_end (I.ok.hd hc) st p.isList (by simp;lia) λh' eb=>⟨rfl,I.turned (t':=s.toks) (λb o hb e=>eb b o hb e) f0 f1 f3 f4 f5⟩
 self:=λ_ _ _ _ _ st h=>wpAny_pyIter_listiter st h
theorem zbB {P:Program}{w:World}{K:Fg}{tg:Expr}(a it:Addr):zfM P w K tg (Itt K a) [it] it (λi h=>h.IsTupleIter it a i) where
 mem:=by simp
 obj:=λi h st b hb=>by
  have e:b=it:=by simpa using hb
  subst e
  obtain⟨o,e,c,d⟩:=st
  exact⟨o,e,λv z=>by rw[d]at z;cases z⟩
 keep:=λi h h' st k=>st.at λo e=>k it (by simp) o e
 item:=by
  intro X hP hw hK hc i pz s σ H E I hf st hg
  subst hP hw hK
  obtain⟨xs,x,hq,hx⟩:=hg
  obtain⟨its,rv,p,hz⟩:=I.tuple hq
  obtain⟨u,hu,ru⟩:=rv.get hx
  obtain⟨f0,f1,f2,f3,f4,f5⟩:=hf it (by simp)
  refine wpAny_pyNext_tuple_item st (show s.heap.IsTuple a its.toArray from p) (x:=u) (by simpa using hu) λh' st' sb=>?_
  have I1:Inv X pz σ H { s with heap:=h' }:=I.turned (t':=s.toks) (λb o hb e=>(sb.2 b hb).trans e) f0 f1 f3 f4 f5
  obtain⟨o,e,c,d⟩:=id st'
  exact⟨u,rfl,zea (s:={ s with heap:=h' }) e c d (by decide) ⟨x,H,I1,ru,⟨rfl,λys hy=>by rw[I.tuple_inj hy hq];exact hx⟩,st',λb hb=>(hf b hb).1⟩⟩
 done:=by
  intro X hP hw hK hc i pz s σ H E I hf st hg
  subst hP hw hK
  obtain⟨xs,hq,hx⟩:=hg
  obtain⟨its,rv,p,hz⟩:=I.tuple hq
  obtain⟨f0,f1,f2,f3,f4,f5⟩:=hf it (by simp)
  have hl:=rv.length
  exact wpAny_pyNext_tuple_end (I.ok.hd hc) st (show s.heap.IsTuple a its.toArray from p) (by simp;lia) λh' eb=>⟨rfl,I.turned (t':=s.toks) (λb o hb e=>eb b o hb e) f0 f1 f3 f4 f5⟩
 self:=λ_ _ _ _ _ st h=>wpAny_pyIter_tupleiter st h
theorem zbA {P:Program}{w:World}{K:Fg}{tg:Expr}(it:Addr) (lo:Int) (n:Nat):zfM P w K tg (Itr lo n) [it] it (λi h=>IsRangeIter h it (lo+(i:Nat)*1) ((n:Int) - (i:Nat)) 1) where
 mem:=by simp
 obj:=λi h st b hb=>by
  have e:b=it:=by simpa using hb
  subst e
  exact⟨_,st,λv z=>by
   have z':Data.fields _=Data.cell v:=z
   cases z'⟩
 keep:=λi h h' st k=>k it (by simp) _ st
 item:=by
  intro X hP hw hK hc i pz s σ H E I hf st hg
  subst hP hw hK
  obtain⟨f0,f1,f2,f3,f4,f5⟩:=hf it (by simp)
  have W:=Walks.range (prog:=X.prog) (w:=X.w) (I.ok.hd hc) it lo 1 n
  refine W.item i s _ _ hg st λv h' tk hv st' kk=>?_
  obtain⟨t,rfl⟩:=hv
  have I1:Inv X pz σ H { s with heap:=h',toks:=tk }:=I.turned (λb o hb e=>kk b o (by simpa using hb) e) f0 f1 f3 f4 f5
  refine⟨_,rfl,zea (s:={ s with heap:=h',toks:=tk }) (n:="range_iterator") st' rfl rfl (by decide) ⟨.int (lo+i),H,I1,⟨t,?_⟩,⟨rfl,rfl⟩,st',λb hb=>(hf b hb).1⟩⟩
  rw[YS]
 done:=by
  intro X hP hw hK hc i pz s σ H E I hf st hg
  subst hP hw hK
  obtain⟨f0,f1,f2,f3,f4,f5⟩:=hf it (by simp)
  exact wpAny_pyNext_range_end (I.ok.hd hc) st (by have:n<=i:=hg;lia) λh' eb=>⟨rfl,I.turned (t':=s.toks) (λb o hb e=>eb b o hb e) f0 f1 f3 f4 f5⟩
 self:=λ_ _ _ _ _ st h=>wpAny_pyIter_rangeiter st h
section
variable {X:Cx}{tg:Expr}
def zhm (K:Fg) (tl:TE):TI:=λσ H R=>tl σ H λx H1=>∃a,x = .ref a/\(∃xs,SqL K H1 a xs)/\R (Itl K a) H1
def zf9 (K:Fg) (tl:TE):TI:=λσ H R=>tl σ H λx H1=>∃a,x = .ref a/\(∃xs,SqT K H1 a xs)/\R (Itt K a) H1
theorem xh {l:Expr}{tl:TE}(hl:PE X l tl):PI X tg l (zhm X.K tl):=by
 intro pz s σ H R I h
 refine thn (hl pz s σ H _ I h) λv s1 ⟨x,H1,I1,r1,q1⟩=>?_
 obtain⟨a,e,⟨xs,hq⟩,q⟩:=q1
 subst e
 cases r1
 obtain⟨its,rv,p,hz⟩:=I1.list hq
 refine YO p.isList ?_
 refine⟨s1.heap.objs.size,[s1.heap.objs.size],_,_,H1,rL,I1.kept (t':=s1.toks) λb o e=>wf _ e,zdx a _,⟨_,wE _ rL,rL,rL⟩,λb hb=>?_,q⟩
 have e:b=s1.heap.objs.size:=by simpa using hb
 subst e
 exact I1.fpOk (wg _) (I1.hok.fresh (wg _))
theorem Qt {l:Expr}{tl:TE}(hl:PE X l tl):PI X tg l (zf9 X.K tl):=by
 intro pz s σ H R I h
 refine thn (hl pz s σ H _ I h) λv s1 ⟨x,H1,I1,r1,q1⟩=>?_
 obtain⟨a,e,⟨xs,hq⟩,q⟩:=q1
 subst e
 cases r1
 obtain⟨its,rv,p,hz⟩:=I1.tuple hq
 refine wpAny_pyIter_tuple (show s1.heap.IsTuple a its.toArray from p) ?_
 refine⟨s1.heap.objs.size,[s1.heap.objs.size],_,_,H1,rL,I1.kept (t':=s1.toks) λb o e=>wf _ e,zbB a _,⟨_,wE _ rL,rL,rL⟩,λb hb=>?_,q⟩
 have e:b=s1.heap.objs.size:=by simpa using hb
 subst e
 exact I1.fpOk (wg _) (I1.hok.fresh (wg _))
theorem zaC {pz:List (Addr×Obj)}{σ:St}{H:Hp}{s:Shared}{R:It->Hp->Prop}{E:Value->Shared->Prop}{lo hi:Int}{t u v:Tok}{tk:Nat}(I:Inv X pz σ H s) (h1 : -(2^62)<=lo) (h2:lo<2^62) (h3 : -(2^62)<=hi) (h4:hi<2^62)
  (q:R (Itr lo (hi - lo).toNat) H):wpAny (model X.prog X.w) X.A (pyIter (.ref s.heap.objs.size)) (PIE X pz σ tg R) E { s with heap:=s.heap.push { cls:=.type "range",data:=.fields #[.int lo t,.int hi u,.int 1 v] },toks:=tk }:=by
 refine wpAny_pyIter_range (IsRange.new ..) (small_one h1 h2 h3 h4) ?_
 have I1:Inv X pz σ H { s with heap:=s.heap.push { cls:=.type "range",data:=.fields #[.int lo t,.int hi u,.int 1 v] },toks:=tk }:=I.kept λb o e=>wf _ e
 refine⟨(s.heap.push { cls:=.type "range",data:=.fields #[.int lo t,.int hi u,.int 1 v] }).objs.size,[(s.heap.push { cls:=.type "range",data:=.fields #[.int lo t,.int hi u,.int 1 v] }).objs.size],_,_,H,rL,
  I1.kept (t':=tk) λb o e=>wf _ e,zbA _ lo (hi - lo).toNat,?_,λb hb=>?_,q⟩
 ·have e1:lo+((0:Nat):Int)*1=lo:=by simp
  have e2:(((hi - lo).toNat:Nat):Int) - ((0:Nat):Int)=Builtin.Range.rangeSize lo hi 1:=by rw[rangeSize_one];split <;> lia
  show IsRangeIter _ _ (lo+((0:Nat):Int)*1) ((((hi - lo).toNat:Nat):Int) - ((0:Nat):Int)) 1
  rw[e1,e2]
  exact wE _ rL
 ·have e:b=(s.heap.push { cls:=.type "range",data:=.fields #[.int lo t,.int hi u,.int 1 v] }).objs.size:=by simpa using hb
  subst e
  exact I1.fpOk (wg _) (I1.hok.fresh (wg _))
def zjH (ta:TA):TI:=λσ H R=>ta σ H λvs H1=>∃j:Int,vs=[.int j] ∧ -(2^62)<=j/\j<2^62/\R (Itr 0 j.toNat) H1
def zjI (ta:TA):TI:=λσ H R=>ta σ H λvs H1=>∃i j:Int,vs=[.int i,.int j]/\(-(2^62)<=i/\i<2^62 ∧ -(2^62)<=j/\j<2^62)/\R (Itr i (j - i).toNat) H1
theorem Z7 {a:Expr}{ta:TA}{p pos:Pos}(hg:Gl X "range") (hm:X.mg "range" = none) (ha:PA X [a] ta) (hs:starEach [a] X.env=[(false,eval a X.env)]:=by rfl):PI X tg (.Call (.Name "range" p) [a] [] pos) (zjH ta):=by
 intro pz s σ H R I h
 refine Call_ (Zi I hg hm boot_range (yT (thn (ha pos pz s σ H _ I h) λus s1 ⟨vs,H1,I1,r1,q1⟩=>?_) hs rL))
 obtain⟨j,e,q1,q2,q⟩:=q1
 subst e
 cases r1 with
 | cons r rr =>
  cases rr
  obtain⟨t,rfl⟩:=r
  exact call_range_1 (zaC I1 ∅ ∅ q1 q2 (by simpa using q))
theorem zdg {a b:Expr}{ta:TA}{p pos:Pos}(hg:Gl X "range") (hm:X.mg "range" = none) (ha:PA X [a,b] ta) (hs:starEach [a,b] X.env=[(false,eval a X.env),(false,eval b X.env)]:=by rfl) (hs2:starEach [b] X.env=[(false,eval b X.env)]:=by rfl) :
  PI X tg (.Call (.Name "range" p) [a,b] [] pos) (zjI ta):=by
 intro pz s σ H R I h
 refine Call_ (Zi I hg hm boot_range (yT (thn (ha pos pz s σ H _ I h) λus s1 ⟨vs,H1,I1,r1,q1⟩=>?_) (by rw[hs,hs2]) (by rw[hs2];rfl)))
 obtain⟨i,j,e,⟨q1,q2,q3,q4⟩,q⟩:=q1
 subst e
 cases r1 with
 | cons r rr =>
  cases rr with
  | cons r' rr =>
   cases rr
   obtain⟨t,rfl⟩:=r
   obtain⟨t',rfl⟩:=r'
   exact call_range_2 (zaC I1 q1 q2 q3 q4 q)
def tFor (wi:TI) (g:TG) (tb:TS):TS:=λD σ H=>wi σ H λJ H1=>∃W:Nat->Nat->St->Hp->Prop,(∃m,W 0 m σ H1)/\∀i m σ H,W i m σ H →
 (J.stop i H/\D.nx σ H)\/(J.go i H/\∃N:St->Hp->Prop,(∀σ' H',N σ' H'->∃m',m'<m/\W (i+1) m' σ' H')/\∀x H',J.yld i H x H'->g x σ H' λσ2 H2=>tb { D with nx:=N,ct:=N,bk:=D.nx } σ2 H2)
def Qu (fp:List Addr) (h:Heap):List (Addr×Obj):=fp.filterMap λb=>(h.get? b).map λo=>(b,o)
theorem qW {fp:List Addr}{h:Heap}{b:Addr}{o:Obj}(hb:b∈fp) (e:h.get? b=some o):(b,o)∈Qu fp h:=Yu.mpr ⟨b,hb,by rw[e];rfl⟩
theorem zde {fp:List Addr}{h:Heap}{p:Addr×Obj}(hp:p∈Qu fp h):p.1∈fp/\h.get? p.1=some p.2:=by
 obtain⟨b,hb,e⟩:=Yu.mp hp
 cases q:h.get? b with
 | none=>rw[q]at e;cases e
 | some o =>
  rw[q]at e
  have e':(b,o)=p:=Option.some.inj e
  subst e'
  exact⟨hb,q⟩
theorem Inv.pinned {pz:List (Addr×Obj)}{σ:St}{H:Hp}{s:Shared}{fp:List Addr}(I:Inv X pz σ H s) (hf:∀b∈fp,Vd X pz H b) (ho:∀b∈fp,∃o,s.heap.get? b=some o/\∀v,o.data≠.cell v):Inv X (pz++Qu fp s.heap) σ H s :=
 I.pins_of λp hp=>(wQ.mp hp).elim (λz=>I.pin p (wV _ z)) λz=>by
  obtain⟨hb,e⟩:=zde z
  obtain⟨f0,f1,f2,_⟩:=hf p.1 hb
  obtain⟨o,e',d⟩:=ho p.1 hb
  rw[e]at e';cases e'
  exact⟨e,f0,f1,f2,d⟩
theorem Inv.unpinned {pz pl:List (Addr×Obj)}{σ:St}{H:Hp}{s:Shared}(I:Inv X (pz++pl) σ H s):Inv X pz σ H s:=I.pins_of λp hp=>I.pin p (wV _ (yP _ hp))
theorem qM {iter:Expr}{body:List Stmt}{wi:TI}{g:TG}{tb:TS}{pos:Pos}(hp:PassesOwn (model X.prog X.w) X.A X.env X.xe) (hc:X.calm=true) (hi:PI X tg iter wi) (hg:PG X tg g) (hb:PSs X body tb)
  (hs:∀x,foldedSetIterable iter X.env x=pure x:=by intro _;rfl):PS X (.For tg iter body [] pos) (tFor wi g tb):=by
 intro pz s σ H D I h
 refine wpAny_For (thn (hi pz s σ H _ I h) λv s1 h1=>thn h1 λitv s2 h2=>?_) hs
 obtain⟨it,fp,tn,J,H2,e,I2,T,st2,f2,W,⟨m0,w0⟩,turn⟩:=h2
 subst e
 have stat:∀{H':Hp},(∀b∈fp,H' b=none)->∀b∈fp,Vd X pz H' b:=λhn b hb=>⟨hn b hb,(f2 b hb).2⟩
 refine codeAny_forLoop_any (λn s'=>∃i σ' H',Inv X pz σ' H' s'/\tn i s'.heap/\(∀b∈fp,H' b=none)/\W i n σ' H') ?_ m0 ⟨0,σ,H2,I2,st2,λb hb=>(f2 b hb).1,w0⟩
 rintro n s3 ⟨i,σ3,H3,I3,st3,fr3,w3⟩
 rcases turn i n σ3 H3 w3 with⟨stop,qn⟩ | ⟨go,N,hN,step⟩
 ·refine uW hp (thn (T.done X rL rL rL hc i pz s3 σ3 H3 X.xe I3 (stat fr3) st3 stop) λr s4 ⟨hr,I4⟩=>?_)
  subst hr
  exact WR ⟨σ3,H3,I4,qn⟩
 ·refine uW hp (thn (T.item X rL rL rL hc i pz s3 σ3 H3 X.xe I3 (stat fr3) st3 go) λr s4 ⟨u,hr,h4⟩=>?_)
  subst hr
  refine uW hp (thn h4 λ_ s5 ⟨x,H5,I5,r5,y5,st5,fr5⟩=>?_)
  have I5':=I5.pinned (stat fr5) (T.obj _ _ st5)
  refine uW hp (thn (hg _ s5 σ3 H5 x u _ I5' r5 (step x H5 y5)) λ_ s6 ⟨σ6,H6,I6,q6⟩=>?_)
  refine uW hp (thn (hb _ s6 σ6 H6 _ I6 q6) λf s7 q7=>?_)
  have again:∀{σ7:St}{H7:Hp},Inv X (pz++Qu fp s5.heap) σ7 H7 s7->N σ7 H7->∃m,m<n/\∃i σ' H',Inv X pz σ' H' s7/\tn i s7.heap/\(∀b∈fp,H' b=none)/\W i m σ' H':=λ{σ7 H7} I7 n7=>by
   obtain⟨m',hm,w7⟩:=hN σ7 H7 n7
   refine⟨m',hm,i+1,σ7,H7,I7.unpinned,T.keep _ _ _ st5 λb hb o e=>(I7.pin (b,o) (wV _ (wV _ (qW hb e)))).1,λb hb=>?_,w7⟩
   obtain⟨o,e,d⟩:=T.obj _ _ st5 b hb
   exact(I7.pin (b,o) (wV _ (wV _ (qW hb e)))).2.1
  cases f with
  | next=>obtain⟨σ7,H7,I7,n7⟩:=q7;exact again I7 n7
  | cont=>obtain⟨σ7,H7,I7,n7⟩:=q7;exact again I7 n7
  | brk=>obtain⟨σ7,H7,I7,q7⟩:=q7;exact⟨σ7,H7,I7.unpinned,q7⟩
  | ret v=>obtain⟨x7,σ7,H7,I7,r7,q7⟩:=q7;exact⟨x7,σ7,H7,I7.unpinned,r7,q7⟩
end
theorem qA {K:Fg}{a:Addr}{xs:List V}{g:TG}{tb:TS}{D:Zf}{σ:St}{H:Hp}(Pv:Nat->St->Hp->Prop) (h0:Pv 0 σ H) (hl:∀i σ H,i<=xs.length->Pv i σ H->SqL K H a xs)
  (hs:∀i x σ H,xs[i]? = some x->Pv i σ H->g x σ H λσ2 H2=>tb { D with nx:=Pv (i+1),ct:=Pv (i+1),bk:=D.nx } σ2 H2) (hd:∀σ H,Pv xs.length σ H->D.nx σ H) :
  ∃W:Nat->Nat->St->Hp->Prop,(∃m,W 0 m σ H)/\∀i m σ H,W i m σ H →
   ((Itl K a).stop i H/\D.nx σ H)\/((Itl K a).go i H/\∃N:St->Hp->Prop,(∀σ' H',N σ' H'->∃m',m'<m/\W (i+1) m' σ' H')/\∀x H',(Itl K a).yld i H x H'->g x σ H' λσ2 H2=>tb { D with nx:=N,ct:=N,bk:=D.nx } σ2 H2):=by
 refine⟨λi m σ H=>m=xs.length - i/\i<=xs.length/\Pv i σ H,⟨xs.length,by simp,w8 _,h0⟩,?_⟩
 rintro i m σ H ⟨rfl,hi,p⟩
 have q:=hl i σ H hi p
 by_cases hlt:i<xs.length
 ·refine .inr ⟨⟨xs,xs[i],q,by simp[hlt]⟩,Pv (i+1),λσ' H' p'=>⟨xs.length - (i+1),by lia,rfl,hlt,p'⟩,λx H' y=>?_⟩
  obtain⟨e,y⟩:=y
  subst e
  exact hs i x σ _ (y xs q) p
 ·have e:i=xs.length:=by lia
  subst e
  exact .inl ⟨⟨xs,q,wg _⟩,hd σ H p⟩
theorem ZY {lo:Int}{n:Nat}{g:TG}{tb:TS}{D:Zf}{σ:St}{H:Hp}(Pv:Nat->St->Hp->Prop) (h0:Pv 0 σ H)
  (hs:∀i σ H,i<n->Pv i σ H->g (.int (lo+i)) σ H λσ2 H2=>tb { D with nx:=Pv (i+1),ct:=Pv (i+1),bk:=D.nx } σ2 H2) (hd:∀σ H,Pv n σ H->D.nx σ H) :
  ∃W:Nat->Nat->St->Hp->Prop,(∃m,W 0 m σ H)/\∀i m σ H,W i m σ H →
   ((Itr lo n).stop i H/\D.nx σ H)\/((Itr lo n).go i H/\∃N:St->Hp->Prop,(∀σ' H',N σ' H'->∃m',m'<m/\W (i+1) m' σ' H')/\∀x H',(Itr lo n).yld i H x H'->g x σ H' λσ2 H2=>tb { D with nx:=N,ct:=N,bk:=D.nx } σ2 H2):=by
 refine⟨λi m σ H=>m=n - i/\i<=n/\Pv i σ H,⟨n,by simp,w8 _,h0⟩,?_⟩
 rintro i m σ H ⟨rfl,hi,p⟩
 by_cases hlt:i<n
 ·refine .inr ⟨hlt,Pv (i+1),λσ' H' p'=>⟨n - (i+1),by lia,rfl,hlt,p'⟩,λx H' y=>?_⟩
  obtain⟨e,y⟩:=y
  subst e y
  exact hs i σ _ hlt p
 ·have e:i=n:=by lia
  subst e
  exact .inl ⟨wg _,hd σ H p⟩
theorem zaQ {c:TT}{tb:TS}{D:Zf}{σ:St}{H:Hp}(Pv:St->Hp->Prop) (μ:St->Hp->Nat) (h0:Pv σ H)
  (hs:∀σ H,Pv σ H->c σ H λb H1=>if b=true then tb { D with nx:=λσ' H'=>Pv σ' H'/\μ σ' H'<μ σ H,ct:=λσ' H'=>Pv σ' H'/\μ σ' H'<μ σ H,bk:=D.nx } σ H1 else D.nx σ H1)
  (mono:∀σ H Q Q',(∀b H1,Q b H1->Q' b H1)->c σ H Q->c σ H Q'):zfB c tb D σ H:=by
 refine⟨λm σ H=>m=μ σ H/\Pv σ H,⟨_,rL,h0⟩,?_⟩
 rintro m σ H ⟨rfl,p⟩
 refine mono σ H _ _ (λb H1 q=>?_) (hs σ H p)
 cases b with
 | true=>exact⟨_,λσ' H' ⟨p',l⟩=>⟨_,l,rfl,p'⟩,q⟩
 | false=>exact q
abbrev R2:=V->V->Hp->VK->Prop
def OpR (X:Cx) (f:Value->Value->Sem Value) (r:R2):Prop :=
 ∀(pz:List (Addr×Obj)) (s:Shared) (σ:St) (H:Hp) (x y:V) (v u:Value) (Q:VK),Inv X pz σ H s->xi x v->xi y u->r x y H Q →
  wpAny (model X.prog X.w) X.A (f v u) (EP X pz σ Q) X.xe s
def UnR (X:Cx) (f:Value->Sem Value) (r:V->Hp->VK->Prop):Prop :=
 ∀(pz:List (Addr×Obj)) (s:Shared) (σ:St) (H:Hp) (x:V) (v:Value) (Q:VK),Inv X pz σ H s->xi x v->r x H Q →
  wpAny (model X.prog X.w) X.A (f v) (EP X pz σ Q) X.xe s
def vi (X:Cx) (f:Value) (r:List V->Hp->VK->Prop):Prop :=
 ∀(pz:List (Addr×Obj)) (s:Shared) (σ:St) (H:Hp) (xs:List V) (us:List Value) (Q:VK),Inv X pz σ H s->xa xs us->r xs H Q →
  wpAny (model X.prog X.w) X.A (call f us) (EP X pz σ Q) X.xe s
def TruR (X:Cx) (r:V->Hp->(Bool->Hp->Prop)->Prop):Prop :=
 ∀(pz:List (Addr×Obj)) (s:Shared) (σ:St) (H:Hp) (x:V) (v:Value) (Q:Bool->Hp->Prop),Inv X pz σ H s->xi x v->r x H Q →
  wpAny (model X.prog X.w) X.A (truthy v) (TP X pz σ Q) X.xe s
def tOp (r:R2) (ta tb:TE):TE:=λσ H Q=>ta σ H λx H1=>tb σ H1 λy H2=>r x y H2 Q
def tUn (r:V->Hp->VK->Prop) (ta:TE):TE:=λσ H Q=>ta σ H λx H1=>r x H1 Q
inductive rIQ (C:Int->Int->Prop) (g:Int->Int->V) (x:V) (y:V) (H:Hp) (Q:VK):Prop
 | mk:∀i j,(x = .int i)->(y = .int j)->(C i j)->(Q (g i j) H)->rIQ C g x y H Q
def rI (C:Int->Int->Prop) (g:Int->Int->V):R2:=λx y H Q=>rIQ C g x y H Q
inductive zkj (g:Int->Int->V) (x:V) (y:V) (H:Hp) (Q:VK):Prop
 | mk:∀i j,(x = .int i)->(y = .int j)->(Q (g i j) H)->zkj g x y H Q
def rI0 (g:Int->Int->V):R2:=λx y H Q=>zkj g x y H Q
def rU (g:Int->V):V->Hp->VK->Prop:=λx H Q=>∃i,x = .int i/\Q (g i) H
section
variable {X:Cx}{a b c:Expr}{ta tb tc:TE}{pos:Pos}
theorem zhS (ha:PE X a ta) (hb:PE X b tb){pz:List (Addr×Obj)}{s:Shared}{σ:St}{H:Hp}{R:V->V->Hp->Prop}(I:Inv X pz σ H s)
  (h:ta σ H λx H1=>tb σ H1 λy H2=>R x y H2){Q:Value->Shared->Prop}{f:Value->Value->Sem Value}
  (hf:∀v u s2 x y H2,Inv X pz σ H2 s2->xi x v->xi y u->R x y H2->wpAny (model X.prog X.w) X.A (f v u) Q X.xe s2) :
  wpAny (model X.prog X.w) X.A (eval a X.env) (λv s₁=>wpAny (model X.prog X.w) X.A (eval b X.env) (λu s₂=>wpAny (model X.prog X.w) X.A (f v u) Q X.xe s₂) X.xe s₁) X.xe s:=by
 refine thn (ha pz s σ H _ I h) λv s1 ⟨x,H1,I1,r1,q1⟩=>?_
 refine thn (hb pz s1 σ H1 _ I1 q1) λu s2 ⟨y,H2,I2,r2,q2⟩=>?_
 exact hf v u s2 x y H2 I2 r1 r2 q2
theorem zr {op:Operator}{r:R2}(ho:OpR X (binaryOp op) r) (ha:PE X a ta) (hb:PE X b tb):PE X (.BinOp a op b pos) (tOp r ta tb):=by
 intro pz s σ H Q I h
 exact wpAny_BinOp (zhS ha hb I h λv u s2 x y H2 I2 rx ry q=>ho pz s2 σ H2 x y v u Q I2 rx ry q)
theorem qL {op:UnaryOp}{r:V->Hp->VK->Prop}(ho:UnR X (unaryOp op) r) (ha:PE X a ta):PE X (.UnaryOp op a pos) (tUn r ta):=by
 intro pz s σ H Q I h
 exact UnaryOp_ (thn (ha pz s σ H _ I h) λv s1 ⟨x,H1,I1,r1,q1⟩=>ho pz s1 σ H1 x v Q I1 r1 q1)
theorem opI {f:Value->Value->Sem Value}{C:Int->Int->Prop}{g:Int->Int->Int}
  (rule:∀(i j:Int) (t u:Tok) (s:Shared) (Q:Value->Shared->Prop) (E:Value->Shared->Prop),C i j->Q (.int (g i j) s.toks) { s with toks:=s.toks+1 }->wpAny (model X.prog X.w) X.A (f (.int i t) (.int j u)) Q E s) :
  OpR X f (rI C λi j=>.int (g i j)):=by
 intro pz s σ H x y v u Q I rx ry h
 obtain⟨i,j,rfl,rfl,hc,q⟩:=h
 obtain⟨t,rfl⟩:=rx
 obtain⟨t',rfl⟩:=ry
 exact rule i j t t' s _ _ hc ⟨.int (g i j),H,I.tok _,⟨_,rL⟩,q⟩
theorem zkb {f:Value->Value->Sem Value}{g:Int->Int->Int}
  (rule:∀(i j:Int) (t u:Tok) (s:Shared) (Q:Value->Shared->Prop) (E:Value->Shared->Prop),Q (.int (g i j) s.toks) { s with toks:=s.toks+1 }->wpAny (model X.prog X.w) X.A (f (.int i t) (.int j u)) Q E s) :
  OpR X f (rI0 λi j=>.int (g i j)):=by
 intro pz s σ H x y v u Q I rx ry h
 obtain⟨i,j,rfl,rfl,q⟩:=h
 obtain⟨t,rfl⟩:=rx
 obtain⟨t',rfl⟩:=ry
 exact rule i j t t' s _ _ ⟨.int (g i j),H,I.tok _,⟨_,rL⟩,q⟩
theorem zgt {f:Value->Value->Sem Value}{g:Int->Int->Bool}
  (rule:∀(i j:Int) (t u:Tok) (s:Shared) (Q:Value->Shared->Prop) (E:Value->Shared->Prop),Q (.bool (g i j)) s->wpAny (model X.prog X.w) X.A (f (.int i t) (.int j u)) Q E s) :
  OpR X f (rI0 λi j=>.bl (g i j)):=by
 intro pz s σ H x y v u Q I rx ry h
 obtain⟨i,j,rfl,rfl,q⟩:=h
 obtain⟨t,rfl⟩:=rx
 obtain⟨t',rfl⟩:=ry
 exact rule i j t t' s _ _ ⟨.bl (g i j),H,I,rL,q⟩
def CDiv (i j:Int):Prop:=0<j/\j<1073741824
def CPow (i j:Int):Prop:=0<=j/\j<=1000000/\i.natAbs<2^64
def zhK (i j:Int):Prop:=(-(2^64)<i/\i<2^64)\/(-(2^64)<j/\j<2^64)
theorem zhK.ok {i j:Int}(h:zhK i j):IntMulOk i j:=by
 rcases h with⟨h1,h2⟩ | ⟨h1,h2⟩
 ·exact .of_left (intBits_le_64 h1 h2)
 ·exact .of_right (intBits_le_64 h1 h2)
theorem xg:OpR X (binaryOp .Add) (rI0 λi j=>.int (i+j)):=zkb λ_ _ _ _ _ _ _ q=>add_int q
theorem x6:OpR X (binaryOp .Sub) (rI0 λi j=>.int (i - j)):=zkb λ_ _ _ _ _ _ _ q=>sub_int q
theorem Xl:OpR X (binaryOp .Mult) (rI zhK λi j=>.int (i*j)):=opI λ_ _ _ _ _ _ _ hc q=>mul_int q hc.ok
theorem zca:OpR X (binaryOp .FloorDiv) (rI CDiv λi j=>.int (i/j)):=opI λi j _ _ _ _ _ hc q=>by
 have h1:(0:Int)<j:=hc.1
 have h2:j<1073741824:=hc.2
 exact floordiv_int (by omega) (by rw[wq i (by omega)];exact q) (.inl (PyProof.noPylong_small (by omega)))
theorem qX:OpR X (binaryOp .Mod) (rI (λ_ j=>0<j) λi j=>.int (i % j)):=opI λi j _ _ _ _ _ hc q=>by
 exact mod_int' ∅ (by rw[Int.fmod_eq_emod_of_nonneg i ∅];exact q)
theorem Qr:OpR X (binaryOp .Pow) (rI CPow λi j=>.int (i^j.toNat)):=opI λ_ _ _ _ _ _ _ hc q=>pow_int_small hc.1 hc.2.1 hc.2.2 q
theorem unI {f:Value->Sem Value}{g:Int->Int}
  (rule:∀(i:Int) (t:Tok) (s:Shared) (Q:Value->Shared->Prop) (E:Value->Shared->Prop),Q (.int (g i) s.toks) { s with toks:=s.toks+1 }->wpAny (model X.prog X.w) X.A (f (.int i t)) Q E s) :
  UnR X f (rU λi=>.int (g i)):=by
 intro pz s σ H x v Q I rx h
 obtain⟨i,rfl,q⟩:=h
 obtain⟨t,rfl⟩:=rx
 exact rule i t s _ _ ⟨.int (g i),H,I.tok _,⟨_,rL⟩,q⟩
theorem qc:UnR X (unaryOp .USub) (rU λi=>.int (-i)):=unI λ_ _ _ _ _ q=>neg_int q
end
def zkr:V->V->Bool
 | .non,.non=>true | .non,.int _=>true | .int _,.non=>true | .non,.bl _=>true | .bl _,.non=>true | .non,.str _=>true | .str _,.non=>true
 | .int _,.int _=>true | .bl _,.bl _=>true | .str _,.str _=>true | .byt _,.byt _=>true
 | .int _,.str _=>true | .str _,.int _=>true | .bl _,.str _=>true | .str _,.bl _=>true
 | _,_=>false
def rEq:R2:=λx y H Q=>zkr x y=true/\Q (.bl (decide (x=y))) H
def rNe:R2:=λx y H Q=>zkr x y=true/\Q (.bl (!decide (x=y))) H
theorem zbP {i j:Int}:decide (V.int i=V.int j)=(i == j):=by
 rw[uR]
 simp
theorem zdO {i j:Bool}:decide (V.bl i=V.bl j)=(i == j):=by
 rw[uR]
 simp
theorem zbQ {i j:Str}:decide (V.str i=V.str j)=(i == j):=by
 rw[uR]
 simp
theorem zbO {i j:Array UInt8}:decide (V.byt i=V.byt j)=(i.toList == j.toList):=by
 rw[uR]
 cases i
 cases j
 simp
section
variable {X:Cx}{a b c:Expr}{ta tb tc:TE}{pos:Pos}
theorem xl {pz:List (Addr×Obj)}{σ:St}{H:Hp}{s:Shared}{Q:VK}{k k':Bool}(I:Inv X pz σ H s) (q:Q (.bl k) H) (e:k=k'):EP X pz σ Q (.bool k') s:=by
 subst e
 exact⟨.bl k,H,I,rL,q⟩
theorem Zb:OpR X (compareOp .Eq) rEq:=by
 intro pz s σ H x y v u Q I rx ry h
 obtain⟨hs,q⟩:=h
 cases x with
 | non =>
  cases rx
  cases y with
  | non=>cases ry;exact PySem.EqNone.eq_none_none (xl I q (by simp))
  | bl j=>cases ry;exact PySem.EqNone.eq_none_bool (xl I q (by simp))
  | int j=>obtain⟨t',rfl⟩:=ry;exact PySem.EqNone.eq_none_int (xl I q (by simp))
  | str j=>obtain⟨t',rfl⟩:=ry;exact PySem.EqNone.eq_none_str (xl I q (by simp))
  | _=>exact absurd (show false=true from hs) wZ
 | bl i =>
  cases rx
  cases y with
  | non=>cases ry;exact PySem.EqNone.eq_bool_none (xl I q (by simp))
  | bl j=>cases ry;exact eq_bool (xl I q zdO)
  | str j=>obtain⟨t',rfl⟩:=ry;exact PySem.EqMixed.eq_bool_str (xl I q (by simp))
  | _=>exact absurd (show false=true from hs) wZ
 | int i =>
  obtain⟨t,rfl⟩:=rx
  cases y with
  | non=>cases ry;exact PySem.EqNone.eq_int_none (xl I q (by simp))
  | int j=>obtain⟨t',rfl⟩:=ry;exact eq_int (xl I q zbP)
  | str j=>obtain⟨t',rfl⟩:=ry;exact PySem.EqMixed.eq_int_str (xl I q (by simp))
  | _=>exact absurd (show false=true from hs) wZ
 | str i =>
  obtain⟨t,rfl⟩:=rx
  cases y with
  | non=>cases ry;exact PySem.EqNone.eq_str_none (xl I q (by simp))
  | bl j=>cases ry;exact PySem.EqMixed.eq_str_bool (xl I q (by simp))
  | int j=>obtain⟨t',rfl⟩:=ry;exact PySem.EqMixed.eq_str_int (xl I q (by simp))
  | str j=>obtain⟨t',rfl⟩:=ry;exact eq_str (xl I q zbQ)
  | _=>exact absurd (show false=true from hs) wZ
 | byt i =>
  obtain⟨t,rfl⟩:=rx
  cases y with
  | byt j=>obtain⟨t',rfl⟩:=ry;exact PySem.W.eq_bytes (xl I q zbO)
  | _=>exact absurd (show false=true from hs) wZ
 | _=>cases y <;> exact absurd (show false=true from hs) wZ
theorem zkd:OpR X (compareOp .NotEq) rNe:=by
 intro pz s σ H x y v u Q I rx ry h
 obtain⟨hs,q⟩:=h
 cases x with
 | non =>
  cases rx
  cases y with
  | non=>cases ry;exact PySem.EqNone.ne_none_none (xl I q (by simp))
  | bl j=>cases ry;exact PySem.EqNone.ne_none_bool (xl I q (by simp))
  | int j=>obtain⟨t',rfl⟩:=ry;exact PySem.EqNone.ne_none_int (xl I q (by simp))
  | str j=>obtain⟨t',rfl⟩:=ry;exact PySem.EqNone.ne_none_str (xl I q (by simp))
  | _=>exact absurd (show false=true from hs) wZ
 | bl i =>
  cases rx
  cases y with
  | non=>cases ry;exact PySem.EqNone.ne_bool_none (xl I q (by simp))
  | bl j=>cases ry;exact ne_bool (xl I q (congrArg not zdO))
  | str j=>obtain⟨t',rfl⟩:=ry;exact PySem.EqMixed.ne_bool_str (xl I q (by simp))
  | _=>exact absurd (show false=true from hs) wZ
 | int i =>
  obtain⟨t,rfl⟩:=rx
  cases y with
  | non=>cases ry;exact PySem.EqNone.ne_int_none (xl I q (by simp))
  | int j=>obtain⟨t',rfl⟩:=ry;exact ne_int (xl I q (congrArg not zbP))
  | str j=>obtain⟨t',rfl⟩:=ry;exact PySem.EqMixed.ne_int_str (xl I q (by simp))
  | _=>exact absurd (show false=true from hs) wZ
 | str i =>
  obtain⟨t,rfl⟩:=rx
  cases y with
  | non=>cases ry;exact PySem.EqNone.ne_str_none (xl I q (by simp))
  | bl j=>cases ry;exact PySem.EqMixed.ne_str_bool (xl I q (by simp))
  | int j=>obtain⟨t',rfl⟩:=ry;exact PySem.EqMixed.ne_str_int (xl I q (by simp))
  | str j=>obtain⟨t',rfl⟩:=ry;exact ne_str (xl I q (congrArg not zbQ))
  | _=>exact absurd (show false=true from hs) wZ
 | byt i =>
  obtain⟨t,rfl⟩:=rx
  cases y with
  | byt j=>obtain⟨t',rfl⟩:=ry;exact PySem.W.ne_bytes (xl I q (congrArg not zbO))
  | _=>exact absurd (show false=true from hs) wZ
 | _=>cases y <;> exact absurd (show false=true from hs) wZ
theorem vN:OpR X (compareOp .Lt) (rI0 λi j=>.bl (decide (i<j))):=zgt λ_ _ _ _ _ _ _ q=>lt_int q
theorem zeB:OpR X (compareOp .LtE) (rI0 λi j=>.bl (decide (i<=j))):=zgt λ_ _ _ _ _ _ _ q=>le_int q
theorem Zt:OpR X (compareOp .Gt) (rI0 λi j=>.bl (decide (j<i))):=zgt λ_ _ _ _ _ _ _ q=>gt_int q
theorem zkc:OpR X (compareOp .GtE) (rI0 λi j=>.bl (decide (j<=i))):=zgt λ_ _ _ _ _ _ _ q=>ge_int q
theorem qC:OpR X (compareOp .Is) (λx y H Q=>y = .non/\Q (.bl (decide (x = .non))) H):=by
 intro pz s σ H x y v u Q I rx ry h
 obtain⟨rfl,q⟩:=h
 cases ry
 refine is_none_gen (xl I q ?_)
 cases x <;> first
  | (cases rx;rfl)
  | (obtain⟨t,rfl⟩:=rx;rfl)
theorem vO:OpR X (compareOp .IsNot) (λx y H Q=>y = .non/\Q (.bl (!decide (x = .non))) H):=by
 intro pz s σ H x y v u Q I rx ry h
 obtain⟨rfl,q⟩:=h
 cases ry
 refine isnot_none_gen (xl I q ?_)
 cases x <;> first
  | (cases rx;rfl)
  | (obtain⟨t,rfl⟩:=rx;rfl)
theorem zF (b:Expr){op:CmpOp}(h:op≠.In:=by decide) (h2:op≠.NotIn:=by decide):behindInMarks op b=false:=by
 have e1:(op == CmpOp.In)=false:=by cases op <;> first | rfl | exact absurd rfl h
 have e2:(op == CmpOp.NotIn)=false:=by cases op <;> first | rfl | exact absurd rfl h2
 cases b <;> simp[behindInMarks,e1,e2]
theorem qm {op:CmpOp}{r:R2}(ho:OpR X (compareOp op) r) (ha:PE X a ta) (hb:PE X b tb) (hm:behindInMarks op b=false):PE X (.Compare a [op] [b] pos) (tOp r ta tb):=by
 intro pz s σ H Q I h
 exact wpAny_Compare1 (zhS ha hb I h λv u s2 x y H2 I2 rx ry q=>ho pz s2 σ H2 x y v u Q I2 rx ry q) hm
def zhG (t:TE):TT:=λσ H Q=>t σ H λx H'=>∃k,x = .bl k/\Q k H'
theorem zE {op:CmpOp}{r:R2}(ho:OpR X (compareOp op) r) (ha:PE X a ta) (hb:PE X b tb) (hm:behindInMarks op b=false):PT X (.Compare a [op] [b] pos) (zhG (tOp r ta tb)):=by
 intro pz s σ H Q I h
 refine wpAny_isTrue_Compare1 (thn (ha pz s σ H _ I h) λv s1 ⟨x,H1,I1,r1,q1⟩=>thn (hb pz s1 σ H1 _ I1 q1) λu s2 ⟨y,H2,I2,r2,q2⟩ =>
  thn (ho pz s2 σ H2 x y v u _ I2 r1 r2 q2) λc s3 ⟨z,H3,I3,r3,k,e,q3⟩=>?_) hm
 subst e
 cases r3
 exact uy ⟨H3,I3,q3⟩
def zfv (r r':R2) (ta tb tc:TE):TE:=λσ H Q=>ta σ H λx H1=>tb σ H1 λy H2=>r x y H2 λz H3=>∃k,z = .bl k ∧
 (if k=true then tc σ H3 λw' H4=>r' y w' H4 Q else Q (.bl false) H3)
theorem zeD {op op':CmpOp}{r r':R2}(ho:OpR X (compareOp op) r) (ho':OpR X (compareOp op') r') (ha:PE X a ta) (hb:PE X b tb) (hc:PE X c tc)
  (hm:lastMarks [op,op'] [b,c]=false:=by with_unfolding_all rfl):PE X (.Compare a [op,op'] [b,c] pos) (zfv r r' ta tb tc):=by
 intro pz s σ H Q I h
 refine Compare_chain (thn (ha pz s σ H _ I h) λv s1 ⟨x,H1,I1,r1,q1⟩=>chain_link (thn (hb pz s1 σ H1 _ I1 q1) λu s2 ⟨y,H2,I2,r2,q2⟩ =>
  thn (ho pz s2 σ H2 x y v u _ I2 r1 r2 q2) λd s3 ⟨z,H3,I3,r3,k,e,q3⟩=>?_)) hm
 subst e
 cases r3
 refine uy ?_
 cases k with
 | false=>exact ite_ff ⟨.bl false,H3,I3,rfl,q3⟩
 | true=>exact ite_tt (chain_last (thn (hc pz s3 σ H3 _ I3 q3) λw' s4 ⟨z',H4,I4,r4,q4⟩=>ho' pz s4 σ H4 y z' u w' Q I4 r2 r4 q4))
theorem zaz {op op':CmpOp}{r r':R2}(ho:OpR X (compareOp op) r) (ho':OpR X (compareOp op') r') (ha:PE X a ta) (hb:PE X b tb) (hc:PE X c tc)
  (hm:lastMarks [op,op'] [b,c]=false:=by with_unfolding_all rfl):PT X (.Compare a [op,op'] [b,c] pos) (zhG (zfv r r' ta tb tc)):=by
 intro pz s σ H Q I h
 refine isTrue_chain (thn (ha pz s σ H _ I h) λv s1 ⟨x,H1,I1,r1,q1⟩=>test_link (thn (hb pz s1 σ H1 _ I1 q1) λu s2 ⟨y,H2,I2,r2,q2⟩ =>
  thn (ho pz s2 σ H2 x y v u _ I2 r1 r2 q2) λd s3 ⟨z,H3,I3,r3,k,e,q3⟩=>?_)) hm
 subst e
 cases r3
 refine uy ?_
 cases k with
 | false =>
  obtain⟨k',e',q'⟩:=q3
  cases e'
  exact ite_ff ⟨H3,I3,q'⟩
 | true =>
  refine ite_tt (test_last (thn (hc pz s3 σ H3 _ I3 q3) λw' s4 ⟨z',H4,I4,r4,q4⟩=>thn (ho' pz s4 σ H4 y z' u w' _ I4 r2 r4 q4) λd' s5 ⟨z2,H5,I5,r5,k2,e2,q5⟩=>?_))
  subst e2
  cases r5
  exact uy ⟨H5,I5,q5⟩
def zcC (K:Fg) (x:V) (H:Hp) (k:Bool):Prop :=
 match x with
 | .non=>k=false
 | .bl b=>k=b
 | .int i=>k=(i != 0)
 | .str y=>y.length<=sizeLine/\k=((y.length:Int) != 0)
 | .byt y=>y.size<=sizeLine/\k=((y.size:Int) != 0)
 | .ref p=>(∃xs,SqL K H p xs/\k = !xs.isEmpty)\/(∃xs,SqT K H p xs/\k = !xs.isEmpty)\/∃kvs,H p=some (.dK kvs)/\k = !kvs.isEmpty
 | _=>False
theorem za7 {κ:Type}{kvs:List (κ×V)}{vs:List (κ×Value)} (r:KV kvs vs):(!vs.isEmpty) = !kvs.isEmpty:=by
 cases r <;> rfl
theorem Vk {xs:List V}{its:List Value}(r:xa xs its):(!its.toArray.isEmpty) = !xs.isEmpty:=by
 cases r <;> simp
theorem JK:(sizeLine:Nat)<2^63:=by rw[sizeLine_eq];decide
theorem zjw:TruR X (λx H Q=>∃k,zcC X.K x H k/\Q k H):=by
 intro pz s σ H x v Q I rx h
 obtain⟨k,e,q⟩:=h
 have hs:sizeLine=16777216:=sizeLine_eq
 cases x with
 | non =>
  cases rx
  have e':k=false:=e
  subst e'
  exact truthy_none ⟨H,I,q⟩
 | bl b =>
  cases rx
  have e':k=b:=e
  subst e'
  exact uy ⟨H,I,q⟩
 | int i =>
  obtain⟨t,rfl⟩:=rx
  have e':k=(i != 0):=e
  subst e'
  exact PySem.P.truthy_int ⟨H,I,q⟩
 | str y =>
  obtain⟨t,rfl⟩:=rx
  obtain⟨hy,e'⟩:y.length<=sizeLine/\k=((y.length:Int) != 0):=e
  subst e'
  exact PySem.P.truthy_str ∅ ⟨H,I.tok _,q⟩
 | byt y =>
  obtain⟨t,rfl⟩:=rx
  obtain⟨hy,e'⟩:y.size<=sizeLine/\k=((y.size:Int) != 0):=e
  subst e'
  exact PySem.W.truthy_bytes ∅ ⟨H,I.tok _,q⟩
 | ref p =>
  cases rx
  have e':(∃xs,SqL X.K H p xs/\k = !xs.isEmpty)\/(∃xs,SqT X.K H p xs/\k = !xs.isEmpty)\/∃kvs,H p=some (.dK kvs)/\k = !kvs.isEmpty:=e
  rcases e' with⟨xs,hx,e'⟩ | ⟨xs,hx,e'⟩ | ⟨kvs,hx,e'⟩
  ·subst e'
   obtain⟨its,r,pl,hz⟩:=I.list hx
   have hlen:=r.length
   exact wpAny_truthy_list pl.isList (by simp only[wF];lia) ⟨H,I.tok _,by rw[Vk r];exact q⟩
  ·subst e'
   obtain⟨its,r,pl,hz⟩:=I.tuple hx
   have hlen:=r.length
   exact truthy_tuple pl (by simp only[wF];lia) ⟨H,I.tok _,by rw[Vk r];exact q⟩
  ·subst e'
   obtain⟨hz,hS,vs,r,m⟩:kvs.length<=sizeLine/\(p == sysModules)=false/\∃vs,KV kvs vs/\s.heap.DictOf (xU X.prog X.w) p vs:=I.hok p _ hx
   have hlen:kvs.length=vs.length:=Paired.length r
   exact wpAny_truthy_dict hS m ∅ ⟨H,I.tok _,by rw[za7 r];exact q⟩
 | _=>exact(show False from e).elim
theorem xD (ha:PE X a ta) (he:∀whole,isTrue a X.env whole=(do let v <-whole;standAt a.pos;holding [v] (truthy v))) :
  PT X a (λσ H Q=>ta σ H λx H'=>∃k,zcC X.K x H' k/\Q k H'):=by
 intro pz s σ H Q I h
 exact isTrue_plain (thn (ha pz s σ H _ I h) λv s1 ⟨x,H1,I1,r1,q1⟩=>zjw pz s1 σ H1 x v Q I1 r1 q1) (he _)
theorem ZU {x:V}{us:List Value}(r:xa [x] us):∃u,us=[u]/\xi x u:=by
 cases r with
 | cons r1 r2=>cases r2;exact⟨_,rfl,r1⟩
theorem Js {x y:V}{us:List Value}(r:xa [x,y] us):∃u w',us=[u,w']/\xi x u/\xi y w':=by
 cases r with
 | cons r1 r2 =>
  cases r2 with
  | cons r3 r4=>cases r4;exact⟨_,_,rfl,r1,r3⟩
theorem qH:vi X (.builtin "abs") (λxs H Q=>∃i,xs=[.int i]/\Q (.int (if i<0 then -i else i)) H):=by
 intro pz s σ H xs us Q I r h
 obtain⟨i,rfl,q⟩:=h
 obtain⟨u,rfl,t,rfl⟩:=ZU r
 exact call_abs_int λu tk=>⟨.int (if i<0 then -i else i),H,I.tok _,⟨_,rL⟩,q⟩
theorem VZ (hc:X.calm=true):vi X (.builtin "max") (λxs H Q=>∃i j,xs=[.int i,.int j]/\Q (.int (if j>i then j else i)) H):=by
 intro pz s σ H xs us Q I r h
 obtain⟨i,j,rfl,q⟩:=h
 obtain⟨u,w',rfl,⟨t,rfl⟩,⟨t',rfl⟩⟩:=Js r
 refine max_two_ints (I.ok.hd hc) λh' tk k=>⟨_,H,I.kept k,?_,q⟩
 by_cases hj:j>i
 ·rw[if_pos hj,if_pos hj];exact⟨_,rfl⟩
 ·rw[if_neg hj,if_neg hj];exact⟨_,rfl⟩
theorem zcG (hc:X.calm=true):vi X (.builtin "min") (λxs H Q=>∃i j,xs=[.int i,.int j]/\Q (.int (if j<i then j else i)) H):=by
 intro pz s σ H xs us Q I r h
 obtain⟨i,j,rfl,q⟩:=h
 obtain⟨u,w',rfl,⟨t,rfl⟩,⟨t',rfl⟩⟩:=Js r
 refine min_two_ints (I.ok.hd hc) λh' tk k=>⟨_,H,I.kept k,?_,q⟩
 by_cases hj:j<i
 ·rw[if_pos hj,if_pos hj];exact⟨_,rfl⟩
 ·rw[if_neg hj,if_neg hj];exact⟨_,rfl⟩
theorem VY:vi X (.type "int") (λxs H Q=>(∃i,xs=[.int i]/\Q (.int i) H)\/∃k,xs=[.bl k]/\Q (.int (if k then 1 else 0)) H):=by
 intro pz s σ H xs us Q I r h
 rcases h with⟨i,rfl,q⟩ | ⟨k,rfl,q⟩
 ·obtain⟨u,rfl,t,rfl⟩:=ZU r
  exact call_int_int ⟨.int i,H,I,⟨_,rL⟩,q⟩
 ·obtain⟨u,rfl,r1⟩:=ZU r
  cases r1
  exact call_int_bool ⟨.int (if k then 1 else 0),H,I.tok _,⟨_,rL⟩,q⟩
end
structure zcA (h:Heap) (x dx C:Addr) (mA:Str->Option Value):Prop where
 obj:h.get? x=some (PySem.W.instObj C dx)
 ns:h.Ns1 dx mA
 ne:dx≠x
theorem zc5 {h:Heap}{dx:Addr}{mA:Str->Option Value}(n:h.Ns1 dx mA):∃od,h.get? dx=some od/\∀name,PySem.W.lookIn name od=some (mA name):=by
 obtain⟨o,es,ep,ho,hd,hk,_,hm⟩:=n
 refine⟨o,ho,λname=>?_⟩
 have e:=hm name
 unfold nsFind findBy at e
 rw[<-Array.find?_toList]at e
 unfold PySem.W.lookIn
 rw[hd]
 try dsimp only
 split
 ·rename_i y q
  rw[q]at e
  exact congrArg some e
 ·rename_i q
  rw[q]at e
  have a:es.toList.any (·.refKey)=false:=by
   rw[List.any_eq_false]
   intro y hy
   obtain⟨z,t,hkey⟩:=hk y (Array.mem_toList_iff.mp hy)
   simp[DictEntry.refKey,hkey]
  have a':¬es.toList.any (·.refKey)=true:=by rw[a];exact wZ
  rw[if_neg a']
  exact congrArg some e
theorem zcA.look {h:Heap}{x dx C:Addr}{mA:Str->Option Value}(I:zcA h x dx C mA):∃od,PySem.W.InstAt h x (PySem.W.instObj C dx) C (some od)/\∀name,PySem.W.lookIn name od=some (mA name) :=
 let ⟨od,ho,hl⟩:=zc5 I.ns
 ⟨od,⟨I.obj,rfl,rfl,ho⟩,hl⟩
section
variable {prog:Program}{w:World}{A:Around}{E:Value->Shared->Prop}{s:Shared}{K:Fg}{x dx C f:Addr}{mA:Str->Option Value}{name:Str}{v:Value}
theorem zf8 {expr:Bool}{Q:Value->Shared->Prop}(X:K.In s.heap) (I:zcA s.heap x dx C mA) (hg:PySem.W.plainGet K C name=true) (hh:PySem.W.hasDictIn K C=true)
  (ha:PySem.W.findIn K (.ref C) name=some none) (hv:mA name=some v) (hv':PySem.W.handedIn v=true) (h:Q v { s with toks:=s.toks+1 }) :
  wpAny (model prog w) A (getAttr (.ref x) name expr) Q E s:=by
 obtain⟨od,J,hl⟩:=I.look
 exact PySem.W.get_value X J (PySem.W.plainGet_of hg).1 (PySem.W.findObj_own hh ha rfl (by rw[hl,hv])) hv' h
theorem zgW {ns:List Str}{Q:Unit->Shared->Prop}(X:K.In s.heap) (I:zcA s.heap x dx C mA)
  (hs:PySem.W.findIn K (.ref C) "__setattr__" = some (some (.builtin "object.__setattr__"))) (hp:PySem.W.plainOver K C=true) (ht:PySem.W.takerIn K C name=some none) (hh:PySem.W.hasDictIn K C=true)
  (hw:PySem.Within mA ns) (hsz:ns.length<=sizeLine)
  (h:∀h',zcA h' x dx C (λy=>if y=name then some v else mA y)->Heap.SameBut dx s.heap h'->Q () { s with heap:=h',toks:=s.toks+2 }) :
  wpAny (model prog w) A (setAttr (.ref x) name v) Q E s:=by
 obtain⟨od,J,hl⟩:=I.look
 refine PySem.W.set_plain X J hs (PySem.W.osa_open (s:={ s with toks:=s.toks+1 }) (r:=none) X J hp ht λb=>?_)
 obtain⟨cd,hc,hd'⟩:=PySem.W.any_some hh
 have hx:s.heap.get? x=some ⟨.ref C,some dx,.plain,#[]⟩:=I.obj
 refine wc (wj (wc (wc (wpAny_loadPart hx (wc (PySem.W.Looks.here (s:={ s with toks:=s.toks+1 }) (PySem.W.looks_clsIn X hc) ?_))))))
 rw[hd']
 refine wj (a:=some dx) (wc (wj (wc ?_)))
 refine wpAny_nsSet1 (s:={ s with toks:=s.toks+1 }) I.ns λh' hn2 hs2=>?_
 obtain⟨oD,esD,epD,hoD,hdD,hcD⟩:=hn2.count (PySem.Within.cons name v hw)
 refine wc (wpAny_lookBehind hoD (by rw[hdD];exact pastItsLine_dict (yH hcD (by rw[ww];lia))) ?_)
 exact wj (h _ ⟨(hs2.2 _ (Ne.symm I.ne)).trans I.obj,hn2,I.ne⟩ hs2)
theorem zer {R:Result->Shared->Prop}{vs:List Value}{kw:List (Str×Value)} (X:K.In s.heap) (hm:PySem.W.makesIn K C=true)
  (hi:PySem.W.findIn K (.ref C) "__init__" = some (some (.ref f))) (hf:PySem.W.typeIn K (.ref f)=some (.type "function"))
  (h:codeAny (model prog w) (A.under (.builtin "type.__call__" ⟨.ref C::vs,kw⟩)) (.call (.ref f) ⟨.ref (s.heap.objs.size+1)::vs,kw⟩) (PySem.W.InitBack (s.heap.objs.size+1) R)
   { s with heap:=(s.heap.push PySem.W.emptyDict).push (PySem.W.instObj C s.heap.objs.size) }) :
  codeAny (model prog w) A (.call (.ref C) ⟨vs,kw⟩) R s:=by
 obtain⟨hh,g,d,t,os⟩:=s
 exact PySem.W.make_core (PySem.W.makes_of X hm) (PySem.W.looks_findIn X hi) (λself=>PySem.W.bind_fn X self hf) (.inl rL) h
end
def xR (f:Str) (v:V):List (Str×V)->List (Str×V)
 | []=>[(f,v)]
 | (g,x)::r=>if g=f then(g,v)::r else(g,x)::xR f v r
theorem xu (f g:Str) (v:V):∀fs:List (Str×V),(xR f v fs).lookup g=if g=f then some v else fs.lookup g
 | []=>by
  show List.lookup g [(f,v)]=_
  by_cases h:g=f
  ·have hb:(g == f)=true:=beq_iff_eq.mpr h
   simp only[List.lookup,hb,if_pos h]
  ·have hb:(g == f)=false:=beq_eq_false_iff_ne.mpr h
   simp only[List.lookup,hb,if_neg h]
 | (k,x)::r=>by
  have ih:=xu f g v r
  rw[show xR f v ((k,x)::r)=(if k=f then(k,v)::r else(k,x)::xR f v r)from rfl]
  by_cases hk:k=f
  ·rw[if_pos hk]
   by_cases h:g=k
   ·have hb:(g == k)=true:=beq_iff_eq.mpr h
    simp only[List.lookup,hb,if_pos (h.trans hk)]
   ·have hb:(g == k)=false:=beq_eq_false_iff_ne.mpr h
    simp only[List.lookup,hb,if_neg (λe:g=f=>h (e.trans hk.symm))]
  ·rw[if_neg hk]
   by_cases h:g=k
   ·have hb:(g == k)=true:=beq_iff_eq.mpr h
    simp only[List.lookup,hb,if_neg (λe:g=f=>hk (h.symm.trans e))]
   ·have hb:(g == k)=false:=beq_eq_false_iff_ne.mpr h
    simp only[List.lookup,hb]
    exact ih
theorem Qo (f:Str) (v:V):∀fs:List (Str×V),f∈(xR f v fs).map (·.1)/\∀g,g∈fs.map (·.1)->g∈(xR f v fs).map (·.1)
 | []=>⟨by simp[xR],λg h=>by simp at h⟩
 | (k,x)::r=>by
  obtain⟨i1,i2⟩:=Qo f v r
  rw[show xR f v ((k,x)::r)=(if k=f then(k,v)::r else(k,x)::xR f v r)from rfl]
  by_cases hk:k=f
  ·rw[if_pos hk]
   subst hk
   exact⟨by simp,λg h=>by simpa using h⟩
  ·rw[if_neg hk]
   refine⟨?_,λg h=>?_⟩
   ·rw[yA]
    exact wO _ i1
   ·rw[yA]at h ⊢
    rcases wx.mp h with e | e
    ·exact wx.mpr (.inl e)
    ·exact wO _ (i2 g e)
theorem QM (f:Str) (v:V):∀fs:List (Str×V),(xR f v fs).length<=fs.length+1
 | []=>by simp[xR]
 | (k,x)::r=>by
  have ih:=QM f v r
  rw[show xR f v ((k,x)::r)=(if k=f then(k,v)::r else(k,x)::xR f v r)from rfl]
  by_cases hk:k=f
  ·rw[if_pos hk,ww,ww];lia
  ·rw[if_neg hk,ww,ww];lia
theorem Vf.some_of {v:V}{o:Option Value}(r:Vf (some v) o):∃u,o=some u/\xi v u:=by
 cases o with
 | none=>exact(show False from r).elim
 | some u=>exact⟨u,rfl,r⟩
theorem zcT {v:V}{u:Value}(r:xi v u):PySem.W.handedIn u=true:=by
 cases v with
 | non=>cases(show u=Value.none from r);rfl
 | bl b=>cases(show u=Value.bool b from r);rfl
 | int i=>obtain⟨t,e⟩:=(show ∃t,u=Value.int i t from r);cases e;rfl
 | str x=>obtain⟨t,e⟩:=(show ∃t,u=Value.str x t from r);cases e;rfl
 | byt b=>obtain⟨t,e⟩:=(show ∃t,u=Value.bytes b t from r);cases e;rfl
 | flt b=>obtain⟨t,e⟩:=(show ∃t,u=Value.float b t from r);cases e;rfl
 | ref a=>cases(show u=Value.ref a from r);rfl
 | ty n=>cases(show u=Value.type n from r);rfl
section
variable {P:Program}{w:World}{H H':Hp}{h h':Heap}{a C dx:Addr}{fs fs':List (Str×V)}
theorem XW (hok:HOk P w H h) (e:H a=some (.ins C dx fs)):∃mA,zcA h a dx C mA/\(∀f,Vf (fs.lookup f) (mA f))/\PySem.Within mA (fs.map (·.1))/\fs.length<=1000/\H dx=some (.own a):=by
 obtain⟨d,z,ne,ob,mA,n,r,q⟩:=(show xE P w H h a (.ins C dx fs)from hok a _ e)
 exact⟨mA,⟨ob,n,ne⟩,r,q,z,d⟩
end
structure Cls (K:Fg) (C:Addr):Prop where
 pg:PySem.W.plainGet K C Str.empty=true
 hd:PySem.W.hasDictIn K C=true
 po:PySem.W.plainOver K C=true
 sa:PySem.W.findIn K (.ref C) "__setattr__" = some (some (.builtin "object.__setattr__"))
theorem Cls.get {K:Fg}{C:Addr}(c:Cls K C) (f:Str):PySem.W.plainGet K C f=true:=c.pg
def qk (K:Fg) (C:Addr) (f:Str):Prop:=PySem.W.findIn K (.ref C) f=some none
theorem qk.taker {K:Fg}{C:Addr}{f:Str}(n:qk K C f):PySem.W.takerIn K C f=some none:=by
 unfold PySem.W.takerIn
 rw[show PySem.W.findIn K (.ref C) f=some none from n]
 rfl
section
variable {X:Cx}{pz:List (Addr×Obj)}{σ:St}{H:Hp}{s:Shared}{a C dx:Addr}{fs:List (Str×V)}{f:Str}{v:V}{A:Around}{E:Value->Shared->Prop}
theorem Vj {b:Bool}{Q:Value->Shared->Prop}(I:Inv X pz σ H s) (e:H a=some (.ins C dx fs)) (c:Cls X.K C) (n:qk X.K C f) (l:fs.lookup f=some v)
  (h:∀u s',Inv X pz σ H s'->xi v u->Q u s'):wpAny (model X.prog X.w) A (getAttr (.ref a) f b) Q E s:=by
 obtain⟨mA,O,r,_,_,_⟩:=XW I.hok e
 obtain⟨u,hu,ru⟩:=Vf.some_of (v:=v) (o:=mA f) (by rw[<-l];exact r f)
 exact zf8 I.kIn O (c.get f) c.hd n hu (zcT ru) (h u _ (I.tok _) ru)
theorem Vy {y:V}{u:Value}{Q:Unit->Shared->Prop}(I:Inv X pz σ H s) (e:H a=some (.ins C dx fs)) (c:Cls X.K C) (n:qk X.K C f) (hl:fs.length<1000) (ry:xi y u)
  (h:∀s',Inv X pz σ (upd H a (.ins C dx (xR f y fs))) s'->Q () s'):wpAny (model X.prog X.w) A (setAttr (.ref a) f u) Q E s:=by
 obtain⟨mA,O,r,wi,_,ho⟩:=XW I.hok e
 have hz:(fs.map (·.1)).length<=sizeLine:=by rw[we,sizeLine_eq];lia
 refine zgW I.kIn O c.sa c.po n.taker c.hd wi hz λh' O' sb=>h _ ?_
 have hd:∃o,h'.get? dx=some o:=let ⟨o,_,_,e',_⟩:=O'.ns;⟨o,e'⟩
 refine I.write (x:=a) (e:=dx) (by rw[e];exact True.intro) (.inr ho) (λb q hb z=>(sb.2 b hb).trans z) hd ?_
 refine⟨by rw[zO O.ne];exact ho,?_,O.ne,O'.obj,_,O'.ns,λg=>?_,λg hg=>?_⟩
 ·have:=QM f y fs;lia
 ·show Vf ((xR f y fs).lookup g) (if g=f then some u else mA g)
  rw[xu]
  by_cases q:g=f
  ·rw[if_pos q,if_pos q];exact ry
  ·rw[if_neg q,if_neg q];exact r g
 ·by_cases q:g=f
  ·rw[q];exact(Qo f y fs).1
  ·refine(Qo f y fs).2 g (wi g λz=>hg ?_)
   show (if g=f then some u else mA g)=none
   rw[if_neg q];exact z
theorem Inv.made (I:Inv X pz σ H s):Inv X pz σ (upd (upd H s.heap.objs.size (.own (s.heap.objs.size+1))) (s.heap.objs.size+1) (.ins C s.heap.objs.size []))
  { s with heap:=(s.heap.push PySem.W.emptyDict).push (PySem.W.instObj C s.heap.objs.size) }:=by
 have e1:(s.heap.push PySem.W.emptyDict).get? s.heap.objs.size=some PySem.W.emptyDict:=wE s.heap rfl
 have e2:((s.heap.push PySem.W.emptyDict).push (PySem.W.instObj C s.heap.objs.size)).get? (s.heap.objs.size+1)=some (PySem.W.instObj C s.heap.objs.size):=by
  have:=wE (s.heap.push PySem.W.emptyDict) (o:=PySem.W.instObj C s.heap.objs.size) rfl
  rwa [Ws]at this
 have e3:(s.heap.push PySem.W.emptyDict).Ns s.heap.objs.size (λ_=>none):=⟨PySem.W.emptyDict,#[],_,e1,rfl,(λe he=>absurd he (by simp)),λ_=>rfl⟩
 have I1:=I.laid (a:=s.heap.objs.size) (o:=.own (s.heap.objs.size+1)) (h':=s.heap.push PySem.W.emptyDict) (t':=s.toks) (λb u q=>wf _ q) (wg _) ⟨_,e1⟩
 refine I1.laid (a:=s.heap.objs.size+1) (o:=.ins C s.heap.objs.size []) (t':=s.toks) (λb u q=>wf _ q) (WX (Ws _ _)) ?_
 have ne:s.heap.objs.size≠s.heap.objs.size+1:=wS (Yb _)
 refine⟨by rw[zO ne,zg],w8 _,ne,e2,λ_=>none,(Heap.Ns1.of_empty e3).at λo q=>wf _ q,λ_=>True.intro,λy hy=>absurd rfl hy⟩
theorem zfR {prog:Program}{w:World}{env:Env}{e:Expr}{f:Str}{pos:Pos}{s:Shared}{Q:Value->Shared->Prop}(hb:attributeBase e f env (eval e env)=eval e env)
  (h:wpAny (model prog w) A (eval e env) (λo s₁=>wpAny (model prog w) A (getAttr o f true) Q E s₁) E s):wpAny (model prog w) A (eval (.Attribute e f pos) env) Q E s :=
 Attribute_any_ h (by rw[arm_eval_Attribute,hb])
end
inductive zhD (K:Fg) (f:Str) (Q:VK) (x:V) (H1:Hp):Prop
 | mk:∀a C dx fs v,(x = .ref a)->(H1 a=some (.ins C dx fs))->(Cls K C)->(qk K C f)->(fs.lookup f=some v)->(Q v H1)->zhD K f Q x H1
def zkA (K:Fg) (ta:TE) (f:Str):TE:=λσ H Q=>ta σ H λx H1=>zhD K f Q x H1
def ziW (K:Fg) (ta tv:TE) (f:Str):TS:=λD σ H=>tv σ H λy H1=>ta σ H1 λx H2=>∃a C dx fs,x = .ref a/\H2 a=some (.ins C dx fs)/\Cls K C/\qk K C f/\fs.length<1000 ∧
 D.nx σ (upd H2 a (.ins C dx (xR f y fs)))
def zjy (X:Cx) (op:Operator) (rd:V->V->Hp->VK->Prop):Prop :=
 ∀(pz:List (Addr×Obj)) (s:Shared) (σ:St) (H:Hp) (x y:V) (u v:Value) (Q:VK),Inv X pz σ H s->xi x u->xi y v->rd x y H Q->wpAny (model X.prog X.w) X.A (inplaceOp op u v) (EP X pz σ Q) X.xe s
def zgN (K:Fg) (ta tv:TE) (rd:V->V->Hp->VK->Prop) (f:Str):TS:=λD σ H=>ta σ H λx H1=>∃a C dx fs v,x = .ref a/\H1 a=some (.ins C dx fs)/\Cls K C/\qk K C f/\fs.lookup f=some v ∧
 tv σ H1 λy H2=>rd v y H2 λz H3=>∃dx' fs',H3 a=some (.ins C dx' fs')/\fs'.length<1000/\D.nx σ (upd H3 a (.ins C dx' (xR f z fs')))
section
variable {X:Cx}{o e value:Expr}{f:Str}{pos pos' tpos:Pos}{ta tv:TE}
theorem xz (he:PE X e ta) (hb:attributeBase e f X.env (eval e X.env)=eval e X.env):PE X (.Attribute e f pos) (zkA X.K ta f):=by
 intro pz s σ H Q I h
 refine zfR hb (thn (he pz s σ H _ I h) λu s1 ⟨x,H1,I1,rx,a,C,dx,fs,v,ex,ea,c,n,l,q⟩=>?_)
 subst ex
 obtain rfl:u=Value.ref a:=rx
 exact Vj I1 ea c n l λu' s2 I2 ru=>⟨v,H1,I2,ru,q⟩
theorem vU (ha:PE X o ta) (hv:PE X value tv) (hs:swapsWith value (some (.Attribute o f pos')) pos.line X.env=pure false):PS X (.Assign [.Attribute o f pos'] value pos) (ziW X.K ta tv f):=by
 intro pz s σ H D I h
 refine plainObj_wpAny_Assign_Attribute (thn (hv pz s σ H _ I h) λu s1 ⟨y,H1,I1,ry,q⟩=>thn (ha pz s1 σ H1 _ I1 q) λov s2 ⟨x,H2,I2,rx,a,C,dx,fs,ex,ea,c,n,l,q2⟩=>?_) hs
 subst ex
 obtain rfl:ov=Value.ref a:=rx
 exact Vy I2 ea c n l ry λs3 I3=>⟨σ,_,I3,q2⟩
theorem Jj {op:Operator}{rd:V->V->Hp->VK->Prop}(ha:PE X o ta) (hv:PE X value tv) (hop:zjy X op rd):PS X (.AugAssign (.Attribute o f tpos) op value pos) (zgN X.K ta tv rd f):=by
 intro pz s σ H D I h
 refine wpAny_AugAssign_AttributeAny (thn (ha pz s σ H _ I h) λov s1 ⟨x,H1,I1,rx,a,C,dx,fs,v,ex,ea,c,n,l,q⟩=>?_)
 subst ex
 obtain rfl:ov=Value.ref a:=rx
 refine Vj I1 ea c n l λu s2 I2 ru=>thn (hv pz s2 σ H1 _ I2 q) λw3 s3 ⟨y,H2,I3,ry,q3⟩=>thn (hop pz s3 σ H2 v y u w3 _ I3 ru ry q3) λw4 s4 ⟨z,H3,I4,rz,dx',fs',ea',l',q4⟩=>?_
 exact Vy I4 ea' c n l' rz λs5 I5=>⟨σ,_,I5,q4⟩
end
section
variable {X:Cx}{pz:List (Addr×Obj)}{σ:St}{H:Hp}{s:Shared}{A:Around}{E:Value->Shared->Prop}{Q:Value->Shared->Prop}{c:Value}{b:Bool}
inductive Qj (K:Fg) (H:Hp):V->Value->Prop where
 | non:Qj K H .non (.type "NoneType")
 | bl (x:Bool):Qj K H (.bl x) (.type "bool")
 | int (i:Int):Qj K H (.int i) (.type "int")
 | str (x:Str):Qj K H (.str x) (.type "str")
 | flt (x:UInt64):Qj K H (.flt x) (.type "float")
 | lst {a:Addr}{xs:List V}(e:H a=some (.lst xs)):Qj K H (.ref a) (.type "list")
 | frz {a:Addr}{o:Obj}{xs:List V}(e:H a=some (.frz o (.lst xs))):Qj K H (.ref a) (.type "list")
 | tup {a:Addr}{xs:List V}(e:H a=some (.tup xs)):Qj K H (.ref a) (.type "tuple")
 | dK {a:Addr}{kvs:List (Key×V)} (e:H a=some (.dK kvs)):Qj K H (.ref a) (.type "dict")
 | dT {a:Addr}{kvs:List (List Key×V)} (e:H a=some (.dT kvs)):Qj K H (.ref a) (.type "dict")
 | ins {a C dx:Addr}{fs:List (Str×V)} (e:H a=some (.ins C dx fs)) (cl:Cls K C) (ha:PySem.W.findIn K (.ref C) "__class__" = some (some (.builtin "object.__class__")))
   (hn:PySem.W.specialIn K (.builtin "object.__class__") "__get__" = some (some (.builtin "getset_descriptor.__get__"))) (htk:PySem.W.takesIn K (.builtin "object.__class__")=some true)
   (hm:PySem.W.mroIn K C (.type "object")=some true):Qj K H (.ref a) (.ref C)
theorem zcW {x:V}{u t:Value}(I:Inv X pz σ H s) (rx:xi x u) (ty:Qj X.K H x t) (e:PySem.W.kitOne X.K t c=some b) (h:∀tk,Q (.bool b) { s with toks:=tk }) :
  wpAny (model X.prog X.w) A (call (.builtin "isinstance") [u,c]) Q E s:=by
 cases ty with
 | non=>cases(show u=Value.none from rx);exact uc PySem.W.kitx_none I.kIn True.intro e (λz=>nomatch z) h
 | bl y=>cases(show u=Value.bool y from rx);exact uc PySem.W.kitx_bool I.kIn True.intro e (λz=>nomatch z) h
 | int i=>obtain⟨t,q⟩:=(show ∃t,u=Value.int i t from rx);cases q;exact uc PySem.W.kitx_int I.kIn True.intro e (λz=>nomatch z) h
 | str y=>obtain⟨t,q⟩:=(show ∃t,u=Value.str y t from rx);cases q;exact uc PySem.W.kitx_str I.kIn True.intro e (λz=>nomatch z) h
 | flt y=>obtain⟨t,q⟩:=(show ∃t,u=Value.float y t from rx);cases q;exact uc PySem.W.kitx_float I.kIn True.intro e (λz=>nomatch z) h
 | @lst a xs ea =>
  cases(show u=Value.ref a from rx)
  obtain⟨_,_,n,_,h1⟩:=(show xE X.prog X.w H s.heap a (.lst xs)from I.hok a _ ea)
  exact uc PySem.W.kitx_list I.kIn ⟨_,h1,rL⟩ e (λz=>nomatch z) h
 | @frz a ob xs ea =>
  cases(show u=Value.ref a from rx)
  obtain⟨_,_,_,n,_,h1⟩:=(show xE X.prog X.w H s.heap a (.frz ob (.lst xs))from I.hok a _ ea)
  exact uc PySem.W.kitx_list I.kIn ⟨_,h1,rL⟩ e (λz=>nomatch z) h
 | @tup a xs ea =>
  cases(show u=Value.ref a from rx)
  obtain⟨_,_,_,p⟩:=(show xE X.prog X.w H s.heap a (.tup xs)from I.hok a _ ea)
  obtain⟨o,h1,h2,_⟩:=p
  exact uc PySem.W.kitx_tuple I.kIn ⟨o,h1,h2⟩ e (λz=>nomatch z) h
 | @dK a kvs ea =>
  cases(show u=Value.ref a from rx)
  obtain⟨_,_,vs,_,p⟩:=(show xE X.prog X.w H s.heap a (.dK kvs)from I.hok a _ ea)
  obtain⟨o,es,ep,h1,h2,_⟩:=p
  exact uc PySem.W.kitx_dict I.kIn ⟨o,h1,h2.1⟩ e (λz=>nomatch z) h
 | @dT a kvs ea =>
  cases(show u=Value.ref a from rx)
  obtain⟨_,_,xs,_,o,es,ep,h1,h2,_⟩:=(show xE X.prog X.w H s.heap a (.dT kvs)from I.hok a _ ea)
  exact uc PySem.W.kitx_dict I.kIn ⟨o,h1,h2.1⟩ e (λz=>nomatch z) h
 | @ins a C dx fs ea cl ha hn htk hm =>
  cases(show u=Value.ref a from rx)
  obtain⟨mA,O,_⟩:=XW I.hok ea
  obtain⟨od,J,_⟩:=O.look
  exact uc (PySem.W.kitx_own (cl.get _) cl.hd ha hn htk hm) I.kIn J e (λz=>nomatch z) h
end
structure z6 (k:Nat) (A:Around):Prop where
 hd:A.handled=none
 dp:A.depth+3*k+5<recursionLimit
 un:A.units+16*k+200<cLine
theorem z6.mono {j k:Nat}{A:Around}(r:z6 k A) (h:j<=k):z6 j A:=⟨r.hd,by have:=r.dp;lia,by have:=r.un;lia⟩
theorem z6.md {j k:Nat}{A:Around}(r:z6 k A) (h:j<=k:=by decide):z6 j A:=r.mono h
theorem z6.deeper {k:Nat}{A:Around}(r:z6 (k+1) A) (env:Env):z6 k (A.deeper env) :=
 ⟨r.hd,by have:=r.dp;show A.depth+1+3*k+5<_;lia,by have:=r.un;show A.units+3+16*k+200<_;lia⟩
theorem zbe {A:Around}{C:Addr}{us:List Value}{kw:List (Str×Value)}:(A.under (.builtin "type.__call__" ⟨.ref C::us,kw⟩)).depth=A.depth+1:=by
 first | rfl | simp[Around.under,Code.weight,Code.isCreation,Code.isGuard,Code.isCaller,Code.frames,Code.isFrame,guardIds]
theorem zbf {A:Around}{C:Addr}{us:List Value}{kw:List (Str×Value)}:(A.under (.builtin "type.__call__" ⟨.ref C::us,kw⟩)).units=A.units+1:=by
 first | rfl | simp[Around.under,Code.cUnits,Code.frames,Code.isFrame]
theorem z6.make {k:Nat}{A:Around}(r:z6 (k+1) A) (C:Addr) (us:List Value) (kw:List (Str×Value)):z6 k (A.under (.builtin "type.__call__" ⟨.ref C::us,kw⟩)) :=
 ⟨r.hd,by have:=r.dp;rw[zbe];lia,by have:=r.un;rw[zbf];lia⟩
theorem z6.depth {k:Nat}{A:Around}(r:z6 k A):A.depth<recursionLimit:=by have:=r.dp;lia
theorem z6.units {k:Nat}{A:Around}(r:z6 k A):A.units+64<cLine:=by have:=r.un;lia
def Zv:TA:=λ_ H Q=>Q [] H
def qo (ta:TE) (tr:TA):TA:=λσ H Q=>ta σ H λx H1=>tr σ H1 λxs H2=>Q (x::xs) H2
section
variable {X:Cx}{e:Expr}{es:List Expr}{te:TE}{t:TA}{pos:Pos}
theorem zd:PA X [] Zv:=λ_ _ _ _ H Q I h=>Calls.spliced_nil ⟨[],H,I,.nil,h⟩
theorem za (ha:PE X e te) (hr:PA X es t) (hs:starEach (e::es) X.env=(false,eval e X.env)::starEach es X.env:=by rfl):PA X (e::es) (qo te t):=by
 intro pos pz s σ H Q I h
 rw[hs]
 show wpAny _ _ (spliced ((false,eval e X.env)::backTo pos (starEach es X.env))) _ _ s
 refine Calls.spliced_cons (thn (ha pz s σ H _ I h) λu s1 ⟨x,H1,I1,r1,q1⟩=>?_)
 exact thn (hr pos pz s1 σ H1 _ I1 q1) λus s2 ⟨xs,H2,I2,r2,q2⟩=>⟨x::xs,H2,I2,.cons r1 r2,q2⟩
def zjr (t:TA):TE:=λσ H Q=>t σ H λxs H1=>xs.length<=sizeLine/\∀p,H1 p=none->Q (.ref p) (upd H1 p (.tup xs))
def tLst (t:TA):TE:=λσ H Q=>t σ H λxs H1=>xs.length<=sizeLine/\∀p,H1 p=none->Q (.ref p) (upd H1 p (.lst xs))
theorem zH {x1} (h:PA X es t):PE X (.Tuple es x1 pos) (zjr t):=by
 intro pz s σ H Q I hq
 refine wpAny_Tuple_spliced (thn (h pos pz s σ H _ I hq) λus s1 ⟨xs,H1,I1,r,z,q⟩=>⟨by rw[<-r.length];exact z,?_⟩)
 have hf:H1 s1.heap.objs.size=none:=I1.hok.fresh (wg _)
 refine⟨.ref s1.heap.objs.size,upd H1 s1.heap.objs.size (.tup xs),I1.laid (t':=s1.toks) (λb u e=>wf _ e) (wg _) ?_,rL,q _ hf⟩
 exact⟨z,us,r,⟨_,wE _ rL,rL,_,rL⟩⟩
theorem zV (h:PA X es t):PE X (.List es pos) (tLst t):=by
 intro pz s σ H Q I hq
 refine wpAny_List_spliced (thn (h pos pz s σ H _ I hq) λus s1 ⟨xs,H1,I1,r,z,q⟩=>⟨by rw[<-r.length];exact z,?_⟩)
 have hf:H1 s1.heap.objs.size=none:=I1.hok.fresh (wg _)
 refine⟨.ref s1.heap.objs.size,upd H1 s1.heap.objs.size (.lst xs),I1.laid (t':=s1.toks) (λb u e=>wf _ e) (wg _) ?_,rL,q _ hf⟩
 exact⟨z,us,0,r,wE _ rL⟩
end
abbrev Sp:=List V->Hp->VK->XK->Prop
abbrev CXT:=List Env->Hp->Shared->XK->Value->Shared->Prop
structure zaS (P:Program) (w:World) (K:Fg) (mg:Str->Option Value) (base:Heap) (A:Around) (outer:List Env) (s:Shared) (H:Hp):Prop where
 frames:A.frames=some outer
 mod:Mod K mg base
 bs:∀b o,base.get? b=some o->s.heap.get? b=some o/\H b=none
 bsz:base.objs.size<=s.heap.objs.size
 funs:s.heap.FunFrames base outer
 frf:∀b∈frs outer,H b=none
 hok:HOk P w H s.heap
 bare:AllBare s.gens
def CE (outer:List Env) (P:Program) (w:World) (H:Hp) (s:Shared) (Q:VK) (u:Value) (s':Shared):Prop :=
 ∃v H',s'.os=s.os/\AllBare s'.gens/\Un (frs outer) [] H H' s.heap s'.heap/\HOk P w H' s'.heap/\xi v u/\Q v H'
def CR (CX:CXT) (outer:List Env) (P:Program) (w:World) (H:Hp) (s:Shared) (Q:VK) (E:XK) (r:Result) (s':Shared):Prop :=
 match r with
 | .ok (.ret u)=>CE outer P w H s Q u s'
 | .ok _=>False
 | .error e=>CX outer H s E e s'
structure Zu (P:Program) (w:World) (K:Fg) (mg:Str->Option Value) (base:Heap) (CX:CXT) (k:Nat) (f:Addr) (fd:FuncData) (ps:List Str) (sp:Sp):Prop where
 len:∀vs H Q E,sp vs H Q E->vs.length=ps.length
 run:∀(A:Around) (outer:List Env) (s:Shared) (H:Hp) (args:Args) (us:List Value) (vs:List V) (Q:VK) (E:XK),z6 k A->zaS P w K mg base A outer s H->BindsTo s fd args (ps.zip us)->xa vs us->sp vs H Q E →
  codeAny (model P w) A (.call (.ref f) args) (CR CX outer P w H s Q E) s
theorem zaS.make {P:Program}{w:World}{K:Fg}{mg:Str->Option Value}{base:Heap}{A:Around}{outer:List Env}{s:Shared}{H:Hp}(e:zaS P w K mg base A outer s H) (C:Addr) (us:List Value) (kw:List (Str×Value)) :
  zaS P w K mg base (A.under (.builtin "type.__call__" ⟨.ref C::us,kw⟩)) outer s H:=⟨by first | exact e.frames | (simpa [Around.under,Code.envs,Code.isFrame,pushEnvs]using e.frames),e.mod,e.bs,e.bsz,e.funs,e.frf,e.hok,e.bare⟩
section
variable {X:Cx}{pz:List (Addr×Obj)}{σ:St}{H:Hp}{s s':Shared}
theorem Inv.env0 (I:Inv X pz σ H s):zaS X.prog X.w X.K X.mg X.base X.A X.stack s H :=
 ⟨I.ok.frames,I.ok.mod,I.bs,yH I.ok.bsz I.sz,I.stack,I.stkFree,I.hok,I.bare⟩
theorem Inv.after {Q:VK}{u:Value}(I:Inv X pz σ H s) (h:CE X.stack X.prog X.w H s Q u s'):EP X pz σ Q u s':=by
 obtain⟨v,H',os,bare,un,hok,r,q⟩:=h
 obtain⟨hh,g,d,t,os'⟩:=s'
 obtain rfl:os'=s.os:=os
 exact⟨v,H',I.call (h':=hh) (g':=g) (d':=d) (t':=t) (ch:=[]) un hok bare (λb z=>absurd z (by simp)),r,q⟩
end
def ZT (sp:Sp) (dvs:List V) (E:XK) (t:TA):TE:=λσ H Q=>t σ H λvs H1=>sp (vs++dvs) H1 Q E
def zkB (C:Addr) (sp:Sp) (dvs:List V) (E:XK) (t:TA):TE:=λσ H Q=>t σ H λvs H1=>∀x dx,H1 x=none->H1 dx=none->dx≠x →
 sp (.ref x::(vs++dvs)) (upd (upd H1 dx (.own x)) x (.ins C dx [])) (λv H2=>v = .non/\Q (.ref x) H2) E
def v5 (K:Fg) (fd:FuncData) (ps:List Str) (ds:List Value):Prop :=
 ∀(s:Shared) (us:List Value),K.In s.heap->(us++ds).length=ps.length->BindsTo s fd ⟨us,[]⟩ (ps.zip (us++ds))
theorem v5.all {K:Fg}{fd:FuncData}{ps:List Str}(h:∀us:List Value,us.length=ps.length->bindArgs fd ⟨us,[]⟩=pure (ps.zip us)):v5 K fd ps []:=λs us _ hl=>by
 rw[yB]at hl ⊢
 exact .of_eq (h us hl)
def Ve (CX:CXT) (X:Cx) (E:XK):Prop:=∀(pz:List (Addr×Obj)) (σ:St) (H:Hp) (s:Shared) (e:Value) (s':Shared),Inv X pz σ H s->CX X.stack H s E e s'->X.xe e s'
section
variable {X:Cx}{CX:CXT}{k:Nat}{f C:Addr}{fd:FuncData}{ps:List Str}{sp:Sp}{dvs:List V}{ds:List Value}{E:XK}{x m:Str}{p pos apos:Pos}{e o:Expr}{es:List Expr}{ta:TE}{t:TA}
theorem ziV {pz:List (Addr×Obj)}{σ:St}{H:Hp}{s:Shared}{Q:VK}{us:List Value}{vs:List V}(F:Zu X.prog X.w X.K X.mg X.base CX k f fd ps sp) (hr:z6 k X.A) (hb:v5 X.K fd ps ds) (hd:xa dvs ds) (hx:Ve CX X E)
  (I:Inv X pz σ H s) (r:xa vs us) (h:sp (vs++dvs) H Q E):wpAny (model X.prog X.w) X.A (call (.ref f) us) (EP X pz σ Q) X.xe s:=by
 have r2:xa (vs++dvs) (us++ds):=r.append hd
 have hl:(us++ds).length=ps.length:=by rw[<-r2.length];exact F.len _ _ _ _ h
 refine YQ (codeAny_mono (F.run X.A X.stack s H ⟨us,[]⟩ (us++ds) (vs++dvs) Q E hr I.env0 (hb s us I.kIn hl) r2 h) λr s' hq=>?_)
 cases r with
 | error e=>exact hx pz σ H s e s' I hq
 | ok fl =>
  cases fl with
  | ret u=>exact I.after hq
  | next=>exact False.elim hq
  | brk=>exact False.elim hq
  | cont=>exact False.elim hq
theorem zgx (F:Zu X.prog X.w X.K X.mg X.base CX k f fd ps sp) (hr:z6 k X.A) (hg:Gl X x) (hm:X.mg x=some (.ref f)) (hk:PySem.W.keepIn X.K (.ref f)=true) (hb:v5 X.K fd ps ds) (hd:xa dvs ds) (hx:Ve CX X E)
  (ha:PA X (e::es) t) (hdb:(x == ("__debug__":Str))=false:=by decide) (he:starEach (e::es) X.env=(false,eval e X.env)::starEach es X.env:=by rfl) (hpl:(backTo pos (starEach es X.env)).any (·.1)=false:=by rfl) :
  PE X (.Call (.Name x p) (e::es) [] pos) (ZT sp dvs E t):=by
 intro pz s σ H Q I h
 refine uo (Z4 I hg hm ?_ hdb)
 refine Yv (h₀:=X.base) I.ok.mod.kin hk (thn (ha pos pz s σ H _ I h) λus s1 ⟨vs,H1,I1,r,q⟩=>⟨I1.kIn,?_⟩) he hpl
 exact ziV F hr hb hd hx I1 r q
structure Mk (K:Fg) (C f:Addr):Prop where
 makes:PySem.W.makesIn K C=true
 init:PySem.W.findIn K (.ref C) "__init__" = some (some (.ref f))
 fn:PySem.W.isFn K (.ref f)=true
 kp:PySem.W.keepIn K (.ref C)=true
theorem zeV {pz:List (Addr×Obj)}{σ:St}{H:Hp}{s:Shared}{Q:VK}{us:List Value}{vs:List V}(M:Mk X.K C f) (F:Zu X.prog X.w X.K X.mg X.base CX k f fd ps sp) (hr:z6 (k+1) X.A) (hb:v5 X.K fd ps ds) (hd:xa dvs ds)
  (hx:Ve CX X E) (I:Inv X pz σ H s) (r:xa vs us)
  (h:∀x dx,H x=none->H dx=none->dx≠x->sp (.ref x::(vs++dvs)) (upd (upd H dx (.own x)) x (.ins C dx [])) (λv H2=>v = .non/\Q (.ref x) H2) E) :
  wpAny (model X.prog X.w) X.A (call (.ref C) us) (EP X pz σ Q) X.xe s:=by
 have hq:=h (s.heap.objs.size+1) s.heap.objs.size (I.hok.fresh (Nat.le_succ _)) (I.hok.fresh (wg _)) (wS (Yb _))
 have I2:=Inv.made (C:=C) I
 have r2:xa (V.ref (s.heap.objs.size+1)::(vs++dvs)) (Value.ref (s.heap.objs.size+1)::(us++ds)):=.cons rfl (r.append hd)
 have hl:(Value.ref (s.heap.objs.size+1)::us++ds).length=ps.length:=by
  have e:=r2.length
  rw[F.len _ _ _ _ hq]at e
  exact e.symm
 refine YQ (zer (f:=f) I.kIn M.makes M.init (beq_iff_eq.mp M.fn) (codeAny_mono (F.run _ X.stack _ _ ⟨Value.ref (s.heap.objs.size+1)::us,[]⟩ (Value.ref (s.heap.objs.size+1)::(us++ds)) _ _ E (hr.make C us [])
  (I2.env0.make C us []) (hb _ (Value.ref (s.heap.objs.size+1)::us) I2.kIn hl) r2 hq) λr s' hq'=>?_))
 cases r with
 | error e=>exact hx pz σ _ _ e s' I2 hq'
 | ok fl =>
  cases fl with
  | ret u =>
   obtain⟨v,H',I3,rv,ev,q3⟩:=I2.after hq'
   subst ev
   exact⟨rv,⟨V.ref (s.heap.objs.size+1),H',I3,rL,q3⟩⟩
  | next=>exact False.elim hq'
  | brk=>exact False.elim hq'
  | cont=>exact False.elim hq'
theorem zcc (M:Mk X.K C f) (F:Zu X.prog X.w X.K X.mg X.base CX k f fd ps sp) (hr:z6 (k+1) X.A) (hg:Gl X x) (hm:X.mg x=some (.ref C)) (hb:v5 X.K fd ps ds) (hd:xa dvs ds) (hx:Ve CX X E)
  (ha:PA X (e::es) t) (hdb:(x == ("__debug__":Str))=false:=by decide) (he:starEach (e::es) X.env=(false,eval e X.env)::starEach es X.env:=by rfl) (hpl:(backTo pos (starEach es X.env)).any (·.1)=false:=by rfl) :
  PE X (.Call (.Name x p) (e::es) [] pos) (zkB C sp dvs E t):=by
 intro pz s σ H Q I h
 refine uo (Z4 I hg hm ?_ hdb)
 refine Yv (h₀:=X.base) I.ok.mod.kin M.kp (thn (ha pos pz s σ H _ I h) λus s1 ⟨vs,H1,I1,r,q⟩=>⟨I1.kIn,?_⟩) he hpl
 exact zeV M F hr hb hd hx I1 r q
end
structure zA (N P:List Str) (sc:Scope):Prop where
 kind:sc.kind = .function
 co:sc.isCoroutine=false
 gen:sc.isGenerator=false
 nd:N.Nodup
 pre:N.take P.length=P
 par:∀x∈P,sc.names.lookup x=some .local ∨ sc.names.lookup x=some .cell
 nofree:∀y∈sc.names,y.2≠.free
theorem scq {N P:List Str}{sc:Scope}(a:sc.kind = .function:=by rfl) (b:sc.isCoroutine=false:=by rfl) (c:sc.isGenerator=false:=by rfl) (d:N.Nodup:=by decide +kernel) (e:N.take P.length=P:=by rfl) (f:∀x∈P,sc.names.lookup x=some .local ∨ sc.names.lookup x=some .cell:=by decide +kernel) (g:∀y∈sc.names,y.2≠.free:=by decide +kernel):zA N P sc:=⟨a,b,c,d,e,f,g⟩
theorem VX {kindOf:Str->Option NameKind}{x:Str}:∀{binds:List (Str×Value)}{m:Str->Option Value},(∀v,(x,v)∉binds)->bindL kindOf binds m x=m x
 | [],_,_=>rfl
 | (n,v)::r,m,h=>by
  unfold bindL
  rw[VX λw hw=>h w (wO _ hw)]
  split
  ·have:x≠n:=by rintro rfl;exact h v wH
   simp[this]
  ·rfl
theorem VV {kindOf:Str->Option NameKind}{x:Str}:∀{binds:List (Str×Value)}{m:Str->Option Value},(∀v,(x,v)∉binds)->bindC kindOf binds m x=m x
 | [],_,_=>rfl
 | (n,v)::r,m,h=>by
  unfold bindC
  rw[VV λw hw=>h w (wO _ hw)]
  split
  ·rfl
  ·have:x≠n:=by rintro rfl;exact h v wH
   simp[this]
theorem VW {kindOf:Str->Option NameKind}{x:Str}{v:Value}:∀{P:List Str}{vs:List Value}{i:Nat}{m:Str->Option Value},P.Nodup->P[i]? = some x->vs[i]? = some v->kindOf x=some .local →
  bindL kindOf (P.zip vs) m x=some v
 | [],_,_,_,_,h,_,_=>by simp at h
 | _::_,[],_,_,_,_,h,_=>by simp at h
 | p::P,w::vs,0,m,nd,h1,h2,hk=>by
  simp at h1 h2;subst h1;subst h2
  show bindL kindOf ((p,w)::P.zip vs) m p=_
  unfold bindL
  rw[VX λv hv=>(uS.mp nd).1 (Y6 hv).1,if_pos hk]
  simp
 | p::P,w::vs,i+1,m,nd,h1,h2,hk=>by
  show bindL kindOf ((p,w)::P.zip vs) m x=_
  unfold bindL
  exact VW (i:=i) (uS.mp nd).2 (by simpa using h1) (by simpa using h2) hk
theorem VU {kindOf:Str->Option NameKind}{x:Str}{v:Value}:∀{P:List Str}{vs:List Value}{i:Nat}{m:Str->Option Value},P.Nodup->P[i]? = some x->vs[i]? = some v->kindOf x≠some .local →
  bindC kindOf (P.zip vs) m x=some v
 | [],_,_,_,_,h,_,_=>by simp at h
 | _::_,[],_,_,_,_,h,_=>by simp at h
 | p::P,w::vs,0,m,nd,h1,h2,hk=>by
  simp at h1 h2;subst h1;subst h2
  show bindC kindOf ((p,w)::P.zip vs) m p=_
  unfold bindC
  rw[VV λv hv=>(uS.mp nd).1 (Y6 hv).1,if_neg hk]
  simp
 | p::P,w::vs,i+1,m,nd,h1,h2,hk=>by
  show bindC kindOf ((p,w)::P.zip vs) m x=_
  unfold bindC
  exact VU (i:=i) (uS.mp nd).2 (by simpa using h1) (by simpa using h2) hk
def vv (N:List Str) (vs:List V):St:=vs.map some++List.replicate (N.length - vs.length) none
def zU (CX:CXT) (P:Program) (w:World) (K:Fg) (mg:Str->Option Value) (base:Heap) (N:List Str) (qual:Str) (scope:Scope) (f:Addr) (cd:Value) (A:Around) (outer:List Env) (s:Shared) (H:Hp) (E:XK):Cx where
 prog:=P
 w:=w
 K:=K
 mg:=mg
 base:=base
 A:=A.deeper (envOfC qual scope s.heap.objs.size f cd)
 N:=N
 s₀:=s
 H₀:=H
 env:=envOfC qual scope s.heap.objs.size f cd
 outer:=outer
 stack:=envOfC qual scope s.heap.objs.size f cd::outer
 ex:=[]
 calm:=true
 fn:=λ_=>true
 pn:=[]
 xe:=λe s'=>wpAny (model P w) (A.deeper (envOfC qual scope s.heap.objs.size f cd)) (leaving (envOfC qual scope s.heap.objs.size f cd) e) (λ_ s''=>CX outer H s E e s'') (λe' s''=>CX outer H s E e' s'') s'
theorem zab {sc:Scope}{n:Nat}{x:Str}(h:sc.names.lookup x=some .cell):∃c,(cellsFrom n sc.names []).lookup x=some c:=by
 have q:=PySem.W.cellsFrom_some sc.names n [] (.inl h)
 exact YH.mp q
theorem zcV {CX:CXT}{P:Program}{w:World}{K:Fg}{mg:Str->Option Value}{base:Heap}{N ps:List Str}{qual:Str}{scope:Scope}{f:Addr}{cd:Value}{A:Around}{outer:List Env}{s s1:Shared}{H:Hp}{E:XK}{us:List Value}{vs:List V}
  (S:zA N ps scope) (hd:A.handled=none) (e0:zaS P w K mg base A outer s H) (hl:vs.length=ps.length) (r:xa vs us)
  (x:InCallC s s.heap.objs.size (bindL (envOfC qual scope s.heap.objs.size f cd).kindOf (ps.zip us) λ_=>none) (cellsFrom (s.heap.objs.size+1) scope.names []) (bindC (envOfC qual scope s.heap.objs.size f cd).kindOf (ps.zip us) λ_=>none) s1) :
  Inv (zU CX P w K mg base N qual scope f cd A outer s H E) [] (vv N vs) H s1:=by
 have hpl:ps.length<=N.length:=by have:=congrArg List.length S.pre;rw[yj]at this;lia
 obtain⟨h1,tk,rfl,hk⟩:=x.done
 have noA:∀b:Addr,b∉(zU CX P w K mg base N qual scope f cd A outer s H E).ex:=λb z=>absurd (show b∈([]:List Addr)from z) (by simp)
 refine⟨⟨e0.mod,S.kind,rL,rL,wg _,λy z c h1 h2=>?_,λy hy=>?_,λy c _ h=>?_,λ_=>hd,Around.frames_deeper e0.frames,.inr ⟨rL,rL⟩,λb z=>absurd z (noA b),e0.bs,e0.bsz,λb _ _=>noA b,λb z=>absurd z (noA b),e0.funs,e0.frf⟩,
  rfl,e0.bare,Un.kept hk,⟨_,x.toInCall.ns,λi y v h1 h2 h3=>?_⟩,λy c h=>⟨_,x.cell y c h⟩,e0.hok.fresh (wg _),λy c h=>?_,λp hp=>absurd (show p∈([]:List (Addr×Obj))from hp) (by simp),e0.hok.kept hk,?_⟩
 ·exact name_of_addr x.apart (PySem.mem_of_lookup h1) (PySem.mem_of_lookup h2)
 ·have hy:scope.names.lookup y=some .cell\/scope.names.lookup y=some .free:=hy
  rcases hy with hy | hy
  ·exact zab hy
  ·exact absurd rL (S.nofree _ (PySem.mem_of_lookup hy))
 ·exact Yt (x.above y c (PySem.mem_of_lookup h))
 ·have hi:i<vs.length:=by
   unfold vv at h2
   by_cases hi:i<vs.length
   ·exact hi
   ·rw[wN (by simpa using hi)]at h2
    rw[WH]at h2
    split at h2 <;> cases h2
  have ha:vs[i]? = some v:=by
   unfold vv at h2
   rw[wU (by simpa using hi),wo]at h2
   cases e:vs[i]? with
   | none=>rw[e]at h2;cases h2
   | some a=>rw[e]at h2;cases h2;rfl
  obtain⟨u,hu,rv⟩:=r.get ha
  have hp:ps[i]? = some y:=by
   rw[<-S.pre,Wz ∅];exact h1
  have ndP:ps.Nodup:=by rw[<-S.pre];exact S.nd.sublist (List.take_sublist _ _)
  refine⟨u,rv,?_⟩
  rcases S.par y (wM hp)with k | k
  ·exact .inl ⟨k,VW ndP hp hu k⟩
  ·obtain⟨c,e⟩:=zab (n:=s.heap.objs.size+1) k
   refine .inr ⟨.inl k,c,e,?_⟩
   have q:=x.cell y c e
   rw[VU ndP hp hu (by show scope.names.lookup y≠_;rw[k];decide)]at q
   exact q
 ·exact e0.hok.fresh (Yt (x.above y c (PySem.mem_of_lookup h)))
 ·unfold vv
  show _=N.length
  rw[wI,we,uO]
  lia
theorem zd6 {CX:CXT}{P:Program}{w:World}{K:Fg}{mg:Str->Option Value}{base:Heap}{k:Nat}{f:Addr}{name qual:Str}{params:Arguments}{body:List Stmt}{scope:Scope}{dV kV doc pm cdv ct oc:Value}{an od:Option Addr}
  {osl:Array (Option Value)}{N ps:List Str}{sp:Sp}(lk:K.lookup f=some ⟨oc,od,.func (PySem.W.fnOf name qual params body scope dV kV doc pm an cdv ct),osl⟩) (hcd:PySem.W.codeIn K cdv qual=true) (S:zA N ps scope)
  (len:∀vs H Q E,sp vs H Q E->vs.length=ps.length)
  (hbody:∀(A:Around) (outer:List Env) (s:Shared) (H:Hp) (vs:List V) (Q:VK) (E:XK),z6 k (A.deeper (envOfC qual scope s.heap.objs.size f cdv))->sp vs H Q E →
   ∃t,PSs (zU CX P w K mg base N qual scope f cdv A outer s H E) body t/\t { nx:=λ_ H'=>Q .non H',rt:=Q } (vv N vs) H) :
  Zu P w K mg base CX (k+1) f (PySem.W.fnOf name qual params body scope dV kV doc pm an cdv ct) ps sp:=by
 refine⟨len,λA outer s H args us vs Q E hr e0 hb r hsp=>?_⟩
 have hl:=len _ _ _ _ hsp
 have KX:K.In s.heap:=e0.mod.kin.keeps λb o e=>(e0.bs b o e).1
 have lim:s.heap.NoLimit:=e0.mod.nolimit.keeps λb o e=>(e0.bs b o e).1
 have hkind:∀y∈ps.zip us,scope.names.lookup y.1=some .local ∨ (scope.names.lookup y.1=some .cell/\((cellsFrom (s.heap.objs.size+1) scope.names []).lookup y.1).isSome=true):=λ⟨n,v⟩ hy=>by
  rcases S.par n (Y6 hy).1 with q | q
  ·exact .inl q
  ·exact .inr ⟨q,PySem.W.cellsFrom_some _ _ _ (.inl q)⟩
 refine codeAny_call_function hr.depth (KX _ _ lk) rL S.co S.gen rL (PySem.W.codeRec_of KX hcd) (hb _ _ _ _ ?_)
 refine wpAny_newFunctionEnv_cells S.kind hkind λenv he s1 x=>?_
 subst he
 refine⟨lim.keeps x.toInCall.keep,codeAny_func ?_⟩
 obtain⟨t,ht,hq⟩:=hbody A outer s H vs Q E (hr.deeper _) hsp
 have I:Inv (zU CX P w K mg base N qual scope f cdv A outer s H E) [] (vv N vs) H s1:=zcV S hr.hd e0 hl r x
 refine yZ (ht [] s1 (vv N vs) H _ I hq) (λfl s' hs=>?_) λe s' hs=>hs
 have fin:∀{σ':St}{H':Hp}{v:V}{u:Value},Inv (zU CX P w K mg base N qual scope f cdv A outer s H E) [] σ' H' s'->xi v u->Q v H'->CE outer P w H s Q u s' :=
  λ{σ' H' v u} J rv q=>⟨v,H',J.os,J.bare,J.base,J.hok,rv,q⟩
 cases fl with
 | ret u =>
  obtain⟨v,σ',H',J,rv,q⟩:=hs
  exact fin J rv q
 | next =>
  obtain⟨σ',H',J,q⟩:=hs
  exact fin (v:=V.non) (u:=Value.none) J rL q
 | brk =>
  obtain⟨_,_,_,q⟩:=hs
  exact False.elim q
 | cont =>
  obtain⟨_,_,_,q⟩:=hs
  exact False.elim q
section
variable {X:Cx}{x:Str}{p pos:Pos}{e:Expr}{es:List Expr}{t:TA}{id T:String}{r:List V->Hp->VK->Prop}
def tCB (r:List V->Hp->VK->Prop) (t:TA):TE:=λσ H Q=>t σ H λvs H1=>r vs H1 Q
theorem zJ (hc:vi X (.builtin id) r) (hg:Gl X x) (hm:X.mg x=none) (hv:bootBuiltins x=some (.builtin id)) (ha:PA X (e::es) t) (hn:x≠"__name__":=by decide) (hdb:(x == ("__debug__":Str))=false:=by decide)
  (he:starEach (e::es) X.env=(false,eval e X.env)::starEach es X.env:=by rfl) (hpl:(backTo pos (starEach es X.env)).any (·.1)=false:=by rfl):PE X (.Call (.Name x p) (e::es) [] pos) (tCB r t):=by
 intro pz s σ H Q I h
 refine uo (Zi I hg hm hv ?_ hn hdb)
 exact WY (thn (ha pos pz s σ H _ I h) λus s1 ⟨vs,H1,I1,r1,q1⟩=>hc pz s1 σ H1 vs us Q I1 r1 q1) he hpl
theorem vy (hc:vi X (.type T) r) (hg:Gl X x) (hm:X.mg x=none) (hv:bootBuiltins x=some (.type T)) (ha:PA X (e::es) t) (hn:x≠"__name__":=by decide) (hdb:(x == ("__debug__":Str))=false:=by decide)
  (he:starEach (e::es) X.env=(false,eval e X.env)::starEach es X.env:=by rfl) (hpl:(backTo pos (starEach es X.env)).any (·.1)=false:=by rfl):PE X (.Call (.Name x p) (e::es) [] pos) (tCB r t):=by
 intro pz s σ H Q I h
 refine uo (Zi I hg hm hv ?_ hn hdb)
 exact yT (thn (ha pos pz s σ H _ I h) λus s1 ⟨vs,H1,I1,r1,q1⟩=>hc pz s1 σ H1 vs us Q I1 r1 q1) he hpl
end
end L2
namespace HT
open PySem PyProof.Rows
section
variable {prog:Program}{w:World}{A:Around}{E:Value->Shared->Prop}{s:Shared}
theorem cat_tup {t b:Addr}{vs ws:List Value}{Q:Value->Shared->Prop}(ht:IsTup s.heap t vs.toArray) (hb:IsTup s.heap b ws.toArray) (hv:vs≠[])
  (h1:ws=[]->Q (.ref t) s) (h2:ws≠[]->Q (.ref s.heap.objs.size) { s with heap:=s.heap.push { cls:=.type "tuple",data:=.seq (vs++ws).toArray } })
  (hsz:vs.length+ws.length<=sizeLine):wpAny (model prog w) A (binaryOp .Add (.ref t) (.ref b)) Q E s:=by
 obtain⟨⟨cls,dd,data,sl⟩,ho,hc,n,hd⟩:=id ht
 obtain⟨⟨cls2,dd2,data2,sl2⟩,ho2,hc2,n2,hd2⟩:=id hb
 simp only at hc hd hc2 hd2
 subst hc hd hc2 hd2
 have e:vs.toArray++ws.toArray=(vs++ws).toArray:=by simp
 by_cases hw:ws=[]
 ·exact concat_meets ⟨_,ho,rL⟩ ⟨_,ho2,rL⟩ noFill_tuple_add seq_tuple_add WT WJ (WB _ _)
   (tuple_addW1 t b vs.toArray ws.toArray n n2 dd dd2 sl sl2 (by simpa using hv) (by simp[hw])) ⟨ho,ho2,h1 hw⟩
 ·refine concat_meets ⟨_,ho,rL⟩ ⟨_,ho2,rL⟩ noFill_tuple_add seq_tuple_add WT WJ (WB _ _)
   (tuple_addW2 t b vs.toArray ws.toArray n n2 dd dd2 sl sl2 (by simpa using hv) (by simpa using hw) (by rw[wF,wF];exact hsz)) ⟨ho,ho2,?_⟩
  rw[e]
  exact h2 hw
def sIx (n d:Nat):Option Int->Nat
 | none=>d
 | some v=>if v<0 then(v+(n:Int)).toNat else min v.toNat n
theorem ziX (n d:Nat) (hd:d<=n) (o:Option Int):sIx n d o<=n:=by
 cases o with
 | none=>exact hd
 | some v =>
  show (if v<0 then(v+(n:Int)).toNat else min v.toNat n)<=n
  by_cases hv:v<0
  ·rw[if_pos hv];lia
  ·rw[if_neg hv];exact Nat.min_le_right _ _
theorem zbJ (v:Int) (n d:Nat):(if v<0 then max (v+(n:Int)) 0 else min v (n:Int))=((sIx n d (some v):Nat):Int):=by
 show (if v<0 then max (v+(n:Int)) 0 else min v (n:Int))=(((if v<0 then(v+(n:Int)).toNat else min v.toNat n):Nat):Int)
 by_cases hv:v<0
 ·simp only[if_pos hv];lia
 ·simp only[if_neg hv];lia
theorem zaU (lo hi:Option Int) (n:Nat):Builtin.Slice.sliceAdjust lo hi 1 (n:Int)=(((sIx n 0 lo:Nat):Int),((sIx n n hi:Nat):Int)):=by
 have h1:¬((1:Int)<0):=by lia
 unfold Builtin.Slice.sliceAdjust
 simp only[h1,if_false]
 refine Prod.ext ?_ ?_
 ·cases lo with
  | none=>rfl
  | some v=>exact zbJ v n 0
 ·cases hi with
  | none=>rfl
  | some v=>exact zbJ v n n
theorem zbo (i j:Nat):Builtin.Slice.slicePlaces (i:Int) (j:Int) 1=j - i:=by
 unfold Builtin.Slice.slicePlaces
 have h1:(1:Int)>0:=by lia
 simp only[h1,if_true,Int.ediv_one]
 split <;> lia
theorem Vz {v:Value}{o:Option Int}{Q:Option Int->Shared->Prop}(p:IsPart v o) (h:Q o s):wpAny (model prog w) A (Builtin.Slice.slicePartIndex v) Q E s:=by
 cases p with
 | none=>exact slicePart_none h
 | int i t=>exact slicePart_int h
theorem QK {sl:Addr}{vl vu:Value}{lo hi:Option Int}{n:Nat}{Q:Int×Int×Nat->Shared->Prop}(hs:s.heap.IsSliceOf sl vl vu .none) (pl:IsPart vl lo) (pu:IsPart vu hi)
  (h:Q (((sIx n 0 lo:Nat):Int),1,sIx n n hi - sIx n 0 lo) s):wpAny (model prog w) A (Builtin.Slice.sliceApplied (.ref sl) (pure (n:Int))) Q E s:=by
 obtain⟨os,hos,hcs,hds⟩:=id hs
 unfold Builtin.Slice.sliceApplied Builtin.Slice.sliceFields
 refine wc (wc (WV hos hds (x:=vl) rL (wc (WV hos hds (x:=vu) rL (wc (WV hos hds (x:=.none) rL (wj ?_)))))))
 refine wc (slicePart_none ?_)
 show wpAny _ _ (if((1:Int) == 0)=true then _ else _) _ _ s
 rw[if_neg (by decide)]
 refine wc (Vz pl (wc (Vz pu (wc (wj ?_)))))
 show wpAny _ _ (match Builtin.Slice.sliceAdjust lo hi 1 (n:Int)with | (lo,hi)=>pure (lo,(1:Int),Builtin.Slice.slicePlaces lo hi 1)) _ _ s
 rw[zaU lo hi n]
 show wpAny _ _ (pure (((sIx n 0 lo:Nat):Int),(1:Int),Builtin.Slice.slicePlaces ((sIx n 0 lo:Nat):Int) ((sIx n n hi:Nat):Int) 1)) _ _ s
 rw[zbo]
 exact wj h
theorem zeI (xs:Array Value) (i k:Nat):((List.range k).filterMap λ(m:Nat)=>xs[((i:Int)+(m:Int)*1).toNat]?).toArray=((xs.toList.drop i).take k).toArray:=by
 have e:(λ(m:Nat)=>xs[((i:Int)+(m:Int)*1).toNat]?)=λm=>xs[i+m]?:=by
  funext m
  have:((i:Int)+(m:Int)*1).toNat=i+m:=by lia
  rw[this]
 rw[e]
 have:=pick_run xs i k
 rw[List.filterMap_map]at this
 have e2:((λx=>xs[x]?) ∘ λx=>i+x)=λm=>xs[i+m]?:=rfl
 rw[e2]at this
 rw[this]
theorem getItem_tuple_cut {t sl:Addr}{items:Array Value}{vl vu:Value}{lo hi:Option Int}{Q:Value->Shared->Prop}(ht:IsTup s.heap t items) (hs:s.heap.IsSliceOf sl vl vu .none) (pl:IsPart vl lo) (pu:IsPart vu hi)
  (hw:¬(sIx items.size 0 lo=0/\sIx items.size items.size hi=items.size))
  (h:Q (.ref s.heap.objs.size) { s with heap:=s.heap.push { cls:=.type "tuple",data:=.seq ((items.toList.drop (sIx items.size 0 lo)).take (sIx items.size items.size hi - sIx items.size 0 lo)).toArray } })
  (hsz:items.size<=sizeLine):wpAny (model prog w) A (getItem (.ref t) (.ref sl)) Q E s:=by
 have htake:sizeOk (.seq ((items.toList.drop (sIx items.size 0 lo)).take (sIx items.size items.size hi - sIx items.size 0 lo)).toArray):=by
  show ((items.toList.drop (sIx items.size 0 lo)).take (sIx items.size items.size hi - sIx items.size 0 lo)).toArray.size<=sizeLine
  rw[wF,yj,Yc,wJ]
  omega
 have hj:sIx items.size items.size hi<=items.size:=ziX _ _ (wg _) hi
 obtain⟨os,hos,hcs,hds⟩:=id hs
 have hTs:s.TypeIs (.ref sl) "slice":=⟨os,hos,hcs⟩
 unfold getItem
 try with_reducible refine yN ?_
 first | refine wc (wj ?_) | skip
 refine wc (wpAny_sequenceKey ht.typeIs (by decide) ?_)
 refine wc (wpAny_callSpecial?_slot (name:=Str.ofString "__getitem__") ht.typeIs uT
  (uu uT ht.typeIs entry_tuple_getitem ?_ (args_tuple_getitem _ _)))
 show wpAny _ _ (Builtin.Tuple.tupleItemsOf (.ref t) >>= _) _ _ s
 refine wc (tupleItemsOf_ ht ?_)
 refine wc (YB hTs ?_)
 rw[if_pos (by decide)]
 refine wc (QK hs pl pu ?_)
 have hno:¬((((sIx items.size 0 lo:Nat):Int) == 0&&(1:Int) == 1&&(sIx items.size items.size hi - sIx items.size 0 lo) == items.size)=true):=by
  intro q
  rw[uN,uN]at q
  have q1:((sIx items.size 0 lo:Nat):Int)=0:=eq_of_beq q.1.1
  have q2:sIx items.size items.size hi - sIx items.size 0 lo=items.size:=eq_of_beq q.2
  exact hw ⟨by omega,by omega⟩
 show wpAny _ _ (if(((sIx items.size 0 lo:Nat):Int) == 0&&(1:Int) == 1&&(sIx items.size items.size hi - sIx items.size 0 lo) == items.size)=true then _ else _) _ _ s
 rw[if_neg hno,zeI]
 first
  | exact wc (m:=Builtin.Tuple.tupleExact _) (yO (wj ⟨_,rfl,wj h⟩) htake)
  | exact wc (m:=Builtin.Tuple.tupleExact _) (yO (wc (wj (wj ⟨_,rfl,wj h⟩))) htake)
  | exact wc (wc (m:=Builtin.Tuple.tupleExact _) (yO (wj (wj ⟨_,rfl,wj h⟩)) htake))
  | exact wc (wc (m:=Builtin.Tuple.tupleExact _) (yO (wj ⟨_,rfl,wj h⟩) htake))
end
end HT
namespace L2
open PySem PySem.Spec PyProof.Rows
abbrev TO:=St->Hp->(Option Int->Hp->Prop)->Prop
def PO (X:Cx) (e:Option Expr) (t:TO):Prop :=
 ∀(pz:List (Addr×Obj)) (s:Shared) (σ:St) (H:Hp) (Q:Option Int->Hp->Prop),Inv X pz σ H s->t σ H Q →
  wpAny (model X.prog X.w) X.A (evalPart e X.env) (λu s'=>∃o H',Inv X pz σ H' s'/\IsPart u o/\Q o H') X.xe s
def zg7:TO:=λ_ H Q=>Q none H
def zkD (t:TE):TO:=λσ H Q=>t σ H λx H1=>∃i,x = .int i/\Q (some i) H1
theorem Xj {ns:List Int}:∀{us:List Value},xa (ns.map V.int) us->IntsAre us ns:=by
 induction ns with
 | nil=>intro us r;rw[List.map_nil]at r;cases r;exact .nil
 | cons n ns ih =>
  intro us r
  rw[yA]at r
  cases r with
  | cons r1 r2 =>
   obtain⟨t,e⟩:=r1
   subst e
   exact .cons n t (ih r2)
section
variable {X:Cx}{e:Expr}{te:TE}{lo hi:Option Expr}{tl th:TO}{pos p2:Pos}
theorem zgA:PO X none zg7:=by
 intro pz s σ H Q I h
 rw[evalPart_none]
 exact wj ⟨none,H,I,.none,h⟩
theorem zgB (h:PE X e te):PO X (some e) (zkD te):=by
 intro pz s σ H Q I hw
 rw[evalPart_some]
 refine thn (h pz s σ H _ I hw) λu s1 ⟨x,H1,I1,r1,q1⟩=>?_
 obtain⟨i,rfl,q⟩:=q1
 obtain⟨t,rfl⟩:=r1
 exact⟨some i,H1,I1,.int i t,q⟩
def SlR (X:Cx) (r:V->Option Int->Option Int->Hp->VK->Prop):Prop :=
 ∀(pz:List (Addr×Obj)) (s:Shared) (σ:St) (H:Hp) (x:V) (v vl vu:Value) (lo hi:Option Int) (sl:Addr) (Q:VK),Inv X pz σ H s->xi x v->s.heap.IsSliceOf sl vl vu .none->IsPart vl lo->IsPart vu hi->r x lo hi H Q →
  ∃T id,typeLookup (.type T) "__getitem__" = pure (some (.builtin id))/\s.TypeIs v T/\wpAny (model X.prog X.w) X.A (getItem v (.ref sl)) (EP X pz σ Q) X.xe s
def tSl (r:V->Option Int->Option Int->Hp->VK->Prop) (te:TE) (tl th:TO):TE:=λσ H Q=>te σ H λx H1=>tl σ H1 λl H2=>th σ H2 λu H3=>r x l u H3 Q
theorem zeF {r:V->Option Int->Option Int->Hp->VK->Prop}(hr:SlR X r) (he:PE X e te) (hl:PO X lo tl) (hu:PO X hi th):PE X (.Subscript e (.Slice lo hi none p2) pos) (tSl r te tl th):=by
 intro pz s σ H Q I h
 refine Subscript_ (thn (he pz s σ H _ I h) λv s1 ⟨x,H1,I1,r1,q1⟩=>?_)
 refine wpAny_Slice (thn (hl pz s1 σ H1 _ I1 q1) λvl s2 ⟨l,H2,I2,pl,q2⟩=>thn (hu pz s2 σ H2 _ I2 q2) λvu s3 ⟨u,H3,I3,pu,q3⟩=>?_)
 rw[evalPart_none]
 refine wj ?_
 have I4:Inv X pz σ H3 { s3 with heap:=s3.heap.push { cls:=.type "slice",data:=.fields #[vl,vu,.none] } }:=I3.kept (t':=s3.toks) λb ob q=>wf _ q
 obtain⟨T,id,hT,ht,hg⟩:=hr pz { s3 with heap:=s3.heap.push { cls:=.type "slice",data:=.fields #[vl,vu,.none] } } σ H3 x v vl vu l u s3.heap.objs.size Q I4 r1 (Heap.IsSliceOf.new ..) pl pu q3
 show wpAny (model X.prog X.w) X.A (subscriptTail e (.Slice lo hi none p2) v (.ref s3.heap.objs.size)) (EP X pz σ Q) X.xe { s3 with heap:=s3.heap.push { cls:=.type "slice",data:=.fields #[vl,vu,.none] } }
 exact tail_any (ops:=[.ref s3.heap.objs.size,v]) ht hT hg (by with_unfolding_all rfl)
def VN (xs:List V) (lo hi:Option Int):List V:=(xs.drop (HT.sIx xs.length 0 lo)).take (HT.sIx xs.length xs.length hi - HT.sIx xs.length 0 lo)
theorem zad (xs:List V) (lo hi:Option Int):(VN xs lo hi).length<=xs.length:=by
 unfold VN
 rw[yj,Yc]
 lia
def rSlT (K:Fg):V->Option Int->Option Int->Hp->VK->Prop:=λx lo hi H Q=>∃a xs,x = .ref a/\SqT K H a xs ∧
 ¬(HT.sIx xs.length 0 lo=0/\HT.sIx xs.length xs.length hi=xs.length)/\∀p,H p=none->Q (.ref p) (upd H p (.tup (VN xs lo hi)))
theorem zi6:SlR X (rSlT X.K):=by
 intro pz s σ H x v vl vu lo hi sl Q I rx hs pl pu h
 obtain⟨a,xs,rfl,hx,hw,q⟩:=h
 cases rx
 obtain⟨its,r,ht,hz⟩:=I.tuple hx
 have hlen:its.toArray.size=xs.length:=by rw[wF];exact r.length.symm
 refine⟨"tuple",_,uT.lookup,ht.typeIs,?_⟩
 refine HT.getItem_tuple_cut ht hs pl pu (by rw[hlen];exact hw) ?_ (by rw[hlen];exact hz)
 rw[hlen]
 refine⟨.ref s.heap.objs.size,_,I.laid (t':=s.toks) (o:=.tup (VN xs lo hi)) (λb ob q=>wf _ q) (wg _) ?_,rL,q _ (I.hok.fresh (wg _))⟩
 exact⟨yH (zad xs lo hi) hz,_,(r.drop (HT.sIx xs.length 0 lo)).take (HT.sIx xs.length xs.length hi - HT.sIx xs.length 0 lo),IsTup.new _ _⟩
inductive zeP (K:Fg) (x:V) (y:V) (H:Hp) (Q:VK):Prop
 | mk:∀a b xs ys,(x = .ref a)->(y = .ref b)->(SqT K H a xs)->(SqT K H b ys)->(xs≠[])->(xs.length+ys.length<=sizeLine)->((ys=[]->Q (.ref a) H))->((ys≠[]->∀p,H p=none->Q (.ref p) (upd H p (.tup (xs++ys)))))->zeP K x y H Q
def zkg (K:Fg):R2:=λx y H Q=>zeP K x y H Q
theorem xa.nil_iff {xs:List V}{us:List Value}(r:xa xs us):us=[]↔xs=[]:=by
 cases r with
 | nil=>simp
 | cons _ _=>simp
theorem zgv:OpR X (binaryOp .Add) (zkg X.K):=by
 intro pz s σ H x y v u Q I rx ry h
 obtain⟨a,b,xs,ys,rfl,rfl,ha,hb,hx,hz,q1,q2⟩:=h
 cases rx
 cases ry
 obtain⟨its,r1,p1,_⟩:=I.tuple ha
 obtain⟨its2,r2,p2,_⟩:=I.tuple hb
 refine HT.cat_tup p1 p2 (λz=>hx (r1.nil_iff.mp z)) (λz=>⟨.ref a,H,I,rfl,q1 (r2.nil_iff.mp z)⟩) (λz=>?_) (by rw[<-r1.length,<-r2.length];exact hz)
 refine⟨.ref s.heap.objs.size,_,I.laid (t':=s.toks) (o:=.tup (xs++ys)) (λb ob q=>wf _ q) (wg _) ?_,rL,q2 (λw=>z (r2.nil_iff.mpr w)) _ (I.hok.fresh (wg _))⟩
 exact⟨by rw[wI];exact hz,_,r1.append r2,IsTup.new _ _⟩
end
def ixN (n:Nat) (i:Int):Option Nat:=if 0<=i then(if i<n then some i.toNat else none)else if -(n:Int)<=i then some (i+n).toNat else none
def atI {α:Type}(xs:List α) (i:Int):Option α:=(ixN xs.length i).bind λj=>xs[j]?
theorem zbY {n:Nat}{i:Int}{j:Nat}(h:ixN n i=some j):seqIndex? i n=some j/\j<n ∧ -(n:Int)<=i/\i<n:=by
 unfold ixN at h
 by_cases h0:0<=i
 ·rw[if_pos h0]at h
  by_cases h1:i<n
  ·rw[if_pos h1]at h
   have e:i.toNat=j:=Option.some.inj h
   exact⟨by rw[seqIndex_of h0 h1,e],by lia,by lia,h1⟩
  ·rw[if_neg h1]at h;cases h
 ·rw[if_neg h0]at h
  by_cases h1 : -(n:Int)<=i
  ·rw[if_pos h1]at h
   have e:(i+n).toNat=j:=Option.some.inj h
   exact⟨by rw[seqIndex_neg ∅ h1,e],by lia,h1,by lia⟩
  ·rw[if_neg h1]at h;cases h
theorem zbF {α:Type}{xs:List α}{i:Int}{v:α}(h:atI xs i=some v):∃j,seqIndex? i xs.length=some j/\xs[j]? = some v/\j<xs.length ∧ -(xs.length:Int)<=i/\i<xs.length:=by
 unfold atI at h
 cases e:ixN xs.length i with
 | none=>rw[e]at h;cases h
 | some j =>
  rw[e]at h
  obtain⟨h1,h2,h3,h4⟩:=zbY e
  exact⟨j,h1,h,h2,h3,h4⟩
theorem Jx {α:Type}{xs:List α}{j:Nat}{v:α}(h:xs[j]? = some v):atI xs (j:Int)=some v:=by
 have hj:j<xs.length:=(wP.mp h).1
 have e:ixN xs.length (j:Int)=some j:=by
  unfold ixN
  rw[if_pos ∅,if_pos ∅];simp
 unfold atI;rw[e];exact h
theorem zdF {α:Type}(xs:List α) (v:α):atI (xs++[v]) (-1)=some v:=by
 have hl:(xs++[v]).length=xs.length+1:=by simp
 have e:ixN (xs++[v]).length (-1)=some xs.length:=by
  unfold ixN
  rw[hl,if_neg (by decide),if_pos ∅]
  congr 1
  lia
 unfold atI
 rw[e]
 show (xs++[v])[xs.length]? = some v
 simp
def zfL (b:Expr):Prop:=∀o i,subscripted b false o i=operate [o,i] (getItem o i)
def IxR (X:Cx) (r:R2):Prop :=
 ∀(value slice:Expr) (pz:List (Addr×Obj)) (s:Shared) (σ:St) (H:Hp) (x y:V) (v u:Value) (Q:VK),Inv X pz σ H s->xi x v->xi y u->r x y H Q →
  subscripted slice false v u=operate [v,u] (getItem v u)->wpAny (model X.prog X.w) X.A (subscriptTail value slice v u) (EP X pz σ Q) X.xe s
def MtR (X:Cx) (id:String) (r:V->List V->Hp->VK->Prop):Prop :=
 ∀(pz:List (Addr×Obj)) (s:Shared) (σ:St) (H:Hp) (x:V) (xs:List V) (v:Value) (us:List Value) (Q:VK),Inv X pz σ H s->xi x v->xa xs us->r x xs H Q →
  wpAny (model X.prog X.w) X.A (call (.builtin id) (v::us)) (EP X pz σ Q) X.xe s
section
variable {X:Cx}{a b:Expr}{ta tb:TE}{pos:Pos}
theorem xS {r:R2}(hr:IxR X r) (ha:PE X a ta) (hb:PE X b tb) (hs:zfL b):PE X (.Subscript a b pos) (tOp r ta tb):=by
 intro pz s σ H Q I h
 exact Subscript_ (zhS ha hb I h λv u s2 x y H2 I2 rx ry q=>hr a b pz s2 σ H2 x y v u Q I2 rx ry q (hs _ _))
inductive zhs (K:Fg) (x:V) (y:V) (H:Hp) (Q:VK):Prop
 | mk:∀p xs i v,(x = .ref p)->(y = .int i)->(SqL K H p xs)->(atI xs i=some v)->(Q v H)->zhs K x y H Q
def rIxL (K:Fg):R2:=λx y H Q=>zhs K x y H Q
inductive zht (K:Fg) (x:V) (y:V) (H:Hp) (Q:VK):Prop
 | mk:∀p xs i v,(x = .ref p)->(y = .int i)->(SqT K H p xs)->(atI xs i=some v)->(Q v H)->zht K x y H Q
def vx (K:Fg):R2:=λx y H Q=>zht K x y H Q
theorem xT:IxR X (rIxL X.K):=by
 intro value slice pz s σ H x y v u Q I rx ry h hs
 obtain⟨p,xs,i,z,rfl,rfl,hq,he,q⟩:=h
 cases rx
 obtain⟨t,rfl⟩:=ry
 obtain⟨its,r,pl,hz⟩:=I.list hq
 obtain⟨j,h1,h2,h3,h4,h5⟩:=zbF he
 obtain⟨w,ew,rw'⟩:=r.get h2
 have hl:=r.length
 have hn:=JK
 have fin:EP X pz σ Q w s:=⟨z,H,I,rw',q⟩
 by_cases h0:0<=i
 ·have hj:i.toNat=j:=by
   rw[seqIndex_of h0 h5]at h1
   exact Option.some.inj h1
  exact item_listR pl.isList h0 ∅ (by rw[hj];simpa using ew) fin hs
 ·have hj:(i+(its.toArray.size:Int)).toNat=j:=by
   rw[seqIndex_neg ∅ h4]at h1
   rw[wF,<-hl]
   exact Option.some.inj h1
  exact subscriptTail_builtinR (x:=w) pl.isList.typeIs slot_list_getitem.lookup
   (wpAny_getItem_list_neg (Q:=λr s'=>r=w/\EP X pz σ Q r s') pl.isList ∅ (by rw[wF] <;> lia) ∅ (by rw[hj];simpa using ew) ⟨rfl,fin⟩) hs
theorem Vl:IxR X (vx X.K):=by
 intro value slice pz s σ H x y v u Q I rx ry h hs
 obtain⟨p,xs,i,z,rfl,rfl,hq,he,q⟩:=h
 cases rx
 obtain⟨t,rfl⟩:=ry
 obtain⟨its,r,pl,hz⟩:=I.tuple hq
 obtain⟨j,h1,h2,h3,h4,h5⟩:=zbF he
 obtain⟨w,ew,rw'⟩:=r.get h2
 have hl:=r.length
 have hn:=JK
 have fin:EP X pz σ Q w s:=⟨z,H,I,rw',q⟩
 exact subscriptTail_builtinR (x:=w) pl.typeIs slot_tuple_getitem.lookup
  (getItem_tuple (j:=j) (Q:=λr s'=>r=w/\EP X pz σ Q r s') pl ∅ ∅ (by rw[wF,<-hl];exact h1) (by simpa using ew) ⟨rfl,fin⟩) hs
theorem pxt {a:Expr}{ta:TE}{i:Int}{j:_}{p q:Pos}(ha:PE X a ta):PE X (.Subscript a (.Constant (.int i) j p) q) (tOp (vx X.K) ta (tC (.int i))):=xS Vl ha zh (λ_ _=>rfl)
theorem zbg (its:List Value) (n j:Nat) (u:Value):Obj.mapSeq (·.setIfInBounds j u) { cls:=.type "list",data:=.seq its.toArray n } = { cls:=.type "list",data:=.seq (its.set j u).toArray n }:=by
 simp[Obj.mapSeq]
theorem Inv.lst {pz:List (Addr×Obj)}{σ:St}{H:Hp}{s:Shared}{p:Addr}{xs:List V}(I:Inv X pz σ H s) (h:H p=some (.lst xs)) :
  ∃(its:List Value) (n:Nat),xa xs its/\s.heap.get? p=some { cls:=.type "list",data:=.seq its.toArray n }/\xs.length<=sizeLine:=by
 obtain⟨z,its,n,r,e⟩:=I.hok p _ h
 exact⟨its,n,r,e,z⟩
theorem Inv.lstUpd {pz:List (Addr×Obj)}{σ:St}{H:Hp}{s:Shared}{p:Addr}{xs ys:List V}{its its':List Value}{n n':Nat}{f:Obj->Obj}(I:Inv X pz σ H s) (h:H p=some (.lst xs))
  (ho:s.heap.get? p=some { cls:=.type "list",data:=.seq its.toArray n }) (hf:f { cls:=.type "list",data:=.seq its.toArray n } = { cls:=.type "list",data:=.seq its'.toArray n' }) (r:xa ys its') (hz:ys.length<=sizeLine) (t:Nat) :
  Inv X pz σ (upd H p (.lst ys)) { s with heap:=s.heap.update p f,toks:=t }:=by
 have e:(s.heap.update p f).get? p=some { cls:=.type "list",data:=.seq its'.toArray n' }:=by
  rw[yU f ho (by rw[hf] <;> rfl),hf]
 refine I.write (x:=p) (e:=p) (by rw[h];trivial) (.inl rfl) (λb u hb q=>(yn _ _ (Ne.symm hb)).trans q) ⟨_,e⟩ ?_
 exact⟨hz,its',n',r,e⟩
def zkl:V->V->V->Hp->(Hp->Prop)->Prop:=λo i v H Q=>∃p xs k j,o = .ref p/\i = .int k/\H p=some (.lst xs)/\ixN xs.length k=some j/\Q (upd H p (.lst (xs.set j v)))
theorem zaE:zjA X zkl:=by
 intro pz s σ H o i v ov iv u Q I ro ri rv h
 obtain⟨p,xs,k,j,rfl,rfl,hp,hj,q⟩:=h
 cases ro
 obtain⟨t,rfl⟩:=ri
 obtain⟨its,n,r,ho,hz⟩:=I.lst hp
 obtain⟨h1,h2,h3,h4⟩:=zbY hj
 have hl:=r.length
 have hn:=JK
 have I':Inv X pz σ (upd H p (.lst (xs.set j v))) { s with heap:=s.heap.update p (Obj.mapSeq (·.setIfInBounds j u)) } :=
  I.lstUpd hp ho (zbg its n j u) (r.set rv j) (by rw[List.length_set];exact hz) s.toks
 by_cases h0:0<=k
 ·have hk:k.toNat=j:=by
   rw[seqIndex_of h0 h4]at h1
   exact Option.some.inj h1
  exact PySem.W.ki_setAt ho h0 ∅ (by rw[wF,<-hl];exact h4) (by rw[hk];exact⟨_,I',q⟩)
 ·have hk:(k+(its.toArray.size:Int)).toNat=j:=by
   rw[seqIndex_neg ∅ h3]at h1
   rw[wF,<-hl]
   exact Option.some.inj h1
  exact PySem.W.ki_setBack ho ∅ (by rw[wF,<-hl];exact h3) ∅ (by rw[hk];exact⟨_,I',q⟩)
theorem zS:vi X (.builtin "len") (λxs H Q=>∃p ys,xs=[.ref p]/\(SqL X.K H p ys\/SqT X.K H p ys)/\Q (.int ys.length) H):=by
 intro pz s σ H xs us Q I r h
 obtain⟨p,ys,rfl,hq,q⟩:=h
 obtain⟨u,rfl,rx⟩:=ZU r
 cases rx
 have hn:=JK
 rcases hq with hq | hq
 ·obtain⟨its,r',pl,hz⟩:=I.list hq
  have hlen:=r'.length
  exact Calls.call_len_list pl.isList (by simp only[wF] <;> lia) ⟨.int ys.length,H,I.tok _,⟨s.toks+1,by rw[wF,hlen]⟩,q⟩
 ·obtain⟨its,r',pl,hz⟩:=I.tuple hq
  have hlen:=r'.length
  exact len_tuple pl (by simp only[wF] <;> lia) ⟨.int ys.length,H,I.tok _,⟨s.toks+1,by rw[wF,hlen]⟩,q⟩
theorem Zh:vi X (.type "list") (λxs H Q=>∃p ys,xs=[.ref p]/\(SqL X.K H p ys\/SqT X.K H p ys)/\∀l,H l=none->Q (.ref l) (upd H l (.lst ys))):=by
 intro pz s σ H xs us Q I r h
 obtain⟨p,ys,rfl,hq,q⟩:=h
 obtain⟨u,rfl,rx⟩:=ZU r
 cases rx
 have fin:∀(its:List Value),xa ys its->ys.length<=sizeLine->∀(h':Heap) (c':Nat),(∀b o',s.heap.get? b=some o'->h'.get? b=some o') →
   h'.get? s.heap.objs.size=some { cls:=.type "list",dict:=none,data:=.seq its.toArray c',slots:=#[] }->EP X pz σ Q (.ref s.heap.objs.size) { s with heap:=h' }:=λits r' hz h' c' kp e =>
  ⟨.ref s.heap.objs.size,_,I.laid (t':=s.toks) kp (wg _) (show xE X.prog X.w _ h' _ (.lst ys)from⟨hz,its,c',r',e⟩),rfl,q _ (I.hok.fresh (wg _))⟩
 rcases hq with hq | hq
 ·obtain⟨its,r',pl,hz⟩:=I.list hq
  have hlen:=r'.length
  obtain⟨o,ho,hc,n,hd⟩:=pl.isList
  exact call_list_seq p (.inl rfl) ho hc hd (λh' c' kp e=>fin its r' hz h' c' kp e) (by simp only[wF] <;> lia)
 ·obtain⟨its,r',pl,hz⟩:=I.tuple hq
  have hlen:=r'.length
  obtain⟨o,ho,hc,n,hd⟩:=pl
  exact call_list_seq p (.inr rfl) ho hc hd (λh' c' kp e=>fin its r' hz h' c' kp e) (by simp only[wF] <;> lia)
theorem VM:vi X (.type "tuple") (λxs H Q=>∃p ys,xs=[.ref p]/\((SqL X.K H p ys/\∀l,H l=none->Q (.ref l) (upd H l (.tup ys)))\/(SqT X.K H p ys/\Q (.ref p) H))):=by
 intro pz s σ H xs us Q I r h
 obtain⟨p,ys,rfl,h⟩:=h
 obtain⟨u,rfl,rx⟩:=ZU r
 cases rx
 rcases h with⟨hq,q⟩ | ⟨hq,q⟩
 ·obtain⟨its,r',pl,hz⟩:=I.list hq
  have hlen:=r'.length
  refine call_tuple_list pl.isList (λh' kp=>?_) (by simp only[wF] <;> lia)
  have I1:Inv X pz σ H { s with heap:=h' }:=I.kept (t':=s.toks) kp
  have I2:Inv X pz σ (upd H h'.objs.size (.tup ys)) { s with heap:=h'.push { cls:=.type "tuple",data:=.seq its.toArray } } :=
   I1.laid (t':=s.toks) (λb o e=>wf _ e) (wg _) (show xE X.prog X.w _ _ _ (.tup ys)from⟨hz,its,r',IsTup.new _ _⟩)
  exact⟨.ref h'.objs.size,_,I2,rL,q _ (I1.hok.fresh (wg _))⟩
 ·obtain⟨its,r',pl,hz⟩:=I.tuple hq
  exact call_tuple_same pl ⟨.ref p,H,I,rL,q⟩
def tyV (K:Fg) (T:String) (x:V) (H:Hp):Prop:=match x with
 | .str _=>T = "str"
 | .int _=>T = "int"
 | .ref p=>(T = "list"/\∃xs,SqL K H p xs)\/(T = "tuple"/\∃o,K.lookup p=some o/\o.cls = .type "tuple"/\o.dict=none) ∨
   (T = "dict"/\((∃kvs,H p=some (.dK kvs))\/∃kvs,H p=some (.dT kvs)))\/(T = "set"/\∃S n,H p=some (.set S n))
 | _=>False
theorem zjx {pz:List (Addr×Obj)}{σ:St}{H:Hp}{s:Shared}{T:String}{x:V}{v:Value}(I:Inv X pz σ H s) (r:xi x v) (ty:tyV X.K T x H) :
  s.TypeIs v T/\∀a,v = .ref a->∃ob,s.heap.get? a=some ob/\ob.dict=none:=by
 cases x with
 | str z =>
  obtain⟨t,rfl⟩:=r
  cases(show T = "str" from ty)
  exact⟨typeIs_str s z t,λ_ e=>nomatch e⟩
 | int i =>
  obtain⟨t,rfl⟩:=r
  cases(show T = "int" from ty)
  exact⟨typeIs_int s i t,λ_ e=>nomatch e⟩
 | ref p =>
  cases r
  rcases ty with⟨rfl,xs,hq⟩ | ⟨rfl,o,hk,hc,hd⟩ | ⟨rfl,hk⟩ | ⟨rfl,S,n,hk⟩
  ·obtain⟨its,_,pl,_⟩:=I.list hq
   refine⟨pl.isList.typeIs,λa e=>?_⟩
   cases e
   obtain⟨o,n,e,c,hd,_⟩:=pl
   exact⟨o,e,hd⟩
  ·refine⟨⟨o,I.kIn p o hk,hc⟩,λa e=>?_⟩
   cases e
   exact⟨o,I.kIn _ o hk,hd⟩
  ·have z:∃o,s.heap.get? p=some o/\o.ExactDict:=by
    rcases hk with⟨kvs,hk⟩ | ⟨kvs,hk⟩
    ·obtain⟨_,_,_,_,o,_,_,e,ex,_⟩:=I.hok p _ hk
     exact⟨o,e,ex⟩
    ·obtain⟨_,_,_,_,o,_,_,e,ex,_⟩:=I.hok p _ hk
     exact⟨o,e,ex⟩
   obtain⟨o,e,ex⟩:=z
   refine⟨⟨o,e,ex.1⟩,λa e2=>?_⟩
   cases e2
   exact⟨o,e,ex.2.1⟩
  ·obtain⟨o,_,_,_,e,ex,_⟩:=I.hok p _ hk
   refine⟨⟨o,e,ex.1⟩,λa e2=>?_⟩
   cases e2
   exact⟨o,e,ex.2.1⟩
 | _=>exact False.elim ty
def tBM (K:Fg) (T:String) (r:V->List V->Hp->VK->Prop) (to:TE) (t:TA):TE:=λσ H Q=>to σ H λx H1=>tyV K T x H1/\t σ H1 λxs H2=>r x xs H2 Q
variable {o e:Expr}{es:List Expr}{to:TE}{t:TA}{name:Str}{apos cpos:Pos}{T id:String}{r:V->List V->Hp->VK->Prop}
theorem ZI (pa:PlainAttrs T) (slot:Slot T name id) (hty:typeOf (.builtin id)=pure (.type "method_descriptor")) (hm:MtR X id r) (ho:PE X o to) (ha:PA X (e::es) t)
  (hbase:attributeBase o name X.env (eval o X.env)=eval o X.env:=by rfl)
  (hfew:((backTo cpos (starEach (e::es) X.env)).all (λx=>!x.1)&&(backToKw cpos (keywordEach [] X.env)).all (λx=>x.1.isSome)
   && decide ((e::es).length+([]:List Keyword).length+(if([]:List Keyword).isEmpty then 0 else 1)<30))=true:=by rfl)
  (hline:(apos.endLine == cpos.line)=true:=by rfl) (hs:starEach (e::es) X.env=(false,eval e X.env)::starEach es X.env:=by rfl) (hplain:(backTo cpos (starEach es X.env)).any (·.1)=false:=by rfl) :
  PE X (.Call (.Attribute o name apos) (e::es) [] cpos) (tBM X.K T r to t):=by
 intro pz s σ H Q I h
 refine wpAny_Call_method_late hbase hfew hline rL (thn (ho pz s σ H _ I h) λv s1 ⟨x,H1,I1,r1,ty,q1⟩=>?_)
 obtain⟨h1,h2⟩:=zjx I1 r1 ty
 refine⟨T,id,pa,slot,hty,h1,h2,?_⟩
 have hA:=ha cpos pz s1 σ H1 _ I1 q1
 rw[hs]at hA ⊢
 refine Calls.callWith_builtin (by show (false || (backTo cpos (starEach es X.env)).any (·.1))=false;rw[hplain] <;> rfl) (Calls.evalArgs_plain ?_)
 exact thn hA λus s2 ⟨vs,H2,I2,r2,q2⟩=>hm pz s2 σ H2 x vs v us Q I2 r1 r2 q2
end
def MtM (X:Cx) (id:String) (r:V->List V->Hp->VK->Prop):Prop :=
 ∀(pz:List (Addr×Obj)) (s:Shared) (σ:St) (H:Hp) (x:V) (xs:List V) (v:Value) (us:List Value) (Q:VK),Inv X pz σ H s->xi x v->xa xs us->r x xs H Q →
  wpAny (model X.prog X.w) X.A (call (.builtin id) (v::us)) (EP X pz σ Q) X.xe s
theorem xa.one:∀{x:V}{us:List Value},xa [x] us->∃u,us=[u]/\xi x u
 | _,_,.cons r .nil=>⟨_,rfl,r⟩
theorem xa.two:∀{x y:V}{us:List Value},xa [x,y] us->∃u v,us=[u,v]/\xi x u/\xi y v
 | _,_,_,.cons r (.cons q .nil)=>⟨_,_,rfl,r,q⟩
section
variable {X:Cx}{pz:List (Addr×Obj)}{σ:St}{H:Hp}{s:Shared}{l b:Addr}{xs ys zs:List V}
theorem Inv.lset {its its':List Value}{n:Nat}{f:Array Value->Array Value}{t':Nat}(I:Inv X pz σ H s) (hH:H l=some (.lst xs))
  (e:s.heap.get? l=some { cls:=.type "list",data:=.seq its.toArray n }) (hf:f its.toArray=its'.toArray) (hv:xa ys its') (hz:ys.length<=sizeLine) :
  Inv X pz σ (upd H l (.lst ys)) { s with heap:=s.heap.update l (Obj.mapSeq f),toks:=t' }:=by
 have q:=PySem.IsL.update e f
 rw[hf]at q
 refine I.write (x:=l) (e:=l) (by rw[hH];exact trivial) (.inl rfl) (λb' u hb hu=>(yn s.heap (Obj.mapSeq f) (Ne.symm hb)).trans hu) ⟨_,q⟩ ?_
 exact⟨hz,its',_,hv,q⟩
theorem Inv.lnew {its:List Value}{t':Nat}(I:Inv X pz σ H s) (hv:xa ys its) (hz:ys.length<=sizeLine) :
  Inv X pz σ (upd H s.heap.objs.size (.lst ys)) { s with heap:=s.heap.push { cls:=.type "list",data:=.seq its.toArray },toks:=t' } :=
 I.laid (λ_ _ q=>wf _ q) (wg _) ⟨hz,its,0,hv,wE _ rfl⟩
theorem Inv.fresh (I:Inv X pz σ H s):H s.heap.objs.size=none:=I.hok.fresh (wg _)
theorem Inv.lstM (I:Inv X pz σ H s) (hH:H l=some (.lst xs)):xs.length<=sizeLine/\∃(its:List Value) (n:Nat),xa xs its/\xs.length=its.length/\s.heap.get? l=some { cls:=.type "list",data:=.seq its.toArray n }:=by
 obtain⟨z,its,n,r,e⟩:=I.hok l _ hH
 exact⟨z,its,n,r,r.length,e⟩
theorem zew {n:Nat}(h:n<=sizeLine):Builtin.List.listTooLong n=false:=by
 unfold Builtin.List.listTooLong
 exact wA ∅
end
section
variable {X:Cx}
def zgE:V->List V->Hp->VK->Prop:=λx vs H Q=>∃l xs y,x = .ref l/\vs=[y]/\H l=some (.lst xs)/\xs.length<sizeLine/\Q .non (upd H l (.lst (xs++[y])))
theorem qr:MtM X "list.append" zgE:=by
 intro pz s σ H x vs v us Q I rx rv h
 obtain⟨l,xs,y,rfl,rfl,hH,hz,q⟩:=h
 cases rx
 obtain⟨u,rfl,ru⟩:=rv.one
 obtain⟨z,its,n,r,hl,e⟩:=I.lstM hH
 refine call_meets F.slot_list_append ⟨_,e,rfl⟩ F.entry_list_append (F.args_list_append_2 _ _) (PySem.list_append l its.toArray n u (by rw[wF];lia)) ⟨e,?_⟩
 refine⟨.non,_,I.lset (its':=its++[u]) hH e (by simp) (r.append (.cons ru .nil)) ?_,rfl,q⟩
 rw[wI,uf]
 lia
inductive zhp (x:V) (y:V) (H:Hp) (Q:VK):Prop
 | mk:∀l b xs zs,(x = .ref l)->(y = .ref b)->(H l=some (.lst xs))->(H b=some (.lst zs))->(xs.length+zs.length<=sizeLine)->(∀p,H p=none->Q (.ref p) (upd H p (.lst (xs++zs))))->zhp x y H Q
def rCat:R2:=λx y H Q=>zhp x y H Q
theorem JO:OpR X (binaryOp .Add) rCat:=by
 intro pz s σ H x y v u Q I rx ry h
 obtain⟨l,b,xs,zs,rfl,rfl,hH,hB,hz,q⟩:=h
 cases rx
 cases ry
 obtain⟨z,its,n,r,hl,e⟩:=I.lstM hH
 obtain⟨z2,its2,n2,r2,hl2,e2⟩:=I.lstM hB
 refine PySem.P.add_list e e2 ?_ (by rw[wF,wF];lia)
 have ea:its.toArray++its2.toArray=(its++its2).toArray:=by simp
 rw[ea]
 exact⟨.ref _,_,I.lnew (t':=s.toks) (r.append r2) (by rw[wI];lia),rfl,q _ I.fresh⟩
end
end L2
namespace Att
open PySem PySem.W PySem.Calls PyProof.Rows
theorem QP {P:Params}{h:Heap}:∀(ns:List Int) (vs:List Value),WellAll P h vs (ns.map WData.int)->IntsAre vs ns:=by
 intro ns
 induction ns with
 | nil =>
  intro vs w
  rw[List.map_nil]at w
  cases w
  exact .nil
 | cons n ns ih =>
  intro vs w
  rw[yA]at w
  cases w with
  | cons a b =>
   cases a
   exact .cons _ _ (ih _ b)
theorem zdm {l:OpenLaw}{n:Nat}(hn:l.most=some n){P:Params}{h:Heap}{args:List WData}{vals:List Value}
  (hpre:l.row.toRowW.claim.pre args=true) (hwl:WellAll P h vals args) :
  ∃a vs ns,vals=[Value.ref a]/\args=[WData.list (ns.map WData.int)]/\h.get? a=some { cls:=.type "list",data:=.seq vs.toArray }/\IntsAre vs ns/\ns.length<=n:=by
 have hsh:WShape.hasAll [] args [.list .int]=true:=(pre_splitW hpre).1
 have hc:l.pre.holds [] { args:=args } = true:=(pre_splitW hpre).2
 obtain⟨d,r,rfl,h1,h2⟩:=hasAllW_cons hsh
 obtain rfl:=hasAllW_nil h2
 obtain⟨xs,rfl,h3⟩:=hasW_list h1
 obtain⟨ns,rfl⟩:=items_int h3
 have hlen:ns.length<=n:=by
  unfold OpenLaw.pre at hc
  have h4:(WTm.not (.lt (.lit (.int (n:Int))) (.len (.arg 0)))).holds [] { args:=[.list (ns.map .int)] } = true:=by
   have h4:=(holds_andW hc).1
   rw[hn]at h4
   exact h4
  have h5:=condW_of h4 (w_not (w_lt w_lit (w_len_list (w_arg rfl))))
  rw[we]at h5
  refine Nat.le_of_not_lt λq=>?_
  have q':(n:Int)<((ns.length:Nat):Int):=by omega
  first
   | (rw[wm q']at h5;exact absurd h5 (by decide))
   | (simp at h5;omega)
 cases hwl with
 | cons w1 w2 =>
  cases w2
  cases w1 with
  | list ho hall=>exact⟨_,_,ns,rfl,rfl,ho,QP ns _ hall,hlen⟩
theorem zdh (l:OpenLaw) (args:List WData):l.row.toRowW.claim.post args (.bool true) args=true :=
 postW_of (r:=l.row.toRowW) (X:=(true == true))
  (show WShape.has [] (.bool true) .bool=true by first | rfl | decide | simp[WShape.has,WShape.arms,WShape.armsAll])
  (show (WTm.eq .res (.lit (.bool true))).value [] { args:=args,res:=some (.bool true),after:=args } = some (.bool (true == true))from w_eq_bool (w_res rfl) w_lit) rfl
theorem attach_call {l:OpenLaw}{n:Nat}{q:Program}{loose:List Str}{XP:(Str->Option Value)->Heap->Prop}{YP:World->Heap->Prop}{d:DefRec}
  (hn:l.most=some n) (hdf:d.params.defaults=[])
  (call:∀(w:World) (s₀ s₁:Shared) (mg mb:Str->Option Value) (fa:Addr) (o:Obj) (pm cd doc:Value) (a:Addr) (vs:List Value) (ns:List Int),
   Ground q loose [] XP w s₀ mg mb s₁.heap->YP w s₁.heap →
   s₁.heap.get? fa=some o->o.data = .func (docDef d.name d.params d.body d.scope pm cd doc)->s₁.heap.CodeRec cd d.name->mg d.name=some (.ref fa) →
   s₁.heap.get? a=some { cls:=.type "list",data:=.seq vs.toArray }->IntsAre vs ns->ns.length<=n->s₁.gens = #[] →
   codeAny (model l.prog w) callerA (.call (.ref fa) ⟨[.ref a],[]⟩) (λr s'=>r = .ok (.ret (.bool true))/\OldK s₁.heap s'.heap/\s'.os=s₁.os/\AllBare s'.gens) s₁) :
  WalkO q loose XP YP l.row.toRowW d [] (λf vs=>PySem.call f vs):=by
 intro w s₀ s₁ mg mb G Y fa o pm cd doc dV kV ho hd hcd hD hmg hg args vals as hpre hlay hrd hwl hlo
 obtain rfl:dV = .none:=Dflts.none hD hdf
 obtain rfl:kV = .none:=Dflts.noKw hD
 obtain⟨a,vs,ns,rfl,rfl,hobj,hints,hlen⟩:=zdm hn hpre hwl
 refine enter_call (codeAny_mono (call w s₀ s₁ mg mb fa o pm cd doc a vs ns G Y ho (fd_plain hd) hcd hmg hobj hints hlen hg) λr s' hq=>?_)
 obtain⟨rfl,h2,h3,h4⟩:=hq
 exact⟨.inl ⟨.bool true,.bool true,[],rL,λ_=>rL,.bool true,zdh l _,λ_=>⟨List.Pairwise.nil,λ_ hm=>(nomatch hm)⟩⟩,h2,h3,h4⟩
end Att
namespace L2
open PySem PySem.Spec PyProof.Rows
theorem vA:∀{vs:List Value}{ns:List Int},IntsAre vs ns->xa (ns.map V.int) vs
 | _,_,.nil=>.nil
 | _,_,.cons n t h=>.cons ⟨t,rfl⟩ (vA h)
def zhL (H:Hp):Prop:=∀b,H b=none\/∃o xs,H b=some (.frz o (.lst xs))
theorem zek {P:Program}{w:World}{K:Fg}{mg mb:Str->Option Value}{CX:CXT}{k:Nat}{fa a:Addr}{fd:FuncData}{x:Str}{sp:Sp}{s₁:Shared}{vs:List Value}{ns:List Int}
  (KX:K.In s₁.heap) (hns:s₁.heap.Ns mainGlobals mg) (hb:s₁.heap.Ns builtinsNs mb) (hbb:∀x:Str,x≠"__name__"->mb x=bootBuiltins x) (hlim:s₁.heap.NoLimit) (hg:s₁.gens = #[])
  (ha:s₁.heap.get? a=some { cls:=.type "list",data:=.seq vs.toArray }) (hi:IntsAre vs ns) (hl:ns.length<=sizeLine) (hr:z6 k callerA)
  (F:∀base:Heap,K.In base->base.Ns mainGlobals mg->Zu P w K mg base CX k fa fd [x] sp) (hbind:∀(s:Shared) (u:Value),BindsTo s fd ⟨[u],[]⟩ [(x,u)])
  (hsp:∀H:Hp,zhL H->SqL K H a (ns.map V.int)->sp [.ref a] H (λv _=>v = .bl true) λ_ _ _=>False)
  (hCX:∀H e s',CX [] H s₁ (λ_ _ _=>False) e s'->False) :
  codeAny (model P w) callerA (.call (.ref fa) ⟨[.ref a],[]⟩) (λr s'=>r = .ok (.ret (.bool true))/\OldK s₁.heap s'.heap/\s'.os=s₁.os/\AllBare s'.gens) s₁:=by
 have rv:=vA hi
 have lenV:=hi.length
 have core:∀H:Hp,zhL H->SqL K H a (ns.map V.int)->HOk P w H s₁.heap->(∀b,H b≠none->b=a)->(H a≠none->K.lookup a=none) →
   codeAny (model P w) callerA (.call (.ref fa) ⟨[.ref a],[]⟩) (λr s'=>r = .ok (.ret (.bool true))/\OldK s₁.heap s'.heap/\s'.os=s₁.os/\AllBare s'.gens) s₁:=by
  intro H hO hS hok hA hK
  have base_of:∀{b:Addr}{o:Obj},s₁.heap.get? b=some o->H b=none->(JI s₁.heap H).get? b=some o:=λe n=>zec e n
  have noA:∀{b:Addr}{o:Obj}{es:Array DictEntry}{ep:Nat},s₁.heap.get? b=some o->o.data = .dict es ep->H b=none:=λ{b o es ep} e d=>by
   cases q:H b with
   | none=>rfl
   | some u =>
    have e':b=a:=hA b (by rw[q];simp)
    subst e'
    rw[ha]at e;cases e
    have d':Data.seq vs.toArray _=Data.dict es ep:=d
    cases d'
  have nsK:∀{b:Addr}{m:Str->Option Value},s₁.heap.Ns b m->(JI s₁.heap H).Ns b m:=λ{b m} ⟨o,es,ep,e,d,r⟩=>⟨o,es,ep,base_of e (noA e d),d,r⟩
  have hKb:K.In (JI s₁.heap H):=λb o e=>base_of (KX b o e) (by
   cases q:H b with
   | none=>rfl
   | some u =>
    have e':b=a:=hA b (by rw[q];simp)
    subst e'
    rw[hK (by rw[q];simp)]at e;cases e)
  have hM:Mod K mg (JI s₁.heap H):=⟨hKb,nsK hns,⟨mb,nsK hb,hbb⟩,let ⟨mc,h1,h2⟩:=hlim;⟨mc,nsK h1,h2⟩⟩
  have e0:zaS P w K mg (JI s₁.heap H) callerA [] s₁ H:=⟨rfl,hM,λb o e=>zgh e,WX (zcU _ _),trivial,λb hb=>absurd (show b∈([]:List Addr)from hb) (by simp),hok,.of_eq hg⟩
  refine codeAny_mono ((F _ hKb (nsK hns)).run callerA [] s₁ H ⟨[.ref a],[]⟩ [.ref a] [.ref a] _ _ hr e0 (hbind s₁ (.ref a)) (.cons rL .nil) (hsp H hO hS)) λr s' h=>?_
  cases r with
  | error e=>exact(hCX H e s' h).elim
  | ok fl =>
   cases fl with
   | next=>exact False.elim h
   | brk=>exact False.elim h
   | cont=>exact False.elim h
   | ret u =>
    obtain⟨v,H',os,bare,un,hok',r',q⟩:=h
    have q':v = .bl true:=q
    subst q'
    obtain rfl:u=Value.bool true:=r'
    refine⟨rL,OldK.of_keep λb o e=>?_,os,bare⟩
    cases q:H b with
    | none=>exact un.keep b o e q (by intro z;exact absurd (show b∈([]:List Addr)from z) (by simp)) (by simp)
    | some u =>
     rcases hO b with z | ⟨ob,xs,z⟩
     ·rw[q]at z;cases z
     ·have z2:=un.frzs b ob _ z
      obtain⟨e1,_⟩:=hok b _ z
      obtain⟨e2,_⟩:=hok' b _ z2
      rw[e]at e1;cases e1
      exact e2
 cases hk:K.lookup a with
 | some o =>
  have e:=KX a o hk
  rw[ha]at e
  cases e
  refine core (λ_=>none) (λ_=>.inl rfl) (.inr ⟨_,vs.toArray,_,hk,rfl,rfl,rfl,by rw[wF,lenV];exact hl,by simpa using rv⟩) (λb u z=>by have z':(none:Option HO)=some u:=z;cases z') (λb z=>absurd rfl z) λz=>absurd rfl z
 | none =>
  refine core (λb=>if b=a then some (.frz { cls:=.type "list",data:=.seq vs.toArray } (.lst (ns.map V.int)))else none) (λb=>?_) (.inl (.inr ⟨{ cls:=.type "list",data:=.seq vs.toArray },if_pos rL⟩)) (λb u z=>?_) (λb z=>?_) λ_=>hk
  ·by_cases hb:b=a
   ·exact .inr ⟨_,_,if_pos hb⟩
   ·exact .inl (if_neg hb)
  ·by_cases hb:b=a
   ·have z':=(if_pos hb).symm.trans z
    cases z'
    subst hb
    exact⟨ha,by rw[we];exact hl,vs,_,rv,ha⟩
   ·have z':=(if_neg hb).symm.trans z
    cases z'
  ·by_cases hb:b=a
   ·exact hb
   ·exact absurd (if_neg hb) z
theorem zhc {l:PySem.W.OpenLaw}{n k:Nat}{q:Program}{loose:List Str}{XP:(Str->Option Value)->Heap->Prop}{YP:World->Heap->Prop}{d:DefRec}{K:Params->Fg}{CX:World->CXT}{sp:World->Sp}{x:Str}
  (hn:l.most=some n) (hn2:n<=sizeLine) (hdf:d.params.defaults=[]) (hr:z6 k callerA)
  (hY:∀(w:World) (h:Heap),YP w h->(K w.params).In h)
  (F:∀(w:World) (mg:Str->Option Value) (fa:Addr) (h:Heap),(K w.params).In h->h.Ns mainGlobals mg->mg d.name=some (.ref fa) →
   ∃fd:FuncData,(∀(s:Shared) (u:Value),BindsTo s fd ⟨[u],[]⟩ [(x,u)]) ∧
    ∀base:Heap,(K w.params).In base->base.Ns mainGlobals mg->Zu l.prog w (K w.params) mg base (CX w) k fa fd [x] (sp w))
  (hsp:∀(w:World) (H:Hp) (a:Addr) (ns:List Int),ns.length<=n->zhL H->SqL (K w.params) H a (ns.map V.int)->sp w [.ref a] H (λv _=>v = .bl true) λ_ _ _=>False)
  (hCX:∀(w:World) (H:Hp) (s:Shared) (e:Value) (s':Shared),CX w [] H s (λ_ _ _=>False) e s'->False) :
  PySem.W.WalkO q loose XP YP l.row.toRowW d [] (λf vs=>PySem.call f vs):=by
 refine Att.attach_call hn hdf λw s₀ s₁ mg mb fa o pm cd doc a vs ns G Y ho hd hcd hmg hobj hints hlen hg=>?_
 have KX:=hY w _ Y
 obtain⟨fd,hb,hF⟩:=F w mg fa _ KX G.T.g hmg
 exact zek KX G.T.g G.T.b G.T.builtins G.T.nolimit hg hobj hints (yH hlen hn2) hr hF hb (λH hO hS=>hsp w H a ns hlen hO hS) λH e s'=>hCX w H s₁ e s'
def zga (s:Stmt) (j:Nat):Stmt:=match s with
 | .ClassDef _ _ _ body _ _ _ _ _ _ _=>body.getD j (.Pass ⟨0,0,0,0⟩)
 | _=>.Pass ⟨0,0,0,0⟩
def xB (s:Stmt):Arguments:=match s with
 | .FunctionDef _ a _ _ _ _ _ _ _ _=>a
 | _=>{ posonlyargs:=[],args:=[],vararg:=none,kwonlyargs:=[],kw_defaults:=[],kwarg:=none,defaults:=[] }
def zZ (s:Stmt):List Stmt:=match s with
 | .FunctionDef _ _ b _ _ _ _ _ _ _=>b
 | _=>[]
def zk (s:Stmt):Scope:=match s with
 | .FunctionDef _ _ _ _ _ _ sc _ _ _=>sc
 | _=>{ kind:=.function,names:=[],isGenerator:=false,isCoroutine:=false }
abbrev CX0:CXT:=λ_ _ _ _ _ _=>False
abbrev E0:XK:=λ_ _ _=>False
theorem zeC {X:Cx}:Ve CX0 X E0:=λ_ _ _ _ _ _ _ h=>h.elim
structure Fun (K:Fg) (x qual:Str) (st:Stmt) (f:Addr) (fd:FuncData):Prop where
 ex:∃(oc:Value) (od:Option Addr) (kV doc pm:Value) (an:Option Addr) (cdv ct:Value) (osl:Array (Option Value)),
  fd=PySem.W.fnOf x qual (xB st) (zZ st) (zk st) .none kV doc pm an cdv ct/\K.lookup f=some ⟨oc,od,.func fd,osl⟩/\PySem.W.codeIn K cdv qual=true
 kp:PySem.W.keepIn K (.ref f)=true
section
variable {P:Program}{w:World}{K:Fg}{mg:Str->Option Value}{base:Heap}
theorem Fun.ok {x qual:Str}{st:Stmt}{f:Addr}{fd:FuncData}{N ps:List Str}{k:Nat}{sp:Sp}(F:Fun K x qual st f fd) (S:zA N ps (zk st)) (len:∀vs H Q E,sp vs H Q E->vs.length=ps.length)
  (hbody:∀(cdv:Value) (A:Around) (outer:List Env) (s:Shared) (H:Hp) (vs:List V) (Q:VK) (E:XK),z6 k (A.deeper (envOfC qual (zk st) s.heap.objs.size f cdv))->sp vs H Q E →
   ∃t,PSs (zU CX0 P w K mg base N qual (zk st) f cdv A outer s H E).nox (zZ st) t/\t { nx:=λ_ H'=>Q .non H',rt:=Q } (vv N vs) H):Zu P w K mg base CX0 (k+1) f fd ps sp:=by
 obtain⟨oc,od,kV,doc,pm,an,cdv,ct,osl,rfl,lk,hcd⟩:=F.ex
 refine zd6 lk hcd S len λA outer s H vs Q E hr hsp=>?_
 obtain⟨t,h,q⟩:=hbody cdv A outer s H vs Q E hr hsp
 exact⟨t,h.nox,q⟩
theorem Fun.okq {x qual:Str}{st:Stmt}{f:Addr}{fd:FuncData}{N ps:List Str}{k:Nat}{sp:Sp}(F:Fun K x qual st f fd) (S:zA N ps (zk st))
  (hbody:∀(cdv:Value) (A:Around) (outer:List Env) (s:Shared) (H:Hp) (vs:List V) (Q:VK) (E:XK),z6 k (A.deeper (envOfC qual (zk st) s.heap.objs.size f cdv))->sp vs H Q E →
   ∃t,PSs (zU CX0 P w K mg base N qual (zk st) f cdv A outer s H E).nox (zZ st) t/\t { nx:=λ_ H'=>Q .non H',rt:=Q } (vv N vs) H) (len:∀vs H Q E,sp vs H Q E->vs.length=ps.length:=by intro _ _ _ _ h;repeat (first | (cases h;subst_vars;rfl) | (obtain⟨rfl,_⟩:=h;rfl) | (obtain⟨_,h⟩:=h))):Zu P w K mg base CX0 (k+1) f fd ps sp:=F.ok S len hbody
theorem Fun.binds {x qual:Str}{st:Stmt}{f:Addr}{fd:FuncData}{ps:List Str}(F:Fun K x qual st f fd)
  (h:∀(kV doc pm:Value) (an:Option Addr) (cdv ct:Value) (us:List Value),us.length=ps.length->bindArgs (PySem.W.fnOf x qual (xB st) (zZ st) (zk st) .none kV doc pm an cdv ct) ⟨us,[]⟩=pure (ps.zip us)):v5 K fd ps []:=by
 obtain⟨oc,od,kV,doc,pm,an,cdv,ct,osl,rfl,lk,hcd⟩:=F.ex
 exact .all (h kV doc pm an cdv ct)
theorem zd7 {x qual:Str}{st:Stmt}{f:Addr}{oc:Value}{od an:Option Addr}{osl:Array (Option Value)}{kV doc pm cdv ct:Value}(l:K.lookup f=some ⟨oc,od,.func (PySem.W.fnOf x qual (xB st) (zZ st) (zk st) .none kV doc pm an cdv ct),osl⟩)
  (c:PySem.W.codeIn K cdv qual=true) (k:PySem.W.keepIn K (.ref f)=true):Fun K x qual st f (PySem.W.fnOf x qual (xB st) (zZ st) (zk st) .none kV doc pm an cdv ct):=⟨⟨oc,od,kV,doc,pm,an,cdv,ct,osl,rfl,l,c⟩,k⟩
end
theorem vz {n:Nat}(h:n<=1000):n<sizeLine:=WK h (by decide)
section
variable {X:Cx}
theorem pv (i:Nat){x:Str}{pos:Pos}(hN:X.N[i]? = some x:=by rfl) (hv:Vis X.env.scope x:=by first | exact Or.inl rfl | exact Or.inr (Or.inl rfl) | exact Or.inr (Or.inr rfl)) (hd:(x == ("__debug__":Str))=false:=by decide)
  (hcd:(x == ("__classdict__":Str))=false:=by decide):PE X (.Name x pos) (xy i):=ziO hN hv hd hcd
end
theorem hid {A:Prop}(h:∀P:Prop,(A->P)->P):A:=h A id
theorem xc {A B:Prop}(h:B):if false=true then A else B:=by
 rw[if_neg wZ]
 exact h
theorem xw {A B:Prop}(h:A):if true=true then A else B:=by
 rw[if_pos rfl]
 exact h
theorem qT {c A B:Prop} [Decidable c] (h1:c->A) (h2:¬c->B):if c then A else B:=by
 by_cases h:c
 ·rw[if_pos h]
  exact h1 h
 ·rw[if_neg h]
  exact h2 h
def zi (H H':Hp):Prop:=∀b o,H b=some o->H' b=some o
theorem zi.refl (H:Hp):zi H H:=λ_ _ h=>h
theorem zi.trans {H H1 H2:Hp}(a:zi H H1) (b:zi H1 H2):zi H H2:=λc o h=>b c o (a c o h)
theorem zi.seq {K:Fg}{H H':Hp}{a:Addr}{xs:List V}(e:zi H H') (h:SqL K H a xs):SqL K H' a xs:=by
 rcases h with(h | ⟨o,h⟩) | h
 ·exact .inl (.inl (e _ _ h))
 ·exact .inl (.inr ⟨o,e _ _ h⟩)
 ·exact .inr h
section
variable {prog:Program}{w:World}{A:Around}{R:Result->Shared->Prop}{s:Shared}
theorem XQ {elt target iter:Expr}{ifs:List Expr}{scope:Scope}{pos:Pos}{it acc:Value}{env:Env}(I:Nat->Shared->Prop)
  (turn:∀n s,I n s->wpAny (model prog w) A (pyNext it) (λr s₁=>match r with
   | none=>R (.ok .next) s₁
   | some v=>wpAny (model prog w) A (letOwnedTupleGo target it v) (λ_ s₀=>wpAny (model prog w) A (assign target env v) (λ_ s₂ =>
     wpAny (model prog w) A (forIn ifs true λc r=>if r=true then do let ok <-isTrue c env (eval c env);pure (ForInStep.yield ok)else pure (ForInStep.yield r)) (λok s₃ =>
      if ok=true then wpAny (model prog w) A (eval elt env) (λx s₄ =>
       wpAny (model prog w) A (call (.builtin "list.append") [acc,x]) (λ_ s₅=>∃m,m<n/\I m s₅) (λ_ _=>False) s₄) (λ_ _=>False) s₃
      else ∃m,m<n/\I m s₃) (λ_ _=>False) s₂) (λ_ _=>False) s₀) (λ_ _=>False) s₁) (λ_ _=>False) s)
  (n:Nat) (h:I n s) :
  codeAny (model prog w) A (.compLoop (.ListComp elt [⟨target,iter,ifs,0⟩] scope pos) 0 it acc env) R s:=by
 refine codeAny_loop rL I (λn s hI=>?_) n h
 show wpAny _ A ((compTurn (.ListComp elt [⟨target,iter,ifs,0⟩] scope pos) 0 it acc env).onRaise (λx=>do noteFrame x env;theTreesLotGoes x)) _ _ s
 refine wpAny_noted ?_
 rw[compTurn_list]
 have no:∀{X:Prop},∀(e:Value) (s':Shared),(λ_ _=>False:Value->Shared->Prop) e s'->X:=λ_ _ z=>False.elim z
 refine wc (YY (wc (yZ (turn n s hI) (λr s₁ h₁=>?_) λe s'=>no e s')))
 cases r with
 | none=>exact wj h₁
 | some v =>
  refine wc (yZ h₁ (λ_ s₀ h₀=>?_) λe s'=>no e s')
  refine wc (yZ h₀ (λ_ s₂ h₂=>wc (yZ h₂ (λok s₃ h₃=>?_) λe s'=>no e s')) λe s'=>no e s')
  cases ok with
  | false=>exact wj ⟨rfl,h₃⟩
  | true =>
   exact wc (wc (yZ h₃ (λx s₄ h₄=>wc (yZ h₄ (λ_ s₅ h₅=>wj (wj ⟨rL,h₅⟩)) λe s'=>no e s')) λe s'=>no e s'))
end
def qS (X:Cx) (NB:List Str) (scope:Scope) (s3:Shared) (H3:Hp) (fp:List Addr):Cx :=
 { X with N:=NB,s₀:=s3,H₀:=H3,env:=compEnv scope s3.heap.objs.size X.env,outer:=X.stack,stack:=X.stack,ex:=fp,fn:=λ_=>true,pn:=[],xe:=λ_ _=>False }
def PTs (X:Cx) (ifs:List Expr) (t:TT):Prop :=
 ∀(pz:List (Addr×Obj)) (s:Shared) (σ:St) (H:Hp) (Q:Bool->Hp->Prop),Inv X pz σ H s->t σ H Q →
  wpAny (model X.prog X.w) X.A (forIn ifs true λc r=>if r=true then do let ok <-isTrue c X.env (eval c X.env);pure (ForInStep.yield ok)else pure (ForInStep.yield r)) (TP X pz σ Q) X.xe s
theorem xJ {X:Cx}:PTs X [] (λ_ H Q=>Q true H):=λ_ _ _ H _ I h=>wpAny_tests_nil ⟨H,I,h⟩
theorem Qb {X:Cx}{c:Expr}{t:TT}(h:PT X c t):PTs X [c] t:=λpz s σ H Q I q=>wpAny_tests_one (h pz s σ H Q I q)
def zcq (n:Nat) (wi:TI) (g:TG) (tt:TT) (te:TE):TE:=λσ H Q=>wi σ H λJ H1=>∀D,H1 D=none->∃W:Nat->Nat->Hp->List V->Prop,(∃m,W 0 m (upd H1 D (.lst [])) []) ∧
 ∀i m H2 ys,W i m H2 ys->H2 D=some (.lst ys)->(J.stop i H2/\Q (.ref D) H2) ∨
  (J.go i H2/\∀σB x H3,σB.length=n->J.yld i H2 x H3->g x σB H3 λσ4 H4=>tt σ4 H4 λb H5=>if b=true then te σ4 H5 (λv H6=>H6 D=some (.lst ys)/\ys.length<sizeLine/\∃m',m'<m/\W (i+1) m' (upd H6 D (.lst (ys++[v]))) (ys++[v]))
   else H5 D=some (.lst ys)/\∃m',m'<m/\W (i+1) m' H5 ys)
theorem vc {X:Cx}{elt tg iter:Expr}{ifs:List Expr}{scope:Scope}{pos:Pos}{NB:List Str}{wi:TI}{g:TG}{tt:TT}{te:TE}
  (hc:X.calm=true) (hfree:∀x∈scope.names,x.2≠.free) (hcell:∀x∈scope.names,x.2≠.cell) (hkind:scope.kind = .function) (hnames:∀x∈scope.names,x.2 = .local → scope.names.lookup x.1=some .local)
  (hi:PI X tg iter wi) (hb:∀s3 H3 fp,PG (qS X NB scope s3 H3 fp) tg g/\PTs (qS X NB scope s3 H3 fp) ifs tt/\PE (qS X NB scope s3 H3 fp) elt te)
  (hs:∀x,foldedSetIterable iter X.env x=pure x:=by intro _;rfl) :
  PE X (.ListComp elt [⟨tg,iter,ifs,0⟩] scope pos) (zcq NB.length wi g tt te):=by
 intro pz s σ H Q I h
 refine wpAny_ListComp hfree hkind hnames (thn (hi pz s σ H _ I h) λv s1 h1=>thn h1 λitv s2 h2=>?_) hs
 obtain⟨it,fp,tn,J,H2,e,I2,T,st2,f2,q2⟩:=h2
 subst e
 have hf2:H2 s2.heap.objs.size=none:=I2.hok.fresh (wg _)
 obtain⟨W,⟨m0,w0⟩,turn⟩:=q2 _ hf2
 refine yO (hd:=by size_fits) ?_
 have I3:Inv X pz σ (upd H2 s2.heap.objs.size (.lst [])) { s2 with heap:=s2.heap.push { cls:=.type "list",dict:=none,data:=.seq ([]:List Value).toArray } } :=
  I2.laid (t':=s2.toks) (λb u e=>wf _ e) (wg _) ⟨by decide,[],0,.nil,wE _ rfl⟩
 generalize hD:s2.heap.objs.size=D at *
 generalize hs3:({ s2 with heap:=s2.heap.push { cls:=.type "list",dict:=none,data:=.seq ([]:List Value).toArray } }:Shared)=s3 at *
 generalize hH3:upd H2 D (.lst [])=H3 at *
 have h3D:H3 D=some (.lst []):=by rw[<-hH3];exact zg
 have fpD:∀b∈fp,b≠D:=λb hb=>by
  obtain⟨o,e,_⟩:=T.obj _ _ st2 b hb
  rw[<-hD];exact wS (wB e)
 have k23:∀b u,s2.heap.get? b=some u->s3.heap.get? b=some u:=λb u e=>by rw[<-hs3];exact wf _ e
 have st3:tn 0 s3.heap:=T.keep _ _ _ st2 λb _ o e=>k23 b o e
 have f3:∀b∈fp,Vd X pz H3 b:=λb hb=>⟨by rw[<-hH3,zO (fpD b hb)];exact(f2 b hb).1,(f2 b hb).2⟩
 refine wpAny_newFunctionEnv hcell (by intro y hy;simp at hy) (λh4 hns4 hsb4=>?_) hkind
 have k34:∀b u,s3.heap.get? b=some u->h4.get? b=some u:=λb u e=>hsb4.extBut b u (wS (wB e)) (wf _ e)
 have okB:(qS X NB scope s3 H3 fp).Ok:=by
  refine⟨I3.ok.mod,hkind,I3.ok.glob,I3.ok.blt,wg _,λx y c e _=>?_,λx e=>?_,λx c _ e=>?_,I3.ok.hd,I3.ok.frames,.inl rL,λb hb=>⟨?_,λx c e=>?_⟩,I3.bs,yH I3.ok.bsz I3.sz,λb o e hb=>?_,λb hb z=>?_,I3.stack,I3.stkFree⟩
  ·exact absurd (show ([]:List (Str×Addr)).lookup x=some c from e) (by simp)
  ·have e':scope.names.lookup x=some .cell\/scope.names.lookup x=some .free:=e
   rcases e' with e' | e'
   ·exact absurd rL (hcell _ (PySem.mem_of_lookup e'))
   ·exact absurd rL (hfree _ (PySem.mem_of_lookup e'))
  ·exact absurd (show ([]:List (Str×Addr)).lookup x=some c from e) (by simp)
  ·obtain⟨o,e,_⟩:=T.obj _ _ st3 b hb
   exact wS (wB e)
  ·exact absurd (show ([]:List (Str×Addr)).lookup x=some c from e) (by simp)
  ·obtain⟨_,_,_,z,_⟩:=f3 b hb
   rcases z with z | z
   ·exact I3.ok.noex b o e z
   ·exact absurd (wT (wB e) (yH I3.ok.bsz z)) (uF _)
  ·obtain⟨_,z1,z2,_⟩:=f3 b hb
   rcases wx.mp (I3.stkSub b z)with e | e
   ·exact z1 e
   ·exact z2 e
 have IB:Inv (qS X NB scope s3 H3 fp) [] (List.replicate NB.length none) H3 { s3 with heap:=h4,toks:=s3.toks+([]:List (Str×Value)).length }:=by
  refine⟨okB,rfl,I3.bare,Un.kept k34,⟨_,hns4,λi x v _ e _=>?_⟩,λx c e=>?_,I3.hok.fresh (wg _),λx c e=>?_,λp hp=>?_,I3.hok.kept k34,by simp[qS]⟩
  ·rw[WH]at e
   split at e <;> cases e
  ·exact absurd (show ([]:List (Str×Addr)).lookup x=some c from e) (by simp)
  ·exact absurd (show ([]:List (Str×Addr)).lookup x=some c from e) (by simp)
  ·exact absurd (show p∈([]:List (Addr×Obj))from hp) (by simp)
 have st4:tn 0 h4:=T.keep _ _ _ st3 λb _ o e=>k34 b o e
 have C_ne:∀b∈fp,b≠s3.heap.objs.size:=λb hb=>(okB.exf b hb).1
 have stat:∀{H':Hp},(∀b∈fp,H' b=none)->∀b∈fp,Vd (qS X NB scope s3 H3 fp) [] H' b:=λhn b hb =>
  ⟨hn b hb,C_ne b hb,okB.exfs b hb,.inl hb,λx c e=>absurd (show ([]:List (Str×Addr)).lookup x=some c from e) (by simp),λp hp=>absurd (show p∈([]:List (Addr×Obj))from hp) (by simp)⟩
 obtain⟨hg,ht,he⟩:=hb s3 H3 fp
 have fin:∀{σ':St}{H':Hp}{s':Shared},Inv (qS X NB scope s3 H3 fp) [] σ' H' s'->Q (.ref D) H' →
   ∃m,s'.heap.Ns s3.heap.objs.size m/\∀h',Heap.SameBut s3.heap.objs.size s'.heap h'->EP X pz σ Q (.ref D) { s' with heap:=h' }:=λ{σ' H' s'} J q=>by
  obtain⟨m,hm,_⟩:=J.loc
  refine⟨m,hm,λh' sb=>⟨.ref D,H',?_,rL,q⟩⟩
  have neC:∀b o,s3.heap.get? b=some o->b≠s3.heap.objs.size:=λb o e=>wS (wB e)
  have hfr:H' s3.heap.objs.size=none:=J.free
  have up:∀b o,b≠s3.heap.objs.size->s'.heap.get? b=some o->h'.get? b=some o:=λb o hb e=>(sb.2 b hb).trans e
  have hok':HOk X.prog X.w H' h':=λb ob e=>(J.hok b ob e).stay (λc w' hc q=>up c w' (by
   rintro rfl
   rcases hc with rfl | hc
   ·rw[hfr]at e;cases e
   ·rw[hfr]at hc;cases hc) q) (λ_ q=>q) λ_ _ q=>q
  have u:Un (frs X.stack) fp H3 H' s3.heap h' :=
   ⟨λb o e n hb hx=>up b o (neC b o e) (J.base.keep b o e n hb hx),λb o e n hb hx=>by
    obtain⟨sl,e'⟩:=J.base.slot b o e n hb hx
    exact⟨sl,up b _ (neC b o e) e'⟩,J.base.free,λb o e hx=>by
    obtain⟨o',e'⟩:=J.base.there b o e hx
    exact⟨o',up b _ (neC b o e) e'⟩,J.base.tups,J.base.frzs,J.base.tbls⟩
  refine I3.call' (s':={ s' with heap:=h' }) (ch:=fp) J.os u hok' J.bare λb hb=>?_
  obtain⟨z0,z1,z2,z3,z4,z5⟩:=f3 b hb
  exact⟨z3,z1,z4,z5⟩
 have loop:∀s5:Shared,s5 = { s3 with heap:=h4,toks:=s3.toks+([]:List (Str×Value)).length } →
   codeAny (model X.prog X.w) X.A (.compLoop (.ListComp elt [⟨tg,iter,ifs,0⟩] scope pos) 0 (.ref it) (.ref D) (compEnv scope s3.heap.objs.size X.env))
    (λr s'=>∃m,s'.heap.Ns s3.heap.objs.size m/\∀h',Heap.SameBut s3.heap.objs.size s'.heap h' →
     match r with | .ok _=>EP X pz σ Q (.ref D) { s' with heap:=h' } | .error x=>wpAny (model X.prog X.w) X.A (passOn "comprehension.variables-let-go" x (compEnv scope s3.heap.objs.size X.env)) (EP X pz σ Q) X.xe { s' with heap:=h' }) s5:=by
  rintro s5 rfl
  refine XQ (λn s'=>∃i σ' H' ys,Inv (qS X NB scope s3 H3 fp) [] σ' H' s'/\tn i s'.heap/\(∀b∈fp,H' b=none)/\H' D=some (.lst ys)/\W i n H' ys) ?_ m0
   ⟨0,_,H3,[],IB,st4,λb hb=>(f3 b hb).1,h3D,by rw[<-hH3]at *;exact w0⟩
  rintro n s6 ⟨i,σ6,H6,ys,I6,st6,fr6,hD6,w6⟩
  rcases turn i n H6 ys w6 hD6 with⟨stop,qn⟩ | ⟨go,step⟩
  ·refine thn (T.done (qS X NB scope s3 H3 fp) rL rL rL hc i [] s6 σ6 H6 _ I6 (stat fr6) st6 stop) λr s7 ⟨hr,I7⟩=>?_
   subst hr
   exact fin I7 qn
  ·refine thn (T.item (qS X NB scope s3 H3 fp) rL rL rL hc i [] s6 σ6 H6 _ I6 (stat fr6) st6 go) λr s7 ⟨u,hr,h7⟩=>?_
   subst hr
   refine thn h7 λ_ s8 ⟨x,H8,I8,r8,y8,st8,fr8⟩=>?_
   have I8':=I8.pinned (stat fr8) (T.obj _ _ st8)
   have again:∀{σ9:St}{H9:Hp}{s9:Shared}{zs:List V}{m':Nat},Inv (qS X NB scope s3 H3 fp) ([]++Qu fp s8.heap) σ9 H9 s9->H9 D=some (.lst zs)->m'<n->W (i+1) m' H9 zs →
     ∃m,m<n/\∃i σ' H' ys,Inv (qS X NB scope s3 H3 fp) [] σ' H' s9/\tn i s9.heap/\(∀b∈fp,H' b=none)/\H' D=some (.lst ys)/\W i m H' ys:=λ{σ9 H9 s9 zs m'} I9 hz hm w9=>by
    refine⟨m',hm,i+1,σ9,H9,zs,I9.unpinned,T.keep _ _ _ st8 λb hb o e=>(I9.pin (b,o) (wV _ (wV _ (qW hb e)))).1,λb hb=>?_,hz,w9⟩
    obtain⟨o,e,d⟩:=T.obj _ _ st8 b hb
    exact(I9.pin (b,o) (wV _ (wV _ (qW hb e)))).2.1
   refine thn (hg _ s8 σ6 H8 x u _ I8' r8 (step σ6 x H8 I6.len y8)) λ_ s9 ⟨σ9,H9,I9,q9⟩=>?_
   refine thn (ht _ s9 σ9 H9 _ I9 q9) λok s10 ⟨H10,I10,q10⟩=>?_
   cases ok with
   | false =>
    rw[if_neg (by decide)]at q10 ⊢
    obtain⟨hz,m',hm,w'⟩:=q10
    exact again I10 hz hm w'
   | true =>
    rw[if_pos rfl]at q10 ⊢
    refine thn (he _ s10 σ9 H10 _ I10 q10) λy s11 ⟨v,H11,I11,r11,hz,hlen,m',hm,w'⟩=>?_
    refine thn (qr _ s11 σ9 H11 (.ref D) [v] (.ref D) [y] (λ_ H12=>H12=upd H11 D (.lst (ys++[v]))) I11 rL (.cons r11 .nil) ⟨D,ys,v,rL,rL,hz,hlen,rL⟩) λ_ s12 ⟨_,H12,I12,_,e12⟩=>?_
    subst e12
    exact again I12 zg hm w'
 exact codeAny_compStart_list (loop _ rL) (T.self X.A 0 _ _ _ st4 (loop _ rL))
mutual
inductive RdD (H:Hp):V->PyData->Prop
 | non:RdD H .non .none
 | bl (b:Bool):RdD H (.bl b) (.bool b)
 | int (i:Int):RdD H (.int i) (.int i)
 | str (x:Str):RdD H (.str x) (.str x)
 | tup {a:Addr}{xs:List V}{ds:List PyData}:H a=some (.tup xs)->Zg H xs ds->RdD H (.ref a) (.tuple ds)
 | lst {a:Addr}{xs:List V}{ds:List PyData}:H a=some (.lst xs)->Zg H xs ds->RdD H (.ref a) (.list ds)
inductive Zg (H:Hp):List V->List PyData->Prop
 | nil:Zg H [] []
 | cons {x:V}{d:PyData}{xs:List V}{ds:List PyData}:RdD H x d->Zg H xs ds->Zg H (x::xs) (d::ds)
end
section
variable {X:Cx}{pz:List (Addr×Obj)}{σ:St}{H:Hp}{s:Shared}
mutual
theorem RdD.reads (I:Inv X pz σ H s):∀{x:V}{d:PyData},RdD H x d->∀{u:Value},xi x u->∃as,Reads s.heap u d as
 | _,_,.non,u,r=>by cases(show u=Value.none from r);exact⟨_,.none⟩
 | _,_,.bl b,u,r=>by cases(show u=Value.bool b from r);exact⟨_,.bool b⟩
 | _,_,.int i,u,r=>by obtain⟨t,e⟩:=(show ∃t,u=Value.int i t from r);subst e;exact⟨_,.int i t⟩
 | _,_,.str x,u,r=>by obtain⟨t,e⟩:=(show ∃t,u=Value.str x t from r);subst e;exact⟨_,.str x t⟩
 | _,_,@RdD.tup _ a xs ds e h,u,r=>by
  cases(show u=Value.ref a from r)
  obtain⟨_,its,rv,o,h1,h2,n,h3⟩:=(show xE X.prog X.w H s.heap a (.tup xs)from I.hok a _ e)
  obtain⟨as,ra⟩:=Zg.reads I h rv
  exact⟨_,.tuple h1 h2 h3 (by simpa using ra)⟩
 | _,_,@RdD.lst _ a xs ds e h,u,r=>by
  cases(show u=Value.ref a from r)
  obtain⟨_,its,n,rv,h1⟩:=(show xE X.prog X.w H s.heap a (.lst xs)from I.hok a _ e)
  obtain⟨as,ra⟩:=Zg.reads I h rv
  exact⟨_,.list h1 rfl rfl (by simpa using ra)⟩
theorem Zg.reads (I:Inv X pz σ H s):∀{xs:List V}{ds:List PyData},Zg H xs ds->∀{us:List Value},xa xs us->∃as,ReadsAll s.heap us ds as
 | _,_,.nil,us,r=>by cases r;exact⟨_,.nil⟩
 | _,_,.cons h t,us,r=>by
  cases r with
  | cons r1 r2 =>
   obtain⟨a1,q1⟩:=RdD.reads I h r1
   obtain⟨a2,q2⟩:=Zg.reads I t r2
   exact⟨_,.cons q1 q2⟩
end
end
inductive zhq (x:V) (y:V) (H:Hp) (Q:VK):Prop
 | mk:∀d e,(RdD H x d)->(RdD H y e)->(SeqAt.shaped d=true)->(SeqAt.shaped e=true)->(Q (.bl (PyData.eqv d e)) H)->zhq x y H Q
def zki:R2:=λx y H Q=>zhq x y H Q
inductive zhu (x:V) (y:V) (H:Hp) (Q:VK):Prop
 | mk:∀d e,(RdD H x d)->(RdD H y e)->(SeqAt.shaped d=true)->(SeqAt.shaped e=true)->(Q (.bl (!PyData.eqv d e)) H)->zhu x y H Q
def zkk:R2:=λx y H Q=>zhu x y H Q
section
variable {X:Cx}
theorem Vq (hu:X.A.units+64<cLine):OpR X (compareOp .Eq) zki:=by
 intro pz s σ H x y v u Q I rx ry h
 obtain⟨d,e,hd,he,s1,s2,q⟩:=h
 obtain⟨as,r1⟩:=hd.reads I rx
 obtain⟨bs,r2⟩:=he.reads I ry
 exact eq_dataH r1 r2 s1 s2 hu ⟨.bl _,H,I,rL,q⟩
theorem ZH (hu:X.A.units+64<cLine):OpR X (compareOp .NotEq) zkk:=by
 intro pz s σ H x y v u Q I rx ry h
 obtain⟨d,e,hd,he,s1,s2,q⟩:=h
 obtain⟨as,r1⟩:=hd.reads I rx
 obtain⟨bs,r2⟩:=he.reads I ry
 exact ne_dataH r1 r2 s1 s2 hu ⟨.bl _,H,I,rL,q⟩
def Bd (n:Nat) (i:Int):Prop:=i.natAbs<2^n
theorem Bd.mono {m n:Nat}{i:Int}(h:Bd m i) (l:m<=n):Bd n i:=wT h (Nat.pow_le_pow_right (by decide) l)
theorem Bd.md {m n:Nat}{i:Int}(h:Bd m i) (l:m<=n:=by decide):Bd n i:=h.mono l
theorem Bd.bits {n:Nat}{i:Int}(h:Bd n i):Builtin.Int.intBits i<=n:=intBits_le_iff.mpr h
theorem Bd.of_bits {n:Nat}{i:Int}(h:Builtin.Int.intBits i<=n):Bd n i:=intBits_le_iff.mp h
theorem Bd.mul {m n:Nat}{i j:Int}(h:Bd m i) (k:Bd n j):Bd (m+n) (i*j):=.of_bits (intBits_mul_le h.bits k.bits)
theorem Bd.add {m n:Nat}{i j:Int}(h:Bd m i) (k:Bd n j):Bd (max m n+1) (i+j):=.of_bits (intBits_add_le h.bits k.bits)
theorem Bd.neg {n:Nat}{i:Int}(h:Bd n i):Bd n (-i):=by unfold Bd;rw[Int.natAbs_neg];exact h
theorem Bd.sub {m n:Nat}{i j:Int}(h:Bd m i) (k:Bd n j):Bd (max m n+1) (i - j):=by rw[Int.sub_eq_add_neg];exact h.add k.neg
def Vc (i j:Int):Prop:=Bd 1000000 i/\Bd 1000000 j
theorem zK:OpR X (binaryOp .Mult) (rI Vc λi j=>.int (i*j)):=opI λ_ _ _ _ _ _ _ hc q=>mul_int q (IntMulOk.of_le hc.1.bits hc.2.bits (by decide))
def J8 (i j:Int):Prop:=j≠0/\Bd 8900 j
theorem xC:OpR X (binaryOp .FloorDiv) (rI J8 λi j=>.int (i.fdiv j)):=opI λ_ j _ _ _ _ _ hc q=>floordiv_int hc.1 q (.inl (PyProof.noPylong_of_log2 (by
 have h1:j.natAbs≠0:=λz=>hc.1 (Int.natAbs_eq_zero.mp z)
 have h2:j.natAbs<2^9000:=wT hc.2 (Nat.pow_le_pow_right (by decide) (by decide))
 exact(Nat.log2_lt h1).mpr h2)))
theorem vK:vi X (.builtin "isinstance") (λxs H Q=>∃x t n b,xs=[x,.ty n]/\Qj X.K H x t/\PySem.W.kitOne X.K t (.type n)=some b/\Q (.bl b) H):=by
 intro pz s σ H xs us Q I r h
 obtain⟨x,t,n,b,rfl,ty,e,q⟩:=h
 obtain⟨u,w',rfl,r1,r2⟩:=Js r
 cases(show w'=Value.type n from r2)
 exact zcW I r1 ty e λtk=>⟨.bl b,H,I.tok tk,rL,q⟩
end
end L2
namespace HT
open PySem PySem.Spec PyProof.Rows L2
end HT
namespace L2
open PySem PySem.Spec PyProof.Rows
end L2
namespace KM
theorem zak {a b:Int}(ha:0<=a) (hb:0<b):Int.gcd b (a % b)=Int.gcd a b:=by
 obtain⟨m,rfl⟩:=uY ha
 obtain⟨n,rfl⟩:=uY (yI hb)
 rw[<-Int.natCast_emod,W5 (m:Int)]
 show Nat.gcd n (m % n)=Nat.gcd n m
 rw[Nat.gcd_comm n (m % n)]
 exact(Nat.gcd_rec n m).symm
theorem vC (q:Rat):(q.den:Int)≠0:=by have:=q.den_nz;lia
theorem den_pos (q:Rat):(0:Int)<q.den:=by have:=q.den_nz;omega
def dv (t b:Int):Int:=if b<0 then -(Int.gcd t b:Int)else(Int.gcd t b:Int)
theorem zf5 {t b:Int}(hb:b≠0):0<Int.gcd t b:=Yh _ hb
theorem zhl {t b:Int}(hb:b≠0):dv t b≠0:=by
 have:=zf5 (t:=t) hb
 unfold dv;split <;> omega
theorem zhX {t b:Int}:(dv t b).natAbs=Int.gcd t b:=by
 unfold dv;split <;> lia
theorem zhk {t b:Int}(hb:b≠0):(dv t b).natAbs<=b.natAbs:=by
 rw[zhX];exact YT ∅ (YI t b)
theorem za3 {t b:Int}(hb:b≠0):t.fdiv (dv t b)=(Rat.divInt t b).num:=by
 rw[Rat.num_divInt,W5 b t]
 have h1:((Int.gcd t b:Nat):Int) ∣ t:=ur ..
 unfold dv
 split
 ·rename_i h
  rw[uG (Int.neg_dvd.mpr h1),Int.ediv_neg,Int.sign_eq_neg_one_of_neg h]
  rw[show (-1*t) = -t by lia,Int.neg_ediv_of_dvd h1]
 ·rename_i h
  rw[uG h1,Int.sign_eq_one_of_pos ∅,YU]
theorem zdS {t b:Int}(hb:b≠0):b.fdiv (dv t b)=((Rat.divInt t b).den:Int):=by
 rw[Rat.den_divInt,if_neg hb,W5 b t]
 have h1:((Int.gcd t b:Nat):Int) ∣ b:=Wm ..
 have h2:Int.gcd t b ∣ b.natAbs:=YI t b
 unfold dv
 split
 ·rename_i h
  rw[uG (Int.neg_dvd.mpr h1),Int.ediv_neg]
  rw[Int.natCast_ediv,show ((b.natAbs:Nat):Int) = -b by lia,Int.neg_ediv_of_dvd h1]
 ·rename_i h
  rw[uG h1,Int.natCast_ediv,show ((b.natAbs:Nat):Int)=b by lia]
theorem zif {t b:Int}(hb:b≠0):(Rat.divInt t b).num.natAbs<=t.natAbs:=by
 rw[<-za3 hb]
 have:t.fdiv (dv t b) ∣ t:=by
  have h1:dv t b ∣ t:=by
   unfold dv;split
   ·exact Int.neg_dvd.mpr (ur ..)
   ·exact ur ..
  obtain⟨c,hc⟩:=h1
  rw[uG ⟨c,hc⟩]
  refine⟨dv t b,?_⟩
  exact(Int.ediv_mul_cancel ⟨c,hc⟩).symm
 by_cases h0:t=0
 ·subst h0;simp
 ·exact YT ∅ (uP.mpr this)
theorem JE {t b:Int}(hb:b≠0):(Rat.divInt t b).den<=b.natAbs:=by
 rw[Rat.den_divInt,if_neg hb];exact Nat.div_le_self _ _
theorem zcd (a b:Rat):Rat.divInt (a.num*b.den+b.num*a.den) (a.den*b.den)=a+b:=by
 rw[Rat.add_def',<-Rat.divInt_ofNat];simp
theorem zaM (a b:Rat):Rat.divInt (a.num*b.num) (a.den*b.den)=a*b:=by
 rw[Rat.mul_def',<-Rat.divInt_ofNat];simp
theorem zcb (a b:Rat):Rat.divInt (a.num*b.den) (a.den*b.num)=a/b:=by
 rw[Rat.div_def,Rat.inv_def,<-Wf,yr]
theorem Za (a b:Rat):a.num*b.den<b.num*a.den↔a<b:=(Rat.lt_iff a b).symm
structure vB where
 pl:Rat
 sp:Rat
 wt:Int
end KM
namespace L2
open PySem PySem.Spec PyProof.Rows
structure Cal (P:Program) (w:World) (K:Fg) (mg:Str->Option Value) (base:Heap) (x:Str) (k:Nat) (ps:List Str) (dvs:List V) (sp:Sp):Prop where
 ex:∃f fd ds,Zu P w K mg base CX0 k f fd ps sp/\mg x=some (.ref f)/\PySem.W.keepIn K (.ref f)=true/\v5 K fd ps ds/\xa dvs ds
theorem zB {X:Cx}{x:Str}{k:Nat}{ps:List Str}{dvs:List V}{sp:Sp}{p pos:Pos}{e:Expr}{es:List Expr}{t:TA}
  (c:Cal X.prog X.w X.K X.mg X.base x k ps dvs sp) (hr:z6 k X.A) (ha:PA X (e::es) t) (hg:Gl X x:=by rfl) (hdb:(x == ("__debug__":Str))=false:=by decide)
  (he:starEach (e::es) X.env=(false,eval e X.env)::starEach es X.env:=by rfl) (hpl:(backTo pos (starEach es X.env)).any (·.1)=false:=by rfl) :
  PE X (.Call (.Name x p) (e::es) [] pos) (ZT sp dvs E0 t):=by
 obtain⟨f,fd,ds,F,hm,hk,hb,hd⟩:=c.ex
 exact zgx F hr hg hm hk hb hd zeC ha hdb he hpl
structure Df (K:Fg) (mg:Str->Option Value) (x:Str) (st:Stmt) (ps:List Str) (dvs:List V):Prop where
 ex:∃(f:Addr) (oc:Value) (od:Option Addr) (dV kV doc pm:Value) (an:Option Addr) (cdv ct:Value) (osl:Array (Option Value)) (ds:List Value),
  K.lookup f=some ⟨oc,od,.func (PySem.W.fnOf x x (xB st) (zZ st) (zk st) dV kV doc pm an cdv ct),osl⟩/\PySem.W.codeIn K cdv x=true/\PySem.W.keepIn K (.ref f)=true/\mg x=some (.ref f) ∧
  xa dvs ds/\v5 K (PySem.W.fnOf x x (xB st) (zZ st) (zk st) dV kV doc pm an cdv ct) ps ds
section
variable {P:Program}{w:World}{K:Fg}{mg:Str->Option Value}{base:Heap}
theorem Df.cal {x:Str}{st:Stmt}{N ps:List Str}{dvs:List V}{k:Nat}{sp:Sp}(D:Df K mg x st ps dvs) (S:zA N ps (zk st)) (len:∀vs H Q E,sp vs H Q E->vs.length=ps.length)
  (hbody:∀(f:Addr) (cdv:Value) (A:Around) (outer:List Env) (s:Shared) (H:Hp) (vs:List V) (Q:VK) (E:XK),z6 k (A.deeper (envOfC x (zk st) s.heap.objs.size f cdv))->sp vs H Q E →
   ∃t,PSs (zU CX0 P w K mg base N x (zk st) f cdv A outer s H E).nox (zZ st) t/\t { nx:=λ_ H'=>Q .non H',rt:=Q } (vv N vs) H):Cal P w K mg base x (k+1) ps dvs sp:=by
 obtain⟨f,oc,od,dV,kV,doc,pm,an,cdv,ct,osl,ds,lk,hcd,hk,hm,hv,hb⟩:=D.ex
 refine⟨⟨f,_,ds,zd6 lk hcd S len λA outer s H vs Q E hr hsp=>?_,hm,hk,hb,hv⟩⟩
 obtain⟨t,h,q⟩:=hbody f cdv A outer s H vs Q E hr hsp
 exact⟨t,h.nox,q⟩
theorem Df.calq {x:Str}{st:Stmt}{N ps:List Str}{dvs:List V}{k:Nat}{sp:Sp}(D:Df K mg x st ps dvs) (S:zA N ps (zk st))
  (hbody:∀(f:Addr) (cdv:Value) (A:Around) (outer:List Env) (s:Shared) (H:Hp) (vs:List V) (Q:VK) (E:XK),z6 k (A.deeper (envOfC x (zk st) s.heap.objs.size f cdv))->sp vs H Q E →
   ∃t,PSs (zU CX0 P w K mg base N x (zk st) f cdv A outer s H E).nox (zZ st) t/\t { nx:=λ_ H'=>Q .non H',rt:=Q } (vv N vs) H) (len:∀vs H Q E,sp vs H Q E->vs.length=ps.length:=by intro _ _ _ _ h;repeat (first | (cases h;subst_vars;rfl) | (obtain⟨rfl,_⟩:=h;rfl) | (obtain⟨_,h⟩:=h))):Cal P w K mg base x (k+1) ps dvs sp:=D.cal S len hbody
theorem zjE {x:Str}{st:Stmt}{ps:List Str}{f:Addr}{oc:Value}{od an:Option Addr}{osl:Array (Option Value)}{dV kV doc pm cdv ct:Value}
  (l:K.lookup f=some ⟨oc,od,.func (PySem.W.fnOf x x (xB st) (zZ st) (zk st) dV kV doc pm an cdv ct),osl⟩) (c:PySem.W.codeIn K cdv x=true) (k:PySem.W.keepIn K (.ref f)=true) (m:mg x=some (.ref f))
  (hb:∀us:List Value,us.length=ps.length->bindArgs (PySem.W.fnOf x x (xB st) (zZ st) (zk st) dV kV doc pm an cdv ct) ⟨us,[]⟩=pure (ps.zip us)):Df K mg x st ps [] :=
 ⟨⟨f,oc,od,dV,kV,doc,pm,an,cdv,ct,osl,[],l,c,k,m,.nil,.all hb⟩⟩
end
def rp (q:Rat):List V:=[.int q.num,.int (q.den:Int)]
def zp (H:Hp) (p:Addr) (q:Rat):Prop:=H p=some (.tup (rp q))
theorem zp.same {H H':Hp}{p:Addr}{q:Rat}(h:zp H p q) (e:zi H H'):zp H' p q:=e _ _ h
def Sz (n:Nat) (q:Rat):Prop:=Bd n q.num/\Bd n (q.den:Int)
theorem Sz.mono {m n:Nat}{q:Rat}(h:Sz m q) (l:m<=n):Sz n q:=⟨h.1.mono l,h.2.mono l⟩
theorem Sz.md {m n:Nat}{q:Rat}(h:Sz m q) (l:m<=n:=by decide):Sz n q:=h.mono l
theorem Bd.of_le {n:Nat}{i j:Int}(h:i.natAbs<=j.natAbs) (b:Bd n j):Bd n i:=WK h b
theorem Sz.divInt {n:Nat}{t b:Int}(hb:b≠0) (h1:Bd n t) (h2:Bd n b):Sz n (Rat.divInt t b) :=
 ⟨h1.of_le (KM.zif hb),h2.of_le (by have:=KM.JE (t:=t) hb;omega)⟩
theorem Sz.add {m n:Nat}{x y:Rat}(h:Sz m x) (k:Sz n y):Sz (m+n+1) (x+y):=by
 rw[<-KM.zcd]
 refine .divInt (uU (KM.vC x) (KM.vC y)) ?_ ((h.2.mul k.2).mono ∅)
 exact((h.1.mul k.2).add (k.1.mul h.2)).mono ∅
theorem Sz.mul {m n:Nat}{x y:Rat}(h:Sz m x) (k:Sz n y):Sz (m+n) (x*y):=by
 rw[<-KM.zaM]
 exact .divInt (uU (KM.vC x) (KM.vC y)) (h.1.mul k.1) (h.2.mul k.2)
theorem zdn (q:Rat):SeqAt.shaped (.tuple [.int q.num,.int (q.den:Int)])=true:=rfl
theorem zp.rd {H:Hp}{p:Addr}{q:Rat}(h:zp H p q):RdD H (.ref p) (.tuple [.int q.num,.int (q.den:Int)]):=.tup h (.cons (.int _) (.cons (.int _) .nil))
theorem zdW (x y:Rat):PyData.eqv (.tuple [.int x.num,.int (x.den:Int)]) (.tuple [.int y.num,.int (y.den:Int)])=decide (x=y):=by
 simp only[PyData.eqv,PyData.eqvAll,Bool.and_true]
 rw[uR]
 simp only[uN,beq_iff_eq,uJ]
 constructor
 ·rintro ⟨h1,h2⟩;exact Rat.ext h1 ∅
 ·rintro rfl;exact⟨rfl,rfl⟩
inductive qR  (vs:List V) (H:Hp) (Q:VK) (_e3:XK):Prop
 | mk:∀t b,(vs=[.int t,.int b])->(b≠0)->(Bd 8900 b)->(∀p H',zi H H'->zp H' p (Rat.divInt t b)->Q (.ref p) H')->qR vs H Q _e3
inductive qx (C:Rat->Rat->Prop) (f:Rat->Rat->Rat) (vs:List V) (H:Hp) (Q:VK) (_e3:XK):Prop
 | mk:∀p q x y,(vs=[.ref p,.ref q])->(zp H p x)->(zp H q y)->(C x y)->(∀r H',zi H H'->zp H' r (f x y)->Q (.ref r) H')->qx C f vs H Q _e3
def Sz2 (x y:Rat):Prop:=Sz 4000 x/\Sz 4000 y
theorem at0 {α:Type}(a b:α):atI [a,b] 0=some a:=rfl
theorem at1 {α:Type}(a b:α):atI [a,b] 1=some b:=rfl
theorem zi.upd {H:Hp}{p:Addr}{o:HO}(h:H p=none):zi H (upd H p o):=λb u e=>by rw[zO (zQ e h)];exact e
def TrX (h B:Heap) (e:Addr) (cls a0:Value) (dct:Option Addr) (fl:Value):Prop :=
 ∃oe vs T oT ts,h.get? e=some oe/\oe.cls=cls/\oe.dict=dct/\oe.data = .fields vs/\vs[0]? = some a0/\vs[1]? = some (.ref T)/\B.get? T=none/\T≠e/\h.get? T=some oT/\oT.data = .fields ts/\ts[3]? = some fl
theorem zc8 (o:Obj) (f:Array Value->Array Value):(Obj.mapFields f o).dict=o.dict:=by
 unfold Obj.mapFields;split <;> rfl
section
variable {M:Model}{A:Around}{E:Value->Shared->Prop}{s:Shared}{B:Heap}{env:Env}{outer l:List Env}{L e:Addr}{oe:Obj}{vs:Array Value}{a0 cls fl:Value}{dct:Option Addr}{Q:Unit->Shared->Prop}
theorem zbR {head:Value}{hadNext:Bool}(hfr:A.frames=some (env::outer)) (hl:s.heap.FunFrames B (env::outer)) (hf:env.frame=some L) (he:s.heap.get? e=some oe) (hB:B.StaysIn s.heap) (hn:B.get? e=none) (hd:oe.data = .fields vs) (hz:1<vs.size) (h0:vs[0]? = some a0)
  (q:∀h',B.StaysIn h'->h'.FunFrames B (env::outer)->TrX h' B e oe.cls a0 oe.dict (rawInt L)->s.heap.UpToSlots h'->Q () { s with heap:=h' }) :
  wpAny M A (do let a <-frameOf env;let pl <-entryPlaceOf L hadNext;let b <-EntryCells.newEntry head a .none (rawInt L) .none pl;setField (.ref e) 1 b) Q E s:=by
 have nf:e∉(env::outer).filterMap (·.frame):=λm=>by
  obtain⟨_,o,ho,hnf⟩:=hl.mem m
  rw[he]at ho;cases ho;exact hnf vs hd
 refine wc (wpAny_frameOf_fun hfr hl hf λg1 k1=>wc (wpAny_entryPlaceOf λpl hpl=>?_))
 unfold EntryCells.newEntry newFields
 have e1:g1.get? e=some oe:=(k1.2.1 e nf).trans he
 have B1:B.StaysIn g1:=λb o z=>(k1.2.1 b λm=>by rw[(hl.mem m).1]at z;cases z).trans (hB b o z)
 have fr:g1.objs.size≠e:=Wy (wB e1)
 have d3:=Obj.data_mapFields hd (·.setIfInBounds 1 (Value.ref g1.objs.size))
 refine wc (yO (Ug (wf _ e1) hd hz (q _ (λb o z=>?_) (hl.of_keeps λb o hb nn=>?_) ?_ λb o hb nn=>?_)) (hpl.sizeOk5 _ _ _ _ _))
 ·have ne:e≠b:=λr=>by rw[<-r,hn]at z;cases z
  rw[yn _ _ ne]
  exact wf _ (B1 b o z)
 ·obtain⟨sl,z⟩:=k1.2.2 b o hb
  have ne:e≠b:=λr=>by rw[<-r,he]at hb;cases hb;exact nn vs hd
  exact⟨{ o with slots:=sl },by rw[yn _ _ ne];exact wf _ z,rfl⟩
 ·refine⟨_,_,g1.objs.size,_,_,yU _ (wf _ e1) (Obj.isFreed_of_fields d3),Obj.cls_mapFields _ _,zc8 _ _,d3,?_,by simp[hz],B1.fresh,fr,(yn _ _ (Ne.symm fr)).trans (wE g1 rfl),rfl,?_⟩
  ·rw[Array.getElem?_setIfInBounds_ne (by decide)];exact h0
  ·first | (simp;done) | (rcases hpl with rfl | ⟨_,_,_,_,_,_,_,rfl⟩ <;> simp)
 ·obtain⟨sl,z⟩:=k1.2.2 b o hb
  have ne:e≠b:=λr=>by rw[<-r,he]at hb;cases hb;exact nn vs hd
  exact⟨sl,by rw[yn _ _ ne];exact wf _ z⟩
theorem zbl (hfr:A.frames=some (env::outer)) (hl:s.heap.FunFrames B (env::outer)) (hf:env.frame=some L) (he:s.heap.get? e=some oe) (hB:B.StaysIn s.heap) (hn:B.get? e=none) (hd:oe.data = .fields vs) (h1:vs[1]? = some .none) (h0:vs[0]? = some a0)
  (q:∀h',B.StaysIn h'->h'.FunFrames B (env::outer)->TrX h' B e oe.cls a0 oe.dict (rawInt L)->s.heap.UpToSlots h'->Q () { s with heap:=h' }):wpAny M A (noteFrame (.ref e) env) Q E s:=by
 unfold noteFrame
 simp only[hf]
 refine wc (WV he hd h1 ?_)
 rw[if_neg (by decide)]
 exact zbR hfr hl hf he hB hn hd (wR.mp h1).1 h0 q
theorem zdd (hfr:A.frames=some (env::outer)) (hl:s.heap.FunFrames B (env::outer)) (hf:env.frame=some L) (ht:TrX s.heap B e cls a0 dct .none) (hB:B.StaysIn s.heap) (hn:B.get? e=none)
  (q:∀h',B.StaysIn h'->h'.FunFrames B (env::outer)->TrX h' B e cls a0 dct (rawInt L)->s.heap.UpToSlots h'->Q () { s with heap:=h' }):wpAny M A (noteFrame (.ref e) env) Q E s:=by
 obtain⟨oe,vs,T,oT,ts,he,rfl,rfl,hd,h0,h1,nT,Te,hT,dT,h3⟩:=ht
 unfold noteFrame
 simp only[hf]
 refine wc (WV he hd h1 ?_)
 rw[if_pos (show (Value.ref T != Value.none)=true from by simp)]
 refine wc (WV hT dT h3 ?_)
 rw[if_neg (show ¬((Value.none == rawInt L)=true)from by simp[rawInt])]
 have oth:∀b,b≠T->(s.heap.update T (Obj.mapFields (·.setIfInBounds 3 Value.none))).get? b=s.heap.get? b:=λb hb=>yn _ _ (Ne.symm hb)
 have nr:∀b o,s.heap.get? b=some o->(∀vs,o.data≠.fields vs)->b≠T:=λb o hb nn r=>by rw[r,hT]at hb;cases hb;exact nn ts dT
 refine wc (Ug hT dT (wR.mp h3).1 (zbR hfr (hl.of_keeps λb o hb nn=>⟨o,(oth b (nr b o hb nn)).trans hb,rfl⟩) hf ((oth e (Ne.symm Te)).trans he) (λb o z=>(oth b λr=>by rw[r,nT]at z;cases z).trans (hB b o z)) hn hd (wR.mp h1).1 h0 λh' x1 x2 x3 x4=>q h' x1 x2 x3 λb o hb nn=>x4 b o ((oth b (nr b o hb nn)).trans hb) nn))
theorem zd4 (hB:B.StaysIn s.heap) (hl:s.heap.FunFrames B l) (ht:TrX s.heap B e cls a0 dct fl)
  (q:∀h',B.StaysIn h'->h'.FunFrames B l->TrX h' B e cls a0 dct .none->s.heap.UpToSlots h'->Q () { s with heap:=h' }):wpAny M A (setFlight (.ref e) none) Q E s:=by
 obtain⟨oe,vs,T,oT,ts,he,hc,hdc,hd,h0,h1,nT,Te,hT,dT,h3⟩:=ht
 have z3:3<ts.size:=(wR.mp h3).1
 have oth:∀b,b≠T->(s.heap.update T (Obj.mapFields (·.setIfInBounds 3 ((none:Option Addr).elim Value.none λf=>rawInt f)))).get? b=s.heap.get? b:=λb hb=>yn _ _ (Ne.symm hb)
 have nr:∀b o,s.heap.get? b=some o->(∀vs,o.data≠.fields vs)->b≠T:=λb o hb nn r=>by rw[r,hT]at hb;cases hb;exact nn ts dT
 unfold setFlight
 refine wc (WV he hd h1 ?_)
 rw[if_pos (show (Value.ref T != Value.none)=true from by simp)]
 exact Ug hT dT z3 (q _ (λb o z=>(oth b λr=>by rw[r,nT]at z;cases z).trans (hB b o z)) (hl.of_keeps λb o hb nn=>⟨o,(oth b (nr b o hb nn)).trans hb,rfl⟩)
  ⟨oe,vs,T,_,_,(oth e (Ne.symm Te)).trans he,hc,hdc,hd,h0,h1,nT,Te,yU _ hT (Obj.isFreed_of_fields (Obj.data_mapFields dT _)),Obj.data_mapFields dT _,by simp[z3]⟩ λb o hb nn=>⟨o.slots,(oth b (nr b o hb nn)).trans hb⟩)
end
def FlX (B:Heap) (l:List Env) (e:Addr) (cls a0:Value) (dct:Option Addr) (h:Heap):Prop:=B.StaysIn h/\B.get? e=none/\h.FunFrames B l/\TrX h B e cls a0 dct .none
def HeX (B:Heap) (l:List Env) (e:Addr) (cls a0:Value) (dct:Option Addr) (h:Heap):Prop:=B.StaysIn h/\B.get? e=none/\h.FunFrames B l/\∃fl,TrX h B e cls a0 dct fl
section
variable {M:Model}{A:Around}{E:Value->Shared->Prop}{s:Shared}{B h:Heap}{env:Env}{outer l:List Env}{L e:Addr}{a0 cls:Value}{dct:Option Addr}{Q:Unit->Shared->Prop}
theorem FlX.held (x:FlX B l e cls a0 dct h):HeX B l e cls a0 dct h:=⟨x.1,x.2.1,x.2.2.1,_,x.2.2.2⟩
theorem FlX.there (x:FlX B l e cls a0 dct h):∃ob,h.get? e=some ob/\ob.cls=cls:=by
 obtain⟨_,_,_,oe,_,_,_,_,he,hc,_⟩:=x
 exact⟨oe,he,hc⟩
theorem FlX.first (x:FlX B l e cls a0 dct h):∃oe vs,h.get? e=some oe/\oe.cls=cls/\oe.dict=dct/\oe.data = .fields vs:=by
 obtain⟨_,_,_,oe,vs,_,_,_,he,hc,hdc,hd,_⟩:=x
 exact⟨oe,vs,he,hc,hdc,hd⟩
theorem zb5 (hfr:A.frames=some (env::outer)) (hf:env.frame=some L) (x:FlX B (env::outer) e cls a0 dct s.heap) (q:∀h',HeX B (env::outer) e cls a0 dct h'->s.heap.UpToSlots h'->Q () { s with heap:=h' }):wpAny M A (noteFrame (.ref e) env) Q E s :=
 zdd hfr x.2.2.1 hf x.2.2.2 x.1 x.2.1 λh' x1 x2 x3 x4=>q h' ⟨x1,x.2.1,x2,_,x3⟩ x4
theorem QY (x:HeX B l e cls a0 dct s.heap) (q:∀h',FlX B l e cls a0 dct h'->s.heap.UpToSlots h'->Q () { s with heap:=h' }):wpAny M A (setFlight (.ref e) none) Q E s:=by
 obtain⟨x1,x2,x3,fl,x4⟩:=x
 exact zd4 x1 x3 x4 λh' y1 y2 y3 y4=>q h' ⟨y1,x2,y2,y3⟩ y4
theorem zen (hfr:A.frames=some (env::outer)) (hf:env.frame=some L) (x:FlX B (env::outer) e cls a0 dct s.heap) (q:∀h',FlX B outer e cls a0 dct h'->s.heap.UpToSlots h'->Q () { s with heap:=h' }):wpAny M A (leaving env (.ref e)) Q E s:=by
 unfold leaving
 refine wc (zb5 hfr hf x λh' y up=>QY (s:={ s with heap:=h' }) y λh2 z up2=>?_)
 obtain⟨z1,z2,⟨_,_,z3⟩,z4⟩:=z
 exact q h2 ⟨z1,z2,z3,z4⟩ (up.trans up2)
theorem zbd {args:List Value}(hfr:A.frames=some (env::outer)) (hf:env.frame=some L) (hB:B.StaysIn h) (hl:h.FunFrames B (env::outer)) (hx:Heap.MadeExcOf h s.heap e cls args)
  (q:∀h' t,FlX B outer e cls (.ref t) none h'->s.heap.UpToSlots h'->Q () { s with heap:=h' }):wpAny M A (leaving env (.ref e)) Q E s:=by
 obtain⟨t,he,_,_⟩:=hx.there
 have hn:B.get? e=none:=by
  cases z:B.get? e with
  | none=>rfl
  | some o=>have:=hB e o z;rw[hx.new]at this;cases this
 unfold leaving
 refine wc (zbl (a0:=.ref t) hfr (hl.of_keeps λb o hb _=>⟨o,hx.keeps b o hb,rL⟩) hf he (λb o z=>hx.keeps b o (hB b o z)) hn rL rL rL λh' x1 x2 x3 x4=>?_)
 refine QY (s:={ s with heap:=h' }) ⟨x1,hn,x2,_,x3⟩ λh2 z up2=>?_
 obtain⟨z1,z2,⟨_,_,z3⟩,z4⟩:=z
 exact q h2 t ⟨z1,z2,z3,z4⟩ (x4.trans up2)
end
structure Fly (P:Program) (w:World) (l:List Env) (H:Hp) (s:Shared) (C:Addr) (H':Hp) (a:Addr) (s':Shared) (B:Heap) (a0:Value) (dct:Option Addr):Prop where
 os:s'.os=s.os
 bare:AllBare s'.gens
 un:Un (frs l) [] H H' s.heap s'.heap
 hok:HOk P w H' s'.heap
 fly:FlX B l a (.ref C) a0 dct s'.heap
 kb:∀b o,s.heap.get? b=some o->b∉frs l->(∃o',B.get? b=some o')/\(H b=none->B.get? b=some o)
 kt:∀b u,H' b=some u->∃o,B.get? b=some o
abbrev CX1 (P:Program) (w:World):CXT:=λouter H s E e s'=>∃a C H' B a0 dct,e = .ref a/\Fly P w outer H s C H' a s' B a0 dct/\E (.ref C) dct H'
section
variable {P:Program}{w:World}{H H':Hp}{h h' B:Heap}{a:Addr}{o:HO}
theorem xE.obj (x:xE P w H h a o):∃u,h.get? a=some u:=by
 cases o with
 | lst xs=>obtain⟨_,_,_,_,e⟩:=x;exact⟨_,e⟩
 | tup xs=>obtain⟨_,_,_,ob,e,_⟩:=x;exact⟨_,e⟩
 | dK kvs=>obtain⟨_,_,_,_,o,_,_,e,_⟩:=x;exact⟨_,e⟩
 | dT kvs=>obtain⟨_,_,_,_,o,_,_,e,_⟩:=x;exact⟨_,e⟩
 | set S n=>obtain⟨o,_,_,_,e,_⟩:=x;exact⟨_,e⟩
 | ins C dx fs=>obtain⟨_,_,_,e,_⟩:=x;exact⟨_,e⟩
 | own y=>obtain⟨_,e⟩:=x;exact⟨_,e⟩
 | xd fs=>obtain⟨_,⟨_,_,_,e,_⟩,_⟩:=x;exact⟨_,e⟩
 | rng lo hi=>obtain⟨_,_,_,e⟩:=x;exact⟨_,e⟩
 | frz ob u=>obtain⟨e,_⟩:=x;exact⟨_,e⟩
 | tbl ps=>exact⟨_,(show h.get? a=some _ from x)⟩
 | met f y=>exact⟨_,(show h.get? a=some _ from x)⟩
 | ext φ=>obtain⟨_,⟨_,e⟩,_⟩:=x;exact⟨_,e⟩
theorem zef (x:HOk P w H h) (k1:B.StaysIn h) (k2:B.StaysIn h') (kt:∀b u,H b=some u->∃o,B.get? b=some o):HOk P w H h':=λa o e =>
 (x a o e).stay (λb u hb q=>by
  have ht:∃v,H b=some v:=by
   rcases hb with rfl | hb
   ·exact⟨_,e⟩
   ·exact⟨_,hb⟩
  obtain⟨v,hv⟩:=ht
  obtain⟨ob,hob⟩:=kt b v hv
  rw[k1 b ob hob]at q;cases q;exact k2 b _ hob) (λ_ q=>q) λ_ _ q=>q
end
section
variable {P:Program}{w:World}{l:List Env}{H H':Hp}{s s':Shared}{C a:Addr}{B h':Heap}{a0:Value}{dct:Option Addr}
theorem Fly.move (F:Fly P w l H s C H' a s' B a0 dct) (fl:FlX B l a (.ref C) a0 dct h') (up:s'.heap.UpToSlots h'):Fly P w l H s C H' a { s' with heap:=h' } B a0 dct where
 os:=F.os
 bare:=F.bare
 un:={
  keep:=λb o q n hb _=>fl.1 b o ((F.kb b o q hb).2 n)
  slot:=λb o q n hb hx=>by
   obtain⟨sl,e⟩:=F.un.slot b o q n hb hx
   obtain⟨_,o',ho',hd⟩:=F.fly.2.2.1.mem hb
   have z:some o'=some { o with slots:=sl }:=ho'.symm.trans e
   cases z
   obtain⟨sl',e'⟩:=up b _ e hd
   exact⟨sl',e'⟩
  free:=F.un.free
  there:=λb o q _=>by
   by_cases hb:b∈frs l
   ·obtain⟨_,o',ho',_⟩:=fl.2.2.1.mem hb
    exact⟨o',ho'⟩
   ·obtain⟨o',ho'⟩:=(F.kb b o q hb).1
    exact⟨o',fl.1 b o' ho'⟩
  tups:=F.un.tups
  frzs:=F.un.frzs
  tbls:=F.un.tbls }
 hok:=zef F.hok F.fly.1 fl.1 F.kt
 fly:=fl
 kb:=F.kb
 kt:=F.kt
theorem Fly.untracked (F:Fly P w l H s C H' a s' B a0 dct):H' a=none:=by
 cases q:H' a with
 | none=>rfl
 | some u =>
  obtain⟨o,e⟩:=F.kt a u q
  rw[F.fly.2.1]at e;cases e
end
section
variable {X:Cx}{pz:List (Addr×Obj)}{σ:St}{H H':Hp}{s:Shared}
theorem Inv.notfr (I:Inv X pz σ H s){b:Addr}{o:Obj}(e:X.s₀.heap.get? b=some o) (hb:b∉X.fs):b∉frs X.stack:=λz=>by
 rcases wx.mp (I.stkSub b z)with r | r
 ·exact absurd (wT (wB e) I.ok.above) (by rw[r];exact uF _)
 ·exact hb r
theorem zd5 {g:Array GenState}{d:Drawn}{t:Nat}{C a:Addr}{B h1 h':Heap}{a0:Value}{dct:Option Addr}(I:Inv X pz σ H s) (hex:X.ex=[]) (hfr:∀b∈X.fs,b∈frs X.stack) (u:Un (frs X.stack) [] H H' s.heap h1)
  (kb:∀b o,s.heap.get? b=some o->b∉frs X.stack->(∃o',B.get? b=some o')/\(H b=none->B.get? b=some o)) (kt:∀b u,H' b=some u->∃o,B.get? b=some o)
  (hok:HOk X.prog X.w H' h1) (k1:B.StaysIn h1) (hfun:h1.FunFrames B X.stack) (up:h1.UpToSlots h') (fl:FlX B X.outer a (.ref C) a0 dct h') (hg:AllBare g) :
  Fly X.prog X.w X.outer X.H₀ X.s₀ C H' a { s with heap:=h',gens:=g,drawn:=d,toks:=t } B a0 dct where
 os:=I.os
 bare:=hg
 un:={
  keep:=λb o q n hb hx=>by
   have hx':b∉X.ex:=by rw[hex];exact hx
   exact fl.1 b o ((kb b o (I.base.keep b o q n hb hx') (I.notfr q hb)).2 (I.base.free b o q n hx'))
  slot:=λb o q n hb hx=>by
   have hx':b∉X.ex:=by rw[hex];exact hx
   obtain⟨sl,e⟩:=I.base.slot b o q n hb hx'
   obtain⟨sl1,e1⟩:=u.slot b _ e (I.base.free b o q n hx') (hfr b hb) hx
   obtain⟨_,o',ho',hd⟩:=hfun.mem (hfr b hb)
   have z:=ho'.symm.trans e1
   cases z
   obtain⟨sl2,e2⟩:=up b _ e1 hd
   exact⟨sl2,e2⟩
  free:=λb o q n hx=>by
   have hx':b∉X.ex:=by rw[hex];exact hx
   obtain⟨o',e⟩:=I.base.there b o q hx'
   exact u.free b o' e (I.base.free b o q n hx') hx
  there:=λb o q hx=>by
   have hx':b∉X.ex:=by rw[hex];exact hx
   by_cases hb:b∈X.fs
   ·obtain⟨_,o',ho',_⟩:=fl.2.2.1.mem hb
    exact⟨o',ho'⟩
   ·obtain⟨o',e⟩:=I.base.there b o q hx'
    obtain⟨o2,e2⟩:=(kb b o' e (I.notfr q hb)).1
    exact⟨o2,fl.1 b o2 e2⟩
  tups:=λb xs q=>u.tups b xs (I.base.tups b xs q)
  frzs:=λb o xs q=>u.frzs b o xs (I.base.frzs b o xs q)
  tbls:=λb ps q=>by
   obtain⟨m1,e1⟩:=I.base.tbls b ps q
   obtain⟨m2,e2⟩:=u.tbls b _ e1
   exact⟨m1++m2,by rw[e2,WG]⟩ }
 hok:=zef hok k1 fl.1 kt
 fly:=fl
 kb:=λb o q hb=>by
  have hx':b∉X.ex:=by rw[hex];exact Y1
  obtain⟨o',e⟩:=I.base.there b o q hx'
  have z:=kb b o' e (I.notfr q hb)
  exact⟨z.1,λn=>(kb b o (I.base.keep b o q n hb hx') (I.notfr q hb)).2 (I.base.free b o q n hx')⟩
 kt:=kt
end
abbrev XJ:=Addr->Option Addr->St->Hp->Prop
def zbE (X:Cx) (J:XJ):Prop:=∀(pz:List (Addr×Obj)) (σ:St) (H:Hp) (s:Shared) (a C:Addr) (H':Hp) (s':Shared) (B:Heap) (a0:Value) (dct:Option Addr),
 Inv X pz σ H s->Fly X.prog X.w X.stack H s C H' a s' B a0 dct->J C dct σ H'->X.xe (.ref a) s'
def J7 (X:Cx) (J:XJ):Prop:=∀(pz:List (Addr×Obj)) (σ:St) (H:Hp) (s:Shared) (h':Heap) (a C:Addr) (us:List Value),
 Inv X pz σ H s->Heap.MadeExcOf s.heap h' a (.ref C) us->J C none σ H->X.xe (.ref a) { s with heap:=h' }
def EJ (E:XK):XJ:=λC d _ H'=>E (.ref C) d H'
section
variable {P:Program}{w:World}{K:Fg}{mg:Str->Option Value}{base:Heap}{N:List Str}{qual:Str}{scope:Scope}{f:Addr}{cd:Value}{A:Around}{outer:List Env}{s:Shared}{H:Hp}{E:XK}
theorem qE:zbE (zU (CX1 P w) P w K mg base N qual scope f cd A outer s H E) (EJ E):=by
 intro pz σ H1 s1 a C H' s' B a0 dct I F q
 obtain⟨hh,g,d,t,os'⟩:=s'
 have e:os'=s1.os:=F.os
 subst e
 refine zen (L:=s.heap.objs.size) I.ok.frames rL F.fly λh' fl up=>?_
 refine⟨a,C,H',B,a0,dct,rL,?_,q⟩
 have z:=zd5 (g:=g) (d:=d) (t:=t) I rfl (λb hb=>wO _ hb) F.un F.kb F.kt F.hok F.fly.1 F.fly.2.2.1 up fl F.bare
 exact z
theorem qG:J7 (zU (CX1 P w) P w K mg base N qual scope f cd A outer s H E) (EJ E):=by
 intro pz σ H1 s1 h1 a C us I hx q
 have hin:∀b o,s1.heap.get? b=some o->b∉frs (zU (CX1 P w) P w K mg base N qual scope f cd A outer s H E).stack →
   (PySem.W.hideAll s1.heap (frs (zU (CX1 P w) P w K mg base N qual scope f cd A outer s H E).stack)).get? b=some o:=λb o e n=>PySem.W.hideAll_get _ e n
 have hst:(PySem.W.hideAll s1.heap (frs (zU (CX1 P w) P w K mg base N qual scope f cd A outer s H E).stack)).StaysIn s1.heap:=λb o q=>PySem.W.of_hideAll _ q
 have hff:s1.heap.FunFrames (PySem.W.hideAll s1.heap (frs (zU (CX1 P w) P w K mg base N qual scope f cd A outer s H E).stack)) (zU (CX1 P w) P w K mg base N qual scope f cd A outer s H E).stack :=
  PySem.W.funFrames_hide I.stack λenv he b hb=>Yu.mpr ⟨env,he,hb⟩
 refine zbd (L:=s.heap.objs.size) (h:=s1.heap) (s:={ s1 with heap:=h1 }) I.ok.frames rfl hst hff hx λh' t fl up=>?_
 have z:=zd5 (g:=s1.gens) (d:=s1.drawn) (t:=s1.toks) (h1:=h1) I rfl (λb hb=>wO _ hb) (Un.kept hx.keeps) (λb o e n=>⟨⟨o,hin b o e n⟩,λ_=>hin b o e n⟩)
  (λb u e=>by
   obtain⟨o,ho⟩:=(I.hok b u e).obj
   exact⟨o,hin b o ho λz=>by rw[I.stkFree b z]at e;cases e⟩) (I.hok.kept hx.keeps) (λb o e=>hx.keeps b o (hst b o e)) (hff.of_keeps λb o e _=>⟨o,hx.keeps b o e,rfl⟩) up fl I.bare
 exact⟨a,C,H1,_,_,_,rL,z,q⟩
end
def zjn (sp:Sp) (dvs:List V) (J:XJ) (t:TA):TE:=λσ H Q=>t σ H λvs H1=>sp (vs++dvs) H1 Q λc d H'=>∃C,c = .ref C/\J C d σ H'
structure vm (P:Program) (w:World) (K:Fg) (mg:Str->Option Value) (base:Heap) (x:Str) (k:Nat) (ps:List Str) (dvs:List V) (sp:Sp):Prop where
 ex:∃f fd ds,Zu P w K mg base (CX1 P w) k f fd ps sp/\mg x=some (.ref f)/\PySem.W.keepIn K (.ref f)=true/\v5 K fd ps ds/\xa dvs ds
section
variable {X:Cx}{k:Nat}{f:Addr}{fd:FuncData}{ps:List Str}{sp:Sp}{dvs:List V}{ds:List Value}{J:XJ}{x:Str}{p pos:Pos}{e:Expr}{es:List Expr}{t:TA}
theorem zgM {pz:List (Addr×Obj)}{σ:St}{H:Hp}{s:Shared}{Q:VK}{us:List Value}{vs:List V}(F:Zu X.prog X.w X.K X.mg X.base (CX1 X.prog X.w) k f fd ps sp) (hr:z6 k X.A) (hb:v5 X.K fd ps ds) (hd:xa dvs ds) (hx:zbE X J)
  (I:Inv X pz σ H s) (r:xa vs us) (h:sp (vs++dvs) H Q λc d H'=>∃C,c = .ref C/\J C d σ H'):wpAny (model X.prog X.w) X.A (call (.ref f) us) (EP X pz σ Q) X.xe s:=by
 have r2:xa (vs++dvs) (us++ds):=r.append hd
 have hl:(us++ds).length=ps.length:=by rw[<-r2.length];exact F.len _ _ _ _ h
 refine YQ (codeAny_mono (F.run X.A X.stack s H ⟨us,[]⟩ (us++ds) (vs++dvs) Q _ hr I.env0 (hb s us I.kIn hl) r2 h) λr s' hq=>?_)
 cases r with
 | error e =>
  obtain⟨a,C,H',B,a0,dct,rfl,F,C',hC,q⟩:=hq
  cases hC
  exact hx pz σ H s a C H' s' B a0 dct I F q
 | ok fl =>
  cases fl with
  | ret u=>exact I.after hq
  | next=>exact False.elim hq
  | brk=>exact False.elim hq
  | cont=>exact False.elim hq
theorem Xg (c:vm X.prog X.w X.K X.mg X.base x k ps dvs sp) (hr:z6 k X.A) (hx:zbE X J) (ha:PA X (e::es) t) (hg:Gl X x:=by rfl) (hdb:(x == ("__debug__":Str))=false:=by decide)
  (he:starEach (e::es) X.env=(false,eval e X.env)::starEach es X.env:=by rfl) (hpl:(backTo pos (starEach es X.env)).any (·.1)=false:=by rfl) :
  PE X (.Call (.Name x p) (e::es) [] pos) (zjn sp dvs J t):=by
 obtain⟨f,fd,ds,F,hm,hk,hb,hd⟩:=c.ex
 intro pz s σ H Q I h
 refine uo (Z4 I hg hm ?_ hdb)
 refine Yv (h₀:=X.base) I.ok.mod.kin hk (thn (ha pos pz s σ H _ I h) λus s1 ⟨vs,H1,I1,r,q⟩=>⟨I1.kIn,?_⟩) he hpl
 exact zgM F hr hb hd hx I1 r q
end
section
variable {P:Program}{w:World}{K:Fg}{mg:Str->Option Value}{base:Heap}
theorem Df.cal1 {x:Str}{st:Stmt}{N ps:List Str}{dvs:List V}{k:Nat}{sp:Sp}(D:Df K mg x st ps dvs) (S:zA N ps (zk st)) (len:∀vs H Q E,sp vs H Q E->vs.length=ps.length)
  (hbody:∀(f:Addr) (cdv:Value) (A:Around) (outer:List Env) (s:Shared) (H:Hp) (vs:List V) (Q:VK) (E:XK),z6 k (A.deeper (envOfC x (zk st) s.heap.objs.size f cdv))->sp vs H Q E →
   ∃t,PSs (zU (CX1 P w) P w K mg base N x (zk st) f cdv A outer s H E) (zZ st) t/\t { nx:=λ_ H'=>Q .non H',rt:=Q } (vv N vs) H):vm P w K mg base x (k+1) ps dvs sp:=by
 obtain⟨f,oc,od,dV,kV,doc,pm,an,cdv,ct,osl,ds,lk,hcd,hk,hm,hv,hb⟩:=D.ex
 exact⟨⟨f,_,ds,zd6 lk hcd S len λA outer s H vs Q E hr hsp=>hbody f cdv A outer s H vs Q E hr hsp,hm,hk,hb,hv⟩⟩
theorem Df.cal1q {x:Str}{st:Stmt}{N ps:List Str}{dvs:List V}{k:Nat}{sp:Sp}(D:Df K mg x st ps dvs) (S:zA N ps (zk st))
  (hbody:∀(f:Addr) (cdv:Value) (A:Around) (outer:List Env) (s:Shared) (H:Hp) (vs:List V) (Q:VK) (E:XK),z6 k (A.deeper (envOfC x (zk st) s.heap.objs.size f cdv))->sp vs H Q E →
   ∃t,PSs (zU (CX1 P w) P w K mg base N x (zk st) f cdv A outer s H E) (zZ st) t/\t { nx:=λ_ H'=>Q .non H',rt:=Q } (vv N vs) H) (len:∀vs H Q E,sp vs H Q E->vs.length=ps.length:=by intro _ _ _ _ h;repeat (first | (cases h;subst_vars;rfl) | (obtain⟨rfl,_⟩:=h;rfl) | (obtain⟨_,h⟩:=h))):vm P w K mg base x (k+1) ps dvs sp:=D.cal1 S len hbody
end
def zjq (C:Addr) (J:XJ) (t:TA):TS:=λ_ σ H=>t σ H λvs H1=>vs.length<=sizeLine/\J C none σ H1
section
variable {X:Cx}{J:XJ}{x:Str}{C:Addr}{bmB bmN:List Value}{newId Bn inN B nid initId:String}{np cpos pos:Pos}{e:Expr}{es:List Expr}{t:TA}
theorem ZJ (O:OwnCls x C bmB newId X.mg X.base) (Fn:ExcBaseFacts Bn newId inN bmN) (hBn:bmB.contains (.type Bn)=true) (FB:ExcBaseFacts B nid initId bmB) (hh:X.A.handled=none) (hJ:J7 X J) (ha:PA X (e::es) t)
  (hg:Gl X x:=by rfl) (hd:(x == ("__debug__":Str))=false:=by decide)
  (he:starEach (e::es) X.env=(false,eval e X.env)::starEach es X.env:=by rfl) (hpl:(backTo cpos (starEach (e::es) X.env)).any (·.1)=false:=by rfl) :
  PS X (.Raise (some (.Call (.Name x np) (e::es) [] cpos)) none pos) (zjq C J t):=by
 intro pz s σ H D I h
 obtain⟨tl,N,nm,q,bs,hdct,sn,sub,ab,col,dd,k0,k1,k2,k3,k5,mN,hC,hN,hni,T⟩:=O.obj
 refine wpAny_Raise_call_subU (C:=C) (N:=N) (bm:=tl) (nm:=nm) (q:=q) (bs:=bs) (hdct:=hdct) (sn:=sn) (sub:=sub) (ab:=ab) (col:=col) (dd:=dd) (k0:=k0) (k1:=k1) (k2:=k2) (k3:=k3) (k5:=k5) Fn hBn FB (mN:=mN) (T.hasType FB.hasBase) hh hpl hni (Z4 I hg O.bound ⟨rL,?_⟩ hd)
 have hw:=ha cpos pz s σ H _ I h
 rw[he]at hw ⊢
 exact Calls.evalArgs_plain (yZ hw (λvs s2 ⟨ws,H1,I1,r,z,q⟩=>⟨rfl,by rw[<-r.length];exact z,I1.bk _ _ hC,hN.keeps I1.bk,T.keeps I1.bk,λh' e hm=>hJ pz σ H1 s2 h' e C vs I1 hm q⟩) λ_ _ y=>y)
end
section
variable {X:Cx}{pz:List (Addr×Obj)}{σ:St}{H:Hp}{s:Shared}
theorem QV {M:Model}{A:Around}{E:Value->Shared->Prop}{i:Nat}{n:Str}{pos:Pos}{Q:Unit->Shared->Prop}(I:Inv X pz σ H s) (hN:X.N.Nodup) (hi:X.N[i]? = some n) (hk:X.env.kindOf n=some .local)
  (h:∀s',Inv X pz (σ.set i none) H s'->Q () s'):wpAny M A (do bindName X.env n .none;unbindBehindTheSuite X.env n pos) Q E s:=by
 obtain⟨m,hn,hl⟩:=id I.loc
 have hcls:(X.env.scope.kind == .class || (X.env.scope.kind == .module&&X.env.locals != X.env.globals))=false:=by rw[I.ok.kind];rfl
 have hiσ:i<σ.length:=by rw[I.len];exact(wP.mp hi).1
 have neL:∀b o,X.s₀.heap.get? b=some o->b≠X.env.locals:=λb o e=>wS (wT (wB e) I.ok.above)
 refine wpAny_nameGoes_keeps hk hn hcls λh' v hn' hs=>h _ ⟨I.ok,I.os,I.bare,⟨λb o e n hb hx=>(hs.2 b (neL b o e)).trans (I.base.keep b o e n hb hx),λb o e n hb hx=>?_,I.base.free,λb o e hx=>?_,I.base.tups,I.base.frzs,I.base.tbls⟩,
  ⟨_,hn',λj y v' e1 e2 e3=>?_⟩,λy c e=>?_,I.free,I.freeC,λp hp=>?_,λb ob e=>?_,by simpa using I.len⟩
 ·obtain⟨sl,e1⟩:=I.base.slot b o e n hb hx
  exact⟨sl,(hs.2 b (neL b o e)).trans e1⟩
 ·obtain⟨o',e1⟩:=I.base.there b o e hx
  exact⟨o',(hs.2 b (neL b o e)).trans e1⟩
 ·by_cases hj:j=i
  ·subst hj
   rw[WS hiσ]at e2
   cases e2
  ·rw[Yf (Ne.symm hj)]at e2
   obtain⟨u',r',q⟩:=hl j y v' e1 e2 e3
   refine⟨u',r',?_⟩
   rcases q with⟨k,e⟩ | ⟨k,c,e,z⟩
   ·refine .inl ⟨k,?_⟩
    have:y≠n:=λe=>hj (Vo hN e1 (e ▸ hi))
    simp[this,e]
   ·exact .inr ⟨k,c,e,z.sameBut hs (I.cne y c e)⟩
 ·obtain⟨w',z⟩:=I.cell y c e
  exact⟨w',z.sameBut hs (I.cne y c e)⟩
 ·obtain⟨e,n,ne,nf,d⟩:=I.pin p hp
  exact⟨(hs.2 p.1 ne).trans e,n,ne,nf,d⟩
 ·refine(I.hok b ob e).stay (λc w' hc q=>(hs.2 c λz=>?_).trans q) (λ_ q=>q) λ_ _ q=>q
  subst z
  rcases hc with rfl | hc
  ·rw[I.free]at e;cases e
  ·rw[I.free]at hc;cases hc
end
abbrev Cx.tried (X:Cx) (pz:List (Addr×Obj)) (W:Value->Shared->Prop):Cx:={ X with pn:=X.pn++pz,xe:=W }
abbrev Cx.suite (X:Cx) (pz:List (Addr×Obj)) (a:Addr) (oe:Obj):Cx:={ X with A:=X.A.mark (some (.ref a)),calm:=false,pn:=X.pn++(pz++[(a,oe)]),xe:=λ_ _=>False }
abbrev Cx.testing (X:Cx) (a:Addr):Cx:={ X with A:=X.A.mark (some (.ref a)),calm:=false }
section
variable {X:Cx}{pz:List (Addr×Obj)}{σ:St}{H:Hp}{s:Shared}
theorem Inv.tried (I:Inv X pz σ H s) (W:Value->Shared->Prop):Inv (X.tried pz W) [] σ H s :=
 ⟨⟨I.ok.mod,I.ok.kind,I.ok.glob,I.ok.blt,I.ok.above,I.ok.inj,I.ok.has,I.ok.cab,I.ok.hd,I.ok.frames,I.ok.stk,I.ok.exf,I.ok.bs,I.ok.bsz,I.ok.noex,I.ok.exfs,I.ok.funs,I.ok.frf⟩,
  I.os,I.bare,I.base,I.loc,I.cell,I.free,I.freeC,λp hp=>I.pin p (by rw[yB]at hp;exact hp),I.hok,I.len⟩
theorem Inv.untried {pz':List (Addr×Obj)}{W:Value->Shared->Prop}(ok:X.Ok) (I:Inv (X.tried pz W) pz' σ H s):Inv X pz σ H s :=
 ⟨ok,I.os,I.bare,I.base,I.loc,I.cell,I.free,I.freeC,λp hp=>I.pin p (yP _ hp),I.hok,I.len⟩
theorem Inv.test (I:Inv X pz σ H s) (a:Addr):Inv (X.testing a) pz σ H s :=
 ⟨⟨I.ok.mod,I.ok.kind,I.ok.glob,I.ok.blt,I.ok.above,I.ok.inj,I.ok.has,I.ok.cab,(λh=>nomatch h),I.ok.frames,I.ok.stk,I.ok.exf,I.ok.bs,I.ok.bsz,I.ok.noex,I.ok.exfs,I.ok.funs,I.ok.frf⟩,
  I.os,I.bare,I.base,I.loc,I.cell,I.free,I.freeC,I.pin,I.hok,I.len⟩
theorem Inv.suite {a:Addr}{oe:Obj}{vs:Array Value}(I:Inv X pz σ H s) (e:s.heap.get? a=some oe) (hd:oe.data = .fields vs) (hn:H a=none):Inv (X.suite pz a oe) [] σ H s :=
 ⟨⟨I.ok.mod,I.ok.kind,I.ok.glob,I.ok.blt,I.ok.above,I.ok.inj,I.ok.has,I.ok.cab,(λh=>nomatch h),I.ok.frames,I.ok.stk,I.ok.exf,I.ok.bs,I.ok.bsz,I.ok.noex,I.ok.exfs,I.ok.funs,I.ok.frf⟩,
  I.os,I.bare,I.base,I.loc,I.cell,I.free,I.freeC,(λp hp=>by
   rw[yB]at hp
   have hp':p∈X.pn++pz\/p∈[(a,oe)]:=by
    rcases wQ.mp hp with z | z
    ·exact .inl (yP _ z)
    ·rcases wQ.mp z with z | z
     ·exact .inl (wV _ z)
     ·exact .inr z
   rcases hp' with z | z
   ·exact I.pin p z
   ·obtain rfl:p=(a,oe):=by simpa using z
    refine⟨e,hn,λq=>?_,λq=>?_,λv q=>?_⟩
    ·obtain⟨m,⟨o,es,ep,ho,hd',_⟩,_⟩:=I.loc
     rw[<-show a=X.env.locals from q,e]at ho
     cases ho
     rw[hd]at hd';cases hd'
    ·obtain⟨_,o,ho,hnf⟩:=I.funs.mem q
     rw[show s.heap.get? a=some oe from e]at ho
     cases ho
     exact hnf vs hd
    ·have q':oe.data = .cell v:=q
     rw[hd]at q';cases q'),I.hok,I.len⟩
theorem Inv.unsuite {a:Addr}{oe:Obj}(ok:X.Ok) (I:Inv (X.suite pz a oe) [] σ H s):Inv X pz σ H s :=
 ⟨ok,I.os,I.bare,I.base,I.loc,I.cell,I.free,I.freeC,λp hp=>I.pin p (by
  rw[yB]
  rcases wQ.mp hp with z | z
  ·exact yP _ z
  ·exact wV _ (yP _ z)),I.hok,I.len⟩
end
open PySem.W
section
variable {prog:Program}{w:World}{A:Around}{E:Value->Shared->Prop}{s:Shared}{K:Fg}{x D:Addr}{ox:Obj}{od:Option Obj}
theorem zaV {M:Model}{nameV:Value}{Q:Unit->Shared->Prop}(X:K.In s.heap) (I:InstAt s.heap x ox D od) (hb:subIn K (.ref D) (.type "BaseException")=some true) (q:Q () s):wpAny M A (checkBuiltinCall "BaseException.__getattribute__" ⟨[.ref x,nameV],[]⟩) Q E s:=by
 have k1:builtinKind "BaseException.__getattribute__" = some .slot:=by decide +kernel
 have k2:splitId "BaseException.__getattribute__" = some ("BaseException","__getattribute__"):=by decide +kernel
 have L:Looks M s.heap (isInstance (.ref x) (.type "BaseException")) true:=(I.type (M:=M)).andThen (looks_subIn X hb)
 obtain⟨hh,g,d,t,os⟩:=s
 simp only[checkBuiltinCall,k1,k2]
 refine wc (L.at ?_)
 repeat (any_goals (first | assumption | wp_step))
theorem zf0 {Q:Option Value->Shared->Prop}(X:K.In s.heap) (I:InstAt s.heap x ox D od) (hga:findIn K (.ref D) "__getattribute__" = some (some (.builtin "BaseException.__getattribute__"))) (hno:findIn K (.ref D) "__getattr__" = some none)
  (hb:subIn K (.ref D) (.type "BaseException")=some true) (hf:findObj K D od "__class__" = some (.bind (.builtin "getset_descriptor.__get__") (.builtin "object.__class__"))) (hm:mroIn K D (.type "object")=some true)
  (h:Q (some (.ref D)) { s with toks:=s.toks+1 }):wpAny (model prog w) A (getAttr? (.ref x) "__class__") Q E s:=by
 have L0:=I.type (M:=model prog w)
 have L1:=looks_findIn (M:=model prog w) X hga
 have L2:=looks_findIn (M:=model prog w) X hno
 have L3:=looks_find (M:=model prog w) X I hf
 have GA:=F.attr_ValueError.ga
 obtain⟨hh,g,d,t,os⟩:=s
 unfold getAttr? getAttrBy? getAttrBy
 refine wc (wpAny_mkText (wc (Wq (yN (wc (L0.at (wc (L1.at ?_))))))))
 try dsimp only
 rw[if_neg (show ¬((onTheHeap (.ref D)&&Value.builtin "BaseException.__getattribute__" == Value.builtin "object.__getattribute__")=true) by
  rw[show (Value.builtin "BaseException.__getattribute__" == Value.builtin "object.__getattribute__")=false by decide +kernel];simp)]
 unfold getAttrByItsOwn
 refine wc (?_:wpAny _ _ (typeLookup (.ref D) "__getattr__") _ _ _)
 refine L2.at ?_
 refine wc (Wq (yN (?_:wpAny _ _ (boundAndCalled (.builtin "BaseException.__getattribute__") (.ref x) _) _ _ _)))
 unfold boundAndCalled
 refine wc (YZ (GA.bind _) ?_)
 refine YQ (codeAny_call_builtin GA.plain F.entry_bexc_ga (zaV X I hb ?_))
 unfold Builtin.«object.__getattribute__»
 refine wc (wj (wc (wj (wc (L0.at (wc (L3.at ?_)))))))
 show wpAny _ _ (holding [Value.builtin "object.__class__"] (call (.builtin "getset_descriptor.__get__") [.builtin "object.__class__",.ref x,.ref D]) >>= ret) _ _ _
 refine wc (yN (YQ (class_get (s:=⟨hh,g,d,t+1,os⟩) (ox:=ox) (od:=od) X I hm ?_)))
 refine wj ?_
 exact wj (wj h)
theorem zcS {name:Str}{a g:Value}(hc:(clsIn K D).isSome=true) (ha:findIn K (.ref D) name=some (some a)) (hg:specialIn K a "__get__" = some (some g)) (ht:takesIn K a=some true):findObj K D od name=some (.bind g a):=by
 obtain⟨cd,e⟩:=YH.mp hc
 unfold findObj;rw[e,Option.bind_some,ha,Option.bind_some]
 simp[hg,ht]
structure zfK (K:Fg) (D:Addr):Prop where
 ga:findIn K (.ref D) "__getattribute__" = some (some (.builtin "BaseException.__getattribute__"))
 no:findIn K (.ref D) "__getattr__" = some none
 bx:subIn K (.ref D) (.type "BaseException")=some true
 ob:mroIn K D (.type "object")=some true
 ds:hasDictIn K D=true
 ca:findIn K (.ref D) "__class__" = some (some (.builtin "object.__class__"))
 sp:specialIn K (.builtin "object.__class__") "__get__" = some (some (.builtin "getset_descriptor.__get__"))
 tk:takesIn K (.builtin "object.__class__")=some true
theorem zam (Z:zfK K D):KitX K (.ref x) (.ref D) (λh=>∃ox od,InstAt h x ox D od) where
 ty:=λ_ _ _ ⟨_,_,I⟩=>I.type
 it:=λ_ _ X _=>by
  obtain⟨cdD,hcD,_⟩:=any_some Z.ds
  unfold clsIn at hcD
  split at hcD
  case h_1 c' d' cd' sl' ho =>
   intro A' Q' E' s' k q
   unfold isType loadHead
   exact wc (wpAny_loadPart (k _ _ (X _ _ ho)) (wj q))
  case h_2=>cases hcD
 ne:=λh tp dd its n sl X htp=>by
  obtain⟨cdD,hcD,_⟩:=any_some Z.ds
  refine Bool.eq_false_iff.mpr λq=>?_
  have e:D=tp:=Value.ref.inj (beq_iff_eq.mp q)
  subst e
  unfold clsIn at hcD
  split at hcD
  case h_1 c' d' cd' sl' ho=>exact nomatch (X _ _ ho).symm.trans htp
  case h_2=>cases hcD
 ca:=λX ⟨_,od,I⟩ k=>zf0 X I Z.ga Z.no Z.bx (zcS (by obtain⟨cd,hc,_⟩:=any_some Z.ds;rw[hc];rfl) Z.ca Z.sp Z.tk) Z.ob k
end
def qF (σ:St) (js:List Nat):St:=js.map λj=>(σ[j]?).getD none
inductive XM (X:Cx) (scope:Scope) (cl:List (Str×Addr)):List Str->List Nat->Prop
 | nil:XM X scope cl [] []
 | cons {x:Str}{j:Nat}{r:List Str}{js:List Nat}:X.N[j]? = some x->X.env.kindOf x=some .cell->(relabel scope X.env).names.lookup x=some .cell->(∃c,cl.lookup x=some c)->XM X scope cl r js->XM X scope cl (x::r) (j::js)
section
variable {X:Cx}{scope:Scope}{cl:List (Str×Addr)}
theorem XM.length:∀{r:List Str}{js:List Nat},XM X scope cl r js->r.length=js.length
 | _,_,.nil=>rfl
 | _,_,.cons _ _ _ _ t=>by rw[ww,ww,XM.length t]
theorem XM.get:∀{r:List Str}{js:List Nat}{k:Nat}{x:Str},XM X scope cl r js->r[k]? = some x->∃j,js[k]? = some j/\X.N[j]? = some x/\X.env.kindOf x=some .cell/\(relabel scope X.env).names.lookup x=some .cell/\∃c,cl.lookup x=some c
 | _,_,_,_,.nil,e=>by simp at e
 | _,_,0,_,.cons h1 h2 h3 h4 _,e=>by
  simp at e;subst e
  exact⟨_,rL,h1,h2,h3,h4⟩
 | _,_,k+1,x,.cons _ _ _ _ t,e=>by
  obtain⟨j,r⟩:=XM.get (k:=k) t (by simpa using e)
  exact⟨j,by simpa using r⟩
theorem XM.has {r:List Str}{js:List Nat}(h:XM X scope cl r js){x:Str}(hx:x∈r):∃c,cl.lookup x=some c:=by
 obtain⟨k,hk⟩:=List.getElem?_of_mem hx
 obtain⟨_,_,_,_,_,z⟩:=h.get hk
 exact z
end
def xH (X:Cx) (NB FR:List Str) (scope:Scope) (cl:List (Str×Addr)) (s3:Shared) (H3:Hp) (fp:List Addr):Cx :=
 { X with N:=NB++FR,s₀:=s3,H₀:=H3,env:=compEnvC scope cl s3.heap.objs.size X.env,outer:=X.stack,stack:=X.stack,ex:=fp,fn:=λ_=>false,pn:=[],xe:=λ_ _=>False }
def J5 (n:Nat) (js:List Nat) (wi:TI) (g:TG) (tt:TT) (te:TE):TE:=λσ H Q=>wi σ H λJ H1=>∀D,H1 D=none->∃W:Nat->Nat->Hp->List V->Prop,(∃m,W 0 m (upd H1 D (.lst [])) []) ∧
 ∀i m H2 ys,W i m H2 ys->H2 D=some (.lst ys)->(J.stop i H2/\Q (.ref D) H2) ∨
  (J.go i H2/\∀zs x H3,zs.length=n->J.yld i H2 x H3->g x (zs++qF σ js) H3 λσ4 H4=>σ4.drop n=qF σ js/\tt σ4 H4 λb H5 =>
   if b=true then te σ4 H5 (λv H6=>H6 D=some (.lst ys)/\ys.length<sizeLine/\∃m',m'<m/\W (i+1) m' (upd H6 D (.lst (ys++[v]))) (ys++[v]))
   else H5 D=some (.lst ys)/\∃m',m'<m/\W (i+1) m' H5 ys)
theorem zaD {scope:Scope}{env:Env}{FR:List Str}{x:Str}(h:(relabel scope env).names.all (λy=>!(y.2 == .cell || y.2 == .free) || FR.contains y.1)=true)
  (e:(relabel scope env).names.lookup x=some .cell\/(relabel scope env).names.lookup x=some .free):x∈FR:=by
 have key:∀k:NameKind,(k == .cell || k == .free)=true->(x,k)∈(relabel scope env).names->x∈FR:=λk hk hm=>by
  have z:=Y2.mp h _ hm
  simp only[hk,Bool.not_true,Bool.false_or,List.contains_iff_mem]at z
  exact z
 rcases e with e | e
 ·exact key .cell rL (PySem.mem_of_lookup e)
 ·exact key .free rL (PySem.mem_of_lookup e)
theorem V0 {X:Cx}{elt tg iter:Expr}{ifs:List Expr}{scope:Scope}{cl:List (Str×Addr)}{pos:Pos}{NB FR:List Str}{js:List Nat}{wi:TI}{g:TG}{tt:TT}{te:TE}{Q:VK}{RR:Value->Addr->Result->Shared->Prop}
  {pz:List (Addr×Obj)}{s:Shared}{σ:St}{H:Hp}(hc:X.calm=true) (hcl:∀x c,cl.lookup x=some c->X.env.cells.lookup x=some c) (hcap:XM X scope cl FR js)
  (hnm:(relabel scope X.env).names.all (λy=>!(y.2 == .cell || y.2 == .free) || FR.contains y.1)=true) (hcell:∀x∈scope.names,x.2≠.cell) (hkind:scope.kind = .function)
  (hi:PI X tg iter wi) (hb:∀s3 H3 fp,PG (xH X NB FR scope cl s3 H3 fp) tg g/\PTs (xH X NB FR scope cl s3 H3 fp) ifs tt/\PE (xH X NB FR scope cl s3 H3 fp) elt te)
  (I:Inv X pz σ H s) (h:J5 NB.length js wi g tt te σ H Q)
  (hRR:∀D C H' s',Inv X pz σ H' s'->Vd X pz H' C->(∃m,s'.heap.Ns C m)->Q (.ref D) H'->RR (.ref D) C (.ok .next) s') :
  wpAny (model X.prog X.w) X.A (eval iter X.env) (λv s1=>wpAny (model X.prog X.w) X.A (pyIter v) (λit s2=>wpAny (model X.prog X.w) X.A (newList []) (λacc s3 =>
   wpAny (model X.prog X.w) X.A (newFunctionEnv scope X.env.globals cl [] X.env.qual none .none (some X.env)) (λcenv s4 =>
    codeAny (model X.prog X.w) X.A (.compStart (.ListComp elt [⟨tg,iter,ifs,0⟩] scope pos) 0 it acc { cenv with scope:=relabel scope X.env }) (RR acc cenv.locals) s4) X.xe s3) X.xe s2) X.xe s1) X.xe s:=by
 refine thn (hi pz s σ H _ I h) λv s1 h1=>thn h1 λitv s2 h2=>?_
 obtain⟨it,fp,tn,J,H2,e,I2,T,st2,f2,q2⟩:=h2
 subst e
 have hf2:H2 s2.heap.objs.size=none:=I2.hok.fresh (wg _)
 obtain⟨W,⟨m0,w0⟩,turn⟩:=q2 _ hf2
 refine yO (hd:=by size_fits) ?_
 have I3:Inv X pz σ (upd H2 s2.heap.objs.size (.lst [])) { s2 with heap:=s2.heap.push { cls:=.type "list",dict:=none,data:=.seq ([]:List Value).toArray } } :=
  I2.laid (t':=s2.toks) (λb u e=>wf _ e) (wg _) ⟨by decide,[],0,.nil,wE _ rfl⟩
 generalize hD:s2.heap.objs.size=D at *
 generalize hs3:({ s2 with heap:=s2.heap.push { cls:=.type "list",dict:=none,data:=.seq ([]:List Value).toArray } }:Shared)=s3 at *
 generalize hH3:upd H2 D (.lst [])=H3 at *
 have h3D:H3 D=some (.lst []):=by rw[<-hH3];exact zg
 have fpD:∀b∈fp,b≠D:=λb hb=>by
  obtain⟨o,e,_⟩:=T.obj _ _ st2 b hb
  rw[<-hD];exact wS (wB e)
 have k23:∀b u,s2.heap.get? b=some u->s3.heap.get? b=some u:=λb u e=>by rw[<-hs3];exact wf _ e
 have st3:tn 0 s3.heap:=T.keep _ _ _ st2 λb _ o e=>k23 b o e
 have f3:∀b∈fp,Vd X pz H3 b:=λb hb=>⟨by rw[<-hH3,zO (fpD b hb)];exact(f2 b hb).1,(f2 b hb).2⟩
 refine wpAny_newFunctionEnv hcell (by intro y hy;simp at hy) (λh4 hns4 hsb4=>?_) hkind
 have k34:∀b u,s3.heap.get? b=some u->h4.get? b=some u:=λb u e=>hsb4.extBut b u (wS (wB e)) (wf _ e)
 have okB:(xH X NB FR scope cl s3 H3 fp).Ok:=by
  refine⟨I3.ok.mod,hkind,I3.ok.glob,I3.ok.blt,wg _,λx y c e1 e2=>I3.ok.inj x y c (hcl _ _ e1) (hcl _ _ e2),λx e=>hcap.has (zaD hnm e),(λx c e=>nomatch e),I3.ok.hd,I3.ok.frames,.inl rL,λb hb=>⟨?_,λx c e=>?_⟩,I3.bs,yH I3.ok.bsz I3.sz,λb o e hb=>?_,λb hb z=>?_,I3.stack,I3.stkFree⟩
  ·obtain⟨o,e,_⟩:=T.obj _ _ st3 b hb
   exact wS (wB e)
  ·exact(f3 b hb).2.2.2.2.1 x c (hcl _ _ e)
  ·obtain⟨_,_,_,z,_⟩:=f3 b hb
   rcases z with z | z
   ·exact I3.ok.noex b o e z
   ·exact absurd (wT (wB e) (yH I3.ok.bsz z)) (uF _)
  ·obtain⟨_,z1,z2,_⟩:=f3 b hb
   rcases wx.mp (I3.stkSub b z)with e | e
   ·exact z1 e
   ·exact z2 e
 have IB:Inv (xH X NB FR scope cl s3 H3 fp) [] (List.replicate NB.length none++qF σ js) H3 { s3 with heap:=h4,toks:=s3.toks+([]:List (Str×Value)).length }:=by
  refine⟨okB,rL,I3.bare,Un.kept k34,⟨_,hns4,λi x v e1 e2 e3=>?_⟩,λx c e=>?_,I3.hok.fresh (wg _),λx c e=>I3.freeC x c (hcl _ _ e),λp hp=>?_,I3.hok.kept k34,?_⟩
  ·by_cases hi:i<NB.length
   ·rw[wU (by simpa using hi),WH,if_pos hi]at e2
    cases e2
   ·have e1':FR[i - NB.length]? = some x:=by
     have z:(NB++FR)[i]? = some x:=e1
     rw[wN (by omega)]at z;exact z
    rw[wN (by simp;omega),uO]at e2
    obtain⟨j,hj,hN,hk,hb',c,hc'⟩:=hcap.get e1'
    have e2':σ[j]? = some (some v):=by
     unfold qF at e2
     rw[wo,hj]at e2
     simp only[Option.map_some,Option.some.injEq]at e2
     cases hσ:σ[j]? with
     | none=>rw[hσ]at e2;cases e2
     | some o=>rw[hσ]at e2;simp only[Y3]at e2;rw[e2]
    obtain⟨m,hn,hl⟩:=I3.loc
    obtain⟨u,ru,lu⟩:=hl j x v hN e2' (.inr (.inl hk))
    refine⟨u,ru,.inr ⟨.inl hb',c,hc',?_⟩⟩
    rcases lu with⟨z,_⟩ | ⟨_,c',z,q⟩
    ·rw[hk]at z;cases z
    ·rw[hcl _ _ hc']at z;cases z
     obtain⟨o,ho,hd⟩:=q
     exact⟨o,k34 _ _ ho,hd⟩
  ·obtain⟨v,o,ho,hd⟩:=I3.cell x c (hcl _ _ e)
   exact⟨v,o,k34 _ _ ho,hd⟩
  ·exact absurd (show p∈([]:List (Addr×Obj))from hp) (by simp)
  ·show _=(NB++FR).length
   rw[wI,wI,uO,hcap.length]
   unfold qF;rw[we]
 have st4:tn 0 h4:=T.keep _ _ _ st3 λb _ o e=>k34 b o e
 have stat:∀{H':Hp},(∀b∈fp,H' b=none)->∀b∈fp,Vd (xH X NB FR scope cl s3 H3 fp) [] H' b:=λhn b hb =>
  ⟨hn b hb,(okB.exf b hb).1,okB.exfs b hb,.inl hb,λx c e=>(f3 b hb).2.2.2.2.1 x c (hcl _ _ e),λp hp=>absurd (show p∈([]:List (Addr×Obj))from hp) (by simp)⟩
 obtain⟨hg,ht,he⟩:=hb s3 H3 fp
 have fin:∀{σ':St}{H':Hp}{s':Shared},Inv (xH X NB FR scope cl s3 H3 fp) [] σ' H' s'->Q (.ref D) H'->RR (.ref D) s3.heap.objs.size (.ok .next) s':=λ{σ' H' s'} J q=>by
  have hm:∃m,s'.heap.Ns s3.heap.objs.size m:=by
   obtain⟨m,hm,_⟩:=J.loc
   exact⟨m,hm⟩
  refine hRR D _ H' s' (I3.call' (ch:=fp) J.os J.base J.hok J.bare λb hb=>?_) (I3.fpOk (wg _) J.free) hm q
  obtain⟨_,z1,z2,z3,z4,z5⟩:=f3 b hb
  exact⟨z3,z1,z4,z5⟩
 have loop:∀s5:Shared,s5 = { s3 with heap:=h4,toks:=s3.toks+([]:List (Str×Value)).length } →
   codeAny (model X.prog X.w) X.A (.compLoop (.ListComp elt [⟨tg,iter,ifs,0⟩] scope pos) 0 (.ref it) (.ref D) (compEnvC scope cl s3.heap.objs.size X.env)) (RR (.ref D) s3.heap.objs.size) s5:=by
  rintro s5 rfl
  refine XQ (λn s'=>∃i zs H' ys,zs.length=NB.length/\Inv (xH X NB FR scope cl s3 H3 fp) [] (zs++qF σ js) H' s'/\tn i s'.heap/\(∀b∈fp,H' b=none)/\H' D=some (.lst ys)/\W i n H' ys) ?_ m0
   ⟨0,_,H3,[],uO,IB,st4,λb hb=>(f3 b hb).1,h3D,by rw[<-hH3]at *;exact w0⟩
  rintro n s6 ⟨i,zs,H6,ys,hzs,I6,st6,fr6,hD6,w6⟩
  rcases turn i n H6 ys w6 hD6 with⟨stop,qn⟩ | ⟨go,step⟩
  ·refine thn (T.done (xH X NB FR scope cl s3 H3 fp) rL rL rL hc i [] s6 _ H6 _ I6 (stat fr6) st6 stop) λr s7 ⟨hr,I7⟩=>?_
   subst hr
   exact fin I7 qn
  ·refine thn (T.item (xH X NB FR scope cl s3 H3 fp) rL rL rL hc i [] s6 _ H6 _ I6 (stat fr6) st6 go) λr s7 ⟨u,hr,h7⟩=>?_
   subst hr
   refine thn h7 λ_ s8 ⟨x,H8,I8,r8,y8,st8,fr8⟩=>?_
   have I8':=I8.pinned (stat fr8) (T.obj _ _ st8)
   have again:∀{σ9:St}{H9:Hp}{s9:Shared}{ws:List V}{m':Nat},σ9.drop NB.length=qF σ js->Inv (xH X NB FR scope cl s3 H3 fp) ([]++Qu fp s8.heap) σ9 H9 s9->H9 D=some (.lst ws)->m'<n->W (i+1) m' H9 ws →
     ∃m,m<n/\∃i zs H' ys,zs.length=NB.length/\Inv (xH X NB FR scope cl s3 H3 fp) [] (zs++qF σ js) H' s9/\tn i s9.heap/\(∀b∈fp,H' b=none)/\H' D=some (.lst ys)/\W i m H' ys:=λ{σ9 H9 s9 ws m'} hdr I9 hz hm w9=>by
    have hl:σ9.length=(NB++FR).length:=I9.len
    rw[wI]at hl
    refine⟨m',hm,i+1,σ9.take NB.length,H9,ws,by rw[yj];omega,?_,T.keep _ _ _ st8 λb hb o e=>(I9.pin (b,o) (wV _ (wV _ (qW hb e)))).1,λb hb=>?_,hz,w9⟩
    ·rw[<-hdr,uz];exact I9.unpinned
    ·obtain⟨o,e,d⟩:=T.obj _ _ st8 b hb
     exact(I9.pin (b,o) (wV _ (wV _ (qW hb e)))).2.1
   refine thn (hg _ s8 _ H8 x u _ I8' r8 (step zs x H8 hzs y8)) λ_ s9 ⟨σ9,H9,I9,hdr,q9⟩=>?_
   refine thn (ht _ s9 σ9 H9 _ I9 q9) λok s10 ⟨H10,I10,q10⟩=>?_
   cases ok with
   | false =>
    rw[if_neg (by decide)]at q10 ⊢
    obtain⟨hz,m',hm,w'⟩:=q10
    exact again hdr I10 hz hm w'
   | true =>
    rw[if_pos rfl]at q10 ⊢
    refine thn (he _ s10 σ9 H10 _ I10 q10) λy s11 ⟨v,H11,I11,r11,hz,hlen,m',hm,w'⟩=>?_
    refine thn (qr _ s11 σ9 H11 (.ref D) [v] (.ref D) [y] (λ_ H12=>H12=upd H11 D (.lst (ys++[v]))) I11 rL (.cons r11 .nil) ⟨D,ys,v,rL,rL,hz,hlen,rL⟩) λ_ s12 ⟨_,H12,I12,_,e12⟩=>?_
    subst e12
    exact again hdr I12 zg hm w'
 exact codeAny_compStart_list (loop _ rL) (T.self X.A 0 _ _ _ st4 (loop _ rL))
section
variable {X:Cx}{elt tg iter:Expr}{ifs:List Expr}{scope:Scope}{cl:List (Str×Addr)}{pos spos py:Pos}{NB FR:List Str}{js:List Nat}{wi:TI}{g:TG}{tt:TT}{te:TE}
theorem qK (hc:X.calm=true) (hclos:closureFor scope X.env=pure cl) (hcl:∀x c,cl.lookup x=some c->X.env.cells.lookup x=some c) (hcap:XM X scope cl FR js)
  (hnm:(relabel scope X.env).names.all (λy=>!(y.2 == .cell || y.2 == .free) || FR.contains y.1)=true) (hcell:∀x∈scope.names,x.2≠.cell) (hkind:scope.kind = .function) (hnames:∀x∈scope.names,x.2 = .local → scope.names.lookup x.1=some .local)
  (hi:PI X tg iter wi) (hb:∀s3 H3 fp,PG (xH X NB FR scope cl s3 H3 fp) tg g/\PTs (xH X NB FR scope cl s3 H3 fp) ifs tt/\PE (xH X NB FR scope cl s3 H3 fp) elt te)
  (hs:∀x,foldedSetIterable iter X.env x=pure x:=by intro _;rfl) :
  PE X (.ListComp elt [⟨tg,iter,ifs,0⟩] scope pos) (J5 NB.length js wi g tt te):=by
 intro pz s σ H Q I h
 rw[eval_ListComp]
 refine YR (use:=none) rL hs hclos hkind hnames (V0 (RR:=λacc C=>compPost (model X.prog X.w) X.A X.xe none (EP X pz σ Q) acc C) hc hcl hcap hnm hcell hkind hi hb I h ?_)
 intro D C H' s' I' ⟨f0,f1,f2,f3,f4,f5⟩ ⟨m,hm⟩ q
 exact⟨m,hm,λh' sb=>⟨.ref D,H',I'.turned (t':=s'.toks) (λb o hb e=>(sb.2 b hb).trans e) f0 f1 f3 f4 f5,rL,q⟩⟩
theorem Q0 {i:Nat}{y:Str}(hc:X.calm=true) (hclos:closureFor scope X.env=pure cl) (hcl:∀x c,cl.lookup x=some c->X.env.cells.lookup x=some c) (hcap:XM X scope cl FR js)
  (hnm:(relabel scope X.env).names.all (λy=>!(y.2 == .cell || y.2 == .free) || FR.contains y.1)=true) (hcell:∀x∈scope.names,x.2≠.cell) (hkind:scope.kind = .function) (hnames:∀x∈scope.names,x.2 = .local → scope.names.lookup x.1=some .local)
  (hN:X.N.Nodup) (hiN:X.N[i]? = some y) (hy:X.env.kindOf y=some .local) (hsw:swapsWith (.ListComp elt [⟨tg,iter,ifs,0⟩] scope pos) (some (.Name y py)) spos.line X.env=pure true)
  (hi:PI X tg iter wi) (hb:∀s3 H3 fp,PG (xH X NB FR scope cl s3 H3 fp) tg g/\PTs (xH X NB FR scope cl s3 H3 fp) ifs tt/\PE (xH X NB FR scope cl s3 H3 fp) elt te)
  (hs:∀x,foldedSetIterable iter X.env x=pure x:=by intro _;rfl) :
  PS X (.Assign [.Name y py] (.ListComp elt [⟨tg,iter,ifs,0⟩] scope pos) spos) (zdv (J5 NB.length js wi g tt te) (zG i)):=by
 intro pz s σ H D I h
 rw[exec_Assign_Name_used _ _ _ _ hsw]
 refine wc (YY (wc ?_))
 show wpAny _ _ (do let _ <-comprehension (.ListComp elt [⟨tg,iter,ifs,0⟩] scope pos) scope X.env _ (newList []) false (eval iter X.env) (some (assign (.Name y py) X.env))) _ _ s
 refine wc (yZ (YR (use:=some (assign (.Name y py) X.env)) (Q:=λ_ s'=>SP X pz D .next s') rL hs hclos hkind hnames
  (V0 (RR:=λacc C=>compPost (model X.prog X.w) X.A X.xe (some (assign (.Name y py) X.env)) (λ_ s'=>SP X pz D .next s') acc C) hc hcl hcap hnm hcell hkind hi hb I h ?_)) (λ_ s' hq=>wj (wj hq)) λ_ _ e=>e)
 intro DD C H' s' I' ⟨f0,f1,f2,f3,f4,f5⟩ ⟨m,hm⟩ q
 show wpAny _ _ (assign (.Name y py) X.env (.ref DD)) _ _ s'
 refine wpAny_assign_Name (Jo (v:=.ref DD) I' hN hiN (.inl hy) rL (λs'' I'' ⟨a,sa,ha⟩=>?_) (.inr hy))
 have hCa:C≠a:=by
  rcases ha with rfl | ha
  ·exact f1
  ·exact λz=>f4 y a ha z.symm
 exact⟨m,hm.sameBut sa hCa,λh' sb=>⟨_,H',I''.turned (t':=s''.toks) (λb o hb e=>(sb.2 b hb).trans e) f0 f1 f3 f4 f5,q⟩⟩
end
section
variable {X:Cx}
theorem zbI:∀{bs:List Bool}{us:List Value}{i:Nat}{v:Value},xa (bs.map V.bl) us->us[i]? = some v->∃b,bs[i]? = some b/\v = .bool b
 | [],_,_,_,r,e=>by cases r;simp at e
 | b::bs,_,i,v,r,e=>by
  cases r with
  | cons h t =>
   cases i with
   | zero=>simp at e;subst e;exact⟨b,rfl,h⟩
   | succ i=>obtain⟨c,e1,e2⟩:=zbI (i:=i) t (by simpa using e);exact⟨c,by simpa using e1,e2⟩
theorem VR:∀(bs:List Bool) (k:Nat),((List.range' k bs.length).all λi=>(bs[i - k]?).getD true)=bs.all id
 | [],k=>rfl
 | b::bs,k=>by
  rw[ww,List.range'_succ,List.all_cons,List.all_cons]
  simp only[Wg,List.getElem?_cons_zero,Y3,id]
  congr 1
  rw[<-VR bs (k+1)]
  apply uR.mpr
  simp only[Y2,List.mem_range'_1]
  constructor
  ·intro h i hi
   have:=h i hi
   rw[show i - k=(i - (k+1))+1 by lia,uH]at this;exact this
  ·intro h i hi
   rw[show i - k=(i - (k+1))+1 by lia,uH];exact h i hi
theorem Vg (hc:X.calm=true):vi X (.builtin "all") (λxs H Q=>∃(p:Addr) (bs:List Bool),xs=[.ref p]/\SqL X.K H p (bs.map V.bl)/\Q (.bl (bs.all id)) H):=by
 intro pz s σ H xs us Q I r h
 obtain⟨p,bs,rfl,hq,q⟩:=h
 obtain⟨u,rfl,ru⟩:=ZU r
 cases ru
 obtain⟨its,rv,pl,_⟩:=I.list hq
 have hlt:p<s.heap.objs.size:=by obtain⟨o,n,e,_⟩:=pl;exact wB e
 have hl:=rv.length
 rw[we]at hl
 refine call_all_walk (YO pl.isList ⟨s.heap.objs.size,_,_,_,_,_,λi=>(bs[i]?).getD true,rL,Walks.list (A:=X.A.in1) (show X.A.in1.handled=none from I.ok.hd hc) s.heap.objs.size p (wS hlt) its.toArray,
  ⟨⟨_,wE _ rfl,rfl,rfl⟩,pl.isList.push _⟩,λi v s' Q' E' hv hQ'=>?_,λh' tk k=>⟨.bl (bs.all id),H,I.kept λb o e=>k b o (by simpa using wS (wB e)) (wf _ e),?_,q⟩⟩)
 ·obtain⟨b,e1,rfl⟩:=zbI rv (by simpa using hv)
  simp only[e1,Y3]at hQ'
  exact wj hQ'
 ·have:=VR bs 0
  simp only[Nat.sub_zero]at this
  rw[show its.toArray.size=bs.length by simp[hl],List.range_eq_range',this];rfl
def zdz (K:Fg) (a:Addr) (i j:Int):Prop:=∃o t u n,K.lookup a=some o/\o.cls = .type "tuple"/\o.data = .seq #[.int i t,.int j u] n
inductive zhr (K:Fg) (x:V) (y:V) (H:Hp) (Q:VK):Prop
 | mk:∀d a i j,(RdD H x d)->(y = .ref a)->(zdz K a i j)->(SeqAt.shaped d=true)->(Q (.bl (PyData.eqv d (.tuple [.int i,.int j]))) H)->zhr K x y H Q
def zgF (K:Fg):R2:=λx y H Q=>zhr K x y H Q
theorem ziM (hu:X.A.units+64<cLine):OpR X (compareOp .Eq) (zgF X.K):=by
 intro pz s σ H x y v u Q I rx ry h
 obtain⟨d,a,i,j,hd,rfl,⟨o,t1,t2,n,hk,h1,h2⟩,s1,q⟩:=h
 obtain⟨as,r1⟩:=hd.reads I rx
 cases(show u=Value.ref a from ry)
 have r2:Reads s.heap (.ref a) (.tuple [.int i,.int j]) _:=.tuple (I.kIn _ _ hk) h1 h2 (.cons (.int i t1) (.cons (.int j t2) .nil))
 exact eq_dataH r1 r2 s1 rL hu ⟨.bl _,H,I,rL,q⟩
end
end L2
namespace HT
open PySem PyProof.Rows
end HT
namespace L2
open PySem PySem.Spec PyProof.Rows
section
variable {J:It}{D:Addr}{N n:Nat}{js:List Nat}{σ:St}{g:TG}{tt:TT}{te:TE}{Q:VK}{H:Hp}
theorem XR (Pv:Nat->Hp->List V->Prop) (h0:Pv 0 (upd H D (.lst [])) []) (hgo:∀i H ys,i<N->Pv i H ys->J.go i H) (hst:∀H ys,Pv N H ys->J.stop N H)
  (hs:∀i x zs H2 H3 ys (Nx:Hp->List V->Prop),(∀H ys,Pv (i+1) H ys->Nx H ys)->i<N->zs.length=n->J.yld i H2 x H3->Pv i H2 ys->H2 D=some (.lst ys)->g x zs H3 λσ4 H4=>tt σ4 H4 λb H5 =>
   if b=true then te σ4 H5 (λv H6=>H6 D=some (.lst ys)/\ys.length<sizeLine/\Nx (upd H6 D (.lst (ys++[v]))) (ys++[v]))else H5 D=some (.lst ys)/\Nx H5 ys)
  (hd:∀H ys,Pv N H ys->H D=some (.lst ys)->Q (.ref D) H) :
  ∃W:Nat->Nat->Hp->List V->Prop,(∃m,W 0 m (upd H D (.lst [])) [])/\∀i m H2 ys,W i m H2 ys->H2 D=some (.lst ys)->(J.stop i H2/\Q (.ref D) H2) ∨
   (J.go i H2/\∀σB x H3,σB.length=n->J.yld i H2 x H3->g x σB H3 λσ4 H4=>tt σ4 H4 λb H5=>if b=true then te σ4 H5 (λv H6=>H6 D=some (.lst ys)/\ys.length<sizeLine/\∃m',m'<m/\W (i+1) m' (upd H6 D (.lst (ys++[v]))) (ys++[v]))
    else H5 D=some (.lst ys)/\∃m',m'<m/\W (i+1) m' H5 ys):=by
 refine⟨λi m H ys=>m=N - i/\i<=N/\Pv i H ys,⟨N,by simp,w8 _,h0⟩,?_⟩
 rintro i m H2 ys ⟨rfl,hi,p⟩ hD
 by_cases hlt:i<N
 ·exact .inr ⟨hgo i H2 ys hlt p,λσB x H3 hB y=>hs i x σB H2 H3 ys (λH' ys'=>∃m',m'<N - i/\(m'=N - (i+1)/\i+1<=N/\Pv (i+1) H' ys')) (λH' ys' z=>⟨N - (i+1),by lia,rfl,hlt,z⟩) hlt hB y p hD⟩
 ·obtain rfl:i=N:=by lia
  exact .inl ⟨hst H2 ys p,hd H2 ys p hD⟩
theorem ZE (Pv:Nat->Hp->List V->Prop) (h0:Pv 0 (upd H D (.lst [])) []) (hgo:∀i H ys,i<N->Pv i H ys->J.go i H) (hst:∀H ys,Pv N H ys->J.stop N H)
  (hs:∀i x zs H2 H3 ys (Nx:Hp->List V->Prop),(∀H ys,Pv (i+1) H ys->Nx H ys)->i<N->zs.length=n->J.yld i H2 x H3->Pv i H2 ys->H2 D=some (.lst ys)->g x (zs++qF σ js) H3 λσ4 H4=>σ4.drop n=qF σ js/\tt σ4 H4 λb H5 =>
   if b=true then te σ4 H5 (λv H6=>H6 D=some (.lst ys)/\ys.length<sizeLine/\Nx (upd H6 D (.lst (ys++[v]))) (ys++[v]))else H5 D=some (.lst ys)/\Nx H5 ys)
  (hd:∀H ys,Pv N H ys->H D=some (.lst ys)->Q (.ref D) H) :
  ∃W:Nat->Nat->Hp->List V->Prop,(∃m,W 0 m (upd H D (.lst [])) [])/\∀i m H2 ys,W i m H2 ys->H2 D=some (.lst ys)->(J.stop i H2/\Q (.ref D) H2) ∨
   (J.go i H2/\∀zs x H3,zs.length=n->J.yld i H2 x H3->g x (zs++qF σ js) H3 λσ4 H4=>σ4.drop n=qF σ js/\tt σ4 H4 λb H5=>if b=true then te σ4 H5 (λv H6=>H6 D=some (.lst ys)/\ys.length<sizeLine/\∃m',m'<m/\W (i+1) m' (upd H6 D (.lst (ys++[v]))) (ys++[v]))
    else H5 D=some (.lst ys)/\∃m',m'<m/\W (i+1) m' H5 ys):=by
 refine⟨λi m H ys=>m=N - i/\i<=N/\Pv i H ys,⟨N,by simp,w8 _,h0⟩,?_⟩
 rintro i m H2 ys ⟨rfl,hi,p⟩ hD
 by_cases hlt:i<N
 ·exact .inr ⟨hgo i H2 ys hlt p,λσB x H3 hB y=>hs i x σB H2 H3 ys (λH' ys'=>∃m',m'<N - i/\(m'=N - (i+1)/\i+1<=N/\Pv (i+1) H' ys')) (λH' ys' z=>⟨N - (i+1),by lia,rfl,hlt,z⟩) hlt hB y p hD⟩
 ·obtain rfl:i=N:=by lia
  exact .inl ⟨hst H2 ys p,hd H2 ys p hD⟩
end
theorem JS {H H2 H3:Hp}{D:Addr}{o:HO}(hD:H D=none) (e:zi H H2) (e2:zi H2 H3):zi H (upd H3 D o):=λb u z=>by rw[zO (zQ z hD)];exact e2 _ _ (e _ _ z)
section
variable {prog:Program}{w:World}{A:Around}{E:Value->Shared->Prop}{s:Shared}
theorem zdI {t b:Addr}{ws:List Value}{Q:Value->Shared->Prop}(ht:IsTup s.heap t ([]:List Value).toArray) (hb:IsTup s.heap b ws.toArray) (h0:Q (.ref b) s):wpAny (model prog w) A (binaryOp .Add (.ref t) (.ref b)) Q E s:=by
 obtain⟨⟨cls,dd,data,sl⟩,ho,hc,n,hd⟩:=id ht
 obtain⟨⟨cls2,dd2,data2,sl2⟩,ho2,hc2,n2,hd2⟩:=id hb
 simp only at hc hd hc2 hd2
 subst hc hd hc2 hd2
 exact concat_meets ⟨_,ho,rL⟩ ⟨_,ho2,rL⟩ noFill_tuple_add seq_tuple_add WT WJ (WB _ _)
   (tuple_addW0 t b ([]:List Value).toArray ws.toArray n n2 dd dd2 sl sl2 (by simp)) ⟨ho,ho2,h0⟩
end
inductive zeO (K:Fg) (x:V) (y:V) (H:Hp) (Q:VK):Prop
 | mk:∀a b xs ys,(x = .ref a)->(y = .ref b)->(SqT K H a xs)->(SqT K H b ys)->(xs.length+ys.length<=sizeLine)->((xs=[]->Q (.ref b) H))->((xs≠[]->ys=[]->Q (.ref a) H))->((xs≠[]->ys≠[]->∀p,H p=none->Q (.ref p) (upd H p (.tup (xs++ys)))))->zeO K x y H Q
def zkf (K:Fg):R2:=λx y H Q=>zeO K x y H Q
theorem zgu {X:Cx}:OpR X (binaryOp .Add) (zkf X.K):=by
 intro pz s σ H x y v u Q I rx ry h
 have h':=h
 obtain⟨a,b,xs,ys,rfl,rfl,ha,hb,hz,q0,q1,q2⟩:=h'
 by_cases hx:xs=[]
 ·cases rx
  cases ry
  obtain⟨its,r1,p1,_⟩:=I.tuple ha
  obtain⟨its2,r2,p2,_⟩:=I.tuple hb
  subst hx
  cases r1
  exact zdI p1 p2 ⟨.ref b,H,I,rL,q0 rL⟩
 ·exact zgv pz s σ H _ _ v u Q I rx ry ⟨a,b,xs,ys,rL,rL,ha,hb,hx,hz,q1 hx,q2 hx⟩
mutual
theorem RdD.same {H H':Hp}(e:zi H H'):∀{v:V}{d:PyData},RdD H v d->RdD H' v d
 | _,_,.non=>.non
 | _,_,.bl b=>.bl b
 | _,_,.int i=>.int i
 | _,_,.str x=>.str x
 | _,_,.tup h r=>.tup (e _ _ h) (Zg.same e r)
 | _,_,.lst h r=>.lst (e _ _ h) (Zg.same e r)
theorem Zg.same {H H':Hp}(e:zi H H'):∀{vs:List V}{ds:List PyData},Zg H vs ds->Zg H' vs ds
 | _,_,.nil=>.nil
 | _,_,.cons h t=>.cons (RdD.same e h) (Zg.same e t)
end
theorem szl {n:Nat}(h:n<=1000):n<=sizeLine:=Yt (vz h)
inductive Bx (p:Prop):Prop
 | mk (h:p):Bx p
section
variable {X:Cx}
theorem xF {st:Stmt}{rest:List Stmt}{t u:TS}(h1:Bx (PS X st t)) (h2:Bx (PSs X rest u)):Bx (PSs X (st::rest) (zbz t u)):=by
 obtain⟨h1⟩:=h1;obtain⟨h2⟩:=h2;exact⟨ze h1 h2⟩
end
section
variable {P:Program}{w:World}{K:Fg}{mg:Str->Option Value}{base:Heap}
theorem Df.calB {x:Str}{st:Stmt}{N ps:List Str}{dvs:List V}{k:Nat}{sp:Sp}(D:Df K mg x st ps dvs) (S:zA N ps (zk st)) (len:∀vs H Q E,sp vs H Q E->vs.length=ps.length)
  (hbody:∀(f:Addr) (cdv:Value) (A:Around) (outer:List Env) (s:Shared) (H:Hp) (vs:List V) (Q:VK) (E:XK),z6 k (A.deeper (envOfC x (zk st) s.heap.objs.size f cdv))->sp vs H Q E →
   ∃t,Bx (PSs (zU CX0 P w K mg base N x (zk st) f cdv A outer s H E).nox (zZ st) t)/\t { nx:=λ_ H'=>Q .non H',rt:=Q } (vv N vs) H):Cal P w K mg base x (k+1) ps dvs sp :=
 D.cal S len λf cdv A outer s H vs Q E hr h=>by
  obtain⟨t,⟨p⟩,q⟩:=hbody f cdv A outer s H vs Q E hr h
  exact⟨t,p,q⟩
theorem Df.calBq {x:Str}{st:Stmt}{N ps:List Str}{dvs:List V}{k:Nat}{sp:Sp}(D:Df K mg x st ps dvs) (S:zA N ps (zk st))
  (hbody:∀(f:Addr) (cdv:Value) (A:Around) (outer:List Env) (s:Shared) (H:Hp) (vs:List V) (Q:VK) (E:XK),z6 k (A.deeper (envOfC x (zk st) s.heap.objs.size f cdv))->sp vs H Q E →
   ∃t,Bx (PSs (zU CX0 P w K mg base N x (zk st) f cdv A outer s H E).nox (zZ st) t)/\t { nx:=λ_ H'=>Q .non H',rt:=Q } (vv N vs) H) (len:∀vs H Q E,sp vs H Q E->vs.length=ps.length:=by intro _ _ _ _ h;repeat (first | (cases h;subst_vars;rfl) | (obtain⟨rfl,_⟩:=h;rfl) | (obtain⟨_,h⟩:=h))):Cal P w K mg base x (k+1) ps dvs sp:=D.calB S len hbody
end
abbrev zdy:List Value:=[.type "ValueError",.type "Exception",.type "BaseException",.type "object"]
open PySem.W
def xp (H H':Hp):Prop:=∀b xs,H b=some (.tup xs)->H' b=some (.tup xs)
theorem xp.of {H H':Hp}(h:zi H H'):xp H H':=λb xs e=>h b _ e
theorem xp.trans {H H1 H2:Hp}(a:xp H H1) (b:xp H1 H2):xp H H2:=λc xs e=>b c xs (a c xs e)
theorem xp.upd {H:Hp}{D:Addr}{ys:List V}{o:HO}(h:H D=some (.lst ys)):xp H (upd H D o):=λb xs e=>by rw[zO (λz=>by subst z;rw[h]at e;cases e)];exact e
structure J9 (J:It) (H:Hp) (xs:List V):Prop where
 go:∀i H',i<xs.length->zi H H'->J.go i H'
 stop:∀H',zi H H'->J.stop xs.length H'
 yld:∀i x H2 H3,zi H H2->J.yld i H2 x H3->H3=H2/\xs[i]? = some x
theorem xA {K:Fg}{H:Hp}{a:Addr}{xs:List V}(h:H a=some (.lst xs)):J9 (Itl K a) H xs :=
 ⟨λi H' hi s=>⟨xs,xs[i],.of (s _ _ h),by simp[hi]⟩,λH' s=>⟨xs,.of (s _ _ h),wg _⟩,λi x H2 H3 s y=>⟨y.1,y.2 xs (.of (s _ _ h))⟩⟩
theorem Vt {K:Fg}{H:Hp}{a:Addr}{xs:List V}(h:H a=some (.tup xs)):J9 (Itt K a) H xs :=
 ⟨λi H' hi s=>⟨xs,xs[i],.of (s _ _ h),by simp[hi]⟩,λH' s=>⟨xs,.of (s _ _ h),wg _⟩,λi x H2 H3 s y=>⟨y.1,y.2 xs (.of (s _ _ h))⟩⟩
section
variable {J:It}{D:Addr}{n:Nat}{js:List Nat}{σ:St}{g:TG}{te:TE}{Z:Hp->Prop}{H:Hp}{xs:List V}
theorem v6 (R:Nat->V->Hp->Prop) (hR:∀i v H H',xp H H'->R i v H->R i v H') (hD:H D=none) (hJ:J9 J H xs) (hl:xs.length<sizeLine)
  (hs:∀i x zs H2 Q',xs[i]? = some x->zs.length=n->zi H H2->(∀v H6,zi H2 H6->R i v H6->Q' v H6)->g x zs H2 λσ4 H4=>te σ4 H4 Q')
  (k:∀ys H',zi H H'->H' D=some (.lst ys)->ys.length=xs.length->(∀i v,ys[i]? = some v->R i v H')->Z H') :
  ∃W:Nat->Nat->Hp->List V->Prop,(∃m,W 0 m (upd H D (.lst [])) [])/\∀i m H2 ys,W i m H2 ys->H2 D=some (.lst ys)->(J.stop i H2/\Z H2) ∨
   (J.go i H2/\∀σB x H3,σB.length=n->J.yld i H2 x H3->g x σB H3 λσ4 H4=>(λ_ H Q=>Q true H:TT) σ4 H4 λb H5=>if b=true then te σ4 H5 (λv H6=>H6 D=some (.lst ys)/\ys.length<sizeLine/\∃m',m'<m/\W (i+1) m' (upd H6 D (.lst (ys++[v]))) (ys++[v]))
    else H5 D=some (.lst ys)/\∃m',m'<m/\W (i+1) m' H5 ys):=by
 refine XR (Q:=λ_ H=>Z H) (tt:=λ_ H Q=>Q true H) (N:=xs.length) (λi H2 ys=>zi H H2/\ys.length=i/\∀j v,ys[j]? = some v->R j v H2) ⟨zi.upd hD,rfl,λj v e=>by simp at e⟩ (λi H2 ys hi p=>hJ.go i H2 hi p.1) (λH2 ys p=>hJ.stop H2 p.1) ?_ (λH2 ys p e=>k ys H2 p.1 e p.2.1 p.2.2)
 rintro i x zs H2 H3 ys Nx hN hi hz hy ⟨s2,hyl,hyR⟩ hD2
 obtain⟨rfl,hx⟩:=hJ.yld i x H2 H3 s2 hy
 refine hs i x zs H3 _ hx hz s2 λv H6 s6 r6=>⟨s6 _ _ hD2,by lia,hN _ _ ⟨λc o e=>?_,by simp[hyl],λj u e=>?_⟩⟩
 ·rw[zO (zQ e hD)];exact s6 _ _ (s2 _ _ e)
 ·have T6:xp H6 (upd H6 D (.lst (ys++[v]))):=.upd (s6 _ _ hD2)
  by_cases hj:j<ys.length
  ·rw[wU hj]at e
   exact hR _ _ _ _ ((xp.of s6).trans T6) (hyR j u e)
  ·rw[wN ∅]at e
   have:j - ys.length=0:=by
    rcases uD (j - ys.length)with z | z
    ·exact z
    ·rw[yJ (by simp;lia)]at e;cases e
   rw[this]at e
   simp at e
   subst e
   rw[show j=i by lia]
   exact hR _ _ _ _ T6 r6
theorem xY (R:Nat->V->Hp->Prop) (hR:∀i v H H',xp H H'->R i v H->R i v H') (hD:H D=none) (hJ:J9 J H xs) (hl:xs.length<sizeLine)
  (hs:∀i x zs H2 Q',xs[i]? = some x->zs.length=n->zi H H2->(∀v H6,zi H2 H6->R i v H6->Q' v H6)->g x (zs++qF σ js) H2 λσ4 H4=>σ4.drop n=qF σ js/\te σ4 H4 Q')
  (k:∀ys H',zi H H'->H' D=some (.lst ys)->ys.length=xs.length->(∀i v,ys[i]? = some v->R i v H')->Z H') :
  ∃W:Nat->Nat->Hp->List V->Prop,(∃m,W 0 m (upd H D (.lst [])) [])/\∀i m H2 ys,W i m H2 ys->H2 D=some (.lst ys)->(J.stop i H2/\Z H2) ∨
   (J.go i H2/\∀zs x H3,zs.length=n->J.yld i H2 x H3->g x (zs++qF σ js) H3 λσ4 H4=>σ4.drop n=qF σ js/\(λ_ H Q=>Q true H:TT) σ4 H4 λb H5=>if b=true then te σ4 H5 (λv H6=>H6 D=some (.lst ys)/\ys.length<sizeLine/\∃m',m'<m/\W (i+1) m' (upd H6 D (.lst (ys++[v]))) (ys++[v]))
    else H5 D=some (.lst ys)/\∃m',m'<m/\W (i+1) m' H5 ys):=by
 refine ZE (Q:=λ_ H=>Z H) (tt:=λ_ H Q=>Q true H) (N:=xs.length) (λi H2 ys=>zi H H2/\ys.length=i/\∀j v,ys[j]? = some v->R j v H2) ⟨zi.upd hD,rfl,λj v e=>by simp at e⟩ (λi H2 ys hi p=>hJ.go i H2 hi p.1) (λH2 ys p=>hJ.stop H2 p.1) ?_ (λH2 ys p e=>k ys H2 p.1 e p.2.1 p.2.2)
 rintro i x zs H2 H3 ys Nx hN hi hz hy ⟨s2,hyl,hyR⟩ hD2
 obtain⟨rfl,hx⟩:=hJ.yld i x H2 H3 s2 hy
 refine hs i x zs H3 _ hx hz s2 λv H6 s6 r6=>⟨s6 _ _ hD2,by lia,hN _ _ ⟨λc o e=>?_,by simp[hyl],λj u e=>?_⟩⟩
 ·rw[zO (zQ e hD)];exact s6 _ _ (s2 _ _ e)
 ·have T6:xp H6 (upd H6 D (.lst (ys++[v]))):=.upd (s6 _ _ hD2)
  by_cases hj:j<ys.length
  ·rw[wU hj]at e
   exact hR _ _ _ _ ((xp.of s6).trans T6) (hyR j u e)
  ·rw[wN ∅]at e
   have:j - ys.length=0:=by
    rcases uD (j - ys.length)with z | z
    ·exact z
    ·rw[yJ (by simp;lia)]at e;cases e
   rw[this]at e
   simp at e
   subst e
   rw[show j=i by lia]
   exact hR _ _ _ _ T6 r6
end
section
variable {J:It}{D:Addr}{n:Nat}{σ:St}{g:TG}{tt:TT}{te:TE}{Z:Hp->Prop}{H:Hp}{xs:List V}
theorem zdK (p:V->Bool) (hD:H D=none) (hJ:J9 J H xs) (hl:xs.length<sizeLine)
  (hs:∀(i:Nat) (x:V) (zs:St) (H2:Hp) (A:VK) (B:Hp->Prop),xs[i]? = some x->zs.length=n->zi H H2->(p x=true->A x H2)->(p x=false->B H2)->g x zs H2 λσ4 H4=>tt σ4 H4 λb H5=>if b=true then te σ4 H5 A else B H5)
  (k:∀H',zi H H'->H' D=some (.lst (xs.filter p))->Z H') :
  ∃W:Nat->Nat->Hp->List V->Prop,(∃m,W 0 m (upd H D (.lst [])) [])/\∀i m H2 ys,W i m H2 ys->H2 D=some (.lst ys)->(J.stop i H2/\Z H2) ∨
   (J.go i H2/\∀σB x H3,σB.length=n->J.yld i H2 x H3->g x σB H3 λσ4 H4=>tt σ4 H4 λb H5=>if b=true then te σ4 H5 (λv H6=>H6 D=some (.lst ys)/\ys.length<sizeLine/\∃m',m'<m/\W (i+1) m' (upd H6 D (.lst (ys++[v]))) (ys++[v]))
    else H5 D=some (.lst ys)/\∃m',m'<m/\W (i+1) m' H5 ys):=by
 refine XR (Q:=λ_ H=>Z H) (tt:=tt) (N:=xs.length) (λi H2 ys=>zi H H2/\ys=(xs.take i).filter p) ⟨zi.upd hD,rfl⟩ (λi H2 ys hi p=>hJ.go i H2 hi p.1) (λH2 ys p=>hJ.stop H2 p.1) ?_ (λH2 ys q e=>k H2 q.1 (by rw[e,q.2,yt]))
 rintro i x zs H2 H3 ys Nx hN hi hz hy ⟨s2,rfl⟩ hD2
 obtain⟨rfl,hx⟩:=hJ.yld i x H2 H3 s2 hy
 have et:xs.take (i+1)=xs.take i++[x]:=by rw[yE,hx];rfl
 refine hs i x zs H3 _ _ hx hz s2 (λhp=>⟨hD2,?_,hN _ _ ⟨λc o e=>?_,?_⟩⟩) (λhp=>⟨hD2,hN _ _ ⟨s2,?_⟩⟩)
 ·have:=Wh p (xs.take i)
  have:=List.length_take_le i xs
  lia
 ·rw[zO (zQ e hD)];exact s2 _ _ e
 ·rw[et,uE];simp[hp]
 ·rw[et,uE];simp[hp]
end
end L2
namespace KM
theorem ZW {a b d:Int}(hd:0<d):Rat.divInt a d<Rat.divInt b d↔a<b:=by
 rw[yk,yk]
 have h:(0:Rat)<d:=wX.mpr hd
 rw[Rat.div_lt_iff h,Rat.div_mul_cancel (by grind)];exact Rat.intCast_lt_intCast
theorem XS (d:Int):Rat.divInt 0 d=0:=by simp
theorem qp {a d:Int}(hd:0<d):0<Rat.divInt a d↔0<a:=by
 have:=ZW (a:=0) (b:=a) hd
 rw[XS]at this;exact this
theorem zcP {a d:Int}(hd:0<d) (h:0<=a):0<=Rat.divInt a d:=by
 have:=ZW (a:=a) (b:=0) hd
 rw[XS]at this
 rw[<-Rat.not_lt,this];lia
end KM
namespace L2
open PySem PySem.Spec PyProof.Rows
section
variable {κ:Type} [DecidableEq κ]
def Zw (kvs:List (κ×V)) (k:κ):Option V:=(kvs.find? λkv=>decide (kv.1=k)).map (·.2)
def zaA (kvs:List (κ×V)) (k:κ) (v:V):List (κ×V) :=
 if(kvs.any λkv=>decide (kv.1=k))=true then kvs.map (λkv=>if kv.1=k then(kv.1,v)else kv)else kvs++[(k,v)]
theorem Qh {p:κ×V}{r:List (κ×V)}{k:κ}(e:p.1=k):Zw (p::r) k=some p.2:=by simp[Zw,uK,e]
theorem Qg {p:κ×V}{r:List (κ×V)}{k:κ}(e:¬p.1=k):Zw (p::r) k=Zw r k:=by simp[Zw,uK,e]
theorem zaO (k:κ):∀kvs:List (κ×V),(kvs.any λkv=>decide (kv.1=k))=(Zw kvs k).isSome
 | []=>rfl
 | p::r=>by
  rw[YV]
  by_cases e:p.1=k
  ·simp only[Qh e,wm e,Bool.true_or,Option.isSome_some]
  ·rw[Qg e,wA e,Bool.false_or];exact zaO k r
theorem zao (kvs:List (κ×V)) (k:κ) (v:V):(zaA kvs k v).length<=kvs.length+1:=by
 unfold zaA
 split
 ·rw[we];lia
 ·rw[wI,ww,Y7];lia
theorem KV.val {kvs:List (κ×V)}{vs:List (κ×Value)} (r:KV kvs vs) (k:κ):Vf (Zw kvs k) (valueAt vs k):=by
 unfold KV at r
 induction r with
 | nil=>exact True.intro
 | @cons p q ps qs h t ih =>
  obtain⟨h1,h2⟩:=h
  by_cases e:p.1=k
  ·have e':q.1=k:=h1.symm.trans e
   have b:valueAt (q::qs) k=some q.2:=by simp[valueAt,uK,e']
   rw[Qh e,b];exact h2
  ·have e':¬q.1=k:=λz=>e (h1.trans z)
   have b:valueAt (q::qs) k=valueAt qs k:=by simp[valueAt,uK,e']
   rw[Qg e,b];exact ih
theorem KV.any {kvs:List (κ×V)}{vs:List (κ×Value)} (r:KV kvs vs) (k:κ):(kvs.any λkv=>decide (kv.1=k))=vs.any λkv=>decide (kv.1=k):=by
 unfold KV at r
 induction r with
 | nil=>rfl
 | cons h t ih=>rw[YV,YV,ih,h.1]
theorem KV.repl {kvs:List (κ×V)}{vs:List (κ×Value)} (r:KV kvs vs) (k:κ){y:V}{u:Value}(ry:xi y u) :
  KV (kvs.map λkv=>if kv.1=k then(kv.1,y)else kv) (vs.map λkv=>if kv.1=k then(kv.1,u)else kv):=by
 unfold KV at r ⊢
 induction r with
 | nil=>exact .nil
 | @cons p q ps qs h t ih =>
  rw[yA,yA]
  refine .cons ?_ ih
  obtain⟨h1,h2⟩:=h
  by_cases e:p.1=k
  ·rw[if_pos e,if_pos (h1.symm.trans e)];exact⟨h1,ry⟩
  ·rw[if_neg e,if_neg (λz=>e (h1.trans z))];exact⟨h1,h2⟩
theorem KV.put {kvs:List (κ×V)}{vs:List (κ×Value)} (r:KV kvs vs) (k:κ){y:V}{u:Value}(ry:xi y u):KV (zaA kvs k y) (stored vs k u):=by
 unfold zaA stored
 rw[r.any k]
 by_cases e:(vs.any λkv=>decide (kv.1=k))=true
 ·rw[if_pos e,if_pos e];exact r.repl k ry
 ·rw[if_neg e,if_neg e];exact Paired.snoc r ⟨rfl,ry⟩
theorem KV.keys {kvs:List (κ×V)}{vs:List (κ×Value)} (r:KV kvs vs):kvs.map (·.1)=vs.map (·.1):=by
 unfold KV at r
 induction r with
 | nil=>rfl
 | cons h t ih=>rw[yA,yA,ih,h.1]
theorem KV.length {kvs:List (κ×V)}{vs:List (κ×Value)} (r:KV kvs vs):kvs.length=vs.length:=Paired.length r
end
theorem zei {P:Program}{w:World}{k:Key}{u:Value}(r:xi (kV k) u):(xU P w).is k u=true:=by
 cases k with
 | inl i=>obtain⟨t,e⟩:=(show ∃t,u=Value.int i t from r);subst e;exact zap P w i t
 | inr x=>obtain⟨t,e⟩:=(show ∃t,u=Value.str x t from r);subst e;exact zaq P w x t
theorem Jb {P:Program}{w:World}:∀{ks:List Key}{us:List Value},xa (ks.map kV) us->ItemsAre (xU P w) ks us
 | [],_,r=>by rw[List.map_nil]at r;cases r;exact .nil
 | k::ks,_,r=>by
  rw[yA]at r
  cases r with
  | cons h t=>exact .cons (zei h) (Jb t)
abbrev KT (H:Hp):List (List Key×V)->List (List Key×Addr×Value)->Prop:=Paired λp q=>p.1=q.1/\H q.2.1=some (.tup (p.1.map kV))/\xi p.2 q.2.2
theorem KT.val {H:Hp}{kvs:List (List Key×V)}{xs:List (List Key×Addr×Value)} (r:KT H kvs xs) (k:List Key):Vf (Zw kvs k) ((atKey xs k).map (·.2)):=by
 induction r with
 | nil=>exact True.intro
 | @cons p q ps qs h t ih =>
  obtain⟨h1,_,h2⟩:=h
  by_cases e:p.1=k
  ·have e':q.1=k:=h1.symm.trans e
   have b:atKey (q::qs) k=some q.2:=by simp[atKey,uK,e']
   rw[Qh e,b];exact h2
  ·have e':¬q.1=k:=λz=>e (h1.trans z)
   have b:atKey (q::qs) k=atKey qs k:=by simp[atKey,uK,e']
   rw[Qg e,b];exact ih
section
variable {P:Program}{w:World}{H:Hp}{h:Heap}{a:Addr}
theorem zhv {u:HO}(ok:HOk P w H h) (e:Rd H a u):xE P w H h a u:=e.ok ok
theorem zdR {kvs:List (Key×V)} (ok:HOk P w H h) (e:Rd H a (.dK kvs)):kvs.length<=sizeLine/\(a == sysModules)=false/\∃vs,KV kvs vs/\h.DictOf (xU P w) a vs :=
 show xE P w H h a (.dK kvs)from zhv ok e
theorem zdQ {kvs:List (Key×V)} (ok:HOk P w H h) (e:H a=some (.dK kvs)):kvs.length<=sizeLine/\(a == sysModules)=false/\∃vs,KV kvs vs/\h.DictOf (xU P w) a vs:=zdR ok (.inl e)
theorem zej {ks:List Key}(ok:HOk P w H h) (e:H a=some (.tup (ks.map kV))):(tupleKind (xU P w)).is h ks a:=by
 obtain⟨_,its,r,o,h1,h2,n,h3⟩:=(show xE P w H h a (.tup (ks.map kV))from ok a _ e)
 exact⟨o,its.toArray,n,h1,h2,h3,by simpa using Jb r⟩
theorem zhj {kvs:List (List Key×V)} (ok:HOk P w H h) (e:Rd H a (.dT kvs)):kvs.length<=sizeLine/\(a == sysModules)=false ∧
  ∃xs,KT H kvs xs/\h.DictOfH (tupleKind (xU P w)) a xs:=by
 obtain⟨z,y,xs,r,o,es,ep,h1,h2,h3,h4,h5⟩:=(show xE P w H h a (.dT kvs)from zhv ok e)
 refine⟨z,y,xs,r,o,es,ep,h1,h2,h3,h4,λx hx=>?_,h5⟩
 have all:∀{l:List (List Key×V)}{m:List (List Key×Addr×Value)},KT H l m->∀x∈m,(tupleKind (xU P w)).is h x.1 x.2.1:=by
  intro l m q
  induction q with
  | nil=>intro x hx;exact nomatch hx
  | @cons p q ps qs hq t ih =>
   intro x hx
   rcases wx.mp hx with e | hx
   ·subst e
    exact zej ok (by rw[<-hq.1];exact hq.2.1)
   ·exact ih x hx
 exact all r x hx
end
def zaR (H:Hp) (a:Addr) (y:V) (r:Option V):Prop :=
 (∃kvs k,Rd H a (.dK kvs)/\y=kV k/\r=Zw kvs k)\/∃kvs k b,Rd H a (.dT kvs)/\y = .ref b/\H b=some (.tup (k.map kV))/\r=Zw kvs k
theorem zaR.k {H:Hp}{a:Addr}{kvs:List (Key×V)}{k:Key}(e:H a=some (.dK kvs)):zaR H a (kV k) (Zw kvs k):=.inl ⟨kvs,k,.inl e,rfl,rfl⟩
section
variable {X:Cx}{pz:List (Addr×Obj)}{σ:St}{H:Hp}{s:Shared}{a:Addr}{y v:V}{u r:Value}{o:Option V}{A:Around}{E:Value->Shared->Prop}
theorem Inv.big (I:Inv X pz σ H s):sysModules<s.heap.objs.size:=by
 have h:mainGlobals<s.heap.objs.size:=(I.mod.glob.keeps I.bk).lt
 exact Nat.lt_trans (by decide) h
theorem zcN {Q:Value->Shared->Prop}(hu:A.units+1<cLine) (I:Inv X pz σ H s) (g:zaR H a y (some v)) (ry:xi y u) (h:∀w' s',Inv X pz σ H s'->xi v w'->Q w' s') :
  wpAny (model X.prog X.w) A (getItem (.ref a) u) Q E s:=by
 rcases g with⟨kvs,k,e,ey,l⟩ | ⟨kvs,k,b,e,ey,eb,l⟩
 ·subst ey
  obtain⟨z,hd,vs,rel,dd⟩:=zdR I.hok e
  obtain⟨w',hw,rw'⟩:=Vf.some_of (v:=v) (o:=valueAt vs k) (by rw[l];exact rel.val k)
  exact wpAny_getItem_of (zei ry) dd.mapOf hw (h w' _ (I.tok _) rw')
 ·subst ey
  cases(show u=Value.ref b from ry)
  obtain⟨z,hd,xs,rel,dd⟩:=zhj I.hok e
  obtain⟨w',hw,rw'⟩:=Vf.some_of (v:=v) (o:=(atKey xs k).map (·.2)) (by rw[l];exact rel.val k)
  obtain⟨p,hp,hp2⟩:=Option.map_eq_some_iff.mp hw
  refine wpAny_getItem_heap (tupleKind_room_in1 hu) (zej I.hok eb) dd hp ?_
  rw[hp2]
  exact h w' _ (I.tok _) rw'
theorem zfU {h':Heap}{t':Nat}{ob:HO}(I:Inv X pz σ H s) (mu:Mut (H a)) (hs:Heap.SameBut a s.heap h') (he:∃q,h'.get? a=some q) (new:xE X.prog X.w (upd H a ob) h' a ob) :
  Inv X pz σ (upd H a ob) { s with heap:=h',toks:=t' } :=
 I.write (x:=a) (e:=a) mu (.inl rfl) (λb q hb z=>(hs.2 b hb).trans z) he new
theorem za2 {P:Program}{w:World}{H':Hp}{h':Heap}{kvs:List (Key×V)}{vs:List (Key×Value)} (z:kvs.length<=sizeLine) (hd:(a == sysModules)=false) (rel:KV kvs vs) (dd:h'.DictOf (xU P w) a vs) :
  xE P w H' h' a (.dK kvs):=⟨z,hd,vs,rel,dd⟩
end
def zjz (i:Expr):Prop:=∀ov iv,subscripted i false ov iv=operate [ov,iv] (getItem ov iv)
theorem zg6 {prog:Program}{w:World}{A:Around}{E:Value->Shared->Prop}{s:Shared}{env:Env}{value slice:Expr}{pos:Pos}{T id:String}{Q:Value->Shared->Prop}
  (hl:typeLookup (.type T) "__getitem__" = pure (some (.builtin id))) (hs:zjz slice)
  (h:wpAny (model prog w) A (eval value env) (λo s₁=>wpAny (model prog w) A (eval slice env) (λi s₂=>s₂.TypeIs o T/\wpAny (model prog w) A (getItem o i) Q E s₂) E s₁) E s) :
  wpAny (model prog w) A (eval (.Subscript value slice pos) env) Q E s:=by
 refine Subscript_ (yZ h (λo s₁ h₁=>yZ h₁ (λi s₂ h₂=>?_) λ_ _ x=>x) λ_ _ x=>x)
 obtain⟨hT,h₂⟩:=h₂
 unfold subscriptTail
 refine wc ?_
 rw[getitemInPython_of_ne hT.not_modules]
 refine wc (wpAny_specialOf hT hl ?_)
 have fin:wpAny (model prog w) A (subscripted slice false o i) (λr s₃=>wpAny (model prog w) A (letTemporaryGo value o r >>= λ_=>pure r) Q E s₃) E s₂:=by
  rw[hs o i]
  exact wpAny_operating (yZ h₂ (λr s₃ h₃=>wc (wpAny_letTemporaryGo (wj h₃))) λ_ _ x=>x)
 first
  | exact wj (wc fin)
  | exact wc (wj (wc fin))
  | exact wc fin
theorem zae {X:Cx}{pz:List (Addr×Obj)}{σ:St}{H:Hp}{s:Shared}{a:Addr}{y:V}{o:Option V}(I:Inv X pz σ H s) (g:zaR H a y o):s.TypeIs (.ref a) "dict":=by
 rcases g with⟨kvs,k,e,_,_⟩ | ⟨kvs,k,b,e,_,_,_⟩
 ·obtain⟨_,_,vs,_,dd⟩:=zdR I.hok e
  exact dd.typeIs
 ·obtain⟨_,_,xs,_,dd⟩:=zhj I.hok e
  exact dd.typeIs
inductive zfw (Q:VK) (x:V) (y:V) (H2:Hp):Prop
 | mk:∀a v,(x = .ref a)->(zaR H2 a y (some v))->(Q v H2)->zfw Q x y H2
def zky (td ty:TE):TE:=λσ H Q=>td σ H λx H1=>ty σ H1 λy H2=>zfw Q x y H2
section
variable {X:Cx}{o i e value:Expr}{pos pos' tpos:Pos}{td ty tv:TE}
theorem zgy (hu:X.A.units+1<cLine) (ho:PE X o td) (hi:PE X i ty) (hs:zjz i):PE X (.Subscript o i pos) (zky td ty):=by
 intro pz s σ H Q I h
 refine zg6 PySem.F.slot_dict_getitem.lookup hs (thn (ho pz s σ H _ I h) λu s1 ⟨x,H1,I1,rx,q1⟩=>thn (hi pz s1 σ H1 _ I1 q1) λiv s2 ⟨y,H2,I2,ry,a,v,ex,g,q2⟩=>?_)
 subst ex
 obtain rfl:u=Value.ref a:=rx
 exact⟨zae I2 g,zcN hu I2 g ry λw' s3 I3 rw'=>⟨v,H2,I3,rw',q2⟩⟩
end
theorem zdP {P:Program}{w:World}{H:Hp}(h:Heap) (hb:sysModules<h.objs.size):xE P w H (h.push { cls:=.type "dict",data:=.dict #[] }) h.objs.size (.dK []) :=
 ⟨w8 _,beq_eq_false_iff_ne.mpr (Ne.symm (wS hb)),[],.nil,Heap.DictOf.new h⟩
def zjo:TE:=λ_ H Q=>∀p,H p=none->Q (.ref p) (upd H p (.dK []))
section
variable {X:Cx}{pos:Pos}
theorem zeE:PE X (.Dict [] [] pos) zjo:=λpz s σ H Q I h =>
 wpAny_Dict_empty ⟨.ref s.heap.objs.size,_,I.laid (a:=s.heap.objs.size) (o:=.dK []) (t':=s.toks) (λ_ _ q=>wf _ q) (wg _) (zdP s.heap I.big),rfl,h _ (I.hok.fresh (wg _))⟩
end
end L2
namespace Att
open PySem PySem.W PySem.Calls PyProof.Rows
end Att
namespace L2
open PySem PySem.Spec PyProof.Rows
open PySem.W
section
variable {X:Cx}
theorem zcF (hc:X.calm=true):vi X (.builtin "max") (λxs H Q=>∃(p:Addr) (ns:List Int),xs=[.ref p]/\SqL X.K H p (ns.map V.int)/\0<ns.length/\∀M,M∈ns->(∀a,a∈ns->a<=M)->Q (.int M) H):=by
 intro pz s σ H xs us Q I r h
 obtain⟨p,ns,rfl,hq,hne,q⟩:=h
 obtain⟨u,rfl,ru⟩:=ZU r
 cases ru
 obtain⟨its,rv,pl,_⟩:=I.list hq
 have hi:IntsAre its ns:=Xj rv
 obtain⟨ys,e⟩:=hi.allInts.items
 have hl:=pl.isList
 rw[e]at hl
 have hns:ns=ys.toList.map (·.1):=by rw[<-hi.numsOf,<-nums_intItems,<-e]
 have hsz:0<ys.size:=by
  have h3:=hne;rw[hns,we,wJ]at h3;exact h3
 refine max_intList (I.ok.hd hc) hl hsz λv h' tk hv hk=>?_
 obtain⟨t,rfl⟩:=intItems_at hv
 obtain⟨h1,h2⟩:=argBest_gt (numAt ys) (ys.size - 1)
 refine⟨.int _,H,I.kept hk,⟨_,rL⟩,q _ ?_ λa ha=>?_⟩
 ·rw[hns,numAt_eq];exact getD_mem (by rw[we,wJ];omega)
 ·rw[hns]at ha
  obtain⟨j,hj,rfl⟩:=mem_getD ha
  rw[we,wJ]at hj
  rw[<-numAt_eq];exact h2 j (by omega)
end
def zcf:V->List V->Hp->VK->Prop:=λx vs H Q=>∃a kvs k d,x = .ref a/\vs=[kV k,d]/\H a=some (.dK kvs)/\kvs.length<sizeLine/\(∀v,Zw kvs k=some v->Q v H)/\(Zw kvs k=none->Q d (upd H a (.dK (zaA kvs k d))))
section
variable {X:Cx}
theorem Jg:MtR X "dict.setdefault" zcf:=by
 intro pz s σ H x vs v us Q I rx rv h
 obtain⟨a,kvs,k,d,rfl,rfl,hH,hz,q1,q2⟩:=h
 cases rx
 obtain⟨uk,ud,rfl,rk,rd⟩:=Js rv
 obtain⟨z,hd,ws,rel,dd⟩:=zdQ I.hok hH
 have hl:ws.length<=sizeLine:=by rw[<-rel.length];lia
 have hl2:(zaA kvs k d).length<=sizeLine:=by have:=zao kvs k d;lia
 refine call_meetsIn F.slot_dict_setdefault dd.typeIs F.entry_dict_setdefault (F.args_dict_setdefault_3 _ _ _) (kt_meets_setdefault (xU X.prog X.w) a (zei rk) hd ud) ⟨ws,dd,hl,λw hw=>?_,λhn h' dd' hs=>?_⟩
 ·have r:=rel.val k
  rw[hw]at r
  cases hv:Zw kvs k with
  | none=>rw[hv]at r;exact(show False from r).elim
  | some y=>rw[hv]at r;exact⟨y,H,I.tok _,r,q1 y hv⟩
 ·have r:=rel.val k
  rw[hn]at r
  cases hv:Zw kvs k with
  | some y=>rw[hv]at r;exact(show False from r).elim
  | none =>
   have he:∃q,h'.get? a=some q:=let ⟨q,_,_,hq,_⟩:=dd';⟨q,hq⟩
   exact⟨d,_,zfU I (by rw[hH];exact True.intro) hs he (za2 hl2 hd (rel.put k rd) dd'),rd,q2 hv⟩
end
section
variable {prog:Program}{w:World}{A:Around}{E:Value->Shared->Prop}{s:Shared}
theorem zal:∀{us:List Value}{ns:List Int},IntsAre us ns->us.length=ns.length:=λh=>by
 have:=(vA h).length;simpa using this.symm
theorem Jf {x:Addr}{ns:List Int}{Q:Value->Shared->Prop}(h64:ns.length<64)
  (hcol:∀R:List Value->Shared->Prop,(∀(h1:Heap) (tk:Nat) (vs:List Value),IntsAre vs ns->(∀b o,s.heap.get? b=some o->h1.get? b=some o)->R vs { s with heap:=h1,toks:=tk })->wpAny (model prog w) A.in1 (collect (.ref x)) R E s)
  (h:∀(h1 h':Heap) (tk:Nat) (out:List Value) (c:Nat) (ns':List Int),(∀b o,s.heap.get? b=some o->h1.get? b=some o)->(∀b o,h1.get? b=some o->h'.get? b=some o)->h'.get? h1.objs.size=some (seqObj "list" (List.toArray out) c)->IntsAre out ns'->ns'.Perm ns->ns'.Pairwise (·<=·)->Q (.ref h1.objs.size) { s with heap:=h',toks:=tk }) :
  wpAny (model prog w) A (call (.builtin "sorted") [.ref x]) Q E s:=by
 refine Calls.call_function_entry kind_sorted plain_sorted entry_sorted (args_sorted1 _) ?_
 unfold Builtin.«sorted»
 refine wc (m:=checkCount "sorted" 1 1 _) (wj (wc (hcol _ λh1 tk vs hI k1=>wc (Y0 ?_ (by have:=zal hI;rw[sizeLine_eq];lia)))))
 have hvl:=zal hI
 have hoL:(h1.push (seqObj "list" vs.toArray 0)).get? h1.objs.size=some (seqObj "list" vs.toArray 0):=wE _ rfl
 show wpAny _ _ _ _ _ { s with heap:=h1.push (seqObj "list" vs.toArray 0),toks:=tk }
 refine wc (yN (uu slot_list_sort ⟨_,hoL,rL⟩ entry_list_sort (list_sort_tree (s:={ s with heap:=h1.push (seqObj "list" vs.toArray 0),toks:=tk }) hoL hI ∅ λout ns' a1 a2 a3=>⟨_,rfl,?_⟩) (args_list_sort _)))
 obtain⟨c,hc⟩:∃c,(sortedHeap (h1.push (seqObj "list" vs.toArray 0)) h1.objs.size vs out).get? h1.objs.size=some (seqObj "list" out c):=sortedHeap_at hoL
 refine wj ⟨_,rfl,h h1 _ tk out.toList c ns' k1 (λb o e=>?_) (by simpa using hc) a1 a2 a3⟩
 have hlt:b<h1.objs.size:=wB e
 rw[sortedHeap_old (wS hlt) (show b<(h1.push _).objs.size by rw[size_push'];exact uV hlt)]
 exact wf _ e
end
section
variable {X:Cx}{pz:List (Addr×Obj)}{σ:St}{H:Hp}{s:Shared}
theorem zgf {P:Program}{w:World}{n:Int}{v:Value}(h:(xU P w).is (Sum.inl n) v=true):∃t,v = .int n t:=by
 exact Value.isInt_shape (k:=n) (v:=v) h
theorem JJ:∀{us:List Value}{ns:List Int},us.length=ns.length->(∀(i:Nat) (v:Value) (n:Int),us[i]? = some v->ns[i]? = some n->∃t,v = .int n t)->IntsAre us ns
 | [],[],_,_=>.nil
 | [],_::_,h,_=>by simp at h
 | _::_,[],h,_=>by simp at h
 | u::us,n::ns,h,f=>by
  obtain⟨t,rfl⟩:=f 0 u n rfl rfl
  exact .cons n t (JJ (by simpa using h) λi v m e1 e2=>f (i+1) v m (by simpa using e1) (by simpa using e2))
theorem Jl {ns ns':List Int}{out:List Value}{h1 h':Heap}{tk c:Nat}{Q:VK}(I:Inv X pz σ H s) (h64:ns.length<64) (k1:∀b o,s.heap.get? b=some o->h1.get? b=some o) (k2:∀b o,h1.get? b=some o->h'.get? b=some o)
  (hD:h'.get? h1.objs.size=some (seqObj "list" (List.toArray out) c)) (hI:IntsAre out ns') (hp:ns'.Perm ns) (hs:ns'.Pairwise (·<=·)) (q:∀D (ms:List Int),H D=none->ms.Perm ns->ms.Pairwise (·<=·)->Q (.ref D) (upd H D (.lst (ms.map V.int)))):EP X pz σ Q (.ref h1.objs.size) { s with heap:=h',toks:=tk }:=by
 have J:=I.kept (t':=tk) k1
 refine⟨.ref h1.objs.size,_,J.laid (t':=tk) (o:=.lst (ns'.map V.int)) k2 (wg _) ⟨?_,out,c,vA hI,hD⟩,rL,q _ ns' (J.hok.fresh (wg _)) hp hs⟩
 rw[we,hp.length_eq,sizeLine_eq];lia
theorem Vh:vi X (.builtin "sorted") (λvs H Q=>∃(p:Addr) (ns:List Int),vs=[.ref p]/\SqL X.K H p (ns.map V.int)/\ns.length<64/\∀D (ms:List Int),H D=none->ms.Perm ns->ms.Pairwise (·<=·)->Q (.ref D) (upd H D (.lst (ms.map V.int)))):=by
 intro pz s σ H vs us Q I r h
 obtain⟨p,ns,rfl,hq,h64,q⟩:=h
 obtain⟨u,rfl,ru⟩:=ZU r
 cases ru
 obtain⟨its,rv,pl,hz⟩:=I.list hq
 have hl:=rv.length
 rw[we]at hl
 refine Jf (ns:=ns) h64 (λR hR=>collect_list pl.isList (hR _ s.toks its (Xj rv) λb o e=>?_) (by rw[sizeLine_eq];lia)) λh1 h' tk out c ns' k1 k2 hD a1 a2 a3=>Jl I h64 k1 k2 hD a1 a2 a3 q
 have hlt:b<s.heap.objs.size:=wB e
 rw[Heap.get?_update_ne _ _ _ _ (wS hlt),Heap.get?_push_ne _ _ _ (wS hlt)]
 exact e
theorem zaW (hc:X.calm=true):vi X (.builtin "sorted") (λvs H Q=>∃(d:Addr) (kvs:List (Key×V)) (ns:List Int),vs=[.ref d]/\H d=some (.dK kvs)/\kvs.map Prod.fst=ns.map Sum.inl/\ns.length<64/\∀D (ms:List Int),H D=none->ms.Perm ns->ms.Pairwise (·<=·)->Q (.ref D) (upd H D (.lst (ms.map V.int)))):=by
 intro pz s σ H vs us Q I r h
 obtain⟨d,kvs,ns,rfl,hd,ek,h64,q⟩:=h
 obtain⟨u,rfl,ru⟩:=ZU r
 cases ru
 obtain⟨z,lo,ws,rel,dd⟩:=zdQ I.hok hd
 obtain⟨ep,hat⟩:=dd.dictAt
 have hk:=rel.keys
 have hwl:ws.length=ns.length:=by have:=congrArg List.length (hk.symm.trans ek);simpa using this
 refine Jf (ns:=ns) h64 (λR hR=>PySem.W.kdu_collect (PySem.W.kdl_dict (knd:=xU X.prog X.w) (kvs:=ws) (ep:=ep) lo) (I.ok.hd hc) hat (by rw[hwl,sizeLine_eq];lia) λh' tk acc k ha=>hR h' tk acc.toList ?_ k) λh1 h' tk out c ns' k1 k2 hD a1 a2 a3=>Jl I h64 k1 k2 hD a1 a2 a3 q
 refine JJ (by rw[wJ,ha.1];exact hwl) λi v n e1 e2=>?_
 obtain⟨kk,y,hy,hki⟩:=ha.2 i v (by rw[<-wL];exact e1)
 have e3:(ws.map Prod.fst)[i]? = some kk:=by rw[wo,hy];rfl
 rw[<-hk,ek,wo,e2]at e3
 cases e3
 exact zgf hki
theorem zcE:vi X (.builtin "len") (λxs H Q=>∃p kvs,xs=[.ref p]/\H p=some (.dK kvs)/\Q (.int kvs.length) H):=by
 intro pz s σ H xs us Q I r h
 obtain⟨p,kvs,rfl,hd,q⟩:=h
 obtain⟨u,rfl,ru⟩:=ZU r
 cases ru
 obtain⟨z,lo,ws,rel,dd⟩:=zdQ I.hok hd
 have hl:=rel.length
 have hs:sizeLine=16777216:=sizeLine_eq
 exact call_len_dict lo dd ∅ ⟨.int kvs.length,H,I.tok _,⟨_,by rw[hl]⟩,q⟩
end
end L2
namespace PySem
end PySem
namespace L2
open PySem PySem.Spec PyProof.Rows
end L2
namespace PySem
end PySem
namespace L2
open PySem PySem.Spec PyProof.Rows
open MeetsSeq MeetsSeq2 MeetsSeq3 SeqRoads2 SeqAt AutoSeq1
end L2
namespace TS
theorem hid {A:Prop}(h:∀P:Prop,(A->P)->P):A:=h A id
open PySem PySem.W PyProof.Rows
variable {J:Shared->Prop}{M:Model}{A:Around}{E:Value->Shared->Prop}
def TQ (J:Shared->Prop) (M:Model) (A:Around) (E:Value->Shared->Prop){α:Type}(m:StateT SortSt Sem α) (Q:α->SortSt->Prop) (st:SortSt):Prop :=
 ∀s,J s->wpAny M A (m.run st) (λr s'=>J s'/\Q r.1 r.2) E s
theorem zw {α:Type}{a:α}{Q:α->SortSt->Prop}{st:SortSt}(h:Q a st):TQ J M A E (pure a) Q st:=λs j=>by
 rw[StateT.run_pure];exact wj ⟨j,h⟩
theorem zq {α β:Type}{m:StateT SortSt Sem α}{f:α->StateT SortSt Sem β}{Q:β->SortSt->Prop}{st:SortSt}(h:TQ J M A E m (λa st'=>TQ J M A E (f a) Q st') st):TQ J M A E (m >>= f) Q st:=λs j=>by
 rw[StateT.run_bind];exact wc (yZ (h s j) (λr s' q=>q.2 s' q.1) λ_ _ e=>e)
theorem zfF {α:Type}{c:Prop}{_:Decidable c}{X:Nat->StateT SortSt Sem α}{y:StateT SortSt Sem α}{g:Nat}{Q:α->SortSt->Prop}{st:SortSt}(hy:y=X g) (h:∀g',TQ J M A E (X g') Q st) (g1:Nat):TQ J M A E (if c then X g1 else y) Q st:=by subst hy;split <;> exact h _
theorem xQ {α:Type}{m:StateT SortSt Sem α}{Q Q':α->SortSt->Prop}{st:SortSt}(h:TQ J M A E m Q st) (q:∀a st',Q a st'->Q' a st'):TQ J M A E m Q' st:=λs j =>
 yZ (h s j) (λr s' z=>⟨z.1,q _ _ z.2⟩) λ_ _ e=>e
theorem vJ {Q:SortSt->SortSt->Prop}{st:SortSt}(h:Q st st):TQ J M A E (get:StateT SortSt Sem SortSt) Q st:=λs j=>by
 rw[StateT.run_get];exact wj ⟨j,h⟩
theorem zjv {Q:PUnit->SortSt->Prop}{st st':SortSt}(h:Q ⟨⟩ st'):TQ J M A E (set st':StateT SortSt Sem PUnit) Q st:=λs j=>by
 rw[StateT.run_set];exact wj ⟨j,h⟩
theorem qu {f:SortSt->SortSt}{Q:PUnit->SortSt->Prop}{st:SortSt}(h:Q ⟨⟩ (f st)):TQ J M A E (modify f:StateT SortSt Sem PUnit) Q st:=λs j=>by
 rw[StateT.run_modify];exact wj ⟨j,h⟩
theorem Xb {n:String}{Q:Unit->SortSt->Prop}{st:SortSt}(h:Q () st):TQ J M A E (liftM (rule n):StateT SortSt Sem Unit) Q st:=λs j=>by
 show wpAny M A ((StateT.lift (rule n):StateT SortSt Sem Unit).run st) _ E s
 rw[StateT.run_lift]
 exact wc (Yk (wj ⟨j,h⟩))
def zft {β:Type}(D N:β->SortSt->Prop):ForInStep β->SortSt->Prop
 | .done c,st=>D c st
 | .yield c,st=>N c st
theorem zct {β γ:Type}{f:γ->β->StateT SortSt Sem (ForInStep β)}{Q:β->SortSt->Prop}(I:Nat->β->SortSt->Prop):∀{l:List γ}{k:Nat}{c:β}{st:SortSt},
  (∀i y c st,l[i]? = some y->I (k+i) c st->TQ J M A E (f y c) (zft Q (I (k+i+1))) st)->(∀c st,I (k+l.length) c st->Q c st)->I k c st->TQ J M A E (forIn l c f) Q st
 | [],k,c,st,_,hd,h=>by rw[List.forIn_nil];exact zw (hd c st h)
 | y::l,k,c,st,hs,hd,h=>by
  rw[List.forIn_cons]
  refine zq (xQ (hs 0 y c st rL h) λr st' q=>?_)
  cases r with
  | done c'=>exact zw q
  | yield c' =>
   refine zct I (k:=k+1) (λi y c st e z=>?_) (λc st z=>hd c st ?_) q
   ·have:=hs (i+1) y c st (by simpa using e) (by rw[show k+(i+1)=k+1+i by lia];exact z)
    rw[show k+(i+1)+1=k+1+i+1 by lia]at this;exact this
   ·rw[ww,show k+(l.length+1)=k+1+l.length by lia];exact z
theorem xP {β:Type}{a b:Nat}{f:Nat->β->StateT SortSt Sem (ForInStep β)}{Q:β->SortSt->Prop}(I:Nat->β->SortSt->Prop){c:β}{st:SortSt}
  (hs:∀i c st,a<=i->i<b->I i c st->TQ J M A E (f i c) (zft Q (I (i+1))) st) (hd:∀c st,I (max a b) c st->Q c st) (h:I a c st):TQ J M A E (forIn [a:b] c f) Q st:=by
 rw[Std.Legacy.Range.forIn_eq_forIn_range']
 have hsz:([a:b]:Std.Legacy.Range).size=b - a:=by simp[Std.Legacy.Range.size]
 show TQ J M A E (forIn (List.range' a ([a:b]:Std.Legacy.Range).size 1) c f) Q st
 rw[hsz]
 refine zct I (k:=a) (λi y c st e z=>?_) (λc st z=>hd c st ?_) h
 ·obtain⟨hi,e⟩:=wP.mp e
  rw[List.getElem_range']at e
  rw[List.length_range']at hi
  have:y=a+i:=by lia
  subst this
  exact hs _ c st ∅ ∅ z
 ·rw[List.length_range']at z
  rw[show max a b=a+(b - a) by lia];exact z
variable {KY:Keyed->Int}{a₀:Array Keyed}{κ:SortKind}
def kx (KY:Keyed->Int) (xs:Array Keyed) (i:Nat):Int:=match xs[i]? with
 | some p=>KY p
 | none=>0
theorem xN {xs ys:Array Keyed}{i j:Nat}(h:xs[i]? = ys[j]?):kx KY xs i=kx KY ys j:=by unfold kx;rw[h]
theorem zT {xs:Array Keyed}{i:Nat}{p:Keyed}(h:xs[i]? = some p):kx KY xs i=KY p:=by unfold kx;rw[h]
def HLt (J:Shared->Prop) (M:Model) (A:Around) (E:Value->Shared->Prop) (κ:SortKind) (KY:Keyed->Int) (a₀:Array Keyed):Prop :=
 ∀(x y:Keyed) (st:SortSt) (Q:Option Bool->SortSt->Prop),x∈a₀.toList->y∈a₀.toList->kindOf st=κ->Q (some (decide (KY x<KY y))) st->TQ J M A E (lt' x y) Q st
def Sub (a₀ xs:Array Keyed):Prop:=∀p,p∈xs.toList->p∈a₀.toList
theorem Sub.get {xs:Array Keyed}(h:Sub a₀ xs){i:Nat}(hi:i<xs.size):∃p,xs[i]? = some p/\p∈a₀.toList:=⟨xs[i],wK hi,h _ (by simp)⟩
theorem xr {xs:Array Keyed}{i:Nat}{p:Keyed}{Q:Keyed->SortSt->Prop}{st:SortSt}(e:xs[i]? = some p) (h:Q p st):TQ J M A E (elem' xs i) Q st:=by
 rw[elem'_eq,e];exact zw h
theorem zg8 (L:HLt J M A E κ KY a₀){i j:Nat}{Q:Option Bool->SortSt->Prop}{st:SortSt}(hS:Sub a₀ (arrOf st)) (hk:kindOf st=κ) (hi:i<(arrOf st).size) (hj:j<(arrOf st).size)
  (h:Q (some (decide (kx KY (arrOf st) i<kx KY (arrOf st) j))) st):TQ J M A E (ltAt' i j) Q st:=by
 obtain⟨p,e1,m1⟩:=hS.get hi
 obtain⟨q,e2,m2⟩:=hS.get hj
 rw[zT e1,zT e2]at h
 rw[ltAt'_eq]
 exact zq (vJ (zq (xr e1 (zq (xr e2 (L p q st Q m1 m2 hk h))))))
def Up (KY:Keyed->Int) (xs:Array Keyed) (lo hi:Nat):Prop:=∀i j,lo<=i->i<=j->j<hi->kx KY xs i<=kx KY xs j
def Dn (KY:Keyed->Int) (xs:Array Keyed) (lo hi:Nat):Prop:=∀i j,lo<=i->i<=j->j<hi->kx KY xs j<=kx KY xs i
structure Ch (lo hi:Nat) (st st':SortSt):Prop where
 kind:kindOf st'=kindOf st
 pend:pendingOf st'=pendingOf st
 fail:failedOf st'=failedOf st
 perm:(arrOf st').Perm (arrOf st)
 out:∀i,i<lo\/hi<=i->(arrOf st')[i]? = (arrOf st)[i]?
theorem Ch.refl {lo hi:Nat}{st:SortSt}:Ch lo hi st st:=⟨rfl,rfl,rfl,.refl _,λ_ _=>rfl⟩
theorem Ch.trans {lo hi:Nat}{s1 s2 s3:SortSt}(h:Ch lo hi s1 s2) (g:Ch lo hi s2 s3):Ch lo hi s1 s3:=⟨g.kind.trans h.kind,g.pend.trans h.pend,g.fail.trans h.fail,g.perm.trans h.perm,λi o=>(g.out i o).trans (h.out i o)⟩
theorem JB {st:SortSt}{i j lo hi:Nat}(h1:lo<=i) (h2:j<=hi) (hj:j<=(arrOf st).size):Ch lo hi st (setArr st (mirror (arrOf st) i j ((j - i)/2))):=by
 refine⟨rL,rL,rL,mirror_perm _ _ _ _,λk o=>?_⟩
 show (mirror (arrOf st) i j ((j - i)/2))[k]? = _
 rw[getElem?_mirror_all hj,if_neg ∅]
theorem zba {xs:Array Keyed}{i j:Nat}(hj:j<=xs.size) (k:Nat):kx KY (mirror xs i j ((j - i)/2)) k=if i<=k/\k<j then kx KY xs (i+j - 1 - k)else kx KY xs k:=by
 have e:=getElem?_mirror_all (i:=i) hj k
 by_cases c:i<=k/\k<j
 ·rw[if_pos c]at e ⊢;exact xN e
 ·rw[if_neg c]at e ⊢;exact xN e
theorem QX {xs:Array Keyed}{i j:Nat}(hj:j<=xs.size) (z:Int) (h:∀k,i<=k->k<j->kx KY xs k=z) (k:Nat):kx KY (mirror xs i j ((j - i)/2)) k=kx KY xs k:=by
 rw[zba hj]
 split
 ·rename_i c;rw[h _ (by omega) (by omega),h _ c.1 c.2]
 ·rfl
theorem J6 {i j:Nat}{Q:Unit->SortSt->Prop}{st:SortSt}(h:Q () (setArr st (mirror (arrOf st) i j ((j - i)/2)))):TQ J M A E (reverseSlice' i j) Q st:=by
 rw[reverseSlice'_eq];exact qu h
variable {J:Shared->Prop}{M:Model}{A:Around}{E:Value->Shared->Prop}{KY:Keyed->Int}{a₀:Array Keyed}{κ:SortKind}
structure Bs (a₀:Array Keyed) (κ:SortKind) (st:SortSt):Prop where
 perm:(arrOf st).Perm a₀
 kind:kindOf st=κ
 fail:failedOf st=none
theorem Bs.sub {st:SortSt}(h:Bs a₀ κ st):Sub a₀ (arrOf st):=λq m=>(Yq.mp h.perm).mem_iff.mp m
theorem Bs.size {st:SortSt}(h:Bs a₀ κ st):(arrOf st).size=a₀.size:=h.perm.size_eq
theorem Bs.ch {st st':SortSt}{lo hi:Nat}(h:Bs a₀ κ st) (c:Ch lo hi st st'):Bs a₀ κ st':=⟨c.perm.trans h.perm,c.kind.trans h.kind,c.fail.trans h.fail⟩
theorem Jr (L:HLt J M A E κ KY a₀){i j:Nat}{Q:Option Bool->SortSt->Prop}{st:SortSt}(B:Bs a₀ κ st) (hi:i<a₀.size) (hj:j<a₀.size)
  (h1:kx KY (arrOf st) i<kx KY (arrOf st) j->Q (some true) st) (h2:¬kx KY (arrOf st) i<kx KY (arrOf st) j->Q (some false) st):TQ J M A E (ltAt' i j) Q st:=by
 refine zg8 L B.sub B.kind (by rw[B.size];exact hi) (by rw[B.size];exact hj) ?_
 by_cases c:kx KY (arrOf st) i<kx KY (arrOf st) j
 ·rw[wm c];exact h1 c
 ·rw[wA c];exact h2 c
theorem zbV {α:Type}{c:Prop} [Decidable c] {m P:StateT SortSt Sem α}{Q:α->SortSt->Prop}{st:SortSt}(G:SortSt->Prop) (h1:∀st',G st'->TQ J M A E P Q st')
  (h2:c->(∀st',G st'->TQ J M A E P Q st')->TQ J M A E m Q st) (h3:¬c->G st):TQ J M A E (if c then m else P) Q st:=by
 by_cases h:c
 ·rw[if_pos h];exact h2 h h1
 ·rw[if_neg h];exact h1 st (h3 h)
theorem zfD {f:Nat->Option (Option Nat)×Nat->StateT SortSt Sem (ForInStep (Option (Option Nat)×Nat))}{lo a nrem:Nat}{st:SortSt}{Q:Option (Option Nat)×Nat->SortSt->Prop} (h1:1<=a) (ha:a<=nrem)
  (hf:∀x m R,a<=m->m<nrem->(kx KY (arrOf st) (lo+m)<kx KY (arrOf st) (lo+m - 1)->R (.done (none,m)) st)->(¬kx KY (arrOf st) (lo+m)<kx KY (arrOf st) (lo+m - 1)->R (.yield (none,m+1)) st)->TQ J M A E (f x (none,m)) R st)
  (hu:Up KY (arrOf st) lo (lo+a)) (h:∀n,a<=n->n<=nrem->Up KY (arrOf st) lo (lo+n)->(n=nrem\/kx KY (arrOf st) (lo+n)<kx KY (arrOf st) (lo+n - 1))->Q (none,n) st) :
  TQ J M A E (forIn [a:nrem] (none,a) f) Q st:=by
 refine xP (I:=λx c st'=>st'=st/\c=(none,x)/\Up KY (arrOf st) lo (lo+x)) ?_ ?_ ⟨rL,rL,hu⟩
 ·rintro x c st' h1 h2 ⟨rfl,rfl,u⟩
  refine hf x x _ h1 h2 (λz=>h x h1 ∅ u (.inr z)) (λz=>⟨rL,rL,λi j i1 i2 i3=>?_⟩)
  by_cases c:j<lo+x
  ·exact u i j i1 i2 c
  ·obtain rfl:j=lo+x:=by lia
   by_cases d:i=lo+x
   ·rw[d];exact uQ _
   ·exact yu (u i (lo+x - 1) i1 ∅ ∅) (u9.mp z)
 ·rintro c st' ⟨rfl,rfl,u⟩
  rw[show max a nrem=nrem by lia]at u ⊢
  exact h nrem ha (wg _) u (.inl rL)
theorem zfE (L:HLt J M A E κ KY a₀){lo nrem:Nat}{Q:Option Nat->SortSt->Prop}{st:SortSt}(h1:1<=nrem) (hn:lo+nrem<=a₀.size) (B:Bs a₀ κ st)
  (h:∀m st',Ch lo (lo+nrem) st st'->1<=m->m<=nrem->Up KY (arrOf st') lo (lo+m)->Q (some m) st'):TQ J M A E (countRun' lo nrem) Q st:=by
 refine zq ?_
 try dsimp only
 refine zfD (lo:=lo) (KY:=KY) (wg 1) h1 (λx m R m1 m2 r1 r2=>?_) (λi j a b c=>?_) (λn n1 n2 u o=>?_)
 ·exact zq (Jr L B ∅ ∅ (λz=>zw (r1 z)) (λz=>zw (r2 z)))
 ·rw[show i=j by lia];exact uQ _
 try dsimp only
 by_cases c:n=nrem
 ·rw[if_pos (by simpa using c)];exact zw (h n st .refl n1 n2 u)
 rw[if_neg (by simpa using c)]
 have lt:=o.resolve_left c
 have sz:=B.size
 refine zbV (λst1=>Ch lo (lo+nrem) st st1/\(∀k,kx KY (arrOf st1) k=kx KY (arrOf st) k)/\∀k,lo<=k->k<lo+n->kx KY (arrOf st) k=kx KY (arrOf st) (lo+n - 1)) ?_ ?_ ?_
 rotate_left
 ·intro c1 k
  refine zq (Jr L B ∅ ∅ (λz=>zw (h n st .refl n1 n2 u)) (λz=>?_))
  have eq:∀k,lo<=k->k<lo+n->kx KY (arrOf st) k=kx KY (arrOf st) (lo+n - 1):=λk k1 k2 =>
   Int.le_antisymm (u k _ k1 ∅ ∅) (yu (u9.mp z) (u lo k (wg _) k1 k2))
  exact zq (J6 (k _ ⟨JB ∅ ∅ ∅,λj=>QX ∅ _ eq j,eq⟩))
 ·intro c1
  exact⟨.refl,λ_=>rfl,λk k1 k2=>by rw[show k=lo+n - 1 by lia]⟩
 rintro st1 ⟨C1,K1,eq⟩
 refine zq (Xb ?_)
 have d1:Dn KY (arrOf st1) lo (lo+(n+1)):=λi j i1 i2 i3=>by
  rw[K1,K1]
  by_cases cj:j<lo+n
  ·rw[eq i i1 ∅,eq j ∅ cj];exact uQ _
  ·obtain rfl:j=lo+n:=by lia
   by_cases ci:i=lo+n
   ·rw[ci];exact uQ _
   ·rw[eq i i1 ∅];exact yI lt
 refine zq (xQ (xP (I:=λx c st'=>∃q,c=(none,x,q)/\Ch lo (lo+nrem) st st'/\Dn KY (arrOf st') lo (lo+x)/\q+1<=x/\∀i,lo+x - (q+1)<=i->i<lo+x->kx KY (arrOf st') i=kx KY (arrOf st') (lo+x - 1))
  (Q:=λc st'=>∃x q,c=(none,x,q)/\n+1<=x/\x<=nrem/\Ch lo (lo+nrem) st st'/\Dn KY (arrOf st') lo (lo+x)/\q+1<=x/\∀i,lo+x - (q+1)<=i->i<lo+x->kx KY (arrOf st') i=kx KY (arrOf st') (lo+x - 1)) ?_ ?_ ⟨0,rfl,C1,d1,by lia,λi a b=>by rw[show i=lo+(n+1) - 1 by lia]⟩) ?_)
 ·rintro x c st2 x1 x2 hQq;rcases q:hQq with⟨q,rfl,C2,d2,q1,e2⟩
  have B2:=B.ch C2
  have s2:=B2.size
  try dsimp only
  refine zq (Jr L B2 ∅ ∅ (λz=>?_) (λz=>?_))
  ·try dsimp only
   rw[if_pos rfl]
   have dn:∀xs:Array Keyed,(∀k,kx KY xs k=kx KY (arrOf st2) k)->Dn KY xs lo (lo+(x+1)):=λxs hk i j i1 i2 i3=>by
    rw[hk,hk]
    by_cases cj:j<lo+x
    ·exact d2 i j i1 i2 cj
    ·obtain rfl:j=lo+x:=by lia
     by_cases ci:i=lo+x
     ·rw[ci];exact uQ _
     ·exact yu (yI z) (d2 i (lo+x - 1) i1 ∅ ∅)
   by_cases cq:q>0
   ·rw[if_pos cq]
    refine zq (J6 (zw ⟨0,rfl,C2.trans (JB ∅ ∅ ∅),dn _ λk=>QX ∅ _ e2 k,by lia,λi a b=>by rw[show i=lo+(x+1) - 1 by lia]⟩))
   ·rw[if_neg cq]
    exact zw ⟨0,rfl,C2,dn _ λk=>rfl,by lia,λi a b=>by rw[show i=lo+(x+1) - 1 by lia]⟩
  ·try dsimp only
   rw[if_neg (by simp)]
   refine zq (Jr L B2 ∅ ∅ (λz2=>?_) (λz2=>?_))
   ·exact zw ⟨x,q,rfl,x1,by lia,C2,d2,q1,e2⟩
   ·have ex:kx KY (arrOf st2) (lo+x)=kx KY (arrOf st2) (lo+x - 1):=Int.le_antisymm (u9.mp z2) (u9.mp z)
    refine zw ⟨q+1,rfl,C2,λi j i1 i2 i3=>?_,by lia,λi a b=>?_⟩
    ·by_cases cj:j<lo+x
     ·exact d2 i j i1 i2 cj
     ·obtain rfl:j=lo+x:=by lia
      by_cases ci:i=lo+x
      ·rw[ci];exact uQ _
      ·rw[ex];exact d2 i (lo+x - 1) i1 ∅ ∅
    ·rw[show lo+(x+1) - 1=lo+x by lia]
     by_cases ci:i=lo+x
     ·rw[ci]
     ·rw[ex];exact e2 i ∅ ∅
 ·rintro c st2 hQq;rcases q:hQq with⟨q,rfl,C2,d2,q1,e2⟩
  rw[show max (n+1) nrem=nrem by lia]at *
  exact⟨nrem,q,rfl,by lia,wg _,C2,d2,q1,e2⟩
 rintro c' st2 hQq;rcases q:hQq with⟨x,q,rfl,x1,x2,C2,d2,q1,e2⟩
 try dsimp only
 have s2:=(B.ch C2).size
 refine zbV (λst3=>Ch lo (lo+nrem) st st3/\Dn KY (arrOf st3) lo (lo+x)) ?_ (λc k=>zq (J6 (k _ ⟨C2.trans (JB ∅ ∅ ∅),λi j i1 i2 i3=>?_⟩))) (λc=>⟨C2,d2⟩)
 rotate_left
 ·show kx KY (mirror _ _ _ _) j<=kx KY (mirror _ _ _ _) i
  rw[QX ∅ _ e2,QX ∅ _ e2];exact d2 i j i1 i2 i3
 rintro st3 ⟨C3,d3⟩
 have s3:=(B.ch C3).size
 refine zq (J6 ?_)
 have C4:Ch lo (lo+nrem) st (setArr st3 (mirror (arrOf st3) lo (lo+x) ((lo+x - lo)/2))):=C3.trans (JB ∅ ∅ ∅)
 have u4:Up KY (mirror (arrOf st3) lo (lo+x) ((lo+x - lo)/2)) lo (lo+x):=λi j i1 i2 i3=>by
  rw[zba ∅,zba ∅,if_pos ∅,if_pos ∅]
  exact d3 _ _ ∅ ∅ ∅
 have B4:=B.ch C4
 generalize hs4:setArr st3 (mirror (arrOf st3) lo (lo+x) ((lo+x - lo)/2))=st4 at C4 B4 ⊢
 have u4':Up KY (arrOf st4) lo (lo+x):=by rw[<-hs4];exact u4
 refine zq (zfD (lo:=lo) (KY:=KY) ∅ x2 (λy m R m1 m2 r1 r2=>?_) u4' (λm m1 m2 u o=>?_))
 ·exact zq (Jr L B4 ∅ ∅ (λz=>zw (r1 z)) (λz=>zw (r2 z)))
 ·exact zw (h m st4 C4 ∅ m2 u)
theorem zjs (L:HLt J M A E κ KY a₀){lo n ok:Nat}{Q:Bool->SortSt->Prop}{st:SortSt}(hn:lo+n<=a₀.size) (ho:ok<=n) (B:Bs a₀ κ st) (u:Up KY (arrOf st) lo (lo+ok))
  (h:∀st',Ch lo (lo+n) st st'->Up KY (arrOf st') lo (lo+n)->Q true st'):TQ J M A E (binarySort' lo n ok) Q st:=by
 refine zq ?_
 try dsimp only
 refine xQ (xP (I:=λk c st'=>c=(none,())/\Ch lo (lo+n) st st'/\Up KY (arrOf st') lo (lo+min k n)) (Q:=λc st'=>c=(none,())/\Ch lo (lo+n) st st'/\Up KY (arrOf st') lo (lo+n)) ?_ ?_ ⟨rL,.refl,λi j i1 i2 i3=>?_⟩) ?_
 ·rintro k c st1 k1 k2 ⟨rfl,C1,u1⟩
  rw[show min k n=k by lia]at u1
  have B1:=B.ch C1
  have s1:=B1.size
  refine zq (xQ (xP (I:=λx c st'=>st'=st1/\∃l r,c=(none,l,r)/\l<=r/\r<=k/\r - l<=k - x/\(∀i,i<l->kx KY (arrOf st1) (lo+i)<=kx KY (arrOf st1) (lo+k))/\∀i,r<=i->i<k->kx KY (arrOf st1) (lo+k)<kx KY (arrOf st1) (lo+i))
   (Q:=λc st'=>st'=st1/\∃l r,c=(none,l,r)/\l<=k/\(∀i,i<l->kx KY (arrOf st1) (lo+i)<=kx KY (arrOf st1) (lo+k))/\∀i,l<=i->i<k->kx KY (arrOf st1) (lo+k)<kx KY (arrOf st1) (lo+i)) ?_ ?_ ⟨rfl,0,k,rfl,by lia,by lia,by lia,λi a=>by lia,λi a b=>by lia⟩) ?_)
  ·rintro x c st' x1 x2 hQq;rcases q:hQq with⟨rfl,l,r,rfl,lr,rk,m,lo1,hi1⟩
   try dsimp only
   by_cases g:l>=r
   ·rw[if_pos g];obtain rfl:l=r:=by lia
    exact zw ⟨rL,l,l,rL,rk,lo1,hi1⟩
   ·rw[if_neg g]
    refine zq (Jr L B1 ∅ ∅ (λz=>?_) (λz=>?_))
    ·exact zw ⟨rfl,l,(l+r)/2,rfl,by lia,by lia,by lia,lo1,λi a b=>Int.lt_of_lt_of_le z (u1 _ _ ∅ ∅ ∅)⟩
    ·exact zw ⟨rfl,(l+r)/2+1,r,rfl,by lia,by lia,by lia,λi a=>yu (u1 _ (lo+(l+r)/2) ∅ ∅ ∅) (u9.mp z),hi1⟩
  ·rintro c st' hQq;rcases q:hQq with⟨rfl,l,r,rfl,lr,rk,m,lo1,hi1⟩
   obtain rfl:l=r:=by lia
   exact⟨rL,l,l,rL,rk,lo1,hi1⟩
  ·rintro c st' hQq;rcases q:hQq with⟨rfl,l,r,rfl,lk,lo1,hi1⟩
   try dsimp only
   refine zq ?_
   show TQ J M A E (moveDown' _ _) _ _
   rw[moveDown'_eq]
   refine qu (zw ?_)
   have hs:lo+k<(arrOf st').size:=by lia
   have eb:=getElem?_bubble (xs:=arrOf st') hs (lo+k - (lo+l)) ∅
   refine⟨rL,C1.trans ⟨rL,rL,rL,bubble_perm _ _ _,λi o=>?_⟩,?_⟩
   ·show (bubble (arrOf st') (lo+k) (lo+k - (lo+l)))[i]? = _
    rw[eb,if_neg ∅,if_neg ∅]
   ·rw[show min (k+1) n=k+1 by lia]
    intro i j i1 i2 i3
    show kx KY (bubble (arrOf st') (lo+k) (lo+k - (lo+l))) i<=kx KY (bubble (arrOf st') (lo+k) (lo+k - (lo+l))) j
    have kb:∀q,kx KY (bubble (arrOf st') (lo+k) (lo+k - (lo+l))) q=if q=lo+l then kx KY (arrOf st') (lo+k)else if lo+l<q/\q<=lo+k then kx KY (arrOf st') (q - 1)else kx KY (arrOf st') q:=λq=>by
     have e:=eb q
     rw[show lo+k - (lo+k - (lo+l))=lo+l by lia]at e
     by_cases c1:q=lo+l
     ·rw[if_pos c1]at e ⊢;exact xN e
     ·rw[if_neg c1]at e ⊢
      by_cases c2:lo+l<q/\q<=lo+k
      ·rw[if_pos c2]at e ⊢;exact xN e
      ·rw[if_neg c2]at e ⊢;exact xN e
    have lo2:∀q,lo<=q->q<lo+l->kx KY (arrOf st') q<=kx KY (arrOf st') (lo+k):=λq a b=>by have:=lo1 (q - lo) ∅;rwa [show lo+(q - lo)=q by lia]at this
    have hi2:∀q,lo+l<=q->q<lo+k->kx KY (arrOf st') (lo+k)<=kx KY (arrOf st') q:=λq a b=>by have:=hi1 (q - lo) ∅ ∅;rw[show lo+(q - lo)=q by lia]at this;exact yI this
    rw[kb,kb]
    repeat' split
    all_goals first
     | (exfalso;lia)
     | exact uQ _
     | exact lo2 _ ∅ ∅
     | exact hi2 _ ∅ ∅
     | exact u1 _ _ ∅ ∅ ∅
 ·rintro c st1 ⟨rfl,C1,u1⟩
  rw[show min (max (max ok 1) n) n=n by lia]at u1
  exact⟨rL,C1,u1⟩
 ·by_cases c:ok=0
  ·rw[show i=j by lia];exact uQ _
  ·exact u i j i1 i2 ∅
 ·rintro c st1 ⟨rfl,C1,u1⟩
  exact zw (h st1 C1 u1)
variable {J:Shared->Prop}{M:Model}{A:Around}{E:Value->Shared->Prop}{KY:Keyed->Int}{a₀:Array Keyed}{κ:SortKind}
def gall:Bool->Keyed->Array Keyed->Nat->Nat->Nat->StateT SortSt Sem (Option Nat):=sortPriv% PySem.Builtin.gallop
def bey (KY:Keyed->Int) (left:Bool) (key:Keyed) (xs:Array Keyed) (b i:Nat):Bool:=if left=true then decide (kx KY xs (b+i)<KY key)else !decide (KY key<kx KY xs (b+i))
theorem ZC {left:Bool}{key:Keyed}{xs:Array Keyed}{b n i j:Nat}(u:Up KY xs b (b+n)) (hij:i<=j) (hj:j<n) (h:bey KY left key xs b j=true):bey KY left key xs b i=true:=by
 have z:=u (b+i) (b+j) ∅ ∅ ∅
 unfold bey at h ⊢
 cases left with
 | true=>rw[if_pos rfl]at h ⊢;exact wm (Int.lt_of_le_of_lt z (wG h))
 | false =>
  rw[if_neg (by simp)]at h ⊢
  simp only[Bool.not_eq_true',decide_eq_false_iff_not,u9]at h ⊢
  exact yu z h
theorem Xa (L:HLt J M A E κ KY a₀){left:Bool}{key:Keyed}{xs:Array Keyed}{b n hint:Nat}{Q:Option Nat->SortSt->Prop}{st:SortSt}(hk:kindOf st=κ) (hS:Sub a₀ xs) (hkey:key∈a₀.toList) (hb:b+n<=xs.size) (hh:hint<n)
  (u:Up KY xs b (b+n)) (h:∀k,k<=n->(∀i,i<k->bey KY left key xs b i=true)->(∀i,k<=i->i<n->bey KY left key xs b i=false)->Q (some k) st):TQ J M A E (gall left key xs b n hint) Q st:=by
 have up:∀{i j:Nat},i<=j->j<n->bey KY left key xs b i=false->bey KY left key xs b j=false:=λ{i j} hij hj hf=>by
  cases c:bey KY left key xs b j with
  | false=>rfl
  | true=>rw[ZC u hij hj c]at hf;cases hf
 have look:∀{α:Type}(i:Nat) (k:Option Bool->StateT SortSt Sem α) (R:α->SortSt->Prop),i<n->(bey KY left key xs b i=true->TQ J M A E (k (some true)) R st)->(bey KY left key xs b i=false->TQ J M A E (k (some false)) R st) →
   TQ J M A E ((do let x <-elem' xs (b+i);if left=true then lt' x key else do return (<-lt' key x).map (!·)) >>= k) R st:=λ{α} i k R hi h1 h2=>by
  obtain⟨p,e,m⟩:=hS.get (show b+i<xs.size by lia)
  have kp:=zT (KY:=KY) e
  refine zq (zq (xr e ?_))
  cases hl:left with
  | true =>
   rw[if_pos rfl]
   refine L p key st _ m hkey hk ?_
   by_cases c:KY p<KY key
   ·rw[wm c];exact h1 (by unfold bey;rw[if_pos hl,kp];exact wm c)
   ·rw[wA c];exact h2 (by unfold bey;rw[if_pos hl,kp];exact wA c)
  | false =>
   rw[if_neg (by simp)]
   refine zq (L key p st _ hkey m hk ?_)
   have nl:¬left=true:=by rw[hl];simp
   by_cases c:KY key<KY p
   ·rw[wm c];exact zw (h2 (by unfold bey;rw[if_neg nl,kp,wm c];rfl))
   ·rw[wA c];exact zw (h1 (by unfold bey;rw[if_neg nl,kp,wA c];rfl))
 refine(?_:TQ J M A E (_ >>= _) Q st)
 refine look hint _ Q hh (λz=>?_) (λz=>?_)
 ·try dsimp only
  rw[if_pos rfl]
  refine zq (xQ (xP (I:=λx c st'=>st'=st/\∃l o,c=(none,l,o)/\l<o/\x+1<=o/\hint+l<n/\bey KY left key xs b (hint+l)=true)
   (Q:=λc st'=>st'=st/\∃l o,c=(none,l,o)/\l<o/\hint+l<n/\bey KY left key xs b (hint+l)=true/\(n - hint<=o\/hint+o<n/\bey KY left key xs b (hint+o)=false)) ?_ ?_ ⟨rfl,0,1,rfl,by lia,by lia,by lia,z⟩) ?_)
  ·rintro x c st' x1 x2 hQq;rcases q:hQq with⟨rfl,l,o,rfl,lo,xo,hl,bl⟩
   try dsimp only
   by_cases g:o>=n - hint
   ·rw[if_pos g];exact zw ⟨rfl,l,o,rfl,lo,hl,bl,.inl g⟩
   ·rw[if_neg g]
    refine look (hint+o) _ _ ∅ (λz2=>?_) (λz2=>?_)
    ·exact zw ⟨rfl,o,2*o+1,rfl,by lia,by lia,by lia,z2⟩
    ·exact zw ⟨rfl,l,o,rfl,lo,hl,bl,.inr ⟨by lia,z2⟩⟩
  ·rintro c st' hQq;rcases q:hQq with⟨rfl,l,o,rfl,lo,xo,hl,bl⟩
   exact⟨rL,l,o,rL,lo,hl,bl,.inl ∅⟩
  ·rintro c st' hQq;rcases q:hQq with⟨rfl,l,o,rfl,lo,hl,bl,hf⟩
   try dsimp only
   have b1:∀i,i<hint+l+1->bey KY left key xs b i=true:=λi hi=>ZC u (show i<=hint+l by lia) hl bl
   have b2:∀i,hint+min o (n - hint)<=i->i<n->bey KY left key xs b i=false:=λi h1 h2=>by
    rcases hf with hf | ⟨h3,h4⟩
    ·lia
    ·exact up ∅ h2 h4
   have b3:hint+l+1<=hint+min o (n - hint):=by lia
   have b4:hint+min o (n - hint)<=n:=by lia
   generalize hint+l+1=p at b1 b3
   generalize hint+min o (n - hint)=q at b2 b3 b4
   refine zq (xQ (xP (I:=λx c s'=>s'=st'/\∃l r,c=(none,l,r)/\l<=r/\r<=n/\r - l<=n - x/\(∀i,i<l->bey KY left key xs b i=true)/\∀i,r<=i->i<n->bey KY left key xs b i=false)
    (Q:=λc s'=>s'=st'/\∃l,c=(none,l,l)/\l<=n/\(∀i,i<l->bey KY left key xs b i=true)/\∀i,l<=i->i<n->bey KY left key xs b i=false) ?_ ?_ ⟨rfl,p,q,rfl,b3,b4,by lia,b1,b2⟩) ?_)
   ·rintro x c s' x1 x2 hQq;rcases q:hQq with⟨rfl,l,r,rfl,lr,rn,m,c1,c2⟩
    try dsimp only
    by_cases g:l>=r
    ·rw[if_pos g];obtain rfl:l=r:=by lia
     exact zw ⟨rL,l,rL,rn,c1,c2⟩
    ·rw[if_neg g]
     refine look (l+(r - l)/2) _ _ ∅ (λz2=>?_) (λz2=>?_)
     ·exact zw ⟨rfl,l+(r - l)/2+1,r,rfl,by lia,by lia,by lia,λi hi=>ZC u (show i<=l+(r - l)/2 by lia) ∅ z2,c2⟩
     ·exact zw ⟨rfl,l,l+(r - l)/2,rfl,by lia,by lia,by lia,c1,λi h1 h2=>up h1 h2 z2⟩
   ·rintro c s' hQq;rcases q:hQq with⟨rfl,l,r,rfl,lr,rn,m,c1,c2⟩
    obtain rfl:l=r:=by lia
    exact⟨rL,l,rL,rn,c1,c2⟩
   ·rintro c s' hQq;rcases q:hQq with⟨rfl,l,rfl,ln,c1,c2⟩
    exact zw (h l ln c1 c2)
 ·try dsimp only
  rw[if_neg (by simp)]
  refine zq (xQ (xP (I:=λx c st'=>st'=st/\∃l o,c=(none,l,o)/\l<o/\x+1<=o/\l<=hint/\bey KY left key xs b (hint - l)=false)
   (Q:=λc st'=>st'=st/\∃l o,c=(none,l,o)/\l<o/\l<=hint/\bey KY left key xs b (hint - l)=false/\(hint+1<=o\/o<=hint/\bey KY left key xs b (hint - o)=true)) ?_ ?_ ⟨rfl,0,1,rfl,by lia,by lia,by lia,z⟩) ?_)
  ·rintro x c st' x1 x2 hQq;rcases q:hQq with⟨rfl,l,o,rfl,lo,xo,hl,bl⟩
   try dsimp only
   by_cases g:o>=hint+1
   ·rw[if_pos g];exact zw ⟨rfl,l,o,rfl,lo,hl,bl,.inl g⟩
   ·rw[if_neg g]
    refine look (hint - o) _ _ ∅ (λz2=>?_) (λz2=>?_)
    ·exact zw ⟨rfl,l,o,rfl,lo,hl,bl,.inr ⟨by lia,z2⟩⟩
    ·exact zw ⟨rfl,o,2*o+1,rfl,by lia,by lia,by lia,z2⟩
  ·rintro c st' hQq;rcases q:hQq with⟨rfl,l,o,rfl,lo,xo,hl,bl⟩
   exact⟨rL,l,o,rL,lo,hl,bl,.inl ∅⟩
  ·rintro c st' hQq;rcases q:hQq with⟨rfl,l,o,rfl,lo,hl,bl,hf⟩
   try dsimp only
   have b1:∀i,i<hint+1 - min o (hint+1)->bey KY left key xs b i=true:=λi hi=>by
    rcases hf with hf | ⟨h3,h4⟩
    ·lia
    ·exact ZC u (show i<=hint - o by lia) ∅ h4
   have b2:∀i,hint - l<=i->i<n->bey KY left key xs b i=false:=λi h1 h2=>up h1 h2 bl
   have b3:hint+1 - min o (hint+1)<=hint - l:=by
    rcases hf with hf | ⟨h3,h4⟩ <;> lia
   have b4:hint - l<=n:=by lia
   generalize hint+1 - min o (hint+1)=p at b1 b3
   generalize hint - l=q at b2 b3 b4
   refine zq (xQ (xP (I:=λx c s'=>s'=st'/\∃l r,c=(none,l,r)/\l<=r/\r<=n/\r - l<=n - x/\(∀i,i<l->bey KY left key xs b i=true)/\∀i,r<=i->i<n->bey KY left key xs b i=false)
    (Q:=λc s'=>s'=st'/\∃l,c=(none,l,l)/\l<=n/\(∀i,i<l->bey KY left key xs b i=true)/\∀i,l<=i->i<n->bey KY left key xs b i=false) ?_ ?_ ⟨rfl,p,q,rfl,b3,b4,by lia,b1,b2⟩) ?_)
   ·rintro x c s' x1 x2 hQq;rcases q:hQq with⟨rfl,l,r,rfl,lr,rn,m,c1,c2⟩
    try dsimp only
    by_cases g:l>=r
    ·rw[if_pos g];obtain rfl:l=r:=by lia
     exact zw ⟨rL,l,rL,rn,c1,c2⟩
    ·rw[if_neg g]
     refine look (l+(r - l)/2) _ _ ∅ (λz2=>?_) (λz2=>?_)
     ·exact zw ⟨rfl,l+(r - l)/2+1,r,rfl,by lia,by lia,by lia,λi hi=>ZC u (show i<=l+(r - l)/2 by lia) ∅ z2,c2⟩
     ·exact zw ⟨rfl,l,l+(r - l)/2,rfl,by lia,by lia,by lia,c1,λi h1 h2=>up h1 h2 z2⟩
   ·rintro c s' hQq;rcases q:hQq with⟨rfl,l,r,rfl,lr,rn,m,c1,c2⟩
    obtain rfl:l=r:=by lia
    exact⟨rL,l,rL,rn,c1,c2⟩
   ·rintro c s' hQq;rcases q:hQq with⟨rfl,l,rfl,ln,c1,c2⟩
    exact zw (h l ln c1 c2)
variable {J:Shared->Prop}{M:Model}{A:Around}{E:Value->Shared->Prop}{KY:Keyed->Int}{a₀:Array Keyed}{κ:SortKind}
structure Mg (KY:Keyed->Int) (a b out:Array Keyed) (ia ib:Nat):Prop where
 pm:(out.toList++(a.toList.drop ia++b.toList.drop ib)).Perm (a.toList++b.toList)
 so:out.toList.Pairwise λx y=>KY x<=KY y
 ca:∀x,x∈out.toList->∀i,ia<=i->i<a.size->KY x<=kx KY a i
 cb:∀x,x∈out.toList->∀j,ib<=j->j<b.size->KY x<=kx KY b j
structure Res (KY:Keyed->Int) (a b out:Array Keyed):Prop where
 pm:out.toList.Perm (a.toList++b.toList)
 so:out.toList.Pairwise λx y=>KY x<=KY y
theorem vE {xs:Array Keyed}{i k:Nat}{p:Keyed}(h:p∈(xs.extract i (i+k)).toList):∃n,i<=n/\n<i+k/\n<xs.size/\xs[n]? = some p:=by
 obtain⟨j,hj⟩:=Wi.mp h
 rw[wL,Wa]at hj
 split at hj
 ·have:=(wR.mp hj).1
  exact⟨i+j,by omega,by omega,this,hj⟩
 ·cases hj
theorem Z5 {xs:Array Keyed}{i k:Nat}:(xs.extract i (i+k)).toList=(xs.toList.drop i).take k:=by
 rw[Array.toList_extract,YE,show i+k - i=k by lia]
theorem ZX {xs:Array Keyed}{i k:Nat}:xs.toList.drop i=(xs.extract i (i+k)).toList++xs.toList.drop (i+k):=by
 rw[Z5,<-List.drop_drop,uz]
theorem JQ {xs:Array Keyed}{i k:Nat}(u:Up KY xs 0 xs.size):(xs.extract i (i+k)).toList.Pairwise λx y=>KY x<=KY y:=by
 rw[Wu]
 intro p q hp hq hpq
 have e1:(xs.extract i (i+k))[p]? = some ((xs.extract i (i+k)).toList[p]):=by rw[<-wL];exact wC hp
 have e2:(xs.extract i (i+k))[q]? = some ((xs.extract i (i+k)).toList[q]):=by rw[<-wL];exact wC hq
 rw[Wa]at e1 e2
 split at e1
 ·split at e2
  ·rw[<-zT (KY:=KY) e1,<-zT (KY:=KY) e2]
   have:=(wR.mp e2).1
   exact u _ _ (w8 _) ∅ this
  ·cases e2
 ·cases e1
theorem X8 {l r:List Keyed}(h1:l.Pairwise λx y=>KY x<=KY y) (h2:r.Pairwise λx y=>KY x<=KY y) (h3:∀x,x∈l->∀y,y∈r->KY x<=KY y):(l++r).Pairwise λx y=>KY x<=KY y :=
 List.pairwise_append.mpr ⟨h1,h2,h3⟩
section
variable {a b out:Array Keyed}{ia ib:Nat}
theorem Mg.left (h:Mg KY a b out ia ib) (ua:Up KY a 0 a.size){k:Nat}(hc:∀i j,ia<=i->i<ia+k->i<a.size->ib<=j->j<b.size->kx KY a i<=kx KY b j):Mg KY a b (out++a.extract ia (ia+k)) (ia+k) ib:=by
 refine⟨?_,?_,λx m i h1 h2=>?_,λx m j h1 h2=>?_⟩
 ·have:=h.pm
  rw[ZX (xs:=a) (i:=ia) (k:=k)]at this
  rw[yD]
  simpa [yF]using this
 ·rw[yD]
  refine X8 h.so (JQ ua) λx hx y hy=>?_
  obtain⟨n,n1,n2,n3,e⟩:=vE hy
  rw[<-zT (KY:=KY) e];exact h.ca x hx n n1 n3
 ·rw[yD]at m
  rcases wQ.mp m with m | m
  ·exact h.ca x m i ∅ h2
  ·obtain⟨n,n1,n2,n3,e⟩:=vE m
   rw[<-zT (KY:=KY) e];exact ua n i (w8 _) ∅ h2
 ·rw[yD]at m
  rcases wQ.mp m with m | m
  ·exact h.cb x m j h1 h2
  ·obtain⟨n,n1,n2,n3,e⟩:=vE m
   rw[<-zT (KY:=KY) e];exact hc n j n1 n2 n3 h1 h2
theorem Mg.right (h:Mg KY a b out ia ib) (ub:Up KY b 0 b.size){k:Nat}(hc:∀i j,ib<=j->j<ib+k->j<b.size->ia<=i->i<a.size->kx KY b j<=kx KY a i):Mg KY a b (out++b.extract ib (ib+k)) ia (ib+k):=by
 refine⟨?_,?_,λx m i h1 h2=>?_,λx m j h1 h2=>?_⟩
 ·have:=h.pm
  rw[ZX (xs:=b) (i:=ib) (k:=k)]at this
  rw[yD]
  refine List.Perm.trans ?_ this
  rw[yF]
  refine List.Perm.append_left _ ?_
  rw[<-yF,<-yF]
  exact List.Perm.append_right _ W6
 ·rw[yD]
  refine X8 h.so (JQ ub) λx hx y hy=>?_
  obtain⟨n,n1,n2,n3,e⟩:=vE hy
  rw[<-zT (KY:=KY) e];exact h.cb x hx n n1 n3
 ·rw[yD]at m
  rcases wQ.mp m with m | m
  ·exact h.ca x m i h1 h2
  ·obtain⟨n,n1,n2,n3,e⟩:=vE m
   rw[<-zT (KY:=KY) e];exact hc i n n1 n2 n3 h1 h2
 ·rw[yD]at m
  rcases wQ.mp m with m | m
  ·exact h.cb x m j ∅ h2
  ·obtain⟨n,n1,n2,n3,e⟩:=vE m
   rw[<-zT (KY:=KY) e];exact ub n j (w8 _) ∅ h2
theorem Vp {xs:Array Keyed}{i:Nat}{p:Keyed}(e:xs[i]? = some p):xs.extract i (i+1) = #[p]:=by
 apply Array.ext_getElem?
 intro j
 rw[Wa]
 have:=(wR.mp e).1
 match j with
 | 0=>rw[if_pos ∅];simpa using e
 | j+1=>rw[if_neg ∅];simp
theorem Mg.pushL (h:Mg KY a b out ia ib) (ua:Up KY a 0 a.size){p:Keyed}(e:a[ia]? = some p) (hc:∀j,ib<=j->j<b.size->kx KY a ia<=kx KY b j):Mg KY a b (out.push p) (ia+1) ib:=by
 have:=h.left ua (k:=1) λi j h1 h2 h3 h4 h5=>by rw[show i=ia by lia];exact hc j h4 h5
 rw[Vp e]at this;exact this
theorem Mg.pushR (h:Mg KY a b out ia ib) (ub:Up KY b 0 b.size){p:Keyed}(e:b[ib]? = some p) (hc:∀i,ia<=i->i<a.size->kx KY b ib<=kx KY a i):Mg KY a b (out.push p) ia (ib+1):=by
 have:=h.right ub (k:=1) λi j h1 h2 h3 h4 h5=>by rw[show j=ib by lia];exact hc i h4 h5
 rw[Vp e]at this;exact this
theorem Mg.all (h:Mg KY a b out ia ib) (ha:a.size<=ia) (hb:b.size<=ib):Res KY a b out:=by
 have:=h.pm
 rw[List.drop_eq_nil_of_le (by simpa using ha),List.drop_eq_nil_of_le (by simpa using hb),yB,yB]at this
 exact⟨this,h.so⟩
theorem Z8 {xs:Array Keyed}{i:Nat}(h:i<=xs.size):xs.extract i xs.size=xs.extract i (i+(xs.size - i)):=by rw[show i+(xs.size - i)=xs.size by lia]
theorem Mg.done (h:Mg KY a b out ia ib) (ua:Up KY a 0 a.size) (ub:Up KY b 0 b.size) (ha:ia<=a.size) (hb:ib<=b.size) (e:ia=a.size\/ib=b.size):Res KY a b (out++a.extract ia a.size++b.extract ib b.size):=by
 rw[Z8 ha,Z8 hb]
 exact((h.left ua (k:=a.size - ia) λi j h1 h2 h3 h4 h5=>by lia).right ub (k:=b.size - ib) λi j h1 h2 h3 h4 h5=>by lia).all ∅ ∅
theorem Mg.last (h:Mg KY a b out ia ib) (ua:Up KY a 0 a.size) (ub:Up KY b 0 b.size) (hb:ib<=b.size) (e:ia+1=a.size) (hl:∀j,j<b.size->kx KY b j<=kx KY a (a.size - 1)):Res KY a b (out++b.extract ib b.size++a.extract ia a.size):=by
 rw[Z8 (show ia<=a.size by lia),Z8 hb]
 exact((h.right ub (k:=b.size - ib) λi j h1 h2 h3 h4 h5=>by rw[show i=a.size - 1 by lia];exact hl j h3).left ua (k:=a.size - ia) λi j h1 h2 h3 h4 h5=>by lia).all ∅ ∅
end
structure Gs (st st':SortSt):Prop where
 kind:kindOf st'=kindOf st
 arr:arrOf st'=arrOf st
 pend:pendingOf st'=pendingOf st
 fail:failedOf st'=failedOf st
theorem Gs.refl {st:SortSt}:Gs st st:=⟨rfl,rfl,rfl,rfl⟩
theorem Gs.trans {s1 s2 s3:SortSt}(h:Gs s1 s2) (g:Gs s2 s3):Gs s1 s3:=⟨g.kind.trans h.kind,g.arr.trans h.arr,g.pend.trans h.pend,g.fail.trans h.fail⟩
def mlo:Array Keyed->Array Keyed->StateT SortSt Sem (Array Keyed):=sortPriv% PySem.Builtin.mergeLo
theorem zcu (L:HLt J M A E κ KY a₀){x y:Keyed}{Q:Option Bool->SortSt->Prop}{st:SortSt}(hk:kindOf st=κ) (hx:x∈a₀.toList) (hy:y∈a₀.toList) (h1:KY x<KY y->Q (some true) st) (h2:¬KY x<KY y->Q (some false) st):TQ J M A E (lt' x y) Q st:=by
 refine L x y st Q hx hy hk ?_
 by_cases c:KY x<KY y
 ·rw[wm c];exact h1 c
 ·rw[wA c];exact h2 c
def pace:Nat->StateT SortSt Sem Unit:=sortPriv% PySem.Builtin.setMinGallop
theorem zcv {n:Nat}{Q:Unit->SortSt->Prop}{st:SortSt}(h:∀st',Gs st st'->Q () st'):TQ J M A E (pace n) Q st:=by
 refine(?_:TQ J M A E (modify _) Q st)
 exact qu (h _ ⟨rL,rL,rL,rL⟩)
theorem VT {key:Keyed}{xs:Array Keyed}{b i:Nat}:bey KY true key xs b i=decide (kx KY xs (b+i)<KY key):=rfl
theorem VS {key:Keyed}{xs:Array Keyed}{b i:Nat}:bey KY false key xs b i = !decide (KY key<kx KY xs (b+i)):=rfl
set_option maxHeartbeats 16000000 in
theorem zju (L:HLt J M A E κ KY a₀){a b:Array Keyed}{Q:Array Keyed->SortSt->Prop}{st:SortSt}(hk:kindOf st=κ) (Sa:Sub a₀ a) (Sb:Sub a₀ b) (ha:1<=a.size) (hb:1<=b.size) (ua:Up KY a 0 a.size) (ub:Up KY b 0 b.size)
  (h0:kx KY b 0<=kx KY a 0) (hl:∀j,j<b.size->kx KY b j<=kx KY a (a.size - 1)) (h:∀out st',Res KY a b out->Gs st st'->Q out st'):TQ J M A E (mlo a b) Q st:=by
 refine zq (Xb ?_)
 try dsimp only
 obtain⟨b0,eb0,_⟩:=Sb.get hb
 refine zq (xr eb0 ?_)
 have m0:Mg KY a b #[b0] 0 1:=by
  have:Mg KY a b #[] 0 0:=⟨by simp,by simp,λx m=>by simp at m,λx m=>by simp at m⟩
  have:=this.pushR ub eb0 λi h1 h2=>yu h0 (ua 0 i (wg _) h1 h2)
  simpa using this
 by_cases c1:1=b.size
 ·rw[if_pos (by simpa using c1)];exact zw (h _ _ (m0.done ua ub ∅ ∅ (.inr c1)) .refl)
 rw[if_neg (by simpa using c1)]
 by_cases c2:0+1=a.size
 ·rw[if_pos (by simpa using c2)];exact zw (h _ _ (m0.last ua ub ∅ c2 hl) .refl)
 rw[if_neg (by simpa using c2)]
 refine zq (vJ ?_)
 refine zq (xQ (xP (I:=λx c st'=>∃out ia ib g,c=(none,out,ia,ib,g)/\Mg KY a b out ia ib/\ia+1<a.size/\ib<b.size/\1+x<=ia+ib/\Gs st st')
  (Q:=λc st'=>∃r,c.1=some r/\Res KY a b r/\Gs st st') ?_ ?_ ⟨_,0,1,_,rfl,m0,by lia,by lia,by lia,.refl⟩) ?_)
 rotate_left
 ·rintro c st' ⟨out,ia,ib,g,rfl,m,i1,i2,i3,_⟩;lia
 ·rintro ⟨c,c'⟩ st' ⟨r,e,R,G⟩
  subst e
  exact zw (h r st' R G)
 rintro x c st1 - hx hQq;rcases q:hQq with⟨out,ia,ib,g,rfl,m,i1,i2,i3,G1⟩
 try dsimp only
 refine zq (xQ (xP (I:=λx c st'=>st'=st1/\∃out ja jb ac bc,c=(none,out,ja,jb,ac,bc)/\Mg KY a b out ja jb/\ja+1<a.size/\jb<b.size/\ia+ib<=ja+jb)
  (Q:=λc st'=>st'=st1/\((∃r,c.1=some r/\Res KY a b r)\/∃out ja jb ac bc,c=(none,out,ja,jb,ac,bc)/\Mg KY a b out ja jb/\ja+1<a.size/\jb<b.size/\ia+ib<=ja+jb)) ?_ ?_ ⟨rfl,out,ia,ib,0,0,rfl,m,i1,i2,wg _⟩) ?_)
 ·rintro y c st2 - hy hQq;rcases q:hQq with⟨rfl,o,ja,jb,ac,bc,rfl,m2,j1,j2,j3⟩
  try dsimp only
  obtain⟨p,ep,mp⟩:=Sb.get j2
  obtain⟨q,eq,mq⟩:=Sa.get (show ja<a.size by lia)
  have kp:=zT (KY:=KY) ep
  have kq:=zT (KY:=KY) eq
  refine zq (xr ep (zq (xr eq (zq (zcu L (G1.kind.trans hk) mp mq (λz=>?_) (λz=>?_))))))
  ·try dsimp only
   rw[if_pos rfl]
   refine zq (xr ep ?_)
   have m3:=m2.pushR ub ep λi h1 h2=>by rw[kp];exact yu (yI z) (by rw[<-kq];exact ua ja i (w8 _) h1 h2)
   by_cases d:jb+1=b.size
   ·rw[if_pos (by simpa using d)];exact zw ⟨rfl,.inl ⟨_,rfl,m3.done ua ub ∅ ∅ (.inr d)⟩⟩
   rw[if_neg (by simpa using d)]
   split
   ·exact zw ⟨rfl,.inr ⟨_,_,_,_,_,rfl,m3,j1,by lia,by lia⟩⟩
   ·exact zw ⟨rfl,_,_,_,_,_,rfl,m3,j1,by lia,by lia⟩
  ·try dsimp only
   rw[if_neg (by simp)]
   refine zq (xr eq ?_)
   have m3:=m2.pushL ua eq λj h1 h2=>by rw[kq];exact yu (u9.mp z) (by rw[<-kp];exact ub jb j (w8 _) h1 h2)
   by_cases d:ja+1+1=a.size
   ·rw[if_pos (by simpa using d)];exact zw ⟨rfl,.inl ⟨_,rfl,m3.last ua ub ∅ d hl⟩⟩
   rw[if_neg (by simpa using d)]
   split
   ·exact zw ⟨rfl,.inr ⟨_,_,_,_,_,rfl,m3,by lia,j2,by lia⟩⟩
   ·exact zw ⟨rfl,_,_,_,_,_,rfl,m3,by lia,j2,by lia⟩
 ·rintro c st2 hQq;rcases q:hQq with⟨rfl,o,ja,jb,ac,bc,rfl,m2,j1,j2,j3⟩
  exact⟨rL,.inr ⟨o,ja,jb,ac,bc,rL,m2,j1,j2,j3⟩⟩
 rintro c st2 ⟨rfl,⟨r,e,R⟩ | ⟨o,ja,jb,ac,bc,rfl,m2,j1,j2,j3⟩⟩
 ·obtain⟨c,c'⟩:=c
  cases e
  exact zw ⟨r,rL,R,G1⟩
 try dsimp only
 refine zq (Xb ?_)
 refine zq (xQ (xP (I:=λx c st'=>Gs st st'/\∃out ka kb g ac bc,c=(none,out,ka,kb,g,ac,bc)/\Mg KY a b out ka kb/\ka+1<a.size/\kb<b.size/\ia+ib+min x 1<=ka+kb)
  (Q:=λc st'=>Gs st st'/\((∃r,c.1=some r/\Res KY a b r)\/∃out ka kb g ac bc,c=(none,out,ka,kb,g,ac,bc)/\Mg KY a b out ka kb/\ka+1<a.size/\kb<b.size/\ia+ib+1<=ka+kb)) ?_ ?_ ⟨G1,o,ja,jb,_,ac,bc,rfl,m2,j1,j2,by lia⟩) ?_)
 rotate_left
 ·rintro c st3 hQq;rcases q:hQq with⟨G3,o,ka,kb,g,ac,bc,rfl,m3,k1,k2,k3⟩
  exact⟨G3,.inr ⟨o,ka,kb,g,ac,bc,rfl,m3,k1,k2,by lia⟩⟩
 ·rintro c st3 ⟨G3,⟨r,e,R⟩ | ⟨o,ka,kb,g,ac,bc,rfl,m3,k1,k2,k3⟩⟩
  ·obtain⟨c,c'⟩:=c
   cases e
   exact zw ⟨r,rL,R,G3⟩
  ·try dsimp only
   exact zq (qu (zw ⟨o,ka,kb,_,rfl,m3,k1,k2,by lia,G3.trans ⟨rfl,rfl,rfl,rfl⟩⟩))
 rintro y c st3 - hy hQq;rcases q:hQq with⟨G3,o,ka,kb,g,ac,bc,rfl,m3,k1,k2,k3⟩
 try dsimp only
 obtain⟨p,ep,mp⟩:=Sb.get k2
 have kp:=zT (KY:=KY) ep
 generalize g - 1=g1
 revert g1
 refine zfF (g:=g) rL λg=>?_
 all_goals
  refine zq (zcv λst4 G4=>zq (xr ep ?_))
  replace G4:=G3.trans G4
  clear G3 st3
  refine zq (Xa L (KY:=KY) (G4.kind.trans hk) Sa mp ∅ ∅ (λi j h1 h2 h3=>ua i j (w8 _) h2 ∅) (λk kn kt kf=>?_))
  try dsimp only
  have kt2:∀i,ka<=i->i<ka+k->kx KY a i<=KY p:=λi h1 h2=>by
   have:=kt (i - ka) ∅
   rw[VS,show ka+(i - ka)=i by lia]at this
   simpa using this
  have kf2:∀i,ka+k<=i->i<a.size->KY p<=kx KY a i:=λi h1 h2=>by
   have:=kf (i - ka) ∅ ∅
   rw[VS,show ka+(i - ka)=i by lia]at this
   have:KY p<kx KY a i:=by simpa using this
   exact yI this
  have m4:=m3.left ua (k:=k) λi j h1 h2 h3 h4 h5=>yu (kt2 i h1 h2) (by rw[<-kp];exact ub kb j (w8 _) h4 h5)
  rcases uD k with k0 | k0
 all_goals first
  | (rw[if_neg (show ¬k>0 by lia)]
     have e0:o++a.extract ka (ka+k)=o:=by subst k0;apply u7.mp;rw[yD,Z5,Wv,yB]
     rw[e0]at m4
     have i1:ka+k+1<a.size:=by lia
     rw[show ka+k=ka by lia]at m4 i1 kf2
     generalize hia:ka=ja at *
     generalize hoo:o=oo at *)
  | (rw[if_pos k0]
     by_cases d1:ka+k+1=a.size
     ·rw[if_pos (by simpa using d1)];exact zw ⟨G4,.inl ⟨_,rfl,m4.last ua ub ∅ d1 hl⟩⟩
     rw[if_neg (by simpa using d1)]
     by_cases d2:ka+k=a.size
     ·rw[if_pos (by simpa using d2)];exact zw ⟨G4,.inl ⟨_,rfl,m4.done ua ub ∅ ∅ (.inl d2)⟩⟩
     rw[if_neg (by simpa using d2)]
     have i1:ka+k+1<a.size:=by lia
     generalize hia:ka+k=ja at *
     generalize hoo:o++a.extract ka ja=oo at *)
 all_goals
  refine zq (xr ep ?_)
  have m5:=m4.pushR ub ep λi h1 h2=>by rw[kp];exact kf2 i h1 h2
  generalize oo.push p=o5 at m5 ⊢
  by_cases d3:kb+1=b.size
  ·rw[if_pos (by simpa using d3)];exact zw ⟨G4,.inl ⟨_,rfl,m5.done ua ub ∅ ∅ (.inr d3)⟩⟩
  rw[if_neg (by simpa using d3)]
  obtain⟨q,eq,mq⟩:=Sa.get (show ja<a.size by lia)
  have kq:=zT (KY:=KY) eq
  refine zq (xr eq (zq ?_))
  refine Xa L (KY:=KY) (G4.kind.trans hk) Sb mq ∅ ∅ (λi j h1 h2 h3=>ub i j (w8 _) h2 ∅) (λr rn rt rf=>?_)
  try dsimp only
  have rt2:∀i,kb+1<=i->i<kb+1+r->kx KY b i<=KY q:=λi h1 h2=>by
   have:=rt (i - (kb+1)) ∅
   rw[VT,show kb+1+(i - (kb+1))=i by lia]at this
   exact yI (wG this)
  have rf2:∀i,kb+1+r<=i->i<b.size->KY q<=kx KY b i:=λi h1 h2=>by
   have:=rf (i - (kb+1)) ∅ ∅
   rw[VT,show kb+1+(i - (kb+1))=i by lia]at this
   exact u9.mp (of_decide_eq_false this)
  have m6:=m5.right ub (k:=r) λi j h1 h2 h3 h4 h5=>yu (rt2 j h1 h2) (by rw[<-kq];exact ua ja i (w8 _) h4 h5)
  rcases uD r with r0 | r0
 all_goals first
  | (rw[if_neg (show ¬r>0 by lia)]
     have e6:o5++b.extract (kb+1) (kb+1+r)=o5:=by subst r0;apply u7.mp;rw[yD,Z5,Wv,yB]
     rw[e6]at m6
     rw[show kb+1+r=kb+1 by lia]at m6 rf2
     have i6:kb+1<b.size:=by lia
     have j6:kb<=kb+1:=by lia
     generalize kb+1=kc at *
     generalize hoo6:o5=o6 at *)
  | (rw[if_pos r0]
     by_cases d4:kb+1+r=b.size
     ·rw[if_pos (by simpa using d4)];exact zw ⟨G4,.inl ⟨_,rfl,m6.done ua ub ∅ ∅ (.inr d4)⟩⟩
     rw[if_neg (by simpa using d4)]
     have i6:kb+1+r<b.size:=by lia
     have j6:kb<=kb+1+r:=by lia
     generalize hoo6:o5++b.extract (kb+1) (kb+1+r)=o6 at *
     generalize kb+1+r=kc at *)
 all_goals
  refine zq (xr eq ?_)
  have m7:=m6.pushL ua eq λj h1 h2=>by rw[kq];exact rf2 j h1 h2
  by_cases d5:ja+1+1=a.size
  ·rw[if_pos (by simpa using d5)];exact zw ⟨G4,.inl ⟨_,rfl,m7.last ua ub ∅ d5 hl⟩⟩
  rw[if_neg (by simpa using d5)]
  split
  ·exact zw ⟨G4,.inr ⟨_,_,_,_,_,_,rfl,m7,by lia,by lia,by lia⟩⟩
  ·exact zw ⟨G4,_,_,_,_,_,_,rfl,m7,by lia,by lia,by lia⟩
variable {J:Shared->Prop}{M:Model}{A:Around}{E:Value->Shared->Prop}{KY:Keyed->Int}{a₀:Array Keyed}{κ:SortKind}
structure Mh (KY:Keyed->Int) (a b out:Array Keyed) (na nb:Nat):Prop where
 pm:(a.toList.take na++(b.toList.take nb++out.toList.reverse)).Perm (a.toList++b.toList)
 so:out.toList.reverse.Pairwise λx y=>KY x<=KY y
 ca:∀x,x∈out.toList->∀i,i<na->i<a.size->kx KY a i<=KY x
 cb:∀x,x∈out.toList->∀j,j<nb->j<b.size->kx KY b j<=KY x
theorem Jq {xs:Array Keyed}{i n:Nat}(h:i<=n):xs.toList.take n=xs.toList.take i++(xs.extract i n).toList:=by
 have e:n=i+(n - i):=by omega
 rw[e,Z5,List.take_add]
theorem qV {xs:Array Keyed}{i n:Nat}{p:Keyed}(h:p∈(xs.extract i n).toList):∃m,i<=m/\m<n/\m<xs.size/\xs[m]? = some p:=by
 rcases Nat.le_total i n with c | c
 ·rw[show n=i+(n - i) by omega]at h
  obtain⟨m,h1,h2,h3,h4⟩:=vE h
  exact⟨m,h1,by omega,h3,h4⟩
 ·have:(xs.extract i n).toList=[]:=by rw[Array.toList_extract,YE,show n - i=0 by omega,Wv]
  rw[this]at h;cases h
theorem zau {xs:Array Keyed}{i n:Nat}(u:Up KY xs 0 xs.size) (h:i<=n):(xs.extract i n).toList.Pairwise λx y=>KY x<=KY y:=by
 rw[show n=i+(n - i) by omega];exact JQ u
section
variable {a b out:Array Keyed}{na nb:Nat}
theorem QT (o p:Array Keyed):(o++p.reverse).toList.reverse=p.toList++o.toList.reverse:=by simp
theorem QZ {o p:Array Keyed}{x:Keyed}(h:x∈(o++p.reverse).toList):x∈o.toList\/x∈p.toList:=by
 rw[yD,wQ,Yg,Yd]at h;exact h
theorem Mh.left (h:Mh KY a b out na nb) (ua:Up KY a 0 a.size){m:Nat}(hm:m<=na) (hc:∀i j,m<=i->i<na->i<a.size->j<nb->j<b.size->kx KY b j<=kx KY a i):Mh KY a b (out++(a.extract m na).reverse) m nb:=by
 refine⟨?_,?_,λx mx i h1 h2=>?_,λx mx j h1 h2=>?_⟩
 ·have:=h.pm
  rw[Jq (xs:=a) hm]at this
  rw[QT]
  refine List.Perm.trans ?_ this
  rw[yF]
  refine List.Perm.append_left _ ?_
  rw[<-yF,<-yF]
  exact List.Perm.append_right _ W6
 ·rw[QT]
  refine X8 (zau ua hm) h.so λx hx y hy=>?_
  obtain⟨n,n1,n2,n3,e⟩:=qV hx
  rw[<-zT (KY:=KY) e];exact h.ca y (Yd.mp hy) n n2 n3
 ·rcases QZ mx with mx | mx
  ·exact h.ca x mx i ∅ h2
  ·obtain⟨n,n1,n2,n3,e⟩:=qV mx
   rw[<-zT (KY:=KY) e];exact ua i n (w8 _) ∅ n3
 ·rcases QZ mx with mx | mx
  ·exact h.cb x mx j h1 h2
  ·obtain⟨n,n1,n2,n3,e⟩:=qV mx
   rw[<-zT (KY:=KY) e];exact hc n j n1 n2 n3 h1 h2
theorem Mh.right (h:Mh KY a b out na nb) (ub:Up KY b 0 b.size){m:Nat}(hm:m<=nb) (hc:∀i j,m<=j->j<nb->j<b.size->i<na->i<a.size->kx KY a i<=kx KY b j):Mh KY a b (out++(b.extract m nb).reverse) na m:=by
 refine⟨?_,?_,λx mx i h1 h2=>?_,λx mx j h1 h2=>?_⟩
 ·have:=h.pm
  rw[Jq (xs:=b) hm]at this
  rw[QT]
  simpa [yF]using this
 ·rw[QT]
  refine X8 (zau ub hm) h.so λx hx y hy=>?_
  obtain⟨n,n1,n2,n3,e⟩:=qV hx
  rw[<-zT (KY:=KY) e];exact h.cb y (Yd.mp hy) n n2 n3
 ·rcases QZ mx with mx | mx
  ·exact h.ca x mx i h1 h2
  ·obtain⟨n,n1,n2,n3,e⟩:=qV mx
   rw[<-zT (KY:=KY) e];exact hc i n n1 n2 n3 h1 h2
 ·rcases QZ mx with mx | mx
  ·exact h.cb x mx j ∅ h2
  ·obtain⟨n,n1,n2,n3,e⟩:=qV mx
   rw[<-zT (KY:=KY) e];exact ub j n (w8 _) ∅ n3
theorem Jh {xs:Array Keyed}{n:Nat}{p:Keyed}(e:xs[n - 1]? = some p) (h:1<=n):(xs.extract (n - 1) n).reverse = #[p]:=by
 have:=Vp e
 rw[show n - 1+1=n by lia]at this
 rw[this];rfl
theorem Mh.pushL (h:Mh KY a b out na nb) (ua:Up KY a 0 a.size){p:Keyed}(h1:1<=na) (e:a[na - 1]? = some p) (hc:∀j,j<nb->j<b.size->kx KY b j<=kx KY a (na - 1)):Mh KY a b (out.push p) (na - 1) nb:=by
 have:=h.left ua (m:=na - 1) ∅ λi j h1 h2 h3 h4 h5=>by rw[show i=na - 1 by lia];exact hc j h4 h5
 rw[Jh e h1]at this;exact this
theorem Mh.pushR (h:Mh KY a b out na nb) (ub:Up KY b 0 b.size){p:Keyed}(h1:1<=nb) (e:b[nb - 1]? = some p) (hc:∀i,i<na->i<a.size->kx KY a i<=kx KY b (nb - 1)):Mh KY a b (out.push p) na (nb - 1):=by
 have:=h.right ub (m:=nb - 1) ∅ λi j h1 h2 h3 h4 h5=>by rw[show j=nb - 1 by lia];exact hc i h4 h5
 rw[Jh e h1]at this;exact this
theorem Mh.all (h:Mh KY a b out 0 0):Res KY a b out.reverse:=by
 have:=h.pm
 rw[Wv,Wv,WL,WL]at this
 exact⟨by rw[Yg];exact this,by rw[Yg];exact h.so⟩
theorem Q6 (o p:Array Keyed):(o++p.reverse).reverse=p++o.reverse:=by
 apply u7.mp;simp
theorem Mh.done (h:Mh KY a b out na nb) (ua:Up KY a 0 a.size) (ub:Up KY b 0 b.size) (e:na=0\/nb=0):Res KY a b (a.extract 0 na++b.extract 0 nb++out.reverse):=by
 have:=((h.right ub (m:=0) ∅ λi j h1 h2 h3 h4 h5=>by lia).left ua (m:=0) ∅ λi j h1 h2 h3 h4 h5=>by lia).all
 rw[Q6,Q6,<-WG]at this;exact this
theorem Mh.first (h:Mh KY a b out na nb) (ua:Up KY a 0 a.size) (ub:Up KY b 0 b.size) (e:nb=1) (h0:kx KY b 0<=kx KY a 0):Res KY a b (b.extract 0 nb++a.extract 0 na++out.reverse):=by
 have:=((h.left ua (m:=0) ∅ λi j h1 h2 h3 h4 h5=>by rw[show j=0 by lia];exact yu h0 (ua 0 i (wg _) ∅ h3)).right ub (m:=0) ∅ λi j h1 h2 h3 h4 h5=>by lia).all
 rw[Q6,Q6,<-WG]at this;exact this
end
def mhi:Array Keyed->Array Keyed->StateT SortSt Sem (Array Keyed):=sortPriv% PySem.Builtin.mergeHi
set_option maxHeartbeats 16000000 in
theorem zjt (L:HLt J M A E κ KY a₀){a b:Array Keyed}{Q:Array Keyed->SortSt->Prop}{st:SortSt}(hk:kindOf st=κ) (Sa:Sub a₀ a) (Sb:Sub a₀ b) (ha:1<=a.size) (hb:1<=b.size) (ua:Up KY a 0 a.size) (ub:Up KY b 0 b.size)
  (h0:kx KY b 0<=kx KY a 0) (hl:∀j,j<b.size->kx KY b j<=kx KY a (a.size - 1)) (h:∀out st',Res KY a b out->Gs st st'->Q out st'):TQ J M A E (mhi a b) Q st:=by
 refine zq (Xb ?_)
 try dsimp only
 obtain⟨a0,ea0,_⟩:=Sa.get (show a.size - 1<a.size by lia)
 refine zq (xr ea0 ?_)
 have m0:Mh KY a b #[a0] (a.size - 1) b.size:=by
  have:Mh KY a b #[] a.size b.size:=⟨by rw[show a.size=a.toList.length by simp,show b.size=b.toList.length by simp,yt,yt];simp,by simp,λx m=>by simp at m,λx m=>by simp at m⟩
  have:=this.pushL ua ha ea0 λj h1 h2=>hl j h1
  simpa using this
 by_cases c1:a.size - 1=0
 ·rw[if_pos (by simpa using c1)]
  have R:=m0.done ua ub (.inl c1)
  exact zw (h _ _ R .refl)
 rw[if_neg (by simpa using c1)]
 by_cases c2:b.size=1
 ·rw[if_pos (by simpa using c2)];exact zw (h _ _ (m0.first ua ub c2 h0) .refl)
 rw[if_neg (by simpa using c2)]
 refine zq (vJ ?_)
 refine zq (xQ (xP (I:=λx c st'=>∃na nb out g,c=(none,na,nb,out,g)/\Mh KY a b out na nb/\1<=na/\na<=a.size/\2<=nb/\nb<=b.size/\na+nb+1+x<=a.size+b.size/\Gs st st')
  (Q:=λc st'=>∃r,c.1=some r/\Res KY a b r/\Gs st st') ?_ ?_ ⟨a.size - 1,b.size,_,_,rfl,m0,by lia,by lia,by lia,by lia,by lia,.refl⟩) ?_)
 rotate_left
 ·rintro c st' ⟨na,nb,out,g,rfl,m,i1,i2,i3,i4,i5,_⟩;lia
 ·rintro ⟨c,c'⟩ st' ⟨r,e,R,G⟩
  subst e
  exact zw (h r st' R G)
 rintro x c st1 - hx hQq;rcases q:hQq with⟨na,nb,out,g,rfl,m,i1,i2,i3,i4,i5,G1⟩
 try dsimp only
 refine zq (xQ (xP (I:=λx c st'=>st'=st1/\∃ja jb out ac bc,c=(none,ja,jb,out,ac,bc)/\Mh KY a b out ja jb/\1<=ja/\ja<=na/\2<=jb/\jb<=nb)
  (Q:=λc st'=>st'=st1/\((∃r,c.1=some r/\Res KY a b r)\/∃ja jb out ac bc,c=(none,ja,jb,out,ac,bc)/\Mh KY a b out ja jb/\1<=ja/\ja<=na/\2<=jb/\jb<=nb)) ?_ ?_ ⟨rfl,na,nb,out,0,0,rfl,m,i1,wg _,i3,wg _⟩) ?_)
 ·rintro y c st2 - hy hQq;rcases q:hQq with⟨rfl,ja,jb,o,ac,bc,rfl,m2,j1,j2,j3,j4⟩
  try dsimp only
  obtain⟨p,ep,mp⟩:=Sb.get (show jb - 1<b.size by lia)
  obtain⟨q,eq,mq⟩:=Sa.get (show ja - 1<a.size by lia)
  have kp:=zT (KY:=KY) ep
  have kq:=zT (KY:=KY) eq
  refine zq (xr ep (zq (xr eq (zq (zcu L (G1.kind.trans hk) mp mq (λz=>?_) (λz=>?_))))))
  ·try dsimp only
   rw[if_pos rfl]
   refine zq (xr eq ?_)
   have m3:=m2.pushL ua j1 eq λj h1 h2=>by rw[kq];exact yu (by rw[<-kp];exact ub j (jb - 1) (w8 _) ∅ ∅) (yI z)
   by_cases d:ja - 1=0
   ·rw[if_pos (by simpa using d)];exact zw ⟨rfl,.inl ⟨_,rfl,m3.done ua ub (.inl d)⟩⟩
   rw[if_neg (by simpa using d)]
   split
   ·exact zw ⟨rfl,.inr ⟨_,_,_,_,_,rfl,m3,by lia,by lia,j3,j4⟩⟩
   ·exact zw ⟨rfl,_,_,_,_,_,rfl,m3,by lia,by lia,j3,j4⟩
  ·try dsimp only
   rw[if_neg (by simp)]
   refine zq (xr ep ?_)
   have m3:=m2.pushR ub ∅ ep λi h1 h2=>by rw[kp];exact yu (by rw[<-kq];exact ua i (ja - 1) (w8 _) ∅ ∅) (u9.mp z)
   by_cases d:jb - 1=1
   ·rw[if_pos (by simpa using d)];exact zw ⟨rfl,.inl ⟨_,rfl,m3.first ua ub d h0⟩⟩
   rw[if_neg (by simpa using d)]
   split
   ·exact zw ⟨rfl,.inr ⟨_,_,_,_,_,rfl,m3,j1,j2,by lia,by lia⟩⟩
   ·exact zw ⟨rfl,_,_,_,_,_,rfl,m3,j1,j2,by lia,by lia⟩
 ·rintro c st2 ⟨rfl,z⟩
  exact⟨rL,.inr z⟩
 rintro c st2 ⟨rfl,⟨r,e,R⟩ | ⟨ja,jb,o,ac,bc,rfl,m2,j1,j2,j3,j4⟩⟩
 ·obtain⟨c,c'⟩:=c
  cases e
  exact zw ⟨r,rL,R,G1⟩
 try dsimp only
 refine zq (Xb ?_)
 refine zq (xQ (xP (I:=λx c st'=>Gs st st'/\∃ka kb out g ac bc,c=(none,ka,kb,out,g,ac,bc)/\Mh KY a b out ka kb/\1<=ka/\ka<=na/\2<=kb/\kb<=nb/\ka+kb+min x 1<=na+nb)
  (Q:=λc st'=>Gs st st'/\((∃r,c.1=some r/\Res KY a b r)\/∃ka kb out g ac bc,c=(none,ka,kb,out,g,ac,bc)/\Mh KY a b out ka kb/\1<=ka/\ka<=na/\2<=kb/\kb<=nb/\ka+kb+1<=na+nb)) ?_ ?_ ⟨G1,ja,jb,o,_,ac,bc,rfl,m2,j1,j2,j3,j4,by lia⟩) ?_)
 rotate_left
 ·rintro c st3 hQq;rcases q:hQq with⟨G3,ka,kb,o,g,ac,bc,rfl,m3,k1,k2,k3,k4,k5⟩
  exact⟨G3,.inr ⟨ka,kb,o,g,ac,bc,rfl,m3,k1,k2,k3,k4,by lia⟩⟩
 ·rintro c st3 ⟨G3,⟨r,e,R⟩ | ⟨ka,kb,o,g,ac,bc,rfl,m3,k1,k2,k3,k4,k5⟩⟩
  ·obtain⟨c,c'⟩:=c
   cases e
   exact zw ⟨r,rL,R,G3⟩
  ·try dsimp only
   exact zq (qu (zw ⟨ka,kb,o,_,rfl,m3,k1,by lia,k3,by lia,by lia,G3.trans ⟨rfl,rfl,rfl,rfl⟩⟩))
 rintro y c st3 - hy hQq;rcases q:hQq with⟨G3,ka,kb,o,g,ac,bc,rfl,m3,k1,k2,k3,k4,k5⟩
 try dsimp only
 obtain⟨p,ep,mp⟩:=Sb.get (show kb - 1<b.size by lia)
 have kp:=zT (KY:=KY) ep
 generalize g - 1=g1
 revert g1
 refine zfF (g:=g) rL λg=>?_
 all_goals
  refine zq (zcv λst4 G4=>zq (xr ep ?_))
  replace G4:=G3.trans G4
  clear G3 st3
  refine zq (Xa L (KY:=KY) (G4.kind.trans hk) Sa mp ∅ ∅ (λi j h1 h2 h3=>ua i j (w8 _) h2 ∅) (λk kn kt kf=>?_))
  try dsimp only
  have kt2:∀i,i<k->kx KY a i<=KY p:=λi h1=>by
   have:=kt i h1
   rw[VS,Y8]at this
   simpa using this
  have kf2:∀i,k<=i->i<ka->KY p<=kx KY a i:=λi h1 h2=>by
   have:=kf i h1 h2
   rw[VS,Y8]at this
   have:KY p<kx KY a i:=by simpa using this
   exact yI this
  have m4:=m3.left ua (m:=k) kn λi j h1 h2 h3 h4 h5=>yu (by rw[<-kp];exact ub j (kb - 1) (w8 _) ∅ ∅) (kf2 i h1 h2)
  rcases uD (ka - k)with k0 | k0
 all_goals first
  | (rw[if_neg (show ¬ka - k>0 by lia)]
     obtain rfl:k=ka:=by lia
     have e0:o++(a.extract k k).reverse=o:=by apply u7.mp;simp
     rw[e0]at m4
     have l1:1<=k:=k1
     have l2:k<=na:=k2
     generalize hia:k=la at *
     generalize hoo:o=oo at *)
  | (rw[if_pos k0]
     by_cases d1:k=0
     ·rw[if_pos (by simpa using d1)];exact zw ⟨G4,.inl ⟨_,rfl,m4.done ua ub (.inl d1)⟩⟩
     rw[if_neg (by simpa using d1)]
     have l1:1<=k:=by lia
     have l2:k<=na:=by lia
     generalize hoo:o++(a.extract k ka).reverse=oo at *
     generalize hia:k=la at *)
 all_goals
  refine zq (xr ep ?_)
  have m5:=m4.pushR ub ∅ ep λi h1 h2=>by rw[kp];exact kt2 i h1
  generalize oo.push p=o5 at m5 ⊢
  by_cases d3:kb - 1=1
  ·rw[if_pos (by simpa using d3)];exact zw ⟨G4,.inl ⟨_,rfl,m5.first ua ub d3 h0⟩⟩
  rw[if_neg (by simpa using d3)]
  obtain⟨q,eq,mq⟩:=Sa.get (show la - 1<a.size by lia)
  have kq:=zT (KY:=KY) eq
  refine zq (xr eq (zq ?_))
  refine Xa L (KY:=KY) (G4.kind.trans hk) Sb mq ∅ ∅ (λi j h1 h2 h3=>ub i j (w8 _) h2 ∅) (λr rn rt rf=>?_)
  try dsimp only
  have rt2:∀i,i<r->kx KY b i<=KY q:=λi h1=>by
   have:=rt i h1
   rw[VT,Y8]at this
   exact yI (wG this)
  have rf2:∀i,r<=i->i<kb - 1->KY q<=kx KY b i:=λi h1 h2=>by
   have:=rf i h1 h2
   rw[VT,Y8]at this
   exact u9.mp (of_decide_eq_false this)
  have m6:=m5.right ub (m:=r) rn λi j h1 h2 h3 h4 h5=>yu (by rw[<-kq];exact ua i (la - 1) (w8 _) ∅ ∅) (rf2 j h1 h2)
  rcases uD (kb - 1 - r)with r0 | r0
 all_goals first
  | (rw[if_neg (show ¬kb - 1 - r>0 by lia)]
     have er:r=kb - 1:=by lia
     have e6:o5++(b.extract r (kb - 1)).reverse=o5:=by rw[er];apply u7.mp;simp
     rw[e6,er]at m6
     rw[er]at rt2
     have q1:2<=kb - 1:=by lia
     have q2:kb - 1+1<=kb:=by lia
     generalize kb - 1=kc at *
     generalize hoo6:o5=o6 at *)
  | (rw[if_pos r0]
     by_cases d4:r=1
     ·rw[if_pos (by simpa using d4)];exact zw ⟨G4,.inl ⟨_,rfl,m6.first ua ub d4 h0⟩⟩
     rw[if_neg (by simpa using d4)]
     by_cases d5:r=0
     ·rw[if_pos (by simpa using d5)];exact zw ⟨G4,.inl ⟨_,rfl,m6.done ua ub (.inr d5)⟩⟩
     rw[if_neg (by simpa using d5)]
     have q1:2<=r:=by lia
     have q2:r+1<=kb:=by lia
     generalize hoo6:o5++(b.extract r (kb - 1)).reverse=o6 at *
     generalize r=kc at *)
 all_goals
  refine zq (xr eq ?_)
  have m7:=m6.pushL ua l1 eq λj h1 h2=>by rw[kq];exact rt2 j h1
  by_cases d6:la - 1=0
  ·rw[if_pos (by simpa using d6)];exact zw ⟨G4,.inl ⟨_,rfl,m7.done ua ub (.inl d6)⟩⟩
  rw[if_neg (by simpa using d6)]
  split
  ·exact zw ⟨G4,.inr ⟨_,_,_,_,_,_,rfl,m7,by lia,by lia,by lia,by lia,by lia⟩⟩
  ·exact zw ⟨G4,_,_,_,_,_,_,rfl,m7,by lia,by lia,by lia,by lia,by lia⟩
variable {J:Shared->Prop}{M:Model}{A:Around}{E:Value->Shared->Prop}{KY:Keyed->Int}{a₀:Array Keyed}{κ:SortKind}
def Rn (KY:Keyed->Int) (xs:Array Keyed):Nat->List (Nat×Nat×Nat)->Nat->Prop
 | s,[],e=>s=e
 | s,p::P,e=>p.1=s/\1<=p.2.1/\Up KY xs s (s+p.2.1)/\Rn KY xs (s+p.2.1) P e
theorem Rn.le {xs:Array Keyed}:∀{P:List (Nat×Nat×Nat)}{s e:Nat},Rn KY xs s P e->s+P.length<=e
 | [],s,e,h=>by have h':s=e:=h;rw[h'];exact wg _
 | p::P,s,e,h=>by
  obtain⟨_,h1,_,h2⟩:=h
  have:=Rn.le h2
  rw[ww];lia
theorem Vs {xs:Array Keyed}:∀{P R:List (Nat×Nat×Nat)}{s e:Nat},Rn KY xs s (P++R) e↔∃m,Rn KY xs s P m/\Rn KY xs m R e
 | [],R,s,e=>⟨λh=>⟨s,rfl,h⟩,λ⟨m,h1,h2⟩=>by have h':s=m:=h1;rw[h'];exact h2⟩
 | p::P,R,s,e=>⟨λ⟨h1,h2,h3,h4⟩=>let ⟨m,h5,h6⟩:=Vs.mp h4;⟨m,⟨h1,h2,h3,h5⟩,h6⟩,λ⟨m,⟨h1,h2,h3,h5⟩,h6⟩=>⟨h1,h2,h3,Vs.mpr ⟨m,h5,h6⟩⟩⟩
theorem Rn.keep {xs ys:Array Keyed}:∀{P:List (Nat×Nat×Nat)}{s e:Nat},(∀i,s<=i->i<e->kx KY ys i=kx KY xs i)->Rn KY xs s P e->Rn KY ys s P e
 | [],s,e,_,h=>h
 | p::P,s,e,k,h=>by
  obtain⟨h1,h2,h3,h4⟩:=h
  have:=Rn.le h4
  exact⟨h1,h2,λi j i1 i2 i3=>by rw[k i i1 ∅,k j ∅ ∅];exact h3 i j i1 i2 i3,Rn.keep (λi a b=>k i ∅ b) h4⟩
theorem Rn.like {xs:Array Keyed}:∀{P R:List (Nat×Nat×Nat)}{s e:Nat},R.map (λp=>(p.1,p.2.1))=P.map (λp=>(p.1,p.2.1))->Rn KY xs s P e->Rn KY xs s R e
 | [],[],s,e,_,h=>h
 | [],_::_,s,e,z,h=>by simp at z
 | _::_,[],s,e,z,h=>by simp at z
 | p::P,r::R,s,e,z,h=>by
  obtain⟨h1,h2,h3,h4⟩:=h
  rw[yA,yA]at z
  obtain⟨z1,z2⟩:=List.cons.inj z
  obtain⟨z3,z4⟩:=Prod.mk.inj z1
  exact⟨z3.trans h1,by rw[z4];exact h2,by rw[z4];exact h3,by rw[z4];exact Rn.like z2 h4⟩
theorem Va {xs:Array Keyed}{s m e:Nat}(h1:Up KY xs s m) (h2:Up KY xs m e) (h:∀i j,s<=i->i<m->m<=j->j<e->kx KY xs i<=kx KY xs j):Up KY xs s e:=λi j i1 i2 i3=>by
 by_cases c:j<m
 ·exact h1 i j i1 i2 c
 ·by_cases d:m<=i
  ·exact h2 i j d i2 i3
  ·exact h i j i1 ∅ ∅ i3
def wr (xs:Array Keyed) (o:Nat) (l:List Keyed) (n:Nat):Array Keyed:=(l.zipIdx n).foldl (λa x=>a.setIfInBounds (o+x.2) x.1) xs
theorem zbD (o:Nat):∀(l:List Keyed) (n:Nat) (xs:Array Keyed),o+n+l.length<=xs.size->∀j,(wr xs o l n)[j]? = if o+n<=j/\j<o+n+l.length then l[j - (o+n)]? else xs[j]?
 | [],n,xs,h,j=>by rw[if_neg (by simp)];rfl
 | p::l,n,xs,h,j=>by
  rw[ww]at h ⊢
  show (wr (xs.setIfInBounds (o+n) p) o l (n+1))[j]? = _
  rw[zbD o l (n+1) _ (by rw[Array.size_setIfInBounds];lia) j,Array.getElem?_setIfInBounds]
  by_cases c:j=o+n
  ·subst c
   rw[if_neg ∅,if_pos rfl,if_pos ∅,if_pos ∅,Wg];rfl
  ·rw[if_neg (show ¬o+n=j by lia)]
   by_cases d:o+n+1<=j/\j<o+n+1+l.length
   ·rw[if_pos ∅,if_pos ∅,show j - (o+n)=j - (o+(n+1))+1 by lia];rfl
   ·rw[if_neg ∅,if_neg ∅]
theorem zhd {xs:Array Keyed}{o:Nat}{l:List Keyed}(h:o+l.length<=xs.size):(wr xs o l 0).toList=xs.toList.take o++(l++xs.toList.drop (o+l.length)):=by
 apply uI
 intro j
 rw[wL,zbD o l 0 xs ∅,Nat.add_zero]
 have hs:xs.toList.length=xs.size:=wJ
 by_cases c1:j<o
 ·rw[if_neg ∅,wU (by rw[yj];lia),Wz c1,wL]
 ·rw[wN (by rw[yj];lia),yj,hs,show min o xs.size=o by lia]
  by_cases c2:j<o+l.length
  ·rw[if_pos ∅,wU ∅]
  ·rw[if_neg ∅,wN ∅,WM,<-wL]
   congr 1;lia
theorem vb {xs:Array Keyed}{i n j:Nat}(h:i+j<n):kx KY (xs.extract i n) j=kx KY xs (i+j):=by
 refine xN ?_
 rw[Wa]
 by_cases c:i+j<xs.size
 ·rw[if_pos (by omega)]
 ·rw[if_neg (by omega),uw (by omega)]
theorem Q9 {xs:Array Keyed}{i n:Nat}(h:n<=xs.size):(xs.extract i n).size=n - i:=by rw[Array.size_extract];lia
theorem Qf {xs:Array Keyed}{i n:Nat}(h:Sub a₀ xs):Sub a₀ (xs.extract i n):=λp m=>by
 obtain⟨q,_,_,_,e⟩:=qV m
 exact h p (by obtain⟨h1,h2⟩:=wR.mp e;rw[<-h2];simp)
theorem Res.key {a b out:Array Keyed}(R:Res KY a b out){j:Nat}(hj:j<out.size):(∃i,i<a.size/\kx KY out j=kx KY a i)\/∃i,i<b.size/\kx KY out j=kx KY b i:=by
 have e:out[j]? = some out[j]:=wK hj
 have m:out[j]∈out.toList:=by simp
 rcases wQ.mp (R.pm.mem_iff.mp m)with m | m
 ·obtain⟨i,hi⟩:=Wi.mp m
  rw[wL]at hi
  exact .inl ⟨i,(wR.mp hi).1,by rw[zT e,zT hi]⟩
 ·obtain⟨i,hi⟩:=Wi.mp m
  rw[wL]at hi
  exact .inr ⟨i,(wR.mp hi).1,by rw[zT e,zT hi]⟩
theorem Res.up {a b out:Array Keyed}(R:Res KY a b out):Up KY out 0 out.size:=λi j _ h2 h3=>by
 rcases Yw h2 with c | c
 ·rw[c];exact uQ _
 ·have:=Wu.mp R.so i j (by rw[wJ];lia) (by rw[wJ];exact h3) c
  rw[zT (wK (show i<out.size by lia)),zT (wK h3)]
  simpa using this
theorem zc9 {xs out:Array Keyed}{sa na nb k n:Nat}(hz:sa+na+nb<=xs.size) (hk:k<na) (hn:n<=nb) (ua:Up KY xs sa (sa+na)) (ub:Up KY xs (sa+na) (sa+na+nb))
  (k1:∀i,i<k->kx KY xs (sa+i)<=kx KY xs (sa+na)) (k2:∀i,n<=i->i<nb->kx KY xs (sa+na - 1)<=kx KY xs (sa+na+i)) (n0:1<=n)
  (R:Res KY (xs.extract (sa+k) (sa+na)) (xs.extract (sa+na) (sa+na+n)) out) :
  (wr xs (sa+k) out.toList 0).Perm xs/\Up KY (wr xs (sa+k) out.toList 0) sa (sa+na+nb)/\∀j,j<sa\/sa+na+nb<=j->(wr xs (sa+k) out.toList 0)[j]? = xs[j]?:=by
 have s1:=Q9 (xs:=xs) (i:=sa+k) (n:=sa+na) ∅
 have s2:=Q9 (xs:=xs) (i:=sa+na) (n:=sa+na+n) ∅
 have so:out.toList.length=na - k+n:=by rw[R.pm.length_eq,wI,wJ,wJ,s1,s2];lia
 have so2:out.size=na - k+n:=by rw[<-so,wJ]
 have hw:=zbD (sa+k) out.toList 0 xs ∅
 have kin:∀j,sa+k<=j->j<sa+na+n->kx KY (wr xs (sa+k) out.toList 0) j=kx KY out (j - (sa+k)):=λj h1 h2=>xN (by rw[hw,if_pos ∅,wL,Nat.add_zero])
 have kout:∀j,j<sa+k\/sa+na+n<=j->kx KY (wr xs (sa+k) out.toList 0) j=kx KY xs j:=λj h1=>xN (by rw[hw,if_neg ∅])
 have mem:∀j,j<out.size->(∃i,k<=i/\i<na/\kx KY out j=kx KY xs (sa+i))\/∃i,i<n/\kx KY out j=kx KY xs (sa+na+i):=λj hj=>by
  rcases R.key hj with⟨i,h1,h2⟩ | ⟨i,h1,h2⟩
  ·rw[s1]at h1
   refine .inl ⟨k+i,by lia,by lia,?_⟩
   rw[h2,vb ∅,Nat.add_assoc]
  ·rw[s2]at h1
   exact .inr ⟨i,by lia,by rw[h2,vb ∅]⟩
 refine⟨?_,?_,λj h=>?_⟩
 ·rw[Yq,zhd ∅,so]
  have e1:xs.toList=xs.toList.take (sa+k)++(((xs.extract (sa+k) (sa+na)).toList++(xs.extract (sa+na) (sa+na+n)).toList)++xs.toList.drop (sa+na+n)):=by
   have h1:=ZX (xs:=xs) (i:=sa+k) (k:=na - k)
   have h2:=ZX (xs:=xs) (i:=sa+na) (k:=n)
   rw[show sa+k+(na - k)=sa+na by lia]at h1
   rw[yF,<-h2,<-h1,uz]
  have e2:sa+k+(na - k+n)=sa+na+n:=by lia
  rw[e2]
  refine List.Perm.trans ?_ (List.Perm.of_eq e1.symm)
  exact List.Perm.append_left _ (List.Perm.append_right _ R.pm)
 ·refine Va (m:=sa+k) (λi j h1 h2 h3=>by rw[kout i (.inl ∅),kout j (.inl h3)];exact ua i j h1 h2 ∅) (Va (m:=sa+na+n) (λi j h1 h2 h3=>by rw[kin i h1 ∅,kin j ∅ h3];exact R.up _ _ (w8 _) ∅ ∅) (λi j h1 h2 h3=>by rw[kout i (.inr h1),kout j (.inr ∅)];exact ub i j ∅ h2 h3) ?_) ?_
  ·intro i j h1 h2 h3 h4
   rw[kin i h1 h2,kout j (.inr h3)]
   have e:=k2 (j - (sa+na)) ∅ ∅
   rw[show sa+na+(j - (sa+na))=j by lia]at e
   rcases mem (i - (sa+k)) ∅with⟨q,q1,q2,q3⟩ | ⟨q,q1,q3⟩
   ·rw[q3];exact yu (ua _ (sa+na - 1) ∅ ∅ ∅) e
   ·rw[q3];exact ub _ _ ∅ ∅ h4
  ·intro i j h1 h2 h3 h4
   rw[kout i (.inl h2)]
   have e:=k1 (i - sa) ∅
   rw[show sa+(i - sa)=i by lia]at e
   by_cases c:j<sa+na+n
   ·rw[kin j h3 c]
    rcases mem (j - (sa+k)) ∅with⟨q,q1,q2,q3⟩ | ⟨q,q1,q3⟩
    ·rw[q3];exact ua _ _ h1 ∅ ∅
    ·rw[q3];exact yu e (ub _ _ (wg _) ∅ ∅)
   ·rw[kout j (.inr ∅)]
    exact yu e (ub _ _ (wg _) ∅ h4)
 ·rw[hw,if_neg ∅]
variable {J:Shared->Prop}{M:Model}{A:Around}{E:Value->Shared->Prop}{KY:Keyed->Int}{a₀:Array Keyed}{κ:SortKind}
theorem zdt {α:Type}{l:List α}{i:Nat}(h:i+1<l.length):∃P p q R,l=P++p::q::R/\P.length=i:=by
 refine⟨l.take i,l[i],l[i+1],l.drop (i+2),?_,by rw[yj];lia⟩
 rw[show i+2=i+1+1 from rfl,List.getElem_cons_drop,List.getElem_cons_drop,uz]
theorem zha {Q:PUnit->SortSt->Prop}{st st':SortSt}(h:∀z,z=st'->Q ⟨⟩ z):TQ J M A E (set st':StateT SortSt Sem PUnit) Q st:=zjv (h _ rfl)
theorem zaN (L:HLt J M A E κ KY a₀){i lo:Nat}{Q:Bool->SortSt->Prop}{st:SortSt}(B:Bs a₀ κ st) (hr:Rn KY (arrOf st) 0 (pendingOf st).toList lo) (hlo:lo<=a₀.size) (hi:i+1<(pendingOf st).size)
  (h:∀st',Bs a₀ κ st'->Rn KY (arrOf st') 0 (pendingOf st').toList lo->(∀j,lo<=j->(arrOf st')[j]? = (arrOf st)[j]?)->(pendingOf st').size+1=(pendingOf st).size->Q true st'):TQ J M A E (mergeAt' i) Q st:=by
 refine zq (vJ ?_)
 try dsimp only
 obtain⟨P,⟨sa,na,pw⟩,⟨sb,nb,pq⟩,R,eP,lP⟩:=zdt (l:=(pendingOf st).toList) (i:=i) (by rw[wJ];exact hi)
 have g1:(pendingOf st)[i]? = some (sa,na,pw):=by rw[<-wL,eP,wN ∅,lP,Wg];rfl
 have g2:(pendingOf st)[i+1]? = some (sb,nb,pq):=by rw[<-wL,eP,wN ∅,lP,show i+1 - i=1 by lia];rfl
 rw[eP]at hr
 rcases q:Vs.mp hr with⟨m,r1,em,ha,ua,en,hb,ub,r2⟩
 dsimp only at em ha ua en hb ub r2
 have em':m=sa:=em.symm
 subst em'
 have en':m+na=sb:=en.symm
 subst en'
 clear em en
 have l2:=Rn.le r2
 have sz:=B.size
 have pe:(((pendingOf st).setIfInBounds i (m,na+nb,pw)).eraseIdxIfInBounds (i+1)).toList=P++(m,na+nb,pw)::R:=by
  rw[Array.toList_eraseIdxIfInBounds,Array.toList_setIfInBounds,eP,List.set_append_right _ _ ∅,lP,Wg,List.set_cons_zero,List.eraseIdx_append_of_length_le ∅,lP,show i+1 - i=1 by lia];rfl
 have ps:(((pendingOf st).setIfInBounds i (m,na+nb,pw)).eraseIdxIfInBounds (i+1)).size+1=(pendingOf st).size:=by
  rw[<-wJ,<-wJ,pe,eP];simp;lia
 rw[g1,g2]
 try dsimp only
 refine zq (zha λst1 hst1=>?_)
 have B1:Bs a₀ κ st1:=by rw[hst1];exact⟨B.perm,B.kind,B.fail⟩
 have a1:arrOf st1=arrOf st:=by rw[hst1]
 have p1:(pendingOf st1).toList=P++(m,na+nb,pw)::R:=by rw[hst1];exact pe
 have z1:(pendingOf st1).size+1=(pendingOf st).size:=by rw[hst1];exact ps
 clear hst1 pe ps
 obtain⟨p,ep,mp⟩:=B.sub.get (show m+na<(arrOf st).size by lia)
 have kp:=zT (KY:=KY) ep
 refine zq (xr ep (zq ?_))
 have fin:∀st',Bs a₀ κ st'->(pendingOf st')=(pendingOf st1)->Up KY (arrOf st') m (m+na+nb)->(∀j,j<m\/m+na+nb<=j->(arrOf st')[j]? = (arrOf st)[j]?)->Q true st':=λst' B' q' u' o'=>by
  refine h st' B' ?_ (λj hj=>o' j (.inr ∅)) (by rw[q'];exact z1)
  rw[q',p1]
  refine Vs.mpr ⟨m,r1.keep λj h1 h2=>xN (o' j (.inl h2)),rfl,by show 1<=na+nb;lia,by show Up KY (arrOf st') m (m+(na+nb));rw[<-Nat.add_assoc];exact u',?_⟩
  show Rn KY (arrOf st') (m+(na+nb)) R lo
  rw[<-Nat.add_assoc]
  exact r2.keep λj h1 h2=>xN (o' j (.inr h1))
 refine Xa L (KY:=KY) (xs:=arrOf st) B1.kind B.sub mp (show m+na<=(arrOf st).size by lia) ∅ ua (λk kn kt kf=>?_)
 try dsimp only
 have kt2:∀j,j<k->kx KY (arrOf st) (m+j)<=kx KY (arrOf st) (m+na):=λj h1=>by
  have:=kt j h1
  rw[VS]at this
  rw[kp];simpa using this
 have kf2:∀j,k<=j->j<na->kx KY (arrOf st) (m+na)<=kx KY (arrOf st) (m+j):=λj h1 h2=>by
  have:=kf j h1 h2
  rw[VS]at this
  have:KY p<kx KY (arrOf st) (m+j):=by simpa using this
  rw[kp];exact yI this
 by_cases c1:na - k=0
 ·rw[if_pos (by simpa using c1)]
  refine zw (fin st1 B1 rfl ?_ λj _=>by rw[a1])
  rw[a1]
  exact Va ua ub λx y h1 h2 h3 h4=>by
   have:=kt2 (x - m) ∅
   rw[show m+(x - m)=x by lia]at this
   exact yu this (ub _ _ (wg _) h3 h4)
 rw[if_neg (by simpa using c1)]
 have hka:k<na:=by lia
 rw[show m+k+(na - k) - 1=m+na - 1 by lia]
 obtain⟨q,eq,mq⟩:=B.sub.get (show m+na - 1<(arrOf st).size by lia)
 have kq:=zT (KY:=KY) eq
 refine zq (xr eq (zq ?_))
 refine Xa L (KY:=KY) (xs:=arrOf st) B1.kind B.sub mq (show m+na+nb<=(arrOf st).size by lia) ∅ ub (λn nn rt rf=>?_)
 try dsimp only
 have rt2:∀j,j<n->kx KY (arrOf st) (m+na+j)<=kx KY (arrOf st) (m+na - 1):=λj h1=>by
  have:=rt j h1
  rw[VT]at this
  rw[kq];exact yI (wG this)
 have rf2:∀j,n<=j->j<nb->kx KY (arrOf st) (m+na - 1)<=kx KY (arrOf st) (m+na+j):=λj h1 h2=>by
  have:=rf j h1 h2
  rw[VT]at this
  rw[kq];exact u9.mp (of_decide_eq_false this)
 by_cases c2:n=0
 ·rw[if_pos (by simpa using c2)]
  refine zw (fin st1 B1 rfl ?_ λj _=>by rw[a1])
  rw[a1]
  exact Va ua ub λx y h1 h2 h3 h4=>by
   have:=rf2 (y - (m+na)) ∅ ∅
   rw[show m+na+(y - (m+na))=y by lia]at this
   exact yu (ua _ _ h1 ∅ ∅) this
 rw[if_neg (by simpa using c2)]
 have s1:=Q9 (xs:=arrOf st) (i:=m+k) (n:=m+na) ∅
 have s2:=Q9 (xs:=arrOf st) (i:=m+na) (n:=m+na+n) ∅
 have u1:Up KY ((arrOf st).extract (m+k) (m+na)) 0 ((arrOf st).extract (m+k) (m+na)).size:=λx y h1 h2 h3=>by
  rw[s1]at h3
  rw[vb ∅,vb ∅];exact ua _ _ ∅ ∅ ∅
 have u2:Up KY ((arrOf st).extract (m+na) (m+na+n)) 0 ((arrOf st).extract (m+na) (m+na+n)).size:=λx y h1 h2 h3=>by
  rw[s2]at h3
  rw[vb ∅,vb ∅];exact ub _ _ ∅ ∅ ∅
 have w0:kx KY ((arrOf st).extract (m+na) (m+na+n)) 0<=kx KY ((arrOf st).extract (m+k) (m+na)) 0:=by
  rw[vb ∅,vb ∅];exact kf2 k (wg _) hka
 have wl:∀j,j<((arrOf st).extract (m+na) (m+na+n)).size->kx KY ((arrOf st).extract (m+na) (m+na+n)) j<=kx KY ((arrOf st).extract (m+k) (m+na)) (((arrOf st).extract (m+k) (m+na)).size - 1):=λj hj=>by
  rw[s2]at hj
  rw[s1,vb ∅,vb ∅,show m+k+(m+na - (m+k) - 1)=m+na - 1 by lia];exact rt2 j ∅
 have last:∀out st2,Res KY ((arrOf st).extract (m+k) (m+na)) ((arrOf st).extract (m+na) (m+na+n)) out->Gs st1 st2->Q (failedOf st2).isNone (SortSt.mk' (kindOf st2) (wr (arrOf st2) (m+k) out.toList 0) (pendingOf st2) (gallopOf st2) (failedOf st2)):=λout st2 R2 G2=>by
  have f2:failedOf st2=none:=G2.fail.trans B1.fail
  rw[f2]
  obtain⟨w1,w2,w3⟩:=zc9 (xs:=arrOf st) ∅ hka nn ua ub kt2 rf2 ∅ R2
  have a2:arrOf st2=arrOf st:=G2.arr.trans a1
  refine fin _ ⟨?_,G2.kind.trans B1.kind,rL⟩ G2.pend ?_ ?_
  ·show (wr (arrOf st2) (m+k) out.toList 0).Perm a₀
   rw[a2];exact w1.trans B.perm
  ·show Up KY (wr (arrOf st2) (m+k) out.toList 0) _ _
   rw[a2];exact w2
  ·show ∀j,_->(wr (arrOf st2) (m+k) out.toList 0)[j]? = _
   rw[a2];exact w3
 split
 ·exact zq (zju L (a:=(arrOf st).extract (m+k) (m+na)) (b:=(arrOf st).extract (m+na) (m+na+n)) B1.kind (Qf B.sub) (Qf B.sub) ∅ ∅ u1 u2 w0 wl λout st2 R2 G2=>zq (qu (zq (vJ (zw (last out st2 R2 G2))))))
 ·exact zq (zjt L (a:=(arrOf st).extract (m+k) (m+na)) (b:=(arrOf st).extract (m+na) (m+na+n)) B1.kind (Qf B.sub) (Qf B.sub) ∅ ∅ u1 u2 w0 wl λout st2 R2 G2=>zq (qu (zq (vJ (zw (last out st2 R2 G2))))))
variable {J:Shared->Prop}{M:Model}{A:Around}{E:Value->Shared->Prop}{KY:Keyed->Int}{a₀:Array Keyed}{κ:SortKind}
theorem zet:∀(f n r:Nat),1<=n->1<=minRun' f n r
 | 0,n,r,h=>by show 1<=n+r;lia
 | f+1,n,r,h=>by
  rw[minRun'_succ]
  split
  ·lia
  ·exact zet f _ _ ∅
theorem zgb {c:Prop}{d:Decidable c}{n:Nat}(h:2<=n):(@ite _ c d (n - 2 - 1) (n - 2))+1<n:=by
 split <;> omega
structure Wt (KY:Keyed->Int) (a₀:Array Keyed) (κ:SortKind) (lo:Nat) (st:SortSt):Prop where
 b:Bs a₀ κ st
 r:Rn KY (arrOf st) 0 (pendingOf st).toList lo
set_option maxHeartbeats 16000000 in
theorem zg9 (L:HLt J M A E κ KY a₀){Q:Unit->SortSt->Prop}{st:SortSt}(B:Bs a₀ κ st) (hp:pendingOf st = #[]) (h:∀st',Bs a₀ κ st'->Up KY (arrOf st') 0 a₀.size->Q () st'):TQ J M A E sortRuns' Q st:=by
 refine zq (vJ ?_)
 try dsimp only
 have sz:(arrOf st).size=a₀.size:=B.size
 rw[sz]
 refine zq (xQ (xP (I:=λx c st'=>∃lo,c=(none,lo)/\Wt KY a₀ κ lo st'/\lo<=a₀.size/\min x a₀.size<=lo) (Q:=λc st'=>c.1=none/\Wt KY a₀ κ a₀.size st') ?_ ?_ ⟨0,rfl,⟨B,by rw[hp];rfl⟩,w8 _,by lia⟩) ?_)
 rotate_left
 ·rintro c st1 hQq;rcases q:hQq with⟨lo,rfl,W,l1,l2⟩
  rw[show max 0 a₀.size=a₀.size by lia]at l2
  obtain rfl:lo=a₀.size:=by lia
  exact⟨rL,W⟩
 ·rintro ⟨c,c'⟩ st1 ⟨rfl,W⟩
  refine zq (xQ (xP (I:=λx c st'=>c=(none,())/\Wt KY a₀ κ a₀.size st'/\((pendingOf st').size+x<=a₀.size\/(pendingOf st').size<=1)) (Q:=λc st'=>c=(none,())/\Wt KY a₀ κ a₀.size st'/\(pendingOf st').size<=1) ?_ ?_ ⟨rL,W,.inl ?_⟩) ?_)
  ·rintro x c st2 - hx ⟨rfl,W2,l2⟩
   refine zq (vJ ?_)
   by_cases c1:(pendingOf st2).size<=1
   ·rw[if_pos c1];exact zw ⟨rfl,W2,c1⟩
   rw[if_neg c1]
   refine zq (zaN L W2.b W2.r (wg _) (by have c2:2<=(pendingOf st2).size:=∅;exact zgb c2) λst3 B3 r3 _ z3=>?_)
   rw[if_neg (by simp)]
   exact zw ⟨rfl,⟨B3,r3⟩,by lia⟩
  ·rintro c st2 ⟨rfl,W2,l2⟩
   exact⟨rfl,W2,by lia⟩
  ·have:=Rn.le W.r
   rw[wJ]at this
   lia
  ·rintro c st2 ⟨rfl,W2,l2⟩
   refine zw (h st2 W2.b ?_)
   have r:=W2.r
   have hl:(pendingOf st2).toList.length<=1:=by rw[wJ];exact l2
   match hP:(pendingOf st2).toList,hl with
   | [],_ =>
    rw[hP]at r
    have r':0=a₀.size:=r
    rw[<-r'];exact λi j _ _ h3=>absurd h3 (Nat.not_lt_zero _)
   | [p],_ =>
    rw[hP]at r
    obtain⟨_,_,u,e⟩:=r
    have e':0+p.2.1=a₀.size:=e
    rw[e']at u;exact u
 rintro x c st1 - hx hQq;rcases q:hQq with⟨lo,rfl,W,l1,l2⟩
 try dsimp only
 by_cases c0:lo>=a₀.size
 ·rw[if_pos c0]
  obtain rfl:lo=a₀.size:=by lia
  exact zw ⟨rL,W⟩
 rw[if_neg c0]
 have hmr:1<=(sortPriv% PySem.Builtin.minRun) a₀.size a₀.size 0:=zet _ _ _ ∅
 generalize (sortPriv% PySem.Builtin.minRun) a₀.size a₀.size 0=mr at hmr ⊢
 refine zq (zfE L ∅ ∅ W.b λm st2 C2 m1 m2 u2=>?_)
 try dsimp only
 have W2:Wt KY a₀ κ lo st2:=⟨W.b.ch C2,by rw[C2.pend];exact W.r.keep λi h1 h2=>xN (C2.out i (.inl h2))⟩
 clear C2 W
 rcases Nat.lt_or_ge m mr with c1 | c1
 all_goals first
  | (rw[if_pos c1]
     refine zq (Xb (zq ?_))
     refine zjs L ∅ (show m<=min (a₀.size - lo) mr by lia) W2.b u2 λst3 C3 u3=>?_
     rw[if_neg (by simp)]
     have W3:Wt KY a₀ κ lo st3:=⟨W2.b.ch C3,by rw[C3.pend];exact W2.r.keep λi h1 h2=>xN (C3.out i (.inl h2))⟩
     have n1:1<=min (a₀.size - lo) mr:=by lia
     have n2:lo+min (a₀.size - lo) mr<=a₀.size:=by lia
     generalize min (a₀.size - lo) mr=n at *)
  | (rw[if_neg (show ¬m<mr by lia)]
     have W3:=W2
     have u3:=u2
     have n1:1<=m:=m1
     have n2:lo+m<=a₀.size:=by lia
     generalize st2=st3 at *
     generalize m=n at *)
 all_goals
  refine zq (vJ ?_)
  have push:∀st4,Wt KY a₀ κ lo st4->Up KY (arrOf st4) lo (lo+n)->TQ J M A E (do modify (λs=>SortSt.mk' (kindOf s) (arrOf s) ((pendingOf s).push (lo,n,0)) (gallopOf s) (failedOf s));pure (ForInStep.yield ((none:Option Unit),lo+n)))
    (zft (λc st'=>c.1=none/\Wt KY a₀ κ a₀.size st') (λc st'=>∃lo,c=(none,lo)/\Wt KY a₀ κ lo st'/\lo<=a₀.size/\min (x+1) a₀.size<=lo)) st4:=λst4 W4 u4=>by
   refine zq (qu (zw ⟨lo+n,rfl,⟨⟨W4.b.perm,W4.b.kind,W4.b.fail⟩,?_⟩,n2,by lia⟩))
   show Rn KY (arrOf st4) 0 ((pendingOf st4).push (lo,n,0)).toList (lo+n)
   rw[YJ]
   exact Vs.mpr ⟨lo,W4.r,rL,n1,u4,rL⟩
  cases hb:(pendingOf st3).back? with
  | none=>exact push st3 W3 u3
  | some p =>
   obtain⟨s1,n1',pw0⟩:=p
   try dsimp only
   generalize (sortPriv% PySem.Builtin.power) a₀.size (2*s1+n1') (2*s1+n1'+n1'+n) a₀.size=pw
   refine zq (xQ (xP (I:=λy c st'=>c=(none,())/\Wt KY a₀ κ lo st'/\Up KY (arrOf st') lo (lo+n)) (Q:=λc st'=>c=(none,())/\Wt KY a₀ κ lo st'/\Up KY (arrOf st') lo (lo+n)) ?_ (λ_ _ z=>z) ⟨rL,W3,u3⟩) ?_)
   ·rintro y c st4 - hy ⟨rfl,W4,u4⟩
    refine zq (vJ ?_)
    by_cases c2:(pendingOf st4).size>1
    ·obtain⟨⟨f1,f2,older⟩,ef⟩:∃p,(pendingOf st4)[(pendingOf st4).size - 2]? = some p:=⟨_,wK ∅⟩
     rw[if_pos c2,ef]
     try dsimp only
     split
     ·exact zw ⟨rL,W4,u4⟩
     ·refine zq (zaN L W4.b W4.r ∅ (show (pendingOf st4).size - 2+1<(pendingOf st4).size by lia) λst5 B5 r5 o5 z5=>?_)
      rw[if_neg (by simp)]
      exact zw ⟨rfl,⟨B5,r5⟩,λi j h1 h2 h3=>by rw[xN (o5 i h1),xN (o5 j ∅)];exact u4 i j h1 h2 h3⟩
    ·rw[if_neg c2]
     exact zw ⟨rL,W4,u4⟩
   ·rintro c st4 ⟨rfl,W4,u4⟩
    try dsimp only
    refine zq (qu ?_)
    refine push _ ⟨⟨W4.b.perm,W4.b.kind,W4.b.fail⟩,?_⟩ u4
    refine Rn.like (P:=(pendingOf st4).toList) ?_ W4.r
    show (((pendingOf st4).modify _ _).toList).map _=_
    rw[Array.toList_modify]
    apply uI
    intro i
    rw[wo,wo,List.getElem?_modify]
    split
    ·cases(pendingOf st4).toList[i]? <;> rfl
    ·cases(pendingOf st4).toList[i]? <;> rfl
end TS
namespace ST
open PySem
def Ris (xs:Array Nat):Prop:=∀(i j x y:Nat),i<j->xs[i]? = some x->xs[j]? = some y->x<y
theorem zdk (n:Nat):Ris (Array.range n):=λi j x y h e1 e2=>by
 obtain⟨h1,e1⟩:=wR.mp e1
 obtain⟨h2,e2⟩:=wR.mp e2
 rw[Array.getElem_range]at e1 e2
 lia
theorem Xi {xs:Array Nat}(R:Ris xs) (j:Nat):SetTable.below xs j<=xs.size/\(∀i x:Nat,i<SetTable.below xs j->xs[i]? = some x->x<j)/\∀i x:Nat,SetTable.below xs j<=i->xs[i]? = some x->j<=x:=by
 have go:∀(f lo hi:Nat),lo<=hi->hi<=xs.size->hi - lo<=f->(∀i x:Nat,i<lo->xs[i]? = some x->x<j)->(∀i x:Nat,hi<=i->xs[i]? = some x->j<=x) →
   SetTable.below.go xs j f lo hi<=xs.size/\(∀i x:Nat,i<SetTable.below.go xs j f lo hi->xs[i]? = some x->x<j)/\∀i x:Nat,SetTable.below.go xs j f lo hi<=i->xs[i]? = some x->j<=x:=by
  intro f
  induction f with
  | zero =>
   intro lo hi h1 h2 h3 h4 h5
   obtain rfl:lo=hi:=by lia
   exact⟨h2,h4,h5⟩
  | succ f ih =>
   intro lo hi h1 h2 h3 h4 h5
   unfold SetTable.below.go
   by_cases c:lo<hi
   ·rw[if_pos c]
    have hm:(lo+hi)/2<xs.size:=by lia
    have em:xs[(lo+hi)/2]? = some xs[(lo+hi)/2]:=wK hm
    have gm:xs.getD ((lo+hi)/2) j=xs[(lo+hi)/2]:=by simp[YK,hm]
    try dsimp only
    rw[gm]
    by_cases d:xs[(lo+hi)/2]<j
    ·rw[if_pos d]
     refine ih _ _ ∅ h2 ∅ (λi x hi' ex=>?_) h5
     rcases Nat.lt_or_ge i ((lo+hi)/2)with q | q
     ·exact Nat.lt_trans (R i _ _ _ q ex em) d
     ·obtain rfl:i=(lo+hi)/2:=by lia
      rw[em]at ex;cases ex;exact d
    ·rw[if_neg d]
     refine ih _ _ ∅ ∅ ∅ h4 (λi x hi' ex=>?_)
     rcases Yw hi' with q | q
     ·rw[<-q,em]at ex;cases ex;lia
     ·have:=R _ i _ _ q em ex;lia
   ·rw[if_neg c]
    obtain rfl:lo=hi:=by lia
    exact⟨h2,h4,h5⟩
 exact go xs.size 0 xs.size (w8 _) (wg _) ∅ (λi x h=>absurd h (Nat.not_lt_zero _)) (λi x h e=>absurd (wR.mp e).1 ∅)
theorem XW {α:Type}{xs:Array α}{p:Nat}{x:α}(hp:p<=xs.size) (i:Nat):(SetTable.insertAt xs p x)[i]? = if i<p then xs[i]? else if i=p then some x else xs[i - 1]?:=by
 rw[<-wL,SetTable.toList_insertAt]
 have hl:(xs.toList.take p).length=p:=by rw[yj,wJ];lia
 by_cases c:i<p
 ·rw[if_pos c,wU ∅,Wz c,wL]
 ·rw[if_neg c,wN ∅,hl]
  by_cases d:i=p
  ·rw[if_pos d,d,Wg];rfl
  ·rw[if_neg d,show i - p=(i - p - 1)+1 by lia,uH,WM,wL]
   congr 1;lia
theorem zgL {xs:Array Nat}(R:Ris xs){j:Nat}(hn:∀i:Nat,xs[i]?≠some j):Ris (SetTable.insertAt xs (SetTable.below xs j) j):=by
 obtain⟨b1,b2,b3⟩:=Xi R j
 generalize SetTable.below xs j=p at *
 intro i k x y hik e1 e2
 rw[XW b1]at e1 e2
 by_cases c1:i<p
 ·rw[if_pos c1]at e1
  by_cases c2:k<p
  ·rw[if_pos c2]at e2;exact R i k x y hik e1 e2
  ·rw[if_neg c2]at e2
   by_cases c3:k=p
   ·rw[if_pos c3]at e2;cases e2;exact b2 i x c1 e1
   ·rw[if_neg c3]at e2;exact R i (k - 1) x y ∅ e1 e2
 ·rw[if_neg c1]at e1
  rw[if_neg ∅,if_neg ∅]at e2
  by_cases c4:i=p
  ·rw[if_pos c4]at e1;cases e1
   have h1:=b3 (k - 1) y ∅ e2
   have h2:y≠j:=λz=>hn (k - 1) (by rw[e2,z])
   lia
  ·rw[if_neg c4]at e1;exact R (i - 1) (k - 1) x y ∅ e1 e2
theorem V9 {t:SetTable}(R:Ris t.place){j:Nat}(h:∀i:Nat,t.slot j≠.live i):∀i:Nat,t.place[i]?≠some j:=by
 obtain⟨b1,b2,b3⟩:=Xi R j
 intro i e
 rcases Nat.lt_trichotomy i (SetTable.below t.place j)with c | c | c
 ·exact absurd (b2 i j c e) (uF _)
 ·refine h (SetTable.below t.place j) ?_
  unfold SetTable.slot
  try dsimp only
  rw[<-c,e,if_pos (by simp)]
 ·have hb:SetTable.below t.place j<t.place.size:=Nat.lt_trans c (wR.mp e).1
  have h1:=b3 _ _ (wg _) (wK hb)
  have h2:=R _ i _ _ c (wK hb) e
  lia
theorem Xm {t:SetTable}{hs:Nat->Int}{h:Int}:∀(f:Nat) (p:SetTable.Probe) (j:Nat) (d:Option Nat),(∀q,p.dummy=some q->∀i,t.slot q≠.live i)->SetTable.probe.go t hs h f p=some (.empty j d)->(∀i,t.slot j≠.live i)/\∀q,d=some q->∀i,t.slot q≠.live i
 | 0,p,j,d,_,e=>by cases e
 | f+1,p,j,d,hp,e=>by
  unfold SetTable.probe.go at e
  have adv:∀p:SetTable.Probe,(t.advance p).dummy=p.dummy:=λp=>by unfold SetTable.advance;split <;> rfl
  cases hs':t.slot p.j with
  | empty =>
   rw[hs']at e
   cases e
   exact⟨λi z=>by rw[hs']at z;simp at z,hp⟩
  | dummy =>
   rw[hs']at e
   refine Xm f _ j d (λq eq i=>?_) e
   rw[adv]at eq
   cases eq
   rw[hs'];simp
  | live i =>
   rw[hs']at e
   dsimp only at e
   split at e
   ·cases e
   ·exact Xm f _ j d (λq eq=>by rw[adv]at eq;exact hp q eq) e
theorem zah {t:SetTable}(R:Ris t.place){h:Int}{j:Nat}{b:Bool}(e:t.freeSlot h=some (j,b)):∀i:Nat,t.place[i]?≠some j:=by
 unfold SetTable.freeSlot at e
 split at e
 ·rename_i j' d hp
  obtain⟨h1,h2⟩:=Xm _ _ _ _ (λq z=>by unfold SetTable.probeStart at z;cases z) hp
  have e':=Option.some.inj e
  have e1:d.getD j'=j:=congrArg Prod.fst e'
  cases d with
  | none=>rw[<-e1];exact V9 R h1
  | some q=>rw[<-e1];exact V9 R (h2 q rfl)
 ·cases e
structure Gd (bt:Bool) (t:SetTable):Prop where
 ris:Ris t.place
 led:bt=false->t.led=true
theorem XV {bt:Bool}{t:SetTable}{n:Nat}(h:bt=false->t.led=true):Gd bt (t.standIn n):=⟨zdk n,h⟩
theorem zjG {bt:Bool}{t:SetTable}{n:Nat}(h:Gd bt t):Gd bt (t.orStandIn n):=by
 unfold SetTable.orStandIn
 split
 ·exact h
 ·exact XV h.led
theorem zh1 {bt:Bool}{t:SetTable}(G:Gd bt t) (es:Array (Int×Value)) (h:Int) (x:Value):Gd bt (layNew t es h x).2.1:=by
 unfold layNew
 split
 ·rename_i j b e
  exact zjG ⟨zgL G.ris (zah G.ris e),G.led⟩
 ·exact XV G.led
theorem zeS (owner:Array (Option Nat)) (n:Nat):Ris (((List.range n).filterMap λj=>(owner.getD j none).map (j,·)).map (·.1)).toArray:=by
 have h:((List.range n).filterMap λj=>(owner.getD j none).map (j,·)).map (·.1)=(List.range n).filterMap λj=>(owner.getD j none).map λ_=>j:=by
  rw[List.map_filterMap]
  congr 1
  funext j
  cases owner.getD j none <;> rfl
 rw[h]
 have p:((List.range n).filterMap λj=>(owner.getD j none).map λ_=>j).Pairwise (· < ·):=by
  rw[List.pairwise_filterMap]
  refine(List.pairwise_lt_range (n:=n)).imp λ{a b} hab x hx y hy=>?_
  cases ha:owner.getD a none with
  | none=>rw[ha]at hx;cases hx
  | some _ =>
   cases hb:owner.getD b none with
   | none=>rw[hb]at hy;cases hy
   | some _ =>
    rw[ha]at hx;rw[hb]at hy
    cases hx;cases hy;exact hab
 intro i j x y hij e1 e2
 rw[W7]at e1 e2
 obtain⟨h1,e1⟩:=wP.mp e1
 obtain⟨h2,e2⟩:=wP.mp e2
 rw[<-e1,<-e2]
 exact Wu.mp p i j h1 h2 hij
theorem zd9 {bt:Bool}{t:SetTable}(G:Gd bt t) (es:Array (Int×Value)) (n:Nat):Gd bt (relayAll t es n).2.1:=by
 unfold relayAll
 split
 ·rename_i t' order e
  try dsimp only
  split
  ·unfold SetTable.relaid SetTable.laid at e
   cases hl:SetTable.layClean (SetTable.sizeAbove n - 1) (es.map λx=>x.1)with
   | none=>rw[hl]at e;cases e
   | some owner =>
    rw[hl]at e
    have e':=Option.some.inj e
    have e1:=congrArg Prod.fst e'
    rw[<-e1]
    exact⟨zeS _ _,G.led⟩
  ·exact XV G.led
 ·exact XV G.led
open PyProof.Rows
variable {prog:Program}{w:World}{A:Around}{E:Value->Shared->Prop}{s:Shared}{bt:Bool}
def nm:Value->Int
 | .int n _=>n
 | _=>0
def SI (prog:Program) (w:World) (bt:Bool) (h:Heap) (a:Addr) (ks:List Int):Prop :=
 ∃(o:Obj) (es:Array (Int×Value)) (ep:Nat) (t:SetTable),h.get? a=some o/\o.ExactSet/\o.data = .set es ep t/\ElemsOf (intKind prog w) es.toList/\(es.toList.map λe=>nm e.2).Perm ks/\t.fits es.size=true/\Gd bt t
theorem zdT {es:List (Int×Value)} (h:ElemsOf (intKind prog w) es){e:Int×Value}(m:e∈es):∃tk,e.2 = .int (nm e.2) tk:=by
 obtain⟨⟨k,hk,_⟩,_⟩:=h e m
 obtain⟨tk,q⟩:=Value.isInt_shape (k:=k) (v:=e.2) hk
 exact⟨tk,by rw[q];rfl⟩
theorem zjJ {k:Int}{v:Value}(h:(intKind prog w).is k v=true):nm v=k:=by
 obtain⟨tk,q⟩:=Value.isInt_shape (k:=k) (v:=v) h
 rw[q];rfl
theorem J2 {h:Heap}{a:Addr}{ks:List Int}{es:Array (Int×Value)} (p:(es.toList.map λe=>nm e.2).Perm ks):es.size=ks.length:=by
 have:=p.length_eq
 rw[we,wJ]at this;exact this
theorem zeN {h:Heap}{a:Addr}{o:Obj}{es es':Array (Int×Value)}{ep:Nat}{t t':SetTable}(ho:h.get? a=some o) (hd:o.data = .set es ep t):(h.update a (Obj.putSet es' t')).get? a=some { o with data:=.set es' (ep+1) t' }:=by
 have:=yU (Obj.putSet es' t') ho (by rw[putSet_of es' t' hd];rfl)
 rw[putSet_of es' t' hd]at this;exact this
theorem zeW {a:Addr}{ks:List Int}{k:Int}{tk:Tok}{Q:Bool->Shared->Prop}(hS:SI prog w bt s.heap a ks) (hr:ks.length+1<scanBound)
  (h:∀h' b,Heap.SameBut a s.heap h'->SI prog w bt h' a (if k∈ks then ks else k::ks)->Q b { s with heap:=h' }):wpAny (model prog w) A (setAddHashed a (.int k tk) ((intKind prog w).hash k)) Q E s:=by
 obtain⟨o,es,ep,t,ho,hex,hd,hel,hp,hf,G⟩:=id hS
 have hz:=J2 (h:=s.heap) (a:=a) hp
 have hkey:(intKind prog w).is k (.int k tk)=true:=intKind_is _ _ _ _
 refine yN (wc (uX ho hd hf ?_))
 try dsimp only
 rw[byScan_of rfl (show es.size<scanBound by lia) hel]
 refine wc (wc (Yk (wc (wpAny_setScan_of hkey ho hd hf hel ?_))))
 cases hr':List.findIdx? (λe=>(intKind prog w).is k e.2) es.toList with
 | some j =>
  obtain⟨hj,hpj,_⟩:=List.findIdx?_eq_some_iff_getElem.mp hr'
  have hm:k∈ks:=hp.mem_iff.mp (wn.mpr ⟨_,List.getElem_mem hj,zjJ hpj⟩)
  have:=h s.heap false (Heap.SameBut.refl a s.heap)
  rw[if_pos hm]at this
  exact wj (wj (this hS))
 | none =>
  have hm:¬k∈ks:=λm=>by
   obtain⟨e,me,ek⟩:=wn.mp (hp.mem_iff.mpr m)
   obtain⟨tk',q⟩:=zdT hel me
   have:=List.findIdx?_eq_none_iff.mp hr' e me
   rw[q,ek]at this
   rw[intKind_is]at this;cases this
  have fin:∀h',Heap.SameBut a s.heap h'->SI prog w bt h' a (k::ks)->Q true { s with heap:=h' }:=λh' sb si=>h h' true sb (by rw[if_neg hm];exact si)
  try dsimp only
  have lp:=layNew_perm t es ((intKind prog w).hash k) (.int k tk)
  have lf:=layNew_fits t es ((intKind prog w).hash k) (.int k tk)
  have lg:=zh1 G es ((intKind prog w).hash k) (.int k tk)
  generalize layNew t es ((intKind prog w).hash k) (.int k tk)=N at lp lf lg ⊢
  obtain⟨es1,t1,dm,gv⟩:=N
  dsimp only at lp lf lg ⊢
  rw[YJ]at lp
  have hel1:ElemsOf (intKind prog w) es1.toList:=(hel.push hkey rfl).perm lp
  have hp1:(es1.toList.map λe=>nm e.2).Perm (k::ks):=by
   refine(lp.map _).trans ?_
   rw[yV]
   exact(W6.trans (List.Perm.cons _ hp))
  have hz1:=J2 (h:=s.heap) (a:=a) hp1
  rw[ww]at hz1
  have gave:∀(b:Bool){st:Shared}{R:Unit->Shared->Prop},R () st->wpAny (model prog w) A (match b with | true=>rule "set.scan.the-table-gave-way" | false=>pure ()) R E st:=λb st R r=>by
   cases b with
   | true=>exact Yk r
   | false=>exact wj r
  refine wc (gave gv ?_)
  rcases hpl:t1.plain with _ | _
  all_goals first
   | (rw[if_neg wZ]
      refine wc (wj ?_)
      simp only[if_true])
   | (rw[if_pos rfl]
      refine wc ?_
      rw[hashByValue_scannable 8 rfl]
      refine wj ?_
      simp only[plainKind,if_true])
  all_goals
   refine wc (wpAny_storeSet_of ho hd ?_ (fits_of_scanBound ∅))
   have e2:=zeN (es':=es1) (t':=t1) ho hd
   have sb2:=Heap.SameBut.update s.heap a (Obj.putSet es1 t1)
   generalize s.heap.update a (Obj.putSet es1 t1)=h2 at e2 sb2 ⊢
   split
   ·have rp:=relayAll_perm t1 es1 (SetTable.grown es1.size)
    have rf:=relayAll_fits t1 es1 (SetTable.grown es1.size)
    have rg:=zd9 lg es1 (SetTable.grown es1.size)
    generalize relayAll t1 es1 (SetTable.grown es1.size)=L at rp rf rg ⊢
    obtain⟨es2,t3,g3⟩:=L
    dsimp only at rp rf rg ⊢
    have hp2:=(rp.map λe=>nm e.2).trans hp1
    have hz2:=J2 (h:=s.heap) (a:=a) hp2
    rw[ww]at hz2
    refine wc (gave g3 ?_)
    refine wc (wpAny_storeSet_of e2 rL ?_ (fits_of_scanBound ∅))
    exact wj (wj (fin _ (sb2.trans (Heap.SameBut.update _ a _)) ⟨_,es2,_,t3,zeN e2 rL,hex,rL,hel1.perm rp,hp2,rf,rg⟩))
   ·exact wj (wj (fin h2 sb2 ⟨_,es1,_,t1,e2,hex,rL,hel1,hp1,lf,lg⟩))
theorem SI.same {h h':Heap}{a:Addr}{ks:List Int}(S:SI prog w bt h a ks) (k:∀o,h.get? a=some o->h'.get? a=some o):SI prog w bt h' a ks:=by
 obtain⟨o,es,ep,t,ho,r⟩:=S
 exact⟨o,es,ep,t,k o ho,r⟩
def uq:List Int->List Int
 | []=>[]
 | k::r=>if k∈uq r then uq r else k::uq r
theorem uq_mem:∀{ns:List Int}{k:Int},k∈uq ns↔k∈ns
 | [],k=>Iff.rfl
 | n::r,k=>by
  unfold uq
  split
  ·rename_i c
   rw[uq_mem,wx]
   exact⟨.inr,λh=>h.elim (λe=>e ▸ uq_mem.mp c) id⟩
  ·rw[wx,wx,uq_mem]
theorem uq_nodup:∀(ns:List Int),(uq ns).Nodup
 | []=>Uc
 | n::r=>by
  unfold uq
  split
  ·exact uq_nodup r
  ·rename_i c
   exact uS.mpr ⟨c,uq_nodup r⟩
theorem uq_len:∀(ns:List Int),(uq ns).length<=ns.length
 | []=>wg _
 | n::r=>by
  unfold uq
  have:=uq_len r
  split <;> simp <;> lia
theorem zfC {ns:List Int}{i:Nat}{k:Int}(h:ns[i]? = some k):(ns.take (i+1)).reverse=k::(ns.take i).reverse:=by
 rw[yE,h]
 simp
theorem zfG {R:Result->Shared->Prop}{I l:Addr}{items:Array Value}{ns:List Int}(hh:A.handled=none) (hI:IntsAre items.toList ns) (hb:ns.length+1<scanBound) (hne:l≠I) (S:Addr) (h1:S≠I) (hSl:S≠l) :
  ∀(k i:Nat) (s:Shared),ns.length - i=k->i<=ns.length->s.heap.IsListIter I l i->s.heap.IsList l items->SI prog w bt s.heap S (uq (ns.take i).reverse) →
   (∀h' tk,(∀b o,b≠S->b≠I->s.heap.get? b=some o->h'.get? b=some o)->SI prog w bt h' S (uq ns.reverse)->R (.ok (.ret .none)) { s with heap:=h',toks:=tk }) →
   codeAny (model prog w) A (.builtin "set.update.loop" ⟨[.ref S,.ref I],[]⟩) R s:=by
 have hl:items.size=ns.length:=by have:=hI.length;rw[wJ]at this;exact this
 have W:=Walks.list (prog:=prog) (w:=w) (A:=A.in1) hh I l hne items
 intro k
 induction k with
 | zero =>
  intro i s hk hi it il si hR
  obtain rfl:i=ns.length:=by lia
  refine codeAny_builtin F.entry_set_update_loop ?_
  rw[Around.under_plainId F.plain_set_update_loop _]
  refine wc (W.done s _ _ (by rw[hl];exact⟨it,il⟩) λh' tk kk=>?_)
  refine wj (hR h' tk (λb o b1 b2 e=>kk b o (by simpa using b2) e) ?_)
  rw[yt]at si
  exact si.same λo e=>kk S o (by simpa using h1) e
 | succ k ih =>
  intro i s hk hi it il si hR
  have hlt:i<ns.length:=by lia
  refine codeAny_builtin F.entry_set_update_loop ?_
  rw[Around.under_plainId F.plain_set_update_loop _]
  refine wc (W.item i s _ _ ∅ ⟨it,il⟩ λv h' tk hv st kk=>?_)
  obtain⟨t,rfl⟩:=hI.int_at i v (by rw[wL];exact hv)
  have hn:ns[i]? = some (ns.getD i 0):=by rw[List.getD,wC hlt];rfl
  have si':SI prog w bt h' S (uq (ns.take i).reverse):=si.same λo e=>kk S o (by simpa using h1) e
  refine wc (yN (yN (wc ((intKind prog w).pyHash (k:=ns.getD i 0) (intKind_is _ _ _ _) ?_))))
  have hr:(uq (ns.take i).reverse).length+1<scanBound:=by
   have:=uq_len (ns.take i).reverse
   rw[List.length_reverse,yj]at this
   lia
  refine zeW (bt:=bt) (s:={ s with heap:=h',toks:=tk+1 }) si' hr λh2 b sb si2=>?_
  have si3:SI prog w bt h2 S (uq (ns.take (i+1)).reverse):=by
   rw[zfC hn];exact si2
  have keep:∀b o,b≠S->h'.get? b=some o->h2.get? b=some o:=λb o hb e=>by rw[sb.2 b hb];exact e
  refine wj ⟨plainId_quiet F.plain_set_update_loop _,ih (i+1) _ ∅ hlt (st.1.at λo e=>keep I o (Ne.symm h1) e) (st.2.at λo e=>keep l o (Ne.symm hSl) e) si3 λh3 tk3 k3 si4=>?_⟩
  exact hR h3 tk3 (λb o b1 b2 e=>k3 b o b1 b2 (keep b o b1 (kk b o (by simpa using b2) e))) si4
variable {prog:Program}{w:World}{A:Around}{E:Value->Shared->Prop}{s:Shared}
abbrev byT (w:World):Bool:=w.params.followText "set-order"
def QS (w:World):Obj:={ cls:=.type "set",dict:=none,data:=.set #[] 0 (.fresh 0 0 !byT w) }
theorem zgg (a:Value){Q:Value->Shared->Prop}(h:Q (.ref s.heap.objs.size) { s with heap:=s.heap.push (QS w) }) :
  codeAny (model prog w) A (.call (.builtin "set.__new__") ⟨[.type "set",a],[]⟩) (wants Q E) s:=by
 refine codeAny_of_tree (wc (YZ (F.newCall_set_1 a) (wj ⟨plainId_quiet F.plain_set_new _,codeAny_builtin F.entry_set_new ?_⟩)))
 rw[Around.under_plainId F.plain_set_new _]
 unfold Builtin.«set.__new__» Builtin.Frozenset.newClass
 have hsub:=sub_set_self
 obtain⟨hp,g,d,tk,os⟩:=s
 try dsimp only
 wp_walk
 exact Y5 (wj (wc (wpAny_alloc (wj (wj h)))))
theorem zi5 {h:Heap}:SI prog w (byT w) (h.push (QS w)) h.objs.size []:=by
 refine⟨QS w,#[],0,_,wE _ rfl,?_,rfl,λe m=>by simp at m,by simp,by rfl,⟨λi j x y _ e1 _=>by simp[SetTable.fresh]at e1,λhb=>?_⟩⟩
 ·exact⟨rL,rL,rL⟩
 ·show (!byT w)=true
  rw[hb];rfl
theorem call_set {l:Addr}{items:Array Value}{ns:List Int}{Q:Value->Shared->Prop}(hh:A.handled=none) (hl:s.heap.IsList l items) (hI:IntsAre items.toList ns) (hb:ns.length+1<scanBound)
  (h:∀h' tk,SI prog w (byT w) h' s.heap.objs.size (uq ns.reverse)->(∀b o,s.heap.get? b=some o->h'.get? b=some o)->Q (.ref s.heap.objs.size) { s with heap:=h',toks:=tk }) :
  wpAny (model prog w) A (call (.type "set") [.ref l]) Q E s:=by
 have ct:=F.called_set
 obtain⟨c,tl,hmro⟩:=ct.mro
 have e1:=ct.made
 have e2:=ct.sub
 have e5:=F.typeCall_set_1 (.ref l)
 have e6:=ct.init.lookup
 have e7:=ct.init.bind (.ref s.heap.objs.size)
 refine YQ (codeAny_of_tree (wj ⟨Code.quiet_builtin _ (by decide +kernel),codeAny_builtin F.entry_type_call ?_⟩))
 rw[Around.under_plain (weight_type_call_type "set" [.ref l] []) rfl]
 repeat (any_goals (first | assumption | wp_step))
 refine codeAny_mono (zgg (w:=w) (.ref l) (E:=E) (Q:=λv s₁=>v = .ref s.heap.objs.size/\s₁ = { s with heap:=s.heap.push (QS w) }) ⟨rfl,rfl⟩) λr s₁ hr=>?_
 cases r with
 | error e=>exact hr
 | ok fl =>
  cases fl with
  | ret obj =>
   obtain⟨rfl,rfl⟩:=hr
   have hS:(s.heap.push (QS w)).get? s.heap.objs.size=some (QS w):=wE _ rfl
   have hT:Shared.TypeIs { s with heap:=s.heap.push (QS w) } (.ref s.heap.objs.size) "set":=⟨_,hS,rfl⟩
   repeat (any_goals (first | assumption | wp_step))
   refine codeAny_mono (codeAny_call_builtin (R:=wants (λr s₂=>r = .none/\Q (.ref s.heap.objs.size) s₂) E) ct.init.plain F.entry_set_init (check_set_init_1 hT ?_)) λr₂ s₂ hr₂=>?_
   ·obtain⟨⟨oc,od,dt,osl⟩,hol,c1,nl,c2⟩:=id hl
    dsimp only at c1 c2
    subst c1 c2
    have g1:=wf (QS w) hol
    have f1:=F.sub_list_set
    have f2:=F.sub_list_frozenset
    have hL:(s.heap.push (QS w)).IsList l items:=⟨_,g1,rfl,nl,rfl⟩
    unfold Builtin.«set.__init__» noKeywords Builtin.Frozenset.updateFrom
    generalize hpi:pyIter=PI
    wp_walk
    subst hpi
    refine YO hL (wc (wpAny_runValue ?_))
    have lt:=wB hol
    have sz1:(s.heap.push (QS w)).objs.size=s.heap.objs.size+1:=Ws ..
    have n1:l≠(s.heap.push (QS w)).objs.size:=by rw[sz1];exact wS (uV lt)
    have n2:s.heap.objs.size≠(s.heap.push (QS w)).objs.size:=by rw[sz1];exact wS (Yb _)
    refine zfG (bt:=byT w) (by simp[hh]) hI hb n1 s.heap.objs.size n2 (Wy lt) _ 0 _ rfl (w8 _) ⟨_,wE _ rfl,rfl,rfl⟩ (hL.push _) ?_ λh' tk kk si=>?_
    ·rw[Wv]
     exact(zi5 (prog:=prog)).same λo e=>wf _ e
    ·refine wj (wj ⟨rL,h h' tk si λb o e=>?_⟩)
     have hlt:=wB e
     exact kk b o (wS hlt) (by rw[sz1];exact wS (uV hlt)) (wf _ (wf _ e))
   ·cases r₂ with
    | error e=>exact hr₂
    | ok fl₂ =>
     cases fl₂ with
     | ret r =>
      obtain⟨rfl,q⟩:=hr₂
      repeat (any_goals (first | assumption | wp_step))
     | _=>exact hr₂.elim
  | _=>exact hr.elim
theorem zdU:entryFor table "set.__iter__" = some Builtin.«frozenset.__iter__»:=entryFor_alias (id':="frozenset.__iter__") (by kernel_rfl) rfl (by decide +kernel) (by kernel_rfl)
theorem vf:Slot "set_iterator" "__next__" "set_iterator.__next__" :=
 .of (owner:="set_iterator") (n:="__next__") (by rw[typeLookup_type,builtinLookup_eq_fast];kernel_rfl) (by decide +kernel) (by decide +kernel) (by decide +kernel) (.inl (by decide +kernel)) (by rw[isSubtype_type];kernel_rfl)
theorem JF:entryFor table "set_iterator.__next__" = some Builtin.«set_iterator.__next__»:=entryFor_of_tree (by kernel_rfl)
theorem Jw (a:Value):argsOk "set_iterator.__next__" ⟨[a],[]⟩:=by unfold argsOk;kernel_rfl
theorem zaF:Slot "set_iterator" "__iter__" "set_iterator.__iter__" :=
 .of (owner:="set_iterator") (n:="__iter__") (by rw[typeLookup_type,builtinLookup_eq_fast];kernel_rfl) (by decide +kernel) (by decide +kernel) (by decide +kernel) (.inl (by decide +kernel)) (by rw[isSubtype_type];kernel_rfl)
theorem zfW:entryFor table "set_iterator.__iter__" = some Builtin.«dict_keyiterator.__iter__»:=entryFor_alias (id':="dict_keyiterator.__iter__") (by kernel_rfl) (by decide +kernel) (by decide +kernel) (by kernel_rfl)
theorem zfQ (a:Value):argsOk "set_iterator.__iter__" ⟨[a],[]⟩:=by unfold argsOk;kernel_rfl
variable {prog:Program}{w:World}{A:Around}{E:Value->Shared->Prop}{s:Shared}
def itO (f:Value) (a:Addr) (i n ep:Nat):Obj:={ cls:=.type "set_iterator",data:=.fields #[f,rawInt i,.ref a,rawInt n,rawInt ep] }
def SAt (h:Heap) (a:Addr) (es:Array (Int×Value)) (ep:Nat) (t:SetTable):Prop:=∃o,h.get? a=some o/\o.ExactSet/\o.data = .set es ep t/\t.fits es.size=true
theorem SAt.at {h h':Heap}{a:Addr}{es:Array (Int×Value)}{ep:Nat}{t:SetTable}(S:SAt h a es ep t) (k:∀o,h.get? a=some o->h'.get? a=some o):SAt h' a es ep t:=let ⟨o,ho,r⟩:=S;⟨o,k o ho,r⟩
theorem ite_no {α:Type}{M:Model}{c:Prop}{d:Decidable c}{m n:Sem α}{Q:α->Shared->Prop}(hc:¬c) (h:wpAny M A n Q E s):wpAny M A (@ite _ c d m n) Q E s:=by rw[if_neg hc];exact h
theorem QW {α:Type}{M:Model}{c:Prop}{d:Decidable c}{m n:Sem α}{Q:α->Shared->Prop}(hc:c) (h:wpAny M A m Q E s):wpAny M A (@ite _ c d m n) Q E s:=by rw[if_pos hc];exact h
section
variable {a:Addr}{es:Array (Int×Value)}{ep:Nat}{t:SetTable}
theorem ZV {Q:Bool->Shared->Prop}(h:Q (byT w) s):wpAny (model prog w) A setsByText Q E s:=wc (Y5 (wj h))
theorem zdc {sl i:Nat}{Q:Option (Value×Nat)->Shared->Prop} (S:SAt s.heap a es ep t) (hb:byT w=true) (h:Q (((pickOrder (w.params.setOrder a ep) es)[i]?).map λe=>(e.2,sl)) s):wpAny (model prog w) A (setNext a sl i ep) Q E s:=by
 obtain⟨o,ho,hex,hd,hf⟩:=S
 unfold setNext
 refine wc (uX ho hd hf (wc (ZV ?_)))
 try dsimp only
 rw[hb,if_pos rfl,if_neg (by simp)]
 refine wc ?_
 unfold setWalk
 refine wc (uX ho hd hf (wc (ZV ?_)))
 rw[hb,if_pos rfl]
 exact wc (Y5 (wj (wj h)))
theorem zbk {sl i:Nat}{Q:Option (Value×Nat)->Shared->Prop} (S:SAt s.heap a es ep t) (hb:byT w=false) (hd':(!t.plain&&decide (es.size>1))=false) (G:Gd (byT w) t)
  (h:Q (match es[SetTable.below t.place sl]?,t.place[SetTable.below t.place sl]? with | some e,some j=>some (e.2,j+1) | _,_=>none) s):wpAny (model prog w) A (setNext a sl i ep) Q E s:=by
 obtain⟨o,ho,hex,hd,hf⟩:=S
 unfold setNext
 refine wc (uX ho hd hf (wc (ZV ?_)))
 try dsimp only
 rw[hb,if_neg wZ]
 refine ite_no (λz=>by have z':(!t.plain&&decide (es.size>1))=true:=z;rw[hd']at z';cases z') (wc (ite_no (by rw[G.led hb];simp) ?_))
 exact wj (wj (by revert h;cases es[SetTable.below t.place sl]? <;> cases t.place[SetTable.below t.place sl]? <;> exact id))
theorem zbj {k:Nat}{e:Int×Value}{Q:Value->Shared->Prop}(S:SAt s.heap a es ep t) (he:es[k]? = some e) (h:Q e.2 s):wpAny (model prog w) A (setNextDrawn a k ep) Q E s:=by
 obtain⟨o,ho,hex,hd,hf⟩:=S
 unfold setNextDrawn
 refine wc (uX ho hd hf ?_)
 try dsimp only
 rw[if_neg (by simp),he]
 exact wj h
theorem stop {α:Type}{Q:α->Shared->Prop}{E':Value->Shared->Prop}(hh:A.handled=none) (h:∀x h',(∀b o,s.heap.get? b=some o->h'.get? b=some o)->Shared.TypeIs { s with heap:=h' } (.ref x) "StopIteration"->E' (.ref x) { s with heap:=h' }) :
  wpAny (model prog w) A (newExc (.type "StopIteration") [] >>= λe=>raiseNew e:Sem α) Q E' s:=by
 simp only[newExc,newTuple]
 refine wc (wc (yO ?_ (by size_fits)))
 refine wc (m:=firstArgMember _ _) (YZ (a:=Value.none) (by first | rfl | (simp only[firstArgMember];rfl)) ?_)
 refine yO ?_ (by size_fits)
 refine wpAny_raiseNew_none hh (h _ _ (λb o e=>wf _ (wf _ e)) ⟨_,wE _ rL,rL⟩)
end
variable {prog:Program}{w:World}{A:Around}{E:Value->Shared->Prop}{s:Shared}{a it:Addr}{es:Array (Int×Value)}{ep:Nat}{t:SetTable}
theorem zcm {f g:Value}{i:Nat}{Q:Unit->Shared->Prop}(hit:s.heap.get? it=some (itO f a i es.size ep)) (h:∀h',h'.get? it=some (itO g a i es.size ep)->Heap.SameBut it s.heap h'->Q () { s with heap:=h' }):wpAny (model prog w) A (setField (.ref it) 0 g) Q E s :=
 YC hit (by show 0<5;decide) h
theorem zcn {f:Value}{i:Nat}{Q:Unit->Shared->Prop}(hit:s.heap.get? it=some (itO f a i es.size ep)) (h:∀h',h'.get? it=some (itO f a (i+1) es.size ep)->Heap.SameBut it s.heap h'->Q () { s with heap:=h' }):wpAny (model prog w) A (setField (.ref it) 1 (rawInt ((i:Int)+1))) Q E s :=
 YC hit (by show 1<5;decide) h
theorem zcl {f:Value}{i:Nat}{Q:Unit->Shared->Prop}(hit:s.heap.get? it=some (itO f a i es.size ep)) (h:∀h',Heap.SameBut it s.heap h'->Q () { s with heap:=h' }):wpAny (model prog w) A (setField (.ref it) 2 .none) Q E s :=
 YC hit (by show 2<5;decide) λh' _ sb=>h h' sb
theorem SAt.but {h h':Heap}(S:SAt h a es ep t) (sb:Heap.SameBut it h h') (hne:it≠a):SAt h' a es ep t:=S.at λo e=>by rw[sb.2 a (Ne.symm hne)];exact e
theorem zck {f:Value}{i:Nat}{Q:Value->Shared->Prop}(hit:s.heap.get? it=some (itO f a i es.size ep)) (h:Q (.ref it) s):wpAny (model prog w) A (pyIter (.ref it)) Q E s:=by
 have hT:s.TypeIs (.ref it) "set_iterator":=⟨_,hit,rfl⟩
 refine wpAny_pyIter_slot hT zaF (uu zaF hT zfW ?_ (zfQ _))
 exact wj ⟨_,rL,"set_iterator",_,hT,vf.lookup,h⟩
theorem zjF {Q:Option Value->Shared->Prop}{s':Shared}{x:Addr}(hT:s'.TypeIs (.ref x) "StopIteration") (h:Q none s'):wpAny (model prog w) A (do
  let b <-isInstance (.ref x) (.type "StopIteration")
  if b=true then pure none else throw (.ref x)) Q E s' :=
 wc (wpAny_isInstance hT isSubtype_stop (QW rfl (wj h)))
theorem zaP (hh:A.handled=none) (hne:it≠a){ys:List Value}(sl:Nat->Nat) (hy:ys.length=es.size)
  (NX:∀(s:Shared) (i:Nat) (A:Around) (E:Value->Shared->Prop) (Q:Option (Value×Nat)->Shared->Prop),i<=es.size->SAt s.heap a es ep t->Q ((ys[i]?).map λy=>(y,sl (i+1))) s->wpAny (model prog w) A (setNext a (sl i) i ep) Q E s) :
  Walks prog w A it [it,a] [it] es.size (λi v=>ys[i]? = some v) (λi h=>h.get? it=some (itO (rawInt (sl i)) a i es.size ep)/\SAt h a es ep t) where
 sub:=λb hb=>by simp at hb;simp[hb]
 frame:=λi h h' st k=>⟨k it (by simp) _ st.1,st.2.at λo e=>k a (by simp) o e⟩
 item:=by
  intro i s Q E hi ⟨hit,S⟩ k
  have hT:s.TypeIs (.ref it) "set_iterator":=⟨_,hit,rfl⟩
  obtain⟨o,ho,hex,hd,hf⟩:=id S
  unfold pyNext
  refine wc (Wq (wpAny_callSpecial?_slot (name:=Str.ofString "__next__") hT vf (uu vf hT JF ?_ (Jw _))))
  unfold Builtin.«set_iterator.__next__»
  refine wc (wj (wc (YG hit rfl (wc (uZ ho hd hf (ite_no (by simp) ?_))))))
  have ey:ys[i]? = some ys[i]:=wC ∅
  refine wc (NX s i _ _ _ (Yt hi) S ?_)
  rw[ey]
  refine wc (zcm hit λh1 e1 sb1=>wc (zcn e1 λh2 e2 sb2=>wj ⟨_,rL,wj ?_⟩))
  have sb:=sb1.trans sb2
  exact k _ _ _ ey ⟨e2,S.but sb hne⟩ λb o hb e=>by rw[sb.2 b (by simpa using hb)];exact e
 done:=by
  intro s Q E ⟨hit,S⟩ k
  have hT:s.TypeIs (.ref it) "set_iterator":=⟨_,hit,rfl⟩
  obtain⟨o,ho,hex,hd,hf⟩:=id S
  unfold pyNext
  refine wc (Wq (wpAny_callSpecial?_slot (name:=Str.ofString "__next__") hT vf (uu vf hT JF ?_ (Jw _))))
  unfold Builtin.«set_iterator.__next__»
  refine wc (wj (wc (YG hit rfl (wc (uZ ho hd hf (ite_no (by simp) ?_))))))
  have ey:ys[es.size]? = none:=yJ ∅
  refine wc (NX s _ _ _ _ (wg _) S ?_)
  rw[ey]
  refine wc (zcl hit λh1 sb=>stop (by simp[hh]) λx h2 kk hT2=>zjF hT2 (k h2 _ λb o hb e=>kk b o (by rw[sb.2 b (by simpa using hb)];exact e)))
 self:=λi s Q E st h=>zck st.1 h
theorem zbC (hh:A.handled=none) (hne:it≠a){p:Addr}(hpi:it≠p){ks:List Nat}(hk:ks.Perm (List.range es.size)) :
  Walks prog w A it [it,a,p] [it] es.size (λi v=>(ks.map λk=>(es.getD k (0,.none)).2)[i]? = some v) (λi h=>h.get? it=some (itO (.ref p) a i es.size ep)/\SAt h a es ep t/\∃c sl dd,h.get? p=some { cls:=c,dict:=dd,data:=.seq (ks.map λk=>rawInt (k:Nat)).toArray 0,slots:=sl }) where
 sub:=λb hb=>by simp at hb;simp[hb]
 frame:=λi h h' st k=>⟨k it (by simp) _ st.1,st.2.1.at λo e=>k a (by simp) o e,let ⟨c,sl,dd,e⟩:=st.2.2;⟨c,sl,dd,k p (by simp) _ e⟩⟩
 item:=by
  intro i s Q E hi ⟨hit,S,c,sl,dd,hp⟩ k
  have hT:s.TypeIs (.ref it) "set_iterator":=⟨_,hit,rfl⟩
  obtain⟨o,ho,hex,hd,hf⟩:=id S
  unfold pyNext
  refine wc (Wq (wpAny_callSpecial?_slot (name:=Str.ofString "__next__") hT vf (uu vf hT JF ?_ (Jw _))))
  unfold Builtin.«set_iterator.__next__»
  refine wc (wj (wc (YG hit rfl (wc (uZ ho hd hf (ite_no (by simp) ?_))))))
  have lk:ks.length=es.size:=by rw[hk.length_eq,yG]
  have ek:ks[i]? = some ks[i]:=wC (by omega)
  have hm:ks[i]<es.size:=WW.mp (hk.mem_iff.mp (List.getElem_mem _))
  have ee:es[ks[i]]? = some es[ks[i]]:=wK hm
  refine wc (wc (Ui hp (wj ?_)))
  have e1:(ks.map λk=>rawInt (k:Nat)).toArray[((i:Nat):Int).toNat]? = some (rawInt ((ks[i]:Nat):Int)):=by
   rw[Int.toNat_natCast,W7,wo,ek];rfl
  try dsimp only
  rw[e1]
  refine wc (zbj (t:=t) S (k:=ks[i]) ee ?_)
  refine wc (zcn hit λh2 e2 sb=>wj ⟨_,rL,wj ?_⟩)
  refine k _ _ _ ?_ ⟨e2,S.but sb hne,c,sl,dd,by rw[sb.2 p (Ne.symm hpi)];exact hp⟩ λb o hb e=>by rw[sb.2 b (by simpa using hb)];exact e
  rw[wo,ek]
  simp[YK,hm]
 done:=by
  intro s Q E ⟨hit,S,c,sl,dd,hp⟩ k
  have hT:s.TypeIs (.ref it) "set_iterator":=⟨_,hit,rfl⟩
  obtain⟨o,ho,hex,hd,hf⟩:=id S
  unfold pyNext
  refine wc (Wq (wpAny_callSpecial?_slot (name:=Str.ofString "__next__") hT vf (uu vf hT JF ?_ (Jw _))))
  unfold Builtin.«set_iterator.__next__»
  refine wc (wj (wc (YG hit rfl (wc (uZ ho hd hf (ite_no (by simp) ?_))))))
  have lk:ks.length=es.size:=by rw[hk.length_eq,yG]
  refine wc (wc (Ui hp (wj ?_)))
  have e1:(ks.map λk=>rawInt (k:Nat)).toArray[((es.size:Nat):Int).toNat]? = none:=by
   rw[Int.toNat_natCast,W7,yJ (by rw[we];omega)]
  try dsimp only
  rw[e1]
  refine wc (zcm hit λh1 e1 sb1=>wc (zcl e1 λh2 sb2=>stop (by simp[hh]) λx h3 kk hT2=>zjF hT2 (k h3 _ λb o hb e=>kk b o ?_)))
  rw[sb2.2 b (by simpa using hb),sb1.2 b (by simpa using hb)];exact e
 self:=λi s Q E st h=>zck st.1 h
variable {prog:Program}{w:World}{A:Around}{E:Value->Shared->Prop}{s:Shared}{a:Addr}{es:Array (Int×Value)}{ep:Nat}{t:SetTable}
theorem Zj {α:Type}:∀{l:List α}{i:Nat}{x:α},l[i]? = some x->(x::l.eraseIdx i).Perm l
 | [],i,x,h=>by cases h
 | y::l,0,x,h=>by cases h;exact .refl _
 | y::l,i+1,x,h=>by
  rw[List.eraseIdx_cons_succ]
  exact(List.Perm.swap y x _).trans (List.Perm.cons y (Zj (by simpa using h)))
theorem Je {α:Type}{l:List α}{i:Nat}{x:α}(h:l[i]? = some x):(l.eraseIdx i).length+1=l.length:=by
 have:=(Zj h).length_eq
 rw[ww]at this;exact this
theorem Ji {α:Type}(nx:Nat->Nat) (xs:Array α):(pickOrder nx xs).toList.Perm xs.toList:=by
 have go:∀(f k:Nat) (l:List α) (o:Array α),l.length=f->(pickOrder.go nx f k l o).toList.Perm (o.toList++l):=by
  intro f
  induction f with
  | zero =>
   intro k l o hl
   obtain rfl:=yX.mp hl
   rw[yB];exact .refl _
  | succ f ih =>
   intro k l o hl
   have hlt:nx k % l.length<l.length:=Nat.mod_lt _ ∅
   have ex:l[nx k % l.length]? = some l[nx k % l.length]:=wC hlt
   unfold pickOrder.go
   rw[ex]
   refine(ih (k+1) _ _ (by have:=Je ex;lia)).trans ?_
   rw[YJ,yF]
   exact List.Perm.append_left _ (Zj ex)
 have:=go xs.size 0 xs.toList #[] (by simp)
 rw[show (#[]:Array α).toList=[]from rfl,WL]at this
 exact this
theorem zaX {M:Model}{n:Nat}{Q:Nat->Shared->Prop}(hn:n≠0) (h:∀i d,i<n->Q i { s with drawn:=d }):wpAny M A (choose .order n) Q E s:=fun Γ p hΓ=>⟨hn,h _ _ (Nat.mod_lt _ (Nat.pos_of_ne_zero hn))⟩
theorem V8 {α:Type}{M:Model}:∀{n:Nat}{l:List α}{s:Shared}{Q:List α->Shared->Prop},l.length=n->(∀xs d,xs.Perm l->Q xs { s with drawn:=d })->wpAny M A (drawOrder n l) Q E s
 | 0,l,s,Q,hl,h=>by
  obtain rfl:=yX.mp hl
  exact wj (h [] s.drawn (.refl _))
 | n+1,l,s,Q,hl,h=>by
  match l,hl with
  | y::l,hl =>
   refine wc (zaX (by simp) λi d0 hlt=>?_)
   have ex:(y::l)[i]? = some (y::l)[i]:=wC hlt
   rw[ex]
   refine wc (V8 (by have:=Je ex;lia) λxs d hp=>wj (h _ d ?_))
   exact(List.Perm.cons _ hp).trans (Zj ex)
theorem zdG {xs:Array Nat}(R:Ris xs){i:Nat}(hi:i<=xs.size):SetTable.below xs (if i=0 then 0 else xs.getD (i - 1) 0+1)=i:=by
 obtain⟨b1,b2,b3⟩:=Xi R (if i=0 then 0 else xs.getD (i - 1) 0+1)
 generalize hb:SetTable.below xs (if i=0 then 0 else xs.getD (i - 1) 0+1)=b at *
 rcases Nat.lt_trichotomy b i with c | c | c
 ·have eb:xs[b]? = some xs[b]:=wK ∅
  have h1:=b3 b _ (wg _) eb
  rw[if_neg ∅]at h1
  have h2:i - 1<xs.size:=by lia
  have e2:xs.getD (i - 1) 0=xs[i - 1]:=by simp[YK,h2]
  rw[e2]at h1
  rcases Yw (show b<=i - 1 by lia)with q | q
  ·subst q;lia
  ·have:=R b (i - 1) _ _ q eb (wK h2);lia
 ·exact c
 ·have ei:xs[i]? = some xs[i]:=wK ∅
  have h1:=b2 i _ c ei
  by_cases z:i=0
  ·rw[if_pos z]at h1;lia
  ·rw[if_neg z]at h1
   have h2:i - 1<xs.size:=by lia
   have e2:xs.getD (i - 1) 0=xs[i - 1]:=by simp[YK,h2]
   rw[e2]at h1
   have:=R (i - 1) i _ _ ∅ (wK h2) ei
   lia
structure Itr (prog:Program) (w:World) (h0 h:Heap) (a it:Addr) (es:Array (Int×Value)) (ys:List Value) (fp:List Addr) (St:Nat->Heap->Prop):Prop where
 pm:ys.Perm (es.toList.map λe=>e.2)
 wk:∀A:Around,A.handled=none->Walks prog w A it fp [it] es.size (λi v=>ys[i]? = some v) St
 st:St 0 h
 kp:∀b o,h0.get? b=some o->h.get? b=some o
 fp:∀b∈fp,b=a\/h0.objs.size<=b
 it:h0.objs.size<=it
theorem zgX {Q:Nat->Shared->Prop}(S:SAt s.heap a es ep t) (h:Q es.size s):wpAny (model prog w) A (Builtin.Frozenset.sizeOf a) Q E s:=by
 obtain⟨o,ho,hex,hd,hf⟩:=S
 exact wc (uZ ho hd hf (wj h))
theorem zfa {Q:Value->Shared->Prop}(S:SAt s.heap a es ep t) (G:Gd (byT w) t) (hz:es.size<=sizeLine) (h:∀it h' d ys fp St,Itr prog w s.heap h' a it es ys fp St->Q (.ref it) { s with heap:=h',drawn:=d }):wpAny (model prog w) A (pyIter (.ref a)) Q E s:=by
 obtain⟨o,ho,hex,hd,hf⟩:=id S
 have lt:a<s.heap.objs.size:=wB ho
 have hT:s.TypeIs (.ref a) "set":=⟨o,ho,hex.1⟩
 have pz:t.place.size=es.size:=by
  unfold SetTable.fits at hf
  simp only[uN,beq_iff_eq]at hf
  exact hf.1
 refine wpAny_pyIter_slot hT F.slot_set_iter (uu F.slot_set_iter hT zdU ?_ (F.args_set_iter_1 _))
 unfold Builtin.«frozenset.__iter__» Builtin.Frozenset.slot0
 refine wc (wj (wc (zgX S ?_)))
 refine wc ?_
 unfold setDrawn
 refine wc (uX ho hd hf (wc (ZV (wj ?_))))
 have make:∀(f:Value) (h1:Heap) (d:Drawn) (ys:List Value) (fp:Addr->List Addr) (St:Addr->Nat->Heap->Prop),(∀b o,s.heap.get? b=some o->h1.get? b=some o)->s.heap.objs.size<=h1.objs.size →
   ys.Perm (es.toList.map λe=>e.2)->(∀A:Around,A.handled=none->Walks prog w A h1.objs.size (fp h1.objs.size) [h1.objs.size] es.size (λi v=>ys[i]? = some v) (St h1.objs.size))->(St h1.objs.size) 0 (h1.push (itO f a 0 es.size ep)) →
   (∀b∈fp h1.objs.size,b=a\/s.heap.objs.size<=b) →
   wpAny (model prog w) A.in1 (setEpoch a >>= λe=>newFields "set_iterator" [f,rawInt 0,.ref a,rawInt es.size,rawInt e] >>= λv=>ret v) (λfin s'=>∃v,fin = .done (.ret v)/\∃T' r,s'.TypeIs v T'/\typeLookup (.type T') (Str.ofString "__next__")=pure (some r)/\Q v s') E { s with heap:=h1,drawn:=d } :=
  λf h1 d ys fp St k1 z1 pm wk st fpp=>by
   refine wc (wpAny_setEpoch_of (k1 _ _ ho) hd hf (wc (yO ?_ (by size_fits))))
   refine wj ⟨_,rL,"set_iterator",_,⟨_,wE _ rL,rL⟩,vf.lookup,?_⟩
   exact h h1.objs.size _ d ys _ _ ⟨pm,wk,st,λb o e=>wf _ (k1 b o e),fpp,z1⟩
 have ne:s.heap.objs.size≠a:=Wy lt
 cases hb:byT w with
 | true =>
  refine ite_no (by simp) (wc (wj ?_))
  refine make (rawInt 0) s.heap s.drawn ((pickOrder (w.params.setOrder a ep) es).toList.map λe=>e.2) (λit=>[it,a]) (λit i h=>h.get? it=some (itO (rawInt ((λ_=>0) i:Nat)) a i es.size ep)/\SAt h a es ep t) (λ_ _ e=>e) (wg _) ((Ji _ _).map _) (λA hh=>zaP hh ne (λ_=>0) (by rw[we,(Ji _ _).length_eq,wJ]) λs i A E Q hi S q=>zdc S hb ?_) ⟨wE _ rfl,S.at λo e=>wf _ e⟩ (λb m=>?_)
  ·rw[wo,Option.map_map]at q
   rw[<-wL];exact q
  ·rcases wx.mp m with e | m
   ·exact .inr (WX e.symm)
   ·exact .inl (wD.mp m)
 | false =>
  by_cases hp:(!t.plain&&decide (es.size>1))=true
  ·refine QW (by rw[Bool.not_false,YW];exact hp) (wc (V8 (by rw[yG]) λks d hk=>wc (wpAny_newTuple ?_ (by rw[we,hk.length_eq,yG];exact hz))))
   ·have lk:ks.length=es.size:=by rw[hk.length_eq,yG]
    have np:s.heap.objs.size+1≠s.heap.objs.size:=Nat.succ_ne_self _
    have z1:(s.heap.push (seqObj "tuple" (ks.map λi=>rawInt (i:Nat)).toArray 0)).objs.size=s.heap.objs.size+1:=Ws ..
    refine make (.ref s.heap.objs.size) (s.heap.push (seqObj "tuple" (ks.map λi=>rawInt (i:Nat)).toArray 0)) d (ks.map λk=>(es.getD k (0,.none)).2) (λit=>[it,a,s.heap.objs.size]) (λit i h=>h.get? it=some (itO (.ref s.heap.objs.size) a i es.size ep)/\SAt h a es ep t/\∃c sl dd,h.get? s.heap.objs.size=some { cls:=c,dict:=dd,data:=.seq (ks.map λk=>rawInt (k:Nat)).toArray 0,slots:=sl }) (λ_ _ e=>wf _ e) (by rw[z1];exact Nat.le_succ _) ?_ (λA hh=>zbC hh (by rw[z1];exact Wy (uV lt)) (by rw[z1];exact np) hk) ⟨wE _ rfl,S.at λo e=>wf _ (wf _ e),_,_,_,wf _ (wE _ rfl)⟩ (λb m=>?_)
    ·have e1:(ks.map λk=>(es.getD k (0,.none)).2).Perm ((List.range es.size).map λk=>(es.getD k (0,.none)).2):=hk.map _
     refine e1.trans (List.Perm.of_eq ?_)
     apply uI
     intro i
     rw[wo,wo,wL (xs:=es)]
     by_cases c:i<es.size
     ·rw[List.getElem?_range c,wK c];simp[YK,c]
     ·rw[yJ (by rw[yG];lia),uw ∅];rfl
    ·rcases wx.mp m with e | m
     ·refine .inr ?_
      rw[e,z1];exact Nat.le_succ _
     ·rcases wx.mp m with e | m
      ·exact .inl e
      ·exact .inr (WX (wD.mp m).symm)
  ·refine ite_no (by rw[Bool.not_false,YW];exact hp) (wc (wj ?_))
   refine make (rawInt 0) s.heap s.drawn (es.toList.map λe=>e.2) (λit=>[it,a]) (λit i h=>h.get? it=some (itO (rawInt ((λi=>if i=0 then 0 else t.place.getD (i - 1) 0+1) i:Nat)) a i es.size ep)/\SAt h a es ep t) (λ_ _ e=>e) (wg _) (.refl _) (λA hh=>zaP hh ne (λi=>if i=0 then 0 else t.place.getD (i - 1) 0+1) (by rw[we,wJ]) λs i A E Q hi S q=>zbk S hb (by simpa using hp) G ?_) ⟨wE _ rfl,S.at λo e=>wf _ e⟩ (λb m=>?_)
   ·rw[zdG G.ris ∅]
    rw[wo,wL,Option.map_map]at q
    by_cases c:i<es.size
    ·rw[wK c,wK (show i<t.place.size by lia)]
     rw[wK c]at q
     have e2:t.place.getD (i+1 - 1) 0=t.place[i]'∅:=by simp[YK,show i<t.place.size by lia]
     dsimp only[Option.map_some,Function.comp]at q
     rw[if_neg (Nat.succ_ne_zero _),e2]at q
     exact q
    ·rw[uw ∅,uw (show t.place.size<=i by lia)]
     rw[uw ∅]at q
     exact q
   ·rcases wx.mp m with e | m
    ·exact .inr (WX e.symm)
    ·exact .inl (wD.mp m)
variable {prog:Program}{w:World}{A:Around}{E:Value->Shared->Prop}{s:Shared}{a:Addr}
theorem zed {Q:Bool->Shared->Prop}(hT:s.TypeIs (.ref a) "set") (h:Q false s):wpAny (model prog w) A (Builtin.List.listLengthHint (.ref a)) Q E s:=by
 unfold Builtin.List.listLengthHint
 refine wc (wpAny_specialOf hT PySem.F.slot_set_len.lookup ?_)
 generalize hid:("set.__len__":String)=id0
 wp_delta
 have e:splitId id0=some ("set","__len__"):=by subst hid;decide +kernel
 rw[e]
 subst hid
 exact wc (wpAny_isInstance (b:=true) hT (by rw[isSubtype_type];kernel_rfl) (ite_no (by decide) (QW (by decide +kernel) (wc (YB hT (wj h))))))
theorem za8 {acc:Array Value}{ys:List Value}(h:ItemsOf (λi v=>ys[i]? = some v) acc ys.length):acc.toList=ys:=by
 apply uI
 intro i
 rw[wL]
 by_cases c:i<ys.length
 ·have e:acc[i]? = some (acc[i]'(by rw[h.1];exact c)):=wK _
  rw[e,<-h.2 i _ e]
 ·rw[uw (by rw[h.1];lia),yJ ∅]
theorem zbX:∀{vs:List Value},(∀v∈vs,∃tk,v = .int (nm v) tk)->IntsAre vs (vs.map nm)
 | [],_=>.nil
 | v::vs,h=>by
  obtain⟨tk,e⟩:=h v (wH ..)
  rw[yA,e]
  exact .cons _ tk (zbX λu m=>h u (wO _ m))
theorem set_collect {ks:List Int}{R:List Value->Shared->Prop}(hh:A.handled=none) (hS:SI prog w (byT w) s.heap a ks) (hz:ks.length<=1000000)
  (h:∀h' tk d vs ms,(∀b o,s.heap.get? b=some o->h'.get? b=some o)->IntsAre vs ms->ms.Perm ks->R vs { s with heap:=h',toks:=tk,drawn:=d }):wpAny (model prog w) A (collect (.ref a)) R E s:=by
 obtain⟨o,es,ep,t,ho,hex,hd,hel,hp,hf,G⟩:=hS
 have ez:=J2 (h:=s.heap) (a:=a) hp
 have lt:a<s.heap.objs.size:=wB ho
 have hn:es.size<=sizeLine:=by rw[sizeLine_eq];lia
 unfold collect
 refine wc (wpAny_runValue (codeAny_builtin entry_proto_collect' ?_))
 rw[Around.under_plainId PySem.F.plain_proto_collect _]
 refine wc (Y0 (wj ⟨plainId_quiet PySem.F.plain_list_iadd _,codeAny_builtin entry_list_iadd' ?_⟩))
 rw[Around.under_plainId PySem.F.plain_list_iadd _]
 refine(?_:wpAny _ A.in1 (Builtin.List.listExtendWith (.ref s.heap.objs.size) (.ref a) (.ref s.heap.objs.size)) _ _ _)
 have hL:(s.heap.push (seqObj "list" ([]:List Value).toArray 0)).get? s.heap.objs.size=some { cls:=.type "list",data:=.seq #[] }:=wE _ rfl
 have ne:s.heap.objs.size≠a:=Wy lt
 unfold Builtin.List.listExtendWith
 have hT:Shared.TypeIs { s with heap:=s.heap.push (seqObj "list" ([]:List Value).toArray 0) } (.ref a) "set":=⟨o,wf _ ho,hex.1⟩
 refine wc (YB hT ?_)
 have c1:Builtin.List.listSameRef (.ref s.heap.objs.size) (.ref a)=false:=by simp[Builtin.List.listSameRef,ne]
 have c2:(Value.type "set" == Value.type "list")=false:=by decide
 have c3:(Value.type "set" == Value.type "tuple")=false:=by decide
 simp only[c1,c2,c3,Bool.or_false,Yx,if_false]
 refine wc (zfa (es:=es) (ep:=ep) (t:=t) ⟨o,wf _ ho,hex,hd,hf⟩ G hn λit h1 d ys fp St I=>?_)
 refine wc (yN (zed ⟨o,I.kp _ _ (wf _ ho),hex.1⟩ ?_))
 have z1:(s.heap.push (seqObj "list" ([]:List Value).toArray 0)).objs.size=s.heap.objs.size+1:=Ws ..
 have nf:s.heap.objs.size∉fp:=λm=>by
  rcases I.fp _ m with e | e
  ·exact ne e
  ·rw[z1]at e;exact absurd e (Nat.not_succ_le_self _)
 have ly:ys.length=es.size:=by rw[I.pm.length_eq,we,wJ]
 have hS1:=I.kp _ _ hL
 refine QW (by decide +kernel) (wc (Yk (wc ?_)))
 refine(?_:wpAny _ _ (updateSeq _ _ >>= _) _ _ _)
 refine wc (Yp hS1 rL ?_)
 have hS2:=yU (Obj.mapSeq (·.push Value.none)) hS1 rfl
 refine Yp (hz:=by seq_fits) hS2 rfl ?_
 have hS3:=yU (Obj.mapSeq (·.pop)) hS2 rfl
 have kk:∀b o,b≠s.heap.objs.size->h1.get? b=some o->((h1.update s.heap.objs.size (Obj.mapSeq (·.push Value.none))).update s.heap.objs.size (Obj.mapSeq (·.pop))).get? b=some o:=λb o hb e =>
  (yn _ _ (Ne.symm hb)).trans ((yn _ _ (Ne.symm hb)).trans e)
 have hA:A.in1.in1.handled=none:=by simp[hh]
 have st2:=(I.wk A.in1.in1 hA).frame 0 _ ((h1.update s.heap.objs.size (Obj.mapSeq (·.push Value.none))).update s.heap.objs.size (Obj.mapSeq (·.pop))) I.st λb m o e=>kk b o (λz=>nf (z ▸ m)) e
 refine wj ⟨plainId_quiet Ww _,?_⟩
 refine codeAny_extend_loopS (W:=(I.wk A.in1 (by simp[hh])).toS) hn s.heap.objs.size nf (.ref s.heap.objs.size) es.size 0 _ #[] _ rfl (w8 _) st2 hS3 (ItemsOf.nil _) λs' acc c hm hS' hacc=>?_
 rw[Moved.eq_with hm]
 refine wc (Ui hS' (wj ?_))
 rw[<-ly]at hacc
 have ea:=za8 hacc
 have hv:∀v∈acc.toList,∃tk,v = .int (nm v) tk:=λv m=>by
  rw[ea]at m
  obtain⟨e,me,rfl⟩:=wn.mp (I.pm.mem_iff.mp m)
  exact zdT hel me
 refine h s'.heap s'.toks d acc.toList _ (λb o' e=>?_) (zbX hv) ?_
 ·have hlt:=wB e
  refine hm.heap b o' (λm=>?_) (kk b o' (wS hlt) (I.kp b o' (wf _ e)))
  rcases wx.mp m with q | q
  ·exact absurd q (wS hlt)
  ·have:=I.it
   rw[z1,<-wD.mp q]at this
   exact absurd (wT hlt (Nat.le_of_succ_le this)) (uF _)
 ·rw[ea]
  have:=I.pm.map nm
  rw[yW]at this
  exact this.trans hp
end ST
namespace TS
open PySem PySem.W PyProof.Rows ST
variable {prog:Program}{w:World}{A:Around}{E:Value->Shared->Prop}{s:Shared}
theorem zee {vs:List Value}{ns:List Int}(hI:IntsAre vs ns):HLt (λx=>x=s) (model prog w) A E oneType' (λp=>numOf p.1) (pairsOf vs):=by
 intro x y st Q hx hy hk h
 obtain⟨n,t,ex⟩:=hI.intKeys x hx
 obtain⟨m,u,ey⟩:=hI.intKeys y hy
 rw[lt'_eq]
 refine zq (vJ ?_)
 rw[hk,keyLt'_oneType,ex,ey]
 replace h:Q (some (decide (numOf x.1<numOf y.1))) st:=h
 rw[ex,ey]at h
 refine zq (λs' e=>?_)
 subst e
 show wpAny (model prog w) A ((StateT.lift _:StateT SortSt Sem _).run st) _ E s'
 rw[StateT.run_lift]
 exact wc (Wq (oneLt_int (wj ⟨rL,zw h⟩)))
theorem zdo {a:Addr}{vs:List Value}{ns:List Int}{n:Nat}{P:PySem.Fin->Shared->Prop}(ho:s.heap.get? a=some (seqObj "list" vs.toArray n)) (hI:IntsAre vs ns) (hz:vs.length<=1000000)
  (h:∀out ns',IntsAre (Array.toList out) ns'->ns'.Perm ns->ns'.Pairwise (·<=·)->P (.done (.ret .none)) { s with heap:=sortedHeap s.heap a vs out }):wpAny (model prog w) A (Builtin.«list.sort» ⟨[.ref a],[]⟩) P E s:=by
 rcases Nat.lt_or_ge vs.length 2 with c | c
 ·exact list_sort_tree ho hI (by omega) h
 rw[list_sort_plain]
 obtain⟨e1,g1⟩:∃e1,(s.heap.update a (Obj.mapSeq λ_=>#[])).get? a=some (seqObj "list" #[] e1):=⟨_,get?_update_seq ho λ_=>#[]⟩
 have g2:(((s.heap.update a (Obj.mapSeq λ_=>#[])).push (seqObj "tuple" vs.toArray 0)).push (seqObj "list" #[] 0)).get? a=some (seqObj "list" #[] e1):=wf _ (wf _ g1)
 have hs2:¬vs.toArray.size<2:=by rw[wF];omega
 refine wc (listItems_at ho rfl (wc (listUpdate_at ho rfl (wc (seqEpoch_at g1 rfl (wc (wpAny_newTuple (wc (Y0 (yN ?_))) (by rw[sizeLine_eq];show vs.length<=_;omega))))))))
 rw[if_neg hs2,if_neg hs2]
 have kk:keyKind' vs.toArray=pure oneType':=by
  match vs,c with
  | v1::v2::r,_=>exact keyKind_ints hI
 rw[kk]
 refine wc (wj (wc ?_))
 refine yZ (zg9 (a₀:=pairsOf vs) (κ:=oneType') (zee hI) (Q:=λ_ st'=>(arrOf st').Perm (pairsOf vs)/\failedOf st'=none/\Up (λp=>numOf p.1) (arrOf st') 0 (pairsOf vs).size) (st:=SortSt.mk' oneType' (vs.toArray.zip vs.toArray) #[] 7 none) ⟨Array.Perm.refl _,rL,rL⟩ rL (λst' B u=>⟨B.perm,B.fail,u⟩) _ rL) ?_ λ_ _ e=>e
 rintro ⟨⟨⟩,st'⟩ s' ⟨rfl,hp,hf,u⟩
 obtain⟨ns',i1,i2,i3⟩:=sorted_out hI hp λi j h1 h2=>by
  have ek:∀k,kx (λp=>numOf p.1) (arrOf st') k=PyProof.Rows.K (arrOf st') k:=λk=>rfl
  rw[<-ek,<-ek];exact u i j (w8 _) h1 h2
 refine wc (seqEpoch_at g2 rL (wc (listUpdate_at g2 rL ?_ (hsz2:=?_))))
 ·try dsimp only
  rw[hf]
  simp only[bne_self_eq_false,Yx,if_false]
  exact wj (h _ ns' i1 i2 i3)
 ·refine yH (WX ((Array.size_map ..).trans (hp.size_eq.trans (pairsOf_size _)))) ?_
  rw[sizeLine_eq];omega
theorem sorted_of {x:Addr}{ks:List Int}{Q:Value->Shared->Prop}(hz:ks.length<=1000000)
  (hc:∀R:List Value->Shared->Prop,(∀h1 tk d vs ms,(∀b o,s.heap.get? b=some o->h1.get? b=some o)->IntsAre vs ms->ms.Perm ks->R vs { s with heap:=h1,toks:=tk,drawn:=d })->wpAny (model prog w) A.in1 (collect (.ref x)) R E s)
  (h:∀(h1 h':Heap) tk d (out:List Value) c ms,(∀b o,s.heap.get? b=some o->h1.get? b=some o)->(∀b o,h1.get? b=some o->h'.get? b=some o)->h'.get? h1.objs.size=some (seqObj "list" (List.toArray out) c)->IntsAre out ms->ms.Perm ks->ms.Pairwise (·<=·)->Q (.ref h1.objs.size) { s with heap:=h',toks:=tk,drawn:=d }) :
  wpAny (model prog w) A (call (.builtin "sorted") [.ref x]) Q E s:=by
 refine Calls.call_function_entry kind_sorted plain_sorted entry_sorted (args_sorted1 _) ?_
 refine wc (wj (wc (hc _ λh1 tk d vs ms k1 hI hp=>?_)))
 have hl:vs.length=ms.length:=hI.length
 have hk:=hp.length_eq
 refine wc (Y0 ?_ (by rw[sizeLine_eq];lia))
 have gL:(h1.push (seqObj "list" vs.toArray 0)).get? h1.objs.size=some (seqObj "list" vs.toArray 0):=wE _ rfl
 refine wc (yN (uu slot_list_sort ⟨_,gL,rL⟩ entry_list_sort (zdo gL hI ∅ λout ns' a1 a2 a3=>⟨_,rL,?_⟩) (args_list_sort _)))
 obtain⟨c,hc'⟩:∃c,(sortedHeap (h1.push (seqObj "list" vs.toArray 0)) h1.objs.size vs out).get? h1.objs.size=some (seqObj "list" out c):=sortedHeap_at gL
 refine wj ⟨_,rfl,h h1 _ tk d out.toList c ns' k1 (λb o e=>?_) (by simpa using hc') a1 (a2.trans hp) a3⟩
 have hlt:=wB e
 rw[sortedHeap_old (wS hlt) (by rw[size_push'];exact uV hlt)]
 exact wf _ e
end TS
namespace L2
open PySem PySem.Spec PyProof.Rows
section
variable {X:Cx}{pz:List (Addr×Obj)}{σ:St}{H:Hp}{s:Shared}
theorem Inv.drawn (I:Inv X pz σ H s) (d:Drawn):Inv X pz σ H { s with drawn:=d }:=⟨I.ok,I.os,I.bare,I.base,I.loc,I.cell,I.free,I.freeC,I.pin,I.hok,I.len⟩
inductive Jp (K:Fg) (Q:VK) (x:V) (H1:Hp):Prop
 | mk:∀(p:Addr) (ns:List Int),(x = .ref p)->(SqL K H1 p (ns.map V.int))->(ns.length<4000)->(∀(D:Addr) (ms:List Int),H1 D=none->(∀k,k∈ms↔k∈ns)->ms.Nodup->ms.Pairwise (·<=·)->Q (.ref D) (upd H1 D (.lst (ms.map V.int))))->Jp K Q x H1
def zfA (K:Fg) (ta:TE):TE:=λσ H Q=>ta σ H λx H1=>Jp K Q x H1
theorem zbm {a:Expr}{ta:TE}{p p2 pos pos2:Pos}(hc:X.calm=true) (hg:Gl X "sorted") (hm:X.mg "sorted" = none) (hg2:Gl X "set") (hm2:X.mg "set" = none) (ha:PE X a ta)
  (hs:starEach [a] X.env=(false,eval a X.env)::starEach [] X.env:=by rfl) (hs2:starEach [.Call (.Name "set" p2) [a] [] pos2] X.env=(false,eval (.Call (.Name "set" p2) [a] [] pos2) X.env)::starEach [] X.env:=by rfl)
  (h0:(backTo pos2 (starEach ([]:List Expr) X.env)).any (·.1)=false:=by rfl) (h1:(backTo pos (starEach ([]:List Expr) X.env)).any (·.1)=false:=by rfl) :
  PE X (.Call (.Name "sorted" p) [.Call (.Name "set" p2) [a] [] pos2] [] pos) (zfA X.K ta):=by
 intro pz s σ H Q I h
 refine uo (Zi I hg hm boot_sorted (WY ?_ hs2 h1))
 rw[hs2]
 refine Calls.spliced_cons (uo (Zi I hg2 hm2 PyProof.Rows.boot_set (yT ?_ hs h0)))
 rw[hs]
 refine Calls.spliced_cons (thn (ha pz s σ H _ I h) λu s1 ⟨x,H1,I1,r1,q1⟩=>Calls.spliced_nil ?_)
 obtain⟨l,ns,rfl,hq,hz,k⟩:=q1
 cases r1
 obtain⟨its,rv,pl,_⟩:=I1.list hq
 have hi:=Xj rv
 refine ST.call_set (I1.ok.hd hc) pl.isList (by simpa using hi) (by show ns.length+1<4096;lia) λh2 tk2 si k2=>Calls.spliced_nil ?_
 have J:=I1.kept (h':=h2) (t':=tk2) k2
 have hl:(ST.uq ns.reverse).length<=1000000:=by
  have:=ST.uq_len ns.reverse
  rw[List.length_reverse]at this
  lia
 refine TS.sorted_of hl (λR hR=>ST.set_collect (by simpa using I1.ok.hd hc) si hl λh3 tk d vs ms k3 i3 p3=>hR h3 tk d vs ms k3 i3 p3) λh3 h4 tk d out c ms k3 k4 hD i3 p3 s3=>?_
 have J1:=(J.drawn d).kept (h':=h3) (t':=tk) k3
 refine⟨.ref h3.objs.size,_,J1.laid (h':=h4) (t':=tk) (o:=.lst (ms.map V.int)) k4 (wg _) ⟨?_,out,c,vA i3,hD⟩,rL,k _ ms (J1.hok.fresh (wg _)) (λz=>?_) (p3.nodup_iff.mpr (ST.uq_nodup _)) s3⟩
 ·have:=p3.length_eq
  rw[we,sizeLine_eq];lia
 ·rw[p3.mem_iff,ST.uq_mem,Yd]
end
def VP (a c:Int) (n:Nat):List Int:=(List.range n).map λi:Nat=>a+(i:Int)*c
section
variable {prog:Program}{w:World}{A:Around}{E:Value->Shared->Prop}{s:Shared}{r:Addr}{a b c:Int}{t u v:Tok}{n:Nat}
theorem zeT {acc:Array Value}(h:ItemsOf (λi v=>∃t,v = .int (a+i*c) t) acc n):IntsAre acc.toList (VP a c n):=by
 refine JJ (by rw[wJ,h.1];unfold VP;rw[we,yG]) λi v m e1 e2=>?_
 rw[wL]at e1
 obtain⟨t,rfl⟩:=h.2 i v e1
 unfold VP at e2
 rw[wo]at e2
 have:i<n:=by have:=(wR.mp e1).1;rw[h.1]at this;exact this
 rw[List.getElem?_range this]at e2
 cases e2;exact⟨t,rfl⟩
theorem zc4 {Q:Value->Shared->Prop}(hh:A.handled=none) (hr:IsRange s.heap r a b c t u v) (hb:Builtin.Range.small a b c=false) (hn:Builtin.Range.rangeSize a b c=n) (hz:n<=2^24)
  (hQ:∀h' tk acc c',(∀b o,s.heap.get? b=some o->h'.get? b=some o)->h'.get? s.heap.objs.size=some (seqObj "list" acc c')->ItemsOf (λi v=>∃t,v = .int (a+i*c) t) acc n->Q (.ref s.heap.objs.size) { s with heap:=h',toks:=tk }) :
  wpAny (model prog w) A (call (.type "list") [.ref r]) Q E s:=by
 have g0:(s.heap.push (seqObj "list" #[] 0)).get? s.heap.objs.size=some (seqObj "list" #[] 0):=wE _ rfl
 refine callType_codes (Q₁:=λv s₁=>v = .ref s.heap.objs.size/\s₁ = { s with heap:=s.heap.push (seqObj "list" #[] 0) }) PySem.F.called_list (PySem.F.typeCall_list_1 _) PySem.F.entry_list_init (code_list_new _ ⟨rfl,rfl⟩) λobj s₁ h₁=>?_
 obtain⟨rfl,rfl⟩:=h₁
 refine⟨⟨_,g0,rL⟩,PySem.F.args_list_init_2 _ _,?_⟩
 have lr:=wB hr
 generalize hS:s.heap.objs.size=S at *
 have nr:S≠r:=Wy lr
 refine wc (listItems_at g0 rL (wc (listUpdate_at g0 rL (wc (wpAny_letGo ?_)))))
 obtain⟨e1,g1⟩:∃e1,((s.heap.push (seqObj "list" #[] 0)).update S (Obj.mapSeq λ_=>#[])).get? S=some (seqObj "list" #[] e1):=⟨_,get?_update_seq g0 λ_=>#[]⟩
 have k1:∀x o,x≠S->s.heap.get? x=some o->((s.heap.push (seqObj "list" #[] 0)).update S (Obj.mapSeq λ_=>#[])).get? x=some o:=λx o hb e=>(yn _ _ (Ne.symm hb)).trans (wf _ e)
 have z1:((s.heap.push (seqObj "list" #[] 0)).update S (Obj.mapSeq λ_=>#[])).objs.size=S+1:=by rw[Heap.size_update,Ws,hS]
 have r1:=k1 r _ (Ne.symm nr) hr
 generalize (s.heap.push (seqObj "list" #[] 0)).update S (Obj.mapSeq λ_=>#[])=h1 at g1 k1 z1 r1
 refine(?_:wpAny _ _ (Builtin.List.listExtendWith _ _ _) _ _ _)
 unfold Builtin.List.listExtendWith
 refine wc (YB (T:="range") ⟨_,r1,rL⟩ ?_)
 have c1:Builtin.List.listSameRef (.ref S) (.ref r)=false:=by simp[Builtin.List.listSameRef,nr]
 have c2:(Value.type "range" == Value.type "list")=false:=by decide
 have c3:(Value.type "range" == Value.type "tuple")=false:=by decide
 simp only[c1,c2,c3,Bool.or_false,Yx,if_false]
 refine wc (wpAny_pyIter_longrange r1 hb (wc (yN (wpAny_hint_range (n:=n) (wf _ r1) hn hz ?_))))
 have W:=(Walks.longrange (prog:=prog) (w:=w) (A:=A.in1.in1) (by simp[hh]) h1.objs.size a c n).toS
 have nI:S∉[h1.objs.size]:=by rw[z1,wD];exact wS (Yb _)
 have it0:IsLongIter (h1.push { cls:=.type "longrange_iterator",data:=.fields #[rawInt a,rawInt (Builtin.Range.rangeSize a b c),rawInt c] }) h1.objs.size (a+((0:Nat):Int)*c) ((n:Int) - ((0:Nat):Int)) c:=by
  show IsLongIter _ _ _ _ _;rw[hn];simpa using wE _ rfl
 have g2:=wf { cls:=.type "longrange_iterator",data:=.fields #[rawInt a,rawInt (Builtin.Range.rangeSize a b c),rawInt c] } g1
 have k2:∀x o,x≠S->s.heap.get? x=some o->(h1.push { cls:=.type "longrange_iterator",data:=.fields #[rawInt a,rawInt (Builtin.Range.rangeSize a b c),rawInt c] }).get? x=some o:=λx o hb e=>wf _ (k1 x o hb e)
 have zI:h1.objs.size=S+1:=z1
 have loop:∀(h:Heap) (e2 tk:Nat),IsLongIter h h1.objs.size (a+((0:Nat):Int)*c) ((n:Int) - ((0:Nat):Int)) c->(∀x o,x≠S->s.heap.get? x=some o->h.get? x=some o)->h.get? S=some (seqObj "list" #[] e2) →
   codeAny (model prog w) A.in1 (.builtin "list.extend.loop" ⟨[.ref S,.ref h1.objs.size,.none],[]⟩) (wants (λr s₂=>r = .none/\Q (.ref S) s₂) E) { s with heap:=h,toks:=tk }:=λh e2 tk hi hk hg=>by
  refine codeAny_extend_loopS W (by rw[sizeLine_eq];lia) S nI .none n 0 _ #[] e2 rfl (w8 _) hi hg (ItemsOf.nil _) λs' acc c' hm g' ha=>?_
  rw[Moved.eq_with hm]
  refine⟨rL,hQ s'.heap s'.toks acc c' (λb o e=>?_) g' ha⟩
  have hlt:=wB e
  rw[hS]at hlt
  refine hm.heap b o (λm=>?_) (hk b o (wS hlt) e)
  rcases wx.mp m with q | q
  ·exact absurd q (wS hlt)
  ·rw[wD,zI]at q
   exact absurd q (wS (uV hlt))
 refine wpAny_ite_split (λ_=>?_) (λ_=>wj ⟨plainId_quiet Ww _,loop _ _ _ it0 k2 g2⟩)
 refine wc (Yk (wc ?_))
 refine(?_:wpAny _ _ (updateSeq _ _ >>= _) _ _ _)
 refine wc (Yp g2 rL ?_ (hz:=w8 _) (_hz':=?_))
 ·have g3:=yU (Obj.mapSeq (·.push Value.none)) g2 rfl
  refine Yp g3 rL ?_ (hz:=?_) (_hz':=?_)
  ·have g4:=yU (Obj.mapSeq (·.pop)) g3 rfl
   have keep:∀x o,x≠S->(h1.push { cls:=.type "longrange_iterator",data:=.fields #[rawInt a,rawInt (Builtin.Range.rangeSize a b c),rawInt c] }).get? x=some o->(((h1.push { cls:=.type "longrange_iterator",data:=.fields #[rawInt a,rawInt (Builtin.Range.rangeSize a b c),rawInt c] }).update S (Obj.mapSeq (·.push Value.none))).update S (Obj.mapSeq (·.pop))).get? x=some o :=
    λx o hb e=>(yn _ _ (Ne.symm hb)).trans ((yn _ _ (Ne.symm hb)).trans e)
   refine wj ⟨plainId_quiet Ww _,loop _ _ _ (keep _ _ (λz=>nI (by rw[z];exact List.mem_singleton_self _)) it0) (λx o hb e=>keep x o hb (k2 x o hb e)) g4⟩
  ·rw[sizeLine_eq];show 1<=_;lia
  ·rw[sizeLine_eq];show 0<=_;lia
 ·rw[sizeLine_eq];show 1<=_;lia
end
inductive VE (Q:VK) (xs:List V) (H1:Hp):Prop
 | mk:∀(a b c:Int) (n:Nat),(xs=[.int a,.int b,.int c])->(c≠0)->(Bd 8900 c)->(Builtin.Range.rangeSize a b c=n)->(n<=10000)->(∀l,H1 l=none->Q (.ref l) (upd H1 l (.lst ((VP a c n).map V.int))))->VE Q xs H1
def zdw (ta:TA):TE:=λσ H Q=>ta σ H λxs H1=>VE Q xs H1
section
variable {X:Cx}
theorem zaw {a b d:Expr}{ta:TA}{p pos p2 pos2:Pos}(hc:X.calm=true) (hg:Gl X "list") (hm:X.mg "list" = none) (hg2:Gl X "range") (hm2:X.mg "range" = none) (ha:PA X [a,b,d] ta)
  (hs:starEach [a,b,d] X.env=[(false,eval a X.env),(false,eval b X.env),(false,eval d X.env)]:=by rfl) (hs1:starEach [b,d] X.env=[(false,eval b X.env),(false,eval d X.env)]:=by rfl) (hs2:starEach [.Call (.Name "range" p2) [a,b,d] [] pos2] X.env=[(false,eval (.Call (.Name "range" p2) [a,b,d] [] pos2) X.env)]:=by rfl) :
  PE X (.Call (.Name "list" p) [.Call (.Name "range" p2) [a,b,d] [] pos2] [] pos) (zdw ta):=by
 intro pz s σ H Q I h
 refine uo (Zi I hg hm Wc ?_)
 refine yT ?_ hs2 rL
 rw[hs2]
 refine Calls.spliced_cons (Call_ (Zi I hg2 hm2 PyProof.Rows.boot_range (yT (thn (ha pos2 pz s σ H _ I h) λus s1 ⟨vs,H1,I1,r1,q1⟩=>?_) (by rw[hs,hs1]) (by rw[hs1];rfl))))
 obtain⟨i,j,k,n,e,h0,bk,hn,hz,q⟩:=q1
 subst e
 obtain⟨u,v,w',rfl,⟨t,rfl⟩,⟨t',rfl⟩,⟨t'',rfl⟩⟩:∃u v w',us=[u,v,w']/\xi (.int i) u/\xi (.int j) v/\xi (.int k) w':=by
  cases r1 with
  | cons a1 r1=>cases r1 with
   | cons a2 r1=>cases r1 with
    | cons a3 r1=>cases r1;exact⟨_,_,_,rfl,a1,a2,a3⟩
 refine call_range_3 h0 (Calls.spliced_nil ?_) (Or.inl (PyProof.noPylong_of_log2 ?_))
 rotate_left
 ·by_cases z:k.natAbs=0
  ·rw[z];decide +kernel
  ·exact wT ((Nat.log2_lt z).mpr bk) (by decide)
 have I2:Inv X pz σ H1 { s1 with heap:=s1.heap.push { cls:=.type "range",data:=.fields #[.int i t,.int j t',.int k t''] },toks:=s1.toks }:=I1.kept λb o e=>wf _ e
 have fin:∀h' tk acc c',(∀b o,(s1.heap.push { cls:=.type "range",data:=.fields #[.int i t,.int j t',.int k t''] }).get? b=some o->h'.get? b=some o)->h'.get? (s1.heap.push { cls:=.type "range",data:=.fields #[.int i t,.int j t',.int k t''] }).objs.size=some (seqObj "list" acc c')->ItemsOf (λx y=>∃t,y = .int (i+x*k) t) acc n →
   EP X pz σ Q (.ref (s1.heap.push { cls:=.type "range",data:=.fields #[.int i t,.int j t',.int k t''] }).objs.size) { s1 with heap:=h',toks:=tk }:=λh' tk acc c' hk hS ha=>by
  refine⟨.ref _,_,I2.laid (t':=tk) (o:=.lst ((VP i k n).map V.int)) hk (wg _) ⟨?_,acc.toList,c',vA (zeT ha),by rw[Array.toArray_toList];exact hS⟩,rfl,q _ (I2.hok.fresh (wg _))⟩
  unfold VP
  rw[we,we,yG,sizeLine_eq];lia
 have hz2:n<=2^24:=yH hz (by decide)
 cases sm:Builtin.Range.small i j k with
 | true=>exact call_list_range (n:=n) (I1.ok.hd hc) (IsRange.new ..) sm hn hz2 λh' tk acc c' hk hS ha=>fin h' tk acc c' hk hS ha
 | false=>exact zc4 (n:=n) (I1.ok.hd hc) (IsRange.new ..) sm hn hz2 λh' tk acc c' hk hS ha=>fin h' tk acc c' hk hS ha
end
open MeetsSeq MeetsSeq2 MeetsSeq3 SeqRoads2 SeqAt AutoSeq1
section
variable {X:Cx}
theorem zcR:fillsInplaceSlot (.type "list") "add" (Operator.Add == .Add)=pure false:=by
 unfold fillsInplaceSlot
 refine(?_:(typeLookup (.type "list") (dunderI "add") >>= _)=_)
 rw[WU.lookup];rfl
theorem ze9:seqSlot? (.type "list") (dunderI "add")=pure (some (.builtin "list.__iadd__")):=by
 unfold seqSlot?
 rw[WU.lookup];rfl
inductive zce (x:V) (y:V) (H:Hp) (Q:VK):Prop
 | mk:∀l b xs zs,(x = .ref l)->(y = .ref b)->(H l=some (.lst xs))->(H b=some (.lst zs))->(xs.length+zs.length<=sizeLine)->(Q (.ref l) (upd H l (.lst (xs++zs))))->zce x y H Q
def ziT:R2:=λx y H Q=>zce x y H Q
theorem zeh:OpR X (inplaceOp .Add) ziT:=by
 intro pz s σ H x y v u Q I rx ry h
 obtain⟨l,b,xs,zs,rfl,rfl,hH,hB,hz,q⟩:=h
 cases rx
 cases ry
 obtain⟨z,its,n,r,hl,e⟩:=I.lstM hH
 obtain⟨z2,its2,n2,r2,hl2,e2⟩:=I.lstM hB
 have t1:s.TypeIs (.ref l) "list":=⟨_,e,rfl⟩
 have t2:s.TypeIs (.ref b) "list":=⟨_,e2,rfl⟩
 have sm:its.toArray.size+its2.toArray.size<=sizeLine:=by rw[wF,wF];lia
 refine yN (wc (YB t1 (wc (YZ zcR ?_))))
 refine ST.ite_no wZ (wc (binaryOp1_none (nm:="add") t1 t2 noFill_list_add (wc (YZ ze9 (wc (Yk ?_))))))
 refine call_meets WU t1 PySem.F.entry_list_iadd (PySem.F.args_list_iadd_2 _ _) (list___iadd___list_list_0 l its.toArray n b its2.toArray n2 (by rw[zew sm,YF];exact wZ) (by rw[wF];lia) ∅) ⟨e,e2,?_⟩
 refine⟨.ref l,_,I.lset (its':=its++its2) hH e (by simp) (r.append r2) ?_,rfl,q⟩
 rw[wI];lia
theorem zac {p:Int}:∀{xs:List Int}{its:List Value},xa (xs.map V.int) its->its.countP (λv=>decide (ST.nm v=p))=xs.countP λn=>decide (n=p)
 | [],its,r=>by cases r;rfl
 | x::xs,its,r=>by
  rw[yA]at r
  cases r with
  | cons rx rs =>
   obtain⟨t,rfl⟩:=rx
   rw[Y4,Y4,zac rs];rfl
def zkh:V->List V->Hp->VK->Prop:=λx vs H Q=>∃(l:Addr) (xs:List Int) (p:Int),x = .ref l/\vs=[.int p]/\H l=some (.lst (xs.map V.int))/\Q (.int ((xs.countP λn=>decide (n=p):Nat):Int)) H
theorem zda (hu:X.A.units+64<cLine):MtR X "list.count" zkh:=by
 intro pz s σ H x vs v us Q I rx rv h
 obtain⟨l,xs,p,rfl,rfl,hl,k⟩:=h
 cases rx
 obtain⟨u,rfl,ru⟩:=rv.one
 obtain⟨t,rfl⟩:=ru
 obtain⟨z,its,n,r,hz,e⟩:=I.lstM hl
 obtain⟨bs,rb⟩:=(show RdD H (.int p) (.int p)from .int _).reads I ⟨t,rfl⟩
 have key:∀y,y∈its.toArray->EqAt X.A.in1 s y (.int p t) (decide (ST.nm y=p)):=λy hy=>by
  obtain⟨j,hj⟩:=Wi.mp (show y∈its by simpa using hy)
  have hl':=r.length
  have hj':=(wP.mp hj).1
  obtain⟨xv,exv⟩:∃xv,(xs.map V.int)[j]? = some xv:=⟨_,wC ∅⟩
  obtain⟨uv,euv,ruv⟩:=r.get exv
  rw[hj]at euv;cases euv
  rw[wo]at exv
  cases hx:xs[j]? with
  | none=>rw[hx]at exv;cases exv
  | some m =>
   rw[hx]at exv;cases exv
   obtain⟨t',rfl⟩:=ruv
   obtain⟨as,ra⟩:=(show RdD H (.int m) (.int m)from .int _).reads I ⟨t',rfl⟩
   have ee:decide (ST.nm (.int m t')=p)=PyData.eqv (.int m) (.int p):=rfl
   rw[ee]
   exact eqAt_reads _ _ _ _ _ _ _ _ ra rb rfl rfl (by show X.A.units+1+min 0 0<cLine;lia)
 refine call_meets F.slot_list_count ⟨_,e,rL⟩ F.entry_list_count (F.args_list_count_2 _ _) (list_countAt l its.toArray n none #[] (.int p t) λy=>decide (ST.nm y=p)) ⟨e,key,?_⟩
 refine⟨.int _,H,I.tok _,⟨_,rL⟩,?_⟩
 rw[show its.toArray.toList=its from rfl,zac r]
 exact k
end
end L2
namespace KK
open PySem L2
variable {P:Program}{w:World}{K:Fg}{mg:Str->Option Value}{base:Heap}{aN:Addr}
def top (i:Nat):Stmt:=PySem.Challenge.pw_clackrow_k38_wishes_refused.main.body.getD i (.Pass ⟨0,0,0,0⟩)
abbrev Xu:Stmt:=top 15
abbrev Xt:Stmt:=top 16
abbrev qD:Stmt:=top 17
abbrev Xp:Stmt:=top 18
abbrev Zp:Stmt:=top 19
abbrev zbr:Stmt:=top 20
abbrev zbq:Stmt:=top 21
abbrev va:Stmt:=top 24
abbrev vo:Stmt:=top 25
abbrev XF:Stmt:=top 26
abbrev XE:Stmt:=top 27
abbrev ZP:Stmt:=top 28
abbrev Vv:Stmt:=top 29
abbrev QE:Stmt:=top 30
abbrev Qz:Stmt:=top 33
abbrev vH:Stmt:=top 34
abbrev vG:Stmt:=top 35
abbrev vX:Stmt:=top 36
abbrev Qy:Stmt:=top 37
abbrev Xq:Stmt:=top 38
abbrev Xo:Stmt:=top 40
abbrev qh:Stmt:=top 41
abbrev qg:Stmt:=top 42
abbrev xX:Stmt:=top 43
abbrev xO:Stmt:=top 44
abbrev QF:Stmt:=top 45
abbrev QD:Stmt:=top 46
abbrev Vu:Stmt:=top 47
abbrev ZQ:Stmt:=top 49
abbrev vW:Stmt:=top 50
abbrev vp:Stmt:=top 51
abbrev vZ:Stmt:=top 52
abbrev XD:Stmt:=top 53
abbrev Qx:Stmt:=top 56
abbrev qP:Stmt:=top 57
abbrev qO:Stmt:=top 58
abbrev ZO:Stmt:=top 59
abbrev Xs:Stmt:=top 60
abbrev XG:Stmt:=top 61
abbrev qN:Stmt:=top 62
abbrev Xv:Stmt:=top 64
abbrev QA:Stmt:=top 65
abbrev Xz:Stmt:=top 66
abbrev Zl:Stmt:=top 67
abbrev QB:Stmt:=top 68
abbrev Zn:Stmt:=top 70
abbrev Xx:Stmt:=top 71
abbrev Xy:Stmt:=top 72
abbrev QC:Stmt:=top 73
abbrev vY:Stmt:=top 74
abbrev Zm:Stmt:=top 75
abbrev ZM:Stmt:=top 76
abbrev ZN:Stmt:=top 79
abbrev XA:Stmt:=top 80
abbrev XB:Stmt:=top 85
abbrev qj:Stmt:=top 86
abbrev Zo:Stmt:=top 87
abbrev Xw:Stmt:=top 88
abbrev qZ:Stmt:=top 89
abbrev s_law:Stmt:=top 90
abbrev qi:Stmt:=zga (top 23) 0
structure TxB (K:Fg) (mg:Str->Option Value):Prop where
 ii:PySem.W.kitOne K (.type "int") (.type "int")=some true
 ib:PySem.W.kitOne K (.type "int") (.type "bool")=some false
 nIs:mg "isinstance" = none
 nInt:mg "int" = none
 nBool:mg "bool" = none
 nAbs:mg "abs" = none
 nLen:mg "len" = none
 nMax:mg "max" = none
 nMin:mg "min" = none
 nRange:mg "range" = none
 nTuple:mg "tuple" = none
 nSum:mg "sum" = none
inductive Qe  (vs:List V) (H:Hp) (Q:VK) (_e3:XK):Prop
 | mk:∀i,(vs=[.int i])->(Q (.bl true) H)->Qe vs H Q _e3
theorem ze8:zA ["thing"] ["thing"] (zk Xu):=scq
theorem zeA (D:Df K mg "is_whole" Xu ["thing"] []) (T:TxB K mg):Cal P w K mg base "is_whole" 1 ["thing"] [] Qe:=by
 refine D.cal (k:=0) ze8 (λvs H Q E h=>by obtain⟨i,rfl,_⟩:=h;rfl) (λf cdv A outer s H vs Q E hr h=>?_)
 obtain⟨i,rfl,k⟩:=h
 refine⟨_,zj (zD (qJ
  (zJ vK rfl T.nIs ym (za (pv 0) (za (X9 (v:=.ty "int") (u:=.type "int") rfl T.nInt W8 rfl) zd)))
  (vT (ziN (zJ vK rfl T.nIs ym (za (pv 0) (za (X9 (v:=.ty "bool") (u:=.type "bool") rfl T.nBool (by decide +kernel) rfl) zd))))))),?_⟩
 refine⟨_,rL,_,_,_,true,rL,.int i,T.ii,true,rL,xw ?_⟩
 exact⟨_,rL,_,_,_,false,rL,.int i,T.ib,false,rL,k⟩
inductive Jm  (vs:List V) (H:Hp) (Q:VK) (_e3:XK):Prop
 | mk:∀a b:Int,(vs=[.int a,.int b])->(0<=a)->(0<=b)->(Q (.int (Int.gcd a b:Nat)) H)->Jm vs H Q _e3
theorem zeZ:zA ["one","other"] ["one","other"] (zk qD):=scq
theorem zij (D:Df K mg "greatest_divisor" qD ["one","other"] []):Cal P w K mg base "greatest_divisor" 1 ["one","other"] [] Jm:=by
 rcases r:D.cal (k:=0) zeZ (λvs H Q E h=>by obtain⟨a,b,rfl,_⟩:=h;rfl) with⟨a,b,rfl,ha,hb,k⟩
 refine⟨_,ze (zay PassesOwn.never (zE Zt (pv 1) zh (zF _))
   (zj (Xn (i:=0) (j:=1) rfl zeZ.nd rfl rfl (by decide) rfl rfl (za (pv 1) (za (zr qX (pv 0) (pv 1)) zd)) (by rfl))))
  (zj (zD (pv 0))),?_⟩
 refine zaQ (λσ H1=>H1=H/\∃x y:Int,σ=[Si x,Si y]/\0<=x/\0<=y/\Int.gcd x y=Int.gcd a b)
  (λσ _=>match σ with | [_,some (.int y)]=>y.toNat | _=>0) ⟨rfl,a,b,rfl,ha,hb,rfl⟩ ?_ ?_
 ·rintro σ H1 hQq;rcases q:hQq with⟨rfl,x,y,rfl,hx,hy,e⟩
  refine⟨_,rL,_,_,rL,rL,_,rL,qT (λh=>?_) (λh=>?_)⟩
  ·have h':0<y:=wG h
   refine⟨_,rL,_,rL,_,rL,_,_,rL,rL,h',_,_,rL,⟨rL,_,_,rL,hy,uL _ ∅,?_⟩,?_⟩
   ·rw[KM.zak hx h'];exact e
   ·show (x % y).toNat<y.toNat
    have:=Wd x h'
    lia
  ·have h':¬ 0<y:=λz=>h (wm z)
   have:y=0:=by lia
   subst this
   refine⟨_,rL,?_⟩
   have e2:x=(Int.gcd a b:Nat):=by rw[<-e,Int.gcd_zero_right];lia
   rw[e2];exact k
 ·rintro σ H1 Q1 Q2 hq hQq;rcases q:hQq with⟨v,e,i,j,e1,e2,k1,e3,q⟩
  exact⟨v,e,i,j,e1,e2,k1,e3,hq _ _ q⟩
theorem Vx:zA ["top","bottom","divisor"] ["top","bottom"] (zk Zp):=scq
theorem vS (i:Int):(if i<0 then -i else i)=(i.natAbs:Int):=by split <;> lia
theorem zey {dvs:List V}(D:Df K mg "ratio" Zp ["top","bottom"] dvs) (T:TxB K mg) (cW:Cal P w K mg base "is_whole" 1 ["thing"] [] Qe) (cG:Cal P w K mg base "greatest_divisor" 1 ["one","other"] [] Jm) :
  Cal P w K mg base "ratio" 2 ["top","bottom"] dvs qR:=by
 rcases r:D.cal (k:=1) Vx (λvs H Q E h=>by obtain⟨a,b,rfl,_⟩:=h;rfl) with⟨t,b,rfl,hb,hz,k⟩
 refine⟨_,ze (zX (Xh (vn (xD (zB cW hr (za (pv 0) zd)) λ_=>rL)) (Xh (vn (xD (zB cW hr (za (pv 1) zd)) λ_=>rL)) (ZK (zE Zb (pv 1) zh (zF _))))).pt qt zN)
  (ze (psl (i:=2) Vx.nd (zB cG hr (za (zJ qH rfl T.nAbs yK (za (pv 0) zd)) (za (zJ qH rfl T.nAbs yK (za (pv 1) zd)) zd))))
  (ze (zX (zE vN (pv 1) zh (zF _)) (zj (psl (i:=2) Vx.nd (qL qc (pv 2)))) zN)
  (zj (zD (zH (za (zr xC (pv 0) (pv 2)) (za (zr xC (pv 1) (pv 2)) zd))))))),?_⟩
 refine⟨_,rL,t,rL,true,rL,xc ?_⟩
 refine⟨_,rL,b,rL,true,rL,xc ?_⟩
 refine⟨_,rfl,rfl,_,rfl,qT (λh=>absurd (wG h) (by intro z;injection z with z;exact hb z)) (λ_=>?_)⟩
 refine⟨_,rfl,t,rfl,⟨_,rfl,b,rfl,⟨_,_,rfl,(by rw[vS];lia),(by rw[vS];lia),?_⟩⟩⟩
 have hd:=KM.zhl (t:=t) hb
 have hdz:Bd 8900 (KM.dv t b):=hz.of_le (KM.zhk hb)
 have fin:∀σ:St,σ=[Si t,Si b,some (.int (KM.dv t b))]->zfz (zjr (qo (tOp (rI J8 λi j=>V.int (i.fdiv j)) (xy 0) (xy 2)) (qo (tOp (rI J8 λi j=>V.int (i.fdiv j)) (xy 1) (xy 2)) Zv))) { nx:=λ_ H'=>Q .non H',rt:=Q } σ H:=by
  rintro σ rfl
  refine⟨_,rL,_,rL,_,_,rL,rL,⟨hd,hdz⟩,_,rL,_,rL,_,_,rL,rL,⟨hd,hdz⟩,?_⟩
  refine⟨zL2,λp hp=>k p _ (zi.upd hp) ?_⟩
  show upd H p _ p=_
  rw[zg]
  try dsimp only
  rw[KM.za3 hb,KM.zdS hb];rfl
 have ge:(Int.gcd (if t<0 then -t else t) (if b<0 then -b else b):Nat)=Int.gcd t b:=by
  rw[vS,vS];simp[Int.gcd]
 refine⟨_,rL,_,_,rL,rL,_,rL,qT (λh=>?_) (λh=>?_)⟩
 ·have h':b<0:=wG h
  refine⟨_,rL,_,rL,fin _ ?_⟩
  rw[ge];unfold KM.dv;rw[if_pos h'];rfl
 ·have h':¬b<0:=λz=>h (wm z)
  refine fin _ ?_
  rw[ge];unfold KM.dv;rw[if_neg h'];rfl
theorem Bd4 {x:Rat}(h:Sz 4000 x):Bd 1000000 x.num/\Bd 1000000 (x.den:Int):=⟨h.1.md,h.2.md⟩
section
variable {x y:Rat}{p q:Addr}{H:Hp}
theorem zgK {Q:VK}(hp:zp H p x) (hq:zp H q y) (hx:Sz 4000 x) (hy:Sz 4000 y) (k:∀r H',zi H H'->zp H' r (x+y)->Q (.ref r) H') :
  zfz (ZT qR [] E0 (qo (tOp (rI0 λi j=>.int (i+j)) (tOp (rI Vc λi j=>.int (i*j)) (tOp (vx K) (xy 0) (tC (.int 0))) (tOp (vx K) (xy 1) (tC (.int 1)))) (tOp (rI Vc λi j=>.int (i*j)) (tOp (vx K) (xy 1) (tC (.int 0))) (tOp (vx K) (xy 0) (tC (.int 1)))))
   (qo (tOp (rI Vc λi j=>.int (i*j)) (tOp (vx K) (xy 0) (tC (.int 1))) (tOp (vx K) (xy 1) (tC (.int 1)))) Zv))) { nx:=λ_ H'=>Q .non H',rt:=Q } [some (.ref p),some (.ref q)] H:=by
 have bx:=Bd4 hx
 have b_y:=Bd4 hy
 refine⟨_,rL,p,_,_,_,rL,rL,.of hp,at0 ..,_,rL,q,_,_,_,rL,rL,.of hq,at1 ..,_,_,rL,rL,⟨bx.1,b_y.2⟩,?_⟩
 refine⟨_,rL,q,_,_,_,rL,rL,.of hq,at0 ..,_,rL,p,_,_,_,rL,rL,.of hp,at1 ..,_,_,rL,rL,⟨b_y.1,bx.2⟩,_,_,rL,rL,?_⟩
 refine⟨_,rL,p,_,_,_,rL,rL,.of hp,at1 ..,_,rL,q,_,_,_,rL,rL,.of hq,at1 ..,_,_,rL,rL,⟨bx.2,b_y.2⟩,?_⟩
 refine⟨_,_,rL,uU (KM.vC x) (KM.vC y),(hx.2.mul hy.2).md,λr H' e h=>k r H' e ?_⟩
 rw[<-KM.zcd];exact h
theorem zeR {Q:VK}(hp:zp H p x) (hq:zp H q y) (hx:Sz 4000 x) (hy:Sz 4000 y) (k:∀r H',zi H H'->zp H' r (x*y)->Q (.ref r) H') :
  zfz (ZT qR [] E0 (qo (tOp (rI Vc λi j=>.int (i*j)) (tOp (vx K) (xy 0) (tC (.int 0))) (tOp (vx K) (xy 1) (tC (.int 0))))
   (qo (tOp (rI Vc λi j=>.int (i*j)) (tOp (vx K) (xy 0) (tC (.int 1))) (tOp (vx K) (xy 1) (tC (.int 1)))) Zv))) { nx:=λ_ H'=>Q .non H',rt:=Q } [some (.ref p),some (.ref q)] H:=by
 have bx:=Bd4 hx
 have b_y:=Bd4 hy
 refine⟨_,rL,p,_,_,_,rL,rL,.of hp,at0 ..,_,rL,q,_,_,_,rL,rL,.of hq,at0 ..,_,_,rL,rL,⟨bx.1,b_y.1⟩,?_⟩
 refine⟨_,rL,p,_,_,_,rL,rL,.of hp,at1 ..,_,rL,q,_,_,_,rL,rL,.of hq,at1 ..,_,_,rL,rL,⟨bx.2,b_y.2⟩,?_⟩
 refine⟨_,_,rL,uU (KM.vC x) (KM.vC y),(hx.2.mul hy.2).md,λr H' e h=>k r H' e ?_⟩
 rw[<-KM.zaM];exact h
end
theorem zgT:zA ["one","other"] ["one","other"] (zk QC):=scq
theorem zgm (D:Df K mg "_law_sum" QC ["one","other"] []) (c:Cal P w K mg base "_law_lowest" 1 ["top","bottom"] [] qR):Cal P w K mg base "_law_sum" 2 ["one","other"] [] (qx Sz2 (· + ·)):=by
 rcases r:D.calq (k:=1) zgT with⟨p,q,x,y,rfl,hp,hq,⟨hx,hy⟩,k⟩
 exact⟨_,zj (zD (zB c hr (za (zr xg (zr zK (pxt (pv 0)) (pxt (pv 1))) (zr zK (pxt (pv 1)) (pxt (pv 0))))
  (za (zr zK (pxt (pv 0)) (pxt (pv 1))) zd)))),zgK hp hq hx hy k⟩
theorem ze2:zA ["one","other"] ["one","other"] (zk vY):=scq
theorem zex (D:Df K mg "_law_product" vY ["one","other"] []) (c:Cal P w K mg base "_law_lowest" 1 ["top","bottom"] [] qR):Cal P w K mg base "_law_product" 2 ["one","other"] [] (qx Sz2 (· * ·)):=by
 rcases r:D.calq (k:=1) ze2 with⟨p,q,x,y,rfl,hp,hq,⟨hx,hy⟩,k⟩
 exact⟨_,zj (zD (zB c hr (za (zr zK (pxt (pv 0)) (pxt (pv 1)))
  (za (zr zK (pxt (pv 0)) (pxt (pv 1))) zd)))),zeR hp hq hx hy k⟩
theorem zgU:zA ["one","other"] ["one","other"] (zk zbr):=scq
theorem zgp (D:Df K mg "over" zbr ["one","other"] []) (c:Cal P w K mg base "ratio" 2 ["top","bottom"] [] qR):Cal P w K mg base "over" 3 ["one","other"] [] (qx (λx y=>Sz2 x y/\y≠0) (· / ·)):=by
 rcases r:D.calq (k:=2) zgU with⟨p,q,x,y,rfl,hp,hq,⟨⟨hx,hy⟩,hy0⟩,k⟩
 have bx:=Bd4 hx
 have b_y:=Bd4 hy
 refine⟨_,zj (zD (zB c hr (za (zr zK (pxt (pv 0)) (pxt (pv 1)))
  (za (zr zK (pxt (pv 0)) (pxt (pv 1))) zd)))),?_⟩
 refine⟨_,rL,p,_,_,_,rL,rL,.of hp,at0 ..,_,rL,q,_,_,_,rL,rL,.of hq,at1 ..,_,_,rL,rL,⟨bx.1,b_y.2⟩,?_⟩
 refine⟨_,rL,p,_,_,_,rL,rL,.of hp,at1 ..,_,rL,q,_,_,_,rL,rL,.of hq,at0 ..,_,_,rL,rL,⟨bx.2,b_y.1⟩,?_⟩
 refine⟨_,_,rL,uU (KM.vC x) (λz=>hy0 (Rat.num_eq_zero.mp z)),(hx.2.mul hy.1).md,λr H' e h=>k r H' e ?_⟩
 show zp H' r (x/y)
 rw[<-KM.zcb];exact h
def vR (H:Hp) (p:Addr):Prop:=∃a b c:Int,H p=some (.lst [.int a,.int b,.int c])
structure xt (p:Addr) (H H':Hp):Prop where
 pool:vR H' p
 keep:∀b o,H b=some o->b≠p->H' b=some o
theorem xt.trans {p:Addr}{H H1 H2:Hp}(a:xt p H H1) (b:xt p H1 H2):xt p H H2:=⟨b.pool,λc o e n=>b.keep c o (a.keep c o e n) n⟩
theorem xt.same {p:Addr}{H H1 H2:Hp}(a:xt p H H1) (b:zi H1 H2):xt p H H2:=⟨by obtain⟨x,y,z,e⟩:=a.pool;exact⟨x,y,z,b _ _ e⟩,λc o e n=>b c o (a.keep c o e n)⟩
theorem xt.pre {p:Addr}{H H1 H2:Hp}(b:xt p H1 H2) (a:zi H H1):xt p H H2:=⟨b.pool,λc o e n=>b.keep c o (a c o e) n⟩
theorem vR.new {H:Hp}{p l:Addr}{o:HO}(h:vR H p) (hl:H l=none):vR (upd H l o) p:=by obtain⟨a,b,c,e⟩:=h;exact⟨a,b,c,zi.upd hl _ _ e⟩
theorem vR.ne {H:Hp}{p l:Addr}(h:vR H p) (hl:H l=none):l≠p:=by obtain⟨a,b,c,e⟩:=h;exact(zQ e hl).symm
theorem xt.refl {p:Addr}{H:Hp}(h:vR H p):xt p H H:=⟨h,λ_ _ e _=>e⟩
theorem xt.tup {p a:Addr}{H H':Hp}{xs:List V}(s:xt p H H') (hp:vR H p) (h:H a=some (.tup xs)):H' a=some (.tup xs):=by
 obtain⟨_,_,_,e⟩:=hp
 exact s.keep a _ h (zjO h e (by intro z;cases z))
theorem xt.rat {p a:Addr}{H H':Hp}{q:Rat}(s:xt p H H') (hp:vR H p) (h:zp H a q):zp H' a q:=s.tup hp h
inductive zfb  (vs:List V) (H:Hp) (Q:VK) (_e3:XK):Prop
 | mk:∀c:Int,(vs=[.int c])->(∀p H',H p=none->zi H H'->vR H' p->Q (.ref p) H')->zfb vs H Q _e3
inductive Zr  (vs:List V) (H:Hp) (Q:VK) (_e3:XK):Prop
 | mk:∀(p:Addr) (n:Int),(vs=[.ref p,.int n])->(0<n)->(n<1073741824)->(vR H p)->(∀(d:Int) H',0<=d->d<n->xt p H H'->Q (.int d) H')->Zr vs H Q _e3
theorem Q7:zA ["pool","base","digit","mixed","stir"] ["pool","base"] (zk Xz):=scq
theorem zaK {H:Hp}{p:Addr}{a b c:Int}:xt p H (upd H p (.lst [.int a,.int b,.int c])):=⟨⟨a,b,c,zg⟩,λd o e n=>by rw[zO n];exact e⟩
theorem zgo (D:Df K mg "_law_next" Xz ["pool","base"] []):Cal P w K mg base "_law_next" 1 ["pool","base"] [] Zr:=by
 rcases r:D.cal (k:=0) Q7 (λvs H Q E h=>by obtain⟨a,b,rfl,_⟩:=h;rfl) with⟨p,n,rfl,n0,n1,⟨a,b,c,hp⟩,k⟩
 refine⟨_,ze (zX (zE Zt (xS xT (pv 0) zh (λ_ _=>rL)) zh (zF _))
   (ze (psl (i:=2) Q7.nd (zr qX (xS xT (pv 0) zh (λ_ _=>rfl)) (pv 1)))
   (ze (Zk (zr zca (xS xT (pv 0) zh (λ_ _=>rfl)) (pv 1)) (zeG (pv 0) zh zaE))
   (zj (zD (pv 2))))) zN)
  (ze (Zk (zr xg (xS xT (pv 0) zh (λ_ _=>rfl)) zh) (zeG (pv 0) zh zaE))
  (ze (psl (i:=3) Q7.nd (zr qX (zr xg (xS xT (pv 0) zh (λ_ _=>rfl)) (zr Xl zh (xS xT (pv 0) zh (λ_ _=>rfl)))) zh))
  (ze (psl (i:=4) Q7.nd (zr qX (zr Xl (zr xg (pv 3) zh) (zr xg (pv 3) zh)) zh))
  (zj (zD (zr qX (zr zca (zr qX (zr Xl (pv 4) (pv 4)) zh) zh) (pv 1))))))),?_⟩
 refine⟨_,rL,p,_,_,_,rL,rL,.of hp,rL,_,_,rL,rL,_,rL,qT (λh=>?_) (λh=>?_)⟩
 ·refine⟨_,rL,p,_,_,_,rL,rL,.of hp,rL,_,rL,_,_,rL,rL,n0,?_⟩
  refine⟨_,rL,p,_,_,_,rL,rL,.of hp,rL,_,rL,_,_,rL,rL,⟨n0,n1⟩,?_⟩
  refine⟨_,rL,p,_,_,0,rL,rL,hp,rL,?_⟩
  exact⟨_,rL,k _ _ (uL _ ∅) (Wd _ n0) zaK⟩
 ·refine⟨_,rL,p,_,_,_,rL,rL,.of hp,rL,_,_,rL,rL,?_⟩
  refine⟨_,rL,p,_,_,2,rL,rL,hp,rL,?_⟩
  refine⟨_,rfl,p,_,_,_,rfl,rfl,.of zg,rfl,_,rfl,p,_,_,_,rfl,rfl,.of zg,rfl,_,_,rfl,rfl,.inl ⟨by decide,by decide⟩,_,_,rfl,rfl,_,_,rfl,rfl,(by show (0:Int)<1000000007;decide),?_⟩
  refine⟨_,rfl,_,_,rfl,rfl,_,rfl,_,_,rfl,rfl,_,_,rfl,rfl,.inl (by constructor <;> lia),_,_,rfl,rfl,(by show (0:Int)<998244353;decide),?_⟩
  refine⟨_,rfl,_,rfl,_,_,rfl,rfl,.inl (by constructor <;> lia),_,_,rfl,rfl,(by show (0:Int)<2147483647;decide),_,_,rfl,rfl,⟨by decide,by decide⟩,_,rfl,_,_,rfl,rfl,n0,?_⟩
  exact k _ _ (uL _ ∅) (Wd _ n0) zaK
inductive zaH  (vs:List V) (H:Hp) (Q:VK) (_e3:XK):Prop
 | mk:∀(p:Addr),(vs=[.ref p])->(vR H p)->(∀(d:Int) H',0<=d->d<1000000000000000000000->xt p H H'->Q (.int d) H')->zaH vs H Q _e3
theorem zd3 {i:Nat}{f d:Int}(h0:0<=f) (h1:f<10000000^i) (d0:0<=d) (d1:d<10000000):0<=f*10^7+d/\f*10^7+d<10000000^(i+1):=by
 have e:(10:Int)^7=10000000:=by decide
 rw[e,Int.pow_succ]
 generalize (10000000:Int)^i=B at *
 lia
open KM
inductive xx (H:Hp):List V->List vB->Prop
 | nil:xx H [] []
 | cons {a p q:Addr}{b:vB}{vs:List V}{bs:List vB}:H a=some (.tup [.ref p,.ref q,.int b.wt])->zp H p b.pl->zp H q b.sp->xx H vs bs->xx H (.ref a::vs) (b::bs)
theorem xx.mono {H H':Hp}(m:∀b xs,H b=some (.tup xs)->H' b=some (.tup xs)):∀{vs:List V}{bs:List vB},xx H vs bs->xx H' vs bs
 | _,_,.nil=>.nil
 | _,_,.cons h1 h2 h3 t=>.cons (m _ _ h1) (m _ _ h2) (m _ _ h3) (xx.mono m t)
theorem xx.same {H H':Hp}{vs:List V}{bs:List vB}(h:xx H vs bs) (e:zi H H'):xx H' vs bs:=h.mono λb xs z=>e b _ z
theorem xx.length {H:Hp}:∀{vs:List V}{bs:List vB},xx H vs bs->vs.length=bs.length
 | _,_,.nil=>rfl
 | _,_,.cons _ _ _ t=>by rw[ww,ww,xx.length t]
theorem xx.get {H:Hp}:∀{vs:List V}{bs:List vB}{i:Nat}{v:V},xx H vs bs->vs[i]? = some v->∃(a p q:Addr) (b:vB),bs[i]? = some b/\v = .ref a/\H a=some (.tup [.ref p,.ref q,.int b.wt])/\zp H p b.pl/\zp H q b.sp
 | _,_,_,_,.nil,e=>by simp at e
 | _,_,0,_,.cons h1 h2 h3 _,e=>by
  simp at e;subst e
  exact⟨_,_,_,_,rL,rL,h1,h2,h3⟩
 | _,_,i+1,v,.cons _ _ _ t,e=>by
  obtain⟨a,p,q,b,e1,r⟩:=xx.get (i:=i) t (by simpa using e)
  exact⟨a,p,q,b,by simpa using e1,r⟩
inductive J3  (vs:List V) (H:Hp) (Q:VK) (_e3:XK):Prop
 | mk:∀p q x y,(vs=[.ref p,.ref q])->(zp H p x)->(zp H q y)->(Sz 4000 x)->(Sz 4000 y)->(Q (.bl (decide (x<y))) H)->J3 vs H Q _e3
theorem Z6 {X:Cx}{es:List Expr}{k:Nat}{pos:Pos}{t:TGs}{n:Nat}{K:Fg}(hK:X.K=K) (hc:X.calm=true) (h:PGs X es t)
  (hn:(assignEach es X.env).length=n:=by rfl) (hst:(assignEach es X.env).findIdx? (·.1)=none:=by rfl):PG X (.Tuple es k pos) (zai K n t):=by subst hK;exact qY hc h hn hst
theorem vL {X:Cx}{K:Fg}(hK:X.K=K):IxR X (vx K):=by subst hK;exact Vl
theorem Bd9 {i:Int}(h:Bd 8900 i):Bd 1000000 i:=h.md
theorem zeo (x y:Rat):decide (x.num*(y.den:Int)<y.num*(x.den:Int))=decide (x<y):=by
 by_cases h:x<y
 ·rw[wm h,wm ((KM.Za x y).mpr h)]
 ·rw[wA h,wA λz=>h ((KM.Za x y).mp z)]
def xL (ks:List Int):Int:=ks.foldl (λc n=>c/(Int.gcd c n:Int)*n) 1
theorem vD {c n:Int}(hc:0<c) (hn:0<n):0<c/(Int.gcd c n:Int)*n:=by
 refine wW ?_ hn
 have hg:0<(Int.gcd c n:Int):=by have:=ui n (a:=c) ∅;lia
 exact Wr hc ∅ (ur c n)
theorem zem {c n:Int}(hc:0<c) (hn:0<n):c/(Int.gcd c n:Int)*n<=c*n:=by
 have hg:0<(Int.gcd c n:Int):=by have:=ui n (a:=c) ∅;lia
 exact yL (Ye _ ∅) ∅
theorem Jy {m n:Nat}{c k:Int}(hc:0<c) (hk:0<k) (h:Bd m c) (h':Bd n k):Bd (m+n) (c/(Int.gcd c k:Int)*k) :=
 (h.mul h').of_le (by have:=zem hc hk;have:=vD hc hk;omega)
def Pos (n:Nat) (ks:List Int):Prop:=∀k∈ks,0<k/\Bd n k
inductive Jn  (vs:List V) (H:Hp) (Q:VK) (_e3:XK):Prop
 | mk:∀p ks,(vs=[.ref p])->(H p=some (.lst (ks.map V.int)))->(Pos 400 ks)->(ks.length<=20)->(Q (.int (xL ks)) H)->Jn vs H Q _e3
theorem JV:zA ["numbers","common","number"] ["numbers"] (zk va):=scq
theorem zin (D:Df K mg "least_multiple" va ["numbers"] []) (cG:Cal P w K mg base "greatest_divisor" 1 ["one","other"] [] Jm):Cal P w K mg base "least_multiple" 2 ["numbers"] [] Jn:=by
 rcases r:D.calq (k:=1) JV with⟨p,ks,rfl,hp,hk,hl,k⟩
 refine⟨_,(ze (psl (i:=1) JV.nd zh)
  (ze (qM PassesOwn.never rfl (xh (pv 0)) (pgl (i:=2) JV.nd) (zj (psl (i:=1) JV.nd (zr zK (zr xC (pv 1) (zB cG hr (za (pv 1) (za (pv 2) zd)))) (pv 2)))))
  (zj (zD (pv 1))))),?_⟩
 try dsimp only[zU,Cx.nox]
 refine⟨_,rfl,p,rfl,⟨_,SqL.of hp⟩,qA (xs:=ks.map V.int) (λi σ H1=>H1=H/\∃z,σ=[Sr p,some (.int (xL (ks.take i))),z]/\0<xL (ks.take i)/\Bd (1+400*i) (xL (ks.take i))) ⟨rfl,none,rfl,(by show (0:Int)<1;decide),(show (1:Int).natAbs<2^1 by decide)⟩ ?_ ?_ ?_⟩
 ·rintro i σ H1 _ ⟨rfl,_⟩;exact .of hp
 ·rintro i x σ H1 hx hQq;rcases q:hQq with⟨rfl,z,rfl,h1,h2⟩
  have hi:i<ks.length:=by
   have:=(wP.mp hx).1
   simpa using this
  obtain⟨n,hn,rfl⟩:∃n,ks[i]? = some n/\V.int n=x:=by simpa using hx
  have hn':=hk n (wM hn)
  have et:xL (ks.take (i+1))=xL (ks.take i)/(Int.gcd (xL (ks.take i)) n:Int)*n:=by
   rw[yE,hn];simp[xL,YL]
  have hg:0<(Int.gcd (xL (ks.take i)) n:Int):=by have:=ui n (a:=xL (ks.take i)) ∅;lia
  have b1:Bd 8900 (xL (ks.take i)):=h2.mono ∅
  have hgb:Bd 8900 (Int.gcd (xL (ks.take i)) n:Int):=b1.of_le (by have:=Int.le_of_dvd h1 (ur (xL (ks.take i)) n);lia)
  have hq:Bd 8900 ((xL (ks.take i)).fdiv (Int.gcd (xL (ks.take i)) n:Int)):=by
   rw[wq _ ∅]
   exact b1.of_le (by have:=Ye (Int.gcd (xL (ks.take i)) n:Int) (a:=xL (ks.take i)) ∅;have:=WN (a:=xL (ks.take i)) (b:=(Int.gcd (xL (ks.take i)) n:Int)) ∅ ∅;lia)
  refine⟨_,rfl,_,rfl,_,rfl,⟨_,_,rfl,by lia,by lia,?_⟩⟩
  refine⟨_,_,rfl,rfl,⟨by lia,hgb⟩,_,rfl,_,_,rfl,rfl,⟨Bd9 hq,hn'.2.md⟩,?_⟩
  refine⟨rL,some (.int n),?_,?_,?_⟩
  ·rw[et,<-wq _ ∅];rfl
  ·rw[et];exact vD h1 hn'.1
  ·rw[et];exact(Jy h1 hn'.1 h2 hn'.2).mono ∅
 ·rintro σ H1 ⟨rfl,z,rfl,_⟩
  refine⟨_,rL,?_⟩
  rw[we,yt];exact k
def zhe (H:Hp) (us:List V) (qs:List Rat):Prop:=us.length=qs.length/\∀(i:Nat) (v:V),us[i]? = some v->∃a q,v=V.ref a/\qs[i]? = some q/\zp H a q
theorem zdV {α:Type}{f:α->V}{ys:List V}{qs:List α}(h:ys.length=qs.length) (k:∀(i:Nat) (v:V),ys[i]? = some v->∃q,qs[i]? = some q/\v=f q):ys=qs.map f:=by
 refine uI λi=>?_
 by_cases hi:i<ys.length
 ·obtain⟨q,e1,e2⟩:=k i ys[i] (by simp[hi])
  rw[wo,e1,wC hi,e2];rfl
 ·rw[yJ ∅,yJ (by rw[we];lia)]
theorem zc3 {σ:St}(h:σ.length=2):∃a b,σ=[a,b]:=by
 match σ,h with
 | [a,b],_=>exact⟨a,b,rfl⟩
theorem Qp {σ:St}(h:σ.length=1):∃a,σ=[a]:=by
 match σ,h with
 | [a],_=>exact⟨a,rfl⟩
theorem xV {n:Nat}(h:n<=20):n<sizeLine:=WK h (by decide)
def QQ (qs:List Rat):Int:=xL (qs.map λq=>(q.den:Int))
inductive zi8  (vs:List V) (H:Hp) (Q:VK) (_e3:XK):Prop
 | mk:∀p us qs,(vs=[.ref p])->(H p=some (.lst us))->(zhe H us qs)->((∀q∈qs,Bd 400 (q.den:Int)))->(qs.length<=20)->(∀H',zi H H'->Q (.int (QQ qs)) H')->zi8 vs H Q _e3
theorem zko:zA ["ratios"] ["ratios"] (zk vo):=scq
theorem zjQ (D:Df K mg "common_bottom" vo ["ratios"] []) (cL:Cal P w K mg base "least_multiple" 2 ["numbers"] [] Jn):Cal P w K mg base "common_bottom" 3 ["ratios"] [] zi8:=by
 rcases r:D.calq (k:=2) zko with⟨p,us,qs,rfl,hp,hR,hb,hl,k⟩
 refine⟨_,(zj (zD (zB cL hr (za (vc (NB:=["top","bottom"]) rfl (by decide +kernel) (by decide +kernel) rfl (by decide +kernel) (xh (pv 0)) (by intro _ _ _;refine⟨?_,?_,?_⟩;(exact(Z6 (K:=K) (n:=2) rfl rfl (zP (pgl (i:=0) (show List.Nodup (["top","bottom"]:List Str) by decide +kernel)) (zP (pgl (i:=1) (show List.Nodup (["top","bottom"]:List Str) by decide +kernel)) xI))));(exact xJ);(exact(pv 1)))) zd)))),?_⟩
 try dsimp only[zU,Cx.nox]
 refine⟨_,rL,p,rL,⟨_,SqL.of hp⟩,λDa hD=>?_⟩
 refine v6 (J:=Itl K p) (n:=2) (g:=zai K 2 (v9 (zG 0) (v9 (zG 1) za5))) (te:=xy 1) (xs:=us) (λi v _=>∃q:Rat,qs[i]? = some q/\v = .int (q.den:Int)) (λ_ _ _ _ _ z=>z) hD (xA hp) (xV (by rw[hR.1];exact hl)) ?_ ?_
 ·intro i x zs H2 Q' hx hz s2 hk
  rcases q:hR.2 i x hx with⟨a,q,rfl,hq,ha⟩
  obtain⟨z1,z2,rfl⟩:=zc3 hz
  exact⟨a,_,rL,SqT.of (s2 _ _ ha),rL,_,_,rL,_,_,rL,rL,_,rL,hk _ _ (zi.refl _) ⟨q,hq,rL⟩⟩
 ·intro ys H' s' hy hyl hyR
  have e:=zdV (f:=λq:Rat=>V.int (q.den:Int)) (hyl.trans hR.1) hyR
  refine⟨Da,qs.map λq:Rat=>(q.den:Int),rfl,?_,λn hn=>?_,by simpa using hl,k H' s'⟩
  ·rw[hy,e,yW];rfl
  ·obtain⟨q,hq,rfl⟩:=wn.mp hn
   exact⟨by have:=q.den_pos;lia,hb q hq⟩
theorem zhQ {a:V}{r:List V}:atI (a::r) 0=some a:=by
 unfold atI ixN;rw[if_pos (by decide),if_pos (by simp only[ww];lia)];rfl
theorem zhR {a b:V}{r:List V}:atI (a::b::r) 1=some b:=by
 unfold atI ixN;rw[if_pos (by decide),if_pos (by simp only[ww];lia)];rfl
structure TCo (K:Fg) (C:Addr):Prop where
 cls:Cls K C
 pb:qk K C "place_bottom"
 sb:qk K C "speed_bottom"
 tick:qk K C "tick"
 weights:qk K C "weights"
 tracks:qk K C "tracks"
 low:qk K C "low"
 high:qk K C "high"
def VI (H:Hp) (a:Addr) (x y:Rat):Prop:=∃p q r,H a=some (.tup (.ref p::.ref q::r))/\zp H p x/\zp H q y
theorem VI.keeps {H H':Hp}{a:Addr}{x y:Rat}(h:VI H a x y) (t:xp H H'):VI H' a x y:=by
 obtain⟨p,q,r,h1,h2,h3⟩:=h
 exact⟨p,q,r,t _ _ h1,t _ _ h2,t _ _ h3⟩
def byB (x:Rat) (b:Int):Int:=x.num*b.fdiv (x.den:Int)
inductive zfp (C:Addr) (vs:List V) (H:Hp) (Q:VK) (_e3:XK):Prop
 | mk:∀(c dx:Addr) (fs:List (Str×V)) (pb sb:Int),(H c=some (.ins C dx fs))->(fs.lookup ("place_bottom":Str)=some (V.int pb))->(fs.lookup ("speed_bottom":Str)=some (V.int sb))->(((vs=[.ref c,.non]/\Q .non H)\/∃a x y,vs=[.ref c,.ref a]/\VI H a x y/\Sz 400 x/\Sz 400 y/\0<pb/\0<sb/\Bd 8900 pb/\Bd 8900 sb/\∀r H',zi H H'->H' r=some (.tup [.int (byB x pb),.int (byB y sb)])->Q (.ref r) H'))->zfp C vs H Q _e3
theorem zhA:zA ["course","thing","start"] ["course","thing"] (zk XF):=scq
theorem zbH {b d:Int}(hb:0<b) (hd:0<d) (h:Bd 8900 b):Bd 8900 (b.fdiv d):=by
 rw[wq _ ∅]
 exact h.of_le (by have:=Ye d (a:=b) ∅;have:=WN (a:=b) (b:=d) ∅ ∅;lia)
theorem zj6 {C:Addr}(D:Df K mg "track_of" XF ["course","thing"] []) (TC:TCo K C):Cal P w K mg base "track_of" 1 ["course","thing"] [] (zfp C):=by
 rcases r:D.cal (k:=0) zhA (λvs H Q E h=>by obtain⟨_,_,_,_,_,_,_,_,⟨rfl,_⟩ | ⟨_,_,_,rfl,_⟩⟩:=h <;> rfl) with⟨c,dx,fs,pb,sb,hc,e1,e2,h⟩
 refine⟨_,(ze (zX (zE qC (pv 1) xf (zF _)) (zj (zD xf)) zN)
  (ze (psl (i:=2) zhA.nd (zr zK (pxt (pxt (pv 1))) (zr xC (xz (pv 0) rfl) (pxt (pxt (pv 1))))))
  (zj (zD (zH (za (pv 2) (za (zr zK (pxt (pxt (pv 1))) (zr xC (xz (pv 0) rfl) (pxt (pxt (pv 1))))) zd))))))),?_⟩
 try dsimp only[zU,Cx.nox]
 rcases h with⟨rfl,k⟩ | ⟨a,x,y,rfl,⟨p,q,r,ha,hp,hq⟩,hx,hy,p1,p2,b1,b2,k⟩
 ·refine⟨_,rL,rL,_,rL,xw k⟩
 ·refine⟨_,rL,rL,_,rL,xc ?_⟩
  have d1:0<(x.den:Int):=by have:=x.den_pos;lia
  have d2:0<(y.den:Int):=by have:=y.den_pos;lia
  have z1:=zbH p1 d1 b1
  have z2:=zbH p2 d2 b2
  refine⟨_,rfl,a,_,_,_,rfl,rfl,.of ha,zhQ,p,_,_,_,rfl,rfl,.of hp,at0 ..,_,rfl,c,C,dx,fs,_,rfl,hc,TC.cls,TC.pb,e1,_,rfl,a,_,_,_,rfl,rfl,.of ha,zhQ,p,_,_,_,rfl,rfl,.of hp,at1 ..,_,_,rfl,rfl,⟨by lia,hx.2.md⟩,_,_,rfl,rfl,⟨hx.1.md,Bd9 z1⟩,?_⟩
  refine⟨_,rfl,_,rfl,a,_,_,_,rfl,rfl,.of ha,zhR,q,_,_,_,rfl,rfl,.of hq,at0 ..,_,rfl,c,C,dx,fs,_,rfl,hc,TC.cls,TC.sb,e2,_,rfl,a,_,_,_,rfl,rfl,.of ha,zhR,q,_,_,_,rfl,rfl,.of hq,at1 ..,_,_,rfl,rfl,⟨by lia,hy.2.md⟩,_,_,rfl,rfl,⟨hy.1.md,Bd9 z2⟩,?_⟩
  exact⟨zL2,λr hr=>k r _ (zi.upd hr) (by rw[zg];rfl)⟩
theorem zb1 {c n:Int}(hc:0<c) (hn:0<n):c ∣ c/(Int.gcd c n:Int)*n/\n ∣ c/(Int.gcd c n:Int)*n:=by
 refine⟨?_,Int.dvd_mul_left ..⟩
 obtain⟨m,hm⟩:=Wm c n
 have hg:0<(Int.gcd c n:Int):=by have:=ui n (a:=c) ∅;lia
 refine⟨m,?_⟩
 have e1:c/(Int.gcd c n:Int)*(Int.gcd c n:Int)=c:=Int.ediv_mul_cancel (ur c n)
 calc c/(Int.gcd c n:Int)*n=c/(Int.gcd c n:Int)*((Int.gcd c n:Int)*m):=by rw[<-hm]
  _=c/(Int.gcd c n:Int)*(Int.gcd c n:Int)*m:=by rw[Wo]
  _=c*m:=by rw[e1]
theorem Vm {n:Nat}:∀{ks:List Int}{c:Int}{m:Nat},0<c->Bd m c->Pos n ks →
  0<ks.foldl (λc n=>c/(Int.gcd c n:Int)*n) c/\Bd (m+n*ks.length) (ks.foldl (λc n=>c/(Int.gcd c n:Int)*n) c)/\c ∣ ks.foldl (λc n=>c/(Int.gcd c n:Int)*n) c/\∀k∈ks,k ∣ ks.foldl (λc n=>c/(Int.gcd c n:Int)*n) c
 | [],c,m,hc,hm,_=>⟨hc,hm,Yy c,λk hk=>by cases hk⟩
 | k::r,c,m,hc,hm,hp=>by
  have hk:=hp k wH
  have d:=zb1 hc hk.1
  obtain⟨a1,a2,a3,a4⟩:=Vm (ks:=r) (vD hc hk.1) (Jy hc hk.1 hm hk.2) λx hx=>hp x (wO _ hx)
  refine⟨a1,a2.mono (by rw[ww,Uh];lia),Wp d.1 a3,λx hx=>?_⟩
  rcases wx.mp hx with rfl | hx
  ·exact Wp d.2 a3
  ·exact a4 x hx
theorem zb0 {qs:List Rat}(h:∀q∈qs,Bd 400 (q.den:Int)) (hl:qs.length<=20):0<QQ qs/\Bd 8900 (QQ qs)/\∀q∈qs,(q.den:Int) ∣ QQ qs:=by
 obtain⟨a1,a2,_,a4⟩:=Vm (n:=400) (ks:=qs.map λq=>(q.den:Int)) (c:=1) (m:=1) (by decide) (show (1:Int).natAbs<2^1 by decide) (λk hk=>by
  obtain⟨q,hq,rfl⟩:=wn.mp hk
  exact⟨by have:=q.den_pos;lia,h q hq⟩)
 exact⟨a1,a2.mono (by rw[we];lia),λq hq=>a4 _ (wn.mpr ⟨q,hq,rfl⟩)⟩
structure Bl where
 pl:Rat
 sp:Rat
 wt:Int
def XL (H:Hp) (v:V) (b:Bl):Prop:=∃a p q,v=V.ref a/\H a=some (.tup [.ref p,.ref q,.int b.wt])/\zp H p b.pl/\zp H q b.sp
def qe (H:Hp) (us:List V) (bs:List Bl):Prop:=us.length=bs.length/\∀(i:Nat) (v:V),us[i]? = some v->∃b,bs[i]? = some b/\XL H v b
def VL (H:Hp) (v:V):Option (Rat×Rat)->Prop
 | none=>v = .non
 | some w=>∃a,v=V.ref a/\VI H a w.1 w.2
theorem XL.keeps {H H':Hp}{v:V}{b:Bl}(h:XL H v b) (t:xp H H'):XL H' v b:=by
 obtain⟨a,p,q,e,h1,h2,h3⟩:=h
 exact⟨a,p,q,e,t _ _ h1,t _ _ h2,t _ _ h3⟩
theorem qe.keeps {H H':Hp}{us:List V}{bs:List Bl}(h:qe H us bs) (t:xp H H'):qe H' us bs :=
 ⟨h.1,λi v e=>by obtain⟨b,e1,e2⟩:=h.2 i v e;exact⟨b,e1,e2.keeps t⟩⟩
theorem VL.keeps {H H':Hp}{v:V}{w:Option (Rat×Rat)} (h:VL H v w) (t:xp H H'):VL H' v w:=by
 cases w with
 | none=>exact h
 | some w=>obtain⟨a,e,h⟩:=h;exact⟨a,e,h.keeps t⟩
def TsI (H:Hp) (vs:List V) (ts:List (Rat×Rat)):Prop:=vs.length=ts.length/\∀(i:Nat) (v:V),vs[i]? = some v->∃t a,ts[i]? = some t/\v=V.ref a/\VI H a t.1 t.2
theorem TsI.keeps {H H':Hp}{vs:List V}{ts:List (Rat×Rat)} (h:TsI H vs ts) (t:xp H H'):TsI H' vs ts :=
 ⟨h.1,λi v e=>by obtain⟨x,a,e1,e2,e3⟩:=h.2 i v e;exact⟨x,a,e1,e2,e3.keeps t⟩⟩
theorem TsI.nil {H:Hp}:TsI H [] []:=⟨rfl,λi v e=>by simp at e⟩
theorem TsI.cons {H:Hp}{a:Addr}{t:Rat×Rat}{vs:List V}{ts:List (Rat×Rat)} (h:VI H a t.1 t.2) (r:TsI H vs ts):TsI H (.ref a::vs) (t::ts):=by
 refine⟨by simp[r.1],λi v e=>?_⟩
 cases i with
 | zero=>simp at e;subst e;exact⟨t,a,rfl,rfl,h⟩
 | succ i=>obtain⟨x,b,e1,e2⟩:=r.2 i v (by simpa using e);exact⟨x,b,by simpa using e1,e2⟩
theorem TsI.append {H:Hp}{vs vs':List V}{ts ts':List (Rat×Rat)} (h:TsI H vs ts) (h':TsI H vs' ts'):TsI H (vs++vs') (ts++ts'):=by
 refine⟨by simp[h.1,h'.1],λi v e=>?_⟩
 by_cases hi:i<vs.length
 ·rw[wU hi]at e
  rw[wU (by rw[<-h.1];exact hi)]
  exact h.2 i v e
 ·rw[wN ∅]at e
  rw[wN (by rw[<-h.1];lia),<-h.1]
  exact h'.2 _ v e
theorem qe.ts {H:Hp}{us:List V}{bs:List Bl}(h:qe H us bs):TsI H us (bs.map λb=>(b.pl,b.sp)):=by
 refine⟨by simp[h.1],λi v e=>?_⟩
 obtain⟨b,e1,a,p,q,rfl,h1,h2,h3⟩:=h.2 i v e
 exact⟨(b.pl,b.sp),a,by rw[wo,e1];rfl,rfl,p,q,_,h1,h2,h3⟩
def XZ:Option (Rat×Rat)->List (Rat×Rat)
 | none=>[]
 | some w=>[w]
theorem zfI {H:Hp}{v1 v2:V}{lo hi:Option (Rat×Rat)} (h1:VL H v1 lo) (h2:VL H v2 hi):TsI H ([v1,v2].filter λv=>!decide (v = .non)) (XZ lo++XZ hi):=by
 have one:∀{v:V}{w:Option (Rat×Rat)},VL H v w->TsI H ([v].filter λv=>!decide (v = .non)) (XZ w):=λ{v w} h=>by
  cases w with
  | none =>
   have e:v = .non:=h
   subst e;exact .nil
  | some w =>
   obtain⟨a,e,h⟩:=h
   subst e
   rw[List.filter_cons_of_pos (by simp)]
   exact .cons h .nil
 have e:([v1,v2].filter λv=>!decide (v = .non))=([v1].filter λv=>!decide (v = .non))++([v2].filter λv=>!decide (v = .non)):=by
  rw[<-uE];rfl
 rw[e];exact(one h1).append (one h2)
def xj (c:Addr) (H H':Hp):Prop:=∀b o,b≠c->H b=some o->H' b=some o
theorem xj.of {c:Addr}{H H':Hp}(h:zi H H'):xj c H H':=λb o _ e=>h b o e
theorem xj.trans {c:Addr}{H H1 H2:Hp}(a:xj c H H1) (b:xj c H1 H2):xj c H H2:=λx o n e=>b x o n (a x o n e)
theorem xj.upd {c:Addr}{H:Hp}{o:HO}:xj c H (upd H c o):=λb u n e=>by rw[zO n];exact e
theorem xj.tup {c C dx:Addr}{fs:List (Str×V)}{H H':Hp}(h:xj c H H') (e:H c=some (.ins C dx fs)):xp H H':=λb xs q=>h b _ (λz=>by subst z;rw[e]at q;cases q) q
structure TxQ (K:Fg) (mg:Str->Option Value):Prop extends TxB K mg where
 nList:mg "list" = none
 nZip:mg "zip" = none
def Qi (H:Hp) (v:V):Option (Int×Int)->Prop
 | none=>v = .non
 | some t=>∃a,v=V.ref a/\H a=some (.tup [.int t.1,.int t.2])
def VJ (H:Hp) (vs:List V) (ts:List (Int×Int)):Prop:=vs.length=ts.length/\∀(i:Nat) (v:V),vs[i]? = some v->∃t,ts[i]? = some t/\Qi H v (some t)
theorem Qi.keeps {H H':Hp}{v:V}{w:Option (Int×Int)} (h:Qi H v w) (t:xp H H'):Qi H' v w:=by
 cases w with
 | none=>exact h
 | some w=>obtain⟨a,e,h⟩:=h;exact⟨a,e,t _ _ h⟩
theorem VJ.keeps {H H':Hp}{vs:List V}{ts:List (Int×Int)} (h:VJ H vs ts) (t:xp H H'):VJ H' vs ts :=
 ⟨h.1,λi v e=>by obtain⟨x,e1,e2⟩:=h.2 i v e;exact⟨x,e1,e2.keeps t⟩⟩
structure CoF (H:Hp) (fs:List (Str×V)) (pb sb:Int) (tk:Rat) (ws:List Int) (trs:List (Int×Int)) (lo hi:Option (Int×Int)):Prop where
 pb:fs.lookup ("place_bottom":Str)=some (V.int pb)
 sb:fs.lookup ("speed_bottom":Str)=some (V.int sb)
 tick:∃tp,fs.lookup ("tick":Str)=some (V.ref tp)/\zp H tp tk
 weights:∃wl,fs.lookup ("weights":Str)=some (V.ref wl)/\H wl=some (.lst (ws.map V.int))
 tracks:∃tl tv,fs.lookup ("tracks":Str)=some (V.ref tl)/\H tl=some (.lst tv)/\VJ H tv trs
 low:∃v,fs.lookup ("low":Str)=some v/\Qi H v lo
 high:∃v,fs.lookup ("high":Str)=some v/\Qi H v hi
 len:fs.length<=20
def Xd (H:Hp) (C c:Addr) (pb sb:Int) (tk:Rat) (ws:List Int) (trs:List (Int×Int)) (lo hi:Option (Int×Int)):Prop:=∃dx fs,H c=some (.ins C dx fs)/\CoF H fs pb sb tk ws trs lo hi
def CoN (H0 H:Hp) (C c:Addr) (pb sb:Int) (tk:Rat) (ws:List Int) (trs:List (Int×Int)) (lo hi:Option (Int×Int)):Prop:=∃dx fs tl,H c=some (.ins C dx fs)/\CoF H fs pb sb tk ws trs lo hi/\fs.lookup ("tracks":Str)=some (V.ref tl)/\H0 tl=none
theorem CoN.co {H0 H:Hp}{C c:Addr}{pb sb:Int}{tk:Rat}{ws:List Int}{trs:List (Int×Int)}{lo hi:Option (Int×Int)} (h:CoN H0 H C c pb sb tk ws trs lo hi):Xd H C c pb sb tk ws trs lo hi:=by
 obtain⟨dx,fs,tl,h1,h2,_⟩:=h;exact⟨dx,fs,h1,h2⟩
def ths (bs:List Bl) (lo hi:Option (Rat×Rat)):List (Rat×Rat):=bs.map (λb=>(b.pl,b.sp))++(XZ lo++XZ hi)
def pbO (bs:List Bl) (lo hi:Option (Rat×Rat)):Int:=QQ ((ths bs lo hi).map (·.1))
def sbO (bs:List Bl) (lo hi:Option (Rat×Rat)):Int:=QQ ((ths bs lo hi).map (·.2))
def trB (pb sb:Int) (t:Rat×Rat):Int×Int:=(byB t.1 pb,byB t.2 sb)
inductive zg0 (C:Addr) (vs:List V) (H:Hp) (Q:VK) (_e3:XK):Prop
 | mk:∀c dx r wa us bs v1 v2 lo hi,(vs=[V.ref c,.ref r,.ref wa])->(H c=some (.ins C dx []))->(H r=some (.tup us))->(qe H us bs)->(H wa=some (.tup [v1,v2]))->(VL H v1 lo)->(VL H v2 hi)->(bs.length<=8)->((∀t∈ths bs lo hi,Sz 400 t.1/\Sz 400 t.2))->(∀H',xj c H H'->CoN H H' C c (pbO bs lo hi) (sbO bs lo hi) (Rat.divInt (sbO bs lo hi) (pbO bs lo hi)) (bs.map Bl.wt) (bs.map λb=>trB (pbO bs lo hi) (sbO bs lo hi) (b.pl,b.sp)) (lo.map (trB (pbO bs lo hi) (sbO bs lo hi))) (hi.map (trB (pbO bs lo hi) (sbO bs lo hi)))->Q .non H')->zg0 C vs H Q _e3
theorem zhw:zA ["self","row","walls","things"] ["self","row","walls"] (zk qi):=scq
theorem Zs {bs:List Bl}{lo hi:Option (Rat×Rat)} (h:bs.length<=8):(ths bs lo hi).length<=20:=by
 unfold ths
 have e:∀w:Option (Rat×Rat),(XZ w).length<=1:=λw=>by cases w <;> simp[XZ]
 have:=e lo
 have:=e hi
 simp only[wI,we];lia
theorem zbK {σ:St}{H:Hp}{Q:VK}{L:Addr}{vs:List V}{ts:List (Rat×Rat)}{j:Nat}{i:Int}(f:Rat×Rat->Rat) (hσ:σ[j]? = some (some (.ref L))) (hL:H L=some (.lst vs)) (hT:TsI H vs ts) (hl:ts.length<=20)
  (hf:∀H2 a t,VI H2 a t.1 t.2->∃xs p,H2 a=some (.tup xs)/\atI xs i=some (.ref p)/\zp H2 p (f t))
  (k:∀D ys H',zi H H'->H' D=some (.lst ys)->zhe H' ys (ts.map f)->Q (.ref D) H') :
  zcq 1 (zhm K (xy j)) (zG 0) (λ_ H Q=>Q true H) (tOp (vx K) (xy 0) (tC (.int i))) σ H Q:=by
 refine⟨_,hσ,L,rL,⟨_,SqL.of hL⟩,λD hD=>?_⟩
 refine v6 (J:=Itl K L) (n:=1) (g:=zG 0) (te:=tOp (vx K) (xy 0) (tC (.int i))) (xs:=vs) (λm v H=>∃t p,ts[m]? = some t/\v = .ref p/\zp H p (f t)) (λ_ _ _ _ t ⟨x,p,e1,e2,e3⟩=>⟨x,p,e1,e2,t _ _ e3⟩) hD (xA hL) (xV (by rw[hT.1];exact hl)) ?_ ?_
 ·intro m x zs H2 Q' hx hz s2 hk
  obtain⟨t,a,e,rfl,ha⟩:=hT.2 m x hx
  obtain⟨z1,rfl⟩:=Qp hz
  obtain⟨xs,p,h1,h2,h3⟩:=hf H2 a t (ha.keeps (.of s2))
  dsimp only[zG]
  try rw[if_pos rfl]
  exact⟨_,rL,a,_,_,_,rL,rL,.of h1,h2,hk _ _ (zi.refl _) ⟨t,p,e,rL,h3⟩⟩
 ·intro ys H' s' hy hyl hyR
  refine k D ys H' s' hy ⟨by simp[hyl,hT.1],λm v e=>?_⟩
  obtain⟨t,p,e1,e2,e3⟩:=hyR m v e
  exact⟨p,f t,e2,by rw[wo,e1];rfl,e3⟩
theorem th0:∀(H2:Hp) (a:Addr) (t:Rat×Rat),VI H2 a t.1 t.2->∃xs p,H2 a=some (.tup xs)/\atI xs 0=some (.ref p)/\zp H2 p t.1:=λH2 a t ⟨p,q,r,h1,h2,h3⟩=>⟨_,p,h1,zhQ,h2⟩
theorem th1:∀(H2:Hp) (a:Addr) (t:Rat×Rat),VI H2 a t.1 t.2->∃xs p,H2 a=some (.tup xs)/\atI xs 1=some (.ref p)/\zp H2 p t.2:=λH2 a t ⟨p,q,r,h1,h2,h3⟩=>⟨_,q,h1,zhR,h3⟩
theorem vQ {tv:TE}{rest:TS}{f:Str}{D:Zf}{σ:St}{H:Hp}(h:tv σ H λy H1=>xy 0 σ H1 λx H2=>∃a C dx fs,x = .ref a/\H2 a=some (.ins C dx fs)/\Cls K C/\qk K C f/\fs.length<1000/\rest D σ (upd H2 a (.ins C dx (xR f y fs)))):zbz (ziW K (xy 0) tv f) rest D σ H:=h
theorem zb9 {tv:TE}{f:Str}{D:Zf}{σ:St}{H:Hp}(h:tv σ H λy H1=>xy 0 σ H1 λx H2=>∃a C dx fs,x = .ref a/\H2 a=some (.ins C dx fs)/\Cls K C/\qk K C f/\fs.length<1000/\D.nx σ (upd H2 a (.ins C dx (xR f y fs)))):ziW K (xy 0) tv f D σ H:=h
theorem zhg {te:TE}{sp:Sp}{σ:St}{H:Hp}{Q:VK}(h:te σ H λx H1=>sp [x] H1 Q E0):ZT sp [] E0 (qo te Zv) σ H Q:=h
theorem zaa {ta tb:TE}{sp:Sp}{σ:St}{H:Hp}{Q:VK}(h:ta σ H λx H1=>tb σ H1 λy H2=>sp [x,y] H2 Q E0):ZT sp [] E0 (qo ta (qo tb Zv)) σ H Q:=h
theorem qB {c C dx:Addr}{fs:List (Str×V)}{f:Str}{y:V}{rest:TS}{D:Zf}{σ:St}{H3:Hp}(hσ:σ[0]? = some (some (.ref c))) (hc:H3 c=some (.ins C dx fs)) (cl:Cls K C) (na:qk K C f) (hl:fs.length<1000)
  (k:∀G,xj c H3 G->G c=some (.ins C dx (xR f y fs))->rest D σ G):xy 0 σ H3 λx H2=>∃a C dx fs,x = .ref a/\H2 a=some (.ins C dx fs)/\Cls K C/\qk K C f/\fs.length<1000/\rest D σ (upd H2 a (.ins C dx (xR f y fs))) :=
 ⟨_,hσ,c,C,dx,fs,rfl,hc,cl,na,hl,k _ .upd zg⟩
theorem zcw {C c dx:Addr}{fs:List (Str×V)}{pb sb:Int}{G:Hp}{v:V}{w:Option (Rat×Rat)}{Q:VK}{E:XK}(hc:G c=some (.ins C dx fs)) (e1:fs.lookup ("place_bottom":Str)=some (V.int pb)) (e2:fs.lookup ("speed_bottom":Str)=some (V.int sb)) (hw:VL G v w)
  (hz:∀t,w=some t->Sz 400 t.1/\Sz 400 t.2) (p1:0<pb/\Bd 8900 pb) (p2:0<sb/\Bd 8900 sb) (k:∀v' H',zi G H'->Qi H' v' (w.map (trB pb sb))->Q v' H'):zfp C [.ref c,v] G Q E:=by
 refine⟨c,dx,fs,pb,sb,hc,e1,e2,?_⟩
 cases w with
 | none =>
  have e:v = .non:=hw
  subst e
  exact .inl ⟨rL,k _ _ (zi.refl _) rL⟩
 | some t =>
  obtain⟨a,rfl,ha⟩:=hw
  have z:=hz t rfl
  exact .inr ⟨a,t.1,t.2,rL,ha,z.1,z.2,p1.1,p2.1,p1.2,p2.2,λr H' s h=>k _ _ s ⟨r,rL,h⟩⟩
theorem zjS {C f:Addr}{fd:FuncData}(F:Fun K "__init__" "Course.__init__" qi f fd) (T:TxQ K mg) (TC:TCo K C) (cB:Cal P w K mg base "common_bottom" 3 ["ratios"] [] zi8) (cR:Cal P w K mg base "ratio" 2 ["top","bottom"] [] qR)
  (cT:Cal P w K mg base "track_of" 1 ["course","thing"] [] (zfp C)):Zu P w K mg base CX0 4 f fd ["self","row","walls"] (zg0 C):=by
 refine F.okq (k:=3) zhw (λcdv A outer s H vs Q E hr h=>?_)
 rcases q:h with⟨c,dx,r,wa,us,bs,v1,v2,lo,hi,rfl,hc,hrr,hB,hw,h1,h2,hl,hz,k⟩
 have hr2:z6 2 _:=hr.md
 have hr1:z6 1 _:=hr.md
 refine⟨_,(ze (psl (i:=3) zhw.nd (zr JO (vy Zh (by rfl) T.nList Wc (za (pv 1) zd)) (vc (NB:=["wall"]) rfl (by decide +kernel) (by decide +kernel) rfl (by decide +kernel) (Qt (pv 2)) (by intro _ _ _;refine⟨?_,?_,?_⟩;(exact(pgl (i:=0) (show List.Nodup (["wall"]:List Str) by decide +kernel)));(exact(Qb (zE vO (pv 0) xf (zF _))));(exact(pv 0))))))
  (ze (vU (pv 0) (zB cB hr (za (vc (NB:=["thing"]) rfl (by decide +kernel) (by decide +kernel) rfl (by decide +kernel) (xh (pv 3)) (by intro _ _ _;refine⟨?_,?_,?_⟩;(exact(pgl (i:=0) (show List.Nodup (["thing"]:List Str) by decide +kernel)));(exact xJ);(exact(xS (vL (K:=K) rfl) (pv 0) zh (λ_ _=>rfl))))) zd)) rfl)
  (ze (vU (pv 0) (zB cB hr (za (vc (NB:=["thing"]) rfl (by decide +kernel) (by decide +kernel) rfl (by decide +kernel) (xh (pv 3)) (by intro _ _ _;refine⟨?_,?_,?_⟩;(exact(pgl (i:=0) (show List.Nodup (["thing"]:List Str) by decide +kernel)));(exact xJ);(exact(xS (vL (K:=K) rfl) (pv 0) zh (λ_ _=>rfl))))) zd)) rfl)
  (ze (vU (pv 0) (zB cR hr2 (za (xz (pv 0) rfl) (za (xz (pv 0) rfl) zd))) rfl)
  (ze (vU (pv 0) (vc (NB:=["ball"]) rfl (by decide +kernel) (by decide +kernel) rfl (by decide +kernel) (Qt (pv 1)) (by intro _ _ _;refine⟨?_,?_,?_⟩;(exact(pgl (i:=0) (show List.Nodup (["ball"]:List Str) by decide +kernel)));(exact xJ);(exact(xS (vL (K:=K) rfl) (pv 0) zh (λ_ _=>rfl))))) rfl)
  (ze (vU (pv 0) (qK (NB:=["ball"]) (FR:=["self"]) (js:=[0]) rfl rfl (λ_ _ h=>h) (.cons rfl rfl rfl ⟨_,rfl⟩ .nil) rfl (by decide +kernel) rfl (by decide +kernel) (Qt (pv 1)) (by intro _ _ _;refine⟨?_,?_,?_⟩;(exact(pgl (i:=0) (show List.Nodup (["ball","self"]:List Str) by decide +kernel)));(exact xJ);(exact(zB cT hr1 (za (pv 1) (za (pv 0) zd)))))) rfl)
  (ze (vU (pv 0) (zB cT hr1 (za (pv 0) (za (pxt (pv 2)) zd))) rfl)
  (zj (vU (pv 0) (zB cT hr1 (za (pv 0) (za (pxt (pv 2)) zd))) rfl))))))))),?_⟩
 try dsimp only[zU,Cx.nox]
 refine⟨_,rL,r,us,rL,.inr (.of hrr),λl hll=>?_⟩
 refine⟨_,rL,wa,rL,⟨_,SqT.of (zi.upd hll _ _ hw)⟩,λDa hD=>?_⟩
 refine zdK (J:=Itt K wa) (n:=1) (g:=zG 0) (te:=xy 0) (xs:=[v1,v2]) (λv=>!decide (v = .non)) hD (Vt (zi.upd hll _ _ hw)) (xV (by show 2<=20;decide)) ?_ ?_
 ·intro m x zs H2 A2 B2 hx hz2 s2 ka kb
  obtain⟨z1,rfl⟩:=Qp hz2
  dsimp only[zG]
  refine⟨_,rL,rL,_,rL,?_⟩
  cases e:decide (x=V.non)with
  | true=>exact kb (by simp[e])
  | false=>exact⟨_,rfl,ka (by simp[e])⟩
 intro H1 s1 hy
 have hl1:H1 l=some (.lst us):=s1 _ _ zg
 refine⟨l,Da,us,_,rL,rL,hl1,hy,?_,λL hL=>?_⟩
 ·have z1:=Wh (λv=>!decide (v=V.non)) [v1,v2]
  have z2:=hB.1
  have z3:20<sizeLine:=xV (wg _)
  simp only[ww,Y7]at z1
  lia
 have S1:zi H H1:=(zi.upd hll).trans s1
 have S2:zi H (upd H1 L (.lst (us++[v1,v2].filter λv=>!decide (v = .non)))):=S1.trans (zi.upd hL)
 have hT:TsI H (us++[v1,v2].filter λv=>!decide (v = .non)) (ths bs lo hi):=hB.ts.append (zfI h1 h2)
 have hLL:upd H1 L (.lst (us++[v1,v2].filter λv=>!decide (v = .non))) L=some (.lst (us++[v1,v2].filter λv=>!decide (v = .non))):=zg
 generalize upd H1 L (.lst (us++[v1,v2].filter λv=>!decide (v = .non)))=G0 at S2 hLL
 generalize (us++[v1,v2].filter λv=>!decide (v = .non))=tv at hT hLL
 have hc0:=S2 _ _ hc
 have cL:L≠c:=λz=>by subst z;rw[hLL]at hc0;cases hc0
 dsimp only[zG]
 refine vQ (K:=K) ?_
 refine zhg ?_
 refine zbK (λt=>t.1) (by rfl) hLL (hT.keeps (.of S2)) (Zs hl) th0 λD1 y1 H2 s2 hy1 hR1=>?_
 refine⟨D1,y1,_,rfl,hy1,hR1,λq hq=>?_,by rw[we];exact Zs hl,λH3 s3=>?_⟩
 ·obtain⟨t,ht,rfl⟩:=wn.mp hq
  exact(hz t ht).1.2
 have p1:=zb0 (qs:=(ths bs lo hi).map (·.1)) (λq hq=>by obtain⟨t,ht,rfl⟩:=wn.mp hq;exact(hz t ht).1.2) (by rw[we];exact Zs hl)
 have p2:=zb0 (qs:=(ths bs lo hi).map (·.2)) (λq hq=>by obtain⟨t,ht,rfl⟩:=wn.mp hq;exact(hz t ht).2.2) (by rw[we];exact Zs hl)
 refine qB (by rfl) (s3 _ _ (s2 _ _ hc0)) TC.cls TC.pb (by decide) λG1 X1 c1=>?_
 replace X1:xj c G0 G1:=(xj.of (s2.trans s3)).trans X1
 have t1:xp H G1:=(xp.of S2).trans (X1.tup hc0)
 refine vQ (K:=K) ?_
 refine zhg ?_
 refine zbK (λt=>t.2) (by rfl) (X1 _ _ cL hLL) (hT.keeps t1) (Zs hl) th1 λD2 y2 H4 s4 hy2 hR2=>?_
 refine⟨D2,y2,_,rfl,hy2,hR2,λq hq=>?_,by rw[we];exact Zs hl,λH5 s5=>?_⟩
 ·obtain⟨t,ht,rfl⟩:=wn.mp hq
  exact(hz t ht).2.2
 refine qB (by rfl) (s5 _ _ (s4 _ _ c1)) TC.cls TC.sb (by show 1<1000;decide) λG2 X2 c2=>?_
 replace X2:xj c G0 G2:=X1.trans ((xj.of (s4.trans s5)).trans X2)
 refine vQ (K:=K) ?_
 refine⟨_,rfl,c,C,dx,_,_,rfl,c2,TC.cls,TC.sb,rfl,_,rfl,c,C,dx,_,_,rfl,c2,TC.cls,TC.pb,rfl,_,_,rfl,by have:=p1.1;lia,p1.2.1,λtp H6 s6 htp=>?_⟩
 refine qB (by rfl) (s6 _ _ c2) TC.cls TC.tick (by show 2<1000;decide) λG3 X3' c3=>?_
 have X3:xj c G0 G3:=X2.trans ((xj.of s6).trans X3')
 have htp3:zp G3 tp _:=X3' _ _ (λz=>by subst z;have:=s6 _ _ c2;rw[htp]at this;cases this) htp
 have t3:xp H G3:=(xp.of S2).trans (X3.tup hc0)
 refine vQ (K:=K) ?_
 have l20:us.length<sizeLine:=xV (by rw[hB.1];lia)
 refine⟨_,rL,r,rL,⟨_,SqT.of (t3 _ _ hrr)⟩,λD4 hD4=>?_⟩
 refine v6 (J:=Itt K r) (n:=1) (g:=zG 0) (te:=tOp (vx K) (xy 0) (tC (.int 2))) (xs:=us) (λm v _=>∃b:Bl,bs[m]? = some b/\v = .int b.wt) (λ_ _ _ _ _ z=>z) hD4 (Vt (t3 _ _ hrr)) l20 ?_ ?_
 ·intro m x zs H7 Q' hx hz7 s7 hk
  rcases q:(hB.keeps (t3.trans (.of s7))).2 m x hx with⟨b,e,a,p,q,rfl,ha,_⟩
  obtain⟨z1,rfl⟩:=Qp hz7
  dsimp only[zG]
  exact⟨_,rL,a,_,_,_,rL,rL,.of ha,rL,hk _ _ (zi.refl _) ⟨b,e,rL⟩⟩
 intro y4 H7 s7 hy4 hyl4 hyR4
 have e4:y4=(bs.map Bl.wt).map V.int:=by
  rw[yW]
  exact zdV (hyl4.trans hB.1) hyR4
 refine qB (by rfl) (s7 _ _ c3) TC.cls TC.weights (by show 3<1000;decide) λG4 X4' c4=>?_
 have X4:xj c G0 G4:=X3.trans ((xj.of s7).trans X4')
 have nc:∀{G:Hp}{fs:List (Str×V)}{b:Addr}{o:HO},G c=some (.ins C dx fs)->G b=some o->(∀fs,o≠.ins C dx fs)->b≠c:=λh1 h2 h3 z=>by subst z;rw[h1]at h2;cases h2;exact h3 _ rfl
 have wl4:G4 D4=some (.lst ((bs.map Bl.wt).map V.int)):=by
  rw[<-e4];exact X4' _ _ (nc (s7 _ _ c3) hy4 (λ_ z=>by cases z)) hy4
 have htp4:zp G4 tp _:=X4' _ _ (nc (s7 _ _ c3) (s7 _ _ htp3) (λ_ z=>by cases z)) (s7 _ _ htp3)
 have t4:xp H G4:=(xp.of S2).trans (X4.tup hc0)
 refine vQ (K:=K) ?_
 refine⟨_,rL,r,rL,⟨_,SqT.of (t4 _ _ hrr)⟩,λD5 hD5=>?_⟩
 refine xY (J:=Itt K r) (n:=1) (js:=[0]) (g:=zG 0) (te:=ZT (zfp C) [] E0 (qo (xy 1) (qo (xy 0) Zv))) (xs:=us) (λm v H=>∃t,(bs.map λb=>trB (pbO bs lo hi) (sbO bs lo hi) (b.pl,b.sp))[m]? = some t/\Qi H v (some t)) (λ_ _ _ _ t ⟨x,e1,e2⟩=>⟨x,e1,e2.keeps t⟩) hD5 (Vt (t4 _ _ hrr)) l20 ?_ ?_
 ·intro m x zs H8 Q' hx hz8 s8 hk
  rcases q:(hB.keeps (t4.trans (.of s8))).2 m x hx with⟨b,e,a,p,q,rfl,ha,hp,hq⟩
  obtain⟨z1,rfl⟩:=Qp hz8
  dsimp only[zG]
  have zb:=hz (b.pl,b.sp) (yP _ (wn.mpr ⟨b,wM e,rfl⟩))
  refine⟨rfl,_,rfl,_,rfl,c,dx,_,_,_,s8 _ _ c4,rfl,rfl,.inr ⟨a,b.pl,b.sp,rfl,⟨p,q,_,ha,hp,hq⟩,zb.1,zb.2,p1.1,p2.1,p1.2.1,p2.2.1,λr' H9 s9 h9=>hk _ _ s9 ⟨_,by rw[wo,e];rfl,r',rfl,h9⟩⟩⟩
 intro y5 H8 s8 hy5 hyl5 hyR5
 refine qB (by rfl) (s8 _ _ c4) TC.cls TC.tracks (by show 4<1000;decide) λG5 X5' c5=>?_
 have X5:xj c G0 G5:=X4.trans ((xj.of s8).trans X5')
 have tl5:G5 D5=some (.lst y5):=X5' _ _ (nc (s8 _ _ c4) hy5 (λ_ z=>by cases z)) hy5
 have tr5:VJ G5 y5 (bs.map λb=>trB (pbO bs lo hi) (sbO bs lo hi) (b.pl,b.sp)):=⟨by rw[hyl5,we,hB.1],λm v e=>by
  obtain⟨t,e1,e2⟩:=hyR5 m v e
  exact⟨t,e1,e2.keeps (X5'.tup (s8 _ _ c4))⟩⟩
 have wl5:=X5' _ _ (nc (s8 _ _ c4) (s8 _ _ wl4) (λ_ z=>by cases z)) (s8 _ _ wl4)
 have htp5:zp G5 tp _:=X5' _ _ (nc (s8 _ _ c4) (s8 _ _ htp4) (λ_ z=>by cases z)) (s8 _ _ htp4)
 have t5:xp H G5:=(xp.of S2).trans (X5.tup hc0)
 have zlo:∀t,lo=some t->Sz 400 t.1/\Sz 400 t.2:=λt e=>hz t (by unfold ths;rw[e];simp[XZ])
 have zhi:∀t,hi=some t->Sz 400 t.1/\Sz 400 t.2:=λt e=>hz t (by unfold ths;rw[e];simp[XZ])
 refine vQ (K:=K) ?_
 refine zaa ⟨_,rL,_,rL,wa,_,_,_,rL,rL,.of (t5 _ _ hw),at0 ..,?_⟩
 refine zcw c5 rL rL (h1.keeps t5) zlo ⟨p1.1,p1.2.1⟩ ⟨p2.1,p2.2.1⟩ λlv H9 s9 hlv=>?_
 refine qB (by rfl) (s9 _ _ c5) TC.cls TC.low (by show 5<1000;decide) λG6 X6' c6=>?_
 have X6:xj c G0 G6:=X5.trans ((xj.of s9).trans X6')
 have t6:xp H G6:=(xp.of S2).trans (X6.tup hc0)
 have X56:xj c G5 G6:=(xj.of s9).trans X6'
 refine zb9 (K:=K) ?_
 refine zaa ⟨_,rL,_,rL,wa,_,_,_,rL,rL,.of (t6 _ _ hw),at1 ..,?_⟩
 refine zcw c6 rL rL (h2.keeps t6) zhi ⟨p1.1,p1.2.1⟩ ⟨p2.1,p2.2.1⟩ λhv H10 s10 hhv=>?_
 refine qB (rest:=Zf.nx) (by rfl) (s10 _ _ c6) TC.cls TC.high (by show 6<1000;decide) λG7 X7' c7=>?_
 have X67:xj c G6 G7:=(xj.of s10).trans X7'
 have X57:xj c G5 G7:=X56.trans X67
 have X7:xj c G0 G7:=X6.trans X67
 have hD5H:H D5=none:=by
  cases e:H D5 with
  | none=>rfl
  | some o =>
   by_cases z:D5=c
   ·rw[z,c4]at hD5;cases hD5
   ·rw[X4 _ _ z (S2 _ _ e)]at hD5;cases hD5
 refine k G7 ((xj.of S2).trans X7) ⟨dx,_,D5,c7,⟨rfl,rfl,⟨tp,rfl,X57 _ _ (nc c5 htp5 (λ_ z=>by cases z)) htp5⟩,⟨D4,rfl,X57 _ _ (nc c5 wl5 (λ_ z=>by cases z)) wl5⟩,
  ⟨D5,y5,rfl,X57 _ _ (nc c5 tl5 (λ_ z=>by cases z)) tl5,tr5.keeps (X57.tup c5)⟩,⟨lv,rfl,(hlv.keeps (X6'.tup (s9 _ _ c5))).keeps (X67.tup c6)⟩,⟨hv,rfl,hhv.keeps (X7'.tup (s10 _ _ c6))⟩,by show 7<=20;decide⟩,rfl,hD5H⟩
structure Tx3 (K:Fg) (mg:Str->Option Value) (aN:Addr):Prop where
 nAll:mg "all" = none
 nSorted:mg "sorted" = none
 nEnum:mg "enumerate" = none
 mn:mg "NOUGHT" = some (.ref aN)
 kn:zdz K aN 0 1
 tt:PySem.W.kitOne K (.type "tuple") (.type "tuple")=some true
abbrev Wl:=Option (Rat×Rat)
def xb (H:Hp) (v:V):Wl->Prop
 | none=>v = .non
 | some (x,y)=>∃a p q,v = .ref a/\H a=some (.tup [.ref p,.ref q])/\zp H p x/\zp H q y
theorem xb.same {H H':Hp}{v:V}{l:Wl}(h:xb H v l) (e:zi H H'):xb H' v l:=by
 cases l with
 | none=>exact h
 | some z=>obtain⟨a,p,q,e1,e2,e3,e4⟩:=h;exact⟨a,p,q,e1,e _ _ e2,e3.same e,e4.same e⟩
theorem iteD {c:Prop} [Decidable c] {A B:Prop}(e:¬c) (h:B):if decide c=true then A else B:=by
 rw[wA e];exact xc h
theorem zcs {α:Type}{l:List α}{i:Nat}{x:α}(h:l[i]? = some x):l.take (i+1)=l.take i++[x]:=by rw[yE,h];rfl
theorem ln1 {σ:St}(h:σ.length=1):∃a,σ=[a]:=by
 match σ,h with
 | [a],_=>exact⟨a,rfl⟩
inductive zdr  (vs:List V) (H:Hp) (Q:VK) (_e3:XK):Prop
 | mk:∀p xs n,(vs=[.ref p,.int n])->(H p=some (.tup xs))->(Q (.bl (decide (V.int (xs.length:Nat)=V.int n))) H)->zdr vs H Q _e3
theorem ze0:zA ["thing","many"] ["thing","many"] (zk Xt):=scq
theorem zj7 (D:Df K mg "is_tuple" Xt ["thing","many"] []) (T:TxB K mg) (T3:Tx3 K mg aN):Cal P w K mg base "is_tuple" 1 ["thing","many"] [] zdr:=by
 rcases r:D.calq (k:=0) ze0 with⟨p,xs,n,rfl,hp,k⟩
 refine⟨_,(zj (zD (qJ (zJ vK (by rfl) T.nIs ym (za (pv 0) (za (X9 (v:=.ty "tuple") (u:=.type "tuple") (by rfl) T.nTuple WO rfl) zd))) (vT (qm Zb (zJ zS (by rfl) T.nLen PySem.boot_len (za (pv 0) zd)) (pv 1) (zF _)))))),?_⟩
 try dsimp only[zU,Cx.nox]
 exact⟨_,rL,_,_,_,true,rL,.tup hp,T3.tt,true,rL,xw ⟨_,rL,p,_,rL,.inr (SqT.of hp),_,rL,rL,k⟩⟩
inductive zg1  (vs:List V) (H:Hp) (Q:VK) (_e3:XK):Prop
 | mk:∀p x,(vs=[.ref p])->(zp H p x)->(Q (.bl true) H)->zg1 vs H Q _e3
theorem zf6 (x:Rat):(Int.gcd (if x.num<0 then -x.num else x.num) (x.den:Int):Int)=1:=by
 rw[vS]
 have:=x.reduced
 show ((Nat.gcd x.num.natAbs x.den:Nat):Int)=1
 rw[this];rfl
theorem zbs:zA ["thing","top","bottom"] ["thing"] (zk Xp):=scq
theorem zjV (D:Df K mg "is_ratio" Xp ["thing"] []) (T:TxB K mg) (cTu:Cal P w K mg base "is_tuple" 1 ["thing","many"] [] zdr) (cW:Cal P w K mg base "is_whole" 1 ["thing"] [] Qe) (cG:Cal P w K mg base "greatest_divisor" 1 ["one","other"] [] Jm) :
  Cal P w K mg base "is_ratio" 2 ["thing"] [] zg1:=by
 refine D.calq (k:=1) zbs (λf cdv A outer s H vs Q E hr1 h=>?_)
 rcases q:h with⟨p,x,rfl,hp,k⟩
 refine⟨_,(ze (zX (vn (xD (zB cTu hr1 (za (pv 0) (za zh zd))) λ_=>rL)) (zj (zD Zc)) zN)
  (ze (Zk (pv 0) (qY rfl (zP (pgl (i:=1) zbs.nd) (zP (pgl (i:=2) zbs.nd) xI))))
  (ze (zX ((Xh (vn (xD (zB cW hr1 (za (pv 1) zd)) λ_=>rfl)) (Xh (vn (xD (zB cW hr1 (za (pv 2) zd)) λ_=>rfl)) (ZK (zE vN (pv 2) zh (zF _)))))).pt (zj (zD Zc)) zN)
  (zj (zD (qm Zb (zB cG hr1 (za (zJ qH (by rfl) T.nAbs yK (za (pv 1) zd)) (za (pv 2) zd))) zh (zF _))))))),?_⟩
 try dsimp only[zU,Cx.nox]
 refine⟨_,rL,p,_,_,rL,hp,_,rL,xc ?_⟩
 refine⟨_,rL,p,_,rL,SqT.of hp,rL,_,_,rL,_,_,rL,rL,?_⟩
 refine⟨_,rL,_,rL,true,rL,xc ⟨_,rL,_,rL,true,rL,xc ?_⟩⟩
 refine⟨_,rfl,_,_,rfl,rfl,_,rfl,iteD (by have:=den_pos x;lia) ?_⟩
 refine⟨_,rfl,_,rfl,_,rfl,_,_,rfl,(by rw[vS];lia),∅,rfl,?_⟩
 show Q (.bl (decide (V.int (Int.gcd (if x.num<0 then -x.num else x.num) (x.den:Int):Int)=V.int 1))) H
 rw[zf6,wm rfl];exact k
inductive zjj  (vs:List V) (H:Hp) (Q:VK) (_e3:XK):Prop
 | mk:∀v l,(vs=[v])->(xb H v l)->(Q (.bl true) H)->zjj vs H Q _e3
theorem zdl:zA ["thing"] ["thing"] (zk Qz):=scq
theorem zj8 (D:Df K mg "is_wall" Qz ["thing"] []) (cTu:Cal P w K mg base "is_tuple" 1 ["thing","many"] [] zdr) (cIr:Cal P w K mg base "is_ratio" 2 ["thing"] [] zg1):Cal P w K mg base "is_wall" 3 ["thing"] [] zjj:=by
 refine D.calq (k:=2) zdl (λf cdv A outer s H vs Q E hr2 h=>?_)
 rcases q:h with⟨v,l,rfl,hw,k⟩
 have hr1:z6 1 _:=hr2.md
 refine⟨_,(ze (zX (zE qC (pv 0) xf (zF _)) (zj (zD Zc)) zN)
  (zj (zD (qJ (zB cTu hr1 (za (pv 0) (za zh zd))) (qJ (zB cIr hr2 (za (pxt (pv 0)) zd)) (vT (zB cIr hr2 (za (pxt (pv 0)) zd)))))))),?_⟩
 try dsimp only[zU,Cx.nox]
 cases l with
 | none =>
  obtain rfl:v = .non:=hw
  exact⟨_,rL,rL,_,rL,xw k⟩
 | some z =>
  obtain⟨x,y⟩:=z
  rcases q:hw with⟨a,p,q,rfl,ha,hp,hq⟩
  refine⟨_,rL,rL,_,rL,xc ?_⟩
  refine⟨_,rL,a,_,_,rL,ha,true,rL,xw ?_⟩
  refine⟨_,rL,a,_,_,_,rL,rL,.of ha,rL,p,x,rL,hp,true,rL,xw ?_⟩
  exact⟨_,rL,a,_,_,_,rL,rL,.of ha,rL,q,y,rL,hq,k⟩
inductive zjl  (vs:List V) (H:Hp) (Q:VK) (_e3:XK):Prop
 | mk:∀a v1 v2 l1 l2,(vs=[.ref a])->(H a=some (.tup [v1,v2]))->(xb H v1 l1)->(xb H v2 l2)->(Q (.bl true) H)->zjl vs H Q _e3
theorem zgQ:zA ["thing"] ["thing"] (zk vH):=scq
theorem zka (D:Df K mg "is_wall_pair" vH ["thing"] []) (cTu:Cal P w K mg base "is_tuple" 1 ["thing","many"] [] zdr) (cWa:Cal P w K mg base "is_wall" 3 ["thing"] [] zjj):Cal P w K mg base "is_wall_pair" 4 ["thing"] [] zjl:=by
 refine D.calq (k:=3) zgQ (λf cdv A outer s H vs Q E hr3 h=>?_)
 rcases q:h with⟨a,v1,v2,l1,l2,rfl,ha,h1,h2,k⟩
 have hr1:z6 1 _:=hr3.md
 refine⟨_,(zj (zD (qJ (zB cTu hr1 (za (pv 0) (za zh zd))) (qJ (zB cWa hr3 (za (pxt (pv 0)) zd)) (vT (zB cWa hr3 (za (pxt (pv 0)) zd))))))),?_⟩
 try dsimp only[zU,Cx.nox]
 refine⟨_,rL,a,_,_,rL,ha,true,rL,xw ?_⟩
 refine⟨_,rL,a,_,_,_,rL,rL,.of ha,rL,v1,l1,rL,h1,true,rL,xw ?_⟩
 exact⟨_,rL,a,_,_,_,rL,rL,.of ha,rL,v2,l2,rL,h2,k⟩
inductive zi7  (vs:List V) (H:Hp) (Q:VK) (_e3:XK):Prop
 | mk:∀a p q x y n,(vs=[.ref a])->(H a=some (.tup [.ref p,.ref q,.int n]))->(zp H p x)->(zp H q y)->(Q (.bl true) H)->zi7 vs H Q _e3
theorem zeX:zA ["thing"] ["thing"] (zk vG):=scq
theorem zjP (D:Df K mg "is_ball_form" vG ["thing"] []) (cTu:Cal P w K mg base "is_tuple" 1 ["thing","many"] [] zdr) (cIr:Cal P w K mg base "is_ratio" 2 ["thing"] [] zg1) (cW:Cal P w K mg base "is_whole" 1 ["thing"] [] Qe):Cal P w K mg base "is_ball_form" 3 ["thing"] [] zi7:=by
 refine D.calq (k:=2) zeX (λf cdv A outer s H vs Q E hr2 h=>?_)
 rcases q:h with⟨a,p,q,x,y,n,rfl,ha,hp,hq,k⟩
 have hr1:z6 1 _:=hr2.md
 refine⟨_,(zj (zD (qJ (zB cTu hr1 (za (pv 0) (za zh zd))) (qJ (zB cIr hr2 (za (pxt (pv 0)) zd)) (qJ (zB cIr hr2 (za (pxt (pv 0)) zd)) (vT (zB cW hr1 (za (pxt (pv 0)) zd)))))))),?_⟩
 try dsimp only[zU,Cx.nox]
 refine⟨_,rL,a,_,_,rL,ha,true,rL,xw ?_⟩
 refine⟨_,rL,a,_,_,_,rL,rL,.of ha,rL,p,x,rL,hp,true,rL,xw ?_⟩
 refine⟨_,rL,a,_,_,_,rL,rL,.of ha,rL,q,y,rL,hq,true,rL,xw ?_⟩
 exact⟨_,rL,a,_,_,_,rL,rL,.of ha,rL,n,rL,k⟩
theorem all_map (f:α->Bool) (l:List α):(l.map f).all id=l.all f:=by rw[List.all_map];rfl
theorem zaY {σ:St}{H:Hp}{Q:VK}{j:Nat}{sp:Sp}{r:Addr}{us:List V}{bs:List vB}(hσ:σ[j]? = some (some (.ref r))) (hr:H r=some (.tup us)) (hB:xx H us bs) (hlen:bs.length<=8)
  (hsp:∀(H1:Hp) (v:V) (b:vB) (Q:VK),zi H H1->b∈bs->(∃a p q,v = .ref a/\H1 a=some (.tup [.ref p,.ref q,.int b.wt])/\zp H1 p b.pl/\zp H1 q b.sp)->Q (.bl true) H1->sp [v] H1 Q E0)
  (k:∀D H',zi H H'->H' D=some (.lst ((List.replicate bs.length true).map V.bl))->Q (.ref D) H') :
  zcq 1 (zf9 K (xy j)) (zG 0) (λ_ H Q=>Q true H) (ZT sp [] E0 (qo (xy 0) Zv)) σ H Q:=by
 refine⟨_,hσ,r,rL,⟨_,SqT.of hr⟩,λD hD=>?_⟩
 have hl:=hB.length
 refine XR (J:=Itt K r) (g:=zG 0) (tt:=λ_ H Q=>Q true H) (te:=ZT sp [] E0 (qo (xy 0) Zv)) (Q:=Q) (N:=us.length) (n:=1) (λi H2 ys=>zi H H2/\ys=(List.replicate i true).map V.bl) ⟨zi.upd hD,rL⟩ (λi H2 ys hi ⟨s2,_⟩=>?_) (λH2 ys ⟨s2,_⟩=>?_) ?_ ?_
 ·exact⟨us,us[i],.of (s2 _ _ hr),wC hi⟩
 ·exact⟨us,.of (s2 _ _ hr),wg _⟩
 ·rintro i x zs H2 H3 ys Nx hNx hi hzs ⟨rfl,f1⟩ ⟨s2,rfl⟩ hD2
  obtain⟨z1,rfl⟩:=ln1 hzs
  obtain⟨a,p,q,b,eb,rfl,ha,hp,hq⟩:=hB.get (f1 us (.of (s2 _ _ hr)))
  dsimp only[zG]
  try rw[if_pos rfl]
  refine⟨_,rL,?_⟩
  refine hsp H3 (.ref a) b _ s2 (wM eb) ⟨a,p,q,rL,s2 _ _ ha,hp.same s2,hq.same s2⟩ ?_
  refine⟨hD2,?_,hNx _ _ ⟨JS hD s2 (zi.refl _),?_⟩⟩
  ·rw[we,uO];exact vz ∅
  ·rw[List.replicate_succ',yV];rfl
 ·rintro H2 ys ⟨s2,rfl⟩ hD2
  rw[hl]at hD2
  exact k D H2 s2 hD2
theorem zdD (n:Nat):(List.replicate n true).all id=true:=by simp
def evB (b0:vB) (bs:List vB):Bool:=bs.all λb=>decide (b.wt=b0.wt)
def xq:Wl->Bool
 | none=>true
 | some (_,y)=>decide (y=0)
theorem zgw {X:Cx}{K:Fg}(hK:X.K=K) (hu:X.A.units+64<cLine):OpR X (compareOp .Eq) (zgF K):=by subst hK;exact ziM hu
theorem zfH (i j:Int):decide (V.int i=V.int j)=decide (i=j):=by
 rw[uR,uJ,uJ]
 exact⟨λz=>by injection z,λz=>by rw[z]⟩
theorem zcL {σ:St}{H:Hp}{Q:VK}{r:Addr}{us:List V}{bs:List vB}{b0:vB}(hσ:σ[0]? = some (some (.ref r))) (hr:H r=some (.tup us)) (hB:xx H us bs) (h0:bs[0]? = some b0) (hlen:bs.length<=8)
  (k:∀D H',zi H H'->H' D=some (.lst ((bs.map λb=>decide (b.wt=b0.wt)).map V.bl))->Q (.ref D) H') :
  J5 1 [0] (zf9 K (xy 0)) (zG 0) (λ_ H Q=>Q true H) (tOp rEq (tOp (vx K) (xy 0) (tC (.int 2))) (tOp (vx K) (tOp (vx K) (xy 1) (tC (.int 0))) (tC (.int 2)))) σ H Q:=by
 have hcap:qF σ [0]=[some (.ref r)]:=by simp[qF,hσ]
 refine⟨_,hσ,r,rL,⟨_,SqT.of hr⟩,λD hD=>?_⟩
 have hl:=hB.length
 have hu0:0<us.length:=by rw[hl];exact(wP.mp h0).1
 obtain⟨a0,p0,q0,b0',e0,f0,ha0,_,_⟩:=hB.get (i:=0) (wC hu0)
 rw[h0]at e0;cases e0
 refine ZE (J:=Itt K r) (g:=zG 0) (tt:=λ_ H Q=>Q true H) (te:=tOp rEq (tOp (vx K) (xy 0) (tC (.int 2))) (tOp (vx K) (tOp (vx K) (xy 1) (tC (.int 0))) (tC (.int 2)))) (Q:=Q) (N:=us.length) (n:=1)
  (λi H2 ys=>zi H H2/\ys=((bs.map λb=>decide (b.wt=b0.wt)).map V.bl).take i) ⟨zi.upd hD,rfl⟩ (λi H2 ys hi ⟨s2,_⟩=>?_) (λH2 ys ⟨s2,_⟩=>?_) ?_ ?_
 ·exact⟨us,us[i],.of (s2 _ _ hr),wC hi⟩
 ·exact⟨us,.of (s2 _ _ hr),wg _⟩
 ·rintro i x zs H2 H3 ys Nx hNx hi hzs ⟨rfl,f1⟩ ⟨s2,rfl⟩ hD2
  obtain⟨z1,rfl⟩:=ln1 hzs
  obtain⟨a,p,q,b,eb,rfl,ha,hp,hq⟩:=hB.get (f1 us (.of (s2 _ _ hr)))
  rw[hcap]
  dsimp only[zG]
  refine⟨rL,?_⟩
  rw[if_pos rfl]
  refine⟨_,rfl,a,_,_,_,rfl,rfl,.of (s2 _ _ ha),rfl,_,rfl,r,_,_,_,rfl,rfl,.of (s2 _ _ hr),(by rw[<-f0];exact Jx (j:=0) (wC hu0)),a0,_,_,_,rfl,rfl,.of (s2 _ _ ha0),rfl,rfl,?_⟩
  refine⟨hD2,?_,hNx _ _ ⟨JS hD s2 (zi.refl _),?_⟩⟩
  ·rw[yj];exact vz ∅
  ·rw[zcs (x:=V.bl (decide (b.wt=b0.wt))) (by rw[wo,wo,eb];rfl)]
   show _++[V.bl (decide (V.int b.wt=V.int b0.wt))]=_
   rw[zfH]
 ·rintro H2 ys ⟨s2,rfl⟩ hD2
  rw[List.take_of_length_le (by rw[we,we,hl];exact wg _)]at hD2
  exact k D H2 s2 hD2
inductive zi9  (vs:List V) (H:Hp) (Q:VK) (_e3:XK):Prop
 | mk:∀r us bs b0,(vs=[.ref r])->(H r=some (.tup us))->(xx H us bs)->(bs[0]? = some b0)->(bs.length<=8)->(∀H',zi H H'->Q (.bl (evB b0 bs)) H')->zi9 vs H Q _e3
theorem zgP:zA ["row"] ["row"] (zk Qy):=scq
inductive zje  (vs:List V) (H:Hp) (Q:VK) (_e3:XK):Prop
 | mk:∀r us bs,(vs=[.ref r])->(H r=some (.tup us))->(xx H us bs)->(0<bs.length)->(bs.length<=8)->(∀H',zi H H'->Q (.bl true) H')->zje vs H Q _e3
theorem ze5:zA ["thing"] ["thing"] (zk vX):=scq
theorem zez (D:Df K mg "is_row_form" vX ["thing"] []) (T:TxB K mg) (T3:Tx3 K mg aN) (cBf:Cal P w K mg base "is_ball_form" 3 ["thing"] [] zi7):Cal P w K mg base "is_row_form" 4 ["thing"] [] zje:=by
 refine D.calq (k:=3) ze5 (λf cdv A outer s H vs Q E hr3 h=>?_)
 rcases q:h with⟨r,us,bs,rfl,hrr,hB,h0,hlen,k⟩
 have hl:=hB.length
 refine⟨_,(zj (zD (qJ (zJ vK (by rfl) T.nIs ym (za (pv 0) (za (X9 (v:=.ty "tuple") (u:=.type "tuple") (by rfl) T.nTuple WO rfl) zd))) (qJ (qm Zt (zJ zS (by rfl) T.nLen PySem.boot_len (za (pv 0) zd)) zh (zF _)) (vT (zJ (Vg rfl) (by rfl) T3.nAll (by decide +kernel) (za (vc (NB:=["ball"]) rfl (by decide +kernel) (by decide +kernel) rfl (by decide +kernel) (Qt (pv 0)) (by intro _ _ _;refine⟨?_,?_,?_⟩;(exact(pgl (i:=0) (show List.Nodup (["ball"]:List Str) by decide +kernel)));(exact xJ);(exact(zB cBf hr3 (za (pv 0) zd))))) zd))))))),?_⟩
 try dsimp only[zU,Cx.nox]
 refine⟨_,rL,_,_,_,true,rL,.tup hrr,T3.tt,true,rL,xw ?_⟩
 refine⟨_,rL,r,_,rL,.inr (SqT.of hrr),_,_,rL,rL,_,rL,?_⟩
 rw[show decide ((0:Int)<((us.length:Nat):Int))=true from wm ∅]
 refine xw ?_
 unfold tCB qo
 refine zaY (K:=K) (j:=0) rL hrr hB hlen (λH1 v b Q e mb ⟨a,p,q,e1,e2,e3,e4⟩ q'=>?_) λDD H2 e2 hD=>⟨DD,_,rL,SqL.of hD,?_⟩
 ·subst e1
  exact⟨a,p,q,b.pl,b.sp,b.wt,rL,e2,e3,e4,q'⟩
 ·rw[zdD]
  exact k H2 e2
theorem zjT (D:Df K mg "is_even" Qy ["row"] []) (T:TxB K mg) (T3:Tx3 K mg aN) (cRf:Cal P w K mg base "is_row_form" 4 ["thing"] [] zje):Cal P w K mg base "is_even" 5 ["row"] [] zi9:=by
 refine D.calq (k:=4) zgP (λf cdv A outer s H vs Q E hr4 h=>?_)
 rcases q:h with⟨r,us,bs,b0,rfl,hrr,hB,h0,hlen,k⟩
 have hb0:0<bs.length:=(wP.mp h0).1
 refine⟨_,(zj (zD (qJ (zB cRf hr4 (za (pv 0) zd)) (vT (zJ (Vg rfl) (by rfl) T3.nAll (by decide +kernel) (za (qK (NB:=["ball"]) (FR:=["row"]) (js:=[0]) rfl rfl (λ_ _ h=>h) (.cons rfl rfl rfl ⟨_,rfl⟩ .nil) rfl (by decide +kernel) rfl (by decide +kernel) (Qt (pv 0)) (by intro _ _ _;refine⟨?_,?_,?_⟩;(exact(pgl (i:=0) (show List.Nodup (["ball","row"]:List Str) by decide +kernel)));(exact xJ);(exact(qm Zb (xS (vL (K:=K) rfl) (pv 0) zh (λ_ _=>rfl)) (xS (vL (K:=K) rfl) (xS (vL (K:=K) rfl) (pv 1) zh (λ_ _=>rfl)) zh (λ_ _=>rfl)) (zF _))))) zd)))))),?_⟩
 try dsimp only[zU,Cx.nox]
 refine⟨_,rL,r,us,bs,rL,hrr,hB,hb0,hlen,λH2 e2=>⟨true,rL,xw ?_⟩⟩
 unfold tCB qo
 refine zcL (K:=K) rL (e2 _ _ hrr) (hB.same e2) h0 hlen λD3 H3 e3 hD3=>⟨D3,_,rL,SqL.of hD3,?_⟩
 rw[all_map];exact k H3 (e2.trans e3)
theorem zaZ {σ:St}{H:Hp}{Q:VK}{r:Addr}{v1 v2:V}{l1 l2:Wl}(hN:zdz K aN 0 1) (hσ:σ[0]? = some (some (.ref r))) (hr:H r=some (.tup [v1,v2])) (h1:xb H v1 l1) (h2:xb H v2 l2)
  (k:∀D H',zi H H'->H' D=some (.lst ([xq l1,xq l2].map V.bl))->Q (.ref D) H') :
  zcq 1 (zf9 K (xy 0)) (zG 0) (λ_ H Q=>Q true H) (zjp (tOp (λx y H Q=>y = .non/\Q (.bl (decide (x = .non))) H) (xy 0) (tC .non)) (tOp (zgF K) (tOp (vx K) (xy 0) (tC (.int 1))) (tC (.ref aN)))) σ H Q:=by
 refine⟨_,hσ,r,rL,⟨_,SqT.of hr⟩,λD hD=>?_⟩
 refine XR (J:=Itt K r) (g:=zG 0) (tt:=λ_ H Q=>Q true H) (te:=zjp (tOp (λx y H Q=>y = .non/\Q (.bl (decide (x = .non))) H) (xy 0) (tC .non)) (tOp (zgF K) (tOp (vx K) (xy 0) (tC (.int 1))) (tC (.ref aN)))) (Q:=Q) (N:=2) (n:=1)
  (λi H2 ys=>zi H H2/\ys=([xq l1,xq l2].map V.bl).take i) ⟨zi.upd hD,rfl⟩ (λi H2 ys hi ⟨s2,_⟩=>?_) (λH2 ys ⟨s2,_⟩=>?_) ?_ ?_
 ·exact⟨_,[v1,v2][i],.of (s2 _ _ hr),wC hi⟩
 ·exact⟨_,.of (s2 _ _ hr),wg _⟩
 ·rintro i x zs H2 H3 ys Nx hNx hi hzs ⟨rfl,f1⟩ ⟨s2,rfl⟩ hD2
  obtain⟨z1,rfl⟩:=ln1 hzs
  have g1:=f1 _ (.of (s2 _ _ hr))
  obtain⟨l,hl,el⟩:∃l,xb H3 x l/\([xq l1,xq l2].map V.bl)[i]? = some (.bl (xq l)):=by
   match i,hi with
   | 0,_=>simp at g1;subst g1;exact⟨l1,h1.same s2,rfl⟩
   | 1,_=>simp at g1;subst g1;exact⟨l2,h2.same s2,rfl⟩
  dsimp only[zG]
  try rw[if_pos rfl]
  have fin:H3 D=some (.lst (([xq l1,xq l2].map V.bl).take i))/\(([xq l1,xq l2].map V.bl).take i).length<sizeLine/\Nx (upd H3 D (.lst (([xq l1,xq l2].map V.bl).take i++[.bl (xq l)]))) (([xq l1,xq l2].map V.bl).take i++[.bl (xq l)]):=by
   refine⟨hD2,?_,hNx _ _ ⟨JS hD s2 (zi.refl _),?_⟩⟩
   ·rw[yj];exact vz ∅
   ·rw[zcs el]
  cases l with
  | none =>
   obtain rfl:x = .non:=hl
   exact⟨_,rL,rL,true,rL,xw fin⟩
  | some z =>
   obtain⟨px,py⟩:=z
   obtain⟨a,p,q,rfl,ha,hp,hq⟩:=hl
   refine⟨_,rL,rL,false,rL,xc ⟨_,rL,a,_,_,_,rL,rL,.of ha,rL,_,aN,0,1,hq.rd,rL,hN,zdn _,?_⟩⟩
   rw[show PyData.eqv (.tuple [.int py.num,.int (py.den:Int)]) (.tuple [.int 0,.int 1])=xq (some (px,py))from zdW py 0]
   exact fin
 ·rintro H2 ys ⟨s2,rfl⟩ hD2
  exact k D H2 s2 hD2
inductive zjh  (vs:List V) (H:Hp) (Q:VK) (_e3:XK):Prop
 | mk:∀a v1 v2 l1 l2,(vs=[.ref a])->(H a=some (.tup [v1,v2]))->(xb H v1 l1)->(xb H v2 l2)->(∀H',zi H H'->Q (.bl (xq l1&&xq l2)) H')->zjh vs H Q _e3
theorem ze7:zA ["walls"] ["walls"] (zk Xq):=scq
theorem zj4 (D:Df K mg "is_still" Xq ["walls"] []) (T3:Tx3 K mg aN) (cWp:Cal P w K mg base "is_wall_pair" 4 ["thing"] [] zjl):Cal P w K mg base "is_still" 5 ["walls"] [] zjh:=by
 rcases r:D.calq (k:=4) ze7 with⟨a,v1,v2,l1,l2,rfl,ha,h1,h2,k⟩
 have hu:=hr.units
 refine⟨_,(zj (zD (qJ (zB cWp hr (za (pv 0) zd)) (vT (zJ (Vg rfl) (by rfl) T3.nAll (by decide +kernel) (za (vc (NB:=["wall"]) rfl (by decide +kernel) (by decide +kernel) rfl (by decide +kernel) (Qt (pv 0)) (by intro _ _ _;refine⟨?_,?_,?_⟩;(exact(pgl (i:=0) (show List.Nodup (["wall"]:List Str) by decide +kernel)));(exact xJ);(exact(zke (qm qC (pv 0) xf (zF _)) (vT (qm (zgw (K:=K) rfl hu) (xS (vL (K:=K) rfl) (pv 0) zh (λ_ _=>rfl)) (qa (v:=.ref aN) (by rfl) T3.mn rfl) (zF _))))))) zd)))))),?_⟩
 try dsimp only[zU,Cx.nox]
 refine⟨_,rL,a,v1,v2,l1,l2,rL,ha,h1,h2,true,rL,xw ?_⟩
 unfold tCB qo
 refine zaZ (K:=K) T3.kn rL ha h1 h2 λDD H2 e2 hD=>⟨DD,_,rL,SqL.of hD,?_⟩
 rw[show ([xq l1,xq l2].all id)=(xq l1&&xq l2) by simp]
 exact k H2 e2
end KK
namespace L2
open PySem PySem.Spec PyProof.Rows PySem.W
section
variable {X:Cx}
theorem Jt:∀{cs:List Addr}{us:List Value},xa (cs.map V.ref) us->us=cs.map Value.ref
 | [],_,r=>by cases r;rfl
 | c::cs,_,r=>by
  cases r with
  | cons r1 r2=>rw[Jt r2,show _=Value.ref c from r1];rfl
end
theorem zkF {M:Model}{h:Heap}{a:Addr}{o:Obj}{c:Value}(e:h.get? a=some o) (k:o.cls=c):Looks M h (typeOf (.ref a)) c:=by
 subst k;exact(Looks.ld e).andThen .now
theorem Q8 {D:Zf}{σ:St}{H:Hp}(h:D.nx σ H):zhE D σ H:=h
theorem zM {t u:TS}{D:Zf}{σ:St}{H:Hp}(R:St->Hp->Prop) (h2:∀σ' H',R σ' H'->u D σ' H') (h1:∀nx:St->Hp->Prop,(∀σ' H',R σ' H'->nx σ' H')->t { D with nx:=nx } σ H):zbz t u D σ H:=h1 (u D) h2
end L2
namespace KK
open PySem L2 KM
variable {P:Program}{w:World}{K:Fg}{mg:Str->Option Value}{base:Heap}{C CE aN:Addr}
def lv:Option Int->V
 | none=>.non
 | some l=>.int l
def f1:Option Int->Option Int->Int->Int->Int×Int
 | some l,some h,s,v=>(l+(s - l) % (2*(h - l)),v)
 | some l,none,s,v=>if s<l then(2*l - s,-v)else(s,v)
 | none,_,s,v=>(s,v)
def f2:Option Int->Int×Int->Int×Int
 | some h,p=>if h<p.1 then(2*h - p.1,-p.2)else p
 | none,p=>p
def xk (i:Int):Int:=if i<0 then -i else i
def f3:Option Int->Int×Int->Int×Int
 | some l,p=>if p.1=l then(p.1,xk p.2)else p
 | none,p=>p
def f4:Option Int->Int×Int->Int×Int
 | some h,p=>if p.1=h then(p.1,-xk p.2)else p
 | none,p=>p
def zb2 (lo hi:Option Int) (s v:Int):Int×Int:=f4 hi (f3 lo (f2 hi (f1 lo hi s v)))
def wsc (w:Option (Int×Int)) (b:Int):Option Int:=w.map λt=>t.1*b
def Wb (w:Option (Int×Int)):Prop:=∀t,w=some t->Bd 2000 t.1
theorem zbT {H:Hp}{v:V}{w:Option (Int×Int)} (h:Qi H v w):(w=none/\v = .non)\/∃t a,w=some t/\v = .ref a/\H a=some (.tup [.int t.1,.int t.2]):=by
 cases w with
 | none=>exact .inl ⟨rfl,h⟩
 | some t=>obtain⟨a,e,h⟩:=h;exact .inr ⟨t,a,rfl,e,h⟩
theorem Xd.same {H H':Hp}{c:Addr}{pb sb:Int}{tk:Rat}{ws:List Int}{trs:List (Int×Int)}{lo hi:Option (Int×Int)} (h:Xd H C c pb sb tk ws trs lo hi) (e:zi H H'):Xd H' C c pb sb tk ws trs lo hi:=by
 obtain⟨dx,fs,h1,F⟩:=h
 obtain⟨tp,t1,t2⟩:=F.tick
 obtain⟨wl,w1,w2⟩:=F.weights
 obtain⟨tl,tv,r1,r2,r3⟩:=F.tracks
 obtain⟨v,l1,l2⟩:=F.low
 obtain⟨u,g1,g2⟩:=F.high
 exact⟨dx,fs,e _ _ h1,F.pb,F.sb,⟨tp,t1,e _ _ t2⟩,⟨wl,w1,e _ _ w2⟩,⟨tl,tv,r1,e _ _ r2,r3.keeps (.of e)⟩,⟨v,l1,l2.keeps (.of e)⟩,⟨u,g1,g2.keeps (.of e)⟩,F.len⟩
inductive zfd (C:Addr) (vs:List V) (H:Hp) (Q:VK) (_e3:XK):Prop
 | mk:∀c a t pb sb tk ws trs lo hi x v top bot,(vs=[.ref c,.ref a,.ref t])->(Xd H C c pb sb tk ws trs lo hi)->(H a=some (.tup [.int x,.int v]))->(H t=some (.tup [.int top,.int bot]))->(Bd 2000 x)->(Bd 2000 v)->(Bd 2000 top)->(Bd 2000 bot)->(0<bot)->(Wb lo)->(Wb hi)->((∀l h,lo=some l->hi=some h->l.1<h.1))->(∀r H',zi H H'->H' r=some (.tup [.int (zb2 (wsc lo bot) (wsc hi bot) (x*bot+v*top) v).1,.int (zb2 (wsc lo bot) (wsc hi bot) (x*bot+v*top) v).2])->Q (.ref r) H')->zfd C vs H Q _e3
theorem vq:zA ["course","track","ticks","top","bottom","spot","speed","low","high"] ["course","track","ticks"] (zk QD):=scq
theorem b2k {i:Int}(h:Bd 2000 i):Bd 1000000 i:=h.md
theorem b2i:Bd 1000000 (2:Int):=Bd.mono (m:=2) (show (2:Int).natAbs<2^2 by decide) (by decide)
theorem zil (D:Df K mg "line_at" QD ["course","track","ticks"] []) (T:TxB K mg) (TC:TCo K C):Cal P w K mg base "line_at" 1 ["course","track","ticks"] [] (zfd C):=by
 rcases r:D.calq (k:=0) vq with⟨c,a,t,pb,sb,tk,ws,trs,lo,hi,x,v,top,bot,rfl,hco,ha,ht,bx,bv,btp,bbt,pbt,wl,wh,hlh,k⟩
 obtain⟨dx,fs,hc,F⟩:=id hco
 obtain⟨vl,el,tl⟩:=F.low
 obtain⟨vh,eh,th⟩:=F.high
 refine⟨_,(ze (Zk (pv 2) (qY rL (zP (pgl (i:=3) vq.nd) (zP (pgl (i:=4) vq.nd) xI))))
  (ze (psl (i:=5) vq.nd (zr xg (zr zK (pxt (pv 1)) (pv 4)) (zr zK (pxt (pv 1)) (pv 3))))
  (ze (psl (i:=6) vq.nd (pxt (pv 1)))
  (ze (psl (i:=7) vq.nd (Qa (zE qC (xz (pv 0) rfl) xf (zF _)) xf (zr zK (pxt (xz (pv 0) rfl)) (pv 4))))
  (ze (psl (i:=8) vq.nd (Qa (zE qC (xz (pv 0) rfl) xf (zF _)) xf (zr zK (pxt (xz (pv 0) rfl)) (pv 4))))
  (ze (zX ((vV (zE vO (pv 7) xf (zF _)) (vd (zE vO (pv 8) xf (zF _))))).pt (zj (psl (i:=5) vq.nd (zr xg (pv 7) (zr qX (zr x6 (pv 5) (pv 7)) (zr zK zh (zr x6 (pv 8) (pv 7))))))) (zj (zX ((vV (zE vO (pv 7) xf (zF _)) (vd (zE vN (pv 5) (pv 7) (zF _))))).pt (zj (Xn (i:=5) (j:=6) rfl vq.nd rfl rfl (by decide) rfl rfl (za (zr x6 (zr zK zh (pv 7)) (pv 5)) (za (qL qc (pv 6)) zd)) (by rfl))) zN)))
  (ze (zX ((vV (zE vO (pv 8) xf (zF _)) (vd (zE Zt (pv 5) (pv 8) (zF _))))).pt (zj (Xn (i:=5) (j:=6) rfl vq.nd rfl rfl (by decide) rfl rfl (za (zr x6 (zr zK zh (pv 8)) (pv 5)) (za (qL qc (pv 6)) zd)) (by rfl))) zN)
  (ze (zX ((vV (zE vO (pv 7) xf (zF _)) (vd (zE Zb (pv 5) (pv 7) (zF _))))).pt (zj (psl (i:=6) vq.nd (zJ qH (by rfl) T.nAbs yK (za (pv 6) zd)))) zN)
  (ze (zX ((vV (zE vO (pv 8) xf (zF _)) (vd (zE Zb (pv 5) (pv 8) (zF _))))).pt (zj (psl (i:=6) vq.nd (qL qc (zJ qH (by rfl) T.nAbs yK (za (pv 6) zd))))) zN)
  (zj (zD (zH (za (pv 5) (za (pv 6) zd)))))))))))))),?_⟩
 try dsimp only[zU,Cx.nox]
 refine⟨_,rL,t,_,rL,.of ht,rL,_,_,rL,_,_,rL,rL,?_⟩
 dsimp only[zG]
 refine⟨_,rL,a,_,_,_,rL,rL,.of ha,at0 ..,_,rL,_,_,rL,rL,⟨b2k bx,b2k bbt⟩,_,rL,a,_,_,_,rL,rL,.of ha,at1 ..,_,rL,_,_,rL,rL,⟨b2k bv,b2k btp⟩,_,_,rL,rL,?_⟩
 dsimp only[zG]
 refine⟨_,rL,a,_,_,_,rL,rL,.of ha,at1 ..,?_⟩
 dsimp only[zG]
 have bs0:Bd 4001 (x*bot+v*top):=((bx.mul bbt).add (bv.mul btp)).md
 generalize x*bot+v*top=s0 at *
 refine zM (λσ' G=>H=G/\σ'=[Sr c,Sr a,Sr t,Si top,Si bot,Si s0,Si v,some (lv (wsc lo bot)),none]) ?_ ?_
 rotate_left
 ·intro nx hnx
  rcases zbT tl with⟨rfl,rfl⟩ | ⟨l,al,rfl,rfl,hal⟩
  ·exact⟨_,rL,c,C,dx,fs,_,rL,hc,TC.cls,TC.low,el,rL,_,rL,xw (hnx _ _ ⟨rL,rL⟩)⟩
  ·exact⟨_,rL,c,C,dx,fs,_,rL,hc,TC.cls,TC.low,el,rL,_,rL,xc ⟨_,rL,c,C,dx,fs,_,rL,hc,TC.cls,TC.low,el,al,_,_,_,rL,rL,.of hal,at0 ..,_,rL,_,_,rL,rL,⟨b2k (wl _ rL),b2k bbt⟩,hnx _ _ ⟨rL,rL⟩⟩⟩
 rintro σ1 G ⟨rfl,rfl⟩
 refine zM (λσ' G=>H=G/\σ'=[Sr c,Sr a,Sr t,Si top,Si bot,Si s0,Si v,some (lv (wsc lo bot)),some (lv (wsc hi bot))]) ?_ ?_
 rotate_left
 ·intro nx hnx
  rcases zbT th with⟨rfl,rfl⟩ | ⟨l,al,rfl,rfl,hal⟩
  ·exact⟨_,rL,c,C,dx,fs,_,rL,hc,TC.cls,TC.high,eh,rL,_,rL,xw (hnx _ _ ⟨rL,rL⟩)⟩
  ·exact⟨_,rL,c,C,dx,fs,_,rL,hc,TC.cls,TC.high,eh,rL,_,rL,xc ⟨_,rL,c,C,dx,fs,_,rL,hc,TC.cls,TC.high,eh,al,_,_,_,rL,rL,.of hal,at0 ..,_,rL,_,_,rL,rL,⟨b2k (wh _ rL),b2k bbt⟩,hnx _ _ ⟨rL,rL⟩⟩⟩
 rintro σ1 G ⟨rfl,rfl⟩
 have bL:∀l,wsc lo bot=some l->Bd 4000 l:=λl e=>by
  cases lo with
  | none=>cases e
  | some z=>cases e;exact(wl _ rfl).mul bbt
 have bH:∀l,wsc hi bot=some l->Bd 4000 l:=λl e=>by
  cases hi with
  | none=>cases e
  | some z=>cases e;exact(wh _ rfl).mul bbt
 have hLH:∀l h,wsc lo bot=some l->wsc hi bot=some h->l<h:=λl h e1 e2=>by
  cases lo with
  | none=>cases e1
  | some z =>
   cases hi with
   | none=>cases e2
   | some y=>cases e1;cases e2;exact uj (hlh _ _ rfl rfl) pbt
 generalize wsc lo bot=L at *
 generalize wsc hi bot=R at *
 have b4:∀{i:Int},Bd 4000 i->Bd 1000000 i:=λh=>h.md
 refine zM (λσ' G=>H=G/\σ'=[Sr c,Sr a,Sr t,Si top,Si bot,some (.int (f1 L R s0 v).1),some (.int (f1 L R s0 v).2),some (lv L),some (lv R)]) ?_ ?_
 rotate_left
 ·intro nx hnx
  cases L with
  | none=>exact⟨_,rfl,rfl,_,rfl,xc (xc ⟨_,rfl,rfl,_,rfl,xc (xc (hnx _ _ ⟨rfl,rfl⟩))⟩)⟩
  | some l =>
   cases R with
   | none =>
    refine⟨_,rL,rL,_,rL,xw ⟨_,rL,rL,_,rL,xc ?_⟩⟩
    refine⟨_,rL,rL,_,rL,xw ⟨_,rL,_,rL,_,_,rL,rL,_,rL,qT (λh=>?_) (λh=>?_)⟩⟩
    ·have h':s0<l:=wG h
     refine⟨_,rL,_,_,rL,rL,⟨b2i,b4 (bL _ rL)⟩,_,rL,_,_,rL,rL,_,rL,_,rL,_,_,rL,hnx _ _ ⟨rL,?_⟩⟩
     simp only[f1,if_pos h'] <;> rfl
    ·have h':¬s0<l:=λz=>h (wm z)
     refine hnx _ _ ⟨rL,?_⟩
     simp only[f1,if_neg h'] <;> rfl
   | some h =>
    have hp:0<2*(h - l):=by have:=hLH _ _ rfl rfl;lia
    exact⟨_,rL,rL,_,rL,xw ⟨_,rL,rL,_,rL,xw ⟨_,rL,_,rL,_,rL,_,_,rL,rL,_,rL,_,rL,_,_,rL,rL,_,_,rL,rL,⟨b2i,((bH _ rL).sub (bL _ rL)).md⟩,_,_,rL,rL,hp,_,_,rL,rL,hnx _ _ ⟨rL,rL⟩⟩⟩⟩
 rintro σ1 G ⟨rfl,rfl⟩
 generalize hp1:f1 L R s0 v=p1 at *
 obtain⟨s1,v1⟩:=p1
 refine zM (λσ' G=>H=G/\σ'=[Sr c,Sr a,Sr t,Si top,Si bot,some (.int (f2 R (s1,v1)).1),some (.int (f2 R (s1,v1)).2),some (lv L),some (lv R)]) ?_ ?_
 rotate_left
 ·intro nx hnx
  cases R with
  | none=>exact⟨_,rfl,rfl,_,rfl,xc (xc (hnx _ _ ⟨rfl,rfl⟩))⟩
  | some h =>
   refine⟨_,rL,rL,_,rL,xw ⟨_,rL,_,rL,_,_,rL,rL,_,rL,qT (λz=>?_) (λz=>?_)⟩⟩
   ·have h':h<s1:=wG z
    refine⟨_,rL,_,_,rL,rL,⟨b2i,b4 (bH _ rL)⟩,_,rL,_,_,rL,rL,_,rL,_,rL,_,_,rL,hnx _ _ ⟨rL,?_⟩⟩
    simp only[f2,if_pos h'] <;> rfl
   ·have h':¬h<s1:=λy=>z (wm y)
    refine hnx _ _ ⟨rL,?_⟩
    simp only[f2,if_neg h'] <;> rfl
 rintro σ1 G ⟨rfl,rfl⟩
 generalize hp2:f2 R (s1,v1)=p2 at *
 obtain⟨s2,v2⟩:=p2
 refine zM (λσ' G=>H=G/\σ'=[Sr c,Sr a,Sr t,Si top,Si bot,some (.int (f3 L (s2,v2)).1),some (.int (f3 L (s2,v2)).2),some (lv L),some (lv R)]) ?_ ?_
 rotate_left
 ·intro nx hnx
  cases L with
  | none=>exact⟨_,rfl,rfl,_,rfl,xc (xc (hnx _ _ ⟨rfl,rfl⟩))⟩
  | some l =>
   refine⟨_,rL,rL,_,rL,xw ⟨_,rL,_,rL,rL,_,rL,qT (λz=>?_) (λz=>?_)⟩⟩
   ·have h':s2=l:=by have:=wG z;injection this
    refine⟨_,rL,_,rL,hnx _ _ ⟨rL,?_⟩⟩
    simp only[f3,if_pos h'] <;> rfl
   ·have h':¬s2=l:=λy=>z (wm (p:=V.int s2=V.int l) (by rw[y]))
    refine hnx _ _ ⟨rL,?_⟩
    simp only[f3,if_neg h'] <;> rfl
 rintro σ1 G ⟨rfl,rfl⟩
 generalize hp3:f3 L (s2,v2)=p3 at *
 obtain⟨s3,v3⟩:=p3
 refine zM (λσ' G=>H=G/\σ'=[Sr c,Sr a,Sr t,Si top,Si bot,some (.int (f4 R (s3,v3)).1),some (.int (f4 R (s3,v3)).2),some (lv L),some (lv R)]) ?_ ?_
 rotate_left
 ·intro nx hnx
  cases R with
  | none=>exact⟨_,rfl,rfl,_,rfl,xc (xc (hnx _ _ ⟨rfl,rfl⟩))⟩
  | some l =>
   refine⟨_,rL,rL,_,rL,xw ⟨_,rL,_,rL,rL,_,rL,qT (λz=>?_) (λz=>?_)⟩⟩
   ·have h':s3=l:=by have:=wG z;injection this
    refine⟨_,rL,_,rL,_,rL,hnx _ _ ⟨rL,?_⟩⟩
    simp only[f4,if_pos h'] <;> rfl
   ·have h':¬s3=l:=λy=>z (wm (p:=V.int s3=V.int l) (by rw[y]))
    refine hnx _ _ ⟨rL,?_⟩
    simp only[f4,if_neg h'] <;> rfl
 rintro σ1 G ⟨rfl,rfl⟩
 refine⟨_,rL,_,rL,zL2,λr hr=>k r _ (zi.upd hr) ?_⟩
 unfold zb2
 rw[hp1,hp2,hp3]
 exact zg
abbrev zcB (x:Str) (C:Addr) (mg:Str->Option Value) (h:Heap):Prop:=PyProof.Rows.OwnCls x C zdy "ValueError.__new__" mg h
def VG (lo hi:Option (Int×Int)):Option Int:=match lo,hi with
 | some l,some h=>some (2*(h.1 - l.1))
 | _,_=>none
inductive QL (C:Addr) (vs:List V) (H:Hp) (Q:VK) (_e3:XK):Prop
 | mk:∀c pb sb tk ws trs lo hi,(vs=[.ref c])->(Xd H C c pb sb tk ws trs lo hi)->(Wb lo)->(Wb hi)->(Q (lv (VG lo hi)) H)->QL C vs H Q _e3
theorem zgV:zA ["course"] ["course"] (zk QF):=scq
theorem zgs (D:Df K mg "trip_of" QF ["course"] []) (TC:TCo K C):Cal P w K mg base "trip_of" 1 ["course"] [] (QL C):=by
 rcases r:D.calq (k:=0) zgV with⟨c,pb,sb,tk,ws,trs,lo,hi,rfl,hco,wl,wh,k⟩
 obtain⟨dx,fs,hc,F⟩:=id hco
 obtain⟨vl,el,tl⟩:=F.low
 obtain⟨vh,eh,th⟩:=F.high
 refine⟨_,(ze (zX ((Xh (zE qC (xz (pv 0) rL) xf (zF _)) (ZK (zE qC (xz (pv 0) rL) xf (zF _))))).pt (zj (zD xf)) zN)
  (zj (zD (zr zK zh (zr x6 (pxt (xz (pv 0) rfl)) (pxt (xz (pv 0) rfl))))))),?_⟩
 try dsimp only[zU,Cx.nox]
 rcases zbT tl with⟨rfl,rfl⟩ | ⟨l,al,rfl,rfl,hal⟩
 ·exact⟨_,rL,c,C,dx,fs,_,rL,hc,TC.cls,TC.low,el,rL,_,rL,xw (xw k)⟩
 ·refine⟨_,rL,c,C,dx,fs,_,rL,hc,TC.cls,TC.low,el,rL,_,rL,xc ?_⟩
  rcases zbT th with⟨rfl,rfl⟩ | ⟨h,ah,rfl,rfl,hah⟩
  ·exact⟨_,rL,c,C,dx,fs,_,rL,hc,TC.cls,TC.high,eh,rL,_,rL,xw k⟩
  ·refine⟨_,rL,c,C,dx,fs,_,rL,hc,TC.cls,TC.high,eh,rL,_,rL,xc ?_⟩
   exact⟨_,rL,c,C,dx,fs,_,rL,hc,TC.cls,TC.high,eh,ah,_,_,_,rL,rL,.of hah,at0 ..,_,rL,c,C,dx,fs,_,rL,hc,TC.cls,TC.low,el,al,_,_,_,rL,rL,.of hal,at0 ..,_,_,rL,rL,_,_,rL,rL,⟨b2i,((wh _ rL).sub (wl _ rL)).md⟩,k⟩
def zav (s g:Int) (tr:Option Int) (top bot:Int):Int:=match tr with
 | none=>if 0<g/\0<=s*top - g*bot then 1 else 0
 | some t=>(s*top - g*bot).fdiv (t*bot) - (-g).fdiv t
def VO (s g:Int) (tr:Option Int) (top bot:Int):Int:=if s<0 then zav (-s) (-g) tr top bot else zav s g tr top bot
inductive zfj  (vs:List V) (H:Hp) (Q:VK) (_e3:XK):Prop
 | mk:∀s g tr t top bot,(vs=[.int s,.int g,lv tr,.ref t])->(H t=some (.tup [.int top,.int bot]))->(Bd 3000 s)->(Bd 3000 g)->((∀x,tr=some x->0<x/\Bd 3000 x))->(Bd 2000 top)->(Bd 2000 bot)->(0<bot)->(Q (.int (VO s g tr top bot)) H)->zfj vs H Q _e3
theorem Vw:zA ["speed","gap","trip","ticks","top","bottom","beyond"] ["speed","gap","trip","ticks"] (zk Vu):=scq
theorem ziD (D:Df K mg "passes" Vu ["speed","gap","trip","ticks"] []):Cal P w K mg base "passes" 1 ["speed","gap","trip","ticks"] [] zfj:=by
 rcases r:D.calq (k:=0) Vw with⟨s0,g0,tr,t,top,bot,rfl,ht,bs0,bg0,btr,btp,bbt,pbt,k⟩
 refine⟨_,(ze (zX (zE vN (pv 0) zh (zF _)) (zj (Xn (i:=0) (j:=1) rfl Vw.nd rfl rfl (by decide) rfl rfl (za (qL qc (pv 0)) (za (qL qc (pv 1)) zd)) (by rfl))) zN)
  (ze (Zk (pv 3) (qY rfl (zP (pgl (i:=4) Vw.nd) (zP (pgl (i:=5) Vw.nd) xI))))
  (ze (psl (i:=6) Vw.nd (zr x6 (zr zK (pv 0) (pv 4)) (zr zK (pv 1) (pv 5))))
  (ze (zX (zE qC (pv 2) xf (zF _)) (zj (zD (Qa ((vV (zE Zt (pv 1) zh (zF _)) (vd (zE zkc (pv 6) zh (zF _))))).pt zh zh))) zN)
  (zj (zD (zr x6 (zr xC (pv 6) (zr zK (pv 2) (pv 5))) (zr xC (qL qc (pv 1)) (pv 2))))))))),?_⟩
 try dsimp only[zU,Cx.nox]
 refine zM (λσ' G=>H=G/\∃s g,σ'=[Si s,Si g,some (lv tr),Sr t,none,none,none]/\Bd 3000 s/\Bd 3000 g/\zav s g tr top bot=VO s0 g0 tr top bot) ?_ ?_
 rotate_left
 ·intro nx hnx
  refine⟨_,rL,_,_,rL,rL,_,rL,qT (λz=>?_) (λz=>?_)⟩
  ·have h':s0<0:=wG z
   refine⟨_,rL,_,rL,_,rL,_,rL,_,_,rL,hnx _ _ ⟨rL,_,_,rL,bs0.neg,bg0.neg,?_⟩⟩
   unfold VO;rw[if_pos h']
  ·have h':¬s0<0:=λy=>z (wm y)
   refine hnx _ _ ⟨rL,_,_,rL,bs0,bg0,?_⟩
   unfold VO;rw[if_neg h']
 rintro σ1 G hQq;rcases q:hQq with⟨rfl,s,g,rfl,bs,bg,e⟩
 rw[<-e]at k
 refine⟨_,rL,t,_,rL,.of ht,rL,_,_,rL,_,_,rL,rL,?_⟩
 dsimp only[zG]
 have b3:∀{i:Int},Bd 3000 i->Bd 1000000 i:=λh=>h.md
 refine⟨_,rL,_,rL,_,_,rL,rL,⟨b3 bs,b2k btp⟩,_,rL,_,rL,_,_,rL,rL,⟨b3 bg,b2k bbt⟩,_,_,rL,rL,?_⟩
 dsimp only[zG]
 cases tr with
 | none =>
  refine⟨_,rL,rL,_,rL,xw ?_⟩
  refine⟨_,rL,_,_,rL,rL,_,rL,qT (λz=>?_) (λz=>?_)⟩
  ·have h1:0<g:=wG z
   refine⟨_,rL,_,_,rL,rL,_,rL,qT (λz=>?_) (λz=>?_)⟩
   ·have h2:0<=s*top - g*bot:=wG z
    have:zav s g none top bot=1:=if_pos ⟨h1,h2⟩
    rw[this]at k;exact k
   ·have h2:¬ 0<=s*top - g*bot:=λy=>z (wm y)
    have:zav s g none top bot=0:=if_neg λy=>h2 y.2
    rw[this]at k;exact k
  ·have h1:¬ 0<g:=λy=>z (wm y)
   have:zav s g none top bot=0:=if_neg λy=>h1 y.1
   rw[this]at k;exact xc k
 | some x =>
  obtain⟨px,bx⟩:=btr x rfl
  refine⟨_,rL,rL,_,rL,xc ?_⟩
  refine⟨_,rL,_,rL,_,rL,_,_,rL,rL,⟨b3 bx,b2k bbt⟩,_,_,rL,rL,⟨yM (wW px pbt),(bx.mul bbt).md⟩,?_⟩
  exact⟨_,rL,_,rL,_,rL,_,_,rL,rL,⟨yM px,bx.md⟩,_,_,rL,rL,k⟩
end KK
namespace L2
open PySem
theorem zgz {X:Cx}{K:Fg}{e:Expr}{ta:TE}{f:Str}{pos:Pos}(hK:X.K=K) (he:PE X e ta) (hb:attributeBase e f X.env (eval e X.env)=eval e X.env):PE X (.Attribute e f pos) (zkA K ta f):=by
 subst hK;exact xz he hb
theorem Qk {a b:Str}{m n:Addr}{cs:List (Str×Addr)} (h1:cs.lookup a=some m) (h2:cs.lookup b=some n) (x:Str) (c:Addr) (e:List.lookup x [(a,m),(b,n)]=some c):cs.lookup x=some c:=by
 simp only[List.lookup]at e
 cases q1:(x == a)with
 | true=>rw[q1]at e;cases e;rw[eq_of_beq q1];exact h1
 | false =>
  rw[q1]at e
  cases q2:(x == b)with
  | true=>rw[q2]at e;cases e;rw[eq_of_beq q2];exact h2
  | false=>rw[q2]at e;cases e
end L2
namespace KK
open PySem L2 KM
variable {P:Program}{w:World}{K:Fg}{mg:Str->Option Value}{base:Heap}{C CE aN:Addr}
theorem zhb {lo hi:Option (Int×Int)} (wl:Wb lo) (wh:Wb hi) (h:∀l r,lo=some l->hi=some r->l.1<r.1):∀x,VG lo hi=some x->0<x/\Bd 3000 x:=λx e=>by
 cases lo with
 | none=>cases e
 | some l =>
  cases hi with
  | none=>cases e
  | some r =>
   cases e
   have:=h _ _ rfl rfl
   exact⟨by lia,((show Bd 2 (2:Int) by show (2:Int).natAbs<2^2;decide).mul ((wh _ rfl).sub (wl _ rfl))).md⟩
inductive zji (C:Addr) (vs:List V) (H:Hp) (Q:VK) (_e3:XK):Prop
 | mk:∀c m pb sb tk ws trs lo hi x,(vs=[.ref c,.ref m])->(Xd H C c pb sb tk ws trs lo hi)->(zp H m x)->(Sz2 x tk)->(tk≠0)->(∀r H',zi H H'->zp H' r (x/tk)->Q (.ref r) H')->zji C vs H Q _e3
theorem zi4:zA ["course","moment"] ["course","moment"] (zk XE):=scq
theorem zj5 (D:Df K mg "ticks_of" XE ["course","moment"] []) (TC:TCo K C) (cO:Cal P w K mg base "over" 3 ["one","other"] [] (qx (λx y=>Sz2 x y/\y≠0) (· / ·))):Cal P w K mg base "ticks_of" 4 ["course","moment"] [] (zji C):=by
 rcases r:D.calq (k:=3) zi4 with⟨c,m,pb,sb,tk,ws,trs,lo,hi,x,rfl,hco,hm,hz,h0,k⟩
 obtain⟨dx,fs,hc,F⟩:=id hco
 obtain⟨tp,et,ht⟩:=F.tick
 refine⟨_,(zj (zD (zB cO hr (za (pv 1) (za (xz (pv 0) rL) zd))))),?_⟩
 try dsimp only[zU,Cx.nox]
 exact⟨_,rL,_,rL,c,C,dx,fs,_,rL,hc,TC.cls,TC.tick,et,m,tp,x,tk,rL,hm,ht,⟨hz,h0⟩,k⟩
structure Pl (H:Hp) (r a:Addr) (bs:List vB) (b0:vB) (l1 l2:Wl):Prop where
 row:∃us,H r=some (.tup us)/\xx H us bs
 b0:bs[0]? = some b0
 len:bs.length<=8
 walls:∃v1 v2,H a=some (.tup [v1,v2])/\xb H v1 l1/\xb H v2 l2
def plB (b0:vB) (bs:List vB) (l1 l2:Wl):Bool:=evB b0 bs&&(xq l1&&xq l2)
inductive zg4  (vs:List V) (H:Hp) (Q:VK) (_e3:XK):Prop
 | mk:∀r a bs b0 l1 l2,(vs=[.ref r,.ref a])->(Pl H r a bs b0 l1 l2)->(∀H',zi H H'->Q (.bl (plB b0 bs l1 l2)) H')->zg4 vs H Q _e3
theorem ze4:zA ["row","walls"] ["row","walls"] (zk Xo):=scq
theorem zj1 (D:Df K mg "is_plain" Xo ["row","walls"] []) (cEv:Cal P w K mg base "is_even" 5 ["row"] [] zi9) (cSt:Cal P w K mg base "is_still" 5 ["walls"] [] zjh):Cal P w K mg base "is_plain" 6 ["row","walls"] [] zg4:=by
 rcases r:D.calq (k:=5) ze4 with⟨r,a,bs,b0,l1,l2,rfl,pl,k⟩
 obtain⟨us,hrr,hB⟩:=pl.row
 rcases q:pl.walls with⟨v1,v2,ha,h1,h2⟩
 refine⟨_,(zj (zD (qJ (zB cEv hr (za (pv 0) zd)) (vT (zB cSt hr (za (pv 1) zd)))))),?_⟩
 try dsimp only[zU,Cx.nox]
 refine⟨_,rL,r,us,bs,b0,rL,hrr,hB,pl.b0,pl.len,λH1 e1=>⟨_,rL,?_⟩⟩
 cases e:evB b0 bs with
 | false =>
  refine xc ?_
  have:=k H1 e1
  unfold plB at this;rw[e]at this;exact this
 | true =>
  refine xw ⟨_,rL,a,v1,v2,l1,l2,rL,e1 _ _ ha,h1.same e1,h2.same e1,λH2 e2=>?_⟩
  have:=k H2 (e1.trans e2)
  unfold plB at this;rw[e]at this;exact this
inductive zg5  (vs:List V) (H:Hp) (Q:VK) (_e3:XK):Prop
 | mk:∀r a bs b0 l1 l2,(vs=[.ref r,.ref a])->(Pl H r a bs b0 l1 l2)->(plB b0 bs l1 l2=true)->(∀H',zi H H'->Q .non H')->zg5 vs H Q _e3
inductive zfn (C:Addr) (vs:List V) (H:Hp) (_e2:VK) (E:XK):Prop
 | mk:∀r a bs b0 l1 l2,(vs=[.ref r,.ref a])->(Pl H r a bs b0 l1 l2)->(plB b0 bs l1 l2=false)->(∀H',zi H H'->E (.ref C) none H')->zfn C vs H _e2 E
theorem zhz:zA ["row","walls"] ["row","walls"] (zk qh):=scq
theorem zj3 (D:Df K mg "refuse_uneven" qh ["row","walls"] []) (cPl:Cal P w K mg base "is_plain" 6 ["row","walls"] [] zg4):Cal P w K mg base "refuse_uneven" 7 ["row","walls"] [] zg5:=by
 rcases r:D.calq (k:=6) zhz with⟨r,a,bs,b0,l1,l2,rfl,pl,hp,k⟩
 refine⟨_,(zj (zX (vn (xD (zB cPl hr (za (pv 0) (za (pv 1) zd))) λ_=>rL)) qt zN)),?_⟩
 try dsimp only[zU,Cx.nox]
 refine⟨_,rL,_,rL,r,a,bs,b0,l1,l2,rL,pl,λH1 e1=>⟨_,rL,?_⟩⟩
 rw[hp]
 exact xc (k H1 e1)
theorem ziH (D:Df K mg "refuse_uneven" qh ["row","walls"] []) (O:zcB "NotEven" CE mg base) (cPl:Cal P w K mg base "is_plain" 6 ["row","walls"] [] zg4):vm P w K mg base "refuse_uneven" 7 ["row","walls"] [] (zfn CE):=by
 rcases r:D.cal1q (k:=6) zhz with⟨r,a,bs,b0,l1,l2,rfl,pl,hp,k⟩
 refine⟨_,(zj (zX (vn (xD (zB cPl hr (za (pv 0) (za (pv 1) zd))) λ_=>rfl)) (zj (ZJ O yp (by decide +kernel) yp hr.hd qG (za xG zd))) zN)),?_⟩
 try dsimp only[zU,Cx.nox]
 refine⟨_,rL,_,rL,r,a,bs,b0,l1,l2,rL,pl,λH1 e1=>⟨_,rL,?_⟩⟩
 rw[hp]
 exact xw ⟨zL1,k H1 e1⟩
inductive zg3  (vs:List V) (H:Hp) (Q:VK) (_e3:XK):Prop
 | mk:∀m k:Int,(vs=[.int m,.int k])->(0<=k)->(k<m)->(Q .non H)->zg3 vs H Q _e3
inductive zfh (C:Addr) (vs:List V) (H:Hp) (_e2:VK) (E:XK):Prop
 | mk:∀m k:Int,(vs=[.int m,.int k])->(¬(0<=k/\k<m))->(E (.ref C) none H)->zfh C vs H _e2 E
theorem zhy:zA ["many","k"] ["many","k"] (zk xX):=scq
theorem zjZ (D:Df K mg "refuse_no_ball" xX ["many","k"] []):Cal P w K mg base "refuse_no_ball" 1 ["many","k"] [] zg3:=by
 rcases r:D.calq (k:=0) zhy with⟨m,k,rfl,h0,h1,q⟩
 refine⟨_,(zj (zX (vn (zaz zeB vN zh (pv 1) (pv 0))) qt zN)),?_⟩
 try dsimp only[zU,Cx.nox]
 refine⟨_,rL,_,_,rL,rL,_,rL,?_⟩
 rw[wm h0]
 refine xw ⟨_,rL,_,_,rL,rL,_,rL,?_⟩
 rw[wm h1]
 exact xc q
theorem ziB (D:Df K mg "refuse_no_ball" xX ["many","k"] []) (O:zcB "NoBall" CE mg base):vm P w K mg base "refuse_no_ball" 1 ["many","k"] [] (zfh CE):=by
 rcases r:D.cal1q (k:=0) zhy with⟨m,k,rfl,hn,q⟩
 refine⟨_,(zj (zX (vn (zaz zeB vN zh (pv 1) (pv 0))) (zj (ZJ O yp (by decide +kernel) yp hr.hd qG (za xG zd))) zN)),?_⟩
 try dsimp only[zU,Cx.nox]
 refine⟨_,rL,_,_,rL,rL,_,rL,?_⟩
 by_cases h0:(0:Int)<=k
 ·rw[wm h0]
  refine xw ⟨_,rL,_,_,rL,rL,_,rL,?_⟩
  rw[wA λz=>hn ⟨h0,z⟩]
  exact xw ⟨zL1,q⟩
 ·rw[wA h0]
  exact xc ⟨_,rL,xw ⟨zL1,q⟩⟩
def tb (b:Bl):vB:=⟨b.pl,b.sp,b.wt⟩
def Sm (x:Rat):Prop:=Bd 200 x.num/\Bd 20 (x.den:Int)
theorem Sm.sz {x:Rat}(h:Sm x):Sz 400 x:=⟨h.1.md,h.2.md⟩
structure Ln (H:Hp) (r a:Addr) (bs:List Bl) (lo hi:Wl):Prop where
 row:∃us,H r=some (.tup us)/\qe H us bs
 walls:∃v1 v2,H a=some (.tup [v1,v2])/\xb H v1 lo/\xb H v2 hi
 l1:1<=bs.length
 l8:bs.length<=8
theorem Ln.same {H H':Hp}{r a:Addr}{bs:List Bl}{lo hi:Wl}(h:Ln H r a bs lo hi) (e:zi H H'):Ln H' r a bs lo hi:=by
 obtain⟨us,h1,h2⟩:=h.row
 obtain⟨v1,v2,g1,g2,g3⟩:=h.walls
 exact⟨⟨us,e _ _ h1,h2.keeps (.of e)⟩,⟨v1,v2,e _ _ g1,g2.same e,g3.same e⟩,h.l1,h.l8⟩
structure LnZ (bs:List Bl) (lo hi:Wl):Prop where
 sz:∀t∈ths bs lo hi,Sm t.1/\Sm t.2
 lh:∀l h,lo=some l->hi=some h->l.1<h.1
theorem qe.balls {H:Hp}:∀{us:List V}{bs:List Bl},qe H us bs->xx H us (bs.map tb)
 | [],[],_=>.nil
 | [],_::_,h=>by have:=h.1;simp at this
 | _::_,[],h=>by have:=h.1;simp at this
 | u::us,b::bs,h=>by
  obtain⟨c,e,a,p,q,rfl,h1,h2,h3⟩:=h.2 0 u rfl
  simp at e;subst e
  exact .cons (b:=tb b) h1 h2 h3 (qe.balls ⟨by have:=h.1;simpa using this,λi v e=>by simpa using h.2 (i+1) v (by simpa using e)⟩)
theorem xb.wl {H:Hp}{v:V}{l:Wl}(h:xb H v l):VL H v l:=by
 cases l with
 | none=>exact h
 | some z=>obtain⟨x,y⟩:=z;obtain⟨a,p,q,e1,e2,e3,e4⟩:=h;exact⟨a,e1,p,q,[],e2,e3,e4⟩
theorem Ln.pl {H:Hp}{r a:Addr}{bs:List Bl}{lo hi:Wl}(h:Ln H r a bs lo hi):∃b0,bs[0]? = some b0/\Pl H r a (bs.map tb) (tb b0) lo hi:=by
 obtain⟨us,h1,h2⟩:=h.row
 have l1:=h.l1
 refine⟨bs[0],wC l1,⟨us,h1,h2.balls⟩,by rw[wo,wC l1];rfl,by rw[we];exact h.l8,h.walls⟩
theorem zjL {qs:List Rat}(h:∀q∈qs,Bd 20 (q.den:Int)) (hl:qs.length<=20):0<QQ qs/\Bd 401 (QQ qs)/\∀q∈qs,(q.den:Int) ∣ QQ qs:=by
 obtain⟨a1,a2,_,a4⟩:=Vm (n:=20) (ks:=qs.map λq=>(q.den:Int)) (c:=1) (m:=1) (by decide) (show (1:Int).natAbs<2^1 by decide) (λk hk=>by
  obtain⟨q,hq,rfl⟩:=wn.mp hk
  exact⟨by have:=q.den_pos;lia,h q hq⟩)
 exact⟨a1,a2.mono (by rw[we];lia),λq hq=>a4 _ (wn.mpr ⟨q,hq,rfl⟩)⟩
theorem Jz {x:Rat}{b:Int}(hx:Bd 200 x.num) (hb:0<b) (h:Bd 401 b):Bd 2000 (byB x b):=by
 have d1:0<(x.den:Int):=by have:=x.den_pos;lia
 unfold byB
 have z:Bd 401 (b.fdiv (x.den:Int)):=by
  rw[wq _ ∅]
  exact h.of_le (by have:=Ye (x.den:Int) (a:=b) ∅;have:=WN (a:=b) (b:=(x.den:Int)) ∅ ∅;lia)
 exact(hx.mul z).md
theorem JA {x y:Rat}{b:Int}(hb:0<b) (hx:(x.den:Int) ∣ b) (hy:(y.den:Int) ∣ b) (h:x<y):byB x b<byB y b:=by
 have d1:=den_pos x
 have d2:=den_pos y
 obtain⟨k,ek⟩:=hx
 obtain⟨m,em⟩:=hy
 have f1:b.fdiv (x.den:Int)=k:=by rw[wq _ ∅,ek];exact wY _ ∅
 have f2:b.fdiv (y.den:Int)=m:=by rw[wq _ ∅,em];exact wY _ ∅
 have k0:0<k:=by
  rcases yQ 0 k with h | h
  ·exact h
  ·have:=uh (a:=(x.den:Int)) (b:=k) ∅ h;lia
 have m0:0<m:=by
  rcases yQ 0 m with h | h
  ·exact h
  ·have:=uh (a:=(y.den:Int)) (b:=m) ∅ h;lia
 unfold byB
 rw[f1,f2]
 have h':=(Za x y).mpr h
 have h2:=uj h' (wW k0 m0)
 refine Int.lt_of_mul_lt_mul_right (a:=b) ?_ ∅
 have e1:x.num*k*b=x.num*(y.den:Int)*(k*m):=by rw[em];simp only[Wo,WC,YM]
 have e2:y.num*m*b=y.num*(x.den:Int)*(k*m):=by rw[ek];simp only[Wo,WC,YM]
 rw[e1,e2];exact h2
structure LnB (bs:List Bl) (lo hi:Wl) (p s:Int):Prop where
 pb:0<p/\Bd 401 p
 sb:0<s/\Bd 401 s
 tr:∀b∈bs,Bd 2000 (trB p s (b.pl,b.sp)).1/\Bd 2000 (trB p s (b.pl,b.sp)).2
 bl:Wb (lo.map (trB p s))
 bh:Wb (hi.map (trB p s))
 lh:∀l h,lo.map (trB p s)=some l->hi.map (trB p s)=some h->l.1<h.1
 t0:Rat.divInt s p≠0
 tz:Sz 401 (Rat.divInt s p)
theorem qQ {bs:List Bl}{lo hi:Wl}{t:Rat×Rat}(e:lo=some t):t∈ths bs lo hi:=by unfold ths;rw[e];simp[XZ]
theorem vt {bs:List Bl}{lo hi:Wl}{t:Rat×Rat}(e:hi=some t):t∈ths bs lo hi:=by unfold ths;rw[e];simp[XZ]
theorem VF {bs:List Bl}{lo hi:Wl}{b:Bl}(m:b∈bs):(b.pl,b.sp)∈ths bs lo hi:=by
 unfold ths;exact yP _ (wn.mpr ⟨b,m,rfl⟩)
theorem LnZ.bd {bs:List Bl}{lo hi:Wl}(h:LnZ bs lo hi) (l8:bs.length<=8):LnB bs lo hi (pbO bs lo hi) (sbO bs lo hi):=by
 have hl:=Zs (lo:=lo) (hi:=hi) l8
 obtain⟨p1,p2,p3⟩:=zjL (qs:=(ths bs lo hi).map (·.1)) (λq m=>by obtain⟨t,mt,rfl⟩:=wn.mp m;exact(h.sz t mt).1.2) (by rw[we];exact hl)
 obtain⟨s1,s2,s3⟩:=zjL (qs:=(ths bs lo hi).map (·.2)) (λq m=>by obtain⟨t,mt,rfl⟩:=wn.mp m;exact(h.sz t mt).2.2) (by rw[we];exact hl)
 have tr:∀t∈ths bs lo hi,Bd 2000 (trB (pbO bs lo hi) (sbO bs lo hi) t).1/\Bd 2000 (trB (pbO bs lo hi) (sbO bs lo hi) t).2:=λt m=>⟨Jz (h.sz t m).1.1 p1 p2,Jz (h.sz t m).2.1 s1 s2⟩
 refine⟨⟨p1,p2⟩,⟨s1,s2⟩,λb m=>tr _ (VF m),λt e=>?_,λt e=>?_,λl r e1 e2=>?_,?_,.divInt (by show pbO bs lo hi≠0;unfold pbO;lia) s2 p2⟩
 ·cases lo with
  | none=>cases e
  | some z=>cases e;exact(tr z (qQ rfl)).1
 ·cases hi with
  | none=>cases e
  | some z=>cases e;exact(tr z (vt rfl)).1
 ·cases lo with
  | none=>cases e1
  | some z =>
   cases hi with
   | none=>cases e2
   | some y =>
    cases e1;cases e2
    exact JA p1 (p3 _ (wn.mpr ⟨z,qQ rL,rL⟩)) (p3 _ (wn.mpr ⟨y,vt rL,rL⟩)) (h.lh _ _ rL rL)
 ·intro z
  have h1:0<sbO bs lo hi:=s1
  have h2:0<pbO bs lo hi:=p1
  rw[show (0:Rat)=Rat.divInt 0 1 by rfl,ug ∅ (by decide)]at z
  lia
end KK
namespace L2
open PySem
theorem JC {a:Str}{m:Addr}{cs:List (Str×Addr)} (h1:cs.lookup a=some m) (x:Str) (c:Addr) (e:List.lookup x [(a,m)]=some c):cs.lookup x=some c:=by
 simp only[List.lookup]at e
 cases q1:(x == a)with
 | true=>rw[q1]at e;cases e;rw[eq_of_beq q1];exact h1
 | false=>rw[q1]at e;cases e
theorem Qw {X:Cx}{K:Fg}{a:Expr}{ta:TE}(hK:X.K=K) (ha:PE X a ta) (he:∀whole,isTrue a X.env whole=(do let v <-whole;standAt a.pos;holding [v] (truthy v))):PT X a (λσ H Q=>ta σ H λx H'=>∃k,zcC K x H' k/\Q k H'):=by
 subst hK;exact xD ha he
end L2
namespace KK
open PySem L2 KM
variable {P:Program}{w:World}{K:Fg}{mg:Str->Option Value}{base:Heap}{C CE aN:Addr}
def Zx (H:Hp) (us:List V) (ps:List (Int×Int)):Prop:=us.length=ps.length/\∀(i:Nat) (v:V),us[i]? = some v->∃u a,ps[i]? = some u/\v = .ref a/\H a=some (.tup [.int u.1,.int u.2])
theorem Zx.tups {H H':Hp}{us:List V}{ps:List (Int×Int)} (h:Zx H us ps) (t:xp H H'):Zx H' us ps :=
 ⟨h.1,λi v e=>by obtain⟨u,a,e1,e2,e3⟩:=h.2 i v e;exact⟨u,a,e1,e2,t _ _ e3⟩⟩
theorem xb.tupsW {H H':Hp}{v:V}{l:Wl}(h:xb H v l) (e:xp H H'):xb H' v l:=by
 cases l with
 | none=>exact h
 | some z=>obtain⟨x,y⟩:=z;obtain⟨a,p,q,e1,e2,e3,e4⟩:=h;exact⟨a,p,q,e1,e _ _ e2,e _ _ e3,e _ _ e4⟩
theorem Ln.tups {H H':Hp}{r a:Addr}{bs:List Bl}{lo hi:Wl}(h:Ln H r a bs lo hi) (e:xp H H'):Ln H' r a bs lo hi:=by
 obtain⟨us,h1,h2⟩:=h.row
 obtain⟨v1,v2,g1,g2,g3⟩:=h.walls
 exact⟨⟨us,e _ _ h1,h2.keeps e⟩,⟨v1,v2,e _ _ g1,g2.tupsW e,g3.tupsW e⟩,h.l1,h.l8⟩
theorem ziR {bs:List Bl}{b0:Bl}{lo hi:Wl}{c:Bl}(m:c∈bs) (h:c.wt≠b0.wt):plB (tb b0) (bs.map tb) lo hi=false:=by
 unfold plB evB
 rw[show ((bs.map tb).all λb=>decide (b.wt=(tb b0).wt))=false from ?_,YD]
 rw[List.all_eq_false]
 exact⟨tb c,wn.mpr ⟨c,m,rfl⟩,by show ¬decide (c.wt=b0.wt)=true;rw[uJ];exact h⟩
abbrev Ent:Type:=Int×Addr×List Int
def ZB (ps:List (Int×List Int)) (k w:Int):List (Int×List Int):=if(ps.any λp=>decide (p.1=k))=true then ps.map (λp=>if p.1=k then(p.1,p.2++[w])else p)else ps++[(k,[w])]
def Qs (l0 T:Int) (ps:List (Int×List Int)) (t:Int×Int):List (Int×List Int):=if 0<t.2 then ZB ps t.2 (t.1 - l0)else if t.2<0 then ZB ps (-t.2) (T - (t.1 - l0))else ps
def phO (l0 T:Int) (trs:List (Int×Int)):List (Int×List Int):=trs.foldl (Qs l0 T) []
def Xf (es:List Ent):List (Int×List Int):=es.map λe=>(e.1,e.2.2)
def Xe (es:List Ent):List (Key×V):=es.map λe=>(Sum.inl e.1,V.ref e.2.1)
structure PhA (H G:Hp) (a:Addr) (es:List Ent):Prop where
 d:G a=some (.dK (Xe es))
 l:∀e∈es,G e.2.1=some (.lst (e.2.2.map V.int))
 n:(es.map (·.2.1)).Nodup
 f:∀e∈es,H e.2.1=none
 fa:H a=none
 k:(es.map (·.1)).Nodup
theorem PhA.same {H G G':Hp}{a:Addr}{es:List Ent}(h:PhA H G a es) (e:zi G G'):PhA H G' a es:=⟨e _ _ h.d,λx m=>e _ _ (h.l x m),h.n,h.f,h.fa,h.k⟩
theorem VH (k:Int):∀es:List Ent,Zw (Xe es) (Sum.inl k)=(es.find? λe=>decide (e.1=k)).map λe=>V.ref e.2.1
 | []=>rfl
 | e::es=>by
  show Zw ((Sum.inl e.1,V.ref e.2.1)::Xe es) (Sum.inl k)=_
  rw[uK]
  by_cases c:e.1=k
  ·rw[Qh (by rw[c]),wm c];rfl
  ·rw[Qg (λz=>c (Sum.inl.inj z)),wA c];exact VH k es
theorem zdE (k:Int) (es:List Ent):(Xf es).any (λp=>decide (p.1=k))=(es.find? λe=>decide (e.1=k)).isSome:=by
 unfold Xf
 induction es with
 | nil=>rfl
 | cons e es ih =>
  rw[yA,YV,uK]
  by_cases c:e.1=k
  ·simp[c]
  ·simp only[wA c,Bool.false_or];exact ih
def VQ (es:List Ent) (k w:Int):List Ent:=es.map λe=>if e.1=k then(e.1,e.2.1,e.2.2++[w])else e
theorem zeL {es:List Ent}{k w:Int}{e:Ent}(h:(es.find? λe=>decide (e.1=k))=some e):Xf (VQ es k w)=ZB (Xf es) k w:=by
 unfold ZB
 rw[zdE,h,if_pos (show (some e).isSome=true from rfl)]
 unfold Xf VQ
 rw[yW,yW]
 refine uM λx _=>?_
 show _=if x.1=k then(x.1,x.2.2++[w])else(x.1,x.2.2)
 show ((if x.1=k then(x.1,x.2.1,x.2.2++[w])else x).1,(if x.1=k then(x.1,x.2.1,x.2.2++[w])else x).2.2)=_
 split <;> rfl
theorem zeK {es:List Ent}{k w:Int}{l:Addr}(h:(es.find? λe=>decide (e.1=k))=none):Xf (es++[(k,l,[w])])=ZB (Xf es) k w:=by
 unfold ZB
 rw[zdE,h,if_neg (by decide)]
 unfold Xf
 rw[yV];rfl
theorem za2 {es:List Ent}{k:Int}{l:Addr}(w:Int) (h:(es.find? λe=>decide (e.1=k))=none):zaA (Xe es) (Sum.inl k) (V.ref l)=Xe (es++[(k,l,[w])]):=by
 unfold zaA
 rw[zaO,VH,h]
 rw[if_neg (by decide)]
 unfold Xe
 rw[yV];rfl
theorem PhA.put {H G:Hp}{a:Addr}{es:List Ent}{k w:Int}{e:Ent}(h:PhA H G a es) (hf:(es.find? λe=>decide (e.1=k))=some e):PhA H (upd G e.2.1 (.lst (e.2.2.map V.int++[.int w]))) a (VQ es k w):=by
 have me:e∈es:=Wx hf
 have ke:e.1=k:=wG (List.find?_some (p:=λe:Ent=>decide (e.1=k)) hf)
 have hle:=h.l e me
 have na:a≠e.2.1:=λz=>by rw[<-z,h.d]at hle;cases hle
 have e1:(VQ es k w).map (·.1)=es.map (·.1):=by unfold VQ;rw[yW];refine uM λx _=>?_;show (if x.1=k then _ else x).1=x.1;split <;> rfl
 have e2:(VQ es k w).map (·.2.1)=es.map (·.2.1):=by unfold VQ;rw[yW];refine uM λx _=>?_;show (if x.1=k then _ else x).2.1=x.2.1;split <;> rfl
 have e3:Xe (VQ es k w)=Xe es:=by unfold Xe VQ;rw[yW];refine uM λx _=>?_;show (Sum.inl (if x.1=k then _ else x).1,V.ref (if x.1=k then _ else x).2.1)=_;split <;> rfl
 refine⟨by rw[e3,zO na];exact h.d,λx m=>?_,by rw[e2];exact h.n,λx m=>?_,h.fa,by rw[e1];exact h.k⟩
 ·obtain⟨y,my,rfl⟩:=wn.mp m
  by_cases c:y.1=k
  ·have ey:y=e:=by
    have hk:=h.k
    by_cases q:y=e
    ·exact q
    ·exfalso
     have:=(List.pairwise_map.mp hk)
     exact nodup_ne hk my me q (c.trans ke.symm)
   subst ey
   rw[if_pos c]
   show upd G y.2.1 _ y.2.1=_
   rw[zg,yV];rfl
  ·rw[if_neg c]
   have hn:y.2.1≠e.2.1:=λz=>by
    have:y≠e:=λq=>c (by rw[q];exact ke)
    exact nodup_ne (f:=λe:Ent=>e.2.1) h.n my me this z
   rw[zO hn];exact h.l y my
 ·obtain⟨y,my,rfl⟩:=wn.mp m
  have:=h.f y my
  split
  ·exact this
  ·exact this
where
 nodup_ne {α β:Type}{f:α->β}:∀{l:List α}{x y:α},(l.map f).Nodup->x∈l->y∈l->x≠y->f x≠f y
 | [],_,_,_,h,_,_=>by cases h
 | a::l,x,y,hn,mx,my,ne=>by
  rw[yA,uS]at hn
  rcases wx.mp mx with ex | mx'
  ·rcases wx.mp my with ey | my'
   ·exact absurd (ex.trans ey.symm) ne
   ·exact λe=>hn.1 (by rw[<-ex,e];exact wn.mpr ⟨y,my',rfl⟩)
  ·rcases wx.mp my with ey | my'
   ·exact λe=>hn.1 (by rw[<-ey,<-e];exact wn.mpr ⟨x,mx',rfl⟩)
   ·exact nodup_ne hn.2 mx' my' ne
theorem PhA.new {H G:Hp}{a l:Addr}{es:List Ent}{k w:Int}(h:PhA H G a es) (hS:∀b o,H b=some o->G b=some o) (hl:G l=none) (hf:(es.find? λe=>decide (e.1=k))=none) :
  PhA H (upd (upd (upd G l (.lst [])) a (.dK (Xe (es++[(k,l,[w])])))) l (.lst [.int w])) a (es++[(k,l,[w])]):=by
 have na:a≠l:=λz=>by rw[<-z,h.d]at hl;cases hl
 have Hl:H l=none:=by
  cases q:H l with
  | none=>rfl
  | some o=>rw[hS _ _ q]at hl;cases hl
 have ne:∀e∈es,e.2.1≠l:=λe m z=>by have:=h.l e m;rw[z,hl]at this;cases this
 have nea:∀e∈es,e.2.1≠a:=λe m z=>by have:=h.l e m;rw[z,h.d]at this;cases this
 refine⟨by rw[zO na];exact zg,λx m=>?_,?_,λx m=>?_,h.fa,?_⟩
 ·rcases wQ.mp m with m | m
  ·rw[zO (ne x m),zO (nea x m),zO (ne x m)];exact h.l x m
  ·cases wD.mp m;exact zg
 ·rw[yV]
  refine YN.mpr ⟨h.n,by simp,λb hb c hc=>?_⟩
  obtain⟨e,m,rfl⟩:=wn.mp hb
  simp at hc;subst hc
  exact ne e m
 ·rcases wQ.mp m with m | m
  ·exact h.f x m
  ·cases wD.mp m;exact Hl
 ·rw[yV]
  refine YN.mpr ⟨h.k,by simp,λb hb c hc=>?_⟩
  obtain⟨e,m,rfl⟩:=wn.mp hb
  simp at hc;subst hc
  intro z
  have:=Yz.mp hf e m
  exact this (wm z)
inductive zjc (C:Addr) (vs:List V) (H:Hp) (Q:VK) (_e3:XK):Prop
 | mk:∀c pb sb tk ws trs lo hi,(vs=[.ref c])->(Xd H C c pb sb tk ws trs (some lo) (some hi))->(Wb (some lo))->(Wb (some hi))->(trs.length<=8)->(∀a es H',zi H H'->PhA H H' a es->Xf es=phO lo.1 (2*(hi.1 - lo.1)) trs->Q (.ref a) H')->zjc C vs H Q _e3
theorem QJ:zA ["course","trip","phases","start","speed","way"] ["course"] (zk ZQ):=scq
theorem za4 (es:List Ent):(Xe es).length=es.length:=we ..
theorem zeH {H G:Hp}{a l0:Addr}{es:List Ent}{k w:Int}{i:Nat}{R:VK}(h:PhA H G a es) (hS:zi H G) (hi:i<=1000) (hl:es.length<=i) (hl8:∀e∈es,e.2.2.length<=i) (hl0:G l0=none)
  (q:∀l xs G1 es',G1 l=some (.lst xs)->xs.length<sizeLine->PhA H (upd G1 l (.lst (xs++[.int w]))) a es'->zi H (upd G1 l (.lst (xs++[.int w])))->Xf es'=ZB (Xf es) k w->es'.length<=i+1->(∀e∈es',e.2.2.length<=i+1)->R (.ref l) G1) :
  zcf (.ref a) [.int k,.ref l0] (upd G l0 (.lst [])) R:=by
 have na:a≠l0:=λz=>by have:=h.d;rw[z,hl0]at this;cases this
 have S1:zi G (upd G l0 (.lst [])):=zi.upd hl0
 have sz:(1000:Nat)<sizeLine:=by decide
 refine⟨a,Xe es,Sum.inl k,.ref l0,rfl,rfl,S1 _ _ h.d,by rw[za4];lia,λv hv=>?_,λhv=>?_⟩
 ·rw[VH]at hv
  cases hf:es.find? λe=>decide (e.1=k)with
  | none=>rw[hf]at hv;cases hv
  | some e =>
   rw[hf]at hv;cases hv
   have me:e∈es:=Wx hf
   have h1:=h.same S1
   have hle:=h1.l e me
   have hll:=hl8 e me
   refine q _ _ _ _ hle (by rw[we];lia) (h1.put hf) (λb o eb=>?_) (zeL hf) (by unfold VQ;rw[we];lia) λx m=>?_
   ·have:b≠e.2.1:=λz=>by rw[z,h.f e me]at eb;cases eb
    rw[zO this];exact S1 _ _ (hS _ _ eb)
   ·obtain⟨y,my,rfl⟩:=wn.mp m
    have:=hl8 y my
    split
    ·show (y.2.2++[w]).length<=_;simp;lia
    ·lia
 ·rw[VH]at hv
  have hf:(es.find? λe=>decide (e.1=k))=none:=by
   cases hf:es.find? λe=>decide (e.1=k)with
   | none=>rfl
   | some e=>rw[hf]at hv;cases hv
  rw[za2 w hf]
  have hl0':upd (upd G l0 (.lst [])) a (.dK (Xe (es++[(k,l0,[w])]))) l0=some (.lst []):=by rw[zO na.symm];exact zg
  refine q _ _ _ _ hl0' (by show 0<sizeLine;lia) (h.new hS hl0 hf) (λb o eb=>?_) (zeK hf) (by simp;lia) λx m=>?_
  ·have n1:b≠l0:=λz=>by rw[<-z,hS _ _ eb]at hl0;cases hl0
   have n2:b≠a:=λz=>by rw[z,h.fa]at eb;cases eb
   show upd (upd (upd G l0 (.lst [])) a _) l0 _ b=some o
   rw[zO n1,zO n2,zO n1];exact hS _ _ eb
  ·rcases wQ.mp m with m | m
   ·have:=hl8 x m;lia
   ·cases wD.mp m;simp
theorem zj0 (D:Df K mg "phases_of" ZQ ["course"] []) (TC:TCo K C) (cTr:Cal P w K mg base "trip_of" 1 ["course"] [] (QL C)):Cal P w K mg base "phases_of" 2 ["course"] [] (zjc C):=by
 rcases r:D.calq (k:=1) QJ with⟨c,pb,sb,tk,ws,trs,lo,hi,rfl,hco,wl,wh,l8,k⟩
 obtain⟨dx,fs,hc,F⟩:=id hco
 obtain⟨vl,el,tl⟩:=F.low
 obtain⟨al,rfl,hal⟩:∃a,vl=V.ref a/\H a=some (.tup [.int lo.1,.int lo.2]):=tl
 rcases q:F.tracks with⟨L,tv,et,hL,hT⟩
 have htl:=hT.1
 refine⟨_,(ze (psl (i:=1) QJ.nd (zB cTr hr (za (pv 0) zd)))
  (ze (psl (i:=2) QJ.nd zeE)
  (ze (qM PassesOwn.never rfl (xh (xz (pv 0) rfl)) (qY rfl (zP (pgl (i:=3) QJ.nd) (zP (pgl (i:=4) QJ.nd) xI))) (ze (psl (i:=5) QJ.nd (zr x6 (pv 3) (pxt (xz (pv 0) rfl))))
  (zj (zX (zE Zt (pv 4) zh (zF _)) (zj (xm (ZI yC yR yS qr (ZI PySem.F.plainAttrs_dict Yi Yj Jg (pv 2) (za (pv 4) (za (zV zd) zd))) (za (pv 5) zd)))) (zj (zX (zE vN (pv 4) zh (zF _)) (zj (xm (ZI yC yR yS qr (ZI PySem.F.plainAttrs_dict Yi Yj Jg (pv 2) (za (qL qc (pv 4)) (za (zV zd) zd))) (za (zr x6 (pv 1) (pv 5)) zd)))) zN))))))
  (zj (zD (pv 2)))))),?_⟩
 try dsimp only[zU,Cx.nox]
 refine⟨_,rL,c,pb,sb,tk,ws,trs,some lo,some hi,rL,hco,wl,wh,?_⟩
 dsimp only[zG]
 refine λa ha=>?_
 dsimp only[zG]
 have S0:zi H (upd H a (.dK [])):=zi.upd ha
 have P0:PhA H (upd H a (.dK [])) a []:=⟨zg,(λe m=>by cases m),Uc,(λe m=>by cases m),ha,Uc⟩
 generalize upd H a (.dK [])=H0 at S0 P0
 refine zM (λσ' G=>∃es y3 y4 y5,σ'=[Sr c,some (lv (VG (some lo) (some hi))),Sr a,y3,y4,y5]/\zi H G/\PhA H G a es/\Xf es=phO lo.1 (2*(hi.1 - lo.1)) trs) ?_ ?_
 ·rintro σ' G hQq;rcases q:hQq with⟨es,y3,y4,y5,rfl,S,ph,e⟩
  exact⟨_,rL,k a es G S ph e⟩
 intro nx hnx
 refine⟨_,rL,c,C,dx,fs,_,rL,S0 _ _ hc,TC.cls,TC.tracks,et,L,rL,⟨_,SqL.of (S0 _ _ hL)⟩,?_⟩
 refine qA (xs:=tv) (λi σ' G=>∃es y3 y4 y5,σ'=[Sr c,some (lv (VG (some lo) (some hi))),Sr a,y3,y4,y5]/\zi H G/\PhA H G a es/\Xf es=phO lo.1 (2*(hi.1 - lo.1)) (trs.take i)/\es.length<=i/\∀e∈es,e.2.2.length<=i)
  ⟨[],none,none,none,rfl,S0,P0,rfl,wg _,λe m=>by cases m⟩ (λi σ' G _ ⟨_,_,_,_,_,S,_⟩=>SqL.of (S _ _ hL)) ?_ ?_
 ·rintro i y σ' G hy hQq;rcases q:hQq with⟨es,y3,y4,y5,rfl,S,ph,e,hl1,hl2⟩
  rcases q:hT.2 i y hy with⟨tr,etr,p,rfl,hp⟩
  have hi8:i<trs.length:=(wP.mp etr).1
  have etk:phO lo.1 (2*(hi.1 - lo.1)) (trs.take (i+1))=Qs lo.1 (2*(hi.1 - lo.1)) (Xf es) tr:=by
   rw[yE,etr,e];unfold phO;rw[YL];rfl
  refine⟨p,_,rL,.of (S _ _ hp),rL,_,_,rL,_,_,rL,rL,?_⟩
  dsimp only[zG]
  have hal':=S _ _ hal
  refine⟨_,rL,_,rL,c,C,dx,fs,_,rL,S _ _ hc,TC.cls,TC.low,el,al,_,_,_,rL,rL,.of hal',at0 ..,_,_,rL,rL,?_⟩
  dsimp only[zG]
  unfold Qs at etk
  refine⟨_,rL,_,_,rL,rL,_,rL,qT (λz=>?_) (λz=>?_)⟩
  ·have h1:0<tr.2:=wG z
   rw[if_pos h1]at etk
   refine⟨_,rL,.inr (.inr (.inl ⟨rL,.inl ⟨_,ph.d⟩⟩)),_,rL,zL0,λl0 hl0=>?_⟩
   dsimp only[Zv]
   exact zeH (w:=tr.1 - lo.1) ph S ∅ hl1 hl2 hl0 λl xs G1 es' hl hx ph' S' e' q1 q2=>⟨.inl ⟨rfl,_,SqL.of hl⟩,_,rfl,l,_,_,rfl,rfl,hl,hx,⟨es',_,_,_,rfl,S',ph',by rw[etk];exact e',q1,q2⟩⟩
  ·have h1:¬ 0<tr.2:=λq=>z (wm q)
   rw[if_neg h1]at etk
   refine⟨_,rL,_,_,rL,rL,_,rL,qT (λz=>?_) (λz=>?_)⟩
   ·have h2:tr.2<0:=wG z
    rw[if_pos h2]at etk
    refine⟨_,rL,.inr (.inr (.inl ⟨rL,.inl ⟨_,ph.d⟩⟩)),_,rL,_,rL,zL0,λl0 hl0=>?_⟩
    dsimp only[Zv]
    exact zeH (k := -tr.2) (w:=2*(hi.1 - lo.1) - (tr.1 - lo.1)) ph S ∅ hl1 hl2 hl0 λl xs G1 es' hl hx ph' S' e' q1 q2=>⟨.inl ⟨rfl,_,SqL.of hl⟩,_,rfl,_,rfl,_,_,rfl,rfl,l,_,_,rfl,rfl,hl,hx,⟨es',_,_,_,rfl,S',ph',by rw[etk];exact e',q1,q2⟩⟩
   ·have h2:¬tr.2<0:=λq=>z (wm q)
    rw[if_neg h2]at etk
    exact⟨es,_,_,_,rfl,S,ph,etk.symm ▸ rfl,by lia,λx m=>by have:=hl2 x m;lia⟩
 ·rintro σ' G hQq;rcases q:hQq with⟨es,y3,y4,y5,rfl,S,ph,e,_,_⟩
  exact hnx _ _ ⟨es,y3,y4,y5,rfl,S,ph,by rw[e,htl,yt]⟩
end KK
namespace L2
open PySem PySem.Spec PyProof.Rows
section
variable {J:It}{D:Addr}{N n:Nat}{js:List Nat}{σ:St}{g:TG}{tt:TT}{te:TE}{H:Hp}
theorem zcJ {Z:Hp->Prop}(Pv:Nat->Hp->List V->Prop) (h0:Pv 0 (upd H D (.lst [])) []) (hgo:∀i H ys,i<N->Pv i H ys->J.go i H) (hst:∀H ys,Pv N H ys->J.stop N H)
  (hs:∀i x zs H2 H3 ys (Nx:Hp->List V->Prop),(∀H ys,Pv (i+1) H ys->Nx H ys)->i<N->zs.length=n->J.yld i H2 x H3->Pv i H2 ys->H2 D=some (.lst ys)->g x (zs++qF σ js) H3 λσ4 H4=>σ4.drop n=qF σ js/\tt σ4 H4 λb H5 =>
   if b=true then te σ4 H5 (λv H6=>H6 D=some (.lst ys)/\ys.length<sizeLine/\Nx (upd H6 D (.lst (ys++[v]))) (ys++[v]))else H5 D=some (.lst ys)/\Nx H5 ys)
  (hd:∀H ys,Pv N H ys->H D=some (.lst ys)->Z H) :
  ∃W:Nat->Nat->Hp->List V->Prop,(∃m,W 0 m (upd H D (.lst [])) [])/\∀i m H2 ys,W i m H2 ys->H2 D=some (.lst ys)->(J.stop i H2/\Z H2) ∨
   (J.go i H2/\∀zs x H3,zs.length=n->J.yld i H2 x H3->g x (zs++qF σ js) H3 λσ4 H4=>σ4.drop n=qF σ js/\tt σ4 H4 λb H5=>if b=true then te σ4 H5 (λv H6=>H6 D=some (.lst ys)/\ys.length<sizeLine/\∃m',m'<m/\W (i+1) m' (upd H6 D (.lst (ys++[v]))) (ys++[v]))
    else H5 D=some (.lst ys)/\∃m',m'<m/\W (i+1) m' H5 ys) :=
 ZE (Q:=λ_ H=>Z H) Pv h0 hgo hst hs hd
end
end L2
namespace KK
open PySem L2 KM
variable {P:Program}{w:World}{K:Fg}{mg:Str->Option Value}{base:Heap}{C CE:Addr}{tM:Nat}
def zby (l:List Int):List Int:=l.mergeSort λa b=>decide (a<=b)
theorem Z9 (l:List Int):(zby l).Perm l:=List.mergeSort_perm ..
theorem zco (l:List Int):(zby l).Pairwise (·<=·):=by
 have h:=List.pairwise_mergeSort (le:=λa b:Int=>decide (a<=b)) (λa b c h1 h2=>by simp only[uJ]at *;lia) (λa b=>by simp only[Bool.or_eq_true,uJ];lia) l
 exact h.imp λz=>wG z
theorem zaG {a b:List Int}(p:a.Perm b) (ha:a.Pairwise (·<=·)) (hb:b.Pairwise (·<=·)):a=b :=
 List.Perm.eq_of_pairwise (le:=(·<=·)) (λa b _ _ h1 h2=>by lia) ha hb p
theorem J4 {a l:List Int}(p:a.Perm l) (ha:a.Pairwise (·<=·)):a=zby l:=zaG (p.trans (Z9 l).symm) ha (zco l)
theorem zfs {a b:List Int}:zby a=zby b↔a.Perm b:=⟨λh=>(Z9 a).symm.trans (by rw[h];exact Z9 b),λh=>J4 ((Z9 a).trans h) (zco a)⟩
def xK (ps:List Int) (T m:Int):Bool:=decide (zby (ps.map (· * m))=zby (ps.map λp=>(p*m+T) % (T*m)))
theorem zcH {ps:List Int}{T m:Int}:xK ps T m=true↔(ps.map (· * m)).Perm (ps.map λp=>(p*m+T) % (T*m)):=by
 unfold xK;rw[uJ];exact zfs
theorem zcI {ps:List Int}{T:Int}(h:∀p∈ps,0<=p/\p<T):xK ps T 1=true:=by
 rw[zcH]
 refine .of_eq (uM λp m=>?_)
 obtain⟨h0,h1⟩:=h p m
 rw[YS,YS,show p+T=p+T*1 by lia,Yr,Int.emod_eq_of_lt h0 h1]
theorem zaf:∀(a b:List Int),PyData.eqvAll (a.map .int) (b.map .int)=decide (a=b)
 | [],[]=>rfl
 | [],_::_=>by simp[PyData.eqvAll]
 | _::_,[]=>by simp[PyData.eqvAll]
 | x::a,y::b=>by
  show (PyData.eqv (.int x) (.int y)&&PyData.eqvAll (a.map .int) (b.map .int))=_
  rw[zaf a b]
  by_cases c:x=y
  ·subst c
   have e:PyData.eqv (.int x) (.int x)=true:=SeqAt.eqv_refl _ rfl
   rw[e,YW]
   by_cases d:a=b
   ·rw[wm d,wm (by rw[d])]
   ·rw[wA d,wA (λz=>d (by injection z))]
  ·have e:PyData.eqv (.int x) (.int y)=false:=by simp[PyData.eqv];exact c
   rw[e,YD,wA (λz=>c (by injection z))]
theorem zks (ds:List Int):SeqAt.shaped (.list (ds.map .int))=true:=by
 have k:PyData.canLayAll0 (ds.map .int)=true/\PyData.depthAll (ds.map .int)=0:=by
  induction ds with
  | nil=>exact⟨rfl,rfl⟩
  | cons d ds ih =>
   refine⟨?_,?_⟩
   ·show (PyData.canLay0 (.int d)&&_)=true
    rw[ih.1];rfl
   ·show max (PyData.depth (.int d)) _=0
    rw[ih.2];rfl
 have c1:PyData.canLay0 (.list (ds.map .int))=true:=k.1
 have d1:PyData.depth (.list (ds.map .int))=1:=by show _+1=1;rw[k.2]
 show (_&&decide (_<=64))=true
 rw[c1,d1];rfl
theorem Vr {H:Hp}:∀ds:List Int,Zg H (ds.map V.int) (ds.map .int)
 | []=>.nil
 | d::ds=>.cons (.int d) (Vr ds)
theorem XX {vs:List V}{ns:List Int}(hl:vs.length=ns.length) (h:∀(i:Nat) (v:V),vs[i]? = some v->∃n,ns[i]? = some n/\v = .int n):vs=ns.map V.int:=by
 refine uI λi=>?_
 rw[wo]
 cases e:vs[i]? with
 | none =>
  have:ns.length<=i:=by rw[<-hl];exact List.getElem?_eq_none_iff.mp e
  rw[yJ this];rfl
 | some v=>obtain⟨n,e1,rfl⟩:=h i v e;rw[e1];rfl
section
variable {P:Program}{w:World}{K:Fg}{mg:Str->Option Value}{base:Heap}{C CE:Addr}{aN:Addr}
structure Phs (ps:List Int) (T:Int):Prop where
 T0:0<T
 bT:Bd 3000 T
 l8:ps.length<=8
 ps:∀p∈ps,0<=p/\p<T
theorem Phs.bp {ps:List Int}{T:Int}(h:Phs ps T){p:Int}(m:p∈ps):Bd 3000 p:=h.bT.of_le (by have:=h.ps p m;lia)
inductive zgZ  (vs:List V) (H:Hp) (Q:VK) (_e3:XK):Prop
 | mk:∀L ps T m,(vs=[.ref L,.int T,.int m])->(H L=some (.lst (ps.map V.int)))->(Phs ps T)->(0<m)->(Bd 3000 m)->(∀H',zi H H'->Q (.bl (xK ps T m)) H')->zgZ vs H Q _e3
theorem zeY:zA ["phases","trip","many","wide"] ["phases","trip","many"] (zk vW):=scq
theorem zjR (D:Df K mg "comes_again" vW ["phases","trip","many"] []) (T3:Tx3 K mg aN):Cal P w K mg base "comes_again" 1 ["phases","trip","many"] [] zgZ:=by
 rcases r:D.calq (k:=0) zeY with⟨L,ps,T,m,rfl,hL,z,m0,bm,k⟩
 have hu:=hr.units
 have bM:∀{n:Nat}{i:Int},Bd n i->n<=1000000->Bd 1000000 i:=λh l=>h.mono l
 have l8:=z.l8
 refine⟨_,(ze (Q0 (i:=3) (NB:=["phase"]) (FR:=["many"]) (js:=[2]) rfl rfl (λx c h=>JC rfl x c h) (.cons rfl rfl rfl ⟨_,rfl⟩ .nil) rfl (by decide +kernel) rfl (by decide +kernel) zeY.nd rfl rfl (by rfl) (xh (pv 0)) (by intro _ _ _;refine⟨?_,?_,?_⟩;(exact(pgl (i:=0) (show List.Nodup (["phase","many"]:List Str) by decide +kernel)));(exact xJ);(exact(zr zK (pv 0) (pv 1)))))
  (zj (zD (qm (Vq hu) (zJ Vh (by rfl) T3.nSorted WD (za (pv 3) zd)) (zJ Vh (by rfl) T3.nSorted WD (za (qK (NB:=["phase"]) (FR:=["trip","many"]) (js:=[1,2]) rfl rfl (λx c h=>Qk rfl rfl x c h) (.cons rfl rfl rfl ⟨_,rfl⟩ (.cons rfl rfl rfl ⟨_,rfl⟩ .nil)) rfl (by decide +kernel) rfl (by decide +kernel) (xh (pv 3)) (by intro _ _ _;refine⟨?_,?_,?_⟩;(exact(pgl (i:=0) (show List.Nodup (["phase","trip","many"]:List Str) by decide +kernel)));(exact xJ);(exact(zr qX (zr xg (pv 0) (pv 1)) (zr zK (pv 1) (pv 2)))))) zd)) (zF _))))),?_⟩
 try dsimp only[zU,Cx.nox]
 unfold zbz zdv
 refine⟨_,rL,L,rL,⟨_,SqL.of hL⟩,λDc hDc=>?_⟩
 refine xY (js:=[2]) (J:=Itl K L) (g:=zG 0) (te:=_) (n:=1) (xs:=ps.map V.int) (λi v G=>∃n,(ps.map (· * m))[i]? = some n/\v = .int n) (λ_ _ _ _ _ h=>h) hDc (xA hL) (xV (by rw[we];lia)) ?_ ?_
 ·intro i y zs G Q' hy hz S hQ
  rw[wo]at hy
  cases hp:ps[i]? with
  | none=>rw[hp]at hy;cases hy
  | some p =>
   rw[hp]at hy;cases hy
   obtain⟨w1,rfl⟩:=Qp hz
   exact⟨rfl,_,rfl,_,rfl,_,_,rfl,rfl,⟨bM (z.bp (wM hp)) (by decide),bM bm (by decide)⟩,hQ _ _ (zi.refl _) ⟨_,by rw[wo,hp];rfl,rfl⟩⟩
 intro us G S hDG hul hR
 dsimp only[zG]
 have e1:us=(ps.map (· * m)).map V.int:=XX (by rw[we];rw[we]at hul;exact hul) λi v e=>hR i v e
 rw[e1]at hDG
 refine⟨_,rfl,Dc,_,rfl,.of hDG,by rw[we];lia,λD1 m1 hD1 p1 s1=>?_⟩
 have S1:=zi.upd (o:=.lst (m1.map V.int)) hD1
 have hD1':upd G D1 (.lst (m1.map V.int)) D1=some (.lst (m1.map V.int)):=zg
 generalize upd G D1 (.lst (m1.map V.int))=G1 at S1 hD1'
 refine⟨_,rL,Dc,rL,⟨_,SqL.of (S1 _ _ hDG)⟩,λDe hDe=>?_⟩
 refine xY (js:=[1,2]) (J:=Itl K Dc) (g:=zG 0) (te:=_) (n:=1) (xs:=(ps.map (· * m)).map V.int) (λi v G=>∃n,(ps.map λp=>(p*m+T) % (T*m))[i]? = some n/\v = .int n) (λ_ _ _ _ _ h=>h) hDe (xA (S1 _ _ hDG)) (xV (by rw[we,we];lia)) ?_ ?_
 ·intro i y zs G2 Q' hy hz S2 hQ
  rw[yW,wo]at hy
  cases hp:ps[i]? with
  | none=>rw[hp]at hy;cases hy
  | some p =>
   rw[hp]at hy;cases hy
   obtain⟨w1,rfl⟩:=Qp hz
   exact⟨rfl,_,rfl,_,rfl,_,_,rfl,rfl,_,rfl,_,rfl,_,_,rfl,rfl,⟨bM z.bT (by decide),bM bm (by decide)⟩,_,_,rfl,rfl,wW z.T0 m0,hQ _ _ (zi.refl _) ⟨_,by rw[wo,hp];rfl,rfl⟩⟩
 intro us2 G2 S2 hDG2 hul2 hR2
 have e2:us2=(ps.map λp=>(p*m+T) % (T*m)).map V.int:=XX (by rw[we];rw[we,we]at hul2;exact hul2) λi v e=>hR2 i v e
 rw[e2]at hDG2
 refine⟨De,_,rfl,.of hDG2,by rw[we];lia,λD2 m2 hD2 p2 s2=>?_⟩
 have S3:=zi.upd (o:=.lst (m2.map V.int)) hD2
 refine⟨_,_,.lst (S3 _ _ (S2 _ _ hD1')) (Vr m1),.lst zg (Vr m2),zks m1,zks m2,?_⟩
 have ev:PyData.eqv (.list (m1.map .int)) (.list (m2.map .int))=xK ps T m:=by
  show PyData.eqvAll (m1.map .int) (m2.map .int)=_
  rw[zaf,J4 p1 s1,J4 p2 s2];rfl
 rw[ev]
 exact k _ (S.trans (S1.trans (S2.trans S3)))
inductive zja  (vs:List V) (H:Hp) (Q:VK) (_e3:XK):Prop
 | mk:∀L ps T,(vs=[.ref L,.int T])->(H L=some (.lst (ps.map V.int)))->(Phs ps T)->(1<=ps.length)->(∀(M:Nat) H',zi H H'->1<=M->M<=ps.length->xK ps T M=true->(∀m:Nat,1<=m->m<=ps.length->xK ps T m=true->m<=M)->Q (.int M) H')->zja vs H Q _e3
theorem ziZ:zA ["phases","trip"] ["phases","trip"] (zk vp):=scq
theorem zjU (D:Df K mg "greatest_many" vp ["phases","trip"] []) (T1:TxB K mg) (cCg:Cal P w K mg base "comes_again" 1 ["phases","trip","many"] [] zgZ):Cal P w K mg base "greatest_many" 2 ["phases","trip"] [] zja:=by
 have T:=T1
 rcases r:D.calq (k:=1) ziZ with⟨L,ps,Tt,rfl,hL,z,l1,k⟩
 have l8:=z.l8
 refine⟨_,(zj (zD (zJ (zcF rfl) (by rfl) T.nMax W9 (za (qK (NB:=["many"]) (FR:=["phases","trip"]) (js:=[0,1]) rfl rfl (λx c h=>Qk rfl rfl x c h) (.cons rfl rfl rfl ⟨_,rfl⟩ (.cons rfl rfl rfl ⟨_,rfl⟩ .nil)) rfl (by decide +kernel) rfl (by decide +kernel) (zdg rfl T.nRange (za zh (za (zr xg (zJ zS (by rfl) T.nLen PySem.boot_len (za (pv 0) zd)) zh) zd))) (by intro _ _ _;refine⟨?_,?_,?_⟩;(exact(pgl (i:=0) (show List.Nodup (["many","phases","trip"]:List Str) by decide +kernel)));(exact(Qb (Qw (K:=K) rfl (zB cCg hr (za (pv 1) (za (pv 2) (za (pv 0) zd)))) λ_=>rfl)));(exact(pv 0)))) zd)))),?_⟩
 try dsimp only[zU,Cx.nox]
 refine⟨_,rfl,L,_,rfl,.inl (.of hL),_,_,rfl,rfl,1,_,rfl,⟨by decide,by decide,by rw[we];lia,by rw[we];lia⟩,λDc hDc=>?_⟩
 rw[show (((ps.map V.int).length:Int)+1 - 1).toNat=ps.length by rw[we];lia]
 refine zcJ (js:=[0,1]) (J:=Itr 1 ps.length) (g:=zG 0) (tt:=λσ H Q=>(ZT zgZ [] E0 (qo (xy 1) (qo (xy 2) (qo (xy 0) Zv)))) σ H λx H'=>∃k,zcC K x H' k/\Q k H') (te:=xy 0) (n:=1) (N:=ps.length) (λi G ys=>zi H G/\ys=((List.range i).filter λj:Nat=>xK ps Tt (1+(j:Int))).map λj:Nat=>V.int (1+(j:Int))) ⟨zi.upd hDc,rL⟩ (λi G ys hi p=>hi) (λG ys p=>wg _) ?_ ?_
 ·rintro i x zs G2 G3 ys Nx hN hi hz hy ⟨S,rfl⟩ hD2
  obtain⟨rfl,rfl⟩:=hy
  obtain⟨w1,rfl⟩:=Qp hz
  refine⟨rfl,_,rfl,_,rfl,_,rfl,L,ps,Tt,1+(i:Int),rfl,S _ _ hL,z,by lia,?_,λG4 S4=>⟨xK ps Tt (1+(i:Int)),rfl,?_⟩⟩
  ·exact Bd.mono (m:=10) (show (1+(i:Int)).natAbs<2^10 by lia) (by decide)
  have hlen:(((List.range i).filter λj:Nat=>xK ps Tt (1+(j:Int))).map λj:Nat=>V.int (1+(j:Int))).length<sizeLine:=by
   have:=Wh (λj:Nat=>xK ps Tt (1+(j:Int))) (List.range i)
   rw[yG]at this
   have:(1000:Nat)<sizeLine:=by decide
   rw[we];lia
  cases hb:xK ps Tt (1+(i:Int))with
  | true =>
   refine xw ⟨_,rL,S4 _ _ hD2,hlen,hN _ _ ⟨λb o e=>?_,?_⟩⟩
   ·rw[zO (zQ e hDc)];exact S4 _ _ (S _ _ e)
   ·rw[Yn,uE,yV];simp[hb]
  | false =>
   refine xc ⟨S4 _ _ hD2,hN _ _ ⟨S.trans S4,?_⟩⟩
   rw[Yn,uE,yV];simp[hb]
 rintro G ys ⟨S,rfl⟩ hD2
 have mem:∀M:Int,M∈(((List.range ps.length).filter λj:Nat=>xK ps Tt (1+(j:Int))).map λj:Nat=>(1+(j:Int)))↔∃j:Nat,j<ps.length/\xK ps Tt (1+(j:Int))=true/\M=1+(j:Int):=λM=>by
  rw[wn]
  constructor
  ·rintro ⟨j,hj,rfl⟩
   obtain⟨h1,h2⟩:=Yl.mp hj
   exact⟨j,WW.mp h1,h2,rL⟩
  ·rintro ⟨j,h1,h2,rfl⟩
   exact⟨j,Yl.mpr ⟨WW.mpr h1,h2⟩,rL⟩
 have hone:(1:Int)∈(((List.range ps.length).filter λj:Nat=>xK ps Tt (1+(j:Int))).map λj:Nat=>(1+(j:Int))):=(mem 1).mpr ⟨0,by lia,by simpa using zcI z.ps,by simp⟩
 refine⟨Dc,_,rfl,by rw[show (((List.range ps.length).filter λj:Nat=>xK ps Tt (1+(j:Int))).map λj:Nat=>V.int (1+(j:Int)))=((((List.range ps.length).filter λj:Nat=>xK ps Tt (1+(j:Int))).map λj:Nat=>(1+(j:Int)))).map V.int by rw[yW];rfl]at hD2;exact .of hD2,List.length_pos_of_mem hone,λM hM hmax=>?_⟩
 obtain⟨j,h1,h2,rfl⟩:=(mem M).mp hM
 have ej:(1+(j:Int))=((1+j:Nat):Int):=by lia
 rw[ej]at h2 ⊢
 refine k (1+j) G S ∅ ∅ h2 λm m1 m2 hm=>?_
 have:=hmax (m:Int) ((mem _).mpr ⟨m - 1,by lia,by rw[show (1+((m - 1:Nat):Int))=(m:Int) by lia];exact hm,by lia⟩)
 lia
inductive zff (C:Addr) (vs:List V) (H:Hp) (Q:VK) (_e3:XK):Prop
 | mk:∀c t dx fs tp tk a b,(vs=[V.ref c,.ref t])->(H c=some (.ins C dx fs))->(fs.lookup ("tick":Str)=some (V.ref tp))->(zp H tp tk)->(H t=some (.tup [.int a,.int b]))->(b≠0)->(Bd 4400 a)->(Bd 4400 b)->(Sz 4400 tk)->(∀r H',zi H H'->zp H' r (Rat.divInt (a*tk.num) (b*(tk.den:Int)))->Q (.ref r) H')->zff C vs H Q _e3
theorem zkp:zA ["course","ticks"] ["course","ticks"] (zk ZP):=scq
theorem zjY {C:Addr}(D:Df K mg "moment_of" ZP ["course","ticks"] []) (TC:TCo K C) (cR:Cal P w K mg base "ratio" 2 ["top","bottom"] [] qR):Cal P w K mg base "moment_of" 3 ["course","ticks"] [] (zff C):=by
 rcases r:D.calq (k:=2) zkp with⟨c,t,dx,fs,tp,tk,a,b,rfl,hc,e,htp,ht,hb,ba,bb,hz,k⟩
 refine⟨_,(zj (zD (zB cR hr (za (zr zK (pxt (pv 1)) (pxt (xz (pv 0) rL))) (za (zr zK (pxt (pv 1)) (pxt (xz (pv 0) rL))) zd))))),?_⟩
 try dsimp only[zU,Cx.nox]
 refine zaa (Q:=Q) ?_
 refine⟨_,rL,t,_,_,_,rL,rL,.of ht,at0 ..,_,rL,c,C,dx,fs,_,rL,hc,TC.cls,TC.tick,e,tp,_,_,_,rL,rL,.of htp,at0 ..,_,_,rL,rL,⟨ba.md,hz.1.md⟩,?_⟩
 refine⟨_,rL,t,_,_,_,rL,rL,.of ht,at1 ..,_,rL,c,C,dx,fs,_,rL,hc,TC.cls,TC.tick,e,tp,_,_,_,rL,rL,.of htp,at1 ..,_,_,rL,rL,⟨bb.md,hz.2.md⟩,?_⟩
 exact⟨_,_,rL,uU hb (KM.vC tk),(bb.mul hz.2).md,k⟩
def vF (T k g:Int) (tk:Rat):Rat:=Rat.divInt (T*tk.num) (g*k*(tk.den:Int))
def qI (qs:List Rat):Int:=qs.foldl (λd q=>((Int.gcd (q.den:Int) d:Nat):Int)) 0
theorem Qn (qs:List Rat) (q:Rat):qI (qs++[q])=((Int.gcd (q.den:Int) (qI qs):Nat):Int):=by unfold qI;rw[YL];rfl
theorem zbU (qs:List Rat):0<=qI qs:=by
 rcases List.eq_nil_or_concat qs with rfl | ⟨l,q,rfl⟩
 ·exact uQ _
 ·rw[List.concat_eq_append,Qn];lia
theorem zaj (qs:List Rat):(∀q∈qs,qI qs ∣ (q.den:Int))/\∀d:Int,(∀q∈qs,d ∣ (q.den:Int))->d ∣ qI qs:=by
 suffices h:∀n,∀qs:List Rat,qs.length=n->(∀q∈qs,qI qs ∣ (q.den:Int))/\∀d:Int,(∀q∈qs,d ∣ (q.den:Int))->d ∣ qI qs from h _ qs rfl
 intro n
 induction n with
 | zero =>
  intro qs hq
  cases yX.mp hq
  exact⟨λq m=>(by cases m),λd _=>Int.dvd_zero d⟩
 | succ n ih =>
  intro qs hq
  rcases List.eq_nil_or_concat qs with rfl | ⟨l,q,rfl⟩
  ·simp at hq
  rw[List.concat_eq_append]at hq ⊢
  rw[Qn]
  obtain⟨i1,i2⟩:=ih l (by simpa using hq)
  refine⟨λu m=>?_,λd hd=>?_⟩
  ·rcases wQ.mp m with m | m
   ·exact Wp (Wm ..) (i1 u m)
   ·cases wD.mp m;exact ur ..
  ·exact Int.dvd_coe_gcd (hd q (by simp)) (i2 d λu m=>hd u (by simp[m]))
theorem XU {qs:List Rat}(h:1<=qs.length):0<qI qs/\∃q∈qs,qI qs<=(q.den:Int):=by
 match qs,h with
 | q::l,_ =>
  have d:=(zaj (q::l)).1 q (by simp)
  have p:=den_pos q
  have nn:=zbU (q::l)
  refine⟨?_,q,by simp,Int.le_of_dvd p d⟩
  rcases Int.lt_or_eq_of_le nn with z | z
  ·exact z
  ·rw[<-z]at d;have:=Int.zero_dvd.mp d;lia
def ptL (T:Int) (tk:Rat) (kgs:List (Int×Int)):List Rat:=kgs.map λu=>vF T u.1 u.2 tk
def xn (qs:List Rat):Rat:=Rat.divInt (xL (qs.map Rat.num)) (qI qs)
structure LrZ (T:Int) (tk:Rat) (kgs:List (Int×Int)):Prop where
 l1:1<=kgs.length
 l8:kgs.length<=8
 pos:∀u∈kgs,0<u.1/\0<u.2
 bk:∀u∈kgs,Bd 3000 u.1
 bg:∀u∈kgs,Bd 400 u.2
 num:∀q∈ptL T tk kgs,0<q.num
 bn:∀q∈ptL T tk kgs,Bd 400 q.num
 bd:∀q∈ptL T tk kgs,Bd 400 (q.den:Int)
 zt:Sz 4400 tk
inductive zfe (C:Addr) (vs:List V) (H:Hp) (Q:VK) (_e3:XK):Prop
 | mk:∀c A ys kgs pb sb tk ws trs lo hi,(vs=[.ref c,.ref A])->(Xd H C c pb sb tk ws trs (some lo) (some hi))->(Wb (some lo))->(Wb (some hi))->(lo.1<hi.1)->(H A=some (.lst ys))->(Zx H ys kgs)->(LrZ (2*(hi.1 - lo.1)) tk kgs)->(∀r H',zi H H'->zp H' r (xn (ptL (2*(hi.1 - lo.1)) tk kgs))->Q (.ref r) H')->zfe C vs H Q _e3
theorem Zq:zA ["course","manies","trip","parts","divisor","top","bottom"] ["course","manies"] (zk vZ):=scq
def Zy (G:Hp) (us:List V) (qs:List Rat):Prop:=us.length=qs.length/\∀(i:Nat) (v:V),us[i]? = some v->∃q r,qs[i]? = some q/\v = .ref r/\zp G r q
theorem ziu (D:Df K mg "least_round" vZ ["course","manies"] []) (TC:TCo K C) (cTr:Cal P w K mg base "trip_of" 1 ["course"] [] (QL C)) (cG:Cal P w K mg base "greatest_divisor" 1 ["one","other"] [] Jm) (cL:Cal P w K mg base "least_multiple" 2 ["numbers"] [] Jn) (cR:Cal P w K mg base "ratio" 2 ["top","bottom"] [] qR) (cMo:Cal P w K mg base "moment_of" 3 ["course","ticks"] [] (zff C)):Cal P w K mg base "least_round" 4 ["course","manies"] [] (zfe C):=by
 refine D.calq (k:=3) Zq (λf cdv A outer s H vs Q E hr3 h=>?_)
 rcases q:h with⟨c,Am,ys,kgs,pb,sb,tk,ws,trs,lo,hi,rfl,hco,wl,wh,hlh,hA,hP,Z,kk⟩
 have hr1:z6 1 _:=hr3.md
 have hr2:z6 2 _:=hr3.md
 obtain⟨dx,fs,hc,F⟩:=id hco
 obtain⟨tp,et,htp⟩:=F.tick
 refine⟨_,(ze (Qv (i:=2) Zq.nd rL (Or.inr rL) (zB cTr hr1 (za (pv 0) zd)))
  (ze (Q0 (i:=3) (NB:=["pace","many"]) (FR:=["course","trip"]) (js:=[0,2]) rfl rfl (λx c h=>Qk rfl rfl x c h) (.cons rfl rfl rfl ⟨_,rfl⟩ (.cons rfl rfl rfl ⟨_,rfl⟩ .nil)) rfl (by decide +kernel) rfl (by decide +kernel) Zq.nd rfl rfl (by rfl) (xh (pv 1)) (by intro _ _ _;refine⟨?_,?_,?_⟩;(exact(Z6 (K:=K) (n:=2) rfl rfl (zP (pgl (i:=0) (show List.Nodup (["pace","many","course","trip"]:List Str) by decide +kernel)) (zP (pgl (i:=1) (show List.Nodup (["pace","many","course","trip"]:List Str) by decide +kernel)) xI))));(exact xJ);(exact(zB cMo hr3 (za (pv 2) (za (zH (za (pv 3) (za (zr zK (pv 1) (pv 0)) zd))) zd))))))
  (ze (psl (i:=4) Zq.nd zh)
  (ze (qM PassesOwn.never rfl (xh (pv 3)) (qY rfl (zP (pgl (i:=5) Zq.nd) (zP (pgl (i:=6) Zq.nd) xI))) (zj (psl (i:=4) Zq.nd (zB cG hr1 (za (pv 6) (za (pv 4) zd))))))
  (zj (zD (zB cR hr2 (za (zB cL hr2 (za (vc (NB:=["top","bottom"]) rfl (by decide +kernel) (by decide +kernel) rfl (by decide +kernel) (xh (pv 3)) (by intro _ _ _;refine⟨?_,?_,?_⟩;(exact(Z6 (K:=K) (n:=2) rfl rfl (zP (pgl (i:=0) (show List.Nodup (["top","bottom"]:List Str) by decide +kernel)) (zP (pgl (i:=1) (show List.Nodup (["top","bottom"]:List Str) by decide +kernel)) xI))));(exact xJ);(exact(pv 0)))) zd)) (za (pv 4) zd))))))))),?_⟩
 try dsimp only[zU,Cx.nox]
 refine⟨_,rL,c,pb,sb,tk,ws,trs,some lo,some hi,rL,hco,wl,wh,?_⟩
 dsimp only[zG]
 have bT:Bd 3000 (2*(hi.1 - lo.1)):=(zhb wl wh (λl r e1 e2=>by cases e1;cases e2;exact hlh) _ rfl).2
 have hT:lv (VG (some lo) (some hi))=V.int (2*(hi.1 - lo.1)):=rfl
 rw[hT]
 generalize 2*(hi.1 - lo.1)=T at *
 have bM:∀{n:Nat}{i:Int},Bd n i->n<=1000000->Bd 1000000 i:=λh l=>h.mono l
 rcases q:Z with⟨l1,l8,pos,bk,bg,qn,bqn,bqd,zt⟩
 have yl:=hP.1
 have ql:(ptL T tk kgs).length=kgs.length:=we ..
 refine zM (λσ' G=>∃Dc us,σ'=[Sr c,Sr Am,Si T,Sr Dc,none,none,none]/\zi H G/\G Dc=some (.lst us)/\Zy G us (ptL T tk kgs)) ?_ ?_
 rotate_left
 ·intro nx hnx
  refine⟨_,rL,Am,rL,⟨_,SqL.of hA⟩,λDc hDc=>?_⟩
  refine xY (js:=[0,2]) (J:=Itl K Am) (g:=zai K 2 (v9 (zG 0) (v9 (zG 1) za5))) (te:=_) (n:=2) (xs:=ys) (λi v G=>∃q r,(ptL T tk kgs)[i]? = some q/\v = .ref r/\zp G r q) (λi v G G' e ⟨q,r,q0,q1,q2⟩=>⟨q,r,q0,q1,e _ _ q2⟩) hDc (xA hA) (xV ∅) ?_ ?_
  ·intro i y zs G Q' hy hz S hQ
   rcases q:hP.2 i y hy with⟨⟨k,g⟩,e,hu,rfl,he⟩
   have mu:=wM hu
   obtain⟨k0,g0⟩:=pos _ mu
   have bk':=bk _ mu
   have bg':=bg _ mu
   dsimp only at k0 g0 bk' bg' he
   obtain⟨w1,w2,rfl⟩:=zc3 hz
   refine⟨e,_,rL,.of (S _ _ he),rL,_,_,rL,_,_,rL,rL,⟨rL,?_⟩⟩
   refine⟨_,rfl,_,rfl,_,rfl,_,rfl,_,_,rfl,rfl,⟨bM bg' (by decide),bM bk' (by decide)⟩,zL2,λtq htq=>?_⟩
   have s1:=zi.upd (o:=.tup [.int T,.int (g*k)]) htq
   refine⟨c,tq,dx,fs,tp,tk,T,g*k,rfl,s1 _ _ (S _ _ hc),et,s1 _ _ (S _ _ htp),zg,yM (wW g0 k0),bT.md,(bg'.mul bk').md,zt,λr H' s2 hr=>hQ _ _ (s1.trans s2) ⟨_,r,by unfold ptL;rw[wo,hu];rfl,rfl,hr⟩⟩
  intro us G S hDG hul hR
  exact hnx _ _ ⟨Dc,us,rfl,S,hDG,by rw[ql];lia,hR⟩
 rintro σ0 G hQq;rcases q:hQq with⟨Dc,us,rfl,S,hDG,hul,hRs⟩
 generalize hqs:ptL T tk kgs=qs at *
 refine zM (λσ' G'=>G=G'/\σ'=[Sr c,Sr Am,Si T,Sr Dc,Si 0,none,none]) ?_ ?_
 rotate_left
 ·intro nx hnx
  exact hnx _ _ ⟨rL,rL⟩
 rintro σ1 G1 ⟨rfl,rfl⟩
 refine zM (λσ' G'=>G=G'/\∃y5 y6,σ'=[Sr c,Sr Am,Si T,Sr Dc,some (.int (qI qs)),y5,y6]) ?_ ?_
 rotate_left
 ·intro nx hnx
  refine⟨_,rL,Dc,rL,⟨_,SqL.of hDG⟩,?_⟩
  refine qA (K:=K) (xs:=us) (λi σ' G'=>G=G'/\∃y5 y6,σ'=[Sr c,Sr Am,Si T,Sr Dc,some (.int (qI (qs.take i))),y5,y6]) ⟨rfl,none,none,rfl⟩ (λi σ' G' _ h=>by rw[<-h.1];exact SqL.of hDG) ?_ ?_
  ·rintro i x σ' G' hx ⟨rfl,y5,y6,rfl⟩
   rcases q:hRs i x hx with⟨q,r0,hq,rfl,hr0⟩
   have dq:0<(q.den:Int):=den_pos q
   refine⟨r0,_,rL,.of hr0,rL,_,_,rL,_,_,rL,rL,?_⟩
   dsimp only[zG]
   refine⟨_,rfl,_,rfl,(q.den:Int),qI (qs.take i),rfl,by lia,zbU _,?_⟩
   have eg:qI (qs.take (i+1))=((Int.gcd (q.den:Int) (qI (qs.take i)):Nat):Int):=by
    rw[yE,hq];exact Qn ..
   dsimp only[zG]
   rw[<-eg]
   exact⟨rL,_,_,rL⟩
  ·rintro σ' G' ⟨rfl,y5,y6,rfl⟩
   exact hnx _ _ ⟨rfl,y5,y6,by rw[hul,yt]⟩
 rintro σ' G' ⟨rfl,y5,y6,rfl⟩
 refine⟨_,rL,Dc,rL,⟨_,SqL.of hDG⟩,λDe hDe=>?_⟩
 refine v6 (J:=Itl K Dc) (g:=zai K 2 (v9 (zG 0) (v9 (zG 1) za5))) (te:=_) (n:=2) (xs:=us) (λi v G=>∃n,(qs.map Rat.num)[i]? = some n/\v = .int n) (λ_ _ _ _ _ h=>h) hDe (xA hDG) (xV ∅) ?_ ?_
 ·intro i y zs G2 Q' hy hz S2 hQ
  rcases q:hRs i y hy with⟨q,r0,hq,rfl,hr0⟩
  obtain⟨w1,w2,rfl⟩:=zc3 hz
  exact⟨r0,_,rfl,.of (S2 _ _ hr0),rfl,_,_,rfl,_,_,rfl,rfl,_,rfl,hQ _ _ (zi.refl _) ⟨_,by rw[wo,hq];rfl,rfl⟩⟩
 intro us2 G2 S2 hDG2 hul2 hR2
 have e2:us2=(qs.map Rat.num).map V.int:=XX (by rw[we];lia) λi v e=>hR2 i v e
 rw[e2]at hDG2
 refine⟨De,qs.map Rat.num,rfl,hDG2,?_,by rw[we];lia,_,rfl,?_⟩
 ·intro x m
  obtain⟨q,mq,rfl⟩:=wn.mp m
  exact⟨qn q mq,bqn q mq⟩
 obtain⟨g0,q,mq,gl⟩:=XU (qs:=qs) ∅
 refine⟨xL (qs.map Rat.num),qI qs,rfl,by lia,(Bd.of_le (j:=(q.den:Int)) ∅ (bqd q mq)).md,λr H' s3 hr=>kk r H' (S.trans (S2.trans s3)) hr⟩
inductive zdp  (vs:List V) (H:Hp) (Q:VK) (_e3:XK):Prop
 | mk:∀r a bs b0 l1 l2,(vs=[.ref r,.ref a])->(Pl H r a bs b0 (some l1) (some l2))->(plB b0 bs (some l1) (some l2)=true)->(∀H',zi H H'->Q .non H')->zdp vs H Q _e3
theorem ze3:zA ["row","walls"] ["row","walls"] (zk qg):=scq
theorem ziC (D:Df K mg "refuse_no_box" qg ["row","walls"] []) (cRu:Cal P w K mg base "refuse_uneven" 7 ["row","walls"] [] zg5):Cal P w K mg base "refuse_no_box" 8 ["row","walls"] [] zdp:=by
 refine D.calq (k:=7) ze3 (λf cdv A outer s H vs Q E hr7 h=>?_)
 rcases q:h with⟨r,a,bs,b0,l1,l2,rfl,pl,hp,k⟩
 refine⟨_,(ze (xm (zB cRu hr7 (za (pv 0) (za (pv 1) zd)))) (zj (zX ((Xh (zE qC (pxt (pv 1)) xf (zF _)) (ZK (zE qC (pxt (pv 1)) xf (zF _))))).pt qt zN))),?_⟩
 try dsimp only[zU,Cx.nox]
 refine⟨_,rL,_,rL,r,a,bs,b0,_,_,rL,pl,hp,λH1 e1=>?_⟩
 try dsimp only
 rcases q:pl.walls with⟨v1,v2,ha,h1,h2⟩
 have ha1:=e1 _ _ ha
 rcases q:h1 with⟨a1,_,_,rfl,_⟩
 rcases q:h2 with⟨a2,_,_,rfl,_⟩
 refine⟨_,rL,a,_,_,_,rL,rL,.of ha1,at0 ..,rL,_,rL,xc ⟨_,rL,a,_,_,_,rL,rL,.of ha1,at1 ..,rL,_,rL,xc (k H1 e1)⟩⟩
structure GmZ (T:Int) (ps:List Int) (M:Nat):Prop where
 m1:1<=M
 m2:M<=ps.length
 m3:xK ps T M=true
 m4:∀m:Nat,1<=m->m<=ps.length->xK ps T m=true->m<=M
theorem GmZ.uniq {T:Int}{ps:List Int}{M M':Nat}(h:GmZ T ps M) (h':GmZ T ps M'):M=M':=Nat.le_antisymm (h'.m4 _ h.m1 h.m2 h.m3) (h.m4 _ h'.m1 h'.m2 h'.m3)
structure KgZ (T:Int) (pss:List (Int×List Int)) (kgs:List (Int×Int)):Prop where
 pm:(kgs.map Prod.fst).Perm (pss.map Prod.fst)
 so:(kgs.map Prod.fst).Pairwise (·<=·)
 gm:∀u∈kgs,∃ps M,(u.1,ps)∈pss/\u.2=((M:Nat):Int)/\GmZ T ps M
structure RoG (bs:List Bl) (lo hi:Rat×Rat) (T s:Int) (tk:Rat) (pss:List (Int×List Int)):Prop where
 esb:s=sbO bs (some lo) (some hi)
 etk:tk=Rat.divInt (sbO bs (some lo) (some hi)) (pbO bs (some lo) (some hi))
 eT:T=2*((trB (pbO bs (some lo) (some hi)) (sbO bs (some lo) (some hi)) hi).1 - (trB (pbO bs (some lo) (some hi)) (sbO bs (some lo) (some hi)) lo).1)
 eph:phO (trB (pbO bs (some lo) (some hi)) (sbO bs (some lo) (some hi)) lo).1 T (bs.map λb=>trB (pbO bs (some lo) (some hi)) (sbO bs (some lo) (some hi)) (b.pl,b.sp))=pss
 l8:pss.length<=8
 zps:∀e∈pss,Phs e.2 T
 l1p:∀e∈pss,1<=e.2.length
 k0:∀e∈pss,0<e.1
 bk:∀e∈pss,Bd 3000 e.1
 pt:∀e∈pss,∀g:Nat,1<=g->g<=e.2.length->0<(vF T e.1 g tk).num/\Bd 400 (vF T e.1 g tk).num/\Bd 400 ((vF T e.1 g tk).den:Int)
def PcA (G:Hp) (us:List V) (s:Int) (kgs:List (Int×Int)):Prop:=us.length=kgs.length/\∀(i:Nat) (v:V),us[i]? = some v->∃u x y,kgs[i]? = some u/\v = .ref x/\G x=some (.tup [.ref y,.int u.2])/\zp G y (Rat.divInt u.1 s)
theorem PcA.same {G G':Hp}{us:List V}{s:Int}{kgs:List (Int×Int)} (h:PcA G us s kgs) (e:zi G G'):PcA G' us s kgs:=⟨h.1,λi v q=>let ⟨u,x,y,q1,q2,q3,q4⟩:=h.2 i v q;⟨u,x,y,q1,q2,e _ _ q3,e _ _ q4⟩⟩
inductive zfm  (vs:List V) (H:Hp) (Q:VK) (_e3:XK):Prop
 | mk:∀r a bs b0 lo hi T s tk pss,(vs=[.ref r,.ref a])->(Ln H r a bs (some lo) (some hi))->(LnZ bs (some lo) (some hi))->(bs[0]? = some b0)->(plB (tb b0) (bs.map tb) (some lo) (some hi)=true)->(RoG bs lo hi T s tk pss)->((pss=[]->∀H',zi H H'->Q .non H'))->((pss≠[]->∀z H' kgs q l us,zi H H'->KgZ T pss kgs->H' z=some (.tup [.ref q,.ref l])->zp H' q (xn (ptL T tk kgs))->H l=none->H' l=some (.lst us)->PcA H' us s kgs->Q (.ref z) H'))->zfm vs H Q _e3
theorem JZ:zA ["row","walls","course","phases","manies"] ["row","walls"] (zk XD):=scq
theorem zfZ {es:List Ent}(hk:(es.map (·.1)).Nodup){e:Ent}(m:e∈es):(es.find? λx=>decide (x.1=e.1))=some e:=by
 cases hf:es.find? λx=>decide (x.1=e.1)with
 | none=>exact absurd (wm rfl) (Yz.mp hf e m)
 | some x =>
  have mx:=Wx hf
  have kx:x.1=e.1:=wG (List.find?_some (p:=λy:Ent=>decide (y.1=e.1)) hf)
  by_cases c:x=e
  ·rw[c]
  ·exact absurd kx (PhA.put.nodup_ne (f:=λy:Ent=>y.1) hk mx m c)
theorem zgC {H:Hp}{us:List V}{ms:List Int}{F:Int->Nat->Prop}(hl:us.length=ms.length) (h:∀(i:Nat) (v:V),us[i]? = some v->∃(k:Int) (x:Addr) (M:Nat),ms[i]? = some k/\v = .ref x/\H x=some (.tup [.int k,.int M])/\F k M) :
  ∃kgs:List (Int×Int),kgs.map Prod.fst=ms/\Zx H us kgs/\∀u∈kgs,∃M:Nat,u.2=(M:Int)/\F u.1 M:=by
 induction us generalizing ms with
 | nil =>
  cases ms with
  | nil=>exact⟨[],rfl,⟨rfl,λi v e=>by simp at e⟩,λu m=>by cases m⟩
  | cons=>simp at hl
 | cons v us ih =>
  cases ms with
  | nil=>simp at hl
  | cons k ms =>
   obtain⟨kgs,e1,e2,e3⟩:=ih (ms:=ms) (by simpa using hl) (λi v e=>by have:=h (i+1) v (by simpa using e);simpa using this)
   obtain⟨k',x,M,q1,rfl,q3,q4⟩:=h 0 v rfl
   cases q1
   refine⟨(k,(M:Int))::kgs,by rw[yA,e1],⟨by simp[e2.1],λi w e=>?_⟩,λu m=>?_⟩
   ·match i,e with
    | 0,e=>cases e;exact⟨_,x,rfl,rfl,q3⟩
    | i+1,e=>exact e2.2 i w (by simpa using e)
   ·rcases wx.mp m with rfl | m
    ·exact⟨M,rL,q4⟩
    ·exact e3 u m
theorem ziG {fi:Addr}{fdi:FuncData}(D:Df K mg "round_of" XD ["row","walls"] []) (T:TxB K mg) (T3:Tx3 K mg aN) (TC:TCo K C) (M:Mk K C fi) (Fi:Zu P w K mg base CX0 4 fi fdi ["self","row","walls"] (zg0 C)) (hmC:mg "Course" = some (.ref C)) (Bi:v5 K fdi ["self","row","walls"] [])
  (cNx:Cal P w K mg base "refuse_no_box" 8 ["row","walls"] [] zdp) (cPh:Cal P w K mg base "phases_of" 2 ["course"] [] (zjc C)) (cGm:Cal P w K mg base "greatest_many" 2 ["phases","trip"] [] zja) (cTr:Cal P w K mg base "trip_of" 1 ["course"] [] (QL C)) (cLr:Cal P w K mg base "least_round" 4 ["course","manies"] [] (zfe C)) (cR:Cal P w K mg base "ratio" 2 ["top","bottom"] [] qR) :
  Cal P w K mg base "round_of" 9 ["row","walls"] [] zfm:=by
 refine D.calq (k:=8) JZ (λf cdv A outer s H vs Q E hr8 h=>?_)
 rcases q:h with⟨r,a,bs,b0,lo,hi,Tt,ss,tk,pss,rfl,ln,lz,h0,hp,Z0,kN,k⟩
 have hr5:z6 5 _:=hr8.md
 have hr4:z6 4 _:=hr8.md
 have hr2:z6 2 _:=hr8.md
 have hr1:z6 1 _:=hr8.md
 have hu:=WK (Nat.add_le_add_left (show 1<=64 by decide) _) hr8.units
 obtain⟨b0',e0',pl⟩:=ln.pl
 rw[h0]at e0';cases e0'
 refine⟨_,(ze (xm (zB cNx hr8 (za (pv 0) (za (pv 1) zd))))
  (ze (Qv (i:=2) JZ.nd rfl (Or.inr rfl) (zcc M Fi hr5 (by rfl) hmC Bi .nil zeC (za (pv 0) (za (pv 1) zd))))
  (ze (Qv (i:=3) JZ.nd rfl (Or.inr rfl) (zB cPh hr2 (za (pv 2) zd)))
  (ze (zX (zE Zb (zJ zcE (by rfl) T.nLen PySem.boot_len (za (pv 3) zd)) zh (zF _)) (zj (zD xf)) zN)
  (ze (Q0 (i:=4) (NB:=["pace"]) (FR:=["phases","course"]) (js:=[3,2]) rfl rfl (λx c h=>Qk rfl rfl x c h) (.cons rfl rfl rfl ⟨_,rfl⟩ (.cons rfl rfl rfl ⟨_,rfl⟩ .nil)) rfl (by decide +kernel) rfl (by decide +kernel) JZ.nd rfl rfl (by rfl) (xh (zJ (zaW rfl) (by rfl) T3.nSorted WD (za (pv 3) zd))) (by intro _ _ _;refine⟨?_,?_,?_⟩;(exact(pgl (i:=0) (show List.Nodup (["pace","phases","course"]:List Str) by decide +kernel)));(exact xJ);(exact(zH (za (pv 0) (za (zB cGm hr2 (za (zgy hu (pv 1) (pv 0) (λ_ _=>rfl)) (za (zB cTr hr1 (za (pv 2) zd)) zd))) zd))))))
  (zj (zD (zH (za (zB cLr hr4 (za (pv 2) (za (pv 4) zd))) (za (qK (NB:=["pace","many"]) (FR:=["course"]) (js:=[2]) rfl rfl (λx c h=>JC rfl x c h) (.cons rfl rfl rfl ⟨_,rfl⟩ .nil) rfl (by decide +kernel) rfl (by decide +kernel) (xh (pv 4)) (by intro _ _ _;refine⟨?_,?_,?_⟩;(exact(Z6 (K:=K) (n:=2) rfl rfl (zP (pgl (i:=0) (show List.Nodup (["pace","many","course"]:List Str) by decide +kernel)) (zP (pgl (i:=1) (show List.Nodup (["pace","many","course"]:List Str) by decide +kernel)) xI))));(exact xJ);(exact(zH (za (zB cR hr2 (za (pv 0) (za (zgz (K:=K) rfl (pv 2) rfl) zd))) (za (pv 1) zd)))))) zd)))))))))),?_⟩
 try dsimp only[zU,Cx.nox]
 refine⟨_,rL,_,rL,r,a,_,_,lo,hi,rL,pl,hp,λH1 e1=>?_⟩
 try dsimp only
 have ln1:=ln.same e1
 obtain⟨us,hrr,hB⟩:=ln1.row
 rcases q:ln1.walls with⟨v1,v2,ha,h1,h2⟩
 refine⟨_,rL,_,rL,λc dx hc hdx ne=>?_⟩
 have S0:zi H1 (upd (upd H1 dx (.own c)) c (.ins C dx [])):=(zi.upd hdx).trans (zi.upd (by rw[zO ne.symm];exact hc))
 refine⟨c,dx,r,a,us,bs,v1,v2,some lo,some hi,rL,zg,S0 _ _ hrr,hB.keeps (.of S0),S0 _ _ ha,h1.wl.keeps (.of S0),h2.wl.keeps (.of S0),ln.l8,λt mt=>⟨(lz.sz t mt).1.sz,(lz.sz t mt).2.sz⟩,λH2 X1 hcn=>⟨rL,?_⟩⟩
 have hco:=hcn.co
 have S2:zi H H2:=e1.trans λb o e=>X1 b o (zQ e hc) (S0 b o e)
 dsimp only[zG]
 have Z:=lz.bd ln.l8
 rcases q:Z0 with⟨esb,etk,eT,eph,l8p,zps,l1p,k0,bk,pt⟩
 have hco':=hco
 rw[<-etk]at hco'
 generalize hpb:pbO bs (some lo) (some hi)=pb at *
 generalize hsb:sbO bs (some lo) (some hi)=sb at *
 have hlh:(trB pb sb lo).1<(trB pb sb hi).1:=Z.lh _ _ rfl rfl
 have wl:Wb (some (trB pb sb lo)):=Z.bl
 have wh:Wb (some (trB pb sb hi)):=Z.bh
 have hco2:Xd H2 C c pb sb tk (bs.map Bl.wt) (bs.map λb=>trB pb sb (b.pl,b.sp)) (some (trB pb sb lo)) (some (trB pb sb hi)):=hco'
 refine⟨_,rfl,c,pb,sb,_,_,_,_,_,rfl,hco2,wl,wh,by rw[we];exact ln.l8,λad es H3 S3 ph eph2=>?_⟩
 dsimp only[zG]
 rw[<-eT,eph]at eph2
 have hd:=ph.d
 have esl:es.length=pss.length:=by rw[<-eph2];unfold Xf;rw[we]
 have hkm:es.map (·.1)=pss.map Prod.fst:=by rw[<-eph2];unfold Xf;rw[yW];rfl
 have mps:∀e∈es,(e.1,e.2.2)∈pss:=λe m=>by rw[<-eph2];exact wn.mpr ⟨e,m,rfl⟩
 have SH3:zi H H3:=S2.trans S3
 refine⟨_,rL,ad,_,rL,hd,rL,_,rL,qT (λzc=>?_) (λzc=>?_)⟩
 ·have z0:((Xe es).length:Int)=0:=V.int.inj (wG zc)
  rw[za4,esl]at z0
  exact kN (yX.mp ∅) H3 SH3
 refine Q8 ?_
 have ne0:pss≠[]:=λe=>zc (wm (by rw[za4,esl,e];rfl))
 try dsimp only
 have hco3:=hco2.same S3
 refine zM (λσ' G=>∃(Dm:Addr) (us:List V) (kgs:List (Int×Int)),σ'=[Sr r,Sr a,Sr c,Sr ad,Sr Dm]/\zi H3 G/\G Dm=some (.lst us)/\Zx G us kgs/\KgZ Tt pss kgs) ?_ ?_
 rotate_left
 ·intro nx hnx
  refine⟨_,rfl,ad,_,pss.map Prod.fst,rfl,hd,by rw[<-hkm];unfold Xe;rw[yW,yW];rfl,by rw[we];lia,λDs ms hDs pm sm=>?_⟩
  have S4:=zi.upd (o:=.lst (ms.map V.int)) hDs
  have hDs':upd H3 Ds (.lst (ms.map V.int)) Ds=some (.lst (ms.map V.int)):=zg
  generalize upd H3 Ds (.lst (ms.map V.int))=H4 at S4 hDs'
  have msl:ms.length=pss.length:=by rw[pm.length_eq,we]
  refine⟨Ds,rL,⟨_,SqL.of hDs'⟩,λDm hDm=>?_⟩
  refine xY (js:=[3,2]) (J:=Itl K Ds) (g:=zG 0) (te:=_) (n:=1) (xs:=ms.map V.int) (λi v G=>∃(kp:Int) (x:Addr) (M:Nat),ms[i]? = some kp/\v = .ref x/\G x=some (.tup [.int kp,.int M])/\∃ps,(kp,ps)∈pss/\GmZ Tt ps M) (λi v G G' e ⟨kp,x,M,q0,q1,q2,q3⟩=>⟨kp,x,M,q0,q1,e _ _ q2,q3⟩) hDm (xA hDs') (xV (by rw[we];lia)) ?_ ?_
  ·intro i y zs G Q' hy hz S hQ
   rw[wo]at hy
   cases hm:ms[i]? with
   | none=>rw[hm]at hy;cases hy
   | some kp =>
   rw[hm]at hy;cases hy
   obtain⟨w1,rfl⟩:=Qp hz
   have mk:kp∈es.map (·.1):=by rw[hkm];exact pm.subset (wM hm)
   rcases q:wn.mp mk with⟨⟨kp',l,ps⟩,me,rfl⟩
   have mp:=mps _ me
   have hl3:=ph.l _ me
   dsimp only at mp hl3 hm
   have SG:=S4.trans S
   have vk:Zw (Xe es) (Sum.inl kp')=some (.ref l):=by rw[VH,zfZ ph.k me];rfl
   have gd:zaR G ad (.int kp') (some (.ref l)):=by have:=zaR.k (k:=Sum.inl kp') (SG _ _ hd);rw[vk]at this;exact this
   refine⟨rL,_,rL,_,rL,_,rL,ad,.ref l,rL,gd,_,rL,c,pb,sb,tk,_,_,some (trB pb sb lo),some (trB pb sb hi),rL,hco3.same SG,wl,wh,?_⟩
   have eT':lv (VG (some (trB pb sb lo)) (some (trB pb sb hi)))=V.int Tt:=by rw[eT];rfl
   rw[eT']
   refine⟨l,ps,Tt,rL,SG _ _ hl3,zps _ mp,l1p _ mp,λM G1 S1 m1 m2 m3 m4=>⟨zL2,λe he=>hQ _ _ (S1.trans (zi.upd he)) ⟨kp',e,M,hm,rL,zg,ps,mp,m1,m2,m3,m4⟩⟩⟩
  intro us G S hDG hul hR
  obtain⟨kgs,e1,e2,e3⟩:=zgC (H:=G) (us:=us) (ms:=ms) (F:=λkp M=>∃ps,(kp,ps)∈pss/\GmZ Tt ps M) (by rw[we]at hul;exact hul) hR
  exact hnx _ _ ⟨Dm,us,kgs,rfl,S4.trans S,hDG,e2,by rw[e1];exact pm,by rw[e1];exact sm,λu m=>let ⟨M,q1,ps,q2,q3⟩:=e3 u m;⟨ps,M,q2,q1,q3⟩⟩
 rintro σ' G hQq;rcases q:hQq with⟨Dm,us,kgs,rfl,SG,hDm,hPm,kz⟩
 have hcoG:=hco3.same SG
 have ztk:Sz 4400 tk:=by rw[etk];exact Z.tz.md
 have eT2:2*((trB pb sb hi).1 - (trB pb sb lo).1)=Tt:=eT.symm
 have kl:kgs.length=pss.length:=by have:=kz.pm.length_eq;rw[we,we]at this;exact this
 have pl0:1<=pss.length:=by rcases pss with _ | ⟨x,l⟩;exact absurd rfl ne0;simp
 have each:∀u∈kgs,(0<u.1/\0<u.2)/\Bd 3000 u.1/\Bd 400 u.2/\0<(vF Tt u.1 u.2 tk).num/\Bd 400 (vF Tt u.1 u.2 tk).num/\Bd 400 ((vF Tt u.1 u.2 tk).den:Int):=λu m=>by
  rcases q:kz.gm u m with⟨ps,M,q1,q2,q3⟩
  have l8:=(zps _ q1).l8
  have m1:=q3.m1
  have m2:=q3.m2
  dsimp only at l8
  rw[q2]
  exact⟨⟨k0 _ q1,by lia⟩,bk _ q1,Bd.mono (m:=10) (show (M:Int).natAbs<2^10 by lia) (by decide),pt _ q1 M m1 m2⟩
 have each':∀q∈ptL Tt tk kgs,0<q.num/\Bd 400 q.num/\Bd 400 (q.den:Int):=λq m=>by
  obtain⟨u,mu,rfl⟩:=wn.mp m
  exact(each u mu).2.2.2
 have lrz:LrZ Tt tk kgs:=⟨by lia,by lia,λu m=>(each u m).1,λu m=>(each u m).2.1,λu m=>(each u m).2.2.1,λq m=>(each' q m).1,λq m=>(each' q m).2.1,λq m=>(each' q m).2.2,ztk⟩
 refine⟨_,rfl,_,rfl,c,Dm,us,kgs,pb,sb,tk,_,_,trB pb sb lo,trB pb sb hi,rfl,hcoG,wl,wh,hlh,hDm,hPm,by rw[eT2];exact lrz,λq G1 S1 hq=>?_⟩
 rw[eT2]at hq
 have hDm1:=S1 _ _ hDm
 have uln:=hPm.1
 refine⟨_,rL,Dm,rL,⟨_,SqL.of hDm1⟩,λDn hDn=>?_⟩
 obtain⟨dx4,fs4,hc4,F4⟩:=hcoG.same S1
 refine xY (js:=[2]) (J:=Itl K Dm) (g:=zai K 2 (v9 (zG 0) (v9 (zG 1) za5))) (te:=_) (n:=2) (xs:=us) (λi v G=>∃u x y,kgs[i]? = some u/\v = .ref x/\G x=some (.tup [.ref y,.int u.2])/\zp G y (Rat.divInt u.1 sb)) (λi v G G' e ⟨u,x,y,q0,q1,q2,q3⟩=>⟨u,x,y,q0,q1,e _ _ q2,e _ _ q3⟩) hDn (xA hDm1) (xV ∅) ?_ ?_
 ·intro i y zs G2 Q' hy hz S2' hQ
  rcases q:hPm.2 i y hy with⟨u,e,hu',rfl,he⟩
  obtain⟨w1,w2,rfl⟩:=zc3 hz
  refine⟨e,_,rL,.of (S2' _ _ (S1 _ _ he)),rL,_,_,rL,_,_,rL,rL,⟨rL,?_⟩⟩
  refine⟨_,rL,_,rL,c,C,dx4,fs4,_,rL,S2' _ _ hc4,TC.cls,TC.sb,F4.sb,u.1,sb,rL,yM Z.sb.1,Z.sb.2.md,λy G3 S3' hy3=>?_⟩
  exact⟨_,rL,zL2,λx hx=>hQ _ _ (S3'.trans (zi.upd hx)) ⟨u,x,y,hu',rL,zg,zi.upd hx _ _ hy3⟩⟩
 intro us2 G2 S2' hDG2 hul2 hR2
 refine⟨zL2,λz hz=>?_⟩
 have SZ:=zi.upd (o:=.tup [.ref q,.ref Dn]) hz
 have fr:H Dn=none:=by
  cases e:H Dn with
  | none=>rfl
  | some o=>rw[S1 _ _ (SG _ _ (SH3 _ _ e))]at hDn;cases hDn
 exact k ne0 z _ kgs q Dn us2 (SH3.trans (SG.trans (S1.trans (S2'.trans SZ)))) kz zg (SZ _ _ (S2' _ _ hq)) fr (SZ _ _ hDG2) (PcA.same ⟨by lia,λi v e=>by rw[esb];exact hR2 i v e⟩ SZ)
end
theorem vI {t u:TS}{D:Zf}{σ:St}{G:Hp}(h:∀nx:St->Hp->Prop,(∀σ' G',u D σ' G'->nx σ' G')->t { D with nx:=nx } σ G):zbz t u D σ G:=h _ λ_ _ q=>q
def Qm (l0 z:Int) (t:Int×Int):List (Int×Int):=if t.2=0 then []else [(t.2,z - t.1),(t.2,2*l0 - z - t.1)]
def zY (l0 z:Int):List (Int×Int)->List (Int×Int)
 | []=>[]
 | t::r=>Qm l0 z t++zY l0 z r
theorem Ja (l0 z:Int):∀a b:List (Int×Int),zY l0 z (a++b)=zY l0 z a++zY l0 z b
 | [],b=>rfl
 | t::a,b=>by show Qm l0 z t++zY l0 z (a++b)=_;rw[Ja l0 z a b,<-yF];rfl
theorem za6 {l0 z:Int}{trs:List (Int×Int)}{i:Nat}{t:Int×Int}(h:trs[i]? = some t):zY l0 z (trs.take (i+1))=zY l0 z (trs.take i)++Qm l0 z t:=by
 rw[yE,h,Ja]
 show _++(Qm l0 z t++[])=_
 rw[yB]
theorem ZZ (l0 z:Int):∀a:List (Int×Int),(zY l0 z a).length<=2*a.length
 | []=>wg _
 | t::a=>by
  have:=ZZ l0 z a
  have h2:(Qm l0 z t).length<=2:=by unfold Qm;split <;> simp
  show (Qm l0 z t++zY l0 z a).length<=_
  rw[wI,ww];lia
theorem Zd {H G:Hp}{L:Addr}{o:HO}(S:zi H G) (hL:H L=none):zi H (upd G L o):=λb u e=>by rw[zO (zQ e hL)];exact S b u e
theorem Zx.add {H H':Hp}{us:List V}{ps:List (Int×Int)}{u:Int×Int}{a:Addr}(h:Zx H us ps) (e:xp H H') (ha:H' a=some (.tup [.int u.1,.int u.2])):Zx H' (us++[.ref a]) (ps++[u]):=by
 have h':=h.tups e
 refine⟨by simp[h'.1],λi v ev=>?_⟩
 by_cases c:i<us.length
 ·rw[wU c]at ev
  obtain⟨w,b,e1,e2,e3⟩:=h'.2 i v ev
  exact⟨w,b,by rw[wU (by rw[<-h'.1];exact c)];exact e1,e2,e3⟩
 ·rw[wN ∅]at ev
  have:i=us.length:=by
   have:=(wP.mp ev).1
   simp at this;lia
  subst this
  rw[Wg]at ev
  cases ev
  exact⟨u,a,by rw[wN (by rw[h'.1];exact wg _),h'.1,Wg];rfl,rfl,ha⟩
section
variable {P:Program}{w:World}{K:Fg}{mg:Str->Option Value}{base:Heap}{C CE:Addr}{aN tM:Nat}
inductive zfc (C:Addr) (vs:List V) (H:Hp) (Q:VK) (_e3:XK):Prop
 | mk:∀c z pb sb tk ws trs l0 hi,(vs=[.ref c,.int z])->(Xd H C c pb sb tk ws trs (some l0) hi)->(trs.length<=8)->(Bd 2000 l0.1)->(∀L us H',zi H H'->H L=none->H' L=some (.lst us)->Zx H' us (zY l0.1 z trs)->Q (.ref L) H')->zfc C vs H Q _e3
theorem JU:zA ["course","spot","gaps","start","speed"] ["course","spot"] (zk Qx):=scq
theorem zii (D:Df K mg "gaps_to" Qx ["course","spot"] []) (TC:TCo K C):Cal P w K mg base "gaps_to" 1 ["course","spot"] [] (zfc C):=by
 rcases r:D.calq (k:=0) JU with⟨c,z,pb,sb,tk,ws,trs,l0,hi,rfl,hco,hl8,bl,k⟩
 obtain⟨dx,fs,hc,F⟩:=id hco
 rcases q:F.low with⟨vl,el,al,rfl,hal⟩
 rcases q:F.tracks with⟨tl,tv,et,htl,hT⟩
 refine⟨_,(ze (psl (i:=2) JU.nd (zV zd))
  (ze (qM PassesOwn.never rfl (xh (xz (pv 0) rfl)) (qY rfl (zP (pgl (i:=3) JU.nd) (zP (pgl (i:=4) JU.nd) xI))) (zj (zX (zE zkd (pv 4) zh (zF _)) (ze (xm (ZI yC yR yS qr (pv 2) (za (zH (za (pv 4) (za (zr x6 (pv 1) (pv 3)) zd))) zd)))
  (zj (xm (ZI yC yR yS qr (pv 2) (za (zH (za (pv 4) (za (zr x6 (zr x6 (zr zK zh (pxt (xz (pv 0) rfl))) (pv 1)) (pv 3)) zd))) zd))))) zN)))
  (zj (zD (pv 2))))),?_⟩
 try dsimp only[zU,Cx.nox]
 refine⟨by show 0<=sizeLine;lia,λL hL=>?_⟩
 try dsimp only
 have htl0:=hT.1
 have S0:zi H (upd H L (.lst [])):=zi.upd hL
 have L0:upd H L (.lst []) L=some (.lst []):=zg
 generalize upd H L (.lst [])=H0 at S0 L0
 refine zM (λσ' G=>∃us x1 x2,σ'=[Sr c,Si z,Sr L,x1,x2]/\zi H G/\G L=some (.lst us)/\Zx G us (zY l0.1 z trs)) ?_ ?_
 rotate_left
 ·intro nx hnx
  refine⟨_,rL,c,C,dx,fs,_,rL,S0 _ _ hc,TC.cls,TC.tracks,et,tl,rL,⟨_,SqL.of (S0 _ _ htl)⟩,?_⟩
  refine qA (xs:=tv) (λi σ' G=>∃us x1 x2,σ'=[Sr c,Si z,Sr L,x1,x2]/\zi H G/\G L=some (.lst us)/\Zx G us (zY l0.1 z (trs.take i)))
   ⟨[],none,none,rfl,S0,L0,⟨rfl,λi v e=>by cases e⟩⟩ (λi σ' G _ ⟨_,_,_,_,S,_⟩=>SqL.of (S _ _ htl)) ?_ ?_
  ·rintro i y σ' G hy hQq;rcases q:hQq with⟨us,x1,x2,rfl,S,hG,hP⟩
   rcases q:hT.2 i y hy with⟨tr,etr,p,rfl,hp⟩
   have eg:=za6 (l0:=l0.1) (z:=z) etr
   have ul:us.length<=16:=by
    rw[hP.1]
    have:=ZZ l0.1 z (trs.take i)
    rw[yj]at this
    lia
   have hal':=S _ _ hal
   refine⟨p,_,rL,.of (S _ _ hp),rL,_,_,rL,_,_,rL,rL,?_⟩
   dsimp only[zG]
   unfold Qm at eg
   refine⟨_,rL,rL,_,rL,qT (λq=>?_) (λq=>?_)⟩
   ·have h0:¬tr.2=0:=λe=>by rw[wm (show V.int tr.2=V.int 0 by rw[e])]at q;cases q
    rw[if_neg h0]at eg
    refine⟨_,rL,.inl ⟨rL,_,SqL.of hG⟩,_,rL,_,rL,_,rL,_,_,rL,rL,zL2,λt1 ht1=>?_⟩
    have S1:zi G (upd G t1 (.tup [.int tr.2,.int (z - tr.1)])):=zi.upd ht1
    have hG1:=S1 _ _ hG
    have hP1:=hP.tups (.of S1)
    refine⟨L,us,_,rL,rL,hG1,szl ∅,?_⟩
    have nt:t1≠L:=λe=>by rw[e,hG]at ht1;cases ht1
    have hP2:Zx (upd (upd G t1 (.tup [.int tr.2,.int (z - tr.1)])) L (.lst (us++[.ref t1]))) (us++[.ref t1]) (zY l0.1 z (trs.take i)++[(tr.2,z - tr.1)]) :=
     hP1.add (xp.upd hG1) (by rw[zO nt];exact zg)
    have S2:zi H (upd (upd G t1 (.tup [.int tr.2,.int (z - tr.1)])) L (.lst (us++[.ref t1]))):=Zd (S.trans S1) hL
    have hG2:upd (upd G t1 (.tup [.int tr.2,.int (z - tr.1)])) L (.lst (us++[.ref t1])) L=some (.lst (us++[.ref t1])):=zg
    generalize upd (upd G t1 (.tup [.int tr.2,.int (z - tr.1)])) L (.lst (us++[.ref t1]))=G2 at hP2 S2 hG2
    have hal2:=S2 _ _ hal
    refine⟨_,rL,.inl ⟨rL,_,SqL.of hG2⟩,_,rL,_,rL,c,C,dx,fs,_,rL,S2 _ _ hc,TC.cls,TC.low,el,al,_,_,_,rL,rL,.of hal2,at0 ..,_,_,rL,rL,⟨b2i,b2k bl⟩,_,rL,_,_,rL,rL,_,rL,_,_,rL,rL,zL2,λt2 ht2=>?_⟩
    have S3:zi G2 (upd G2 t2 (.tup [.int tr.2,.int (2*l0.1 - z - tr.1)])):=zi.upd ht2
    have hG3:=S3 _ _ hG2
    refine⟨L,_,_,rfl,rfl,hG3,szl (by rw[wI,uf];lia),⟨_,_,_,rfl,Zd (S2.trans S3) hL,zg,?_⟩⟩
    have nt2:t2≠L:=λe=>by rw[e,hG2]at ht2;cases ht2
    rw[eg,show zY l0.1 z (trs.take i)++[(tr.2,z - tr.1),(tr.2,2*l0.1 - z - tr.1)]=(zY l0.1 z (trs.take i)++[(tr.2,z - tr.1)])++[(tr.2,2*l0.1 - z - tr.1)] by simp]
    exact(hP2.tups (.of S3)).add (xp.upd hG3) (by rw[zO nt2];exact zg)
   ·have h0:tr.2=0:=by
     rcases Decidable.em (tr.2=0)with e | e
     ·exact e
     ·rw[wA (show ¬V.int tr.2=V.int 0 from λz=>e (by injection z))]at q;exact absurd rfl q
    rw[if_pos h0,yB]at eg
    exact⟨us,_,_,rfl,S,hG,by rw[eg];exact hP⟩
  ·rintro σ' G hQq;rcases q:hQq with⟨us,x1,x2,rfl,S,hG,hP⟩
   exact hnx _ _ ⟨us,x1,x2,rfl,S,hG,by rw[htl0,yt]at hP;exact hP⟩
 rintro σ' G hQq;rcases q:hQq with⟨us,x1,x2,rfl,S,hGL,hP⟩
 exact⟨_,rL,k L us G S hL hGL hP⟩
end
section
variable {P:Program}{w:World}{K:Fg}{mg:Str->Option Value}{base:Heap}{C CE:Addr}{aN:Addr}{tM:Nat}
def dif (T:Int) (b e:Int×Int) (g:Int×Int):Int:=VO g.1 g.2 (some T) e.1 e.2 - VO g.1 g.2 (some T) b.1 b.2
structure RtA (H:Hp) (vs:List V) (us:List V) (gs:List (Int×Int)) (T:Int) (b e:Int×Int):Prop where
 ex:∃L p q:Addr,vs=[.ref L,.int T,.ref p,.ref q]/\H L=some (.lst us)/\H p=some (.tup [.int b.1,.int b.2])/\H q=some (.tup [.int e.1,.int e.2])
 ps:Zx H us gs
 l16:gs.length<=16
 bg:∀g∈gs,Bd 3000 g.1/\Bd 3000 g.2
 T0:0<T/\Bd 3000 T
 bb:Bd 2000 b.1/\Bd 2000 b.2/\0<b.2
 be:Bd 2000 e.1/\Bd 2000 e.2/\0<e.2
inductive zbx (C:Addr) (vs:List V) (H:Hp) (Q:VK) (E:XK):Prop
 | mk:∀us gs T b e,(RtA H vs us gs T b e)->(((∀g∈gs,dif T b e g<=1000)/\Q .non H\/(∃g∈gs,1000<dif T b e g)/\E (.ref C) none H))->zbx C vs H Q E
theorem zbt:zA ["gaps","trip","begin","end","speed","gap"] ["gaps","trip","begin","end"] (zk qP):=scq
theorem zgr (D:Df K mg "refuse_too_many" qP ["gaps","trip","begin","end"] []) (O:zcB "TooMany" CE mg base) (TM:mg "MOST_LOOKED_AT" = some (.int 1000 tM)) (cPs:Cal P w K mg base "passes" 1 ["speed","gap","trip","ticks"] [] zfj):vm P w K mg base "refuse_too_many" 2 ["gaps","trip","begin","end"] [] (zbx CE):=by
 rcases r:D.cal1 (k:=1) zbt (λvs H Q E h=>by obtain⟨_,_,_,_,_,h,_⟩:=h;obtain⟨_,_,_,rfl,_⟩:=h.ex;rfl) with⟨us,gs,T,b,e,R,K'⟩
 rcases q:R.ex with⟨L,p,q,rfl,hL,hp,hq⟩
 refine⟨_,(zj (qM PassesOwn.leaving rfl (xh (pv 0)) (qY rfl (zP (pgl (i:=4) zbt.nd) (zP (pgl (i:=5) zbt.nd) xI))) (zj (zX (zE Zt (zr x6 (zB cPs hr (za (pv 4) (za (pv 5) (za (pv 1) (za (pv 3) zd))))) (zB cPs hr (za (pv 4) (za (pv 5) (za (pv 1) (za (pv 2) zd)))))) (qa (v:=.int 1000) (by rfl) TM ⟨_,rfl⟩) (zF _)) (zj (ZJ O yp (by decide +kernel) yp hr.hd qG (za xG zd))) zN)))),?_⟩
 try dsimp only[zU,Cx.nox]
 refine⟨_,rL,L,rL,⟨_,SqL.of hL⟩,?_⟩
 refine qA (xs:=us) (λi σ' G=>G=H/\(∃x1 x2,σ'=[Sr L,Si T,Sr p,Sr q,x1,x2])/\∀g∈gs.take i,dif T b e g<=1000) ⟨rfl,⟨none,none,rfl⟩,λg m=>by simp at m⟩ (λi σ' G _ ⟨e,_⟩=>by rw[e];exact SqL.of hL) ?_ (λσ' G ⟨e,_,h⟩=>by
  rcases K' with⟨_,k⟩ | ⟨⟨g,m,hg⟩,_⟩
  ·rw[e];exact k
  rw[R.ps.1,yt]at h
  have:=h g m
  omega)
 rintro i y σ' G hy hQq;rcases q:hQq with⟨rfl,⟨x1,x2,rfl⟩,hi⟩
 rcases q:R.ps.2 i y hy with⟨g,a,eg,rfl,ha⟩
 have mg':=wM eg
 obtain⟨bg1,bg2⟩:=R.bg g mg'
 refine⟨a,_,rL,.of ha,rL,_,_,rL,_,_,rL,rL,?_⟩
 dsimp only[zG]
 have bt:∀x,(some T:Option Int)=some x->0<x/\Bd 3000 x:=λx e=>by cases e;exact R.T0
 refine⟨_,rL,_,rL,_,rL,_,rL,g.1,g.2,some T,q,e.1,e.2,rL,hq,bg1,bg2,bt,R.be.1,R.be.2.1,R.be.2.2,?_⟩
 refine⟨_,rL,_,rL,_,rL,_,rL,g.1,g.2,some T,p,b.1,b.2,rL,hp,bg1,bg2,bt,R.bb.1,R.bb.2.1,R.bb.2.2,_,_,rL,rL,?_⟩
 refine⟨_,_,rL,rL,_,rL,qT (λz=>?_) (λz=>?_)⟩
 ·rcases K' with⟨hd,_⟩ | ⟨_,k⟩
  ·have:=hd g mg';have:=wG z;unfold dif at *;omega
  ·exact⟨zL1,k⟩
 ·refine⟨rL,⟨_,_,rL⟩,λg' m=>?_⟩
  rw[yE,eg]at m
  rcases wQ.mp m with m | m
  ·exact hi g' m
  ·have:g'=g:=by simpa using m
   subst this
   have:¬(1000:Int)<VO g'.1 g'.2 (some T) e.1 e.2 - VO g'.1 g'.2 (some T) b.1 b.2:=λq=>z (wm q)
   unfold dif;omega
def QR (T F:Int) (g:Int×Int):Int:=T*F.fdiv (xk g.1)
def zc7 (F:Int) (g:Int×Int):Int:=g.2*F.fdiv g.1
def zc6 (T F b:Int) (g:Int×Int):Int:=b+1+(zc7 F g - b - 1) % QR T F g
def zge (T F b:Int) (g:Int×Int) (n:Nat):List Int:=VP (zc6 T F b g) (QR T F g) n
inductive zfg  (vs:List V) (H:Hp) (Q:VK) (_e3:XK):Prop
 | mk:∀a T F b e g n,(vs=[.ref a,.int T,.int F,.int b,.int e])->(H a=some (.tup [.int g.1,.int g.2]))->(g.1≠0)->(Bd 3000 g.1)->(Bd 3000 g.2)->(Bd 3000 T)->(Bd 2000 F)->(0<QR T F g)->(Builtin.Range.rangeSize (zc6 T F b g) e (QR T F g)=((n:Nat):Int))->(n<=10000)->(∀l H',zi H H'->H l=none->H' l=some (.lst ((zge T F b g n).map V.int))->Q (.ref l) H')->zfg vs H Q _e3
theorem QI:zA ["gap","trip","bottom","begin","end","speed","way","offset","step","first"] ["gap","trip","bottom","begin","end"] (zk qO):=scq
theorem Jv {n:Nat}{i:Int}(h:Bd n i):Bd n (xk i):=by unfold xk;split;exact h.neg;exact h
theorem zfN {i:Int}(h:i≠0):xk i≠0:=by unfold xk;split <;> omega
theorem QU {n:Nat}{i j:Int}(h:Bd n i):Bd (n+1) (i.fdiv j):=by
 show (i.fdiv j).natAbs<2^(n+1)
 have h':i.natAbs<2^n:=h
 have p:2^(n+1)=2^n+2^n:=by rw[Nat.pow_succ];lia
 have:=Int.natAbs_fdiv_le_natAbs i j
 lia
theorem ziA (D:Df K mg "moments_between" qO ["gap","trip","bottom","begin","end"] []) (T:TxB K mg) (nL:mg "list" = none):Cal P w K mg base "moments_between" 1 ["gap","trip","bottom","begin","end"] [] zfg:=by
 rcases r:D.calq (k:=0) QI with⟨a,T',F,b,e,g,n,rfl,ha,h0,b1,b2,bT,bF,hs,hn,hz,k⟩
 refine⟨_,(ze (Zk (pv 0) (qY rL (zP (pgl (i:=5) QI.nd) (zP (pgl (i:=6) QI.nd) xI))))
  (ze (psl (i:=7) QI.nd (zr zK (pv 6) (zr xC (pv 2) (pv 5))))
  (ze (psl (i:=8) QI.nd (zr zK (pv 1) (zr xC (pv 2) (zJ qH (by rfl) T.nAbs yK (za (pv 5) zd)))))
  (ze (psl (i:=9) QI.nd (zr xg (zr xg (pv 3) zh) (zr qX (zr x6 (zr x6 (pv 7) (pv 3)) zh) (pv 8))))
  (zj (zD (zaw rfl (by rfl) nL (by rfl) T.nRange (za (pv 9) (za (pv 4) (za (pv 8) zd)))))))))),?_⟩
 try dsimp only[zU,Cx.nox]
 refine⟨_,rL,a,_,rL,.of ha,rL,_,_,rL,_,_,rL,rL,?_⟩
 dsimp only[zG]
 have B:∀{n:Nat}{i:Int},Bd n i->n<=1000000->Bd 1000000 i:=λh l=>h.mono l
 refine⟨_,rfl,_,rfl,_,rfl,_,_,rfl,rfl,⟨h0,b1.md⟩,_,_,rfl,rfl,⟨B b2 (by decide),B (QU bF) (by decide)⟩,?_⟩
 try dsimp only
 refine⟨_,rfl,_,rfl,_,rfl,_,rfl,_,_,rfl,rfl,⟨zfN h0,(Jv b1).md⟩,_,_,rfl,rfl,⟨B bT (by decide),B (QU bF) (by decide)⟩,?_⟩
 try dsimp only
 refine⟨_,rL,_,_,rL,rL,_,rL,_,rL,_,_,rL,rL,_,_,rL,rL,_,rL,_,_,rL,rL,hs,_,_,rL,rL,?_⟩
 try dsimp only
 refine⟨_,rL,_,rL,_,rL,_,_,_,n,rL,yM hs,?_,hn,hz,λl hl=>k l _ (zi.upd hl) hl zg⟩
 exact(bT.mul (QU (j:=xk g.1) bF)).md
end
end KK
namespace L2
open PySem PySem.Spec PyProof.Rows
section
variable {X:Cx}
theorem zbW:zjy X .Mult (rI Vc λi j=>.int (i*j)):=by
 rintro pz s σ H x y u v Q I rx ry ⟨i,j,rfl,rfl,hc,q⟩
 obtain⟨t,rfl⟩:=(show ∃t,u=Value.int i t from rx)
 obtain⟨t',rfl⟩:=(show ∃t',v=Value.int j t' from ry)
 exact PyProof.Rows.imul_int ⟨.int (i*j),H,I.tok _,⟨_,rfl⟩,q⟩ (IntMulOk.of_le hc.1.bits hc.2.bits (by decide))
theorem qU {f:Str}{v x:V}:∀{fs:List (Str×V)},fs.lookup f=some x->(xR f v fs).length=fs.length
 | [],h=>by cases h
 | (g,y)::r,h=>by
  unfold xR
  by_cases e:g=f
  ·rw[if_pos e];rfl
  ·rw[if_neg e]
   have:(f == g)=false:=beq_eq_false_iff_ne.mpr (λz=>e z.symm)
   rw[List.lookup_cons,this]at h
   rw[ww,ww,qU h]
end
end L2
namespace KK
open PySem L2 KM
variable {P:Program}{w:World}{K:Fg}{mg:Str->Option Value}{base:Heap}
def BdP (n:Nat) (t:Int×Int):Prop:=Bd n t.1/\Bd n t.2
theorem VJ.map {H:Hp}{tv:List V}{trs:List (Int×Int)}{f:Int×Int->Int×Int}(hl:tv.length=trs.length) (h:∀(i:Nat) (v:V),tv[i]? = some v->∃t,trs[i]? = some t/\Qi H v (some (f t))):VJ H tv (trs.map f) :=
 ⟨by rw[we];exact hl,λi v e=>by obtain⟨t,e1,e2⟩:=h i v e;exact⟨f t,by rw[wo,e1];rfl,e2⟩⟩
def CoT (H:Hp) (C c tl:Addr) (pb sb:Int) (tk:Rat) (ws:List Int) (trs:List (Int×Int)) (lo hi:Option (Int×Int)):Prop:=∃dx fs tv,H c=some (.ins C dx fs)/\CoF H fs pb sb tk ws trs lo hi/\fs.lookup ("tracks":Str)=some (V.ref tl)/\H tl=some (.lst tv)/\VJ H tv trs
def scT (m:Int) (t:Int×Int):Int×Int:=(t.1*m,t.2*m)
inductive zfk  (vs:List V) (H:Hp) (Q:VK) (_e3:XK):Prop
 | mk:∀v m o,(vs=[v,.int m])->(Qi H v o)->(Bd 5000 m)->((∀t,o=some t->BdP 5000 t))->(∀v' H',zi H H'->Qi H' v' (o.map (scT m))->Q v' H')->zfk vs H Q _e3
theorem zi3:zA ["track","many"] ["track","many"] (zk QE):=scq
theorem ziE (D:Df K mg "refined" QE ["track","many"] []):Cal P w K mg base "refined" 1 ["track","many"] [] zfk:=by
 rcases r:D.calq (k:=0) zi3 with⟨v,m,o,rfl,hv,zm,zo,k⟩
 refine⟨_,(ze (zX (zE qC (pv 0) xf (zF _)) (zj (zD xf)) zN)
  (zj (zD (zH (za (zr zK (pxt (pv 0)) (pv 1)) (za (zr zK (pxt (pv 0)) (pv 1)) zd)))))),?_⟩
 try dsimp only[zU,Cx.nox]
 cases o with
 | none =>
  obtain rfl:v = .non:=hv
  exact⟨_,rL,rL,_,rL,xw (k _ _ (zi.refl _) rL)⟩
 | some t =>
  obtain⟨a,rfl,ha⟩:=hv
  have z:=zo t rfl
  refine⟨_,rL,rL,_,rL,xc ?_⟩
  refine⟨_,rL,a,_,_,_,rL,rL,.of ha,rL,_,rL,_,_,rL,rL,⟨z.1.md,zm.md⟩,_,rL,a,_,_,_,rL,rL,.of ha,rL,_,rL,_,_,rL,rL,⟨z.2.md,zm.md⟩,zL2,λtp htp=>?_⟩
  exact k _ _ (zi.upd htp) ⟨tp,rL,zg⟩
inductive zjd (C:Addr) (vs:List V) (H:Hp) (Q:VK) (_e3:XK):Prop
 | mk:∀c tl m pb sb tk ws trs lo hi,(vs=[V.ref c,.int m])->(CoT H C c tl pb sb tk ws trs lo hi)->(trs.length<=8)->(Bd 5000 m)->(Bd 5000 pb)->(Bd 5000 sb)->((∀t∈trs,BdP 5000 t))->((∀l,lo=some l->BdP 5000 l))->((∀l,hi=some l->BdP 5000 l))->(∀H' tl',xj c H H'->H tl'=none->CoT H' C c tl' (pb*m) (sb*m) tk ws (trs.map (scT m)) (lo.map (scT m)) (hi.map (scT m))->Q .non H')->zjd C vs H Q _e3
theorem zkq:zA ["course","many"] ["course","many"] (zk Vv):=scq
theorem zj2 {C:Addr}(D:Df K mg "refine" Vv ["course","many"] []) (TC:TCo K C) (cRf:Cal P w K mg base "refined" 1 ["track","many"] [] zfk):Cal P w K mg base "refine" 2 ["course","many"] [] (zjd C):=by
 rcases r:D.calBq (k:=1) zkq with⟨c,tl,m,pb,sb,tk,ws,trs,lo,hi,rfl,⟨dx,fs,tv,hc,F,elt,htl,hTv⟩,hl8,zm,zpb,zsb,zt,zlo,zhi,k⟩
 obtain⟨tp,f1,f2⟩:=F.tick
 obtain⟨wl',f3,f4⟩:=F.weights
 obtain⟨v1,f5,f6⟩:=F.low
 obtain⟨v2,f7,f8⟩:=F.high
 have flen:=F.len
 refine⟨_,(xF (Bx.mk (Jj (pv 0) (pv 1) zbW))
  (xF (Bx.mk (Jj (pv 0) (pv 1) zbW))
  (xF (Bx.mk (vU (pv 0) (qK (NB:=["track"]) (FR:=["many"]) (js:=[1]) rfl rfl (λ_ _ h=>h) (.cons rfl rfl rfl ⟨_,rfl⟩ .nil) rfl (by decide +kernel) rfl (by decide +kernel) (xh (xz (pv 0) rfl)) (by intro _ _ _;refine⟨?_,?_,?_⟩;(exact(pgl (i:=0) (show List.Nodup (["track","many"]:List Str) by decide +kernel)));(exact xJ);(exact(zB cRf hr (za (pv 0) (za (pv 1) zd)))))) rfl))
  (xF (Bx.mk (vU (pv 0) (zB cRf hr (za (xz (pv 0) rfl) (za (pv 1) zd))) rfl))
  (Bx.mk (zj (vU (pv 0) (zB cRf hr (za (xz (pv 0) rfl) (za (pv 1) zd))) rfl))))))),?_⟩
 try dsimp only[zU,Cx.nox]
 have nc:∀{G:Hp}{dx:Addr}{fs:List (Str×V)}{b:Addr}{o:HO},G c=some (.ins C dx fs)->G b=some o->(∀dx fs,o≠.ins C dx fs)->b≠c:=λh1 h2 h3 z=>by subst z;rw[h1]at h2;cases h2;exact h3 _ _ rfl
 refine⟨_,rfl,c,C,dx,fs,_,rfl,hc,TC.cls,TC.pb,F.pb,_,rfl,_,_,rfl,rfl,⟨zpb.md,zm.md⟩,dx,fs,hc,by lia,?_⟩
 have l1:(xR ("place_bottom":Str) (.int (pb*m)) fs).length=fs.length:=qU F.pb
 have e1:∀g:Str,g≠"place_bottom"->(xR ("place_bottom":Str) (.int (pb*m)) fs).lookup g=fs.lookup g:=λg n=>by rw[xu,if_neg n]
 have p1:(xR ("place_bottom":Str) (.int (pb*m)) fs).lookup ("place_bottom":Str)=some (.int (pb*m)):=by rw[xu,if_pos rfl]
 generalize xR ("place_bottom":Str) (.int (pb*m)) fs=fs1 at l1 e1 p1
 have X1:xj c H (upd H c (.ins C dx fs1)):=.upd
 have c1:upd H c (.ins C dx fs1) c=some (.ins C dx fs1):=zg
 generalize upd H c (.ins C dx fs1)=G1 at X1 c1
 refine⟨_,rfl,c,C,dx,fs1,_,rfl,c1,TC.cls,TC.sb,(e1 _ (by decide)).trans F.sb,_,rfl,_,_,rfl,rfl,⟨zsb.md,zm.md⟩,dx,fs1,c1,by lia,?_⟩
 have l2:(xR ("speed_bottom":Str) (.int (sb*m)) fs1).length=fs1.length:=qU ((e1 _ (by decide)).trans F.sb)
 have e2:∀g:Str,g≠"speed_bottom"->(xR ("speed_bottom":Str) (.int (sb*m)) fs1).lookup g=fs1.lookup g:=λg n=>by rw[xu,if_neg n]
 have p2:(xR ("speed_bottom":Str) (.int (sb*m)) fs1).lookup ("speed_bottom":Str)=some (.int (sb*m)):=by rw[xu,if_pos rfl]
 generalize xR ("speed_bottom":Str) (.int (sb*m)) fs1=fs2 at l2 e2 p2
 have X2:xj c H (upd G1 c (.ins C dx fs2)):=X1.trans .upd
 have c2:upd G1 c (.ins C dx fs2) c=some (.ins C dx fs2):=zg
 generalize upd G1 c (.ins C dx fs2)=G2 at X2 c2
 have t2:xp H G2:=X2.tup hc
 have htl2:=X2 _ _ (nc hc htl (λ_ _ z=>by cases z)) htl
 try dsimp only
 refine vQ (K:=K) ?_
 refine⟨_,rfl,c,C,dx,fs2,_,rfl,c2,TC.cls,TC.tracks,(e2 _ (by decide)).trans ((e1 _ (by decide)).trans elt),tl,rfl,⟨_,SqL.of htl2⟩,λD3 hD3=>?_⟩
 refine xY (J:=Itl K tl) (n:=1) (js:=[1]) (g:=zG 0) (te:=_) (xs:=tv) (λi v G=>∃t,trs[i]? = some t/\Qi G v (some (scT m t))) (λ_ _ _ _ t ⟨x,h1,h2⟩=>⟨x,h1,h2.keeps t⟩) hD3 (xA htl2) (vz (by have:=hTv.1;lia)) ?_ ?_
 ·intro i x zs H3 Q' hx hz s3 hk
  obtain⟨z1,rfl⟩:=Qp hz
  obtain⟨t,et,hat⟩:=(hTv.keeps (t2.trans (.of s3))).2 i x hx
  dsimp only[zG]
  exact⟨rfl,_,rfl,_,rfl,x,m,some t,rfl,hat,zm,λu e=>by cases e;exact zt t (wM et),λv' H' s' h'=>hk _ _ s' ⟨t,et,h'⟩⟩
 intro y3 H3 s3 hy3 hyl3 hyR3
 refine qB (by rfl) (s3 _ _ c2) TC.cls TC.tracks ∅ λG3 X3' c3=>?_
 have l3:(xR ("tracks":Str) (.ref D3) fs2).length=fs2.length:=qU ((e2 _ (by decide)).trans ((e1 _ (by decide)).trans elt))
 have e3:∀g:Str,g≠"tracks"->(xR ("tracks":Str) (.ref D3) fs2).lookup g=fs2.lookup g:=λg n=>by rw[xu,if_neg n]
 have p3:(xR ("tracks":Str) (.ref D3) fs2).lookup ("tracks":Str)=some (.ref D3):=by rw[xu,if_pos rfl]
 generalize xR ("tracks":Str) (.ref D3) fs2=fs3 at l3 e3 p3 c3
 have X3:xj c H G3:=X2.trans ((xj.of s3).trans X3')
 have t3:xp H G3:=X3.tup hc
 have hy3':G3 D3=some (.lst y3):=X3' _ _ (nc (s3 _ _ c2) hy3 (λ_ _ z=>by cases z)) hy3
 have hD3H:H D3=none:=by
  cases e:H D3 with
  | none=>rfl
  | some o =>
   by_cases hz:D3=c
   ·rw[hz,c2]at hD3;cases hD3
   ·rw[X2 _ _ hz e]at hD3;cases hD3
 have hT3:VJ G3 y3 (trs.map (scT m)):=(VJ.map (by rw[hyl3];exact hTv.1) hyR3).keeps (X3'.tup (s3 _ _ c2))
 have g5:fs3.lookup ("low":Str)=some v1:=(e3 _ (by decide)).trans ((e2 _ (by decide)).trans ((e1 _ (by decide)).trans f5))
 have g7:fs3.lookup ("high":Str)=some v2:=(e3 _ (by decide)).trans ((e2 _ (by decide)).trans ((e1 _ (by decide)).trans f7))
 refine vQ (K:=K) ?_
 refine zaa ⟨_,rL,c,C,dx,fs3,_,rL,c3,TC.cls,TC.low,g5,_,rL,v1,m,lo,rL,f6.keeps t3,zm,zlo,λlv H4 s4 hlv=>?_⟩
 refine qB (by rfl) (s4 _ _ c3) TC.cls TC.low ∅ λG4 X4' c4=>?_
 have l4:(xR ("low":Str) lv fs3).length=fs3.length:=qU g5
 have e4:∀g:Str,g≠"low"->(xR ("low":Str) lv fs3).lookup g=fs3.lookup g:=λg n=>by rw[xu,if_neg n]
 have p4:(xR ("low":Str) lv fs3).lookup ("low":Str)=some lv:=by rw[xu,if_pos rfl]
 generalize xR ("low":Str) lv fs3=fs4 at l4 e4 p4 c4
 have X34:xj c G3 G4:=(xj.of s4).trans X4'
 have X4:xj c H G4:=X3.trans X34
 have t4:xp H G4:=X4.tup hc
 have hlv4:=hlv.keeps (X4'.tup (s4 _ _ c3))
 have g8:fs4.lookup ("high":Str)=some v2:=(e4 _ (by decide)).trans g7
 refine zb9 (K:=K) ?_
 refine zaa ⟨_,rL,c,C,dx,fs4,_,rL,c4,TC.cls,TC.high,g8,_,rL,v2,m,hi,rL,f8.keeps t4,zm,zhi,λhv H5 s5 hhv=>?_⟩
 refine qB (rest:=Zf.nx) (by rfl) (s5 _ _ c4) TC.cls TC.high ∅ λG5 X5' c5=>?_
 have l5:(xR ("high":Str) hv fs4).length=fs4.length:=qU g8
 have e5:∀g:Str,g≠"high"->(xR ("high":Str) hv fs4).lookup g=fs4.lookup g:=λg n=>by rw[xu,if_neg n]
 have p5:(xR ("high":Str) hv fs4).lookup ("high":Str)=some hv:=by rw[xu,if_pos rfl]
 generalize xR ("high":Str) hv fs4=fs5 at l5 e5 p5 c5
 have X45:xj c G4 G5:=(xj.of s5).trans X5'
 have X35:=X34.trans X45
 have X5:xj c H G5:=X4.trans X45
 have t5:xp H G5:=X5.tup hc
 have hy5:=X35 _ _ (nc c3 hy3' (λ_ _ z=>by cases z)) hy3'
 have hT5:=hT3.keeps (X35.tup c3)
 have q3:fs5.lookup ("tracks":Str)=some (.ref D3):=(e5 _ (by decide)).trans ((e4 _ (by decide)).trans p3)
 refine k G5 D3 X5 hD3H ⟨dx,fs5,y3,c5,⟨?_,?_,⟨tp,?_,t5 _ _ f2⟩,⟨wl',?_,X5 _ _ (nc hc f4 (λ_ _ z=>by cases z)) f4⟩,⟨D3,y3,q3,hy5,hT5⟩,⟨lv,(e5 _ (by decide)).trans p4,hlv4.keeps (X45.tup c4)⟩,⟨hv,p5,hhv.keeps (X5'.tup (s5 _ _ c4))⟩,by lia⟩,q3,hy5,hT5⟩
 ·exact(e5 _ (by decide)).trans ((e4 _ (by decide)).trans ((e3 _ (by decide)).trans ((e2 _ (by decide)).trans p1)))
 ·exact(e5 _ (by decide)).trans ((e4 _ (by decide)).trans ((e3 _ (by decide)).trans p2))
 ·exact(e5 _ (by decide)).trans ((e4 _ (by decide)).trans ((e3 _ (by decide)).trans ((e2 _ (by decide)).trans ((e1 _ (by decide)).trans f1))))
 ·exact(e5 _ (by decide)).trans ((e4 _ (by decide)).trans ((e3 _ (by decide)).trans ((e2 _ (by decide)).trans ((e1 _ (by decide)).trans f3))))
end KK
namespace L2
open PySem PySem.Spec PyProof.Rows
section
variable {J:It}{D:Addr}{n:Nat}{js:List Nat}{σ:St}{g:TG}{tt:TT}{te:TE}{Z:Hp->Prop}{H:Hp}{xs:List V}
theorem zcK (p:V->Bool) (hD:H D=none) (hJ:J9 J H xs) (hl:xs.length<sizeLine)
  (hs:∀(i:Nat) (x:V) (zs:St) (H2:Hp) (A:VK) (B:Hp->Prop),xs[i]? = some x->zs.length=n->zi H H2->(p x=true->A x H2)->(p x=false->B H2)->g x (zs++qF σ js) H2 λσ4 H4=>σ4.drop n=qF σ js/\tt σ4 H4 λb H5=>if b=true then te σ4 H5 A else B H5)
  (k:∀H',zi H H'->H' D=some (.lst (xs.filter p))->Z H') :
  ∃W:Nat->Nat->Hp->List V->Prop,(∃m,W 0 m (upd H D (.lst [])) [])/\∀i m H2 ys,W i m H2 ys->H2 D=some (.lst ys)->(J.stop i H2/\Z H2) ∨
   (J.go i H2/\∀zs x H3,zs.length=n->J.yld i H2 x H3->g x (zs++qF σ js) H3 λσ4 H4=>σ4.drop n=qF σ js/\tt σ4 H4 λb H5=>if b=true then te σ4 H5 (λv H6=>H6 D=some (.lst ys)/\ys.length<sizeLine/\∃m',m'<m/\W (i+1) m' (upd H6 D (.lst (ys++[v]))) (ys++[v]))
    else H5 D=some (.lst ys)/\∃m',m'<m/\W (i+1) m' H5 ys):=by
 refine ZE (Q:=λ_ H=>Z H) (tt:=tt) (N:=xs.length) (λi H2 ys=>zi H H2/\ys=(xs.take i).filter p) ⟨zi.upd hD,rfl⟩ (λi H2 ys hi p=>hJ.go i H2 hi p.1) (λH2 ys p=>hJ.stop H2 p.1) ?_ (λH2 ys q e=>k H2 q.1 (by rw[e,q.2,yt]))
 rintro i x zs H2 H3 ys Nx hN hi hz hy ⟨s2,rfl⟩ hD2
 obtain⟨rfl,hx⟩:=hJ.yld i x H2 H3 s2 hy
 have et:xs.take (i+1)=xs.take i++[x]:=by rw[yE,hx];rfl
 refine hs i x zs H3 _ _ hx hz s2 (λhp=>⟨hD2,?_,hN _ _ ⟨λc o e=>?_,?_⟩⟩) (λhp=>⟨hD2,hN _ _ ⟨s2,?_⟩⟩)
 ·have:=Wh p (xs.take i)
  have:=List.length_take_le i xs
  lia
 ·rw[zO (zQ e hD)];exact s2 _ _ e
 ·rw[et,uE];simp[hp]
 ·rw[et,uE];simp[hp]
end
end L2
namespace KK
open PySem L2 KM
variable {P:Program}{w:World}{K:Fg}{mg:Str->Option Value}{base:Heap}{C CE aN:Addr}{tM:Nat}{CB CP C0:Addr}
def zdu (lo hi:Option (Int×Int)) (top bot:Int) (tr:Int×Int):Int:=(zb2 (wsc lo bot) (wsc hi bot) (tr.1*bot+tr.2*top) tr.2).1
def v4 (lo hi:Option (Int×Int)) (trs:List (Int×Int)) (k z top bot:Int):Bool :=
 decide (((((trs.map (zdu lo hi top bot)).countP λx=>decide (x<z*bot):Nat):Int)<=k)/\k<(((trs.map (zdu lo hi top bot)).countP λx=>decide (x<z*bot):Nat):Int)+(((trs.map (zdu lo hi top bot)).countP λx=>decide (x=z*bot):Nat):Int))
def ltI (n:Int):V->Bool
 | .int x=>decide (x<n)
 | _=>false
theorem zb6 (n:Int):∀xs:List Int,((xs.map V.int).filter (ltI n)).length=xs.countP λx=>decide (x<n)
 | []=>rfl
 | x::xs=>by
  rw[yA,List.filter_cons,Y4,<-zb6 n xs]
  show (if decide (x<n)=true then _ else _:List V).length=_
  split <;> simp
inductive zfo (C:Addr) (vs:List V) (H:Hp) (Q:VK) (_e3:XK):Prop
 | mk:∀c t k z pb sb tk ws trs lo hi top bot,(vs=[.ref c,.int k,.int z,.ref t])->(Xd H C c pb sb tk ws trs lo hi)->(H t=some (.tup [.int top,.int bot]))->(trs.length<=8)->((∀tr∈trs,Bd 2000 tr.1/\Bd 2000 tr.2))->(Bd 2000 z)->(Bd 2000 top)->(Bd 2000 bot)->(0<bot)->(Wb lo)->(Wb hi)->((∀l h,lo=some l->hi=some h->l.1<h.1))->(∀H',zi H H'->Q (.bl (v4 lo hi trs k z top bot)) H')->zfo C vs H Q _e3
theorem J0:zA ["course","k","spot","ticks","spots","wide","below"] ["course","k","spot","ticks"] (zk Xs):=scq
theorem ziI (D:Df K mg "is_there" Xs ["course","k","spot","ticks"] []) (T:TxB K mg) (TC:TCo K C) (cLa:Cal P w K mg base "line_at" 1 ["course","track","ticks"] [] (zfd C)):Cal P w K mg base "is_there" 2 ["course","k","spot","ticks"] [] (zfo C):=by
 rcases r:D.calq (k:=1) J0 with⟨c,t,kk,z,pb,sb,tk,ws,trs,lo,hi,top,bot,rfl,hco,ht,hl8,bt,bz,btp,bbt,pbt,wl,wh,hlh,k⟩
 obtain⟨dx,fs,hc,F⟩:=id hco
 rcases q:F.tracks with⟨tl,tv,et,htl,hT⟩
 have hu:=hr.units
 refine⟨_,(ze (Q0 (i:=4) (NB:=["track"]) (FR:=["course","ticks"]) (js:=[0,3]) rfl rfl (λx c h=>Qk rfl rfl x c h) (.cons rfl rfl rfl ⟨_,rfl⟩ (.cons rfl rfl rfl ⟨_,rfl⟩ .nil)) rfl (by decide +kernel) rfl (by decide +kernel) J0.nd rfl rfl (by rfl) (xh (xz (pv 0) rfl)) (by intro _ _ _;refine⟨?_,?_,?_⟩;(exact(pgl (i:=0) (show List.Nodup (["track","course","ticks"]:List Str) by decide +kernel)));(exact xJ);(exact(xS (vL (K:=K) rfl) (zB cLa hr (za (pv 1) (za (pv 0) (za (pv 2) zd)))) zh (λ_ _=>rfl)))))
  (ze (Qv (i:=5) J0.nd rfl (Or.inr rfl) (zr zK (pv 2) (pxt (pv 3))))
  (ze (psl (i:=6) J0.nd (zJ zS (by rfl) T.nLen PySem.boot_len (za (qK (NB:=["one"]) (FR:=["wide"]) (js:=[5]) rfl rfl (λx c h=>JC rfl x c h) (.cons rfl rfl rfl ⟨_,rfl⟩ .nil) rfl (by decide +kernel) rfl (by decide +kernel) (xh (pv 4)) (by intro _ _ _;refine⟨?_,?_,?_⟩;(exact(pgl (i:=0) (show List.Nodup (["one","wide"]:List Str) by decide +kernel)));(exact(Qb (zE vN (pv 0) (pv 1) (zF _))));(exact(pv 0)))) zd)))
  (zj (zD (zeD zeB vN (pv 6) (pv 1) (zr xg (pv 6) (ZI yC PySem.F.slot_list_count PySem.F.type_list_count (zda (by show _+64<cLine;exact hu)) (pv 4) (za (pv 5) zd))))))))),?_⟩
 try dsimp only[zU,Cx.nox]
 unfold zbz zdv
 refine⟨_,rL,c,C,dx,fs,_,rL,hc,TC.cls,TC.tracks,et,tl,rL,⟨_,SqL.of htl⟩,λD1 hD1=>?_⟩
 refine xY (js:=[0,3]) (J:=Itl K tl) (g:=zG 0) (te:=_) (n:=1) (xs:=tv) (λi v G=>∃n,(trs.map (zdu lo hi top bot))[i]? = some n/\v = .int n) (λ_ _ _ _ _ h=>h) hD1 (xA htl) (xV (by rw[hT.1];lia)) ?_ ?_
 ·intro i y zs G Q' hy hz S hQ
  obtain⟨w1,rfl⟩:=Qp hz
  rcases q:hT.2 i y hy with⟨tr,etr,p,rfl,hp⟩
  have b:=bt tr (wM etr)
  dsimp only[zG]
  refine⟨rL,_,rL,_,rL,_,rL,c,p,t,pb,sb,tk,ws,trs,lo,hi,tr.1,tr.2,top,bot,rL,hco.same S,S _ _ hp,S _ _ ht,b.1,b.2,btp,bbt,pbt,wl,wh,hlh,λr H6 S6 hr6=>?_⟩
  refine⟨r,_,_,_,rfl,rfl,.of hr6,at0 ..,hQ _ _ S6 ⟨_,by rw[wo,etr];rfl,rfl⟩⟩
 intro us G S hDG hul hR
 dsimp only[zG]
 have eu:us=(trs.map (zdu lo hi top bot)).map V.int:=XX (by rw[we,hul,hT.1]) λi v e=>hR i v e
 rw[eu]at hDG
 generalize hsp:trs.map (zdu lo hi top bot)=sp at *
 have lsp:sp.length<=8:=by rw[<-hsp,we];exact hl8
 have ht':=S _ _ ht
 refine⟨_,rL,_,rL,t,_,_,_,rL,rL,.of ht',at1 ..,_,_,rL,rL,⟨b2k bz,b2k bbt⟩,?_⟩
 try dsimp only
 refine⟨_,rL,D1,rL,⟨_,SqL.of hDG⟩,λD2 hD2=>?_⟩
 refine zcK (js:=[5]) (J:=Itl K D1) (g:=zG 0) (te:=xy 0) (tt:=_) (n:=1) (xs:=sp.map V.int) (ltI (z*bot)) hD2 (xA hDG) (xV (by rw[we];lia)) ?_ ?_
 ·intro i x zs H2 A B hx hz S2 hA hB
  obtain⟨w1,rfl⟩:=Qp hz
  rw[wo]at hx
  cases hm:sp[i]? with
  | none=>rw[hm]at hx;cases hx
  | some n =>
   rw[hm]at hx;cases hx
   dsimp only[zG]
   refine⟨rL,_,rL,_,rL,_,_,rL,rL,_,rL,?_⟩
   by_cases q:n<z*bot
   ·rw[wm q];exact xw ⟨_,rfl,hA (wm q)⟩
   ·rw[wA q];exact xc (hB (wA q))
 intro G2 S2 hDG2
 have lf:((sp.map V.int).filter (ltI (z*bot))).length=sp.countP λx=>decide (x<z*bot):=zb6 _ _
 refine⟨D2,_,rL,.inl (.of hDG2),?_⟩
 try dsimp only
 rw[lf]
 have hDG3:=S2 _ _ hDG
 have SS:=S.trans S2
 unfold v4 at k
 rw[hsp]at k
 refine⟨_,rL,_,rL,_,_,rL,rL,?_⟩
 by_cases h0:(((sp.countP λx=>decide (x<z*bot):Nat):Int))<=kk
 ·try dsimp only
  rw[wm h0]
  refine⟨_,rL,xw ⟨_,rL,_,rL,.inl ⟨rL,_,SqL.of hDG3⟩,_,rL,D1,sp,z*bot,rL,rL,hDG3,_,_,rL,rL,_,_,rL,rL,?_⟩⟩
  have:=k G2 SS
  rw[Bool.decide_and,wm h0,YW]at this
  exact this
 ·try dsimp only
  rw[wA h0]
  refine⟨_,rL,xc ?_⟩
  have:=k G2 SS
  rw[wA (λq=>h0 q.1)]at this
  exact this
def lcF (c:Int) (ks:List Int):Int:=ks.foldl (λc n=>c/(Int.gcd c n:Int)*n) c
theorem zhn {c n:Int}(hn:0<n):c ∣ c/(Int.gcd c n:Int)*n:=by
 obtain⟨m,hm⟩:=Wm c n
 obtain⟨d,hd⟩:=ur c n
 have hg:0<(Int.gcd c n:Int):=by have:=Yh c (b:=n) ∅;lia
 generalize (Int.gcd c n:Int)=g at *
 refine⟨m,?_⟩
 have:c/g=d:=by rw[hd];exact wY _ ∅
 rw[this,hm,hd]
 rw[Wo g d m,YM]
theorem zjK {c n:Int}:n ∣ c/(Int.gcd c n:Int)*n:=⟨_,WC ..⟩
theorem zel {n:Nat}:∀(ks:List Int) (c:Int) (m:Nat),0<c->Bd m c->Pos n ks->0<lcF c ks/\Bd (m+n*ks.length) (lcF c ks)/\c ∣ lcF c ks/\∀k∈ks,k ∣ lcF c ks
 | [],c,m,h,b,_=>⟨h,b,Yy _,λk q=>by cases q⟩
 | k::ks,c,m,h,b,p=>by
  have hk:=p k wH
  obtain⟨i1,i2,i3,i4⟩:=zel ks (c/(Int.gcd c k:Int)*k) (m+n) (vD h hk.1) (Jy h hk.1 b hk.2) λx q=>p x (wO _ q)
  refine⟨i1,i2.mono (by rw[ww,Uh];lia),Wp (zhn hk.1) i3,λx q=>?_⟩
  rcases wx.mp q with rfl | q
  ·exact Wp zjK i3
  ·exact i4 x q
theorem Vn {n:Nat}{ks:List Int}(p:Pos n ks):0<xL ks/\Bd (1+n*ks.length) (xL ks)/\∀k∈ks,k ∣ xL ks:=by
 obtain⟨a,b,_,d⟩:=zel ks 1 1 (by decide) (show (1:Int).natAbs<2^1 by decide) p
 exact⟨a,b,d⟩
def lkB (b l:Int×Int):Int:=xL [b.2,l.2]
def lkF (b l:Int×Int):Int:=b.1*(lkB b l).fdiv b.2
def lkL (b l:Int×Int):Int:=lkF b l+l.1*(lkB b l).fdiv l.2
def lkN (b l:Int×Int) (gs:List (Int×Int)):Int:=xL (lkB b l::gs.map λg=>xk g.1)
def lkU (b l:Int×Int) (gs:List (Int×Int)) (x:Int):Int:=x*(lkN b l gs).fdiv (lkB b l)
def lkC (T F b e:Int) (g:Int×Int):Nat:=(Builtin.Range.rangeSize (zc6 T F b g) e (QR T F g)).toNat
def lkW (T F b e:Int) (g:Int×Int):List Int:=zge T F b g (lkC T F b e g)
def lkG (T F b e:Int):List (Int×Int)->List Int
 | []=>[]
 | g::gs=>lkW T F b e g++lkG T F b e gs
theorem JL (T F b e:Int):∀xs ys,lkG T F b e (xs++ys)=lkG T F b e xs++lkG T F b e ys
 | [],ys=>rfl
 | x::xs,ys=>by show lkW T F b e x++lkG T F b e (xs++ys)=_;rw[JL T F b e xs ys,<-yF];rfl
theorem zeq {T F b e:Int}{gs:List (Int×Int)}{i:Nat}{g:Int×Int}(h:gs[i]? = some g):lkG T F b e (gs.take (i+1))=lkG T F b e (gs.take i)++lkW T F b e g:=by
 rw[yE,h,JL]
 show _++(lkW T F b e g++[])=_
 rw[yB]
theorem zib (T F b e:Int) (gs:List (Int×Int)) (i:Nat):(lkG T F b e (gs.take i)).length<=(lkG T F b e gs).length:=by
 conv=>rhs;rw[<-uz i gs,JL,wI]
 lia
def lkM (T:Int) (b l:Int×Int) (gs:List (Int×Int)):List Int:=lkU b l gs (lkF b l)::lkG T (lkN b l gs) (lkU b l gs (lkF b l)) (lkU b l gs (lkL b l)) gs
structure LkA (T:Int) (b l:Int×Int) (gs:List (Int×Int)):Prop where
 l16:gs.length<=16
 bg:∀g∈gs,g.1≠0/\Bd 400 g.1/\Bd 2001 g.2
 T0:0<T/\Bd 2000 T
 bb:Bd 190 b.1/\Bd 190 b.2/\0<b.2
 bl:Bd 190 l.1/\Bd 190 l.2/\0<l.2
structure LkG (T:Int) (b l:Int×Int) (gs:List (Int×Int)):Prop where
 df:∀g∈gs,dif T b (lkL b l,lkB b l) g<=1000
 bn:Bd 1300 (lkN b l gs)
 cn:∀g∈gs,lkC T (lkN b l gs) (lkU b l gs (lkF b l)) (lkU b l gs (lkL b l)) g<=1000
 ln:(lkM T b l gs).length<=3900
 mx:∀ms:List Int,(∀k,k∈ms↔k∈lkM T b l gs)->ms.Nodup->ms.length<=1000
theorem XN {i:Int}(h:i≠0):0<xk i:=by unfold xk;split <;> lia
theorem bdx {n:Nat}{i j:Int}(hj:Bd n j):Bd (n+1) (j.fdiv i):=QU hj
section
variable {T:Int}{b l:Int×Int}{gs:List (Int×Int)}
theorem LkA.pos2 (h:LkA T b l gs):Pos 190 [b.2,l.2]:=λk m=>by
 rcases wx.mp m with rfl | m
 ·exact⟨h.bb.2.2,h.bb.2.1⟩
 ·rcases wx.mp m with rfl | m
  ·exact⟨h.bl.2.2,h.bl.2.1⟩
  ·cases m
theorem LkA.B (h:LkA T b l gs):0<lkB b l/\Bd 390 (lkB b l)/\b.2 ∣ lkB b l/\l.2 ∣ lkB b l:=by
 obtain⟨a,b',c⟩:=Vn h.pos2
 exact⟨a,b'.mono (by show 1+190*2<=390;decide),c _ wH,c _ (wO _ wH)⟩
theorem LkA.F (h:LkA T b l gs):Bd 590 (lkF b l):=(h.bb.1.mul (bdx h.B.2.1)).md
theorem LkA.L (h:LkA T b l gs):Bd 591 (lkL b l):=by
 have h1:=h.F
 have h2:Bd 590 (l.1*(lkB b l).fdiv l.2):=(h.bl.1.mul (bdx h.B.2.1)).md
 unfold lkL
 have a1:(lkF b l).natAbs<2^590:=h1
 have a2:(l.1*(lkB b l).fdiv l.2).natAbs<2^590:=h2
 show (lkF b l+l.1*(lkB b l).fdiv l.2).natAbs<2^591
 have:2^591=2^590+2^590:=by rw[Nat.pow_succ];omega
 generalize 2^590=X at *
 omega
theorem LkA.posN (h:LkA T b l gs):Pos 400 (lkB b l::gs.map λg=>xk g.1):=λk m=>by
 rcases wx.mp m with rfl | m
 ·exact⟨h.B.1,h.B.2.1.md⟩
 ·obtain⟨g,mg,rfl⟩:=wn.mp m
  exact⟨XN (h.bg g mg).1,Jv (h.bg g mg).2.1⟩
theorem LkA.N (h:LkA T b l gs):0<lkN b l gs/\lkB b l ∣ lkN b l gs/\∀g∈gs,xk g.1 ∣ lkN b l gs:=by
 obtain⟨a,_,c⟩:=Vn h.posN
 exact⟨a,c _ wH,λg m=>c _ (wO _ (wn.mpr ⟨g,m,rL⟩))⟩
theorem LkA.stp (h:LkA T b l gs){g:Int×Int}(m:g∈gs):0<QR T (lkN b l gs) g:=by
 have p:=XN (h.bg g m).1
 refine wW h.T0.1 ?_
 rw[wq _ ∅]
 exact Wr h.N.1 ∅ (h.N.2.2 g m)
theorem zeU {a b c:Int}(h:0<c):Builtin.Range.rangeSize a b c=(((Builtin.Range.rangeSize a b c).toNat:Nat):Int):=by
 have:0<=Builtin.Range.rangeSize a b c:=by
  unfold Builtin.Range.rangeSize
  rw[if_pos h]
  split
  ·have:=WN (a:=b - a - 1) (b:=c) ∅ ∅;lia
  ·lia
 lia
end
def LzA (H:Hp) (v:V):Option (Int×Int)->Prop
 | none=>v = .non
 | some l=>∃q,v = .ref q/\H q=some (.tup [.int l.1,.int l.2])
def LkO (T:Int) (b:Int×Int) (gs:List (Int×Int)) (ms:List Int) (N:Int):Option (Int×Int)->Prop
 | none=>ms=[b.1]/\N=b.2
 | some l=>N=lkN b l gs/\(∀k,k∈ms↔k∈lkM T b l gs)/\ms.Nodup/\ms.Pairwise (·<=·)
structure LkP (C:Addr) (H:Hp) (vs:List V) (trs:List (Int×Int)) (l0 h0:Int×Int) (z:Int) (b:Int×Int) (lz:Option (Int×Int)):Prop where
 ex:∃c p v pb sb tk ws,vs=[.ref c,.int z,.ref p,v]/\Xd H C c pb sb tk ws trs (some l0) (some h0)/\H p=some (.tup [.int b.1,.int b.2])/\LzA H v lz
 l8:trs.length<=8
 bl:Bd 2000 l0.1
 wl:Wb (some l0)
 wh:Wb (some h0)
inductive zjb (C:Addr) (CE:Addr) (vs:List V) (H:Hp) (Q:VK) (E:XK):Prop
 | mk:∀trs l0 h0 z b lz,(LkP C H vs trs l0 h0 z b lz)->((((∀l,lz=some l->LkA (2*(h0.1 - l0.1)) b l (zY l0.1 z trs)/\LkG (2*(h0.1 - l0.1)) b l (zY l0.1 z trs))/\∀r L ms N H',zi H H'->H' r=some (.tup [.ref L,.int N])->H' L=some (.lst (ms.map V.int))->LkO (2*(h0.1 - l0.1)) b (zY l0.1 z trs) ms N lz->Q (.ref r) H')\/(∃l,lz=some l/\LkA (2*(h0.1 - l0.1)) b l (zY l0.1 z trs)/\(∃g∈zY l0.1 z trs,1000<dif (2*(h0.1 - l0.1)) b (lkL b l,lkB b l) g)/\∀H',zi H H'->E (.ref CE) none H')))->zjb C CE vs H Q E
theorem ZR:zA ["course","spot","begin","lasting","gaps","bottom","first","last","finer","moments","rising","gap"] ["course","spot","begin","lasting"] (zk ZO):=scq
theorem zjW (D:Df K mg "looked_at" ZO ["course","spot","begin","lasting"] []) (T:TxB K mg) (TC:TCo K C) (TM:mg "MOST_LOOKED_AT" = some (.int 1000 tM)) (nSo:mg "sorted" = none) (nSe:mg "set" = none)
  (cL:Cal P w K mg base "least_multiple" 2 ["numbers"] [] Jn) (cGa:Cal P w K mg base "gaps_to" 1 ["course","spot"] [] (zfc C)) (cTr:Cal P w K mg base "trip_of" 1 ["course"] [] (QL C)) (cRt:vm P w K mg base "refuse_too_many" 2 ["gaps","trip","begin","end"] [] (zbx CE)) (cMb:Cal P w K mg base "moments_between" 1 ["gap","trip","bottom","begin","end"] [] zfg) :
  vm P w K mg base "looked_at" 3 ["course","spot","begin","lasting"] [] (zjb C CE):=by
 refine D.cal1 (k:=2) ZR (λvs H Q E h=>by obtain⟨_,_,_,_,_,_,h,_⟩:=h;obtain⟨_,_,_,_,_,_,_,rfl,_⟩:=h.ex;rfl) (λf cdv A outer s H vs Q E hr2 h=>?_)
 have hr1:z6 1 _:=hr2.md
 rcases q:h with⟨trs,l0,h0,z,b,lz,R,K'⟩
 rcases q:R.ex with⟨c,p,v,pb,sb,tk,ws,rfl,hco,hp,hlz⟩
 refine⟨_,(ze (zX (zE qC (pv 3) xf (zF _)) (zj (zD (zH (za (zV (za (pxt (pv 2)) zd)) (za (pxt (pv 2)) zd))))) zN)
  (ze (psl (i:=4) ZR.nd (zB cGa hr1 (za (pv 0) (za (pv 1) zd))))
  (ze (psl (i:=5) ZR.nd (zB cL hr2 (za (zV (za (pxt (pv 2)) (za (pxt (pv 3)) zd))) zd)))
  (ze (psl (i:=6) ZR.nd (zr zK (pxt (pv 2)) (zr xC (pv 5) (pxt (pv 2)))))
  (ze (psl (i:=7) ZR.nd (zr xg (pv 6) (zr zK (pxt (pv 3)) (zr xC (pv 5) (pxt (pv 3))))))
  (ze (xm (Xg cRt hr2 qE (za (pv 4) (za (zB cTr hr1 (za (pv 0) zd)) (za (pv 2) (za (zH (za (pv 7) (za (pv 5) zd))) zd))))))
  (ze (psl (i:=8) ZR.nd (zB cL hr2 (za (zr JO (zV (za (pv 5) zd)) (vc (NB:=["speed","gap"]) rfl (by decide +kernel) (by decide +kernel) rfl (by decide +kernel) (xh (pv 4)) (by intro _ _ _;refine⟨?_,?_,?_⟩;(exact(Z6 (K:=K) (n:=2) rfl rfl (zP (pgl (i:=0) (show List.Nodup (["speed","gap"]:List Str) by decide +kernel)) (zP (pgl (i:=1) (show List.Nodup (["speed","gap"]:List Str) by decide +kernel)) xI))));(exact xJ);(exact(zJ qH (by rfl) T.nAbs yK (za (pv 0) zd)))))) zd)))
  (ze (Xn (i:=6) (j:=7) rfl ZR.nd rfl rfl (by decide) rfl rfl (za (zr zK (pv 6) (zr xC (pv 8) (pv 5))) (za (zr zK (pv 7) (zr xC (pv 8) (pv 5))) zd)) (by rfl))
  (ze (psl (i:=9) ZR.nd (zV (za (pv 6) zd)))
  (ze (qM PassesOwn.leaving rfl (xh (pv 4)) (pgl (i:=11) ZR.nd) (zj (ziS (i:=9) ZR.nd rfl (Or.inl rfl) (zB cMb hr1 (za (pv 11) (za (zB cTr hr1 (za (pv 0) zd)) (za (pv 8) (za (pv 6) (za (pv 7) zd)))))) zeh)))
  (ze (psl (i:=10) ZR.nd (zbm rfl (by rfl) nSo (by rfl) nSe (pv 9)))
  (ze (zX (zE Zt (zJ zS (by rfl) T.nLen PySem.boot_len (za (pv 10) zd)) (qa (v:=.int 1000) (by rfl) TM ⟨_,rfl⟩) (zF _)) (zj zeM) zN)
  (zj (zD (zH (za (pv 10) (za (pv 8) zd))))))))))))))))),?_⟩
 try dsimp only[zU,Cx.nox]
 rcases lz with _ | l
 ·obtain rfl:=hlz
  rcases K' with⟨_,k⟩ | ⟨_,e,_⟩
  case inr=>cases e
  refine⟨_,rL,rL,_,rL,xw ⟨_,rL,p,_,_,_,rL,rL,.of hp,at0 ..,zL1,λL hL=>?_⟩⟩
  have S1:=zi.upd (o:=.lst [.int b.1]) hL
  have hp1:=S1 _ _ hp
  refine⟨_,rL,p,_,_,_,rL,rL,.of hp1,at1 ..,zL2,λr hr=>?_⟩
  have S2:=zi.upd (o:=.tup [.ref L,.int b.2]) hr
  exact k r L [b.1] b.2 _ (S1.trans S2) zg (S2 _ _ zg) ⟨rL,rL⟩
 obtain⟨q,rfl,hq⟩:=hlz
 have ZA:LkA (2*(h0.1 - l0.1)) b l (zY l0.1 z trs):=by
  rcases K' with⟨hG,_⟩ | ⟨_,e,ZA,_⟩
  ·exact(hG l rL).1
  ·cases e;exact ZA
 refine⟨_,rL,rL,_,rL,xc ?_⟩
 refine⟨_,rL,_,rL,c,z,pb,sb,tk,ws,trs,l0,some h0,rL,hco,R.l8,R.bl,λL us H1 S1 hLn hL hP=>?_⟩
 dsimp only[zG]
 have hp1:=S1 _ _ hp
 have hq1:=S1 _ _ hq
 have hT:lv (VG (some l0) (some h0))=V.int (2*(h0.1 - l0.1)):=rfl
 generalize 2*(h0.1 - l0.1)=T' at *
 generalize zY l0.1 z trs=gs at *
 obtain⟨B0,bB,_,_⟩:=ZA.B
 have bF:=ZA.F
 have bL:=ZA.L
 obtain⟨N0,_,_⟩:=ZA.N
 have bM:∀{n:Nat}{i:Int},Bd n i->n<=8000->Bd 1000000 i:=λh l=>h.mono ∅
 refine⟨_,rfl,p,_,_,_,rfl,rfl,.of hp1,at1 ..,_,rfl,q,_,_,_,rfl,rfl,.of hq1,at1 ..,zL2,λD1 hD1=>⟨D1,[b.2,l.2],rfl,zg,λk m=>⟨(ZA.pos2 k m).1,(ZA.pos2 k m).2.md⟩,by show 2<=20;decide,?_⟩⟩
 have S2:=S1.trans (zi.upd (o:=.lst [.int b.2,.int l.2]) hD1)
 have P2:=hP.tups (.of (zi.upd (o:=.lst [.int b.2,.int l.2]) hD1))
 have L2:=(zi.upd (o:=.lst [.int b.2,.int l.2]) hD1) _ _ hL
 dsimp only[List.map]
 generalize upd H1 D1 (.lst [.int b.2,.int l.2])=H2 at S2 P2 L2
 have hp2:=S2 _ _ hp
 have hq2:=S2 _ _ hq
 show _
 refine⟨_,rfl,p,_,_,_,rfl,rfl,.of hp2,at0 ..,_,rfl,_,rfl,p,_,_,_,rfl,rfl,.of hp2,at1 ..,_,_,rfl,rfl,⟨yM ZA.bb.2.2,ZA.bb.2.1.md⟩,_,_,rfl,rfl,⟨bM ZA.bb.1 (by decide),bM (bdx bB) (by decide)⟩,?_⟩
 try dsimp only
 refine⟨_,rfl,_,rfl,q,_,_,_,rfl,rfl,.of hq2,at0 ..,_,rfl,_,rfl,q,_,_,_,rfl,rfl,.of hq2,at1 ..,_,_,rfl,rfl,⟨yM ZA.bl.2.2,ZA.bl.2.1.md⟩,_,_,rfl,rfl,⟨bM ZA.bl.1 (by decide),bM (bdx bB) (by decide)⟩,_,_,rfl,rfl,?_⟩
 try dsimp only
 refine zM (λσ' G=>σ'=[Sr c,Si z,Sr p,Sr q,Sr L,some (.int (lkB b l)),some (.int (lkF b l)),some (.int (lkL b l)),none,none,none,none]/\zi H2 G/\LkG T' b l gs/\∀r L ms N H',zi H H'->H' r=some (.tup [.ref L,.int N])->H' L=some (.lst (ms.map V.int))->LkO T' b gs ms N (some l)->Q (.ref r) H') ?_ ?_
 rotate_left
 ·intro nx hnx
  refine⟨_,rL,_,rL,c,pb,sb,tk,ws,trs,some l0,some h0,rL,hco.same S2,R.wl,R.wh,?_⟩
  rw[hT]
  refine⟨_,rL,_,rL,_,rL,zL2,λe he=>?_⟩
  have S3':=zi.upd (o:=.tup [.int (lkL b l),.int (lkB b l)]) he
  refine⟨us,gs,T',b,(lkL b l,lkB b l),⟨⟨L,p,e,rL,S3' _ _ L2,S3' _ _ hp2,zg⟩,P2.tups (.of S3'),ZA.l16,λg m=>⟨(ZA.bg g m).2.1.md,(ZA.bg g m).2.2.md⟩,⟨ZA.T0.1,ZA.T0.2.md⟩,⟨ZA.bb.1.md,ZA.bb.2.1.md,ZA.bb.2.2⟩,⟨bL.md,bB.md,B0⟩⟩,?_⟩
  rcases K' with⟨hG,k⟩ | ⟨_,e',_,hd,k⟩
  ·exact .inl ⟨(hG l rL).2.df,hnx _ _ ⟨rL,S3',(hG l rL).2,k⟩⟩
  ·cases e';exact .inr ⟨hd,CE,rfl,k _ (S2.trans S3')⟩
 rintro σ3 H3 ⟨rfl,S3',ZG,k⟩
 have S3:=S2.trans S3'
 have P3:=P2.tups (.of S3')
 have L3:=S3' _ _ L2
 have lu:=hP.1
 have l16:=ZA.l16
 refine zM (λσ' G=>σ'=[Sr c,Si z,Sr p,Sr q,Sr L,some (.int (lkB b l)),some (.int (lkF b l)),some (.int (lkL b l)),some (.int (lkN b l gs)),none,none,none]/\zi H3 G/\Zx G us gs/\G L=some (.lst us)) ?_ ?_
 rotate_left
 ·intro nx hnx
  refine⟨_,rL,zL1,λD1 hD1=>?_⟩
  have S4':=zi.upd (o:=.lst [.int (lkB b l)]) hD1
  have P4:=P3.tups (.of S4')
  have L4:=S4' _ _ L3
  have D4:upd H3 D1 (.lst [.int (lkB b l)]) D1=some (.lst [.int (lkB b l)]):=zg
  generalize upd H3 D1 (.lst [.int (lkB b l)])=H4 at S4' P4 L4 D4
  refine⟨_,rL,L,rL,⟨_,SqL.of L4⟩,λDe hDe=>?_⟩
  refine v6 (J:=Itl K L) (g:=zai K 2 (v9 (zG 0) (v9 (zG 1) za5))) (te:=_) (n:=2) (xs:=us) (λi v G=>∃n,(gs.map λg=>xk g.1)[i]? = some n/\v = .int n) (λ_ _ _ _ _ h=>h) hDe (xA L4) (xV (by rw[lu];lia)) ?_ ?_
  ·intro i y zs G2 Q' hy hz S5 hQ
   rcases q:P4.2 i y hy with⟨g,a,hg,rfl,ha⟩
   obtain⟨w1,w2,rfl⟩:=zc3 hz
   exact⟨a,_,rfl,.of (S5 _ _ ha),rfl,_,_,rfl,_,_,rfl,rfl,_,rfl,_,rfl,hQ _ _ (zi.refl _) ⟨_,by rw[wo,hg];rfl,rfl⟩⟩
  intro us2 G2 S5 hDG2 hul2 hR2
  have e2:us2=(gs.map λg=>xk g.1).map V.int:=XX (by rw[we];lia) λi v e=>hR2 i v e
  rw[e2]at hDG2
  have P5:=P4.tups (.of S5)
  have L5':=S5 _ _ L4
  have D5:=S5 _ _ D4
  refine⟨D1,De,_,_,rfl,rfl,D5,hDG2,szl (by rw[we,we,uf];lia),λp5 hp5=>⟨p5,lkB b l::gs.map λg=>xk g.1,rfl,zg,ZA.posN,by rw[ww,we];lia,?_⟩⟩
  have S6':=zi.upd (o:=.lst ([.int (lkB b l)]++(gs.map λg=>xk g.1).map V.int)) hp5
  have P6:=P5.tups (.of S6')
  have L6:=S6' _ _ L5'
  exact hnx _ _ ⟨rL,S4'.trans (S5.trans S6'),P6,L6⟩
 rintro σ6 H6 ⟨rfl,S6',P6,L6⟩
 have S6:=S3.trans S6'
 have bN:=ZG.bn
 have ND:Bd 1301 ((lkN b l gs).fdiv (lkB b l)):=bdx bN
 refine zM (λσ' G=>σ'=[Sr c,Si z,Sr p,Sr q,Sr L,some (.int (lkB b l)),some (.int (lkU b l gs (lkF b l))),some (.int (lkU b l gs (lkL b l))),some (.int (lkN b l gs)),none,none,none]/\G=H6) ?_ ?_
 rotate_left
 ·intro nx hnx
  refine⟨_,rfl,_,rfl,_,rfl,_,_,rfl,rfl,⟨yM B0,bB.md⟩,_,_,rfl,rfl,⟨bM bF (by decide),bM ND (by decide)⟩,?_⟩
  refine⟨_,rfl,_,rfl,_,rfl,_,_,rfl,rfl,⟨yM B0,bB.md⟩,_,_,rfl,rfl,⟨bM bL (by decide),bM ND (by decide)⟩,_,_,rfl,?_⟩
  exact hnx _ _ ⟨rL,rL⟩
 rintro σ7 _ ⟨rfl,rfl⟩
 refine zM (λσ' G=>∃M,σ'=[Sr c,Si z,Sr p,Sr q,Sr L,some (.int (lkB b l)),some (.int (lkU b l gs (lkF b l))),some (.int (lkU b l gs (lkL b l))),some (.int (lkN b l gs)),Sr M,none,none]/\zi H G/\G M=some (.lst ([lkU b l gs (lkF b l)].map V.int))/\G L=some (.lst us)/\Zx G us gs/\M≠L/\H M=none) ?_ ?_
 rotate_left
 ·intro nx hnx
  refine⟨_,rL,zL1,λM hM=>?_⟩
  have S7':=zi.upd (o:=.lst [.int (lkU b l gs (lkF b l))]) hM
  refine hnx _ _ ⟨M,rfl,S6.trans S7',zg,S7' _ _ L6,P6.tups (.of S7'),(λe=>by rw[e,L6]at hM;cases hM),?_⟩
  cases e:H M with
  | none=>rfl
  | some o=>rw[S6 _ _ e]at hM;cases hM
 rintro σ8 H7 hQq;rcases q:hQq with⟨M,rfl,S7,M7,L7,P7,hML,Mn⟩
 have hln:=ZG.ln
 unfold lkM at hln
 rw[ww]at hln
 generalize hF:lkU b l gs (lkF b l)=F at *
 generalize hE:lkU b l gs (lkL b l)=E' at *
 generalize hN:lkN b l gs=N at *
 have szK:∀{n:Nat},n<=9000->n<=sizeLine:=λh=>by rw[sizeLine_eq];lia
 refine zM (λσ' G=>∃x,σ'=[Sr c,Si z,Sr p,Sr q,Sr L,some (.int (lkB b l)),Si F,Si E',Si N,Sr M,none,x]/\zi H G/\G M=some (.lst ((F::lkG T' N F E' gs).map V.int))) ?_ ?_
 rotate_left
 ·intro nx hnx
  refine⟨_,rL,L,rL,⟨_,SqL.of L7⟩,?_⟩
  refine qA (xs:=us) (λi σ' G=>∃x,σ'=[Sr c,Si z,Sr p,Sr q,Sr L,some (.int (lkB b l)),Si F,Si E',Si N,Sr M,none,x]/\zi H G/\G M=some (.lst ((F::lkG T' N F E' (gs.take i)).map V.int))/\G L=some (.lst us)/\Zx G us gs) ⟨none,rL,S7,M7,L7,P7⟩ (λi σ' G _ ⟨_,_,_,_,h,_⟩=>SqL.of h) ?_ ?_
  ·rintro i y σ' G hy hQq;rcases q:hQq with⟨x,rfl,SG,hGM,hGL,PG'⟩
   rcases q:PG'.2 i y hy with⟨g,a,eg,rfl,ha⟩
   have m:=wM eg
   have sp:=ZA.stp m
   rw[hN]at sp
   dsimp only[zG]
   refine⟨_,rL,_,rL,_,rL,c,pb,sb,tk,ws,trs,some l0,some h0,rL,hco.same SG,R.wl,R.wh,?_⟩
   rw[hT]
   have hc:=ZG.cn g m
   rw[hN,hF,hE]at hc
   refine⟨_,rfl,_,rfl,_,rfl,a,T',N,F,E',g,lkC T' N F E' g,rfl,ha,(ZA.bg g m).1,(ZA.bg g m).2.1.md,(ZA.bg g m).2.2.md,ZA.T0.2.md,bN.md,sp,zeU sp,by lia,λl' H' S' hl' hl=>?_⟩
   have hle:=zib T' N F E' gs (i+1)
   have et:=zeq (T:=T') (F:=N) (b:=F) (e:=E') eg
   rw[et,wI]at hle
   have hGM':=S' _ _ hGM
   refine⟨M,l',_,_,rL,rL,hGM',hl,szK ?_,?_⟩
   ·rw[we,we,ww]
    unfold lkW at hle
    lia
   refine⟨_,rL,Zd (SG.trans S') Mn,?_,?_,?_⟩
   ·rw[zg,<-yV,et];rfl
   ·rw[zO (Ne.symm hML)];exact S' _ _ hGL
   ·exact(PG'.tups (.of S')).tups (xp.upd hGM')
  ·rintro σ' G hQq;rcases q:hQq with⟨x,rfl,SG,hGM,hGL,PG'⟩
   rw[lu,yt]at hGM
   exact hnx _ _ ⟨x,rL,SG,hGM⟩
 rintro σ9 H9 ⟨x,rfl,S9,M9⟩
 refine⟨_,rfl,M,_,rfl,SqL.of M9,by rw[ww];lia,λDr ms hDr hmem nd pw=>?_⟩
 have hD9:upd H9 Dr (.lst (ms.map V.int)) Dr=some (.lst (ms.map V.int)):=zg
 have S10:=S9.trans (zi.upd (o:=.lst (ms.map V.int)) hDr)
 have hml:ms.length<=1000:=ZG.mx ms (by unfold lkM;rw[hN,hF,hE];exact hmem) nd
 dsimp only[zG]
 generalize upd H9 Dr (.lst (ms.map V.int))=H10 at hD9 S10
 refine⟨_,rL,Dr,_,rL,.inl (.of hD9),_,_,rL,rL,_,rL,?_⟩
 rw[we,wA ∅]
 refine xc ⟨_,rL,_,rL,zL2,λr hr=>?_⟩
 have S11:=zi.upd (o:=.tup [.ref Dr,.int N]) hr
 exact k r Dr ms N _ (S10.trans S11) zg (S11 _ _ hD9) ⟨hN.symm,by unfold lkM;rw[hN,hF,hE];exact hmem,nd,pw⟩
inductive zg2  (vs:List V) (H:Hp) (Q:VK) (_e3:XK):Prop
 | mk:∀p q x y,(vs=[.ref p,.ref q])->(zp H p x)->(zp H q y)->(Sz2 x y)->(Q (.bl (decide (x<y))) H)->zg2 vs H Q _e3
theorem zi2:zA ["one","other"] ["one","other"] (zk zbq):=scq
theorem zix (D:Df K mg "less" zbq ["one","other"] []):Cal P w K mg base "less" 1 ["one","other"] [] zg2:=by
 rcases r:D.calq (k:=0) zi2 with⟨p,q,x,y,rfl,hp,hq,⟨hx,hy⟩,k⟩
 have bx:=Bd4 hx
 have b_y:=Bd4 hy
 refine⟨_,(zj (zD (qm vN (zr zK (pxt (pv 0)) (pxt (pv 1))) (zr zK (pxt (pv 1)) (pxt (pv 0))) (zF _)))),?_⟩
 try dsimp only[zU,Cx.nox]
 refine⟨_,rL,p,_,_,_,rL,rL,.of hp,at0 ..,_,rL,q,_,_,_,rL,rL,.of hq,at1 ..,_,_,rL,rL,⟨bx.1,b_y.2⟩,_,rL,q,_,_,_,rL,rL,.of hq,at0 ..,_,rL,p,_,_,_,rL,rL,.of hp,at1 ..,_,_,rL,rL,⟨b_y.1,bx.2⟩,_,_,rL,rL,?_⟩
 show Q (.bl (decide (x.num*(y.den:Int)<y.num*(x.den:Int)))) H
 rw[zeo];exact k
structure zhO (H:Hp) (a:Addr) (lo hi:Rat):Prop where
 w:∃b c p q p' q',H a=some (.tup [.ref b,.ref c])/\H b=some (.tup [.ref p,.ref p'])/\H c=some (.tup [.ref q,.ref q'])/\zp H p lo/\zp H q hi
theorem Ln.ws {H:Hp}{r a:Addr}{bs:List Bl}{lo hi x y:Rat}(h:Ln H r a bs (some (lo,x)) (some (hi,y))):zhO H a lo hi:=by
 obtain⟨v1,v2,h1,⟨b,p,q,rfl,h3,h4,h5⟩,⟨c,p',q',rfl,g3,g4,g5⟩⟩:=h.walls
 exact⟨b,c,p,p',q,q',h1,h3,g3,h4,g4⟩
inductive zfl  (vs:List V) (H:Hp) (Q:VK) (_e3:XK):Prop
 | mk:∀a m lo hi y,(vs=[.ref a,.ref m])->(zhO H a lo hi)->(zp H m y)->(Sz 4000 lo)->(Sz 4000 hi)->(Sz 4000 y)->(lo<=y)->(y<=hi)->(Q .non H)->zfl vs H Q _e3
theorem ze6:zA ["walls","place"] ["walls","place"] (zk xO):=scq
theorem ziF (D:Df K mg "refuse_no_place" xO ["walls","place"] []) (cLs:Cal P w K mg base "less" 1 ["one","other"] [] zg2):Cal P w K mg base "refuse_no_place" 2 ["walls","place"] [] zfl:=by
 rcases r:D.calq (k:=1) ze6 with⟨a,m,lo,hi,y,rfl,⟨b,c,p,q,p',q',h1,h2,h3,h4,h5⟩,hm,z1,z2,z3,y0,y1,k⟩
 refine⟨_,(zj (zX ((Xh (xD (zB cLs hr (za (pv 1) (za (pxt (pxt (pv 0))) zd))) λ_=>rL) (ZK (xD (zB cLs hr (za (pxt (pxt (pv 0))) (za (pv 1) zd))) λ_=>rL)))).pt qt zN)),?_⟩
 try dsimp only[zU,Cx.nox]
 refine⟨_,rL,_,rL,a,_,_,_,rL,rL,.of h1,at0 ..,b,_,_,_,rL,rL,.of h2,at0 ..,m,p,y,lo,rL,hm,h4,⟨z3,z1⟩,?_⟩
 rw[wA (show ¬y<lo by grind)]
 refine⟨_,rL,xc ⟨_,rL,a,_,_,_,rL,rL,.of h1,at1 ..,c,_,_,_,rL,rL,.of h3,at0 ..,_,rL,q,m,hi,y,rL,h5,hm,⟨z2,z3⟩,?_⟩⟩
 rw[wA (show ¬hi<y by grind)]
 exact⟨_,rL,xc k⟩
def noB (b0:vB) (bs:List vB) (l1 l2:Wl):Prop:=plB b0 bs l1 l2=false\/(plB b0 bs l1 l2=true/\(l1=none\/l2=none))
inductive zfi (C:Addr) (vs:List V) (H:Hp) (_e2:VK) (E:XK):Prop
 | mk:∀r a bs b0 l1 l2,(vs=[.ref r,.ref a])->(Pl H r a bs b0 l1 l2)->(noB b0 bs l1 l2)->(∀H',zi H H'->E (.ref C) none H')->zfi C vs H _e2 E
theorem zgn (D:Df K mg "refuse_no_box" qg ["row","walls"] []) (O:zcB "NotEven" CE mg base) (cRu:Cal P w K mg base "refuse_uneven" 7 ["row","walls"] [] zg5) (cRuE:vm P w K mg base "refuse_uneven" 7 ["row","walls"] [] (zfn CE)):vm P w K mg base "refuse_no_box" 8 ["row","walls"] [] (zfi CE):=by
 refine D.cal1q (k:=7) ze3 (λf cdv A outer s H vs Q E hr7 h=>?_)
 rcases q:h with⟨r,a,bs,b0,l1,l2,rfl,pl,hp,k⟩
 rcases hp with hp | ⟨hp,hn⟩
 ·refine⟨_,(ze (xm (Xg cRuE hr7 qE (za (pv 0) (za (pv 1) zd)))) qt),?_⟩
  try dsimp only[zU,Cx.nox]
  exact⟨_,rL,_,rL,r,a,_,_,l1,l2,rL,pl,hp,λH1 e1=>⟨CE,rL,k H1 e1⟩⟩
 ·refine⟨_,(ze (xm (zB cRu hr7 (za (pv 0) (za (pv 1) zd)))) (zj (zX ((Xh (zE qC (pxt (pv 1)) xf (zF _)) (ZK (zE qC (pxt (pv 1)) xf (zF _))))).pt (zj (ZJ O yp (by decide +kernel) yp hr7.hd qG (za xG zd))) zN))),?_⟩
  try dsimp only[zU,Cx.nox]
  refine⟨_,rL,_,rL,r,a,_,_,l1,l2,rL,pl,hp,λH1 e1=>?_⟩
  try dsimp only
  rcases q:pl.walls with⟨v1,v2,ha,h1,h2⟩
  have ha1:=e1 _ _ ha
  cases l1 with
  | none =>
   cases h1
   exact⟨_,rL,a,_,_,_,rL,rL,.of ha1,at0 ..,rL,_,rL,xw ⟨zL1,k H1 e1⟩⟩
  | some w1 =>
   rcases hn with hn | hn
   ·cases hn
   ·subst hn
    rcases q:h1 with⟨a1,_,_,rfl,_⟩
    cases h2
    exact⟨_,rL,a,_,_,_,rL,rL,.of ha1,at0 ..,rL,_,rL,xc ⟨_,rL,a,_,_,_,rL,rL,.of ha1,at1 ..,rL,_,rL,xw ⟨zL1,k H1 e1⟩⟩⟩
inductive zbw (C:Addr) (vs:List V) (H:Hp) (_e2:VK) (E:XK):Prop
 | mk:∀a m lo hi y,(vs=[.ref a,.ref m])->(zhO H a lo hi)->(zp H m y)->(Sz 4000 lo)->(Sz 4000 hi)->(Sz 4000 y)->((y<lo\/hi<y))->(E (.ref C) none H)->zbw C vs H _e2 E
theorem zgq (D:Df K mg "refuse_no_place" xO ["walls","place"] []) (O:zcB "NoPlace" CP mg base) (cLs:Cal P w K mg base "less" 1 ["one","other"] [] zg2):vm P w K mg base "refuse_no_place" 2 ["walls","place"] [] (zbw CP):=by
 rcases r:D.cal1q (k:=1) ze6 with⟨a,m,lo,hi,y,rfl,⟨b,c,p,q,p',q',h1,h2,h3,h4,h5⟩,hm,z1,z2,z3,hy,k⟩
 refine⟨_,(zj (zX ((Xh (xD (zB cLs hr (za (pv 1) (za (pxt (pxt (pv 0))) zd))) λ_=>rfl) (ZK (xD (zB cLs hr (za (pxt (pxt (pv 0))) (za (pv 1) zd))) λ_=>rfl)))).pt (zj (ZJ O yp (by decide +kernel) yp hr.hd qG (za xG zd))) zN)),?_⟩
 try dsimp only[zU,Cx.nox]
 refine⟨_,rL,_,rL,a,_,_,_,rL,rL,.of h1,at0 ..,b,_,_,_,rL,rL,.of h2,at0 ..,m,p,y,lo,rL,hm,h4,⟨z3,z1⟩,?_⟩
 by_cases c1:y<lo
 ·rw[wm c1]
  exact⟨_,rL,xw ⟨zL1,k⟩⟩
 ·rw[wA c1]
  refine⟨_,rL,xc ⟨_,rL,a,_,_,_,rL,rL,.of h1,at1 ..,c,_,_,_,rL,rL,.of h3,at0 ..,_,rL,q,m,hi,y,rL,h5,hm,⟨z2,z3⟩,?_⟩⟩
  rw[wm (show hi<y by rcases hy with h | h;exact absurd h c1;exact h)]
  exact⟨_,rL,xw ⟨zL1,k⟩⟩
theorem ZS:zA ["row","walls","k","place","t","course","spot","found","lasting","moments","bottom","moment"] ["row","walls","k","place","t"] (zk XG):=scq
inductive zaJ (C:Addr) (vs:List V) (H:Hp) (_e2:VK) (E:XK):Prop
 | mk:∀r a u3 u4 u5 bs b0 lo hi,(vs=[.ref r,.ref a,u3,u4,u5])->(Ln H r a bs lo hi)->(bs[0]? = some b0)->(noB (tb b0) (bs.map tb) lo hi)->(∀H',zi H H'->E (.ref C) none H')->zaJ C vs H _e2 E
theorem ziK (D:Df K mg "when" XG ["row","walls","k","place","t"] []) (cNxE:vm P w K mg base "refuse_no_box" 8 ["row","walls"] [] (zfi CE)):vm P w K mg base "when" 10 ["row","walls","k","place","t"] [] (zaJ CE):=by
 refine D.cal1q (k:=9) ZS (λf cdv A outer s H vs Q E hr9 h=>?_)
 rcases q:h with⟨r,a,u3,u4,u5,bs,b0,lo,hi,rfl,ln,h0,nb,k⟩
 have hr8:z6 8 _:=hr9.md
 obtain⟨b0',e0',pl⟩:=ln.pl
 rw[h0]at e0';cases e0'
 refine⟨_,(ze (xm (Xg cNxE hr8 qE (za (pv 0) (za (pv 1) zd)))) qt),?_⟩
 try dsimp only[zU,Cx.nox]
 exact⟨_,rL,_,rL,r,a,_,_,lo,hi,rL,pl,nb,λH1 e1=>⟨CE,rL,k H1 e1⟩⟩
inductive VC (C:Addr) (vs:List V) (H:Hp) (_e2:VK) (E:XK):Prop
 | mk:∀r a k u4 u5 bs b0 l1 l2,(vs=[.ref r,.ref a,.int k,u4,u5])->(Ln H r a bs (some l1) (some l2))->(bs[0]? = some b0)->(plB (tb b0) (bs.map tb) (some l1) (some l2)=true)->(¬(0<=k/\k<bs.length))->(∀H',zi H H'->E (.ref C) none H')->VC C vs H _e2 E
theorem ziJ (D:Df K mg "when" XG ["row","walls","k","place","t"] []) (T:TxB K mg) (cNx:Cal P w K mg base "refuse_no_box" 8 ["row","walls"] [] zdp) (cNbE:vm P w K mg base "refuse_no_ball" 1 ["many","k"] [] (zfh CB)):vm P w K mg base "when" 10 ["row","walls","k","place","t"] [] (VC CB):=by
 refine D.cal1q (k:=9) ZS (λf cdv A outer s H vs Q E hr9 h=>?_)
 rcases q:h with⟨r,a,k,u4,u5,bs,b0,l1,l2,rfl,ln,h0,hp,hk,q⟩
 have hr8:z6 8 _:=hr9.md
 have hr1:z6 1 _:=hr9.md
 obtain⟨b0',e0',pl⟩:=ln.pl
 rw[h0]at e0';cases e0'
 refine⟨_,(ze (xm (zB cNx hr8 (za (pv 0) (za (pv 1) zd)))) (ze (xm (Xg cNbE hr1 qE (za (zJ zS (by rfl) T.nLen PySem.boot_len (za (pv 0) zd)) (za (pv 2) zd)))) qt)),?_⟩
 try dsimp only[zU,Cx.nox]
 refine⟨_,rL,_,rL,r,a,_,_,_,_,rL,pl,hp,λG1 s1=>?_⟩
 obtain⟨us,hr0,row⟩:=(ln.same s1).row
 have hul:=row.1
 exact⟨_,rfl,r,us,rfl,.inr (SqT.of hr0),_,rfl,_,_,rfl,by rw[hul];exact hk,CB,rfl,q G1 s1⟩
inductive VD (C:Addr) (vs:List V) (H:Hp) (_e2:VK) (E:XK):Prop
 | mk:∀r a k m u5 bs b0 lo hi x x' y,(vs=[.ref r,.ref a,.int k,.ref m,u5])->(Ln H r a bs (some (lo,x)) (some (hi,x')))->(bs[0]? = some b0)->(plB (tb b0) (bs.map tb) (some (lo,x)) (some (hi,x'))=true)->(0<=k)->(k<bs.length)->(zp H m y)->(Sz 4000 lo)->(Sz 4000 hi)->(Sz 4000 y)->((y<lo\/hi<y))->(∀H',zi H H'->E (.ref C) none H')->VD C vs H _e2 E
theorem ziL (D:Df K mg "when" XG ["row","walls","k","place","t"] []) (T:TxB K mg) (cNx:Cal P w K mg base "refuse_no_box" 8 ["row","walls"] [] zdp) (cNb:Cal P w K mg base "refuse_no_ball" 1 ["many","k"] [] zg3) (cRnpE:vm P w K mg base "refuse_no_place" 2 ["walls","place"] [] (zbw CP)):vm P w K mg base "when" 10 ["row","walls","k","place","t"] [] (VD CP):=by
 refine D.cal1q (k:=9) ZS (λf cdv A outer s H vs Q E hr9 h=>?_)
 rcases q:h with⟨r,a,k,m,u5,bs,b0,lo,hi,x,x',y,rfl,ln,h0,hp,k0,k1,hm,z1,z2,z3,hy,q⟩
 have hr8:z6 8 _:=hr9.md
 have hr2:z6 2 _:=hr9.md
 have hr1:z6 1 _:=hr9.md
 obtain⟨b0',e0',pl⟩:=ln.pl
 rw[h0]at e0';cases e0'
 refine⟨_,(ze (xm (zB cNx hr8 (za (pv 0) (za (pv 1) zd)))) (ze (xm (zB cNb hr1 (za (zJ zS (by rfl) T.nLen PySem.boot_len (za (pv 0) zd)) (za (pv 2) zd)))) (ze (xm (Xg cRnpE hr2 qE (za (pv 1) (za (pv 3) zd)))) qt))),?_⟩
 try dsimp only[zU,Cx.nox]
 refine⟨_,rL,_,rL,r,a,_,_,_,_,rL,pl,hp,λG1 s1=>?_⟩
 obtain⟨us,hr0,row⟩:=(ln.same s1).row
 have hul:=row.1
 refine⟨_,rfl,r,us,rfl,.inr (SqT.of hr0),_,rfl,_,_,rfl,k0,by rw[hul];exact k1,?_⟩
 exact⟨_,rL,_,rL,a,m,lo,hi,y,rL,(ln.same s1).ws,s1 _ _ hm,z1,z2,z3,hy,CP,rL,q G1 s1⟩
theorem ziU {a b c:Int}{n:Nat}(hc:0<c) (hn:Builtin.Range.rangeSize a b c=(n:Int)){k:Int}(m:k∈VP a c n):a<=k/\k<b:=by
 obtain⟨i,mi,rfl⟩:=wn.mp m
 have hi:=WW.mp mi
 unfold Builtin.Range.rangeSize at hn
 rw[if_pos hc]at hn
 split at hn
 ·have h1:=Ya (b - a - 1) c
  have h2:=uL (b - a - 1) (show c≠0 by lia)
  generalize (b - a - 1)/c=q at *
  have h3:(i:Int)<=q:=by lia
  have h4:(i:Int)*c<=q*c:=yL h3 ∅
  have h5:0<=(i:Int)*c:=Ud ∅ ∅
  rw[WC c q]at h1
  lia
 ·lia
theorem zep {T F b e:Int}:∀{gs:List (Int×Int)}{k:Int},(∀g∈gs,0<QR T F g)->k∈lkG T F b e gs->b<k/\k<e
 | [],k,_,m=>by cases m
 | g::gs,k,h,m=>by
  rcases wQ.mp m with m | m
  ·have hs:=h g wH
   have:=ziU hs (zeU hs) m
   have:=uL (zc7 F g - b - 1) (show QR T F g≠0 by omega)
   unfold zc6 at *
   omega
  ·exact zep (λx q=>h x (wO _ q)) m
theorem zjN {T:Int}{b l:Int×Int}{gs:List (Int×Int)} (A:LkA T b l gs){k:Int}(m:k∈lkM T b l gs):k=lkU b l gs (lkF b l)\/(lkU b l gs (lkF b l)<k/\k<lkU b l gs (lkL b l)):=by
 rcases wx.mp m with h | h
 ·exact .inl h
 ·exact .inr (zep (λg q=>A.stp q) h)
theorem zjM {T:Int}{b l:Int×Int}{gs:List (Int×Int)} (A:LkA T b l gs) (G:LkG T b l gs){k:Int}(m:k∈lkM T b l gs):Bd 2000 k:=by
 have ND:Bd 1301 ((lkN b l gs).fdiv (lkB b l)):=bdx G.bn
 have h1:Bd 2000 (lkU b l gs (lkF b l)):=(A.F.mul ND).md
 have h2:Bd 2000 (lkU b l gs (lkL b l)):=(A.L.mul ND).md
 rcases zjN A m with h | h
 ·rw[h];exact h1
 ·have a1:(lkU b l gs (lkF b l)).natAbs<2^2000:=h1
  have a2:(lkU b l gs (lkL b l)).natAbs<2^2000:=h2
  show k.natAbs<2^2000
  generalize 2^2000=X at *
  omega
theorem zid {T:Int}{b:Int×Int}{gs:List (Int×Int)}{ms:List Int}{N:Int}{lz:Option (Int×Int)} (hb:Bd 190 b.1/\Bd 190 b.2/\0<b.2) (h:LkO T b gs ms N lz) (hz:∀l,lz=some l->LkA T b l gs/\LkG T b l gs):(∀k∈ms,Bd 2000 k)/\Bd 2000 N/\0<N/\ms.length<=1000:=by
 cases lz with
 | none =>
  obtain⟨rfl,rfl⟩:=h
  exact⟨λk m=>by rw[wD.mp m];exact hb.1.md,hb.2.1.md,hb.2.2,by show 1<=1000;decide⟩
 | some l =>
  obtain⟨rfl,hm,nd,_⟩:=h
  obtain⟨A,G⟩:=hz l rfl
  exact⟨λk m=>zjM A G ((hm k).mp m),G.bn.md,A.N.1,G.mx ms hm nd⟩
theorem CoT.same {H H':Hp}{C c tl:Addr}{pb sb:Int}{tk:Rat}{ws:List Int}{trs:List (Int×Int)}{lo hi:Option (Int×Int)} (h:CoT H C c tl pb sb tk ws trs lo hi) (e:zi H H'):CoT H' C c tl pb sb tk ws trs lo hi:=by
 obtain⟨dx,fs,tv,h1,F,h3,h4,h5⟩:=h
 obtain⟨tp,t1,t2⟩:=F.tick
 obtain⟨wl,w1,w2⟩:=F.weights
 obtain⟨tl',tv',r1,r2,r3⟩:=F.tracks
 obtain⟨a,a1,a2⟩:=F.low
 obtain⟨b,b1,b2⟩:=F.high
 exact⟨dx,fs,tv,e _ _ h1,⟨F.pb,F.sb,⟨tp,t1,e _ _ t2⟩,⟨wl,w1,e _ _ w2⟩,⟨tl',tv',r1,e _ _ r2,r3.keeps (.of e)⟩,⟨a,a1,a2.keeps (.of e)⟩,⟨b,b1,b2.keeps (.of e)⟩,F.len⟩,h3,e _ _ h4,h5.keeps (.of e)⟩
theorem CoT.at {H:Hp}{C c tl:Addr}{pb sb:Int}{tk:Rat}{ws:List Int}{trs:List (Int×Int)}{lo hi:Option (Int×Int)} (h:CoT H C c tl pb sb tk ws trs lo hi):Xd H C c pb sb tk ws trs lo hi:=by
 obtain⟨dx,fs,tv,h1,F,_⟩:=h
 exact⟨dx,fs,h1,F⟩
def moQ (tk:Rat) (t N:Int):Rat:=Rat.divInt (t*tk.num) (N*(tk.den:Int))
structure WhZ (bs:List Bl) (lo hi:Rat×Rat) (y x:Rat) (p s m z:Int) (trs:List (Int×Int)) (l h:Int×Int) (tk:Rat) (b:Int×Int):Prop where
 ep:p=pbO bs (some lo) (some hi)
 es:s=sbO bs (some lo) (some hi)
 em:m=(xL [p,(y.den:Int)]).fdiv p
 et:trs=(bs.map λb=>trB p s (b.pl,b.sp)).map (scT m)
 el:l=scT m (trB p s lo)
 eh:h=scT m (trB p s hi)
 etk:tk=Rat.divInt s p
 ez:z=y.num*(p*m).fdiv (y.den:Int)
 eb:b=((x/tk).num,((x/tk).den:Int))
 bp:Bd 200 p
 yz:Sz 190 y
 tr:∀t∈trs,BdP 1900 t
 bl:Bd 1900 l.1
 bh:Bd 1900 h.1
 lh:l.1<h.1
 bz:Bd 2000 z
 zx:Sz2 x tk
 bb:Bd 190 b.1/\Bd 190 b.2
structure WhA (H:Hp) (vs:List V) (k:Int) (bs:List Bl) (lo hi:Rat×Rat) (y x:Rat):Prop where
 ex:∃r a q u,vs=[.ref r,.ref a,.int k,.ref q,.ref u]/\Ln H r a bs (some lo) (some hi)/\zp H q y/\zp H u x
 lz:LnZ bs (some lo) (some hi)
 b0:∃b0,bs[0]? = some b0/\plB (tb b0) (bs.map tb) (some lo) (some hi)=true
 hk:0<=k/\k<bs.length
 yi:lo.1<=y/\y<=hi.1
def LzZ (T:Int) (tk:Rat) (pss:List (Int×List Int)) (lz:Option (Int×Int)):Prop :=
 (pss=[]->lz=none)/\(pss≠[]->∀kgs,KgZ T pss kgs->Sz2 (xn (ptL T tk kgs)) tk/\lz=some ((xn (ptL T tk kgs)/tk).num,((xn (ptL T tk kgs)/tk).den:Int)))
inductive XI (CE:Addr) (vs:List V) (H:Hp) (Q:VK) (E:XK):Prop
 | mk:∀k bs lo hi y x p s m z trs l h tk b T pss lz,(WhA H vs k bs lo hi y x)->(WhZ bs lo hi y x p s m z trs l h tk b)->(RoG bs lo hi T s tk pss)->(LzZ T tk pss lz)->((((∀l',lz=some l'->LkA (2*(h.1 - l.1)) b l' (zY l.1 z trs)/\LkG (2*(h.1 - l.1)) b l' (zY l.1 z trs))/\∀ms N,LkO (2*(h.1 - l.1)) b (zY l.1 z trs) ms N lz->(∀t,ms.find? (λt=>v4 (some l) (some h) trs k z t N)=some t->∀r q H',zi H H'->H' r=some (.tup [.str "at",.ref q])->zp H' q (moQ tk t N)->Q (.ref r) H')/\(ms.find? (λt=>v4 (some l) (some h) trs k z t N)=none->∀r L us H',zi H H'->H' r=some (.tup [.str "never",.ref L])->H' L=some (.lst us)->Zy H' us (ms.map λt=>moQ tk t N)->Q (.ref r) H'))\/∃l',lz=some l'/\LkA (2*(h.1 - l.1)) b l' (zY l.1 z trs)/\(∃g∈zY l.1 z trs,1000<dif (2*(h.1 - l.1)) b (lkL b l',lkB b l') g)/\∀H',zi H H'->E (.ref CE) none H'))->XI CE vs H Q E
theorem zj9 {fi:Addr}{fdi:FuncData}(D:Df K mg "when" XG ["row","walls","k","place","t"] []) (T:TxB K mg) (TC:TCo K C) (M:Mk K C fi) (Fi:Zu P w K mg base CX0 4 fi fdi ["self","row","walls"] (zg0 C)) (hmC:mg "Course" = some (.ref C)) (Bi:v5 K fdi ["self","row","walls"] [])
  (cNx:Cal P w K mg base "refuse_no_box" 8 ["row","walls"] [] zdp) (cNb:Cal P w K mg base "refuse_no_ball" 1 ["many","k"] [] zg3) (cRnp:Cal P w K mg base "refuse_no_place" 2 ["walls","place"] [] zfl)
  (cRe:Cal P w K mg base "refine" 2 ["course","many"] [] (zjd C)) (cL:Cal P w K mg base "least_multiple" 2 ["numbers"] [] Jn) (cRo:Cal P w K mg base "round_of" 9 ["row","walls"] [] zfm) (cTk:Cal P w K mg base "ticks_of" 4 ["course","moment"] [] (zji C)) (cLk:vm P w K mg base "looked_at" 3 ["course","spot","begin","lasting"] [] (zjb C CE)) (cThe:Cal P w K mg base "is_there" 2 ["course","k","spot","ticks"] [] (zfo C)) (cMo:Cal P w K mg base "moment_of" 3 ["course","ticks"] [] (zff C)) :
  vm P w K mg base "when" 10 ["row","walls","k","place","t"] [] (XI CE):=by
 refine D.cal1 (k:=9) ZS (λvs H Q E h=>by obtain⟨_,_,_,_,_,_,_,_,_,_,_,_,_,_,_,_,_,_,h,_⟩:=h;obtain⟨_,_,_,_,rfl,_⟩:=h.ex;rfl) (λf cdv A outer s0 H vs Q E hr9 hh=>?_)
 have hr8:z6 8 _:=hr9.md
 have hr5:z6 5 _:=hr9.md
 have hr4:z6 4 _:=hr9.md
 have hr3:z6 3 _:=hr9.md
 have hr2:z6 2 _:=hr9.md
 have hr1:z6 1 _:=hr9.md
 rcases q:hh with⟨k,bs,lo,hi,y,x,p,s,m,z,trs,l,h,tk,b,T',pss,lz,WA,WZ,RG,LZ,K'⟩
 rcases q:WA.ex with⟨r,a,q,u,rfl,ln,hq,hu⟩
 obtain⟨b0,h0,hp⟩:=WA.b0
 have lz0:=WA.lz
 have Z:=lz0.bd ln.l8
 obtain⟨b0',e0',pl⟩:=ln.pl
 rw[h0]at e0';cases e0'
 refine⟨_,(ze (xm (zB cNx hr8 (za (pv 0) (za (pv 1) zd))))
  (ze (xm (zB cNb hr1 (za (zJ zS (by rfl) T.nLen PySem.boot_len (za (pv 0) zd)) (za (pv 2) zd))))
  (ze (xm (zB cRnp hr2 (za (pv 1) (za (pv 3) zd))))
  (ze (Qv (i:=5) ZS.nd rfl (Or.inr rfl) (zcc M Fi hr5 (by rfl) hmC Bi .nil zeC (za (pv 0) (za (pv 1) zd))))
  (ze (xm (zB cRe hr2 (za (pv 5) (za (zr xC (zB cL hr2 (za (zV (za (xz (pv 5) rfl) (za (pxt (pv 3)) zd))) zd)) (xz (pv 5) rfl)) zd))))
  (ze (psl (i:=6) ZS.nd (zr zK (pxt (pv 3)) (zr xC (xz (pv 5) rfl) (pxt (pv 3)))))
  (ze (psl (i:=7) ZS.nd (zB cRo hr9 (za (pv 0) (za (pv 1) zd))))
  (ze (psl (i:=8) ZS.nd (Qa (zE qC (pv 7) xf (zF _)) xf (zB cTk hr4 (za (pv 5) (za (pxt (pv 7)) zd)))))
  (ze (Zk (Xg cLk hr3 qE (za (pv 5) (za (pv 6) (za (zB cTk hr4 (za (pv 5) (za (pv 4) zd))) (za (pv 8) zd))))) (qY rfl (zP (pgl (i:=9) ZS.nd) (zP (JR (i:=10) ZS.nd rfl (Or.inr rfl)) xI))))
  (ze (qM PassesOwn.leaving rfl (xh (pv 9)) (pgl (i:=11) ZS.nd) (zj (zX (xD (zB cThe hr2 (za (pv 5) (za (pv 2) (za (pv 6) (za (zH (za (pv 11) (za (pv 10) zd))) zd))))) λ_=>rfl) (zj (zD (zH (za xG (za (zB cMo hr3 (za (pv 5) (za (zH (za (pv 11) (za (pv 10) zd))) zd))) zd))))) zN)))
  (zj (zD (zH (za xG (za (qK (NB:=["moment"]) (FR:=["course","bottom"]) (js:=[5,10]) rfl rfl (λx c h=>Qk rfl rfl x c h) (.cons rfl rfl rfl ⟨_,rfl⟩ (.cons rfl rfl rfl ⟨_,rfl⟩ .nil)) rfl (by decide +kernel) rfl (by decide +kernel) (xh (pv 9)) (by intro _ _ _;refine⟨?_,?_,?_⟩;(exact(pgl (i:=0) (show List.Nodup (["moment","course","bottom"]:List Str) by decide +kernel)));(exact xJ);(exact(zB cMo hr3 (za (pv 1) (za (zH (za (pv 0) (za (pv 2) zd))) zd)))))) zd))))))))))))))),?_⟩
 try dsimp only[zU,Cx.nox]
 refine⟨_,rL,_,rL,r,a,_,_,lo,hi,rL,pl,hp,λH1 e1=>?_⟩
 have ln1:=ln.same e1
 obtain⟨us,hrr,hB⟩:=ln1.row
 rcases q:ln1.walls with⟨v1,v2,ha,w1,w2⟩
 have hul:=hB.1
 refine⟨_,rfl,r,us,rfl,.inr (SqT.of hrr),_,rfl,_,_,rfl,WA.hk.1,by rw[hul];exact WA.hk.2,?_⟩
 have hq1:=hq.same e1
 have slo:=lz0.sz _ (qQ (bs:=bs) (hi:=some hi) (t:=lo) rfl)
 have shi:=lz0.sz _ (vt (bs:=bs) (lo:=some lo) (t:=hi) rfl)
 refine⟨_,rL,_,rL,a,q,lo.1,hi.1,y,rL,ln1.ws,hq1,slo.1.sz.md,shi.1.sz.md,WZ.yz.md,WA.yi.1,WA.yi.2,?_⟩
 try dsimp only
 refine zM (λσ' G=>∃c tl,σ'=[Sr r,Sr a,Si k,Sr q,Sr u,Sr c,none,none,none,none,none,none]/\zi H G/\H c=none/\CoT G C c tl p s tk (bs.map Bl.wt) (bs.map λb=>trB p s (b.pl,b.sp)) (some (trB p s lo)) (some (trB p s hi))) ?_ ?_
 rotate_left
 ·intro nx hnx
  refine⟨_,rL,_,rL,λc dx hc hdx ne=>?_⟩
  have S0:zi H1 (upd (upd H1 dx (.own c)) c (.ins C dx [])):=(zi.upd hdx).trans (zi.upd (by rw[zO ne.symm];exact hc))
  refine⟨c,dx,r,a,us,bs,v1,v2,some lo,some hi,rL,zg,S0 _ _ hrr,hB.keeps (.of S0),S0 _ _ ha,w1.wl.keeps (.of S0),w2.wl.keeps (.of S0),ln.l8,λt mt=>⟨(lz0.sz t mt).1.sz,(lz0.sz t mt).2.sz⟩,λH2 X1 hcn=>⟨rL,?_⟩⟩
  have S2:zi H H2:=e1.trans λb o e=>X1 b o (zQ e hc) (S0 b o e)
  have hcH:H c=none:=by
   cases e:H c with
   | none=>rfl
   | some o=>rw[e1 _ _ e]at hc;cases hc
  rw[<-WZ.ep,<-WZ.es,<-WZ.etk]at hcn
  rcases q:hcn with⟨dx2,fs,tl,c1,c2,c3,_⟩
  rcases q:c2.tracks with⟨tl',tv,c4,c5,c6⟩
  rw[c3]at c4;cases c4
  exact hnx _ _ ⟨c,tl,rL,S2,hcH,dx2,fs,tv,c1,c2,c3,c5,c6⟩
 rintro σ1 H2 hQq;rcases q:hQq with⟨c,tl,rfl,S2,hcH,hco⟩
 have p0:0<p:=by rw[WZ.ep];exact Z.pb.1
 have pd:Pos 400 [p,(y.den:Int)]:=λk mk=>by
  rcases wx.mp mk with rfl | mk
  ·exact⟨p0,WZ.bp.md⟩
  ·rcases wx.mp mk with rfl | mk
   ·exact⟨den_pos y,WZ.yz.2.md⟩
   ·cases mk
 obtain⟨q0,qb,qd⟩:=Vn pd
 have qb':Bd 801 (xL [p,(y.den:Int)]):=qb.mono (by show 1+400*2<=801;decide)
 have m0:0<m:=by
  rw[WZ.em,wq _ ∅]
  exact Wr q0 ∅ (qd _ wH)
 have mb:Bd 802 m:=by rw[WZ.em];exact bdx qb'
 have sb:0<s/\Bd 401 s:=by rw[WZ.es];exact Z.sb
 have tr0:∀t∈ths bs (some lo) (some hi),BdP 2000 (trB p s t):=λt mt=>by
  rw[WZ.ep,WZ.es]
  exact⟨Jz (lz0.sz t mt).1.1 Z.pb.1 Z.pb.2,Jz (lz0.sz t mt).2.1 Z.sb.1 Z.sb.2⟩
 have BP:∀{t:Int×Int},BdP 2000 t->BdP 5000 t:=λh=>⟨h.1.md,h.2.md⟩
 have tl8:trs.length<=8:=by rw[WZ.et,we,we];exact ln.l8
 have cH3:∀{G G':Hp},zi H G->xj c G G'->zi H G':=λs1 s2 b o e=>s2 b o (zQ e hcH) (s1 b o e)
 have ztk:Sz 401 tk:=by rw[WZ.etk,WZ.ep,WZ.es];exact Z.tz
 have ntk:tk≠0:=by rw[WZ.etk,WZ.ep,WZ.es];exact Z.t0
 refine zM (λσ' G=>σ'=[Sr r,Sr a,Si k,Sr q,Sr u,Sr c,none,none,none,none,none,none]/\zi H G/\Xd G C c (p*m) (s*m) tk (bs.map Bl.wt) trs (some l) (some h)) ?_ ?_
 rotate_left
 ·intro nx hnx
  rcases q:id hco with⟨dx,fs,tv,hc,F,elt,htl,hTv⟩
  have hq2:=S2 _ _ hq
  refine⟨_,rfl,_,rfl,c,C,dx,fs,_,rfl,hc,TC.cls,TC.pb,F.pb,_,rfl,q,_,_,_,rfl,rfl,.of hq2,at1 ..,zL2,λD1 hD1=>⟨D1,[p,(y.den:Int)],rfl,zg,pd,by show 2<=20;decide,?_⟩⟩
  have S3':=zi.upd (o:=.lst [.int p,.int (y.den:Int)]) hD1
  have hco3:=hco.same S3'
  have hc3:=S3' _ _ hc
  try dsimp only
  refine⟨_,rL,c,C,dx,fs,_,rL,hc3,TC.cls,TC.pb,F.pb,_,_,rL,rL,⟨yM p0,WZ.bp.md⟩,?_⟩
  refine⟨c,tl,m,p,s,tk,_,_,_,_,by rw[WZ.em];rfl,hco3,by rw[we];exact ln.l8,mb.md,WZ.bp.md,sb.2.md,λt mt=>?_,λt e=>by cases e;exact BP (tr0 _ (qQ rfl)),λt e=>by cases e;exact BP (tr0 _ (vt rfl)),λH4 tl' X4 _ h4=>?_⟩
  ·obtain⟨b',mb',rfl⟩:=wn.mp mt
   exact BP (tr0 _ (VF mb'))
  ·rw[<-WZ.et,show (some (trB p s lo)).map (scT m)=some l by rw[WZ.el];rfl,show (some (trB p s hi)).map (scT m)=some h by rw[WZ.eh];rfl]at h4
   exact hnx _ _ ⟨rL,cH3 (S2.trans S3') X4,h4.at⟩
 rintro σ2 H3 ⟨rfl,S3,hco3⟩
 have wl:Wb (some l):=λt e=>by cases e;exact WZ.bl.md
 have wh:Wb (some h):=λt e=>by cases e;exact WZ.bh.md
 refine zM (λσ' G=>σ'=[Sr r,Sr a,Si k,Sr q,Sr u,Sr c,Si z,none,none,none,none,none]/\H3=G) ?_ ?_
 rotate_left
 ·intro nx hnx
  obtain⟨dx,fs,hc,F⟩:=id hco3
  have hq3:=S3 _ _ hq
  refine⟨_,rL,q,_,_,_,rL,rL,.of hq3,at0 ..,_,rL,c,C,dx,fs,_,rL,hc,TC.cls,TC.pb,F.pb,_,rL,q,_,_,_,rL,rL,.of hq3,at1 ..,_,_,rL,rL,⟨yM (den_pos y),WZ.yz.2.md⟩,_,_,rL,rL,⟨WZ.yz.1.md,(bdx (WZ.bp.mul mb)).md⟩,?_⟩
  exact hnx _ _ ⟨by rw[WZ.ez];rfl,rfl⟩
 rintro σ3 _ ⟨rfl,rfl⟩
 refine zM (λσ' G=>∃v7,σ'=[Sr r,Sr a,Si k,Sr q,Sr u,Sr c,Si z,some v7,none,none,none,none]/\zi H3 G/\((v7 = .non/\lz=none)\/∃zz qq li lr,v7 = .ref zz/\G zz=some (.tup [.ref qq,.ref li])/\zp G qq lr/\Sz2 lr tk/\lz=some ((lr/tk).num,((lr/tk).den:Int)))) ?_ ?_
 rotate_left
 ·intro nx hnx
  refine⟨_,rL,_,rL,r,a,bs,b0,lo,hi,T',s,tk,pss,rL,ln.same S3,lz0,h0,hp,RG,λe G SG=>hnx _ _ ⟨_,rL,SG,.inl ⟨rL,LZ.1 e⟩⟩,λe zz G kgs qq li us' SG kz hzz hqq _ _ _=>hnx _ _ ⟨_,rL,SG,.inr ⟨zz,qq,li,_,rL,hzz,hqq,(LZ.2 e kgs kz).1,(LZ.2 e kgs kz).2⟩⟩⟩
 rintro σ4 H4 ⟨v7,rfl,S4,h7⟩
 have hco4:=hco3.same S4
 have SH4:=S3.trans S4
 refine zM (λσ' G=>∃v8,σ'=[Sr r,Sr a,Si k,Sr q,Sr u,Sr c,Si z,some v7,some v8,none,none,none]/\zi H4 G/\LzA G v8 lz) ?_ ?_
 rotate_left
 ·intro nx hnx
  rcases h7 with⟨rfl,e⟩ | ⟨zz,qq,li,lr,rfl,hzz,hqq,slr,e⟩
  ·refine⟨_,rL,rL,_,rL,xw ?_⟩
   exact hnx _ _ ⟨_,rfl,zi.refl _,by rw[e];rfl⟩
  ·refine⟨_,rL,rL,_,rL,xc ?_⟩
   refine⟨_,rL,_,rL,zz,_,_,_,rL,rL,.of hzz,at0 ..,c,qq,p*m,s*m,tk,_,trs,some l,some h,lr,rL,hco4,hqq,slr,ntk,λr8 G SG hr8=>?_⟩
   exact hnx _ _ ⟨_,rfl,SG,by rw[e];exact⟨r8,rfl,hr8⟩⟩
 rintro σ5 H5 ⟨v8,rfl,S5,h8⟩
 have hco5:=hco4.same S5
 have SH5:=SH4.trans S5
 refine zM (λσ' G=>∃L ms N,σ'=[Sr r,Sr a,Si k,Sr q,Sr u,Sr c,Si z,some v7,some v8,Sr L,Si N,none]/\zi H5 G/\G L=some (.lst (ms.map V.int))/\LkO (2*(h.1 - l.1)) b (zY l.1 z trs) ms N lz/\(∀l',lz=some l'->LkA (2*(h.1 - l.1)) b l' (zY l.1 z trs)/\LkG (2*(h.1 - l.1)) b l' (zY l.1 z trs)) ∧  ∀ms N,LkO (2*(h.1 - l.1)) b (zY l.1 z trs) ms N lz →    (∀t,ms.find? (λt=>v4 (some l) (some h) trs k z t N)=some t->∀r q H',zi H H'->H' r=some (.tup [.str "at",.ref q])->zp H' q (moQ tk t N)->Q (.ref r) H') ∧    (ms.find? (λt=>v4 (some l) (some h) trs k z t N)=none->∀r L us H',zi H H'->H' r=some (.tup [.str "never",.ref L])->H' L=some (.lst us)->Zy H' us (ms.map λt=>moQ tk t N)->Q (.ref r) H')) ?_ ?_
 rotate_left
 ·intro nx hnx
  refine⟨_,rL,_,rL,_,rL,_,rL,c,u,p*m,s*m,tk,_,trs,some l,some h,x,rL,hco5,SH5 _ _ hu,WZ.zx,ntk,λr9 G SG hr9=>?_⟩
  refine⟨_,rfl,trs,l,h,z,b,lz,⟨⟨c,r9,v8,p*m,s*m,tk,_,rfl,hco5.same SG,by rw[WZ.eb];exact hr9,?_⟩,tl8,WZ.bl.md,wl,wh⟩,?_⟩
  ·cases lz with
   | none=>exact h8
   | some l'=>obtain⟨q8,e8,g8⟩:=h8;exact⟨q8,e8,SG _ _ g8⟩
  rcases K' with⟨hLA,kk⟩ | ⟨l',e',hLA,hd,kk⟩
  ·refine .inl ⟨hLA,λrr L ms N G2 SG2 hrr hL hO=>?_⟩
   refine⟨rr,_,rL,.of hrr,rL,_,_,rL,_,_,rL,rL,?_⟩
   exact hnx _ _ ⟨L,ms,N,rL,SG.trans SG2,hL,hO,hLA,kk⟩
  ·exact .inr ⟨l',e',hLA,hd,λG2 SG2=>⟨CE,rL,kk _ (SH5.trans (SG.trans SG2))⟩⟩
 rintro σ6 H6 hQq;rcases q:hQq with⟨L,ms,N,rfl,S6,hL,hO,hLA,kk⟩
 have hco6:=hco5.same S6
 have SH6:=SH5.trans S6
 have b2:0<b.2:=by rw[WZ.eb];exact den_pos _
 obtain⟨bm,bN,N0,ml⟩:=zid ⟨WZ.bb.1,WZ.bb.2,b2⟩ hO hLA
 obtain⟨kA,kN⟩:=kk ms N hO
 have hlh:∀l' h',some l=some l'->some h=some h'->l'.1<h'.1:=λl' h' e1 e2=>by cases e1;cases e2;exact WZ.lh
 have szK:∀{n:Nat},n<=9000->n<sizeLine:=λh=>by rw[sizeLine_eq];lia
 have mo:∀(t:Int) (H':Hp) (e:Addr) (Q':VK),t∈ms->Xd H' C c (p*m) (s*m) tk (bs.map Bl.wt) trs (some l) (some h)->H' e=some (.tup [.int t,.int N])->(∀rq H'',zi H' H''->zp H'' rq (moQ tk t N)->Q' (.ref rq) H'')->∀E',zff C [.ref c,.ref e] H' Q' E':=λt H' e Q' mt hc' he kq E'=>by
  obtain⟨dx,fs,hc,F⟩:=hc'
  obtain⟨tp,f1,f2⟩:=F.tick
  exact⟨c,e,dx,fs,tp,tk,t,N,rL,hc,f1,f2,he,yM N0,(bm t mt).md,bN.md,ztk.md,λrq H'' S'' hq''=>kq rq H'' S'' hq''⟩
 refine zM (λσ' G=>∃x11,σ'=[Sr r,Sr a,Si k,Sr q,Sr u,Sr c,Si z,some v7,some v8,Sr L,Si N,x11]/\zi H6 G/\ms.find? (λt=>v4 (some l) (some h) trs k z t N)=none) ?_ ?_
 rotate_left
 ·intro nx hnx
  refine⟨_,rL,L,rL,⟨_,SqL.of hL⟩,?_⟩
  refine qA (xs:=ms.map V.int) (λi σ' G=>∃x11,σ'=[Sr r,Sr a,Si k,Sr q,Sr u,Sr c,Si z,some v7,some v8,Sr L,Si N,x11]/\zi H6 G/\∀t∈ms.take i,v4 (some l) (some h) trs k z t N=false) ⟨none,rfl,zi.refl _,λt mt=>by simp at mt⟩ (λi σ' G _ ⟨_,_,SG,_⟩=>SqL.of (SG _ _ hL)) ?_ ?_
  ·rintro i v σ' G hv ⟨x11,rfl,SG,hpre⟩
   rw[wo]at hv
   cases hm:ms[i]? with
   | none=>rw[hm]at hv;cases hv
   | some t =>
   rw[hm]at hv;cases hv
   have mt:=wM hm
   have hcoG:=hco6.same SG
   dsimp only[zG]
   refine⟨_,rL,_,rL,_,rL,_,rL,_,rL,zL2,λe he=>?_⟩
   have Se:=zi.upd (o:=.tup [.int t,.int N]) he
   refine⟨c,e,k,z,p*m,s*m,tk,_,trs,some l,some h,t,N,rL,hcoG.same Se,zg,tl8,λt' mt'=>⟨(WZ.tr t' mt').1.md,(WZ.tr t' mt').2.md⟩,WZ.bz,bm t mt,bN,N0,wl,wh,hlh,λG2 SG2=>?_⟩
   refine⟨_,rL,?_⟩
   cases hb:v4 (some l) (some h) trs k z t N with
   | true =>
    refine xw ?_
    have fa:ms.find? (λt=>v4 (some l) (some h) trs k z t N)=some t:=by
     rw[List.find?_eq_some_iff_getElem]
     obtain⟨hi,e⟩:=wP.mp hm
     refine⟨hb,i,hi,e,λj hj=>?_⟩
     have:=hpre ms[j] (wM (i:=j) (by rw[We,if_pos hj];exact wC ∅))
     rw[this];rfl
    have S7:=SG.trans (Se.trans SG2)
    refine⟨_,rL,_,rL,_,rL,zL2,λe2 he2=>?_⟩
    have Se2:=zi.upd (o:=.tup [.int t,.int N]) he2
    dsimp only[Zv]
    refine mo t _ e2 _ mt (hco6.same (S7.trans Se2)) zg (λrq G3 SG3 hrq=>?_) _
    refine⟨zL2,λrr hrr=>?_⟩
    have Sr:=zi.upd (o:=.tup [.str "at",.ref rq]) hrr
    exact kA t fa rr rq _ (SH6.trans (S7.trans (Se2.trans (SG3.trans Sr)))) zg (hrq.same Sr)
   | false =>
    refine xc ⟨_,rL,SG.trans (Se.trans SG2),λt' mt'=>?_⟩
    rw[yE,hm]at mt'
    rcases wQ.mp mt' with h' | h'
    ·exact hpre t' h'
    ·have:t'=t:=by simpa using h'
     rw[this];exact hb
  ·rintro σ' G ⟨x11,rfl,SG,hpre⟩
   rw[we,yt]at hpre
   refine hnx _ _ ⟨x11,rL,SG,?_⟩
   rw[Yz]
   exact λt mt e=>by rw[hpre t mt]at e;cases e
 rintro σ7 H7 ⟨x11,rfl,S7,hn⟩
 have hL7:=S7 _ _ hL
 refine⟨_,rL,L,rL,⟨_,SqL.of hL7⟩,λDn hDn=>?_⟩
 refine xY (js:=[5,10]) (J:=Itl K L) (g:=zG 0) (te:=_) (n:=1) (xs:=ms.map V.int) (λi v G=>∃t rq,ms[i]? = some t/\v = .ref rq/\zp G rq (moQ tk t N)) (λi v G G' e ⟨t,rq,q0,q1,q2⟩=>⟨t,rq,q0,q1,e _ _ q2⟩) hDn (xA hL7) (szK (by rw[we];lia)) ?_ ?_
 ·intro i y zs G Q' hy hz SG hQ
  rw[wo]at hy
  cases hm:ms[i]? with
  | none=>rw[hm]at hy;cases hy
  | some t =>
  rw[hm]at hy;cases hy
  obtain⟨w1,rfl⟩:=Qp hz
  refine⟨rL,_,rL,_,rL,_,rL,zL2,λe he=>?_⟩
  have Se:=zi.upd (o:=.tup [.int t,.int N]) he
  exact mo t _ e _ (wM hm) (hco6.same (S7.trans (SG.trans Se))) zg (λrq G3 SG3 hrq=>hQ _ _ (Se.trans SG3) ⟨t,rq,hm,rL,hrq⟩) E0
 intro us9 G SG hDG hul9 hR
 refine⟨zL2,λrr hrr=>?_⟩
 have Sr:=zi.upd (o:=.tup [.str "never",.ref Dn]) hrr
 refine kN hn rr Dn us9 _ (SH6.trans (S7.trans (SG.trans Sr))) zg (Sr _ _ hDG) ⟨by rw[hul9,we,we],λi v e=>?_⟩
 rcases q:hR i v e with⟨t,rq,h1,h2,h3⟩
 exact⟨_,rq,by rw[wo,h1];rfl,h2,h3.same Sr⟩
def raD (q:Rat):PyData:=.tuple [.int q.num,.int (q.den:Int)]
def zev (qs:List Rat):PyData:=.tuple [.str "never",.list (qs.map raD)]
def atD (q:Rat):PyData:=.tuple [.str "at",raD q]
def Lay (n:Nat) (d:PyData):Prop:=PyData.canLay0 d=true/\PyData.depth d<=n
theorem zcZ {n:Nat}:∀{ds:List PyData},(∀d∈ds,Lay n d)->PyData.canLayAll0 ds=true/\PyData.depthAll ds<=n
 | [],_=>⟨rfl,w8 _⟩
 | d::ds,h=>by
  obtain⟨h1,h2⟩:=zcZ (ds:=ds) λe m=>h e (wO _ m)
  obtain⟨h3,h4⟩:=h d (wH ..)
  refine⟨?_,?_⟩
  ·show (PyData.canLay0 d&&_)=true
   rw[h1,h3];rfl
  ·show max (PyData.depth d) _<=n
   lia
theorem Lay.tup {n:Nat}{ds:List PyData}(h:∀d∈ds,Lay n d):Lay (n+1) (.tuple ds):=⟨(zcZ h).1,Nat.succ_le_succ (zcZ h).2⟩
theorem Lay.mono {m n:Nat}{d:PyData}(h:Lay m d) (e:m<=n):Lay n d:=⟨h.1,yH h.2 e⟩
theorem Lay.md {m n:Nat}{d:PyData}(h:Lay m d) (e:m<=n:=by decide):Lay n d:=h.mono e
theorem Lay.int (i:Int):Lay 0 (.int i):=⟨rfl,wg _⟩
theorem Lay.rat (x:Rat):Lay 1 (raD x):=Lay.tup λd m=>by
 rcases wx.mp m with rfl | m
 ·exact .int _
 ·rcases wx.mp m with rfl | m
  ·exact .int _
  ·cases m
theorem Lay.shaped {n:Nat}{d:PyData}(h:Lay n d) (e:n<=64):SeqAt.shaped d=true:=by
 show (_&&_)=true
 rw[h.1,wm (yH h.2 e)];rfl
theorem Lay.lst {n:Nat}{ds:List PyData}(h:∀d∈ds,Lay n d):Lay (n+1) (.list ds):=⟨(zcZ h).1,Nat.succ_le_succ (zcZ h).2⟩
theorem Lay.str {x:Str}(h:PyData.canLay0 (.str x)=true):Lay 0 (.str x):=⟨h,wg _⟩
theorem Lay.two {n:Nat}{a b:PyData}(h:Lay n a) (h':Lay n b):Lay (n+1) (.tuple [a,b]):=Lay.tup λd m=>by
 rcases wx.mp m with rfl | m
 ·exact h
 ·rw[wD.mp m];exact h'
theorem zbi (qs:List Rat):SeqAt.shaped (zev qs)=true:=(Lay.two (n:=2) ((Lay.str (by decide +kernel)).md) (Lay.lst λd m=>by obtain⟨q,_,rfl⟩:=wn.mp m;exact Lay.rat q)).shaped (by decide)
theorem zhf (q:Rat):SeqAt.shaped (atD q)=true:=(Lay.two (n:=1) ((Lay.str (by decide +kernel)).md) (Lay.rat q)).shaped (by decide)
theorem zp.rdD {H:Hp}{p:Addr}{q:Rat}(h:zp H p q):RdD H (.ref p) (raD q):=.tup h (.cons (.int _) (.cons (.int _) .nil))
theorem Qc {H:Hp}:∀{us:List V}{qs:List Rat},Zy H us qs->Zg H us (qs.map raD)
 | [],[],_=>.nil
 | [],_::_,h=>by have:=h.1;simp at this
 | _::_,[],h=>by have:=h.1;simp at this
 | u::us,q::qs,h=>by
  obtain⟨q',r,e,e1,e2⟩:=h.2 0 u rfl
  simp at e;subst e;subst e1
  exact .cons (zp.rdD e2) (Qc ⟨by have:=h.1;simpa using this,λi v e=>by simpa using h.2 (i+1) v (by simpa using e)⟩)
theorem Zy.same {H H':Hp}{us:List V}{qs:List Rat}(h:Zy H us qs) (e:zi H H'):Zy H' us qs:=⟨h.1,λi v q=>by obtain⟨x,r,e1,e2,e3⟩:=h.2 i v q;exact⟨x,r,e1,e2,e3.same e⟩⟩
theorem zds {C:Addr}{vs:List V}{H:Hp}{Q Q':VK}{E E':XK}(h:XI C vs H Q E) (k:∀v H',Q v H'->Q' v H') (ke:∀H',E (.ref C) none H'->E' (.ref C) none H'):XI C vs H Q' E':=by
 obtain⟨a1,a2,a3,a4,a5,a6,a7,a8,a9,b1,b2,b3,b4,b5,b6,b7,b8,b9,c1,c2,c3,c4,h⟩:=h
 refine⟨a1,a2,a3,a4,a5,a6,a7,a8,a9,b1,b2,b3,b4,b5,b6,b7,b8,b9,c1,c2,c3,c4,?_⟩
 rcases h with⟨c5,c6⟩ | ⟨l,e1,e2,e3,e4⟩
 ·exact .inl ⟨c5,λms N hO=>⟨λt e r q H' e1 e2 e3=>k _ _ ((c6 ms N hO).1 t e r q H' e1 e2 e3),λe r L us H' e1 e2 e3 e4=>k _ _ ((c6 ms N hO).2 e r L us H' e1 e2 e3 e4)⟩⟩
 ·exact .inr ⟨l,e1,e2,e3,λH' s=>ke _ (e4 H' s)⟩
inductive zbv (C:Addr) (vs:List V) (H:Hp) (Q:VK) (E:XK):Prop
 | mk:∀u1 u2 u3 u4 u5 um us qs,(vs=[u1,u2,u3,u4,u5,.ref um])->(H um=some (.lst us))->(Zy H us qs)->(us.length<=2000)->(XI C [u1,u2,u3,u4,u5] H (λv H1=>zi H H1/\∃d,RdD H1 v d/\SeqAt.shaped d=true/\∀H',zi H1 H'->Q (.bl (PyData.eqv d (zev qs))) H') E)->zbv C vs H Q E
theorem zhx:zA ["row","walls","k","place","t","moments"] ["row","walls","k","place","t","moments"] (zk qN):=scq
theorem zjX (D:Df K mg "lets_never" qN ["row","walls","k","place","t","moments"] []) (nL:mg "list" = none) (cWh:vm P w K mg base "when" 10 ["row","walls","k","place","t"] [] (XI CE)):vm P w K mg base "lets_never" 11 ["row","walls","k","place","t","moments"] [] (zbv CE):=by
 rcases r:D.cal1q (k:=10) zhx with⟨u1,u2,u3,u4,u5,um,us,qs,rfl,hum,hqs,hl,h⟩
 have hu:=hr.units
 refine⟨_,(zj (zD (qm (Vq hu) (Xg cWh hr qE (za (pv 0) (za (pv 1) (za (pv 2) (za (pv 3) (za (pv 4) zd)))))) (zH (za xG (za (vy Zh (by rfl) nL Wc (za (pv 5) zd)) zd))) (zF _)))),?_⟩
 try dsimp only[zU,Cx.nox]
 refine⟨_,rL,_,rL,_,rL,_,rL,_,rL,?_⟩
 dsimp only[Zv]
 refine zds h (λv H1 ⟨S1,d,h1,h2,h3⟩=>?_) λH1 e=>⟨CE,rL,e⟩
 have hum1:=S1 _ _ hum
 refine⟨_,rL,um,us,rL,.inl (.of hum1),λl hl=>⟨zL2,λe he=>?_⟩⟩
 have Sl:=zi.upd (o:=.lst us) hl
 have Se:=zi.upd (o:=.tup [.str "never",.ref l]) he
 have S2:=Sl.trans Se
 refine⟨d,zev qs,RdD.same S2 h1,.tup zg (.cons (.str _) (.cons (.lst (Se _ _ zg) (Qc (hqs.same (S1.trans S2)))) .nil)),h2,zbi qs,h3 _ S2⟩
theorem zh0 {A C M u v q:Int}(hM:0<M) (hu:0<u) (hv:0<v) (h:C*u - A*v<=q*(M*(u*v))):C.fdiv (M*v) - A.fdiv (M*u)<=q:=by
 have p1:0<M*v:=wW hM hv
 have p2:0<M*u:=wW hM hu
 rw[wq _ ∅,wq _ ∅]
 have c1:=Ya C (M*v)
 have c2:=uL C (show M*v≠0 by lia)
 have a1:=Ya A (M*u)
 have a2:=Wd A p2
 generalize C/(M*v)=x at *
 generalize A/(M*u)=y at *
 rcases yQ q (x - y)with k | k
 ·exfalso
  have h1:M*v*x*u<=C*u:=yL ∅ ∅
  have h2:A*v<(M*u*y+M*u)*v:=uj ∅ hv
  have h3:(q+1+y)*(M*(u*v))<=x*(M*(u*v)):=yL ∅ (yI (wW hM (wW hu hv)))
  lia
 ·exact k
theorem zdB (a b:Int):(a<0/\xk a*b = -a*b)\/(0<=a/\xk a*b=a*b):=by
 unfold xk
 split
 ·exact .inl ⟨‹_›,rL⟩
 ·exact .inr ⟨by lia,rfl⟩
theorem dif_le {T q:Int}{b e g:Int×Int}(hT:0<T) (hb:0<b.2) (he:0<e.2) (h:xk g.1*(e.1*b.2 - b.1*e.2)<=q*(T*(b.2*e.2))):dif T b e g<=q:=by
 have key:∀s w:Int,s*(e.1*b.2 - b.1*e.2)<=q*(T*(b.2*e.2))->zav s w (some T) e.1 e.2 - zav s w (some T) b.1 b.2<=q:=λs w h=>by
  show (s*e.1 - w*e.2).fdiv (T*e.2) - (-w).fdiv T - ((s*b.1 - w*b.2).fdiv (T*b.2) - (-w).fdiv T)<=q
  have:=zh0 (A:=s*b.1 - w*b.2) (C:=s*e.1 - w*e.2) (q:=q) hT hb he (by
   have:(s*e.1 - w*e.2)*b.2 - (s*b.1 - w*b.2)*e.2=s*(e.1*b.2 - b.1*e.2):=by grind
   omega)
  omega
 unfold dif VO
 rcases zdB g.1 (e.1*b.2 - b.1*e.2)with⟨c,k⟩ | ⟨c,k⟩
 ·rw[if_pos c,if_pos c];rw[k]at h;exact key _ _ h
 ·rw[if_neg (by omega),if_neg (by omega)];rw[k]at h;exact key _ _ h
section
variable {T:Int}{b l:Int×Int}{gs:List (Int×Int)}
theorem LkA.eF (h:LkA T b l gs):lkF b l*b.2=b.1*lkB b l:=by
 obtain⟨d,hd⟩:=h.B.2.2.1
 have:=h.bb.2.2
 unfold lkF
 rw[wq _ ∅]
 generalize lkB b l=B at *
 rw[hd,wY _ ∅]
 grind
theorem LkA.eL (h:LkA T b l gs):(lkL b l - lkF b l)*l.2=l.1*lkB b l:=by
 obtain⟨d,hd⟩:=h.B.2.2.2
 have:=h.bl.2.2
 unfold lkL
 rw[wq _ ∅]
 generalize lkB b l=B at *
 generalize lkF b l=F
 rw[hd,wY _ ∅]
 grind
theorem LkA.dif_le (h:LkA T b l gs){g:Int×Int}{q:Int}(hq:xk g.1*l.1<=q*(T*l.2)):dif T b (lkL b l,lkB b l) g<=q:=by
 have B0:=h.B.1
 have eF:=h.eF
 have eL:=h.eL
 have l2:=h.bl.2.2
 have b2:=h.bb.2.2
 refine KK.dif_le h.T0.1 b2 B0 ?_
 show xk g.1*(lkL b l*b.2 - b.1*lkB b l)<=q*(T*(b.2*lkB b l))
 have e1:lkL b l*b.2 - b.1*lkB b l=(lkL b l - lkF b l)*b.2:=by rw[<-eF];grind
 rw[e1]
 have h1:xk g.1*l.1*(b.2*lkB b l)<=q*(T*l.2)*(b.2*lkB b l):=yL hq (yI (wW b2 B0))
 have e2:xk g.1*((lkL b l - lkF b l)*b.2)*l.2=xk g.1*l.1*(b.2*lkB b l):=by
  have:xk g.1*((lkL b l - lkF b l)*b.2)*l.2=xk g.1*b.2*((lkL b l - lkF b l)*l.2):=by grind
  rw[this,eL];grind
 have e3:q*(T*(b.2*lkB b l))*l.2=q*(T*l.2)*(b.2*lkB b l):=by grind
 rw[<-e2,<-e3]at h1
 exact Ys h1 l2
theorem LkA.lkC_le (h:LkA T b l gs){g:Int×Int}(m:g∈gs){q:Nat}(hq:xk g.1*l.1<=q*(T*l.2)):lkC T (lkN b l gs) (lkU b l gs (lkF b l)) (lkU b l gs (lkL b l)) g<=q:=by
 have B0:=h.B.1
 have eL:=h.eL
 have l2:=h.bl.2.2
 have st:=h.stp m
 have aV:=XN (h.bg g m).1
 obtain⟨N0,hBN,hVN⟩:=h.N
 obtain⟨d,hd⟩:=hBN
 obtain⟨w,hw⟩:=hVN g m
 have d0:0<d:=by
  rcases yQ 0 d with c | c
  ·exact c
  ·have:=uh (show 0<=lkB b l by lia) c;lia
 have eU:∀x,lkU b l gs x=x*d:=λx=>by
  unfold lkU
  rw[wq _ ∅,hd,wY _ ∅]
 have eS:QR T (lkN b l gs) g=T*w:=by
  unfold QR
  rw[wq _ ∅,hw,wY _ ∅]
 have far:(lkL b l*d - lkF b l*d)<=(q:Int)*(T*w):=by
  have h1:xk g.1*l.1*(lkB b l*d)<=(q:Int)*(T*l.2)*(lkB b l*d):=yL hq (yI (wW B0 d0))
  have e1:xk g.1*l.1*(lkB b l*d)=(lkL b l*d - lkF b l*d)*(xk g.1*l.2):=by
   have:(lkL b l*d - lkF b l*d)*(xk g.1*l.2)=xk g.1*d*((lkL b l - lkF b l)*l.2):=by grind
   rw[this,eL];grind
  have e2:(q:Int)*(T*l.2)*(lkB b l*d)=(q:Int)*(T*w)*(xk g.1*l.2):=by
   rw[<-hd,hw];grind
  rw[e1,e2]at h1
  exact Ys h1 (wW aV l2)
 unfold lkC zc6
 rw[eU,eU]
 rw[eS]at st ⊢
 have nn:=uL (zc7 (lkN b l gs) g - lkF b l*d - 1) (show T*w≠0 by lia)
 generalize (zc7 (lkN b l gs) g - lkF b l*d - 1) % (T*w)=r at *
 generalize lkL b l*d=E at *
 generalize lkF b l*d=F at *
 generalize T*w=c at *
 unfold Builtin.Range.rangeSize
 rw[if_pos st]
 split
 ·have:(E - (F+1+r) - 1)/c<q:=Int.ediv_lt_of_lt_mul st ∅
  lia
 ·lia
end
theorem zeu {α:Type} [DecidableEq α]:∀{L ms:List α},ms.Nodup->(∀k∈ms,k∈L)->ms.length<=L.length
 | [],[],_,_=>wg _
 | [],m::ms,_,h=>by have:=h m wH;cases this
 | x::L,ms,nd,h=>by
  have h1:(ms.erase x).length<=L.length:=zeu (nd.erase x) λk m=>by
   have:=(nd.mem_erase_iff).mp m
   rcases wx.mp (h k this.2)with e | e
   ·exact absurd e this.1
   ·exact e
  have h2:ms.length<=(ms.erase x).length+1:=by
   rw[List.length_erase];split <;> lia
  rw[ww];lia
theorem zb3 {T F b e:Int}{q:Nat}:∀{gs:List (Int×Int)},(∀g∈gs,lkC T F b e g<=q)->(lkG T F b e gs).length<=gs.length*q
 | [],_=>w8 _
 | g::gs,h=>by
  have h1:=h g wH
  have h2:=zb3 (gs:=gs) λx m=>h x (wO _ m)
  show (lkW T F b e g++lkG T F b e gs).length<=_
  rw[wI,ww,Nat.succ_mul]
  have:(lkW T F b e g).length=lkC T F b e g:=by unfold lkW zge VP;rw[we,yG]
  lia
theorem LkG.of {T:Int}{b l:Int×Int}{gs:List (Int×Int)} (h:LkA T b l gs) (bn:Bd 1300 (lkN b l gs)){q:Nat}(hq:∀g∈gs,xk g.1*l.1<=q*(T*l.2)) (hn:1+gs.length*q<=1000) (q0:q<=1000):LkG T b l gs:=by
 have cn:∀g∈gs,lkC T (lkN b l gs) (lkU b l gs (lkF b l)) (lkU b l gs (lkL b l)) g<=q:=λg m=>h.lkC_le m (hq g m)
 have ll:(lkM T b l gs).length<=1000:=by
  unfold lkM
  rw[ww]
  have:=zb3 cn
  lia
 refine⟨λg m=>yu (h.dif_le (hq g m)) ∅,bn,λg m=>yH (cn g m) q0,by lia,λms hm nd=>yH (zeu nd λk m=>(hm k).mp m) ll⟩
theorem zgd {c v:Int}(hc:0<c) (hv:0<v):(c/(Int.gcd c v:Int)*v)/(Int.gcd (c/(Int.gcd c v:Int)*v) v:Int)*v=c/(Int.gcd c v:Int)*v:=by
 generalize c/(Int.gcd c v:Int)=d
 have:(Int.gcd (d*v) v:Int)=v:=by
  unfold Int.gcd;rw[Ue,Nat.gcd_mul_left_left];lia
 rw[this,Int.mul_ediv_cancel _ ∅]
theorem JH {n:Nat}{l0 z:Int}:∀(trs:List (Int×Int)) (c:Int) (m:Nat),0<c->Bd m c->(∀t∈trs,Bd n t.2)->0<lcF c ((zY l0 z trs).map λg=>xk g.1)/\Bd (m+n*trs.length) (lcF c ((zY l0 z trs).map λg=>xk g.1))
 | [],c,m,h,b,_=>⟨h,b⟩
 | t::r,c,m,h,b,hb=>by
  have ht:=hb t wH
  have hr:=λx q=>hb x (wO _ q)
  show 0<lcF c ((Qm l0 z t++zY l0 z r).map λg=>xk g.1)/\Bd _ (lcF c ((Qm l0 z t++zY l0 z r).map λg=>xk g.1))
  unfold Qm
  by_cases e:t.2=0
  ·rw[if_pos e,WL]
   obtain⟨i1,i2⟩:=JH r c m h b hr
   exact⟨i1,i2.mono (by rw[ww,Uh];lia)⟩
  ·rw[if_neg e,yV]
   have p:=XN e
   have q1:=vD h p
   show 0<lcF (c/(Int.gcd c (xk t.2):Int)*xk t.2/(Int.gcd (c/(Int.gcd c (xk t.2):Int)*xk t.2) (xk t.2):Int)*xk t.2) _/\Bd _ (lcF (c/(Int.gcd c (xk t.2):Int)*xk t.2/(Int.gcd (c/(Int.gcd c (xk t.2):Int)*xk t.2) (xk t.2):Int)*xk t.2) _)
   rw[zgd h p]
   obtain⟨i1,i2⟩:=JH r _ (m+n) q1 (Jy h p b (Jv ht)) hr
   exact⟨i1,i2.mono (by rw[ww,Uh];lia)⟩
theorem zic {T l0 z:Int}{b l:Int×Int}{trs:List (Int×Int)}{n:Nat}(h:LkA T b l (zY l0 z trs)) (hB:Bd 300 (lkB b l)) (hb:∀t∈trs,Bd n t.2):Bd (300+n*trs.length) (lkN b l (zY l0 z trs)):=by
 have e:lkN b l (zY l0 z trs)=lcF (lkB b l) ((zY l0 z trs).map λg=>xk g.1):=by
  unfold lkN xL lcF
  rw[Wj]
  congr 1
  rw[W5,show (Int.gcd (lkB b l) 1:Int)=1 by rw[Int.gcd_one_right];rfl]
  lia
 rw[e]
 exact(JH trs _ 300 h.B.1 hB hb).2
theorem zfS {x:Rat}{b:Int}(h:(x.den:Int) ∣ b):byB x b*(x.den:Int)=x.num*b:=by
 obtain⟨k,ek⟩:=h
 have d1:0<(x.den:Int):=by have:=x.den_pos;lia
 have f1:b.fdiv (x.den:Int)=k:=by rw[wq _ ∅,ek];exact wY _ ∅
 unfold byB
 rw[f1,ek,Wo,WC k]
theorem Ql {t b:Int}(hb:b≠0):(Rat.divInt t b).num*b=t*((Rat.divInt t b).den:Int):=by
 have h:=yr (Rat.divInt t b)
 rw[ug (by have:=(Rat.divInt t b).den_pos;lia) hb]at h
 exact h
theorem ZF {ps:List (Int×List Int)}{k w:Int}{e:Int×List Int}(m:e∈ZB ps k w):e=(k,[w])\/e∈ps\/∃o∈ps,o.1=k/\e=(k,o.2++[w]):=by
 unfold ZB at m
 split at m
 ·obtain⟨o,mo,rfl⟩:=wn.mp m
  by_cases q:o.1=k
  ·rw[if_pos q];exact .inr (.inr ⟨o,mo,q,by rw[q]⟩)
  ·rw[if_neg q];exact .inr (.inl mo)
 ·rcases wQ.mp m with m | m
  ·exact .inr (.inl m)
  ·exact .inl (wD.mp m)
theorem zdC (ps:List (Int×List Int)) (k w:Int):(ZB ps k w).length<=ps.length+1:=by
 unfold ZB
 split
 ·rw[we];lia
 ·rw[wI];simp
theorem zfP (ps:List (Int×List Int)) (k w:Int):ZB ps k w≠[]:=by
 unfold ZB
 split
 ·rename_i h
  intro z
  rw[List.map_eq_nil_iff.mp z]at h;cases h
 ·simp
theorem zfO {ps:List (Int×List Int)}{k w:Int}(h:(ps.map Prod.fst).Nodup):((ZB ps k w).map Prod.fst).Nodup:=by
 unfold ZB
 split
 ·rw[yW]
  have:(ps.map (Prod.fst ∘ λp:Int×List Int=>if p.1=k then(p.1,p.2++[w])else p))=ps.map Prod.fst:=uM λp _=>by
   show (if p.1=k then(p.1,p.2++[w])else p).1=p.1
   split <;> rfl
  rw[this];exact h
 ·rename_i hn
  rw[yV]
  refine YN.mpr ⟨h,by simp,λb hb c hc=>?_⟩
  obtain⟨e,m,rfl⟩:=wn.mp hb
  simp at hc;subst hc
  exact λz=>hn (List.any_eq_true.mpr ⟨e,m,wm z⟩)
structure PhJ (l T:Int) (js:List (Int×Int)) (ps:List (Int×List Int)):Prop where
 nd:(ps.map Prod.fst).Nodup
 k0:∀e∈ps,0<e.1
 l1:∀e∈ps,1<=e.2.length
 ll:∀e∈ps,e.2.length<=js.length
 pl:ps.length<=js.length
 of:∀e∈ps,∃u∈js,u.2=e.1\/u.2 = -e.1
 inn:∀e∈ps,∀q∈e.2,0<=q/\q<T
 mv:ps=[]↔∀u∈js,u.2=0
theorem PhJ.add {l T:Int}{js:List (Int×Int)}{ps:List (Int×List Int)} (h:PhJ l T js ps){u:Int×Int}{k w:Int}(hk:0<k) (hu:u.2=k\/u.2 = -k) (hw:0<=w/\w<T):PhJ l T (js++[u]) (ZB ps k w):=by
 have hl:(js++[u]).length=js.length+1:=by simp
 refine⟨zfO h.nd,λe m=>?_,λe m=>?_,λe m=>?_,by have:=zdC ps k w;have:=h.pl;lia,λe m=>?_,λe m=>?_,?_⟩
 ·rcases ZF m with rfl | m | ⟨o,mo,q,rfl⟩
  ·exact hk
  ·exact h.k0 e m
  ·exact hk
 ·rcases ZF m with rfl | m | ⟨o,mo,q,rfl⟩
  ·simp
  ·exact h.l1 e m
  ·simp
 ·rcases ZF m with rfl | m | ⟨o,mo,q,rfl⟩
  ·simp
  ·have:=h.ll e m;lia
  ·have:=h.ll o mo;simp;lia
 ·rcases ZF m with rfl | m | ⟨o,mo,q,rfl⟩
  ·exact⟨u,by simp,hu⟩
  ·obtain⟨v,mv,q⟩:=h.of e m;exact⟨v,by simp[mv],q⟩
  ·exact⟨u,by simp,hu⟩
 ·rcases ZF m with rfl | m | ⟨o,mo,q,rfl⟩
  ·intro q mq;cases wD.mp mq;exact hw
  ·exact h.inn e m
  ·intro x mx
   rcases wQ.mp mx with mx | mx
   ·exact h.inn o mo x mx
   ·cases wD.mp mx;exact hw
 ·constructor
  ·intro z;exact absurd z (zfP ps k w)
  ·intro z
   have:=z u (by simp)
   lia
theorem ziP {l T:Int}{js:List (Int×Int)} (hj:∀u∈js,(0<u.2->0<=u.1 - l/\u.1 - l<T)/\(u.2<0->0<=T - (u.1 - l)/\T - (u.1 - l)<T)):PhJ l T js (phO l T js):=by
 unfold phO
 suffices h:∀(ts ds:List (Int×Int)) ps,(∀u∈ts,u∈js)->PhJ l T ds ps->PhJ l T (ds++ts) (ts.foldl (Qs l T) ps)from
  h js [] [] (λu m=>m) ⟨by simp,λe m=>(by cases m),λe m=>(by cases m),λe m=>(by cases m),by simp,λe m=>(by cases m),λe m=>(by cases m),by simp⟩
 intro ts
 induction ts with
 | nil=>intro ds ps _ h;rw[yB];exact h
 | cons t ts ih =>
  intro ds ps hm h
  rw[Wj,show ds++t::ts=(ds++[t])++ts by simp]
  refine ih _ _ (λu m=>hm u (by simp[m])) ?_
  obtain⟨h1,h2⟩:=hj t (hm t (by simp))
  unfold Qs
  by_cases a:0<t.2
  ·rw[if_pos a];exact h.add a (.inl rfl) (h1 a)
  ·rw[if_neg a]
   by_cases b:t.2<0
   ·rw[if_pos b];exact h.add ∅ (.inr ∅) (h2 b)
   ·rw[if_neg b]
    have hl:(ds++[t]).length=ds.length+1:=by simp
    refine⟨h.nd,h.k0,h.l1,λe m=>by have:=h.ll e m;lia,by have:=h.pl;lia,λe m=>let ⟨v,mv,q⟩:=h.of e m;⟨v,by simp[mv],q⟩,h.inn,?_⟩
    rw[h.mv]
    constructor
    ·intro z u m
     rcases wQ.mp m with m | m
     ·exact z u m
     ·cases wD.mp m;lia
    ·intro z u m;exact z u (by simp[m])
theorem JD {a b c:Int}(h:a ∣ b*c) (g:Int.gcd a b=1):a ∣ c:=by
 rw[<-uP]at h ⊢
 rw[Ue]at h
 exact Nat.Coprime.dvd_of_dvd_mul_left g h
theorem zf7 {c n:Int}(hc:0<c):∃g c' n':Int,g=(Int.gcd c n:Int)/\0<g/\c=g*c'/\n=g*n'/\Int.gcd c' n'=1:=by
 have g0:0<Int.gcd c n:=ui _ ∅
 refine⟨(Int.gcd c n:Int),c/(Int.gcd c n:Int),n/(Int.gcd c n:Int),rfl,by lia,?_,?_,Int.gcd_ediv_gcd_ediv_gcd g0⟩
 ·exact(Int.mul_ediv_cancel' (ur ..)).symm
 ·exact(Int.mul_ediv_cancel' (Wm ..)).symm
theorem zc0 {c n X:Int}(hc:0<c) (h1:c ∣ X) (h2:n ∣ X):c/(Int.gcd c n:Int)*n ∣ X:=by
 obtain⟨g,c',n',eg,g0,e1,e2,co⟩:=zf7 (c:=c) (n:=n) hc
 rw[<-eg]
 have ec:c/g=c':=by rw[e1];exact wY _ ∅
 rw[ec]
 obtain⟨x,hx⟩:=h2
 have h3:g*c' ∣ g*(n'*x):=by rw[<-e1,<-Wo,<-e2,<-hx];exact h1
 have h4:c' ∣ x:=JD (Yo ∅ h3) co
 rw[hx,WC c' n]
 exact Y9 (Yy n) h4
theorem XY:∀{ks:List Int}{c:Int},0<c->(∀k∈ks,0<k)->0<ks.foldl (λc n=>c/(Int.gcd c n:Int)*n) c/\c ∣ ks.foldl (λc n=>c/(Int.gcd c n:Int)*n) c/\(∀k∈ks,k ∣ ks.foldl (λc n=>c/(Int.gcd c n:Int)*n) c)/\∀X,c ∣ X->(∀k∈ks,k ∣ X)->ks.foldl (λc n=>c/(Int.gcd c n:Int)*n) c ∣ X
 | [],c,hc,_=>⟨hc,Yy c,λk m=>(by cases m),λX h _=>h⟩
 | n::ks,c,hc,hk=>by
  have hn:=hk n (by simp)
  obtain⟨i1,i2,i3,i4⟩:=XY (ks:=ks) (vD hc hn) λk m=>hk k (by simp[m])
  obtain⟨d1,d2⟩:=zb1 hc hn
  rw[Wj]
  refine⟨i1,Wp d1 i2,λk m=>?_,λX h1 h2=>i4 X (zc0 hc h1 (h2 n (by simp))) λk m=>h2 k (by simp[m])⟩
  rcases wx.mp m with rfl | m
  ·exact Wp d2 i2
  ·exact i3 k m
theorem zd8 {qs:List Rat}{D X:Int}(h:∀q∈qs,D ∣ X*(q.den:Int)):D ∣ X*qI qs:=by
 unfold qI
 suffices g:∀(qs:List Rat) (d:Int),(∀q∈qs,D ∣ X*(q.den:Int))->D ∣ X*d->D ∣ X*qs.foldl (λd q=>((Int.gcd (q.den:Int) d:Nat):Int)) d from g qs 0 h (by rw[Int.mul_zero];exact Int.dvd_zero D)
 intro qs
 induction qs with
 | nil=>intro d _ h;exact h
 | cons q qs ih =>
  intro d hq hd
  rw[Wj]
  refine ih _ (λr m=>hq r (by simp[m])) ?_
  have h1:=hq q (by simp)
  have h2:D ∣ ((Int.gcd (X*(q.den:Int)) (X*d):Nat):Int):=Int.dvd_coe_gcd h1 hd
  rw[Int.gcd_mul_left]at h2
  rw[<-uP]at h2 ⊢
  rw[Ue]
  exact h2
theorem zbc {qs:List Rat}(l1:1<=qs.length) (hn:∀q∈qs,0<q.num){q:Rat}(m:q∈qs):q.num*((xn qs).den:Int) ∣ (xn qs).num*(q.den:Int):=by
 obtain⟨G0,_⟩:=XU l1
 have n0:∀t∈qs.map Rat.num,0<t:=λt m=>by
  obtain⟨q,mq,rfl⟩:=wn.mp m
  exact hn q mq
 obtain⟨N0,_,Nd,_⟩:=XY (c:=1) (by decide) n0
 have h1:q.num ∣ xL (qs.map Rat.num):=Nd _ (wn.mpr ⟨q,m,rfl⟩)
 have h2:=(zaj qs).1 q m
 have cr:=Ql (t:=xL (qs.map Rat.num)) (b:=qI qs) ∅
 change (xn qs).num*qI qs=xL (qs.map Rat.num)*((xn qs).den:Int)at cr
 have:qI qs*(q.num*((xn qs).den:Int)) ∣ qI qs*((xn qs).num*(q.den:Int)):=by
  rw[show qI qs*((xn qs).num*(q.den:Int))=(xn qs).num*qI qs*(q.den:Int) by grind,cr,show qI qs*(q.num*((xn qs).den:Int))=q.num*((xn qs).den:Int)*qI qs by grind]
  exact Y9 (Y9 h1 (Yy _)) h2
 exact Yo ∅ this
structure RwZ (bs:List Bl) (lo hi:Rat×Rat):Prop where
 sp:∀t∈ths bs (some lo) (some hi),Bd 100 t.1.num/\Bd 12 (t.1.den:Int)
 ss:∀t∈ths bs (some lo) (some hi),Bd 80 t.2.num/\Bd 13 (t.2.den:Int)
 l5:bs.length<=5
 lh:lo.1<hi.1
 inn:∀b∈bs,lo.1<=b.pl/\b.pl<=hi.1
 off:∀b∈bs,b.sp<0->lo.1<b.pl
theorem zan {n:Nat}{qs:List Rat}(h:∀q∈qs,Bd n (q.den:Int)):0<QQ qs/\Bd (1+n*qs.length) (QQ qs)/\∀q∈qs,(q.den:Int) ∣ QQ qs:=by
 obtain⟨a,b,c⟩:=Vn (n:=n) (ks:=qs.map λq=>(q.den:Int)) (λk m=>by obtain⟨q,mq,rfl⟩:=wn.mp m;exact⟨den_pos q,h q mq⟩)
 exact⟨a,by rw[we]at b;exact b,λq m=>c _ (wn.mpr ⟨q,m,rfl⟩)⟩
theorem zdH {x y:Rat}{b:Int}(hb:0<b) (hx:(x.den:Int) ∣ b) (hy:(y.den:Int) ∣ b) (h:x<=y):byB x b<=byB y b:=by
 rcases Decidable.em (x=y)with e | e
 ·rw[e];exact uQ _
 ·exact yI (JA hb hx hy (by grind))
section
variable {bs:List Bl}{lo hi:Rat×Rat}
theorem ths5 (h:bs.length<=5):(ths bs (some lo) (some hi)).length<=7:=by
 unfold ths
 simp only[wI,we,XZ,ww,Y7]
 lia
structure RwF (bs:List Bl) (lo hi:Rat×Rat) (p s:Int):Prop where
 p0:0<p
 pb:Bd 85 p
 pd:∀t∈ths bs (some lo) (some hi),(t.1.den:Int) ∣ p
 s0:0<s
 sb:Bd 92 s
 sd:∀t∈ths bs (some lo) (some hi),(t.2.den:Int) ∣ s
 t1:∀t∈ths bs (some lo) (some hi),Bd 186 (trB p s t).1
 t2:∀t∈ths bs (some lo) (some hi),Bd 173 (trB p s t).2
 lh:(trB p s lo).1<(trB p s hi).1
theorem RwZ.f (z:RwZ bs lo hi):RwF bs lo hi (pbO bs (some lo) (some hi)) (sbO bs (some lo) (some hi)):=by
 have l7:=ths5 (lo:=lo) (hi:=hi) z.l5
 obtain⟨p1,p2,p3⟩:=zan (n:=12) (qs:=(ths bs (some lo) (some hi)).map (·.1)) (λq m=>by obtain⟨t,mt,rfl⟩:=wn.mp m;exact(z.sp t mt).2)
 obtain⟨s1,s2,s3⟩:=zan (n:=13) (qs:=(ths bs (some lo) (some hi)).map (·.2)) (λq m=>by obtain⟨t,mt,rfl⟩:=wn.mp m;exact(z.ss t mt).2)
 rw[we]at p2 s2
 have pb:Bd 85 (pbO bs (some lo) (some hi)):=p2.mono ∅
 have sb:Bd 92 (sbO bs (some lo) (some hi)):=s2.mono ∅
 have pd:∀t∈ths bs (some lo) (some hi),(t.1.den:Int) ∣ pbO bs (some lo) (some hi):=λt m=>p3 _ (wn.mpr ⟨t,m,rfl⟩)
 exact⟨p1,pb,pd,s1,sb,λt m=>s3 _ (wn.mpr ⟨t,m,rL⟩),λt m=>((z.sp t m).1.mul (bdx pb)).md,λt m=>((z.ss t m).1.mul (bdx sb)).md,JA p1 (pd _ (qQ rL)) (pd _ (vt rL)) z.lh⟩
theorem RwZ.lnz (z:RwZ bs lo hi):LnZ bs (some lo) (some hi) :=
 ⟨λt m=>⟨⟨(z.sp t m).1.md,(z.sp t m).2.md⟩,⟨(z.ss t m).1.md,(z.ss t m).2.md⟩⟩,λl h e1 e2=>by cases e1;cases e2;exact z.lh⟩
theorem zfT {x:Rat}{b:Int}(hb:0<b) (h:byB x b<0):x<0:=by
 have d:=den_pos x
 have f:0<=b.fdiv (x.den:Int):=by rw[wq _ ∅];exact WN ∅ ∅
 have n:x.num<0:=by
  rcases yQ x.num 0 with c | c
  ·exact c
  ·have:=Ud c f
   unfold byB at h;lia
 have h2:¬ 0<=x:=λc=>by have:=Rat.num_nonneg.mpr c;lia
 grind
theorem RwZ.rog (z:RwZ bs lo hi){p s T:Int}{tk:Rat}{pss:List (Int×List Int)} (ep:p=pbO bs (some lo) (some hi)) (es:s=sbO bs (some lo) (some hi)) (et:tk=Rat.divInt s p) (eT:T=2*((trB p s hi).1 - (trB p s lo).1)) (eps:pss=phO (trB p s lo).1 T (bs.map λb=>trB p s (b.pl,b.sp))) :
  RoG bs lo hi T s tk pss/\PhJ (trB p s lo).1 T (bs.map λb=>trB p s (b.pl,b.sp)) pss/\Sz 92 tk/\0<tk.num/\0<T/\Bd 190 T:=by
 have F:=z.f
 rw[<-ep,<-es]at F
 have mb:∀b∈bs,(b.pl,b.sp)∈ths bs (some lo) (some hi):=λb m=>VF m
 have T0:0<T:=by have:=F.lh;lia
 have bT:Bd 190 T:=by
  have h1:(trB p s lo).1.natAbs<2^186:=F.t1 _ (qQ rfl)
  have h2:(trB p s hi).1.natAbs<2^186:=F.t1 _ (vt rfl)
  show T.natAbs<2^190
  lia
 have ztk:Sz 92 tk:=by rw[et];exact .divInt (by have:=F.p0;lia) F.sb (F.pb.md)
 have tn:0<tk.num:=by
  rw[et]
  have h:=Ql (t:=s) (b:=p) (by have:=F.p0;lia)
  have d:=den_pos (Rat.divInt s p)
  have h2:0<s*((Rat.divInt s p).den:Int):=wW F.s0 d
  rw[<-h]at h2
  rcases yQ 0 (Rat.divInt s p).num with c | c
  ·exact c
  ·have:=WF c (show 0<=p by have:=F.p0;lia);lia
 have pj:PhJ (trB p s lo).1 T (bs.map λb=>trB p s (b.pl,b.sp)) pss:=by
  rw[eps]
  refine ziP λu m=>?_
  obtain⟨b,hb,rfl⟩:=wn.mp m
  have i1:=zdH F.p0 (F.pd _ (qQ rfl)) (F.pd _ (mb b hb)) (z.inn b hb).1
  have i2:=zdH F.p0 (F.pd _ (mb b hb)) (F.pd _ (vt rfl)) (z.inn b hb).2
  have hl:=F.lh
  dsimp only at i1 i2
  simp only[trB]at hl eT ⊢
  refine⟨λ_=>by lia,λh=>?_⟩
  have i3:=JA F.p0 (F.pd _ (qQ rfl)) (F.pd _ (mb b hb)) (z.off b hb (zfT F.s0 h))
  dsimp only at i3
  lia
 have bl5:=z.l5
 have lm:(bs.map λb=>trB p s (b.pl,b.sp)).length=bs.length:=we ..
 have bk:∀e∈pss,Bd 173 e.1:=λe m=>by
  obtain⟨u,mu,h⟩:=pj.of e m
  obtain⟨b,hb,rfl⟩:=wn.mp mu
  have:=F.t2 _ (mb b hb)
  rcases h with h | h
  ·rw[<-h];exact this
  ·rw[show e.1 = - -e.1 by lia,<-h];exact this.neg
 refine⟨⟨es,by rw[et,es,ep],by rw[eT,ep,es],by rw[eps,ep,es],by have:=pj.pl;lia,λe m=>⟨T0,bT.md,by have:=pj.ll e m;lia,pj.inn e m⟩,pj.l1,pj.k0,λe m=>(bk e m).md,λe m g g1 g2=>?_⟩,pj,ztk,tn,T0,bT⟩
 have g8:g<=8:=by have:=pj.ll e m;lia
 have bA:Bd 400 (T*tk.num):=(bT.mul ztk.1).md
 have bB:Bd 400 ((g:Int)*e.1*(tk.den:Int)):=(((show Bd 5 (g:Int)from(show (g:Int).natAbs<2^5 by lia)).mul (bk e m)).mul ztk.2).md
 have pB:0<(g:Int)*e.1*(tk.den:Int):=wW (wW ∅ (pj.k0 e m)) (den_pos tk)
 have sz:Sz 400 (vF T e.1 g tk):=.divInt ∅ bA bB
 refine⟨?_,sz.1,sz.2⟩
 have h:=Ql (t:=T*tk.num) (b:=(g:Int)*e.1*(tk.den:Int)) ∅
 have d:=den_pos (Rat.divInt (T*tk.num) ((g:Int)*e.1*(tk.den:Int)))
 have h2:=wW (wW T0 tn) d
 rw[<-h]at h2
 show 0<(Rat.divInt (T*tk.num) ((g:Int)*e.1*(tk.den:Int))).num
 rcases yQ 0 (Rat.divInt (T*tk.num) ((g:Int)*e.1*(tk.den:Int))).num with c | c
 ·exact c
 ·have:=WF c (show 0<=(g:Int)*e.1*(tk.den:Int) by lia);lia
end
theorem zch (n:Int):(n:Rat)=Rat.divInt n 1:=by
 rw[yk]
 have:((1:Int):Rat)=1:=rfl
 rw[this]
 grind
theorem zho (q:Rat):Int.gcd q.num (q.den:Int)=1:=q.reduced
theorem QN {X q:Rat}{n:Int}:X=(n:Rat)*q↔X.num*(q.den:Int)=n*q.num*(X.den:Int):=by
 have e1:X=Rat.divInt X.num (X.den:Int):=(yr X).symm
 have e2:(n:Rat)*q=Rat.divInt (n*q.num) (q.den:Int):=by
  have:(n:Rat)=Rat.divInt n 1:=zch n
  rw[this]
  conv=>lhs;rw[<-yr q]
  rw[Wf,YU]
 rw[e2]
 conv=>lhs;lhs;rw[e1]
 have:=den_pos X
 have:=den_pos q
 exact ug ∅ ∅
theorem vM {X q:Rat}{n:Int}(h:X=(n:Rat)*q):q.num ∣ X.num/\(X.den:Int) ∣ (q.den:Int):=by
 have e:=QN.mp h
 constructor
 ·refine JD (a:=q.num) (b:=(q.den:Int)) (c:=X.num) ⟨n*(X.den:Int),by rw[WC,e];grind⟩ (zho q)
 ·refine JD (a:=(X.den:Int)) (b:=X.num) (c:=(q.den:Int)) ⟨n*q.num,by rw[e];grind⟩ ?_
  rw[W5];exact zho X
theorem zc1 {qs:List Rat}{X:Rat}(l1:1<=qs.length) (hn:∀q∈qs,0<q.num) (h:∀q∈qs,∃n:Int,X=(n:Rat)*q):∃n:Int,X=(n:Rat)*xn qs:=by
 obtain⟨G0,_⟩:=XU l1
 have n0:∀t∈qs.map Rat.num,0<t:=λt m=>by
  obtain⟨q,mq,rfl⟩:=wn.mp m
  exact hn q mq
 obtain⟨L0,_,_,hL⟩:=XY (c:=1) (by decide) n0
 have h1:xL (qs.map Rat.num) ∣ X.num:=hL X.num (Int.one_dvd _) λt m=>by
  obtain⟨q,mq,rfl⟩:=wn.mp m
  obtain⟨n,e⟩:=h q mq
  exact(vM e).1
 have h2:(X.den:Int) ∣ 1*qI qs:=zd8 λq mq=>by
  obtain⟨n,e⟩:=h q mq
  rw[YU];exact(vM e).2
 rw[YU]at h2
 obtain⟨a,ha⟩:=h1
 obtain⟨g,hg⟩:=h2
 refine⟨a*g,?_⟩
 have e1:X=Rat.divInt X.num (X.den:Int):=(yr X).symm
 have dX:=den_pos X
 have e2:((a*g:Int):Rat)*xn qs=Rat.divInt (a*g*xL (qs.map Rat.num)) (qI qs):=by
  have:((a*g:Int):Rat)=Rat.divInt (a*g) 1:=zch _
  rw[this]
  unfold xn
  rw[Wf,YU]
 rw[e2]
 conv=>lhs;rw[e1]
 rw[ug ∅ ∅,ha,hg]
 grind
theorem Jd {qs:List Rat}(l1:1<=qs.length) (hn:∀q∈qs,0<q.num){q:Rat}(m:q∈qs):∃n:Int,xn qs=(n:Rat)*q:=by
 obtain⟨n,e⟩:=zbc l1 hn m
 have:=hn q m
 refine⟨n,QN.mpr ?_⟩
 rw[e];grind
theorem zc2 {qs:List Rat}(l1:1<=qs.length) (hn:∀q∈qs,0<q.num):0<xn qs:=by
 obtain⟨G0,_⟩:=XU l1
 have n0:∀t∈qs.map Rat.num,0<t:=λt m=>by
  obtain⟨q,mq,rfl⟩:=wn.mp m
  exact hn q mq
 obtain⟨L0,_⟩:=XY (c:=1) (by decide) n0
 unfold xn
 have:=(ZW (a:=0) (b:=xL (qs.map Rat.num)) G0).mpr L0
 rw[Rat.zero_divInt]at this
 exact this
theorem XO {x:Rat}{b:Int}(h:(x.den:Int) ∣ b):(byB x b:Rat)=x*(b:Rat):=by
 have e:=zfS h
 have d:=den_pos x
 have e1:x=Rat.divInt x.num (x.den:Int):=(yr x).symm
 have e2:Rat.divInt x.num (x.den:Int)*(b:Rat)=Rat.divInt (x.num*b) (x.den:Int):=by
  rw[zch b,Wf,YS]
 conv=>rhs;rw[e1]
 rw[e2,zch (byB x b),ug (by decide) ∅,YS]
 exact e
structure RwU (bs:List Bl) (lo hi:Rat×Rat) (u:Rat) (q:Nat):Prop where
 u0:0<u
 q1:q<=1100
 sp:∀b∈bs,b.sp≠0->∃k:Nat,1<=k/\k<=q/\(b.sp=((k:Int):Rat)*u\/b.sp = -(((k:Int):Rat)*u))
 X:Bd 20 (2*(hi.1 - lo.1)/u).num
 pd:∀b∈bs,b.sp≠0->∀k:Nat,(b.sp=((k:Int):Rat)*u\/b.sp = -(((k:Int):Rat)*u))->Bd 20 ((2*(hi.1 - lo.1)/(((k:Int):Rat)*u)).den:Int)
theorem zat {T g k:Int}{tk:Rat}(hg:g≠0) (hk:k≠0):vF T k g tk=(T:Rat)*tk/((g:Rat)*(k:Rat)):=by
 unfold vF
 have e:tk=(tk.num:Rat)/((tk.den:Int):Rat):=by rw[<-yk];exact(yr tk).symm
 have d:=den_pos tk
 rw[yk]
 conv=>rhs;rw[e]
 have h1:(g:Rat)≠0:=λz=>hg (uA.mp z)
 have h2:(k:Rat)≠0:=λz=>hk (uA.mp z)
 have h3:((tk.den:Int):Rat)≠0:=λz=>(show (tk.den:Int)≠0 by lia) (uA.mp z)
 rw[wu,wu,wu]
 generalize (tk.num:Rat)=n
 generalize ((tk.den:Int):Rat)=d at *
 grind
theorem zie {x:Rat}{n:Int}{X:Rat}{m:Nat}(h:X=(n:Rat)*x) (hX:0<X) (b:Bd m X.num):Bd m x.num:=by
 have d:=(vM h).1
 have p:0<X.num:=by
  have:=(KM.Za 0 X).mpr hX
  have e1:(0:Rat).num=0:=rfl
  have e2:((0:Rat).den:Int)=1:=rfl
  rw[e1,e2]at this;omega
 have:x.num.natAbs<=X.num.natAbs:=YT (by omega) (uP.mpr d)
 exact b.of_le this
section
variable {bs:List Bl}{lo hi:Rat×Rat}{u:Rat}{q:Nat}{p s T:Int}{tk:Rat}{pss:List (Int×List Int)}
theorem zR {n:Int}(h:n≠0):(n:Rat)≠0:=λz=>h (uA.mp z)
structure RwR (bs:List Bl) (lo hi:Rat×Rat) (p s T:Int) (tk:Rat):Prop where
 T:(T:Rat)=2*(hi.1 - lo.1)*(p:Rat)
 tk:tk=(s:Rat)/(p:Rat)
 v:∀b∈bs,(((trB p s (b.pl,b.sp)).2:Int):Rat)=b.sp*(s:Rat)
theorem RwZ.rat (z:RwZ bs lo hi) (ep:p=pbO bs (some lo) (some hi)) (es:s=sbO bs (some lo) (some hi)) (et:tk=Rat.divInt s p) (eT:T=2*((trB p s hi).1 - (trB p s lo).1)):RwR bs lo hi p s T tk:=by
 have F:=z.f
 rw[<-ep,<-es]at F
 refine⟨?_,by rw[et,yk],λb hb=>XO (F.sd _ (VF (lo:=some lo) (hi:=some hi) hb))⟩
 have h1:=XO (F.pd _ (qQ (bs:=bs) (hi:=some hi) rfl))
 have h2:=XO (F.pd _ (vt (bs:=bs) (lo:=some lo) rfl))
 rw[eT,wu,Rat.intCast_sub]
 show ((2:Int):Rat)*((byB hi.1 p:Rat) - (byB lo.1 p:Rat))=_
 rw[h1,h2]
 have:((2:Int):Rat)=2:=rfl
 rw[this]
 grind
theorem zgc (z:RwZ bs lo hi) (U:RwU bs lo hi u q) (Rr:RwR bs lo hi p s T tk) (s0:0<s) (p0:0<p) (pj:PhJ (trB p s lo).1 T (bs.map λb=>trB p s (b.pl,b.sp)) pss){kgs:List (Int×Int)} (kz:KgZ T pss kgs){v:Int×Int}(m:v∈kgs) :
  ∃(k M:Nat) (b:Bl),b∈bs/\b.sp≠0/\(b.sp=((k:Int):Rat)*u\/b.sp = -(((k:Int):Rat)*u))/\1<=k/\k<=q/\1<=M/\M<=5/\vF T v.1 v.2 tk=2*(hi.1 - lo.1)/(((k:Int):Rat)*u)/((M:Int):Rat):=by
 obtain⟨ps,M,h1,h2,h3⟩:=kz.gm v m
 obtain⟨t,mt,h4⟩:=pj.of _ h1
 obtain⟨b,hb,rfl⟩:=wn.mp mt
 have k0:=pj.k0 _ h1
 have ll:=pj.ll _ h1
 dsimp only at k0 ll h4
 rw[we]at ll
 have l5:=z.l5
 have hv:=Rr.v b hb
 have sn:=zR (show s≠0 by lia)
 have pn:=zR (show p≠0 by lia)
 have b0:b.sp≠0:=λe=>by
  have hv':(((trB p s (b.pl,b.sp)).2:Int):Rat)=0:=hv.trans (by rw[e,Ua])
  have:=uA.mp (hv'.trans (show (0:Rat)=((0:Int):Rat)from rfl))
  lia
 obtain⟨k,hk1,hkq,hk⟩:=U.sp b hb b0
 have m1:=h3.m1
 have m2:=h3.m2
 refine⟨k,M,b,hb,b0,hk,hk1,hkq,m1,by lia,?_⟩
 have u0:=U.u0
 have un:u≠0:=by grind
 have kn:=zR (show (k:Int)≠0 by lia)
 have kp:(0:Rat)<((k:Int):Rat):=wX.mpr ∅
 have sp:(0:Rat)<(s:Rat):=wX.mpr s0
 have kuv:(0:Rat)<((k:Int):Rat)*u*(s:Rat):=ue (ue kp u0) sp
 have vpos:(0:Rat)<(v.1:Rat):=wX.mpr k0
 have e1:(v.1:Rat)=((k:Int):Rat)*u*(s:Rat):=by
  rcases h4 with h4 | h4 <;> rcases hk with hk | hk
  ·rw[<-h4,hv,hk]
  ·exfalso;rw[<-h4,hv,hk]at vpos;grind
  ·exfalso
   rw[show v.1 = -(trB p s (b.pl,b.sp)).2 by lia,WP,hv,hk]at vpos;grind
  ·rw[show v.1 = -(trB p s (b.pl,b.sp)).2 by lia,WP,hv,hk];grind
 have Mn:=zR (show (M:Int)≠0 by lia)
 rw[zat ∅ ∅,e1,h2,Rr.T,Rr.tk]
 generalize ((k:Int):Rat)=k' at *
 generalize ((M:Int):Rat)=M' at *
 generalize (s:Rat)=s' at *
 generalize (p:Rat)=p' at *
 grind
end
theorem ZL {x y:Rat}(hx:0<x) (hy:0<y):0<x/y:=by rw[Rat.div_def];exact ue hx (Rat.inv_pos.mpr hy)
section
variable {bs:List Bl}{lo hi:Rat×Rat}{u:Rat}{q:Nat}{p s T:Int}{tk:Rat}{pss:List (Int×List Int)}
theorem zhW {x:Rat}{M:Nat}{m:Nat}(hM:1<=M) (h5:M<=15) (hx:0<x) (b:Bd m (x.den:Int)):0<x/((M:Int):Rat)/\Bd (m+4) ((x/((M:Int):Rat)).den:Int):=by
 have Mn:=zR (show (M:Int)≠0 by lia)
 have Mp:(0:Rat)<((M:Int):Rat):=wX.mpr ∅
 have e:x/((M:Int):Rat)=Rat.divInt x.num ((x.den:Int)*(M:Int)):=by
  rw[yk,wu]
  have e0:x=(x.num:Rat)/((x.den:Int):Rat):=by rw[<-yk];exact(yr x).symm
  conv=>lhs;rw[e0]
  have d:=zR (show (x.den:Int)≠0 by have:=den_pos x;lia)
  generalize ((M:Int):Rat)=M' at *
  generalize (x.num:Rat)=n at *
  generalize ((x.den:Int):Rat)=d' at *
  grind
 constructor
 ·exact ZL hx Mp
 ·rw[e]
  have d:=den_pos x
  have h:=JE (t:=x.num) (b:=(x.den:Int)*(M:Int)) (yM (wW d ∅))
  have b1:Bd (m+4) ((x.den:Int)*(M:Int)):=b.mul (show Bd 4 (M:Int)from(show (M:Int).natAbs<2^4 by lia))
  exact b1.of_le ∅
structure RdF (R X:Rat):Prop where
 r0:0<R
 rn:Bd 20 R.num
 rd:Bd 24 (R.den:Int)
 le:R<=X
theorem QO (z:RwZ bs lo hi) (U:RwU bs lo hi u q) (Rr:RwR bs lo hi p s T tk) (s0:0<s) (p0:0<p) (pj:PhJ (trB p s lo).1 T (bs.map λb=>trB p s (b.pl,b.sp)) pss) (ne:pss≠[]){kgs:List (Int×Int)} (kz:KgZ T pss kgs) (hn:∀e∈pss,∀g:Nat,1<=g->g<=e.2.length->0<(vF T e.1 g tk).num):RdF (xn (ptL T tk kgs)) (2*(hi.1 - lo.1)/u):=by
 have kl:kgs.length=pss.length:=by have:=kz.pm.length_eq;rw[we,we]at this;exact this
 have pl0:1<=pss.length:=by rcases pss with _ | ⟨x,l⟩;exact absurd rfl ne;simp
 have l1:1<=(ptL T tk kgs).length:=by unfold ptL;rw[we];lia
 have W0:0<2*(hi.1 - lo.1):=by have:=z.lh;grind
 have u0:=U.u0
 have X0:0<2*(hi.1 - lo.1)/u:=ZL W0 u0
 have each:∀t∈ptL T tk kgs,0<t.num/\(∃n:Int,2*(hi.1 - lo.1)/u=(n:Rat)*t)/\Bd 24 (t.den:Int):=λt mt=>by
  obtain⟨v,mv,rfl⟩:=wn.mp mt
  obtain⟨k,M,b,hb,b0,hk,k1,kq,M1,M5,e⟩:=zgc z U Rr s0 p0 pj kz mv
  obtain⟨ps,M',h1,h2,h3⟩:=kz.gm v mv
  have kn:=zR (show (k:Int)≠0 by lia)
  have Mn:=zR (show (M:Int)≠0 by lia)
  have kp:(0:Rat)<((k:Int):Rat):=wX.mpr ∅
  refine⟨by rw[h2];exact hn _ h1 M' h3.m1 h3.m2,⟨(k:Int)*(M:Int),?_⟩,?_⟩
  ·rw[e,wu]
   generalize ((k:Int):Rat)=k' at *
   generalize ((M:Int):Rat)=M' at *
   grind
  ·rw[e]
   have ku:0<((k:Int):Rat)*u:=ue kp u0
   have x0:0<2*(hi.1 - lo.1)/(((k:Int):Rat)*u):=ZL W0 ku
   exact(zhW M1 ∅ x0 (U.pd b hb b0 k hk)).2
 obtain⟨n,hX⟩:=zc1 l1 (λt m=>(each t m).1) (λt m=>(each t m).2.1)
 have R0:=zc2 l1 (λt m=>(each t m).1)
 obtain⟨t,mt⟩:∃t,t∈ptL T tk kgs:=by
  generalize ptL T tk kgs=L at l1
  rcases L with _ | ⟨t,L⟩
  ·simp at l1
  ·exact⟨t,wH⟩
 obtain⟨j,hj⟩:=Jd l1 (λt m=>(each t m).1) mt
 have dv:=(vM hj).2
 refine⟨R0,zie hX X0 U.X,(each t mt).2.2.of_le (YT (by have:=t.den_pos;lia) (uP.mpr dv)),?_⟩
 generalize xn (ptL T tk kgs)=R at *
 have n1:1<=n:=by
  rcases yQ 0 n with c | c
  ·lia
  ·exfalso
   have:(n:Rat)<=0:=by have:=(yY (a:=n) (b:=0)).mpr c;exact this
   have:=yx this (ut R0)
   grind
 have n1':(1:Rat)<=(n:Rat):=by have:=(yY (a:=1) (b:=n)).mpr n1;exact this
 have:=yx n1' (ut R0)
 grind
end
theorem zbZ {α:Type}:∀{l:List (Int×α)}{k:Int}{a b:α},(l.map Prod.fst).Nodup->(k,a)∈l->(k,b)∈l->a=b
 | [],_,_,_,_,m,_=>by cases m
 | (k',c)::l,k,a,b,nd,ma,mb=>by
  rw[yA,uS]at nd
  rcases wx.mp ma with ea | ma
  ·rcases wx.mp mb with eb | mb
   ·cases ea;cases eb;rfl
   ·cases ea;exact absurd (wn.mpr ⟨_,mb,rfl⟩) nd.1
  ·rcases wx.mp mb with eb | mb
   ·cases eb;exact absurd (wn.mpr ⟨_,ma,rfl⟩) nd.1
   ·exact zbZ nd.2 ma mb
theorem KgZ.uniq {T:Int}{pss:List (Int×List Int)}{kgs kgs':List (Int×Int)} (nd:(pss.map Prod.fst).Nodup) (h:KgZ T pss kgs) (h':KgZ T pss kgs'):kgs=kgs':=by
 have ef:kgs.map Prod.fst=kgs'.map Prod.fst:=zaG (h.pm.trans h'.pm.symm) h.so h'.so
 have one:∀u∈kgs,∀v∈kgs',u.1=v.1->u=v:=λu mu v mv e=>by
  obtain⟨ps,M,a1,a2,a3⟩:=h.gm u mu
  obtain⟨ps',M',b1,b2,b3⟩:=h'.gm v mv
  rw[<-e]at b1
  cases zbZ nd a1 b1
  cases a3.uniq b3
  exact Prod.ext e (by rw[a2,b2])
 refine uI λi=>?_
 have ei:=congrArg (λl:List Int=>l[i]?) ef
 try dsimp only at ei
 rw[wo,wo]at ei
 cases a:kgs[i]? with
 | none =>
  cases b:kgs'[i]? with
  | none=>rfl
  | some v=>rw[a,b]at ei;cases ei
 | some u =>
  cases b:kgs'[i]? with
  | none=>rw[a,b]at ei;cases ei
  | some v =>
   rw[a,b]at ei
   rw[one u (wM a) v (wM b) (Option.some.inj ei)]
theorem zkm {p d:Int}(p0:0<p) (d0:0<d):0<(xL [p,d]).fdiv p/\(xL [p,d]).fdiv p<=d/\p*(xL [p,d]).fdiv p=xL [p,d]:=by
 have e:xL [p,d]=p/(Int.gcd p d:Int)*d:=by
  unfold xL
  rw[Wj,Wj,List.foldl_nil]
  have:(1:Int)/(Int.gcd 1 p:Int)*p=p:=by
   rw[show (Int.gcd 1 p:Int)=1 by rw[W5,Int.gcd_one_right];rfl]
   lia
  rw[this]
 have q0:=vD p0 d0
 have le:=zem p0 d0
 have dv:p ∣ xL [p,d]:=by rw[e];exact zhn d0
 rw[<-e]at q0 le
 obtain⟨m,hm⟩:=dv
 rw[wq _ ∅]
 generalize xL [p,d]=L at *
 rw[hm,wY _ ∅]
 refine⟨?_,?_,rL⟩
 ·rcases yQ 0 m with c | c
  ·exact c
  ·have:=uh (show 0<=p by lia) c;lia
 ·rw[hm]at le;exact Int.le_of_mul_le_mul_left le p0
theorem Qq {l0 z:Int}{g:Int×Int}:∀{trs:List (Int×Int)},g∈zY l0 z trs->∃t∈trs,t.2≠0/\g.1=t.2/\(g.2=z - t.1\/g.2=2*l0 - z - t.1)
 | [],m=>by cases m
 | t::r,m=>by
  rcases wQ.mp m with m | m
  ·unfold Qm at m
   split at m
   ·cases m
   ·rename_i h0
    rcases wx.mp m with rfl | m
    ·exact⟨t,wH,h0,rL,.inl rL⟩
    ·rw[wD.mp m];exact⟨t,wH,h0,rfl,.inr rfl⟩
  ·obtain⟨t',m',h⟩:=Qq m;exact⟨t',wO _ m',h⟩
theorem zcr {x tk:Rat}{p s:Int}{n m:Nat}(et:tk=Rat.divInt s p) (p0:0<p) (s0:0<s) (hx:Bd n x.num) (hd:Bd m (x.den:Int)) (bp:Bd 85 p) (bs:Bd 92 s){k:Nat}(h1:n+85<=k) (h2:m+92<=k):Sz k (x/tk):=by
 have e:x/tk=Rat.divInt (x.num*p) ((x.den:Int)*s):=by
  have e0:x=(x.num:Rat)/((x.den:Int):Rat):=by rw[<-yk];exact(yr x).symm
  rw[yk,wu,wu,et,yk]
  conv=>lhs;lhs;rw[e0]
  have d:=zR (show (x.den:Int)≠0 by have:=den_pos x;lia)
  have s':=zR (show s≠0 by lia)
  have p':=zR (show p≠0 by lia)
  generalize (x.num:Rat)=a at *
  generalize ((x.den:Int):Rat)=b at *
  generalize (s:Rat)=c at *
  generalize (p:Rat)=d' at *
  grind
 rw[e]
 exact .divInt (yM (wW (den_pos x) s0)) ((hx.mul bp).mono h1) ((hd.mul bs).mono h2)
section
variable {bs:List Bl}{lo hi:Rat×Rat}{u:Rat}{q:Nat}{p s T m z:Int}{tk:Rat}{pss:List (Int×List Int)}{trs:List (Int×Int)}{l h b:Int×Int}{y x:Rat}
structure WhF (bs:List Bl) (lo hi:Rat×Rat) (q:Nat) (y x:Rat) (p s m z:Int) (trs:List (Int×Int)) (l h:Int×Int) (tk:Rat) (b:Int×Int) (T:Int) (pss:List (Int×List Int)) (lz:Option (Int×Int)):Prop where
 wz:WhZ bs lo hi y x p s m z trs l h tk b
 rg:RoG bs lo hi T s tk pss
 pj:PhJ (trB p s lo).1 T (bs.map λb=>trB p s (b.pl,b.sp)) pss
 lzz:LzZ T tk pss lz
 ka:∀l',lz=some l'->LkA (2*(h.1 - l.1)) b l' (zY l.1 z trs)/\Bd 1300 (lkN b l' (zY l.1 z trs))/\∀g∈zY l.1 z trs,xk g.1*l'.1<=q*(2*(h.1 - l.1)*l'.2)
 ex:∀l',lz=some l'->∃kgs,KgZ T pss kgs/\l'=((xn (ptL T tk kgs)/tk).num,((xn (ptL T tk kgs)/tk).den:Int))
theorem zh2 {V m l1 l2 T':Int}{k q:Nat}{r R W u:Rat}{p s:Int}(hV:(V:Rat)=((k:Int):Rat)*u*(s:Rat)) (hT:(T':Rat)=W*(p:Rat)*(m:Rat)) (hr:r=R/((s:Rat)/(p:Rat))) (hl:r=(l1:Rat)/(l2:Rat)) (u0:0<u) (s0:0<s) (p0:0<p) (m0:0<m) (l20:0<l2) (W0:0<W) (hR:R<=W/u) (kq:k<=q):V*m*l1<=q*(T'*l2):=by
 refine yY.mp ?_
 rw[wu,wu,wu,wu,hV,hT]
 have sp:(0:Rat)<(s:Rat):=wX.mpr s0
 have pp:(0:Rat)<(p:Rat):=wX.mpr p0
 have mp:(0:Rat)<(m:Rat):=wX.mpr m0
 have lp:(0:Rat)<(l2:Rat):=wX.mpr l20
 have kq':((k:Int):Rat)<=((q:Int):Rat):=yY.mpr ∅
 have k0:(0:Rat)<=((k:Int):Rat):=YA.mpr ∅
 generalize ((k:Int):Rat)=k' at *
 generalize ((q:Int):Rat)=q' at *
 generalize (s:Rat)=s' at *
 generalize (p:Rat)=p' at *
 generalize (m:Rat)=m' at *
 generalize (l1:Rat)=a at *
 generalize (l2:Rat)=c at *
 have e1:a=R*p'/s'*c:=by grind
 have e2:u*R<=W:=by
  have h1:=yx hR (ut u0)
  have un:u≠0:=by grind
  have h2:W/u*u=W:=by clear h1 hR;grind
  rw[h2,Rat.mul_comm]at h1
  exact h1
 have e3:k'*(u*R)<=k'*W:=u8 e2 k0
 have e4:k'*W<=q'*W:=yx kq' (ut W0)
 have e5:k'*(u*R)<=q'*W:=Rat.le_trans e3 e4
 have e6:=yx e5 (ut (ue (ue mp pp) lp))
 have e7:k'*u*s'*m'*a=k'*(u*R)*(m'*p'*c):=by rw[e1];grind
 have e8:q'*(W*p'*m'*c)=q'*W*(m'*p'*c):=by grind
 rw[e7,e8]
 exact e6
end
section
variable {bs:List Bl}{lo hi:Rat×Rat}{u:Rat}{q:Nat}{y x:Rat}
open Classical in
theorem zfJ (z:RwZ bs lo hi) (U:RwU bs lo hi u q) (hy:Bd 100 y.num) (hyd:Bd 12 (y.den:Int)) (hx:Bd 101 x.num) (hxd:Bd 4 (x.den:Int)):∃p s m zz trs l h tk b T pss lz,WhF bs lo hi q y x p s m zz trs l h tk b T pss lz:=by
 obtain⟨p,ep⟩:∃p,p=pbO bs (some lo) (some hi):=⟨_,rfl⟩
 obtain⟨s,es⟩:∃s,s=sbO bs (some lo) (some hi):=⟨_,rfl⟩
 obtain⟨tk,et⟩:∃tk,tk=Rat.divInt s p:=⟨_,rfl⟩
 obtain⟨T,eT⟩:∃T,T=2*((trB p s hi).1 - (trB p s lo).1):=⟨_,rfl⟩
 obtain⟨pss,eps⟩:∃pss,pss=phO (trB p s lo).1 T (bs.map λb=>trB p s (b.pl,b.sp)):=⟨_,rfl⟩
 obtain⟨m,em⟩:∃m,m=(xL [p,(y.den:Int)]).fdiv p:=⟨_,rfl⟩
 obtain⟨trs,etr⟩:∃trs,trs=(bs.map λb=>trB p s (b.pl,b.sp)).map (scT m):=⟨_,rfl⟩
 obtain⟨l,el⟩:∃l,l=scT m (trB p s lo):=⟨_,rfl⟩
 obtain⟨h,eh⟩:∃h,h=scT m (trB p s hi):=⟨_,rfl⟩
 obtain⟨zz,ez⟩:∃zz,zz=y.num*(p*m).fdiv (y.den:Int):=⟨_,rfl⟩
 obtain⟨b,eb⟩:∃b:Int×Int,b=((x/tk).num,((x/tk).den:Int)):=⟨_,rfl⟩
 obtain⟨rg,pj,ztk,tn,T0,bT⟩:=z.rog ep es et eT eps
 have Rr:=z.rat ep es et eT
 have F:=z.f
 rw[<-ep,<-es]at F
 obtain⟨m0,md,pm⟩:=zkm F.p0 (den_pos y)
 rw[<-em]at m0 md pm
 have bm:Bd 12 m:=hyd.of_le (by omega)
 have bts:∀t∈ths bs (some lo) (some hi),Bd 198 (scT m (trB p s t)).1/\Bd 185 (scT m (trB p s t)).2:=λt mt=>⟨((F.t1 t mt).mul bm).md,((F.t2 t mt).mul bm).md⟩
 have btr:∀t∈trs,Bd 198 t.1/\Bd 185 t.2:=λt mt=>by
  rw[etr,yW]at mt
  obtain⟨c,hc,rfl⟩:=wn.mp mt
  exact bts _ (VF hc)
 have bl:Bd 198 l.1:=by rw[el];exact(bts _ (qQ rfl)).1
 have bh:Bd 198 h.1:=by rw[eh];exact(bts _ (vt rfl)).1
 have bz:Bd 198 zz:=by rw[ez];exact(hy.mul (bdx (F.pb.mul bm))).md
 have elh:2*(h.1 - l.1)=T*m:=by
  rw[el,eh,eT]
  show 2*((trB p s hi).1*m - (trB p s lo).1*m)=_
  grind
 have T'0:0<T*m:=wW T0 m0
 have zx:Sz 190 (x/tk):=zcr et F.p0 F.s0 hx hxd F.pb F.sb (by decide) (by decide)
 have bb:Bd 190 b.1/\Bd 190 b.2:=by rw[eb];exact zx
 have wz:WhZ bs lo hi y x p s m zz trs l h tk b:=⟨ep,es,em,etr,el,eh,et,ez,eb,F.pb.md,⟨hy.md,hyd.md⟩,λt mt=>⟨(btr t mt).1.md,(btr t mt).2.md⟩,bl.md,bh.md,by
   have:=F.lh
   rw[el,eh]
   exact uj this m0,bz.md,⟨⟨hx.md,hxd.md⟩,ztk.md⟩,bb⟩
 have W0:0<2*(hi.1 - lo.1):=by have:=z.lh;grind
 have pt0:∀e∈pss,∀g:Nat,1<=g->g<=e.2.length->0<(vF T e.1 g tk).num:=λe me g g1 g2=>(rg.pt e me g g1 g2).1
 have key:∀kgs,KgZ T pss kgs->pss≠[]->Sz2 (xn (ptL T tk kgs)) tk/\∀l',l'=((xn (ptL T tk kgs)/tk).num,((xn (ptL T tk kgs)/tk).den:Int))->LkA (2*(h.1 - l.1)) b l' (zY l.1 zz trs)/\Bd 1300 (lkN b l' (zY l.1 zz trs))/\∀g∈zY l.1 zz trs,xk g.1*l'.1<=q*(2*(h.1 - l.1)*l'.2):=λkgs kz ne=>by
  have RF:=QO z U Rr F.s0 F.p0 pj ne kz pt0
  generalize xn (ptL T tk kgs)=R at *
  refine⟨⟨⟨RF.rn.md,RF.rd.md⟩,ztk.md⟩,λl' e'=>?_⟩
  have zl:Sz 120 (R/tk):=zcr et F.p0 F.s0 RF.rn RF.rd F.pb F.sb (by decide) (by decide)
  have d1:=den_pos (R/tk)
  have d2:=den_pos (x/tk)
  have KA:LkA (2*(h.1 - l.1)) b l' (zY l.1 zz trs):=by
   refine⟨?_,λg mg=>?_,?_,⟨bb.1,bb.2,by rw[eb];exact d2⟩,by rw[e'];exact⟨zl.1.md,zl.2.md,d1⟩⟩
   ·have:=ZZ l.1 zz trs
    have:trs.length=bs.length:=by rw[etr,we,we]
    have:=z.l5
    omega
   ·obtain⟨t,mt,t0,e1,e2⟩:=Qq mg
    obtain⟨b1,b2⟩:=btr t mt
    refine⟨by rw[e1];exact t0,by rw[e1];exact b2.md,Bd.mono (m:=201) ?_ (by decide)⟩
    have a1:t.1.natAbs<2^198:=b1
    have a2:l.1.natAbs<2^198:=bl
    have a3:zz.natAbs<2^198:=bz
    show g.2.natAbs<2^201
    rcases e2 with e2 | e2 <;> rw[e2] <;> omega
   ·rw[elh];exact⟨T'0,(bT.mul bm).md⟩
  refine⟨KA,?_,λg mg=>?_⟩
  ·have hb2:Pos 190 [b.2,l'.2]:=KA.pos2
   have hB:Bd 300 (lkB b l'):=by
    have:Pos 120 [b.2,l'.2]:=λk mk=>by
     rcases wx.mp mk with rfl | mk
     ·refine⟨KA.bb.2.2,?_⟩
      have:Sz 190 (x/tk):=zx
      have q2:Bd 96 ((x/tk).den:Int):=by
       have e:x/tk=Rat.divInt (x.num*p) ((x.den:Int)*s):=by
        have e0:x=(x.num:Rat)/((x.den:Int):Rat):=by rw[<-yk];exact(yr x).symm
        rw[yk,wu,wu,et,yk]
        conv=>lhs;lhs;rw[e0]
        have d:=zR (show (x.den:Int)≠0 by have:=den_pos x;omega)
        have s':=zR (show s≠0 by have:=F.s0;omega)
        have p':=zR (show p≠0 by have:=F.p0;omega)
        generalize (x.num:Rat)=a at *
        generalize ((x.den:Int):Rat)=b at *
        generalize (s:Rat)=c at *
        generalize (p:Rat)=d' at *
        grind
       have pos:=wW (den_pos x) F.s0
       have h:=JE (t:=x.num*p) (b:=(x.den:Int)*s) (by omega)
       rw[e]
       have b1:Bd 96 ((x.den:Int)*s):=(hxd.mul F.sb).md
       exact b1.of_le (by omega)
      rw[eb];exact q2.md
     ·rcases wx.mp mk with rfl | mk
      ·exact⟨KA.bl.2.2,by rw[e'];exact zl.2⟩
      ·cases mk
    exact(Vn this).2.1.mono (by show 1+120*2<=300;decide)
   refine(zic (n:=185) KA hB λt mt=>(btr t mt).2).mono ?_
   have:trs.length=bs.length:=by rw[etr,we,we]
   have:=z.l5
   omega
  ·obtain⟨t,mt,t0,e1,_⟩:=Qq mg
   rw[etr,yW]at mt
   obtain⟨c,hc,rfl⟩:=wn.mp mt
   have hv:=Rr.v c hc
   have e2:g.1=(trB p s (c.pl,c.sp)).2*m:=e1
   have v0:(trB p s (c.pl,c.sp)).2≠0:=λe=>t0 (by show (trB p s (c.pl,c.sp)).2*m=0;rw[e,WE])
   have c0:c.sp≠0:=λe=>v0 (uA.mp ((hv.trans (by rw[e,Ua])).trans (show (0:Rat)=((0:Int):Rat)from rfl)))
   obtain⟨k,k1,kq,hk⟩:=U.sp c hc c0
   have sp:(0:Rat)<(s:Rat):=wX.mpr F.s0
   have kp:(0:Rat)<((k:Int):Rat):=wX.mpr (by omega)
   have kus:0<((k:Int):Rat)*u*(s:Rat):=ue (ue kp U.u0) sp
   have ha:((xk (trB p s (c.pl,c.sp)).2:Int):Rat)=((k:Int):Rat)*u*(s:Rat):=by
    rcases hk with hk | hk
    ·rw[hk]at hv
     have:0<(trB p s (c.pl,c.sp)).2:=by
      refine wX.mp ?_
      rw[Rr.v c hc,hk];exact kus
     unfold xk
     rw[if_neg (by omega),Rr.v c hc,hk]
    ·have:0 < -(trB p s (c.pl,c.sp)).2:=by
      refine wX.mp ?_
      rw[WP,Rr.v c hc,hk]
      rw[show -(-(((k:Int):Rat)*u)*(s:Rat))=((k:Int):Rat)*u*(s:Rat) by grind]
      exact kus
     unfold xk
     rw[if_pos (by omega),WP,Rr.v c hc,hk]
     grind
   have ea:xk g.1=xk (trB p s (c.pl,c.sp)).2*m:=by
    rw[e2]
    unfold xk
    by_cases c1:(trB p s (c.pl,c.sp)).2<0
    ·rw[if_pos c1,if_pos (by have:=Int.mul_neg_of_neg_of_pos c1 m0;omega)];grind
    ·rw[if_neg c1,if_neg (by have:=Ud (show 0<=(trB p s (c.pl,c.sp)).2 by omega) (show 0<=m by omega);omega)]
   rw[ea,elh]
   refine zh2 (r:=R/tk) (R:=R) (W:=2*(hi.1 - lo.1)) (u:=u) (p:=p) (s:=s) ha (by rw[wu,Rr.T]) (by rw[Rr.tk]) ?_ U.u0 F.s0 F.p0 m0 (by rw[e'];exact d1) W0 RF.le kq
   rw[e',<-yk];exact(yr _).symm
 by_cases ne:pss=[]
 ·exact⟨p,s,m,zz,trs,l,h,tk,b,T,pss,none,wz,rg,pj,⟨λ_=>rfl,λc=>absurd ne c⟩,λl' e=>(by cases e),λl' e=>(by cases e)⟩
 ·by_cases hk:∃kgs,KgZ T pss kgs
  ·obtain⟨kgs,kz⟩:=hk
   refine⟨p,s,m,zz,trs,l,h,tk,b,T,pss,some ((xn (ptL T tk kgs)/tk).num,((xn (ptL T tk kgs)/tk).den:Int)),wz,rg,pj,⟨λc=>absurd c ne,λ_ kgs' kz'=>?_⟩,λl' e=>?_,λl' e=>?_⟩
   ·rw[kz'.uniq pj.nd kz];exact⟨(key kgs kz ne).1,rfl⟩
   ·cases e;exact(key kgs kz ne).2 _ rfl
   ·cases e;exact⟨kgs,kz,rfl⟩
  ·exact⟨p,s,m,zz,trs,l,h,tk,b,T,pss,none,wz,rg,pj,⟨λ_=>rfl,λ_ kgs kz=>absurd ⟨kgs,kz⟩ hk⟩,λl' e=>(by cases e),λl' e=>(by cases e)⟩
end
theorem JX:zA ["top","bottom","one","other"] ["top","bottom"] (zk Zl):=scq
theorem zit (D:Df K mg "_law_lowest" Zl ["top","bottom"] []) (T:TxB K mg):Cal P w K mg base "_law_lowest" 1 ["top","bottom"] [] qR:=by
 rcases r:D.cal (k:=0) JX (λvs H Q E h=>by obtain⟨a,b,rfl,_⟩:=h;rfl) with⟨t,b,rfl,hb,hz,k⟩
 refine⟨_,ze (Xn (i:=2) (j:=3) rfl JX.nd rfl rfl (by decide) rfl rfl (za (zJ qH rfl T.nAbs yK (za (pv 0) zd)) (za (zJ qH rfl T.nAbs yK (za (pv 1) zd)) zd)) (by rfl))
  (ze (zay PassesOwn.never (zE Zt (pv 3) zh (zF _))
   (zj (Xn (i:=2) (j:=3) rfl JX.nd rfl rfl (by decide) rfl rfl (za (pv 3) (za (zr qX (pv 2) (pv 3)) zd)) (by rfl))))
  (ze (zX (zE vN (pv 1) zh (zF _)) (zj (psl (i:=2) JX.nd (qL qc (pv 2)))) zN)
  (zj (zD (zH (za (zr xC (pv 0) (pv 2)) (za (zr xC (pv 1) (pv 2)) zd))))))),?_⟩
 have hd:=KM.zhl (t:=t) hb
 have hdz:Bd 8900 (KM.dv t b):=hz.of_le (KM.zhk hb)
 have ge:(Int.gcd (if t<0 then -t else t) (if b<0 then -b else b):Nat)=Int.gcd t b:=by
  rw[vS,vS];simp[Int.gcd]
 refine⟨_,rL,t,rL,⟨_,rL,b,rL,_,_,rL,?_⟩⟩
 have fin:∀(σ:St) (z:Option V),σ=[Si t,Si b,some (.int (KM.dv t b)),z]->zfz (zjr (qo (tOp (rI J8 λi j=>V.int (i.fdiv j)) (xy 0) (xy 2)) (qo (tOp (rI J8 λi j=>V.int (i.fdiv j)) (xy 1) (xy 2)) Zv))) { nx:=λ_ H'=>Q .non H',rt:=Q } σ H:=by
  rintro σ z rfl
  refine⟨_,rL,_,rL,_,_,rL,rL,⟨hd,hdz⟩,_,rL,_,rL,_,_,rL,rL,⟨hd,hdz⟩,?_⟩
  refine⟨zL2,λp hp=>k p _ (zi.upd hp) ?_⟩
  show upd H p _ p=_
  rw[zg]
  try dsimp only
  rw[KM.za3 hb,KM.zdS hb];rfl
 refine zaQ (λσ H1=>H1=H/\∃x y:Int,σ=[Si t,Si b,Si x,Si y]/\0<=x/\0<=y/\Int.gcd x y=Int.gcd t b)
  (λσ _=>match σ with | [_,_,_,some (.int y)]=>y.toNat | _=>0) ⟨rfl,_,_,rfl,(by rw[vS];lia),(by rw[vS];lia),ge⟩ ?_ ?_
 ·rintro σ H1 hQq;rcases q:hQq with⟨rfl,x,y,rfl,hx,hy,e⟩
  refine⟨_,rL,_,_,rL,rL,_,rL,qT (λh=>?_) (λh=>?_)⟩
  ·have h':0<y:=wG h
   refine⟨_,rL,_,rL,_,rL,_,_,rL,rL,h',_,_,rL,⟨rL,_,_,rL,hy,uL _ ∅,?_⟩,?_⟩
   ·rw[KM.zak hx h'];exact e
   ·show (x % y).toNat<y.toNat
    have:=Wd x h'
    lia
  ·have h':¬ 0<y:=λz=>h (wm z)
   have:y=0:=by lia
   subst this
   have e2:x=(Int.gcd t b:Nat):=by rw[<-e,Int.gcd_zero_right];lia
   refine⟨_,rL,_,_,rL,rL,_,rL,qT (λh=>?_) (λh=>?_)⟩
   ·have h':b<0:=wG h
    refine⟨_,rL,_,rL,fin _ (some (.int 0)) ?_⟩
    rw[e2];unfold KM.dv;rw[if_pos h'];rfl
   ·have h':¬b<0:=λz=>h (wm z)
    refine fin _ (some (.int 0)) ?_
    rw[e2];unfold KM.dv;rw[if_neg h']
 ·rintro σ H1 Q1 Q2 hq hQq;rcases q:hQq with⟨v,e,i,j,e1,e2,k1,e3,q⟩
  exact⟨v,e,i,j,e1,e2,k1,e3,hq _ _ q⟩
inductive zbu (K:Fg) (vs:List V) (H:Hp) (Q:VK) (_e3:XK):Prop
 | mk:∀(a:Addr) (ns:List Int) (k:Int),(vs=[.ref a,.int k])->(SqL K H a (ns.map V.int))->(0<=k)->(k<1000)->(∀i,Q (.int i) H)->zbu K vs H Q _e3
theorem zgO:zA ["script","k"] ["script","k"] (zk Xv):=scq
theorem zgi (D:Df K mg "_law_cell" Xv ["script","k"] []) (T:TxB K mg):Cal P w K mg base "_law_cell" 1 ["script","k"] [] (zbu K):=by
 rcases r:D.cal (k:=0) zgO (λvs H Q E h=>by obtain⟨a,ns,i,rfl,_⟩:=h;rfl) with⟨a,ns,i,rfl,hS,h0,h1,k⟩
 refine⟨_,ze (zX (zE vN (pv 1) (zJ zS (by rfl) T.nLen PySem.boot_len (za (pv 0) zd)) (zF _)) (zj (zD (xS xT (pv 0) (pv 1) (λ_ _=>rfl)))) zN)
  (zj (zD (zr xg (zr Xl (zr Xl zh (pv 1)) (pv 1)) (zr Xl zh (pv 1))))),?_⟩
 refine⟨_,rL,_,rL,a,_,rL,.inl hS,_,_,rL,rL,_,rL,qT (λh=>?_) (λh=>?_)⟩
 ·have h':i<((ns.map V.int).length:Int):=wG h
  rw[we]at h'
  have hl:i.toNat<ns.length:=by lia
  have e:(ns.map V.int)[i.toNat]? = some (.int ns[i.toNat]):=by rw[wo,wC hl];rfl
  have e2:=Jx e
  rw[show ((i.toNat:Nat):Int)=i by lia]at e2
  exact⟨_,rL,_,rL,a,_,_,_,rL,rL,hS,e2,k _⟩
 ·exact⟨_,rfl,_,_,rfl,rfl,.inl ⟨by decide,by decide⟩,_,rfl,_,_,rfl,rfl,.inr ⟨by lia,by lia⟩,_,rfl,_,_,rfl,rfl,.inl ⟨by decide,by decide⟩,_,_,rfl,rfl,k _⟩
theorem ziY:zA ["cell"] ["cell"] (zk QA):=scq
theorem zig (D:Df K mg "_law_dig" QA ["cell"] []) (T:TxB K mg):Cal P w K mg base "_law_dig" 1 ["cell"] [] zfb:=by
 refine D.cal (k:=0) ziY (λvs H Q E h=>by obtain⟨a,rfl,_⟩:=h;rfl) (λf cdv A outer s H vs Q E hr h=>?_)
 obtain⟨c,rfl,k⟩:=h
 refine⟨_,zj (zD (zV (za (zJ (VZ rfl) (by rfl) T.nMax W9 (za zh (za (zr x6 (pv 0) (zr Qr zh zh)) zd))) (za (zr qX (pv 0) (zr Qr zh zh)) (za zh zd))))),?_⟩
 refine⟨_,rfl,_,_,rfl,rfl,⟨by decide,by decide,by decide⟩,_,_,rfl,rfl,_,_,rfl,?_⟩
 refine⟨_,rfl,_,_,rfl,rfl,⟨by decide,by decide,by decide⟩,_,_,rfl,rfl,(by show (0:Int)<10^18;decide),(zL3),λp hp=>?_⟩
 exact k p _ hp (zi.upd hp) ⟨_,_,_,zg⟩
theorem JT:zA ["pool","found","k"] ["pool"] (zk QB):=scq
theorem zih (D:Df K mg "_law_far" QB ["pool"] []) (T:TxB K mg) (cN:Cal P w K mg base "_law_next" 1 ["pool","base"] [] Zr):Cal P w K mg base "_law_far" 2 ["pool"] [] zaH:=by
 refine D.cal (k:=1) JT (λvs H Q E h=>by obtain⟨a,rfl,_⟩:=h;rfl) (λf cdv A outer s H vs Q E hr h=>?_)
 obtain⟨p,rfl,hp,k⟩:=h
 refine⟨_,ze (psl (i:=1) JT.nd zh)
  (ze (qM PassesOwn.never rfl (Z7 rfl T.nRange (za (zr xg zh (zB cN hr (za (pv 0) (za zh zd)))) zd)) (pgl (i:=2) JT.nd)
   (zj (psl (i:=1) JT.nd (zr xg (zr Xl (pv 1) (zr Qr zh zh)) (zB cN hr (za (pv 0) (za (zr Qr zh zh) zd)))))))
  (zj (zD (pv 1)))),?_⟩
 refine⟨_,rfl,p,_,rfl,by decide,by decide,hp,λd H1 d0 d1 s1=>?_⟩
 refine⟨_,_,rL,rL,_,rL,∅,∅,?_⟩
 have hn:((1:Int)+d).toNat<=3:=by lia
 refine ZY (n:=((1:Int)+d).toNat) (lo:=0) (λi σ H2=>∃(z:Option V) (g:Int),σ=[Sr p,Si g,z]/\0<=g/\g<10000000^i/\xt p H H2) ⟨none,0,rfl,by decide,by decide,s1⟩ ?_ ?_
 ·rintro i σ H2 hi hQq;rcases q:hQq with⟨z,g,rfl,g0,g1,s2⟩
  refine⟨_,rfl,_,_,rfl,rfl,⟨by decide,by decide,by decide⟩,_,_,rfl,rfl,.inr ⟨by decide,by decide⟩,?_⟩
  refine⟨_,rfl,_,_,rfl,rfl,⟨by decide,by decide,by decide⟩,p,_,rfl,by decide,by decide,s2.pool,λe H3 e0 e1 s3=>?_⟩
  have:=zd3 g0 g1 e0 e1
  exact⟨_,_,rL,rL,_,_,rL,this.1,this.2,s2.trans s3⟩
 ·rintro σ H2 hQq;rcases q:hQq with⟨z,g,rfl,g0,g1,s2⟩
  refine⟨_,rL,k _ _ g0 ?_ s2⟩
  have:((1:Int)+d).toNat=0\/((1:Int)+d).toNat=1\/((1:Int)+d).toNat=2\/((1:Int)+d).toNat=3:=by lia
  have e1:(10000000:Int)^0=1:=by decide
  have e2:(10000000:Int)^1=10000000:=by decide
  have e3:(10000000:Int)^2=100000000000000:=by decide
  have e4:(10000000:Int)^3=1000000000000000000000:=by decide
  rcases this with z | z | z | z <;> rw[z]at g1 <;> lia
theorem zgR:zA ["one","other"] ["one","other"] (zk Xy):=scq
theorem zgj (D:Df K mg "_law_less" Xy ["one","other"] []):Cal P w K mg base "_law_less" 1 ["one","other"] [] J3:=by
 rcases r:D.calq (k:=0) zgR with⟨p,q,x,y,rfl,hp,hq,hx,hy,k⟩
 have bx:=Bd4 hx
 have b_y:=Bd4 hy
 refine⟨_,zj (zD (qm vN (zr zK (pxt (pv 0)) (pxt (pv 1))) (zr zK (pxt (pv 1)) (pxt (pv 0))) (zF _))),?_⟩
 refine⟨_,rL,p,_,_,_,rL,rL,.of hp,at0 ..,_,rL,q,_,_,_,rL,rL,.of hq,at1 ..,_,_,rL,rL,⟨bx.1,b_y.2⟩,?_⟩
 refine⟨_,rL,q,_,_,_,rL,rL,.of hq,at0 ..,_,rL,p,_,_,_,rL,rL,.of hp,at1 ..,_,_,rL,rL,⟨b_y.1,bx.2⟩,_,_,rL,rL,?_⟩
 have e:decide (x.num*(y.den:Int)<y.num*(x.den:Int))=decide (x<y):=by
  by_cases h:x<y
  ·rw[wm h,wm ((KM.Za x y).mpr h)]
  ·rw[wA h,wA λz=>h ((KM.Za x y).mp z)]
 show Q (.bl (decide (x.num*(y.den:Int)<y.num*(x.den:Int)))) H
 rw[e];exact k
end KK
namespace L2
open PySem PySem.Spec PyProof.Rows
section
variable {X:Cx}
def zgG:V->List V->Hp->VK->Prop:=λx vs H Q=>∃(l:Addr) (xs:List V) (i:Int) (y:V),x = .ref l/\vs=[.int i,y]/\H l=some (.lst xs)/\0<=i/\i<=xs.length/\xs.length<=1000/\Q .non (upd H l (.lst (xs.take i.toNat++y::xs.drop i.toNat)))
theorem zh3 (its:List Value) (i:Int) (u:Value) (h0:0<=i) (h1:i<=its.length) :
  ((its.toArray.extract 0 (if i<0 then(i+((its.toArray.size:Nat):Int)).toNat else min i.toNat its.toArray.size)).push u++its.toArray.extract (if i<0 then(i+((its.toArray.size:Nat):Int)).toNat else min i.toNat its.toArray.size))=(its.take i.toNat++u::its.drop i.toNat).toArray:=by
 rw[if_neg ∅,wF,show min i.toNat its.length=i.toNat by lia]
 apply u7.mp
 simp
 exact List.take_of_length_le (by simp)
theorem zdb:MtM X "list.insert" zgG:=by
 intro pz s σ H x vs v us Q I rx rv h
 obtain⟨l,xs,i,y,rfl,rfl,hH,h0,h1,hz,q⟩:=h
 cases rx
 obtain⟨u1,u2,rfl,⟨t,rfl⟩,ru⟩:=rv.two
 obtain⟨z,its,n,r,hl,e⟩:=I.lstM hH
 have hf:Builtin.List.listFitsIndex i=true:=fitsIndex_both ∅ ∅
 have hz2:its.toArray.size<=sizeLine:=by rw[wF,<-hl];exact z
 refine call_meets F.slot_list_insert ⟨_,e,rfl⟩ F.entry_list_insert (F.args_list_insert_3 _ _ _) (AutoSeq1.list_insert_list_int_val_1 l its.toArray n i t u2 (by simp[hf]) hz2) ⟨e,?_⟩
 refine⟨.non,_,I.lset (its':=its.take i.toNat++u2::its.drop i.toNat) hH e (zh3 its i u2 h0 ∅) ((r.take i.toNat).append (.cons ru (r.drop i.toNat))) ?_,rL,q⟩
 have:xs.length<sizeLine:=vz hz
 rw[wI,ww,yj,Yc]
 lia
inductive zaB (x:V) (y:V) (H:Hp) (Q:VK):Prop
 | mk:∀d ds n,(RdD H x d)->(RdD H y (.list ds))->(PyData.canLayAll0 ds=true)->(PyData.canLay0 d=true)->(PyData.depth d<=n)->(n<=60)->(Q (.bl (!ds.any λe=>PyData.eqv e d)) H)->zaB x y H Q
def zgH:R2:=λx y H Q=>zaB x y H Q
theorem zdf (hu:X.A.units+64<cLine):OpR X (compareOp .NotIn) zgH:=by
 intro pz s σ H x y v u Q I rx ry h
 obtain⟨d,ds,n,hd,he,c1,c2,hn,n60,q⟩:=h
 obtain⟨as,r1⟩:=hd.reads I rx
 obtain⟨bs,r2⟩:=he.reads I ry
 refine SeqAt.notIn_list_reads r2 r1 c1 c2 ?_ ⟨.bl _,H,I,rL,q⟩
 have:min (PyData.depthAll ds) d.depth<=d.depth:=Nat.min_le_right ..
 lia
end
end L2
namespace KK
open PySem L2 KM
variable {P:Program}{w:World}{K:Fg}{mg:Str->Option Value}{base:Heap}{aN:Addr}
theorem zgS:zA ["one","other"] ["one","other"] (zk ZN):=scq
theorem zgk (D:Df K mg "_law_minus" ZN ["one","other"] []) (cS:Cal P w K mg base "_law_sum" 2 ["one","other"] [] (qx Sz2 (· + ·))) (cP:Cal P w K mg base "_law_product" 2 ["one","other"] [] (qx Sz2 (· * ·))):Cal P w K mg base "_law_minus" 3 ["one","other"] [] (qx Sz2 (· - ·)):=by
 refine D.calq (k:=2) zgS (λf cdv A outer s H vs Q E hr2 h=>?_)
 rcases q:h with⟨p,q,x,y,rfl,hp,hq,⟨zx,zy⟩,k⟩
 refine⟨_,(zj (zD (zB cS hr2 (za (pv 0) (za (zB cP hr2 (za (pv 1) (za (zH (za (qL qc zh) (za zh zd))) zd))) zd))))),?_⟩
 try dsimp only[zU,Cx.nox]
 refine⟨_,rL,_,rL,_,rL,zL2,λe he=>?_⟩
 have S1:=zi.upd (o:=.tup [.int (-1),.int 1]) he
 have hm:zp (upd H e (.tup [.int (-1),.int 1])) e (-1):=zg
 have z1:Sz 4000 (-1:Rat):=⟨Bd.mono (m:=2) (show (-1:Int).natAbs<2^2 by decide) (by decide),Bd.mono (m:=2) (show ((1:Nat):Int).natAbs<2^2 by decide) (by decide)⟩
 refine⟨q,e,y,-1,rL,hq.same S1,hm,⟨zy,z1⟩,λr H' S2 hr=>?_⟩
 have zy':Sz 4000 (y*(-1)):=by
  rw[show y*(-1) = -y by grind]
  exact⟨by show Bd 4000 (-y).num;rw[Rat.neg_num];exact zy.1.neg,by show Bd 4000 ((-y).den:Int);rw[Rat.neg_den];exact zy.2⟩
 refine⟨p,r,x,_,rL,hp.same (S1.trans S2),hr,⟨zx,zy'⟩,λr' H'' S3 hr'=>k r' H'' (S1.trans (S2.trans S3)) ?_⟩
 show zp H'' r' (x - y)
 rw[show x - y=x+y*(-1) by grind];exact hr'
theorem zi1:zA ["one","other"] ["one","other"] (zk XA):=scq
theorem zis (D:Df K mg "_law_over" XA ["one","other"] []) (cLo:Cal P w K mg base "_law_lowest" 1 ["top","bottom"] [] qR):Cal P w K mg base "_law_over" 2 ["one","other"] [] (qx (λx y=>Sz2 x y/\y≠0) (· / ·)):=by
 refine D.calq (k:=1) zi1 (λf cdv A outer s H vs Q E hr1 h=>?_)
 rcases q:h with⟨p,q,x,y,rfl,hp,hq,⟨⟨hx,hy⟩,hy0⟩,k⟩
 have bx:=Bd4 hx
 have b_y:=Bd4 hy
 refine⟨_,(zj (zD (zB cLo hr1 (za (zr zK (pxt (pv 0)) (pxt (pv 1))) (za (zr zK (pxt (pv 0)) (pxt (pv 1))) zd))))),?_⟩
 try dsimp only[zU,Cx.nox]
 refine⟨_,rL,p,_,_,_,rL,rL,.of hp,at0 ..,_,rL,q,_,_,_,rL,rL,.of hq,at1 ..,_,_,rL,rL,⟨bx.1,b_y.2⟩,?_⟩
 refine⟨_,rL,p,_,_,_,rL,rL,.of hp,at1 ..,_,rL,q,_,_,_,rL,rL,.of hq,at0 ..,_,_,rL,rL,⟨bx.2,b_y.1⟩,?_⟩
 refine⟨_,_,rL,uU (KM.vC x) (λz=>hy0 (Rat.num_eq_zero.mp z)),(hx.2.mul hy.1).md,λr H' e h=>k r H' e ?_⟩
 show zp H' r (x/y)
 rw[<-KM.zcb];exact h
def bLt (b c:Bl):Bool:=if b.pl=c.pl then decide (b.sp<c.sp)else decide (b.pl<c.pl)
inductive zgY  (vs:List V) (H:Hp) (Q:VK) (_e3:XK):Prop
 | mk:∀v u b c,(vs=[v,u])->(XL H v b)->(XL H u c)->(Sz2 b.pl c.pl)->(Sz2 b.sp c.sp)->(Q (.bl (bLt b c)) H)->zgY vs H Q _e3
theorem zi0:zA ["one","other"] ["one","other"] (zk ZM):=scq
theorem zfY {x y:Rat}:PyData.eqv (raD x) (raD y)=decide (x=y):=zdW x y
theorem zik (D:Df K mg "_law_ahead" ZM ["one","other"] []) (cLs:Cal P w K mg base "_law_less" 1 ["one","other"] [] J3):Cal P w K mg base "_law_ahead" 2 ["one","other"] [] zgY:=by
 refine D.calq (k:=1) zi0 (λf cdv A outer s H vs Q E hr1 h=>?_)
 have hu:=hr1.units
 rcases q:h with⟨v,u,b,c,rfl,⟨a,p,q,rfl,ha,hp,hq⟩,⟨a',p',q',rfl,ha',hp',hq'⟩,⟨z1,z2⟩,⟨z3,z4⟩,k⟩
 refine⟨_,(ze (zX (zE (Vq hu) (pxt (pv 0)) (pxt (pv 1)) (zF _)) (zj (zD (zB cLs hr1 (za (pxt (pv 0)) (za (pxt (pv 1)) zd))))) zN)
  (zj (zD (zB cLs hr1 (za (pxt (pv 0)) (za (pxt (pv 1)) zd)))))),?_⟩
 try dsimp only[zU,Cx.nox]
 refine⟨_,rL,a,_,_,_,rL,rL,.of ha,rL,_,rL,a',_,_,_,rL,rL,.of ha',rL,raD b.pl,raD c.pl,zp.rdD hp,zp.rdD hp',rL,rL,?_⟩
 rw[zfY]
 unfold bLt at k
 by_cases e:b.pl=c.pl
 ·rw[wm e]
  rw[if_pos e]at k
  exact⟨_,rL,xw ⟨_,rL,a,_,_,_,rL,rL,.of ha,rL,_,rL,a',_,_,_,rL,rL,.of ha',rL,q,q',b.sp,c.sp,rL,hq,hq',z3,z4,k⟩⟩
 ·rw[wA e]
  rw[if_neg e]at k
  exact⟨_,rL,xc ⟨_,rL,a,_,_,_,rL,rL,.of ha,rL,_,rL,a',_,_,_,rL,rL,.of ha',rL,p,p',b.pl,c.pl,rL,hp,hp',z1,z2,k⟩⟩
end KK
namespace L2
open PySem PySem.Spec PyProof.Rows
section
variable {J:It}{D:Addr}{n:Nat}{js:List Nat}{σ:St}{g:TG}{tt:TT}{te:TE}{Z:Hp->Prop}{H:Hp}{xs:List V}
theorem zdJ (hD:H D=none) (hJ:J9 J H xs) (hl:xs.length<sizeLine)
  (hs:∀(i:Nat) (x:V) (zs:St) (H2:Hp) (A:VK) (B:Hp->Prop),xs[i]? = some x->zs.length=n->zi H H2->A x H2->B H2->g x (zs++qF σ js) H2 λσ4 H4=>σ4.drop n=qF σ js/\tt σ4 H4 λb H5=>if b=true then te σ4 H5 A else B H5)
  (k:∀ys H',zi H H'->H' D=some (.lst ys)->ys.length<=xs.length->Z H') :
  ∃W:Nat->Nat->Hp->List V->Prop,(∃m,W 0 m (upd H D (.lst [])) [])/\∀i m H2 ys,W i m H2 ys->H2 D=some (.lst ys)->(J.stop i H2/\Z H2) ∨
   (J.go i H2/\∀zs x H3,zs.length=n->J.yld i H2 x H3->g x (zs++qF σ js) H3 λσ4 H4=>σ4.drop n=qF σ js/\tt σ4 H4 λb H5=>if b=true then te σ4 H5 (λv H6=>H6 D=some (.lst ys)/\ys.length<sizeLine/\∃m',m'<m/\W (i+1) m' (upd H6 D (.lst (ys++[v]))) (ys++[v]))
    else H5 D=some (.lst ys)/\∃m',m'<m/\W (i+1) m' H5 ys):=by
 refine ZE (Q:=λ_ H=>Z H) (tt:=tt) (N:=xs.length) (λi H2 ys=>zi H H2/\ys.length<=i) ⟨zi.upd hD,wg _⟩ (λi H2 ys hi p=>hJ.go i H2 hi p.1) (λH2 ys p=>hJ.stop H2 p.1) ?_ (λH2 ys q e=>k ys H2 q.1 e q.2)
 rintro i x zs H2 H3 ys Nx hN hi hz hy ⟨s2,hle⟩ hD2
 obtain⟨rfl,hx⟩:=hJ.yld i x H2 H3 s2 hy
 refine hs i x zs H3 _ _ hx hz s2 ⟨hD2,?_,hN _ _ ⟨λc o e=>?_,?_⟩⟩ ⟨hD2,hN _ _ ⟨s2,by lia⟩⟩
 ·lia
 ·rw[zO (zQ e hD)];exact s2 _ _ e
 ·rw[wI,uf];lia
end
end L2
namespace KK
open PySem L2 KM
variable {P:Program}{w:World}{K:Fg}{mg:Str->Option Value}{base:Heap}{aN C:Addr}
theorem qe.ins {H:Hp}{us:List V}{bs:List Bl}{v:V}{b:Bl}(h:qe H us bs) (hb:XL H v b) (i:Nat) (hi:i<=us.length):qe H (us.take i++v::us.drop i) (bs.take i++b::bs.drop i):=by
 have l:=h.1
 refine⟨by simp only[wI,ww,yj,Yc];lia,λj w e=>?_⟩
 have lt:(us.take i).length=i:=by rw[yj];lia
 have lt':(bs.take i).length=i:=by rw[yj];lia
 by_cases c:j<i
 ·rw[wU ∅,We,if_pos c]at e
  rw[wU ∅,We,if_pos c]
  exact h.2 j w e
 ·rw[wN ∅,lt]at e
  rw[wN ∅,lt']
  by_cases c2:j=i
  ·subst c2
   rw[Wg]at e ⊢
   cases e
   exact⟨b,rL,hb⟩
  ·obtain⟨t,ht⟩:∃t,j - i=t+1:=⟨j - i - 1,by lia⟩
   rw[ht,uH,WM]at e
   rw[ht,uH,WM]
   exact h.2 _ w e
theorem zeg {α:Type}(bs:List α) (b:α) (i:Nat):(bs.take i++b::bs.drop i).Perm (bs++[b]):=by
 refine(List.perm_middle).trans ?_
 rw[uz]
 exact(List.perm_append_singleton b bs).symm
def zdA (b:Bl):Prop:=Sz 4000 b.pl/\Sz 4000 b.sp
inductive zjg  (vs:List V) (H:Hp) (Q:VK) (_e3:XK):Prop
 | mk:∀L us bs,(vs=[.ref L])->(H L=some (.lst us))->(qe H us bs)->(bs.length<=8)->((∀b∈bs,zdA b))->(∀r us' bs' H',zi H H'->H' r=some (.tup us')->qe H' us' bs'->bs'.Perm bs->Q (.ref r) H')->zjg vs H Q _e3
theorem JY:zA ["balls","found","ball","at"] ["balls"] (zk Zm):=scq
theorem ziw (D:Df K mg "_law_sorted" Zm ["balls"] []) (T:TxB K mg) (cAh:Cal P w K mg base "_law_ahead" 2 ["one","other"] [] zgY):Cal P w K mg base "_law_sorted" 3 ["balls"] [] zjg:=by
 refine D.calq (k:=2) JY (λf cdv A outer s H vs Q E hr2 h=>?_)
 rcases q:h with⟨L,us,bs,rfl,hL,hR,l8,hz,k⟩
 have hul:=hR.1
 refine⟨_,(ze (psl (i:=1) JY.nd (zV zd))
  (ze (qM PassesOwn.never rfl (xh (pv 0)) (JR (i:=2) JY.nd rfl (Or.inr rfl)) (ze (psl (i:=3) JY.nd (zJ zS (by rfl) T.nLen PySem.boot_len (za (qK (NB:=["other"]) (FR:=["ball"]) (js:=[2]) rfl rfl (λx c h=>JC rfl x c h) (.cons rfl rfl rfl ⟨_,rfl⟩ .nil) rfl (by decide +kernel) rfl (by decide +kernel) (xh (pv 1)) (by intro _ _ _;refine⟨?_,?_,?_⟩;(exact(pgl (i:=0) (show List.Nodup (["other","ball"]:List Str) by decide +kernel)));(exact(Qb (Qw (K:=K) rfl (zB cAh hr2 (za (pv 0) (za (pv 1) zd))) λ_=>rfl)));(exact(pv 0)))) zd)))
  (zj (xm (ZI yC PySem.F.slot_list_insert PySem.F.type_list_insert zdb (pv 1) (za (pv 3) (za (pv 2) zd)))))))
  (zj (zD (vy VM (by rfl) T.nTuple WO (za (pv 1) zd)))))),?_⟩
 try dsimp only[zU,Cx.nox]
 refine zM (λσ' G=>∃F,σ'=[Sr L,Sr F,none,none]/\zi H G/\H F=none/\G F=some (.lst [])) ?_ ?_
 rotate_left
 ·intro nx hnx
  exact⟨by show 0<=sizeLine;lia,λF hF=>hnx _ _ ⟨F,rfl,zi.upd hF,hF,zg⟩⟩
 rintro σ0 G0 hQq;rcases q:hQq with⟨F,rfl,S0,hF0,hF⟩
 have nLF:F≠L:=λe=>by rw[e,hL]at hF0;cases hF0
 refine zM (λσ' G=>∃ws cs x2 x3,σ'=[Sr L,Sr F,x2,x3]/\zi H G/\G F=some (.lst ws)/\qe G ws cs/\cs.Perm bs) ?_ ?_
 rotate_left
 ·intro nx hnx
  refine⟨_,rL,L,rL,⟨_,SqL.of (S0 _ _ hL)⟩,?_⟩
  refine qA (xs:=us) (λi σ' G=>∃ws cs x2 x3,σ'=[Sr L,Sr F,x2,x3]/\zi H G/\G F=some (.lst ws)/\qe G ws cs/\cs.Perm (bs.take i)) ⟨[],[],none,none,rfl,S0,hF,⟨rfl,λi v e=>by cases e⟩,List.Perm.nil⟩ (λi σ' G _ ⟨_,_,_,_,_,h,_⟩=>SqL.of (h _ _ hL)) ?_ ?_
  ·rintro i y σ' G hy hQq;rcases q:hQq with⟨ws,cs,x2,x3,rfl,SG,hG,hRG,pm⟩
   obtain⟨b,eb,hb⟩:=(hR.keeps (.of SG)).2 i y hy
   have mb:=wM eb
   have cl:cs.length<=8:=by rw[pm.length_eq,yj];lia
   have wl:=hRG.1
   dsimp only[zG]
   refine⟨_,rL,F,rL,⟨_,SqL.of hG⟩,λD1 hD1=>?_⟩
   refine zdJ (js:=[2]) (J:=Itl K F) (g:=zG 0) (te:=xy 0) (tt:=λσ H Q=>ZT zgY [] E0 (qo (xy 0) (qo (xy 1) Zv)) σ H λx H'=>∃k,zcC K x H' k/\Q k H') (n:=1) (xs:=ws) hD1 (xA hG) (xV ∅) ?_ ?_
   ·intro j x zs H2 A B hx hz' S2 hA hB
    obtain⟨w1,rfl⟩:=Qp hz'
    obtain⟨c,ec,hc⟩:=(hRG.keeps (.of S2)).2 j x hx
    have mc:=pm.subset (wM ec)
    have mc':=List.mem_of_mem_take mc
    dsimp only[zG]
    refine⟨rL,_,rL,_,rL,x,y,c,b,rL,hc,hb.keeps (.of S2),⟨(hz c mc').1,(hz b mb).1⟩,⟨(hz c mc').2,(hz b mb).2⟩,_,rL,?_⟩
    cases bLt c b with
    | true=>exact xw ⟨_,rfl,hA⟩
    | false=>exact xc hB
   intro ys H2 S2 hD2 hle
   have hG2:=S2 _ _ hG
   refine⟨D1,ys,rL,.inl (.of hD2),?_⟩
   try dsimp only
   refine⟨_,rfl,.inl ⟨rfl,_,SqL.of hG2⟩,_,rfl,_,rfl,F,ws,_,y,rfl,rfl,hG2,by lia,by lia,by lia,?_⟩
   have en:((ys.length:Int)).toNat=ys.length:=by lia
   rw[en]
   have hb2:=hb.keeps (.of S2)
   have hR2:=hRG.keeps (.of S2)
   have tu:xp H2 (upd H2 F (.lst (ws.take ys.length++y::ws.drop ys.length))):=xp.upd hG2
   refine⟨_,cs.take ys.length++b::cs.drop ys.length,_,_,rL,Zd (SG.trans S2) hF0,zg,(hR2.ins hb2 ys.length hle).keeps tu,?_⟩
   rw[yE,eb]
   exact(zeg cs b ys.length).trans (pm.append_right [b])
  ·rintro σ' G hQq;rcases q:hQq with⟨ws,cs,x2,x3,rfl,SG,hG,hRG,pm⟩
   rw[hul,yt]at pm
   exact hnx _ _ ⟨ws,cs,x2,x3,rL,SG,hG,hRG,pm⟩
 rintro σ1 G hQq;rcases q:hQq with⟨ws,cs,x2,x3,rfl,SG,hG,hRG,pm⟩
 refine⟨_,rL,F,ws,rL,.inl ⟨SqL.of hG,λr hr=>?_⟩⟩
 have Sr:=zi.upd (o:=.tup ws) hr
 exact k r ws cs _ (SG.trans Sr) zg (hRG.keeps (.of Sr)) pm
def qf (W:Rat) (c n:Int):Rat:=W*Rat.divInt c (4*n)
theorem xZ {a b:Int}:Rat.divInt a b=(a:Rat)/(b:Rat):=yk a b
theorem zcQ {W:Rat}{d n:Int}(hn:0<n):Rat.divInt (d*W.num) (4*(W.den:Int)*n)=qf W d n:=by
 unfold qf
 rw[xZ,xZ]
 have e:W=(W.num:Rat)/((W.den:Int):Rat):=by rw[<-yk];exact(yr W).symm
 conv=>rhs;rw[e]
 have d1:=zR (show (W.den:Int)≠0 by have:=den_pos W;omega)
 have d2:=zR (show n≠0 by omega)
 rw[wu,wu,wu,wu]
 have d4:((4:Int):Rat)≠0:=zR (by decide)
 generalize (W.num:Rat)=a at *
 generalize ((W.den:Int):Rat)=b at *
 generalize (n:Rat)=n' at *
 generalize ((4:Int):Rat)=f at *
 generalize (d:Rat)=d' at *
 grind
theorem zf1 {W:Rat}{d n:Int}{i:Int}(hn:0<n):qf W d n+W*Rat.divInt (2*i) n=qf W (d+8*i) n:=by
 unfold qf
 rw[xZ,xZ,xZ,wu,wu,Ub,wu]
 have d2:=zR (show n≠0 by lia)
 have d4:((4:Int):Rat)=4:=rfl
 have d8:((8:Int):Rat)=8:=rfl
 have d22:((2:Int):Rat)=2:=rfl
 rw[d4,d8,d22]
 generalize (n:Rat)=n' at *
 generalize (d:Rat)=d' at *
 generalize (i:Rat)=i' at *
 grind
theorem zd1 {W:Rat}{c n:Int}(hW:0<W) (hn:0<n):qf W c n<W↔c<4*n:=by
 have h:Rat.divInt c (4*n)<1↔c<4*n:=by
  have e:(1:Rat)=Rat.divInt (4*n) (4*n):=by
   rw[xZ]
   have:=zR (show 4*n≠0 by omega)
   generalize ((4*n:Int):Rat)=a at *
   grind
  rw[e];exact ZW (by omega)
 rw[<-h]
 unfold qf
 constructor
 ·intro k
  rcases Decidable.em (Rat.divInt c (4*n)<1)with z | z
  ·exact z
  ·have:=u8 (show (1:Rat)<=Rat.divInt c (4*n) by grind) (ut hW)
   grind
 ·intro k
  have:=Rat.mul_lt_mul_of_pos_left k hW
  grind
theorem JG {W:Rat}{c n:Int}{m:Nat}(hW:Sz m W) (h0:0<=c) (hc:c<=64) (hn:0<n) (hn8:n<=8):Sz (m+8) (qf W c n) :=
 hW.mul (.divInt ∅ (show c.natAbs<2^8 by lia) (show (4*n).natAbs<2^8 by lia))
def SpB (L W v:Rat) (n:Int) (b:Bl):Prop:=b.wt=7/\∃c:Int,0<=c/\c<8*n/\((c<4*n/\b.pl=L+qf W c n/\b.sp=v)\/(4*n<=c/\b.pl=L+(W*2 - qf W c n)/\b.sp = -v))
theorem Sz.neg' {n:Nat}{y:Rat}(zy:Sz n y):Sz n (-y):=⟨by show Bd n (-y).num;rw[Rat.neg_num];exact zy.1.neg,by show Bd n ((-y).den:Int);rw[Rat.neg_den];exact zy.2⟩
theorem zaL:Sz 4000 (-1:Rat):=⟨Bd.mono (m:=2) (show (-1:Int).natAbs<2^2 by decide) (by decide),Bd.mono (m:=2) (show ((1:Nat):Int).natAbs<2^2 by decide) (by decide)⟩
theorem zkv:Sz 4000 (2:Rat):=⟨Bd.mono (m:=2) (show (2:Int).natAbs<2^2 by decide) (by decide),Bd.mono (m:=2) (show ((1:Nat):Int).natAbs<2^2 by decide) (by decide)⟩
theorem qe.snoc {H:Hp}{us:List V}{bs:List Bl}{v:V}{b:Bl}(h:qe H us bs) (hb:XL H v b):qe H (us++[v]) (bs++[b]):=by
 have:=h.ins hb us.length (wg _)
 rw[yt,List.drop_length,h.1,yt,List.drop_length]at this
 exact this
def zhC:Sp:=λvs H Q _=>∃p lw wd pc L W v,∃n:Nat,vs=[.ref p,.int n,.ref lw,.ref wd,.ref pc]/\1<=n/\n<=8/\vR H p/\zp H lw L/\zp H wd W/\zp H pc v/\Sz 200 L/\Sz 200 W/\Sz 200 v/\0<W ∧
 ∀F us bs H',xt p H H'->H F=none->H' F=some (.lst us)->qe H' us bs->bs.length=n->(∀b∈bs,SpB L W v n b)->Q (.ref F) H'
theorem vP:zA ["pool","many","low","wide","pace","first","found","k","far","speed"] ["pool","many","low","wide","pace"] (zk Zn):=scq
theorem zgl (D:Df K mg "_law_spaced" Zn ["pool","many","low","wide","pace"] []) (T:TxB K mg) (cN:Cal P w K mg base "_law_next" 1 ["pool","base"] [] Zr) (cLo:Cal P w K mg base "_law_lowest" 1 ["top","bottom"] [] qR) (cS:Cal P w K mg base "_law_sum" 2 ["one","other"] [] (qx Sz2 (· + ·))) (cP:Cal P w K mg base "_law_product" 2 ["one","other"] [] (qx Sz2 (· * ·))) (cLs:Cal P w K mg base "_law_less" 1 ["one","other"] [] J3):Cal P w K mg base "_law_spaced" 3 ["pool","many","low","wide","pace"] [] zhC:=by
 refine D.calq (k:=2) vP (λf cdv A outer s H vs Q E hr2 h=>?_)
 have hr1:z6 1 _:=hr2.md
 rcases q:h with⟨p,lw,wd,pc,L,W,v,n,rfl,n1,n8,hp,hL,hW,hv,zL,zW,zv,W0,k⟩
 refine⟨_,(ze (psl (i:=5) vP.nd (zB cLo hr1 (za (zr zK (zB cN hr1 (za (pv 0) (za zh zd))) (pxt (pv 3))) (za (zr zK (zr zK zh (pxt (pv 3))) (pv 1)) zd))))
  (ze (psl (i:=6) vP.nd (zV zd))
  (ze (qM PassesOwn.never rfl (Z7 rfl T.nRange (za (pv 1) zd)) (pgl (i:=7) vP.nd) (ze (psl (i:=8) vP.nd (zB cS hr2 (za (pv 5) (za (zB cP hr2 (za (pv 3) (za (zB cLo hr1 (za (zr zK zh (pv 7)) (za (pv 1) zd))) zd))) zd))))
  (ze (psl (i:=9) vP.nd (pv 4))
  (ze (zX (vn (xD (zB cLs hr1 (za (pv 8) (za (pv 3) zd))) λ_=>rfl)) (ze (psl (i:=8) vP.nd (zB cS hr2 (za (zB cP hr2 (za (pv 3) (za (zH (za zh (za zh zd))) zd))) (za (zB cP hr2 (za (pv 8) (za (zH (za (qL qc zh) (za zh zd))) zd))) zd))))
  (zj (psl (i:=9) vP.nd (zB cP hr2 (za (pv 4) (za (zH (za (qL qc zh) (za zh zd))) zd)))))) zN)
  (zj (xm (ZI yC yR yS qr (pv 6) (za (zH (za (zB cS hr2 (za (pv 2) (za (pv 8) zd))) (za (pv 9) (za zh zd)))) zd))))))))
  (zj (zD (pv 6)))))),?_⟩
 try dsimp only[zU,Cx.nox]
 refine zM (λσ' G=>∃(ft:Addr) (d:Int),σ'=[Sr p,Si n,Sr lw,Sr wd,Sr pc,Sr ft,none,none,none,none]/\xt p H G/\0<=d/\d<4/\zp G ft (qf W d n)) ?_ ?_
 rotate_left
 ·intro nx hnx
  refine⟨_,rfl,p,_,rfl,by decide,by decide,hp,λd H1 d0 d4 S1=>?_⟩
  have hW1:=S1.rat hp hW
  have wb:=Bd4 (zW.mono (n:=4000) (by decide))
  have bi:∀{i:Int},i.natAbs<2^10->Bd 1000000 i:=λh=>Bd.mono (m:=10) h (by decide)
  refine⟨_,rL,wd,_,_,_,rL,rL,.of hW1,at0 ..,_,_,rL,rL,⟨bi ∅,wb.1⟩,?_⟩
  refine⟨_,rfl,wd,_,_,_,rfl,rfl,.of hW1,at1 ..,_,_,rfl,rfl,⟨bi (by decide),wb.2⟩,_,rfl,_,_,rfl,rfl,⟨?_,bi ∅⟩,?_⟩
  ·exact((Bd.mono (m:=10) (show (4:Int).natAbs<2^10 by decide) (by decide):Bd 10 (4:Int)).mul zW.2).md
  refine⟨_,_,rL,?_,?_,λft H2 S2 hft=>?_⟩
  ·have:=den_pos W
   exact yM (wW ∅ ∅)
  ·exact(((show Bd 10 (4:Int)from(show (4:Int).natAbs<2^10 by decide)).mul zW.2).mul (show Bd 10 (n:Int)from(show (n:Int).natAbs<2^10 by lia))).md
  refine hnx _ _ ⟨ft,d,rL,S1.same S2,d0,d4,?_⟩
  rw[<-zcQ ∅];exact hft
 rintro σ1 H1 hQq;rcases q:hQq with⟨ft,d,rfl,S1,d0,d4,hft⟩
 have hL1:=S1.rat hp hL
 have hW1:=S1.rat hp hW
 have hv1:=S1.rat hp hv
 refine zM (λσ' G=>∃F,σ'=[Sr p,Si n,Sr lw,Sr wd,Sr pc,Sr ft,Sr F,none,none,none]/\zi H1 G/\H1 F=none/\G F=some (.lst [])) ?_ ?_
 rotate_left
 ·intro nx hnx
  exact⟨by show 0<=sizeLine;lia,λF hF=>hnx _ _ ⟨F,rfl,zi.upd hF,hF,zg⟩⟩
 rintro σ2 H2 hQq;rcases q:hQq with⟨F,rfl,S2,hF1,hF⟩
 have hFH:H F=none:=by
  cases e:H F with
  | none=>rfl
  | some o =>
   by_cases c:F=p
   ·obtain⟨_,_,_,e2⟩:=S1.pool;rw[c,e2]at hF1;cases hF1
   ·rw[S1.keep _ _ e c]at hF1;cases hF1
 have zW4:Sz 4000 W:=zW.md
 have zv4:Sz 4000 v:=zv.md
 have zL4:Sz 4000 L:=zL.md
 refine zM (λσ' G=>∃x7 x8 x9 ws cs,σ'=[Sr p,Si n,Sr lw,Sr wd,Sr pc,Sr ft,Sr F,x7,x8,x9]/\zi H1 G/\G F=some (.lst ws)/\qe G ws cs/\cs.length=n/\∀b∈cs,SpB L W v n b) ?_ ?_
 rotate_left
 ·intro nx hnx
  refine⟨_,rfl,_,rfl,by lia,by lia,?_⟩
  refine ZY (n:=((n:Int)).toNat) (lo:=0) (λi σ' G=>∃x7 x8 x9 ws cs,σ'=[Sr p,Si n,Sr lw,Sr wd,Sr pc,Sr ft,Sr F,x7,x8,x9]/\zi H1 G/\G F=some (.lst ws)/\qe G ws cs/\cs.length=i/\∀b∈cs,SpB L W v n b) ⟨none,none,none,[],[],rfl,S2,hF,⟨rfl,λi v e=>by cases e⟩,rfl,λb m=>by cases m⟩ ?_ ?_
  ·rintro i σ' G hi hQq;rcases q:hQq with⟨x7,x8,x9,ws,cs,rfl,SG,hG,hR,hcl,hcs⟩
   have hi':i<n:=by lia
   dsimp only[zG]
   have c0:0<=d+8*(i:Int):=by lia
   have c8:d+8*(i:Int)<8*n:=by lia
   have zf:Sz 208 (qf W (d+8*(i:Int)) n):=JG zW c0 ∅ ∅ ∅
   have zf4:Sz 4000 (qf W (d+8*(i:Int)) n):=zf.md
   refine zM (λσ' G'=>∃q8,σ'=[Sr p,Si n,Sr lw,Sr wd,Sr pc,Sr ft,Sr F,some (.int (0+(i:Int))),Sr q8,x9]/\zi G G'/\zp G' q8 (qf W (d+8*(i:Int)) n)) ?_ ?_
   rotate_left
   ·intro nx2 hnx2
    refine⟨_,rfl,_,rfl,_,rfl,_,_,rfl,rfl,⟨Bd.mono (m:=10) (show (2:Int).natAbs<2^10 by decide) (by decide),Bd.mono (m:=10) (show (0+(i:Int)).natAbs<2^10 by lia) (by decide)⟩,_,rfl,_,_,rfl,by lia,Bd.mono (m:=10) (show (n:Int).natAbs<2^10 by lia) (by decide),λq1 G1 T1 hq1=>?_⟩
    refine⟨wd,q1,W,_,rfl,hW1.same (SG.trans T1),hq1,⟨zW4,(Sz.divInt (n:=10) ∅ (show (2*(0+(i:Int))).natAbs<2^10 by lia) (show (n:Int).natAbs<2^10 by lia)).md⟩,λq2 G2 T2 hq2=>?_⟩
    refine⟨ft,q2,_,_,rL,hft.same (SG.trans (T1.trans T2)),hq2,⟨(JG zW d0 ∅ ∅ ∅).md,?_⟩,λq3 G3 T3 hq3=>?_⟩
    ·exact(zW.mul (Sz.divInt (n:=10) ∅ (show (2*(0+(i:Int))).natAbs<2^10 by lia) (show (n:Int).natAbs<2^10 by lia))).md
    refine hnx2 _ _ ⟨q3,rL,T1.trans (T2.trans T3),?_⟩
    have e:=zf1 (W:=W) (d:=d) (n:=n) (i:=(i:Int)) ∅
    rw[<-e]
    rw[show (0:Int)+(i:Int)=(i:Int) by lia]at hq3
    exact hq3
   rintro σ4 G1 ⟨q8,rfl,T1,hq8⟩
   refine⟨_,rL,?_⟩
   dsimp only[zG]
   have SG1:=SG.trans T1
   refine zM (λσ' G'=>∃a8 a9 pl' sp',σ'=[Sr p,Si n,Sr lw,Sr wd,Sr pc,Sr ft,Sr F,some (.int (0+(i:Int))),Sr a8,Sr a9]/\zi G1 G'/\zp G' a8 pl'/\zp G' a9 sp'/\Sz 4000 pl'/\SpB L W v n ⟨L+pl',sp',7⟩) ?_ ?_
   rotate_left
   ·intro nx2 hnx2
    refine⟨_,rL,_,rL,q8,wd,_,W,rL,hq8,hW1.same SG1,zf4,zW4,_,rL,?_⟩
    have hlt:=zd1 (c:=d+8*(i:Int)) (n:=(n:Int)) W0 ∅
    by_cases hc:qf W (d+8*(i:Int)) n<W
    ·rw[wm hc]
     refine xc ?_
     exact hnx2 _ _ ⟨q8,pc,_,v,rL,zi.refl _,hq8,hv1.same SG1,zf4,rL,d+8*(i:Int),c0,c8,.inl ⟨hlt.mp hc,rL,rL⟩⟩
    ·rw[wA hc]
     have hge:4*(n:Int)<=d+8*(i:Int):=by
      rcases yQ (d+8*(i:Int)) (4*(n:Int))with z | z
      ·exact absurd (hlt.mpr z) hc
      ·exact z
     refine xw ?_
     have zn:Sz 4000 (qf W (d+8*(i:Int)) n*(-1)):=by
      rw[show qf W (d+8*(i:Int)) n*(-1) = -qf W (d+8*(i:Int)) n by grind];exact Sz.neg' zf4
     have zw2:Sz 300 (W*2):=(zW.mul (show Sz 10 (2:Rat)from⟨show (2:Int).natAbs<2^10 by decide,show ((1:Nat):Int).natAbs<2^10 by decide⟩)).md
     have zn3:Sz 300 (qf W (d+8*(i:Int)) n*(-1)):=by
      rw[show qf W (d+8*(i:Int)) n*(-1) = -qf W (d+8*(i:Int)) n by grind];exact Sz.neg' (Sz.mono zf (by decide))
     refine⟨_,rL,zL2,λe1 he1=>?_⟩
     have U1:=zi.upd (o:=.tup [.int 2,.int 1]) he1
     have g1:zp (upd G1 e1 (.tup [.int 2,.int 1])) e1 2:=zg
     refine⟨wd,e1,W,2,rL,hW1.same (SG1.trans U1),g1,⟨zW4,zkv⟩,λr1 G2 U2 h2=>?_⟩
     refine⟨_,rL,_,rL,zL2,λe2 he2=>?_⟩
     have U3:=zi.upd (o:=.tup [.int (-1),.int 1]) he2
     have g3:zp (upd G2 e2 (.tup [.int (-1),.int 1])) e2 (-1):=zg
     refine⟨q8,e2,_,-1,rL,hq8.same (U1.trans (U2.trans U3)),g3,⟨zf4,zaL⟩,λr2 G4 U4 h4=>?_⟩
     refine⟨r1,r2,_,_,rL,h2.same (U3.trans U4),h4,⟨zw2.md,zn⟩,λr3 G5 U5 h5=>?_⟩
     have UU:=U1.trans (U2.trans (U3.trans (U4.trans U5)))
     refine⟨_,rL,_,rL,zL2,λe3 he3=>?_⟩
     have U6:=zi.upd (o:=.tup [.int (-1),.int 1]) he3
     have g6:zp (upd G5 e3 (.tup [.int (-1),.int 1])) e3 (-1):=zg
     refine⟨pc,e3,v,-1,rL,hv1.same (SG1.trans (UU.trans U6)),g6,⟨zv4,zaL⟩,λr4 G6 U7 h7=>?_⟩
     refine hnx2 _ _ ⟨r3,r4,_,_,rL,UU.trans (U6.trans U7),h5.same (U6.trans U7),h7,(zw2.add zn3).md,rL,d+8*(i:Int),c0,c8,.inr ⟨hge,?_,?_⟩⟩
     ·show L+(W*2+qf W (d+8*(i:Int)) n*(-1))=L+(W*2 - qf W (d+8*(i:Int)) n)
      grind
     ·show v*(-1) = -v
      grind
   rintro σ5 G2 hQq;rcases q:hQq with⟨a8,a9,pl',sp',rfl,T2,h8,h9,z8,hB⟩
   have SG2:=SG1.trans T2
   have hG2:=T2 _ _ (T1 _ _ hG)
   have hR2:=(hR.keeps (.of T1)).keeps (.of T2)
   refine⟨_,rL,.inl ⟨rL,_,SqL.of hG2⟩,_,rL,_,rL,lw,a8,L,pl',rL,hL1.same SG2,h8,⟨zL4,z8⟩,λr5 G3 T3 h5=>?_⟩
   refine⟨_,rL,zL3,λbl hbl=>?_⟩
   have T4:=zi.upd (o:=.tup [.ref r5,.ref a9,.int 7]) hbl
   have hG4:=T4 _ _ (T3 _ _ hG2)
   have hBl:XL (upd G3 bl (.tup [.ref r5,.ref a9,.int 7])) (.ref bl) ⟨L+pl',sp',7⟩:=⟨bl,r5,a9,rfl,zg,h5.same T4,h9.same (T3.trans T4)⟩
   have hR4:=((hR2.keeps (.of T3)).keeps (.of T4)).snoc hBl
   have wl:=hR.1
   refine⟨F,ws,_,rL,rL,hG4,szl ∅,?_⟩
   refine⟨_,_,_,_,cs++[⟨L+pl',sp',7⟩],rfl,Zd (SG2.trans (T3.trans T4)) hF1,zg,hR4.keeps (xp.upd hG4),by rw[wI,uf];lia,λb m=>?_⟩
   rcases wQ.mp m with m | m
   ·exact hcs b m
   ·rw[wD.mp m];exact hB
  ·rintro σ' G hQq;rcases q:hQq with⟨x7,x8,x9,ws,cs,rfl,SG,hG,hR,hcl,hcs⟩
   exact hnx _ _ ⟨x7,x8,x9,ws,cs,rfl,SG,hG,hR,by lia,hcs⟩
 rintro σ3 G hQq;rcases q:hQq with⟨x7,x8,x9,ws,cs,rfl,SG,hG,hR,hcl,hcs⟩
 exact⟨_,rL,k F ws cs G (S1.same SG) hFH hG hR hcl hcs⟩
theorem zbh {d:Int}{u v x w:V}(h0:0<=d) (h1:d<4):∃y,atI [u,v,x,w] d=some y/\(y=u\/y=v\/y=x\/y=w):=by
 have:d=0\/d=1\/d=2\/d=3:=by lia
 rcases this with rfl | rfl | rfl | rfl
 ·exact⟨_,rL,.inl rL⟩
 ·exact⟨_,rL,.inr (.inl rL)⟩
 ·exact⟨_,rL,.inr (.inr (.inl rL))⟩
 ·exact⟨_,rL,.inr (.inr (.inr rL))⟩
structure EvG (g j d c w jp dp:Int):Prop where
 g1:1<=g
 g2:g<=1000000000000000000000
 j : -6<=j/\j<=6
 d:d=1\/d=2
 c:c=1\/c=2\/c=3
 w:2<=w/\w<=10
 jp:1<=jp/\jp<=5
 dp:dp=1\/dp=2\/dp=3
theorem gBd {g:Int}(h1:1<=g) (h2:g<=1000000000000000000000):Bd 71 g:=by
 have:(2361183241434822606848:Nat)=2^71:=by decide
 show g.natAbs<2^71
 lia
def zu (g j d:Int):Rat:=Rat.divInt (j*g) d
def zC (g c:Int):Rat:=Rat.divInt g c
def GrS (g jp dp:Int) (v:Rat):Prop:=v=zu g jp dp\/v = -zu g jp dp\/v=0\/∃k e:Int,-6<=k/\k<=6/\(e=1\/e=2)/\v=zu g k e
def GrB (g j d c w jp dp wt:Int) (b:Bl):Prop:=b.wt=wt/\∃t:Int,0<=t/\t<=w/\b.pl=zu g j d+zC g c*(t:Rat) ∧
 GrS g jp dp b.sp/\(t=0->0<=b.sp)/\(t=w->b.sp<=0)
def EvB (g j d c w jp dp:Int) (n:Nat) (bs:List Bl):Prop:=(∀b∈bs,SpB (zu g j d) (zC g c*(w:Rat)) (zu g jp dp) n b)\/∃wt,∀b∈bs,GrB g j d c w jp dp wt b
theorem JM {x:Rat}:x.num<0↔x<0:=by
 have:=Rat.num_nonneg (q:=x)
 constructor
 ·intro h;have:¬ 0<=x:=λc=>by have:=this.mpr c;omega
  grind
 ·intro h
  rcases yQ x.num 0 with c | c
  ·exact c
  ·have:=this.mp c;grind
theorem zb8 {x:Rat}:0<x.num↔0<x:=by
 have h1:=JM (x := -x)
 rw[Rat.neg_num]at h1
 constructor
 ·intro h;have:=h1.mp ∅;grind
 ·intro h;have:=h1.mpr (by grind);lia
theorem zag {g k e:Int} : -zu g k e=zu g (-k) e:=by
 unfold zu
 rw[Int.neg_mul,Rat.neg_divInt]
theorem GrS.neg {g jp dp:Int}{v:Rat}(h:GrS g jp dp v):GrS g jp dp (-v):=by
 rcases h with rfl | rfl | rfl | ⟨k,e,h1,h2,h3,rfl⟩
 ·exact .inr (.inl rL)
 ·exact .inl (by grind)
 ·exact .inr (.inr (.inl (by grind)))
 ·exact .inr (.inr (.inr ⟨-k,e,by lia,by lia,h3,zag⟩))
def blD (b:Bl):PyData:=.tuple [raD b.pl,raD b.sp,.int b.wt]
theorem XL.rdD {H:Hp}{v:V}{b:Bl}(h:XL H v b):RdD H v (blD b):=by
 obtain⟨a,p,q,rfl,h1,h2,h3⟩:=h
 exact .tup h1 (.cons (zp.rdD h2) (.cons (zp.rdD h3) (.cons (.int _) .nil)))
theorem zci {H:Hp}:∀{us:List V}{bs:List Bl},qe H us bs->Zg H us (bs.map blD)
 | [],[],_=>.nil
 | [],_::_,h=>by have:=h.1;simp at this
 | _::_,[],h=>by have:=h.1;simp at this
 | u::us,b::bs,h=>by
  obtain⟨c,e,hc⟩:=h.2 0 u rfl
  simp at e;subst e
  exact .cons (XL.rdD hc) (zci ⟨by have:=h.1;simpa using this,λi v e=>by simpa using h.2 (i+1) v (by simpa using e)⟩)
theorem zbb (b:Bl):Lay 2 (blD b):=Lay.tup λd m=>by
 rcases wx.mp m with rfl | m
 ·exact Lay.rat _
 ·rcases wx.mp m with rfl | m
  ·exact Lay.rat _
  ·rw[wD.mp m];exact(Lay.int _).md
def zhB:Sp:=λvs H Q _=>∃p,∃m:Int,vs=[.ref p,.int m]/\1<=m/\m<=5/\vR H p/\∀t r a us bs g j d c w' jp dp H',∀n:Nat,xt p H H'->H' t=some (.tup [.ref r,.ref a])->H' r=some (.tup us)->qe H' us bs->1<=bs.length->bs.length<=n->n<=5->EvG g j d c w' jp dp->EvB g j d c w' jp dp n bs →
 (∃v1 v2,H' a=some (.tup [v1,v2])/\xb H' v1 (some (zu g j d,0))/\xb H' v2 (some (zu g j d+zC g c*(w':Rat),0)))->Q (.ref t) H'
theorem qz:zA ["pool","most","many","great","low","step","wide","pace","weight","walls","balls","k","at","other","speed","ball"] ["pool","most"] (zk Xx):=scq
theorem zir (D:Df K mg "_law_even" Xx ["pool","most"] []) (T:TxB K mg) (cN:Cal P w K mg base "_law_next" 1 ["pool","base"] [] Zr) (cF:Cal P w K mg base "_law_far" 2 ["pool"] [] zaH) (cLo:Cal P w K mg base "_law_lowest" 1 ["top","bottom"] [] qR) (cS:Cal P w K mg base "_law_sum" 2 ["one","other"] [] (qx Sz2 (· + ·))) (cP:Cal P w K mg base "_law_product" 2 ["one","other"] [] (qx Sz2 (· * ·))) (cSo:Cal P w K mg base "_law_sorted" 3 ["balls"] [] zjg) (cSc:Cal P w K mg base "_law_spaced" 3 ["pool","many","low","wide","pace"] [] zhC) :
  Cal P w K mg base "_law_even" 4 ["pool","most"] [] zhB:=by
 refine D.calq (k:=3) qz (λf cdv A outer s H vs Q E hr3 h=>?_)
 rcases q:h with⟨p,m,rfl,m1,m5,hP,k⟩
 have hr1:z6 1 _:=hr3.md
 have hr2:z6 2 _:=hr3.md
 have hu:=hr3.units
 refine⟨_,(ze (psl (i:=2) qz.nd (zr xg zh (zB cN hr1 (za (pv 0) (za (pv 1) zd)))))
  (ze (psl (i:=3) qz.nd (xS xT (zV (za zh (za (zr xg zh (zB cF hr2 (za (pv 0) zd))) zd))) (vy VY (by rfl) T.nInt W8 (za (qm Zb (zB cN hr1 (za (pv 0) (za zh zd))) zh (zF _)) zd)) (λ_ _=>rfl)))
  (ze (psl (i:=4) qz.nd (zB cLo hr1 (za (zr zK (zr x6 (zB cN hr1 (za (pv 0) (za zh zd))) zh) (pv 3)) (za (zr xg zh (zB cN hr1 (za (pv 0) (za zh zd)))) zd))))
  (ze (psl (i:=5) qz.nd (zB cLo hr1 (za (pv 3) (za (xS xT (zV (za zh (za zh (za zh (za zh zd))))) (zB cN hr1 (za (pv 0) (za zh zd))) (λ_ _=>rfl)) zd))))
  (ze (psl (i:=6) qz.nd (zr xg zh (zB cN hr1 (za (pv 0) (za zh zd)))))
  (ze (psl (i:=7) qz.nd (zB cLo hr1 (za (zr zK (zr xg zh (zB cN hr1 (za (pv 0) (za zh zd)))) (pv 3)) (za (zr xg zh (zB cN hr1 (za (pv 0) (za zh zd)))) zd))))
  (ze (psl (i:=8) qz.nd (zr xg zh (zB cN hr1 (za (pv 0) (za zh zd)))))
  (ze (psl (i:=9) qz.nd (zH (za (zH (za (pv 4) (za (zH (za zh (za zh zd))) zd))) (za (zH (za (zB cS hr2 (za (pv 4) (za (zB cP hr2 (za (pv 5) (za (zH (za (pv 6) (za zh zd))) zd))) zd))) (za (zH (za zh (za zh zd))) zd))) zd))))
  (ze (zX (zE Zb (zB cN hr1 (za (pv 0) (za zh zd))) zh (zF _)) (zj (zD (zH (za (zB cSo hr3 (za (zB cSc hr3 (za (pv 0) (za (pv 2) (za (pv 4) (za (zB cP hr2 (za (pv 5) (za (zH (za (pv 6) (za zh zd))) zd))) (za (pv 7) zd)))))) zd)) (za (pv 9) zd))))) zN)
  (ze (psl (i:=10) qz.nd (zV zd))
  (ze (qM PassesOwn.never rfl (Z7 rfl T.nRange (za (pv 2) zd)) (pgl (i:=11) qz.nd) (ze (psl (i:=12) qz.nd (zB cN hr1 (za (pv 0) (za (zr xg (pv 6) zh) zd))))
  (ze (psl (i:=13) qz.nd (zB cLo hr1 (za (zr zK (zr x6 (zB cN hr1 (za (pv 0) (za zh zd))) zh) (pv 3)) (za (zr xg zh (zB cN hr1 (za (pv 0) (za zh zd)))) zd))))
  (ze (psl (i:=14) qz.nd (xS xT (zV (za (pv 7) (za (zB cP hr2 (za (pv 7) (za (zH (za (qL qc zh) (za zh zd))) zd))) (za (zH (za zh (za zh zd))) (za (pv 13) zd))))) (zB cN hr1 (za (pv 0) (za zh zd))) (λ_ _=>rfl)))
  (ze (zX (Xh ((vV (zE Zb (pv 12) zh (zF _)) (vd (zE vN (pxt (pv 14)) zh (zF _))))).pt (ZK ((vV (zE Zb (pv 12) (pv 6) (zF _)) (vd (zE Zt (pxt (pv 14)) zh (zF _))))).pt)).pt (zj (psl (i:=14) qz.nd (zB cP hr2 (za (pv 14) (za (zH (za (qL qc zh) (za zh zd))) zd))))) zN)
  (ze (psl (i:=15) qz.nd (zH (za (zB cS hr2 (za (pv 4) (za (zB cP hr2 (za (pv 5) (za (zH (za (pv 12) (za zh zd))) zd))) zd))) (za (pv 14) (za (pv 8) zd)))))
  (zj (zX (zE (zdf hu) (pv 15) (pv 10) rfl) (zj (xm (ZI yC yR yS qr (pv 10) (za (pv 15) zd)))) zN))))))))
  (zj (zD (zH (za (zB cSo hr3 (za (pv 10) zd)) (za (pv 9) zd)))))))))))))))),?_⟩
 try dsimp only[zU,Cx.nox]
 refine⟨_,rfl,_,rfl,p,m,rfl,by lia,by lia,hP,λd1 G1 a1 b1 t1=>⟨_,_,rfl,rfl,?_⟩⟩
 dsimp only[zG]
 refine zM (λσ' G=>∃g:Int,σ'=[Sr p,Si m,some (.int (1+d1)),Si g,none,none,none,none,none,none,none,none,none,none,none,none]/\xt p H G/\1<=g/\g<=1000000000000000000000) ?_ ?_
 rotate_left
 ·intro nx hnx
  refine⟨_,rL,p,rL,t1.pool,λfr G2 a2 b2 t2=>⟨_,_,rL,rL,zL2,λl1 hl1=>?_⟩⟩
  have T2:=t1.trans t2
  refine⟨_,rfl,p,_,rfl,by decide,by decide,T2.pool.new hl1,λd2 G3 a3 b3 t3=>?_⟩
  refine⟨rL,.inr ⟨_,rL,?_⟩⟩
  have hl:=t3.keep l1 _ zg (T2.pool.ne hl1)
  have T3:xt p H G3:=T2.trans (t3.pre (zi.upd hl1))
  by_cases c:V.int d2=V.int 0
  ·rw[wm c]
   refine⟨l1,_,_,_,rL,rL,.of hl,rL,?_⟩
   exact hnx _ _ ⟨_,rfl,T3,by lia,by lia⟩
  ·rw[wA c]
   refine⟨l1,_,_,_,rL,rL,.of hl,rL,?_⟩
   exact hnx _ _ ⟨1,rfl,T3,by lia,by lia⟩
 rintro σ3 G3 hQq;rcases q:hQq with⟨g,rfl,T3,g1,g2⟩
 have bg:=gBd g1 g2
 have b71:∀{x:Int},0<=x+20->x<=20->Bd 1000000 x:=λh1 h2=>Bd.mono (m:=10) (show _<2^10 by lia) (by decide)
 have bi:∀{x:Int},1<=x->x<=12->x≠0/\Bd 8900 x:=λh1 h2=>⟨by lia,Bd.mono (m:=10) (show _<2^10 by lia) (by decide)⟩
 have bg':Bd 1000000 g:=bg.md
 refine zM (λσ' G=>∃rl j d,σ'=[Sr p,Si m,some (.int (1+d1)),Si g,Sr rl,none,none,none,none,none,none,none,none,none,none,none]/\xt p H G/\(-6<=j/\j<=6)/\(d=1\/d=2)/\zp G rl (zu g j d)) ?_ ?_
 rotate_left
 ·intro nx hnx
  refine⟨_,rfl,p,_,rfl,by decide,by decide,T3.pool,λe1 G4 a4 b4 t4=>⟨_,_,rfl,rfl,_,rfl,_,_,rfl,rfl,⟨b71 ∅ ∅,bg'⟩,?_⟩⟩
  have T4:=T3.trans t4
  refine⟨_,rfl,p,_,rfl,by decide,by decide,T4.pool,λe2 G5 a5 b5 t5=>⟨_,_,rfl,rfl,_,_,rfl,(bi ∅ ∅).1,(bi ∅ ∅).2,λrl G6 s6 hl=>?_⟩⟩
  exact hnx _ _ ⟨rl,e1 - 6,1+e2,rfl,(T4.trans t5).same s6,by lia,by lia,hl⟩
 rintro σ4 G4 hQq;rcases q:hQq with⟨rl,j,d,rfl,T4,hj,hd,hlo⟩
 refine zM (λσ' G=>∃rs c,σ'=[Sr p,Si m,some (.int (1+d1)),Si g,Sr rl,Sr rs,none,none,none,none,none,none,none,none,none,none]/\xt p H G/\(c=1\/c=2\/c=3)/\zp G rl (zu g j d)/\zp G rs (zC g c)) ?_ ?_
 rotate_left
 ·intro nx hnx
  refine⟨_,rL,zL4,λl1 hl1=>?_⟩
  refine⟨_,rfl,p,_,rfl,by decide,by decide,T4.pool.new hl1,λe1 G5 a5 b5 t5=>?_⟩
  have hl:=t5.keep l1 _ zg (T4.pool.ne hl1)
  have t5':=t5.pre (zi.upd hl1)
  obtain⟨y,ey,hy⟩:=zbh (u:=V.int 1) (v:=.int 1) (x:=.int 2) (w:=.int 3) a5 b5
  obtain⟨c,rfl,hc⟩:∃c:Int,y = .int c/\(c=1\/c=2\/c=3):=by
   rcases hy with rfl | rfl | rfl | rfl
   ·exact⟨1,rL,.inl rL⟩
   ·exact⟨1,rL,.inl rL⟩
   ·exact⟨2,rL,.inr (.inl rL)⟩
   ·exact⟨3,rL,.inr (.inr rL)⟩
  refine⟨l1,_,_,_,rL,rL,.of hl,ey,_,_,rL,(bi ∅ ∅).1,(bi ∅ ∅).2,λrs G6 s6 hs=>?_⟩
  exact hnx _ _ ⟨rs,c,rL,(T4.trans t5').same s6,hc,(t5'.rat T4.pool hlo).same s6,hs⟩
 rintro σ5 G5 hQq;rcases q:hQq with⟨rs,c,rfl,T5,hc,hlo,hst⟩
 refine⟨_,rfl,p,_,rfl,by decide,by decide,T5.pool,λe6 G6 a6 b6 t6=>⟨_,_,rfl,rfl,?_⟩⟩
 have T6:=T5.trans t6
 have hlo6:=t6.rat T5.pool hlo
 have hst6:=t6.rat T5.pool hst
 clear hlo hst
 obtain⟨w',ew⟩:∃w':Int,w'=2+e6:=⟨_,rfl⟩
 dsimp only[zG]
 refine zM (λσ' G=>∃rpc jp dp,σ'=[Sr p,Si m,some (.int (1+d1)),Si g,Sr rl,Sr rs,Si w',Sr rpc,none,none,none,none,none,none,none,none]/\xt p H G/\(1<=jp/\jp<=5)/\(dp=1\/dp=2\/dp=3)/\zp G rl (zu g j d)/\zp G rs (zC g c)/\zp G rpc (zu g jp dp)) ?_ ?_
 rotate_left
 ·intro nx hnx
  refine⟨_,rfl,p,_,rfl,by decide,by decide,T6.pool,λe1 G7 a7 b7 t7=>⟨_,_,rfl,rfl,_,rfl,_,_,rfl,rfl,⟨b71 ∅ ∅,bg'⟩,?_⟩⟩
  have T7:=T6.trans t7
  refine⟨_,rfl,p,_,rfl,by decide,by decide,T7.pool,λe2 G8 a8 b8 t8=>⟨_,_,rfl,rfl,_,_,rfl,(bi ∅ ∅).1,(bi ∅ ∅).2,λrpc G9 s9 hp=>?_⟩⟩
  have t78:=t7.trans t8
  exact hnx _ _ ⟨rpc,1+e1,1+e2,by rw[ew];rfl,(T7.trans t8).same s9,by lia,by lia,(t78.rat T6.pool hlo6).same s9,(t78.rat T6.pool hst6).same s9,hp⟩
 rintro σ7 G7 hQq;rcases q:hQq with⟨rpc,jp,dp,rfl,T7,hjp,hdp,hlo7,hst7,hpa7⟩
 clear hlo6 hst6
 refine⟨_,rfl,p,_,rfl,by decide,by decide,T7.pool,λe8 G8 a8 b8 t8=>⟨_,_,rfl,rfl,?_⟩⟩
 have T8:=T7.trans t8
 have hlo8:=t8.rat T7.pool hlo7
 have hst8:=t8.rat T7.pool hst7
 have hpa8:=t8.rat T7.pool hpa7
 clear hlo7 hst7 hpa7
 have hwd:2<=w'/\w'<=10:=by lia
 dsimp only[zG]
 have EG:EvG g j d c w' jp dp:=⟨g1,g2,hj,hd,hc,hwd,hjp,hdp⟩
 have zlo:Sz 80 (zu g j d):=.divInt ∅ (((show Bd 4 j from(show j.natAbs<2^4 by lia)).mul bg).md) (Bd.mono (m:=4) (show d.natAbs<2^4 by lia) (by decide))
 have zst:Sz 80 (zC g c):=.divInt ∅ (bg.md) (Bd.mono (m:=4) (show c.natAbs<2^4 by lia) (by decide))
 have zpa:Sz 80 (zu g jp dp):=.divInt ∅ (((show Bd 4 jp from(show jp.natAbs<2^4 by lia)).mul bg).md) (Bd.mono (m:=4) (show dp.natAbs<2^4 by lia) (by decide))
 have zint:∀{x:Int},0<=x->x<=20->Sz 10 (x:Rat):=λ{x} h1 h2=>⟨show (x:Rat).num.natAbs<2^10 by rw[Wk];lia,show (((x:Rat).den:Int)).natAbs<2^10 by rw[WQ];decide⟩
 have ratI:∀{G:Hp}{e:Addr}{x:Int},G e=some (.tup [.int x,.int 1])->zp G e (x:Rat):=λ{G e x} h=>by
  unfold zp rp;rw[Wk,WQ];exact h
 have zW:Sz 90 (zC g c*(w':Rat)):=(zst.mul (zint ∅ ∅)).md
 refine zM (λσ' G=>∃rw,σ'=[Sr p,Si m,some (.int (1+d1)),Si g,Sr rl,Sr rs,Si w',Sr rpc,some (.int (1+e8)),Sr rw,none,none,none,none,none,none]/\zi G8 G/\∃v1 v2,G rw=some (.tup [v1,v2])/\xb G v1 (some (zu g j d,0))/\xb G v2 (some (zu g j d+zC g c*(w':Rat),0))) ?_ ?_
 rotate_left
 ·intro nx hnx
  refine⟨_,rL,zL2,λz1 hz1=>?_⟩
  have U1:=zi.upd (o:=.tup [.int 0,.int 1]) hz1
  have q1:zp (upd G8 z1 (.tup [.int 0,.int 1])) z1 0:=zg
  generalize upd G8 z1 (.tup [.int 0,.int 1])=K1 at U1 q1
  refine⟨zL2,λw1 hw1=>?_⟩
  have U2:=zi.upd (o:=.tup [.ref rl,.ref z1]) hw1
  have q2:upd K1 w1 (.tup [.ref rl,.ref z1]) w1=some (.tup [.ref rl,.ref z1]):=zg
  generalize upd K1 w1 (.tup [.ref rl,.ref z1])=K2 at U2 q2
  refine⟨_,rL,_,rL,_,rL,zL2,λi1 hi1=>?_⟩
  have U3:=zi.upd (o:=.tup [.int w',.int 1]) hi1
  have q3:zp (upd K2 i1 (.tup [.int w',.int 1])) i1 (w':Rat):=ratI zg
  generalize upd K2 i1 (.tup [.int w',.int 1])=K3 at U3 q3
  have U13:=U1.trans (U2.trans U3)
  refine⟨rs,i1,zC g c,(w':Rat),rL,hst8.same U13,q3,⟨zst.md,(zint ∅ ∅).md⟩,λpr K4 U4 q4=>?_⟩
  refine⟨rl,pr,zu g j d,zC g c*(w':Rat),rL,hlo8.same (U13.trans U4),q4,⟨zlo.md,zW.md⟩,λsm K5 U5 q5=>?_⟩
  refine⟨zL2,λz2 hz2=>?_⟩
  have U6:=zi.upd (o:=.tup [.int 0,.int 1]) hz2
  have q6:zp (upd K5 z2 (.tup [.int 0,.int 1])) z2 0:=zg
  generalize upd K5 z2 (.tup [.int 0,.int 1])=K6 at U6 q6
  refine⟨zL2,λw2 hw2=>?_⟩
  have U7:=zi.upd (o:=.tup [.ref sm,.ref z2]) hw2
  have q7:upd K6 w2 (.tup [.ref sm,.ref z2]) w2=some (.tup [.ref sm,.ref z2]):=zg
  generalize upd K6 w2 (.tup [.ref sm,.ref z2])=K7 at U7 q7
  refine⟨zL2,λrw9 hrw=>?_⟩
  have U8:=zi.upd (o:=.tup [.ref w1,.ref w2]) hrw
  have V38:=U3.trans (U4.trans (U5.trans (U6.trans (U7.trans U8))))
  refine hnx _ _ ⟨rw9,rL,U1.trans (U2.trans V38),.ref w1,.ref w2,zg,⟨w1,rl,z1,rL,V38 _ _ q2,hlo8.same (U1.trans (U2.trans V38)),q1.same (U2.trans V38)⟩,⟨w2,sm,z2,rL,U8 _ _ q7,q5.same (U6.trans (U7.trans U8)),q6.same (U7.trans U8)⟩⟩
 rintro σ9 G9 ⟨rw9,rfl,S9,hwalls⟩
 have T9:=T8.same S9
 have hlo9:=hlo8.same S9
 have hst9:=hst8.same S9
 have hpa9:=hpa8.same S9
 clear hlo8 hst8 hpa8
 refine⟨_,rfl,p,_,rfl,by decide,by decide,T9.pool,λe9 G10 a10 b10 t10=>?_⟩
 have T10:=T9.trans t10
 have hlo10:=t10.rat T9.pool hlo9
 have hst10:=t10.rat T9.pool hst9
 have hpa10:=t10.rat T9.pool hpa9
 have hwalls10:∃v1 v2,G10 rw9=some (.tup [v1,v2])/\xb G10 v1 (some (zu g j d,0))/\xb G10 v2 (some (zu g j d+zC g c*(w':Rat),0)):=by
  rcases q:hwalls with⟨v1,v2,h1,⟨a,b,e,r1,r2,r3,r4⟩,⟨a',b',e',r1',r2',r3',r4'⟩⟩
  exact⟨v1,v2,t10.tup T9.pool h1,⟨a,b,e,r1,t10.tup T9.pool r2,t10.rat T9.pool r3,t10.rat T9.pool r4⟩,⟨a',b',e',r1',t10.tup T9.pool r2',t10.rat T9.pool r3',t10.rat T9.pool r4'⟩⟩
 clear hlo9 hst9 hpa9 hwalls
 obtain⟨n,en⟩:∃n:Nat,(1:Int)+d1=(n:Int):=⟨(1+d1).toNat,by lia⟩
 have W0:0<zC g c*(w':Rat):=ue ((qp ∅).mpr ∅) (wX.mpr ∅)
 refine⟨rL,_,rL,qT (λ_=>?_) (λ_=>?_)⟩
 ·rw[en]
  refine⟨_,rL,_,rL,_,rL,_,rL,_,rL,zL2,λi1 hi1=>?_⟩
  have U1:=zi.upd (o:=.tup [.int w',.int 1]) hi1
  have q1:zp (upd G10 i1 (.tup [.int w',.int 1])) i1 (w':Rat):=ratI zg
  generalize upd G10 i1 (.tup [.int w',.int 1])=K1 at U1 q1
  refine⟨rs,i1,zC g c,(w':Rat),rL,hst10.same U1,q1,⟨zst.md,(zint ∅ ∅).md⟩,λpr K2 U2 q2=>?_⟩
  have U12:=U1.trans U2
  have T12:=T10.same U12
  refine⟨_,rfl,p,rl,pr,rpc,zu g j d,zC g c*(w':Rat),zu g jp dp,n,rfl,by lia,by lia,T12.pool,hlo10.same U12,q2,hpa10.same U12,zlo.md,zW.md,zpa.md,W0,λF us bs K3 t13 hF hus hR hbl hB=>?_⟩
  have szB:∀b∈bs,zdA b:=λb mb=>by
   rcases q:hB b mb with⟨_,c',h0,h8,hh⟩
   have zf:Sz 98 (qf (zC g c*(w':Rat)) c' n):=JG zW h0 ∅ ∅ ∅
   have z2:Sz 100 (zC g c*(w':Rat)*2):=(zW.mul (show Sz 4 (2:Rat)from⟨show (2:Int).natAbs<2^4 by decide,show ((1:Nat):Int).natAbs<2^4 by decide⟩)).md
   rcases hh with⟨_,h1,h2⟩ | ⟨_,h1,h2⟩
   ·refine⟨?_,by rw[h2];exact zpa.md⟩
    rw[h1];exact(zlo.add zf).md
   ·refine⟨?_,by rw[h2];exact Sz.neg' (zpa.md)⟩
    rw[h1]
    have:zC g c*(w':Rat)*2 - qf (zC g c*(w':Rat)) c' n=zC g c*(w':Rat)*2 + -qf (zC g c*(w':Rat)) c' n:=by grind
    rw[this]
    exact(zlo.add (z2.add (Sz.neg' zf))).md
  refine⟨F,us,bs,rfl,hus,hR,by lia,szB,λr us' bs' K4 U4 hr' hR' pm=>?_⟩
  refine⟨_,rL,zL2,λt ht=>?_⟩
  have U5:=zi.upd (o:=.tup [.ref r,.ref rw9]) ht
  have tu:xp G10 (upd K4 t (.tup [.ref r,.ref rw9])):=λa xs h=>U5 _ _ (U4 _ _ (t13.tup T12.pool (U12 _ _ h)))
  rcases q:hwalls10 with⟨v1,v2,hw,h1,h2⟩
  have pl:=pm.length_eq
  exact k t r rw9 us' bs' g j d c w' jp dp _ n ((T12.trans t13).same (U4.trans U5)) zg (U5 _ _ hr') (hR'.keeps (.of U5)) ∅ ∅ ∅ EG (.inl λb mb=>hB b (pm.subset mb)) ⟨v1,v2,tu _ _ hw,h1.tupsW tu,h2.tupsW tu⟩
 refine Q8 ?_
 try dsimp only
 refine zM (λσ' G=>∃F,σ'=[Sr p,Si m,some (.int (1+d1)),Si g,Sr rl,Sr rs,Si w',Sr rpc,some (.int (1+e8)),Sr rw9,Sr F,none,none,none,none,none]/\zi G10 G/\G10 F=none/\G F=some (.lst [])) ?_ ?_
 rotate_left
 ·intro nx hnx
  exact⟨by show 0<=sizeLine;lia,λF hF=>hnx _ _ ⟨F,rfl,zi.upd hF,hF,zg⟩⟩
 rintro σ11 G11 hQq;rcases q:hQq with⟨F,rfl,S11,hF10,hF11⟩
 have hFp:F≠p:=T10.pool.ne hF10
 have T11:xt p G10 G11:=(xt.refl T10.pool).same S11
 refine zM (λσ' G=>∃x11 x12 x13 x14 x15 ws cs,σ'=[Sr p,Si m,some (.int (1+d1)),Si g,Sr rl,Sr rs,Si w',Sr rpc,some (.int (1+e8)),Sr rw9,Sr F,x11,x12,x13,x14,x15]/\xt p G10 G/\G F=some (.lst ws)/\qe G ws cs/\cs.length<=n/\1<=cs.length/\∀b∈cs,GrB g j d c w' jp dp (1+e8) b/\zdA b) ?_ ?_
 rotate_left
 ·intro nx hnx
  refine⟨_,rfl,_,rfl,by lia,by lia,?_⟩
  refine ZY (n:=(1+d1).toNat) (lo:=0) (λi σ' G=>∃x11 x12 x13 x14 x15 ws cs,σ'=[Sr p,Si m,some (.int (1+d1)),Si g,Sr rl,Sr rs,Si w',Sr rpc,some (.int (1+e8)),Sr rw9,Sr F,x11,x12,x13,x14,x15]/\xt p G10 G/\G F=some (.lst ws)/\qe G ws cs/\cs.length<=i/\(1<=i->1<=cs.length)/\∀b∈cs,GrB g j d c w' jp dp (1+e8) b/\zdA b) ⟨none,none,none,none,none,[],[],rfl,T11,hF11,⟨rfl,λi v e=>by cases e⟩,wg _,λh=>by lia,λb mb=>by cases mb⟩ ?_ ?_
  ·rintro i σ' G hi hQq;rcases q:hQq with⟨x11,x12,x13,x14,x15,ws,cs,rfl,TG,hG,hR,hcl,hc1,hcs⟩
   have hi5:i<5:=by lia
   dsimp only[zG]
   refine⟨_,rfl,_,rfl,_,_,rfl,rfl,p,_,rfl,by lia,by lia,TG.pool,λat' K1 a1 b1 t1=>?_⟩
   dsimp only[zG]
   refine zM (λσ' G'=>∃ro ov,σ'=[Sr p,Si m,some (.int (1+d1)),Si g,Sr rl,Sr rs,Si w',Sr rpc,some (.int (1+e8)),Sr rw9,Sr F,some (.int (0+(i:Int))),Si at',Sr ro,x14,x15]/\xt p G G'/\zp G' ro ov/\GrS g jp dp ov/\Sz 80 ov) ?_ ?_
   rotate_left
   ·intro nx2 hnx2
    refine⟨_,rfl,p,_,rfl,by decide,by decide,t1.pool,λe1 K2 a2 b2 t2=>⟨_,_,rfl,rfl,_,rfl,_,_,rfl,rfl,⟨b71 ∅ ∅,bg'⟩,?_⟩⟩
    have t12:=t1.trans t2
    refine⟨_,rfl,p,_,rfl,by decide,by decide,t12.pool,λe2 K3 a3 b3 t3=>⟨_,_,rfl,rfl,_,_,rfl,(bi ∅ ∅).1,(bi ∅ ∅).2,λro K4 s4 ho=>?_⟩⟩
    refine hnx2 _ _ ⟨ro,zu g (e1 - 6) (1+e2),rfl,(t12.trans t3).same s4,ho,.inr (.inr (.inr ⟨e1 - 6,1+e2,by lia,by lia,by lia,rfl⟩)),?_⟩
    exact .divInt ∅ (((show Bd 4 (e1 - 6)from(show (e1 - 6).natAbs<2^4 by lia)).mul bg).md) (Bd.mono (m:=4) (show (1+e2).natAbs<2^4 by lia) (by decide))
   rintro σ12 K1' hQq;rcases q:hQq with⟨ro,ov,rfl,u1,hro,gro,zro⟩
   clear t1
   have TK:=TG.trans u1
   have hpaK:zp K1' rpc (zu g jp dp):=TK.rat T10.pool hpa10
   refine zM (λσ' G'=>∃rq qv,σ'=[Sr p,Si m,some (.int (1+d1)),Si g,Sr rl,Sr rs,Si w',Sr rpc,some (.int (1+e8)),Sr rw9,Sr F,some (.int (0+(i:Int))),Si at',Sr ro,Sr rq,x15]/\xt p K1' G'/\zp G' rq qv/\GrS g jp dp qv/\Sz 80 qv) ?_ ?_
   rotate_left
   ·intro nx2 hnx2
    refine⟨_,rL,_,rL,_,rL,zL2,λm1 hm1=>?_⟩
    have V1:=zi.upd (o:=.tup [.int (-1),.int 1]) hm1
    have q1:zp (upd K1' m1 (.tup [.int (-1),.int 1])) m1 (-1):=zg
    refine⟨rpc,m1,_,-1,rL,hpaK.same V1,q1,⟨zpa.md,zaL⟩,λnp K2 V2 q2=>?_⟩
    refine⟨zL2,λz9 hz9=>?_⟩
    have V3:=zi.upd (o:=.tup [.int 0,.int 1]) hz9
    have q3:zp (upd K2 z9 (.tup [.int 0,.int 1])) z9 0:=zg
    generalize upd K2 z9 (.tup [.int 0,.int 1])=K3 at V3 q3
    refine⟨_,rL,zL4,λl9 hl9=>?_⟩
    have V4:=zi.upd (o:=.lst [.ref rpc,.ref np,.ref z9,.ref ro]) hl9
    have V14:=V1.trans (V2.trans (V3.trans V4))
    have u14:=u1.same V14
    refine⟨_,rfl,p,_,rfl,by decide,by decide,u14.pool,λe4 K5 a4 b4 t4=>?_⟩
    have hl:=t4.keep l9 _ zg ((u1.same (V1.trans (V2.trans V3))).pool.ne hl9)
    obtain⟨y,ey,hy⟩:=zbh (u:=V.ref rpc) (v:=.ref np) (x:=.ref z9) (w:=.ref ro) a4 b4
    have fin:∀{e:Addr}{v:Rat},zp K3 e v->zp K5 e v:=λh=>t4.rat u14.pool (h.same V4)
    refine⟨l9,_,_,_,rL,rL,.of hl,ey,?_⟩
    have st:xt p K1' K5:=t4.pre V14
    rcases hy with rfl | rfl | rfl | rfl
    ·exact hnx2 _ _ ⟨rpc,_,rL,st,fin (hpaK.same (V1.trans (V2.trans V3))),.inl rL,zpa⟩
    ·refine hnx2 _ _ ⟨np,-zu g jp dp,rL,st,fin ?_,.inr (.inl rL),Sz.neg' zpa⟩
     have:=q2.same V3
     rw[show -zu g jp dp=zu g jp dp*(-1) by grind];exact this
    ·exact hnx2 _ _ ⟨z9,0,rfl,st,fin q3,.inr (.inr (.inl rfl)),⟨by show Bd 80 0;exact(show (0:Int).natAbs<2^80 by decide),by show Bd 80 1;exact(show (1:Int).natAbs<2^80 by decide)⟩⟩
    ·exact hnx2 _ _ ⟨ro,ov,rL,st,fin (hro.same (V1.trans (V2.trans V3))),gro,zro⟩
   rintro σ13 K2 hQq;rcases q:hQq with⟨rq,qv,rfl,u2,hrq,grq,zrq⟩
   refine zM (λσ' G'=>∃r2 v2,σ'=[Sr p,Si m,some (.int (1+d1)),Si g,Sr rl,Sr rs,Si w',Sr rpc,some (.int (1+e8)),Sr rw9,Sr F,some (.int (0+(i:Int))),Si at',Sr ro,Sr r2,x15]/\zi K2 G'/\zp G' r2 v2/\GrS g jp dp v2/\Sz 80 v2/\(at'=0->0<=v2)/\(at'=w'->v2<=0)) ?_ ?_
   rotate_left
   ·intro nx2 hnx2
    have nt:(at'=0->0<=qv)->(at'=w'->qv<=0)->nx2 [some (.ref p),some (.int m),some (.int (1+d1)),some (.int g),some (.ref rl),some (.ref rs),some (.int w'),some (.ref rpc),some (.int (1+e8)),some (.ref rw9),some (.ref F),some (.int (0+(i:Int))),some (.int at'),some (.ref ro),some (.ref rq),x15] K2:=λh1 h2=>hnx2 _ _ ⟨rq,qv,rfl,zi.refl _,hrq,grq,zrq,h1,h2⟩
    refine⟨_,rL,rL,_,rL,qT (λc1=>?_) (λc1=>?_)⟩
    ·have z0:at'=0:=V.int.inj (wG c1)
     refine⟨_,rL,rq,_,_,_,rL,rL,.of hrq,at0 ..,_,_,rL,rL,_,rL,qT (λc2=>?_) (λc2=>?_)⟩
     ·have l0:qv<0:=JM.mp (wG c2)
      refine xw ?_
      refine⟨_,rL,_,rL,zL2,λe1 he1=>?_⟩
      have V1:=zi.upd (o:=.tup [.int (-1),.int 1]) he1
      have q1:zp (upd K2 e1 (.tup [.int (-1),.int 1])) e1 (-1):=zg
      refine⟨rq,e1,qv,-1,rL,hrq.same V1,q1,⟨zrq.md,zaL⟩,λr2 K3 V2 q2=>?_⟩
      exact hnx2 _ _ ⟨r2,-qv,rfl,V1.trans V2,by rw[show -qv=qv*(-1) by grind];exact q2,grq.neg,Sz.neg' zrq,(λ_=>by grind),(λe=>by lia)⟩
     ·have l0:¬qv<0:=λz=>c2 (wm (JM.mpr z))
      refine⟨_,rL,_,rL,rL,_,rL,qT (λc3=>?_) (λc3=>?_)⟩
      ·have:at'=w':=V.int.inj (wG c3)
       lia
      ·exact xc (nt (λ_=>by grind) (λe=>by lia))
    ·have z0:¬at'=0:=λe=>c1 (wm (by rw[e]))
     refine xc ⟨_,rL,_,rL,rL,_,rL,qT (λc3=>?_) (λc3=>?_)⟩
     ·refine⟨_,rL,rq,_,_,_,rL,rL,.of hrq,at0 ..,_,_,rL,rL,_,rL,qT (λc4=>?_) (λc4=>?_)⟩
      ·have l0:0<qv:=zb8.mp (wG c4)
       refine⟨_,rL,_,rL,zL2,λe1 he1=>?_⟩
       have V1:=zi.upd (o:=.tup [.int (-1),.int 1]) he1
       have q1:zp (upd K2 e1 (.tup [.int (-1),.int 1])) e1 (-1):=zg
       refine⟨rq,e1,qv,-1,rL,hrq.same V1,q1,⟨zrq.md,zaL⟩,λr2 K3 V2 q2=>?_⟩
       exact hnx2 _ _ ⟨r2,-qv,rfl,V1.trans V2,by rw[show -qv=qv*(-1) by grind];exact q2,grq.neg,Sz.neg' zrq,(λe=>absurd e z0),(λ_=>by grind)⟩
      ·have l0:¬ 0<qv:=λz=>c4 (wm (zb8.mpr z))
       exact nt (λe=>absurd e z0) (λ_=>by grind)
     ·have w0:¬at'=w':=λe=>c3 (wm (by rw[e]))
      exact xc (nt (λe=>absurd e z0) (λe=>absurd e w0))
   rintro σ14 K3 hQq;rcases q:hQq with⟨r2,v2,rfl,S3,h2,gr2,z2,at0',atw⟩
   have tu3:xp G10 K3:=λa xs h=>S3 _ _ (u2.tup u1.pool (TK.tup T10.pool h))
   have hlo3:zp K3 rl (zu g j d):=tu3 _ _ hlo10
   have hst3:zp K3 rs (zC g c):=tu3 _ _ hst10
   have UU:xt p G K3:=(u1.trans u2).same S3
   have hR3:qe K3 ws cs:=hR.keeps (λa xs h=>UU.tup TG.pool h)
   have hG3:K3 F=some (.lst ws):=UU.keep _ _ hG hFp
   have hat:0<=at'/\at'<=w':=by lia
   refine zM (λσ' G'=>∃rb,σ'=[Sr p,Si m,some (.int (1+d1)),Si g,Sr rl,Sr rs,Si w',Sr rpc,some (.int (1+e8)),Sr rw9,Sr F,some (.int (0+(i:Int))),Si at',Sr ro,Sr r2,Sr rb]/\zi K3 G'/\XL G' (.ref rb) ⟨zu g j d+zC g c*(at':Rat),v2,1+e8⟩) ?_ ?_
   rotate_left
   ·intro nx2 hnx2
    refine⟨_,rL,_,rL,_,rL,zL2,λi1 hi1=>?_⟩
    have V1:=zi.upd (o:=.tup [.int at',.int 1]) hi1
    have q1:zp (upd K3 i1 (.tup [.int at',.int 1])) i1 (at':Rat):=ratI zg
    generalize upd K3 i1 (.tup [.int at',.int 1])=K4 at V1 q1
    refine⟨rs,i1,_,_,rL,hst3.same V1,q1,⟨zst.md,(zint ∅ ∅).md⟩,λpr K5 V2 q2=>?_⟩
    refine⟨rl,pr,_,_,rL,hlo3.same (V1.trans V2),q2,⟨zlo.md,(zst.mul (zint ∅ ∅)).md⟩,λsm K6 V3 q3=>?_⟩
    refine⟨_,rL,_,rL,zL3,λrb hrb=>?_⟩
    have V4:=zi.upd (o:=.tup [.ref sm,.ref r2,.int (1+e8)]) hrb
    exact hnx2 _ _ ⟨rb,rL,V1.trans (V2.trans (V3.trans V4)),rb,sm,r2,rL,zg,q3.same V4,h2.same (V1.trans (V2.trans (V3.trans V4)))⟩
   rintro σ15 K4 ⟨rb,rfl,S4,hbl⟩
   have hG4:=S4 _ _ hG3
   have hR4:=hR3.keeps (.of S4)
   have UU4:xt p G10 K4:=(TG.trans UU).same S4
   have lays1:PyData.canLayAll0 (cs.map blD)=true:=(zcZ (n:=2) λdd md=>by obtain⟨b,_,rfl⟩:=wn.mp md;exact zbb b).1
   have wl:=hR.1
   have gb:GrB g j d c w' jp dp (1+e8) ⟨zu g j d+zC g c*(at':Rat),v2,1+e8⟩:=⟨rfl,at',hat.1,hat.2,rfl,gr2,at0',atw⟩
   have zb:zdA ⟨zu g j d+zC g c*(at':Rat),v2,1+e8⟩:=⟨(zlo.add (zst.mul (zint ∅ ∅))).md,z2.md⟩
   refine⟨_,rfl,_,rfl,blD _,cs.map blD,2,XL.rdD hbl,.lst hG4 (zci hR4),lays1,(zbb _).1,(zbb _).2,by decide,_,rfl,?_⟩
   cases hb:(!(cs.map blD).any λe=>PyData.eqv e (blD ⟨zu g j d+zC g c*(at':Rat),v2,1+e8⟩))with
   | true =>
    refine xw ⟨_,rL,.inl ⟨rL,_,SqL.of hG4⟩,_,rL,F,ws,_,rL,rL,hG4,szl ∅,?_⟩
    refine⟨_,_,_,_,_,_,cs++[⟨zu g j d+zC g c*(at':Rat),v2,1+e8⟩],rL,?_,zg,(hR4.snoc hbl).keeps (xp.upd hG4),?_,λ_=>?_,λb mb=>?_⟩
    ·refine⟨?_,λb o e ne=>?_⟩
     ·obtain⟨x,y,z,e⟩:=UU4.pool
      exact⟨x,y,z,by rw[zO (Ne.symm hFp)];exact e⟩
     ·rw[zO (zQ e hF10)];exact UU4.keep _ _ e ne
    ·rw[wI,uf];lia
    ·rw[wI,uf];lia
    ·rcases wQ.mp mb with mb | mb
     ·exact hcs b mb
     ·rw[wD.mp mb];exact⟨gb,zb⟩
   | false =>
    refine xc ⟨_,_,_,_,_,ws,cs,rfl,UU4,hG4,hR4,by lia,λ_=>?_,hcs⟩
    rcases uD cs.length with c0 | c0
    ·rw[yX.mp c0]at hb;cases hb
    ·exact c0
  ·rintro σ' G hQq;rcases q:hQq with⟨x11,x12,x13,x14,x15,ws,cs,rfl,TG,hG,hR,hcl,hc1,hcs⟩
   exact hnx _ _ ⟨x11,x12,x13,x14,x15,ws,cs,rfl,TG,hG,hR,by lia,hc1 ∅,hcs⟩
 rintro σ13 G13 hQq;rcases q:hQq with⟨x11,x12,x13,x14,x15,ws,cs,rfl,TG,hG,hR,hcl,hc1,hcs⟩
 refine⟨_,rfl,F,ws,cs,rfl,hG,hR,by lia,λb mb=>(hcs b mb).2,λr us' bs' K4 U4 hr' hR' pm=>?_⟩
 refine⟨_,rL,zL2,λt ht=>?_⟩
 have U5:=zi.upd (o:=.tup [.ref r,.ref rw9]) ht
 have tu:xp G10 (upd K4 t (.tup [.ref r,.ref rw9])):=λa xs h=>U5 _ _ (U4 _ _ (TG.tup T10.pool h))
 rcases q:hwalls10 with⟨v1,v2,hw,h1,h2⟩
 have pl:=pm.length_eq
 exact k t r rw9 us' bs' g j d c w' jp dp _ n ((T10.trans TG).same (U4.trans U5)) zg (U5 _ _ hr') (hR'.keeps (.of U5)) ∅ ∅ ∅ EG (.inr ⟨1+e8,λb mb=>(hcs b (pm.subset mb)).1⟩) ⟨v1,v2,tu _ _ hw,h1.tupsW tu,h2.tupsW tu⟩
theorem vj {A B:Int}{n m:Nat}(hB:0<B) (hA:Bd n A) (hb:Bd m B) (hm:m<=n):Bd n (Rat.divInt A B).num/\Bd m ((Rat.divInt A B).den:Int):=by
 refine⟨(Sz.divInt ∅ hA (hb.mono hm)).1,hb.of_le ?_⟩
 have:=JE (t:=A) (b:=B) ∅
 lia
theorem zcp {g j d c t:Int}(hd:0<d) (hc:0<c):zu g j d+zC g c*(t:Rat)=Rat.divInt (g*(j*c+t*d)) (d*c):=by
 unfold zu zC
 rw[xZ,xZ,xZ,wu,wu,wu,Ub,wu,wu]
 have d1:=zR (show d≠0 by lia)
 have d2:=zR (show c≠0 by lia)
 generalize (g:Rat)=g' at *
 generalize (j:Rat)=j' at *
 generalize (d:Rat)=d' at *
 generalize (c:Rat)=c' at *
 generalize (t:Rat)=t' at *
 grind
theorem zdZ {g j d c w e n:Int}(hd:0<d) (hc:0<c) (hn:0<n):zu g j d+qf (zC g c*(w:Rat)) e n=Rat.divInt (g*(j*(c*(4*n))+w*e*d)) (d*(c*(4*n))):=by
 have hN:0<4*n:=by lia
 unfold zu zC qf
 generalize 4*n=N at *
 have d1:=zR (show d≠0 by lia)
 have d2:=zR (show c≠0 by lia)
 have d3:=zR (show N≠0 by lia)
 simp only[xZ,wu,Ub]
 generalize (g:Rat)=g' at *
 generalize (j:Rat)=j' at *
 generalize (d:Rat)=d' at *
 generalize (c:Rat)=c' at *
 generalize (w:Rat)=w' at *
 generalize (e:Rat)=e' at *
 generalize (N:Rat)=n' at *
 grind
theorem zdY {W:Rat}{e n:Int}(hn:0<n):W*2 - qf W e n=qf W (8*n - e) n:=by
 unfold qf
 rw[xZ,xZ,Rat.intCast_sub,wu,wu]
 have d2:=zR (show n≠0 by omega)
 have d4:((4:Int):Rat)=4:=rfl
 have d8:((8:Int):Rat)=8:=rfl
 rw[d4,d8]
 generalize (n:Rat)=n' at *
 generalize (e:Rat)=e' at *
 grind
theorem zdX {g k e:Int}(hg:0<g) (hk:0<k) (he:0<e):0<zu g k e:=(qp he).mpr (wW hk hg)
theorem zhY {g k e f:Int}(he:0<e) (h:e*f=6):zu g k e=((k*f:Int):Rat)*Rat.divInt g 6:=by
 unfold zu
 rw[xZ,xZ,wu,wu]
 have h':(e:Rat)*(f:Rat)=((6:Int):Rat):=by rw[<-wu,h]
 have d1:=zR (show e≠0 by lia)
 rw[<-h']
 have d2:=zR (show f≠0 by intro z;rw[z]at h;lia)
 generalize (g:Rat)=g' at *
 generalize (k:Rat)=k' at *
 generalize (e:Rat)=e' at *
 generalize (f:Rat)=f' at *
 grind
structure BlF (lo hi:Rat) (u:Rat) (b:Bl):Prop where
 p:Bd 100 b.pl.num/\Bd 12 (b.pl.den:Int)
 s:Bd 80 b.sp.num/\Bd 13 (b.sp.den:Int)
 i:lo<=b.pl/\b.pl<=hi
 o:b.sp<0->lo<b.pl
 k:b.sp≠0->∃k:Nat,1<=k/\k<=36/\(b.sp=((k:Int):Rat)*u\/b.sp = -(((k:Int):Rat)*u))
section
variable {g j d c w jp dp:Int}
theorem EvG.pos (h:EvG g j d c w jp dp):0<g/\0<d/\0<c/\0<dp:=⟨by have:=h.g1;lia,by have:=h.d;lia,by have:=h.c;lia,by have:=h.dp;lia⟩
theorem zjm {k e:Int}(hg:0<g) (hk : -6<=k/\k<=6) (he:e=1\/e=2\/(e=3 ∧ -5<=k/\k<=5)) (h0:zu g k e≠0):∃n:Nat,1<=n/\n<=36/\(zu g k e=((n:Int):Rat)*Rat.divInt g 6\/zu g k e = -(((n:Int):Rat)*Rat.divInt g 6)):=by
 obtain⟨f,he0,hf,f6⟩:∃f:Int,0<e/\e*f=6/\(f=6\/f=3\/f=2):=by
  rcases he with rfl | rfl | ⟨rfl,_⟩
  ·exact⟨6,by decide,by decide,.inl rfl⟩
  ·exact⟨3,by decide,by decide,.inr (.inl rfl)⟩
  ·exact⟨2,by decide,by decide,.inr (.inr rfl)⟩
 have e1:=zhY (g:=g) (k:=k) he0 hf
 have k0:k≠0:=λz=>h0 (by rw[e1,z,WE];show (0:Rat)*_=0;rw[Ua])
 have hb : -36<=k*f/\k*f<=36/\k*f≠0:=by
  rcases f6 with rfl | rfl | rfl <;> lia
 refine⟨(k*f).natAbs,by lia,by lia,?_⟩
 rcases yQ 0 (k*f)with z | z
 ·exact .inl (by rw[e1,show (((k*f).natAbs:Nat):Int)=k*f by lia])
 ·refine .inr ?_
  rw[e1,show (((k*f).natAbs:Nat):Int) = -(k*f) by lia,WP]
  grind
theorem zfr {k e:Int}(g1:1<=g) (g2:g<=1000000000000000000000) (hk : -6<=k/\k<=6) (he:1<=e/\e<=3):Bd 80 (zu g k e).num/\Bd 13 ((zu g k e).den:Int):=by
 have bg:=gBd g1 g2
 exact vj ∅ (((show Bd 4 k from(show k.natAbs<2^4 by lia)).mul bg).md) (show e.natAbs<2^13 by lia) (by decide)
theorem GrS.fit (h:EvG g j d c w jp dp){v:Rat}(hv:GrS g jp dp v):(Bd 80 v.num/\Bd 13 (v.den:Int))/\(v≠0->∃k:Nat,1<=k/\k<=36/\(v=((k:Int):Rat)*Rat.divInt g 6\/v = -(((k:Int):Rat)*Rat.divInt g 6))):=by
 have hp:=h.pos
 have hjp:=h.jp
 have hdp:=h.dp
 rcases hv with rfl | rfl | rfl | ⟨k,e,k1,k2,he,rfl⟩
 ·exact⟨zfr h.g1 h.g2 ∅ ∅,λz=>zjm hp.1 ∅ ∅ z⟩
 ·rw[zag]
  exact⟨zfr h.g1 h.g2 ∅ ∅,λz=>zjm hp.1 ∅ ∅ z⟩
 ·exact⟨⟨by show Bd 80 0;exact(show (0:Int).natAbs<2^80 by decide),by show Bd 13 1;exact(show (1:Int).natAbs<2^13 by decide)⟩,λz=>absurd rfl z⟩
 ·exact⟨zfr h.g1 h.g2 ⟨k1,k2⟩ ∅,λz=>zjm hp.1 ⟨k1,k2⟩ ∅ z⟩
theorem GrB.fit (h:EvG g j d c w jp dp){wt:Int}{b:Bl}(hb:GrB g j d c w jp dp wt b):BlF (zu g j d) (zu g j d+zC g c*(w:Rat)) (Rat.divInt g 6) b:=by
 obtain⟨_,t,t0,tw,e1,hs,h1,h2⟩:=hb
 have hp:=h.pos
 have hj:=h.j
 have hd:=h.d
 have hc:=h.c
 have hw:=h.w
 have bg:=gBd h.g1 h.g2
 have S0:0<zC g c:=(qp hp.2.2.1).mpr hp.1
 have f:=GrS.fit h hs
 have t0':(0:Rat)<=(t:Rat):=YA.mpr t0
 have tw':(t:Rat)<=(w:Rat):=yY.mpr tw
 have m1:=Uf (ut S0) t0'
 have m2:=u8 tw' (ut S0)
 refine⟨?_,f.1,by rw[e1];constructor <;> grind,λhn=>?_,f.2⟩
 ·rw[e1,zcp hp.2.1 hp.2.2.1]
  refine vj (wW hp.2.1 hp.2.2.1) ((bg.mul (show Bd 10 (j*c+t*d)from ?_)).md) ?_ (by decide)
  ·show (j*c+t*d).natAbs<2^10
   rcases hc with rfl | rfl | rfl <;> rcases hd with rfl | rfl <;> lia
  ·show (d*c).natAbs<2^12
   rcases hc with rfl | rfl | rfl <;> rcases hd with rfl | rfl <;> decide
 ·have t1:0<t:=by
   rcases yQ 0 t with z | z
   ·exact z
   ·have:=h1 ∅;grind
  have:=ue S0 (wX.mpr t1)
  rw[e1];grind
theorem zd2 {W:Rat}{e n:Int}(hW:0<W) (hn:0<n) (h:0<=e):0<=qf W e n:=Uf (ut hW) (zcP ∅ h)
theorem zf2 {W:Rat}{e n:Int}(hW:0<W) (hn:0<n) (h:0<e):0<qf W e n:=ue hW ((qp ∅).mpr h)
theorem zd0 {W:Rat}{e n:Int}(hW:0<W) (hn:0<n) (h:e<=4*n):qf W e n<=W:=by
 rcases yQ e (4*n)with z | z
 ·exact ut ((zd1 hW hn).mpr z)
 ·have e1:e=4*n:=by lia
  have e2:Rat.divInt (4*n) (4*n)=1:=by
   rw[xZ]
   have:=zR (show 4*n≠0 by lia)
   generalize ((4*n:Int):Rat)=a at *
   grind
  unfold qf
  rw[e1,e2]
  grind
theorem EvG.W0 (h:EvG g j d c w jp dp):0<zC g c*(w:Rat):=by
 have hp:=h.pos
 have:=h.w
 exact ue ((qp hp.2.2.1).mpr hp.1) (wX.mpr ∅)
theorem SpB.fit (h:EvG g j d c w jp dp){n:Nat}(n1:1<=n) (n5:n<=5){b:Bl}(hb:SpB (zu g j d) (zC g c*(w:Rat)) (zu g jp dp) n b):BlF (zu g j d) (zu g j d+zC g c*(w:Rat)) (Rat.divInt g 6) b:=by
 have hp:=h.pos
 have hj:=h.j
 have hd:=h.d
 have hc:=h.c
 have hw:=h.w
 have hjp:=h.jp
 have bg:=gBd h.g1 h.g2
 have W0:=h.W0
 have v0:0<zu g jp dp:=zdX hp.1 (by omega) hp.2.2.2
 obtain⟨_,e,e0,e8,hh⟩:=hb
 obtain⟨e',h0,h4,e1,hs,ho⟩:∃e':Int,0<=e'/\e'<=4*(n:Int)/\b.pl=zu g j d+qf (zC g c*(w:Rat)) e' n/\GrS g jp dp b.sp/\(b.sp<0->0<e'):=by
  rcases hh with⟨k1,k2,k3⟩ | ⟨k1,k2,k3⟩
  ·exact⟨e,e0,by omega,k2,.inl k3,λz=>by rw[k3]at z;grind⟩
  ·exact⟨8*n - e,by omega,by omega,by rw[k2,zdY (by omega)],.inr (.inl k3),λ_=>by omega⟩
 have f:=GrS.fit h hs
 have nn:=zd2 (n:=(n:Int)) W0 (by omega) h0
 have le:=zd0 (n:=(n:Int)) W0 (by omega) h4
 refine⟨?_,f.1,by rw[e1];constructor <;> grind,λhn=>?_,f.2⟩
 ·rw[e1,zdZ hp.2.1 hp.2.2.1 (by omega)]
  have n12345:n=1\/n=2\/n=3\/n=4\/n=5:=by omega
  have bw:Bd 10 (w*e'):=(show Bd 4 w from(show w.natAbs<2^4 by omega)).mul (show Bd 6 e' from(show e'.natAbs<2^6 by omega))
  refine vj (wW hp.2.1 (wW hp.2.2.1 (by omega))) ((bg.mul (show Bd 13 (j*(c*(4*n))+w*e'*d)from ?_)).md) ?_ (by decide)
  ·have bw':(w*e').natAbs<2^10:=bw
   show (j*(c*(4*(n:Int)))+w*e'*d).natAbs<2^13
   generalize w*e'=x at *
   rcases n12345 with rfl | rfl | rfl | rfl | rfl <;> rcases hc with rfl | rfl | rfl <;> rcases hd with rfl | rfl <;> omega
  ·show (d*(c*(4*(n:Int)))).natAbs<2^12
   rcases n12345 with rfl | rfl | rfl | rfl | rfl <;> rcases hc with rfl | rfl | rfl <;> rcases hd with rfl | rfl <;> decide
 ·have:=zf2 (n:=(n:Int)) W0 (by omega) (ho hn)
  rw[e1];grind
theorem EvB.fit (h:EvG g j d c w jp dp){n:Nat}(n1:1<=n) (n5:n<=5){bs:List Bl}(hb:EvB g j d c w jp dp n bs):(∀b∈bs,BlF (zu g j d) (zu g j d+zC g c*(w:Rat)) (Rat.divInt g 6) b)/\∃wt,∀b∈bs,b.wt=wt:=by
 rcases hb with hb | ⟨wt,hb⟩
 ·exact⟨λb m=>SpB.fit h n1 n5 (hb b m),7,λb m=>(hb b m).1⟩
 ·exact⟨λb m=>GrB.fit h (hb b m),wt,λb m=>(hb b m).1⟩
theorem zjC {lo:Rat}{k:Int}(hg:0<g) (hc:0<c) (hk:0<k):2*(lo+zC g c*(w:Rat) - lo)/((k:Rat)*Rat.divInt g 6)=Rat.divInt (12*w) (c*k):=by
 unfold zC
 have d1:=zR (show g≠0 by lia)
 have d2:=zR (show c≠0 by lia)
 have d3:=zR (show k≠0 by lia)
 simp only[xZ,wu]
 have e6:((6:Int):Rat)=6:=rfl
 have e12:((12:Int):Rat)=12:=rfl
 rw[e6,e12]
 generalize (g:Rat)=g' at *
 generalize (c:Rat)=c' at *
 generalize (w:Rat)=w' at *
 generalize (k:Rat)=k' at *
 grind
theorem za9 {u v:Rat}{k k':Nat}(hu:0<u) (k1:1<=k') (h:v=((k:Int):Rat)*u\/v = -(((k:Int):Rat)*u)) (h':v=((k':Int):Rat)*u\/v = -(((k':Int):Rat)*u)):k=k':=by
 have p0:(0:Rat)<=((k:Int):Rat):=YA.mpr ∅
 have p1:(0:Rat)<((k':Int):Rat):=wX.mpr ∅
 have m0:=Uf p0 (ut hu)
 have m1:=ue p1 hu
 have e:((k:Int):Rat)*u=((k':Int):Rat)*u:=by
  rcases h with h | h <;> rcases h' with h' | h'
  ·rw[<-h,<-h']
  ·exfalso;rw[h]at h';grind
  ·exfalso;rw[h]at h';grind
  ·rw[h]at h';grind
 have e2:((k:Int):Rat)=((k':Int):Rat):=by
  have un:u≠0:=by grind
  clear m0 m1 p0 p1 h h'
  generalize ((k:Int):Rat)=a at *
  generalize ((k':Int):Rat)=b at *
  grind
 have:=uA.mp e2
 lia
theorem zhZ (h:EvG g j d c w jp dp){bs:List Bl}(l1:1<=bs.length) (l5:bs.length<=5) (hf:∀b∈bs,BlF (zu g j d) (zu g j d+zC g c*(w:Rat)) (Rat.divInt g 6) b){wt:Int}(hwt:∀b∈bs,b.wt=wt) :
  RwZ bs (zu g j d,0) (zu g j d+zC g c*(w:Rat),0)/\RwU bs (zu g j d,0) (zu g j d+zC g c*(w:Rat),0) (Rat.divInt g 6) 36 ∧
  ∃b0,bs[0]? = some b0/\plB (tb b0) (bs.map tb) (some (zu g j d,0)) (some (zu g j d+zC g c*(w:Rat),0))=true:=by
 have hp:=h.pos
 have hj:=h.j
 have hd:=h.d
 have hc:=h.c
 have hw:=h.w
 have bg:=gBd h.g1 h.g2
 have W0:=h.W0
 have b0:Bd 80 (0:Rat).num/\Bd 13 ((0:Rat).den:Int):=⟨by show Bd 80 0;exact(show (0:Int).natAbs<2^80 by decide),by show Bd 13 1;exact(show (1:Int).natAbs<2^13 by decide)⟩
 have blo:Bd 100 (zu g j d).num/\Bd 12 ((zu g j d).den:Int):=vj hp.2.1 (((show Bd 4 j from(show j.natAbs<2^4 by lia)).mul bg).md) (show d.natAbs<2^12 by lia) (by decide)
 have bhi:Bd 100 (zu g j d+zC g c*(w:Rat)).num/\Bd 12 ((zu g j d+zC g c*(w:Rat)).den:Int):=by
  rw[zcp hp.2.1 hp.2.2.1]
  refine vj (wW hp.2.1 hp.2.2.1) ((bg.mul (show Bd 10 (j*c+w*d)from ?_)).md) ?_ (by decide)
  ·show (j*c+w*d).natAbs<2^10
   rcases hc with rfl | rfl | rfl <;> rcases hd with rfl | rfl <;> lia
  ·show (d*c).natAbs<2^12
   rcases hc with rfl | rfl | rfl <;> rcases hd with rfl | rfl <;> decide
 have mem:∀t∈ths bs (some (zu g j d,0)) (some (zu g j d+zC g c*(w:Rat),0)),(∃b∈bs,t=(b.pl,b.sp))\/t=(zu g j d,0)\/t=(zu g j d+zC g c*(w:Rat),0):=λt m=>by
  unfold ths at m
  rcases wQ.mp m with m | m
  ·obtain⟨b,mb,rfl⟩:=wn.mp m;exact .inl ⟨b,mb,rfl⟩
  ·simp only[XZ,wQ,wD]at m
   rcases m with m | m
   ·exact .inr (.inl m)
   ·exact .inr (.inr m)
 refine⟨⟨λt m=>?_,λt m=>?_,by lia,by show zu g j d<zu g j d+zC g c*(w:Rat);grind,λb m=>(hf b m).i,λb m=>(hf b m).o⟩,⟨(qp (by decide)).mpr hp.1,by decide,λb m=>(hf b m).k,?_,λb m b0 k hk=>?_⟩,?_⟩
 ·rcases mem t m with⟨b,mb,rfl⟩ | rfl | rfl
  ·exact(hf b mb).p
  ·exact blo
  ·exact bhi
 ·rcases mem t m with⟨b,mb,rfl⟩ | rfl | rfl
  ·exact(hf b mb).s
  ·exact b0
  ·exact b0
 ·have e:=zjC (lo:=zu g j d) (w:=w) (k:=1) hp.1 hp.2.2.1 (by decide)
  have e1:((1:Int):Rat)=1:=rfl
  rw[e1,Rat.one_mul]at e
  show Bd 20 (2*(zu g j d+zC g c*(w:Rat) - zu g j d)/Rat.divInt g 6).num
  rw[e]
  exact(vj (n:=20) (m:=20) ∅ (show (12*w).natAbs<2^20 by lia) (show (c*1).natAbs<2^20 by lia) (by decide)).1
 ·obtain⟨k',k1,k36,hk'⟩:=(hf b m).k b0
  have u0:0<Rat.divInt g 6:=(qp (by decide)).mpr hp.1
  have ek:=za9 u0 k1 hk hk'
  subst ek
  show Bd 20 ((2*(zu g j d+zC g c*(w:Rat) - zu g j d)/(((k:Int):Rat)*Rat.divInt g 6)).den:Int)
  rw[zjC hp.1 hp.2.2.1 ∅]
  have bc:Bd 20 (c*(k:Int)):=((show Bd 4 c from(show c.natAbs<2^4 by lia)).mul (show Bd 6 (k:Int)from(show (k:Int).natAbs<2^6 by lia))).md
  exact(vj (n:=20) (m:=20) (wW hp.2.2.1 ∅) (show (12*w).natAbs<2^20 by lia) bc (by decide)).2
 ·match bs,l1 with
  | b::r,_ =>
   refine⟨b,rL,?_⟩
   unfold plB evB
   rw[uN,Y2]
   refine⟨λt mt=>?_,?_⟩
   ·obtain⟨x,mx,rfl⟩:=wn.mp mt
    show decide (x.wt=b.wt)=true
    rw[hwt x mx,hwt b wH];exact wm rfl
   ·show (decide ((0:Rat)=0)&&decide ((0:Rat)=0))=true
    rw[wm rfl];rfl
end
theorem zes {d:Int}{u v x:V}(h0:0<=d) (h1:d<3):∃y,atI [u,v,x] d=some y/\(y=u\/y=v\/y=x):=by
 have:d=0\/d=1\/d=2:=by lia
 rcases this with rfl | rfl | rfl
 ·exact⟨_,rL,.inl rL⟩
 ·exact⟨_,rL,.inr (.inl rL)⟩
 ·exact⟨_,rL,.inr (.inr rL)⟩
structure EvA (H:Hp) (r a:Addr) (us:List V) (bs:List Bl) (g j d c w jp dp:Int):Prop where
 r:H r=some (.tup us)
 R:qe H us bs
 l1:1<=bs.length
 l5:bs.length<=5
 G:EvG g j d c w jp dp
 F:∀b∈bs,BlF (zu g j d) (zu g j d+zC g c*(w:Rat)) (Rat.divInt g 6) b
 wt:∃wt,∀b∈bs,b.wt=wt
 W:∃v1 v2,H a=some (.tup [v1,v2])/\xb H v1 (some (zu g j d,0))/\xb H v2 (some (zu g j d+zC g c*(w:Rat),0))
theorem EvA.tups {H H':Hp}{r a:Addr}{us:List V}{bs:List Bl}{g j d c w jp dp:Int}(h:EvA H r a us bs g j d c w jp dp) (t:xp H H'):EvA H' r a us bs g j d c w jp dp:=by
 obtain⟨h1,h2,h3,h4,h5,h6,hw,v1,v2,h7,h8,h9⟩:=h
 exact⟨t _ _ h1,h2.keeps t,h3,h4,h5,h6,hw,v1,v2,t _ _ h7,h8.tupsW t,h9.tupsW t⟩
def PlZ (lo hi y:Rat):Prop:=lo<=y/\y<=hi/\Bd 100 y.num/\Bd 12 (y.den:Int)
def TmZ (x:Rat):Prop:=Bd 101 x.num/\Bd 4 (x.den:Int)
inductive zjk  (vs:List V) (H:Hp) (Q:VK) (_e3:XK):Prop
 | mk:∀p r a us bs g j d c w' jp dp,(vs=[.ref p,.ref r,.ref a])->(vR H p)->(EvA H r a us bs g j d c w' jp dp)->(∀z q u,∀k:Int,∀y x H',xt p H H'->H' z=some (.tup [.int k,.ref q,.ref u])->0<=k->k<bs.length->zp H' q y->zp H' u x->PlZ (zu g j d) (zu g j d+zC g c*(w':Rat)) y->TmZ x->Q (.ref z) H')->zjk vs H Q _e3
theorem XH:zA ["pool","row","walls","wide","grid","ball","place","far","t"] ["pool","row","walls"] (zk XB):=scq
theorem ziz (D:Df K mg "_law_wish" XB ["pool","row","walls"] []) (T:TxB K mg) (cN:Cal P w K mg base "_law_next" 1 ["pool","base"] [] Zr) (cF:Cal P w K mg base "_law_far" 2 ["pool"] [] zaH) (cLo:Cal P w K mg base "_law_lowest" 1 ["top","bottom"] [] qR) (cS:Cal P w K mg base "_law_sum" 2 ["one","other"] [] (qx Sz2 (· + ·))) (cP:Cal P w K mg base "_law_product" 2 ["one","other"] [] (qx Sz2 (· * ·))) (cMi:Cal P w K mg base "_law_minus" 3 ["one","other"] [] (qx Sz2 (· - ·))) :
  Cal P w K mg base "_law_wish" 4 ["pool","row","walls"] [] zjk:=by
 refine D.calq (k:=3) XH (λf cdv A outer s H vs Q E hr3 h=>?_)
 rcases q:h with⟨p,r,a,us,bs,g,j,d,c,w',jp,dp,rfl,hP,EA,k⟩
 have hr1:z6 1 _:=hr3.md
 have hr2:z6 2 _:=hr3.md
 refine⟨_,(ze (psl (i:=3) XH.nd (zB cMi hr3 (za (pxt (pxt (pv 2))) (za (pxt (pxt (pv 2))) zd))))
  (ze (psl (i:=4) XH.nd (zB cS hr2 (za (pxt (pxt (pv 2))) (za (zB cP hr2 (za (pv 3) (za (zB cLo hr1 (za (zB cN hr1 (za (pv 0) (za zh zd))) (za zh zd))) zd))) zd))))
  (ze (psl (i:=5) XH.nd (xS Vl (pv 1) (zB cN hr1 (za (pv 0) (za (zJ zS (by rfl) T.nLen PySem.boot_len (za (pv 1) zd)) zd))) (λ_ _=>rfl)))
  (ze (psl (i:=6) XH.nd (xS xT (zV (za (pv 4) (za (pxt (pv 5)) (za (pxt (xS Vl (pv 2) (zB cN hr1 (za (pv 0) (za zh zd))) (λ_ _=>rfl))) zd)))) (zB cN hr1 (za (pv 0) (za zh zd))) (λ_ _=>rfl)))
  (ze (psl (i:=7) XH.nd (zB cLo hr1 (za (zr xg (zr zK (zB cF hr2 (za (pv 0) zd)) (zr Qr zh zh)) (zB cF hr2 (za (pv 0) zd))) (za (zr xg zh (zB cN hr1 (za (pv 0) (za zh zd)))) zd))))
  (ze (psl (i:=8) XH.nd (xS xT (zV (za (zH (za zh (za zh zd))) (za (zB cLo hr1 (za (zB cN hr1 (za (pv 0) (za zh zd))) (za (zr xg zh (zB cN hr1 (za (pv 0) (za zh zd)))) zd))) (za (pv 7) zd)))) (zB cN hr1 (za (pv 0) (za zh zd))) (λ_ _=>rfl)))
  (zj (zD (zH (za (zB cN hr1 (za (pv 0) (za (zJ zS (by rfl) T.nLen PySem.boot_len (za (pv 1) zd)) zd))) (za (pv 6) (za (pv 8) zd)))))))))))),?_⟩
 try dsimp only[zU,Cx.nox]
 have hp:=EA.G.pos
 have hj:=EA.G.j
 have hd:=EA.G.d
 have hc:=EA.G.c
 have hw:=EA.G.w
 have bg:=gBd EA.G.g1 EA.G.g2
 have W0:=EA.G.W0
 rcases q:id EA.W with⟨v1,v2,ha,⟨a1,p1,q1,rfl,h1,h2,h3⟩,⟨a2,p2,q2,rfl,g1,g2,g3⟩⟩
 have zlo:Sz 100 (zu g j d):=.divInt ∅ (((show Bd 4 j from(show j.natAbs<2^4 by lia)).mul bg).md) (Bd.mono (m:=4) (show d.natAbs<2^4 by lia) (by decide))
 have zW:Sz 100 (zC g c*(w':Rat)):=by
  refine((Sz.divInt (n:=80) ∅ (bg.md) (Bd.mono (m:=4) (show c.natAbs<2^4 by lia) (by decide)):Sz 80 (zC g c)).mul (n:=10) ⟨show ((w':Rat)).num.natAbs<2^10 by rw[Wk];lia,show (((w':Rat).den:Int)).natAbs<2^10 by rw[WQ];decide⟩).md
 refine zM (λσ' G=>∃wd,σ'=[Sr p,Sr r,Sr a,Sr wd,none,none,none,none,none]/\zi H G/\zp G wd (zC g c*(w':Rat))) ?_ ?_
 rotate_left
 ·intro nx hnx
  refine⟨_,rL,a,_,_,_,rL,rL,.of ha,at1 ..,a2,_,_,_,rL,rL,.of g1,at0 ..,_,rL,a,_,_,_,rL,rL,.of ha,at0 ..,a1,_,_,_,rL,rL,.of h1,at0 ..,?_⟩
  refine⟨p2,p1,_,_,rL,g2,h2,⟨(zlo.add zW).md,zlo.md⟩,λwd G S hwd=>?_⟩
  refine hnx _ _ ⟨wd,rL,S,?_⟩
  have:zC g c*(w':Rat)=zu g j d+zC g c*(w':Rat) - zu g j d:=by grind
  rw[this];exact hwd
 rintro σ1 G1 ⟨wd,rfl,S1,hwd⟩
 refine zM (λσ' G=>∃gd y,σ'=[Sr p,Sr r,Sr a,Sr wd,Sr gd,none,none,none,none]/\xt p H G/\zp G gd y/\PlZ (zu g j d) (zu g j d+zC g c*(w':Rat)) y) ?_ ?_
 rotate_left
 ·intro nx hnx
  refine⟨_,rL,a,_,_,_,rL,rL,.of (S1 _ _ ha),at0 ..,a1,_,_,_,rL,rL,.of (S1 _ _ h1),at0 ..,?_⟩
  have P1:vR G1 p:=by obtain⟨x,y,z,e⟩:=hP;exact⟨x,y,z,S1 _ _ e⟩
  refine⟨_,rfl,_,rfl,p,_,rfl,by decide,by decide,P1,λe G2 b0 b1 t2=>?_⟩
  refine⟨_,_,rfl,by decide,Bd.mono (m:=5) (show (12:Int).natAbs<2^5 by decide) (by decide),λq3 G3 S3 h3'=>?_⟩
  have hwd3:zp G3 wd _:=(t2.rat P1 hwd).same S3
  refine⟨wd,q3,_,_,rfl,hwd3,h3',⟨zW.md,(Sz.divInt (n:=10) (by decide) (show e.natAbs<2^10 by lia) (show (12:Int).natAbs<2^10 by decide)).md⟩,λq4 G4 S4 h4=>?_⟩
  have hl4:zp G4 p1 (zu g j d):=((t2.rat P1 (zp.same h2 S1)).same S3).same S4
  have zf:Sz 108 (qf (zC g c*(w':Rat)) e 3):=JG zW b0 ∅ (by decide) (by decide)
  refine⟨p1,q4,_,_,rL,hl4,h4,⟨zlo.md,zf.md⟩,λq5 G5 S5 h5=>?_⟩
  have nn:=zd2 (n:=3) W0 (by decide) b0
  have le:=zd0 (n:=3) (e:=e) W0 (by decide) ∅
  refine hnx _ _ ⟨q5,zu g j d+qf (zC g c*(w':Rat)) e 3,rfl,(t2.pre S1).same (S3.trans (S4.trans S5)),h5,by grind,by grind,?_⟩
  rw[zdZ hp.2.1 hp.2.2.1 (by decide)]
  have bw:Bd 8 (w'*e):=(show Bd 4 w' from(show w'.natAbs<2^4 by lia)).mul (show Bd 4 e from(show e.natAbs<2^4 by lia))
  refine vj (wW hp.2.1 (wW hp.2.2.1 (by decide))) ((bg.mul (show Bd 13 (j*(c*(4*3))+w'*e*d)from ?_)).md) ?_ (by decide)
  ·have bw':(w'*e).natAbs<2^8:=bw
   show (j*(c*(4*3))+w'*e*d).natAbs<2^13
   generalize w'*e=x at *
   rcases hc with rfl | rfl | rfl <;> rcases hd with rfl | rfl <;> lia
  ·show (d*(c*(4*3))).natAbs<2^12
   rcases hc with rfl | rfl | rfl <;> rcases hd with rfl | rfl <;> decide
 rintro σ2 G2 hQq;rcases q:hQq with⟨gd,y1,rfl,T2,hgd,plg⟩
 have tu2:xp H G2:=λa xs h=>T2.tup hP h
 have EA2:=EA.tups tu2
 have hul:=EA.R.1
 have l1:=EA.l1
 have l5:=EA.l5
 refine zM (λσ' G=>∃ba b pa pb,σ'=[Sr p,Sr r,Sr a,Sr wd,Sr gd,Sr ba,none,none,none]/\xt p G2 G/\b∈bs/\G ba=some (.tup [.ref pa,.ref pb,.int b.wt])/\zp G pa b.pl) ?_ ?_
 rotate_left
 ·intro nx hnx
  refine⟨_,rfl,_,rfl,_,rfl,r,us,rfl,.inr (SqT.of EA2.r),p,_,rfl,by lia,by lia,T2.pool,λe G3 a3 b3 t3=>?_⟩
  have hl:e.toNat<us.length:=by lia
  obtain⟨v,hv⟩:∃v,us[e.toNat]? = some v:=⟨_,wC hl⟩
  have e2:=Jx hv
  rw[show ((e.toNat:Nat):Int)=e by lia]at e2
  rcases q:EA2.R.2 _ v hv with⟨b,eb,ba,pa,pb,rfl,k1,k2,k3⟩
  refine⟨r,_,_,_,rL,rL,.of (t3.tup T2.pool EA2.r),e2,?_⟩
  exact hnx _ _ ⟨ba,b,pa,pb,rL,t3,wM eb,t3.tup T2.pool k1,t3.rat T2.pool k2⟩
 rintro σ3 G3 hQq;rcases q:hQq with⟨ba,b,pa,pb,rfl,T3,mb,hba,hpa⟩
 have fb:=EA.F b mb
 have T23:=T2.trans T3
 have EA3:=EA.tups (λa xs h=>T23.tup hP h:xp H G3)
 have hgd3:=T3.rat T2.pool hgd
 refine zM (λσ' G=>∃q y,σ'=[Sr p,Sr r,Sr a,Sr wd,Sr gd,Sr ba,Sr q,none,none]/\xt p G3 G/\zp G q y/\PlZ (zu g j d) (zu g j d+zC g c*(w':Rat)) y) ?_ ?_
 rotate_left
 ·intro nx hnx
  have blo:PlZ (zu g j d) (zu g j d+zC g c*(w':Rat)) (zu g j d):=by
   have n:=vj (n:=100) (m:=12) hp.2.1 (((show Bd 4 j from(show j.natAbs<2^4 by lia)).mul bg).md) (show d.natAbs<2^12 by lia) (by decide)
   exact⟨by grind,by grind,n.1,n.2⟩
  have bhi:PlZ (zu g j d) (zu g j d+zC g c*(w':Rat)) (zu g j d+zC g c*(w':Rat)):=by
   refine⟨by grind,by grind,?_⟩
   rw[zcp hp.2.1 hp.2.2.1]
   refine vj (wW hp.2.1 hp.2.2.1) ((bg.mul (show Bd 10 (j*c+w'*d)from ?_)).md) ?_ (by decide)
   ·show (j*c+w'*d).natAbs<2^10
    rcases hc with rfl | rfl | rfl <;> rcases hd with rfl | rfl <;> lia
   ·show (d*c).natAbs<2^12
    rcases hc with rfl | rfl | rfl <;> rcases hd with rfl | rfl <;> decide
  have tu3:xp H G3:=λa xs h=>T23.tup hP h
  refine⟨_,rL,_,rL,ba,_,_,_,rL,rL,.of hba,rL,?_⟩
  refine⟨_,rfl,_,rfl,p,_,rfl,by decide,by decide,T3.pool,λe1 K1 a1' b1' t1=>?_⟩
  have tuK:xp H K1:=λa xs h=>t1.tup T3.pool (tu3 _ _ h)
  obtain⟨aw,pw,qw,yw,ew,gw1,gw2,gw3⟩:∃aw pw qw yw,atI [V.ref a1,V.ref a2] e1=some (.ref aw)/\K1 aw=some (.tup [.ref pw,.ref qw])/\zp K1 pw yw/\PlZ (zu g j d) (zu g j d+zC g c*(w':Rat)) yw:=by
   have:e1=0\/e1=1:=by lia
   rcases this with rfl | rfl
   ·exact⟨a1,p1,q1,_,rL,tuK _ _ h1,tuK _ _ h2,blo⟩
   ·exact⟨a2,p2,q2,_,rL,tuK _ _ g1,tuK _ _ g2,bhi⟩
  refine⟨a,_,_,_,rL,rL,.of (tuK _ _ ha),ew,aw,_,_,_,rL,rL,.of gw1,at0 ..,zL3,λl9 hl9=>?_⟩
  refine⟨_,rfl,p,_,rfl,by decide,by decide,t1.pool.new hl9,λe2 K2 a2' b2' t2=>?_⟩
  have hl:=t2.keep l9 _ zg (t1.pool.ne hl9)
  have V4:=zi.upd (o:=.lst [.ref gd,.ref pa,.ref pw]) hl9
  have tt:=t2.pre V4
  obtain⟨yy,ey,hy⟩:=zes (u:=V.ref gd) (v:=.ref pa) (x:=.ref pw) a2' b2'
  refine⟨l9,_,_,_,rL,rL,.of hl,ey,?_⟩
  have st:xt p G3 K2:=t1.trans tt
  rcases hy with rfl | rfl | rfl
  ·exact hnx _ _ ⟨gd,y1,rL,st,st.rat T3.pool hgd3,plg⟩
  ·exact hnx _ _ ⟨pa,b.pl,rL,st,st.rat T3.pool hpa,fb.i.1,fb.i.2,fb.p.1,fb.p.2⟩
  ·exact hnx _ _ ⟨pw,yw,rL,st,tt.rat t1.pool gw2,gw3⟩
 rintro σ4 G4 hQq;rcases q:hQq with⟨q,y,rfl,T4,hq,ply⟩
 have T34:=T23.trans T4
 refine zM (λσ' G=>∃fr x,σ'=[Sr p,Sr r,Sr a,Sr wd,Sr gd,Sr ba,Sr q,Sr fr,none]/\xt p G4 G/\zp G fr x/\TmZ x) ?_ ?_
 rotate_left
 ·intro nx hnx
  refine⟨_,rL,p,rL,T4.pool,λf1 K1 a1' b1' t1=>?_⟩
  refine⟨_,_,rfl,rfl,⟨by decide,by decide,by decide⟩,_,_,rfl,rfl,⟨Bd.mono (m:=80) (show f1.natAbs<2^80 by lia) (by decide),Bd.mono (m:=40) (show ((10:Int)^9).natAbs<2^40 by decide) (by decide)⟩,?_⟩
  refine⟨_,rL,p,rL,t1.pool,λf2 K2 a2' b2' t2=>?_⟩
  refine⟨_,_,rL,rL,?_⟩
  have t12:=t1.trans t2
  refine⟨_,rfl,p,_,rfl,by decide,by decide,t12.pool,λe K3 a3' b3' t3=>⟨_,_,rfl,rfl,_,_,rfl,by lia,Bd.mono (m:=10) (show (1+e).natAbs<2^10 by lia) (by decide),λfr K4 S4 hfr=>?_⟩⟩
  refine hnx _ _ ⟨fr,_,rL,(t12.trans t3).same S4,hfr,?_⟩
  have p9:(10:Int)^9=1000000000:=by decide
  refine vj ∅ ?_ (show (1+e).natAbs<2^4 by lia) (by decide)
  have:(2535301200456458802993406410752:Nat)=2^101:=by decide
  show (f1*(10:Int)^9+f2).natAbs<2^101
  rw[p9]
  lia
 rintro σ5 G5 hQq;rcases q:hQq with⟨fr,x5,rfl,T5,hfr,tm5⟩
 refine zM (λσ' G=>∃u x,σ'=[Sr p,Sr r,Sr a,Sr wd,Sr gd,Sr ba,Sr q,Sr fr,Sr u]/\xt p G5 G/\zp G u x/\TmZ x) ?_ ?_
 rotate_left
 ·intro nx hnx
  refine⟨zL2,λz9 hz9=>?_⟩
  have V1:=zi.upd (o:=.tup [.int 0,.int 1]) hz9
  have q0:zp (upd G5 z9 (.tup [.int 0,.int 1])) z9 0:=zg
  have P1:vR (upd G5 z9 (.tup [.int 0,.int 1])) p:=T5.pool.new hz9
  generalize upd G5 z9 (.tup [.int 0,.int 1])=K0 at V1 q0 P1
  refine⟨_,rfl,p,_,rfl,by decide,by decide,P1,λe1 K1 a1' b1' t1=>?_⟩
  refine⟨_,rfl,p,_,rfl,by decide,by decide,t1.pool,λe2 K2 a2' b2' t2=>⟨_,_,rfl,rfl,_,_,rfl,by lia,Bd.mono (m:=10) (show (1+e2).natAbs<2^10 by lia) (by decide),λsm K3 S3 hsm=>?_⟩⟩
  have t12:=t1.trans t2
  refine⟨_,rL,zL3,λl9 hl9=>?_⟩
  have V4:=zi.upd (o:=.lst [.ref z9,.ref sm,.ref fr]) hl9
  have t13:=t12.same S3
  refine⟨_,rfl,p,_,rfl,by decide,by decide,t13.pool.new hl9,λe3 K4 a3' b3' t4=>?_⟩
  have hl:=t4.keep l9 _ zg (t13.pool.ne hl9)
  have tt:=t4.pre V4
  obtain⟨yy,ey,hy⟩:=zes (u:=V.ref z9) (v:=.ref sm) (x:=.ref fr) a3' b3'
  refine⟨l9,_,_,_,rL,rL,.of hl,ey,?_⟩
  have st:xt p G5 K4:=(t13.trans tt).pre V1
  rcases hy with rfl | rfl | rfl
  ·exact hnx _ _ ⟨z9,0,rfl,st,tt.rat t13.pool (t13.rat P1 q0),show (0:Int).natAbs<2^101 by decide,show (1:Int).natAbs<2^4 by decide⟩
  ·exact hnx _ _ ⟨sm,_,rfl,st,tt.rat t13.pool hsm,vj ∅ (show e1.natAbs<2^101 by lia) (show (1+e2).natAbs<2^4 by lia) (by decide)⟩
  ·exact hnx _ _ ⟨fr,x5,rL,st,st.rat T5.pool hfr,tm5⟩
 rintro σ6 G6 hQq;rcases q:hQq with⟨u,x,rfl,T6,hu6,tm6⟩
 have T46:=T5.trans T6
 have T06:=T34.trans T46
 have hq6:=T46.rat T4.pool hq
 have EA6:=EA.tups (λa xs h=>T06.tup hP h:xp H G6)
 refine⟨_,rfl,_,rfl,r,us,rfl,.inr (SqT.of EA6.r),p,_,rfl,by lia,by lia,T06.pool,λe G7 a7 b7 t7=>?_⟩
 refine⟨_,rL,_,rL,zL3,λz hz=>?_⟩
 have Sz':=zi.upd (o:=.tup [.int e,.ref q,.ref u]) hz
 exact k z q u e y x _ ((T06.trans t7).same Sz') zg a7 ∅ ((t7.rat T06.pool hq6).same Sz') ((t7.rat T06.pool hu6).same Sz') ply tm6
section
variable {H:Hp}{r a q u:Addr}{us:List V}{bs:List Bl}{g j d c w jp dp:Int}{k:Int}{y x:Rat}
theorem EvA.ln (h:EvA H r a us bs g j d c w jp dp):Ln H r a bs (some (zu g j d,0)) (some (zu g j d+zC g c*(w:Rat),0)) :=
 ⟨⟨us,h.r,h.R⟩,h.W,h.l1,by have:=h.l5;lia⟩
theorem EvA.fit (h:EvA H r a us bs g j d c w jp dp):RwZ bs (zu g j d,0) (zu g j d+zC g c*(w:Rat),0)/\RwU bs (zu g j d,0) (zu g j d+zC g c*(w:Rat),0) (Rat.divInt g 6) 36 ∧
  ∃b0,bs[0]? = some b0/\plB (tb b0) (bs.map tb) (some (zu g j d,0)) (some (zu g j d+zC g c*(w:Rat),0))=true:=by
 obtain⟨wt,hwt⟩:=h.wt
 exact zhZ h.G h.l1 h.l5 h.F hwt
theorem EvA.when (h:EvA H r a us bs g j d c w jp dp) (hk:0<=k/\k<bs.length) (hq:zp H q y) (hy:PlZ (zu g j d) (zu g j d+zC g c*(w:Rat)) y) (hu:zp H u x) (hx:TmZ x){CM:Addr}{Q:VK}{E:XK}
  (kk:∀v H',zi H H'->(∃d,RdD H' v d/\SeqAt.shaped d=true)->Q v H'):XI CM [.ref r,.ref a,.int k,.ref q,.ref u] H Q E:=by
 obtain⟨z,U,b0,e0,hp⟩:=h.fit
 obtain⟨p,s,m,zz,trs,l,h',tk,b,T,pss,lz,F⟩:=zfJ z U hy.2.2.1 hy.2.2.2 hx.1 hx.2
 refine⟨k,bs,_,_,y,x,p,s,m,zz,trs,l,h',tk,b,T,pss,lz,⟨⟨r,a,q,u,rL,h.ln,hq,hu⟩,z.lnz,⟨b0,e0,hp⟩,hk,⟨hy.1,hy.2.1⟩⟩,F.wz,F.rg,F.lzz,.inl ⟨λl' e=>?_,λms N hO=>⟨λt _ rr qq H' S h1 h2=>?_,λ_ rr L us' H' S h1 h2 h3=>?_⟩⟩⟩
 ·obtain⟨A,bn,iq⟩:=F.ka l' e
  refine⟨A,LkG.of A bn (q:=36) iq ?_ (by decide)⟩
  have h1:=ZZ l.1 zz trs
  have h2:trs.length=bs.length:=by rw[F.wz.et,we,we]
  have:=h.l5
  have:(zY l.1 zz trs).length*36<=10*36:=Nat.mul_le_mul_right _ ∅
  lia
 ·exact kk _ H' S ⟨atD _,.tup h1 (.cons (.str _) (.cons (zp.rdD h2) .nil)),zhf _⟩
 ·exact kk _ H' S ⟨zev _,.tup h1 (.cons (.str _) (.cons (.lst h2 (Qc h3)) .nil)),zbi _⟩
theorem EvA.never (h:EvA H r a us bs g j d c w jp dp) (hk:0<=k/\k<bs.length) (hq:zp H q y) (hy:PlZ (zu g j d) (zu g j d+zC g c*(w:Rat)) y) (hu:zp H u x) (hx:TmZ x){um:Addr}{ms:List V}{qs:List Rat}(h1:H um=some (.lst ms)) (h2:Zy H ms qs) (h3:ms.length<=2000){CM:Addr}{Q:VK}{E:XK}
  (kk:∀b H',zi H H'->Q (.bl b) H'):zbv CM [.ref r,.ref a,.int k,.ref q,.ref u,.ref um] H Q E :=
 ⟨_,_,_,_,_,um,ms,qs,rfl,h1,h2,h3,h.when hk hq hy hu hx λv H' S ⟨d,e1,e2⟩=>⟨S,d,e1,e2,λH'' S2=>kk _ _ (S.trans S2)⟩⟩
theorem EvA.noball (h:EvA H r a us bs g j d c w jp dp) (hk:¬(0<=k/\k<bs.length)){u4 u5:V}{CB:Addr}{Q:VK}{E:XK}(kk:∀H',zi H H'->E (.ref CB) none H'):VC CB [.ref r,.ref a,.int k,u4,u5] H Q E:=by
 obtain⟨z,U,b0,e0,hp⟩:=h.fit
 exact⟨r,a,k,u4,u5,bs,b0,_,_,rL,h.ln,e0,hp,hk,kk⟩
theorem EvA.noplace (h:EvA H r a us bs g j d c w jp dp) (hk:0<=k/\k<bs.length) (hq:zp H q y) (zy:Sz 4000 y) (hy:y<zu g j d\/zu g j d+zC g c*(w:Rat)<y){u5:V}{CP:Addr}{Q:VK}{E:XK}(kk:∀H',zi H H'->E (.ref CP) none H'):VD CP [.ref r,.ref a,.int k,.ref q,u5] H Q E:=by
 obtain⟨z,U,b0,e0,hp⟩:=h.fit
 have s1:=z.sp _ (qQ rfl)
 have s2:=z.sp _ (vt rfl)
 exact⟨r,a,k,q,u5,bs,b0,_,_,0,0,y,rL,h.ln,e0,hp,hk.1,hk.2,hq,⟨s1.1.md,s1.2.md⟩,⟨s2.1.md,s2.2.md⟩,zy,hy,kk⟩
end
inductive VA (sp:Sp) (C:Addr) (vs:List V) (H:Hp) (_e2:VK) (E:XK):Prop
 | mk:∀u1 u2 u3 u4 u5 u6,(vs=[u1,u2,u3,u4,u5,u6])->((∀(Q:VK) (E:XK),(∀H',zi H H'->E (.ref C) none H')->sp [u1,u2,u3,u4,u5] H Q E))->(∀H',zi H H'->E (.ref C) none H')->VA sp C vs H _e2 E
theorem JN {sp:Sp}(D:Df K mg "lets_never" qN ["row","walls","k","place","t","moments"] []) (nL:mg "list" = none) (cX:vm P w K mg base "when" 10 ["row","walls","k","place","t"] [] sp):vm P w K mg base "lets_never" 11 ["row","walls","k","place","t","moments"] [] (VA sp C):=by
 rcases r:D.cal1q (k:=10) zhx with⟨u1,u2,u3,u4,u5,u6,rfl,h,k⟩
 have hu:=hr.units
 refine⟨_,(zj (zD (qm (Vq hu) (Xg cX hr qE (za (pv 0) (za (pv 1) (za (pv 2) (za (pv 3) (za (pv 4) zd)))))) (zH (za xG (za (vy Zh (by rfl) nL Wc (za (pv 5) zd)) zd))) (zF _)))),?_⟩
 try dsimp only[zU,Cx.nox]
 refine⟨_,rL,_,rL,_,rL,_,rL,_,rL,?_⟩
 dsimp only[Zv]
 exact h _ _ λH' S=>⟨C,rL,k H' S⟩
def zkt:Sp:=λvs H Q _=>∃a lo W,∃n:Nat,vs=[.ref a,.int n]/\1<=n/\n<=1100/\(∃v1 v2,H a=some (.tup [v1,v2])/\xb H v1 (some (lo,0))/\xb H v2 (some (lo+W,0)))/\Sz 100 lo/\Sz 100 W ∧
 ∀r us H',zi H H'->H' r=some (.tup us)->qe H' us [⟨lo,W/((n:Int):Rat),7⟩,⟨lo,W,7⟩]->Q (.ref r) H'
theorem ze1:zA ["walls","many","wide"] ["walls","many"] (zk Xw):=scq
theorem ziq (D:Df K mg "_law_dear" Xw ["walls","many"] []) (cMi:Cal P w K mg base "_law_minus" 3 ["one","other"] [] (qx Sz2 (· - ·))) (cOv:Cal P w K mg base "_law_over" 2 ["one","other"] [] (qx (λx y=>Sz2 x y/\y≠0) (· / ·))):Cal P w K mg base "_law_dear" 4 ["walls","many"] [] zkt:=by
 refine D.calq (k:=3) ze1 (λf cdv A outer s H vs Q E hr3 h=>?_)
 have hr2:z6 2 _:=hr3.md
 rcases q:h with⟨a,lo,W,n,rfl,n1,n2,⟨v1,v2,ha,⟨a1,p1,q1,rfl,h1,h2,h3⟩,⟨a2,p2,q2,rfl,g1,g2,g3⟩⟩,zlo,zW,k⟩
 refine⟨_,(ze (psl (i:=2) ze1.nd (zB cMi hr3 (za (pxt (pxt (pv 0))) (za (pxt (pxt (pv 0))) zd))))
  (zj (zD (zH (za (zH (za (pxt (pxt (pv 0))) (za (zB cOv hr2 (za (pv 2) (za (zH (za (pv 1) (za zh zd))) zd))) (za zh zd)))) (za (zH (za (pxt (pxt (pv 0))) (za (pv 2) (za zh zd)))) zd)))))),?_⟩
 try dsimp only[zU,Cx.nox]
 refine zM (λσ' G=>∃wd,σ'=[Sr a,Si n,Sr wd]/\zi H G/\zp G wd W) ?_ ?_
 rotate_left
 ·intro nx hnx
  refine⟨_,rL,a,_,_,_,rL,rL,.of ha,at1 ..,a2,_,_,_,rL,rL,.of g1,at0 ..,_,rL,a,_,_,_,rL,rL,.of ha,at0 ..,a1,_,_,_,rL,rL,.of h1,at0 ..,?_⟩
  refine⟨p2,p1,_,_,rL,g2,h2,⟨(zlo.add zW).md,zlo.md⟩,λwd G S hwd=>?_⟩
  refine hnx _ _ ⟨wd,rL,S,?_⟩
  have:W=lo+W - lo:=by grind
  rw[this];exact hwd
 rintro σ1 G1 ⟨wd,rfl,S1,hwd⟩
 have ha1:=S1 _ _ ha
 have h11:=S1 _ _ h1
 have hlo1:zp G1 p1 lo:=zp.same h2 S1
 refine⟨_,rL,a,_,_,_,rL,rL,.of ha1,at0 ..,a1,_,_,_,rL,rL,.of h11,at0 ..,?_⟩
 refine⟨_,rL,_,rL,zL2,λe1 he1=>?_⟩
 have U1:=zi.upd (o:=.tup [.int n,.int 1]) he1
 have r1:zp (upd G1 e1 (.tup [.int n,.int 1])) e1 ((n:Int):Rat):=by
  unfold zp rp;rw[Wk,WQ];exact zg
 generalize upd G1 e1 (.tup [.int n,.int 1])=G2 at U1 r1
 have zn:Sz 4000 ((n:Int):Rat):=⟨Bd.mono (m:=20) (show (((n:Int):Rat)).num.natAbs<2^20 by rw[Wk];lia) (by decide),Bd.mono (m:=20) (show ((((n:Int):Rat).den:Int)).natAbs<2^20 by rw[WQ];decide) (by decide)⟩
 refine⟨wd,e1,W,_,rL,hwd.same U1,r1,⟨⟨zW.md,zn⟩,zR ∅⟩,λq G3 U2 hq=>?_⟩
 refine⟨zL3,λb1 hb1=>?_⟩
 have U3:=zi.upd (o:=.tup [.ref p1,.ref q,.int 7]) hb1
 have k1:upd G3 b1 (.tup [.ref p1,.ref q,.int 7]) b1=some (.tup [.ref p1,.ref q,.int 7]):=zg
 generalize upd G3 b1 (.tup [.ref p1,.ref q,.int 7])=G4 at U3 k1
 have U13:=U1.trans (U2.trans U3)
 refine⟨_,rL,a,_,_,_,rL,rL,.of (U13 _ _ ha1),at0 ..,a1,_,_,_,rL,rL,.of (U13 _ _ h11),at0 ..,_,rL,zL3,λb2 hb2=>?_⟩
 have U4:=zi.upd (o:=.tup [.ref p1,.ref wd,.int 7]) hb2
 have k2:upd G4 b2 (.tup [.ref p1,.ref wd,.int 7]) b2=some (.tup [.ref p1,.ref wd,.int 7]):=zg
 generalize upd G4 b2 (.tup [.ref p1,.ref wd,.int 7])=G5 at U4 k2
 refine⟨zL2,λr hr=>?_⟩
 have U5:=zi.upd (o:=.tup [.ref b1,.ref b2]) hr
 have U15:=U13.trans (U4.trans U5)
 refine k r [.ref b1,.ref b2] _ (S1.trans U15) zg ⟨rL,λi v e=>?_⟩
 match i,e with
 | 0,e =>
  cases e
  exact⟨_,rL,b1,p1,q,rL,U5 _ _ (U4 _ _ k1),hlo1.same U15,hq.same (U3.trans (U4.trans U5))⟩
 | 1,e =>
  cases e
  exact⟨_,rL,b2,p1,wd,rL,U5 _ _ k2,hlo1.same U15,hwd.same U15⟩
section
variable {g j d c w jp dp:Int}{n:Nat}
def deB (lo W:Rat) (n:Nat):List Bl:=[⟨lo,W/((n:Int):Rat),7⟩,⟨lo,W,7⟩]
theorem zhN (hc:0<c):zC g c*(w:Rat)=Rat.divInt (g*w) c:=by
 unfold zC
 have d2:=zR (show c≠0 by lia)
 simp only[xZ,wu]
 generalize (g:Rat)=g' at *
 generalize (c:Rat)=c' at *
 generalize (w:Rat)=w' at *
 grind
theorem zjB (hc:0<c) (hn:1<=n):zC g c*(w:Rat)/((n:Int):Rat)=Rat.divInt (g*w) (c*n):=by
 rw[zhN hc]
 have d2:=zR (show c≠0 by lia)
 have d3:=zR (show (n:Int)≠0 by lia)
 simp only[xZ,wu]
 generalize (g:Rat)=g' at *
 generalize (c:Rat)=c' at *
 generalize (w:Rat)=w' at *
 generalize ((n:Int):Rat)=n' at *
 grind
theorem za0 (h:EvG g j d c w jp dp) (n1:1<=n) (n2:n<=1100):RwZ (deB (zu g j d) (zC g c*(w:Rat)) n) (zu g j d,0) (zu g j d+zC g c*(w:Rat),0) ∧
  RwU (deB (zu g j d) (zC g c*(w:Rat)) n) (zu g j d,0) (zu g j d+zC g c*(w:Rat),0) (zC g c*(w:Rat)/((n:Int):Rat)) n:=by
 have hp:=h.pos
 have hj:=h.j
 have hd:=h.d
 have hc:=h.c
 have hw:=h.w
 have bg:=gBd h.g1 h.g2
 have W0:=h.W0
 have nn:=zR (show (n:Int)≠0 by lia)
 have np:(0:Rat)<((n:Int):Rat):=wX.mpr ∅
 have u0:0<zC g c*(w:Rat)/((n:Int):Rat):=ZL W0 np
 have bA:Bd 80 (g*w):=(bg.mul (show Bd 4 w from(show w.natAbs<2^4 by lia))).md
 have b0:Bd 80 (0:Rat).num/\Bd 13 ((0:Rat).den:Int):=⟨by show Bd 80 0;exact(show (0:Int).natAbs<2^80 by decide),by show Bd 13 1;exact(show (1:Int).natAbs<2^13 by decide)⟩
 have blo:Bd 100 (zu g j d).num/\Bd 12 ((zu g j d).den:Int):=vj hp.2.1 (((show Bd 4 j from(show j.natAbs<2^4 by lia)).mul bg).md) (show d.natAbs<2^12 by lia) (by decide)
 have bhi:Bd 100 (zu g j d+zC g c*(w:Rat)).num/\Bd 12 ((zu g j d+zC g c*(w:Rat)).den:Int):=by
  rw[zcp hp.2.1 hp.2.2.1]
  refine vj (wW hp.2.1 hp.2.2.1) ((bg.mul (show Bd 10 (j*c+w*d)from ?_)).md) ?_ (by decide)
  ·show (j*c+w*d).natAbs<2^10
   rcases hc with rfl | rfl | rfl <;> rcases hd with rfl | rfl <;> lia
  ·show (d*c).natAbs<2^12
   rcases hc with rfl | rfl | rfl <;> rcases hd with rfl | rfl <;> decide
 have bW:Bd 80 (zC g c*(w:Rat)).num/\Bd 13 ((zC g c*(w:Rat)).den:Int):=by
  rw[zhN hp.2.2.1];exact vj hp.2.2.1 bA (show c.natAbs<2^13 by lia) (by decide)
 have bWn:Bd 80 (zC g c*(w:Rat)/((n:Int):Rat)).num/\Bd 13 ((zC g c*(w:Rat)/((n:Int):Rat)).den:Int):=by
  rw[zjB hp.2.2.1 n1]
  refine vj (wW hp.2.2.1 ∅) bA ?_ (by decide)
  show (c*(n:Int)).natAbs<2^13
  rcases hc with rfl | rfl | rfl <;> lia
 have mem:∀t∈ths (deB (zu g j d) (zC g c*(w:Rat)) n) (some (zu g j d,0)) (some (zu g j d+zC g c*(w:Rat),0)),t=(zu g j d,zC g c*(w:Rat)/((n:Int):Rat))\/t=(zu g j d,zC g c*(w:Rat))\/t=(zu g j d,0)\/t=(zu g j d+zC g c*(w:Rat),0):=λt m=>by
  simpa [ths,deB,XZ]using m
 have memB:∀b∈deB (zu g j d) (zC g c*(w:Rat)) n,b.pl=zu g j d/\(b.sp=((1:Int):Rat)*(zC g c*(w:Rat)/((n:Int):Rat))\/b.sp=((n:Int):Rat)*(zC g c*(w:Rat)/((n:Int):Rat))):=λb m=>by
  rcases wx.mp m with rfl | m
  ·refine⟨rL,.inl ?_⟩
   show _=((1:Int):Rat)*_
   rw[show ((1:Int):Rat)=1 from rfl,Rat.one_mul]
  ·rw[wD.mp m]
   refine⟨rL,.inr ?_⟩
   show zC g c*(w:Rat)=_
   generalize zC g c*(w:Rat)=W at *
   generalize ((n:Int):Rat)=n' at *
   grind
 have p1:(0:Rat)<((1:Int):Rat)*(zC g c*(w:Rat)/((n:Int):Rat)):=ue (show (0:Rat)<1 by decide) u0
 have p2:=ue np u0
 refine⟨⟨λt m=>?_,λt m=>?_,by show 2<=5;decide,by show zu g j d<zu g j d+zC g c*(w:Rat);grind,λb m=>?_,λb m hn=>?_⟩,⟨u0,n2,λb m _=>?_,?_,λb m b0 k hk=>?_⟩⟩
 ·rcases mem t m with rfl | rfl | rfl | rfl
  ·exact blo
  ·exact blo
  ·exact blo
  ·exact bhi
 ·rcases mem t m with rfl | rfl | rfl | rfl
  ·exact bWn
  ·exact bW
  ·exact b0
  ·exact b0
 ·rw[(memB b m).1];constructor <;> grind
 ·rcases(memB b m).2 with e | e <;> rw[e]at hn <;> grind
 ·rcases(memB b m).2 with e | e
  ·exact⟨1,by lia,n1,.inl e⟩
  ·exact⟨n,n1,by lia,.inl e⟩
 ·show Bd 20 (2*(zu g j d+zC g c*(w:Rat) - zu g j d)/(zC g c*(w:Rat)/((n:Int):Rat))).num
  have e:2*(zu g j d+zC g c*(w:Rat) - zu g j d)/(zC g c*(w:Rat)/((n:Int):Rat))=(((2*n:Nat):Int):Rat):=by
   rw[show (((2*n:Nat):Int))=2*(n:Int) by lia,wu,show ((2:Int):Rat)=2 from rfl]
   have Wn:zC g c*(w:Rat)≠0:=by grind
   clear bW bWn bhi mem memB p1 p2 u0
   generalize zC g c*(w:Rat)=W at *
   generalize ((n:Int):Rat)=n' at *
   grind
  rw[e,Wk]
  show (((2*n:Nat):Int)).natAbs<2^20
  lia
 ·have kk:k=1\/k=n:=by
   rcases(memB b m).2 with e | e
   ·exact .inl (za9 u0 (wg _) hk (.inl e))
   ·exact .inr (za9 u0 n1 hk (.inl e))
  show Bd 20 ((2*(zu g j d+zC g c*(w:Rat) - zu g j d)/(((k:Int):Rat)*(zC g c*(w:Rat)/((n:Int):Rat)))).den:Int)
  have k1:1<=k:=by lia
  have kn:=zR (show (k:Int)≠0 by lia)
  have e:2*(zu g j d+zC g c*(w:Rat) - zu g j d)/(((k:Int):Rat)*(zC g c*(w:Rat)/((n:Int):Rat)))=Rat.divInt (2*n) k:=by
   rw[xZ,wu,show ((2:Int):Rat)=2 from rfl]
   have Wn:zC g c*(w:Rat)≠0:=by grind
   clear bW bWn bhi mem memB p1 p2 u0 hk
   generalize zC g c*(w:Rat)=W at *
   generalize ((n:Int):Rat)=n' at *
   generalize ((k:Int):Rat)=k' at *
   grind
  rw[e]
  exact(vj (n:=20) (m:=20) ∅ (show (2*(n:Int)).natAbs<2^20 by lia) (show (k:Int).natAbs<2^20 by lia) (by decide)).2
end
theorem ziQ {l T v1 v2:Int}(h1:0<v1) (h2:0<v2) (ne:v1≠v2):phO l T [(l,v1),(l,v2)]=[(v1,[0]),(v2,[0])]:=by
 have e:l - l=0:=by lia
 simp[phO,Qs,ZB,h1,h2,ne,e]
theorem zf3 {l v1 v2:Int}(h1:v1≠0) (h2:v2≠0):zY l l [(l,v1),(l,v2)]=[(v1,0),(v1,0),(v2,0),(v2,0)]:=by
 have e:2*l - l - l=0:=by lia
 simp[zY,Qm,h1,h2,e]
section
variable {g j d c w jp dp:Int}{n:Nat}
theorem zdN {R X:Rat}(hX:X=(((2*n:Nat):Int):Rat)) (n1:1<=n) (hle:R<=X) (h0:0<R){t:Int}(hm:R=(t:Rat)*(((2*n:Nat):Int):Rat)):R=(((2*n:Nat):Int):Rat):=by
 have np:(0:Rat)<(((2*n:Nat):Int):Rat):=wX.mpr ∅
 have t1:1<=t:=by
  rcases yQ 0 t with z | z
  ·lia
  ·exfalso
   have a:(t:Rat)<=0:=by have:=(yY (a:=t) (b:=0)).mpr z;exact this
   have:=yx a (ut np)
   rw[<-hm]at this;grind
 have t1':(1:Rat)<=(t:Rat):=by have:=(yY (a:=1) (b:=t)).mpr t1;exact this
 have:=yx t1' (ut np)
 rw[<-hm]at this
 rw[hX]at hle
 grind
theorem zhU {T:Int}(n1:1<=n) (hT:0<T):Builtin.Range.rangeSize T (T*(n:Int)) T=((n - 1:Nat):Int):=by
 unfold Builtin.Range.rangeSize
 rw[if_pos hT]
 have hle:T<=T*(n:Int):=by
  have:=Int.mul_le_mul_of_nonneg_left (show (1:Int)<=(n:Int) by lia) (yI hT)
  lia
 split
 ·have e:(T*(n:Int) - T - 1)/T=(n:Int) - 2:=by
   have:T*(n:Int) - T - 1=(T - 1)+T*((n:Int) - 2):=by grind
   rw[this,Int.add_mul_ediv_left _ _ ∅,Int.ediv_eq_zero_of_lt ∅ ∅]
   lia
  rw[e];lia
 ·have:(n:Int)=1:=by
   rcases yQ 1 (n:Int)with z | z
   ·have:=Int.mul_lt_mul_of_pos_left z hT;lia
   ·lia
  lia
end
section
variable {T:Int}{b l:Int×Int}{gs:List (Int×Int)}
theorem Vi (h:LkA T b l gs) (eb:b.1=0){V:Int}(m:(V,0)∈gs) (hV:0<V){q:Nat}(q1:1<=q) (e:V*l.1=q*(T*l.2)) :
  dif T b (lkL b l,lkB b l) (V,0)=q/\lkC T (lkN b l gs) (lkU b l gs (lkF b l)) (lkU b l gs (lkL b l)) (V,0)=q - 1:=by
 have B0:=h.B.1
 have eL:=h.eL
 have l2:=h.bl.2.2
 have T0:=h.T0.1
 have F0:lkF b l=0:=by unfold lkF;rw[eb,WE]
 rw[F0]at eL
 have key:V*lkL b l=q*(T*lkB b l):=by
  refine Int.eq_of_mul_eq_mul_right (show l.2≠0 by lia) ?_
  have:V*lkL b l*l.2=V*((lkL b l - 0)*l.2):=by grind
  rw[this,eL]
  have:V*(l.1*lkB b l)=(V*l.1)*lkB b l:=by grind
  rw[this,e];grind
 constructor
 ·unfold dif VO
  rw[if_neg (by show ¬V<0;lia),if_neg (by show ¬V<0;lia)]
  show (V*lkL b l - 0*lkB b l).fdiv (T*lkB b l) - (-0:Int).fdiv T - ((V*b.1 - 0*b.2).fdiv (T*b.2) - (-0:Int).fdiv T)=q
  have TB:0<T*lkB b l:=wW T0 B0
  rw[eb,key,WE,WE,Int.mul_zero]
  have e1:((q:Int)*(T*lkB b l) - 0).fdiv (T*lkB b l)=q:=by
   rw[Int.sub_zero,wq _ ∅]
   exact Int.mul_ediv_cancel _ ∅
  have e2:((0:Int) - 0).fdiv (T*b.2)=0:=by rw[Int.sub_zero,Int.zero_fdiv]
  rw[e1,e2];lia
 ·obtain⟨N0,hBN,hVN⟩:=h.N
  obtain⟨d,hd⟩:=hBN
  obtain⟨w,hw⟩:=hVN _ m
  have aV:xk V=V:=by unfold xk;rw[if_neg ∅]
  change lkN b l gs=xk V*w at hw
  rw[aV]at hw
  have eU:∀x,lkU b l gs x=x*d:=λx=>by
   unfold lkU
   rw[wq _ ∅,hd,wY _ ∅]
  have eS:QR T (lkN b l gs) (V,0)=T*w:=by
   unfold QR
   show T*(lkN b l gs).fdiv (xk V)=T*w
   rw[aV,wq _ ∅,hw,wY _ ∅]
  have st:=h.stp m
  rw[eS]at st
  have last:lkL b l*d=T*w*q:=by
   refine Int.eq_of_mul_eq_mul_left (show V≠0 by lia) ?_
   have:V*(lkL b l*d)=(V*lkL b l)*d:=by grind
   rw[this,key]
   have:(q:Int)*(T*lkB b l)*d=q*T*(lkB b l*d):=by grind
   rw[this,<-hd,hw];grind
  unfold lkC zc6
  rw[eU,eU,eS,F0,last]
  have e0:zc7 (lkN b l gs) (V,0)=0:=by unfold zc7;show (0:Int)*_=0;rw[WE]
  rw[e0,WE]
  generalize T*w=c at *
  have em:((0:Int) - 0 - 1) % c=c - 1:=by
   have:((0:Int) - 0 - 1)=(c - 1)+c*(-1):=by lia
   rw[this,Yr,Int.emod_eq_of_lt ∅ ∅]
  rw[em,show (0:Int)+1+(c - 1)=c by lia,zhU q1 st]
  lia
end
theorem zeb {T:Int}(h:xK [0] T 1=true):GmZ T [0] 1:=⟨wg _,wg _,h,λm _ h2 _=>by simpa using h2⟩
section
variable {g j d c w jp dp:Int}{n:Nat}
theorem zhh (h:EvG g j d c w jp dp) (n1:2<=n) (n2:n<=1100):∃p s m zz trs l h' tk b T pss l' V1 V2,WhF (deB (zu g j d) (zC g c*(w:Rat)) n) (zu g j d,0) (zu g j d+zC g c*(w:Rat),0) n (zu g j d) 0 p s m zz trs l h' tk b T pss (some l') ∧
  zY l.1 zz trs=[(V1,0),(V1,0),(V2,0),(V2,0)]/\0<V1/\0<V2/\b.1=0/\V1*l'.1=((1:Nat):Int)*(2*(h'.1 - l.1)*l'.2)/\V2*l'.1=(n:Int)*(2*(h'.1 - l.1)*l'.2):=by
 obtain⟨z,U⟩:=za0 h ∅ n2
 have W0:=h.W0
 have hlo:Bd 100 (zu g j d).num/\Bd 12 ((zu g j d).den:Int):=z.sp _ (qQ rfl)
 obtain⟨p,s,m,zz,trs,l,h',tk,b,T,pss,lz,F⟩:=zfJ (y:=zu g j d) (x:=0) z U hlo.1 hlo.2 (show (0:Int).natAbs<2^101 by decide) (show (1:Int).natAbs<2^4 by decide)
 have RF:=z.f
 rw[<-F.wz.ep,<-F.wz.es]at RF
 obtain⟨L,hL⟩:∃L,L=byB (zu g j d) p:=⟨_,rfl⟩
 obtain⟨v1,hv1⟩:∃v,v=byB (zC g c*(w:Rat)/((n:Int):Rat)) s:=⟨_,rfl⟩
 obtain⟨v2,hv2⟩:∃v,v=byB (zC g c*(w:Rat)) s:=⟨_,rfl⟩
 have etr:(deB (zu g j d) (zC g c*(w:Rat)) n).map (λb=>trB p s (b.pl,b.sp))=[(L,v1),(L,v2)]:=by rw[hL,hv1,hv2];rfl
 have elo:(trB p s (zu g j d,0)).1=L:=hL.symm
 have nn:=zR (show (n:Int)≠0 by lia)
 have np:(0:Rat)<((n:Int):Rat):=wX.mpr ∅
 have sp:(0:Rat)<(s:Rat):=wX.mpr RF.s0
 have pp:(0:Rat)<(p:Rat):=wX.mpr RF.p0
 have m1:(⟨zu g j d,zC g c*(w:Rat)/((n:Int):Rat),7⟩:Bl)∈deB (zu g j d) (zC g c*(w:Rat)) n:=wH
 have m2:(⟨zu g j d,zC g c*(w:Rat),7⟩:Bl)∈deB (zu g j d) (zC g c*(w:Rat)) n:=wO _ wH
 have r1:(v1:Rat)=zC g c*(w:Rat)/((n:Int):Rat)*(s:Rat):=by rw[hv1];exact XO (RF.sd _ (VF m1))
 have r2:(v2:Rat)=zC g c*(w:Rat)*(s:Rat):=by rw[hv2];exact XO (RF.sd _ (VF m2))
 have q1:0<v1:=wX.mp (by rw[r1];exact ue (ZL W0 np) sp)
 have e21:v2=(n:Int)*v1:=by
  refine uA.mp ?_
  rw[wu,r1,r2]
  generalize zC g c*(w:Rat)=W at *
  generalize ((n:Int):Rat)=n' at *
  grind
 have q2:0<v2:=by rw[e21];exact wW ∅ q1
 have ne12:v1<v2:=by
  rw[e21]
  have:=uj (show (1:Int)<(n:Int) by lia) q1
  lia
 have eph:pss=[(v1,[0]),(v2,[0])]:=by
  have:=F.rg.eph
  rw[<-F.wz.ep,<-F.wz.es,etr,elo]at this
  rw[<-this]
  exact ziQ q1 q2 ∅
 have ne:pss≠[]:=by rw[eph];exact List.cons_ne_nil _ _
 have T0:0<T:=(F.rg.zps _ (by rw[eph];exact wH)).T0
 have cm:xK [0] T 1=true:=by
  simp[xK,Int.emod_eq_zero_of_dvd]
 have kz:KgZ T pss [(v1,1),(v2,1)]:=by
  rw[eph]
  refine⟨List.Perm.refl _,by simp;lia,λu mu=>?_⟩
  rcases wx.mp mu with rfl | mu
  ·exact⟨[0],1,wH,rL,zeb cm⟩
  ·rw[wD.mp mu];exact⟨[0],1,wO _ wH,rfl,zeb cm⟩
 obtain⟨_,elz⟩:=F.lzz.2 ne _ kz
 have eT:T=2*((trB p s (zu g j d+zC g c*(w:Rat),0)).1 - (trB p s (zu g j d,0)).1):=by
  have:=F.rg.eT
  rw[<-F.wz.ep,<-F.wz.es]at this
  exact this
 have Rr:=z.rat F.wz.ep F.wz.es F.wz.etk eT
 have RD:=QO z U Rr RF.s0 RF.p0 F.pj ne kz λe me g' g1 g2=>(F.rg.pt e me g' g1 g2).1
 have vr:(0:Rat)<(v1:Rat):=wX.mpr q1
 have eW:2*((zu g j d+zC g c*(w:Rat),(0:Rat)).1 - (zu g j d,(0:Rat)).1)=2*(zC g c*(w:Rat)):=by
  show 2*(zu g j d+zC g c*(w:Rat) - zu g j d)=_
  grind
 have n2n:(((2*n:Nat):Int):Rat)=2*((n:Int):Rat):=by
  rw[show (((2*n:Nat):Int))=2*(n:Int) by lia,wu];rfl
 have X2:2*((zu g j d+zC g c*(w:Rat),(0:Rat)).1 - (zu g j d,(0:Rat)).1)/(zC g c*(w:Rat)/((n:Int):Rat))=(((2*n:Nat):Int):Rat):=by
  rw[eW,n2n]
  have Wn:zC g c*(w:Rat)≠0:=by clear RD;grind
  clear RD eW
  generalize zC g c*(w:Rat)=W at *
  generalize ((n:Int):Rat)=n' at *
  grind
 have RT:=Rr.T
 rw[eW]at RT
 have pt1:vF T v1 1 tk=(((2*n:Nat):Int):Rat):=by
  rw[zat (by decide) ∅,RT,Rr.tk,r1,n2n,show ((1:Int):Rat)=1 from rfl]
  have Wn:zC g c*(w:Rat)≠0:=by clear RD X2;grind
  clear RD eW X2
  generalize zC g c*(w:Rat)=W at *
  generalize ((n:Int):Rat)=n' at *
  generalize (s:Rat)=s' at *
  generalize (p:Rat)=p' at *
  grind
 have l1p:1<=(ptL T tk [(v1,1),(v2,1)]).length:=by show 1<=2;decide
 have hnp:∀q∈ptL T tk [(v1,1),(v2,1)],0<q.num:=λq mq=>by
  obtain⟨u,mu,rfl⟩:=wn.mp mq
  rcases wx.mp mu with rfl | mu
  ·exact(F.rg.pt (v1,[0]) (by rw[eph];exact wH) 1 (wg _) (wg _)).1
  ·rw[wD.mp mu]
   exact(F.rg.pt (v2,[0]) (by rw[eph];exact wO _ wH) 1 (wg _) (wg _)).1
 obtain⟨t,ht⟩:=Jd l1p hnp (q:=vF T v1 1 tk) wH
 rw[pt1]at ht
 have RR:=zdN (X:=2*((zu g j d+zC g c*(w:Rat),(0:Rat)).1 - (zu g j d,(0:Rat)).1)/(zC g c*(w:Rat)/((n:Int):Rat))) X2 ∅ RD.le RD.r0 ht
 rw[RR]at elz
 clear RD ht X2 hnp l1p
 obtain⟨l',el'⟩:∃l':Int×Int,l'=(((((2*n:Nat):Int):Rat)/tk).num,(((((2*n:Nat):Int):Rat)/tk).den:Int)):=⟨_,rfl⟩
 rw[<-el']at elz
 rw[elz]at F
 have etrs:trs=[(L*m,v1*m),(L*m,v2*m)]:=by rw[F.wz.et,etr];rfl
 have el1:l.1=L*m:=by rw[F.wz.el];show (trB p s (zu g j d,0)).1*m=_;rw[elo]
 have m0:0<m:=by
  have:=F.wz.lh
  rw[F.wz.el,F.wz.eh]at this
  rcases yQ 0 m with c' | c'
  ·exact c'
  ·exfalso
   have:=Int.mul_le_mul_of_nonpos_right (yI RF.lh) c'
   simp only[scT]at *
   lia
 have ezz:zz=L*m:=by
  rw[F.wz.ez,hL]
  obtain⟨x,hx⟩:=RF.pd _ (qQ rfl)
  have dy:=den_pos (zu g j d)
  show (zu g j d).num*(p*m).fdiv ((zu g j d).den:Int)=byB (zu g j d) p*m
  unfold byB
  change p=((zu g j d).den:Int)*x at hx
  rw[wq _ ∅,wq _ ∅,hx,wY _ ∅,Wo,wY _ ∅]
  grind
 have eTm:2*(h'.1 - l.1)=T*m:=by
  rw[F.wz.el,F.wz.eh,eT]
  show 2*((trB p s (zu g j d+zC g c*(w:Rat),0)).1*m - (trB p s (zu g j d,0)).1*m)=_
  grind
 have eV:v1*m*l'.1=T*m*l'.2:=by
  refine uA.mp ?_
  have hl:(((2*n:Nat):Int):Rat)/tk=(l'.1:Rat)/(l'.2:Rat):=by
   rw[el',<-yk];exact(yr _).symm
  have l2:(l'.2:Rat)≠0:=zR (by rw[el'];exact yM (den_pos _))
  rw[Rr.tk,n2n]at hl
  rw[wu,wu,wu,wu,RT,r1]
  have Wn:zC g c*(w:Rat)≠0:=by grind
  have sn:(s:Rat)≠0:=by grind
  have pn:(p:Rat)≠0:=by grind
  clear RR eW n2n r1 r2 RT pt1 vr
  generalize zC g c*(w:Rat)=W at *
  generalize ((n:Int):Rat)=n' at *
  generalize (s:Rat)=s' at *
  generalize (p:Rat)=p' at *
  generalize (m:Rat)=m' at *
  generalize (l'.1:Rat)=a at *
  generalize (l'.2:Rat)=e at *
  have ea:a=2*n'/(s'/p')*e:=by rw[hl];grind
  rw[ea];grind
 refine⟨p,s,m,zz,trs,l,h',tk,b,T,pss,l',v1*m,v2*m,F,?_,wW q1 m0,wW q2 m0,?_,?_,?_⟩
 ·rw[etrs,el1,ezz]
  exact zf3 (yM (wW q1 m0)) (yM (wW q2 m0))
 ·rw[F.wz.eb]
  show (0/tk:Rat).num=0
  rw[Rat.div_def,Ua];rfl
 ·rw[eTm,eV];lia
 ·rw[eTm,e21,show (n:Int)*v1*m*l'.1=n*(v1*m*l'.1) by grind,eV]
end
section
variable {H:Hp}{r r0 a q u:Addr}{us us0:List V}{bs:List Bl}{g j d c w jp dp:Int}{k:Int}{n:Nat}
theorem zb4 {T F b e:Int}{g:Int×Int}:(lkW T F b e g).length=lkC T F b e g:=by unfold lkW zge VP;rw[we,yG]
theorem zhV {T:Int}{b l:Int×Int}{V1 V2:Int}(A:LkA T b l [(V1,0),(V1,0),(V2,0),(V2,0)]) (bn:Bd 1300 (lkN b l [(V1,0),(V1,0),(V2,0),(V2,0)])) (n1:1<=n) (n2:n<=1000) (p1:0<V1) (p2:0<V2) (eb:b.1=0) (e1:V1*l.1=((1:Nat):Int)*(T*l.2)) (e2:V2*l.1=(n:Int)*(T*l.2)):LkG T b l [(V1,0),(V1,0),(V2,0),(V2,0)]:=by
 have d1:=Vi A eb (V:=V1) (by simp) p1 (wg _) e1
 have d2:=Vi A eb (V:=V2) (by simp) p2 n1 e2
 have two:∀g∈[(V1,(0:Int)),(V1,0),(V2,0),(V2,0)],g=(V1,0)\/g=(V2,0):=λg m=>by simpa using m
 have l1:lkW T (lkN b l [(V1,0),(V1,0),(V2,0),(V2,0)]) (lkU b l [(V1,0),(V1,0),(V2,0),(V2,0)] (lkF b l)) (lkU b l [(V1,0),(V1,0),(V2,0),(V2,0)] (lkL b l)) (V1,0)=[]:=by
  refine yX.mp ?_
  rw[zb4,d1.2]
 have l2:(lkW T (lkN b l [(V1,0),(V1,0),(V2,0),(V2,0)]) (lkU b l [(V1,0),(V1,0),(V2,0),(V2,0)] (lkF b l)) (lkU b l [(V1,0),(V1,0),(V2,0),(V2,0)] (lkL b l)) (V2,0)).length=n - 1:=by rw[zb4,d2.2]
 have eM:lkM T b l [(V1,0),(V1,0),(V2,0),(V2,0)]=lkU b l [(V1,0),(V1,0),(V2,0),(V2,0)] (lkF b l)::(lkW T (lkN b l [(V1,0),(V1,0),(V2,0),(V2,0)]) (lkU b l [(V1,0),(V1,0),(V2,0),(V2,0)] (lkF b l)) (lkU b l [(V1,0),(V1,0),(V2,0),(V2,0)] (lkL b l)) (V2,0)++lkW T (lkN b l [(V1,0),(V1,0),(V2,0),(V2,0)]) (lkU b l [(V1,0),(V1,0),(V2,0),(V2,0)] (lkF b l)) (lkU b l [(V1,0),(V1,0),(V2,0),(V2,0)] (lkL b l)) (V2,0)):=by
  unfold lkM
  simp only[lkG,l1,WL,yB]
 refine⟨λg m=>?_,bn,λg m=>?_,?_,λms hm nd=>?_⟩
 ·rcases two g m with rfl | rfl
  ·rw[d1.1];decide
  ·rw[d2.1];lia
 ·rcases two g m with rfl | rfl
  ·rw[d1.2];lia
  ·rw[d2.2];lia
 ·rw[eM,ww,wI,l2];lia
 ·rw[eM]at hm
  generalize lkW T (lkN b l [(V1,0),(V1,0),(V2,0),(V2,0)]) (lkU b l [(V1,0),(V1,0),(V2,0),(V2,0)] (lkF b l)) (lkU b l [(V1,0),(V1,0),(V2,0),(V2,0)] (lkL b l)) (V2,0)=w2 at *
  generalize lkU b l [(V1,0),(V1,0),(V2,0),(V2,0)] (lkF b l)=f at *
  have:=zeu (L:=f::w2) nd λk mk=>by
   have:=(hm k).mp mk
   simp only[wx,wQ]at this ⊢
   rcases this with h | h | h
   ·exact .inl h
   ·exact .inr h
   ·exact .inr h
  rw[ww,l2]at this
  lia
theorem zbL (h:EvA H r0 a us0 bs g j d c w jp dp) (hr:H r=some (.tup us)) (hR:qe H us (deB (zu g j d) (zC g c*(w:Rat)) n)):Ln H r a (deB (zu g j d) (zC g c*(w:Rat)) n) (some (zu g j d,0)) (some (zu g j d+zC g c*(w:Rat),0)) :=
 ⟨⟨us,hr,hR⟩,h.W,by show 1<=2;decide,by show 2<=8;decide⟩
theorem zbM {lo W:Rat}:plB (tb ⟨lo,W/((n:Int):Rat),7⟩) ((deB lo W n).map tb) (some (lo,0)) (some (lo+W,0))=true:=by
 show (_&&(decide ((0:Rat)=0)&&decide ((0:Rat)=0)))=true
 rw[wm rfl]
 rfl
theorem zbN (h:EvA H r0 a us0 bs g j d c w jp dp) (n1:2<=n) (n2:n<=1000) (hr:H r=some (.tup us)) (hR:qe H us (deB (zu g j d) (zC g c*(w:Rat)) n)) (hk:0<=k/\k<2) (hq:zp H q (zu g j d)) (hu:zp H u 0){CM:Addr}{Q:VK}{E:XK}
  (kk:∀v H',zi H H'->(∃d,RdD H' v d/\SeqAt.shaped d=true)->Q v H'):XI CM [.ref r,.ref a,.int k,.ref q,.ref u] H Q E:=by
 obtain⟨p,s,m,zz,trs,l,h',tk,b,T,pss,l',V1,V2,F,eg,p1,p2,eb,e1,e2⟩:=zhh h.G n1 (by lia:n<=1100)
 have z:=(za0 h.G ∅ (by lia:n<=1100)).1
 have W0:=h.G.W0
 refine⟨k,_,_,_,_,_,p,s,m,zz,trs,l,h',tk,b,T,pss,some l',⟨⟨r,a,q,u,rfl,zbL h hr hR,hq,hu⟩,z.lnz,⟨_,rfl,zbM⟩,hk,⟨by show zu g j d<=zu g j d;grind,by show zu g j d<=zu g j d+zC g c*(w:Rat);grind⟩⟩,F.wz,F.rg,F.lzz,.inl ⟨λl'' e=>?_,λms N hO=>⟨λt _ rr qq H' S h1 h2=>?_,λ_ rr L us' H' S h1 h2 h3=>?_⟩⟩⟩
 ·cases e
  obtain⟨A,bn,_⟩:=F.ka l' rfl
  rw[eg]at A bn ⊢
  exact⟨A,zhV A bn ∅ n2 p1 p2 eb e1 e2⟩
 ·exact kk _ H' S ⟨atD _,.tup h1 (.cons (.str _) (.cons (zp.rdD h2) .nil)),zhf _⟩
 ·exact kk _ H' S ⟨zev _,.tup h1 (.cons (.str _) (.cons (.lst h2 (Qc h3)) .nil)),zbi _⟩
theorem zfV (h:EvA H r0 a us0 bs g j d c w jp dp) (n1:1000<n) (n2:n<=1100) (hr:H r=some (.tup us)) (hR:qe H us (deB (zu g j d) (zC g c*(w:Rat)) n)) (hk:0<=k/\k<2) (hq:zp H q (zu g j d)) (hu:zp H u 0){CM:Addr}{Q:VK}{E:XK}
  (kk:∀H',zi H H'->E (.ref CM) none H'):XI CM [.ref r,.ref a,.int k,.ref q,.ref u] H Q E:=by
 obtain⟨p,s,m,zz,trs,l,h',tk,b,T,pss,l',V1,V2,F,eg,p1,p2,eb,e1,e2⟩:=zhh h.G ∅ n2
 have z:=(za0 h.G ∅ n2).1
 have W0:=h.G.W0
 obtain⟨A,bn,_⟩:=F.ka l' rfl
 refine⟨k,_,_,_,_,_,p,s,m,zz,trs,l,h',tk,b,T,pss,some l',⟨⟨r,a,q,u,rfl,zbL h hr hR,hq,hu⟩,z.lnz,⟨_,rfl,zbM⟩,hk,⟨by show zu g j d<=zu g j d;grind,by show zu g j d<=zu g j d+zC g c*(w:Rat);grind⟩⟩,F.wz,F.rg,F.lzz,.inr ⟨l',rfl,A,?_,kk⟩⟩
 rw[eg]at A ⊢
 refine⟨(V2,0),by simp,?_⟩
 rw[(Vi A eb (V:=V2) (by simp) p2 ∅ e2).1]
 lia
end
theorem zeJ {bs:List Bl}{b0:Bl}{lo hi:Wl}(h:xq lo=false\/xq hi=false):plB (tb b0) (bs.map tb) lo hi=false:=by
 unfold plB
 rcases h with h | h <;> rw[h]
 ·rw[YD,YF]
 ·rw[YF,YF]
theorem zbn {b0:vB}{bs:List vB}{lo hi:Wl}(h:lo=none\/hi=none):noB b0 bs lo hi:=by
 unfold noB
 cases e:plB b0 bs lo hi with
 | false=>exact .inl rfl
 | true=>exact .inr ⟨rfl,h⟩
theorem zdL (xs:List V) (v:V):VN (xs++[v]) none (some (-1))=xs:=by
 unfold VN
 simp[HT.sIx]
 rw[show (-1+((xs.length:Int)+1)).toNat=xs.length by lia,List.take_left]
theorem zhT (xs:List V) (v:V):¬(HT.sIx (xs++[v]).length 0 none=0/\HT.sIx (xs++[v]).length (xs++[v]).length (some (-1))=(xs++[v]).length):=by
 simp[HT.sIx]
 lia
def Ju (H:Hp) (v:V):Prop:=∃z r a bs b0 lo hi,v = .ref z/\H z=some (.tup [.ref r,.ref a])/\Ln H r a bs lo hi/\bs[0]? = some b0/\noB (tb b0) (bs.map tb) lo hi
theorem Ju.tups {H H':Hp}{v:V}(h:Ju H v) (t:xp H H'):Ju H' v:=by
 obtain⟨z,r,a,bs,b0,lo,hi,e,h1,h2,h3,h4⟩:=h
 exact⟨z,r,a,bs,b0,lo,hi,e,t _ _ h1,h2.tups t,h3,h4⟩
inductive zfq  (vs:List V) (H:Hp) (Q:VK) (_e3:XK):Prop
 | mk:∀p r a us bs g j d c w' jp dp,(vs=[.ref p,.ref r,.ref a])->(vR H p)->(EvA H r a us bs g j d c w' jp dp)->(∀L vs' H',xt p H H'->H' L=some (.lst vs')->vs'.length<=6->(∀v∈vs',Ju H' v)->Q (.ref L) H')->zfq vs H Q _e3
theorem QH:zA ["pool","row","walls","speed","found","going","ball"] ["pool","row","walls"] (zk Zo):=scq
theorem ziy (D:Df K mg "_law_uneven" Zo ["pool","row","walls"] []) (T:TxB K mg) (cN:Cal P w K mg base "_law_next" 1 ["pool","base"] [] Zr) (cLo:Cal P w K mg base "_law_lowest" 1 ["top","bottom"] [] qR) (cS:Cal P w K mg base "_law_sum" 2 ["one","other"] [] (qx Sz2 (· + ·))) (cMi:Cal P w K mg base "_law_minus" 3 ["one","other"] [] (qx Sz2 (· - ·))) :
  Cal P w K mg base "_law_uneven" 4 ["pool","row","walls"] [] zfq:=by
 refine D.calq (k:=3) QH (λf cdv A outer s H vs Q E hr3 h=>?_)
 rcases q:h with⟨p,r,a,us,bs,g,j,d,c,w',jp,dp,rfl,hP,EA,k⟩
 have hr1:z6 1 _:=hr3.md
 have hr2:z6 2 _:=hr3.md
 refine⟨_,(ze (psl (i:=3) QH.nd (zB cLo hr1 (za (zr xg zh (zB cN hr1 (za (pv 0) (za zh zd)))) (za (xS xT (zV (za zh (za (qL qc zh) zd))) (zB cN hr1 (za (pv 0) (za zh zd))) (λ_ _=>rL)) zd))))
  (ze (psl (i:=4) QH.nd (zV (za (zH (za (pv 1) (za (zH (za xf (za (pxt (pv 2)) zd))) zd))) (za (zH (za (pv 1) (za (zH (za (pxt (pv 2)) (za xf zd))) zd))) (za (zH (za (pv 1) (za (zH (za xf (za xf zd))) zd))) zd)))))
  (ze (psl (i:=5) QH.nd (zH (za (zB cMi hr3 (za (pxt (pxt (pv 2))) (za (zH (za zh (za zh zd))) zd))) (za (pv 3) zd))))
  (ze (psl (i:=4) QH.nd (zr JO (pv 4) (zV (za (zH (za (pv 1) (za (zH (za (pv 5) (za (pxt (pv 2)) zd))) zd))) (za (zH (za (pv 1) (za (zH (za (pxt (pv 2)) (za (zH (za (zB cS hr2 (za (pxt (pxt (pv 2))) (za (zH (za zh (za zh zd))) zd))) (za (pv 3) zd))) zd))) zd))) zd)))))
  (ze (psl (i:=6) QH.nd (xS Vl (pv 1) (qL qc zh) (λ_ _=>rfl)))
  (ze (zX (zE Zt (zJ zS (by rfl) T.nLen PySem.boot_len (za (pv 1) zd)) zh (zF _)) (zj (xm (ZI yC yR yS qr (pv 4) (za (zH (za (zr zgu (zeF zi6 (pv 1) zgA (zgB (qL qc zh))) (zH (za (zH (za (pxt (pv 6)) (za (pxt (pv 6)) (za (zr xg zh (zr qX (pxt (pv 6)) zh)) zd)))) zd))) (za (pv 2) zd))) zd)))) zN)
  (zj (zD (pv 4))))))))),?_⟩
 try dsimp only[zU,Cx.nox]
 refine zM (λσ' G=>∃sp v,σ'=[Sr p,Sr r,Sr a,Sr sp,none,none,none]/\xt p H G/\zp G sp v/\v≠0) ?_ ?_
 rotate_left
 ·intro nx hnx
  refine⟨_,rfl,p,_,rfl,by decide,by decide,hP,λe1 K1 a1 b1 t1=>⟨_,_,rfl,rfl,?_⟩⟩
  refine⟨_,rL,zL2,λl9 hl9=>?_⟩
  refine⟨_,rfl,p,_,rfl,by decide,by decide,t1.pool.new hl9,λe2 K2 a2 b2 t2=>?_⟩
  have hl:=t2.keep l9 _ zg (t1.pool.ne hl9)
  have tt:=t2.pre (zi.upd hl9)
  obtain⟨x,ex,hx⟩:∃x:Int,atI [V.int 3,V.int (-3)] e2=some (.int x)/\(x=3\/x = -3):=by
   have:e2=0\/e2=1:=by lia
   rcases this with rfl | rfl
   ·exact⟨3,rL,.inl rL⟩
   ·exact⟨-3,rL,.inr rL⟩
  refine⟨l9,_,_,_,rfl,rfl,.of hl,ex,_,_,rfl,by lia,Bd.mono (m:=10) (show x.natAbs<2^10 by lia) (by decide),λsp K3 S3 hsp=>?_⟩
  refine hnx _ _ ⟨sp,_,rL,(t1.trans tt).same S3,hsp,λz=>?_⟩
  rw[<-Rat.zero_divInt 1,ug (show x≠0 by lia) (by decide)]at z
  lia
 rintro σ1 G1 hQq;rcases q:hQq with⟨sp,v,rfl,T1,hsp,hv⟩
 have EA1:=EA.tups (λa xs h=>T1.tup hP h:xp H G1)
 obtain⟨b0,hb0⟩:∃b0,bs[0]? = some b0:=⟨_,wC (by have:=EA.l1;lia)⟩
 rcases q:id EA1.W with⟨v1,v2,ha,⟨a1,p1,q1,rfl,h1,h2,h3⟩,⟨a2,p2,q2,rfl,g1,g2,g3⟩⟩
 have w1:xb G1 (.ref a1) (some (zu g j d,0)):=⟨a1,p1,q1,rfl,h1,h2,h3⟩
 have w2:xb G1 (.ref a2) (some (zu g j d+zC g c*(w':Rat),0)):=⟨a2,p2,q2,rfl,g1,g2,g3⟩
 have mk:∀{G:Hp}{z wv:Addr}{x y:V}{lo hi:Wl},zi G1 G->G z=some (.tup [.ref r,.ref wv])->G wv=some (.tup [x,y])->xb G x lo->xb G y hi->noB (tb b0) (bs.map tb) lo hi->Ju G (.ref z):=λS hz hw hx hy hn =>
  ⟨_,r,_,bs,b0,_,_,rfl,hz,⟨⟨us,S _ _ EA1.r,EA1.R.keeps (.of S)⟩,⟨_,_,hw,hx,hy⟩,EA1.l1,by have:=EA1.l5;lia⟩,hb0,hn⟩
 refine zM (λσ' G=>∃L vs',σ'=[Sr p,Sr r,Sr a,Sr sp,Sr L,none,none]/\zi G1 G/\G L=some (.lst vs')/\vs'.length=3/\∀v∈vs',Ju G v) ?_ ?_
 rotate_left
 ·intro nx hnx
  refine⟨_,rL,_,rL,a,_,_,_,rL,rL,.of ha,at1 ..,zL2,λe1 he1=>?_⟩
  have U1:=zi.upd (o:=.tup [.non,.ref a2]) he1
  have k1:upd G1 e1 (.tup [.non,.ref a2]) e1=some (.tup [.non,.ref a2]):=zg
  generalize upd G1 e1 (.tup [.non,.ref a2])=K1 at U1 k1
  refine⟨zL2,λz1 hz1=>?_⟩
  have U2:=zi.upd (o:=.tup [.ref r,.ref e1]) hz1
  have k2:upd K1 z1 (.tup [.ref r,.ref e1]) z1=some (.tup [.ref r,.ref e1]):=zg
  generalize upd K1 z1 (.tup [.ref r,.ref e1])=K2 at U2 k2
  have U12:=U1.trans U2
  refine⟨_,rL,_,rL,a,_,_,_,rL,rL,.of (U12 _ _ ha),at0 ..,zL2,λe2 he2=>?_⟩
  have U3:=zi.upd (o:=.tup [.ref a1,.non]) he2
  have k3:upd K2 e2 (.tup [.ref a1,.non]) e2=some (.tup [.ref a1,.non]):=zg
  generalize upd K2 e2 (.tup [.ref a1,.non])=K3 at U3 k3
  refine⟨zL2,λz2 hz2=>?_⟩
  have U4:=zi.upd (o:=.tup [.ref r,.ref e2]) hz2
  have k4:upd K3 z2 (.tup [.ref r,.ref e2]) z2=some (.tup [.ref r,.ref e2]):=zg
  generalize upd K3 z2 (.tup [.ref r,.ref e2])=K4 at U4 k4
  refine⟨_,rL,zL2,λe3 he3=>?_⟩
  have U5:=zi.upd (o:=.tup [.non,.non]) he3
  have k5:upd K4 e3 (.tup [.non,.non]) e3=some (.tup [.non,.non]):=zg
  generalize upd K4 e3 (.tup [.non,.non])=K5 at U5 k5
  refine⟨zL2,λz3 hz3=>?_⟩
  have U6:=zi.upd (o:=.tup [.ref r,.ref e3]) hz3
  have k6:upd K5 z3 (.tup [.ref r,.ref e3]) z3=some (.tup [.ref r,.ref e3]):=zg
  generalize upd K5 z3 (.tup [.ref r,.ref e3])=K6 at U6 k6
  refine⟨zL3,λL hL=>?_⟩
  have U7:=zi.upd (o:=.lst [.ref z1,.ref z2,.ref z3]) hL
  have V6:=U6.trans U7
  have V5:=U5.trans V6
  have V4:=U4.trans V5
  have V3:=U3.trans V4
  have V2:=U2.trans V3
  have V1:=U1.trans V2
  refine hnx _ _ ⟨L,_,rL,V1,zg,rL,λv mv=>?_⟩
  simp only[wx,Y1,or_false]at mv
  rcases mv with rfl | rfl | rfl
  ·exact mk V1 (V3 _ _ k2) (V2 _ _ k1) (lo:=none) rL (w2.tupsW (.of V1)) (zbn (.inl rL))
  ·exact mk V1 (V5 _ _ k4) (V4 _ _ k3) (w1.tupsW (.of V1)) (hi:=none) rL (zbn (.inr rL))
  ·exact mk V1 (U7 _ _ k6) (V6 _ _ k5) (lo:=none) rL (hi:=none) rL (zbn (.inl rL))
 rintro σ2 G2 hQq;rcases q:hQq with⟨L,vs',rfl,S2,hL,lv,hvs⟩
 have zlo:Sz 100 (zu g j d):=by
  have hp:=EA.G.pos;have hj:=EA.G.j;have hd:=EA.G.d;have bg:=gBd EA.G.g1 EA.G.g2
  exact .divInt ∅ (((show Bd 4 j from(show j.natAbs<2^4 by lia)).mul bg).md) (Bd.mono (m:=4) (show d.natAbs<2^4 by lia) (by decide))
 have zhi:Sz 100 (zu g j d+zC g c*(w':Rat)):=by
  have:=EA.fit.1.sp _ (vt rfl)
  exact⟨this.1,this.2.md⟩
 have z1:Sz 4000 (1:Rat):=⟨Bd.mono (m:=2) (show (1:Int).natAbs<2^2 by decide) (by decide),Bd.mono (m:=2) (show ((1:Nat):Int).natAbs<2^2 by decide) (by decide)⟩
 have st0:∀{x:Rat},xq (some (x,v))=false:=λ{x}=>by show decide (v=0)=false;exact wA hv
 refine zM (λσ' G=>∃go x,σ'=[Sr p,Sr r,Sr a,Sr sp,Sr L,Sr go,none]/\zi G2 G/\xb G (.ref go) (some (x,v))) ?_ ?_
 rotate_left
 ·intro nx hnx
  have ha2:=S2 _ _ ha
  refine⟨_,rL,a,_,_,_,rL,rL,.of ha2,at0 ..,a1,_,_,_,rL,rL,.of (S2 _ _ h1),at0 ..,zL2,λe1 he1=>?_⟩
  have U1:=zi.upd (o:=.tup [.int 1,.int 1]) he1
  have k1:zp (upd G2 e1 (.tup [.int 1,.int 1])) e1 1:=zg
  generalize upd G2 e1 (.tup [.int 1,.int 1])=K1 at U1 k1
  refine⟨p1,e1,_,1,rL,zp.same h2 (S2.trans U1),k1,⟨zlo.md,z1⟩,λx1 K2 U2 hx1=>?_⟩
  refine⟨_,rL,zL2,λgo hgo=>?_⟩
  have U3:=zi.upd (o:=.tup [.ref x1,.ref sp]) hgo
  exact hnx _ _ ⟨go,_,rL,U1.trans (U2.trans U3),go,x1,sp,rL,zg,hx1.same U3,hsp.same (S2.trans (U1.trans (U2.trans U3)))⟩
 rintro σ3 G3 hQq;rcases q:hQq with⟨go,gx,rfl,S3,hgo⟩
 refine zM (λσ' G=>∃L2 vs2,σ'=[Sr p,Sr r,Sr a,Sr sp,Sr L2,Sr go,none]/\zi G3 G/\G L2=some (.lst vs2)/\vs2.length=5/\(∀v∈vs2,Ju G v)/\G1 L2=none) ?_ ?_
 rotate_left
 ·intro nx hnx
  have S13:=S2.trans S3
  refine⟨_,rL,_,rL,_,rL,_,rL,a,_,_,_,rL,rL,.of (S13 _ _ ha),at1 ..,zL2,λe1 he1=>?_⟩
  have U1:=zi.upd (o:=.tup [.ref go,.ref a2]) he1
  have k1:upd G3 e1 (.tup [.ref go,.ref a2]) e1=some (.tup [.ref go,.ref a2]):=zg
  generalize upd G3 e1 (.tup [.ref go,.ref a2])=K1 at U1 k1
  refine⟨zL2,λz1' hz1=>?_⟩
  have U2:=zi.upd (o:=.tup [.ref r,.ref e1]) hz1
  have k2:upd K1 z1' (.tup [.ref r,.ref e1]) z1'=some (.tup [.ref r,.ref e1]):=zg
  generalize upd K1 z1' (.tup [.ref r,.ref e1])=K2 at U2 k2
  have Q2:=S13.trans (U1.trans U2)
  refine⟨_,rL,_,rL,a,_,_,_,rL,rL,.of (Q2 _ _ ha),at0 ..,_,rL,a,_,_,_,rL,rL,.of (Q2 _ _ ha),at1 ..,a2,_,_,_,rL,rL,.of (Q2 _ _ g1),at0 ..,zL2,λe2 he2=>?_⟩
  have U3:=zi.upd (o:=.tup [.int 1,.int 1]) he2
  have k3:zp (upd K2 e2 (.tup [.int 1,.int 1])) e2 1:=zg
  generalize upd K2 e2 (.tup [.int 1,.int 1])=K3 at U3 k3
  refine⟨p2,e2,_,1,rL,zp.same g2 (Q2.trans U3),k3,⟨zhi.md,z1⟩,λx2 K4 U4 hx2=>?_⟩
  refine⟨_,rL,zL2,λw5 hw5=>?_⟩
  have U5:=zi.upd (o:=.tup [.ref x2,.ref sp]) hw5
  have Q5:=Q2.trans (U3.trans (U4.trans U5))
  have k5:xb (upd K4 w5 (.tup [.ref x2,.ref sp])) (.ref w5) (some (_,v)):=⟨w5,x2,sp,rfl,zg,hx2.same U5,hsp.same Q5⟩
  generalize upd K4 w5 (.tup [.ref x2,.ref sp])=K5 at U5 Q5 k5
  refine⟨zL2,λe6 he6=>?_⟩
  have U6:=zi.upd (o:=.tup [.ref a1,.ref w5]) he6
  have k6:upd K5 e6 (.tup [.ref a1,.ref w5]) e6=some (.tup [.ref a1,.ref w5]):=zg
  generalize upd K5 e6 (.tup [.ref a1,.ref w5])=K6 at U6 k6
  refine⟨zL2,λz7 hz7=>?_⟩
  have U7:=zi.upd (o:=.tup [.ref r,.ref e6]) hz7
  have k7:upd K6 z7 (.tup [.ref r,.ref e6]) z7=some (.tup [.ref r,.ref e6]):=zg
  generalize upd K6 z7 (.tup [.ref r,.ref e6])=K7 at U7 k7
  refine⟨zL2,λL8 hL8=>?_⟩
  have U8:=zi.upd (o:=.lst [.ref z1',.ref z7]) hL8
  have k8:upd K7 L8 (.lst [.ref z1',.ref z7]) L8=some (.lst [.ref z1',.ref z7]):=zg
  generalize upd K7 L8 (.lst [.ref z1',.ref z7])=K8 at U8 k8
  have V7:=U7.trans U8
  have V6:=U6.trans V7
  have V5:=U5.trans V6
  have V3:=U3.trans (U4.trans V5)
  have V1:=U1.trans (U2.trans V3)
  refine⟨L,L8,vs',_,rfl,rfl,(S3.trans V1) _ _ hL,k8,szl (by rw[lv];show 3+2<=1000;decide),λL9 hL9=>?_⟩
  have U9:=zi.upd (o:=.lst (vs'++[.ref z1',.ref z7])) hL9
  have W1:=V1.trans U9
  refine hnx _ _ ⟨L9,_,rfl,W1,zg,by rw[wI,lv];rfl,λv' mv=>?_,?_⟩
  rotate_left
  ·cases e:G1 L9 with
   | none=>rfl
   | some o=>rw[(S13.trans V1) _ _ e]at hL9;cases hL9
  rcases wQ.mp mv with mv | mv
  ·exact(hvs v' mv).tups (.of (S3.trans W1))
  ·have SS:=S13.trans W1
   rcases wx.mp mv with rfl | mv
   ·exact mk SS ((V3.trans U9) _ _ k2) ((U2.trans (V3.trans U9)) _ _ k1) (hgo.tupsW (.of W1)) (w2.tupsW (.of SS)) (.inl (zeJ (.inl st0)))
   ·rw[wD.mp mv]
    exact mk SS ((U8.trans U9) _ _ k7) ((V7.trans U9) _ _ k6) (w1.tupsW (.of SS)) (k5.tupsW (.of (V6.trans U9))) (.inl (zeJ (.inr st0)))
 rintro σ4 G4 hQq;rcases q:hQq with⟨L2,vs2,rfl,S4,hL2,lv2,hvs2,hLn1⟩
 have S14:=S2.trans (S3.trans S4)
 have l1:=EA.l1
 have l5:=EA.l5
 have hul:=EA.R.1
 obtain⟨us0,ul,eus⟩:∃us0 ul,us=us0++[ul]:=⟨us.dropLast,us.getLast (λe=>by rw[e]at hul;simp at hul;lia),(List.dropLast_concat_getLast _).symm⟩
 have hr4:G4 r=some (.tup us):=S14 _ _ EA1.r
 have R4:=EA1.R.keeps (.of S14)
 obtain⟨bl,ebl,ba,pa,pb,eul,k1,k2,k3⟩:=R4.2 us0.length ul (by rw[eus];simp)
 subst eul
 have hlen:us.length=us0.length+1:=by rw[eus];simp
 refine⟨_,rfl,_,rfl,r,_,_,_,rfl,rfl,.of hr4,by rw[eus];exact zdF us0 (.ref ba),?_⟩
 dsimp only[zG]
 refine zM (λσ' G=>(∃vs3,G L2=some (.lst vs3)/\vs3.length<=6/\∀v∈vs3,Ju G v)/\xt p H G/\σ'=[Sr p,Sr r,Sr a,Sr sp,Sr L2,Sr go,Sr ba]) ?_ ?_
 rotate_left
 ·intro nx hnx
  refine⟨_,rfl,r,us,rfl,.inr (SqT.of hr4),_,_,rfl,rfl,_,rfl,qT (λcl=>?_) (λ_=>hnx _ _ ⟨⟨vs2,hL2,by lia,hvs2⟩,T1.same S14,rfl⟩)⟩
  have cl':1<us.length:=by have:=wG cl;lia
  obtain⟨wt,hwt⟩:=EA.wt
  have mbl:=wM ebl
  refine⟨_,rfl,.inl ⟨rfl,_,SqL.of hL2⟩,_,rfl,_,rfl,_,rfl,r,us,rfl,SqT.of hr4,by rw[eus];exact zhT us0 _,λc1 hc1=>?_⟩
  have U1:=zi.upd (o:=.tup (VN us none (some (-1)))) hc1
  have k4:upd G4 c1 (.tup (VN us none (some (-1)))) c1=some (.tup us0):=by rw[zg,eus,zdL]
  have U1':zi G4 (upd G4 c1 (.tup (VN us none (some (-1))))):=U1
  try dsimp only
  generalize upd G4 c1 (.tup (VN us none (some (-1))))=K1 at U1' k4 ⊢
  have kb:=U1' _ _ k1
  refine⟨_,rfl,ba,_,_,_,rfl,rfl,.of kb,rfl,_,rfl,ba,_,_,_,rfl,rfl,.of kb,rfl,_,rfl,ba,_,_,_,rfl,rfl,.of kb,rfl,_,_,rfl,rfl,by show (0:Int)<1000;decide,_,_,rfl,rfl,zL3,λnb hnb=>?_⟩
  have U2:=zi.upd (o:=.tup [.ref pa,.ref pb,.int (1+bl.wt % 1000)]) hnb
  have k5:upd K1 nb (.tup [.ref pa,.ref pb,.int (1+bl.wt % 1000)]) nb=some (.tup [.ref pa,.ref pb,.int (1+bl.wt % 1000)]):=zg
  generalize upd K1 nb (.tup [.ref pa,.ref pb,.int (1+bl.wt % 1000)])=K2 at U2 k5
  refine⟨zL1,λnt hnt=>?_⟩
  have U3:=zi.upd (o:=.tup [.ref nb]) hnt
  have k6:upd K2 nt (.tup [.ref nb]) nt=some (.tup [.ref nb]):=zg
  generalize upd K2 nt (.tup [.ref nb])=K3 at U3 k6
  have u0:us0≠[]:=λe=>by rw[e]at hlen;simp at hlen;lia
  refine⟨c1,nt,us0,[.ref nb],rfl,rfl,SqT.of (U3 _ _ (U2 _ _ k4)),SqT.of k6,szl (by show us0.length+1<=1000;lia),λe=>absurd e u0,λ_ e=>(by cases e),λ_ _ nr hnr=>?_⟩
  have U4:=zi.upd (o:=.tup (us0++[.ref nb])) hnr
  have k7:upd K3 nr (.tup (us0++[.ref nb])) nr=some (.tup (us0++[.ref nb])):=zg
  generalize upd K3 nr (.tup (us0++[.ref nb]))=K4 at U4 k7
  refine⟨_,rL,zL2,λz hz=>?_⟩
  have U5:=zi.upd (o:=.tup [.ref nr,.ref a]) hz
  have k8:upd K4 z (.tup [.ref nr,.ref a]) z=some (.tup [.ref nr,.ref a]):=zg
  generalize upd K4 z (.tup [.ref nr,.ref a])=K5 at U5 k8
  have V2:=U2.trans (U3.trans (U4.trans U5))
  have V1:=U1'.trans V2
  have hL5:=V1 _ _ hL2
  refine⟨L2,vs2,_,rL,rL,hL5,szl ∅,?_⟩
  have tu:=xp.upd (o:=.lst (vs2++[.ref z])) hL5
  have SS:=S14.trans V1
  refine hnx _ _ ⟨⟨vs2++[.ref z],zg,by rw[wI,lv2];show 5+1<=6;decide,λv' mv=>?_⟩,?_,rfl⟩
  ·rcases wQ.mp mv with mv | mv
   ·exact((hvs2 v' mv).tups (.of V1)).tups tu
   ·rw[wD.mp mv]
    refine Ju.tups ?_ tu
    have Rt:qe K5 us0 (bs.take us0.length):=by
     refine⟨by rw[yj];lia,λi w e=>?_⟩
     have hi:=(wP.mp e).1
     obtain⟨b',e1,e2⟩:=(R4.keeps (.of V1)).2 i w (by rw[eus,wU hi];exact e)
     exact⟨b',by rw[We,if_pos hi];exact e1,e2⟩
    have Rn:=Rt.snoc (v:=.ref nb) (b:=⟨bl.pl,bl.sp,1+bl.wt % 1000⟩) ⟨nb,pa,pb,rfl,(U3.trans (U4.trans U5)) _ _ k5,zp.same k2 V1,zp.same k3 V1⟩
    have hb0':(bs.take us0.length++[(⟨bl.pl,bl.sp,1+bl.wt % 1000⟩:Bl)])[0]? = some b0:=by
     rw[wU (by rw[yj];lia),We,if_pos ∅];exact hb0
    have w0:b0.wt=wt:=hwt b0 (wM hb0)
    have wl:bl.wt=wt:=hwt bl mbl
    refine⟨z,nr,a,_,b0,_,_,rfl,k8,⟨⟨_,U5 _ _ k7,Rn⟩,⟨_,_,SS _ _ ha,w1.tupsW (.of SS),w2.tupsW (.of SS)⟩,by simp,by simp;lia⟩,hb0',.inl (ziR (c:=⟨bl.pl,bl.sp,1+bl.wt % 1000⟩) (by simp) ?_)⟩
    show 1+bl.wt % 1000≠b0.wt
    rw[w0,wl];lia
  ·have TT:xt p H K5:=T1.same SS
   have np:L2≠p:=λe=>by obtain⟨x,y,z',e2⟩:=T1.pool;rw[e,e2]at hLn1;cases hLn1
   refine⟨?_,λb' o e ne=>?_⟩
   ·obtain⟨x,y,z',e2⟩:=TT.pool
    exact⟨x,y,z',by rw[zO (Ne.symm np)];exact e2⟩
   ·have:b'≠L2:=λe'=>by rw[e']at e;rw[T1.keep _ _ e np]at hLn1;cases hLn1
    rw[zO this];exact TT.keep _ _ e ne
 rintro σ5 G5 hQq;rcases q:hQq with⟨⟨vs3,hL3,lv3,hvs3⟩,T5,rfl⟩
 exact⟨_,rL,k L2 vs3 _ T5 hL3 lv3 hvs3⟩
section
variable {H:Hp}{r r0 a q u:Addr}{us us0:List V}{bs:List Bl}{g j d c w jp dp:Int}{k:Int}{n:Nat}{y:Rat}
theorem zdM (h:EvA H r0 a us0 bs g j d c w jp dp) (n1:2<=n) (n2:n<=1000) (hr:H r=some (.tup us)) (hR:qe H us (deB (zu g j d) (zC g c*(w:Rat)) n)) (hk:0<=k/\k<2) (hq:zp H q (zu g j d)) (hu:zp H u 0){um:Addr}{ms:List V}{qs:List Rat}(h1:H um=some (.lst ms)) (h2:Zy H ms qs) (h3:ms.length<=2000){CM:Addr}{Q:VK}{E:XK}
  (kk:∀b H',zi H H'->Q (.bl b) H'):zbv CM [.ref r,.ref a,.int k,.ref q,.ref u,.ref um] H Q E :=
 ⟨_,_,_,_,_,um,ms,qs,rfl,h1,h2,h3,zbN h n1 n2 hr hR hk hq hu λv H' S ⟨d,e1,e2⟩=>⟨S,d,e1,e2,λH'' S2=>kk _ _ (S.trans S2)⟩⟩
theorem zcO (h:EvA H r0 a us0 bs g j d c w jp dp) (hr:H r=some (.tup us)) (hR:qe H us (deB (zu g j d) (zC g c*(w:Rat)) n)) (hk:¬(0<=k/\k<2)){u4 u5:V}{CB:Addr}{Q:VK}{E:XK}(kk:∀H',zi H H'->E (.ref CB) none H'):VC CB [.ref r,.ref a,.int k,u4,u5] H Q E :=
 ⟨r,a,k,u4,u5,_,_,_,_,rfl,zbL h hr hR,rfl,zbM,hk,kk⟩
theorem za1 (h:EvA H r0 a us0 bs g j d c w jp dp) (hr:H r=some (.tup us)) (hR:qe H us (deB (zu g j d) (zC g c*(w:Rat)) n)) (hk:0<=k/\k<2) (hq:zp H q y) (zy:Sz 4000 y) (hy:y<zu g j d\/zu g j d+zC g c*(w:Rat)<y){u5:V}{CP:Addr}{Q:VK}{E:XK}(kk:∀H',zi H H'->E (.ref CP) none H'):VD CP [.ref r,.ref a,.int k,.ref q,u5] H Q E:=by
 have z:=h.fit.1
 have s1:=z.sp _ (qQ rfl)
 have s2:=z.sp _ (vt rfl)
 exact⟨r,a,k,q,u5,_,_,_,_,0,0,y,rL,zbL h hr hR,rL,zbM,hk.1,hk.2,hq,⟨s1.1.md,s1.2.md⟩,⟨s2.1.md,s2.2.md⟩,zy,hy,kk⟩
end
end KK
namespace L2
open PySem PySem.Spec PyProof.Rows PySem.W
def XT (a C:Addr):HO:=.ext λh=>∃ox vs,h.get? a=some ox/\ox.cls = .ref C/\ox.data = .fields vs/\ox.dict=none
theorem zkG {P:Program}{w:World}{H:Hp}{h:Heap}{a C:Addr}{ox:Obj}{vs:Array Value}(e:h.get? a=some ox) (c:ox.cls = .ref C) (d:ox.data = .fields vs) (k:ox.dict=none):xE P w H h a (XT a C) :=
 ⟨⟨ox,vs,e,c,d,k⟩,⟨ox,e⟩,λh1 h2 ⟨o,us,e1,r⟩ q=>⟨o,us,q _ e1,r⟩⟩
theorem zcy {P:Program}{w:World}{H:Hp}{h:Heap}{a C:Addr}(x:HOk P w H h) (e:H a=some (XT a C)):∃ox od,InstAt h a ox C od:=by
 obtain⟨ox,vs,g1,g2,g3,g4⟩:=(show xE P w H h a (XT a C)from x a _ e).1
 exact⟨ox,none,g1,g2,by unfold notCls;rw[g3],by rw[g4];trivial⟩
section
variable {X:Cx}{pz:List (Addr×Obj)}{σ:St}{H:Hp}{s:Shared}
theorem Inv.keptX {a C:Addr}{oe:Obj}{vs:Array Value}(ok:X.Ok) (I:Inv (X.suite pz a oe) [] σ H s) (hc:oe.cls = .ref C) (hd:oe.data = .fields vs) (hk:oe.dict=none) (hs:X.s₀.heap.get? a=none) (hp:∀p∈X.pn++pz,p.1≠a):Inv X pz σ (upd H a (XT a C)) s:=by
 have J:=I.unsuite ok
 obtain⟨g1,g2,g3,g4,g5⟩:=I.pin (a,oe) (by
  rw[yB]
  exact wV _ (wV _ (wD.mpr rL)))
 have g1:s.heap.get? a=some oe:=g1
 have g2:H a=none:=g2
 have g3:a≠X.env.locals:=g3
 refine⟨ok,J.os,J.bare,⟨J.base.keep,J.base.slot,λb o e n hx=>?_,J.base.there,λb xs q=>?_,λb o xs q=>?_,λb ps q=>?_⟩,J.loc,J.cell,?_,λx c e=>?_,λp m=>?_,λb u q=>?_,J.len⟩
 ·rw[zO λz=>by rw[z,hs]at e;cases e];exact J.base.free b o e n hx
 ·have:=J.base.tups b xs q
  rw[zO (zQ this g2)];exact this
 ·have:=J.base.frzs b o xs q
  rw[zO (zQ this g2)];exact this
 ·obtain⟨m,e⟩:=J.base.tbls b ps q
  exact⟨m,by rw[zO (zQ e g2)];exact e⟩
 ·rw[zO (Ne.symm g3)];exact J.free
 ·obtain⟨v,hv⟩:=J.cell x c e
  rw[zO λz=>?_];exact J.freeC x c e
  subst z
  obtain⟨o,ho,hv'⟩:=hv
  rw[g1]at ho;cases ho
  exact g5 v hv'
 ·obtain⟨q1,q2,q3,q4,q5⟩:=J.pin p m
  exact⟨q1,by rw[zO (hp p m)];exact q2,q3,q4,q5⟩
 ·by_cases hb:b=a
  ·subst hb;rw[zg]at q;cases q;exact zkG g1 hc hd hk
  ·rw[zO hb]at q
   exact(J.hok b u q).stay (λc v _ z=>z) (λc z=>by rw[zO (zQ z g2)];exact z) λc xs z=>by rw[zO (zQ z g2)];exact z
end
def Zf.kept (i:Nat) (a C:Addr) (D:Zf):Zf:={ nx:=λσ H=>D.nx (σ.set i none) (upd H a (XT a C)),rt:=λv H=>D.rt v (upd H a (XT a C)),bk:=λσ H=>D.bk (σ.set i none) (upd H a (XT a C)),ct:=λσ H=>D.ct (σ.set i none) (upd H a (XT a C)) }
def zkE (i:Nat) (C:Addr) (tb:XJ->TS) (ts:Addr->TS):TS:=λD σ H =>
 tb (λC' d σ' H'=>C'=C/\d=none/\∀a,H' a=none->ts a (D.kept i a C) (σ'.set i (some (.ref a))) H') D σ H
section
variable {X:Cx}{i:Nat}{x n:Str}{C:Addr}{np hpos pos:Pos}{body suite:List Stmt}{b₀:Stmt}{tb:XJ->TS}{ts:Addr->TS}
theorem zgD {Dc:Addr}(hex:X.ex=[]) (hst:X.stack=X.env::X.outer) (hfr:X.env.frame=some X.env.locals) (hm:X.mg x=some (.ref Dc)) (hx:exmOne X.K (.ref C) (.ref Dc)=some true) (hN:X.N.Nodup) (hi:X.N[i]? = some n) (hk:X.env.kindOf n=some .local)
  (hb:∀pz W J,zbE (X.tried pz W) J->PSs (X.tried pz W) body (tb J)) (hs:∀pz a oe vs,oe.cls = .ref C->oe.dict=none->oe.data = .fields vs->PSs (X.suite pz a oe) (b₀::suite) (ts a))
  (hg:Gl X x:=by rfl) (hd:(x == ("__debug__":Str))=false:=by decide) :
  PS X (.Try body [.ExceptHandler (some (.Name x np)) (some n) (b₀::suite) hpos] [] [] pos) (zkE i C tb ts):=by
 intro pz s σ H D I h
 have hb':=hb pz (λe s₁=>wpAny (model X.prog X.w) X.A (noteFrame e X.env) (λ_ s₂=>wpAny (model X.prog X.w) X.A (setFlight e none) (λ_ s₃ =>
  wpAny (model X.prog X.w) X.A (handleBy e X.env [.ExceptHandler (some (.Name x np)) (some n) (b₀::suite) hpos]) (SP X pz D) X.xe s₃) X.xe s₂) X.xe s₁) _ ?_ [] s σ H D (I.tried _) h
 ·refine wpAny_Try_except (yZ hb' (λf s1 hf=>?_) λ_ _ z=>z)
  cases f with
  | next=>obtain⟨σ',H',I',q⟩:=hf;exact WR ⟨σ',H',I'.untried I.ok,q⟩
  | brk=>obtain⟨σ',H',I',q⟩:=hf;exact⟨σ',H',I'.untried I.ok,q⟩
  | cont=>obtain⟨σ',H',I',q⟩:=hf;exact⟨σ',H',I'.untried I.ok,q⟩
  | ret u=>obtain⟨v,σ',H',I',r,q⟩:=hf;exact⟨v,σ',H',I'.untried I.ok,r,q⟩
 ·intro pz' σ' H1 s1 a C' H' s' B a0 dct I1 F hq
  obtain⟨rfl,rfl,q⟩:=hq
  have I1p:=I1
  have I1:=I1.untried I.ok
  have hfrm:X.A.frames=some (X.env::X.outer):=by rw[<-hst];exact I.ok.frames
  have F:Fly X.prog X.w X.stack H1 s1 C' H' a s' B a0 none:=F
  have Ffl:FlX B (X.env::X.outer) a (.ref C') a0 none s'.heap:=by rw[<-hst];exact F.fly
  have hnew:s1.heap.get? a=none:=by
   cases z:s1.heap.get? a with
   | none=>rfl
   | some o =>
    by_cases ha:a∈frs X.stack
    ·obtain⟨oe,vs,g1,_,_,g4⟩:=F.fly.first
     obtain⟨_,o',ho',hnf⟩:=F.fly.2.2.1.mem ha
     rw[g1]at ho';cases ho'
     exact absurd g4 (hnf vs)
    ·obtain⟨⟨o',e'⟩,_⟩:=F.kb a o z ha
     rw[F.fly.2.1]at e';cases e'
  have hs0:X.s₀.heap.get? a=none:=by
   cases z:X.s₀.heap.get? a with
   | none=>rfl
   | some o =>
    obtain⟨o',e'⟩:=I1.base.there a o z (by rw[hex];exact Y1)
    rw[hnew]at e';cases e'
  have hpn:∀p∈X.pn++pz,p.1≠a:=λp m z=>by
   have:=(I1p.pin p (yP _ m)).1
   rw[z,hnew]at this;cases this
  refine zb5 hfrm hfr Ffl λh4 held up4=>?_
  refine QY held λh5 fl5 up5=>?_
  have F5:=F.move (by rw[hst];exact fl5) (up4.trans up5)
  have I5:=I1.call' F5.os F5.un F5.hok F5.bare (λb z=>absurd z (by simp))
  obtain⟨ob,hob,hobc⟩:=fl5.there
  refine wpAny_handleBy_cons (codeAny_handlers_test (Z4 (X:=X.testing a) (I5.test a) hg hm ?_ hd)) (by intro q;cases q)
  obtain⟨hh,g,d,tk,os⟩:=s'
  refine(exm_one (M:=model X.prog X.w) I5.kIn (zkF hob hobc) hx).here (codeAny_handlers_suite_as ?_)
  refine QY fl5.held λh6 fl6 up6=>?_
  have F6:=F5.move (by rw[hst];exact fl6) up6
  have I6:=I1.call' F6.os F6.un F6.hok F6.bare (λb z=>absurd z (by simp))
  obtain⟨oe,ws,hoe,hoec,hoet,hoed⟩:=fl6.first
  refine Ze (X:=X.suite pz a oe) (I6.suite hoe hoed F6.untracked) hN hi (.inl hk) (v:=.ref a) rL (λs7 I7=>?_) (.inr hk)
  refine yZ (hs pz a oe ws hoec hoet hoed [] s7 _ H' (D.kept i a C') I7 (q a F6.untracked)) (λf s8 hf=>?_) λ_ _ z=>z.elim
  cases f with
  | next=>obtain⟨σ8,H8,I8,q8⟩:=hf;exact QV (I8.keptX I.ok hoec hoed hoet hs0 hpn) hN hi hk λs9 I9=>⟨_,_,I9,q8⟩
  | brk=>obtain⟨σ8,H8,I8,q8⟩:=hf;exact QV (I8.keptX I.ok hoec hoed hoet hs0 hpn) hN hi hk λs9 I9=>⟨_,_,I9,q8⟩
  | cont=>obtain⟨σ8,H8,I8,q8⟩:=hf;exact QV (I8.keptX I.ok hoec hoed hoet hs0 hpn) hN hi hk λs9 I9=>⟨_,_,I9,q8⟩
  | ret u=>obtain⟨v,σ8,H8,I8,r8,q8⟩:=hf;exact QV (I8.keptX I.ok hoec hoed hoet hs0 hpn) hN hi hk λs9 I9=>⟨_,_,_,I9,r8,q8⟩
end
def zaT (H:Hp) (K:Fg) (v:V) (t:Value):Prop:=(v = .non/\t = .type "NoneType")\/∃a C,v = .ref a/\t = .ref C/\H a=some (XT a C)/\zfK K C
section
variable {X:Cx}
theorem ZD:vi X (.builtin "isinstance") (λxs H Q=>∃v t x c b,xs=[v,x]/\zaT H X.K v t/\xi x c/\(∀u,xi x u->u=c)/\kitOne X.K t c=some b/\Q (.bl b) H):=by
 intro pz s σ H xs us Q I r h
 obtain⟨v,t,x,c,b,rfl,hk,rx,ux,e,q⟩:=h
 obtain⟨u,v',rfl,r1,r2⟩:=Js r
 cases ux _ r2
 rcases hk with⟨rfl,rfl⟩ | ⟨a,C,rfl,rfl,ea,Z⟩
 ·cases(show u=Value.none from r1)
  exact kia_one kitx_none I.kIn trivial e (λz=>nomatch z) λtk=>⟨.bl b,H,I.tok tk,rL,q⟩
 ·cases(show u=Value.ref a from r1)
  obtain⟨ox,od,hI⟩:=zcy I.hok ea
  exact kia_one (zam Z) I.kIn ⟨ox,od,hI⟩ e (λz=>nomatch z) λtk=>⟨.bl b,H,I.tok tk,rL,q⟩
theorem zcD:vi X (.builtin "isinstance") (λxs H Q=>∃(v:V) (t:Value) (tp:Addr) (cs:List Addr) (b:Bool),xs=[v,.ref tp]/\zaT H X.K v t/\H tp=some (.tup (cs.map V.ref))/\kitAny X.K t (cs.map Value.ref)=some b/\Q (.bl b) H):=by
 intro pz s σ H xs us Q I r h
 obtain⟨v,t,tp,cs,b,rfl,hk,ht,e,q⟩:=h
 obtain⟨u,w',rfl,r1,r2⟩:=Js r
 cases(show w'=Value.ref tp from r2)
 obtain⟨_,its,rv,⟨cls,dd,data,sl⟩,h1,h2,n,h3⟩:=(show xE X.prog X.w H s.heap tp (.tup (cs.map V.ref))from I.hok tp _ ht)
 simp only at h2 h3
 subst h2 h3
 have ei:=Jt rv
 subst ei
 rcases hk with⟨rfl,rfl⟩ | ⟨a,C,rfl,rfl,ea,Z⟩
 ·cases(show u=Value.none from r1)
  exact kia_tup kitx_none I.kIn trivial h1 e (λz=>nomatch z) λtk=>⟨.bl b,H,I.tok tk,rL,q⟩
 ·cases(show u=Value.ref a from r1)
  obtain⟨ox,od,hI⟩:=zcy I.hok ea
  exact kia_tup (zam Z) I.kIn ⟨ox,od,hI⟩ h1 e (λz=>nomatch z) λtk=>⟨.bl b,H,I.tok tk,rL,q⟩
end
section
variable {J:It}{D:Addr}{n:Nat}{σ:St}{g:TG}{tt:TT}{te:TE}{Z:Hp->Prop}{H:Hp}{xs:List V}
theorem zcM (F:Nat->Option V) (hD:H D=none) (hJ:J9 J H xs) (hl:xs.length<sizeLine)
  (hs:∀(i:Nat) (x:V) (zs:St) (H2:Hp) (A:VK) (B:Hp->Prop),xs[i]? = some x->zs.length=n->zi H H2->(∀v,F i=some v->A v H2)->(F i=none->B H2)->g x zs H2 λσ4 H4=>tt σ4 H4 λb H5=>if b=true then te σ4 H5 A else B H5)
  (k:∀H',zi H H'->H' D=some (.lst ((List.range xs.length).filterMap F))->Z H') :
  ∃W:Nat->Nat->Hp->List V->Prop,(∃m,W 0 m (upd H D (.lst [])) [])/\∀i m H2 ys,W i m H2 ys->H2 D=some (.lst ys)->(J.stop i H2/\Z H2) ∨
   (J.go i H2/\∀σB x H3,σB.length=n->J.yld i H2 x H3->g x σB H3 λσ4 H4=>tt σ4 H4 λb H5=>if b=true then te σ4 H5 (λv H6=>H6 D=some (.lst ys)/\ys.length<sizeLine/\∃m',m'<m/\W (i+1) m' (upd H6 D (.lst (ys++[v]))) (ys++[v]))
    else H5 D=some (.lst ys)/\∃m',m'<m/\W (i+1) m' H5 ys):=by
 refine XR (Q:=λ_ H=>Z H) (tt:=tt) (N:=xs.length) (λi H2 ys=>zi H H2/\ys=(List.range i).filterMap F) ⟨zi.upd hD,rfl⟩ (λi H2 ys hi p=>hJ.go i H2 hi p.1) (λH2 ys p=>hJ.stop H2 p.1) ?_ (λH2 ys q e=>k H2 q.1 (by rw[e,q.2]))
 rintro i x zs H2 H3 ys Nx hN hi hz hy ⟨s2,rfl⟩ hD2
 obtain⟨rfl,hx⟩:=hJ.yld i x H2 H3 s2 hy
 refine hs i x zs H3 _ _ hx hz s2 (λv hv=>⟨hD2,?_,hN _ _ ⟨λc o e=>?_,?_⟩⟩) (λhv=>⟨hD2,hN _ _ ⟨s2,?_⟩⟩)
 ·have:=List.length_filterMap_le F (List.range i)
  rw[yG]at this
  lia
 ·rw[zO (zQ e hD)];exact s2 _ _ e
 ·rw[Yn,List.filterMap_append];simp[hv]
 ·rw[Yn,List.filterMap_append];simp[hv]
end
end L2
namespace KK
open PySem L2 KM
variable {P:Program}{w:World}{K:Fg}{mg:Str->Option Value}{base:Heap}{C C0 CE CB CP CM aN:Addr}
structure Xc (K:Fg) (mg:Str->Option Value) (C0 CE CB CP CM:Addr) where
 c0:Addr
 c1:Addr
 c2:Addr
 c3:Addr
 c4:Addr
 c5:Addr
 c6:Addr
 c7:Addr
 m0C:mg "ClackError" = some (.ref C0)
 m0:mg "NoRatio" = some (.ref c0)
 m1:mg "NoEnd" = some (.ref c1)
 m2:mg "NoRow" = some (.ref c2)
 m3:mg "NoText" = some (.ref c3)
 m4:mg "NoOrder" = some (.ref c4)
 m5:mg "NoPast" = some (.ref c5)
 m6:mg "Together" = some (.ref c6)
 m7:mg "Shut" = some (.ref c7)
 mE:mg "NotEven" = some (.ref CE)
 mB:mg "NoBall" = some (.ref CB)
 mP:mg "NoPlace" = some (.ref CP)
 mM:mg "TooMany" = some (.ref CM)
 nVE:mg "ValueError" = none
def Xc.cs {K:Fg}{mg:Str->Option Value}{C0 CE CB CP CM:Addr}(X:Xc K mg C0 CE CB CP CM):List Addr:=[X.c0,X.c1,X.c2,X.c3,X.c4,X.c5,X.c6,X.c7]
structure Xk (K:Fg) (cs:List Addr) (t:Value) (CE CB CP CM:Addr) (b1 b2 b3 b4:Bool):Prop where
 ot:PySem.W.kitAny K t (cs.map Value.ref)=some false
 k1:PySem.W.kitOne K t (.ref CE)=some b1
 k2:PySem.W.kitOne K t (.ref CB)=some b2
 k3:PySem.W.kitOne K t (.ref CP)=some b3
 k4:PySem.W.kitOne K t (.ref CM)=some b4
structure Xr (K:Fg) (C C0:Addr):Prop where
 ve:PySem.W.kitOne K (.ref C) (.type "ValueError")=some true
 ex:PySem.W.exmOne K (.ref C) (.ref C0)=some true
 z:zfK K C
def zhI (b1 b2 b3 b4:Bool) (i:Nat):Option V:=match i with
 | 0=>if b1 then some (.str "even")else none
 | 1=>if b2 then some (.str "ball")else none
 | 2=>if b3 then some (.str "place")else none
 | _=>if b4 then some (.str "many")else none
def zhJ (b1 b2 b3 b4:Bool):List V:=(List.range 4).filterMap (zhI b1 b2 b3 b4)
theorem QG:zA ["way","row","walls","k","place","t","caught","e","some"] ["way","row","walls","k","place","t"] (zk qj):=scq
inductive Qd (sp0:Sp) (sp1:Sp) (g:Bool) (C:Addr) (b1:Bool) (b2:Bool) (b3:Bool) (b4:Bool) (vs:List V) (H:Hp) (Q:VK) (_e3:XK):Prop
 | mk:∀(wy:Int) (u1 u2 u3 u4 u5:V),(vs=[.int wy,u1,u2,u3,u4,u5])->(((wy=0/\∀(H1:Hp) (Q:VK) (E:XK),zi H H1->(g=true->∀v H',zi H1 H'->Q v H')->(g=false->∀H',zi H1 H'->E (.ref C) none H')->sp0 [u1,u2,u3,u4,u5] H1 Q E)\/(wy=1/\∀(H1:Hp) (m:Addr) (Q:VK) (E:XK),zi H H1->H1 m=some (.lst [u5])->(g=true->∀v H',zi H1 H'->Q v H')->(g=false->∀H',zi H1 H'->E (.ref C) none H')->sp1 [u1,u2,u3,u4,u5,.ref m] H1 Q E)))->(∀l H',zi H H'->H' l=some (.lst (zhJ b1 b2 b3 b4))->Q (.ref l) H')->Qd sp0 sp1 g C b1 b2 b3 b4 vs H Q _e3
def RfB (P:Program) (w:World) (K:Fg) (mg:Str->Option Value) (base:Heap) (sp:Sp):Prop:=∀(f:Addr) (cdv:Value) (A:Around) (outer:List Env) (s:Shared) (H:Hp) (vs:List V) (Q:VK) (E:XK),z6 11 (A.deeper (PyProof.Rows.envOfC "_law_refused" (zk qj) s.heap.objs.size f cdv))->sp vs H Q E →
 ∃t,Bx (PSs (zU CX0 P w K mg base ["way","row","walls","k","place","t","caught","e","some"] "_law_refused" (zk qj) f cdv A outer s H E).nox (zZ qj) t)/\t { nx:=λ_ H'=>Q .non H',rt:=Q } (vv ["way","row","walls","k","place","t","caught","e","some"] vs) H
theorem zar {sp0 sp1:Sp}{g b1 b2 b3 b4:Bool}(T:TxB K mg) (X:Xc K mg C0 CE CB CP CM) (R:g=false->Xr K C C0) (hx:PySem.W.exmOne K (.ref C) (.ref C0)=some true) (kk:Xk K X.cs (if g then .type "NoneType" else .ref C) CE CB CP CM b1 b2 b3 b4)
  (cWh:vm P w K mg base "when" 10 ["row","walls","k","place","t"] [] sp0) (cLn:vm P w K mg base "lets_never" 11 ["row","walls","k","place","t","moments"] [] sp1):RfB P w K mg base (Qd sp0 sp1 g C b1 b2 b3 b4):=by
 intro f0 cdv A outer s H vs Q E hr h
 have hr10:z6 10 _:=hr.md
 rcases q:h with⟨wy,u1,u2,u3,u4,u5,rfl,hsp,q⟩
 refine⟨_,(xF (Bx.mk (psl (i:=6) QG.nd xf))
  (xF (Bx.mk (zgD (i:=7) (C:=C) rfl rfl rfl X.m0C hx QG.nd rfl rfl (λpz W J hJ=>(zj (zX (zE Zb (pv 0) zh (zF _)) (zj (xm (Xg cWh hr10 hJ (za (pv 1) (za (pv 2) (za (pv 3) (za (pv 4) (za (pv 5) zd)))))))) (zj (xm (Xg cLn hr hJ (za (pv 1) (za (pv 2) (za (pv 3) (za (pv 4) (za (pv 5) (za (zV (za (pv 5) zd)) zd)))))))))))) (λpz a oe vs hc hdd hdt=>(zj (psl (i:=6) QG.nd (pv 7))))))
  (xF (Bx.mk (psl (i:=8) QG.nd (zV (za (zH (za xG (za (zJ ZD (by rfl) T.nIs ym (za (pv 6) (za (qa (v:=.ref CE) (by rfl) X.mE rfl) zd))) zd))) (za (zH (za xG (za (zJ ZD (by rfl) T.nIs ym (za (pv 6) (za (qa (v:=.ref CB) (by rfl) X.mB rfl) zd))) zd))) zd)))))
  (xF (Bx.mk (psl (i:=8) QG.nd (zr JO (pv 8) (zV (za (zH (za xG (za (zJ ZD (by rfl) T.nIs ym (za (pv 6) (za (qa (v:=.ref CP) (by rfl) X.mP rfl) zd))) zd))) (za (zH (za xG (za (zJ ZD (by rfl) T.nIs ym (za (pv 6) (za (qa (v:=.ref CM) (by rfl) X.mM rfl) zd))) zd))) zd))))))
  (xF (Bx.mk (zX (xD (zJ zcD (by rfl) T.nIs ym (za (pv 6) (za (zH (za (qa (v:=.ref X.c0) (by rfl) X.m0 rfl) (za (qa (v:=.ref X.c1) (by rfl) X.m1 rfl) (za (qa (v:=.ref X.c2) (by rfl) X.m2 rfl) (za (qa (v:=.ref X.c3) (by rfl) X.m3 rfl) (za (qa (v:=.ref X.c4) (by rfl) X.m4 rfl) (za (qa (v:=.ref X.c5) (by rfl) X.m5 rfl) (za (qa (v:=.ref X.c6) (by rfl) X.m6 rfl) (za (qa (v:=.ref X.c7) (by rfl) X.m7 rfl) zd))))))))) zd))) λ_=>rfl) (zj (zD (zV (za xG zd)))) zN))
  (xF (Bx.mk (zX ((vV (zE vO (pv 6) xf (zF _)) (vd (vn (xD (zJ ZD (by rfl) T.nIs ym (za (pv 6) (za (X9 (v:=.ty "ValueError") (u:=.type "ValueError") (by rfl) X.nVE (by decide +kernel) rfl) zd))) λ_=>rfl))))).pt (zj (zD (zV (za xG zd)))) zN))
  (Bx.mk (zj (zD (vc (NB:=["word","so"]) rfl (by decide +kernel) (by decide +kernel) rfl (by decide +kernel) (xh (pv 8)) (by intro _ _ _;refine⟨?_,?_,?_⟩;(exact(Z6 (K:=K) (n:=2) rfl rfl (zP (pgl (i:=0) (show List.Nodup (["word","so"]:List Str) by decide +kernel)) (zP (pgl (i:=1) (show List.Nodup (["word","so"]:List Str) by decide +kernel)) xI))));(exact(Qb (Qw (K:=K) rfl (pv 1) λ_=>rfl)));(exact(pv 0))))))))))))),?_⟩
 try dsimp only[zU,Cx.nox]
 refine Q8 ?_
 dsimp only[zG]
 refine zM (λσ' G=>∃v,σ'=[Si wy,some u1,some u2,some u3,some u4,some u5,some v,none,none]/\zi H G/\((g=true/\v = .non)\/(g=false/\∃a,v = .ref a/\G a=some (XT a C)))) ?_ ?_
 rotate_left
 ·intro nx hnx
  rcases hsp with⟨rfl,hsp⟩ | ⟨rfl,hsp⟩
  ·refine⟨_,rL,rL,_,rL,xw ?_⟩
   refine⟨_,rL,_,rL,_,rL,_,rL,_,rL,?_⟩
   dsimp only[Zv]
   refine hsp _ _ _ (zi.refl _) (λhg v H1 S1=>hnx _ _ ⟨_,rL,S1,.inl ⟨hg,rL⟩⟩) λhg H1 S1=>⟨C,rL,rL,rL,λa ha=>?_⟩
   exact⟨_,rL,hnx _ _ ⟨_,rL,S1.trans (zi.upd ha),.inr ⟨hg,a,rL,zg⟩⟩⟩
  ·refine⟨_,rL,rL,_,rL,xc ?_⟩
   refine⟨_,rL,_,rL,_,rL,_,rL,_,rL,_,rL,zL1,λm hm=>?_⟩
   refine hsp _ m _ _ (zi.upd hm) zg (λhg v H1 S1=>hnx _ _ ⟨_,rL,(zi.upd hm).trans S1,.inl ⟨hg,rL⟩⟩) λhg H1 S1=>⟨C,rL,rL,rL,λa ha=>?_⟩
   exact⟨_,rL,hnx _ _ ⟨_,rL,(zi.upd hm).trans (S1.trans (zi.upd ha)),.inr ⟨hg,a,rL,zg⟩⟩⟩
 rintro σ1 H1 ⟨v,rfl,S1,hv⟩
 have KA:∀G,zi H1 G->zaT G K v (if g then .type "NoneType" else .ref C):=λG SG=>by
  rcases hv with⟨rfl,rfl⟩ | ⟨rfl,a,rfl,ha⟩
  ·exact .inl ⟨rL,rL⟩
  ·exact .inr ⟨a,C,rL,rL,SG _ _ ha,(R rL).z⟩
 have hve:v = .non\/PySem.W.kitOne K (if g then .type "NoneType" else .ref C) (.type "ValueError")=some true:=by
  rcases hv with⟨rfl,rfl⟩ | ⟨rfl,a,rfl,ha⟩
  ·exact .inl rL
  ·exact .inr (R rL).ve
 have k1:=kk.k1
 have k2:=kk.k2
 have k3:=kk.k3
 have k4:=kk.k4
 have ot:=kk.ot
 generalize (if g then Value.type "NoneType" else Value.ref C)=t at KA hve k1 k2 k3 k4 ot
 clear kk hv hsp
 refine vI λnx hnx=>?_
 refine⟨_,rL,v,t,_,_,b1,rL,KA _ (zi.refl _),rL,λ_ z=>z,k1,zL2,λp1 hp1=>?_⟩
 have s1:=zi.upd (o:=.tup [.str "even",.bl b1]) hp1
 have e1:upd H1 p1 (.tup [.str "even",.bl b1]) p1=some (.tup [.str "even",.bl b1]):=zg
 generalize upd H1 p1 (.tup [.str "even",.bl b1])=G1 at s1 e1 ⊢
 refine⟨_,rL,v,t,_,_,b2,rL,KA _ s1,rL,λ_ z=>z,k2,zL2,λp2 hp2=>?_⟩
 have s2:=zi.upd (o:=.tup [.str "ball",.bl b2]) hp2
 have e2:upd G1 p2 (.tup [.str "ball",.bl b2]) p2=some (.tup [.str "ball",.bl b2]):=zg
 generalize upd G1 p2 (.tup [.str "ball",.bl b2])=G2 at s2 e2 ⊢
 refine⟨zL2,λl1 hl1=>?_⟩
 have s3:=zi.upd (o:=.lst [.ref p1,.ref p2]) hl1
 have e3:upd G2 l1 (.lst [.ref p1,.ref p2]) l1=some (.lst [.ref p1,.ref p2]):=zg
 generalize upd G2 l1 (.lst [.ref p1,.ref p2])=G3 at s3 e3 ⊢
 dsimp only[zG]
 refine hnx _ _ ?_
 have s13:=s1.trans (s2.trans s3)
 refine vI λnx hnx=>?_
 refine⟨_,rL,?_⟩
 refine⟨_,rL,v,t,_,_,b3,rL,KA _ s13,rL,λ_ z=>z,k3,zL2,λp3 hp3=>?_⟩
 have s4:=zi.upd (o:=.tup [.str "place",.bl b3]) hp3
 have e4:upd G3 p3 (.tup [.str "place",.bl b3]) p3=some (.tup [.str "place",.bl b3]):=zg
 generalize upd G3 p3 (.tup [.str "place",.bl b3])=G4 at s4 e4 ⊢
 have s14:=s13.trans s4
 refine⟨_,rL,v,t,_,_,b4,rL,KA _ s14,rL,λ_ z=>z,k4,zL2,λp4 hp4=>?_⟩
 have s5:=zi.upd (o:=.tup [.str "many",.bl b4]) hp4
 have e5:upd G4 p4 (.tup [.str "many",.bl b4]) p4=some (.tup [.str "many",.bl b4]):=zg
 generalize upd G4 p4 (.tup [.str "many",.bl b4])=G5 at s5 e5 ⊢
 refine⟨zL2,λl2 hl2=>?_⟩
 have s6:=zi.upd (o:=.lst [.ref p3,.ref p4]) hl2
 have e6:upd G5 l2 (.lst [.ref p3,.ref p4]) l2=some (.lst [.ref p3,.ref p4]):=zg
 generalize upd G5 l2 (.lst [.ref p3,.ref p4])=G6 at s6 e6 ⊢
 have s46:=s4.trans (s5.trans s6)
 refine⟨l1,l2,_,_,rL,rL,s46 _ _ e3,e6,zL4,λl3 hl3=>?_⟩
 have s7:=zi.upd (o:=.lst ([.ref p1,.ref p2]++[.ref p3,.ref p4])) hl3
 have e7:upd G6 l3 (.lst ([.ref p1,.ref p2]++[.ref p3,.ref p4])) l3=some (.lst [.ref p1,.ref p2,.ref p3,.ref p4]):=zg
 generalize upd G6 l3 (.lst ([.ref p1,.ref p2]++[.ref p3,.ref p4]))=G7 at s7 e7 ⊢
 dsimp only[zG]
 refine hnx _ _ ?_
 have s17:=s13.trans (s46.trans s7)
 have e17:G7 p1=some (.tup [.str "even",.bl b1]):=(s2.trans (s3.trans (s46.trans s7))) _ _ e1
 have e27:G7 p2=some (.tup [.str "ball",.bl b2]):=(s3.trans (s46.trans s7)) _ _ e2
 have e37:G7 p3=some (.tup [.str "place",.bl b3]):=(s5.trans (s6.trans s7)) _ _ e4
 have e47:G7 p4=some (.tup [.str "many",.bl b4]):=(s6.trans s7) _ _ e5
 clear s1 s2 s3 s4 s5 s6 s7 s13 s14 s46 e1 e2 e3 e4 e5 e6 hp1 hp2 hp3 hp4 hl1 hl2 hl3
 refine vI λnx hnx=>?_
 refine⟨_,rL,zL8,λtp htp=>⟨v,t,tp,X.cs,false,rL,KA _ (s17.trans (zi.upd htp)),zg,ot,_,rL,xc ?_⟩⟩
 have s8:=zi.upd (o:=.tup [V.ref X.c0,.ref X.c1,.ref X.c2,.ref X.c3,.ref X.c4,.ref X.c5,.ref X.c6,.ref X.c7]) htp
 generalize upd G7 tp (.tup [V.ref X.c0,.ref X.c1,.ref X.c2,.ref X.c3,.ref X.c4,.ref X.c5,.ref X.c6,.ref X.c7])=G8 at s8 ⊢
 have s18:=s17.trans s8
 have e18:=s8 _ _ e17
 have e28:=s8 _ _ e27
 have e38:=s8 _ _ e37
 have e48:=s8 _ _ e47
 have e78:=s8 _ _ e7
 clear s17 s8 e17 e27 e37 e47 e7 htp
 refine Q8 ?_
 try dsimp only
 refine hnx _ _ ?_
 refine zM (λσ' G=>σ'=[Si wy,some u1,some u2,some u3,some u4,some u5,some v,none,Sr l3]/\G8=G) ?_ ?_
 rotate_left
 ·intro nx hnx
  rcases hve with rfl | hve
  ·refine⟨_,rL,rL,_,rL,xc (xc ?_)⟩
   exact hnx _ _ ⟨rL,rL⟩
  ·by_cases c:v = .non
   ·subst c
    refine⟨_,rL,rL,_,rL,xc (xc ?_)⟩
    exact hnx _ _ ⟨rL,rL⟩
   ·refine⟨_,rL,rL,_,rL,?_⟩
    rw[wA c]
    refine xw ⟨_,rL,v,t,_,_,true,rL,KA _ s18,rL,λ_ z=>z,hve,_,rL,xc ?_⟩
    exact hnx _ _ ⟨rL,rL⟩
 rintro σ2 _ ⟨rfl,rfl⟩
 refine⟨_,rL,l3,rL,⟨_,SqL.of e78⟩,λDe hDe=>?_⟩
 refine zcM (J:=Itl K l3) (n:=2) (g:=zai K 2 (v9 (zG 0) (v9 (zG 1) za5))) (tt:=λσ H Q=>xy 1 σ H λx H1=>∃k,zcC K x H1 k/\Q k H1) (te:=xy 0) (xs:=[.ref p1,.ref p2,.ref p3,.ref p4]) (zhI b1 b2 b3 b4) hDe (xA e78) (xV (by show 4<=20;decide)) ?_ ?_
 ·intro m x zs H2 A2 B2 hx hz s2 ka kb
  obtain⟨z1,z2,rfl⟩:=zc3 hz
  match m,hx with
  | 0,hx =>
   cases hx
   refine⟨p1,_,rL,.of (s2 _ _ e18),rL,_,_,rL,_,_,rL,rL,_,rL,_,rL,?_⟩
   cases b1
   ·exact xc (kb rL)
   ·exact xw ⟨_,rL,ka _ rL⟩
  | 1,hx =>
   cases hx
   refine⟨p2,_,rL,.of (s2 _ _ e28),rL,_,_,rL,_,_,rL,rL,_,rL,_,rL,?_⟩
   cases b2
   ·exact xc (kb rL)
   ·exact xw ⟨_,rL,ka _ rL⟩
  | 2,hx =>
   cases hx
   refine⟨p3,_,rL,.of (s2 _ _ e38),rL,_,_,rL,_,_,rL,rL,_,rL,_,rL,?_⟩
   cases b3
   ·exact xc (kb rL)
   ·exact xw ⟨_,rL,ka _ rL⟩
  | 3,hx =>
   cases hx
   refine⟨p4,_,rL,.of (s2 _ _ e48),rL,_,_,rL,_,_,rL,rL,_,rL,_,rL,?_⟩
   cases b4
   ·exact xc (kb rL)
   ·exact xw ⟨_,rL,ka _ rL⟩
 ·intro H3 s3 h3
  exact q De H3 (S1.trans (s18.trans s3)) h3
inductive zdq (sp:Sp) (C:Addr) (ws:List V) (vs:List V) (H:Hp) (Q:VK) (_e3:XK):Prop
 | mk:∀(wy:Int) (u1 u2 u3 u4 u5:V),(vs=[.int wy,u1,u2,u3,u4,u5])->((wy=0\/wy=1))->((∀(H1:Hp) (Q:VK) (E:XK),zi H H1->(∀H',zi H1 H'->E (.ref C) none H')->sp [u1,u2,u3,u4,u5] H1 Q E))->(∀l H',zi H H'->H' l=some (.lst ws)->Q (.ref l) H')->zdq sp C ws vs H Q _e3
inductive zjf (C:Addr) (vs:List V) (H:Hp) (Q:VK) (_e3:XK):Prop
 | mk:∀(wy:Int) (u1 u2 u3 u4 u5:V),(vs=[.int wy,u1,u2,u3,u4,u5])->((wy=0\/wy=1))->((∀(H1:Hp) (Q:VK) (E:XK),zi H H1->(∀v H',zi H1 H'->Q v H')->XI C [u1,u2,u3,u4,u5] H1 Q E))->((∀(H1:Hp) (m:Addr) (Q:VK) (E:XK),zi H H1->H1 m=some (.lst [u5])->(∀v H',zi H1 H'->Q v H')->zbv C [u1,u2,u3,u4,u5,.ref m] H1 Q E))->(∀l H',zi H H'->H' l=some (.lst [])->Q (.ref l) H')->zjf C vs H Q _e3
def VB (CE CB CP CM:Addr):Sp:=λvs H Q E=>zdq (zaJ CE) CE [.str "even"] vs H Q E\/zdq (VC CB) CB [.str "ball"] vs H Q E\/zdq (VD CP) CP [.str "place"] vs H Q E\/zdq (XI CM) CM [.str "many"] vs H Q E\/zjf CM vs H Q E
theorem zcj {sp:Sp}{b1 b2 b3 b4:Bool}{vs:List V}{H:Hp}{Q:VK}{E:XK}(h:zdq sp C (zhJ b1 b2 b3 b4) vs H Q E):Qd sp (VA sp C) false C b1 b2 b3 b4 vs H Q E:=by
 obtain⟨wy,u1,u2,u3,u4,u5,rfl,hw,hs,q⟩:=h
 refine⟨wy,u1,u2,u3,u4,u5,rL,?_,q⟩
 rcases hw with rfl | rfl
 ·exact .inl ⟨rL,λH1 Q E S _ kE=>hs H1 Q E S (kE rL)⟩
 ·exact .inr ⟨rL,λH1 m Q E S _ _ kE=>⟨u1,u2,u3,u4,u5,.ref m,rL,λQ E k=>hs H1 Q E S k,kE rL⟩⟩
theorem zkn {vs:List V}{H:Hp}{Q:VK}{E:XK}(h:zjf CM vs H Q E):Qd (XI CM) (zbv CM) true C false false false false vs H Q E:=by
 obtain⟨wy,u1,u2,u3,u4,u5,rfl,hw,h1,h2,q⟩:=h
 refine⟨wy,u1,u2,u3,u4,u5,rL,?_,q⟩
 rcases hw with rfl | rfl
 ·exact .inl ⟨rL,λH1 Q E S kQ _=>h1 H1 Q E S (kQ rL)⟩
 ·exact .inr ⟨rL,λH1 m Q E S hm kQ _=>h2 H1 m Q E S hm (kQ rL)⟩
theorem ziv (D:Df K mg "_law_refused" qj ["way","row","walls","k","place","t"] [])
  (rE:RfB P w K mg base (Qd (zaJ CE) (VA (zaJ CE) CE) false CE true false false false)) (rB:RfB P w K mg base (Qd (VC CB) (VA (VC CB) CB) false CB false true false false)) (rP:RfB P w K mg base (Qd (VD CP) (VA (VD CP) CP) false CP false false true false)) (rM:RfB P w K mg base (Qd (XI CM) (VA (XI CM) CM) false CM false false false true))
  (rG:RfB P w K mg base (Qd (XI CM) (zbv CM) true C false false false false)):Cal P w K mg base "_law_refused" 12 ["way","row","walls","k","place","t"] [] (VB CE CB CP CM):=by
 refine D.calB (k:=11) QG (λvs H Q E h=>?_) (λf cdv A outer s H vs Q E hr h=>?_)
 ·rcases h with h | h | h | h | h
  ·obtain⟨_,_,_,_,_,_,rfl,_⟩:=h;rfl
  ·obtain⟨_,_,_,_,_,_,rfl,_⟩:=h;rfl
  ·obtain⟨_,_,_,_,_,_,rfl,_⟩:=h;rfl
  ·obtain⟨_,_,_,_,_,_,rfl,_⟩:=h;rfl
  ·obtain⟨_,_,_,_,_,_,rfl,_⟩:=h;rfl
 ·rcases h with h | h | h | h | h
  ·exact rE f cdv A outer s H vs Q E hr (zcj h)
  ·exact rB f cdv A outer s H vs Q E hr (zcj h)
  ·exact rP f cdv A outer s H vs Q E hr (zcj h)
  ·exact rM f cdv A outer s H vs Q E hr (zcj h)
  ·exact rG f cdv A outer s H vs Q E hr (zkn h)
theorem zas {G:Hp}{u:Addr}{x:Rat}(h:zp G u x):Zy G [.ref u] [x]:=⟨rfl,λi v e=>by
 match i,e with
 | 0,e=>cases e;exact⟨x,u,rfl,rfl,h⟩⟩
section
variable {H:Hp}{r r0 a q u:Addr}{us us0:List V}{bs:List Bl}{g j d c w jp dp:Int}{k wy:Int}{n:Nat}{y x:Rat}{CE CB CP CM:Addr}{Q:VK}{E:XK}{u3 u4 u5:V}
theorem zcg {lo hi:Wl}{b0:Bl}(hw:wy=0\/wy=1) (h1:Ln H r a bs lo hi) (h2:bs[0]? = some b0) (h3:noB (tb b0) (bs.map tb) lo hi) (kk:∀l H',zi H H'->H' l=some (.lst [.str "even"])->Q (.ref l) H'):VB CE CB CP CM [.int wy,.ref r,.ref a,u3,u4,u5] H Q E :=
 .inl ⟨wy,_,_,_,_,_,rfl,hw,λH1 Q E S kE=>⟨r,a,u3,u4,u5,bs,b0,lo,hi,rfl,h1.same S,h2,h3,kE⟩,kk⟩
theorem zgI (hw:wy=0\/wy=1) (h:EvA H r a us bs g j d c w jp dp) (hk:¬(0<=k/\k<bs.length)) (kk:∀l H',zi H H'->H' l=some (.lst [.str "ball"])->Q (.ref l) H'):VB CE CB CP CM [.int wy,.ref r,.ref a,.int k,u4,u5] H Q E :=
 .inr (.inl ⟨wy,_,_,_,_,_,rfl,hw,λH1 Q E S kE=>(h.tups (.of S)).noball hk kE,kk⟩)
theorem zeQ (hw:wy=0\/wy=1) (h:EvA H r a us bs g j d c w jp dp) (hk:0<=k/\k<bs.length) (hq:zp H q y) (zy:Sz 4000 y) (hy:y<zu g j d\/zu g j d+zC g c*(w:Rat)<y) (kk:∀l H',zi H H'->H' l=some (.lst [.str "place"])->Q (.ref l) H'):VB CE CB CP CM [.int wy,.ref r,.ref a,.int k,.ref q,u5] H Q E :=
 .inr (.inr (.inl ⟨wy,_,_,_,_,_,rfl,hw,λH1 Q E S kE=>(h.tups (.of S)).noplace hk (hq.same S) zy hy kE,kk⟩))
theorem zgJ (hw:wy=0\/wy=1) (h:EvA H r a us bs g j d c w jp dp) (hk:0<=k/\k<bs.length) (hq:zp H q y) (hy:PlZ (zu g j d) (zu g j d+zC g c*(w:Rat)) y) (hu:zp H u x) (hx:TmZ x) (kk:∀l H',zi H H'->H' l=some (.lst [])->Q (.ref l) H'):VB CE CB CP CM [.int wy,.ref r,.ref a,.int k,.ref q,.ref u] H Q E :=
 .inr (.inr (.inr (.inr ⟨wy,_,_,_,_,_,rfl,hw,λH1 Q E S kQ=>(h.tups (.of S)).when hk (hq.same S) hy (hu.same S) hx λv H' s _=>kQ v H' s,λH1 m Q E S hm kQ=>(h.tups (.of S)).never hk (hq.same S) hy (hu.same S) hx hm (zas (hu.same S)) (by show 1<=2000;decide) λb H' s=>kQ _ H' s,kk⟩)))
structure DeA (H:Hp) (r a r0:Addr) (us us0:List V) (bs:List Bl) (g j d c w jp dp:Int) (n:Nat):Prop where
 E:EvA H r0 a us0 bs g j d c w jp dp
 r:H r=some (.tup us)
 R:qe H us (deB (zu g j d) (zC g c*(w:Rat)) n)
theorem DeA.tups {H':Hp}(h:DeA H r a r0 us us0 bs g j d c w jp dp n) (t:xp H H'):DeA H' r a r0 us us0 bs g j d c w jp dp n:=⟨h.E.tups t,t _ _ h.r,h.R.keeps t⟩
theorem zdi (hw:wy=0\/wy=1) (h:DeA H r a r0 us us0 bs g j d c w jp dp n) (hk:¬(0<=k/\k<2)) (kk:∀l H',zi H H'->H' l=some (.lst [.str "ball"])->Q (.ref l) H'):VB CE CB CP CM [.int wy,.ref r,.ref a,.int k,u4,u5] H Q E :=
 .inr (.inl ⟨wy,_,_,_,_,_,rfl,hw,λH1 Q E S kE=>have g:=h.tups (.of S);zcO g.E g.r g.R hk kE,kk⟩)
theorem zbp (hw:wy=0\/wy=1) (h:DeA H r a r0 us us0 bs g j d c w jp dp n) (hk:0<=k/\k<2) (hq:zp H q y) (zy:Sz 4000 y) (hy:y<zu g j d\/zu g j d+zC g c*(w:Rat)<y) (kk:∀l H',zi H H'->H' l=some (.lst [.str "place"])->Q (.ref l) H'):VB CE CB CP CM [.int wy,.ref r,.ref a,.int k,.ref q,u5] H Q E :=
 .inr (.inr (.inl ⟨wy,_,_,_,_,_,rfl,hw,λH1 Q E S kE=>have g:=h.tups (.of S);za1 g.E g.r g.R hk (hq.same S) zy hy kE,kk⟩))
theorem Jk (hw:wy=0\/wy=1) (h:DeA H r a r0 us us0 bs g j d c w jp dp n) (n1:1000<n) (n2:n<=1100) (hk:0<=k/\k<2) (hq:zp H q (zu g j d)) (hu:zp H u 0) (kk:∀l H',zi H H'->H' l=some (.lst [.str "many"])->Q (.ref l) H'):VB CE CB CP CM [.int wy,.ref r,.ref a,.int k,.ref q,.ref u] H Q E :=
 .inr (.inr (.inr (.inl ⟨wy,_,_,_,_,_,rfl,hw,λH1 Q E S kE=>have g:=h.tups (.of S);zfV g.E n1 n2 g.r g.R hk (hq.same S) (hu.same S) kE,kk⟩)))
theorem zdj (hw:wy=0\/wy=1) (h:DeA H r a r0 us us0 bs g j d c w jp dp n) (n1:2<=n) (n2:n<=1000) (hk:0<=k/\k<2) (hq:zp H q (zu g j d)) (hu:zp H u 0) (kk:∀l H',zi H H'->H' l=some (.lst [])->Q (.ref l) H'):VB CE CB CP CM [.int wy,.ref r,.ref a,.int k,.ref q,.ref u] H Q E :=
 .inr (.inr (.inr (.inr ⟨wy,_,_,_,_,_,rfl,hw,λH1 Q E S kQ=>have g:=h.tups (.of S);zbN g.E n1 n2 g.r g.R hk (hq.same S) (hu.same S) λv H' s _=>kQ v H' s,λH1 m Q E S hm kQ=>have g:=h.tups (.of S);zdM g.E n1 n2 g.r g.R hk (hq.same S) (hu.same S) hm (zas (hu.same S)) (by show 1<=2000;decide) λb H' s=>kQ _ H' s,kk⟩)))
end
theorem vw {H:Hp}{x y:V}{d:PyData}{Q:VK}(h1:RdD H x d) (h2:RdD H y d) (s:SeqAt.shaped d=true) (q:Q (.bl false) H):zkk x y H Q :=
 ⟨_,_,h1,h2,s,s,by rw[SeqAt.eqv_refl _ (by have:(_&&decide (_<=64))=true:=s;exact(Bool.and_eq_true_iff.mp this).1)];exact q⟩
theorem zfX {H:Hp}{x y:V}{d:PyData}{Q:VK}(h1:RdD H x d) (h2:RdD H y d) (s:SeqAt.shaped d=true) (q:Q (.bl true) H):zki x y H Q :=
 ⟨_,_,h1,h2,s,s,by rw[SeqAt.eqv_refl _ (by have:(_&&decide (_<=64))=true:=s;exact(Bool.and_eq_true_iff.mp this).1)];exact q⟩
theorem xW {H:Hp}{l:Addr}{z:Str}(h:H l=some (.lst [.str z])):RdD H (.ref l) (.list [.str z]):=.lst h (.cons (.str _) .nil)
theorem Vb {z:Str}(h:PyData.canLay0 (.str z)=true):SeqAt.shaped (.list [.str z])=true:=Lay.shaped (n:=1) (Lay.lst λd m=>by rw[wD.mp m];exact⟨h,wg _⟩) (by decide)
theorem zbS:SeqAt.shaped (.list [.str "even"])=true:=Vb (by decide +kernel)
theorem zbG:SeqAt.shaped (.list [.str "ball"])=true:=Vb (by decide +kernel)
theorem zax:SeqAt.shaped (.list [.str "place"])=true:=Vb (by decide +kernel)
theorem zb7:SeqAt.shaped (.list [.str "many"])=true:=Vb (by decide +kernel)
theorem EvG.zlo {g j d c w jp dp:Int}(h:EvG g j d c w jp dp):Sz 100 (zu g j d):=by
 have hp:=h.pos
 have hj:=h.j
 have hd:=h.d
 have bg:=gBd h.g1 h.g2
 exact .divInt ∅ (((show Bd 4 j from(show j.natAbs<2^4 by lia)).mul bg).md) (Bd.mono (m:=4) (show d.natAbs<2^4 by lia) (by decide))
theorem EvG.zW {g j d c w jp dp:Int}(h:EvG g j d c w jp dp):Sz 100 (zC g c*(w:Rat)):=by
 have hp:=h.pos
 have hc:=h.c
 have hw:=h.w
 have bg:=gBd h.g1 h.g2
 have e:zC g c*(w:Rat)=Rat.divInt (g*w) c:=zhN hp.2.2.1
 rw[e]
 exact .divInt (by omega) ((bg.mul (show Bd 4 w from(show w.natAbs<2^4 by omega))).md) (Bd.mono (m:=4) (show c.natAbs<2^4 by omega) (by decide))
def zku:Sp:=λvs H Q _=>∃p r a q o u us bs g j d c w' jp dp,∃wy:Int,∃yo:Rat,vs=[.ref p,.int wy,.ref a,q,.ref o,u]/\vR H p/\EvA H r a us bs g j d c w' jp dp/\(wy=0\/wy=1)/\zp H o yo/\Sz 4000 yo/\(yo<zu g j d\/zu g j d+zC g c*(w':Rat)<yo)/\∀H',xt p H H'->Q (.bl true) H'
theorem JW:zA ["pool","way","walls","place","outside","t","many","low","dear"] ["pool","way","walls","place","outside","t"] (zk qZ):=scq
theorem vg {p:Addr}{H H':Hp}(hP:vR H p) (s:xt p H H'):xp H H':=λ_ _ e=>s.tup hP e
theorem zcz {H:Hp}{u:Addr}(h:H u=some (.tup [.int 0,.int 1])):zp H u 0:=h
theorem zio (D:Df K mg "_law_dear_right" qZ ["pool","way","walls","place","outside","t"] []) (T:TxB K mg) (cN:Cal P w K mg base "_law_next" 1 ["pool","base"] [] Zr) (cDe:Cal P w K mg base "_law_dear" 4 ["walls","many"] [] zkt) (cRf:Cal P w K mg base "_law_refused" 12 ["way","row","walls","k","place","t"] [] (VB CE CB CP CM)) :
  Cal P w K mg base "_law_dear_right" 13 ["pool","way","walls","place","outside","t"] [] zku:=by
 refine D.calBq (k:=12) JW (λf cdv A outer s H vs Q E hr h=>?_)
 have hr1:z6 1 _:=hr.md
 have hr4:z6 4 _:=hr.md
 have hu:=hr.units
 rcases q:h with⟨p,r0,a,q,o,u,us0,bs,g,j,d,c,w',jp,dp,wy,yo,rfl,hP,EA,hw,ho,zo,hyo,kk⟩
 refine⟨_,(xF (Bx.mk (psl (i:=6) JW.nd (zr xg zh (zB cN hr1 (za (pv 0) (za zh zd))))))
  (xF (Bx.mk (psl (i:=7) JW.nd (pxt (pxt (pv 2)))))
  (xF (Bx.mk (zX (zE (ZH hu) (zB cRf hr (za (pv 1) (za (zB cDe hr4 (za (pv 2) (za (pv 6) zd))) (za (pv 2) (za zh (za (pv 7) (za (zH (za zh (za zh zd))) zd))))))) (xS xT (zV (za (zV zd) (za (zV (za xG zd)) zd))) (vy VY (by rfl) T.nInt W8 (za (qm Zt (pv 6) zh (zF _)) zd)) (λ_ _=>rfl)) (zF _)) (zj (zD Zc)) zN))
  (xF (Bx.mk (psl (i:=8) JW.nd (zB cDe hr4 (za (pv 2) (za (zr xg zh (zB cN hr1 (za (pv 0) (za zh zd)))) zd)))))
  (xF (Bx.mk (zX (zE (ZH hu) (zB cRf hr (za (pv 1) (za (pv 8) (za (pv 2) (za zh (za (pv 7) (za (zH (za zh (za zh zd))) zd))))))) (zV (za xG zd)) (zF _)) (zj (zD Zc)) zN))
  (xF (Bx.mk (zX (zE (ZH hu) (zB cRf hr (za (pv 1) (za (pv 8) (za (pv 2) (za zh (za (pv 3) (za (pv 5) zd))))))) (zV (za xG zd)) (zF _)) (zj (zD Zc)) zN))
  (Bx.mk (zj (zD (qm (Vq hu) (zB cRf hr (za (pv 1) (za (pv 8) (za (pv 2) (za zh (za (pv 4) (za (pv 5) zd))))))) (zV (za xG zd)) (zF _))))))))))),?_⟩
 try dsimp only[zU,Cx.nox]
 refine zM (λσ' G=>∃n:Nat,σ'=[Sr p,Si wy,Sr a,some q,Sr o,some u,Si n,none,none]/\xt p H G/\2<=n/\n<=1003) ?_ ?_
 rotate_left
 ·intro nx hnx
  refine⟨_,rfl,p,6,rfl,by decide,by decide,hP,λd1 G1 a1 b1 t1=>⟨_,_,rfl,rfl,?_⟩⟩
  obtain⟨n,hn⟩:=uY (show 0<=998+d1 by lia)
  exact hnx _ _ ⟨n,by rw[<-hn];rfl,t1,by lia,by lia⟩
 rintro σ1 G1 hQq;rcases q:hQq with⟨n,rfl,t1,n2,n3⟩
 have EA1:=EA.tups (vg hP t1)
 have ho1:zp G1 o yo:=t1.rat hP ho
 rcases q:EA1.W with⟨v1,v2,ha,⟨a1,p1,q1,rfl,h1,h2,h3⟩,hw2⟩
 refine zM (λσ' G=>σ'=[Sr p,Si wy,Sr a,some q,Sr o,some u,Si n,Sr p1,none]/\G1=G) ?_ ?_
 rotate_left
 ·intro nx hnx
  refine⟨_,rL,a,_,_,_,rL,rL,.of ha,at0 ..,a1,_,_,_,rL,rL,.of h1,at0 ..,?_⟩
  exact hnx _ _ ⟨rL,rL⟩
 rintro σ2 _ ⟨rfl,rfl⟩
 have hP1:=t1.pool
 have hlo:zp G1 p1 (zu g j d):=h2
 have zlo:=EA.G.zlo
 have zW:=EA.G.zW
 refine zM (λσ' G=>σ'=[Sr p,Si wy,Sr a,some q,Sr o,some u,Si n,Sr p1,none]/\zi G1 G) ?_ ?_
 rotate_left
 ·intro nx hnx
  refine⟨_,rfl,_,rfl,_,rfl,a,_,_,n,rfl,by lia,by lia,⟨_,_,ha,⟨a1,p1,q1,rfl,h1,h2,h3⟩,hw2⟩,zlo,zW,λr us G2 S2 hr2 hR2=>?_⟩
  refine⟨_,rL,_,rL,zL2,λu1 hu1=>?_⟩
  have S3:=zi.upd (o:=.tup [.int 0,.int 1]) hu1
  have e3:zp (upd G2 u1 (.tup [.int 0,.int 1])) u1 0:=zcz zg
  generalize upd G2 u1 (.tup [.int 0,.int 1])=G3 at S3 e3
  have DA:DeA G3 r a r0 us us0 bs g j d c w' jp dp n:=(⟨EA1.tups (.of S2),hr2,hR2⟩:DeA G2 r a r0 us us0 bs g j d c w' jp dp n).tups (.of S3)
  have hp3:zp G3 p1 (zu g j d):=hlo.same (S2.trans S3)
  by_cases cn:1000<n
  ·refine Jk hw DA cn ∅ ⟨by decide,by decide⟩ hp3 e3 λl G4 S4 hl=>?_
   refine⟨zL0,λe1 he1=>⟨zL1,λe2 he2=>⟨zL2,λe3 he3=>⟨_,rL,_,_,rL,rL,.inr ⟨_,rL,?_⟩⟩⟩⟩⟩
   rw[wm (show (1000:Int)<(n:Int) by lia)]
   have X1:=zi.upd (o:=.lst []) he1
   have X2:=zi.upd (o:=.lst [.str "many"]) he2
   have X3:=zi.upd (o:=.lst [.ref e1,.ref e2]) he3
   refine⟨e3,_,_,_,rL,rL,.of zg,rL,?_⟩
   exact vw (xW ((X1.trans (X2.trans X3)) _ _ hl)) (xW (X3 _ _ zg)) zb7 ⟨_,rL,xc (hnx _ _ ⟨rL,S2.trans (S3.trans (S4.trans (X1.trans (X2.trans X3))))⟩)⟩
  ·refine zdj hw DA n2 ∅ ⟨by decide,by decide⟩ hp3 e3 λl G4 S4 hl=>?_
   refine⟨zL0,λe1 he1=>⟨zL1,λe2 he2=>⟨zL2,λe3 he3=>⟨_,rL,_,_,rL,rL,.inr ⟨_,rL,?_⟩⟩⟩⟩⟩
   rw[wA (show ¬(1000:Int)<(n:Int) by lia)]
   have X1:=zi.upd (o:=.lst []) he1
   have X2:=zi.upd (o:=.lst [.str "many"]) he2
   have X3:=zi.upd (o:=.lst [.ref e1,.ref e2]) he3
   refine⟨e3,_,_,_,rL,rL,.of zg,rL,?_⟩
   exact vw (.lst ((X1.trans (X2.trans X3)) _ _ hl) .nil) (.lst ((X2.trans X3) _ _ zg) .nil) rL ⟨_,rL,xc (hnx _ _ ⟨rL,S2.trans (S3.trans (S4.trans (X1.trans (X2.trans X3))))⟩)⟩
 rintro σ3 G2 ⟨rfl,S2⟩
 refine zM (λσ' G=>∃r us,∃m:Nat,σ'=[Sr p,Si wy,Sr a,some q,Sr o,some u,Si n,Sr p1,Sr r]/\xt p G1 G/\DeA G r a r0 us us0 bs g j d c w' jp dp m/\1000<m/\m<=1100) ?_ ?_
 rotate_left
 ·intro nx hnx
  have hP2:vR G2 p:=(xt.refl hP1).same S2 |>.pool
  refine⟨_,rfl,_,rfl,p,9,rfl,by decide,by decide,hP2,λd1 G3 a1' b1' t3=>⟨_,_,rfl,rfl,?_⟩⟩
  obtain⟨m,hm⟩:=uY (show 0<=1001+d1 by lia)
  have EA3:=(EA1.tups (.of S2)).tups (vg hP2 t3)
  have t13:xt p G1 G3:=t3.pre S2
  refine⟨a,_,_,m,by show [V.ref a,V.int (1001+d1)]=_;rw[hm],by lia,by lia,EA3.W,zlo,zW,λr us G4 S4 hr4 hR4=>?_⟩
  exact hnx _ _ ⟨r,us,m,rfl,t13.same S4,⟨EA3.tups (.of S4),hr4,hR4⟩,by lia,by lia⟩
 rintro σ4 G3 hQq;rcases q:hQq with⟨r,us,m,rfl,t3,DA,m1,m2⟩
 clear S2
 refine zM (λσ' G=>σ'=[Sr p,Si wy,Sr a,some q,Sr o,some u,Si n,Sr p1,Sr r]/\zi G3 G) ?_ ?_
 rotate_left
 ·intro nx hnx
  refine⟨_,rL,_,rL,_,rL,_,rL,zL2,λu1 hu1=>?_⟩
  have S3:=zi.upd (o:=.tup [.int 0,.int 1]) hu1
  have e3:zp (upd G3 u1 (.tup [.int 0,.int 1])) u1 0:=zcz zg
  generalize upd G3 u1 (.tup [.int 0,.int 1])=G4 at S3 e3
  refine Jk hw (DA.tups (.of S3)) m1 m2 ⟨by decide,by decide⟩ ((t3.rat hP1 hlo).same S3) e3 λl G5 S5 hl=>?_
  refine⟨zL1,λe2 he2=>?_⟩
  have X2:=zi.upd (o:=.lst [.str "many"]) he2
  exact vw (xW (X2 _ _ hl)) (xW zg) zb7 ⟨_,rL,xc (hnx _ _ ⟨rL,S3.trans (S5.trans X2)⟩)⟩
 rintro σ5 G4 ⟨rfl,S4⟩
 refine zM (λσ' G=>σ'=[Sr p,Si wy,Sr a,some q,Sr o,some u,Si n,Sr p1,Sr r]/\zi G3 G) ?_ ?_
 rotate_left
 ·intro nx hnx
  refine⟨_,rL,_,rL,_,rL,_,rL,_,rL,?_⟩
  refine zdi hw (DA.tups (.of S4)) ∅ λl G5 S5 hl=>?_
  refine⟨zL1,λe2 he2=>?_⟩
  have X2:=zi.upd (o:=.lst [.str "ball"]) he2
  exact vw (xW (X2 _ _ hl)) (xW zg) zbG ⟨_,rL,xc (hnx _ _ ⟨rL,S4.trans (S5.trans X2)⟩)⟩
 rintro σ6 G5 ⟨rfl,S5⟩
 refine⟨_,rL,_,rL,_,rL,_,rL,_,rL,?_⟩
 refine zbp hw (DA.tups (.of S5)) ⟨by decide,by decide⟩ ((t3.rat hP1 ho1).same S5) zo hyo λl G6 S6 hl=>?_
 refine⟨zL1,λe2 he2=>?_⟩
 have X2:=zi.upd (o:=.lst [.str "place"]) he2
 exact zfX (xW (X2 _ _ hl)) (xW zg) zax (kk _ ((t1.trans t3).same (S5.trans (S6.trans X2))))
theorem zkw {m n:Nat}{x y:Rat}(h:Sz m x) (h':Sz n y):Sz (m+n+1) (x - y):=by
 rw[Rat.sub_eq_add_neg];exact h.add (Sz.neg' h')
theorem hidw {A:Prop}(h:∀P:Prop,(A->P)->P):A:=h A id
inductive zaI (K:Fg) (vs:List V) (H:Hp) (Q:VK) (_e3:XK):Prop
 | mk:∀(a:Addr) (ns:List Int),(vs=[.ref a])->(SqL K H a (ns.map V.int))->(ns.length<=63)->(∀H',Q (.bl true) H')->zaI K vs H Q _e3
theorem qy:zA ["script","k","pool","row","walls","ball","place","t","way","far","odd","step","outside","one","bounds","spot"] ["script"] (zk s_law):=scq
theorem zim {fl:Addr}{fdl:FuncData}(F:Fun K "law" "law" s_law fl fdl) (T:TxB K mg) (cC:Cal P w K mg base "_law_cell" 1 ["script","k"] [] (zbu K)) (cD:Cal P w K mg base "_law_dig" 1 ["cell"] [] zfb) (cN:Cal P w K mg base "_law_next" 1 ["pool","base"] [] Zr) (cF:Cal P w K mg base "_law_far" 2 ["pool"] [] zaH) (cLo:Cal P w K mg base "_law_lowest" 1 ["top","bottom"] [] qR) (cS:Cal P w K mg base "_law_sum" 2 ["one","other"] [] (qx Sz2 (· + ·))) (cMi:Cal P w K mg base "_law_minus" 3 ["one","other"] [] (qx Sz2 (· - ·)))
  (cEv:Cal P w K mg base "_law_even" 4 ["pool","most"] [] zhB) (cWi:Cal P w K mg base "_law_wish" 4 ["pool","row","walls"] [] zjk) (cUn:Cal P w K mg base "_law_uneven" 4 ["pool","row","walls"] [] zfq) (cRf:Cal P w K mg base "_law_refused" 12 ["way","row","walls","k","place","t"] [] (VB CE CB CP CM)) (cDr:Cal P w K mg base "_law_dear_right" 13 ["pool","way","walls","place","outside","t"] [] zku) :
  Zu P w K mg base CX0 14 fl fdl ["script"] (zaI K):=by
 refine F.okq (k:=13) qy (λcdv A outer s H vs Q E hr h=>?_)
 rcases q:h with⟨a0,ns,rfl,hS,hlen,kk⟩
 have hr1:z6 1 _:=hr.md
 have hr2:z6 2 _:=hr.md
 have hr3:z6 3 _:=hr.md
 have hr4:z6 4 _:=hr.md
 have hr12:z6 12 _:=hr.md
 have hu:=hr.units
 refine⟨_,(ze (qM PassesOwn.never rfl (Z7 rfl T.nRange (za (zJ (VZ rfl) (by rfl) T.nMax W9 (za zh (za (zJ (zcG rfl) (by rfl) T.nMin PyProof.Rows.boot_min (za zh (za (zJ zS (by rfl) T.nLen PySem.boot_len (za (pv 0) zd)) zd))) zd))) zd)) (pgl (i:=1) qy.nd) (ze (psl (i:=2) qy.nd (zB cD hr1 (za (zB cC hr1 (za (pv 0) (za (pv 1) zd))) zd)))
  (ze (Zk (zB cEv hr4 (za (pv 2) (za zh zd))) (qY rfl (zP (pgl (i:=3) qy.nd) (zP (pgl (i:=4) qy.nd) xI))))
  (ze (Zk (zB cWi hr4 (za (pv 2) (za (pv 3) (za (pv 4) zd)))) (qY rfl (zP (pgl (i:=5) qy.nd) (zP (pgl (i:=6) qy.nd) (zP (pgl (i:=7) qy.nd) xI)))))
  (ze (psl (i:=8) qy.nd (zB cN hr1 (za (pv 2) (za zh zd))))
  (ze (psl (i:=9) qy.nd (zB cF hr2 (za (pv 2) zd)))
  (ze (psl (i:=10) qy.nd (xS xT (zV (za (qL qc zh) (za (zJ zS (by rfl) T.nLen PySem.boot_len (za (pv 3) zd)) (za (zr xg (zJ zS (by rfl) T.nLen PySem.boot_len (za (pv 3) zd)) (pv 9)) (za (zr x6 (qL qc zh) (pv 9)) zd))))) (zB cN hr1 (za (pv 2) (za zh zd))) (λ_ _=>rfl)))
  (ze (psl (i:=11) qy.nd (zB cLo hr1 (za zh (za (zr xg zh (zB cN hr1 (za (pv 2) (za (zr Qr zh zh) zd)))) zd))))
  (ze (psl (i:=12) qy.nd (xS xT (zV (za (zB cMi hr3 (za (pxt (pxt (pv 4))) (za (pv 11) zd))) (za (zB cS hr2 (za (pxt (pxt (pv 4))) (za (pv 11) zd))) zd))) (zB cN hr1 (za (pv 2) (za zh zd))) (λ_ _=>rfl)))
  (ze (qM PassesOwn.never rfl (xh (zB cUn hr4 (za (pv 2) (za (pv 3) (za (pv 4) zd))))) (qY rfl (zP (pgl (i:=13) qy.nd) (zP (pgl (i:=14) qy.nd) xI))) (ze (zX (zE (ZH hu) (zB cRf hr12 (za (pv 8) (za (pv 13) (za (pv 14) (za (pv 10) (za (pv 12) (za (pv 7) zd))))))) (zV (za xG zd)) (zF _)) (zj (zD Zc)) zN)
  (zj (zX (zE (ZH hu) (zB cRf hr12 (za (pv 8) (za (pv 13) (za (pv 14) (za (pv 5) (za (pv 6) (za (pv 7) zd))))))) (zV (za xG zd)) (zF _)) (zj (zD Zc)) zN))))
  (ze (qM PassesOwn.never rfl (xh (zV (za (pv 6) (za (pv 12) zd)))) (pgl (i:=15) qy.nd) (zj (zX (zE (ZH hu) (zB cRf hr12 (za (pv 8) (za (pv 3) (za (pv 4) (za (pv 10) (za (pv 15) (za (pv 7) zd))))))) (zV (za xG zd)) (zF _)) (zj (zD Zc)) zN)))
  (ze (zX (zE (ZH hu) (zB cRf hr12 (za (pv 8) (za (pv 3) (za (pv 4) (za (pv 5) (za (pv 12) (za (pv 7) zd))))))) (zV (za xG zd)) (zF _)) (zj (zD Zc)) zN)
  (ze (zX (zE (ZH hu) (zB cRf hr12 (za (pv 8) (za (pv 3) (za (pv 4) (za (pv 5) (za (pv 6) (za (pv 7) zd))))))) (zV zd) (zF _)) (zj (zD Zc)) zN)
  (zj (zX ((vV (zE Zb (zr qX (pv 1) zh) zh (zF _)) (vd (vn (xD (zB cDr hr (za (pv 2) (za (pv 8) (za (pv 4) (za (pv 6) (za (pv 12) (za (pv 7) zd))))))) λ_=>rfl))))).pt (zj (zD Zc)) zN)))))))))))))))
  (zj (zD Zc))),?_⟩
 try dsimp only[zU,Cx.nox]
 refine⟨_,rL,a0,_,rL,.inl hS,_,_,rL,_,_,rL,_,rL,?_,?_,?_⟩
 ·simp only[we];split <;> split <;> lia
 ·simp only[we];split <;> split <;> lia
 refine ZY (lo:=0) (λi σ H2=>∃y1 y2 y3 y4 y5 y6 y7 y8 y9 y10 y11 y12 y13 y14 y15,σ=[Sr a0,y1,y2,y3,y4,y5,y6,y7,y8,y9,y10,y11,y12,y13,y14,y15]/\zi H H2) ⟨_,_,_,_,_,_,_,_,_,_,_,_,_,_,_,rL,zi.refl _⟩ ?_ ?_
 rotate_left
 ·rintro σ H2 _
  exact kk _
 rintro i0 σ H2 hi hz
 refine hidw λPQq kQq=>?_;obtain⟨y1,y2,y3,y4,y5,y6,y7,y8,y9,y10,y11,y12,y13,y14,y15,rfl,s2⟩:=hz;refine kQq ?_;clear kQq
 dsimp only[zG]
 have hi63:i0<1000:=by
  revert hi;simp only[we];split <;> split <;> lia
 obtain⟨i,hi'⟩:∃i:Int,(0:Int)+(i0:Int)=i:=⟨_,rfl⟩
 rw[hi']
 have i0':0<=i:=by lia
 have i1:i<1000:=by lia
 clear hi hi'
 refine vI λnx hnx=>?_
 refine⟨_,rL,_,rL,a0,ns,i,rL,s2.seq hS,i0',i1,λcc=>⟨cc,rL,λp G1 hp s1 hP=>?_⟩⟩
 have nP:∀b o,H b=some o->b≠p:=λb o e q=>by have:=s2 _ _ e;rw[q,hp]at this;cases this
 dsimp only[zG]
 refine hnx _ _ ?_
 refine vI λnx hnx=>?_
 refine⟨_,rfl,p,5,rfl,by decide,by decide,hP,λtt r a us bs g j d c w' jp dp G2 n t2 ht hr' hR l1 l2 l3 hG hB hW=>?_⟩
 refine⟨tt,_,rL,.of ht,rL,_,_,rL,_,_,rL,rL,?_⟩
 dsimp only[zG]
 refine hnx _ _ ?_
 refine vI λnx hnx=>?_
 have ft:=hB.fit hG ∅ l3
 have EA:EvA G2 r a us bs g j d c w' jp dp:=⟨hr',hR,l1,by lia,hG,ft.1,ft.2,hW⟩
 refine⟨_,rL,_,rL,_,rL,p,r,a,us,bs,g,j,d,c,w',jp,dp,rL,t2.pool,EA,λz q u kb y x G3 t3 hz k0 k1 hq hu' hy hx=>?_⟩
 refine⟨z,_,rL,.of hz,rL,_,_,rL,_,_,rL,_,_,rL,rL,?_⟩
 dsimp only[zG]
 refine hnx _ _ ?_
 have EA:=EA.tups (vg t2.pool t3)
 have hP3:=t3.pool
 have back:∀G',xt p G3 G'->zi H G':=λG' t=>λb o e=>(t2.trans (t3.trans t)).keep b o (s1 _ _ (s2 _ _ e)) (nP b o e)
 clear s2 s1 t2 t3 ht hz nP hr' hR hW hB ft hP hp
 have hul:us.length=bs.length:=EA.R.1
 refine vI λnx hnx=>?_
 refine⟨_,rfl,p,2,rfl,by decide,by decide,hP3,λwy G4 w0 w1 t4=>?_⟩
 have hw:wy=0\/wy=1:=by lia
 dsimp only[zG]
 refine hnx _ _ ?_
 refine vI λnx hnx=>?_
 refine⟨_,rL,p,rL,t4.pool,λfar G5 f0 f1 t5=>?_⟩
 dsimp only[zG]
 refine hnx _ _ ?_
 refine vI λnx hnx=>?_
 have t35:=t4.trans t5
 have EA5:=EA.tups (vg hP3 t35)
 have hP5:=t35.pool
 refine⟨_,rL,_,rL,r,us,rL,.inr (SqT.of EA5.r),_,rL,r,us,rL,.inr (SqT.of EA5.r),_,rL,_,_,rL,rL,_,rL,_,rL,_,_,rL,rL,zL4,λl1 hl1=>?_⟩
 refine⟨_,rfl,p,4,rfl,by decide,by decide,hP5.new hl1,λd0 G6 a6 b6 t6=>?_⟩
 obtain⟨yv,ey,hyv⟩:=zbh (u:=V.int (-1)) (v:=.int us.length) (x:=.int (us.length+far)) (w:=.int (-1 - far)) a6 b6
 obtain⟨od,rfl,hod⟩:∃od:Int,yv = .int od/\¬(0<=od/\od<bs.length):=by
  rcases hyv with rfl | rfl | rfl | rfl
  ·exact⟨_,rfl,by lia⟩
  ·exact⟨_,rfl,by lia⟩
  ·exact⟨_,rfl,by lia⟩
  ·exact⟨_,rfl,by lia⟩
 refine⟨l1,_,_,_,rL,rL,.of (t6.keep l1 _ zg (hP5.ne hl1)),ey,?_⟩
 dsimp only[zG]
 refine hnx _ _ ?_
 have t36:xt p G3 G6:=t35.trans (t6.pre (zi.upd hl1))
 clear ey hyv t6 t35 EA5 hP5 hl1 t4 t5
 refine vI λnx hnx=>?_
 refine⟨_,rfl,_,_,rfl,rfl,⟨by decide,by decide,by decide⟩,p,_,rfl,by decide,by decide,t36.pool,λds G7 a7 b7 t7=>⟨_,_,rfl,rfl,?_⟩⟩
 have b7':ds<100000:=b7
 refine⟨1,1+ds,rfl,by lia,Bd.mono (m:=20) (show (1+ds).natAbs<2^20 by lia) (by decide),λsp G8 s8 hsp=>?_⟩
 dsimp only[zG]
 refine hnx _ _ ?_
 have zf:Sz 20 (Rat.divInt 1 (1+ds)):=.divInt ∅ (show (1:Int).natAbs<2^20 by decide) (show (1+ds).natAbs<2^20 by lia)
 have pf:0<Rat.divInt 1 (1+ds):=(qp ∅).mpr ∅
 generalize Rat.divInt 1 (1+ds)=fr at hsp zf pf
 have t38:xt p G3 G8:=t36.trans (t7.same s8)
 have EA8:=EA.tups (vg hP3 t38)
 have zlo:=EA.G.zlo
 have zW:=EA.G.zW
 have zhi:Sz 210 (zu g j d+zC g c*(w':Rat)):=(zlo.add zW).md
 rcases q:id EA8.W with⟨v1,v2,ha,⟨a1,p1,q1,rfl,h1,h2,h3⟩,⟨a2,p2,q2,rfl,g1,g2,g3⟩⟩
 have h2:zp G8 p1 (zu g j d):=h2
 have g2:zp G8 p2 (zu g j d+zC g c*(w':Rat)):=g2
 refine vI λnx hnx=>?_
 refine⟨_,rL,a,_,_,_,rL,rL,.of ha,at0 ..,a1,_,_,_,rL,rL,.of h1,at0 ..,_,rL,p1,sp,zu g j d,fr,rL,h2,hsp,⟨zlo.md,zf.md⟩,λo1 G9 s9 ho1=>?_⟩
 have ho1:zp G9 o1 (zu g j d - fr):=ho1
 refine⟨_,rL,a,_,_,_,rL,rL,.of (s9 _ _ ha),at1 ..,a2,_,_,_,rL,rL,.of (s9 _ _ g1),at0 ..,_,rL,p2,sp,zu g j d+zC g c*(w':Rat),fr,rL,s9 _ _ g2,s9 _ _ hsp,⟨zhi.md,zf.md⟩,λo2 GA sA ho2=>?_⟩
 have ho2:zp GA o2 (zu g j d+zC g c*(w':Rat)+fr):=ho2
 refine⟨zL2,λl2 hl2=>?_⟩
 have t3A:=t38.same (s9.trans sA)
 refine⟨_,rfl,p,2,rfl,by decide,by decide,t3A.pool.new hl2,λd4 GB a4 b4 tB=>?_⟩
 have tB':=tB.pre (zi.upd (o:=.lst [.ref o1,.ref o2]) hl2)
 have uB:=vg t3A.pool tB'
 obtain⟨ot,yo,eot,hot,zot,hout⟩:∃ot yo,atI [V.ref o1,.ref o2] d4=some (.ref ot)/\zp GB ot yo/\Sz 4000 yo/\(yo<zu g j d\/zu g j d+zC g c*(w':Rat)<yo):=by
  have d01:d4=0\/d4=1:=by lia
  rcases d01 with rfl | rfl
  ·exact⟨o1,_,rfl,uB _ _ (sA _ _ ho1),(zkw zlo zf).md,.inl (by grind)⟩
  ·exact⟨o2,_,rfl,uB _ _ ho2,(zhi.add zf).md,.inr (by grind)⟩
 refine⟨l2,_,_,_,rL,rL,.of (tB.keep l2 _ zg (t3A.pool.ne hl2)),eot,?_⟩
 dsimp only[zG]
 refine hnx _ _ ?_
 have t3B:=t3A.trans tB'
 have EAB:=EA.tups (vg hP3 t3B)
 have hq:=(vg hP3 t3B) _ _ hq
 have hu':=(vg hP3 t3B) _ _ hu'
 clear uB tB tB' t3A t38 t36 t7 s8 s9 sA ho1 ho2 hsp hl2 eot h1 h2 h3 g1 g2 g3 ha EA8 b7
 refine vI λnx hnx=>?_
 refine⟨_,rL,_,rL,_,rL,p,r,a,us,bs,g,j,d,c,w',jp,dp,rL,t3B.pool,EAB,λL vs' GC tC hL lv hvs=>?_⟩
 have uC:=vg t3B.pool tC
 have t3C:=t3B.trans tC
 have EAC:=EAB.tups uC
 have hot:=uC _ _ hot
 have hq:=uC _ _ hq
 have hu':=uC _ _ hu'
 clear EAB uC tC t3B EA
 refine⟨L,rL,⟨_,SqL.of hL⟩,?_⟩
 refine qA (xs:=vs') (λn σ G=>zi GC G/\∃z1 z2,σ=[Sr a0,Si i,Sr p,Sr r,Sr a,Si kb,Sr q,Sr u,Si wy,Si far,Si od,Sr sp,Sr ot,z1,z2,y15]) ⟨zi.refl _,_,_,rL⟩ (λn σ G _ ⟨s,_⟩=>SqL.of (s _ _ hL)) ?_ ?_
 ·rintro n v σ G hv ⟨sG,z1,z2,rfl⟩
  have UA:=(hvs v (wM hv)).tups (.of sG)
  rcases q:UA with⟨zz,r',a',bs',b0,lo',hi',rfl,k1',k2,k3,k4⟩
  refine⟨zz,_,rL,.of k1',rL,_,_,rL,_,_,rL,rL,?_⟩
  dsimp only[zG]
  refine⟨_,rL,_,rL,_,rL,_,rL,_,rL,_,rL,?_⟩
  refine zcg hw k2 k3 k4 λl G1 S1 hl=>?_
  refine⟨zL1,λe1 he1=>?_⟩
  have X1:=zi.upd (o:=.lst [.str "even"]) he1
  refine vw (xW (X1 _ _ hl)) (xW zg) zbS ⟨_,rL,xc ?_⟩
  have S2:=S1.trans X1
  generalize upd G1 e1 (.lst [.str "even"])=G2 at S2
  refine⟨_,rL,_,rL,_,rL,_,rL,_,rL,_,rL,?_⟩
  refine zcg hw (k2.same S2) k3 k4 λl G3 S3 hl=>?_
  refine⟨zL1,λe2 he2=>?_⟩
  have X2:=zi.upd (o:=.lst [.str "even"]) he2
  refine vw (xW (X2 _ _ hl)) (xW zg) zbS ⟨_,rL,xc ?_⟩
  exact⟨sG.trans (S2.trans (S3.trans X2)),_,_,rL⟩
 rintro σ GD ⟨sD,z1,z2,rfl⟩
 refine hnx _ _ ?_
 have EAD:=EAC.tups (.of sD)
 have t3D:=t3C.same sD
 have hot:=sD _ _ hot
 have hq:=sD _ _ hq
 have hu':=sD _ _ hu'
 clear EAC sD hL hvs
 refine vI λnx hnx=>?_
 refine⟨_,rL,_,rL,zL2,λL2 hL2=>⟨L2,rL,⟨_,SqL.of zg⟩,?_⟩⟩
 have sE:=zi.upd (o:=.lst [.ref q,.ref ot]) hL2
 have eL2:upd GD L2 (.lst [.ref q,.ref ot]) L2=some (.lst [.ref q,.ref ot]):=zg
 generalize upd GD L2 (.lst [.ref q,.ref ot])=GE at sE eL2
 refine qA (xs:=[.ref q,.ref ot]) (λn σ G=>zi GE G/\∃z3,σ=[Sr a0,Si i,Sr p,Sr r,Sr a,Si kb,Sr q,Sr u,Si wy,Si far,Si od,Sr sp,Sr ot,z1,z2,z3]) ⟨zi.refl _,_,rL⟩ (λn σ G _ ⟨s,_⟩=>SqL.of (s _ _ eL2)) ?_ ?_
 ·rintro n v σ G hv ⟨sG,z3,rfl⟩
  dsimp only[zG]
  refine⟨_,rL,_,rL,_,rL,_,rL,_,rL,_,rL,?_⟩
  refine zgI hw (EAD.tups (.of (sE.trans sG))) hod λl G1 S1 hl=>?_
  refine⟨zL1,λe1 he1=>?_⟩
  have X1:=zi.upd (o:=.lst [.str "ball"]) he1
  refine vw (xW (X1 _ _ hl)) (xW zg) zbG ⟨_,rL,xc ?_⟩
  exact⟨sG.trans (S1.trans X1),_,rL⟩
 rintro σ GF ⟨sF,z3,rfl⟩
 refine hnx _ _ ?_
 have sDF:=sE.trans sF
 have EAF:=EAD.tups (.of sDF)
 have t3F:=t3D.same sDF
 have hot:=sDF _ _ hot
 have hq:=sDF _ _ hq
 have hu':=sDF _ _ hu'
 clear EAD sDF sE sF eL2 hL2 t3D
 refine vI λnx hnx=>?_
 refine⟨_,rL,_,rL,_,rL,_,rL,_,rL,_,rL,?_⟩
 refine zeQ hw EAF ⟨k0,k1⟩ hot zot hout λl G1 S1 hl=>?_
 refine⟨zL1,λe1 he1=>?_⟩
 have X1:=zi.upd (o:=.lst [.str "place"]) he1
 refine vw (xW (X1 _ _ hl)) (xW zg) zax ⟨_,rL,xc ?_⟩
 refine hnx _ _ ?_
 have S2:=S1.trans X1
 generalize upd G1 e1 (.lst [.str "place"])=G2 at S2
 clear X1 S1 he1 hl
 have EA2:=EAF.tups (.of S2)
 refine vI λnx hnx=>?_
 refine⟨_,rL,_,rL,_,rL,_,rL,_,rL,_,rL,?_⟩
 refine zgJ hw EA2 ⟨k0,k1⟩ (S2 _ _ hq) hy (S2 _ _ hu') hx λl G4 S4 hl=>?_
 refine⟨zL0,λe1 he1=>?_⟩
 have X1:=zi.upd (o:=.lst []) he1
 refine vw (.lst (X1 _ _ hl) .nil) (.lst zg .nil) rL ⟨_,rL,xc ?_⟩
 refine hnx _ _ ?_
 have S5:=S2.trans (S4.trans X1)
 generalize upd G4 e1 (.lst [])=GH at S5
 clear X1 S4 he1 hl S2 EA2
 have EAH:=EAF.tups (.of S5)
 have t3H:=t3F.same S5
 have hot:=S5 _ _ hot
 refine⟨_,rfl,_,_,rfl,rfl,(by decide:(0:Int)<12),rfl,_,rfl,qT (λ_=>?_) (λ_=>?_)⟩
 ·refine⟨_,rL,_,rL,_,rL,_,rL,_,rL,_,rL,p,r,a,.ref q,ot,.ref u,us,bs,g,j,d,c,w',jp,dp,wy,yo,rL,t3H.pool,EAH,hw,hot,zot,hout,λGI tI=>⟨_,rL,xc ?_⟩⟩
  exact⟨_,_,_,_,_,_,_,_,_,_,_,_,_,_,_,rL,back _ (t3H.trans tI)⟩
 ·refine xc ?_
  exact⟨_,_,_,_,_,_,_,_,_,_,_,_,_,_,_,rL,back _ t3H⟩
open PySem.W
def xKB (K:Frag) (C:Addr):Bool:=findIn K (.ref C) "__getattribute__" == some (some (.builtin "BaseException.__getattribute__"))&&findIn K (.ref C) "__getattr__" == some none&&subIn K (.ref C) (.type "BaseException") == some true&&mroIn K C (.type "object") == some true&&hasDictIn K C &&
 findIn K (.ref C) "__class__" == some (some (.builtin "object.__class__"))&&specialIn K (.builtin "object.__class__") "__get__" == some (some (.builtin "getset_descriptor.__get__"))&&takesIn K (.builtin "object.__class__") == some true
theorem zcx {K:Frag}{C:Addr}(h:xKB K C=true):zfK K C:=by
 simp only[xKB,uN,beq_iff_eq]at h
 obtain⟨⟨⟨⟨⟨⟨⟨h1,h2⟩,h3⟩,h4⟩,h5⟩,h6⟩,h7⟩,h8⟩:=h
 exact⟨h1,h2,h3,h4,h5,h6,h7,h8⟩
theorem JP {K:Frag}{h:Heap}{mg:Str->Option Value}{x:Str}{C:Addr}(X:K.In h) (G:h.Ns mainGlobals mg) (e:nsIn K mainGlobals x=some (some (.ref C))) (q:excIn K C zdy "ValueError.__new__" = true):zcB x C mg h:=by
 unfold excIn at q
 split at q
 case h_2=>cases q
 case h_1 dd cd sl ho =>
  split at q
  case h_2=>cases q
  case h_1 C' bm k0 k1 k2 k3 n k5 hm hs =>
   obtain⟨cnm,cbs,cmro,cns,cqn,chd,csn,csub,cab,ccol,cdel⟩:=cd
   obtain⟨sll⟩:=sl
   simp only at hm hs q
   subst hm;subst hs
   simp only[uN,beq_iff_eq,Bool.not_eq_true']at q
   obtain⟨⟨⟨⟨⟨eC,en⟩,ed⟩,et⟩,eo⟩,ei⟩:=q
   subst eC;subst en;subst ed
   exact⟨mg_of X G e,bm,cns,cnm,cqn,cbs,chd,csn,csub,cab,ccol,dd,k0,k1,k2,k3,k5,_,X _ _ ho,.of_isNs (isNs_of_in X eo),nsMap_none_of_in X eo ei,tail_of_in X et⟩
def DD (K:Fg) (x:Str) (st:Stmt):Prop:=∃(f:Addr) (oc:Value) (od an:Option Addr) (sl:Array (Option Value)) (kV dc pm cd ct:Value),
 PySem.W.nsIn K mainGlobals x=some (some (.ref f))/\K.lookup f=some ⟨oc,od,.func (PySem.W.fnOf x x (xB st) (zZ st) (zk st) .none kV dc pm an cd ct),sl⟩/\PySem.W.codeIn K cd x=true/\PySem.W.keepIn K (.ref f)=true
section
variable {K:Fg}{x:Str}{st:Stmt}
theorem zjD {f:Addr}{oc:Value}{od an:Option Addr}{sl:Array (Option Value)}{kV dc pm cd ct:Value}(a:PySem.W.nsIn K mainGlobals x=some (some (.ref f))) (l:K.lookup f=some ⟨oc,od,.func (PySem.W.fnOf x x (xB st) (zZ st) (zk st) .none kV dc pm an cd ct),sl⟩) (c:PySem.W.codeIn K cd x=true) (k:PySem.W.keepIn K (.ref f)=true):DD K x st :=
 ⟨f,oc,od,an,sl,kV,dc,pm,cd,ct,a,l,c,k⟩
variable {h:Heap}{mg:Str->Option Value}{ps:List Str}
theorem DD.df (d:DD K x st) (X:K.In h) (G:h.Ns mainGlobals mg) (hb:∀(kV dc pm cd ct:Value) (an:Option Addr) (us:List Value),us.length=ps.length->bindArgs (PySem.W.fnOf x x (xB st) (zZ st) (zk st) .none kV dc pm an cd ct) ⟨us,[]⟩=pure (ps.zip us)):Df K mg x st ps []:=by
 obtain⟨f,oc,od,an,sl,kV,dc,pm,cd,ct,a,l,c,k⟩:=d
 exact zjE l c k (yq X G a) (hb kV dc pm cd ct an)
theorem lsc {n:Nat}{us:List Value}(e:us.length=n+1):∃a t,us=a::t/\t.length=n:=by
 cases us with
 | nil=>cases e
 | cons a t=>exact⟨a,t,rfl,Nat.succ.inj e⟩
theorem lsn {us:List Value}(e:us.length=0):us=[]:=yX.mp e
theorem DD.df1 {p:Str}(d:DD K x st) (X:K.In h) (G:h.Ns mainGlobals mg) (hb:∀(kV dc pm cd ct:Value) (an:Option Addr) a,bindArgs (PySem.W.fnOf x x (xB st) (zZ st) (zk st) .none kV dc pm an cd ct) ⟨[a],[]⟩=pure ([p].zip [a]):=by intros;rfl):Df K mg x st [p] [] :=
 d.df X G λkV dc pm cd ct an us hl=>by
  obtain⟨a,us,rfl,h1⟩:=lsc hl
  cases lsn h1
  exact hb kV dc pm cd ct an a
theorem DD.df2 {p q:Str}(d:DD K x st) (X:K.In h) (G:h.Ns mainGlobals mg) (hb:∀(kV dc pm cd ct:Value) (an:Option Addr) a b,bindArgs (PySem.W.fnOf x x (xB st) (zZ st) (zk st) .none kV dc pm an cd ct) ⟨[a,b],[]⟩=pure ([p,q].zip [a,b]):=by intros;rfl):Df K mg x st [p,q] [] :=
 d.df X G λkV dc pm cd ct an us hl=>by
  obtain⟨a,us,rfl,h1⟩:=lsc hl
  obtain⟨b,us,rfl,h2⟩:=lsc h1
  cases lsn h2
  exact hb kV dc pm cd ct an a b
theorem DD.df3 {p q r:Str}(d:DD K x st) (X:K.In h) (G:h.Ns mainGlobals mg) (hb:∀(kV dc pm cd ct:Value) (an:Option Addr) a b c,bindArgs (PySem.W.fnOf x x (xB st) (zZ st) (zk st) .none kV dc pm an cd ct) ⟨[a,b,c],[]⟩=pure ([p,q,r].zip [a,b,c]):=by intros;rfl):Df K mg x st [p,q,r] [] :=
 d.df X G λkV dc pm cd ct an us hl=>by
  obtain⟨a,us,rfl,h1⟩:=lsc hl
  obtain⟨b,us,rfl,h2⟩:=lsc h1
  obtain⟨c,us,rfl,h3⟩:=lsc h2
  cases lsn h3
  exact hb kV dc pm cd ct an a b c
theorem DD.df4 {p q r s:Str}(d:DD K x st) (X:K.In h) (G:h.Ns mainGlobals mg) (hb:∀(kV dc pm cd ct:Value) (an:Option Addr) a b c e,bindArgs (PySem.W.fnOf x x (xB st) (zZ st) (zk st) .none kV dc pm an cd ct) ⟨[a,b,c,e],[]⟩=pure ([p,q,r,s].zip [a,b,c,e]):=by intros;rfl):Df K mg x st [p,q,r,s] [] :=
 d.df X G λkV dc pm cd ct an us hl=>by
  obtain⟨a,us,rfl,h1⟩:=lsc hl
  obtain⟨b,us,rfl,h2⟩:=lsc h1
  obtain⟨c,us,rfl,h3⟩:=lsc h2
  obtain⟨e,us,rfl,h4⟩:=lsc h3
  cases lsn h4
  exact hb kV dc pm cd ct an a b c e
theorem DD.df5 {p q r s t:Str}(d:DD K x st) (X:K.In h) (G:h.Ns mainGlobals mg) (hb:∀(kV dc pm cd ct:Value) (an:Option Addr) a b c e f,bindArgs (PySem.W.fnOf x x (xB st) (zZ st) (zk st) .none kV dc pm an cd ct) ⟨[a,b,c,e,f],[]⟩=pure ([p,q,r,s,t].zip [a,b,c,e,f]):=by intros;rfl):Df K mg x st [p,q,r,s,t] [] :=
 d.df X G λkV dc pm cd ct an us hl=>by
  obtain⟨a,us,rfl,h1⟩:=lsc hl
  obtain⟨b,us,rfl,h2⟩:=lsc h1
  obtain⟨c,us,rfl,h3⟩:=lsc h2
  obtain⟨e,us,rfl,h4⟩:=lsc h3
  obtain⟨f,us,rfl,h5⟩:=lsc h4
  cases lsn h5
  exact hb kV dc pm cd ct an a b c e f
theorem DD.df6 {p q r s t u:Str}(d:DD K x st) (X:K.In h) (G:h.Ns mainGlobals mg) (hb:∀(kV dc pm cd ct:Value) (an:Option Addr) a b c e f g,bindArgs (PySem.W.fnOf x x (xB st) (zZ st) (zk st) .none kV dc pm an cd ct) ⟨[a,b,c,e,f,g],[]⟩=pure ([p,q,r,s,t,u].zip [a,b,c,e,f,g]):=by intros;rfl):Df K mg x st [p,q,r,s,t,u] [] :=
 d.df X G λkV dc pm cd ct an us hl=>by
  obtain⟨a,us,rfl,h1⟩:=lsc hl
  obtain⟨b,us,rfl,h2⟩:=lsc h1
  obtain⟨c,us,rfl,h3⟩:=lsc h2
  obtain⟨e,us,rfl,h4⟩:=lsc h3
  obtain⟨f,us,rfl,h5⟩:=lsc h4
  obtain⟨g,us,rfl,h6⟩:=lsc h5
  cases lsn h6
  exact hb kV dc pm cd ct an a b c e f g
end
end KK
namespace PySem.W.Fast
def tw10017277634110458975:=0
def tw10337934146759014958:=0
def tw10563860570213837816:=0
def tw10613588256781006238:=0
def tw1081185112462721067:=0
def tw1094487875518356006:=0
def tw11279017923954851282:=0
def tw11438318081295797195:=0
def tw11736572828804684138:=0
def tw1198538073729297832:=0
def tw12161788126043101212:=0
def tw1219146977851671315:=0
def tw12197300664509703499:=0
def tw12209441876753701098:=0
def tw12330650345205836633:=0
def tw12749823071821707087:=0
def tw12854946588401752855:=0
def tw12888936844853333786:=0
def tw12973047303770586437:=0
def tw13059949930961603212:=0
def tw13128832339261143557:=0
def tw13298733122616808208:=0
def tw13749118454479479329:=0
def tw13935328535019525562:=0
def tw14396866868820689443:=0
def tw1454366225616612679:=0
def tw14588968569939219969:=0
def tw14610518187141953585:=0
def tw1495935485972068010:=0
def tw15005507067179271604:=0
def tw15007846318037991710:=0
def tw15023617314643611881:=0
def tw15045490410392856956:=0
def tw15236751625875016851:=0
def tw15750538696611607151:=0
def tw1579181323738227547:=0
def tw1594552998189381489:=0
def tw16012058224749436244:=0
def tw16158529050689976601:=0
def tw16455274470941166632:=0
def tw16475310944449532143:=0
def tw166956608601203268:=0
def tw16830392023919000074:=0
def tw16858453475172203054:=0
def tw17543361731605184632:=0
def tw17669992207838141772:=0
def tw17731241726256164523:=0
def tw17736205014280179427:=0
def tw17760236561485081209:=0
def tw18011619014856874115:=0
def tw1813695470980753494:=0
def tw18261372698728015407:=0
def tw18434556687875749745:=0
def tw1866534915836166149:=0
def tw1968201561327742710:=0
def tw1997321709995330278:=0
def tw2026839955772213208:=0
def tw2065886711841302164:=0
def tw2203759298944545445:=0
def tw2233288063995454226:=0
def tw2304285775172028927:=0
def tw232252754748004890:=0
def tw2327160592297663602:=0
def tw2414540994758751268:=0
def tw2640480194036309535:=0
def tw2725239740736922701:=0
def tw2767132093184267023:=0
def tw3120431371558502154:=0
def tw3143752323204278686:=0
def tw3357805775879412980:=0
def tw3562801615872122468:=0
def tw3569618257880467116:=0
def tw3593263949641966751:=0
def tw3656380228497594287:=0
def tw3727244671325017156:=0
def tw3732583540842265024:=0
def tw3758593848721150186:=0
def tw4028733291580793773:=0
def tw4194612547048666431:=0
def tw4357114660724647336:=0
def tw4707102537822030792:=0
def tw475169367239101873:=0
def tw4981565091359057851:=0
def tw5213221325971905688:=0
def tw52227385779348576:=0
def tw5242598057561993894:=0
def tw5346778532930968661:=0
def tw5437534423344166420:=0
def tw5470309911660732551:=0
def tw5514231568353810651:=0
def tw5658555866214140737:=0
def tw5776786747705547894:=0
def tw5777278687884268398:=0
def tw6058658828638712887:=0
def tw6078266814241958622:=0
def tw6121149193412091816:=0
def tw6351037231502575161:=0
def tw6387225275699903250:=0
def tw6504459291854073649:=0
def tw6587774300465506377:=0
def tw6731668123768544579:=0
def tw6982671984092938439:=0
def tw7097321999315716922:=0
def tw7200524973014494895:=0
def tw7429652744266720854:=0
def tw7529325527355282462:=0
def tw8012239428138716446:=0
def tw8062170555167393270:=0
def tw8063958420278768980:=0
def tw8104827805379644270:=0
def tw8179327816061795873:=0
def tw8215238551935321845:=0
def tw8314992623284154839:=0
def tw8332997343462178069:=0
def tw8601643788335113924:=0
def tw9126958492308677668:=0
def tw9132833195806457968:=0
def tw9173391115494226975:=0
def tw9188107328085943990:=0
def tw9564479920724731118:=0
def tw9586314176346832579:=0
def tw9672780774911427960:=0
def tw9680531845822742404:=0
def tw9842893890697131238:=0
def tw9933748118007951045:=0
def tw1965367029742073888:=0
def tw171813178355422089:=0
def tw11390161892829039332:=0
def tw16777150559648381652:=0
def tw8553492783245820485:=0
def tw13667293980149957813:=0
def tw7878613500250412887:=0
def tw5841253120903790787:=0
def tw12928346441407549286:=0
def tw2829859048991715306:=0
def tw12517892951943461027:=0
def tw10091130513196738908:=0
def tw1685835202626286196:=0
def tw6056068454609595488:=0
def tw10828768800872784111:=0
def tw10459422824390696350:=0
def tw8478479469791812655:=0
def tw5860740619774534922:=0
def tw11010070802691430723:=0
def tw6473338005581954398:=0
def tw1788410223218158703:=0
def tw14900994969802570884:=0
def tw6037885214791795360:=0
def tw1518642923381294431:=0
def tw9894079373808644004:=0
def tw11603407170556231696:=0
def tw11883802590017139269:=0
def tw3144950637244117857:=0
def tw2725041496591555703:=0
def tw582984532577543688:=0
def tw8743826785495609942:=0
def tw13376230395473093061:=0
def tw10700895083483588045:=0
def tw17166342792737124300:=0
def tw10885492646140973891:=0
def tw5812792554631450322:=0
def tw8179818481883930514:=0
def tw16240486758146273887:=0
def tw10777345726146429384:=0
def tw13597515681022426657:=0
def tw15635123540711928420:=0
def tw3358007450862706141:=0
def tw12443348589338862235:=0
def tw6925702061429852082:=0
def tw3516567271359983716:=0
def tw16073888358310492378:=0
def tw6528342632749312528:=0
def tw11247133139539583721:=0
def tw12192176183658053368:=0
def tw1159795522030825137:=0
def tw5161566106947989010:=0
def tw16878706749654877172:=0
def tw11488328860037667244:=0
def tw5662302779941279575:=0
def tw3365727255239297248:=0
def tw6797799020725129786:=0
def tw4789852303286259988:=0
def tw8155230416854734786:=0
def tw2635396594172260491:=0
def tw7621370356943877407:=0
def tw3169391506719260331:=0
def tw2068055834931421006:=0
def tw16974217977439625795:=0
def tw9636053362764327454:=0
def tw8013864766890895925:=0
def tw4708489410129015870:=0
def tw10588450333845912704:=0
def tw11809616960060542703:=0
def tw13733830765302689200:=0
def tw8973758465160058927:=0
def tw14491365128804505688:=0
def tw14058291632264874511:=0
def tw15257153595303249839:=0
def tw3583490882553078306:=0
def tw16216861571067424393:=0
def tw611063775011929743:=0
def tw5585307370819318943:=0
def tw17948606213845425845:=0
def tw11490779993828850834:=0
def tw8080178860513214777:=0
def tw13496578951331809705:=0
def tw9678089087169514805:=0
def tw6888965988844414372:=0
def tw10677678099658711929:=0
def tw1918561333777267929:=0
def tw1121205645878852244:=0
def tw3117724391065225757:=0
def tw7320729949907241287:=0
def tw11347281355062358312:=0
def tw3720426437228165451:=0
def tw7178180539509936130:=0
def tw7157166215687556724:=0
def tw7132148628435212403:=0
def tw13676188074762431721:=0
def tw12271412135047127353:=0
def tw7842317790171046256:=0
def tw16192718917681719411:=0
def tw5586099881651211024:=0
def tw13189667612204293548:=0
def tw1044439503713534496:=0
def tw15717000852482757708:=0
def tw10528855077077942097:=0
def tw5789484268384006465:=0
def tw11077424444083963381:=0
def tw4001616276454198076:=0
def tw9013649802648389035:=0
def tw7905723327625925632:=0
def tw17600555039233479931:=0
def tw10398550473369850546:=0
def tw6908381639028182321:=0
def tw11758634602877531944:=0
def tw10442748278115552074:=0
def tw14988850445063925076:=0
def tw5606571054448435056:=0
def tw8829766449683587375:=0
def tw2448900575754905267:=0
def tw14342723020821935172:=0
def tw15054238619935931053:=0
def tw2417048602208974818:=0
def tw6912042916150612639:=0
def tw13768983094845822714:=0
def tw5730112968087854:=0
def tw17210792587624762414:=0
def tw14934867862070125279:=0
def tw9703043346675866397:=0
def tw8198859749421302873:=0
def tw315874897341387913:=0
def tw149184880388814481:=0
def tw496158578006082077:=0
def tw9220064156787937183:=0
def tw6420416016500819091:=0
def tw6158681636049702680:=0
def tw4613036612111730977:=0
def tw3579066299356776934:=0
def tw3415088109094636926:=0
def tw2797162154790431353:=0
def tw18125622591943401048:=0
def tw18390042694191406648:=0
def tw16911018909976857526:=0
def tw11157303143659975035:=0
def tw11194879056818695900:=0
def tw5680709815991200846:=0
def tw13660818117087828948:=0
def tw13615761343069196767:=0
def tw15961272682171950288:=0
def tw9728241956997698534:=0
def tw5881082621962973709:=0
def tw15003860919533805284:=0
def tw15381657724135954565:=0
def tw10271263972074874192:=0
def tw9689539534909509462:=0
def tw13306918566442680331:=0
def tw10411909220919669324:=0
def tw727533492205579824:=0
def tw18305389793947011334:=0
def tw1381675627433825576:=0
def tw6931029632652326233:=0
def tw2527566451694867659:=0
def tw2174690893985815812:=0
def tw13768614690346716791:=0
end PySem.W.Fast
namespace KK
open PySem L2 KM
theorem zh9 (K:Fg):PySem.W.kitOne K (.type "int") (.type "int")=some true:=by
 unfold PySem.W.kitOne;rw[if_pos (by decide +kernel)]
theorem zh8 (K:Fg):PySem.W.kitOne K (.type "int") (.type "bool")=some false:=by
 with_unfolding_all rfl
theorem zia (K:Fg):PySem.W.kitOne K (.type "tuple") (.type "tuple")=some true:=by
 unfold PySem.W.kitOne;rw[if_pos (by decide +kernel)]
theorem zhP {l:PySem.W.OpenLaw}{w:World}{K:Fg}{h:Heap}{mg:Str->Option Value}{fa:Addr}(X:K.In h) (G:h.Ns mainGlobals mg) (hfa:mg "law" = some (.ref fa))
  (a0:DD K "is_whole" Xu)
  (a1:DD K "is_tuple" Xt)
  (a2:DD K "greatest_divisor" qD)
  (a3:DD K "is_ratio" Xp)
  {f4:Addr}{od4 an4:Option Addr}{sl4:Array (Option Value)}{oc4 kV4 dc4 pm4 cd4 ct4:Value}{Td4:Addr}{ocd4:Value}{odd4:Option Addr}{tkd4:Tok}{nd4:Nat}{sld4:Array (Option Value)}
  (a4:PySem.W.nsIn K mainGlobals "ratio" = some (some (.ref f4))) (l4:K.lookup f4=some ⟨oc4,od4,.func (PySem.W.fnOf "ratio" "ratio" (xB Zp) (zZ Zp) (zk Zp) (.ref Td4) kV4 dc4 pm4 an4 cd4 ct4),sl4⟩) (c4:PySem.W.codeIn K cd4 "ratio" = true) (k4:PySem.W.keepIn K (.ref f4)=true)
  (ld4:K.lookup Td4=some ⟨ocd4,odd4,.seq #[.int 1 tkd4] nd4,sld4⟩)
  (a5:DD K "over" zbr)
  (a6:DD K "less" zbq)
  (a7:DD K "least_multiple" va)
  (a8:DD K "common_bottom" vo)
  (a9:DD K "track_of" XF)
  (a10:DD K "ticks_of" XE)
  (a11:DD K "moment_of" ZP)
  (a12:DD K "refine" Vv)
  (a13:DD K "refined" QE)
  (a14:DD K "is_wall" Qz)
  (a15:DD K "is_wall_pair" vH)
  (a16:DD K "is_ball_form" vG)
  (a17:DD K "is_row_form" vX)
  (a18:DD K "is_even" Qy)
  (a19:DD K "is_still" Xq)
  (a20:DD K "is_plain" Xo)
  (a21:DD K "refuse_uneven" qh)
  (a22:DD K "refuse_no_box" qg)
  (a23:DD K "refuse_no_ball" xX)
  (a24:DD K "refuse_no_place" xO)
  (a25:DD K "trip_of" QF)
  (a26:DD K "line_at" QD)
  (a27:DD K "passes" Vu)
  (a28:DD K "phases_of" ZQ)
  (a29:DD K "comes_again" vW)
  (a30:DD K "greatest_many" vp)
  (a31:DD K "least_round" vZ)
  (a32:DD K "round_of" XD)
  (a33:DD K "gaps_to" Qx)
  (a34:DD K "refuse_too_many" qP)
  (a35:DD K "moments_between" qO)
  (a36:DD K "looked_at" ZO)
  (a37:DD K "is_there" Xs)
  (a38:DD K "when" XG)
  (a39:DD K "lets_never" qN)
  (a40:DD K "_law_cell" Xv)
  (a41:DD K "_law_dig" QA)
  (a42:DD K "_law_next" Xz)
  (a43:DD K "_law_lowest" Zl)
  (a44:DD K "_law_far" QB)
  (a45:DD K "_law_spaced" Zn)
  (a46:DD K "_law_even" Xx)
  (a47:DD K "_law_less" Xy)
  (a48:DD K "_law_sum" QC)
  (a49:DD K "_law_product" vY)
  (a50:DD K "_law_sorted" Zm)
  (a51:DD K "_law_ahead" ZM)
  (a52:DD K "_law_minus" ZN)
  (a53:DD K "_law_over" XA)
  (a54:DD K "_law_wish" XB)
  (a55:DD K "_law_refused" qj)
  (a56:DD K "_law_uneven" Zo)
  (a57:DD K "_law_dear" Xw)
  (a58:DD K "_law_dear_right" qZ)
  {f59:Addr}{od59 an59:Option Addr}{sl59:Array (Option Value)}{oc59 kV59 dc59 pm59 cd59 ct59:Value}
  (a59:PySem.W.nsIn K mainGlobals "law" = some (some (.ref f59))) (l59:K.lookup f59=some ⟨oc59,od59,.func (PySem.W.fnOf "law" "law" (xB s_law) (zZ s_law) (zk s_law) .none kV59 dc59 pm59 an59 cd59 ct59),sl59⟩) (c59:PySem.W.codeIn K cd59 "law" = true) (k59:PySem.W.keepIn K (.ref f59)=true)
  (j0:PySem.W.nsIn K mainGlobals "isinstance" = some none)
  (j1:PySem.W.nsIn K mainGlobals "int" = some none)
  (j2:PySem.W.nsIn K mainGlobals "bool" = some none)
  (j3:PySem.W.nsIn K mainGlobals "abs" = some none)
  (j4:PySem.W.nsIn K mainGlobals "len" = some none)
  (j5:PySem.W.nsIn K mainGlobals "max" = some none)
  (j6:PySem.W.nsIn K mainGlobals "min" = some none)
  (j7:PySem.W.nsIn K mainGlobals "range" = some none)
  (j8:PySem.W.nsIn K mainGlobals "tuple" = some none)
  (j9:PySem.W.nsIn K mainGlobals "sum" = some none)
  (ja:PySem.W.nsIn K mainGlobals "zip" = some none)
  (jb:PySem.W.nsIn K mainGlobals "list" = some none)
  (jc:PySem.W.nsIn K mainGlobals "enumerate" = some none)
  (jd:PySem.W.nsIn K mainGlobals "sorted" = some none)
  (je:PySem.W.nsIn K mainGlobals "all" = some none)
  (jf:PySem.W.nsIn K mainGlobals "set" = some none)
  (jg:PySem.W.nsIn K mainGlobals "ValueError" = some none)
  {jh:Addr}(ji:PySem.W.nsIn K mainGlobals "ClackError" = some (some (.ref jh)))
  {jj:Addr}(jk:PySem.W.nsIn K mainGlobals "NotEven" = some (some (.ref jj)))
  {jl:Addr}(jm:PySem.W.nsIn K mainGlobals "NoBall" = some (some (.ref jl)))
  {jn:Addr}(jo:PySem.W.nsIn K mainGlobals "NoPlace" = some (some (.ref jn)))
  {jp:Addr}(jq:PySem.W.nsIn K mainGlobals "TooMany" = some (some (.ref jp)))
  {jr:Addr}(js:PySem.W.nsIn K mainGlobals "NoRatio" = some (some (.ref jr)))
  {jt:Addr}(ju:PySem.W.nsIn K mainGlobals "NoEnd" = some (some (.ref jt)))
  {jv:Addr}(jw:PySem.W.nsIn K mainGlobals "NoRow" = some (some (.ref jv)))
  {jx:Addr}(jy:PySem.W.nsIn K mainGlobals "NoText" = some (some (.ref jx)))
  {jz:Addr}(jA:PySem.W.nsIn K mainGlobals "NoOrder" = some (some (.ref jz)))
  {jB:Addr}(jC:PySem.W.nsIn K mainGlobals "NoPast" = some (some (.ref jB)))
  {jD:Addr}(jE:PySem.W.nsIn K mainGlobals "Together" = some (some (.ref jD)))
  {jF:Addr}(jG:PySem.W.nsIn K mainGlobals "Shut" = some (some (.ref jF)))
  {jH:Addr}(jI:PySem.W.nsIn K mainGlobals "Course" = some (some (.ref jH)))
  (jJ:PySem.W.keepIn K (.ref jH)=true)
  {jK:Addr}{jL jM:Option Addr}{jN:Array (Option Value)}{jO jP jQ jR jS:Value}(jT:PySem.W.findIn K (.ref jH) "__init__" = some (some (.ref jK)))
  (jU:K.lookup jK=some ⟨.type "function",jL,.func (PySem.W.fnOf "__init__" "Course.__init__" (xB qi) (zZ qi) (zk qi) .none jO jP jQ jM jR jS),jN⟩) (jV:PySem.W.codeIn K jR "Course.__init__" = true) (jW:PySem.W.keepIn K (.ref jK)=true)
  (jX:PySem.W.findIn K (.ref jH) "__setattr__" = some (some (.builtin "object.__setattr__")))
  (jY:YX K jj zdy "ValueError.__new__" = true)
  (xkE:xKB K jj=true)
  (exE:PySem.W.exmOne K (.ref jj) (.ref jh)=some true)
  (veE:PySem.W.kitOne K (.ref jj) (.type "ValueError")=some true)
  (jZ:YX K jl zdy "ValueError.__new__" = true)
  (xkB:xKB K jl=true)
  (exB:PySem.W.exmOne K (.ref jl) (.ref jh)=some true)
  (veB:PySem.W.kitOne K (.ref jl) (.type "ValueError")=some true)
  (y0:YX K jn zdy "ValueError.__new__" = true)
  (xkP:xKB K jn=true)
  (exP:PySem.W.exmOne K (.ref jn) (.ref jh)=some true)
  (veP:PySem.W.kitOne K (.ref jn) (.type "ValueError")=some true)
  (y1:YX K jp zdy "ValueError.__new__" = true)
  (xkM:xKB K jp=true)
  (exM:PySem.W.exmOne K (.ref jp) (.ref jh)=some true)
  (veM:PySem.W.kitOne K (.ref jp) (.type "ValueError")=some true)
  (k1E:PySem.W.kitOne K (.ref jj) (.ref jj)=some true)
  (k2E:PySem.W.kitOne K (.ref jj) (.ref jl)=some false)
  (k3E:PySem.W.kitOne K (.ref jj) (.ref jn)=some false)
  (k4E:PySem.W.kitOne K (.ref jj) (.ref jp)=some false)
  (koE:PySem.W.kitAny K (.ref jj) [.ref jr,.ref jt,.ref jv,.ref jx,.ref jz,.ref jB,.ref jD,.ref jF]=some false)
  (k1B:PySem.W.kitOne K (.ref jl) (.ref jj)=some false)
  (k2B:PySem.W.kitOne K (.ref jl) (.ref jl)=some true)
  (k3B:PySem.W.kitOne K (.ref jl) (.ref jn)=some false)
  (k4B:PySem.W.kitOne K (.ref jl) (.ref jp)=some false)
  (koB:PySem.W.kitAny K (.ref jl) [.ref jr,.ref jt,.ref jv,.ref jx,.ref jz,.ref jB,.ref jD,.ref jF]=some false)
  (k1P:PySem.W.kitOne K (.ref jn) (.ref jj)=some false)
  (k2P:PySem.W.kitOne K (.ref jn) (.ref jl)=some false)
  (k3P:PySem.W.kitOne K (.ref jn) (.ref jn)=some true)
  (k4P:PySem.W.kitOne K (.ref jn) (.ref jp)=some false)
  (koP:PySem.W.kitAny K (.ref jn) [.ref jr,.ref jt,.ref jv,.ref jx,.ref jz,.ref jB,.ref jD,.ref jF]=some false)
  (k1M:PySem.W.kitOne K (.ref jp) (.ref jj)=some false)
  (k2M:PySem.W.kitOne K (.ref jp) (.ref jl)=some false)
  (k3M:PySem.W.kitOne K (.ref jp) (.ref jn)=some false)
  (k4M:PySem.W.kitOne K (.ref jp) (.ref jp)=some true)
  (koM:PySem.W.kitAny K (.ref jp) [.ref jr,.ref jt,.ref jv,.ref jx,.ref jz,.ref jB,.ref jD,.ref jF]=some false)
  (k1N:PySem.W.kitOne K (.type "NoneType") (.ref jj)=some false)
  (k2N:PySem.W.kitOne K (.type "NoneType") (.ref jl)=some false)
  (k3N:PySem.W.kitOne K (.type "NoneType") (.ref jn)=some false)
  (k4N:PySem.W.kitOne K (.type "NoneType") (.ref jp)=some false)
  (koN:PySem.W.kitAny K (.type "NoneType") [.ref jr,.ref jt,.ref jv,.ref jx,.ref jz,.ref jB,.ref jD,.ref jF]=some false)
  (mkC:PySem.W.makesIn K jH=true)
  (ifC:PySem.W.isFn K (.ref jK)=true)
  (pgC:PySem.W.plainGet K jH Str.empty=true)
  (hdC:PySem.W.hasDictIn K jH=true)
  (poC:PySem.W.plainOver K jH=true)
  (y2:PySem.W.findIn K (.ref jH) "place_bottom" = some none)
  (y3:PySem.W.findIn K (.ref jH) "speed_bottom" = some none)
  (y4:PySem.W.findIn K (.ref jH) "tick" = some none)
  (y5:PySem.W.findIn K (.ref jH) "weights" = some none)
  (y6:PySem.W.findIn K (.ref jH) "tracks" = some none)
  (y7:PySem.W.findIn K (.ref jH) "low" = some none)
  (y8:PySem.W.findIn K (.ref jH) "high" = some none)
  {y9:Tok}(ya:PySem.W.nsIn K mainGlobals "MOST_LOOKED_AT" = some (some (.int 1000 y9)))
  {yb:Addr}{yc yd:Tok}{ye:Nat}{yf:Option Addr}{yg:Array (Option Value)} (yh:PySem.W.nsIn K mainGlobals "NOUGHT" = some (some (.ref yb))) (yi:K.lookup yb=some ⟨.type "tuple",yf,.seq #[.int 0 yc,.int 1 yd] ye,yg⟩) :
  ∃fd:FuncData,(∀(s:Shared) (v:Value),BindsTo s fd ⟨[v],[]⟩ [("script",v)])/\∀base:Heap,K.In base->base.Ns mainGlobals mg->Zu l.prog w K mg base CX0 14 fa fd ["script"] (zaI K):=by
 have e:=hfa.symm.trans (yq X G a59)
 cases e
 have d_ratio:Df K mg "ratio" Zp ["top","bottom"] []:=⟨⟨f4,_,_,_,_,_,_,_,_,_,_,[],l4,c4,k4,yq X G a4,.nil,λs us KX hl=>match us,hl with | [_,_],_=>.of_defaults rfl (KX _ _ ld4) rfl rfl rfl⟩⟩
 have dd_ratio:Df K mg "ratio" Zp ["top","bottom"] [.int 1]:=⟨⟨f4,_,_,_,_,_,_,_,_,_,_,[.int 1 tkd4],l4,c4,k4,yq X G a4,.cons ⟨_,rfl⟩ .nil,λs us KX hl=>have hl2:us.length=1:=(by simpa using hl);match us,hl2 with | [_],_=>.of_defaults rfl (KX _ _ ld4) rfl rfl rfl⟩⟩
 have d_refuse_uneven:Df K mg "refuse_uneven" qh ["row","walls"] []:=a21.df2 X G
 have d_refuse_no_box:Df K mg "refuse_no_box" qg ["row","walls"] []:=a22.df2 X G
 have d_refuse_no_ball:Df K mg "refuse_no_ball" xX ["many","k"] []:=a23.df2 X G
 have d_refuse_no_place:Df K mg "refuse_no_place" xO ["walls","place"] []:=a24.df2 X G
 have d_when:Df K mg "when" XG ["row","walls","k","place","t"] []:=a38.df5 X G
 have d_lets_never:Df K mg "lets_never" qN ["row","walls","k","place","t","moments"] []:=a39.df6 X G
 have T:TxB K mg:=⟨zh9 K,zh8 K,w4 X G j0,w4 X G j1,w4 X G j2,w4 X G j3,w4 X G j4,w4 X G j5,w4 X G j6,w4 X G j7,w4 X G j8,w4 X G j9⟩
 have F:=zd7 (st:=s_law) l59 c59 k59
 refine⟨PySem.W.fnOf "law" "law" (xB s_law) (zZ s_law) (zk s_law) .none kV59 dc59 pm59 an59 cd59 ct59,λs v=>.of_eq rL,λbase hKb hGb=>?_⟩
 have T3:Tx3 K mg yb:=⟨w4 X G je,w4 X G jd,w4 X G jc,yq X G yh,⟨_,_,_,_,yi,rfl,rfl⟩,zia K⟩
 have TQ:TxQ K mg:=⟨T,w4 X G jb,w4 X G ja⟩
 have nL:=w4 X G jb
 have nSo:=w4 X G jd
 have nSe:=w4 X G jf
 have TM:=yq X G ya
 have mCo:=yq X G jI
 have FUC:=zd7 (st:=qi) jU jV jW
 have BIC:=FUC.binds (ps:=["self","row","walls"]) λ_ _ _ _ _ _ us hl=>match us,hl with | [_,_,_],_=>rfl
 have TC:TCo K jH:=⟨⟨pgC,hdC,poC,jX⟩,y2,y3,y4,y5,y6,y7,y8⟩
 have M:Mk K jH jK:=⟨mkC,jT,ifC,jJ⟩
 have OE:=JP hKb hGb jk jY
 have OB:=JP hKb hGb jm jZ
 have OP:=JP hKb hGb jo y0
 have OM:=JP hKb hGb jq y1
 let XC:Xc K mg jh jj jl jn jp:=⟨jr,jt,jv,jx,jz,jB,jD,jF,yq X G ji,yq X G js,yq X G ju,yq X G jw,yq X G jy,yq X G jA,yq X G jC,yq X G jE,yq X G jG,yq X G jk,yq X G jm,yq X G jo,yq X G jq,w4 X G jg⟩
 have kE:Xk K XC.cs (.ref jj) jj jl jn jp true false false false:=⟨koE,k1E,k2E,k3E,k4E⟩
 have kB:Xk K XC.cs (.ref jl) jj jl jn jp false true false false:=⟨koB,k1B,k2B,k3B,k4B⟩
 have kP:Xk K XC.cs (.ref jn) jj jl jn jp false false true false:=⟨koP,k1P,k2P,k3P,k4P⟩
 have kM:Xk K XC.cs (.ref jp) jj jl jn jp false false false true:=⟨koM,k1M,k2M,k3M,k4M⟩
 have kN:Xk K XC.cs (.type "NoneType") jj jl jn jp false false false false:=⟨koN,k1N,k2N,k3N,k4N⟩
 have cW:=zeA (P:=l.prog) (w:=w) (base:=base) (a0.df1 X G) T
 have cG:=zij (P:=l.prog) (w:=w) (base:=base) (a2.df2 X G)
 have cR:=zey d_ratio T cW cG
 have cOv:=zgp (a5.df2 X G) cR
 have cLs:=zix (P:=l.prog) (w:=w) (base:=base) (a6.df2 X G)
 have cTu:=zj7 (P:=l.prog) (w:=w) (base:=base) (a1.df2 X G) T T3
 have cIr:=zjV (a3.df1 X G) T cTu cW cG
 have cWa:=zj8 (a14.df1 X G) cTu cIr
 have cWp:=zka (a15.df1 X G) cTu cWa
 have cBf:=zjP (a16.df1 X G) cTu cIr cW
 have cRf:=zez (a17.df1 X G) T T3 cBf
 have cEv:=zjT (a18.df1 X G) T T3 cRf
 have cSt:=zj4 (a19.df1 X G) T3 cWp
 have cLcm:=zin (a7.df1 X G) cG
 have cB:=zjQ (a8.df1 X G) cLcm
 have cTr:=zj6 (P:=l.prog) (w:=w) (base:=base) (a9.df2 X G) TC
 have Fi:=zjS FUC TQ TC cB cR cTr
 have cPl:=zj1 (a20.df2 X G) cEv cSt
 have cRu:=zj3 d_refuse_uneven cPl
 have cTp:=zgs (P:=l.prog) (w:=w) (base:=base) (a25.df1 X G) TC
 have cPs:=ziD (P:=l.prog) (w:=w) (base:=base) (a27.df4 X G)
 have cLa:=zil (P:=l.prog) (w:=w) (base:=base) (a26.df3 X G) T TC
 have cNx:=ziC d_refuse_no_box cRu
 have cNb:=zjZ (P:=l.prog) (w:=w) (base:=base) d_refuse_no_ball
 have cRnp:=ziF d_refuse_no_place cLs
 have cTk:=zj5 (a10.df2 X G) TC cOv
 have cPh:=zj0 (a28.df1 X G) TC cTp
 have cCg:=zjR (P:=l.prog) (w:=w) (base:=base) (a29.df3 X G) T3
 have cGm:=zjU (a30.df2 X G) T cCg
 have cMm:=zjY (a11.df2 X G) TC cR
 have cLr:=ziu (a31.df2 X G) TC cTp cG cLcm cR cMm
 have cRo:=ziG (a32.df2 X G) T T3 TC M Fi mCo BIC cNx cPh cGm cTp cLr cR
 have cGa:=zii (P:=l.prog) (w:=w) (base:=base) (a33.df2 X G) TC
 have cMb:=ziA (P:=l.prog) (w:=w) (base:=base) (a35.df5 X G) T nL
 have cRfn:=ziE (P:=l.prog) (w:=w) (base:=base) (a13.df2 X G)
 have cRe:=zj2 (a12.df2 X G) TC cRfn
 have cThe:=ziI (a37.df4 X G) T TC cLa
 have cRt:=zgr (a34.df4 X G) OM TM cPs
 have cLk:=zjW (a36.df4 X G) T TC TM nSo nSe cLcm cGa cTp cRt cMb
 have cWh:=zj9 d_when T TC M Fi mCo BIC cNx cNb cRnp cRe cLcm cRo cTk cLk cThe cMm
 have cRuE:=ziH d_refuse_uneven OE cPl
 have cNxE:=zgn d_refuse_no_box OE cRu cRuE
 have cNbE:=ziB (P:=l.prog) (w:=w) (base:=base) d_refuse_no_ball OB
 have cRnpE:=zgq d_refuse_no_place OP cLs
 have cWhE:=ziK d_when cNxE
 have cWhB:=ziJ d_when T cNx cNbE
 have cWhP:=ziL d_when T cNx cNb cRnpE
 have cLn:=zjX d_lets_never nL cWh
 have cLnE:=JN (C:=jj) d_lets_never nL cWhE
 have cLnB:=JN (C:=jl) d_lets_never nL cWhB
 have cLnP:=JN (C:=jn) d_lets_never nL cWhP
 have cLnM:=JN (C:=jp) d_lets_never nL cWh
 have rE:=zar (g:=false) T XC (λ_=>⟨veE,exE,zcx xkE⟩) exE kE cWhE cLnE
 have rB:=zar (g:=false) T XC (λ_=>⟨veB,exB,zcx xkB⟩) exB kB cWhB cLnB
 have rP:=zar (g:=false) T XC (λ_=>⟨veP,exP,zcx xkP⟩) exP kP cWhP cLnP
 have rM:=zar (g:=false) T XC (λ_=>⟨veM,exM,zcx xkM⟩) exM kM cWh cLnM
 have rG:=zar (g:=true) (C:=jj) T XC (λe=>nomatch e) exE kN cWh cLn
 have cRfd:=ziv (a55.df6 X G) rE rB rP rM rG
 have cC:=zgi (P:=l.prog) (w:=w) (base:=base) (a40.df2 X G) T
 have cD:=zig (P:=l.prog) (w:=w) (base:=base) (a41.df1 X G) T
 have cN:=zgo (P:=l.prog) (w:=w) (base:=base) (a42.df2 X G)
 have cF:=zih (a44.df1 X G) T cN
 have cLo:=zit (P:=l.prog) (w:=w) (base:=base) (a43.df2 X G) T
 have cS:=zgm (a48.df2 X G) cLo
 have cP:=zex (a49.df2 X G) cLo
 have cLl:=zgj (P:=l.prog) (w:=w) (base:=base) (a47.df2 X G)
 have cMi:=zgk (a52.df2 X G) cS cP
 have cLv:=zis (a53.df2 X G) cLo
 have cAh:=zik (a51.df2 X G) cLl
 have cSr:=ziw (a50.df1 X G) T cAh
 have cSc:=zgl (a45.df5 X G) T cN cLo cS cP cLl
 have cEe:=zir (a46.df2 X G) T cN cF cLo cS cP cSr cSc
 have cWi:=ziz (a54.df3 X G) T cN cF cLo cS cP cMi
 have cDe:=ziq (a57.df2 X G) cMi cLv
 have cUn:=ziy (a56.df3 X G) T cN cLo cS cMi
 have cDr:=zio (a58.df6 X G) T cN cDe cRfd
 exact zim F T cC cD cN cF cLo cS cMi cEe cWi cUn cRfd cDr
theorem walk {l:PySem.W.OpenLaw}{q:Program}{loose:List Str}{XP:(Str->Option Value)->Heap->Prop}{YP:World->Heap->Prop}{d:DefRec}{K:Params->Fg}(hn:l.most=some 63) (hdf:d.params.defaults=[])
  (hY:∀(w:World) (h:Heap),YP w h->(K w.params).In h)
  (F:∀(w:World) (mg:Str->Option Value) (fa:Addr) (h:Heap),(K w.params).In h->h.Ns mainGlobals mg->mg d.name=some (.ref fa) →
   ∃fd:FuncData,(∀(s:Shared) (u:Value),BindsTo s fd ⟨[u],[]⟩ [("script",u)])/\∀base:Heap,(K w.params).In base->base.Ns mainGlobals mg->Zu l.prog w (K w.params) mg base CX0 14 fa fd ["script"] (zaI (K w.params))) :
  PySem.W.WalkO q loose XP YP l.row.toRowW d [] (λf vs=>PySem.call f vs) :=
 L2.zhc (n:=63) (k:=14) (x:="script") (CX:=λ_=>CX0) (sp:=λw=>zaI (K w.params)) hn (by decide) hdf ⟨rfl,by decide,by decide⟩ hY F (λ_ _ a ns hl _ hS=>⟨a,ns,rfl,hS,hl,λ_=>rfl⟩) λ_ _ _ _ _ z=>z
end KK
open PySem PySem.W PyProof.Rows
set_option maxRecDepth 100000 in
set_option maxHeartbeats 0 in
theorem PySem.Challenge.cw_clackrow_k38_wishes_refused_holds : PySem.Challenge.rw_clackrow_k38_wishes_refused.Holds := by
 w_on;o_law;k_head;(case hw=>w_witness2)
 k_fill
 refine KK.walk (l:=PySem.Challenge.rw_clackrow_k38_wishes_refused) rL rL (λw h Y=>PySem.W.kIn_of Y) ?F
 case F =>
  intro w mg fa h KX G hmg
  refine' KK.zhP KX G hmg ..
  all_goals (try (first | (refine' KK.zjD ?_ ?_ ?_ ?_ <;> try k_is) | k_is | k_exc | kernel_rfl))
