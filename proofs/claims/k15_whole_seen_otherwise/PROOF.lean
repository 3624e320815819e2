import PyProof.Rows.All
import Wide.All
import OpenK.AllK
import Wide.FinOn
import Lean
import PyProof.EqAt
import PyProof.EqKinds
import PyProof.TupleCall
import PyProof.CompFree
import PyProof.Rows.SumAny
import PyProof.ZipIter
import PyProof.ConsumeWalk
import PySem.Challenge.RW_clackrow_k15_whole_seen_otherwise
import KE.KSortKey
import KE.KLam
import KE.KNestM
import KE.KTryMore
set_option hygiene false
local macro_rules|`(tactic|nofun)=>`(tactic|try dsimp only)
local macro_rules|`(↥$x)=>`(by simpa using $x)
local macro_rules|`(∅)=>`(by lia)
local macro_rules|`(tactic|rcases $h:ident:$e with $p)=>if h.getId==`q then `(tactic|(refine hid (λ_ Zz=>?_);rcases $e:term with $p;refine Zz ?_;clear Zz)) else if h.getId==`r then `(tactic|(refine $e (λf cdv A outer s H vs Q E hr h=>?_);rcases q:h with $p)) else Lean.Macro.throwUnsupported
set_option Elab.async false
set_option linter.all false
set_option maxRecDepth 100000
set_option maxHeartbeats 8000000
section
open PySem PySem.Spec PyProof.Rows
abbrev Fg:=PySem.W.Frag
def zL0:0<=sizeLine:=by decide
def zL1:1<=sizeLine:=by decide
def zL2:2<=sizeLine:=by decide
def zL3:3<=sizeLine:=by decide
def zL4:4<=sizeLine:=by decide
def zL8:8<=sizeLine:=by decide
def wc:=@wpAny_bind
def we:=@Heap.get?_push_of_some
def wf:=@List.length_map
def wg:=@List.getElem?_map
def wj:=@wpAny_pure
def wk:=@List.getElem?_eq_getElem
def wm:=@List.mem_of_getElem?
def wn:=@List.getElem?_eq_some_iff
def wo:=@Nat.le_refl
def wq:=@List.mem_append_right
def wu:=@Heap.get?_push_size
def ww:=@List.mem_cons
def wx:=@Heap.lt_size
def wy:=@List.size_toArray
def wz:=@List.map_map
def wA:=@List.mem_map
def wB:=@List.getElem?_append_right
def wC:=@List.length_append
def wD:=@List.getElem?_append_left
def wE:=@decide_eq_true
def wF:=@of_decide_eq_true
def wG:=@Nat.lt_of_lt_of_le
def wH:=@List.mem_append_left
def wI:=@List.length_reverse
def wJ:=@List.length_cons
def wK:=@decide_eq_true_eq
def wL:=@Bool.false_ne_true
def wM:=@List.mem_append
def wN:=@Nat.ne_of_lt
def wO:=@List.not_mem_nil
def wP:=@wpAny_field
def wQ:=@decide_eq_false
def wR:=@List.mem_cons_of_mem
def wT:=@List.getElem?_eq_none
def wU:=@List.mem_cons_self
def wV:=@Nat.le_trans
def wW:=@PyProof.Rows.slot_tuple_getitem
def wX:=@List.getElem?_reverse
def wY:=@Option.map_eq_some_iff
def wZ:=@List.pairwise_append
def w4:=@List.take_of_length_le
def w5:=@PySem.W.mg_none_of
def w8:=@wpAny_newObj_type
def yd:=@List.length_take
def ye:=@List.mem_singleton
def yf:=@List.length_drop
def yg:=@List.drop_eq_getElem_cons
def yh:=@wpAny_seqItems
def yi:=@Int.mul_ne_zero
def yj:=@Heap.size_push
def yk:=@Int.fdiv_eq_ediv_of_nonneg
def yl:=@Nat.le_add_right
def ym:=@List.pairwise_map
def yn:=@wpAny_holding
def yo:=@wpAny_setField_rec
def yp:=@List.mem_reverse
def yq:=@PySem.F.plainAttrs_list
def yr:=@Bool.eq_iff_iff
def yt:=@wpAny_call_entry
def yu:=@Nat.zero_le
def yv:=@Heap.get?_update_other
def yw:=@List.map_cons
def yx:=@List.getElem?_drop
def yy:=@Heap.get?_update_self
def yz:=@List.map_congr_left
def yA:=@List.map_reverse
def yB:=@PyProof.Rows.boot_tuple
def yC:=@wpAny_mono
def yD:=@Nat.eq_zero_or_pos
def yE:=@PySem.W.kia_one
def yF:=@Bool.and_eq_true
def yG:=@Int.toNat_natCast
def yH:=@Rat.divInt_eq_div
def yI:=@PySem.F.slot_list_append
def yJ:=@PySem.F.type_list_append
def yK:=@List.ext_getElem?
def yL:=@PyProof.Rows.callWith_type1
def yM:=@List.append_nil
def yN:=@List.filter_append
def yO:=@List.map_append
def yP:=@Int.gcd_pos_of_ne_zero_left
def yQ:=@List.getElem?_take
def yR:=@List.mem_of_mem_drop
def yS:=@List.mem_of_mem_take
def yT:=@Int.gcd_dvd_left
def yU:=@Array.length_toList
def yV:=@List.replicate_succ
def yW:=@List.take_add_one
def yX:=@Rat.intCast_mul
def yY:=@wpAny_Call_Name_kw
def yZ:=@List.getElem?_of_mem
def uc:=@Int.fdiv_eq_ediv_of_dvd
def ue:=@List.length_nil
def uf:=@Array.getElem?_eq_some_iff
def uh:=@Bool.false_eq_true
def uj:=@PySem.W.mg_of
def uk:=@List.of_mem_zip
def ul:=@wpAny_rule
def um:=@wpAny_passesOwn
def uo:=@wpAny_pyIter_list
def uq:=@Nat.ne_of_gt
def ut:=@Rat.mul_le_mul_of_nonneg_right
def uu:=@Nat.lt_irrefl
def uw:=@Int.eq_ofNat_of_zero_le
def uz:=@List.pairwise_singleton
def uA:=@Rat.mul_lt_mul_left
def uB:=@wpAny_standAt
def uC:=@wpAny_onRaise
def uD:=@wpAny_setField
def uE:=@List.drop_eq_nil_of_le
def uF:=@Option.map_eq_none_iff
def uG:=@Int.emod_lt_of_pos
def uH:=@List.length_replicate
def uI:=@List.length_filter_le
def uJ:=@List.length_zip
def uK:=@List.find?_cons
def uL:=@PyProof.Rows.boot_abs
def uM:=@Rat.le_of_lt
def uN:=@List.pairwise_reverse
def uO:=@Rat.mul_lt_mul_of_pos_right
def uP:=@List.flatten_cons
def uQ:=@Option.mem_toList
def uR:=@wpAny_loadPart_at
def uS:=@List.getElem?_zip_eq_some
def uT:=@Option.map_map
def uU:=@Int.ediv_le_self
def uV:=@Heap.get?_update_ne
def uW:=@wpAny_letGo
def uX:=@PySem.F.args_tuple_add_2
def uY:=@wpAny_typeOf
def uZ:=@List.getElem?_replicate
def u5:=@PySem.F.entry_tuple_add
def u6:=@Nat.lt_of_le_of_lt
def u7:=@Int.emod_nonneg
def u8:=@List.pairwise_cons
def u9:=@List.filter_cons_of_pos
def Wa:=@wpAny_execs_nil
def Wb:=@PySem.W.cellsFrom_some
def Wc:=@PySem.F.slot_tuple_add
def Wd:=@List.drop_of_length_le
def We:=@List.append_inj_right'
def Wf:=@Rat.intCast_le_intCast
def Wg:=@Array.getElem?_setIfInBounds_ne
def Wh:=@Rat.le_refl
def Wi:=@wpAny_truthy_bool
def Wj:=@wpAny_sequenceKey
def Wk:=@Rat.lt_div_iff
def Wm:=@List.length_singleton
def Wn:=@List.eq_nil_or_concat
def Wo:=@List.take_length
def Wp:=@List.zipIdx_cons
def Wq:=@Rat.mul_le_mul_of_nonneg_left
def Wr:=@wpAny_pyIter_zip
def Ws:=@Heap.get?_none_of_le
def Wt:=@List.mem_of_mem_tail
def Wu:=@wpAny_updateSeq_pair
def Wv:=@Prod.ext
def Ww:=@PyProof.Rows.boot_isinstance
def Wx:=@wpAny_attempt
def Wy:=@wpAny_call
def Wz:=@List.filterMap_cons
def WA:=@List.nodup_cons
def WB:=@Int.ediv_mul_cancel
def WC:=@Option.map_some
def WD:=@List.zipIdx_nil
def WE:=@List.forIn_cons
def WF:=@List.take_succ_cons
def WG:=@PySem.F.excBase_ValueError
def WH:=@wpAny_newFunctionEnv_cells
def WJ:=@Array.append_assoc
def WK:=@Nat.le_of_lt
def WL:=@List.mem_filterMap
def WM:=@Nat.le_of_eq
def WN:=@PySem.W.callWith_K
def WO:=@List.forIn_nil
def WP:=@List.getElem?_eq_none_iff
def WQ:=@List.mem_or_eq_of_mem_set
def WR:=@wpAny_letOwnedTupleGo_zip
def WS:=@List.append_assoc
def WT:=@Int.gcd_dvd_natAbs_right
def WU:=@Int.gcd_dvd_right
def WV:=@List.eq_of_mem_replicate
def WW:=@PySem.F.slot_list_insert
def WX:=@PySem.F.type_list_insert
def WY:=@wpAny_getItem_list_slice
def WZ:=@wpAny_comprehension_free
def W0:=@Rat.div_def
def W3:=@Bool.false_or
def W4:=@Int.mul_pos
def W5:=@Option.getD_none
def W6:=@Rat.divInt_ofNat
def W7:=@List.all_eq_true
def W8:=@Option.getD_some
def W9:=@List.map_nil
def Ya:=@Nat.min_eq_left
def Yb:=@Nat.min_self
def Yc:=@Rat.num_eq_zero
def Yd:=@Rat.zero_divInt
def Ye:=@Int.ediv_nonneg
def Yf:=@wpAny_specialOf
def Yg:=@Int.natAbs_neg
def Yh:=@Rat.div_lt_iff
def Yi:=@PySem.W.exmAny
def Yj:=@wpAny_listPart
def Yk:=@wpAny_newTuple
def Yl:=@wpAny_Slice
end
def rL {α:Sort _}{a:α}:a=a:=rfl
namespace L2
open PySem PySem.Spec PyProof.Rows
abbrev Key:=Sum Int Str
def VA:Key->Value->Bool
 |.inl k,v=>Value.isInt k v
 |.inr x,v=>Value.isStrOf x v
def keyH (w:World):Key->Int
 |.inl k=>hashInt k
 |.inr x=>hashStr w x
def xH:∀{k:Key}{v:Value},VA k v=true->(∃i t,k=Sum.inl i/\v=Value.int i t)\/(∃x t,k=Sum.inr x/\v=Value.str x t)
 |.inl i,v,h=>by
  obtain⟨t,e⟩:=Value.isInt_shape (k:=i) (v:=v) h
  exact .inl ⟨i,t,rL,e⟩
 |.inr x,v,h=>by
  obtain⟨t,e⟩:=Value.isStrOf_shape (x:=x) (v:=v) h
  exact .inr ⟨x,t,rL,e⟩
def zcy (i:Int) (t:Tok):VA (.inl i) (.int i t)=true:=by simp[VA,Value.isInt]
def zcz (x:Str) (t:Tok):VA (.inr x) (.str x t)=true:=by simp[VA,Value.isStrOf]
def zhL (a b:Int):decide ((Sum.inl a:Key)=Sum.inl b)=(a == b):=by
 by_cases e:a=b
 ·subst e;simp
 ·have h:¬(Sum.inl a:Key)=Sum.inl b:=λq=>e (Sum.inl.inj q)
  rw[wQ h]
  exact(beq_eq_false_iff_ne.mpr e).symm
def zhO (a b:Str):decide ((Sum.inr a:Key)=Sum.inr b)=decide (a=b):=by
 by_cases e:a=b
 ·subst e;simp
 ·have h:¬(Sum.inr a:Key)=Sum.inr b:=λq=>e (Sum.inr.inj q)
  rw[wQ h,wQ e]
def zhM (a:Int) (b:Str):decide ((Sum.inl a:Key)=Sum.inr b)=false:=wQ (λq=>nomatch q)
def zhN (a:Str) (b:Int):decide ((Sum.inr a:Key)=Sum.inl b)=false:=wQ (λq=>nomatch q)
def xX (prog:Program) (w:World):PySem.KeyKind prog w Key where
 is:=VA
 hash:=keyH w
 inj:=λv a b ha hb=>by
  rcases xH ha with⟨i,t,rfl,rfl⟩ | ⟨x,t,rfl,rfl⟩
  ·rcases xH hb with⟨j,u,rfl,e⟩ | ⟨y,u,rfl,e⟩
   ·injection e with e1 _;rw[e1]
   ·exact nomatch e
  ·rcases xH hb with⟨j,u,rfl,e⟩ | ⟨y,u,rfl,e⟩
   ·exact nomatch e
   ·injection e with e1 _;rw[e1]
 byValue:=λk v h=>by
  rcases xH h with⟨i,t,rfl,rfl⟩ | ⟨x,t,rfl,rfl⟩ <;> rfl
 pyHash:=λhv h=>by
  rcases xH hv with⟨i,t,rfl,rfl⟩ | ⟨x,t,rfl,rfl⟩
  ·exact wpAny_pyHash_int h
  ·exact wpAny_pyHash_str h
 eqBool:=λhu hv h=>by
  rcases xH hu with⟨i,t,rfl,rfl⟩ | ⟨x,t,rfl,rfl⟩
  ·rcases xH hv with⟨j,u,rfl,rfl⟩ | ⟨y,u,rfl,rfl⟩
   ·rw[zhL]at h;exact wpAny_eqBool_int h
   ·rw[zhM]at h;exact SeqAt.EqAt.int_str i t y u _ _ _ _ h
  ·rcases xH hv with⟨j,u,rfl,rfl⟩ | ⟨y,u,rfl,rfl⟩
   ·rw[zhN]at h;exact SeqAt.EqAt.str_int x t j u _ _ _ _ h
   ·rw[zhO]at h;exact wpAny_eqBool_str h
 «strs»:=λk x t v h=>by
  rcases xH h with⟨i,u,rfl,e⟩ | ⟨y,u,rfl,e⟩
  ·exact nomatch e
  ·injection e with e1 _
   subst e1
   cases v <;> rfl
def JH (prog:Program) (w:World) (i:Int) (t:Tok):(xX prog w).is (.inl i) (.int i t)=true:=zcy i t
def JI (prog:Program) (w:World) (x:Str) (t:Tok):(xX prog w).is (.inr x) (.str x t)=true:=zcz x t
inductive V where
 |non | bl (b:Bool) | int (i:Int) | str (x:Str) | byt (b:Array UInt8) | flt (b:UInt64) | ref (a:Addr) | ty (n:String)
 deriving DecidableEq
def xq:V->Value->Prop
 |.non,u=>u=Value.none
 |.bl b,u=>u=Value.bool b
 |.int i,u=>∃t,u=Value.int i t
 |.str x,u=>∃t,u=Value.str x t
 |.byt b,u=>∃t,u=Value.bytes b t
 |.flt b,u=>∃t,u=Value.float b t
 |.ref a,u=>u=Value.ref a
 |.ty n,u=>u=Value.type n
abbrev zY:List V->List Value->Prop:=Paired xq
def zY.length {xs:List V}{us:List Value}(r:zY xs us):xs.length=us.length:=Paired.length r
def zY.get:∀{xs:List V}{us:List Value}{i:Nat}{x:V},zY xs us->xs[i]?=some x->∃u,us[i]?=some u/\xq x u
 |_,_,_,_,.nil,e=>by simp at e
 |_,_,0,_,.cons r _,e=>by simp at e;subst e;exact⟨_,rfl,r⟩
 |_,_,i+1,x,.cons _ t,e=>by
  obtain⟨u,h1,h2⟩:=zY.get (i:=i) (x:=x) t ↥e
  exact⟨u,↥h1,h2⟩
def zY.set {x:V}{u:Value}(r:xq x u):∀{xs:List V}{us:List Value}(i:Nat),zY xs us->zY (xs.set i x) (us.set i u)
 |_,_,_,.nil=>.nil
 |_,_,0,.cons _ t=>.cons r t
 |_,_,i+1,.cons q t=>.cons q (zY.set r i t)
def zY.append:∀{xs ys:List V}{us ws:List Value},zY xs us->zY ys ws->zY (xs++ys) (us++ws)
 |_,_,_,_,.nil,s=>s
 |_,_,_,_,.cons r t,s=>.cons r (zY.append t s)
def zY.take:∀{xs:List V}{us:List Value}(n:Nat),zY xs us->zY (xs.take n) (us.take n)
 |_,_,0,_=>.nil
 |_,_,_+1,.nil=>.nil
 |_,_,n+1,.cons r t=>.cons r (zY.take n t)
def zY.drop:∀{xs:List V}{us:List Value}(n:Nat),zY xs us->zY (xs.drop n) (us.drop n)
 |_,_,0,r=>r
 |_,_,_+1,.nil=>.nil
 |_,_,n+1,.cons _ t=>zY.drop n t
def Xl:Option V->Option Value->Prop
 |some v,some u=>xq v u
 |none,none=>True
 |_,_=>False
def KV {κ:Type}:List (κ×V)->List (κ×Value)->Prop:=Paired λ(p:κ×V) (q:κ×Value)=>p.1=q.1/\xq p.2 q.2
def kV:Key->V
 |.inl i=>.int i
 |.inr x=>.str x
inductive HO where
 |lst (xs:List V)
 |tup (xs:List V)
 |dK (kvs:List (Key×V)) | dT (kvs:List (List Key×V))
 |set (S:Int->Bool) (n:Nat)
 |ins (C dx:Addr) (fs:List (Str×V))
 |own (x:Addr)
 |xd (fs:List (Str×V))
 |met (f x:Addr)
 |rng (lo hi:Int)
 |frz (o:Obj) (u:HO)
 |tbl (ps:Array Value)
 |ext (φ:Heap->Prop)
abbrev Hp:=Addr->Option HO
def upd (H:Hp) (a:Addr) (o:HO):Hp:=λb=>if b=a then some o else H b
def zg {H:Hp}{a:Addr}{o:HO}:upd H a o a=some o:=by unfold upd;rw[if_pos rfl]
def zF {H:Hp}{a b:Addr}{o:HO}(h:b≠a):upd H a o b=H b:=by unfold upd;rw[if_neg h]
def zgS {H:Hp}{a b:Addr}{o u:HO}(h:H a=some o) (h':H b=some u) (d:o≠u):a≠b:=by
 intro e;subst e;rw[h]at h';exact d (Option.some.inj h')
def zG {H:Hp}{a b:Addr}{o:HO}(h:H a=some o) (h':H b=none):a≠b:=by
 intro e;subst e;rw[h]at h';cases h'
def zho (h:Heap) (a:Addr):Prop:=∃o,h.get? a=some o/\o.dict=none
def zho.new {h:Heap}{o:Obj}(f:o.isFreed=false:=by rfl) (d:o.dict=none:=by rfl):zho (h.push o) h.objs.size:=⟨o,wu _ f,d⟩
section
variable (P:Program) (w:World)
def xu (H:Hp) (h:Heap) (a:Addr):HO->Prop
 |.lst xs=>xs.length<=sizeLine/\∃(its:List Value) (n:Nat),zY xs its/\h.get? a=some { cls:=.type "list",data:=.seq its.toArray n }
 |.tup xs=>(xs.length<=sizeLine/\zho h a)/\∃its:List Value,zY xs its/\IsTup h a its.toArray
 |.dK kvs=>kvs.length<=sizeLine/\(a == sysModules)=false/\∃vs,KV kvs vs/\h.DictOf (xX P w) a vs
 |.dT kvs=>kvs.length<=sizeLine/\(a == sysModules)=false/\∃xs:List (List Key×Addr×Value),
   Paired (λ(p:List Key×V) (q:List Key×Addr×Value)=>p.1=q.1/\H q.2.1=some (.tup (p.1.map kV))/\xq p.2 q.2.2) kvs xs ∧
   ∃o es ep,h.get? a=some o/\o.ExactDict/\o.data=.dict es ep/\es.toList=xs.map (entryOfKey (tupleKind (xX P w)))/\(xs.map (·.1)).Nodup
 |.set S n=>h.SetOf (intKind P w) a S n
 |.ins C dx fs=>H dx=some (.own a)/\fs.length<=1000/\dx≠a/\h.get? a=some (PySem.W.instObj C dx) ∧
   ∃mA,h.Ns1 dx mA/\(∀f,Xl (fs.lookup f) (mA f))/\PySem.Within mA (fs.map (·.1))
 |.own _=>∃o,h.get? a=some o
 |.xd fs=>∃mA,h.Ns1 a mA/\∀f,Xl (fs.lookup f) (mA f)
 |.rng lo hi=>∃t u v,h.get? a=some { cls:=.type "range",data:=.fields #[.int lo t,.int hi u,.int 1 v] }
 |.frz o u=>h.get? a=some o/\xu H h a u
 |.tbl ps=>h.get? a=some { cls:=.none,data:=.fields ps }
 |.met f x=>h.get? a=some (PySem.W.methodObj (.ref f) (.ref x))
 |.ext φ=>φ h/\(∃o,h.get? a=some o)/\∀h1 h2:Heap,φ h1->(∀o,h1.get? a=some o->h2.get? a=some o)->φ h2
def HOk (H:Hp) (h:Heap):Prop:=∀a o,H a=some o->xu P w H h a o
end
section
variable {P:Program}{w:World}{H H':Hp}{h h':Heap}{a:Addr}{o:HO}
theorem xu.lt (x:xu P w H h a o):a<h.objs.size:=by
 cases o with
 |lst xs=>obtain⟨_,_,_,_,e⟩:=x;exact wx e
 |tup xs=>obtain⟨_,_,_,p⟩:=x;exact p.lt
 |dK kvs=>obtain⟨_,_,_,_,o,_,_,e,_⟩:=x;exact wx e
 |dT kvs=>obtain⟨_,_,_,_,o,_,_,e,_⟩:=x;exact wx e
 |set S n=>obtain⟨o,_,_,_,e,_⟩:=x;exact wx e
 |ins C dx fs=>obtain⟨_,_,_,e,_⟩:=x;exact wx e
 |own y=>obtain⟨_,e⟩:=x;exact wx e
 |xd fs=>obtain⟨_,⟨_,_,_,e,_⟩,_⟩:=x;exact wx e
 |rng lo hi=>obtain⟨_,_,_,e⟩:=x;exact wx e
 |frz ob u=>obtain⟨e,_⟩:=x;exact wx e
 |tbl ps=>exact wx (show h.get? a=some _ from x)
 |met f y=>exact wx (show h.get? a=some _ from x)
 |ext φ=>obtain⟨_,⟨_,e⟩,_⟩:=x;exact wx e
theorem Paired.mapP {α β:Type}{F G:α->β->Prop}:∀{l₁:List α}{l₂:List β},Paired F l₁ l₂->(∀a b,F a b->G a b)->Paired G l₁ l₂
 |_,_,.nil,_=>.nil
 |_,_,.cons r t,f=>.cons (f _ _ r) (Paired.mapP t f)
theorem xu.stay (x:xu P w H h a o) (k:∀b u,(b=a\/H b=some (.own a))->h.get? b=some u->h'.get? b=some u)
  (ho:∀b,H b=some (.own a)->H' b=some (.own a)) (ht:∀b xs,H b=some (.tup xs)->H' b=some (.tup xs)):xu P w H' h' a o:=by
 induction o with
 |lst xs=>obtain⟨z,its,n,r,e⟩:=x;exact⟨z,its,n,r,k _ _ (.inl rfl) e⟩
 |tup xs=>obtain⟨⟨z,od,ed,hd⟩,its,r,ob,e,c⟩:=x;exact⟨⟨z,od,k _ _ (.inl rfl) ed,hd⟩,its,r,ob,k _ _ (.inl rfl) e,c⟩
 |dK kvs=>obtain⟨z,y,vs,r,ob,es,ep,e,c⟩:=x;exact⟨z,y,vs,r,ob,es,ep,k _ _ (.inl rfl) e,c⟩
 |dT kvs =>
  obtain⟨z,y,xs,r,ob,es,ep,e,c⟩:=x
  exact⟨z,y,xs,Paired.mapP r λp q z=>⟨z.1,ht _ _ z.2.1,z.2.2⟩,ob,es,ep,k _ _ (.inl rL) e,c⟩
 |set S n=>obtain⟨ob,es,ep,t,e,c⟩:=x;exact⟨ob,es,ep,t,k _ _ (.inl rfl) e,c⟩
 |ins C dx fs =>
  obtain⟨d,z,ne,e,mA,⟨od,es,ep,e2,c⟩,r⟩:=x
  exact⟨ho _ d,z,ne,k _ _ (.inl rL) e,mA,⟨od,es,ep,k _ _ (.inr d) e2,c⟩,r⟩
 |own y=>obtain⟨ob,e⟩:=x;exact⟨ob,k _ _ (.inl rfl) e⟩
 |xd fs=>obtain⟨mA,⟨od,es,ep,e,c⟩,r⟩:=x;exact⟨mA,⟨od,es,ep,k _ _ (.inl rfl) e,c⟩,r⟩
 |rng lo hi=>obtain⟨t,u,v,e⟩:=x;exact⟨t,u,v,k _ _ (.inl rfl) e⟩
 |frz ob u ih=>obtain⟨e,q⟩:=x;exact⟨k _ _ (.inl rfl) e,ih q⟩
 |tbl ps =>
  have e:h.get? a=some { cls:=.none,data:=.fields ps }:=x
  show h'.get? a=some { cls:=.none,data:=.fields ps }
  exact k a _ (.inl rL) e
 |met f y =>
  have e:h.get? a=some (PySem.W.methodObj (.ref f) (.ref y)):=x
  show h'.get? a=some (PySem.W.methodObj (.ref f) (.ref y))
  exact k a _ (.inl rL) e
 |ext φ=>obtain⟨p,⟨o,e⟩,st⟩:=x;exact⟨st _ _ p λo q=>k _ _ (.inl rfl) q,⟨o,k _ _ (.inl rfl) e⟩,st⟩
theorem HOk.lt (x:HOk P w H h) (e:H a=some o):a<h.objs.size:=(x a o e).lt
theorem HOk.fresh (x:HOk P w H h) (e:h.objs.size<=a):H a=none:=by
 cases q:H a with
 |none=>rfl
 |some u=>exact absurd (wG (x.lt q) e) (uu _)
theorem HOk.kept (x:HOk P w H h) (k:∀b u,h.get? b=some u->h'.get? b=some u):HOk P w H h':=λa o e =>
 (x a o e).stay (λb u _ q=>k b u q) (λ_ q=>q) λ_ _ q=>q
theorem HOk.laid (x:HOk P w H h) (k:∀b u,h.get? b=some u->h'.get? b=some u) (hp:h.objs.size<=a) (new:xu P w (upd H a o) h' a o):HOk P w (upd H a o) h':=λb u e=>by
 have hn:=x.fresh hp
 by_cases hb:b=a
 ·subst hb;rw[zg]at e;cases e;exact new
 ·rw[zF hb]at e
  exact(x b u e).stay (λc v _ q=>k c v q) (λc q=>by rw[zF (zG q hn)];exact q) λc xs q=>by rw[zF (zG q hn)];exact q
end
def Rd (H:Hp) (a:Addr) (u:HO):Prop:=H a=some u\/∃o,H a=some (.frz o u)
def Rd.ok {P:Program}{w:World}{H:Hp}{h:Heap}{a:Addr}{u:HO}(r:Rd H a u) (x:HOk P w H h):xu P w H h a u:=by
 rcases r with r | ⟨o,r⟩
 ·exact x a u r
 ·obtain⟨_,q⟩:=x a _ r
  exact q
def Mut:Option HO->Prop
 |some (.lst _)=>True
 |some (.dK _)=>True
 |some (.dT _)=>True
 |some (.set _ _)=>True
 |some (.ins _ _ _)=>True
 |some (.ext _)=>True
 |_=>False
section
variable {P:Program}{w:World}{H:Hp}{h h':Heap}{x e:Addr}{o':HO}
theorem HOk.write (ok:HOk P w H h) (mu:Mut (H x)) (he:e=x\/H e=some (.own x)) (k:∀b u,b≠e->h.get? b=some u->h'.get? b=some u) (heo:∃u,h'.get? e=some u)
  (new:xu P w (upd H x o') h' x o'):HOk P w (upd H x o') h':=λb u q=>by
 have nown:∀c y,H c=some (.own y)->c≠x:=λc y r z=>by subst z;rw[r]at mu;exact mu
 have ntup:∀c xs,H c=some (.tup xs)->c≠x:=λc xs r z=>by subst z;rw[r]at mu;exact mu
 by_cases hb:b=x
 ·subst hb;rw[zg]at q;cases q;exact new
 ·rw[zF hb]at q
  by_cases hbe:b=e
  ·have q':H b=some (.own x):=by
    rcases he with z | z
    ·exact absurd (hbe.trans z) hb
    ·rw[hbe];exact z
   rw[q]at q';cases q'
   obtain⟨v,hv⟩:=heo
   exact⟨v,by rw[hbe];exact hv⟩
  ·refine(ok b u q).stay (λc v hc r=>k c v ?_ r) (λc r=>by rw[zF (nown c b r)];exact r) λc xs r=>by rw[zF (ntup c xs r)];exact r
   rcases hc with rfl | hc
   ·exact hbe
   ·rintro rfl
    rcases he with z | z
    ·exact nown c b hc z
    ·rw[hc]at z;cases z;exact hb rfl
end
structure Un (fs ex:List Addr) (H H':Hp) (h h':Heap):Prop where
 keep:∀b o,h.get? b=some o->H b=none->b∉fs->b∉ex->h'.get? b=some o
 slot:∀b o,h.get? b=some o->H b=none->b∈fs->b∉ex->∃sl,h'.get? b=some { o with slots:=sl }
 free:∀b o,h.get? b=some o->H b=none->b∉ex->H' b=none
 there:∀b o,h.get? b=some o->b∉ex->∃o',h'.get? b=some o'
 tups:∀b xs,H b=some (.tup xs)->H' b=some (.tup xs)
 frzs:∀b o u,H b=some (.frz o u)->H' b=some (.frz o u)
 tbls:∀b ps,H b=some (.tbl ps)->∃more,H' b=some (.tbl (ps++more))
section
variable {fs fs' ex ex':List Addr}{H H1 H2:Hp}{h h1 h2 h':Heap}{a x e:Addr}{o:HO}
theorem Un.any (u:Un fs ex H H1 h h1){b:Addr}{ob:Obj}(q:h.get? b=some ob) (n:H b=none) (hx:b∉ex):∃sl,h1.get? b=some { ob with slots:=sl }:=by
 by_cases hb:b∈fs
 ·exact u.slot b ob q n hb hx
 ·exact⟨ob.slots,u.keep b ob q n hb hx⟩
theorem Un.trans (a:Un fs ex H H1 h h1) (b:Un fs ex H1 H2 h1 h2):Un fs ex H H2 h h2 where
 keep:=λc ob q n hc hx=>b.keep c ob (a.keep c ob q n hc hx) (a.free c ob q n hx) hc hx
 slot:=λc ob q n hc hx=>by
  obtain⟨sl,e1⟩:=a.slot c ob q n hc hx
  obtain⟨sl',e2⟩:=b.slot c _ e1 (a.free c ob q n hx) hc hx
  exact⟨sl',e2⟩
 free:=λc ob q n hx=>by
  obtain⟨o',e1⟩:=a.there c ob q hx
  exact b.free c o' e1 (a.free c ob q n hx) hx
 there:=λc ob q hx=>by
  obtain⟨o',e1⟩:=a.there c ob q hx
  exact b.there c o' e1 hx
 tups:=λc xs q=>b.tups c xs (a.tups c xs q)
 frzs:=λc ob xs q=>b.frzs c ob xs (a.frzs c ob xs q)
 tbls:=λc ps q=>by
  obtain⟨m1,e1⟩:=a.tbls c ps q
  obtain⟨m2,e2⟩:=b.tbls c _ e1
  exact⟨m1++m2,by rw[e2,WJ]⟩
theorem Un.kept (k:∀b u,h.get? b=some u->h'.get? b=some u):Un fs ex H H h h' :=
 ⟨λb ob q _ _ _=>k b ob q,λb ob q _ _ _=>⟨ob.slots,k b ob q⟩,λ_ _ _ n _=>n,λb ob q _=>⟨ob,k b ob q⟩,λ_ _ q=>q,λ_ _ _ q=>q,λ_ ps q=>⟨#[],by rw[q];simp⟩⟩
theorem Un.refl:Un fs ex H H h h:=Un.kept λ_ _ q=>q
theorem Un.laid (k:∀b u,h.get? b=some u->h'.get? b=some u) (hp:h.objs.size<=a) (hn:H a=none):Un fs ex H (upd H a o) h h' where
 keep:=λb u q _ _ _=>k b u q
 slot:=λb u q _ _ _=>⟨u.slots,k b u q⟩
 free:=λb u q n _=>by rw[zF (wN (wG (wx q) hp))];exact n
 there:=λb u q _=>⟨u,k b u q⟩
 tups:=λb xs q=>by rw[zF (zG q hn)];exact q
 frzs:=λb u xs q=>by rw[zF (zG q hn)];exact q
 tbls:=λb ps q=>⟨#[],by rw[zF (zG q hn),q];simp⟩
theorem Un.write (mu:Mut (H x)) (he:e=x\/H e=some (.own x)) (k:∀b u,b≠e->h.get? b=some u->h'.get? b=some u) (heo:∃u,h'.get? e=some u):Un fs ex H (upd H x o) h h':=by
 have hx:∀b,H b=none->b≠x:=λb n z=>by subst z;rw[n]at mu;exact mu
 have hb:∀b,H b=none->b≠e:=λb n z=>by
  subst z
  rcases he with r | r
  ·exact hx b n r
  ·rw[n]at r;cases r
 have hm:∀b u,H b=some u->¬Mut (some u)->b≠x:=λb u q nm z=>by subst z;rw[q]at mu;exact nm mu
 refine⟨λb u q n _ _=>k b u (hb b n) q,λb u q n _ _=>⟨u.slots,k b u (hb b n) q⟩,λb u q n _=>by rw[zF (hx b n)];exact n,λb u q _=>?_,
  λb xs q=>by rw[zF (hm b _ q λz=>z)];exact q,λb u xs q=>by rw[zF (hm b _ q λz=>z)];exact q,λb ps q=>⟨#[],by rw[zF (hm b _ q λz=>z),q];simp⟩⟩
 by_cases hbe:b=e
 ·subst hbe;exact heo
 ·exact⟨u,k b u hbe q⟩
end
def trk (h:Heap) (H:Hp):List Addr:=(List.range h.objs.size).filter λa=>(H a).isSome
def Vk (h:Heap) (H:Hp):Heap:=PySem.W.hideAll h (trk h H)
def zcu (h:Heap) (H:Hp):(Vk h H).objs.size=h.objs.size:=PySem.W.hideAll_size _ _
def zdB {h:Heap}{H:Hp}{b:Addr}{o:Obj}(e:h.get? b=some o) (n:H b=none):(Vk h H).get? b=some o :=
 PySem.W.hideAll_get _ e λhm=>by
  have q:(H b).isSome=true:=(List.mem_filter.mp hm).2
  rw[n]at q;simp at q
def zfu {h:Heap}{H:Hp}{b:Addr}{o:Obj}(e:(Vk h H).get? b=some o):h.get? b=some o/\H b=none:=by
 have e':h.get? b=some o:=PySem.W.of_hideAll (trk h H) e
 refine⟨e',?_⟩
 cases q:H b with
 |none=>rfl
 |some x =>
  have hm:b∈trk h H:=List.mem_filter.mpr ⟨List.mem_range.mpr (wx e'),by simp[q]⟩
  have z:(Vk h H).get? b=none:=PySem.W.hideAll_none (trk h H) hm
  rw[z]at e;cases e
structure Mod (K:Fg) (mg:Str->Option Value) (base:Heap):Prop where
 kin:K.In base
 glob:base.Ns mainGlobals mg
 blt:∃mb,base.Ns builtinsNs mb/\∀x:Str,x≠"__name__"->mb x=bootBuiltins x
 nolimit:base.NoLimit
structure Cx where
 prog:Program
 w:World
 K:Fg
 mg:Str->Option Value
 base:Heap
 A:Around
 N:List Str
 s₀:Shared
 H₀:Hp
 env:Env
 outer:List Env
 stack:List Env
 ex:List Addr
 fn:Str->Bool
 calm:Bool
 pn:List (Addr×Obj)
 xe:Value->Shared->Prop
def frs (l:List Env):List Addr:=l.filterMap (·.frame)
abbrev Cx.fs (X:Cx):List Addr:=frs X.outer
def Vis (sc:Scope) (x:Str):Prop:=sc.names.lookup x=some .local ∨ sc.names.lookup x=some .cell\/sc.names.lookup x=some .free
def Loc (sc:Scope) (x:Str):Prop:=sc.names.lookup x=some .local ∨ sc.names.lookup x=some .cell
def Look (env:Env) (h:Heap) (m:Str->Option Value) (x:Str) (u:Value):Prop :=
 (env.kindOf x=some .local ∧ m x=some u)\/((env.kindOf x=some .cell\/env.kindOf x=some .free)/\∃c,env.cells.lookup x=some c/\h.IsCell c (some u))
structure Cx.Ok (X:Cx):Prop where
 mod:Mod X.K X.mg X.base
 kind:X.env.scope.kind=.function
 glob:X.env.globals=mainGlobals
 blt:X.env.builtins=builtinsNs
 above:X.s₀.heap.objs.size<=X.env.locals
 inj:∀x y c,X.env.cells.lookup x=some c->X.env.cells.lookup y=some c->x=y
 has:∀x,(X.env.kindOf x=some .cell\/X.env.kindOf x=some .free)->∃c,X.env.cells.lookup x=some c
 cab:∀x c,X.fn x=true->X.env.cells.lookup x=some c->X.s₀.heap.objs.size<=c
 hd:X.calm=true->X.A.handled=none
 frames:X.A.frames=some X.stack
 stk:X.stack=X.outer\/(X.stack=X.env::X.outer/\X.env.frame=some X.env.locals)
 exf:∀b∈X.ex,b≠X.env.locals/\∀x c,X.env.cells.lookup x=some c->c≠b
 bs:∀b o,X.base.get? b=some o->X.s₀.heap.get? b=some o/\X.H₀ b=none
 bsz:X.base.objs.size<=X.s₀.heap.objs.size
 noex:∀b o,X.base.get? b=some o->b∉X.ex
 exfs:∀b∈X.ex,b∉X.fs
 funs:X.s₀.heap.FunFrames X.base X.outer
 frf:∀b∈X.fs,X.H₀ b=none
structure Inv (X:Cx) (pz:List (Addr×Obj)) (σ:List (Option V)) (H:Hp) (s:Shared):Prop where
 ok:X.Ok
 os:s.os=X.s₀.os
 bare:AllBare s.gens
 base:Un X.fs X.ex X.H₀ H X.s₀.heap s.heap
 loc:∃m,s.heap.Ns X.env.locals m/\∀(i:Nat) (x:Str) (v:V),X.N[i]?=some x->σ[i]?=some (some v)->Vis X.env.scope x->∃u,xq v u/\Look X.env s.heap m x u
 cell:∀x c,X.env.cells.lookup x=some c->∃v,s.heap.IsCell c v
 free:H X.env.locals=none
 freeC:∀x c,X.env.cells.lookup x=some c->H c=none
 pin:∀p∈X.pn++pz,s.heap.get? p.1=some p.2/\H p.1=none/\p.1≠X.env.locals/\p.1∉X.fs/\∀v,p.2.data≠.cell v
 hok:HOk X.prog X.w H s.heap
 len:σ.length=X.N.length
section
variable {X:Cx}{pz:List (Addr×Obj)}{σ:List (Option V)}{H H':Hp}{s:Shared}{h':Heap}
theorem Cx.Ok.nofr (ok:X.Ok){b:Addr}{o:Obj}(e:X.base.get? b=some o):b∉X.fs:=λhb=>by
 have:=(ok.funs.mem hb).1
 rw[e]at this;cases this
theorem Inv.bs (I:Inv X pz σ H s):∀b o,X.base.get? b=some o->s.heap.get? b=some o/\H b=none:=λb o e =>
 ⟨I.base.keep b o (I.ok.bs b o e).1 (I.ok.bs b o e).2 (I.ok.nofr e) (I.ok.noex b o e),I.base.free b o (I.ok.bs b o e).1 (I.ok.bs b o e).2 (I.ok.noex b o e)⟩
theorem Inv.bk (I:Inv X pz σ H s):∀b o,X.base.get? b=some o->s.heap.get? b=some o:=λb o e=>(I.bs b o e).1
theorem Inv.mod (I:Inv X pz σ H s):Mod X.K X.mg X.base:=I.ok.mod
theorem Inv.kIn (I:Inv X pz σ H s):X.K.In s.heap:=I.ok.mod.kin.keeps I.bk
theorem Inv.lt (I:Inv X pz σ H s):X.env.locals<s.heap.objs.size:=let ⟨_,hn,_⟩:=I.loc;hn.lt
theorem Inv.sz (I:Inv X pz σ H s):X.s₀.heap.objs.size<=s.heap.objs.size:=wV I.ok.above (WK I.lt)
theorem Inv.nofs (I:Inv X pz σ H s){a:Addr}(h:s.heap.objs.size<=a):a∉X.fs:=λhb=>by
 obtain⟨_,o,ho,_⟩:=I.ok.funs.mem hb
 exact absurd (wG (wx ho) (wV I.sz h)) (uu _)
theorem Inv.cne (I:Inv X pz σ H s):∀x c,X.env.cells.lookup x=some c->c≠X.env.locals:=λx c e z=>by
 obtain⟨v,o,ho,hd⟩:=I.cell x c e
 obtain⟨m,⟨o',es,ep,ho',hd',_⟩,_⟩:=I.loc
 rw[z,ho']at ho;cases ho;rw[hd']at hd;cases hd
theorem Inv.funs (I:Inv X pz σ H s):s.heap.FunFrames X.base X.outer:=by
 have all:∀(l:List Env),(∀b∈frs l,b∈X.fs)->X.s₀.heap.FunFrames X.base l->s.heap.FunFrames X.base l:=by
  intro l
  induction l with
  |nil=>intro _ _;trivial
  |cons env r ih =>
   intro hs hl
   obtain⟨hk,⟨L,o,hf,hn,ho,hd⟩,hr⟩:=hl
   have hL:L∈X.fs:=hs L (by unfold frs;rw[Wz,hf];exact wU)
   obtain⟨sl,e⟩:=I.base.slot L o ho (I.ok.frf L hL) hL λz=>I.ok.exfs L z hL
   exact⟨hk,⟨L,_,hf,hn,e,hd⟩,ih (λb hb=>hs b (by unfold frs;rw[Wz,hf];exact wR _ hb)) hr⟩
 exact all X.outer (λ_ hb=>hb) I.ok.funs
theorem Inv.stack (I:Inv X pz σ H s):s.heap.FunFrames X.base X.stack:=by
 rcases I.ok.stk with e | ⟨e,hf⟩
 ·rw[e];exact I.funs
 ·rw[e]
  obtain⟨m,hn,_⟩:=I.loc
  refine .cons (by rw[I.ok.kind];decide) hf hn ?_ I.funs
  exact Ws (wV I.ok.bsz I.ok.above)
theorem Inv.stkSub (I:Inv X pz σ H s):∀b∈frs X.stack,b∈X.env.locals::X.fs:=λb hb=>by
 rcases I.ok.stk with e | ⟨e,hf⟩
 ·rw[e]at hb;exact wR _ hb
 ·rw[e]at hb
  unfold frs at hb
  rw[Wz,hf]at hb
  exact hb
theorem Inv.stkFree (I:Inv X pz σ H s):∀b∈frs X.stack,H b=none:=λb hb=>by
 rcases ww.mp (I.stkSub b hb)with e | hb
 ·rw[e];exact I.free
 ·obtain⟨_,o,ho,_⟩:=I.ok.funs.mem hb
  exact I.base.free b o ho (I.ok.frf b hb) λz=>I.ok.exfs b z hb
theorem Inv.step {g':Array GenState}{t':Nat}{d':Drawn}{ch:List Addr}(I:Inv X pz σ H s)
  (hch:∀b∈ch,(b∈X.ex\/X.s₀.heap.objs.size<=b)/\b≠X.env.locals/\(∀x c,X.env.cells.lookup x=some c->c≠b)/\∀p∈X.pn++pz,p.1≠b)
  (keep:∀b o,b≠X.env.locals->b∉X.fs->b∉ch->s.heap.get? b=some o->H b=none->h'.get? b=some o)
  (slot:∀b o,b≠X.env.locals->b∈X.fs->b∉ch->s.heap.get? b=some o->H b=none->∃sl,h'.get? b=some { o with slots:=sl }) (free:∀b o,b∉ch->s.heap.get? b=some o->H b=none->H' b=none)
  (there:∀b o,b∉ch->s.heap.get? b=some o->∃o',h'.get? b=some o')
  (tups:∀b xs,H b=some (.tup xs)->H' b=some (.tup xs)) (frzs:∀b o u,H b=some (.frz o u)->H' b=some (.frz o u)) (tbls:∀b ps,H b=some (.tbl ps)->∃more,H' b=some (.tbl (ps++more)))
  (ns:∀m,s.heap.Ns X.env.locals m->h'.Ns X.env.locals m) (hok:HOk X.prog X.w H' h') (hg:AllBare g') :
  Inv X pz σ H' { s with heap:=h',gens:=g',drawn:=d',toks:=t' }:=by
 have neL:∀b o,X.s₀.heap.get? b=some o->b≠X.env.locals:=λb o e=>wN (wG (wx e) I.ok.above)
 have neC:∀b o,X.s₀.heap.get? b=some o->b∉X.ex->b∉ch:=λb o e hx hb=>by
  rcases(hch b hb).1 with z | z
  ·exact hx z
  ·exact absurd (wG (wx e) z) (uu _)
 have cellK:∀x c,X.env.cells.lookup x=some c->∀v,s.heap.IsCell c v->h'.IsCell c v:=λx c e v ⟨o,ho,hd⟩=>by
  have nch:c∉ch:=λz=>(hch c z).2.2.1 x c e rfl
  by_cases hc:c∈X.fs
  ·obtain⟨sl,q⟩:=slot c o (I.cne x c e) hc nch ho (I.freeC x c e)
   exact⟨_,q,hd⟩
  ·exact⟨o,keep c o (I.cne x c e) hc nch ho (I.freeC x c e),hd⟩
 refine⟨I.ok,I.os,hg,⟨λb o e n hb hx=>?_,λb o e n hb hx=>?_,λb o e n hx=>?_,λb o e hx=>?_,λb xs e=>tups b xs (I.base.tups b xs e),λb o xs e=>frzs b o xs (I.base.frzs b o xs e),λb ps e=>?_⟩,?_,λx c e=>?_,?_,λx c e=>?_,λp hp=>?_,hok,I.len⟩
 ·exact keep b o (neL b o e) hb (neC b o e hx) (I.base.keep b o e n hb hx) (I.base.free b o e n hx)
 ·obtain⟨sl,e1⟩:=I.base.slot b o e n hb hx
  obtain⟨sl',e2⟩:=slot b _ (neL b o e) hb (neC b o e hx) e1 (I.base.free b o e n hx)
  exact⟨sl',e2⟩
 ·obtain⟨o',e1⟩:=I.base.there b o e hx
  exact free b o' (neC b o e hx) e1 (I.base.free b o e n hx)
 ·obtain⟨o',e1⟩:=I.base.there b o e hx
  exact there b o' (neC b o e hx) e1
 ·obtain⟨m1,e1⟩:=I.base.tbls b ps e
  obtain⟨m2,e2⟩:=tbls b _ e1
  exact⟨m1++m2,by rw[e2,WJ]⟩
 ·obtain⟨m,hn,hl⟩:=I.loc
  refine⟨m,ns m hn,λi x v e1 e2 e3=>?_⟩
  obtain⟨u,r,l⟩:=hl i x v e1 e2 e3
  refine⟨u,r,?_⟩
  rcases l with l | ⟨k,c,e,z⟩
  ·exact .inl l
  ·exact .inr ⟨k,c,e,cellK x c e _ z⟩
 ·obtain⟨v,z⟩:=I.cell x c e
  exact⟨v,cellK x c e v z⟩
 ·obtain⟨m,⟨o,_,_,ho,_⟩,_⟩:=I.loc
  exact free _ o (λz=>(hch _ z).2.1 rL) ho I.free
 ·obtain⟨v,o,ho,hd⟩:=I.cell x c e
  exact free c o (λz=>(hch c z).2.2.1 x c e rL) ho (I.freeC x c e)
 ·obtain⟨e,n,ne,nf,d⟩:=I.pin p hp
  have nch:p.1∉ch:=λz=>(hch p.1 z).2.2.2 p hp rfl
  exact⟨keep p.1 p.2 ne nf nch e n,free p.1 p.2 nch e n,ne,nf,d⟩
theorem Inv.un {t':Nat}(I:Inv X pz σ H s) (u:Un X.fs [] H H' s.heap h') (hok:HOk X.prog X.w H' h'):Inv X pz σ H' { s with heap:=h',toks:=t' }:=by
 obtain⟨m,⟨o,es,ep,ho,r⟩,_⟩:=id I.loc
 obtain⟨sl,hL⟩:=u.any ho I.free (by simp)
 exact I.step (g':=s.gens) (d':=s.drawn) (ch:=[]) (λ_ z=>nomatch z) (λb o _ hb _ e n=>u.keep b o e n hb (by simp)) (λb o _ hb _ e n=>u.slot b o e n hb (by simp)) (λb o _ e n=>u.free b o e n (by simp)) (λb o _ e=>u.there b o e (by simp)) u.tups u.frzs u.tbls (λm' hm=>by
  obtain⟨o',es',ep',ho',r'⟩:=hm
  rw[ho]at ho';cases ho'
  exact⟨_,es',ep',hL,r'⟩) hok I.bare
theorem Inv.call {g':Array GenState}{t':Nat}{d':Drawn}{ch:List Addr}(I:Inv X pz σ H s) (u:Un (frs X.stack) ch H H' s.heap h') (hok:HOk X.prog X.w H' h') (hg:AllBare g')
  (hch:∀b∈ch,(b∈X.ex\/X.s₀.heap.objs.size<=b)/\b≠X.env.locals/\(∀x c,X.env.cells.lookup x=some c->c≠b)/\∀p∈X.pn++pz,p.1≠b) :
  Inv X pz σ H' { s with heap:=h',gens:=g',drawn:=d',toks:=t' }:=by
 obtain⟨m,⟨o,es,ep,ho,r⟩,_⟩:=id I.loc
 obtain⟨sl,hL⟩:=u.any ho I.free λz=>(hch _ z).2.1 rfl
 exact I.step (ch:=ch) hch (λb o hL hb hc e n=>u.keep b o e n (λz=>(ww.mp (I.stkSub b z)).elim hL hb) hc) (λb o _ _ hc e n=>u.any e n hc) (λb o hc e n=>u.free b o e n hc) (λb o hc e=>u.there b o e hc) u.tups u.frzs u.tbls (λm' hm=>by
  obtain⟨o',es',ep',ho',r'⟩:=hm
  rw[ho]at ho';cases ho'
  exact⟨_,es',ep',hL,r'⟩) hok hg
theorem Inv.turned {t':Nat}{it:Addr}(I:Inv X pz σ H s) (k:∀b o,b≠it->s.heap.get? b=some o->h'.get? b=some o) (hn:H it=none) (hL:it≠X.env.locals)
  (h1:it∈X.ex\/X.s₀.heap.objs.size<=it) (h2:∀x c,X.env.cells.lookup x=some c->c≠it) (h3:∀p∈X.pn++pz,p.1≠it):Inv X pz σ H { s with heap:=h',toks:=t' }:=by
 have nit:∀b u,H b=some u->b≠it:=λb u e z=>by rw[z,hn]at e;cases e
 refine I.step (g':=s.gens) (d':=s.drawn) (ch:=[it]) (λb hb=>?_) (λb o _ _ hc e _=>k b o (λz=>hc (by simp[z])) e) (λb o _ _ hc e _=>⟨o.slots,k b o (λz=>hc (by simp[z])) e⟩) (λ_ _ _ _ n=>n)
  (λb o hc e=>⟨o,k b o (λz=>hc (by simp[z])) e⟩) (λ_ _ e=>e) (λ_ _ _ e=>e) (λb ps e=>⟨#[],by rw[e];simp⟩) (λm hm=>?_) (λb u e=>?_) I.bare
 ·have e:b=it:=↥hb
  subst e
  exact⟨h1,hL,h2,h3⟩
 ·obtain⟨o,es,ep,ho,r⟩:=hm
  exact⟨o,es,ep,k _ o (Ne.symm hL) ho,r⟩
 ·refine(I.hok b u e).stay (λc v hc q=>k c v ?_ q) (λ_ q=>q) λ_ _ q=>q
  rcases hc with z | z
  ·rw[z];exact nit b u e
  ·exact nit c _ z
theorem Inv.tok (I:Inv X pz σ H s) (t:Nat):Inv X pz σ H { s with toks:=t }:=I.un (h':=s.heap) (t':=t) Un.refl I.hok
theorem Inv.kept {t':Nat}(I:Inv X pz σ H s) (k:∀b u,s.heap.get? b=some u->h'.get? b=some u):Inv X pz σ H { s with heap:=h',toks:=t' }:=I.un (Un.kept k) (I.hok.kept k)
theorem Inv.laid {a:Addr}{o:HO}{t':Nat}(I:Inv X pz σ H s) (k:∀b u,s.heap.get? b=some u->h'.get? b=some u) (hp:s.heap.objs.size<=a) (new:xu X.prog X.w (upd H a o) h' a o) :
  Inv X pz σ (upd H a o) { s with heap:=h',toks:=t' }:=I.un (Un.laid k hp (I.hok.fresh hp)) (I.hok.laid k hp new)
theorem Inv.write {x e:Addr}{o:HO}{t':Nat}(I:Inv X pz σ H s) (mu:Mut (H x)) (he:e=x\/H e=some (.own x)) (k:∀b u,b≠e->s.heap.get? b=some u->h'.get? b=some u) (heo:∃u,h'.get? e=some u)
  (new:xu X.prog X.w (upd H x o) h' x o):Inv X pz σ (upd H x o) { s with heap:=h',toks:=t' }:=I.un (Un.write mu he k heo) (I.hok.write mu he k heo new)
theorem Inv.pins_of {pz':List (Addr×Obj)} (I:Inv X pz σ H s) (h:∀p∈pz',s.heap.get? p.1=some p.2/\H p.1=none/\p.1≠X.env.locals/\p.1∉X.fs/\∀v,p.2.data≠.cell v):Inv X pz' σ H s :=
 ⟨I.ok,I.os,I.bare,I.base,I.loc,I.cell,I.free,I.freeC,λp hp=>(wM.mp hp).elim (λz=>I.pin p (wH _ z)) (h p),I.hok,I.len⟩
theorem JK {N:List Str}(hN:N.Nodup){i j:Nat}{x:Str}(a:N[i]?=some x) (b:N[j]?=some x):i=j:=by
 obtain⟨h1,e1⟩:=wn.mp a
 obtain⟨h2,e2⟩:=wn.mp b
 exact(List.getElem_inj hN).mp (e1.trans e2.symm)
theorem VH {M:Model}{A:Around}{E:Value->Shared->Prop}{i:Nat}{x:Str}{v:V}{u:Value}{Q:Unit->Shared->Prop}(I:Inv X pz σ H s) (hN:X.N.Nodup) (hi:X.N[i]?=some x) (hx:Loc X.env.scope x) (r:xq v u)
  (h:∀s',Inv X pz (σ.set i (some v)) H s'->(∃a,Heap.SameBut a s.heap s'.heap/\(a=X.env.locals\/X.env.cells.lookup x=some a))->Q () s') (hf:X.fn x=true\/X.env.scope.names.lookup x=some .local := by first | exact .inl rfl | exact .inr rfl | assumption):wpAny M A (storeName X.env x u) Q E s:=by
 obtain⟨m,hn,hl⟩:=id I.loc
 have hcls:(X.env.scope.kind == .class || (X.env.scope.kind == .module&&X.env.locals != X.env.globals))=false:=by rw[I.ok.kind];rfl
 have hiσ:i<σ.length:=by rw[I.len];exact(wn.mp hi).1
 have cne:=I.cne
 have tracked:∀{a:Addr}{h':Heap},(∃o,s.heap.get? a=some o/\H a=none)->Heap.SameBut a s.heap h'->HOk X.prog X.w H h':=λ{a h'} ha hs b ob e=>by
  obtain⟨_,_,hfree⟩:=ha
  refine(I.hok b ob e).stay (λc w' hc q=>(hs.2 c ?_).trans q) (λ_ q=>q) λ_ _ q=>q
  rintro rfl
  rcases hc with rfl | hc
  ·rw[hfree]at e;cases e
  ·rw[hfree]at hc;cases hc
 rcases hx with hk | hk
 ·refine wpAny_storeName_local hk hn (λh' hn' hs=>?_) hcls
  obtain⟨oL,_,_,hoL,_⟩:=id hn
  refine h _ ⟨I.ok,I.os,I.bare,⟨λb o e n hb hx=>?_,λb o e n hb hx=>?_,I.base.free,λb o e hx=>?_,I.base.tups,I.base.frzs,I.base.tbls⟩,⟨_,hn',λj y v' e1 e2 e3=>?_⟩,λy c e=>?_,I.free,I.freeC,λp hp=>?_,tracked ⟨oL,hoL,I.free⟩ hs,↥I.len⟩ ⟨_,hs,.inl rfl⟩
  ·exact(hs.2 b (wN (wG (wx e) I.ok.above))).trans (I.base.keep b o e n hb hx)
  ·obtain⟨sl,e1⟩:=I.base.slot b o e n hb hx
   exact⟨sl,(hs.2 b (wN (wG (wx e) I.ok.above))).trans e1⟩
  ·obtain⟨o',e1⟩:=I.base.there b o e hx
   exact⟨o',(hs.2 b (wN (wG (wx e) I.ok.above))).trans e1⟩
  ·by_cases hj:j=i
   ·subst hj
    rw[hi]at e1;cases e1
    rw[List.getElem?_set_self hiσ]at e2
    cases e2
    exact⟨u,r,.inl ⟨hk,by simp⟩⟩
   ·rw[List.getElem?_set_ne (Ne.symm hj)]at e2
    obtain⟨u',r',q⟩:=hl j y v' e1 e2 e3
    refine⟨u',r',?_⟩
    rcases q with⟨k,e⟩ | ⟨k,c,e,z⟩
    ·refine .inl ⟨k,?_⟩
     have:y≠x:=λe=>hj (JK hN e1 (e ▸ hi))
     simp[this,e]
    ·exact .inr ⟨k,c,e,z.sameBut hs (cne y c e)⟩
  ·obtain⟨w',z⟩:=I.cell y c e
   exact⟨w',z.sameBut hs (cne y c e)⟩
  ·obtain⟨e,n,ne,nf,d⟩:=I.pin p hp
   exact⟨(hs.2 p.1 ne).trans e,n,ne,nf,d⟩
 ·have hfn:X.fn x=true:=by
   rcases hf with z | z
   ·exact z
   ·rw[z]at hk;cases hk
  obtain⟨c,hc⟩:=I.ok.has x (.inl hk)
  obtain⟨w',z⟩:=I.cell x c hc
  refine wpAny_storeName_cell I.ok.kind hk hc z (λh' hc' hs=>?_)
  obtain⟨oc,hoc,hocd⟩:=id z
  refine h { s with heap:=h' } ⟨I.ok,I.os,I.bare,⟨λb o e n hb hx=>?_,λb o e n hb hx=>?_,I.base.free,λb o e hx=>?_,I.base.tups,I.base.frzs,I.base.tbls⟩,⟨m,hn.sameBut hs (Ne.symm (cne x c hc)),λj y v' e1 e2 e3=>?_⟩,λy c' e=>?_,I.free,I.freeC,λp hp=>?_,tracked ⟨oc,hoc,I.freeC x c hc⟩ hs,↥I.len⟩ ⟨c,hs,.inr hc⟩
  ·exact(hs.2 b (wN (wG (wx e) (I.ok.cab x c hfn hc)))).trans (I.base.keep b o e n hb hx)
  ·obtain⟨sl,e1⟩:=I.base.slot b o e n hb hx
   exact⟨sl,(hs.2 b (wN (wG (wx e) (I.ok.cab x c hfn hc)))).trans e1⟩
  ·obtain⟨o',e1⟩:=I.base.there b o e hx
   exact⟨o',(hs.2 b (wN (wG (wx e) (I.ok.cab x c hfn hc)))).trans e1⟩
  ·by_cases hj:j=i
   ·subst hj
    rw[hi]at e1;cases e1
    rw[List.getElem?_set_self hiσ]at e2
    cases e2
    exact⟨u,r,.inr ⟨.inl hk,c,hc,hc'⟩⟩
   ·rw[List.getElem?_set_ne (Ne.symm hj)]at e2
    obtain⟨u',r',q⟩:=hl j y v' e1 e2 e3
    refine⟨u',r',?_⟩
    rcases q with q | ⟨k,c',e,z'⟩
    ·exact .inl q
    ·refine .inr ⟨k,c',e,z'.sameBut hs ?_⟩
     rintro rfl
     exact hj (JK hN e1 (I.ok.inj _ _ _ e hc ▸ hi))
  ·by_cases hcc:c'=c
   ·subst hcc;exact⟨_,hc'⟩
   ·obtain⟨w2,z2⟩:=I.cell y c' e
    exact⟨w2,z2.sameBut hs hcc⟩
  ·obtain⟨e,n,ne,nf,d⟩:=I.pin p hp
   refine⟨(hs.2 p.1 ?_).trans e,n,ne,nf,d⟩
   intro q
   rw[q,hoc]at e
   have q':oc=p.2:=Option.some.inj e
   exact d w' (by rw[<-q'];exact hocd)
theorem Xg {M:Model}{A:Around}{E:Value->Shared->Prop}{i:Nat}{x:Str}{v:V}{u:Value}{Q:Unit->Shared->Prop}(I:Inv X pz σ H s) (hN:X.N.Nodup) (hi:X.N[i]?=some x) (hx:Loc X.env.scope x) (r:xq v u)
  (h:∀s',Inv X pz (σ.set i (some v)) H s'->Q () s') (hf:X.fn x=true\/X.env.scope.names.lookup x=some .local := by first | exact .inl rfl | exact .inr rfl | assumption):wpAny M A (storeName X.env x u) Q E s :=
 VH I hN hi hx r (λs' I' _=>h s' I') hf
theorem Inv.call' {s':Shared}{ch:List Addr}(I:Inv X pz σ H s) (ho:s'.os=s.os) (u:Un (frs X.stack) ch H H' s.heap s'.heap) (hok:HOk X.prog X.w H' s'.heap) (hg:AllBare s'.gens)
  (hch:∀b∈ch,(b∈X.ex\/X.s₀.heap.objs.size<=b)/\b≠X.env.locals/\(∀x c,X.env.cells.lookup x=some c->c≠b)/\∀p∈X.pn++pz,p.1≠b):Inv X pz σ H' s':=by
 obtain⟨h',g',d',t',o'⟩:=s'
 have e:o'=s.os:=ho
 subst e
 exact I.call (g':=g') (t':=t') (d':=d') u hok hg hch
end
abbrev XK:=Value->Option Addr->Hp->Prop
abbrev St:=List (Option V)
abbrev Sr (a:Addr):Option V:=some (.ref a)
abbrev Si (i:Int):Option V:=some (.int i)
abbrev VK:=V->Hp->Prop
abbrev TE:=St->Hp->VK->Prop
abbrev TT:=St->Hp->(Bool->Hp->Prop)->Prop
abbrev TA:=St->Hp->(List V->Hp->Prop)->Prop
structure vd where
 nx:St->Hp->Prop
 rt:VK
 bk:St->Hp->Prop:=λ_ _=>False
 ct:St->Hp->Prop:=λ_ _=>False
abbrev TS:=vd->St->Hp->Prop
def EP (X:Cx) (pz:List (Addr×Obj)) (σ:St) (Q:VK) (u:Value) (s':Shared):Prop:=∃v H',Inv X pz σ H' s'/\xq v u/\Q v H'
def TP (X:Cx) (pz:List (Addr×Obj)) (σ:St) (Q:Bool->Hp->Prop) (b:Bool) (s':Shared):Prop:=∃H',Inv X pz σ H' s'/\Q b H'
def AP (X:Cx) (pz:List (Addr×Obj)) (σ:St) (Q:List V->Hp->Prop) (us:List Value) (s':Shared):Prop:=∃vs H',Inv X pz σ H' s'/\zY vs us/\Q vs H'
def SP (X:Cx) (pz:List (Addr×Obj)) (D:vd) (f:Flow) (s':Shared):Prop :=
 match f with
 |.next=>∃σ' H',Inv X pz σ' H' s'/\D.nx σ' H'
 |.brk=>∃σ' H',Inv X pz σ' H' s'/\D.bk σ' H'
 |.cont=>∃σ' H',Inv X pz σ' H' s'/\D.ct σ' H'
 |.ret u=>∃v σ' H',Inv X pz σ' H' s'/\xq v u/\D.rt v H'
def PE (X:Cx) (e:Expr) (t:TE):Prop :=
 ∀(pz:List (Addr×Obj)) (s:Shared) (σ:St) (H:Hp) (Q:VK),Inv X pz σ H s->t σ H Q->wpAny (model X.prog X.w) X.A (eval e X.env) (EP X pz σ Q) X.xe s
def PT (X:Cx) (e:Expr) (t:TT):Prop :=
 ∀(pz:List (Addr×Obj)) (s:Shared) (σ:St) (H:Hp) (Q:Bool->Hp->Prop),Inv X pz σ H s->t σ H Q->wpAny (model X.prog X.w) X.A (isTrue e X.env (eval e X.env)) (TP X pz σ Q) X.xe s
def PW (X:Cx) (e:Expr) (t:TT):Prop :=
 ∀(whole:Sem Value) (pz:List (Addr×Obj)) (s:Shared) (σ:St) (H:Hp) (Q:Bool->Hp->Prop),Inv X pz σ H s->t σ H Q->wpAny (model X.prog X.w) X.A (isTrue e X.env whole) (TP X pz σ Q) X.xe s
def PW.pt {X:Cx}{e:Expr}{t:TT}(h:PW X e t):PT X e t:=h _
def PA (X:Cx) (es:List Expr) (t:TA):Prop :=
 ∀(pos:Pos) (pz:List (Addr×Obj)) (s:Shared) (σ:St) (H:Hp) (Q:List V->Hp->Prop),Inv X pz σ H s->t σ H Q->wpAny (model X.prog X.w) X.A (spliced (backTo pos (starEach es X.env))) (AP X pz σ Q) X.xe s
def PS (X:Cx) (st:Stmt) (t:TS):Prop :=
 ∀(pz:List (Addr×Obj)) (s:Shared) (σ:St) (H:Hp) (D:vd),Inv X pz σ H s->t D σ H->wpAny (model X.prog X.w) X.A (exec st X.env) (SP X pz D) X.xe s
def PSs (X:Cx) (st:List Stmt) (t:TS):Prop :=
 ∀(pz:List (Addr×Obj)) (s:Shared) (σ:St) (H:Hp) (D:vd),Inv X pz σ H s->t D σ H->wpAny (model X.prog X.w) X.A (execs st X.env) (SP X pz D) X.xe s
def thn {α:Type}{t:Sem α}{Q Q':α->Shared->Prop}{M:Model}{A:Around}{E:Value->Shared->Prop}{s:Shared}(h:wpAny M A t Q E s) (hQ:∀a s,Q a s->Q' a s):wpAny M A t Q' E s:=yC h hQ λ_ _ x=>x
section
variable {X:Cx}
inductive zhh (i:Nat) (σ:St) (H:Hp) (Q:VK):Prop
 |mk:∀v,(σ[i]?=some (some v))->(Q v H)->zhh i σ H Q
def xy (i:Nat):TE:=λσ H Q=>zhh i σ H Q
def tC (v:V):TE:=λ_ H Q=>Q v H
theorem zil {i:Nat}{x:Str}{pos:Pos}(hN:X.N[i]?=some x) (hv:Vis X.env.scope x) (hd:(x == ("__debug__":Str))=false:=by decide) (hcd:(x == ("__classdict__":Str))=false:=by decide):PE X (.Name x pos) (xy i):=by
 intro pz s σ H Q I h
 obtain⟨v,e,h⟩:=h
 obtain⟨m,hn,hl⟩:=I.loc
 obtain⟨u,r,l⟩:=hl i x v hN e hv
 have fin:EP X pz σ Q u s:=⟨v,H,I,r,h⟩
 rcases l with⟨hk,hm⟩ | ⟨hk,c,hc,hcell⟩
 ·exact wpAny_Name (wpAny_loadName_local I.ok.kind hk hn hm fin) hd
 ·rcases hk with hk | hk
  ·exact wpAny_Name (wpAny_loadName_cell I.ok.kind hk hc hcell fin) hd
  ·exact wpAny_Name (wpAny_loadName_free I.ok.kind hk hc hcell fin hcd) hd
theorem zi {i j pos}:PE X (.Constant (.int i) j pos) (tC (.int i)):=λ_ _ _ H _ I h=>wpAny_Constant_int ⟨.int i,H,I.tok _,⟨_,rfl⟩,h⟩
theorem zd5 {b j pos}:PE X (.Constant (.bool b) j pos) (tC (.bl b)):=λ_ _ _ H _ I h=>Constant_bool ⟨.bl b,H,I,rfl,h⟩
theorem xj {j pos}:PE X (.Constant .none j pos) (tC .non):=λ_ _ _ H _ I h=>Constant_none ⟨.non,H,I,rfl,h⟩
theorem qI {x j pos}:PE X (.Constant (.str x) j pos) (tC (.str x)):=λ_ _ _ H _ I h=>Calls.Constant_str ⟨.str x,H,I.tok _,⟨_,rfl⟩,h⟩
def Gl (X:Cx) (x:Str):Prop:=X.env.kindOf x=some .globalImplicit
theorem vQ {E:Value->Shared->Prop}{pz:List (Addr×Obj)}{s:Shared}{σ:St}{H:Hp}{x:Str}{u:Value}{pos:Pos}{Q:Value->Shared->Prop}(I:Inv X pz σ H s) (hg:Gl X x) (hm:X.mg x=some u) (h:Q u s)
  (hd:(x == ("__debug__":Str))=false:=by decide):wpAny (model X.prog X.w) X.A (eval (.Name x pos) X.env) Q E s :=
 Calls.Name_function_global I.ok.kind hg (Calls.loadGlobal_global (by rw[I.ok.glob];exact I.mod.glob.keeps I.bk) hm h) hd
theorem Zc {E:Value->Shared->Prop}{pz:List (Addr×Obj)}{s:Shared}{σ:St}{H:Hp}{x:Str}{u:Value}{pos:Pos}{Q:Value->Shared->Prop}(I:Inv X pz σ H s) (hg:Gl X x) (hm:X.mg x=none) (hv:bootBuiltins x=some u) (h:Q u s)
  (hn:x≠"__name__":=by decide) (hd:(x == ("__debug__":Str))=false:=by decide):wpAny (model X.prog X.w) X.A (eval (.Name x pos) X.env) Q E s:=by
 obtain⟨mb,h1,h2⟩:=I.mod.blt
 exact Calls.Name_function_global I.ok.kind hg (Calls.loadGlobal_builtin (by rw[I.ok.glob];exact I.mod.glob.keeps I.bk) hm (by rw[I.ok.blt];exact h1.keeps I.bk) ((h2 x hn).trans hv) h) hd
theorem zbF {x:Str}{v:V}{u:Value}{pos:Pos}(hg:Gl X x) (hm:X.mg x=none) (hv:bootBuiltins x=some u) (r:xq v u) (hn:x≠"__name__":=by decide) (hd:(x == ("__debug__":Str))=false:=by decide):PE X (.Name x pos) (tC v) :=
 λ_ _ _ H _ I h=>Zc I hg hm hv ⟨v,H,I,r,h⟩ hn hd
variable {a b:Expr}{ta tb:TE}{pos:Pos}
variable {tA tB':TT}{rest:List Expr}
def tAnd (t u:TT):TT:=λσ H Q=>t σ H λc H1=>if c=true then u σ H1 Q else Q false H1
def tOr (t u:TT):TT:=λσ H Q=>t σ H λc H1=>if c=true then Q true H1 else u σ H1 Q
def tNot (t:TT):TT:=λσ H Q=>t σ H λc H1=>Q (!c) H1
theorem q5 (ha:PT X a tA):PW X (.BoolOp .And [a] pos) tA:=by
 intro wh pz s σ H Q I h
 refine isTrue_and (thn (ha pz s σ H Q I h) λc s1 e=>?_)
 cases c with
 |true=>exact isTrue_and_nil e
 |false=>exact e
theorem Xy (ha:PT X a tA):PW X (.BoolOp .Or [a] pos) tA:=by
 intro wh pz s σ H Q I h
 refine isTrue_or (thn (ha pz s σ H Q I h) λc s1 e=>?_)
 cases c with
 |false=>exact isTrue_or_nil e
 |true=>exact e
theorem vz (ha:PT X a tA) (hb:PW X (.BoolOp .And (b::rest) pos) tB'):PW X (.BoolOp .And (a::b::rest) pos) (tAnd tA tB'):=by
 intro wh pz s σ H Q I h
 refine isTrue_and (thn (ha pz s σ H _ I h) λc s1 ⟨H1,I1,q1⟩=>?_)
 cases c with
 |true=>exact hb wh pz s1 σ H1 Q I1 q1
 |false=>exact⟨H1,I1,q1⟩
theorem X9 (ha:PT X a tA) (hb:PW X (.BoolOp .Or (b::rest) pos) tB'):PW X (.BoolOp .Or (a::b::rest) pos) (tOr tA tB'):=by
 intro wh pz s σ H Q I h
 refine isTrue_or (thn (ha pz s σ H _ I h) λc s1 ⟨H1,I1,q1⟩=>?_)
 cases c with
 |true=>exact⟨H1,I1,q1⟩
 |false=>exact hb wh pz s1 σ H1 Q I1 q1
theorem QP (ha:PT X a tA):PT X (.UnaryOp .Not a pos) (tNot tA):=by
 intro pz s σ H Q I h
 exact isTrue_not (ha pz s σ H (λc H1=>Q (!c) H1) I h)
inductive zeL (tb:TE) (σ:St) (Q:VK) (x:V) (H1:Hp):Prop
 |mk:∀c,(x=.bl c)->(if c=true then tb σ H1 Q else Q (.bl false) H1)->zeL tb σ Q x H1
def zkE (ta tb:TE):TE:=λσ H Q=>ta σ H λx H1=>zeL tb σ Q x H1
inductive zeN (Q:VK) (x:V) (H1:Hp):Prop
 |mk:∀c,(x=.bl c)->(Q (.bl (!c)) H1)->zeN Q x H1
def zkK (ta:TE):TE:=λσ H Q=>ta σ H λx H1=>zeN Q x H1
theorem zaO {op}{t:TE}(h:PE X a t):PE X (.BoolOp op [a] pos) t:=λpz s σ H Q I hw=>BoolOp_one (h pz s σ H Q I hw)
theorem zaN (ha:PE X a ta) (hb:PE X (.BoolOp .And (b::rest) pos) tb):PE X (.BoolOp .And (a::b::rest) pos) (zkE ta tb):=by
 intro pz s σ H Q I h
 refine BoolOp_and (thn (ha pz s σ H _ I h) λv s1 ⟨x,H1,I1,r1,q1⟩=>?_)
 obtain⟨c,rfl,q1⟩:=q1
 cases r1
 refine Wi ?_
 cases c with
 |true=>exact hb pz s1 σ H1 Q I1 q1
 |false=>exact⟨.bl false,H1,I1,rfl,q1⟩
theorem zik (ha:PE X a ta):PE X (.UnaryOp .Not a pos) (zkK ta):=by
 intro pz s σ H Q I h
 refine UnaryOp_ (thn (ha pz s σ H _ I h) λv s1 ⟨x,H1,I1,r1,q1⟩=>?_)
 obtain⟨c,rfl,q1⟩:=q1
 cases r1
 exact not_of (Wi ⟨.bl (!c),H1,I1,rL,q1⟩)
def tIf (t:TT) (ta tb:TE):TE:=λσ H Q=>t σ H λc H1=>if c=true then ta σ H1 Q else tb σ H1 Q
theorem zd6 {c:Expr}(hc:PT X c tA) (ha:PE X a ta) (hb:PE X b tb):PE X (.IfExp c a b pos) (tIf tA ta tb):=by
 intro pz s σ H Q I h
 refine wpAny_IfExp (thn (hc pz s σ H _ I h) λd s1 ⟨H1,I1,q1⟩=>?_)
 cases d with
 |true=>exact ha pz s1 σ H1 Q I1 q1
 |false=>exact hb pz s1 σ H1 Q I1 q1
end
def SqL (K:Fg) (H:Hp) (a:Addr) (xs:List V):Prop :=
 Rd H a (.lst xs) ∨
  ∃(o:Obj) (its:Array Value) (n:Nat),K.lookup a=some o/\o.cls=.type "list"/\o.dict=none/\o.data=.seq its n/\its.size<=sizeLine/\zY xs its.toList
def SqT (K:Fg) (H:Hp) (a:Addr) (xs:List V):Prop :=
 Rd H a (.tup xs) ∨
  ∃(o:Obj) (its:Array Value) (n:Nat),K.lookup a=some o/\o.cls=.type "tuple"/\o.data=.seq its n/\its.size<=sizeLine/\zY xs its.toList
def absV:Value->Option V
 |.none=>some .non
 |.bool b=>some (.bl b)
 |.int i _=>some (.int i)
 |.str x _=>some (.str x)
 |.bytes b _=>some (.byt b)
 |.float b _=>some (.flt b)
 |.ref a=>some (.ref a)
 |.type n=>some (.ty n)
 |_=>none
def xq.abs {x:V}{u:Value}(r:xq x u):absV u=some x:=by
 cases x with
 |non=>cases r;rfl
 |bl _=>cases r;rfl
 |int _=>obtain⟨t,rfl⟩:=r;rfl
 |str _=>obtain⟨t,rfl⟩:=r;rfl
 |byt _=>obtain⟨t,rfl⟩:=r;rfl
 |flt _=>obtain⟨t,rfl⟩:=r;rfl
 |ref _=>cases r;rfl
 |ty _=>cases r;rfl
def xq.inj {x y:V}{u:Value}(r:xq x u) (q:xq y u):x=y:=Option.some.inj (r.abs.symm.trans q.abs)
def zY.inj:∀{xs ys:List V}{us:List Value},zY xs us->zY ys us->xs=ys
 |_,_,_,.nil,.nil=>rfl
 |_,_,_,.cons r t,.cons r' t'=>by rw[r.inj r',zY.inj t t']
section
variable {X:Cx}{pz:List (Addr×Obj)}{σ:St}{H:Hp}{s:Shared}{a:Addr}{xs ys:List V}
theorem SqL.of {K:Fg}(h:H a=some (.lst xs)):SqL K H a xs:=.inl (.inl h)
theorem SqT.of {K:Fg}(h:H a=some (.tup xs)):SqT K H a xs:=.inl (.inl h)
theorem Inv.list (I:Inv X pz σ H s) (h:SqL X.K H a xs):∃its:List Value,zY xs its/\PlainL s.heap a its.toArray/\xs.length<=sizeLine:=by
 rcases h with h | ⟨o,its,n,hk,hc,hd,hs,hz,r⟩
 ·obtain⟨z,its,n,r,e⟩:=h.ok I.hok
  exact⟨its,r,⟨_,n,e,rL,rL,rL⟩,z⟩
 ·refine⟨its.toList,r,⟨o,n,I.kIn a o hk,hc,hd,↥hs⟩,?_⟩
  have e:=r.length
  simp only[yU]at e
  lia
theorem Inv.tuple (I:Inv X pz σ H s) (h:SqT X.K H a xs):∃its:List Value,zY xs its/\IsTup s.heap a its.toArray/\xs.length<=sizeLine:=by
 rcases h with h | ⟨o,its,n,hk,hc,hs,hz,r⟩
 ·obtain⟨z,its,r,p⟩:=h.ok I.hok
  exact⟨its,r,p,z.1⟩
 ·refine⟨its.toList,r,⟨o,I.kIn a o hk,hc,n,↥hs⟩,?_⟩
  have e:=r.length
  simp only[yU]at e
  lia
theorem Inv.list_inj (I:Inv X pz σ H s) (h:SqL X.K H a xs) (h':SqL X.K H a ys):xs=ys:=by
 obtain⟨its,r,⟨o,n,e,_,_,d⟩,_⟩:=I.list h
 obtain⟨its',r',⟨o',n',e',_,_,d'⟩,_⟩:=I.list h'
 rw[e]at e';cases e'
 rw[d]at d'
 injection d' with d1 _
 have:its=its':=by simpa using congrArg Array.toList d1
 subst this
 exact r.inj r'
theorem Inv.tuple_inj (I:Inv X pz σ H s) (h:SqT X.K H a xs) (h':SqT X.K H a ys):xs=ys:=by
 obtain⟨its,r,⟨o,e,_,n,d⟩,_⟩:=I.tuple h
 obtain⟨its',r',⟨o',e',_,n',d'⟩,_⟩:=I.tuple h'
 rw[e]at e';cases e'
 rw[d]at d'
 injection d' with d1 _
 have:its=its':=by simpa using congrArg Array.toList d1
 subst this
 exact r.inj r'
end
abbrev Cx.wish (X:Cx) (E:Value->Shared->Prop):Cx:={ X with xe:=E }
abbrev Cx.nox (X:Cx):Cx:=X.wish λ_ _=>False
def Cx.Ok.wish {X:Cx}(ok:X.Ok) (E:Value->Shared->Prop):(X.wish E).Ok :=
 ⟨ok.mod,ok.kind,ok.glob,ok.blt,ok.above,ok.inj,ok.has,ok.cab,ok.hd,ok.frames,ok.stk,ok.exf,ok.bs,ok.bsz,ok.noex,ok.exfs,ok.funs,ok.frf⟩
def Cx.Ok.unwish {X:Cx}{E:Value->Shared->Prop}(ok:(X.wish E).Ok):X.Ok :=
 ⟨ok.mod,ok.kind,ok.glob,ok.blt,ok.above,ok.inj,ok.has,ok.cab,ok.hd,ok.frames,ok.stk,ok.exf,ok.bs,ok.bsz,ok.noex,ok.exfs,ok.funs,ok.frf⟩
section
variable {X:Cx}{pz:List (Addr×Obj)}{σ:St}{H:Hp}{s:Shared}{E:Value->Shared->Prop}
theorem Inv.wish (I:Inv X pz σ H s) (E:Value->Shared->Prop):Inv (X.wish E) pz σ H s:=⟨I.ok.wish E,I.os,I.bare,I.base,I.loc,I.cell,I.free,I.freeC,I.pin,I.hok,I.len⟩
theorem Inv.unwish (I:Inv (X.wish E) pz σ H s):Inv X pz σ H s:=⟨I.ok.unwish,I.os,I.bare,I.base,I.loc,I.cell,I.free,I.freeC,I.pin,I.hok,I.len⟩
theorem SP.unwish {D:vd}{f:Flow}{s':Shared}(h:SP (X.wish E) pz D f s'):SP X pz D f s':=by
 cases f with
 |next=>obtain⟨σ',H',I,q⟩:=h;exact⟨σ',H',I.unwish,q⟩
 |brk=>obtain⟨σ',H',I,q⟩:=h;exact⟨σ',H',I.unwish,q⟩
 |cont=>obtain⟨σ',H',I,q⟩:=h;exact⟨σ',H',I.unwish,q⟩
 |ret u=>obtain⟨v,σ',H',I,r,q⟩:=h;exact⟨v,σ',H',I.unwish,r,q⟩
theorem PSs.nox {st:List Stmt}{t:TS}(h:PSs X.nox st t):PSs X st t:=λpz s σ H D I hw =>
 yC (h pz s σ H D (I.wish _) hw) (λ_ _ q=>q.unwish) λ_ _ z=>False.elim z
end
section
variable {X:Cx}{st:Stmt}{rest:List Stmt}{t u:TS}{e:Expr}{te:TE}{pos:Pos}
def zhg:TS:=λD σ H=>D.nx σ H
def J6 (t u:TS):TS:=λD σ H=>t { D with nx:=u D } σ H
theorem zS:PSs X [] zhg:=λ_ _ σ H _ I h=>Wa ⟨σ,H,I,h⟩
theorem zA (h1:PS X st t) (h2:PSs X rest u):PSs X (st::rest) (J6 t u):=by
 intro pz s σ H D I h
 refine wpAny_execs_cons (thn (h1 pz s σ H { D with nx:=u D } I h) λf s1 q=>?_)
 cases f with
 |next =>
  obtain⟨σ',H',I',q⟩:=q
  exact h2 pz s1 σ' H' D I' q
 |ret v=>exact q
 |brk=>exact q
 |cont=>exact q
theorem zB (h1:PS X st t):PSs X [st] t:=by
 intro pz s σ H D I h
 refine wpAny_execs_cons (thn (h1 pz s σ H D I h) λf s1 q=>?_)
 cases f with
 |next=>exact Wa q
 |ret v=>exact q
 |brk=>exact q
 |cont=>exact q
theorem Inv.quiet {pz:List (Addr×Obj)}{σ:St}{H:Hp}{s:Shared}(I:Inv X pz σ H s):interactive X.env=false:=by simp[interactive,I.ok.kind]
def zkH (te:TE):TS:=λD σ H=>te σ H λ_ H1=>D.nx σ H1
theorem x9 (he:PE X e te) (hs:swapsWith e none pos.line X.env=pure false:=by rfl):PS X (.Expr e pos) (zkH te):=by
 intro pz s σ H D I h
 exact wpAny_Expr_any (thn (he pz s σ H _ I h) λv s1 ⟨x,H1,I1,r1,q1⟩=>⟨σ,H1,I1,q1⟩) I.quiet hs
def zeO (te:TE):TS:=λD σ H=>te σ H D.rt
theorem zK (he:PE X e te):PS X (.Return (some e) pos) (zeO te):=by
 intro pz s σ H D I h
 exact wpAny_Return_some (thn (he pz s σ H _ I h) λv s1 ⟨x,H1,I1,r1,q1⟩=>⟨x,σ,H1,I1,r1,q1⟩)
def ziZ (c:TT) (t u:TS):TS:=λD σ H=>c σ H λb H1=>if b=true then t D σ H1 else u D σ H1
theorem xh {c:Expr}{a b:List Stmt}{tc:TT}(hc:PT X c tc) (ha:PSs X a t) (hb:PSs X b u):PS X (.If c a b pos) (ziZ tc t u):=by
 intro pz s σ H D I h
 refine wpAny_If (thn (hc pz s σ H _ I h) λd s1 ⟨H1,I1,q1⟩=>?_)
 cases d with
 |true=>exact ha pz s1 σ H1 D I1 q1
 |false=>exact hb pz s1 σ H1 D I1 q1
def zi0:TS:=λ_ _ _=>False
theorem zcK {sts:List Stmt}:PSs X sts zi0:=λ_ _ _ _ _ _ h=>h.elim
end
abbrev TG:=V->St->Hp->(St->Hp->Prop)->Prop
abbrev TGs:=List V->St->Hp->(St->Hp->Prop)->Prop
def PG (X:Cx) (target:Expr) (t:TG):Prop :=
 ∀(pz:List (Addr×Obj)) (s:Shared) (σ:St) (H:Hp) (v:V) (u:Value) (Q:St->Hp->Prop),Inv X pz σ H s->xq v u->t v σ H Q →
  wpAny (model X.prog X.w) X.A (assign target X.env u) (λ_ s'=>∃σ' H',Inv X pz σ' H' s'/\Q σ' H') X.xe s
def PGs (X:Cx) (ts:List Expr) (t:TGs):Prop :=
 ∀(pz:List (Addr×Obj)) (s:Shared) (σ:St) (H:Hp) (vs:List V) (us:List Value) (Q:St->Hp->Prop),Inv X pz σ H s->zY vs us->t vs σ H Q →
  wpAny (model X.prog X.w) X.A (assignInOrder ((assignEach ts X.env).map (·.2)) us) (λ_ s'=>∃σ' H',Inv X pz σ' H' s'/\Q σ' H') X.xe s
abbrev zhp:=V->V->V->Hp->(Hp->Prop)->Prop
def zjb (X:Cx) (t:zhp):Prop :=
 ∀(pz:List (Addr×Obj)) (s:Shared) (σ:St) (H:Hp) (o i v:V) (ov iv u:Value) (Q:Hp->Prop),Inv X pz σ H s->xq o ov->xq i iv->xq v u->t o i v H Q →
  wpAny (model X.prog X.w) X.A (setItem ov iv u) (λ_ s'=>∃H',Inv X pz σ H' s'/\Q H') X.xe s
section
variable {X:Cx}{pos:Pos}
def zO (i:Nat):TG:=λv σ H Q=>Q (σ.set i (some v)) H
theorem zfN {i:Nat}{x:Str}(hN:X.N.Nodup) (hi:X.N[i]?=some x) (hx:Loc X.env.scope x) (hf:X.fn x=true\/X.env.scope.names.lookup x=some .local := by first | exact .inl rfl | exact .inr rfl | assumption):PG X (.Name x pos) (zO i):=by
 intro pz s σ H v u Q I r h
 exact wpAny_assign_Name (Xg I hN hi hx r (λs' I'=>⟨_,H,I',h⟩) hf)
theorem pgl {i:Nat}{x:Str}{pos:Pos}(hN:X.N.Nodup) (hi:X.N[i]?=some x:=by rfl) (hx:Loc X.env.scope x:=by exact Or.inl rfl) (hf:X.fn x=true\/X.env.scope.names.lookup x=some .local := by first | exact .inl rfl | exact .inr rfl | assumption):PG X (.Name x pos) (zO i):=zfN hN hi hx hf
def Jy:TGs:=λvs σ H Q=>vs=[]/\Q σ H
def qC (t:TG) (u:TGs):TGs:=λvs σ H Q=>∃v r,vs=v::r/\t v σ H λσ' H'=>u r σ' H' Q
theorem xw:PGs X [] Jy:=by
 intro pz s σ H vs us Q I r h
 obtain⟨e,h⟩:=h
 subst e
 cases r
 exact assignInOrder_nil ⟨σ,H,I,h⟩
theorem zQ {e:Expr}{es:List Expr}{t:TG}{u:TGs}(h1:PG X e t) (h2:PGs X es u)
  (hs:(assignEach (e::es) X.env).map (·.2)=assign e X.env::(assignEach es X.env).map (·.2):=by rfl):PGs X (e::es) (qC t u):=by
 intro pz s σ H vs us Q I r h
 obtain⟨v,vr,e1,h⟩:=h
 subst e1
 cases r with
 |cons r rr =>
  rw[hs]
  refine assignInOrder_cons (thn (h1 pz s σ H _ _ _ I r h) λ_ s1 ⟨σ1,H1,I1,q1⟩=>?_)
  exact h2 pz s1 σ1 H1 _ _ Q I1 rr q1
def Vj (K:Fg) (n:Nat) (t:TGs):TG:=λv σ H Q=>∃a xs,v=.ref a/\SqT K H a xs/\xs.length=n/\t xs σ H Q
theorem qJ {es:List Expr}{k:Nat}{t:TGs}{n:Nat}(hc:X.calm=true) (h:PGs X es t)
  (hn:(assignEach es X.env).length=n:=by rfl) (hst:(assignEach es X.env).findIdx? (·.1)=none:=by rfl):PG X (.Tuple es k pos) (Vj X.K n t):=by
 intro pz s σ H v u Q I r hw
 obtain⟨a,xs,e1,hq,hl,hw⟩:=hw
 subst e1
 cases r
 obtain⟨its,rv,ht,hz⟩:=I.tuple hq
 refine assign_Tuple_tuple (I.ok.hd hc) ht (by simp[hn,<-hl,rv.length]) hst λh' hx=>?_
 have I1:Inv X pz σ H { s with heap:=h' }:=I.kept (t':=s.toks) λb o e=>hx b o (wN (wx e)) e
 exact h pz _ σ H xs _ Q I1 ↥rv hw
def gSub (to ti:TE) (t:zhp):TG:=λv σ H Q=>to σ H λo H1=>ti σ H1 λi H2=>t o i v H2 λH3=>Q σ H3
theorem QN {o i:Expr}{to ti:TE}{t:zhp}(ho:PE X o to) (hi:PE X i ti) (hs:zjb X t)
  (ha:∀v,assign (.Subscript o i pos) X.env v=(do
   let ov <-holding [v] (eval o X.env)
   let iv <-holding [v,ov] (eval i X.env)
   standAt pos
   holding [v,ov,iv] (setItem ov iv v)
   release [v,ov,iv] []):=by intro _;rfl):PG X (.Subscript o i pos) (gSub to ti t):=by
 intro pz s σ H v u Q I r h
 rw[ha]
 refine wc (yn (thn (ho pz s σ H _ I h) λov s1 ⟨x,H1,I1,r1,q1⟩=>?_))
 refine wc (yn (thn (hi pz s1 σ H1 _ I1 q1) λiv s2 ⟨y,H2,I2,r2,q2⟩=>?_))
 refine wc (uB (wc (yn (thn (hs pz s2 σ H2 x y v ov iv u _ I2 r1 r2 r q2) λ_ s3 ⟨H3,I3,q3⟩=>?_))))
 exact wpAny_release ⟨σ,H3,I3,q3⟩
def zcW (te:TE) (g:TG):TS:=λD σ H=>te σ H λx H1=>g x σ H1 D.nx
theorem qi {tg e:Expr}{te:TE}{g:TG}(he:PE X e te) (hg:PG X tg g) (hs:swapsWithSole [tg] e pos.line X.env=pure false:=by rfl) (hw:swappedStores [tg] e X.env=pure none:=by rfl)
  (h1:(assignEach [tg] X.env).map (·.2)=[assign tg X.env]:=by rfl):PS X (.Assign [tg] e pos) (zcW te g):=by
 intro pz s σ H D I h
 refine wpAny_Assign_stores (thn (he pz s σ H _ I h) λv s1 ⟨x,H1,I1,r1,q1⟩=>?_) hs hw
 rw[h1]
 exact thn (hg pz s1 σ H1 x v _ I1 r1 q1) λ_ s2 q=>q
theorem Xx {i:Nat}{x:Str}{e:Expr}{te:TE}{pos':Pos}(hN:X.N.Nodup) (hi:X.N[i]?=some x) (hx:Loc X.env.scope x) (he:PE X e te) (hs:swapsWith e (some (.Name x pos')) pos.line X.env=pure false:=by rfl) (hf:X.fn x=true\/X.env.scope.names.lookup x=some .local := by first | exact .inl rfl | exact .inr rfl | assumption) :
  PS X (.Assign [.Name x pos'] e pos) (zcW te (zO i)):=by
 intro pz s σ H D I h
 refine wpAny_Assign_Name (thn (he pz s σ H _ I h) λv s1 ⟨y,H1,I1,r1,q1⟩=>?_) hs
 exact Xg I1 hN hi hx r1 (λs2 I2=>⟨_,H1,I2,q1⟩) hf
theorem psl {i:Nat}{x:Str}{e:Expr}{te:TE}{pos pos':Pos}(hN:X.N.Nodup) (he:PE X e te) (hi:X.N[i]?=some x:=by rfl) (hx:Loc X.env.scope x:=by exact Or.inl rfl) (hs:swapsWith e (some (.Name x pos')) pos.line X.env=pure false:=by rfl) (hf:X.fn x=true\/X.env.scope.names.lookup x=some .local := by first | exact .inl rfl | exact .inr rfl | assumption) :
  PS X (.Assign [.Name x pos'] e pos) (zcW te (zO i)):=Xx hN hi hx he hs hf
def tPar (i j:Nat) (ta:TA):TS:=λD σ H=>ta σ H λvs H1=>∃v w,vs=[v,w]/\D.nx ((σ.set i (some v)).set j (some w)) H1
theorem zaR {i j:Nat}{x y:Str}{a b:Expr}{ta:TA}{px py pt:Pos} {kt k2 pt2} (hc:X.calm=true) (hN:X.N.Nodup) (hi:X.N[i]?=some x) (hj:X.N[j]?=some y) (hij:i≠j)
  (hx:X.env.scope.names.lookup x=some .local) (hy:X.env.scope.names.lookup y=some .local) (ha:PA X [a,b] ta)
  (hw:swappedStores [.Tuple [.Name x px,.Name y py] kt pt] (.Tuple [a,b] k2 pt2) X.env=pure (some [x,y]))
  (hs:swapsWithSole [.Tuple [.Name x px,.Name y py] kt pt] (.Tuple [a,b] k2 pt2) pos.line X.env=pure false:=by rfl) :
  PS X (.Assign [.Tuple [.Name x px,.Name y py] kt pt] (.Tuple [a,b] k2 pt2) pos) (tPar i j ta):=by
 intro pz s σ H D I h
 rw[exec_Assign_arm]
 refine wc (uB ?_)
 rw[hs]
 refine wc (wj ?_)
 rw[if_neg (by decide)]
 refine wc (Tuple_ (thn (ha _ pz s σ H _ I h) λus s1 ⟨vs,H1,I1,r1,q1⟩=>?_))
 obtain⟨v,w,e1,q1⟩:=q1
 subst e1
 obtain⟨u1,u2,rfl,rv,rw'⟩:∃u1 u2,us=[u1,u2]/\xq v u1/\xq w u2:=by
  cases r1 with
  |cons p q =>
   cases q with
   |cons p' q' =>
    cases q'
    exact⟨_,_,rL,p,p'⟩
 refine w8 ?_ (zL2)
 have I2:Inv X pz σ H1 { s1 with heap:=s1.heap.push { cls:=.type "tuple",data:=.seq [u1,u2].toArray } }:=I1.kept (t':=s1.toks) λb o e=>we _ e
 rw[hw]
 refine wc (wj ?_)
 show wpAny (model X.prog X.w) X.A (do rule "assign.swapped-stores";let items <-unpackItems (.ref s1.heap.objs.size) 2 none;assignInOrder [λv=>bindName X.env y v,λv=>bindName X.env x v] items.reverse;pure Flow.next) _ _ _
 refine wc (ul (wc (unpackItems_tuple (items:=#[u1,u2]) (I.ok.hd hc) (IsTup.new s1.heap _) λh' hx'=>?_)))
 have I3:=I2.kept (h':=h') (t':=s1.toks) λb o e=>hx' b o (wN (wx e)) e
 show wpAny _ _ (assignInOrder [λv=>bindName X.env y v,λv=>bindName X.env x v] [u2,u1] >>= λ_=>pure Flow.next) _ _ _
 refine wc (assignInOrder_cons (wpAny_bindName (Xg I3 hN hj (.inl hy) rw' (λs2 I4=>?_) (.inr hy))))
 refine assignInOrder_cons (wpAny_bindName (Xg I4 hN hi (.inl hx) rv (λs3 I5=>assignInOrder_nil (wj ?_)) (.inr hx)))
 rw[List.set_comm _ _ (Ne.symm hij)]at I5
 exact⟨_,H1,I5,q1⟩
def zeR (c:TT) (tb:TS):TS:=λD σ H=>∃W:Nat->St->Hp->Prop,(∃m,W m σ H)/\∀m σ H,W m σ H →
 c σ H λb H1=>if b=true then ∃N:St->Hp->Prop,(∀σ' H',N σ' H'->∃m',m'<m/\W m' σ' H')/\tb { D with nx:=N,ct:=N,bk:=D.nx } σ H1 else D.nx σ H1
theorem JP {c:Expr}{body:List Stmt}{tc:TT}{tb:TS}(hp:PassesOwn (model X.prog X.w) X.A X.env X.xe) (hc:PT X c tc) (hb:PSs X body tb):PS X (.While c body [] pos) (zeR tc tb):=by
 intro pz s σ H D I h
 obtain⟨W,⟨m0,w0⟩,turn⟩:=h
 refine wpAny_While (codeAny_whileLoop (λn s'=>∃σ' H',Inv X pz σ' H' s'/\W n σ' H') ?_ m0 ⟨σ,H,I,w0⟩)
 rintro n s1 ⟨σ1,H1,I1,w1⟩
 refine um hp (thn (hc pz s1 σ1 H1 _ I1 (turn n σ1 H1 w1)) λb s2 ⟨H2,I2,q2⟩=>?_)
 cases b with
 |true =>
  obtain⟨N,hN,q2⟩:=q2
  rw[if_pos rfl]
  refine um hp (thn (hb pz s2 σ1 H2 _ I2 q2) λf s3 q3=>?_)
  cases f with
  |next =>
   obtain⟨σ3,H3,I3,n3⟩:=q3
   obtain⟨m',hm,w3⟩:=hN σ3 H3 n3
   exact⟨m',hm,σ3,H3,I3,w3⟩
  |cont =>
   obtain⟨σ3,H3,I3,n3⟩:=q3
   obtain⟨m',hm,w3⟩:=hN σ3 H3 n3
   exact⟨m',hm,σ3,H3,I3,w3⟩
  |brk=>exact q3
  |ret v=>exact q3
 |false =>
  rw[if_neg wL]
  exact Wa ⟨σ1,H2,I2,q2⟩
end
structure It where
 go:Nat->Hp->Prop
 yld:Nat->Hp->V->Hp->Prop
 stop:Nat->Hp->Prop
def Qs (X:Cx) (pz:List (Addr×Obj)) (H:Hp) (b:Addr):Prop :=
 H b=none/\b≠X.env.locals/\b∉X.fs/\(b∈X.ex\/X.s₀.heap.objs.size<=b)/\(∀x c,X.env.cells.lookup x=some c->c≠b)/\∀p∈X.pn++pz,p.1≠b
def Inv.fpOk {X:Cx}{pz:List (Addr×Obj)}{σ:St}{H H':Hp}{s:Shared}{b:Addr}(I:Inv X pz σ H s) (hb:s.heap.objs.size<=b) (hn:H' b=none):Qs X pz H' b:=by
 refine⟨hn,uq (wG I.lt hb),I.nofs hb,.inr (wV I.sz hb),λx c e z=>?_,λp hp z=>?_⟩
 ·obtain⟨v,q⟩:=I.cell x c e
  exact absurd (wG q.lt (by rw[z];exact hb)) (uu _)
 ·exact absurd (wG (wx (I.pin p hp).1) (by rw[z];exact hb)) (uu _)
structure zal (P:Program) (w:World) (K:Fg) (tg:Expr) (J:It) (fp:List Addr) (it:Addr) (tn:Nat->Heap->Prop):Prop where
 mem:it∈fp
 obj:∀i h,tn i h->∀b∈fp,∃o,h.get? b=some o/\∀v,o.data≠.cell v
 keep:∀i h h',tn i h->(∀b∈fp,∀o,h.get? b=some o->h'.get? b=some o)->tn i h'
 item:∀(X:Cx),X.prog=P->X.w=w->X.K=K->X.calm=true->∀(i:Nat) (pz:List (Addr×Obj)) (s:Shared) (σ:St) (H:Hp) (E:Value->Shared->Prop),Inv X pz σ H s->(∀b∈fp,Qs X pz H b)->tn i s.heap->J.go i H →
  wpAny (model P w) X.A (pyNext (.ref it)) (λr s1=>∃u,r=some u ∧
   wpAny (model P w) X.A (letOwnedTupleGo tg (.ref it) u) (λ_ s2=>∃x H',Inv X pz σ H' s2/\xq x u/\J.yld i H x H'/\tn (i+1) s2.heap/\∀b∈fp,H' b=none) E s1) E s
 done:∀(X:Cx),X.prog=P->X.w=w->X.K=K->X.calm=true->∀(i:Nat) (pz:List (Addr×Obj)) (s:Shared) (σ:St) (H:Hp) (E:Value->Shared->Prop),Inv X pz σ H s->(∀b∈fp,Qs X pz H b)->tn i s.heap->J.stop i H →
  wpAny (model P w) X.A (pyNext (.ref it)) (λr s1=>r=none/\Inv X pz σ H s1) E s
 self:∀(A:Around) (i:Nat) (s:Shared) (Q:Value->Shared->Prop) (E:Value->Shared->Prop),tn i s.heap->Q (.ref it) s->wpAny (model P w) A (pyIter (.ref it)) Q E s
abbrev TI:=St->Hp->(It->Hp->Prop)->Prop
def PIE (X:Cx) (pz:List (Addr×Obj)) (σ:St) (tg:Expr) (R:It->Hp->Prop) (itv:Value) (s2:Shared):Prop :=
 ∃(it:Addr) (fp:List Addr) (tn:Nat->Heap->Prop) (J:It) (H':Hp),itv=.ref it/\Inv X pz σ H' s2/\zal X.prog X.w X.K tg J fp it tn/\tn 0 s2.heap/\(∀b∈fp,Qs X pz H' b)/\R J H'
def PI (X:Cx) (tg iter:Expr) (wi:TI):Prop :=
 ∀(pz:List (Addr×Obj)) (s:Shared) (σ:St) (H:Hp) (R:It->Hp->Prop),Inv X pz σ H s->wi σ H R →
  wpAny (model X.prog X.w) X.A (eval iter X.env) (λv s1=>wpAny (model X.prog X.w) X.A (pyIter v) (PIE X pz σ tg R) X.xe s1) X.xe s
def zdx {M:Model}{A:Around}{E:Value->Shared->Prop}{s:Shared}{tg:Expr}{it:Addr}{u:Value}{o:Obj}{n:String}{vs:Array Value}{Q:Unit->Shared->Prop}(ho:s.heap.get? it=some o) (hc:o.cls=.type n) (hd:o.data=.fields vs)
  (hn:["enumerate","zip","dict_itemiterator","dict_reverseitemiterator","odict_iterator","itertools.zip_longest","itertools.pairwise"].contains n=false) (hQ:Q () s):wpAny M A (letOwnedTupleGo tg (.ref it) u) Q E s:=by
 unfold letOwnedTupleGo
 cases tg <;> first
  |exact wj hQ
  | (cases u <;> first
    |exact wj hQ
    | (refine wc (wpAny_load ho ?_)
       rw[hc,hd]
       show wpAny M A (if(["enumerate","zip","dict_itemiterator","dict_reverseitemiterator","odict_iterator","itertools.zip_longest","itertools.pairwise"].contains n&&vs[0]? == some (rawInt _))=true then _ else _) Q E s
       rw[if_neg (by intro h;rw[hn,Bool.false_and]at h;cases h)]
       exact wj hQ))
def Itl (K:Fg) (a:Addr):It :=
 ⟨λi H=>∃xs x,SqL K H a xs/\xs[i]?=some x,λi H x H'=>H'=H/\∀xs,SqL K H a xs->xs[i]?=some x,λi H=>∃xs,SqL K H a xs/\xs.length<=i⟩
def Itt (K:Fg) (a:Addr):It :=
 ⟨λi H=>∃xs x,SqT K H a xs/\xs[i]?=some x,λi H x H'=>H'=H/\∀xs,SqT K H a xs->xs[i]?=some x,λi H=>∃xs,SqT K H a xs/\xs.length<=i⟩
def Itr (lo:Int) (n:Nat):It:=⟨λi _=>i<n,λi H x H'=>H'=H/\x=.int (lo+i),λi _=>n<=i⟩
def zcZ {P:Program}{w:World}{K:Fg}{tg:Expr}(a it:Addr):zal P w K tg (Itl K a) [it] it (λi h=>h.IsListIter it a i) where
 mem:=by simp
 obj:=λi h st b hb=>by
  have e:b=it:=↥hb
  subst e
  obtain⟨o,e,c,d⟩:=st
  exact⟨o,e,λv z=>by rw[d]at z;cases z⟩
 keep:=λi h h' st k=>st.at λo e=>k it (by simp) o e
 item:=by
  intro X hP hw hK hc i pz s σ H E I hf st hg
  subst hP hw hK
  obtain⟨xs,x,hq,hx⟩:=hg
  obtain⟨its,rv,p,hz⟩:=I.list hq
  obtain⟨u,hu,ru⟩:=rv.get hx
  obtain⟨f0,f1,f2,f3,f4,f5⟩:=hf it (by simp)
  refine wpAny_pyNext_list_item st p.isList (x:=u) ↥hu λh' st' sb=>?_
  have I1:Inv X pz σ H { s with heap:=h' }:=I.turned (t':=s.toks) (λb o hb e=>(sb.2 b hb).trans e) f0 f1 f3 f4 f5
  obtain⟨o,e,c,d⟩:=id st'
  exact⟨u,rfl,zdx (s:={ s with heap:=h' }) e c d (by decide) ⟨x,H,I1,ru,⟨rfl,λys hy=>by rw[I.list_inj hy hq];exact hx⟩,st',λb hb=>(hf b hb).1⟩⟩
 done:=by
  intro X hP hw hK hc i pz s σ H E I hf st hg
  subst hP hw hK
  obtain⟨xs,hq,hx⟩:=hg
  obtain⟨its,rv,p,hz⟩:=I.list hq
  obtain⟨f0,f1,f2,f3,f4,f5⟩:=hf it (by simp)
  have hl:=rv.length
  exact wpAny_pyNext_list_end (I.ok.hd hc) st p.isList (by simp;lia) λh' eb=>⟨rfl,I.turned (t':=s.toks) (λb o hb e=>eb b o hb e) f0 f1 f3 f4 f5⟩
 self:=λ_ _ _ _ _ st h=>wpAny_pyIter_listiter st h
def za5 {P:Program}{w:World}{K:Fg}{tg:Expr}(a it:Addr):zal P w K tg (Itt K a) [it] it (λi h=>h.IsTupleIter it a i) where
 mem:=by simp
 obj:=λi h st b hb=>by
  have e:b=it:=↥hb
  subst e
  obtain⟨o,e,c,d⟩:=st
  exact⟨o,e,λv z=>by rw[d]at z;cases z⟩
 keep:=λi h h' st k=>st.at λo e=>k it (by simp) o e
 item:=by
  intro X hP hw hK hc i pz s σ H E I hf st hg
  subst hP hw hK
  obtain⟨xs,x,hq,hx⟩:=hg
  obtain⟨its,rv,p,hz⟩:=I.tuple hq
  obtain⟨u,hu,ru⟩:=rv.get hx
  obtain⟨f0,f1,f2,f3,f4,f5⟩:=hf it (by simp)
  refine wpAny_pyNext_tuple_item st (show s.heap.IsTuple a its.toArray from p) (x:=u) ↥hu λh' st' sb=>?_
  have I1:Inv X pz σ H { s with heap:=h' }:=I.turned (t':=s.toks) (λb o hb e=>(sb.2 b hb).trans e) f0 f1 f3 f4 f5
  obtain⟨o,e,c,d⟩:=id st'
  exact⟨u,rfl,zdx (s:={ s with heap:=h' }) e c d (by decide) ⟨x,H,I1,ru,⟨rfl,λys hy=>by rw[I.tuple_inj hy hq];exact hx⟩,st',λb hb=>(hf b hb).1⟩⟩
 done:=by
  intro X hP hw hK hc i pz s σ H E I hf st hg
  subst hP hw hK
  obtain⟨xs,hq,hx⟩:=hg
  obtain⟨its,rv,p,hz⟩:=I.tuple hq
  obtain⟨f0,f1,f2,f3,f4,f5⟩:=hf it (by simp)
  have hl:=rv.length
  exact wpAny_pyNext_tuple_end (I.ok.hd hc) st (show s.heap.IsTuple a its.toArray from p) (by simp;lia) λh' eb=>⟨rfl,I.turned (t':=s.toks) (λb o hb e=>eb b o hb e) f0 f1 f3 f4 f5⟩
 self:=λ_ _ _ _ _ st h=>wpAny_pyIter_tupleiter st h
def za4 {P:Program}{w:World}{K:Fg}{tg:Expr}(it:Addr) (lo:Int) (n:Nat):zal P w K tg (Itr lo n) [it] it (λi h=>IsRangeIter h it (lo+(i:Nat)*1) ((n:Int)-(i:Nat)) 1) where
 mem:=by simp
 obj:=λi h st b hb=>by
  have e:b=it:=↥hb
  subst e
  exact⟨_,st,λv z=>by
   have z':Data.fields _=Data.cell v:=z
   cases z'⟩
 keep:=λi h h' st k=>k it (by simp) _ st
 item:=by
  intro X hP hw hK hc i pz s σ H E I hf st hg
  subst hP hw hK
  obtain⟨f0,f1,f2,f3,f4,f5⟩:=hf it (by simp)
  have W:=Walks.range (prog:=X.prog) (w:=X.w) (I.ok.hd hc) it lo 1 n
  refine W.item i s _ _ hg st λv h' tk hv st' kk=>?_
  obtain⟨t,rfl⟩:=hv
  have I1:Inv X pz σ H { s with heap:=h',toks:=tk }:=I.turned (λb o hb e=>kk b o ↥hb e) f0 f1 f3 f4 f5
  refine⟨_,rfl,zdx (s:={ s with heap:=h',toks:=tk }) (n:="range_iterator") st' rfl rfl (by decide) ⟨.int (lo+i),H,I1,⟨t,?_⟩,⟨rfl,rfl⟩,st',λb hb=>(hf b hb).1⟩⟩
  rw[Int.mul_one]
 done:=by
  intro X hP hw hK hc i pz s σ H E I hf st hg
  subst hP hw hK
  obtain⟨f0,f1,f2,f3,f4,f5⟩:=hf it (by simp)
  exact wpAny_pyNext_range_end (I.ok.hd hc) st (by have:n<=i:=hg;lia) λh' eb=>⟨rfl,I.turned (t':=s.toks) (λb o hb e=>eb b o hb e) f0 f1 f3 f4 f5⟩
 self:=λ_ _ _ _ _ st h=>wpAny_pyIter_rangeiter st h
section
variable {X:Cx}{tg:Expr}
def zgN (K:Fg) (tl:TE):TI:=λσ H R=>tl σ H λx H1=>∃a,x=.ref a/\(∃xs,SqL K H1 a xs)/\R (Itl K a) H1
def zjs (K:Fg) (tl:TE):TI:=λσ H R=>tl σ H λx H1=>∃a,x=.ref a/\(∃xs,SqT K H1 a xs)/\R (Itt K a) H1
theorem xN {l:Expr}{tl:TE}(hl:PE X l tl):PI X tg l (zgN X.K tl):=by
 intro pz s σ H R I h
 refine thn (hl pz s σ H _ I h) λv s1 ⟨x,H1,I1,r1,q1⟩=>?_
 obtain⟨a,e,⟨xs,hq⟩,q⟩:=q1
 subst e
 cases r1
 obtain⟨its,rv,p,hz⟩:=I1.list hq
 refine uo p.isList ?_
 refine⟨s1.heap.objs.size,[s1.heap.objs.size],_,_,H1,rL,I1.kept (t':=s1.toks) λb o e=>we _ e,zcZ a _,⟨_,wu _ rL,rL,rL⟩,λb hb=>?_,q⟩
 have e:b=s1.heap.objs.size:=↥hb
 subst e
 exact I1.fpOk (wo _) (I1.hok.fresh (wo _))
theorem Xv {l:Expr}{tl:TE}(hl:PE X l tl):PI X tg l (zjs X.K tl):=by
 intro pz s σ H R I h
 refine thn (hl pz s σ H _ I h) λv s1 ⟨x,H1,I1,r1,q1⟩=>?_
 obtain⟨a,e,⟨xs,hq⟩,q⟩:=q1
 subst e
 cases r1
 obtain⟨its,rv,p,hz⟩:=I1.tuple hq
 refine wpAny_pyIter_tuple (show s1.heap.IsTuple a its.toArray from p) ?_
 refine⟨s1.heap.objs.size,[s1.heap.objs.size],_,_,H1,rL,I1.kept (t':=s1.toks) λb o e=>we _ e,za5 a _,⟨_,wu _ rL,rL,rL⟩,λb hb=>?_,q⟩
 have e:b=s1.heap.objs.size:=↥hb
 subst e
 exact I1.fpOk (wo _) (I1.hok.fresh (wo _))
theorem zef {pz:List (Addr×Obj)}{σ:St}{H:Hp}{s:Shared}{R:It->Hp->Prop}{E:Value->Shared->Prop}{lo hi:Int}{t u v:Tok}{tk:Nat}(I:Inv X pz σ H s) (h1 : -(2^62)<=lo) (h2:lo<2^62) (h3 : -(2^62)<=hi) (h4:hi<2^62)
  (q:R (Itr lo (hi-lo).toNat) H):wpAny (model X.prog X.w) X.A (pyIter (.ref s.heap.objs.size)) (PIE X pz σ tg R) E { s with heap:=s.heap.push { cls:=.type "range",data:=.fields #[.int lo t,.int hi u,.int 1 v] },toks:=tk }:=by
 refine wpAny_pyIter_range (IsRange.new ..) (small_one h1 h2 h3 h4) ?_
 have I1:Inv X pz σ H { s with heap:=s.heap.push { cls:=.type "range",data:=.fields #[.int lo t,.int hi u,.int 1 v] },toks:=tk }:=I.kept λb o e=>we _ e
 refine⟨(s.heap.push { cls:=.type "range",data:=.fields #[.int lo t,.int hi u,.int 1 v] }).objs.size,[(s.heap.push { cls:=.type "range",data:=.fields #[.int lo t,.int hi u,.int 1 v] }).objs.size],_,_,H,rL,
  I1.kept (t':=tk) λb o e=>we _ e,za4 _ lo (hi-lo).toNat,?_,λb hb=>?_,q⟩
 ·have e1:lo+((0:Nat):Int)*1=lo:=by simp
  have e2:(((hi-lo).toNat:Nat):Int)-((0:Nat):Int)=Builtin.Range.rangeSize lo hi 1:=by rw[rangeSize_one];split <;> lia
  show IsRangeIter _ _ (lo+((0:Nat):Int)*1) ((((hi-lo).toNat:Nat):Int)-((0:Nat):Int)) 1
  rw[e1,e2]
  exact wu _ rL
 ·have e:b=(s.heap.push { cls:=.type "range",data:=.fields #[.int lo t,.int hi u,.int 1 v] }).objs.size:=↥hb
  subst e
  exact I1.fpOk (wo _) (I1.hok.fresh (wo _))
def zjr (ta:TA):TI:=λσ H R=>ta σ H λvs H1=>∃j:Int,vs=[.int j] ∧ -(2^62)<=j/\j<2^62/\R (Itr 0 j.toNat) H1
theorem Zy {a:Expr}{ta:TA}{p pos:Pos}(hg:Gl X "range") (hm:X.mg "range" = none) (ha:PA X [a] ta) (hs:starEach [a] X.env=[(false,eval a X.env)]:=by rfl):PI X tg (.Call (.Name "range" p) [a] [] pos) (zjr ta):=by
 intro pz s σ H R I h
 refine Call_ (Zc I hg hm boot_range (yL (thn (ha pos pz s σ H _ I h) λus s1 ⟨vs,H1,I1,r1,q1⟩=>?_) hs rL))
 obtain⟨j,e,q1,q2,q⟩:=q1
 subst e
 cases r1 with
 |cons r rr =>
  cases rr
  obtain⟨t,rfl⟩:=r
  exact call_range_1 (zef I1 ∅ ∅ q1 q2 ↥q)
def ziY (wi:TI) (g:TG) (tb:TS):TS:=λD σ H=>wi σ H λJ H1=>∃W:Nat->Nat->St->Hp->Prop,(∃m,W 0 m σ H1)/\∀i m σ H,W i m σ H →
 (J.stop i H/\D.nx σ H)\/(J.go i H/\∃N:St->Hp->Prop,(∀σ' H',N σ' H'->∃m',m'<m/\W (i+1) m' σ' H')/\∀x H',J.yld i H x H'->g x σ H' λσ2 H2=>tb { D with nx:=N,ct:=N,bk:=D.nx } σ2 H2)
def Xw (fp:List Addr) (h:Heap):List (Addr×Obj):=fp.filterMap λb=>(h.get? b).map λo=>(b,o)
theorem qG {fp:List Addr}{h:Heap}{b:Addr}{o:Obj}(hb:b∈fp) (e:h.get? b=some o):(b,o)∈Xw fp h:=WL.mpr ⟨b,hb,by rw[e];rfl⟩
theorem zcI {fp:List Addr}{h:Heap}{p:Addr×Obj}(hp:p∈Xw fp h):p.1∈fp/\h.get? p.1=some p.2:=by
 obtain⟨b,hb,e⟩:=WL.mp hp
 cases q:h.get? b with
 |none=>rw[q]at e;cases e
 |some o =>
  rw[q]at e
  have e':(b,o)=p:=Option.some.inj e
  subst e'
  exact⟨hb,q⟩
theorem Inv.pinned {pz:List (Addr×Obj)}{σ:St}{H:Hp}{s:Shared}{fp:List Addr}(I:Inv X pz σ H s) (hf:∀b∈fp,Qs X pz H b) (ho:∀b∈fp,∃o,s.heap.get? b=some o/\∀v,o.data≠.cell v):Inv X (pz++Xw fp s.heap) σ H s :=
 I.pins_of λp hp=>(wM.mp hp).elim (λz=>I.pin p (wq _ z)) λz=>by
  obtain⟨hb,e⟩:=zcI z
  obtain⟨f0,f1,f2,_⟩:=hf p.1 hb
  obtain⟨o,e',d⟩:=ho p.1 hb
  rw[e]at e';cases e'
  exact⟨e,f0,f1,f2,d⟩
theorem Inv.unpinned {pz pl:List (Addr×Obj)}{σ:St}{H:Hp}{s:Shared}(I:Inv X (pz++pl) σ H s):Inv X pz σ H s:=I.pins_of λp hp=>I.pin p (wq _ (wH _ hp))
theorem vg {iter:Expr}{body:List Stmt}{wi:TI}{g:TG}{tb:TS}{pos:Pos}(hp:PassesOwn (model X.prog X.w) X.A X.env X.xe) (hc:X.calm=true) (hi:PI X tg iter wi) (hg:PG X tg g) (hb:PSs X body tb)
  (hs:∀x,foldedSetIterable iter X.env x=pure x:=by intro _;rfl):PS X (.For tg iter body [] pos) (ziY wi g tb):=by
 intro pz s σ H D I h
 refine wpAny_For (thn (hi pz s σ H _ I h) λv s1 h1=>thn h1 λitv s2 h2=>?_) hs
 obtain⟨it,fp,tn,J,H2,e,I2,T,st2,f2,W,⟨m0,w0⟩,turn⟩:=h2
 subst e
 have stat:∀{H':Hp},(∀b∈fp,H' b=none)->∀b∈fp,Qs X pz H' b:=λhn b hb=>⟨hn b hb,(f2 b hb).2⟩
 refine codeAny_forLoop_any (λn s'=>∃i σ' H',Inv X pz σ' H' s'/\tn i s'.heap/\(∀b∈fp,H' b=none)/\W i n σ' H') ?_ m0 ⟨0,σ,H2,I2,st2,λb hb=>(f2 b hb).1,w0⟩
 rintro n s3 ⟨i,σ3,H3,I3,st3,fr3,w3⟩
 rcases turn i n σ3 H3 w3 with⟨stop,qn⟩ | ⟨go,N,hN,step⟩
 ·refine um hp (thn (T.done X rL rL rL hc i pz s3 σ3 H3 X.xe I3 (stat fr3) st3 stop) λr s4 ⟨hr,I4⟩=>?_)
  subst hr
  exact Wa ⟨σ3,H3,I4,qn⟩
 ·refine um hp (thn (T.item X rL rL rL hc i pz s3 σ3 H3 X.xe I3 (stat fr3) st3 go) λr s4 ⟨u,hr,h4⟩=>?_)
  subst hr
  refine um hp (thn h4 λ_ s5 ⟨x,H5,I5,r5,y5,st5,fr5⟩=>?_)
  have I5':=I5.pinned (stat fr5) (T.obj _ _ st5)
  refine um hp (thn (hg _ s5 σ3 H5 x u _ I5' r5 (step x H5 y5)) λ_ s6 ⟨σ6,H6,I6,q6⟩=>?_)
  refine um hp (thn (hb _ s6 σ6 H6 _ I6 q6) λf s7 q7=>?_)
  have again:∀{σ7:St}{H7:Hp},Inv X (pz++Xw fp s5.heap) σ7 H7 s7->N σ7 H7->∃m,m<n/\∃i σ' H',Inv X pz σ' H' s7/\tn i s7.heap/\(∀b∈fp,H' b=none)/\W i m σ' H':=λ{σ7 H7} I7 n7=>by
   obtain⟨m',hm,w7⟩:=hN σ7 H7 n7
   refine⟨m',hm,i+1,σ7,H7,I7.unpinned,T.keep _ _ _ st5 λb hb o e=>(I7.pin (b,o) (wq _ (wq _ (qG hb e)))).1,λb hb=>?_,w7⟩
   obtain⟨o,e,d⟩:=T.obj _ _ st5 b hb
   exact(I7.pin (b,o) (wq _ (wq _ (qG hb e)))).2.1
  cases f with
  |next=>obtain⟨σ7,H7,I7,n7⟩:=q7;exact again I7 n7
  |cont=>obtain⟨σ7,H7,I7,n7⟩:=q7;exact again I7 n7
  |brk=>obtain⟨σ7,H7,I7,q7⟩:=q7;exact⟨σ7,H7,I7.unpinned,q7⟩
  |ret v=>obtain⟨x7,σ7,H7,I7,r7,q7⟩:=q7;exact⟨x7,σ7,H7,I7.unpinned,r7,q7⟩
end
def QC {K:Fg}{a:Addr}{xs:List V}{g:TG}{tb:TS}{D:vd}{σ:St}{H:Hp}(Pv:Nat->St->Hp->Prop) (h0:Pv 0 σ H) (hl:∀i σ H,i<=xs.length->Pv i σ H->SqL K H a xs)
  (hs:∀i x σ H,xs[i]?=some x->Pv i σ H->g x σ H λσ2 H2=>tb { D with nx:=Pv (i+1),ct:=Pv (i+1),bk:=D.nx } σ2 H2) (hd:∀σ H,Pv xs.length σ H->D.nx σ H) :
  ∃W:Nat->Nat->St->Hp->Prop,(∃m,W 0 m σ H)/\∀i m σ H,W i m σ H →
   ((Itl K a).stop i H/\D.nx σ H)\/((Itl K a).go i H/\∃N:St->Hp->Prop,(∀σ' H',N σ' H'->∃m',m'<m/\W (i+1) m' σ' H')/\∀x H',(Itl K a).yld i H x H'->g x σ H' λσ2 H2=>tb { D with nx:=N,ct:=N,bk:=D.nx } σ2 H2):=by
 refine⟨λi m σ H=>m=xs.length-i/\i<=xs.length/\Pv i σ H,⟨xs.length,by simp,yu _,h0⟩,?_⟩
 rintro i m σ H ⟨rfl,hi,p⟩
 have q:=hl i σ H hi p
 by_cases hlt:i<xs.length
 ·refine .inr ⟨⟨xs,xs[i],q,by simp[hlt]⟩,Pv (i+1),λσ' H' p'=>⟨xs.length-(i+1),by lia,rfl,hlt,p'⟩,λx H' y=>?_⟩
  obtain⟨e,y⟩:=y
  subst e
  exact hs i x σ _ (y xs q) p
 ·have e:i=xs.length:=by lia
  subst e
  exact .inl ⟨⟨xs,q,wo _⟩,hd σ H p⟩
def zbo {K:Fg}{a:Addr}{xs:List V}{g:TG}{tb:TS}{D:vd}{σ:St}{H:Hp}(Pv:Nat->St->Hp->Prop) (h0:Pv 0 σ H) (hl:∀i σ H,i<=xs.length->Pv i σ H->SqT K H a xs)
  (hs:∀i x σ H,xs[i]?=some x->Pv i σ H->g x σ H λσ2 H2=>tb { D with nx:=Pv (i+1),ct:=Pv (i+1),bk:=D.nx } σ2 H2) (hd:∀σ H,Pv xs.length σ H->D.nx σ H) :
  ∃W:Nat->Nat->St->Hp->Prop,(∃m,W 0 m σ H)/\∀i m σ H,W i m σ H →
   ((Itt K a).stop i H/\D.nx σ H)\/((Itt K a).go i H/\∃N:St->Hp->Prop,(∀σ' H',N σ' H'->∃m',m'<m/\W (i+1) m' σ' H')/\∀x H',(Itt K a).yld i H x H'->g x σ H' λσ2 H2=>tb { D with nx:=N,ct:=N,bk:=D.nx } σ2 H2):=by
 refine⟨λi m σ H=>m=xs.length-i/\i<=xs.length/\Pv i σ H,⟨xs.length,by simp,yu _,h0⟩,?_⟩
 rintro i m σ H ⟨rfl,hi,p⟩
 have q:=hl i σ H hi p
 by_cases hlt:i<xs.length
 ·refine .inr ⟨⟨xs,xs[i],q,by simp[hlt]⟩,Pv (i+1),λσ' H' p'=>⟨xs.length-(i+1),by lia,rfl,hlt,p'⟩,λx H' y=>?_⟩
  obtain⟨e,y⟩:=y
  subst e
  exact hs i x σ _ (y xs q) p
 ·have e:i=xs.length:=by lia
  subst e
  exact .inl ⟨⟨xs,q,wo _⟩,hd σ H p⟩
def Xr {lo:Int}{n:Nat}{g:TG}{tb:TS}{D:vd}{σ:St}{H:Hp}(Pv:Nat->St->Hp->Prop) (h0:Pv 0 σ H)
  (hs:∀i σ H,i<n->Pv i σ H->g (.int (lo+i)) σ H λσ2 H2=>tb { D with nx:=Pv (i+1),ct:=Pv (i+1),bk:=D.nx } σ2 H2) (hd:∀σ H,Pv n σ H->D.nx σ H) :
  ∃W:Nat->Nat->St->Hp->Prop,(∃m,W 0 m σ H)/\∀i m σ H,W i m σ H →
   ((Itr lo n).stop i H/\D.nx σ H)\/((Itr lo n).go i H/\∃N:St->Hp->Prop,(∀σ' H',N σ' H'->∃m',m'<m/\W (i+1) m' σ' H')/\∀x H',(Itr lo n).yld i H x H'->g x σ H' λσ2 H2=>tb { D with nx:=N,ct:=N,bk:=D.nx } σ2 H2):=by
 refine⟨λi m σ H=>m=n-i/\i<=n/\Pv i σ H,⟨n,by simp,yu _,h0⟩,?_⟩
 rintro i m σ H ⟨rfl,hi,p⟩
 by_cases hlt:i<n
 ·refine .inr ⟨hlt,Pv (i+1),λσ' H' p'=>⟨n-(i+1),by lia,rfl,hlt,p'⟩,λx H' y=>?_⟩
  obtain⟨e,y⟩:=y
  subst e y
  exact hs i σ _ hlt p
 ·have e:i=n:=by lia
  subst e
  exact .inl ⟨wo _,hd σ H p⟩
def zaf {c:TT}{tb:TS}{D:vd}{σ:St}{H:Hp}(Pv:St->Hp->Prop) (μ:St->Hp->Nat) (h0:Pv σ H)
  (hs:∀σ H,Pv σ H->c σ H λb H1=>if b=true then tb { D with nx:=λσ' H'=>Pv σ' H'/\μ σ' H'<μ σ H,ct:=λσ' H'=>Pv σ' H'/\μ σ' H'<μ σ H,bk:=D.nx } σ H1 else D.nx σ H1)
  (mono:∀σ H Q Q',(∀b H1,Q b H1->Q' b H1)->c σ H Q->c σ H Q'):zeR c tb D σ H:=by
 refine⟨λm σ H=>m=μ σ H/\Pv σ H,⟨_,rL,h0⟩,?_⟩
 rintro m σ H ⟨rfl,p⟩
 refine mono σ H _ _ (λb H1 q=>?_) (hs σ H p)
 cases b with
 |true=>exact⟨_,λσ' H' ⟨p',l⟩=>⟨_,l,rfl,p'⟩,q⟩
 |false=>exact q
abbrev R2:=V->V->Hp->VK->Prop
def OpR (X:Cx) (f:Value->Value->Sem Value) (r:R2):Prop :=
 ∀(pz:List (Addr×Obj)) (s:Shared) (σ:St) (H:Hp) (x y:V) (v u:Value) (Q:VK),Inv X pz σ H s->xq x v->xq y u->r x y H Q →
  wpAny (model X.prog X.w) X.A (f v u) (EP X pz σ Q) X.xe s
def UnR (X:Cx) (f:Value->Sem Value) (r:V->Hp->VK->Prop):Prop :=
 ∀(pz:List (Addr×Obj)) (s:Shared) (σ:St) (H:Hp) (x:V) (v:Value) (Q:VK),Inv X pz σ H s->xq x v->r x H Q →
  wpAny (model X.prog X.w) X.A (f v) (EP X pz σ Q) X.xe s
def ZG (X:Cx) (f:Value) (r:List V->Hp->VK->Prop):Prop :=
 ∀(pz:List (Addr×Obj)) (s:Shared) (σ:St) (H:Hp) (xs:List V) (us:List Value) (Q:VK),Inv X pz σ H s->zY xs us->r xs H Q →
  wpAny (model X.prog X.w) X.A (call f us) (EP X pz σ Q) X.xe s
def TruR (X:Cx) (r:V->Hp->(Bool->Hp->Prop)->Prop):Prop :=
 ∀(pz:List (Addr×Obj)) (s:Shared) (σ:St) (H:Hp) (x:V) (v:Value) (Q:Bool->Hp->Prop),Inv X pz σ H s->xq x v->r x H Q →
  wpAny (model X.prog X.w) X.A (truthy v) (TP X pz σ Q) X.xe s
def tOp (r:R2) (ta tb:TE):TE:=λσ H Q=>ta σ H λx H1=>tb σ H1 λy H2=>r x y H2 Q
def tUn (r:V->Hp->VK->Prop) (ta:TE):TE:=λσ H Q=>ta σ H λx H1=>r x H1 Q
inductive rIQ (C:Int->Int->Prop) (g:Int->Int->V) (x:V) (y:V) (H:Hp) (Q:VK):Prop
 |mk:∀i j,(x=.int i)->(y=.int j)->(C i j)->(Q (g i j) H)->rIQ C g x y H Q
def rI (C:Int->Int->Prop) (g:Int->Int->V):R2:=λx y H Q=>rIQ C g x y H Q
inductive zkf (g:Int->Int->V) (x:V) (y:V) (H:Hp) (Q:VK):Prop
 |mk:∀i j,(x=.int i)->(y=.int j)->(Q (g i j) H)->zkf g x y H Q
def rI0 (g:Int->Int->V):R2:=λx y H Q=>zkf g x y H Q
def rU (g:Int->V):V->Hp->VK->Prop:=λx H Q=>∃i,x=.int i/\Q (g i) H
section
variable {X:Cx}{a b c:Expr}{ta tb tc:TE}{pos:Pos}
theorem zht (ha:PE X a ta) (hb:PE X b tb){pz:List (Addr×Obj)}{s:Shared}{σ:St}{H:Hp}{R:V->V->Hp->Prop}(I:Inv X pz σ H s)
  (h:ta σ H λx H1=>tb σ H1 λy H2=>R x y H2){Q:Value->Shared->Prop}{f:Value->Value->Sem Value}
  (hf:∀v u s2 x y H2,Inv X pz σ H2 s2->xq x v->xq y u->R x y H2->wpAny (model X.prog X.w) X.A (f v u) Q X.xe s2) :
  wpAny (model X.prog X.w) X.A (eval a X.env) (λv s₁=>wpAny (model X.prog X.w) X.A (eval b X.env) (λu s₂=>wpAny (model X.prog X.w) X.A (f v u) Q X.xe s₂) X.xe s₁) X.xe s:=by
 refine thn (ha pz s σ H _ I h) λv s1 ⟨x,H1,I1,r1,q1⟩=>?_
 refine thn (hb pz s1 σ H1 _ I1 q1) λu s2 ⟨y,H2,I2,r2,q2⟩=>?_
 exact hf v u s2 x y H2 I2 r1 r2 q2
theorem zE {op:Operator}{r:R2}(ho:OpR X (binaryOp op) r) (ha:PE X a ta) (hb:PE X b tb):PE X (.BinOp a op b pos) (tOp r ta tb):=by
 intro pz s σ H Q I h
 exact wpAny_BinOp (zht ha hb I h λv u s2 x y H2 I2 rx ry q=>ho pz s2 σ H2 x y v u Q I2 rx ry q)
theorem vL {op:UnaryOp}{r:V->Hp->VK->Prop}(ho:UnR X (unaryOp op) r) (ha:PE X a ta):PE X (.UnaryOp op a pos) (tUn r ta):=by
 intro pz s σ H Q I h
 exact UnaryOp_ (thn (ha pz s σ H _ I h) λv s1 ⟨x,H1,I1,r1,q1⟩=>ho pz s1 σ H1 x v Q I1 r1 q1)
theorem opI {f:Value->Value->Sem Value}{C:Int->Int->Prop}{g:Int->Int->Int}
  (rule:∀(i j:Int) (t u:Tok) (s:Shared) (Q:Value->Shared->Prop) (E:Value->Shared->Prop),C i j->Q (.int (g i j) s.toks) { s with toks:=s.toks+1 }->wpAny (model X.prog X.w) X.A (f (.int i t) (.int j u)) Q E s) :
  OpR X f (rI C λi j=>.int (g i j)):=by
 intro pz s σ H x y v u Q I rx ry h
 obtain⟨i,j,rfl,rfl,hc,q⟩:=h
 obtain⟨t,rfl⟩:=rx
 obtain⟨t',rfl⟩:=ry
 exact rule i j t t' s _ _ hc ⟨.int (g i j),H,I.tok _,⟨_,rL⟩,q⟩
theorem zkc {f:Value->Value->Sem Value}{g:Int->Int->Int}
  (rule:∀(i j:Int) (t u:Tok) (s:Shared) (Q:Value->Shared->Prop) (E:Value->Shared->Prop),Q (.int (g i j) s.toks) { s with toks:=s.toks+1 }->wpAny (model X.prog X.w) X.A (f (.int i t) (.int j u)) Q E s) :
  OpR X f (rI0 λi j=>.int (g i j)):=by
 intro pz s σ H x y v u Q I rx ry h
 obtain⟨i,j,rfl,rfl,q⟩:=h
 obtain⟨t,rfl⟩:=rx
 obtain⟨t',rfl⟩:=ry
 exact rule i j t t' s _ _ ⟨.int (g i j),H,I.tok _,⟨_,rL⟩,q⟩
theorem zkb {f:Value->Value->Sem Value}{g:Int->Int->Bool}
  (rule:∀(i j:Int) (t u:Tok) (s:Shared) (Q:Value->Shared->Prop) (E:Value->Shared->Prop),Q (.bool (g i j)) s->wpAny (model X.prog X.w) X.A (f (.int i t) (.int j u)) Q E s) :
  OpR X f (rI0 λi j=>.bl (g i j)):=by
 intro pz s σ H x y v u Q I rx ry h
 obtain⟨i,j,rfl,rfl,q⟩:=h
 obtain⟨t,rfl⟩:=rx
 obtain⟨t',rfl⟩:=ry
 exact rule i j t t' s _ _ ⟨.bl (g i j),H,I,rL,q⟩
def CDiv (i j:Int):Prop:=0<j/\j<1073741824
def CPow (i j:Int):Prop:=0<=j/\j<=1000000/\i.natAbs<2^64
def zhn (i j:Int):Prop:=(-(2^64)<i/\i<2^64)\/(-(2^64)<j/\j<2^64)
theorem zhn.ok {i j:Int}(h:zhn i j):IntMulOk i j:=by
 rcases h with⟨h1,h2⟩ | ⟨h1,h2⟩
 ·exact .of_left (intBits_le_64 h1 h2)
 ·exact .of_right (intBits_le_64 h1 h2)
theorem xk:OpR X (binaryOp .Add) (rI0 λi j=>.int (i+j)):=zkc λ_ _ _ _ _ _ _ q=>add_int q
theorem xA:OpR X (binaryOp .Sub) (rI0 λi j=>.int (i-j)):=zkc λ_ _ _ _ _ _ _ q=>sub_int q
theorem zaL:OpR X (binaryOp .Mult) (rI zhn λi j=>.int (i*j)):=opI λ_ _ _ _ _ _ _ hc q=>mul_int q hc.ok
theorem zbE:OpR X (binaryOp .FloorDiv) (rI CDiv λi j=>.int (i/j)):=opI λi j _ _ _ _ _ hc q=>by
 have h1:(0:Int)<j:=hc.1
 have h2:j<1073741824:=hc.2
 exact floordiv_int (by omega) (by rw[yk i (by omega)];exact q) (.inl (PyProof.noPylong_small (by omega)))
theorem vR:OpR X (binaryOp .Mod) (rI (λ_ j=>0<j) λi j=>.int (i % j)):=opI λi j _ _ _ _ _ hc q=>by
 exact mod_int' ∅ (by rw[Int.fmod_eq_emod_of_nonneg i ∅];exact q)
theorem Zf:OpR X (binaryOp .Pow) (rI CPow λi j=>.int (i^j.toNat)):=opI λ_ _ _ _ _ _ _ hc q=>pow_int_small hc.1 hc.2.1 hc.2.2 q
theorem unI {f:Value->Sem Value}{g:Int->Int}
  (rule:∀(i:Int) (t:Tok) (s:Shared) (Q:Value->Shared->Prop) (E:Value->Shared->Prop),Q (.int (g i) s.toks) { s with toks:=s.toks+1 }->wpAny (model X.prog X.w) X.A (f (.int i t)) Q E s) :
  UnR X f (rU λi=>.int (g i)):=by
 intro pz s σ H x v Q I rx h
 obtain⟨i,rfl,q⟩:=h
 obtain⟨t,rfl⟩:=rx
 exact rule i t s _ _ ⟨.int (g i),H,I.tok _,⟨_,rL⟩,q⟩
theorem qL:UnR X (unaryOp .USub) (rU λi=>.int (-i)):=unI λ_ _ _ _ _ q=>neg_int q
end
def zkx:V->V->Bool
 |.non,.non=>true | .non,.int _=>true | .int _,.non=>true | .non,.bl _=>true | .bl _,.non=>true | .non,.str _=>true | .str _,.non=>true
 |.int _,.int _=>true | .bl _,.bl _=>true | .str _,.str _=>true | .byt _,.byt _=>true
 |.int _,.str _=>true | .str _,.int _=>true | .bl _,.str _=>true | .str _,.bl _=>true
 |_,_=>false
def rEq:R2:=λx y H Q=>zkx x y=true/\Q (.bl (decide (x=y))) H
def rNe:R2:=λx y H Q=>zkx x y=true/\Q (.bl (!decide (x=y))) H
def zbj {i j:Int}:decide (V.int i=V.int j)=(i == j):=by
 rw[yr]
 simp
def zdm {i j:Bool}:decide (V.bl i=V.bl j)=(i == j):=by
 rw[yr]
 simp
def zbk {i j:Str}:decide (V.str i=V.str j)=(i == j):=by
 rw[yr]
 simp
def zbi {i j:Array UInt8}:decide (V.byt i=V.byt j)=(i.toList == j.toList):=by
 rw[yr]
 cases i
 cases j
 simp
section
variable {X:Cx}{a b c:Expr}{ta tb tc:TE}{pos:Pos}
theorem xo {pz:List (Addr×Obj)}{σ:St}{H:Hp}{s:Shared}{Q:VK}{k k':Bool}(I:Inv X pz σ H s) (q:Q (.bl k) H) (e:k=k'):EP X pz σ Q (.bool k') s:=by
 subst e
 exact⟨.bl k,H,I,rL,q⟩
theorem x8:OpR X (compareOp .Eq) rEq:=by
 intro pz s σ H x y v u Q I rx ry h
 obtain⟨hs,q⟩:=h
 cases x with
 |non =>
  cases rx
  cases y with
  |non=>cases ry;exact PySem.EqNone.eq_none_none (xo I q (by simp))
  |bl j=>cases ry;exact PySem.EqNone.eq_none_bool (xo I q (by simp))
  |int j=>obtain⟨t',rfl⟩:=ry;exact PySem.EqNone.eq_none_int (xo I q (by simp))
  |str j=>obtain⟨t',rfl⟩:=ry;exact PySem.EqNone.eq_none_str (xo I q (by simp))
  |_=>exact absurd (show false=true from hs) wL
 |bl i =>
  cases rx
  cases y with
  |non=>cases ry;exact PySem.EqNone.eq_bool_none (xo I q (by simp))
  |bl j=>cases ry;exact eq_bool (xo I q zdm)
  |str j=>obtain⟨t',rfl⟩:=ry;exact PySem.EqMixed.eq_bool_str (xo I q (by simp))
  |_=>exact absurd (show false=true from hs) wL
 |int i =>
  obtain⟨t,rfl⟩:=rx
  cases y with
  |non=>cases ry;exact PySem.EqNone.eq_int_none (xo I q (by simp))
  |int j=>obtain⟨t',rfl⟩:=ry;exact eq_int (xo I q zbj)
  |str j=>obtain⟨t',rfl⟩:=ry;exact PySem.EqMixed.eq_int_str (xo I q (by simp))
  |_=>exact absurd (show false=true from hs) wL
 |str i =>
  obtain⟨t,rfl⟩:=rx
  cases y with
  |non=>cases ry;exact PySem.EqNone.eq_str_none (xo I q (by simp))
  |bl j=>cases ry;exact PySem.EqMixed.eq_str_bool (xo I q (by simp))
  |int j=>obtain⟨t',rfl⟩:=ry;exact PySem.EqMixed.eq_str_int (xo I q (by simp))
  |str j=>obtain⟨t',rfl⟩:=ry;exact eq_str (xo I q zbk)
  |_=>exact absurd (show false=true from hs) wL
 |byt i =>
  obtain⟨t,rfl⟩:=rx
  cases y with
  |byt j=>obtain⟨t',rfl⟩:=ry;exact PySem.W.eq_bytes (xo I q zbi)
  |_=>exact absurd (show false=true from hs) wL
 |_=>cases y <;> exact absurd (show false=true from hs) wL
theorem zd1:OpR X (compareOp .NotEq) rNe:=by
 intro pz s σ H x y v u Q I rx ry h
 obtain⟨hs,q⟩:=h
 cases x with
 |non =>
  cases rx
  cases y with
  |non=>cases ry;exact PySem.EqNone.ne_none_none (xo I q (by simp))
  |bl j=>cases ry;exact PySem.EqNone.ne_none_bool (xo I q (by simp))
  |int j=>obtain⟨t',rfl⟩:=ry;exact PySem.EqNone.ne_none_int (xo I q (by simp))
  |str j=>obtain⟨t',rfl⟩:=ry;exact PySem.EqNone.ne_none_str (xo I q (by simp))
  |_=>exact absurd (show false=true from hs) wL
 |bl i =>
  cases rx
  cases y with
  |non=>cases ry;exact PySem.EqNone.ne_bool_none (xo I q (by simp))
  |bl j=>cases ry;exact ne_bool (xo I q (congrArg not zdm))
  |str j=>obtain⟨t',rfl⟩:=ry;exact PySem.EqMixed.ne_bool_str (xo I q (by simp))
  |_=>exact absurd (show false=true from hs) wL
 |int i =>
  obtain⟨t,rfl⟩:=rx
  cases y with
  |non=>cases ry;exact PySem.EqNone.ne_int_none (xo I q (by simp))
  |int j=>obtain⟨t',rfl⟩:=ry;exact ne_int (xo I q (congrArg not zbj))
  |str j=>obtain⟨t',rfl⟩:=ry;exact PySem.EqMixed.ne_int_str (xo I q (by simp))
  |_=>exact absurd (show false=true from hs) wL
 |str i =>
  obtain⟨t,rfl⟩:=rx
  cases y with
  |non=>cases ry;exact PySem.EqNone.ne_str_none (xo I q (by simp))
  |bl j=>cases ry;exact PySem.EqMixed.ne_str_bool (xo I q (by simp))
  |int j=>obtain⟨t',rfl⟩:=ry;exact PySem.EqMixed.ne_str_int (xo I q (by simp))
  |str j=>obtain⟨t',rfl⟩:=ry;exact ne_str (xo I q (congrArg not zbk))
  |_=>exact absurd (show false=true from hs) wL
 |byt i =>
  obtain⟨t,rfl⟩:=rx
  cases y with
  |byt j=>obtain⟨t',rfl⟩:=ry;exact PySem.W.ne_bytes (xo I q (congrArg not zbi))
  |_=>exact absurd (show false=true from hs) wL
 |_=>cases y <;> exact absurd (show false=true from hs) wL
theorem QL:OpR X (compareOp .Lt) (rI0 λi j=>.bl (decide (i<j))):=zkb λ_ _ _ _ _ _ _ q=>lt_int q
theorem X0:OpR X (compareOp .Gt) (rI0 λi j=>.bl (decide (j<i))):=zkb λ_ _ _ _ _ _ _ q=>gt_int q
theorem qH:OpR X (compareOp .Is) (λx y H Q=>y=.non/\Q (.bl (decide (x=.non))) H):=by
 intro pz s σ H x y v u Q I rx ry h
 obtain⟨rfl,q⟩:=h
 cases ry
 refine is_none_gen (xo I q ?_)
 cases x <;> first
  | (cases rx;rfl)
  | (obtain⟨t,rfl⟩:=rx;rfl)
theorem qM:OpR X (compareOp .IsNot) (λx y H Q=>y=.non/\Q (.bl (!decide (x=.non))) H):=by
 intro pz s σ H x y v u Q I rx ry h
 obtain⟨rfl,q⟩:=h
 cases ry
 refine isnot_none_gen (xo I q ?_)
 cases x <;> first
  | (cases rx;rfl)
  | (obtain⟨t,rfl⟩:=rx;rfl)
theorem zN (b:Expr){op:CmpOp}(h:op≠.In:=by decide) (h2:op≠.NotIn:=by decide):behindInMarks op b=false:=by
 have e1:(op == CmpOp.In)=false:=by cases op <;> first | rfl | exact absurd rfl h
 have e2:(op == CmpOp.NotIn)=false:=by cases op <;> first | rfl | exact absurd rfl h2
 cases b <;> simp[behindInMarks,e1,e2]
theorem vq {op:CmpOp}{r:R2}(ho:OpR X (compareOp op) r) (ha:PE X a ta) (hb:PE X b tb) (hm:behindInMarks op b=false):PE X (.Compare a [op] [b] pos) (tOp r ta tb):=by
 intro pz s σ H Q I h
 exact wpAny_Compare1 (zht ha hb I h λv u s2 x y H2 I2 rx ry q=>ho pz s2 σ H2 x y v u Q I2 rx ry q) hm
def zkO (t:TE):TT:=λσ H Q=>t σ H λx H'=>∃k,x=.bl k/\Q k H'
theorem zJ {op:CmpOp}{r:R2}(ho:OpR X (compareOp op) r) (ha:PE X a ta) (hb:PE X b tb) (hm:behindInMarks op b=false):PT X (.Compare a [op] [b] pos) (zkO (tOp r ta tb)):=by
 intro pz s σ H Q I h
 refine wpAny_isTrue_Compare1 (thn (ha pz s σ H _ I h) λv s1 ⟨x,H1,I1,r1,q1⟩=>thn (hb pz s1 σ H1 _ I1 q1) λu s2 ⟨y,H2,I2,r2,q2⟩ =>
  thn (ho pz s2 σ H2 x y v u _ I2 r1 r2 q2) λc s3 ⟨z,H3,I3,r3,k,e,q3⟩=>?_) hm
 subst e
 cases r3
 exact Wi ⟨H3,I3,q3⟩
def zjd (K:Fg) (x:V) (H:Hp) (k:Bool):Prop :=
 match x with
 |.non=>k=false
 |.bl b=>k=b
 |.int i=>k=(i != 0)
 |.str y=>y.length<=sizeLine/\k=((y.length:Int) != 0)
 |.byt y=>y.size<=sizeLine/\k=((y.size:Int) != 0)
 |.ref p=>(∃xs,SqL K H p xs/\k = !xs.isEmpty)\/(∃xs,SqT K H p xs/\k = !xs.isEmpty)\/∃kvs,H p=some (.dK kvs)/\k = !kvs.isEmpty
 |_=>False
theorem zax {κ:Type}{kvs:List (κ×V)}{vs:List (κ×Value)} (r:KV kvs vs):(!vs.isEmpty) = !kvs.isEmpty:=by
 cases r <;> rfl
theorem QE {xs:List V}{its:List Value}(r:zY xs its):(!its.toArray.isEmpty) = !xs.isEmpty:=by
 cases r <;> simp
theorem VY:(sizeLine:Nat)<2^63:=by rw[sizeLine_eq];decide
theorem zi2:TruR X (λx H Q=>∃k,zjd X.K x H k/\Q k H):=by
 intro pz s σ H x v Q I rx h
 obtain⟨k,e,q⟩:=h
 have hs:sizeLine=16777216:=sizeLine_eq
 cases x with
 |non =>
  cases rx
  have e':k=false:=e
  subst e'
  exact truthy_none ⟨H,I,q⟩
 |bl b =>
  cases rx
  have e':k=b:=e
  subst e'
  exact Wi ⟨H,I,q⟩
 |int i =>
  obtain⟨t,rfl⟩:=rx
  have e':k=(i != 0):=e
  subst e'
  exact PySem.P.truthy_int ⟨H,I,q⟩
 |str y =>
  obtain⟨t,rfl⟩:=rx
  obtain⟨hy,e'⟩:y.length<=sizeLine/\k=((y.length:Int) != 0):=e
  subst e'
  exact PySem.P.truthy_str ∅ ⟨H,I.tok _,q⟩
 |byt y =>
  obtain⟨t,rfl⟩:=rx
  obtain⟨hy,e'⟩:y.size<=sizeLine/\k=((y.size:Int) != 0):=e
  subst e'
  exact PySem.W.truthy_bytes ∅ ⟨H,I.tok _,q⟩
 |ref p =>
  cases rx
  have e':(∃xs,SqL X.K H p xs/\k = !xs.isEmpty)\/(∃xs,SqT X.K H p xs/\k = !xs.isEmpty)\/∃kvs,H p=some (.dK kvs)/\k = !kvs.isEmpty:=e
  rcases e' with⟨xs,hx,e'⟩ | ⟨xs,hx,e'⟩ | ⟨kvs,hx,e'⟩
  ·subst e'
   obtain⟨its,r,pl,hz⟩:=I.list hx
   have hlen:=r.length
   exact wpAny_truthy_list pl.isList (by simp only[wy];lia) ⟨H,I.tok _,by rw[QE r];exact q⟩
  ·subst e'
   obtain⟨its,r,pl,hz⟩:=I.tuple hx
   have hlen:=r.length
   exact truthy_tuple pl (by simp only[wy];lia) ⟨H,I.tok _,by rw[QE r];exact q⟩
  ·subst e'
   obtain⟨hz,hS,vs,r,m⟩:kvs.length<=sizeLine/\(p == sysModules)=false/\∃vs,KV kvs vs/\s.heap.DictOf (xX X.prog X.w) p vs:=I.hok p _ hx
   have hlen:kvs.length=vs.length:=Paired.length r
   exact wpAny_truthy_dict hS m ∅ ⟨H,I.tok _,by rw[zax r];exact q⟩
 |_=>exact(show False from e).elim
theorem qy (ha:PE X a ta) (he:∀whole,isTrue a X.env whole=(do let v <-whole;standAt a.pos;holding [v] (truthy v))) :
  PT X a (λσ H Q=>ta σ H λx H'=>∃k,zjd X.K x H' k/\Q k H'):=by
 intro pz s σ H Q I h
 exact isTrue_plain (thn (ha pz s σ H _ I h) λv s1 ⟨x,H1,I1,r1,q1⟩=>zi2 pz s1 σ H1 x v Q I1 r1 q1) (he _)
theorem Xi {x:V}{us:List Value}(r:zY [x] us):∃u,us=[u]/\xq x u:=by
 cases r with
 |cons r1 r2=>cases r2;exact⟨_,rfl,r1⟩
theorem zad {x y:V}{us:List Value}(r:zY [x,y] us):∃u w',us=[u,w']/\xq x u/\xq y w':=by
 cases r with
 |cons r1 r2 =>
  cases r2 with
  |cons r3 r4=>cases r4;exact⟨_,_,rfl,r1,r3⟩
theorem Z7:ZG X (.builtin "abs") (λxs H Q=>∃i,xs=[.int i]/\Q (.int (if i<0 then -i else i)) H):=by
 intro pz s σ H xs us Q I r h
 obtain⟨i,rfl,q⟩:=h
 obtain⟨u,rfl,t,rfl⟩:=Xi r
 exact call_abs_int λu tk=>⟨.int (if i<0 then -i else i),H,I.tok _,⟨_,rL⟩,q⟩
theorem zcm (hc:X.calm=true):ZG X (.builtin "max") (λxs H Q=>∃i j,xs=[.int i,.int j]/\Q (.int (if j>i then j else i)) H):=by
 intro pz s σ H xs us Q I r h
 obtain⟨i,j,rfl,q⟩:=h
 obtain⟨u,w',rfl,⟨t,rfl⟩,⟨t',rfl⟩⟩:=zad r
 refine max_two_ints (I.ok.hd hc) λh' tk k=>⟨_,H,I.kept k,?_,q⟩
 by_cases hj:j>i
 ·rw[if_pos hj,if_pos hj];exact⟨_,rfl⟩
 ·rw[if_neg hj,if_neg hj];exact⟨_,rfl⟩
theorem zcl:ZG X (.type "int") (λxs H Q=>(∃i,xs=[.int i]/\Q (.int i) H)\/∃k,xs=[.bl k]/\Q (.int (if k then 1 else 0)) H):=by
 intro pz s σ H xs us Q I r h
 rcases h with⟨i,rfl,q⟩ | ⟨k,rfl,q⟩
 ·obtain⟨u,rfl,t,rfl⟩:=Xi r
  exact call_int_int ⟨.int i,H,I,⟨_,rL⟩,q⟩
 ·obtain⟨u,rfl,r1⟩:=Xi r
  cases r1
  exact call_int_bool ⟨.int (if k then 1 else 0),H,I.tok _,⟨_,rL⟩,q⟩
end
structure zcf (h:Heap) (x dx C:Addr) (mA:Str->Option Value):Prop where
 obj:h.get? x=some (PySem.W.instObj C dx)
 ns:h.Ns1 dx mA
 ne:dx≠x
def zcC {h:Heap}{dx:Addr}{mA:Str->Option Value}(n:h.Ns1 dx mA):∃od,h.get? dx=some od/\∀name,PySem.W.lookIn name od=some (mA name):=by
 obtain⟨o,es,ep,ho,hd,hk,_,hm⟩:=n
 refine⟨o,ho,λname=>?_⟩
 have e:=hm name
 unfold nsFind findBy at e
 rw[<-Array.find?_toList]at e
 unfold PySem.W.lookIn
 rw[hd]
 nofun
 split
 ·rename_i y q
  rw[q]at e
  exact congrArg some e
 ·rename_i q
  rw[q]at e
  have a:es.toList.any (·.refKey)=false:=by
   rw[List.any_eq_false]
   intro y hy
   obtain⟨z,t,hkey⟩:=hk y (Array.mem_toList_iff.mp hy)
   simp[DictEntry.refKey,hkey]
  have a':¬es.toList.any (·.refKey)=true:=by rw[a];exact wL
  rw[if_neg a']
  exact congrArg some e
def zcf.look {h:Heap}{x dx C:Addr}{mA:Str->Option Value}(I:zcf h x dx C mA):∃od,PySem.W.InstAt h x (PySem.W.instObj C dx) C (some od)/\∀name,PySem.W.lookIn name od=some (mA name) :=
 let ⟨od,ho,hl⟩:=zcC I.ns
 ⟨od,⟨I.obj,rfl,rfl,ho⟩,hl⟩
section
variable {prog:Program}{w:World}{A:Around}{E:Value->Shared->Prop}{s:Shared}{K:Fg}{x dx C f:Addr}{mA:Str->Option Value}{name:Str}{v:Value}
theorem zfk {expr:Bool}{Q:Value->Shared->Prop}(X:K.In s.heap) (I:zcf s.heap x dx C mA) (hg:PySem.W.plainGet K C name=true) (hh:PySem.W.hasDictIn K C=true)
  (ha:PySem.W.findIn K (.ref C) name=some none) (hv:mA name=some v) (hv':PySem.W.handedIn v=true) (h:Q v { s with toks:=s.toks+1 }) :
  wpAny (model prog w) A (getAttr (.ref x) name expr) Q E s:=by
 obtain⟨od,J,hl⟩:=I.look
 exact PySem.W.get_value X J (PySem.W.plainGet_of hg).1 (PySem.W.findObj_own hh ha rfl (by rw[hl,hv])) hv' h
theorem zge {ns:List Str}{Q:Unit->Shared->Prop}(X:K.In s.heap) (I:zcf s.heap x dx C mA)
  (hs:PySem.W.findIn K (.ref C) "__setattr__" = some (some (.builtin "object.__setattr__"))) (hp:PySem.W.plainOver K C=true) (ht:PySem.W.takerIn K C name=some none) (hh:PySem.W.hasDictIn K C=true)
  (hw:PySem.Within mA ns) (hsz:ns.length<=sizeLine)
  (h:∀h',zcf h' x dx C (λy=>if y=name then some v else mA y)->Heap.SameBut dx s.heap h'->Q () { s with heap:=h',toks:=s.toks+2 }) :
  wpAny (model prog w) A (setAttr (.ref x) name v) Q E s:=by
 obtain⟨od,J,hl⟩:=I.look
 refine PySem.W.set_plain X J hs (PySem.W.osa_open (s:={ s with toks:=s.toks+1 }) (r:=none) X J hp ht λb=>?_)
 obtain⟨cd,hc,hd'⟩:=PySem.W.any_some hh
 have hx:s.heap.get? x=some ⟨.ref C,some dx,.plain,#[]⟩:=I.obj
 refine wc (wj (wc (wc (wpAny_loadPart hx (wc (PySem.W.Looks.here (s:={ s with toks:=s.toks+1 }) (PySem.W.looks_clsIn X hc) ?_))))))
 rw[hd']
 refine wj (a:=some dx) (wc (wj (wc ?_)))
 refine wpAny_nsSet1 (s:={ s with toks:=s.toks+1 }) I.ns λh' hn2 hs2=>?_
 obtain⟨oD,esD,epD,hoD,hdD,hcD⟩:=hn2.count (PySem.Within.cons name v hw)
 refine wc (wpAny_lookBehind hoD (by rw[hdD];exact pastItsLine_dict (wV hcD (by rw[wJ];lia))) ?_)
 exact wj (h _ ⟨(hs2.2 _ (Ne.symm I.ne)).trans I.obj,hn2,I.ne⟩ hs2)
theorem zdQ {R:Result->Shared->Prop}{vs:List Value}{kw:List (Str×Value)} (X:K.In s.heap) (hm:PySem.W.makesIn K C=true)
  (hi:PySem.W.findIn K (.ref C) "__init__" = some (some (.ref f))) (hf:PySem.W.typeIn K (.ref f)=some (.type "function"))
  (h:codeAny (model prog w) (A.under (.builtin "type.__call__" ⟨.ref C::vs,kw⟩)) (.call (.ref f) ⟨.ref (s.heap.objs.size+1)::vs,kw⟩) (PySem.W.InitBack (s.heap.objs.size+1) R)
   { s with heap:=(s.heap.push PySem.W.emptyDict).push (PySem.W.instObj C s.heap.objs.size) }) :
  codeAny (model prog w) A (.call (.ref C) ⟨vs,kw⟩) R s:=by
 obtain⟨hh,g,d,t,os⟩:=s
 exact PySem.W.make_core (PySem.W.makes_of X hm) (PySem.W.looks_findIn X hi) (λself=>PySem.W.bind_fn X self hf) (.inl rL) h
end
def xM (f:Str) (v:V):List (Str×V)->List (Str×V)
 |[]=>[(f,v)]
 | (g,x)::r=>if g=f then(g,v)::r else(g,x)::xM f v r
def xv (f g:Str) (v:V):∀fs:List (Str×V),(xM f v fs).lookup g=if g=f then some v else fs.lookup g
 |[]=>by
  show List.lookup g [(f,v)]=_
  by_cases h:g=f
  ·have hb:(g == f)=true:=beq_iff_eq.mpr h
   simp only[List.lookup,hb,if_pos h]
  ·have hb:(g == f)=false:=beq_eq_false_iff_ne.mpr h
   simp only[List.lookup,hb,if_neg h]
 | (k,x)::r=>by
  have ih:=xv f g v r
  rw[show xM f v ((k,x)::r)=(if k=f then(k,v)::r else(k,x)::xM f v r)from rfl]
  by_cases hk:k=f
  ·rw[if_pos hk]
   by_cases h:g=k
   ·have hb:(g == k)=true:=beq_iff_eq.mpr h
    simp only[List.lookup,hb,if_pos (h.trans hk)]
   ·have hb:(g == k)=false:=beq_eq_false_iff_ne.mpr h
    simp only[List.lookup,hb,if_neg (λe:g=f=>h (e.trans hk.symm))]
  ·rw[if_neg hk]
   by_cases h:g=k
   ·have hb:(g == k)=true:=beq_iff_eq.mpr h
    simp only[List.lookup,hb,if_neg (λe:g=f=>hk (h.symm.trans e))]
   ·have hb:(g == k)=false:=beq_eq_false_iff_ne.mpr h
    simp only[List.lookup,hb]
    exact ih
def Xs (f:Str) (v:V):∀fs:List (Str×V),f∈(xM f v fs).map (·.1)/\∀g,g∈fs.map (·.1)->g∈(xM f v fs).map (·.1)
 |[]=>⟨by simp[xM],λg h=>by simp at h⟩
 | (k,x)::r=>by
  obtain⟨i1,i2⟩:=Xs f v r
  rw[show xM f v ((k,x)::r)=(if k=f then(k,v)::r else(k,x)::xM f v r)from rfl]
  by_cases hk:k=f
  ·rw[if_pos hk]
   subst hk
   exact⟨by simp,λg h=>↥h⟩
  ·rw[if_neg hk]
   refine⟨?_,λg h=>?_⟩
   ·rw[yw]
    exact wR _ i1
   ·rw[yw]at h ⊢
    rcases ww.mp h with e | e
    ·exact ww.mpr (.inl e)
    ·exact wR _ (i2 g e)
def XY (f:Str) (v:V):∀fs:List (Str×V),(xM f v fs).length<=fs.length+1
 |[]=>by simp[xM]
 | (k,x)::r=>by
  have ih:=XY f v r
  rw[show xM f v ((k,x)::r)=(if k=f then(k,v)::r else(k,x)::xM f v r)from rfl]
  by_cases hk:k=f
  ·rw[if_pos hk,wJ,wJ];lia
  ·rw[if_neg hk,wJ,wJ];lia
def Xl.some_of {v:V}{o:Option Value}(r:Xl (some v) o):∃u,o=some u/\xq v u:=by
 cases o with
 |none=>exact(show False from r).elim
 |some u=>exact⟨u,rfl,r⟩
def zct {v:V}{u:Value}(r:xq v u):PySem.W.handedIn u=true:=by
 cases v with
 |non=>cases(show u=Value.none from r);rfl
 |bl b=>cases(show u=Value.bool b from r);rfl
 |int i=>obtain⟨t,e⟩:=(show ∃t,u=Value.int i t from r);cases e;rfl
 |str x=>obtain⟨t,e⟩:=(show ∃t,u=Value.str x t from r);cases e;rfl
 |byt b=>obtain⟨t,e⟩:=(show ∃t,u=Value.bytes b t from r);cases e;rfl
 |flt b=>obtain⟨t,e⟩:=(show ∃t,u=Value.float b t from r);cases e;rfl
 |ref a=>cases(show u=Value.ref a from r);rfl
 |ty n=>cases(show u=Value.type n from r);rfl
section
variable {P:Program}{w:World}{H H':Hp}{h h':Heap}{a C dx:Addr}{fs fs':List (Str×V)}
theorem VT (hok:HOk P w H h) (e:H a=some (.ins C dx fs)):∃mA,zcf h a dx C mA/\(∀f,Xl (fs.lookup f) (mA f))/\PySem.Within mA (fs.map (·.1))/\fs.length<=1000/\H dx=some (.own a):=by
 obtain⟨d,z,ne,ob,mA,n,r,q⟩:=(show xu P w H h a (.ins C dx fs)from hok a _ e)
 exact⟨mA,⟨ob,n,ne⟩,r,q,z,d⟩
end
structure Cls (K:Fg) (C:Addr):Prop where
 pg:PySem.W.plainGet K C Str.empty=true
 hd:PySem.W.hasDictIn K C=true
 po:PySem.W.plainOver K C=true
 sa:PySem.W.findIn K (.ref C) "__setattr__" = some (some (.builtin "object.__setattr__"))
def Cls.get {K:Fg}{C:Addr}(c:Cls K C) (f:Str):PySem.W.plainGet K C f=true:=c.pg
def xJ (K:Fg) (C:Addr) (f:Str):Prop:=PySem.W.findIn K (.ref C) f=some none
def xJ.taker {K:Fg}{C:Addr}{f:Str}(n:xJ K C f):PySem.W.takerIn K C f=some none:=by
 unfold PySem.W.takerIn
 rw[show PySem.W.findIn K (.ref C) f=some none from n]
 rfl
section
variable {X:Cx}{pz:List (Addr×Obj)}{σ:St}{H:Hp}{s:Shared}{a C dx:Addr}{fs:List (Str×V)}{f:Str}{v:V}{A:Around}{E:Value->Shared->Prop}
theorem QD {b:Bool}{Q:Value->Shared->Prop}(I:Inv X pz σ H s) (e:H a=some (.ins C dx fs)) (c:Cls X.K C) (n:xJ X.K C f) (l:fs.lookup f=some v)
  (h:∀u s',Inv X pz σ H s'->xq v u->Q u s'):wpAny (model X.prog X.w) A (getAttr (.ref a) f b) Q E s:=by
 obtain⟨mA,O,r,_,_,_⟩:=VT I.hok e
 obtain⟨u,hu,ru⟩:=Xl.some_of (v:=v) (o:=mA f) (by rw[<-l];exact r f)
 exact zfk I.kIn O (c.get f) c.hd n hu (zct ru) (h u _ (I.tok _) ru)
theorem Va {y:V}{u:Value}{Q:Unit->Shared->Prop}(I:Inv X pz σ H s) (e:H a=some (.ins C dx fs)) (c:Cls X.K C) (n:xJ X.K C f) (hl:fs.length<1000) (ry:xq y u)
  (h:∀s',Inv X pz σ (upd H a (.ins C dx (xM f y fs))) s'->Q () s'):wpAny (model X.prog X.w) A (setAttr (.ref a) f u) Q E s:=by
 obtain⟨mA,O,r,wi,_,ho⟩:=VT I.hok e
 have hz:(fs.map (·.1)).length<=sizeLine:=by rw[wf,sizeLine_eq];lia
 refine zge I.kIn O c.sa c.po n.taker c.hd wi hz λh' O' sb=>h _ ?_
 have hd:∃o,h'.get? dx=some o:=let ⟨o,_,_,e',_⟩:=O'.ns;⟨o,e'⟩
 refine I.write (x:=a) (e:=dx) (by rw[e];exact True.intro) (.inr ho) (λb q hb z=>(sb.2 b hb).trans z) hd ?_
 refine⟨by rw[zF O.ne];exact ho,?_,O.ne,O'.obj,_,O'.ns,λg=>?_,λg hg=>?_⟩
 ·have:=XY f y fs;lia
 ·show Xl ((xM f y fs).lookup g) (if g=f then some u else mA g)
  rw[xv]
  by_cases q:g=f
  ·rw[if_pos q,if_pos q];exact ry
  ·rw[if_neg q,if_neg q];exact r g
 ·by_cases q:g=f
  ·rw[q];exact(Xs f y fs).1
  ·refine(Xs f y fs).2 g (wi g λz=>hg ?_)
   show (if g=f then some u else mA g)=none
   rw[if_neg q];exact z
theorem Inv.made (I:Inv X pz σ H s):Inv X pz σ (upd (upd H s.heap.objs.size (.own (s.heap.objs.size+1))) (s.heap.objs.size+1) (.ins C s.heap.objs.size []))
  { s with heap:=(s.heap.push PySem.W.emptyDict).push (PySem.W.instObj C s.heap.objs.size) }:=by
 have e1:(s.heap.push PySem.W.emptyDict).get? s.heap.objs.size=some PySem.W.emptyDict:=wu s.heap rfl
 have e2:((s.heap.push PySem.W.emptyDict).push (PySem.W.instObj C s.heap.objs.size)).get? (s.heap.objs.size+1)=some (PySem.W.instObj C s.heap.objs.size):=by
  have:=wu (s.heap.push PySem.W.emptyDict) (o:=PySem.W.instObj C s.heap.objs.size) rfl
  rwa [yj]at this
 have e3:(s.heap.push PySem.W.emptyDict).Ns s.heap.objs.size (λ_=>none):=⟨PySem.W.emptyDict,#[],_,e1,rfl,(λe he=>absurd he (by simp)),λ_=>rfl⟩
 have I1:=I.laid (a:=s.heap.objs.size) (o:=.own (s.heap.objs.size+1)) (h':=s.heap.push PySem.W.emptyDict) (t':=s.toks) (λb u q=>we _ q) (wo _) ⟨_,e1⟩
 refine I1.laid (a:=s.heap.objs.size+1) (o:=.ins C s.heap.objs.size []) (t':=s.toks) (λb u q=>we _ q) (WM (yj _ _)) ?_
 have ne:s.heap.objs.size≠s.heap.objs.size+1:=wN (Nat.lt_succ_self _)
 refine⟨by rw[zF ne,zg],yu _,ne,e2,λ_=>none,(Heap.Ns1.of_empty e3).at λo q=>we _ q,λ_=>True.intro,λy hy=>absurd rfl hy⟩
theorem zfb {prog:Program}{w:World}{env:Env}{e:Expr}{f:Str}{pos:Pos}{s:Shared}{Q:Value->Shared->Prop}(hb:attributeBase e f env (eval e env)=eval e env)
  (h:wpAny (model prog w) A (eval e env) (λo s₁=>wpAny (model prog w) A (getAttr o f true) Q E s₁) E s):wpAny (model prog w) A (eval (.Attribute e f pos) env) Q E s :=
 Attribute_any_ h (by rw[arm_eval_Attribute,hb])
end
inductive zhf (K:Fg) (f:Str) (Q:VK) (x:V) (H1:Hp):Prop
 |mk:∀a C dx fs v,(x=.ref a)->(H1 a=some (.ins C dx fs))->(Cls K C)->(xJ K C f)->(fs.lookup f=some v)->(Q v H1)->zhf K f Q x H1
def tFld (K:Fg) (ta:TE) (f:Str):TE:=λσ H Q=>ta σ H λx H1=>zhf K f Q x H1
def ziq (K:Fg) (ta tv:TE) (f:Str):TS:=λD σ H=>tv σ H λy H1=>ta σ H1 λx H2=>∃a C dx fs,x=.ref a/\H2 a=some (.ins C dx fs)/\Cls K C/\xJ K C f/\fs.length<1000 ∧
 D.nx σ (upd H2 a (.ins C dx (xM f y fs)))
def zi9 (X:Cx) (op:Operator) (rd:V->V->Hp->VK->Prop):Prop :=
 ∀(pz:List (Addr×Obj)) (s:Shared) (σ:St) (H:Hp) (x y:V) (u v:Value) (Q:VK),Inv X pz σ H s->xq x u->xq y v->rd x y H Q->wpAny (model X.prog X.w) X.A (inplaceOp op u v) (EP X pz σ Q) X.xe s
def zf1 (K:Fg) (ta tv:TE) (rd:V->V->Hp->VK->Prop) (f:Str):TS:=λD σ H=>ta σ H λx H1=>∃a C dx fs v,x=.ref a/\H1 a=some (.ins C dx fs)/\Cls K C/\xJ K C f/\fs.lookup f=some v ∧
 tv σ H1 λy H2=>rd v y H2 λz H3=>∃dx' fs',H3 a=some (.ins C dx' fs')/\fs'.length<1000/\D.nx σ (upd H3 a (.ins C dx' (xM f z fs')))
section
variable {X:Cx}{o e value:Expr}{f:Str}{pos pos' tpos:Pos}{ta tv:TE}
theorem xm (he:PE X e ta) (hb:attributeBase e f X.env (eval e X.env)=eval e X.env):PE X (.Attribute e f pos) (tFld X.K ta f):=by
 intro pz s σ H Q I h
 refine zfb hb (thn (he pz s σ H _ I h) λu s1 ⟨x,H1,I1,rx,a,C,dx,fs,v,ex,ea,c,n,l,q⟩=>?_)
 subst ex
 obtain rfl:u=Value.ref a:=rx
 exact QD I1 ea c n l λu' s2 I2 ru=>⟨v,H1,I2,ru,q⟩
theorem vw (ha:PE X o ta) (hv:PE X value tv) (hs:swapsWith value (some (.Attribute o f pos')) pos.line X.env=pure false):PS X (.Assign [.Attribute o f pos'] value pos) (ziq X.K ta tv f):=by
 intro pz s σ H D I h
 refine plainObj_wpAny_Assign_Attribute (thn (hv pz s σ H _ I h) λu s1 ⟨y,H1,I1,ry,q⟩=>thn (ha pz s1 σ H1 _ I1 q) λov s2 ⟨x,H2,I2,rx,a,C,dx,fs,ex,ea,c,n,l,q2⟩=>?_) hs
 subst ex
 obtain rfl:ov=Value.ref a:=rx
 exact Va I2 ea c n l ry λs3 I3=>⟨σ,_,I3,q2⟩
theorem VC {op:Operator}{rd:V->V->Hp->VK->Prop}(ha:PE X o ta) (hv:PE X value tv) (hop:zi9 X op rd):PS X (.AugAssign (.Attribute o f tpos) op value pos) (zf1 X.K ta tv rd f):=by
 intro pz s σ H D I h
 refine wpAny_AugAssign_AttributeAny (thn (ha pz s σ H _ I h) λov s1 ⟨x,H1,I1,rx,a,C,dx,fs,v,ex,ea,c,n,l,q⟩=>?_)
 subst ex
 obtain rfl:ov=Value.ref a:=rx
 refine QD I1 ea c n l λu s2 I2 ru=>thn (hv pz s2 σ H1 _ I2 q) λw3 s3 ⟨y,H2,I3,ry,q3⟩=>thn (hop pz s3 σ H2 v y u w3 _ I3 ru ry q3) λw4 s4 ⟨z,H3,I4,rz,dx',fs',ea',l',q4⟩=>?_
 exact Va I4 ea' c n l' rz λs5 I5=>⟨σ,_,I5,q4⟩
end
section
variable {X:Cx}{pz:List (Addr×Obj)}{σ:St}{H:Hp}{s:Shared}{A:Around}{E:Value->Shared->Prop}{Q:Value->Shared->Prop}{c:Value}{b:Bool}
inductive Xm (K:Fg) (H:Hp):V->Value->Prop where
 |non:Xm K H .non (.type "NoneType")
 |bl (x:Bool):Xm K H (.bl x) (.type "bool")
 |int (i:Int):Xm K H (.int i) (.type "int")
 |str (x:Str):Xm K H (.str x) (.type "str")
 |flt (x:UInt64):Xm K H (.flt x) (.type "float")
 |lst {a:Addr}{xs:List V}(e:H a=some (.lst xs)):Xm K H (.ref a) (.type "list")
 |frz {a:Addr}{o:Obj}{xs:List V}(e:H a=some (.frz o (.lst xs))):Xm K H (.ref a) (.type "list")
 |tup {a:Addr}{xs:List V}(e:H a=some (.tup xs)):Xm K H (.ref a) (.type "tuple")
 |dK {a:Addr}{kvs:List (Key×V)} (e:H a=some (.dK kvs)):Xm K H (.ref a) (.type "dict")
 |dT {a:Addr}{kvs:List (List Key×V)} (e:H a=some (.dT kvs)):Xm K H (.ref a) (.type "dict")
 |ins {a C dx:Addr}{fs:List (Str×V)} (e:H a=some (.ins C dx fs)) (cl:Cls K C) (ha:PySem.W.findIn K (.ref C) "__class__" = some (some (.builtin "object.__class__")))
   (hn:PySem.W.specialIn K (.builtin "object.__class__") "__get__" = some (some (.builtin "getset_descriptor.__get__"))) (htk:PySem.W.takesIn K (.builtin "object.__class__")=some true)
   (hm:PySem.W.mroIn K C (.type "object")=some true):Xm K H (.ref a) (.ref C)
theorem zcx {x:V}{u t:Value}(I:Inv X pz σ H s) (rx:xq x u) (ty:Xm X.K H x t) (e:PySem.W.kitOne X.K t c=some b) (h:∀tk,Q (.bool b) { s with toks:=tk }) :
  wpAny (model X.prog X.w) A (call (.builtin "isinstance") [u,c]) Q E s:=by
 cases ty with
 |non=>cases(show u=Value.none from rx);exact yE PySem.W.kitx_none I.kIn True.intro e (λz=>nomatch z) h
 |bl y=>cases(show u=Value.bool y from rx);exact yE PySem.W.kitx_bool I.kIn True.intro e (λz=>nomatch z) h
 |int i=>obtain⟨t,q⟩:=(show ∃t,u=Value.int i t from rx);cases q;exact yE PySem.W.kitx_int I.kIn True.intro e (λz=>nomatch z) h
 |str y=>obtain⟨t,q⟩:=(show ∃t,u=Value.str y t from rx);cases q;exact yE PySem.W.kitx_str I.kIn True.intro e (λz=>nomatch z) h
 |flt y=>obtain⟨t,q⟩:=(show ∃t,u=Value.float y t from rx);cases q;exact yE PySem.W.kitx_float I.kIn True.intro e (λz=>nomatch z) h
 |@lst a xs ea =>
  cases(show u=Value.ref a from rx)
  obtain⟨_,_,n,_,h1⟩:=(show xu X.prog X.w H s.heap a (.lst xs)from I.hok a _ ea)
  exact yE PySem.W.kitx_list I.kIn ⟨_,h1,rL⟩ e (λz=>nomatch z) h
 |@frz a ob xs ea =>
  cases(show u=Value.ref a from rx)
  obtain⟨_,_,_,n,_,h1⟩:=(show xu X.prog X.w H s.heap a (.frz ob (.lst xs))from I.hok a _ ea)
  exact yE PySem.W.kitx_list I.kIn ⟨_,h1,rL⟩ e (λz=>nomatch z) h
 |@tup a xs ea =>
  cases(show u=Value.ref a from rx)
  obtain⟨_,_,_,p⟩:=(show xu X.prog X.w H s.heap a (.tup xs)from I.hok a _ ea)
  obtain⟨o,h1,h2,_⟩:=p
  exact yE PySem.W.kitx_tuple I.kIn ⟨o,h1,h2⟩ e (λz=>nomatch z) h
 |@dK a kvs ea =>
  cases(show u=Value.ref a from rx)
  obtain⟨_,_,vs,_,p⟩:=(show xu X.prog X.w H s.heap a (.dK kvs)from I.hok a _ ea)
  obtain⟨o,es,ep,h1,h2,_⟩:=p
  exact yE PySem.W.kitx_dict I.kIn ⟨o,h1,h2.1⟩ e (λz=>nomatch z) h
 |@dT a kvs ea =>
  cases(show u=Value.ref a from rx)
  obtain⟨_,_,xs,_,o,es,ep,h1,h2,_⟩:=(show xu X.prog X.w H s.heap a (.dT kvs)from I.hok a _ ea)
  exact yE PySem.W.kitx_dict I.kIn ⟨o,h1,h2.1⟩ e (λz=>nomatch z) h
 |@ins a C dx fs ea cl ha hn htk hm =>
  cases(show u=Value.ref a from rx)
  obtain⟨mA,O,_⟩:=VT I.hok ea
  obtain⟨od,J,_⟩:=O.look
  exact yE (PySem.W.kitx_own (cl.get _) cl.hd ha hn htk hm) I.kIn J e (λz=>nomatch z) h
end
structure xb (k:Nat) (A:Around):Prop where
 hd:A.handled=none
 dp:A.depth+3*k+5<recursionLimit
 un:A.units+16*k+200<cLine
def xb.mono {j k:Nat}{A:Around}(r:xb k A) (h:j<=k):xb j A:=⟨r.hd,by have:=r.dp;lia,by have:=r.un;lia⟩
def xb.md {j k:Nat}{A:Around}(r:xb k A) (h:j<=k:=by decide):xb j A:=r.mono h
def xb.deeper {k:Nat}{A:Around}(r:xb (k+1) A) (env:Env):xb k (A.deeper env) :=
 ⟨r.hd,by have:=r.dp;show A.depth+1+3*k+5<_;lia,by have:=r.un;show A.units+3+16*k+200<_;lia⟩
def xb.in1 {k:Nat}{A:Around}(r:xb (k+1) A):xb k A.in1 :=
 ⟨r.hd,by have:=r.dp;show A.depth+3*k+5<_;lia,by have:=r.un;show A.units+1+16*k+200<_;lia⟩
def zaD {A:Around}{C:Addr}{us:List Value}{kw:List (Str×Value)}:(A.under (.builtin "type.__call__" ⟨.ref C::us,kw⟩)).depth=A.depth+1:=by
 first | rfl | simp[Around.under,Code.weight,Code.isCreation,Code.isGuard,Code.isCaller,Code.frames,Code.isFrame,guardIds]
def zaE {A:Around}{C:Addr}{us:List Value}{kw:List (Str×Value)}:(A.under (.builtin "type.__call__" ⟨.ref C::us,kw⟩)).units=A.units+1:=by
 first | rfl | simp[Around.under,Code.cUnits,Code.frames,Code.isFrame]
def xb.make {k:Nat}{A:Around}(r:xb (k+1) A) (C:Addr) (us:List Value) (kw:List (Str×Value)):xb k (A.under (.builtin "type.__call__" ⟨.ref C::us,kw⟩)) :=
 ⟨r.hd,by have:=r.dp;rw[zaD];omega,by have:=r.un;rw[zaE];omega⟩
def xb.depth {k:Nat}{A:Around}(r:xb k A):A.depth<recursionLimit:=by have:=r.dp;omega
def xb.units {k:Nat}{A:Around}(r:xb k A):A.units+64<cLine:=by have:=r.un;lia
def Z0:TA:=λ_ H Q=>Q [] H
def xF (ta:TE) (tr:TA):TA:=λσ H Q=>ta σ H λx H1=>tr σ H1 λxs H2=>Q (x::xs) H2
section
variable {X:Cx}{e:Expr}{es:List Expr}{te:TE}{t:TA}{pos:Pos}
theorem ze:PA X [] Z0:=λ_ _ _ _ H Q I h=>Calls.spliced_nil ⟨[],H,I,.nil,h⟩
theorem zd (ha:PE X e te) (hr:PA X es t) (hs:starEach (e::es) X.env=(false,eval e X.env)::starEach es X.env:=by rfl):PA X (e::es) (xF te t):=by
 intro pos pz s σ H Q I h
 rw[hs]
 show wpAny _ _ (spliced ((false,eval e X.env)::backTo pos (starEach es X.env))) _ _ s
 refine Calls.spliced_cons (thn (ha pz s σ H _ I h) λu s1 ⟨x,H1,I1,r1,q1⟩=>?_)
 exact thn (hr pos pz s1 σ H1 _ I1 q1) λus s2 ⟨xs,H2,I2,r2,q2⟩=>⟨x::xs,H2,I2,.cons r1 r2,q2⟩
def za2 (t:TA):TE:=λσ H Q=>t σ H λxs H1=>xs.length<=sizeLine/\∀p,H1 p=none->Q (.ref p) (upd H1 p (.tup xs))
def zkI (t:TA):TE:=λσ H Q=>t σ H λxs H1=>xs.length<=sizeLine/\∀p,H1 p=none->Q (.ref p) (upd H1 p (.lst xs))
theorem zT {x1} (h:PA X es t):PE X (.Tuple es x1 pos) (za2 t):=by
 intro pz s σ H Q I hq
 refine wpAny_Tuple_spliced (thn (h pos pz s σ H _ I hq) λus s1 ⟨xs,H1,I1,r,z,q⟩=>⟨by rw[<-r.length];exact z,?_⟩)
 have hf:H1 s1.heap.objs.size=none:=I1.hok.fresh (wo _)
 refine⟨.ref s1.heap.objs.size,upd H1 s1.heap.objs.size (.tup xs),I1.laid (t':=s1.toks) (λb u e=>we _ e) (wo _) ?_,rL,q _ hf⟩
 exact⟨⟨z,.new⟩,us,r,⟨_,wu _ rL,rL,_,rL⟩⟩
theorem qe (h:PA X es t):PE X (.List es pos) (zkI t):=by
 intro pz s σ H Q I hq
 refine wpAny_List_spliced (thn (h pos pz s σ H _ I hq) λus s1 ⟨xs,H1,I1,r,z,q⟩=>⟨by rw[<-r.length];exact z,?_⟩)
 have hf:H1 s1.heap.objs.size=none:=I1.hok.fresh (wo _)
 refine⟨.ref s1.heap.objs.size,upd H1 s1.heap.objs.size (.lst xs),I1.laid (t':=s1.toks) (λb u e=>we _ e) (wo _) ?_,rL,q _ hf⟩
 exact⟨z,us,0,r,wu _ rL⟩
end
abbrev Sp:=List V->Hp->VK->XK->Prop
abbrev CXT:=List Env->Hp->Shared->XK->Value->Shared->Prop
structure Qr (P:Program) (w:World) (K:Fg) (mg:Str->Option Value) (base:Heap) (A:Around) (outer:List Env) (s:Shared) (H:Hp):Prop where
 frames:A.frames=some outer
 mod:Mod K mg base
 bs:∀b o,base.get? b=some o->s.heap.get? b=some o/\H b=none
 bsz:base.objs.size<=s.heap.objs.size
 funs:s.heap.FunFrames base outer
 frf:∀b∈frs outer,H b=none
 hok:HOk P w H s.heap
 bare:AllBare s.gens
def CE (outer:List Env) (P:Program) (w:World) (H:Hp) (s:Shared) (Q:VK) (u:Value) (s':Shared):Prop :=
 ∃v H',s'.os=s.os/\AllBare s'.gens/\Un (frs outer) [] H H' s.heap s'.heap/\HOk P w H' s'.heap/\xq v u/\Q v H'
def CR (CX:CXT) (outer:List Env) (P:Program) (w:World) (H:Hp) (s:Shared) (Q:VK) (E:XK) (r:Result) (s':Shared):Prop :=
 match r with
 |.ok (.ret u)=>CE outer P w H s Q u s'
 |.ok _=>False
 |.error e=>CX outer H s E e s'
structure qP (P:Program) (w:World) (K:Fg) (mg:Str->Option Value) (base:Heap) (CX:CXT) (k:Nat) (f:Addr) (fd:FuncData) (ps:List Str) (sp:Sp):Prop where
 len:∀vs H Q E,sp vs H Q E->vs.length=ps.length
 run:∀(A:Around) (outer:List Env) (s:Shared) (H:Hp) (args:Args) (us:List Value) (vs:List V) (Q:VK) (E:XK),xb k A->Qr P w K mg base A outer s H->BindsTo s fd args (ps.zip us)->zY vs us->sp vs H Q E →
  codeAny (model P w) A (.call (.ref f) args) (CR CX outer P w H s Q E) s
def qP.imp {P:Program}{w:World}{K:Fg}{mg:Str->Option Value}{base:Heap}{CX:CXT}{k:Nat}{f:Addr}{fd:FuncData}{ps:List Str}{sp sp':Sp}(F:qP P w K mg base CX k f fd ps sp)
  (h:∀vs H Q E,sp' vs H Q E->sp vs H Q E):qP P w K mg base CX k f fd ps sp' :=
 ⟨λvs H Q E q=>F.len vs H Q E (h _ _ _ _ q),λA outer s H args us vs Q E hr he hb hv hs=>F.run A outer s H args us vs Q E hr he hb hv (h _ _ _ _ hs)⟩
def Qr.make {P:Program}{w:World}{K:Fg}{mg:Str->Option Value}{base:Heap}{A:Around}{outer:List Env}{s:Shared}{H:Hp}(e:Qr P w K mg base A outer s H) (C:Addr) (us:List Value) (kw:List (Str×Value)) :
  Qr P w K mg base (A.under (.builtin "type.__call__" ⟨.ref C::us,kw⟩)) outer s H:=⟨by first | exact e.frames | (simpa [Around.under,Code.envs,Code.isFrame,pushEnvs]using e.frames),e.mod,e.bs,e.bsz,e.funs,e.frf,e.hok,e.bare⟩
def Qr.in1 {P:Program}{w:World}{K:Fg}{mg:Str->Option Value}{base:Heap}{A:Around}{outer:List Env}{s:Shared}{H:Hp}(e:Qr P w K mg base A outer s H) :
  Qr P w K mg base A.in1 outer s H:=⟨e.frames,e.mod,e.bs,e.bsz,e.funs,e.frf,e.hok,e.bare⟩
section
variable {X:Cx}{pz:List (Addr×Obj)}{σ:St}{H:Hp}{s s':Shared}
theorem Inv.env0 (I:Inv X pz σ H s):Qr X.prog X.w X.K X.mg X.base X.A X.stack s H :=
 ⟨I.ok.frames,I.ok.mod,I.bs,wV I.ok.bsz I.sz,I.stack,I.stkFree,I.hok,I.bare⟩
theorem Inv.after {Q:VK}{u:Value}(I:Inv X pz σ H s) (h:CE X.stack X.prog X.w H s Q u s'):EP X pz σ Q u s':=by
 obtain⟨v,H',os,bare,un,hok,r,q⟩:=h
 obtain⟨hh,g,d,t,os'⟩:=s'
 obtain rfl:os'=s.os:=os
 exact⟨v,H',I.call (h':=hh) (g':=g) (d':=d) (t':=t) (ch:=[]) un hok bare (λb z=>absurd z (by simp)),r,q⟩
end
def ZK (sp:Sp) (dvs:List V) (E:XK) (t:TA):TE:=λσ H Q=>t σ H λvs H1=>sp (vs++dvs) H1 Q E
def zkJ (C:Addr) (sp:Sp) (dvs:List V) (E:XK) (t:TA):TE:=λσ H Q=>t σ H λvs H1=>∀x dx,H1 x=none->H1 dx=none->dx≠x →
 sp (.ref x::(vs++dvs)) (upd (upd H1 dx (.own x)) x (.ins C dx [])) (λv H2=>v=.non/\Q (.ref x) H2) E
def qO (K:Fg) (fd:FuncData) (ps:List Str) (ds:List Value):Prop :=
 ∀(s:Shared) (us:List Value),K.In s.heap->(us++ds).length=ps.length->BindsTo s fd ⟨us,[]⟩ (ps.zip (us++ds))
def qO.all {K:Fg}{fd:FuncData}{ps:List Str}(h:∀us:List Value,us.length=ps.length->bindArgs fd ⟨us,[]⟩=pure (ps.zip us)):qO K fd ps []:=λs us _ hl=>by
 rw[yM]at hl ⊢
 exact .of_eq (h us hl)
def Qu (CX:CXT) (X:Cx) (E:XK):Prop:=∀(pz:List (Addr×Obj)) (σ:St) (H:Hp) (s:Shared) (e:Value) (s':Shared),Inv X pz σ H s->CX X.stack H s E e s'->X.xe e s'
section
variable {X:Cx}{CX:CXT}{k:Nat}{f C:Addr}{fd:FuncData}{ps:List Str}{sp:Sp}{dvs:List V}{ds:List Value}{E:XK}{x m:Str}{p pos apos:Pos}{e o:Expr}{es:List Expr}{ta:TE}{t:TA}
theorem zin {pz:List (Addr×Obj)}{σ:St}{H:Hp}{s:Shared}{Q:VK}{us:List Value}{vs:List V}(F:qP X.prog X.w X.K X.mg X.base CX k f fd ps sp) (hr:xb k X.A) (hb:qO X.K fd ps ds) (hd:zY dvs ds) (hx:Qu CX X E)
  (I:Inv X pz σ H s) (r:zY vs us) (h:sp (vs++dvs) H Q E):wpAny (model X.prog X.w) X.A (call (.ref f) us) (EP X pz σ Q) X.xe s:=by
 have r2:zY (vs++dvs) (us++ds):=r.append hd
 have hl:(us++ds).length=ps.length:=by rw[<-r2.length];exact F.len _ _ _ _ h
 refine Wy (codeAny_mono (F.run X.A X.stack s H ⟨us,[]⟩ (us++ds) (vs++dvs) Q E hr I.env0 (hb s us I.kIn hl) r2 h) λr s' hq=>?_)
 cases r with
 |error e=>exact hx pz σ H s e s' I hq
 |ok fl =>
  cases fl with
  |ret u=>exact I.after hq
  |next=>exact False.elim hq
  |brk=>exact False.elim hq
  |cont=>exact False.elim hq
theorem zfK (F:qP X.prog X.w X.K X.mg X.base CX k f fd ps sp) (hr:xb k X.A) (hg:Gl X x) (hm:X.mg x=some (.ref f)) (hk:PySem.W.keepIn X.K (.ref f)=true) (hb:qO X.K fd ps ds) (hd:zY dvs ds) (hx:Qu CX X E)
  (ha:PA X (e::es) t) (hdb:(x == ("__debug__":Str))=false:=by decide) (he:starEach (e::es) X.env=(false,eval e X.env)::starEach es X.env:=by rfl) (hpl:(backTo pos (starEach es X.env)).any (·.1)=false:=by rfl) :
  PE X (.Call (.Name x p) (e::es) [] pos) (ZK sp dvs E t):=by
 intro pz s σ H Q I h
 refine yY (vQ I hg hm ?_ hdb)
 refine WN (h₀:=X.base) I.ok.mod.kin hk (thn (ha pos pz s σ H _ I h) λus s1 ⟨vs,H1,I1,r,q⟩=>⟨I1.kIn,?_⟩) he hpl
 exact zin F hr hb hd hx I1 r q
structure Mk (K:Fg) (C f:Addr):Prop where
 makes:PySem.W.makesIn K C=true
 init:PySem.W.findIn K (.ref C) "__init__" = some (some (.ref f))
 fn:PySem.W.isFn K (.ref f)=true
 kp:PySem.W.keepIn K (.ref C)=true
theorem zek {pz:List (Addr×Obj)}{σ:St}{H:Hp}{s:Shared}{Q:VK}{us:List Value}{vs:List V}(M:Mk X.K C f) (F:qP X.prog X.w X.K X.mg X.base CX k f fd ps sp) (hr:xb (k+1) X.A) (hb:qO X.K fd ps ds) (hd:zY dvs ds)
  (hx:Qu CX X E) (I:Inv X pz σ H s) (r:zY vs us)
  (h:∀x dx,H x=none->H dx=none->dx≠x->sp (.ref x::(vs++dvs)) (upd (upd H dx (.own x)) x (.ins C dx [])) (λv H2=>v=.non/\Q (.ref x) H2) E) :
  wpAny (model X.prog X.w) X.A (call (.ref C) us) (EP X pz σ Q) X.xe s:=by
 have hq:=h (s.heap.objs.size+1) s.heap.objs.size (I.hok.fresh (Nat.le_succ _)) (I.hok.fresh (wo _)) (wN (Nat.lt_succ_self _))
 have I2:=Inv.made (C:=C) I
 have r2:zY (V.ref (s.heap.objs.size+1)::(vs++dvs)) (Value.ref (s.heap.objs.size+1)::(us++ds)):=.cons rfl (r.append hd)
 have hl:(Value.ref (s.heap.objs.size+1)::us++ds).length=ps.length:=by
  have e:=r2.length
  rw[F.len _ _ _ _ hq]at e
  exact e.symm
 refine Wy (zdQ (f:=f) I.kIn M.makes M.init (beq_iff_eq.mp M.fn) (codeAny_mono (F.run _ X.stack _ _ ⟨Value.ref (s.heap.objs.size+1)::us,[]⟩ (Value.ref (s.heap.objs.size+1)::(us++ds)) _ _ E (hr.make C us [])
  (I2.env0.make C us []) (hb _ (Value.ref (s.heap.objs.size+1)::us) I2.kIn hl) r2 hq) λr s' hq'=>?_))
 cases r with
 |error e=>exact hx pz σ _ _ e s' I2 hq'
 |ok fl =>
  cases fl with
  |ret u =>
   obtain⟨v,H',I3,rv,ev,q3⟩:=I2.after hq'
   subst ev
   exact⟨rv,⟨V.ref (s.heap.objs.size+1),H',I3,rL,q3⟩⟩
  |next=>exact False.elim hq'
  |brk=>exact False.elim hq'
  |cont=>exact False.elim hq'
theorem zbH (M:Mk X.K C f) (F:qP X.prog X.w X.K X.mg X.base CX k f fd ps sp) (hr:xb (k+1) X.A) (hg:Gl X x) (hm:X.mg x=some (.ref C)) (hb:qO X.K fd ps ds) (hd:zY dvs ds) (hx:Qu CX X E)
  (ha:PA X (e::es) t) (hdb:(x == ("__debug__":Str))=false:=by decide) (he:starEach (e::es) X.env=(false,eval e X.env)::starEach es X.env:=by rfl) (hpl:(backTo pos (starEach es X.env)).any (·.1)=false:=by rfl) :
  PE X (.Call (.Name x p) (e::es) [] pos) (zkJ C sp dvs E t):=by
 intro pz s σ H Q I h
 refine yY (vQ I hg hm ?_ hdb)
 refine WN (h₀:=X.base) I.ok.mod.kin M.kp (thn (ha pos pz s σ H _ I h) λus s1 ⟨vs,H1,I1,r,q⟩=>⟨I1.kIn,?_⟩) he hpl
 exact zek M F hr hb hd hx I1 r q
end
structure zH (N P:List Str) (sc:Scope):Prop where
 kind:sc.kind=.function
 co:sc.isCoroutine=false
 gen:sc.isGenerator=false
 nd:N.Nodup
 pre:N.take P.length=P
 par:∀x∈P,sc.names.lookup x=some .local ∨ sc.names.lookup x=some .cell
 nofree:∀y∈sc.names,y.2≠.free
def scq {N P:List Str}{sc:Scope}(a:sc.kind=.function:=by rfl) (b:sc.isCoroutine=false:=by rfl) (c:sc.isGenerator=false:=by rfl) (d:N.Nodup:=by decide +kernel) (e:N.take P.length=P:=by rfl) (f:∀x∈P,sc.names.lookup x=some .local ∨ sc.names.lookup x=some .cell:=by decide +kernel) (g:∀y∈sc.names,y.2≠.free:=by decide +kernel):zH N P sc:=⟨a,b,c,d,e,f,g⟩
def Vs {kindOf:Str->Option NameKind}{x:Str}:∀{binds:List (Str×Value)}{m:Str->Option Value},(∀v,(x,v)∉binds)->bindL kindOf binds m x=m x
 |[],_,_=>rfl
 | (n,v)::r,m,h=>by
  unfold bindL
  rw[Vs λw hw=>h w (wR _ hw)]
  split
  ·have:x≠n:=by rintro rfl;exact h v wU
   simp[this]
  ·rfl
def Vq {kindOf:Str->Option NameKind}{x:Str}:∀{binds:List (Str×Value)}{m:Str->Option Value},(∀v,(x,v)∉binds)->bindC kindOf binds m x=m x
 |[],_,_=>rfl
 | (n,v)::r,m,h=>by
  unfold bindC
  rw[Vq λw hw=>h w (wR _ hw)]
  split
  ·rfl
  ·have:x≠n:=by rintro rfl;exact h v wU
   simp[this]
def Vr {kindOf:Str->Option NameKind}{x:Str}{v:Value}:∀{P:List Str}{vs:List Value}{i:Nat}{m:Str->Option Value},P.Nodup->P[i]?=some x->vs[i]?=some v->kindOf x=some .local →
  bindL kindOf (P.zip vs) m x=some v
 |[],_,_,_,_,h,_,_=>by simp at h
 |_::_,[],_,_,_,_,h,_=>by simp at h
 |p::P,w::vs,0,m,nd,h1,h2,hk=>by
  simp at h1 h2;subst h1;subst h2
  show bindL kindOf ((p,w)::P.zip vs) m p=_
  unfold bindL
  rw[Vs λv hv=>(WA.mp nd).1 (uk hv).1,if_pos hk]
  simp
 |p::P,w::vs,i+1,m,nd,h1,h2,hk=>by
  show bindL kindOf ((p,w)::P.zip vs) m x=_
  unfold bindL
  exact Vr (i:=i) (WA.mp nd).2 ↥h1 ↥h2 hk
def Vp {kindOf:Str->Option NameKind}{x:Str}{v:Value}:∀{P:List Str}{vs:List Value}{i:Nat}{m:Str->Option Value},P.Nodup->P[i]?=some x->vs[i]?=some v->kindOf x≠some .local →
  bindC kindOf (P.zip vs) m x=some v
 |[],_,_,_,_,h,_,_=>by simp at h
 |_::_,[],_,_,_,_,h,_=>by simp at h
 |p::P,w::vs,0,m,nd,h1,h2,hk=>by
  simp at h1 h2;subst h1;subst h2
  show bindC kindOf ((p,w)::P.zip vs) m p=_
  unfold bindC
  rw[Vq λv hv=>(WA.mp nd).1 (uk hv).1,if_neg hk]
  simp
 |p::P,w::vs,i+1,m,nd,h1,h2,hk=>by
  show bindC kindOf ((p,w)::P.zip vs) m x=_
  unfold bindC
  exact Vp (i:=i) (WA.mp nd).2 ↥h1 ↥h2 hk
def qm (N:List Str) (vs:List V):St:=vs.map some++List.replicate (N.length-vs.length) none
def xl (CX:CXT) (P:Program) (w:World) (K:Fg) (mg:Str->Option Value) (base:Heap) (N:List Str) (qual:Str) (scope:Scope) (f:Addr) (cd:Value) (A:Around) (outer:List Env) (s:Shared) (H:Hp) (E:XK):Cx where
 prog:=P
 w:=w
 K:=K
 mg:=mg
 base:=base
 A:=A.deeper (envOfC qual scope s.heap.objs.size f cd)
 N:=N
 s₀:=s
 H₀:=H
 env:=envOfC qual scope s.heap.objs.size f cd
 outer:=outer
 stack:=envOfC qual scope s.heap.objs.size f cd::outer
 ex:=[]
 calm:=true
 fn:=λ_=>true
 pn:=[]
 xe:=λe s'=>wpAny (model P w) (A.deeper (envOfC qual scope s.heap.objs.size f cd)) (leaving (envOfC qual scope s.heap.objs.size f cd) e) (λ_ s''=>CX outer H s E e s'') (λe' s''=>CX outer H s E e' s'') s'
def Js {sc:Scope}{n:Nat}{x:Str}(h:sc.names.lookup x=some .cell):∃c,(cellsFrom n sc.names []).lookup x=some c:=by
 have q:=Wb sc.names n [] (.inl h)
 exact Option.isSome_iff_exists.mp q
def Vy {CX:CXT}{P:Program}{w:World}{K:Fg}{mg:Str->Option Value}{base:Heap}{N ps:List Str}{qual:Str}{scope:Scope}{f:Addr}{cd:Value}{A:Around}{outer:List Env}{s s1:Shared}{H:Hp}{E:XK}{us:List Value}{vs:List V}
  (S:zH N ps scope) (hd:A.handled=none) (e0:Qr P w K mg base A outer s H) (hl:vs.length=ps.length) (r:zY vs us)
  (x:InCallC s s.heap.objs.size (bindL (envOfC qual scope s.heap.objs.size f cd).kindOf (ps.zip us) λ_=>none) (cellsFrom (s.heap.objs.size+1) scope.names []) (bindC (envOfC qual scope s.heap.objs.size f cd).kindOf (ps.zip us) λ_=>none) s1) :
  Inv (xl CX P w K mg base N qual scope f cd A outer s H E) [] (qm N vs) H s1:=by
 have hpl:ps.length<=N.length:=by have:=congrArg List.length S.pre;rw[yd]at this;lia
 obtain⟨h1,tk,rfl,hk⟩:=x.done
 have noA:∀b:Addr,b∉(xl CX P w K mg base N qual scope f cd A outer s H E).ex:=λb z=>absurd (show b∈([]:List Addr)from z) (by simp)
 refine⟨⟨e0.mod,S.kind,rL,rL,wo _,λy z c h1 h2=>?_,λy hy=>?_,λy c _ h=>?_,λ_=>hd,Around.frames_deeper e0.frames,.inr ⟨rL,rL⟩,λb z=>absurd z (noA b),e0.bs,e0.bsz,λb _ _=>noA b,λb z=>absurd z (noA b),e0.funs,e0.frf⟩,
  rfl,e0.bare,Un.kept hk,⟨_,x.toInCall.ns,λi y v h1 h2 h3=>?_⟩,λy c h=>⟨_,x.cell y c h⟩,e0.hok.fresh (wo _),λy c h=>?_,λp hp=>absurd (show p∈([]:List (Addr×Obj))from hp) (by simp),e0.hok.kept hk,?_⟩
 ·exact name_of_addr x.apart (PySem.mem_of_lookup h1) (PySem.mem_of_lookup h2)
 ·have hy:scope.names.lookup y=some .cell\/scope.names.lookup y=some .free:=hy
  rcases hy with hy | hy
  ·exact Js hy
  ·exact absurd rL (S.nofree _ (PySem.mem_of_lookup hy))
 ·exact WK (x.above y c (PySem.mem_of_lookup h))
 ·have hi:i<vs.length:=by
   unfold qm at h2
   by_cases hi:i<vs.length
   ·exact hi
   ·rw[wB ↥hi]at h2
    rw[uZ]at h2
    split at h2 <;> cases h2
  have ha:vs[i]?=some v:=by
   unfold qm at h2
   rw[wD ↥hi,wg]at h2
   cases e:vs[i]? with
   |none=>rw[e]at h2;cases h2
   |some a=>rw[e]at h2;cases h2;rfl
  obtain⟨u,hu,rv⟩:=r.get ha
  have hp:ps[i]?=some y:=by
   rw[<-S.pre,List.getElem?_take_of_lt ∅];exact h1
  have ndP:ps.Nodup:=by rw[<-S.pre];exact S.nd.sublist (List.take_sublist _ _)
  refine⟨u,rv,?_⟩
  rcases S.par y (wm hp)with k | k
  ·exact .inl ⟨k,Vr ndP hp hu k⟩
  ·obtain⟨c,e⟩:=Js (n:=s.heap.objs.size+1) k
   refine .inr ⟨.inl k,c,e,?_⟩
   have q:=x.cell y c e
   rw[Vp ndP hp hu (by show scope.names.lookup y≠_;rw[k];decide)]at q
   exact q
 ·exact e0.hok.fresh (WK (x.above y c (PySem.mem_of_lookup h)))
 ·unfold qm
  show _=N.length
  rw[wC,wf,uH]
  lia
def zbn {CX:CXT}{P:Program}{w:World}{K:Fg}{mg:Str->Option Value}{base:Heap}{k:Nat}{f:Addr}{name qual:Str}{params:Arguments}{body:List Stmt}{scope:Scope}{dV kV doc pm cdv ct oc:Value}{an od:Option Addr}
  {osl:Array (Option Value)}{N ps:List Str}{sp:Sp}(lk:K.lookup f=some ⟨oc,od,.func (PySem.W.fnOf name qual params body scope dV kV doc pm an cdv ct),osl⟩) (hcd:PySem.W.codeIn K cdv qual=true) (S:zH N ps scope)
  (len:∀vs H Q E,sp vs H Q E->vs.length=ps.length)
  (hbody:∀(A:Around) (outer:List Env) (s:Shared) (H:Hp) (vs:List V) (Q:VK) (E:XK),xb k (A.deeper (envOfC qual scope s.heap.objs.size f cdv))->sp vs H Q E →
   ∃t,PSs (xl CX P w K mg base N qual scope f cdv A outer s H E) body t/\t { nx:=λ_ H'=>Q .non H',rt:=Q } (qm N vs) H) :
  qP P w K mg base CX (k+1) f (PySem.W.fnOf name qual params body scope dV kV doc pm an cdv ct) ps sp:=by
 refine⟨len,λA outer s H args us vs Q E hr e0 hb r hsp=>?_⟩
 have hl:=len _ _ _ _ hsp
 have KX:K.In s.heap:=e0.mod.kin.keeps λb o e=>(e0.bs b o e).1
 have lim:s.heap.NoLimit:=e0.mod.nolimit.keeps λb o e=>(e0.bs b o e).1
 have hkind:∀y∈ps.zip us,scope.names.lookup y.1=some .local ∨ (scope.names.lookup y.1=some .cell/\((cellsFrom (s.heap.objs.size+1) scope.names []).lookup y.1).isSome=true):=λ⟨n,v⟩ hy=>by
  rcases S.par n (uk hy).1 with q | q
  ·exact .inl q
  ·exact .inr ⟨q,Wb _ _ _ (.inl q)⟩
 refine codeAny_call_function hr.depth (KX _ _ lk) rL S.co S.gen rL (PySem.W.codeRec_of KX hcd) (hb _ _ _ _ ?_)
 refine WH S.kind hkind λenv he s1 x=>?_
 subst he
 refine⟨lim.keeps x.toInCall.keep,codeAny_func ?_⟩
 obtain⟨t,ht,hq⟩:=hbody A outer s H vs Q E (hr.deeper _) hsp
 have I:Inv (xl CX P w K mg base N qual scope f cdv A outer s H E) [] (qm N vs) H s1:=Vy S hr.hd e0 hl r x
 refine yC (ht [] s1 (qm N vs) H _ I hq) (λfl s' hs=>?_) λe s' hs=>hs
 have fin:∀{σ':St}{H':Hp}{v:V}{u:Value},Inv (xl CX P w K mg base N qual scope f cdv A outer s H E) [] σ' H' s'->xq v u->Q v H'->CE outer P w H s Q u s' :=
  λ{σ' H' v u} J rv q=>⟨v,H',J.os,J.bare,J.base,J.hok,rv,q⟩
 cases fl with
 |ret u =>
  obtain⟨v,σ',H',J,rv,q⟩:=hs
  exact fin J rv q
 |next =>
  obtain⟨σ',H',J,q⟩:=hs
  exact fin (v:=V.non) (u:=Value.none) J rL q
 |brk =>
  obtain⟨_,_,_,q⟩:=hs
  exact False.elim q
 |cont =>
  obtain⟨_,_,_,q⟩:=hs
  exact False.elim q
section
variable {X:Cx}{x:Str}{p pos:Pos}{e:Expr}{es:List Expr}{t:TA}{id T:String}{r:List V->Hp->VK->Prop}
def tCB (r:List V->Hp->VK->Prop) (t:TA):TE:=λσ H Q=>t σ H λvs H1=>r vs H1 Q
theorem xI (hc:ZG X (.builtin id) r) (hg:Gl X x) (hm:X.mg x=none) (hv:bootBuiltins x=some (.builtin id)) (ha:PA X (e::es) t) (hn:x≠"__name__":=by decide) (hdb:(x == ("__debug__":Str))=false:=by decide)
  (he:starEach (e::es) X.env=(false,eval e X.env)::starEach es X.env:=by rfl) (hpl:(backTo pos (starEach es X.env)).any (·.1)=false:=by rfl):PE X (.Call (.Name x p) (e::es) [] pos) (tCB r t):=by
 intro pz s σ H Q I h
 refine yY (Zc I hg hm hv ?_ hn hdb)
 exact PyProof.Rows.callWith_builtin1 (thn (ha pos pz s σ H _ I h) λus s1 ⟨vs,H1,I1,r1,q1⟩=>hc pz s1 σ H1 vs us Q I1 r1 q1) he hpl
theorem qh (hc:ZG X (.type T) r) (hg:Gl X x) (hm:X.mg x=none) (hv:bootBuiltins x=some (.type T)) (ha:PA X (e::es) t) (hn:x≠"__name__":=by decide) (hdb:(x == ("__debug__":Str))=false:=by decide)
  (he:starEach (e::es) X.env=(false,eval e X.env)::starEach es X.env:=by rfl) (hpl:(backTo pos (starEach es X.env)).any (·.1)=false:=by rfl):PE X (.Call (.Name x p) (e::es) [] pos) (tCB r t):=by
 intro pz s σ H Q I h
 refine yY (Zc I hg hm hv ?_ hn hdb)
 exact yL (thn (ha pos pz s σ H _ I h) λus s1 ⟨vs,H1,I1,r1,q1⟩=>hc pz s1 σ H1 vs us Q I1 r1 q1) he hpl
end
end L2
namespace HT
open PySem PyProof.Rows
section
variable {prog:Program}{w:World}{A:Around}{E:Value->Shared->Prop}{s:Shared}
theorem cat_tup {t b:Addr}{vs ws:List Value}{Q:Value->Shared->Prop}(ht:IsTup s.heap t vs.toArray) (hb:IsTup s.heap b ws.toArray) (hv:vs≠[])
  (h1:ws=[]->Q (.ref t) s) (h2:ws≠[]->Q (.ref s.heap.objs.size) { s with heap:=s.heap.push { cls:=.type "tuple",data:=.seq (vs++ws).toArray } })
  (hsz:vs.length+ws.length<=sizeLine):wpAny (model prog w) A (binaryOp .Add (.ref t) (.ref b)) Q E s:=by
 obtain⟨⟨cls,dd,data,sl⟩,ho,hc,n,hd⟩:=id ht
 obtain⟨⟨cls2,dd2,data2,sl2⟩,ho2,hc2,n2,hd2⟩:=id hb
 simp only at hc hd hc2 hd2
 subst hc hd hc2 hd2
 have e:vs.toArray++ws.toArray=(vs++ws).toArray:=by simp
 by_cases hw:ws=[]
 ·exact concat_meets ⟨_,ho,rL⟩ ⟨_,ho2,rL⟩ noFill_tuple_add seq_tuple_add Wc u5 (uX _ _)
   (tuple_addW1 t b vs.toArray ws.toArray n n2 dd dd2 sl sl2 ↥hv (by simp[hw])) ⟨ho,ho2,h1 hw⟩
 ·refine concat_meets ⟨_,ho,rL⟩ ⟨_,ho2,rL⟩ noFill_tuple_add seq_tuple_add Wc u5 (uX _ _)
   (tuple_addW2 t b vs.toArray ws.toArray n n2 dd dd2 sl sl2 ↥hv ↥hw (by rw[wy,wy];exact hsz)) ⟨ho,ho2,?_⟩
  rw[e]
  exact h2 hw
def sIx (n d:Nat):Option Int->Nat
 |none=>d
 |some v=>if v<0 then(v+(n:Int)).toNat else min v.toNat n
theorem sIx_none (n d:Nat):sIx n d none=d:=rfl
theorem sIx_nat (n d k:Nat):sIx n d (some (k:Int))=min k n:=by
 show (if(k:Int)<0 then((k:Int)+(n:Int)).toNat else min (k:Int).toNat n)=min k n
 rw[if_neg ∅,yG]
theorem zir (n d:Nat) (hd:d<=n) (o:Option Int):sIx n d o<=n:=by
 cases o with
 |none=>exact hd
 |some v =>
  show (if v<0 then(v+(n:Int)).toNat else min v.toNat n)<=n
  by_cases hv:v<0
  ·rw[if_pos hv];lia
  ·rw[if_neg hv];exact Nat.min_le_right _ _
theorem zbe (v:Int) (n d:Nat):(if v<0 then max (v+(n:Int)) 0 else min v (n:Int))=((sIx n d (some v):Nat):Int):=by
 show (if v<0 then max (v+(n:Int)) 0 else min v (n:Int))=(((if v<0 then(v+(n:Int)).toNat else min v.toNat n):Nat):Int)
 by_cases hv:v<0
 ·simp only[if_pos hv];lia
 ·simp only[if_neg hv];lia
theorem zam (lo hi:Option Int) (n:Nat):Builtin.Slice.sliceAdjust lo hi 1 (n:Int)=(((sIx n 0 lo:Nat):Int),((sIx n n hi:Nat):Int)):=by
 have h1:¬((1:Int)<0):=by lia
 unfold Builtin.Slice.sliceAdjust
 simp only[h1,if_false]
 refine Wv ?_ ?_
 ·cases lo with
  |none=>rfl
  |some v=>exact zbe v n 0
 ·cases hi with
  |none=>rfl
  |some v=>exact zbe v n n
theorem zaP (i j:Nat):Builtin.Slice.slicePlaces (i:Int) (j:Int) 1=j-i:=by
 unfold Builtin.Slice.slicePlaces
 have h1:(1:Int)>0:=by lia
 simp only[h1,if_true,Int.ediv_one]
 split <;> lia
theorem Vc {v:Value}{o:Option Int}{Q:Option Int->Shared->Prop}(p:IsPart v o) (h:Q o s):wpAny (model prog w) A (Builtin.Slice.slicePartIndex v) Q E s:=by
 cases p with
 |none=>exact slicePart_none h
 |int i t=>exact slicePart_int h
theorem vN {sl:Addr}{vl vu:Value}{lo hi:Option Int}{n:Nat}{Q:Int×Int×Nat->Shared->Prop}(hs:s.heap.IsSliceOf sl vl vu .none) (pl:IsPart vl lo) (pu:IsPart vu hi)
  (h:Q (((sIx n 0 lo:Nat):Int),1,sIx n n hi-sIx n 0 lo) s):wpAny (model prog w) A (Builtin.Slice.sliceApplied (.ref sl) (pure (n:Int))) Q E s:=by
 obtain⟨os,hos,hcs,hds⟩:=id hs
 unfold Builtin.Slice.sliceApplied Builtin.Slice.sliceFields
 refine wc (wc (wP hos hds (x:=vl) rL (wc (wP hos hds (x:=vu) rL (wc (wP hos hds (x:=.none) rL (wj ?_)))))))
 refine wc (slicePart_none ?_)
 show wpAny _ _ (if((1:Int) == 0)=true then _ else _) _ _ s
 rw[if_neg (by decide)]
 refine wc (Vc pl (wc (Vc pu (wc (wj ?_)))))
 show wpAny _ _ (match Builtin.Slice.sliceAdjust lo hi 1 (n:Int)with | (lo,hi)=>pure (lo,(1:Int),Builtin.Slice.slicePlaces lo hi 1)) _ _ s
 rw[zam lo hi n]
 show wpAny _ _ (pure (((sIx n 0 lo:Nat):Int),(1:Int),Builtin.Slice.slicePlaces ((sIx n 0 lo:Nat):Int) ((sIx n n hi:Nat):Int) 1)) _ _ s
 rw[zaP]
 exact wj h
theorem zd9 (xs:Array Value) (i k:Nat):((List.range k).filterMap λ(m:Nat)=>xs[((i:Int)+(m:Int)*1).toNat]?).toArray=((xs.toList.drop i).take k).toArray:=by
 have e:(λ(m:Nat)=>xs[((i:Int)+(m:Int)*1).toNat]?)=λm=>xs[i+m]?:=by
  funext m
  have:((i:Int)+(m:Int)*1).toNat=i+m:=by lia
  rw[this]
 rw[e]
 have:=pick_run xs i k
 rw[List.filterMap_map]at this
 have e2:((λx=>xs[x]?) ∘ λx=>i+x)=λm=>xs[i+m]?:=rfl
 rw[e2]at this
 rw[this]
theorem getItem_tuple_cut {t sl:Addr}{items:Array Value}{vl vu:Value}{lo hi:Option Int}{Q:Value->Shared->Prop}(ht:IsTup s.heap t items) (hs:s.heap.IsSliceOf sl vl vu .none) (pl:IsPart vl lo) (pu:IsPart vu hi)
  (hw:¬(sIx items.size 0 lo=0/\sIx items.size items.size hi=items.size))
  (h:Q (.ref s.heap.objs.size) { s with heap:=s.heap.push { cls:=.type "tuple",data:=.seq ((items.toList.drop (sIx items.size 0 lo)).take (sIx items.size items.size hi-sIx items.size 0 lo)).toArray } })
  (hsz:items.size<=sizeLine):wpAny (model prog w) A (getItem (.ref t) (.ref sl)) Q E s:=by
 have htake:sizeOk (.seq ((items.toList.drop (sIx items.size 0 lo)).take (sIx items.size items.size hi-sIx items.size 0 lo)).toArray):=by
  show ((items.toList.drop (sIx items.size 0 lo)).take (sIx items.size items.size hi-sIx items.size 0 lo)).toArray.size<=sizeLine
  rw[wy,yd,yf,yU]
  omega
 have hj:sIx items.size items.size hi<=items.size:=zir _ _ (wo _) hi
 obtain⟨os,hos,hcs,hds⟩:=id hs
 have hTs:s.TypeIs (.ref sl) "slice":=⟨os,hos,hcs⟩
 unfold getItem
 try with_reducible refine yn ?_
 first | refine wc (wj ?_) | skip
 refine wc (Wj ht.typeIs (by decide) ?_)
 refine wc (wpAny_callSpecial?_slot (name:=Str.ofString "__getitem__") ht.typeIs wW
  (yt wW ht.typeIs entry_tuple_getitem ?_ (args_tuple_getitem _ _)))
 show wpAny _ _ (Builtin.Tuple.tupleItemsOf (.ref t) >>= _) _ _ s
 refine wc (tupleItemsOf_ ht ?_)
 refine wc (uY hTs ?_)
 rw[if_pos (by decide)]
 refine wc (vN hs pl pu ?_)
 have hno:¬((((sIx items.size 0 lo:Nat):Int) == 0&&(1:Int) == 1&&(sIx items.size items.size hi-sIx items.size 0 lo) == items.size)=true):=by
  intro q
  rw[yF,yF]at q
  have q1:((sIx items.size 0 lo:Nat):Int)=0:=eq_of_beq q.1.1
  have q2:sIx items.size items.size hi-sIx items.size 0 lo=items.size:=eq_of_beq q.2
  exact hw ⟨by omega,by omega⟩
 show wpAny _ _ (if(((sIx items.size 0 lo:Nat):Int) == 0&&(1:Int) == 1&&(sIx items.size items.size hi-sIx items.size 0 lo) == items.size)=true then _ else _) _ _ s
 rw[if_neg hno,zd9]
 first
  |exact wc (m:=Builtin.Tuple.tupleExact _) (w8 (wj ⟨_,rfl,wj h⟩) htake)
  |exact wc (m:=Builtin.Tuple.tupleExact _) (w8 (wc (wj (wj ⟨_,rfl,wj h⟩))) htake)
  |exact wc (wc (m:=Builtin.Tuple.tupleExact _) (w8 (wj (wj ⟨_,rfl,wj h⟩)) htake))
  |exact wc (wc (m:=Builtin.Tuple.tupleExact _) (w8 (wj ⟨_,rfl,wj h⟩) htake))
end
end HT
namespace L2
open PySem PySem.Spec PyProof.Rows
abbrev TO:=St->Hp->(Option Int->Hp->Prop)->Prop
def PO (X:Cx) (e:Option Expr) (t:TO):Prop :=
 ∀(pz:List (Addr×Obj)) (s:Shared) (σ:St) (H:Hp) (Q:Option Int->Hp->Prop),Inv X pz σ H s->t σ H Q →
  wpAny (model X.prog X.w) X.A (evalPart e X.env) (λu s'=>∃o H',Inv X pz σ H' s'/\IsPart u o/\Q o H') X.xe s
def zgw:TO:=λ_ H Q=>Q none H
def zkL (t:TE):TO:=λσ H Q=>t σ H λx H1=>∃i,x=.int i/\Q (some i) H1
section
variable {X:Cx}{e:Expr}{te:TE}{lo hi:Option Expr}{tl th:TO}{pos p2:Pos}
theorem Qn:PO X none zgw:=by
 intro pz s σ H Q I h
 rw[evalPart_none]
 exact wj ⟨none,H,I,.none,h⟩
theorem xO (h:PE X e te):PO X (some e) (zkL te):=by
 intro pz s σ H Q I hw
 rw[evalPart_some]
 refine thn (h pz s σ H _ I hw) λu s1 ⟨x,H1,I1,r1,q1⟩=>?_
 obtain⟨i,rfl,q⟩:=q1
 obtain⟨t,rfl⟩:=r1
 exact⟨some i,H1,I1,.int i t,q⟩
def SlR (X:Cx) (r:V->Option Int->Option Int->Hp->VK->Prop):Prop :=
 ∀(pz:List (Addr×Obj)) (s:Shared) (σ:St) (H:Hp) (x:V) (v vl vu:Value) (lo hi:Option Int) (sl:Addr) (Q:VK),Inv X pz σ H s->xq x v->s.heap.IsSliceOf sl vl vu .none->IsPart vl lo->IsPart vu hi->r x lo hi H Q →
  ∃T id,typeLookup (.type T) "__getitem__" = pure (some (.builtin id))/\s.TypeIs v T/\wpAny (model X.prog X.w) X.A (getItem v (.ref sl)) (EP X pz σ Q) X.xe s
theorem SlR.or {r r':V->Option Int->Option Int->Hp->VK->Prop}(h:SlR X r) (h':SlR X r'):SlR X (λx lo hi H Q=>r x lo hi H Q\/r' x lo hi H Q):=by
 intro pz s σ H x v vl vu lo hi sl Q I rx hs pl pu q
 rcases q with q | q
 ·exact h pz s σ H x v vl vu lo hi sl Q I rx hs pl pu q
 ·exact h' pz s σ H x v vl vu lo hi sl Q I rx hs pl pu q
def tSl (r:V->Option Int->Option Int->Hp->VK->Prop) (te:TE) (tl th:TO):TE:=λσ H Q=>te σ H λx H1=>tl σ H1 λl H2=>th σ H2 λu H3=>r x l u H3 Q
theorem qx {r:V->Option Int->Option Int->Hp->VK->Prop}(hr:SlR X r) (he:PE X e te) (hl:PO X lo tl) (hu:PO X hi th):PE X (.Subscript e (.Slice lo hi none p2) pos) (tSl r te tl th):=by
 intro pz s σ H Q I h
 refine Subscript_ (thn (he pz s σ H _ I h) λv s1 ⟨x,H1,I1,r1,q1⟩=>?_)
 refine Yl (thn (hl pz s1 σ H1 _ I1 q1) λvl s2 ⟨l,H2,I2,pl,q2⟩=>thn (hu pz s2 σ H2 _ I2 q2) λvu s3 ⟨u,H3,I3,pu,q3⟩=>?_)
 rw[evalPart_none]
 refine wj ?_
 have I4:Inv X pz σ H3 { s3 with heap:=s3.heap.push { cls:=.type "slice",data:=.fields #[vl,vu,.none] } }:=I3.kept (t':=s3.toks) λb ob q=>we _ q
 obtain⟨T,id,hT,ht,hg⟩:=hr pz { s3 with heap:=s3.heap.push { cls:=.type "slice",data:=.fields #[vl,vu,.none] } } σ H3 x v vl vu l u s3.heap.objs.size Q I4 r1 (Heap.IsSliceOf.new ..) pl pu q3
 show wpAny (model X.prog X.w) X.A (subscriptTail e (.Slice lo hi none p2) v (.ref s3.heap.objs.size)) (EP X pz σ Q) X.xe { s3 with heap:=s3.heap.push { cls:=.type "slice",data:=.fields #[vl,vu,.none] } }
 exact tail_any (ops:=[.ref s3.heap.objs.size,v]) ht hT hg (by with_unfolding_all rfl)
def xW (xs:List V) (lo hi:Option Int):List V:=(xs.drop (HT.sIx xs.length 0 lo)).take (HT.sIx xs.length xs.length hi-HT.sIx xs.length 0 lo)
theorem qR (xs:List V) (lo hi:Option Int):(xW xs lo hi).length<=xs.length:=by
 unfold xW
 rw[yd,yf]
 lia
def zkh (K:Fg):V->Option Int->Option Int->Hp->VK->Prop:=λx lo hi H Q=>∃a xs,x=.ref a/\SqT K H a xs ∧
 ¬(HT.sIx xs.length 0 lo=0/\HT.sIx xs.length xs.length hi=xs.length)/\∀p,H p=none->Q (.ref p) (upd H p (.tup (xW xs lo hi)))
theorem zey:SlR X (zkh X.K):=by
 intro pz s σ H x v vl vu lo hi sl Q I rx hs pl pu h
 obtain⟨a,xs,rfl,hx,hw,q⟩:=h
 cases rx
 obtain⟨its,r,ht,hz⟩:=I.tuple hx
 have hlen:its.toArray.size=xs.length:=by rw[wy];exact r.length.symm
 refine⟨"tuple",_,wW.lookup,ht.typeIs,?_⟩
 refine HT.getItem_tuple_cut ht hs pl pu (by rw[hlen];exact hw) ?_ (by rw[hlen];exact hz)
 rw[hlen]
 refine⟨.ref s.heap.objs.size,_,I.laid (t':=s.toks) (o:=.tup (xW xs lo hi)) (λb ob q=>we _ q) (wo _) ?_,rL,q _ (I.hok.fresh (wo _))⟩
 exact⟨⟨wV (qR xs lo hi) hz,.new⟩,_,(r.drop (HT.sIx xs.length 0 lo)).take (HT.sIx xs.length xs.length hi-HT.sIx xs.length 0 lo),IsTup.new _ _⟩
inductive zee (K:Fg) (x:V) (y:V) (H:Hp) (Q:VK):Prop
 |mk:∀a b xs ys,(x=.ref a)->(y=.ref b)->(SqT K H a xs)->(SqT K H b ys)->(xs≠[])->(xs.length+ys.length<=sizeLine)->((ys=[]->Q (.ref a) H))->((ys≠[]->∀p,H p=none->Q (.ref p) (upd H p (.tup (xs++ys)))))->zee K x y H Q
def zke (K:Fg):R2:=λx y H Q=>zee K x y H Q
theorem zY.nil_iff {xs:List V}{us:List Value}(r:zY xs us):us=[]↔xs=[]:=by
 cases r with
 |nil=>simp
 |cons _ _=>simp
theorem zfG:OpR X (binaryOp .Add) (zke X.K):=by
 intro pz s σ H x y v u Q I rx ry h
 obtain⟨a,b,xs,ys,rfl,rfl,ha,hb,hx,hz,q1,q2⟩:=h
 cases rx
 cases ry
 obtain⟨its,r1,p1,_⟩:=I.tuple ha
 obtain⟨its2,r2,p2,_⟩:=I.tuple hb
 refine HT.cat_tup p1 p2 (λz=>hx (r1.nil_iff.mp z)) (λz=>⟨.ref a,H,I,rfl,q1 (r2.nil_iff.mp z)⟩) (λz=>?_) (by rw[<-r1.length,<-r2.length];exact hz)
 refine⟨.ref s.heap.objs.size,_,I.laid (t':=s.toks) (o:=.tup (xs++ys)) (λb ob q=>we _ q) (wo _) ?_,rL,q2 (λw=>z (r2.nil_iff.mpr w)) _ (I.hok.fresh (wo _))⟩
 exact⟨⟨by rw[wC];exact hz,.new⟩,_,r1.append r2,IsTup.new _ _⟩
end
def ixN (n:Nat) (i:Int):Option Nat:=if 0<=i then(if i<n then some i.toNat else none)else if -(n:Int)<=i then some (i+n).toNat else none
def atI {α:Type}(xs:List α) (i:Int):Option α:=(ixN xs.length i).bind λj=>xs[j]?
def zbs {n:Nat}{i:Int}{j:Nat}(h:ixN n i=some j):seqIndex? i n=some j/\j<n ∧ -(n:Int)<=i/\i<n:=by
 unfold ixN at h
 by_cases h0:0<=i
 ·rw[if_pos h0]at h
  by_cases h1:i<n
  ·rw[if_pos h1]at h
   have e:i.toNat=j:=Option.some.inj h
   exact⟨by rw[seqIndex_of h0 h1,e],by lia,by lia,h1⟩
  ·rw[if_neg h1]at h;cases h
 ·rw[if_neg h0]at h
  by_cases h1 : -(n:Int)<=i
  ·rw[if_pos h1]at h
   have e:(i+n).toNat=j:=Option.some.inj h
   exact⟨by rw[seqIndex_neg ∅ h1,e],by lia,h1,by lia⟩
  ·rw[if_neg h1]at h;cases h
def zba {α:Type}{xs:List α}{i:Int}{v:α}(h:atI xs i=some v):∃j,seqIndex? i xs.length=some j/\xs[j]?=some v/\j<xs.length ∧ -(xs.length:Int)<=i/\i<xs.length:=by
 unfold atI at h
 cases e:ixN xs.length i with
 |none=>rw[e]at h;cases h
 |some j =>
  rw[e]at h
  obtain⟨h1,h2,h3,h4⟩:=zbs e
  exact⟨j,h1,h,h2,h3,h4⟩
def vo {α:Type}{xs:List α}{j:Nat}{v:α}(h:xs[j]?=some v):atI xs (j:Int)=some v:=by
 have hj:j<xs.length:=(wn.mp h).1
 have e:ixN xs.length (j:Int)=some j:=by
  unfold ixN
  rw[if_pos ∅,if_pos ∅];simp
 unfold atI;rw[e];exact h
def Jm {α:Type}(xs:List α) (v:α):atI (xs++[v]) (-1)=some v:=by
 have hl:(xs++[v]).length=xs.length+1:=by simp
 have e:ixN (xs++[v]).length (-1)=some xs.length:=by
  unfold ixN
  rw[hl,if_neg (by decide),if_pos ∅]
  congr 1
  lia
 unfold atI
 rw[e]
 show (xs++[v])[xs.length]?=some v
 simp
def za9 (b:Expr):Prop:=∀o i,subscripted b false o i=operate [o,i] (getItem o i)
def IxR (X:Cx) (r:R2):Prop :=
 ∀(value slice:Expr) (pz:List (Addr×Obj)) (s:Shared) (σ:St) (H:Hp) (x y:V) (v u:Value) (Q:VK),Inv X pz σ H s->xq x v->xq y u->r x y H Q →
  subscripted slice false v u=operate [v,u] (getItem v u)->wpAny (model X.prog X.w) X.A (subscriptTail value slice v u) (EP X pz σ Q) X.xe s
def MtR (X:Cx) (id:String) (r:V->List V->Hp->VK->Prop):Prop :=
 ∀(pz:List (Addr×Obj)) (s:Shared) (σ:St) (H:Hp) (x:V) (xs:List V) (v:Value) (us:List Value) (Q:VK),Inv X pz σ H s->xq x v->zY xs us->r x xs H Q →
  wpAny (model X.prog X.w) X.A (call (.builtin id) (v::us)) (EP X pz σ Q) X.xe s
section
variable {X:Cx}{a b:Expr}{ta tb:TE}{pos:Pos}
theorem xz {r:R2}(hr:IxR X r) (ha:PE X a ta) (hb:PE X b tb) (hs:za9 b):PE X (.Subscript a b pos) (tOp r ta tb):=by
 intro pz s σ H Q I h
 exact Subscript_ (zht ha hb I h λv u s2 x y H2 I2 rx ry q=>hr a b pz s2 σ H2 x y v u Q I2 rx ry q (hs _ _))
inductive zgZ (K:Fg) (x:V) (y:V) (H:Hp) (Q:VK):Prop
 |mk:∀p xs i v,(x=.ref p)->(y=.int i)->(SqL K H p xs)->(atI xs i=some v)->(Q v H)->zgZ K x y H Q
def zim (K:Fg):R2:=λx y H Q=>zgZ K x y H Q
inductive zg0 (K:Fg) (x:V) (y:V) (H:Hp) (Q:VK):Prop
 |mk:∀p xs i v,(x=.ref p)->(y=.int i)->(SqT K H p xs)->(atI xs i=some v)->(Q v H)->zg0 K x y H Q
def ZF (K:Fg):R2:=λx y H Q=>zg0 K x y H Q
theorem xn:IxR X (zim X.K):=by
 intro value slice pz s σ H x y v u Q I rx ry h hs
 obtain⟨p,xs,i,z,rfl,rfl,hq,he,q⟩:=h
 cases rx
 obtain⟨t,rfl⟩:=ry
 obtain⟨its,r,pl,hz⟩:=I.list hq
 obtain⟨j,h1,h2,h3,h4,h5⟩:=zba he
 obtain⟨w,ew,rw'⟩:=r.get h2
 have hl:=r.length
 have hn:=VY
 have fin:EP X pz σ Q w s:=⟨z,H,I,rw',q⟩
 by_cases h0:0<=i
 ·have hj:i.toNat=j:=by
   rw[seqIndex_of h0 h5]at h1
   exact Option.some.inj h1
  exact item_listR pl.isList h0 ∅ (by rw[hj];simpa using ew) fin hs
 ·have hj:(i+(its.toArray.size:Int)).toNat=j:=by
   rw[seqIndex_neg ∅ h4]at h1
   rw[wy,<-hl]
   exact Option.some.inj h1
  exact subscriptTail_builtinR (x:=w) pl.isList.typeIs slot_list_getitem.lookup
   (wpAny_getItem_list_neg (Q:=λr s'=>r=w/\EP X pz σ Q r s') pl.isList ∅ (by rw[wy] <;> lia) ∅ (by rw[hj];simpa using ew) ⟨rfl,fin⟩) hs
theorem zay:IxR X (ZF X.K):=by
 intro value slice pz s σ H x y v u Q I rx ry h hs
 obtain⟨p,xs,i,z,rfl,rfl,hq,he,q⟩:=h
 cases rx
 obtain⟨t,rfl⟩:=ry
 obtain⟨its,r,pl,hz⟩:=I.tuple hq
 obtain⟨j,h1,h2,h3,h4,h5⟩:=zba he
 obtain⟨w,ew,rw'⟩:=r.get h2
 have hl:=r.length
 have hn:=VY
 have fin:EP X pz σ Q w s:=⟨z,H,I,rw',q⟩
 exact subscriptTail_builtinR (x:=w) pl.typeIs slot_tuple_getitem.lookup
  (getItem_tuple (j:=j) (Q:=λr s'=>r=w/\EP X pz σ Q r s') pl ∅ ∅ (by rw[wy,<-hl];exact h1) ↥ew ⟨rfl,fin⟩) hs
theorem pxt {a:Expr}{ta:TE}{i:Int}{j:_}{p q:Pos}(ha:PE X a ta):PE X (.Subscript a (.Constant (.int i) j p) q) (tOp (ZF X.K) ta (tC (.int i))):=xz zay ha zi (λ_ _=>rfl)
theorem zaF (its:List Value) (n j:Nat) (u:Value):Obj.mapSeq (·.setIfInBounds j u) { cls:=.type "list",data:=.seq its.toArray n } = { cls:=.type "list",data:=.seq (its.set j u).toArray n }:=by
 simp[Obj.mapSeq]
theorem Inv.lst {pz:List (Addr×Obj)}{σ:St}{H:Hp}{s:Shared}{p:Addr}{xs:List V}(I:Inv X pz σ H s) (h:H p=some (.lst xs)) :
  ∃(its:List Value) (n:Nat),zY xs its/\s.heap.get? p=some { cls:=.type "list",data:=.seq its.toArray n }/\xs.length<=sizeLine:=by
 obtain⟨z,its,n,r,e⟩:=I.hok p _ h
 exact⟨its,n,r,e,z⟩
theorem Inv.lstUpd {pz:List (Addr×Obj)}{σ:St}{H:Hp}{s:Shared}{p:Addr}{xs ys:List V}{its its':List Value}{n n':Nat}{f:Obj->Obj}(I:Inv X pz σ H s) (h:H p=some (.lst xs))
  (ho:s.heap.get? p=some { cls:=.type "list",data:=.seq its.toArray n }) (hf:f { cls:=.type "list",data:=.seq its.toArray n } = { cls:=.type "list",data:=.seq its'.toArray n' }) (r:zY ys its') (hz:ys.length<=sizeLine) (t:Nat) :
  Inv X pz σ (upd H p (.lst ys)) { s with heap:=s.heap.update p f,toks:=t }:=by
 have e:(s.heap.update p f).get? p=some { cls:=.type "list",data:=.seq its'.toArray n' }:=by
  rw[yy f ho (by rw[hf] <;> rfl),hf]
 refine I.write (x:=p) (e:=p) (by rw[h];trivial) (.inl rfl) (λb u hb q=>(yv _ _ (Ne.symm hb)).trans q) ⟨_,e⟩ ?_
 exact⟨hz,its',n',r,e⟩
def zkg:V->V->V->Hp->(Hp->Prop)->Prop:=λo i v H Q=>∃p xs k j,o=.ref p/\i=.int k/\H p=some (.lst xs)/\ixN xs.length k=some j/\Q (upd H p (.lst (xs.set j v)))
theorem Zu:zjb X zkg:=by
 intro pz s σ H o i v ov iv u Q I ro ri rv h
 obtain⟨p,xs,k,j,rfl,rfl,hp,hj,q⟩:=h
 cases ro
 obtain⟨t,rfl⟩:=ri
 obtain⟨its,n,r,ho,hz⟩:=I.lst hp
 obtain⟨h1,h2,h3,h4⟩:=zbs hj
 have hl:=r.length
 have hn:=VY
 have I':Inv X pz σ (upd H p (.lst (xs.set j v))) { s with heap:=s.heap.update p (Obj.mapSeq (·.setIfInBounds j u)) } :=
  I.lstUpd hp ho (zaF its n j u) (r.set rv j) (by rw[List.length_set];exact hz) s.toks
 by_cases h0:0<=k
 ·have hk:k.toNat=j:=by
   rw[seqIndex_of h0 h4]at h1
   exact Option.some.inj h1
  exact PySem.W.ki_setAt ho h0 ∅ (by rw[wy,<-hl];exact h4) (by rw[hk];exact⟨_,I',q⟩)
 ·have hk:(k+(its.toArray.size:Int)).toNat=j:=by
   rw[seqIndex_neg ∅ h3]at h1
   rw[wy,<-hl]
   exact Option.some.inj h1
  exact PySem.W.ki_setBack ho ∅ (by rw[wy,<-hl];exact h3) ∅ (by rw[hk];exact⟨_,I',q⟩)
theorem Ja (lo hi:Option Int) (n:Nat):(sliceBounds lo hi none n).1=((HT.sIx n 0 lo:Nat):Int)/\(sliceBounds lo hi none n).2.1=((HT.sIx n n hi:Nat):Int)/\(sliceBounds lo hi none n).2.2=1:=by
 refine⟨?_,?_,rL⟩
 ·cases lo with
  |none=>simp[sliceBounds,HT.sIx]
  |some i =>
   simp only[sliceBounds,HT.sIx,W5,show (1:Int)>0 by decide,if_true]
   by_cases h:i<0
   ·simp only[h,if_true] <;> lia
   ·simp only[h,if_false] <;> lia
 ·cases hi with
  |none=>simp[sliceBounds,HT.sIx]
  |some i =>
   simp only[sliceBounds,HT.sIx,W5,show (1:Int)>0 by decide,if_true]
   by_cases h:i<0
   ·simp only[h,if_true] <;> lia
   ·simp only[h,if_false] <;> lia
theorem Vm (its:List Value) (lo hi:Option Int):slicePick its.toArray lo hi none=((its.drop (HT.sIx its.length 0 lo)).take (HT.sIx its.length its.length hi-HT.sIx its.length 0 lo)).toArray:=by
 obtain⟨h1,h2,h3⟩:=Ja lo hi its.toArray.size
 unfold slicePick
 rw[h1,h2,h3]
 simp only[sliceRange_one,pick_run,wy] <;> rfl
def rSlL (K:Fg):V->Option Int->Option Int->Hp->VK->Prop:=λx lo hi H Q=>∃a xs,x=.ref a/\SqL K H a xs/\∀p,H p=none->Q (.ref p) (upd H p (.lst (xW xs lo hi)))
theorem vX:SlR X (rSlL X.K):=by
 intro pz s σ H x v vl vu lo hi sl Q I rx hs pl pu h
 obtain⟨a,xs,rfl,hx,q⟩:=h
 cases rx
 obtain⟨its,r,ht,hz⟩:=I.list hx
 have hlen:=r.length
 refine⟨"list",_,slot_list_getitem.lookup,ht.isList.typeIs,?_⟩
 refine WY ht.isList hs pl pu .none (by simp) ?_ (by rw[wy] <;> lia)
 rw[Vm,<-hlen]
 refine⟨.ref s.heap.objs.size,_,I.laid (t':=s.toks) (o:=.lst (xW xs lo hi)) (λb ob q=>we _ q) (wo _) ?_,rL,q _ (I.hok.fresh (wo _))⟩
 exact⟨wV (qR xs lo hi) hz,_,0,(r.drop (HT.sIx xs.length 0 lo)).take (HT.sIx xs.length xs.length hi-HT.sIx xs.length 0 lo),wu _ rL⟩
theorem qg:ZG X (.builtin "len") (λxs H Q=>∃p ys,xs=[.ref p]/\(SqL X.K H p ys\/SqT X.K H p ys)/\Q (.int ys.length) H):=by
 intro pz s σ H xs us Q I r h
 obtain⟨p,ys,rfl,hq,q⟩:=h
 obtain⟨u,rfl,rx⟩:=Xi r
 cases rx
 have hn:=VY
 rcases hq with hq | hq
 ·obtain⟨its,r',pl,hz⟩:=I.list hq
  have hlen:=r'.length
  exact Calls.call_len_list pl.isList (by simp only[wy] <;> lia) ⟨.int ys.length,H,I.tok _,⟨s.toks+1,by rw[wy,hlen]⟩,q⟩
 ·obtain⟨its,r',pl,hz⟩:=I.tuple hq
  have hlen:=r'.length
  exact len_tuple pl (by simp only[wy] <;> lia) ⟨.int ys.length,H,I.tok _,⟨s.toks+1,by rw[wy,hlen]⟩,q⟩
theorem VO:ZG X (.type "list") (λxs H Q=>∃p ys,xs=[.ref p]/\(SqL X.K H p ys\/SqT X.K H p ys)/\∀l,H l=none->Q (.ref l) (upd H l (.lst ys))):=by
 intro pz s σ H xs us Q I r h
 obtain⟨p,ys,rfl,hq,q⟩:=h
 obtain⟨u,rfl,rx⟩:=Xi r
 cases rx
 have fin:∀(its:List Value),zY ys its->ys.length<=sizeLine->∀(h':Heap) (c':Nat),(∀b o',s.heap.get? b=some o'->h'.get? b=some o') →
   h'.get? s.heap.objs.size=some { cls:=.type "list",dict:=none,data:=.seq its.toArray c',slots:=#[] }->EP X pz σ Q (.ref s.heap.objs.size) { s with heap:=h' }:=λits r' hz h' c' kp e =>
  ⟨.ref s.heap.objs.size,_,I.laid (t':=s.toks) kp (wo _) (show xu X.prog X.w _ h' _ (.lst ys)from⟨hz,its,c',r',e⟩),rfl,q _ (I.hok.fresh (wo _))⟩
 rcases hq with hq | hq
 ·obtain⟨its,r',pl,hz⟩:=I.list hq
  have hlen:=r'.length
  obtain⟨o,ho,hc,n,hd⟩:=pl.isList
  exact call_list_seq p (.inl rfl) ho hc hd (λh' c' kp e=>fin its r' hz h' c' kp e) (by simp only[wy] <;> lia)
 ·obtain⟨its,r',pl,hz⟩:=I.tuple hq
  have hlen:=r'.length
  obtain⟨o,ho,hc,n,hd⟩:=pl
  exact call_list_seq p (.inr rfl) ho hc hd (λh' c' kp e=>fin its r' hz h' c' kp e) (by simp only[wy] <;> lia)
theorem xK:ZG X (.type "tuple") (λxs H Q=>∃p ys,xs=[.ref p]/\((SqL X.K H p ys/\∀l,H l=none->Q (.ref l) (upd H l (.tup ys)))\/(SqT X.K H p ys/\Q (.ref p) H))):=by
 intro pz s σ H xs us Q I r h
 obtain⟨p,ys,rfl,h⟩:=h
 obtain⟨u,rfl,rx⟩:=Xi r
 cases rx
 rcases h with⟨hq,q⟩ | ⟨hq,q⟩
 ·obtain⟨its,r',pl,hz⟩:=I.list hq
  have hlen:=r'.length
  refine call_tuple_list pl.isList (λh' kp=>?_) (by simp only[wy] <;> lia)
  have I1:Inv X pz σ H { s with heap:=h' }:=I.kept (t':=s.toks) kp
  have I2:Inv X pz σ (upd H h'.objs.size (.tup ys)) { s with heap:=h'.push { cls:=.type "tuple",data:=.seq its.toArray } } :=
   I1.laid (t':=s.toks) (λb o e=>we _ e) (wo _) (show xu X.prog X.w _ _ _ (.tup ys)from⟨⟨hz,.new⟩,its,r',IsTup.new _ _⟩)
  exact⟨.ref h'.objs.size,_,I2,rL,q _ (I1.hok.fresh (wo _))⟩
 ·obtain⟨its,r',pl,hz⟩:=I.tuple hq
  exact call_tuple_same pl ⟨.ref p,H,I,rL,q⟩
def tyV (K:Fg) (T:String) (x:V) (H:Hp):Prop:=match x with
 |.str _=>T = "str"
 |.int _=>T = "int"
 |.ref p=>(T = "list"/\∃xs,SqL K H p xs)\/(T = "tuple"/\∃o,K.lookup p=some o/\o.cls=.type "tuple"/\o.dict=none) ∨
   (T = "dict"/\((∃kvs,H p=some (.dK kvs))\/∃kvs,H p=some (.dT kvs)))\/(T = "set"/\∃S n,H p=some (.set S n))
 |_=>False
theorem zi3 {pz:List (Addr×Obj)}{σ:St}{H:Hp}{s:Shared}{T:String}{x:V}{v:Value}(I:Inv X pz σ H s) (r:xq x v) (ty:tyV X.K T x H) :
  s.TypeIs v T/\∀a,v=.ref a->∃ob,s.heap.get? a=some ob/\ob.dict=none:=by
 cases x with
 |str z =>
  obtain⟨t,rfl⟩:=r
  cases(show T = "str" from ty)
  exact⟨typeIs_str s z t,λ_ e=>nomatch e⟩
 |int i =>
  obtain⟨t,rfl⟩:=r
  cases(show T = "int" from ty)
  exact⟨typeIs_int s i t,λ_ e=>nomatch e⟩
 |ref p =>
  cases r
  rcases ty with⟨rfl,xs,hq⟩ | ⟨rfl,o,hk,hc,hd⟩ | ⟨rfl,hk⟩ | ⟨rfl,S,n,hk⟩
  ·obtain⟨its,_,pl,_⟩:=I.list hq
   refine⟨pl.isList.typeIs,λa e=>?_⟩
   cases e
   obtain⟨o,n,e,c,hd,_⟩:=pl
   exact⟨o,e,hd⟩
  ·refine⟨⟨o,I.kIn p o hk,hc⟩,λa e=>?_⟩
   cases e
   exact⟨o,I.kIn _ o hk,hd⟩
  ·have z:∃o,s.heap.get? p=some o/\o.ExactDict:=by
    rcases hk with⟨kvs,hk⟩ | ⟨kvs,hk⟩
    ·obtain⟨_,_,_,_,o,_,_,e,ex,_⟩:=I.hok p _ hk
     exact⟨o,e,ex⟩
    ·obtain⟨_,_,_,_,o,_,_,e,ex,_⟩:=I.hok p _ hk
     exact⟨o,e,ex⟩
   obtain⟨o,e,ex⟩:=z
   refine⟨⟨o,e,ex.1⟩,λa e2=>?_⟩
   cases e2
   exact⟨o,e,ex.2.1⟩
  ·obtain⟨o,_,_,_,e,ex,_⟩:=I.hok p _ hk
   refine⟨⟨o,e,ex.1⟩,λa e2=>?_⟩
   cases e2
   exact⟨o,e,ex.2.1⟩
 |_=>exact False.elim ty
def tBM (K:Fg) (T:String) (r:V->List V->Hp->VK->Prop) (to:TE) (t:TA):TE:=λσ H Q=>to σ H λx H1=>tyV K T x H1/\t σ H1 λxs H2=>r x xs H2 Q
variable {o e:Expr}{es:List Expr}{to:TE}{t:TA}{name:Str}{apos cpos:Pos}{T id:String}{r:V->List V->Hp->VK->Prop}
theorem X8 (pa:PlainAttrs T) (slot:Slot T name id) (hty:typeOf (.builtin id)=pure (.type "method_descriptor")) (hm:MtR X id r) (ho:PE X o to) (ha:PA X (e::es) t)
  (hbase:attributeBase o name X.env (eval o X.env)=eval o X.env:=by rfl)
  (hfew:((backTo cpos (starEach (e::es) X.env)).all (λx=>!x.1)&&(backToKw cpos (keywordEach [] X.env)).all (λx=>x.1.isSome)
   && decide ((e::es).length+([]:List Keyword).length+(if([]:List Keyword).isEmpty then 0 else 1)<30))=true:=by rfl)
  (hline:(apos.endLine == cpos.line)=true:=by rfl) (hs:starEach (e::es) X.env=(false,eval e X.env)::starEach es X.env:=by rfl) (hplain:(backTo cpos (starEach es X.env)).any (·.1)=false:=by rfl) :
  PE X (.Call (.Attribute o name apos) (e::es) [] cpos) (tBM X.K T r to t):=by
 intro pz s σ H Q I h
 refine wpAny_Call_method_late hbase hfew hline rL (thn (ho pz s σ H _ I h) λv s1 ⟨x,H1,I1,r1,ty,q1⟩=>?_)
 obtain⟨h1,h2⟩:=zi3 I1 r1 ty
 refine⟨T,id,pa,slot,hty,h1,h2,?_⟩
 have hA:=ha cpos pz s1 σ H1 _ I1 q1
 rw[hs]at hA ⊢
 refine Calls.callWith_builtin (by show (false || (backTo cpos (starEach es X.env)).any (·.1))=false;rw[hplain] <;> rfl) (Calls.evalArgs_plain ?_)
 exact thn hA λus s2 ⟨vs,H2,I2,r2,q2⟩=>hm pz s2 σ H2 x vs v us Q I2 r1 r2 q2
end
def MtM (X:Cx) (id:String) (r:V->List V->Hp->VK->Prop):Prop :=
 ∀(pz:List (Addr×Obj)) (s:Shared) (σ:St) (H:Hp) (x:V) (xs:List V) (v:Value) (us:List Value) (Q:VK),Inv X pz σ H s->xq x v->zY xs us->r x xs H Q →
  wpAny (model X.prog X.w) X.A (call (.builtin id) (v::us)) (EP X pz σ Q) X.xe s
def zY.one:∀{x:V}{us:List Value},zY [x] us->∃u,us=[u]/\xq x u
 |_,_,.cons r .nil=>⟨_,rfl,r⟩
def zY.two:∀{x y:V}{us:List Value},zY [x,y] us->∃u v,us=[u,v]/\xq x u/\xq y v
 |_,_,_,.cons r (.cons q .nil)=>⟨_,_,rfl,r,q⟩
def zY.rep {xs:List V}{us:List Value}(h:zY xs us):∀k:Nat,zY (List.replicate k xs).flatten (List.replicate k us).flatten
 |0=>.nil
 |k+1=>by
  rw[yV,yV,uP,uP]
  exact zY.append h (zY.rep h k)
def Vx (its:List Value):∀(k:Nat) (acc:List Value),
  List.foldl (λx1 x2=>x1++x2) acc.toArray (List.replicate k its.toArray)=(acc++(List.replicate k its).flatten).toArray
 |0,acc=>by simp
 |k+1,acc=>by
  have e:acc.toArray++its.toArray=(acc++its).toArray:=by simp
  have e2:(acc++its)++(List.replicate k its).flatten=acc++(List.replicate (k+1) its).flatten:=by
   rw[yV,uP,WS]
  rw[<-e2,<-Vx its k (acc++its),<-e,yV,List.foldl_cons]
section
variable {X:Cx}{pz:List (Addr×Obj)}{σ:St}{H:Hp}{s:Shared}{l b:Addr}{xs ys zs:List V}
theorem Inv.lset {its its':List Value}{n:Nat}{f:Array Value->Array Value}{t':Nat}(I:Inv X pz σ H s) (hH:H l=some (.lst xs))
  (e:s.heap.get? l=some { cls:=.type "list",data:=.seq its.toArray n }) (hf:f its.toArray=its'.toArray) (hv:zY ys its') (hz:ys.length<=sizeLine) :
  Inv X pz σ (upd H l (.lst ys)) { s with heap:=s.heap.update l (Obj.mapSeq f),toks:=t' }:=by
 have q:=PySem.IsL.update e f
 rw[hf]at q
 refine I.write (x:=l) (e:=l) (by rw[hH];exact trivial) (.inl rfl) (λb' u hb hu=>(yv s.heap (Obj.mapSeq f) (Ne.symm hb)).trans hu) ⟨_,q⟩ ?_
 exact⟨hz,its',_,hv,q⟩
theorem Inv.lnew {its:List Value}{t':Nat}(I:Inv X pz σ H s) (hv:zY ys its) (hz:ys.length<=sizeLine) :
  Inv X pz σ (upd H s.heap.objs.size (.lst ys)) { s with heap:=s.heap.push { cls:=.type "list",data:=.seq its.toArray },toks:=t' } :=
 I.laid (λ_ _ q=>we _ q) (wo _) ⟨hz,its,0,hv,wu _ rfl⟩
theorem Inv.fresh (I:Inv X pz σ H s):H s.heap.objs.size=none:=I.hok.fresh (wo _)
theorem Inv.lstM (I:Inv X pz σ H s) (hH:H l=some (.lst xs)):xs.length<=sizeLine/\∃(its:List Value) (n:Nat),zY xs its/\xs.length=its.length/\s.heap.get? l=some { cls:=.type "list",data:=.seq its.toArray n }:=by
 obtain⟨z,its,n,r,e⟩:=I.hok l _ hH
 exact⟨z,its,n,r,r.length,e⟩
theorem QK {n:Nat}(h:n<=sizeLine):Builtin.List.listTooLong n=false:=by
 unfold Builtin.List.listTooLong
 exact wQ ∅
end
section
variable {X:Cx}
def zfU:V->List V->Hp->VK->Prop:=λx vs H Q=>∃l xs y,x=.ref l/\vs=[y]/\H l=some (.lst xs)/\xs.length<sizeLine/\Q .non (upd H l (.lst (xs++[y])))
theorem qu:MtM X "list.append" zfU:=by
 intro pz s σ H x vs v us Q I rx rv h
 obtain⟨l,xs,y,rfl,rfl,hH,hz,q⟩:=h
 cases rx
 obtain⟨u,rfl,ru⟩:=rv.one
 obtain⟨z,its,n,r,hl,e⟩:=I.lstM hH
 refine call_meets F.slot_list_append ⟨_,e,rfl⟩ F.entry_list_append (F.args_list_append_2 _ _) (PySem.list_append l its.toArray n u (by rw[wy];lia)) ⟨e,?_⟩
 refine⟨.non,_,I.lset (its':=its++[u]) hH e (by simp) (r.append (.cons ru .nil)) ?_,rfl,q⟩
 rw[wC,Wm]
 lia
inductive zgX (x:V) (y:V) (H:Hp) (Q:VK):Prop
 |mk:∀l b xs zs,(x=.ref l)->(y=.ref b)->(H l=some (.lst xs))->(H b=some (.lst zs))->(xs.length+zs.length<=sizeLine)->(∀p,H p=none->Q (.ref p) (upd H p (.lst (xs++zs))))->zgX x y H Q
def rCat:R2:=λx y H Q=>zgX x y H Q
theorem zaK:OpR X (binaryOp .Add) rCat:=by
 intro pz s σ H x y v u Q I rx ry h
 obtain⟨l,b,xs,zs,rfl,rfl,hH,hB,hz,q⟩:=h
 cases rx
 cases ry
 obtain⟨z,its,n,r,hl,e⟩:=I.lstM hH
 obtain⟨z2,its2,n2,r2,hl2,e2⟩:=I.lstM hB
 refine PySem.P.add_list e e2 ?_ (by rw[wy,wy];lia)
 have ea:its.toArray++its2.toArray=(its++its2).toArray:=by simp
 rw[ea]
 exact⟨.ref _,_,I.lnew (t':=s.toks) (r.append r2) (by rw[wC];lia),rfl,q _ I.fresh⟩
inductive zg1 (x:V) (y:V) (H:Hp) (Q:VK):Prop
 |mk:∀l k xs,(x=.ref l)->(y=.int k)->(H l=some (.lst xs))->(-(2^63)<=k)->(k<2^63)->(xs.length*k.toNat<=sizeLine)->(∀p,H p=none->Q (.ref p) (upd H p (.lst (List.replicate k.toNat xs).flatten)))->zg1 x y H Q
def rRep:R2:=λx y H Q=>zg1 x y H Q
theorem zfp {α:Type}(xs:List α) (k:Nat):(List.replicate k xs).flatten.length=k*xs.length:=by
 induction k with
 |zero=>simp
 |succ k ih=>rw[yV,uP,wC,ih,Nat.succ_mul,Nat.add_comm]
theorem zd2:OpR X (binaryOp .Mult) rRep:=by
 intro pz s σ H x y v u Q I rx ry h
 obtain⟨l,k,xs,rfl,rfl,hH,h1,h2,hz,q⟩:=h
 cases rx
 obtain⟨t,rfl⟩:=ry
 obtain⟨z,its,n,r,hl,e⟩:=I.lstM hH
 have hlen:its.toArray.size*k.toNat<=sizeLine:=by rw[wy,<-hl];exact hz
 have hcap:¬its.toArray.size*k.toNat>(2^63-1)/8:=by
  have:(sizeLine:Nat)<=(2^63-1)/8:=by decide
  lia
 have hfit:¬(!Builtin.List.listFitsIndex k)=true:=by
  rw[fitsIndex_both h1 h2]
  exact wL
 have hlong:¬Builtin.List.listTooLong (its.toArray.size*k.toNat)=true:=by
  rw[QK hlen]
  exact wL
 have hnew:List.foldl (λx1 x2=>x1++x2) #[] (List.replicate (if its.toArray.isEmpty=true then 0 else k.toNat) its.toArray)=(List.replicate k.toNat its).flatten.toArray:=by
  have f0:∀m:Nat,List.foldl (λx1 x2=>x1++x2) #[] (List.replicate m its.toArray)=(List.replicate m its).flatten.toArray:=λm=>by
   have:=Vx its m []
   rw[List.nil_append]at this
   exact this
  rw[f0]
  cases its with
  |nil=>simp
  |cons a r'=>rw[if_neg (by simp)]
 refine wpAny_binaryOp_repeat_ref (T:="list") (U:="int") (by decide) ⟨_,e,rfl⟩ (λs'=>typeIs_int s' k t) noFill_list_mul F.fills_int_mul F.slot_int_rmul repeat_list F.slot_int_index.lookup
  (call_meets F.slot_int_rmul (typeIs_int s k t) F.entry_int_rmul (F.args_int_rmul_2 _ _) (int___rmul___int_list k t l its.toArray n)
   ⟨e,rfl,⟨_,e,rfl⟩,call_meets F.slot_list_mul ⟨_,e,rfl⟩ F.entry_list_mul (F.args_list_mul_2 _ _) (AutoListH.list___mul___list_int_3 l its.toArray n k t hfit hcap hlong) ⟨e,?_⟩⟩)
 rw[hnew]
 exact⟨.ref _,_,I.lnew (t':=s.toks) (r.rep k.toNat) (by rw[zfp,Nat.mul_comm];exact hz),rfl,q _ I.fresh⟩
end
section
variable {prog:Program}{w:World}{A:Around}{E:Value->Shared->Prop}{s:Shared}
theorem zcU (its its2:List Value) (a c:Nat):its.toArray.extract 0 a++its2.toArray++its.toArray.extract c its.toArray.size=(its.take a++its2++its.drop c).toArray:=by
 apply Array.toList_inj.mp
 first
  | (simp
     exact w4 (by simp))
  |simp[w4]
  |simp
theorem zaq {a c n:Nat}(hac:a<=c) (hc:c<=n):sliceBounds (some (a:Int)) (some (c:Int)) none n=((a:Int),(c:Int),1):=by
 simp only[sliceBounds,W5]
 have h1:¬((a:Int)<0):=by lia
 have h2:¬((c:Int)<0):=by lia
 simp only[h1,h2,if_false,show (1:Int)>0 by decide,if_true]
 congr 1
 ·lia
 ·congr 1;lia
set_option maxRecDepth 100000 in
theorem Vl {l b sl:Addr}{items new:Array Value}{n n2:Nat}{vl vu:Value}{a c:Nat}{Q:Unit->Shared->Prop}
  (e:s.heap.get? l=some { cls:=.type "list",data:=.seq items n }) (e2:s.heap.get? b=some { cls:=.type "list",data:=.seq new n2 }) (hne:l≠b)
  (hs:s.heap.IsSliceOf sl vl vu .none) (pl:IsPart vl (some (a:Int))) (pu:IsPart vu (some (c:Int))) (hac:a<=c) (hc:c<=items.size)
  (hsz:items.size+new.size<=sizeLine) (h:Q () { s with heap:=s.heap.update l (Obj.mapSeq λxs=>xs.extract 0 a++new++xs.extract c xs.size) }) :
  wpAny (model prog w) A (setItem (.ref l) (.ref sl) (.ref b)) Q E s:=by
 have hl:s.heap.IsList l items:=PySem.IsL.isList e
 have hb:s.heap.IsList b new:=PySem.IsL.isList e2
 obtain⟨os,hos,hcs,hds⟩:=id hs
 have hTs:s.TypeIs (.ref sl) "slice":=⟨os,hos,hcs⟩
 have hstep:¬((rawPart none == rawInt 0)=true):=wL
 have hsame:Builtin.List.listSameRef (.ref l) (.ref b)=false:=by
  unfold Builtin.List.listSameRef
  exact beq_eq_false_iff_ne.mpr hne
 have hmax:(max (a:Int) (c:Int)).toNat=c:=by lia
 have hz':((λxs:Array Value=>xs.extract 0 a++new++xs.extract c xs.size) items).size<=sizeLine+1:=by
  simp only[Array.size_append,Array.size_extract]
  lia
 unfold setItem
 try with_reducible refine yn ?_
 first | refine wc (wj ?_) | skip
 refine wc (Wj hl.typeIs (by decide) ?_)
 refine wc (wpAny_callSpecial?_slot (name:=Str.ofString "__setitem__") hl.typeIs slot_list_setitem
  (yt slot_list_setitem hl.typeIs entry_list_setitem ?_ (args_list_setitem _ _ _)))
 show wpAny _ _ (Builtin.List.listSubscript? (.ref sl) >>= _) _ _ s
 refine wc ?_
 unfold Builtin.List.listSubscript?
 refine wc (Yf hTs slice_no_index ?_)
 simp only[Option.isNone_none,if_true]
 refine wj ?_
 show wpAny _ _ (typeOf (.ref sl) >>= _) _ _ s
 refine wc (uY hTs ?_)
 first
  |rw[if_neg (by decide)]
  |refine PySem.W.KFB.if_not (by decide) ?_
 rw[listSliceParts_eq]
 refine wc (wc (wP hos hds (x:=.none) rL (wc (Yj .none ?_))))
 rw[if_neg hstep]
 refine wc (wP hos hds (x:=vl) rL (wc (Yj pl ?_)))
 refine wc (wP hos hds (x:=vu) rL (wc (Yj pu (wj ?_))))
 first
  |simp only[hsame,uh,if_false]
  |refine PySem.W.KFB.if_not hsame ?_
  | (dsimp only
     rw[if_neg (by rw[hsame];exact wL)])
 refine wc (m:=Builtin.List.listAllItems (.ref b) "must assign iterable to extended slice") ?_
 unfold Builtin.List.listAllItems
 refine wc (uY hb.typeIs ?_)
 first
  |refine PySem.W.KFB.if_so (by decide) ?_
  |rw[if_pos (by decide)]
  |simp only[beq_self_eq_true,Bool.true_or,if_true]
 unfold Builtin.List.listItems
 refine wc (yh e2 rL (wj ?_))
 refine wc (wc (yh e rL (wj ?_)))
 refine wc (wpAny_of_eq ((sliceIndices_raw (some (a:Int)) (some (c:Int)) none items.size (by simp)).trans (congrArg (pure:Int×Int×Int->Sem (Int×Int×Int)) (zaq hac hc))) ?_)
 show wpAny _ _ (if((1:Int) == 1)=true then _ else _) _ _ s
 rw[if_pos (by decide)]
 refine wc (ul ?_)
 first
  |simp only[QK hsz,uh,if_false]
  |refine PySem.W.KFB.if_not (QK hsz) ?_
 first | refine wc (wj ?_) | skip
 show wpAny _ _ (updateSeq l (λxs=>xs.extract 0 ((a:Int)).toNat++new++xs.extract (max (a:Int) (c:Int)).toNat xs.size) >>= _) _ _ s
 rw[hmax,yG]
 refine wc (wpAny_updateSeq (hz:=wV (yl _ _) hsz) (_hz':=hz') e rL ?_)
 refine wc (uW ?_)
 first
  |exact wc (wj (wj ⟨.none,rfl,wj h⟩))
  |exact wj ⟨.none,rfl,wj h⟩
end
section
variable {X:Cx}
theorem zcO {pz:List (Addr×Obj)}{s:Shared}{σ:St}{H:Hp}{l b sl:Addr}{xs ys:List V}{a c:Int}{vl vu:Value}{Q:Unit->Shared->Prop}(I:Inv X pz σ H s)
  (hH:H l=some (.lst xs)) (hB:H b=some (.lst ys)) (hne:l≠b) (hs:s.heap.IsSliceOf sl vl vu .none) (ra:xq (.int a) vl) (rc:xq (.int c) vu) (h0:0<=a) (hac:a<=c) (hc:c<=xs.length)
  (hz:xs.length+ys.length<=sizeLine) (h:∀s',Inv X pz σ (upd H l (.lst (xs.take a.toNat++ys++xs.drop c.toNat))) s'->Q () s') :
  wpAny (model X.prog X.w) X.A (setItem (.ref l) (.ref sl) (.ref b)) Q X.xe s:=by
 obtain⟨ta,rfl⟩:=ra
 obtain⟨tc,rfl⟩:=rc
 obtain⟨z,its,n,r,hl,e⟩:=I.lstM hH
 obtain⟨z2,its2,n2,r2,hl2,e2⟩:=I.lstM hB
 obtain⟨a',rfl⟩:=uw h0
 obtain⟨c',rfl⟩:=uw (Int.le_trans h0 hac)
 simp only[yG]at h
 refine Vl (a:=a') (c:=c') e e2 hne hs (.int _ _) (.int _ _) ∅ (by rw[wy];lia) (by rw[wy,wy];lia) (h _ ?_)
 refine I.lset (its':=its.take a'++its2++its.drop c') (t':=s.toks) hH e ?_ (zY.append (zY.append (r.take _) r2) (r.drop _)) ?_
 ·exact zcU its its2 a' c'
 ·rw[wC,wC,yd,yf]
  lia
end
end L2
namespace Att
open PySem PySem.W PySem.Calls PyProof.Rows
def Qc {P:Params}{h:Heap}:∀(ns:List Int) (vs:List Value),WellAll P h vs (ns.map WData.int)->IntsAre vs ns:=by
 intro ns
 induction ns with
 |nil =>
  intro vs w
  rw[W9]at w
  cases w
  exact .nil
 |cons n ns ih =>
  intro vs w
  rw[yw]at w
  cases w with
  |cons a b =>
   cases a
   exact .cons _ _ (ih _ b)
def zcN {l:OpenLaw}{n:Nat}(hn:l.most=some n){P:Params}{h:Heap}{args:List WData}{vals:List Value}
  (hpre:l.row.toRowW.claim.pre args=true) (hwl:WellAll P h vals args) :
  ∃a vs ns,vals=[Value.ref a]/\args=[WData.list (ns.map WData.int)]/\h.get? a=some { cls:=.type "list",data:=.seq vs.toArray }/\IntsAre vs ns/\ns.length<=n:=by
 have hsh:WShape.hasAll [] args [.list .int]=true:=(pre_splitW hpre).1
 have hc:l.pre.holds [] { args:=args }=true:=(pre_splitW hpre).2
 obtain⟨d,r,rfl,h1,h2⟩:=hasAllW_cons hsh
 obtain rfl:=hasAllW_nil h2
 obtain⟨xs,rfl,h3⟩:=hasW_list h1
 obtain⟨ns,rfl⟩:=items_int h3
 have hlen:ns.length<=n:=by
  unfold OpenLaw.pre at hc
  have h4:(WTm.not (.lt (.lit (.int (n:Int))) (.len (.arg 0)))).holds [] { args:=[.list (ns.map .int)] }=true:=by
   have h4:=(holds_andW hc).1
   rw[hn]at h4
   exact h4
  have h5:=condW_of h4 (w_not (w_lt w_lit (w_len_list (w_arg rfl))))
  rw[wf]at h5
  refine Nat.le_of_not_lt λq=>?_
  have q':(n:Int)<((ns.length:Nat):Int):=by omega
  first
   | (rw[wE q']at h5;exact absurd h5 (by decide))
   | (simp at h5;omega)
 cases hwl with
 |cons w1 w2 =>
  cases w2
  cases w1 with
  |list ho hall=>exact⟨_,_,ns,rfl,rfl,ho,Qc ns _ hall,hlen⟩
def zcJ (l:OpenLaw) (args:List WData):l.row.toRowW.claim.post args (.bool true) args=true :=
 postW_of (r:=l.row.toRowW) (X:=(true == true))
  (show WShape.has [] (.bool true) .bool=true by first | rfl | decide | simp[WShape.has,WShape.arms,WShape.armsAll])
  (show (WTm.eq .res (.lit (.bool true))).value [] { args:=args,res:=some (.bool true),after:=args }=some (.bool (true == true))from w_eq_bool (w_res rfl) w_lit) rfl
def attach_call {l:OpenLaw}{n:Nat}{q:Program}{loose:List Str}{XP:(Str->Option Value)->Heap->Prop}{YP:World->Heap->Prop}{d:DefRec}
  (hn:l.most=some n) (hdf:d.params.defaults=[])
  (call:∀(w:World) (s₀ s₁:Shared) (mg mb:Str->Option Value) (fa:Addr) (o:Obj) (pm cd doc:Value) (a:Addr) (vs:List Value) (ns:List Int),
   Ground q loose [] XP w s₀ mg mb s₁.heap->YP w s₁.heap →
   s₁.heap.get? fa=some o->o.data=.func (docDef d.name d.params d.body d.scope pm cd doc)->s₁.heap.CodeRec cd d.name->mg d.name=some (.ref fa) →
   s₁.heap.get? a=some { cls:=.type "list",data:=.seq vs.toArray }->IntsAre vs ns->ns.length<=n->s₁.gens = #[] →
   codeAny (model l.prog w) callerA (.call (.ref fa) ⟨[.ref a],[]⟩) (λr s'=>r=.ok (.ret (.bool true))/\OldK s₁.heap s'.heap/\s'.os=s₁.os/\AllBare s'.gens) s₁) :
  WalkO q loose XP YP l.row.toRowW d [] (λf vs=>PySem.call f vs):=by
 intro w s₀ s₁ mg mb G Y fa o pm cd doc dV kV ho hd hcd hD hmg hg args vals as hpre hlay hrd hwl hlo
 obtain rfl:dV=.none:=Dflts.none hD hdf
 obtain rfl:kV=.none:=Dflts.noKw hD
 obtain⟨a,vs,ns,rfl,rfl,hobj,hints,hlen⟩:=zcN hn hpre hwl
 refine enter_call (codeAny_mono (call w s₀ s₁ mg mb fa o pm cd doc a vs ns G Y ho (fd_plain hd) hcd hmg hobj hints hlen hg) λr s' hq=>?_)
 obtain⟨rfl,h2,h3,h4⟩:=hq
 exact⟨.inl ⟨.bool true,.bool true,[],rL,λ_=>rL,.bool true,zcJ l _,λ_=>⟨List.Pairwise.nil,λ_ hm=>(nomatch hm)⟩⟩,h2,h3,h4⟩
end Att
namespace L2
open PySem PySem.Spec PyProof.Rows
def VI:∀{vs:List Value}{ns:List Int},IntsAre vs ns->zY (ns.map V.int) vs
 |_,_,.nil=>.nil
 |_,_,.cons n t h=>.cons ⟨t,rfl⟩ (VI h)
def VS (s:Stmt) (j:Nat):Stmt:=match s with
 |.ClassDef _ _ _ body _ _ _ _ _ _ _=>body.getD j (.Pass ⟨0,0,0,0⟩)
 |_=>.Pass ⟨0,0,0,0⟩
def xt (s:Stmt):Arguments:=match s with
 |.FunctionDef _ a _ _ _ _ _ _ _ _=>a
 |_=>{ posonlyargs:=[],args:=[],vararg:=none,kwonlyargs:=[],kw_defaults:=[],kwarg:=none,defaults:=[] }
def zZ (s:Stmt):List Stmt:=match s with
 |.FunctionDef _ _ b _ _ _ _ _ _ _=>b
 |_=>[]
def zr (s:Stmt):Scope:=match s with
 |.FunctionDef _ _ _ _ _ _ sc _ _ _=>sc
 |_=>{ kind:=.function,names:=[],isGenerator:=false,isCoroutine:=false }
abbrev CX0:CXT:=λ_ _ _ _ _ _=>False
abbrev E0:XK:=λ_ _ _=>False
def zd4 {X:Cx}:Qu CX0 X E0:=λ_ _ _ _ _ _ _ h=>h.elim
structure Fun (K:Fg) (x qual:Str) (st:Stmt) (f:Addr) (fd:FuncData):Prop where
 ex:∃(oc:Value) (od:Option Addr) (kV doc pm:Value) (an:Option Addr) (cdv ct:Value) (osl:Array (Option Value)),
  fd=PySem.W.fnOf x qual (xt st) (zZ st) (zr st) .none kV doc pm an cdv ct/\K.lookup f=some ⟨oc,od,.func fd,osl⟩/\PySem.W.codeIn K cdv qual=true
 kp:PySem.W.keepIn K (.ref f)=true
section
variable {P:Program}{w:World}{K:Fg}{mg:Str->Option Value}{base:Heap}
theorem Fun.ok {x qual:Str}{st:Stmt}{f:Addr}{fd:FuncData}{N ps:List Str}{k:Nat}{sp:Sp}(F:Fun K x qual st f fd) (S:zH N ps (zr st)) (len:∀vs H Q E,sp vs H Q E->vs.length=ps.length)
  (hbody:∀(cdv:Value) (A:Around) (outer:List Env) (s:Shared) (H:Hp) (vs:List V) (Q:VK) (E:XK),xb k (A.deeper (envOfC qual (zr st) s.heap.objs.size f cdv))->sp vs H Q E →
   ∃t,PSs (xl CX0 P w K mg base N qual (zr st) f cdv A outer s H E).nox (zZ st) t/\t { nx:=λ_ H'=>Q .non H',rt:=Q } (qm N vs) H):qP P w K mg base CX0 (k+1) f fd ps sp:=by
 obtain⟨oc,od,kV,doc,pm,an,cdv,ct,osl,rfl,lk,hcd⟩:=F.ex
 refine zbn lk hcd S len λA outer s H vs Q E hr hsp=>?_
 obtain⟨t,h,q⟩:=hbody cdv A outer s H vs Q E hr hsp
 exact⟨t,h.nox,q⟩
theorem Fun.okq {x qual:Str}{st:Stmt}{f:Addr}{fd:FuncData}{N ps:List Str}{k:Nat}{sp:Sp}(F:Fun K x qual st f fd) (S:zH N ps (zr st))
  (hbody:∀(cdv:Value) (A:Around) (outer:List Env) (s:Shared) (H:Hp) (vs:List V) (Q:VK) (E:XK),xb k (A.deeper (envOfC qual (zr st) s.heap.objs.size f cdv))->sp vs H Q E →
   ∃t,PSs (xl CX0 P w K mg base N qual (zr st) f cdv A outer s H E).nox (zZ st) t/\t { nx:=λ_ H'=>Q .non H',rt:=Q } (qm N vs) H) (len:∀vs H Q E,sp vs H Q E->vs.length=ps.length:=by intro _ _ _ _ h;repeat (first | (cases h;subst_vars;rfl) | (obtain⟨rfl,_⟩:=h;rfl) | (obtain⟨_,h⟩:=h))):qP P w K mg base CX0 (k+1) f fd ps sp:=F.ok S len hbody
theorem Fun.binds {x qual:Str}{st:Stmt}{f:Addr}{fd:FuncData}{ps:List Str}(F:Fun K x qual st f fd)
  (h:∀(kV doc pm:Value) (an:Option Addr) (cdv ct:Value) (us:List Value),us.length=ps.length->bindArgs (PySem.W.fnOf x qual (xt st) (zZ st) (zr st) .none kV doc pm an cdv ct) ⟨us,[]⟩=pure (ps.zip us)):qO K fd ps []:=by
 obtain⟨oc,od,kV,doc,pm,an,cdv,ct,osl,rfl,lk,hcd⟩:=F.ex
 exact .all (h kV doc pm an cdv ct)
theorem VR {x qual:Str}{st:Stmt}{f:Addr}{oc:Value}{od an:Option Addr}{osl:Array (Option Value)}{kV doc pm cdv ct:Value}(l:K.lookup f=some ⟨oc,od,.func (PySem.W.fnOf x qual (xt st) (zZ st) (zr st) .none kV doc pm an cdv ct),osl⟩)
  (c:PySem.W.codeIn K cdv qual=true) (k:PySem.W.keepIn K (.ref f)=true):Fun K x qual st f (PySem.W.fnOf x qual (xt st) (zZ st) (zr st) .none kV doc pm an cdv ct):=⟨⟨oc,od,kV,doc,pm,an,cdv,ct,osl,rfl,l,c⟩,k⟩
end
def zjp {A:Around}{k:Nat}(hr:xb k A):A.units+1<cLine:=u6 (Nat.add_le_add_left (by decide:1<=64) _) hr.units
def xr {n:Nat}(h:n<=1000):n<sizeLine:=u6 h (by decide)
section
variable {X:Cx}
theorem pv (i:Nat){x:Str}{pos:Pos}(hN:X.N[i]?=some x:=by rfl) (hv:Vis X.env.scope x:=by first | exact Or.inl rfl | exact Or.inr (Or.inl rfl) | exact Or.inr (Or.inr rfl)) (hd:(x == ("__debug__":Str))=false:=by decide)
  (hcd:(x == ("__classdict__":Str))=false:=by decide):PE X (.Name x pos) (xy i):=zil hN hv hd hcd
end
def hid {A:Prop}(h:∀P:Prop,(A->P)->P):A:=h A id
def xQ {A B:Prop}(h:B):if false=true then A else B:=by
 rw[if_neg wL]
 exact h
def x5 {A B:Prop}(h:A):if true=true then A else B:=by
 rw[if_pos rfl]
 exact h
def qa {c A B:Prop} [Decidable c] (h1:c->A) (h2:¬c->B):if c then A else B:=by
 by_cases h:c
 ·rw[if_pos h]
  exact h1 h
 ·rw[if_neg h]
  exact h2 h
def zj (H H':Hp):Prop:=∀b o,H b=some o->H' b=some o
def zj.refl (H:Hp):zj H H:=λ_ _ h=>h
def zj.trans {H H1 H2:Hp}(a:zj H H1) (b:zj H1 H2):zj H H2:=λc o h=>b c o (a c o h)
def zj.free {H H':Hp}(e:zj H H'){l:Addr}(h:H' l=Option.none):H l=Option.none:=by
 cases q:H l with
 |none=>rfl
 |some o =>
  rw[e l o q]at h
  cases h
def zj.seq {K:Fg}{H H':Hp}{a:Addr}{xs:List V}(e:zj H H') (h:SqL K H a xs):SqL K H' a xs:=by
 rcases h with(h | ⟨o,h⟩) | h
 ·exact .inl (.inl (e _ _ h))
 ·exact .inl (.inr ⟨o,e _ _ h⟩)
 ·exact .inr h
section
variable {prog:Program}{w:World}{A:Around}{R:Result->Shared->Prop}{s:Shared}
theorem Z8 {elt target iter:Expr}{ifs:List Expr}{scope:Scope}{pos:Pos}{it acc:Value}{env:Env}(I:Nat->Shared->Prop)
  (turn:∀n s,I n s->wpAny (model prog w) A (pyNext it) (λr s₁=>match r with
   |none=>R (.ok .next) s₁
   |some v=>wpAny (model prog w) A (letOwnedTupleGo target it v) (λ_ s₀=>wpAny (model prog w) A (assign target env v) (λ_ s₂ =>
     wpAny (model prog w) A (forIn ifs true λc r=>if r=true then do let ok <-isTrue c env (eval c env);pure (ForInStep.yield ok)else pure (ForInStep.yield r)) (λok s₃ =>
      if ok=true then wpAny (model prog w) A (eval elt env) (λx s₄ =>
       wpAny (model prog w) A (call (.builtin "list.append") [acc,x]) (λ_ s₅=>∃m,m<n/\I m s₅) (λ_ _=>False) s₄) (λ_ _=>False) s₃
      else ∃m,m<n/\I m s₃) (λ_ _=>False) s₂) (λ_ _=>False) s₀) (λ_ _=>False) s₁) (λ_ _=>False) s)
  (n:Nat) (h:I n s) :
  codeAny (model prog w) A (.compLoop (.ListComp elt [⟨target,iter,ifs,0⟩] scope pos) 0 it acc env) R s:=by
 refine codeAny_loop rL I (λn s hI=>?_) n h
 show wpAny _ A ((compTurn (.ListComp elt [⟨target,iter,ifs,0⟩] scope pos) 0 it acc env).onRaise (λx=>do noteFrame x env;theTreesLotGoes x)) _ _ s
 refine wpAny_noted ?_
 rw[compTurn_list]
 have no:∀{X:Prop},∀(e:Value) (s':Shared),(λ_ _=>False:Value->Shared->Prop) e s'->X:=λ_ _ z=>False.elim z
 refine wc (uB (wc (yC (turn n s hI) (λr s₁ h₁=>?_) λe s'=>no e s')))
 cases r with
 |none=>exact wj h₁
 |some v =>
  refine wc (yC h₁ (λ_ s₀ h₀=>?_) λe s'=>no e s')
  refine wc (yC h₀ (λ_ s₂ h₂=>wc (yC h₂ (λok s₃ h₃=>?_) λe s'=>no e s')) λe s'=>no e s')
  cases ok with
  |false=>exact wj ⟨rfl,h₃⟩
  |true =>
   exact wc (wc (yC h₃ (λx s₄ h₄=>wc (yC h₄ (λ_ s₅ h₅=>wj (wj ⟨rL,h₅⟩)) λe s'=>no e s')) λe s'=>no e s'))
end
def qE (X:Cx) (NB:List Str) (scope:Scope) (s3:Shared) (H3:Hp) (fp:List Addr):Cx :=
 { X with N:=NB,s₀:=s3,H₀:=H3,env:=compEnv scope s3.heap.objs.size X.env,outer:=X.stack,stack:=X.stack,ex:=fp,fn:=λ_=>true,pn:=[],xe:=λ_ _=>False }
def PTs (X:Cx) (ifs:List Expr) (t:TT):Prop :=
 ∀(pz:List (Addr×Obj)) (s:Shared) (σ:St) (H:Hp) (Q:Bool->Hp->Prop),Inv X pz σ H s->t σ H Q →
  wpAny (model X.prog X.w) X.A (forIn ifs true λc r=>if r=true then do let ok <-isTrue c X.env (eval c X.env);pure (ForInStep.yield ok)else pure (ForInStep.yield r)) (TP X pz σ Q) X.xe s
def xP {X:Cx}:PTs X [] (λ_ H Q=>Q true H):=λ_ _ _ H _ I h=>wpAny_tests_nil ⟨H,I,h⟩
def V2 {X:Cx}{c:Expr}{t:TT}(h:PT X c t):PTs X [c] t:=λpz s σ H Q I q=>wpAny_tests_one (h pz s σ H Q I q)
def zhe (n:Nat) (wi:TI) (g:TG) (tt:TT) (te:TE):TE:=λσ H Q=>wi σ H λJ H1=>∀D,H1 D=none->∃W:Nat->Nat->Hp->List V->Prop,(∃m,W 0 m (upd H1 D (.lst [])) []) ∧
 ∀i m H2 ys,W i m H2 ys->H2 D=some (.lst ys)->(J.stop i H2/\Q (.ref D) H2) ∨
  (J.go i H2/\∀σB x H3,σB.length=n->J.yld i H2 x H3->g x σB H3 λσ4 H4=>tt σ4 H4 λb H5=>if b=true then te σ4 H5 (λv H6=>H6 D=some (.lst ys)/\ys.length<sizeLine/\∃m',m'<m/\W (i+1) m' (upd H6 D (.lst (ys++[v]))) (ys++[v]))
   else H5 D=some (.lst ys)/\∃m',m'<m/\W (i+1) m' H5 ys)
def Xc {X:Cx}{elt tg iter:Expr}{ifs:List Expr}{scope:Scope}{pos:Pos}{NB:List Str}{wi:TI}{g:TG}{tt:TT}{te:TE}
  (hc:X.calm=true) (hfree:∀x∈scope.names,x.2≠.free) (hcell:∀x∈scope.names,x.2≠.cell) (hkind:scope.kind=.function) (hnames:∀x∈scope.names,x.2=.local → scope.names.lookup x.1=some .local)
  (hi:PI X tg iter wi) (hb:∀s3 H3 fp,PG (qE X NB scope s3 H3 fp) tg g/\PTs (qE X NB scope s3 H3 fp) ifs tt/\PE (qE X NB scope s3 H3 fp) elt te)
  (hs:∀x,foldedSetIterable iter X.env x=pure x:=by intro _;rfl) :
  PE X (.ListComp elt [⟨tg,iter,ifs,0⟩] scope pos) (zhe NB.length wi g tt te):=by
 intro pz s σ H Q I h
 refine wpAny_ListComp hfree hkind hnames (thn (hi pz s σ H _ I h) λv s1 h1=>thn h1 λitv s2 h2=>?_) hs
 obtain⟨it,fp,tn,J,H2,e,I2,T,st2,f2,q2⟩:=h2
 subst e
 have hf2:H2 s2.heap.objs.size=none:=I2.hok.fresh (wo _)
 obtain⟨W,⟨m0,w0⟩,turn⟩:=q2 _ hf2
 refine w8 (hd:=by size_fits) ?_
 have I3:Inv X pz σ (upd H2 s2.heap.objs.size (.lst [])) { s2 with heap:=s2.heap.push { cls:=.type "list",dict:=none,data:=.seq ([]:List Value).toArray } } :=
  I2.laid (t':=s2.toks) (λb u e=>we _ e) (wo _) ⟨by decide,[],0,.nil,wu _ rfl⟩
 generalize hD:s2.heap.objs.size=D at *
 generalize hs3:({ s2 with heap:=s2.heap.push { cls:=.type "list",dict:=none,data:=.seq ([]:List Value).toArray } }:Shared)=s3 at *
 generalize hH3:upd H2 D (.lst [])=H3 at *
 have h3D:H3 D=some (.lst []):=by rw[<-hH3];exact zg
 have fpD:∀b∈fp,b≠D:=λb hb=>by
  obtain⟨o,e,_⟩:=T.obj _ _ st2 b hb
  rw[<-hD];exact wN (wx e)
 have k23:∀b u,s2.heap.get? b=some u->s3.heap.get? b=some u:=λb u e=>by rw[<-hs3];exact we _ e
 have st3:tn 0 s3.heap:=T.keep _ _ _ st2 λb _ o e=>k23 b o e
 have f3:∀b∈fp,Qs X pz H3 b:=λb hb=>⟨by rw[<-hH3,zF (fpD b hb)];exact(f2 b hb).1,(f2 b hb).2⟩
 refine wpAny_newFunctionEnv hcell (by intro y hy;simp at hy) (λh4 hns4 hsb4=>?_) hkind
 have k34:∀b u,s3.heap.get? b=some u->h4.get? b=some u:=λb u e=>hsb4.extBut b u (wN (wx e)) (we _ e)
 have okB:(qE X NB scope s3 H3 fp).Ok:=by
  refine⟨I3.ok.mod,hkind,I3.ok.glob,I3.ok.blt,wo _,λx y c e _=>?_,λx e=>?_,λx c _ e=>?_,I3.ok.hd,I3.ok.frames,.inl rL,λb hb=>⟨?_,λx c e=>?_⟩,I3.bs,wV I3.ok.bsz I3.sz,λb o e hb=>?_,λb hb z=>?_,I3.stack,I3.stkFree⟩
  ·exact absurd (show ([]:List (Str×Addr)).lookup x=some c from e) (by simp)
  ·have e':scope.names.lookup x=some .cell\/scope.names.lookup x=some .free:=e
   rcases e' with e' | e'
   ·exact absurd rL (hcell _ (PySem.mem_of_lookup e'))
   ·exact absurd rL (hfree _ (PySem.mem_of_lookup e'))
  ·exact absurd (show ([]:List (Str×Addr)).lookup x=some c from e) (by simp)
  ·obtain⟨o,e,_⟩:=T.obj _ _ st3 b hb
   exact wN (wx e)
  ·exact absurd (show ([]:List (Str×Addr)).lookup x=some c from e) (by simp)
  ·obtain⟨_,_,_,z,_⟩:=f3 b hb
   rcases z with z | z
   ·exact I3.ok.noex b o e z
   ·exact absurd (wG (wx e) (wV I3.ok.bsz z)) (uu _)
  ·obtain⟨_,z1,z2,_⟩:=f3 b hb
   rcases ww.mp (I3.stkSub b z)with e | e
   ·exact z1 e
   ·exact z2 e
 have IB:Inv (qE X NB scope s3 H3 fp) [] (List.replicate NB.length none) H3 { s3 with heap:=h4,toks:=s3.toks+([]:List (Str×Value)).length }:=by
  refine⟨okB,rfl,I3.bare,Un.kept k34,⟨_,hns4,λi x v _ e _=>?_⟩,λx c e=>?_,I3.hok.fresh (wo _),λx c e=>?_,λp hp=>?_,I3.hok.kept k34,by simp[qE]⟩
  ·rw[uZ]at e
   split at e <;> cases e
  ·exact absurd (show ([]:List (Str×Addr)).lookup x=some c from e) (by simp)
  ·exact absurd (show ([]:List (Str×Addr)).lookup x=some c from e) (by simp)
  ·exact absurd (show p∈([]:List (Addr×Obj))from hp) (by simp)
 have st4:tn 0 h4:=T.keep _ _ _ st3 λb _ o e=>k34 b o e
 have C_ne:∀b∈fp,b≠s3.heap.objs.size:=λb hb=>(okB.exf b hb).1
 have stat:∀{H':Hp},(∀b∈fp,H' b=none)->∀b∈fp,Qs (qE X NB scope s3 H3 fp) [] H' b:=λhn b hb =>
  ⟨hn b hb,C_ne b hb,okB.exfs b hb,.inl hb,λx c e=>absurd (show ([]:List (Str×Addr)).lookup x=some c from e) (by simp),λp hp=>absurd (show p∈([]:List (Addr×Obj))from hp) (by simp)⟩
 obtain⟨hg,ht,he⟩:=hb s3 H3 fp
 have fin:∀{σ':St}{H':Hp}{s':Shared},Inv (qE X NB scope s3 H3 fp) [] σ' H' s'->Q (.ref D) H' →
   ∃m,s'.heap.Ns s3.heap.objs.size m/\∀h',Heap.SameBut s3.heap.objs.size s'.heap h'->EP X pz σ Q (.ref D) { s' with heap:=h' }:=λ{σ' H' s'} J q=>by
  obtain⟨m,hm,_⟩:=J.loc
  refine⟨m,hm,λh' sb=>⟨.ref D,H',?_,rL,q⟩⟩
  have neC:∀b o,s3.heap.get? b=some o->b≠s3.heap.objs.size:=λb o e=>wN (wx e)
  have hfr:H' s3.heap.objs.size=none:=J.free
  have up:∀b o,b≠s3.heap.objs.size->s'.heap.get? b=some o->h'.get? b=some o:=λb o hb e=>(sb.2 b hb).trans e
  have hok':HOk X.prog X.w H' h':=λb ob e=>(J.hok b ob e).stay (λc w' hc q=>up c w' (by
   rintro rfl
   rcases hc with rfl | hc
   ·rw[hfr]at e;cases e
   ·rw[hfr]at hc;cases hc) q) (λ_ q=>q) λ_ _ q=>q
  have u:Un (frs X.stack) fp H3 H' s3.heap h' :=
   ⟨λb o e n hb hx=>up b o (neC b o e) (J.base.keep b o e n hb hx),λb o e n hb hx=>by
    obtain⟨sl,e'⟩:=J.base.slot b o e n hb hx
    exact⟨sl,up b _ (neC b o e) e'⟩,J.base.free,λb o e hx=>by
    obtain⟨o',e'⟩:=J.base.there b o e hx
    exact⟨o',up b _ (neC b o e) e'⟩,J.base.tups,J.base.frzs,J.base.tbls⟩
  refine I3.call' (s':={ s' with heap:=h' }) (ch:=fp) J.os u hok' J.bare λb hb=>?_
  obtain⟨z0,z1,z2,z3,z4,z5⟩:=f3 b hb
  exact⟨z3,z1,z4,z5⟩
 have loop:∀s5:Shared,s5 = { s3 with heap:=h4,toks:=s3.toks+([]:List (Str×Value)).length } →
   codeAny (model X.prog X.w) X.A (.compLoop (.ListComp elt [⟨tg,iter,ifs,0⟩] scope pos) 0 (.ref it) (.ref D) (compEnv scope s3.heap.objs.size X.env))
    (λr s'=>∃m,s'.heap.Ns s3.heap.objs.size m/\∀h',Heap.SameBut s3.heap.objs.size s'.heap h' →
     match r with | .ok _=>EP X pz σ Q (.ref D) { s' with heap:=h' } | .error x=>wpAny (model X.prog X.w) X.A (passOn "comprehension.variables-let-go" x (compEnv scope s3.heap.objs.size X.env)) (EP X pz σ Q) X.xe { s' with heap:=h' }) s5:=by
  rintro s5 rfl
  refine Z8 (λn s'=>∃i σ' H' ys,Inv (qE X NB scope s3 H3 fp) [] σ' H' s'/\tn i s'.heap/\(∀b∈fp,H' b=none)/\H' D=some (.lst ys)/\W i n H' ys) ?_ m0
   ⟨0,_,H3,[],IB,st4,λb hb=>(f3 b hb).1,h3D,by rw[<-hH3]at *;exact w0⟩
  rintro n s6 ⟨i,σ6,H6,ys,I6,st6,fr6,hD6,w6⟩
  rcases turn i n H6 ys w6 hD6 with⟨stop,qn⟩ | ⟨go,step⟩
  ·refine thn (T.done (qE X NB scope s3 H3 fp) rL rL rL hc i [] s6 σ6 H6 _ I6 (stat fr6) st6 stop) λr s7 ⟨hr,I7⟩=>?_
   subst hr
   exact fin I7 qn
  ·refine thn (T.item (qE X NB scope s3 H3 fp) rL rL rL hc i [] s6 σ6 H6 _ I6 (stat fr6) st6 go) λr s7 ⟨u,hr,h7⟩=>?_
   subst hr
   refine thn h7 λ_ s8 ⟨x,H8,I8,r8,y8,st8,fr8⟩=>?_
   have I8':=I8.pinned (stat fr8) (T.obj _ _ st8)
   have again:∀{σ9:St}{H9:Hp}{s9:Shared}{zs:List V}{m':Nat},Inv (qE X NB scope s3 H3 fp) ([]++Xw fp s8.heap) σ9 H9 s9->H9 D=some (.lst zs)->m'<n->W (i+1) m' H9 zs →
     ∃m,m<n/\∃i σ' H' ys,Inv (qE X NB scope s3 H3 fp) [] σ' H' s9/\tn i s9.heap/\(∀b∈fp,H' b=none)/\H' D=some (.lst ys)/\W i m H' ys:=λ{σ9 H9 s9 zs m'} I9 hz hm w9=>by
    refine⟨m',hm,i+1,σ9,H9,zs,I9.unpinned,T.keep _ _ _ st8 λb hb o e=>(I9.pin (b,o) (wq _ (wq _ (qG hb e)))).1,λb hb=>?_,hz,w9⟩
    obtain⟨o,e,d⟩:=T.obj _ _ st8 b hb
    exact(I9.pin (b,o) (wq _ (wq _ (qG hb e)))).2.1
   refine thn (hg _ s8 σ6 H8 x u _ I8' r8 (step σ6 x H8 I6.len y8)) λ_ s9 ⟨σ9,H9,I9,q9⟩=>?_
   refine thn (ht _ s9 σ9 H9 _ I9 q9) λok s10 ⟨H10,I10,q10⟩=>?_
   cases ok with
   |false =>
    rw[if_neg (by decide)]at q10 ⊢
    obtain⟨hz,m',hm,w'⟩:=q10
    exact again I10 hz hm w'
   |true =>
    rw[if_pos rfl]at q10 ⊢
    refine thn (he _ s10 σ9 H10 _ I10 q10) λy s11 ⟨v,H11,I11,r11,hz,hlen,m',hm,w'⟩=>?_
    refine thn (qu _ s11 σ9 H11 (.ref D) [v] (.ref D) [y] (λ_ H12=>H12=upd H11 D (.lst (ys++[v]))) I11 rL (.cons r11 .nil) ⟨D,ys,v,rL,rL,hz,hlen,rL⟩) λ_ s12 ⟨_,H12,I12,_,e12⟩=>?_
    subst e12
    exact again I12 zg hm w'
 exact codeAny_compStart_list (loop _ rL) (T.self X.A 0 _ _ _ st4 (loop _ rL))
mutual
inductive RdD (H:Hp):V->PyData->Prop
 |non:RdD H .non .none
 |bl (b:Bool):RdD H (.bl b) (.bool b)
 |int (i:Int):RdD H (.int i) (.int i)
 |str (x:Str):RdD H (.str x) (.str x)
 |tup {a:Addr}{xs:List V}{ds:List PyData}:H a=some (.tup xs)->Qb H xs ds->RdD H (.ref a) (.tuple ds)
 |lst {a:Addr}{xs:List V}{ds:List PyData}:H a=some (.lst xs)->Qb H xs ds->RdD H (.ref a) (.list ds)
inductive Qb (H:Hp):List V->List PyData->Prop
 |nil:Qb H [] []
 |cons {x:V}{d:PyData}{xs:List V}{ds:List PyData}:RdD H x d->Qb H xs ds->Qb H (x::xs) (d::ds)
end
section
variable {X:Cx}{pz:List (Addr×Obj)}{σ:St}{H:Hp}{s:Shared}
mutual
theorem RdD.reads (I:Inv X pz σ H s):∀{x:V}{d:PyData},RdD H x d->∀{u:Value},xq x u->∃as,Reads s.heap u d as
 |_,_,.non,u,r=>by cases(show u=Value.none from r);exact⟨_,.none⟩
 |_,_,.bl b,u,r=>by cases(show u=Value.bool b from r);exact⟨_,.bool b⟩
 |_,_,.int i,u,r=>by obtain⟨t,e⟩:=(show ∃t,u=Value.int i t from r);subst e;exact⟨_,.int i t⟩
 |_,_,.str x,u,r=>by obtain⟨t,e⟩:=(show ∃t,u=Value.str x t from r);subst e;exact⟨_,.str x t⟩
 |_,_,@RdD.tup _ a xs ds e h,u,r=>by
  cases(show u=Value.ref a from r)
  obtain⟨_,its,rv,o,h1,h2,n,h3⟩:=(show xu X.prog X.w H s.heap a (.tup xs)from I.hok a _ e)
  obtain⟨as,ra⟩:=Qb.reads I h rv
  exact⟨_,.tuple h1 h2 h3 ↥ra⟩
 |_,_,@RdD.lst _ a xs ds e h,u,r=>by
  cases(show u=Value.ref a from r)
  obtain⟨_,its,n,rv,h1⟩:=(show xu X.prog X.w H s.heap a (.lst xs)from I.hok a _ e)
  obtain⟨as,ra⟩:=Qb.reads I h rv
  exact⟨_,.list h1 rfl rfl ↥ra⟩
theorem Qb.reads (I:Inv X pz σ H s):∀{xs:List V}{ds:List PyData},Qb H xs ds->∀{us:List Value},zY xs us->∃as,ReadsAll s.heap us ds as
 |_,_,.nil,us,r=>by cases r;exact⟨_,.nil⟩
 |_,_,.cons h t,us,r=>by
  cases r with
  |cons r1 r2 =>
   obtain⟨a1,q1⟩:=RdD.reads I h r1
   obtain⟨a2,q2⟩:=Qb.reads I t r2
   exact⟨_,.cons q1 q2⟩
end
end
inductive zgY (x:V) (y:V) (H:Hp) (Q:VK):Prop
 |mk:∀d e,(RdD H x d)->(RdD H y e)->(SeqAt.shaped d=true)->(SeqAt.shaped e=true)->(Q (.bl (PyData.eqv d e)) H)->zgY x y H Q
def rEqD:R2:=λx y H Q=>zgY x y H Q
section
variable {X:Cx}
theorem ZN (hu:X.A.units+64<cLine):OpR X (compareOp .Eq) rEqD:=by
 intro pz s σ H x y v u Q I rx ry h
 obtain⟨d,e,hd,he,s1,s2,q⟩:=h
 obtain⟨as,r1⟩:=hd.reads I rx
 obtain⟨bs,r2⟩:=he.reads I ry
 exact eq_dataH r1 r2 s1 s2 hu ⟨.bl _,H,I,rL,q⟩
def Bd (n:Nat) (i:Int):Prop:=i.natAbs<2^n
theorem Bd.mono {m n:Nat}{i:Int}(h:Bd m i) (l:m<=n):Bd n i:=wG h (Nat.pow_le_pow_right (by decide) l)
theorem Bd.md {m n:Nat}{i:Int}(h:Bd m i) (l:m<=n:=by decide):Bd n i:=h.mono l
theorem Bd.bits {n:Nat}{i:Int}(h:Bd n i):Builtin.Int.intBits i<=n:=intBits_le_iff.mpr h
theorem Bd.of_bits {n:Nat}{i:Int}(h:Builtin.Int.intBits i<=n):Bd n i:=intBits_le_iff.mp h
theorem Bd.mul {m n:Nat}{i j:Int}(h:Bd m i) (k:Bd n j):Bd (m+n) (i*j):=.of_bits (intBits_mul_le h.bits k.bits)
theorem Bd.add {m n:Nat}{i j:Int}(h:Bd m i) (k:Bd n j):Bd (max m n+1) (i+j):=.of_bits (intBits_add_le h.bits k.bits)
theorem Bd.neg {n:Nat}{i:Int}(h:Bd n i):Bd n (-i):=by unfold Bd;rw[Yg];exact h
theorem Bd.sub {m n:Nat}{i j:Int}(h:Bd m i) (k:Bd n j):Bd (max m n+1) (i-j):=by rw[Int.sub_eq_add_neg];exact h.add k.neg
def Qq (i j:Int):Prop:=Bd 1000000 i/\Bd 1000000 j
theorem zR:OpR X (binaryOp .Mult) (rI Qq λi j=>.int (i*j)):=opI λ_ _ _ _ _ _ _ hc q=>mul_int q (IntMulOk.of_le hc.1.bits hc.2.bits (by decide))
def Jk (i j:Int):Prop:=j≠0/\Bd 8900 j
theorem qd:OpR X (binaryOp .FloorDiv) (rI Jk λi j=>.int (i.fdiv j)):=opI λ_ j _ _ _ _ _ hc q=>floordiv_int hc.1 q (.inl (PyProof.noPylong_of_log2 (by
 have h1:j.natAbs≠0:=λz=>hc.1 (Int.natAbs_eq_zero.mp z)
 have h2:j.natAbs<2^9000:=wG hc.2 (Nat.pow_le_pow_right (by decide) (by decide))
 exact(Nat.log2_lt h1).mpr h2)))
theorem XW:ZG X (.builtin "isinstance") (λxs H Q=>∃x t n b,xs=[x,.ty n]/\Xm X.K H x t/\PySem.W.kitOne X.K t (.type n)=some b/\Q (.bl b) H):=by
 intro pz s σ H xs us Q I r h
 obtain⟨x,t,n,b,rfl,ty,e,q⟩:=h
 obtain⟨u,w',rfl,r1,r2⟩:=zad r
 cases(show w'=Value.type n from r2)
 exact zcx I r1 ty e λtk=>⟨.bl b,H,I.tok tk,rL,q⟩
end
end L2
namespace HT
open PySem PySem.Spec PyProof.Rows L2
section
variable {prog:Program}{w:World}{A:Around}{E:Value->Shared->Prop}{s:Shared}
theorem zan (n:Nat):Builtin.Slice.sliceAdjust none none (-1) (n:Int)=((n:Int)-1,-1):=by
 unfold Builtin.Slice.sliceAdjust
 have h1:((-1:Int)<0):=by lia
 simp only[h1,if_true]
theorem zaQ (n:Nat):Builtin.Slice.slicePlaces ((n:Int)-1) (-1) (-1)=n:=by
 unfold Builtin.Slice.slicePlaces
 have h1:¬((-1:Int)>0):=by lia
 simp only[h1,if_false]
 split
 ·rw[show (- -1:Int)=1 by decide,Int.ediv_one];lia
 ·lia
theorem zea (xs:Array Value):((List.range xs.size).filterMap λ(m:Nat)=>xs[(((xs.size:Int)-1)+(m:Int)*(-1)).toNat]?).toArray=xs.toList.reverse.toArray:=by
 congr 1
 have e:(List.range xs.size).filterMap (λ(m:Nat)=>xs[(((xs.size:Int)-1)+(m:Int)*(-1)).toNat]?)=(List.range xs.size).filterMap (λm=>xs[xs.size-1-m]?):=by
  have hf:(λ(m:Nat)=>xs[(((xs.size:Int)-1)+(m:Int)*(-1)).toNat]?)=λm=>xs[xs.size-1-m]?:=by
   funext m
   have:(((xs.size:Int)-1)+(m:Int)*(-1)).toNat=xs.size-1-m:=by lia
   rw[this]
  rw[hf]
 rw[e]
 have e2:(List.range xs.size).filterMap (λm=>xs[xs.size-1-m]?)=((List.range xs.size).map λm=>xs.size-1-m).filterMap (xs[·]?):=by
  rw[List.filterMap_map];rfl
 rw[e2,PySem.W.krv_range,List.filterMap_reverse,PySem.W.krv_all]
theorem XS {sl:Addr}{t:Tok}{n:Nat}{Q:Int×Int×Nat->Shared->Prop}(hs:s.heap.IsSliceOf sl .none .none (.int (-1) t))
  (h:Q ((n:Int)-1,-1,n) s):wpAny (model prog w) A (Builtin.Slice.sliceApplied (.ref sl) (pure (n:Int))) Q E s:=by
 obtain⟨os,hos,hcs,hds⟩:=id hs
 unfold Builtin.Slice.sliceApplied Builtin.Slice.sliceFields
 refine wc (wc (wP hos hds (x:=.none) rL (wc (wP hos hds (x:=.none) rL (wc (wP hos hds (x:=.int (-1) t) rL (wj ?_)))))))
 refine wc (slicePart_int ?_)
 show wpAny _ _ (if((-1:Int) == 0)=true then _ else _) _ _ s
 rw[if_neg (by decide)]
 refine wc (slicePart_none (wc (slicePart_none (wc (wj ?_)))))
 show wpAny _ _ (match Builtin.Slice.sliceAdjust none none (-1) (n:Int)with | (lo,hi)=>pure (lo,(-1:Int),Builtin.Slice.slicePlaces lo hi (-1))) _ _ s
 rw[zan n]
 show wpAny _ _ (pure ((n:Int)-1,(-1:Int),Builtin.Slice.slicePlaces ((n:Int)-1) (-1) (-1))) _ _ s
 rw[zaQ]
 exact wj h
theorem getItem_tuple_rev {t sl:Addr}{items:Array Value}{tk:Tok}{Q:Value->Shared->Prop}(ht:IsTup s.heap t items) (hs:s.heap.IsSliceOf sl .none .none (.int (-1) tk))
  (h:Q (.ref s.heap.objs.size) { s with heap:=s.heap.push { cls:=.type "tuple",data:=.seq items.toList.reverse.toArray } })
  (hsz:items.size<=sizeLine):wpAny (model prog w) A (getItem (.ref t) (.ref sl)) Q E s:=by
 have htake:sizeOk (.seq items.toList.reverse.toArray):=by
  show items.toList.reverse.toArray.size<=sizeLine
  rw[wy,wI,yU]
  omega
 obtain⟨os,hos,hcs,hds⟩:=id hs
 have hTs:s.TypeIs (.ref sl) "slice":=⟨os,hos,hcs⟩
 unfold getItem
 try with_reducible refine yn ?_
 first | refine wc (wj ?_) | skip
 refine wc (Wj ht.typeIs (by decide) ?_)
 refine wc (wpAny_callSpecial?_slot (name:=Str.ofString "__getitem__") ht.typeIs wW
  (yt wW ht.typeIs entry_tuple_getitem ?_ (args_tuple_getitem _ _)))
 show wpAny _ _ (Builtin.Tuple.tupleItemsOf (.ref t) >>= _) _ _ s
 refine wc (tupleItemsOf_ ht ?_)
 refine wc (uY hTs ?_)
 rw[if_pos (by decide)]
 refine wc (XS hs ?_)
 have hno:¬((((items.size:Int)-1) == 0&&(-1:Int) == 1&&items.size == items.size)=true):=by
  intro q
  rw[yF,yF]at q
  exact absurd (eq_of_beq q.1.2) (by decide)
 show wpAny _ _ (if(((items.size:Int)-1) == 0&&(-1:Int) == 1&&items.size == items.size)=true then _ else _) _ _ s
 rw[if_neg hno,zea]
 first
  |exact wc (m:=Builtin.Tuple.tupleExact _) (w8 (wj ⟨_,rfl,wj h⟩) htake)
  |exact wc (m:=Builtin.Tuple.tupleExact _) (w8 (wc (wj (wj ⟨_,rfl,wj h⟩))) htake)
  |exact wc (wc (m:=Builtin.Tuple.tupleExact _) (w8 (wj (wj ⟨_,rfl,wj h⟩)) htake))
  |exact wc (wc (m:=Builtin.Tuple.tupleExact _) (w8 (wj ⟨_,rfl,wj h⟩) htake))
end
end HT
namespace L2
open PySem PySem.Spec PyProof.Rows
section
variable {X:Cx}{e st:Expr}{te:TE}{pos p2:Pos}
theorem zY.rev:∀{xs:List V}{us:List Value},zY xs us->zY xs.reverse us.reverse
 |_,_,.nil=>.nil
 |_,_,.cons r t=>by rw[List.reverse_cons,List.reverse_cons];exact(zY.rev t).append (.cons r .nil)
inductive zeQ (K:Fg) (Q:VK) (x:V) (y:V) (H2:Hp):Prop
 |mk:∀a xs,(x=.ref a)->(y=.int (-1))->(SqT K H2 a xs)->(∀p,H2 p=none->Q (.ref p) (upd H2 p (.tup xs.reverse)))->zeQ K Q x y H2
def zkN (K:Fg) (te ts:TE):TE:=λσ H Q=>te σ H λx H1=>ts σ H1 λy H2=>zeQ K Q x y H2
theorem Qm {ts:TE}(he:PE X e te) (hs:PE X st ts):PE X (.Subscript e (.Slice none none (some st) p2) pos) (zkN X.K te ts):=by
 intro pz s σ H Q I h
 refine Subscript_ (thn (he pz s σ H _ I h) λv s1 ⟨x,H1,I1,r1,q1⟩=>?_)
 refine Yl ?_
 rw[evalPart_none]
 refine wj (wj ?_)
 rw[evalPart_some]
 refine thn (hs pz s1 σ H1 _ I1 q1) λu s3 ⟨y,H3,I3,r3,q3⟩=>?_
 obtain⟨a,xs,rfl,rfl,hx,q⟩:=q3
 cases r1
 obtain⟨t,rfl⟩:=r3
 have I4:Inv X pz σ H3 { s3 with heap:=s3.heap.push { cls:=.type "slice",data:=.fields #[.none,.none,.int (-1) t] } }:=I3.kept (t':=s3.toks) λb ob q=>we _ q
 obtain⟨its,r,ht,hz⟩:=I4.tuple hx
 have hlen:its.toArray.size=xs.length:=by rw[wy];exact r.length.symm
 show wpAny (model X.prog X.w) X.A (subscriptTail e (.Slice none none (some st) p2) (.ref a) (.ref s3.heap.objs.size)) (EP X pz σ Q) X.xe { s3 with heap:=s3.heap.push { cls:=.type "slice",data:=.fields #[.none,.none,.int (-1) t] } }
 refine tail_any (ops:=[.ref a,.ref s3.heap.objs.size]) ht.typeIs wW.lookup (HT.getItem_tuple_rev ht (Heap.IsSliceOf.new ..) ?_ (by rw[hlen];exact hz)) (by with_unfolding_all rfl)
 refine⟨.ref _,_,I4.laid (t':=s3.toks) (o:=.tup xs.reverse) (λb ob q=>we _ q) (wo _) ?_,rL,q _ (I4.hok.fresh (wo _))⟩
 exact⟨⟨by rw[wI];exact hz,.new⟩,_,r.rev,IsTup.new _ _⟩
end
end L2
namespace KM
def Jz {a b:Int}(ha:0<=a) (hb:0<b):Int.gcd b (a % b)=Int.gcd a b:=by
 obtain⟨m,rfl⟩:=uw ha
 obtain⟨n,rfl⟩:=uw (Int.le_of_lt hb)
 rw[<-Int.natCast_emod,Int.gcd_comm (m:Int)]
 show Nat.gcd n (m % n)=Nat.gcd n m
 rw[Nat.gcd_comm n (m % n)]
 exact(Nat.gcd_rec n m).symm
def xL (q:Rat):(q.den:Int)≠0:=by have:=q.den_nz;lia
def den_pos (q:Rat):(0:Int)<q.den:=by have:=q.den_nz;omega
def dv (t b:Int):Int:=if b<0 then -(Int.gcd t b:Int)else(Int.gcd t b:Int)
def zfj {t b:Int}(hb:b≠0):0<Int.gcd t b:=Int.gcd_pos_of_ne_zero_right _ hb
def zgL {t b:Int}(hb:b≠0):dv t b≠0:=by
 have:=zfj (t:=t) hb
 unfold dv;split <;> omega
def zhD {t b:Int}:(dv t b).natAbs=Int.gcd t b:=by
 unfold dv;split <;> lia
def zbl {t b:Int}(hb:b≠0):(dv t b).natAbs<=b.natAbs:=by
 rw[zhD];exact Nat.le_of_dvd ∅ (WT t b)
def zat {t b:Int}(hb:b≠0):t.fdiv (dv t b)=(Rat.divInt t b).num:=by
 rw[Rat.num_divInt,Int.gcd_comm b t]
 have h1:((Int.gcd t b:Nat):Int) ∣ t:=yT ..
 unfold dv
 split
 ·rename_i h
  rw[uc (Int.neg_dvd.mpr h1),Int.ediv_neg,Int.sign_eq_neg_one_of_neg h]
  rw[show (-1*t)=-t by lia,Int.neg_ediv_of_dvd h1]
 ·rename_i h
  rw[uc h1,Int.sign_eq_one_of_pos ∅,Int.one_mul]
def zdp {t b:Int}(hb:b≠0):b.fdiv (dv t b)=((Rat.divInt t b).den:Int):=by
 rw[Rat.den_divInt,if_neg hb,Int.gcd_comm b t]
 have h1:((Int.gcd t b:Nat):Int) ∣ b:=WU ..
 have h2:Int.gcd t b ∣ b.natAbs:=WT t b
 unfold dv
 split
 ·rename_i h
  rw[uc (Int.neg_dvd.mpr h1),Int.ediv_neg]
  rw[Int.natCast_ediv,show ((b.natAbs:Nat):Int)=-b by lia,Int.neg_ediv_of_dvd h1]
 ·rename_i h
  rw[uc h1,Int.natCast_ediv,show ((b.natAbs:Nat):Int)=b by lia]
def zh6 {t b:Int}(hb:b≠0):(Rat.divInt t b).num.natAbs<=t.natAbs:=by
 rw[<-zat hb]
 have:t.fdiv (dv t b) ∣ t:=by
  have h1:dv t b ∣ t:=by
   unfold dv;split
   ·exact Int.neg_dvd.mpr (yT ..)
   ·exact yT ..
  obtain⟨c,hc⟩:=h1
  rw[uc ⟨c,hc⟩]
  refine⟨dv t b,?_⟩
  exact(WB ⟨c,hc⟩).symm
 by_cases h0:t=0
 ·subst h0;simp
 ·exact Nat.le_of_dvd ∅ (Int.natAbs_dvd_natAbs.mpr this)
def zhA {t b:Int}(hb:b≠0):(Rat.divInt t b).den<=b.natAbs:=by
 rw[Rat.den_divInt,if_neg hb];exact Nat.div_le_self _ _
def zbL (a b:Rat):Rat.divInt (a.num*b.den+b.num*a.den) (a.den*b.den)=a+b:=by
 rw[Rat.add_def',<-W6];simp
def J8 (a b:Rat):Rat.divInt (a.num*b.num) (a.den*b.den)=a*b:=by
 rw[Rat.mul_def',<-W6];simp
def V0 (a b:Rat):Rat.divInt (a.num*b.den) (a.den*b.num)=a/b:=by
 rw[W0,Rat.inv_def,<-Rat.divInt_mul_divInt,Rat.num_divInt_den]
def Xa (a b:Rat):a.num*b.den<b.num*a.den↔a<b:=(Rat.lt_iff a b).symm
def VW (n:Int):(n:Rat).num=n:=Rat.num_intCast n
def VU (n:Int):(n:Rat).den=1:=Rat.den_intCast n
structure zC where
 pl:Rat
 sp:Rat
 wt:Int
end KM
namespace L2
open PySem PySem.Spec PyProof.Rows
structure Cal (P:Program) (w:World) (K:Fg) (mg:Str->Option Value) (base:Heap) (x:Str) (k:Nat) (ps:List Str) (dvs:List V) (sp:Sp):Prop where
 ex:∃f fd ds,qP P w K mg base CX0 k f fd ps sp/\mg x=some (.ref f)/\PySem.W.keepIn K (.ref f)=true/\qO K fd ps ds/\zY dvs ds
def zI {X:Cx}{x:Str}{k:Nat}{ps:List Str}{dvs:List V}{sp:Sp}{p pos:Pos}{e:Expr}{es:List Expr}{t:TA}
  (c:Cal X.prog X.w X.K X.mg X.base x k ps dvs sp) (hr:xb k X.A) (ha:PA X (e::es) t) (hg:Gl X x:=by rfl) (hdb:(x == ("__debug__":Str))=false:=by decide)
  (he:starEach (e::es) X.env=(false,eval e X.env)::starEach es X.env:=by rfl) (hpl:(backTo pos (starEach es X.env)).any (·.1)=false:=by rfl) :
  PE X (.Call (.Name x p) (e::es) [] pos) (ZK sp dvs E0 t):=by
 obtain⟨f,fd,ds,F,hm,hk,hb,hd⟩:=c.ex
 exact zfK F hr hg hm hk hb hd zd4 ha hdb he hpl
structure Df (K:Fg) (mg:Str->Option Value) (x:Str) (st:Stmt) (ps:List Str) (dvs:List V):Prop where
 ex:∃(f:Addr) (oc:Value) (od:Option Addr) (dV kV doc pm:Value) (an:Option Addr) (cdv ct:Value) (osl:Array (Option Value)) (ds:List Value),
  K.lookup f=some ⟨oc,od,.func (PySem.W.fnOf x x (xt st) (zZ st) (zr st) dV kV doc pm an cdv ct),osl⟩/\PySem.W.codeIn K cdv x=true/\PySem.W.keepIn K (.ref f)=true/\mg x=some (.ref f) ∧
  zY dvs ds/\qO K (PySem.W.fnOf x x (xt st) (zZ st) (zr st) dV kV doc pm an cdv ct) ps ds
section
variable {P:Program}{w:World}{K:Fg}{mg:Str->Option Value}{base:Heap}
theorem Df.cal {x:Str}{st:Stmt}{N ps:List Str}{dvs:List V}{k:Nat}{sp:Sp}(D:Df K mg x st ps dvs) (S:zH N ps (zr st)) (len:∀vs H Q E,sp vs H Q E->vs.length=ps.length)
  (hbody:∀(f:Addr) (cdv:Value) (A:Around) (outer:List Env) (s:Shared) (H:Hp) (vs:List V) (Q:VK) (E:XK),xb k (A.deeper (envOfC x (zr st) s.heap.objs.size f cdv))->sp vs H Q E →
   ∃t,PSs (xl CX0 P w K mg base N x (zr st) f cdv A outer s H E).nox (zZ st) t/\t { nx:=λ_ H'=>Q .non H',rt:=Q } (qm N vs) H):Cal P w K mg base x (k+1) ps dvs sp:=by
 obtain⟨f,oc,od,dV,kV,doc,pm,an,cdv,ct,osl,ds,lk,hcd,hk,hm,hv,hb⟩:=D.ex
 refine⟨⟨f,_,ds,zbn lk hcd S len λA outer s H vs Q E hr hsp=>?_,hm,hk,hb,hv⟩⟩
 obtain⟨t,h,q⟩:=hbody f cdv A outer s H vs Q E hr hsp
 exact⟨t,h.nox,q⟩
theorem Df.calq {x:Str}{st:Stmt}{N ps:List Str}{dvs:List V}{k:Nat}{sp:Sp}(D:Df K mg x st ps dvs) (S:zH N ps (zr st))
  (hbody:∀(f:Addr) (cdv:Value) (A:Around) (outer:List Env) (s:Shared) (H:Hp) (vs:List V) (Q:VK) (E:XK),xb k (A.deeper (envOfC x (zr st) s.heap.objs.size f cdv))->sp vs H Q E →
   ∃t,PSs (xl CX0 P w K mg base N x (zr st) f cdv A outer s H E).nox (zZ st) t/\t { nx:=λ_ H'=>Q .non H',rt:=Q } (qm N vs) H) (len:∀vs H Q E,sp vs H Q E->vs.length=ps.length:=by intro _ _ _ _ h;repeat (first | (cases h;subst_vars;rfl) | (obtain⟨rfl,_⟩:=h;rfl) | (obtain⟨_,h⟩:=h))):Cal P w K mg base x (k+1) ps dvs sp:=D.cal S len hbody
theorem zji {x:Str}{st:Stmt}{ps:List Str}{f:Addr}{oc:Value}{od an:Option Addr}{osl:Array (Option Value)}{dV kV doc pm cdv ct:Value}
  (l:K.lookup f=some ⟨oc,od,.func (PySem.W.fnOf x x (xt st) (zZ st) (zr st) dV kV doc pm an cdv ct),osl⟩) (c:PySem.W.codeIn K cdv x=true) (k:PySem.W.keepIn K (.ref f)=true) (m:mg x=some (.ref f))
  (hb:∀us:List Value,us.length=ps.length->bindArgs (PySem.W.fnOf x x (xt st) (zZ st) (zr st) dV kV doc pm an cdv ct) ⟨us,[]⟩=pure (ps.zip us)):Df K mg x st ps [] :=
 ⟨⟨f,oc,od,dV,kV,doc,pm,an,cdv,ct,osl,[],l,c,k,m,.nil,.all hb⟩⟩
end
def rp (q:Rat):List V:=[.int q.num,.int (q.den:Int)]
def zD (H:Hp) (p:Addr) (q:Rat):Prop:=H p=some (.tup (rp q))
def zD.same {H H':Hp}{p:Addr}{q:Rat}(h:zD H p q) (e:zj H H'):zD H' p q:=e _ _ h
def Sz (n:Nat) (q:Rat):Prop:=Bd n q.num/\Bd n (q.den:Int)
def Sz.mono {m n:Nat}{q:Rat}(h:Sz m q) (l:m<=n):Sz n q:=⟨h.1.mono l,h.2.mono l⟩
def Sz.md {m n:Nat}{q:Rat}(h:Sz m q) (l:m<=n:=by decide):Sz n q:=h.mono l
def Bd.of_le {n:Nat}{i j:Int}(h:i.natAbs<=j.natAbs) (b:Bd n j):Bd n i:=u6 h b
def Sz.divInt {n:Nat}{t b:Int}(hb:b≠0) (h1:Bd n t) (h2:Bd n b):Sz n (Rat.divInt t b) :=
 ⟨h1.of_le (KM.zh6 hb),h2.of_le (by have:=KM.zhA (t:=t) hb;omega)⟩
def Sz.add {m n:Nat}{x y:Rat}(h:Sz m x) (k:Sz n y):Sz (m+n+1) (x+y):=by
 rw[<-KM.zbL]
 refine .divInt (yi (KM.xL x) (KM.xL y)) ?_ ((h.2.mul k.2).mono ∅)
 exact((h.1.mul k.2).add (k.1.mul h.2)).mono ∅
def Sz.mul {m n:Nat}{x y:Rat}(h:Sz m x) (k:Sz n y):Sz (m+n) (x*y):=by
 rw[<-KM.J8]
 exact .divInt (yi (KM.xL x) (KM.xL y)) (h.1.mul k.1) (h.2.mul k.2)
def Sz.int {n:Nat}{i:Int}(h:Bd n i) (hn:1<=n):Sz n (i:Rat):=by
 refine⟨by rw[KM.VW];exact h,?_⟩
 rw[KM.VU]
 exact Bd.mono (m:=1) (show (1:Int).natAbs<2^1 by decide) hn
def va (q:Rat):SeqAt.shaped (.tuple [.int q.num,.int (q.den:Int)])=true:=rfl
def zD.rd {H:Hp}{p:Addr}{q:Rat}(h:zD H p q):RdD H (.ref p) (.tuple [.int q.num,.int (q.den:Int)]):=.tup h (.cons (.int _) (.cons (.int _) .nil))
def zau (x y:Rat):PyData.eqv (.tuple [.int x.num,.int (x.den:Int)]) (.tuple [.int y.num,.int (y.den:Int)])=decide (x=y):=by
 simp only[PyData.eqv,PyData.eqvAll,Bool.and_true]
 rw[yr]
 simp only[yF,beq_iff_eq,wK]
 constructor
 ·rintro ⟨h1,h2⟩;exact Rat.ext h1 ∅
 ·rintro rfl;exact⟨rfl,rfl⟩
inductive ql  (vs:List V) (H:Hp) (Q:VK) (_e3:XK):Prop
 |mk:∀t b,(vs=[.int t,.int b])->(b≠0)->(Bd 8900 b)->(∀p H',zj H H'->zD H' p (Rat.divInt t b)->Q (.ref p) H')->ql vs H Q _e3
inductive xY (C:Rat->Rat->Prop) (f:Rat->Rat->Rat) (vs:List V) (H:Hp) (Q:VK) (_e3:XK):Prop
 |mk:∀p q x y,(vs=[.ref p,.ref q])->(zD H p x)->(zD H q y)->(C x y)->(∀r H',zj H H'->zD H' r (f x y)->Q (.ref r) H')->xY C f vs H Q _e3
def Sz2 (x y:Rat):Prop:=Sz 4000 x/\Sz 4000 y
def at0 {α:Type}(a b:α):atI [a,b] 0=some a:=rfl
def at1 {α:Type}(a b:α):atI [a,b] 1=some b:=rfl
def zj.upd {H:Hp}{p:Addr}{o:HO}(h:H p=none):zj H (upd H p o):=λb u e=>by rw[zF (zG e h)];exact e
def TrX (h B:Heap) (e:Addr) (cls a0:Value) (dct:Option Addr) (fl:Value):Prop :=
 ∃oe vs T oT ts,h.get? e=some oe/\oe.cls=cls/\oe.dict=dct/\oe.data=.fields vs/\vs[0]?=some a0/\vs[1]?=some (.ref T)/\B.get? T=none/\T≠e/\h.get? T=some oT/\oT.data=.fields ts/\ts[3]?=some fl
def zcD (o:Obj) (f:Array Value->Array Value):(Obj.mapFields f o).dict=o.dict:=by
 unfold Obj.mapFields;split <;> rfl
section
variable {M:Model}{A:Around}{E:Value->Shared->Prop}{s:Shared}{B:Heap}{env:Env}{outer l:List Env}{L e:Addr}{oe:Obj}{vs:Array Value}{a0 cls fl:Value}{dct:Option Addr}{Q:Unit->Shared->Prop}
theorem zbm {head:Value}{hadNext:Bool}(hfr:A.frames=some (env::outer)) (hl:s.heap.FunFrames B (env::outer)) (hf:env.frame=some L) (he:s.heap.get? e=some oe) (hB:B.StaysIn s.heap) (hn:B.get? e=none) (hd:oe.data=.fields vs) (hz:1<vs.size) (h0:vs[0]?=some a0)
  (q:∀h',B.StaysIn h'->h'.FunFrames B (env::outer)->TrX h' B e oe.cls a0 oe.dict (rawInt L)->s.heap.UpToSlots h'->Q () { s with heap:=h' }) :
  wpAny M A (do let a <-frameOf env;let pl <-entryPlaceOf L hadNext;let b <-EntryCells.newEntry head a .none (rawInt L) .none pl;setField (.ref e) 1 b) Q E s:=by
 have nf:e∉(env::outer).filterMap (·.frame):=λm=>by
  obtain⟨_,o,ho,hnf⟩:=hl.mem m
  rw[he]at ho;cases ho;exact hnf vs hd
 refine wc (wpAny_frameOf_fun hfr hl hf λg1 k1=>wc (wpAny_entryPlaceOf λpl hpl=>?_))
 unfold EntryCells.newEntry newFields
 have e1:g1.get? e=some oe:=(k1.2.1 e nf).trans he
 have B1:B.StaysIn g1:=λb o z=>(k1.2.1 b λm=>by rw[(hl.mem m).1]at z;cases z).trans (hB b o z)
 have fr:g1.objs.size≠e:=uq (wx e1)
 have d3:=Obj.data_mapFields hd (·.setIfInBounds 1 (Value.ref g1.objs.size))
 refine wc (w8 (uD (we _ e1) hd hz (q _ (λb o z=>?_) (hl.of_keeps λb o hb nn=>?_) ?_ λb o hb nn=>?_)) (hpl.sizeOk5 _ _ _ _ _))
 ·have ne:e≠b:=λr=>by rw[<-r,hn]at z;cases z
  rw[yv _ _ ne]
  exact we _ (B1 b o z)
 ·obtain⟨sl,z⟩:=k1.2.2 b o hb
  have ne:e≠b:=λr=>by rw[<-r,he]at hb;cases hb;exact nn vs hd
  exact⟨{ o with slots:=sl },by rw[yv _ _ ne];exact we _ z,rfl⟩
 ·refine⟨_,_,g1.objs.size,_,_,yy _ (we _ e1) (Obj.isFreed_of_fields d3),Obj.cls_mapFields _ _,zcD _ _,d3,?_,by simp[hz],B1.fresh,fr,(yv _ _ (Ne.symm fr)).trans (wu g1 rfl),rfl,?_⟩
  ·rw[Wg (by decide)];exact h0
  ·first | (simp;done) | (rcases hpl with rfl | ⟨_,_,_,_,_,_,_,rfl⟩ <;> simp)
 ·obtain⟨sl,z⟩:=k1.2.2 b o hb
  have ne:e≠b:=λr=>by rw[<-r,he]at hb;cases hb;exact nn vs hd
  exact⟨sl,by rw[yv _ _ ne];exact we _ z⟩
theorem zaH (hfr:A.frames=some (env::outer)) (hl:s.heap.FunFrames B (env::outer)) (hf:env.frame=some L) (he:s.heap.get? e=some oe) (hB:B.StaysIn s.heap) (hn:B.get? e=none) (hd:oe.data=.fields vs) (h1:vs[1]?=some .none) (h0:vs[0]?=some a0)
  (q:∀h',B.StaysIn h'->h'.FunFrames B (env::outer)->TrX h' B e oe.cls a0 oe.dict (rawInt L)->s.heap.UpToSlots h'->Q () { s with heap:=h' }):wpAny M A (noteFrame (.ref e) env) Q E s:=by
 unfold noteFrame
 simp only[hf]
 refine wc (wP he hd h1 ?_)
 rw[if_neg (by decide)]
 exact zbm hfr hl hf he hB hn hd (uf.mp h1).1 h0 q
theorem zcH (hfr:A.frames=some (env::outer)) (hl:s.heap.FunFrames B (env::outer)) (hf:env.frame=some L) (ht:TrX s.heap B e cls a0 dct .none) (hB:B.StaysIn s.heap) (hn:B.get? e=none)
  (q:∀h',B.StaysIn h'->h'.FunFrames B (env::outer)->TrX h' B e cls a0 dct (rawInt L)->s.heap.UpToSlots h'->Q () { s with heap:=h' }):wpAny M A (noteFrame (.ref e) env) Q E s:=by
 obtain⟨oe,vs,T,oT,ts,he,rfl,rfl,hd,h0,h1,nT,Te,hT,dT,h3⟩:=ht
 unfold noteFrame
 simp only[hf]
 refine wc (wP he hd h1 ?_)
 rw[if_pos (show (Value.ref T != Value.none)=true from by simp)]
 refine wc (wP hT dT h3 ?_)
 rw[if_neg (show ¬((Value.none == rawInt L)=true)from by simp[rawInt])]
 have oth:∀b,b≠T->(s.heap.update T (Obj.mapFields (·.setIfInBounds 3 Value.none))).get? b=s.heap.get? b:=λb hb=>yv _ _ (Ne.symm hb)
 have nr:∀b o,s.heap.get? b=some o->(∀vs,o.data≠.fields vs)->b≠T:=λb o hb nn r=>by rw[r,hT]at hb;cases hb;exact nn ts dT
 refine wc (uD hT dT (uf.mp h3).1 (zbm hfr (hl.of_keeps λb o hb nn=>⟨o,(oth b (nr b o hb nn)).trans hb,rfl⟩) hf ((oth e (Ne.symm Te)).trans he) (λb o z=>(oth b λr=>by rw[r,nT]at z;cases z).trans (hB b o z)) hn hd (uf.mp h1).1 h0 λh' x1 x2 x3 x4=>q h' x1 x2 x3 λb o hb nn=>x4 b o ((oth b (nr b o hb nn)).trans hb) nn))
theorem zdt (hB:B.StaysIn s.heap) (hl:s.heap.FunFrames B l) (ht:TrX s.heap B e cls a0 dct fl)
  (q:∀h',B.StaysIn h'->h'.FunFrames B l->TrX h' B e cls a0 dct .none->s.heap.UpToSlots h'->Q () { s with heap:=h' }):wpAny M A (setFlight (.ref e) none) Q E s:=by
 obtain⟨oe,vs,T,oT,ts,he,hc,hdc,hd,h0,h1,nT,Te,hT,dT,h3⟩:=ht
 have z3:3<ts.size:=(uf.mp h3).1
 have oth:∀b,b≠T->(s.heap.update T (Obj.mapFields (·.setIfInBounds 3 ((none:Option Addr).elim Value.none λf=>rawInt f)))).get? b=s.heap.get? b:=λb hb=>yv _ _ (Ne.symm hb)
 have nr:∀b o,s.heap.get? b=some o->(∀vs,o.data≠.fields vs)->b≠T:=λb o hb nn r=>by rw[r,hT]at hb;cases hb;exact nn ts dT
 unfold setFlight
 refine wc (wP he hd h1 ?_)
 rw[if_pos (show (Value.ref T != Value.none)=true from by simp)]
 exact uD hT dT z3 (q _ (λb o z=>(oth b λr=>by rw[r,nT]at z;cases z).trans (hB b o z)) (hl.of_keeps λb o hb nn=>⟨o,(oth b (nr b o hb nn)).trans hb,rfl⟩)
  ⟨oe,vs,T,_,_,(oth e (Ne.symm Te)).trans he,hc,hdc,hd,h0,h1,nT,Te,yy _ hT (Obj.isFreed_of_fields (Obj.data_mapFields dT _)),Obj.data_mapFields dT _,by simp[z3]⟩ λb o hb nn=>⟨o.slots,(oth b (nr b o hb nn)).trans hb⟩)
end
def FlX (B:Heap) (l:List Env) (e:Addr) (cls a0:Value) (dct:Option Addr) (h:Heap):Prop:=B.StaysIn h/\B.get? e=none/\h.FunFrames B l/\TrX h B e cls a0 dct .none
def HeX (B:Heap) (l:List Env) (e:Addr) (cls a0:Value) (dct:Option Addr) (h:Heap):Prop:=B.StaysIn h/\B.get? e=none/\h.FunFrames B l/\∃fl,TrX h B e cls a0 dct fl
section
variable {M:Model}{A:Around}{E:Value->Shared->Prop}{s:Shared}{B h:Heap}{env:Env}{outer l:List Env}{L e:Addr}{a0 cls:Value}{dct:Option Addr}{Q:Unit->Shared->Prop}
theorem FlX.held (x:FlX B l e cls a0 dct h):HeX B l e cls a0 dct h:=⟨x.1,x.2.1,x.2.2.1,_,x.2.2.2⟩
theorem FlX.there (x:FlX B l e cls a0 dct h):∃ob,h.get? e=some ob/\ob.cls=cls:=by
 obtain⟨_,_,_,oe,_,_,_,_,he,hc,_⟩:=x
 exact⟨oe,he,hc⟩
theorem FlX.first (x:FlX B l e cls a0 dct h):∃oe vs,h.get? e=some oe/\oe.cls=cls/\oe.dict=dct/\oe.data=.fields vs:=by
 obtain⟨_,_,_,oe,vs,_,_,_,he,hc,hdc,hd,_⟩:=x
 exact⟨oe,vs,he,hc,hdc,hd⟩
theorem zbx (hfr:A.frames=some (env::outer)) (hf:env.frame=some L) (x:FlX B (env::outer) e cls a0 dct s.heap) (q:∀h',HeX B (env::outer) e cls a0 dct h'->s.heap.UpToSlots h'->Q () { s with heap:=h' }):wpAny M A (noteFrame (.ref e) env) Q E s :=
 zcH hfr x.2.2.1 hf x.2.2.2 x.1 x.2.1 λh' x1 x2 x3 x4=>q h' ⟨x1,x.2.1,x2,_,x3⟩ x4
theorem Qj (x:HeX B l e cls a0 dct s.heap) (q:∀h',FlX B l e cls a0 dct h'->s.heap.UpToSlots h'->Q () { s with heap:=h' }):wpAny M A (setFlight (.ref e) none) Q E s:=by
 obtain⟨x1,x2,x3,fl,x4⟩:=x
 exact zdt x1 x3 x4 λh' y1 y2 y3 y4=>q h' ⟨y1,x2,y2,y3⟩ y4
theorem zdO (hfr:A.frames=some (env::outer)) (hf:env.frame=some L) (x:FlX B (env::outer) e cls a0 dct s.heap) (q:∀h',FlX B outer e cls a0 dct h'->s.heap.UpToSlots h'->Q () { s with heap:=h' }):wpAny M A (leaving env (.ref e)) Q E s:=by
 unfold leaving
 refine wc (zbx hfr hf x λh' y up=>Qj (s:={ s with heap:=h' }) y λh2 z up2=>?_)
 obtain⟨z1,z2,⟨_,_,z3⟩,z4⟩:=z
 exact q h2 ⟨z1,z2,z3,z4⟩ (up.trans up2)
end
structure Fly (P:Program) (w:World) (l:List Env) (H:Hp) (s:Shared) (C:Addr) (H':Hp) (a:Addr) (s':Shared) (B:Heap) (a0:Value) (dct:Option Addr):Prop where
 os:s'.os=s.os
 bare:AllBare s'.gens
 un:Un (frs l) [] H H' s.heap s'.heap
 hok:HOk P w H' s'.heap
 fly:FlX B l a (.ref C) a0 dct s'.heap
 kb:∀b o,s.heap.get? b=some o->b∉frs l->(∃o',B.get? b=some o')/\(H b=none->B.get? b=some o)
 kt:∀b u,H' b=some u->∃o,B.get? b=some o
abbrev CX1 (P:Program) (w:World):CXT:=λouter H s E e s'=>∃a C H' B a0 dct,e=.ref a/\Fly P w outer H s C H' a s' B a0 dct/\E (.ref C) dct H'
section
variable {P:Program}{w:World}{H H':Hp}{h h' B:Heap}{a:Addr}{o:HO}
theorem xu.obj (x:xu P w H h a o):∃u,h.get? a=some u:=by
 cases o with
 |lst xs=>obtain⟨_,_,_,_,e⟩:=x;exact⟨_,e⟩
 |tup xs=>obtain⟨_,_,_,ob,e,_⟩:=x;exact⟨_,e⟩
 |dK kvs=>obtain⟨_,_,_,_,o,_,_,e,_⟩:=x;exact⟨_,e⟩
 |dT kvs=>obtain⟨_,_,_,_,o,_,_,e,_⟩:=x;exact⟨_,e⟩
 |set S n=>obtain⟨o,_,_,_,e,_⟩:=x;exact⟨_,e⟩
 |ins C dx fs=>obtain⟨_,_,_,e,_⟩:=x;exact⟨_,e⟩
 |own y=>obtain⟨_,e⟩:=x;exact⟨_,e⟩
 |xd fs=>obtain⟨_,⟨_,_,_,e,_⟩,_⟩:=x;exact⟨_,e⟩
 |rng lo hi=>obtain⟨_,_,_,e⟩:=x;exact⟨_,e⟩
 |frz ob u=>obtain⟨e,_⟩:=x;exact⟨_,e⟩
 |tbl ps=>exact⟨_,(show h.get? a=some _ from x)⟩
 |met f y=>exact⟨_,(show h.get? a=some _ from x)⟩
 |ext φ=>obtain⟨_,⟨_,e⟩,_⟩:=x;exact⟨_,e⟩
theorem zdC (x:HOk P w H h) (k1:B.StaysIn h) (k2:B.StaysIn h') (kt:∀b u,H b=some u->∃o,B.get? b=some o):HOk P w H h':=λa o e =>
 (x a o e).stay (λb u hb q=>by
  have ht:∃v,H b=some v:=by
   rcases hb with rfl | hb
   ·exact⟨_,e⟩
   ·exact⟨_,hb⟩
  obtain⟨v,hv⟩:=ht
  obtain⟨ob,hob⟩:=kt b v hv
  rw[k1 b ob hob]at q;cases q;exact k2 b _ hob) (λ_ q=>q) λ_ _ q=>q
end
section
variable {P:Program}{w:World}{l:List Env}{H H':Hp}{s s':Shared}{C a:Addr}{B h':Heap}{a0:Value}{dct:Option Addr}
theorem Fly.move (F:Fly P w l H s C H' a s' B a0 dct) (fl:FlX B l a (.ref C) a0 dct h') (up:s'.heap.UpToSlots h'):Fly P w l H s C H' a { s' with heap:=h' } B a0 dct where
 os:=F.os
 bare:=F.bare
 un:={
  keep:=λb o q n hb _=>fl.1 b o ((F.kb b o q hb).2 n)
  slot:=λb o q n hb hx=>by
   obtain⟨sl,e⟩:=F.un.slot b o q n hb hx
   obtain⟨_,o',ho',hd⟩:=F.fly.2.2.1.mem hb
   have z:some o'=some { o with slots:=sl }:=ho'.symm.trans e
   cases z
   obtain⟨sl',e'⟩:=up b _ e hd
   exact⟨sl',e'⟩
  free:=F.un.free
  there:=λb o q _=>by
   by_cases hb:b∈frs l
   ·obtain⟨_,o',ho',_⟩:=fl.2.2.1.mem hb
    exact⟨o',ho'⟩
   ·obtain⟨o',ho'⟩:=(F.kb b o q hb).1
    exact⟨o',fl.1 b o' ho'⟩
  tups:=F.un.tups
  frzs:=F.un.frzs
  tbls:=F.un.tbls }
 hok:=zdC F.hok F.fly.1 fl.1 F.kt
 fly:=fl
 kb:=F.kb
 kt:=F.kt
theorem Fly.untracked (F:Fly P w l H s C H' a s' B a0 dct):H' a=none:=by
 cases q:H' a with
 |none=>rfl
 |some u =>
  obtain⟨o,e⟩:=F.kt a u q
  rw[F.fly.2.1]at e;cases e
end
section
variable {X:Cx}{pz:List (Addr×Obj)}{σ:St}{H H':Hp}{s:Shared}
theorem Inv.notfr (I:Inv X pz σ H s){b:Addr}{o:Obj}(e:X.s₀.heap.get? b=some o) (hb:b∉X.fs):b∉frs X.stack:=λz=>by
 rcases ww.mp (I.stkSub b z)with r | r
 ·exact absurd (wG (wx e) I.ok.above) (by rw[r];exact uu _)
 ·exact hb r
theorem zdu {g:Array GenState}{d:Drawn}{t:Nat}{C a:Addr}{B h1 h':Heap}{a0:Value}{dct:Option Addr}(I:Inv X pz σ H s) (hex:X.ex=[]) (hfr:∀b∈X.fs,b∈frs X.stack) (u:Un (frs X.stack) [] H H' s.heap h1)
  (kb:∀b o,s.heap.get? b=some o->b∉frs X.stack->(∃o',B.get? b=some o')/\(H b=none->B.get? b=some o)) (kt:∀b u,H' b=some u->∃o,B.get? b=some o)
  (hok:HOk X.prog X.w H' h1) (k1:B.StaysIn h1) (hfun:h1.FunFrames B X.stack) (up:h1.UpToSlots h') (fl:FlX B X.outer a (.ref C) a0 dct h') (hg:AllBare g) :
  Fly X.prog X.w X.outer X.H₀ X.s₀ C H' a { s with heap:=h',gens:=g,drawn:=d,toks:=t } B a0 dct where
 os:=I.os
 bare:=hg
 un:={
  keep:=λb o q n hb hx=>by
   have hx':b∉X.ex:=by rw[hex];exact hx
   exact fl.1 b o ((kb b o (I.base.keep b o q n hb hx') (I.notfr q hb)).2 (I.base.free b o q n hx'))
  slot:=λb o q n hb hx=>by
   have hx':b∉X.ex:=by rw[hex];exact hx
   obtain⟨sl,e⟩:=I.base.slot b o q n hb hx'
   obtain⟨sl1,e1⟩:=u.slot b _ e (I.base.free b o q n hx') (hfr b hb) hx
   obtain⟨_,o',ho',hd⟩:=hfun.mem (hfr b hb)
   have z:=ho'.symm.trans e1
   cases z
   obtain⟨sl2,e2⟩:=up b _ e1 hd
   exact⟨sl2,e2⟩
  free:=λb o q n hx=>by
   have hx':b∉X.ex:=by rw[hex];exact hx
   obtain⟨o',e⟩:=I.base.there b o q hx'
   exact u.free b o' e (I.base.free b o q n hx') hx
  there:=λb o q hx=>by
   have hx':b∉X.ex:=by rw[hex];exact hx
   by_cases hb:b∈X.fs
   ·obtain⟨_,o',ho',_⟩:=fl.2.2.1.mem hb
    exact⟨o',ho'⟩
   ·obtain⟨o',e⟩:=I.base.there b o q hx'
    obtain⟨o2,e2⟩:=(kb b o' e (I.notfr q hb)).1
    exact⟨o2,fl.1 b o2 e2⟩
  tups:=λb xs q=>u.tups b xs (I.base.tups b xs q)
  frzs:=λb o xs q=>u.frzs b o xs (I.base.frzs b o xs q)
  tbls:=λb ps q=>by
   obtain⟨m1,e1⟩:=I.base.tbls b ps q
   obtain⟨m2,e2⟩:=u.tbls b _ e1
   exact⟨m1++m2,by rw[e2,WJ]⟩ }
 hok:=zdC hok k1 fl.1 kt
 fly:=fl
 kb:=λb o q hb=>by
  have hx':b∉X.ex:=by rw[hex];exact wO
  obtain⟨o',e⟩:=I.base.there b o q hx'
  have z:=kb b o' e (I.notfr q hb)
  exact⟨z.1,λn=>(kb b o (I.base.keep b o q n hb hx') (I.notfr q hb)).2 (I.base.free b o q n hx')⟩
 kt:=kt
end
abbrev XJ:=Addr->Option Addr->St->Hp->Prop
def za8 (X:Cx) (J:XJ):Prop:=∀(pz:List (Addr×Obj)) (σ:St) (H:Hp) (s:Shared) (a C:Addr) (H':Hp) (s':Shared) (B:Heap) (a0:Value) (dct:Option Addr),
 Inv X pz σ H s->Fly X.prog X.w X.stack H s C H' a s' B a0 dct->J C dct σ H'->X.xe (.ref a) s'
def EJ (E:XK):XJ:=λC d _ H'=>E (.ref C) d H'
section
variable {P:Program}{w:World}{K:Fg}{mg:Str->Option Value}{base:Heap}{N:List Str}{qual:Str}{scope:Scope}{f:Addr}{cd:Value}{A:Around}{outer:List Env}{s:Shared}{H:Hp}{E:XK}
theorem Xn:za8 (xl (CX1 P w) P w K mg base N qual scope f cd A outer s H E) (EJ E):=by
 intro pz σ H1 s1 a C H' s' B a0 dct I F q
 obtain⟨hh,g,d,t,os'⟩:=s'
 have e:os'=s1.os:=F.os
 subst e
 refine zdO (L:=s.heap.objs.size) I.ok.frames rL F.fly λh' fl up=>?_
 refine⟨a,C,H',B,a0,dct,rL,?_,q⟩
 have z:=zdu (g:=g) (d:=d) (t:=t) I rfl (λb hb=>wR _ hb) F.un F.kb F.kt F.hok F.fly.1 F.fly.2.2.1 up fl F.bare
 exact z
end
def ziX (sp:Sp) (dvs:List V) (J:XJ) (t:TA):TE:=λσ H Q=>t σ H λvs H1=>sp (vs++dvs) H1 Q λc d H'=>∃C,c=.ref C/\J C d σ H'
structure vG (P:Program) (w:World) (K:Fg) (mg:Str->Option Value) (base:Heap) (x:Str) (k:Nat) (ps:List Str) (dvs:List V) (sp:Sp):Prop where
 ex:∃f fd ds,qP P w K mg base (CX1 P w) k f fd ps sp/\mg x=some (.ref f)/\PySem.W.keepIn K (.ref f)=true/\qO K fd ps ds/\zY dvs ds
section
variable {X:Cx}{k:Nat}{f:Addr}{fd:FuncData}{ps:List Str}{sp:Sp}{dvs:List V}{ds:List Value}{J:XJ}{x:Str}{p pos:Pos}{e:Expr}{es:List Expr}{t:TA}
theorem zfY {pz:List (Addr×Obj)}{σ:St}{H:Hp}{s:Shared}{Q:VK}{us:List Value}{vs:List V}(F:qP X.prog X.w X.K X.mg X.base (CX1 X.prog X.w) k f fd ps sp) (hr:xb k X.A) (hb:qO X.K fd ps ds) (hd:zY dvs ds) (hx:za8 X J)
  (I:Inv X pz σ H s) (r:zY vs us) (h:sp (vs++dvs) H Q λc d H'=>∃C,c=.ref C/\J C d σ H'):wpAny (model X.prog X.w) X.A (call (.ref f) us) (EP X pz σ Q) X.xe s:=by
 have r2:zY (vs++dvs) (us++ds):=r.append hd
 have hl:(us++ds).length=ps.length:=by rw[<-r2.length];exact F.len _ _ _ _ h
 refine Wy (codeAny_mono (F.run X.A X.stack s H ⟨us,[]⟩ (us++ds) (vs++dvs) Q _ hr I.env0 (hb s us I.kIn hl) r2 h) λr s' hq=>?_)
 cases r with
 |error e =>
  obtain⟨a,C,H',B,a0,dct,rfl,F,C',hC,q⟩:=hq
  cases hC
  exact hx pz σ H s a C H' s' B a0 dct I F q
 |ok fl =>
  cases fl with
  |ret u=>exact I.after hq
  |next=>exact False.elim hq
  |brk=>exact False.elim hq
  |cont=>exact False.elim hq
theorem zbG (c:vG X.prog X.w X.K X.mg X.base x k ps dvs sp) (hr:xb k X.A) (hx:za8 X J) (ha:PA X (e::es) t) (hg:Gl X x:=by rfl) (hdb:(x == ("__debug__":Str))=false:=by decide)
  (he:starEach (e::es) X.env=(false,eval e X.env)::starEach es X.env:=by rfl) (hpl:(backTo pos (starEach es X.env)).any (·.1)=false:=by rfl) :
  PE X (.Call (.Name x p) (e::es) [] pos) (ziX sp dvs J t):=by
 obtain⟨f,fd,ds,F,hm,hk,hb,hd⟩:=c.ex
 intro pz s σ H Q I h
 refine yY (vQ I hg hm ?_ hdb)
 refine WN (h₀:=X.base) I.ok.mod.kin hk (thn (ha pos pz s σ H _ I h) λus s1 ⟨vs,H1,I1,r,q⟩=>⟨I1.kIn,?_⟩) he hpl
 exact zfY F hr hb hd hx I1 r q
end
section
variable {P:Program}{w:World}{K:Fg}{mg:Str->Option Value}{base:Heap}
theorem Df.cal1 {x:Str}{st:Stmt}{N ps:List Str}{dvs:List V}{k:Nat}{sp:Sp}(D:Df K mg x st ps dvs) (S:zH N ps (zr st)) (len:∀vs H Q E,sp vs H Q E->vs.length=ps.length)
  (hbody:∀(f:Addr) (cdv:Value) (A:Around) (outer:List Env) (s:Shared) (H:Hp) (vs:List V) (Q:VK) (E:XK),xb k (A.deeper (envOfC x (zr st) s.heap.objs.size f cdv))->sp vs H Q E →
   ∃t,PSs (xl (CX1 P w) P w K mg base N x (zr st) f cdv A outer s H E) (zZ st) t/\t { nx:=λ_ H'=>Q .non H',rt:=Q } (qm N vs) H):vG P w K mg base x (k+1) ps dvs sp:=by
 obtain⟨f,oc,od,dV,kV,doc,pm,an,cdv,ct,osl,ds,lk,hcd,hk,hm,hv,hb⟩:=D.ex
 exact⟨⟨f,_,ds,zbn lk hcd S len λA outer s H vs Q E hr hsp=>hbody f cdv A outer s H vs Q E hr hsp,hm,hk,hb,hv⟩⟩
theorem Df.cal1q {x:Str}{st:Stmt}{N ps:List Str}{dvs:List V}{k:Nat}{sp:Sp}(D:Df K mg x st ps dvs) (S:zH N ps (zr st))
  (hbody:∀(f:Addr) (cdv:Value) (A:Around) (outer:List Env) (s:Shared) (H:Hp) (vs:List V) (Q:VK) (E:XK),xb k (A.deeper (envOfC x (zr st) s.heap.objs.size f cdv))->sp vs H Q E →
   ∃t,PSs (xl (CX1 P w) P w K mg base N x (zr st) f cdv A outer s H E) (zZ st) t/\t { nx:=λ_ H'=>Q .non H',rt:=Q } (qm N vs) H) (len:∀vs H Q E,sp vs H Q E->vs.length=ps.length:=by intro _ _ _ _ h;repeat (first | (cases h;subst_vars;rfl) | (obtain⟨rfl,_⟩:=h;rfl) | (obtain⟨_,h⟩:=h))):vG P w K mg base x (k+1) ps dvs sp:=D.cal1 S len hbody
theorem vG.imp {x:Str}{k:Nat}{ps:List Str}{dvs:List V}{sp sp':Sp}(c:vG P w K mg base x k ps dvs sp) (h:∀vs H Q E,sp' vs H Q E->sp vs H Q E):vG P w K mg base x k ps dvs sp':=by
 obtain⟨f,fd,ds,F,r⟩:=c.ex
 exact⟨⟨f,fd,ds,F.imp h,r⟩⟩
end
abbrev Cx.tried (X:Cx) (pz:List (Addr×Obj)) (W:Value->Shared->Prop):Cx:={ X with pn:=X.pn++pz,xe:=W }
abbrev Cx.suite (X:Cx) (pz:List (Addr×Obj)) (a:Addr) (oe:Obj):Cx:={ X with A:=X.A.mark (some (.ref a)),calm:=false,pn:=X.pn++(pz++[(a,oe)]),xe:=λ_ _=>False }
abbrev Cx.testing (X:Cx) (a:Addr):Cx:={ X with A:=X.A.mark (some (.ref a)),calm:=false }
section
variable {X:Cx}{pz:List (Addr×Obj)}{σ:St}{H:Hp}{s:Shared}
theorem Inv.tried (I:Inv X pz σ H s) (W:Value->Shared->Prop):Inv (X.tried pz W) [] σ H s :=
 ⟨⟨I.ok.mod,I.ok.kind,I.ok.glob,I.ok.blt,I.ok.above,I.ok.inj,I.ok.has,I.ok.cab,I.ok.hd,I.ok.frames,I.ok.stk,I.ok.exf,I.ok.bs,I.ok.bsz,I.ok.noex,I.ok.exfs,I.ok.funs,I.ok.frf⟩,
  I.os,I.bare,I.base,I.loc,I.cell,I.free,I.freeC,λp hp=>I.pin p (by rw[yM]at hp;exact hp),I.hok,I.len⟩
theorem Inv.untried {pz':List (Addr×Obj)}{W:Value->Shared->Prop}(ok:X.Ok) (I:Inv (X.tried pz W) pz' σ H s):Inv X pz σ H s :=
 ⟨ok,I.os,I.bare,I.base,I.loc,I.cell,I.free,I.freeC,λp hp=>I.pin p (wH _ hp),I.hok,I.len⟩
theorem Inv.test (I:Inv X pz σ H s) (a:Addr):Inv (X.testing a) pz σ H s :=
 ⟨⟨I.ok.mod,I.ok.kind,I.ok.glob,I.ok.blt,I.ok.above,I.ok.inj,I.ok.has,I.ok.cab,(λh=>nomatch h),I.ok.frames,I.ok.stk,I.ok.exf,I.ok.bs,I.ok.bsz,I.ok.noex,I.ok.exfs,I.ok.funs,I.ok.frf⟩,
  I.os,I.bare,I.base,I.loc,I.cell,I.free,I.freeC,I.pin,I.hok,I.len⟩
theorem Inv.suite {a:Addr}{oe:Obj}{vs:Array Value}(I:Inv X pz σ H s) (e:s.heap.get? a=some oe) (hd:oe.data=.fields vs) (hn:H a=none):Inv (X.suite pz a oe) [] σ H s :=
 ⟨⟨I.ok.mod,I.ok.kind,I.ok.glob,I.ok.blt,I.ok.above,I.ok.inj,I.ok.has,I.ok.cab,(λh=>nomatch h),I.ok.frames,I.ok.stk,I.ok.exf,I.ok.bs,I.ok.bsz,I.ok.noex,I.ok.exfs,I.ok.funs,I.ok.frf⟩,
  I.os,I.bare,I.base,I.loc,I.cell,I.free,I.freeC,(λp hp=>by
   rw[yM]at hp
   have hp':p∈X.pn++pz\/p∈[(a,oe)]:=by
    rcases wM.mp hp with z | z
    ·exact .inl (wH _ z)
    ·rcases wM.mp z with z | z
     ·exact .inl (wq _ z)
     ·exact .inr z
   rcases hp' with z | z
   ·exact I.pin p z
   ·obtain rfl:p=(a,oe):=↥z
    refine⟨e,hn,λq=>?_,λq=>?_,λv q=>?_⟩
    ·obtain⟨m,⟨o,es,ep,ho,hd',_⟩,_⟩:=I.loc
     rw[<-show a=X.env.locals from q,e]at ho
     cases ho
     rw[hd]at hd';cases hd'
    ·obtain⟨_,o,ho,hnf⟩:=I.funs.mem q
     rw[show s.heap.get? a=some oe from e]at ho
     cases ho
     exact hnf vs hd
    ·have q':oe.data=.cell v:=q
     rw[hd]at q';cases q'),I.hok,I.len⟩
theorem Inv.unsuite {a:Addr}{oe:Obj}(ok:X.Ok) (I:Inv (X.suite pz a oe) [] σ H s):Inv X pz σ H s :=
 ⟨ok,I.os,I.bare,I.base,I.loc,I.cell,I.free,I.freeC,λp hp=>I.pin p (by
  rw[yM]
  rcases wM.mp hp with z | z
  ·exact wH _ z
  ·exact wq _ (wH _ z)),I.hok,I.len⟩
end
open PySem.W
section
variable {prog:Program}{w:World}{A:Around}{E:Value->Shared->Prop}{s:Shared}{K:Fg}{x D:Addr}{ox:Obj}{od:Option Obj}
structure ExcK (K:Fg) (D:Addr):Prop where
 ga:findIn K (.ref D) "__getattribute__" = some (some (.builtin "BaseException.__getattribute__"))
 no:findIn K (.ref D) "__getattr__" = some none
 bx:subIn K (.ref D) (.type "BaseException")=some true
 ob:mroIn K D (.type "object")=some true
 ds:hasDictIn K D=true
 ca:findIn K (.ref D) "__class__" = some (some (.builtin "object.__class__"))
 sp:specialIn K (.builtin "object.__class__") "__get__" = some (some (.builtin "getset_descriptor.__get__"))
 tk:takesIn K (.builtin "object.__class__")=some true
end
def qw (σ:St) (js:List Nat):St:=js.map λj=>(σ[j]?).getD none
inductive Z4 (X:Cx) (scope:Scope) (cl:List (Str×Addr)):List Str->List Nat->Prop
 |nil:Z4 X scope cl [] []
 |cons {x:Str}{j:Nat}{r:List Str}{js:List Nat}:X.N[j]?=some x->X.env.kindOf x=some .cell->(relabel scope X.env).names.lookup x=some .cell->(∃c,cl.lookup x=some c)->Z4 X scope cl r js->Z4 X scope cl (x::r) (j::js)
section
variable {X:Cx}{scope:Scope}{cl:List (Str×Addr)}
theorem Z4.length:∀{r:List Str}{js:List Nat},Z4 X scope cl r js->r.length=js.length
 |_,_,.nil=>rfl
 |_,_,.cons _ _ _ _ t=>by rw[wJ,wJ,Z4.length t]
theorem Z4.get:∀{r:List Str}{js:List Nat}{k:Nat}{x:Str},Z4 X scope cl r js->r[k]?=some x->∃j,js[k]?=some j/\X.N[j]?=some x/\X.env.kindOf x=some .cell/\(relabel scope X.env).names.lookup x=some .cell/\∃c,cl.lookup x=some c
 |_,_,_,_,.nil,e=>by simp at e
 |_,_,0,_,.cons h1 h2 h3 h4 _,e=>by
  simp at e;subst e
  exact⟨_,rL,h1,h2,h3,h4⟩
 |_,_,k+1,x,.cons _ _ _ _ t,e=>by
  obtain⟨j,r⟩:=Z4.get (k:=k) t ↥e
  exact⟨j,↥r⟩
theorem Z4.has {r:List Str}{js:List Nat}(h:Z4 X scope cl r js){x:Str}(hx:x∈r):∃c,cl.lookup x=some c:=by
 obtain⟨k,hk⟩:=yZ hx
 obtain⟨_,_,_,_,_,z⟩:=h.get hk
 exact z
end
def xE (X:Cx) (NB FR:List Str) (scope:Scope) (cl:List (Str×Addr)) (s3:Shared) (H3:Hp) (fp:List Addr):Cx :=
 { X with N:=NB++FR,s₀:=s3,H₀:=H3,env:=compEnvC scope cl s3.heap.objs.size X.env,outer:=X.stack,stack:=X.stack,ex:=fp,fn:=λ_=>false,pn:=[],xe:=λ_ _=>False }
def Jf (n:Nat) (js:List Nat) (wi:TI) (g:TG) (tt:TT) (te:TE):TE:=λσ H Q=>wi σ H λJ H1=>∀D,H1 D=none->∃W:Nat->Nat->Hp->List V->Prop,(∃m,W 0 m (upd H1 D (.lst [])) []) ∧
 ∀i m H2 ys,W i m H2 ys->H2 D=some (.lst ys)->(J.stop i H2/\Q (.ref D) H2) ∨
  (J.go i H2/\∀zs x H3,zs.length=n->J.yld i H2 x H3->g x (zs++qw σ js) H3 λσ4 H4=>σ4.drop n=qw σ js/\tt σ4 H4 λb H5 =>
   if b=true then te σ4 H5 (λv H6=>H6 D=some (.lst ys)/\ys.length<sizeLine/\∃m',m'<m/\W (i+1) m' (upd H6 D (.lst (ys++[v]))) (ys++[v]))
   else H5 D=some (.lst ys)/\∃m',m'<m/\W (i+1) m' H5 ys)
def JS {scope:Scope}{env:Env}{FR:List Str}{x:Str}(h:(relabel scope env).names.all (λy=>!(y.2 == .cell || y.2 == .free) || FR.contains y.1)=true)
  (e:(relabel scope env).names.lookup x=some .cell\/(relabel scope env).names.lookup x=some .free):x∈FR:=by
 have key:∀k:NameKind,(k == .cell || k == .free)=true->(x,k)∈(relabel scope env).names->x∈FR:=λk hk hm=>by
  have z:=W7.mp h _ hm
  simp only[hk,Bool.not_true,W3,List.contains_iff_mem]at z
  exact z
 rcases e with e | e
 ·exact key .cell rL (PySem.mem_of_lookup e)
 ·exact key .free rL (PySem.mem_of_lookup e)
def Vv {X:Cx}{elt tg iter:Expr}{ifs:List Expr}{scope:Scope}{cl:List (Str×Addr)}{pos:Pos}{NB FR:List Str}{js:List Nat}{wi:TI}{g:TG}{tt:TT}{te:TE}{Q:VK}{RR:Value->Addr->Result->Shared->Prop}
  {pz:List (Addr×Obj)}{s:Shared}{σ:St}{H:Hp}(hc:X.calm=true) (hcl:∀x c,cl.lookup x=some c->X.env.cells.lookup x=some c) (hcap:Z4 X scope cl FR js)
  (hnm:(relabel scope X.env).names.all (λy=>!(y.2 == .cell || y.2 == .free) || FR.contains y.1)=true) (hcell:∀x∈scope.names,x.2≠.cell) (hkind:scope.kind=.function)
  (hi:PI X tg iter wi) (hb:∀s3 H3 fp,PG (xE X NB FR scope cl s3 H3 fp) tg g/\PTs (xE X NB FR scope cl s3 H3 fp) ifs tt/\PE (xE X NB FR scope cl s3 H3 fp) elt te)
  (I:Inv X pz σ H s) (h:Jf NB.length js wi g tt te σ H Q)
  (hRR:∀D C H' s',Inv X pz σ H' s'->Qs X pz H' C->(∃m,s'.heap.Ns C m)->Q (.ref D) H'->RR (.ref D) C (.ok .next) s') :
  wpAny (model X.prog X.w) X.A (eval iter X.env) (λv s1=>wpAny (model X.prog X.w) X.A (pyIter v) (λit s2=>wpAny (model X.prog X.w) X.A (newList []) (λacc s3 =>
   wpAny (model X.prog X.w) X.A (newFunctionEnv scope X.env.globals cl [] X.env.qual none .none (some X.env)) (λcenv s4 =>
    codeAny (model X.prog X.w) X.A (.compStart (.ListComp elt [⟨tg,iter,ifs,0⟩] scope pos) 0 it acc { cenv with scope:=relabel scope X.env }) (RR acc cenv.locals) s4) X.xe s3) X.xe s2) X.xe s1) X.xe s:=by
 refine thn (hi pz s σ H _ I h) λv s1 h1=>thn h1 λitv s2 h2=>?_
 obtain⟨it,fp,tn,J,H2,e,I2,T,st2,f2,q2⟩:=h2
 subst e
 have hf2:H2 s2.heap.objs.size=none:=I2.hok.fresh (wo _)
 obtain⟨W,⟨m0,w0⟩,turn⟩:=q2 _ hf2
 refine w8 (hd:=by size_fits) ?_
 have I3:Inv X pz σ (upd H2 s2.heap.objs.size (.lst [])) { s2 with heap:=s2.heap.push { cls:=.type "list",dict:=none,data:=.seq ([]:List Value).toArray } } :=
  I2.laid (t':=s2.toks) (λb u e=>we _ e) (wo _) ⟨by decide,[],0,.nil,wu _ rfl⟩
 generalize hD:s2.heap.objs.size=D at *
 generalize hs3:({ s2 with heap:=s2.heap.push { cls:=.type "list",dict:=none,data:=.seq ([]:List Value).toArray } }:Shared)=s3 at *
 generalize hH3:upd H2 D (.lst [])=H3 at *
 have h3D:H3 D=some (.lst []):=by rw[<-hH3];exact zg
 have fpD:∀b∈fp,b≠D:=λb hb=>by
  obtain⟨o,e,_⟩:=T.obj _ _ st2 b hb
  rw[<-hD];exact wN (wx e)
 have k23:∀b u,s2.heap.get? b=some u->s3.heap.get? b=some u:=λb u e=>by rw[<-hs3];exact we _ e
 have st3:tn 0 s3.heap:=T.keep _ _ _ st2 λb _ o e=>k23 b o e
 have f3:∀b∈fp,Qs X pz H3 b:=λb hb=>⟨by rw[<-hH3,zF (fpD b hb)];exact(f2 b hb).1,(f2 b hb).2⟩
 refine wpAny_newFunctionEnv hcell (by intro y hy;simp at hy) (λh4 hns4 hsb4=>?_) hkind
 have k34:∀b u,s3.heap.get? b=some u->h4.get? b=some u:=λb u e=>hsb4.extBut b u (wN (wx e)) (we _ e)
 have okB:(xE X NB FR scope cl s3 H3 fp).Ok:=by
  refine⟨I3.ok.mod,hkind,I3.ok.glob,I3.ok.blt,wo _,λx y c e1 e2=>I3.ok.inj x y c (hcl _ _ e1) (hcl _ _ e2),λx e=>hcap.has (JS hnm e),(λx c e=>nomatch e),I3.ok.hd,I3.ok.frames,.inl rL,λb hb=>⟨?_,λx c e=>?_⟩,I3.bs,wV I3.ok.bsz I3.sz,λb o e hb=>?_,λb hb z=>?_,I3.stack,I3.stkFree⟩
  ·obtain⟨o,e,_⟩:=T.obj _ _ st3 b hb
   exact wN (wx e)
  ·exact(f3 b hb).2.2.2.2.1 x c (hcl _ _ e)
  ·obtain⟨_,_,_,z,_⟩:=f3 b hb
   rcases z with z | z
   ·exact I3.ok.noex b o e z
   ·exact absurd (wG (wx e) (wV I3.ok.bsz z)) (uu _)
  ·obtain⟨_,z1,z2,_⟩:=f3 b hb
   rcases ww.mp (I3.stkSub b z)with e | e
   ·exact z1 e
   ·exact z2 e
 have IB:Inv (xE X NB FR scope cl s3 H3 fp) [] (List.replicate NB.length none++qw σ js) H3 { s3 with heap:=h4,toks:=s3.toks+([]:List (Str×Value)).length }:=by
  refine⟨okB,rL,I3.bare,Un.kept k34,⟨_,hns4,λi x v e1 e2 e3=>?_⟩,λx c e=>?_,I3.hok.fresh (wo _),λx c e=>I3.freeC x c (hcl _ _ e),λp hp=>?_,I3.hok.kept k34,?_⟩
  ·by_cases hi:i<NB.length
   ·rw[wD ↥hi,uZ,if_pos hi]at e2
    cases e2
   ·have e1':FR[i-NB.length]?=some x:=by
     have z:(NB++FR)[i]?=some x:=e1
     rw[wB (by omega)]at z;exact z
    rw[wB (by simp;omega),uH]at e2
    obtain⟨j,hj,hN,hk,hb',c,hc'⟩:=hcap.get e1'
    have e2':σ[j]?=some (some v):=by
     unfold qw at e2
     rw[wg,hj]at e2
     simp only[WC,Option.some.injEq]at e2
     cases hσ:σ[j]? with
     |none=>rw[hσ]at e2;cases e2
     |some o=>rw[hσ]at e2;simp only[W8]at e2;rw[e2]
    obtain⟨m,hn,hl⟩:=I3.loc
    obtain⟨u,ru,lu⟩:=hl j x v hN e2' (.inr (.inl hk))
    refine⟨u,ru,.inr ⟨.inl hb',c,hc',?_⟩⟩
    rcases lu with⟨z,_⟩ | ⟨_,c',z,q⟩
    ·rw[hk]at z;cases z
    ·rw[hcl _ _ hc']at z;cases z
     obtain⟨o,ho,hd⟩:=q
     exact⟨o,k34 _ _ ho,hd⟩
  ·obtain⟨v,o,ho,hd⟩:=I3.cell x c (hcl _ _ e)
   exact⟨v,o,k34 _ _ ho,hd⟩
  ·exact absurd (show p∈([]:List (Addr×Obj))from hp) (by simp)
  ·show _=(NB++FR).length
   rw[wC,wC,uH,hcap.length]
   unfold qw;rw[wf]
 have st4:tn 0 h4:=T.keep _ _ _ st3 λb _ o e=>k34 b o e
 have stat:∀{H':Hp},(∀b∈fp,H' b=none)->∀b∈fp,Qs (xE X NB FR scope cl s3 H3 fp) [] H' b:=λhn b hb =>
  ⟨hn b hb,(okB.exf b hb).1,okB.exfs b hb,.inl hb,λx c e=>(f3 b hb).2.2.2.2.1 x c (hcl _ _ e),λp hp=>absurd (show p∈([]:List (Addr×Obj))from hp) (by simp)⟩
 obtain⟨hg,ht,he⟩:=hb s3 H3 fp
 have fin:∀{σ':St}{H':Hp}{s':Shared},Inv (xE X NB FR scope cl s3 H3 fp) [] σ' H' s'->Q (.ref D) H'->RR (.ref D) s3.heap.objs.size (.ok .next) s':=λ{σ' H' s'} J q=>by
  have hm:∃m,s'.heap.Ns s3.heap.objs.size m:=by
   obtain⟨m,hm,_⟩:=J.loc
   exact⟨m,hm⟩
  refine hRR D _ H' s' (I3.call' (ch:=fp) J.os J.base J.hok J.bare λb hb=>?_) (I3.fpOk (wo _) J.free) hm q
  obtain⟨_,z1,z2,z3,z4,z5⟩:=f3 b hb
  exact⟨z3,z1,z4,z5⟩
 have loop:∀s5:Shared,s5 = { s3 with heap:=h4,toks:=s3.toks+([]:List (Str×Value)).length } →
   codeAny (model X.prog X.w) X.A (.compLoop (.ListComp elt [⟨tg,iter,ifs,0⟩] scope pos) 0 (.ref it) (.ref D) (compEnvC scope cl s3.heap.objs.size X.env)) (RR (.ref D) s3.heap.objs.size) s5:=by
  rintro s5 rfl
  refine Z8 (λn s'=>∃i zs H' ys,zs.length=NB.length/\Inv (xE X NB FR scope cl s3 H3 fp) [] (zs++qw σ js) H' s'/\tn i s'.heap/\(∀b∈fp,H' b=none)/\H' D=some (.lst ys)/\W i n H' ys) ?_ m0
   ⟨0,_,H3,[],uH,IB,st4,λb hb=>(f3 b hb).1,h3D,by rw[<-hH3]at *;exact w0⟩
  rintro n s6 ⟨i,zs,H6,ys,hzs,I6,st6,fr6,hD6,w6⟩
  rcases turn i n H6 ys w6 hD6 with⟨stop,qn⟩ | ⟨go,step⟩
  ·refine thn (T.done (xE X NB FR scope cl s3 H3 fp) rL rL rL hc i [] s6 _ H6 _ I6 (stat fr6) st6 stop) λr s7 ⟨hr,I7⟩=>?_
   subst hr
   exact fin I7 qn
  ·refine thn (T.item (xE X NB FR scope cl s3 H3 fp) rL rL rL hc i [] s6 _ H6 _ I6 (stat fr6) st6 go) λr s7 ⟨u,hr,h7⟩=>?_
   subst hr
   refine thn h7 λ_ s8 ⟨x,H8,I8,r8,y8,st8,fr8⟩=>?_
   have I8':=I8.pinned (stat fr8) (T.obj _ _ st8)
   have again:∀{σ9:St}{H9:Hp}{s9:Shared}{ws:List V}{m':Nat},σ9.drop NB.length=qw σ js->Inv (xE X NB FR scope cl s3 H3 fp) ([]++Xw fp s8.heap) σ9 H9 s9->H9 D=some (.lst ws)->m'<n->W (i+1) m' H9 ws →
     ∃m,m<n/\∃i zs H' ys,zs.length=NB.length/\Inv (xE X NB FR scope cl s3 H3 fp) [] (zs++qw σ js) H' s9/\tn i s9.heap/\(∀b∈fp,H' b=none)/\H' D=some (.lst ys)/\W i m H' ys:=λ{σ9 H9 s9 ws m'} hdr I9 hz hm w9=>by
    have hl:σ9.length=(NB++FR).length:=I9.len
    rw[wC]at hl
    refine⟨m',hm,i+1,σ9.take NB.length,H9,ws,by rw[yd];omega,?_,T.keep _ _ _ st8 λb hb o e=>(I9.pin (b,o) (wq _ (wq _ (qG hb e)))).1,λb hb=>?_,hz,w9⟩
    ·rw[<-hdr,List.take_append_drop];exact I9.unpinned
    ·obtain⟨o,e,d⟩:=T.obj _ _ st8 b hb
     exact(I9.pin (b,o) (wq _ (wq _ (qG hb e)))).2.1
   refine thn (hg _ s8 _ H8 x u _ I8' r8 (step zs x H8 hzs y8)) λ_ s9 ⟨σ9,H9,I9,hdr,q9⟩=>?_
   refine thn (ht _ s9 σ9 H9 _ I9 q9) λok s10 ⟨H10,I10,q10⟩=>?_
   cases ok with
   |false =>
    rw[if_neg (by decide)]at q10 ⊢
    obtain⟨hz,m',hm,w'⟩:=q10
    exact again hdr I10 hz hm w'
   |true =>
    rw[if_pos rfl]at q10 ⊢
    refine thn (he _ s10 σ9 H10 _ I10 q10) λy s11 ⟨v,H11,I11,r11,hz,hlen,m',hm,w'⟩=>?_
    refine thn (qu _ s11 σ9 H11 (.ref D) [v] (.ref D) [y] (λ_ H12=>H12=upd H11 D (.lst (ys++[v]))) I11 rL (.cons r11 .nil) ⟨D,ys,v,rL,rL,hz,hlen,rL⟩) λ_ s12 ⟨_,H12,I12,_,e12⟩=>?_
    subst e12
    exact again hdr I12 zg hm w'
 exact codeAny_compStart_list (loop _ rL) (T.self X.A 0 _ _ _ st4 (loop _ rL))
section
variable {X:Cx}{elt tg iter:Expr}{ifs:List Expr}{scope:Scope}{cl:List (Str×Addr)}{pos spos py:Pos}{NB FR:List Str}{js:List Nat}{wi:TI}{g:TG}{tt:TT}{te:TE}
theorem vK (hc:X.calm=true) (hclos:closureFor scope X.env=pure cl) (hcl:∀x c,cl.lookup x=some c->X.env.cells.lookup x=some c) (hcap:Z4 X scope cl FR js)
  (hnm:(relabel scope X.env).names.all (λy=>!(y.2 == .cell || y.2 == .free) || FR.contains y.1)=true) (hcell:∀x∈scope.names,x.2≠.cell) (hkind:scope.kind=.function) (hnames:∀x∈scope.names,x.2=.local → scope.names.lookup x.1=some .local)
  (hi:PI X tg iter wi) (hb:∀s3 H3 fp,PG (xE X NB FR scope cl s3 H3 fp) tg g/\PTs (xE X NB FR scope cl s3 H3 fp) ifs tt/\PE (xE X NB FR scope cl s3 H3 fp) elt te)
  (hs:∀x,foldedSetIterable iter X.env x=pure x:=by intro _;rfl) :
  PE X (.ListComp elt [⟨tg,iter,ifs,0⟩] scope pos) (Jf NB.length js wi g tt te):=by
 intro pz s σ H Q I h
 rw[eval_ListComp]
 refine WZ (use:=none) rL hs hclos hkind hnames (Vv (RR:=λacc C=>compPost (model X.prog X.w) X.A X.xe none (EP X pz σ Q) acc C) hc hcl hcap hnm hcell hkind hi hb I h ?_)
 intro D C H' s' I' ⟨f0,f1,f2,f3,f4,f5⟩ ⟨m,hm⟩ q
 exact⟨m,hm,λh' sb=>⟨.ref D,H',I'.turned (t':=s'.toks) (λb o hb e=>(sb.2 b hb).trans e) f0 f1 f3 f4 f5,rL,q⟩⟩
theorem vt {i:Nat}{y:Str}(hc:X.calm=true) (hclos:closureFor scope X.env=pure cl) (hcl:∀x c,cl.lookup x=some c->X.env.cells.lookup x=some c) (hcap:Z4 X scope cl FR js)
  (hnm:(relabel scope X.env).names.all (λy=>!(y.2 == .cell || y.2 == .free) || FR.contains y.1)=true) (hcell:∀x∈scope.names,x.2≠.cell) (hkind:scope.kind=.function) (hnames:∀x∈scope.names,x.2=.local → scope.names.lookup x.1=some .local)
  (hN:X.N.Nodup) (hiN:X.N[i]?=some y) (hy:X.env.kindOf y=some .local) (hsw:swapsWith (.ListComp elt [⟨tg,iter,ifs,0⟩] scope pos) (some (.Name y py)) spos.line X.env=pure true)
  (hi:PI X tg iter wi) (hb:∀s3 H3 fp,PG (xE X NB FR scope cl s3 H3 fp) tg g/\PTs (xE X NB FR scope cl s3 H3 fp) ifs tt/\PE (xE X NB FR scope cl s3 H3 fp) elt te)
  (hs:∀x,foldedSetIterable iter X.env x=pure x:=by intro _;rfl) :
  PS X (.Assign [.Name y py] (.ListComp elt [⟨tg,iter,ifs,0⟩] scope pos) spos) (zcW (Jf NB.length js wi g tt te) (zO i)):=by
 intro pz s σ H D I h
 rw[exec_Assign_Name_used _ _ _ _ hsw]
 refine wc (uB (wc ?_))
 show wpAny _ _ (do let _ <-comprehension (.ListComp elt [⟨tg,iter,ifs,0⟩] scope pos) scope X.env _ (newList []) false (eval iter X.env) (some (assign (.Name y py) X.env))) _ _ s
 refine wc (yC (WZ (use:=some (assign (.Name y py) X.env)) (Q:=λ_ s'=>SP X pz D .next s') rL hs hclos hkind hnames
  (Vv (RR:=λacc C=>compPost (model X.prog X.w) X.A X.xe (some (assign (.Name y py) X.env)) (λ_ s'=>SP X pz D .next s') acc C) hc hcl hcap hnm hcell hkind hi hb I h ?_)) (λ_ s' hq=>wj (wj hq)) λ_ _ e=>e)
 intro DD C H' s' I' ⟨f0,f1,f2,f3,f4,f5⟩ ⟨m,hm⟩ q
 show wpAny _ _ (assign (.Name y py) X.env (.ref DD)) _ _ s'
 refine wpAny_assign_Name (VH (v:=.ref DD) I' hN hiN (.inl hy) rL (λs'' I'' ⟨a,sa,ha⟩=>?_) (.inr hy))
 have hCa:C≠a:=by
  rcases ha with rfl | ha
  ·exact f1
  ·exact λz=>f4 y a ha z.symm
 exact⟨m,hm.sameBut sa hCa,λh' sb=>⟨_,H',I''.turned (t':=s''.toks) (λb o hb e=>(sb.2 b hb).trans e) f0 f1 f3 f4 f5,q⟩⟩
end
section
variable {prog:Program}{w:World}{A:Around}{E:Value->Shared->Prop}{s:Shared}
theorem zft {j t:Addr}{i:Nat}{vs:Array Value}{x:Value}{Q:Value->Shared->Prop}(kj:s.heap.IsTupleIter j t i) (kt:s.heap.IsTuple t vs) (kx:vs[i]?=some x)
  (q:∀h',h'.IsTupleIter j t (i+1)->Heap.SameBut j s.heap h'->Q x { s with heap:=h' }):wpAny (model prog w) A (Builtin.SmallTypes.nextOf (.ref j)) Q E s:=by
 obtain⟨oj,e1,e2,e3⟩:=id kj
 obtain⟨ot,f1,_,nt,f3⟩:=kt
 unfold Builtin.SmallTypes.nextOf
 refine wc (wpAny_callSpecial?_slot (name:=Str.ofString "__next__") kj.typeIs F.slot_tuple_iterator_next (yt F.slot_tuple_iterator_next kj.typeIs F.entry_tuple_iterator_next ?_ (F.args_tuple_iterator_next_1 _)))
 show wpAny _ _ (field (.ref j) 0 >>= _) _ _ s
 refine wc (wP e1 e3 (x:=.ref t) rL ?_)
 show wpAny _ _ (if(Value.ref t == .none)=true then _ else _) _ _ s
 rw[if_neg (show ¬((Value.ref t == .none)=true)from wL)]
 show wpAny _ _ (field (.ref j) 1 >>= _) _ _ s
 refine wc (wP e1 e3 (x:=.int i 0) rL (?_:wpAny _ _ (seqItems? (.ref t) >>= _) _ _ s))
 refine wc (yh f1 f3 ?_)
 simp only[yG,kx]
 refine wc (uD e1 e3 (by simp) (wj ⟨x,rfl,wj (q _ ⟨_,yy _ e1 (Obj.isFreed_of_fields (Obj.data_mapFields e3 _)),(Obj.cls_mapFields ..).trans e2,?_⟩ (Heap.SameBut.update ..))⟩))
 rw[Obj.data_mapFields e3];simp[rawInt]
theorem zh5 {j t:Addr}{i:Nat}{vs:Array Value}{Q:Value->Shared->Prop}(hh:A.handled=none) (kj:s.heap.IsTupleIter j t i) (kt:s.heap.IsTuple t vs) (kx:vs[i]?=none)
  (q:∀h' e,Heap.ExtBut j s.heap h'->(∃o,h'.get? e=some o/\o.cls=.type "StopIteration")->E (.ref e) { s with heap:=h' }):wpAny (model prog w) A (Builtin.SmallTypes.nextOf (.ref j)) Q E s:=by
 obtain⟨oj,e1,e2,e3⟩:=id kj
 obtain⟨ot,f1,_,nt,f3⟩:=kt
 unfold Builtin.SmallTypes.nextOf
 refine wc (wpAny_callSpecial?_slot (name:=Str.ofString "__next__") kj.typeIs F.slot_tuple_iterator_next (yt F.slot_tuple_iterator_next kj.typeIs F.entry_tuple_iterator_next ?_ (F.args_tuple_iterator_next_1 _)))
 show wpAny _ _ (field (.ref j) 0 >>= _) _ _ s
 refine wc (wP e1 e3 (x:=.ref t) rL ?_)
 show wpAny _ _ (if(Value.ref t == .none)=true then _ else _) _ _ s
 rw[if_neg (show ¬((Value.ref t == .none)=true)from wL)]
 show wpAny _ _ (field (.ref j) 1 >>= _) _ _ s
 refine wc (wP e1 e3 (x:=.int i 0) rL (?_:wpAny _ _ (seqItems? (.ref t) >>= _) _ _ s))
 refine wc (yh f1 f3 ?_)
 simp only[yG,kx]
 refine wc (ul (wc (uD e1 e3 (by simp) (?_:wpAny _ _ (newExc (.type "StopIteration") [] >>= _) _ _ _))))
 refine wc ?_
 simp only[newExc,newTuple]
 refine wc (w8 (wc (m:=firstArgMember _ _) (wpAny_of_eq (a:=Value.none) (by first | rfl | (simp only[firstArgMember];rfl)) (w8 ?_ (by size_fits)))) (by size_fits))
 simp only[raiseNew]
 refine wc (wpAny_handled (?_))
 first | rw[show A.in1.handled=none from hh] | rw[hh]
 exact wc (wj (wpAny_throw (q _ _ (((Heap.SameBut.update ..).extBut.push _).push _) ⟨_,wu _ rL,rL⟩)))
structure ZNe (z TI TO j1 j2:Addr):Prop where
 a:TI≠z
 b:TO≠z
 c:j1≠z
 d:j2≠z
 e:TI≠TO
 f:TI≠j1
 g:TI≠j2
 k:TO≠j1
 l:TO≠j2
 m:j1≠j2
section
variable {z TI TO j1 j2 t1 t2:Addr}{i:Nat}{xs ys:Array Value}
theorem zeU {h:Heap}{f0:Value}{vs:Array Value}{t:Addr}(ht:h.IsTuple t vs) (hz:IsZip h z TI TO f0):t≠z:=λe=>by
 obtain⟨o,e1,e2,_⟩:=ht
 rw[e,hz]at e1;cases e1;simp at e2
end
end
section
variable {X:Cx}
theorem nne {a b:Nat}(h:a<b):a≠b:=wN h
theorem zbd:∀{bs:List Bool}{us:List Value}{i:Nat}{v:Value},zY (bs.map V.bl) us->us[i]?=some v->∃b,bs[i]?=some b/\v=.bool b
 |[],_,_,_,r,e=>by cases r;simp at e
 |b::bs,_,i,v,r,e=>by
  cases r with
  |cons h t =>
   cases i with
   |zero=>simp at e;subst e;exact⟨b,rfl,h⟩
   |succ i=>obtain⟨c,e1,e2⟩:=zbd (i:=i) t ↥e;exact⟨c,↥e1,e2⟩
theorem Vo:∀(bs:List Bool) (k:Nat),((List.range' k bs.length).all λi=>(bs[i-k]?).getD true)=bs.all id
 |[],k=>rfl
 |b::bs,k=>by
  rw[wJ,List.range'_succ,List.all_cons,List.all_cons]
  simp only[Nat.sub_self,List.getElem?_cons_zero,W8,id]
  congr 1
  rw[<-Vo bs (k+1)]
  apply yr.mpr
  simp only[W7,List.mem_range'_1]
  constructor
  ·intro h i hi
   have:=h i hi
   rw[show i-k=(i-(k+1))+1 by lia,List.getElem?_cons_succ]at this;exact this
  ·intro h i hi
   rw[show i-k=(i-(k+1))+1 by lia,List.getElem?_cons_succ];exact h i hi
theorem zdf (hc:X.calm=true):ZG X (.builtin "all") (λxs H Q=>∃(p:Addr) (bs:List Bool),xs=[.ref p]/\SqL X.K H p (bs.map V.bl)/\Q (.bl (bs.all id)) H):=by
 intro pz s σ H xs us Q I r h
 obtain⟨p,bs,rfl,hq,q⟩:=h
 obtain⟨u,rfl,ru⟩:=Xi r
 cases ru
 obtain⟨its,rv,pl,_⟩:=I.list hq
 have hlt:p<s.heap.objs.size:=by obtain⟨o,n,e,_⟩:=pl;exact wx e
 have hl:=rv.length
 rw[wf]at hl
 refine call_all_walk (uo pl.isList ⟨s.heap.objs.size,_,_,_,_,_,λi=>(bs[i]?).getD true,rL,Walks.list (A:=X.A.in1) (show X.A.in1.handled=none from I.ok.hd hc) s.heap.objs.size p (wN hlt) its.toArray,
  ⟨⟨_,wu _ rfl,rfl,rfl⟩,pl.isList.push _⟩,λi v s' Q' E' hv hQ'=>?_,λh' tk k=>⟨.bl (bs.all id),H,I.kept λb o e=>k b o (by simpa using wN (wx e)) (we _ e),?_,q⟩⟩)
 ·obtain⟨b,e1,rfl⟩:=zbd rv ↥hv
  simp only[e1,W8]at hQ'
  exact wj hQ'
 ·have:=Vo bs 0
  simp only[Nat.sub_zero]at this
  rw[show its.toArray.size=bs.length by simp[hl],List.range_eq_range',this];rfl
end
end L2
namespace HT
open PySem PyProof.Rows
section
variable {prog:Program}{w:World}{A:Around}{E:Value->Shared->Prop}{s:Shared}
theorem whole_cut {t sl:Addr}{items:Array Value}{vl vu:Value}{lo hi:Option Int}{Q:Value->Shared->Prop}(ht:IsTup s.heap t items) (hs:s.heap.IsSliceOf sl vl vu .none) (pl:IsPart vl lo) (pu:IsPart vu hi)
  (hw:sIx items.size 0 lo=0/\sIx items.size items.size hi=items.size) (h:Q (.ref t) s):wpAny (model prog w) A (getItem (.ref t) (.ref sl)) Q E s:=by
 obtain⟨os,hos,hcs,hds⟩:=id hs
 have hTs:s.TypeIs (.ref sl) "slice":=⟨os,hos,hcs⟩
 unfold getItem
 try with_reducible refine yn ?_
 first | refine wc (wj ?_) | skip
 refine wc (Wj ht.typeIs (by decide) ?_)
 refine wc (wpAny_callSpecial?_slot (name:=Str.ofString "__getitem__") ht.typeIs wW
  (yt wW ht.typeIs entry_tuple_getitem ?_ (args_tuple_getitem _ _)))
 show wpAny _ _ (Builtin.Tuple.tupleItemsOf (.ref t) >>= _) _ _ s
 refine wc (tupleItemsOf_ ht ?_)
 refine wc (uY hTs ?_)
 rw[if_pos (by decide)]
 refine wc (vN hs pl pu ?_)
 show wpAny _ _ (if(((sIx items.size 0 lo:Nat):Int) == 0&&(1:Int) == 1&&(sIx items.size items.size hi-sIx items.size 0 lo) == items.size)=true then _ else _) _ _ s
 rw[if_pos (by rw[hw.1,hw.2];simp)]
 refine wc ?_
 unfold Builtin.Tuple.tupleIsExact
 refine wc (uY ht.typeIs (wj ?_))
 rw[if_pos (by decide)]
 first
  |exact wc (ul (wj ⟨_,rfl,wj h⟩))
  |exact wc (ul (wc (wj (wj ⟨_,rfl,wj h⟩))))
  |exact wc (ul (wc (wj ⟨_,rfl,wj h⟩)))
end
end HT
namespace L2
open PySem PySem.Spec PyProof.Rows
section
variable {X:Cx}
def zki (K:Fg):V->Option Int->Option Int->Hp->VK->Prop:=λx lo hi H Q=>∃a xs,x=.ref a/\SqT K H a xs/\(HT.sIx xs.length 0 lo=0/\HT.sIx xs.length xs.length hi=xs.length)/\Q x H
theorem JX:SlR X (zki X.K):=by
 intro pz s σ H x v vl vu lo hi sl Q I rx hs pl pu h
 obtain⟨a,xs,rfl,hx,hw,q⟩:=h
 cases rx
 obtain⟨its,r,ht,hz⟩:=I.tuple hx
 have hlen:its.toArray.size=xs.length:=by rw[wy];exact r.length.symm
 exact⟨"tuple",_,wW.lookup,ht.typeIs,HT.whole_cut ht hs pl pu (by rw[hlen];exact hw) ⟨.ref a,H,I,rfl,q⟩⟩
end
section
variable {J:It}{D:Addr}{N n:Nat}{js:List Nat}{σ:St}{g:TG}{tt:TT}{te:TE}{Q:VK}{H:Hp}
theorem zbf (Pv:Nat->Hp->List V->Prop) (h0:Pv 0 (upd H D (.lst [])) []) (hgo:∀i H ys,i<N->Pv i H ys->J.go i H) (hst:∀H ys,Pv N H ys->J.stop N H)
  (hs:∀i x zs H2 H3 ys (Nx:Hp->List V->Prop),(∀H ys,Pv (i+1) H ys->Nx H ys)->i<N->zs.length=n->J.yld i H2 x H3->Pv i H2 ys->H2 D=some (.lst ys)->g x zs H3 λσ4 H4=>tt σ4 H4 λb H5 =>
   if b=true then te σ4 H5 (λv H6=>H6 D=some (.lst ys)/\ys.length<sizeLine/\Nx (upd H6 D (.lst (ys++[v]))) (ys++[v]))else H5 D=some (.lst ys)/\Nx H5 ys)
  (hd:∀H ys,Pv N H ys->H D=some (.lst ys)->Q (.ref D) H) :
  ∃W:Nat->Nat->Hp->List V->Prop,(∃m,W 0 m (upd H D (.lst [])) [])/\∀i m H2 ys,W i m H2 ys->H2 D=some (.lst ys)->(J.stop i H2/\Q (.ref D) H2) ∨
   (J.go i H2/\∀σB x H3,σB.length=n->J.yld i H2 x H3->g x σB H3 λσ4 H4=>tt σ4 H4 λb H5=>if b=true then te σ4 H5 (λv H6=>H6 D=some (.lst ys)/\ys.length<sizeLine/\∃m',m'<m/\W (i+1) m' (upd H6 D (.lst (ys++[v]))) (ys++[v]))
    else H5 D=some (.lst ys)/\∃m',m'<m/\W (i+1) m' H5 ys):=by
 refine⟨λi m H ys=>m=N-i/\i<=N/\Pv i H ys,⟨N,by simp,yu _,h0⟩,?_⟩
 rintro i m H2 ys ⟨rfl,hi,p⟩ hD
 by_cases hlt:i<N
 ·exact .inr ⟨hgo i H2 ys hlt p,λσB x H3 hB y=>hs i x σB H2 H3 ys (λH' ys'=>∃m',m'<N-i/\(m'=N-(i+1)/\i+1<=N/\Pv (i+1) H' ys')) (λH' ys' z=>⟨N-(i+1),by lia,rfl,hlt,z⟩) hlt hB y p hD⟩
 ·obtain rfl:i=N:=by lia
  exact .inl ⟨hst H2 ys p,hd H2 ys p hD⟩
theorem Za (Pv:Nat->Hp->List V->Prop) (h0:Pv 0 (upd H D (.lst [])) []) (hgo:∀i H ys,i<N->Pv i H ys->J.go i H) (hst:∀H ys,Pv N H ys->J.stop N H)
  (hs:∀i x zs H2 H3 ys (Nx:Hp->List V->Prop),(∀H ys,Pv (i+1) H ys->Nx H ys)->i<N->zs.length=n->J.yld i H2 x H3->Pv i H2 ys->H2 D=some (.lst ys)->g x (zs++qw σ js) H3 λσ4 H4=>σ4.drop n=qw σ js/\tt σ4 H4 λb H5 =>
   if b=true then te σ4 H5 (λv H6=>H6 D=some (.lst ys)/\ys.length<sizeLine/\Nx (upd H6 D (.lst (ys++[v]))) (ys++[v]))else H5 D=some (.lst ys)/\Nx H5 ys)
  (hd:∀H ys,Pv N H ys->H D=some (.lst ys)->Q (.ref D) H) :
  ∃W:Nat->Nat->Hp->List V->Prop,(∃m,W 0 m (upd H D (.lst [])) [])/\∀i m H2 ys,W i m H2 ys->H2 D=some (.lst ys)->(J.stop i H2/\Q (.ref D) H2) ∨
   (J.go i H2/\∀zs x H3,zs.length=n->J.yld i H2 x H3->g x (zs++qw σ js) H3 λσ4 H4=>σ4.drop n=qw σ js/\tt σ4 H4 λb H5=>if b=true then te σ4 H5 (λv H6=>H6 D=some (.lst ys)/\ys.length<sizeLine/\∃m',m'<m/\W (i+1) m' (upd H6 D (.lst (ys++[v]))) (ys++[v]))
    else H5 D=some (.lst ys)/\∃m',m'<m/\W (i+1) m' H5 ys):=by
 refine⟨λi m H ys=>m=N-i/\i<=N/\Pv i H ys,⟨N,by simp,yu _,h0⟩,?_⟩
 rintro i m H2 ys ⟨rfl,hi,p⟩ hD
 by_cases hlt:i<N
 ·exact .inr ⟨hgo i H2 ys hlt p,λσB x H3 hB y=>hs i x σB H2 H3 ys (λH' ys'=>∃m',m'<N-i/\(m'=N-(i+1)/\i+1<=N/\Pv (i+1) H' ys')) (λH' ys' z=>⟨N-(i+1),by lia,rfl,hlt,z⟩) hlt hB y p hD⟩
 ·obtain rfl:i=N:=by lia
  exact .inl ⟨hst H2 ys p,hd H2 ys p hD⟩
end
def zf2 {H H2 H3:Hp}{D:Addr}{o:HO}(hD:H D=none) (e:zj H H2) (e2:zj H2 H3):zj H (upd H3 D o):=λb u z=>by rw[zF (zG z hD)];exact e2 _ _ (e _ _ z)
section
variable {prog:Program}{w:World}{A:Around}{E:Value->Shared->Prop}{s:Shared}
theorem zdg {t b:Addr}{ws:List Value}{Q:Value->Shared->Prop}(ht:IsTup s.heap t ([]:List Value).toArray) (hb:IsTup s.heap b ws.toArray) (h0:Q (.ref b) s):wpAny (model prog w) A (binaryOp .Add (.ref t) (.ref b)) Q E s:=by
 obtain⟨⟨cls,dd,data,sl⟩,ho,hc,n,hd⟩:=id ht
 obtain⟨⟨cls2,dd2,data2,sl2⟩,ho2,hc2,n2,hd2⟩:=id hb
 simp only at hc hd hc2 hd2
 subst hc hd hc2 hd2
 exact concat_meets ⟨_,ho,rL⟩ ⟨_,ho2,rL⟩ noFill_tuple_add seq_tuple_add Wc u5 (uX _ _)
   (tuple_addW0 t b ([]:List Value).toArray ws.toArray n n2 dd dd2 sl sl2 (by simp)) ⟨ho,ho2,h0⟩
end
inductive zec (K:Fg) (x:V) (y:V) (H:Hp) (Q:VK):Prop
 |mk:∀a b xs ys,(x=.ref a)->(y=.ref b)->(SqT K H a xs)->(SqT K H b ys)->(xs.length+ys.length<=sizeLine)->((xs=[]->Q (.ref b) H))->((xs≠[]->ys=[]->Q (.ref a) H))->((xs≠[]->ys≠[]->∀p,H p=none->Q (.ref p) (upd H p (.tup (xs++ys)))))->zec K x y H Q
def zgW (K:Fg):R2:=λx y H Q=>zec K x y H Q
def VZ {X:Cx}:OpR X (binaryOp .Add) (zgW X.K):=by
 intro pz s σ H x y v u Q I rx ry h
 have h':=h
 obtain⟨a,b,xs,ys,rfl,rfl,ha,hb,hz,q0,q1,q2⟩:=h'
 by_cases hx:xs=[]
 ·cases rx
  cases ry
  obtain⟨its,r1,p1,_⟩:=I.tuple ha
  obtain⟨its2,r2,p2,_⟩:=I.tuple hb
  subst hx
  cases r1
  exact zdg p1 p2 ⟨.ref b,H,I,rL,q0 rL⟩
 ·exact zfG pz s σ H _ _ v u Q I rx ry ⟨a,b,xs,ys,rL,rL,ha,hb,hx,hz,q1 hx,q2 hx⟩
section
variable {N:List Addr}{σ:St}{H:Hp}{K:Fg}
def qZ {α:Type}(xs:List α) (lo hi:Option Int):List α:=(xs.drop (HT.sIx xs.length 0 lo)).take (HT.sIx xs.length xs.length hi-HT.sIx xs.length 0 lo)
end
def rD (x:Rat):PyData:=.tuple [.int x.num,.int (x.den:Int)]
def ZO {H:Hp}{p:Addr}{x:Rat}(h:zD H p x):RdD H (.ref p) (rD x):=h.rd
def szl {n:Nat}(h:n<=1000):n<=sizeLine:=WK (xr h)
def Vw {α:Type}(xs:List α) (j:Nat):qZ xs (some (j:Int)) none=xs.drop j:=by
 unfold qZ
 rw[HT.sIx_none,HT.sIx_nat]
 rcases Nat.le_total j xs.length with h | h
 ·rw[Ya h,w4 (by rw[yf];exact wo _)]
 ·rw[Nat.min_eq_right h,Nat.sub_self,List.take_zero,Wd h]
def zaZ {wi:TI}{g:TG}{tb:TS}{u:TS}{D:vd}{σ:St}{H:Hp}(h:ziY wi g tb { D with nx:=u D } σ H):J6 (ziY wi g tb) u D σ H:=h
inductive Bx (p:Prop):Prop
 |mk (h:p):Bx p
section
variable {X:Cx}
theorem ve:Bx (PA X [] Z0):=⟨ze⟩
theorem zW {e:Expr}{es:List Expr}{te:TE}{t:TA}(ha:Bx (PE X e te)) (hr:Bx (PA X es t)) (hs:starEach (e::es) X.env=(false,eval e X.env)::starEach es X.env:=by rfl):Bx (PA X (e::es) (xF te t)):=by
 obtain⟨ha⟩:=ha;obtain⟨hr⟩:=hr;exact⟨zd ha hr hs⟩
theorem VN {es:List Expr}{t:TA}{x1:Nat}{pos:Pos}(h:Bx (PA X es t)):Bx (PE X (.Tuple es x1 pos) (za2 t)):=by
 obtain⟨h⟩:=h;exact⟨zT h⟩
theorem ZL {es:List Expr}{t:TA}{pos:Pos}(h:Bx (PA X es t)):Bx (PE X (.List es pos) (zkI t)):=by
 obtain⟨h⟩:=h;exact⟨qe h⟩
theorem Xo {i:Nat}{x:Str}{e:Expr}{te:TE}{pos pos':Pos}(hN:X.N.Nodup) (hi:X.N[i]?=some x) (hx:Loc X.env.scope x) (he:Bx (PE X e te)) (hs:swapsWith e (some (.Name x pos')) pos.line X.env=pure false:=by rfl)
  (hf:X.fn x=true\/X.env.scope.names.lookup x=some .local := by first | exact .inl rfl | exact .inr rfl | assumption):Bx (PS X (.Assign [.Name x pos'] e pos) (zcW te (zO i))):=by
 obtain⟨he⟩:=he;exact⟨Xx hN hi hx he hs hf⟩
theorem zM {st:Stmt}{rest:List Stmt}{t u:TS}(h1:Bx (PS X st t)) (h2:Bx (PSs X rest u)):Bx (PSs X (st::rest) (J6 t u)):=by
 obtain⟨h1⟩:=h1;obtain⟨h2⟩:=h2;exact⟨zA h1 h2⟩
end
section
variable {P:Program}{w:World}{K:Fg}{mg:Str->Option Value}{base:Heap}
theorem Df.calB {x:Str}{st:Stmt}{N ps:List Str}{dvs:List V}{k:Nat}{sp:Sp}(D:Df K mg x st ps dvs) (S:zH N ps (zr st)) (len:∀vs H Q E,sp vs H Q E->vs.length=ps.length)
  (hbody:∀(f:Addr) (cdv:Value) (A:Around) (outer:List Env) (s:Shared) (H:Hp) (vs:List V) (Q:VK) (E:XK),xb k (A.deeper (envOfC x (zr st) s.heap.objs.size f cdv))->sp vs H Q E →
   ∃t,Bx (PSs (xl CX0 P w K mg base N x (zr st) f cdv A outer s H E).nox (zZ st) t)/\t { nx:=λ_ H'=>Q .non H',rt:=Q } (qm N vs) H):Cal P w K mg base x (k+1) ps dvs sp :=
 D.cal S len λf cdv A outer s H vs Q E hr h=>by
  obtain⟨t,⟨p⟩,q⟩:=hbody f cdv A outer s H vs Q E hr h
  exact⟨t,p,q⟩
theorem Df.calBq {x:Str}{st:Stmt}{N ps:List Str}{dvs:List V}{k:Nat}{sp:Sp}(D:Df K mg x st ps dvs) (S:zH N ps (zr st))
  (hbody:∀(f:Addr) (cdv:Value) (A:Around) (outer:List Env) (s:Shared) (H:Hp) (vs:List V) (Q:VK) (E:XK),xb k (A.deeper (envOfC x (zr st) s.heap.objs.size f cdv))->sp vs H Q E →
   ∃t,Bx (PSs (xl CX0 P w K mg base N x (zr st) f cdv A outer s H E).nox (zZ st) t)/\t { nx:=λ_ H'=>Q .non H',rt:=Q } (qm N vs) H) (len:∀vs H Q E,sp vs H Q E->vs.length=ps.length:=by intro _ _ _ _ h;repeat (first | (cases h;subst_vars;rfl) | (obtain⟨rfl,_⟩:=h;rfl) | (obtain⟨_,h⟩:=h))):Cal P w K mg base x (k+1) ps dvs sp:=D.calB S len hbody
end
abbrev zaa:List Value:=[.type "ValueError",.type "Exception",.type "BaseException",.type "object"]
section
variable {prog:Program}{w:World}{A:Around}{E:Value->Shared->Prop}{h:Heap}{g:Array GenState}{d:Drawn}{t:Nat}{os:OsState}
variable {nm qn:Str}{C N:Addr}{bs bm:List Value}{hd:Bool}{sn:List Str}{sub:List Value}{ab:Bool}{col:Option Bool}{dd:Option Addr}{k0 k1 k2 k3 k5:Option Value}
theorem zag (T:OwnTail h zaa bm){mN:Str->Option Value}{us:List Value}{fI:Addr}{oI:Obj}{Q:Fin->Shared->Prop}(hC:h.get? C=some (excClassObj nm qn C N bs bm hd sn sub ab col dd k0 k1 k2 k3 k5 "ValueError.__new__")) (hn:h.Ns N mN)
  (hi:mN "__init__" = some (.ref fI)) (hf:h.get? fI=some oI) (hfc:oI.cls=.type "function") (hz:us.length<=sizeLine)
  (hq:∀h2 e,Heap.MadeExcOf h h2 e (.ref C) us->wpAny (model prog w) A (call (.ref fI) (.ref e::us)) (λr s2=>r=.none/\Q (.done (.ret (.ref e))) s2) E ⟨h2,g,d,t,os⟩) :
  wpAny (model prog w) A (Builtin.«type.__call__» ⟨.ref C::us,[]⟩) Q E ⟨h,g,d,t,os⟩:=by
 have FV:=WG
 repeat (first | (with_reducible refine uR hC ?_) | (with_reducible refine wpAny_madeBy_exc hC ?_) | wp_step)
 refine codeAny_call_builtin_code (Code.quiet_builtin _ FV.quiet) (wpAny_check_new_subU FV (by decide +kernel) T hC ?_)
 refine codeAny_exc_new_subU FV (by decide +kernel) FV T hC ?_ hz
 show wpAny _ _ _ _ _ _
 generalize ho:({ cls:=.ref C,data:=.fields #[.ref h.objs.size,.none,.none,.none,.bool false,.none] }:Obj)=oe
 generalize ht:({ cls:=.type "tuple",data:=.seq us.toArray }:Obj)=ot
 have kp:∀b o,h.get? b=some o->((h.push ot).push oe).get? b=some o:=λb o q=>we oe (we ot q)
 have hC2:=kp _ _ hC
 have hf2:=kp _ _ hf
 have hn2:((h.push ot).push oe).Ns N mN:=let ⟨o,es,ep,e,r⟩:=hn;⟨o,es,ep,kp _ _ e,r⟩
 have hg:((h.push ot).push oe).get? (h.objs.size+1)=some oe:=by
  have:=wu (h.push ot) (o:=oe) (by rw[<-ho];rfl)
  rwa [yj]at this
 have hgt:((h.push ot).push oe).get? h.objs.size=some ot:=we oe (wu h (by rw[<-ht];rfl))
 have hcls:oe.cls=.ref C:=by rw[<-ho]
 have hsub:(Value.ref C::bm).contains (.ref C)=true:=by simp
 unfold isInstance
 repeat (first | (with_reducible refine uR hg ?_;rw[hcls]) | (with_reducible refine wpAny_isSubtype_exc hC2 ?_;rw[hsub]) | wp_step)
 show wpAny _ _ (typeLookup (.ref C) _) _ _ _
 refine wpAny_typeLookup_tail hC2 hn2 (T.keeps kp) FV.mroIs FV.init.lookup ?_
 rw[hi]
 refine yn (wc ?_)
 unfold bindSpecial
 refine wc (uY (T:="function") ⟨_,hf2,hfc⟩ ?_)
 rw[if_pos (by decide)]
 refine wj (wc (yC (hq _ (h.objs.size+1) ⟨kp,Ws (Nat.le_succ _),h.objs.size,by rw[hg,<-ho],Ws (wo _),by rw[hgt,<-ht]⟩) (λr s2 hr=>?_) λ_ _ x=>x))
 obtain⟨rfl,hQ⟩:=hr
 wp_walk
 exact hQ
theorem za7 (T:OwnTail h zaa bm){mN:Str->Option Value}{us:List Value}{fI:Addr}{oI:Obj}{Q:Value->Shared->Prop}(hC:h.get? C=some (excClassObj nm qn C N bs bm hd sn sub ab col dd k0 k1 k2 k3 k5 "ValueError.__new__")) (hn:h.Ns N mN)
  (hi:mN "__init__" = some (.ref fI)) (hf:h.get? fI=some oI) (hfc:oI.cls=.type "function") (hz:us.length<=sizeLine)
  (hq:∀h2 e,Heap.MadeExcOf h h2 e (.ref C) us->wpAny (model prog w) (A.under (.builtin "type.__call__" ⟨.ref C::us,[]⟩)) (call (.ref fI) (.ref e::us)) (λr s2=>r=.none/\Q (.ref e) s2) E ⟨h2,g,d,t,os⟩) :
  wpAny (model prog w) A (call (.ref C) us) Q E ⟨h,g,d,t,os⟩:=by
 have c1:=tc_lookup
 have c2:=tc_bind (.ref C)
 have hT:(⟨h,g,d,t,os⟩:Shared).TypeIs (.ref C) "type":=⟨_,hC,rfl⟩
 refine Wy (codeAny_of_tree ?_)
 show wpAny _ _ (callAny (.ref C) _) _ _ _
 repeat (any_goals (first | assumption | (with_reducible refine uR hC ?_) | wp_step))
 refine⟨rL,?_⟩
 exact codeAny_call_builtin_at (Code.quiet_builtin _ (by decide +kernel)) entry_typeCall (wpAny_check_type_call_sub hC (zag T hC hn hi hf hfc hz λh2 e hm=>hq h2 e hm))
end
open PySem.W
def XO (a C:Addr) (dct:Option Addr):HO:=.ext λh=>∃ox vs,h.get? a=some ox/\ox.cls=.ref C/\ox.data=.fields vs/\ox.dict=dct/\(∃t0,vs[0]?=some (.ref t0))/\vs[1]?=some .none
def ze1 {P:Program}{w:World}{H:Hp}{h:Heap}{a C:Addr}{dct:Option Addr}{ox:Obj}{vs:Array Value}(e:h.get? a=some ox) (c:ox.cls=.ref C) (d:ox.data=.fields vs) (k:ox.dict=dct){t0:Addr}(h0:vs[0]?=some (.ref t0)) (hv:vs[1]?=some .none):xu P w H h a (XO a C dct) :=
 ⟨⟨ox,vs,e,c,d,k,⟨t0,h0⟩,hv⟩,⟨ox,e⟩,λh1 h2 ⟨o,us,e1,r⟩ q=>⟨o,us,q _ e1,r⟩⟩
def Ji {P:Program}{w:World}{H:Hp}{h:Heap}{a C:Addr}{dct:Option Addr}(x:HOk P w H h) (e:H a=some (XO a C dct)):∃ox vs,h.get? a=some ox/\ox.cls=.ref C/\ox.data=.fields vs/\ox.dict=dct/\(∃t0,vs[0]?=some (.ref t0))/\vs[1]?=some .none :=
 (show xu P w H h a (XO a C dct)from x a _ e).1
section
variable {P:Program}{w:World}{H:Hp}{h h2:Heap}{a:Addr}{o:HO}
theorem Zb (x:HOk P w H h) (e:h.get? a=none):H a=none:=by
 cases q:H a with
 |none=>rfl
 |some u =>
  obtain⟨ob,z⟩:=xu.obj (x a u q)
  rw[e]at z;cases z
theorem zcv (x:HOk P w H h) (k:∀b u,h.get? b=some u->h2.get? b=some u) (e:h.get? a=none) (new:xu P w (upd H a o) h2 a o):HOk P w (upd H a o) h2:=λb u q=>by
 have hn:=Zb x e
 by_cases hb:b=a
 ·subst hb;rw[zg]at q;cases q;exact new
 ·rw[zF hb]at q
  exact(x b u q).stay (λc v _ z=>k c v z) (λc z=>by rw[zF (zG z hn)];exact z) λc xs z=>by rw[zF (zG z hn)];exact z
theorem J9 {fs ex:List Addr}(k:∀b u,h.get? b=some u->h2.get? b=some u) (e:h.get? a=none) (hn:H a=none):Un fs ex H (upd H a o) h h2 where
 keep:=λb u q _ _ _=>k b u q
 slot:=λb u q _ _ _=>⟨u.slots,k b u q⟩
 free:=λb u q n _=>by rw[zF (λz=>by subst z;rw[e]at q;cases q)];exact n
 there:=λb u q _=>⟨u,k b u q⟩
 tups:=λb xs q=>by rw[zF (zG q hn)];exact q
 frzs:=λb u xs q=>by rw[zF (zG q hn)];exact q
 tbls:=λb ps q=>⟨#[],by rw[zF (zG q hn),q];simp⟩
end
section
variable {X:Cx}{pz:List (Addr×Obj)}{σ:St}{H:Hp}{s:Shared}{h2:Heap}
theorem zcw {a:Addr}{o:HO}{t2:Nat}(I:Inv X pz σ H s) (k:∀b u,s.heap.get? b=some u->h2.get? b=some u) (e:s.heap.get? a=none) (new:xu X.prog X.w (upd H a o) h2 a o) :
  Inv X pz σ (upd H a o) { s with heap:=h2,toks:=t2 }:=I.un (J9 k e (Zb I.hok e)) (zcv I.hok k e new)
theorem zdE {C e:Addr}{us:List Value}{t2:Nat}(I:Inv X pz σ H s) (m:Heap.MadeExcOf s.heap h2 e (.ref C) us):Inv X pz σ (upd H e (XO e C none)) { s with heap:=h2,toks:=t2 }:=by
 obtain⟨tt,h1,_,_⟩:=m.there
 exact zcw I m.keeps m.new (ze1 h1 rL rL rL (t0:=tt) rL rL)
end
def XZ:List Value->Bool
 |.ref _::r=>XZ r
 |l=>l == zaa
def Xd (self:Value):∀{l:List Value},XZ l=true->refuseLoop self "__setattr__" l=pure ()
 |l,e=>by
  unfold XZ at e
  split at e
  ·rw[refuseLoop_ref];exact Xd self e
  ·rw[show l=zaa from beq_iff_eq.mp e];exact PySem.F.store_ValueError.passes self
section
variable {prog:Program}{w:World}{A:Around}{s:Shared}{K:Fg}{x C:Addr}{ox:Obj}{od:Option Obj}{name:Str}{v:Value}
theorem zfI {tk:Tok}{cd:ClassData}{R:Result->Shared->Prop}(X:K.In s.heap) (I:InstAt s.heap x ox C od) (hc:clsIn K C=some cd) (ho:XZ cd.mro=true) (hob:mroIn K C (.type "object")=some true) (ha:findIn K (.ref C) name=some none)
  (h:wpAny (model prog w) A.in1 (Builtin.ObjectAttr.storeInOwnDict (.ref x) (.ref C) (.str name tk) name v false)
   (λfin s2=>match fin with | .done f=>R (.ok f) s2 | .again c2=>c2.quiet=true/\codeAny (model prog w) A c2 R s2) (λe s2=>R (.error e) s2) s) :
  codeAny (model prog w) A (.call (.builtin "object.__setattr__") ⟨[.ref x,.str name tk,v],[]⟩) R s:=by
 have SF:=PySem.F.store_object
 have sub:Looks (model prog w) s.heap (isInstance (.ref x) (.type "object")) true:=I.type.andThen (looks_mroIn X hob)
 refine codeAny_call_builtin SF.slot.plain SF.entry (@check_slot (model prog w) _ _ s "object.__setattr__" "object" "__setattr__" (.ref x) [.str name tk,v] [] _ SF.kind SF.split sub (SF.args (.ref x) (.str name tk) v) ?_)
 have hm:Looks (model prog w) s.heap (mroOf (.ref C)) cd.mro:=(looks_clsIn X hc).andThen .now
 have L3:Looks (model prog w) s.heap (Builtin.ObjectAttr.storeTaker? none) none:=.now
 rw[osa_eq,refuse_eq]
 refine wc (wc (I.type.here (wc (hm.here ?_))))
 rw[Xd _ ho]
 refine wj (wc (I.type.here (wc ((looks_findIn X ha).here (wc (L3.here ?_))))))
 exact h
theorem zgd {E:Value->Shared->Prop}{Q:Unit->Shared->Prop}{vs:Array Value}{cd:ClassData}(X:K.In s.heap) (hx:s.heap.get? x=some ox) (hcl:ox.cls=.ref C) (hdt:ox.data=.fields vs) (hdn:ox.dict=none) (hc:clsIn K C=some cd) (hh:cd.hasDict=true) (ho:XZ cd.mro=true)
  (hob:mroIn K C (.type "object")=some true) (hs:findIn K (.ref C) "__setattr__" = some (some (.builtin "object.__setattr__"))) (ha:findIn K (.ref C) name=some none)
  (h:∀h2,h2.get? x=some { ox with dict:=some s.heap.objs.size }->h2.Ns1 s.heap.objs.size (λy=>if y=name then some v else none)->(∀b o,b≠x->s.heap.get? b=some o->h2.get? b=some o)->Q () { s with heap:=h2,toks:=s.toks+2 }) :
  wpAny (model prog w) A (setAttr (.ref x) name v) Q E s:=by
 have I:InstAt s.heap x ox C none:=⟨hx,hcl,by unfold notCls;rw[hdt],by rw[hdn];trivial⟩
 refine set_plain X I hs (zfI (s:={ s with toks:=s.toks+1 }) X I hc ho hob ha ?_)
 obtain⟨hp,g,d,t,os⟩:=s
 obtain⟨oc,odi,oda,osl⟩:=ox
 dsimp only at hcl hdt hdn hx h
 subst hcl hdt hdn
 have hx1:(hp.push { cls:=.type "dict",data:=.dict #[] }).get? x=some ⟨.ref C,none,.fields vs,osl⟩:=we _ hx
 have hxs:x≠hp.objs.size:=wN (wx hx)
 refine wc (wj (wc (wc (wpAny_loadPart hx (wc (PySem.W.Looks.here (s:=⟨hp,g,d,t+1,os⟩) (looks_clsIn X hc) ?_))))))
 rw[hh]
 rw[if_neg (by decide),if_neg (by simp[typeHasDict])]
 refine wc (wpAny_alloc' ?_)
 refine wc (wpAny_update' hx1 ?_)
 refine wj ?_
 have u1:((hp.push { cls:=.type "dict",data:=.dict #[] }).update x λo=>{ cls:=o.cls,dict:=some hp.objs.size,data:=o.data,slots:=o.slots }).get? hp.objs.size=some { cls:=.type "dict",data:=.dict #[] }:=(uV _ _ _ _ hxs.symm).trans (Heap.get?_push_at rfl rfl)
 have u2:((hp.push { cls:=.type "dict",data:=.dict #[] }).update x λo=>{ cls:=o.cls,dict:=some hp.objs.size,data:=o.data,slots:=o.slots }).get? x=some ⟨.ref C,some hp.objs.size,.fields vs,osl⟩:=yy _ hx1 rfl
 have u3:∀b o,b≠x->hp.get? b=some o->((hp.push { cls:=.type "dict",data:=.dict #[] }).update x λo=>{ cls:=o.cls,dict:=some hp.objs.size,data:=o.data,slots:=o.slots }).get? b=some o:=λb o hb q=>(uV _ _ _ _ hb).trans (we _ q)
 generalize ((hp.push { cls:=.type "dict",data:=.dict #[] }).update x λo=>{ cls:=o.cls,dict:=some hp.objs.size,data:=o.data,slots:=o.slots })=h1 at u1 u2 u3
 have u4:h1.Ns hp.objs.size (λ_=>none):=⟨_,#[],_,u1,rfl,λe he=>absurd he (by simp),λ_=>rfl⟩
 show wpAny _ _ (Builtin.ObjectAttr.storeInDict hp.objs.size (.str name t) name v) _ _ _
 unfold Builtin.ObjectAttr.storeInDict Builtin.ObjectAttr.newKeyGuard
 refine wc (wj (wc (wpAny_nsSet1 (Heap.Ns1.of_empty u4) λh2 n2 s2=>?_)))
 obtain⟨oD,eD,pD,g1,g2,g3⟩:=n2.count (Within.cons name v Within.nil)
 refine wc (wpAny_lookBehind g1 (by rw[g2];exact pastItsLine_dict (wV g3 (by rw[wJ,ue,sizeLine_eq];lia))) ?_)
 exact wj (h h2 ((s2.2 x hxs).trans u2) n2 λb o hb q=>(s2.2 b (wN (wx q))).trans (u3 b o hb q))
end
structure zc6 (K:Fg) (C:Addr) (cd:ClassData):Prop where
 hc:clsIn K C=some cd
 hh:cd.hasDict=true
 ho:XZ cd.mro=true
 ob:mroIn K C (.type "object")=some true
 sa:findIn K (.ref C) "__setattr__" = some (some (.builtin "object.__setattr__"))
section
variable {X:Cx}{pz:List (Addr×Obj)}{σ:St}{H:Hp}{s:Shared}{h2:Heap}
theorem zdF {a C dx:Addr}{fs:List (Str×V)}{mA:Str->Option Value}{t2:Nat}{ox:Obj}{vs:Array Value}(I:Inv X pz σ H s) (ea:H a=some (XO a C none)) (hd:s.heap.objs.size<=dx) (e1:h2.get? a=some ox) (c1:ox.cls=.ref C) (d1:ox.data=.fields vs) (k1:ox.dict=some dx){t0:Addr}(h0:vs[0]?=some (.ref t0)) (hv:vs[1]?=some .none)
  (n1:h2.Ns1 dx mA) (r1:∀f,Xl (fs.lookup f) (mA f)) (k:∀b o,b≠a->s.heap.get? b=some o->h2.get? b=some o) :
  Inv X pz σ (upd (upd H dx (.xd fs)) a (XO a C (some dx))) { s with heap:=h2,toks:=t2 }:=by
 have hn:H dx=none:=I.hok.fresh hd
 have nda:dx≠a:=λz=>by subst z;rw[hn]at ea;cases ea
 have lt:∀b o,s.heap.get? b=some o->b≠dx:=λb o q=>wN (wG (wx q) hd)
 have na:∀b,H b=none->b≠a:=λb n z=>by subst z;rw[n]at ea;cases ea
 have two:∀b u,H b=some u->b≠a->upd (upd H dx (.xd fs)) a (XO a C (some dx)) b=some u:=λb u q z=>by rw[zF z,zF (zG q hn)];exact q
 refine I.un ⟨λb u q n _ _=>k b u (na b n) q,λb u q n _ _=>⟨u.slots,k b u (na b n) q⟩,λb u q n _=>by rw[zF (na b n),zF (lt b u q)];exact n,λb u q _=>?_,
  λb xs q=>two b _ q (λz=>by subst z;rw[ea]at q;cases q),λb u xs q=>two b _ q (λz=>by subst z;rw[ea]at q;cases q),λb ps q=>⟨#[],by rw[two b _ q (λz=>by subst z;rw[ea]at q;cases q)];simp⟩⟩ ?_
 ·by_cases hb:b=a
  ·subst hb;exact⟨_,e1⟩
  ·exact⟨u,k b u hb q⟩
 ·intro b u q
  by_cases hb:b=a
  ·subst hb;rw[zg]at q;cases q;exact ze1 e1 c1 d1 k1 h0 hv
  ·rw[zF hb]at q
   by_cases hbd:b=dx
   ·subst hbd;rw[zg]at q;cases q;exact⟨mA,n1,r1⟩
   ·rw[zF hbd]at q
    have hown:∀c y,H c=some (.own y)->c≠a:=λc y r z=>by subst z;rw[ea]at r;cases r
    refine(I.hok b u q).stay (λc v hc r=>k c v ?_ r) (λc r=>two c _ r (hown c b r)) λc xs r=>two c _ r (λz=>by subst z;rw[ea]at r;cases r)
    rcases hc with rfl | hc
    ·exact hb
    ·exact hown c b hc
theorem zaw {a C:Addr}{t2:Nat}{ox:Obj}{vs:Array Value}(I:Inv X pz σ H s) (ea:H a=some (XO a C none)) (e1:h2.get? a=some ox) (c1:ox.cls=.ref C) (d1:ox.data=.fields vs) (k1:ox.dict=none){t0:Addr}(h0:vs[0]?=some (.ref t0)) (hv:vs[1]?=some .none)
  (k:∀b o,b≠a->s.heap.get? b=some o->h2.get? b=some o):Inv X pz σ (upd H a (XO a C none)) { s with heap:=h2,toks:=t2 } :=
 I.write (x:=a) (e:=a) (by rw[ea];exact trivial) (.inl rfl) k ⟨_,e1⟩ (ze1 e1 c1 d1 k1 h0 hv)
end
def sXF (K:Fg) (ta tv:TE) (f:Str):TS:=λD σ H=>tv σ H λy H1=>ta σ H1 λx H2=>∃a C cd,x=.ref a/\H2 a=some (XO a C none)/\zc6 K C cd/\xJ K C f ∧
 ∀dx,H2 dx=none->D.nx σ (upd (upd H2 dx (.xd [(f,y)])) a (XO a C (some dx)))
def zgV {X:Cx}{o value:Expr}{f:Str}{pos pos':Pos}{ta tv:TE}(ha:PE X o ta) (hv:PE X value tv) (hs:swapsWith value (some (.Attribute o f pos')) pos.line X.env=pure false):PS X (.Assign [.Attribute o f pos'] value pos) (sXF X.K ta tv f):=by
 intro pz s σ H D I h
 refine plainObj_wpAny_Assign_Attribute (thn (hv pz s σ H _ I h) λu s1 ⟨y,H1,I1,ry,q⟩=>thn (ha pz s1 σ H1 _ I1 q) λov s2 ⟨x,H2,I2,rx,a,C,cd,ex,ea,S,n,q2⟩=>?_) hs
 subst ex
 obtain rfl:ov=Value.ref a:=rx
 obtain⟨ox,vs,g1,g2,g3,g4,⟨t0,h0⟩,hv1⟩:=Ji I2.hok ea
 refine zgd I2.kIn g1 g2 g3 g4 S.hc S.hh S.ho S.ob S.sa n λh2 e1 n1 k1=>?_
 refine⟨σ,_,zdF (fs:=[(f,y)]) I2 ea (wo _) e1 g2 g3 rL h0 hv1 n1 (λg=>?_) k1,q2 _ I2.fresh⟩
 show Xl (List.lookup g [(f,y)]) (if g=f then some u else none)
 by_cases z:g=f
 ·rw[if_pos z,show List.lookup g [(f,y)]=some y by simp[List.lookup,z]];exact ry
 ·rw[if_neg z,show List.lookup g [(f,y)]=none by simp[List.lookup,beq_eq_false_iff_ne.mpr z]];exact trivial
def XB (h:Heap) (C:Addr):Prop:=∃nm qn N bs bm hd sn sub ab col dd k0 k1 k2 k3 k5 ni,h.get? C=some (excClassObj nm qn C N bs bm hd sn sub ab col dd k0 k1 k2 k3 k5 ni)/\OwnTail h zaa bm
section
variable {prog:Program}{w:World}{A:Around}{E:Value->Shared->Prop}{s:Shared}
theorem zck {a C:Addr}{y:Value}{t0:Addr}{vs:Array Value}{osl:Array (Option Value)}{Q:Value->Shared->Prop}(hx:s.heap.get? a=some ⟨.ref C,none,.fields vs,osl⟩) (B:XB s.heap C) (h0:vs[0]?=some (.ref t0))
  (h:∀h2 us t1,h2.get? a=some ⟨.ref C,none,.fields us,osl⟩->us[0]?=some (.ref t1)->us[1]?=vs[1]?->(∀b o,b≠a->s.heap.get? b=some o->h2.get? b=some o)->Q .none { s with heap:=h2 }) :
  wpAny (model prog w) A (call (.builtin "ValueError.__init__") [.ref a,y]) Q E s:=by
 have FV:=WG
 obtain⟨nm,qn,N,bs,bm,hd,sn,sub,ab,col,dd,k0,k1,k2,k3,k5,ni,hC,T⟩:=B
 obtain⟨hp,g,d,t,os⟩:=s
 dsimp only at hx hC T h
 refine Wy (codeAny_call_builtin FV.init.plain FV.initEntry (wpAny_check_init_subU FV T hC hx rL ?_))
 wp_walk
 rw[h0]
 wp_walk
 rw[if_pos (by cases q:vs.size with | zero=>(rw[Array.getElem?_eq_none ∅]at h0;cases h0) | succ n=>lia)]
 have hx1:(hp.push { cls:=.type "tuple",data:=.seq #[y] }).get? a=some ⟨.ref C,none,.fields vs,osl⟩:=we _ hx
 refine wpAny_update' hx1 ?_
 wp_walk
 have hz:0<vs.size:=by cases q:vs.size with | zero=>(rw[Array.getElem?_eq_none ∅]at h0;cases h0) | succ n=>lia
 exact h _ (vs.setIfInBounds 0 (.ref hp.objs.size)) hp.objs.size (yy _ hx1 rfl) (by rw[Array.getElem?_setIfInBounds_self_of_lt hz]) (by rw[Wg (by decide)]) λb o hb q=>(uV _ _ _ _ hb).trans (we _ q)
end
def XB.keeps {h h2:Heap}{C:Addr}(B:XB h C) (k:∀b o,h.get? b=some o->h2.get? b=some o):XB h2 C:=by
 obtain⟨nm,qn,N,bs,bm,hd,sn,sub,ab,col,dd,k0,k1,k2,k3,k5,ni,hC,T⟩:=B
 exact⟨nm,qn,N,bs,bm,hd,sn,sub,ab,col,dd,k0,k1,k2,k3,k5,ni,k _ _ hC,T.keeps k⟩
structure XUp (K:Fg) (C0:Addr) (mc:Value):Prop where
 rd:readsIn K C0 mc=true
 ga:specialIn K (.ref C0) "__getattribute__" = some (some (.builtin "type.__getattribute__"))
 it:findCls K (.ref C0) mc "__init__" = some (.val (.builtin "ValueError.__init__"))
inductive zkQ (B:Heap) (Q:VK) (vs:List V) (H1:Hp):Prop
 |mk:∀a C y,(vs=[.ref a,y])->(H1 a=some (XO a C none))->(XB B C)->(Q .non (upd H1 a (XO a C none)))->zkQ B Q vs H1
def tXI (B:Heap) (t:TA):TE:=λσ H Q=>t σ H λvs H1=>zkQ B Q vs H1
section
variable {X:Cx}{x:Str}{C C0 f:Addr}{mc:Value}{p pos apos:Pos}{e:Expr}{es:List Expr}{t:TA}
theorem zgU {pl:Sem Bool}(U:XUp X.K C0 mc) (hm:X.mg x=some (.ref C0)) (ha:PA X (e::es) t) (hg:Gl X x:=by rfl) (hdb:(x == ("__debug__":Str))=false:=by decide)
  (hst:starEach (e::es) X.env=(false,eval e X.env)::starEach es X.env:=by rfl) (hpl:(backTo pos (starEach es X.env)).any (·.1)=false:=by rfl)
  (ht:eval (.Call (.Attribute (.Name x p) "__init__" apos) (e::es) [] pos) X.env=(do
   let ov <-eval (.Name x p) X.env
   standAt apos.atName
   let (f,first) <-holding [ov] (getMethod ov "__init__" pl)
   callWith pos f first (backTo pos (starEach (e::es) X.env)) (backToKw pos (keywordEach [] X.env))):=by rfl) :
  PE X (.Call (.Attribute (.Name x p) "__init__" apos) (e::es) [] pos) (tXI X.base t):=by
 intro pz s σ H Q I h
 refine methodCall_KW (pl:=pl) (vQ I hg hm ?_ hdb) ht
 refine method_cls I.kIn U.ga (cls_value I.kIn U.rd U.it rL ?_)
 refine callWith_builtin1 (thn (ha pos pz _ σ H _ (I.tok _) h) λus s1 ⟨vs,H1,I1,r,a,C,y,ev,ea,B,q⟩=>?_) hst hpl
 subst ev
 obtain⟨u,w,rfl,r1,r2⟩:=zad r
 cases(show u=Value.ref a from r1)
 obtain⟨⟨oc,odi,oda,osl⟩,vs,g1,g2,g3,g4,⟨t0,h0⟩,hv1⟩:=Ji I1.hok ea
 dsimp only at g2 g3 g4
 subst g2 g3 g4
 refine zck g1 (B.keeps I1.bk) h0 λh2 us t1 e1 e2 e3 k1=>?_
 exact⟨.non,_,zaw (t2:=s1.toks) I1 ea e1 rL rL rL e2 (e3.trans hv1) k1,rL,q⟩
structure XMk (K:Fg) (B:Heap) (C f:Addr):Prop where
 obj:∃nm qn N bs bm hd sn sub ab col dd k0 k1 k2 k3 k5 mN,B.get? C=some (excClassObj nm qn C N bs bm hd sn sub ab col dd k0 k1 k2 k3 k5 "ValueError.__new__")/\B.Ns N mN/\mN "__init__" = some (.ref f)/\OwnTail B zaa bm
 fn:∃oI,B.get? f=some oI/\oI.cls=.type "function"
 kp:keepIn K (.ref C)=true
end
def Qy (a:Addr) (H:Hp):Hp:=λb=>if b=a then none else H b
def Xq {a:Addr}{H:Hp}:Qy a H a=none:=if_pos rfl
def qp {a b:Addr}{H:Hp}(h:b≠a):Qy a H b=H b:=if_neg h
section
variable {P:Program}{w:World}{H H1:Hp}{h h1:Heap}{a C:Addr}{dct:Option Addr}{fs:List Addr}
theorem zfl (x:HOk P w H h) (ea:H a=some (XO a C dct)):HOk P w (Qy a H) h:=λb u q=>by
 by_cases hb:b=a
 ·subst hb;rw[Xq]at q;cases q
 ·rw[qp hb]at q
  exact(x b u q).stay (λ_ _ _ r=>r) (λc r=>by rw[qp (λz=>by subst z;rw[ea]at r;cases r)];exact r) λc xs r=>by rw[qp (λz=>by subst z;rw[ea]at r;cases r)];exact r
theorem zi4 (u:Un fs [] H H1 h h1) (n:H a=none):Un fs [] H (Qy a H1) h h1 where
 keep:=u.keep
 slot:=u.slot
 free:=λb o q n hx=>by
  by_cases hb:b=a
  ·subst hb;exact Xq
  ·rw[qp hb];exact u.free b o q n hx
 there:=u.there
 tups:=λb xs q=>by rw[qp (zG q n)];exact u.tups b xs q
 frzs:=λb o xs q=>by rw[qp (zG q n)];exact u.frzs b o xs q
 tbls:=λb ps q=>by rw[qp (zG q n)];exact u.tbls b ps q
end
section
variable {M:Model}{A:Around}{E:Value->Shared->Prop}{s:Shared}{B:Heap}{env:Env}{outer:List Env}{L e:Addr}{a0:Value}{oe:Obj}{vs:Array Value}{Q:Unit->Shared->Prop}
theorem zaA (hfr:A.frames=some (env::outer)) (hf:env.frame=some L) (hB:B.StaysIn s.heap) (hl:s.heap.FunFrames B (env::outer)) (hn:B.get? e=none) (he:s.heap.get? e=some oe) (hd:oe.data=.fields vs) (h1:vs[1]?=some .none) (h0:vs[0]?=some a0)
  (q:∀h',FlX B outer e oe.cls a0 oe.dict h'->s.heap.UpToSlots h'->Q () { s with heap:=h' }):wpAny M A (leaving env (.ref e)) Q E s:=by
 unfold leaving
 refine wc (zaH (a0:=a0) hfr hl hf he hB hn hd h1 h0 λh' x1 x2 x3 x4=>?_)
 refine Qj (s:={ s with heap:=h' }) ⟨x1,hn,x2,_,x3⟩ λh2 z up2=>?_
 obtain⟨z1,z2,⟨_,_,z3⟩,z4⟩:=z
 exact q h2 ⟨z1,z2,z3,z4⟩ (x4.trans up2)
end
def Vn (X:Cx) (J:XJ):Prop:=∀(pz:List (Addr×Obj)) (σ:St) (H:Hp) (s:Shared) (a C:Addr) (H':Hp) (s':Shared) (dct:Option Addr),
 Inv X pz σ H s->s.heap.get? a=none->s'.os=s.os->AllBare s'.gens->Un (frs X.stack) [] H H' s.heap s'.heap->HOk X.prog X.w H' s'.heap->H' a=some (XO a C dct)->J C dct σ (Qy a H')->X.xe (.ref a) s'
section
variable {P:Program}{w:World}{K:Fg}{mg:Str->Option Value}{base:Heap}{N:List Str}{qual:Str}{scope:Scope}{f:Addr}{cd:Value}{A:Around}{outer:List Env}{s:Shared}{H:Hp}{E:XK}
theorem ZH:Vn (xl (CX1 P w) P w K mg base N qual scope f cd A outer s H E) (EJ E):=by
 intro pz σ H1 s1 a C H' s' dct I new eos bare un hok ea q
 obtain⟨hh,g,d,t,os'⟩:=s'
 have e:os'=s1.os:=eos
 subst e
 have I':=I.call' (s':=⟨hh,g,d,t,s1.os⟩) rfl un hok bare (λb z=>absurd z (by simp))
 obtain⟨ox,vs,g1,g2,g3,g4,⟨t0,h0⟩,hv⟩:=Ji hok ea
 have hH1:H1 a=none:=Zb I.hok new
 generalize hl:a::frs (xl (CX1 P w) P w K mg base N qual scope f cd A outer s H E).stack=l
 have hin:∀b o,hh.get? b=some o->b∉l->(PySem.W.hideAll hh l).get? b=some o:=λb o e n=>PySem.W.hideAll_get _ e n
 have hst:(PySem.W.hideAll hh l).StaysIn hh:=λb o q=>PySem.W.of_hideAll _ q
 have hff:hh.FunFrames (PySem.W.hideAll hh l) (xl (CX1 P w) P w K mg base N qual scope f cd A outer s H E).stack :=
  PySem.W.funFrames_hide I'.stack λenv he b hb=>by rw[<-hl];exact wR _ (WL.mpr ⟨env,he,hb⟩)
 have hna:(PySem.W.hideAll hh l).get? a=none:=PySem.W.hideAll_none _ (by rw[<-hl];exact wU)
 have nl:∀b,b≠a->b∉frs (xl (CX1 P w) P w K mg base N qual scope f cd A outer s H E).stack->b∉l:=λb x y z=>by
  rw[<-hl]at z
  rcases ww.mp z with r | r
  ·exact x r
  ·exact y r
 refine zaA (L:=s.heap.objs.size) (B:=PySem.W.hideAll hh l) (s:=⟨hh,g,d,t,s1.os⟩) I.ok.frames rL hst hff hna g1 g3 hv h0 λh' fl up=>?_
 rw[g2,g4]at fl
 have ud:=zi4 (a:=a) un hH1
 have z:=zdu (g:=g) (d:=d) (t:=t) (h1:=hh) (C:=C) I rfl (λb hb=>wR _ hb) ud (λb o e n=>by
   have hb:b≠a:=λz=>by subst z;rw[new]at e;cases e
   obtain⟨o',ho'⟩:=un.there b o e wO
   exact⟨⟨o',hin b o' ho' (nl b hb n)⟩,λhn=>hin b o (un.keep b o e hn n wO) (nl b hb n)⟩)
  (λb u e=>by
   by_cases hb:b=a
   ·subst hb;rw[Xq]at e;cases e
   ·rw[qp hb]at e
    obtain⟨o,ho⟩:=(hok b u e).obj
    exact⟨o,hin b o ho (nl b hb λz=>by rw[I'.stkFree b z]at e;cases e)⟩) (zfl hok ea) hst hff up fl bare
 exact⟨a,C,Qy a H',_,_,_,rL,z,q⟩
end
section
variable {M:Model}{A:Around}{E:Value->Shared->Prop}{s:Shared}{env:Env}
theorem zcL {x:Expr}{pos:Pos}{Q:Flow->Shared->Prop}(hh:A.handled=none)
  (h:wpAny M A (eval x env) (λv s₁=>∃e C ox,v=.ref e/\s₁.heap.get? e=some ox/\ox.cls=.ref C/\(∃vs,ox.data=.fields vs/\vs[1]?=some .none)/\XB s₁.heap C/\E (.ref e) s₁) E s) :
  wpAny M A (exec (.Raise (some x) none pos) env) Q E s:=by
 rw[arm_exec_Raise]
 simp only[evalOpt,Option.map]
 refine wc (uB ?_)
 unfold raiseStmt
 refine wc (wc (yC h (λv s₁ h₁=>wc (uB (wj ?_))) λ_ _ x=>x))
 obtain⟨e,C,ox,rfl,he,hc,⟨vs,hdt,hv⟩,⟨nm,qn,N,bs,bm,hd,sn,sub,ab,col,dd,k0,k1,k2,k3,k5,ni,hC,T⟩,hE⟩:=h₁
 have hcB:(Value.ref C::bm).contains (.type "BaseException")=true:=by rw[List.contains_cons,T.hasType (show zaa.contains (.type "BaseException")=true by decide +kernel),Bool.or_true]
 obtain⟨hp,g,d,tk,os⟩:=s₁
 obtain⟨oc,odi,oda,osl⟩:=ox
 dsimp only at hc hdt
 subst hc hdt
 repeat (first | (with_reducible refine wP he rfl hv ?_) | with_reducible refine uR he ?_ | with_reducible refine uR hC ?_ | (with_reducible refine wpAny_isSubtype_exc hC ?_;rw[hcB]) | wp_step)
 exact wpAny_raiseNew_none hh hE
end
def zgx (C:Addr) (sp:Sp) (J:XJ) (t:TA):TS:=λ_ σ H=>t σ H λvs H1=>vs.length<=sizeLine/\∀p,H1 p=none->sp (.ref p::vs) (upd H1 p (XO p C none)) (λv H2=>v=.non/\∃dct,H2 p=some (XO p C dct)/\J C dct σ (Qy p H2)) E0
section
variable {X:Cx}{J:XJ}{x:Str}{C f:Addr}{np cpos pos:Pos}{e:Expr}{es:List Expr}{t:TA}
theorem VD {k:Nat}{fd:FuncData}{ps:List Str}{sp:Sp}(M:XMk X.K X.base C f) (F:qP X.prog X.w X.K X.mg X.base CX0 k f fd ps sp) (hr:xb (k+1) X.A) (hm:X.mg x=some (.ref C)) (hb:qO X.K fd ps []) (hh:X.A.handled=none) (hJ:Vn X J) (ha:PA X (e::es) t)
  (hg:Gl X x:=by rfl) (hdb:(x == ("__debug__":Str))=false:=by decide) (he:starEach (e::es) X.env=(false,eval e X.env)::starEach es X.env:=by rfl) (hpl:(backTo cpos (starEach es X.env)).any (·.1)=false:=by rfl) :
  PS X (.Raise (some (.Call (.Name x np) (e::es) [] cpos)) none pos) (zgx C sp J t):=by
 intro pz s σ H D I h
 refine zcL hh ?_
 refine yY (vQ I hg hm ?_ hdb)
 refine callWith_K (h₀:=X.base) I.ok.mod.kin M.kp (thn (ha cpos pz s σ H _ I h) λus s1 ⟨vs,H1,I1,r,z,q⟩=>⟨I1.kIn,?_⟩) he hpl
 obtain⟨nm,qn,N,bs,bm,hd,sn,sub,ab,col,dd,k0,k1,k2,k3,k5,mN,hC,hN,hi,T⟩:=M.obj
 obtain⟨oI,hf,hfc⟩:=M.fn
 have hC1:=I1.bk _ _ hC
 have hN1:=hN.keeps I1.bk
 have T1:=T.keeps I1.bk
 have hf1:=I1.bk _ _ hf
 obtain⟨hh,g,d,tk,os⟩:=s1
 refine za7 T1 hC1 hN1 hi hf1 hfc (by show us.length<=sizeLine;rw[<-r.length];exact z) λh2 a hma=>?_
 have I2:=zdE (t2:=tk) I1 hma
 have hq:=q a (Zb I1.hok hma.new)
 have r2:zY (V.ref a::vs) (Value.ref a::us):=.cons rfl r
 have hl:(Value.ref a::us++[]).length=ps.length:=by
  have e:=r2.length
  rw[F.len _ _ _ _ hq]at e
  rw[yM];exact e.symm
 refine Wy (codeAny_mono (F.run _ X.stack _ _ ⟨Value.ref a::us,[]⟩ (Value.ref a::us) _ _ E0 (hr.make C us []) (I2.env0.make C us []) (by have:=hb _ (Value.ref a::us) I2.kIn hl;rwa [yM]at this) r2 hq) λr3 s3 hq3=>?_)
 cases r3 with
 |error e=>exact(show False from hq3).elim
 |ok fl =>
  cases fl with
  |ret u =>
   obtain⟨v,H3,os3,bare3,un3,hok3,rv,ev,dct,ea,q3⟩:=hq3
   subst ev
   have I3:=I2.call' os3 un3 hok3 bare3 (λb z=>absurd z (by simp))
   obtain⟨ox,vs',g1,g2,g3,_,_,hv⟩:=Ji hok3 ea
   have un1:Un (frs X.stack) [] H1 (upd H1 a (XO a C none)) hh h2:=J9 hma.keeps hma.new (Zb I1.hok hma.new)
   refine⟨rv,a,C,ox,rL,g1,g2,⟨vs',g3,hv⟩,⟨nm,qn,N,bs,bm,hd,sn,sub,ab,col,dd,k0,k1,k2,k3,k5,_,I3.bk _ _ hC,T.keeps I3.bk⟩,?_⟩
   exact hJ pz σ H1 _ a C H3 s3 dct I1 hma.new os3 bare3 (un1.trans un3) hok3 ea q3
  |next=>exact False.elim hq3
  |brk=>exact False.elim hq3
  |cont=>exact False.elim hq3
end
def zU (H H':Hp):Prop:=∀b xs,H b=some (.tup xs)->H' b=some (.tup xs)
def zU.of {H H':Hp}(h:zj H H'):zU H H':=λb xs e=>h b _ e
def zU.trans {H H1 H2:Hp}(a:zU H H1) (b:zU H1 H2):zU H H2:=λc xs e=>b c xs (a c xs e)
def zU.upd {H:Hp}{D:Addr}{ys:List V}{o:HO}(h:H D=some (.lst ys)):zU H (upd H D o):=λb xs e=>by rw[zF (λz=>by subst z;rw[h]at e;cases e)];exact e
structure zch (J:It) (H:Hp) (xs:List V):Prop where
 go:∀i H',i<xs.length->zj H H'->J.go i H'
 stop:∀H',zj H H'->J.stop xs.length H'
 yld:∀i x H2 H3,zj H H2->J.yld i H2 x H3->H3=H2/\xs[i]?=some x
def xS {K:Fg}{H:Hp}{a:Addr}{xs:List V}(h:H a=some (.lst xs)):zch (Itl K a) H xs :=
 ⟨λi H' hi s=>⟨xs,xs[i],.of (s _ _ h),by simp[hi]⟩,λH' s=>⟨xs,.of (s _ _ h),wo _⟩,λi x H2 H3 s y=>⟨y.1,y.2 xs (.of (s _ _ h))⟩⟩
def QS {K:Fg}{H:Hp}{a:Addr}{xs:List V}(h:H a=some (.tup xs)):zch (Itt K a) H xs :=
 ⟨λi H' hi s=>⟨xs,xs[i],.of (s _ _ h),by simp[hi]⟩,λH' s=>⟨xs,.of (s _ _ h),wo _⟩,λi x H2 H3 s y=>⟨y.1,y.2 xs (.of (s _ _ h))⟩⟩
section
variable {J:It}{D:Addr}{n:Nat}{js:List Nat}{σ:St}{g:TG}{te:TE}{Z:Hp->Prop}{H:Hp}{xs:List V}
theorem Xp (R:Nat->V->Hp->Prop) (hR:∀i v H H',zU H H'->R i v H->R i v H') (hD:H D=none) (hJ:zch J H xs) (hl:xs.length<sizeLine)
  (hs:∀i x zs H2 Q',xs[i]?=some x->zs.length=n->zj H H2->(∀v H6,zj H2 H6->R i v H6->Q' v H6)->g x zs H2 λσ4 H4=>te σ4 H4 Q')
  (k:∀ys H',zj H H'->H' D=some (.lst ys)->ys.length=xs.length->(∀i v,ys[i]?=some v->R i v H')->Z H') :
  ∃W:Nat->Nat->Hp->List V->Prop,(∃m,W 0 m (upd H D (.lst [])) [])/\∀i m H2 ys,W i m H2 ys->H2 D=some (.lst ys)->(J.stop i H2/\Z H2) ∨
   (J.go i H2/\∀σB x H3,σB.length=n->J.yld i H2 x H3->g x σB H3 λσ4 H4=>(λ_ H Q=>Q true H:TT) σ4 H4 λb H5=>if b=true then te σ4 H5 (λv H6=>H6 D=some (.lst ys)/\ys.length<sizeLine/\∃m',m'<m/\W (i+1) m' (upd H6 D (.lst (ys++[v]))) (ys++[v]))
    else H5 D=some (.lst ys)/\∃m',m'<m/\W (i+1) m' H5 ys):=by
 refine zbf (Q:=λ_ H=>Z H) (tt:=λ_ H Q=>Q true H) (N:=xs.length) (λi H2 ys=>zj H H2/\ys.length=i/\∀j v,ys[j]?=some v->R j v H2) ⟨zj.upd hD,rfl,λj v e=>by simp at e⟩ (λi H2 ys hi p=>hJ.go i H2 hi p.1) (λH2 ys p=>hJ.stop H2 p.1) ?_ (λH2 ys p e=>k ys H2 p.1 e p.2.1 p.2.2)
 rintro i x zs H2 H3 ys Nx hN hi hz hy ⟨s2,hyl,hyR⟩ hD2
 obtain⟨rfl,hx⟩:=hJ.yld i x H2 H3 s2 hy
 refine hs i x zs H3 _ hx hz s2 λv H6 s6 r6=>⟨s6 _ _ hD2,by lia,hN _ _ ⟨λc o e=>?_,by simp[hyl],λj u e=>?_⟩⟩
 ·rw[zF (zG e hD)];exact s6 _ _ (s2 _ _ e)
 ·have T6:zU H6 (upd H6 D (.lst (ys++[v]))):=.upd (s6 _ _ hD2)
  by_cases hj:j<ys.length
  ·rw[wD hj]at e
   exact hR _ _ _ _ ((zU.of s6).trans T6) (hyR j u e)
  ·rw[wB ∅]at e
   have:j-ys.length=0:=by
    rcases yD (j-ys.length)with z | z
    ·exact z
    ·rw[wT (by simp;lia)]at e;cases e
   rw[this]at e
   simp at e
   subst e
   rw[show j=i by lia]
   exact hR _ _ _ _ T6 r6
theorem qb (R:Nat->V->Hp->Prop) (hR:∀i v H H',zU H H'->R i v H->R i v H') (hD:H D=none) (hJ:zch J H xs) (hl:xs.length<sizeLine)
  (hs:∀i x zs H2 Q',xs[i]?=some x->zs.length=n->zj H H2->(∀v H6,zj H2 H6->R i v H6->Q' v H6)->g x (zs++qw σ js) H2 λσ4 H4=>σ4.drop n=qw σ js/\te σ4 H4 Q')
  (k:∀ys H',zj H H'->H' D=some (.lst ys)->ys.length=xs.length->(∀i v,ys[i]?=some v->R i v H')->Z H') :
  ∃W:Nat->Nat->Hp->List V->Prop,(∃m,W 0 m (upd H D (.lst [])) [])/\∀i m H2 ys,W i m H2 ys->H2 D=some (.lst ys)->(J.stop i H2/\Z H2) ∨
   (J.go i H2/\∀zs x H3,zs.length=n->J.yld i H2 x H3->g x (zs++qw σ js) H3 λσ4 H4=>σ4.drop n=qw σ js/\(λ_ H Q=>Q true H:TT) σ4 H4 λb H5=>if b=true then te σ4 H5 (λv H6=>H6 D=some (.lst ys)/\ys.length<sizeLine/\∃m',m'<m/\W (i+1) m' (upd H6 D (.lst (ys++[v]))) (ys++[v]))
    else H5 D=some (.lst ys)/\∃m',m'<m/\W (i+1) m' H5 ys):=by
 refine Za (Q:=λ_ H=>Z H) (tt:=λ_ H Q=>Q true H) (N:=xs.length) (λi H2 ys=>zj H H2/\ys.length=i/\∀j v,ys[j]?=some v->R j v H2) ⟨zj.upd hD,rfl,λj v e=>by simp at e⟩ (λi H2 ys hi p=>hJ.go i H2 hi p.1) (λH2 ys p=>hJ.stop H2 p.1) ?_ (λH2 ys p e=>k ys H2 p.1 e p.2.1 p.2.2)
 rintro i x zs H2 H3 ys Nx hN hi hz hy ⟨s2,hyl,hyR⟩ hD2
 obtain⟨rfl,hx⟩:=hJ.yld i x H2 H3 s2 hy
 refine hs i x zs H3 _ hx hz s2 λv H6 s6 r6=>⟨s6 _ _ hD2,by lia,hN _ _ ⟨λc o e=>?_,by simp[hyl],λj u e=>?_⟩⟩
 ·rw[zF (zG e hD)];exact s6 _ _ (s2 _ _ e)
 ·have T6:zU H6 (upd H6 D (.lst (ys++[v]))):=.upd (s6 _ _ hD2)
  by_cases hj:j<ys.length
  ·rw[wD hj]at e
   exact hR _ _ _ _ ((zU.of s6).trans T6) (hyR j u e)
  ·rw[wB ∅]at e
   have:j-ys.length=0:=by
    rcases yD (j-ys.length)with z | z
    ·exact z
    ·rw[wT (by simp;lia)]at e;cases e
   rw[this]at e
   simp at e
   subst e
   rw[show j=i by lia]
   exact hR _ _ _ _ T6 r6
end
section
variable {J:It}{D:Addr}{n:Nat}{σ:St}{g:TG}{tt:TT}{te:TE}{Z:Hp->Prop}{H:Hp}{xs:List V}
theorem zdi (p:V->Bool) (hD:H D=none) (hJ:zch J H xs) (hl:xs.length<sizeLine)
  (hs:∀(i:Nat) (x:V) (zs:St) (H2:Hp) (A:VK) (B:Hp->Prop),xs[i]?=some x->zs.length=n->zj H H2->(p x=true->A x H2)->(p x=false->B H2)->g x zs H2 λσ4 H4=>tt σ4 H4 λb H5=>if b=true then te σ4 H5 A else B H5)
  (k:∀H',zj H H'->H' D=some (.lst (xs.filter p))->Z H') :
  ∃W:Nat->Nat->Hp->List V->Prop,(∃m,W 0 m (upd H D (.lst [])) [])/\∀i m H2 ys,W i m H2 ys->H2 D=some (.lst ys)->(J.stop i H2/\Z H2) ∨
   (J.go i H2/\∀σB x H3,σB.length=n->J.yld i H2 x H3->g x σB H3 λσ4 H4=>tt σ4 H4 λb H5=>if b=true then te σ4 H5 (λv H6=>H6 D=some (.lst ys)/\ys.length<sizeLine/\∃m',m'<m/\W (i+1) m' (upd H6 D (.lst (ys++[v]))) (ys++[v]))
    else H5 D=some (.lst ys)/\∃m',m'<m/\W (i+1) m' H5 ys):=by
 refine zbf (Q:=λ_ H=>Z H) (tt:=tt) (N:=xs.length) (λi H2 ys=>zj H H2/\ys=(xs.take i).filter p) ⟨zj.upd hD,rfl⟩ (λi H2 ys hi p=>hJ.go i H2 hi p.1) (λH2 ys p=>hJ.stop H2 p.1) ?_ (λH2 ys q e=>k H2 q.1 (by rw[e,q.2,Wo]))
 rintro i x zs H2 H3 ys Nx hN hi hz hy ⟨s2,rfl⟩ hD2
 obtain⟨rfl,hx⟩:=hJ.yld i x H2 H3 s2 hy
 have et:xs.take (i+1)=xs.take i++[x]:=by rw[yW,hx];rfl
 refine hs i x zs H3 _ _ hx hz s2 (λhp=>⟨hD2,?_,hN _ _ ⟨λc o e=>?_,?_⟩⟩) (λhp=>⟨hD2,hN _ _ ⟨s2,?_⟩⟩)
 ·have:=uI p (xs.take i)
  have:=List.length_take_le i xs
  lia
 ·rw[zF (zG e hD)];exact s2 _ _ e
 ·rw[et,yN];simp[hp]
 ·rw[et,yN];simp[hp]
end
section
variable {prog:Program}{w:World}{A:Around}{E:Value->Shared->Prop}{s:Shared}
theorem Ql {j t:Addr}{i:Nat}{vs:Array Value}{x:Value}{Q:Value->Shared->Prop}(kj:s.heap.IsListIter j t i) (kt:s.heap.IsList t vs) (kx:vs[i]?=some x)
  (q:∀h',h'.IsListIter j t (i+1)->Heap.SameBut j s.heap h'->Q x { s with heap:=h' }):wpAny (model prog w) A (Builtin.SmallTypes.nextOf (.ref j)) Q E s:=by
 obtain⟨oj,e1,e2,e3⟩:=id kj
 obtain⟨ot,f1,_,nt,f3⟩:=kt
 unfold Builtin.SmallTypes.nextOf
 refine wc (wpAny_callSpecial?_slot (name:=Str.ofString "__next__") kj.typeIs slot_listiter_next (yt slot_listiter_next kj.typeIs entry_listiter_next ?_ (args_listiter_next _)))
 show wpAny _ _ (field (.ref j) 0 >>= _) _ _ s
 refine wc (wP e1 e3 (x:=.ref t) rL ?_)
 show wpAny _ _ (if(Value.ref t == .none)=true then _ else _) _ _ s
 rw[if_neg (show ¬((Value.ref t == .none)=true)from wL)]
 show wpAny _ _ (field (.ref j) 1 >>= _) _ _ s
 refine wc (wP e1 e3 (x:=.int i 0) rL (?_:wpAny _ _ (seqItems? (.ref t) >>= _) _ _ s))
 refine wc (yh f1 f3 ?_)
 simp only[yG,kx]
 refine wc (uD e1 e3 (by simp) (wj ⟨x,rfl,wj (q _ ⟨_,yy _ e1 (Obj.isFreed_of_fields (Obj.data_mapFields e3 _)),(Obj.cls_mapFields ..).trans e2,?_⟩ (Heap.SameBut.update ..))⟩))
 rw[Obj.data_mapFields e3];simp[rawInt]
theorem zaG {j t:Addr}{i:Nat}{vs:Array Value}{Q:Value->Shared->Prop}(hh:A.handled=none) (kj:s.heap.IsListIter j t i) (kt:s.heap.IsList t vs) (kx:vs[i]?=none)
  (q:∀h' e,Heap.ExtBut j s.heap h'->(∃o,h'.get? e=some o/\o.cls=.type "StopIteration")->E (.ref e) { s with heap:=h' }):wpAny (model prog w) A (Builtin.SmallTypes.nextOf (.ref j)) Q E s:=by
 obtain⟨oj,e1,e2,e3⟩:=id kj
 obtain⟨ot,f1,_,nt,f3⟩:=kt
 unfold Builtin.SmallTypes.nextOf
 refine wc (wpAny_callSpecial?_slot (name:=Str.ofString "__next__") kj.typeIs slot_listiter_next (yt slot_listiter_next kj.typeIs entry_listiter_next ?_ (args_listiter_next _)))
 show wpAny _ _ (field (.ref j) 0 >>= _) _ _ s
 refine wc (wP e1 e3 (x:=.ref t) rL ?_)
 show wpAny _ _ (if(Value.ref t == .none)=true then _ else _) _ _ s
 rw[if_neg (show ¬((Value.ref t == .none)=true)from wL)]
 show wpAny _ _ (field (.ref j) 1 >>= _) _ _ s
 refine wc (wP e1 e3 (x:=.int i 0) rL (?_:wpAny _ _ (seqItems? (.ref t) >>= _) _ _ s))
 refine wc (yh f1 f3 ?_)
 simp only[yG,kx]
 refine wc (ul (wc (uD e1 e3 (by simp) (?_:wpAny _ _ (newExc (.type "StopIteration") [] >>= _) _ _ _))))
 refine wc ?_
 simp only[newExc,newTuple]
 refine wc (w8 (wc (m:=firstArgMember _ _) (wpAny_of_eq (a:=Value.none) (by first | rfl | (simp only[firstArgMember];rfl)) (w8 ?_ (by size_fits)))) (by size_fits))
 simp only[raiseNew]
 refine wc (wpAny_handled (?_))
 first | rw[show A.in1.handled=none from hh] | rw[hh]
 exact wc (wj (wpAny_throw (q _ _ (((Heap.SameBut.update ..).extBut.push _).push _) ⟨_,wu _ rL,rL⟩)))
structure ZTL (z TI TO j1 j2 t1 t2:Addr) (f0:Value) (i1 i2:Nat) (h:Heap):Prop where
 z:IsZip h z TI TO f0
 ti:IsPair h TI (.ref j1) (.ref j2)
 to:∃a b,IsPair h TO a b
 i1:h.IsListIter j1 t1 i1
 i2:h.IsListIter j2 t2 i2
section
variable {z TI TO j1 j2 t1 t2:Addr}{i:Nat}{xs ys:Array Value}
theorem vJ {h:Heap}{f0:Value}{vs:Array Value}{t:Addr}(ht:h.IsList t vs) (hz:IsZip h z TI TO f0):t≠z:=λe=>by
 obtain⟨o,e1,e2,_⟩:=ht
 rw[e,hz]at e1;cases e1;simp at e2
theorem JF {h:Heap}{vs:Array Value}{t j u:Addr}{n:Nat}(ht:h.IsList t vs) (hj:h.IsListIter j u n):t≠j:=λe=>by
 obtain⟨o,e1,e2,_⟩:=ht
 obtain⟨o',f1,f2,_⟩:=hj
 rw[e,f1]at e1;cases e1;rw[f2]at e2;simp at e2
theorem zgD {x y:Value}{Q:Option Value->Shared->Prop}(D:ZNe z TI TO j1 j2) (Z:ZTL z TI TO j1 j2 t1 t2 .none i i s.heap) (k1:s.heap.IsList t1 xs) (k2:s.heap.IsList t2 ys) (n1:t1≠TO) (n2:t2≠TO) (ex:xs[i]?=some x) (ey:ys[i]?=some y)
  (q:∀h',ZTL z TI TO j1 j2 t1 t2 (rawInt s.heap.objs.size) (i+1) (i+1) h'->IsPair h' s.heap.objs.size x y->h'.objs.size=s.heap.objs.size+1 →
   (∀c o,c≠z->c≠TO->c≠j1->c≠j2->s.heap.get? c=some o->h'.get? c=some o)->Q (some (.ref s.heap.objs.size)) { s with heap:=h' }):wpAny (model prog w) A (pyNext (.ref z)) Q E s:=by
 obtain⟨Zz,Zi,⟨a,b,Zo⟩,Z1,Z2⟩:=Z
 have ty:s.TypeIs (.ref z) "zip":=⟨_,Zz,rfl⟩
 unfold pyNext
 refine wc (Wx (wpAny_callSpecial?_slot (name:=Str.ofString "__next__") ty F.slot_zip_next (yt F.slot_zip_next ty F.entry_zip_next ?_ (F.args_zip_next_1 _))))
 show wpAny _ _ (field (.ref z) 2 >>= _) _ _ s
 refine wc (wP Zz rL (x:=.bool false) rL (?_:wpAny _ _ (field (.ref z) 3 >>= _) _ _ s))
 refine wc (wP Zz rL (x:=.ref TI) rL (wc (yh Zi rL (?_:wpAny _ _ (Builtin.SmallTypes.ownedTupleIsFree (.ref z) >>= _) _ _ s))))
 refine wc ?_;unfold Builtin.SmallTypes.ownedTupleIsFree
 refine wc (wP Zz rL (x:=.none) rL (wj ?_))
 simp only[if_true]
 refine wc (ul (wc (wP Zz rfl (x:=.ref TO) rfl (wc (yo Zz (by simp) λg1 Zz1 m1=>?_)))))
 replace Zz1:IsZip g1 z TI TO .ellipsis:=Zz1
 refine wc ?_;simp only[Wp,WD,WE,WO]
 refine wc (wc (uC (?_:wpAny _ _ (Builtin.SmallTypes.nextOf (.ref j1) >>= _) _ _ _)))
 refine wc (Ql (Z1.extBut m1.extBut D.c) (k1.extBut m1.extBut (vJ k1 Zz)) ex λg2 Z12 m2=>wj ?_)
 have Zo2:IsPair g2 TO a b:=m2.extBut _ _ D.k (m1.extBut _ _ D.b Zo)
 refine wc (yh Zo2 rL (wc (Wu Zo2 λg3 Zo3 m3=>wc (uW (wj ?_)))))
 replace Zo3:IsPair g3 TO x b:=Zo3
 refine wc (wc (uC (?_:wpAny _ _ (Builtin.SmallTypes.nextOf (.ref j2) >>= _) _ _ _)))
 refine wc (Ql (((Z2.extBut m1.extBut D.d).extBut m2.extBut D.m.symm).extBut m3.extBut D.l.symm) (((k2.extBut m1.extBut (vJ k2 Zz)).extBut m2.extBut (JF k2 Z1)).extBut m3.extBut n2) ey λg4 Z24 m4=>wj ?_)
 have Zo4:IsPair g4 TO x b:=m4.extBut _ _ D.l Zo3
 refine wc (yh Zo4 rL (wc (Wu Zo4 λg5 Zo5 m5=>wc (uW (wj (wj ?_))))))
 replace Zo5:IsPair g5 TO x y:=Zo5
 refine wc (yh Zo5 rL (wc (Yk ?_)))
 have sz:g5.objs.size=s.heap.objs.size:=by rw[m5.1,m4.1,m3.1,m2.1,m1.1]
 have Zz5:IsZip g5 z TI TO .ellipsis:=m5.extBut _ _ D.b.symm (m4.extBut _ _ D.d.symm (m3.extBut _ _ D.b.symm (m2.extBut _ _ D.c.symm Zz1)))
 have kp:∀c o,c≠z->c≠TO->c≠j1->c≠j2->s.heap.get? c=some o->g5.get? c=some o:=λc o c1 c2 c3 c4 e=>m5.extBut _ _ c2 (m4.extBut _ _ c4 (m3.extBut _ _ c2 (m2.extBut _ _ c3 (m1.extBut _ _ c1 e))))
 have Z15:g5.IsListIter j1 t1 (i+1):=((Z12.extBut m3.extBut D.k.symm).extBut m4.extBut D.m).extBut m5.extBut D.k.symm
 have Z25:g5.IsListIter j2 t2 (i+1):=Z24.extBut m5.extBut D.l.symm
 have zlt:g5.objs.size≠z:=uq (wx Zz5)
 show wpAny _ _ (Builtin.SmallTypes.ownedTupleHandOut (.ref z) (.ref g5.objs.size) >>= _) _ _ _
 refine wc ?_;unfold Builtin.SmallTypes.ownedTupleHandOut
 refine wc (yo (we _ Zz5) (by simp) λg7 Zz7 m7=>?_)
 replace Zz7:IsZip g7 z TI TO (rawInt g5.objs.size):=Zz7
 refine yo Zz7 (by simp) λg8 Zz8 m8=>?_
 replace Zz8:IsZip g8 z TI TO (rawInt g5.objs.size):=Zz8
 have up:∀c o,c≠z->g5.get? c=some o->g8.get? c=some o:=λc o c1 e=>m8.extBut _ _ c1 (m7.extBut _ _ c1 (we _ e))
 have T8:IsPair g8 g5.objs.size x y:=m8.extBut _ _ zlt (m7.extBut _ _ zlt (wu _ rfl))
 have s8:g8.objs.size=g5.objs.size+1:=by rw[m8.1,m7.1,yj]
 refine wj ⟨_,rL,wj ?_⟩
 rw[sz]at Zz8 T8 s8
 show Q (some (.ref g5.objs.size)) _
 rw[sz]
 exact q g8 ⟨Zz8,up _ _ D.a (kp _ _ D.a D.e D.f D.g Zi),⟨_,_,up _ _ D.b Zo5⟩,Z15.at λo e=>up _ o D.c e,Z25.at λo e=>up _ o D.d e⟩ T8 s8 λc o c1 c2 c3 c4 e=>up c o c1 (kp c o c1 c2 c3 c4 e)
theorem zi6 {Q:Option Value->Shared->Prop}(hh:A.handled=none) (D:ZNe z TI TO j1 j2) (Z:ZTL z TI TO j1 j2 t1 t2 .none i i s.heap) (k1:s.heap.IsList t1 xs) (k2:s.heap.IsList t2 ys) (n2:t2≠TO) (en:xs[i]?=none\/ys[i]?=none)
  (q:∀h',(∀c o,c≠z->c≠TO->c≠j1->c≠j2->s.heap.get? c=some o->h'.get? c=some o)->Q none { s with heap:=h' }):wpAny (model prog w) A (pyNext (.ref z)) Q E s:=by
 obtain⟨Zz,Zi,⟨a,b,Zo⟩,Z1,Z2⟩:=Z
 have ty:s.TypeIs (.ref z) "zip":=⟨_,Zz,rfl⟩
 have fin:∀(g':Heap) (e:Addr),(∀c o,c≠z->c≠TO->c≠j1->c≠j2->s.heap.get? c=some o->g'.get? c=some o)->(∃o,g'.get? e=some o/\o.cls=.type "StopIteration") →
   wpAny (model prog w) A (do if <-isInstance (.ref e) (.type "StopIteration")then pure none else throw (.ref e):Sem (Option Value)) Q E { s with heap:=g' }:=λg' e kk ⟨o,ho,hc⟩ =>
  wc (wpAny_isInstance (T:="StopIteration") (b:=true) ⟨o,ho,hc⟩ isSubtype_stop (wj (q g' kk)))
 unfold pyNext
 refine wc (Wx (wpAny_callSpecial?_slot (name:=Str.ofString "__next__") ty F.slot_zip_next (yt F.slot_zip_next ty F.entry_zip_next ?_ (F.args_zip_next_1 _))))
 show wpAny _ _ (field (.ref z) 2 >>= _) _ _ s
 refine wc (wP Zz rL (x:=.bool false) rL (?_:wpAny _ _ (field (.ref z) 3 >>= _) _ _ s))
 refine wc (wP Zz rL (x:=.ref TI) rL (wc (yh Zi rL (?_:wpAny _ _ (Builtin.SmallTypes.ownedTupleIsFree (.ref z) >>= _) _ _ s))))
 refine wc ?_;unfold Builtin.SmallTypes.ownedTupleIsFree
 refine wc (wP Zz rL (x:=.none) rL (wj ?_))
 simp only[if_true]
 refine wc (ul (wc (wP Zz rfl (x:=.ref TO) rfl (wc (yo Zz (by simp) λg1 Zz1 m1=>?_)))))
 replace Zz1:IsZip g1 z TI TO .ellipsis:=Zz1
 refine wc ?_;simp only[Wp,WD,WE,WO]
 refine wc (wc (uC (?_:wpAny _ _ (Builtin.SmallTypes.nextOf (.ref j1) >>= _) _ _ _)))
 cases ex:xs[i]? with
 |none =>
  refine wc (zaG hh (Z1.extBut m1.extBut D.c) (k1.extBut m1.extBut (vJ k1 Zz)) ex λg2 e m2 ⟨oe,e1,e2⟩=>?_)
  have Zz2:IsZip g2 z TI TO .ellipsis:=m2 _ _ D.c.symm Zz1
  have ne:e≠z:=λr=>by subst r;rw[Zz2]at e1;cases e1;simp at e2
  exact yo Zz2 (by simp) λg3 _ m3=>fin g3 e (λc o c1 _ c3 _ r=>m3.extBut _ _ c1 (m2 _ _ c3 (m1.extBut _ _ c1 r))) ⟨oe,m3.extBut _ _ ne e1,e2⟩
 |some x =>
  have ey:ys[i]?=none:=by
   rcases en with r | r
   ·rw[ex]at r;cases r
   ·exact r
  refine wc (Ql (Z1.extBut m1.extBut D.c) (k1.extBut m1.extBut (vJ k1 Zz)) ex λg2 Z12 m2=>wj ?_)
  have Zo2:IsPair g2 TO a b:=m2.extBut _ _ D.k (m1.extBut _ _ D.b Zo)
  refine wc (yh Zo2 rL (wc (Wu Zo2 λg3 Zo3 m3=>wc (uW (wj ?_)))))
  refine wc (wc (uC (?_:wpAny _ _ (Builtin.SmallTypes.nextOf (.ref j2) >>= _) _ _ _)))
  refine wc (zaG hh (((Z2.extBut m1.extBut D.d).extBut m2.extBut D.m.symm).extBut m3.extBut D.l.symm) (((k2.extBut m1.extBut (vJ k2 Zz)).extBut m2.extBut (JF k2 Z1)).extBut m3.extBut n2) ey λg4 e m4 ⟨oe,e1,e2⟩=>?_)
  have Zz4:IsZip g4 z TI TO .ellipsis:=m4 _ _ D.d.symm (m3.extBut _ _ D.b.symm (m2.extBut _ _ D.c.symm Zz1))
  have ne:e≠z:=λr=>by subst r;rw[Zz4]at e1;cases e1;simp at e2
  exact yo Zz4 (by simp) λg5 _ m5=>fin g5 e (λc o c1 c2 c3 c4 r=>m5.extBut _ _ c1 (m4 _ _ c4 (m3.extBut _ _ c2 (m2.extBut _ _ c3 (m1.extBut _ _ c1 r))))) ⟨oe,m5.extBut _ _ ne e1,e2⟩
end
end
def zc2 (K:Fg) (t1 t2:Addr):It :=
 ⟨λi H=>∃xs ys x y,SqL K H t1 xs/\SqL K H t2 ys/\xs[i]?=some x/\ys[i]?=some y,
  λi H v H'=>∃T x y,v=.ref T/\H T=none/\H'=upd H T (.tup [x,y])/\(∀xs,SqL K H t1 xs->xs[i]?=some x)/\∀ys,SqL K H t2 ys->ys[i]?=some y,
  λi H=>∃xs ys,SqL K H t1 xs/\SqL K H t2 ys/\(xs.length<=i\/ys.length<=i)⟩
def zc0 {P:Program}{w:World}{K:Fg}{elts:List Expr}{kc:Nat}{tp:Pos}(z TI TO j1 j2 t1 t2:Addr) (D:ZNe z TI TO j1 j2) (n1:t1≠TO) (n2:t2≠TO) :
  zal P w K (.Tuple elts kc tp) (zc2 K t1 t2) [z,TI,TO,j1,j2] z (λi h=>ZTL z TI TO j1 j2 t1 t2 .none i i h) where
 mem:=by simp
 obj:=λi h st b hb=>by
  obtain⟨Zz,Zi,⟨u,v,Zo⟩,⟨o1,e1,_,d1⟩,⟨o2,e2,_,d2⟩⟩:=st
  simp only[ww,wO,or_false]at hb
  rcases hb with rfl | rfl | rfl | rfl | rfl
  ·exact⟨_,Zz,λ_ r=>by cases r⟩
  ·exact⟨_,Zi,λ_ r=>by cases r⟩
  ·exact⟨_,Zo,λ_ r=>by cases r⟩
  ·exact⟨_,e1,λ_ r=>by rw[d1]at r;cases r⟩
  ·exact⟨_,e2,λ_ r=>by rw[d2]at r;cases r⟩
 keep:=λi h h' st k=>by
  obtain⟨Zz,Zi,⟨u,v,Zo⟩,Z1,Z2⟩:=st
  exact⟨k z (by simp) _ Zz,k TI (by simp) _ Zi,⟨u,v,k TO (by simp) _ Zo⟩,Z1.at λo e=>k j1 (by simp) o e,Z2.at λo e=>k j2 (by simp) o e⟩
 item:=by
  intro X hP hw hK hc i pz s σ H E I hf st hg
  subst hP hw hK
  obtain⟨xs,ys,x,y,h1,h2,ex,ey⟩:=hg
  obtain⟨us,r1,p1',_⟩:=I.list h1
  have p1:=p1'.isList
  obtain⟨vs,r2,p2',_⟩:=I.list h2
  have p2:=p2'.isList
  obtain⟨ux,eu,rx⟩:=r1.get ex
  obtain⟨uy,ev,ry⟩:=r2.get ey
  refine zgD D st (xs:=us.toArray) (ys:=vs.toArray) p1 p2 n1 n2 (x:=ux) (y:=uy) ↥eu ↥ev λh' st' pr sz kk=>⟨_,rfl,?_⟩
  obtain⟨Zz,Zi,⟨ua,ub,Zo⟩,Z1,Z2⟩:=st'
  refine WR Zz λh2' Zz' sb=>?_
  have hTz:s.heap.objs.size≠z:=uq (wx st.z)
  have kk2:∀c o,c≠z->c≠TO->c≠j1->c≠j2->s.heap.get? c=some o->h2'.get? c=some o:=λc o c1 c2 c3 c4 e=>(sb.2 c c1).trans (kk c o c1 c2 c3 c4 e)
  have prT:h2'.get? s.heap.objs.size=some { cls:=.type "tuple",data:=.seq #[ux,uy] }:=(sb.2 _ hTz).trans pr
  have hT:H s.heap.objs.size=none:=I.hok.fresh (wo _)
  have neC:∀b,b∉[z,TO,j1,j2]->b≠z/\b≠TO/\b≠j1/\b≠j2:=λb hb=>↥hb
  have trk:∀b u,H b=some u->b≠z/\b≠TO/\b≠j1/\b≠j2:=λb u e=>by
   refine⟨?_,?_,?_,?_⟩ <;> rintro rfl
   ·rw[(hf b (by simp)).1]at e;cases e
   ·rw[(hf b (by simp)).1]at e;cases e
   ·rw[(hf b (by simp)).1]at e;cases e
   ·rw[(hf b (by simp)).1]at e;cases e
  have ltT:∀b o,s.heap.get? b=some o->b≠s.heap.objs.size:=λb o e=>wN (wx e)
  have u:Un (frs X.stack) [z,TO,j1,j2] H (upd H s.heap.objs.size (.tup [x,y])) s.heap h2' :=
   ⟨λb o e n _ hb=>by obtain⟨c1,c2,c3,c4⟩:=neC b hb;exact kk2 b o c1 c2 c3 c4 e,λb o e n _ hb=>by obtain⟨c1,c2,c3,c4⟩:=neC b hb;exact⟨o.slots,kk2 b o c1 c2 c3 c4 e⟩,
    λb o e n hb=>by rw[zF (ltT b o e)];exact n,λb o e hb=>by obtain⟨c1,c2,c3,c4⟩:=neC b hb;exact⟨o,kk2 b o c1 c2 c3 c4 e⟩,
    λb ws e=>by rw[zF (zG e hT)];exact e,λb o ws e=>by rw[zF (zG e hT)];exact e,λb ps e=>⟨#[],by rw[zF (zG e hT),e];simp⟩⟩
  have hok:HOk X.prog X.w (upd H s.heap.objs.size (.tup [x,y])) h2':=λb ob e=>by
   by_cases hb:b=s.heap.objs.size
   ·subst hb
    rw[zg]at e;cases e
    exact⟨⟨zL2,_,prT,rL⟩,[ux,uy],.cons rx (.cons ry .nil),_,prT,rL,0,rL⟩
   ·rw[zF hb]at e
    refine(I.hok b ob e).stay (λc v hc' qc=>?_) (λc q=>by rw[zF (zG q hT)];exact q) λc ws q=>by rw[zF (zG q hT)];exact q
    have:∃o,H c=some o:=by
     rcases hc' with rfl | hc'
     ·exact⟨_,e⟩
     ·exact⟨_,hc'⟩
    obtain⟨o,ho⟩:=this
    obtain⟨c1,c2,c3,c4⟩:=trk c o ho
    exact kk2 c v c1 c2 c3 c4 qc
  refine⟨.ref s.heap.objs.size,upd H s.heap.objs.size (.tup [x,y]),?_,rfl,⟨_,x,y,rfl,hT,rfl,λxs' h=>by rw[I.list_inj h h1];exact ex,λys' h=>by rw[I.list_inj h h2];exact ey⟩,
   ⟨Zz',(sb.2 _ D.a).trans Zi,⟨_,_,(sb.2 _ D.b).trans Zo⟩,Z1.at λo e=>(sb.2 _ D.c).trans e,Z2.at λo e=>(sb.2 _ D.d).trans e⟩,λb hb=>?_⟩
  ·refine I.call' (s':={ s with heap:=h2' }) (ch:=[z,TO,j1,j2]) rfl u hok I.bare λb hb=>?_
   obtain⟨_,z1,z2,z3,z4,z5⟩:=hf b (by simp only[ww,wO,or_false]at hb ⊢;rcases hb with r | r | r | r <;> simp[r])
   exact⟨z3,z1,z4,z5⟩
  ·obtain⟨o,e,_⟩:∃o,s.heap.get? b=some o/\True:=by
    obtain⟨Zz,Zi,⟨u,v,Zo⟩,⟨o1,e1,_,d1⟩,⟨o2,e2,_,d2⟩⟩:=st
    simp only[ww,wO,or_false]at hb
    rcases hb with rfl | rfl | rfl | rfl | rfl
    ·exact⟨_,Zz,trivial⟩
    ·exact⟨_,Zi,trivial⟩
    ·exact⟨_,Zo,trivial⟩
    ·exact⟨_,e1,trivial⟩
    ·exact⟨_,e2,trivial⟩
   rw[zF (ltT b o e)];exact(hf b hb).1
 done:=by
  intro X hP hw hK hc i pz s σ H E I hf st hg
  subst hP hw hK
  obtain⟨xs,ys,h1,h2,en⟩:=hg
  obtain⟨us,r1,p1',_⟩:=I.list h1
  have p1:=p1'.isList
  obtain⟨vs,r2,p2',_⟩:=I.list h2
  have p2:=p2'.isList
  have l1:=r1.length
  have l2:=r2.length
  refine zi6 (I.ok.hd hc) D st (xs:=us.toArray) (ys:=vs.toArray) p1 p2 n2 (by rcases en with r | r;exact .inl (by simp;lia);exact .inr (by simp;lia)) λh' kk=>⟨rfl,?_⟩
  have neC:∀b,b∉[z,TO,j1,j2]->b≠z/\b≠TO/\b≠j1/\b≠j2:=λb hb=>↥hb
  have u:Un (frs X.stack) [z,TO,j1,j2] H H s.heap h' :=
   ⟨λb o e n _ hb=>by obtain⟨c1,c2,c3,c4⟩:=neC b hb;exact kk b o c1 c2 c3 c4 e,λb o e n _ hb=>by obtain⟨c1,c2,c3,c4⟩:=neC b hb;exact⟨o.slots,kk b o c1 c2 c3 c4 e⟩,
    λb o e n hb=>n,λb o e hb=>by obtain⟨c1,c2,c3,c4⟩:=neC b hb;exact⟨o,kk b o c1 c2 c3 c4 e⟩,λb ws e=>e,λb o ws e=>e,λb ps e=>⟨#[],by rw[e];simp⟩⟩
  have hok:HOk X.prog X.w H h':=λb ob e=>by
   refine(I.hok b ob e).stay (λc v hc' qc=>?_) (λc q=>q) λc ws q=>q
   have:∃o,H c=some o:=by
    rcases hc' with rfl | hc'
    ·exact⟨_,e⟩
    ·exact⟨_,hc'⟩
   obtain⟨o,ho⟩:=this
   have nn:∀d∈[z,TI,TO,j1,j2],c≠d:=λd hd r=>by subst r;rw[(hf c hd).1]at ho;cases ho
   exact kk c v (nn _ (by simp)) (nn _ (by simp)) (nn _ (by simp)) (nn _ (by simp)) qc
  refine I.call' (s':={ s with heap:=h' }) (ch:=[z,TO,j1,j2]) rfl u hok I.bare λb hb=>?_
  obtain⟨_,z1,z2,z3,z4,z5⟩:=hf b (by simp only[ww,wO,or_false]at hb ⊢;rcases hb with r | r | r | r <;> simp[r])
  exact⟨z3,z1,z4,z5⟩
 self:=λ_ _ _ _ _ st h=>Wr st.z h
def zq1 (h:Heap) (t:Addr):Heap:=h.push { cls:=.type "list_iterator",data:=.fields #[.ref t,.int 0 0] }
def zai (h:Heap) (t:Addr):(zq1 h t).objs.size=h.objs.size+1:=yj ..
def zq5 (h:Heap) (t u:Addr):Heap:=(((zq1 (zq1 h t) u).push { cls:=.type "tuple",data:=.seq #[.ref h.objs.size,.ref (zq1 h t).objs.size] }).push { cls:=.type "tuple",data:=.seq #[.none,.none] }).push
 { cls:=.type "zip",data:=.fields #[.none,.bool false,.bool false,.ref (h.objs.size+2),.ref (h.objs.size+3)] }
def ze3 (t u:Addr) (xs ys:Array Value):Meets (Builtin.«zip.__new__» ⟨[.type "zip",.ref t,.ref u],[]⟩) (λ_ R s=>s.heap.IsList t xs/\s.heap.IsList u ys/\R (.ok (.ret (.ref (s.heap.objs.size+4)))) { s with heap:=zq5 s.heap t u }) :=
 .of_wp λprog w A R s h=>by
  obtain⟨hp,g,d,tk,os⟩:=s;obtain⟨k1,k2,h⟩:=h
  have hs:=sub_zip
  have K1:Heap.IsList (Shared.heap ⟨hp,g,d,tk,os⟩) t xs:=k1
  have K2:Heap.IsList (Shared.heap ⟨hp.push { cls:=.type "list_iterator",data:=.fields #[.ref t,.int 0 0] },g,d,tk,os⟩) u ys:=k2.push _
  wp_walk using uo K1,uo K2
  refine⟨_,rL,?_⟩
  unfold zq5 zq1 at h
  simp only[yj]at h ⊢
  exact h
section
variable {X:Cx}
def zju (K:Fg) (t:TA):TI:=λσ H R=>t σ H λvs H1=>∃t1 t2,vs=[.ref t1,.ref t2]/\(∃xs,SqL K H1 t1 xs)/\(∃ys,SqL K H1 t2 ys)/\R (zc2 K t1 t2) H1
theorem zgF {h:Heap}{t u:Addr}:IsZip (zq5 h t u) (h.objs.size+4) (h.objs.size+2) (h.objs.size+3) .none/\IsPair (zq5 h t u) (h.objs.size+2) (.ref h.objs.size) (.ref (h.objs.size+1))/\IsPair (zq5 h t u) (h.objs.size+3) .none .none ∧
  (zq5 h t u).IsListIter h.objs.size t 0/\(zq5 h t u).IsListIter (h.objs.size+1) u 0/\∀c o,h.get? c=some o->(zq5 h t u).get? c=some o:=by
 have z1:=zai h t
 have z2:(zq1 (zq1 h t) u).objs.size=h.objs.size+2:=by rw[zai,z1]
 have z3:((zq1 (zq1 h t) u).push { cls:=.type "tuple",data:=.seq #[.ref h.objs.size,.ref (zq1 h t).objs.size] }).objs.size=h.objs.size+3:=by rw[yj,z2]
 have z4:(((zq1 (zq1 h t) u).push { cls:=.type "tuple",data:=.seq #[.ref h.objs.size,.ref (zq1 h t).objs.size] }).push { cls:=.type "tuple",data:=.seq #[.none,.none] }).objs.size=h.objs.size+4:=by rw[yj,z3]
 unfold zq5
 refine⟨?_,?_,?_,?_,?_,λc o e=>?_⟩
 ·rw[<-z4];exact wu _ rfl
 ·refine we _ (we _ ?_)
  rw[<-z2,<-z1];exact wu _ rfl
 ·refine we _ ?_
  rw[<-z3];exact wu _ rfl
 ·exact⟨_,we _ (we _ (we _ (we _ (wu _ rL)))),rL,rL⟩
 ·refine⟨{ cls:=.type "list_iterator",data:=.fields #[.ref u,.int 0 0] },we _ (we _ (we _ ?_)),rL,rL⟩
  rw[<-z1];exact wu _ rfl
 ·exact we _ (we _ (we _ (we _ (we _ e))))
theorem zfP {a b:Expr}{ta:TA}{p pos tp:Pos}{elts:List Expr}{kc:Nat}(hg:Gl X "zip") (hm:X.mg "zip" = none) (ha:PA X [a,b] ta) (hs:starEach [a,b] X.env=[(false,eval a X.env),(false,eval b X.env)]:=by rfl) (hs2:starEach [b] X.env=[(false,eval b X.env)]:=by rfl) :
  PI X (.Tuple elts kc tp) (.Call (.Name "zip" p) [a,b] [] pos) (zju X.K ta):=by
 intro pz s σ H R I h
 refine Call_ (Zc I hg hm (by decide +kernel:bootBuiltins "zip" = some (.type "zip")) (yL (thn (ha pos pz s σ H _ I h) λus s1 ⟨vs,H1,I1,r1,q1⟩=>?_) (by rw[hs,hs2]) (by rw[hs2];rfl)))
 obtain⟨t1,t2,e,⟨xs,k1⟩,⟨ys,k2⟩,q⟩:=q1
 subst e
 obtain⟨u1,u2,rfl,ru1,ru2⟩:=zad r1
 cases(show u1=Value.ref t1 from ru1)
 cases(show u2=Value.ref t2 from ru2)
 obtain⟨as,ra,pa',_⟩:=I1.list k1
 have pa:=pa'.isList
 obtain⟨bs,rb,pb',_⟩:=I1.list k2
 have pb:=pb'.isList
 refine callType_new F.called_zip (by decide) (F.typeCall_zip_2 _ _) (F.newCall_zip_2 _ _) (λobj=>F.args_object_init_3 obj _ _) F.entry_zip_new (ze3 t1 t2 as.toArray bs.toArray) ⟨pa,pb,?_⟩
 obtain⟨g1,g2,g3,g4,g5,g6⟩:=zgF (h:=s1.heap) (t:=t1) (u:=t2)
 have l1:t1<s1.heap.objs.size:=by obtain⟨o,e,_⟩:=pa;exact wx e
 have l2:t2<s1.heap.objs.size:=by obtain⟨o,e,_⟩:=pb;exact wx e
 show _/\_
 refine⟨⟨_,g1,rL⟩,Wr g1 ⟨_,[s1.heap.objs.size+4,s1.heap.objs.size+2,s1.heap.objs.size+3,s1.heap.objs.size,s1.heap.objs.size+1],_,_,H1,rL,I1.kept (t':=s1.toks) g6,
  zc0 (s1.heap.objs.size+4) (s1.heap.objs.size+2) (s1.heap.objs.size+3) s1.heap.objs.size (s1.heap.objs.size+1) t1 t2 ?_ ?_ ?_,⟨g1,g2,⟨_,_,g3⟩,g4,g5⟩,λb hb=>?_,q⟩⟩
 ·constructor <;> (intro z;simp only[Nat.add_right_inj,Nat.add_eq_left,Nat.left_eq_add]at z;try lia)
 ·exact nne (wG l1 (yl _ _))
 ·exact nne (wG l2 (yl _ _))
 ·have hb':s1.heap.objs.size<=b:=by
   simp only[ww,wO,or_false]at hb
   rcases hb with rfl | rfl | rfl | rfl | rfl
   ·exact yl _ _
   ·exact yl _ _
   ·exact yl _ _
   ·exact wo _
   ·exact yl _ _
  exact I1.fpOk hb' (I1.hok.fresh hb')
end
def Ite (K:Fg) (l:Addr):It :=
 ⟨λi H=>∃xs x,SqL K H l xs/\xs[i]?=some x,
  λi H v H'=>∃T x,v=.ref T/\H T=none/\H'=upd H T (.tup [.int i,x])/\∀xs,SqL K H l xs->xs[i]?=some x,
  λi H=>∃xs,SqL K H l xs/\xs.length<=i⟩
def zcY {P:Program}{w:World}{K:Fg}{elts:List Expr}{kc:Nat}{tp:Pos}(e it l:Addr) (hne:e≠it) :
  zal P w K (.Tuple elts kc tp) (Ite K l) [e,it] e (λi h=>(∃old,IsEnum h e it (i:Int) old)/\h.IsListIter it l i) where
 mem:=by simp
 obj:=λi h st b hb=>by
  obtain⟨⟨old,Z⟩,o1,e1,_,d1⟩:=st
  simp only[ww,wO,or_false]at hb
  rcases hb with rfl | rfl
  ·exact⟨_,Z,λ_ r=>by cases r⟩
  ·exact⟨_,e1,λ_ r=>by rw[d1]at r;cases r⟩
 keep:=λi h h' st k=>by
  obtain⟨⟨old,Z⟩,Z1⟩:=st
  exact⟨⟨old,k e (by simp) _ Z⟩,Z1.at λo q=>k it (by simp) o q⟩
 item:=by
  intro X hP hw hK hc i pz s σ H E I hf st hg
  subst hP hw hK
  obtain⟨xs,x,h1,ex⟩:=hg
  obtain⟨us,r1,p1,_⟩:=I.list h1
  obtain⟨ux,eu,rx⟩:=r1.get ex
  obtain⟨⟨old,Z⟩,Z1⟩:=st
  refine wpAny_pyNext_enum_item Z Z1 p1.isList (x:=ux) ↥eu hne λh' Zo Zi pr sz kk=>⟨_,rfl,?_⟩
  refine wpAny_letOwnedTupleGo_enum (s:={ s with heap:=h',toks:=s.toks+1 }) Zo λh2' Zz' sb=>?_
  replace sb:Heap.SameBut e h' h2':=sb
  have hTz:s.heap.objs.size≠e:=uq (wx Z)
  have kk2:∀c o,c≠e->c≠it->s.heap.get? c=some o->h2'.get? c=some o:=λc o c1 c2 q=>(sb.2 c c1).trans (kk c o c1 c2 q)
  have prT:h2'.get? s.heap.objs.size=some { cls:=.type "tuple",data:=.seq #[.int i s.toks,ux] }:=(sb.2 _ hTz).trans pr
  have hT:H s.heap.objs.size=none:=I.hok.fresh (wo _)
  have neC:∀b,b∉[e,it]->b≠e/\b≠it:=λb hb=>↥hb
  have trk:∀b u,H b=some u->b≠e/\b≠it:=λb u q=>by
   refine⟨?_,?_⟩ <;> rintro rfl
   ·rw[(hf b (by simp)).1]at q;cases q
   ·rw[(hf b (by simp)).1]at q;cases q
  have ltT:∀b o,s.heap.get? b=some o->b≠s.heap.objs.size:=λb o q=>wN (wx q)
  have u:Un (frs X.stack) [e,it] H (upd H s.heap.objs.size (.tup [.int i,x])) s.heap h2' :=
   ⟨λb o q n _ hb=>by obtain⟨c1,c2⟩:=neC b hb;exact kk2 b o c1 c2 q,λb o q n _ hb=>by obtain⟨c1,c2⟩:=neC b hb;exact⟨o.slots,kk2 b o c1 c2 q⟩,
    λb o q n hb=>by rw[zF (ltT b o q)];exact n,λb o q hb=>by obtain⟨c1,c2⟩:=neC b hb;exact⟨o,kk2 b o c1 c2 q⟩,
    λb ws q=>by rw[zF (zG q hT)];exact q,λb o ws q=>by rw[zF (zG q hT)];exact q,λb ps q=>⟨#[],by rw[zF (zG q hT),q];simp⟩⟩
  have hok:HOk X.prog X.w (upd H s.heap.objs.size (.tup [.int i,x])) h2':=λb ob q=>by
   by_cases hb:b=s.heap.objs.size
   ·subst hb
    rw[zg]at q;cases q
    exact⟨⟨zL2,_,prT,rL⟩,[.int i s.toks,ux],.cons ⟨_,rL⟩ (.cons rx .nil),_,prT,rL,0,rL⟩
   ·rw[zF hb]at q
    refine(I.hok b ob q).stay (λc v hc' qc=>?_) (λc q=>by rw[zF (zG q hT)];exact q) λc ws q=>by rw[zF (zG q hT)];exact q
    have:∃o,H c=some o:=by
     rcases hc' with rfl | hc'
     ·exact⟨_,q⟩
     ·exact⟨_,hc'⟩
    obtain⟨o,ho⟩:=this
    obtain⟨c1,c2⟩:=trk c o ho
    exact kk2 c v c1 c2 qc
  refine⟨.ref s.heap.objs.size,upd H s.heap.objs.size (.tup [.int i,x]),?_,rfl,⟨_,x,rfl,hT,rfl,λxs' h=>by rw[I.list_inj h h1];exact ex⟩,
   ⟨⟨_,by rw[Int.natCast_add];exact Zz'⟩,Zi.at λo q=>(sb.2 _ hne.symm).trans q⟩,λb hb=>?_⟩
  ·refine I.call' (s':={ s with heap:=h2',toks:=s.toks+1 }) (ch:=[e,it]) rfl u hok I.bare λb hb=>?_
   obtain⟨_,z1,z2,z3,z4,z5⟩:=hf b hb
   exact⟨z3,z1,z4,z5⟩
  ·obtain⟨o,q⟩:∃o,s.heap.get? b=some o:=by
    obtain⟨o1,e1,_⟩:=Z1
    simp only[ww,wO,or_false]at hb
    rcases hb with rfl | rfl
    ·exact⟨_,Z⟩
    ·exact⟨_,e1⟩
   rw[zF (ltT b o q)];exact(hf b hb).1
 done:=by
  intro X hP hw hK hc i pz s σ H E I hf st hg
  subst hP hw hK
  obtain⟨xs,h1,en⟩:=hg
  obtain⟨us,r1,p1,_⟩:=I.list h1
  have l1:=r1.length
  obtain⟨⟨old,Z⟩,Z1⟩:=st
  obtain⟨f0,f1,f2,f3,f4,f5⟩:=hf it (by simp)
  exact wpAny_pyNext_enum_end (I.ok.hd hc) Z Z1 p1.isList (by simp;lia) λh' eb=>⟨rfl,I.turned (t':=s.toks) (λb o hb q=>eb b o hb q) f0 f1 f3 f4 f5⟩
 self:=λ_ _ _ _ _ st h=>by obtain⟨⟨old,Z⟩,_⟩:=st;exact wpAny_pyIter_enum Z h
def zjq (K:Fg) (t:TA):TI:=λσ H R=>t σ H λvs H1=>∃l xs,vs=[.ref l]/\H1 l=some (.lst xs)/\R (Ite K l) H1
def zbK {X:Cx}{a:Expr}{ta:TA}{p pos tp:Pos}{elts:List Expr}{kc:Nat}(hg:Gl X "enumerate") (hm:X.mg "enumerate" = none) (ha:PA X [a] ta) (hs:starEach [a] X.env=[(false,eval a X.env)]:=by rfl) :
  PI X (.Tuple elts kc tp) (.Call (.Name "enumerate" p) [a] [] pos) (zjq X.K ta):=by
 intro pz s σ H R I h
 refine Call_ (Zc I hg hm (by decide +kernel:bootBuiltins "enumerate" = some (.type "enumerate")) (yL (thn (ha pos pz s σ H _ I h) λus s1 ⟨vs,H1,I1,r1,q1⟩=>?_) (by rw[hs];rfl) (by rfl)))
 obtain⟨l,xs,e,hl,q⟩:=q1
 subst e
 obtain⟨u1,rfl,ru1⟩:=Xi r1
 cases(show u1=Value.ref l from ru1)
 obtain⟨z,its,n,rv,hol⟩:=(show xu X.prog X.w H1 s1.heap l (.lst xs)from I1.hok l _ hl)
 refine callType_new F.called_enumerate (by decide) (F.typeCall_enumerate_1 _) (F.newCall_enumerate_1 _) (λobj=>F.args_object_init_2 obj _) F.entry_enumerate_new (meets_enumerate_new l its.toArray n) ⟨hol,?_⟩
 have z1:(s1.heap.push { cls:=.type "list_iterator",data:=.fields #[.ref l,.int 0 0] }).objs.size=s1.heap.objs.size+1:=yj ..
 have g1:IsEnum ((s1.heap.push { cls:=.type "list_iterator",data:=.fields #[.ref l,.int 0 0] }).push { cls:=.type "enumerate",data:=.fields #[.none,.bool false,.ref s1.heap.objs.size,rawInt 0,.none,.none] }) (s1.heap.push { cls:=.type "list_iterator",data:=.fields #[.ref l,.int 0 0] }).objs.size s1.heap.objs.size 0 .none:=wu _ rfl
 have g2:((s1.heap.push { cls:=.type "list_iterator",data:=.fields #[.ref l,.int 0 0] }).push { cls:=.type "enumerate",data:=.fields #[.none,.bool false,.ref s1.heap.objs.size,rawInt 0,.none,.none] }).IsListIter s1.heap.objs.size l 0:=⟨_,we _ (wu _ rfl),rfl,rfl⟩
 have g3:∀c o,s1.heap.get? c=some o->((s1.heap.push { cls:=.type "list_iterator",data:=.fields #[.ref l,.int 0 0] }).push { cls:=.type "enumerate",data:=.fields #[.none,.bool false,.ref s1.heap.objs.size,rawInt 0,.none,.none] }).get? c=some o:=λc o e=>we _ (we _ e)
 rw[z1]at g1 ⊢
 show _/\_
 refine⟨⟨_,g1,rL⟩,wpAny_pyIter_enum g1 ⟨s1.heap.objs.size+1,[s1.heap.objs.size+1,s1.heap.objs.size],_,_,H1,rL,I1.kept (t':=s1.toks) g3,zcY (s1.heap.objs.size+1) s1.heap.objs.size l (Nat.succ_ne_self _),⟨⟨_,g1⟩,g2⟩,λb hb=>?_,q⟩⟩
 have hb':s1.heap.objs.size<=b:=by
  simp only[ww,wO,or_false]at hb
  rcases hb with rfl | rfl
  ·exact yl _ _
  ·exact wo _
 exact I1.fpOk hb' (I1.hok.fresh hb')
structure zgH (J:It) (H:Hp) (N:Nat) (xs ys:List V):Prop where
 go:∀i H',i<N->zj H H'->J.go i H'
 stop:∀H',zj H H'->J.stop N H'
 yld:∀i v H2 H3,zj H H2->J.yld i H2 v H3->∃T x y,v=.ref T/\H2 T=none/\H3=upd H2 T (.tup [x,y])/\xs[i]?=some x/\ys[i]?=some y
def sel (p:Nat->Bool) (N:Nat):List Nat:=(List.range N).filter p
def Zt (p:Nat->Bool) (N:Nat):sel p (N+1)=sel p N++(if p N=true then [N]else []):=by
 unfold sel
 rw[List.range_succ,yN]
 by_cases h:p N=true <;> simp[h]
section
variable {J:It}{D:Addr}{n N:Nat}{js:List Nat}{σ:St}{g:TG}{tt:TT}{te:TE}{Z:Hp->Prop}{H:Hp}{xs ys:List V}
theorem zco (p:Nat->Bool) (R:Nat->V->Hp->Prop) (hR:∀i v H H',zU H H'->R i v H->R i v H') (hD:H D=none) (hJ:zgH J H N xs ys) (hl:N<sizeLine)
  (hs:∀(i:Nat) (T:Addr) (x y:V) (zs:St) (H2:Hp) (A:VK) (B:Hp->Prop),xs[i]?=some x->ys[i]?=some y->zs.length=n->zj H H2->H2 T=some (.tup [x,y])->(p i=true->∀v H6,zj H2 H6->R i v H6->A v H6)->(p i=false->∀H6,zj H2 H6->B H6) →
   g (.ref T) (zs++qw σ js) H2 λσ4 H4=>σ4.drop n=qw σ js/\tt σ4 H4 λb H5=>if b=true then te σ4 H5 A else B H5)
  (k:∀us H',zj H H'->H' D=some (.lst us)->us.length=(sel p N).length->(∀(j i:Nat) (v:V),(sel p N)[j]?=some i->us[j]?=some v->R i v H')->Z H') :
  ∃W:Nat->Nat->Hp->List V->Prop,(∃m,W 0 m (upd H D (.lst [])) [])/\∀i m H2 ys,W i m H2 ys->H2 D=some (.lst ys)->(J.stop i H2/\Z H2) ∨
   (J.go i H2/\∀zs x H3,zs.length=n->J.yld i H2 x H3->g x (zs++qw σ js) H3 λσ4 H4=>σ4.drop n=qw σ js/\tt σ4 H4 λb H5=>if b=true then te σ4 H5 (λv H6=>H6 D=some (.lst ys)/\ys.length<sizeLine/\∃m',m'<m/\W (i+1) m' (upd H6 D (.lst (ys++[v]))) (ys++[v]))
    else H5 D=some (.lst ys)/\∃m',m'<m/\W (i+1) m' H5 ys):=by
 refine Za (Q:=λ_ H=>Z H) (N:=N) (λi H2 us=>zj H H2/\us.length=(sel p i).length/\∀(j q:Nat) (v:V),(sel p i)[j]?=some q->us[j]?=some v->R q v H2)
  ⟨zj.upd hD,rfl,λj q v e=>by simp[sel]at e⟩ (λi H2 us hi q=>hJ.go i H2 hi q.1) (λH2 us q=>hJ.stop H2 q.1) ?_ (λH2 us q e=>k us H2 q.1 e q.2.1 q.2.2)
 rintro i x zs H2 H3 us Nx hN hi hz hy ⟨s2,hul,huR⟩ hD2
 obtain⟨T,a,b,rfl,hT,rfl,e1,e2⟩:=hJ.yld i x H2 H3 s2 hy
 have hDT:D≠T:=λz=>by rw[z,hT]at hD2;cases hD2
 have s3:zj H2 (upd H2 T (.tup [a,b])):=zj.upd hT
 have hD3:upd H2 T (.tup [a,b]) D=some (.lst us):=s3 _ _ hD2
 have hsl:us.length<sizeLine:=by
  have h1:(sel p i).length<=i:=by
   have:=uI p (List.range i)
   rw[List.length_range]at this;exact this
  lia
 refine hs i T a b zs _ _ _ e1 e2 hz (s2.trans s3) zg (λhp v H6 s6 r6=>⟨s6 _ _ hD3,hsl,hN _ _ ⟨λc o e=>?_,?_,λj q u f1 f2=>?_⟩⟩) (λhp H6 s6=>⟨s6 _ _ hD3,hN _ _ ⟨λc o e=>s6 _ _ (s3 _ _ (s2 _ _ e)),?_,λj q u f1 f2=>?_⟩⟩)
 ·rw[zF (zG e hD)];exact s6 _ _ (s3 _ _ (s2 _ _ e))
 ·rw[Zt,if_pos hp];simp[hul]
 ·rw[Zt,if_pos hp]at f1
  have T6:zU H6 (upd H6 D (.lst (us++[v]))):=.upd (s6 _ _ hD3)
  by_cases hj:j<us.length
  ·rw[wD hj]at f2
   rw[wD ∅]at f1
   exact hR _ _ _ _ ((zU.of (s3.trans s6)).trans T6) (huR j q u f1 f2)
  ·rw[wB ∅]at f2
   rw[wB ∅]at f1
   have:j-us.length=0:=by
    rcases yD (j-us.length)with z | z
    ·exact z
    ·rw[wT (by simp;lia)]at f2;cases f2
   rw[this]at f2
   rw[show j-(sel p i).length=0 by lia]at f1
   simp at f1 f2
   subst f1;subst f2
   exact hR _ _ _ _ T6 r6
 ·rw[Zt,if_neg (by simp[hp])];simp[hul]
 ·rw[Zt,if_neg (by simp[hp])]at f1
  rw[yM]at f1
  exact hR _ _ _ _ (zU.of (s3.trans s6)) (huR j q u f1 f2)
end
def KIt (k:Bool) (h:Heap) (j t:Addr) (i:Nat):Prop:=match k with | true=>h.IsTupleIter j t i | false=>h.IsListIter j t i
def KSq (k:Bool) (h:Heap) (t:Addr) (xs:Array Value):Prop:=match k with | true=>h.IsTuple t xs | false=>h.IsList t xs
def SqK (k:Bool) (K:Fg) (H:Hp) (t:Addr) (xs:List V):Prop:=match k with | true=>SqT K H t xs | false=>SqL K H t xs
def Qd (k:Bool) (t:Addr):Obj:={ cls:=.type (match k with | true=>"tuple_iterator" |false=>"list_iterator"),data:=.fields #[.ref t,.int 0 0] }
def KIt.at {k:Bool}{h h':Heap}{j t:Addr}{i:Nat}(x:KIt k h j t i) (e:∀o,h.get? j=some o->h'.get? j=some o):KIt k h' j t i:=by
 cases k
 ·exact Heap.IsListIter.at x e
 ·exact Heap.IsTupleIter.at x e
def KIt.ob {k:Bool}{h:Heap}{j t:Addr}{i:Nat}(x:KIt k h j t i):∃o,h.get? j=some o/\∀v,o.data≠.cell v:=by
 cases k
 ·obtain⟨o,e,_,d⟩:=x;exact⟨o,e,λ_ r=>by rw[d]at r;cases r⟩
 ·obtain⟨o,e,_,d⟩:=x;exact⟨o,e,λ_ r=>by rw[d]at r;cases r⟩
def KSq.keep {k:Bool}{h h':Heap}{t:Addr}{xs:Array Value}(x:KSq k h t xs) (e:∀o,h.get? t=some o->h'.get? t=some o):KSq k h' t xs:=by
 cases k
 ·obtain⟨o,ho,r⟩:=x;exact⟨o,e _ ho,r⟩
 ·obtain⟨o,ho,r⟩:=x;exact⟨o,e _ ho,r⟩
def KSq.push {k:Bool}{h:Heap}{t:Addr}{xs:Array Value}{ob:Obj}(x:KSq k h t xs):KSq k (h.push ob) t xs:=x.keep λ_ e=>we _ e
def KSq.lt {k:Bool}{h:Heap}{t:Addr}{xs:Array Value}(x:KSq k h t xs):t<h.objs.size:=by
 cases k
 ·obtain⟨o,ho,r⟩:=x;exact wx ho
 ·obtain⟨o,ho,r⟩:=x;exact wx ho
def KSq.ne_z {k:Bool}{h:Heap}{f0:Value}{vs:Array Value}{t z TI TO:Addr}(x:KSq k h t vs) (hz:IsZip h z TI TO f0):t≠z:=by
 cases k
 ·exact vJ x hz
 ·exact zeU x hz
def KSq.ne_j {k k':Bool}{h:Heap}{vs:Array Value}{t j u:Addr}{n:Nat}(x:KSq k h t vs) (hj:KIt k' h j u n):t≠j:=by
 rintro rfl
 cases k <;> cases k' <;> (obtain⟨o,e1,e2,_⟩:=x;obtain⟨o',f1,f2,_⟩:=hj;rw[f1]at e1;cases e1;rw[f2]at e2;simp at e2)
def V3 {h:Heap}{a:Addr}{o o':Obj}(e:a=h.objs.size) (q:o=o') (f:o.isFreed=false:=by rfl):(h.push o).get? a=some o':=by subst e;subst q;exact wu _ f
def zbt {k:Bool}{h:Heap}{j t:Addr}(e:h.get? j=some (Qd k t)):KIt k h j t 0:=by
 cases k
 ·exact⟨_,e,rL,rL⟩
 ·exact⟨_,e,rL,rL⟩
section
variable {prog:Program}{w:World}{A:Around}{E:Value->Shared->Prop}{s:Shared}
theorem zaz {k:Bool}{j t:Addr}{i:Nat}{vs:Array Value}{x:Value}{Q:Value->Shared->Prop}(kj:KIt k s.heap j t i) (kt:KSq k s.heap t vs) (kx:vs[i]?=some x)
  (q:∀h',KIt k h' j t (i+1)->Heap.SameBut j s.heap h'->Q x { s with heap:=h' }):wpAny (model prog w) A (Builtin.SmallTypes.nextOf (.ref j)) Q E s:=by
 cases k
 ·exact Ql kj kt kx q
 ·exact zft kj kt kx q
theorem zgQ {k:Bool}{j t:Addr}{i:Nat}{vs:Array Value}{Q:Value->Shared->Prop}(hh:A.handled=none) (kj:KIt k s.heap j t i) (kt:KSq k s.heap t vs) (kx:vs[i]?=none)
  (q:∀h' e,Heap.ExtBut j s.heap h'->(∃o,h'.get? e=some o/\o.cls=.type "StopIteration")->E (.ref e) { s with heap:=h' }):wpAny (model prog w) A (Builtin.SmallTypes.nextOf (.ref j)) Q E s:=by
 cases k
 ·exact zaG hh kj kt kx q
 ·exact zh5 hh kj kt kx q
theorem zgP {k:Bool}{t:Addr}{vs:Array Value}{Q:Value->Shared->Prop}(kt:KSq k s.heap t vs) (q:Q (.ref s.heap.objs.size) { s with heap:=s.heap.push (Qd k t) }):wpAny (model prog w) A (pyIter (.ref t)) Q E s:=by
 cases k
 ·exact uo kt q
 ·exact wpAny_pyIter_tuple kt q
end
def XU {k:Bool}{X:Cx}{pz:List (Addr×Obj)}{σ:St}{H:Hp}{s:Shared}{a:Addr}{xs:List V}(I:Inv X pz σ H s) (h:SqK k X.K H a xs):∃its:List Value,zY xs its/\KSq k s.heap a its.toArray:=by
 cases k
 ·obtain⟨us,r,p,_⟩:=I.list h;exact⟨us,r,p.isList⟩
 ·obtain⟨us,r,p,_⟩:=I.tuple h;exact⟨us,r,p⟩
def zb6 {k:Bool}{X:Cx}{pz:List (Addr×Obj)}{σ:St}{H:Hp}{s:Shared}{a:Addr}{xs ys:List V}(I:Inv X pz σ H s) (h:SqK k X.K H a xs) (h':SqK k X.K H a ys):xs=ys:=by
 cases k
 ·exact I.list_inj h h'
 ·exact I.tuple_inj h h'
structure ZN2 (z TI TO j1 j2:Addr):Prop where
 z_TI:z≠TI
 z_TO:z≠TO
 z_j1:z≠j1
 z_j2:z≠j2
 TI_TO:TI≠TO
 TI_j1:TI≠j1
 TI_j2:TI≠j2
 TO_j1:TO≠j1
 TO_j2:TO≠j2
 j1_j2:j1≠j2
abbrev Xk (h:Heap) (T:Addr) (a1 a2:Value):Prop:=h.get? T=some { cls:=.type "tuple",data:=.seq #[a1,a2] }
section
variable {prog:Program}{w:World}{A:Around}{E:Value->Shared->Prop}{s:Shared}
theorem za6 {T:Addr}{a1 a2 x:Value}{k:Nat}{Q:Unit->Shared->Prop}(hT:Xk s.heap T a1 a2)
  (h:∀h',h'.get? T=some { cls:=.type "tuple",data:=.seq ((#[a1,a2]:Array Value).setIfInBounds k x) }->Heap.SameBut T s.heap h'->Q () { s with heap:=h' }) :
  wpAny (model prog w) A (updateSeq T (·.setIfInBounds k x)) Q E s:=by
 refine wpAny_updateSeq hT rL (h _ ?_ (Heap.SameBut.update ..))
 rw[yy _ hT rfl]
 simp[Obj.mapSeq]
structure ZS2 (z TI TO j1 j2 t1 t2:Addr) (k1 k2:Bool) (f0:Value) (i:Nat) (h:Heap):Prop where
 z:IsZip h z TI TO f0
 ti:Xk h TI (.ref j1) (.ref j2)
 to:∃a1 a2,Xk h TO a1 a2
 i1:KIt k1 h j1 t1 i
 i2:KIt k2 h j2 t2 i
variable {z TI TO j1 j2 t1 t2:Addr}{k1 k2:Bool}{i:Nat}{xs1 xs2:Array Value}
theorem zgC {x1 x2:Value}{Q:Option Value->Shared->Prop}(D:ZN2 z TI TO j1 j2) (Z:ZS2 z TI TO j1 j2 t1 t2 k1 k2 .none i s.heap) (q1:KSq k1 s.heap t1 xs1) (q2:KSq k2 s.heap t2 xs2) (n1:t1≠TO) (n2:t2≠TO) (ex1:xs1[i]?=some x1) (ex2:xs2[i]?=some x2)
  (q:∀h',ZS2 z TI TO j1 j2 t1 t2 k1 k2 (rawInt s.heap.objs.size) (i+1) h'->Xk h' s.heap.objs.size x1 x2->h'.objs.size=s.heap.objs.size+1 →
   (∀c o,c≠z->c≠TO->c≠j1->c≠j2->s.heap.get? c=some o->h'.get? c=some o)->Q (some (.ref s.heap.objs.size)) { s with heap:=h' }):wpAny (model prog w) A (pyNext (.ref z)) Q E s:=by
 obtain⟨Zz,Zi,⟨a1,a2,Zo⟩,Z1,Z2⟩:=Z
 have ty:s.TypeIs (.ref z) "zip":=⟨_,Zz,rfl⟩
 unfold pyNext
 refine wc (Wx (wpAny_callSpecial?_slot (name:=Str.ofString "__next__") ty F.slot_zip_next (yt F.slot_zip_next ty F.entry_zip_next ?_ (F.args_zip_next_1 _))))
 show wpAny _ _ (field (.ref z) 2 >>= _) _ _ s
 refine wc (wP Zz rL (x:=.bool false) rL (?_:wpAny _ _ (field (.ref z) 3 >>= _) _ _ s))
 refine wc (wP Zz rL (x:=.ref TI) rL (wc (yh Zi rL (?_:wpAny _ _ (Builtin.SmallTypes.ownedTupleIsFree (.ref z) >>= _) _ _ s))))
 refine wc ?_;unfold Builtin.SmallTypes.ownedTupleIsFree
 refine wc (wP Zz rL (x:=.none) rL (wj ?_))
 simp only[if_true]
 refine wc (ul (wc (wP Zz rfl (x:=.ref TO) rfl (wc (yo Zz (by simp) λg1 Zz1 m1=>?_)))))
 replace Zz1:IsZip g1 z TI TO .ellipsis:=Zz1
 refine wc ?_;simp only[Wp,WD,WE,WO]
 refine wc (wc (uC (?_:wpAny _ _ (Builtin.SmallTypes.nextOf (.ref j1) >>= _) _ _ _)))
 refine wc (zaz (Z1.at λo e=>(m1.extBut _ _ D.z_j1.symm e)) (q1.keep λo e=>(m1.extBut _ _ (q1.ne_z Zz) e)) ex1 λg2 Y1 m2=>wj ?_)
 have Zo2:Xk g2 TO a1 a2:=m2.extBut _ _ D.TO_j1 (m1.extBut _ _ D.z_TO.symm Zo)
 refine wc (yh Zo2 rL (wc (za6 Zo2 λg3 Zo3 m3=>wc (uW (wj ?_)))))
 replace Zo3:Xk g3 TO x1 a2:=Zo3
 refine wc (wc (uC (?_:wpAny _ _ (Builtin.SmallTypes.nextOf (.ref j2) >>= _) _ _ _)))
 refine wc (zaz (Z2.at λo e=>(m3.extBut _ _ D.TO_j2.symm (m2.extBut _ _ D.j1_j2.symm (m1.extBut _ _ D.z_j2.symm e)))) (q2.keep λo e=>(m3.extBut _ _ n2 (m2.extBut _ _ (q2.ne_j Z1) (m1.extBut _ _ (q2.ne_z Zz) e)))) ex2 λg4 Y2 m4=>wj ?_)
 have Zo4:Xk g4 TO x1 a2:=m4.extBut _ _ D.TO_j2 Zo3
 refine wc (yh Zo4 rL (wc (za6 Zo4 λg5 Zo5 m5=>wc (uW (wj (wj ?_))))))
 replace Zo5:Xk g5 TO x1 x2:=Zo5
 refine wc (yh Zo5 rL (wc (Yk ?_)))
 have sz:g5.objs.size=s.heap.objs.size:=by rw[m5.1,m4.1,m3.1,m2.1,m1.1]
 have ZzL:IsZip g5 z TI TO .ellipsis:=(m5.extBut _ _ D.z_TO (m4.extBut _ _ D.z_j2 (m3.extBut _ _ D.z_TO (m2.extBut _ _ D.z_j1 Zz1))))
 have kp:∀c o,c≠z->c≠TO->c≠j1->c≠j2->s.heap.get? c=some o->g5.get? c=some o:=λc o c_z c_TO c_j1 c_j2 e=>(m5.extBut _ _ c_TO (m4.extBut _ _ c_j2 (m3.extBut _ _ c_TO (m2.extBut _ _ c_j1 (m1.extBut _ _ c_z e)))))
 have W1:KIt k1 g5 j1 t1 (i+1):=Y1.at λo e=>(m5.extBut _ _ D.TO_j1.symm (m4.extBut _ _ D.j1_j2 (m3.extBut _ _ D.TO_j1.symm e)))
 have W2:KIt k2 g5 j2 t2 (i+1):=Y2.at λo e=>(m5.extBut _ _ D.TO_j2.symm e)
 have zlt:g5.objs.size≠z:=uq (wx ZzL)
 show wpAny _ _ (Builtin.SmallTypes.ownedTupleHandOut (.ref z) (.ref g5.objs.size) >>= _) _ _ _
 refine wc ?_;unfold Builtin.SmallTypes.ownedTupleHandOut
 refine wc (yo (we _ ZzL) (by simp) λh7 Zz7 p7=>?_)
 replace Zz7:IsZip h7 z TI TO (rawInt g5.objs.size):=Zz7
 refine yo Zz7 (by simp) λh8 Zz8 p8=>?_
 replace Zz8:IsZip h8 z TI TO (rawInt g5.objs.size):=Zz8
 have up:∀c o,c≠z->g5.get? c=some o->h8.get? c=some o:=λc o c1 e=>p8.extBut _ _ c1 (p7.extBut _ _ c1 (we _ e))
 have T8:Xk h8 g5.objs.size x1 x2:=p8.extBut _ _ zlt (p7.extBut _ _ zlt (wu _ rfl))
 have s8:h8.objs.size=g5.objs.size+1:=by rw[p8.1,p7.1,yj]
 refine wj ⟨_,rL,wj ?_⟩
 rw[sz]at Zz8 T8 s8
 show Q (some (.ref g5.objs.size)) _
 rw[sz]
 exact q h8 ⟨Zz8,up _ _ D.z_TI.symm (kp _ _ D.z_TI.symm D.TI_TO D.TI_j1 D.TI_j2 Zi),⟨_,_,up _ _ D.z_TO.symm Zo5⟩,W1.at λo e=>up _ o D.z_j1.symm e,W2.at λo e=>up _ o D.z_j2.symm e⟩ T8 s8 λc o c_z c_TO c_j1 c_j2 e=>up c o c_z (kp c o c_z c_TO c_j1 c_j2 e)
theorem zi5 {Q:Option Value->Shared->Prop}(hh:A.handled=none) (D:ZN2 z TI TO j1 j2) (Z:ZS2 z TI TO j1 j2 t1 t2 k1 k2 .none i s.heap) (q1:KSq k1 s.heap t1 xs1) (q2:KSq k2 s.heap t2 xs2) (n1:t1≠TO) (n2:t2≠TO) (en:xs1[i]?=none\/xs2[i]?=none)
  (q:∀h',(∀c o,c≠z->c≠TO->c≠j1->c≠j2->s.heap.get? c=some o->h'.get? c=some o)->Q none { s with heap:=h' }):wpAny (model prog w) A (pyNext (.ref z)) Q E s:=by
 obtain⟨Zz,Zi,⟨a1,a2,Zo⟩,Z1,Z2⟩:=Z
 have ty:s.TypeIs (.ref z) "zip":=⟨_,Zz,rfl⟩
 have fin:∀(g':Heap) (e:Addr),(∀c o,c≠z->c≠TO->c≠j1->c≠j2->s.heap.get? c=some o->g'.get? c=some o)->(∃o,g'.get? e=some o/\o.cls=.type "StopIteration") →
   wpAny (model prog w) A (do if <-isInstance (.ref e) (.type "StopIteration")then pure none else throw (.ref e):Sem (Option Value)) Q E { s with heap:=g' }:=λg' e kk ⟨o,ho,hc⟩ =>
  wc (wpAny_isInstance (T:="StopIteration") (b:=true) ⟨o,ho,hc⟩ isSubtype_stop (wj (q g' kk)))
 unfold pyNext
 refine wc (Wx (wpAny_callSpecial?_slot (name:=Str.ofString "__next__") ty F.slot_zip_next (yt F.slot_zip_next ty F.entry_zip_next ?_ (F.args_zip_next_1 _))))
 show wpAny _ _ (field (.ref z) 2 >>= _) _ _ s
 refine wc (wP Zz rL (x:=.bool false) rL (?_:wpAny _ _ (field (.ref z) 3 >>= _) _ _ s))
 refine wc (wP Zz rL (x:=.ref TI) rL (wc (yh Zi rL (?_:wpAny _ _ (Builtin.SmallTypes.ownedTupleIsFree (.ref z) >>= _) _ _ s))))
 refine wc ?_;unfold Builtin.SmallTypes.ownedTupleIsFree
 refine wc (wP Zz rL (x:=.none) rL (wj ?_))
 simp only[if_true]
 refine wc (ul (wc (wP Zz rfl (x:=.ref TO) rfl (wc (yo Zz (by simp) λg1 Zz1 m1=>?_)))))
 replace Zz1:IsZip g1 z TI TO .ellipsis:=Zz1
 refine wc ?_;simp only[Wp,WD,WE,WO]
 refine wc (wc (uC (?_:wpAny _ _ (Builtin.SmallTypes.nextOf (.ref j1) >>= _) _ _ _)))
 cases ex1:xs1[i]? with
 |none =>
  refine wc (zgQ hh (Z1.at λo e=>(m1.extBut _ _ D.z_j1.symm e)) (q1.keep λo e=>(m1.extBut _ _ (q1.ne_z Zz) e)) ex1 λg2 e m2 ⟨oe,e1,e2⟩=>?_)
  have ZzE:IsZip g2 z TI TO .ellipsis:=m2 _ _ D.z_j1 Zz1
  have nz:e≠z:=λr=>by subst r;rw[ZzE]at e1;cases e1;simp at e2
  exact yo ZzE (by simp) λgE _ mE=>fin gE e (λc o c_z c_TO c_j1 c_j2 r=>mE.extBut _ _ c_z (m2 _ _ c_j1 (m1.extBut _ _ c_z r))) ⟨oe,mE.extBut _ _ nz e1,e2⟩
 |some x1 =>
  refine wc (zaz (Z1.at λo e=>(m1.extBut _ _ D.z_j1.symm e)) (q1.keep λo e=>(m1.extBut _ _ (q1.ne_z Zz) e)) ex1 λg2 Y1 m2=>wj ?_)
  have Zo2:Xk g2 TO a1 a2:=m2.extBut _ _ D.TO_j1 (m1.extBut _ _ D.z_TO.symm Zo)
  refine wc (yh Zo2 rL (wc (za6 Zo2 λg3 Zo3 m3=>wc (uW (wj ?_)))))
  replace Zo3:Xk g3 TO x1 a2:=Zo3
  refine wc (wc (uC (?_:wpAny _ _ (Builtin.SmallTypes.nextOf (.ref j2) >>= _) _ _ _)))
  have ex2:xs2[i]?=none:=by
   rcases en with r | r
   ·rw[ex1]at r;cases r
   ·exact r
  refine wc (zgQ hh (Z2.at λo e=>(m3.extBut _ _ D.TO_j2.symm (m2.extBut _ _ D.j1_j2.symm (m1.extBut _ _ D.z_j2.symm e)))) (q2.keep λo e=>(m3.extBut _ _ n2 (m2.extBut _ _ (q2.ne_j Z1) (m1.extBut _ _ (q2.ne_z Zz) e)))) ex2 λg4 e m4 ⟨oe,e1,e2⟩=>?_)
  have ZzE:IsZip g4 z TI TO .ellipsis:=m4 _ _ D.z_j2 (m3.extBut _ _ D.z_TO (m2.extBut _ _ D.z_j1 Zz1))
  have nz:e≠z:=λr=>by subst r;rw[ZzE]at e1;cases e1;simp at e2
  exact yo ZzE (by simp) λgE _ mE=>fin gE e (λc o c_z c_TO c_j1 c_j2 r=>mE.extBut _ _ c_z (m4 _ _ c_j2 (m3.extBut _ _ c_TO (m2.extBut _ _ c_j1 (m1.extBut _ _ c_z r))))) ⟨oe,mE.extBut _ _ nz e1,e2⟩
end
def ze9 (k1 k2:Bool) (K:Fg) (t1 t2:Addr):It :=
 ⟨λi H=>∃(xs1:List V) (xs2:List V) (x1:V) (x2:V),SqK k1 K H t1 xs1/\SqK k2 K H t2 xs2/\xs1[i]?=some x1/\xs2[i]?=some x2,
  λi H v H'=>∃(T:Addr) (x1 x2:V),v=.ref T/\H T=none/\H'=upd H T (.tup [x1,x2])/\(∀xs,SqK k1 K H t1 xs->xs[i]?=some x1)/\(∀xs,SqK k2 K H t2 xs->xs[i]?=some x2),
  λi H=>∃(xs1:List V) (xs2:List V),SqK k1 K H t1 xs1/\SqK k2 K H t2 xs2/\(xs1.length<=i\/xs2.length<=i)⟩
def zgB {P:Program}{w:World}{K:Fg}{elts:List Expr}{kc:Nat}{tp:Pos}(k1 k2:Bool) (z TI TO j1 j2 t1 t2:Addr) (D:ZN2 z TI TO j1 j2) (n1:t1≠TO) (n2:t2≠TO) :
  zal P w K (.Tuple elts kc tp) (ze9 k1 k2 K t1 t2) [z,TI,TO,j1,j2] z (λi h=>ZS2 z TI TO j1 j2 t1 t2 k1 k2 .none i h) where
 mem:=by simp
 obj:=λi h st b hb=>by
  obtain⟨Zz,Zi,⟨a1,a2,Zo⟩,Z1,Z2⟩:=st
  simp only[ww,wO,or_false]at hb
  rcases hb with rfl | rfl | rfl | rfl | rfl
  ·exact⟨_,Zz,λ_ r=>by cases r⟩
  ·exact⟨_,Zi,λ_ r=>by cases r⟩
  ·exact⟨_,Zo,λ_ r=>by cases r⟩
  ·exact Z1.ob
  ·exact Z2.ob
 keep:=λi h h' st k=>by
  obtain⟨Zz,Zi,⟨a1,a2,Zo⟩,Z1,Z2⟩:=st
  exact⟨k z (by simp) _ Zz,k TI (by simp) _ Zi,⟨a1,a2,k TO (by simp) _ Zo⟩,Z1.at λo e=>k j1 (by simp) o e,Z2.at λo e=>k j2 (by simp) o e⟩
 item:=by
  intro X hP hw hK hc i pz s σ H E I hf st hg
  subst hP hw hK
  obtain⟨xs1,xs2,x1,x2,h1,h2,ex1,ex2⟩:=hg
  obtain⟨us1,r1,p1⟩:=XU I h1
  obtain⟨us2,r2,p2⟩:=XU I h2
  obtain⟨u1,eu1,rx1⟩:=r1.get ex1
  obtain⟨u2,eu2,rx2⟩:=r2.get ex2
  refine zgC D st (xs1:=us1.toArray) (xs2:=us2.toArray) p1 p2 n1 n2 ↥eu1 ↥eu2 λh' st' pr sz kk=>⟨_,rfl,?_⟩
  obtain⟨Zz,Zi,⟨a1,a2,Zo⟩,Z1,Z2⟩:=st'
  refine WR Zz λh2' Zz' sb=>?_
  have hTz:s.heap.objs.size≠z:=uq (wx st.z)
  have kk2:∀c o,c≠z->c≠TO->c≠j1->c≠j2->s.heap.get? c=some o->h2'.get? c=some o:=λc o c_z c_TO c_j1 c_j2 e=>(sb.2 c c_z).trans (kk c o c_z c_TO c_j1 c_j2 e)
  have prT:h2'.get? s.heap.objs.size=some { cls:=.type "tuple",data:=.seq #[u1,u2] }:=(sb.2 _ hTz).trans pr
  have hT:H s.heap.objs.size=none:=I.hok.fresh (wo _)
  have neC:∀b,b∉[z,TO,j1,j2]->b≠z/\b≠TO/\b≠j1/\b≠j2:=λb hb=>↥hb
  have trk:∀b u,H b=some u->b≠z/\b≠TO/\b≠j1/\b≠j2:=λb u e=>by
   refine⟨?_,?_,?_,?_⟩ <;> rintro rfl
   ·rw[(hf b (by simp)).1]at e;cases e
   ·rw[(hf b (by simp)).1]at e;cases e
   ·rw[(hf b (by simp)).1]at e;cases e
   ·rw[(hf b (by simp)).1]at e;cases e
  have ltT:∀b o,s.heap.get? b=some o->b≠s.heap.objs.size:=λb o e=>wN (wx e)
  have u:Un (frs X.stack) [z,TO,j1,j2] H (upd H s.heap.objs.size (.tup [x1,x2])) s.heap h2' :=
   ⟨λb o e n _ hb=>by obtain⟨d0,d1,d2,d3⟩:=neC b hb;exact kk2 b o d0 d1 d2 d3 e,λb o e n _ hb=>by obtain⟨d0,d1,d2,d3⟩:=neC b hb;exact⟨o.slots,kk2 b o d0 d1 d2 d3 e⟩,
    λb o e n hb=>by rw[zF (ltT b o e)];exact n,λb o e hb=>by obtain⟨d0,d1,d2,d3⟩:=neC b hb;exact⟨o,kk2 b o d0 d1 d2 d3 e⟩,
    λb ws e=>by rw[zF (zG e hT)];exact e,λb o ws e=>by rw[zF (zG e hT)];exact e,λb ps e=>⟨#[],by rw[zF (zG e hT),e];simp⟩⟩
  have hok:HOk X.prog X.w (upd H s.heap.objs.size (.tup [x1,x2])) h2':=λb ob e=>by
   by_cases hb:b=s.heap.objs.size
   ·subst hb
    rw[zg]at e;cases e
    exact⟨⟨zL2,_,prT,rL⟩,[u1,u2],(.cons rx1 (.cons rx2 .nil)),_,prT,rL,0,rL⟩
   ·rw[zF hb]at e
    refine(I.hok b ob e).stay (λc v hc' qc=>?_) (λc q=>by rw[zF (zG q hT)];exact q) λc ws q=>by rw[zF (zG q hT)];exact q
    have:∃o,H c=some o:=by
     rcases hc' with rfl | hc'
     ·exact⟨_,e⟩
     ·exact⟨_,hc'⟩
    obtain⟨o,ho⟩:=this
    obtain⟨d0,d1,d2,d3⟩:=trk c o ho
    exact kk2 c v d0 d1 d2 d3 qc
  refine⟨.ref s.heap.objs.size,upd H s.heap.objs.size (.tup [x1,x2]),?_,rfl,⟨_,x1,x2,rfl,hT,rfl,λxs' h=>by rw[zb6 I h h1];exact ex1,λxs' h=>by rw[zb6 I h h2];exact ex2⟩,
   ⟨Zz',(sb.2 _ D.z_TI.symm).trans Zi,⟨_,_,(sb.2 _ D.z_TO.symm).trans Zo⟩,Z1.at λo e=>(sb.2 _ D.z_j1.symm).trans e,Z2.at λo e=>(sb.2 _ D.z_j2.symm).trans e⟩,λb hb=>?_⟩
  ·refine I.call' (s':={ s with heap:=h2' }) (ch:=[z,TO,j1,j2]) rfl u hok I.bare λb hb=>?_
   obtain⟨_,y1,y2,y3,y4,y5⟩:=hf b (by simp only[ww,wO,or_false]at hb ⊢;rcases hb with r | r | r | r <;> simp[r])
   exact⟨y3,y1,y4,y5⟩
  ·obtain⟨o,e,_⟩:∃o,s.heap.get? b=some o/\True:=by
    obtain⟨Zz,Zi,⟨a1,a2,Zo⟩,Z1,Z2⟩:=st
    simp only[ww,wO,or_false]at hb
    rcases hb with rfl | rfl | rfl | rfl | rfl
    ·exact⟨_,Zz,trivial⟩
    ·exact⟨_,Zi,trivial⟩
    ·exact⟨_,Zo,trivial⟩
    ·obtain⟨o,e,_⟩:=Z1.ob;exact⟨o,e,trivial⟩
    ·obtain⟨o,e,_⟩:=Z2.ob;exact⟨o,e,trivial⟩
   rw[zF (ltT b o e)];exact(hf b hb).1
 done:=by
  intro X hP hw hK hc i pz s σ H E I hf st hg
  subst hP hw hK
  obtain⟨xs1,xs2,h1,h2,en⟩:=hg
  obtain⟨us1,r1,p1⟩:=XU I h1
  have l1:=r1.length
  obtain⟨us2,r2,p2⟩:=XU I h2
  have l2:=r2.length
  refine zi5 (I.ok.hd hc) D st (xs1:=us1.toArray) (xs2:=us2.toArray) p1 p2 n1 n2 (by rcases en with r | r;exact .inl (by simp;lia);exact .inr ((by simp;lia))) λh' kk=>⟨rfl,?_⟩
  have neC:∀b,b∉[z,TO,j1,j2]->b≠z/\b≠TO/\b≠j1/\b≠j2:=λb hb=>↥hb
  have u:Un (frs X.stack) [z,TO,j1,j2] H H s.heap h' :=
   ⟨λb o e n _ hb=>by obtain⟨d0,d1,d2,d3⟩:=neC b hb;exact kk b o d0 d1 d2 d3 e,λb o e n _ hb=>by obtain⟨d0,d1,d2,d3⟩:=neC b hb;exact⟨o.slots,kk b o d0 d1 d2 d3 e⟩,
    λb o e n hb=>n,λb o e hb=>by obtain⟨d0,d1,d2,d3⟩:=neC b hb;exact⟨o,kk b o d0 d1 d2 d3 e⟩,λb ws e=>e,λb o ws e=>e,λb ps e=>⟨#[],by rw[e];simp⟩⟩
  have hok:HOk X.prog X.w H h':=λb ob e=>by
   refine(I.hok b ob e).stay (λc v hc' qc=>?_) (λc q=>q) λc ws q=>q
   have:∃o,H c=some o:=by
    rcases hc' with rfl | hc'
    ·exact⟨_,e⟩
    ·exact⟨_,hc'⟩
   obtain⟨o,ho⟩:=this
   have nn:∀d∈[z,TI,TO,j1,j2],c≠d:=λd hd r=>by subst r;rw[(hf c hd).1]at ho;cases ho
   exact kk c v (nn _ (by simp)) (nn _ (by simp)) (nn _ (by simp)) (nn _ (by simp)) qc
  refine I.call' (s':={ s with heap:=h' }) (ch:=[z,TO,j1,j2]) rfl u hok I.bare λb hb=>?_
  obtain⟨_,y1,y2,y3,y4,y5⟩:=hf b (by simp only[ww,wO,or_false]at hb ⊢;rcases hb with r | r | r | r <;> simp[r])
  exact⟨y3,y1,y4,y5⟩
 self:=λ_ _ _ _ _ st h=>Wr st.z h
def Jj (h:Heap) (k1 k2:Bool) (t1 t2:Addr):Heap:=((((h.push (Qd k1 t1)).push (Qd k2 t2)).push { cls:=.type "tuple",data:=.seq #[.ref h.objs.size,.ref (h.objs.size+1)] }).push { cls:=.type "tuple",data:=.seq #[.none,.none] }).push { cls:=.type "zip",data:=.fields #[.none,.bool false,.bool false,.ref (h.objs.size+2),.ref (h.objs.size+3)] }
def ze2 (k1 k2:Bool) (t1 t2:Addr) (xs1 xs2:Array Value):Meets (Builtin.«zip.__new__» ⟨[.type "zip",.ref t1,.ref t2],[]⟩) (λ_ R s=>KSq k1 s.heap t1 xs1/\KSq k2 s.heap t2 xs2/\R (.ok (.ret (.ref (s.heap.objs.size+4)))) { s with heap:=Jj s.heap k1 k2 t1 t2 }) :=
 .of_wp λprog w A R s h=>by
  obtain⟨hp,g,d,tk,os⟩:=s;obtain⟨q1,q2,h⟩:=h
  have hs:=sub_zip
  have K1:KSq k1 (Shared.heap ⟨hp,g,d,tk,os⟩) t1 xs1:=q1
  have K2:KSq k2 (Shared.heap ⟨(hp.push (Qd k1 t1)),g,d,tk,os⟩) t2 xs2:=(KSq.push q2)
  wp_walk using zgP K1,zgP K2
  refine⟨_,rL,?_⟩
  unfold Jj at h
  simp only[yj]at h ⊢
  exact h
section
variable {X:Cx}
def zjt (K:Fg) (t:TA):TI:=λσ H R=>t σ H λvs H1=>∃(k1 k2:Bool) (t1 t2:Addr),vs=[.ref t1,.ref t2]/\(∃xs,SqK k1 K H1 t1 xs)/\(∃xs,SqK k2 K H1 t2 xs)/\R (ze9 k1 k2 K t1 t2) H1
theorem ze6 {h:Heap}{k1 k2:Bool}{t1 t2:Addr}:IsZip (Jj h k1 k2 t1 t2) (h.objs.size+4) (h.objs.size+2) (h.objs.size+3) .none/\Xk (Jj h k1 k2 t1 t2) (h.objs.size+2) (.ref h.objs.size) (.ref (h.objs.size+1))/\Xk (Jj h k1 k2 t1 t2) (h.objs.size+3) .none .none ∧
  KIt k1 (Jj h k1 k2 t1 t2) (h.objs.size) t1 0/\KIt k2 (Jj h k1 k2 t1 t2) (h.objs.size+1) t2 0/\∀c o,h.get? c=some o->(Jj h k1 k2 t1 t2).get? c=some o:=by
 have z1:(h.push (Qd k1 t1)).objs.size=h.objs.size+1:=by rw[yj]
 have z2:((h.push (Qd k1 t1)).push (Qd k2 t2)).objs.size=h.objs.size+2:=by rw[yj,z1]
 have z3:(((h.push (Qd k1 t1)).push (Qd k2 t2)).push { cls:=.type "tuple",data:=.seq #[.ref h.objs.size,.ref (h.objs.size+1)] }).objs.size=h.objs.size+3:=by rw[yj,z2]
 have z4:((((h.push (Qd k1 t1)).push (Qd k2 t2)).push { cls:=.type "tuple",data:=.seq #[.ref h.objs.size,.ref (h.objs.size+1)] }).push { cls:=.type "tuple",data:=.seq #[.none,.none] }).objs.size=h.objs.size+4:=by rw[yj,z3]
 unfold Jj
 refine⟨?_,?_,?_,?_,?_,λc o e=>?_⟩
 ·rw[<-z4];exact wu _ rfl
 ·refine we _ (we _ ?_)
  refine V3 z2.symm ?_
  rfl
 ·refine we _ ?_
  refine V3 z3.symm ?_
  rfl
 ·refine zbt (we _ (we _ (we _ (we _ ?_))))
  exact wu _ rL
 ·refine zbt (we _ (we _ (we _ ?_)))
  exact V3 z1.symm rL
 ·exact(we _ (we _ (we _ (we _ (we _ e)))))
theorem zfO {a b:Expr}{ta:TA}{p pos tp:Pos}{elts:List Expr}{kc:Nat}(hg:Gl X "zip") (hm:X.mg "zip" = none) (ha:PA X [a,b] ta) (hs:starEach [a,b] X.env=[(false,eval a X.env),(false,eval b X.env)]:=by rfl) (hs1:starEach [b] X.env=[(false,eval b X.env)]:=by rfl) :
  PI X (.Tuple elts kc tp) (.Call (.Name "zip" p) [a,b] [] pos) (zjt X.K ta):=by
 intro pz s σ H R I h
 refine Call_ (Zc I hg hm (by decide +kernel:bootBuiltins "zip" = some (.type "zip")) (yL (thn (ha pos pz s σ H _ I h) λus s1 ⟨vs,H1,I1,r1,q1⟩=>?_) (by rw[hs,hs1]) (by rw[hs1];rfl)))
 obtain⟨k1,k2,t1,t2,e,⟨xs1,k_1⟩,⟨xs2,k_2⟩,q⟩:=q1
 subst e
 obtain⟨u1,u2,rfl,ru1,ru2⟩:=zad r1
 cases(show u1=Value.ref t1 from ru1)
 cases(show u2=Value.ref t2 from ru2)
 obtain⟨as1,ra1,pa1⟩:=XU I1 k_1
 obtain⟨as2,ra2,pa2⟩:=XU I1 k_2
 refine callType_new F.called_zip (by decide) (F.typeCall_zip_2 _ _) (F.newCall_zip_2 _ _) (λobj=>F.args_object_init_3 obj _ _) F.entry_zip_new (ze2 k1 k2 t1 t2 as1.toArray as2.toArray) ⟨pa1,pa2,?_⟩
 obtain⟨g1,g2,g3,g4,g5,g6⟩:=ze6 (h:=s1.heap) (k1:=k1) (k2:=k2) (t1:=t1) (t2:=t2)
 show _/\_
 refine⟨⟨_,g1,rL⟩,Wr g1 ⟨_,[s1.heap.objs.size+4,s1.heap.objs.size+2,s1.heap.objs.size+3,s1.heap.objs.size,s1.heap.objs.size+1],_,_,H1,rL,I1.kept (t':=s1.toks) g6,
  zgB k1 k2 (s1.heap.objs.size+4) (s1.heap.objs.size+2) (s1.heap.objs.size+3) s1.heap.objs.size (s1.heap.objs.size+1) t1 t2 ?_ (nne (wG pa1.lt (yl _ _))) (nne (wG pa2.lt (yl _ _))),⟨g1,g2,⟨_,_,g3⟩,g4,g5⟩,λb hb=>?_,q⟩⟩
 ·constructor <;> (intro z;simp only[Nat.add_right_inj,Nat.add_eq_left,Nat.left_eq_add]at z;try lia)
 ·have hb':s1.heap.objs.size<=b:=by
   simp only[ww,wO,or_false]at hb
   rcases hb with rfl | rfl | rfl | rfl | rfl
   ·exact yl _ _
   ·exact yl _ _
   ·exact yl _ _
   ·exact wo _
   ·exact yl _ _
  exact I1.fpOk hb' (I1.hok.fresh hb')
end
def HSq (k:Bool) (H:Hp) (a:Addr) (xs:List V):Prop:=match k with | true=>H a=some (.tup xs) | false=>H a=some (.lst xs)
def HSq.sq {k:Bool}{K:Fg}{H:Hp}{a:Addr}{xs:List V}(h:HSq k H a xs):SqK k K H a xs:=by
 cases k
 ·exact SqL.of h
 ·exact SqT.of h
def HSq.same {k:Bool}{H H':Hp}{a:Addr}{xs:List V}(h:HSq k H a xs) (e:zj H H'):HSq k H' a xs:=by
 cases k <;> exact e _ _ h
def zf0 {k1 k2:Bool}{K:Fg}{H:Hp}{a b:Addr}{xs ys:List V}(ha:HSq k1 H a xs) (hb:HSq k2 H b ys) (e:xs.length<=ys.length):zgH (ze9 k1 k2 K a b) H xs.length xs ys :=
 ⟨λi H' hi s=>⟨xs,ys,xs[i],ys[i],(ha.same s).sq,(hb.same s).sq,by simp[hi],wk _⟩,λH' s=>⟨xs,ys,(ha.same s).sq,(hb.same s).sq,.inl (wo _)⟩,
  λi v H2 H3 s ⟨T,x,y,z,h1,h2,h3,h4⟩=>⟨T,x,y,z,h1,h2,h3 xs (ha.same s).sq,h4 ys (hb.same s).sq⟩⟩
end L2
namespace KM
def QJ (a b:Rat):Rat.divInt (a.num*b.den-b.num*a.den) (a.den*b.den)=a-b:=by
 rw[Rat.sub_def',<-W6];simp
def Zw {a b d:Int}(hd:0<d):Rat.divInt a d<Rat.divInt b d↔a<b:=by
 rw[yH,yH]
 have h:(0:Rat)<d:=Rat.intCast_pos.mpr hd
 rw[Yh h,Rat.div_mul_cancel (by grind)];exact Rat.intCast_lt_intCast
def VQ (d:Int):Rat.divInt 0 d=0:=by simp
def zcr {a d:Int}(hd:0<d) (h:0<=a):0<=Rat.divInt a d:=by
 have:=Zw (a:=a) (b:=0) hd
 rw[VQ]at this
 rw[<-Rat.not_lt,this];lia
def mo (l r:Rat×Rat):Rat:=(r.1-l.1)/(l.2-r.2)
def xD (f:Option Rat) (p:(Rat×Rat)×(Rat×Rat)):Option Rat :=
 if p.2.2<p.1.2 then(match f with
  |none=>some (mo p.1 p.2)
  |some u=>if mo p.1 p.2<u then some (mo p.1 p.2)else some u)else f
def vj (ch:List (Rat×Rat)):Option Rat:=(ch.zip ch.tail).foldl xD none
def zbz (x:Rat):x*((x.den:Int):Rat)=((x.num:Int):Rat):=by
 have h:=Rat.num_divInt_den x
 rw[yH]at h
 have hd:((x.den:Int):Rat)≠0:=by
  intro z
  exact xL x (by exact_mod_cast z)
 have e:x*((x.den:Int):Rat)=((x.num:Int):Rat)/((x.den:Int):Rat)*((x.den:Int):Rat):=by rw[h]
 rw[e];grind
def byq {x:Rat}{b:Int}(h:(x.den:Int) ∣ b):((x.num*b.fdiv (x.den:Int):Int):Rat)=x*(b:Rat):=by
 obtain⟨k,rfl⟩:=h
 rw[Int.mul_fdiv_cancel_left _ (xL x)]
 have e:=zbz x
 rw[yX,yX,<-Rat.mul_assoc,e]
def zfs (tk:Rat){a b:Int}(hb:b≠0):Rat.divInt (a*tk.num) (b*(tk.den:Int))=(a:Rat)*tk/(b:Rat):=by
 have e:=zbz tk
 have hd:((tk.den:Int):Rat)≠0:=by
  intro z
  exact xL tk (by exact_mod_cast z)
 have hb':((b:Int):Rat)≠0:=by
  intro z
  exact hb (by exact_mod_cast z)
 rw[yH,yX,yX,<-e]
 grind
def zdT {l r:Rat×Rat}{p s:Rat}(hp:0<p) (hs:0<s) (h:r.2<l.2):(r.1*p-l.1*p)*(s/p)/(l.2*s-r.2*s)=mo l r:=by
 unfold mo
 have h1:l.2-r.2≠0:=by grind
 have h2:l.2*s-r.2*s=(l.2-r.2)*s:=by grind
 rw[h2]
 have h3:p≠0:=by grind
 have h4:s≠0:=by grind
 have h5:(l.2-r.2)*s≠0:=by
  intro z
  rcases Rat.mul_eq_zero.mp z with y | y
  ·exact h1 y
  ·exact h4 y
 grind
def zfi {a b c d t:Rat}(hb:0<b) (hd:0<d) (ht:0<t):a*t/b<c*t/d↔a*d<c*b:=by
 rw[Yh hb]
 have e:c*t/d*b=(c*b*t)/d:=by
  have:d≠0:=by grind
  grind
 rw[e,Wk hd]
 have e2:a*t*d=a*d*t:=by grind
 rw[e2,Rat.mul_lt_mul_right ht]
def JG {α:Type}{L:List α}{p:α×α}(h:p∈L.zip L.tail):∃i,L[i]?=some p.1/\L[i+1]?=some p.2:=by
 obtain⟨i,hi⟩:=yZ h
 rw[uS]at hi
 refine⟨i,hi.1,?_⟩
 have:=hi.2
 rw[List.getElem?_tail]at this
 exact this
def v3 (pl m:Rat) (ss:List Rat):List (Rat×Rat):=ss.map λs=>(pl-s*m,s)
end KM
namespace L2
open PySem PySem.Spec PyProof.Rows
structure Jn (n₀:Nat) (J:Shared->Prop):Prop where
 kept:∀(s:Shared) (h':Heap) (tk:Nat),J s->(∀b o,s.heap.get? b=some o->h'.get? b=some o)->J { s with heap:=h',toks:=tk }
 upd:∀(s:Shared) (h':Heap) (tk:Nat) (a:Addr),n₀<=a->J s->Heap.SameBut a s.heap h'->(∃o,s.heap.get? a=some o)->(∃o,h'.get? a=some o)->J { s with heap:=h',toks:=tk }
 size:∀s,J s->n₀<=s.heap.objs.size
section
variable {prog:Program}{w:World}{A:Around}{E:Value->Shared->Prop}{s:Shared}{n₀:Nat}{J:Shared->Prop}{a kS:Addr}{vs:List Value}{kz:List Int}{keys:Array Value}{e e1:Nat}{P:PySem.Fin->Shared->Prop}
theorem zbX {st:SortSt}(U:Jn n₀ J) (j:J s) (nk:s.heap.get? kS=some (seqObj "list" keys e)) (na:s.heap.get? a=some (seqObj "list" #[] e1)) (hka:kS≠a) (gk:n₀<=kS) (ga:n₀<=a)
  (hk:IntsAre keys.toList kz) (hlen:kz.length=vs.length) (h64:vs.length<64) (hp:(arrOf st).Perm (keys.zip vs.toArray)) (hs:SortedTo (arrOf st) (arrOf st).size) (hfl:failedOf st=none)
  (h:∀s' out c,J s'->s'.heap.get? a=some (seqObj "list" out c)->KskOut false kz vs out.toList->P (.done (.ret .none)) s') :
  wpAny (model prog w) A (ksk_tail a false e1 (.ref kS) st) P E s:=by
 have hsz:keys.size=vs.length:=by
  have h1:=hk.length
  rw[yU]at h1
  lia
 have hsz2:(arrOf st).size=vs.length:=by rw[hp.size_eq,Array.size_zip,hsz,wy,Yb]
 have hout:((arrOf st).map (·.2)).size=vs.length:=by rw[Array.size_map];exact hsz2
 have s1:=Heap.SameBut.update s.heap kS (Obj.mapSeq λ_=>(#[]:Array Value))
 have na1:(s.heap.update kS (Obj.mapSeq λ_=>(#[]:Array Value))).get? a=some (seqObj "list" #[] e1):=(s1.2 a hka.symm).trans na
 have s2:=Heap.SameBut.update (s.heap.update kS (Obj.mapSeq λ_=>(#[]:Array Value))) a (Obj.mapSeq λ_=>(arrOf st).map (·.2))
 obtain⟨c2,hc2⟩:∃c2,((s.heap.update kS (Obj.mapSeq λ_=>(#[]:Array Value))).update a (Obj.mapSeq λ_=>(arrOf st).map (·.2))).get? a=some (seqObj "list" ((arrOf st).map (·.2)) c2) :=
  ⟨_,get?_update_seq na1 λ_=>(arrOf st).map (·.2)⟩
 obtain⟨c1,hc1⟩:∃c1,(s.heap.update kS (Obj.mapSeq λ_=>(#[]:Array Value))).get? kS=some (seqObj "list" #[] c1):=⟨_,get?_update_seq nk λ_=>#[]⟩
 have j1:=U.upd s _ s.toks kS gk j s1 ⟨_,nk⟩ ⟨_,hc1⟩
 have j2:=U.upd _ _ s.toks a ga j1 s2 ⟨_,na1⟩ ⟨_,hc2⟩
 unfold ksk_tail
 nofun
 refine wc (listUpdate_at nk rfl ?_ (by rw[hsz,sizeLine_eq];lia) (yu _))
 refine wc (uW ?_)
 refine wc (seqEpoch_at na1 rL ?_)
 refine wc (listUpdate_at na1 rfl ?_ (yu _) (wV (WM hout) (by rw[sizeLine_eq];lia)))
 rw[hfl]
 simp only[bne_self_eq_false,uh,if_false]
 refine wj (h _ _ c2 j2 hc2 ?_)
 exact ksk_out (b:=false) hk hp hs
theorem ziw (U:Jn n₀ J) (j:J s) (nk:s.heap.get? kS=some (seqObj "list" keys e)) (na:s.heap.get? a=some (seqObj "list" #[] e1)) (hka:kS≠a) (gk:n₀<=kS) (ga:n₀<=a)
  (hk:IntsAre keys.toList kz) (hlen:kz.length=vs.length) (h64:vs.length<64)
  (h:∀s' out c,J s'->s'.heap.get? a=some (seqObj "list" out c)->KskOut false kz vs out.toList->P (.done (.ret .none)) s') :
  wpAny (model prog w) A (ksk_end a false vs.toArray e1 (.ref kS) keys) P E s:=by
 have hsz:keys.size=vs.length:=by
  have h1:=hk.length
  rw[yU]at h1
  lia
 have hzs:(keys.zip vs.toArray).size=vs.length:=by rw[Array.size_zip,hsz,wy,Yb]
 unfold ksk_end
 simp only[uh,if_false]
 by_cases h2:vs.toArray.size<2
 ·rw[if_pos h2,if_pos h2]
  refine wc (wj ?_)
  rw[StateT.run_pure]
  refine wc (wj ?_)
  nofun
  refine zbX (st:=SortSt.mk' general' (keys.zip vs.toArray) #[] 7 none) U j nk na hka gk ga hk hlen h64 (Array.Perm.refl _) ?_ rL h
  intro i i' hij hj
  have hj2:i'<(keys.zip vs.toArray).size:=hj
  rw[hzs]at hj2
  rw[wy]at h2
  have:i=i':=by lia
  subst this
  exact Int.le_refl _
 ·rw[if_neg h2,if_neg h2]
  rw[wy]at h2
  rw[ksk_kind hk (by rw[hsz];lia)]
  refine wc (wj ?_)
  refine wc (yC (wpS_sortRuns (a₀:=keys.zip vs.toArray) (st:=SortSt.mk' oneType' (keys.zip vs.toArray) #[] 7 none)
   (Q:=λ_ st'=>(arrOf st').Perm (keys.zip vs.toArray)/\failedOf st'=none/\SortedTo (arrOf st') (keys.zip vs.toArray).size)
   (ksk_intKeys hk) ⟨Array.Perm.refl _,rfl,rfl,rfl⟩ (by rw[hzs];lia) (by rw[hzs];exact h64) λst' a1 a2 a3=>⟨a1,a2,a3⟩) ?_ λ_ _ e=>e)
  rintro ⟨⟨⟩,st'⟩ s' ⟨rfl,hp,hf,hs⟩
  nofun
  exact zbX U j nk na hka gk ga hk hlen h64 hp (by rw[hp.size_eq];exact hs) hf h
theorem zgg {f:Value}(U:Jn n₀ J) (j:J s) (nk:s.heap.get? kS=some (seqObj "list" #[] 0)) (na:s.heap.get? a=some (seqObj "list" #[] e1)) (hka:kS≠a) (gk:n₀<=kS) (ga:n₀<=a)
  (hlen:kz.length=vs.length) (h64:vs.length<64)
  (turn:∀(i:Nat) (v:Value) (k:Int),vs[i]?=some v->kz[i]?=some k->∀s':Shared,J s' →
   wpAny (model prog w) A (call f [v]) (λu s''=>∃t',u=.int k t'/\J s''/\∀b o,n₀<=b->s'.heap.get? b=some o->s''.heap.get? b=some o) (λ_ _=>False) s')
  (h:∀s' out c,J s'->s'.heap.get? a=some (seqObj "list" out c)->KskOut false kz vs out.toList->P (.done (.ret .none)) s') :
  wpAny (model prog w) A (ksk_rest a f false vs.toArray e1 (.ref kS)) P E s:=by
 unfold ksk_rest
 refine wc (ul ?_)
 first
  |rw[List.forIn_toArray]
  | (rw[<-Array.forIn_toList];simp only[List.toList_toArray])
  |rw[<-Array.forIn_toList]
 refine wc (ksk_fold (λi s'=>∃kA e,J s'/\s'.heap.get? kS=some (seqObj "list" kA e)/\s'.heap.get? a=some (seqObj "list" #[] e1)/\IntsAre kA.toList (kz.take i)) vs 0 s
  ⟨#[],0,j,nk,na,↥IntsAre.nil⟩ ?step ?done)
 case step =>
  rintro i x s' hx ⟨kA,e,j',nk',na',hk⟩
  simp only[Nat.zero_add]at hk ⊢
  have hj:i<vs.length:=(wn.mp hx).1
  obtain⟨k,hkj⟩:∃k,kz[i]?=some k:=⟨_,wk ∅⟩
  have hz:kA.size<=vs.length:=by
   have h1:=hk.length
   rw[yU,yd]at h1
   lia
  refine wc (Wx (yC (turn i x k hx hkj s' j') (λv s'' he=>?_) λ_ _ hF=>hF.elim))
  obtain⟨t2,rfl,j2,kp⟩:=he
  nofun
  have nk2:=kp _ _ gk nk'
  have na2:=kp _ _ ga na'
  have s1:=Heap.SameBut.update s''.heap kS (Obj.mapSeq (·.push (.int k t2)))
  obtain⟨c2,hc2⟩:∃c2,(s''.heap.update kS (Obj.mapSeq (·.push (.int k t2)))).get? kS=some (seqObj "list" (kA.push (.int k t2)) c2):=⟨_,get?_update_seq nk2 (·.push (.int k t2))⟩
  have ek:kz.take (i+1)=kz.take i++[k]:=by rw[yW,hkj];simp
  have ea:(kA.push (Value.int k t2)).toList=kA.toList++[Value.int k t2]:=by simp
  refine wc (listUpdate_at nk2 rfl ?_ (by rw[sizeLine_eq];lia) (wV (WM (Array.size_push ..)) (by rw[sizeLine_eq];lia)))
  exact wj ⟨rfl,kA.push (.int k t2),c2,U.upd _ _ _ kS gk j2 s1 ⟨_,nk2⟩ ⟨_,hc2⟩,hc2,(s1.2 a hka.symm).trans na2,by rw[ea,ek];exact ksk_snoc hk⟩
 case done =>
  rintro s' ⟨kA,e,j',nk',na',hk⟩
  have hk':IntsAre kA.toList kz:=by
   have e3:kz.take (0+vs.length)=kz:=w4 ∅
   rw[e3]at hk
   exact hk
  nofun
  refine wc (listItems_at nk' rL ?_)
  exact ziw U j' nk' na' hka gk ga hk' hlen h64 h
theorem zgh {f:Value}{n:Nat}(U:Jn n₀ J) (j:J s) (ho:s.heap.get? a=some (seqObj "list" vs.toArray n)) (ga:n₀<=a) (hlen:kz.length=vs.length) (h64:vs.length<64)
  (turn:∀(i:Nat) (v:Value) (k:Int),vs[i]?=some v->kz[i]?=some k->∀s':Shared,J s' →
   wpAny (model prog w) A (call f [v]) (λu s''=>∃t',u=.int k t'/\J s''/\∀b o,n₀<=b->s'.heap.get? b=some o->s''.heap.get? b=some o) (λ_ _=>False) s')
  (h:∀s' out c,J s'->s'.heap.get? a=some (seqObj "list" out c)->KskOut false kz vs out.toList->P (.done (.ret .none)) s') :
  wpAny (model prog w) A (ksk_tree a f false) P E s:=by
 have ha:a<s.heap.objs.size:=wx ho
 have s1:=Heap.SameBut.update s.heap a (Obj.mapSeq λ_=>(#[]:Array Value))
 obtain⟨e1,ho1⟩:∃e1,(s.heap.update a (Obj.mapSeq λ_=>(#[]:Array Value))).get? a=some (seqObj "list" #[] e1):=⟨_,get?_update_seq ho λ_=>#[]⟩
 have j1:=U.upd s _ s.toks a ga j s1 ⟨_,ho⟩ ⟨_,ho1⟩
 have hkS:((s.heap.update a (Obj.mapSeq λ_=>(#[]:Array Value))).push (seqObj "tuple" vs.toArray 0)).objs.size=s.heap.objs.size+1:=by rw[size_push',Heap.size_update]
 have j2:=U.kept _ (((s.heap.update a (Obj.mapSeq λ_=>(#[]:Array Value))).push (seqObj "tuple" vs.toArray 0)).push (seqObj "list" #[] 0)) s.toks j1 λb o q=>we _ (we _ q)
 unfold ksk_tree
 refine wc (listItems_at ho rL ?_)
 refine wc (listUpdate_at ho rfl ?_ (by rw[wy,sizeLine_eq];lia) (yu _))
 refine wc (seqEpoch_at ho1 rL ?_)
 refine wc (Yk ?_ (by show vs.length<=_;rw[sizeLine_eq];lia))
 refine wc (wpAny_newList ?_ (yu _))
 refine yn ?_
 refine zgg (s:={ s with heap:=((s.heap.update a (Obj.mapSeq λ_=>(#[]:Array Value))).push (seqObj "tuple" vs.toArray 0)).push (seqObj "list" #[] 0) }) (kS:=((s.heap.update a (Obj.mapSeq λ_=>(#[]:Array Value))).push (seqObj "tuple" vs.toArray 0)).objs.size)
  U j2 (wu _ rfl) (we _ (we _ ho1)) (by rw[hkS];exact uq (Nat.lt_succ_of_lt ha)) (by rw[hkS];have:=U.size s j;lia) ga hlen h64 turn h
theorem zcQ {Q:Value->Shared->Prop}{l q:Addr}(U:Jn n₀ J) (j:J s) (hl:s.heap.IsList l vs.toArray) (hlen:kz.length=vs.length) (h64:vs.length<64)
  (turn:∀(i:Nat) (v:Value) (k:Int),vs[i]?=some v->kz[i]?=some k->∀s':Shared,J s' →
   wpAny (model prog w) A.in1.in1 (call (.ref q) [v]) (λu s''=>∃t',u=.int k t'/\J s''/\∀b o,n₀<=b->s'.heap.get? b=some o->s''.heap.get? b=some o) (λ_ _=>False) s')
  (h:∀D s' out c,n₀<=D->J s'->s'.heap.get? D=some (seqObj "list" out c)->KskOut false kz vs out.toList->Q (.ref D) s') :
  wpAny (model prog w) A (call (.builtin "sorted") [.ref l] [(Str.ofString "key",.ref q)]) Q E s:=by
 refine call_function_entry_kw kind_sorted plain_sorted entry_sorted (ksk_s1 _ _) ?_
 unfold Builtin.«sorted»
 refine wc (m:=checkCount "sorted" 1 1 _) (wj ?_)
 refine wc (collect_list hl ?_ (by rw[sizeLine_eq];lia))
 refine wc (wpAny_newList ?_ (by rw[sizeLine_eq];lia))
 have hsz:((s.heap.push (seqObj "list" #[] 0)).update s.heap.objs.size (Obj.mapSeq (·++vs.toArray))).objs.size=s.heap.objs.size+1:=by
  rw[Heap.size_update,size_push']
 have hoL:(((s.heap.push (seqObj "list" #[] 0)).update s.heap.objs.size (Obj.mapSeq (·++vs.toArray))).push (seqObj "list" vs.toArray 0)).get? (s.heap.objs.size+1)=some (seqObj "list" vs.toArray 0):=by
  rw[<-hsz];exact wu _ rfl
 have keep:∀b o,s.heap.get? b=some o->(((s.heap.push (seqObj "list" #[] 0)).update s.heap.objs.size (Obj.mapSeq (·++vs.toArray))).push (seqObj "list" vs.toArray 0)).get? b=some o:=λb o q=>by
  have hlt:b<s.heap.objs.size:=wx q
  rw[Heap.get?_push_ne _ _ _ (by rw[hsz];exact wN (Nat.lt_succ_of_lt hlt)),uV _ _ _ _ (wN hlt),Heap.get?_push_ne _ _ _ (wN hlt)]
  exact q
 have ge:n₀<=s.heap.objs.size+1:=Nat.le_succ_of_le (U.size s j)
 show wpAny _ _ _ _ _ { s with heap:=((s.heap.push (seqObj "list" #[] 0)).update s.heap.objs.size (Obj.mapSeq (·++vs.toArray))).push (seqObj "list" vs.toArray 0) }
 rw[hsz]
 refine wc (yn (wpAny_call_entry_kw slot_list_sort ⟨_,hoL,rL⟩ entry_list_sort ?body (ksk_l1 _ _)))
 case body =>
  have ht':=ksk_t1 q (s.heap.objs.size+1)
  show wpAny (model prog w) A.in1.in1 (Builtin.«list.sort» ⟨[.ref (s.heap.objs.size+1)],[(Str.ofString "key",.ref q)]⟩) _ _ _
  rw[ht']
  refine zgh (s:={ s with heap:=((s.heap.push (seqObj "list" #[] 0)).update s.heap.objs.size (Obj.mapSeq (·++vs.toArray))).push (seqObj "list" vs.toArray 0) })
   U (U.kept s _ s.toks j keep) hoL ge hlen h64 turn λs' out c j' hD k'=>⟨_,rfl,?_⟩
  exact wj ⟨_,rL,h _ s' out c ge j' hD k'⟩
end
def zfm {P:Program}{w:World}{K:Fg}{mg:Str->Option Value}{base:Heap}{k:Nat}{f c':Addr}{name qual:Str}{params:Arguments}{body:Expr}{scope:Scope}{pm ctv:Value}{N ps:List Str}{A:Around}{outer:List Env}{s:Shared}{H:Hp}{args:Args}{us:List Value}{vs:List V}{Q:VK}{E:XK}
  (hr:xb (k+1) A) (e0:Qr P w K mg base A outer s H) (ho:s.heap.get? f=some (PySem.W.kla_obj name qual params body scope [] pm c' ctv)) (hcd:s.heap.CodeRec (.ref c') qual) (S:zH N ps scope)
  (hb:bindArgs (PySem.W.kla_fn name qual params body scope [] pm (.ref c') ctv) args=pure (ps.zip us)) (hl:vs.length=ps.length) (r:zY vs us){t:TE}
  (ht:PE (xl CX0 P w K mg base N qual scope f (.ref c') A outer s H E) body t) (hq:t (qm N vs) H Q) :
  codeAny (model P w) A (.call (.ref f) args) (CR CX0 outer P w H s Q E) s:=by
 have lim:s.heap.NoLimit:=e0.mod.nolimit.keeps λb o e=>(e0.bs b o e).1
 have hkind:∀y∈ps.zip us,scope.names.lookup y.1=some .local ∨ (scope.names.lookup y.1=some .cell/\((cellsFrom (s.heap.objs.size+1) scope.names []).lookup y.1).isSome=true):=λ⟨n,v⟩ hy=>by
  rcases S.par n (uk hy).1 with q | q
  ·exact .inl q
  ·exact .inr ⟨q,Wb _ _ _ (.inl q)⟩
 refine PySem.W.kla_callFunE hr.depth ho rL S.co S.gen rL hcd ?_
 rw[hb]
 refine wj (WH S.kind hkind λenv he s1 x=>?_)
 subst he
 refine⟨lim.keeps x.toInCall.keep,PySem.W.kla_codeExpr ?_⟩
 have I:Inv (xl CX0 P w K mg base N qual scope f (.ref c') A outer s H E) [] (qm N vs) H s1:=Vy S hr.hd e0 hl r x
 refine yC (ht [] s1 (qm N vs) H _ I hq) (λu s' hs=>?_) λe s' hs=>hs
 obtain⟨v,H',J,rv,q⟩:=hs
 exact⟨v,H',J.os,J.bare,J.base,J.hok,rv,q⟩
def Ze {a b n:Nat}(h:a<n) (g:n<=b):a≠b:=wN (wG h g)
section
variable {X:Cx}{pz:List (Addr×Obj)}{σ:St}{H:Hp}{s:Shared}
theorem Inv.jn {q:Addr}{oq:Obj}(I:Inv X pz σ H s) (hq:(q,oq)∈pz) (hs:q+1=s.heap.objs.size):Jn (q+1) (λs'=>Inv X pz σ H s'):=by
 refine⟨λs' h' tk J k=>J.kept k,λs' h' tk a ge J sb _ _=>?_,λs' J=>?_⟩
 ·rw[hs]at ge
  refine J.turned (it:=a) (λb o hb e=>(sb.2 b hb).trans e) (I.hok.fresh ge) ?_ (.inr (wV I.sz ge)) (λx c e=>?_) λp hp=>?_
  ·exact(Ze I.lt ge).symm
  ·obtain⟨v,o,ho,_⟩:=I.cell x c e
   exact Ze (wx ho) ge
  ·exact Ze (wx (I.pin p hp).1) ge
 ·exact wx (J.pin (q,oq) (wq _ hq)).1
theorem Inv.track {D:Addr}{o:HO}(I:Inv X pz σ H s) (hD:X.s₀.heap.objs.size<=D) (hn:H D=none) (hL:D≠X.env.locals) (hC:∀x c,X.env.cells.lookup x=some c->c≠D) (hp:∀p∈X.pn++pz,p.1≠D) (new:xu X.prog X.w (upd H D o) s.heap D o):Inv X pz σ (upd H D o) s:=by
 have ne:∀b u,X.s₀.heap.get? b=some u->b≠D:=λb u e=>Ze (wx e) hD
 have tr:∀b u,H b=some u->upd H D o b=some u:=λb u e=>by rw[zF (zG e hn)];exact e
 refine⟨I.ok,I.os,I.bare,⟨I.base.keep,I.base.slot,λb u e n hx=>by rw[zF (ne b u e)];exact I.base.free b u e n hx,I.base.there,λb xs e=>tr _ _ (I.base.tups b xs e),λb u v e=>tr _ _ (I.base.frzs b u v e),λb ps e=>let ⟨m,z⟩:=I.base.tbls b ps e;⟨m,tr _ _ z⟩⟩,
  I.loc,I.cell,by rw[zF (Ne.symm hL)];exact I.free,λx c e=>by rw[zF (hC x c e)];exact I.freeC x c e,λp m=>by obtain⟨g1,g2,g3⟩:=I.pin p m;exact⟨g1,by rw[zF (hp p m)];exact g2,g3⟩,λb u e=>?_,I.len⟩
 by_cases hb:b=D
 ·subst hb;rw[zg]at e;cases e;exact new
 ·rw[zF hb]at e
  exact(I.hok b u e).stay (λ_ _ _ z=>z) (λc z=>tr _ _ z) λc xs z=>tr _ _ z
end
inductive Zp:List (Int×V)->List (Int×Value)->Prop where
 |nil:Zp [] []
 |cons {k:Int}{v:V}{u:Value}{l:List (Int×V)}{m:List (Int×Value)} (r:xq v u) (t:Zp l m):Zp ((k,v)::l) ((k,u)::m)
def ze5:∀{kz:List Int}{xs:List V}{vs:List Value},zY xs vs->Zp (kz.zip xs) (kz.zip vs)
 |[],_,_,_=>by simp;exact .nil
 |_::_,_,_,.nil=>by simp;exact .nil
 |k::kz,_,_,.cons r t=>by rw[List.zip_cons_cons,List.zip_cons_cons];exact .cons r (ze5 t)
def zgE {l1 l2:List (Int×Value)} (p:l1.Perm l2):∀{m2:List (Int×V)},Zp m2 l2->∃m1,m1.Perm m2/\Zp m1 l1:=by
 induction p with
 |nil=>intro m2 h;cases h;exact⟨[],.refl _,.nil⟩
 |cons x p ih=>intro m2 h;cases h with | cons r t=>obtain⟨m1,a,b⟩:=ih t;exact⟨_,a.cons _,.cons r b⟩
 |swap x y l=>intro m2 h;cases h with | cons r t=>cases t with | cons r' t'=>exact⟨_,List.Perm.swap ..,.cons r' (.cons r t')⟩
 |trans p1 p2 ih1 ih2=>intro m2 h;obtain⟨m1,a,b⟩:=ih2 h;obtain⟨m0,c,d⟩:=ih1 b;exact⟨m0,c.trans a,d⟩
def zkV {m:List (Int×V)}{l:List (Int×Value)} (h:Zp m l) (p:l.Pairwise λa b=>a.1<=b.1):m.Pairwise λa b=>a.1<=b.1:=by
 have e:∀{m:List (Int×V)}{l:List (Int×Value)},Zp m l->m.map Prod.fst=l.map Prod.fst:=λh=>by
  induction h with
  |nil=>rfl
  |cons r t ih=>simp[ih]
 have p':(l.map Prod.fst).Pairwise (·<=·):=ym.mpr p
 rw[<-e h]at p'
 exact ym.mp p'
def zi7 {m:List (Int×V)}{l:List (Int×Value)} (h:Zp m l):zY (m.map Prod.snd) (l.map Prod.snd):=by
 induction h with
 |nil=>exact .nil
 |cons r t ih=>exact .cons r ih
def zc3 (kz:List Int) (xs ys:List V):Prop:=∃ps:List (Int×V),ps.Perm (kz.zip xs)/\ys=ps.map Prod.snd/\ps.Pairwise λa b=>a.1<=b.1
section
variable {X:Cx}{pz:List (Addr×Obj)}{σ:St}{H:Hp}{s:Shared}
theorem zaX {l q c':Addr}{name qual x:Str}{params:Arguments}{body:Expr}{scope:Scope}{pm ctv:Value}{N:List Str}{xs:List V}{kz:List Int}{Qv:Value->Shared->Prop}{φ:Heap->Prop}(I:Inv X pz σ H s) (hq:(q,PySem.W.kla_obj name qual params body scope [] pm c' ctv)∈pz) (hs:q+1=s.heap.objs.size)
  (hc:H c'=some (.ext φ)) (hφ:∀h,φ h->h.CodeRec (.ref c') qual) (hr:xb 3 X.A) (S:zH N [x] scope) (hb:∀v,bindArgs (PySem.W.kla_fn name qual params body scope [] pm (.ref c') ctv) ⟨[v],[]⟩=pure [(x,v)])
  (hl:SqL X.K H l xs) (hlen:kz.length=xs.length) (h64:xs.length<64)
  (ht:∀(i:Nat) (v:V) (k:Int),xs[i]?=some v->kz[i]?=some k->∀s':Shared,∃t,PE (xl CX0 X.prog X.w X.K X.mg X.base N qual scope q (.ref c') X.A.in1.in1 X.stack s' H (λ_ _ _=>False)) body t/\t (qm N [v]) H (λu H'=>u=.int k/\H'=H))
  (h:∀D ys s',H D=none->zc3 kz xs ys->Inv X pz σ (upd H D (.lst ys)) s'->Qv (.ref D) s') :
  wpAny (model X.prog X.w) X.A (call (.builtin "sorted") [.ref l] [(Str.ofString "key",.ref q)]) Qv X.xe s:=by
 obtain⟨its,rv,pl,hz⟩:=I.list hl
 have hlv:xs.length=its.length:=rv.length
 have hr1:xb 1 X.A.in1.in1:=(hr.in1).in1
 refine zcQ (U:=I.jn hq hs) I pl.isList (by rw[hlen,hlv]) ∅ (λi v k ev ek s' J=>?_) λD s' out c ge J hD ko=>?_
 ·have hi:i<xs.length:=by have:=(wn.mp ek).1;lia
  obtain⟨u,eu⟩:∃u,xs[i]?=some u:=⟨_,wk hi⟩
  obtain⟨t,hp,hq'⟩:=ht i u k eu ek s'
  have ru:xq u v:=by
   obtain⟨v',e',r'⟩:=zY.get rv eu
   rw[ev]at e';cases e';exact r'
  have e0:=(J.env0.in1).in1
  refine Wy (codeAny_mono (zfm (k:=0) (E:=λ_ _ _=>False) hr1 e0 (J.pin _ (wq _ hq)).1 (hφ _ (J.hok c' _ hc).1) (us:=[v]) S (hb v) rL (.cons ru .nil) hp hq') λr s'' hr'=>?_)
  cases r with
  |error e=>exact False.elim hr'
  |ok fl =>
   cases fl with
   |next=>exact False.elim hr'
   |brk=>exact False.elim hr'
   |cont=>exact False.elim hr'
   |ret w' =>
    have hr2:CE X.stack X.prog X.w H s' (λu H'=>u=.int k/\H'=H) w' s'':=hr'
    obtain⟨v1,H1,J1,r1,e1,e2⟩:=J.after hr2
    subst e1;subst e2
    obtain⟨t',rfl⟩:=(show ∃t',w'=Value.int k t' from r1)
    refine⟨t',rL,J1,λb o gb e=>?_⟩
    obtain⟨_,H2,_,_,un,_,_,_,rfl⟩:=hr2
    have gb':s.heap.objs.size<=b:=wV (WM hs.symm) gb
    have nb:H2 b=none:=I.hok.fresh gb'
    refine un.keep b o e nb (λz=>?_) (by simp)
    rcases ww.mp (I.stkSub b z)with rfl | z
    ·exact(Ze I.lt gb') rL
    ·exact I.nofs gb' z
 ·rw[hs]at ge
  obtain⟨ps,hp,ho,hpw⟩:=ko
  obtain⟨ms,hm,hzp⟩:=zgE hp (ze5 rv)
  have hpw':ms.Pairwise λa b=>a.1<=b.1:=zkV hzp ↥hpw
  have hv:=zi7 hzp
  rw[<-ho]at hv
  have hlm:(ms.map Prod.snd).length=xs.length:=by rw[wf,hm.length_eq,uJ,hlen,Yb]
  refine h D (ms.map Prod.snd) s' (I.hok.fresh ge) ⟨ms,hm,rL,hpw'⟩ (J.track (wV I.sz ge) (I.hok.fresh ge) ?_ (λx c e=>?_) (λp hp=>?_) ?_)
  ·exact(Ze I.lt ge).symm
  ·obtain⟨v,o,ho,_⟩:=I.cell x c e
   exact Ze (wx ho) ge
  ·exact Ze (wx (I.pin p hp).1) ge
  ·refine⟨by rw[hlm];exact hz,out.toList,c,hv,?_⟩
   rw[hD]
end
def Zv:∀{l:List Value},TriplesOk l->∀{m:List Value},TriplesOk m->TriplesOk (l++m)
 |[],_,_,h=>h
 |.int _ _::.int _ _::_::rest,h,m,k=>Zv (l:=rest) h k
abbrev cdX (qual:Str) (c':Addr):HO:=.ext λh=>h.CodeRec (.ref c') qual
def x0 (P:Addr) (qual:Str) (pos:Pos) (H:Hp):Prop:=∃ps:Array Value,H P=some (.tbl ps)/\TriplesOk ps.toList/\(codeAmong pos ps.toList=none\/∃c',codeAmong pos ps.toList=some (.ref c')/\H c'=some (cdX qual c'))
def StT (P:Addr) (H H':Hp):Prop:=∀b o,H b=some o->b≠P->H' b=some o
def StT.refl {P:Addr}{H:Hp}:StT P H H:=λ_ _ e _=>e
def StT.trans {P:Addr}{H H1 H2:Hp}(a:StT P H H1) (b:StT P H1 H2):StT P H H2:=λc o e n=>b c o (a c o e n) n
def StT.of {P:Addr}{H H':Hp}(h:zj H H'):StT P H H':=λb o e _=>h b o e
def x0.same {P:Addr}{qual:Str}{pos:Pos}{H H':Hp}(T:x0 P qual pos H) (e:zj H H'):x0 P qual pos H':=by
 obtain⟨ps,h1,h2,h3⟩:=T
 refine⟨ps,e _ _ h1,h2,?_⟩
 rcases h3 with h3 | ⟨c',h3,h4⟩
 ·exact .inl h3
 ·exact .inr ⟨c',h3,e _ _ h4⟩
def Ju {qual:Str}{c':Addr}{h1 h2:Heap}(x:h1.CodeRec (.ref c') qual) (k:∀o,h1.get? c'=some o->h2.get? c'=some o):h2.CodeRec (.ref c') qual:=by
 obtain⟨c,o,vs,t,e,g,r⟩:=x
 cases e
 exact⟨c',o,vs,t,rL,k _ g,r⟩
def zar {P:Program}{w:World}{H:Hp}{h:Heap}{qual:Str}{c':Addr}(x:h.CodeRec (.ref c') qual):xu P w H h c' (cdX qual c'):=by
 refine⟨x,?_,λh1 h2 a b=>Ju a b⟩
 obtain⟨c,o,vs,t,e,g,r⟩:=x
 cases e
 exact⟨o,g⟩
section
variable {X:Cx}{pz:List (Addr×Obj)}{σ:St}{H:Hp}{s:Shared}
theorem Inv.pin1 {q:Addr}{oq:Obj}(I:Inv X pz σ H s) (h1:s.heap.get? q=some oq) (h2:H q=none) (h3:q≠X.env.locals) (h4:q∉X.fs) (h5:∀v,oq.data≠.cell v):Inv X (pz++[(q,oq)]) σ H s :=
 I.pins_of λp hp=>by
  rcases wM.mp hp with hp | hp
  ·exact I.pin p (wq _ hp)
  ·rw[ye.mp hp];exact⟨h1,h2,h3,h4,h5⟩
theorem zdJ {P c:Addr}{qual:Str}{params:Arguments}{body:Expr}{scope:Scope}{pos:Pos}{Qv:Value->Shared->Prop}{E:Value->Shared->Prop}(I:Inv X pz σ H s) (hge:X.env.globals=mainGlobals) (hcode:X.env.code=.ref c) (hC:PySem.W.codeHdIn X.K c P=true)
  (hcl:closureFor scope X.env=pure []) (hdef:defaultsOf params X.env=([],[])) (hB:X.base.BuiltinsAt X.mg P) (hqu:X.env.qual++"<lambda>" = qual) (T:x0 P qual pos H)
  (h:∀q c' ctv s' H',x0 P qual pos H'->StT P H H'->H' c'=some (cdX qual c')->Inv X (pz++[(q,PySem.W.kla_obj "<lambda>" qual params body scope [] ((X.mg "__name__").getD .none) c' ctv)]) σ H' s'->q+1=s'.heap.objs.size->Qv (.ref q) s') :
  wpAny (model X.prog X.w) X.A (eval (.Lambda params body scope pos) X.env) Qv E s:=by
 obtain⟨ps,hT,tr,hcase⟩:=T
 have hP:s.heap.get? P=some (PySem.W.tabObj ps):=I.hok P _ hT
 have hG:s.heap.Ns mainGlobals X.mg:=I.mod.glob.keeps I.bk
 have CH:=PySem.W.codeHd_of_K I.kIn hC
 have hgP:mainGlobals≠P:=λz=>by
  obtain⟨o,es,ep,e,_⟩:=I.mod.glob
  have:=(I.bs _ _ e).2
  rw[z,hT]at this;cases this
 have hB':s.heap.BuiltinsAt X.mg P:=by
  obtain⟨bm,o,b1,b2,b3,b4,b5,b6⟩:=hB
  exact⟨bm,o,b1,b2,b3,b4,I.bk _ _ b5,b6⟩
 refine PySem.W.kla_eval hdef ?_
 rw[hqu]
 rcases hcase with hnf | ⟨c',hf,hc'⟩
 ·refine PySem.W.kla_makeFunction (mg:=X.mg) hcl hge hG hcode CH hP tr hnf hgP hB' λc' ctv h' tk hx hge' hlt hrec htb=>?_
  have hq0:s.heap.objs.size<=h'.objs.size:=wV hge' (WK hlt)
  have hfc:H c'=none:=I.hok.fresh hge'
  have hcP:c'≠P:=λz=>by rw[z,hT]at hfc;cases hfc
  have kf:∀b o,b≠P->s.heap.get? b=some o->(h'.push (PySem.W.kla_obj "<lambda>" qual params body scope [] ((X.mg "__name__").getD .none) c' ctv)).get? b=some o:=λb o n e=>we _ (hx b o n e)
  have neP:∀b,H b=none->b≠P:=λb e z=>by rw[z,hT]at e;cases e
  have neC:∀b o,s.heap.get? b=some o->b≠c':=λb o e=>Ze (wx e) hge'
  have tr':∀b o,H b=some o->b≠P->upd (upd H P (.tbl (ps++#[rawInt pos.line,rawInt pos.col,.ref c']))) c' (cdX qual c') b=some o:=λb o e n=>by
   rw[zF (zG e hfc),zF n];exact e
  have J:Inv X pz σ (upd (upd H P (.tbl (ps++#[rawInt pos.line,rawInt pos.col,.ref c']))) c' (cdX qual c')) { s with heap:=h'.push (PySem.W.kla_obj "<lambda>" qual params body scope [] ((X.mg "__name__").getD .none) c' ctv),toks:=tk }:=by
   refine I.step (g':=s.gens) (d':=s.drawn) (ch:=[]) (λ_ z=>nomatch z) (λb o _ _ _ e n=>kf b o (neP b n) e) (λb o _ _ _ e n=>⟨o.slots,kf b o (neP b n) e⟩) (λb o _ e n=>by rw[zF (neC b o e),zF (neP b n)];exact n) (λb o _ e=>?_) (λb xs e=>tr' _ _ e λz=>by rw[z,hT]at e;cases e) (λb o u e=>tr' _ _ e λz=>by rw[z,hT]at e;cases e) (λb qs e=>?_) (λm hm=>?_) (λb u e=>?_) I.bare
   ·by_cases z:b=P
    ·subst z;exact⟨_,we _ htb⟩
    ·exact⟨o,kf b o z e⟩
   ·by_cases z:b=P
    ·subst z
     rw[hT]at e;cases e
     exact⟨#[rawInt pos.line,rawInt pos.col,.ref c'],by rw[zF hcP.symm,zg]⟩
    ·exact⟨#[],by rw[tr' _ _ e z];simp⟩
   ·obtain⟨o,es,ep,ho,r⟩:=hm
    exact⟨o,es,ep,kf _ o (neP _ I.free) ho,r⟩
   ·by_cases zc:b=c'
    ·subst zc
     rw[zg]at e;cases e
     exact zar (hrec.push _)
    ·rw[zF zc]at e
     by_cases zp:b=P
     ·subst zp
      rw[zg]at e;cases e
      exact we _ htb
     ·rw[zF zp]at e
      refine(I.hok b u e).stay (λd v hd ev=>kf d v ?_ ev) (λd ed=>tr' _ _ ed λz=>by rw[z,hT]at ed;cases ed) λd xs ed=>tr' _ _ ed λz=>by rw[z,hT]at ed;cases ed
      rcases hd with rfl | hd
      ·exact zp
      ·intro z;rw[z,hT]at hd;cases hd
  refine h h'.objs.size c' ctv _ _ ⟨_,by rw[zF hcP.symm,zg],?_,.inr ⟨c',?_,zg⟩⟩ (λb o e n=>tr' b o e n) zg (J.pin1 (wu _ rfl) ?_ (Ze I.lt hq0).symm (I.nofs hq0) (λv=>by intro z;cases z)) (by rw[yj])
  ·rw[Array.toList_append]
   exact Zv tr (show TriplesOk [rawInt pos.line,rawInt pos.col,.ref c']from trivial)
  ·rw[Array.toList_append]
   exact codeAmong_snoc _ tr hnf
  ·rw[zF (uq hlt),zF (neP _ (I.hok.fresh hq0))];exact I.hok.fresh hq0
 ·refine PySem.W.kla_makeFunctionHit (mg:=X.mg) hcl hge hG hcode CH hP tr hf hB' λctv h' tk hk hsz=>?_
  have J:Inv X pz σ H { s with heap:=h'.push (PySem.W.kla_obj "<lambda>" qual params body scope [] ((X.mg "__name__").getD .none) c' ctv),toks:=tk }:=I.kept λb o e=>we _ (hk b o e)
  exact h h'.objs.size c' ctv _ _ ⟨ps,hT,tr,.inr ⟨c',hf,hc'⟩⟩ StT.refl hc' (J.pin1 (wu _ rfl) (I.hok.fresh hsz) (Ze I.lt hsz).symm (I.nofs hsz) (λv=>by intro z;cases z)) (by rw[yj])
end
section
variable {X:Cx}{te to ta tc:TE}{p2 pos kpos p:Pos}
def zhH (to:TE) (tl th:TO):TG:=λv σ H Q=>to σ H λx H1=>tl σ H1 λi H2=>th σ H2 λj H3=>∃l b xs ys a c,x=.ref l/\v=.ref b/\i=some a/\j=some c/\H3 l=some (.lst xs)/\H3 b=some (.lst ys)/\l≠b/\0<=a/\a<=c/\c<=(xs.length:Int)/\xs.length+ys.length<=sizeLine ∧
 Q σ (upd H3 l (.lst (xs.take a.toNat++ys++xs.drop c.toNat)))
theorem zd8 {o:Expr}{lo hi:Option Expr}{tl th:TO}(ho:PE X o to) (hl:PO X lo tl) (hh:PO X hi th)
  (ha:∀v,assign (.Subscript o (.Slice lo hi none p2) pos) X.env v=(do
   let ov <-holding [v] (eval o X.env)
   let iv <-holding [v,ov] (eval (.Slice lo hi none p2) X.env)
   standAt pos
   holding [v,ov,iv] (setItem ov iv v)
   release [iv,v,ov] []):=by intro _;rfl):PG X (.Subscript o (.Slice lo hi none p2) pos) (zhH to tl th):=by
 intro pz s σ H v u Q I r h
 rw[ha]
 refine wc (yn (thn (ho pz s σ H _ I h) λov s1 ⟨x,H1,I1,r1,q1⟩=>?_))
 refine wc (yn (Yl (thn (hl pz s1 σ H1 _ I1 q1) λvl s2 ⟨l,H2,I2,pl,q2⟩=>thn (hh pz s2 σ H2 _ I2 q2) λvu s3 ⟨u',H3,I3,pu,q3⟩=>?_)))
 rw[evalPart_none]
 refine wj ?_
 obtain⟨l',b,xs,ys,a,c,rfl,rfl,rfl,rfl,h1,h2,h3,h4,h5,h6,h7,q⟩:=q3
 cases r
 cases r1
 have I4:Inv X pz σ H3 { s3 with heap:=s3.heap.push { cls:=.type "slice",data:=.fields #[vl,vu,.none] } }:=I3.kept (t':=s3.toks) λb ob q=>we _ q
 refine wc (uB (wc (yn (zcO I4 h1 h2 h3 (Heap.IsSliceOf.new ..) (by cases pl;exact⟨_,rfl⟩) (by cases pu;exact⟨_,rfl⟩) h4 h5 h6 h7 λs' I'=>?_))))
 exact wpAny_release ⟨σ,_,I',q⟩
inductive zb9 (P:Addr) (qual:Str) (lpos:Pos) (N:List Str) (tb:TE) (Q:VK) (vs:List V) (H1:Hp):Prop
 |mk:∀l xs kz,(vs=[.ref l])->(H1 l=some (.lst xs))->(x0 P qual lpos H1)->(kz.length=xs.length)->(xs.length<64)->((∀(i:Nat) (v:V) (k:Int),xs[i]?=some v->kz[i]?=some k->∀H2,StT P H1 H2->tb (qm N [v]) H2 (λu H'=>u=.int k/\H'=H2)))->(∀D ys H2,StT P H1 H2->x0 P qual lpos H2->H2 D=none->zc3 kz xs ys->Q (.ref D) (upd H2 D (.lst ys)))->zb9 P qual lpos N tb Q vs H1
def zi1 (P:Addr) (qual:Str) (lpos:Pos) (N:List Str) (ta:TA) (tb:TE):TE:=λσ H Q=>ta σ H λvs H1=>zb9 P qual lpos N tb Q vs H1
theorem zd7 {e body:Expr}{params:Arguments}{scope:Scope}{lpos:Pos}{P c:Addr}{x qual:Str}{N:List Str}{ta:TA}{tb:TE}(hge:X.env.globals=mainGlobals) (hcode:X.env.code=.ref c) (hC:PySem.W.codeHdIn X.K c P=true)
  (hcl:closureFor scope X.env=pure []) (hdef:defaultsOf params X.env=([],[])) (hB:X.base.BuiltinsAt X.mg P) (hqu:X.env.qual++"<lambda>" = qual) (hr:xb 3 X.A) (S:zH N [x] scope)
  (hb:∀(pm cd ctv v:Value),bindArgs (PySem.W.kla_fn "<lambda>" qual params body scope [] pm cd ctv) ⟨[v],[]⟩=pure [(x,v)])
  (hg:Gl X "sorted") (hm:X.mg "sorted" = none) (ha:PA X [e] ta)
  (hpe:∀(q c':Addr) (s':Shared) (H':Hp),PE (xl CX0 X.prog X.w X.K X.mg X.base N qual scope q (.ref c') X.A.in1.in1 X.stack s' H' (λ_ _ _=>False)) body tb)
  (hbt:backTo pos (starEach [e] X.env)=(false,eval e X.env)::backTo pos (starEach [] X.env):=by rfl) :
  PE X (.Call (.Name "sorted" p) [e] [⟨some "key",.Lambda params body scope lpos,kpos⟩] pos) (zi1 P qual lpos N ta tb):=by
 intro pz s σ H Q I h
 refine yY (Zc I hg hm boot_sorted ?_ (by decide) (by decide))
 refine callWith_kw ?_ hbt (by rw[hbt];rfl) rfl rfl
 refine thn (ha pos pz s σ H _ I h) λus s1 ⟨vs,H1,I1,r1,q1⟩=>?_
 obtain⟨l,xs,kz,rfl,h1,h2,h3,h4,h5,h6⟩:=q1
 obtain⟨u,rfl,ru⟩:=Xi r1
 cases ru
 have hlP:l≠P:=λz=>by
  obtain⟨ps,e,_⟩:=h2
  rw[<-z,h1]at e;cases e
 refine kws_cons (zdJ I1 hge hcode hC hcl hdef hB hqu h2 λq c' ctv s' H' T' st' hc' J hq=>kws_nil ?_)
 show wpAny (model X.prog X.w) X.A (call (.builtin "sorted") [.ref l] [(Str.ofString "key",.ref q)]) _ _ s'
 refine zaX (φ:=λh=>h.CodeRec (.ref c') qual) J (wq _ (ye.mpr rL)) hq hc' (λ_ z=>z) hr S (hb _ _ _) (SqL.of (st' l _ h1 hlP)) h3 h4 (λi v k ev ek s''=>⟨tb,hpe q c' s'' H',h5 i v k ev ek H' st'⟩) λD ys s'' hD hK J'=>?_
 exact⟨.ref D,_,J'.unpinned,rL,h6 D ys H' st' T' hD hK⟩
end
def zcA {P:Program}{w:World}{K:Fg}{mg mb:Str->Option Value}{CX:CXT}{k:Nat}{fa a Tb c:Addr}{fd:FuncData}{x:Str}{sp:Sp}{s₁:Shared}{vs:List Value}{ns:List Int}
  (KX:K.In s₁.heap) (hns:s₁.heap.Ns mainGlobals mg) (hb:s₁.heap.Ns builtinsNs mb) (hbb:∀x:Str,x≠"__name__"->mb x=bootBuiltins x) (hlim:s₁.heap.NoLimit) (hg:s₁.gens = #[])
  (hbm:∃bm ob,mg "__builtins__" = some (.ref bm)/\bm≠builtinsNs/\s₁.heap.get? bm=some ob/\ob.cls=.type "module"/\ob.dict=some builtinsNs/\ob.data=.plain)
  (hTb:s₁.heap.get? Tb=some (PySem.W.tabObj #[])) (hKT:K.lookup Tb=none) (hC:PySem.W.codeHdIn K c Tb=true)
  (ha:s₁.heap.get? a=some { cls:=.type "list",data:=.seq vs.toArray }) (hi:IntsAre vs ns) (hl:ns.length<=sizeLine) (hr:xb k callerA)
  (F:∀base:Heap,K.In base->base.Ns mainGlobals mg->base.BuiltinsAt mg Tb->qP P w K mg base CX k fa fd [x] sp) (hbind:∀(s:Shared) (u:Value),BindsTo s fd ⟨[u],[]⟩ [(x,u)])
  (hsp:∀H:Hp,H Tb=some (.tbl #[])->SqL K H a (ns.map V.int)->sp [.ref a] H (λv _=>v=.bl true) λ_ _ _=>False)
  (hCX:∀H e s',CX [] H s₁ (λ_ _ _=>False) e s'->False) :
  codeAny (model P w) callerA (.call (.ref fa) ⟨[.ref a],[]⟩) (λr s'=>r=.ok (.ret (.bool true))/\OldK s₁.heap s'.heap/\s'.os=s₁.os/\AllBare s'.gens) s₁:=by
 have rv:=VI hi
 have lenV:=hi.length
 have haT:a≠Tb:=λz=>by rw[z,hTb]at ha;cases ha
 have core:∀H:Hp,H Tb=some (.tbl #[])->SqL K H a (ns.map V.int)->HOk P w H s₁.heap->(∀b,b≠Tb->H b=none\/(b=a/\∃o xs,H b=some (.frz o (.lst xs))))->(H a≠none->K.lookup a=none) →
   codeAny (model P w) callerA (.call (.ref fa) ⟨[.ref a],[]⟩) (λr s'=>r=.ok (.ret (.bool true))/\OldK s₁.heap s'.heap/\s'.os=s₁.os/\AllBare s'.gens) s₁:=by
  intro H hT hS hok hO hK
  have base_of:∀{b:Addr}{o:Obj},s₁.heap.get? b=some o->H b=none->(Vk s₁.heap H).get? b=some o:=λe n=>zdB e n
  have noA:∀{b:Addr}{o:Obj},s₁.heap.get? b=some o->(∀xs n,o.data≠.seq xs n)->(∀xs,o.data≠.fields xs)->H b=none:=λ{b o} e d1 d2=>by
   by_cases hbT:b=Tb
   ·subst hbT;rw[hTb]at e;cases e;exact absurd rfl (d2 #[])
   ·rcases hO b hbT with z | ⟨rfl,_⟩
    ·exact z
    ·rw[ha]at e;cases e;exact absurd rfl (d1 _ _)
  have nsK:∀{b:Addr}{m:Str->Option Value},s₁.heap.Ns b m->(Vk s₁.heap H).Ns b m:=λ{b m} ⟨o,es,ep,e,d,r⟩=>⟨o,es,ep,base_of e (noA e (λ_ _ z=>by rw[d]at z;cases z) λ_ z=>by rw[d]at z;cases z),d,r⟩
  have hKb:K.In (Vk s₁.heap H):=λb o e=>base_of (KX b o e) (by
   by_cases hbT:b=Tb
   ·subst hbT;rw[hKT]at e;cases e
   ·rcases hO b hbT with z | ⟨rfl,o',xs,z⟩
    ·exact z
    ·rw[hK (by rw[z];simp)]at e;cases e)
  have hM:Mod K mg (Vk s₁.heap H):=⟨hKb,nsK hns,⟨mb,nsK hb,hbb⟩,let ⟨mc,h1,h2⟩:=hlim;⟨mc,nsK h1,h2⟩⟩
  have hBA:(Vk s₁.heap H).BuiltinsAt mg Tb:=by
   obtain⟨bm,ob,b1,b2,b3,b4,b5,b6⟩:=hbm
   refine⟨bm,ob,b1,b2,λz=>?_,λz=>?_,base_of b3 (noA b3 (λ_ _ z=>by rw[b6]at z;cases z) λ_ z=>by rw[b6]at z;cases z),b4,b5,b6⟩
   ·obtain⟨o,es,ep,e,d,_⟩:=hns
    rw[z,e]at b3;cases b3;rw[d]at b6;cases b6
   ·rw[z,hTb]at b3;cases b3;cases b4
  have e0:Qr P w K mg (Vk s₁.heap H) callerA [] s₁ H:=⟨rfl,hM,λb o e=>zfu e,WM (zcu _ _),trivial,λb hb=>absurd (show b∈([]:List Addr)from hb) (by simp),hok,.of_eq hg⟩
  refine codeAny_mono ((F _ hKb (nsK hns) hBA).run callerA [] s₁ H ⟨[.ref a],[]⟩ [.ref a] [.ref a] _ _ hr e0 (hbind s₁ (.ref a)) (.cons rL .nil) (hsp H hT hS)) λr s' h=>?_
  cases r with
  |error e=>exact(hCX H e s' h).elim
  |ok fl =>
   cases fl with
   |next=>exact False.elim h
   |brk=>exact False.elim h
   |cont=>exact False.elim h
   |ret u =>
    obtain⟨v,H',os,bare,un,hok',r',q⟩:=h
    have q':v=.bl true:=q
    subst q'
    obtain rfl:u=Value.bool true:=r'
    have old:∀b o,b≠Tb->s₁.heap.get? b=some o->s'.heap.get? b=some o:=λb o hbT e=>by
     rcases hO b hbT with z | ⟨_,ob,xs,z⟩
     ·exact un.keep b o e z (by intro z;exact absurd (show b∈([]:List Addr)from z) (by simp)) (by simp)
     ·have z2:=un.frzs b ob _ z
      obtain⟨e1,_⟩:=hok b _ z
      obtain⟨e2,_⟩:=hok' b _ z2
      rw[e]at e1;cases e1
      exact e2
    obtain⟨more,eT⟩:=un.tbls Tb #[] hT
    have gT:s'.heap.get? Tb=some (PySem.W.tabObj (#[]++more)):=hok' Tb _ eT
    refine⟨rL,⟨λb o e=>?_,λb o e=>?_⟩,os,bare⟩
    ·by_cases hbT:b=Tb
     ·subst hbT
      rw[hTb]at e;cases e
      exact .inr (.inl ⟨((PySem.W.codeHd_of_K KX hC).tab hTb).isCodeTable,rL,#[],more,rL,gT⟩)
     ·exact .inl (old b o hbT e)
    ·by_cases hbT:b=Tb
     ·subst hbT;exact⟨_,gT⟩
     ·exact⟨o,old b o hbT e⟩
 cases hk:K.lookup a with
 |some o =>
  have e:=KX a o hk
  rw[ha]at e
  cases e
  refine core (λb=>if b=Tb then some (.tbl #[])else none) (if_pos rfl) (.inr ⟨_,vs.toArray,_,hk,rfl,rfl,rfl,by rw[wy,lenV];exact hl,↥rv⟩) (λb u z=>?_) (λb hb=>.inl (if_neg hb)) λz=>absurd (if_neg haT) z
  by_cases hb:b=Tb
  ·have z':=(if_pos hb).symm.trans z
   cases z'
   subst hb
   exact hTb
  ·have z':=(if_neg hb).symm.trans z
   cases z'
 |none =>
  refine core (λb=>if b=Tb then some (.tbl #[])else if b=a then some (.frz { cls:=.type "list",data:=.seq vs.toArray } (.lst (ns.map V.int)))else none) (if_pos rfl) (.inl (.inr ⟨{ cls:=.type "list",data:=.seq vs.toArray },by show (if a=Tb then _ else _)=_;rw[if_neg haT,if_pos rfl]⟩)) (λb u z=>?_) (λb hb=>?_) λ_=>hk
  ·by_cases hb:b=Tb
   ·have z':=(if_pos hb).symm.trans z
    cases z'
    subst hb
    exact hTb
   ·have z1:=(if_neg hb).symm.trans z
    by_cases hb2:b=a
    ·have z':=(if_pos hb2).symm.trans z1
     cases z'
     subst hb2
     exact⟨ha,by rw[wf];exact hl,vs,_,rv,ha⟩
    ·have z':=(if_neg hb2).symm.trans z1
     cases z'
  ·by_cases hb2:b=a
   ·exact .inr ⟨hb2,_,_,by show (if b=Tb then _ else _)=_;rw[if_neg hb,if_pos hb2]⟩
   ·exact .inl (by show (if b=Tb then _ else _)=_;rw[if_neg hb,if_neg hb2])
def zeW {l:PySem.W.OpenLaw}{n k:Nat}{q:Program}{loose:List Str}{XP:(Str->Option Value)->Heap->Prop}{YP:World->Heap->Prop}{d:DefRec}{K:Params->Fg}{CX:World->CXT}{sp:World->Sp}{x:Str}{Tb c:Addr}
  (hn:l.most=some n) (hn2:n<=sizeLine) (hdf:d.params.defaults=[]) (hr:xb k callerA)
  (hY:∀(w:World) (h:Heap),YP w h->(K w.params).In h/\h.get? Tb=some (PySem.W.tabObj #[])) (hKT:∀w:World,(K w.params).lookup Tb=none) (hC:∀w:World,PySem.W.codeHdIn (K w.params) c Tb=true)
  (F:∀(w:World) (mg:Str->Option Value) (fa:Addr) (h:Heap),(K w.params).In h->h.Ns mainGlobals mg->mg d.name=some (.ref fa) →
   ∃fd:FuncData,(∀(s:Shared) (u:Value),BindsTo s fd ⟨[u],[]⟩ [(x,u)]) ∧
    ∀base:Heap,(K w.params).In base->base.Ns mainGlobals mg->base.BuiltinsAt mg Tb->qP l.prog w (K w.params) mg base (CX w) k fa fd [x] (sp w))
  (hsp:∀(w:World) (H:Hp) (a:Addr) (ns:List Int),ns.length<=n->H Tb=some (.tbl #[])->SqL (K w.params) H a (ns.map V.int)->sp w [.ref a] H (λv _=>v=.bl true) λ_ _ _=>False)
  (hCX:∀(w:World) (H:Hp) (s:Shared) (e:Value) (s':Shared),CX w [] H s (λ_ _ _=>False) e s'->False) :
  PySem.W.WalkO q loose XP YP l.row.toRowW d [] (λf vs=>PySem.call f vs):=by
 refine Att.attach_call hn hdf λw s₀ s₁ mg mb fa o pm cd doc a vs ns G Y ho hd hcd hmg hobj hints hlen hg=>?_
 obtain⟨KX,hT⟩:=hY w _ Y
 obtain⟨fd,hb,hF⟩:=F w mg fa _ KX G.T.g hmg
 exact zcA KX G.T.g G.T.b G.T.builtins G.T.nolimit hg G.T.bmain hT (hKT w) (hC w) hobj hints (wV hlen hn2) hr hF hb (λH hO hS=>hsp w H a ns hlen hO hS) λH e s'=>hCX w H s₁ e s'
section
variable {prog:Program}{w:World}{A:Around}{E:Value->Shared->Prop}{s:Shared}
theorem JE {h h':Heap}{l a:Addr}{items:Array Value}(hl:h.IsList l items) (he:Heap.ExtBut a h h') (n:l≠a):h'.IsList l items:=by
 obtain⟨o,ho,r⟩:=hl
 exact⟨o,he l o n ho,r⟩
theorem Qz {it l:Addr}{items:Array Value}(hne:l≠it):∀(n i:Nat) (s:Shared) (Q:List Value->Shared->Prop),s.heap.IsListIter it l i->s.heap.IsList l items->i+n<=items.size →
  (∀h',h'.IsListIter it l (i+n)->Heap.SameBut it s.heap h'->Q ((items.toList.drop i).take n) { s with heap:=h' })->wpAny (model prog w) A (draw (.ref it) n) Q E s
 |0,i,s,Q,hit,_,_,hQ=>by
  show wpAny _ _ (pure []) Q E s
  exact wj (by simpa using hQ s.heap hit (Heap.SameBut.refl ..))
 |n+1,i,s,Q,hit,ht,hle,hQ=>by
  have hlt:i<items.size:=by lia
  show wpAny _ _ (pyNext (.ref it) >>= _) Q E s
  refine wc (wpAny_pyNext_list_item hit ht (x:=items[i]) (by simp[hlt]) λh₁ hit₁ hs₁=>?_)
  refine wc (yn (Qz hne n (i+1) _ _ hit₁ (JE ht hs₁.extBut hne) ∅ λh₂ hit₂ hs₂=>wj ?_))
  have hd:items.toList.drop i=items[i]::items.toList.drop (i+1):=by simp[yg,hlt]
  have:=hQ h₂ (by rw[show i+(n+1)=i+1+n by lia];exact hit₂) (hs₁.trans hs₂)
  rw[hd,WF]at this
  exact this
theorem Xh {l:Addr}{items:Array Value}{Q:List Value->Shared->Prop}(hh:A.handled=none) (ht:s.heap.IsList l items)
  (hQ:∀h',Heap.ExtBut s.heap.objs.size s.heap h'->Q items.toList { s with heap:=h' }):wpAny (model prog w) A (unpackItems (.ref l) items.size none) Q E s:=by
 have hlt:l≠s.heap.objs.size:=by obtain⟨o,ho,_⟩:=ht;exact wN (wx ho)
 have pu:(s.heap.push { cls:=.type "list_iterator",data:=.fields #[.ref l,.int 0 0] }).IsList l items:=by
  obtain⟨o,ho,r⟩:=ht;exact⟨o,we _ ho,r⟩
 unfold unpackItems
 refine wc ?_
 unfold notIterableAtAll
 refine wc (Yf ht.typeIs slot_list_iter.lookup ?_)
 refine wj ?_
 simp only[uh,if_false]
 refine wc (yn (uo ht ?_))
 refine wc (yn (Qz hlt items.size 0 _ _ ⟨_,wu _ rL,rL,rL⟩ pu ∅ λh₁ hit₁ hs₁=>?_))
 have hall:List.take items.size (List.drop 0 items.toList)=items.toList:=by
  rw[List.drop_zero];exact w4 (by simp)
 rw[hall]
 rw[if_neg (by simp)]
 have ht₁:h₁.IsList l items:=JE pu hs₁.extBut hlt
 refine wc (yn (wpAny_pyNext_list_end hh hit₁ ht₁ (by simp) λh₂ he₂=>?_))
 simp only[Option.isSome_none,uh,if_false]
 refine wj (hQ h₂ λb o hb e=>he₂ b o hb (hs₁.extBut b o hb (we _ e)))
end
section
variable {X:Cx}{pos:Pos}
def zjn (K:Fg) (n:Nat) (t:TGs):TG:=λv σ H Q=>∃a xs,v=.ref a/\SqL K H a xs/\xs.length=n/\t xs σ H Q
theorem zbJ {es:List Expr}{k:Nat}{t:TGs}{n:Nat}(hc:X.calm=true) (h:PGs X es t)
  (hn:(assignEach es X.env).length=n:=by rfl) (hst:(assignEach es X.env).findIdx? (·.1)=none:=by rfl):PG X (.Tuple es k pos) (zjn X.K n t):=by
 intro pz s σ H v u Q I r hw
 obtain⟨a,xs,e1,hq,hl,hw⟩:=hw
 subst e1
 cases r
 obtain⟨its,rv,ht,hz⟩:=I.list hq
 rw[assign_Tuple]
 refine wc (uB ?_)
 unfold unpack
 have hsz:(assignEach es X.env).length=its.toArray.size:=by simp[hn,<-hl,rv.length]
 rw[hsz,hst]
 refine wc (yn (Xh (I.ok.hd hc) ht.isList λh' hx=>?_))
 have I1:Inv X pz σ H { s with heap:=h' }:=I.kept (t':=s.toks) λb o e=>hx b o (wN (wx e)) e
 exact h pz _ σ H xs _ Q I1 ↥rv hw
end
section
variable {κ:Type} [DecidableEq κ]
def Jh (kvs:List (κ×V)) (k:κ):Option V:=(kvs.find? λkv=>decide (kv.1=k)).map (·.2)
def JQ (kvs:List (κ×V)) (k:κ) (v:V):List (κ×V) :=
 if(kvs.any λkv=>decide (kv.1=k))=true then kvs.map (λkv=>if kv.1=k then(kv.1,v)else kv)else kvs++[(k,v)]
theorem zac {p:κ×V}{r:List (κ×V)}{k:κ}(e:p.1=k):Jh (p::r) k=some p.2:=by simp[Jh,uK,e]
theorem zab {p:κ×V}{r:List (κ×V)}{k:κ}(e:¬p.1=k):Jh (p::r) k=Jh r k:=by simp[Jh,uK,e]
theorem JB (kvs:List (κ×V)) (k:κ) (v:V):(JQ kvs k v).length<=kvs.length+1:=by
 unfold JQ
 split
 ·rw[wf];lia
 ·rw[wC,wJ,ue];lia
theorem KV.val {kvs:List (κ×V)}{vs:List (κ×Value)} (r:KV kvs vs) (k:κ):Xl (Jh kvs k) (valueAt vs k):=by
 unfold KV at r
 induction r with
 |nil=>exact True.intro
 |@cons p q ps qs h t ih =>
  obtain⟨h1,h2⟩:=h
  by_cases e:p.1=k
  ·have e':q.1=k:=h1.symm.trans e
   have b:valueAt (q::qs) k=some q.2:=by simp[valueAt,uK,e']
   rw[zac e,b];exact h2
  ·have e':¬q.1=k:=λz=>e (h1.trans z)
   have b:valueAt (q::qs) k=valueAt qs k:=by simp[valueAt,uK,e']
   rw[zab e,b];exact ih
theorem KV.any {kvs:List (κ×V)}{vs:List (κ×Value)} (r:KV kvs vs) (k:κ):(kvs.any λkv=>decide (kv.1=k))=vs.any λkv=>decide (kv.1=k):=by
 unfold KV at r
 induction r with
 |nil=>rfl
 |cons h t ih=>rw[List.any_cons,List.any_cons,ih,h.1]
theorem KV.repl {kvs:List (κ×V)}{vs:List (κ×Value)} (r:KV kvs vs) (k:κ){y:V}{u:Value}(ry:xq y u) :
  KV (kvs.map λkv=>if kv.1=k then(kv.1,y)else kv) (vs.map λkv=>if kv.1=k then(kv.1,u)else kv):=by
 unfold KV at r ⊢
 induction r with
 |nil=>exact .nil
 |@cons p q ps qs h t ih =>
  rw[yw,yw]
  refine .cons ?_ ih
  obtain⟨h1,h2⟩:=h
  by_cases e:p.1=k
  ·rw[if_pos e,if_pos (h1.symm.trans e)];exact⟨h1,ry⟩
  ·rw[if_neg e,if_neg (λz=>e (h1.trans z))];exact⟨h1,h2⟩
theorem KV.put {kvs:List (κ×V)}{vs:List (κ×Value)} (r:KV kvs vs) (k:κ){y:V}{u:Value}(ry:xq y u):KV (JQ kvs k y) (stored vs k u):=by
 unfold JQ stored
 rw[r.any k]
 by_cases e:(vs.any λkv=>decide (kv.1=k))=true
 ·rw[if_pos e,if_pos e];exact r.repl k ry
 ·rw[if_neg e,if_neg e];exact Paired.snoc r ⟨rfl,ry⟩
end
def zdH {P:Program}{w:World}{k:Key}{u:Value}(r:xq (kV k) u):(xX P w).is k u=true:=by
 cases k with
 |inl i=>obtain⟨t,e⟩:=(show ∃t,u=Value.int i t from r);subst e;exact JH P w i t
 |inr x=>obtain⟨t,e⟩:=(show ∃t,u=Value.str x t from r);subst e;exact JI P w x t
def Vz {P:Program}{w:World}:∀{ks:List Key}{us:List Value},zY (ks.map kV) us->ItemsAre (xX P w) ks us
 |[],_,r=>by rw[W9]at r;cases r;exact .nil
 |k::ks,_,r=>by
  rw[yw]at r
  cases r with
  |cons h t=>exact .cons (zdH h) (Vz t)
abbrev KT (H:Hp):List (List Key×V)->List (List Key×Addr×Value)->Prop:=Paired λp q=>p.1=q.1/\H q.2.1=some (.tup (p.1.map kV))/\xq p.2 q.2.2
def KT.val {H:Hp}{kvs:List (List Key×V)}{xs:List (List Key×Addr×Value)} (r:KT H kvs xs) (k:List Key):Xl (Jh kvs k) ((atKey xs k).map (·.2)):=by
 induction r with
 |nil=>exact True.intro
 |@cons p q ps qs h t ih =>
  obtain⟨h1,_,h2⟩:=h
  by_cases e:p.1=k
  ·have e':q.1=k:=h1.symm.trans e
   have b:atKey (q::qs) k=some q.2:=by simp[atKey,uK,e']
   rw[zac e,b];exact h2
  ·have e':¬q.1=k:=λz=>e (h1.trans z)
   have b:atKey (q::qs) k=atKey qs k:=by simp[atKey,uK,e']
   rw[zab e,b];exact ih
section
variable {P:Program}{w:World}{H:Hp}{h:Heap}{a:Addr}
theorem zg2 {u:HO}(ok:HOk P w H h) (e:Rd H a u):xu P w H h a u:=e.ok ok
theorem zdo {kvs:List (Key×V)} (ok:HOk P w H h) (e:Rd H a (.dK kvs)):kvs.length<=sizeLine/\(a == sysModules)=false/\∃vs,KV kvs vs/\h.DictOf (xX P w) a vs :=
 show xu P w H h a (.dK kvs)from zg2 ok e
theorem zjj {kvs:List (Key×V)} (ok:HOk P w H h) (e:H a=some (.dK kvs)):kvs.length<=sizeLine/\(a == sysModules)=false/\∃vs,KV kvs vs/\h.DictOf (xX P w) a vs:=zdo ok (.inl e)
theorem zdI {ks:List Key}(ok:HOk P w H h) (e:H a=some (.tup (ks.map kV))):(tupleKind (xX P w)).is h ks a:=by
 obtain⟨_,its,r,o,h1,h2,n,h3⟩:=(show xu P w H h a (.tup (ks.map kV))from ok a _ e)
 exact⟨o,its.toArray,n,h1,h2,h3,by simpa using Vz r⟩
theorem zgK {kvs:List (List Key×V)} (ok:HOk P w H h) (e:Rd H a (.dT kvs)):kvs.length<=sizeLine/\(a == sysModules)=false ∧
  ∃xs,KT H kvs xs/\h.DictOfH (tupleKind (xX P w)) a xs:=by
 obtain⟨z,y,xs,r,o,es,ep,h1,h2,h3,h4,h5⟩:=(show xu P w H h a (.dT kvs)from zg2 ok e)
 refine⟨z,y,xs,r,o,es,ep,h1,h2,h3,h4,λx hx=>?_,h5⟩
 have all:∀{l:List (List Key×V)}{m:List (List Key×Addr×Value)},KT H l m->∀x∈m,(tupleKind (xX P w)).is h x.1 x.2.1:=by
  intro l m q
  induction q with
  |nil=>intro x hx;exact nomatch hx
  |@cons p q ps qs hq t ih =>
   intro x hx
   rcases ww.mp hx with e | hx
   ·subst e
    exact zdI ok (by rw[<-hq.1];exact hq.2.1)
   ·exact ih x hx
 exact all r x hx
end
def ze7 (H:Hp) (a:Addr) (y:V) (r:Option V):Prop :=
 (∃kvs k,Rd H a (.dK kvs)/\y=kV k/\r=Jh kvs k)\/∃kvs k b,Rd H a (.dT kvs)/\y=.ref b/\H b=some (.tup (k.map kV))/\r=Jh kvs k
section
variable {X:Cx}{pz:List (Addr×Obj)}{σ:St}{H:Hp}{s:Shared}{a:Addr}{y v:V}{u r:Value}{o:Option V}{A:Around}{E:Value->Shared->Prop}
theorem Inv.big (I:Inv X pz σ H s):sysModules<s.heap.objs.size:=by
 have h:mainGlobals<s.heap.objs.size:=(I.mod.glob.keeps I.bk).lt
 exact Nat.lt_trans (by decide) h
theorem zcp {Q:Value->Shared->Prop}(hu:A.units+1<cLine) (I:Inv X pz σ H s) (g:ze7 H a y (some v)) (ry:xq y u) (h:∀w' s',Inv X pz σ H s'->xq v w'->Q w' s') :
  wpAny (model X.prog X.w) A (getItem (.ref a) u) Q E s:=by
 rcases g with⟨kvs,k,e,ey,l⟩ | ⟨kvs,k,b,e,ey,eb,l⟩
 ·subst ey
  obtain⟨z,hd,vs,rel,dd⟩:=zdo I.hok e
  obtain⟨w',hw,rw'⟩:=Xl.some_of (v:=v) (o:=valueAt vs k) (by rw[l];exact rel.val k)
  exact wpAny_getItem_of (zdH ry) dd.mapOf hw (h w' _ (I.tok _) rw')
 ·subst ey
  cases(show u=Value.ref b from ry)
  obtain⟨z,hd,xs,rel,dd⟩:=zgK I.hok e
  obtain⟨w',hw,rw'⟩:=Xl.some_of (v:=v) (o:=(atKey xs k).map (·.2)) (by rw[l];exact rel.val k)
  obtain⟨p,hp,hp2⟩:=wY.mp hw
  refine wpAny_getItem_heap (tupleKind_room_in1 hu) (zdI I.hok eb) dd hp ?_
  rw[hp2]
  exact h w' _ (I.tok _) rw'
theorem zff {h':Heap}{t':Nat}{ob:HO}(I:Inv X pz σ H s) (mu:Mut (H a)) (hs:Heap.SameBut a s.heap h') (he:∃q,h'.get? a=some q) (new:xu X.prog X.w (upd H a ob) h' a ob) :
  Inv X pz σ (upd H a ob) { s with heap:=h',toks:=t' } :=
 I.write (x:=a) (e:=a) mu (.inl rfl) (λb q hb z=>(hs.2 b hb).trans z) he new
theorem zhC {P:Program}{w:World}{H':Hp}{h':Heap}{kvs:List (Key×V)}{vs:List (Key×Value)} (z:kvs.length<=sizeLine) (hd:(a == sysModules)=false) (rel:KV kvs vs) (dd:h'.DictOf (xX P w) a vs) :
  xu P w H' h' a (.dK kvs):=⟨z,hd,vs,rel,dd⟩
end
def zja (i:Expr):Prop:=∀ov iv,subscripted i false ov iv=operate [ov,iv] (getItem ov iv)
def zgv {prog:Program}{w:World}{A:Around}{E:Value->Shared->Prop}{s:Shared}{env:Env}{value slice:Expr}{pos:Pos}{T id:String}{Q:Value->Shared->Prop}
  (hl:typeLookup (.type T) "__getitem__" = pure (some (.builtin id))) (hs:zja slice)
  (h:wpAny (model prog w) A (eval value env) (λo s₁=>wpAny (model prog w) A (eval slice env) (λi s₂=>s₂.TypeIs o T/\wpAny (model prog w) A (getItem o i) Q E s₂) E s₁) E s) :
  wpAny (model prog w) A (eval (.Subscript value slice pos) env) Q E s:=by
 refine Subscript_ (yC h (λo s₁ h₁=>yC h₁ (λi s₂ h₂=>?_) λ_ _ x=>x) λ_ _ x=>x)
 obtain⟨hT,h₂⟩:=h₂
 unfold subscriptTail
 refine wc ?_
 rw[getitemInPython_of_ne hT.not_modules]
 refine wc (Yf hT hl ?_)
 have fin:wpAny (model prog w) A (subscripted slice false o i) (λr s₃=>wpAny (model prog w) A (letTemporaryGo value o r >>= λ_=>pure r) Q E s₃) E s₂:=by
  rw[hs o i]
  exact wpAny_operating (yC h₂ (λr s₃ h₃=>wc (wpAny_letTemporaryGo (wj h₃))) λ_ _ x=>x)
 first
  |exact wj (wc fin)
  |exact wc (wj (wc fin))
  |exact wc fin
def Jv {X:Cx}{pz:List (Addr×Obj)}{σ:St}{H:Hp}{s:Shared}{a:Addr}{y:V}{o:Option V}(I:Inv X pz σ H s) (g:ze7 H a y o):s.TypeIs (.ref a) "dict":=by
 rcases g with⟨kvs,k,e,_,_⟩ | ⟨kvs,k,b,e,_,_,_⟩
 ·obtain⟨_,_,vs,_,dd⟩:=zdo I.hok e
  exact dd.typeIs
 ·obtain⟨_,_,xs,_,dd⟩:=zgK I.hok e
  exact dd.typeIs
inductive zeM (Q:VK) (x:V) (y:V) (H2:Hp):Prop
 |mk:∀a v,(x=.ref a)->(ze7 H2 a y (some v))->(Q v H2)->zeM Q x y H2
def zkF (td ty:TE):TE:=λσ H Q=>td σ H λx H1=>ty σ H1 λy H2=>zeM Q x y H2
section
variable {X:Cx}{o i e value:Expr}{pos pos' tpos:Pos}{td ty tv:TE}
theorem zfL (hu:X.A.units+1<cLine) (ho:PE X o td) (hi:PE X i ty) (hs:zja i):PE X (.Subscript o i pos) (zkF td ty):=by
 intro pz s σ H Q I h
 refine zgv PySem.F.slot_dict_getitem.lookup hs (thn (ho pz s σ H _ I h) λu s1 ⟨x,H1,I1,rx,q1⟩=>thn (hi pz s1 σ H1 _ I1 q1) λiv s2 ⟨y,H2,I2,ry,a,v,ex,g,q2⟩=>?_)
 subst ex
 obtain rfl:u=Value.ref a:=rx
 exact⟨Jv I2 g,zcp hu I2 g ry λw' s3 I3 rw'=>⟨v,H2,I3,rw',q2⟩⟩
end
def zdn {P:Program}{w:World}{H:Hp}(h:Heap) (hb:sysModules<h.objs.size):xu P w H (h.push { cls:=.type "dict",data:=.dict #[] }) h.objs.size (.dK []) :=
 ⟨yu _,beq_eq_false_iff_ne.mpr (Ne.symm (wN hb)),[],.nil,Heap.DictOf.new h⟩
def za1:List (TE×TE)->St->Hp->(List (V×V)->Hp->Prop)->Prop
 |[],_,H,Q=>Q [] H
 | (tk,tv)::r,σ,H,Q=>tk σ H λx H1=>tv σ H1 λy H2=>za1 r σ H2 λps H3=>Q ((x,y)::ps) H3
abbrev VV:List (V×V)->List (Value×Value)->Prop:=Paired λp q=>xq p.1 q.1/\xq p.2 q.2
def PPs (X:Cx) (pos:Pos) (keys:List (Option Expr)) (values:List Expr) (trs:List (TE×TE)):Prop :=
 ∀(pz:List (Addr×Obj)) (s:Shared) (σ:St) (H:Hp) (Q:List (V×V)->Hp->Prop),Inv X pz σ H s->za1 trs σ H Q →
  wpAny (model X.prog X.w) X.A (evalPairs (pairTrees keys values X.env pos)) (λvs s'=>∃ps H',Inv X pz σ H' s'/\VV ps vs/\Q ps H') X.xe s
def zfR {X:Cx}{pos:Pos}:PPs X pos [] [] []:=λpz s σ H Q I h=>pairTrees_nil_walk ⟨[],H,I,.nil,h⟩
def QO {X:Cx}{pos:Pos}{k v:Expr}{ks:List (Option Expr)}{vs:List Expr}{tk tv:TE}{trs:List (TE×TE)} (hk:PE X k tk) (hv:PE X v tv) (hr:PPs X pos ks vs trs) :
  PPs X pos (some k::ks) (v::vs) ((tk,tv)::trs):=λpz s σ H Q I h =>
 pairTrees_cons_walk (thn (hk pz s σ H _ I h) λu s1 ⟨x,H1,I1,rx,q1⟩=>thn (hv pz s1 σ H1 _ I1 q1) λw2 s2 ⟨y,H2,I2,ry,q2⟩ =>
  thn (hr pz s2 σ H2 _ I2 q2) λws s3 ⟨ps,H3,I3,rel,q3⟩=>⟨(x,y)::ps,H3,I3,.cons ⟨rx,ry⟩ rel,q3⟩)
def Xt (kvs more:List (Key×V)):List (Key×V):=more.foldl (λacc kv=>JQ acc kv.1 kv.2) kvs
def KV.merge:∀{more:List (Key×V)}{rs:List (Key×Value)}{kvs:List (Key×V)}{vs:List (Key×Value)},KV more rs->KV kvs vs->KV (Xt kvs more) (merged vs rs):=by
 intro more rs kvs vs r
 unfold KV at r
 induction r generalizing kvs vs with
 |nil=>intro q;exact q
 |@cons p q ps qs h t ih =>
  intro r0
  have e:KV (JQ kvs p.1 p.2) (stored vs q.1 q.2):=by
   have:=r0.put p.1 h.2
   rw[<-h.1];exact this
  exact ih e
def ZI:∀(more kvs:List (Key×V)),(Xt kvs more).length<=kvs.length+more.length
 |[],kvs=>by show kvs.length<=kvs.length+0;lia
 |p::r,kvs=>by
  have h1:=ZI r (JQ kvs p.1 p.2)
  have h2:=JB kvs p.1 p.2
  show (Xt (JQ kvs p.1 p.2) r).length<=_
  rw[wJ];lia
def Qx {P:Program}{w:World}:∀{kvs:List (Key×V)}{ws:List (Value×Value)},VV (kvs.map λkv=>(kV kv.1,kv.2)) ws->∃rs,Carries (xX P w) ws rs/\KV kvs rs
 |[],_,r=>by rw[W9]at r;cases r;exact⟨[],True.intro,.nil⟩
 |p::kvs,_,r=>by
  rw[yw]at r
  cases r with
  |@cons a b as bs h t =>
   obtain⟨rs,c,q⟩:=Qx (P:=P) (w:=w) t
   obtain⟨b1,b2⟩:=b
   exact⟨(p.1,b2)::rs,⟨zdH h.1,rL,c⟩,.cons ⟨rL,h.2⟩ q⟩
def zkG (trs:List (TE×TE)):TE:=λσ H Q=>∀p,H p=none->za1 trs σ (upd H p (.dK [])) λps H2=>H2 p=some (.dK [])/\∃kvs:List (Key×V),ps=kvs.map (λkv=>(kV kv.1,kv.2))/\kvs.length<=15/\Q (.ref p) (upd H2 p (.dK (Xt [] kvs)))
def zfM {X:Cx}{pos:Pos}{keys:List (Option Expr)}{values:List Expr}{trs:List (TE×TE)} (h:PPs X pos keys values trs) (hall:keys.all (·.isSome)=true) (hl:keys.length=values.length) (h0:keys≠[])
  (h15:keys.length<=15):PE X (.Dict keys values pos) (zkG trs):=by
 intro pz s σ H Q I q
 have hn:=I.hok.fresh (wo s.heap.objs.size)
 have I1:=I.laid (a:=s.heap.objs.size) (o:=.dK []) (h':=s.heap.push { cls:=.type "dict",data:=.dict #[] }) (t':=s.toks) (λ_ _ q=>we _ q) (wo _) (zdn s.heap I.big)
 refine wpAny_Dict_walk (knd:=xX X.prog X.w) hall hl h0 h15 (thn (h pz _ σ _ _ I1 (q _ hn)) λws s2 ⟨ps,H2,I2,rel,e,kvs,ep,lk,q2⟩=>?_)
 subst ep
 obtain⟨rs,c,rk⟩:=Qx (P:=X.prog) (w:=X.w) rel
 obtain⟨z,hd,vs0,r0,dd⟩:=zjj I2.hok e
 cases r0
 refine⟨rs,c,dd,λh' dd' hs=>⟨.ref s.heap.objs.size,_,?_,rL,q2⟩⟩
 have hz:(Xt [] kvs).length<=sizeLine:=by
  have h1:=ZI kvs []
  rw[ue]at h1
  rw[sizeLine_eq];lia
 have he:∃q,h'.get? s.heap.objs.size=some q:=let ⟨q,_,_,hq,_⟩:=dd';⟨q,hq⟩
 exact zff I2 (by rw[e];exact True.intro) hs he (zhC hz hd (rk.merge .nil) dd')
end L2
namespace Att
open PySem PySem.W PySem.Calls PyProof.Rows
end Att
namespace L2
open PySem PySem.Spec PyProof.Rows
open PySem.W
def FlX.keeps {B h h':Heap}{l:List Env}{e:Addr}{cls a0:Value}{dct:Option Addr}(x:FlX B l e cls a0 dct h) (k:∀b o,h.get? b=some o->h'.get? b=some o):FlX B l e cls a0 dct h':=by
 obtain⟨f1,f2,f3,oe,ws,T,oT,ts,he,hc,hdc,hd,h0,h1,hn,hne,hT,hdT,h3⟩:=x
 exact⟨λb o q=>k b o (f1 b o q),f2,f3.of_keeps λb o q _=>⟨o,k b o q,rL⟩,oe,ws,T,oT,ts,k _ _ he,hc,hdc,hd,h0,h1,hn,hne,k _ _ hT,hdT,h3⟩
def zdP {M:Model}{h:Heap}{a:Addr}{o:Obj}{c:Value}(e:h.get? a=some o) (k:o.cls=c):Looks M h (typeOf (.ref a)) c:=by
 subst k;exact(Looks.ld e).andThen .now
def zkP (C1 C2:Addr) (tb:XJ->TS) (ts:TS):TS:=λD σ H=>tb (λC' _ σ' H'=>(C'=C1\/C'=C2)/\ts D σ' H') D σ H
section
variable {X:Cx}{x y:Str}{C1 C2:Addr}{np np2 hpos pos tpos:Pos}{kk:Nat}{body suite:List Stmt}{b₀:Stmt}{tb:XJ->TS}{ts:TS}
theorem zfS (hst:X.stack=X.env::X.outer) (hfr:X.env.frame=some X.env.locals) (m1:X.mg x=some (.ref C1)) (m2:X.mg y=some (.ref C2))
  (hx:∀C',C'=C1\/C'=C2->exmAny X.K (.ref C') [.ref C1,.ref C2]=some true)
  (hb:∀pz W J,za8 (X.tried pz W) J->PSs (X.tried pz W) body (tb J)) (hs:∀pz a oe d vs,oe.cls=.ref C1\/oe.cls=.ref C2->oe.dict=d->oe.data=.fields vs->PSs (X.suite pz a oe) (b₀::suite) ts)
  (hg:Gl X x:=by rfl) (hg2:Gl X y:=by rfl) (hd:(x == ("__debug__":Str))=false:=by decide) (hd2:(y == ("__debug__":Str))=false:=by decide) :
  PS X (.Try body [.ExceptHandler (some (.Tuple [.Name x np,.Name y np2] kk tpos)) none (b₀::suite) hpos] [] [] pos) (zkP C1 C2 tb ts):=by
 intro pz s σ H D I h
 have hb':=hb pz (λe s₁=>wpAny (model X.prog X.w) X.A (noteFrame e X.env) (λ_ s₂=>wpAny (model X.prog X.w) X.A (setFlight e none) (λ_ s₃ =>
  wpAny (model X.prog X.w) X.A (handleBy e X.env [.ExceptHandler (some (.Tuple [.Name x np,.Name y np2] kk tpos)) none (b₀::suite) hpos]) (SP X pz D) X.xe s₃) X.xe s₂) X.xe s₁) _ ?_ [] s σ H D (I.tried _) h
 ·refine wpAny_Try_except (yC hb' (λf s1 hf=>?_) λ_ _ z=>z)
  cases f with
  |next=>obtain⟨σ',H',I',q⟩:=hf;exact Wa ⟨σ',H',I'.untried I.ok,q⟩
  |brk=>obtain⟨σ',H',I',q⟩:=hf;exact⟨σ',H',I'.untried I.ok,q⟩
  |cont=>obtain⟨σ',H',I',q⟩:=hf;exact⟨σ',H',I'.untried I.ok,q⟩
  |ret u=>obtain⟨v,σ',H',I',r,q⟩:=hf;exact⟨v,σ',H',I'.untried I.ok,r,q⟩
 ·intro pz' σ' H1 s1 a C' H' s' B a0 dct I1 F hq
  obtain⟨hC,q⟩:=hq
  have I1:=I1.untried I.ok
  have hfrm:X.A.frames=some (X.env::X.outer):=by rw[<-hst];exact I.ok.frames
  have F:Fly X.prog X.w X.stack H1 s1 C' H' a s' B a0 dct:=F
  have Ffl:FlX B (X.env::X.outer) a (.ref C') a0 dct s'.heap:=by rw[<-hst];exact F.fly
  refine zbx hfrm hfr Ffl λh4 held up4=>?_
  refine Qj held λh5 fl5 up5=>?_
  have F5:=F.move (by rw[hst];exact fl5) (up4.trans up5)
  have I5:=I1.call' F5.os F5.un F5.hok F5.bare (λb z=>absurd z (by simp))
  obtain⟨ob,hob,hobc⟩:=fl5.there
  obtain⟨hh,g,d,tk,os⟩:=s'
  have kp:∀b o,h5.get? b=some o->(h5.push { cls:=.type "tuple",data:=.seq [Value.ref C1,Value.ref C2].toArray }).get? b=some o:=λ_ _ z=>we _ z
  refine wpAny_handleBy_cons (codeAny_handlers_test (wpAny_Tuple (wpAny_items_cons (vQ (X:=X.testing a) (I5.test a) hg m1 (wpAny_items_cons (vQ (X:=X.testing a) (I5.test a) hg2 m2 (wpAny_items_nil ⟨by size_fits,?_⟩) hd2)) hd)))) (by intro q;cases q)
  refine((exm_tup2 (I5.kIn.keeps kp) ((zdP hob hobc).keeps kp) (wu h5 rL) (hx C' hC)).here) (codeAny_handlers_suite ?_)
  refine Qj (fl5.keeps kp).held λh6 fl6 up6=>?_
  have F6:=F5.move (by rw[hst];exact fl6) ((Heap.UpToSlots.of_keeps kp).trans up6)
  have I6:=I1.call' F6.os F6.un F6.hok F6.bare (λb z=>absurd z (by simp))
  obtain⟨oe,ws,hoe,hoec,hoet,hoed⟩:=fl6.first
  refine yC (hs pz a oe dct ws (by rw[hoec];rcases hC with rfl | rfl;exact .inl rfl;exact .inr rfl) hoet hoed [] _ _ H' D (I6.suite hoe hoed F6.untracked) q) (λf s8 hf=>?_) λ_ _ z=>z.elim
  cases f with
  |next=>obtain⟨σ8,H8,I8,q8⟩:=hf;exact⟨_,_,I8.unsuite I.ok,q8⟩
  |brk=>obtain⟨σ8,H8,I8,q8⟩:=hf;exact⟨_,_,I8.unsuite I.ok,q8⟩
  |cont=>obtain⟨σ8,H8,I8,q8⟩:=hf;exact⟨_,_,I8.unsuite I.ok,q8⟩
  |ret u=>obtain⟨v,σ8,H8,I8,r8,q8⟩:=hf;exact⟨_,_,_,I8.unsuite I.ok,r8,q8⟩
end
end L2
namespace KK
open PySem L2
variable {P:Program}{w:World}{K:Fg}{mg:Str->Option Value}{base:Heap}
def top (i:Nat):Stmt:=PySem.Challenge.pw_clackrow_k15_whole_seen_otherwise.main.body.getD i (.Pass ⟨0,0,0,0⟩)
abbrev ZP:Stmt:=top 6
abbrev qt:Stmt:=top 7
abbrev vW:Stmt:=top 8
abbrev zaV:Stmt:=top 9
abbrev V6:Stmt:=top 10
abbrev zaT:Stmt:=top 11
abbrev zaS:Stmt:=top 12
abbrev qK:Stmt:=top 15
abbrev qU:Stmt:=top 16
abbrev ZZ:Stmt:=top 17
abbrev Zr:Stmt:=top 18
abbrev vF:Stmt:=top 19
abbrev XL:Stmt:=top 20
abbrev XN:Stmt:=top 21
abbrev XI:Stmt:=top 22
abbrev Zh:Stmt:=top 23
abbrev XQ:Stmt:=top 24
abbrev vh:Stmt:=top 25
abbrev XG:Stmt:=top 26
abbrev vT:Stmt:=top 27
abbrev zaU:Stmt:=top 28
abbrev QX:Stmt:=top 29
abbrev XH:Stmt:=top 30
abbrev qz:Stmt:=top 31
abbrev QW:Stmt:=top 32
abbrev vA:Stmt:=top 34
abbrev vE:Stmt:=top 35
abbrev QT:Stmt:=top 36
abbrev vB:Stmt:=top 38
abbrev QU:Stmt:=top 39
abbrev ZQ:Stmt:=top 41
abbrev ZR:Stmt:=top 42
abbrev ZU:Stmt:=top 43
abbrev ZY:Stmt:=top 44
abbrev XD:Stmt:=top 45
abbrev Xz:Stmt:=top 46
abbrev XE:Stmt:=top 47
abbrev QV:Stmt:=top 48
abbrev ZV:Stmt:=top 49
abbrev Zk:Stmt:=top 50
abbrev Zq:Stmt:=top 51
abbrev qS:Stmt:=top 52
abbrev XC:Stmt:=top 53
abbrev vD:Stmt:=top 54
abbrev XF:Stmt:=top 55
abbrev Zl:Stmt:=top 56
abbrev XA:Stmt:=top 57
abbrev vU:Stmt:=top 58
abbrev vC:Stmt:=top 59
abbrev Zm:Stmt:=top 60
abbrev Zj:Stmt:=top 61
abbrev vV:Stmt:=top 62
abbrev Zn:Stmt:=top 63
abbrev vi:Stmt:=top 64
abbrev ZW:Stmt:=top 65
abbrev ZX:Stmt:=top 66
abbrev s_law:Stmt:=top 67
abbrev xG:Stmt:=VS (top 3) 0
abbrev qv:Stmt:=VS (top 4) 0
abbrev xZ:Stmt:=VS (top 14) 0
structure TxB (K:Fg) (mg:Str->Option Value):Prop where
 ii:PySem.W.kitOne K (.type "int") (.type "int")=some true
 ib:PySem.W.kitOne K (.type "int") (.type "bool")=some false
 nIs:mg "isinstance" = none
 nInt:mg "int" = none
 nBool:mg "bool" = none
 nAbs:mg "abs" = none
 nLen:mg "len" = none
 nMax:mg "max" = none
 nMin:mg "min" = none
 nRange:mg "range" = none
 nTuple:mg "tuple" = none
 nSum:mg "sum" = none
inductive Jd  (vs:List V) (H:Hp) (Q:VK) (_e3:XK):Prop
 |mk:∀i,(vs=[.int i])->(Q (.bl true) H)->Jd vs H Q _e3
theorem zet:zH ["thing"] ["thing"] (zr ZP):=scq
theorem zdZ (D:Df K mg "is_whole" ZP ["thing"] []) (T:TxB K mg):Cal P w K mg base "is_whole" 1 ["thing"] [] Jd:=by
 refine D.cal (k:=0) zet (λvs H Q E h=>by obtain⟨i,rfl,_⟩:=h;rfl) (λf cdv A outer s H vs Q E hr h=>?_)
 obtain⟨i,rfl,k⟩:=h
 refine⟨_,zB (zK (zaN
  (xI XW rfl T.nIs Ww (zd (pv 0) (zd (zbF (v:=.ty "int") (u:=.type "int") rfl T.nInt PyProof.Rows.boot_int rfl) ze)))
  (zaO (zik (xI XW rfl T.nIs Ww (zd (pv 0) (zd (zbF (v:=.ty "bool") (u:=.type "bool") rfl T.nBool (by decide +kernel) rfl) ze))))))),?_⟩
 refine⟨_,rL,_,_,_,true,rL,.int i,T.ii,true,rL,x5 ?_⟩
 exact⟨_,rL,_,_,_,false,rL,.int i,T.ib,false,rL,k⟩
inductive JZ  (vs:List V) (H:Hp) (Q:VK) (_e3:XK):Prop
 |mk:∀a b:Int,(vs=[.int a,.int b])->(0<=a)->(0<=b)->(Q (.int (Int.gcd a b:Nat)) H)->JZ vs H Q _e3
theorem zeo:zH ["one","other"] ["one","other"] (zr qt):=scq
theorem zib (D:Df K mg "greatest_divisor" qt ["one","other"] []):Cal P w K mg base "greatest_divisor" 1 ["one","other"] [] JZ:=by
 rcases r:D.cal (k:=0) zeo (λvs H Q E h=>by obtain⟨a,b,rfl,_⟩:=h;rfl) with⟨a,b,rfl,ha,hb,k⟩
 refine⟨_,zA (JP PassesOwn.never (zJ X0 (pv 1) zi (zN _))
   (zB (zaR (i:=0) (j:=1) rfl zeo.nd rfl rfl (by decide) rfl rfl (zd (pv 1) (zd (zE vR (pv 0) (pv 1)) ze)) (by rfl))))
  (zB (zK (pv 0))),?_⟩
 refine zaf (λσ H1=>H1=H/\∃x y:Int,σ=[Si x,Si y]/\0<=x/\0<=y/\Int.gcd x y=Int.gcd a b)
  (λσ _=>match σ with | [_,some (.int y)]=>y.toNat | _=>0) ⟨rfl,a,b,rfl,ha,hb,rfl⟩ ?_ ?_
 ·rintro σ H1 hQq;rcases q:hQq with⟨rfl,x,y,rfl,hx,hy,e⟩
  refine⟨_,rL,_,_,rL,rL,_,rL,qa (λh=>?_) (λh=>?_)⟩
  ·have h':0<y:=wF h
   refine⟨_,rL,_,rL,_,rL,_,_,rL,rL,h',_,_,rL,⟨rL,_,_,rL,hy,u7 _ ∅,?_⟩,?_⟩
   ·rw[KM.Jz hx h'];exact e
   ·show (x % y).toNat<y.toNat
    have:=uG x h'
    lia
  ·have h':¬ 0<y:=λz=>h (wE z)
   have:y=0:=by lia
   subst this
   refine⟨_,rL,?_⟩
   have e2:x=(Int.gcd a b:Nat):=by rw[<-e,Int.gcd_zero_right];lia
   rw[e2];exact k
 ·rintro σ H1 Q1 Q2 hq hQq;rcases q:hQq with⟨v,e,i,j,e1,e2,k1,e3,q⟩
  exact⟨v,e,i,j,e1,e2,k1,e3,hq _ _ q⟩
theorem QY:zH ["top","bottom","divisor"] ["top","bottom"] (zr vW):=scq
theorem v9 (i:Int):(if i<0 then -i else i)=(i.natAbs:Int):=by split <;> lia
theorem zdX {dvs:List V}(D:Df K mg "ratio" vW ["top","bottom"] dvs) (T:TxB K mg) (cW:Cal P w K mg base "is_whole" 1 ["thing"] [] Jd) (cG:Cal P w K mg base "greatest_divisor" 1 ["one","other"] [] JZ) :
  Cal P w K mg base "ratio" 2 ["top","bottom"] dvs ql:=by
 rcases r:D.cal (k:=1) QY (λvs H Q E h=>by obtain⟨a,b,rfl,_⟩:=h;rfl) with⟨t,b,rfl,hb,hz,k⟩
 refine⟨_,zA (xh (X9 (QP (qy (zI cW hr (zd (pv 0) ze)) λ_=>rL)) (X9 (QP (qy (zI cW hr (zd (pv 1) ze)) λ_=>rL)) (Xy (zJ x8 (pv 1) zi (zN _))))).pt zcK zS)
  (zA (psl (i:=2) QY.nd (zI cG hr (zd (xI Z7 rfl T.nAbs uL (zd (pv 0) ze)) (zd (xI Z7 rfl T.nAbs uL (zd (pv 1) ze)) ze))))
  (zA (xh (zJ QL (pv 1) zi (zN _)) (zB (psl (i:=2) QY.nd (vL qL (pv 2)))) zS)
  (zB (zK (zT (zd (zE qd (pv 0) (pv 2)) (zd (zE qd (pv 1) (pv 2)) ze))))))),?_⟩
 refine⟨_,rL,t,rL,true,rL,xQ ?_⟩
 refine⟨_,rL,b,rL,true,rL,xQ ?_⟩
 refine⟨_,rfl,rfl,_,rfl,qa (λh=>absurd (wF h) (by intro z;injection z with z;exact hb z)) (λ_=>?_)⟩
 refine⟨_,rfl,t,rfl,⟨_,rfl,b,rfl,⟨_,_,rfl,(by rw[v9];lia),(by rw[v9];lia),?_⟩⟩⟩
 have hd:=KM.zgL (t:=t) hb
 have hdz:Bd 8900 (KM.dv t b):=hz.of_le (KM.zbl hb)
 have fin:∀σ:St,σ=[Si t,Si b,some (.int (KM.dv t b))]->zeO (za2 (xF (tOp (rI Jk λi j=>V.int (i.fdiv j)) (xy 0) (xy 2)) (xF (tOp (rI Jk λi j=>V.int (i.fdiv j)) (xy 1) (xy 2)) Z0))) { nx:=λ_ H'=>Q .non H',rt:=Q } σ H:=by
  rintro σ rfl
  refine⟨_,rL,_,rL,_,_,rL,rL,⟨hd,hdz⟩,_,rL,_,rL,_,_,rL,rL,⟨hd,hdz⟩,?_⟩
  refine⟨zL2,λp hp=>k p _ (zj.upd hp) ?_⟩
  show upd H p _ p=_
  rw[zg]
  nofun
  rw[KM.zat hb,KM.zdp hb];rfl
 have ge:(Int.gcd (if t<0 then -t else t) (if b<0 then -b else b):Nat)=Int.gcd t b:=by
  rw[v9,v9];simp[Int.gcd]
 refine⟨_,rL,_,_,rL,rL,_,rL,qa (λh=>?_) (λh=>?_)⟩
 ·have h':b<0:=wF h
  refine⟨_,rL,_,rL,fin _ ?_⟩
  rw[ge];unfold KM.dv;rw[if_pos h'];rfl
 ·have h':¬b<0:=λz=>h (wE z)
  refine fin _ ?_
  rw[ge];unfold KM.dv;rw[if_neg h'];rfl
theorem Bd4 {x:Rat}(h:Sz 4000 x):Bd 1000000 x.num/\Bd 1000000 (x.den:Int):=⟨h.1.md,h.2.md⟩
section
variable {x y:Rat}{p q:Addr}{H:Hp}
theorem zbN {Q:VK}(hp:zD H p x) (hq:zD H q y) (hx:Sz 4000 x) (hy:Sz 4000 y) (k:∀r H',zj H H'->zD H' r (x+y)->Q (.ref r) H') :
  zeO (ZK ql [] E0 (xF (tOp (rI0 λi j=>.int (i+j)) (tOp (rI Qq λi j=>.int (i*j)) (tOp (ZF K) (xy 0) (tC (.int 0))) (tOp (ZF K) (xy 1) (tC (.int 1)))) (tOp (rI Qq λi j=>.int (i*j)) (tOp (ZF K) (xy 1) (tC (.int 0))) (tOp (ZF K) (xy 0) (tC (.int 1)))))
   (xF (tOp (rI Qq λi j=>.int (i*j)) (tOp (ZF K) (xy 0) (tC (.int 1))) (tOp (ZF K) (xy 1) (tC (.int 1)))) Z0))) { nx:=λ_ H'=>Q .non H',rt:=Q } [some (.ref p),some (.ref q)] H:=by
 have bx:=Bd4 hx
 have b_y:=Bd4 hy
 refine⟨_,rL,p,_,_,_,rL,rL,.of hp,at0 ..,_,rL,q,_,_,_,rL,rL,.of hq,at1 ..,_,_,rL,rL,⟨bx.1,b_y.2⟩,?_⟩
 refine⟨_,rL,q,_,_,_,rL,rL,.of hq,at0 ..,_,rL,p,_,_,_,rL,rL,.of hp,at1 ..,_,_,rL,rL,⟨b_y.1,bx.2⟩,_,_,rL,rL,?_⟩
 refine⟨_,rL,p,_,_,_,rL,rL,.of hp,at1 ..,_,rL,q,_,_,_,rL,rL,.of hq,at1 ..,_,_,rL,rL,⟨bx.2,b_y.2⟩,?_⟩
 refine⟨_,_,rL,yi (KM.xL x) (KM.xL y),(hx.2.mul hy.2).md,λr H' e h=>k r H' e ?_⟩
 rw[<-KM.zbL];exact h
theorem zeg {Q:VK}(hp:zD H p x) (hq:zD H q y) (hx:Sz 4000 x) (hy:Sz 4000 y) (k:∀r H',zj H H'->zD H' r (x*y)->Q (.ref r) H') :
  zeO (ZK ql [] E0 (xF (tOp (rI Qq λi j=>.int (i*j)) (tOp (ZF K) (xy 0) (tC (.int 0))) (tOp (ZF K) (xy 1) (tC (.int 0))))
   (xF (tOp (rI Qq λi j=>.int (i*j)) (tOp (ZF K) (xy 0) (tC (.int 1))) (tOp (ZF K) (xy 1) (tC (.int 1)))) Z0))) { nx:=λ_ H'=>Q .non H',rt:=Q } [some (.ref p),some (.ref q)] H:=by
 have bx:=Bd4 hx
 have b_y:=Bd4 hy
 refine⟨_,rL,p,_,_,_,rL,rL,.of hp,at0 ..,_,rL,q,_,_,_,rL,rL,.of hq,at0 ..,_,_,rL,rL,⟨bx.1,b_y.1⟩,?_⟩
 refine⟨_,rL,p,_,_,_,rL,rL,.of hp,at1 ..,_,rL,q,_,_,_,rL,rL,.of hq,at1 ..,_,_,rL,rL,⟨bx.2,b_y.2⟩,?_⟩
 refine⟨_,_,rL,yi (KM.xL x) (KM.xL y),(hx.2.mul hy.2).md,λr H' e h=>k r H' e ?_⟩
 rw[<-KM.J8];exact h
end
theorem zgc:zH ["one","other"] ["one","other"] (zr zaV):=scq
theorem zfE (D:Df K mg "plus" zaV ["one","other"] []) (c:Cal P w K mg base "ratio" 2 ["top","bottom"] [] ql):Cal P w K mg base "plus" 3 ["one","other"] [] (xY Sz2 (· + ·)):=by
 rcases r:D.calq (k:=2) zgc with⟨p,q,x,y,rfl,hp,hq,⟨hx,hy⟩,k⟩
 exact⟨_,zB (zK (zI c hr (zd (zE xk (zE zR (pxt (pv 0)) (pxt (pv 1))) (zE zR (pxt (pv 1)) (pxt (pv 0))))
  (zd (zE zR (pxt (pv 0)) (pxt (pv 1))) ze)))),zbN hp hq hx hy k⟩
theorem zgb:zH ["one","other"] ["one","other"] (zr zaT):=scq
theorem zfD (D:Df K mg "over" zaT ["one","other"] []) (c:Cal P w K mg base "ratio" 2 ["top","bottom"] [] ql):Cal P w K mg base "over" 3 ["one","other"] [] (xY (λx y=>Sz2 x y/\y≠0) (· / ·)):=by
 rcases r:D.calq (k:=2) zgb with⟨p,q,x,y,rfl,hp,hq,⟨⟨hx,hy⟩,hy0⟩,k⟩
 have bx:=Bd4 hx
 have b_y:=Bd4 hy
 refine⟨_,zB (zK (zI c hr (zd (zE zR (pxt (pv 0)) (pxt (pv 1)))
  (zd (zE zR (pxt (pv 0)) (pxt (pv 1))) ze)))),?_⟩
 refine⟨_,rL,p,_,_,_,rL,rL,.of hp,at0 ..,_,rL,q,_,_,_,rL,rL,.of hq,at1 ..,_,_,rL,rL,⟨bx.1,b_y.2⟩,?_⟩
 refine⟨_,rL,p,_,_,_,rL,rL,.of hp,at1 ..,_,rL,q,_,_,_,rL,rL,.of hq,at0 ..,_,_,rL,rL,⟨bx.2,b_y.1⟩,?_⟩
 refine⟨_,_,rL,yi (KM.xL x) (λz=>hy0 (Yc.mp z)),(hx.2.mul hy.1).md,λr H' e h=>k r H' e ?_⟩
 show zD H' r (x/y)
 rw[<-KM.V0];exact h
def qQ (H:Hp) (p:Addr):Prop:=∃a b c:Int,H p=some (.lst [.int a,.int b,.int c])
structure xc (p:Addr) (H H':Hp):Prop where
 pool:qQ H' p
 keep:∀b o,H b=some o->b≠p->H' b=some o
theorem xc.trans {p:Addr}{H H1 H2:Hp}(a:xc p H H1) (b:xc p H1 H2):xc p H H2:=⟨b.pool,λc o e n=>b.keep c o (a.keep c o e n) n⟩
theorem xc.same {p:Addr}{H H1 H2:Hp}(a:xc p H H1) (b:zj H1 H2):xc p H H2:=⟨by obtain⟨x,y,z,e⟩:=a.pool;exact⟨x,y,z,b _ _ e⟩,λc o e n=>b c o (a.keep c o e n)⟩
theorem xc.pre {p:Addr}{H H1 H2:Hp}(b:xc p H1 H2) (a:zj H H1):xc p H H2:=⟨b.pool,λc o e n=>b.keep c o (a c o e) n⟩
theorem qQ.new {H:Hp}{p l:Addr}{o:HO}(h:qQ H p) (hl:H l=none):qQ (upd H l o) p:=by obtain⟨a,b,c,e⟩:=h;exact⟨a,b,c,zj.upd hl _ _ e⟩
theorem qQ.ne {H:Hp}{p l:Addr}(h:qQ H p) (hl:H l=none):l≠p:=by obtain⟨a,b,c,e⟩:=h;exact(zG e hl).symm
theorem xc.refl {p:Addr}{H:Hp}(h:qQ H p):xc p H H:=⟨h,λ_ _ e _=>e⟩
theorem xc.tup {p a:Addr}{H H':Hp}{xs:List V}(s:xc p H H') (hp:qQ H p) (h:H a=some (.tup xs)):H' a=some (.tup xs):=by
 obtain⟨_,_,_,e⟩:=hp
 exact s.keep a _ h (zgS h e (by intro z;cases z))
inductive zeC  (vs:List V) (H:Hp) (Q:VK) (_e3:XK):Prop
 |mk:∀c:Int,(vs=[.int c])->(∀p H',H p=none->zj H H'->qQ H' p->Q (.ref p) H')->zeC vs H Q _e3
theorem zis:zH ["cell"] ["cell"] (zr ZR):=scq
theorem zia (D:Df K mg "_law_left" ZR ["cell"] []) (T:TxB K mg):Cal P w K mg base "_law_left" 1 ["cell"] [] zeC:=by
 refine D.cal (k:=0) zis (λvs H Q E h=>by obtain⟨a,rfl,_⟩:=h;rfl) (λf cdv A outer s H vs Q E hr h=>?_)
 obtain⟨c,rfl,k⟩:=h
 refine⟨_,zB (zK (qe (zd (xI (zcm rfl) (by rfl) T.nMax PyProof.Rows.boot_max (zd zi (zd (zE xA (pv 0) (zE Zf zi zi)) ze))) (zd (zE vR (pv 0) (zE Zf zi zi)) (zd zi ze))))),?_⟩
 refine⟨_,rfl,_,_,rfl,rfl,⟨by decide,by decide,by decide⟩,_,_,rfl,rfl,_,_,rfl,?_⟩
 refine⟨_,rfl,_,_,rfl,rfl,⟨by decide,by decide,by decide⟩,_,_,rfl,rfl,(by show (0:Int)<10^18;decide),(zL3),λp hp=>?_⟩
 exact k p _ hp (zj.upd hp) ⟨_,_,_,zg⟩
inductive qA  (vs:List V) (H:Hp) (Q:VK) (_e3:XK):Prop
 |mk:∀(p:Addr) (n:Int),(vs=[.ref p,.int n])->(0<n)->(n<1073741824)->(qQ H p)->(∀(d:Int) H',0<=d->d<n->xc p H H'->Q (.int d) H')->qA vs H Q _e3
theorem Qo:zH ["pool","base","digit","mixed","stir"] ["pool","base"] (zr ZU):=scq
theorem J5 {H:Hp}{p:Addr}{a b c:Int}:xc p H (upd H p (.lst [.int a,.int b,.int c])):=⟨⟨a,b,c,zg⟩,λd o e n=>by rw[zF n];exact e⟩
theorem zfC (D:Df K mg "_law_next" ZU ["pool","base"] []):Cal P w K mg base "_law_next" 1 ["pool","base"] [] qA:=by
 rcases r:D.cal (k:=0) Qo (λvs H Q E h=>by obtain⟨a,b,rfl,_⟩:=h;rfl) with⟨p,n,rfl,n0,n1,⟨a,b,c,hp⟩,k⟩
 refine⟨_,zA (xh (zJ X0 (xz xn (pv 0) zi (λ_ _=>rL)) zi (zN _))
   (zA (psl (i:=2) Qo.nd (zE vR (xz xn (pv 0) zi (λ_ _=>rfl)) (pv 1)))
   (zA (qi (zE zbE (xz xn (pv 0) zi (λ_ _=>rfl)) (pv 1)) (QN (pv 0) zi Zu))
   (zB (zK (pv 2))))) zS)
  (zA (qi (zE xk (xz xn (pv 0) zi (λ_ _=>rfl)) zi) (QN (pv 0) zi Zu))
  (zA (psl (i:=3) Qo.nd (zE vR (zE xk (xz xn (pv 0) zi (λ_ _=>rfl)) (zE zaL zi (xz xn (pv 0) zi (λ_ _=>rfl)))) zi))
  (zA (psl (i:=4) Qo.nd (zE vR (zE zaL (zE xk (pv 3) zi) (zE xk (pv 3) zi)) zi))
  (zB (zK (zE vR (zE zbE (zE vR (zE zaL (pv 4) (pv 4)) zi) zi) (pv 1))))))),?_⟩
 refine⟨_,rL,p,_,_,_,rL,rL,.of hp,rL,_,_,rL,rL,_,rL,qa (λh=>?_) (λh=>?_)⟩
 ·refine⟨_,rL,p,_,_,_,rL,rL,.of hp,rL,_,rL,_,_,rL,rL,n0,?_⟩
  refine⟨_,rL,p,_,_,_,rL,rL,.of hp,rL,_,rL,_,_,rL,rL,⟨n0,n1⟩,?_⟩
  refine⟨_,rL,p,_,_,0,rL,rL,hp,rL,?_⟩
  exact⟨_,rL,k _ _ (u7 _ ∅) (uG _ n0) J5⟩
 ·refine⟨_,rL,p,_,_,_,rL,rL,.of hp,rL,_,_,rL,rL,?_⟩
  refine⟨_,rL,p,_,_,2,rL,rL,hp,rL,?_⟩
  refine⟨_,rfl,p,_,_,_,rfl,rfl,.of zg,rfl,_,rfl,p,_,_,_,rfl,rfl,.of zg,rfl,_,_,rfl,rfl,.inl ⟨by decide,by decide⟩,_,_,rfl,rfl,_,_,rfl,rfl,(by show (0:Int)<1000000007;decide),?_⟩
  refine⟨_,rfl,_,_,rfl,rfl,_,rfl,_,_,rfl,rfl,_,_,rfl,rfl,.inl (by constructor <;> lia),_,_,rfl,rfl,(by show (0:Int)<998244353;decide),?_⟩
  refine⟨_,rfl,_,rfl,_,_,rfl,rfl,.inl (by constructor <;> lia),_,_,rfl,rfl,(by show (0:Int)<2147483647;decide),_,_,rfl,rfl,⟨by decide,by decide⟩,_,rfl,_,_,rfl,rfl,n0,?_⟩
  exact k _ _ (u7 _ ∅) (uG _ n0) J5
open KM
inductive zP (H:Hp):List V->List zC->Prop
 |nil:zP H [] []
 |cons {a p q:Addr}{b:zC}{vs:List V}{bs:List zC}:H a=some (.tup [.ref p,.ref q,.int b.wt])->zD H p b.pl->zD H q b.sp->zP H vs bs->zP H (.ref a::vs) (b::bs)
theorem zP.mono {H H':Hp}(m:∀b xs,H b=some (.tup xs)->H' b=some (.tup xs)):∀{vs:List V}{bs:List zC},zP H vs bs->zP H' vs bs
 |_,_,.nil=>.nil
 |_,_,.cons h1 h2 h3 t=>.cons (m _ _ h1) (m _ _ h2) (m _ _ h3) (zP.mono m t)
theorem zP.same {H H':Hp}{vs:List V}{bs:List zC}(h:zP H vs bs) (e:zj H H'):zP H' vs bs:=h.mono λb xs z=>e b _ z
theorem zP.length {H:Hp}:∀{vs:List V}{bs:List zC},zP H vs bs->vs.length=bs.length
 |_,_,.nil=>rfl
 |_,_,.cons _ _ _ t=>by rw[wJ,wJ,zP.length t]
theorem zP.append {H:Hp}{us:List V}{cs:List zC}(k:zP H us cs):∀{vs:List V}{bs:List zC},zP H vs bs->zP H (vs++us) (bs++cs)
 |_,_,.nil=>k
 |_,_,.cons h1 h2 h3 t=>.cons h1 h2 h3 (zP.append k t)
theorem zP.one {H:Hp}{a p q:Addr}{b:zC}(h1:H a=some (.tup [.ref p,.ref q,.int b.wt])) (h2:zD H p b.pl) (h3:zD H q b.sp):zP H [.ref a] [b]:=.cons h1 h2 h3 .nil
theorem zP.get {H:Hp}:∀{vs:List V}{bs:List zC}{i:Nat}{v:V},zP H vs bs->vs[i]?=some v->∃(a p q:Addr) (b:zC),bs[i]?=some b/\v=.ref a/\H a=some (.tup [.ref p,.ref q,.int b.wt])/\zD H p b.pl/\zD H q b.sp
 |_,_,_,_,.nil,e=>by simp at e
 |_,_,0,_,.cons h1 h2 h3 _,e=>by
  simp at e;subst e
  exact⟨_,_,_,_,rL,rL,h1,h2,h3⟩
 |_,_,i+1,v,.cons _ _ _ t,e=>by
  obtain⟨a,p,q,b,e1,r⟩:=zP.get (i:=i) t ↥e
  exact⟨a,p,q,b,↥e1,r⟩
theorem zP.last {H:Hp}{vs:List V}{bs:List zC}{b:zC}(h:zP H vs (bs++[b])):∃(us:List V) (a p q:Addr),vs=us++[.ref a]/\H a=some (.tup [.ref p,.ref q,.int b.wt])/\zD H p b.pl/\zD H q b.sp:=by
 have hl:=h.length
 rw[wC,Wm]at hl
 have hi:bs.length<vs.length:=by lia
 obtain⟨a,p,q,c,e1,e2,r⟩:=h.get (i:=bs.length) (wk hi)
 rw[wB (wo _)]at e1
 simp at e1;subst e1
 refine⟨vs.take bs.length,a,p,q,?_,r⟩
 rw[<-e2]
 have:=List.take_append_getElem hi
 rw[this,w4 ∅]
def JC (b c:zC):Prop:=b.pl<c.pl\/(b.pl=c.pl/\b.sp<c.sp)
theorem JC.trans {a b c:zC}(h:JC a b) (k:JC b c):JC a c:=by
 unfold JC at *
 rcases h with h | ⟨h1,h2⟩ <;> rcases k with k | ⟨k1,k2⟩
 ·exact .inl (by grind)
 ·exact .inl (by grind)
 ·exact .inl (by grind)
 ·exact .inr ⟨by grind,by grind⟩
structure Xj (bs:List zC):Prop where
 wt:∀b∈bs,1<=b.wt/\b.wt<=1000
 sz:∀b∈bs,Sz 300 b.pl/\Sz 80 b.sp
 pw:bs.Pairwise JC
theorem Xj.nil:Xj []:=⟨(λ_ h=>nomatch h),(λ_ h=>nomatch h),List.Pairwise.nil⟩
theorem Xj.snoc {bs:List zC}{b:zC}(G:Xj bs) (hw:1<=b.wt/\b.wt<=1000) (hs:Sz 300 b.pl/\Sz 80 b.sp) (h:∀cs c,bs=cs++[c]->JC c b):Xj (bs++[b]):=by
 refine⟨λx hx=>?_,λx hx=>?_,?_⟩
 ·rcases wM.mp hx with z | z
  ·exact G.wt x z
  ·simp at z;subst z;exact hw
 ·rcases wM.mp hx with z | z
  ·exact G.sz x z
  ·simp at z;subst z;exact hs
 ·rw[wZ]
  refine⟨G.pw,uz _ _,λx hx y hy=>?_⟩
  simp at hy;subst hy
  rcases Wn bs with e | ⟨cs,c,e⟩
  ·subst e;exact(nomatch hx)
  ·have e':bs=cs++[c]:=↥e
   have hc:=h cs c e'
   subst e'
   rcases wM.mp hx with z | z
   ·have:=(wZ.mp G.pw).2.2 x z c (by simp)
    exact this.trans hc
   ·simp at z;subst z;exact hc
end KK
namespace L2
open PySem PySem.Spec PyProof.Rows
section
variable {X:Cx}
theorem zje {op:Operator}{r:R2}{a b:Expr}{ta tb:TE}{pos:Pos}(ho:OpR X (binaryOp op) r) (ha:Bx (PE X a ta)) (hb:Bx (PE X b tb)):Bx (PE X (.BinOp a op b pos) (tOp r ta tb)):=by obtain⟨ha⟩:=ha;obtain⟨hb⟩:=hb;exact⟨zE ho ha hb⟩
theorem Jq {r:R2}{a b:Expr}{ta tb:TE}{pos:Pos}(hr:IxR X r) (ha:Bx (PE X a ta)) (hb:Bx (PE X b tb)) (hs:za9 b):Bx (PE X (.Subscript a b pos) (tOp r ta tb)):=by obtain⟨ha⟩:=ha;obtain⟨hb⟩:=hb;exact⟨xz hr ha hb hs⟩
theorem zde {p:Prop}(h:Bx p):p:=by obtain⟨h⟩:=h;exact h
end
end L2
namespace KK
open PySem L2 KM
variable {P:Program}{w:World}{K:Fg}{mg:Str->Option Value}{base:Heap}
theorem vS {X:Cx}{es:List Expr}{k:Nat}{pos:Pos}{t:TGs}{n:Nat}{K:Fg}(hK:X.K=K) (hc:X.calm=true) (h:PGs X es t)
  (hn:(assignEach es X.env).length=n:=by rfl) (hst:(assignEach es X.env).findIdx? (·.1)=none:=by rfl):PG X (.Tuple es k pos) (Vj K n t):=by subst hK;exact qJ hc h hn hst
theorem QF {X:Cx}{K:Fg}(hK:X.K=K):IxR X (zim K):=by subst hK;exact xn
theorem QI (x y:Rat):decide (x.num*(y.den:Int)<y.num*(x.den:Int))=decide (x<y):=by
 by_cases h:x<y
 ·rw[wE h,wE ((KM.Xa x y).mpr h)]
 ·rw[wQ h,wQ λz=>h ((KM.Xa x y).mp z)]
theorem bdn {n:Nat}{i:Int}(h0:0<=i) (h1:i<2^n):Bd n i:=by
 unfold Bd
 have:((2^n:Nat):Int)=(2:Int)^n:=by push_cast;rfl
 lia
theorem bdz {n:Nat}{i:Int}(h0 : -(2^n)<i) (h1:i<2^n):Bd n i:=by
 unfold Bd
 have:((2^n:Nat):Int)=(2:Int)^n:=by push_cast;rfl
 omega
theorem V8:zH ["top","bottom","one","other"] ["top","bottom"] (zr XD):=scq
theorem zif (D:Df K mg "_law_low" XD ["top","bottom"] []) (T:TxB K mg):Cal P w K mg base "_law_low" 1 ["top","bottom"] [] ql:=by
 rcases r:D.cal (k:=0) V8 (λvs H Q E h=>by obtain⟨a,b,rfl,_⟩:=h;rfl) with⟨t,b,rfl,hb,hz,k⟩
 refine⟨_,(zA (zaR (i:=2) (j:=3) rfl V8.nd rfl rfl (by decide) rfl rfl (zd (xI Z7 (by rfl) T.nAbs uL (zd (pv 0) ze)) (zd (xI Z7 (by rfl) T.nAbs uL (zd (pv 1) ze)) ze)) (by rfl))
  (zA (JP PassesOwn.never (zJ zd1 (pv 3) zi (zN _)) (zB (zaR (i:=2) (j:=3) rfl V8.nd rfl rfl (by decide) rfl rfl (zd (pv 3) (zd (zE vR (pv 2) (pv 3)) ze)) (by rfl))))
  (zA (xh (zJ QL (pv 1) zi (zN _)) (zB (psl (i:=2) V8.nd (zE xA zi (pv 2)))) zS)
  (zB (zK (zT (zd (zE qd (pv 0) (pv 2)) (zd (zE qd (pv 1) (pv 2)) ze)))))))),?_⟩
 try dsimp only[xl,Cx.nox]
 have hd:=KM.zgL (t:=t) hb
 have hdz:Bd 8900 (KM.dv t b):=hz.of_le (KM.zbl hb)
 have ge:(Int.gcd (if t<0 then -t else t) (if b<0 then -b else b):Nat)=Int.gcd t b:=by
  rw[v9,v9];simp[Int.gcd]
 refine⟨_,rL,t,rL,⟨_,rL,b,rL,_,_,rL,?_⟩⟩
 have fin:∀(σ:St) (z:Option V),σ=[Si t,Si b,some (.int (KM.dv t b)),z]->zeO (za2 (xF (tOp (rI Jk λi j=>V.int (i.fdiv j)) (xy 0) (xy 2)) (xF (tOp (rI Jk λi j=>V.int (i.fdiv j)) (xy 1) (xy 2)) Z0))) { nx:=λ_ H'=>Q .non H',rt:=Q } σ H:=by
  rintro σ z rfl
  refine⟨_,rL,_,rL,_,_,rL,rL,⟨hd,hdz⟩,_,rL,_,rL,_,_,rL,rL,⟨hd,hdz⟩,?_⟩
  refine⟨zL2,λp hp=>k p _ (zj.upd hp) ?_⟩
  show upd H p _ p=_
  rw[zg]
  nofun
  rw[KM.zat hb,KM.zdp hb];rfl
 refine zaf (λσ H1=>H1=H/\∃x y:Int,σ=[Si t,Si b,Si x,Si y]/\0<=x/\0<=y/\Int.gcd x y=Int.gcd t b)
  (λσ _=>match σ with | [_,_,_,some (.int y)]=>y.toNat | _=>0) ⟨rfl,_,_,rfl,(by rw[v9];lia),(by rw[v9];lia),ge⟩ ?_ ?_
 ·rintro σ H1 hQq;rcases q:hQq with⟨rfl,x,y,rfl,hx,hy,e⟩
  refine⟨_,rL,rL,_,rL,qa (λh=>?_) (λh=>?_)⟩
  ·have h':0<y:=by
    have:y≠0:=λz=>by subst z;simp at h
    lia
   refine⟨_,rL,_,rL,_,rL,_,_,rL,rL,h',_,_,rL,⟨rL,_,_,rL,hy,u7 _ ∅,?_⟩,?_⟩
   ·rw[KM.Jz hx h'];exact e
   ·show (x % y).toNat<y.toNat
    have:=uG x h'
    lia
  ·have:y=0:=↥h
   subst this
   have e2:x=(Int.gcd t b:Nat):=by rw[<-e,Int.gcd_zero_right];lia
   refine⟨_,rL,_,_,rL,rL,_,rL,qa (λh=>?_) (λh=>?_)⟩
   ·have h':b<0:=wF h
    refine⟨_,rL,0,_,rL,rL,fin _ (some (.int 0)) ?_⟩
    rw[e2];unfold KM.dv;rw[if_pos h',<-Int.zero_sub];rfl
   ·have h':¬b<0:=λz=>h (wE z)
    refine fin _ (some (.int 0)) ?_
    rw[e2];unfold KM.dv;rw[if_neg h']
 ·rintro σ H1 Q1 Q2 hq hQq;rcases q:hQq with⟨v,e,e1,k1,e3,q⟩
  exact⟨v,e,e1,k1,e3,hq _ _ q⟩
theorem zf6:zH ["a","b"] ["a","b"] (zr Xz):=scq
theorem zfy (D:Df K mg "_law_add" Xz ["a","b"] []) (cL:Cal P w K mg base "_law_low" 1 ["top","bottom"] [] ql):Cal P w K mg base "_law_add" 2 ["a","b"] [] (xY Sz2 (· + ·)):=by
 rcases r:D.calq (k:=1) zf6 with⟨p,q,x,y,rfl,hp,hq,⟨hx,hy⟩,k⟩
 exact⟨_,(zB (zK (zI cL hr (zd (zE xk (zE zR (pxt (pv 0)) (pxt (pv 1))) (zE zR (pxt (pv 1)) (pxt (pv 0)))) (zd (zE zR (pxt (pv 0)) (pxt (pv 1))) ze))))),zbN hp hq hx hy k⟩
theorem zit:zH ["a","b"] ["a","b"] (zr QV):=scq
theorem zid (D:Df K mg "_law_by" QV ["a","b"] []) (cL:Cal P w K mg base "_law_low" 1 ["top","bottom"] [] ql):Cal P w K mg base "_law_by" 2 ["a","b"] [] (xY Sz2 (· * ·)):=by
 rcases r:D.calq (k:=1) zit with⟨p,q,x,y,rfl,hp,hq,⟨hx,hy⟩,k⟩
 exact⟨_,(zB (zK (zI cL hr (zd (zE zR (pxt (pv 0)) (pxt (pv 1))) (zd (zE zR (pxt (pv 0)) (pxt (pv 1))) ze))))),zeg hp hq hx hy k⟩
theorem zf9:zH ["a","b"] ["a","b"] (zr XE):=scq
theorem zfB (D:Df K mg "_law_off" XE ["a","b"] []) (cL:Cal P w K mg base "_law_low" 1 ["top","bottom"] [] ql):Cal P w K mg base "_law_off" 2 ["a","b"] [] (xY Sz2 (· - ·)):=by
 rcases r:D.calq (k:=1) zf9 with⟨p,q,x,y,rfl,hp,hq,⟨hx,hy⟩,k⟩
 have bx:=Bd4 hx
 have b_y:=Bd4 hy
 refine⟨_,(zB (zK (zI cL hr (zd (zE xA (zE zR (pxt (pv 0)) (pxt (pv 1))) (zE zR (pxt (pv 1)) (pxt (pv 0)))) (zd (zE zR (pxt (pv 0)) (pxt (pv 1))) ze))))),?_⟩
 try dsimp only[xl,Cx.nox]
 refine⟨_,rL,p,_,_,_,rL,rL,.of hp,at0 ..,_,rL,q,_,_,_,rL,rL,.of hq,at1 ..,_,_,rL,rL,⟨bx.1,b_y.2⟩,_,rL,q,_,_,_,rL,rL,.of hq,at0 ..,_,rL,p,_,_,_,rL,rL,.of hp,at1 ..,_,_,rL,rL,⟨b_y.1,bx.2⟩,_,_,rL,rL,?_⟩
 refine⟨_,rL,p,_,_,_,rL,rL,.of hp,at1 ..,_,rL,q,_,_,_,rL,rL,.of hq,at1 ..,_,_,rL,rL,⟨bx.2,b_y.2⟩,?_⟩
 refine⟨_,_,rL,yi (xL x) (xL y),(hx.2.mul hy.2).md,λr H' e h=>k r H' e ?_⟩
 show zD H' r (x-y)
 rw[<-KM.QJ];exact h
inductive zgp  (vs:List V) (H:Hp) (Q:VK) (_e3:XK):Prop
 |mk:∀p q x y,(vs=[.ref p,.ref q])->(zD H p x)->(zD H q y)->(Sz2 x y)->(Q (.bl (decide (x<y))) H)->zgp vs H Q _e3
theorem zf7:zH ["a","b"] ["a","b"] (zr Zk):=scq
theorem zfz (D:Df K mg "_law_below" Zk ["a","b"] []):Cal P w K mg base "_law_below" 1 ["a","b"] [] zgp:=by
 rcases r:D.calq (k:=0) zf7 with⟨p,q,x,y,rfl,hp,hq,⟨hx,hy⟩,k⟩
 have bx:=Bd4 hx
 have b_y:=Bd4 hy
 refine⟨_,(zB (zK (vq QL (zE zR (pxt (pv 0)) (pxt (pv 1))) (zE zR (pxt (pv 1)) (pxt (pv 0))) (zN _)))),?_⟩
 try dsimp only[xl,Cx.nox]
 refine⟨_,rL,p,_,_,_,rL,rL,.of hp,at0 ..,_,rL,q,_,_,_,rL,rL,.of hq,at1 ..,_,_,rL,rL,⟨bx.1,b_y.2⟩,_,rL,q,_,_,_,rL,rL,.of hq,at0 ..,_,rL,p,_,_,_,rL,rL,.of hp,at1 ..,_,_,rL,rL,⟨b_y.1,bx.2⟩,_,_,rL,rL,?_⟩
 show Q (.bl (decide (x.num*(y.den:Int)<y.num*(x.den:Int)))) H
 rw[QI];exact k
inductive Jc (K:Fg) (vs:List V) (H:Hp) (Q:VK) (_e3:XK):Prop
 |mk:∀(a:Addr) (ns:List Int) (k:Int),(vs=[.ref a,.int k])->(SqL K H a (ns.map V.int))->(0<=k)->(∀i,Q (.int i) H)->Jc K vs H Q _e3
theorem zf3:zH ["script","k"] ["script","k"] (zr ZQ):=scq
theorem zfv (D:Df K mg "_law_cell" ZQ ["script","k"] []) (T:TxB K mg):Cal P w K mg base "_law_cell" 1 ["script","k"] [] (Jc K):=by
 rcases r:D.cal (k:=0) zf3 (λvs H Q E h=>by obtain⟨a,ns,i,rfl,_⟩:=h;rfl) with⟨a,ns,i,rfl,hS,h0,k⟩
 refine⟨_,(zA (xh (zJ QL (pv 1) (xI qg (by rfl) T.nLen PySem.boot_len (zd (pv 0) ze)) (zN _)) (zB (zK (xz xn (pv 0) (pv 1) (λ_ _=>rfl)))) zS)
  (zB (zK zi))),?_⟩
 try dsimp only[xl,Cx.nox]
 refine⟨_,rL,_,rL,a,_,rL,.inl hS,_,_,rL,rL,_,rL,qa (λh=>?_) (λh=>k _)⟩
 have h':i<((ns.map V.int).length:Int):=wF h
 rw[wf]at h'
 have hl:i.toNat<ns.length:=by omega
 have e:(ns.map V.int)[i.toNat]?=some (.int ns[i.toNat]):=by rw[wg,wk hl];rfl
 have e2:=vo e
 rw[show ((i.toNat:Nat):Int)=i by omega]at e2
 exact⟨_,rL,_,rL,a,_,_,_,rL,rL,hS,e2,k _⟩
inductive zaY  (vs:List V) (H:Hp) (Q:VK) (_e3:XK):Prop
 |mk:∀(p:Addr) (n:Int),(vs=[.ref p,.int n])->(100000000<=n)->(qQ H p)->(∀(d:Int) H',0<=d->d<n->xc p H H'->Q (.int d) H')->zaY vs H Q _e3
theorem zbV:zH ["pool","base","found","k"] ["pool","base"] (zr ZY):=scq
theorem zj9 (D:Df K mg "_law_wide" ZY ["pool","base"] []) (T:TxB K mg) (cN:Cal P w K mg base "_law_next" 1 ["pool","base"] [] qA):Cal P w K mg base "_law_wide" 2 ["pool","base"] [] zaY:=by
 rcases r:D.calq (k:=1) zbV with⟨p,n,rfl,hn,hP,k⟩
 refine⟨_,(zA (xh (zJ QL (pv 1) (zE Zf zi zi) (zN _)) (zB (zK (zI cN hr (zd (pv 0) (zd (pv 1) ze))))) zS)
  (zA (psl (i:=2) zbV.nd zi)
  (zA (vg PassesOwn.never rfl (Zy rfl T.nRange (zd zi ze)) (pgl (i:=3) zbV.nd) (zB (psl (i:=2) zbV.nd (zE xk (zE zR (pv 2) (zE Zf zi zi)) (zI cN hr (zd (pv 0) (zd (zE Zf zi zi) ze)))))))
  (zB (zK (zE vR (pv 2) (pv 1))))))),?_⟩
 try dsimp only[xl,Cx.nox]
 refine⟨_,rfl,_,_,rfl,rfl,⟨by decide,by decide,by decide⟩,_,_,rfl,rfl,_,rfl,qa (λh=>?_) (λh=>?_)⟩
 ·exact absurd (wF h) (by show ¬n<10^8;have:(10:Int)^8=100000000:=by decide
                          lia)
 refine⟨_,rfl,by decide,by decide,?_⟩
 refine Xr (n:=(4:Int).toNat) (lo:=0) (λi σ G=>∃(z:Option V) (g:Int),σ=[Sr p,Si n,Si g,z]/\Bd (30+40*i) g/\xc p H G) ⟨none,0,rfl,Bd.mono (m:=1) (show (0:Int).natAbs<2^1 by decide) (by decide),xc.refl hP⟩ ?_ ?_
 ·rintro i σ G hi hQq;rcases q:hQq with⟨z,g,rfl,hg,tG⟩
  refine⟨_,rfl,_,_,rfl,rfl,⟨by decide,by decide,by decide⟩,_,_,rfl,rfl,⟨hg.mono ∅,Bd.mono (m:=30) (bdn (by decide) (by decide)) (by decide)⟩,?_⟩
  refine⟨_,rfl,_,_,rfl,rfl,⟨by decide,by decide,by decide⟩,p,_,rfl,by decide,by decide,tG.pool,λd G2 d0 d1 t2=>⟨_,_,rfl,rfl,_,_,rfl,?_,tG.trans t2⟩⟩
  have e:((2:Int)^(28:Int).toNat)=268435456:=by decide
  have d1':d<268435456:=by rw[<-e];exact d1
  have b1:Bd 30 ((2:Int)^(28:Int).toNat):=bdn (by decide) (by decide)
  have b2:Bd 30 d:=bdn d0 ∅
  exact((hg.mul b1).add b2).mono ∅
 ·rintro σ G hQq;rcases q:hQq with⟨z,g,rfl,hg,tG⟩
  exact⟨_,rfl,_,rfl,_,_,rfl,rfl,by lia,k _ _ (u7 _ ∅) (uG _ ∅) tG⟩
inductive zgr  (vs:List V) (H:Hp) (Q:VK) (_e3:XK):Prop
 |mk:∀(p:Addr) (n:Int),(vs=[.ref p,.int n])->(0<=n)->(n<=1000000)->(qQ H p)->(∀r x H',xc p H H'->zD H' r x->Sz 80 x->Q (.ref r) H')->zgr vs H Q _e3
theorem zh0 {d:Int}(h0:0<=d) (h1:d<8):∃v:Int,atI [V.int 1,.int 1,.int 1,.int 2,.int 3,.int 4,.int 6,.int ((10:Int)^(5:Int).toNat)] d=some (.int v)/\1<=v/\v<=100000:=by
 have:d=0\/d=1\/d=2\/d=3\/d=4\/d=5\/d=6\/d=7:=by lia
 rcases this with rfl | rfl | rfl | rfl | rfl | rfl | rfl | rfl
 all_goals exact⟨_,rfl,by decide,by decide⟩
theorem zha:zH ["pool","size","bottom"] ["pool","size"] (zr Zq):=scq
theorem zjW (D:Df K mg "_law_ratio" Zq ["pool","size"] []) (cN:Cal P w K mg base "_law_next" 1 ["pool","base"] [] qA) (cWi:Cal P w K mg base "_law_wide" 2 ["pool","base"] [] zaY) (cL:Cal P w K mg base "_law_low" 1 ["top","bottom"] [] ql):Cal P w K mg base "_law_ratio" 3 ["pool","size"] [] zgr:=by
 rcases r:D.calBq (k:=2) zha with⟨p,n,rfl,n0,n1,hP,k⟩
 have hr1:xb 1 _:=hr.md
 refine⟨_,(zM (Xo (i:=2) zha.nd rL (Or.inl rL) (Jq xn (ZL (zW (Bx.mk zi) (zW (Bx.mk zi) (zW (Bx.mk zi) (zW (Bx.mk zi) (zW (Bx.mk zi) (zW (Bx.mk zi) (zW (Bx.mk zi) (zW (Bx.mk (zE Zf zi zi)) ve))))))))) (Bx.mk (zI cN hr1 (zd (pv 0) (zd zi ze)))) (λ_ _=>rL))) (Bx.mk (zA (xh (zJ x8 (zI cN hr1 (zd (pv 0) (zd zi ze))) zi (zN _)) (zB (zK (zI cL hr1 (zd (zE xA (zI cWi hr (zd (pv 0) (zd (zE xk (zE zR zi (zE Zf zi zi)) zi) ze))) (zE Zf zi zi)) (zd (pv 2) ze))))) zS)
  (zB (zK (zI cL hr1 (zd (zE xA (zI cN hr1 (zd (pv 0) (zd (zE xk (zE zR zi (pv 1)) zi) ze))) (pv 1)) (zd (pv 2) ze)))))))),?_⟩
 try dsimp only[xl,Cx.nox]
 refine⟨_,_,rfl,rfl,⟨by decide,by decide,by decide⟩,zL8,λl1 hl1=>?_⟩
 refine⟨_,rfl,p,_,rfl,by decide,by decide,hP.new hl1,λd1 G1 a1 b1 t1=>?_⟩
 obtain⟨v,ev,v0,v1⟩:=zh0 a1 b1
 refine⟨l1,_,_,_,rL,rL,.of (t1.keep l1 _ zg (hP.ne hl1)),ev,?_⟩
 have T1:xc p H G1:=t1.pre (zj.upd hl1)
 have vb:Bd 8900 v:=Bd.mono (m:=20) (bdn ∅ ∅) (by decide)
 refine⟨_,rfl,p,_,rfl,by decide,by decide,t1.pool,λd2 G2 a2 b2 t2=>⟨rfl,_,rfl,qa (λh=>?_) (λh=>?_)⟩⟩
 ·refine⟨_,rfl,_,_,rfl,rfl,⟨by decide,by decide,by decide⟩,_,_,rfl,rfl,⟨Bd.mono (m:=2) (bdn (by decide) (by decide)) (by decide),Bd.mono (m:=80) (bdn (by decide) (by decide)) (by decide)⟩,_,_,rfl,rfl,p,_,rfl,by decide,t2.pool,λd3 G3 a3 b3 t3=>?_⟩
  refine⟨_,_,rfl,rfl,⟨by decide,by decide,by decide⟩,_,_,rfl,rfl,_,rfl,_,_,rfl,by lia,vb,λr H' e h=>k r _ H' (((T1.trans t2).trans t3).same e) h (.divInt ∅ ?_ (Bd.mono (m:=20) (bdn ∅ ∅) (by decide)))⟩
  have e20:((10:Int)^(20:Int).toNat)=100000000000000000000:=by decide
  have b3':d3<2*((10:Int)^(20:Int).toNat)+1:=b3
  show Bd 80 (d3-(10:Int)^(20:Int).toNat)
  rw[e20]at b3' ⊢
  exact Bd.mono (m:=68) (bdz ∅ ∅) (by decide)
 ·refine⟨_,rfl,_,rfl,_,_,rfl,rfl,⟨Bd.mono (m:=2) (bdn (by decide) (by decide)) (by decide),Bd.mono (m:=30) (bdn ∅ ∅) (by decide)⟩,_,_,rfl,rfl,p,_,rfl,by lia,by lia,t2.pool,λd3 G3 a3 b3 t3=>?_⟩
  refine⟨_,rfl,_,_,rfl,rfl,_,rfl,_,_,rfl,by lia,vb,λr H' e h=>k r _ H' (((T1.trans t2).trans t3).same e) h (.divInt ∅ ?_ (Bd.mono (m:=20) (bdn ∅ ∅) (by decide)))⟩
  exact Bd.mono (m:=30) (bdz ∅ ∅) (by decide)
inductive Qf  (vs:List V) (H:Hp) (Q:VK) (_e3:XK):Prop
 |mk:∀(p:Addr),(vs=[.ref p])->(qQ H p)->(∀r x H',xc p H H'->zD H' r x->Sz 5 x->Q (.ref r) H')->Qf vs H Q _e3
theorem zdR {d:Int}(h0:0<=d) (h1:d<4):∃v:Int,atI [V.int 1,.int 1,.int 2,.int 3] d=some (.int v)/\1<=v/\v<=3:=by
 have:d=0\/d=1\/d=2\/d=3:=by lia
 rcases this with rfl | rfl | rfl | rfl
 all_goals exact⟨_,rfl,by decide,by decide⟩
theorem zhY {d:Int}(h0:0<=d) (h1:d<4):∃v:Int,atI [V.int 1,.int 2,.int 3,.int 6] d=some (.int v)/\1<=v/\v<=6:=by
 have:d=0\/d=1\/d=2\/d=3:=by lia
 rcases this with rfl | rfl | rfl | rfl
 all_goals exact⟨_,rfl,by decide,by decide⟩
theorem zbU:zH ["pool"] ["pool"] (zr qS):=scq
theorem zdY (D:Df K mg "_law_speed" qS ["pool"] []) (cN:Cal P w K mg base "_law_next" 1 ["pool","base"] [] qA) (cL:Cal P w K mg base "_law_low" 1 ["top","bottom"] [] ql):Cal P w K mg base "_law_speed" 2 ["pool"] [] Qf:=by
 refine D.calq (k:=1) zbU (λf cdv A outer s H vs Q E hr h=>?_)
 obtain⟨p,rfl,hP,k⟩:=h
 refine⟨_,(zB (zK (zI cL hr (zd (zE xA (zI cN hr (zd (pv 0) (zd zi ze))) zi) (zd (xz xn (qe (zd zi (zd zi (zd zi (zd zi ze))))) (zI cN hr (zd (pv 0) (zd zi ze))) (λ_ _=>rL)) ze))))),?_⟩
 try dsimp only[xl,Cx.nox]
 refine⟨_,rfl,p,_,rfl,by decide,by decide,hP,λd1 G1 a1 b1 t1=>⟨_,_,rfl,rfl,zL4,λl1 hl1=>?_⟩⟩
 refine⟨_,rfl,p,_,rfl,by decide,by decide,t1.pool.new hl1,λd2 G2 a2 b2 t2=>?_⟩
 obtain⟨v,ev,v0,v1⟩:=zdR a2 b2
 refine⟨l1,_,_,_,rL,rL,.of (t2.keep l1 _ zg (t1.pool.ne hl1)),ev,?_⟩
 refine⟨_,_,rfl,by lia,Bd.mono (m:=5) (bdn ∅ ∅) (by decide),λr H' e h=>k r _ H' ((t1.trans (t2.pre (zj.upd hl1))).same e) h (.divInt ∅ (bdz ∅ ∅) (bdn ∅ ∅))⟩
inductive zgn  (vs:List V) (H:Hp) (Q:VK) (_e3:XK):Prop
 |mk:∀(p:Addr),(vs=[.ref p])->(qQ H p)->(∀r x H',xc p H H'->zD H' r x->Sz 5 x->0<=x->Q (.ref r) H')->zgn vs H Q _e3
theorem zkn:zH ["pool"] ["pool"] (zr XC):=scq
theorem zjN (D:Df K mg "_law_gap" XC ["pool"] []) (cN:Cal P w K mg base "_law_next" 1 ["pool","base"] [] qA) (cL:Cal P w K mg base "_law_low" 1 ["top","bottom"] [] ql):Cal P w K mg base "_law_gap" 2 ["pool"] [] zgn:=by
 refine D.calq (k:=1) zkn (λf cdv A outer s H vs Q E hr h=>?_)
 obtain⟨p,rfl,hP,k⟩:=h
 refine⟨_,(zA (xh (zJ x8 (zI cN hr (zd (pv 0) (zd zi ze))) zi (zN _)) (zB (zK (zT (zd zi (zd zi ze))))) zS)
  (zB (zK (zI cL hr (zd (zE xk zi (zI cN hr (zd (pv 0) (zd zi ze)))) (zd (xz xn (qe (zd zi (zd zi (zd zi (zd zi ze))))) (zI cN hr (zd (pv 0) (zd zi ze))) (λ_ _=>rfl)) ze)))))),?_⟩
 try dsimp only[xl,Cx.nox]
 refine⟨_,rfl,p,_,rfl,by decide,by decide,hP,λd0 G0 a0 b0 t0=>⟨rfl,_,rfl,qa (λh=>?_) (λh=>?_)⟩⟩
 ·refine⟨zL2,λr hr=>k r 0 _ (t0.same (zj.upd hr)) zg ⟨show (0:Int).natAbs<2^5 by decide,show (1:Int).natAbs<2^5 by decide⟩ (by decide)⟩
 ·refine⟨_,rfl,p,_,rfl,by decide,by decide,t0.pool,λd1 G1 a1 b1 t1=>⟨_,_,rfl,rfl,zL4,λl1 hl1=>?_⟩⟩
  refine⟨_,rfl,p,_,rfl,by decide,by decide,t1.pool.new hl1,λd2 G2 a2 b2 t2=>?_⟩
  obtain⟨v,ev,v0,v1⟩:=zhY a2 b2
  refine⟨l1,_,_,_,rL,rL,.of (t2.keep l1 _ zg (t1.pool.ne hl1)),ev,?_⟩
  refine⟨_,_,rfl,by lia,Bd.mono (m:=5) (bdn ∅ ∅) (by decide),λr H' e h=>k r _ H' (((t0.trans t1).trans (t2.pre (zj.upd hl1))).same e) h (.divInt ∅ (bdz ∅ ∅) (bdn ∅ ∅)) (zcr ∅ ∅)⟩
end KK
namespace L2
open PySem PySem.Spec PyProof.Rows
def Vt {J:It}{D:Addr}{N n:Nat}{js:List Nat}{σ:St}{g:TG}{tt:TT}{te:TE}{Z:Hp->Prop}{H:Hp}(Pv:Nat->Hp->List V->Prop) (h0:Pv 0 (upd H D (.lst [])) []) (hgo:∀i H ys,i<N->Pv i H ys->J.go i H) (hst:∀H ys,Pv N H ys->J.stop N H)
  (hs:∀i x zs H2 H3 ys (Nx:Hp->List V->Prop),(∀H ys,Pv (i+1) H ys->Nx H ys)->i<N->zs.length=n->J.yld i H2 x H3->Pv i H2 ys->H2 D=some (.lst ys)->g x (zs++qw σ js) H3 λσ4 H4=>σ4.drop n=qw σ js/\tt σ4 H4 λb H5 =>
   if b=true then te σ4 H5 (λv H6=>H6 D=some (.lst ys)/\ys.length<sizeLine/\Nx (upd H6 D (.lst (ys++[v]))) (ys++[v]))else H5 D=some (.lst ys)/\Nx H5 ys)
  (hd:∀H ys,Pv N H ys->H D=some (.lst ys)->Z H) :
  ∃W:Nat->Nat->Hp->List V->Prop,(∃m,W 0 m (upd H D (.lst [])) [])/\∀i m H2 ys,W i m H2 ys->H2 D=some (.lst ys)->(J.stop i H2/\Z H2) ∨
   (J.go i H2/\∀zs x H3,zs.length=n->J.yld i H2 x H3->g x (zs++qw σ js) H3 λσ4 H4=>σ4.drop n=qw σ js/\tt σ4 H4 λb H5=>if b=true then te σ4 H5 (λv H6=>H6 D=some (.lst ys)/\ys.length<sizeLine/\∃m',m'<m/\W (i+1) m' (upd H6 D (.lst (ys++[v]))) (ys++[v]))
    else H5 D=some (.lst ys)/\∃m',m'<m/\W (i+1) m' H5 ys):=Za (Q:=λ_ H=>Z H) Pv h0 hgo hst hs hd
end L2
namespace KK
open PySem L2 KM
variable {P:Program}{w:World}{K:Fg}{mg:Str->Option Value}{base:Heap}
theorem ZC {D:vd}{σ:St}{H:Hp}(h:D.nx σ H):zhg D σ H:=h
theorem xx {t u:TS}{D:vd}{σ:St}{H:Hp}(R:St->Hp->Prop) (h2:∀σ' H',R σ' H'->u D σ' H') (h1:∀nx:St->Hp->Prop,(∀σ' H',R σ' H'->nx σ' H')->t { D with nx:=nx } σ H):J6 t u D σ H:=h1 (u D) h2
theorem zV {p:Addr}{H H':Hp}(hp:qQ H p) (s:xc p H H'):zU H H':=λb xs e=>s.tup hp e
theorem xc.free {p l:Addr}{H G:Hp}(s:xc p H G) (h:G l=none):H l=none:=by
 cases hh:H l with
 |none=>rfl
 |some o =>
  by_cases e:l=p
  ·subst e;obtain⟨_,_,_,z⟩:=s.pool;rw[z]at h;cases h
  ·rw[s.keep _ _ hh e]at h;cases h
theorem xc.put {p l:Addr}{H G:Hp}(s:xc p H G) (h:H l=none) (n:l≠p) (o:HO):xc p H (upd G l o) :=
 ⟨by obtain⟨q1,q2,q3,e⟩:=s.pool;exact⟨q1,q2,q3,by rw[zF (Ne.symm n)];exact e⟩,λb u e m=>by rw[zF (λz=>by rw[z,h]at e;cases e)];exact s.keep b u e m⟩
theorem Z9 {α:Type}{xs:List α}(h:xs.length=1):∃a,xs=[a]:=by
 match xs,h with
 |[a],_=>exact⟨a,rfl⟩
theorem zhX {d:Int}(h0:0<=d) (h1:d<3):∃v:Int,atI [V.int 1,.int 5,.int 1000] d=some (.int v)/\1<=v/\v<=1000:=by
 have:d=0\/d=1\/d=2:=by lia
 rcases this with rfl | rfl | rfl
 all_goals exact⟨_,rfl,by decide,by decide⟩
theorem V4 {α:Type}(v:α):∀n:Nat,(List.replicate n [v]).flatten=List.replicate n v
 |0=>rfl
 |n+1=>by rw[yV,uP,V4 v n,yV];rfl
inductive ziT  (vs:List V) (H:Hp) (Q:VK) (_e3:XK):Prop
 |mk:∀(p:Addr) (n:Nat),(vs=[.ref p,.int (n:Int)])->(1<=n)->(n<=8)->(qQ H p)->(∀l (ws:List Int) H',xc p H H'->H l=none->H' l=some (.lst (ws.map V.int))->ws.length=n->(∀x∈ws,1<=x/\x<=1000)->Q (.ref l) H')->ziT vs H Q _e3
theorem zhc:zH ["pool","many","sort"] ["pool","many"] (zr vD):=scq
theorem zj8 (D:Df K mg "_law_weights" vD ["pool","many"] []) (T:TxB K mg) (cN:Cal P w K mg base "_law_next" 1 ["pool","base"] [] qA):Cal P w K mg base "_law_weights" 2 ["pool","many"] [] ziT:=by
 rcases r:D.calq (k:=1) zhc with⟨p,n,rfl,n1,n8,hP,k⟩
 refine⟨_,(zA (Xx (i:=2) zhc.nd rL (Or.inr rL) (zI cN hr (zd (pv 0) (zd zi ze))))
  (zA (xh (zJ x8 (pv 2) zi (zN _)) (zB (zK (zE zd2 (zde (ZL (zW (Jq xn (ZL (zW (Bx.mk zi) (zW (Bx.mk zi) (zW (Bx.mk zi) ve)))) (Bx.mk (zI cN hr (zd (pv 0) (zd zi ze)))) (λ_ _=>rfl)) ve))) (pv 1)))) zS)
  (zB (zK (vK (NB:=["k"]) (FR:=["pool","sort"]) (js:=[0,2]) rfl rfl (λ_ _ h=>h) (.cons rfl rfl rfl ⟨_,rfl⟩ (.cons rfl rfl rfl ⟨_,rfl⟩ .nil)) rfl (by decide +kernel) rfl (by decide +kernel) (Zy rfl T.nRange (zd (pv 1) ze)) (by intro _ _ _;refine⟨?_,?_,?_⟩;(exact(pgl (i:=0) (show List.Nodup (["k","pool","sort"]:List Str) by decide +kernel)));(exact xP);(exact(zE xk zi (zI cN hr (zd (pv 1) (zd (xz (QF (K:=K) rfl) (qe (zd zi (zd zi ze))) (zE xA (pv 2) zi) (λ_ _=>rfl)) ze))))))))))),?_⟩
 try dsimp only[xl,Cx.nox]
 refine⟨_,rfl,p,_,rfl,by decide,by decide,hP,λso G1 a1 b1 t1=>?_⟩
 refine⟨_,rL,rL,_,rL,qa (λh=>?_) (λh=>?_)⟩
 ·refine⟨zL3,λl1 hl1=>?_⟩
  refine⟨_,rfl,p,_,rfl,by decide,by decide,t1.pool.new hl1,λd2 G2 a2 b2 t2=>?_⟩
  obtain⟨v,ev,v0,v1⟩:=zhX a2 b2
  refine⟨l1,_,_,_,rL,rL,.of (t2.keep l1 _ zg (t1.pool.ne hl1)),ev,zL1,λl2 hl2=>?_⟩
  have T2:xc p H G2:=t1.trans (t2.pre (zj.upd hl1))
  refine⟨_,rfl,l2,_,_,rfl,rfl,zg,by lia,by lia,?_,λl3 hl3=>?_⟩
  ·refine szl ?_
   show 1*((n:Int).toNat)<=1000
   lia
  have T3:=T2.same (zj.upd (o:=.lst [.int v]) hl2)
  refine k l3 (List.replicate n v) _ (T3.same (zj.upd hl3)) (T3.free hl3) ?_ (by simp) (λx m=>by have:=WV m;lia)
  rw[zg,show ((n:Int)).toNat=n by lia,V4];simp
 ·have hs:so=1\/so=2:=by
   have:so≠0:=λz=>by subst z;exact h (by decide)
   lia
  refine⟨_,rfl,(n:Int),rfl,by lia,by lia,λDc hDc=>?_⟩
  have hDp:Dc≠p:=t1.pool.ne hDc
  refine Vt (js:=[0,2]) (J:=Itr 0 ((n:Int)).toNat) (g:=zO 0) (tt:=λ_ H Q=>Q true H) (te:=_) (N:=n) (n:=1) (λi G ys=>xc p G1 G/\∃ws:List Int,ys=ws.map V.int/\ws.length=i/\∀x∈ws,1<=x/\x<=1000)
   ⟨⟨t1.pool.new hDc,λb o e _=>zj.upd hDc _ _ e⟩,[],rfl,rfl,λv hv=>by cases hv⟩ (λi G ys hi z=>by show i<((n:Int)).toNat;lia) (λG ys z=>by show ((n:Int)).toNat<=n;lia) ?_ ?_
  ·rintro i x zs G_ G ys Nx hN hi hz1 ⟨rfl,rfl⟩ ⟨tG,ws,rfl,hwl,hwv⟩ hGD
   obtain⟨y1,rfl⟩:=Z9 hz1
   refine⟨rL,x5 ?_⟩
   refine⟨_,rL,zL2,λl1 hl1=>?_⟩
   obtain⟨mx,emx,m0,m1⟩:∃mx:Int,atI [V.int 9,.int 1000] (so-1)=some (.int mx)/\9<=mx/\mx<=1000:=by
    rcases hs with rfl | rfl
    ·exact⟨9,rfl,by decide,by decide⟩
    ·exact⟨1000,rfl,by decide,by decide⟩
   refine⟨_,rL,_,_,rL,rL,l1,_,_,_,rL,rL,.of zg,emx,?_⟩
   refine⟨p,mx,rfl,by lia,by lia,tG.pool.new hl1,λd2 G3 a2 b2 t3=>⟨_,_,rfl,rfl,?_⟩⟩
   have t3':xc p G G3:=t3.pre (zj.upd hl1)
   have h3:=t3'.keep _ _ hGD hDp
   refine⟨h3,xr (by simp;lia),hN _ _ ⟨(tG.trans t3').put hDc hDp _,ws++[1+d2],by simp,by simp[hwl],λv hv=>?_⟩⟩
   rcases wM.mp hv with z | z
   ·exact hwv v z
   ·have:v=1+d2:=↥z
    lia
  ·rintro G ys ⟨tG,ws,rfl,hwl,hwv⟩ hGD
   exact k Dc ws G (t1.trans tG) (t1.free hDc) hGD hwl hwv
theorem zjk (x:Rat):PyData.eqv (.tuple [.int x.num,.int (x.den:Int)]) (.tuple [.int 0,.int 1])=decide (x=0):=zau x 0
inductive zeG  (vs:List V) (H:Hp) (Q:VK) (_e3:XK):Prop
 |mk:∀(p:Addr) (mo:Int),(vs=[.ref p,.int mo])->(1<=mo)->(mo<=8)->(qQ H p)->(∀r us bs H',xc p H H'->H' r=some (.tup us)->zP H' us bs->Xj bs->1<=bs.length->bs.length<=8->Q (.ref r) H')->zeG vs H Q _e3
theorem Zs:zH ["pool","most","many","weights","place","row","k","speed","gap"] ["pool","most"] (zr XF):=scq
theorem zj0 (D:Df K mg "_law_row" XF ["pool","most"] []) (T:TxB K mg) (cN:Cal P w K mg base "_law_next" 1 ["pool","base"] [] qA) (cWe:Cal P w K mg base "_law_weights" 2 ["pool","many"] [] ziT) (cRa:Cal P w K mg base "_law_ratio" 3 ["pool","size"] [] zgr)
  (cSp:Cal P w K mg base "_law_speed" 2 ["pool"] [] Qf) (cGa:Cal P w K mg base "_law_gap" 2 ["pool"] [] zgn) (cA:Cal P w K mg base "_law_add" 2 ["a","b"] [] (xY Sz2 (· + ·))) (cBl:Cal P w K mg base "_law_below" 1 ["a","b"] [] zgp):Cal P w K mg base "_law_row" 4 ["pool","most"] [] zeG:=by
 rcases r:D.calq (k:=3) Zs with⟨p,mo,rfl,o1,o8,hP,k⟩
 have hr1:xb 1 _:=hr.md
 have hr2:xb 2 _:=hr.md
 have hu:=hr.units
 refine⟨_,(zA (psl (i:=2) Zs.nd (zE xk zi (zI cN hr1 (zd (pv 0) (zd (pv 1) ze)))))
  (zA (psl (i:=3) Zs.nd (zI cWe hr2 (zd (pv 0) (zd (pv 2) ze))))
  (zA (psl (i:=4) Zs.nd (zI cRa hr (zd (pv 0) (zd zi ze))))
  (zA (psl (i:=5) Zs.nd (qe ze))
  (zA (vg PassesOwn.never rfl (Zy rfl T.nRange (zd (pv 2) ze)) (pgl (i:=6) Zs.nd) (zA (psl (i:=7) Zs.nd (zI cSp hr2 (zd (pv 0) ze)))
  (zA (xh (zJ X0 (pv 6) zi (zN _)) (zA (psl (i:=8) Zs.nd (zI cGa hr2 (zd (pv 0) ze)))
  (zA (psl (i:=4) Zs.nd (zI cA hr2 (zd (pv 4) (zd (pv 8) ze))))
  (zA (xh (zJ x8 (zI cN hr1 (zd (pv 0) (zd zi ze))) zi (zN _)) (zB (psl (i:=7) Zs.nd (pxt (xz xn (pv 5) (vL qL zi) (λ_ _=>rfl))))) zS)
  (zB (xh (vz (zJ (ZN hu) (pv 8) (zT (zd zi (zd zi ze))) (zN _)) (q5 (QP (qy (zI cBl hr1 (zd (pxt (xz xn (pv 5) (vL qL zi) (λ_ _=>rfl))) (zd (pv 7) ze))) λ_=>rfl)))).pt (zB (psl (i:=7) Zs.nd (zI cA hr2 (zd (pxt (xz xn (pv 5) (vL qL zi) (λ_ _=>rfl))) (zd (zT (zd (zE xk zi (zI cN hr1 (zd (pv 0) (zd zi ze)))) (zd zi ze))) ze))))) zS))))) zS)
  (zB (x9 (X8 yq yI yJ qu (pv 5) (zd (zT (zd (pv 4) (zd (pv 7) (zd (xz xn (pv 3) (pv 6) (λ_ _=>rfl)) ze)))) ze)))))))
  (zB (zK (qh xK (by rfl) T.nTuple yB (zd (pv 5) ze))))))))),?_⟩
 try dsimp only[xl,Cx.nox]
 refine⟨_,rfl,_,rfl,p,_,rfl,by lia,by lia,hP,λd1 G1 a1 b1 t1=>⟨_,_,rfl,rfl,?_⟩⟩
 obtain⟨n,hn⟩:∃n:Nat,(n:Int)=1+d1:=⟨(1+d1).toNat,by lia⟩
 dsimp only[zO]
 rw[<-hn]
 refine⟨_,rfl,_,rfl,p,n,rfl,by lia,by lia,t1.pool,λlw ws G2 t2 hlw hw hwl hwv=>?_⟩
 refine⟨_,rfl,p,_,rfl,by decide,by decide,t2.pool,λpp pl G3 t3 hpp zpl=>?_⟩
 refine⟨by show 0<=sizeLine;exact yu _,λlr hlr=>?_⟩
 have T3:=(t1.trans t2).trans t3
 have hlwp:lw≠p:=t1.pool.ne hlw
 have hw3:=t3.keep _ _ hw hlwp
 have hrp:lr≠p:=T3.pool.ne hlr
 have hrH:=T3.free hlr
 have hlwr:lw≠lr:=λz=>by rw[z,hlr]at hw3;cases hw3
 dsimp only[zO]
 refine zaZ ?_
 refine⟨_,rfl,(n:Int),rfl,by lia,by lia,?_⟩
 refine Xr (n:=((n:Int)).toNat) (lo:=0) (λi σ G=>∃pp pl us bs z6 z7 z8,σ=[Sr p,Si mo,some (.int (n:Int)),Sr lw,Sr pp,Sr lr,z6,z7,z8]/\xc p H G/\G lw=some (.lst (ws.map V.int))/\zD G pp pl/\Sz (80+10*i) pl/\G lr=some (.lst us)/\zP G us bs/\bs.length=i/\Xj bs ∧
   (∀cs c,bs=cs++[c]->c.pl=pl/\Sz (5+8*i) c.sp))
  ⟨pp,pl,[],[],none,none,none,rfl,T3.same (zj.upd hlr),zj.upd hlr _ _ hw3,zj.upd hlr _ _ hpp,zpl,zg,.nil,rfl,Xj.nil,λcs c e=>by simp at e⟩ ?_ ?_
 ·rintro i σ G hi hQq;rcases q:hQq with⟨pp,pl,us,bs,z6,z7,z8,rfl,TG,hwG,hppG,zplG,hlrG,hB,hbl,hGo,hlast⟩
  have hin:i<n:=by lia
  refine⟨_,rL,p,rL,TG.pool,λrs sp G4 t4 hrs zsp=>?_⟩
  have T4:=TG.trans t4
  have Tu4:=zV TG.pool t4
  dsimp only[zO]
  refine xx (λσ' G'=>∃pp' pl' rs' sp' z8',σ'=[Sr p,Si mo,some (.int (n:Int)),Sr lw,Sr pp',Sr lr,some (.int (0+(i:Int))),Sr rs',z8']/\xc p H G'/\G' lw=some (.lst (ws.map V.int))/\zD G' pp' pl'/\Sz (80+10*(i+1)) pl'/\G' lr=some (.lst us)/\zP G' us bs ∧
   zD G' rs' sp'/\Sz (5+8*(i+1)) sp'/\∀wt cs c,bs=cs++[c]->JC c ⟨pl',sp',wt⟩) ?_ ?_
  ·rintro σ' G5 hQq;rcases q:hQq with⟨pp',pl',rs',sp',z8',rfl,T5,hw5,hpp5,zpl5,hlr5,hB5,hrs5,zsp5,hlex⟩
   obtain⟨wt,ewt⟩:∃wt,ws[i]?=some wt:=⟨_,wk ∅⟩
   have hwt:=hwv wt (wm ewt)
   have ewv:(ws.map V.int)[i]?=some (.int wt):=by rw[wg,ewt];rfl
   have eat:atI (ws.map V.int) (0+(i:Int))=some (.int wt):=by rw[Int.zero_add];exact vo ewv
   refine⟨_,rL,.inl ⟨rL,_,SqL.of hlr5⟩,_,rL,_,rL,_,rL,_,rL,lw,_,_,_,rL,rL,.of hw5,eat,zL3,λt ht=>?_⟩
   refine⟨lr,us,_,rfl,rfl,zj.upd ht _ _ hlr5,xr (by rw[hB.length];lia),?_⟩
   have Tt:zU G5 (upd (upd G5 t (.tup [.ref pp',.ref rs',.int wt])) lr (.lst (us++[.ref t]))):=(zU.of (zj.upd ht)).trans (.upd (zj.upd ht _ _ hlr5))
   refine⟨pp',pl',us++[.ref t],bs++[⟨pl',sp',wt⟩],_,_,_,rfl,(T5.same (zj.upd ht)).put hrH hrp _,?_,Tt _ _ hpp5,zpl5,zg,?_,by simp[hbl],hGo.snoc hwt ⟨zpl5.mono ∅,zsp5.mono ∅⟩ (hlex wt),?_⟩
   ·rw[zF hlwr];exact zj.upd ht _ _ hw5
   ·exact zP.append (.one (b:=⟨pl',sp',wt⟩) (zU.upd (zj.upd ht _ _ hlr5) _ _ zg) (Tt _ _ hpp5) (Tt _ _ hrs5)) (hB5.mono Tt)
   ·intro cs c e
    have e2:=We e rfl
    have:c=⟨pl',sp',wt⟩:=by injection e2 with e3;exact e3.symm
    subst this
    exact⟨rL,zsp5⟩
  ·intro nx hnx
   refine⟨_,rL,_,_,rL,rL,_,rL,qa (λh=>?_) (λh=>?_)⟩
   ·have hi0:0<i:=by have z:(0:Int)<0+(i:Int):=wF h
                     lia
    obtain⟨cs,c,hcs⟩:∃cs c,bs=cs++[c]:=by
     rcases Wn bs with e | ⟨cs,c,e⟩
     ·rw[e]at hbl;simp at hbl;lia
     ·exact⟨cs,c,↥e⟩
    obtain⟨hcpl,zc⟩:=hlast cs c hcs
    have hB':=hB
    rw[hcs]at hB'
    rcases q:hB'.last with⟨us0,la,lp,lq,eus,hla,hlp,hlq⟩
    have elast:atI us (-1)=some (.ref la):=by rw[eus];exact Jm _ _
    refine⟨_,rL,p,rL,T4.pool,λrg ga G5 t5 hrg zga gnn=>?_⟩
    have Tu5:=zV T4.pool t5
    refine⟨_,rL,_,rL,pp,rg,pl,ga,rL,Tu5 _ _ (Tu4 _ _ hppG),hrg,⟨zplG.mono ∅,zga.md⟩,λpp' G6 e6 hpp'=>?_⟩
    have T6:=(T4.trans t5).same e6
    have Tu6:zU G G6:=(Tu4.trans Tu5).trans (.of e6)
    have hw6:=e6 _ _ (t5.keep _ _ (t4.keep _ _ hwG hlwp) hlwp)
    have hlr6:=e6 _ _ (t5.keep _ _ (t4.keep _ _ hlrG hrp) hrp)
    have hrs6:zD G6 rs sp:=e6 _ _ (Tu5 _ _ hrs)
    have zpl':Sz (80+10*(i+1)) (pl+ga):=(zplG.add zga).mono ∅
    have hrg6:zD G6 rg ga:=e6 _ _ hrg
    dsimp only[zO]
    refine xx (λσ' G'=>∃rs' sp',σ'=[Sr p,Si mo,some (.int (n:Int)),Sr lw,Sr pp',Sr lr,some (.int (0+(i:Int))),Sr rs',Sr rg]/\xc p H G'/\G' lw=some (.lst (ws.map V.int))/\zU G6 G'/\G' lr=some (.lst us)/\zD G' rs' sp'/\Sz (5+8*i) sp') ?_ ?_
    ·rintro σ' G7 hQq;rcases q:hQq with⟨rs',sp',rfl,T7,hw7,Tu7,hlr7,hrs7,zs7⟩
     have hrg7:=Tu7 _ _ hrg6
     have hla7:=Tu7 _ _ (Tu6 _ _ hla)
     have hlq7:zD G7 lq c.sp:=Tu7 _ _ (Tu6 _ _ hlq)
     refine⟨_,rL,zL2,λtz htz=>?_⟩
     refine⟨_,_,zD.rd (zj.upd htz _ _ hrg7),.tup zg (.cons (.int 0) (.cons (.int 1) .nil)),va _,rL,_,rL,?_⟩
     rw[zjk]
     have Tu8:zU G7 (upd G7 tz (.tup [.int 0,.int 1])):=.of (zj.upd htz)
     have T8:=T7.same (zj.upd (o:=.tup [.int 0,.int 1]) htz)
     have hw8:=zj.upd (o:=.tup [.int 0,.int 1]) htz _ _ hw7
     have hlr8:=zj.upd (o:=.tup [.int 0,.int 1]) htz _ _ hlr7
     generalize upd G7 tz (.tup [.int 0,.int 1])=G8 at *
     have hla8:=Tu8 _ _ hla7
     have hpp8:zD G8 pp' (pl+ga):=Tu8 _ _ (Tu7 _ _ hpp')
     have hB8:zP G8 us bs:=hB.mono (Tu6.trans (Tu7.trans Tu8))
     have out:∀rs'' sp'' G',xc p H G'->G' lw=some (.lst (ws.map V.int))->zU G8 G'->G' lr=some (.lst us)->zD G' rs'' sp''->Sz (5+8*(i+1)) sp''->(ga=0->c.sp<sp'')->nx [some (.ref p),some (.int mo),some (.int (n:Int)),some (.ref lw),some (.ref pp'),some (.ref lr),some (.int (0+(i:Int))),some (.ref rs''),some (.ref rg)] G':=λrs'' sp'' G' T' hw' Tu' hlr' hrs' zs' hx =>
      hnx _ _ ⟨pp',pl+ga,rs'',sp'',_,rfl,T',hw',Tu' _ _ hpp8,zpl',hlr',hB8.mono Tu',hrs',zs',λwt cs' c' e=>by
       have:c'=c:=by
        rw[hcs]at e
        have:=We e rfl
        injection this with e3;exact e3.symm
       subst this
       by_cases hg:ga=0
       ·exact .inr ⟨by show c'.pl=pl+ga;rw[hcpl,hg];grind,hx hg⟩
       ·exact .inl (by show c'.pl<pl+ga;rw[hcpl];grind)⟩
     by_cases hg:ga=0
     ·rw[wE hg]
      refine x5 ⟨_,rL,_,rL,lr,_,_,_,rL,rL,.of hlr8,elast,la,_,_,_,rL,rL,.of hla8,rL,_,rL,lq,rs',c.sp,sp',rL,Tu8 _ _ hlq7,Tu8 _ _ hrs7,⟨zc.mono ∅,zs7.mono ∅⟩,_,rL,?_⟩
      by_cases hlt:c.sp<sp'
      ·rw[wE hlt]
       exact xQ (out rs' sp' G8 T8 hw8 (.of (zj.refl _)) hlr8 (Tu8 _ _ hrs7) (zs7.mono ∅) λ_=>hlt)
      ·rw[wQ hlt]
       refine x5 ⟨_,rL,_,rL,lr,_,_,_,rL,rL,.of hlr8,elast,la,_,_,_,rL,rL,.of hla8,rL,?_⟩
       refine⟨_,rfl,p,_,rfl,by decide,by decide,T8.pool,λd9 G9 a9 b9 t9=>⟨_,_,rfl,rfl,zL2,λta hta=>?_⟩⟩
       have Tu9:=zV T8.pool t9
       have hone:zD (upd G9 ta (.tup [.int (1+d9),.int 1])) ta ((1+d9:Int):Rat):=by
        show upd G9 ta (.tup [.int (1+d9),.int 1]) ta=some (.tup (rp ((1+d9:Int):Rat)))
        rw[zg];unfold rp;rw[KM.VW,KM.VU];rfl
       have zone:Sz 4 ((1+d9:Int):Rat):=.int (bdn ∅ ∅) (by decide)
       refine⟨lq,ta,c.sp,_,rL,zj.upd hta _ _ (Tu9 _ _ (Tu8 _ _ hlq7)),hone,⟨zc.mono ∅,zone.md⟩,λrn GA eA hrn=>?_⟩
       refine out rn _ GA (((T8.trans t9).same (zj.upd hta)).same eA) (eA _ _ (zj.upd hta _ _ (t9.keep _ _ hw8 hlwp))) ((Tu9.trans (.of (zj.upd hta))).trans (.of eA)) (eA _ _ (zj.upd hta _ _ (t9.keep _ _ hlr8 hrp))) hrn ((zc.add zone).mono ∅) λ_=>?_
       have:(0:Rat)<((1+d9:Int):Rat):=Rat.intCast_pos.mpr ∅
       show c.sp<c.sp+((1+d9:Int):Rat)
       grind
     ·rw[wQ hg]
      exact xQ (xQ (out rs' sp' G8 T8 hw8 (.of (zj.refl _)) hlr8 (Tu8 _ _ hrs7) (zs7.mono ∅) λz=>absurd z hg))
    ·intro nx2 hnx2
     refine⟨_,rfl,p,_,rfl,by decide,by decide,T6.pool,λd7 G7 a7 b7 t7=>⟨rfl,_,rfl,qa (λh=>?_) (λh=>?_)⟩⟩
     ·have Tu7:=zV T6.pool t7
      have hlr7:=t7.keep _ _ hlr6 hrp
      have hlaZ:=Tu7 _ _ (Tu6 _ _ hla)
      exact⟨_,rL,_,rL,lr,_,_,_,rL,rL,.of hlr7,elast,la,_,_,_,rL,rL,.of hlaZ,rL,hnx2 _ _ ⟨lq,c.sp,rL,T6.trans t7,t7.keep _ _ hw6 hlwp,Tu7,hlr7,Tu7 _ _ (Tu6 _ _ hlq),zc⟩⟩
     ·have Tu7:=zV T6.pool t7
      exact hnx2 _ _ ⟨rs,sp,rL,T6.trans t7,t7.keep _ _ hw6 hlwp,Tu7,t7.keep _ _ hlr6 hrp,Tu7 _ _ hrs6,zsp.mono ∅⟩
   ·have hi0:i=0:=by
     rcases yD i with z | z
     ·exact z
     ·exact absurd (wE (show (0:Int)<0+(i:Int) by lia)) h
    exact hnx _ _ ⟨pp,pl,rs,sp,_,rfl,T4,t4.keep _ _ hwG hlwp,Tu4 _ _ hppG,zplG.mono ∅,t4.keep _ _ hlrG hrp,hB.mono Tu4,hrs,zsp.mono ∅,λwt cs c e=>by
     rw[e]at hbl;simp at hbl;lia⟩
 ·rintro σ G hQq;rcases q:hQq with⟨pp,pl,us,bs,z6,z7,z8,rfl,TG,hwG,hppG,zplG,hlrG,hB,hbl,hGo,hlast⟩
  refine⟨_,rL,lr,us,rL,.inl ⟨.of hlrG,λr hr'=>k r us bs _ (TG.same (zj.upd hr')) zg (hB.same (zj.upd hr')) hGo ∅ ∅⟩⟩
theorem zej {sd:Int}(h:sd=1\/sd=-1):rp (sd:Rat)=[.int sd,.int 1]:=by unfold rp;rw[KM.VW,KM.VU];rfl
theorem Ve {sd:Int}(h:sd=1\/sd=-1):Sz 2 (sd:Rat):=.int (by rcases h with rfl | rfl <;> (show (_:Int).natAbs<2^2;decide)) (by decide)
inductive ziy  (vs:List V) (H:Hp) (Q:VK) (_e3:XK):Prop
 |mk:∀(p a bp bq:Addr) (b:zC) (sd:Int),(vs=[.ref p,.ref a,.int sd])->((sd=1\/sd=-1))->(H a=some (.tup [.ref bp,.ref bq,.int b.wt]))->(zD H bp b.pl)->(zD H bq b.sp)->(Sz 300 b.pl)->(Sz 80 b.sp)->(qQ H p)->((∀H',xc p H H'->Q .non H'))->(∀r rp rq x y H',xc p H H'->H' r=some (.tup [.ref rp,.ref rq])->zD H' rp x->zD H' rq y->Sz 310 x->Sz 80 y->(∃g:Rat,0<=g/\x=b.pl+(sd:Rat)*g/\(g=0->(sd:Rat)*b.sp<=(sd:Rat)*y))->Q (.ref r) H')->ziy vs H Q _e3
theorem zbP:zH ["pool","ball","side","gap","speed"] ["pool","ball","side"] (zr Zl):=scq
theorem zjD (D:Df K mg "_law_bound" Zl ["pool","ball","side"] []) (cN:Cal P w K mg base "_law_next" 1 ["pool","base"] [] qA) (cSp:Cal P w K mg base "_law_speed" 2 ["pool"] [] Qf) (cGa:Cal P w K mg base "_law_gap" 2 ["pool"] [] zgn)
  (cA:Cal P w K mg base "_law_add" 2 ["a","b"] [] (xY Sz2 (· + ·))) (cBy:Cal P w K mg base "_law_by" 2 ["a","b"] [] (xY Sz2 (· * ·))) (cBl:Cal P w K mg base "_law_below" 1 ["a","b"] [] zgp):Cal P w K mg base "_law_bound" 3 ["pool","ball","side"] [] ziy:=by
 refine D.calq (k:=2) zbP (λf cdv A outer s H vs Q E hr2 h=>?_)
 rcases q:h with⟨p,a,bp,bq,b,sd,rfl,hsd,ha,hbp,hbq,zb1,zb2,hP,kn,ks⟩
 have hr1:xb 1 _:=hr2.md
 have hu:=hr2.units
 refine⟨_,(zA (xh (zJ x8 (zI cN hr1 (zd (pv 0) (zd zi ze))) zi (zN _)) (zB (zK xj)) zS)
  (zA (psl (i:=3) zbP.nd (zI cGa hr2 (zd (pv 0) ze)))
  (zA (zde (Xo (i:=4) zbP.nd rfl (Or.inl rfl) (Jq xn (ZL (zW (VN (zW (Bx.mk zi) (zW (Bx.mk zi) ve))) (zW (VN (zW (Bx.mk zi) (zW (Bx.mk zi) ve))) (zW (Bx.mk (zI cSp hr2 (zd (pv 0) ze))) ve)))) (Bx.mk (zI cN hr1 (zd (pv 0) (zd zi ze)))) (λ_ _=>rfl))))
  (zA (xh (vz (zJ (ZN hu) (pv 3) (zT (zd zi (zd zi ze))) (zN _)) (q5 (qy (zI cBl hr1 (zd (zI cBy hr2 (zd (zT (zd (pv 2) (zd zi ze))) (zd (pv 4) ze))) (zd (zI cBy hr2 (zd (zT (zd (pv 2) (zd zi ze))) (zd (pxt (pv 1)) ze))) ze))) λ_=>rfl))).pt (zB (psl (i:=4) zbP.nd (pxt (pv 1)))) zS)
  (zB (zK (zT (zd (zI cA hr2 (zd (pxt (pv 1)) (zd (zI cBy hr2 (zd (zT (zd (pv 2) (zd zi ze))) (zd (pv 3) ze))) ze))) (zd (pv 4) ze))))))))),?_⟩
 try dsimp only[xl,Cx.nox]
 refine⟨_,rfl,p,_,rfl,by decide,by decide,hP,λd1 G1 a1 b1 t1=>⟨rfl,_,rfl,qa (λh=>kn G1 t1) (λh=>?_)⟩⟩
 have Tu1:=zV hP t1
 refine⟨_,rL,p,rL,t1.pool,λrg ga G2 t2 hrg zga gnn=>?_⟩
 have Tu2:=zV t1.pool t2
 have T2:=t1.trans t2
 refine⟨zL2,λq1 h1=>?_⟩
 refine⟨zL2,λq2 h2=>?_⟩
 have T2':=T2.same ((zj.upd (o:=.tup [.int 0,.int 1]) h1).trans (zj.upd (o:=.tup [.int 0,.int 1]) h2))
 refine⟨_,rL,p,rL,T2'.pool,λr3 x3 G3 t3 hr3 z3=>?_⟩
 have Tu3:zU G2 G3:=(zU.of ((zj.upd (o:=.tup [.int 0,.int 1]) h1).trans (zj.upd (o:=.tup [.int 0,.int 1]) h2))).trans (zV T2'.pool t3)
 have g1:zD G3 q1 0:=zV T2'.pool t3 _ _ (zj.upd h2 _ _ zg)
 have g2:zD G3 q2 0:=zV T2'.pool t3 _ _ zg
 have T3:=T2'.trans t3
 refine⟨zL3,λl3 hl3=>?_⟩
 refine⟨_,rfl,p,_,rfl,by decide,by decide,T3.pool.new hl3,λd4 G4 a4 b4 t4=>?_⟩
 have Tu4:zU G3 G4:=(zU.of (zj.upd hl3)).trans (zV (T3.pool.new hl3) t4)
 have T4:xc p H G4:=T3.trans (t4.pre (zj.upd hl3))
 obtain⟨rs,sp,ers,hrs,zsp⟩:∃rs sp,atI [V.ref q1,.ref q2,.ref r3] d4=some (.ref rs)/\zD G3 rs sp/\Sz 5 sp:=by
  have zz:Sz 5 (0:Rat):=⟨show (0:Int).natAbs<2^5 by decide,show (1:Int).natAbs<2^5 by decide⟩
  have:d4=0\/d4=1\/d4=2:=by lia
  rcases this with rfl | rfl | rfl
  ·exact⟨q1,0,rL,g1,zz⟩
  ·exact⟨q2,0,rL,g2,zz⟩
  ·exact⟨r3,x3,rL,hr3,z3⟩
 refine⟨l3,_,_,_,rL,rL,.of (t4.keep l3 _ zg (T3.pool.ne hl3)),ers,?_⟩
 have TuH:zU H G4:=((Tu1.trans Tu2).trans Tu3).trans Tu4
 have ha4:=TuH _ _ ha
 have hbp4:zD G4 bp b.pl:=TuH _ _ hbp
 have hbq4:zD G4 bq b.sp:=TuH _ _ hbq
 have hrg4:zD G4 rg ga:=Tu4 _ _ (Tu3 _ _ hrg)
 have hrs4:zD G4 rs sp:=Tu4 _ _ hrs
 dsimp only[zO]
 refine xx (λσ' G'=>∃rs' sp',σ'=[Sr p,Sr a,Si sd,Sr rg,Sr rs']/\xc p H G'/\zU G4 G'/\zD G' rs' sp'/\Sz 80 sp'/\(ga=0->(sd:Rat)*b.sp<=(sd:Rat)*sp')) ?_ ?_
 ·rintro σ' G5 hQq;rcases q:hQq with⟨rs',sp',rfl,T5,Tu5,hrs5,zs5,hle⟩
  have ha5:=Tu5 _ _ ha4
  refine⟨_,rL,a,_,_,_,rL,rL,.of ha5,rL,_,rL,zL2,λts hts=>?_⟩
  have hsd5:zD (upd G5 ts (.tup [.int sd,.int 1])) ts (sd:Rat):=by unfold zD;rw[zej hsd];exact zg
  refine⟨_,rL,ts,rg,_,_,rL,hsd5,zj.upd hts _ _ (Tu5 _ _ hrg4),⟨(Ve hsd).md,zga.md⟩,λrm G6 e6 hrm=>?_⟩
  have S6:zj G5 G6:=(zj.upd hts).trans e6
  refine⟨bp,rm,_,_,rL,S6 _ _ (Tu5 _ _ hbp4),hrm,⟨zb1.md,((Ve hsd).mul zga).md⟩,λrw' G7 e7 hrw=>?_⟩
  refine⟨_,rL,zL2,λrr hrr=>?_⟩
  have S7:=S6.trans e7
  exact ks rr rw' rs' _ sp' _ ((T5.same S7).same (zj.upd hrr)) zg (zj.upd hrr _ _ hrw) (zj.upd hrr _ _ (S7 _ _ hrs5)) ((zb1.add ((Ve hsd).mul zga)).md) zs5 ⟨ga,gnn,rL,hle⟩
 ·intro nx hnx
  refine⟨_,rL,zL2,λtz htz=>?_⟩
  refine⟨_,_,zD.rd (zj.upd htz _ _ hrg4),.tup zg (.cons (.int 0) (.cons (.int 1) .nil)),va _,rL,_,rL,?_⟩
  rw[zjk]
  have S5:zj G4 (upd G4 tz (.tup [.int 0,.int 1])):=zj.upd htz
  have T5:=T4.same S5
  generalize upd G4 tz (.tup [.int 0,.int 1])=G5 at *
  have ha5:=S5 _ _ ha4
  by_cases hg:ga=0
  ·rw[wE hg]
   refine x5 ⟨_,rL,zL2,λs1 hs1=>?_⟩
   have hsd1:zD (upd G5 s1 (.tup [.int sd,.int 1])) s1 (sd:Rat):=by unfold zD;rw[zej hsd];exact zg
   refine⟨_,rL,s1,rs,_,_,rL,hsd1,zj.upd hs1 _ _ (S5 _ _ hrs4),⟨(Ve hsd).md,zsp.md⟩,λm1 G6 e6 hm1=>?_⟩
   have S6:zj G5 G6:=(zj.upd hs1).trans e6
   refine⟨_,rL,zL2,λs2 hs2=>?_⟩
   have hsd2:zD (upd G6 s2 (.tup [.int sd,.int 1])) s2 (sd:Rat):=by unfold zD;rw[zej hsd];exact zg
   have ha6:=zj.upd (o:=.tup [.int sd,.int 1]) hs2 _ _ (S6 _ _ ha5)
   refine⟨_,rL,a,_,_,_,rL,rL,.of ha6,rL,s2,bq,_,_,rL,hsd2,zj.upd hs2 _ _ (S6 _ _ (S5 _ _ hbq4)),⟨(Ve hsd).md,zb2.md⟩,λm2 G7 e7 hm2=>?_⟩
   have S7:zj G6 G7:=(zj.upd hs2).trans e7
   refine⟨m1,m2,_,_,rL,S7 _ _ hm1,hm2,⟨((Ve hsd).mul zsp).md,((Ve hsd).mul zb2).md⟩,_,rL,?_⟩
   have S47:zj G4 G7:=S5.trans (S6.trans S7)
   have T7:=(T5.same S6).same S7
   by_cases hlt:(sd:Rat)*sp<(sd:Rat)*b.sp
   ·rw[wE hlt]
    have ha7:=S47 _ _ ha4
    exact x5 ⟨_,rL,a,_,_,_,rL,rL,.of ha7,rL,hnx _ _ ⟨bq,b.sp,rL,T7,.of S47,S47 _ _ hbq4,zb2,λ_=>Wh⟩⟩
   ·rw[wQ hlt]
    exact xQ (hnx _ _ ⟨rs,sp,rL,T7,.of S47,S47 _ _ hrs4,zsp.md,λ_=>Rat.not_lt.mp hlt⟩)
  ·rw[wQ hg]
   exact xQ (xQ (hnx _ _ ⟨rs,sp,rL,T5,.of S5,S5 _ _ hrs4,zsp.md,λz=>absurd z hg⟩))
abbrev Wl:=Option (Rat×Rat)
def xa (H:Hp) (v:V):Wl->Prop
 |none=>v=.non
 |some (x,y)=>∃a p q,v=.ref a/\H a=some (.tup [.ref p,.ref q])/\zD H p x/\zD H q y
theorem xa.tups {H H':Hp}{v:V}{l:Wl}(h:xa H v l) (e:zU H H'):xa H' v l:=by
 cases l with
 |none=>exact h
 |some z=>obtain⟨x,y⟩:=z;obtain⟨a,p,q,e1,e2,e3,e4⟩:=h;exact⟨a,p,q,e1,e _ _ e2,e _ _ e3,e _ _ e4⟩
structure Box (bs:List zC) (l1 l2:Wl):Prop where
 z1:∀x y,l1=some (x,y)->Sz 320 x/\Sz 80 y
 z2:∀x y,l2=some (x,y)->Sz 320 x/\Sz 80 y
 lo:∀x y b,l1=some (x,y)->bs[0]?=some b->x<=b.pl/\(x=b.pl->y<=b.sp)
 hi:∀x y cs b,l2=some (x,y)->bs=cs++[b]->b.pl<=x/\(x=b.pl->b.sp<=y)
 lt:∀x y x' y',l1=some (x,y)->l2=some (x',y')->x<x'
inductive ziA  (vs:List V) (H:Hp) (Q:VK) (_e3:XK):Prop
 |mk:∀(p r:Addr) (us:List V) (bs:List zC),(vs=[.ref p,.ref r])->(H r=some (.tup us))->(zP H us bs)->(Xj bs)->(1<=bs.length)->(qQ H p)->(∀t v1 v2 l1 l2 H',xc p H H'->H' t=some (.tup [v1,v2])->xa H' v1 l1->xa H' v2 l2->Box bs l1 l2->Q (.ref t) H')->ziA vs H Q _e3
theorem zbQ:zH ["pool","row","low","high"] ["pool","row"] (zr XA):=scq
theorem zjF (D:Df K mg "_law_box" XA ["pool","row"] []) (cBo:Cal P w K mg base "_law_bound" 3 ["pool","ball","side"] [] ziy) (cA:Cal P w K mg base "_law_add" 2 ["a","b"] [] (xY Sz2 (· + ·))):Cal P w K mg base "_law_box" 4 ["pool","row"] [] ziA:=by
 rcases r:D.calq (k:=3) zbQ with⟨p,r,us,bs,rfl,hr',hB,hG,hne,hP,k⟩
 have hr2:xb 2 _:=hr.md
 have hu:=hr.units
 obtain⟨b0,e0⟩:∃b0,bs[0]?=some b0:=⟨_,wk ∅⟩
 have hul:=hB.length
 obtain⟨v0,ev0⟩:∃v0,us[0]?=some v0:=⟨_,wk ∅⟩
 rcases q:hB.get ev0 with⟨a0,p0,q0,b0',e0',rfl,ha0,hp0,hq0⟩
 rw[e0]at e0';cases e0'
 obtain⟨cs,bl,ebl⟩:∃cs c,bs=cs++[c]:=by
  rcases Wn bs with e | ⟨cs,c,e⟩
  ·rw[e]at hne;simp at hne
  ·exact⟨cs,c,↥e⟩
 have hB':=hB
 rw[ebl]at hB'
 rcases q:hB'.last with⟨us0,la,lp,lq,eus,hla,hlp,hlq⟩
 have elast:atI us (-1)=some (.ref la):=by rw[eus];exact Jm _ _
 have m0:b0∈bs:=wm e0
 have ml:bl∈bs:=by rw[ebl];simp
 have first:b0.pl<=bl.pl:=by
  have hpw:=hG.pw
  rcases yD cs.length with z | z
  ·have:cs=[]:=List.length_eq_zero_iff.mp z
   rw[ebl,this]at e0;cases e0;exact Wh
  ·rw[ebl]at e0 hpw
   rw[wD z]at e0
   have:=(wZ.mp hpw).2.2 b0 (wm e0) bl (by simp)
   rcases this with h | h
   ·exact uM h
   ·rw[h.1];exact Wh
 refine⟨_,(zA (psl (i:=2) zbQ.nd (zI cBo hr (zd (pv 0) (zd (pxt (pv 1)) (zd (vL qL zi) ze)))))
  (zA (psl (i:=3) zbQ.nd (zI cBo hr (zd (pv 0) (zd (xz zay (pv 1) (vL qL zi) (λ_ _=>rfl)) (zd zi ze)))))
  (zA (xh (vz (zJ qM (pv 2) xj (zN _)) (vz (zJ qM (pv 3) xj (zN _)) (q5 (zJ (ZN hu) (pxt (pv 2)) (pxt (pv 3)) (zN _))))).pt (zB (psl (i:=3) zbQ.nd (zT (zd (zI cA hr2 (zd (pxt (pv 3)) (zd (zT (zd zi (zd zi ze))) ze))) (zd (pxt (pv 3)) ze))))) zS)
  (zB (zK (zT (zd (pv 2) (zd (pv 3) ze)))))))),?_⟩
 try dsimp only[xl,Cx.nox]
 have rest:∀(G:Hp) (v1:V) (l1:Wl),xc p H G->xa G v1 l1->(∀x y,l1=some (x,y)->Sz 310 x/\Sz 80 y/\x<=b0.pl/\(x=b0.pl->y<=b0.sp))->∀(G2:Hp) (v2:V) (l2:Wl),xc p G G2->xa G2 v2 l2->(∀x y,l2=some (x,y)->Sz 310 x/\Sz 80 y/\bl.pl<=x/\(x=bl.pl->bl.sp<=y)) →
   ∀(nx:St->Hp->Prop),(∀σ' H',(∃v2' l2',σ'=[Sr p,Sr r,some v1,some v2']/\xc p H H'/\xa H' v1 l1/\xa H' v2' l2'/\Box bs l1 l2')->nx σ' H')->True:=λ_ _ _ _ _ _ _ _ _ _ _ _ _ _=>trivial
 clear rest
 refine xx (λσ' G=>∃v1 l1,σ'=[Sr p,Sr r,some v1,none]/\xc p H G/\xa G v1 l1/\∀x y,l1=some (x,y)->Sz 310 x/\Sz 80 y/\x<=b0.pl/\(x=b0.pl->y<=b0.sp)) ?_ ?_
 ·rintro σ' G1 hQq;rcases q:hQq with⟨v1,l1,rfl,T1,hW1,F1⟩
  have Tu1:=zV hP T1
  refine xx (λσ' G=>∃v2 l2,σ'=[Sr p,Sr r,some v1,some v2]/\xc p H G/\xa G v1 l1/\xa G v2 l2/\∀x y,l2=some (x,y)->Sz 310 x/\Sz 80 y/\bl.pl<=x/\(x=bl.pl->bl.sp<=y)) ?_ ?_
  ·rintro σ' G2 hQq;rcases q:hQq with⟨v2,l2,rfl,T2,hW12,hW2,F2⟩
   refine xx (λσ' G=>∃v2' l2',σ'=[Sr p,Sr r,some v1,some v2']/\xc p H G/\xa G v1 l1/\xa G v2' l2'/\Box bs l1 l2') ?_ ?_
   ·rintro σ' G3 hQq;rcases q:hQq with⟨v2',l2',rfl,T3,h1,h2,hBx⟩
    exact⟨_,rL,_,rL,zL2,λt ht=>k t v1 v2' l1 l2' _ (T3.same (zj.upd ht)) zg (h1.tups (.of (zj.upd ht))) (h2.tups (.of (zj.upd ht))) hBx⟩
   ·intro nx hnx
    have ob:∀b,bs[0]?=some b->b=b0:=λb e=>by rw[e0]at e;cases e;rfl
    have oc:∀cs' b,bs=cs'++[b]->b=bl:=λcs' b e=>by
     rw[ebl]at e
     have:=We e rfl
     injection this with e3;exact e3.symm
    cases l1 with
    |none =>
     obtain rfl:v1=.non:=hW12
     refine⟨_,rfl,rfl,_,rfl,xQ (xQ (hnx _ _ ⟨v2,l2,rfl,T2,rfl,hW2,⟨λ_ _ z=>by (cases z),λx y z=>⟨(F2 x y z).1.md,(F2 x y z).2.1⟩,λ_ _ _ z=>by (cases z),λx y cs' b z e=>by rw[oc cs' b e];exact(F2 x y z).2.2,λ_ _ _ _ z=>by (cases z)⟩⟩))⟩
    |some w1 =>
     obtain⟨x1,y1⟩:=w1
     have f1:=F1 x1 y1 rfl
     rcases q:hW12 with⟨aw1,pw1,qw1,rfl,g1,g2,g3⟩
     refine⟨_,rL,rL,_,rL,x5 ?_⟩
     cases l2 with
     |none =>
      obtain rfl:v2=.non:=hW2
      exact⟨_,rfl,rfl,_,rfl,xQ (xQ (hnx _ _ ⟨.non,none,rfl,T2,⟨aw1,pw1,qw1,rfl,g1,g2,g3⟩,rfl,⟨λx y z=>by (cases z;exact⟨f1.1.md,f1.2.1⟩),λ_ _ z=>by (cases z),λx y b z e=>by (cases z;rw[ob b e];exact f1.2.2),λ_ _ _ _ z=>by (cases z),λ_ _ _ _ _ z=>by (cases z)⟩⟩))⟩
     |some w2 =>
      obtain⟨x2,y2⟩:=w2
      have f2:=F2 x2 y2 rfl
      rcases q:hW2 with⟨aw2,pw2,qw2,rfl,i1,i2,i3⟩
      refine⟨_,rL,rL,_,rL,x5 ?_⟩
      refine⟨_,rL,aw1,_,_,_,rL,rL,.of g1,rL,_,rL,aw2,_,_,_,rL,rL,.of i1,rL,_,_,g2.rd,i2.rd,va _,va _,_,rL,?_⟩
      rw[zau]
      by_cases he:x1=x2
      ·rw[wE he]
       refine x5 ⟨_,rL,aw2,_,_,_,rL,rL,.of i1,rL,zL2,λto hto=>?_⟩
       have hone:zD (upd G2 to (.tup [.int 1,.int 1])) to 1:=zg
       have i1':=zj.upd (o:=.tup [.int 1,.int 1]) hto _ _ i1
       refine⟨pw2,to,x2,1,rfl,zj.upd hto _ _ i2,hone,⟨f2.1.md,⟨show (1:Int).natAbs<2^4000 by exact Bd.mono (m:=1) (show (1:Int).natAbs<2^1 by decide) (by decide),show (1:Int).natAbs<2^4000 by exact Bd.mono (m:=1) (show (1:Int).natAbs<2^1 by decide) (by decide)⟩⟩,λrn G3 e3 hrn=>?_⟩
       have S3:zj G2 G3:=(zj.upd hto).trans e3
       have i13:=S3 _ _ i1
       refine⟨_,rL,aw2,_,_,_,rL,rL,.of i13,rL,zL2,λtn htn=>?_⟩
       have S4:zj G2 (upd G3 tn (.tup [.ref rn,.ref qw2])):=S3.trans (zj.upd htn)
       have z1':Sz 1 (1:Rat):=⟨show (1:Int).natAbs<2^1 by decide,show (1:Int).natAbs<2^1 by decide⟩
       refine hnx _ _ ⟨.ref tn,some (x2+1,y2),rfl,T2.same S4,⟨aw1,pw1,qw1,rfl,S4 _ _ g1,S4 _ _ g2,S4 _ _ g3⟩,⟨tn,rn,qw2,rfl,zg,zj.upd htn _ _ hrn,S4 _ _ i3⟩,⟨λx y z=>by (cases z;exact⟨f1.1.md,f1.2.1⟩),λx y z=>by (cases z;exact⟨(f2.1.add z1').md,f2.2.1⟩),λx y b z e=>by (cases z;rw[ob b e];exact f1.2.2),λx y cs' b z e=>?_,λx y x' y' z z'=>?_⟩⟩
       ·cases z;rw[oc cs' b e]
        have:=f2.2.2.1
        exact⟨by grind,λq=>by grind⟩
       ·cases z;cases z';rw[he];grind
      ·rw[wQ he]
       refine xQ (hnx _ _ ⟨.ref aw2,some (x2,y2),rfl,T2,⟨aw1,pw1,qw1,rfl,g1,g2,g3⟩,⟨aw2,pw2,qw2,rfl,i1,i2,i3⟩,⟨λx y z=>by (cases z;exact⟨f1.1.md,f1.2.1⟩),λx y z=>by (cases z;exact⟨f2.1.md,f2.2.1⟩),λx y b z e=>by (cases z;rw[ob b e];exact f1.2.2),λx y cs' b z e=>by (cases z;rw[oc cs' b e];exact f2.2.2),λx y x' y' z z'=>?_⟩⟩)
       cases z;cases z'
       have:=f1.2.2.1
       have:=f2.2.2.1
       grind
  ·intro nx hnx
   have hr1':=Tu1 _ _ hr'
   have hla1:=Tu1 _ _ hla
   refine⟨_,rL,_,rL,_,rL,r,_,_,_,rL,rL,.of hr1',elast,p,la,lp,lq,bl,1,rL,.inl rL,hla1,Tu1 _ _ hlp,Tu1 _ _ hlq,(hG.sz bl ml).1,(hG.sz bl ml).2,T1.pool,λG2 t2=>?_,λrr rp' rq x y G2 t2 h1 h2 h3 z1 z2 hx=>?_⟩
   ·exact hnx _ _ ⟨.non,none,rfl,T1.trans t2,hW1.tups (zV T1.pool t2),rfl,λ_ _ z=>by (cases z)⟩
   ·refine hnx _ _ ⟨.ref rr,some (x,y),rL,T1.trans t2,hW1.tups (zV T1.pool t2),⟨rr,rp',rq,rL,h1,h2,h3⟩,λx' y' z=>?_⟩
    cases z
    obtain⟨g,g0,rfl,hg⟩:=hx
    refine⟨z1,z2,?_,λe=>?_⟩
    ·have:((1:Int):Rat)=1:=rfl
     rw[this];grind
    ·have e1:((1:Int):Rat)=1:=rfl
     rw[e1]at e hg
     have:=hg (by grind)
     grind
 ·intro nx hnx
  refine⟨_,rL,_,rL,r,_,_,_,rL,rL,.of hr',vo (j:=0) ev0,_,rL,p,a0,p0,q0,b0,-1,rL,.inr rL,ha0,hp0,hq0,(hG.sz b0 m0).1,(hG.sz b0 m0).2,hP,λG2 t2=>?_,λrr rp' rq x y G2 t2 h1 h2 h3 z1 z2 hx=>?_⟩
  ·exact hnx _ _ ⟨.non,none,rfl,t2,rfl,λ_ _ z=>by (cases z)⟩
  ·refine hnx _ _ ⟨.ref rr,some (x,y),rL,t2,⟨rr,rp',rq,rL,h1,h2,h3⟩,λx' y' z=>?_⟩
   cases z
   obtain⟨g,g0,rfl,hg⟩:=hx
   have e1:((-1:Int):Rat)=-1:=rfl
   rw[e1]at hg ⊢
   refine⟨by rw[e1]at z1;exact z1,z2,by grind,λe=>?_⟩
   have:=hg (by grind)
   grind
end KK
namespace L2
open PySem PySem.Spec PyProof.Rows
section
variable {X:Cx}{e st:Expr}{te:TE}{pos p2:Pos}
inductive zeP (K:Fg) (Q:VK) (x:V) (y:V) (H2:Hp):Prop
 |mk:∀a xs,(x=.ref a)->(y=.int (-1))->(SqL K H2 a xs)->(∀p,H2 p=none->Q (.ref p) (upd H2 p (.lst xs.reverse)))->zeP K Q x y H2
def zkM (K:Fg) (te ts:TE):TE:=λσ H Q=>te σ H λx H1=>ts σ H1 λy H2=>zeP K Q x y H2
theorem zbI {ts:TE}(he:PE X e te) (hs:PE X st ts):PE X (.Subscript e (.Slice none none (some st) p2) pos) (zkM X.K te ts):=by
 intro pz s σ H Q I h
 refine Subscript_ (thn (he pz s σ H _ I h) λv s1 ⟨x,H1,I1,r1,q1⟩=>?_)
 refine Yl ?_
 rw[evalPart_none]
 refine wj (wj ?_)
 rw[evalPart_some]
 refine thn (hs pz s1 σ H1 _ I1 q1) λu s3 ⟨y,H3,I3,r3,q3⟩=>?_
 obtain⟨a,xs,rfl,rfl,hx,q⟩:=q3
 cases r1
 obtain⟨t,rfl⟩:=r3
 have I4:Inv X pz σ H3 { s3 with heap:=s3.heap.push { cls:=.type "slice",data:=.fields #[.none,.none,.int (-1) t] } }:=I3.kept (t':=s3.toks) λb ob q=>we _ q
 obtain⟨its,r,ht,hz⟩:=I4.list hx
 have hlen:=r.length
 show wpAny (model X.prog X.w) X.A (subscriptTail e (.Slice none none (some st) p2) (.ref a) (.ref s3.heap.objs.size)) (EP X pz σ Q) X.xe { s3 with heap:=s3.heap.push { cls:=.type "slice",data:=.fields #[.none,.none,.int (-1) t] } }
 refine tail_any (ops:=[.ref a,.ref s3.heap.objs.size]) ht.isList.typeIs slot_list_getitem.lookup (WY ht.isList (Heap.IsSliceOf.new ..) .none .none (.int (-1) t) (by simp) ?_ (by rw[wy] <;> lia)) (by with_unfolding_all rfl)
 rw[PySem.W.krv_pick]
 refine⟨.ref _,_,I4.laid (t':=s3.toks) (o:=.lst xs.reverse) (λb ob q=>we _ q) (wo _) ?_,rL,q _ (I4.hok.fresh (wo _))⟩
 exact⟨by rw[wI];exact hz,_,0,r.rev,wu _ rfl⟩
end
section
variable {X:Cx}
def zfV:V->List V->Hp->VK->Prop:=λx vs H Q=>∃(l:Addr) (xs:List V) (i:Int) (y:V),x=.ref l/\vs=[.int i,y]/\H l=some (.lst xs)/\0<=i/\i<=xs.length/\xs.length<=1000/\Q .non (upd H l (.lst (xs.take i.toNat++y::xs.drop i.toNat)))
theorem zhK (its:List Value) (i:Int) (u:Value) (h0:0<=i) (h1:i<=its.length) :
  ((its.toArray.extract 0 (if i<0 then(i+((its.toArray.size:Nat):Int)).toNat else min i.toNat its.toArray.size)).push u++its.toArray.extract (if i<0 then(i+((its.toArray.size:Nat):Int)).toNat else min i.toNat its.toArray.size))=(its.take i.toNat++u::its.drop i.toNat).toArray:=by
 rw[if_neg ∅,wy,show min i.toNat its.length=i.toNat by lia]
 apply Array.toList_inj.mp
 simp
 exact w4 (by simp)
theorem VB:MtM X "list.insert" zfV:=by
 intro pz s σ H x vs v us Q I rx rv h
 obtain⟨l,xs,i,y,rfl,rfl,hH,h0,h1,hz,q⟩:=h
 cases rx
 obtain⟨u1,u2,rfl,⟨t,rfl⟩,ru⟩:=rv.two
 obtain⟨z,its,n,r,hl,e⟩:=I.lstM hH
 have hf:Builtin.List.listFitsIndex i=true:=fitsIndex_both ∅ ∅
 have hz2:its.toArray.size<=sizeLine:=by rw[wy,<-hl];exact z
 refine call_meets F.slot_list_insert ⟨_,e,rfl⟩ F.entry_list_insert (F.args_list_insert_3 _ _ _) (AutoSeq1.list_insert_list_int_val_1 l its.toArray n i t u2 (by simp[hf]) hz2) ⟨e,?_⟩
 refine⟨.non,_,I.lset (its':=its.take i.toNat++u2::its.drop i.toNat) hH e (zhK its i u2 h0 ∅) ((r.take i.toNat).append (.cons ru (r.drop i.toNat))) ?_,rL,q⟩
 have:xs.length<sizeLine:=xr hz
 rw[wC,wJ,yd,yf]
 lia
end
end L2
namespace KK
open PySem L2 KM
variable {P:Program}{w:World}{K:Fg}{mg:Str->Option Value}{base:Heap}
theorem QB {K:Fg}{a:Addr}{xs:List V}{g:TG}{tb:TS}{D:vd}{σ:St}{H:Hp}(Pv:Nat->St->Hp->Prop) (h0:Pv 0 σ H) (hl:∀i σ H,Pv i σ H->SqL K H a xs)
  (hs:∀(i:Nat) (x:V) (σ:St) (H:Hp) (T:Addr),xs[i]?=some x->Pv i σ H->H T=none->g (.ref T) σ (upd H T (.tup [.int i,x])) λσ2 H2=>tb { D with nx:=Pv (i+1),ct:=Pv (i+1),bk:=D.nx } σ2 H2)
  (hd:∀σ H,Pv xs.length σ H->D.nx σ H) :
  ∃W:Nat->Nat->St->Hp->Prop,(∃m,W 0 m σ H)/\∀i m σ H,W i m σ H →
   ((Ite K a).stop i H/\D.nx σ H)\/((Ite K a).go i H/\∃N:St->Hp->Prop,(∀σ' H',N σ' H'->∃m',m'<m/\W (i+1) m' σ' H')/\∀x H',(Ite K a).yld i H x H'->g x σ H' λσ2 H2=>tb { D with nx:=N,ct:=N,bk:=D.nx } σ2 H2):=by
 refine⟨λi m σ H=>m=xs.length-i/\i<=xs.length/\Pv i σ H,⟨xs.length,by simp,yu _,h0⟩,?_⟩
 rintro i m σ H ⟨rfl,hi,p⟩
 have q1:=hl i σ H p
 by_cases hlt:i<xs.length
 ·refine .inr ⟨⟨xs,xs[i],q1,by simp⟩,Pv (i+1),λσ' H' p'=>⟨xs.length-(i+1),by lia,rfl,hlt,p'⟩,λx H' y=>?_⟩
  obtain⟨T,u,rfl,hT,rfl,e1⟩:=y
  exact hs i u σ H T (e1 xs q1) p hT
 ·have e:i=xs.length:=by lia
  subst e
  exact .inl ⟨⟨xs,q1,wo _⟩,hd σ H p⟩
theorem Sz.sub {m n:Nat}{x y:Rat}(h:Sz m x) (k:Sz n y):Sz (m+n+1) (x-y):=by
 rw[Rat.sub_eq_add_neg]
 exact h.add ⟨by rw[Rat.neg_num];exact k.1.neg,by rw[Rat.neg_den];exact k.2⟩
theorem zhx {a b:Str}{m n:Addr}(x:Str) (c:Addr) (e:List.lookup x [(a,m)]=some c):List.lookup x [(a,m),(b,n)]=some c:=by
 simp only[List.lookup]at e ⊢
 cases h1:(x == a)with
 |true=>rw[h1]at e;exact e
 |false=>rw[h1]at e;cases e
theorem zhy {a b:Str}{m n:Addr}(h:a≠b) (x:Str) (c:Addr) (e:List.lookup x [(b,n)]=some c):List.lookup x [(a,m),(b,n)]=some c:=by
 simp only[List.lookup]at e ⊢
 cases h1:(x == b)with
 |true =>
  cases h2:(x == a)with
  |true=>exact absurd ((eq_of_beq h2).symm.trans (eq_of_beq h1)) h
  |false=>rw[h1]at e;exact e
 |false=>rw[h1]at e;cases e
structure NEn (mg:Str->Option Value):Prop where
 nEnum:mg "enumerate" = none
theorem ziW {t b:Int}{n:Nat}(h0 : -(2^n)<t) (h1:t<2^n) (b0:0<b) (b1:b<2^n):Sz n (Rat.divInt t b):=.divInt ∅ (bdz h0 h1) (bdn ∅ b1)
theorem zhZ {d:Int}(h0:0<=d) (h1:d<8):∃v:Int,atI [V.int 2,.int 2,.int 3,.int 3,.int 4,.int 5,.int 6,.int 7] d=some (.int v)/\2<=v/\v<=7:=by
 have:d=0\/d=1\/d=2\/d=3\/d=4\/d=5\/d=6\/d=7:=by lia
 rcases this with rfl | rfl | rfl | rfl | rfl | rfl | rfl | rfl
 all_goals exact⟨_,rfl,by decide,by decide⟩
def ZB (bs:List zC):Prop:=∀b∈bs,Sz 300 b.pl/\Sz 80 b.sp/\1<=b.wt/\b.wt<=1000
structure ERQ (H:Hp) (n:Nat) (us:List V) (qs:List Rat):Prop where
 len:us.length=qs.length
 at':∀(i:Nat) (v:V),us[i]?=some v->∃r q,v=.ref r/\qs[i]?=some q/\zD H r q
 sz:∀q∈qs,Sz n q
theorem ERQ.tups {H H':Hp}{n:Nat}{us:List V}{qs:List Rat}(h:ERQ H n us qs) (e:zU H H'):ERQ H' n us qs:=⟨h.len,λi v f=>let ⟨r,q,a,b,c⟩:=h.at' i v f;⟨r,q,a,b,e _ _ c⟩,h.sz⟩
theorem ERQ.mono {H:Hp}{n n':Nat}{us:List V}{qs:List Rat}(h:ERQ H n us qs) (l:n<=n'):ERQ H n' us qs:=⟨h.len,h.at',λq m=>(h.sz q m).mono l⟩
theorem ERQ.nil {H:Hp}{n:Nat}:ERQ H n [] []:=⟨rfl,λi v e=>by simp at e,λq m=>by cases m⟩
theorem ERQ.cons {H:Hp}{n:Nat}{us:List V}{qs:List Rat}{r:Addr}{q:Rat}(h:ERQ H n us qs) (hr:zD H r q) (z:Sz n q):ERQ H n (.ref r::us) (q::qs):=by
 refine⟨by simp[h.len],λi v e=>?_,λx m=>?_⟩
 ·match i,e with
  |0,e=>cases e;exact⟨r,q,rfl,rfl,hr⟩
  |i+1,e=>exact h.at' i v ↥e
 ·rcases ww.mp m with rfl | m
  ·exact z
  ·exact h.sz x m
theorem ERQ.snoc {H:Hp}{n:Nat}{us:List V}{qs:List Rat}{r:Addr}{q:Rat}(h:ERQ H n us qs) (hr:zD H r q) (z:Sz n q):ERQ H n (us++[.ref r]) (qs++[q]):=by
 refine⟨by simp[h.len],λi v e=>?_,λx m=>?_⟩
 ·by_cases hi:i<us.length
  ·rw[wD hi]at e
   rw[wD (by rw[<-h.len];exact hi)]
   exact h.at' i v e
  ·rw[wB ∅]at e
   have hj:i-us.length=0:=by
    rcases yD (i-us.length)with z | z
    ·exact z
    ·rw[wT (by simp;lia)]at e;cases e
   rw[hj]at e;cases e
   exact⟨r,q,rfl,by rw[wB (by rw[<-h.len];lia),<-h.len,hj];rfl,hr⟩
 ·rcases wM.mp m with y | y
  ·exact h.sz x y
  ·have:x=q:=↥y
   rw[this];exact z
def bq (n:Nat):Rat:=((4*(n:Int):Int):Rat)
theorem VM (n:Nat):bq (n+1)=bq n+4:=by
 unfold bq
 have:(4*((n+1:Nat):Int):Int)=4*(n:Int)+4:=by lia
 rw[this,Rat.intCast_add];rfl
theorem zgI (n:Nat):0<=bq n:=by
 have:((0:Int):Rat)<=((4*(n:Int):Int):Rat):=Wf.mpr ∅
 exact this
def FQ (ow b:Rat) (qs:List Rat):Prop:=∀q∈qs,ow-b<=q/\q<=ow+b
def FA (ow:Rat) (qs:List Rat):Prop:=qs.Pairwise (· > ·)/\(∀q∈qs,ow<q)/\FQ ow (bq qs.length) qs
theorem FA.cons {ow q0 x:Rat}{qs:List Rat}(h:FA ow (q0::qs)) (lt:q0<x) (le:x<=q0+4):FA ow (x::q0::qs):=by
 refine⟨u8.mpr ⟨λa m=>?_,h.1⟩,λq m=>?_,λq m=>?_⟩
 ·rcases ww.mp m with rfl | m
  ·exact lt
  ·have:=(u8.mp h.1).1 a m
   grind
 ·rcases ww.mp m with rfl | m
  ·have:=h.2.1 q0 (wU ..)
   grind
  ·exact h.2.1 q m
 ·have e:bq (x::q0::qs).length=bq (q0::qs).length+4:=VM _
  rw[e]
  rcases ww.mp m with rfl | m
  ·have:=h.2.2 q0 (wU ..)
   grind
  ·have:=h.2.2 q m
   grind
def FB (wh:Int) (ow:Rat) (qs:List Rat):Prop:=qs.Pairwise (· > ·)/\(wh=1->∀q∈qs,q<ow)/\(wh≠1->∀q∈qs,ow<q)/\FQ ow (bq qs.length) qs
def FC (wh:Int) (ow:Rat) (qs:List Rat):Prop:=qs.Pairwise (· > ·)/\(wh=1->∀q∈qs,q<=ow)/\(wh≠1->∀q∈qs,ow<q)/\FQ ow (bq qs.length) qs
def FD (wh:Int) (ow:Rat) (qs:List Rat):Prop:=qs.Pairwise (· > ·)/\(wh=1->∀q∈qs,q<=ow)/\(wh=2->∀q∈qs,ow<=q)/\FQ ow (bq qs.length) qs
theorem FA.mirror {ow:Rat}{qs:List Rat}(h:FA ow qs):FB 1 ow (qs.reverse.map λq=>ow+ow-q):=by
 refine⟨?_,λ_ q m=>?_,λz=>absurd rL z,λq m=>?_⟩
 ·rw[ym,uN]
  exact h.1.imp λ{a b} lt=>by show ow+ow-b>ow+ow-a;grind
 ·obtain⟨x,mx,rfl⟩:=wA.mp m
  have:=h.2.1 x (yp.mp mx)
  grind
 ·obtain⟨x,mx,rfl⟩:=wA.mp m
  have:=h.2.2 x (yp.mp mx)
  rw[wf,wI]
  grind
theorem FA.fb {wh:Int}{ow:Rat}{qs:List Rat}(h:FA ow qs) (w:wh≠1):FB wh ow qs:=⟨h.1,λz=>absurd z w,λ_=>h.2.1,h.2.2⟩
theorem FB.fc {wh:Int}{ow:Rat}{qs:List Rat}(h:FB wh ow qs):FC wh ow qs:=⟨h.1,λz q m=>by have:=h.2.1 z q m;grind,h.2.2.1,h.2.2.2⟩
theorem FB.rest {ow:Rat}{qs:List Rat}(h:FB 1 ow qs):FC 1 ow (ow::qs):=by
 refine⟨u8.mpr ⟨λa m=>h.2.1 rL a m,h.1⟩,λ_ q m=>?_,λz=>absurd rL z,λq m=>?_⟩
 ·rcases ww.mp m with rfl | m
  ·grind
  ·have:=h.2.1 rfl q m
   grind
 ·have e:bq (ow::qs).length=bq qs.length+4:=VM _
  have n:=zgI qs.length
  rw[e]
  rcases ww.mp m with rfl | m
  ·grind
  ·have:=h.2.2.2 q m
   grind
theorem FC.fd {wh:Int}{ow:Rat}{qs:List Rat}(h:FC wh ow qs):FD wh ow qs:=⟨h.1,h.2.1,λz q m=>by have:=h.2.2.1 ∅ q m;grind,h.2.2.2⟩
theorem FC.rest {ow:Rat}{qs:List Rat}(h:FC 2 ow qs):FD 2 ow (qs++[ow]):=by
 refine⟨wZ.mpr ⟨h.1,by simp,λa m b mb=>?_⟩,λz=>absurd z (by decide),λ_ q m=>?_,λq m=>?_⟩
 ·have e:b=ow:=↥mb
  rw[e];exact h.2.2.1 (by decide) a m
 ·rcases wM.mp m with y | y
  ·have:=h.2.2.1 (by decide) q y
   grind
  ·have e:q=ow:=↥y
   grind
 ·have e:bq (qs++[ow]).length=bq qs.length+4:=by rw[wC];exact VM _
  have n:=zgI qs.length
  rw[e]
  rcases wM.mp m with y | y
  ·have:=h.2.2.2 q y
   grind
  ·have e:q=ow:=↥y
   grind
theorem zas {t b c:Int}(hb:0<b) (h0 : -c*b<=t) (h1:t<=c*b) : -(c:Rat)<=Rat.divInt t b/\Rat.divInt t b<=(c:Rat):=by
 have hb':(0:Rat)<(b:Rat):=by exact_mod_cast hb
 rw[yH]
 have g0:((-c*b:Int):Rat)<=(t:Rat):=Wf.mpr h0
 have g1:(t:Rat)<=((c*b:Int):Rat):=Wf.mpr h1
 rw[yX]at g0 g1
 rw[Rat.intCast_neg]at g0
 constructor
 ·rcases Classical.em ((t:Rat)/(b:Rat) < -(c:Rat))with z | z
  ·rw[Yh hb']at z;grind
  ·grind
 ·rcases Classical.em ((c:Rat)<(t:Rat)/(b:Rat))with z | z
  ·rw[Wk hb']at z;grind
  ·grind
inductive zeH  (vs:List V) (H:Hp) (Q:VK) (_e3:XK):Prop
 |mk:∀(p:Addr),(vs=[.ref p])->(qQ H p)->(∀r x H',xc p H H'->zD H' r x->Sz 5 x → -6<=x->x<=6->Q (.ref r) H')->zeH vs H Q _e3
theorem zih (D:Df K mg "_law_speed" qS ["pool"] []) (cN:Cal P w K mg base "_law_next" 1 ["pool","base"] [] qA) (cL:Cal P w K mg base "_law_low" 1 ["top","bottom"] [] ql):Cal P w K mg base "_law_speed" 2 ["pool"] [] zeH:=by
 refine D.calq (k:=1) zbU (λf cdv A outer s H vs Q E hr h=>?_)
 obtain⟨p,rfl,hP,k⟩:=h
 refine⟨_,(zB (zK (zI cL hr (zd (zE xA (zI cN hr (zd (pv 0) (zd zi ze))) zi) (zd (xz xn (qe (zd zi (zd zi (zd zi (zd zi ze))))) (zI cN hr (zd (pv 0) (zd zi ze))) (λ_ _=>rL)) ze))))),?_⟩
 try dsimp only[xl,Cx.nox]
 refine⟨_,rfl,p,_,rfl,by decide,by decide,hP,λd1 G1 a1 b1 t1=>⟨_,_,rfl,rfl,zL4,λl1 hl1=>?_⟩⟩
 refine⟨_,rfl,p,_,rfl,by decide,by decide,t1.pool.new hl1,λd2 G2 a2 b2 t2=>?_⟩
 obtain⟨v,ev,v0,v1⟩:=zdR a2 b2
 refine⟨l1,_,_,_,rL,rL,.of (t2.keep l1 _ zg (t1.pool.ne hl1)),ev,?_⟩
 have hb:=zas (t:=d1-6) (b:=v) (c:=6) ∅ ∅ ∅
 refine⟨_,_,rfl,by lia,Bd.mono (m:=5) (bdn ∅ ∅) (by decide),λr H' e h=>k r _ H' ((t1.trans (t2.pre (zj.upd hl1))).same e) h (.divInt ∅ (bdz ∅ ∅) (bdn ∅ ∅)) hb.1 hb.2⟩
inductive ziz  (vs:List V) (H:Hp) (Q:VK) (_e3:XK):Prop
 |mk:∀(p pp pm:Addr) (wh:Int) (al:Bool) (x m:Rat),(vs=[.ref p,.int wh,.ref pp,.ref pm,.bl al])->(0<=wh)->(wh<=2)->(zD H pp x)->(Sz 80 x)->(zD H pm m)->(Sz 5 m)->(qQ H p)->(∀t r wl us bs ra rb y z H',xc p H H'->H' t=some (.tup [.ref r,.ref wl])->H' r=some (.tup us)->zP H' us bs->ZB bs->1<=bs.length->bs.length<=8->H' wl=some (.tup [.ref ra,.ref rb])->zD H' ra y->zD H' rb z->Sz 300 y->Sz 80 z->(∃qs,bs.map (λb=>(b.pl,b.sp))=v3 x m qs/\FD wh z qs/\y=x-z*m ∧ -6<=z/\z<=6)->Q (.ref t) H')->ziz vs H Q _e3
theorem v5:zH ["pool","where","place","moment","alike","rest","many","own","speeds","k","weights","row","speed"] ["pool","where","place","moment","alike"] (zr vU):=scq
theorem zjE (D:Df K mg "_law_bundle" vU ["pool","where","place","moment","alike"] []) (T:TxB K mg) (TW:NEn mg) (cN:Cal P w K mg base "_law_next" 1 ["pool","base"] [] qA) (cSp:Cal P w K mg base "_law_speed" 2 ["pool"] [] zeH)
  (cL:Cal P w K mg base "_law_low" 1 ["top","bottom"] [] ql) (cA:Cal P w K mg base "_law_add" 2 ["a","b"] [] (xY Sz2 (· + ·))) (cO:Cal P w K mg base "_law_off" 2 ["a","b"] [] (xY Sz2 (· - ·))) (cBy:Cal P w K mg base "_law_by" 2 ["a","b"] [] (xY Sz2 (· * ·))):Cal P w K mg base "_law_bundle" 3 ["pool","where","place","moment","alike"] [] ziz:=by
 rcases r:D.calBq (k:=2) v5 with⟨p,pp,pm,wh,al,px,mm,rfl,w0,w2,hpp,zpp,hpm,zpm,hP,k⟩
 have hr1:xb 1 _:=hr.md
 refine⟨_,(zM (Bx.mk (psl (i:=5) v5.nd (qh zcl (by rfl) T.nInt PyProof.Rows.boot_int (zd (zaN (vq X0 (pv 1) zi (zN _)) (zaO (vq x8 (zI cN hr1 (zd (pv 0) (zd zi ze))) zi (zN _)))) ze))))
  (zM (Xo (i:=6) v5.nd rfl (Or.inl rfl) (zje xA (Jq xn (ZL (zW (Bx.mk zi) (zW (Bx.mk zi) (zW (Bx.mk zi) (zW (Bx.mk zi) (zW (Bx.mk zi) (zW (Bx.mk zi) (zW (Bx.mk zi) (zW (Bx.mk zi) ve))))))))) (Bx.mk (zI cN hr1 (zd (pv 0) (zd zi ze)))) (λ_ _=>rfl)) (Bx.mk (pv 5))))
  (zM (Xo (i:=7) v5.nd rfl (Or.inr rfl) (Jq xn (ZL (zW (VN (zW (Bx.mk zi) (zW (Bx.mk zi) ve))) (zW (VN (zW (Bx.mk zi) (zW (Bx.mk zi) ve))) (zW (Bx.mk (zI cSp hr (zd (pv 0) ze))) ve)))) (Bx.mk (zI cN hr1 (zd (pv 0) (zd zi ze)))) (λ_ _=>rfl)))
  (zM (Bx.mk (psl (i:=8) v5.nd (qe (zd (zI cA hr (zd (pv 7) (zd (zI cL hr1 (zd (zE xk zi (zI cN hr1 (zd (pv 0) (zd zi ze)))) (zd (zE xk zi (zI cN hr1 (zd (pv 0) (zd zi ze)))) ze))) ze))) ze))))
  (zM (Bx.mk (vg PassesOwn.never rfl (Zy rfl T.nRange (zd (zE xA (pv 6) zi) ze)) (pgl (i:=9) v5.nd) (zB (x9 (X8 yq WW WX VB (pv 8) (zd zi (zd (zI cA hr (zd (xz xn (pv 8) zi (λ_ _=>rfl)) (zd (zI cL hr1 (zd (zE xk zi (zI cN hr1 (zd (pv 0) (zd zi ze)))) (zd (zE xk zi (zI cN hr1 (zd (pv 0) (zd zi ze)))) ze))) ze))) ze)))))))
  (zM (Bx.mk (xh (zJ x8 (pv 1) zi (zN _)) (zB (vt (i:=8) (NB:=["speed"]) (FR:=["own"]) (js:=[7]) rfl rfl zhx (.cons rfl rfl rfl ⟨_,rfl⟩ .nil) rfl (by decide +kernel) rfl (by decide +kernel) v5.nd rfl rfl (by rfl) (xN (zbI (pv 8) (vL qL zi))) (by intro _ _ _;refine⟨?_,?_,?_⟩;(exact(pgl (i:=0) (show List.Nodup (["speed","own"]:List Str) by decide +kernel)));(exact xP);(exact(zI cO hr (zd (zI cA hr (zd (pv 1) (zd (pv 1) ze))) (zd (pv 0) ze))))))) zS))
  (zM (Bx.mk (xh (vz (zJ x8 (pv 5) zi (zN _)) (q5 (zJ x8 (pv 1) zi (zN _)))).pt (zB (x9 (X8 yq WW WX VB (pv 8) (zd zi (zd (pv 7) ze))))) zS))
  (zM (Bx.mk (xh (vz (zJ x8 (pv 5) zi (zN _)) (q5 (zJ x8 (pv 1) zi (zN _)))).pt (zB (x9 (X8 yq yI yJ qu (pv 8) (zd (pv 7) ze)))) zS))
  (zM (Bx.mk (vt (i:=10) (NB:=["speed"]) (FR:=["pool"]) (js:=[0]) rfl rfl (zhy (a:="own") (b:="pool") (by decide)) (.cons rfl rfl rfl ⟨_,rfl⟩ .nil) rfl (by decide +kernel) rfl (by decide +kernel) v5.nd rfl rfl (by rfl) (xN (pv 8)) (by intro _ _ _;refine⟨?_,?_,?_⟩;(exact(pgl (i:=0) (show List.Nodup (["speed","pool"]:List Str) by decide +kernel)));(exact xP);(exact(zE xk zi (zI cN hr1 (zd (pv 1) (zd zi ze))))))))
  (zM (Bx.mk (xh (qy (pv 4) λ_=>rfl) (zB (psl (i:=10) v5.nd (zE zd2 (qe (zd (xz xn (pv 10) zi (λ_ _=>rfl)) ze)) (xI qg (by rfl) T.nLen PySem.boot_len (zd (pv 10) ze))))) zS))
  (zM (Bx.mk (psl (i:=11) v5.nd (qe ze)))
  (zM (Bx.mk (vg PassesOwn.never rfl (zbK (by rfl) TW.nEnum (zd (pv 8) ze)) (qJ rfl (zQ (pgl (i:=9) v5.nd) (zQ (pgl (i:=12) v5.nd) xw))) (zB (x9 (X8 yq yI yJ qu (pv 11) (zd (zT (zd (zI cO hr (zd (pv 2) (zd (zI cBy hr (zd (pv 12) (zd (pv 3) ze))) ze))) (zd (pv 12) (zd (xz xn (pv 10) (pv 9) (λ_ _=>rfl)) ze)))) ze))))))
  (Bx.mk (zB (zK (zT (zd (qh xK (by rfl) T.nTuple yB (zd (pv 11) ze)) (zd (zT (zd (zI cO hr (zd (pv 2) (zd (zI cBy hr (zd (pv 7) (zd (pv 3) ze))) ze))) (zd (pv 7) ze))) ze)))))))))))))))))),?_⟩
 try dsimp only[xl,Cx.nox]
 refine xx (λσ' G=>∃rs:Int,(rs=0\/rs=1)/\σ'=[Sr p,Si wh,Sr pp,Sr pm,some (.bl al),Si rs,none,none,none,none,none,none,none]/\xc p H G) ?_ ?_
 rotate_left
 ·intro nx hnx
  refine⟨_,rL,_,_,rL,rL,_,rL,qa (λh=>?_) (λh=>?_)⟩
  ·refine⟨_,rfl,p,_,rfl,by decide,by decide,hP,λd1 G1 a1 b1 t1=>⟨rfl,.inr ⟨_,rfl,?_⟩⟩⟩
   exact hnx _ _ ⟨_,by split <;> lia,rfl,t1⟩
  ·exact .inr ⟨_,rL,hnx _ _ ⟨0,.inl rL,rL,xc.refl hP⟩⟩
 rintro σ' G1 ⟨rs,hrs,rfl,T1⟩
 refine xx (λσ' G=>∃mn:Int,1<=mn/\mn+rs<=7/\σ'=[Sr p,Si wh,Sr pp,Sr pm,some (.bl al),Si rs,Si mn,none,none,none,none,none,none]/\xc p H G) ?_ ?_
 rotate_left
 ·intro nx hnx
  refine⟨zL8,λl1 hl1=>?_⟩
  refine⟨_,rfl,p,_,rfl,by decide,by decide,T1.pool.new hl1,λd2 G2 a2 b2 t2=>?_⟩
  obtain⟨v,ev,v0,v1⟩:=zhZ a2 b2
  refine⟨l1,_,_,_,rL,rL,.of (t2.keep l1 _ zg (T1.pool.ne hl1)),ev,?_⟩
  exact⟨_,rfl,_,_,rfl,rfl,hnx _ _ ⟨v-rs,by lia,by lia,rfl,T1.trans (t2.pre (zj.upd hl1))⟩⟩
 rintro σ' G2 hQq;rcases q:hQq with⟨mn,m1,m7,rfl,T2⟩
 refine xx (λσ' G=>∃ro ow,σ'=[Sr p,Si wh,Sr pp,Sr pm,some (.bl al),Si rs,Si mn,Sr ro,none,none,none,none,none]/\xc p H G/\zD G ro ow/\Sz 5 ow ∧ -6<=ow/\ow<=6) ?_ ?_
 rotate_left
 ·intro nx hnx
  refine⟨zL2,λq1 h1=>?_⟩
  refine⟨zL2,λq2 h2=>?_⟩
  have T2':=T2.same ((zj.upd (o:=.tup [.int 0,.int 1]) h1).trans (zj.upd (o:=.tup [.int 0,.int 1]) h2))
  refine⟨_,rL,p,rL,T2'.pool,λr3 x3 G3 t3 hr3 z3 y3a y3b=>?_⟩
  have g1:zD G3 q1 0:=zV T2'.pool t3 _ _ (zj.upd h2 _ _ zg)
  have g2:zD G3 q2 0:=zV T2'.pool t3 _ _ zg
  have T3:=T2'.trans t3
  refine⟨zL3,λl3 hl3=>?_⟩
  refine⟨_,rfl,p,_,rfl,by decide,by decide,T3.pool.new hl3,λd4 G4 a4 b4 t4=>?_⟩
  have Tu4:zU G3 G4:=(zU.of (zj.upd hl3)).trans (zV (T3.pool.new hl3) t4)
  have T4:xc p H G4:=T3.trans (t4.pre (zj.upd hl3))
  obtain⟨ro,ow,ers,hro,zow,yowa,yowb⟩:∃rs sp,atI [V.ref q1,.ref q2,.ref r3] d4=some (.ref rs)/\zD G3 rs sp/\Sz 5 sp ∧ -6<=sp/\sp<=6:=by
   have zz:Sz 5 (0:Rat):=⟨show (0:Int).natAbs<2^5 by decide,show (1:Int).natAbs<2^5 by decide⟩
   have:d4=0\/d4=1\/d4=2:=by lia
   rcases this with rfl | rfl | rfl
   ·exact⟨q1,0,rfl,g1,zz,by decide,by decide⟩
   ·exact⟨q2,0,rfl,g2,zz,by decide,by decide⟩
   ·exact⟨r3,x3,rL,hr3,z3,y3a,y3b⟩
  exact⟨l3,_,_,_,rL,rL,.of (t4.keep l3 _ zg (T3.pool.ne hl3)),ers,hnx _ _ ⟨ro,ow,rL,T4,Tu4 _ _ hro,zow,yowa,yowb⟩⟩
 rintro σ' G3 hQq;rcases q:hQq with⟨ro,ow,rfl,T3,hro,zow,yowa,yowb⟩
 refine xx (λσ' G=>∃ls us qs,σ'=[Sr p,Si wh,Sr pp,Sr pm,some (.bl al),Si rs,Si mn,Sr ro,Sr ls,none,none,none,none]/\xc p H G/\zD G ro ow/\H ls=none/\ls≠p/\G ls=some (.lst us)/\us.length=1/\ERQ G 10 us qs/\FA ow qs) ?_ ?_
 rotate_left
 ·intro nx hnx
  refine⟨_,rfl,_,rfl,p,_,rfl,by decide,by decide,T3.pool,λd4 G4 a4 b4 t4=>⟨_,_,rfl,rfl,?_⟩⟩
  refine⟨_,rfl,p,_,rfl,by decide,by decide,t4.pool,λd5 G5 a5 b5 t5=>⟨_,_,rfl,rfl,?_⟩⟩
  have Tu5:zU G3 G5:=(zV T3.pool t4).trans (zV t4.pool t5)
  refine⟨_,_,rfl,by lia,Bd.mono (m:=5) (bdn ∅ ∅) (by decide),λr6 G6 e6 hr6=>?_⟩
  have z6:Sz 3 (Rat.divInt (1+d4) (1+d5)):=ziW ∅ ∅ ∅ ∅
  refine⟨ro,r6,_,_,rL,e6 _ _ (Tu5 _ _ hro),hr6,⟨zow.md,z6.md⟩,λr7 G7 e7 hr7=>⟨zL1,λls hls=>?_⟩⟩
  have T7:xc p H G7:=(((T3.trans t4).trans t5).same e6).same e7
  have p6:0<Rat.divInt (1+d4) (1+d5):=by
   rw[<-Yd (1+d5)];exact(Zw ∅).mpr ∅
  refine hnx _ _ ⟨ls,_,_,rfl,T7.same (zj.upd hls),zj.upd hls _ _ (e7 _ _ (e6 _ _ (Tu5 _ _ hro))),T7.free hls,T7.pool.ne hls,zg,rfl,ERQ.nil.cons (zj.upd hls _ _ hr7) ((zow.add z6).md),by simp,λq m=>?_,λq m=>?_⟩
  ·have e:q=ow+Rat.divInt (1+d4) (1+d5):=↥m
   grind
  ·have e:q=ow+Rat.divInt (1+d4) (1+d5):=↥m
   have hb:=(zas (t:=1+d4) (b:=1+d5) (c:=4) ∅ ∅ ∅).2
   have e1:bq [ow+Rat.divInt (1+d4) (1+d5)].length=4:=rfl
   rw[e1]
   grind
 rintro σ' G4 hQq;rcases q:hQq with⟨ls,us,qs,rfl,T4,hro4,hlsH,hlsp,hls,hul,hus,hFA⟩
 refine xx (λσ' G=>∃us qs z9,σ'=[Sr p,Si wh,Sr pp,Sr pm,some (.bl al),Si rs,Si mn,Sr ro,Sr ls,z9,none,none,none]/\xc p H G/\zD G ro ow/\G ls=some (.lst us)/\(us.length:Int)=mn/\ERQ G 40 us qs/\FA ow qs) ?_ ?_
 rotate_left
 ·intro nx hnx
  refine⟨_,rfl,_,_,rfl,rfl,mn-1,rfl,by lia,by lia,?_⟩
  refine Xr (n:=(mn-1).toNat) (lo:=0) (λi σ G=>∃us qs z9,σ=[Sr p,Si wh,Sr pp,Sr pm,some (.bl al),Si rs,Si mn,Sr ro,Sr ls,z9,none,none,none]/\xc p H G/\zD G ro ow/\G ls=some (.lst us)/\us.length=i+1/\ERQ G (10+5*i) us qs/\FA ow qs)
   ⟨us,qs,_,rfl,T4,hro4,hls,hul,hus,hFA⟩ ?_ ?_
  ·rintro i σ G hi hQq;rcases q:hQq with⟨us,qs,z9,rfl,TG,hroG,hlsG,hulG,husG,hFA⟩
   have hi7:i<6:=by lia
   obtain⟨v0,us',rfl⟩:∃v0 us',us=v0::us':=by
    cases us with
    |nil=>simp at hulG
    |cons v0 us'=>exact⟨v0,us',rfl⟩
   rcases q:husG.at' 0 v0 rfl with⟨r0,q0,rfl,eq0,hr0⟩
   have z0:=husG.sz q0 (wm eq0)
   obtain⟨qs',rfl⟩:∃qs',qs=q0::qs':=by
    cases qs with
    |nil=>simp at eq0
    |cons a r=>simp at eq0;exact⟨r,by rw[eq0]⟩
   have e0:atI (V.ref r0::us') 0=some (.ref r0):=vo (j:=0) rfl
   refine⟨_,rL,.inl ⟨rL,_,SqL.of hlsG⟩,_,rL,ls,_,_,_,rL,rL,.of hlsG,e0,?_⟩
   refine⟨_,rfl,p,_,rfl,by decide,by decide,TG.pool,λd4 G5 a4 b4 t5=>⟨_,_,rfl,rfl,?_⟩⟩
   refine⟨_,rfl,p,_,rfl,by decide,by decide,t5.pool,λd5 G6 a5 b5 t6=>⟨_,_,rfl,rfl,?_⟩⟩
   have Tu6:zU G G6:=(zV TG.pool t5).trans (zV t5.pool t6)
   refine⟨_,_,rfl,by lia,Bd.mono (m:=5) (bdn ∅ ∅) (by decide),λr6 G7 e7 hr6=>?_⟩
   have z6:Sz 3 (Rat.divInt (1+d4) (1+d5)):=ziW ∅ ∅ ∅ ∅
   refine⟨r0,r6,_,_,rL,e7 _ _ (Tu6 _ _ hr0),hr6,⟨z0.mono ∅,z6.md⟩,λr7 G8 e8 hr7=>?_⟩
   have T8:xc p H G8:=(((TG.trans t5).trans t6).same e7).same e8
   have hls8:=e8 _ _ (e7 _ _ (t6.keep _ _ (t5.keep _ _ hlsG hlsp) hlsp))
   have Tu8:zU G G8:=(Tu6.trans (.of e7)).trans (.of e8)
   refine⟨ls,_,0,_,rfl,rfl,hls8,by decide,by lia,by simp at hulG ⊢;lia,?_⟩
   have TuL:zU G8 (upd G8 ls (.lst (.ref r7::.ref r0::us'))):=.upd hls8
   have p6:0<Rat.divInt (1+d4) (1+d5):=by
    rw[<-Yd (1+d5)];exact(Zw ∅).mpr ∅
   exact⟨.ref r7::.ref r0::us',_,_,rfl,T8.put hlsH hlsp _,TuL _ _ (Tu8 _ _ hroG),zg,by simp at hulG ⊢;lia,(((husG.mono ∅).tups Tu8).tups TuL).cons (TuL _ _ hr7) ((z0.add z6).mono ∅),hFA.cons (by show q0<q0+Rat.divInt (1+d4) (1+d5);grind) (by
    have hb:=(zas (t:=1+d4) (b:=1+d5) (c:=4) ∅ ∅ ∅).2
    show q0+Rat.divInt (1+d4) (1+d5)<=q0+4;grind)⟩
  ·rintro σ G hQq;rcases q:hQq with⟨us,qs,z9,rfl,TG,hroG,hlsG,hulG,husG,hFA⟩
   exact hnx _ _ ⟨us,qs,z9,rfl,TG,hroG,hlsG,by lia,husG.mono ∅,hFA⟩
 rintro σ' G5 hQq;rcases q:hQq with⟨us5,qs5,z9,rfl,T5,hro5,hls5,hul5,hus5,hFA5⟩
 refine xx (λσ' G=>∃ls us qs,σ'=[Sr p,Si wh,Sr pp,Sr pm,some (.bl al),Si rs,Si mn,Sr ro,Sr ls,z9,none,none,none]/\xc p H G/\zD G ro ow/\H ls=none/\ls≠p/\G ls=some (.lst us)/\(us.length:Int)=mn/\ERQ G 60 us qs/\FB wh ow qs) ?_ ?_
 rotate_left
 ·intro nx hnx
  refine⟨_,rL,rL,_,rL,qa (λh=>?_) (λh=>?_)⟩
  ·refine⟨_,rL,_,rL,ls,us5,rL,rL,.of hls5,λlv hlv=>?_⟩
   refine⟨lv,rL,⟨_,.of zg⟩,λDc hDc=>?_⟩
   have hlvD:lv≠Dc:=λz=>by rw[<-z,zg]at hDc;cases hDc
   have T6:=T5.same (zj.upd (o:=.lst us5.reverse) hlv)
   have hlv6:upd G5 lv (.lst us5.reverse) lv=some (.lst us5.reverse):=zg
   have hro6:zD (upd G5 lv (.lst us5.reverse)) ro ow:=zj.upd hlv _ _ hro5
   have hus6:=hus5.tups (.of (zj.upd (o:=.lst us5.reverse) hlv))
   generalize upd G5 lv (.lst us5.reverse)=G6 at *
   have hw1:wh=1:=↥h
   have hl5:=hus5.len
   have rget:∀(i:Nat) (v:V),us5.reverse[i]?=some v->∃r q,v=.ref r/\qs5.reverse[i]?=some q/\zD G6 r q:=λi v e=>by
    have hi:i<us5.length:=by have:=(wn.mp e).1;rw[wI]at this;exact this
    rw[wX hi]at e
    rw[wX ∅,<-hl5]
    exact hus6.at' _ v e
   refine qb (js:=[7]) (J:=Itl K lv) (g:=zO 0) (te:=_) (n:=1) (xs:=us5.reverse) (λi v G=>∃r q,v=.ref r/\(qs5.reverse.map λq=>ow+ow-q)[i]?=some q/\zD G r q) (λi v G G' e ⟨r,q,a,b,c⟩=>⟨r,q,a,b,e _ _ c⟩) hDc (xS hlv6) (xr (by rw[wI];lia)) ?_ ?_
   ·intro i x zs G7 Q' hx hz S7 hQ
    obtain⟨y1,rfl⟩:=Z9 hz
    rcases q:rget i x hx with⟨r,q,rfl,eq,hrq⟩
    have zq:=hus5.sz q (yp.mp (wm eq))
    refine⟨rL,?_⟩
    refine⟨_,rL,_,rL,ro,ro,ow,ow,rL,S7 _ _ hro6,S7 _ _ hro6,⟨zow.md,zow.md⟩,λr8 G8 e8 hr8=>?_⟩
    refine⟨_,rfl,r8,r,_,_,rfl,hr8,e8 _ _ (S7 _ _ hrq),⟨(zow.add zow).md,zq.md⟩,λr9 G9 e9 hr9=>hQ _ _ (e8.trans e9) ⟨r9,_,rfl,by rw[wg,eq];rfl,hr9⟩⟩
   ·intro ys G7 S7 hD7 hl7 hR7
    refine hnx _ _ ⟨Dc,ys,_,rfl,T6.same S7,S7 _ _ hro6,T6.free hDc,T6.pool.ne hDc,hD7,by rw[hl7,wI];exact hul5,⟨by rw[hl7];simp[hl5],hR7,λq m=>?_⟩,by rw[hw1];exact hFA5.mirror⟩
    obtain⟨x,mx,rfl⟩:=wA.mp m
    exact(Sz.sub (zow.add zow) (hus5.sz x (yp.mp mx))).md
  ·have hw1:wh≠1:=λz=>h (by rw[z];decide)
   exact hnx _ _ ⟨ls,us5,qs5,rfl,T5,hro5,hlsH,hlsp,hls5,hul5,hus5.mono (by decide),hFA5.fb hw1⟩
 clear hls hus hul hlsH hlsp hls5 hFA
 clear qs us
 rintro σ' G6 hQq;rcases q:hQq with⟨ls,us,qs,rfl,T6,hro6,hlsH,hlsp,hls6,hul6,hus6,hFB6⟩
 refine xx (λσ' G=>∃us qs,σ'=[Sr p,Si wh,Sr pp,Sr pm,some (.bl al),Si rs,Si mn,Sr ro,Sr ls,z9,none,none,none]/\xc p H G/\zD G ro ow/\G ls=some (.lst us)/\1<=us.length/\us.length<=7/\(wh≠1->(us.length:Int)+rs<=7)/\ERQ G 60 us qs/\FC wh ow qs) ?_ ?_
 rotate_left
 ·intro nx hnx
  have no:nx [some (.ref p),some (.int wh),some (.ref pp),some (.ref pm),some (.bl al),some (.int rs),some (.int mn),some (.ref ro),some (.ref ls),z9,none,none,none] G6:=hnx _ _ ⟨us,qs,rfl,T6,hro6,hls6,by lia,by lia,λ_=>by lia,hus6,hFB6.fc⟩
  refine⟨_,rL,rL,_,rL,qa (λh=>?_) (λh=>xQ no)⟩
  refine⟨_,rL,rL,_,rL,qa (λh2=>?_) (λh2=>no)⟩
  have TuL:zU G6 (upd G6 ls (.lst (.ref ro::us))):=.upd hls6
  have hw:wh=1:=↥h2
  exact⟨_,rfl,.inl ⟨rfl,_,SqL.of hls6⟩,_,rfl,ls,_,0,_,rfl,rfl,hls6,by decide,by lia,by lia,hnx _ _ ⟨.ref ro::us,_,rfl,T6.put hlsH hlsp _,TuL _ _ hro6,zg,by simp,by simp only[wJ];lia,λz=>absurd hw z,(hus6.tups TuL).cons (TuL _ _ hro6) (zow.md),by subst hw;exact hFB6.rest⟩⟩
 clear hls6 hus6 hul6 hro6 hFB6
 clear qs us
 rintro σ' G7 hQq;rcases q:hQq with⟨us,qs,rfl,T7,hro7,hls7,hu1,hu7,hur,hus7,hFC7⟩
 refine xx (λσ' G=>∃us qs,σ'=[Sr p,Si wh,Sr pp,Sr pm,some (.bl al),Si rs,Si mn,Sr ro,Sr ls,z9,none,none,none]/\xc p H G/\zD G ro ow/\G ls=some (.lst us)/\1<=us.length/\us.length<=7/\ERQ G 60 us qs/\FD wh ow qs) ?_ ?_
 rotate_left
 ·intro nx hnx
  have no:nx [some (.ref p),some (.int wh),some (.ref pp),some (.ref pm),some (.bl al),some (.int rs),some (.int mn),some (.ref ro),some (.ref ls),z9,none,none,none] G7:=hnx _ _ ⟨us,qs,rfl,T7,hro7,hls7,by lia,by lia,hus7,hFC7.fd⟩
  refine⟨_,rL,rL,_,rL,qa (λh=>?_) (λh=>xQ no)⟩
  refine⟨_,rL,rL,_,rL,qa (λh2=>?_) (λh2=>no)⟩
  have TuL:zU G7 (upd G7 ls (.lst (us++[.ref ro]))):=.upd hls7
  have hw:wh=2:=↥h2
  have:=hur ∅
  exact⟨_,rfl,.inl ⟨rfl,_,SqL.of hls7⟩,_,rfl,ls,_,_,rfl,rfl,hls7,xr ∅,hnx _ _ ⟨us++[.ref ro],_,rfl,T7.put hlsH hlsp _,TuL _ _ hro7,zg,by simp,by simp only[wC,Wm];lia,(hus7.tups TuL).snoc (TuL _ _ hro7) (zow.md),by subst hw;exact hFC7.rest⟩⟩
 clear hls7 hus7 hu1 hu7 hur hro7 hFC7
 clear qs us
 rintro σ' G8 hQq;rcases q:hQq with⟨us,qs,rfl,T8,hro8,hls8,hu1,hu7,hus8,hFD8⟩
 refine xx (λσ' G=>∃(lw:Addr) (ws:List Int),σ'=[Sr p,Si wh,Sr pp,Sr pm,some (.bl al),Si rs,Si mn,Sr ro,Sr ls,z9,Sr lw,none,none]/\xc p G8 G/\H lw=none/\lw≠p/\lw≠ls/\G lw=some (.lst (ws.map V.int))/\ws.length=us.length/\∀x∈ws,1<=x/\x<=1000) ?_ ?_
 rotate_left
 ·intro nx hnx
  refine⟨_,rL,ls,rL,⟨_,.of hls8⟩,λDc hDc=>?_⟩
  have hDp:Dc≠p:=T8.pool.ne hDc
  have hDl:Dc≠ls:=λz=>by rw[z,hls8]at hDc;cases hDc
  refine Vt (js:=[0]) (J:=Itl K ls) (g:=zO 0) (tt:=λ_ H Q=>Q true H) (te:=_) (N:=us.length) (n:=1) (λi G ys=>xc p G8 G/\∃ws:List Int,ys=ws.map V.int/\ws.length=i/\∀x∈ws,1<=x/\x<=1000)
   ⟨⟨T8.pool.new hDc,λb o e _=>zj.upd hDc _ _ e⟩,[],rfl,rfl,λv hv=>by cases hv⟩ (λi G ys hi z=>⟨us,us[i],.of (z.1.keep _ _ hls8 hlsp),wk hi⟩) (λG ys z=>⟨us,.of (z.1.keep _ _ hls8 hlsp),wo _⟩) ?_ ?_
  ·rintro i x zs G_ G ys Nx hN hi hz1 ⟨rfl,_⟩ ⟨tG,ws,rfl,hwl,hwv⟩ hGD
   obtain⟨y1,rfl⟩:=Z9 hz1
   refine⟨rL,x5 ?_⟩
   refine⟨_,rfl,p,_,rfl,by decide,by decide,tG.pool,λd2 G3 a2 b2 t3=>⟨_,_,rfl,rfl,?_⟩⟩
   have h3:=t3.keep _ _ hGD hDp
   refine⟨h3,xr (by simp;lia),hN _ _ ⟨(tG.trans t3).put hDc hDp _,ws++[1+d2],by simp,by simp[hwl],λv hv=>?_⟩⟩
   rcases wM.mp hv with z | z
   ·exact hwv v z
   ·have:v=1+d2:=↥z
    lia
  ·rintro G ys ⟨tG,ws,rfl,hwl,hwv⟩ hGD
   exact hnx _ _ ⟨Dc,ws,rL,tG,T8.free hDc,hDp,hDl,hGD,hwl,hwv⟩
 rintro σ' G9 hQq;rcases q:hQq with⟨lw,ws,rfl,T9,hlwH,hlwp,hlwl,hlw9,hwl,hwv⟩
 have T9':=T8.trans T9
 refine xx (λσ' G=>∃(lw:Addr) (ws:List Int),σ'=[Sr p,Si wh,Sr pp,Sr pm,some (.bl al),Si rs,Si mn,Sr ro,Sr ls,z9,Sr lw,none,none]/\xc p G8 G/\H lw=none/\lw≠p/\lw≠ls/\G lw=some (.lst (ws.map V.int))/\ws.length=us.length/\∀x∈ws,1<=x/\x<=1000) ?_ ?_
 rotate_left
 ·intro nx hnx
  refine⟨_,rL,_,rL,qa (λh=>?_) (λh=>hnx _ _ ⟨lw,ws,rL,T9,hlwH,hlwp,hlwl,hlw9,hwl,hwv⟩)⟩
  obtain⟨w0,ew0⟩:∃w0,ws[0]?=some w0:=⟨_,wk ∅⟩
  have e0:atI (ws.map V.int) 0=some (.int w0):=vo (j:=0) (by rw[wg,ew0];rfl)
  refine⟨_,rL,lw,_,_,_,rL,rL,.of hlw9,e0,zL1,λl2 hl2=>?_⟩
  have hlw9':=zj.upd (o:=.lst [.int w0]) hl2 _ _ hlw9
  refine⟨_,rfl,lw,_,rfl,.inl (.of hlw9'),l2,_,_,rfl,rfl,zg,by (first | (simp;lia) | simp),by (first | (simp;lia) | simp),szl (by (first | (simp;lia) | simp)),λl3 hl3=>?_⟩
  have T10:=T9.same ((zj.upd (o:=.lst [.int w0]) hl2).trans (zj.upd (o:=.lst ((List.replicate ((ws.map V.int).length:Int).toNat [V.int w0]).flatten)) hl3))
  have T9a:=T9'.same (zj.upd (o:=.lst [.int w0]) hl2)
  have hls9:=T9.keep _ _ hls8 hlsp
  refine hnx _ _ ⟨l3,List.replicate ws.length w0,rfl,T10,T9a.free hl3,T9a.pool.ne hl3,λz=>?_,?_,by simp[hwl],λx m=>by have:=WV m;subst this;exact hwv _ (wm ew0)⟩
  ·have:=zj.upd (o:=.lst [.int w0]) hl2 _ _ hls9
   rw[<-z,hl3]at this;cases this
  ·rw[zg,V4];simp
 clear hlw9 hwl hwv hlwH hlwp hlwl T9' T9
 rintro σ' G10 hQq;rcases q:hQq with⟨lw,ws,rfl,T10,hlwH,hlwp,hlwl,hlw10,hwl,hwv⟩
 have Tu10:=zV T8.pool T10
 have hls10:=T10.keep _ _ hls8 hlsp
 have hro10:zD G10 ro ow:=Tu10 _ _ hro8
 have hus10:=hus8.tups Tu10
 have T11:=T8.trans T10
 have TuH:zU H G10:=zV hP T11
 refine xx (λσ' G=>∃lr,σ'=[Sr p,Si wh,Sr pp,Sr pm,some (.bl al),Si rs,Si mn,Sr ro,Sr ls,z9,Sr lw,Sr lr,none]/\zj G10 G/\G10 lr=none/\G lr=some (.lst [])) ?_ ?_
 rotate_left
 ·intro nx hnx
  exact⟨by show 0<=sizeLine;exact yu _,λlr hlr=>hnx _ _ ⟨lr,rfl,zj.upd hlr,hlr,zg⟩⟩
 rintro σ' G12 hQq;rcases q:hQq with⟨lr,rfl,S12,hlr10,hlr12⟩
 have hlrp:lr≠p:=T11.pool.ne hlr10
 have hlrH:=T11.free hlr10
 have hlrl:ls≠lr:=λz=>by rw[<-z,hls10]at hlr10;cases hlr10
 have hlrw:lw≠lr:=λz=>by rw[<-z,hlw10]at hlr10;cases hlr10
 have T12:=T11.same S12
 refine xx (λσ' G=>∃z9 z12 vs bs,σ'=[Sr p,Si wh,Sr pp,Sr pm,some (.bl al),Si rs,Si mn,Sr ro,Sr ls,z9,Sr lw,Sr lr,z12]/\xc p H G/\zU G12 G/\G lr=some (.lst vs)/\zP G vs bs/\bs.length=us.length/\ZB bs/\bs.map (λb=>(b.pl,b.sp))=v3 px mm qs) ?_ ?_
 rotate_left
 ·intro nx hnx
  refine⟨_,rL,ls,us,rL,S12 _ _ hls10,QB (xs:=us) (λi σ G=>∃z9 z12 vs bs,σ=[Sr p,Si wh,Sr pp,Sr pm,some (.bl al),Si rs,Si mn,Sr ro,Sr ls,z9,Sr lw,Sr lr,z12]/\xc p H G/\zU G12 G/\G ls=some (.lst us)/\G lw=some (.lst (ws.map V.int))/\G lr=some (.lst vs)/\zP G vs bs/\bs.length=i/\ZB bs/\bs.map (λb=>(b.pl,b.sp))=v3 px mm (qs.take i))
   ⟨_,_,[],[],rfl,T12,λ_ _ e=>e,S12 _ _ hls10,S12 _ _ hlw10,hlr12,.nil,rfl,(λ_ m=>by cases m),rfl⟩ (λi σ G ⟨_,_,_,_,_,_,_,z,_⟩=>.of z) ?_ ?_⟩
  ·rintro i x σ G Tt hx ⟨z9,z12,vs,bs,rfl,TG,TuG,hlsG,hlwG,hlrG,hB,hbl,hZ,hLn⟩ hTt
   have sT:zj G (upd G Tt (.tup [.int i,x])):=zj.upd hTt
   have hTT:upd G Tt (.tup [.int i,x]) Tt=some (.tup [.int i,x]):=zg
   generalize upd G Tt (.tup [.int i,x])=G1 at sT hTT
   have hi7:i<us.length:=(wn.mp hx).1
   rcases q:hus10.at' i x hx with⟨r,q,rfl,eq,hrq⟩
   have zq:=hus10.sz q (wm eq)
   obtain⟨wt,ewt⟩:∃wt,ws[i]?=some wt:=⟨_,wk ∅⟩
   have hwt:=hwv wt (wm ewt)
   have eat:atI (ws.map V.int) (i:Int)=some (.int wt):=vo (by rw[wg,ewt];rfl)
   have hr1:zD G1 r q:=sT _ _ (TuG _ _ (S12 _ _ hrq))
   have hpm1:zD G1 pm mm:=sT _ _ (TuG _ _ (S12 _ _ (TuH _ _ hpm)))
   have hpp1:zD G1 pp px:=sT _ _ (TuG _ _ (S12 _ _ (TuH _ _ hpp)))
   refine⟨Tt,_,rL,.of hTT,rL,_,_,rL,_,_,rL,rL,?_⟩
   refine⟨_,rL,.inl ⟨rL,_,SqL.of (sT _ _ hlrG)⟩,_,rL,_,rL,_,rL,r,pm,q,mm,rL,hr1,hpm1,⟨zq.md,zpm.md⟩,λr2 G2 e2 h2=>?_⟩
   have zqm:=zq.mul zpm
   refine⟨pp,r2,px,_,rL,e2 _ _ hpp1,h2,⟨zpp.md,zqm.md⟩,λr3 G3 e3 h3=>?_⟩
   have S3:=sT.trans (e2.trans e3)
   have hlw3:=S3 _ _ hlwG
   refine⟨_,rL,_,rL,_,rL,lw,_,_,_,rL,rL,.of hlw3,eat,zL3,λt ht=>?_⟩
   have hlr4:=zj.upd (o:=.tup [.ref r3,.ref r,.int wt]) ht _ _ (S3 _ _ hlrG)
   refine⟨lr,vs,_,rfl,rfl,hlr4,xr (by rw[hB.length];lia),?_⟩
   have Tu:zU G3 (upd (upd G3 t (.tup [.ref r3,.ref r,.int wt])) lr (.lst (vs++[.ref t]))):=(zU.of (zj.upd ht)).trans (.upd hlr4)
   have TuA:zU G (upd (upd G3 t (.tup [.ref r3,.ref r,.int wt])) lr (.lst (vs++[.ref t]))):=(zU.of S3).trans Tu
   refine⟨_,_,vs++[.ref t],bs++[⟨px-q*mm,q,wt⟩],rfl,((TG.same S3).same (zj.upd ht)).put hlrH hlrp _,TuG.trans TuA,?_,?_,zg,?_,by simp[hbl],?_,?_⟩
   ·rw[zF hlrl];exact zj.upd ht _ _ (S3 _ _ hlsG)
   ·rw[zF hlrw];exact zj.upd ht _ _ hlw3
   ·exact zP.append (.one (b:=⟨px-q*mm,q,wt⟩) (zU.upd hlr4 _ _ zg) (Tu _ _ h3) (Tu _ _ ((e2.trans e3) _ _ hr1))) (hB.mono TuA)
   ·intro b mb
    rcases wM.mp mb with z | z
    ·exact hZ b z
    ·have:b=⟨px-q*mm,q,wt⟩:=↥z
     subst this
     exact⟨(Sz.sub zpp zqm).md,zq.md,hwt⟩
   ·rw[yO,hLn,yW,eq];simp[v3]
  ·rintro σ G hQq;rcases q:hQq with⟨z9,z12,vs,bs,rfl,TG,TuG,hlsG,hlwG,hlrG,hB,hbl,hZ,hLn⟩
   rw[w4 (by rw[<-hus10.len];lia)]at hLn
   exact hnx _ _ ⟨z9,z12,vs,bs,rL,TG,TuG,hlrG,hB,hbl,hZ,hLn⟩
 rintro σ' G13 hQq;rcases q:hQq with⟨z9',z12,vs,bs,rfl,T13,Tu13,hlr13,hB,hbl,hZ,hLn⟩
 have hro13:zD G13 ro ow:=Tu13 _ _ (S12 _ _ hro10)
 have hpm13:zD G13 pm mm:=Tu13 _ _ (S12 _ _ (TuH _ _ hpm))
 have hpp13:zD G13 pp px:=Tu13 _ _ (S12 _ _ (TuH _ _ hpp))
 refine⟨_,rL,lr,vs,rL,.inl ⟨.of hlr13,λr hr'=>?_⟩⟩
 have S14:zj G13 (upd G13 r (.tup vs)):=zj.upd hr'
 have hr14:upd G13 r (.tup vs) r=some (.tup vs):=zg
 generalize upd G13 r (.tup vs)=G14 at S14 hr14
 refine⟨_,rL,_,rL,_,rL,ro,pm,ow,mm,rL,S14 _ _ hro13,S14 _ _ hpm13,⟨zow.md,zpm.md⟩,λr2 G15 e15 h2=>?_⟩
 have zom:=zow.mul zpm
 refine⟨pp,r2,px,_,rL,e15 _ _ (S14 _ _ hpp13),h2,⟨zpp.md,zom.md⟩,λr3 G16 e16 h3=>?_⟩
 have S16:=e15.trans e16
 refine⟨_,rL,zL2,λwl hwl'=>⟨zL2,λt ht=>?_⟩⟩
 have S17:=S16.trans ((zj.upd (o:=.tup [.ref r3,.ref ro]) hwl').trans (zj.upd (o:=.tup [.ref r,.ref wl]) ht))
 have S17':zj G16 _:=(zj.upd (o:=.tup [.ref r3,.ref ro]) hwl').trans (zj.upd (o:=.tup [.ref r,.ref wl]) ht)
 exact k t r wl vs bs r3 ro _ ow _ (T13.same (S14.trans S17)) zg (S17 _ _ hr14) (hB.same (S14.trans S17)) hZ ∅ ∅ (zj.upd ht _ _ zg) (S17' _ _ h3) (S17 _ _ (S14 _ _ hro13)) ((Sz.sub zpp zom).md) (zow.md) ⟨qs,hLn,hFD8,rL,yowa,yowb⟩
theorem zhW {d:Int}(h0:0<=d) (h1:d<3):∃v:Int,atI [V.int 1,.int 2,.int 3] d=some (.int v)/\1<=v/\v<=3:=by
 have:d=0\/d=1\/d=2:=by lia
 rcases this with rfl | rfl | rfl
 all_goals exact⟨_,rfl,by decide,by decide⟩
theorem zcB {bs:List zC}{pl m:Rat}{qs:List Rat}(h:bs.map (λb=>(b.pl,b.sp))=v3 pl m qs) (pw:qs.Pairwise (· > ·)) (hm:0<m) (z:ZB bs):Xj bs:=by
 refine⟨λb mb=>⟨(z b mb).2.2.1,(z b mb).2.2.2⟩,λb mb=>⟨(z b mb).1,(z b mb).2.1⟩,?_⟩
 have h1:(v3 pl m qs).Pairwise (λa b=>a.1<b.1):=by
  unfold v3
  rw[ym]
  refine pw.imp λ{a b} lt=>?_
  have:=uO (show b<a from lt) hm
  show pl-a*m<pl-b*m
  grind
 rw[<-h,ym]at h1
 exact h1.imp λ{a b} lt=>.inl lt
theorem JD {bs:List zC}{pl m:Rat}{qs:List Rat}(h:bs.map (λb=>(b.pl,b.sp))=v3 pl m qs){b:zC}(mb:b∈bs):b.sp∈qs/\b.pl=pl-b.sp*m:=by
 have:(b.pl,b.sp)∈v3 pl m qs:=by rw[<-h];exact wA.mpr ⟨b,mb,rfl⟩
 unfold v3 at this
 obtain⟨q,mq,e⟩:=wA.mp this
 simp only[Prod.mk.injEq]at e
 obtain⟨e1,e2⟩:=e
 subst e2
 exact⟨mq,e1.symm⟩
theorem JJ {a b m:Rat}(h:a<=b) (hm:0<m):a*m<=b*m:=ut h (uM hm)
theorem zbA {a b m:Rat}(h:a*m=b*m) (hm:0<m):a=b:=by
 have:m≠0:=by grind
 grind
theorem zhw {bs:List zC}:Box bs none none:=⟨λx y e=>by (cases e),λx y e=>by (cases e),λx y b e=>by (cases e),λx y cs b e=>by (cases e),λx y x' y' e=>by (cases e)⟩
theorem zhv {bs:List zC}{pl m ow:Rat}{qs:List Rat}(h:bs.map (λb=>(b.pl,b.sp))=v3 pl m qs) (hm:0<m) (hq:∀q∈qs,q<=ow) (z1:Sz 300 (pl-ow*m)) (z2:Sz 80 ow):Box bs (some (pl-ow*m,ow)) none:=by
 refine⟨λx y e=>by cases e;exact⟨z1.md,z2⟩,(λx y e=>by cases e),λx y b e eb=>?_,(λx y cs b e=>by cases e),(λx y x' y' _ e=>by cases e)⟩
 cases e
 obtain⟨m1,e1⟩:=JD h (wm eb)
 have le:=JJ (hq _ m1) hm
 refine⟨by rw[e1];grind,λe2=>?_⟩
 have:ow*m=b.sp*m:=by rw[e1]at e2;grind
 rw[zbA this hm];grind
theorem zhu {bs:List zC}{pl m ow:Rat}{qs:List Rat}(h:bs.map (λb=>(b.pl,b.sp))=v3 pl m qs) (hm:0<m) (hq:∀q∈qs,ow<=q) (z1:Sz 300 (pl-ow*m)) (z2:Sz 80 ow):Box bs none (some (pl-ow*m,ow)):=by
 refine⟨(λx y e=>by cases e),λx y e=>by cases e;exact⟨z1.md,z2⟩,(λx y b e=>by cases e),λx y cs b e eb=>?_,(λx y x' y' e=>by cases e)⟩
 cases e
 obtain⟨m1,e1⟩:=JD h (show b∈bs by rw[eb];simp)
 have le:=JJ (hq _ m1) hm
 refine⟨by rw[e1];grind,λe2=>?_⟩
 have:ow*m=b.sp*m:=by rw[e1]at e2;grind
 rw[zbA this hm];grind
def StK (p:Addr) (H:Hp) (Q:VK):Prop:=∀t r ws us bs v1 v2 l1 l2 H',xc p H H'->H' t=some (.tup [.ref r,.ref ws])->H' r=some (.tup us)->zP H' us bs->Xj bs->1<=bs.length->bs.length<=8->H' ws=some (.tup [v1,v2])->xa H' v1 l1->xa H' v2 l2->Box bs l1 l2->Q (.ref t) H'
inductive ziF  (vs:List V) (H:Hp) (Q:VK) (_e3:XK):Prop
 |mk:∀(p:Addr) (al:Bool),(vs=[.ref p,.bl al])->(qQ H p)->(StK p H Q)->ziF vs H Q _e3
theorem VF:zH ["pool","alike","moment","where","row","wall","walls"] ["pool","alike"] (zr vC):=scq
theorem zjL (D:Df K mg "_law_focused" vC ["pool","alike"] []) (T:TxB K mg) (cN:Cal P w K mg base "_law_next" 1 ["pool","base"] [] qA) (cRa:Cal P w K mg base "_law_ratio" 3 ["pool","size"] [] zgr)
  (cL:Cal P w K mg base "_law_low" 1 ["top","bottom"] [] ql) (cBu:Cal P w K mg base "_law_bundle" 3 ["pool","where","place","moment","alike"] [] ziz):Cal P w K mg base "_law_focused" 4 ["pool","alike"] [] ziF:=by
 rcases r:D.calBq (k:=3) VF with⟨p,al,rfl,hP,k⟩
 have hr1:xb 1 _:=hr.md
 refine⟨_,(zM (Xo (i:=2) VF.nd rL (Or.inl rL) (Bx.mk (zI cL hr1 (zd (zE xk zi (zI cN hr1 (zd (pv 0) (zd zi ze)))) (zd (xz xn (qe (zd zi (zd zi (zd zi ze)))) (zI cN hr1 (zd (pv 0) (zd zi ze))) (λ_ _=>rL)) ze)))))
  (zM (Bx.mk (psl (i:=3) VF.nd (zI cN hr1 (zd (pv 0) (zd zi ze)))))
  (zM (Bx.mk (qi (zI cBu hr (zd (pv 0) (zd (pv 3) (zd (zI cRa hr (zd (pv 0) (zd zi ze))) (zd (pv 2) (zd (pv 1) ze)))))) (qJ rfl (zQ (pgl (i:=4) VF.nd) (zQ (pgl (i:=5) VF.nd) xw)))))
  (zM (Xo (i:=6) VF.nd rfl (Or.inl rfl) (ZL (zW (Bx.mk xj) (zW (Bx.mk xj) ve))))
  (zM (Bx.mk (xh (zJ X0 (pv 3) zi (zN _)) (zB (qi (pv 5) (QN (pv 6) (zE xA (pv 3) zi) Zu))) zS))
  (Bx.mk (zB (zK (zT (zd (pv 4) (zd (qh xK (by rfl) T.nTuple yB (zd (pv 6) ze)) ze))))))))))),?_⟩
 try dsimp only[xl,Cx.nox]
 refine xx (λσ' G=>∃rm mm,σ'=[Sr p,some (.bl al),Sr rm,none,none,none,none]/\xc p H G/\zD G rm mm/\Sz 5 mm/\0<mm) ?_ ?_
 rotate_left
 ·intro nx hnx
  refine⟨_,rfl,p,_,rfl,by decide,by decide,hP,λd1 G1 a1 b1 t1=>⟨_,_,rfl,rfl,zL3,λl1 hl1=>?_⟩⟩
  refine⟨_,rfl,p,_,rfl,by decide,by decide,t1.pool.new hl1,λd2 G2 a2 b2 t2=>?_⟩
  obtain⟨v,ev,v0,v1⟩:=zhW a2 b2
  refine⟨l1,_,_,_,rL,rL,.of (t2.keep l1 _ zg (t1.pool.ne hl1)),ev,?_⟩
  exact⟨_,_,rfl,by lia,Bd.mono (m:=5) (bdn ∅ ∅) (by decide),λr H' e h=>hnx _ _ ⟨r,_,rfl,(t1.trans (t2.pre (zj.upd hl1))).same e,h,ziW ∅ ∅ ∅ ∅,by rw[<-Yd v];exact(Zw ∅).mpr ∅⟩⟩
 rintro σ' G1 hQq;rcases q:hQq with⟨rm,mm,rfl,T1,hrm,zmm,pmm⟩
 refine⟨_,rfl,p,_,rfl,by decide,by decide,T1.pool,λwh G2 w0 w3 t2=>?_⟩
 have T2:=T1.trans t2
 refine⟨_,rfl,_,rfl,_,rfl,p,_,rfl,by decide,by decide,T2.pool,λrp px G3 t3 hrp zrp=>?_⟩
 have T3:=T2.trans t3
 have hrm3:zD G3 rm mm:=zV T2.pool t3 _ _ (zV T1.pool t2 _ _ hrm)
 refine⟨_,rfl,_,rfl,p,rp,rm,wh,al,px,mm,rfl,w0,by lia,hrp,zrp,hrm3,zmm,T3.pool,λt r wl us bs ra rb y z G4 t4 ht hrr hB hZ h1 h8 hwl hra hrb zy zz hln=>?_⟩
 rcases q:hln with⟨qs,hL,hFD,rfl,_,_⟩
 have hG:=zcB hL hFD.1 pmm hZ
 have T4:=T3.trans t4
 refine⟨t,_,rL,.of ht,rL,_,_,rL,_,_,rL,rL,?_⟩
 refine⟨zL2,λlw hlw=>?_⟩
 have hlwH:=T4.free hlw
 have hlwp:=T4.pool.ne hlw
 have Tu5:zU G4 (upd G4 lw (.lst [.non,.non])):=.of (zj.upd hlw)
 have hlw5:upd G4 lw (.lst [.non,.non]) lw=some (.lst [.non,.non]):=zg
 have T5:=T4.same (zj.upd (o:=.lst [.non,.non]) hlw)
 generalize upd G4 lw (.lst [.non,.non])=G5 at *
 dsimp only[zO]
 refine xx (λσ' G=>∃v1 v2 l1 l2,σ'=[Sr p,some (.bl al),Sr rm,Si wh,Sr r,Sr wl,Sr lw]/\xc p H G/\zU G4 G/\G lw=some (.lst [v1,v2])/\xa G v1 l1/\xa G v2 l2/\Box bs l1 l2) ?_ ?_
 rotate_left
 ·intro nx hnx
  refine⟨_,rL,_,_,rL,rL,_,rL,qa (λh=>?_) (λh=>hnx _ _ ⟨.non,.non,none,none,rL,T5,Tu5,hlw5,rL,rL,zhw⟩)⟩
  have hw:wh=1\/wh=2:=by have:0<wh:=wF h
                         lia
  have wa:∀G,zU G4 G->xa G (.ref wl) (some (px-z*mm,z)):=λG e=>⟨wl,ra,rb,rfl,e _ _ hwl,e _ _ hra,e _ _ hrb⟩
  have TuL:∀xs,zU G5 (upd G5 lw (.lst xs)):=λxs=>.upd hlw5
  rcases hw with rfl | rfl
  ·exact⟨_,rL,_,rL,_,rL,_,_,rL,rL,lw,_,_,0,rL,rL,hlw5,rL,hnx _ _ ⟨.ref wl,.non,some (px-z*mm,z),none,rL,T5.put hlwH hlwp _,Tu5.trans (TuL _),zg,wa _ (Tu5.trans (TuL _)),rL,zhv hL pmm (hFD.2.1 rL) zy zz⟩⟩
  ·exact⟨_,rL,_,rL,_,rL,_,_,rL,rL,lw,_,_,1,rL,rL,hlw5,rL,hnx _ _ ⟨.non,.ref wl,none,some (px-z*mm,z),rL,T5.put hlwH hlwp _,Tu5.trans (TuL _),zg,rL,wa _ (Tu5.trans (TuL _)),zhu hL pmm (hFD.2.2.1 rL) zy zz⟩⟩
 rintro σ' G6 hQq;rcases q:hQq with⟨v1,v2,l1,l2,rfl,T6,Tu6,hlw6,hv1,hv2,hBx⟩
 refine⟨_,rL,_,rL,lw,_,rL,.inl ⟨.of hlw6,λws hws=>⟨zL2,λtt htt=>?_⟩⟩⟩
 have S:=(zj.upd (o:=.tup [v1,v2]) hws).trans (zj.upd (o:=.tup [.ref r,.ref ws]) htt)
 exact k tt r ws us bs v1 v2 l1 l2 _ (T6.same S) zg (S _ _ (Tu6 _ _ hrr)) ((hB.mono Tu6).same S) hG h1 h8 (zj.upd htt _ _ zg) (hv1.tups (.of S)) (hv2.tups (.of S)) hBx
end KK
namespace KQ
open PySem L2 KM KK
def vS {X:Cx}{es:List Expr}{k:Nat}{pos:Pos}{t:TGs}{n:Nat}{K:Fg}(hK:X.K=K) (hc:X.calm=true) (h:PGs X es t)
  (hn:(assignEach es X.env).length=n:=by rfl) (hst:(assignEach es X.env).findIdx? (·.1)=none:=by rfl):PG X (.Tuple es k pos) (Vj K n t):=by subst hK;exact qJ hc h hn hst
def vp {X:Cx}{K:Fg}(hK:X.K=K):IxR X (ZF K):=by subst hK;exact zay
def QF {X:Cx}{K:Fg}(hK:X.K=K):IxR X (zim K):=by subst hK;exact xn
section
variable {P:Program}{w:World}{K:Fg}{mg:Str->Option Value}{base:Heap}
theorem zcE (x y:Rat):Rat.divInt (x.num*y.den-y.num*x.den) (x.den*y.den)=x-y:=by
 exact KM.QJ x y
theorem zeq:zH ["one","other"] ["one","other"] (zr V6):=scq
theorem zdW (D:Df K mg "minus" V6 ["one","other"] []) (c:Cal P w K mg base "ratio" 2 ["top","bottom"] [] ql):Cal P w K mg base "minus" 3 ["one","other"] [] (xY Sz2 (· - ·)):=by
 rcases r:D.calq (k:=2) zeq with⟨p,q,x,y,rfl,hp,hq,⟨hx,hy⟩,k⟩
 have bx:=Bd4 hx
 have b_y:=Bd4 hy
 refine⟨_,zB (zK (zI c hr (zd (zE xA (zE zR (pxt (pv 0)) (pxt (pv 1))) (zE zR (pxt (pv 1)) (pxt (pv 0))))
  (zd (zE zR (pxt (pv 0)) (pxt (pv 1))) ze)))),?_⟩
 refine⟨_,rL,p,_,_,_,rL,rL,.of hp,at0 ..,_,rL,q,_,_,_,rL,rL,.of hq,at1 ..,_,_,rL,rL,⟨bx.1,b_y.2⟩,_,rL,q,_,_,_,rL,rL,.of hq,at0 ..,_,rL,p,_,_,_,rL,rL,.of hp,at1 ..,_,_,rL,rL,⟨b_y.1,bx.2⟩,_,_,rL,rL,?_⟩
 refine⟨_,rL,p,_,_,_,rL,rL,.of hp,at1 ..,_,rL,q,_,_,_,rL,rL,.of hq,at1 ..,_,_,rL,rL,⟨bx.2,b_y.2⟩,?_⟩
 refine⟨_,_,rL,yi (xL x) (xL y),(hx.2.mul hy.2).md,λr H' e h=>k r H' e ?_⟩
 show zD H' r (x-y)
 rw[<-zcE];exact h
inductive zb3  (vs:List V) (H:Hp) (Q:VK) (_e3:XK):Prop
 |mk:∀p q a b c d,(vs=[.ref p,.ref q])->(H p=some (.tup [.int a,.int b]))->(H q=some (.tup [.int c,.int d]))->(Bd 8900 a)->(Bd 8900 b)->(Bd 8900 c)->(Bd 8900 d)->(Q (.bl (decide (a*d<c*b))) H)->zb3 vs H Q _e3
theorem zf8:zH ["one","other"] ["one","other"] (zr zaS):=scq
theorem Bd9 {i:Int}(h:Bd 8900 i):Bd 1000000 i:=h.md
theorem zfA (D:Df K mg "less" zaS ["one","other"] []):Cal P w K mg base "less" 1 ["one","other"] [] zb3:=by
 rcases r:D.calq (k:=0) zf8 with⟨p,q,a,b,c,d,rfl,hp,hq,ha,hb,hc,hd,k⟩
 refine⟨_,zB (zK (vq QL (zE zR (pxt (pv 0)) (pxt (pv 1))) (zE zR (pxt (pv 1)) (pxt (pv 0))) (zN _))),?_⟩
 refine⟨_,rL,p,_,_,_,rL,rL,.of hp,at0 ..,_,rL,q,_,_,_,rL,rL,.of hq,at1 ..,_,_,rL,rL,⟨Bd9 ha,Bd9 hd⟩,?_⟩
 refine⟨_,rL,q,_,_,_,rL,rL,.of hq,at0 ..,_,rL,p,_,_,_,rL,rL,.of hp,at1 ..,_,_,rL,rL,⟨Bd9 hc,Bd9 hb⟩,_,_,rL,rL,?_⟩
 exact k
theorem QI (x y:Rat):decide (x.num*(y.den:Int)<y.num*(x.den:Int))=decide (x<y):=by
 by_cases h:x<y
 ·rw[wE h,wE ((KM.Xa x y).mpr h)]
 ·rw[wQ h,wQ λz=>h ((KM.Xa x y).mp z)]
def vI (ks:List Int):Int:=ks.foldl (λc n=>c/(Int.gcd c n:Int)*n) 1
theorem QH {c n:Int}(hc:0<c) (hn:0<n):0<c/(Int.gcd c n:Int)*n:=by
 refine W4 ?_ hn
 have hg:0<(Int.gcd c n:Int):=by have:=yP n (a:=c) ∅;lia
 exact Int.ediv_pos_of_pos_of_dvd hc ∅ (yT c n)
theorem zhU {c n:Int}(hc:0<c) (hn:0<n):c/(Int.gcd c n:Int)*n<=c*n:=by
 have hg:0<(Int.gcd c n:Int):=by have:=yP n (a:=c) ∅;lia
 exact Int.mul_le_mul_of_nonneg_right (uU _ ∅) ∅
theorem zdc {m n:Nat}{c k:Int}(hc:0<c) (hk:0<k) (h:Bd m c) (h':Bd n k):Bd (m+n) (c/(Int.gcd c k:Int)*k) :=
 (h.mul h').of_le (by have:=zhU hc hk;have:=QH hc hk;omega)
def Pos (n:Nat) (ks:List Int):Prop:=∀k∈ks,0<k/\Bd n k
inductive zeE  (vs:List V) (H:Hp) (Q:VK) (_e3:XK):Prop
 |mk:∀p ks,(vs=[.ref p])->(H p=some (.lst (ks.map V.int)))->(Pos 400 ks)->(ks.length<=20)->(Q (.int (vI ks)) H)->zeE vs H Q _e3
theorem V7:zH ["numbers","common","number"] ["numbers"] (zr qK):=scq
theorem zie (D:Df K mg "least_multiple" qK ["numbers"] []) (cG:Cal P w K mg base "greatest_divisor" 1 ["one","other"] [] JZ):Cal P w K mg base "least_multiple" 2 ["numbers"] [] zeE:=by
 rcases r:D.calq (k:=1) V7 with⟨p,ks,rfl,hp,hk,hl,k⟩
 refine⟨_,(zA (psl (i:=1) V7.nd zi)
  (zA (vg PassesOwn.never rfl (xN (pv 0)) (pgl (i:=2) V7.nd) (zB (psl (i:=1) V7.nd (zE zR (zE qd (pv 1) (zI cG hr (zd (pv 1) (zd (pv 2) ze)))) (pv 2)))))
  (zB (zK (pv 1))))),?_⟩
 try dsimp only[xl,Cx.nox]
 refine⟨_,rfl,p,rfl,⟨_,SqL.of hp⟩,QC (xs:=ks.map V.int) (λi σ H1=>H1=H/\∃z,σ=[Sr p,some (.int (vI (ks.take i))),z]/\0<vI (ks.take i)/\Bd (1+400*i) (vI (ks.take i))) ⟨rfl,none,rfl,(by show (0:Int)<1;decide),(show (1:Int).natAbs<2^1 by decide)⟩ ?_ ?_ ?_⟩
 ·rintro i σ H1 _ ⟨rfl,_⟩;exact .of hp
 ·rintro i x σ H1 hx hQq;rcases q:hQq with⟨rfl,z,rfl,h1,h2⟩
  have hi:i<ks.length:=by
   have:=(wn.mp hx).1
   simpa using this
  obtain⟨n,hn,rfl⟩:∃n,ks[i]?=some n/\V.int n=x:=↥hx
  have hn':=hk n (wm hn)
  have et:vI (ks.take (i+1))=vI (ks.take i)/(Int.gcd (vI (ks.take i)) n:Int)*n:=by
   rw[yW,hn];simp[vI,List.foldl_append]
  have hg:0<(Int.gcd (vI (ks.take i)) n:Int):=by have:=yP n (a:=vI (ks.take i)) ∅;lia
  have b1:Bd 8900 (vI (ks.take i)):=h2.mono ∅
  have hgb:Bd 8900 (Int.gcd (vI (ks.take i)) n:Int):=b1.of_le (by have:=Int.le_of_dvd h1 (yT (vI (ks.take i)) n);lia)
  have hq:Bd 8900 ((vI (ks.take i)).fdiv (Int.gcd (vI (ks.take i)) n:Int)):=by
   rw[yk _ ∅]
   exact b1.of_le (by have:=uU (Int.gcd (vI (ks.take i)) n:Int) (a:=vI (ks.take i)) ∅;have:=Ye (a:=vI (ks.take i)) (b:=(Int.gcd (vI (ks.take i)) n:Int)) ∅ ∅;lia)
  refine⟨_,rfl,_,rfl,_,rfl,⟨_,_,rfl,by lia,by lia,?_⟩⟩
  refine⟨_,_,rfl,rfl,⟨by lia,hgb⟩,_,rfl,_,_,rfl,rfl,⟨Bd9 hq,hn'.2.md⟩,?_⟩
  refine⟨rL,some (.int n),?_,?_,?_⟩
  ·rw[et,<-yk _ ∅];rfl
  ·rw[et];exact QH h1 hn'.1
  ·rw[et];exact(zdc h1 hn'.1 h2 hn'.2).mono ∅
 ·rintro σ H1 ⟨rfl,z,rfl,_⟩
  refine⟨_,rL,?_⟩
  rw[wf,Wo];exact k
end
def zgG (H:Hp) (us:List V) (qs:List Rat):Prop:=us.length=qs.length/\∀(i:Nat) (v:V),us[i]?=some v->∃a q,v=V.ref a/\qs[i]?=some q/\zD H a q
def zdq {α:Type}{f:α->V}{ys:List V}{qs:List α}(h:ys.length=qs.length) (k:∀(i:Nat) (v:V),ys[i]?=some v->∃q,qs[i]?=some q/\v=f q):ys=qs.map f:=by
 refine yK λi=>?_
 by_cases hi:i<ys.length
 ·obtain⟨q,e1,e2⟩:=k i ys[i] (by simp[hi])
  rw[wg,e1,wk hi,e2];rfl
 ·rw[wT (by omega),wT (by rw[wf];omega)]
def zjv {σ:St}(h:σ.length=2):∃a b,σ=[a,b]:=by
 match σ,h with
 |[a,b],_=>exact⟨a,b,rfl⟩
def Z9 {σ:St}(h:σ.length=1):∃a,σ=[a]:=by
 match σ,h with
 |[a],_=>exact⟨a,rfl⟩
def qN {n:Nat}(h:n<=20):n<sizeLine:=u6 h (by decide)
section
variable {P:Program}{w:World}{K:Fg}{mg:Str->Option Value}{base:Heap}
def VX (qs:List Rat):Int:=vI (qs.map λq=>(q.den:Int))
inductive ziB  (vs:List V) (H:Hp) (Q:VK) (_e3:XK):Prop
 |mk:∀p us qs,(vs=[.ref p])->(H p=some (.lst us))->(zgG H us qs)->((∀q∈qs,Bd 400 (q.den:Int)))->(qs.length<=20)->(∀H',zj H H'->Q (.int (VX qs)) H')->ziB vs H Q _e3
theorem zkl:zH ["ratios"] ["ratios"] (zr qU):=scq
theorem zjG (D:Df K mg "common_bottom" qU ["ratios"] []) (cL:Cal P w K mg base "least_multiple" 2 ["numbers"] [] zeE):Cal P w K mg base "common_bottom" 3 ["ratios"] [] ziB:=by
 rcases r:D.calq (k:=2) zkl with⟨p,us,qs,rfl,hp,hR,hb,hl,k⟩
 refine⟨_,(zB (zK (zI cL hr (zd (Xc (NB:=["top","bottom"]) rfl (by decide +kernel) (by decide +kernel) rfl (by decide +kernel) (xN (pv 0)) (by intro _ _ _;refine⟨?_,?_,?_⟩;(exact(vS (K:=K) (n:=2) rfl rfl (zQ (pgl (i:=0) (show List.Nodup (["top","bottom"]:List Str) by decide +kernel)) (zQ (pgl (i:=1) (show List.Nodup (["top","bottom"]:List Str) by decide +kernel)) xw))));(exact xP);(exact(pv 1)))) ze)))),?_⟩
 try dsimp only[xl,Cx.nox]
 refine⟨_,rL,p,rL,⟨_,SqL.of hp⟩,λDa hD=>?_⟩
 refine Xp (J:=Itl K p) (n:=2) (g:=Vj K 2 (qC (zO 0) (qC (zO 1) Jy))) (te:=xy 1) (xs:=us) (λi v _=>∃q:Rat,qs[i]?=some q/\v=.int (q.den:Int)) (λ_ _ _ _ _ z=>z) hD (xS hp) (qN (by rw[hR.1];exact hl)) ?_ ?_
 ·intro i x zs H2 Q' hx hz s2 hk
  rcases q:hR.2 i x hx with⟨a,q,rfl,hq,ha⟩
  obtain⟨z1,z2,rfl⟩:=zjv hz
  exact⟨a,_,rL,SqT.of (s2 _ _ ha),rL,_,_,rL,_,_,rL,rL,_,rL,hk _ _ (zj.refl _) ⟨q,hq,rL⟩⟩
 ·intro ys H' s' hy hyl hyR
  have e:=zdq (f:=λq:Rat=>V.int (q.den:Int)) (hyl.trans hR.1) hyR
  refine⟨Da,qs.map λq:Rat=>(q.den:Int),rfl,?_,λn hn=>?_,↥hl,k H' s'⟩
  ·rw[hy,e,wz];rfl
  ·obtain⟨q,hq,rfl⟩:=wA.mp hn
   exact⟨by have:=q.den_pos;omega,hb q hq⟩
theorem zc9 {a:V}{r:List V}:atI (a::r) 0=some a:=by
 unfold atI ixN;rw[if_pos (by decide),if_pos (by simp only[wJ];omega)];rfl
theorem zao {a b:V}{r:List V}:atI (a::b::r) 1=some b:=by
 unfold atI ixN;rw[if_pos (by decide),if_pos (by simp only[wJ];lia)];rfl
structure TCo (K:Fg) (C:Addr):Prop where
 cls:Cls K C
 pb:xJ K C "place_bottom"
 sb:xJ K C "speed_bottom"
 tick:xJ K C "tick"
 weights:xJ K C "weights"
 tracks:xJ K C "tracks"
 low:xJ K C "low"
 high:xJ K C "high"
def v7 (H:Hp) (a:Addr) (x y:Rat):Prop:=∃p q r,H a=some (.tup (.ref p::.ref q::r))/\zD H p x/\zD H q y
theorem v7.keeps {H H':Hp}{a:Addr}{x y:Rat}(h:v7 H a x y) (t:zU H H'):v7 H' a x y:=by
 obtain⟨p,q,r,h1,h2,h3⟩:=h
 exact⟨p,q,r,t _ _ h1,t _ _ h2,t _ _ h3⟩
def byB (x:Rat) (b:Int):Int:=x.num*b.fdiv (x.den:Int)
inductive zeI (C:Addr) (vs:List V) (H:Hp) (Q:VK) (_e3:XK):Prop
 |mk:∀(c dx:Addr) (fs:List (Str×V)) (pb sb:Int),(H c=some (.ins C dx fs))->(fs.lookup ("place_bottom":Str)=some (V.int pb))->(fs.lookup ("speed_bottom":Str)=some (V.int sb))->(((vs=[.ref c,.non]/\Q .non H)\/∃a x y,vs=[.ref c,.ref a]/\v7 H a x y/\Sz 400 x/\Sz 400 y/\0<pb/\0<sb/\Bd 8900 pb/\Bd 8900 sb/\∀r H',zj H H'->H' r=some (.tup [.int (byB x pb),.int (byB y sb)])->Q (.ref r) H'))->zeI C vs H Q _e3
theorem zhb:zH ["course","thing","start"] ["course","thing"] (zr ZZ):=scq
theorem zbc {b d:Int}(hb:0<b) (hd:0<d) (h:Bd 8900 b):Bd 8900 (b.fdiv d):=by
 rw[yk _ ∅]
 exact h.of_le (by have:=uU d (a:=b) ∅;have:=Ye (a:=b) (b:=d) ∅ ∅;lia)
theorem zj7 {C:Addr}(D:Df K mg "track_of" ZZ ["course","thing"] []) (TC:TCo K C):Cal P w K mg base "track_of" 1 ["course","thing"] [] (zeI C):=by
 rcases r:D.cal (k:=0) zhb (λvs H Q E h=>by obtain⟨_,_,_,_,_,_,_,_,⟨rfl,_⟩ | ⟨_,_,_,rfl,_⟩⟩:=h <;> rfl) with⟨c,dx,fs,pb,sb,hc,e1,e2,h⟩
 refine⟨_,(zA (xh (zJ qH (pv 1) xj (zN _)) (zB (zK xj)) zS)
  (zA (psl (i:=2) zhb.nd (zE zR (pxt (pxt (pv 1))) (zE qd (xm (pv 0) rfl) (pxt (pxt (pv 1))))))
  (zB (zK (zT (zd (pv 2) (zd (zE zR (pxt (pxt (pv 1))) (zE qd (xm (pv 0) rfl) (pxt (pxt (pv 1))))) ze))))))),?_⟩
 try dsimp only[xl,Cx.nox]
 rcases h with⟨rfl,k⟩ | ⟨a,x,y,rfl,⟨p,q,r,ha,hp,hq⟩,hx,hy,p1,p2,b1,b2,k⟩
 ·refine⟨_,rL,rL,_,rL,x5 k⟩
 ·refine⟨_,rL,rL,_,rL,xQ ?_⟩
  have d1:0<(x.den:Int):=by have:=x.den_pos;lia
  have d2:0<(y.den:Int):=by have:=y.den_pos;lia
  have z1:=zbc p1 d1 b1
  have z2:=zbc p2 d2 b2
  refine⟨_,rfl,a,_,_,_,rfl,rfl,.of ha,zc9,p,_,_,_,rfl,rfl,.of hp,at0 ..,_,rfl,c,C,dx,fs,_,rfl,hc,TC.cls,TC.pb,e1,_,rfl,a,_,_,_,rfl,rfl,.of ha,zc9,p,_,_,_,rfl,rfl,.of hp,at1 ..,_,_,rfl,rfl,⟨by lia,hx.2.md⟩,_,_,rfl,rfl,⟨hx.1.md,Bd9 z1⟩,?_⟩
  refine⟨_,rfl,_,rfl,a,_,_,_,rfl,rfl,.of ha,zao,q,_,_,_,rfl,rfl,.of hq,at0 ..,_,rfl,c,C,dx,fs,_,rfl,hc,TC.cls,TC.sb,e2,_,rfl,a,_,_,_,rfl,rfl,.of ha,zao,q,_,_,_,rfl,rfl,.of hq,at1 ..,_,_,rfl,rfl,⟨by lia,hy.2.md⟩,_,_,rfl,rfl,⟨hy.1.md,Bd9 z2⟩,?_⟩
  exact⟨zL2,λr hr=>k r _ (zj.upd hr) (by rw[zg];rfl)⟩
end
def zfo {c n:Int}(hc:0<c) (hn:0<n):c ∣ c/(Int.gcd c n:Int)*n/\n ∣ c/(Int.gcd c n:Int)*n:=by
 refine⟨?_,Int.dvd_mul_left ..⟩
 obtain⟨m,hm⟩:=WU c n
 have hg:0<(Int.gcd c n:Int):=by have:=yP n (a:=c) ∅;lia
 refine⟨m,?_⟩
 have e1:c/(Int.gcd c n:Int)*(Int.gcd c n:Int)=c:=WB (yT c n)
 calc c/(Int.gcd c n:Int)*n=c/(Int.gcd c n:Int)*((Int.gcd c n:Int)*m):=by rw[<-hm]
  _=c/(Int.gcd c n:Int)*(Int.gcd c n:Int)*m:=by rw[Int.mul_assoc]
  _=c*m:=by rw[e1]
def QG {n:Nat}:∀{ks:List Int}{c:Int}{m:Nat},0<c->Bd m c->Pos n ks →
  0<ks.foldl (λc n=>c/(Int.gcd c n:Int)*n) c/\Bd (m+n*ks.length) (ks.foldl (λc n=>c/(Int.gcd c n:Int)*n) c)/\c ∣ ks.foldl (λc n=>c/(Int.gcd c n:Int)*n) c/\∀k∈ks,k ∣ ks.foldl (λc n=>c/(Int.gcd c n:Int)*n) c
 |[],c,m,hc,hm,_=>⟨hc,hm,Int.dvd_refl c,λk hk=>by cases hk⟩
 |k::r,c,m,hc,hm,hp=>by
  have hk:=hp k wU
  have d:=zfo hc hk.1
  obtain⟨a1,a2,a3,a4⟩:=QG (ks:=r) (QH hc hk.1) (zdc hc hk.1 hm hk.2) λx hx=>hp x (wR _ hx)
  refine⟨a1,a2.mono (by rw[wJ,Nat.mul_add];lia),Int.dvd_trans d.1 a3,λx hx=>?_⟩
  rcases ww.mp hx with rfl | hx
  ·exact Int.dvd_trans d.2 a3
  ·exact a4 x hx
def zbv {qs:List Rat}(h:∀q∈qs,Bd 400 (q.den:Int)) (hl:qs.length<=20):0<VX qs/\Bd 8900 (VX qs)/\∀q∈qs,(q.den:Int) ∣ VX qs:=by
 obtain⟨a1,a2,_,a4⟩:=QG (n:=400) (ks:=qs.map λq=>(q.den:Int)) (c:=1) (m:=1) (by decide) (show (1:Int).natAbs<2^1 by decide) (λk hk=>by
  obtain⟨q,hq,rfl⟩:=wA.mp hk
  exact⟨by have:=q.den_pos;lia,h q hq⟩)
 exact⟨a1,a2.mono (by rw[wf];lia),λq hq=>a4 _ (wA.mpr ⟨q,hq,rfl⟩)⟩
structure Bl where
 pl:Rat
 sp:Rat
 wt:Int
def zaj (H:Hp) (v:V) (b:Bl):Prop:=∃a p q,v=V.ref a/\H a=some (.tup [.ref p,.ref q,.int b.wt])/\zD H p b.pl/\zD H q b.sp
def Z5 (H:Hp) (us:List V) (bs:List Bl):Prop:=us.length=bs.length/\∀(i:Nat) (v:V),us[i]?=some v->∃b,bs[i]?=some b/\zaj H v b
def qY (H:Hp) (v:V):Option (Rat×Rat)->Prop
 |none=>v=.non
 |some w=>∃a,v=V.ref a/\v7 H a w.1 w.2
def zaj.keeps {H H':Hp}{v:V}{b:Bl}(h:zaj H v b) (t:zU H H'):zaj H' v b:=by
 obtain⟨a,p,q,e,h1,h2,h3⟩:=h
 exact⟨a,p,q,e,t _ _ h1,t _ _ h2,t _ _ h3⟩
def Z5.keeps {H H':Hp}{us:List V}{bs:List Bl}(h:Z5 H us bs) (t:zU H H'):Z5 H' us bs :=
 ⟨h.1,λi v e=>by obtain⟨b,e1,e2⟩:=h.2 i v e;exact⟨b,e1,e2.keeps t⟩⟩
def qY.keeps {H H':Hp}{v:V}{w:Option (Rat×Rat)} (h:qY H v w) (t:zU H H'):qY H' v w:=by
 cases w with
 |none=>exact h
 |some w=>obtain⟨a,e,h⟩:=h;exact⟨a,e,h.keeps t⟩
def TsI (H:Hp) (vs:List V) (ts:List (Rat×Rat)):Prop:=vs.length=ts.length/\∀(i:Nat) (v:V),vs[i]?=some v->∃t a,ts[i]?=some t/\v=V.ref a/\v7 H a t.1 t.2
def TsI.keeps {H H':Hp}{vs:List V}{ts:List (Rat×Rat)} (h:TsI H vs ts) (t:zU H H'):TsI H' vs ts :=
 ⟨h.1,λi v e=>by obtain⟨x,a,e1,e2,e3⟩:=h.2 i v e;exact⟨x,a,e1,e2,e3.keeps t⟩⟩
def TsI.nil {H:Hp}:TsI H [] []:=⟨rfl,λi v e=>by simp at e⟩
def TsI.cons {H:Hp}{a:Addr}{t:Rat×Rat}{vs:List V}{ts:List (Rat×Rat)} (h:v7 H a t.1 t.2) (r:TsI H vs ts):TsI H (.ref a::vs) (t::ts):=by
 refine⟨by simp[r.1],λi v e=>?_⟩
 cases i with
 |zero=>simp at e;subst e;exact⟨t,a,rfl,rfl,h⟩
 |succ i=>obtain⟨x,b,e1,e2⟩:=r.2 i v ↥e;exact⟨x,b,↥e1,e2⟩
def TsI.append {H:Hp}{vs vs':List V}{ts ts':List (Rat×Rat)} (h:TsI H vs ts) (h':TsI H vs' ts'):TsI H (vs++vs') (ts++ts'):=by
 refine⟨by simp[h.1,h'.1],λi v e=>?_⟩
 by_cases hi:i<vs.length
 ·rw[wD hi]at e
  rw[wD (by rw[<-h.1];exact hi)]
  exact h.2 i v e
 ·rw[wB ∅]at e
  rw[wB (by rw[<-h.1];lia),<-h.1]
  exact h'.2 _ v e
def Z5.ts {H:Hp}{us:List V}{bs:List Bl}(h:Z5 H us bs):TsI H us (bs.map λb=>(b.pl,b.sp)):=by
 refine⟨by simp[h.1],λi v e=>?_⟩
 obtain⟨b,e1,a,p,q,rfl,h1,h2,h3⟩:=h.2 i v e
 exact⟨(b.pl,b.sp),a,by rw[wg,e1];rfl,rfl,p,q,_,h1,h2,h3⟩
def xR:Option (Rat×Rat)->List (Rat×Rat)
 |none=>[]
 |some w=>[w]
def zeY {H:Hp}{v1 v2:V}{lo hi:Option (Rat×Rat)} (h1:qY H v1 lo) (h2:qY H v2 hi):TsI H ([v1,v2].filter λv=>!decide (v=.non)) (xR lo++xR hi):=by
 have one:∀{v:V}{w:Option (Rat×Rat)},qY H v w->TsI H ([v].filter λv=>!decide (v=.non)) (xR w):=λ{v w} h=>by
  cases w with
  |none =>
   have e:v=.non:=h
   subst e;exact .nil
  |some w =>
   obtain⟨a,e,h⟩:=h
   subst e
   rw[u9 (by simp)]
   exact .cons h .nil
 have e:([v1,v2].filter λv=>!decide (v=.non))=([v1].filter λv=>!decide (v=.non))++([v2].filter λv=>!decide (v=.non)):=by
  rw[<-yN];rfl
 rw[e];exact(one h1).append (one h2)
def xf (c:Addr) (H H':Hp):Prop:=∀b o,b≠c->H b=some o->H' b=some o
def xf.of {c:Addr}{H H':Hp}(h:zj H H'):xf c H H':=λb o _ e=>h b o e
def xf.trans {c:Addr}{H H1 H2:Hp}(a:xf c H H1) (b:xf c H1 H2):xf c H H2:=λx o n e=>b x o n (a x o n e)
def xf.upd {c:Addr}{H:Hp}{o:HO}:xf c H (upd H c o):=λb u n e=>by rw[zF n];exact e
def xf.tup {c C dx:Addr}{fs:List (Str×V)}{H H':Hp}(h:xf c H H') (e:H c=some (.ins C dx fs)):zU H H':=λb xs q=>h b _ (λz=>by subst z;rw[e]at q;cases q) q
structure TxQ (K:Fg) (mg:Str->Option Value):Prop extends TxB K mg where
 nList:mg "list" = none
 nZip:mg "zip" = none
def vk (H:Hp) (v:V):Option (Int×Int)->Prop
 |none=>v=.non
 |some t=>∃a,v=V.ref a/\H a=some (.tup [.int t.1,.int t.2])
def xV (H:Hp) (vs:List V) (ts:List (Int×Int)):Prop:=vs.length=ts.length/\∀(i:Nat) (v:V),vs[i]?=some v->∃t,ts[i]?=some t/\vk H v (some t)
def vk.keeps {H H':Hp}{v:V}{w:Option (Int×Int)} (h:vk H v w) (t:zU H H'):vk H' v w:=by
 cases w with
 |none=>exact h
 |some w=>obtain⟨a,e,h⟩:=h;exact⟨a,e,t _ _ h⟩
def xV.keeps {H H':Hp}{vs:List V}{ts:List (Int×Int)} (h:xV H vs ts) (t:zU H H'):xV H' vs ts :=
 ⟨h.1,λi v e=>by obtain⟨x,e1,e2⟩:=h.2 i v e;exact⟨x,e1,e2.keeps t⟩⟩
structure CoF (H:Hp) (fs:List (Str×V)) (pb sb:Int) (tk:Rat) (ws:List Int) (trs:List (Int×Int)) (lo hi:Option (Int×Int)):Prop where
 pb:fs.lookup ("place_bottom":Str)=some (V.int pb)
 sb:fs.lookup ("speed_bottom":Str)=some (V.int sb)
 tick:∃tp,fs.lookup ("tick":Str)=some (V.ref tp)/\zD H tp tk
 weights:∃wl,fs.lookup ("weights":Str)=some (V.ref wl)/\H wl=some (.lst (ws.map V.int))
 tracks:∃tl tv,fs.lookup ("tracks":Str)=some (V.ref tl)/\H tl=some (.lst tv)/\xV H tv trs
 low:∃v,fs.lookup ("low":Str)=some v/\vk H v lo
 high:∃v,fs.lookup ("high":Str)=some v/\vk H v hi
 len:fs.length<=20
def Vh (H:Hp) (C c:Addr) (pb sb:Int) (tk:Rat) (ws:List Int) (trs:List (Int×Int)) (lo hi:Option (Int×Int)):Prop:=∃dx fs,H c=some (.ins C dx fs)/\CoF H fs pb sb tk ws trs lo hi
def CoN (H0 H:Hp) (C c:Addr) (pb sb:Int) (tk:Rat) (ws:List Int) (trs:List (Int×Int)) (lo hi:Option (Int×Int)):Prop:=∃dx fs tl,H c=some (.ins C dx fs)/\CoF H fs pb sb tk ws trs lo hi/\fs.lookup ("tracks":Str)=some (V.ref tl)/\H0 tl=none
def CoN.co {H0 H:Hp}{C c:Addr}{pb sb:Int}{tk:Rat}{ws:List Int}{trs:List (Int×Int)}{lo hi:Option (Int×Int)} (h:CoN H0 H C c pb sb tk ws trs lo hi):Vh H C c pb sb tk ws trs lo hi:=by
 obtain⟨dx,fs,tl,h1,h2,_⟩:=h;exact⟨dx,fs,h1,h2⟩
def ths (bs:List Bl) (lo hi:Option (Rat×Rat)):List (Rat×Rat):=bs.map (λb=>(b.pl,b.sp))++(xR lo++xR hi)
def pbO (bs:List Bl) (lo hi:Option (Rat×Rat)):Int:=VX ((ths bs lo hi).map (·.1))
def sbO (bs:List Bl) (lo hi:Option (Rat×Rat)):Int:=VX ((ths bs lo hi).map (·.2))
def trB (pb sb:Int) (t:Rat×Rat):Int×Int:=(byB t.1 pb,byB t.2 sb)
section
variable {P:Program}{w:World}{K:Fg}{mg:Str->Option Value}{base:Heap}
inductive zgl (C:Addr) (vs:List V) (H:Hp) (Q:VK) (_e3:XK):Prop
 |mk:∀c dx r wa us bs v1 v2 lo hi,(vs=[V.ref c,.ref r,.ref wa])->(H c=some (.ins C dx []))->(H r=some (.tup us))->(Z5 H us bs)->(H wa=some (.tup [v1,v2]))->(qY H v1 lo)->(qY H v2 hi)->(bs.length<=8)->((∀t∈ths bs lo hi,Sz 400 t.1/\Sz 400 t.2))->(∀H',xf c H H'->CoN H H' C c (pbO bs lo hi) (sbO bs lo hi) (Rat.divInt (sbO bs lo hi) (pbO bs lo hi)) (bs.map Bl.wt) (bs.map λb=>trB (pbO bs lo hi) (sbO bs lo hi) (b.pl,b.sp)) (lo.map (trB (pbO bs lo hi) (sbO bs lo hi))) (hi.map (trB (pbO bs lo hi) (sbO bs lo hi)))->Q .non H')->zgl C vs H Q _e3
theorem zg5:zH ["self","row","walls","things"] ["self","row","walls"] (zr xZ):=scq
theorem ZD {bs:List Bl}{lo hi:Option (Rat×Rat)} (h:bs.length<=8):(ths bs lo hi).length<=20:=by
 unfold ths
 have e:∀w:Option (Rat×Rat),(xR w).length<=1:=λw=>by cases w <;> simp[xR]
 have:=e lo
 have:=e hi
 simp only[wC,wf];lia
theorem zbg {σ:St}{H:Hp}{Q:VK}{L:Addr}{vs:List V}{ts:List (Rat×Rat)}{j:Nat}{i:Int}(f:Rat×Rat->Rat) (hσ:σ[j]?=some (some (.ref L))) (hL:H L=some (.lst vs)) (hT:TsI H vs ts) (hl:ts.length<=20)
  (hf:∀H2 a t,v7 H2 a t.1 t.2->∃xs p,H2 a=some (.tup xs)/\atI xs i=some (.ref p)/\zD H2 p (f t))
  (k:∀D ys H',zj H H'->H' D=some (.lst ys)->zgG H' ys (ts.map f)->Q (.ref D) H') :
  zhe 1 (zgN K (xy j)) (zO 0) (λ_ H Q=>Q true H) (tOp (ZF K) (xy 0) (tC (.int i))) σ H Q:=by
 refine⟨_,hσ,L,rL,⟨_,SqL.of hL⟩,λD hD=>?_⟩
 refine Xp (J:=Itl K L) (n:=1) (g:=zO 0) (te:=tOp (ZF K) (xy 0) (tC (.int i))) (xs:=vs) (λm v H=>∃t p,ts[m]?=some t/\v=.ref p/\zD H p (f t)) (λ_ _ _ _ t ⟨x,p,e1,e2,e3⟩=>⟨x,p,e1,e2,t _ _ e3⟩) hD (xS hL) (qN (by rw[hT.1];exact hl)) ?_ ?_
 ·intro m x zs H2 Q' hx hz s2 hk
  obtain⟨t,a,e,rfl,ha⟩:=hT.2 m x hx
  obtain⟨z1,rfl⟩:=Z9 hz
  obtain⟨xs,p,h1,h2,h3⟩:=hf H2 a t (ha.keeps (.of s2))
  dsimp only[zO]
  try rw[if_pos rfl]
  exact⟨_,rL,a,_,_,_,rL,rL,.of h1,h2,hk _ _ (zj.refl _) ⟨t,p,e,rL,h3⟩⟩
 ·intro ys H' s' hy hyl hyR
  refine k D ys H' s' hy ⟨by simp[hyl,hT.1],λm v e=>?_⟩
  obtain⟨t,p,e1,e2,e3⟩:=hyR m v e
  exact⟨p,f t,e2,by rw[wg,e1];rfl,e3⟩
theorem th0:∀(H2:Hp) (a:Addr) (t:Rat×Rat),v7 H2 a t.1 t.2->∃xs p,H2 a=some (.tup xs)/\atI xs 0=some (.ref p)/\zD H2 p t.1:=λH2 a t ⟨p,q,r,h1,h2,h3⟩=>⟨_,p,h1,zc9,h2⟩
theorem th1:∀(H2:Hp) (a:Addr) (t:Rat×Rat),v7 H2 a t.1 t.2->∃xs p,H2 a=some (.tup xs)/\atI xs 1=some (.ref p)/\zD H2 p t.2:=λH2 a t ⟨p,q,r,h1,h2,h3⟩=>⟨_,q,h1,zao,h3⟩
theorem vv {tv:TE}{rest:TS}{f:Str}{D:vd}{σ:St}{H:Hp}(h:tv σ H λy H1=>xy 0 σ H1 λx H2=>∃a C dx fs,x=.ref a/\H2 a=some (.ins C dx fs)/\Cls K C/\xJ K C f/\fs.length<1000/\rest D σ (upd H2 a (.ins C dx (xM f y fs)))):J6 (ziq K (xy 0) tv f) rest D σ H:=h
theorem zbC {tv:TE}{f:Str}{D:vd}{σ:St}{H:Hp}(h:tv σ H λy H1=>xy 0 σ H1 λx H2=>∃a C dx fs,x=.ref a/\H2 a=some (.ins C dx fs)/\Cls K C/\xJ K C f/\fs.length<1000/\D.nx σ (upd H2 a (.ins C dx (xM f y fs)))):ziq K (xy 0) tv f D σ H:=h
theorem zgJ {te:TE}{sp:Sp}{σ:St}{H:Hp}{Q:VK}(h:te σ H λx H1=>sp [x] H1 Q E0):ZK sp [] E0 (xF te Z0) σ H Q:=h
theorem Jr {ta tb:TE}{sp:Sp}{σ:St}{H:Hp}{Q:VK}(h:ta σ H λx H1=>tb σ H1 λy H2=>sp [x,y] H2 Q E0):ZK sp [] E0 (xF ta (xF tb Z0)) σ H Q:=h
theorem qo {c C dx:Addr}{fs:List (Str×V)}{f:Str}{y:V}{rest:TS}{D:vd}{σ:St}{H3:Hp}(hσ:σ[0]?=some (some (.ref c))) (hc:H3 c=some (.ins C dx fs)) (cl:Cls K C) (na:xJ K C f) (hl:fs.length<1000)
  (k:∀G,xf c H3 G->G c=some (.ins C dx (xM f y fs))->rest D σ G):xy 0 σ H3 λx H2=>∃a C dx fs,x=.ref a/\H2 a=some (.ins C dx fs)/\Cls K C/\xJ K C f/\fs.length<1000/\rest D σ (upd H2 a (.ins C dx (xM f y fs))) :=
 ⟨_,hσ,c,C,dx,fs,rfl,hc,cl,na,hl,k _ .upd zg⟩
theorem zcb {C c dx:Addr}{fs:List (Str×V)}{pb sb:Int}{G:Hp}{v:V}{w:Option (Rat×Rat)}{Q:VK}{E:XK}(hc:G c=some (.ins C dx fs)) (e1:fs.lookup ("place_bottom":Str)=some (V.int pb)) (e2:fs.lookup ("speed_bottom":Str)=some (V.int sb)) (hw:qY G v w)
  (hz:∀t,w=some t->Sz 400 t.1/\Sz 400 t.2) (p1:0<pb/\Bd 8900 pb) (p2:0<sb/\Bd 8900 sb) (k:∀v' H',zj G H'->vk H' v' (w.map (trB pb sb))->Q v' H'):zeI C [.ref c,v] G Q E:=by
 refine⟨c,dx,fs,pb,sb,hc,e1,e2,?_⟩
 cases w with
 |none =>
  have e:v=.non:=hw
  subst e
  exact .inl ⟨rL,k _ _ (zj.refl _) rL⟩
 |some t =>
  obtain⟨a,rfl,ha⟩:=hw
  have z:=hz t rfl
  exact .inr ⟨a,t.1,t.2,rL,ha,z.1,z.2,p1.1,p2.1,p1.2,p2.2,λr H' s h=>k _ _ s ⟨r,rL,h⟩⟩
theorem zjH {C f:Addr}{fd:FuncData}(F:Fun K "__init__" "Course.__init__" xZ f fd) (T:TxQ K mg) (TC:TCo K C) (cB:Cal P w K mg base "common_bottom" 3 ["ratios"] [] ziB) (cR:Cal P w K mg base "ratio" 2 ["top","bottom"] [] ql)
  (cT:Cal P w K mg base "track_of" 1 ["course","thing"] [] (zeI C)):qP P w K mg base CX0 4 f fd ["self","row","walls"] (zgl C):=by
 refine F.okq (k:=3) zg5 (λcdv A outer s H vs Q E hr h=>?_)
 rcases q:h with⟨c,dx,r,wa,us,bs,v1,v2,lo,hi,rfl,hc,hrr,hB,hw,h1,h2,hl,hz,k⟩
 have hr2:xb 2 _:=hr.md
 have hr1:xb 1 _:=hr.md
 refine⟨_,(zA (psl (i:=3) zg5.nd (zE zaK (qh VO (by rfl) T.nList PyProof.Rows.boot_list (zd (pv 1) ze)) (Xc (NB:=["wall"]) rfl (by decide +kernel) (by decide +kernel) rfl (by decide +kernel) (Xv (pv 2)) (by intro _ _ _;refine⟨?_,?_,?_⟩;(exact(pgl (i:=0) (show List.Nodup (["wall"]:List Str) by decide +kernel)));(exact(V2 (zJ qM (pv 0) xj (zN _))));(exact(pv 0))))))
  (zA (vw (pv 0) (zI cB hr (zd (Xc (NB:=["thing"]) rfl (by decide +kernel) (by decide +kernel) rfl (by decide +kernel) (xN (pv 3)) (by intro _ _ _;refine⟨?_,?_,?_⟩;(exact(pgl (i:=0) (show List.Nodup (["thing"]:List Str) by decide +kernel)));(exact xP);(exact(xz (vp (K:=K) rfl) (pv 0) zi (λ_ _=>rfl))))) ze)) rfl)
  (zA (vw (pv 0) (zI cB hr (zd (Xc (NB:=["thing"]) rfl (by decide +kernel) (by decide +kernel) rfl (by decide +kernel) (xN (pv 3)) (by intro _ _ _;refine⟨?_,?_,?_⟩;(exact(pgl (i:=0) (show List.Nodup (["thing"]:List Str) by decide +kernel)));(exact xP);(exact(xz (vp (K:=K) rfl) (pv 0) zi (λ_ _=>rfl))))) ze)) rfl)
  (zA (vw (pv 0) (zI cR hr2 (zd (xm (pv 0) rfl) (zd (xm (pv 0) rfl) ze))) rfl)
  (zA (vw (pv 0) (Xc (NB:=["ball"]) rfl (by decide +kernel) (by decide +kernel) rfl (by decide +kernel) (Xv (pv 1)) (by intro _ _ _;refine⟨?_,?_,?_⟩;(exact(pgl (i:=0) (show List.Nodup (["ball"]:List Str) by decide +kernel)));(exact xP);(exact(xz (vp (K:=K) rfl) (pv 0) zi (λ_ _=>rfl))))) rfl)
  (zA (vw (pv 0) (vK (NB:=["ball"]) (FR:=["self"]) (js:=[0]) rfl rfl (λ_ _ h=>h) (.cons rfl rfl rfl ⟨_,rfl⟩ .nil) rfl (by decide +kernel) rfl (by decide +kernel) (Xv (pv 1)) (by intro _ _ _;refine⟨?_,?_,?_⟩;(exact(pgl (i:=0) (show List.Nodup (["ball","self"]:List Str) by decide +kernel)));(exact xP);(exact(zI cT hr1 (zd (pv 1) (zd (pv 0) ze)))))) rfl)
  (zA (vw (pv 0) (zI cT hr1 (zd (pv 0) (zd (pxt (pv 2)) ze))) rfl)
  (zB (vw (pv 0) (zI cT hr1 (zd (pv 0) (zd (pxt (pv 2)) ze))) rfl))))))))),?_⟩
 try dsimp only[xl,Cx.nox]
 refine⟨_,rL,r,us,rL,.inr (.of hrr),λl hll=>?_⟩
 refine⟨_,rL,wa,rL,⟨_,SqT.of (zj.upd hll _ _ hw)⟩,λDa hD=>?_⟩
 refine zdi (J:=Itt K wa) (n:=1) (g:=zO 0) (te:=xy 0) (xs:=[v1,v2]) (λv=>!decide (v=.non)) hD (QS (zj.upd hll _ _ hw)) (qN (by show 2<=20;decide)) ?_ ?_
 ·intro m x zs H2 A2 B2 hx hz2 s2 ka kb
  obtain⟨z1,rfl⟩:=Z9 hz2
  dsimp only[zO]
  refine⟨_,rL,rL,_,rL,?_⟩
  cases e:decide (x=V.non)with
  |true=>exact kb (by simp[e])
  |false=>exact⟨_,rfl,ka (by simp[e])⟩
 intro H1 s1 hy
 have hl1:H1 l=some (.lst us):=s1 _ _ zg
 refine⟨l,Da,us,_,rL,rL,hl1,hy,?_,λL hL=>?_⟩
 ·have z1:=uI (λv=>!decide (v=V.non)) [v1,v2]
  have z2:=hB.1
  have z3:20<sizeLine:=qN (wo _)
  simp only[wJ,ue]at z1
  lia
 have S1:zj H H1:=(zj.upd hll).trans s1
 have S2:zj H (upd H1 L (.lst (us++[v1,v2].filter λv=>!decide (v=.non)))):=S1.trans (zj.upd hL)
 have hT:TsI H (us++[v1,v2].filter λv=>!decide (v=.non)) (ths bs lo hi):=hB.ts.append (zeY h1 h2)
 have hLL:upd H1 L (.lst (us++[v1,v2].filter λv=>!decide (v=.non))) L=some (.lst (us++[v1,v2].filter λv=>!decide (v=.non))):=zg
 generalize upd H1 L (.lst (us++[v1,v2].filter λv=>!decide (v=.non)))=G0 at S2 hLL
 generalize (us++[v1,v2].filter λv=>!decide (v=.non))=tv at hT hLL
 have hc0:=S2 _ _ hc
 have cL:L≠c:=λz=>by subst z;rw[hLL]at hc0;cases hc0
 dsimp only[zO]
 refine vv (K:=K) ?_
 refine zgJ ?_
 refine zbg (λt=>t.1) (by rfl) hLL (hT.keeps (.of S2)) (ZD hl) th0 λD1 y1 H2 s2 hy1 hR1=>?_
 refine⟨D1,y1,_,rfl,hy1,hR1,λq hq=>?_,by rw[wf];exact ZD hl,λH3 s3=>?_⟩
 ·obtain⟨t,ht,rfl⟩:=wA.mp hq
  exact(hz t ht).1.2
 have p1:=zbv (qs:=(ths bs lo hi).map (·.1)) (λq hq=>by obtain⟨t,ht,rfl⟩:=wA.mp hq;exact(hz t ht).1.2) (by rw[wf];exact ZD hl)
 have p2:=zbv (qs:=(ths bs lo hi).map (·.2)) (λq hq=>by obtain⟨t,ht,rfl⟩:=wA.mp hq;exact(hz t ht).2.2) (by rw[wf];exact ZD hl)
 refine qo (by rfl) (s3 _ _ (s2 _ _ hc0)) TC.cls TC.pb (by decide) λG1 X1 c1=>?_
 replace X1:xf c G0 G1:=(xf.of (s2.trans s3)).trans X1
 have t1:zU H G1:=(zU.of S2).trans (X1.tup hc0)
 refine vv (K:=K) ?_
 refine zgJ ?_
 refine zbg (λt=>t.2) (by rfl) (X1 _ _ cL hLL) (hT.keeps t1) (ZD hl) th1 λD2 y2 H4 s4 hy2 hR2=>?_
 refine⟨D2,y2,_,rfl,hy2,hR2,λq hq=>?_,by rw[wf];exact ZD hl,λH5 s5=>?_⟩
 ·obtain⟨t,ht,rfl⟩:=wA.mp hq
  exact(hz t ht).2.2
 refine qo (by rfl) (s5 _ _ (s4 _ _ c1)) TC.cls TC.sb (by show 1<1000;decide) λG2 X2 c2=>?_
 replace X2:xf c G0 G2:=X1.trans ((xf.of (s4.trans s5)).trans X2)
 refine vv (K:=K) ?_
 refine⟨_,rfl,c,C,dx,_,_,rfl,c2,TC.cls,TC.sb,rfl,_,rfl,c,C,dx,_,_,rfl,c2,TC.cls,TC.pb,rfl,_,_,rfl,by have:=p1.1;lia,p1.2.1,λtp H6 s6 htp=>?_⟩
 refine qo (by rfl) (s6 _ _ c2) TC.cls TC.tick (by show 2<1000;decide) λG3 X3' c3=>?_
 have X3:xf c G0 G3:=X2.trans ((xf.of s6).trans X3')
 have htp3:zD G3 tp _:=X3' _ _ (λz=>by subst z;have:=s6 _ _ c2;rw[htp]at this;cases this) htp
 have t3:zU H G3:=(zU.of S2).trans (X3.tup hc0)
 refine vv (K:=K) ?_
 have l20:us.length<sizeLine:=qN (by rw[hB.1];lia)
 refine⟨_,rL,r,rL,⟨_,SqT.of (t3 _ _ hrr)⟩,λD4 hD4=>?_⟩
 refine Xp (J:=Itt K r) (n:=1) (g:=zO 0) (te:=tOp (ZF K) (xy 0) (tC (.int 2))) (xs:=us) (λm v _=>∃b:Bl,bs[m]?=some b/\v=.int b.wt) (λ_ _ _ _ _ z=>z) hD4 (QS (t3 _ _ hrr)) l20 ?_ ?_
 ·intro m x zs H7 Q' hx hz7 s7 hk
  rcases q:(hB.keeps (t3.trans (.of s7))).2 m x hx with⟨b,e,a,p,q,rfl,ha,_⟩
  obtain⟨z1,rfl⟩:=Z9 hz7
  dsimp only[zO]
  exact⟨_,rL,a,_,_,_,rL,rL,.of ha,rL,hk _ _ (zj.refl _) ⟨b,e,rL⟩⟩
 intro y4 H7 s7 hy4 hyl4 hyR4
 have e4:y4=(bs.map Bl.wt).map V.int:=by
  rw[wz]
  exact zdq (hyl4.trans hB.1) hyR4
 refine qo (by rfl) (s7 _ _ c3) TC.cls TC.weights (by show 3<1000;decide) λG4 X4' c4=>?_
 have X4:xf c G0 G4:=X3.trans ((xf.of s7).trans X4')
 have nc:∀{G:Hp}{fs:List (Str×V)}{b:Addr}{o:HO},G c=some (.ins C dx fs)->G b=some o->(∀fs,o≠.ins C dx fs)->b≠c:=λh1 h2 h3 z=>by subst z;rw[h1]at h2;cases h2;exact h3 _ rfl
 have wl4:G4 D4=some (.lst ((bs.map Bl.wt).map V.int)):=by
  rw[<-e4];exact X4' _ _ (nc (s7 _ _ c3) hy4 (λ_ z=>by cases z)) hy4
 have htp4:zD G4 tp _:=X4' _ _ (nc (s7 _ _ c3) (s7 _ _ htp3) (λ_ z=>by cases z)) (s7 _ _ htp3)
 have t4:zU H G4:=(zU.of S2).trans (X4.tup hc0)
 refine vv (K:=K) ?_
 refine⟨_,rL,r,rL,⟨_,SqT.of (t4 _ _ hrr)⟩,λD5 hD5=>?_⟩
 refine qb (J:=Itt K r) (n:=1) (js:=[0]) (g:=zO 0) (te:=ZK (zeI C) [] E0 (xF (xy 1) (xF (xy 0) Z0))) (xs:=us) (λm v H=>∃t,(bs.map λb=>trB (pbO bs lo hi) (sbO bs lo hi) (b.pl,b.sp))[m]?=some t/\vk H v (some t)) (λ_ _ _ _ t ⟨x,e1,e2⟩=>⟨x,e1,e2.keeps t⟩) hD5 (QS (t4 _ _ hrr)) l20 ?_ ?_
 ·intro m x zs H8 Q' hx hz8 s8 hk
  rcases q:(hB.keeps (t4.trans (.of s8))).2 m x hx with⟨b,e,a,p,q,rfl,ha,hp,hq⟩
  obtain⟨z1,rfl⟩:=Z9 hz8
  dsimp only[zO]
  have zb:=hz (b.pl,b.sp) (wH _ (wA.mpr ⟨b,wm e,rfl⟩))
  refine⟨rfl,_,rfl,_,rfl,c,dx,_,_,_,s8 _ _ c4,rfl,rfl,.inr ⟨a,b.pl,b.sp,rfl,⟨p,q,_,ha,hp,hq⟩,zb.1,zb.2,p1.1,p2.1,p1.2.1,p2.2.1,λr' H9 s9 h9=>hk _ _ s9 ⟨_,by rw[wg,e];rfl,r',rfl,h9⟩⟩⟩
 intro y5 H8 s8 hy5 hyl5 hyR5
 refine qo (by rfl) (s8 _ _ c4) TC.cls TC.tracks (by show 4<1000;decide) λG5 X5' c5=>?_
 have X5:xf c G0 G5:=X4.trans ((xf.of s8).trans X5')
 have tl5:G5 D5=some (.lst y5):=X5' _ _ (nc (s8 _ _ c4) hy5 (λ_ z=>by cases z)) hy5
 have tr5:xV G5 y5 (bs.map λb=>trB (pbO bs lo hi) (sbO bs lo hi) (b.pl,b.sp)):=⟨by rw[hyl5,wf,hB.1],λm v e=>by
  obtain⟨t,e1,e2⟩:=hyR5 m v e
  exact⟨t,e1,e2.keeps (X5'.tup (s8 _ _ c4))⟩⟩
 have wl5:=X5' _ _ (nc (s8 _ _ c4) (s8 _ _ wl4) (λ_ z=>by cases z)) (s8 _ _ wl4)
 have htp5:zD G5 tp _:=X5' _ _ (nc (s8 _ _ c4) (s8 _ _ htp4) (λ_ z=>by cases z)) (s8 _ _ htp4)
 have t5:zU H G5:=(zU.of S2).trans (X5.tup hc0)
 have zlo:∀t,lo=some t->Sz 400 t.1/\Sz 400 t.2:=λt e=>hz t (by unfold ths;rw[e];simp[xR])
 have zhi:∀t,hi=some t->Sz 400 t.1/\Sz 400 t.2:=λt e=>hz t (by unfold ths;rw[e];simp[xR])
 refine vv (K:=K) ?_
 refine Jr ⟨_,rL,_,rL,wa,_,_,_,rL,rL,.of (t5 _ _ hw),at0 ..,?_⟩
 refine zcb c5 rL rL (h1.keeps t5) zlo ⟨p1.1,p1.2.1⟩ ⟨p2.1,p2.2.1⟩ λlv H9 s9 hlv=>?_
 refine qo (by rfl) (s9 _ _ c5) TC.cls TC.low (by show 5<1000;decide) λG6 X6' c6=>?_
 have X6:xf c G0 G6:=X5.trans ((xf.of s9).trans X6')
 have t6:zU H G6:=(zU.of S2).trans (X6.tup hc0)
 have X56:xf c G5 G6:=(xf.of s9).trans X6'
 refine zbC (K:=K) ?_
 refine Jr ⟨_,rL,_,rL,wa,_,_,_,rL,rL,.of (t6 _ _ hw),at1 ..,?_⟩
 refine zcb c6 rL rL (h2.keeps t6) zhi ⟨p1.1,p1.2.1⟩ ⟨p2.1,p2.2.1⟩ λhv H10 s10 hhv=>?_
 refine qo (rest:=vd.nx) (by rfl) (s10 _ _ c6) TC.cls TC.high (by show 6<1000;decide) λG7 X7' c7=>?_
 have X67:xf c G6 G7:=(xf.of s10).trans X7'
 have X57:xf c G5 G7:=X56.trans X67
 have X7:xf c G0 G7:=X6.trans X67
 have hD5H:H D5=none:=by
  cases e:H D5 with
  |none=>rfl
  |some o =>
   by_cases z:D5=c
   ·rw[z,c4]at hD5;cases hD5
   ·rw[X4 _ _ z (S2 _ _ e)]at hD5;cases hD5
 refine k G7 ((xf.of S2).trans X7) ⟨dx,_,D5,c7,⟨rfl,rfl,⟨tp,rfl,X57 _ _ (nc c5 htp5 (λ_ z=>by cases z)) htp5⟩,⟨D4,rfl,X57 _ _ (nc c5 wl5 (λ_ z=>by cases z)) wl5⟩,
  ⟨D5,y5,rfl,X57 _ _ (nc c5 tl5 (λ_ z=>by cases z)) tl5,tr5.keeps (X57.tup c5)⟩,⟨lv,rfl,(hlv.keeps (X6'.tup (s9 _ _ c5))).keeps (X67.tup c6)⟩,⟨hv,rfl,hhv.keeps (X7'.tup (s10 _ _ c6))⟩,by show 7<=20;decide⟩,rfl,hD5H⟩
end
def zc5 {m n:Nat}{x y:Rat}(h:Sz m x) (k:Sz n y):Sz (m+n+1) (x-y):=by
 rw[<-KM.QJ]
 refine .divInt (yi (KM.xL x) (KM.xL y)) ?_ ((h.2.mul k.2).mono ∅)
 rw[Int.sub_eq_add_neg]
 have h2:Bd (n+m) (-(y.num*(x.den:Int))):=by
  have:=k.1.mul h.2
  unfold Bd at *
  rw[Yg];exact this
 exact Bd.mono (Bd.add (h.1.mul k.2) h2) ∅
section
variable {P:Program}{w:World}{K:Fg}{mg:Str->Option Value}{base:Heap}
inductive zcT (C:Addr) (vs:List V) (H:Hp) (Q:VK) (_e3:XK):Prop
 |mk:∀c t dx fs tp tk a b,(vs=[V.ref c,.ref t])->(H c=some (.ins C dx fs))->(fs.lookup ("tick":Str)=some (V.ref tp))->(zD H tp tk)->(H t=some (.tup [.int a,.int b]))->(b≠0)->(Bd 4400 a)->(Bd 4400 b)->(Sz 4400 tk)->(∀r H',zj H H'->zD H' r (Rat.divInt (a*tk.num) (b*(tk.den:Int)))->Q (.ref r) H')->zcT C vs H Q _e3
theorem zkp:zH ["course","ticks"] ["course","ticks"] (zr Zr):=scq
theorem zjQ {C:Addr}(D:Df K mg "moment_of" Zr ["course","ticks"] []) (TC:TCo K C) (cR:Cal P w K mg base "ratio" 2 ["top","bottom"] [] ql):Cal P w K mg base "moment_of" 3 ["course","ticks"] [] (zcT C):=by
 rcases r:D.calq (k:=2) zkp with⟨c,t,dx,fs,tp,tk,a,b,rfl,hc,e,htp,ht,hb,ba,bb,hz,k⟩
 refine⟨_,(zB (zK (zI cR hr (zd (zE zR (pxt (pv 1)) (pxt (xm (pv 0) rL))) (zd (zE zR (pxt (pv 1)) (pxt (xm (pv 0) rL))) ze))))),?_⟩
 try dsimp only[xl,Cx.nox]
 refine Jr (Q:=Q) ?_
 refine⟨_,rL,t,_,_,_,rL,rL,.of ht,at0 ..,_,rL,c,C,dx,fs,_,rL,hc,TC.cls,TC.tick,e,tp,_,_,_,rL,rL,.of htp,at0 ..,_,_,rL,rL,⟨ba.md,hz.1.md⟩,?_⟩
 refine⟨_,rL,t,_,_,_,rL,rL,.of ht,at1 ..,_,rL,c,C,dx,fs,_,rL,hc,TC.cls,TC.tick,e,tp,_,_,_,rL,rL,.of htp,at1 ..,_,_,rL,rL,⟨bb.md,hz.2.md⟩,?_⟩
 exact⟨_,_,rL,yi hb (KM.xL tk),(bb.mul hz.2).md,k⟩
def xC:Option (Rat×Rat)->Option (Rat×Rat)->Option Rat
 |some l,some h=>if h.2<l.2 then some ((h.1-l.1)/(l.2-h.2))else none
 |_,_=>none
def VJ (H:Hp) (v:V):Option Rat->Prop
 |none=>v=.non
 |some q=>∃a,v=V.ref a/\zD H a q
inductive ziQ  (vs:List V) (H:Hp) (Q:VK) (_e3:XK):Prop
 |mk:∀wa v1 v2 lo hi,(vs=[V.ref wa])->(H wa=some (.tup [v1,v2]))->(qY H v1 lo)->(qY H v2 hi)->((∀t,lo=some t->Sz 400 t.1/\Sz 400 t.2))->((∀t,hi=some t->Sz 400 t.1/\Sz 400 t.2))->(∀v H',zj H H'->VJ H' v (xC lo hi)->Q v H')->ziQ vs H Q _e3
theorem zes:zH ["walls","low","high"] ["walls"] (zr vF):=scq
theorem zj4 (D:Df K mg "shut_moment" vF ["walls"] []) (cLs:Cal P w K mg base "less" 1 ["one","other"] [] zb3) (cM:Cal P w K mg base "minus" 3 ["one","other"] [] (xY Sz2 (· - ·)))
  (cO:Cal P w K mg base "over" 3 ["one","other"] [] (xY (λx y=>Sz2 x y/\y≠0) (· / ·))):Cal P w K mg base "shut_moment" 4 ["walls"] [] ziQ:=by
 rcases r:D.calq (k:=3) zes with⟨wa,v1,v2,lo,hi,rfl,hw,h1,h2,z1,z2,k⟩
 have hr1:xb 1 _:=hr.md
 refine⟨_,(zA (qi (pv 0) (qJ rL (zQ (pgl (i:=1) zes.nd) (zQ (pgl (i:=2) zes.nd) xw))))
  (zA (xh ((X9 (zJ qH (pv 1) xj (zN _)) (X9 (zJ qH (pv 2) xj (zN _)) (Xy (QP (qy (zI cLs hr1 (zd (pxt (pv 2)) (zd (pxt (pv 1)) ze))) λ_=>rfl)))))).pt (zB (zK xj)) zS)
  (zB (zK (zI cO hr (zd (zI cM hr (zd (pxt (pv 2)) (zd (pxt (pv 1)) ze))) (zd (zI cM hr (zd (pxt (pv 1)) (zd (pxt (pv 2)) ze))) ze))))))),?_⟩
 try dsimp only[xl,Cx.nox]
 refine⟨_,rL,wa,_,rL,.of hw,rL,_,_,rL,_,_,rL,rL,?_⟩
 refine⟨_,rL,rL,_,rL,?_⟩
 cases lo with
 |none =>
  have e:v1=.non:=h1
  subst e
  exact x5 (k _ _ (zj.refl _) rL)
 |some l =>
  rcases q:h1 with⟨a1,rfl,p1,q1,r1,ha1,hp1,hq1⟩
  refine xQ ?_
  refine⟨_,rL,rL,_,rL,?_⟩
  cases hi with
  |none =>
   have e:v2=.non:=h2
   subst e
   exact x5 (k _ _ (zj.refl _) rL)
  |some h =>
   rcases q:h2 with⟨a2,rfl,p2,q2,r2,ha2,hp2,hq2⟩
   have y1:=z1 l rfl
   have y2:=z2 h rfl
   refine xQ ?_
   refine⟨_,rL,a2,_,_,_,rL,rL,.of ha2,zao,_,rL,a1,_,_,_,rL,rL,.of ha1,zao,q2,q1,_,_,_,_,rL,hq2,hq1,y2.2.1.md,y2.2.2.md,y1.2.1.md,y1.2.2.md,?_⟩
   refine⟨_,rL,?_⟩
   have el:=QI h.2 l.2
   by_cases hlt:h.2<l.2
   ·rw[wE hlt]at el
    rw[el]
    refine xQ ?_
    have sM:xC (some l) (some h)=some ((h.1-l.1)/(l.2-h.2)):=if_pos hlt
    rw[sM]at k
    refine⟨_,rL,a2,_,_,_,rL,rL,.of ha2,zc9,_,rL,a1,_,_,_,rL,rL,.of ha1,zc9,p2,p1,_,_,rL,hp2,hp1,⟨y2.1.md,y1.1.md⟩,λm1 H1 s1 hm1=>?_⟩
    refine⟨_,rL,a1,_,_,_,rL,rL,.of (s1 _ _ ha1),zao,_,rL,a2,_,_,_,rL,rL,.of (s1 _ _ ha2),zao,q1,q2,_,_,rL,hq1.same s1,hq2.same s1,⟨y1.2.md,y2.2.md⟩,λm2 H2 s2 hm2=>?_⟩
    refine⟨m1,m2,_,_,rL,hm1.same s2,hm2,⟨⟨(zc5 y2.1 y1.1).md,(zc5 y1.2 y2.2).md⟩,?_⟩,λr H3 s3 h3=>k _ _ (s1.trans (s2.trans s3)) ⟨r,rL,h3⟩⟩
    intro z
    have z':l.2-h.2=0:=z
    grind
   ·rw[wQ hlt]at el
    rw[el]
    have sM:xC (some l) (some h)=none:=if_neg hlt
    rw[sM]at k
    exact x5 (k _ _ (zj.refl _) rL)
end
end KQ
namespace L2
open PySem PySem.Spec PyProof.Rows
section
variable {J:It}{D:Addr}{n:Nat}{js:List Nat}{σ:St}{g:TG}{tt:TT}{te:TE}{Z:Hp->Prop}{H:Hp}{xs:List V}
theorem Vu (p:V->Bool) (hD:H D=none) (hJ:zch J H xs) (hl:xs.length<sizeLine)
  (hs:∀(i:Nat) (x:V) (zs:St) (H2:Hp) (A:VK) (B:Hp->Prop),xs[i]?=some x->zs.length=n->zj H H2->(p x=true->A x H2)->(p x=false->B H2)->g x (zs++qw σ js) H2 λσ4 H4=>σ4.drop n=qw σ js/\tt σ4 H4 λb H5=>if b=true then te σ4 H5 A else B H5)
  (k:∀H',zj H H'->H' D=some (.lst (xs.filter p))->Z H') :
  ∃W:Nat->Nat->Hp->List V->Prop,(∃m,W 0 m (upd H D (.lst [])) [])/\∀i m H2 ys,W i m H2 ys->H2 D=some (.lst ys)->(J.stop i H2/\Z H2) ∨
   (J.go i H2/\∀zs x H3,zs.length=n->J.yld i H2 x H3->g x (zs++qw σ js) H3 λσ4 H4=>σ4.drop n=qw σ js/\tt σ4 H4 λb H5=>if b=true then te σ4 H5 (λv H6=>H6 D=some (.lst ys)/\ys.length<sizeLine/\∃m',m'<m/\W (i+1) m' (upd H6 D (.lst (ys++[v]))) (ys++[v]))
    else H5 D=some (.lst ys)/\∃m',m'<m/\W (i+1) m' H5 ys):=by
 refine Za (Q:=λ_ H=>Z H) (tt:=tt) (N:=xs.length) (λi H2 ys=>zj H H2/\ys=(xs.take i).filter p) ⟨zj.upd hD,rfl⟩ (λi H2 ys hi p=>hJ.go i H2 hi p.1) (λH2 ys p=>hJ.stop H2 p.1) ?_ (λH2 ys q e=>k H2 q.1 (by rw[e,q.2,Wo]))
 rintro i x zs H2 H3 ys Nx hN hi hz hy ⟨s2,rfl⟩ hD2
 obtain⟨rfl,hx⟩:=hJ.yld i x H2 H3 s2 hy
 have et:xs.take (i+1)=xs.take i++[x]:=by rw[yW,hx];rfl
 refine hs i x zs H3 _ _ hx hz s2 (λhp=>⟨hD2,?_,hN _ _ ⟨λc o e=>?_,?_⟩⟩) (λhp=>⟨hD2,hN _ _ ⟨s2,?_⟩⟩)
 ·have:=uI p (xs.take i)
  have:=List.length_take_le i xs
  lia
 ·rw[zF (zG e hD)];exact s2 _ _ e
 ·rw[et,yN];simp[hp]
 ·rw[et,yN];simp[hp]
end
end L2
namespace KQ
open PySem L2 KM KK
def vP {K:Fg}{a b:Addr}{xs ys:List V}{g:TG}{tb:TS}{D:vd}{σ:St}{H:Hp}(Pv:Nat->St->Hp->Prop) (h0:Pv 0 σ H) (hl:∀i σ H,Pv i σ H->SqL K H a xs/\SqL K H b ys)
  (hs:∀(i:Nat) (x y:V) (σ:St) (H:Hp) (T:Addr),xs[i]?=some x->ys[i]?=some y->Pv i σ H->H T=none->g (.ref T) σ (upd H T (.tup [x,y])) λσ2 H2=>tb { D with nx:=Pv (i+1),ct:=Pv (i+1),bk:=D.nx } σ2 H2)
  (hd:∀σ H,Pv (min xs.length ys.length) σ H->D.nx σ H) :
  ∃W:Nat->Nat->St->Hp->Prop,(∃m,W 0 m σ H)/\∀i m σ H,W i m σ H →
   ((zc2 K a b).stop i H/\D.nx σ H)\/((zc2 K a b).go i H/\∃N:St->Hp->Prop,(∀σ' H',N σ' H'->∃m',m'<m/\W (i+1) m' σ' H')/\∀x H',(zc2 K a b).yld i H x H'->g x σ H' λσ2 H2=>tb { D with nx:=N,ct:=N,bk:=D.nx } σ2 H2):=by
 refine⟨λi m σ H=>m=min xs.length ys.length-i/\i<=min xs.length ys.length/\Pv i σ H,⟨min xs.length ys.length,by simp,yu _,h0⟩,?_⟩
 rintro i m σ H ⟨rfl,hi,p⟩
 obtain⟨q1,q2⟩:=hl i σ H p
 by_cases hlt:i<min xs.length ys.length
 ·refine .inr ⟨⟨xs,ys,xs[i]'∅,ys[i]'∅,q1,q2,by simp,by simp⟩,Pv (i+1),λσ' H' p'=>⟨min xs.length ys.length-(i+1),by lia,rfl,hlt,p'⟩,λx H' y=>?_⟩
  obtain⟨T,u,v,rfl,hT,rfl,e1,e2⟩:=y
  exact hs i u v σ H T (e1 xs q1) (e2 ys q2) p hT
 ·have e:i=min xs.length ys.length:=by lia
  subst e
  exact .inl ⟨⟨xs,ys,q1,q2,by lia⟩,hd σ H p⟩
def zjf {us:List V}:xW us (some 1) none=us.drop 1:=by
 cases us with
 |nil=>rfl
 |cons a r =>
  unfold xW HT.sIx
  simp
def VL {n:Nat}{a b:Int}(h:Bd n a) (k:Bd n b):Bd (n+1) (a-b):=by
 unfold Bd at *
 have:=Int.natAbs_sub_le a b
 rw[Nat.pow_succ];lia
def JN:Option (Int×Int)->List (Int×Int)
 |none=>[]
 |some w=>[w]
def chn (trs:List (Int×Int)) (lo hi:Option (Int×Int)):List (Int×Int):=JN lo++trs++JN hi
def qf (f:Option (Int×Int)) (p:(Int×Int)×(Int×Int)):Option (Int×Int) :=
 if p.2.2<p.1.2 then(match f with
  |none=>some (p.2.1-p.1.1,p.1.2-p.2.2)
  |some u=>if(p.2.1-p.1.1)*u.2<u.1*(p.1.2-p.2.2)then some (p.2.1-p.1.1,p.1.2-p.2.2)else some u)else f
def zb7 {l r:Int×Int}(h:r.2<l.2):qf none (l,r)=some (r.1-l.1,l.2-r.2):=if_pos h
def zb8 {l r u:Int×Int}(h:r.2<l.2):qf (some u) (l,r)=if(r.1-l.1)*u.2<u.1*(l.2-r.2)then some (r.1-l.1,l.2-r.2)else some u:=if_pos h
def vY (ch:List (Int×Int)):Option (Int×Int):=(ch.zip ch.tail).foldl qf none
def zgA {H:Hp}:xV H [] []:=⟨rfl,λi v e=>by simp at e⟩
def zcc {H:Hp}{v:V}{w:Option (Int×Int)} (h:vk H v w):xV H ([v].filter λv=>!decide (v=.non)) (JN w):=by
 cases w with
 |none =>
  have e:v=.non:=h
  subst e;exact zgA
 |some w =>
  obtain⟨a,e,h⟩:=h
  subst e
  rw[u9 (by simp)]
  refine⟨rL,λi v e=>?_⟩
  cases i with
  |zero=>simp at e;subst e;exact⟨w,rfl,a,rfl,h⟩
  |succ i=>simp at e
def zgz {H:Hp}{vs:List V}{ts:List (Int×Int)} (h:xV H vs ts):(vs.filter λv=>!decide (v=.non))=vs:=by
 refine List.filter_eq_self.mpr λv hv=>?_
 obtain⟨i,hi⟩:=yZ hv
 obtain⟨t,_,a,rfl,_⟩:=h.2 i v hi
 simp
def Vf {H:Hp}{vs vs':List V}{ts ts':List (Int×Int)} (h:xV H vs ts) (h':xV H vs' ts'):xV H (vs++vs') (ts++ts'):=by
 refine⟨by simp[h.1,h'.1],λi v e=>?_⟩
 by_cases hi:i<vs.length
 ·rw[wD hi]at e
  rw[wD (by rw[<-h.1];exact hi)]
  exact h.2 i v e
 ·rw[wB ∅]at e
  rw[wB (by rw[<-h.1];lia),<-h.1]
  exact h'.2 _ v e
section
variable {P:Program}{w:World}{K:Fg}{mg:Str->Option Value}{base:Heap}
inductive ziS (C:Addr) (vs:List V) (H:Hp) (Q:VK) (_e3:XK):Prop
 |mk:∀c pb sb tk ws trs lo hi,(vs=[V.ref c])->(Vh H C c pb sb tk ws trs lo hi)->(trs.length<=8)->((∀t∈chn trs lo hi,Bd 4000 t.1/\Bd 4000 t.2))->(∀v H',zj H H'->vk H' v (vY (chn trs lo hi))->Q v H')->ziS C vs H Q _e3
theorem QZ:zH ["course","chain","found","left","right","ticks"] ["course"] (zr XL):=scq
theorem zj6 {C:Addr}(D:Df K mg "soonest" XL ["course"] []) (T:TxQ K mg) (TC:TCo K C) (cLs:Cal P w K mg base "less" 1 ["one","other"] [] zb3):Cal P w K mg base "soonest" 2 ["course"] [] (ziS C):=by
 rcases r:D.calq (k:=1) QZ with⟨c,pb,sb,tk,ws,trs,lo,hi,rfl,⟨dx,fs,hc,F⟩,hl,hz,k⟩
 rcases q:F.tracks with⟨tl,tv,e1,htl,htr⟩
 obtain⟨lv,e2,hlv⟩:=F.low
 obtain⟨hv,e3,hhv⟩:=F.high
 have z20:20<sizeLine:=qN (wo _)
 have lt:=htr.1
 refine⟨_,(zA (vt (i:=1) (NB:=["track"]) (FR:=[]) (js:=[]) rfl rfl (λ_ _ h=>by cases h) .nil rfl (by decide +kernel) rfl (by decide +kernel) QZ.nd rfl rfl (by rfl) (xN (zE zaK (zE zaK (qe (zd (xm (pv 0) rfl) ze)) (xm (pv 0) rfl)) (qe (zd (xm (pv 0) rfl) ze)))) (by intro _ _ _;refine⟨?_,?_,?_⟩;(exact(pgl (i:=0) (show List.Nodup (["track"]:List Str) by decide +kernel)));(exact(V2 (zJ qM (pv 0) xj (zN _))));(exact(pv 0))))
  (zA (psl (i:=2) QZ.nd xj)
  (zA (vg PassesOwn.never rfl (zfP (by rfl) T.nZip (zd (pv 1) (zd (qx vX (pv 1) (xO zi) Qn) ze))) (qJ rfl (zQ (pgl (i:=3) QZ.nd) (zQ (pgl (i:=4) QZ.nd) xw))) (zB (xh (zJ X0 (pxt (pv 3)) (pxt (pv 4)) (zN _)) (zA (psl (i:=5) QZ.nd (zT (zd (zE xA (pxt (pv 4)) (pxt (pv 3))) (zd (zE xA (pxt (pv 3)) (pxt (pv 4))) ze))))
  (zB (xh ((X9 (zJ qH (pv 2) xj (zN _)) (Xy (qy (zI cLs hr (zd (pv 5) (zd (pv 2) ze))) λ_=>rfl)))).pt (zB (psl (i:=2) QZ.nd (pv 5))) zS))) zS)))
  (zB (zK (pv 2)))))),?_⟩
 try dsimp only[xl,Cx.nox]
 refine⟨_,rL,c,C,dx,fs,lv,rL,hc,TC.cls,TC.low,e2,zL1,λp1 hp1=>?_⟩
 have S1:zj H (upd H p1 (.lst [lv])):=zj.upd hp1
 refine⟨_,rfl,c,C,dx,fs,_,rfl,S1 _ _ hc,TC.cls,TC.tracks,e1,p1,tl,_,_,rfl,rfl,zg,S1 _ _ htl,by rw[wJ,ue];lia,λp2 hp2=>?_⟩
 have S2:=S1.trans (zj.upd (o:=.lst ([lv]++tv)) hp2)
 refine⟨_,rL,c,C,dx,fs,hv,rL,S2 _ _ hc,TC.cls,TC.high,e3,zL1,λp3 hp3=>?_⟩
 have S3:=S2.trans (zj.upd (o:=.lst [hv]) hp3)
 refine⟨p2,p3,_,_,rfl,rfl,zj.upd hp3 _ _ zg,zg,by simp only[wC,wJ,ue];lia,λp4 hp4=>?_⟩
 have S4:=S3.trans (zj.upd (o:=.lst ([lv]++tv++[hv])) hp4)
 refine⟨p4,rL,⟨_,SqL.of zg⟩,λDa hD=>?_⟩
 refine Vu (J:=Itl K p4) (n:=1) (js:=[]) (g:=zO 0) (te:=xy 0) (xs:=[lv]++tv++[hv]) (λv=>!decide (v=.non)) hD (xS zg) (qN (by simp only[wC,wJ,ue];lia)) ?_ ?_
 ·intro m x zs H2 A2 B2 hx hz2 s2 ka kb
  obtain⟨z1,rfl⟩:=Z9 hz2
  dsimp only[zO]
  refine⟨rL,_,rL,rL,_,rL,?_⟩
  cases e:decide (x=V.non)with
  |true=>exact kb (by simp[e])
  |false=>exact⟨_,rfl,ka (by simp[e])⟩
 intro H5 s5 hy
 have S5:zj H H5:=S4.trans s5
 have hT:xV H5 (([lv]++tv++[hv]).filter λv=>!decide (v=.non)) (chn trs lo hi):=by
  rw[yN,yN,zgz htr]
  exact(Vf (Vf (zcc hlv) htr) (zcc hhv)).keeps (.of S5)
 generalize (([lv]++tv++[hv]).filter λv=>!decide (v=.non))=ys at hT hy
 dsimp only[zO]
 refine⟨_,rL,_,rL,1,rL,Da,ys,rL,.of hy,λp5 hp5=>?_⟩
 rw[zjf]
 have S6:zj H5 (upd H5 p5 (.lst (ys.drop 1))):=zj.upd hp5
 have hy6:=S6 _ _ hy
 have hp6:upd H5 p5 (.lst (ys.drop 1)) p5=some (.lst (ys.drop 1)):=zg
 replace hT:=hT.keeps (.of S6)
 have S7:zj H (upd H5 p5 (.lst (ys.drop 1))):=S5.trans S6
 generalize upd H5 p5 (.lst (ys.drop 1))=G at S6 hy6 hp6 hT S7
 generalize chn trs lo hi=ch at hT hz k
 refine⟨Da,p5,rL,⟨_,.of hy6⟩,⟨_,.of hp6⟩,vP (xs:=ys) (ys:=ys.drop 1) (λi σ H'=>zj G H'/\∃fv z3 z4 z5,σ=[Sr c,Sr Da,some fv,z3,z4,z5]/\vk H' fv (((ch.zip ch.tail).take i).foldl qf none)/\∀u,((ch.zip ch.tail).take i).foldl qf none=some u->Bd 4001 u.1/\Bd 4001 u.2)
  ⟨zj.refl _,.non,_,_,_,rfl,rfl,λu e=>by cases e⟩ (λi σ H' ⟨s',_⟩=>⟨.of (s' _ _ hy6),.of (s' _ _ hp6)⟩) ?_ ?_⟩
 ·rintro i x y σ H' T' hx hy' ⟨s',fv,z3,z4,z5,rfl,hfv,hsz⟩ hT'
  rcases q:hT.2 i x hx with⟨t1,et1,a1,rfl,ha1⟩
  rw[yx]at hy'
  rcases q:hT.2 _ y hy' with⟨t2,et2,a2,rfl,ha2⟩
  have S8:zj G (upd H' T' (.tup [.ref a1,.ref a2])):=s'.trans (zj.upd hT')
  have hfv':=hfv.keeps (.of (zj.upd (o:=.tup [.ref a1,.ref a2]) hT'))
  have hTT:upd H' T' (.tup [.ref a1,.ref a2]) T'=some (.tup [.ref a1,.ref a2]):=zg
  generalize upd H' T' (.tup [.ref a1,.ref a2])=G2 at S8 hfv' hTT
  have b1:=hz t1 (wm et1)
  have b2:=hz t2 (wm et2)
  have ez:(ch.zip ch.tail)[i]?=some (t1,t2):=by
   rw[uS]
   refine⟨et1,?_⟩
   rw[<-List.drop_one,yx];exact et2
  have ef:((ch.zip ch.tail).take (i+1)).foldl qf none=qf (((ch.zip ch.tail).take i).foldl qf none) (t1,t2):=by
   rw[yW,ez];simp[List.foldl_append]
  rw[ef]
  generalize ((ch.zip ch.tail).take i).foldl qf none=fo at hfv hfv' hsz
  refine⟨T',_,rL,.of hTT,rL,_,_,rL,_,_,rL,rL,?_⟩
  have ga1:=S8 _ _ ha1
  have ga2:=S8 _ _ ha2
  refine⟨_,rL,a1,_,_,_,rL,rL,.of ga1,at1 ..,_,rL,a2,_,_,_,rL,rL,.of ga2,at1 ..,_,_,rL,rL,_,rL,qa (λh=>?_) (λh=>?_)⟩
  ·have h':t2.2<t1.2:=wF h
   refine⟨_,rL,a2,_,_,_,rL,rL,.of ga2,at0 ..,_,rL,a1,_,_,_,rL,rL,.of ga1,at0 ..,_,_,rL,rL,_,rL,a1,_,_,_,rL,rL,.of ga1,at1 ..,_,rL,a2,_,_,_,rL,rL,.of ga2,at1 ..,_,_,rL,rL,zL2,λtp htp=>?_⟩
   have d1:=VL b2.1 b1.1
   have d2:=VL b1.2 b2.2
   refine⟨_,rL,rL,_,rL,?_⟩
   cases fo with
   |none =>
    have e:fv=.non:=hfv
    subst e
    refine x5 ⟨_,rL,⟨S8.trans (zj.upd htp),.ref tp,_,_,_,rL,?_,?_⟩⟩
    ·rw[zb7 h'];exact⟨tp,rfl,zg⟩
    ·rw[zb7 h'];intro u eu;cases eu;exact⟨d1,d2⟩
   |some u =>
    obtain⟨af,rfl,haf⟩:=hfv'
    have bu:=hsz u rfl
    refine xQ ?_
    refine⟨_,rL,_,rL,tp,af,_,_,_,_,rL,zg,zj.upd htp _ _ haf,d1.md,d2.md,bu.1.md,bu.2.md,_,rL,qa (λhh=>?_) (λhh=>?_)⟩
    ·have es':qf (some u) (t1,t2)=some (t2.1-t1.1,t1.2-t2.2):=(zb8 h').trans (if_pos (wF hh))
     refine⟨_,rL,⟨S8.trans (zj.upd htp),.ref tp,_,_,_,rL,?_,?_⟩⟩
     ·rw[es'];exact⟨tp,rfl,zg⟩
     ·rw[es'];intro u eu;cases eu;exact⟨d1,d2⟩
    ·have es':qf (some u) (t1,t2)=some u:=(zb8 h').trans (if_neg λz=>hh (wE z))
     refine⟨S8.trans (zj.upd htp),.ref af,_,_,_,rL,?_,?_⟩
     ·rw[es'];exact⟨af,rfl,zj.upd htp _ _ haf⟩
     ·rw[es'];exact hsz
  ·have es:qf fo (t1,t2)=fo:=if_neg λz=>h (wE z)
   refine⟨S8,fv,_,_,_,rL,?_,?_⟩
   ·rw[es];exact hfv'
   ·rw[es];exact hsz
 ·rintro σ H' hQq;rcases q:hQq with⟨s',fv,z3,z4,z5,rfl,hfv,hsz⟩
  refine⟨_,rL,k _ _ (S7.trans s') ?_⟩
  have e:(ch.zip ch.tail).take (min ys.length (ys.drop 1).length)=ch.zip ch.tail:=w4 (by rw[uJ,yf,List.length_tail,hT.1];lia)
  rw[e]at hfv
  exact hfv
end
def zeV {H:Hp}{a:Addr}{o:HO}(h:H a=some o):upd H a o=H:=by
 funext b
 by_cases e:b=a
 ·subst e;rw[zg];exact h.symm
 ·rw[zF e]
section
variable {P:Program}{w:World}{K:Fg}{mg:Str->Option Value}{base:Heap}{C0:Addr}
inductive zeD (C:Addr) (vs:List V) (H:Hp) (Q:VK) (_e3:XK):Prop
 |mk:∀a y,(vs=[.ref a,y])->(H a=some (XO a C none))->(∀dx,H dx=none->Q .non (upd (upd H dx (.xd [("moment",y)])) a (XO a C (some dx))))->zeD C vs H Q _e3
theorem zf4:zH ["self","moment"] ["self","moment"] (zr qv):=scq
theorem zfw {C f:Addr}{fd:FuncData}{mc:Value}{cd:ClassData}(F:Fun K "__init__" "Shut.__init__" qv f fd) (U:XUp K C0 mc) (hm:mg "ClackError" = some (.ref C0)) (B:XB base C) (S:zc6 K C cd) (n:xJ K C "moment"):qP P w K mg base CX0 1 f fd ["self","moment"] (zeD C):=by
 refine F.okq (k:=0) zf4 (λcdv A outer s H vs Q E hr h=>?_)
 rcases q:h with⟨a,y,rfl,ea,k⟩
 refine⟨_,zA (x9 (zgU U hm (zd (pv 0) (zd qI ze)))) (zB (zgV (pv 0) (pv 1) rL)),?_⟩
 refine⟨_,rL,a,C,_,rL,ea,B,?_⟩
 rw[zeV ea]
 exact⟨_,rL,_,rL,a,C,cd,rL,ea,S,n,k⟩
def qr (tk:Rat) (t:Int×Int):Rat:=Rat.divInt (t.1*tk.num) (t.2*(tk.den:Int))
inductive zgm (C:Addr) (CS:Addr) (vs:List V) (H:Hp) (Q:VK) (E:XK):Prop
 |mk:∀c pb sb tk ws trs lo hi wa v1 v2 wlo whi,(vs=[V.ref c,.ref wa])->(Vh H C c pb sb tk ws trs lo hi)->(trs.length<=8)->((∀t∈chn trs lo hi,Bd 4000 t.1/\Bd 4000 t.2))->(Sz 4400 tk)->(H wa=some (.tup [v1,v2]))->(qY H v1 wlo)->(qY H v2 whi)->((∀t,wlo=some t->Sz 400 t.1/\Sz 400 t.2))->((∀t,whi=some t->Sz 400 t.1/\Sz 400 t.2))->((∀H',zj H H'->vY (chn trs lo hi)=none->Q .non H'))->((∀v t H',zj H H'->vY (chn trs lo hi)=some t->xC wlo whi≠some (qr tk t)->vk H' v (some t)->Q v H'))->((∀t p dx H',zj H H'->vY (chn trs lo hi)=some t->xC wlo whi=some (qr tk t)->H' dx=some (.xd [("moment",.ref p)])->zD H' p (qr tk t)->E (.ref CS) (some dx) H'))->zgm C CS vs H Q E
theorem zen:zH ["course","walls","ticks","shut"] ["course","walls"] (zr vA):=scq
theorem JY:∀{l:List ((Int×Int)×(Int×Int))}{f:Option (Int×Int)},(∀u,f=some u->0<u.2)->(∀u,l.foldl qf f=some u->0<u.2)
 |[],_,h=>h
 |p::l,f,h=>by
  refine JY (l:=l) (f:=qf f p) λu hu=>?_
  unfold qf at hu
  split at hu
  ·split at hu
   ·cases hu;show 0<_;lia
   ·split at hu
    ·cases hu;show 0<_;lia
    ·exact h u hu
  ·exact h u hu
theorem zbY:∀{l:List ((Int×Int)×(Int×Int))}{f:Option (Int×Int)},(∀p∈l,(Bd 4000 p.1.1/\Bd 4000 p.1.2)/\Bd 4000 p.2.1/\Bd 4000 p.2.2)->(∀u,f=some u->Bd 4001 u.1/\Bd 4001 u.2)->(∀u,l.foldl qf f=some u->Bd 4001 u.1/\Bd 4001 u.2)
 |[],_,_,h=>h
 |p::l,f,hp,h=>by
  have z:=hp p wU
  refine zbY (l:=l) (f:=qf f p) (λx hx=>hp x (wR _ hx)) λu hu=>?_
  have d:Bd 4001 (p.2.1-p.1.1)/\Bd 4001 (p.1.2-p.2.2):=⟨VL z.2.1 z.1.1,VL z.1.2 z.2.2⟩
  unfold qf at hu
  split at hu
  ·split at hu
   ·cases hu;exact d
   ·split at hu
    ·cases hu;exact d
    ·exact h u hu
  ·exact h u hu
theorem Jb {ch:List (Int×Int)} (hz:∀t∈ch,Bd 4000 t.1/\Bd 4000 t.2){t:Int×Int}(h:vY ch=some t):0<t.2/\Bd 4001 t.1/\Bd 4001 t.2:=by
 refine⟨JY (λu e=>by cases e) t h,zbY (λp hp=>?_) (λu e=>by cases e) t h⟩
 have z:=uk hp
 exact⟨hz _ z.1,hz _ (Wt z.2)⟩
theorem zjM {C CS f11:Addr}{fd11:FuncData}(D:Df K mg "first_ticks" vA ["course","walls"] []) (TC:TCo K C) (cSo:Cal P w K mg base "soonest" 2 ["course"] [] (ziS C)) (cSh:Cal P w K mg base "shut_moment" 4 ["walls"] [] ziQ)
  (cMo:Cal P w K mg base "moment_of" 3 ["course","ticks"] [] (zcT C)) (XM:XMk K base CS f11) (F11:qP P w K mg base CX0 1 f11 fd11 ["self","moment"] (zeD CS)) (hmS:mg "Shut" = some (.ref CS)) (B11:qO K fd11 ["self","moment"] []) :
  vG P w K mg base "first_ticks" 5 ["course","walls"] [] (zgm C CS):=by
 rcases r:D.cal1q (k:=4) zen with⟨c,pb,sb,tk,ws,trs,lo,hi,wa,v1,v2,wlo,whi,rfl,hco,hl,hz,htk,hw,h1,h2,z1,z2,k1,k2,k3⟩
 have hr2:xb 2 _:=hr.md
 have hr3:xb 3 _:=hr.md
 have hu:=hr.units
 refine⟨_,(zA (psl (i:=2) zen.nd (zI cSo hr2 (zd (pv 0) ze)))
  (zA (xh (zJ qH (pv 2) xj (zN _)) (zB (zK xj)) zS)
  (zA (psl (i:=3) zen.nd (zI cSh hr (zd (pv 1) ze)))
  (zA (xh ((vz (zJ qM (pv 3) xj (zN _)) (q5 (zJ (ZN hu) (pv 3) (zI cMo hr3 (zd (pv 0) (zd (pv 2) ze))) (zN _))))).pt (zB (VD XM F11 hr2 hmS B11 hr.hd ZH (zd (pv 3) ze))) zS)
  (zB (zK (pv 2))))))),?_⟩
 try dsimp only[xl,Cx.nox]
 refine⟨_,rL,c,pb,sb,tk,ws,trs,lo,hi,rL,hco,hl,hz,λtv H1 s1 htv=>?_⟩
 dsimp only[zO]
 refine⟨_,rL,rL,_,rL,?_⟩
 cases es:vY (chn trs lo hi)with
 |none =>
  rw[es]at htv
  have e:tv=.non:=htv
  subst e
  exact x5 (k1 H1 s1 es)
 |some t =>
  rw[es]at htv
  obtain⟨ta,rfl,hta⟩:=htv
  refine xQ ?_
  refine⟨_,rL,wa,v1,v2,wlo,whi,rL,s1 _ _ hw,h1.keeps (.of s1),h2.keeps (.of s1),z1,z2,λsv H2 s2 hsv=>?_⟩
  have so:=Jb hz es
  obtain⟨dx,fs,hc,Fc⟩:=hco
  obtain⟨tp,etp,htp⟩:=Fc.tick
  dsimp only[zO]
  refine⟨_,rL,rL,_,rL,?_⟩
  cases em:xC wlo whi with
  |none =>
   rw[em]at hsv
   have e:sv=.non:=hsv
   subst e
   refine xQ ⟨_,rfl,k2 _ t H2 (s1.trans s2) es (by rw[em];intro z;cases z) ⟨ta,rfl,s2 _ _ hta⟩⟩
  |some q =>
   rw[em]at hsv
   obtain⟨sa,rfl,hsa⟩:=hsv
   refine x5 ?_
   refine⟨_,rfl,_,rfl,_,rfl,c,ta,dx,fs,tp,tk,t.1,t.2,rfl,s2 _ _ (s1 _ _ hc),etp,s2 _ _ (s1 _ _ htp),s2 _ _ hta,by lia,so.2.1.md,so.2.2.md,htk,λmr H3 s3 hmr=>?_⟩
   refine⟨_,_,(hsa.same s3).rd,hmr.rd,va _,va _,_,rL,?_⟩
   rw[zau]
   by_cases e:q=qr tk t
   ·rw[wE (show q=Rat.divInt (t.1*tk.num) (t.2*(tk.den:Int))from e)]
    refine x5 ?_
    refine⟨_,rL,zL1,λp hp=>⟨p,_,rL,zg,λd hd=>⟨rL,some d,zg,?_⟩⟩⟩
    have hdp:d≠p:=λz=>by subst z;rw[zg]at hd;cases hd
    have hd3:H3 d=none:=by rw[zF hdp]at hd;exact hd
    have eG:∀b,b≠p->b≠d->Qy p (upd (upd (upd H3 p (XO p CS none)) d (.xd [("moment",.ref sa)])) p (XO p CS (some d))) b=H3 b:=λb hb hb2=>by
     rw[qp hb,zF hb,zF hb2,zF hb]
    have SG:zj H3 (Qy p (upd (upd (upd H3 p (XO p CS none)) d (.xd [("moment",.ref sa)])) p (XO p CS (some d)))):=λb o eb=>by
     rw[eG b (zG eb hp) (zG eb hd3)];exact eb
    refine k3 t sa d _ (s1.trans (s2.trans (s3.trans SG))) es (by rw[em,e]) ?_ ?_
    ·rw[qp hdp,zF hdp,zg]
    ·rw[<-e];exact SG _ _ (s3 _ _ hsa)
   ·rw[wQ (show ¬q=Rat.divInt (t.1*tk.num) (t.2*(tk.den:Int))from e)]
    refine xQ ⟨_,rfl,k2 _ t H3 (s1.trans (s2.trans s3)) es (by rw[em];intro z;cases z;exact e rfl) ⟨ta,rfl,s3 _ _ (s2 _ _ hta)⟩⟩
end
def tkO (bs:List Bl) (lo hi:Option (Rat×Rat)):Rat:=Rat.divInt (sbO bs lo hi) (pbO bs lo hi)
def trO (bs:List Bl) (lo hi:Option (Rat×Rat)):List (Int×Int):=bs.map λb=>trB (pbO bs lo hi) (sbO bs lo hi) (b.pl,b.sp)
def chO (bs:List Bl) (lo hi:Option (Rat×Rat)):List (Int×Int):=chn (trO bs lo hi) (lo.map (trB (pbO bs lo hi) (sbO bs lo hi))) (hi.map (trB (pbO bs lo hi) (sbO bs lo hi)))
structure In (H:Hp) (r wa:Addr) (bs:List Bl) (lo hi:Option (Rat×Rat)):Prop where
 row:∃us,H r=some (.tup us)/\Z5 H us bs
 walls:∃v1 v2,H wa=some (.tup [v1,v2])/\qY H v1 lo/\qY H v2 hi
 len:bs.length<=8
 sz:∀t∈ths bs lo hi,Sz 400 t.1/\Sz 400 t.2
 bd:∀t∈chO bs lo hi,Bd 4000 t.1/\Bd 4000 t.2
 tk:Sz 4400 (tkO bs lo hi)
def In.lo {H:Hp}{r wa:Addr}{bs:List Bl}{lo hi:Option (Rat×Rat)} (I:In H r wa bs lo hi):∀t,lo=some t->Sz 400 t.1/\Sz 400 t.2:=λt e=>I.sz t (by unfold ths;rw[e];simp[xR])
def In.hi {H:Hp}{r wa:Addr}{bs:List Bl}{lo hi:Option (Rat×Rat)} (I:In H r wa bs lo hi):∀t,hi=some t->Sz 400 t.1/\Sz 400 t.2:=λt e=>I.sz t (by unfold ths;rw[e];simp[xR])
section
variable {P:Program}{w:World}{K:Fg}{mg:Str->Option Value}{base:Heap}
def xi (l t:Int×Int):Int:=l.1*t.2+l.2*t.1
def BdP (n:Nat) (t:Int×Int):Prop:=Bd n t.1/\Bd n t.2
inductive Qf  (vs:List V) (H:Hp) (Q:VK) (_e3:XK):Prop
 |mk:∀a b l t,(vs=[V.ref a,.ref b])->(H a=some (.tup [.int l.1,.int l.2]))->(H b=some (.tup [.int t.1,.int t.2]))->(BdP 4400 l)->(BdP 4400 t)->(Q (.int (xi l t)) H)->Qf vs H Q _e3
theorem zbU:zH ["track","ticks"] ["track","ticks"] (zr XN):=scq
theorem zdY (D:Df K mg "spot_at" XN ["track","ticks"] []):Cal P w K mg base "spot_at" 1 ["track","ticks"] [] Qf:=by
 rcases r:D.calq (k:=0) zbU with⟨a,b,l,t,rfl,ha,hb,zl,zt,k⟩
 refine⟨_,(zB (zK (zE xk (zE zR (pxt (pv 0)) (pxt (pv 1))) (zE zR (pxt (pv 0)) (pxt (pv 1)))))),?_⟩
 try dsimp only[xl,Cx.nox]
 exact⟨_,rL,a,_,_,_,rL,rL,.of ha,at0 ..,_,rL,b,_,_,_,rL,rL,.of hb,at1 ..,_,_,rL,rL,⟨zl.1.md,zt.2.md⟩,_,rL,a,_,_,_,rL,rL,.of ha,at1 ..,_,rL,b,_,_,_,rL,rL,.of hb,at0 ..,_,_,rL,rL,⟨zl.2.md,zt.1.md⟩,_,_,rL,rL,k⟩
def atS (w:Option (Int×Int)) (t:Int×Int) (s:Int):Bool:=match w with
 |none=>false
 |some l=>decide (s=xi l t)
def xT (lo hi:Option (Int×Int)) (t:Int×Int) (s:Int):Str:=if atS lo t s then "low" else if atS hi t s then "high" else ""
inductive ziR (C:Addr) (vs:List V) (H:Hp) (Q:VK) (_e3:XK):Prop
 |mk:∀c b pb sb tk ws trs lo hi s t,(vs=[V.ref c,.int s,.ref b])->(Vh H C c pb sb tk ws trs lo hi)->(H b=some (.tup [.int t.1,.int t.2]))->(BdP 4400 t)->((∀l,lo=some l->BdP 4400 l))->((∀l,hi=some l->BdP 4400 l))->(Q (.str (xT lo hi t s)) H)->ziR C vs H Q _e3
theorem zkv:zH ["course","spot","ticks"] ["course","spot","ticks"] (zr XI):=scq
theorem zj5 {C:Addr}(D:Df K mg "side_at" XI ["course","spot","ticks"] []) (TC:TCo K C) (cSp:Cal P w K mg base "spot_at" 1 ["track","ticks"] [] Qf):Cal P w K mg base "side_at" 2 ["course","spot","ticks"] [] (ziR C):=by
 rcases r:D.calq (k:=1) zkv with⟨c,b,pb,sb,tk,ws,trs,lo,hi,sp,t,rfl,⟨dx,fs,hc,F⟩,hb,zt,zlo,zhi,k⟩
 obtain⟨lv,e2,hlv⟩:=F.low
 obtain⟨hv,e3,hhv⟩:=F.high
 refine⟨_,(zA (xh ((vz (zJ qM (xm (pv 0) rL) xj (zN _)) (q5 (zJ x8 (pv 1) (zI cSp hr (zd (xm (pv 0) rL) (zd (pv 2) ze))) (zN _))))).pt (zB (zK qI)) zS)
  (zA (xh ((vz (zJ qM (xm (pv 0) rfl) xj (zN _)) (q5 (zJ x8 (pv 1) (zI cSp hr (zd (xm (pv 0) rfl) (zd (pv 2) ze))) (zN _))))).pt (zB (zK qI)) zS)
  (zB (zK qI)))),?_⟩
 try dsimp only[xl,Cx.nox]
 refine⟨_,rL,c,C,dx,fs,lv,rL,hc,TC.cls,TC.low,e2,rL,_,rL,?_⟩
 cases elo:lo with
 |none =>
  subst elo
  have e:lv=.non:=hlv
  subst e
  have e0:atS none t sp=false:=rfl
  generalize hlo:(none:Option (Int×Int))=lo at e0 k
  refine xQ ?_
  refine⟨_,rL,c,C,dx,fs,hv,rL,hc,TC.cls,TC.high,e3,rL,_,rL,?_⟩
  cases hi with
  |none =>
   have e:hv=.non:=hhv
   subst e
   refine xQ ?_
   have es:xT lo none t sp = "":=by unfold xT;rw[if_neg (by rw[e0];simp)];rfl
   rw[es]at k;exact k
  |some h =>
   obtain⟨ah,rfl,hah⟩:=hhv
   refine x5 ?_
   refine⟨_,rL,_,rL,c,C,dx,fs,_,rL,hc,TC.cls,TC.high,e3,_,rL,ah,b,h,t,rL,hah,hb,zhi h rL,zt,rL,_,rL,qa (λhh=>?_) (λhh=>?_)⟩
   ·have e':sp=xi h t:=by have:=wF hh;injection this
    have es:xT lo (some h) t sp = "high":=by unfold xT;rw[if_neg (by rw[e0];simp),if_pos (show atS (some h) t sp=true from wE e')]
    rw[es]at k;exact k
   ·have e':¬sp=xi h t:=λz=>hh (wE (by rw[z]))
    have es:xT lo (some h) t sp = "":=by unfold xT;rw[if_neg (by rw[e0];simp),if_neg (show ¬atS (some h) t sp=true from λz=>e' (wF z))]
    rw[es]at k;exact k
 |some l =>
  subst elo
  obtain⟨al,rfl,hal⟩:=hlv
  refine x5 ?_
  refine⟨_,rL,_,rL,c,C,dx,fs,_,rL,hc,TC.cls,TC.low,e2,_,rL,al,b,l,t,rL,hal,hb,zlo l rL,zt,rL,_,rL,qa (λhh=>?_) (λhh=>?_)⟩
  ·have e':sp=xi l t:=by have:=wF hh;injection this
   have es:xT (some l) hi t sp = "low":=by unfold xT;rw[if_pos (show atS (some l) t sp=true from wE e')]
   rw[es]at k;exact k
  ·have e':¬sp=xi l t:=λz=>hh (wE (by rw[z]))
   have e0:atS (some l) t sp=false:=wQ e'
   generalize hlo:some l=lo at e0 k
   refine⟨_,rL,c,C,dx,fs,hv,rL,hc,TC.cls,TC.high,e3,rL,_,rL,?_⟩
   cases hi with
   |none =>
    have e:hv=.non:=hhv
    subst e
    refine xQ ?_
    have es:xT lo none t sp = "":=by unfold xT;rw[if_neg (by rw[e0];simp)];rfl
    rw[es]at k;exact k
   |some h =>
    obtain⟨ah,rfl,hah⟩:=hhv
    refine x5 ?_
    refine⟨_,rL,_,rL,c,C,dx,fs,_,rL,hc,TC.cls,TC.high,e3,_,rL,ah,b,h,t,rL,hah,hb,zhi h rL,zt,rL,_,rL,qa (λhh=>?_) (λhh=>?_)⟩
    ·have e':sp=xi h t:=by have:=wF hh;injection this
     have es:xT lo (some h) t sp = "high":=by unfold xT;rw[if_neg (by rw[e0];simp),if_pos (show atS (some h) t sp=true from wE e')]
     rw[es]at k;exact k
    ·have e':¬sp=xi h t:=λz=>hh (wE (by rw[z]))
     have es:xT lo (some h) t sp = "":=by unfold xT;rw[if_neg (by rw[e0];simp),if_neg (show ¬atS (some h) t sp=true from λz=>e' (wF z))]
     rw[es]at k;exact k
end
end KQ
namespace L2
open PySem PySem.Spec PyProof.Rows
def Qi {tc:TT}{ta tb:TS}{D:vd}{σ:St}{H:Hp}(R:Hp->Prop) (c:Bool) (h1:∀(Q':Bool->Hp->Prop),(∀H',R H'->Q' c H')->tc σ H Q') (ha:c=true->∀H',R H'->ta D σ H') (hb:c=false->∀H',R H'->tb D σ H'):ziZ tc ta tb D σ H:=h1 _ λH' r=>by
 cases c with
 |true=>exact x5 (ha rfl H' r)
 |false=>exact xQ (hb rfl H' r)
def zdD {tc:TT}{ta tb u:TS}{D:vd}{σ:St}{H:Hp}(R:Hp->Prop) (c:Bool) (h1:∀(Q':Bool->Hp->Prop),(∀H',R H'->Q' c H')->tc σ H Q') (ha:c=true->∀H',R H'->ta { D with nx:=u D } σ H') (hb:c=false->∀H',R H'->tb { D with nx:=u D } σ H'):J6 (ziZ tc ta tb) u D σ H:=Qi (D:={ D with nx:=u D }) R c h1 ha hb
end L2
namespace KQ
open PySem L2 KM KK
section
variable {P:Program}{w:World}{K:Fg}{mg:Str->Option Value}{base:Heap}
def zX (wh:Str) (lo hi:Option (Int×Int)):Option (Int×Int):=if wh = "" then none else if wh = "low" then lo else hi
inductive zgt (C:Addr) (vs:List V) (H:Hp) (Q:VK) (_e3:XK):Prop
 |mk:∀c pb sb tk ws trs lo hi wh,(vs=[V.ref c,.str wh])->(Vh H C c pb sb tk ws trs lo hi)->(∀v,vk H v (zX wh lo hi)->Q v H)->zgt C vs H Q _e3
theorem zkw:zH ["course","where"] ["course","where"] (zr XQ):=scq
theorem zka {C:Addr}(D:Df K mg "wall_of" XQ ["course","where"] []) (TC:TCo K C):Cal P w K mg base "wall_of" 1 ["course","where"] [] (zgt C):=by
 rcases r:D.calq (k:=0) zkw with⟨c,pb,sb,tk,ws,trs,lo,hi,wh,rfl,⟨dx,fs,hc,F⟩,k⟩
 obtain⟨lv,e2,hlv⟩:=F.low
 obtain⟨hv,e3,hhv⟩:=F.high
 refine⟨_,(zA (xh (zJ x8 (pv 1) qI (zN _)) (zB (zK xj)) zS)
  (zB (zK (zd6 (zJ x8 (pv 1) qI (zN _)) (xm (pv 0) rfl) (xm (pv 0) rfl))))),?_⟩
 try dsimp only[xl,Cx.nox]
 refine⟨_,rL,rL,_,rL,qa (λh=>?_) (λh=>?_)⟩
 ·have e:wh = "":=by have:=wF h;injection this
  exact k _ (by unfold zX;rw[if_pos e];exact rfl)
 ·have n:¬wh = "":=λz=>h (wE (by rw[z]))
  refine⟨_,rL,rL,_,rL,qa (λh=>?_) (λh=>?_)⟩
  ·have e:wh = "low":=by have:=wF h;injection this
   exact⟨_,rfl,c,C,dx,fs,lv,rfl,hc,TC.cls,TC.low,e2,k _ (by unfold zX;rw[if_neg n,if_pos e];exact hlv)⟩
  ·have n2:¬wh = "low":=λz=>h (wE (by rw[z]))
   exact⟨_,rfl,c,C,dx,fs,hv,rfl,hc,TC.cls,TC.high,e3,k _ (by unfold zX;rw[if_neg n,if_neg n2];exact hhv)⟩
def cwN (trs:List (Int×Int)) (w:Option (Int×Int)) (a b:Nat):Nat:=match w with
 |none=>0
 |some u=>(((trs.drop a).take (b+1-a)).filter λt=>decide (t.2≠u.2)).length
inductive ziC (C:Addr) (vs:List V) (H:Hp) (Q:VK) (_e3:XK):Prop
 |mk:∀(c g:Addr) (pb sb:Int) (tk:Rat) (ws:List Int) (trs:List (Int×Int)) (lo hi:Option (Int×Int)) (a b:Nat) (wh:Str),(vs=[V.ref c,.ref g])->(Vh H C c pb sb tk ws trs lo hi)->(trs.length<=8)->(a<=b)->(b<trs.length)->(H g=some (.tup [.int (a:Int),.int (b:Int),.str wh]))->(∀H',zj H H'->Q (.int (cwN trs (zX wh lo hi) a b:Nat)) H')->ziC C vs H Q _e3
theorem JU:zH ["course","group","first","last","where","wall"] ["course","group"] (zr vh):=scq
theorem zfq {xs:List V}{lo hi:Option Int}{v:V}(h:v∈xW xs lo hi):v∈xs:=yR (yS h)
def zaJ (H:Hp) (s:Int) (v:V):Bool:=match v with
 |.ref a=>(match H a with | some (.tup [_,.int y])=>decide (y≠s) | _=>false)
 |_=>false
theorem zbB {H:Hp}{s:Int}:∀{vs:List V}{ts:List (Int×Int)},vs.length=ts.length->(∀(i:Nat) (v:V),vs[i]?=some v->∃t,ts[i]?=some t/\vk H v (some t))->(vs.filter (zaJ H s)).length=(ts.filter λt=>decide (t.2≠s)).length
 |[],[],_,_=>rfl
 |[],_::_,h,_=>by simp at h
 |_::_,[],h,_=>by simp at h
 |v::vs,t::ts,h,k=>by
  obtain⟨t',e,a,rfl,ha⟩:=k 0 v rfl
  cases e
  have ih:=zbB (H:=H) (s:=s) (vs:=vs) (ts:=ts) ↥h λi v e=>k (i+1) v ↥e
  have e1:zaJ H s (.ref a)=decide (t.2≠s):=by unfold zaJ;dsimp only;rw[ha]
  rw[List.filter_cons,List.filter_cons,e1]
  by_cases c:t.2≠s
  ·rw[if_pos (wE c),if_pos (wE c),wJ,wJ,ih]
  ·rw[wQ c,if_neg (by simp),if_neg (by simp),ih]
theorem zhz {α:Type}{xs:List α}{a b:Nat}(hb:b<xs.length):qZ xs (some (a:Int)) (some ((b:Int)+1))=(xs.drop a).take (b+1-a):=by
 unfold qZ
 rw[show ((b:Int)+1)=((b+1:Nat):Int)from rfl,HT.sIx_nat,HT.sIx_nat]
 rw[Ya (by lia:b+1<=xs.length)]
 rcases Nat.le_total a xs.length with h | h
 ·rw[Ya h]
 ·rw[Nat.min_eq_right h,Wd h,Wd (wo _)];simp
theorem zjI {C:Addr}(D:Df K mg "came_to_wall" vh ["course","group"] []) (T:TxQ K mg) (TC:TCo K C) (cW:Cal P w K mg base "wall_of" 1 ["course","where"] [] (zgt C)):Cal P w K mg base "came_to_wall" 2 ["course","group"] [] (ziC C):=by
 rcases r:D.calq (k:=1) JU with⟨c,g,pb,sb,tk,ws,trs,lo,hi,a,b,wh,rfl,hco,hl,hab,hbl,hg,k⟩
 refine⟨_,(zA (qi (pv 1) (qJ rL (zQ (pgl (i:=2) JU.nd) (zQ (pgl (i:=3) JU.nd) (zQ (pgl (i:=4) JU.nd) xw)))))
  (zA (Xx (i:=5) JU.nd rfl (Or.inr rfl) (zI cW hr (zd (pv 0) (zd (pv 4) ze))))
  (zA (xh (zJ qH (pv 5) xj (zN _)) (zB (zK zi)) zS)
  (zB (zK (xI qg (by rfl) T.nLen PySem.boot_len (zd (vK (NB:=["track"]) (FR:=["wall"]) (js:=[5]) rfl rfl (λ_ _ h=>h) (.cons rfl rfl rfl ⟨_,rfl⟩ .nil) rfl (by decide +kernel) rfl (by decide +kernel) (xN (qx vX (xm (pv 0) rfl) (xO (pv 2)) (xO (zE xk (pv 3) zi)))) (by intro _ _ _;refine⟨?_,?_,?_⟩;(exact(pgl (i:=0) (show List.Nodup (["track","wall"]:List Str) by decide +kernel)));(exact(V2 (zJ zd1 (xz (vp (K:=K) rfl) (pv 0) zi (λ_ _=>rfl)) (xz (vp (K:=K) rfl) (pv 1) zi (λ_ _=>rfl)) (zN _))));(exact(pv 0)))) ze))))))),?_⟩
 try dsimp only[xl,Cx.nox]
 refine⟨_,rL,g,_,rL,.of hg,rL,_,_,rL,_,_,rL,_,_,rL,rL,?_⟩
 refine⟨_,rL,_,rL,c,pb,sb,tk,ws,trs,lo,hi,wh,rL,hco,λv hv=>?_⟩
 obtain⟨dx,fs,hc,F⟩:=hco
 rcases q:F.tracks with⟨tl,tv,e1,htl,htr⟩
 dsimp only[zO]
 refine⟨_,rL,rL,_,rL,?_⟩
 cases ew:zX wh lo hi with
 |none =>
  rw[ew]at hv k
  have e:v=.non:=hv
  subst e
  exact x5 (k H (zj.refl _))
 |some wl =>
  rw[ew]at hv k
  obtain⟨aw,rfl,haw⟩:=hv
  refine xQ ?_
  refine⟨_,rL,c,C,dx,fs,_,rL,hc,TC.cls,TC.tracks,e1,_,rL,a,rL,_,rL,_,_,rL,rL,_,rL,tl,tv,rL,.of htl,λp hp=>?_⟩
  have S1:zj H (upd H p (.lst (xW tv (some a) (some (b+1))))):=zj.upd hp
  refine⟨p,rL,⟨_,SqL.of zg⟩,λDa hD=>?_⟩
  have lc:(xW tv (some a) (some (b+1))).length<=8:=wV (qR ..) (by rw[htr.1];exact hl)
  have hlt:=htr.1
  have ecut:xW tv (some (a:Int)) (some ((b:Int)+1))=(tv.drop a).take (b+1-a):=zhz ∅
  refine Vu (J:=Itl K p) (n:=1) (js:=[5]) (g:=zO 0) (te:=xy 0) (xs:=xW tv (some a) (some (b+1))) (zaJ H wl.2) hD (xS zg) (qN ∅) ?_ ?_
  ·intro i x zs H2 A2 B2 hx hz2 s2 ka kb
   obtain⟨m,hm⟩:=yZ (zfq (wm hx))
   rcases q:htr.2 m x hm with⟨t,_,ax,rfl,hax⟩
   obtain⟨z1,rfl⟩:=Z9 hz2
   dsimp only[zO]
   have s3:=S1.trans s2
   have eo:zaJ H wl.2 (.ref ax)=decide (t.2≠wl.2):=by unfold zaJ;dsimp only;rw[hax]
   refine⟨rL,_,rL,ax,_,_,_,rL,rL,.of (s3 _ _ hax),at1 ..,_,rL,aw,_,_,_,rL,rL,.of (s3 _ _ haw),at1 ..,rL,_,rL,?_⟩
   by_cases c':t.2=wl.2
   ·have:(!decide (V.int t.2=V.int wl.2))=false:=by rw[c'];simp
    rw[this]
    exact kb (by rw[eo];simp[c'])
   ·have:(!decide (V.int t.2=V.int wl.2))=true:=by
     have:¬V.int t.2=V.int wl.2:=λz=>c' (by injection z)
     rw[wQ this];rfl
    rw[this]
    exact⟨_,rfl,ka (by rw[eo];simp[c'])⟩
  ·intro H2 s2 hy
   refine⟨Da,_,rL,.inl (.of hy),?_⟩
   have el:((xW tv (some (a:Int)) (some ((b:Int)+1))).filter (zaJ H wl.2)).length=cwN trs (some wl) a b:=by
    rw[ecut]
    refine zbB (by simp[hlt]) λi v e=>?_
    rw[yQ]at e
    split at e
    ·rw[yx]at e
     rw[yQ,if_pos ‹_›,yx]
     exact htr.2 _ v e
    ·cases e
   rw[el]
   exact k _ (S1.trans s2)
end
def Vh.same {H H':Hp}{C c:Addr}{pb sb:Int}{tk:Rat}{ws:List Int}{trs:List (Int×Int)}{lo hi:Option (Int×Int)} (h:Vh H C c pb sb tk ws trs lo hi) (s:zj H H'):Vh H' C c pb sb tk ws trs lo hi:=by
 obtain⟨dx,fs,hc,F⟩:=h
 obtain⟨tp,a1,a2⟩:=F.tick
 obtain⟨wl,b1,b2⟩:=F.weights
 obtain⟨tl,tv,c1,c2,c3⟩:=F.tracks
 obtain⟨lv,d1,d2⟩:=F.low
 obtain⟨hv,e1,e2⟩:=F.high
 exact⟨dx,fs,s _ _ hc,⟨F.pb,F.sb,⟨tp,a1,s _ _ a2⟩,⟨wl,b1,s _ _ b2⟩,⟨tl,tv,c1,s _ _ c2,c3.keeps (.of s)⟩,⟨lv,d1,d2.keeps (.of s)⟩,⟨hv,e1,e2.keeps (.of s)⟩,F.len⟩⟩
def QB {K:Fg}{a:Addr}{xs:List V}{g:TG}{tb:TS}{D:vd}{σ:St}{H:Hp}(Pv:Nat->St->Hp->Prop) (h0:Pv 0 σ H) (hl:∀i σ H,Pv i σ H->SqL K H a xs)
  (hs:∀(i:Nat) (x:V) (σ:St) (H:Hp) (T:Addr),xs[i]?=some x->Pv i σ H->H T=none->g (.ref T) σ (upd H T (.tup [.int i,x])) λσ2 H2=>tb { D with nx:=Pv (i+1),ct:=Pv (i+1),bk:=D.nx } σ2 H2)
  (hd:∀σ H,Pv xs.length σ H->D.nx σ H) :
  ∃W:Nat->Nat->St->Hp->Prop,(∃m,W 0 m σ H)/\∀i m σ H,W i m σ H →
   ((Ite K a).stop i H/\D.nx σ H)\/((Ite K a).go i H/\∃N:St->Hp->Prop,(∀σ' H',N σ' H'->∃m',m'<m/\W (i+1) m' σ' H')/\∀x H',(Ite K a).yld i H x H'->g x σ H' λσ2 H2=>tb { D with nx:=N,ct:=N,bk:=D.nx } σ2 H2):=by
 refine⟨λi m σ H=>m=xs.length-i/\i<=xs.length/\Pv i σ H,⟨xs.length,by simp,yu _,h0⟩,?_⟩
 rintro i m σ H ⟨rfl,hi,p⟩
 have q1:=hl i σ H p
 by_cases hlt:i<xs.length
 ·refine .inr ⟨⟨xs,xs[i],q1,by simp⟩,Pv (i+1),λσ' H' p'=>⟨xs.length-(i+1),by lia,rfl,hlt,p'⟩,λx H' y=>?_⟩
  obtain⟨T,u,rfl,hT,rfl,e1⟩:=y
  exact hs i u σ H T (e1 xs q1) p hT
 ·have e:i=xs.length:=by lia
  subst e
  exact .inl ⟨⟨xs,q1,wo _⟩,hd σ H p⟩
def zfa {xs:List V}{n:Nat}{v:V}(h:xs[n]?=some v):atI xs (n:Int)=some v:=by
 have hl:=(wn.mp h).1
 unfold atI ixN
 rw[if_pos ∅,if_pos ∅]
 show xs[(n:Int).toNat]?=_
 rw[yG];exact h
section
variable {P:Program}{w:World}{K:Fg}{mg:Str->Option Value}{base:Heap}
def brk {α:Type} [DecidableEq α] (ss:List α) (i:Nat):Bool:=decide (i+1=ss.length) || decide (ss[i+1]?≠ss[i]?)
def stG {α:Type} [DecidableEq α] (ss:List α):Nat->Nat
 |0=>0
 |i+1=>if brk ss i=true then i+1 else stG ss i
def rlG {α γ:Type} [DecidableEq α] (ss:List α) (f:Nat->Nat->Option γ):Nat->List γ
 |0=>[]
 |i+1=>if brk ss i=true then rlG ss f i++(f (stG ss i) i).toList else rlG ss f i
theorem xU {α:Type} [DecidableEq α] (ss:List α):∀i,stG ss i<=i
 |0=>wo _
 |i+1=>by
  have:=xU ss i
  show (if brk ss i=true then i+1 else stG ss i)<=i+1
  split <;> lia
def Qt (H:Hp) (v:V) (g:Nat×Nat×Str):Prop:=∃a,v=.ref a/\H a=some (.tup [.int (g.1:Int),.int (g.2.1:Int),.str g.2.2])
def qX (H:Hp) (vs:List V) (gs:List (Nat×Nat×Str)):Prop:=vs.length=gs.length/\∀(i:Nat) (v:V),vs[i]?=some v->∃g,gs[i]?=some g/\Qt H v g
theorem qX.keeps {H H':Hp}{vs:List V}{gs:List (Nat×Nat×Str)} (h:qX H vs gs) (t:zU H H'):qX H' vs gs :=
 ⟨h.1,λi v e=>by obtain⟨g,e1,a,e2,e3⟩:=h.2 i v e;exact⟨g,e1,a,e2,t _ _ e3⟩⟩
theorem qX.snoc {H:Hp}{vs:List V}{gs:List (Nat×Nat×Str)}{v:V}{g:Nat×Nat×Str}(h:qX H vs gs) (k:Qt H v g):qX H (vs++[v]) (gs++[g]):=by
 refine⟨by simp[h.1],λi u e=>?_⟩
 by_cases hi:i<vs.length
 ·rw[wD hi]at e
  rw[wD (by rw[<-h.1];exact hi)]
  exact h.2 i u e
 ·rw[wB ∅]at e
  have hj:i-vs.length=0:=by
   rcases yD (i-vs.length)with z | z
   ·exact z
   ·rw[wT (by simp;lia)]at e;cases e
  rw[hj]at e;cases e
  exact⟨g,by rw[wB (by rw[<-h.1];lia),<-h.1,hj];rfl,k⟩
def fP (trs:List (Int×Int)) (lo hi:Option (Int×Int)) (t:Int×Int) (a b:Nat):Option (Nat×Nat×Str) :=
 let s:=xT lo hi t (((trs.map λl=>xi l t)[b]?).getD 0)
 if a<b\/0<cwN trs (zX s lo hi) a b then some (a,b,s)else none
def grP (trs:List (Int×Int)) (lo hi:Option (Int×Int)) (t:Int×Int):List (Nat×Nat×Str):=rlG (trs.map λl=>xi l t) (fP trs lo hi t) trs.length
inductive zgo (C:Addr) (vs:List V) (H:Hp) (Q:VK) (_e3:XK):Prop
 |mk:∀c b pb sb tk ws trs lo hi t,(vs=[V.ref c,.ref b])->(Vh H C c pb sb tk ws trs lo hi)->(trs.length<=8)->(H b=some (.tup [.int t.1,.int t.2]))->(BdP 4400 t)->((∀l∈trs,BdP 4400 l))->((∀l,lo=some l->BdP 4400 l))->((∀l,hi=some l->BdP 4400 l))->(∀G gs H',zj H H'->H G=none->H' G=some (.lst gs)->qX H' gs (grP trs lo hi t)->Q (.ref G) H')->zgo C vs H Q _e3
theorem Qa:zH ["course","ticks","spots","groups","first","last","spot","group"] ["course","ticks"] (zr Zh):=scq
theorem zjO {C:Addr}(D:Df K mg "groups_at" Zh ["course","ticks"] []) (T:TxQ K mg) (hE:mg "enumerate" = none) (TC:TCo K C) (cSp:Cal P w K mg base "spot_at" 1 ["track","ticks"] [] Qf) (cSi:Cal P w K mg base "side_at" 2 ["course","spot","ticks"] [] (ziR C))
  (cCw:Cal P w K mg base "came_to_wall" 2 ["course","group"] [] (ziC C)):Cal P w K mg base "groups_at" 3 ["course","ticks"] [] (zgo C):=by
 rcases r:D.calq (k:=2) Qa with⟨c,b,pb,sb,tk,ws,trs,lo,hi,t,rfl,CO,hl,hb,zt,ztr,zlo,zhi,k⟩
 have hr2:xb 2 _:=hr
 have hr1:xb 1 _:=hr.md
 obtain⟨dx,fs,hc,F⟩:=id CO
 rcases q:F.tracks with⟨tl,tv,e1,htl,htr⟩
 refine⟨_,(zA (vt (i:=2) (NB:=["track"]) (FR:=["ticks"]) (js:=[1]) rfl rfl (λ_ _ h=>h) (.cons rfl rfl rfl ⟨_,rfl⟩ .nil) rfl (by decide +kernel) rfl (by decide +kernel) Qa.nd rfl rfl (by rfl) (xN (xm (pv 0) rfl)) (by intro _ _ _;refine⟨?_,?_,?_⟩;(exact(pgl (i:=0) (show List.Nodup (["track","ticks"]:List Str) by decide +kernel)));(exact xP);(exact(zI cSp hr1 (zd (pv 0) (zd (pv 1) ze))))))
  (zA (psl (i:=3) Qa.nd (qe ze))
  (zA (psl (i:=4) Qa.nd zi)
  (zA (vg PassesOwn.never rfl (zbK (by rfl) hE (zd (pv 2) ze)) (qJ rfl (zQ (pgl (i:=5) Qa.nd) (zQ (pgl (i:=6) Qa.nd) xw))) (zB (xh ((X9 (zJ x8 (zE xk (pv 5) zi) (xI qg (by rfl) T.nLen PySem.boot_len (zd (pv 2) ze)) (zN _)) (Xy (zJ zd1 (xz xn (pv 2) (zE xk (pv 5) zi) (λ_ _=>rfl)) (pv 6) (zN _))))).pt (zA (psl (i:=7) Qa.nd (zT (zd (pv 4) (zd (pv 5) (zd (zI cSi hr2 (zd (pv 0) (zd (pv 6) (zd (pv 1) ze)))) ze)))))
  (zA (xh ((X9 (zJ QL (pv 4) (pv 5) (zN _)) (Xy (zJ X0 (zI cCw hr2 (zd (pv 0) (zd (pv 7) ze))) zi (zN _))))).pt (zB (x9 (X8 yq yI yJ qu (pv 3) (zd (pv 7) ze)))) zS)
  (zB (psl (i:=4) Qa.nd (zE xk (pv 5) zi))))) zS)))
  (zB (zK (pv 3))))))),?_⟩
 try dsimp only[xl,Cx.nox]
 refine⟨_,rL,c,C,dx,fs,_,rL,hc,TC.cls,TC.tracks,e1,tl,rL,⟨_,SqL.of htl⟩,λDa hD=>?_⟩
 refine qb (J:=Itl K tl) (n:=1) (js:=[1]) (g:=zO 0) (te:=ZK Qf [] E0 (xF (xy 0) (xF (xy 1) Z0))) (xs:=tv) (λm v _=>∃z:Int,(trs.map λl=>xi l t)[m]?=some z/\v=.int z) (λ_ _ _ _ _ z=>z) hD (xS htl) (qN (by rw[htr.1];lia)) ?_ ?_
 ·intro m x zs H2 Q' hx hz s2 hk
  rcases q:htr.2 m x hx with⟨l,el,a,rfl,ha⟩
  obtain⟨z1,rfl⟩:=Z9 hz
  dsimp only[zO]
  exact⟨rfl,_,rfl,_,rfl,a,b,l,t,rfl,s2 _ _ ha,s2 _ _ hb,ztr l (wm el),zt,hk _ _ (zj.refl _) ⟨_,by rw[wg,el];rfl,rfl⟩⟩
 intro ys H1 s1 hy hyl hyR
 dsimp only[zO]
 refine⟨zL0,λG hG=>?_⟩
 dsimp only[zO]
 have S2:zj H1 (upd H1 G (.lst [])):=zj.upd hG
 have hyl8:ys.length<=8:=by rw[hyl,htr.1];exact hl
 have hsl:(trs.map λl=>xi l t).length=ys.length:=by rw[wf,hyl,htr.1]
 obtain⟨ss,ess⟩:∃ss,ss=trs.map λl=>xi l t:=⟨_,rfl⟩
 rw[<-ess]at hyR hsl
 refine⟨_,rL,Da,ys,rL,S2 _ _ hy,QB (xs:=ys) (λi σ H'=>zj H1 H'/\(∃gs,H' G=some (.lst gs)/\gs.length<=i/\qX H' gs (rlG ss (fP trs lo hi t) i))/\∃(z5 z6 z7:Option V),σ=[Sr c,Sr b,Sr Da,Sr G,some (.int (stG ss i:Nat)),z5,z6,z7])
  ⟨S2,⟨[],zg,wo _,rfl,λi v e=>by simp at e⟩,_,_,_,rfl⟩ (λi σ H' ⟨s',_⟩=>.of (s' _ _ hy)) ?_ ?_⟩
 ·rintro i x σ H' T' hx ⟨s',⟨gs,hgs,hgl,hgr⟩,z5,z6,z7,rfl⟩ hT'
  obtain⟨z,ez,rfl⟩:=hyR i x hx
  have sT:zj H' (upd H' T' (.tup [.int i,.int z])):=zj.upd hT'
  have hTT:upd H' T' (.tup [.int i,.int z]) T'=some (.tup [.int i,.int z]):=zg
  have hgs2:=sT _ _ hgs
  have hgr2:=hgr.keeps (.of sT)
  replace sT:=s'.trans sT
  generalize upd H' T' (.tup [.int i,.int z])=G2 at sT hTT hgs2 hgr2
  have sG:zj H G2:=s1.trans sT
  refine⟨T',_,rL,.of hTT,rL,_,_,rL,_,_,rL,rL,?_⟩
  have hil:i<ys.length:=(wn.mp hx).1
  have hst:=xU ss i
  refine Qi (λH'=>H'=G2) (brk ss i) (λQ' q=>?_) (λhbk H3 e3=>?_) (λhbk H3 e3=>?_)
  ·refine⟨_,rL,_,_,rL,rL,_,rL,Da,ys,rL,.inl (.of (sT _ _ hy)),rL,_,rL,qa (λh0=>?_) (λh0=>?_)⟩
   ·have e0:i+1=ss.length:=by
     have:=wF h0
     injection this with this
     lia
    have:brk ss i=true:=by unfold brk;rw[wE e0];rfl
    rw[this]at q
    exact q _ rL
   ·have hne:i+1<ys.length:=by
     have:¬((i:Int)+1=ys.length):=λz=>h0 (wE (show V.int ((i:Int)+1)=V.int (ys.length:Int) by rw[z]))
     lia
    obtain⟨z',ez',hz'⟩:=hyR (i+1) ys[i+1] (by simp[hne])
    have ha:atI ys ((i:Int)+1)=some (.int z'):=by
     have:=zfa (xs:=ys) (n:=i+1) (v:=ys[i+1]) (by simp[hne])
     rw[hz']at this
     rw[<-this];rfl
    refine⟨_,rL,_,rL,_,_,rL,rL,Da,_,_,_,rL,rL,.of (sT _ _ hy),ha,_,rL,rL,_,rL,?_⟩
    have:(!decide (V.int z'=V.int z))=brk ss i:=by
     unfold brk
     rw[wQ (by lia:¬i+1=ss.length),W3,ez,ez']
     by_cases c:z'=z
     ·rw[c];simp
     ·have c1:¬V.int z'=V.int z:=λy=>c (by injection y)
      rw[wQ c1];simp[c]
    rw[this]
    exact q _ rL
  ·subst e3
   have est:stG ss (i+1)=i+1:=if_pos hbk
   have erl:rlG ss (fP trs lo hi t) (i+1)=rlG ss (fP trs lo hi t) i++(fP trs lo hi t (stG ss i) i).toList:=if_pos hbk
   have hb':i<trs.length:=by rw[ess,wf]at hsl;lia
   refine⟨_,rL,_,rL,_,rL,_,rL,_,rL,c,b,pb,sb,tk,ws,trs,lo,hi,z,t,rL,CO.same sG,sG _ _ hb,zt,zlo,zhi,zL3,λgp hgp=>?_⟩
   have s5:zj H3 (upd H3 gp (.tup [.int (stG ss i:Nat),.int i,.str (xT lo hi t z)])):=zj.upd hgp
   have h5:upd H3 gp (.tup [.int (stG ss i:Nat),.int i,.str (xT lo hi t z)]) gp=some (.tup [.int (stG ss i:Nat),.int i,.str (xT lo hi t z)]):=zg
   generalize upd H3 gp (.tup [.int (stG ss i:Nat),.int i,.str (xT lo hi t z)])=G5 at s5 h5
   have efP:fP trs lo hi t (stG ss i) i=if stG ss i<i\/0<cwN trs (zX (xT lo hi t z) lo hi) (stG ss i) i then some (stG ss i,i,xT lo hi t z)else none:=by
    unfold fP
    rw[<-ess,ez];rfl
   dsimp only[zO]
   refine zdD (λH'=>zj G5 H') (decide (stG ss i<i\/0<cwN trs (zX (xT lo hi t z) lo hi) (stG ss i) i)) (λQ' q=>?_) (λhc6 H6 s6=>?_) (λhc6 H6 s6=>?_)
   ·refine⟨_,rL,_,rL,_,_,rL,rL,_,rL,qa (λh1=>?_) (λh1=>?_)⟩
    ·have h1':stG ss i<i:=by have:=wF h1;lia
     rw[wE (Or.inl h1')]at q
     exact q _ (zj.refl _)
    ·have h1':¬stG ss i<i:=λz=>h1 (wE ∅)
     refine⟨_,rL,_,rL,c,gp,pb,sb,tk,ws,trs,lo,hi,stG ss i,i,_,rL,CO.same (sG.trans s5),hl,hst,hb',h5,λH6 s6=>⟨_,_,rL,rL,_,rL,?_⟩⟩
     have:decide ((0:Int)<((cwN trs (zX (xT lo hi t z) lo hi) (stG ss i) i:Nat):Int))=decide (stG ss i<i\/0<cwN trs (zX (xT lo hi t z) lo hi) (stG ss i) i):=by
      rw[yr,wK,wK]
      constructor
      ·intro y;exact .inr ∅
      ·rintro (y | y)
       ·exact absurd y h1'
       ·lia
     rw[this]
     exact q _ s6
   ·have S6:=sT.trans (s5.trans s6)
    have hgs6:=(s5.trans s6) _ _ hgs2
    refine⟨_,rL,.inl ⟨rL,gs,.of hgs6⟩,_,rL,G,gs,_,rL,rL,hgs6,qN ∅,?_⟩
    have TuG:zU H6 (upd H6 G (.lst (gs++[.ref gp]))):=.upd hgs6
    refine⟨_,rfl,_,_,rfl,rfl,⟨λb' o' e'=>?_,⟨gs++[.ref gp],zg,by simp;lia,?_⟩,some (.int i),some (.int z),some (.ref gp),?_⟩⟩
    ·rw[zF (zG e' hG)];exact S6 _ _ e'
    ·rw[erl,efP,if_pos (wF hc6)]
     exact(((hgr2.keeps (.of s5)).keeps (.of s6)).keeps TuG).snoc ⟨gp,rL,TuG _ _ (s6 _ _ h5)⟩
    ·rw[est];rfl
   ·have S6:=sT.trans (s5.trans s6)
    refine⟨_,rfl,_,_,rfl,rfl,⟨S6,⟨gs,(s5.trans s6) _ _ hgs2,by lia,?_⟩,some (.int i),some (.int z),some (.ref gp),?_⟩⟩
    ·rw[erl,efP,if_neg (of_decide_eq_false hc6)]
     show qX H6 gs (_++[])
     rw[yM]
     exact(hgr2.keeps (.of s5)).keeps (.of s6)
    ·rw[est];rfl
  ·subst e3
   have est:stG ss (i+1)=stG ss i:=if_neg (by rw[hbk];simp)
   have erl:rlG ss (fP trs lo hi t) (i+1)=rlG ss (fP trs lo hi t) i:=if_neg (by rw[hbk];simp)
   exact⟨sT,⟨gs,hgs2,by lia,by rw[erl];exact hgr2⟩,some (.int i),some (.int z),z7,by rw[est];rfl⟩
 ·rintro σ H' hQq;rcases q:hQq with⟨s',⟨gs,hgs,_,hgr⟩,z5,z6,z7,rfl⟩
  refine⟨_,rL,k G gs H' (s1.trans s') (s1.free hG) hgs ?_⟩
  unfold grP
  rw[<-ess]
  have:ys.length=trs.length:=by rw[<-hsl,ess,wf]
  rw[<-this];exact hgr
end
section
variable {P:Program}{w:World}{K:Fg}{mg:Str->Option Value}{base:Heap}{C0:Addr}
inductive zeF (CS:Addr) (vs:List V) (H:Hp) (Q:VK) (E:XK):Prop
 |mk:∀r wa bs lo hi,(vs=[V.ref r,.ref wa])->(In H r wa bs lo hi)->((∀H',zj H H'->vY (chO bs lo hi)=none->Q .non H'))->((∀t p m G H',zj H H'->vY (chO bs lo hi)=some t->xC lo hi≠some (qr (tkO bs lo hi) t)->H' p=some (.tup [.ref m,.ref G])->zD H' m (qr (tkO bs lo hi) t)->H G=none->(∃gs,H' G=some (.lst gs)/\qX H' gs (grP (trO bs lo hi) (lo.map (trB (pbO bs lo hi) (sbO bs lo hi))) (hi.map (trB (pbO bs lo hi) (sbO bs lo hi))) t))->Q (.ref p) H'))->((∀t p dx H',zj H H'->vY (chO bs lo hi)=some t->xC lo hi=some (qr (tkO bs lo hi) t)->H' dx=some (.xd [("moment",.ref p)])->zD H' p (qr (tkO bs lo hi) t)->E (.ref CS) (some dx) H'))->zeF CS vs H Q E
theorem zer:zH ["row","walls","course","ticks"] ["row","walls"] (zr vE):=scq
theorem zjS {C CS fi:Addr}{fdi:FuncData}(D:Df K mg "next_coming" vE ["row","walls"] []) (M:Mk K C fi) (Fi:qP P w K mg base CX0 4 fi fdi ["self","row","walls"] (zgl C)) (hmC:mg "Course" = some (.ref C)) (Bi:qO K fdi ["self","row","walls"] [])
  (cFT:vG P w K mg base "first_ticks" 5 ["course","walls"] [] (zgm C CS)) (cMo:Cal P w K mg base "moment_of" 3 ["course","ticks"] [] (zcT C)) (cGr:Cal P w K mg base "groups_at" 3 ["course","ticks"] [] (zgo C)):vG P w K mg base "next_coming" 6 ["row","walls"] [] (zeF CS):=by
 rcases r:D.cal1q (k:=5) zer with⟨r,wa,bs,lo,hi,rfl,I,k1,k2,k3⟩
 obtain⟨us,hrr,hB⟩:=I.row
 rcases q:I.walls with⟨v1,v2,hw,h1,h2⟩
 have hr3:xb 3 _:=hr.md
 refine⟨_,zA (psl (i:=2) zer.nd (zbH M Fi hr (by rfl) hmC Bi .nil zd4 (zd (pv 0) (zd (pv 1) ze))))
  (zA (psl (i:=3) zer.nd (zbG cFT hr Xn (zd (pv 2) (zd (pv 1) ze))))
  (zA (xh (zJ qH (pv 3) xj (zN _)) (zB (zK xj)) zS)
  (zB (zK (zT (zd (zI cMo hr3 (zd (pv 2) (zd (pv 3) ze))) (zd (zI cGr hr3 (zd (pv 2) (zd (pv 3) ze))) ze))))))),?_⟩
 refine⟨_,rL,_,rL,λc dx hc hdx ne=>?_⟩
 have S0:zj H (upd (upd H dx (.own c)) c (.ins C dx [])):=(zj.upd hdx).trans (zj.upd (by rw[zF ne.symm];exact hc))
 refine⟨c,dx,r,wa,us,bs,v1,v2,lo,hi,rL,zg,S0 _ _ hrr,hB.keeps (.of S0),S0 _ _ hw,h1.keeps (.of S0),h2.keeps (.of S0),I.len,I.sz,λH1 X1 hcn=>⟨rL,?_⟩⟩
 have hco:=hcn.co
 have S1:zj H H1:=λb o e=>X1 b o (zG e hc) (S0 b o e)
 dsimp only[zO]
 refine⟨_,rfl,_,rfl,c,_,_,_,_,_,_,_,wa,v1,v2,lo,hi,rfl,hco,by rw[wf];exact I.len,I.bd,I.tk,S1 _ _ hw,h1.keeps (.of S1),h2.keeps (.of S1),I.lo,I.hi,?_,?_,?_⟩
 ·intro H2 s2 e
  dsimp only[zO]
  exact⟨_,rL,rL,_,rL,x5 (k1 H2 (S1.trans s2) e)⟩
 ·intro v t H2 s2 e n hv
  obtain⟨ta,rfl,hta⟩:=hv
  dsimp only[zO]
  refine⟨_,rL,rL,_,rL,xQ ?_⟩
  have so:=Jb I.bd e
  obtain⟨dx',fs,hc2,F⟩:=hco.same s2
  obtain⟨tp,etp,htp⟩:=F.tick
  refine⟨_,rfl,_,rfl,c,ta,dx',fs,tp,_,t.1,t.2,rfl,hc2,etp,htp,hta,by lia,so.2.1.md,so.2.2.md,I.tk,λm H3 s3 hm=>?_⟩
  refine⟨_,rfl,_,rfl,c,ta,_,_,_,_,_,_,_,t,rfl,hco.same (s2.trans s3),by rw[wf];exact I.len,s3 _ _ hta,⟨so.2.1.md,so.2.2.md⟩,?_,?_,?_,λG gs H4 s4 hGn hG hgr=>?_⟩
  ·intro l hl
   have:=I.bd l (wH _ (wq _ hl))
   exact⟨this.1.md,this.2.md⟩
  ·intro l hl
   have:=I.bd l (wH _ (wH _ (by rw[hl];simp[JN])))
   exact⟨this.1.md,this.2.md⟩
  ·intro l hl
   have:=I.bd l (wq _ (by rw[hl];simp[JN]))
   exact⟨this.1.md,this.2.md⟩
  ·refine⟨zL2,λp hp=>?_⟩
   exact k2 t p m G _ (S1.trans (s2.trans (s3.trans (s4.trans (zj.upd hp))))) e n zg (zj.upd hp _ _ (s4 _ _ hm)) ((S1.trans (s2.trans s3)).free hGn) ⟨gs,zj.upd hp _ _ hG,hgr.keeps (.of (zj.upd hp))⟩
 ·intro t p d H2 s2 e e' hd hp
  exact⟨CS,rL,k3 t p d H2 (S1.trans s2) e e' hd hp⟩
end
end KQ
namespace L2
open PySem PySem.Spec PyProof.Rows
structure DfC (K:Fg) (mg:Str->Option Value) (x:Str) (st:Stmt) (ps:List Str) (c P:Addr):Prop where
 ex:∃(f:Addr) (oc:Value) (od:Option Addr) (dV kV doc pm:Value) (an:Option Addr) (ct:Value) (osl:Array (Option Value)),
  K.lookup f=some ⟨oc,od,.func (PySem.W.fnOf x x (xt st) (zZ st) (zr st) dV kV doc pm an (.ref c) ct),osl⟩/\PySem.W.codeIn K (.ref c) x=true/\PySem.W.keepIn K (.ref f)=true/\mg x=some (.ref f) ∧
  qO K (PySem.W.fnOf x x (xt st) (zZ st) (zr st) dV kV doc pm an (.ref c) ct) ps []
 hd:PySem.W.codeHdIn K c P=true
def DfC.calB {P:Program}{w:World}{K:Fg}{mg:Str->Option Value}{base:Heap}{c Tb:Addr}{x:Str}{st:Stmt}{N ps:List Str}{k:Nat}{sp:Sp}(D:DfC K mg x st ps c Tb) (S:zH N ps (zr st)) (len:∀vs H Q E,sp vs H Q E->vs.length=ps.length)
  (hbody:∀(f:Addr) (A:Around) (outer:List Env) (s:Shared) (H:Hp) (vs:List V) (Q:VK) (E:XK),xb k (A.deeper (envOfC x (zr st) s.heap.objs.size f (.ref c)))->sp vs H Q E →
   ∃t,Bx (PSs (xl CX0 P w K mg base N x (zr st) f (.ref c) A outer s H E).nox (zZ st) t)/\t { nx:=λ_ H'=>Q .non H',rt:=Q } (qm N vs) H):Cal P w K mg base x (k+1) ps [] sp:=by
 obtain⟨f,oc,od,dV,kV,doc,pm,an,ct,osl,lk,hcd,hk,hm,hb⟩:=D.ex
 refine⟨⟨f,_,[],zbn lk hcd S len λA outer s H vs Q E hr hsp=>?_,hm,hk,hb,.nil⟩⟩
 obtain⟨t,⟨h⟩,q⟩:=hbody f A outer s H vs Q E hr hsp
 exact⟨t,h.nox,q⟩
end L2
namespace KQ
open PySem L2 KM KK
def xx {t u:TS}{D:vd}{σ:St}{H:Hp}(R:St->Hp->Prop) (h2:∀σ' H',R σ' H'->u D σ' H') (h1:∀nx:St->Hp->Prop,(∀σ' H',R σ' H'->nx σ' H')->t { D with nx:=nx } σ H):J6 t u D σ H:=h1 (u D) h2
def v4 (wl:Option (Int×Int)) (t:Int×Int):Int×Int:=match wl with
 |none=>t
 |some w=>(2*w.1-t.1,2*w.2-t.2)
def Chg (S:List Addr) (H H':Hp):Prop:=∀b o,b∉S->H b=some o->H' b=some o
def CoT (H:Hp) (C c tl:Addr) (pb sb:Int) (tk:Rat) (ws:List Int) (trs:List (Int×Int)) (lo hi:Option (Int×Int)):Prop:=∃dx fs tv,H c=some (.ins C dx fs)/\CoF H fs pb sb tk ws trs lo hi/\fs.lookup ("tracks":Str)=some (V.ref tl)/\H tl=some (.lst tv)/\xV H tv trs
abbrev laS:Scope:=match (zZ vT).getD 2 (.Pass ⟨0,0,0,0⟩)with
 |.Assign _ (.Call _ _ [⟨_,.Lambda _ _ sc _,_⟩] _) _=>sc
 |_=>zr vT
abbrev laP:PySem.Pos:=match (zZ vT).getD 2 (.Pass ⟨0,0,0,0⟩)with
 |.Assign _ (.Call _ _ [⟨_,.Lambda _ _ _ p,_⟩] _) _=>p
 |_=>⟨0,0,0,0⟩
abbrev laQ:Str:=(("deal":Str)++(".<locals>.":Str))++("<lambda>":Str)
def zko:zH ["track"] ["track"] laS:=scq
def xV.cut {H:Hp}{tv:List V}{trs:List (Int×Int)} (h:xV H tv trs) (lo hi:Option Int):xV H (xW tv lo hi) (qZ trs lo hi):=by
 have e:xW tv lo hi=(tv.drop (HT.sIx trs.length 0 lo)).take (HT.sIx trs.length trs.length hi-HT.sIx trs.length 0 lo):=by
  unfold xW;rw[h.1]
 rw[e];unfold qZ
 refine⟨by simp only[yd,yf,h.1],λi v ev=>?_⟩
 rw[yQ]at ev ⊢
 split at ev
 ·rw[if_pos ‹_›]
  rw[yx]at ev ⊢
  exact h.2 _ v ev
 ·cases ev
def xV.map {H:Hp}{tv:List V}{trs:List (Int×Int)}{f:Int×Int->Int×Int}(hl:tv.length=trs.length) (h:∀(i:Nat) (v:V),tv[i]?=some v->∃t,trs[i]?=some t/\vk H v (some (f t))):xV H tv (trs.map f) :=
 ⟨by rw[wf];exact hl,λi v e=>by obtain⟨t,e1,e2⟩:=h i v e;exact⟨f t,by rw[wg,e1];rfl,e2⟩⟩
def JO {α β:Type}{f:α->β}{ps qs:List β}(p:ps.Perm qs):∀{l:List α},qs=l.map f->∃l':List α,l'.Perm l/\ps=l'.map f:=by
 induction p with
 |nil=>intro l e;cases l with
  |nil=>exact⟨[],.refl _,rfl⟩
  |cons x l=>cases e
 |cons x p ih=>intro l e;cases l with
  |nil=>cases e
  |cons y l =>
   rw[yw]at e;injection e with e1 e2
   obtain⟨l',h1,h2⟩:=ih e2
   exact⟨y::l',h1.cons _,by rw[yw,h2,e1]⟩
 |swap x y l0=>intro l e;cases l with
  |nil=>cases e
  |cons a l=>cases l with
   |nil=>rw[yw]at e;injection e with _ e2;cases e2
   |cons b l =>
    rw[yw,yw]at e;injection e with e1 e2;injection e2 with e2 e3
    exact⟨b::a::l,List.Perm.swap ..,by rw[yw,yw,e1,e2,e3]⟩
 |trans p1 p2 ih1 ih2 =>
  intro l e
  obtain⟨l1,h1,h2⟩:=ih2 e
  obtain⟨l2,h3,h4⟩:=ih1 h2
  exact⟨l2,h3.trans h1,h4⟩
def zcR {H:Hp}{tv ys:List V}{ts:List (Int×Int)} (h:xV H tv ts) (s:zc3 (ts.map Prod.snd) tv ys):∃seg,xV H ys seg/\seg.Perm ts/\seg.Pairwise λx y=>x.2<=y.2:=by
 obtain⟨ps,hp,rfl,hw⟩:=s
 have e:(ts.map Prod.snd).zip tv=(ts.zip tv).map λz=>(z.1.2,z.2):=by rw[List.zip_map_left];rfl
 obtain⟨zs,hz,rfl⟩:=JO hp e
 have hm:∀z∈zs,vk H z.2 (some z.1):=λz mz=>by
  have mz':=hz.mem_iff.mp mz
  obtain⟨i,hi,ez⟩:=List.getElem_of_mem mz'
  have hi1:i<ts.length:=by rw[uJ]at hi;omega
  have hi2:i<tv.length:=by rw[uJ]at hi;omega
  obtain⟨t,e1,e2⟩:=h.2 i tv[i] (wk hi2)
  rw[wk hi1]at e1;cases e1
  rw[<-ez,List.getElem_zip];exact e2
 refine⟨zs.map Prod.fst,⟨by simp,λi v ev=>?_⟩,?_,?_⟩
 ·rw[wz,wg]at ev
  cases ez:zs[i]? with
  |none=>rw[ez]at ev;cases ev
  |some z =>
   rw[ez]at ev;cases ev
   exact⟨z.1,by rw[wg,ez];rfl,hm z (wm ez)⟩
 ·have:=hz.map Prod.fst
  rwa [List.map_fst_zip (by rw[h.1];exact wo _)]at this
 ·rw[ym]at hw ⊢
  exact hw
def xV.app {H:Hp}{tv uv:List V}{ts us:List (Int×Int)} (h:xV H tv ts) (k:xV H uv us):xV H (tv++uv) (ts++us):=by
 refine⟨by simp[h.1,k.1],λi v e=>?_⟩
 by_cases hi:i<tv.length
 ·rw[wD hi]at e
  rw[wD (by rw[<-h.1];exact hi)]
  exact h.2 i v e
 ·rw[wB ∅]at e
  rw[wB (by rw[<-h.1];lia),<-h.1]
  exact k.2 _ v e
def xV.take {H:Hp}{tv:List V}{ts:List (Int×Int)} (h:xV H tv ts) (n:Nat):xV H (tv.take n) (ts.take n):=by
 refine⟨by simp[h.1],λi v e=>?_⟩
 rw[yQ]at e ⊢
 split at e
 ·rw[if_pos ‹_›];exact h.2 i v e
 ·cases e
def xV.drop {H:Hp}{tv:List V}{ts:List (Int×Int)} (h:xV H tv ts) (n:Nat):xV H (tv.drop n) (ts.drop n):=by
 refine⟨by simp[h.1],λi v e=>?_⟩
 rw[yx]at e ⊢
 exact h.2 _ v e
def zcM:(v4 none)=id:=rfl
section
variable {P:Program}{w:World}{K:Fg}{mg:Str->Option Value}{base:Heap}
inductive ziD (C:Addr) (Tb:Addr) (vs:List V) (H:Hp) (Q:VK) (_e3:XK):Prop
 |mk:∀c tl a b wv pb sb tk ws trs lo hi wl,(vs=[V.ref c,.int (a:Nat),.int (b:Nat),wv])->(CoT H C c tl pb sb tk ws trs lo hi)->(vk H wv wl)->(a<=b)->(b<trs.length)->(trs.length<=8)->((∀t∈trs,BdP 4600 t))->((∀l,wl=some l->BdP 4600 l))->(x0 Tb laQ laP H)->(∀H' seg,Chg [Tb,tl] H H'->x0 Tb laQ laP H'->seg.Perm ((qZ trs (some (a:Int)) (some ((b:Int)+1))).map (v4 wl))->seg.Pairwise (λx y=>x.2<=y.2)->CoT H' C c tl pb sb tk ws (trs.take a++seg++trs.drop (b+1)) lo hi->Q .non H')->ziD C Tb vs H Q _e3
theorem zem:zH ["course","first","last","wall","tracks"] ["course","first","last","wall"] (zr vT):=scq
theorem zjJ {C cd Tb:Addr}(D:DfC K mg "deal" vT ["course","first","last","wall"] cd Tb) (TC:TCo K C) (hSo:mg "sorted" = none) (hB:base.BuiltinsAt mg Tb):Cal P w K mg base "deal" 4 ["course","first","last","wall"] [] (ziD C Tb):=by
 refine D.calB (k:=3) zem (λvs H Q E h=>by obtain⟨_,_,_,_,_,_,_,_,_,_,_,_,_,rfl,_⟩:=h;rfl) (λf A outer s H vs Q E hr h=>?_)
 rcases q:h with⟨c,tl,a,b,wv,pb,sb,tk,ws,trs,lo,hi,wl,rfl,⟨dx,fs,tv,hc,F,elt,htl,hTv⟩,hwv,hab,hbl,hl8,zt,zw,T0,k⟩
 refine⟨_,(zM (Bx.mk (psl (i:=4) zem.nd (qx vX (xm (pv 0) rL) (xO (pv 1)) (xO (zE xk (pv 2) zi)))))
  (zM (Bx.mk (xh (zJ qM (pv 3) xj (zN _)) (zB (vt (i:=4) (NB:=["start","speed"]) (FR:=["wall"]) (js:=[3]) rfl rfl (λ_ _ h=>h) (.cons rfl rfl rfl ⟨_,rfl⟩ .nil) rfl (by decide +kernel) rfl (by decide +kernel) zem.nd rfl rfl (by rfl) (xN (pv 4)) (by intro _ _ _;refine⟨?_,?_,?_⟩;(exact(vS (K:=K) (n:=2) rfl rfl (zQ (pgl (i:=0) (show List.Nodup (["start","speed","wall"]:List Str) by decide +kernel)) (zQ (pgl (i:=1) (show List.Nodup (["start","speed","wall"]:List Str) by decide +kernel)) xw))));(exact xP);(exact(zT (zd (zE xA (zE zR zi (xz (vp (K:=K) rfl) (pv 2) zi (λ_ _=>rfl))) (pv 0)) (zd (zE xA (zE zR zi (xz (vp (K:=K) rfl) (pv 2) zi (λ_ _=>rfl))) (pv 1)) ze))))))) zS))
  (Bx.mk (zB (qi (zd7 rfl rfl D.hd rfl rfl hB rfl hr zko (λ_ _ _ _=>rfl) rfl hSo (zd (pv 4) ze) (λ_ _ _ _=>xz (vp (K:=K) rfl) (pv 0) zi (λ_ _=>rfl))) (zd8 (xm (pv 0) rfl) (xO (pv 1)) (xO (zE xk (pv 2) zi)))))))),?_⟩
 try dsimp only[xl,Cx.nox]
 refine⟨_,rL,c,C,dx,_,_,rL,hc,TC.cls,TC.tracks,elt,?_⟩
 refine⟨_,rL,_,rL,_,rL,_,_,rL,rL,_,rL,tl,tv,rL,.of htl,λq1 hq1=>?_⟩
 have s1:=zj.upd (o:=.lst (xW tv (some (a:Int)) (some ((b:Int)+1)))) hq1
 have hq1':upd H q1 (.lst (xW tv (some (a:Int)) (some ((b:Int)+1)))) q1=some (.lst (xW tv (some (a:Int)) (some ((b:Int)+1)))):=zg
 generalize upd H q1 (.lst (xW tv (some (a:Int)) (some ((b:Int)+1))))=G1 at s1 hq1'
 have hcut:=(hTv.cut (some (a:Int)) (some ((b:Int)+1)))
 have hcl:(xW tv (some (a:Int)) (some ((b:Int)+1))).length<=8:=wV (qR _ _ _) (by rw[hTv.1];exact hl8)
 dsimp only[zO]
 refine xx (λσ' G=>∃q2 tv2,σ'=[Sr c,some (.int (a:Int)),some (.int (b:Int)),some wv,Sr q2]/\zj H G/\H q2=none/\G q2=some (.lst tv2)/\xV G tv2 ((qZ trs (some (a:Int)) (some ((b:Int)+1))).map (v4 wl))) ?_ ?_
 rotate_left
 ·intro nx hnx
  cases wl with
  |none =>
   obtain rfl:wv=.non:=hwv
   exact⟨_,rfl,rfl,_,rfl,xQ (hnx _ _ ⟨q1,_,rfl,s1,hq1,hq1',by rw[zcM,List.map_id];exact hcut.keeps (.of s1)⟩)⟩
  |some w0 =>
   obtain⟨aw,rfl,haw⟩:=hwv
   have zw0:=zw w0 rfl
   refine⟨_,rL,rL,_,rL,x5 ?_⟩
   refine⟨_,rL,q1,rL,⟨_,SqL.of hq1'⟩,λDc hDc=>?_⟩
   refine qb (js:=[3]) (J:=Itl K q1) (g:=Vj K 2 (qC (zO 0) (qC (zO 1) Jy))) (te:=_) (n:=2) (xs:=xW tv (some (a:Int)) (some ((b:Int)+1))) (λi v G=>∃t,(qZ trs (some (a:Int)) (some ((b:Int)+1)))[i]?=some t/\vk G v (some (v4 (some w0) t))) (λi v G G' e ⟨t,h1,h2⟩=>⟨t,h1,h2.keeps e⟩) hDc (xS hq1') (xr ∅) ?_ ?_
   ·intro i x zs H2 Q' hx hz s2 hk
    obtain⟨z1,z2,rfl⟩:=zjv hz
    rcases q:(hcut.keeps (.of (s1.trans s2))).2 i x hx with⟨t,et,at',rfl,hat⟩
    have haw2:=s2 _ _ (s1 _ _ haw)
    refine⟨at',_,rL,.of hat,rL,_,_,rL,_,_,rL,rL,rL,?_⟩
    refine⟨_,rfl,aw,_,_,_,rfl,rfl,.of haw2,rfl,_,_,rfl,rfl,⟨Bd.mono (m:=3) (show (2:Int).natAbs<2^3 by decide) (by decide),zw0.1.md⟩,_,rfl,_,_,rfl,rfl,?_⟩
    refine⟨_,rfl,aw,_,_,_,rfl,rfl,.of haw2,rfl,_,_,rfl,rfl,⟨Bd.mono (m:=3) (show (2:Int).natAbs<2^3 by decide) (by decide),zw0.2.md⟩,_,rfl,_,_,rfl,rfl,?_⟩
    refine⟨zL2,λtp htp=>hk _ _ (zj.upd htp) ⟨t,et,tp,rL,zg⟩⟩
   ·intro ys G2 s2 hD2 hly hyR
    refine hnx _ _ ⟨Dc,ys,rfl,s1.trans s2,?_,hD2,xV.map (by rw[hly];exact hcut.1) hyR⟩
    cases e:H Dc with
    |none=>rfl
    |some o=>rw[s1 _ _ e]at hDc;cases hDc
 rintro σ' G2 hQq;rcases q:hQq with⟨q2,tv2,rfl,S2,hq2,hq2',hT2⟩
 have T2:=T0.same S2
 obtain⟨ps0,hTb2,_⟩:=id T2
 have neT:∀{b:Addr}{o:HO},G2 b=some o->(∀ps,o≠.tbl ps)->b≠Tb:=λ{b o} e n z=>by rw[z,hTb2]at e;cases e;exact n _ rfl
 refine⟨_,rfl,q2,tv2,((qZ trs (some (a:Int)) (some ((b:Int)+1))).map (v4 wl)).map Prod.snd,rfl,hq2',T2,by rw[wf];exact hT2.1.symm,?_,λi v kk ev ek H2 st=>?_,λDn ys H2 st T3 hDn hK=>?_⟩
 ·have:=hT2.1
  rw[wf]at this
  have:tv2.length<=8:=by rw[this,<-hcut.1];exact hcl
  lia
 ·rcases q:hT2.2 i v ev with⟨t,et,at',rfl,hat⟩
  rw[wg,et]at ek
  cases ek
  have h2:=st _ _ hat (neT hat (λ_ z=>by cases z))
  exact⟨_,rL,at',_,_,_,rL,rL,.of h2,rL,rL,rL⟩
 have S3:zj H2 (upd H2 Dn (.lst ys)):=zj.upd hDn
 have CH:Chg [Tb] H (upd H2 Dn (.lst ys)):=λb o nb e=>S3 _ _ (st b o (S2 b o e) ↥nb)
 have neH:∀{b:Addr}{o:HO},H b=some o->(∀ps,o≠.tbl ps)->b∉[Tb]:=λ{b o} e n z=>neT (S2 _ _ e) n ↥z
 have hc3:=CH c _ (neH hc (λ_ z=>by cases z)) hc
 have htl3:=CH tl _ (neH htl (λ_ z=>by cases z)) htl
 have hD3:upd H2 Dn (.lst ys) Dn=some (.lst ys):=zg
 have hDtl:tl≠Dn:=λz=>by
  have:=st tl _ (S2 _ _ htl) (neT (S2 _ _ htl) (λ_ z=>by cases z))
  rw[z,hDn]at this;cases this
 have T4:=T3.same S3
 have TuH:zU H (upd H2 Dn (.lst ys)):=λb xs e=>CH b _ (neH e (λ_ z=>by cases z)) e
 have TuG:zU G2 (upd H2 Dn (.lst ys)):=λb xs e=>S3 _ _ (st b _ e (neT e (λ_ z=>by cases z)))
 obtain⟨seg,hseg,hperm,hpw⟩:=zcR (hT2.keeps TuG) hK
 generalize upd H2 Dn (.lst ys)=G3 at CH hc3 htl3 hD3 T4 TuH TuG hseg
 have hys:ys.length<=8:=by
  have e1:=hseg.1
  have e2:=hperm.length_eq
  rw[wf]at e2
  rw[e1,e2,<-hcut.1];exact hcl
 have htvl:tv.length=trs.length:=hTv.1
 refine⟨_,rfl,c,C,dx,_,_,rfl,hc3,TC.cls,TC.tracks,elt,_,rfl,_,rfl,_,rfl,_,_,rfl,rfl,_,rfl,tl,Dn,tv,ys,(a:Int),((b:Int)+1),rfl,rfl,rfl,rfl,htl3,hD3,hDtl,by lia,by lia,by lia,szl ∅,?_⟩
 have CH2:Chg [tl] G3 (upd G3 tl (.lst (tv.take ((a:Int)).toNat++ys++tv.drop ((b:Int)+1).toNat))):=λb o nb e=>by rw[zF ↥nb];exact e
 have hE:upd G3 tl (.lst (tv.take ((a:Int)).toNat++ys++tv.drop ((b:Int)+1).toNat)) tl=some (.lst (tv.take a++ys++tv.drop (b+1))):=zg
 have Tu2:zU G3 (upd G3 tl (.lst (tv.take ((a:Int)).toNat++ys++tv.drop ((b:Int)+1).toNat))):=.upd htl3
 generalize upd G3 tl (.lst (tv.take ((a:Int)).toNat++ys++tv.drop ((b:Int)+1).toNat))=G4 at CH2 hE Tu2
 have TuA:zU H G4:=TuH.trans Tu2
 have CHA:Chg [Tb,tl] H G4:=λb o nb e=>CH2 b o (λz=>nb (by simp at z;simp[z])) (CH b o (λz=>nb (by simp at z;simp[z])) e)
 have ntl:∀{b:Addr}{o:HO},H b=some o->(∀xs,o≠.lst xs)->(∀ps,o≠.tbl ps)->b∉[Tb,tl]:=λ{b o} e n1 n2 z=>by
  rcases ww.mp z with z | z
  ·exact neH e n2 (by simp[z])
  ·have:b=tl:=↥z
   rw[this,htl]at e;cases e;exact n1 _ rfl
 refine k G4 seg CHA ?_ hperm hpw ?_
 ·obtain⟨ps,g1,g2,g3⟩:=T4
  have nT:Tb∉[tl]:=λz=>by
   have:Tb=tl:=↥z
   rw[this,htl3]at g1;cases g1
  refine⟨ps,CH2 _ _ nT g1,g2,?_⟩
  rcases g3 with g3 | ⟨c',g3,g4⟩
  ·exact .inl g3
  ·exact .inr ⟨c',g3,CH2 _ _ (λz=>by
    have:c'=tl:=↥z
    rw[this,htl3]at g4;cases g4) g4⟩
 ·obtain⟨tp,f1,f2⟩:=F.tick
  obtain⟨wl',f3,f4⟩:=F.weights
  obtain⟨v1,f5,f6⟩:=F.low
  obtain⟨v2,f7,f8⟩:=F.high
  have hTn:xV G4 (tv.take a++ys++tv.drop (b+1)) (trs.take a++seg++trs.drop (b+1)):=(((hTv.keeps TuA).take a).app (hseg.keeps Tu2)).app ((hTv.keeps TuA).drop (b+1))
  refine⟨dx,fs,_,CHA c _ (ntl hc (λ_ z=>by cases z) (λ_ z=>by cases z)) hc,⟨F.pb,F.sb,⟨tp,f1,TuA _ _ f2⟩,⟨wl',f3,?_⟩,⟨tl,_,elt,hE,hTn⟩,⟨v1,f5,f6.keeps TuA⟩,⟨v2,f7,f8.keeps TuA⟩,F.len⟩,elt,hE,hTn⟩
  refine CHA wl' _ (λz=>?_) f4
  rcases ww.mp z with z | z
  ·exact neH f4 (λ_ z=>by cases z) (by simp[z])
  ·have z:wl'=tl:=↥z
   rw[z,htl]at f4
   have ev:tv=ws.map V.int:=by injection f4 with f4;injection f4
   have h0:0<tv.length:=by lia
   rcases q:hTv.2 0 tv[0] (wk h0) with⟨t,_,at',e1,_⟩
   have:tv[0]∈ws.map V.int:=by rw[<-ev];exact List.getElem_mem h0
   obtain⟨n,_,en⟩:=wA.mp this
   rw[e1]at en;cases en
end
end KQ
namespace L2
open PySem PySem.Spec PyProof.Rows
section
variable {X:Cx}
theorem zbr:zi9 X .Mult (rI Qq λi j=>.int (i*j)):=by
 rintro pz s σ H x y u v Q I rx ry ⟨i,j,rfl,rfl,hc,q⟩
 obtain⟨t,rfl⟩:=(show ∃t,u=Value.int i t from rx)
 obtain⟨t',rfl⟩:=(show ∃t',v=Value.int j t' from ry)
 exact PyProof.Rows.imul_int ⟨.int (i*j),H,I.tok _,⟨_,rfl⟩,q⟩ (IntMulOk.of_le hc.1.bits hc.2.bits (by decide))
theorem qF {f:Str}{v x:V}:∀{fs:List (Str×V)},fs.lookup f=some x->(xM f v fs).length=fs.length
 |[],h=>by cases h
 | (g,y)::r,h=>by
  unfold xM
  by_cases e:g=f
  ·rw[if_pos e];rfl
  ·rw[if_neg e]
   have:(f == g)=false:=beq_eq_false_iff_ne.mpr (λz=>e z.symm)
   rw[List.lookup_cons,this]at h
   rw[wJ,wJ,qF h]
end
end L2
namespace KQ
open PySem L2 KM KK
def scT (m:Int) (t:Int×Int):Int×Int:=(t.1*m,t.2*m)
section
variable {P:Program}{w:World}{K:Fg}{mg:Str->Option Value}{base:Heap}
inductive ziN  (vs:List V) (H:Hp) (Q:VK) (_e3:XK):Prop
 |mk:∀v m o,(vs=[v,.int m])->(vk H v o)->(Bd 5000 m)->((∀t,o=some t->BdP 5000 t))->(∀v' H',zj H H'->vk H' v' (o.map (scT m))->Q v' H')->ziN vs H Q _e3
theorem zkt:zH ["track","many"] ["track","many"] (zr XH):=scq
theorem zjZ (D:Df K mg "refined" XH ["track","many"] []):Cal P w K mg base "refined" 1 ["track","many"] [] ziN:=by
 rcases r:D.calq (k:=0) zkt with⟨v,m,o,rfl,hv,zm,zo,k⟩
 refine⟨_,(zA (xh (zJ qH (pv 0) xj (zN _)) (zB (zK xj)) zS)
  (zB (zK (zT (zd (zE zR (pxt (pv 0)) (pv 1)) (zd (zE zR (pxt (pv 0)) (pv 1)) ze)))))),?_⟩
 try dsimp only[xl,Cx.nox]
 cases o with
 |none =>
  obtain rfl:v=.non:=hv
  exact⟨_,rL,rL,_,rL,x5 (k _ _ (zj.refl _) rL)⟩
 |some t =>
  obtain⟨a,rfl,ha⟩:=hv
  have z:=zo t rfl
  refine⟨_,rL,rL,_,rL,xQ ?_⟩
  refine⟨_,rL,a,_,_,_,rL,rL,.of ha,rL,_,rL,_,_,rL,rL,⟨z.1.md,zm.md⟩,_,rL,a,_,_,_,rL,rL,.of ha,rL,_,rL,_,_,rL,rL,⟨z.2.md,zm.md⟩,zL2,λtp htp=>?_⟩
  exact k _ _ (zj.upd htp) ⟨tp,rL,zg⟩
inductive ziM (C:Addr) (vs:List V) (H:Hp) (Q:VK) (_e3:XK):Prop
 |mk:∀c tl m pb sb tk ws trs lo hi,(vs=[V.ref c,.int m])->(CoT H C c tl pb sb tk ws trs lo hi)->(trs.length<=8)->(Bd 5000 m)->(Bd 5000 pb)->(Bd 5000 sb)->((∀t∈trs,BdP 5000 t))->((∀l,lo=some l->BdP 5000 l))->((∀l,hi=some l->BdP 5000 l))->(∀H' tl',xf c H H'->H tl'=none->CoT H' C c tl' (pb*m) (sb*m) tk ws (trs.map (scT m)) (lo.map (scT m)) (hi.map (scT m))->Q .non H')->ziM C vs H Q _e3
theorem zks:zH ["course","many"] ["course","many"] (zr QX):=scq
theorem zjY {C:Addr}(D:Df K mg "refine" QX ["course","many"] []) (TC:TCo K C) (cRf:Cal P w K mg base "refined" 1 ["track","many"] [] ziN):Cal P w K mg base "refine" 2 ["course","many"] [] (ziM C):=by
 rcases r:D.calBq (k:=1) zks with⟨c,tl,m,pb,sb,tk,ws,trs,lo,hi,rfl,⟨dx,fs,tv,hc,F,elt,htl,hTv⟩,hl8,zm,zpb,zsb,zt,zlo,zhi,k⟩
 obtain⟨tp,f1,f2⟩:=F.tick
 obtain⟨wl',f3,f4⟩:=F.weights
 obtain⟨v1,f5,f6⟩:=F.low
 obtain⟨v2,f7,f8⟩:=F.high
 have flen:=F.len
 refine⟨_,(zM (Bx.mk (VC (pv 0) (pv 1) zbr))
  (zM (Bx.mk (VC (pv 0) (pv 1) zbr))
  (zM (Bx.mk (vw (pv 0) (vK (NB:=["track"]) (FR:=["many"]) (js:=[1]) rfl rfl (λ_ _ h=>h) (.cons rfl rfl rfl ⟨_,rfl⟩ .nil) rfl (by decide +kernel) rfl (by decide +kernel) (xN (xm (pv 0) rfl)) (by intro _ _ _;refine⟨?_,?_,?_⟩;(exact(pgl (i:=0) (show List.Nodup (["track","many"]:List Str) by decide +kernel)));(exact xP);(exact(zI cRf hr (zd (pv 0) (zd (pv 1) ze)))))) rfl))
  (zM (Bx.mk (vw (pv 0) (zI cRf hr (zd (xm (pv 0) rfl) (zd (pv 1) ze))) rfl))
  (Bx.mk (zB (vw (pv 0) (zI cRf hr (zd (xm (pv 0) rfl) (zd (pv 1) ze))) rfl))))))),?_⟩
 try dsimp only[xl,Cx.nox]
 have nc:∀{G:Hp}{dx:Addr}{fs:List (Str×V)}{b:Addr}{o:HO},G c=some (.ins C dx fs)->G b=some o->(∀dx fs,o≠.ins C dx fs)->b≠c:=λh1 h2 h3 z=>by subst z;rw[h1]at h2;cases h2;exact h3 _ _ rfl
 refine⟨_,rfl,c,C,dx,fs,_,rfl,hc,TC.cls,TC.pb,F.pb,_,rfl,_,_,rfl,rfl,⟨zpb.md,zm.md⟩,dx,fs,hc,by lia,?_⟩
 have l1:(xM ("place_bottom":Str) (.int (pb*m)) fs).length=fs.length:=qF F.pb
 have e1:∀g:Str,g≠"place_bottom"->(xM ("place_bottom":Str) (.int (pb*m)) fs).lookup g=fs.lookup g:=λg n=>by rw[xv,if_neg n]
 have p1:(xM ("place_bottom":Str) (.int (pb*m)) fs).lookup ("place_bottom":Str)=some (.int (pb*m)):=by rw[xv,if_pos rfl]
 generalize xM ("place_bottom":Str) (.int (pb*m)) fs=fs1 at l1 e1 p1
 have X1:xf c H (upd H c (.ins C dx fs1)):=.upd
 have c1:upd H c (.ins C dx fs1) c=some (.ins C dx fs1):=zg
 generalize upd H c (.ins C dx fs1)=G1 at X1 c1
 refine⟨_,rfl,c,C,dx,fs1,_,rfl,c1,TC.cls,TC.sb,(e1 _ (by decide)).trans F.sb,_,rfl,_,_,rfl,rfl,⟨zsb.md,zm.md⟩,dx,fs1,c1,by lia,?_⟩
 have l2:(xM ("speed_bottom":Str) (.int (sb*m)) fs1).length=fs1.length:=qF ((e1 _ (by decide)).trans F.sb)
 have e2:∀g:Str,g≠"speed_bottom"->(xM ("speed_bottom":Str) (.int (sb*m)) fs1).lookup g=fs1.lookup g:=λg n=>by rw[xv,if_neg n]
 have p2:(xM ("speed_bottom":Str) (.int (sb*m)) fs1).lookup ("speed_bottom":Str)=some (.int (sb*m)):=by rw[xv,if_pos rfl]
 generalize xM ("speed_bottom":Str) (.int (sb*m)) fs1=fs2 at l2 e2 p2
 have X2:xf c H (upd G1 c (.ins C dx fs2)):=X1.trans .upd
 have c2:upd G1 c (.ins C dx fs2) c=some (.ins C dx fs2):=zg
 generalize upd G1 c (.ins C dx fs2)=G2 at X2 c2
 have t2:zU H G2:=X2.tup hc
 have htl2:=X2 _ _ (nc hc htl (λ_ _ z=>by cases z)) htl
 nofun
 refine vv (K:=K) ?_
 refine⟨_,rfl,c,C,dx,fs2,_,rfl,c2,TC.cls,TC.tracks,(e2 _ (by decide)).trans ((e1 _ (by decide)).trans elt),tl,rfl,⟨_,SqL.of htl2⟩,λD3 hD3=>?_⟩
 refine qb (J:=Itl K tl) (n:=1) (js:=[1]) (g:=zO 0) (te:=_) (xs:=tv) (λi v G=>∃t,trs[i]?=some t/\vk G v (some (scT m t))) (λ_ _ _ _ t ⟨x,h1,h2⟩=>⟨x,h1,h2.keeps t⟩) hD3 (xS htl2) (xr (by have:=hTv.1;lia)) ?_ ?_
 ·intro i x zs H3 Q' hx hz s3 hk
  obtain⟨z1,rfl⟩:=Z9 hz
  obtain⟨t,et,hat⟩:=(hTv.keeps (t2.trans (.of s3))).2 i x hx
  dsimp only[zO]
  exact⟨rfl,_,rfl,_,rfl,x,m,some t,rfl,hat,zm,λu e=>by cases e;exact zt t (wm et),λv' H' s' h'=>hk _ _ s' ⟨t,et,h'⟩⟩
 intro y3 H3 s3 hy3 hyl3 hyR3
 refine qo (by rfl) (s3 _ _ c2) TC.cls TC.tracks ∅ λG3 X3' c3=>?_
 have l3:(xM ("tracks":Str) (.ref D3) fs2).length=fs2.length:=qF ((e2 _ (by decide)).trans ((e1 _ (by decide)).trans elt))
 have e3:∀g:Str,g≠"tracks"->(xM ("tracks":Str) (.ref D3) fs2).lookup g=fs2.lookup g:=λg n=>by rw[xv,if_neg n]
 have p3:(xM ("tracks":Str) (.ref D3) fs2).lookup ("tracks":Str)=some (.ref D3):=by rw[xv,if_pos rfl]
 generalize xM ("tracks":Str) (.ref D3) fs2=fs3 at l3 e3 p3 c3
 have X3:xf c H G3:=X2.trans ((xf.of s3).trans X3')
 have t3:zU H G3:=X3.tup hc
 have hy3':G3 D3=some (.lst y3):=X3' _ _ (nc (s3 _ _ c2) hy3 (λ_ _ z=>by cases z)) hy3
 have hD3H:H D3=none:=by
  cases e:H D3 with
  |none=>rfl
  |some o =>
   by_cases hz:D3=c
   ·rw[hz,c2]at hD3;cases hD3
   ·rw[X2 _ _ hz e]at hD3;cases hD3
 have hT3:xV G3 y3 (trs.map (scT m)):=(xV.map (by rw[hyl3];exact hTv.1) hyR3).keeps (X3'.tup (s3 _ _ c2))
 have g5:fs3.lookup ("low":Str)=some v1:=(e3 _ (by decide)).trans ((e2 _ (by decide)).trans ((e1 _ (by decide)).trans f5))
 have g7:fs3.lookup ("high":Str)=some v2:=(e3 _ (by decide)).trans ((e2 _ (by decide)).trans ((e1 _ (by decide)).trans f7))
 refine vv (K:=K) ?_
 refine Jr ⟨_,rL,c,C,dx,fs3,_,rL,c3,TC.cls,TC.low,g5,_,rL,v1,m,lo,rL,f6.keeps t3,zm,zlo,λlv H4 s4 hlv=>?_⟩
 refine qo (by rfl) (s4 _ _ c3) TC.cls TC.low ∅ λG4 X4' c4=>?_
 have l4:(xM ("low":Str) lv fs3).length=fs3.length:=qF g5
 have e4:∀g:Str,g≠"low"->(xM ("low":Str) lv fs3).lookup g=fs3.lookup g:=λg n=>by rw[xv,if_neg n]
 have p4:(xM ("low":Str) lv fs3).lookup ("low":Str)=some lv:=by rw[xv,if_pos rfl]
 generalize xM ("low":Str) lv fs3=fs4 at l4 e4 p4 c4
 have X34:xf c G3 G4:=(xf.of s4).trans X4'
 have X4:xf c H G4:=X3.trans X34
 have t4:zU H G4:=X4.tup hc
 have hlv4:=hlv.keeps (X4'.tup (s4 _ _ c3))
 have g8:fs4.lookup ("high":Str)=some v2:=(e4 _ (by decide)).trans g7
 refine zbC (K:=K) ?_
 refine Jr ⟨_,rL,c,C,dx,fs4,_,rL,c4,TC.cls,TC.high,g8,_,rL,v2,m,hi,rL,f8.keeps t4,zm,zhi,λhv H5 s5 hhv=>?_⟩
 refine qo (rest:=vd.nx) (by rfl) (s5 _ _ c4) TC.cls TC.high ∅ λG5 X5' c5=>?_
 have l5:(xM ("high":Str) hv fs4).length=fs4.length:=qF g8
 have e5:∀g:Str,g≠"high"->(xM ("high":Str) hv fs4).lookup g=fs4.lookup g:=λg n=>by rw[xv,if_neg n]
 have p5:(xM ("high":Str) hv fs4).lookup ("high":Str)=some hv:=by rw[xv,if_pos rfl]
 generalize xM ("high":Str) hv fs4=fs5 at l5 e5 p5 c5
 have X45:xf c G4 G5:=(xf.of s5).trans X5'
 have X35:=X34.trans X45
 have X5:xf c H G5:=X4.trans X45
 have t5:zU H G5:=X5.tup hc
 have hy5:=X35 _ _ (nc c3 hy3' (λ_ _ z=>by cases z)) hy3'
 have hT5:=hT3.keeps (X35.tup c3)
 have q3:fs5.lookup ("tracks":Str)=some (.ref D3):=(e5 _ (by decide)).trans ((e4 _ (by decide)).trans p3)
 refine k G5 D3 X5 hD3H ⟨dx,fs5,y3,c5,⟨?_,?_,⟨tp,?_,t5 _ _ f2⟩,⟨wl',?_,X5 _ _ (nc hc f4 (λ_ _ z=>by cases z)) f4⟩,⟨D3,y3,q3,hy5,hT5⟩,⟨lv,(e5 _ (by decide)).trans p4,hlv4.keeps (X45.tup c4)⟩,⟨hv,p5,hhv.keeps (X5'.tup (s5 _ _ c4))⟩,by lia⟩,q3,hy5,hT5⟩
 ·exact(e5 _ (by decide)).trans ((e4 _ (by decide)).trans ((e3 _ (by decide)).trans ((e2 _ (by decide)).trans p1)))
 ·exact(e5 _ (by decide)).trans ((e4 _ (by decide)).trans ((e3 _ (by decide)).trans p2))
 ·exact(e5 _ (by decide)).trans ((e4 _ (by decide)).trans ((e3 _ (by decide)).trans ((e2 _ (by decide)).trans ((e1 _ (by decide)).trans f1))))
 ·exact(e5 _ (by decide)).trans ((e4 _ (by decide)).trans ((e3 _ (by decide)).trans ((e2 _ (by decide)).trans ((e1 _ (by decide)).trans f3))))
end
def zjg {α:Type}{xs:List α}{a:Nat}{x y:α}(hx:xs[a]?=some x) (hy:xs[a+1]?=some y):qZ xs (some (a:Int)) (some ((a:Int)+2))=[x,y]:=by
 have h2:a+1<xs.length:=(wn.mp hy).1
 unfold qZ
 rw[show ((a:Int)+2)=((a+2:Nat):Int) by lia,HT.sIx_nat,HT.sIx_nat]
 have e1:min a xs.length=a:=by lia
 have e2:min (a+2) xs.length-min a xs.length=2:=by lia
 rw[e2,e1]
 obtain⟨h1,rfl⟩:=wn.mp hx
 obtain⟨_,rfl⟩:=wn.mp hy
 rw[yg h1,yg h2]
 rfl
def dvP (l r:Int):Int:=((Int.gcd (l+r) (2*l):Nat):Int)
def mP (l r:Int):Int:=(l+r).fdiv (dvP l r)
def puP (l r:Int):Int:=(2*r).fdiv (dvP l r)
def baP (l r:Int):Int:=(2*l).fdiv (dvP l r)
def ahP (l r:Int):Int:=(l-r).fdiv (dvP l r)
def ZJ (l r:Int) (trs:List (Int×Int)) (a:Nat) (x y:Int×Int):List (Int×Int) :=
 ((trs.map (scT (mP l r))).set a (ahP l r*x.1+puP l r*y.1,ahP l r*x.2+puP l r*y.2)).set (a+1) (baP l r*x.1-ahP l r*y.1,baP l r*x.2-ahP l r*y.2)
def QA {l r:Int}(hl:1<=l) (hr:1<=r):0<dvP l r:=by
 unfold dvP
 have:0<Int.gcd (l+r) (2*l):=yP _ ∅
 lia
def zbl {l r:Int}(hl:1<=l) (hr:1<=r) (hl2:l<=1000) (hr2:r<=1000):dvP l r<=2000:=by
 unfold dvP
 have h:((Int.gcd (l+r) (2*l):Nat):Int)<=l+r:=Int.le_of_dvd ∅ (yT ..)
 lia
def XX {t d:Int}(hd:0<d) (h : -2000<=t) (h2:t<=2000):Bd 12 (t.fdiv d):=by
 rw[yk _ ∅]
 have h1:t/d<=2000:=by
  by_cases z:0<=t
  ·have:=uU d z;lia
  ·have:t/d<0:=Int.ediv_neg_of_neg_of_pos ∅ hd
   lia
 have h3 : -2000<=t/d:=by
  have : -2000/d<=t/d:=Int.ediv_le_ediv hd h
  have : -2000 ≤ -2000/d:=by
   rw[Int.le_ediv_iff_mul_le hd]
   have:(2000:Int)*1<=2000*d:=Int.mul_le_mul_of_nonneg_left ∅ (by decide)
   lia
  lia
 show (t/d).natAbs<2^12
 lia
def xV.put {H:Hp}{tv:List V}{ts:List (Int×Int)}{p:Addr}{t:Int×Int}{a:Nat}(h:xV H tv ts) (hp:H p=some (.tup [.int t.1,.int t.2])):xV H (tv.set a (.ref p)) (ts.set a t):=by
 refine⟨by simp[h.1],λi v e=>?_⟩
 rw[List.getElem?_set]at e ⊢
 by_cases hi:a=i
 ·rw[if_pos hi]at e ⊢
  split at e
  ·cases e
   rw[if_pos (by rw[<-h.1];assumption)]
   exact⟨t,rL,p,rL,hp⟩
  ·cases e
 ·rw[if_neg hi]at e ⊢
  exact h.2 i v e
def zdG {n a:Nat}(h:a<n):ixN n (a:Int)=some a:=by
 unfold ixN
 rw[if_pos ∅,if_pos ∅,yG]
section
variable {P:Program}{w:World}{K:Fg}{mg:Str->Option Value}{base:Heap}
inductive ziI (C:Addr) (vs:List V) (H:Hp) (Q:VK) (_e3:XK):Prop
 |mk:∀c tl a pb sb tk ws trs lo hi l r x y,(vs=[V.ref c,.int (a:Nat)])->(CoT H C c tl pb sb tk ws trs lo hi)->(trs.length<=8)->(ws[a]?=some l)->(ws[a+1]?=some r)->(1<=l)->(l<=1000)->(1<=r)->(r<=1000)->(trs[a]?=some x)->(trs[a+1]?=some y)->(Bd 5000 pb)->(Bd 5000 sb)->((∀t∈trs,BdP 5000 t))->((∀l,lo=some l->BdP 5000 l))->((∀l,hi=some l->BdP 5000 l))->(∀H' tl',xf c H H'->H tl'=none->CoT H' C c tl' (pb*mP l r) (sb*mP l r) tk ws (ZJ l r trs a x y) (lo.map (scT (mP l r))) (hi.map (scT (mP l r)))->Q .non H')->ziI C vs H Q _e3
theorem Xe:zH ["course","first","left","right","one","other","divisor","pull","back","ahead"] ["course","first"] (zr zaU):=scq
theorem zjT {C:Addr}(D:Df K mg "part" zaU ["course","first"] []) (TC:TCo K C) (cG:Cal P w K mg base "greatest_divisor" 1 ["one","other"] [] JZ) (cRe:Cal P w K mg base "refine" 2 ["course","many"] [] (ziM C)):Cal P w K mg base "part" 3 ["course","first"] [] (ziI C):=by
 rcases r:D.calBq (k:=2) Xe with⟨c,tl,a,pb,sb,tk,ws,trs,lo,hi,l,r,x,y,rfl,CT,hl8,hl,hrr,l1,l2,r1,r2,hx,hy,zpb,zsb,zt,zlo,zhi,k⟩
 rcases q:id CT with⟨dx,fs,tv,hc,F,elt,htl,hTv⟩
 obtain⟨wl',f3,f4⟩:=F.weights
 have hr1:xb 1 _:=hr.md
 have ha1:a+1<trs.length:=(wn.mp hy).1
 refine⟨_,(zM (Bx.mk (qi (qx vX (xm (pv 0) rL) (xO (pv 1)) (xO (zE xk (pv 1) zi))) (zbJ rL (zQ (pgl (i:=2) Xe.nd) (zQ (pgl (i:=3) Xe.nd) xw)))))
  (zM (Bx.mk (qi (qx vX (xm (pv 0) rfl) (xO (pv 1)) (xO (zE xk (pv 1) zi))) (zbJ rfl (zQ (pgl (i:=4) Xe.nd) (zQ (pgl (i:=5) Xe.nd) xw)))))
  (zM (Bx.mk (psl (i:=6) Xe.nd (zI cG hr1 (zd (zE xk (pv 2) (pv 3)) (zd (zE zR zi (pv 2)) ze)))))
  (zM (Bx.mk (x9 (zI cRe hr (zd (pv 0) (zd (zE qd (zE xk (pv 2) (pv 3)) (pv 6)) ze)))))
  (zM (Bx.mk (psl (i:=7) Xe.nd (zE qd (zE zR zi (pv 3)) (pv 6))))
  (zM (Bx.mk (psl (i:=8) Xe.nd (zE qd (zE zR zi (pv 2)) (pv 6))))
  (zM (Bx.mk (psl (i:=9) Xe.nd (zE qd (zE xA (pv 2) (pv 3)) (pv 6))))
  (zM (Bx.mk (qi (zT (zd (zE xk (zE zR (pv 9) (pxt (pv 4))) (zE zR (pv 7) (pxt (pv 5)))) (zd (zE xk (zE zR (pv 9) (pxt (pv 4))) (zE zR (pv 7) (pxt (pv 5)))) ze))) (QN (xm (pv 0) rfl) (pv 1) Zu)))
  (Bx.mk (zB (qi (zT (zd (zE xA (zE zR (pv 8) (pxt (pv 4))) (zE zR (pv 9) (pxt (pv 5)))) (zd (zE xA (zE zR (pv 8) (pxt (pv 4))) (zE zR (pv 9) (pxt (pv 5)))) ze))) (QN (xm (pv 0) rfl) (zE xk (pv 1) zi) Zu)))))))))))),?_⟩
 try dsimp only[xl,Cx.nox]
 have cw:xW (ws.map V.int) (some (a:Int)) (some ((a:Int)+2))=[.int l,.int r]:=zjg (xs:=ws.map V.int) (by rw[wg,hl];rfl) (by rw[wg,hrr];rfl)
 obtain⟨vx,evx⟩:∃v,tv[a]?=some v:=⟨_,wk (by rw[hTv.1];lia)⟩
 obtain⟨vy,evy⟩:∃v,tv[a+1]?=some v:=⟨_,wk (by rw[hTv.1];lia)⟩
 have ct:xW tv (some (a:Int)) (some ((a:Int)+2))=[vx,vy]:=zjg (xs:=tv) evx evy
 rcases q:hTv.2 _ _ evx with⟨x',ex',ax,rfl,hax⟩
 rcases q:hTv.2 _ _ evy with⟨y',ey',ay,rfl,hay⟩
 rw[hx]at ex';cases ex'
 rw[hy]at ey';cases ey'
 refine⟨_,rL,c,C,dx,_,_,rL,hc,TC.cls,TC.weights,f3,_,rL,_,rL,_,rL,_,_,rL,rL,_,rL,wl',_,rL,.of f4,λq1 hq1=>?_⟩
 rw[cw]
 have s1:=zj.upd (o:=.lst [.int l,.int r]) hq1
 have hq1':upd H q1 (.lst [.int l,.int r]) q1=some (.lst [.int l,.int r]):=zg
 generalize upd H q1 (.lst [.int l,.int r])=G1 at s1 hq1'
 refine⟨q1,_,rL,.of hq1',rL,_,_,rL,_,_,rL,rL,?_⟩
 refine⟨_,rL,c,C,dx,_,_,rL,s1 _ _ hc,TC.cls,TC.tracks,elt,_,rL,_,rL,_,rL,_,_,rL,rL,_,rL,tl,_,rL,.of (s1 _ _ htl),λq2 hq2=>?_⟩
 rw[ct]
 have s2:=zj.upd (o:=.lst [.ref ax,.ref ay]) hq2
 have hq2':upd G1 q2 (.lst [.ref ax,.ref ay]) q2=some (.lst [.ref ax,.ref ay]):=zg
 generalize upd G1 q2 (.lst [.ref ax,.ref ay])=G2 at s2 hq2'
 refine⟨q2,_,rL,.of hq2',rL,_,_,rL,_,_,rL,rL,?_⟩
 have S2:=s1.trans s2
 dsimp only[zO]
 have b2:Bd 1000000 2:=Bd.mono (m:=3) (show (2:Int).natAbs<2^3 by decide) (by decide)
 have bl:Bd 1000000 l:=Bd.mono (m:=11) (show l.natAbs<2^11 by lia) (by decide)
 have br:Bd 1000000 r:=Bd.mono (m:=11) (show r.natAbs<2^11 by lia) (by decide)
 have dp:=QA l1 r1
 have dl:=zbl l1 r1 l2 r2
 have bd:Bd 8900 (dvP l r):=Bd.mono (m:=12) (show (dvP l r).natAbs<2^12 by lia) (by decide)
 have bm:Bd 12 (mP l r):=XX dp ∅ ∅
 have bp:Bd 12 (puP l r):=XX dp ∅ ∅
 have bb:Bd 12 (baP l r):=XX dp ∅ ∅
 have bh:Bd 12 (ahP l r):=XX dp ∅ ∅
 refine⟨_,rfl,_,rfl,_,_,rfl,rfl,_,rfl,_,_,rfl,rfl,⟨b2,bl⟩,_,_,rfl,by lia,by lia,?_⟩
 dsimp only[zO]
 show _
 have CT2:CoT G2 C c tl pb sb tk ws trs lo hi:=by
  obtain⟨tp,g1,g2⟩:=F.tick
  obtain⟨v1,g5,g6⟩:=F.low
  obtain⟨v2,g7,g8⟩:=F.high
  exact⟨dx,fs,tv,S2 _ _ hc,⟨F.pb,F.sb,⟨tp,g1,S2 _ _ g2⟩,⟨wl',f3,S2 _ _ f4⟩,⟨tl,tv,elt,S2 _ _ htl,hTv.keeps (.of S2)⟩,⟨v1,g5,g6.keeps (.of S2)⟩,⟨v2,g7,g8.keeps (.of S2)⟩,F.len⟩,elt,S2 _ _ htl,hTv.keeps (.of S2)⟩
 have edv:((Int.gcd (l+r) (2*l):Nat):Int)=dvP l r:=rfl
 rw[edv]
 refine⟨_,rfl,_,rfl,_,rfl,_,_,rfl,rfl,_,rfl,_,_,rfl,rfl,⟨by lia,bd⟩,c,tl,mP l r,pb,sb,tk,ws,trs,lo,hi,rfl,CT2,hl8,bm.md,zpb,zsb,zt,zlo,zhi,λG3 tl3 X3 htl3n CT3=>?_⟩
 rcases q:CT3 with⟨dx3,fs3,tv3,hc3,F3,elt3,htl3,hTv3⟩
 have tu3:zU H G3:=(zU.of S2).trans (X3.tup (S2 _ _ hc))
 nofun
 have epu:(2*r).fdiv (dvP l r)=puP l r:=rfl
 have eba:(2*l).fdiv (dvP l r)=baP l r:=rfl
 have eah:(l-r).fdiv (dvP l r)=ahP l r:=rfl
 refine⟨_,rfl,_,_,rfl,rfl,⟨b2,br⟩,_,rfl,_,_,rfl,rfl,⟨by lia,bd⟩,?_⟩
 dsimp only[zO]
 refine⟨_,rfl,_,_,rfl,rfl,⟨b2,bl⟩,_,rfl,_,_,rfl,rfl,⟨by lia,bd⟩,?_⟩
 dsimp only[zO]
 refine⟨_,rfl,_,rfl,_,_,rfl,rfl,_,rfl,_,_,rfl,rfl,⟨by lia,bd⟩,?_⟩
 dsimp only[zO]
 rw[epu,eba,eah]
 have zx:=zt x (wm hx)
 have zy:=zt y (wm hy)
 have lt3:tv3.length=trs.length:=by rw[hTv3.1,wf]
 have hax3:=tu3 _ _ hax
 have hay3:=tu3 _ _ hay
 refine⟨_,rL,_,rL,ax,_,_,_,rL,rL,.of hax3,rL,_,_,rL,rL,⟨bh.md,zx.1.md⟩,_,rL,_,rL,ay,_,_,_,rL,rL,.of hay3,rL,_,_,rL,rL,⟨bp.md,zy.1.md⟩,_,_,rL,rL,?_⟩
 refine⟨_,rL,_,rL,ax,_,_,_,rL,rL,.of hax3,rL,_,_,rL,rL,⟨bh.md,zx.2.md⟩,_,rL,_,rL,ay,_,_,_,rL,rL,.of hay3,rL,_,_,rL,rL,⟨bp.md,zy.2.md⟩,_,_,rL,rL,zL2,λp1 hp1=>?_⟩
 nofun
 have s4:=zj.upd (o:=.tup [.int (ahP l r*x.1+puP l r*y.1),.int (ahP l r*x.2+puP l r*y.2)]) hp1
 have hp1':upd G3 p1 (.tup [.int (ahP l r*x.1+puP l r*y.1),.int (ahP l r*x.2+puP l r*y.2)]) p1=some (.tup [.int (ahP l r*x.1+puP l r*y.1),.int (ahP l r*x.2+puP l r*y.2)]):=zg
 generalize upd G3 p1 (.tup [.int (ahP l r*x.1+puP l r*y.1),.int (ahP l r*x.2+puP l r*y.2)])=G4 at s4 hp1' ⊢
 refine⟨_,rL,c,C,dx3,fs3,_,rL,s4 _ _ hc3,TC.cls,TC.tracks,elt3,_,rL,tl3,tv3,(a:Int),a,rL,rL,s4 _ _ htl3,zdG ∅,?_⟩
 have tu4:zU H G4:=tu3.trans (.of s4)
 have nl:∀{b:Addr}{o:HO},G4 b=some o->(∀xs,o≠.lst xs)->b≠tl3:=λ{b o} e n z=>by rw[z,s4 _ _ htl3]at e;cases e;exact n _ rfl
 have h5:upd G4 tl3 (.lst (tv3.set a (.ref p1))) tl3=some (.lst (tv3.set a (.ref p1))):=zg
 have T45:zU G4 (upd G4 tl3 (.lst (tv3.set a (.ref p1)))):=.upd (s4 _ _ htl3)
 have X45:xf tl3 G4 (upd G4 tl3 (.lst (tv3.set a (.ref p1)))):=.upd
 generalize upd G4 tl3 (.lst (tv3.set a (.ref p1)))=G5 at h5 T45 X45 ⊢
 nofun
 have hc5:=X45 _ _ (nl (s4 _ _ hc3) (λ_ z=>by cases z)) (s4 _ _ hc3)
 have hax5:=T45 _ _ (tu4 _ _ hax)
 have hay5:=T45 _ _ (tu4 _ _ hay)
 refine⟨_,rL,_,rL,ax,_,_,_,rL,rL,.of hax5,rL,_,_,rL,rL,⟨bb.md,zx.1.md⟩,_,rL,_,rL,ay,_,_,_,rL,rL,.of hay5,rL,_,_,rL,rL,⟨bh.md,zy.1.md⟩,_,_,rL,rL,?_⟩
 refine⟨_,rL,_,rL,ax,_,_,_,rL,rL,.of hax5,rL,_,_,rL,rL,⟨bb.md,zx.2.md⟩,_,rL,_,rL,ay,_,_,_,rL,rL,.of hay5,rL,_,_,rL,rL,⟨bh.md,zy.2.md⟩,_,_,rL,rL,zL2,λp2 hp2=>?_⟩
 nofun
 have s6:=zj.upd (o:=.tup [.int (baP l r*x.1-ahP l r*y.1),.int (baP l r*x.2-ahP l r*y.2)]) hp2
 have hp2':upd G5 p2 (.tup [.int (baP l r*x.1-ahP l r*y.1),.int (baP l r*x.2-ahP l r*y.2)]) p2=some (.tup [.int (baP l r*x.1-ahP l r*y.1),.int (baP l r*x.2-ahP l r*y.2)]):=zg
 generalize upd G5 p2 (.tup [.int (baP l r*x.1-ahP l r*y.1),.int (baP l r*x.2-ahP l r*y.2)])=G6 at s6 hp2' ⊢
 refine⟨_,rfl,c,C,dx3,fs3,_,rfl,s6 _ _ hc5,TC.cls,TC.tracks,elt3,_,rfl,_,_,rfl,rfl,tl3,_,((a:Int)+1),a+1,rfl,rfl,s6 _ _ h5,(by rw[List.length_set];exact zdG (n:=tv3.length) (a:=a+1) ∅),?_⟩
 have nl6:∀{b:Addr}{o:HO},G6 b=some o->(∀xs,o≠.lst xs)->b≠tl3:=λ{b o} e n z=>by rw[z,s6 _ _ h5]at e;cases e;exact n _ rfl
 have h7:upd G6 tl3 (.lst ((tv3.set a (.ref p1)).set (a+1) (.ref p2))) tl3=some (.lst ((tv3.set a (.ref p1)).set (a+1) (.ref p2))):=zg
 have T67:zU G6 (upd G6 tl3 (.lst ((tv3.set a (.ref p1)).set (a+1) (.ref p2)))):=.upd (s6 _ _ h5)
 have X67:xf tl3 G6 (upd G6 tl3 (.lst ((tv3.set a (.ref p1)).set (a+1) (.ref p2)))):=.upd
 generalize upd G6 tl3 (.lst ((tv3.set a (.ref p1)).set (a+1) (.ref p2)))=G7 at h7 T67 X67 ⊢
 have T37:zU G3 G7:=((zU.of s4).trans T45).trans ((zU.of s6).trans T67)
 have X37:xf tl3 G3 G7:=(xf.of s4).trans (X45.trans ((xf.of s6).trans X67))
 have htl3H:H tl3=none:=by
  cases e:H tl3 with
  |none=>rfl
  |some o=>rw[S2 _ _ e]at htl3n;cases htl3n
 have hXA:xf c H G7:=λb o nb e=>X37 _ _ (λz=>by rw[z,htl3H]at e;cases e) (X3 _ _ nb (S2 _ _ e))
 have hTn:xV G7 ((tv3.set a (.ref p1)).set (a+1) (.ref p2)) (ZJ l r trs a x y):=by
  unfold ZJ
  exact((hTv3.keeps T37).put (T67 _ _ (s6 _ _ (T45 _ _ hp1')))).put (T67 _ _ hp2')
 have nt:∀{b:Addr}{o:HO},G3 b=some o->(∀xs,o≠.lst xs)->b≠tl3:=λ{b o} e n z=>by rw[z,htl3]at e;cases e;exact n _ rfl
 obtain⟨tp,g1,g2⟩:=F3.tick
 obtain⟨v1,g5,g6⟩:=F3.low
 obtain⟨v2,g7,g8⟩:=F3.high
 obtain⟨w3,g3,g4⟩:=F3.weights
 refine k G7 tl3 hXA htl3H ⟨dx3,fs3,_,X37 _ _ (nt hc3 (λ_ z=>by cases z)) hc3,⟨F3.pb,F3.sb,⟨tp,g1,T37 _ _ g2⟩,⟨w3,g3,X37 _ _ (λz=>?_) g4⟩,⟨tl3,_,elt3,h7,hTn⟩,⟨v1,g5,g6.keeps T37⟩,⟨v2,g7,g8.keeps T37⟩,F3.len⟩,elt3,h7,hTn⟩
 rw[z,htl3]at g4
 have ev:tv3=ws.map V.int:=by injection g4 with g4;injection g4
 have h0:0<tv3.length:=by lia
 rcases q:hTv3.2 0 tv3[0] (wk h0) with⟨t,_,at',e1,_⟩
 have:tv3[0]∈ws.map V.int:=by rw[<-ev];exact List.getElem_mem h0
 obtain⟨n,_,en⟩:=wA.mp this
 rw[e1]at en;cases en
end
section
variable {P:Program}{w:World}{K:Fg}{mg:Str->Option Value}{base:Heap}{C0:Addr}
theorem zf5:zH ["self","moment"] ["self","moment"] (zr xG):=scq
theorem zfx {C f:Addr}{fd:FuncData}{mc:Value}{cd:ClassData}(F:Fun K "__init__" "Together.__init__" xG f fd) (U:XUp K C0 mc) (hm:mg "ClackError" = some (.ref C0)) (B:XB base C) (S:zc6 K C cd) (n:xJ K C "moment"):qP P w K mg base CX0 1 f fd ["self","moment"] (zeD C):=by
 refine F.okq (k:=0) zf5 (λcdv A outer s H vs Q E hr h=>?_)
 rcases q:h with⟨a,y,rfl,ea,k⟩
 refine⟨_,zA (x9 (zgU U hm (zd (pv 0) (zd qI ze)))) (zB (zgV (pv 0) (pv 1) rL)),?_⟩
 refine⟨_,rL,a,C,_,rL,ea,B,?_⟩
 rw[zeV ea]
 exact⟨_,rL,_,rL,a,C,cd,rL,ea,S,n,k⟩
def xB (ws:List Int) (a b:Nat):List Int:=qZ ws (some (a:Int)) (some ((b:Int)+1))
def qW (l:List Int):Bool:=l.all λx=>decide (x=l.headD 0)
def vf (wl:Option (Int×Int)) (l:List Int):Bool:=decide (wl=none)&&decide (l.length=2)
def RbT (ws:List Int) (a b:Nat) (wl:Option (Int×Int)) (pb sb:Int) (trs:List (Int×Int)) (lo hi:Option (Int×Int)) (pb' sb':Int) (trs':List (Int×Int)) (lo' hi':Option (Int×Int)):Prop :=
 (vf wl (xB ws a b)=true/\∃l r x y,ws[a]?=some l/\ws[a+1]?=some r/\trs[a]?=some x/\trs[a+1]?=some y/\pb'=pb*mP l r/\sb'=sb*mP l r/\trs'=ZJ l r trs a x y/\lo'=lo.map (scT (mP l r))/\hi'=hi.map (scT (mP l r))) ∨
 (vf wl (xB ws a b)=false/\qW (xB ws a b)=true/\∃seg,seg.Perm ((qZ trs (some (a:Int)) (some ((b:Int)+1))).map (v4 wl))/\seg.Pairwise (λx y=>x.2<=y.2)/\pb'=pb/\sb'=sb/\trs'=trs.take a++seg++trs.drop (b+1)/\lo'=lo/\hi'=hi)
theorem zdj {α:Type}(f:α->V) (l:List α) (lo hi:Option Int):xW (l.map f) lo hi=(qZ l lo hi).map f:=by
 unfold xW qZ
 rw[wf,List.map_take,List.map_drop]
theorem JW {ws:List Int}{a b:Nat}(hab:a<=b) (hb:b<ws.length):(xB ws a b).length=b+1-a:=by
 unfold xB qZ
 rw[show ((b:Int)+1)=((b+1:Nat):Int) by lia,HT.sIx_nat,HT.sIx_nat,yd,yf]
 lia
theorem zev {l:List Int}(h:0<l.length):atI (l.map V.int) 0=some (.int (l.headD 0)):=by
 cases l with
 |nil=>simp at h
 |cons x l=>unfold atI ixN;rw[if_pos (by decide),if_pos (by simp only[wf,wJ];lia)];rfl
theorem zkR {Tb c C dx:Addr}{fs:List (Str×V)}{q:Str}{p:PySem.Pos}{H H':Hp}(T:x0 Tb q p H) (hc:H c=some (.ins C dx fs)) (X:xf c H H'):x0 Tb q p H':=by
 obtain⟨ps,g1,g2,g3⟩:=T
 refine⟨ps,X _ _ (λz=>by rw[z,hc]at g1;cases g1) g1,g2,?_⟩
 rcases g3 with g3 | ⟨c',g3,g4⟩
 ·exact .inl g3
 ·exact .inr ⟨c',g3,X _ _ (λz=>by rw[z,hc]at g4;cases g4) g4⟩
theorem CoT.same {H H':Hp}{C c tl:Addr}{pb sb:Int}{tk:Rat}{ws:List Int}{trs:List (Int×Int)}{lo hi:Option (Int×Int)} (h:CoT H C c tl pb sb tk ws trs lo hi) (s:zj H H'):CoT H' C c tl pb sb tk ws trs lo hi:=by
 obtain⟨dx,fs,tv,hc,F,elt,htl,hTv⟩:=h
 obtain⟨tp,g1,g2⟩:=F.tick
 obtain⟨v1,g5,g6⟩:=F.low
 obtain⟨v2,g7,g8⟩:=F.high
 obtain⟨w3,g3,g4⟩:=F.weights
 exact⟨dx,fs,tv,s _ _ hc,⟨F.pb,F.sb,⟨tp,g1,s _ _ g2⟩,⟨w3,g3,s _ _ g4⟩,⟨tl,tv,elt,s _ _ htl,hTv.keeps (.of s)⟩,⟨v1,g5,g6.keeps (.of s)⟩,⟨v2,g7,g8.keeps (.of s)⟩,F.len⟩,elt,s _ _ htl,hTv.keeps (.of s)⟩
inductive ziL (C:Addr) (CT:Addr) (Tb:Addr) (vs:List V) (H:Hp) (Q:VK) (E:XK):Prop
 |mk:∀c tl g tb a b wh t pb sb tk ws trs lo hi,(vs=[V.ref c,.ref g,.ref tb])->(CoT H C c tl pb sb tk ws trs lo hi)->(H g=some (.tup [.int (a:Nat),.int (b:Nat),.str wh]))->(H tb=some (.tup [.int t.1,.int t.2]))->(t.2≠0)->(BdP 4400 t)->(Sz 4400 tk)->(a<=b)->(b<trs.length)->(trs.length<=8)->(ws.length=trs.length)->((∀x∈ws,1<=x/\x<=1000))->(Bd 4600 pb)->(Bd 4600 sb)->((∀t∈trs,BdP 4600 t))->((∀l,lo=some l->BdP 4600 l))->((∀l,hi=some l->BdP 4600 l))->(x0 Tb laQ laP H)->((∀H' tl' pb' sb' trs' lo' hi',Chg [Tb,tl,c] H H'->x0 Tb laQ laP H'->(tl'=tl\/H tl'=none)->RbT ws a b (zX wh lo hi) pb sb trs lo hi pb' sb' trs' lo' hi'->CoT H' C c tl' pb' sb' tk ws trs' lo' hi'->Q .non H'))->((∀H' dx p,zj H H'->vf (zX wh lo hi) (xB ws a b)=false->qW (xB ws a b)=false->H' dx=some (.xd [("moment",.ref p)])->zD H' p (qr tk t)->E (.ref CT) (some dx) H'))->ziL C CT Tb vs H Q E
theorem VG:zH ["course","group","ticks","first","last","where","wall","weights"] ["course","group","ticks"] (zr XG):=scq
theorem zjX {C CT Tb f12:Addr}{fd12:FuncData}(D:Df K mg "rebound" XG ["course","group","ticks"] []) (TC:TCo K C) (T:TxQ K mg) (hAll:mg "all" = none) (cWo:Cal P w K mg base "wall_of" 1 ["course","where"] [] (zgt C)) (cPa:Cal P w K mg base "part" 3 ["course","first"] [] (ziI C)) (cDe:Cal P w K mg base "deal" 4 ["course","first","last","wall"] [] (ziD C Tb))
  (cMo:Cal P w K mg base "moment_of" 3 ["course","ticks"] [] (zcT C)) (XM:XMk K base CT f12) (F12:qP P w K mg base CX0 1 f12 fd12 ["self","moment"] (zeD CT)) (hmT:mg "Together" = some (.ref CT)) (B12:qO K fd12 ["self","moment"] []):vG P w K mg base "rebound" 5 ["course","group","ticks"] [] (ziL C CT Tb):=by
 rcases r:D.cal1q (k:=4) VG with⟨c,tl,g,tb,a,b,wh,t,pb,sb,tk,ws,trs,lo,hi,rfl,CT0,hg,htb,ht2,zt0,ztk,hab,hbl,hl8,hwl,hw1,zpb,zsb,zt,zlo,zhi,T0,k1,k2⟩
 have hr1:xb 1 _:=hr.md
 have hr2:xb 2 _:=hr.md
 have hr3:xb 3 _:=hr.md
 rcases q:id CT0 with⟨dx,fs,tv,hc,F,elt,htl,hTv⟩
 obtain⟨wla,f3,f4⟩:=F.weights
 refine⟨_,(zA (qi (pv 1) (qJ rL (zQ (pgl (i:=3) VG.nd) (zQ (pgl (i:=4) VG.nd) (zQ (pgl (i:=5) VG.nd) xw)))))
  (zA (psl (i:=6) VG.nd (zI cWo hr1 (zd (pv 0) (zd (pv 5) ze))))
  (zA (Xx (i:=7) VG.nd rfl (Or.inr rfl) (qx vX (xm (pv 0) rfl) (xO (pv 3)) (xO (zE xk (pv 4) zi))))
  (zB (xh (vz (zJ qH (pv 6) xj (zN _)) (q5 (zJ x8 (xI qg (by rfl) T.nLen PySem.boot_len (zd (pv 7) ze)) zi (zN _)))).pt (zB (x9 (zI cPa hr3 (zd (pv 0) (zd (pv 3) ze))))) (zB (xh (qy (xI (zdf rfl) (by rfl) hAll PyProof.Rows.boot_all (zd (vK (NB:=["weight"]) (FR:=["weights"]) (js:=[7]) rfl rfl (λ_ _ h=>h) (.cons rfl rfl rfl ⟨_,rfl⟩ .nil) rfl (by decide +kernel) rfl (by decide +kernel) (xN (pv 7)) (by intro _ _ _;refine⟨?_,?_,?_⟩;(exact(pgl (i:=0) (show List.Nodup (["weight","weights"]:List Str) by decide +kernel)));(exact xP);(exact(vq x8 (pv 0) (xz (QF (K:=K) rfl) (pv 1) zi (λ_ _=>rfl)) (zN _))))) ze)) λ_=>rfl) (zB (x9 (zI cDe hr (zd (pv 0) (zd (pv 3) (zd (pv 4) (zd (pv 6) ze))))))) (zB (VD XM F12 hr2 hmT B12 hr.hd ZH (zd (zI cMo hr3 (zd (pv 0) (zd (pv 2) ze))) ze)))))))))),?_⟩
 try dsimp only[xl,Cx.nox]
 refine⟨_,rL,g,_,rL,.of hg,rL,_,_,rL,_,_,rL,_,_,rL,rL,?_⟩
 dsimp only[zO]
 refine⟨_,rL,_,rL,c,pb,sb,tk,ws,trs,lo,hi,wh,rL,⟨dx,fs,hc,F⟩,λwv hwv=>?_⟩
 dsimp only[zO]
 refine⟨_,rL,c,C,dx,_,_,rL,hc,TC.cls,TC.weights,f3,_,rL,_,rL,_,rL,_,_,rL,rL,_,rL,wla,_,rL,.of f4,λq1 hq1=>?_⟩
 rw[zdj]
 have eseg:qZ ws (some (a:Int)) (some ((b:Int)+1))=xB ws a b:=rfl
 rw[eseg]
 have hsl:=JW hab (by omega:b<ws.length)
 have s1:=zj.upd (o:=.lst ((xB ws a b).map V.int)) hq1
 have hq1':upd H q1 (.lst ((xB ws a b).map V.int)) q1=some (.lst ((xB ws a b).map V.int)):=zg
 generalize upd H q1 (.lst ((xB ws a b).map V.int))=G1 at s1 hq1' ⊢
 dsimp only[zO]
 have CT1:=CT0.same s1
 have T1:=T0.same s1
 have zwl:∀l,zX wh lo hi=some l->BdP 4600 l:=λl e=>by
  unfold zX at e
  split at e
  ·cases e
  ·split at e
   ·exact zlo l e
   ·exact zhi l e
 refine Qi (λH'=>H'=G1) (vf (zX wh lo hi) (xB ws a b)) (λQ' q=>?_) (λhcn H3 e3=>?_) (λhcn H3 e3=>?_)
 ·cases ewl:zX wh lo hi with
  |none =>
   rw[ewl]at hwv
   obtain rfl:wv=.non:=hwv
   refine⟨_,rL,rL,_,rL,x5 ?_⟩
   refine⟨_,rL,q1,_,rL,.inl (.of hq1'),rL,_,rL,?_⟩
   have e2:vf (zX wh lo hi) (xB ws a b)=decide (V.int (((xB ws a b).map V.int).length:Int)=V.int 2):=by
    rw[ewl,wf]
    unfold vf
    rw[wE (show (none:Option (Int×Int))=none from rfl),Bool.true_and,decide_eq_decide]
    exact⟨λz=>by rw[z];rfl,λz=>by injection z with z;omega⟩
   rw[<-e2]
   exact q _ rL
  |some u =>
   rw[ewl]at hwv
   obtain⟨aw,rfl,haw⟩:=hwv
   have e2:vf (zX wh lo hi) (xB ws a b)=false:=by rw[ewl];rfl
   rw[e2]at q
   exact⟨_,rL,rL,_,rL,xQ (q _ rL)⟩
 ·subst e3
  unfold vf at hcn
  rw[yF,wK,wK]at hcn
  have hb1:b=a+1:=by omega
  obtain⟨l,el⟩:∃l,ws[a]?=some l:=⟨_,wk (by omega)⟩
  obtain⟨r,er⟩:∃r,ws[a+1]?=some r:=⟨_,wk (by omega)⟩
  obtain⟨x,ex⟩:∃x,trs[a]?=some x:=⟨_,wk (by omega)⟩
  obtain⟨y,ey⟩:∃y,trs[a+1]?=some y:=⟨_,wk (by omega)⟩
  have hlw:=hw1 l (wm el)
  have hrw:=hw1 r (wm er)
  refine⟨_,rL,_,rL,c,tl,a,pb,sb,tk,ws,trs,lo,hi,l,r,x,y,rL,CT1,hl8,el,er,hlw.1,hlw.2,hrw.1,hrw.2,ex,ey,zpb.md,zsb.md,λt m=>⟨(zt t m).1.md,(zt t m).2.md⟩,λl e=>⟨(zlo l e).1.md,(zlo l e).2.md⟩,λl e=>⟨(zhi l e).1.md,(zhi l e).2.md⟩,λH' tl' X' hn CT'=>?_⟩
  refine k1 H' tl' _ _ _ _ _ (λb o nb e=>X' _ _ (λz=>nb (by simp[z])) (s1 _ _ e)) (zkR T1 (s1 _ _ hc) X') (.inr ?_) (.inl ⟨?_,l,r,x,y,el,er,ex,ey,rfl,rfl,rfl,rfl,rfl⟩) CT'
  ·cases e:H tl' with
   |none=>rfl
   |some o=>rw[s1 _ _ e]at hn;cases hn
  ·unfold vf;rw[yF,wK,wK];exact hcn
 ·subst e3
  have hs0:0<(xB ws a b).length:=by omega
  have hs8:(xB ws a b).length<=8:=by omega
  refine Qi (λH'=>zj H3 H') (qW (xB ws a b)) (λQ' q=>?_) (λhsm H4 s4=>?_) (λhsm H4 s4=>?_)
  ·refine⟨_,rL,q1,rL,⟨_,SqL.of hq1'⟩,λDc hDc=>?_⟩
   refine qb (J:=Itl K q1) (n:=1) (js:=[7]) (g:=zO 0) (te:=_) (xs:=(xB ws a b).map V.int) (λi v G=>∃x,(xB ws a b)[i]?=some x/\v=.bl (decide (x=(xB ws a b).headD 0))) (λ_ _ _ _ _ h=>h) hDc (xS hq1') (xr (by rw[wf];omega)) ?_ ?_
   ·intro i x zs H4 Q'' hx hz s4 hk
    obtain⟨z1,rfl⟩:=Z9 hz
    rw[wg]at hx
    cases ew:(xB ws a b)[i]? with
    |none=>rw[ew]at hx;cases hx
    |some n =>
     rw[ew]at hx;cases hx
     dsimp only[zO]
     refine⟨rL,_,rL,_,rL,q1,_,_,_,rL,rL,.of (s4 _ _ hq1'),zev hs0,rL,hk _ _ (zj.refl _) ⟨n,ew,?_⟩⟩
     rw[show decide (V.int n=V.int ((xB ws a b).headD 0))=decide (n=(xB ws a b).headD 0) by rw[decide_eq_decide];exact⟨λz=>by injection z,λz=>by rw[z]⟩]
   ·intro ys H4 s4 hD4 hly hyR
    have eys:ys=((xB ws a b).map λx=>decide (x=(xB ws a b).headD 0)).map V.bl:=by
     rw[wz]
     refine yK λi=>?_
     rw[wg]
     cases ey:ys[i]? with
     |none =>
      have:ys.length<=i:=WP.mp ey
      rw[wT (by rw[hly,wf]at this;exact this)];rfl
     |some v =>
      obtain⟨x,e1,e2⟩:=hyR i v ey
      rw[e1,e2];rfl
    refine⟨Dc,(xB ws a b).map λx=>decide (x=(xB ws a b).headD 0),rfl,.of (by rw[<-eys];exact hD4),_,rfl,?_⟩
    have:((xB ws a b).map λx=>decide (x=(xB ws a b).headD 0)).all id=qW (xB ws a b):=by
     unfold qW;rw[List.all_map];rfl
    rw[this]
    exact q _ s4
  ·have S4:=s1.trans s4
   refine⟨_,rL,_,rL,_,rL,_,rL,c,tl,a,b,wv,pb,sb,tk,ws,trs,lo,hi,zX wh lo hi,rL,CT0.same S4,hwv.keeps (.of S4),hab,hbl,hl8,zt,zwl,T0.same S4,λH' seg ch tb' pm pw CT'=>?_⟩
   exact k1 H' tl _ _ _ _ _ (λb o nb e=>ch b o (λz=>nb (by rcases ww.mp z with z | z;(exact ww.mpr (.inl z));(exact wR _ (ww.mpr (.inl (ye.mp z)))))) (S4 _ _ e)) tb' (.inl rfl) (.inr ⟨hcn,hsm,seg,pm,pw,rfl,rfl,rfl,rfl,rfl⟩) CT'
  ·have S4:=s1.trans s4
   obtain⟨tp,f1,f2⟩:=F.tick
   refine⟨_,rL,_,rL,c,tb,dx,fs,tp,tk,t.1,t.2,rL,S4 _ _ hc,f1,S4 _ _ f2,S4 _ _ htb,ht2,zt0.1,zt0.2,ztk,λmr H5 s5 hmr=>?_⟩
   refine⟨zL1,λp hp=>⟨p,_,rL,zg,λd hd=>⟨rL,some d,zg,?_⟩⟩⟩
   have hdp:d≠p:=λz=>by subst z;rw[zg]at hd;cases hd
   have hd3:H5 d=none:=by rw[zF hdp]at hd;exact hd
   have eG:∀b,b≠p->b≠d->Qy p (upd (upd (upd H5 p (XO p CT none)) d (.xd [("moment",.ref mr)])) p (XO p CT (some d))) b=H5 b:=λb hb hb2=>by
    rw[qp hb,zF hb,zF hb2,zF hb]
   have SG:zj H5 (Qy p (upd (upd (upd H5 p (XO p CT none)) d (.xd [("moment",.ref mr)])) p (XO p CT (some d)))):=λb o eb=>by
    rw[eG b (zG eb hp) (zG eb hd3)];exact eb
   refine k2 _ d mr (S4.trans (s5.trans SG)) hcn hsm ?_ (SG _ _ hmr)
   rw[qp hdp,zF hdp,zg]
end
def Vi (H:Hp) (v:V):Option (Rat×Rat)->Prop
 |none=>v=.non
 |some t=>∃a p q,v=.ref a/\H a=some (.tup [.ref p,.ref q])/\zD H p t.1/\zD H q t.2
def Vi.keeps {H H':Hp}{v:V}{o:Option (Rat×Rat)} (h:Vi H v o) (e:zU H H'):Vi H' v o:=by
 cases o with
 |none=>exact h
 |some t=>obtain⟨a,p,q,h1,h2,h3,h4⟩:=h;exact⟨a,p,q,h1,e _ _ h2,e _ _ h3,e _ _ h4⟩
def ptT (pb sb:Int) (t l:Int×Int):Rat×Rat:=(Rat.divInt (xi l t) (pb*t.2),Rat.divInt l.2 sb)
def ziu (N:Nat):sel (λ_=>true) N=List.range N:=by
 induction N with
 |zero=>rfl
 |succ n ih=>rw[Zt,ih,List.range_succ,if_pos rfl]
section
variable {P:Program}{w:World}{K:Fg}{mg:Str->Option Value}{base:Heap}
inductive ziK (C:Addr) (vs:List V) (H:Hp) (Q:VK) (_e3:XK):Prop
 |mk:∀c v tb dx fs pb sb t o,(vs=[V.ref c,v,.ref tb])->(H c=some (.ins C dx fs))->(fs.lookup ("place_bottom":Str)=some (V.int pb))->(fs.lookup ("speed_bottom":Str)=some (V.int sb))->(vk H v o)->(H tb=some (.tup [.int t.1,.int t.2]))->(BdP 4400 t)->((∀l,o=some l->BdP 4400 l))->(pb≠0)->(sb≠0)->(t.2≠0)->(Bd 4400 pb)->(Bd 8900 sb)->(Bd 8900 (pb*t.2))->(∀v' H',zj H H'->Vi H' v' (o.map (ptT pb sb t))->Q v' H')->ziK C vs H Q _e3
theorem zg9:zH ["course","track","ticks","place"] ["course","track","ticks"] (zr qz):=scq
theorem zjV {C:Addr}(D:Df K mg "place_and_speed" qz ["course","track","ticks"] []) (TC:TCo K C) (cR:Cal P w K mg base "ratio" 2 ["top","bottom"] [] ql) (cSp:Cal P w K mg base "spot_at" 1 ["track","ticks"] [] Qf):Cal P w K mg base "place_and_speed" 3 ["course","track","ticks"] [] (ziK C):=by
 rcases r:D.calq (k:=2) zg9 with⟨c,v,tb,dx,fs,pb,sb,t,o,rfl,hc,e1,e2,hv,htb,zt,zo,p0,s0,t0,zpb,zsb,zpt,k⟩
 have hr1:xb 1 _:=hr.md
 refine⟨_,(zA (xh (zJ qH (pv 1) xj (zN _)) (zB (zK xj)) zS)
  (zA (psl (i:=3) zg9.nd (zI cR hr (zd (zI cSp hr1 (zd (pv 1) (zd (pv 2) ze))) (zd (zE zR (xm (pv 0) rfl) (pxt (pv 2))) ze))))
  (zB (zK (zT (zd (pv 3) (zd (zI cR hr (zd (pxt (pv 1)) (zd (xm (pv 0) rfl) ze))) ze))))))),?_⟩
 try dsimp only[xl,Cx.nox]
 cases o with
 |none =>
  obtain rfl:v=.non:=hv
  exact⟨_,rL,rL,_,rL,x5 (k _ _ (zj.refl _) rL)⟩
 |some l =>
  obtain⟨a,rfl,ha⟩:=hv
  refine⟨_,rL,rL,_,rL,xQ ?_⟩
  refine⟨_,rL,_,rL,a,tb,l,t,rL,ha,htb,zo l rL,zt,?_⟩
  refine⟨_,rL,c,C,dx,fs,_,rL,hc,TC.cls,TC.pb,e1,_,rL,tb,_,_,_,rL,rL,.of htb,rL,_,_,rL,rL,⟨zpb.md,zt.2.md⟩,_,_,rL,yi p0 t0,zpt,λr1 H1 s1 hr1'=>?_⟩
  dsimp only[zO]
  refine⟨_,rL,_,rL,a,_,_,_,rL,rL,.of (s1 _ _ ha),rL,_,rL,c,C,dx,fs,_,rL,s1 _ _ hc,TC.cls,TC.sb,e2,_,_,rL,s0,zsb,λr2 H2 s2 hr2'=>⟨zL2,λtp htp=>?_⟩⟩
  have s3:=zj.upd (o:=.tup [.ref r1,.ref r2]) htp
  exact k _ _ (s1.trans (s2.trans s3)) ⟨tp,r1,r2,rL,zg,s3 _ _ (s2 _ _ hr1'),s3 _ _ hr2'⟩
def blT (pb sb:Int) (t:Int×Int) (l:Int×Int) (wt:Int):Bl:=⟨(ptT pb sb t l).1,(ptT pb sb t l).2,wt⟩
inductive ziJ (C:Addr) (vs:List V) (H:Hp) (Q:VK) (_e3:XK):Prop
 |mk:∀c tl tb pb sb tk ws trs lo hi t,(vs=[V.ref c,.ref tb])->(CoT H C c tl pb sb tk ws trs lo hi)->(H tb=some (.tup [.int t.1,.int t.2]))->(BdP 4400 t)->(trs.length<=8)->(ws.length=trs.length)->((∀l∈trs,BdP 4400 l))->((∀l,lo=some l->BdP 4400 l))->((∀l,hi=some l->BdP 4400 l))->(pb≠0)->(sb≠0)->(t.2≠0)->(Bd 4400 pb)->(Bd 8900 sb)->(Bd 8900 (pb*t.2))->(∀p r wa us v1 v2 H',zj H H'->H' p=some (.tup [.ref r,.ref wa])->H' r=some (.tup us)->Z5 H' us ((trs.zip ws).map λz=>blT pb sb t z.1 z.2)->H' wa=some (.tup [v1,v2])->Vi H' v1 (lo.map (ptT pb sb t))->Vi H' v2 (hi.map (ptT pb sb t))->Q (.ref p) H')->ziJ C vs H Q _e3
theorem zbS:zH ["course","ticks","spots","row","walls"] ["course","ticks"] (zr QW):=scq
theorem zjU {C:Addr}(D:Df K mg "placed" QW ["course","ticks"] []) (T:TxQ K mg) (TC:TCo K C) (cPs:Cal P w K mg base "place_and_speed" 3 ["course","track","ticks"] [] (ziK C)):Cal P w K mg base "placed" 4 ["course","ticks"] [] (ziJ C):=by
 rcases r:D.calBq (k:=3) zbS with⟨c,tl,tb,pb,sb,tk,ws,trs,lo,hi,t,rfl,⟨dx,fs,tv,hc,F,elt,htl,hTv⟩,htb,zt,hl8,hwl,ztr,zlo,zhi,p0,s0,t0,zpb,zsb,zpt,k⟩
 obtain⟨wla,f3,f4⟩:=F.weights
 obtain⟨v1,f5,f6⟩:=F.low
 obtain⟨v2,f7,f8⟩:=F.high
 have htv:=hTv.1
 refine⟨_,(zM (Bx.mk (vt (i:=2) (NB:=["track"]) (FR:=["course","ticks"]) (js:=[0,1]) rfl rfl (λ_ _ h=>h) (.cons rfl rfl rfl ⟨_,rfl⟩ (.cons rfl rfl rfl ⟨_,rfl⟩ .nil)) rfl (by decide +kernel) rfl (by decide +kernel) zbS.nd rfl rfl (by rfl) (xN (xm (pv 0) rfl)) (by intro _ _ _;refine⟨?_,?_,?_⟩;(exact(pgl (i:=0) (show List.Nodup (["track","course","ticks"]:List Str) by decide +kernel)));(exact xP);(exact(zI cPs hr (zd (pv 1) (zd (pv 0) (zd (pv 2) ze))))))))
  (zM (Bx.mk (vt (i:=3) (NB:=["place","speed","weight"]) (FR:=[]) (js:=[]) rfl rfl (λ_ _ h=>by cases h) .nil rfl (by decide +kernel) rfl (by decide +kernel) zbS.nd rfl rfl (by rfl) (zfO (by rfl) T.nZip (zd (pv 2) (zd (xm (pv 0) rfl) ze))) (by intro _ _ _;refine⟨?_,?_,?_⟩;(exact(vS (K:=K) (n:=2) rfl rfl (zQ (vS (K:=K) (n:=2) rfl rfl (zQ (pgl (i:=0) (show List.Nodup (["place","speed","weight"]:List Str) by decide +kernel)) (zQ (pgl (i:=1) (show List.Nodup (["place","speed","weight"]:List Str) by decide +kernel)) xw))) (zQ (pgl (i:=2) (show List.Nodup (["place","speed","weight"]:List Str) by decide +kernel)) xw))));(exact xP);(exact(zT (zd (pv 0) (zd (pv 1) (zd (pv 2) ze))))))))
  (zM (Bx.mk (psl (i:=4) zbS.nd (zT (zd (zI cPs hr (zd (pv 0) (zd (xm (pv 0) rfl) (zd (pv 1) ze)))) (zd (zI cPs hr (zd (pv 0) (zd (xm (pv 0) rfl) (zd (pv 1) ze)))) ze)))))
  (Bx.mk (zB (zK (zT (zd (qh xK (by rfl) T.nTuple yB (zd (pv 3) ze)) (zd (pv 4) ze))))))))),?_⟩
 try dsimp only[xl,Cx.nox]
 refine⟨_,rL,c,C,dx,fs,_,rL,hc,TC.cls,TC.tracks,elt,tl,rL,⟨_,SqL.of htl⟩,λD1 hD1=>?_⟩
 refine qb (J:=Itl K tl) (n:=1) (js:=[0,1]) (g:=zO 0) (te:=_) (xs:=tv) (λi v G=>∃l,trs[i]?=some l/\Vi G v (some (ptT pb sb t l))) (λ_ _ _ _ e ⟨l,h1,h2⟩=>⟨l,h1,h2.keeps e⟩) hD1 (xS htl) (xr ∅) ?_ ?_
 ·intro i x zs H2 Q' hx hz s2 hk
  obtain⟨z1,rfl⟩:=Z9 hz
  obtain⟨l,el,hat⟩:=(hTv.keeps (.of s2)).2 i x hx
  dsimp only[zO]
  exact⟨rfl,_,rfl,_,rfl,_,rfl,c,x,tb,dx,fs,pb,sb,t,some l,rfl,s2 _ _ hc,F.pb,F.sb,hat,s2 _ _ htb,zt,λl' e=>by cases e;exact ztr l (wm el),p0,s0,t0,zpb,zsb,zpt,λv' H' s' h'=>hk _ _ s' ⟨l,el,h'⟩⟩
 intro ys G1 s1 hy1 hyl hyR
 dsimp only[zO]
 refine⟨_,rL,_,rL,c,C,dx,fs,_,rL,s1 _ _ hc,TC.cls,TC.weights,f3,false,false,D1,wla,rL,⟨_,SqL.of hy1⟩,⟨_,SqL.of (s1 _ _ f4)⟩,λD2 hD2=>?_⟩
 have hw1:=s1 _ _ f4
 refine zco (js:=[]) (J:=ze9 false false K D1 wla) (N:=ys.length) (n:=3) (xs:=ys) (ys:=ws.map V.int) (g:=Vj K 2 (qC (Vj K 2 (qC (zO 0) (qC (zO 1) Jy))) (qC (zO 2) Jy))) (tt:=λ_ H Q=>Q true H) (te:=za2 (xF (xy 0) (xF (xy 1) (xF (xy 2) Z0)))) (λ_=>true) (λi v G=>∀b,((trs.zip ws).map λz=>blT pb sb t z.1 z.2)[i]?=some b->zaj G v b) (λi v G G' e h b hb=>(h b hb).keeps e) hD2 (zf0 (k1:=false) (k2:=false) hy1 hw1 (by rw[wf];lia)) (xr ∅) ?_ ?_
 ·intro i Tt x y zs G A' B' hx hy hz S hT hA hB'
  rcases q:hyR i x hx with⟨l,el,a',p,q,rfl,g1,g2,g3⟩
  rw[wg]at hy
  cases ew:ws[i]? with
  |none=>rw[ew]at hy;cases hy
  |some n =>
   rw[ew]at hy;cases hy
   obtain⟨y1,y2,y3,rfl⟩:∃a b c,zs=[a,b,c]:=by
    match zs,hz with
    |[a,b,c],_=>exact⟨a,b,c,rfl⟩
   refine⟨Tt,_,rL,.of hT,rL,_,_,rL,a',_,rL,.of (S _ _ g1),rL,_,_,rL,_,_,rL,rL,_,_,rL,rL,rL,x5 ?_⟩
   refine⟨_,rL,_,rL,_,rL,zL3,λtp htp=>hA rL _ _ (zj.upd htp) λb eb=>?_⟩
   rw[wg,(uS.mpr ⟨el,ew⟩:(trs.zip ws)[i]?=some (l,n))]at eb
   cases eb
   exact⟨tp,p,q,rL,zg,zj.upd htp _ _ (S _ _ g2),zj.upd htp _ _ (S _ _ g3)⟩
 intro us G2 s2 hu hul huR
 rw[ziu]at hul huR
 have hul':us.length=ys.length:=by rw[hul,List.length_range]
 have hlz:((trs.zip ws).map λz=>blT pb sb t z.1 z.2).length=trs.length:=by rw[wf,uJ,hwl,Yb]
 have hRow:Z5 G2 us ((trs.zip ws).map λz=>blT pb sb t z.1 z.2):=⟨by lia,λi v e=>by
  have hi:i<us.length:=(wn.mp e).1
  obtain⟨b,eb⟩:∃b,((trs.zip ws).map λz=>blT pb sb t z.1 z.2)[i]?=some b:=⟨_,wk ∅⟩
  exact⟨b,eb,huR i i v (by rw[List.getElem?_range ∅]) e b eb⟩⟩
 have S2:=s1.trans s2
 dsimp only[zO]
 refine⟨_,rL,_,rL,c,C,dx,fs,_,rL,S2 _ _ hc,TC.cls,TC.low,f5,_,rL,c,v1,tb,dx,fs,pb,sb,t,lo,rL,S2 _ _ hc,F.pb,F.sb,f6.keeps (.of S2),S2 _ _ htb,zt,zlo,p0,s0,t0,zpb,zsb,zpt,λw1 G3 s3 hw3=>?_⟩
 have S3:=S2.trans s3
 refine⟨_,rL,_,rL,c,C,dx,fs,_,rL,S3 _ _ hc,TC.cls,TC.high,f7,_,rL,c,v2,tb,dx,fs,pb,sb,t,hi,rL,S3 _ _ hc,F.pb,F.sb,f8.keeps (.of S3),S3 _ _ htb,zt,zhi,p0,s0,t0,zpb,zsb,zpt,λw2 G4 s4 hw4=>⟨zL2,λwa hwa=>?_⟩⟩
 have s5:=zj.upd (o:=.tup [w1,w2]) hwa
 have hwa':upd G4 wa (.tup [w1,w2]) wa=some (.tup [w1,w2]):=zg
 generalize upd G4 wa (.tup [w1,w2])=G5 at s5 hwa' ⊢
 dsimp only[zO]
 have S25:=s3.trans (s4.trans s5)
 refine⟨_,rL,D2,us,rL,.inl ⟨.of (S25 _ _ hu),λr hr'=>?_⟩⟩
 have s6:=zj.upd (o:=.tup us) hr'
 have hr6:upd G5 r (.tup us) r=some (.tup us):=zg
 generalize upd G5 r (.tup us)=G6 at s6 hr6 ⊢
 refine⟨_,rL,zL2,λpp hpp=>?_⟩
 have s7:=zj.upd (o:=.tup [.ref r,.ref wa]) hpp
 have S57:=s6.trans s7
 exact k pp r wa us w1 w2 _ (S2.trans (S25.trans S57)) zg (s7 _ _ hr6) (hRow.keeps (.of (S25.trans S57))) (S57 _ _ hwa') (hw3.keeps (.of (s4.trans (s5.trans S57)))) (hw4.keeps (.of (s5.trans S57)))
end
structure SC where
 pb:Int
 sb:Int
 trs:List (Int×Int)
 lo:Option (Int×Int)
 hi:Option (Int×Int)
def RbS (ws:List Int) (g:Nat×Nat×Str) (s s':SC):Prop:=RbT ws g.1 g.2.1 (zX g.2.2 s.lo s.hi) s.pb s.sb s.trs s.lo s.hi s'.pb s'.sb s'.trs s'.lo s'.hi
inductive vn (ws:List Int):List (Nat×Nat×Str)->SC->SC->Prop where
 |nil (s:SC):vn ws [] s s
 |snoc {gs:List (Nat×Nat×Str)}{g:Nat×Nat×Str}{s0 s s':SC}(h:vn ws gs s0 s) (r:RbS ws g s s'):vn ws (gs++[g]) s0 s'
def refB (ws:List Int) (g:Nat×Nat×Str) (s:SC):Prop:=vf (zX g.2.2 s.lo s.hi) (xB ws g.1 g.2.1)=false/\qW (xB ws g.1 g.2.1)=false
structure BdS (n:Nat) (s:SC):Prop where
 pb:Bd n s.pb
 sb:Bd n s.sb
 p0:0<s.pb
 s0:0<s.sb
 tr:∀t∈s.trs,BdP n t
 lo:∀l,s.lo=some l->BdP n l
 hi:∀l,s.hi=some l->BdP n l
def zaC {l r:Int}(hl:1<=l) (hr:1<=r):0<mP l r:=by
 unfold mP
 have dp:=QA hl hr
 rw[yk _ ∅]
 have hd:dvP l r ∣ l+r:=yT ..
 obtain⟨q,hq⟩:=hd
 rw[hq,Int.mul_ediv_cancel_left _ ∅]
 rcases Int.lt_or_le 0 q with z | z
 ·exact z
 ·have:dvP l r*q<=0:=Int.mul_nonpos_of_nonneg_of_nonpos ∅ z
  lia
def BdP.sc {n:Nat}{t:Int×Int}{m:Int}(h:BdP n t) (hm:Bd 12 m):BdP (n+14) (scT m t):=⟨(h.1.mul hm).mono ∅,(h.2.mul hm).mono ∅⟩
def zd3 {l r:Int}{trs:List (Int×Int)}{a:Nat}{x y t:Int×Int}(h:t∈ZJ l r trs a x y):(∃u∈trs,t=scT (mP l r) u)\/t=(ahP l r*x.1+puP l r*y.1,ahP l r*x.2+puP l r*y.2)\/t=(baP l r*x.1-ahP l r*y.1,baP l r*x.2-ahP l r*y.2):=by
 unfold ZJ at h
 rcases WQ h with h | h
 ·rcases WQ h with h | h
  ·obtain⟨u,mu,rfl⟩:=wA.mp h;exact .inl ⟨u,mu,rfl⟩
  ·exact .inr (.inl h)
 ·exact .inr (.inr h)
def zdd {ws:List Int}{g:Nat×Nat×Str}{s s':SC}{n:Nat}(hw:∀x∈ws,1<=x/\x<=1000) (h:BdS n s) (r:RbS ws g s s') (hab:g.1<=g.2.1) (hb:g.2.1<s.trs.length):BdS (n+14) s'/\s'.trs.length=s.trs.length/\(s'.lo=none↔s.lo=none)/\(s'.hi=none↔s.hi=none):=by
 rcases r with⟨_,l,rr,x,y,el,er,ex,ey,e1,e2,e3,e4,e5⟩ | ⟨_,_,seg,pm,_,e1,e2,e3,e4,e5⟩
 ·have hl:=hw l (wm el)
  have hr:=hw rr (wm er)
  have dp:=QA hl.1 hr.1
  have bm:Bd 12 (mP l rr):=XX dp ∅ ∅
  have bp:Bd 12 (puP l rr):=XX dp ∅ ∅
  have bb:Bd 12 (baP l rr):=XX dp ∅ ∅
  have bh:Bd 12 (ahP l rr):=XX dp ∅ ∅
  have mp:=zaC hl.1 hr.1
  have zx:=h.tr x (wm ex)
  have zy:=h.tr y (wm ey)
  refine⟨⟨by rw[e1];exact(h.pb.mul bm).mono ∅,by rw[e2];exact(h.sb.mul bm).mono ∅,by rw[e1];exact W4 h.p0 mp,by rw[e2];exact W4 h.s0 mp,λt mt=>?_,λu eu=>?_,λu eu=>?_⟩,by rw[e3];unfold ZJ;simp,?_,?_⟩
  ·rw[e3]at mt
   rcases zd3 mt with⟨u,mu,rfl⟩ | rfl | rfl
   ·exact(h.tr u mu).sc bm
   ·exact⟨((bh.mul zx.1).add (bp.mul zy.1)).mono ∅,((bh.mul zx.2).add (bp.mul zy.2)).mono ∅⟩
   ·exact⟨((bb.mul zx.1).sub (bh.mul zy.1)).mono ∅,((bb.mul zx.2).sub (bh.mul zy.2)).mono ∅⟩
  ·rw[e4]at eu
   obtain⟨v,ev,rfl⟩:=wY.mp eu
   exact(h.lo v ev).sc bm
  ·rw[e5]at eu
   obtain⟨v,ev,rfl⟩:=wY.mp eu
   exact(h.hi v ev).sc bm
  ·rw[e4];simp
  ·rw[e5];simp
 ·have zw:∀l,zX g.2.2 s.lo s.hi=some l->BdP n l:=λl e=>by
   unfold zX at e
   split at e
   ·cases e
   ·split at e
    ·exact h.lo l e
    ·exact h.hi l e
  have mono:∀{t:Int×Int},BdP n t->BdP (n+14) t:=λz=>⟨z.1.mono ∅,z.2.mono ∅⟩
  have hseg:∀t∈seg,BdP (n+14) t:=λt mt=>by
   obtain⟨u,mu,rfl⟩:=wA.mp (pm.mem_iff.mp mt)
   have zu:=h.tr u (yR (yS mu))
   unfold v4
   cases ew:zX g.2.2 s.lo s.hi with
   |none=>exact mono zu
   |some v =>
    have zv:=zw v ew
    have b2:Bd 3 2:=show (2:Int).natAbs<2^3 by decide
    exact⟨((b2.mul zv.1).sub zu.1).mono ∅,((b2.mul zv.2).sub zu.2).mono ∅⟩
  refine⟨⟨by rw[e1];exact h.pb.mono ∅,by rw[e2];exact h.sb.mono ∅,by rw[e1];exact h.p0,by rw[e2];exact h.s0,λt mt=>?_,λu eu=>mono (h.lo u (by rw[<-e4];exact eu)),λu eu=>mono (h.hi u (by rw[<-e5];exact eu))⟩,?_,by rw[e4],by rw[e5]⟩
  ·rw[e3]at mt
   rcases wM.mp mt with mt | mt
   ·rcases wM.mp mt with mt | mt
    ·exact mono (h.tr t (yS mt))
    ·exact hseg t mt
   ·exact mono (h.tr t (yR mt))
  ·have el:seg.length=g.2.1+1-g.1:=by
    rw[pm.length_eq,wf]
    unfold qZ
    rw[show ((g.2.1:Int)+1)=((g.2.1+1:Nat):Int) by lia,HT.sIx_nat,HT.sIx_nat,yd,yf]
    lia
   rw[e3,wC,wC,yd,yf,el]
   lia
def V5 {α γ:Type} [DecidableEq α] {ss:List α}{f:Nat->Nat->Option γ}:∀{n:Nat}{g:γ},g∈rlG ss f n->∃i,i<n/\f (stG ss i) i=some g
 |0,_,m=>by cases m
 |n+1,g,m=>by
  unfold rlG at m
  split at m
  ·rcases wM.mp m with m | m
   ·obtain⟨i,h1,h2⟩:=V5 m;exact⟨i,by lia,h2⟩
   ·exact⟨n,by lia,uQ.mp m⟩
  ·obtain⟨i,h1,h2⟩:=V5 m;exact⟨i,by lia,h2⟩
def zhI {trs:List (Int×Int)}{lo hi:Option (Int×Int)}{t:Int×Int}{g:Nat×Nat×Str}(h:g∈grP trs lo hi t):g.1<=g.2.1/\g.2.1<trs.length:=by
 unfold grP at h
 obtain⟨i,hi',e⟩:=V5 h
 unfold fP at e
 dsimp only at e
 split at e
 ·cases e;exact⟨xU _ _,hi'⟩
 ·cases e
section
variable {P:Program}{w:World}{K:Fg}{mg:Str->Option Value}{base:Heap}
def S0 (bs:List Bl) (lo hi:Option (Rat×Rat)):SC:=⟨pbO bs lo hi,sbO bs lo hi,trO bs lo hi,lo.map (trB (pbO bs lo hi) (sbO bs lo hi)),hi.map (trB (pbO bs lo hi) (sbO bs lo hi))⟩
def gsO (bs:List Bl) (lo hi:Option (Rat×Rat)) (t:Int×Int):List (Nat×Nat×Str):=grP (S0 bs lo hi).trs (S0 bs lo hi).lo (S0 bs lo hi).hi t
inductive zgk (C:Addr) (CS:Addr) (CT:Addr) (Tb:Addr) (vs:List V) (H:Hp) (Q:VK) (E:XK):Prop
 |mk:∀r wa bs lo hi,(vs=[V.ref r,.ref wa])->(In H r wa bs lo hi)->(x0 Tb laQ laP H)->((∀b∈bs,1<=b.wt/\b.wt<=1000))->(BdS 4200 (S0 bs lo hi))->((∀H',zj H H'->vY (chO bs lo hi)=none->Q .non H'))->((∀t S p m r' wa' us v1 v2 H',vY (chO bs lo hi)=some t->xC lo hi≠some (qr (tkO bs lo hi) t)->vn (bs.map Bl.wt) (gsO bs lo hi t) (S0 bs lo hi) S->StT Tb H H'->x0 Tb laQ laP H'->H' p=some (.tup [.ref m,.ref r',.ref wa'])->zD H' m (qr (tkO bs lo hi) t)->H' r'=some (.tup us)->Z5 H' us ((S.trs.zip (bs.map Bl.wt)).map λz=>blT S.pb S.sb t z.1 z.2)->H' wa'=some (.tup [v1,v2])->Vi H' v1 (S.lo.map (ptT S.pb S.sb t))->Vi H' v2 (S.hi.map (ptT S.pb S.sb t))->Q (.ref p) H'))->((∀t p dx H',zj H H'->vY (chO bs lo hi)=some t->xC lo hi=some (qr (tkO bs lo hi) t)->H' dx=some (.xd [("moment",.ref p)])->zD H' p (qr (tkO bs lo hi) t)->E (.ref CS) (some dx) H'))->((∀t S pre g suf p dx H',vY (chO bs lo hi)=some t->xC lo hi≠some (qr (tkO bs lo hi) t)->gsO bs lo hi t=pre++g::suf->vn (bs.map Bl.wt) pre (S0 bs lo hi) S->refB (bs.map Bl.wt) g S->StT Tb H H'->x0 Tb laQ laP H'->H' dx=some (.xd [("moment",.ref p)])->zD H' p (qr (tkO bs lo hi) t)->E (.ref CT) (some dx) H'))->zgk C CS CT Tb vs H Q E
theorem zfX (trs:List (Int×Int)) (lo hi:Option (Int×Int)) (t:Int×Int):(grP trs lo hi t).length<=trs.length:=by
 unfold grP
 have:∀n,(rlG (trs.map λl=>xi l t) (fP trs lo hi t) n).length<=n:=λn=>by
  induction n with
  |zero=>exact wo _
  |succ n ih =>
   unfold rlG
   split
   ·rw[wC]
    have:((fP trs lo hi t (stG (trs.map λl=>xi l t) n) n).toList).length<=1:=by cases fP trs lo hi t (stG (trs.map λl=>xi l t) n) n <;> simp
    lia
   ·lia
 exact this _
theorem VE:zH ["row","walls","course","ticks","group","row_then","walls_then"] ["row","walls"] (zr QT):=scq
theorem zjC {C CS CT Tb fi:Addr}{fdi:FuncData}(D:Df K mg "behind" QT ["row","walls"] []) (M:Mk K C fi) (Fi:qP P w K mg base CX0 4 fi fdi ["self","row","walls"] (zgl C)) (hmC:mg "Course" = some (.ref C)) (Bi:qO K fdi ["self","row","walls"] [])
  (cFT:vG P w K mg base "first_ticks" 5 ["course","walls"] [] (zgm C CS)) (cMo:Cal P w K mg base "moment_of" 3 ["course","ticks"] [] (zcT C)) (cGr:Cal P w K mg base "groups_at" 3 ["course","ticks"] [] (zgo C)) (cRb:vG P w K mg base "rebound" 5 ["course","group","ticks"] [] (ziL C CT Tb)) (cPl:Cal P w K mg base "placed" 4 ["course","ticks"] [] (ziJ C)) :
  vG P w K mg base "behind" 6 ["row","walls"] [] (zgk C CS CT Tb):=by
 rcases r:D.cal1q (k:=5) VE with⟨r,wa,bs,lo,hi,rfl,I,T0,hwt,hbd,k1,k2,k3,k4⟩
 obtain⟨us,hrr,hB⟩:=I.row
 rcases q:I.walls with⟨v1,v2,hw,h1,h2⟩
 have hr3:xb 3 _:=hr.md
 have hr4:xb 4 _:=hr.md
 refine⟨_,(zA (psl (i:=2) VE.nd (zbH M Fi hr (by rfl) hmC Bi .nil zd4 (zd (pv 0) (zd (pv 1) ze))))
  (zA (psl (i:=3) VE.nd (zbG cFT hr Xn (zd (pv 2) (zd (pv 1) ze))))
  (zA (xh (zJ qH (pv 3) xj (zN _)) (zB (zK xj)) zS)
  (zA (vg PassesOwn.leaving rfl (xN (zI cGr hr3 (zd (pv 2) (zd (pv 3) ze)))) (pgl (i:=4) VE.nd) (zB (x9 (zbG cRb hr Xn (zd (pv 2) (zd (pv 4) (zd (pv 3) ze)))))))
  (zA (qi (zI cPl hr4 (zd (pv 2) (zd (pv 3) ze))) (qJ rfl (zQ (pgl (i:=5) VE.nd) (zQ (pgl (i:=6) VE.nd) xw))))
  (zB (zK (zT (zd (zI cMo hr3 (zd (pv 2) (zd (pv 3) ze))) (zd (pv 5) (zd (pv 6) ze))))))))))),?_⟩
 try dsimp only[xl,Cx.nox]
 refine⟨_,rL,_,rL,λc dx hc hdx ne=>?_⟩
 have SS:zj H (upd (upd H dx (.own c)) c (.ins C dx [])):=(zj.upd hdx).trans (zj.upd (by rw[zF ne.symm];exact hc))
 refine⟨c,dx,r,wa,us,bs,v1,v2,lo,hi,rL,zg,SS _ _ hrr,hB.keeps (.of SS),SS _ _ hw,h1.keeps (.of SS),h2.keeps (.of SS),I.len,I.sz,λH1 X1 hcn=>⟨rL,?_⟩⟩
 have hco:=hcn.co
 have S1:zj H H1:=λb o e=>X1 b o (zG e hc) (SS b o e)
 dsimp only[zO]
 refine⟨_,rfl,_,rfl,c,_,_,_,_,_,_,_,wa,v1,v2,lo,hi,rfl,hco,by rw[wf];exact I.len,I.bd,I.tk,S1 _ _ hw,h1.keeps (.of S1),h2.keeps (.of S1),I.lo,I.hi,?_,?_,?_⟩
 ·intro H2 s2 e
  dsimp only[zO]
  exact⟨_,rL,rL,_,rL,x5 (k1 H2 (S1.trans s2) e)⟩
 ·intro v t H2 s2 e n hv
  obtain⟨ta,rfl,hta⟩:=hv
  dsimp only[zO]
  refine⟨_,rL,rL,_,rL,xQ ?_⟩
  have so:=Jb I.bd e
  have zt:BdP 4400 t:=⟨so.2.1.md,so.2.2.md⟩
  have S2:=S1.trans s2
  have hco2:=hco.same s2
  have ztr:∀l∈(S0 bs lo hi).trs,BdP 4400 l:=λl m=>⟨(hbd.tr l m).1.md,(hbd.tr l m).2.md⟩
  have zlo:∀l,(S0 bs lo hi).lo=some l->BdP 4400 l:=λl m=>⟨(hbd.lo l m).1.md,(hbd.lo l m).2.md⟩
  have zhi:∀l,(S0 bs lo hi).hi=some l->BdP 4400 l:=λl m=>⟨(hbd.hi l m).1.md,(hbd.hi l m).2.md⟩
  have hln:(S0 bs lo hi).trs.length<=8:=by show (trO bs lo hi).length<=8;unfold trO;rw[wf];exact I.len
  nofun
  refine⟨_,rL,_,rL,c,ta,_,_,_,_,_,_,_,t,rL,hco2,hln,hta,zt,ztr,zlo,zhi,λGl gv H4 s4 hGn hG hgr=>?_⟩
  rcases q:hcn with⟨dx1,fs1,tl0,hc1,F1,et1,hn1⟩
  have htlH:H tl0=none:=SS.free hn1
  have S4:=S2.trans s4
  rcases q:F1.tracks with⟨tlx,tv1,ext,htl1,hTv1⟩
  rw[et1]at ext;cases ext
  have CT1:CoT H1 C c tl0 (S0 bs lo hi).pb (S0 bs lo hi).sb (tkO bs lo hi) (bs.map Bl.wt) (S0 bs lo hi).trs (S0 bs lo hi).lo (S0 bs lo hi).hi:=⟨dx1,fs1,tv1,hc1,F1,et1,htl1,hTv1⟩
  have CT4:=CT1.same (s2.trans s4)
  have T4:=T0.same S4
  obtain⟨ps4,hTb4,_⟩:=id T4
  have hc4:=s4 _ _ (s2 _ _ hc1)
  have htl4:=s4 _ _ (s2 _ _ htl1)
  have hGlS:Gl∉[Tb,c,tl0]:=λz=>by
   rcases ww.mp z with rfl | z
   ·rw[hG]at hTb4;cases hTb4
   ·rcases ww.mp z with rfl | z
    ·rw[hG]at hc4;cases hc4
    ·have:Gl=tl0:=↥z
     rw[this,s2 _ _ htl1]at hGn;cases hGn
  have htaS:ta∉[Tb,c,tl0]:=λz=>by
   have h:=s4 _ _ hta
   rcases ww.mp z with rfl | z
   ·rw[h]at hTb4;cases hTb4
   ·rcases ww.mp z with rfl | z
    ·rw[h]at hc4;cases hc4
    ·have:ta=tl0:=↥z
     rw[this,htl4]at h;cases h
  have hgl:gv.length=(gsO bs lo hi t).length:=hgr.1
  have hg8:(gsO bs lo hi t).length<=8:=wV (zfX ..) hln
  have hwl:(bs.map Bl.wt).length=(S0 bs lo hi).trs.length:=by show _=(trO bs lo hi).length;unfold trO;rw[wf,wf]
  have hw1:∀x∈bs.map Bl.wt,1<=x/\x<=1000:=λx mx=>by obtain⟨b,mb,rfl⟩:=wA.mp mx;exact hwt b mb
  have st_of:∀{G:Hp},(∀b o,H4 b=some o->b∉[Tb,c,tl0]->G b=some o)->StT Tb H G:=λ{G} hch b o eb nb=>hch b o (S4 _ _ eb) λz=>by
   rcases ww.mp z with z | z
   ·exact nb z
   ·rcases ww.mp z with rfl | z
    ·rw[hc]at eb;cases eb
    ·have:b=tl0:=↥z
     rw[this,htlH]at eb;cases eb
  refine⟨Gl,rL,⟨_,SqL.of hG⟩,?_⟩
  refine QC (xs:=gv) (λi σ G=>∃z4 S tl',σ=[Sr r,Sr wa,Sr c,Sr ta,z4,none,none]/\vn (bs.map Bl.wt) ((gsO bs lo hi t).take i) (S0 bs lo hi) S/\CoT G C c tl' S.pb S.sb (tkO bs lo hi) (bs.map Bl.wt) S.trs S.lo S.hi/\x0 Tb laQ laP G/\(∀b o,H4 b=some o->b∉[Tb,c,tl0]->G b=some o)/\(tl'=tl0\/H4 tl'=none)/\BdS (4200+14*i) S/\S.trs.length=(S0 bs lo hi).trs.length)
   ⟨_,S0 bs lo hi,tl0,rfl,.nil _,CT4,T4,λ_ _ eb _=>eb,.inl rfl,hbd,rfl⟩ (λi σ G hi' ⟨_,_,_,_,_,_,_,hch,_⟩=>SqL.of (hch _ _ hG hGlS)) ?_ ?_
  ·rintro i xg σ G hxg hQq;rcases q:hQq with⟨z4,S,tl',rfl,hch,CTh,TT,hkp,htl',hBd,hlen⟩
   rcases q:hgr.2 i xg hxg with⟨g,eg,ga,rfl,hga⟩
   have hi':i<gv.length:=(wn.mp hxg).1
   have hgm:=zhI (wm eg)
   have hgaS:ga∉[Tb,c,tl0]:=λz=>by
    rcases ww.mp z with rfl | z
    ·rw[hga]at hTb4;cases hTb4
    ·rcases ww.mp z with rfl | z
     ·rw[hga]at hc4;cases hc4
     ·have:ga=tl0:=↥z
      rw[this,htl4]at hga;cases hga
   have hbl:g.2.1<S.trs.length:=by rw[hlen];exact hgm.2
   have bnd:4200+14*i<=4600:=by lia
   have etk:(gsO bs lo hi t).take (i+1)=(gsO bs lo hi t).take i++[g]:=by
    have eg':(gsO bs lo hi t)[i]?=some g:=eg
    rw[yW,eg'];rfl
   dsimp only[zO]
   refine⟨_,rfl,_,rfl,_,rfl,c,tl',ga,ta,g.1,g.2.1,g.2.2,t,S.pb,S.sb,tkO bs lo hi,bs.map Bl.wt,S.trs,S.lo,S.hi,rfl,CTh,hkp _ _ hga hgaS,hkp _ _ (s4 _ _ hta) htaS,by lia,zt,I.tk,hgm.1,hbl,by lia,by rw[hwl,hlen],hw1,hBd.pb.mono bnd,hBd.sb.mono bnd,λt' m=>⟨(hBd.tr t' m).1.mono bnd,(hBd.tr t' m).2.mono bnd⟩,λl m=>⟨(hBd.lo l m).1.mono bnd,(hBd.lo l m).2.mono bnd⟩,λl m=>⟨(hBd.hi l m).1.mono bnd,(hBd.hi l m).2.mono bnd⟩,TT,?_,?_⟩
   ·intro G' tl2 pb2 sb2 trs2 lo2 hi2 ch tt hor rb ct
    have rb':RbS (bs.map Bl.wt) g S ⟨pb2,sb2,trs2,lo2,hi2⟩:=rb
    obtain⟨b1,b2,_⟩:=zdd hw1 hBd rb' hgm.1 hbl
    refine⟨_,⟨pb2,sb2,trs2,lo2,hi2⟩,tl2,rfl,by rw[etk];exact hch.snoc rb',ct,tt,λb o eb nb=>ch b o (λz=>?_) (hkp b o eb nb),?_,by rw[show 4200+14*(i+1)=4200+14*i+14 by lia];exact b1,b2.trans hlen⟩
    ·rcases ww.mp z with rfl | z
     ·exact nb (wU ..)
     ·rcases ww.mp z with rfl | z
      ·rcases htl' with z2 | z2
       ·exact nb (by rw[z2];simp)
       ·rw[eb]at z2;cases z2
      ·have:b=c:=↥z
       exact nb (by rw[this];simp)
    ·rcases hor with rfl | hn
     ·exact htl'
     ·by_cases z0:tl2=tl0
      ·exact .inl z0
      ·refine .inr ?_
       cases ez:H4 tl2 with
       |none=>rfl
       |some o =>
        have nb:tl2∉[Tb,c,tl0]:=λz=>by
         rcases ww.mp z with rfl | z
         ·obtain⟨ps,gT,_⟩:=TT;rw[gT]at hn;cases hn
         ·rcases ww.mp z with rfl | z
          ·obtain⟨_,_,_,gc,_⟩:=CTh;rw[gc]at hn;cases hn
          ·exact z0 ↥z
        rw[hkp _ _ ez nb]at hn;cases hn
   ·intro G' dxe pe ss hp1 hs1 hxd hrt
    refine⟨CT,rL,k4 t S ((gsO bs lo hi t).take i) g ((gsO bs lo hi t).drop (i+1)) pe dxe G' e n ?_ hch ⟨hp1,hs1⟩ (λb o eb nb=>ss _ _ (st_of hkp b o eb nb)) (TT.same ss) hxd hrt⟩
    have hi2:i<(gsO bs lo hi t).length:=by lia
    have eg':(gsO bs lo hi t)[i]?=some g:=eg
    obtain⟨_,eg2⟩:=wn.mp eg'
    rw[<-eg2,<-yg hi2,List.take_append_drop]
  ·rintro σ G hQq;rcases q:hQq with⟨z4,S,tl',rfl,hch,CTh,TT,hkp,htl',hBd,hlen⟩
   have bnd:4200+14*gv.length<=4312:=by lia
   have bn4:4200+14*gv.length<=4400:=by lia
   rcases q:id CTh with⟨dx5,fs5,tv5,hc5,F5,et5,htl5,hTv5⟩
   obtain⟨tp,etp,htp⟩:=F5.tick
   have hta5:=hkp _ _ (s4 _ _ hta) htaS
   refine⟨_,rfl,_,rfl,c,tl',ta,S.pb,S.sb,tkO bs lo hi,bs.map Bl.wt,S.trs,S.lo,S.hi,t,rfl,CTh,hta5,zt,by lia,by rw[hwl,hlen],λt' m=>⟨(hBd.tr t' m).1.mono bn4,(hBd.tr t' m).2.mono bn4⟩,λl m=>⟨(hBd.lo l m).1.mono bn4,(hBd.lo l m).2.mono bn4⟩,λl m=>⟨(hBd.hi l m).1.mono bn4,(hBd.hi l m).2.mono bn4⟩,by have:=hBd.p0;lia,by have:=hBd.s0;lia,by lia,hBd.pb.mono bn4,hBd.sb.mono ∅,(((hBd.pb.mono bnd).mul zt.2).md),λp r' wa' us' w1 w2 G5 s5 hp hr' hRow hwa' hp1 hp2=>?_⟩
   refine⟨p,_,rL,.of hp,rL,_,_,rL,_,_,rL,rL,?_⟩
   dsimp only[zO]
   refine⟨_,rfl,_,rfl,c,ta,dx5,fs5,tp,_,t.1,t.2,rfl,s5 _ _ hc5,etp,s5 _ _ htp,s5 _ _ hta5,by lia,zt.1,zt.2,I.tk,λm G6 s6 hm=>⟨_,rfl,_,rfl,zL3,λpp hpp=>?_⟩⟩
   have s7:=zj.upd (o:=.tup [.ref m,.ref r',.ref wa']) hpp
   have S57:=s6.trans s7
   refine k2 t S pp m r' wa' us' w1 w2 _ e n ?_ (λb o eb nb=>S57 _ _ (s5 _ _ (st_of hkp b o eb nb))) ((TT.same s5).same S57) zg (s7 _ _ hm) (S57 _ _ hr') (hRow.keeps (.of S57)) (S57 _ _ hwa') (hp1.keeps (.of S57)) (hp2.keeps (.of S57))
   rw[hgl,Wo]at hch
   exact hch
 ·intro t p d H2 s2 e e' hd hp
  exact⟨CS,rL,k3 t p d H2 (S1.trans s2) e e' hd hp⟩
end
end KQ
namespace KT
open PySem L2 KM KK KQ
def bl (b:zC):KQ.Bl:=⟨b.pl,b.sp,b.wt⟩
def zkk {H:Hp}{us:List V}{bs:List zC}(h:zP H us bs):Z5 H us (bs.map bl):=by
 refine⟨by rw[h.length,wf],λi v e=>?_⟩
 obtain⟨a,p,q,b,eb,rfl,h1,h2,h3⟩:=h.get e
 exact⟨bl b,by rw[wg,eb];rfl,a,p,q,rfl,h1,h2,h3⟩
def zkU {H:Hp}{v:V}{l:Wl}(h:xa H v l):qY H v l:=by
 cases l with
 |none=>exact h
 |some u=>obtain⟨x,y⟩:=u;obtain⟨a,p,q,rfl,h1,h2,h3⟩:=h;exact⟨a,rfl,p,q,[],h1,h2,h3⟩
def tl (bs:List zC) (lo hi:Wl):List (Rat×Rat):=xR lo++bs.map (λb=>(b.pl,b.sp))++xR hi
def zbD (pb sb:Int) (l:Wl):JN (l.map (trB pb sb))=(xR l).map (trB pb sb):=by cases l <;> rfl
def zdh (bs:List zC) (lo hi:Wl):chO (bs.map bl) lo hi=(tl bs lo hi).map (trB (pbO (bs.map bl) lo hi) (sbO (bs.map bl) lo hi)):=by
 unfold chO chn trO tl
 rw[zbD,zbD,yO,yO,wz,wz];rfl
def Jg (bs:List zC) (lo hi:Wl):trO (bs.map bl) lo hi=bs.map λb=>trB (pbO (bs.map bl) lo hi) (sbO (bs.map bl) lo hi) (b.pl,b.sp):=by
 unfold trO;rw[wz];rfl
def XV {bs:List zC}{lo hi:Wl}{t:Rat×Rat}:t∈ths (bs.map bl) lo hi↔t∈tl bs lo hi:=by
 unfold ths tl
 rw[wz]
 simp only[wM]
 show t∈bs.map (λb=>(b.pl,b.sp))\/_↔_
 constructor
 ·rintro (h | h | h)
  ·exact .inl (.inr h)
  ·exact .inl (.inl h)
  ·exact .inr h
 ·rintro ((h | h) | h)
  ·exact .inr (.inl h)
  ·exact .inl h
  ·exact .inr (.inr h)
def Jl (tk:Rat) (u:Option (Int×Int)) (f:Option Rat):Prop:=(u=none/\f=none)\/∃t m,u=some t/\f=some m/\0<t.2/\qr tk t=m
def JA {a b:Int}:((a:Rat)<(b:Rat))↔a<b:=Rat.intCast_lt_intCast
def zeK {pb sb:Int}(hp:0<pb) (hs:0<sb){l r:Rat×Rat}(d1:(l.1.den:Int) ∣ pb) (d2:(l.2.den:Int) ∣ sb) (d3:(r.1.den:Int) ∣ pb) (d4:(r.2.den:Int) ∣ sb){u:Option (Int×Int)}{f:Option Rat}(h:Jl (Rat.divInt sb pb) u f) :
  Jl (Rat.divInt sb pb) (qf u (trB pb sb l,trB pb sb r)) (xD f (l,r)):=by
 have e1:(((trB pb sb l).1:Int):Rat)=l.1*pb:=byq d1
 have e2:(((trB pb sb l).2:Int):Rat)=l.2*sb:=byq d2
 have e3:(((trB pb sb r).1:Int):Rat)=r.1*pb:=byq d3
 have e4:(((trB pb sb r).2:Int):Rat)=r.2*sb:=byq d4
 have hp':(0:Rat)<(pb:Rat):=by exact_mod_cast hp
 have hs':(0:Rat)<(sb:Rat):=by exact_mod_cast hs
 have hlt:(trB pb sb r).2<(trB pb sb l).2↔r.2<l.2:=by
  rw[<-JA,e2,e4,Rat.mul_lt_mul_right hs']
 generalize trB pb sb l=L at *
 generalize trB pb sb r=R at *
 unfold qf xD
 by_cases c:r.2<l.2
 ·have c':=hlt.mpr c
  rw[if_pos (show (L,R).2.2<(L,R).1.2 from c'),if_pos (show (l,r).2.2<(l,r).1.2 from c)]
  have pos:0<L.2-R.2:=by lia
  have hn:qr (Rat.divInt sb pb) (R.1-L.1,L.2-R.2)=mo l r:=by
   unfold qr
   rw[zfs _ (by show L.2-R.2≠0;lia)]
   show ((R.1-L.1:Int):Rat)*_/((L.2-R.2:Int):Rat)=_
   rw[Rat.intCast_sub,Rat.intCast_sub,e1,e2,e3,e4,yH]
   exact zdT hp' hs' c
  rcases h with⟨rfl,rfl⟩ | ⟨t,m,rfl,rfl,tp,hm⟩
  ·exact .inr ⟨(R.1-L.1,L.2-R.2),mo l r,rL,rL,pos,hn⟩
  ·have tkp:(0:Rat)<Rat.divInt sb pb:=by
    rw[yH,Wk hp'];grind
   have cmp:(R.1-L.1)*t.2<t.1*(L.2-R.2)↔mo l r<m:=by
    rw[<-hn,<-hm]
    unfold qr
    rw[zfs _ (show (R.1-L.1,L.2-R.2).2≠0 by show L.2-R.2≠0;lia),zfs _ (show t.2≠0 by lia)]
    rw[zfi (by exact_mod_cast pos) (by exact_mod_cast tp) tkp]
    rw[<-JA]
    show _↔((R.1-L.1:Int):Rat)*(t.2:Rat)<(t.1:Rat)*((L.2-R.2:Int):Rat)
    rw[yX,yX]
   show Jl _ (if(R.1-L.1)*t.2<t.1*(L.2-R.2)then some (R.1-L.1,L.2-R.2)else some t) (if mo l r<m then some (mo l r)else some m)
   by_cases c2:mo l r<m
   ·rw[if_pos (cmp.mpr c2),if_pos c2]
    exact .inr ⟨_,_,rL,rL,pos,hn⟩
   ·rw[if_neg (λz=>c2 (cmp.mp z)),if_neg c2]
    exact .inr ⟨_,_,rL,rL,tp,hm⟩
 ·rw[if_neg (show ¬(L,R).2.2<(L,R).1.2 from λz=>c (hlt.mp z)),if_neg (show ¬(l,r).2.2<(l,r).1.2 from c)]
  exact h
def Jx {pb sb:Int}(hp:0<pb) (hs:0<sb):∀{L:List ((Rat×Rat)×(Rat×Rat))}{u:Option (Int×Int)}{f:Option Rat},(∀p∈L,((p.1.1.den:Int) ∣ pb/\(p.1.2.den:Int) ∣ sb)/\(p.2.1.den:Int) ∣ pb/\(p.2.2.den:Int) ∣ sb)->Jl (Rat.divInt sb pb) u f →
  Jl (Rat.divInt sb pb) ((L.map λp=>(trB pb sb p.1,trB pb sb p.2)).foldl qf u) (L.foldl xD f)
 |[],u,f,_,h=>h
 |p::L,u,f,hL,h=>by
  obtain⟨⟨a,b⟩,c,d⟩:=hL p wU
  show Jl _ ((L.map λp=>(trB pb sb p.1,trB pb sb p.2)).foldl qf (qf u (trB pb sb p.1,trB pb sb p.2))) (L.foldl xD (xD f p))
  exact Jx hp hs (λq mq=>hL q (wR _ mq)) (zeK hp hs a b c d h)
def zeA {pb sb:Int}(hp:0<pb) (hs:0<sb){ch:List (Rat×Rat)} (hd:∀t∈ch,(t.1.den:Int) ∣ pb/\(t.2.den:Int) ∣ sb):Jl (Rat.divInt sb pb) (vY (ch.map (trB pb sb))) (vj ch):=by
 unfold vY vj
 have e:(ch.map (trB pb sb)).zip (ch.map (trB pb sb)).tail=(ch.zip ch.tail).map λp=>(trB pb sb p.1,trB pb sb p.2):=by
  rw[<-List.map_tail,List.zip_map];rfl
 rw[e]
 refine Jx hp hs (λp mp=>?_) (.inl ⟨rL,rL⟩)
 have z:=uk mp
 exact⟨hd _ z.1,hd _ (Wt z.2)⟩
def zbw {n:Nat}{qs:List Rat}(h:∀q∈qs,Bd n (q.den:Int)):0<VX qs/\Bd (1+n*qs.length) (VX qs)/\∀q∈qs,(q.den:Int) ∣ VX qs:=by
 obtain⟨a1,a2,_,a4⟩:=QG (n:=n) (ks:=qs.map λq=>(q.den:Int)) (c:=1) (m:=1) (by decide) (show (1:Int).natAbs<2^1 by decide) (λk hk=>by
  obtain⟨q,hq,rfl⟩:=wA.mp hk
  exact⟨by have:=q.den_pos;lia,h q hq⟩)
 rw[wf]at a2
 exact⟨a1,a2,λq hq=>a4 _ (wA.mpr ⟨q,hq,rL⟩)⟩
def Jp {n:Nat}{b d:Int}(hb:0<b) (hd:0<d) (h:Bd n b):Bd n (b.fdiv d):=by
 rw[yk _ ∅]
 exact h.of_le (by have:=uU d (a:=b) ∅;have:=Ye (a:=b) (b:=d) ∅ ∅;lia)
def zcX {bs:List KQ.Bl}{lo hi:Wl}(h:bs.length<=8):(ths bs lo hi).length<=10:=by
 unfold ths
 have e:∀w:Wl,(xR w).length<=1:=λw=>by cases w <;> simp[xR]
 have:=e lo
 have:=e hi
 simp only[wC,wf];lia
structure Bot (bs:List zC) (lo hi:Wl):Prop where
 p0:0<pbO (bs.map bl) lo hi
 s0:0<sbO (bs.map bl) lo hi
 pz:Bd 3401 (pbO (bs.map bl) lo hi)
 sz:Bd 1001 (sbO (bs.map bl) lo hi)
 dv:∀t∈tl bs lo hi,(t.1.den:Int) ∣ pbO (bs.map bl) lo hi/\(t.2.den:Int) ∣ sbO (bs.map bl) lo hi
def TZ (bs:List zC) (lo hi:Wl):Prop:=∀t∈tl bs lo hi,Sz 340 t.1/\Sz 100 t.2
def bot {bs:List zC}{lo hi:Wl}(h:bs.length<=8) (hz:TZ bs lo hi):Bot bs lo hi:=by
 have hl:=zcX (bs:=bs.map bl) (lo:=lo) (hi:=hi) (by rw[wf];exact h)
 obtain⟨a1,a2,a3⟩:=zbw (n:=340) (qs:=(ths (bs.map bl) lo hi).map (·.1)) (λq hq=>by obtain⟨t,ht,rfl⟩:=wA.mp hq;exact(hz t (XV.mp ht)).1.2)
 obtain⟨b1,b2,b3⟩:=zbw (n:=100) (qs:=(ths (bs.map bl) lo hi).map (·.2)) (λq hq=>by obtain⟨t,ht,rfl⟩:=wA.mp hq;exact(hz t (XV.mp ht)).2.2)
 rw[wf]at a2 b2
 exact⟨a1,b1,a2.mono ∅,b2.mono ∅,λt ht=>⟨a3 _ (wA.mpr ⟨t,XV.mpr ht,rL⟩),b3 _ (wA.mpr ⟨t,XV.mpr ht,rL⟩)⟩⟩
def zgO {H:Hp}{r wa:Addr}{us:List V}{v1 v2:V}{bs:List zC}{lo hi:Wl}(hr:H r=some (.tup us)) (hR:zP H us bs) (hw:H wa=some (.tup [v1,v2])) (h1:xa H v1 lo) (h2:xa H v2 hi) (hl:bs.length<=8) (hz:TZ bs lo hi):In H r wa (bs.map bl) lo hi:=by
 have B:=bot hl hz
 refine⟨⟨us,hr,zkk hR⟩,⟨v1,v2,hw,zkU h1,zkU h2⟩,by rw[wf];exact hl,λt ht=>⟨(hz t (XV.mp ht)).1.md,(hz t (XV.mp ht)).2.md⟩,λt ht=>?_,?_⟩
 ·rw[zdh]at ht
  obtain⟨s,hs,rfl⟩:=wA.mp ht
  have z:=hz s hs
  exact⟨(z.1.1.mul (Jp B.p0 (KM.den_pos _) B.pz)).md,(z.2.1.mul (Jp B.s0 (KM.den_pos _) B.sz)).md⟩
 ·exact(Sz.divInt (by have:=B.p0;lia) (B.sz.mono (by decide:1001<=3401)) B.pz).md
def zbZ {bs:List zC}{lo hi:Wl}(B:Bot bs lo hi):Jl (tkO (bs.map bl) lo hi) (vY (chO (bs.map bl) lo hi)) (vj (tl bs lo hi)):=by
 rw[zdh];exact zeA B.p0 B.s0 B.dv
def Zd (l r:Rat×Rat):Prop:=l.1<r.1\/(l.1=r.1/\l.2<=r.2)
structure Ord (bs:List zC) (lo hi:Wl):Prop where
 pw:(tl bs lo hi).Pairwise Zd
 lt:∀x y x' y',lo=some (x,y)->hi=some (x',y')->x<x'
def zh3 {l r:Rat×Rat}(h:Zd l r) (c:r.2<l.2):0<mo l r:=by
 unfold mo
 rcases h with h | ⟨_,h⟩
 ·rw[Wk (by grind)];grind
 ·grind
def Jw:∀{L:List ((Rat×Rat)×(Rat×Rat))}{f:Option Rat},(∀p∈L,p.2.2<p.1.2->0<mo p.1 p.2)->(∀u,f=some u->0<u)->∀u,L.foldl xD f=some u->0<u
 |[],_,_,h=>h
 |p::L,f,hL,h=>by
  refine Jw (L:=L) (f:=xD f p) (λq m=>hL q (wR _ m)) λu hu=>?_
  unfold xD at hu
  split at hu
  ·have:=hL p wU ‹_›
   split at hu
   ·cases hu;exact this
   ·split at hu
    ·cases hu;exact this
    ·cases hu;exact h _ rfl
  ·exact h u hu
def XT {bs:List zC}{lo hi:Wl}(O:Ord bs lo hi){m:Rat}(h:vj (tl bs lo hi)=some m):0<m:=by
 refine Jw (λp mp c=>?_) (λu e=>by cases e) m h
 obtain⟨i,e1,e2⟩:=JG mp
 obtain⟨h1,f1⟩:=wn.mp e1
 obtain⟨h2,f2⟩:=wn.mp e2
 have:=List.pairwise_iff_getElem.mp O.pw i (i+1) h1 h2 ∅
 rw[f1,f2]at this
 exact zh3 this c
def Ord.lo {bs:List zC}{lo hi:Wl}(O:Ord bs lo hi){x y:Rat}(e:lo=some (x,y)){b:zC}(m:b∈bs):Zd (x,y) (b.pl,b.sp):=by
 subst e
 have:=O.pw
 unfold tl at this
 rw[wZ,wZ]at this
 exact this.1.2.2 _ (by simp[xR]) _ (wA.mpr ⟨b,m,rfl⟩)
def Ord.hi {bs:List zC}{lo hi:Wl}(O:Ord bs lo hi){x y:Rat}(e:hi=some (x,y)){b:zC}(m:b∈bs):Zd (b.pl,b.sp) (x,y):=by
 subst e
 have:=O.pw
 unfold tl at this
 rw[wZ]at this
 exact this.2.2 _ (wq _ (wA.mpr ⟨b,m,rfl⟩)) _ (by simp[xR])
def xp (m:Rat) (b:zC):zC:=⟨b.pl+b.sp*m,b.sp,b.wt⟩
def zL (m:Rat) (l:Wl):Wl:=match l with | none=>none | some (x,y)=>some (x+y*m,y)
def Qe (m:Rat) (bs:List zC):List Rat:=bs.map λb=>b.pl+b.sp*m
def Vd {pb sb:Int}{t:Int×Int}{x y m:Rat}(hp:0<pb) (ht:0<t.2) (d1:(x.den:Int) ∣ pb) (d2:(y.den:Int) ∣ sb) (hm:qr (Rat.divInt sb pb) t=m):((xi (trB pb sb (x,y)) t:Int):Rat)=(x+y*m)*((pb:Rat)*(t.2:Rat)):=by
 have e1:(((trB pb sb (x,y)).1:Int):Rat)=x*pb:=byq d1
 have e2:(((trB pb sb (x,y)).2:Int):Rat)=y*sb:=byq d2
 have hp':(pb:Rat)≠0:=by
  have:(0:Rat)<(pb:Rat):=by exact_mod_cast hp
  grind
 have ht':(t.2:Rat)≠0:=by
  have:(0:Rat)<(t.2:Rat):=by exact_mod_cast ht
  grind
 unfold xi
 rw[Rat.intCast_add,yX,yX,e1,e2,<-hm]
 unfold qr
 rw[zfs _ ∅,yH]
 grind
def zb5 {pb sb:Int}{t:Int×Int}{x y x' y' m:Rat}(hp:0<pb) (ht:0<t.2) (d1:(x.den:Int) ∣ pb) (d2:(y.den:Int) ∣ sb) (d3:(x'.den:Int) ∣ pb) (d4:(y'.den:Int) ∣ sb) (hm:qr (Rat.divInt sb pb) t=m):xi (trB pb sb (x,y)) t=xi (trB pb sb (x',y')) t↔x+y*m=x'+y'*m:=by
 have k1:=Vd hp ht d1 d2 hm
 have k2:=Vd hp ht d3 d4 hm
 have hp':(0:Rat)<(pb:Rat):=by exact_mod_cast hp
 have ht':(0:Rat)<(t.2:Rat):=by exact_mod_cast ht
 have hpt:(pb:Rat)*(t.2:Rat)≠0:=by
  have:=Rat.mul_pos hp' ht'
  grind
 constructor
 ·intro h
  rw[h]at k1
  have:(x+y*m)*((pb:Rat)*(t.2:Rat))=(x'+y'*m)*((pb:Rat)*(t.2:Rat)):=by rw[<-k1,<-k2]
  grind
 ·intro h
  rw[h,<-k2]at k1
  exact_mod_cast k1
def zhd {pb sb:Int}{x y x' y':Rat}(hs:0<sb) (d2:(y.den:Int) ∣ sb) (d4:(y'.den:Int) ∣ sb):(trB pb sb (x,y)).2=(trB pb sb (x',y')).2↔y=y':=by
 have e1:(((trB pb sb (x,y)).2:Int):Rat)=y*sb:=byq d2
 have e2:(((trB pb sb (x',y')).2:Int):Rat)=y'*sb:=byq d4
 have hs':(sb:Rat)≠0:=by
  have:(0:Rat)<(sb:Rat):=by exact_mod_cast hs
  grind
 constructor
 ·intro h
  rw[h,e2]at e1
  grind
 ·intro h
  have:(((trB pb sb (x,y)).2:Int):Rat)=(((trB pb sb (x',y')).2:Int):Rat):=by rw[e1,e2,h]
  exact_mod_cast this
def atW (l:Wl) (k:Rat):Bool:=match l with
 |none=>false
 |some (x,_)=>decide (x=k)
def qk (lo hi:Wl) (k:Rat):Str:=if atW lo k=true then "low" else if atW hi k=true then "high" else ""
def vH (cs:List zC) (lo hi:Wl) (a b:Nat):Bool:=match cs[a]?,cs[b]? with
 |some ca,some cb=>if atW lo ca.pl=true then(match lo with | some (_,y)=>decide (ca.sp<y) | none=>false)else if atW hi ca.pl=true then(match hi with | some (_,y)=>decide (y<cb.sp) | none=>false)else false
 |_,_=>false
def wsp (l:Wl) (f:Rat->Bool):Bool:=match l with
 |some (_,y)=>f y
 |none=>false
def Qh {cs:List zC}{lo hi:Wl}{a b:Nat}{ca cb:zC}(ea:cs[a]?=some ca) (eb:cs[b]?=some cb):vH cs lo hi a b=if atW lo ca.pl=true then wsp lo (λy=>decide (ca.sp<y))else if atW hi ca.pl=true then wsp hi (λy=>decide (y<cb.sp))else false:=by
 unfold vH
 rw[ea,eb];rfl
def fL (cs:List zC) (lo hi:Wl) (a b:Nat):Option (Nat×Nat×Str):=if a<b\/vH cs lo hi a b=true then some (a,b,qk lo hi (((cs.map zC.pl)[a]?).getD 0))else none
def grL (cs:List zC) (lo hi:Wl):List (Nat×Nat×Str):=rlG (cs.map zC.pl) (fL cs lo hi) cs.length
def QR {α:Type} [DecidableEq α] {ss:List α}:∀{i:Nat},i<ss.length->∀j,stG ss i<=j->j<=i->ss[j]?=ss[i]?
 |0,_,j,_,h2=>by rw[show j=0 by lia]
 |i+1,hi,j,h1,h2=>by
  by_cases hb:brk ss i=true
  ·have e:stG ss (i+1)=i+1:=if_pos hb
   rw[show j=i+1 by lia]
  ·have e:stG ss (i+1)=stG ss i:=if_neg hb
   rw[e]at h1
   have hn:ss[i+1]?=ss[i]?:=by
    have:brk ss i=false:=↥hb
    unfold brk at this
    rw[Bool.or_eq_false_iff]at this
    have:=of_decide_eq_false this.2
    exact Classical.byContradiction λz=>this z
   rcases Nat.lt_or_ge i j with h | h
   ·rw[show j=i+1 by lia]
   ·rw[QR ∅ j h1 h,hn]
def J3 {α β:Type} [DecidableEq α] [DecidableEq β] {ss:List α}{ts:List β}:∀{n:Nat},(∀i,i<n->brk ss i=brk ts i)->stG ss n=stG ts n
 |0,_=>rfl
 |n+1,h=>by
  have ih:=J3 (n:=n) λi hi=>h i ∅
  show (if brk ss n=true then n+1 else stG ss n)=(if brk ts n=true then n+1 else stG ts n)
  rw[h n ∅,ih]
def QQ {α β γ:Type} [DecidableEq α] [DecidableEq β] {ss:List α}{ts:List β}{f g:Nat->Nat->Option γ}:∀{n:Nat},(∀i,i<n->brk ss i=brk ts i)->(∀i,i<n->brk ts i=true->f (stG ts i) i=g (stG ts i) i)->rlG ss f n=rlG ts g n
 |0,_,_=>rfl
 |n+1,h,k=>by
  have ih:=QQ (n:=n) (f:=f) (g:=g) (λi hi=>h i (by omega)) (λi hi=>k i (by omega))
  have es:=J3 (ss:=ss) (ts:=ts) (n:=n) λi hi=>h i (by omega)
  show (if brk ss n=true then rlG ss f n++(f (stG ss n) n).toList else rlG ss f n)=(if brk ts n=true then rlG ts g n++(g (stG ts n) n).toList else rlG ts g n)
  rw[h n (by omega),ih,es]
  by_cases c:brk ts n=true
  ·rw[if_pos c,if_pos c,k n (by omega) c]
  ·rw[if_neg c,if_neg c]
def zae {bs:List zC}{lo hi:Wl}{l:Wl}(B:Bot bs lo hi){t:Int×Int}{m:Rat}(ht:0<t.2) (hm:qr (tkO (bs.map bl) lo hi) t=m) (hl:∀u,l=some u->u∈tl bs lo hi){b:zC}(mb:b∈bs) :
  atS (l.map (trB (pbO (bs.map bl) lo hi) (sbO (bs.map bl) lo hi))) t (xi (trB (pbO (bs.map bl) lo hi) (sbO (bs.map bl) lo hi) (b.pl,b.sp)) t)=atW (zL m l) (b.pl+b.sp*m):=by
 cases l with
 |none=>rfl
 |some u =>
  obtain⟨x,y⟩:=u
  have d:=B.dv _ (hl _ rfl)
  have d':=B.dv (b.pl,b.sp) (by unfold tl;exact wH _ (wq _ (wA.mpr ⟨b,mb,rfl⟩)))
  show decide (_=xi (trB _ _ (x,y)) t)=decide (x+y*m=b.pl+b.sp*m)
  rw[yr,wK,wK,zb5 B.p0 ht d'.1 d'.2 d.1 d.2 hm]
  exact⟨λh=>h.symm,λh=>h.symm⟩
def zdk {trs:List (Int×Int)}{a:Nat}{u t:Int×Int}(e:trs[a]?=some t):(0<cwN trs (some u) a a)↔t.2≠u.2:=by
 show (0<(((trs.drop a).take (a+1-a)).filter λt=>decide (t.2≠u.2)).length)↔_
 obtain⟨ha,rfl⟩:=wn.mp e
 rw[show a+1-a=1 by lia,yg ha,WF,List.take_zero]
 by_cases c:trs[a].2≠u.2
 ·rw[u9 ↥c];simp[c]
 ·rw[List.filter_cons_of_neg ↥c];simp at c;simp[c]
def zgM {bs:List zC}{lo hi:Wl}(B:Bot bs lo hi) (O:Ord bs lo hi){t:Int×Int}{m:Rat}(ht:0<t.2) (hm:qr (tkO (bs.map bl) lo hi) t=m) (pm:0<m) :
  grP (trO (bs.map bl) lo hi) (lo.map (trB (pbO (bs.map bl) lo hi) (sbO (bs.map bl) lo hi))) (hi.map (trB (pbO (bs.map bl) lo hi) (sbO (bs.map bl) lo hi))) t=grL (bs.map (xp m)) (zL m lo) (zL m hi):=by
 have ek:(bs.map (xp m)).map zC.pl=Qe m bs:=by rw[wz];rfl
 have esp:(trO (bs.map bl) lo hi).map (λl=>xi l t)=bs.map λb=>xi (trB (pbO (bs.map bl) lo hi) (sbO (bs.map bl) lo hi) (b.pl,b.sp)) t:=by rw[Jg,wz];rfl
 have dB:∀b∈bs,(b.pl.den:Int) ∣ pbO (bs.map bl) lo hi/\(b.sp.den:Int) ∣ sbO (bs.map bl) lo hi:=λb mb=>B.dv (b.pl,b.sp) (by unfold tl;exact wH _ (wq _ (wA.mpr ⟨b,mb,rfl⟩)))
 have wl:∀u,lo=some u->u∈tl bs lo hi:=λu e=>by unfold tl;rw[e];simp[xR]
 have wh:∀u,hi=some u->u∈tl bs lo hi:=λu e=>by unfold tl;rw[e];simp[xR]
 unfold grP grL
 rw[ek,esp,show (trO (bs.map bl) lo hi).length=bs.length by rw[Jg,wf],wf]
 have hbrk:∀i,i<bs.length->brk (bs.map λb=>xi (trB (pbO (bs.map bl) lo hi) (sbO (bs.map bl) lo hi) (b.pl,b.sp)) t) i=brk (Qe m bs) i:=λi hil=>by
  unfold brk Qe
  rw[wf,wf,wg,wg,wg,wg]
  by_cases h1:i+1=bs.length
  ·rw[wE h1];rfl
  ·obtain⟨b,eb⟩:∃b,bs[i]?=some b:=⟨_,wk hil⟩
   obtain⟨c,ec⟩:∃b,bs[i+1]?=some b:=⟨_,wk ∅⟩
   have db:=dB b (wm eb)
   have dc:=dB c (wm ec)
   rw[eb,ec,wQ h1,W3,W3,yr,wK,wK]
   show some _≠some _↔some _≠some _
   rw[ne_eq,ne_eq,Option.some.injEq,Option.some.injEq,zb5 B.p0 ht dc.1 dc.2 db.1 db.2 hm]
 refine QQ hbrk λi hil _=>?_
 have hst:=xU (Qe m bs) i
 obtain⟨b,eb⟩:∃b,bs[i]?=some b:=⟨_,wk hil⟩
 obtain⟨a,ea⟩:∃b,bs[stG (Qe m bs) i]?=some b:=⟨_,wk ∅⟩
 have hab:a.pl+a.sp*m=b.pl+b.sp*m:=by
  have:=QR (ss:=Qe m bs) (i:=i) (by unfold Qe;rw[wf];exact hil) (stG (Qe m bs) i) (wo _) hst
  unfold Qe at this
  rw[wg,wg]at this
  unfold Qe at ea
  rw[ea,eb]at this
  simpa using this
 have mb:=wm eb
 have ma:=wm ea
 generalize stG (Qe m bs) i=j at *
 have eside:xT (lo.map (trB (pbO (bs.map bl) lo hi) (sbO (bs.map bl) lo hi))) (hi.map (trB (pbO (bs.map bl) lo hi) (sbO (bs.map bl) lo hi))) t (xi (trB (pbO (bs.map bl) lo hi) (sbO (bs.map bl) lo hi) (b.pl,b.sp)) t)=qk (zL m lo) (zL m hi) (a.pl+a.sp*m):=by
  unfold xT qk
  rw[zae B ht hm wl mb,zae B ht hm wh mb,hab]
 have e1:((List.map (λl=>xi l t) (trO (bs.map bl) lo hi))[i]?).getD 0=xi (trB (pbO (bs.map bl) lo hi) (sbO (bs.map bl) lo hi) (b.pl,b.sp)) t:=by
  rw[esp,wg,eb];rfl
 have e2:(((bs.map (xp m)).map zC.pl)[j]?).getD 0=a.pl+a.sp*m:=by
  rw[ek];unfold Qe;rw[wg,ea];rfl
 unfold fP fL
 nofun
 rw[e1,e2,eside]
 have hiff:(j<i\/0<cwN (trO (bs.map bl) lo hi) (zX (qk (zL m lo) (zL m hi) (a.pl+a.sp*m)) (lo.map (trB (pbO (bs.map bl) lo hi) (sbO (bs.map bl) lo hi))) (hi.map (trB (pbO (bs.map bl) lo hi) (sbO (bs.map bl) lo hi)))) j i)↔(j<i\/vH (bs.map (xp m)) (zL m lo) (zL m hi) j i=true):=by
  rcases Nat.lt_or_ge j i with h | h
  ·exact⟨λ_=>.inl h,λ_=>.inl h⟩
  ·have hji:j=i:=by lia
   subst hji
   obtain rfl:a=b:=by rw[ea]at eb;injection eb with eb
   have etr:(trO (bs.map bl) lo hi)[j]?=some (trB (pbO (bs.map bl) lo hi) (sbO (bs.map bl) lo hi) (a.pl,a.sp)):=by rw[Jg,wg,ea];rfl
   have eg:vH (bs.map (xp m)) (zL m lo) (zL m hi) j j=(if atW (zL m lo) (a.pl+a.sp*m)=true then(match zL m lo with | some (_,y)=>decide (a.sp<y) | none=>false)else if atW (zL m hi) (a.pl+a.sp*m)=true then(match zL m hi with | some (_,y)=>decide (y<a.sp) | none=>false)else false):=by
    unfold vH
    rw[wg,ea];rfl
   rw[eg]
   refine or_congr Iff.rfl ?_
   unfold qk
   by_cases c1:atW (zL m lo) (a.pl+a.sp*m)=true
   ·rw[if_pos c1,if_pos c1]
    show 0<cwN _ (zX "low" _ _) j j↔_
    rw[show zX "low" (lo.map (trB (pbO (bs.map bl) lo hi) (sbO (bs.map bl) lo hi))) (hi.map (trB (pbO (bs.map bl) lo hi) (sbO (bs.map bl) lo hi)))=lo.map (trB (pbO (bs.map bl) lo hi) (sbO (bs.map bl) lo hi))from by unfold zX;rw[if_neg (by decide),if_pos rfl]]
    cases lo with
    |none=>cases c1
    |some u =>
     obtain⟨x,y⟩:=u
     have hk:x+y*m=a.pl+a.sp*m:=wF c1
     have d:=B.dv _ (wl _ rfl)
     show 0<cwN _ (some (trB _ _ (x,y))) j j↔decide (a.sp<y)=true
     rw[zdk etr,wK,ne_eq,zhd B.s0 (dB a ma).2 d.2]
     have lx:=O.lo rfl ma
     constructor
     ·intro hne
      rcases Classical.em (a.sp<y)with z | z
      ·exact z
      ·have hgt:y<a.sp:=by grind
       have:=uO hgt pm
       rcases lx with l | ⟨l,_⟩
       ·have l:x<a.pl:=l
        grind
       ·have l:x=a.pl:=l
        grind
     ·intro h;grind
   ·rw[if_neg c1,if_neg c1]
    by_cases c2:atW (zL m hi) (a.pl+a.sp*m)=true
    ·rw[if_pos c2,if_pos c2]
     rw[show zX "high" (lo.map (trB (pbO (bs.map bl) lo hi) (sbO (bs.map bl) lo hi))) (hi.map (trB (pbO (bs.map bl) lo hi) (sbO (bs.map bl) lo hi)))=hi.map (trB (pbO (bs.map bl) lo hi) (sbO (bs.map bl) lo hi))from by unfold zX;rw[if_neg (by decide),if_neg (by decide)]]
     cases hi with
     |none=>cases c2
     |some u =>
      obtain⟨x,y⟩:=u
      have hk:x+y*m=a.pl+a.sp*m:=wF c2
      have d:=B.dv _ (wh _ rfl)
      show 0<cwN _ (some (trB _ _ (x,y))) j j↔decide (y<a.sp)=true
      rw[zdk etr,wK,ne_eq,zhd B.s0 (dB a ma).2 d.2]
      have lx:=O.hi rfl ma
      constructor
      ·intro hne
       rcases Classical.em (y<a.sp)with z | z
       ·exact z
       ·have hgt:a.sp<y:=by grind
        have:=uO hgt pm
        rcases lx with l | ⟨l,_⟩
        ·have l:a.pl<x:=l
         grind
        ·have l:a.pl=x:=l
         grind
      ·intro h;grind
    ·rw[if_neg c2,if_neg c2]
     show 0<cwN _ (zX "" _ _) j j↔_
     rw[show zX "" (lo.map (trB (pbO (bs.map bl) lo hi) (sbO (bs.map bl) lo hi))) (hi.map (trB (pbO (bs.map bl) lo hi) (sbO (bs.map bl) lo hi)))=none from by unfold zX;rw[if_pos rfl]]
     show 0<0↔false=true
     simp
 by_cases c:j<i\/vH (bs.map (xp m)) (zL m lo) (zL m hi) j i=true
 ·rw[if_pos (hiff.mpr c),if_pos c]
 ·rw[if_neg (λz=>c (hiff.mp z)),if_neg c]
def zew {bs:List zC}{lo hi:Wl}(O:Ord bs lo hi){m:Rat}(pm:0<m):xC lo hi=some m↔∃x y x' y',lo=some (x,y)/\hi=some (x',y')/\x+y*m=x'+y'*m:=by
 cases lo with
 |none=>exact⟨λh=>(by cases h),λ⟨_,_,_,_,e,_⟩=>(by cases e)⟩
 |some u =>
  cases hi with
  |none=>exact⟨λh=>(by cases h),λ⟨_,_,_,_,_,e,_⟩=>(by cases e)⟩
  |some v =>
   obtain⟨x,y⟩:=u
   obtain⟨x',y'⟩:=v
   have lt:=O.lt x y x' y' rfl rfl
   show (if y'<y then some ((x'-x)/(y-y'))else none)=some m↔_
   constructor
   ·intro h
    split at h
    ·injection h with h
     have hd:y-y'≠0:=by grind
     refine⟨x,y,x',y',rL,rL,?_⟩
     have:m*(y-y')=x'-x:=by rw[<-h];grind
     grind
    ·cases h
   ·rintro ⟨_,_,_,_,e1,e2,h⟩
    cases e1;cases e2
    have hy:y'<y:=by
     rcases Classical.em (y'<y)with z | z
     ·exact z
     ·have:y<=y':=by grind
      have:=ut this (uM pm)
      grind
    rw[if_pos hy]
    have hd:y-y'≠0:=by grind
    have:x'-x=m*(y-y'):=by grind
    rw[this]
    congr 1
    grind
open KQ (xR xC SC RbS RbT vn ptT scT mP puP baP ahP dvP ZJ v4 vf qW xB zX xi trB qr tkO S0)
def zc4 (xs ys:List Rat):Prop:=ys.Perm xs/\ys.Pairwise (·<=·)
def zeJ {xs ys zs:List Rat}(h:zc4 xs ys) (k:zc4 xs zs):ys=zs :=
 (h.1.trans k.1.symm).eq_of_pairwise (λa b _ _ h1 h2=>Rat.le_antisymm h1 h2) h.2 k.2
def zg3 (wv:Option Rat) (v:Rat):Rat:=match wv with
 |none=>v
 |some z=>2*z-v
def twR (w0 w1 s0 s1:Rat):Rat:=2*(w0*s0+w1*s1)/(w0+w1)
def v8 (ws:List Int) (vs:List Rat) (wv:Option Rat) (ss:List Rat):Prop :=
 (wv=none/\∃(w0 w1:Int) (s0 s1:Rat),ws=[w0,w1]/\vs=[s0,s1]/\ss=[twR w0 w1 s0 s1-s0,twR w0 w1 s0 s1-s1]) ∨
 (¬(wv=none/\ws.length=2)/\qW ws=true/\zc4 (vs.map (zg3 wv)) ss)
def dq {a b:Int}(hb:b≠0):Rat.divInt a b=(a:Rat)/(b:Rat):=yH a b
def ic0 {a:Int}(h:a≠0):(a:Rat)≠0:=λz=>h (by exact_mod_cast z)
def zkr {pb sb m:Int}{t l:Int×Int}(hm:m≠0):ptT (pb*m) (sb*m) t (scT m l)=ptT pb sb t l:=by
 unfold ptT scT
 have e:xi (l.1*m,l.2*m) t=xi l t*m:=by unfold xi;dsimp only;grind
 rw[e,show pb*m*t.2=pb*t.2*m by grind,Rat.divInt_mul_right hm,Rat.divInt_mul_right hm]
def zfW {pb sb:Int}{t l w:Int×Int}(p0:pb*t.2≠0) (s0:sb≠0):ptT pb sb t (v4 (some w) l)=(2*(ptT pb sb t w).1-(ptT pb sb t l).1,2*(ptT pb sb t w).2-(ptT pb sb t l).2):=by
 unfold ptT v4
 nofun
 have e:xi (2*w.1-l.1,2*w.2-l.2) t=2*xi w t-xi l t:=by unfold xi;dsimp only;grind
 rw[e,dq p0,dq p0,dq p0,dq s0,dq s0,dq s0]
 push_cast
 exact Wv (by simp only;grind) (by simp only;grind)
def zhE {l r:Int}(hl:1<=l) (hr:1<=r):mP l r*dvP l r=l+r/\puP l r*dvP l r=2*r/\baP l r*dvP l r=2*l/\ahP l r*dvP l r=l-r:=by
 have dp:=KQ.QA hl hr
 have d1:dvP l r ∣ l+r:=yT ..
 have d2:dvP l r ∣ 2*l:=WU ..
 have d3:dvP l r ∣ 2*r:=by have:=Int.dvd_sub (Int.dvd_mul_of_dvd_right (b:=2) d1) d2;rw[show 2*(l+r)-2*l=2*r by lia]at this;exact this
 have d4:dvP l r ∣ l-r:=by have:=Int.dvd_sub d2 d1;rw[show 2*l-(l+r)=l-r by lia]at this;exact this
 have key:∀{x:Int},dvP l r ∣ x->x.fdiv (dvP l r)*dvP l r=x:=λ{x} h=>by
  rw[yk _ ∅];exact WB h
 exact⟨key d1,key d3,key d2,key d4⟩
def zfJ {l r pb sb:Int}{t x y:Int×Int}(hl:1<=l) (hr:1<=r) (p0:pb*t.2≠0) (s0:sb≠0) (ep:(ptT pb sb t x).1=(ptT pb sb t y).1) :
  ptT (pb*mP l r) (sb*mP l r) t (ahP l r*x.1+puP l r*y.1,ahP l r*x.2+puP l r*y.2)=((ptT pb sb t x).1,twR l r (ptT pb sb t x).2 (ptT pb sb t y).2-(ptT pb sb t x).2) ∧
  ptT (pb*mP l r) (sb*mP l r) t (baP l r*x.1-ahP l r*y.1,baP l r*x.2-ahP l r*y.2)=((ptT pb sb t y).1,twR l r (ptT pb sb t x).2 (ptT pb sb t y).2-(ptT pb sb t y).2):=by
 obtain⟨em,eu,eb,ea⟩:=zhE hl hr
 have dp:=KQ.QA hl hr
 have mp:=KQ.zaC hl hr
 generalize mP l r=m at *
 generalize puP l r=u at *
 generalize baP l r=b at *
 generalize ahP l r=a at *
 generalize dvP l r=d at *
 have hm:(m:Rat)≠0:=ic0 ∅
 have hd:(d:Rat)≠0:=ic0 ∅
 have hP:=ic0 p0
 have hS:=ic0 s0
 have hlr:(l:Rat)+(r:Rat)≠0:=by have:=ic0 (a:=l+r) ∅;push_cast at this;exact this
 have em':(m:Rat)*d=l+r:=by exact_mod_cast congrArg (λz:Int=>(z:Rat)) em
 have eu':(u:Rat)*d=2*r:=by exact_mod_cast congrArg (λz:Int=>(z:Rat)) eu
 have eb':(b:Rat)*d=2*l:=by exact_mod_cast congrArg (λz:Int=>(z:Rat)) eb
 have ea':(a:Rat)*d=l-r:=by exact_mod_cast congrArg (λz:Int=>(z:Rat)) ea
 have q0:pb*m*t.2≠0:=by rw[show pb*m*t.2=pb*t.2*m by grind];exact yi p0 ∅
 have q1:sb*m≠0:=yi s0 ∅
 unfold ptT at ep ⊢
 unfold twR
 dsimp only at ep ⊢
 rw[dq p0,dq p0]at ep
 rw[dq q0,dq q0,dq q1,dq q1,dq p0,dq p0,dq s0,dq s0]
 have e1:xi (a*x.1+u*y.1,a*x.2+u*y.2) t=a*xi x t+u*xi y t:=by unfold xi;dsimp only;grind
 have e2:xi (b*x.1-a*y.1,b*x.2-a*y.2) t=b*xi x t-a*xi y t:=by unfold xi;dsimp only;grind
 rw[e1,e2,show pb*m*t.2=pb*t.2*m by grind]
 generalize xi x t=X at *
 generalize xi y t=Y at *
 generalize pb*t.2=Pq at *
 push_cast
 have eX:(X:Rat)=Y:=by
  have:=congrArg (· * (Pq:Rat)) ep
  simp only[Rat.div_mul_cancel hP]at this
  exact this
 rw[eX]
 refine⟨Wv ?_ ?_,Wv ?_ ?_⟩ <;> dsimp only
 ·grind
 ·grind
 ·grind
 ·grind
def zbW {α:Type}:∀{T:List α}{a:Nat}{u v:α},a+1<T.length->(T.set a u).set (a+1) v=T.take a++[u,v]++T.drop (a+2)
 |x::y::T,0,u,v,_=>by simp
 |[x],0,u,v,h=>by simp at h
 |[],a,u,v,h=>by simp at h
 |x::T,a+1,u,v,h=>by
  have:=zbW (T:=T) (a:=a) (u:=u) (v:=v) ↥h
  simp only[List.set_cons_succ,WF,List.drop_succ_cons,List.cons_append]
  rw[this]
def Qg {α:Type}(xs:List α) (a b:Nat):qZ xs (some (a:Int)) (some ((b:Int)+1))=(xs.drop a).take (b+1-a):=by
 unfold qZ
 rw[show ((b:Int)+1)=((b+1:Nat):Int) by lia,HT.sIx_nat,HT.sIx_nat]
 by_cases h:b+1<=xs.length
 ·rw[show min (b+1) xs.length=b+1 by lia]
  by_cases h':a<=xs.length
  ·rw[show min a xs.length=a by lia]
  ·rw[uE ∅,uE ∅];simp
 ·by_cases h':a<=xs.length
  ·rw[show min a xs.length=a by lia,show min (b+1) xs.length=xs.length by lia,w4 (by rw[yf];lia),w4 (by rw[yf];lia)]
  ·rw[uE ∅,uE ∅];simp
def zhB {a b s:Int}(hs:0<s) (h:a<=b):Rat.divInt a s<=Rat.divInt b s:=by
 rw[dq ∅,dq ∅]
 have h1:(a:Rat)<=(b:Rat):=by exact_mod_cast h
 have h2:(0:Rat)<(s:Rat):=by exact_mod_cast hs
 rw[W0,W0]
 exact ut h1 (uM (Rat.inv_pos.mpr h2))
def zkj {ws:List Int}{g:Nat×Nat×Str}{S S':SC}{t:Int×Int}{pl:Rat}(hw:∀x∈ws,1<=x/\x<=1000) (p0:0<S.pb) (s0:0<S.sb) (t0:0<t.2) (r:RbS ws g S S') (hab:g.1<=g.2.1) (hb:g.2.1<S.trs.length) (hwl:ws.length=S.trs.length)
  (hpl:∀l∈(S.trs.drop g.1).take (g.2.1+1-g.1),(ptT S.pb S.sb t l).1=pl) (hwp:∀u,zX g.2.2 S.lo S.hi=some u->(ptT S.pb S.sb t u).1=pl) :
  0<S'.pb/\0<S'.sb/\S'.trs.length=S.trs.length/\S'.lo.map (ptT S'.pb S'.sb t)=S.lo.map (ptT S.pb S.sb t)/\S'.hi.map (ptT S'.pb S'.sb t)=S.hi.map (ptT S.pb S.sb t) ∧
  ∃ss,ss.length=g.2.1+1-g.1/\v8 (xB ws g.1 g.2.1) (((S.trs.drop g.1).take (g.2.1+1-g.1)).map λl=>(ptT S.pb S.sb t l).2) ((zX g.2.2 S.lo S.hi).map λl=>(ptT S.pb S.sb t l).2) ss ∧
   S'.trs.map (ptT S'.pb S'.sb t)=(S.trs.map (ptT S.pb S.sb t)).take g.1++ss.map (λv=>(pl,v))++(S.trs.map (ptT S.pb S.sb t)).drop (g.2.1+1):=by
 obtain⟨a,b,wh⟩:=g
 dsimp only at *
 have hsl:=KQ.JW hab (show b<ws.length by lia)
 have q0:S.pb*t.2≠0:=yi ∅ ∅
 have q1:S.sb≠0:=by lia
 rcases r with⟨hp,l,rr,x,y,el,er,ex,ey,e1,e2,e3,e4,e5⟩ | ⟨hp,hs,seg,pm,ps,e1,e2,e3,e4,e5⟩
 ·dsimp only at *
  unfold vf at hp
  rw[yF,wK,wK]at hp
  obtain⟨hn,h2⟩:=hp
  have hba:b=a+1:=by lia
  subst hba
  have wl:=hw l (wm el)
  have wr:=hw rr (wm er)
  have mp:=KQ.zaC wl.1 wr.1
  have esc:∀u,ptT S'.pb S'.sb t (scT (mP l rr) u)=ptT S.pb S.sb t u:=λu=>by rw[e1,e2];exact zkr ∅
  have hseg:(S.trs.drop a).take (a+1+1-a)=[x,y]:=by
   obtain⟨ha,rfl⟩:=wn.mp ex
   obtain⟨ha1,rfl⟩:=wn.mp ey
   rw[show a+1+1-a=2 by lia,yg ha,yg ha1];rfl
  have hws:xB ws a (a+1)=[l,rr]:=by
   unfold xB
   rw[Qg]
   obtain⟨ha,rfl⟩:=wn.mp el
   obtain⟨ha1,rfl⟩:=wn.mp er
   rw[show a+1+1-a=2 by lia,yg ha,yg ha1];rfl
  have hx:=hpl x (by rw[hseg];simp)
  have hy:=hpl y (by rw[hseg];simp)
  obtain⟨g1,g2⟩:=zfJ (l:=l) (r:=rr) wl.1 wr.1 q0 q1 (hx.trans hy.symm)
  refine⟨by rw[e1];exact W4 p0 mp,by rw[e2];exact W4 s0 mp,by rw[e3];unfold ZJ;simp,?_,?_,[twR l rr (ptT S.pb S.sb t x).2 (ptT S.pb S.sb t y).2-(ptT S.pb S.sb t x).2,twR l rr (ptT S.pb S.sb t x).2 (ptT S.pb S.sb t y).2-(ptT S.pb S.sb t y).2],by show 2=_;lia,?_,?_⟩
  ·rw[e4,uT];congr 1;funext u;exact esc u
  ·rw[e5,uT];congr 1;funext u;exact esc u
  ·refine .inl ⟨by rw[hn];rfl,l,rr,(ptT S.pb S.sb t x).2,(ptT S.pb S.sb t y).2,hws,by rw[hseg];rfl,rfl⟩
  ·rw[e3];unfold ZJ
   rw[List.map_set,List.map_set,wz]
   have em:S.trs.map (ptT S'.pb S'.sb t ∘ scT (mP l rr))=S.trs.map (ptT S.pb S.sb t):=yz λu _=>esc u
   rw[em,e1,e2,g1,g2,hx,hy,zbW (by rw[wf];lia)]
   rfl
 ·dsimp only at *
  rw[Qg]at pm
  generalize hcut:(S.trs.drop a).take (b+1-a)=cut at *
  have hcl:cut.length=b+1-a:=by rw[<-hcut,yd,yf];lia
  have hr:∀u∈cut,(ptT S.pb S.sb t (v4 (zX wh S.lo S.hi) u)).1=pl/\(ptT S.pb S.sb t (v4 (zX wh S.lo S.hi) u)).2=zg3 ((zX wh S.lo S.hi).map λl=>(ptT S.pb S.sb t l).2) (ptT S.pb S.sb t u).2:=λu mu=>by
   cases ew:zX wh S.lo S.hi with
   |none=>exact⟨hpl u mu,rfl⟩
   |some v =>
    rw[zfW q0 q1]
    have h1:=hpl u mu
    have h2:=hwp v ew
    refine⟨?_,rL⟩
    nofun
    rw[h1,h2];grind
  have hsegp:∀u∈seg,(ptT S.pb S.sb t u).1=pl:=λu mu=>by
   obtain⟨v,mv,rfl⟩:=wA.mp (pm.mem_iff.mp mu)
   exact(hr v mv).1
  rw[e1,e2,e3,e4,e5]
  refine⟨p0,s0,?_,rfl,rfl,seg.map (λl=>(ptT S.pb S.sb t l).2),by rw[wf,pm.length_eq,wf,hcl],.inr ⟨?_,hs,?_,?_⟩,?_⟩
  ·rw[wC,wC,yd,yf,pm.length_eq,wf,hcl];lia
  ·rintro ⟨z1,z2⟩
   unfold vf at hp
   have z3:zX wh S.lo S.hi=none:=by
    cases ew:zX wh S.lo S.hi with
    |none=>rfl
    |some v=>rw[ew]at z1;cases z1
   rw[z3,z2]at hp
   simp at hp
  ·have:=pm.map (λl=>(ptT S.pb S.sb t l).2)
   refine this.trans ?_
   rw[wz,wz]
   refine List.Perm.of_eq (yz λu mu=>?_)
   exact(hr u mu).2
  ·rw[ym]
   exact ps.imp λ{u v} h=>zhB s0 h
  ·rw[yO,yO,List.map_take,List.map_drop,wz]
   congr 2
   exact yz λu mu=>Wv (hsegp u mu) rL
open KQ (blT Z5 zaj pbO sbO stG rlG brk xU)
abbrev Grp:=Nat×Nat×Str
def qT (wh:Str) (lo hi:Wl):Wl:=if wh = "low" then lo else if wh = "high" then hi else none
def qB {α:Type}(l:List α) (g:Grp):List α:=(l.drop g.1).take (g.2.1+1-g.1)
def inG (g:Grp) (i:Nat):Prop:=g.1<=i/\i<=g.2.1
structure Vg (cs:List zC) (lo hi:Wl) (gs:List Grp) (ds:List zC):Prop where
 pw:ds.map (λb=>(b.pl,b.wt))=cs.map (λb=>(b.pl,b.wt))
 gr:∀g∈gs,v8 (qB (cs.map zC.wt) g) (qB (cs.map zC.sp) g) ((qT g.2.2 lo hi).map Prod.snd) (qB (ds.map zC.sp) g)
 no:∀i,(∀g∈gs,¬inG g i)->(ds.map zC.sp)[i]?=(cs.map zC.sp)[i]?
def zcq {ws:List Int}{vs ss ss':List Rat}{wv:Option Rat}(h:v8 ws vs wv ss) (k:v8 ws vs wv ss'):ss=ss':=by
 rcases h with⟨h0,w0,w1,s0,s1,e1,e2,e3⟩ | ⟨h0,h1,h2⟩
 ·rcases k with⟨_,w0',w1',s0',s1',e1',e2',e3'⟩ | ⟨k0,_,_⟩
  ·rw[e1]at e1';rw[e2]at e2'
   cases e1';cases e2'
   rw[e3,e3']
  ·exact absurd ⟨h0,by rw[e1];rfl⟩ k0
 ·rcases k with⟨k0,w0',w1',s0',s1',e1',_,_⟩ | ⟨_,_,k2⟩
  ·exact absurd ⟨k0,by rw[e1'];rfl⟩ h0
  ·exact zeJ h2 k2
def Q0 {α:Type}{l:List α}{g:Grp}{i:Nat}(h:inG g i):(qB l g)[i-g.1]?=l[i]?:=by
 unfold qB
 rw[yQ,if_pos (by have:=h.1;have:=h.2;lia),yx,Nat.add_sub_cancel' h.1]
def Xf {α β:Type}(f:α->β) (l:List α) (g:Grp):qB (l.map f) g=(qB l g).map f:=by
 unfold qB;rw[List.map_take,List.map_drop]
def zeu {α:Type}{l:List α}{g:Grp}(h:g.2.1<l.length):(qB l g).length=g.2.1+1-g.1:=by
 unfold qB;rw[yd,yf];omega
def vM {α:Type}{l:List α}{g:Grp}(j:Nat):(qB l g)[j]?=if j<g.2.1+1-g.1 then l[g.1+j]? else none:=by
 unfold qB
 rw[yQ]
 split
 ·rw[yx]
 ·rfl
def JV {α:Type}{l m:List α}{g:Grp}(h:∀i,inG g i->l[i]?=m[i]?):qB l g=qB m g:=by
 refine yK λj=>?_
 rw[vM,vM]
 split
 ·exact h _ ⟨by omega,by omega⟩
 ·rfl
def zdb {ds es:List zC}(h1:ds.map zC.sp=es.map zC.sp) (h2:ds.map (λb=>(b.pl,b.wt))=es.map (λb=>(b.pl,b.wt))):ds=es:=by
 refine yK λi=>?_
 have e1:=congrArg (·[i]?) h1
 have e2:=congrArg (·[i]?) h2
 simp only[wg]at e1 e2
 cases a:ds[i]? with
 |none=>rw[a]at e1;cases b:es[i]? with
  |none=>rfl
  |some y=>rw[b]at e1;cases e1
 |some x =>
  rw[a]at e1 e2
  cases b:es[i]? with
  |none=>rw[b]at e1;cases e1
  |some y =>
   rw[b]at e1 e2
   simp only[WC,Option.some.injEq,Prod.mk.injEq]at e1 e2
   obtain⟨p,s,w⟩:=x
   obtain⟨p',s',w'⟩:=y
   dsimp only at e1 e2
   rw[e1,e2.1,e2.2]
def Vg.uniq {cs:List zC}{lo hi:Wl}{gs:List Grp}{ds es:List zC}(h:Vg cs lo hi gs ds) (k:Vg cs lo hi gs es):ds=es:=by
 refine zdb (yK λi=>?_) (h.pw.trans k.pw.symm)
 by_cases c:∃g∈gs,inG g i
 ·obtain⟨g,mg,hi⟩:=c
  rw[<-Q0 hi,zcq (h.gr g mg) (k.gr g mg),Q0 hi]
 ·have c':∀g∈gs,¬inG g i:=λg mg z=>c ⟨g,mg,z⟩
  rw[h.no i c',k.no i c']
def JR {α:Type}(l ss:List α) (g:Grp):List α:=l.take g.1++ss++l.drop (g.2.1+1)
def Zg {α:Type}{l ss:List α}{g:Grp}(hg:g.1<=g.2.1) (hb:g.2.1<l.length) (hs:ss.length=g.2.1+1-g.1) (i:Nat):(JR l ss g)[i]?=if i<g.1 then l[i]? else if i<=g.2.1 then ss[i-g.1]? else l[i]?:=by
 unfold JR
 have h1:(l.take g.1).length=g.1:=by rw[yd];lia
 by_cases c1:i<g.1
 ·rw[if_pos c1,WS,wD ∅,yQ,if_pos c1]
 ·rw[if_neg c1]
  by_cases c2:i<=g.2.1
  ·rw[if_pos c2,wD (by rw[wC];lia),wB ∅,h1]
  ·rw[if_neg c2,wB (by rw[wC];lia),wC,h1,hs,yx]
   congr 1;lia
def zeb {α:Type}{l ss:List α}{g:Grp}(hg:g.1<=g.2.1) (hb:g.2.1<l.length) (hs:ss.length=g.2.1+1-g.1):(JR l ss g).length=l.length:=by
 unfold JR;rw[wC,wC,yd,yf,hs];lia
def vZ {α β:Type}(l:List α) (m:List β) (i:Nat):(l.zip m)[i]?=match l[i]?,m[i]? with
  |some a,some b=>some (a,b)
  |_,_=>none:=by
 rw[List.zip_eq_zipWith,List.getElem?_zipWith]
 cases l[i]? <;> cases m[i]? <;> rfl
def ZE {α:Type}(wh:Str) (lo hi:Option (Int×Int)) (f:Int×Int->α):(zX wh lo hi).map f=if wh = "" then none else if wh = "low" then lo.map f else hi.map f:=by
 unfold zX;split
 ·rfl
 ·split <;> rfl
def zcn {ws:List Int}{t:Int×Int}{pls vs:List Rat}{gs:List Grp}{s0 s:SC}(C:vn ws gs s0 s) (hw:∀x∈ws,1<=x/\x<=1000) (p0:0<s0.pb) (q0:0<s0.sb) (t0:0<t.2) (hwl:ws.length=s0.trs.length) (h0:s0.trs.map (ptT s0.pb s0.sb t)=pls.zip vs) (lp:pls.length=vs.length) (lv:vs.length=s0.trs.length)
  (G:∀g∈gs,g.1<=g.2.1/\g.2.1<vs.length/\∃pl,(∀i,inG g i->pls[i]?=some pl)/\∀u,zX g.2.2 s0.lo s0.hi=some u->(ptT s0.pb s0.sb t u).1=pl) (D:gs.Pairwise λg g'=>g.2.1<g'.1) :
  ∃vs',vs'.length=vs.length/\s.trs.length=s0.trs.length/\0<s.pb/\0<s.sb/\s.trs.map (ptT s.pb s.sb t)=pls.zip vs'/\s.lo.map (ptT s.pb s.sb t)=s0.lo.map (ptT s0.pb s0.sb t)/\s.hi.map (ptT s.pb s.sb t)=s0.hi.map (ptT s0.pb s0.sb t) ∧
   (∀g∈gs,v8 (qB ws g) (qB vs g) ((zX g.2.2 s0.lo s0.hi).map λl=>(ptT s0.pb s0.sb t l).2) (qB vs' g))/\∀i,(∀g∈gs,¬inG g i)->vs'[i]?=vs[i]?:=by
 induction C with
 |nil s=>exact⟨vs,rfl,rfl,p0,q0,h0,rfl,rfl,λg m=>(by cases m),λ_ _=>rfl⟩
 |@snoc gs g s0 s s' h r ih =>
  obtain⟨vs',l1,l2,pp,qq,hz,elo,ehi,hd,hn⟩:=ih p0 q0 hwl h0 lv (λg' m=>G g' (wH _ m)) (wZ.mp D).1
  obtain⟨hab,hb,pl,hpl,hwp⟩:=G g (wq _ (ye.mpr rfl))
  have dj:∀g'∈gs,g'.2.1<g.1:=λg' m=>(wZ.mp D).2.2 g' m g (ye.mpr rfl)
  have ew:∀{α:Type}(k:Rat×Rat->α),(zX g.2.2 s.lo s.hi).map (λu=>k (ptT s.pb s.sb t u))=(zX g.2.2 s0.lo s0.hi).map (λu=>k (ptT s0.pb s0.sb t u)):=λ{α} k=>by
   have e1:∀o:Option (Int×Int),(o.map λu=>k (ptT s.pb s.sb t u))=(o.map (ptT s.pb s.sb t)).map k:=λo=>by rw[uT];rfl
   have e2:∀o:Option (Int×Int),(o.map λu=>k (ptT s0.pb s0.sb t u))=(o.map (ptT s0.pb s0.sb t)).map k:=λo=>by rw[uT];rfl
   rw[ZE,ZE,e1,e1,e2,e2,elo,ehi]
  obtain⟨p1,s1,hl,elo',ehi',ss,hsl,hdl,hT⟩:=zkj (t:=t) (pl:=pl) (g:=g) hw pp qq t0 r hab ∅ ∅ (λl ml=>by
   obtain⟨j,hj⟩:=yZ ml
   rw[yQ]at hj
   split at hj
   ·rw[yx]at hj
    have e:=congrArg (·[g.1+j]?) hz
    simp only[wg,hj,vZ,hpl (g.1+j) ⟨by lia,by lia⟩,WC]at e
    split at e
    ·rename_i a b e1 e2
     cases e1
     have:=Option.some.inj e
     rw[this]
    ·cases e
   ·cases hj) (λu eu=>by
    have e:=ew (λz=>z.1)
    rw[eu]at e
    cases e0:zX g.2.2 s0.lo s0.hi with
    |none=>rw[e0]at e;cases e
    |some u0=>rw[e0]at e;have:=Option.some.inj e;dsimp only at this;rw[this];exact hwp u0 e0)
  have hv':g.2.1<vs'.length:=by lia
  refine⟨JR vs' ss g,by rw[zeb hab hv' hsl,l1],by rw[hl,l2],p1,s1,?_,elo'.trans elo,ehi'.trans ehi,λg' m=>?_,λi hi'=>?_⟩
  ·rw[hT,hz]
   refine yK λi=>?_
   have:=Zg (l:=pls.zip vs') (ss:=ss.map λv=>(pl,v)) hab (by rw[uJ];lia) (by rw[wf];exact hsl) i
   rw[show (pls.zip vs').take g.1++ss.map (λv=>(pl,v))++(pls.zip vs').drop (g.2.1+1)=JR (pls.zip vs') (ss.map λv=>(pl,v)) g from rfl,this,vZ,vZ,Zg hab hv' hsl]
   by_cases c1:i<g.1
   ·rw[if_pos c1,if_pos c1]
   ·rw[if_neg c1,if_neg c1]
    by_cases c2:i<=g.2.1
    ·rw[if_pos c2,if_pos c2,hpl i ⟨by lia,c2⟩,wg]
     cases ss[i-g.1]? <;> rfl
    ·rw[if_neg c2,if_neg c2]
  ·rcases wM.mp m with m | m
   ·have hlt:=dj g' m
    have e:qB (JR vs' ss g) g'=qB vs' g':=JV λi hi=>by rw[Zg hab hv' hsl,if_pos (by have:=hi.2;lia)]
    rw[e];exact hd g' m
   ·obtain rfl:=ye.mp m
    have e1:qB (JR vs' ss g') g'=ss:=by
     refine yK λj=>?_
     rw[vM]
     split
     ·rw[Zg hab hv' hsl,if_neg ∅,if_pos ∅,Nat.add_sub_cancel_left]
     ·rw[wT ∅]
    have e2:((s.trs.drop g'.1).take (g'.2.1+1-g'.1)).map (λl=>(ptT s.pb s.sb t l).2)=qB vs g':=by
     have e3:((s.trs.drop g'.1).take (g'.2.1+1-g'.1)).map (λl=>(ptT s.pb s.sb t l).2)=(qB (s.trs.map (ptT s.pb s.sb t)) g').map Prod.snd:=by
      rw[Xf,wz];rfl
     rw[e3,hz,<-Xf,List.map_snd_zip ∅]
     exact JV λi hi=>hn i λg0 m0 z=>by have:=dj g0 m0;have:=z.2;have:=hi.1;lia
    have e4:xB ws g'.1 g'.2.1=qB ws g':=Qg ws g'.1 g'.2.1
    rw[e1,<-e2,<-e4,<-ew (λz=>z.2)]
    exact hdl
  ·have hg:=hi' g (wq _ (ye.mpr rfl))
   rw[Zg hab hv' hsl]
   have:=hn i λg0 m0=>hi' g0 (wH _ m0)
   by_cases c1:i<g.1
   ·rw[if_pos c1];exact this
   ·rw[if_neg c1,if_neg (λz=>hg ⟨by lia,z⟩)];exact this
def zei {α:Type} [DecidableEq α] {ss:List α}{f:Nat->Nat->Option Grp}(hf:∀a b g,f a b=some g->g.1=a/\g.2.1=b):∀n,(rlG ss f n).Pairwise (λg g'=>g.2.1<g'.1)/\∀g∈rlG ss f n,g.2.1<stG ss n
 |0=>⟨List.Pairwise.nil,λg (m:g∈([]:List Grp))=>nomatch m⟩
 |n+1=>by
  obtain⟨h1,h2⟩:=zei (ss:=ss) hf n
  have e1:rlG ss f (n+1)=if brk ss n=true then rlG ss f n++(f (stG ss n) n).toList else rlG ss f n:=rfl
  have e2:stG ss (n+1)=if brk ss n=true then n+1 else stG ss n:=rfl
  by_cases c:brk ss n=true
  ·rw[e1,e2,if_pos c,if_pos c]
   refine⟨wZ.mpr ⟨h1,?_,λg m g' m'=>?_⟩,λg m=>?_⟩
   ·cases f (stG ss n) n with
    |none=>exact .nil
    |some g=>exact uz ..
   ·rw[(hf _ _ g' (uQ.mp m')).1];exact h2 g m
   ·rcases wM.mp m with m | m
    ·have:=h2 g m;have:=xU ss n;lia
    ·have:=(hf _ _ g (uQ.mp m)).2;lia
  ·rw[e1,e2,if_neg c,if_neg c];exact⟨h1,h2⟩
def zdr {cs:List zC}{lo hi:Wl}{a b:Nat}{g:Grp}(h:fL cs lo hi a b=some g):g=(a,b,qk lo hi (((cs.map zC.pl)[a]?).getD 0))/\(a<b\/vH cs lo hi a b=true):=by
 unfold fL at h
 split at h
 ·exact⟨(Option.some.inj h).symm,‹_›⟩
 ·cases h
def zdA (cs:List zC) (lo hi:Wl):(grL cs lo hi).Pairwise λg g'=>g.2.1<g'.1 :=
 (zei (λa b g e=>by rw[(zdr e).1];exact⟨rfl,rfl⟩) _).1
def zcP {lo hi:Wl}{k:Rat}:∀u,qT (qk lo hi k) lo hi=some u->u.1=k:=by
 intro u e
 unfold qk at e
 have at_:∀{l:Wl},atW l k=true->l=some u->u.1=k:=λ{l} h z=>by
  subst z;obtain⟨x,y⟩:=u;exact wF h
 split at e
 ·rename_i h;exact at_ h (by unfold qT at e;rw[if_pos rfl]at e;exact e)
 ·split at e
  ·rename_i h;exact at_ h (by unfold qT at e;rw[if_neg (by decide),if_pos rfl]at e;exact e)
  ·unfold qT at e;rw[if_neg (by decide),if_neg (by decide)]at e;cases e
def qj {cs:List zC}{lo hi:Wl}{g:Grp}(m:g∈grL cs lo hi):g.1<=g.2.1/\g.2.1<cs.length/\g.2.2=qk lo hi (((cs.map zC.pl)[g.1]?).getD 0)/\∃pl,(∀i,inG g i->(cs.map zC.pl)[i]?=some pl)/\∀u,qT g.2.2 lo hi=some u->u.1=pl:=by
 obtain⟨i,hi',e⟩:=KQ.V5 m
 obtain⟨rfl,_⟩:=zdr e
 have le:=xU (cs.map zC.pl) i
 have hi2:i<(cs.map zC.pl).length:=by rw[wf];exact hi'
 obtain⟨pl,ep⟩:∃pl,(cs.map zC.pl)[i]?=some pl:=⟨_,wk hi2⟩
 have ea:=(QR hi2 _ (wo _) le).trans ep
 refine⟨le,hi',rL,pl,λj hj=>(QR hi2 j hj.1 hj.2).trans ep,?_⟩
 nofun
 rw[ea]
 exact zcP
def tP (a b k f:Rat) (z:Rat×Rat):Rat×Rat:=(a*z.1+b,k*z.2+f)
def tB (a b k f:Rat) (c:zC):zC:=⟨a*c.pl+b,k*c.sp+f,c.wt⟩
def zgR {a b k f u:Rat}(hk:0<k) (ha:a=k*u){l r:Rat×Rat}(c:r.2<l.2):mo (tP a b k f l) (tP a b k f r)=u*mo l r:=by
 unfold mo tP
 nofun
 rw[show a*r.1+b-(a*l.1+b)=k*(u*(r.1-l.1)) by rw[ha];grind,show k*l.2+f-(k*r.2+f)=k*(l.2-r.2) by grind]
 have h1:k≠0:=by grind
 have h2:l.2-r.2≠0:=by grind
 generalize l.2-r.2=y at *
 generalize r.1-l.1=x at *
 grind
def J2 {a b k f:Rat}(hk:0<k){l r:Rat×Rat}:(tP a b k f r).2<(tP a b k f l).2↔r.2<l.2:=by
 show k*r.2+f<k*l.2+f↔_
 have:=uA (a:=r.2) (b:=l.2) hk
 constructor
 ·intro h;exact this.mp (by grind)
 ·intro h;have:=this.mpr h;grind
def zgu {a b k f u:Rat}(hk:0<k) (hu:0<u) (ha:a=k*u) (m:Option Rat) (p:(Rat×Rat)×(Rat×Rat)):xD (m.map (u * ·)) (tP a b k f p.1,tP a b k f p.2)=(xD m p).map (u * ·):=by
 unfold xD
 by_cases c:p.2.2<p.1.2
 ·rw[if_pos (J2 hk |>.mpr c),if_pos c]
  nofun
  rw[zgR hk ha c]
  cases m with
  |none=>rfl
  |some x =>
   show (if u*mo p.1 p.2<u*x then some (u*mo p.1 p.2)else some (u*x))=Option.map (u * ·) (if mo p.1 p.2<x then some (mo p.1 p.2)else some x)
   by_cases d:mo p.1 p.2<x
   ·rw[if_pos ((uA hu).mpr d),if_pos d];rfl
   ·rw[if_neg (λz=>d ((uA hu).mp z)),if_neg d];rfl
 ·rw[if_neg (λz=>c ((J2 hk).mp z)),if_neg c]
def zgj {a b k f u:Rat}(hk:0<k) (hu:0<u) (ha:a=k*u) (L:List (Rat×Rat)):vj (L.map (tP a b k f))=(vj L).map (u * ·):=by
 unfold vj
 rw[<-List.map_tail,List.zip_map]
 have:∀(M:List ((Rat×Rat)×(Rat×Rat))) (m:Option Rat),(M.map (Prod.map (tP a b k f) (tP a b k f))).foldl xD (m.map (u * ·))=(M.foldl xD m).map (u * ·):=λM=>by
  induction M with
  |nil=>intro m;rfl
  |cons p M ih =>
   intro m
   show (M.map _).foldl xD (xD (m.map (u * ·)) (tP a b k f p.1,tP a b k f p.2))=_
   rw[zgu hk hu ha];exact ih _
 exact this _ none
def zeT (bs:List zC) (lo hi:Wl) (a b k f:Rat):tl (bs.map (tB a b k f)) (lo.map (tP a b k f)) (hi.map (tP a b k f))=(tl bs lo hi).map (tP a b k f):=by
 unfold tl
 rw[yO,yO,wz,wz]
 have e:∀l:Wl,xR (l.map (tP a b k f))=(xR l).map (tP a b k f):=λl=>by cases l <;> rfl
 rw[e,e];rfl
def zgf {a b k f u:Rat}(hk:0<k) (ha:a=k*u) (lo hi:Wl):xC (lo.map (tP a b k f)) (hi.map (tP a b k f))=(xC lo hi).map (u * ·):=by
 cases lo with
 |none=>rfl
 |some l =>
  cases hi with
  |none=>rfl
  |some h =>
   have e:=@zgR a b k f u hk ha l h
   show (if(tP a b k f h).2<(tP a b k f l).2 then some (mo (tP a b k f l) (tP a b k f h))else none)=Option.map _ (if h.2<l.2 then some (mo l h)else none)
   by_cases c:h.2<l.2
   ·rw[if_pos ((J2 hk).mpr c),if_pos c,e c];rfl
   ·rw[if_neg (λz=>c ((J2 hk).mp z)),if_neg c];rfl
def zbb {a b k f:Rat}(ha:0<a) (l:Wl) (x:Rat):atW (l.map (tP a b k f)) (a*x+b)=atW l x:=by
 cases l with
 |none=>rfl
 |some z =>
  show decide (a*z.1+b=a*x+b)=decide (z.1=x)
  rw[yr,wK,wK]
  constructor
  ·intro h;have h1:a*z.1=a*x:=by grind
   have:a≠0:=by grind
   grind
  ·intro h;rw[h]
def zeZ {a b k f:Rat}(l:Wl) (g:Rat->Bool):wsp (l.map (tP a b k f)) g=wsp l λy=>g (k*y+f):=by cases l <;> rfl
def zjl {a b k f:Rat}(ha:0<a) (hk:0<k) (cs:List zC) (lo hi:Wl) (i j:Nat) (hi':i<cs.length) (hj:j<cs.length):fL (cs.map (tB a b k f)) (lo.map (tP a b k f)) (hi.map (tP a b k f)) i j=fL cs lo hi i j:=by
 obtain⟨ci,ei⟩:∃c,cs[i]?=some c:=⟨_,wk hi'⟩
 obtain⟨cj,ej⟩:∃c,cs[j]?=some c:=⟨_,wk hj⟩
 have e1:(((cs.map (tB a b k f)).map zC.pl)[i]?).getD 0=a*ci.pl+b:=by rw[wg,wg,ei];rfl
 have e2:((cs.map zC.pl)[i]?).getD 0=ci.pl:=by rw[wg,ei];rfl
 have lt:∀x y:Rat,decide (k*x+f<k*y+f)=decide (x<y):=λx y=>by
  rw[yr,wK,wK];exact @J2 a b k f hk (0,y) (0,x)
 have eg:vH (cs.map (tB a b k f)) (lo.map (tP a b k f)) (hi.map (tP a b k f)) i j=vH cs lo hi i j:=by
  rw[Qh (ca:=tB a b k f ci) (cb:=tB a b k f cj) (by rw[wg,ei];rfl) (by rw[wg,ej];rfl),Qh ei ej]
  rw[zeZ,zeZ]
  show (if atW _ (a*ci.pl+b)=true then wsp lo (λy=>decide (k*ci.sp+f<k*y+f))else if atW _ (a*ci.pl+b)=true then wsp hi (λy=>decide (k*y+f<k*cj.sp+f))else false)=_
  rw[zbb ha,zbb ha]
  simp only[lt]
 have es:∀x,qk (lo.map (tP a b k f)) (hi.map (tP a b k f)) (a*x+b)=qk lo hi x:=λx=>by unfold qk;rw[zbb ha,zbb ha]
 unfold fL
 rw[eg,e1,e2,es]
def zfd {α β:Type} [DecidableEq α] [DecidableEq β] {g:α->β}(hg:∀x y,g x=g y->x=y) (l:List α) (i:Nat):brk (l.map g) i=brk l i:=by
 unfold brk
 rw[wf,wg,wg]
 congr 1
 rw[yr,wK,wK]
 cases l[i+1]? <;> cases l[i]? <;> simp
 exact⟨λh z=>h (by rw[z]),λh z=>h (hg _ _ z)⟩
def zjo {a b k f:Rat}(ha:0<a) (hk:0<k) (cs:List zC) (lo hi:Wl):grL (cs.map (tB a b k f)) (lo.map (tP a b k f)) (hi.map (tP a b k f))=grL cs lo hi:=by
 unfold grL
 have e:(cs.map (tB a b k f)).map zC.pl=(cs.map zC.pl).map λx=>a*x+b:=by rw[wz,wz];rfl
 rw[e,wf]
 refine QQ (λi _=>zfd (λx y h=>?_) _ i) λi hi' _=>zjl ha hk cs lo hi _ i ?_ hi'
 ·have h1:a*x=a*y:=by grind
  have:a≠0:=by grind
  grind
 ·have:=xU (cs.map zC.pl) i;lia
def zfh {k f:Rat}(hk:0<k){ws:List Int}{vs ss:List Rat}{wv:Option Rat}(hw:∀x∈ws,1<=x) (h:v8 ws vs wv ss):v8 ws (vs.map λv=>k*v+f) (wv.map λv=>k*v+f) (ss.map λv=>k*v+f):=by
 rcases h with⟨rfl,w0,w1,s0,s1,rfl,rfl,rfl⟩ | ⟨h0,h1,h2⟩
 ·refine .inl ⟨rL,w0,w1,_,_,rL,rL,?_⟩
  have hs:(w0:Rat)+(w1:Rat)≠0:=by
   have a:=hw w0 (by simp);have b:=hw w1 (by simp)
   have:=ic0 (a:=w0+w1) ∅
   push_cast at this;exact this
  have e:twR w0 w1 (k*s0+f) (k*s1+f)=k*twR w0 w1 s0 s1+2*f:=by unfold twR;grind
  simp only[yw,W9]
  rw[e]
  congr 1
  ·grind
  ·congr 1;grind
 ·refine .inr ⟨λz=>h0 ⟨uF.mp z.1,z.2⟩,h1,?_,?_⟩
  ·have:=h2.1.map λv=>k*v+f
   refine this.trans (List.Perm.of_eq ?_)
   rw[wz,wz]
   refine yz λv _=>?_
   cases wv with
   |none=>rfl
   |some z=>show k*(2*z-v)+f=2*(k*z+f)-(k*v+f);grind
  ·rw[ym]
   exact h2.2.imp λ{x y} l=>by have:=Wq l (uM hk);grind
def zhs {a b k f:Rat}(hk:0<k){cs ds:List zC}{lo hi:Wl}{gs:List Grp}(hw:∀c∈cs,1<=c.wt) (h:Vg cs lo hi gs ds):Vg (cs.map (tB a b k f)) (lo.map (tP a b k f)) (hi.map (tP a b k f)) gs (ds.map (tB a b k f)):=by
 have es:∀l:List zC,(l.map (tB a b k f)).map zC.sp=(l.map zC.sp).map λv=>k*v+f:=λl=>by rw[wz,wz];rfl
 have ew:∀l:List zC,(l.map (tB a b k f)).map zC.wt=l.map zC.wt:=λl=>by rw[wz];rfl
 refine⟨?_,λg m=>?_,λi hi'=>?_⟩
 ·have:=congrArg (List.map λz:Rat×Int=>(a*z.1+b,z.2)) h.pw
  rw[wz,wz]at this
  rw[wz,wz];exact this
 ·rw[es,es,ew,Xf (λv=>k*v+f) (cs.map zC.sp),Xf (λv=>k*v+f) (ds.map zC.sp)]
  have e:(qT g.2.2 (lo.map (tP a b k f)) (hi.map (tP a b k f))).map Prod.snd=((qT g.2.2 lo hi).map Prod.snd).map λv=>k*v+f:=by
   unfold qT
   split
   ·cases lo <;> rfl
   ·split
    ·cases hi <;> rfl
    ·rfl
  rw[e]
  refine zfh hk (λx mx=>?_) (h.gr g m)
  obtain⟨c,mc,rfl⟩:=wA.mp (yR (yS mx))
  exact hw c mc
 ·have:=congrArg (Option.map λv=>k*v+f) (h.no i hi')
  rw[<-wg,<-wg]at this
  rw[es,es];exact this
def zca {a b k f u m:Rat}(ha:a=k*u) (bs:List zC):(bs.map (tB a b k f)).map (xp (u*m))=(bs.map (xp m)).map (tB a (b+f*(u*m)) k f):=by
 rw[wz,wz]
 refine yz λc _=>?_
 show (⟨a*c.pl+b+(k*c.sp+f)*(u*m),k*c.sp+f,c.wt⟩:zC)=⟨a*(c.pl+c.sp*m)+(b+f*(u*m)),k*c.sp+f,c.wt⟩
 congr 1
 rw[ha];grind
def vO {a b k f u m:Rat}(ha:a=k*u) (l:Wl):zL (u*m) (l.map (tP a b k f))=(zL m l).map (tP a (b+f*(u*m)) k f):=by
 cases l with
 |none=>rfl
 |some z =>
  show some (a*z.1+b+(k*z.2+f)*(u*m),k*z.2+f)=some (a*(z.1+z.2*m)+(b+f*(u*m)),k*z.2+f)
  congr 2
  rw[ha];grind
def nP (z:Rat×Rat):Rat×Rat:=(-z.1,-z.2)
def nB (c:zC):zC:=⟨-c.pl,-c.sp,c.wt⟩
def x6 (bs:List zC):List zC:=(bs.map nB).reverse
def zh2 (l r:Rat×Rat):mo (nP r) (nP l)=mo l r:=by
 unfold mo nP
 nofun
 rw[show -l.1 - -r.1=r.1-l.1 by grind,show -r.2 - -l.2=l.2-r.2 by grind]
def zaB (x y:Rat) : -x < -y↔y<x:=by constructor <;> intro h <;> grind
def Zx:∀(L:List ((Rat×Rat)×(Rat×Rat))) (f:Option Rat),(∀p∈L,p.2.2<p.1.2->∃m,L.foldl xD f=some m/\m<=mo p.1 p.2)/\(∀x,f=some x->∃m,L.foldl xD f=some m/\m<=x)/\(∀m,L.foldl xD f=some m->f=some m\/∃p∈L,p.2.2<p.1.2/\mo p.1 p.2=m)
 |[],f=>⟨λp m=>(nomatch m),λx e=>⟨x,e,Wh⟩,λm e=>.inl e⟩
 |p::L,f=>by
  obtain⟨h1,h2,h3⟩:=Zx L (xD f p)
  have hs:(p.2.2<p.1.2->∃y,xD f p=some y/\y<=mo p.1 p.2/\(∀x,f=some x->y<=x)/\(f=some y\/y=mo p.1 p.2))/\(¬p.2.2<p.1.2->xD f p=f):=by
   unfold xD
   refine⟨λc=>?_,λc=>if_neg c⟩
   rw[if_pos c]
   cases f with
   |none=>exact⟨_,rfl,Wh,λx e=>(nomatch e),.inr rfl⟩
   |some u =>
    nofun
    by_cases d:mo p.1 p.2<u
    ·rw[if_pos d];exact⟨_,rfl,Wh,λx e=>by cases e;exact uM d,.inr rfl⟩
    ·rw[if_neg d];exact⟨_,rfl,Rat.not_lt.mp d,λx e=>by cases e;exact Wh,.inl rfl⟩
  refine⟨λq mq c=>?_,λx e=>?_,λm e=>?_⟩
  ·rcases ww.mp mq with rfl | mq
   ·obtain⟨y,e1,e2,_⟩:=hs.1 c
    obtain⟨m,f1,f2⟩:=h2 y e1
    exact⟨m,f1,Rat.le_trans f2 e2⟩
   ·exact h1 q mq c
  ·by_cases c:p.2.2<p.1.2
   ·obtain⟨y,e1,_,e2,_⟩:=hs.1 c
    obtain⟨m,f1,f2⟩:=h2 y e1
    exact⟨m,f1,Rat.le_trans f2 (e2 x e)⟩
   ·exact h2 x ((hs.2 c).trans e)
  ·rcases h3 m e with e1 | ⟨q,mq,c,e2⟩
   ·by_cases c:p.2.2<p.1.2
    ·obtain⟨y,f1,_,_,f2⟩:=hs.1 c
     rw[f1]at e1;cases e1
     rcases f2 with f2 | f2
     ·exact .inl f2
     ·exact .inr ⟨p,wU,c,f2.symm⟩
    ·rw[hs.2 c]at e1;exact .inl e1
   ·exact .inr ⟨q,wR _ mq,c,e2⟩
def ze4 {α:Type}{L:List α}{x y:α}{i:Nat}(h1:L[i]?=some x) (h2:L[i+1]?=some y):(x,y)∈L.zip L.tail:=by
 refine wm (i:=i) ?_
 rw[vZ,h1,List.getElem?_tail,h2]
def zcs {L M:List ((Rat×Rat)×(Rat×Rat))} (h:∀p∈L,∃q∈M,(p.2.2<p.1.2->q.2.2<q.1.2)/\mo q.1 q.2=mo p.1 p.2) (k:∀q∈M,∃p∈L,(q.2.2<q.1.2->p.2.2<p.1.2)/\mo p.1 p.2=mo q.1 q.2):L.foldl xD none=M.foldl xD none:=by
 obtain⟨a1,_,a3⟩:=Zx L none
 obtain⟨b1,_,b3⟩:=Zx M none
 have low:∀m,L.foldl xD none=some m->∃m',M.foldl xD none=some m'/\m'<=m:=λm e=>by
  rcases a3 m e with z | ⟨p,mp,c,rfl⟩
  ·cases z
  ·obtain⟨q,mq,cq,eq⟩:=h p mp
   obtain⟨m',f1,f2⟩:=b1 q mq (cq c)
   exact⟨m',f1,by rw[<-eq];exact f2⟩
 have low':∀m,M.foldl xD none=some m->∃m',L.foldl xD none=some m'/\m'<=m:=λm e=>by
  rcases b3 m e with z | ⟨p,mp,c,rfl⟩
  ·cases z
  ·obtain⟨q,mq,cq,eq⟩:=k p mp
   obtain⟨m',f1,f2⟩:=a1 q mq (cq c)
   exact⟨m',f1,by rw[<-eq];exact f2⟩
 cases eL:L.foldl xD none with
 |none =>
  cases eM:M.foldl xD none with
  |none=>rfl
  |some m=>obtain⟨m',e,_⟩:=low' m eM;rw[eL]at e;cases e
 |some m =>
  obtain⟨m',e,le⟩:=low m eL
  obtain⟨m2,e2,le2⟩:=low' m' e
  rw[eL]at e2;cases e2
  rw[e,Rat.le_antisymm le le2]
def zce {L:List (Rat×Rat)}{p:(Rat×Rat)×(Rat×Rat)} (m:p∈L.zip L.tail):(nP p.2,nP p.1)∈((L.map nP).reverse).zip ((L.map nP).reverse).tail:=by
 obtain⟨i,e1,e2⟩:=JG m
 have h2:=(wn.mp e2).1
 refine ze4 (i:=L.length-2-i) ?_ ?_
 ·rw[wX (by rw[wf];omega),wf,wg,show L.length-1-(L.length-2-i)=i+1 by omega,e2];rfl
 ·rw[wX (by rw[wf];omega),wf,wg,show L.length-1-(L.length-2-i+1)=i by omega,e1];rfl
def nn (z:Rat×Rat):nP (nP z)=z:=by unfold nP;exact Wv (by dsimp only;grind) (by dsimp only;grind)
def zfr (L:List (Rat×Rat)):(((L.map nP).reverse).map nP).reverse=L:=by
 rw[yA,List.reverse_reverse,wz,show nP ∘ nP=id from funext nn,List.map_id]
def zez (L:List (Rat×Rat)):vj ((L.map nP).reverse)=vj L:=by
 refine(zcs (λp mp=>?_) λq mq=>?_).symm
 ·exact⟨_,zce mp,λc=>(zaB _ _).mpr c,zh2 _ _⟩
 ·have:=zce mq
  rw[zfr]at this
  exact⟨_,this,λc=>(zaB _ _).mpr c,zh2 _ _⟩
def za3 (bs:List zC) (lo hi:Wl):tl (x6 bs) (hi.map nP) (lo.map nP)=((tl bs lo hi).map nP).reverse:=by
 unfold tl x6
 have e:∀l:Wl,xR (l.map nP)=((xR l).map nP).reverse:=λl=>by cases l <;> rfl
 rw[e,e,yO,yO,List.reverse_append,List.reverse_append,yA,wz,wz,WS];rfl
def zex (lo hi:Wl):xC (hi.map nP) (lo.map nP)=xC lo hi:=by
 cases lo with
 |none=>cases hi <;> rfl
 |some l =>
  cases hi with
  |none=>rfl
  |some h =>
   show (if(nP l).2<(nP h).2 then some (mo (nP h) (nP l))else none)=if h.2<l.2 then some (mo l h)else none
   rw[zh2]
   show (if -l.2 < -h.2 then _ else _)=_
   by_cases c:h.2<l.2
   ·rw[if_pos ((zaB _ _).mpr c),if_pos c]
   ·rw[if_neg (λz=>c ((zaB _ _).mp z)),if_neg c]
def J7 (m:Rat) (bs:List zC):(x6 bs).map (xp m)=x6 (bs.map (xp m)):=by
 unfold x6
 rw[yA,wz,wz]
 congr 1
 refine yz λc _=>?_
 show (⟨-c.pl + -c.sp*m,-c.sp,c.wt⟩:zC)=⟨-(c.pl+c.sp*m),-c.sp,c.wt⟩
 congr 1;grind
def vc (m:Rat) (l:Wl):zL m (l.map nP)=(zL m l).map nP:=by
 cases l with
 |none=>rfl
 |some z =>
  show some (-z.1 + -z.2*m,-z.2)=some (-(z.1+z.2*m),-z.2)
  congr 2;grind
def zcg {α:Type}(ss:List α) (a b:Nat):Prop:=a<=b/\b<ss.length/\(∀j,a<=j->j<=b->ss[j]?=ss[b]?)/\(a=0\/ss[a-1]?≠ss[a]?)/\(b+1=ss.length\/ss[b+1]?≠ss[b]?)
section
variable {α:Type} [DecidableEq α] {ss:List α}
theorem Z6 {i:Nat}:brk ss i=true↔i+1=ss.length\/ss[i+1]?≠ss[i]?:=by
 unfold brk
 rw[Bool.or_eq_true,wK,wK]
theorem J4:∀i,stG ss i=0\/(0<stG ss i/\brk ss (stG ss i-1)=true)
 |0=>.inl rfl
 |i+1=>by
  have e:stG ss (i+1)=if brk ss i=true then i+1 else stG ss i:=rfl
  by_cases c:brk ss i=true
  ·rw[e,if_pos c];exact .inr ⟨by lia,c⟩
  ·rw[e,if_neg c];exact J4 i
theorem zio {i:Nat}(hi:i<ss.length) (hb:brk ss i=true):zcg ss (stG ss i) i:=by
 have le:=xU ss i
 refine⟨le,hi,λj h1 h2=>QR hi j h1 h2,?_,Z6.mp hb⟩
 rcases J4 (ss:=ss) i with e | ⟨p,e⟩
 ·exact .inl e
 ·rcases Z6.mp e with z | z
  ·lia
  ·rw[Nat.sub_add_cancel p]at z;exact .inr (λy=>z y.symm)
theorem zh7 {a b:Nat}(h:zcg ss a b):brk ss b=true/\stG ss b=a:=by
 obtain⟨h1,h2,h3,h4,h5⟩:=h
 refine⟨Z6.mpr h5,?_⟩
 have s0:stG ss a=a:=by
  cases a with
  |zero=>rfl
  |succ a =>
   have e:stG ss (a+1)=if brk ss a=true then a+1 else stG ss a:=rfl
   rw[e,if_pos (Z6.mpr (.inr (by
    rcases h4 with z | z
    ·lia
    ·exact λy=>z y.symm)))]
 have:∀k,a+k<=b->stG ss (a+k)=a:=λk=>by
  induction k with
  |zero=>intro _;exact s0
  |succ k ih =>
   intro hk
   have e:stG ss (a+k+1)=if brk ss (a+k)=true then a+k+1 else stG ss (a+k):=rfl
   rw[show a+(k+1)=a+k+1 by lia,e,if_neg,ih ∅]
   intro z
   rcases Z6.mp z with z | z
   ·lia
   ·exact z ((h3 (a+k+1) ∅ ∅).trans (h3 (a+k) ∅ ∅).symm)
 have:=this (b-a) ∅
 rwa [Nat.add_sub_cancel' h1]at this
theorem zeh {γ:Type}{f:Nat->Nat->Option γ}{g:γ}:∀{n:Nat},g∈rlG ss f n↔∃i,i<n/\brk ss i=true/\f (stG ss i) i=some g
 |0=>⟨λm=>(nomatch m),λ⟨i,h,_⟩=>absurd h ∅⟩
 |n+1=>by
  have e1:rlG ss f (n+1)=if brk ss n=true then rlG ss f n++(f (stG ss n) n).toList else rlG ss f n:=rfl
  have ih:=zeh (f:=f) (g:=g) (n:=n)
  rw[e1]
  constructor
  ·intro m
   by_cases c:brk ss n=true
   ·rw[if_pos c]at m
    rcases wM.mp m with m | m
    ·obtain⟨i,h1,h2⟩:=ih.mp m;exact⟨i,by lia,h2⟩
    ·exact⟨n,by lia,c,uQ.mp m⟩
   ·rw[if_neg c]at m
    obtain⟨i,h1,h2⟩:=ih.mp m;exact⟨i,by lia,h2⟩
  ·rintro ⟨i,h1,h2,h3⟩
   rcases Nat.lt_or_ge i n with h | h
   ·have m:=ih.mpr ⟨i,h,h2,h3⟩
    by_cases c:brk ss n=true
    ·rw[if_pos c];exact wH _ m
    ·rw[if_neg c];exact m
   ·obtain rfl:i=n:=by lia
    rw[if_pos h2];exact wq _ (uQ.mpr h3)
end
def zdz {cs:List zC}{lo hi:Wl}{g:Grp}:g∈grL cs lo hi↔∃a b,zcg (cs.map zC.pl) a b/\fL cs lo hi a b=some g:=by
 unfold grL
 rw[zeh]
 constructor
 ·rintro ⟨i,h1,h2,h3⟩;exact⟨_,i,zio (by rw[wf];exact h1) h2,h3⟩
 ·rintro ⟨a,b,r,h⟩
  obtain⟨h2,rfl⟩:=zh7 r
  exact⟨b,by have:=r.2.1;rwa [wf]at this,h2,h⟩
def zfZ {ss:List Rat}{a b:Nat}(h:zcg ss a b):zcg ((ss.map λx => -x).reverse) (ss.length-1-b) (ss.length-1-a):=by
 obtain⟨h1,h2,h3,h4,h5⟩:=h
 have g:∀j,j<ss.length->((ss.map λx => -x).reverse)[j]?=(ss[ss.length-1-j]?).map λx => -x:=λj hj=>by
  rw[wX (by rw[wf];exact hj),wf,wg]
 have inj:∀{x y:Option Rat},x≠y->(x.map λx => -x)≠y.map λx => -x:=λ{x y} n e=>n (by
  cases x <;> cases y <;> simp at e ⊢
  grind)
 refine⟨by omega,by rw[wI,wf];omega,λj h6 h7=>?_,?_,?_⟩
 ·rw[g j (by omega),g _ (by omega),h3 _ (by omega) (by omega),<-h3 (ss.length-1-(ss.length-1-a)) (by omega) (by omega)]
 ·rcases h5 with z | z
  ·exact .inl (by omega)
  ·by_cases c:b+1=ss.length
   ·exact .inl (by omega)
   ·refine .inr ?_
    rw[g _ (by omega),g _ (by omega),show ss.length-1-(ss.length-1-b-1)=b+1 by omega,show ss.length-1-(ss.length-1-b)=b by omega]
    exact inj z
 ·rcases h4 with z | z
  ·exact .inl (by rw[wI,wf];omega)
  ·by_cases c:a=0
   ·exact .inl (by rw[wI,wf];omega)
   ·refine .inr ?_
    rw[g _ (by omega),g _ (by omega),show ss.length-1-(ss.length-1-a+1)=a-1 by omega,show ss.length-1-(ss.length-1-a)=a by omega]
    exact inj z
def oS (s:Str):Str:=if s = "low" then "high" else if s = "high" then "low" else ""
def ZM (n:Nat) (g:Grp):Grp:=(n-1-g.2.1,n-1-g.1,oS g.2.2)
def zh4 {x y:Rat}(h : -x=-y):x=y:=by grind
def zci (l:Wl) (x:Rat):atW (l.map nP) (-x)=atW l x:=by
 cases l with
 |none=>rfl
 |some z =>
  show decide (-z.1=-x)=decide (z.1=x)
  rw[yr,wK,wK]
  exact⟨zh4,λh=>by rw[h]⟩
def zhl (l:Wl) (g:Rat->Bool):wsp (l.map nP) g=wsp l λy=>g (-y):=by cases l <;> rfl
def NoB (lo hi:Wl):Prop:=∀k,¬(atW lo k=true/\atW hi k=true)
def ziv {lo hi:Wl}(nb:NoB lo hi) (x:Rat):qk (hi.map nP) (lo.map nP) (-x)=oS (qk lo hi x):=by
 have:=nb x
 unfold qk
 rw[zci,zci]
 cases c1:atW lo x <;> cases c2:atW hi x
 ·rfl
 ·rfl
 ·rfl
 ·exact absurd ⟨c1,c2⟩ this
def zby {cs:List zC}{i:Nat}(h:i<cs.length):(x6 cs)[cs.length-1-i]?=(cs[i]?).map nB:=by
 unfold x6
 rw[wX (by rw[wf];omega),wf,wg,show cs.length-1-(cs.length-1-i)=i by omega]
def Qk (cs:List zC):(x6 cs).length=cs.length:=by unfold x6;rw[wI,wf]
def zh1 (cs:List zC):(x6 cs).map zC.pl=((cs.map zC.pl).map λx => -x).reverse:=by
 unfold x6;rw[yA,wz,wz];rfl
def zhF {cs:List zC}{lo hi:Wl}(nb:NoB lo hi){a b:Nat}(r:zcg (cs.map zC.pl) a b):fL (x6 cs) (hi.map nP) (lo.map nP) (cs.length-1-b) (cs.length-1-a)=(fL cs lo hi a b).map (ZM cs.length):=by
 obtain⟨h1,h2,h3,_⟩:=r
 rw[wf]at h2
 obtain⟨ca,ea⟩:∃c,cs[a]?=some c:=⟨_,wk (by omega)⟩
 obtain⟨cb,eb⟩:∃c,cs[b]?=some c:=⟨_,wk h2⟩
 have ep:ca.pl=cb.pl:=by
  have:=h3 a (wo _) h1
  rw[wg,wg,ea,eb]at this
  exact Option.some.inj this
 have fa:(x6 cs)[cs.length-1-a]?=some (nB ca):=by rw[zby (by omega),ea];rfl
 have fb:(x6 cs)[cs.length-1-b]?=some (nB cb):=by rw[zby h2,eb];rfl
 have eg:vH (x6 cs) (hi.map nP) (lo.map nP) (cs.length-1-b) (cs.length-1-a)=vH cs lo hi a b:=by
  rw[Qh fb fa,Qh ea eb,zhl,zhl]
  show (if atW _ (-cb.pl)=true then wsp hi (λy=>decide (-cb.sp < -y))else if atW _ (-cb.pl)=true then wsp lo (λy=>decide (-y < -ca.sp))else false)=_
  rw[zci,zci,<-ep]
  have e1:(λy=>decide (-cb.sp < -y))=λy=>decide (y<cb.sp):=funext λy=>decide_eq_decide.mpr (zaB _ _)
  have e2:(λy=>decide (-y < -ca.sp))=λy=>decide (ca.sp<y):=funext λy=>decide_eq_decide.mpr (zaB _ _)
  rw[e1,e2]
  have:=nb ca.pl
  cases c1:atW lo ca.pl <;> cases c2:atW hi ca.pl
  ·rfl
  ·rfl
  ·rfl
  ·exact absurd ⟨c1,c2⟩ this
 have e1:(((x6 cs).map zC.pl)[cs.length-1-b]?).getD 0=-cb.pl:=by rw[wg,fb];rfl
 have e2:((cs.map zC.pl)[a]?).getD 0=ca.pl:=by rw[wg,ea];rfl
 unfold fL
 rw[eg,e1,e2,<-ep,ziv nb]
 by_cases c:a<b\/vH cs lo hi a b=true
 ·rw[if_pos c,if_pos (by rcases c with c | c;exact .inl (by omega);exact .inr c)];rfl
 ·rw[if_neg c,if_neg (λz=>c (by rcases z with z | z;exact .inl (by omega);exact .inr z))];rfl
def zaW {l m:List Grp}(hl:l.Pairwise λg g'=>g.2.1<g'.1) (hm:m.Pairwise λg g'=>g.2.1<g'.1) (vl:∀g∈l,g.1<=g.2.1) (h:∀g,g∈l↔g∈m):l=m:=by
 have nd:∀{k:List Grp},k.Pairwise (λg g'=>g.2.1<g'.1)->(∀g∈k,g.1<=g.2.1)->k.Nodup:=λ{k} hk v=>by
  refine(List.Pairwise.and_mem.mp hk).imp λ{x y} z e=>?_
  have:=v x z.1;have:=z.2.2;rw[e]at *;lia
 have vm:∀g∈m,g.1<=g.2.1:=λg mg=>vl g ((h g).mpr mg)
 have pm:l.Perm m:=(List.perm_ext_iff_of_nodup (nd hl vl) (nd hm vm)).mpr h
 refine pm.eq_of_pairwise (λx y mx my h1 h2=>?_) hl hm
 have:=vl x mx;have:=vm y my;lia
def zcG {n:Nat}{g:Grp}(h1:g.1<=g.2.1) (h2:g.2.1<n) (hs:g.2.2 = "low"\/g.2.2 = "high"\/g.2.2 = ""):ZM n (ZM n g)=g:=by
 obtain⟨a,b,s⟩:=g
 unfold ZM
 dsimp only at *
 rw[show n-1-(n-1-a)=a by omega,show n-1-(n-1-b)=b by omega]
 rcases hs with rfl | rfl | rfl <;> rfl
def zgT (l:Wl):(l.map nP).map nP=l:=by
 rw[uT,show nP ∘ nP=id from funext nn,Option.map_id];rfl
def zcF (cs:List zC):x6 (x6 cs)=cs:=by
 unfold x6
 rw[yA,List.reverse_reverse,wz,show nB ∘ nB=id from funext λc=>by show (⟨- -c.pl,- -c.sp,c.wt⟩:zC)=c;rw[Rat.neg_neg,Rat.neg_neg],List.map_id]
def zjy {lo hi:Wl}(nb:NoB lo hi):NoB (hi.map nP) (lo.map nP):=λk z=>by
 have e:k=- -k:=by grind
 rw[e,zci,zci]at z
 exact nb (-k) ⟨z.2,z.1⟩
def Vb (lo hi:Wl) (k:Rat):qk lo hi k = "low"\/qk lo hi k = "high"\/qk lo hi k = "":=by
 unfold qk
 split
 ·exact .inl rL
 ·split
  ·exact .inr (.inl rL)
  ·exact .inr (.inr rL)
def zbq {cs:List zC}{lo hi:Wl}(nb:NoB lo hi){g:Grp}(m:g∈grL cs lo hi):ZM cs.length g∈grL (x6 cs) (hi.map nP) (lo.map nP):=by
 obtain⟨a,b,r,e⟩:=zdz.mp m
 have r':=zfZ r
 rw[<-zh1,wf]at r'
 exact zdz.mpr ⟨_,_,r',by rw[zhF nb r,e];rfl⟩
def zhJ {cs:List zC}{lo hi:Wl}(nb:NoB lo hi):grL (x6 cs) (hi.map nP) (lo.map nP)=(grL cs lo hi).reverse.map (ZM cs.length):=by
 have F:∀g∈grL cs lo hi,_:=λg m=>qj m
 refine zaW (zdA _ _ _) ?_ (λg m=>(qj m).1) λg=>⟨λm=>?_,λm=>?_⟩
 ·rw[ym,uN]
  refine(List.Pairwise.and_mem.mp (zdA cs lo hi)).imp λ{x y} z=>?_
  have h1:=(F x z.1).1;have h2:=(F y z.2.1).2.1;have h3:=z.2.2;have:=(F x z.1).2.1
  show cs.length-1-y.1<cs.length-1-x.2.1
  have:=(F y z.2.1).1
  omega
 ·have h:=zbq (zjy nb) m
  rw[zgT,zgT,zcF,Qk]at h
  obtain⟨h1,h2,h3,_⟩:=qj m
  rw[Qk]at h2
  exact wA.mpr ⟨_,yp.mpr h,zcG h1 h2 (by rw[h3];exact Vb ..)⟩
 ·obtain⟨g',m',rfl⟩:=wA.mp m
  exact zbq nb (yp.mp m')
def JT {l:List Int}:qW l=true↔∀x∈l,∀y∈l,x=y:=by
 unfold qW
 rw[W7]
 constructor
 ·intro h x mx y my
  rw[wF (h x mx),wF (h y my)]
 ·intro h x mx
  refine wE (h x mx _ ?_)
  cases l with
  |nil=>cases mx
  |cons z l=>exact wU
def zdl {ws:List Int}{vs ss:List Rat}{wv:Option Rat}(h:v8 ws vs wv ss):v8 ws.reverse (vs.map λv => -v).reverse (wv.map λv => -v) (ss.map λv => -v).reverse:=by
 rcases h with⟨rfl,w0,w1,s0,s1,rfl,rfl,rfl⟩ | ⟨h0,h1,h2⟩
 ·refine .inl ⟨rL,w1,w0,-s1,-s0,rL,rL,?_⟩
  have e:twR w1 w0 (-s1) (-s0)=-twR w0 w1 s0 s1:=by
   unfold twR
   rw[show (w1:Rat)+w0=w0+w1 by grind,show 2*((w1:Rat) * -s1+w0 * -s0)=-(2*(w0*s0+w1*s1)) by grind,W0,W0]
   grind
  show [-(twR w0 w1 s0 s1-s1),-(twR w0 w1 s0 s1-s0)]=_
  rw[e]
  congr 1
  ·grind
  ·congr 1;grind
 ·refine .inr ⟨λz=>h0 ⟨uF.mp z.1,by rw[<-wI];exact z.2⟩,JT.mpr λx mx y my=>JT.mp h1 x (yp.mp mx) y (yp.mp my),?_,?_⟩
  ·have:=(h2.1.map λv => -v)
   refine((List.reverse_perm _).trans this).trans ?_
   refine List.Perm.trans (List.Perm.of_eq ?_) ((List.reverse_perm (vs.map λv => -v)).map _).symm
   rw[wz,wz]
   refine yz λv _=>?_
   cases wv with
   |none=>rfl
   |some z=>show -(2*z-v)=2 * -z - -v;grind
  ·rw[uN,ym]
   exact h2.2.imp λ{x y} l=>by grind
def V9 {α β:Type}(f:α->β){l:List α}{g:Grp}(h1:g.1<=g.2.1) (h2:g.2.1<l.length):qB (l.map f).reverse (ZM l.length g)=((qB l g).map f).reverse:=by
 refine yK λj=>?_
 rw[vM]
 have hl:=zeu h2
 show (if j<l.length-1-g.1+1-(l.length-1-g.2.1)then _ else none)=_
 by_cases c:j<g.2.1+1-g.1
 ·rw[if_pos (by omega),wX (by rw[wf];show l.length-1-g.2.1+j<_;omega),wX (by rw[wf,hl];exact c),wf,wf,hl,wg,wg,vM,if_pos (by omega)]
  congr 2
  show l.length-1-(l.length-1-g.2.1+j)=_
  omega
 ·rw[if_neg (by omega),wT (by rw[wI,wf,hl];omega)]
def zfc {cs ds:List zC}{lo hi:Wl}(h:Vg cs lo hi (grL cs lo hi) ds):Vg (x6 cs) (hi.map nP) (lo.map nP) ((grL cs lo hi).reverse.map (ZM cs.length)) (x6 ds):=by
 have es:∀l:List zC,(x6 l).map zC.sp=((l.map zC.sp).map λv => -v).reverse:=λl=>by unfold x6;rw[yA,wz,wz];rfl
 have ew:∀l:List zC,(x6 l).map zC.wt=(l.map zC.wt).reverse:=λl=>by unfold x6;rw[yA,wz];rfl
 have el:ds.length=cs.length:=by have:=congrArg List.length h.pw;simpa using this
 refine⟨?_,λg m=>?_,λi hi'=>?_⟩
 ·have:=congrArg (λl=>(l.map λz:Rat×Int=>(-z.1,z.2)).reverse) h.pw
  rw[wz,wz]at this
  unfold x6
  rw[yA,yA,wz,wz];exact this
 ·obtain⟨g',m',rfl⟩:=wA.mp m
  have m':=yp.mp m'
  obtain⟨h1,h2,h3,_⟩:=qj m'
  have hd:=zdl (h.gr g' m')
  rw[es,es,ew]
  have z1:=V9 (λv:Rat => -v) (l:=cs.map zC.sp) (g:=g') h1 (by rw[wf];exact h2)
  have z2:=V9 (λv:Rat => -v) (l:=ds.map zC.sp) (g:=g') h1 (by rw[wf];omega)
  have z3:=V9 (λv:Int=>v) (l:=cs.map zC.wt) (g:=g') h1 (by rw[wf];exact h2)
  rw[wf]at z1 z2 z3
  rw[List.map_id',List.map_id']at z3
  rw[el]at z2
  rw[z1,z2,z3]
  have e:(qT (ZM cs.length g').2.2 (hi.map nP) (lo.map nP)).map Prod.snd=((qT g'.2.2 lo hi).map Prod.snd).map λv => -v:=by
   show (qT (oS g'.2.2) (hi.map nP) (lo.map nP)).map Prod.snd=_
   have:=Vb lo hi (((cs.map zC.pl)[g'.1]?).getD 0)
   rw[<-h3]at this
   rcases this with z | z | z
   ·rw[z];cases lo <;> rfl
   ·rw[z];cases hi <;> rfl
   ·rw[z];rfl
  rw[e];exact hd
 ·rw[es,es]
  by_cases c:i<cs.length
  ·have hn:=h.no (cs.length-1-i) λg m z=>by
    obtain⟨h1,h2,_⟩:=qj m
    exact hi' _ (wA.mpr ⟨g,yp.mpr m,rfl⟩) ⟨by have:=z.2;show cs.length-1-g.2.1<=i;omega,by have:=z.1;show i<=cs.length-1-g.1;omega⟩
   have:=congrArg (Option.map λv:Rat => -v) hn
   rw[<-wg,<-wg]at this
   rw[wX (by rw[wf,wf,el];exact c),wX (by rw[wf,wf];exact c),wf,wf,wf,wf,el]
   exact this
  ·rw[wT (by rw[wI,wf,wf,el];omega),wT (by rw[wI,wf,wf];omega)]
open KQ (v7 qY VJ TxQ qX Qt zeF zgk In vY chO laQ laP)
structure RwH (H:Hp) (r wa:Addr) (bs:List zC) (lo hi:Wl):Prop where
 row:∃us,H r=some (.tup us)/\zP H us bs
 wal:∃v1 v2,H wa=some (.tup [v1,v2])/\xa H v1 lo/\xa H v2 hi
def Qw {H H':Hp}(e:zU H H'):∀{us:List V}{bs:List zC},zP H us bs->zP H' us bs
 |_,_,.nil=>.nil
 |_,_,.cons h1 h2 h3 t=>.cons (e _ _ h1) (e _ _ h2) (e _ _ h3) (Qw e t)
def RwH.keeps {H H':Hp}{r wa:Addr}{bs:List zC}{lo hi:Wl}(h:RwH H r wa bs lo hi) (e:zU H H'):RwH H' r wa bs lo hi:=by
 obtain⟨⟨us,h1,h2⟩,v1,v2,h3,h4,h5⟩:=h
 exact⟨⟨us,e _ _ h1,Qw e h2⟩,v1,v2,e _ _ h3,h4.tups e,h5.tups e⟩
def Je {Tb:Addr}{q:Str}{p:Pos}{H H':Hp}(T:x0 Tb q p H) (s:StT Tb H H'):zU H H':=λb xs e=>s b _ e λz=>by
 obtain⟨ps,h,_⟩:=T;rw[z,h]at e;cases e
structure RwS (bs:List zC) (lo hi:Wl):Prop where
 n1:1<=bs.length
 n8:bs.length<=8
 z:TZ bs lo hi
 o:Ord bs lo hi
 w:∀c∈bs,1<=c.wt/\c.wt<=1000
def grM (bs:List zC) (lo hi:Wl) (m:Rat):List Grp:=grL (bs.map (xp m)) (zL m lo) (zL m hi)
structure CoR (bs:List zC) (lo hi:Wl) (m:Rat) (ds:List zC):Prop where
 so:vj (tl bs lo hi)=some m
 sh:xC lo hi≠some m
 be:Vg (bs.map (xp m)) (zL m lo) (zL m hi) (grM bs lo hi m) ds
def CoR.uniq {bs ds ds':List zC}{lo hi:Wl}{m m':Rat}(h:CoR bs lo hi m ds) (k:CoR bs lo hi m' ds'):m=m'/\ds=ds':=by
 obtain rfl:m=m':=Option.some.inj (h.so.symm.trans k.so)
 exact⟨rL,h.be.uniq k.be⟩
def zjc (bs:List zC) (lo hi:Wl):Prop:=∃m,vj (tl bs lo hi)=some m/\(xC lo hi=some m\/∃g∈grM bs lo hi m,∀ss,¬v8 (qB ((bs.map (xp m)).map zC.wt) g) (qB ((bs.map (xp m)).map zC.sp) g) ((qT g.2.2 (zL m lo) (zL m hi)).map Prod.snd) ss)
def CoR.fit {bs ds:List zC}{lo hi:Wl}{m:Rat}(h:CoR bs lo hi m ds):¬zjc bs lo hi:=by
 rintro ⟨m',e,k⟩
 obtain rfl:m=m':=Option.some.inj (h.so.symm.trans e)
 rcases k with k | ⟨g,mg,k⟩
 ·exact h.sh k
 ·exact k _ (h.be.gr g mg)
def zg4 {H:Hp}:∀{us:List V}{bs:List zC},Z5 H us (bs.map bl)->zP H us bs
 |[],[],_=>.nil
 |[],_::_,h=>by have:=h.1;simp at this
 |_::_,[],h=>by have:=h.1;simp at this
 |u::us,b::bs,h=>by
  obtain⟨b',e,a,p,q,rfl,h1,h2,h3⟩:=h.2 0 u rfl
  cases e
  exact .cons h1 h2 h3 (zg4 ⟨by have:=h.1;simpa using this,λi v e=>by obtain⟨b,e1,e2⟩:=h.2 (i+1) v ↥e;exact⟨b,↥e1,e2⟩⟩)
def zbM {H:Hp}{v:V}{l:Wl}(h:KQ.Vi H v l):xa H v l:=by
 cases l with
 |none=>exact h
 |some u=>obtain⟨x,y⟩:=u;obtain⟨a,p,q,e,g1,g2,g3⟩:=h;exact⟨a,p,q,e,g1,g2,g3⟩
def zfT {pb sb:Int}{t:Int×Int}{x y m:Rat}(hp:0<pb) (hs:0<sb) (ht:0<t.2) (d1:(x.den:Int) ∣ pb) (d2:(y.den:Int) ∣ sb) (hm:qr (Rat.divInt sb pb) t=m):ptT pb sb t (trB pb sb (x,y))=(x+y*m,y):=by
 have k1:=Vd hp ht d1 d2 hm
 have e2:(((trB pb sb (x,y)).2:Int):Rat)=y*sb:=byq d2
 unfold ptT
 have q0:pb*t.2≠0:=yi ∅ ∅
 rw[dq q0,dq (show sb≠0 by lia),k1,e2]
 have h1:=ic0 q0
 have h2:=ic0 (show sb≠0 by lia)
 push_cast at h1 ⊢
 exact Wv (by dsimp only;grind) (by dsimp only;grind)
def zah:∀cs:List zC,cs.map (λb=>(b.pl,b.sp))=(cs.map zC.pl).zip (cs.map zC.sp)
 |[]=>rfl
 |c::cs=>by show _::cs.map _=_::(cs.map zC.pl).zip (cs.map zC.sp);rw[zah cs]
def wS (cs:List zC) (vs:List Rat):List zC:=(cs.zip vs).map λz=>⟨z.1.pl,z.2,z.1.wt⟩
def zhj {cs:List zC}{vs:List Rat}(h:vs.length=cs.length):(wS cs vs).map zC.sp=vs:=by
 unfold wS
 rw[wz,show (zC.sp ∘ λz:zC×Rat=>(⟨z.1.pl,z.2,z.1.wt⟩:zC))=Prod.snd from rfl,List.map_snd_zip ∅]
def zkT {cs:List zC}{vs:List Rat}(h:vs.length=cs.length):(wS cs vs).map (λb=>(b.pl,b.wt))=cs.map λb=>(b.pl,b.wt):=by
 unfold wS
 rw[wz,show ((λb:zC=>(b.pl,b.wt)) ∘ λz:zC×Rat=>(⟨z.1.pl,z.2,z.1.wt⟩:zC))=(λb:zC=>(b.pl,b.wt)) ∘ Prod.fst from rfl,<-wz,List.map_fst_zip ∅]
def Jt {bs:List zC}{lo hi:Wl}{t:Int×Int}{m:Rat}{pre:List Grp}{S:SC}(Z:RwS bs lo hi) (B:Bot bs lo hi) (ht:0<t.2) (hm:qr (tkO (bs.map bl) lo hi) t=m) (hp:∃suf,grM bs lo hi m=pre++suf) (C:vn ((bs.map bl).map KQ.Bl.wt) pre (S0 (bs.map bl) lo hi) S) :
  ∃ds,(S.trs.zip ((bs.map bl).map KQ.Bl.wt)).map (λz=>blT S.pb S.sb t z.1 z.2)=ds.map bl/\S.lo.map (ptT S.pb S.sb t)=zL m lo/\S.hi.map (ptT S.pb S.sb t)=zL m hi/\Vg (bs.map (xp m)) (zL m lo) (zL m hi) pre ds:=by
 obtain⟨suf,hsuf⟩:=hp
 have ews:(bs.map bl).map KQ.Bl.wt=bs.map zC.wt:=by rw[wz];rfl
 rw[ews]at C ⊢
 have ept:∀u∈tl bs lo hi,ptT (S0 (bs.map bl) lo hi).pb (S0 (bs.map bl) lo hi).sb t (trB (S0 (bs.map bl) lo hi).pb (S0 (bs.map bl) lo hi).sb u)=(u.1+u.2*m,u.2):=λu mu=>by
  obtain⟨x,y⟩:=u
  obtain⟨d1,d2⟩:=B.dv _ mu
  exact zfT B.p0 B.s0 ht d1 d2 hm
 have mB:∀c∈bs,(c.pl,c.sp)∈tl bs lo hi:=λc mc=>by unfold tl;exact wH _ (wq _ (wA.mpr ⟨c,mc,rfl⟩))
 have etrs:(S0 (bs.map bl) lo hi).trs=bs.map λc=>trB (pbO (bs.map bl) lo hi) (sbO (bs.map bl) lo hi) (c.pl,c.sp):=Jg bs lo hi
 have elen:(S0 (bs.map bl) lo hi).trs.length=bs.length:=by rw[etrs,wf]
 obtain⟨cs,ecs⟩:∃cs,cs=bs.map (xp m):=⟨_,rfl⟩
 have lcs:cs.length=bs.length:=by rw[ecs,wf]
 have eT:(S0 (bs.map bl) lo hi).trs.map (ptT (S0 (bs.map bl) lo hi).pb (S0 (bs.map bl) lo hi).sb t)=(cs.map zC.pl).zip (cs.map zC.sp):=by
  rw[<-zah,ecs,etrs,wz,wz]
  exact yz λc mc=>ept _ (mB c mc)
 have mL:∀u,lo=some u->u∈tl bs lo hi:=λu e=>by unfold tl;rw[e];simp[xR]
 have mH:∀u,hi=some u->u∈tl bs lo hi:=λu e=>by unfold tl;rw[e];simp[xR]
 have eW:∀{l:Wl},(∀u,l=some u->u∈tl bs lo hi)->(l.map (trB (pbO (bs.map bl) lo hi) (sbO (bs.map bl) lo hi))).map (ptT (S0 (bs.map bl) lo hi).pb (S0 (bs.map bl) lo hi).sb t)=zL m l:=λ{l} hl=>by
  cases l with
  |none=>rfl
  |some u=>exact congrArg some (ept u (hl u rfl))
 have eS:∀g∈pre,(zX g.2.2 (S0 (bs.map bl) lo hi).lo (S0 (bs.map bl) lo hi).hi).map (ptT (S0 (bs.map bl) lo hi).pb (S0 (bs.map bl) lo hi).sb t)=qT g.2.2 (zL m lo) (zL m hi):=λg mg=>by
  obtain⟨_,_,h3,_⟩:=qj (show g∈grL (bs.map (xp m)) (zL m lo) (zL m hi)from show g∈grM bs lo hi m from by rw[hsuf];exact wH _ mg)
  rw[ZE]
  have e1:=eW mL;have e2:=eW mH
  rw[show (S0 (bs.map bl) lo hi).lo=lo.map (trB (pbO (bs.map bl) lo hi) (sbO (bs.map bl) lo hi))from rfl,show (S0 (bs.map bl) lo hi).hi=hi.map (trB (pbO (bs.map bl) lo hi) (sbO (bs.map bl) lo hi))from rfl,e1,e2]
  have:=Vb (zL m lo) (zL m hi) (((bs.map (xp m)).map zC.pl)[g.1]?.getD 0)
  rw[<-h3]at this
  rcases this with z | z | z <;> rw[z] <;> rfl
 obtain⟨vs',hl,hlS,_,_,hz,elo,ehi,hd,hn⟩:=zcn (t:=t) (pls:=cs.map zC.pl) (vs:=cs.map zC.sp) C (λx mx=>by obtain⟨c,mc,rfl⟩:=wA.mp mx;exact Z.w c mc) B.p0 B.s0 ht (by rw[wf,elen]) eT (by rw[wf,wf]) (by rw[wf,elen,lcs]) (λg mg=>by
  have mg':g∈grL (bs.map (xp m)) (zL m lo) (zL m hi):=by
   have:g∈grM bs lo hi m:=by rw[hsuf];exact wH _ mg
   exact this
  obtain⟨h1,h2,_,pl,h3,h4⟩:=qj mg'
  rw[<-ecs]at h2 h3
  refine⟨h1,by rw[wf];exact h2,pl,h3,λu eu=>?_⟩
  have:=eS g mg
  rw[eu]at this
  exact h4 _ this.symm) (by
  have:=zdA (bs.map (xp m)) (zL m lo) (zL m hi)
  have hs:grL (bs.map (xp m)) (zL m lo) (zL m hi)=pre++suf:=hsuf
  rw[hs]at this
  exact(wZ.mp this).1)
 rw[wf]at hl
 refine⟨wS cs vs',?_,elo.trans (eW mL),ehi.trans (eW mH),?_⟩
 ·refine yK λi=>?_
  have e:=congrArg (·[i]?) hz
  simp only[wg,vZ]at e
  unfold wS
  rw[wz,wg,wg,vZ,vZ,wg]
  cases h1:S.trs[i]? with
  |none =>
   have:cs.length<=i:=by have:=WP.mp h1;lia
   rw[wT this];rfl
  |some x =>
   have hi':i<cs.length:=by have:=(wn.mp h1).1;lia
   obtain⟨c,ec⟩:∃c,cs[i]?=some c:=⟨_,wk hi'⟩
   obtain⟨v,ev⟩:∃v,vs'[i]?=some v:=⟨_,wk ∅⟩
   obtain⟨b,eb⟩:∃c,bs[i]?=some c:=⟨_,wk ∅⟩
   have ecb:c=xp m b:=by rw[ecs,wg,eb]at ec;exact(Option.some.inj ec).symm
   rw[h1,ec,ev]at e
   have e:=Option.some.inj e
   rw[ec,ev,eb]
   show some (blT S.pb S.sb t x b.wt)=some (bl ⟨c.pl,v,c.wt⟩)
   unfold blT bl
   rw[e,ecb];rfl
 ·rw[<-ecs]
  refine⟨zkT hl,λg mg=>?_,λi hi'=>?_⟩
  ·have:=hd g mg
   rw[zhj hl]
   have e:(zX g.2.2 (S0 (bs.map bl) lo hi).lo (S0 (bs.map bl) lo hi).hi).map (λl=>(ptT (S0 (bs.map bl) lo hi).pb (S0 (bs.map bl) lo hi).sb t l).2)=(qT g.2.2 (zL m lo) (zL m hi)).map Prod.snd:=by
    rw[<-eS g mg,uT];rfl
   rw[e]at this
   have ew:cs.map zC.wt=bs.map zC.wt:=by rw[ecs,wz];rfl
   rw[ew];exact this
  ·rw[zhj hl];exact hn i hi'
section
variable {P:Program}{w:World}{K:Fg}{mg:Str->Option Value}{base:Heap}{C CS CT Tb:Addr}
inductive zb0 (CS:Addr) (CT:Addr) (Tb:Addr) (vs:List V) (H:Hp) (Q:VK) (E:XK):Prop
 |mk:∀r wa bs lo hi,(vs=[.ref r,.ref wa])->(RwH H r wa bs lo hi)->(RwS bs lo hi)->(x0 Tb laQ laP H)->((∀H',zj H H'->vj (tl bs lo hi)=none->Q .non H'))->((∀p mm r' wa' m ds H',StT Tb H H'->x0 Tb laQ laP H'->CoR bs lo hi m ds->H' p=some (.tup [.ref mm,.ref r',.ref wa'])->zD H' mm m->RwH H' r' wa' ds (zL m lo) (zL m hi)->Q (.ref p) H'))->((∀C dx H',StT Tb H H'->x0 Tb laQ laP H'->(C=CS\/C=CT)->zjc bs lo hi->E (.ref C) (some dx) H'))->zb0 CS CT Tb vs H Q E
theorem zh9 (c:vG P w K mg base "behind" 6 ["row","walls"] [] (zgk C CS CT Tb)):vG P w K mg base "behind" 6 ["row","walls"] [] (zb0 CS CT Tb):=by
 refine c.imp λvs H Q E h=>?_
 rcases q:h with⟨r,wa,bs,lo,hi,rfl,⟨⟨us,hr,hB⟩,v1,v2,hw,h1,h2⟩,Z,T1,k1,k2,k3⟩
 have I:=zgO hr hB hw h1 h2 Z.n8 Z.z
 have B:=bot Z.n8 Z.z
 have R:=zbZ B
 have hbd:KQ.BdS 4200 (S0 (bs.map bl) lo hi):=by
  refine⟨B.pz.md,B.sz.md,B.p0,B.s0,λt mt=>?_,λl e=>?_,λl e=>?_⟩
  ·have:=I.bd t (wH _ (wq _ mt))
   exact⟨this.1.md,this.2.md⟩
  ·have e':lo.map (trB (pbO (bs.map bl) lo hi) (sbO (bs.map bl) lo hi))=some l:=e
   have:=I.bd l (wH _ (wH _ (by rw[e'];simp[KQ.JN])))
   exact⟨this.1.md,this.2.md⟩
  ·have e':hi.map (trB (pbO (bs.map bl) lo hi) (sbO (bs.map bl) lo hi))=some l:=e
   have:=I.bd l (wq _ (by rw[e'];simp[KQ.JN]))
   exact⟨this.1.md,this.2.md⟩
 have gse:∀{t:Int×Int},vY (chO (bs.map bl) lo hi)=some t->∃m,vj (tl bs lo hi)=some m/\0<t.2/\qr (tkO (bs.map bl) lo hi) t=m/\KQ.gsO (bs.map bl) lo hi t=grM bs lo hi m:=λ{t} e=>by
  rcases R with⟨e1,_⟩ | ⟨t',m',e1,e2,pt,em⟩
  ·rw[e]at e1;cases e1
  ·rw[e]at e1;cases e1
   exact⟨m',e2,pt,em,zgM B Z.o pt em (XT Z.o e2)⟩
 refine⟨r,wa,bs.map bl,lo,hi,rL,I,T1,λb mb=>?_,hbd,?_,?_,?_,?_⟩
 ·obtain⟨c,mc,rfl⟩:=wA.mp mb;exact Z.w c mc
 ·intro H2 s2 e
  rcases R with⟨_,e2⟩ | ⟨t,m',e1,_⟩
  ·exact k1 H2 s2 e2
  ·rw[e]at e1;cases e1
 ·intro t S p mm r' wa' us' w1 w2 H2 e sh ch st tb hp hm hr' hrow hwa' hp1 hp2
  rcases q:gse e with⟨m,es,pt,em,eg⟩
  rw[eg]at ch
  rw[em]at hm sh
  obtain⟨ds,e1,e2,e3,hb⟩:=Jt Z B pt em ⟨[],by rw[yM]⟩ ch
  rw[e1]at hrow;rw[e2]at hp1;rw[e3]at hp2
  exact k2 p mm r' wa' m ds H2 st tb ⟨es,sh,hb⟩ hp hm ⟨⟨us',hr',zg4 hrow⟩,w1,w2,hwa',zbM hp1,zbM hp2⟩
 ·intro t p dx H2 s2 e em _ _
  rcases q:gse e with⟨m,es,_,em',_⟩
  rw[em']at em
  exact k3 CS dx H2 (.of s2) (T1.same s2) (.inl rL) ⟨m,es,.inl em⟩
 ·intro t S pre g suf p dx H2 e _ es' ch rf st tb _ _
  rcases q:gse e with⟨m,es,pt,em,eg⟩
  rw[eg]at es'
  rcases q:Jt Z B pt em ⟨g::suf,es'⟩ ch with⟨ds,_,e2,e3,hb⟩
  have mg:g∈grM bs lo hi m:=by rw[es'];exact wq _ wU
  refine k3 CT dx H2 st tb (.inr rL) ⟨m,es,.inr ⟨g,mg,λss hd=>?_⟩⟩
  have ews:(bs.map bl).map KQ.Bl.wt=(bs.map (xp m)).map zC.wt:=by rw[wz,wz];rfl
  rw[ews]at rf
  obtain⟨r1,r2⟩:=rf
  have r2:qW (xB ((bs.map (xp m)).map zC.wt) g.1 g.2.1)=false:=r2
  have r1:KQ.vf (zX g.2.2 S.lo S.hi) (xB ((bs.map (xp m)).map zC.wt) g.1 g.2.1)=false:=r1
  rw[show xB ((bs.map (xp m)).map zC.wt) g.1 g.2.1=qB ((bs.map (xp m)).map zC.wt) g from Qg _ _ _]at r1 r2
  rcases hd with⟨z,w0,w1,s0,s1,ew,_⟩ | ⟨_,z,_⟩
  ·have hno:zX g.2.2 S.lo S.hi=none:=by
    have z:=uF.mp z
    obtain⟨_,_,h3,_⟩:=qj mg
    have s3:=Vb (zL m lo) (zL m hi) (((bs.map (xp m)).map zC.pl)[g.1]?.getD 0)
    rw[<-h3]at s3
    have:(zX g.2.2 S.lo S.hi).map (ptT S.pb S.sb t)=none:=by
     rw[ZE,e2,e3]
     rcases s3 with y | y | y <;> rw[y]at z ⊢ <;> exact z
    exact uF.mp this
   unfold KQ.vf at r1
   rw[hno,ew]at r1
   simp at r1
  ·rw[z]at r2;cases r2
inductive zeB (Tb:Addr) (vs:List V) (H:Hp) (Q:VK) (_e3:XK):Prop
 |mk:∀r wa bs lo hi m ds,(vs=[.ref r,.ref wa])->(RwH H r wa bs lo hi)->(RwS bs lo hi)->(x0 Tb laQ laP H)->(CoR bs lo hi m ds)->(∀p mm r' wa' H',StT Tb H H'->x0 Tb laQ laP H'->H' p=some (.tup [.ref mm,.ref r',.ref wa'])->zD H' mm m->RwH H' r' wa' ds (zL m lo) (zL m hi)->Q (.ref p) H')->zeB Tb vs H Q _e3
inductive zb4  (vs:List V) (H:Hp) (Q:VK) (_e3:XK):Prop
 |mk:∀r wa bs lo hi m ds,(vs=[.ref r,.ref wa])->(RwH H r wa bs lo hi)->(RwS bs lo hi)->(CoR bs lo hi m ds)->(∀p mm G gs H',zj H H'->H' p=some (.tup [.ref mm,.ref G])->zD H' mm m->H G=none->H' G=some (.lst gs)->qX H' gs (grM bs lo hi m)->Q (.ref p) H')->zb4 vs H Q _e3
end
end KT
namespace L2
open KM in
def Sz.div {m n:Nat}{x y:Rat}(h:Sz m x) (k:Sz n y) (y0:y≠0):Sz (m+n) (x/y):=by
 rw[<-V0]
 exact .divInt (yi (xL x) (λz=>y0 (Yc.mp z))) (h.1.mul k.2) (h.2.mul k.1)
open PySem PySem.Spec PyProof.Rows
def VP {K:Fg}{H:Hp}{a b:Addr}{xs ys:List V}{Q:VK}(ha:H a=some (.tup xs)) (hb:H b=some (.tup ys)) (hl:xs.length+ys.length<=1000) (k:∀q H',zj H H'->H' q=some (.tup (xs++ys))->Q (.ref q) H'):zgW K (.ref a) (.ref b) H Q :=
 ⟨a,b,xs,ys,rfl,rfl,.of ha,.of hb,szl hl,λz=>k b H (zj.refl _) (by rw[z];exact hb),λ_ z=>k a H (zj.refl _) (by rw[z,yM];exact ha),λ_ _ p hp=>k p _ (zj.upd hp) zg⟩
def zbh {K:Fg}{H:Hp}{a:Addr}{xs:List V}{lo hi:Option Int}{Q:VK}(ha:H a=some (.tup xs)) (k:∀q H',zj H H'->H' q=some (.tup (qZ xs lo hi))->Q (.ref q) H'):zkh K (.ref a) lo hi H Q\/zki K (.ref a) lo hi H Q:=by
 by_cases w:HT.sIx xs.length 0 lo=0/\HT.sIx xs.length xs.length hi=xs.length
 ·refine .inr ⟨a,xs,rL,.of ha,w,k a H (zj.refl _) ?_⟩
  have:qZ xs lo hi=xs:=by unfold qZ;rw[w.1,w.2];simp
  rw[this];exact ha
 ·exact .inl ⟨a,xs,rL,.of ha,w,λp hp=>k p _ (zj.upd hp) zg⟩
section
variable {X:Cx}
inductive zed (K:Fg) (x:V) (y:V) (H:Hp) (Q:VK):Prop
 |mk:∀l b xs zs,(x=.ref l)->(y=.ref b)->(SqL K H l xs)->(SqL K H b zs)->(xs.length+zs.length<=sizeLine)->(∀p,H p=none->Q (.ref p) (upd H p (.lst (xs++zs))))->zed K x y H Q
def zkd (K:Fg):R2:=λx y H Q=>zed K x y H Q
theorem zfF:OpR X (binaryOp .Add) (zkd X.K):=by
 intro pz s σ H x y v u Q I rx ry h
 obtain⟨l,b,xs,zs,rfl,rfl,hH,hB,hz,q⟩:=h
 cases rx
 cases ry
 obtain⟨its,r,pl,z⟩:=I.list hH
 obtain⟨its2,r2,pl2,z2⟩:=I.list hB
 have e1:=r.length
 have e2:=r2.length
 obtain⟨⟨cls,dd,data,sl⟩,n,ho,hc,hdn,hd⟩:=pl
 obtain⟨⟨cls2,dd2,data2,sl2⟩,n2,ho2,hc2,hdn2,hd2⟩:=pl2
 simp only at hc hd hc2 hd2
 subst hc hd hc2 hd2
 refine concat_meets ⟨_,ho,rfl⟩ ⟨_,ho2,rfl⟩ noFill_list_add seq_list_add PySem.F.slot_list_add PySem.F.entry_list_add (PySem.F.args_list_add_2 _ _) (list_addW l b its.toArray its2.toArray n n2 dd dd2 sl sl2 (by simp only[wy];lia)) ⟨ho,ho2,?_⟩
 have ea:its.toArray++its2.toArray=(its++its2).toArray:=by simp
 rw[ea]
 exact⟨.ref _,_,I.lnew (t':=s.toks) (r.append r2) (by rw[wC];lia),rfl,q _ I.fresh⟩
end
def vG.quiet {P:Program}{w:World}{K:Fg}{mg:Str->Option Value}{base:Heap}{x:Str}{k:Nat}{ps:List Str}{dvs:List V}{sp sp':Sp}(c:vG P w K mg base x k ps dvs sp) (h:∀vs H Q E,sp' vs H Q E->sp vs H Q λ_ _ _=>False):Cal P w K mg base x k ps dvs sp':=by
 obtain⟨f,fd,ds,F,r⟩:=c.ex
 refine⟨⟨f,fd,ds,⟨λvs H Q E q=>F.len vs H Q _ (h vs H Q E q),λA outer s H args us vs Q E hr e0 hb hv q=>?_⟩,r⟩⟩
 refine codeAny_mono (F.run A outer s H args us vs Q _ hr e0 hb hv (h vs H Q E q)) λrr s' hq=>?_
 cases rr with
 |ok fl=>cases fl <;> exact hq
 |error e=>obtain⟨_,_,_,_,_,_,_,_,z⟩:=hq;exact z.elim
end L2
namespace KT
open PySem L2 KM KK
open KQ (v7 qY VJ TxQ xR xC vP stG rlG brk qX Qt xU)
def zc7 {α:Type}(a:α) (r:List α):atI (a::r) 0=some a:=vo (xs:=a::r) (j:=0) rfl
def zc8 {α:Type}(a b:α) (r:List α):atI (a::b::r) 1=some b:=vo (xs:=a::b::r) (j:=1) rfl
abbrev OT:=Option (Rat×Rat)
def ThR (H:Hp) (v:V) (o:OT) (rest:List V):Prop:=match o with
 |none=>v=.non
 |some t=>∃a p q,v=.ref a/\H a=some (.tup (.ref p::.ref q::rest))/\zD H p t.1/\zD H q t.2
def ThR.tups {H H':Hp}{v:V}{o:OT}{rest:List V}(h:ThR H v o rest) (e:zU H H'):ThR H' v o rest:=by
 cases o with
 |none=>exact h
 |some t=>obtain⟨a,p,q,h1,h2,h3,h4⟩:=h;exact⟨a,p,q,h1,e _ _ h2,e _ _ h3,e _ _ h4⟩
def OsR (H:Hp) (vs:List V) (N:List (OT×List V)):Prop:=vs.length=N.length/\∀(i:Nat) (v:V) (n:OT×List V),vs[i]?=some v->N[i]?=some n->ThR H v n.1 n.2
def OsR.tups {H H':Hp}{vs:List V}{N:List (OT×List V)} (h:OsR H vs N) (e:zU H H'):OsR H' vs N:=⟨h.1,λi v n a b=>(h.2 i v n a b).tups e⟩
def Lay (n:Nat) (d:PyData):Prop:=PyData.canLay0 d=true/\PyData.depth d<=n
def zdN {n:Nat}:∀{ds:List PyData},(∀d∈ds,Lay n d)->PyData.canLayAll0 ds=true/\PyData.depthAll ds<=n
 |[],_=>⟨rfl,yu _⟩
 |d::ds,h=>by
  obtain⟨h1,h2⟩:=zdN (ds:=ds) λe m=>h e (wR _ m)
  obtain⟨h3,h4⟩:=h d (wU ..)
  refine⟨?_,?_⟩
  ·show (PyData.canLay0 d&&_)=true
   rw[h1,h3];rfl
  ·show max (PyData.depth d) _<=n
   lia
def Lay.tup {n:Nat}{ds:List PyData}(h:∀d∈ds,Lay n d):Lay (n+1) (.tuple ds):=⟨(zdN h).1,Nat.succ_le_succ (zdN h).2⟩
def Lay.mono {m n:Nat}{d:PyData}(h:Lay m d) (e:m<=n):Lay n d:=⟨h.1,wV h.2 e⟩
def Lay.md {m n:Nat}{d:PyData}(h:Lay m d) (e:m<=n:=by decide):Lay n d:=h.mono e
def Lay.int (i:Int):Lay 0 (.int i):=⟨rfl,wo _⟩
def Lay.non:Lay 0 .none:=⟨rfl,wo _⟩
def Lay.rat (x:Rat):Lay 1 (rD x):=Lay.tup λd m=>by
 rcases ww.mp m with rfl | m
 ·exact .int _
 ·rcases ww.mp m with rfl | m
  ·exact .int _
  ·cases m
def Lay.shaped {n:Nat}{d:PyData}(h:Lay n d) (e:n<=64):SeqAt.shaped d=true:=by
 show (_&&_)=true
 rw[h.1,wE (wV h.2 e)];rfl
def Lay.self {n:Nat}{d:PyData}(h:Lay n d):PyData.eqv d d=true:=SeqAt.eqv_refl _ h.1
def Lay.str {x:Str}(h:PyData.canLay0 (.str x)=true):Lay 0 (.str x):=⟨h,wo _⟩
def zdL (lo hi:Wl) (k:Rat):PyData.canLay0 (.str (qk lo hi k))=true:=by
 unfold qk
 split
 ·decide +kernel
 ·split <;> decide +kernel
def Lay.lst {n:Nat}{ds:List PyData}(h:∀d∈ds,Lay n d):Lay (n+1) (.list ds):=⟨(zdN h).1,Nat.succ_le_succ (zdN h).2⟩
def grD (g:Nat×Nat×Str):PyData:=.tuple [.int (g.1:Int),.int (g.2.1:Int),.str g.2.2]
def coD (m:Rat) (gs:List (Nat×Nat×Str)):PyData:=.tuple [rD m,.list (gs.map grD)]
def zhS {g:Nat×Nat×Str}(h:PyData.canLay0 (.str g.2.2)=true):Lay 1 (grD g):=Lay.tup λd m=>by
 simp only[ww,wO,or_false]at m
 rcases m with rfl | rfl | rfl
 ·exact .int _
 ·exact .int _
 ·exact .str h
def zhR (m:Rat){gs:List (Nat×Nat×Str)} (hg:∀g∈gs,PyData.canLay0 (.str g.2.2)=true):Lay 3 (coD m gs):=Lay.tup λd h=>by
 simp only[ww,wO,or_false]at h
 rcases h with rfl | rfl
 ·exact(Lay.rat _).md
 ·exact Lay.lst λd h=>by obtain⟨g,mg,rfl⟩:=wA.mp h;exact zhS (hg g mg)
def zav {H:Hp}:∀{vs:List V}{gs:List (Nat×Nat×Str)},qX H vs gs->Qb H vs (gs.map grD)
 |[],[],_=>.nil
 |[],_::_,h=>by have:=h.1;simp at this
 |_::_,[],h=>by have:=h.1;simp at this
 |v::vs,g::gs,h=>by
  obtain⟨g',e,a,rfl,ha⟩:=h.2 0 v rfl
  cases e
  exact .cons (.tup ha (.cons (.int _) (.cons (.int _) (.cons (.str _) .nil)))) (zav ⟨by have:=h.1;simpa using this,λi v e=>by obtain⟨g,e1,e2⟩:=h.2 (i+1) v ↥e;exact⟨g,↥e1,e2⟩⟩)
def zc1 {H:Hp}{v1 v2:V}{lo hi:Wl}(h1:xa H v1 lo) (h2:xa H v2 hi):OsR H [v1,v2] [(lo,[]),(hi,[])]:=by
 have one:∀{v:V}{l:Wl},xa H v l->ThR H v l []:=λ{v l} h=>by
  cases l with
  |none=>exact h
  |some u=>obtain⟨x,y⟩:=u;obtain⟨a,p,q,e,g1,g2,g3⟩:=h;exact⟨a,p,q,e,g1,g2,g3⟩
 refine⟨rL,λi v n e1 e2=>?_⟩
 match i,e1,e2 with
 |0,e1,e2=>cases e1;cases e2;exact one h1
 |1,e1,e2=>cases e1;cases e2;exact one h2
 |i+2,e1,_=>simp at e1
def zcj {H:Hp}{us:List V}{bs:List zC}(h:zP H us bs):OsR H us (bs.map λb=>(some (b.pl,b.sp),[V.int b.wt])):=by
 refine⟨by rw[h.length,wf],λi v n e1 e2=>?_⟩
 obtain⟨a,p,q,b,eb,rfl,g1,g2,g3⟩:=h.get e1
 rw[wg,eb]at e2
 cases e2
 exact⟨a,p,q,rL,g1,g2,g3⟩
def Zd.trans {a b c:Rat×Rat}(h:Zd a b) (k:Zd b c):Zd a c:=by
 unfold Zd at *
 rcases h with h | ⟨h1,h2⟩ <;> rcases k with k | ⟨k1,k2⟩
 ·exact .inl (by grind)
 ·exact .inl (by grind)
 ·exact .inl (by grind)
 ·exact .inr ⟨by grind,by grind⟩
def zii {bs:List zC}{lo hi:Wl}(G:Xj bs) (B:Box bs lo hi) (h1:1<=bs.length):Ord bs lo hi:=by
 have hpb:(bs.map λb=>(b.pl,b.sp)).Pairwise Zd:=by
  rw[ym]
  refine G.pw.imp λ{a b} h=>?_
  rcases h with h | ⟨h1,h2⟩
  ·exact .inl h
  ·exact .inr ⟨h1,by show a.sp<=b.sp;grind⟩
 have hlo:∀x y,lo=some (x,y)->∀b∈bs,Zd (x,y) (b.pl,b.sp):=λx y e b mb=>by
  obtain⟨b0,e0⟩:∃b0,bs[0]?=some b0:=⟨_,wk h1⟩
  have h0:Zd (x,y) (b0.pl,b0.sp):=by
   obtain⟨g1,g2⟩:=B.lo x y b0 e e0
   by_cases z:x=b0.pl
   ·exact .inr ⟨z,g2 z⟩
   ·exact .inl (by show x<b0.pl;grind)
  match bs,e0 with
  |c::cs,e0 =>
   cases e0
   rcases ww.mp mb with rfl | mb
   ·exact h0
   ·refine h0.trans ?_
    rcases(u8.mp G.pw).1 b mb with h | ⟨g1,g2⟩
    ·exact .inl h
    ·exact .inr ⟨g1,uM g2⟩
 have hhi:∀x y,hi=some (x,y)->∀b∈bs,Zd (b.pl,b.sp) (x,y):=λx y e b mb=>by
  obtain⟨cs,c,ec⟩:∃cs c,bs=cs++[c]:=⟨_,_,(List.dropLast_concat_getLast (by intro z;rw[z]at h1;simp at h1)).symm⟩
  have h0:Zd (c.pl,c.sp) (x,y):=by
   obtain⟨g1,g2⟩:=B.hi x y cs c e ec
   by_cases z:x=c.pl
   ·exact .inr ⟨z.symm,g2 z⟩
   ·exact .inl (by show c.pl<x;grind)
  have gp:=G.pw
  rw[ec]at mb gp
  rcases wM.mp mb with mb | mb
  ·refine Zd.trans ?_ h0
   rcases(wZ.mp gp).2.2 b mb c (wU ..)with h | ⟨g1,g2⟩
   ·exact .inl h
   ·exact .inr ⟨g1,by show b.sp<=c.sp;grind⟩
  ·rw[ye.mp mb];exact h0
 refine⟨?_,B.lt⟩
 unfold tl
 refine wZ.mpr ⟨wZ.mpr ⟨?_,hpb,λa ma b mb=>?_⟩,?_,λa ma b mb=>?_⟩
 ·cases lo with
  |none=>exact .nil
  |some u=>exact uz ..
 ·obtain⟨c,mc,rfl⟩:=wA.mp mb
  cases lo with
  |none=>cases ma
  |some u=>rw[ye.mp ma];exact hlo _ _ rfl c mc
 ·cases hi with
  |none=>exact .nil
  |some u=>exact uz ..
 ·cases hi with
  |none=>cases mb
  |some u =>
   rw[ye.mp mb]
   rcases wM.mp ma with ma | ma
   ·cases lo with
    |none=>cases ma
    |some v=>rw[ye.mp ma];exact .inl (B.lt _ _ _ _ rfl rfl)
   ·obtain⟨c,mc,rfl⟩:=wA.mp ma
    exact hhi _ _ rL c mc
def TS (n k:Nat) (bs:List zC) (lo hi:Wl):Prop:=∀t∈tl bs lo hi,Sz n t.1/\Sz k t.2
def zkS {bs:List zC}{lo hi:Wl}(z:∀b∈bs,Sz 300 b.pl/\Sz 80 b.sp) (z1:∀x y,lo=some (x,y)->Sz 320 x/\Sz 80 y) (z2:∀x y,hi=some (x,y)->Sz 320 x/\Sz 80 y):TS 320 80 bs lo hi:=by
 intro t mt
 unfold tl at mt
 rcases wM.mp mt with mt | mt
 ·rcases wM.mp mt with mt | mt
  ·cases lo with
   |none=>cases mt
   |some u=>rw[ye.mp mt];exact z1 _ _ rfl
  ·obtain⟨c,mc,rfl⟩:=wA.mp mt
   exact⟨(z c mc).1.md,(z c mc).2⟩
 ·cases hi with
  |none=>cases mt
  |some u=>rw[ye.mp mt];exact z2 _ _ rfl
open KQ (zeF vY chO qr tkO laQ laP)
section
variable {P:Program}{w:World}{K:Fg}{mg:Str->Option Value}{base:Heap}{C CS CT Tb:Addr}
theorem zh8 (c:vG P w K mg base "behind" 6 ["row","walls"] [] (zb0 CS CT Tb)):Cal P w K mg base "behind" 6 ["row","walls"] [] (zeB Tb):=by
 refine c.quiet λvs H Q E h=>?_
 rcases q:h with⟨r,wa,bs,lo,hi,m,ds,rfl,hR,Z,T,hc,k⟩
 refine⟨r,wa,bs,lo,hi,rL,hR,Z,T,λH' _ e=>?_,λp mm r' wa' m' ds' H' st tb hc' h1 h2 h3=>?_,λC dx H' _ _ _ hr=>hc.fit hr⟩
 ·rw[hc.so]at e;cases e
 ·obtain⟨rfl,rfl⟩:=hc.uniq hc'
  exact k p mm r' wa' H' st tb h1 h2 h3
theorem zig (c:vG P w K mg base "next_coming" 6 ["row","walls"] [] (zeF CS)):Cal P w K mg base "next_coming" 6 ["row","walls"] [] zb4:=by
 refine c.quiet λvs H Q E h=>?_
 rcases q:h with⟨r,wa,bs,lo,hi,m,ds,rfl,⟨⟨us,hr,hB⟩,v1,v2,hw,h1,h2⟩,Z,hc,k⟩
 have I:=zgO hr hB hw h1 h2 Z.n8 Z.z
 have B:=bot Z.n8 Z.z
 have R:=zbZ B
 refine⟨r,wa,bs.map bl,lo,hi,rL,I,λH' s e=>?_,λt p mm G H' s e _ hp hm hG hgs=>?_,λt p dx H' s e em _ _=>?_⟩
 ·rcases R with⟨_,e2⟩ | ⟨t,m',e1,_⟩
  ·rw[hc.so]at e2;cases e2
  ·rw[e]at e1;cases e1
 ·rcases R with⟨e1,_⟩ | ⟨t',m',e1,e2,pt,em⟩
  ·rw[e]at e1;cases e1
  ·rw[e]at e1;cases e1
   rw[hc.so]at e2;cases e2
   rw[zgM B Z.o pt em (XT Z.o hc.so)]at hgs
   rw[em]at hm
   obtain⟨gs,g1,g2⟩:=hgs
   exact k p mm G gs H' s hp hm hG g1 g2
 ·rcases R with⟨e1,_⟩ | ⟨t',m',e1,e2,pt,em'⟩
  ·rw[e]at e1;cases e1
  ·rw[e]at e1;cases e1
   rw[hc.so]at e2;cases e2
   rw[em']at em
   exact hc.sh em
end
def CoR.tf {a b k f u m:Rat}{bs ds:List zC}{lo hi:Wl}(hk:0<k) (hu:0<u) (ha:a=k*u) (hw:∀c∈bs,1<=c.wt/\c.wt<=1000) (h:CoR bs lo hi m ds) :
  CoR (bs.map (tB a b k f)) (lo.map (tP a b k f)) (hi.map (tP a b k f)) (u*m) (ds.map (tB a (b+f*(u*m)) k f))/\grM (bs.map (tB a b k f)) (lo.map (tP a b k f)) (hi.map (tP a b k f)) (u*m)=grM bs lo hi m:=by
 have a0:0<a:=by rw[ha];exact Rat.mul_pos hk hu
 have eg:grM (bs.map (tB a b k f)) (lo.map (tP a b k f)) (hi.map (tP a b k f)) (u*m)=grM bs lo hi m:=by
  unfold grM;rw[zca ha,vO ha,vO ha,zjo a0 hk]
 refine⟨⟨?_,?_,?_⟩,eg⟩
 ·rw[zeT,zgj hk hu ha,h.so];rfl
 ·rw[zgf hk ha]
  intro z
  obtain⟨s,e1,e2⟩:=wY.mp z
  have hs:s=m:=by
   have:u≠0:=by grind
   have:u*s=u*m:=e2
   grind
  exact h.sh (by rw[e1,hs])
 ·rw[eg,zca ha,vO ha,vO ha]
  exact zhs hk (λc mc=>by obtain⟨d,md,rfl⟩:=wA.mp mc;exact(hw d md).1) h.be
def CoR.mir {m:Rat}{bs ds:List zC}{lo hi:Wl}(O:Ord bs lo hi) (h:CoR bs lo hi m ds):CoR (x6 bs) (hi.map nP) (lo.map nP) m (x6 ds)/\grM (x6 bs) (hi.map nP) (lo.map nP) m=(grM bs lo hi m).reverse.map (ZM bs.length):=by
 have nb:NoB (zL m lo) (zL m hi):=λk ⟨h1,h2⟩=>h.sh <| (zew O (XT O h.so)).mpr <| by
  cases lo with
  |none=>cases h1
  |some l =>
   cases hi with
   |none=>cases h2
   |some r=>exact⟨l.1,l.2,r.1,r.2,rfl,rfl,(wF h1).trans (wF h2).symm⟩
 have eg:grM (x6 bs) (hi.map nP) (lo.map nP) m=(grM bs lo hi m).reverse.map (ZM bs.length):=by
  unfold grM;rw[J7,vc,vc,zhJ nb,wf]
 refine⟨⟨?_,?_,?_⟩,eg⟩
 ·rw[za3,zez];exact h.so
 ·rw[zex];exact h.sh
 ·rw[eg,J7,vc,vc]
  have:=zfc (show Vg (bs.map (xp m)) (zL m lo) (zL m hi) (grL (bs.map (xp m)) (zL m lo) (zL m hi)) ds from h.be)
  rw[wf]at this
  exact this
def zhV {a b k f:Rat}(ha:0<a) (hk:0<k){l r:Rat×Rat}(h:Zd l r):Zd (tP a b k f l) (tP a b k f r):=by
 rcases h with h | ⟨h1,h2⟩
 ·refine .inl ?_
  have:=(uA (a:=l.1) (b:=r.1) ha).mpr h
  show a*l.1+b<a*r.1+b;grind
 ·refine .inr ⟨by show a*l.1+b=a*r.1+b;rw[h1],?_⟩
  have:=Wq h2 (uM hk)
  show k*l.2+f<=k*r.2+f;grind
def zij {a b k f:Rat}{bs:List zC}{lo hi:Wl}(ha:0<a) (hk:0<k) (O:Ord bs lo hi):Ord (bs.map (tB a b k f)) (lo.map (tP a b k f)) (hi.map (tP a b k f)):=by
 refine⟨?_,λx y x' y' e1 e2=>?_⟩
 ·rw[zeT,ym];exact O.pw.imp λh=>zhV ha hk h
 ·obtain⟨l,rfl,g1⟩:=wY.mp e1
  obtain⟨r,rfl,g2⟩:=wY.mp e2
  have:=(uA (a:=l.1) (b:=r.1) ha).mpr (O.lt l.1 l.2 r.1 r.2 rfl rfl)
  have f1:=congrArg Prod.fst g1
  have f1:a*l.1+b=x:=f1
  have f2:=congrArg Prod.fst g2
  have f2:a*r.1+b=x':=f2
  grind
def zfH {bs:List zC}{lo hi:Wl}(O:Ord bs lo hi):Ord (x6 bs) (hi.map nP) (lo.map nP):=by
 refine⟨?_,λx y x' y' e1 e2=>?_⟩
 ·rw[za3,uN,ym]
  refine O.pw.imp λ{l r} h=>?_
  rcases h with h | ⟨h1,h2⟩
  ·exact .inl ((zaB _ _).mpr h)
  ·refine .inr ⟨by show -r.1=-l.1;rw[h1],?_⟩
   show -r.2 ≤ -l.2;grind
 ·obtain⟨r,rfl,g1⟩:=wY.mp e1
  obtain⟨l,rfl,g2⟩:=wY.mp e2
  have:=O.lt l.1 l.2 r.1 r.2 rfl rfl
  have f1:=congrArg Prod.fst g1
  have f1 : -r.1=x:=f1
  have f2:=congrArg Prod.fst g2
  have f2 : -l.1=x':=f2
  grind
structure RwZ (bs:List zC) (lo hi:Wl):Prop where
 n1:1<=bs.length
 n8:bs.length<=8
 z:TS 320 80 bs lo hi
 o:Ord bs lo hi
 w:∀c∈bs,1<=c.wt/\c.wt<=1000
def RwZ.s {bs:List zC}{lo hi:Wl}(h:RwZ bs lo hi):RwS bs lo hi:=⟨h.n1,h.n8,λt m=>⟨(h.z t m).1.md,(h.z t m).2.md⟩,h.o,h.w⟩
def RwZ.tf {a b k f:Rat}{bs:List zC}{lo hi:Wl}(ha:0<a) (hk:0<k) (h:RwZ bs lo hi) (z:∀x y,Sz 320 x->Sz 80 y->Sz 340 (a*x+b)/\Sz 100 (k*y+f)):RwS (bs.map (tB a b k f)) (lo.map (tP a b k f)) (hi.map (tP a b k f)):=by
 refine⟨by rw[wf];exact h.n1,by rw[wf];exact h.n8,λt mt=>?_,zij ha hk h.o,λc mc=>?_⟩
 ·rw[zeT]at mt
  obtain⟨s,ms,rfl⟩:=wA.mp mt
  exact z _ _ (h.z s ms).1 (h.z s ms).2
 ·obtain⟨d,md,rfl⟩:=wA.mp mc;exact h.w d md
def Sz.neg {n:Nat}{x:Rat}(h:Sz n x):Sz n (-x):=by
 refine⟨?_,by rw[Rat.neg_den];exact h.2⟩
 have:=h.1
 rw[Rat.neg_num]
 show (-x.num).natAbs<_
 rw[Yg];exact this
def RwZ.mir {bs:List zC}{lo hi:Wl}(h:RwZ bs lo hi):RwS (x6 bs) (hi.map nP) (lo.map nP):=by
 refine⟨by rw[Qk];exact h.n1,by rw[Qk];exact h.n8,λt mt=>?_,zfH h.o,λc mc=>?_⟩
 ·rw[za3]at mt
  obtain⟨s,ms,rfl⟩:=wA.mp (yp.mp mt)
  exact⟨(Sz.neg (h.z s ms).1).md,(Sz.neg (h.z s ms).2).md⟩
 ·unfold x6 at mc
  obtain⟨d,md,rfl⟩:=wA.mp (yp.mp mc);exact h.w d md
def zgi {L:List (Rat×Rat)}{m:Rat}(h:vj L=some m) (z:∀t∈L,Sz 320 t.1/\Sz 80 t.2):Sz 802 m:=by
 rcases(Zx _ none).2.2 m h with e | ⟨p,mp,c,rfl⟩
 ·cases e
 ·have y:=uk mp
  have z1:=z _ y.1
  have z2:=z _ (Wt y.2)
  unfold mo
  exact(Sz.div (Sz.sub z2.1 z1.1) (Sz.sub z1.2 z2.2) (by grind)).md
def zkD {x:Int}(h:1<=x/\x<=1000):Sz 10 (x:Rat):=Sz.int (show x.natAbs<2^10 by omega) (by decide)
def zfg {ws:List Int}{vs ss:List Rat}{wv:Option Rat}(h:v8 ws vs wv ss) (hw:∀x∈ws,1<=x/\x<=1000) (hv:∀v∈vs,Sz 80 v) (hz:∀z,wv=some z->Sz 80 z):∀s∈ss,Sz 700 s:=by
 rcases h with⟨_,a,b,s0,s1,rfl,rfl,rfl⟩ | ⟨_,_,pm,_⟩
 ·have wa:=hw a (by simp)
  have wb:=hw b (by simp)
  have z0:=hv s0 (by simp)
  have z1:=hv s1 (by simp)
  have za:=zkD wa
  have zb:=zkD wb
  have z2:Sz 2 ((2:Int):Rat):=Sz.int (show (2:Int).natAbs<2^2 by decide) (by decide)
  have zs:Sz 11 ((a+b:Int):Rat):=Sz.int (show (a+b).natAbs<2^11 by omega) (by decide)
  have ne0:((a+b:Int):Rat)≠0:=ic0 (by omega)
  have e:twR a b s0 s1=((2:Int):Rat)*((a:Rat)*s0+(b:Rat)*s1)/((a+b:Int):Rat):=by unfold twR;push_cast;rfl
  have ztw:Sz 300 (twR a b s0 s1):=by rw[e];exact(Sz.div (z2.mul ((za.mul z0).add (zb.mul z1))) zs ne0).md
  intro s ms
  simp only[ww,wO,or_false]at ms
  rcases ms with rfl | rfl
  ·exact(Sz.sub ztw z0).md
  ·exact(Sz.sub ztw z1).md
 ·intro s ms
  obtain⟨v,mv,rfl⟩:=wA.mp (pm.mem_iff.mp ms)
  cases wv with
  |none=>exact(hv v mv).md
  |some z =>
   have zz:=hz z rfl
   show Sz 700 (2*z-v)
   rw[show (2:Rat)*z-v=z+z-v by grind]
   exact(Sz.sub (zz.add zz) (hv v mv)).md
def RwZ.b {bs:List zC}{lo hi:Wl}(h:RwZ bs lo hi){c:zC}(m:c∈bs):Sz 320 c.pl/\Sz 80 c.sp:=h.z (c.pl,c.sp) (by unfold tl;exact wH _ (wq _ (wA.mpr ⟨c,m,rfl⟩)))
def RwZ.l {bs:List zC}{lo hi:Wl}(h:RwZ bs lo hi){t:Rat×Rat}(m:lo=some t):Sz 320 t.1/\Sz 80 t.2:=h.z t (by unfold tl;rw[m];simp[xR])
def RwZ.h {bs:List zC}{lo hi:Wl}(h:RwZ bs lo hi){t:Rat×Rat}(m:hi=some t):Sz 320 t.1/\Sz 80 t.2:=h.z t (by unfold tl;rw[m];simp[xR])
def BZ (ds:List zC):Prop:=∀d∈ds,Sz 1300 d.pl/\Sz 700 d.sp
def LZ (l:Wl):Prop:=∀t,l=some t->Sz 1300 t.1/\Sz 700 t.2
def CoR.lz {l:Wl}{m:Rat}(hm:Sz 802 m) (z:∀t,l=some t->Sz 320 t.1/\Sz 80 t.2):LZ (zL m l):=λt e=>by
 cases l with
 |none=>cases e
 |some u =>
  have:=z u rfl
  obtain rfl:=Option.some.inj e
  exact⟨(this.1.add (this.2.mul hm)).md,this.2.md⟩
def zeX {s:Str}{lo hi:Wl}{t:Rat×Rat}(h:qT s lo hi=some t):lo=some t\/hi=some t:=by
 unfold qT at h
 split at h
 ·exact .inl h
 ·split at h
  ·exact .inr h
  ·cases h
def CoR.sz {m:Rat}{bs ds:List zC}{lo hi:Wl}(Z:RwZ bs lo hi) (h:CoR bs lo hi m ds):Sz 802 m/\BZ ds/\LZ (zL m lo)/\LZ (zL m hi):=by
 have hm:=zgi h.so Z.z
 refine⟨hm,λd md=>?_,CoR.lz hm λt e=>Z.l e,CoR.lz hm λt e=>Z.h e⟩
 obtain⟨i,ei⟩:=yZ md
 have e1:=congrArg (·[i]?) h.be.pw
 simp only[wg,ei,WC]at e1
 cases eb:bs[i]? with
 |none=>rw[eb]at e1;cases e1
 |some c =>
  rw[eb]at e1
  have e1:(d.pl,d.wt)=(c.pl+c.sp*m,c.wt):=Option.some.inj e1
  have zc:=Z.b (wm eb)
  refine⟨by rw[show d.pl=c.pl+c.sp*m from congrArg Prod.fst e1];exact(zc.1.add (zc.2.mul hm)).md,?_⟩
  by_cases cg:∃g∈grM bs lo hi m,inG g i
  ·obtain⟨g,mg,hi'⟩:=cg
   have hd:=h.be.gr g mg
   refine zfg hd (λx mx=>?_) (λv mv=>?_) (λz ez=>?_) d.sp ?_
   ·obtain⟨c',mc,rfl⟩:=wA.mp (yR (yS mx))
    obtain⟨c2,m2,rfl⟩:=wA.mp mc
    exact Z.w c2 m2
   ·obtain⟨c',mc,rfl⟩:=wA.mp (yR (yS mv))
    obtain⟨c2,m2,rfl⟩:=wA.mp mc
    exact(Z.b m2).2
   ·obtain⟨t,et,rfl⟩:=wY.mp ez
    rcases zeX et with y | y
    ·cases lo with
     |none=>cases y
     |some l=>obtain rfl:=Option.some.inj y;exact(Z.l rfl).2
    ·cases hi with
     |none=>cases y
     |some l=>obtain rfl:=Option.some.inj y;exact(Z.h rfl).2
   ·refine wm (i:=i-g.1) ?_
    rw[Q0 hi',wg,ei];rfl
  ·have:=h.be.no i λg mg z=>cg ⟨g,mg,z⟩
   rw[wg,wg,wg,ei,eb]at this
   have:d.sp=c.sp:=Option.some.inj this
   rw[this];exact zc.2.md
end KT
def KK.xa.same {H H':L2.Hp}{v:L2.V}{l:KK.Wl}(h:KK.xa H v l) (e:L2.zj H H'):KK.xa H' v l:=h.tups (.of e)
namespace KF
open PySem L2 KM KK
def len3 {α:Type}:∀{l:List α},l.length=3->∃a b c,l=[a,b,c]
 |[a,b,c],_=>⟨a,b,c,rfl⟩
def zgy {α:Type}{l:List α}{i:Nat}{x:α}(e:l[i]?=some x):l.take (i+1)=l.take i++[x]:=by
 rw[yW,e];rfl
def fr (v:Rat) (b:zC):zC:=⟨b.pl,b.sp+v,b.wt⟩
def frw (v:Rat) (l:Wl):Wl:=l.map λz=>(z.1,z.2+v)
def USz (l:Wl):Prop:=∀x y,l=some (x,y)->Sz 1500 y
structure ze8 (H:Hp) (t:Addr) (bs:List zC) (l1 l2:Wl) (r:Addr) (us:List V) (aw:Addr) (v1 v2:V):Prop where
 t:H t=some (.tup [.ref r,.ref aw])
 r:H r=some (.tup us)
 b:zP H us bs
 w:H aw=some (.tup [v1,v2])
 w1:xa H v1 l1
 w2:xa H v2 l2
section
variable {P:Program}{w:World}{K:Fg}{mg:Str->Option Value}{base:Heap}{tb tw:Tok}{aN:Addr}
inductive ziG  (vs:List V) (H:Hp) (Q:VK) (_e3:XK):Prop
 |mk:∀u l ps v,(vs=[u,.ref ps])->(xa H u l)->(zD H ps v)->(USz l)->(Sz 1500 v)->(∀u' H',zj H H'->xa H' u' (frw v l)->Q u' H')->ziG vs H Q _e3
theorem zkm:zH ["wall","speed"] ["wall","speed"] (zr vB):=scq
theorem ok_fw (D:Df K mg "framed_wall" vB ["wall","speed"] []) (cP:Cal P w K mg base "plus" 3 ["one","other"] [] (xY Sz2 (· + ·))):Cal P w K mg base "framed_wall" 4 ["wall","speed"] [] ziG:=by
 rcases r:D.calq (k:=3) zkm with⟨u,l,ps,v,rfl,hw,hp,zl,zv,k⟩
 refine⟨_,(zA (xh (zJ qH (pv 0) xj (zN _)) (zB (zK xj)) zS)
  (zB (zK (zT (zd (pxt (pv 0)) (zd (zI cP hr (zd (pxt (pv 0)) (zd (pv 1) ze))) ze)))))),?_⟩
 try dsimp only[xl,Cx.nox]
 cases l with
 |none =>
  obtain rfl:u=.non:=hw
  exact⟨_,rL,rL,_,rL,x5 (k .non H (zj.refl _) rL)⟩
 |some z =>
  obtain⟨x,y⟩:=z
  rcases q:hw with⟨a,p,q,rfl,ha,h1,h2⟩
  refine⟨_,rL,rL,_,rL,xQ ?_⟩
  refine⟨_,rL,a,_,_,_,rL,rL,.of ha,rL,_,rL,a,_,_,_,rL,rL,.of ha,rL,_,rL,q,ps,y,v,rL,h2,hp,⟨(zl _ _ rL).md,zv.md⟩,λr H1 e1 h3=>?_⟩
  refine⟨zL2,λt ht=>?_⟩
  exact k (.ref t) _ (e1.trans (zj.upd ht)) ⟨t,p,r,rL,zg,(h1.same e1).same (zj.upd ht),h3.same (zj.upd ht)⟩
theorem zfe {σ:St}{H:Hp}{Q:VK}{r ps:Addr}{us:List V}{bs:List zC}{v:Rat}(hσ:σ[0]?=some (some (.ref r))) (hσ2:σ[2]?=some (some (.ref ps))) (hr:H r=some (.tup us)) (hB:zP H us bs) (hlen:bs.length<=8) (hp:zD H ps v) (hz:∀b∈bs,Sz 1500 b.sp) (hv:Sz 1500 v)
  (k:∀D H' ys,zj H H'->H' D=some (.lst ys)->zP H' ys (bs.map (fr v))->Q (.ref D) H') :
  Jf 3 [2] (zjs K (xy 0)) (Vj K 3 (qC (zO 0) (qC (zO 1) (qC (zO 2) Jy)))) (λ_ H Q=>Q true H) (za2 (xF (xy 0) (xF (ZK (xY Sz2 (· + ·)) [] E0 (xF (xy 1) (xF (xy 3) Z0))) (xF (xy 2) Z0)))) σ H Q:=by
 have hcap:qw σ [2]=[some (.ref ps)]:=by simp[qw,hσ2]
 refine⟨_,hσ,r,rL,⟨_,SqT.of hr⟩,λD hD=>?_⟩
 have hl:=hB.length
 refine Za (J:=Itt K r) (g:=Vj K 3 (qC (zO 0) (qC (zO 1) (qC (zO 2) Jy)))) (tt:=λ_ H Q=>Q true H) (te:=za2 (xF (xy 0) (xF (ZK (xY Sz2 (· + ·)) [] E0 (xF (xy 1) (xF (xy 3) Z0))) (xF (xy 2) Z0)))) (Q:=Q) (N:=us.length) (n:=3)
  (λi H2 ys=>zj H H2/\zP H2 ys ((bs.take i).map (fr v))) ⟨zj.upd hD,.nil⟩ (λi H2 ys hi ⟨s2,_⟩=>?_) (λH2 ys ⟨s2,_⟩=>?_) ?_ ?_
 ·exact⟨us,us[i],.of (s2 _ _ hr),wk hi⟩
 ·exact⟨us,.of (s2 _ _ hr),wo _⟩
 ·rintro i x zs H2 H3 ys Nx hNx hi hzs ⟨rfl,f1⟩ ⟨s2,hy⟩ hD2
  obtain⟨z1,z2,z3,rfl⟩:=len3 hzs
  obtain⟨a,p,q,b,eb,rfl,ha,h1,h2⟩:=hB.get (f1 us (.of (s2 _ _ hr)))
  rw[hcap]
  refine⟨a,_,rL,.of (s2 _ _ ha),rL,_,_,rL,_,_,rL,_,_,rL,rL,rL,?_⟩
  refine(if_pos rL).mpr ?_
  have mb:=wm eb
  refine⟨_,rL,_,rL,_,rL,q,ps,b.sp,v,rL,h2.same s2,hp.same s2,⟨(hz b mb).md,hv.md⟩,λrr H4 e4 h4=>?_⟩
  refine⟨_,rL,zL3,λt ht=>?_⟩
  have e5:zj H3 (upd H4 t (.tup [.ref p,.ref rr,.int b.wt])):=e4.trans (zj.upd ht)
  have hD4:=e5 _ _ hD2
  have hyl:=hy.length
  rw[wf,yd]at hyl
  refine⟨hD4,xr ∅,hNx _ _ ⟨zf2 hD s2 e5,?_⟩⟩
  rw[zgy eb,yO]
  have m:∀c xs,upd H4 t (.tup [.ref p,.ref rr,.int b.wt]) c=some (.tup xs)->upd (upd H4 t (.tup [.ref p,.ref rr,.int b.wt])) D (.lst (ys++[.ref t])) c=some (.tup xs):=λc xs z=>by
   rw[zF (zgS z hD4 (by intro y;cases y))];exact z
  refine zP.append (zP.one (b:=fr v b) (m _ _ zg) (m _ _ ((h1.same s2).same e5)) (m _ _ (h4.same (zj.upd ht)))) ((hy.same e5).mono m)
 ·rintro H2 ys ⟨s2,hy⟩ hD2
  rw[w4 ∅]at hy
  exact k D H2 ys s2 hD2 hy
inductive zcS  (vs:List V) (H:Hp) (Q:VK) (_e3:XK):Prop
 |mk:∀r us bs aw v1 v2 l1 l2 ps v,(vs=[.ref r,.ref aw,.ref ps])->(H r=some (.tup us))->(zP H us bs)->(bs.length<=8)->(H aw=some (.tup [v1,v2]))->(xa H v1 l1)->(xa H v2 l2)->(zD H ps v)->((∀b∈bs,Sz 1500 b.sp))->(USz l1)->(USz l2)->(Sz 1500 v)->(∀t r' us' aw' v1' v2' H',zj H H'->ze8 H' t (bs.map (fr v)) (frw v l1) (frw v l2) r' us' aw' v1' v2'->Q (.ref t) H')->zcS vs H Q _e3
theorem ZA:zH ["row","walls","speed","balls","low","high"] ["row","walls","speed"] (zr QU):=scq
theorem ok_fr (D:Df K mg "framed" QU ["row","walls","speed"] []) (T:TxB K mg) (cP:Cal P w K mg base "plus" 3 ["one","other"] [] (xY Sz2 (· + ·))) (cFw:Cal P w K mg base "framed_wall" 4 ["wall","speed"] [] ziG):Cal P w K mg base "framed" 5 ["row","walls","speed"] [] zcS:=by
 rcases r:D.calq (k:=4) ZA with⟨r,us,bs,aw,v1,v2,l1,l2,ps,v,rfl,hrr,hB,hlen,haw,w1,w2,hp,hz,z1,z2,zv,k⟩
 have hr3:xb 3 _:=hr.md
 refine⟨_,(zA (vt (i:=3) (NB:=["place","own","weight"]) (FR:=["speed"]) (js:=[2]) rfl rfl (λ_ _ h=>h) (.cons rfl rfl rfl ⟨_,rfl⟩ .nil) rfl (by decide +kernel) rfl (by decide +kernel) ZA.nd rfl rfl (by rfl) (Xv (pv 0)) (by intro _ _ _;refine⟨?_,?_,?_⟩;(exact(vS (K:=K) (n:=3) rfl rfl (zQ (pgl (i:=0) (show List.Nodup (["place","own","weight","speed"]:List Str) by decide +kernel)) (zQ (pgl (i:=1) (show List.Nodup (["place","own","weight","speed"]:List Str) by decide +kernel)) (zQ (pgl (i:=2) (show List.Nodup (["place","own","weight","speed"]:List Str) by decide +kernel)) xw)))));(exact xP);(exact(zT (zd (pv 0) (zd (zI cP hr3 (zd (pv 1) (zd (pv 3) ze))) (zd (pv 2) ze))))))) (zA (qi (pv 1) (qJ rfl (zQ (pgl (i:=4) ZA.nd) (zQ (pgl (i:=5) ZA.nd) xw)))) (zB (zK (zT (zd (qh xK (by rfl) T.nTuple yB (zd (pv 3) ze)) (zd (zT (zd (zI cFw hr (zd (pv 4) (zd (pv 2) ze))) (zd (zI cFw hr (zd (pv 5) (zd (pv 2) ze))) ze))) ze))))))),?_⟩
 try dsimp only[xl,Cx.nox]
 unfold J6 zcW
 nofun
 refine zfe (K:=K) rL rL hrr hB hlen hp hz zv λDD H1 ys e1 hD hy=>?_
 refine⟨_,rL,aw,_,rL,SqT.of (e1 _ _ haw),rL,_,_,rL,_,_,rL,rL,?_⟩
 refine⟨_,rL,DD,ys,rL,.inl ⟨SqL.of hD,λl hl=>?_⟩⟩
 have e2:=e1.trans (zj.upd (o:=.tup ys) hl)
 refine⟨_,rL,_,rL,v1,l1,ps,v,rL,w1.same e2,hp.same e2,z1,zv,λu1 H3 e3 g1=>?_⟩
 have e23:=e2.trans e3
 refine⟨_,rL,_,rL,v2,l2,ps,v,rL,w2.same e23,hp.same e23,z2,zv,λu2 H4 e4 g2=>?_⟩
 refine⟨zL2,λt1 ht1=>?_⟩
 refine⟨zL2,λt2 ht2=>?_⟩
 have e5:zj H4 (upd H4 t1 (.tup [u1,u2])):=zj.upd ht1
 have e6:=zj.upd (o:=.tup [.ref l,.ref t1]) ht2
 have e7:=(e3.trans e4).trans (e5.trans e6)
 exact k t2 l ys t1 u1 u2 _ (e2.trans e7) ⟨zg,e7 _ _ zg,(hy.same (zj.upd hl)).same e7,e6 _ _ zg,(g1.same e4).same (e5.trans e6),g2.same (e5.trans e6)⟩
end
end KF
namespace KT
open PySem L2 KM KK
open KQ (v7 qY VJ TxQ xR xC vP stG rlG brk qX Qt xU)
abbrev NN:=List (OT×List V)
def v6 (φ:Rat×Rat->Rat×Rat) (N:NN):NN:=N.map λn=>(n.1.map φ,n.2)
section
variable {P:Program}{w:World}{K:Fg}{mg:Str->Option Value}{base:Heap}
inductive zgq  (vs:List V) (H:Hp) (Q:VK) (_e3:XK):Prop
 |mk:∀a pb us N y,(vs=[.ref a,.ref pb])->(H a=some (.tup us))->(OsR H us N)->(N.length<=8)->((∀n∈N,n.2.length<=1/\∀t,n.1=some t->Sz 2000 t.1/\Sz 2000 t.2))->(zD H pb y)->(Sz 1000 y)->(∀r us' H',zj H H'->H' r=some (.tup us')->OsR H' us' (v6 (λt=>(t.1+y,t.2)) N)->Q (.ref r) H')->zgq vs H Q _e3
theorem zbR:zH ["things","by","found","thing"] ["things","by"] (zr Zn):=scq
theorem zjR (D:Df K mg "_law_moved" Zn ["things","by"] []) (T:TxQ K mg) (cA:Cal P w K mg base "_law_add" 2 ["a","b"] [] (xY Sz2 (· + ·))):Cal P w K mg base "_law_moved" 3 ["things","by"] [] zgq:=by
 rcases r:D.calBq (k:=2) zbR with⟨a,pb,us,N,y,rfl,ha,hO,h8,hz,hb,zb,k⟩
 have hul:=hO.1
 refine⟨_,(zM (Bx.mk (psl (i:=2) zbR.nd (qe ze)))
  (zM (Bx.mk (vg PassesOwn.never rfl (Xv (pv 0)) (pgl (i:=3) zbR.nd) (zA (xh (zJ qM (pv 3) xj (zN _)) (zB (psl (i:=3) zbR.nd (zE VZ (zT (zd (zI cA hr (zd (pxt (pv 3)) (zd (pv 1) ze))) ze)) (qx (zey.or JX) (pv 3) (xO zi) Qn)))) zS) (zB (x9 (X8 yq yI yJ qu (pv 2) (zd (pv 3) ze)))))))
  (Bx.mk (zB (zK (qh xK (by rfl) T.nTuple yB (zd (pv 2) ze))))))),?_⟩
 try dsimp only[xl,Cx.nox]
 refine⟨by show 0<=sizeLine;exact yu _,λl hl=>?_⟩
 have S1:zj H (upd H l (.lst [])):=zj.upd hl
 have hl1:upd H l (.lst []) l=some (.lst []):=zg
 generalize upd H l (.lst [])=G1 at S1 hl1
 dsimp only[zO]
 refine zaZ ?_
 refine⟨_,rL,a,rL,⟨us,SqT.of (S1 _ _ ha)⟩,?_⟩
 refine zbo (xs:=us) (λi σ G=>∃z3 vs',σ=[Sr a,Sr pb,Sr l,z3]/\zj H G/\G l=some (.lst vs')/\vs'.length=i/\∀(j:Nat) (v:V) (n:OT×List V),vs'[j]?=some v->N[j]?=some n->ThR G v (n.1.map (λt=>(t.1+y,t.2))) n.2)
  ⟨_,[],rfl,S1,hl1,rfl,λj v n e=>by simp at e⟩ (λi σ G _ ⟨_,_,_,s,_⟩=>SqT.of (s _ _ ha)) ?_ ?_
 ·rintro i x σ G hx hQq;rcases q:hQq with⟨z3,vs',rfl,SG,hlG,hvl,hvR⟩
  have hi:i<us.length:=(wn.mp hx).1
  obtain⟨n,en⟩:∃n,N[i]?=some n:=⟨_,wk ∅⟩
  have hx0:=hO.2 i x n hx en
  have zn:=hz n (wm en)
  dsimp only[zO]
  refine xx (λσ' G'=>∃v,σ'=[Sr a,Sr pb,Sr l,some v]/\zj G G'/\ThR G' v (n.1.map (λt=>(t.1+y,t.2))) n.2) ?_ ?_
  rotate_left
  ·intro nx hnx
   obtain⟨o,rest⟩:=n
   cases o with
   |none =>
    obtain rfl:x=.non:=hx0
    exact⟨_,rL,rL,_,rL,xQ (hnx _ _ ⟨.non,rL,zj.refl _,rL⟩)⟩
   |some t =>
    rcases q:hx0 with⟨ax,p,q,rfl,g1,g2,g3⟩
    have zt:=zn.2 t rfl
    refine⟨_,rL,rL,_,rL,x5 ?_⟩
    have h1:=SG _ _ g1
    refine⟨_,rL,ax,_,_,_,rL,rL,.of h1,zc7 ..,_,rL,p,pb,_,_,rL,SG _ _ g2,SG _ _ hb,⟨zt.1.md,zb.md⟩,λr1 G2 e2 h2=>?_⟩
    refine⟨zL1,λp1 hp1=>?_⟩
    have S4:zj G (upd G2 p1 (.tup [.ref r1])):=e2.trans (zj.upd hp1)
    have hp1':upd G2 p1 (.tup [.ref r1]) p1=some (.tup [.ref r1]):=zg
    have h2':zD (upd G2 p1 (.tup [.ref r1])) r1 (t.1+y):=zj.upd hp1 _ _ h2
    generalize upd G2 p1 (.tup [.ref r1])=G4 at S4 hp1' h2'
    refine⟨_,rL,_,rL,zbh (S4 _ _ h1) λp2 G5 S5 hp2=>?_⟩
    rw[show (some (1:Int))=some ((1:Nat):Int)from rfl,Vw]at hp2
    refine VP (S5 _ _ hp1') hp2 (by simp;lia) λp3 G6 S6 hp3=>?_
    exact hnx _ _ ⟨.ref p3,rL,S4.trans (S5.trans S6),p3,r1,q,rL,hp3,(S5.trans S6) _ _ h2',(S4.trans (S5.trans S6)) _ _ (SG _ _ g3)⟩
  rintro σ' G2 ⟨v,rfl,S2,hv⟩
  have hl2:=S2 _ _ hlG
  refine⟨_,rL,.inl ⟨rL,_,SqL.of hl2⟩,_,rL,l,vs',_,rL,rL,hl2,xr ∅,?_⟩
  have Tu:zU G2 (upd G2 l (.lst (vs'++[v]))):=.upd hl2
  refine⟨_,vs'++[v],rfl,λb o e=>?_,zg,by simp[hvl],λj u n' f1 f2=>?_⟩
  ·rw[zF (zG e hl)];exact S2 _ _ (SG _ _ e)
  ·by_cases hj:j<vs'.length
   ·rw[wD hj]at f1
    exact((hvR j u n' f1 f2).tups (.of S2)).tups Tu
   ·rw[wB ∅]at f1
    have hj':j-vs'.length=0:=by
     rcases yD (j-vs'.length)with z | z
     ·exact z
     ·rw[wT (by simp;lia)]at f1;cases f1
    rw[hj']at f1;cases f1
    have:j=i:=by lia
    subst this
    rw[en]at f2;cases f2
    exact hv.tups Tu
 ·rintro σ G hQq;rcases q:hQq with⟨z3,vs',rfl,SG,hlG,hvl,hvR⟩
  refine⟨_,rL,l,vs',rL,.inl ⟨SqL.of hlG,λr hr'=>?_⟩⟩
  have Tu:zU G (upd G r (.tup vs')):=.of (zj.upd hr')
  refine k r vs' _ (SG.trans (zj.upd hr')) zg ⟨by unfold v6;rw[wf];lia,λi v n e1 e2=>?_⟩
  unfold v6 at e2
  rw[wg]at e2
  obtain⟨n0,e3,rfl⟩:=wY.mp e2
  exact(hvR i v n0 e1 e3).tups Tu
inductive zgs  (vs:List V) (H:Hp) (Q:VK) (_e3:XK):Prop
 |mk:∀a pf pk us N y z,(vs=[.ref a,.ref pf,.ref pk])->(H a=some (.tup us))->(OsR H us N)->(N.length<=8)->((∀n∈N,n.2.length<=1/\∀t,n.1=some t->Sz 2000 t.1/\Sz 2000 t.2))->(zD H pf y)->(Sz 10 y)->(zD H pk z)->(Sz 10 z)->(∀r us' H',zj H H'->H' r=some (.tup us')->OsR H' us' (v6 (λt=>(t.1*y,t.2*z)) N)->Q (.ref r) H')->zgs vs H Q _e3
theorem zbT:zH ["things","far","fast","found","thing"] ["things","far","fast"] (zr vV):=scq
theorem zj2 (D:Df K mg "_law_scaled" vV ["things","far","fast"] []) (T:TxQ K mg) (cBy:Cal P w K mg base "_law_by" 2 ["a","b"] [] (xY Sz2 (· * ·))):Cal P w K mg base "_law_scaled" 3 ["things","far","fast"] [] zgs:=by
 rcases r:D.calBq (k:=2) zbT with⟨a,pf,pk,us,N,y,z,rfl,ha,hO,h8,hz,hb,zb,hk,zk,k⟩
 have hul:=hO.1
 refine⟨_,(zM (Bx.mk (psl (i:=3) zbT.nd (qe ze)))
  (zM (Bx.mk (vg PassesOwn.never rfl (Xv (pv 0)) (pgl (i:=4) zbT.nd) (zA (xh (zJ qM (pv 4) xj (zN _)) (zB (psl (i:=4) zbT.nd (zE VZ (zT (zd (zI cBy hr (zd (pxt (pv 4)) (zd (pv 1) ze))) (zd (zI cBy hr (zd (pxt (pv 4)) (zd (pv 2) ze))) ze))) (qx (zey.or JX) (pv 4) (xO zi) Qn)))) zS) (zB (x9 (X8 yq yI yJ qu (pv 3) (zd (pv 4) ze)))))))
  (Bx.mk (zB (zK (qh xK (by rfl) T.nTuple yB (zd (pv 3) ze))))))),?_⟩
 try dsimp only[xl,Cx.nox]
 refine⟨by show 0<=sizeLine;exact yu _,λl hl=>?_⟩
 have S1:zj H (upd H l (.lst [])):=zj.upd hl
 have hl1:upd H l (.lst []) l=some (.lst []):=zg
 generalize upd H l (.lst [])=G1 at S1 hl1
 dsimp only[zO]
 refine zaZ ?_
 refine⟨_,rL,a,rL,⟨us,SqT.of (S1 _ _ ha)⟩,?_⟩
 refine zbo (xs:=us) (λi σ G=>∃z3 vs',σ=[Sr a,Sr pf,Sr pk,Sr l,z3]/\zj H G/\G l=some (.lst vs')/\vs'.length=i/\∀(j:Nat) (v:V) (n:OT×List V),vs'[j]?=some v->N[j]?=some n->ThR G v (n.1.map (λt=>(t.1*y,t.2*z))) n.2)
  ⟨_,[],rfl,S1,hl1,rfl,λj v n e=>by simp at e⟩ (λi σ G _ ⟨_,_,_,s,_⟩=>SqT.of (s _ _ ha)) ?_ ?_
 ·rintro i x σ G hx hQq;rcases q:hQq with⟨z3,vs',rfl,SG,hlG,hvl,hvR⟩
  have hi:i<us.length:=(wn.mp hx).1
  obtain⟨n,en⟩:∃n,N[i]?=some n:=⟨_,wk ∅⟩
  have hx0:=hO.2 i x n hx en
  have zn:=hz n (wm en)
  dsimp only[zO]
  refine xx (λσ' G'=>∃v,σ'=[Sr a,Sr pf,Sr pk,Sr l,some v]/\zj G G'/\ThR G' v (n.1.map (λt=>(t.1*y,t.2*z))) n.2) ?_ ?_
  rotate_left
  ·intro nx hnx
   obtain⟨o,rest⟩:=n
   cases o with
   |none =>
    obtain rfl:x=.non:=hx0
    exact⟨_,rL,rL,_,rL,xQ (hnx _ _ ⟨.non,rL,zj.refl _,rL⟩)⟩
   |some t =>
    rcases q:hx0 with⟨ax,p,q,rfl,g1,g2,g3⟩
    have zt:=zn.2 t rfl
    refine⟨_,rL,rL,_,rL,x5 ?_⟩
    have h1:=SG _ _ g1
    refine⟨_,rL,ax,_,_,_,rL,rL,.of h1,zc7 ..,_,rL,p,pf,_,_,rL,SG _ _ g2,SG _ _ hb,⟨zt.1.md,zb.md⟩,λr1 G2 e2 h2=>?_⟩
    refine⟨_,rL,ax,_,_,_,rL,rL,.of (e2 _ _ h1),zc8 ..,_,rL,q,pk,_,_,rL,e2 _ _ (SG _ _ g3),e2 _ _ (SG _ _ hk),⟨zt.2.md,zk.md⟩,λr2 G3 e3 h3=>?_⟩
    refine⟨zL2,λp1 hp1=>?_⟩
    have S4:zj G (upd G3 p1 (.tup [.ref r1,.ref r2])):=e2.trans (e3.trans (zj.upd hp1))
    have hp1':upd G3 p1 (.tup [.ref r1,.ref r2]) p1=some (.tup [.ref r1,.ref r2]):=zg
    have h2':zD (upd G3 p1 (.tup [.ref r1,.ref r2])) r1 (t.1*y):=zj.upd hp1 _ _ (e3 _ _ h2)
    have h3':zD (upd G3 p1 (.tup [.ref r1,.ref r2])) r2 (t.2*z):=zj.upd hp1 _ _ h3
    generalize upd G3 p1 (.tup [.ref r1,.ref r2])=G4 at S4 hp1' h2' h3'
    refine⟨_,rL,_,rL,zbh (S4 _ _ h1) λp2 G5 S5 hp2=>?_⟩
    rw[show (some (2:Int))=some ((2:Nat):Int)from rfl,Vw]at hp2
    refine VP (S5 _ _ hp1') hp2 (by simp;lia) λp3 G6 S6 hp3=>?_
    exact hnx _ _ ⟨.ref p3,rL,S4.trans (S5.trans S6),p3,r1,r2,rL,hp3,(S5.trans S6) _ _ h2',(S5.trans S6) _ _ h3'⟩
  rintro σ' G2 ⟨v,rfl,S2,hv⟩
  have hl2:=S2 _ _ hlG
  refine⟨_,rL,.inl ⟨rL,_,SqL.of hl2⟩,_,rL,l,vs',_,rL,rL,hl2,xr ∅,?_⟩
  have Tu:zU G2 (upd G2 l (.lst (vs'++[v]))):=.upd hl2
  refine⟨_,vs'++[v],rfl,λb o e=>?_,zg,by simp[hvl],λj u n' f1 f2=>?_⟩
  ·rw[zF (zG e hl)];exact S2 _ _ (SG _ _ e)
  ·by_cases hj:j<vs'.length
   ·rw[wD hj]at f1
    exact((hvR j u n' f1 f2).tups (.of S2)).tups Tu
   ·rw[wB ∅]at f1
    have hj':j-vs'.length=0:=by
     rcases yD (j-vs'.length)with z | z
     ·exact z
     ·rw[wT (by simp;lia)]at f1;cases f1
    rw[hj']at f1;cases f1
    have:j=i:=by lia
    subst this
    rw[en]at f2;cases f2
    exact hv.tups Tu
 ·rintro σ G hQq;rcases q:hQq with⟨z3,vs',rfl,SG,hlG,hvl,hvR⟩
  refine⟨_,rL,l,vs',rL,.inl ⟨SqL.of hlG,λr hr'=>?_⟩⟩
  have Tu:zU G (upd G r (.tup vs')):=.of (zj.upd hr')
  refine k r vs' _ (SG.trans (zj.upd hr')) zg ⟨by unfold v6;rw[wf];lia,λi v n e1 e2=>?_⟩
  unfold v6 at e2
  rw[wg]at e2
  obtain⟨n0,e3,rfl⟩:=wY.mp e2
  exact(hvR i v n0 e1 e3).tups Tu
end
open KQ (laQ laP)
def phB (φ:Rat×Rat->Rat×Rat) (b:zC):zC:=⟨(φ (b.pl,b.sp)).1,(φ (b.pl,b.sp)).2,b.wt⟩
def nnB (bs:List zC):NN:=bs.map λb=>(some (b.pl,b.sp),[V.int b.wt])
def QM {H:Hp}{φ:Rat×Rat->Rat×Rat}:∀{us:List V}{bs:List zC},OsR H us (v6 φ (nnB bs))->zP H us (bs.map (phB φ))
 |[],[],_=>.nil
 |[],_::_,h=>by have:=h.1;simp[v6,nnB]at this
 |_::_,[],h=>by have:=h.1;simp[v6,nnB]at this
 |u::us,b::bs,h=>by
  obtain⟨a,p,q,rfl,g1,g2,g3⟩:=h.2 0 u _ rfl rfl
  exact .cons g1 g2 g3 (QM (φ:=φ) ⟨by have:=h.1;simpa [v6,nnB]using this,λi v n e1 e2=>h.2 (i+1) v n ↥e1 (by simpa [v6,nnB]using e2)⟩)
def zaM {H:Hp}{φ:Rat×Rat->Rat×Rat}{us:List V}{lo hi:Wl}(h:OsR H us (v6 φ [(lo,[]),(hi,[])])):∃v1 v2,us=[v1,v2]/\xa H v1 (lo.map φ)/\xa H v2 (hi.map φ):=by
 have one:∀{v:V}{l:Wl},ThR H v l []->xa H v l:=λ{v l} h=>by
  cases l with
  |none=>exact h
  |some u=>obtain⟨x,y⟩:=u;obtain⟨a,p,q,e,g1,g2,g3⟩:=h;exact⟨a,p,q,e,g1,g2,g3⟩
 have hl:=h.1
 match us,hl,h with
 |[v1,v2],_,h=>exact⟨v1,v2,rfl,one (h.2 0 v1 (lo.map φ,[]) rfl rfl),one (h.2 1 v2 (hi.map φ,[]) rfl rfl)⟩
def OsR.rev {H:Hp}{us:List V}{N:NN}(h:OsR H us N):OsR H us.reverse N.reverse:=by
 refine⟨by rw[wI,wI];exact h.1,λi v n e1 e2=>?_⟩
 have hl:=h.1
 have hi:i<us.length:=by have:=(wn.mp e1).1;rwa [wI]at this
 rw[wX hi]at e1
 rw[wX ∅]at e2
 rw[hl]at e1
 exact h.2 _ v n e1 e2
def zdU (bs:List zC):(nnB bs).reverse=nnB bs.reverse:=by unfold nnB;rw[yA]
def zi8 (n:Nat) (gs:List Grp):Prop:=∀g∈gs,g.1<=g.2.1/\g.2.1<n/\(g.2.2 = "low"\/g.2.2 = "high"\/g.2.2 = "")
def zdy (bs:List zC) (lo hi:Wl) (m:Rat):zi8 bs.length (grM bs lo hi m)/\(grM bs lo hi m).length<=bs.length:=by
 refine⟨λg mg=>?_,?_⟩
 ·obtain⟨h1,h2,h3,_⟩:=qj (show g∈grL _ _ _ from mg)
  rw[wf]at h2
  exact⟨h1,h2,by rw[h3];exact Vb ..⟩
 ·have:=zei (ss:=((bs.map (xp m)).map zC.pl)) (f:=fL (bs.map (xp m)) (zL m lo) (zL m hi)) (λa b g e=>by rw[(zdr e).1];exact⟨rfl,rfl⟩)
  have key:∀n,(rlG ((bs.map (xp m)).map zC.pl) (fL (bs.map (xp m)) (zL m lo) (zL m hi)) n).length<=n:=λn=>by
   induction n with
   |zero=>exact wo _
   |succ n ih =>
    have e1:rlG ((bs.map (xp m)).map zC.pl) (fL (bs.map (xp m)) (zL m lo) (zL m hi)) (n+1)=if brk ((bs.map (xp m)).map zC.pl) n=true then rlG _ (fL (bs.map (xp m)) (zL m lo) (zL m hi)) n++(fL (bs.map (xp m)) (zL m lo) (zL m hi) (stG ((bs.map (xp m)).map zC.pl) n) n).toList else rlG _ (fL (bs.map (xp m)) (zL m lo) (zL m hi)) n:=rfl
    rw[e1]
    split
    ·rw[wC]
     have:∀o:Option Grp,o.toList.length<=1:=λo=>by cases o <;> simp
     have:=this (fL (bs.map (xp m)) (zL m lo) (zL m hi) (stG ((bs.map (xp m)).map zC.pl) n) n)
     lia
    ·lia
  have:=key bs.length
  unfold grM grL
  rw[wf];exact this
section
variable {P:Program}{w:World}{K:Fg}{mg:Str->Option Value}{base:Heap}{C CS CT Tb:Addr}
inductive ziH  (vs:List V) (H:Hp) (Q:VK) (_e3:XK):Prop
 |mk:∀(G:Addr) (n:Nat) (gv:List V) (gs:List Grp),(vs=[.ref G,.int (n:Int)])->(n<=8)->(H G=some (.lst gv))->(qX H gv gs)->(gs.length<=8)->(zi8 n gs)->(∀(G':Addr) (gv':List V) H',zj H H'->H' G'=some (.lst gv')->qX H' gv' (gs.reverse.map (ZM n))->Q (.ref G') H')->ziH vs H Q _e3
theorem zg8:zH ["groups","many","other"] ["groups","many"] (zr vi):=scq
theorem zjP (D:Df K mg "_law_mirrored" vi ["groups","many"] []):Cal P w K mg base "_law_mirrored" 3 ["groups","many"] [] ziH:=by
 rcases r:D.calq (k:=2) zg8 with⟨G,n,gv,gs,rfl,n8,hG,hgr,g8,hok,k⟩
 have hu1:=zjp hr
 have hgl:=hgr.1
 refine⟨_,(zA (Xx (i:=2) zg8.nd rfl (Or.inr rfl) (zfM (QO qI qI (QO qI qI (QO qI qI zfR))) rfl rfl (by intro z;cases z) (by decide))) (zB (zK (vK (NB:=["first","last","where"]) (FR:=["many","other"]) (js:=[1,2]) rfl rfl (λ_ _ h=>h) (.cons rfl rfl rfl ⟨_,rfl⟩ (.cons rfl rfl rfl ⟨_,rfl⟩ .nil)) rfl (by decide +kernel) rfl (by decide +kernel) (xN (zbI (pv 0) (vL qL zi))) (by intro _ _ _;refine⟨?_,?_,?_⟩;(exact(vS (K:=K) (n:=3) rfl rfl (zQ (pgl (i:=0) (show List.Nodup (["first","last","where","many","other"]:List Str) by decide +kernel)) (zQ (pgl (i:=1) (show List.Nodup (["first","last","where","many","other"]:List Str) by decide +kernel)) (zQ (pgl (i:=2) (show List.Nodup (["first","last","where","many","other"]:List Str) by decide +kernel)) xw)))));(exact xP);(exact(zT (zd (zE xA (zE xA (pv 3) zi) (pv 1)) (zd (zE xA (zE xA (pv 3) zi) (pv 0)) (zd (zfL hu1 (pv 4) (pv 2) (λ_ _=>rfl)) ze)))))))))),?_⟩
 try dsimp only[xl,Cx.nox]
 intro pd hpd
 refine⟨zg,[(Sum.inr "low",.str "high"),(Sum.inr "high",.str "low"),(Sum.inr "",.str "")],rfl,by show 3<=15;decide,?_⟩
 obtain⟨dd,edd⟩:∃dd,dd=Xt [] [((Sum.inr "low":Key),V.str "high"),(Sum.inr "high",.str "low"),(Sum.inr "",.str "")]:=⟨_,rfl⟩
 rw[<-edd]
 have s1:zj H (upd (upd H pd (.dK [])) pd (.dK dd)):=λb o e=>by
  rw[zF (zG e hpd),zF (zG e hpd)];exact e
 have hd1:upd (upd H pd (.dK [])) pd (.dK dd) pd=some (.dK dd):=zg
 generalize upd (upd H pd (.dK [])) pd (.dK dd)=H1 at s1 hd1
 refine⟨_,rL,_,rL,G,gv,rL,rL,SqL.of (s1 _ _ hG),λq1 hq1=>?_⟩
 have s2:=s1.trans (zj.upd (o:=.lst gv.reverse) hq1)
 have hq2:upd H1 q1 (.lst gv.reverse) q1=some (.lst gv.reverse):=zg
 have hd2:upd H1 q1 (.lst gv.reverse) pd=some (.dK dd):=zj.upd hq1 _ _ hd1
 generalize upd H1 q1 (.lst gv.reverse)=H2 at s2 hq2 hd2
 refine⟨q1,rL,⟨_,SqL.of hq2⟩,λDc hDc=>?_⟩
 refine qb (J:=Itl K q1) (n:=3) (js:=[1,2]) (g:=Vj K 3 (qC (zO 0) (qC (zO 1) (qC (zO 2) Jy)))) (te:=_) (xs:=gv.reverse) (λi v G=>∃g,(gs.reverse.map (ZM n))[i]?=some g/\Qt G v g) (λ_ _ _ _ e ⟨g,h1,a,h2,h3⟩=>⟨g,h1,a,h2,e _ _ h3⟩) hDc (xS hq2) (xr (by rw[wI];lia)) ?_ ?_
 ·intro i x zs H3 Q' hx hz s3 hk
  obtain⟨z1,z2,z3,rfl⟩:=KF.len3 hz
  have hi:i<gv.length:=by have:=(wn.mp hx).1;rwa [wI]at this
  rw[wX hi]at hx
  rcases q:hgr.2 _ x hx with⟨g,eg,a,rfl,ha⟩
  obtain⟨g1,g2,g3⟩:=hok g (wm eg)
  have ha3:=s3 _ _ (s2 _ _ ha)
  refine⟨a,_,rL,.of ha3,rL,_,_,rL,_,_,rL,_,_,rL,rL,rL,?_⟩
  have e1:(n:Int)-1-(g.2.1:Int)=((n-1-g.2.1:Nat):Int):=by lia
  have e2:(n:Int)-1-(g.1:Int)=((n-1-g.1:Nat):Int):=by lia
  have hd3:=s3 _ _ hd2
  have fin:∀o:Str,o=oS g.2.2->∃v,ze7 H3 pd (.str g.2.2) (some v)/\(3<=sizeLine/\∀t,H3 t=none->Q' (.ref t) (upd H3 t (.tup [.int ((n:Int)-1-(g.2.1:Int)),.int ((n:Int)-1-(g.1:Int)),v]))):=λo eo=>by
   refine⟨.str (oS g.2.2),?_,by decide,λt ht=>hk _ _ (zj.upd ht) ⟨ZM n g,?_,t,rfl,by rw[zg,e1,e2];rfl⟩⟩
   ·rcases g3 with z | z | z <;> rw[z] <;> rw[edd]at hd3
    ·exact .inl ⟨_,Sum.inr "low",.inl hd3,rL,rL⟩
    ·exact .inl ⟨_,Sum.inr "high",.inl hd3,rL,rL⟩
    ·exact .inl ⟨_,Sum.inr "",.inl hd3,rL,rL⟩
   ·rw[wg,wX ∅]
    rw[hgl]at eg
    rw[eg];rfl
  obtain⟨v,hv,h3,hq⟩:=fin _ rfl
  exact⟨_,rL,_,_,rL,rL,_,rL,_,_,rL,rL,_,rL,_,_,rL,rL,_,rL,_,_,rL,rL,_,rL,_,rL,pd,v,rL,hv,h3,hq⟩
 ·intro ys H3 s3 hD3 hly hyR
  exact k Dc ys H3 (s2.trans s3) hD3 ⟨by rw[hly,wI,wf,wI];exact hgl,hyR⟩
inductive zix (CS:Addr) (CT:Addr) (Tb:Addr) (vs:List V) (H:Hp) (Q:VK) (_e3:XK):Prop
 |mk:∀r wa bs lo hi,(vs=[.ref r,.ref wa])->(RwH H r wa bs lo hi)->(RwS bs lo hi)->(x0 Tb laQ laP H)->((∀H',StT Tb H H'->x0 Tb laQ laP H'->vj (tl bs lo hi)=none->Q .non H'))->((∀p mm r' wa' m ds H',StT Tb H H'->x0 Tb laQ laP H'->CoR bs lo hi m ds->H' p=some (.tup [.ref mm,.ref r',.ref wa'])->zD H' mm m->RwH H' r' wa' ds (zL m lo) (zL m hi)->Q (.ref p) H'))->((∀p H',StT Tb H H'->x0 Tb laQ laP H'->H' p=some (.tup [])->Q (.ref p) H'))->zix CS CT Tb vs H Q _e3
theorem zbO:zH ["row","walls","found"] ["row","walls"] (zr Zj):=scq
theorem zjB (D:Df K mg "_law_asked" Zj ["row","walls"] []) (mS:mg "Shut" = some (.ref CS)) (mT:mg "Together" = some (.ref CT)) (hx:∀C',C'=CS\/C'=CT->Yi K (.ref C') [.ref CS,.ref CT]=some true) (cBe:vG P w K mg base "behind" 6 ["row","walls"] [] (zb0 CS CT Tb)):Cal P w K mg base "_law_asked" 7 ["row","walls"] [] (zix CS CT Tb):=by
 refine D.calq (k:=6) zbO (λf0 cdv A outer s H vs Q E hr h=>?_)
 rcases q:h with⟨r,wa,bs,lo,hi,rfl,hR,Z,T,k1,k2,k3⟩
 refine⟨_,(zA (psl (i:=2) zbO.nd (zT ze)) (zA (zfS rL rL mS mT hx (λpz W J hJ=>(zB (psl (i:=2) zbO.nd (zbG cBe hr hJ (zd (pv 0) (zd (pv 1) ze)))))) (λpz a oe d vs hc hdd hdt=>(zB (psl (i:=2) zbO.nd (zT ze))))) (zB (zK (pv 2))))),?_⟩
 try dsimp only[xl,Cx.nox]
 refine⟨zL0,λp0 hp0=>?_⟩
 have s0:=zj.upd (o:=.tup []) hp0
 have T0:=T.same s0
 generalize upd H p0 (.tup [])=H0 at s0 T0
 refine⟨_,rL,_,rL,r,wa,bs,lo,hi,rL,hR.keeps (.of s0),Z,T0,?_,?_,?_⟩
 ·intro H2 s2 e
  exact⟨_,rL,k1 H2 (.of (s0.trans s2)) (T0.same s2) e⟩
 ·intro p mm r' wa' m ds H2 st tb hc h1 h2 h3
  exact⟨_,rL,k2 p mm r' wa' m ds H2 ((StT.of s0).trans st) tb hc h1 h2 h3⟩
 ·intro C' dx H2 st tb hC _
  refine⟨C',rL,hC,zL0,λp hp=>?_⟩
  have s3:=zj.upd (o:=.tup []) hp
  exact⟨_,rL,k3 p _ ((StT.of s0).trans (st.trans (.of s3))) (tb.same s3) zg⟩
end
open KF (fr frw)
def mvP (y:Rat) (t:Rat×Rat):Rat×Rat:=(t.1+y,t.2)
def scP (y z:Rat) (t:Rat×Rat):Rat×Rat:=(t.1*y,t.2*z)
def zjw (y:Rat):mvP y=tP 1 y 1 0:=funext λt=>by unfold mvP tP;exact Wv (by dsimp only;grind) (by dsimp only;grind)
def zg7 (y z:Rat):scP y z=tP y 0 z 0:=funext λt=>by unfold scP tP;exact Wv (by dsimp only;grind) (by dsimp only;grind)
def zkq:scP (-1) (-1)=nP:=funext λt=>by unfold scP nP;exact Wv (by dsimp only;grind) (by dsimp only;grind)
def zjm (v:Rat):fr v=tB 1 0 1 v:=funext λc=>by
 obtain⟨p,s,w⟩:=c
 show (⟨p,s+v,w⟩:zC)=⟨1*p+0,1*s+v,w⟩
 congr 1 <;> grind
def zdw (v:Rat) (l:Wl):frw v l=l.map (tP 1 0 1 v):=by
 cases l with
 |none=>rfl
 |some z=>show some (z.1,z.2+v)=some (1*z.1+0,1*z.2+v);congr 2 <;> grind
structure zak (bs2:List zC) (lo2 hi2:Wl) (m2:Rat) (ds2:List zC) (lo3 hi3:Wl) (gs:List Grp):Prop where
 co:CoR bs2 lo2 hi2 m2 ds2
 g:grM bs2 lo2 hi2 m2=gs
 l:zL m2 lo2=lo3
 h:zL m2 hi2=hi3
 s:RwS bs2 lo2 hi2
section
variable {bs ds:List zC}{lo hi:Wl}{m:Rat}
theorem Qp {a b k f u b' m2:Rat}(Z:RwZ bs lo hi) (h:CoR bs lo hi m ds) (hk:0<k) (hu:0<u) (ha:a=k*u) (hm:u*m=m2) (hb:b+f*m2=b') (z:∀x y,Sz 320 x->Sz 80 y->Sz 340 (a*x+b)/\Sz 100 (k*y+f)) :
  zak (bs.map (tB a b k f)) (lo.map (tP a b k f)) (hi.map (tP a b k f)) m2 (ds.map (tB a b' k f)) ((zL m lo).map (tP a b' k f)) ((zL m hi).map (tP a b' k f)) (grM bs lo hi m):=by
 subst hm hb
 obtain⟨c,g⟩:=h.tf (b:=b) (f:=f) hk hu ha Z.w
 exact⟨c,g,vO ha lo,vO ha hi,Z.tf (by rw[ha];exact Rat.mul_pos hk hu) hk z⟩
theorem zd0:(0:Rat)<1:=by decide +kernel
theorem zky {v:Rat}(Z:RwZ bs lo hi) (h:CoR bs lo hi m ds) (hv:Sz 5 v):zak (bs.map (fr v)) (frw v lo) (frw v hi) m ((ds.map (phB (mvP (v*m)))).map (fr v)) (frw v ((zL m lo).map (mvP (v*m)))) (frw v ((zL m hi).map (mvP (v*m)))) (grM bs lo hi m):=by
 have:=Qp (a:=1) (b:=0) (k:=1) (f:=v) (u:=1) (b':=v*m) (m2:=m) Z h zd0 zd0 (by grind) (by grind) (by grind) λx y zx zy=>⟨by rw[show (1:Rat)*x+0=x by grind];exact zx.md,by rw[show (1:Rat)*y+v=y+v by grind];exact(zy.add hv).md⟩
 have e2:∀l:Wl,frw v (l.map (mvP (v*m)))=l.map (tP 1 (v*m) 1 v):=λl=>by
  cases l with
  |none=>rfl
  |some z=>show some (z.1+v*m,z.2+v)=some (1*z.1+v*m,1*z.2+v);congr 2 <;> grind
 have e3:(ds.map (phB (mvP (v*m)))).map (fr v)=ds.map (tB 1 (v*m) 1 v):=by
  rw[wz]
  refine yz λc _=>?_
  show (⟨c.pl+v*m,c.sp+v,c.wt⟩:zC)=⟨1*c.pl+v*m,1*c.sp+v,c.wt⟩
  congr 1 <;> grind
 rw[e2,e2,e3,zdw,zdw,zjm];exact this
theorem zkz {y:Rat}(Z:RwZ bs lo hi) (h:CoR bs lo hi m ds) (hy:Sz 5 y):zak (bs.map (phB (mvP y))) (lo.map (mvP y)) (hi.map (mvP y)) m (ds.map (phB (mvP y))) ((zL m lo).map (mvP y)) ((zL m hi).map (mvP y)) (grM bs lo hi m):=by
 rw[zjw]
 exact Qp (u:=1) Z h zd0 zd0 (by grind) (by grind) (by grind) λx z zx zz=>⟨by rw[show (1:Rat)*x+y=x+y by grind];exact(zx.add hy).md,by rw[show (1:Rat)*z+0=z by grind];exact zz.md⟩
theorem zkB {y:Rat}(Z:RwZ bs lo hi) (h:CoR bs lo hi m ds) (hy:Sz 5 y) (y0:0<y):zak (bs.map (phB (scP y y))) (lo.map (scP y y)) (hi.map (scP y y)) m (ds.map (phB (scP y y))) ((zL m lo).map (scP y y)) ((zL m hi).map (scP y y)) (grM bs lo hi m):=by
 rw[zg7]
 exact Qp (u:=1) Z h y0 zd0 (by grind) (by grind) (by grind) λx z zx zz=>⟨by rw[show y*x+0=y*x by grind];exact(hy.mul zx).md,by rw[show y*z+0=y*z by grind];exact(hy.mul zz).md⟩
theorem zkC {y z:Rat}(Z:RwZ bs lo hi) (h:CoR bs lo hi m ds) (hz:Sz 5 z) (y0:0<y) (z0:0<z) (e:z*y=1):zak (bs.map (phB (scP 1 z))) (lo.map (scP 1 z)) (hi.map (scP 1 z)) (m*y) (ds.map (phB (scP 1 z))) ((zL m lo).map (scP 1 z)) ((zL m hi).map (scP 1 z)) (grM bs lo hi m):=by
 rw[zg7]
 exact Qp (u:=y) Z h z0 y0 e.symm (by grind) (by grind) λx w zx zw=>⟨by rw[show (1:Rat)*x+0=x by grind];exact zx.md,by rw[show z*w+0=z*w by grind];exact(hz.mul zw).md⟩
theorem zdS (cs:List zC):cs.reverse.map (phB (scP (-1) (-1)))=x6 cs:=by
 rw[zkq];unfold x6;rw[<-yA];rfl
theorem zkA (Z:RwZ bs lo hi) (h:CoR bs lo hi m ds):zak (bs.reverse.map (phB (scP (-1) (-1)))) (hi.map (scP (-1) (-1))) (lo.map (scP (-1) (-1))) m (ds.reverse.map (phB (scP (-1) (-1)))) ((zL m hi).map (scP (-1) (-1))) ((zL m lo).map (scP (-1) (-1))) ((grM bs lo hi m).reverse.map (ZM bs.length)):=by
 obtain⟨c,g⟩:=h.mir Z.o
 rw[zdS,zdS,zkq]
 exact⟨c,g,vc m hi,vc m lo,Z.mir⟩
end
def zda (b:zC):PyData:=.tuple [rD b.pl,rD b.sp,.int b.wt]
def Jo {H:Hp}:∀{us:List V}{bs:List zC},zP H us bs->Qb H us (bs.map zda)
 |_,_,.nil=>.nil
 |_,_,.cons h1 h2 h3 t=>.cons (.tup h1 (.cons (ZO h2) (.cons (ZO h3) (.cons (.int _) .nil)))) (Jo t)
def zdK (b:zC):Lay 2 (zda b):=Lay.tup λd m=>by
 simp only[ww,wO,or_false]at m
 rcases m with rfl | rfl | rfl
 ·exact .rat _
 ·exact .rat _
 ·exact(Lay.int _).md
def wlD (l:Wl):PyData:=match l with
 |none=>.none
 |some (x,y)=>.tuple [rD x,rD y]
def zhk {H:Hp}{v:V}{l:Wl}(h:xa H v l):RdD H v (wlD l):=by
 cases l with
 |none=>obtain rfl:v=.non:=h;exact .non
 |some u=>obtain⟨x,y⟩:=u;obtain⟨a,p,q,rfl,g1,g2,g3⟩:=h;exact .tup g1 (.cons (ZO g2) (.cons (ZO g3) .nil))
def zdM (l:Wl):Lay 2 (wlD l):=by
 cases l with
 |none=>exact Lay.non.md
 |some u =>
  obtain⟨x,y⟩:=u
  exact Lay.tup λd m=>by
   simp only[ww,wO,or_false]at m
   rcases m with rfl | rfl
   ·exact .rat _
   ·exact .rat _
def wsD (lo hi:Wl):PyData:=.tuple [wlD lo,wlD hi]
def zhT (lo hi:Wl):Lay 3 (wsD lo hi):=Lay.tup λd m=>by
 simp only[ww,wO,or_false]at m
 rcases m with rfl | rfl
 ·exact zdM _
 ·exact zdM _
def zhr (m:Rat) (cs:List zC) (lo hi:Wl):PyData:=.tuple [rD m,.tuple (cs.map zda),wsD lo hi]
def zbu (m:Rat) (cs:List zC) (lo hi:Wl):Lay 4 (zhr m cs lo hi):=Lay.tup λd h=>by
 simp only[ww,wO,or_false]at h
 rcases h with rfl | rfl | rfl
 ·exact(Lay.rat _).md
 ·exact Lay.tup λd h=>by obtain⟨b,_,rfl⟩:=wA.mp h;exact zdK b
 ·exact zhT _ _
def zap {H:Hp}{p mm r wa:Addr}{m:Rat}{cs:List zC}{lo hi:Wl}(hp:H p=some (.tup [.ref mm,.ref r,.ref wa])) (hm:zD H mm m) (hR:RwH H r wa cs lo hi):RdD H (.ref p) (zhr m cs lo hi):=by
 obtain⟨⟨us,h1,h2⟩,v1,v2,h3,h4,h5⟩:=hR
 exact .tup hp (.cons (ZO hm) (.cons (.tup h1 (Jo h2)) (.cons (.tup h3 (.cons (zhk h4) (.cons (zhk h5) .nil))) .nil)))
open KF (ze8 zcS)
def NZ (N:NN):Prop:=N.length<=8/\∀n∈N,n.2.length<=1/\∀t,n.1=some t->Sz 2000 t.1/\Sz 2000 t.2
def OA (H:Hp) (a:Addr) (N:NN):Prop:=∃us,H a=some (.tup us)/\OsR H us N
def OA.keeps {H H':Hp}{a:Addr}{N:NN}(h:OA H a N) (e:zU H H'):OA H' a N:=by
 obtain⟨us,h1,h2⟩:=h;exact⟨us,e _ _ h1,h2.tups e⟩
def RwH.oa {H:Hp}{r wa:Addr}{bs:List zC}{lo hi:Wl}(h:RwH H r wa bs lo hi):OA H r (nnB bs)/\OA H wa [(lo,[]),(hi,[])]:=by
 obtain⟨⟨us,h1,h2⟩,v1,v2,h3,h4,h5⟩:=h
 exact⟨⟨us,h1,zcj h2⟩,_,h3,zc1 h4 h5⟩
def Xb {H:Hp}{φ:Rat×Rat->Rat×Rat}{r wa:Addr}{bs:List zC}{lo hi:Wl}(h:OA H r (v6 φ (nnB bs))) (k:OA H wa (v6 φ [(lo,[]),(hi,[])])):RwH H r wa (bs.map (phB φ)) (lo.map φ) (hi.map φ):=by
 obtain⟨us,h1,h2⟩:=h
 obtain⟨ws,h3,h4⟩:=k
 obtain⟨v1,v2,rfl,g1,g2⟩:=zaM h4
 exact⟨⟨us,h1,QM h2⟩,v1,v2,h3,g1,g2⟩
def zjz {bs:List zC}(h8:bs.length<=8) (h:∀b∈bs,Sz 2000 b.pl/\Sz 2000 b.sp):NZ (nnB bs):=by
 refine⟨by unfold nnB;rw[wf];exact h8,λn mn=>?_⟩
 unfold nnB at mn
 obtain⟨b,mb,rfl⟩:=wA.mp mn
 exact⟨by simp,λt e=>by cases e;exact h b mb⟩
def zjA {lo hi:Wl}(h1:∀t,lo=some t->Sz 2000 t.1/\Sz 2000 t.2) (h2:∀t,hi=some t->Sz 2000 t.1/\Sz 2000 t.2):NZ [(lo,[]),(hi,[])]:=by
 refine⟨by simp,λn mn=>?_⟩
 simp only[ww,wO,or_false]at mn
 rcases mn with rfl | rfl
 ·exact⟨by simp,h1⟩
 ·exact⟨by simp,h2⟩
def Xu {H:Hp}{Q:VK}{E:XK}{a pb:Addr}{N:NN}{y:Rat}(h:OA H a N) (z:NZ N) (hb:zD H pb y) (zb:Sz 1000 y) (k:∀q H',zj H H'->OA H' q (v6 (mvP y) N)->Q (.ref q) H'):zgq [.ref a,.ref pb] H Q E:=by
 obtain⟨us,h1,h2⟩:=h
 exact⟨a,pb,us,N,y,rL,h1,h2,z.1,z.2,hb,zb,λr us' H' s g1 g2=>k r H' s ⟨us',g1,g2⟩⟩
def qV {H:Hp}{Q:VK}{E:XK}{a pf pk:Addr}{N:NN}{y z:Rat}(h:OA H a N) (zn:NZ N) (hb:zD H pf y) (zb:Sz 10 y) (hk:zD H pk z) (zk:Sz 10 z) (k:∀q H',zj H H'->OA H' q (v6 (scP y z) N)->Q (.ref q) H'):zgs [.ref a,.ref pf,.ref pk] H Q E:=by
 obtain⟨us,h1,h2⟩:=h
 exact⟨a,pf,pk,us,N,y,z,rL,h1,h2,zn.1,zn.2,hb,zb,hk,zk,λr us' H' s g1 g2=>k r H' s ⟨us',g1,g2⟩⟩
def OA.rev {H H':Hp}{p:Addr}{us:List V}{N:NN}(h:OsR H us N) (e:zU H H') (hp:H' p=some (.tup us.reverse)):OA H' p N.reverse:=⟨_,hp,(h.rev).tups e⟩
def NZ.rev {N:NN}(h:NZ N):NZ N.reverse:=⟨by rw[wI];exact h.1,λn m=>h.2 n (yp.mp m)⟩
def StP (Tb p:Addr) (H H':Hp):Prop:=∀b o,H b=some o->b≠Tb->b≠p->H' b=some o
section
variable {P:Program}{w:World}{K:Fg}{mg:Str->Option Value}{base:Heap}{C CS CT Tb:Addr}
theorem zep:zH ["a","b"] ["a","b"] (zr ZV):=scq
theorem zdV (D:Df K mg "_law_part" ZV ["a","b"] []) (cL:Cal P w K mg base "_law_low" 1 ["top","bottom"] [] ql):Cal P w K mg base "_law_part" 2 ["a","b"] [] (xY (λx y=>Sz2 x y/\y≠0) (· / ·)):=by
 rcases r:D.calq (k:=1) zep with⟨p,q,x,y,rfl,hp,hq,⟨⟨hx,hy⟩,hy0⟩,k⟩
 have bx:=Bd4 hx
 have b_y:=Bd4 hy
 refine⟨_,(zB (zK (zI cL hr (zd (zE zR (pxt (pv 0)) (pxt (pv 1))) (zd (zE zR (pxt (pv 0)) (pxt (pv 1))) ze))))),?_⟩
 try dsimp only[xl,Cx.nox]
 refine⟨_,rL,p,_,_,_,rL,rL,.of hp,at0 ..,_,rL,q,_,_,_,rL,rL,.of hq,at1 ..,_,_,rL,rL,⟨bx.1,b_y.2⟩,?_⟩
 refine⟨_,rL,p,_,_,_,rL,rL,.of hp,at1 ..,_,rL,q,_,_,_,rL,rL,.of hq,at0 ..,_,_,rL,rL,⟨bx.2,b_y.1⟩,?_⟩
 refine⟨_,_,rL,yi (KM.xL x) (λz=>hy0 (Yc.mp z)),(hx.2.mul hy.1).md,λr H' e h=>k r H' e ?_⟩
 show zD H' r (x/y)
 rw[<-KM.V0];exact h
inductive ziO (Tb:Addr) (vs:List V) (H:Hp) (Q:VK) (_e3:XK):Prop
 |mk:∀r wa mm G du r' wa' bs lo hi m ds gv lo3 hi3 gs,(vs=[.ref r,.ref wa,.ref mm,.ref G,.ref du])->(RwH H r wa bs lo hi)->(x0 Tb laQ laP H)->(zD H mm m)->(H G=some (.lst gv))->(qX H gv gs)->(H du=some (.tup [.ref r',.ref wa']))->(RwH H r' wa' ds lo3 hi3)->(zak bs lo hi m ds lo3 hi3 gs)->(∀H',StT Tb H H'->x0 Tb laQ laP H'->Q (.bl true) H')->ziO Tb vs H Q _e3
theorem zfn {bs:List zC}{lo hi:Wl}{m m':Rat}:Lay 3 (coD m' (grM bs lo hi m)):=zhR _ λg mg=>by
 obtain⟨_,_,h3,_⟩:=qj (show g∈grL _ _ _ from mg)
 rw[h3];exact zdL _ _ _
theorem zku:zH ["row","walls","moment","groups","due"] ["row","walls","moment","groups","due"] (zr ZW):=scq
theorem zj1 (D:Df K mg "_law_same" ZW ["row","walls","moment","groups","due"] []) (cNc:Cal P w K mg base "next_coming" 6 ["row","walls"] [] zb4) (cBe:Cal P w K mg base "behind" 6 ["row","walls"] [] (zeB Tb)):Cal P w K mg base "_law_same" 7 ["row","walls","moment","groups","due"] [] (ziO Tb):=by
 rcases r:D.calq (k:=6) zku with⟨r,wa,mm,G,du,r',wa',bs,lo,hi,m,ds,gv,lo3,hi3,gs,rfl,hR,T,hm,hG,hgr,hdu,hR',hS,k⟩
 rcases q:hS with⟨hco,rfl,rfl,rfl,Z⟩
 have hu:=hr.units
 refine⟨_,(zB (zK (zaN (vq (ZN hu) (zI cNc hr (zd (pv 0) (zd (pv 1) ze))) (zT (zd (pv 2) (zd (pv 3) ze))) (zN _)) (zaO (vq (ZN hu) (zI cBe hr (zd (pv 0) (zd (pv 1) ze))) (zE VZ (zT (zd (pv 2) ze)) (pv 4)) (zN _)))))),?_⟩
 try dsimp only[xl,Cx.nox]
 refine⟨_,rL,_,rL,r,wa,bs,lo,hi,m,ds,rL,hR,Z,hco,λp mm' G' gs' H1 s1 h1 h2 _ h4 h5=>?_⟩
 refine⟨_,rL,_,rL,zL2,λtp htp=>?_⟩
 have s2:=s1.trans (zj.upd (o:=.tup [.ref mm,.ref G]) htp)
 have t2:upd H1 tp (.tup [.ref mm,.ref G]) tp=some (.tup [.ref mm,.ref G]):=zg
 have s12:=zj.upd (o:=.tup [.ref mm,.ref G]) htp
 generalize upd H1 tp (.tup [.ref mm,.ref G])=H2 at s2 t2 s12
 have L:=zfn (bs:=bs) (lo:=lo) (hi:=hi) (m:=m) (m':=m)
 refine⟨coD m (grM bs lo hi m),coD m (grM bs lo hi m),.tup (s12 _ _ h1) (.cons (ZO (s12 _ _ h2)) (.cons (.lst (s12 _ _ h4) (zav (h5.keeps (.of s12)))) .nil)),.tup t2 (.cons (ZO (s2 _ _ hm)) (.cons (.lst (s2 _ _ hG) (zav (hgr.keeps (.of s2)))) .nil)),L.shaped (by decide),L.shaped (by decide),?_⟩
 rw[L.self]
 refine⟨true,rL,?_⟩
 refine x5 ?_
 refine⟨_,rL,_,rL,r,wa,bs,lo,hi,m,ds,rL,hR.keeps (.of s2),Z,T.same s2,hco,λp3 mm3 r3 wa3 H3 st3 tb3 g1 g2 g3=>?_⟩
 have tu:=Je (T.same s2) st3
 refine⟨_,rL,zL1,λq1 hq1=>?_⟩
 have s4:=zj.upd (o:=.tup [.ref mm]) hq1
 refine⟨_,rfl,VP (K:=K) zg (s4 _ _ (tu _ _ (s2 _ _ hdu))) (by simp) λq2 H5 s5 hq2=>?_⟩
 have s45:=s4.trans s5
 have L2:=zbu m ds (zL m lo) (zL m hi)
 refine⟨_,_,zap (s45 _ _ g1) (s45 _ _ g2) (g3.keeps (.of s45)),zap hq2 (s45 _ _ (tu _ _ (s2 _ _ hm))) ((hR'.keeps (.of s2)).keeps (tu.trans (.of s45))),L2.shaped (by decide),L2.shaped (by decide),?_⟩
 rw[L2.self]
 exact k _ ((StT.of s2).trans (st3.trans (.of s45))) (tb3.same s45)
end
def StP.of {Tb p:Addr}{H H':Hp}(h:xc p H H'):StP Tb p H H':=λb o e _ n=>h.keep b o e n
def StP.st {Tb p:Addr}{H H1 H2:Hp}(h:StP Tb p H H1) (k:StT Tb H1 H2):StP Tb p H H2:=λb o e n1 n2=>k b o (h b o e n1 n2) n1
def zfQ {H:Hp}{p Tb:Addr}{q:Str}{ps:Pos}(h:qQ H p) (T:x0 Tb q ps H):Tb≠p:=λz=>by
 obtain⟨x,y,w,e⟩:=h;obtain⟨l,g,_⟩:=T;rw[z,e]at g;cases g
def zeS {H H':Hp}{p Tb:Addr}{q:Str}{ps:Pos}(T:x0 Tb q ps H) (hP:qQ H p) (s:xc p H H'):x0 Tb q ps H':=by
 obtain⟨l,h1,h2,h3⟩:=id T
 have np:=zfQ hP T
 refine⟨l,s.keep _ _ h1 np,h2,?_⟩
 rcases h3 with h3 | ⟨c,g1,g2⟩
 ·exact .inl h3
 ·refine .inr ⟨c,g1,s.keep _ _ g2 λz=>?_⟩
  obtain⟨x,y,w,e⟩:=hP;rw[z,e]at g2;cases g2
def zbp {H:Hp}{t r aw:Addr}{bs:List zC}{l1 l2:Wl}{us:List V}{v1 v2:V}(h:ze8 H t bs l1 l2 r us aw v1 v2):H t=some (.tup [.ref r,.ref aw])/\RwH H r aw bs l1 l2:=⟨h.t,⟨us,h.r,h.b⟩,v1,v2,h.w,h.w1,h.w2⟩
section
variable {P:Program}{w:World}{K:Fg}{mg:Str->Option Value}{base:Heap}{C CS CT Tb:Addr}
theorem zdv {H:Hp}{Q:VK}{E:XK}{r aw ps:Addr}{bs:List zC}{lo hi:Wl}{v:Rat}(h:RwH H r aw bs lo hi) (h8:bs.length<=8) (hp:zD H ps v) (zv:Sz 5 v) (zb:∀b∈bs,Sz 1500 b.sp) (z1:∀t,lo=some t->Sz 1500 t.2) (z2:∀t,hi=some t->Sz 1500 t.2)
  (k:∀t r' aw' H',zj H H'->H' t=some (.tup [.ref r',.ref aw'])->RwH H' r' aw' (bs.map (fr v)) (frw v lo) (frw v hi)->Q (.ref t) H'):zcS [.ref r,.ref aw,.ref ps] H Q E:=by
 obtain⟨⟨us,h1,h2⟩,v1,v2,h3,h4,h5⟩:=h
 exact⟨r,us,bs,aw,v1,v2,lo,hi,ps,v,rL,h1,h2,h8,h3,h4,h5,hp,zb,λx y e=>z1 _ e,λx y e=>z2 _ e,zv.md,λt r' us' aw' v1' v2' H' s f=>k t r' aw' H' s (zbp f).1 (zbp f).2⟩
theorem za0:Sz 1 1:=⟨show (1:Int).natAbs<2^1 by decide,show (1:Int).natAbs<2^1 by decide⟩
theorem ziV:Sz 1 (-1):=⟨show (-1:Int).natAbs<2^1 by decide,show (1:Int).natAbs<2^1 by decide⟩
theorem zjx {H:Hp}{p:Addr}(h:H p=some (.tup [.int (-1),.int 1])):zD H p (-1):=h
theorem JL {H:Hp}{p:Addr}(h:H p=some (.tup [.int 1,.int 1])):zD H p 1:=h
theorem zhG {H:Hp}{p:Addr}{i:Int}(h:H p=some (.tup [.int i,.int 1])):zD H p (i:Rat):=by
 show H p=some (.tup (rp (i:Rat)))
 unfold rp
 rw[Rat.num_intCast,Rat.den_intCast];exact h
inductive ziP (Tb:Addr) (vs:List V) (H:Hp) (Q:VK) (_e3:XK):Prop
 |mk:∀r wa pf G p mm r' wa' bs lo hi m ds gv,(vs=[.ref r,.ref wa,.ref pf,.ref G,.ref p])->(RwH H r wa bs lo hi)->(RwZ bs lo hi)->(x0 Tb laQ laP H)->(CoR bs lo hi m ds)->(H pf=some (.tup [.ref mm,.ref r',.ref wa']))->(zD H mm m)->(RwH H r' wa' ds (zL m lo) (zL m hi))->(H G=some (.lst gv))->(qX H gv (grM bs lo hi m))->(qQ H p)->(G≠p)->(∀H',StP Tb p H H'->x0 Tb laQ laP H'->Q (.bl true) H')->ziP Tb vs H Q _e3
theorem qD:zH ["row","walls","found","groups","pool","moment","there","standing","way","speed","fold","seen","far","due","back","slow"] ["row","walls","found","groups","pool"] (zr ZX):=scq
theorem zj3 (D:Df K mg "_law_seen" ZX ["row","walls","found","groups","pool"] []) (T:TxB K mg) (cN:Cal P w K mg base "_law_next" 1 ["pool","base"] [] qA) (cSp:Cal P w K mg base "_law_speed" 2 ["pool"] [] Qf) (cFr:Cal P w K mg base "framed" 5 ["row","walls","speed"] [] zcS) (cBy:Cal P w K mg base "_law_by" 2 ["a","b"] [] (xY Sz2 (· * ·)))
  (cPt:Cal P w K mg base "_law_part" 2 ["a","b"] [] (xY (λx y=>Sz2 x y/\y≠0) (· / ·))) (cMv:Cal P w K mg base "_law_moved" 3 ["things","by"] [] zgq) (cSc:Cal P w K mg base "_law_scaled" 3 ["things","far","fast"] [] zgs) (cMi:Cal P w K mg base "_law_mirrored" 3 ["groups","many"] [] ziH) (cSa:Cal P w K mg base "_law_same" 7 ["row","walls","moment","groups","due"] [] (ziO Tb)) :
  Cal P w K mg base "_law_seen" 8 ["row","walls","found","groups","pool"] [] (ziP Tb):=by
 rcases r:D.calBq (k:=7) qD with⟨r,wa,pf,G,p,mm,r',wa',bs,lo,hi,m,ds,gv,rfl,hR,Z,TS0,hco,hpf,hm,hR',hG,hgr,hP,hGp,k⟩
 obtain⟨zm,zds,zl,zh⟩:=hco.sz Z
 have hr1:xb 1 _:=hr.md
 have hr2:xb 2 _:=hr.md
 have hr3:xb 3 _:=hr.md
 have hr5:xb 5 _:=hr.md
 have dl:ds.length=bs.length:=by have:=congrArg List.length hco.be.pw;simpa using this
 have nz1:NZ (nnB bs):=zjz Z.n8 λb mb=>⟨(Z.b mb).1.md,(Z.b mb).2.md⟩
 have nz2:NZ [(lo,[]),(hi,[])]:=zjA (λt e=>⟨(Z.l e).1.md,(Z.l e).2.md⟩) λt e=>⟨(Z.h e).1.md,(Z.h e).2.md⟩
 have nz3:NZ (nnB ds):=zjz (by rw[dl];exact Z.n8) λb mb=>⟨(zds b mb).1.md,(zds b mb).2.md⟩
 have nz4:NZ [(zL m lo,[]),(zL m hi,[])]:=zjA (λt e=>⟨(zl t e).1.md,(zl t e).2.md⟩) λt e=>⟨(zh t e).1.md,(zh t e).2.md⟩
 refine⟨_,(zM (Bx.mk (qi (pv 2) (qJ rL (zQ (pgl (i:=5) qD.nd) (zQ (pgl (i:=6) qD.nd) (zQ (pgl (i:=7) qD.nd) xw))))))
  (zM (Bx.mk (psl (i:=8) qD.nd (zI cN hr1 (zd (pv 4) (zd zi ze)))))
  (zM (Bx.mk (psl (i:=9) qD.nd (zI cSp hr2 (zd (pv 4) ze))))
  (zM (Bx.mk (psl (i:=10) qD.nd (zT (zd (zE xk zi (zI cN hr1 (zd (pv 4) (zd zi ze)))) (zd zi ze)))))
  (zM (Bx.mk (xh (zJ x8 (pv 8) zi (zN _)) (zA (psl (i:=11) qD.nd (zI cFr hr5 (zd (pv 0) (zd (pv 1) (zd (pv 9) ze)))))
  (zA (psl (i:=12) qD.nd (zI cBy hr2 (zd (pv 9) (zd (pv 5) ze))))
  (zA (psl (i:=13) qD.nd (zI cFr hr5 (zd (zI cMv hr3 (zd (pv 6) (zd (pv 12) ze))) (zd (zI cMv hr3 (zd (pv 7) (zd (pv 12) ze))) (zd (pv 9) ze)))))
  (zB (zK (zI cSa hr (zd (pxt (pv 11)) (zd (pxt (pv 11)) (zd (pv 5) (zd (pv 3) (zd (pv 13) ze))))))))))) zS))
  (zM (Bx.mk (xh (zJ x8 (pv 8) zi (zN _)) (zA (psl (i:=13) qD.nd (zT (zd (zI cMv hr3 (zd (pv 6) (zd (pv 9) ze))) (zd (zI cMv hr3 (zd (pv 7) (zd (pv 9) ze))) ze))))
  (zB (zK (zI cSa hr (zd (zI cMv hr3 (zd (pv 0) (zd (pv 9) ze))) (zd (zI cMv hr3 (zd (pv 1) (zd (pv 9) ze))) (zd (pv 5) (zd (pv 3) (zd (pv 13) ze))))))))) zS))
  (zM (Bx.mk (xh (zJ x8 (pv 8) zi (zN _)) (zA (psl (i:=14) qD.nd (zT (zd (vL qL zi) (zd zi ze))))
  (zA (psl (i:=13) qD.nd (zT (zd (zI cSc hr3 (zd (Qm (pv 6) (vL qL zi)) (zd (pv 14) (zd (pv 14) ze)))) (zd (zI cSc hr3 (zd (Qm (pv 7) (vL qL zi)) (zd (pv 14) (zd (pv 14) ze)))) ze))))
  (zA (psl (i:=11) qD.nd (zT (zd (zI cSc hr3 (zd (Qm (pv 0) (vL qL zi)) (zd (pv 14) (zd (pv 14) ze)))) (zd (zI cSc hr3 (zd (Qm (pv 1) (vL qL zi)) (zd (pv 14) (zd (pv 14) ze)))) ze))))
  (zB (zK (zI cSa hr (zd (pxt (pv 11)) (zd (pxt (pv 11)) (zd (pv 5) (zd (zI cMi hr3 (zd (pv 3) (zd (xI qg (by rfl) T.nLen PySem.boot_len (zd (pv 0) ze)) ze))) (zd (pv 13) ze))))))))))) zS))
  (zM (Bx.mk (xh (zJ x8 (pv 8) zi (zN _)) (zA (psl (i:=13) qD.nd (zT (zd (zI cSc hr3 (zd (pv 6) (zd (pv 10) (zd (pv 10) ze)))) (zd (zI cSc hr3 (zd (pv 7) (zd (pv 10) (zd (pv 10) ze)))) ze))))
  (zB (zK (zI cSa hr (zd (zI cSc hr3 (zd (pv 0) (zd (pv 10) (zd (pv 10) ze)))) (zd (zI cSc hr3 (zd (pv 1) (zd (pv 10) (zd (pv 10) ze)))) (zd (pv 5) (zd (pv 3) (zd (pv 13) ze))))))))) zS))
  (zM (Bx.mk (psl (i:=15) qD.nd (zI cPt hr2 (zd (zT (zd zi (zd zi ze))) (zd (pv 10) ze)))))
  (zM (Bx.mk (psl (i:=13) qD.nd (zT (zd (zI cSc hr3 (zd (pv 6) (zd (zT (zd zi (zd zi ze))) (zd (pv 15) ze)))) (zd (zI cSc hr3 (zd (pv 7) (zd (zT (zd zi (zd zi ze))) (zd (pv 15) ze)))) ze)))))
  (zM (Bx.mk (psl (i:=11) qD.nd (zT (zd (zI cSc hr3 (zd (pv 0) (zd (zT (zd zi (zd zi ze))) (zd (pv 15) ze)))) (zd (zI cSc hr3 (zd (pv 1) (zd (zT (zd zi (zd zi ze))) (zd (pv 15) ze)))) ze)))))
  (Bx.mk (zB (zK (zI cSa hr (zd (pxt (pv 11)) (zd (pxt (pv 11)) (zd (zI cBy hr2 (zd (pv 5) (zd (pv 10) ze))) (zd (pv 3) (zd (pv 13) ze)))))))))))))))))))),?_⟩
 try dsimp only[xl,Cx.nox]
 refine⟨_,rL,pf,_,rL,.of hpf,rL,_,_,rL,_,_,rL,_,_,rL,rL,?_⟩
 dsimp only[zO]
 refine⟨_,rfl,p,_,rfl,by decide,by decide,hP,λd1 G1 a1 b1 t1=>?_⟩
 refine⟨_,rL,p,rL,t1.pool,λrs v G2 t2 hrs zv=>?_⟩
 refine⟨_,rfl,p,_,rfl,by decide,by decide,t2.pool,λd3 G3 a3 b3 t3=>?_⟩
 refine⟨_,_,rL,rL,zL2,λfp hfp=>?_⟩
 have s3:=zj.upd (o:=.tup [.int (2+d3),.int 1]) hfp
 have T4:=(t1.trans (t2.trans t3)).same s3
 have hfo:zD (upd G3 fp (.tup [.int (2+d3),.int 1])) fp ((2+d3:Int):Rat):=zhG zg
 have hrs4:zD (upd G3 fp (.tup [.int (2+d3),.int 1])) rs v:=s3 _ _ (zV t2.pool t3 _ _ hrs)
 clear hrs
 generalize upd G3 fp (.tup [.int (2+d3),.int 1])=H4 at s3 T4 hfo hrs4
 have Tu:=zV hP T4
 have hR4:=hR.keeps Tu
 have hR4':=hR'.keeps Tu
 have hm4:zD H4 mm m:=Tu _ _ hm
 have hG4:=T4.keep _ _ hG hGp
 have hgr4:=hgr.keeps Tu
 have tab4:=zeS TS0 hP T4
 have P4:StP Tb p H H4:=.of T4
 obtain⟨fo,efo⟩:∃fo:Rat,fo=((2+d3:Int):Rat):=⟨_,rfl⟩
 have f0:0<fo:=by rw[efo];exact_mod_cast (show (0:Int)<2+d3 by omega)
 have zf:Sz 3 fo:=by rw[efo];exact Sz.int (show (2+d3).natAbs<2^3 by lia) (by decide)
 rw[<-efo]at hfo
 clear T4 Tu hR hR' hm hG hgr t1 t2 t3 s3 hfp hP efo hpf
 dsimp only[zO]
 have zmv:∀{y:Rat},Sz 807 y->(∀b∈ds.map (phB (mvP y)),Sz 1500 b.sp)/\(∀t,(zL m lo).map (mvP y)=some t->Sz 1500 t.2)/\(∀t,(zL m hi).map (mvP y)=some t->Sz 1500 t.2):=λ{y} zy =>
  ⟨λb mb=>by obtain⟨c,mc,rfl⟩:=wA.mp mb;exact(zds c mc).2.md,λt e=>by obtain⟨u,e1,rfl⟩:=wY.mp e;exact(zl u e1).2.md,λt e=>by obtain⟨u,e1,rfl⟩:=wY.mp e;exact(zh u e1).2.md⟩
 refine⟨_,rL,rL,_,rL,qa (λ_=>?_) (λ_=>ZC ?_)⟩
 ·refine⟨_,rL,_,rL,_,rL,?_⟩
  refine zdv hR4 Z.n8 hrs4 zv (λb mb=>(Z.b mb).2.md) (λt e=>(Z.l e).2.md) (λt e=>(Z.h e).2.md) λts ra wr H5 s5 hts hR5=>?_
  refine⟨_,rL,_,rL,rs,mm,v,m,rL,s5 _ _ hrs4,s5 _ _ hm4,⟨zv.md,zm.md⟩,λfa H6 s6 hfa=>?_⟩
  have s46:=s5.trans s6
  have zvm:Sz 807 (v*m):=zv.mul zm
  obtain⟨za,zb,zc⟩:=zmv zvm
  refine⟨_,rfl,_,rfl,Xu ((hR4'.keeps (.of s46)).oa.1) nz3 hfa (zvm.md) λq1 H7 s7 o1=>⟨_,rfl,_,rfl,Xu ((hR4'.keeps (.of (s46.trans s7))).oa.2) nz4 (s7 _ _ hfa) (zvm.md) λq2 H8 s8 o2=>⟨_,rfl,zdv (Xb (o1.keeps (.of s8)) o2) (by rw[wf,dl];exact Z.n8) ((s46.trans (s7.trans s8)) _ _ hrs4) zv za zb zc λtd rd wd H9 s9 htd hR9=>?_⟩⟩⟩
  have s79:=s6.trans (s7.trans (s8.trans s9))
  have s49:=s5.trans s79
  exact⟨_,rL,ts,_,_,_,rL,rL,.of (s79 _ _ hts),zc7 ..,_,rL,ts,_,_,_,rL,rL,.of (s79 _ _ hts),zc8 ..,_,rL,_,rL,_,rL,ra,wr,mm,G,td,rd,wd,_,_,_,m,_,gv,_,_,_,rL,hR5.keeps (.of s79),tab4.same s49,s49 _ _ hm4,s49 _ _ hG4,hgr4.keeps (.of s49),htd,hR9,zky Z hco zv,λH' st tb=>k H' (P4.st ((StT.of s49).trans st)) tb⟩
 refine⟨_,rL,rL,_,rL,qa (λ_=>?_) (λ_=>ZC ?_)⟩
 ·refine⟨_,rL,_,rL,Xu hR4'.oa.1 nz3 hrs4 (zv.md) λq1 H5 s5 o1=>⟨_,rL,_,rL,Xu ((hR4'.keeps (.of s5)).oa.2) nz4 (s5 _ _ hrs4) (zv.md) λq2 H6 s6 o2=>⟨zL2,λdu hdu=>?_⟩⟩⟩
  have s7:=zj.upd (o:=.tup [.ref q1,.ref q2]) hdu
  have hdu':upd H6 du (.tup [.ref q1,.ref q2]) du=some (.tup [.ref q1,.ref q2]):=zg
  generalize upd H6 du (.tup [.ref q1,.ref q2])=H7 at s7 hdu'
  have s47:=s5.trans (s6.trans s7)
  refine⟨_,rL,_,rL,Xu ((hR4.keeps (.of s47)).oa.1) nz1 (s47 _ _ hrs4) (zv.md) λq3 H8 s8 o3=>⟨_,rL,_,rL,Xu ((hR4.keeps (.of (s47.trans s8))).oa.2) nz2 ((s47.trans s8) _ _ hrs4) (zv.md) λq4 H9 s9 o4=>?_⟩⟩
  have s89:=s8.trans s9
  have s49:=s47.trans s89
  exact⟨_,rL,_,rL,_,rL,q3,q4,mm,G,du,q1,q2,_,_,_,m,_,gv,_,_,_,rL,Xb (o3.keeps (.of s9)) o4,tab4.same s49,s49 _ _ hm4,s49 _ _ hG4,hgr4.keeps (.of s49),s89 _ _ hdu',(Xb (o1.keeps (.of s6)) o2).keeps (.of (s7.trans s89)),zkz Z hco zv,λH' st tb=>k H' (P4.st ((StT.of s49).trans st)) tb⟩
 refine⟨_,rL,rL,_,rL,qa (λ_=>?_) (λ_=>ZC ?_)⟩
 ·refine⟨_,rL,zL2,λbk hbk=>?_⟩
  have s5:=zj.upd (o:=.tup [.int (-1),.int 1]) hbk
  have hb5:zD (upd H4 bk (.tup [.int (-1),.int 1])) bk (-1):=zjx zg
  have zb:Sz 10 (-1):=ziV.md
  nofun
  generalize upd H4 bk (.tup [.int (-1),.int 1])=H5 at s5 hb5
  rcases q:(hR4'.keeps (.of s5)).oa with⟨⟨u1,e1,o1⟩,⟨u2,e2,o2⟩⟩
  rcases q:(hR4.keeps (.of s5)).oa with⟨⟨u3,e3,o3⟩,⟨u4,e4,o4⟩⟩
  refine⟨_,rL,_,rL,r',u1,rL,rL,.of e1,λp1 hp1=>⟨_,rL,_,rL,?_⟩⟩
  have s6:=zj.upd (o:=.tup u1.reverse) hp1
  refine qV (OA.rev o1 (.of s6) zg) nz3.rev (s6 _ _ hb5) zb (s6 _ _ hb5) zb λq1 H6 s7 g1=>?_
  have s57:=s6.trans s7
  clear s6 s7
  refine⟨_,rL,_,rL,wa',u2,rL,rL,.of (s57 _ _ e2),λp2 hp2=>⟨_,rL,_,rL,?_⟩⟩
  have s8:=zj.upd (o:=.tup u2.reverse) hp2
  refine qV (OA.rev o2 (.of (s57.trans s8)) zg) nz4.rev (s8 _ _ (s57 _ _ hb5)) zb (s8 _ _ (s57 _ _ hb5)) zb λq2 H7 s9 g2=>⟨zL2,λdu hdu=>?_⟩
  have s10:=zj.upd (o:=.tup [.ref q1,.ref q2]) hdu
  have hdu':upd H7 du (.tup [.ref q1,.ref q2]) du=some (.tup [.ref q1,.ref q2]):=zg
  rw[zdU]at g1
  have hRd:=(Xb (g1.keeps (.of (s8.trans s9))) (show OA H7 q2 (v6 (scP (-1) (-1)) [(zL m hi,[]),(zL m lo,[])])from g2) (bs:=ds.reverse) (φ:=scP (-1) (-1)))
  have S8:=s57.trans (s8.trans (s9.trans s10))
  have hRd':=hRd.keeps (.of s10)
  generalize upd H7 du (.tup [.ref q1,.ref q2])=H8 at S8 hdu' hRd'
  clear s57 s8 s9 s10 hRd g1 g2 hdu
  refine⟨_,rL,_,rL,r,u3,rL,rL,.of (S8 _ _ e3),λp3 hp3=>⟨_,rL,_,rL,?_⟩⟩
  have s6:=zj.upd (o:=.tup u3.reverse) hp3
  refine qV (OA.rev o3 (.of (S8.trans s6)) zg) nz1.rev (s6 _ _ (S8 _ _ hb5)) zb (s6 _ _ (S8 _ _ hb5)) zb λq3 H9 s7 g3=>?_
  have s89:=s6.trans s7
  clear s6 s7
  refine⟨_,rL,_,rL,wa,u4,rL,rL,.of (s89 _ _ (S8 _ _ e4)),λp4 hp4=>⟨_,rL,_,rL,?_⟩⟩
  have s9:=zj.upd (o:=.tup u4.reverse) hp4
  refine qV (OA.rev o4 (.of (S8.trans (s89.trans s9))) zg) nz2.rev (s9 _ _ (s89 _ _ (S8 _ _ hb5))) zb (s9 _ _ (s89 _ _ (S8 _ _ hb5))) zb λq4 Ha s10 g4=>⟨zL2,λse hse=>?_⟩
  have s11:=zj.upd (o:=.tup [.ref q3,.ref q4]) hse
  have hse':upd Ha se (.tup [.ref q3,.ref q4]) se=some (.tup [.ref q3,.ref q4]):=zg
  rw[zdU]at g3
  have hRs:=(Xb (g3.keeps (.of (s9.trans s10))) (show OA Ha q4 (v6 (scP (-1) (-1)) [(hi,[]),(lo,[])])from g4) (bs:=bs.reverse) (φ:=scP (-1) (-1)))
  have Sb:=s89.trans (s9.trans (s10.trans s11))
  have hRs':=hRs.keeps (.of s11)
  generalize upd Ha se (.tup [.ref q3,.ref q4])=Hb at Sb hse' hRs'
  clear s89 s9 s10 s11 hRs g3 g4 hse
  have s4b:=s5.trans (S8.trans Sb)
  have hul:u3.length=bs.length:=by have:=o3.1;unfold nnB at this;rw[wf]at this;exact this
  refine⟨_,rfl,se,_,_,_,rfl,rfl,.of hse',zc7 ..,_,rfl,se,_,_,_,rfl,rfl,.of hse',zc8 ..,_,rfl,_,rfl,_,rfl,r,u3,rfl,.inr (.of (Sb _ _ (S8 _ _ e3))),G,u3.length,gv,_,rfl,by rw[hul];exact Z.n8,s4b _ _ hG4,hgr4.keeps (.of s4b),wV (zdy bs lo hi m).2 Z.n8,by rw[hul];exact(zdy bs lo hi m).1,λG' gv' Hc sc hG' hgr'=>?_⟩
  have s4c:=s4b.trans sc
  rw[hul]at hgr'
  exact⟨_,rL,q3,q4,mm,G',du,q1,q2,_,_,_,m,_,gv',_,_,_,rL,hRs'.keeps (.of sc),tab4.same s4c,s4c _ _ hm4,hG',hgr',sc _ _ (Sb _ _ hdu'),hRd'.keeps (.of (Sb.trans sc)),zkA Z hco,λH' st tb=>k H' (P4.st ((StT.of s4c).trans st)) tb⟩
 refine⟨_,rL,rL,_,rL,qa (λ_=>?_) (λ_=>ZC ?_)⟩
 ·refine⟨_,rL,_,rL,_,rL,qV hR4'.oa.1 nz3 hfo (zf.md) hfo (zf.md) λq1 H5 s5 o1=>⟨_,rL,_,rL,_,rL,qV ((hR4'.keeps (.of s5)).oa.2) nz4 (s5 _ _ hfo) (zf.md) (s5 _ _ hfo) (zf.md) λq2 H6 s6 o2=>⟨zL2,λdu hdu=>?_⟩⟩⟩
  have s7:=zj.upd (o:=.tup [.ref q1,.ref q2]) hdu
  have hdu':upd H6 du (.tup [.ref q1,.ref q2]) du=some (.tup [.ref q1,.ref q2]):=zg
  generalize upd H6 du (.tup [.ref q1,.ref q2])=H7 at s7 hdu'
  have s47:=s5.trans (s6.trans s7)
  refine⟨_,rL,_,rL,_,rL,qV ((hR4.keeps (.of s47)).oa.1) nz1 (s47 _ _ hfo) (zf.md) (s47 _ _ hfo) (zf.md) λq3 H8 s8 o3=>⟨_,rL,_,rL,_,rL,qV ((hR4.keeps (.of (s47.trans s8))).oa.2) nz2 ((s47.trans s8) _ _ hfo) (zf.md) ((s47.trans s8) _ _ hfo) (zf.md) λq4 H9 s9 o4=>?_⟩⟩
  have s89:=s8.trans s9
  have s49:=s47.trans s89
  exact⟨_,rL,_,rL,_,rL,q3,q4,mm,G,du,q1,q2,_,_,_,m,_,gv,_,_,_,rL,Xb (o3.keeps (.of s9)) o4,tab4.same s49,s49 _ _ hm4,s49 _ _ hG4,hgr4.keeps (.of s49),s89 _ _ hdu',(Xb (o1.keeps (.of s6)) o2).keeps (.of (s7.trans s89)),zkB Z hco (zf.md) f0,λH' st tb=>k H' (P4.st ((StT.of s49).trans st)) tb⟩
 refine⟨zL2,λo1 ho1=>⟨_,rfl,o1,fp,1,fo,rfl,JL zg,zj.upd ho1 _ _ hfo,⟨⟨za0.md,zf.md⟩,by grind⟩,λsl H5 s5' hsl=>?_⟩⟩
 have s5:=(zj.upd (o:=.tup [.int 1,.int 1]) ho1).trans s5'
 clear s5' ho1
 have z1:Sz 10 1:=za0.md
 have zs:Sz 5 (1/fo):=(Sz.div za0 zf (by grind)).md
 have fi:1/fo*fo=1:=by
  have:fo≠0:=by grind
  grind
 have f1:0<1/fo:=by rw[Wk f0];grind
 have hsl:zD H5 sl (1/fo):=hsl
 generalize 1/fo=sv at hsl zs fi f1
 refine⟨_,rL,zL2,λo2 ho2=>⟨_,rL,?_⟩⟩
 have s6:=zj.upd (o:=.tup [.int 1,.int 1]) ho2
 refine qV ((hR4'.keeps (.of (s5.trans s6))).oa.1) nz3 (JL zg) z1 (s6 _ _ hsl) (zs.mono (by decide:5<=10)) λq1 H6 s7 g1=>?_
 have s56:=s6.trans s7
 clear s6 s7
 refine⟨_,rL,zL2,λo3 ho3=>⟨_,rL,?_⟩⟩
 have s8:=zj.upd (o:=.tup [.int 1,.int 1]) ho3
 refine qV ((hR4'.keeps (.of (s5.trans (s56.trans s8)))).oa.2) nz4 (JL zg) z1 (s8 _ _ (s56 _ _ hsl)) (zs.mono (by decide:5<=10)) λq2 H7 s9 g2=>⟨zL2,λdu hdu=>?_⟩
 have s10:=zj.upd (o:=.tup [.ref q1,.ref q2]) hdu
 have hdu':upd H7 du (.tup [.ref q1,.ref q2]) du=some (.tup [.ref q1,.ref q2]):=zg
 have hRd':=(Xb (g1.keeps (.of (s8.trans s9))) g2).keeps (.of s10)
 have S8:=s56.trans (s8.trans (s9.trans s10))
 generalize upd H7 du (.tup [.ref q1,.ref q2])=H8 at S8 hdu' hRd'
 clear s56 s8 s9 s10 g1 g2 hdu ho2 ho3
 refine⟨_,rL,zL2,λo4 ho4=>⟨_,rL,?_⟩⟩
 have s6:=zj.upd (o:=.tup [.int 1,.int 1]) ho4
 refine qV ((hR4.keeps (.of (s5.trans (S8.trans s6)))).oa.1) nz1 (JL zg) z1 (s6 _ _ (S8 _ _ hsl)) (zs.mono (by decide:5<=10)) λq3 H9 s7 g3=>?_
 have s89:=s6.trans s7
 clear s6 s7
 refine⟨_,rL,zL2,λo5 ho5=>⟨_,rL,?_⟩⟩
 have s9:=zj.upd (o:=.tup [.int 1,.int 1]) ho5
 refine qV ((hR4.keeps (.of (s5.trans (S8.trans (s89.trans s9))))).oa.2) nz2 (JL zg) z1 (s9 _ _ (s89 _ _ (S8 _ _ hsl))) (zs.mono (by decide:5<=10)) λq4 Ha s10 g4=>⟨zL2,λse hse=>?_⟩
 have s11:=zj.upd (o:=.tup [.ref q3,.ref q4]) hse
 have hse':upd Ha se (.tup [.ref q3,.ref q4]) se=some (.tup [.ref q3,.ref q4]):=zg
 have hRs':=(Xb (g3.keeps (.of (s9.trans s10))) g4).keeps (.of s11)
 have Sb:=s89.trans (s9.trans (s10.trans s11))
 generalize upd Ha se (.tup [.ref q3,.ref q4])=Hb at Sb hse' hRs'
 clear s89 s9 s10 s11 g3 g4 hse
 have s4b:=s5.trans (S8.trans Sb)
 refine⟨_,rL,se,_,_,_,rL,rL,.of hse',zc7 ..,_,rL,se,_,_,_,rL,rL,.of hse',zc8 ..,_,rL,_,rL,mm,fp,m,fo,rL,s4b _ _ hm4,s4b _ _ hfo,⟨zm.md,zf.md⟩,λmf Hc sc hmf=>?_⟩
 have s4c:=s4b.trans sc
 exact⟨_,rL,_,rL,q3,q4,mf,G,du,q1,q2,_,_,_,m*fo,_,gv,_,_,_,rL,hRs'.keeps (.of sc),tab4.same s4c,hmf,s4c _ _ hG4,hgr4.keeps (.of s4c),sc _ _ (Sb _ _ hdu'),hRd'.keeps (.of (Sb.trans sc)),zkC Z hco zs f0 f1 fi,λH' st tb=>k H' (P4.st ((StT.of s4c).trans st)) tb⟩
end
def zcV {G0 G1 G':Hp}{p:Addr}(s:zj G0 G1) (hp:G0 p=none) (t:xc p G1 G'):zj G0 G':=λb o e=>t.keep b o (s b o e) (zG e hp)
def StZ (p:Addr) (H:Hp) (Q:VK):Prop:=∀t r wa bs lo hi H',xc p H H'->H' t=some (.tup [.ref r,.ref wa])->RwH H' r wa bs lo hi->RwZ bs lo hi->Q (.ref t) H'
def zel {bs:List zC}{lo hi:Wl}(G:Xj bs) (B:Box bs lo hi) (h1:1<=bs.length) (h8:bs.length<=8):RwZ bs lo hi:=⟨h1,h8,zkS G.sz B.z1 B.z2,zii G B h1,G.wt⟩
section
variable {P:Program}{w:World}{K:Fg}{mg:Str->Option Value}{base:Heap}{C CS CT Tb:Addr}
inductive ziE  (vs:List V) (H:Hp) (Q:VK) (_e3:XK):Prop
 |mk:∀(p:Addr),(vs=[.ref p])->(qQ H p)->(StZ p H Q)->ziE vs H Q _e3
theorem zg6:zH ["pool","row"] ["pool"] (zr Zm):=scq
theorem zjK (D:Df K mg "_law_drawn" Zm ["pool"] []) (cN:Cal P w K mg base "_law_next" 1 ["pool","base"] [] qA) (cFo:Cal P w K mg base "_law_focused" 4 ["pool","alike"] [] ziF) (cRo:Cal P w K mg base "_law_row" 4 ["pool","most"] [] zeG) (cBx:Cal P w K mg base "_law_box" 4 ["pool","row"] [] ziA):Cal P w K mg base "_law_drawn" 5 ["pool"] [] ziE:=by
 refine D.calBq (k:=4) zg6 (λf cdv A outer s H vs Q E hr h=>?_)
 obtain⟨p,rfl,hP,k⟩:=h
 have hr1:xb 1 _:=hr.md
 refine⟨_,(zM (Bx.mk (xh (zJ x8 (zI cN hr1 (zd (pv 0) (zd zi ze))) zi (zN _)) (zB (zK (zI cFo hr (zd (pv 0) (zd (vq X0 (zI cN hr1 (zd (pv 0) (zd zi ze))) zi (zN _)) ze))))) zS))
  (zM (Bx.mk (psl (i:=1) zg6.nd (zI cRo hr (zd (pv 0) (zd zi ze)))))
  (Bx.mk (zB (zK (zT (zd (pv 1) (zd (zI cBx hr (zd (pv 0) (zd (pv 1) ze))) ze)))))))),?_⟩
 try dsimp only[xl,Cx.nox]
 refine⟨_,rfl,p,_,rfl,by decide,by decide,hP,λd G1 a1 b1 t1=>?_⟩
 refine⟨rL,_,rL,qa (λh=>?_) (λh=>ZC ?_)⟩
 ·refine⟨_,rfl,_,rfl,p,_,rfl,by decide,by decide,t1.pool,λd2 G2 _ _ t2=>⟨_,_,rfl,rfl,p,_,rfl,t2.pool,?_⟩⟩
  intro t r ws us bs v1 v2 l1 l2 G3 t3 ht hr hB hG h1 h8 hws hv1 hv2 hBx
  exact k t r ws bs l1 l2 G3 (t1.trans (t2.trans t3)) ht ⟨⟨us,hr,hB⟩,v1,v2,hws,hv1,hv2⟩ (zel hG hBx h1 h8)
 refine⟨_,rfl,p,_,rfl,by decide,by decide,t1.pool,λr us bs G2 t2 hr hB hG h1 h8=>?_⟩
 refine⟨_,rL,_,rL,_,rL,p,r,us,bs,rL,hr,hB,hG,h1,t2.pool,λws v1 v2 l1 l2 G3 t3 hws hv1 hv2 hBx=>⟨zL2,λtt htt=>?_⟩⟩
 have Tu3:=zV t2.pool t3
 have s:=zj.upd (o:=.tup [.ref r,.ref ws]) htt
 exact k tt r ws bs l1 l2 _ ((t1.trans (t2.trans t3)).same s) zg ⟨⟨us,s _ _ (Tu3 _ _ hr),(hB.mono Tu3).same s⟩,v1,v2,s _ _ hws,hv1.tups (.of s),hv2.tups (.of s)⟩ (zel hG hBx h1 h8)
theorem ziU {H G:Hp}{a:Addr}{xs:List V}(h:SqL K H a xs) (T:x0 Tb laQ laP H) (st:StT Tb H G):SqL K G a xs:=by
 obtain⟨ps,gT,_⟩:=T
 rcases h with(h | ⟨o,h⟩) | h
 ·exact .inl (.inl (st _ _ h λz=>by rw[z,gT]at h;cases h))
 ·exact .inl (.inr ⟨o,st _ _ h λz=>by rw[z,gT]at h;cases h⟩)
 ·exact .inr h
inductive J0 (Tb:Addr) (K:Fg) (vs:List V) (H:Hp) (Q:VK) (_e3:XK):Prop
 |mk:∀(a:Addr) (ns:List Int),(vs=[.ref a])->(SqL K H a (ns.map V.int))->(ns.length<=63)->(x0 Tb laQ laP H)->(∀H',Q (.bl true) H')->J0 Tb K vs H Q _e3
theorem XR:zH ["script","row","walls","found","groups","cell"] ["script"] (zr s_law):=scq
theorem zic {fl:Addr}{fdl:FuncData}(D:Fun K "law" "law" s_law fl fdl) (T:TxQ K mg) (cC:Cal P w K mg base "_law_cell" 1 ["script","k"] [] (Jc K)) (cD:Cal P w K mg base "_law_left" 1 ["cell"] [] zeC) (cDr:Cal P w K mg base "_law_drawn" 5 ["pool"] [] ziE)
  (cAs:Cal P w K mg base "_law_asked" 7 ["row","walls"] [] (zix CS CT Tb)) (cNc:Cal P w K mg base "next_coming" 6 ["row","walls"] [] zb4) (cSe:Cal P w K mg base "_law_seen" 8 ["row","walls","found","groups","pool"] [] (ziP Tb)):qP P w K mg base CX0 9 fl fdl ["script"] (J0 Tb K):=by
 refine D.ok (k:=8) XR (λvs H Q E h=>by obtain⟨a,us,rfl,_⟩:=h;rfl) (λcdv A outer s H vs Q E hr h=>?_)
 rcases q:h with⟨a,ns,rfl,hS,hlen,TH,k⟩
 have hr1:xb 1 _:=hr.md
 have hr5:xb 5 _:=hr.md
 have hr6:xb 6 _:=hr.md
 have hr7:xb 7 _:=hr.md
 have hu:=hr.units
 refine⟨_,(zA (qi (zI cDr hr5 (zd (zI cD hr1 (zd (zI cC hr1 (zd (pv 0) (zd zi ze))) ze)) ze)) (qJ rL (zQ (pgl (i:=1) XR.nd) (zQ (pgl (i:=2) XR.nd) xw))))
  (zA (psl (i:=3) XR.nd (zI cAs hr7 (zd (pv 1) (zd (pv 2) ze))))
  (zA (xh (X9 (zJ qH (pv 3) xj (zN _)) (Xy (zJ (ZN hu) (pv 3) (zT ze) (zN _)))).pt (zB (zK zd5)) zS)
  (zA (psl (i:=4) XR.nd (pxt (zI cNc hr6 (zd (pv 1) (zd (pv 2) ze)))))
  (zA (vg PassesOwn.never rfl (xN (zE zfF (qe (zd zi ze)) (qx vX (pv 0) (xO zi) Qn))) (pgl (i:=5) XR.nd) (zB (xh (QP (qy (zI cSe hr (zd (pv 1) (zd (pv 2) (zd (pv 3) (zd (pv 4) (zd (zI cD hr1 (zd (pv 5) ze)) ze)))))) λ_=>rfl)) (zB (zK zd5)) zS)))
  (zB (zK zd5))))))),?_⟩
 try dsimp only[xl,Cx.nox]
 refine⟨_,rfl,a,ns,0,rfl,hS,by decide,λc=>⟨c,rfl,λp G1 hpn s1 hP=>⟨p,rfl,hP,λt r wa bs lo hi G2 t2 ht hR Z=>?_⟩⟩⟩
 have s2:=zcV s1 hpn t2
 have T2:=TH.same s2
 refine⟨t,_,rL,.of ht,rL,_,_,rL,_,_,rL,rL,?_⟩
 clear ht t2 hP s1
 have hS2:SqL K G2 a (ns.map V.int):=s2.seq hS
 dsimp only[zO]
 refine⟨_,rL,_,rL,r,wa,bs,lo,hi,rL,hR,Z.s,T2,λH' _ _ _=>?_,λpf mm r' wa' m ds G3 st3 T3 hco hpf hm hR'=>?_,λpe H' _ _ hpe=>?_⟩
 ·dsimp only[zO]
  refine⟨_,rL,rL,_,rL,?_⟩
  exact x5 (x5 (k _))
 ·dsimp only[zO]
  have S3:StT Tb H G3:=(StT.of s2).trans st3
  have tu:=Je T2 st3
  refine⟨_,rL,rL,_,rL,xQ ?_⟩
  refine⟨_,rL,zL0,λpe hpe=>?_⟩
  have s4:=zj.upd (o:=.tup []) hpe
  have L:=zbu m ds (zL m lo) (zL m hi)
  refine⟨_,.tuple [],zap (s4 _ _ hpf) (s4 _ _ hm) (hR'.keeps (.of s4)),.tup zg .nil,L.shaped (by decide),rfl,_,rfl,?_⟩
  rw[show PyData.eqv (zhr m ds (zL m lo) (zL m hi)) (.tuple [])=false from rfl]
  refine xQ (ZC ?_)
  have T4:=T3.same s4
  have hR4:=(hR.keeps tu).keeps (.of s4)
  have hpf4:=s4 _ _ hpf
  have hm4:zD _ mm m:=s4 _ _ hm
  have hR4':=hR'.keeps (.of s4)
  have S4:=S3.trans (.of s4)
  have hS4:=s4.seq (ziU hS2 T2 st3)
  generalize upd G3 pe (.tup [])=G4 at T4 hR4 hpf4 hm4 hR4' S4 hS4
  clear s4 hpe hpf hm hR' S3 tu st3 T3
  refine⟨_,rL,_,rL,r,wa,bs,lo,hi,m,ds,rL,hR4,Z.s,hco,λpn mn G gv G5 s5 h1 _ _ hG hgr=>⟨pn,_,_,_,rL,rL,.of h1,zc8 ..,?_⟩⟩
  dsimp only[zO]
  refine⟨zL1,λl0 hl0=>?_⟩
  have s6:=zj.upd (o:=.lst [.int 0]) hl0
  have e6:upd G5 l0 (.lst [.int 0]) l0=some (.lst [.int 0]):=zg
  generalize upd G5 l0 (.lst [.int 0])=G6 at s6 e6
  refine⟨_,rL,_,rL,a,_,rL,(s5.trans s6).seq hS4,λl1 hl1=>?_⟩
  have s7:=zj.upd (o:=.lst (xW (ns.map V.int) (some 1) none)) hl1
  have e7:upd G6 l1 (.lst (xW (ns.map V.int) (some 1) none)) l1=some (.lst (xW (ns.map V.int) (some 1) none)):=zg
  generalize upd G6 l1 (.lst (xW (ns.map V.int) (some 1) none))=G7 at s7 e7
  have hcut:(xW (ns.map V.int) (some 1) none).length<=63:=wV (qR _ _ _) (by rw[wf];exact hlen)
  refine⟨l0,l1,_,_,rfl,rfl,.of (s7 _ _ e6),.of e7,szl (by simp only[wJ,ue];lia),λl2 hl2=>?_⟩
  have s8:=zj.upd (o:=.lst ([.int 0]++xW (ns.map V.int) (some 1) none)) hl2
  have e8:upd G7 l2 (.lst ([.int 0]++xW (ns.map V.int) (some 1) none)) l2=some (.lst ([.int 0]++xW (ns.map V.int) (some 1) none)):=zg
  generalize upd G7 l2 (.lst ([.int 0]++xW (ns.map V.int) (some 1) none))=G8 at s8 e8
  have s58:=s6.trans (s7.trans s8)
  have s48:=s5.trans s58
  have T8:=T4.same s48
  have hG8:=s58 _ _ hG
  have hgr8:=hgr.keeps (.of s58)
  have hR8:=hR4.keeps (.of s48)
  have hR8':=hR4'.keeps (.of s48)
  have hpf8:=s48 _ _ hpf4
  have hm8:zD G8 mm m:=s48 _ _ hm4
  clear s5 s6 s7 s8 s58 s48 e6 e7 hG hgr hR4 hR4' hpf4 hm4 h1 hl0 hl1 hl2 S4 hS4 T4 hR hS2 hS T2 s2 TH
  have nT:∀{b:Addr}{xs:List V},G8 b=some (.lst xs)->b≠Tb:=λ{b xs} e z=>by
   obtain⟨ps,g,_⟩:=T8;rw[z,g]at e;cases e
  have itm:∀(i:Nat) (x:V),([V.int 0]++xW (ns.map V.int) (some 1) none)[i]?=some x->∃c,x=.int c:=λi x e=>by
   rcases wM.mp (wm e)with y | y
   ·exact⟨0,ye.mp y⟩
   ·have y2:x∈ns.map V.int:=by
     unfold xW at y
     exact yR (yS y)
    obtain⟨c,_,e2⟩:=wA.mp y2
    exact⟨c,e2.symm⟩
  refine⟨l2,rL,⟨_,SqL.of e8⟩,?_⟩
  refine QC (xs:=[V.int 0]++xW (ns.map V.int) (some 1) none) (λi σ G'=>∃z5,σ=[Sr a,Sr r,Sr wa,Sr pf,Sr G,z5]/\StT Tb G8 G'/\x0 Tb laQ laP G') ⟨_,rL,StT.refl,T8⟩ (λi σ G' _ ⟨_,_,st,_⟩=>SqL.of (st _ _ e8 (nT e8))) ?_ ?_
  ·rintro i x σ G9 hx ⟨z5,rfl,st,T9⟩
   obtain⟨c,rfl⟩:=itm i x hx
   have tu:=Je T8 st
   dsimp only[zO]
   refine⟨_,rL,_,rL,_,rL,_,rL,_,rL,c,rL,λp' Ga hpn' sa hP'=>?_⟩
   have nG:G≠p':=λz=>by
    have:=st _ _ hG8 (nT hG8);rw[z,hpn']at this;cases this
   refine⟨r,wa,pf,G,p',mm,r',wa',bs,lo,hi,m,ds,gv,rL,(hR8.keeps tu).keeps (.of sa),Z,T9.same sa,hco,sa _ _ (tu _ _ hpf8),sa _ _ (tu _ _ hm8),(hR8'.keeps tu).keeps (.of sa),sa _ _ (st _ _ hG8 (nT hG8)),(hgr8.keeps tu).keeps (.of sa),hP',nG,λGb sb Tb'=>?_⟩
   refine⟨_,rL,xQ ?_⟩
   exact⟨_,rfl,λb o e n=>sb b o (sa _ _ (st _ _ e n)) n (λz=>by have:=st _ _ e n;rw[z,hpn']at this;cases this),Tb'⟩
  ·rintro σ G9 ⟨z5,rfl,_⟩
   exact k _
 ·dsimp only[zO]
  refine⟨_,rL,rL,_,rL,xQ ?_⟩
  refine⟨_,rL,zL0,λp2 hp2=>?_⟩
  refine⟨.tuple [],.tuple [],.tup (zj.upd hp2 _ _ hpe) .nil,.tup zg .nil,rL,rL,_,rL,?_⟩
  rw[show PyData.eqv (.tuple []) (.tuple [])=true from rfl]
  exact x5 (k _)
end
open PySem.W
def xKB (K:Frag) (C:Addr):Bool:=findIn K (.ref C) "__getattribute__" == some (some (.builtin "BaseException.__getattribute__"))&&findIn K (.ref C) "__getattr__" == some none&&subIn K (.ref C) (.type "BaseException") == some true&&mroIn K C (.type "object") == some true&&hasDictIn K C &&
 findIn K (.ref C) "__class__" == some (some (.builtin "object.__class__"))&&specialIn K (.builtin "object.__class__") "__get__" == some (some (.builtin "getset_descriptor.__get__"))&&takesIn K (.builtin "object.__class__") == some true
def zhm {K:Frag}{C:Addr}(h:xKB K C=true):ExcK K C:=by
 simp only[xKB,yF,beq_iff_eq]at h
 obtain⟨⟨⟨⟨⟨⟨⟨h1,h2⟩,h3⟩,h4⟩,h5⟩,h6⟩,h7⟩,h8⟩:=h
 exact⟨h1,h2,h3,h4,h5,h6,h7,h8⟩
def zaI {K:Frag}{h:Heap}{N:Addr}{m:Str->Option Value}{x:Str}{v:Value}(X:K.In h) (G:h.Ns N m) (e:nsIn K N x=some (some v)):m x=some v:=by
 obtain⟨oN,eN,pN,gN,dN,_,fN⟩:=G
 unfold nsIn at e
 split at e
 case h_2=>cases e
 case h_1 c d es' n' sl q =>
  have z:=X _ _ q
  rw[gN]at z
  cases z
  cases dN
  split at e
  case h_1 en he =>
   cases e
   rw[<-fN]
   unfold nsFind findBy
   rw[<-Array.find?_toList,he];rfl
  case h_2=>split at e <;> cases e
def zcd (K:Frag) (C f:Addr):Bool:=match K.lookup C with
 |some ⟨.type "type",_,.cls cd,sl⟩=>(match cd.mro,sl.toList with
  |.ref C'::bm,[_,_,_,_,some (.builtin n),_]=>C' == C&&n == "ValueError.__new__"&&!cd.hasDel&&tailIn K zaa bm&&nsOkIn K cd.ns&&nsIn K cd.ns "__init__" == some (some (.ref f))&&cd.hasDict&&XZ (.ref C'::bm)
  |_,_=>false)
 |_=>false
def ze0 {K:Frag}{h:Heap}{C f:Addr}(X:K.In h) (q:zcd K C f=true) (hf:∃oI,h.get? f=some oI/\oI.cls=.type "function") (kp:keepIn K (.ref C)=true):XMk K h C f/\XB h C/\∃cd,clsIn K C=some cd/\cd.hasDict=true/\XZ cd.mro=true:=by
 unfold zcd at q
 split at q
 case h_2=>cases q
 case h_1 dd cd sl ho =>
  split at q
  case h_2=>cases q
  case h_1 C' bm k0 k1 k2 k3 n k5 hm hs =>
   have hcl:clsIn K C=some cd:=by unfold clsIn;rw[ho]
   obtain⟨cnm,cbs,cmro,cns,cqn,chd,csn,csub,cab,ccol,cdel⟩:=cd
   obtain⟨sll⟩:=sl
   simp only at hm hs q
   subst hm;subst hs
   simp only[yF,beq_iff_eq,Bool.not_eq_true']at q
   obtain⟨⟨⟨⟨⟨⟨⟨eC,en⟩,ed⟩,et⟩,eo⟩,ei⟩,eh⟩,ov⟩:=q
   subst eC;subst en;subst ed;subst eh
   refine⟨⟨⟨cnm,cqn,cns,cbs,bm,true,csn,csub,cab,ccol,dd,k0,k1,k2,k3,k5,_,X _ _ ho,.of_isNs (isNs_of_in X eo),?_,tail_of_in X et⟩,hf,kp⟩,⟨cnm,cqn,cns,cbs,bm,true,csn,csub,cab,ccol,dd,k0,k1,k2,k3,k5,_,X _ _ ho,tail_of_in X et⟩,_,hcl,rL,ov⟩
   exact zaI X (.of_isNs (isNs_of_in X eo)) ei
def DD (K:Fg) (x:Str) (st:Stmt):Prop:=∃(f:Addr) (oc:Value) (od an:Option Addr) (sl:Array (Option Value)) (kV dc pm cd ct:Value),
 PySem.W.nsIn K mainGlobals x=some (some (.ref f))/\K.lookup f=some ⟨oc,od,.func (PySem.W.fnOf x x (xt st) (zZ st) (zr st) .none kV dc pm an cd ct),sl⟩/\PySem.W.codeIn K cd x=true/\PySem.W.keepIn K (.ref f)=true
section
variable {K:Fg}{x:Str}{st:Stmt}
theorem zjh {f:Addr}{oc:Value}{od an:Option Addr}{sl:Array (Option Value)}{kV dc pm cd ct:Value}(a:PySem.W.nsIn K mainGlobals x=some (some (.ref f))) (l:K.lookup f=some ⟨oc,od,.func (PySem.W.fnOf x x (xt st) (zZ st) (zr st) .none kV dc pm an cd ct),sl⟩) (c:PySem.W.codeIn K cd x=true) (k:PySem.W.keepIn K (.ref f)=true):DD K x st :=
 ⟨f,oc,od,an,sl,kV,dc,pm,cd,ct,a,l,c,k⟩
variable {h:Heap}{mg:Str->Option Value}{ps:List Str}
theorem DD.df (d:DD K x st) (X:K.In h) (G:h.Ns mainGlobals mg) (hb:∀(kV dc pm cd ct:Value) (an:Option Addr) (us:List Value),us.length=ps.length->bindArgs (PySem.W.fnOf x x (xt st) (zZ st) (zr st) .none kV dc pm an cd ct) ⟨us,[]⟩=pure (ps.zip us)):Df K mg x st ps []:=by
 obtain⟨f,oc,od,an,sl,kV,dc,pm,cd,ct,a,l,c,k⟩:=d
 exact zji l c k (uj X G a) (hb kV dc pm cd ct an)
theorem lsc {n:Nat}{us:List Value}(e:us.length=n+1):∃a t,us=a::t/\t.length=n:=by
 cases us with
 |nil=>cases e
 |cons a t=>exact⟨a,t,rfl,Nat.succ.inj e⟩
theorem lsn {us:List Value}(e:us.length=0):us=[]:=List.length_eq_zero_iff.mp e
theorem DD.df1 {p:Str}(d:DD K x st) (X:K.In h) (G:h.Ns mainGlobals mg) (hb:∀(kV dc pm cd ct:Value) (an:Option Addr) a,bindArgs (PySem.W.fnOf x x (xt st) (zZ st) (zr st) .none kV dc pm an cd ct) ⟨[a],[]⟩=pure ([p].zip [a]):=by intros;rfl):Df K mg x st [p] [] :=
 d.df X G λkV dc pm cd ct an us hl=>by
  obtain⟨a,us,rfl,h1⟩:=lsc hl
  cases lsn h1
  exact hb kV dc pm cd ct an a
theorem DD.df2 {p q:Str}(d:DD K x st) (X:K.In h) (G:h.Ns mainGlobals mg) (hb:∀(kV dc pm cd ct:Value) (an:Option Addr) a b,bindArgs (PySem.W.fnOf x x (xt st) (zZ st) (zr st) .none kV dc pm an cd ct) ⟨[a,b],[]⟩=pure ([p,q].zip [a,b]):=by intros;rfl):Df K mg x st [p,q] [] :=
 d.df X G λkV dc pm cd ct an us hl=>by
  obtain⟨a,us,rfl,h1⟩:=lsc hl
  obtain⟨b,us,rfl,h2⟩:=lsc h1
  cases lsn h2
  exact hb kV dc pm cd ct an a b
theorem DD.df3 {p q r:Str}(d:DD K x st) (X:K.In h) (G:h.Ns mainGlobals mg) (hb:∀(kV dc pm cd ct:Value) (an:Option Addr) a b c,bindArgs (PySem.W.fnOf x x (xt st) (zZ st) (zr st) .none kV dc pm an cd ct) ⟨[a,b,c],[]⟩=pure ([p,q,r].zip [a,b,c]):=by intros;rfl):Df K mg x st [p,q,r] [] :=
 d.df X G λkV dc pm cd ct an us hl=>by
  obtain⟨a,us,rfl,h1⟩:=lsc hl
  obtain⟨b,us,rfl,h2⟩:=lsc h1
  obtain⟨c,us,rfl,h3⟩:=lsc h2
  cases lsn h3
  exact hb kV dc pm cd ct an a b c
theorem DD.df5 {p q r s t:Str}(d:DD K x st) (X:K.In h) (G:h.Ns mainGlobals mg) (hb:∀(kV dc pm cd ct:Value) (an:Option Addr) a b c e f,bindArgs (PySem.W.fnOf x x (xt st) (zZ st) (zr st) .none kV dc pm an cd ct) ⟨[a,b,c,e,f],[]⟩=pure ([p,q,r,s,t].zip [a,b,c,e,f]):=by intros;rfl):Df K mg x st [p,q,r,s,t] [] :=
 d.df X G λkV dc pm cd ct an us hl=>by
  obtain⟨a,us,rfl,h1⟩:=lsc hl
  obtain⟨b,us,rfl,h2⟩:=lsc h1
  obtain⟨c,us,rfl,h3⟩:=lsc h2
  obtain⟨e,us,rfl,h4⟩:=lsc h3
  obtain⟨f,us,rfl,h5⟩:=lsc h4
  cases lsn h5
  exact hb kV dc pm cd ct an a b c e f
end
end KT
namespace PySem.W.Fast
def tw10024317602108660102:=0
def tw10189014474781358711:=0
def tw10290088411580675698:=0
def tw10325321402275097557:=0
def tw10395873590506733967:=0
def tw10496567552444883212:=0
def tw10601365082494676192:=0
def tw10632769473597749913:=0
def tw10681253988498690358:=0
def tw10826270900590998578:=0
def tw10890820416895537382:=0
def tw10936455221647774347:=0
def tw11041055601472011660:=0
def tw11253438948405415383:=0
def tw11434196773460864210:=0
def tw11510803007763578653:=0
def tw11660417225806308489:=0
def tw11711016579961173980:=0
def tw11741720792387742017:=0
def tw1182478456471044672:=0
def tw11878846646973007857:=0
def tw12347563538029661042:=0
def tw12533406641876347907:=0
def tw12792611646843898143:=0
def tw1280359634550439343:=0
def tw12804492397044581934:=0
def tw12881823978579740367:=0
def tw12914396589057340531:=0
def tw12961397605906153503:=0
def tw1311048577900534294:=0
def tw13129244188700965508:=0
def tw13137731028958678445:=0
def tw13291069182697029359:=0
def tw13543689323487010858:=0
def tw13558878279888212970:=0
def tw13626955200830562411:=0
def tw13799832134640683752:=0
def tw13890557698691179976:=0
def tw14057428227625870046:=0
def tw14063492865463240491:=0
def tw14083887903610269767:=0
def tw14368710389297385384:=0
def tw14387722622314247422:=0
def tw14442406720949507543:=0
def tw14638125945326444554:=0
def tw14657652269667715966:=0
def tw14698704650855259886:=0
def tw1485202895882168377:=0
def tw14882398904143797544:=0
def tw14942048532722240790:=0
def tw14950358833861898963:=0
def tw15190269702093233680:=0
def tw15193822442665287:=0
def tw15273816237428493194:=0
def tw15408594037394862561:=0
def tw15410064649850431188:=0
def tw15576116595392003327:=0
def tw1557886159672996802:=0
def tw15602644790052462873:=0
def tw15634637642262941469:=0
def tw15655685140032752500:=0
def tw15890071299742011738:=0
def tw15995509219005356892:=0
def tw16018866880062594980:=0
def tw16035747350832793070:=0
def tw16258455578325801114:=0
def tw16267426894237029495:=0
def tw16282179203708059906:=0
def tw16424641371827965458:=0
def tw16453983699015189084:=0
def tw16607008005545166774:=0
def tw16659931683480794357:=0
def tw16713194210445059364:=0
def tw16981309285566206798:=0
def tw170778760275179791:=0
def tw17207492206829846317:=0
def tw17211665932663144076:=0
def tw17419204561125694563:=0
def tw17457213991335885897:=0
def tw17465395557704867118:=0
def tw17495567361176108730:=0
def tw17504113583191237424:=0
def tw17540400016434151146:=0
def tw17702877821885099063:=0
def tw17726096080374775048:=0
def tw17819896501437276140:=0
def tw17880458786989734321:=0
def tw1802638529607415391:=0
def tw18055326233779294577:=0
def tw1812227713085855810:=0
def tw18215365396557457678:=0
def tw18260219929141330486:=0
def tw18402049460768425842:=0
def tw1884110736515260289:=0
def tw1996737085514523352:=0
def tw2028176259032451706:=0
def tw210927856219203329:=0
def tw2116637982645334452:=0
def tw2120427588993247295:=0
def tw2151937336757850420:=0
def tw2267163732667395116:=0
def tw2398669748752657227:=0
def tw2407975149707869177:=0
def tw241196188482244680:=0
def tw2453977985812911710:=0
def tw2484036121245713313:=0
def tw2591368292752311100:=0
def tw2617526472844836827:=0
def tw2721820615198575835:=0
def tw2783540513864523907:=0
def tw2875606192693202371:=0
def tw3013442040923651336:=0
def tw3014845108032874384:=0
def tw308306675051278090:=0
def tw309038730026222768:=0
def tw3185006701357862574:=0
def tw3193037501602795276:=0
def tw3238496635596162786:=0
def tw3259202793286861041:=0
def tw3263894636790798703:=0
def tw3337386842626285829:=0
def tw345376718903012672:=0
def tw3539101364282261291:=0
def tw3548886930192596476:=0
def tw3574485140125825415:=0
def tw3670144304658895109:=0
def tw3696891688976336216:=0
def tw3725067977858803335:=0
def tw3783502706541630141:=0
def tw3900502345852568227:=0
def tw3994811143868598709:=0
def tw4073367097757029558:=0
def tw4084653105572374452:=0
def tw4185769552018088402:=0
def tw4253142715403213906:=0
def tw456509272342196587:=0
def tw4566976227968787775:=0
def tw469291812160657161:=0
def tw4846869317718284053:=0
def tw4861916452804268375:=0
def tw4971588281119193327:=0
def tw503765159406096868:=0
def tw5068133037053343339:=0
def tw5069316182807797781:=0
def tw5195911143614771842:=0
def tw5201924030269876565:=0
def tw5259716954362184134:=0
def tw543192684216569221:=0
def tw562381623795968078:=0
def tw5648109913572752501:=0
def tw5676683547475838007:=0
def tw5685704447514099156:=0
def tw5750343266909229926:=0
def tw5768122433642568513:=0
def tw5933035973301332996:=0
def tw5987331409167842162:=0
def tw6130179890066616341:=0
def tw6142757374138932827:=0
def tw6287460531869630899:=0
def tw6455361634564990848:=0
def tw6536995645573482761:=0
def tw6579589595754482517:=0
def tw6620154199789230542:=0
def tw684900940702783482:=0
def tw7058877720755904491:=0
def tw7375816075775183153:=0
def tw7491905658344172971:=0
def tw7498274460492080528:=0
def tw7503423849381885513:=0
def tw7539326603500539284:=0
def tw7540165208659097425:=0
def tw7594708600924038654:=0
def tw7661884826523965815:=0
def tw778316014615295719:=0
def tw7800713428224044554:=0
def tw7941756031466263271:=0
def tw8158082361385904247:=0
def tw8231882208315064427:=0
def tw83792416094400788:=0
def tw8384297582496244609:=0
def tw8417928926705374364:=0
def tw8442321594784184483:=0
def tw8747354456639079019:=0
def tw8780716105373833069:=0
def tw8786980080731172941:=0
def tw8911028941382600544:=0
def tw9084960302444069510:=0
def tw9106694649503179398:=0
def tw9146241996402021095:=0
def tw9181459771997522287:=0
def tw9277550932904160774:=0
def tw9486577457790608962:=0
def tw9548465404890521028:=0
def tw9629093904583847512:=0
def tw9672287218072762545:=0
def tw97145800904721362:=0
def tw9773975552435834356:=0
end PySem.W.Fast
namespace KT
open PySem L2 KM KK
def zhQ (K:Fg):PySem.W.kitOne K (.type "int") (.type "int")=some true:=by
 unfold PySem.W.kitOne;rw[if_pos (by decide +kernel)]
def zhP (K:Fg):PySem.W.kitOne K (.type "int") (.type "bool")=some false:=by
 with_unfolding_all rfl
def zhq {l:PySem.W.OpenLaw}{w:World}{K:Fg}{h:Heap}{mg:Str->Option Value}{fa cde Tb:Addr}(X:K.In h) (G:h.Ns mainGlobals mg) (hfa:mg "law" = some (.ref fa))
  (a0:DD K "is_whole" ZP)
  (a1:DD K "greatest_divisor" qt)
  {f2:Addr}{od2 an2:Option Addr}{sl2:Array (Option Value)}{oc2 kV2 dc2 pm2 cd2 ct2:Value}{Td2:Addr}{ocd2:Value}{odd2:Option Addr}{tkd2:Tok}{nd2:Nat}{sld2:Array (Option Value)}
  (a2:PySem.W.nsIn K mainGlobals "ratio" = some (some (.ref f2))) (l2:K.lookup f2=some ⟨oc2,od2,.func (PySem.W.fnOf "ratio" "ratio" (xt vW) (zZ vW) (zr vW) (.ref Td2) kV2 dc2 pm2 an2 cd2 ct2),sl2⟩) (c2:PySem.W.codeIn K cd2 "ratio" = true) (k2:PySem.W.keepIn K (.ref f2)=true)
  (ld2:K.lookup Td2=some ⟨ocd2,odd2,.seq #[.int 1 tkd2] nd2,sld2⟩)
  (a3:DD K "plus" zaV)
  (a4:DD K "minus" V6)
  (a5:DD K "over" zaT)
  (a6:DD K "less" zaS)
  (a7:DD K "least_multiple" qK)
  (a8:DD K "common_bottom" qU)
  (a9:DD K "track_of" ZZ)
  (a10:DD K "moment_of" Zr)
  (a11:DD K "shut_moment" vF)
  (a12:DD K "soonest" XL)
  (a13:DD K "spot_at" XN)
  (a14:DD K "side_at" XI)
  (a15:DD K "groups_at" Zh)
  (a16:DD K "wall_of" XQ)
  (a17:DD K "came_to_wall" vh)
  (a18:DD K "rebound" XG)
  {f19:Addr}{od19 an19:Option Addr}{sl19:Array (Option Value)}{oc19 kV19 dc19 pm19 ct19:Value}
  (a19:PySem.W.nsIn K mainGlobals "deal" = some (some (.ref f19))) (l19:K.lookup f19=some ⟨oc19,od19,.func (PySem.W.fnOf "deal" "deal" (xt vT) (zZ vT) (zr vT) .none kV19 dc19 pm19 an19 (.ref cde) ct19),sl19⟩) (c19:PySem.W.codeIn K (.ref cde) "deal" = true) (k19:PySem.W.keepIn K (.ref f19)=true)
  (a20:DD K "part" zaU)
  (a21:DD K "refine" QX)
  (a22:DD K "refined" XH)
  (a23:DD K "place_and_speed" qz)
  (a24:DD K "placed" QW)
  (a25:DD K "first_ticks" vA)
  (a26:DD K "next_coming" vE)
  (a27:DD K "behind" QT)
  (a28:DD K "framed_wall" vB)
  (a29:DD K "framed" QU)
  (a30:DD K "_law_cell" ZQ)
  (a31:DD K "_law_left" ZR)
  (a32:DD K "_law_next" ZU)
  (a33:DD K "_law_wide" ZY)
  (a34:DD K "_law_low" XD)
  (a35:DD K "_law_add" Xz)
  (a36:DD K "_law_off" XE)
  (a37:DD K "_law_by" QV)
  (a38:DD K "_law_part" ZV)
  (a39:DD K "_law_below" Zk)
  (a40:DD K "_law_ratio" Zq)
  (a41:DD K "_law_speed" qS)
  (a42:DD K "_law_gap" XC)
  (a43:DD K "_law_weights" vD)
  (a44:DD K "_law_row" XF)
  (a45:DD K "_law_bound" Zl)
  (a46:DD K "_law_box" XA)
  (a47:DD K "_law_bundle" vU)
  (a48:DD K "_law_focused" vC)
  (a49:DD K "_law_drawn" Zm)
  (a50:DD K "_law_asked" Zj)
  (a51:DD K "_law_scaled" vV)
  (a52:DD K "_law_moved" Zn)
  (a53:DD K "_law_mirrored" vi)
  (a54:DD K "_law_same" ZW)
  (a55:DD K "_law_seen" ZX)
  {f56:Addr}{od56 an56:Option Addr}{sl56:Array (Option Value)}{oc56 kV56 dc56 pm56 cd56 ct56:Value}
  (a56:PySem.W.nsIn K mainGlobals "law" = some (some (.ref f56))) (l56:K.lookup f56=some ⟨oc56,od56,.func (PySem.W.fnOf "law" "law" (xt s_law) (zZ s_law) (zr s_law) .none kV56 dc56 pm56 an56 cd56 ct56),sl56⟩) (c56:PySem.W.codeIn K cd56 "law" = true) (k56:PySem.W.keepIn K (.ref f56)=true)
  (j0:PySem.W.nsIn K mainGlobals "isinstance" = some none)
  (j1:PySem.W.nsIn K mainGlobals "int" = some none)
  (j2:PySem.W.nsIn K mainGlobals "bool" = some none)
  (j3:PySem.W.nsIn K mainGlobals "abs" = some none)
  (j4:PySem.W.nsIn K mainGlobals "len" = some none)
  (j5:PySem.W.nsIn K mainGlobals "max" = some none)
  (j6:PySem.W.nsIn K mainGlobals "min" = some none)
  (j7:PySem.W.nsIn K mainGlobals "range" = some none)
  (j8:PySem.W.nsIn K mainGlobals "tuple" = some none)
  (j9:PySem.W.nsIn K mainGlobals "sum" = some none)
  (ja:PySem.W.nsIn K mainGlobals "zip" = some none)
  (jb:PySem.W.nsIn K mainGlobals "list" = some none)
  (jc:PySem.W.nsIn K mainGlobals "enumerate" = some none)
  (jd:PySem.W.nsIn K mainGlobals "sorted" = some none)
  (je:PySem.W.nsIn K mainGlobals "all" = some none)
  {jf:Addr}(jg:PySem.W.nsIn K mainGlobals "ClackError" = some (some (.ref jf)))
  {jh:Addr}(ji:PySem.W.nsIn K mainGlobals "Shut" = some (some (.ref jh)))
  {jj:Addr}(jk:PySem.W.nsIn K mainGlobals "Course" = some (some (.ref jj)))
  {jl:Addr}(jm:PySem.W.nsIn K mainGlobals "Together" = some (some (.ref jl)))
  (jn:PySem.W.keepIn K (.ref jh)=true)
  {jo:Addr}{jp jq:Option Addr}{jr:Array (Option Value)}{js jt ju jv jw:Value}(jx:PySem.W.findIn K (.ref jh) "__init__" = some (some (.ref jo)))
  (jy:K.lookup jo=some ⟨.type "function",jp,.func (PySem.W.fnOf "__init__" "Shut.__init__" (xt qv) (zZ qv) (zr qv) .none js jt ju jq jv jw),jr⟩) (jz:PySem.W.codeIn K jv "Shut.__init__" = true) (jA:PySem.W.keepIn K (.ref jo)=true)
  (jB:PySem.W.findIn K (.ref jh) "__setattr__" = some (some (.builtin "object.__setattr__")))
  (jC:PySem.W.keepIn K (.ref jj)=true)
  {jD:Addr}{jE jF:Option Addr}{jG:Array (Option Value)}{jH jI jJ jK jL:Value}(jM:PySem.W.findIn K (.ref jj) "__init__" = some (some (.ref jD)))
  (jN:K.lookup jD=some ⟨.type "function",jE,.func (PySem.W.fnOf "__init__" "Course.__init__" (xt xZ) (zZ xZ) (zr xZ) .none jH jI jJ jF jK jL),jG⟩) (jO:PySem.W.codeIn K jK "Course.__init__" = true) (jP:PySem.W.keepIn K (.ref jD)=true)
  (jQ:PySem.W.findIn K (.ref jj) "__setattr__" = some (some (.builtin "object.__setattr__")))
  (jR:PySem.W.keepIn K (.ref jl)=true)
  {jS:Addr}{jT jU:Option Addr}{jV:Array (Option Value)}{jW jX jY jZ y0:Value}(y1:PySem.W.findIn K (.ref jl) "__init__" = some (some (.ref jS)))
  (y2:K.lookup jS=some ⟨.type "function",jT,.func (PySem.W.fnOf "__init__" "Together.__init__" (xt xG) (zZ xG) (zr xG) .none jW jX jY jU jZ y0),jV⟩) (y3:PySem.W.codeIn K jZ "Together.__init__" = true) (y4:PySem.W.keepIn K (.ref jS)=true)
  (y5:PySem.W.findIn K (.ref jl) "__setattr__" = some (some (.builtin "object.__setattr__")))
  (xm_Shut:zcd K jh jo=true)
  (na_Shut:PySem.W.findIn K (.ref jh) "moment" = some none)
  (xm_Together:zcd K jl jS=true)
  (na_Together:PySem.W.findIn K (.ref jl) "moment" = some none)
  (xkT:xKB K jl=true)
  (hdl:PySem.W.codeHdIn K cde Tb=true)
  (hxS:Yi K (.ref jh) [.ref jh,.ref jl]=some true)
  (hxT:Yi K (.ref jl) [.ref jh,.ref jl]=some true)
  (xkS:xKB K jh=true)
  (exS:PySem.W.exmOne K (.ref jh) (.ref jh)=some true)
  (mkC:PySem.W.makesIn K jj=true)
  (ifC:PySem.W.isFn K (.ref jD)=true)
  (pgC:PySem.W.plainGet K jj Str.empty=true)
  (hdC:PySem.W.hasDictIn K jj=true)
  (poC:PySem.W.plainOver K jj=true)
  (y6:PySem.W.findIn K (.ref jj) "place_bottom" = some none)
  (y7:PySem.W.findIn K (.ref jj) "speed_bottom" = some none)
  (y8:PySem.W.findIn K (.ref jj) "tick" = some none)
  (y9:PySem.W.findIn K (.ref jj) "weights" = some none)
  (ya:PySem.W.findIn K (.ref jj) "tracks" = some none)
  (yb:PySem.W.findIn K (.ref jj) "low" = some none)
  (yc:PySem.W.findIn K (.ref jj) "high" = some none)
  (ur:PySem.W.readsIn K jf (.type "type")=true) (ug:PySem.W.specialIn K (.ref jf) "__getattribute__" = some (some (.builtin "type.__getattribute__"))) (ui:PySem.W.findCls K (.ref jf) (.type "type") "__init__" = some (.val (.builtin "ValueError.__init__"))) :
  ∃fd:FuncData,(∀(s:Shared) (v:Value),BindsTo s fd ⟨[v],[]⟩ [("script",v)])/\∀base:Heap,K.In base->base.Ns mainGlobals mg->base.BuiltinsAt mg Tb->qP l.prog w K mg base CX0 9 fa fd ["script"] (J0 Tb K):=by
 have e:=hfa.symm.trans (uj X G a56)
 cases e
 have d_ratio:Df K mg "ratio" vW ["top","bottom"] []:=⟨⟨f2,_,_,_,_,_,_,_,_,_,_,[],l2,c2,k2,uj X G a2,.nil,λs us KX hl=>match us,hl with | [_,_],_=>.of_defaults rfl (KX _ _ ld2) rfl rfl rfl⟩⟩
 have dd_ratio:Df K mg "ratio" vW ["top","bottom"] [.int 1]:=⟨⟨f2,_,_,_,_,_,_,_,_,_,_,[.int 1 tkd2],l2,c2,k2,uj X G a2,.cons ⟨_,rfl⟩ .nil,λs us KX hl=>have hl2:us.length=1:=↥hl;match us,hl2 with | [_],_=>.of_defaults rfl (KX _ _ ld2) rfl rfl rfl⟩⟩
 have d_deal:DfC K mg "deal" vT ["course","first","last","wall"] cde Tb:=⟨⟨f19,_,_,_,_,_,_,_,_,_,l19,c19,k19,uj X G a19,.all λus hl=>match us,hl with | [_,_,_,_],_=>rfl⟩,hdl⟩
 have d_law_speed:Df K mg "_law_speed" qS ["pool"] []:=a41.df1 X G
 have T:TxB K mg:=⟨zhQ K,zhP K,w5 X G j0,w5 X G j1,w5 X G j2,w5 X G j3,w5 X G j4,w5 X G j5,w5 X G j6,w5 X G j7,w5 X G j8,w5 X G j9⟩
 have F:=VR (st:=s_law) l56 c56 k56
 refine⟨PySem.W.fnOf "law" "law" (xt s_law) (zZ s_law) (zr s_law) .none kV56 dc56 pm56 an56 cd56 ct56,λs v=>.of_eq rL,λbase hKb hGb hBB=>?_⟩
 obtain⟨X11,B11,cd11,hc11,hh11,ho11⟩:=ze0 hKb xm_Shut ⟨_,hKb _ _ jy,rfl⟩ jn
 have mC:=uj X G jg
 have mS:=uj X G ji
 have mCo:=uj X G jk
 have U:XUp K jf (.type "type"):=⟨ur,ug,ui⟩
 have ZS:=zhm xkS
 have S11:zc6 K jh cd11:=⟨hc11,hh11,ho11,ZS.ob,jB⟩
 have FU11:=VR (st:=qv) jy jz jA
 have F11:=KQ.zfw (P:=l.prog) (w:=w) FU11 U mC B11 S11 na_Shut
 have BI11:=FU11.binds (ps:=["self","moment"]) λ_ _ _ _ _ _ us hl=>match us,hl with | [_,_],_=>rfl
 obtain⟨X12,B12,cd12,hc12,hh12,ho12⟩:=ze0 hKb xm_Together ⟨_,hKb _ _ y2,rfl⟩ jR
 have mT:=uj X G jm
 have ZT:=zhm xkT
 have S12:zc6 K jl cd12:=⟨hc12,hh12,ho12,ZT.ob,y5⟩
 have FU12:=VR (st:=xG) y2 y3 y4
 have F12:=KQ.zfx (P:=l.prog) (w:=w) FU12 U mC B12 S12 na_Together
 have BI12:=FU12.binds (ps:=["self","moment"]) λ_ _ _ _ _ _ us hl=>match us,hl with | [_,_],_=>rfl
 have FUC:=VR (st:=xZ) jN jO jP
 have BIC:=FUC.binds (ps:=["self","row","walls"]) λ_ _ _ _ _ _ us hl=>match us,hl with | [_,_,_],_=>rfl
 have TC:KQ.TCo K jj:=⟨⟨pgC,hdC,poC,jQ⟩,y6,y7,y8,y9,ya,yb,yc⟩
 have M:Mk K jj jD:=⟨mkC,jM,ifC,jC⟩
 have nE:=w5 X G jc
 have TQ:KQ.TxQ K mg:=⟨T,w5 X G jb,w5 X G ja⟩
 have cW:=zdZ (P:=l.prog) (w:=w) (base:=base) (a0.df1 X G) T
 have cG:=zib (P:=l.prog) (w:=w) (base:=base) (a1.df2 X G)
 have cR:=zdX d_ratio T cW cG
 have cM:=KQ.zdW (a4.df2 X G) cR
 have cO:=zfD (a5.df2 X G) cR
 have cLs:=KQ.zfA (P:=l.prog) (w:=w) (base:=base) (a6.df2 X G)
 have cLcm:=KQ.zie (a7.df1 X G) cG
 have cB:=KQ.zjG (a8.df1 X G) cLcm
 have cTr:=KQ.zj7 (P:=l.prog) (w:=w) (base:=base) (a9.df2 X G) TC
 have Fi:=KQ.zjH FUC TQ TC cB cR cTr
 have cMo:=KQ.zjQ (a10.df2 X G) TC cR
 have cSh:=KQ.zj4 (a11.df1 X G) cLs cM cO
 have cSo:=KQ.zj6 (a12.df1 X G) TQ TC cLs
 have cFT:=KQ.zjM (a25.df2 X G) TC cSo cSh cMo X11 F11 mS BI11
 have cSpo:=KQ.zdY (P:=l.prog) (w:=w) (base:=base) (a13.df2 X G)
 have cSi:=KQ.zj5 (a14.df3 X G) TC cSpo
 have cWo:=KQ.zka (P:=l.prog) (w:=w) (base:=base) (a16.df2 X G) TC
 have cCw:=KQ.zjI (a17.df2 X G) TQ TC cWo
 have cGr:=KQ.zjO (a15.df2 X G) TQ nE TC cSpo cSi cCw
 have cNC:=KQ.zjS (a26.df2 X G) M Fi mCo BIC cFT cMo cGr
 have cRf:=KQ.zjZ (P:=l.prog) (w:=w) (base:=base) (a22.df2 X G)
 have cRe:=KQ.zjY (a21.df2 X G) TC cRf
 have cPa:=KQ.zjT (a20.df2 X G) TC cG cRe
 have cDe:=KQ.zjJ (P:=l.prog) (w:=w) (base:=base) d_deal TC (w5 X G jd) hBB
 have cRb:=KQ.zjX (a18.df3 X G) TC TQ (w5 X G je) cWo cPa cDe cMo X12 F12 mT BI12
 have cPs:=KQ.zjV (a23.df3 X G) TC cR cSpo
 have cPl:=KQ.zjU (a24.df2 X G) TQ TC cPs
 have cBh:=KQ.zjC (a27.df2 X G) M Fi mCo BIC cFT cMo cGr cRb cPl
 have cBeR:=zh9 cBh
 have cBeQ:=zh8 cBeR
 have cNcQ:=zig cNC
 have cP:=zfE (a3.df2 X G) cR
 have cFw:=KF.ok_fw (a28.df2 X G) cP
 have cFr:=KF.ok_fr (a29.df3 X G) T cP cFw
 have cC:=zfv (P:=l.prog) (w:=w) (base:=base) (a30.df2 X G) T
 have cD:=zia (P:=l.prog) (w:=w) (base:=base) (a31.df1 X G) T
 have cN:=zfC (P:=l.prog) (w:=w) (base:=base) (a32.df2 X G)
 have cWi:=zj9 (a33.df2 X G) T cN
 have cL:=zif (P:=l.prog) (w:=w) (base:=base) (a34.df2 X G) T
 have cA:=zfy (a35.df2 X G) cL
 have cOf:=zfB (a36.df2 X G) cL
 have cBy:=zid (a37.df2 X G) cL
 have cPt:=zdV (a38.df2 X G) cL
 have cBl:=zfz (P:=l.prog) (w:=w) (base:=base) (a39.df2 X G)
 have cRa:=zjW (a40.df2 X G) cN cWi cL
 have cSp:=KK.zdY d_law_speed cN cL
 have cSpB:=zih d_law_speed cN cL
 have cGa:=zjN (a42.df1 X G) cN cL
 have cWe:=zj8 (a43.df2 X G) T cN
 have cRo:=zj0 (a44.df2 X G) T cN cWe cRa cSp cGa cA cBl
 have cBo:=zjD (a45.df3 X G) cN cSp cGa cA cBy cBl
 have cBx:=zjF (a46.df2 X G) cBo cA
 have cBu:=zjE (a47.df5 X G) T ⟨nE⟩ cN cSpB cL cA cOf cBy
 have cFo:=zjL (a48.df2 X G) T cN cRa cL cBu
 have cDr:=KT.zjK (a49.df1 X G) cN cFo cRo cBx
 have cMv:=zjR (a52.df2 X G) TQ cA
 have cSc:=zj2 (a51.df3 X G) TQ cBy
 have cMi:=zjP (P:=l.prog) (w:=w) (base:=base) (a53.df2 X G)
 have cAs:=KT.zjB (a50.df2 X G) mS mT (λ_ z=>by rcases z with rfl | rfl;exact hxS;exact hxT) cBeR
 have cSa:=zj1 (a54.df5 X G) cNcQ cBeQ
 have cSe:=KT.zj3 (a55.df5 X G) T cN cSp cFr cBy cPt cMv cSc cMi cSa
 exact KT.zic F TQ cC cD cDr cAs cNcQ cSe
def walk {l:PySem.W.OpenLaw}{q:Program}{loose:List Str}{XP:(Str->Option Value)->Heap->Prop}{YP:World->Heap->Prop}{d:DefRec}{K:Params->Fg}{cde Tb:Addr}(hn:l.most=some 63) (hdf:d.params.defaults=[])
  (hY:∀(w:World) (h:Heap),YP w h->(K w.params).In h/\h.get? Tb=some (PySem.W.tabObj #[])) (hKT:∀w:World,(K w.params).lookup Tb=none) (hC:∀w:World,PySem.W.codeHdIn (K w.params) cde Tb=true)
  (F:∀(w:World) (mg:Str->Option Value) (fa:Addr) (h:Heap),(K w.params).In h->h.Ns mainGlobals mg->mg d.name=some (.ref fa) →
   ∃fd:FuncData,(∀(s:Shared) (u:Value),BindsTo s fd ⟨[u],[]⟩ [("script",u)])/\∀base:Heap,(K w.params).In base->base.Ns mainGlobals mg->base.BuiltinsAt mg Tb->qP l.prog w (K w.params) mg base CX0 9 fa fd ["script"] (J0 Tb (K w.params))) :
  PySem.W.WalkO q loose XP YP l.row.toRowW d [] (λf vs=>PySem.call f vs) :=
 L2.zeW (n:=63) (k:=9) (x:="script") (CX:=λ_=>CX0) (sp:=λw=>J0 Tb (K w.params)) hn (by decide) hdf ⟨rfl,by decide,by decide⟩ hY hKT hC F (λ_ _ a ns hl hT hS=>⟨a,ns,rfl,hS,hl,⟨#[],hT,trivial,.inl rfl⟩,λ_=>rfl⟩) λ_ _ _ _ _ z=>z
end KT
open PySem PySem.W PyProof.Rows
set_option maxRecDepth 100000 in
set_option maxHeartbeats 0 in
theorem PySem.Challenge.cw_clackrow_k15_whole_seen_otherwise_holds : PySem.Challenge.rw_clackrow_k15_whole_seen_otherwise.Holds := by
 w_on;o_law;k_head;(case hw=>w_witness2)
 k_fill
 refine KT.walk (l:=PySem.Challenge.rw_clackrow_k15_whole_seen_otherwise) (cde:=224) (Tb:=222) rL rL (λw h Y=>⟨PySem.W.km_in_of Y,PySem.W.km_tabs_of Y _ (wU ..)⟩) ?hKT ?hC ?F
 case hKT=>intro w;kernel_rfl
 case hC=>intro w;kernel_rfl
 case F =>
  intro w mg fa h KX G hmg
  refine' KT.zhq (cde:=224) (Tb:=222) KX G hmg ..
  all_goals (try (first | (refine' KT.zjh ?_ ?_ ?_ ?_ <;> try k_is) | k_is | k_exc | kernel_rfl))
