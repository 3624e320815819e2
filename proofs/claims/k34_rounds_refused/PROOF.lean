import PyProof.Rows.All
import Wide.All
import OpenK.AllK
import Wide.FinOn
import Lean
import PyProof.EqAt
import PyProof.EqKinds
import PyProof.TupleCall
import PyProof.CompFree
import PyProof.Rows.SumAny
import PyProof.ZipIter
import PyProof.ConsumeWalk
import PySem.Challenge.RW_clackrow_k34_rounds_refused
import KE.KSortTup
import KE.KDictSum
import PyProof.Sound
import KE.KLam
import PyProof.WalkInts
import PyProof.Rows.SeqCalls
import PyProof.Draws
import KE.KDictLaws
import KE.KDictList
import PyProof.Rows.SortShell
import PyProof.Rows.SortWalk
import PyProof.DictTruth
import KE.KDictOf
import PyProof.AttrMissHeap
import PyProof.WalksS
import PyProof.Walks
import PyProof.Seq
import KE.KTryMore
set_option Elab.async false
set_option linter.all false
set_option maxRecDepth 100000
namespace L2
open PySem PySem.Spec PyProof.Rows

abbrev Key := Sum Int Str
def keyIs : Key → Value → Bool
  | .inl k, v => Value.isInt k v
  | .inr x, v => Value.isStrOf x v
def keyH (w : World) : Key → Int
  | .inl k => hashInt k
  | .inr x => hashStr w x
theorem keyIs_shape : ∀ {k : Key} {v : Value}, keyIs k v = true → (∃ i t, k = Sum.inl i ∧ v = Value.int i t) ∨ (∃ x t, k = Sum.inr x ∧ v = Value.str x t)
  | .inl i, v, h => by
    obtain ⟨t, e⟩ := Value.isInt_shape (k := i) (v := v) h
    exact .inl ⟨i, t, rfl, e⟩
  | .inr x, v, h => by
    obtain ⟨t, e⟩ := Value.isStrOf_shape (x := x) (v := v) h
    exact .inr ⟨x, t, rfl, e⟩
theorem keyIs_int (i : Int) (t : Tok) : keyIs (.inl i) (.int i t) = true := by simp [keyIs, Value.isInt]
theorem keyIs_str (x : Str) (t : Tok) : keyIs (.inr x) (.str x t) = true := by simp [keyIs, Value.isStrOf]
theorem key_ll (a b : Int) : decide ((Sum.inl a : Key) = Sum.inl b) = (a == b) := by
  by_cases e : a = b
  · subst e; simp
  · have h : ¬ (Sum.inl a : Key) = Sum.inl b := fun q => e (Sum.inl.inj q)
    rw [decide_eq_false h]
    exact (beq_eq_false_iff_ne.mpr e).symm
theorem key_rr (a b : Str) : decide ((Sum.inr a : Key) = Sum.inr b) = decide (a = b) := by
  by_cases e : a = b
  · subst e; simp
  · have h : ¬ (Sum.inr a : Key) = Sum.inr b := fun q => e (Sum.inr.inj q)
    rw [decide_eq_false h, decide_eq_false e]
theorem key_lr (a : Int) (b : Str) : decide ((Sum.inl a : Key) = Sum.inr b) = false := decide_eq_false (fun q => nomatch q)
theorem key_rl (a : Str) (b : Int) : decide ((Sum.inr a : Key) = Sum.inl b) = false := decide_eq_false (fun q => nomatch q)

def mixKind (prog : Program) (w : World) : PySem.KeyKind prog w Key where
  is := keyIs
  hash := keyH w
  inj := fun v a b ha hb => by
    rcases keyIs_shape ha with ⟨i, t, rfl, rfl⟩ | ⟨x, t, rfl, rfl⟩
    · rcases keyIs_shape hb with ⟨j, u, rfl, e⟩ | ⟨y, u, rfl, e⟩
      · injection e with e1 _; rw [e1]
      · exact nomatch e
    · rcases keyIs_shape hb with ⟨j, u, rfl, e⟩ | ⟨y, u, rfl, e⟩
      · exact nomatch e
      · injection e with e1 _; rw [e1]
  byValue := fun k v h => by
    rcases keyIs_shape h with ⟨i, t, rfl, rfl⟩ | ⟨x, t, rfl, rfl⟩ <;> rfl
  pyHash := fun hv h => by
    rcases keyIs_shape hv with ⟨i, t, rfl, rfl⟩ | ⟨x, t, rfl, rfl⟩
    · exact wpAny_pyHash_int h
    · exact wpAny_pyHash_str h
  eqBool := fun hu hv h => by
    rcases keyIs_shape hu with ⟨i, t, rfl, rfl⟩ | ⟨x, t, rfl, rfl⟩
    · rcases keyIs_shape hv with ⟨j, u, rfl, rfl⟩ | ⟨y, u, rfl, rfl⟩
      · rw [key_ll] at h; exact wpAny_eqBool_int h
      · rw [key_lr] at h; exact SeqAt.EqAt.int_str i t y u _ _ _ _ h
    · rcases keyIs_shape hv with ⟨j, u, rfl, rfl⟩ | ⟨y, u, rfl, rfl⟩
      · rw [key_rl] at h; exact SeqAt.EqAt.str_int x t j u _ _ _ _ h
      · rw [key_rr] at h; exact wpAny_eqBool_str h
  «strs» := fun k x t v h => by
    rcases keyIs_shape h with ⟨i, u, rfl, e⟩ | ⟨y, u, rfl, e⟩
    · exact nomatch e
    · injection e with e1 _
      subst e1
      cases v <;> rfl

theorem mixKind_int (prog : Program) (w : World) (i : Int) (t : Tok) : (mixKind prog w).is (.inl i) (.int i t) = true := keyIs_int i t
theorem mixKind_str (prog : Program) (w : World) (x : Str) (t : Tok) : (mixKind prog w).is (.inr x) (.str x t) = true := keyIs_str x t
end L2

namespace L2
open PySem PySem.Spec PyProof.Rows

inductive V where
  | non | bl (b : Bool) | int (i : Int) | str (x : Str) | byt (b : Array UInt8) | flt (b : UInt64) | ref (a : Addr) | ty (n : String)
  deriving DecidableEq

def RelV : V → Value → Prop
  | .non, u => u = Value.none
  | .bl b, u => u = Value.bool b
  | .int i, u => ∃ t, u = Value.int i t
  | .str x, u => ∃ t, u = Value.str x t
  | .byt b, u => ∃ t, u = Value.bytes b t
  | .flt b, u => ∃ t, u = Value.float b t
  | .ref a, u => u = Value.ref a
  | .ty n, u => u = Value.type n

abbrev Vals : List V → List Value → Prop := Paired RelV
theorem Vals.length {xs : List V} {us : List Value} (r : Vals xs us) : xs.length = us.length := Paired.length r
theorem Vals.get : ∀ {xs : List V} {us : List Value} {i : Nat} {x : V}, Vals xs us → xs[i]? = some x → ∃ u, us[i]? = some u ∧ RelV x u
  | _, _, _, _, .nil, e => by simp at e
  | _, _, 0, _, .cons r _, e => by simp at e; subst e; exact ⟨_, rfl, r⟩
  | _, _, i + 1, x, .cons _ t, e => by
    obtain ⟨u, h1, h2⟩ := Vals.get (i := i) (x := x) t (by simpa using e)
    exact ⟨u, by simpa using h1, h2⟩
theorem Vals.set {x : V} {u : Value} (r : RelV x u) : ∀ {xs : List V} {us : List Value} (i : Nat), Vals xs us → Vals (xs.set i x) (us.set i u)
  | _, _, _, .nil => .nil
  | _, _, 0, .cons _ t => .cons r t
  | _, _, i + 1, .cons q t => .cons q (Vals.set r i t)
theorem Vals.append : ∀ {xs ys : List V} {us ws : List Value}, Vals xs us → Vals ys ws → Vals (xs ++ ys) (us ++ ws)
  | _, _, _, _, .nil, s => s
  | _, _, _, _, .cons r t, s => .cons r (Vals.append t s)
theorem Vals.take : ∀ {xs : List V} {us : List Value} (n : Nat), Vals xs us → Vals (xs.take n) (us.take n)
  | _, _, 0, _ => .nil
  | _, _, _ + 1, .nil => .nil
  | _, _, n + 1, .cons r t => .cons r (Vals.take n t)
theorem Vals.drop : ∀ {xs : List V} {us : List Value} (n : Nat), Vals xs us → Vals (xs.drop n) (us.drop n)
  | _, _, 0, r => r
  | _, _, _ + 1, .nil => .nil
  | _, _, n + 1, .cons _ t => Vals.drop n t
def RelO : Option V → Option Value → Prop
  | some v, some u => RelV v u
  | none, none => True
  | _, _ => False
def KV {κ : Type} : List (κ × V) → List (κ × Value) → Prop := Paired fun (p : κ × V) (q : κ × Value) => p.1 = q.1 ∧ RelV p.2 q.2

def kV : Key → V
  | .inl i => .int i
  | .inr x => .str x

inductive HO where
  /-- a list -/
  | lst (xs : List V)
  /-- a tuple (never changes) -/
  | tup (xs : List V)
  /-- a dict whose keys are ints and texts; one whose keys are tuples of ints and texts (the empty one is both) -/
  | dK (kvs : List (Key × V)) | dT (kvs : List (List Key × V))
  /-- a set of ints: its members, its size -/
  | set (S : Int → Bool) (n : Nat)
  /-- an instance of the class at C, its dict at dx, its attributes -/
  | ins (C dx : Addr) (fs : List (Str × V))
  /-- the dict of the instance at x -/
  | own (x : Addr)
  /-- the dict of an exception -/
  | xd (fs : List (Str × V))
  /-- a bound method, f of x -/
  | met (f x : Addr)
  /-- a range object lo, lo + 1, .. below hi -/
  | rng (lo hi : Int)
  /-- a thing that is known to the object (the script; a dict while a loop walks it): read, never written while it is so -/
  | frz (o : Obj) (u : HO)
  /-- a code object's table -/
  | tbl (ps : Array Value)
  /-- any other thing, by what is true of its one object (a def of one's own: SetO a S n := HO.ext fun h => ..) -/
  | ext (φ : Heap → Prop)

abbrev Hp := Addr → Option HO
def upd (H : Hp) (a : Addr) (o : HO) : Hp := fun b => if b = a then some o else H b
theorem upd_same {H : Hp} {a : Addr} {o : HO} : upd H a o a = some o := by unfold upd; rw [if_pos rfl]
theorem upd_ne {H : Hp} {a b : Addr} {o : HO} (h : b ≠ a) : upd H a o b = H b := by unfold upd; rw [if_neg h]
theorem ne_of {H : Hp} {a b : Addr} {o u : HO} (h : H a = some o) (h' : H b = some u) (d : o ≠ u) : a ≠ b := by
  intro e; subst e; rw [h] at h'; exact d (Option.some.inj h')
theorem ne_of_none {H : Hp} {a b : Addr} {o : HO} (h : H a = some o) (h' : H b = none) : a ≠ b := by
  intro e; subst e; rw [h] at h'; cases h'

section
variable (P : Program) (w : World)
def ObjOk (H : Hp) (h : Heap) (a : Addr) : HO → Prop
  | .lst xs => xs.length ≤ sizeLine ∧ ∃ (its : List Value) (n : Nat), Vals xs its ∧ h.get? a = some { cls := .type "list", data := .seq its.toArray n }
  | .tup xs => xs.length ≤ sizeLine ∧ ∃ its : List Value, Vals xs its ∧ IsTup h a its.toArray
  | .dK kvs => kvs.length ≤ sizeLine ∧ (a == sysModules) = false ∧ ∃ vs, KV kvs vs ∧ h.DictOf (mixKind P w) a vs
  | .dT kvs => kvs.length ≤ sizeLine ∧ (a == sysModules) = false ∧ ∃ xs : List (List Key × Addr × Value),
      Paired (fun (p : List Key × V) (q : List Key × Addr × Value) => p.1 = q.1 ∧ H q.2.1 = some (.tup (p.1.map kV)) ∧ RelV p.2 q.2.2) kvs xs ∧
      ∃ o es ep, h.get? a = some o ∧ o.ExactDict ∧ o.data = .dict es ep ∧ es.toList = xs.map (entryOfKey (tupleKind (mixKind P w))) ∧ (xs.map (·.1)).Nodup
  | .set S n => h.SetOf (intKind P w) a S n
  | .ins C dx fs => H dx = some (.own a) ∧ fs.length ≤ 1000 ∧ dx ≠ a ∧ h.get? a = some (PySem.W.instObj C dx) ∧
      ∃ mA, h.Ns1 dx mA ∧ (∀ f, RelO (fs.lookup f) (mA f)) ∧ PySem.Within mA (fs.map (·.1))
  | .own _ => ∃ o, h.get? a = some o
  | .xd fs => ∃ mA, h.Ns1 a mA ∧ ∀ f, RelO (fs.lookup f) (mA f)
  | .rng lo hi => ∃ t u v, h.get? a = some { cls := .type "range", data := .fields #[.int lo t, .int hi u, .int 1 v] }
  | .frz o u => h.get? a = some o ∧ ObjOk H h a u
  | .tbl ps => h.get? a = some { cls := .none, data := .fields ps }
  | .met f x => h.get? a = some (PySem.W.methodObj (.ref f) (.ref x))
  | .ext φ => φ h ∧ (∃ o, h.get? a = some o) ∧ ∀ h1 h2 : Heap, φ h1 → (∀ o, h1.get? a = some o → h2.get? a = some o) → φ h2
def HOk (H : Hp) (h : Heap) : Prop := ∀ a o, H a = some o → ObjOk P w H h a o
end

section
variable {P : Program} {w : World} {H H' : Hp} {h h' : Heap} {a : Addr} {o : HO}
theorem ObjOk.lt (x : ObjOk P w H h a o) : a < h.objs.size := by
  cases o with
  | lst xs => obtain ⟨_, _, _, _, e⟩ := x; exact Heap.lt_size e
  | tup xs => obtain ⟨_, _, _, p⟩ := x; exact p.lt
  | dK kvs => obtain ⟨_, _, _, _, o, _, _, e, _⟩ := x; exact Heap.lt_size e
  | dT kvs => obtain ⟨_, _, _, _, o, _, _, e, _⟩ := x; exact Heap.lt_size e
  | set S n => obtain ⟨o, _, _, _, e, _⟩ := x; exact Heap.lt_size e
  | ins C dx fs => obtain ⟨_, _, _, e, _⟩ := x; exact Heap.lt_size e
  | own y => obtain ⟨_, e⟩ := x; exact Heap.lt_size e
  | xd fs => obtain ⟨_, ⟨_, _, _, e, _⟩, _⟩ := x; exact Heap.lt_size e
  | rng lo hi => obtain ⟨_, _, _, e⟩ := x; exact Heap.lt_size e
  | frz ob u => obtain ⟨e, _⟩ := x; exact Heap.lt_size e
  | tbl ps => exact Heap.lt_size (show h.get? a = some _ from x)
  | met f y => exact Heap.lt_size (show h.get? a = some _ from x)
  | ext φ => obtain ⟨_, ⟨_, e⟩, _⟩ := x; exact Heap.lt_size e
theorem Paired.mapP {α β : Type} {F G : α → β → Prop} : ∀ {l₁ : List α} {l₂ : List β}, Paired F l₁ l₂ → (∀ a b, F a b → G a b) → Paired G l₁ l₂
  | _, _, .nil, _ => .nil
  | _, _, .cons r t, f => .cons (f _ _ r) (Paired.mapP t f)
theorem ObjOk.stay (x : ObjOk P w H h a o) (k : ∀ b u, (b = a ∨ H b = some (.own a)) → h.get? b = some u → h'.get? b = some u)
    (ho : ∀ b, H b = some (.own a) → H' b = some (.own a)) (ht : ∀ b xs, H b = some (.tup xs) → H' b = some (.tup xs)) : ObjOk P w H' h' a o := by
  induction o with
  | lst xs => obtain ⟨z, its, n, r, e⟩ := x; exact ⟨z, its, n, r, k _ _ (.inl rfl) e⟩
  | tup xs => obtain ⟨z, its, r, ob, e, c⟩ := x; exact ⟨z, its, r, ob, k _ _ (.inl rfl) e, c⟩
  | dK kvs => obtain ⟨z, y, vs, r, ob, es, ep, e, c⟩ := x; exact ⟨z, y, vs, r, ob, es, ep, k _ _ (.inl rfl) e, c⟩
  | dT kvs =>
    obtain ⟨z, y, xs, r, ob, es, ep, e, c⟩ := x
    exact ⟨z, y, xs, Paired.mapP r fun p q z => ⟨z.1, ht _ _ z.2.1, z.2.2⟩, ob, es, ep, k _ _ (.inl rfl) e, c⟩
  | set S n => obtain ⟨ob, es, ep, t, e, c⟩ := x; exact ⟨ob, es, ep, t, k _ _ (.inl rfl) e, c⟩
  | ins C dx fs =>
    obtain ⟨d, z, ne, e, mA, ⟨od, es, ep, e2, c⟩, r⟩ := x
    exact ⟨ho _ d, z, ne, k _ _ (.inl rfl) e, mA, ⟨od, es, ep, k _ _ (.inr d) e2, c⟩, r⟩
  | own y => obtain ⟨ob, e⟩ := x; exact ⟨ob, k _ _ (.inl rfl) e⟩
  | xd fs => obtain ⟨mA, ⟨od, es, ep, e, c⟩, r⟩ := x; exact ⟨mA, ⟨od, es, ep, k _ _ (.inl rfl) e, c⟩, r⟩
  | rng lo hi => obtain ⟨t, u, v, e⟩ := x; exact ⟨t, u, v, k _ _ (.inl rfl) e⟩
  | frz ob u ih => obtain ⟨e, q⟩ := x; exact ⟨k _ _ (.inl rfl) e, ih q⟩
  | tbl ps =>
    have e : h.get? a = some { cls := .none, data := .fields ps } := x
    show h'.get? a = some { cls := .none, data := .fields ps }
    exact k a _ (.inl rfl) e
  | met f y =>
    have e : h.get? a = some (PySem.W.methodObj (.ref f) (.ref y)) := x
    show h'.get? a = some (PySem.W.methodObj (.ref f) (.ref y))
    exact k a _ (.inl rfl) e
  | ext φ => obtain ⟨p, ⟨o, e⟩, st⟩ := x; exact ⟨st _ _ p fun o q => k _ _ (.inl rfl) q, ⟨o, k _ _ (.inl rfl) e⟩, st⟩
theorem HOk.lt (x : HOk P w H h) (e : H a = some o) : a < h.objs.size := (x a o e).lt
theorem HOk.fresh (x : HOk P w H h) (e : h.objs.size ≤ a) : H a = none := by
  cases q : H a with
  | none => rfl
  | some u => exact absurd (Nat.lt_of_lt_of_le (x.lt q) e) (Nat.lt_irrefl _)
theorem HOk.kept (x : HOk P w H h) (k : ∀ b u, h.get? b = some u → h'.get? b = some u) : HOk P w H h' := fun a o e =>
  (x a o e).stay (fun b u _ q => k b u q) (fun _ q => q) fun _ _ q => q
theorem HOk.laid (x : HOk P w H h) (k : ∀ b u, h.get? b = some u → h'.get? b = some u) (hp : h.objs.size ≤ a) (new : ObjOk P w (upd H a o) h' a o) : HOk P w (upd H a o) h' := fun b u e => by
  have hn := x.fresh hp
  by_cases hb : b = a
  · subst hb; rw [upd_same] at e; cases e; exact new
  · rw [upd_ne hb] at e
    exact (x b u e).stay (fun c v _ q => k c v q) (fun c q => by rw [upd_ne (ne_of_none q hn)]; exact q) fun c xs q => by rw [upd_ne (ne_of_none q hn)]; exact q
end

def Rd (H : Hp) (a : Addr) (u : HO) : Prop := H a = some u ∨ ∃ o, H a = some (.frz o u)
theorem Rd.of {H : Hp} {a : Addr} {u : HO} (h : H a = some u) : Rd H a u := .inl h
theorem Rd.ok {P : Program} {w : World} {H : Hp} {h : Heap} {a : Addr} {u : HO} (r : Rd H a u) (x : HOk P w H h) : ObjOk P w H h a u := by
  rcases r with r | ⟨o, r⟩
  · exact x a u r
  · obtain ⟨_, q⟩ := x a _ r
    exact q
def Mut : Option HO → Prop
  | some (.lst _) => True
  | some (.dK _) => True
  | some (.dT _) => True
  | some (.set _ _) => True
  | some (.ins _ _ _) => True
  | some (.ext _) => True
  | _ => False
section
variable {P : Program} {w : World} {H : Hp} {h h' : Heap} {x e : Addr} {o' : HO}
theorem HOk.write (ok : HOk P w H h) (mu : Mut (H x)) (he : e = x ∨ H e = some (.own x)) (k : ∀ b u, b ≠ e → h.get? b = some u → h'.get? b = some u) (heo : ∃ u, h'.get? e = some u)
    (new : ObjOk P w (upd H x o') h' x o') : HOk P w (upd H x o') h' := fun b u q => by
  have nown : ∀ c y, H c = some (.own y) → c ≠ x := fun c y r z => by subst z; rw [r] at mu; exact mu
  have ntup : ∀ c xs, H c = some (.tup xs) → c ≠ x := fun c xs r z => by subst z; rw [r] at mu; exact mu
  by_cases hb : b = x
  · subst hb; rw [upd_same] at q; cases q; exact new
  · rw [upd_ne hb] at q
    by_cases hbe : b = e
    · have q' : H b = some (.own x) := by
        rcases he with z | z
        · exact absurd (hbe.trans z) hb
        · rw [hbe]; exact z
      rw [q] at q'; cases q'
      obtain ⟨v, hv⟩ := heo
      exact ⟨v, by rw [hbe]; exact hv⟩
    · refine (ok b u q).stay (fun c v hc r => k c v ?_ r) (fun c r => by rw [upd_ne (nown c b r)]; exact r) fun c xs r => by rw [upd_ne (ntup c xs r)]; exact r
      rcases hc with rfl | hc
      · exact hbe
      · rintro rfl
        rcases he with z | z
        · exact nown c b hc z
        · rw [hc] at z; cases z; exact hb rfl
end

structure Un (fs ex : List Addr) (H H' : Hp) (h h' : Heap) : Prop where
  keep : ∀ b o, h.get? b = some o → H b = none → b ∉ fs → b ∉ ex → h'.get? b = some o
  slot : ∀ b o, h.get? b = some o → H b = none → b ∈ fs → b ∉ ex → ∃ sl, h'.get? b = some { o with slots := sl }
  free : ∀ b o, h.get? b = some o → H b = none → b ∉ ex → H' b = none
  there : ∀ b o, h.get? b = some o → b ∉ ex → ∃ o', h'.get? b = some o'
  tups : ∀ b xs, H b = some (.tup xs) → H' b = some (.tup xs)
  frzs : ∀ b o u, H b = some (.frz o u) → H' b = some (.frz o u)
  tbls : ∀ b ps, H b = some (.tbl ps) → ∃ more, H' b = some (.tbl (ps ++ more))
section
variable {fs fs' ex ex' : List Addr} {H H1 H2 : Hp} {h h1 h2 h' : Heap} {a x e : Addr} {o : HO}
theorem Un.any (u : Un fs ex H H1 h h1) {b : Addr} {ob : Obj} (q : h.get? b = some ob) (n : H b = none) (hx : b ∉ ex) : ∃ sl, h1.get? b = some { ob with slots := sl } := by
  by_cases hb : b ∈ fs
  · exact u.slot b ob q n hb hx
  · exact ⟨ob.slots, u.keep b ob q n hb hx⟩
theorem Un.trans (a : Un fs ex H H1 h h1) (b : Un fs ex H1 H2 h1 h2) : Un fs ex H H2 h h2 where
  keep := fun c ob q n hc hx => b.keep c ob (a.keep c ob q n hc hx) (a.free c ob q n hx) hc hx
  slot := fun c ob q n hc hx => by
    obtain ⟨sl, e1⟩ := a.slot c ob q n hc hx
    obtain ⟨sl', e2⟩ := b.slot c _ e1 (a.free c ob q n hx) hc hx
    exact ⟨sl', e2⟩
  free := fun c ob q n hx => by
    obtain ⟨o', e1⟩ := a.there c ob q hx
    exact b.free c o' e1 (a.free c ob q n hx) hx
  there := fun c ob q hx => by
    obtain ⟨o', e1⟩ := a.there c ob q hx
    exact b.there c o' e1 hx
  tups := fun c xs q => b.tups c xs (a.tups c xs q)
  frzs := fun c ob xs q => b.frzs c ob xs (a.frzs c ob xs q)
  tbls := fun c ps q => by
    obtain ⟨m1, e1⟩ := a.tbls c ps q
    obtain ⟨m2, e2⟩ := b.tbls c _ e1
    exact ⟨m1 ++ m2, by rw [e2, Array.append_assoc]⟩
theorem Un.kept (k : ∀ b u, h.get? b = some u → h'.get? b = some u) : Un fs ex H H h h' :=
  ⟨fun b ob q _ _ _ => k b ob q, fun b ob q _ _ _ => ⟨ob.slots, k b ob q⟩, fun _ _ _ n _ => n, fun b ob q _ => ⟨ob, k b ob q⟩, fun _ _ q => q, fun _ _ _ q => q, fun _ ps q => ⟨#[], by rw [q]; simp⟩⟩
theorem Un.refl : Un fs ex H H h h := Un.kept fun _ _ q => q
theorem Un.laid (k : ∀ b u, h.get? b = some u → h'.get? b = some u) (hp : h.objs.size ≤ a) (hn : H a = none) : Un fs ex H (upd H a o) h h' where
  keep := fun b u q _ _ _ => k b u q
  slot := fun b u q _ _ _ => ⟨u.slots, k b u q⟩
  free := fun b u q n _ => by rw [upd_ne (Nat.ne_of_lt (Nat.lt_of_lt_of_le (Heap.lt_size q) hp))]; exact n
  there := fun b u q _ => ⟨u, k b u q⟩
  tups := fun b xs q => by rw [upd_ne (ne_of_none q hn)]; exact q
  frzs := fun b u xs q => by rw [upd_ne (ne_of_none q hn)]; exact q
  tbls := fun b ps q => ⟨#[], by rw [upd_ne (ne_of_none q hn), q]; simp⟩
theorem Un.write (mu : Mut (H x)) (he : e = x ∨ H e = some (.own x)) (k : ∀ b u, b ≠ e → h.get? b = some u → h'.get? b = some u) (heo : ∃ u, h'.get? e = some u) : Un fs ex H (upd H x o) h h' := by
  have hx : ∀ b, H b = none → b ≠ x := fun b n z => by subst z; rw [n] at mu; exact mu
  have hb : ∀ b, H b = none → b ≠ e := fun b n z => by
    subst z
    rcases he with r | r
    · exact hx b n r
    · rw [n] at r; cases r
  have hm : ∀ b u, H b = some u → ¬ Mut (some u) → b ≠ x := fun b u q nm z => by subst z; rw [q] at mu; exact nm mu
  refine ⟨fun b u q n _ _ => k b u (hb b n) q, fun b u q n _ _ => ⟨u.slots, k b u (hb b n) q⟩, fun b u q n _ => by rw [upd_ne (hx b n)]; exact n, fun b u q _ => ?_,
    fun b xs q => by rw [upd_ne (hm b _ q fun z => z)]; exact q, fun b u xs q => by rw [upd_ne (hm b _ q fun z => z)]; exact q, fun b ps q => ⟨#[], by rw [upd_ne (hm b _ q fun z => z), q]; simp⟩⟩
  by_cases hbe : b = e
  · subst hbe; exact heo
  · exact ⟨u, k b u hbe q⟩
theorem Un.mono (u : Un fs ex H H1 h h1) (hs : ∀ b ∈ fs, b ∈ fs') (hx : ∀ b ∈ ex, b ∈ ex') : Un fs' ex' H H1 h h1 :=
  ⟨fun b ob q n hb he => u.keep b ob q n (fun z => hb (hs b z)) fun z => he (hx b z), fun _ _ q n _ he => u.any q n fun z => he (hx _ z), fun b ob q n he => u.free b ob q n fun z => he (hx b z), fun b ob q he => u.there b ob q fun z => he (hx b z), u.tups, u.frzs, u.tbls⟩
end

def trk (h : Heap) (H : Hp) : List Addr := (List.range h.objs.size).filter fun a => (H a).isSome
def hidT (h : Heap) (H : Hp) : Heap := PySem.W.hideAll h (trk h H)
theorem hidT_size (h : Heap) (H : Hp) : (hidT h H).objs.size = h.objs.size := PySem.W.hideAll_size _ _
theorem hidT_get {h : Heap} {H : Hp} {b : Addr} {o : Obj} (e : h.get? b = some o) (n : H b = none) : (hidT h H).get? b = some o :=
  PySem.W.hideAll_get _ e fun hm => by
    have q : (H b).isSome = true := (List.mem_filter.mp hm).2
    rw [n] at q; simp at q
theorem of_hidT {h : Heap} {H : Hp} {b : Addr} {o : Obj} (e : (hidT h H).get? b = some o) : h.get? b = some o ∧ H b = none := by
  have e' : h.get? b = some o := PySem.W.of_hideAll (trk h H) e
  refine ⟨e', ?_⟩
  cases q : H b with
  | none => rfl
  | some x =>
    have hm : b ∈ trk h H := List.mem_filter.mpr ⟨List.mem_range.mpr (Heap.lt_size e'), by simp [q]⟩
    have z : (hidT h H).get? b = none := PySem.W.hideAll_none (trk h H) hm
    rw [z] at e; cases e

def allNews (g h : Heap) (L : Addr) : List (Addr × Obj) := (List.range h.objs.size).filterMap fun a => if a = L ∨ (g.get? a).isSome = true then none else (h.get? a).map fun o => (a, o)
def rest (g h : Heap) (L d : Addr) : List (Addr × Obj) := (allNews g h L).filter fun p => decide (p.1 ≠ d)
end L2

namespace L2
open PySem PySem.Spec PyProof.Rows

structure Mod (K : PySem.W.Frag) (mg : Str → Option Value) (base : Heap) : Prop where
  kin : K.In base
  glob : base.Ns mainGlobals mg
  blt : ∃ mb, base.Ns builtinsNs mb ∧ ∀ x : Str, x ≠ "__name__" → mb x = bootBuiltins x
  nolimit : base.NoLimit

structure Cx where
  prog : Program
  w : World
  K : PySem.W.Frag
  mg : Str → Option Value
  base : Heap
  A : Around
  N : List Str
  s₀ : Shared
  H₀ : Hp
  env : Env
  outer : List Env
  stack : List Env
  ex : List Addr
  fn : Str → Bool
  calm : Bool
  pn : List (Addr × Obj)
  xe : Value → Shared → Prop
def frs (l : List Env) : List Addr := l.filterMap (·.frame)
abbrev Cx.fs (X : Cx) : List Addr := frs X.outer

def Vis (sc : Scope) (x : Str) : Prop := sc.names.lookup x = some .local ∨ sc.names.lookup x = some .cell ∨ sc.names.lookup x = some .free
def Loc (sc : Scope) (x : Str) : Prop := sc.names.lookup x = some .local ∨ sc.names.lookup x = some .cell
def Look (env : Env) (h : Heap) (m : Str → Option Value) (x : Str) (u : Value) : Prop :=
  (env.kindOf x = some .local ∧ m x = some u) ∨ ((env.kindOf x = some .cell ∨ env.kindOf x = some .free) ∧ ∃ c, env.cells.lookup x = some c ∧ h.IsCell c (some u))

structure Cx.Ok (X : Cx) : Prop where
  mod : Mod X.K X.mg X.base
  kind : X.env.scope.kind = .function
  glob : X.env.globals = mainGlobals
  blt : X.env.builtins = builtinsNs
  above : X.s₀.heap.objs.size ≤ X.env.locals
  inj : ∀ x y c, X.env.cells.lookup x = some c → X.env.cells.lookup y = some c → x = y
  has : ∀ x, (X.env.kindOf x = some .cell ∨ X.env.kindOf x = some .free) → ∃ c, X.env.cells.lookup x = some c
  cab : ∀ x c, X.fn x = true → X.env.cells.lookup x = some c → X.s₀.heap.objs.size ≤ c
  hd : X.calm = true → X.A.handled = none
  frames : X.A.frames = some X.stack
  stk : X.stack = X.outer ∨ (X.stack = X.env :: X.outer ∧ X.env.frame = some X.env.locals)
  exf : ∀ b ∈ X.ex, b ≠ X.env.locals ∧ ∀ x c, X.env.cells.lookup x = some c → c ≠ b
  bs : ∀ b o, X.base.get? b = some o → X.s₀.heap.get? b = some o ∧ X.H₀ b = none
  bsz : X.base.objs.size ≤ X.s₀.heap.objs.size
  noex : ∀ b o, X.base.get? b = some o → b ∉ X.ex
  exfs : ∀ b ∈ X.ex, b ∉ X.fs
  funs : X.s₀.heap.FunFrames X.base X.outer
  frf : ∀ b ∈ X.fs, X.H₀ b = none

structure Inv (X : Cx) (pins : List (Addr × Obj)) (σ : List (Option V)) (H : Hp) (s : Shared) : Prop where
  ok : X.Ok
  os : s.os = X.s₀.os
  bare : AllBare s.gens
  base : Un X.fs X.ex X.H₀ H X.s₀.heap s.heap
  loc : ∃ m, s.heap.Ns X.env.locals m ∧ ∀ (i : Nat) (x : Str) (v : V), X.N[i]? = some x → σ[i]? = some (some v) → Vis X.env.scope x → ∃ u, RelV v u ∧ Look X.env s.heap m x u
  cell : ∀ x c, X.env.cells.lookup x = some c → ∃ v, s.heap.IsCell c v
  free : H X.env.locals = none
  freeC : ∀ x c, X.env.cells.lookup x = some c → H c = none
  pin : ∀ p ∈ X.pn ++ pins, s.heap.get? p.1 = some p.2 ∧ H p.1 = none ∧ p.1 ≠ X.env.locals ∧ p.1 ∉ X.fs ∧ ∀ v, p.2.data ≠ .cell v
  hok : HOk X.prog X.w H s.heap
  len : σ.length = X.N.length

section
variable {X : Cx} {pins : List (Addr × Obj)} {σ : List (Option V)} {H H' : Hp} {s : Shared} {h' : Heap}

theorem Cx.Ok.nofr (ok : X.Ok) {b : Addr} {o : Obj} (e : X.base.get? b = some o) : b ∉ X.fs := fun hb => by
  have := (ok.funs.mem hb).1
  rw [e] at this; cases this
theorem Inv.bs (I : Inv X pins σ H s) : ∀ b o, X.base.get? b = some o → s.heap.get? b = some o ∧ H b = none := fun b o e =>
  ⟨I.base.keep b o (I.ok.bs b o e).1 (I.ok.bs b o e).2 (I.ok.nofr e) (I.ok.noex b o e), I.base.free b o (I.ok.bs b o e).1 (I.ok.bs b o e).2 (I.ok.noex b o e)⟩
theorem Inv.bk (I : Inv X pins σ H s) : ∀ b o, X.base.get? b = some o → s.heap.get? b = some o := fun b o e => (I.bs b o e).1
theorem Inv.mod (I : Inv X pins σ H s) : Mod X.K X.mg X.base := I.ok.mod
theorem Inv.kIn (I : Inv X pins σ H s) : X.K.In s.heap := I.ok.mod.kin.keeps I.bk
theorem Inv.nolimit (I : Inv X pins σ H s) : s.heap.NoLimit := I.ok.mod.nolimit.keeps I.bk
theorem Inv.fr (I : Inv X pins σ H s) : ∃ m, Fr X.base X.env.locals s.heap m :=
  let ⟨m, hn, _⟩ := I.loc
  ⟨m, hn, I.bk, Nat.le_trans I.ok.bsz I.ok.above⟩
theorem Inv.lt (I : Inv X pins σ H s) : X.env.locals < s.heap.objs.size := let ⟨_, hn, _⟩ := I.loc; hn.lt
theorem Inv.sz (I : Inv X pins σ H s) : X.s₀.heap.objs.size ≤ s.heap.objs.size := Nat.le_trans I.ok.above (Nat.le_of_lt I.lt)
theorem Inv.nofs (I : Inv X pins σ H s) {a : Addr} (h : s.heap.objs.size ≤ a) : a ∉ X.fs := fun hb => by
  obtain ⟨_, o, ho, _⟩ := I.ok.funs.mem hb
  exact absurd (Nat.lt_of_lt_of_le (Heap.lt_size ho) (Nat.le_trans I.sz h)) (Nat.lt_irrefl _)
theorem Inv.cne (I : Inv X pins σ H s) : ∀ x c, X.env.cells.lookup x = some c → c ≠ X.env.locals := fun x c e z => by
  obtain ⟨v, o, ho, hd⟩ := I.cell x c e
  obtain ⟨m, ⟨o', es, ep, ho', hd', _⟩, _⟩ := I.loc
  rw [z, ho'] at ho; cases ho; rw [hd'] at hd; cases hd
theorem Inv.funs (I : Inv X pins σ H s) : s.heap.FunFrames X.base X.outer := by
  have all : ∀ (l : List Env), (∀ b ∈ frs l, b ∈ X.fs) → X.s₀.heap.FunFrames X.base l → s.heap.FunFrames X.base l := by
    intro l
    induction l with
    | nil => intro _ _; trivial
    | cons env r ih =>
      intro hs hl
      obtain ⟨hk, ⟨L, o, hf, hn, ho, hd⟩, hr⟩ := hl
      have hL : L ∈ X.fs := hs L (by unfold frs; rw [List.filterMap_cons, hf]; exact List.mem_cons_self)
      obtain ⟨sl, e⟩ := I.base.slot L o ho (I.ok.frf L hL) hL fun z => I.ok.exfs L z hL
      exact ⟨hk, ⟨L, _, hf, hn, e, hd⟩, ih (fun b hb => hs b (by unfold frs; rw [List.filterMap_cons, hf]; exact List.mem_cons_of_mem _ hb)) hr⟩
  exact all X.outer (fun _ hb => hb) I.ok.funs

theorem Inv.stack (I : Inv X pins σ H s) : s.heap.FunFrames X.base X.stack := by
  rcases I.ok.stk with e | ⟨e, hf⟩
  · rw [e]; exact I.funs
  · rw [e]
    obtain ⟨m, hn, _⟩ := I.loc
    refine .cons (by rw [I.ok.kind]; decide) hf hn ?_ I.funs
    exact Heap.get?_none_of_le (Nat.le_trans I.ok.bsz I.ok.above)
theorem Inv.stkSub (I : Inv X pins σ H s) : ∀ b ∈ frs X.stack, b ∈ X.env.locals :: X.fs := fun b hb => by
  rcases I.ok.stk with e | ⟨e, hf⟩
  · rw [e] at hb; exact List.mem_cons_of_mem _ hb
  · rw [e] at hb
    unfold frs at hb
    rw [List.filterMap_cons, hf] at hb
    exact hb
theorem Inv.stkFree (I : Inv X pins σ H s) : ∀ b ∈ frs X.stack, H b = none := fun b hb => by
  rcases List.mem_cons.mp (I.stkSub b hb) with e | hb
  · rw [e]; exact I.free
  · obtain ⟨_, o, ho, _⟩ := I.ok.funs.mem hb
    exact I.base.free b o ho (I.ok.frf b hb) fun z => I.ok.exfs b z hb

theorem Inv.step {g' : Array GenState} {t' : Nat} {d' : Drawn} {ch : List Addr} (I : Inv X pins σ H s)
    (hch : ∀ b ∈ ch, (b ∈ X.ex ∨ X.s₀.heap.objs.size ≤ b) ∧ b ≠ X.env.locals ∧ (∀ x c, X.env.cells.lookup x = some c → c ≠ b) ∧ ∀ p ∈ X.pn ++ pins, p.1 ≠ b)
    (keep : ∀ b o, b ≠ X.env.locals → b ∉ X.fs → b ∉ ch → s.heap.get? b = some o → H b = none → h'.get? b = some o)
    (slot : ∀ b o, b ≠ X.env.locals → b ∈ X.fs → b ∉ ch → s.heap.get? b = some o → H b = none → ∃ sl, h'.get? b = some { o with slots := sl }) (free : ∀ b o, b ∉ ch → s.heap.get? b = some o → H b = none → H' b = none)
    (there : ∀ b o, b ∉ ch → s.heap.get? b = some o → ∃ o', h'.get? b = some o')
    (tups : ∀ b xs, H b = some (.tup xs) → H' b = some (.tup xs)) (frzs : ∀ b o u, H b = some (.frz o u) → H' b = some (.frz o u)) (tbls : ∀ b ps, H b = some (.tbl ps) → ∃ more, H' b = some (.tbl (ps ++ more)))
    (ns : ∀ m, s.heap.Ns X.env.locals m → h'.Ns X.env.locals m) (hok : HOk X.prog X.w H' h') (hg : AllBare g') :
    Inv X pins σ H' { s with heap := h', gens := g', drawn := d', toks := t' } := by
  have neL : ∀ b o, X.s₀.heap.get? b = some o → b ≠ X.env.locals := fun b o e => Nat.ne_of_lt (Nat.lt_of_lt_of_le (Heap.lt_size e) I.ok.above)
  have neC : ∀ b o, X.s₀.heap.get? b = some o → b ∉ X.ex → b ∉ ch := fun b o e hx hb => by
    rcases (hch b hb).1 with z | z
    · exact hx z
    · exact absurd (Nat.lt_of_lt_of_le (Heap.lt_size e) z) (Nat.lt_irrefl _)
  have cellK : ∀ x c, X.env.cells.lookup x = some c → ∀ v, s.heap.IsCell c v → h'.IsCell c v := fun x c e v ⟨o, ho, hd⟩ => by
    have nch : c ∉ ch := fun z => (hch c z).2.2.1 x c e rfl
    by_cases hc : c ∈ X.fs
    · obtain ⟨sl, q⟩ := slot c o (I.cne x c e) hc nch ho (I.freeC x c e)
      exact ⟨_, q, hd⟩
    · exact ⟨o, keep c o (I.cne x c e) hc nch ho (I.freeC x c e), hd⟩
  refine ⟨I.ok, I.os, hg, ⟨fun b o e n hb hx => ?_, fun b o e n hb hx => ?_, fun b o e n hx => ?_, fun b o e hx => ?_, fun b xs e => tups b xs (I.base.tups b xs e), fun b o xs e => frzs b o xs (I.base.frzs b o xs e), fun b ps e => ?_⟩, ?_, fun x c e => ?_, ?_, fun x c e => ?_, fun p hp => ?_, hok, I.len⟩
  · exact keep b o (neL b o e) hb (neC b o e hx) (I.base.keep b o e n hb hx) (I.base.free b o e n hx)
  · obtain ⟨sl, e1⟩ := I.base.slot b o e n hb hx
    obtain ⟨sl', e2⟩ := slot b _ (neL b o e) hb (neC b o e hx) e1 (I.base.free b o e n hx)
    exact ⟨sl', e2⟩
  · obtain ⟨o', e1⟩ := I.base.there b o e hx
    exact free b o' (neC b o e hx) e1 (I.base.free b o e n hx)
  · obtain ⟨o', e1⟩ := I.base.there b o e hx
    exact there b o' (neC b o e hx) e1
  · obtain ⟨m1, e1⟩ := I.base.tbls b ps e
    obtain ⟨m2, e2⟩ := tbls b _ e1
    exact ⟨m1 ++ m2, by rw [e2, Array.append_assoc]⟩
  · obtain ⟨m, hn, hl⟩ := I.loc
    refine ⟨m, ns m hn, fun i x v e1 e2 e3 => ?_⟩
    obtain ⟨u, r, l⟩ := hl i x v e1 e2 e3
    refine ⟨u, r, ?_⟩
    rcases l with l | ⟨k, c, e, z⟩
    · exact .inl l
    · exact .inr ⟨k, c, e, cellK x c e _ z⟩
  · obtain ⟨v, z⟩ := I.cell x c e
    exact ⟨v, cellK x c e v z⟩
  · obtain ⟨m, ⟨o, _, _, ho, _⟩, _⟩ := I.loc
    exact free _ o (fun z => (hch _ z).2.1 rfl) ho I.free
  · obtain ⟨v, o, ho, hd⟩ := I.cell x c e
    exact free c o (fun z => (hch c z).2.2.1 x c e rfl) ho (I.freeC x c e)
  · obtain ⟨e, n, ne, nf, d⟩ := I.pin p hp
    have nch : p.1 ∉ ch := fun z => (hch p.1 z).2.2.2 p hp rfl
    exact ⟨keep p.1 p.2 ne nf nch e n, free p.1 p.2 nch e n, ne, nf, d⟩
theorem Inv.un {t' : Nat} (I : Inv X pins σ H s) (u : Un X.fs [] H H' s.heap h') (hok : HOk X.prog X.w H' h') : Inv X pins σ H' { s with heap := h', toks := t' } := by
  obtain ⟨m, ⟨o, es, ep, ho, r⟩, _⟩ := id I.loc
  obtain ⟨sl, hL⟩ := u.any ho I.free (by simp)
  exact I.step (g' := s.gens) (d' := s.drawn) (ch := []) (fun _ z => nomatch z) (fun b o _ hb _ e n => u.keep b o e n hb (by simp)) (fun b o _ hb _ e n => u.slot b o e n hb (by simp)) (fun b o _ e n => u.free b o e n (by simp)) (fun b o _ e => u.there b o e (by simp)) u.tups u.frzs u.tbls (fun m' hm => by
    obtain ⟨o', es', ep', ho', r'⟩ := hm
    rw [ho] at ho'; cases ho'
    exact ⟨_, es', ep', hL, r'⟩) hok I.bare
theorem Inv.call {g' : Array GenState} {t' : Nat} {d' : Drawn} {ch : List Addr} (I : Inv X pins σ H s) (u : Un (frs X.stack) ch H H' s.heap h') (hok : HOk X.prog X.w H' h') (hg : AllBare g')
    (hch : ∀ b ∈ ch, (b ∈ X.ex ∨ X.s₀.heap.objs.size ≤ b) ∧ b ≠ X.env.locals ∧ (∀ x c, X.env.cells.lookup x = some c → c ≠ b) ∧ ∀ p ∈ X.pn ++ pins, p.1 ≠ b) :
    Inv X pins σ H' { s with heap := h', gens := g', drawn := d', toks := t' } := by
  obtain ⟨m, ⟨o, es, ep, ho, r⟩, _⟩ := id I.loc
  obtain ⟨sl, hL⟩ := u.any ho I.free fun z => (hch _ z).2.1 rfl
  exact I.step (ch := ch) hch (fun b o hL hb hc e n => u.keep b o e n (fun z => (List.mem_cons.mp (I.stkSub b z)).elim hL hb) hc) (fun b o _ _ hc e n => u.any e n hc) (fun b o hc e n => u.free b o e n hc) (fun b o hc e => u.there b o e hc) u.tups u.frzs u.tbls (fun m' hm => by
    obtain ⟨o', es', ep', ho', r'⟩ := hm
    rw [ho] at ho'; cases ho'
    exact ⟨_, es', ep', hL, r'⟩) hok hg
theorem Inv.turned {t' : Nat} {it : Addr} (I : Inv X pins σ H s) (k : ∀ b o, b ≠ it → s.heap.get? b = some o → h'.get? b = some o) (hn : H it = none) (hL : it ≠ X.env.locals)
    (h1 : it ∈ X.ex ∨ X.s₀.heap.objs.size ≤ it) (h2 : ∀ x c, X.env.cells.lookup x = some c → c ≠ it) (h3 : ∀ p ∈ X.pn ++ pins, p.1 ≠ it) : Inv X pins σ H { s with heap := h', toks := t' } := by
  have nit : ∀ b u, H b = some u → b ≠ it := fun b u e z => by rw [z, hn] at e; cases e
  refine I.step (g' := s.gens) (d' := s.drawn) (ch := [it]) (fun b hb => ?_) (fun b o _ _ hc e _ => k b o (fun z => hc (by simp [z])) e) (fun b o _ _ hc e _ => ⟨o.slots, k b o (fun z => hc (by simp [z])) e⟩) (fun _ _ _ _ n => n)
    (fun b o hc e => ⟨o, k b o (fun z => hc (by simp [z])) e⟩) (fun _ _ e => e) (fun _ _ _ e => e) (fun b ps e => ⟨#[], by rw [e]; simp⟩) (fun m hm => ?_) (fun b u e => ?_) I.bare
  · have e : b = it := by simpa using hb
    subst e
    exact ⟨h1, hL, h2, h3⟩
  · obtain ⟨o, es, ep, ho, r⟩ := hm
    exact ⟨o, es, ep, k _ o (Ne.symm hL) ho, r⟩
  · refine (I.hok b u e).stay (fun c v hc q => k c v ?_ q) (fun _ q => q) fun _ _ q => q
    rcases hc with z | z
    · rw [z]; exact nit b u e
    · exact nit c _ z
theorem Inv.tok (I : Inv X pins σ H s) (t : Nat) : Inv X pins σ H { s with toks := t } := I.un (h' := s.heap) (t' := t) Un.refl I.hok
theorem Inv.kept {t' : Nat} (I : Inv X pins σ H s) (k : ∀ b u, s.heap.get? b = some u → h'.get? b = some u) : Inv X pins σ H { s with heap := h', toks := t' } := I.un (Un.kept k) (I.hok.kept k)
theorem Inv.laid {a : Addr} {o : HO} {t' : Nat} (I : Inv X pins σ H s) (k : ∀ b u, s.heap.get? b = some u → h'.get? b = some u) (hp : s.heap.objs.size ≤ a) (new : ObjOk X.prog X.w (upd H a o) h' a o) :
    Inv X pins σ (upd H a o) { s with heap := h', toks := t' } := I.un (Un.laid k hp (I.hok.fresh hp)) (I.hok.laid k hp new)
theorem Inv.write {x e : Addr} {o : HO} {t' : Nat} (I : Inv X pins σ H s) (mu : Mut (H x)) (he : e = x ∨ H e = some (.own x)) (k : ∀ b u, b ≠ e → s.heap.get? b = some u → h'.get? b = some u) (heo : ∃ u, h'.get? e = some u)
    (new : ObjOk X.prog X.w (upd H x o) h' x o) : Inv X pins σ (upd H x o) { s with heap := h', toks := t' } := I.un (Un.write mu he k heo) (I.hok.write mu he k heo new)
theorem Inv.pins_of {pins' : List (Addr × Obj)} (I : Inv X pins σ H s) (h : ∀ p ∈ pins', s.heap.get? p.1 = some p.2 ∧ H p.1 = none ∧ p.1 ≠ X.env.locals ∧ p.1 ∉ X.fs ∧ ∀ v, p.2.data ≠ .cell v) : Inv X pins' σ H s :=
  ⟨I.ok, I.os, I.bare, I.base, I.loc, I.cell, I.free, I.freeC, fun p hp => (List.mem_append.mp hp).elim (fun z => I.pin p (List.mem_append_left _ z)) (h p), I.hok, I.len⟩

theorem nodup_ix {N : List Str} (hN : N.Nodup) {i j : Nat} {x : Str} (a : N[i]? = some x) (b : N[j]? = some x) : i = j := by
  obtain ⟨h1, e1⟩ := List.getElem?_eq_some_iff.mp a
  obtain ⟨h2, e2⟩ := List.getElem?_eq_some_iff.mp b
  exact (List.getElem_inj hN).mp (e1.trans e2.symm)

theorem store_ok2 {M : Model} {A : Around} {E : Value → Shared → Prop} {i : Nat} {x : Str} {v : V} {u : Value} {Q : Unit → Shared → Prop} (I : Inv X pins σ H s) (hN : X.N.Nodup) (hi : X.N[i]? = some x) (hx : Loc X.env.scope x) (r : RelV v u)
    (h : ∀ s', Inv X pins (σ.set i (some v)) H s' → (∃ a, Heap.SameBut a s.heap s'.heap ∧ (a = X.env.locals ∨ X.env.cells.lookup x = some a)) → Q () s') (hf : X.fn x = true ∨ X.env.scope.names.lookup x = some .local := by first | exact .inl rfl | exact .inr rfl | assumption) : wpAny M A (storeName X.env x u) Q E s := by
  obtain ⟨m, hn, hl⟩ := id I.loc
  have hcls : (X.env.scope.kind == .class || (X.env.scope.kind == .module && X.env.locals != X.env.globals)) = false := by rw [I.ok.kind]; rfl
  have hiσ : i < σ.length := by rw [I.len]; exact (List.getElem?_eq_some_iff.mp hi).1
  have cne := I.cne
  have tracked : ∀ {a : Addr} {h' : Heap}, (∃ o, s.heap.get? a = some o ∧ H a = none) → Heap.SameBut a s.heap h' → HOk X.prog X.w H h' := fun {a h'} ha hs b ob e => by
    obtain ⟨_, _, hfree⟩ := ha
    refine (I.hok b ob e).stay (fun c w' hc q => (hs.2 c ?_).trans q) (fun _ q => q) fun _ _ q => q
    rintro rfl
    rcases hc with rfl | hc
    · rw [hfree] at e; cases e
    · rw [hfree] at hc; cases hc
  rcases hx with hk | hk
  · refine wpAny_storeName_local hk hn (fun h' hn' hs => ?_) hcls
    obtain ⟨oL, _, _, hoL, _⟩ := id hn
    refine h _ ⟨I.ok, I.os, I.bare, ⟨fun b o e n hb hx => ?_, fun b o e n hb hx => ?_, I.base.free, fun b o e hx => ?_, I.base.tups, I.base.frzs, I.base.tbls⟩, ⟨_, hn', fun j y v' e1 e2 e3 => ?_⟩, fun y c e => ?_, I.free, I.freeC, fun p hp => ?_, tracked ⟨oL, hoL, I.free⟩ hs, by simpa using I.len⟩ ⟨_, hs, .inl rfl⟩
    · exact (hs.2 b (Nat.ne_of_lt (Nat.lt_of_lt_of_le (Heap.lt_size e) I.ok.above))).trans (I.base.keep b o e n hb hx)
    · obtain ⟨sl, e1⟩ := I.base.slot b o e n hb hx
      exact ⟨sl, (hs.2 b (Nat.ne_of_lt (Nat.lt_of_lt_of_le (Heap.lt_size e) I.ok.above))).trans e1⟩
    · obtain ⟨o', e1⟩ := I.base.there b o e hx
      exact ⟨o', (hs.2 b (Nat.ne_of_lt (Nat.lt_of_lt_of_le (Heap.lt_size e) I.ok.above))).trans e1⟩
    · by_cases hj : j = i
      · subst hj
        rw [hi] at e1; cases e1
        rw [List.getElem?_set_self hiσ] at e2
        cases e2
        exact ⟨u, r, .inl ⟨hk, by simp⟩⟩
      · rw [List.getElem?_set_ne (Ne.symm hj)] at e2
        obtain ⟨u', r', q⟩ := hl j y v' e1 e2 e3
        refine ⟨u', r', ?_⟩
        rcases q with ⟨k, e⟩ | ⟨k, c, e, z⟩
        · refine .inl ⟨k, ?_⟩
          have : y ≠ x := fun e => hj (nodup_ix hN e1 (e ▸ hi))
          simp [this, e]
        · exact .inr ⟨k, c, e, z.sameBut hs (cne y c e)⟩
    · obtain ⟨w', z⟩ := I.cell y c e
      exact ⟨w', z.sameBut hs (cne y c e)⟩
    · obtain ⟨e, n, ne, nf, d⟩ := I.pin p hp
      exact ⟨(hs.2 p.1 ne).trans e, n, ne, nf, d⟩
  · have hfn : X.fn x = true := by
      rcases hf with z | z
      · exact z
      · rw [z] at hk; cases hk
    obtain ⟨c, hc⟩ := I.ok.has x (.inl hk)
    obtain ⟨w', z⟩ := I.cell x c hc
    refine wpAny_storeName_cell I.ok.kind hk hc z (fun h' hc' hs => ?_)
    obtain ⟨oc, hoc, hocd⟩ := id z
    refine h { s with heap := h' } ⟨I.ok, I.os, I.bare, ⟨fun b o e n hb hx => ?_, fun b o e n hb hx => ?_, I.base.free, fun b o e hx => ?_, I.base.tups, I.base.frzs, I.base.tbls⟩, ⟨m, hn.sameBut hs (Ne.symm (cne x c hc)), fun j y v' e1 e2 e3 => ?_⟩, fun y c' e => ?_, I.free, I.freeC, fun p hp => ?_, tracked ⟨oc, hoc, I.freeC x c hc⟩ hs, by simpa using I.len⟩ ⟨c, hs, .inr hc⟩
    · exact (hs.2 b (Nat.ne_of_lt (Nat.lt_of_lt_of_le (Heap.lt_size e) (I.ok.cab x c hfn hc)))).trans (I.base.keep b o e n hb hx)
    · obtain ⟨sl, e1⟩ := I.base.slot b o e n hb hx
      exact ⟨sl, (hs.2 b (Nat.ne_of_lt (Nat.lt_of_lt_of_le (Heap.lt_size e) (I.ok.cab x c hfn hc)))).trans e1⟩
    · obtain ⟨o', e1⟩ := I.base.there b o e hx
      exact ⟨o', (hs.2 b (Nat.ne_of_lt (Nat.lt_of_lt_of_le (Heap.lt_size e) (I.ok.cab x c hfn hc)))).trans e1⟩
    · by_cases hj : j = i
      · subst hj
        rw [hi] at e1; cases e1
        rw [List.getElem?_set_self hiσ] at e2
        cases e2
        exact ⟨u, r, .inr ⟨.inl hk, c, hc, hc'⟩⟩
      · rw [List.getElem?_set_ne (Ne.symm hj)] at e2
        obtain ⟨u', r', q⟩ := hl j y v' e1 e2 e3
        refine ⟨u', r', ?_⟩
        rcases q with q | ⟨k, c', e, z'⟩
        · exact .inl q
        · refine .inr ⟨k, c', e, z'.sameBut hs ?_⟩
          rintro rfl
          exact hj (nodup_ix hN e1 (I.ok.inj _ _ _ e hc ▸ hi))
    · by_cases hcc : c' = c
      · subst hcc; exact ⟨_, hc'⟩
      · obtain ⟨w2, z2⟩ := I.cell y c' e
        exact ⟨w2, z2.sameBut hs hcc⟩
    · obtain ⟨e, n, ne, nf, d⟩ := I.pin p hp
      refine ⟨(hs.2 p.1 ?_).trans e, n, ne, nf, d⟩
      intro q
      rw [q, hoc] at e
      have q' : oc = p.2 := Option.some.inj e
      exact d w' (by rw [← q']; exact hocd)
theorem store_ok {M : Model} {A : Around} {E : Value → Shared → Prop} {i : Nat} {x : Str} {v : V} {u : Value} {Q : Unit → Shared → Prop} (I : Inv X pins σ H s) (hN : X.N.Nodup) (hi : X.N[i]? = some x) (hx : Loc X.env.scope x) (r : RelV v u)
    (h : ∀ s', Inv X pins (σ.set i (some v)) H s' → Q () s') (hf : X.fn x = true ∨ X.env.scope.names.lookup x = some .local := by first | exact .inl rfl | exact .inr rfl | assumption) : wpAny M A (storeName X.env x u) Q E s :=
  store_ok2 I hN hi hx r (fun s' I' _ => h s' I') hf
theorem Inv.call' {s' : Shared} {ch : List Addr} (I : Inv X pins σ H s) (ho : s'.os = s.os) (u : Un (frs X.stack) ch H H' s.heap s'.heap) (hok : HOk X.prog X.w H' s'.heap) (hg : AllBare s'.gens)
    (hch : ∀ b ∈ ch, (b ∈ X.ex ∨ X.s₀.heap.objs.size ≤ b) ∧ b ≠ X.env.locals ∧ (∀ x c, X.env.cells.lookup x = some c → c ≠ b) ∧ ∀ p ∈ X.pn ++ pins, p.1 ≠ b) : Inv X pins σ H' s' := by
  obtain ⟨h', g', d', t', o'⟩ := s'
  have e : o' = s.os := ho
  subst e
  exact I.call (g' := g') (t' := t') (d' := d') u hok hg hch
end

abbrev XK := Value → Option Addr → Hp → Prop
abbrev St := List (Option V)
abbrev VK := V → Hp → Prop
abbrev TE := St → Hp → VK → Prop
abbrev TT := St → Hp → (Bool → Hp → Prop) → Prop
abbrev TA := St → Hp → (List V → Hp → Prop) → Prop
structure Ends where
  nx : St → Hp → Prop
  rt : VK
  bk : St → Hp → Prop := fun _ _ => False
  ct : St → Hp → Prop := fun _ _ => False
abbrev TS := Ends → St → Hp → Prop

def EP (X : Cx) (pins : List (Addr × Obj)) (σ : St) (Q : VK) (u : Value) (s' : Shared) : Prop := ∃ v H', Inv X pins σ H' s' ∧ RelV v u ∧ Q v H'
def TP (X : Cx) (pins : List (Addr × Obj)) (σ : St) (Q : Bool → Hp → Prop) (b : Bool) (s' : Shared) : Prop := ∃ H', Inv X pins σ H' s' ∧ Q b H'
def AP (X : Cx) (pins : List (Addr × Obj)) (σ : St) (Q : List V → Hp → Prop) (us : List Value) (s' : Shared) : Prop := ∃ vs H', Inv X pins σ H' s' ∧ Vals vs us ∧ Q vs H'
def SP (X : Cx) (pins : List (Addr × Obj)) (D : Ends) (f : Flow) (s' : Shared) : Prop :=
  match f with
  | .next => ∃ σ' H', Inv X pins σ' H' s' ∧ D.nx σ' H'
  | .brk => ∃ σ' H', Inv X pins σ' H' s' ∧ D.bk σ' H'
  | .cont => ∃ σ' H', Inv X pins σ' H' s' ∧ D.ct σ' H'
  | .ret u => ∃ v σ' H', Inv X pins σ' H' s' ∧ RelV v u ∧ D.rt v H'

def PE (X : Cx) (e : Expr) (t : TE) : Prop :=
  ∀ (pins : List (Addr × Obj)) (s : Shared) (σ : St) (H : Hp) (Q : VK), Inv X pins σ H s → t σ H Q → wpAny (model X.prog X.w) X.A (eval e X.env) (EP X pins σ Q) X.xe s
def PT (X : Cx) (e : Expr) (t : TT) : Prop :=
  ∀ (pins : List (Addr × Obj)) (s : Shared) (σ : St) (H : Hp) (Q : Bool → Hp → Prop), Inv X pins σ H s → t σ H Q → wpAny (model X.prog X.w) X.A (isTrue e X.env (eval e X.env)) (TP X pins σ Q) X.xe s
def PW (X : Cx) (e : Expr) (t : TT) : Prop :=
  ∀ (whole : Sem Value) (pins : List (Addr × Obj)) (s : Shared) (σ : St) (H : Hp) (Q : Bool → Hp → Prop), Inv X pins σ H s → t σ H Q → wpAny (model X.prog X.w) X.A (isTrue e X.env whole) (TP X pins σ Q) X.xe s
theorem PW.pt {X : Cx} {e : Expr} {t : TT} (h : PW X e t) : PT X e t := h _
def PA (X : Cx) (es : List Expr) (t : TA) : Prop :=
  ∀ (pos : Pos) (pins : List (Addr × Obj)) (s : Shared) (σ : St) (H : Hp) (Q : List V → Hp → Prop), Inv X pins σ H s → t σ H Q → wpAny (model X.prog X.w) X.A (spliced (backTo pos (starEach es X.env))) (AP X pins σ Q) X.xe s
def PS (X : Cx) (st : Stmt) (t : TS) : Prop :=
  ∀ (pins : List (Addr × Obj)) (s : Shared) (σ : St) (H : Hp) (D : Ends), Inv X pins σ H s → t D σ H → wpAny (model X.prog X.w) X.A (exec st X.env) (SP X pins D) X.xe s
def PSs (X : Cx) (st : List Stmt) (t : TS) : Prop :=
  ∀ (pins : List (Addr × Obj)) (s : Shared) (σ : St) (H : Hp) (D : Ends), Inv X pins σ H s → t D σ H → wpAny (model X.prog X.w) X.A (execs st X.env) (SP X pins D) X.xe s
theorem thn {α : Type} {t : Sem α} {Q Q' : α → Shared → Prop} {M : Model} {A : Around} {E : Value → Shared → Prop} {s : Shared} (h : wpAny M A t Q E s) (hQ : ∀ a s, Q a s → Q' a s) : wpAny M A t Q' E s := wpAny_mono h hQ fun _ _ x => x
end L2

namespace L2
open PySem PySem.Spec PyProof.Rows
section
variable {X : Cx}

def tVar (i : Nat) : TE := fun σ H Q => ∃ v, σ[i]? = some (some v) ∧ Q v H
def tC (v : V) : TE := fun _ H Q => Q v H
theorem pe_var {i : Nat} {x : Str} {pos : Pos} (hN : X.N[i]? = some x) (hv : Vis X.env.scope x) (hd : (x == ("__debug__" : Str)) = false := by decide) (hcd : (x == ("__classdict__" : Str)) = false := by decide) : PE X (.Name x pos) (tVar i) := by
  intro pins s σ H Q I h
  obtain ⟨v, e, h⟩ := h
  obtain ⟨m, hn, hl⟩ := I.loc
  obtain ⟨u, r, l⟩ := hl i x v hN e hv
  have fin : EP X pins σ Q u s := ⟨v, H, I, r, h⟩
  rcases l with ⟨hk, hm⟩ | ⟨hk, c, hc, hcell⟩
  · exact wpAny_Name (wpAny_loadName_local I.ok.kind hk hn hm fin) hd
  · rcases hk with hk | hk
    · exact wpAny_Name (wpAny_loadName_cell I.ok.kind hk hc hcell fin) hd
    · exact wpAny_Name (wpAny_loadName_free I.ok.kind hk hc hcell fin hcd) hd
theorem pe_int {i j pos} : PE X (.Constant (.int i) j pos) (tC (.int i)) := fun _ _ _ H _ I h => wpAny_Constant_int ⟨.int i, H, I.tok _, ⟨_, rfl⟩, h⟩
theorem pe_bl {b j pos} : PE X (.Constant (.bool b) j pos) (tC (.bl b)) := fun _ _ _ H _ I h => Constant_bool ⟨.bl b, H, I, rfl, h⟩
theorem pe_non {j pos} : PE X (.Constant .none j pos) (tC .non) := fun _ _ _ H _ I h => Constant_none ⟨.non, H, I, rfl, h⟩
theorem pe_str {x j pos} : PE X (.Constant (.str x) j pos) (tC (.str x)) := fun _ _ _ H _ I h => Calls.Constant_str ⟨.str x, H, I.tok _, ⟨_, rfl⟩, h⟩

def Gl (X : Cx) (x : Str) : Prop := X.env.kindOf x = some .globalImplicit
theorem ld_glob {E : Value → Shared → Prop} {pins : List (Addr × Obj)} {s : Shared} {σ : St} {H : Hp} {x : Str} {u : Value} {pos : Pos} {Q : Value → Shared → Prop} (I : Inv X pins σ H s) (hg : Gl X x) (hm : X.mg x = some u) (h : Q u s)
    (hd : (x == ("__debug__" : Str)) = false := by decide) : wpAny (model X.prog X.w) X.A (eval (.Name x pos) X.env) Q E s :=
  Calls.Name_function_global I.ok.kind hg (Calls.loadGlobal_global (by rw [I.ok.glob]; exact I.mod.glob.keeps I.bk) hm h) hd
theorem ld_blt {E : Value → Shared → Prop} {pins : List (Addr × Obj)} {s : Shared} {σ : St} {H : Hp} {x : Str} {u : Value} {pos : Pos} {Q : Value → Shared → Prop} (I : Inv X pins σ H s) (hg : Gl X x) (hm : X.mg x = none) (hv : bootBuiltins x = some u) (h : Q u s)
    (hn : x ≠ "__name__" := by decide) (hd : (x == ("__debug__" : Str)) = false := by decide) : wpAny (model X.prog X.w) X.A (eval (.Name x pos) X.env) Q E s := by
  obtain ⟨mb, h1, h2⟩ := I.mod.blt
  exact Calls.Name_function_global I.ok.kind hg (Calls.loadGlobal_builtin (by rw [I.ok.glob]; exact I.mod.glob.keeps I.bk) hm (by rw [I.ok.blt]; exact h1.keeps I.bk) ((h2 x hn).trans hv) h) hd
theorem pe_glob {x : Str} {v : V} {u : Value} {pos : Pos} (hg : Gl X x) (hm : X.mg x = some u) (r : RelV v u) (hd : (x == ("__debug__" : Str)) = false := by decide) : PE X (.Name x pos) (tC v) :=
  fun _ _ _ H _ I h => ld_glob I hg hm ⟨v, H, I, r, h⟩ hd
theorem pe_bltn {x : Str} {v : V} {u : Value} {pos : Pos} (hg : Gl X x) (hm : X.mg x = none) (hv : bootBuiltins x = some u) (r : RelV v u) (hn : x ≠ "__name__" := by decide) (hd : (x == ("__debug__" : Str)) = false := by decide) : PE X (.Name x pos) (tC v) :=
  fun _ _ _ H _ I h => ld_blt I hg hm hv ⟨v, H, I, r, h⟩ hn hd

variable {a b : Expr} {ta tb : TE} {pos : Pos}
variable {tA tB' : TT} {rest : List Expr}
def tAnd (t u : TT) : TT := fun σ H Q => t σ H fun c H1 => if c = true then u σ H1 Q else Q false H1
def tOr (t u : TT) : TT := fun σ H Q => t σ H fun c H1 => if c = true then Q true H1 else u σ H1 Q
def tNot (t : TT) : TT := fun σ H Q => t σ H fun c H1 => Q (!c) H1
theorem pw_and1 (ha : PT X a tA) : PW X (.BoolOp .And [a] pos) tA := by
  intro wh pins s σ H Q I h
  refine isTrue_and (thn (ha pins s σ H Q I h) fun c s1 e => ?_)
  cases c with
  | true => exact isTrue_and_nil e
  | false => exact e
theorem pw_or1 (ha : PT X a tA) : PW X (.BoolOp .Or [a] pos) tA := by
  intro wh pins s σ H Q I h
  refine isTrue_or (thn (ha pins s σ H Q I h) fun c s1 e => ?_)
  cases c with
  | false => exact isTrue_or_nil e
  | true => exact e
theorem pw_and (ha : PT X a tA) (hb : PW X (.BoolOp .And (b :: rest) pos) tB') : PW X (.BoolOp .And (a :: b :: rest) pos) (tAnd tA tB') := by
  intro wh pins s σ H Q I h
  refine isTrue_and (thn (ha pins s σ H _ I h) fun c s1 ⟨H1, I1, q1⟩ => ?_)
  cases c with
  | true => exact hb wh pins s1 σ H1 Q I1 q1
  | false => exact ⟨H1, I1, q1⟩
theorem pw_or (ha : PT X a tA) (hb : PW X (.BoolOp .Or (b :: rest) pos) tB') : PW X (.BoolOp .Or (a :: b :: rest) pos) (tOr tA tB') := by
  intro wh pins s σ H Q I h
  refine isTrue_or (thn (ha pins s σ H _ I h) fun c s1 ⟨H1, I1, q1⟩ => ?_)
  cases c with
  | true => exact ⟨H1, I1, q1⟩
  | false => exact hb wh pins s1 σ H1 Q I1 q1
theorem pt_not (ha : PT X a tA) : PT X (.UnaryOp .Not a pos) (tNot tA) := by
  intro pins s σ H Q I h
  exact isTrue_not (ha pins s σ H (fun c H1 => Q (!c) H1) I h)
def tAndV (ta tb : TE) : TE := fun σ H Q => ta σ H fun x H1 => ∃ c, x = .bl c ∧ if c = true then tb σ H1 Q else Q (.bl false) H1
def tOrV (ta tb : TE) : TE := fun σ H Q => ta σ H fun x H1 => ∃ c, x = .bl c ∧ if c = true then Q (.bl true) H1 else tb σ H1 Q
def tNotV (ta : TE) : TE := fun σ H Q => ta σ H fun x H1 => ∃ c, x = .bl c ∧ Q (.bl (!c)) H1
theorem pe_one {op} {t : TE} (h : PE X a t) : PE X (.BoolOp op [a] pos) t := fun pins s σ H Q I hw => BoolOp_one (h pins s σ H Q I hw)
theorem pe_and (ha : PE X a ta) (hb : PE X (.BoolOp .And (b :: rest) pos) tb) : PE X (.BoolOp .And (a :: b :: rest) pos) (tAndV ta tb) := by
  intro pins s σ H Q I h
  refine BoolOp_and (thn (ha pins s σ H _ I h) fun v s1 ⟨x, H1, I1, r1, q1⟩ => ?_)
  obtain ⟨c, rfl, q1⟩ := q1
  cases r1
  refine wpAny_truthy_bool ?_
  cases c with
  | true => exact hb pins s1 σ H1 Q I1 q1
  | false => exact ⟨.bl false, H1, I1, rfl, q1⟩
theorem pe_or (ha : PE X a ta) (hb : PE X (.BoolOp .Or (b :: rest) pos) tb) : PE X (.BoolOp .Or (a :: b :: rest) pos) (tOrV ta tb) := by
  intro pins s σ H Q I h
  refine BoolOp_or (thn (ha pins s σ H _ I h) fun v s1 ⟨x, H1, I1, r1, q1⟩ => ?_)
  obtain ⟨c, rfl, q1⟩ := q1
  cases r1
  refine wpAny_truthy_bool ?_
  cases c with
  | false => exact hb pins s1 σ H1 Q I1 q1
  | true => exact ⟨.bl true, H1, I1, rfl, q1⟩
theorem pe_not (ha : PE X a ta) : PE X (.UnaryOp .Not a pos) (tNotV ta) := by
  intro pins s σ H Q I h
  refine UnaryOp_ (thn (ha pins s σ H _ I h) fun v s1 ⟨x, H1, I1, r1, q1⟩ => ?_)
  obtain ⟨c, rfl, q1⟩ := q1
  cases r1
  exact not_of (wpAny_truthy_bool ⟨.bl (!c), H1, I1, rfl, q1⟩)
end
end L2

namespace L2
open PySem PySem.Spec PyProof.Rows

def SqL (K : PySem.W.Frag) (H : Hp) (a : Addr) (xs : List V) : Prop :=
  Rd H a (.lst xs) ∨
    ∃ (o : Obj) (its : Array Value) (n : Nat), K.lookup a = some o ∧ o.cls = .type "list" ∧ o.dict = none ∧ o.data = .seq its n ∧ its.size ≤ sizeLine ∧ Vals xs its.toList
def SqT (K : PySem.W.Frag) (H : Hp) (a : Addr) (xs : List V) : Prop :=
  Rd H a (.tup xs) ∨
    ∃ (o : Obj) (its : Array Value) (n : Nat), K.lookup a = some o ∧ o.cls = .type "tuple" ∧ o.data = .seq its n ∧ its.size ≤ sizeLine ∧ Vals xs its.toList
def absV : Value → Option V
  | .none => some .non
  | .bool b => some (.bl b)
  | .int i _ => some (.int i)
  | .str x _ => some (.str x)
  | .bytes b _ => some (.byt b)
  | .float b _ => some (.flt b)
  | .ref a => some (.ref a)
  | .type n => some (.ty n)
  | _ => none
theorem RelV.abs {x : V} {u : Value} (r : RelV x u) : absV u = some x := by
  cases x with
  | non => cases r; rfl
  | bl _ => cases r; rfl
  | int _ => obtain ⟨t, rfl⟩ := r; rfl
  | str _ => obtain ⟨t, rfl⟩ := r; rfl
  | byt _ => obtain ⟨t, rfl⟩ := r; rfl
  | flt _ => obtain ⟨t, rfl⟩ := r; rfl
  | ref _ => cases r; rfl
  | ty _ => cases r; rfl
theorem RelV.inj {x y : V} {u : Value} (r : RelV x u) (q : RelV y u) : x = y := Option.some.inj (r.abs.symm.trans q.abs)
theorem Vals.inj : ∀ {xs ys : List V} {us : List Value}, Vals xs us → Vals ys us → xs = ys
  | _, _, _, .nil, .nil => rfl
  | _, _, _, .cons r t, .cons r' t' => by rw [r.inj r', Vals.inj t t']
section
variable {X : Cx} {pins : List (Addr × Obj)} {σ : St} {H : Hp} {s : Shared} {a : Addr} {xs ys : List V}
theorem SqL.of {K : PySem.W.Frag} (h : H a = some (.lst xs)) : SqL K H a xs := .inl (.inl h)
theorem SqT.of {K : PySem.W.Frag} (h : H a = some (.tup xs)) : SqT K H a xs := .inl (.inl h)
theorem Inv.list (I : Inv X pins σ H s) (h : SqL X.K H a xs) : ∃ its : List Value, Vals xs its ∧ PlainL s.heap a its.toArray ∧ xs.length ≤ sizeLine := by
  rcases h with h | ⟨o, its, n, hk, hc, hd, hs, hz, r⟩
  · obtain ⟨z, its, n, r, e⟩ := h.ok I.hok
    exact ⟨its, r, ⟨_, n, e, rfl, rfl, rfl⟩, z⟩
  · refine ⟨its.toList, r, ⟨o, n, I.kIn a o hk, hc, hd, by simpa using hs⟩, ?_⟩
    have e := r.length
    simp only [Array.length_toList] at e
    omega
theorem Inv.tuple (I : Inv X pins σ H s) (h : SqT X.K H a xs) : ∃ its : List Value, Vals xs its ∧ IsTup s.heap a its.toArray ∧ xs.length ≤ sizeLine := by
  rcases h with h | ⟨o, its, n, hk, hc, hs, hz, r⟩
  · obtain ⟨z, its, r, p⟩ := h.ok I.hok
    exact ⟨its, r, p, z⟩
  · refine ⟨its.toList, r, ⟨o, I.kIn a o hk, hc, n, by simpa using hs⟩, ?_⟩
    have e := r.length
    simp only [Array.length_toList] at e
    omega
theorem Inv.list_inj (I : Inv X pins σ H s) (h : SqL X.K H a xs) (h' : SqL X.K H a ys) : xs = ys := by
  obtain ⟨its, r, ⟨o, n, e, _, _, d⟩, _⟩ := I.list h
  obtain ⟨its', r', ⟨o', n', e', _, _, d'⟩, _⟩ := I.list h'
  rw [e] at e'; cases e'
  rw [d] at d'
  injection d' with d1 _
  have : its = its' := by simpa using congrArg Array.toList d1
  subst this
  exact r.inj r'
theorem Inv.tuple_inj (I : Inv X pins σ H s) (h : SqT X.K H a xs) (h' : SqT X.K H a ys) : xs = ys := by
  obtain ⟨its, r, ⟨o, e, _, n, d⟩, _⟩ := I.tuple h
  obtain ⟨its', r', ⟨o', e', _, n', d'⟩, _⟩ := I.tuple h'
  rw [e] at e'; cases e'
  rw [d] at d'
  injection d' with d1 _
  have : its = its' := by simpa using congrArg Array.toList d1
  subst this
  exact r.inj r'
end

abbrev Cx.wish (X : Cx) (E : Value → Shared → Prop) : Cx := { X with xe := E }
abbrev Cx.nox (X : Cx) : Cx := X.wish fun _ _ => False
theorem Cx.Ok.wish {X : Cx} (ok : X.Ok) (E : Value → Shared → Prop) : (X.wish E).Ok :=
  ⟨ok.mod, ok.kind, ok.glob, ok.blt, ok.above, ok.inj, ok.has, ok.cab, ok.hd, ok.frames, ok.stk, ok.exf, ok.bs, ok.bsz, ok.noex, ok.exfs, ok.funs, ok.frf⟩
theorem Cx.Ok.unwish {X : Cx} {E : Value → Shared → Prop} (ok : (X.wish E).Ok) : X.Ok :=
  ⟨ok.mod, ok.kind, ok.glob, ok.blt, ok.above, ok.inj, ok.has, ok.cab, ok.hd, ok.frames, ok.stk, ok.exf, ok.bs, ok.bsz, ok.noex, ok.exfs, ok.funs, ok.frf⟩
section
variable {X : Cx} {pins : List (Addr × Obj)} {σ : St} {H : Hp} {s : Shared} {E : Value → Shared → Prop}
theorem Inv.wish (I : Inv X pins σ H s) (E : Value → Shared → Prop) : Inv (X.wish E) pins σ H s := ⟨I.ok.wish E, I.os, I.bare, I.base, I.loc, I.cell, I.free, I.freeC, I.pin, I.hok, I.len⟩
theorem Inv.unwish (I : Inv (X.wish E) pins σ H s) : Inv X pins σ H s := ⟨I.ok.unwish, I.os, I.bare, I.base, I.loc, I.cell, I.free, I.freeC, I.pin, I.hok, I.len⟩
theorem SP.unwish {D : Ends} {f : Flow} {s' : Shared} (h : SP (X.wish E) pins D f s') : SP X pins D f s' := by
  cases f with
  | next => obtain ⟨σ', H', I, q⟩ := h; exact ⟨σ', H', I.unwish, q⟩
  | brk => obtain ⟨σ', H', I, q⟩ := h; exact ⟨σ', H', I.unwish, q⟩
  | cont => obtain ⟨σ', H', I, q⟩ := h; exact ⟨σ', H', I.unwish, q⟩
  | ret u => obtain ⟨v, σ', H', I, r, q⟩ := h; exact ⟨v, σ', H', I.unwish, r, q⟩
theorem PE.nox {e : Expr} {t : TE} (h : PE X.nox e t) : PE X e t := fun pins s σ H Q I hw =>
  wpAny_mono (h pins s σ H Q (I.wish _) hw) (fun _ _ ⟨v, H', I', r, q⟩ => ⟨v, H', I'.unwish, r, q⟩) fun _ _ z => False.elim z
theorem PT.nox {e : Expr} {t : TT} (h : PT X.nox e t) : PT X e t := fun pins s σ H Q I hw =>
  wpAny_mono (h pins s σ H Q (I.wish _) hw) (fun _ _ ⟨H', I', q⟩ => ⟨H', I'.unwish, q⟩) fun _ _ z => False.elim z
theorem PSs.nox {st : List Stmt} {t : TS} (h : PSs X.nox st t) : PSs X st t := fun pins s σ H D I hw =>
  wpAny_mono (h pins s σ H D (I.wish _) hw) (fun _ _ q => q.unwish) fun _ _ z => False.elim z
end

section
variable {X : Cx} {st : Stmt} {rest : List Stmt} {t u : TS} {e : Expr} {te : TE} {pos : Pos}
def tNext : TS := fun D σ H => D.nx σ H
def tSeq (t u : TS) : TS := fun D σ H => t { D with nx := u D } σ H
theorem pss_nil : PSs X [] tNext := fun _ _ σ H _ I h => wpAny_execs_nil ⟨σ, H, I, h⟩
theorem pss_cons (h1 : PS X st t) (h2 : PSs X rest u) : PSs X (st :: rest) (tSeq t u) := by
  intro pins s σ H D I h
  refine wpAny_execs_cons (thn (h1 pins s σ H { D with nx := u D } I h) fun f s1 q => ?_)
  cases f with
  | next =>
    obtain ⟨σ', H', I', q⟩ := q
    exact h2 pins s1 σ' H' D I' q
  | ret v => exact q
  | brk => exact q
  | cont => exact q
theorem pss_one (h1 : PS X st t) : PSs X [st] t := by
  intro pins s σ H D I h
  refine wpAny_execs_cons (thn (h1 pins s σ H D I h) fun f s1 q => ?_)
  cases f with
  | next => exact wpAny_execs_nil q
  | ret v => exact q
  | brk => exact q
  | cont => exact q
theorem Inv.quiet {pins : List (Addr × Obj)} {σ : St} {H : Hp} {s : Shared} (I : Inv X pins σ H s) : interactive X.env = false := by simp [interactive, I.ok.kind]
def tDrop (te : TE) : TS := fun D σ H => te σ H fun _ H1 => D.nx σ H1
theorem ps_expr (he : PE X e te) (hs : swapsWith e none pos.line X.env = pure false := by rfl) : PS X (.Expr e pos) (tDrop te) := by
  intro pins s σ H D I h
  exact wpAny_Expr_any (thn (he pins s σ H _ I h) fun v s1 ⟨x, H1, I1, r1, q1⟩ => ⟨σ, H1, I1, q1⟩) I.quiet hs
def tRet (te : TE) : TS := fun D σ H => te σ H D.rt
theorem ps_ret (he : PE X e te) : PS X (.Return (some e) pos) (tRet te) := by
  intro pins s σ H D I h
  exact wpAny_Return_some (thn (he pins s σ H _ I h) fun v s1 ⟨x, H1, I1, r1, q1⟩ => ⟨x, σ, H1, I1, r1, q1⟩)
def tIfS (c : TT) (t u : TS) : TS := fun D σ H => c σ H fun b H1 => if b = true then t D σ H1 else u D σ H1
theorem ps_if {c : Expr} {a b : List Stmt} {tc : TT} (hc : PT X c tc) (ha : PSs X a t) (hb : PSs X b u) : PS X (.If c a b pos) (tIfS tc t u) := by
  intro pins s σ H D I h
  refine wpAny_If (thn (hc pins s σ H _ I h) fun d s1 ⟨H1, I1, q1⟩ => ?_)
  cases d with
  | true => exact ha pins s1 σ H1 D I1 q1
  | false => exact hb pins s1 σ H1 D I1 q1
def tNever : TS := fun _ _ _ => False
theorem pss_never {sts : List Stmt} : PSs X sts tNever := fun _ _ _ _ _ _ h => h.elim
end

abbrev TG := V → St → Hp → (St → Hp → Prop) → Prop
abbrev TGs := List V → St → Hp → (St → Hp → Prop) → Prop
def PG (X : Cx) (target : Expr) (t : TG) : Prop :=
  ∀ (pins : List (Addr × Obj)) (s : Shared) (σ : St) (H : Hp) (v : V) (u : Value) (Q : St → Hp → Prop), Inv X pins σ H s → RelV v u → t v σ H Q →
    wpAny (model X.prog X.w) X.A (assign target X.env u) (fun _ s' => ∃ σ' H', Inv X pins σ' H' s' ∧ Q σ' H') X.xe s
def PGs (X : Cx) (ts : List Expr) (t : TGs) : Prop :=
  ∀ (pins : List (Addr × Obj)) (s : Shared) (σ : St) (H : Hp) (vs : List V) (us : List Value) (Q : St → Hp → Prop), Inv X pins σ H s → Vals vs us → t vs σ H Q →
    wpAny (model X.prog X.w) X.A (assignInOrder ((assignEach ts X.env).map (·.2)) us) (fun _ s' => ∃ σ' H', Inv X pins σ' H' s' ∧ Q σ' H') X.xe s
abbrev TSet := V → V → V → Hp → (Hp → Prop) → Prop
def PSet (X : Cx) (t : TSet) : Prop :=
  ∀ (pins : List (Addr × Obj)) (s : Shared) (σ : St) (H : Hp) (o i v : V) (ov iv u : Value) (Q : Hp → Prop), Inv X pins σ H s → RelV o ov → RelV i iv → RelV v u → t o i v H Q →
    wpAny (model X.prog X.w) X.A (setItem ov iv u) (fun _ s' => ∃ H', Inv X pins σ H' s' ∧ Q H') X.xe s
section
variable {X : Cx} {pos : Pos}
def gName (i : Nat) : TG := fun v σ H Q => Q (σ.set i (some v)) H
theorem pg_name {i : Nat} {x : Str} (hN : X.N.Nodup) (hi : X.N[i]? = some x) (hx : Loc X.env.scope x) (hf : X.fn x = true ∨ X.env.scope.names.lookup x = some .local := by first | exact .inl rfl | exact .inr rfl | assumption) : PG X (.Name x pos) (gName i) := by
  intro pins s σ H v u Q I r h
  exact wpAny_assign_Name (store_ok I hN hi hx r (fun s' I' => ⟨_, H, I', h⟩) hf)
def gNil : TGs := fun vs σ H Q => vs = [] ∧ Q σ H
def gCons (t : TG) (u : TGs) : TGs := fun vs σ H Q => ∃ v r, vs = v :: r ∧ t v σ H fun σ' H' => u r σ' H' Q
theorem pgs_nil : PGs X [] gNil := by
  intro pins s σ H vs us Q I r h
  obtain ⟨e, h⟩ := h
  subst e
  cases r
  exact assignInOrder_nil ⟨σ, H, I, h⟩
theorem pgs_cons {e : Expr} {es : List Expr} {t : TG} {u : TGs} (h1 : PG X e t) (h2 : PGs X es u)
    (hs : (assignEach (e :: es) X.env).map (·.2) = assign e X.env :: (assignEach es X.env).map (·.2) := by rfl) : PGs X (e :: es) (gCons t u) := by
  intro pins s σ H vs us Q I r h
  obtain ⟨v, vr, e1, h⟩ := h
  subst e1
  cases r with
  | cons r rr =>
    rw [hs]
    refine assignInOrder_cons (thn (h1 pins s σ H _ _ _ I r h) fun _ s1 ⟨σ1, H1, I1, q1⟩ => ?_)
    exact h2 pins s1 σ1 H1 _ _ Q I1 rr q1
def gTup (K : PySem.W.Frag) (n : Nat) (t : TGs) : TG := fun v σ H Q => ∃ a xs, v = .ref a ∧ SqT K H a xs ∧ xs.length = n ∧ t xs σ H Q
theorem pg_tup {es : List Expr} {k : Nat} {t : TGs} {n : Nat} (hc : X.calm = true) (h : PGs X es t)
    (hn : (assignEach es X.env).length = n := by rfl) (hst : (assignEach es X.env).findIdx? (·.1) = none := by rfl) : PG X (.Tuple es k pos) (gTup X.K n t) := by
  intro pins s σ H v u Q I r hw
  obtain ⟨a, xs, e1, hq, hl, hw⟩ := hw
  subst e1
  cases r
  obtain ⟨its, rv, ht, hz⟩ := I.tuple hq
  refine assign_Tuple_tuple (I.ok.hd hc) ht (by simp [hn, ← hl, rv.length]) hst fun h' hx => ?_
  have I1 : Inv X pins σ H { s with heap := h' } := I.kept (t' := s.toks) fun b o e => hx b o (Nat.ne_of_lt (Heap.lt_size e)) e
  exact h pins _ σ H xs _ Q I1 (by simpa using rv) hw
def gSub (to ti : TE) (t : TSet) : TG := fun v σ H Q => to σ H fun o H1 => ti σ H1 fun i H2 => t o i v H2 fun H3 => Q σ H3
theorem pg_sub {o i : Expr} {to ti : TE} {t : TSet} (ho : PE X o to) (hi : PE X i ti) (hs : PSet X t)
    (ha : ∀ v, assign (.Subscript o i pos) X.env v = (do
      let ov ← holding [v] (eval o X.env)
      let iv ← holding [v, ov] (eval i X.env)
      standAt pos
      holding [v, ov, iv] (setItem ov iv v)
      release [v, ov, iv] []) := by intro _; rfl) : PG X (.Subscript o i pos) (gSub to ti t) := by
  intro pins s σ H v u Q I r h
  rw [ha]
  refine wpAny_bind (wpAny_holding (thn (ho pins s σ H _ I h) fun ov s1 ⟨x, H1, I1, r1, q1⟩ => ?_))
  refine wpAny_bind (wpAny_holding (thn (hi pins s1 σ H1 _ I1 q1) fun iv s2 ⟨y, H2, I2, r2, q2⟩ => ?_))
  refine wpAny_bind (wpAny_standAt (wpAny_bind (wpAny_holding (thn (hs pins s2 σ H2 x y v ov iv u _ I2 r1 r2 r q2) fun _ s3 ⟨H3, I3, q3⟩ => ?_))))
  exact wpAny_release ⟨σ, H3, I3, q3⟩
def tAsg (te : TE) (g : TG) : TS := fun D σ H => te σ H fun x H1 => g x σ H1 D.nx
theorem ps_asg {tg e : Expr} {te : TE} {g : TG} (he : PE X e te) (hg : PG X tg g) (hs : swapsWithSole [tg] e pos.line X.env = pure false := by rfl) (hw : swappedStores [tg] e X.env = pure none := by rfl)
    (h1 : (assignEach [tg] X.env).map (·.2) = [assign tg X.env] := by rfl) : PS X (.Assign [tg] e pos) (tAsg te g) := by
  intro pins s σ H D I h
  refine wpAny_Assign_stores (thn (he pins s σ H _ I h) fun v s1 ⟨x, H1, I1, r1, q1⟩ => ?_) hs hw
  rw [h1]
  exact thn (hg pins s1 σ H1 x v _ I1 r1 q1) fun _ s2 q => q
theorem ps_set {i : Nat} {x : Str} {e : Expr} {te : TE} {pos' : Pos} (hN : X.N.Nodup) (hi : X.N[i]? = some x) (hx : Loc X.env.scope x) (he : PE X e te) (hs : swapsWith e (some (.Name x pos')) pos.line X.env = pure false := by rfl) (hf : X.fn x = true ∨ X.env.scope.names.lookup x = some .local := by first | exact .inl rfl | exact .inr rfl | assumption) :
    PS X (.Assign [.Name x pos'] e pos) (tAsg te (gName i)) := by
  intro pins s σ H D I h
  refine wpAny_Assign_Name (thn (he pins s σ H _ I h) fun v s1 ⟨y, H1, I1, r1, q1⟩ => ?_) hs
  exact store_ok I1 hN hi hx r1 (fun s2 I2 => ⟨_, H1, I2, q1⟩) hf
def tPar (i j : Nat) (ta : TA) : TS := fun D σ H => ta σ H fun vs H1 => ∃ v w, vs = [v, w] ∧ D.nx ((σ.set i (some v)).set j (some w)) H1
theorem ps_par {i j : Nat} {x y : Str} {a b : Expr} {ta : TA} {px py pt : Pos} {kt k2 pt2} (hc : X.calm = true) (hN : X.N.Nodup) (hi : X.N[i]? = some x) (hj : X.N[j]? = some y) (hij : i ≠ j)
    (hx : X.env.scope.names.lookup x = some .local) (hy : X.env.scope.names.lookup y = some .local) (ha : PA X [a, b] ta)
    (hw : swappedStores [.Tuple [.Name x px, .Name y py] kt pt] (.Tuple [a, b] k2 pt2) X.env = pure (some [x, y]))
    (hs : swapsWithSole [.Tuple [.Name x px, .Name y py] kt pt] (.Tuple [a, b] k2 pt2) pos.line X.env = pure false := by rfl) :
    PS X (.Assign [.Tuple [.Name x px, .Name y py] kt pt] (.Tuple [a, b] k2 pt2) pos) (tPar i j ta) := by
  intro pins s σ H D I h
  rw [exec_Assign_arm]
  refine wpAny_bind (wpAny_standAt ?_)
  rw [hs]
  refine wpAny_bind (wpAny_pure ?_)
  rw [if_neg (by decide)]
  refine wpAny_bind (Tuple_ (thn (ha _ pins s σ H _ I h) fun us s1 ⟨vs, H1, I1, r1, q1⟩ => ?_))
  obtain ⟨v, w, e1, q1⟩ := q1
  subst e1
  obtain ⟨u1, u2, rfl, rv, rw'⟩ : ∃ u1 u2, us = [u1, u2] ∧ RelV v u1 ∧ RelV w u2 := by
    cases r1 with
    | cons p q =>
      cases q with
      | cons p' q' =>
        cases q'
        exact ⟨_, _, rfl, p, p'⟩
  refine wpAny_newObj_type ?_ (by show 2 ≤ sizeLine; decide)
  have I2 : Inv X pins σ H1 { s1 with heap := s1.heap.push { cls := .type "tuple", data := .seq [u1, u2].toArray } } := I1.kept (t' := s1.toks) fun b o e => Heap.get?_push_of_some _ e
  rw [hw]
  refine wpAny_bind (wpAny_pure ?_)
  show wpAny (model X.prog X.w) X.A (do rule "assign.swapped-stores"; let items ← unpackItems (.ref s1.heap.objs.size) 2 none; assignInOrder [fun v => bindName X.env y v, fun v => bindName X.env x v] items.reverse; pure Flow.next) _ _ _
  refine wpAny_bind (wpAny_rule (wpAny_bind (unpackItems_tuple (items := #[u1, u2]) (I.ok.hd hc) (IsTup.new s1.heap _) fun h' hx' => ?_)))
  have I3 := I2.kept (h' := h') (t' := s1.toks) fun b o e => hx' b o (Nat.ne_of_lt (Heap.lt_size e)) e
  show wpAny _ _ (assignInOrder [fun v => bindName X.env y v, fun v => bindName X.env x v] [u2, u1] >>= fun _ => pure Flow.next) _ _ _
  refine wpAny_bind (assignInOrder_cons (wpAny_bindName (store_ok I3 hN hj (.inl hy) rw' (fun s2 I4 => ?_) (.inr hy))))
  refine assignInOrder_cons (wpAny_bindName (store_ok I4 hN hi (.inl hx) rv (fun s3 I5 => assignInOrder_nil (wpAny_pure ?_)) (.inr hx)))
  rw [List.set_comm _ _ (Ne.symm hij)] at I5
  exact ⟨_, H1, I5, q1⟩
end

section
variable {X : Cx} {pos : Pos}
def tWhile (c : TT) (tb : TS) : TS := fun D σ H => ∃ W : Nat → St → Hp → Prop, (∃ m, W m σ H) ∧ ∀ m σ H, W m σ H →
  c σ H fun b H1 => if b = true then ∃ N : St → Hp → Prop, (∀ σ' H', N σ' H' → ∃ m', m' < m ∧ W m' σ' H') ∧ tb { D with nx := N, ct := N, bk := D.nx } σ H1 else D.nx σ H1
theorem ps_while {c : Expr} {body : List Stmt} {tc : TT} {tb : TS} (hp : PassesOwn (model X.prog X.w) X.A X.env X.xe) (hc : PT X c tc) (hb : PSs X body tb) : PS X (.While c body [] pos) (tWhile tc tb) := by
  intro pins s σ H D I h
  obtain ⟨W, ⟨m0, w0⟩, turn⟩ := h
  refine wpAny_While (codeAny_whileLoop (fun n s' => ∃ σ' H', Inv X pins σ' H' s' ∧ W n σ' H') ?_ m0 ⟨σ, H, I, w0⟩)
  rintro n s1 ⟨σ1, H1, I1, w1⟩
  refine wpAny_passesOwn hp (thn (hc pins s1 σ1 H1 _ I1 (turn n σ1 H1 w1)) fun b s2 ⟨H2, I2, q2⟩ => ?_)
  cases b with
  | true =>
    obtain ⟨N, hN, q2⟩ := q2
    rw [if_pos rfl]
    refine wpAny_passesOwn hp (thn (hb pins s2 σ1 H2 _ I2 q2) fun f s3 q3 => ?_)
    cases f with
    | next =>
      obtain ⟨σ3, H3, I3, n3⟩ := q3
      obtain ⟨m', hm, w3⟩ := hN σ3 H3 n3
      exact ⟨m', hm, σ3, H3, I3, w3⟩
    | cont =>
      obtain ⟨σ3, H3, I3, n3⟩ := q3
      obtain ⟨m', hm, w3⟩ := hN σ3 H3 n3
      exact ⟨m', hm, σ3, H3, I3, w3⟩
    | brk => exact q3
    | ret v => exact q3
  | false =>
    rw [if_neg Bool.false_ne_true]
    exact wpAny_execs_nil ⟨σ1, H2, I2, q2⟩
end

structure It where
  go : Nat → Hp → Prop
  yld : Nat → Hp → V → Hp → Prop
  stop : Nat → Hp → Prop
def FpOk (X : Cx) (pins : List (Addr × Obj)) (H : Hp) (b : Addr) : Prop :=
  H b = none ∧ b ≠ X.env.locals ∧ b ∉ X.fs ∧ (b ∈ X.ex ∨ X.s₀.heap.objs.size ≤ b) ∧ (∀ x c, X.env.cells.lookup x = some c → c ≠ b) ∧ ∀ p ∈ X.pn ++ pins, p.1 ≠ b
theorem Inv.fpOk {X : Cx} {pins : List (Addr × Obj)} {σ : St} {H H' : Hp} {s : Shared} {b : Addr} (I : Inv X pins σ H s) (hb : s.heap.objs.size ≤ b) (hn : H' b = none) : FpOk X pins H' b := by
  refine ⟨hn, Nat.ne_of_gt (Nat.lt_of_lt_of_le I.lt hb), I.nofs hb, .inr (Nat.le_trans I.sz hb), fun x c e z => ?_, fun p hp z => ?_⟩
  · obtain ⟨v, q⟩ := I.cell x c e
    exact absurd (Nat.lt_of_lt_of_le q.lt (by rw [z]; exact hb)) (Nat.lt_irrefl _)
  · exact absurd (Nat.lt_of_lt_of_le (Heap.lt_size (I.pin p hp).1) (by rw [z]; exact hb)) (Nat.lt_irrefl _)
structure Turn (P : Program) (w : World) (K : PySem.W.Frag) (tg : Expr) (J : It) (fp : List Addr) (it : Addr) (tn : Nat → Heap → Prop) : Prop where
  mem : it ∈ fp
  obj : ∀ i h, tn i h → ∀ b ∈ fp, ∃ o, h.get? b = some o ∧ ∀ v, o.data ≠ .cell v
  keep : ∀ i h h', tn i h → (∀ b ∈ fp, ∀ o, h.get? b = some o → h'.get? b = some o) → tn i h'
  item : ∀ (X : Cx), X.prog = P → X.w = w → X.K = K → X.calm = true → ∀ (i : Nat) (pins : List (Addr × Obj)) (s : Shared) (σ : St) (H : Hp) (E : Value → Shared → Prop), Inv X pins σ H s → (∀ b ∈ fp, FpOk X pins H b) → tn i s.heap → J.go i H →
    wpAny (model P w) X.A (pyNext (.ref it)) (fun r s1 => ∃ u, r = some u ∧
      wpAny (model P w) X.A (letOwnedTupleGo tg (.ref it) u) (fun _ s2 => ∃ x H', Inv X pins σ H' s2 ∧ RelV x u ∧ J.yld i H x H' ∧ tn (i + 1) s2.heap ∧ ∀ b ∈ fp, H' b = none) E s1) E s
  done : ∀ (X : Cx), X.prog = P → X.w = w → X.K = K → X.calm = true → ∀ (i : Nat) (pins : List (Addr × Obj)) (s : Shared) (σ : St) (H : Hp) (E : Value → Shared → Prop), Inv X pins σ H s → (∀ b ∈ fp, FpOk X pins H b) → tn i s.heap → J.stop i H →
    wpAny (model P w) X.A (pyNext (.ref it)) (fun r s1 => r = none ∧ Inv X pins σ H s1) E s
  self : ∀ (A : Around) (i : Nat) (s : Shared) (Q : Value → Shared → Prop) (E : Value → Shared → Prop), tn i s.heap → Q (.ref it) s → wpAny (model P w) A (pyIter (.ref it)) Q E s
abbrev TI := St → Hp → (It → Hp → Prop) → Prop
def PIE (X : Cx) (pins : List (Addr × Obj)) (σ : St) (tg : Expr) (R : It → Hp → Prop) (itv : Value) (s2 : Shared) : Prop :=
  ∃ (it : Addr) (fp : List Addr) (tn : Nat → Heap → Prop) (J : It) (H' : Hp), itv = .ref it ∧ Inv X pins σ H' s2 ∧ Turn X.prog X.w X.K tg J fp it tn ∧ tn 0 s2.heap ∧ (∀ b ∈ fp, FpOk X pins H' b) ∧ R J H'
def PI (X : Cx) (tg iter : Expr) (wi : TI) : Prop :=
  ∀ (pins : List (Addr × Obj)) (s : Shared) (σ : St) (H : Hp) (R : It → Hp → Prop), Inv X pins σ H s → wi σ H R →
    wpAny (model X.prog X.w) X.A (eval iter X.env) (fun v s1 => wpAny (model X.prog X.w) X.A (pyIter v) (PIE X pins σ tg R) X.xe s1) X.xe s

theorem go_of {M : Model} {A : Around} {E : Value → Shared → Prop} {s : Shared} {tg : Expr} {it : Addr} {u : Value} {o : Obj} {n : String} {vs : Array Value} {Q : Unit → Shared → Prop} (ho : s.heap.get? it = some o) (hc : o.cls = .type n) (hd : o.data = .fields vs)
    (hn : ["enumerate", "zip", "dict_itemiterator", "dict_reverseitemiterator", "odict_iterator", "itertools.zip_longest", "itertools.pairwise"].contains n = false) (hQ : Q () s) : wpAny M A (letOwnedTupleGo tg (.ref it) u) Q E s := by
  unfold letOwnedTupleGo
  cases tg <;> first
    | exact wpAny_pure hQ
    | (cases u <;> first
        | exact wpAny_pure hQ
        | (refine wpAny_bind (wpAny_load ho ?_)
           rw [hc, hd]
           show wpAny M A (if (["enumerate", "zip", "dict_itemiterator", "dict_reverseitemiterator", "odict_iterator", "itertools.zip_longest", "itertools.pairwise"].contains n && vs[0]? == some (rawInt _)) = true then _ else _) Q E s
           rw [if_neg (by intro h; rw [hn, Bool.false_and] at h; cases h)]
           exact wpAny_pure hQ))

def Itl (K : PySem.W.Frag) (a : Addr) : It :=
  ⟨fun i H => ∃ xs x, SqL K H a xs ∧ xs[i]? = some x, fun i H x H' => H' = H ∧ ∀ xs, SqL K H a xs → xs[i]? = some x, fun i H => ∃ xs, SqL K H a xs ∧ xs.length ≤ i⟩
def Itt (K : PySem.W.Frag) (a : Addr) : It :=
  ⟨fun i H => ∃ xs x, SqT K H a xs ∧ xs[i]? = some x, fun i H x H' => H' = H ∧ ∀ xs, SqT K H a xs → xs[i]? = some x, fun i H => ∃ xs, SqT K H a xs ∧ xs.length ≤ i⟩
def Itr (lo : Int) (n : Nat) : It := ⟨fun i _ => i < n, fun i H x H' => H' = H ∧ x = .int (lo + i), fun i _ => n ≤ i⟩
theorem turn_list {P : Program} {w : World} {K : PySem.W.Frag} {tg : Expr} (a it : Addr) : Turn P w K tg (Itl K a) [it] it (fun i h => h.IsListIter it a i) where
  mem := by simp
  obj := fun i h st b hb => by
    have e : b = it := by simpa using hb
    subst e
    obtain ⟨o, e, c, d⟩ := st
    exact ⟨o, e, fun v z => by rw [d] at z; cases z⟩
  keep := fun i h h' st k => st.at fun o e => k it (by simp) o e
  item := by
    intro X hP hw hK hc i pins s σ H E I hf st hg
    subst hP hw hK
    obtain ⟨xs, x, hq, hx⟩ := hg
    obtain ⟨its, rv, p, hz⟩ := I.list hq
    obtain ⟨u, hu, ru⟩ := rv.get hx
    obtain ⟨f0, f1, f2, f3, f4, f5⟩ := hf it (by simp)
    refine wpAny_pyNext_list_item st p.isList (x := u) (by simpa using hu) fun h' st' sb => ?_
    have I1 : Inv X pins σ H { s with heap := h' } := I.turned (t' := s.toks) (fun b o hb e => (sb.2 b hb).trans e) f0 f1 f3 f4 f5
    obtain ⟨o, e, c, d⟩ := id st'
    exact ⟨u, rfl, go_of (s := { s with heap := h' }) e c d (by decide) ⟨x, H, I1, ru, ⟨rfl, fun ys hy => by rw [I.list_inj hy hq]; exact hx⟩, st', fun b hb => (hf b hb).1⟩⟩
  done := by
    intro X hP hw hK hc i pins s σ H E I hf st hg
    subst hP hw hK
    obtain ⟨xs, hq, hx⟩ := hg
    obtain ⟨its, rv, p, hz⟩ := I.list hq
    obtain ⟨f0, f1, f2, f3, f4, f5⟩ := hf it (by simp)
    have hl := rv.length
    exact wpAny_pyNext_list_end (I.ok.hd hc) st p.isList (by simp; omega) fun h' eb => ⟨rfl, I.turned (t' := s.toks) (fun b o hb e => eb b o hb e) f0 f1 f3 f4 f5⟩
  self := fun _ _ _ _ _ st h => wpAny_pyIter_listiter st h
theorem turn_tuple {P : Program} {w : World} {K : PySem.W.Frag} {tg : Expr} (a it : Addr) : Turn P w K tg (Itt K a) [it] it (fun i h => h.IsTupleIter it a i) where
  mem := by simp
  obj := fun i h st b hb => by
    have e : b = it := by simpa using hb
    subst e
    obtain ⟨o, e, c, d⟩ := st
    exact ⟨o, e, fun v z => by rw [d] at z; cases z⟩
  keep := fun i h h' st k => st.at fun o e => k it (by simp) o e
  item := by
    intro X hP hw hK hc i pins s σ H E I hf st hg
    subst hP hw hK
    obtain ⟨xs, x, hq, hx⟩ := hg
    obtain ⟨its, rv, p, hz⟩ := I.tuple hq
    obtain ⟨u, hu, ru⟩ := rv.get hx
    obtain ⟨f0, f1, f2, f3, f4, f5⟩ := hf it (by simp)
    refine wpAny_pyNext_tuple_item st (show s.heap.IsTuple a its.toArray from p) (x := u) (by simpa using hu) fun h' st' sb => ?_
    have I1 : Inv X pins σ H { s with heap := h' } := I.turned (t' := s.toks) (fun b o hb e => (sb.2 b hb).trans e) f0 f1 f3 f4 f5
    obtain ⟨o, e, c, d⟩ := id st'
    exact ⟨u, rfl, go_of (s := { s with heap := h' }) e c d (by decide) ⟨x, H, I1, ru, ⟨rfl, fun ys hy => by rw [I.tuple_inj hy hq]; exact hx⟩, st', fun b hb => (hf b hb).1⟩⟩
  done := by
    intro X hP hw hK hc i pins s σ H E I hf st hg
    subst hP hw hK
    obtain ⟨xs, hq, hx⟩ := hg
    obtain ⟨its, rv, p, hz⟩ := I.tuple hq
    obtain ⟨f0, f1, f2, f3, f4, f5⟩ := hf it (by simp)
    have hl := rv.length
    exact wpAny_pyNext_tuple_end (I.ok.hd hc) st (show s.heap.IsTuple a its.toArray from p) (by simp; omega) fun h' eb => ⟨rfl, I.turned (t' := s.toks) (fun b o hb e => eb b o hb e) f0 f1 f3 f4 f5⟩
  self := fun _ _ _ _ _ st h => wpAny_pyIter_tupleiter st h
theorem turn_range {P : Program} {w : World} {K : PySem.W.Frag} {tg : Expr} (it : Addr) (lo : Int) (n : Nat) : Turn P w K tg (Itr lo n) [it] it (fun i h => IsRangeIter h it (lo + (i : Nat) * 1) ((n : Int) - (i : Nat)) 1) where
  mem := by simp
  obj := fun i h st b hb => by
    have e : b = it := by simpa using hb
    subst e
    exact ⟨_, st, fun v z => by
      have z' : Data.fields _ = Data.cell v := z
      cases z'⟩
  keep := fun i h h' st k => k it (by simp) _ st
  item := by
    intro X hP hw hK hc i pins s σ H E I hf st hg
    subst hP hw hK
    obtain ⟨f0, f1, f2, f3, f4, f5⟩ := hf it (by simp)
    have W := Walks.range (prog := X.prog) (w := X.w) (I.ok.hd hc) it lo 1 n
    refine W.item i s _ _ hg st fun v h' tk hv st' kk => ?_
    obtain ⟨t, rfl⟩ := hv
    have I1 : Inv X pins σ H { s with heap := h', toks := tk } := I.turned (fun b o hb e => kk b o (by simpa using hb) e) f0 f1 f3 f4 f5
    refine ⟨_, rfl, go_of (s := { s with heap := h', toks := tk }) (n := "range_iterator") st' rfl rfl (by decide) ⟨.int (lo + i), H, I1, ⟨t, ?_⟩, ⟨rfl, rfl⟩, st', fun b hb => (hf b hb).1⟩⟩
    rw [Int.mul_one]
  done := by
    intro X hP hw hK hc i pins s σ H E I hf st hg
    subst hP hw hK
    obtain ⟨f0, f1, f2, f3, f4, f5⟩ := hf it (by simp)
    exact wpAny_pyNext_range_end (I.ok.hd hc) st (by have : n ≤ i := hg; omega) fun h' eb => ⟨rfl, I.turned (t' := s.toks) (fun b o hb e => eb b o hb e) f0 f1 f3 f4 f5⟩
  self := fun _ _ _ _ _ st h => wpAny_pyIter_rangeiter st h
end L2

namespace L2
open PySem PySem.Spec PyProof.Rows
section
variable {X : Cx} {tg : Expr}
def iList (K : PySem.W.Frag) (tl : TE) : TI := fun σ H R => tl σ H fun x H1 => ∃ a, x = .ref a ∧ (∃ xs, SqL K H1 a xs) ∧ R (Itl K a) H1
def iTup (K : PySem.W.Frag) (tl : TE) : TI := fun σ H R => tl σ H fun x H1 => ∃ a, x = .ref a ∧ (∃ xs, SqT K H1 a xs) ∧ R (Itt K a) H1
theorem pi_list {l : Expr} {tl : TE} (hl : PE X l tl) : PI X tg l (iList X.K tl) := by
  intro pins s σ H R I h
  refine thn (hl pins s σ H _ I h) fun v s1 ⟨x, H1, I1, r1, q1⟩ => ?_
  obtain ⟨a, e, ⟨xs, hq⟩, q⟩ := q1
  subst e
  cases r1
  obtain ⟨its, rv, p, hz⟩ := I1.list hq
  refine wpAny_pyIter_list p.isList ?_
  refine ⟨s1.heap.objs.size, [s1.heap.objs.size], _, _, H1, rfl, I1.kept (t' := s1.toks) fun b o e => Heap.get?_push_of_some _ e, turn_list a _, ⟨_, Heap.get?_push_size _ rfl, rfl, rfl⟩, fun b hb => ?_, q⟩
  have e : b = s1.heap.objs.size := by simpa using hb
  subst e
  exact I1.fpOk (Nat.le_refl _) (I1.hok.fresh (Nat.le_refl _))
theorem pi_tup {l : Expr} {tl : TE} (hl : PE X l tl) : PI X tg l (iTup X.K tl) := by
  intro pins s σ H R I h
  refine thn (hl pins s σ H _ I h) fun v s1 ⟨x, H1, I1, r1, q1⟩ => ?_
  obtain ⟨a, e, ⟨xs, hq⟩, q⟩ := q1
  subst e
  cases r1
  obtain ⟨its, rv, p, hz⟩ := I1.tuple hq
  refine wpAny_pyIter_tuple (show s1.heap.IsTuple a its.toArray from p) ?_
  refine ⟨s1.heap.objs.size, [s1.heap.objs.size], _, _, H1, rfl, I1.kept (t' := s1.toks) fun b o e => Heap.get?_push_of_some _ e, turn_tuple a _, ⟨_, Heap.get?_push_size _ rfl, rfl, rfl⟩, fun b hb => ?_, q⟩
  have e : b = s1.heap.objs.size := by simpa using hb
  subst e
  exact I1.fpOk (Nat.le_refl _) (I1.hok.fresh (Nat.le_refl _))
theorem range_it {pins : List (Addr × Obj)} {σ : St} {H : Hp} {s : Shared} {R : It → Hp → Prop} {E : Value → Shared → Prop} {lo hi : Int} {t u v : Tok} {tk : Nat} (I : Inv X pins σ H s) (h1 : -(2 ^ 62) ≤ lo) (h2 : lo < 2 ^ 62) (h3 : -(2 ^ 62) ≤ hi) (h4 : hi < 2 ^ 62)
    (q : R (Itr lo (hi - lo).toNat) H) : wpAny (model X.prog X.w) X.A (pyIter (.ref s.heap.objs.size)) (PIE X pins σ tg R) E { s with heap := s.heap.push { cls := .type "range", data := .fields #[.int lo t, .int hi u, .int 1 v] }, toks := tk } := by
  refine wpAny_pyIter_range (IsRange.new ..) (small_one h1 h2 h3 h4) ?_
  have I1 : Inv X pins σ H { s with heap := s.heap.push { cls := .type "range", data := .fields #[.int lo t, .int hi u, .int 1 v] }, toks := tk } := I.kept fun b o e => Heap.get?_push_of_some _ e
  refine ⟨(s.heap.push { cls := .type "range", data := .fields #[.int lo t, .int hi u, .int 1 v] }).objs.size, [(s.heap.push { cls := .type "range", data := .fields #[.int lo t, .int hi u, .int 1 v] }).objs.size], _, _, H, rfl,
    I1.kept (t' := tk) fun b o e => Heap.get?_push_of_some _ e, turn_range _ lo (hi - lo).toNat, ?_, fun b hb => ?_, q⟩
  · have e1 : lo + ((0 : Nat) : Int) * 1 = lo := by simp
    have e2 : (((hi - lo).toNat : Nat) : Int) - ((0 : Nat) : Int) = Builtin.Range.rangeSize lo hi 1 := by rw [rangeSize_one]; split <;> omega
    show IsRangeIter _ _ (lo + ((0 : Nat) : Int) * 1) ((((hi - lo).toNat : Nat) : Int) - ((0 : Nat) : Int)) 1
    rw [e1, e2]
    exact Heap.get?_push_size _ rfl
  · have e : b = (s.heap.push { cls := .type "range", data := .fields #[.int lo t, .int hi u, .int 1 v] }).objs.size := by simpa using hb
    subst e
    exact I1.fpOk (Nat.le_refl _) (I1.hok.fresh (Nat.le_refl _))
def iRng1 (ta : TA) : TI := fun σ H R => ta σ H fun vs H1 => ∃ j : Int, vs = [.int j] ∧ -(2 ^ 62) ≤ j ∧ j < 2 ^ 62 ∧ R (Itr 0 j.toNat) H1
def iRng2 (ta : TA) : TI := fun σ H R => ta σ H fun vs H1 => ∃ i j : Int, vs = [.int i, .int j] ∧ (-(2 ^ 62) ≤ i ∧ i < 2 ^ 62 ∧ -(2 ^ 62) ≤ j ∧ j < 2 ^ 62) ∧ R (Itr i (j - i).toNat) H1
theorem pi_range1 {a : Expr} {ta : TA} {p pos : Pos} (hg : Gl X "range") (hm : X.mg "range" = none) (ha : PA X [a] ta) (hs : starEach [a] X.env = [(false, eval a X.env)] := by rfl) : PI X tg (.Call (.Name "range" p) [a] [] pos) (iRng1 ta) := by
  intro pins s σ H R I h
  refine Call_ (ld_blt I hg hm boot_range (PyProof.Rows.callWith_type1 (thn (ha pos pins s σ H _ I h) fun us s1 ⟨vs, H1, I1, r1, q1⟩ => ?_) hs rfl))
  obtain ⟨j, e, q1, q2, q⟩ := q1
  subst e
  cases r1 with
  | cons r rr =>
    cases rr
    obtain ⟨t, rfl⟩ := r
    exact call_range_1 (range_it I1 (by omega) (by omega) q1 q2 (by simpa using q))
theorem pi_range2 {a b : Expr} {ta : TA} {p pos : Pos} (hg : Gl X "range") (hm : X.mg "range" = none) (ha : PA X [a, b] ta) (hs : starEach [a, b] X.env = [(false, eval a X.env), (false, eval b X.env)] := by rfl) (hs2 : starEach [b] X.env = [(false, eval b X.env)] := by rfl) :
    PI X tg (.Call (.Name "range" p) [a, b] [] pos) (iRng2 ta) := by
  intro pins s σ H R I h
  refine Call_ (ld_blt I hg hm boot_range (PyProof.Rows.callWith_type1 (thn (ha pos pins s σ H _ I h) fun us s1 ⟨vs, H1, I1, r1, q1⟩ => ?_) (by rw [hs, hs2]) (by rw [hs2]; rfl)))
  obtain ⟨i, j, e, ⟨q1, q2, q3, q4⟩, q⟩ := q1
  subst e
  cases r1 with
  | cons r rr =>
    cases rr with
    | cons r' rr =>
      cases rr
      obtain ⟨t, rfl⟩ := r
      obtain ⟨t', rfl⟩ := r'
      exact call_range_2 (range_it I1 q1 q2 q3 q4 q)

def tFor (wi : TI) (g : TG) (tb : TS) : TS := fun D σ H => wi σ H fun J H1 => ∃ W : Nat → Nat → St → Hp → Prop, (∃ m, W 0 m σ H1) ∧ ∀ i m σ H, W i m σ H →
  (J.stop i H ∧ D.nx σ H) ∨ (J.go i H ∧ ∃ N : St → Hp → Prop, (∀ σ' H', N σ' H' → ∃ m', m' < m ∧ W (i + 1) m' σ' H') ∧ ∀ x H', J.yld i H x H' → g x σ H' fun σ2 H2 => tb { D with nx := N, ct := N, bk := D.nx } σ2 H2)
def pinsAt (fp : List Addr) (h : Heap) : List (Addr × Obj) := fp.filterMap fun b => (h.get? b).map fun o => (b, o)
theorem mem_pinsAt {fp : List Addr} {h : Heap} {b : Addr} {o : Obj} (hb : b ∈ fp) (e : h.get? b = some o) : (b, o) ∈ pinsAt fp h := List.mem_filterMap.mpr ⟨b, hb, by rw [e]; rfl⟩
theorem of_pinsAt {fp : List Addr} {h : Heap} {p : Addr × Obj} (hp : p ∈ pinsAt fp h) : p.1 ∈ fp ∧ h.get? p.1 = some p.2 := by
  obtain ⟨b, hb, e⟩ := List.mem_filterMap.mp hp
  cases q : h.get? b with
  | none => rw [q] at e; cases e
  | some o =>
    rw [q] at e
    have e' : (b, o) = p := Option.some.inj e
    subst e'
    exact ⟨hb, q⟩
theorem Inv.pinned {pins : List (Addr × Obj)} {σ : St} {H : Hp} {s : Shared} {fp : List Addr} (I : Inv X pins σ H s) (hf : ∀ b ∈ fp, FpOk X pins H b) (ho : ∀ b ∈ fp, ∃ o, s.heap.get? b = some o ∧ ∀ v, o.data ≠ .cell v) : Inv X (pins ++ pinsAt fp s.heap) σ H s :=
  I.pins_of fun p hp => (List.mem_append.mp hp).elim (fun z => I.pin p (List.mem_append_right _ z)) fun z => by
    obtain ⟨hb, e⟩ := of_pinsAt z
    obtain ⟨f0, f1, f2, _⟩ := hf p.1 hb
    obtain ⟨o, e', d⟩ := ho p.1 hb
    rw [e] at e'; cases e'
    exact ⟨e, f0, f1, f2, d⟩
theorem Inv.unpinned {pins pl : List (Addr × Obj)} {σ : St} {H : Hp} {s : Shared} (I : Inv X (pins ++ pl) σ H s) : Inv X pins σ H s := I.pins_of fun p hp => I.pin p (List.mem_append_right _ (List.mem_append_left _ hp))
theorem ps_for {iter : Expr} {body : List Stmt} {wi : TI} {g : TG} {tb : TS} {pos : Pos} (hp : PassesOwn (model X.prog X.w) X.A X.env X.xe) (hc : X.calm = true) (hi : PI X tg iter wi) (hg : PG X tg g) (hb : PSs X body tb)
    (hs : ∀ x, foldedSetIterable iter X.env x = pure x := by intro _; rfl) : PS X (.For tg iter body [] pos) (tFor wi g tb) := by
  intro pins s σ H D I h
  refine wpAny_For (thn (hi pins s σ H _ I h) fun v s1 h1 => thn h1 fun itv s2 h2 => ?_) hs
  obtain ⟨it, fp, tn, J, H2, e, I2, T, st2, f2, W, ⟨m0, w0⟩, turn⟩ := h2
  subst e
  -- what stays true of the iterator's objects through the loop
  have stat : ∀ {H' : Hp}, (∀ b ∈ fp, H' b = none) → ∀ b ∈ fp, FpOk X pins H' b := fun hn b hb => ⟨hn b hb, (f2 b hb).2⟩
  refine codeAny_forLoop_any (fun n s' => ∃ i σ' H', Inv X pins σ' H' s' ∧ tn i s'.heap ∧ (∀ b ∈ fp, H' b = none) ∧ W i n σ' H') ?_ m0 ⟨0, σ, H2, I2, st2, fun b hb => (f2 b hb).1, w0⟩
  rintro n s3 ⟨i, σ3, H3, I3, st3, fr3, w3⟩
  rcases turn i n σ3 H3 w3 with ⟨stop, qn⟩ | ⟨go, N, hN, step⟩
  · refine wpAny_passesOwn hp (thn (T.done X rfl rfl rfl hc i pins s3 σ3 H3 X.xe I3 (stat fr3) st3 stop) fun r s4 ⟨hr, I4⟩ => ?_)
    subst hr
    exact wpAny_execs_nil ⟨σ3, H3, I4, qn⟩
  · refine wpAny_passesOwn hp (thn (T.item X rfl rfl rfl hc i pins s3 σ3 H3 X.xe I3 (stat fr3) st3 go) fun r s4 ⟨u, hr, h4⟩ => ?_)
    subst hr
    refine wpAny_passesOwn hp (thn h4 fun _ s5 ⟨x, H5, I5, r5, y5, st5, fr5⟩ => ?_)
    have I5' := I5.pinned (stat fr5) (T.obj _ _ st5)
    refine wpAny_passesOwn hp (thn (hg _ s5 σ3 H5 x u _ I5' r5 (step x H5 y5)) fun _ s6 ⟨σ6, H6, I6, q6⟩ => ?_)
    refine wpAny_passesOwn hp (thn (hb _ s6 σ6 H6 _ I6 q6) fun f s7 q7 => ?_)
    have again : ∀ {σ7 : St} {H7 : Hp}, Inv X (pins ++ pinsAt fp s5.heap) σ7 H7 s7 → N σ7 H7 → ∃ m, m < n ∧ ∃ i σ' H', Inv X pins σ' H' s7 ∧ tn i s7.heap ∧ (∀ b ∈ fp, H' b = none) ∧ W i m σ' H' := fun {σ7 H7} I7 n7 => by
      obtain ⟨m', hm, w7⟩ := hN σ7 H7 n7
      refine ⟨m', hm, i + 1, σ7, H7, I7.unpinned, T.keep _ _ _ st5 fun b hb o e => (I7.pin (b, o) (List.mem_append_right _ (List.mem_append_right _ (mem_pinsAt hb e)))).1, fun b hb => ?_, w7⟩
      obtain ⟨o, e, d⟩ := T.obj _ _ st5 b hb
      exact (I7.pin (b, o) (List.mem_append_right _ (List.mem_append_right _ (mem_pinsAt hb e)))).2.1
    cases f with
    | next => obtain ⟨σ7, H7, I7, n7⟩ := q7; exact again I7 n7
    | cont => obtain ⟨σ7, H7, I7, n7⟩ := q7; exact again I7 n7
    | brk => obtain ⟨σ7, H7, I7, q7⟩ := q7; exact ⟨σ7, H7, I7.unpinned, q7⟩
    | ret v => obtain ⟨x7, σ7, H7, I7, r7, q7⟩ := q7; exact ⟨x7, σ7, H7, I7.unpinned, r7, q7⟩
end

theorem for_list {K : PySem.W.Frag} {a : Addr} {xs : List V} {g : TG} {tb : TS} {D : Ends} {σ : St} {H : Hp} (Pv : Nat → St → Hp → Prop) (h0 : Pv 0 σ H) (hl : ∀ i σ H, i ≤ xs.length → Pv i σ H → SqL K H a xs)
    (hs : ∀ i x σ H, xs[i]? = some x → Pv i σ H → g x σ H fun σ2 H2 => tb { D with nx := Pv (i + 1), ct := Pv (i + 1), bk := D.nx } σ2 H2) (hd : ∀ σ H, Pv xs.length σ H → D.nx σ H) :
    ∃ W : Nat → Nat → St → Hp → Prop, (∃ m, W 0 m σ H) ∧ ∀ i m σ H, W i m σ H →
      ((Itl K a).stop i H ∧ D.nx σ H) ∨ ((Itl K a).go i H ∧ ∃ N : St → Hp → Prop, (∀ σ' H', N σ' H' → ∃ m', m' < m ∧ W (i + 1) m' σ' H') ∧ ∀ x H', (Itl K a).yld i H x H' → g x σ H' fun σ2 H2 => tb { D with nx := N, ct := N, bk := D.nx } σ2 H2) := by
  refine ⟨fun i m σ H => m = xs.length - i ∧ i ≤ xs.length ∧ Pv i σ H, ⟨xs.length, by simp, Nat.zero_le _, h0⟩, ?_⟩
  rintro i m σ H ⟨rfl, hi, p⟩
  have q := hl i σ H hi p
  by_cases hlt : i < xs.length
  · refine .inr ⟨⟨xs, xs[i], q, by simp [hlt]⟩, Pv (i + 1), fun σ' H' p' => ⟨xs.length - (i + 1), by omega, rfl, hlt, p'⟩, fun x H' y => ?_⟩
    obtain ⟨e, y⟩ := y
    subst e
    exact hs i x σ _ (y xs q) p
  · have e : i = xs.length := by omega
    subst e
    exact .inl ⟨⟨xs, q, Nat.le_refl _⟩, hd σ H p⟩
theorem for_tup {K : PySem.W.Frag} {a : Addr} {xs : List V} {g : TG} {tb : TS} {D : Ends} {σ : St} {H : Hp} (Pv : Nat → St → Hp → Prop) (h0 : Pv 0 σ H) (hl : ∀ i σ H, i ≤ xs.length → Pv i σ H → SqT K H a xs)
    (hs : ∀ i x σ H, xs[i]? = some x → Pv i σ H → g x σ H fun σ2 H2 => tb { D with nx := Pv (i + 1), ct := Pv (i + 1), bk := D.nx } σ2 H2) (hd : ∀ σ H, Pv xs.length σ H → D.nx σ H) :
    ∃ W : Nat → Nat → St → Hp → Prop, (∃ m, W 0 m σ H) ∧ ∀ i m σ H, W i m σ H →
      ((Itt K a).stop i H ∧ D.nx σ H) ∨ ((Itt K a).go i H ∧ ∃ N : St → Hp → Prop, (∀ σ' H', N σ' H' → ∃ m', m' < m ∧ W (i + 1) m' σ' H') ∧ ∀ x H', (Itt K a).yld i H x H' → g x σ H' fun σ2 H2 => tb { D with nx := N, ct := N, bk := D.nx } σ2 H2) := by
  refine ⟨fun i m σ H => m = xs.length - i ∧ i ≤ xs.length ∧ Pv i σ H, ⟨xs.length, by simp, Nat.zero_le _, h0⟩, ?_⟩
  rintro i m σ H ⟨rfl, hi, p⟩
  have q := hl i σ H hi p
  by_cases hlt : i < xs.length
  · refine .inr ⟨⟨xs, xs[i], q, by simp [hlt]⟩, Pv (i + 1), fun σ' H' p' => ⟨xs.length - (i + 1), by omega, rfl, hlt, p'⟩, fun x H' y => ?_⟩
    obtain ⟨e, y⟩ := y
    subst e
    exact hs i x σ _ (y xs q) p
  · have e : i = xs.length := by omega
    subst e
    exact .inl ⟨⟨xs, q, Nat.le_refl _⟩, hd σ H p⟩
theorem for_range {lo : Int} {n : Nat} {g : TG} {tb : TS} {D : Ends} {σ : St} {H : Hp} (Pv : Nat → St → Hp → Prop) (h0 : Pv 0 σ H)
    (hs : ∀ i σ H, i < n → Pv i σ H → g (.int (lo + i)) σ H fun σ2 H2 => tb { D with nx := Pv (i + 1), ct := Pv (i + 1), bk := D.nx } σ2 H2) (hd : ∀ σ H, Pv n σ H → D.nx σ H) :
    ∃ W : Nat → Nat → St → Hp → Prop, (∃ m, W 0 m σ H) ∧ ∀ i m σ H, W i m σ H →
      ((Itr lo n).stop i H ∧ D.nx σ H) ∨ ((Itr lo n).go i H ∧ ∃ N : St → Hp → Prop, (∀ σ' H', N σ' H' → ∃ m', m' < m ∧ W (i + 1) m' σ' H') ∧ ∀ x H', (Itr lo n).yld i H x H' → g x σ H' fun σ2 H2 => tb { D with nx := N, ct := N, bk := D.nx } σ2 H2) := by
  refine ⟨fun i m σ H => m = n - i ∧ i ≤ n ∧ Pv i σ H, ⟨n, by simp, Nat.zero_le _, h0⟩, ?_⟩
  rintro i m σ H ⟨rfl, hi, p⟩
  by_cases hlt : i < n
  · refine .inr ⟨hlt, Pv (i + 1), fun σ' H' p' => ⟨n - (i + 1), by omega, rfl, hlt, p'⟩, fun x H' y => ?_⟩
    obtain ⟨e, y⟩ := y
    subst e y
    exact hs i σ _ hlt p
  · have e : i = n := by omega
    subst e
    exact .inl ⟨Nat.le_refl _, hd σ H p⟩
theorem while_by {c : TT} {tb : TS} {D : Ends} {σ : St} {H : Hp} (Pv : St → Hp → Prop) (μ : St → Hp → Nat) (h0 : Pv σ H)
    (hs : ∀ σ H, Pv σ H → c σ H fun b H1 => if b = true then tb { D with nx := fun σ' H' => Pv σ' H' ∧ μ σ' H' < μ σ H, ct := fun σ' H' => Pv σ' H' ∧ μ σ' H' < μ σ H, bk := D.nx } σ H1 else D.nx σ H1)
    (mono : ∀ σ H Q Q', (∀ b H1, Q b H1 → Q' b H1) → c σ H Q → c σ H Q') : tWhile c tb D σ H := by
  refine ⟨fun m σ H => m = μ σ H ∧ Pv σ H, ⟨_, rfl, h0⟩, ?_⟩
  rintro m σ H ⟨rfl, p⟩
  refine mono σ H _ _ (fun b H1 q => ?_) (hs σ H p)
  cases b with
  | true => exact ⟨_, fun σ' H' ⟨p', l⟩ => ⟨_, l, rfl, p'⟩, q⟩
  | false => exact q
end L2

namespace L2
open PySem PySem.Spec PyProof.Rows

abbrev R2 := V → V → Hp → VK → Prop
def OpR (X : Cx) (f : Value → Value → Sem Value) (r : R2) : Prop :=
  ∀ (pins : List (Addr × Obj)) (s : Shared) (σ : St) (H : Hp) (x y : V) (v u : Value) (Q : VK), Inv X pins σ H s → RelV x v → RelV y u → r x y H Q →
    wpAny (model X.prog X.w) X.A (f v u) (EP X pins σ Q) X.xe s
def UnR (X : Cx) (f : Value → Sem Value) (r : V → Hp → VK → Prop) : Prop :=
  ∀ (pins : List (Addr × Obj)) (s : Shared) (σ : St) (H : Hp) (x : V) (v : Value) (Q : VK), Inv X pins σ H s → RelV x v → r x H Q →
    wpAny (model X.prog X.w) X.A (f v) (EP X pins σ Q) X.xe s
def CallR (X : Cx) (f : Value) (r : List V → Hp → VK → Prop) : Prop :=
  ∀ (pins : List (Addr × Obj)) (s : Shared) (σ : St) (H : Hp) (xs : List V) (us : List Value) (Q : VK), Inv X pins σ H s → Vals xs us → r xs H Q →
    wpAny (model X.prog X.w) X.A (call f us) (EP X pins σ Q) X.xe s
def TruR (X : Cx) (r : V → Hp → (Bool → Hp → Prop) → Prop) : Prop :=
  ∀ (pins : List (Addr × Obj)) (s : Shared) (σ : St) (H : Hp) (x : V) (v : Value) (Q : Bool → Hp → Prop), Inv X pins σ H s → RelV x v → r x H Q →
    wpAny (model X.prog X.w) X.A (truthy v) (TP X pins σ Q) X.xe s

def tOp (r : R2) (ta tb : TE) : TE := fun σ H Q => ta σ H fun x H1 => tb σ H1 fun y H2 => r x y H2 Q
def tUn (r : V → Hp → VK → Prop) (ta : TE) : TE := fun σ H Q => ta σ H fun x H1 => r x H1 Q
def rI (C : Int → Int → Prop) (g : Int → Int → V) : R2 := fun x y H Q => ∃ i j, x = .int i ∧ y = .int j ∧ C i j ∧ Q (g i j) H
def rI0 (g : Int → Int → V) : R2 := fun x y H Q => ∃ i j, x = .int i ∧ y = .int j ∧ Q (g i j) H
def rU (g : Int → V) : V → Hp → VK → Prop := fun x H Q => ∃ i, x = .int i ∧ Q (g i) H

section
variable {X : Cx} {a b c : Expr} {ta tb tc : TE} {pos : Pos}

theorem binT (ha : PE X a ta) (hb : PE X b tb) {pins : List (Addr × Obj)} {s : Shared} {σ : St} {H : Hp} {R : V → V → Hp → Prop} (I : Inv X pins σ H s)
    (h : ta σ H fun x H1 => tb σ H1 fun y H2 => R x y H2) {Q : Value → Shared → Prop} {f : Value → Value → Sem Value}
    (hf : ∀ v u s2 x y H2, Inv X pins σ H2 s2 → RelV x v → RelV y u → R x y H2 → wpAny (model X.prog X.w) X.A (f v u) Q X.xe s2) :
    wpAny (model X.prog X.w) X.A (eval a X.env) (fun v s₁ => wpAny (model X.prog X.w) X.A (eval b X.env) (fun u s₂ => wpAny (model X.prog X.w) X.A (f v u) Q X.xe s₂) X.xe s₁) X.xe s := by
  refine thn (ha pins s σ H _ I h) fun v s1 ⟨x, H1, I1, r1, q1⟩ => ?_
  refine thn (hb pins s1 σ H1 _ I1 q1) fun u s2 ⟨y, H2, I2, r2, q2⟩ => ?_
  exact hf v u s2 x y H2 I2 r1 r2 q2

theorem pe_op {op : Operator} {r : R2} (ho : OpR X (binaryOp op) r) (ha : PE X a ta) (hb : PE X b tb) : PE X (.BinOp a op b pos) (tOp r ta tb) := by
  intro pins s σ H Q I h
  exact wpAny_BinOp (binT ha hb I h fun v u s2 x y H2 I2 rx ry q => ho pins s2 σ H2 x y v u Q I2 rx ry q)
theorem pe_un {op : UnaryOp} {r : V → Hp → VK → Prop} (ho : UnR X (unaryOp op) r) (ha : PE X a ta) : PE X (.UnaryOp op a pos) (tUn r ta) := by
  intro pins s σ H Q I h
  exact UnaryOp_ (thn (ha pins s σ H _ I h) fun v s1 ⟨x, H1, I1, r1, q1⟩ => ho pins s1 σ H1 x v Q I1 r1 q1)
theorem opI {f : Value → Value → Sem Value} {C : Int → Int → Prop} {g : Int → Int → Int}
    (rule : ∀ (i j : Int) (t u : Tok) (s : Shared) (Q : Value → Shared → Prop) (E : Value → Shared → Prop), C i j → Q (.int (g i j) s.toks) { s with toks := s.toks + 1 } → wpAny (model X.prog X.w) X.A (f (.int i t) (.int j u)) Q E s) :
    OpR X f (rI C fun i j => .int (g i j)) := by
  intro pins s σ H x y v u Q I rx ry h
  obtain ⟨i, j, rfl, rfl, hc, q⟩ := h
  obtain ⟨t, rfl⟩ := rx
  obtain ⟨t', rfl⟩ := ry
  exact rule i j t t' s _ _ hc ⟨.int (g i j), H, I.tok _, ⟨_, rfl⟩, q⟩
theorem opI0 {f : Value → Value → Sem Value} {g : Int → Int → Int}
    (rule : ∀ (i j : Int) (t u : Tok) (s : Shared) (Q : Value → Shared → Prop) (E : Value → Shared → Prop), Q (.int (g i j) s.toks) { s with toks := s.toks + 1 } → wpAny (model X.prog X.w) X.A (f (.int i t) (.int j u)) Q E s) :
    OpR X f (rI0 fun i j => .int (g i j)) := by
  intro pins s σ H x y v u Q I rx ry h
  obtain ⟨i, j, rfl, rfl, q⟩ := h
  obtain ⟨t, rfl⟩ := rx
  obtain ⟨t', rfl⟩ := ry
  exact rule i j t t' s _ _ ⟨.int (g i j), H, I.tok _, ⟨_, rfl⟩, q⟩
theorem opB0 {f : Value → Value → Sem Value} {g : Int → Int → Bool}
    (rule : ∀ (i j : Int) (t u : Tok) (s : Shared) (Q : Value → Shared → Prop) (E : Value → Shared → Prop), Q (.bool (g i j)) s → wpAny (model X.prog X.w) X.A (f (.int i t) (.int j u)) Q E s) :
    OpR X f (rI0 fun i j => .bl (g i j)) := by
  intro pins s σ H x y v u Q I rx ry h
  obtain ⟨i, j, rfl, rfl, q⟩ := h
  obtain ⟨t, rfl⟩ := rx
  obtain ⟨t', rfl⟩ := ry
  exact rule i j t t' s _ _ ⟨.bl (g i j), H, I, rfl, q⟩

def CDiv (i j : Int) : Prop := 0 < j ∧ j < 1073741824
def CPow (i j : Int) : Prop := 0 ≤ j ∧ j ≤ 1000000 ∧ i.natAbs < 2 ^ 64
def CMul (i j : Int) : Prop := (-(2 ^ 64) < i ∧ i < 2 ^ 64) ∨ (-(2 ^ 64) < j ∧ j < 2 ^ 64)
theorem CMul.ok {i j : Int} (h : CMul i j) : IntMulOk i j := by
  rcases h with ⟨h1, h2⟩ | ⟨h1, h2⟩
  · exact .of_left (intBits_le_64 h1 h2)
  · exact .of_right (intBits_le_64 h1 h2)
theorem op_add : OpR X (binaryOp .Add) (rI0 fun i j => .int (i + j)) := opI0 fun _ _ _ _ _ _ _ q => add_int q
theorem op_sub : OpR X (binaryOp .Sub) (rI0 fun i j => .int (i - j)) := opI0 fun _ _ _ _ _ _ _ q => sub_int q
theorem op_mul : OpR X (binaryOp .Mult) (rI CMul fun i j => .int (i * j)) := opI fun _ _ _ _ _ _ _ hc q => mul_int q hc.ok
theorem op_fdiv : OpR X (binaryOp .FloorDiv) (rI CDiv fun i j => .int (i / j)) := opI fun i j _ _ _ _ _ hc q => by
  have h1 : (0 : Int) < j := hc.1
  have h2 : j < 1073741824 := hc.2
  exact floordiv_int (by omega) (by rw [Int.fdiv_eq_ediv_of_nonneg i (by omega)]; exact q) (.inl (PyProof.noPylong_small (by omega)))
theorem op_mod : OpR X (binaryOp .Mod) (rI (fun _ j => 0 < j) fun i j => .int (i % j)) := opI fun i j _ _ _ _ _ hc q => by
  have h1 : (0 : Int) < j := hc
  exact mod_int' (by omega) (by rw [Int.fmod_eq_emod_of_nonneg i (by omega)]; exact q)
theorem op_pow : OpR X (binaryOp .Pow) (rI CPow fun i j => .int (i ^ j.toNat)) := opI fun _ _ _ _ _ _ _ hc q => pow_int_small hc.1 hc.2.1 hc.2.2 q
theorem unI {f : Value → Sem Value} {g : Int → Int}
    (rule : ∀ (i : Int) (t : Tok) (s : Shared) (Q : Value → Shared → Prop) (E : Value → Shared → Prop), Q (.int (g i) s.toks) { s with toks := s.toks + 1 } → wpAny (model X.prog X.w) X.A (f (.int i t)) Q E s) :
    UnR X f (rU fun i => .int (g i)) := by
  intro pins s σ H x v Q I rx h
  obtain ⟨i, rfl, q⟩ := h
  obtain ⟨t, rfl⟩ := rx
  exact rule i t s _ _ ⟨.int (g i), H, I.tok _, ⟨_, rfl⟩, q⟩
theorem un_neg : UnR X (unaryOp .USub) (rU fun i => .int (-i)) := unI fun _ _ _ _ _ q => neg_int q
end

def scal : V → V → Bool
  | .non, .non => true | .non, .int _ => true | .int _, .non => true | .non, .bl _ => true | .bl _, .non => true | .non, .str _ => true | .str _, .non => true
  | .int _, .int _ => true | .bl _, .bl _ => true | .str _, .str _ => true | .byt _, .byt _ => true
  | .int _, .str _ => true | .str _, .int _ => true | .bl _, .str _ => true | .str _, .bl _ => true
  | _, _ => false
def rEq : R2 := fun x y H Q => scal x y = true ∧ Q (.bl (decide (x = y))) H
def rNe : R2 := fun x y H Q => scal x y = true ∧ Q (.bl (!decide (x = y))) H

theorem dec_int {i j : Int} : decide (V.int i = V.int j) = (i == j) := by
  rw [Bool.eq_iff_iff]
  simp
theorem dec_bl {i j : Bool} : decide (V.bl i = V.bl j) = (i == j) := by
  rw [Bool.eq_iff_iff]
  simp
theorem dec_str {i j : Str} : decide (V.str i = V.str j) = (i == j) := by
  rw [Bool.eq_iff_iff]
  simp
theorem dec_byt {i j : Array UInt8} : decide (V.byt i = V.byt j) = (i.toList == j.toList) := by
  rw [Bool.eq_iff_iff]
  cases i
  cases j
  simp

section
variable {X : Cx} {a b c : Expr} {ta tb tc : TE} {pos : Pos}
theorem fin_bl {pins : List (Addr × Obj)} {σ : St} {H : Hp} {s : Shared} {Q : VK} {k k' : Bool} (I : Inv X pins σ H s) (q : Q (.bl k) H) (e : k = k') : EP X pins σ Q (.bool k') s := by
  subst e
  exact ⟨.bl k, H, I, rfl, q⟩
theorem op_eq : OpR X (compareOp .Eq) rEq := by
  intro pins s σ H x y v u Q I rx ry h
  obtain ⟨hs, q⟩ := h
  cases x with
  | non =>
    cases rx
    cases y with
    | non => cases ry; exact PySem.EqNone.eq_none_none (fin_bl I q (by simp))
    | bl j => cases ry; exact PySem.EqNone.eq_none_bool (fin_bl I q (by simp))
    | int j => obtain ⟨t', rfl⟩ := ry; exact PySem.EqNone.eq_none_int (fin_bl I q (by simp))
    | str j => obtain ⟨t', rfl⟩ := ry; exact PySem.EqNone.eq_none_str (fin_bl I q (by simp))
    | _ => exact absurd (show false = true from hs) Bool.false_ne_true
  | bl i =>
    cases rx
    cases y with
    | non => cases ry; exact PySem.EqNone.eq_bool_none (fin_bl I q (by simp))
    | bl j => cases ry; exact eq_bool (fin_bl I q dec_bl)
    | str j => obtain ⟨t', rfl⟩ := ry; exact PySem.EqMixed.eq_bool_str (fin_bl I q (by simp))
    | _ => exact absurd (show false = true from hs) Bool.false_ne_true
  | int i =>
    obtain ⟨t, rfl⟩ := rx
    cases y with
    | non => cases ry; exact PySem.EqNone.eq_int_none (fin_bl I q (by simp))
    | int j => obtain ⟨t', rfl⟩ := ry; exact eq_int (fin_bl I q dec_int)
    | str j => obtain ⟨t', rfl⟩ := ry; exact PySem.EqMixed.eq_int_str (fin_bl I q (by simp))
    | _ => exact absurd (show false = true from hs) Bool.false_ne_true
  | str i =>
    obtain ⟨t, rfl⟩ := rx
    cases y with
    | non => cases ry; exact PySem.EqNone.eq_str_none (fin_bl I q (by simp))
    | bl j => cases ry; exact PySem.EqMixed.eq_str_bool (fin_bl I q (by simp))
    | int j => obtain ⟨t', rfl⟩ := ry; exact PySem.EqMixed.eq_str_int (fin_bl I q (by simp))
    | str j => obtain ⟨t', rfl⟩ := ry; exact eq_str (fin_bl I q dec_str)
    | _ => exact absurd (show false = true from hs) Bool.false_ne_true
  | byt i =>
    obtain ⟨t, rfl⟩ := rx
    cases y with
    | byt j => obtain ⟨t', rfl⟩ := ry; exact PySem.W.eq_bytes (fin_bl I q dec_byt)
    | _ => exact absurd (show false = true from hs) Bool.false_ne_true
  | _ => cases y <;> exact absurd (show false = true from hs) Bool.false_ne_true
theorem op_ne : OpR X (compareOp .NotEq) rNe := by
  intro pins s σ H x y v u Q I rx ry h
  obtain ⟨hs, q⟩ := h
  cases x with
  | non =>
    cases rx
    cases y with
    | non => cases ry; exact PySem.EqNone.ne_none_none (fin_bl I q (by simp))
    | bl j => cases ry; exact PySem.EqNone.ne_none_bool (fin_bl I q (by simp))
    | int j => obtain ⟨t', rfl⟩ := ry; exact PySem.EqNone.ne_none_int (fin_bl I q (by simp))
    | str j => obtain ⟨t', rfl⟩ := ry; exact PySem.EqNone.ne_none_str (fin_bl I q (by simp))
    | _ => exact absurd (show false = true from hs) Bool.false_ne_true
  | bl i =>
    cases rx
    cases y with
    | non => cases ry; exact PySem.EqNone.ne_bool_none (fin_bl I q (by simp))
    | bl j => cases ry; exact ne_bool (fin_bl I q (congrArg not dec_bl))
    | str j => obtain ⟨t', rfl⟩ := ry; exact PySem.EqMixed.ne_bool_str (fin_bl I q (by simp))
    | _ => exact absurd (show false = true from hs) Bool.false_ne_true
  | int i =>
    obtain ⟨t, rfl⟩ := rx
    cases y with
    | non => cases ry; exact PySem.EqNone.ne_int_none (fin_bl I q (by simp))
    | int j => obtain ⟨t', rfl⟩ := ry; exact ne_int (fin_bl I q (congrArg not dec_int))
    | str j => obtain ⟨t', rfl⟩ := ry; exact PySem.EqMixed.ne_int_str (fin_bl I q (by simp))
    | _ => exact absurd (show false = true from hs) Bool.false_ne_true
  | str i =>
    obtain ⟨t, rfl⟩ := rx
    cases y with
    | non => cases ry; exact PySem.EqNone.ne_str_none (fin_bl I q (by simp))
    | bl j => cases ry; exact PySem.EqMixed.ne_str_bool (fin_bl I q (by simp))
    | int j => obtain ⟨t', rfl⟩ := ry; exact PySem.EqMixed.ne_str_int (fin_bl I q (by simp))
    | str j => obtain ⟨t', rfl⟩ := ry; exact ne_str (fin_bl I q (congrArg not dec_str))
    | _ => exact absurd (show false = true from hs) Bool.false_ne_true
  | byt i =>
    obtain ⟨t, rfl⟩ := rx
    cases y with
    | byt j => obtain ⟨t', rfl⟩ := ry; exact PySem.W.ne_bytes (fin_bl I q (congrArg not dec_byt))
    | _ => exact absurd (show false = true from hs) Bool.false_ne_true
  | _ => cases y <;> exact absurd (show false = true from hs) Bool.false_ne_true

theorem op_lt : OpR X (compareOp .Lt) (rI0 fun i j => .bl (decide (i < j))) := opB0 fun _ _ _ _ _ _ _ q => lt_int q
theorem op_gt : OpR X (compareOp .Gt) (rI0 fun i j => .bl (decide (j < i))) := opB0 fun _ _ _ _ _ _ _ q => gt_int q
theorem op_isN : OpR X (compareOp .Is) (fun x y H Q => y = .non ∧ Q (.bl (decide (x = .non))) H) := by
  intro pins s σ H x y v u Q I rx ry h
  obtain ⟨rfl, q⟩ := h
  cases ry
  refine is_none_gen (fin_bl I q ?_)
  cases x <;> first
    | (cases rx; rfl)
    | (obtain ⟨t, rfl⟩ := rx; rfl)
theorem op_notN : OpR X (compareOp .IsNot) (fun x y H Q => y = .non ∧ Q (.bl (!decide (x = .non))) H) := by
  intro pins s σ H x y v u Q I rx ry h
  obtain ⟨rfl, q⟩ := h
  cases ry
  refine isnot_none_gen (fin_bl I q ?_)
  cases x <;> first
    | (cases rx; rfl)
    | (obtain ⟨t, rfl⟩ := rx; rfl)

theorem nomark (b : Expr) {op : CmpOp} (h : op ≠ .In := by decide) (h2 : op ≠ .NotIn := by decide) : behindInMarks op b = false := by
  have e1 : (op == CmpOp.In) = false := by cases op <;> first | rfl | exact absurd rfl h
  have e2 : (op == CmpOp.NotIn) = false := by cases op <;> first | rfl | exact absurd rfl h2
  cases b <;> simp [behindInMarks, e1, e2]
theorem pe_cmpR {op : CmpOp} {r : R2} (ho : OpR X (compareOp op) r) (ha : PE X a ta) (hb : PE X b tb) (hm : behindInMarks op b = false) : PE X (.Compare a [op] [b] pos) (tOp r ta tb) := by
  intro pins s σ H Q I h
  exact wpAny_Compare1 (binT ha hb I h fun v u s2 x y H2 I2 rx ry q => ho pins s2 σ H2 x y v u Q I2 rx ry q) hm
def tTest (t : TE) : TT := fun σ H Q => t σ H fun x H' => ∃ k, x = .bl k ∧ Q k H'
theorem pt_cmpR {op : CmpOp} {r : R2} (ho : OpR X (compareOp op) r) (ha : PE X a ta) (hb : PE X b tb) (hm : behindInMarks op b = false) : PT X (.Compare a [op] [b] pos) (tTest (tOp r ta tb)) := by
  intro pins s σ H Q I h
  refine wpAny_isTrue_Compare1 (thn (ha pins s σ H _ I h) fun v s1 ⟨x, H1, I1, r1, q1⟩ => thn (hb pins s1 σ H1 _ I1 q1) fun u s2 ⟨y, H2, I2, r2, q2⟩ =>
    thn (ho pins s2 σ H2 x y v u _ I2 r1 r2 q2) fun c s3 ⟨z, H3, I3, r3, k, e, q3⟩ => ?_) hm
  subst e
  cases r3
  exact wpAny_truthy_bool ⟨H3, I3, q3⟩
def TruV (K : PySem.W.Frag) (x : V) (H : Hp) (k : Bool) : Prop :=
  match x with
  | .non => k = false
  | .bl b => k = b
  | .int i => k = (i != 0)
  | .str y => y.length ≤ sizeLine ∧ k = ((y.length : Int) != 0)
  | .byt y => y.size ≤ sizeLine ∧ k = ((y.size : Int) != 0)
  | .ref p => (∃ xs, SqL K H p xs ∧ k = !xs.isEmpty) ∨ (∃ xs, SqT K H p xs ∧ k = !xs.isEmpty) ∨ ∃ kvs, H p = some (.dK kvs) ∧ k = !kvs.isEmpty
  | _ => False
theorem isEmpty_kv {κ : Type} {kvs : List (κ × V)} {vs : List (κ × Value)} (r : KV kvs vs) : (!vs.isEmpty) = !kvs.isEmpty := by
  cases r <;> rfl
theorem isEmpty_of {xs : List V} {its : List Value} (r : Vals xs its) : (!its.toArray.isEmpty) = !xs.isEmpty := by
  cases r <;> simp
theorem line63 : (sizeLine : Nat) < 2 ^ 63 := by rw [sizeLine_eq]; decide
theorem tru_ok : TruR X (fun x H Q => ∃ k, TruV X.K x H k ∧ Q k H) := by
  intro pins s σ H x v Q I rx h
  obtain ⟨k, e, q⟩ := h
  have hl := line63
  have hs : sizeLine = 16777216 := sizeLine_eq
  cases x with
  | non =>
    cases rx
    have e' : k = false := e
    subst e'
    exact truthy_none ⟨H, I, q⟩
  | bl b =>
    cases rx
    have e' : k = b := e
    subst e'
    exact wpAny_truthy_bool ⟨H, I, q⟩
  | int i =>
    obtain ⟨t, rfl⟩ := rx
    have e' : k = (i != 0) := e
    subst e'
    exact PySem.P.truthy_int ⟨H, I, q⟩
  | str y =>
    obtain ⟨t, rfl⟩ := rx
    obtain ⟨hy, e'⟩ : y.length ≤ sizeLine ∧ k = ((y.length : Int) != 0) := e
    subst e'
    exact PySem.P.truthy_str (by omega) ⟨H, I.tok _, q⟩
  | byt y =>
    obtain ⟨t, rfl⟩ := rx
    obtain ⟨hy, e'⟩ : y.size ≤ sizeLine ∧ k = ((y.size : Int) != 0) := e
    subst e'
    exact PySem.W.truthy_bytes (by omega) ⟨H, I.tok _, q⟩
  | ref p =>
    cases rx
    have e' : (∃ xs, SqL X.K H p xs ∧ k = !xs.isEmpty) ∨ (∃ xs, SqT X.K H p xs ∧ k = !xs.isEmpty) ∨ ∃ kvs, H p = some (.dK kvs) ∧ k = !kvs.isEmpty := e
    rcases e' with ⟨xs, hx, e'⟩ | ⟨xs, hx, e'⟩ | ⟨kvs, hx, e'⟩
    · subst e'
      obtain ⟨its, r, pl, hz⟩ := I.list hx
      have hlen := r.length
      exact wpAny_truthy_list pl.isList (by simp only [List.size_toArray]; omega) ⟨H, I.tok _, by rw [isEmpty_of r]; exact q⟩
    · subst e'
      obtain ⟨its, r, pl, hz⟩ := I.tuple hx
      have hlen := r.length
      exact truthy_tuple pl (by simp only [List.size_toArray]; omega) ⟨H, I.tok _, by rw [isEmpty_of r]; exact q⟩
    · subst e'
      obtain ⟨hz, hS, vs, r, m⟩ : kvs.length ≤ sizeLine ∧ (p == sysModules) = false ∧ ∃ vs, KV kvs vs ∧ s.heap.DictOf (mixKind X.prog X.w) p vs := I.hok p _ hx
      have hlen : kvs.length = vs.length := Paired.length r
      exact wpAny_truthy_dict hS m (by omega) ⟨H, I.tok _, by rw [isEmpty_kv r]; exact q⟩
  | _ => exact (show False from e).elim
theorem pt_truth (ha : PE X a ta) (he : ∀ whole, isTrue a X.env whole = (do let v ← whole; standAt a.pos; holding [v] (truthy v))) :
    PT X a (fun σ H Q => ta σ H fun x H' => ∃ k, TruV X.K x H' k ∧ Q k H') := by
  intro pins s σ H Q I h
  exact isTrue_plain (thn (ha pins s σ H _ I h) fun v s1 ⟨x, H1, I1, r1, q1⟩ => tru_ok pins s1 σ H1 x v Q I1 r1 q1) (he _)

theorem vals1 {x : V} {us : List Value} (r : Vals [x] us) : ∃ u, us = [u] ∧ RelV x u := by
  cases r with
  | cons r1 r2 => cases r2; exact ⟨_, rfl, r1⟩
theorem vals2 {x y : V} {us : List Value} (r : Vals [x, y] us) : ∃ u w', us = [u, w'] ∧ RelV x u ∧ RelV y w' := by
  cases r with
  | cons r1 r2 =>
    cases r2 with
    | cons r3 r4 => cases r4; exact ⟨_, _, rfl, r1, r3⟩
theorem call_abs : CallR X (.builtin "abs") (fun xs H Q => ∃ i, xs = [.int i] ∧ Q (.int (if i < 0 then -i else i)) H) := by
  intro pins s σ H xs us Q I r h
  obtain ⟨i, rfl, q⟩ := h
  obtain ⟨u, rfl, t, rfl⟩ := vals1 r
  exact call_abs_int fun u tk => ⟨.int (if i < 0 then -i else i), H, I.tok _, ⟨_, rfl⟩, q⟩
theorem call_max2 (hc : X.calm = true) : CallR X (.builtin "max") (fun xs H Q => ∃ i j, xs = [.int i, .int j] ∧ Q (.int (if j > i then j else i)) H) := by
  intro pins s σ H xs us Q I r h
  obtain ⟨i, j, rfl, q⟩ := h
  obtain ⟨u, w', rfl, ⟨t, rfl⟩, ⟨t', rfl⟩⟩ := vals2 r
  refine max_two_ints (I.ok.hd hc) fun h' tk k => ⟨_, H, I.kept k, ?_, q⟩
  by_cases hj : j > i
  · rw [if_pos hj, if_pos hj]; exact ⟨_, rfl⟩
  · rw [if_neg hj, if_neg hj]; exact ⟨_, rfl⟩
theorem call_int1 : CallR X (.type "int") (fun xs H Q => (∃ i, xs = [.int i] ∧ Q (.int i) H) ∨ ∃ k, xs = [.bl k] ∧ Q (.int (if k then 1 else 0)) H) := by
  intro pins s σ H xs us Q I r h
  rcases h with ⟨i, rfl, q⟩ | ⟨k, rfl, q⟩
  · obtain ⟨u, rfl, t, rfl⟩ := vals1 r
    exact call_int_int ⟨.int i, H, I, ⟨_, rfl⟩, q⟩
  · obtain ⟨u, rfl, r1⟩ := vals1 r
    cases r1
    exact call_int_bool ⟨.int (if k then 1 else 0), H, I.tok _, ⟨_, rfl⟩, q⟩
end
end L2

namespace L2
open PySem PySem.Spec PyProof.Rows

structure ObjM (h : Heap) (x dx C : Addr) (mA : Str → Option Value) : Prop where
  obj : h.get? x = some (PySem.W.instObj C dx)
  ns : h.Ns1 dx mA
  ne : dx ≠ x

theorem lookIn_ns {h : Heap} {dx : Addr} {mA : Str → Option Value} (n : h.Ns1 dx mA) : ∃ od, h.get? dx = some od ∧ ∀ name, PySem.W.lookIn name od = some (mA name) := by
  obtain ⟨o, es, ep, ho, hd, hk, _, hm⟩ := n
  refine ⟨o, ho, fun name => ?_⟩
  have e := hm name
  unfold nsFind findBy at e
  rw [← Array.find?_toList] at e
  unfold PySem.W.lookIn
  rw [hd]
  dsimp only
  split
  · rename_i y q
    rw [q] at e
    exact congrArg some e
  · rename_i q
    rw [q] at e
    have a : es.toList.any (·.refKey) = false := by
      rw [List.any_eq_false]
      intro y hy
      obtain ⟨z, t, hkey⟩ := hk y (Array.mem_toList_iff.mp hy)
      simp [DictEntry.refKey, hkey]
    have a' : ¬ es.toList.any (·.refKey) = true := by rw [a]; exact Bool.false_ne_true
    rw [if_neg a']
    exact congrArg some e

theorem ObjM.look {h : Heap} {x dx C : Addr} {mA : Str → Option Value} (I : ObjM h x dx C mA) : ∃ od, PySem.W.InstAt h x (PySem.W.instObj C dx) C (some od) ∧ ∀ name, PySem.W.lookIn name od = some (mA name) :=
  let ⟨od, ho, hl⟩ := lookIn_ns I.ns
  ⟨od, ⟨I.obj, rfl, rfl, ho⟩, hl⟩

section
variable {prog : Program} {w : World} {A : Around} {E : Value → Shared → Prop} {s : Shared} {K : PySem.W.Frag} {x dx C f : Addr} {mA : Str → Option Value} {name : Str} {v : Value}

theorem get_map {expr : Bool} {Q : Value → Shared → Prop} (X : K.In s.heap) (I : ObjM s.heap x dx C mA) (hg : PySem.W.plainGet K C name = true) (hh : PySem.W.hasDictIn K C = true)
    (ha : PySem.W.findIn K (.ref C) name = some none) (hv : mA name = some v) (hv' : PySem.W.handedIn v = true) (h : Q v { s with toks := s.toks + 1 }) :
    wpAny (model prog w) A (getAttr (.ref x) name expr) Q E s := by
  obtain ⟨od, J, hl⟩ := I.look
  exact PySem.W.get_value X J (PySem.W.plainGet_of hg).1 (PySem.W.findObj_own hh ha rfl (by rw [hl, hv])) hv' h

theorem set_map {ns : List Str} {Q : Unit → Shared → Prop} (X : K.In s.heap) (I : ObjM s.heap x dx C mA)
    (hs : PySem.W.findIn K (.ref C) "__setattr__" = some (some (.builtin "object.__setattr__"))) (hp : PySem.W.plainOver K C = true) (ht : PySem.W.takerIn K C name = some none) (hh : PySem.W.hasDictIn K C = true)
    (hw : PySem.Within mA ns) (hsz : ns.length ≤ sizeLine)
    (h : ∀ h', ObjM h' x dx C (fun y => if y = name then some v else mA y) → Heap.SameBut dx s.heap h' → Q () { s with heap := h', toks := s.toks + 2 }) :
    wpAny (model prog w) A (setAttr (.ref x) name v) Q E s := by
  obtain ⟨od, J, hl⟩ := I.look
  refine PySem.W.set_plain X J hs (PySem.W.osa_open (s := { s with toks := s.toks + 1 }) (r := none) X J hp ht fun b => ?_)
  obtain ⟨cd, hc, hd'⟩ := PySem.W.any_some hh
  have hx : s.heap.get? x = some ⟨.ref C, some dx, .plain, #[]⟩ := I.obj
  refine wpAny_bind (wpAny_pure (wpAny_bind (wpAny_bind (wpAny_loadPart hx (wpAny_bind (PySem.W.Looks.here (s := { s with toks := s.toks + 1 }) (PySem.W.looks_clsIn X hc) ?_))))))
  rw [hd']
  refine wpAny_pure (a := some dx) (wpAny_bind (wpAny_pure (wpAny_bind ?_)))
  refine wpAny_nsSet1 (s := { s with toks := s.toks + 1 }) I.ns fun h' hn2 hs2 => ?_
  obtain ⟨oD, esD, epD, hoD, hdD, hcD⟩ := hn2.count (PySem.Within.cons name v hw)
  refine wpAny_bind (wpAny_lookBehind hoD (by rw [hdD]; exact pastItsLine_dict (Nat.le_trans hcD (by rw [List.length_cons]; omega))) ?_)
  exact wpAny_pure (h _ ⟨(hs2.2 _ (Ne.symm I.ne)).trans I.obj, hn2, I.ne⟩ hs2)

theorem make_map {R : Result → Shared → Prop} {vs : List Value} {kw : List (Str × Value)} (X : K.In s.heap) (hm : PySem.W.makesIn K C = true)
    (hi : PySem.W.findIn K (.ref C) "__init__" = some (some (.ref f))) (hf : PySem.W.typeIn K (.ref f) = some (.type "function"))
    (h : codeAny (model prog w) (A.under (.builtin "type.__call__" ⟨.ref C :: vs, kw⟩)) (.call (.ref f) ⟨.ref (s.heap.objs.size + 1) :: vs, kw⟩) (PySem.W.InitBack (s.heap.objs.size + 1) R)
      { s with heap := (s.heap.push PySem.W.emptyDict).push (PySem.W.instObj C s.heap.objs.size) }) :
    codeAny (model prog w) A (.call (.ref C) ⟨vs, kw⟩) R s := by
  obtain ⟨hh, g, d, t, os⟩ := s
  exact PySem.W.make_core (PySem.W.makes_of X hm) (PySem.W.looks_findIn X hi) (fun self => PySem.W.bind_fn X self hf) (.inl rfl) h
end

def putF (f : Str) (v : V) : List (Str × V) → List (Str × V)
  | [] => [(f, v)]
  | (g, x) :: r => if g = f then (g, v) :: r else (g, x) :: putF f v r
theorem lookup_putF (f g : Str) (v : V) : ∀ fs : List (Str × V), (putF f v fs).lookup g = if g = f then some v else fs.lookup g
  | [] => by
    show List.lookup g [(f, v)] = _
    by_cases h : g = f
    · have hb : (g == f) = true := beq_iff_eq.mpr h
      simp only [List.lookup, hb, if_pos h]
    · have hb : (g == f) = false := beq_eq_false_iff_ne.mpr h
      simp only [List.lookup, hb, if_neg h]
  | (k, x) :: r => by
    have ih := lookup_putF f g v r
    rw [show putF f v ((k, x) :: r) = (if k = f then (k, v) :: r else (k, x) :: putF f v r) from rfl]
    by_cases hk : k = f
    · rw [if_pos hk]
      by_cases h : g = k
      · have hb : (g == k) = true := beq_iff_eq.mpr h
        simp only [List.lookup, hb, if_pos (h.trans hk)]
      · have hb : (g == k) = false := beq_eq_false_iff_ne.mpr h
        simp only [List.lookup, hb, if_neg (fun e : g = f => h (e.trans hk.symm))]
    · rw [if_neg hk]
      by_cases h : g = k
      · have hb : (g == k) = true := beq_iff_eq.mpr h
        simp only [List.lookup, hb, if_neg (fun e : g = f => hk (h.symm.trans e))]
      · have hb : (g == k) = false := beq_eq_false_iff_ne.mpr h
        simp only [List.lookup, hb]
        exact ih
theorem keys_putF (f : Str) (v : V) : ∀ fs : List (Str × V), f ∈ (putF f v fs).map (·.1) ∧ ∀ g, g ∈ fs.map (·.1) → g ∈ (putF f v fs).map (·.1)
  | [] => ⟨by simp [putF], fun g h => by simp at h⟩
  | (k, x) :: r => by
    obtain ⟨i1, i2⟩ := keys_putF f v r
    rw [show putF f v ((k, x) :: r) = (if k = f then (k, v) :: r else (k, x) :: putF f v r) from rfl]
    by_cases hk : k = f
    · rw [if_pos hk]
      subst hk
      exact ⟨by simp, fun g h => by simpa using h⟩
    · rw [if_neg hk]
      refine ⟨?_, fun g h => ?_⟩
      · rw [List.map_cons]
        exact List.mem_cons_of_mem _ i1
      · rw [List.map_cons] at h ⊢
        rcases List.mem_cons.mp h with e | e
        · exact List.mem_cons.mpr (.inl e)
        · exact List.mem_cons_of_mem _ (i2 g e)
theorem length_putF (f : Str) (v : V) : ∀ fs : List (Str × V), (putF f v fs).length ≤ fs.length + 1
  | [] => by simp [putF]
  | (k, x) :: r => by
    have ih := length_putF f v r
    rw [show putF f v ((k, x) :: r) = (if k = f then (k, v) :: r else (k, x) :: putF f v r) from rfl]
    by_cases hk : k = f
    · rw [if_pos hk, List.length_cons, List.length_cons]; omega
    · rw [if_neg hk, List.length_cons, List.length_cons]; omega

theorem RelO.some_of {v : V} {o : Option Value} (r : RelO (some v) o) : ∃ u, o = some u ∧ RelV v u := by
  cases o with
  | none => exact (show False from r).elim
  | some u => exact ⟨u, rfl, r⟩
theorem handed_of {v : V} {u : Value} (r : RelV v u) : PySem.W.handedIn u = true := by
  cases v with
  | non => cases (show u = Value.none from r); rfl
  | bl b => cases (show u = Value.bool b from r); rfl
  | int i => obtain ⟨t, e⟩ := (show ∃ t, u = Value.int i t from r); cases e; rfl
  | str x => obtain ⟨t, e⟩ := (show ∃ t, u = Value.str x t from r); cases e; rfl
  | byt b => obtain ⟨t, e⟩ := (show ∃ t, u = Value.bytes b t from r); cases e; rfl
  | flt b => obtain ⟨t, e⟩ := (show ∃ t, u = Value.float b t from r); cases e; rfl
  | ref a => cases (show u = Value.ref a from r); rfl
  | ty n => cases (show u = Value.type n from r); rfl

section
variable {P : Program} {w : World} {H H' : Hp} {h h' : Heap} {a C dx : Addr} {fs fs' : List (Str × V)}
theorem ins_get (hok : HOk P w H h) (e : H a = some (.ins C dx fs)) : ∃ mA, ObjM h a dx C mA ∧ (∀ f, RelO (fs.lookup f) (mA f)) ∧ PySem.Within mA (fs.map (·.1)) ∧ fs.length ≤ 1000 ∧ H dx = some (.own a) := by
  obtain ⟨d, z, ne, ob, mA, n, r, q⟩ := (show ObjOk P w H h a (.ins C dx fs) from hok a _ e)
  exact ⟨mA, ⟨ob, n, ne⟩, r, q, z, d⟩
end

structure Cls (K : PySem.W.Frag) (C : Addr) : Prop where
  pg : PySem.W.plainGet K C Str.empty = true
  hd : PySem.W.hasDictIn K C = true
  po : PySem.W.plainOver K C = true
  sa : PySem.W.findIn K (.ref C) "__setattr__" = some (some (.builtin "object.__setattr__"))
theorem Cls.get {K : PySem.W.Frag} {C : Addr} (c : Cls K C) (f : Str) : PySem.W.plainGet K C f = true := c.pg
def NoAttr (K : PySem.W.Frag) (C : Addr) (f : Str) : Prop := PySem.W.findIn K (.ref C) f = some none
theorem NoAttr.taker {K : PySem.W.Frag} {C : Addr} {f : Str} (n : NoAttr K C f) : PySem.W.takerIn K C f = some none := by
  unfold PySem.W.takerIn
  rw [show PySem.W.findIn K (.ref C) f = some none from n]
  rfl
structure Con (K : PySem.W.Frag) (C : Addr) (f : Str) (v : V) (u : Value) : Prop where
  at_ : PySem.W.findIn K (.ref C) f = some (some u)
  rel : RelV v u
  get : PySem.W.specialIn K u "__get__" = some none
  cp : PySem.W.copiedNames.contains f = false
structure Meth (K : PySem.W.Frag) (C : Addr) (m : Str) (f : Addr) : Prop where
  at_ : PySem.W.findIn K (.ref C) m = some (some (.ref f))
  fn : PySem.W.isFn K (.ref f) = true
  kp : PySem.W.keepIn K (.ref f) = true

section
variable {X : Cx} {pins : List (Addr × Obj)} {σ : St} {H : Hp} {s : Shared} {a C dx : Addr} {fs : List (Str × V)} {f : Str} {v : V} {A : Around} {E : Value → Shared → Prop}

theorem getattr_ok {b : Bool} {Q : Value → Shared → Prop} (I : Inv X pins σ H s) (e : H a = some (.ins C dx fs)) (c : Cls X.K C) (n : NoAttr X.K C f) (l : fs.lookup f = some v)
    (h : ∀ u s', Inv X pins σ H s' → RelV v u → Q u s') : wpAny (model X.prog X.w) A (getAttr (.ref a) f b) Q E s := by
  obtain ⟨mA, O, r, _, _, _⟩ := ins_get I.hok e
  obtain ⟨u, hu, ru⟩ := RelO.some_of (v := v) (o := mA f) (by rw [← l]; exact r f)
  exact get_map I.kIn O (c.get f) c.hd n hu (handed_of ru) (h u _ (I.tok _) ru)

theorem setattr_ok {y : V} {u : Value} {Q : Unit → Shared → Prop} (I : Inv X pins σ H s) (e : H a = some (.ins C dx fs)) (c : Cls X.K C) (n : NoAttr X.K C f) (hl : fs.length < 1000) (ry : RelV y u)
    (h : ∀ s', Inv X pins σ (upd H a (.ins C dx (putF f y fs))) s' → Q () s') : wpAny (model X.prog X.w) A (setAttr (.ref a) f u) Q E s := by
  obtain ⟨mA, O, r, wi, _, ho⟩ := ins_get I.hok e
  have hz : (fs.map (·.1)).length ≤ sizeLine := by rw [List.length_map, sizeLine_eq]; omega
  refine set_map I.kIn O c.sa c.po n.taker c.hd wi hz fun h' O' sb => h _ ?_
  have hd : ∃ o, h'.get? dx = some o := let ⟨o, _, _, e', _⟩ := O'.ns; ⟨o, e'⟩
  refine I.write (x := a) (e := dx) (by rw [e]; exact True.intro) (.inr ho) (fun b q hb z => (sb.2 b hb).trans z) hd ?_
  refine ⟨by rw [upd_ne O.ne]; exact ho, ?_, O.ne, O'.obj, _, O'.ns, fun g => ?_, fun g hg => ?_⟩
  · have := length_putF f y fs; omega
  · show RelO ((putF f y fs).lookup g) (if g = f then some u else mA g)
    rw [lookup_putF]
    by_cases q : g = f
    · rw [if_pos q, if_pos q]; exact ry
    · rw [if_neg q, if_neg q]; exact r g
  · by_cases q : g = f
    · rw [q]; exact (keys_putF f y fs).1
    · refine (keys_putF f y fs).2 g (wi g fun z => hg ?_)
      show (if g = f then some u else mA g) = none
      rw [if_neg q]; exact z

theorem Inv.made (I : Inv X pins σ H s) : Inv X pins σ (upd (upd H s.heap.objs.size (.own (s.heap.objs.size + 1))) (s.heap.objs.size + 1) (.ins C s.heap.objs.size []))
    { s with heap := (s.heap.push PySem.W.emptyDict).push (PySem.W.instObj C s.heap.objs.size) } := by
  have e1 : (s.heap.push PySem.W.emptyDict).get? s.heap.objs.size = some PySem.W.emptyDict := Heap.get?_push_size s.heap rfl
  have e2 : ((s.heap.push PySem.W.emptyDict).push (PySem.W.instObj C s.heap.objs.size)).get? (s.heap.objs.size + 1) = some (PySem.W.instObj C s.heap.objs.size) := by
    have := Heap.get?_push_size (s.heap.push PySem.W.emptyDict) (o := PySem.W.instObj C s.heap.objs.size) rfl
    rwa [Heap.size_push] at this
  have e3 : (s.heap.push PySem.W.emptyDict).Ns s.heap.objs.size (fun _ => none) := ⟨PySem.W.emptyDict, #[], _, e1, rfl, (fun e he => absurd he (by simp)), fun _ => rfl⟩
  have I1 := I.laid (a := s.heap.objs.size) (o := .own (s.heap.objs.size + 1)) (h' := s.heap.push PySem.W.emptyDict) (t' := s.toks) (fun b u q => Heap.get?_push_of_some _ q) (Nat.le_refl _) ⟨_, e1⟩
  refine I1.laid (a := s.heap.objs.size + 1) (o := .ins C s.heap.objs.size []) (t' := s.toks) (fun b u q => Heap.get?_push_of_some _ q) (Nat.le_of_eq (Heap.size_push _ _)) ?_
  have ne : s.heap.objs.size ≠ s.heap.objs.size + 1 := Nat.ne_of_lt (Nat.lt_succ_self _)
  refine ⟨by rw [upd_ne ne, upd_same], Nat.zero_le _, ne, e2, fun _ => none, (Heap.Ns1.of_empty e3).at fun o q => Heap.get?_push_of_some _ q, fun _ => True.intro, fun y hy => absurd rfl hy⟩

theorem attr_of {prog : Program} {w : World} {env : Env} {e : Expr} {f : Str} {pos : Pos} {s : Shared} {Q : Value → Shared → Prop} (hb : attributeBase e f env (eval e env) = eval e env)
    (h : wpAny (model prog w) A (eval e env) (fun o s₁ => wpAny (model prog w) A (getAttr o f true) Q E s₁) E s) : wpAny (model prog w) A (eval (.Attribute e f pos) env) Q E s :=
  Attribute_any_ h (by rw [arm_eval_Attribute, hb])
end

def tFld (K : PySem.W.Frag) (ta : TE) (f : Str) : TE := fun σ H Q => ta σ H fun x H1 => ∃ a C dx fs v, x = .ref a ∧ H1 a = some (.ins C dx fs) ∧ Cls K C ∧ NoAttr K C f ∧ fs.lookup f = some v ∧ Q v H1
def sFld (K : PySem.W.Frag) (ta tv : TE) (f : Str) : TS := fun D σ H => tv σ H fun y H1 => ta σ H1 fun x H2 => ∃ a C dx fs, x = .ref a ∧ H2 a = some (.ins C dx fs) ∧ Cls K C ∧ NoAttr K C f ∧ fs.length < 1000 ∧
  D.nx σ (upd H2 a (.ins C dx (putF f y fs)))
section
variable {X : Cx} {o e value : Expr} {f : Str} {pos pos' tpos : Pos} {ta tv : TE}
theorem pe_fld (he : PE X e ta) (hb : attributeBase e f X.env (eval e X.env) = eval e X.env) : PE X (.Attribute e f pos) (tFld X.K ta f) := by
  intro pins s σ H Q I h
  refine attr_of hb (thn (he pins s σ H _ I h) fun u s1 ⟨x, H1, I1, rx, a, C, dx, fs, v, ex, ea, c, n, l, q⟩ => ?_)
  subst ex
  obtain rfl : u = Value.ref a := rx
  exact getattr_ok I1 ea c n l fun u' s2 I2 ru => ⟨v, H1, I2, ru, q⟩
theorem ps_fld (ha : PE X o ta) (hv : PE X value tv) (hs : swapsWith value (some (.Attribute o f pos')) pos.line X.env = pure false) : PS X (.Assign [.Attribute o f pos'] value pos) (sFld X.K ta tv f) := by
  intro pins s σ H D I h
  refine plainObj_wpAny_Assign_Attribute (thn (hv pins s σ H _ I h) fun u s1 ⟨y, H1, I1, ry, q⟩ => thn (ha pins s1 σ H1 _ I1 q) fun ov s2 ⟨x, H2, I2, rx, a, C, dx, fs, ex, ea, c, n, l, q2⟩ => ?_) hs
  subst ex
  obtain rfl : ov = Value.ref a := rx
  exact setattr_ok I2 ea c n l ry fun s3 I3 => ⟨σ, _, I3, q2⟩
end

section
variable {X : Cx} {pins : List (Addr × Obj)} {σ : St} {H : Hp} {s : Shared} {A : Around} {E : Value → Shared → Prop} {Q : Value → Shared → Prop} {c : Value} {b : Bool}
inductive TyOf (K : PySem.W.Frag) (H : Hp) : V → Value → Prop where
  | non : TyOf K H .non (.type "NoneType")
  | bl (x : Bool) : TyOf K H (.bl x) (.type "bool")
  | int (i : Int) : TyOf K H (.int i) (.type "int")
  | str (x : Str) : TyOf K H (.str x) (.type "str")
  | flt (x : UInt64) : TyOf K H (.flt x) (.type "float")
  | lst {a : Addr} {xs : List V} (e : H a = some (.lst xs)) : TyOf K H (.ref a) (.type "list")
  | frz {a : Addr} {o : Obj} {xs : List V} (e : H a = some (.frz o (.lst xs))) : TyOf K H (.ref a) (.type "list")
  | tup {a : Addr} {xs : List V} (e : H a = some (.tup xs)) : TyOf K H (.ref a) (.type "tuple")
  | dK {a : Addr} {kvs : List (Key × V)} (e : H a = some (.dK kvs)) : TyOf K H (.ref a) (.type "dict")
  | dT {a : Addr} {kvs : List (List Key × V)} (e : H a = some (.dT kvs)) : TyOf K H (.ref a) (.type "dict")
  | ins {a C dx : Addr} {fs : List (Str × V)} (e : H a = some (.ins C dx fs)) (cl : Cls K C) (ha : PySem.W.findIn K (.ref C) "__class__" = some (some (.builtin "object.__class__")))
      (hn : PySem.W.specialIn K (.builtin "object.__class__") "__get__" = some (some (.builtin "getset_descriptor.__get__"))) (htk : PySem.W.takesIn K (.builtin "object.__class__") = some true)
      (hm : PySem.W.mroIn K C (.type "object") = some true) : TyOf K H (.ref a) (.ref C)
theorem isinst_ok {x : V} {u t : Value} (I : Inv X pins σ H s) (rx : RelV x u) (ty : TyOf X.K H x t) (e : PySem.W.kitOne X.K t c = some b) (h : ∀ tk, Q (.bool b) { s with toks := tk }) :
    wpAny (model X.prog X.w) A (call (.builtin "isinstance") [u, c]) Q E s := by
  cases ty with
  | non => cases (show u = Value.none from rx); exact PySem.W.kia_one PySem.W.kitx_none I.kIn True.intro e (fun z => nomatch z) h
  | bl y => cases (show u = Value.bool y from rx); exact PySem.W.kia_one PySem.W.kitx_bool I.kIn True.intro e (fun z => nomatch z) h
  | int i => obtain ⟨t, q⟩ := (show ∃ t, u = Value.int i t from rx); cases q; exact PySem.W.kia_one PySem.W.kitx_int I.kIn True.intro e (fun z => nomatch z) h
  | str y => obtain ⟨t, q⟩ := (show ∃ t, u = Value.str y t from rx); cases q; exact PySem.W.kia_one PySem.W.kitx_str I.kIn True.intro e (fun z => nomatch z) h
  | flt y => obtain ⟨t, q⟩ := (show ∃ t, u = Value.float y t from rx); cases q; exact PySem.W.kia_one PySem.W.kitx_float I.kIn True.intro e (fun z => nomatch z) h
  | @lst a xs ea =>
    cases (show u = Value.ref a from rx)
    obtain ⟨_, _, n, _, h1⟩ := (show ObjOk X.prog X.w H s.heap a (.lst xs) from I.hok a _ ea)
    exact PySem.W.kia_one PySem.W.kitx_list I.kIn ⟨_, h1, rfl⟩ e (fun z => nomatch z) h
  | @frz a ob xs ea =>
    cases (show u = Value.ref a from rx)
    obtain ⟨_, _, _, n, _, h1⟩ := (show ObjOk X.prog X.w H s.heap a (.frz ob (.lst xs)) from I.hok a _ ea)
    exact PySem.W.kia_one PySem.W.kitx_list I.kIn ⟨_, h1, rfl⟩ e (fun z => nomatch z) h
  | @tup a xs ea =>
    cases (show u = Value.ref a from rx)
    obtain ⟨_, _, _, p⟩ := (show ObjOk X.prog X.w H s.heap a (.tup xs) from I.hok a _ ea)
    obtain ⟨o, h1, h2, _⟩ := p
    exact PySem.W.kia_one PySem.W.kitx_tuple I.kIn ⟨o, h1, h2⟩ e (fun z => nomatch z) h
  | @dK a kvs ea =>
    cases (show u = Value.ref a from rx)
    obtain ⟨_, _, vs, _, p⟩ := (show ObjOk X.prog X.w H s.heap a (.dK kvs) from I.hok a _ ea)
    obtain ⟨o, es, ep, h1, h2, _⟩ := p
    exact PySem.W.kia_one PySem.W.kitx_dict I.kIn ⟨o, h1, h2.1⟩ e (fun z => nomatch z) h
  | @dT a kvs ea =>
    cases (show u = Value.ref a from rx)
    obtain ⟨_, _, xs, _, o, es, ep, h1, h2, _⟩ := (show ObjOk X.prog X.w H s.heap a (.dT kvs) from I.hok a _ ea)
    exact PySem.W.kia_one PySem.W.kitx_dict I.kIn ⟨o, h1, h2.1⟩ e (fun z => nomatch z) h
  | @ins a C dx fs ea cl ha hn htk hm =>
    cases (show u = Value.ref a from rx)
    obtain ⟨mA, O, _⟩ := ins_get I.hok ea
    obtain ⟨od, J, _⟩ := O.look
    exact PySem.W.kia_one (PySem.W.kitx_own (cl.get _) cl.hd ha hn htk hm) I.kIn J e (fun z => nomatch z) h
end
end L2

namespace L2
open PySem PySem.Spec PyProof.Rows

structure Room (k : Nat) (A : Around) : Prop where
  hd : A.handled = none
  dp : A.depth + 3 * k + 5 < recursionLimit
  un : A.units + 16 * k + 200 < cLine
theorem Room.mono {j k : Nat} {A : Around} (r : Room k A) (h : j ≤ k) : Room j A := ⟨r.hd, by have := r.dp; omega, by have := r.un; omega⟩
theorem Room.deeper {k : Nat} {A : Around} (r : Room (k + 1) A) (env : Env) : Room k (A.deeper env) :=
  ⟨r.hd, by have := r.dp; show A.depth + 1 + 3 * k + 5 < _; omega, by have := r.un; show A.units + 3 + 16 * k + 200 < _; omega⟩
theorem Room.in1 {k : Nat} {A : Around} (r : Room (k + 1) A) : Room k A.in1 :=
  ⟨r.hd, by have := r.dp; show A.depth + 3 * k + 5 < _; omega, by have := r.un; show A.units + 1 + 16 * k + 200 < _; omega⟩
theorem make_depth {A : Around} {C : Addr} {us : List Value} {kw : List (Str × Value)} : (A.under (.builtin "type.__call__" ⟨.ref C :: us, kw⟩)).depth = A.depth + 1 := by
  first | rfl | simp [Around.under, Code.weight, Code.isCreation, Code.isGuard, Code.isCaller, Code.frames, Code.isFrame, guardIds]
theorem make_units {A : Around} {C : Addr} {us : List Value} {kw : List (Str × Value)} : (A.under (.builtin "type.__call__" ⟨.ref C :: us, kw⟩)).units = A.units + 1 := by
  first | rfl | simp [Around.under, Code.cUnits, Code.frames, Code.isFrame]
theorem Room.make {k : Nat} {A : Around} (r : Room (k + 1) A) (C : Addr) (us : List Value) (kw : List (Str × Value)) : Room k (A.under (.builtin "type.__call__" ⟨.ref C :: us, kw⟩)) :=
  ⟨r.hd, by have := r.dp; rw [make_depth]; omega, by have := r.un; rw [make_units]; omega⟩
theorem Room.depth {k : Nat} {A : Around} (r : Room k A) : A.depth < recursionLimit := by have := r.dp; omega
theorem Room.units {k : Nat} {A : Around} (r : Room k A) : A.units + 64 < cLine := by have := r.un; omega
def tNil : TA := fun _ H Q => Q [] H
def tCons (ta : TE) (tr : TA) : TA := fun σ H Q => ta σ H fun x H1 => tr σ H1 fun xs H2 => Q (x :: xs) H2
section
variable {X : Cx} {e : Expr} {es : List Expr} {te : TE} {t : TA} {pos : Pos}
theorem pa_nil : PA X [] tNil := fun _ _ _ _ H Q I h => Calls.spliced_nil ⟨[], H, I, .nil, h⟩
theorem pa_cons (ha : PE X e te) (hr : PA X es t) (hs : starEach (e :: es) X.env = (false, eval e X.env) :: starEach es X.env := by rfl) : PA X (e :: es) (tCons te t) := by
  intro pos pins s σ H Q I h
  rw [hs]
  show wpAny _ _ (spliced ((false, eval e X.env) :: backTo pos (starEach es X.env))) _ _ s
  refine Calls.spliced_cons (thn (ha pins s σ H _ I h) fun u s1 ⟨x, H1, I1, r1, q1⟩ => ?_)
  exact thn (hr pos pins s1 σ H1 _ I1 q1) fun us s2 ⟨xs, H2, I2, r2, q2⟩ => ⟨x :: xs, H2, I2, .cons r1 r2, q2⟩

def tTup (t : TA) : TE := fun σ H Q => t σ H fun xs H1 => xs.length ≤ sizeLine ∧ ∀ p, H1 p = none → Q (.ref p) (upd H1 p (.tup xs))
def tLst (t : TA) : TE := fun σ H Q => t σ H fun xs H1 => xs.length ≤ sizeLine ∧ ∀ p, H1 p = none → Q (.ref p) (upd H1 p (.lst xs))
theorem pe_tup {x1} (h : PA X es t) : PE X (.Tuple es x1 pos) (tTup t) := by
  intro pins s σ H Q I hq
  refine wpAny_Tuple_spliced (thn (h pos pins s σ H _ I hq) fun us s1 ⟨xs, H1, I1, r, z, q⟩ => ⟨by rw [← r.length]; exact z, ?_⟩)
  have hf : H1 s1.heap.objs.size = none := I1.hok.fresh (Nat.le_refl _)
  refine ⟨.ref s1.heap.objs.size, upd H1 s1.heap.objs.size (.tup xs), I1.laid (t' := s1.toks) (fun b u e => Heap.get?_push_of_some _ e) (Nat.le_refl _) ?_, rfl, q _ hf⟩
  exact ⟨z, us, r, ⟨_, Heap.get?_push_size _ rfl, rfl, _, rfl⟩⟩
theorem pe_lst (h : PA X es t) : PE X (.List es pos) (tLst t) := by
  intro pins s σ H Q I hq
  refine wpAny_List_spliced (thn (h pos pins s σ H _ I hq) fun us s1 ⟨xs, H1, I1, r, z, q⟩ => ⟨by rw [← r.length]; exact z, ?_⟩)
  have hf : H1 s1.heap.objs.size = none := I1.hok.fresh (Nat.le_refl _)
  refine ⟨.ref s1.heap.objs.size, upd H1 s1.heap.objs.size (.lst xs), I1.laid (t' := s1.toks) (fun b u e => Heap.get?_push_of_some _ e) (Nat.le_refl _) ?_, rfl, q _ hf⟩
  exact ⟨z, us, 0, r, Heap.get?_push_size _ rfl⟩
end

abbrev Sp := List V → Hp → VK → XK → Prop
abbrev CXT := List Env → Hp → Shared → XK → Value → Shared → Prop

structure Env0 (P : Program) (w : World) (K : PySem.W.Frag) (mg : Str → Option Value) (base : Heap) (A : Around) (outer : List Env) (s : Shared) (H : Hp) : Prop where
  frames : A.frames = some outer
  mod : Mod K mg base
  bs : ∀ b o, base.get? b = some o → s.heap.get? b = some o ∧ H b = none
  bsz : base.objs.size ≤ s.heap.objs.size
  funs : s.heap.FunFrames base outer
  frf : ∀ b ∈ frs outer, H b = none
  hok : HOk P w H s.heap
  bare : AllBare s.gens
def CE (outer : List Env) (P : Program) (w : World) (H : Hp) (s : Shared) (Q : VK) (u : Value) (s' : Shared) : Prop :=
  ∃ v H', s'.os = s.os ∧ AllBare s'.gens ∧ Un (frs outer) [] H H' s.heap s'.heap ∧ HOk P w H' s'.heap ∧ RelV v u ∧ Q v H'
def CR (CX : CXT) (outer : List Env) (P : Program) (w : World) (H : Hp) (s : Shared) (Q : VK) (E : XK) (r : Result) (s' : Shared) : Prop :=
  match r with
  | .ok (.ret u) => CE outer P w H s Q u s'
  | .ok _ => False
  | .error e => CX outer H s E e s'
structure FnOk (P : Program) (w : World) (K : PySem.W.Frag) (mg : Str → Option Value) (base : Heap) (CX : CXT) (k : Nat) (f : Addr) (fd : FuncData) (ps : List Str) (sp : Sp) : Prop where
  len : ∀ vs H Q E, sp vs H Q E → vs.length = ps.length
  run : ∀ (A : Around) (outer : List Env) (s : Shared) (H : Hp) (args : Args) (us : List Value) (vs : List V) (Q : VK) (E : XK), Room k A → Env0 P w K mg base A outer s H → BindsTo s fd args (ps.zip us) → Vals vs us → sp vs H Q E →
    codeAny (model P w) A (.call (.ref f) args) (CR CX outer P w H s Q E) s
theorem FnOk.mono {P : Program} {w : World} {K : PySem.W.Frag} {mg : Str → Option Value} {base : Heap} {CX : CXT} {j k : Nat} {f : Addr} {fd : FuncData} {ps : List Str} {sp : Sp} (F : FnOk P w K mg base CX j f fd ps sp) (h : j ≤ k) :
    FnOk P w K mg base CX k f fd ps sp := ⟨F.len, fun A outer s H args us vs Q E hr => F.run A outer s H args us vs Q E (hr.mono h)⟩
theorem FnOk.imp {P : Program} {w : World} {K : PySem.W.Frag} {mg : Str → Option Value} {base : Heap} {CX : CXT} {k : Nat} {f : Addr} {fd : FuncData} {ps : List Str} {sp sp' : Sp} (F : FnOk P w K mg base CX k f fd ps sp)
    (h : ∀ vs H Q E, sp' vs H Q E → sp vs H Q E) : FnOk P w K mg base CX k f fd ps sp' :=
  ⟨fun vs H Q E q => F.len vs H Q E (h _ _ _ _ q), fun A outer s H args us vs Q E hr he hb hv hs => F.run A outer s H args us vs Q E hr he hb hv (h _ _ _ _ hs)⟩

theorem Env0.make {P : Program} {w : World} {K : PySem.W.Frag} {mg : Str → Option Value} {base : Heap} {A : Around} {outer : List Env} {s : Shared} {H : Hp} (e : Env0 P w K mg base A outer s H) (C : Addr) (us : List Value) (kw : List (Str × Value)) :
    Env0 P w K mg base (A.under (.builtin "type.__call__" ⟨.ref C :: us, kw⟩)) outer s H := ⟨by first | exact e.frames | (simpa [Around.under, Code.envs, Code.isFrame, pushEnvs] using e.frames), e.mod, e.bs, e.bsz, e.funs, e.frf, e.hok, e.bare⟩
theorem Env0.in1 {P : Program} {w : World} {K : PySem.W.Frag} {mg : Str → Option Value} {base : Heap} {A : Around} {outer : List Env} {s : Shared} {H : Hp} (e : Env0 P w K mg base A outer s H) :
    Env0 P w K mg base A.in1 outer s H := ⟨e.frames, e.mod, e.bs, e.bsz, e.funs, e.frf, e.hok, e.bare⟩

section
variable {X : Cx} {pins : List (Addr × Obj)} {σ : St} {H : Hp} {s s' : Shared}
theorem Inv.env0 (I : Inv X pins σ H s) : Env0 X.prog X.w X.K X.mg X.base X.A X.stack s H :=
  ⟨I.ok.frames, I.ok.mod, I.bs, Nat.le_trans I.ok.bsz I.sz, I.stack, I.stkFree, I.hok, I.bare⟩
theorem Inv.after {Q : VK} {u : Value} (I : Inv X pins σ H s) (h : CE X.stack X.prog X.w H s Q u s') : EP X pins σ Q u s' := by
  obtain ⟨v, H', os, bare, un, hok, r, q⟩ := h
  obtain ⟨hh, g, d, t, os'⟩ := s'
  obtain rfl : os' = s.os := os
  exact ⟨v, H', I.call (h' := hh) (g' := g) (d' := d) (t' := t) (ch := []) un hok bare (fun b z => absurd z (by simp)), r, q⟩
end

def tCall (sp : Sp) (dvs : List V) (E : XK) (t : TA) : TE := fun σ H Q => t σ H fun vs H1 => sp (vs ++ dvs) H1 Q E
def tMake (C : Addr) (sp : Sp) (dvs : List V) (E : XK) (t : TA) : TE := fun σ H Q => t σ H fun vs H1 => ∀ x dx, H1 x = none → H1 dx = none → dx ≠ x →
  sp (.ref x :: (vs ++ dvs)) (upd (upd H1 dx (.own x)) x (.ins C dx [])) (fun v H2 => v = .non ∧ Q (.ref x) H2) E

def Binds (K : PySem.W.Frag) (fd : FuncData) (ps : List Str) (ds : List Value) : Prop :=
  ∀ (s : Shared) (us : List Value), K.In s.heap → (us ++ ds).length = ps.length → BindsTo s fd ⟨us, []⟩ (ps.zip (us ++ ds))
theorem Binds.all {K : PySem.W.Frag} {fd : FuncData} {ps : List Str} (h : ∀ us : List Value, us.length = ps.length → bindArgs fd ⟨us, []⟩ = pure (ps.zip us)) : Binds K fd ps [] := fun s us _ hl => by
  rw [List.append_nil] at hl ⊢
  exact .of_eq (h us hl)

def Passes (CX : CXT) (X : Cx) (E : XK) : Prop := ∀ (pins : List (Addr × Obj)) (σ : St) (H : Hp) (s : Shared) (e : Value) (s' : Shared), Inv X pins σ H s → CX X.stack H s E e s' → X.xe e s'

section
variable {X : Cx} {CX : CXT} {k : Nat} {f C : Addr} {fd : FuncData} {ps : List Str} {sp : Sp} {dvs : List V} {ds : List Value} {E : XK} {x m : Str} {p pos apos : Pos} {e o : Expr} {es : List Expr} {ta : TE} {t : TA}

theorem run_fn {pins : List (Addr × Obj)} {σ : St} {H : Hp} {s : Shared} {Q : VK} {us : List Value} {vs : List V} (F : FnOk X.prog X.w X.K X.mg X.base CX k f fd ps sp) (hr : Room k X.A) (hb : Binds X.K fd ps ds) (hd : Vals dvs ds) (hx : Passes CX X E)
    (I : Inv X pins σ H s) (r : Vals vs us) (h : sp (vs ++ dvs) H Q E) : wpAny (model X.prog X.w) X.A (call (.ref f) us) (EP X pins σ Q) X.xe s := by
  have r2 : Vals (vs ++ dvs) (us ++ ds) := r.append hd
  have hl : (us ++ ds).length = ps.length := by rw [← r2.length]; exact F.len _ _ _ _ h
  refine wpAny_call (codeAny_mono (F.run X.A X.stack s H ⟨us, []⟩ (us ++ ds) (vs ++ dvs) Q E hr I.env0 (hb s us I.kIn hl) r2 h) fun r s' hq => ?_)
  cases r with
  | error e => exact hx pins σ H s e s' I hq
  | ok fl =>
    cases fl with
    | ret u => exact I.after hq
    | next => exact False.elim hq
    | brk => exact False.elim hq
    | cont => exact False.elim hq

theorem pe_call (F : FnOk X.prog X.w X.K X.mg X.base CX k f fd ps sp) (hr : Room k X.A) (hg : Gl X x) (hm : X.mg x = some (.ref f)) (hk : PySem.W.keepIn X.K (.ref f) = true) (hb : Binds X.K fd ps ds) (hd : Vals dvs ds) (hx : Passes CX X E)
    (ha : PA X (e :: es) t) (hdb : (x == ("__debug__" : Str)) = false := by decide) (he : starEach (e :: es) X.env = (false, eval e X.env) :: starEach es X.env := by rfl) (hpl : (backTo pos (starEach es X.env)).any (·.1) = false := by rfl) :
    PE X (.Call (.Name x p) (e :: es) [] pos) (tCall sp dvs E t) := by
  intro pins s σ H Q I h
  refine wpAny_Call_Name_kw (ld_glob I hg hm ?_ hdb)
  refine PySem.W.callWith_K (h₀ := X.base) I.ok.mod.kin hk (thn (ha pos pins s σ H _ I h) fun us s1 ⟨vs, H1, I1, r, q⟩ => ⟨I1.kIn, ?_⟩) he hpl
  exact run_fn F hr hb hd hx I1 r q
structure Mk (K : PySem.W.Frag) (C f : Addr) : Prop where
  makes : PySem.W.makesIn K C = true
  init : PySem.W.findIn K (.ref C) "__init__" = some (some (.ref f))
  fn : PySem.W.isFn K (.ref f) = true
  kp : PySem.W.keepIn K (.ref C) = true

theorem run_make {pins : List (Addr × Obj)} {σ : St} {H : Hp} {s : Shared} {Q : VK} {us : List Value} {vs : List V} (M : Mk X.K C f) (F : FnOk X.prog X.w X.K X.mg X.base CX k f fd ps sp) (hr : Room (k + 1) X.A) (hb : Binds X.K fd ps ds) (hd : Vals dvs ds)
    (hx : Passes CX X E) (I : Inv X pins σ H s) (r : Vals vs us)
    (h : ∀ x dx, H x = none → H dx = none → dx ≠ x → sp (.ref x :: (vs ++ dvs)) (upd (upd H dx (.own x)) x (.ins C dx [])) (fun v H2 => v = .non ∧ Q (.ref x) H2) E) :
    wpAny (model X.prog X.w) X.A (call (.ref C) us) (EP X pins σ Q) X.xe s := by
  have hq := h (s.heap.objs.size + 1) s.heap.objs.size (I.hok.fresh (Nat.le_succ _)) (I.hok.fresh (Nat.le_refl _)) (Nat.ne_of_lt (Nat.lt_succ_self _))
  have I2 := Inv.made (C := C) I
  have r2 : Vals (V.ref (s.heap.objs.size + 1) :: (vs ++ dvs)) (Value.ref (s.heap.objs.size + 1) :: (us ++ ds)) := .cons rfl (r.append hd)
  have hl : (Value.ref (s.heap.objs.size + 1) :: us ++ ds).length = ps.length := by
    have e := r2.length
    rw [F.len _ _ _ _ hq] at e
    exact e.symm
  refine wpAny_call (make_map (f := f) I.kIn M.makes M.init (beq_iff_eq.mp M.fn) (codeAny_mono (F.run _ X.stack _ _ ⟨Value.ref (s.heap.objs.size + 1) :: us, []⟩ (Value.ref (s.heap.objs.size + 1) :: (us ++ ds)) _ _ E (hr.make C us [])
    (I2.env0.make C us []) (hb _ (Value.ref (s.heap.objs.size + 1) :: us) I2.kIn hl) r2 hq) fun r s' hq' => ?_))
  cases r with
  | error e => exact hx pins σ _ _ e s' I2 hq'
  | ok fl =>
    cases fl with
    | ret u =>
      obtain ⟨v, H', I3, rv, ev, q3⟩ := I2.after hq'
      subst ev
      exact ⟨rv, ⟨V.ref (s.heap.objs.size + 1), H', I3, rfl, q3⟩⟩
    | next => exact False.elim hq'
    | brk => exact False.elim hq'
    | cont => exact False.elim hq'
theorem pe_make (M : Mk X.K C f) (F : FnOk X.prog X.w X.K X.mg X.base CX k f fd ps sp) (hr : Room (k + 1) X.A) (hg : Gl X x) (hm : X.mg x = some (.ref C)) (hb : Binds X.K fd ps ds) (hd : Vals dvs ds) (hx : Passes CX X E)
    (ha : PA X (e :: es) t) (hdb : (x == ("__debug__" : Str)) = false := by decide) (he : starEach (e :: es) X.env = (false, eval e X.env) :: starEach es X.env := by rfl) (hpl : (backTo pos (starEach es X.env)).any (·.1) = false := by rfl) :
    PE X (.Call (.Name x p) (e :: es) [] pos) (tMake C sp dvs E t) := by
  intro pins s σ H Q I h
  refine wpAny_Call_Name_kw (ld_glob I hg hm ?_ hdb)
  refine PySem.W.callWith_K (h₀ := X.base) I.ok.mod.kin M.kp (thn (ha pos pins s σ H _ I h) fun us s1 ⟨vs, H1, I1, r, q⟩ => ⟨I1.kIn, ?_⟩) he hpl
  exact run_make M F hr hb hd hx I1 r q
end

section
variable {X : Cx} {CX : CXT} {k : Nat} {f C : Addr} {fd : FuncData} {ps ks : List Str} {sp : Sp} {E : XK} {x m : Str} {p pos apos kpos : Pos} {e o : Expr} {es : List Expr} {kws : List Keyword} {te ta : TE} {t tk : TA} {nm : Option Str}
structure KBinds (K : PySem.W.Frag) (fd : FuncData) (ps ks : List Str) (g : List Value → List Value → List Value) (gV : List V → List V → List V) : Prop where
  to : ∀ (s : Shared) (us ws : List Value), K.In s.heap → (g us ws).length = ps.length → BindsTo s fd ⟨us, ks.zip ws⟩ (ps.zip (g us ws))
  rel : ∀ {vs : List V} {us : List Value} {zs : List V} {ws : List Value}, Vals vs us → Vals zs ws → Vals (gV vs zs) (g us ws)
variable {g : List Value → List Value → List Value} {gV : List V → List V → List V}
end

structure FnScope (N P : List Str) (sc : Scope) : Prop where
  kind : sc.kind = .function
  co : sc.isCoroutine = false
  gen : sc.isGenerator = false
  nd : N.Nodup
  pre : N.take P.length = P
  par : ∀ x ∈ P, sc.names.lookup x = some .local ∨ sc.names.lookup x = some .cell
  nofree : ∀ y ∈ sc.names, y.2 ≠ .free

theorem bindL_out {kindOf : Str → Option NameKind} {x : Str} : ∀ {binds : List (Str × Value)} {m : Str → Option Value}, (∀ v, (x, v) ∉ binds) → bindL kindOf binds m x = m x
  | [], _, _ => rfl
  | (n, v) :: r, m, h => by
    unfold bindL
    rw [bindL_out fun w hw => h w (List.mem_cons_of_mem _ hw)]
    split
    · have : x ≠ n := by rintro rfl; exact h v List.mem_cons_self
      simp [this]
    · rfl
theorem bindC_out {kindOf : Str → Option NameKind} {x : Str} : ∀ {binds : List (Str × Value)} {m : Str → Option Value}, (∀ v, (x, v) ∉ binds) → bindC kindOf binds m x = m x
  | [], _, _ => rfl
  | (n, v) :: r, m, h => by
    unfold bindC
    rw [bindC_out fun w hw => h w (List.mem_cons_of_mem _ hw)]
    split
    · rfl
    · have : x ≠ n := by rintro rfl; exact h v List.mem_cons_self
      simp [this]
theorem bindL_get {kindOf : Str → Option NameKind} {x : Str} {v : Value} : ∀ {P : List Str} {vs : List Value} {i : Nat} {m : Str → Option Value}, P.Nodup → P[i]? = some x → vs[i]? = some v → kindOf x = some .local →
    bindL kindOf (P.zip vs) m x = some v
  | [], _, _, _, _, h, _, _ => by simp at h
  | _ :: _, [], _, _, _, _, h, _ => by simp at h
  | p :: P, w :: vs, 0, m, nd, h1, h2, hk => by
    simp at h1 h2; subst h1; subst h2
    show bindL kindOf ((p, w) :: P.zip vs) m p = _
    unfold bindL
    rw [bindL_out fun v hv => (List.nodup_cons.mp nd).1 (List.of_mem_zip hv).1, if_pos hk]
    simp
  | p :: P, w :: vs, i + 1, m, nd, h1, h2, hk => by
    show bindL kindOf ((p, w) :: P.zip vs) m x = _
    unfold bindL
    exact bindL_get (i := i) (List.nodup_cons.mp nd).2 (by simpa using h1) (by simpa using h2) hk
theorem bindC_get {kindOf : Str → Option NameKind} {x : Str} {v : Value} : ∀ {P : List Str} {vs : List Value} {i : Nat} {m : Str → Option Value}, P.Nodup → P[i]? = some x → vs[i]? = some v → kindOf x ≠ some .local →
    bindC kindOf (P.zip vs) m x = some v
  | [], _, _, _, _, h, _, _ => by simp at h
  | _ :: _, [], _, _, _, _, h, _ => by simp at h
  | p :: P, w :: vs, 0, m, nd, h1, h2, hk => by
    simp at h1 h2; subst h1; subst h2
    show bindC kindOf ((p, w) :: P.zip vs) m p = _
    unfold bindC
    rw [bindC_out fun v hv => (List.nodup_cons.mp nd).1 (List.of_mem_zip hv).1, if_neg hk]
    simp
  | p :: P, w :: vs, i + 1, m, nd, h1, h2, hk => by
    show bindC kindOf ((p, w) :: P.zip vs) m x = _
    unfold bindC
    exact bindC_get (i := i) (List.nodup_cons.mp nd).2 (by simpa using h1) (by simpa using h2) hk

def start (N : List Str) (vs : List V) : St := vs.map some ++ List.replicate (N.length - vs.length) none

def cxOf (CX : CXT) (P : Program) (w : World) (K : PySem.W.Frag) (mg : Str → Option Value) (base : Heap) (N : List Str) (qual : Str) (scope : Scope) (f : Addr) (cd : Value) (A : Around) (outer : List Env) (s : Shared) (H : Hp) (E : XK) : Cx where
  prog := P
  w := w
  K := K
  mg := mg
  base := base
  A := A.deeper (envOfC qual scope s.heap.objs.size f cd)
  N := N
  s₀ := s
  H₀ := H
  env := envOfC qual scope s.heap.objs.size f cd
  outer := outer
  stack := envOfC qual scope s.heap.objs.size f cd :: outer
  ex := []
  calm := true
  fn := fun _ => true
  pn := []
  xe := fun e s' => wpAny (model P w) (A.deeper (envOfC qual scope s.heap.objs.size f cd)) (leaving (envOfC qual scope s.heap.objs.size f cd) e) (fun _ s'' => CX outer H s E e s'') (fun e' s'' => CX outer H s E e' s'') s'

theorem cell_has {sc : Scope} {n : Nat} {x : Str} (h : sc.names.lookup x = some .cell) : ∃ c, (cellsFrom n sc.names []).lookup x = some c := by
  have q := PySem.W.cellsFrom_some sc.names n [] (.inl h)
  exact Option.isSome_iff_exists.mp q

theorem inv_start {CX : CXT} {P : Program} {w : World} {K : PySem.W.Frag} {mg : Str → Option Value} {base : Heap} {N ps : List Str} {qual : Str} {scope : Scope} {f : Addr} {cd : Value} {A : Around} {outer : List Env} {s s1 : Shared} {H : Hp} {E : XK} {us : List Value} {vs : List V}
    (S : FnScope N ps scope) (hd : A.handled = none) (e0 : Env0 P w K mg base A outer s H) (hl : vs.length = ps.length) (r : Vals vs us)
    (x : InCallC s s.heap.objs.size (bindL (envOfC qual scope s.heap.objs.size f cd).kindOf (ps.zip us) fun _ => none) (cellsFrom (s.heap.objs.size + 1) scope.names []) (bindC (envOfC qual scope s.heap.objs.size f cd).kindOf (ps.zip us) fun _ => none) s1) :
    Inv (cxOf CX P w K mg base N qual scope f cd A outer s H E) [] (start N vs) H s1 := by
  have hpl : ps.length ≤ N.length := by have := congrArg List.length S.pre; rw [List.length_take] at this; omega
  obtain ⟨h1, tk, rfl, hk⟩ := x.done
  have noA : ∀ b : Addr, b ∉ (cxOf CX P w K mg base N qual scope f cd A outer s H E).ex := fun b z => absurd (show b ∈ ([] : List Addr) from z) (by simp)
  refine ⟨⟨e0.mod, S.kind, rfl, rfl, Nat.le_refl _, fun y z c h1 h2 => ?_, fun y hy => ?_, fun y c _ h => ?_, fun _ => hd, Around.frames_deeper e0.frames, .inr ⟨rfl, rfl⟩, fun b z => absurd z (noA b), e0.bs, e0.bsz, fun b _ _ => noA b, fun b z => absurd z (noA b), e0.funs, e0.frf⟩,
    rfl, e0.bare, Un.kept hk, ⟨_, x.toInCall.ns, fun i y v h1 h2 h3 => ?_⟩, fun y c h => ⟨_, x.cell y c h⟩, e0.hok.fresh (Nat.le_refl _), fun y c h => ?_, fun p hp => absurd (show p ∈ ([] : List (Addr × Obj)) from hp) (by simp), e0.hok.kept hk, ?_⟩
  · exact name_of_addr x.apart (PySem.mem_of_lookup h1) (PySem.mem_of_lookup h2)
  · have hy : scope.names.lookup y = some .cell ∨ scope.names.lookup y = some .free := hy
    rcases hy with hy | hy
    · exact cell_has hy
    · exact absurd rfl (S.nofree _ (PySem.mem_of_lookup hy))
  · exact Nat.le_of_lt (x.above y c (PySem.mem_of_lookup h))
  · have hi : i < vs.length := by
      unfold start at h2
      by_cases hi : i < vs.length
      · exact hi
      · rw [List.getElem?_append_right (by simpa using hi)] at h2
        rw [List.getElem?_replicate] at h2
        split at h2 <;> cases h2
    have ha : vs[i]? = some v := by
      unfold start at h2
      rw [List.getElem?_append_left (by simpa using hi), List.getElem?_map] at h2
      cases e : vs[i]? with
      | none => rw [e] at h2; cases h2
      | some a => rw [e] at h2; cases h2; rfl
    obtain ⟨u, hu, rv⟩ := r.get ha
    have hp : ps[i]? = some y := by
      rw [← S.pre, List.getElem?_take_of_lt (by omega)]; exact h1
    have ndP : ps.Nodup := by rw [← S.pre]; exact S.nd.sublist (List.take_sublist _ _)
    refine ⟨u, rv, ?_⟩
    rcases S.par y (List.mem_of_getElem? hp) with k | k
    · exact .inl ⟨k, bindL_get ndP hp hu k⟩
    · obtain ⟨c, e⟩ := cell_has (n := s.heap.objs.size + 1) k
      refine .inr ⟨.inl k, c, e, ?_⟩
      have q := x.cell y c e
      rw [bindC_get ndP hp hu (by show scope.names.lookup y ≠ _; rw [k]; decide)] at q
      exact q
  · exact e0.hok.fresh (Nat.le_of_lt (x.above y c (PySem.mem_of_lookup h)))
  · unfold start
    show _ = N.length
    rw [List.length_append, List.length_map, List.length_replicate]
    omega

theorem fn_of {CX : CXT} {P : Program} {w : World} {K : PySem.W.Frag} {mg : Str → Option Value} {base : Heap} {k : Nat} {f : Addr} {name qual : Str} {params : Arguments} {body : List Stmt} {scope : Scope} {dV kV doc pm cdv ct oc : Value} {an od : Option Addr}
    {osl : Array (Option Value)} {N ps : List Str} {sp : Sp} (lk : K.lookup f = some ⟨oc, od, .func (PySem.W.fnOf name qual params body scope dV kV doc pm an cdv ct), osl⟩) (hcd : PySem.W.codeIn K cdv qual = true) (S : FnScope N ps scope)
    (len : ∀ vs H Q E, sp vs H Q E → vs.length = ps.length)
    (hbody : ∀ (A : Around) (outer : List Env) (s : Shared) (H : Hp) (vs : List V) (Q : VK) (E : XK), Room k (A.deeper (envOfC qual scope s.heap.objs.size f cdv)) → sp vs H Q E →
      ∃ t, PSs (cxOf CX P w K mg base N qual scope f cdv A outer s H E) body t ∧ t { nx := fun _ H' => Q .non H', rt := Q } (start N vs) H) :
    FnOk P w K mg base CX (k + 1) f (PySem.W.fnOf name qual params body scope dV kV doc pm an cdv ct) ps sp := by
  refine ⟨len, fun A outer s H args us vs Q E hr e0 hb r hsp => ?_⟩
  have hl := len _ _ _ _ hsp
  have KX : K.In s.heap := e0.mod.kin.keeps fun b o e => (e0.bs b o e).1
  have lim : s.heap.NoLimit := e0.mod.nolimit.keeps fun b o e => (e0.bs b o e).1
  have hkind : ∀ y ∈ ps.zip us, scope.names.lookup y.1 = some .local ∨ (scope.names.lookup y.1 = some .cell ∧ ((cellsFrom (s.heap.objs.size + 1) scope.names []).lookup y.1).isSome = true) := fun ⟨n, v⟩ hy => by
    rcases S.par n (List.of_mem_zip hy).1 with q | q
    · exact .inl q
    · exact .inr ⟨q, PySem.W.cellsFrom_some _ _ _ (.inl q)⟩
  refine codeAny_call_function hr.depth (KX _ _ lk) rfl S.co S.gen rfl (PySem.W.codeRec_of KX hcd) (hb _ _ _ _ ?_)
  refine wpAny_newFunctionEnv_cells S.kind hkind fun env he s1 x => ?_
  subst he
  refine ⟨lim.keeps x.toInCall.keep, codeAny_func ?_⟩
  obtain ⟨t, ht, hq⟩ := hbody A outer s H vs Q E (hr.deeper _) hsp
  have I : Inv (cxOf CX P w K mg base N qual scope f cdv A outer s H E) [] (start N vs) H s1 := inv_start S hr.hd e0 hl r x
  refine wpAny_mono (ht [] s1 (start N vs) H _ I hq) (fun fl s' hs => ?_) fun e s' hs => hs
  have fin : ∀ {σ' : St} {H' : Hp} {v : V} {u : Value}, Inv (cxOf CX P w K mg base N qual scope f cdv A outer s H E) [] σ' H' s' → RelV v u → Q v H' → CE outer P w H s Q u s' :=
    fun {σ' H' v u} J rv q => ⟨v, H', J.os, J.bare, J.base, J.hok, rv, q⟩
  cases fl with
  | ret u =>
    obtain ⟨v, σ', H', J, rv, q⟩ := hs
    exact fin J rv q
  | next =>
    obtain ⟨σ', H', J, q⟩ := hs
    exact fin (v := V.non) (u := Value.none) J rfl q
  | brk =>
    obtain ⟨_, _, _, q⟩ := hs
    exact False.elim q
  | cont =>
    obtain ⟨_, _, _, q⟩ := hs
    exact False.elim q
end L2

namespace L2
open PySem PySem.Spec PyProof.Rows
section
variable {X : Cx} {x : Str} {p pos : Pos} {e : Expr} {es : List Expr} {t : TA} {id T : String} {r : List V → Hp → VK → Prop}

def tCB (r : List V → Hp → VK → Prop) (t : TA) : TE := fun σ H Q => t σ H fun vs H1 => r vs H1 Q
theorem pe_callB (hc : CallR X (.builtin id) r) (hg : Gl X x) (hm : X.mg x = none) (hv : bootBuiltins x = some (.builtin id)) (ha : PA X (e :: es) t) (hn : x ≠ "__name__" := by decide) (hdb : (x == ("__debug__" : Str)) = false := by decide)
    (he : starEach (e :: es) X.env = (false, eval e X.env) :: starEach es X.env := by rfl) (hpl : (backTo pos (starEach es X.env)).any (·.1) = false := by rfl) : PE X (.Call (.Name x p) (e :: es) [] pos) (tCB r t) := by
  intro pins s σ H Q I h
  refine wpAny_Call_Name_kw (ld_blt I hg hm hv ?_ hn hdb)
  exact PyProof.Rows.callWith_builtin1 (thn (ha pos pins s σ H _ I h) fun us s1 ⟨vs, H1, I1, r1, q1⟩ => hc pins s1 σ H1 vs us Q I1 r1 q1) he hpl
theorem pe_callTy (hc : CallR X (.type T) r) (hg : Gl X x) (hm : X.mg x = none) (hv : bootBuiltins x = some (.type T)) (ha : PA X (e :: es) t) (hn : x ≠ "__name__" := by decide) (hdb : (x == ("__debug__" : Str)) = false := by decide)
    (he : starEach (e :: es) X.env = (false, eval e X.env) :: starEach es X.env := by rfl) (hpl : (backTo pos (starEach es X.env)).any (·.1) = false := by rfl) : PE X (.Call (.Name x p) (e :: es) [] pos) (tCB r t) := by
  intro pins s σ H Q I h
  refine wpAny_Call_Name_kw (ld_blt I hg hm hv ?_ hn hdb)
  exact PyProof.Rows.callWith_type1 (thn (ha pos pins s σ H _ I h) fun us s1 ⟨vs, H1, I1, r1, q1⟩ => hc pins s1 σ H1 vs us Q I1 r1 q1) he hpl
end
end L2

namespace HT
open PySem PyProof.Rows

section
open PySem.SeqAt
open PySem.AutoSeq1 (wpAny_loadPart')
open PySem.MeetsSeq PySem.MeetsSeq2 PySem.MeetsSeq3

end

section
variable {prog : Program} {w : World} {A : Around} {E : Value → Shared → Prop} {s : Shared}

theorem cat_tup {t b : Addr} {vs ws : List Value} {Q : Value → Shared → Prop} (ht : IsTup s.heap t vs.toArray) (hb : IsTup s.heap b ws.toArray) (hv : vs ≠ [])
    (h1 : ws = [] → Q (.ref t) s) (h2 : ws ≠ [] → Q (.ref s.heap.objs.size) { s with heap := s.heap.push { cls := .type "tuple", data := .seq (vs ++ ws).toArray } })
    (hsz : vs.length + ws.length ≤ sizeLine) : wpAny (model prog w) A (binaryOp .Add (.ref t) (.ref b)) Q E s := by
  obtain ⟨⟨cls, dd, data, sl⟩, ho, hc, n, hd⟩ := id ht
  obtain ⟨⟨cls2, dd2, data2, sl2⟩, ho2, hc2, n2, hd2⟩ := id hb
  simp only at hc hd hc2 hd2
  subst hc hd hc2 hd2
  have e : vs.toArray ++ ws.toArray = (vs ++ ws).toArray := by simp
  by_cases hw : ws = []
  · exact concat_meets ⟨_, ho, rfl⟩ ⟨_, ho2, rfl⟩ noFill_tuple_add seq_tuple_add PySem.F.slot_tuple_add PySem.F.entry_tuple_add (PySem.F.args_tuple_add_2 _ _)
      (tuple_addW1 t b vs.toArray ws.toArray n n2 dd dd2 sl sl2 (by simpa using hv) (by simp [hw])) ⟨ho, ho2, h1 hw⟩
  · refine concat_meets ⟨_, ho, rfl⟩ ⟨_, ho2, rfl⟩ noFill_tuple_add seq_tuple_add PySem.F.slot_tuple_add PySem.F.entry_tuple_add (PySem.F.args_tuple_add_2 _ _)
      (tuple_addW2 t b vs.toArray ws.toArray n n2 dd dd2 sl sl2 (by simpa using hv) (by simpa using hw) (by rw [List.size_toArray, List.size_toArray]; exact hsz)) ⟨ho, ho2, ?_⟩
    rw [e]
    exact h2 hw

def sIx (n d : Nat) : Option Int → Nat
  | none => d
  | some v => if v < 0 then (v + (n : Int)).toNat else min v.toNat n
theorem sIx_none (n d : Nat) : sIx n d none = d := rfl
theorem sIx_nat (n d k : Nat) : sIx n d (some (k : Int)) = min k n := by
  show (if (k : Int) < 0 then ((k : Int) + (n : Int)).toNat else min (k : Int).toNat n) = min k n
  rw [if_neg (by omega), Int.toNat_natCast]
theorem sIx_le (n d : Nat) (hd : d ≤ n) (o : Option Int) : sIx n d o ≤ n := by
  cases o with
  | none => exact hd
  | some v =>
    show (if v < 0 then (v + (n : Int)).toNat else min v.toNat n) ≤ n
    by_cases hv : v < 0
    · rw [if_pos hv]; omega
    · rw [if_neg hv]; exact Nat.min_le_right _ _
theorem clip_eq (v : Int) (n d : Nat) : (if v < 0 then max (v + (n : Int)) 0 else min v (n : Int)) = ((sIx n d (some v) : Nat) : Int) := by
  show (if v < 0 then max (v + (n : Int)) 0 else min v (n : Int)) = (((if v < 0 then (v + (n : Int)).toNat else min v.toNat n) : Nat) : Int)
  by_cases hv : v < 0
  · simp only [if_pos hv]; omega
  · simp only [if_neg hv]; omega
theorem adjust_gen (lo hi : Option Int) (n : Nat) : Builtin.Slice.sliceAdjust lo hi 1 (n : Int) = (((sIx n 0 lo : Nat) : Int), ((sIx n n hi : Nat) : Int)) := by
  have h1 : ¬ ((1 : Int) < 0) := by omega
  unfold Builtin.Slice.sliceAdjust
  simp only [h1, if_false]
  refine Prod.ext ?_ ?_
  · cases lo with
    | none => rfl
    | some v => exact clip_eq v n 0
  · cases hi with
    | none => rfl
    | some v => exact clip_eq v n n
theorem places_gen (i j : Nat) : Builtin.Slice.slicePlaces (i : Int) (j : Int) 1 = j - i := by
  unfold Builtin.Slice.slicePlaces
  have h1 : (1 : Int) > 0 := by omega
  simp only [h1, if_true, Int.ediv_one]
  split <;> omega
theorem slicePart_ {v : Value} {o : Option Int} {Q : Option Int → Shared → Prop} (p : IsPart v o) (h : Q o s) : wpAny (model prog w) A (Builtin.Slice.slicePartIndex v) Q E s := by
  cases p with
  | none => exact slicePart_none h
  | int i t => exact slicePart_int h
theorem sliceApplied_gen {sl : Addr} {vl vu : Value} {lo hi : Option Int} {n : Nat} {Q : Int × Int × Nat → Shared → Prop} (hs : s.heap.IsSliceOf sl vl vu .none) (pl : IsPart vl lo) (pu : IsPart vu hi)
    (h : Q (((sIx n 0 lo : Nat) : Int), 1, sIx n n hi - sIx n 0 lo) s) : wpAny (model prog w) A (Builtin.Slice.sliceApplied (.ref sl) (pure (n : Int))) Q E s := by
  obtain ⟨os, hos, hcs, hds⟩ := id hs
  unfold Builtin.Slice.sliceApplied Builtin.Slice.sliceFields
  refine wpAny_bind (wpAny_bind (wpAny_field hos hds (x := vl) rfl (wpAny_bind (wpAny_field hos hds (x := vu) rfl (wpAny_bind (wpAny_field hos hds (x := .none) rfl (wpAny_pure ?_)))))))
  refine wpAny_bind (slicePart_none ?_)
  show wpAny _ _ (if ((1 : Int) == 0) = true then _ else _) _ _ s
  rw [if_neg (by decide)]
  refine wpAny_bind (slicePart_ pl (wpAny_bind (slicePart_ pu (wpAny_bind (wpAny_pure ?_)))))
  show wpAny _ _ (match Builtin.Slice.sliceAdjust lo hi 1 (n : Int) with | (lo, hi) => pure (lo, (1 : Int), Builtin.Slice.slicePlaces lo hi 1)) _ _ s
  rw [adjust_gen lo hi n]
  show wpAny _ _ (pure (((sIx n 0 lo : Nat) : Int), (1 : Int), Builtin.Slice.slicePlaces ((sIx n 0 lo : Nat) : Int) ((sIx n n hi : Nat) : Int) 1)) _ _ s
  rw [places_gen]
  exact wpAny_pure h
theorem pick_gen (xs : Array Value) (i k : Nat) : ((List.range k).filterMap fun (m : Nat) => xs[((i : Int) + (m : Int) * 1).toNat]?).toArray = ((xs.toList.drop i).take k).toArray := by
  have e : (fun (m : Nat) => xs[((i : Int) + (m : Int) * 1).toNat]?) = fun m => xs[i + m]? := by
    funext m
    have : ((i : Int) + (m : Int) * 1).toNat = i + m := by omega
    rw [this]
  rw [e]
  have := pick_run xs i k
  rw [List.filterMap_map] at this
  have e2 : ((fun x => xs[x]?) ∘ fun x => i + x) = fun m => xs[i + m]? := rfl
  rw [e2] at this
  rw [this]

theorem getItem_tuple_cut {t sl : Addr} {items : Array Value} {vl vu : Value} {lo hi : Option Int} {Q : Value → Shared → Prop} (ht : IsTup s.heap t items) (hs : s.heap.IsSliceOf sl vl vu .none) (pl : IsPart vl lo) (pu : IsPart vu hi)
    (hw : ¬ (sIx items.size 0 lo = 0 ∧ sIx items.size items.size hi = items.size))
    (h : Q (.ref s.heap.objs.size) { s with heap := s.heap.push { cls := .type "tuple", data := .seq ((items.toList.drop (sIx items.size 0 lo)).take (sIx items.size items.size hi - sIx items.size 0 lo)).toArray } })
    (hsz : items.size ≤ sizeLine) : wpAny (model prog w) A (getItem (.ref t) (.ref sl)) Q E s := by
  have htake : sizeOk (.seq ((items.toList.drop (sIx items.size 0 lo)).take (sIx items.size items.size hi - sIx items.size 0 lo)).toArray) := by
    show ((items.toList.drop (sIx items.size 0 lo)).take (sIx items.size items.size hi - sIx items.size 0 lo)).toArray.size ≤ sizeLine
    rw [List.size_toArray, List.length_take, List.length_drop, Array.length_toList]
    omega
  have hj : sIx items.size items.size hi ≤ items.size := sIx_le _ _ (Nat.le_refl _) hi
  obtain ⟨os, hos, hcs, hds⟩ := id hs
  have hTs : s.TypeIs (.ref sl) "slice" := ⟨os, hos, hcs⟩
  unfold getItem
  try with_reducible refine wpAny_holding ?_
  first | refine wpAny_bind (wpAny_pure ?_) | skip
  refine wpAny_bind (wpAny_sequenceKey ht.typeIs (by decide) ?_)
  refine wpAny_bind (wpAny_callSpecial?_slot (name := Str.ofString "__getitem__") ht.typeIs PyProof.Rows.slot_tuple_getitem
    (wpAny_call_entry PyProof.Rows.slot_tuple_getitem ht.typeIs entry_tuple_getitem ?_ (args_tuple_getitem _ _)))
  show wpAny _ _ (Builtin.Tuple.tupleItemsOf (.ref t) >>= _) _ _ s
  refine wpAny_bind (tupleItemsOf_ ht ?_)
  refine wpAny_bind (wpAny_typeOf hTs ?_)
  rw [if_pos (by decide)]
  refine wpAny_bind (sliceApplied_gen hs pl pu ?_)
  have hno : ¬ ((((sIx items.size 0 lo : Nat) : Int) == 0 && (1 : Int) == 1 && (sIx items.size items.size hi - sIx items.size 0 lo) == items.size) = true) := by
    intro q
    rw [Bool.and_eq_true, Bool.and_eq_true] at q
    have q1 : ((sIx items.size 0 lo : Nat) : Int) = 0 := eq_of_beq q.1.1
    have q2 : sIx items.size items.size hi - sIx items.size 0 lo = items.size := eq_of_beq q.2
    exact hw ⟨by omega, by omega⟩
  show wpAny _ _ (if (((sIx items.size 0 lo : Nat) : Int) == 0 && (1 : Int) == 1 && (sIx items.size items.size hi - sIx items.size 0 lo) == items.size) = true then _ else _) _ _ s
  rw [if_neg hno, pick_gen]
  first
    | exact wpAny_bind (m := Builtin.Tuple.tupleExact _) (wpAny_newObj_type (wpAny_pure ⟨_, rfl, wpAny_pure h⟩) htake)
    | exact wpAny_bind (m := Builtin.Tuple.tupleExact _) (wpAny_newObj_type (wpAny_bind (wpAny_pure (wpAny_pure ⟨_, rfl, wpAny_pure h⟩))) htake)
    | exact wpAny_bind (wpAny_bind (m := Builtin.Tuple.tupleExact _) (wpAny_newObj_type (wpAny_pure (wpAny_pure ⟨_, rfl, wpAny_pure h⟩)) htake))
    | exact wpAny_bind (wpAny_bind (m := Builtin.Tuple.tupleExact _) (wpAny_newObj_type (wpAny_pure ⟨_, rfl, wpAny_pure h⟩) htake))
end
end HT

namespace L2
open PySem PySem.Spec PyProof.Rows

abbrev TO := St → Hp → (Option Int → Hp → Prop) → Prop
def PO (X : Cx) (e : Option Expr) (t : TO) : Prop :=
  ∀ (pins : List (Addr × Obj)) (s : Shared) (σ : St) (H : Hp) (Q : Option Int → Hp → Prop), Inv X pins σ H s → t σ H Q →
    wpAny (model X.prog X.w) X.A (evalPart e X.env) (fun u s' => ∃ o H', Inv X pins σ H' s' ∧ IsPart u o ∧ Q o H') X.xe s
def tNoPart : TO := fun _ H Q => Q none H
def tPart (t : TE) : TO := fun σ H Q => t σ H fun x H1 => ∃ i, x = .int i ∧ Q (some i) H1

theorem intsAre_of {ns : List Int} : ∀ {us : List Value}, Vals (ns.map V.int) us → IntsAre us ns := by
  induction ns with
  | nil => intro us r; rw [List.map_nil] at r; cases r; exact .nil
  | cons n ns ih =>
    intro us r
    rw [List.map_cons] at r
    cases r with
    | cons r1 r2 =>
      obtain ⟨t, e⟩ := r1
      subst e
      exact .cons n t (ih r2)

section
variable {X : Cx} {e : Expr} {te : TE} {lo hi : Option Expr} {tl th : TO} {pos p2 : Pos}

theorem po_none : PO X none tNoPart := by
  intro pins s σ H Q I h
  rw [evalPart_none]
  exact wpAny_pure ⟨none, H, I, .none, h⟩
theorem po_some (h : PE X e te) : PO X (some e) (tPart te) := by
  intro pins s σ H Q I hw
  rw [evalPart_some]
  refine thn (h pins s σ H _ I hw) fun u s1 ⟨x, H1, I1, r1, q1⟩ => ?_
  obtain ⟨i, rfl, q⟩ := q1
  obtain ⟨t, rfl⟩ := r1
  exact ⟨some i, H1, I1, .int i t, q⟩

def SlR (X : Cx) (r : V → Option Int → Option Int → Hp → VK → Prop) : Prop :=
  ∀ (pins : List (Addr × Obj)) (s : Shared) (σ : St) (H : Hp) (x : V) (v vl vu : Value) (lo hi : Option Int) (sl : Addr) (Q : VK), Inv X pins σ H s → RelV x v → s.heap.IsSliceOf sl vl vu .none → IsPart vl lo → IsPart vu hi → r x lo hi H Q →
    ∃ T id, typeLookup (.type T) "__getitem__" = pure (some (.builtin id)) ∧ s.TypeIs v T ∧ wpAny (model X.prog X.w) X.A (getItem v (.ref sl)) (EP X pins σ Q) X.xe s
def tSl (r : V → Option Int → Option Int → Hp → VK → Prop) (te : TE) (tl th : TO) : TE := fun σ H Q => te σ H fun x H1 => tl σ H1 fun l H2 => th σ H2 fun u H3 => r x l u H3 Q
theorem pe_slice {r : V → Option Int → Option Int → Hp → VK → Prop} (hr : SlR X r) (he : PE X e te) (hl : PO X lo tl) (hu : PO X hi th) : PE X (.Subscript e (.Slice lo hi none p2) pos) (tSl r te tl th) := by
  intro pins s σ H Q I h
  refine Subscript_ (thn (he pins s σ H _ I h) fun v s1 ⟨x, H1, I1, r1, q1⟩ => ?_)
  refine wpAny_Slice (thn (hl pins s1 σ H1 _ I1 q1) fun vl s2 ⟨l, H2, I2, pl, q2⟩ => thn (hu pins s2 σ H2 _ I2 q2) fun vu s3 ⟨u, H3, I3, pu, q3⟩ => ?_)
  rw [evalPart_none]
  refine wpAny_pure ?_
  have I4 : Inv X pins σ H3 { s3 with heap := s3.heap.push { cls := .type "slice", data := .fields #[vl, vu, .none] } } := I3.kept (t' := s3.toks) fun b ob q => Heap.get?_push_of_some _ q
  obtain ⟨T, id, hT, ht, hg⟩ := hr pins { s3 with heap := s3.heap.push { cls := .type "slice", data := .fields #[vl, vu, .none] } } σ H3 x v vl vu l u s3.heap.objs.size Q I4 r1 (Heap.IsSliceOf.new ..) pl pu q3
  show wpAny (model X.prog X.w) X.A (subscriptTail e (.Slice lo hi none p2) v (.ref s3.heap.objs.size)) (EP X pins σ Q) X.xe { s3 with heap := s3.heap.push { cls := .type "slice", data := .fields #[vl, vu, .none] } }
  exact tail_any (ops := [.ref s3.heap.objs.size, v]) ht hT hg (by with_unfolding_all rfl)

def cutV (xs : List V) (lo hi : Option Int) : List V := (xs.drop (HT.sIx xs.length 0 lo)).take (HT.sIx xs.length xs.length hi - HT.sIx xs.length 0 lo)
theorem cutV_length (xs : List V) (lo hi : Option Int) : (cutV xs lo hi).length ≤ xs.length := by
  unfold cutV
  rw [List.length_take, List.length_drop]
  omega
def rSlT (K : PySem.W.Frag) : V → Option Int → Option Int → Hp → VK → Prop := fun x lo hi H Q => ∃ a xs, x = .ref a ∧ SqT K H a xs ∧
  ¬ (HT.sIx xs.length 0 lo = 0 ∧ HT.sIx xs.length xs.length hi = xs.length) ∧ ∀ p, H p = none → Q (.ref p) (upd H p (.tup (cutV xs lo hi)))
theorem sl_tup : SlR X (rSlT X.K) := by
  intro pins s σ H x v vl vu lo hi sl Q I rx hs pl pu h
  obtain ⟨a, xs, rfl, hx, hw, q⟩ := h
  cases rx
  obtain ⟨its, r, ht, hz⟩ := I.tuple hx
  have hlen : its.toArray.size = xs.length := by rw [List.size_toArray]; exact r.length.symm
  refine ⟨"tuple", _, PyProof.Rows.slot_tuple_getitem.lookup, ht.typeIs, ?_⟩
  refine HT.getItem_tuple_cut ht hs pl pu (by rw [hlen]; exact hw) ?_ (by rw [hlen]; exact hz)
  rw [hlen]
  refine ⟨.ref s.heap.objs.size, _, I.laid (t' := s.toks) (o := .tup (cutV xs lo hi)) (fun b ob q => Heap.get?_push_of_some _ q) (Nat.le_refl _) ?_, rfl, q _ (I.hok.fresh (Nat.le_refl _))⟩
  exact ⟨Nat.le_trans (cutV_length xs lo hi) hz, _, (r.drop (HT.sIx xs.length 0 lo)).take (HT.sIx xs.length xs.length hi - HT.sIx xs.length 0 lo), IsTup.new _ _⟩

def rCatT (K : PySem.W.Frag) : R2 := fun x y H Q => ∃ a b xs ys, x = .ref a ∧ y = .ref b ∧ SqT K H a xs ∧ SqT K H b ys ∧ xs ≠ [] ∧ xs.length + ys.length ≤ sizeLine ∧
  (ys = [] → Q (.ref a) H) ∧ (ys ≠ [] → ∀ p, H p = none → Q (.ref p) (upd H p (.tup (xs ++ ys))))
theorem Vals.nil_iff {xs : List V} {us : List Value} (r : Vals xs us) : us = [] ↔ xs = [] := by
  cases r with
  | nil => simp
  | cons _ _ => simp
theorem op_catT : OpR X (binaryOp .Add) (rCatT X.K) := by
  intro pins s σ H x y v u Q I rx ry h
  obtain ⟨a, b, xs, ys, rfl, rfl, ha, hb, hx, hz, q1, q2⟩ := h
  cases rx
  cases ry
  obtain ⟨its, r1, p1, _⟩ := I.tuple ha
  obtain ⟨its2, r2, p2, _⟩ := I.tuple hb
  refine HT.cat_tup p1 p2 (fun z => hx (r1.nil_iff.mp z)) (fun z => ⟨.ref a, H, I, rfl, q1 (r2.nil_iff.mp z)⟩) (fun z => ?_) (by rw [← r1.length, ← r2.length]; exact hz)
  refine ⟨.ref s.heap.objs.size, _, I.laid (t' := s.toks) (o := .tup (xs ++ ys)) (fun b ob q => Heap.get?_push_of_some _ q) (Nat.le_refl _) ?_, rfl, q2 (fun w => z (r2.nil_iff.mpr w)) _ (I.hok.fresh (Nat.le_refl _))⟩
  exact ⟨by rw [List.length_append]; exact hz, _, r1.append r2, IsTup.new _ _⟩
end
end L2

namespace L2
open PySem PySem.Spec PyProof.Rows

def ixN (n : Nat) (i : Int) : Option Nat := if 0 ≤ i then (if i < n then some i.toNat else none) else if -(n : Int) ≤ i then some (i + n).toNat else none
def atI {α : Type} (xs : List α) (i : Int) : Option α := (ixN xs.length i).bind fun j => xs[j]?
theorem ixN_seq {n : Nat} {i : Int} {j : Nat} (h : ixN n i = some j) : seqIndex? i n = some j ∧ j < n ∧ -(n : Int) ≤ i ∧ i < n := by
  unfold ixN at h
  by_cases h0 : 0 ≤ i
  · rw [if_pos h0] at h
    by_cases h1 : i < n
    · rw [if_pos h1] at h
      have e : i.toNat = j := Option.some.inj h
      exact ⟨by rw [seqIndex_of h0 h1, e], by omega, by omega, h1⟩
    · rw [if_neg h1] at h; cases h
  · rw [if_neg h0] at h
    by_cases h1 : -(n : Int) ≤ i
    · rw [if_pos h1] at h
      have e : (i + n).toNat = j := Option.some.inj h
      exact ⟨by rw [seqIndex_neg (by omega) h1, e], by omega, h1, by omega⟩
    · rw [if_neg h1] at h; cases h
theorem atI_get {α : Type} {xs : List α} {i : Int} {v : α} (h : atI xs i = some v) : ∃ j, seqIndex? i xs.length = some j ∧ xs[j]? = some v ∧ j < xs.length ∧ -(xs.length : Int) ≤ i ∧ i < xs.length := by
  unfold atI at h
  cases e : ixN xs.length i with
  | none => rw [e] at h; cases h
  | some j =>
    rw [e] at h
    obtain ⟨h1, h2, h3, h4⟩ := ixN_seq e
    exact ⟨j, h1, h, h2, h3, h4⟩
theorem atI_nat {α : Type} {xs : List α} {j : Nat} {v : α} (h : xs[j]? = some v) : atI xs (j : Int) = some v := by
  have hj : j < xs.length := (List.getElem?_eq_some_iff.mp h).1
  have e : ixN xs.length (j : Int) = some j := by
    unfold ixN
    rw [if_pos (by omega), if_pos (by omega)]; simp
  unfold atI; rw [e]; exact h
def PlainIx (b : Expr) : Prop := ∀ o i, subscripted b false o i = operate [o, i] (getItem o i)
def IxR (X : Cx) (r : R2) : Prop :=
  ∀ (value slice : Expr) (pins : List (Addr × Obj)) (s : Shared) (σ : St) (H : Hp) (x y : V) (v u : Value) (Q : VK), Inv X pins σ H s → RelV x v → RelV y u → r x y H Q →
    subscripted slice false v u = operate [v, u] (getItem v u) → wpAny (model X.prog X.w) X.A (subscriptTail value slice v u) (EP X pins σ Q) X.xe s
def MtR (X : Cx) (id : String) (r : V → List V → Hp → VK → Prop) : Prop :=
  ∀ (pins : List (Addr × Obj)) (s : Shared) (σ : St) (H : Hp) (x : V) (xs : List V) (v : Value) (us : List Value) (Q : VK), Inv X pins σ H s → RelV x v → Vals xs us → r x xs H Q →
    wpAny (model X.prog X.w) X.A (call (.builtin id) (v :: us)) (EP X pins σ Q) X.xe s
section
variable {X : Cx} {a b : Expr} {ta tb : TE} {pos : Pos}
theorem pe_ix {r : R2} (hr : IxR X r) (ha : PE X a ta) (hb : PE X b tb) (hs : PlainIx b) : PE X (.Subscript a b pos) (tOp r ta tb) := by
  intro pins s σ H Q I h
  exact Subscript_ (binT ha hb I h fun v u s2 x y H2 I2 rx ry q => hr a b pins s2 σ H2 x y v u Q I2 rx ry q (hs _ _))

def rIxL (K : PySem.W.Frag) : R2 := fun x y H Q => ∃ p xs i v, x = .ref p ∧ y = .int i ∧ SqL K H p xs ∧ atI xs i = some v ∧ Q v H
def rIxT (K : PySem.W.Frag) : R2 := fun x y H Q => ∃ p xs i v, x = .ref p ∧ y = .int i ∧ SqT K H p xs ∧ atI xs i = some v ∧ Q v H
theorem ix_list : IxR X (rIxL X.K) := by
  intro value slice pins s σ H x y v u Q I rx ry h hs
  obtain ⟨p, xs, i, z, rfl, rfl, hq, he, q⟩ := h
  cases rx
  obtain ⟨t, rfl⟩ := ry
  obtain ⟨its, r, pl, hz⟩ := I.list hq
  obtain ⟨j, h1, h2, h3, h4, h5⟩ := atI_get he
  obtain ⟨w, ew, rw'⟩ := r.get h2
  have hl := r.length
  have hn := line63
  have fin : EP X pins σ Q w s := ⟨z, H, I, rw', q⟩
  by_cases h0 : 0 ≤ i
  · have hj : i.toNat = j := by
      rw [seqIndex_of h0 h5] at h1
      exact Option.some.inj h1
    exact item_listR pl.isList h0 (by omega) (by rw [hj]; simpa using ew) fin hs
  · have hj : (i + (its.toArray.size : Int)).toNat = j := by
      rw [seqIndex_neg (by omega) h4] at h1
      rw [List.size_toArray, ← hl]
      exact Option.some.inj h1
    exact subscriptTail_builtinR (x := w) pl.isList.typeIs slot_list_getitem.lookup
      (wpAny_getItem_list_neg (Q := fun r s' => r = w ∧ EP X pins σ Q r s') pl.isList (by omega) (by rw [List.size_toArray] <;> omega) (by omega) (by rw [hj]; simpa using ew) ⟨rfl, fin⟩) hs
theorem ix_tup : IxR X (rIxT X.K) := by
  intro value slice pins s σ H x y v u Q I rx ry h hs
  obtain ⟨p, xs, i, z, rfl, rfl, hq, he, q⟩ := h
  cases rx
  obtain ⟨t, rfl⟩ := ry
  obtain ⟨its, r, pl, hz⟩ := I.tuple hq
  obtain ⟨j, h1, h2, h3, h4, h5⟩ := atI_get he
  obtain ⟨w, ew, rw'⟩ := r.get h2
  have hl := r.length
  have hn := line63
  have fin : EP X pins σ Q w s := ⟨z, H, I, rw', q⟩
  exact subscriptTail_builtinR (x := w) pl.typeIs slot_tuple_getitem.lookup
    (getItem_tuple (j := j) (Q := fun r s' => r = w ∧ EP X pins σ Q r s') pl (by omega) (by omega) (by rw [List.size_toArray, ← hl]; exact h1) (by simpa using ew) ⟨rfl, fin⟩) hs
theorem mapSeq_set (its : List Value) (n j : Nat) (u : Value) : Obj.mapSeq (·.setIfInBounds j u) { cls := .type "list", data := .seq its.toArray n } = { cls := .type "list", data := .seq (its.set j u).toArray n } := by
  simp [Obj.mapSeq]
theorem Inv.lst {pins : List (Addr × Obj)} {σ : St} {H : Hp} {s : Shared} {p : Addr} {xs : List V} (I : Inv X pins σ H s) (h : H p = some (.lst xs)) :
    ∃ (its : List Value) (n : Nat), Vals xs its ∧ s.heap.get? p = some { cls := .type "list", data := .seq its.toArray n } ∧ xs.length ≤ sizeLine := by
  obtain ⟨z, its, n, r, e⟩ := I.hok p _ h
  exact ⟨its, n, r, e, z⟩
theorem Inv.lstUpd {pins : List (Addr × Obj)} {σ : St} {H : Hp} {s : Shared} {p : Addr} {xs ys : List V} {its its' : List Value} {n n' : Nat} {f : Obj → Obj} (I : Inv X pins σ H s) (h : H p = some (.lst xs))
    (ho : s.heap.get? p = some { cls := .type "list", data := .seq its.toArray n }) (hf : f { cls := .type "list", data := .seq its.toArray n } = { cls := .type "list", data := .seq its'.toArray n' }) (r : Vals ys its') (hz : ys.length ≤ sizeLine) (t : Nat) :
    Inv X pins σ (upd H p (.lst ys)) { s with heap := s.heap.update p f, toks := t } := by
  have e : (s.heap.update p f).get? p = some { cls := .type "list", data := .seq its'.toArray n' } := by
    rw [Heap.get?_update_self f ho (by rw [hf] <;> rfl), hf]
  refine I.write (x := p) (e := p) (by rw [h]; trivial) (.inl rfl) (fun b u hb q => (Heap.get?_update_other _ _ (Ne.symm hb)).trans q) ⟨_, e⟩ ?_
  exact ⟨hz, its', n', r, e⟩
def rSetL : V → V → V → Hp → (Hp → Prop) → Prop := fun o i v H Q => ∃ p xs k j, o = .ref p ∧ i = .int k ∧ H p = some (.lst xs) ∧ ixN xs.length k = some j ∧ Q (upd H p (.lst (xs.set j v)))
theorem set_list : PSet X rSetL := by
  intro pins s σ H o i v ov iv u Q I ro ri rv h
  obtain ⟨p, xs, k, j, rfl, rfl, hp, hj, q⟩ := h
  cases ro
  obtain ⟨t, rfl⟩ := ri
  obtain ⟨its, n, r, ho, hz⟩ := I.lst hp
  obtain ⟨h1, h2, h3, h4⟩ := ixN_seq hj
  have hl := r.length
  have hn := line63
  have I' : Inv X pins σ (upd H p (.lst (xs.set j v))) { s with heap := s.heap.update p (Obj.mapSeq (·.setIfInBounds j u)) } :=
    I.lstUpd hp ho (mapSeq_set its n j u) (r.set rv j) (by rw [List.length_set]; exact hz) s.toks
  by_cases h0 : 0 ≤ k
  · have hk : k.toNat = j := by
      rw [seqIndex_of h0 h4] at h1
      exact Option.some.inj h1
    exact PySem.W.ki_setAt ho h0 (by omega) (by rw [List.size_toArray, ← hl]; exact h4) (by rw [hk]; exact ⟨_, I', q⟩)
  · have hk : (k + (its.toArray.size : Int)).toNat = j := by
      rw [seqIndex_neg (by omega) h3] at h1
      rw [List.size_toArray, ← hl]
      exact Option.some.inj h1
    exact PySem.W.ki_setBack ho (by omega) (by rw [List.size_toArray, ← hl]; exact h3) (by omega) (by rw [hk]; exact ⟨_, I', q⟩)

theorem call_len_seq : CallR X (.builtin "len") (fun xs H Q => ∃ p ys, xs = [.ref p] ∧ (SqL X.K H p ys ∨ SqT X.K H p ys) ∧ Q (.int ys.length) H) := by
  intro pins s σ H xs us Q I r h
  obtain ⟨p, ys, rfl, hq, q⟩ := h
  obtain ⟨u, rfl, rx⟩ := vals1 r
  cases rx
  have hn := line63
  rcases hq with hq | hq
  · obtain ⟨its, r', pl, hz⟩ := I.list hq
    have hlen := r'.length
    exact Calls.call_len_list pl.isList (by simp only [List.size_toArray] <;> omega) ⟨.int ys.length, H, I.tok _, ⟨s.toks + 1, by rw [List.size_toArray, hlen]⟩, q⟩
  · obtain ⟨its, r', pl, hz⟩ := I.tuple hq
    have hlen := r'.length
    exact len_tuple pl (by simp only [List.size_toArray] <;> omega) ⟨.int ys.length, H, I.tok _, ⟨s.toks + 1, by rw [List.size_toArray, hlen]⟩, q⟩
theorem call_list_of : CallR X (.type "list") (fun xs H Q => ∃ p ys, xs = [.ref p] ∧ (SqL X.K H p ys ∨ SqT X.K H p ys) ∧ ∀ l, H l = none → Q (.ref l) (upd H l (.lst ys))) := by
  intro pins s σ H xs us Q I r h
  obtain ⟨p, ys, rfl, hq, q⟩ := h
  obtain ⟨u, rfl, rx⟩ := vals1 r
  cases rx
  have fin : ∀ (its : List Value), Vals ys its → ys.length ≤ sizeLine → ∀ (h' : Heap) (c' : Nat), (∀ b o', s.heap.get? b = some o' → h'.get? b = some o') →
      h'.get? s.heap.objs.size = some { cls := .type "list", dict := none, data := .seq its.toArray c', slots := #[] } → EP X pins σ Q (.ref s.heap.objs.size) { s with heap := h' } := fun its r' hz h' c' kp e =>
    ⟨.ref s.heap.objs.size, _, I.laid (t' := s.toks) kp (Nat.le_refl _) (show ObjOk X.prog X.w _ h' _ (.lst ys) from ⟨hz, its, c', r', e⟩), rfl, q _ (I.hok.fresh (Nat.le_refl _))⟩
  rcases hq with hq | hq
  · obtain ⟨its, r', pl, hz⟩ := I.list hq
    have hlen := r'.length
    obtain ⟨o, ho, hc, n, hd⟩ := pl.isList
    exact call_list_seq p (.inl rfl) ho hc hd (fun h' c' kp e => fin its r' hz h' c' kp e) (by simp only [List.size_toArray] <;> omega)
  · obtain ⟨its, r', pl, hz⟩ := I.tuple hq
    have hlen := r'.length
    obtain ⟨o, ho, hc, n, hd⟩ := pl
    exact call_list_seq p (.inr rfl) ho hc hd (fun h' c' kp e => fin its r' hz h' c' kp e) (by simp only [List.size_toArray] <;> omega)
theorem call_tuple_of : CallR X (.type "tuple") (fun xs H Q => ∃ p ys, xs = [.ref p] ∧ ((SqL X.K H p ys ∧ ∀ l, H l = none → Q (.ref l) (upd H l (.tup ys))) ∨ (SqT X.K H p ys ∧ Q (.ref p) H))) := by
  intro pins s σ H xs us Q I r h
  obtain ⟨p, ys, rfl, h⟩ := h
  obtain ⟨u, rfl, rx⟩ := vals1 r
  cases rx
  rcases h with ⟨hq, q⟩ | ⟨hq, q⟩
  · obtain ⟨its, r', pl, hz⟩ := I.list hq
    have hlen := r'.length
    refine call_tuple_list pl.isList (fun h' kp => ?_) (by simp only [List.size_toArray] <;> omega)
    have I1 : Inv X pins σ H { s with heap := h' } := I.kept (t' := s.toks) kp
    have I2 : Inv X pins σ (upd H h'.objs.size (.tup ys)) { s with heap := h'.push { cls := .type "tuple", data := .seq its.toArray } } :=
      I1.laid (t' := s.toks) (fun b o e => Heap.get?_push_of_some _ e) (Nat.le_refl _) (show ObjOk X.prog X.w _ _ _ (.tup ys) from ⟨hz, its, r', IsTup.new _ _⟩)
    exact ⟨.ref h'.objs.size, _, I2, rfl, q _ (I1.hok.fresh (Nat.le_refl _))⟩
  · obtain ⟨its, r', pl, hz⟩ := I.tuple hq
    exact call_tuple_same pl ⟨.ref p, H, I, rfl, q⟩

def tyV (K : PySem.W.Frag) (T : String) (x : V) (H : Hp) : Prop := match x with
  | .str _ => T = "str"
  | .int _ => T = "int"
  | .ref p => (T = "list" ∧ ∃ xs, SqL K H p xs) ∨ (T = "tuple" ∧ ∃ o, K.lookup p = some o ∧ o.cls = .type "tuple" ∧ o.dict = none) ∨
      (T = "dict" ∧ ((∃ kvs, H p = some (.dK kvs)) ∨ ∃ kvs, H p = some (.dT kvs))) ∨ (T = "set" ∧ ∃ S n, H p = some (.set S n))
  | _ => False
theorem tyV_is {pins : List (Addr × Obj)} {σ : St} {H : Hp} {s : Shared} {T : String} {x : V} {v : Value} (I : Inv X pins σ H s) (r : RelV x v) (ty : tyV X.K T x H) :
    s.TypeIs v T ∧ ∀ a, v = .ref a → ∃ ob, s.heap.get? a = some ob ∧ ob.dict = none := by
  cases x with
  | str z =>
    obtain ⟨t, rfl⟩ := r
    cases (show T = "str" from ty)
    exact ⟨typeIs_str s z t, fun _ e => nomatch e⟩
  | int i =>
    obtain ⟨t, rfl⟩ := r
    cases (show T = "int" from ty)
    exact ⟨typeIs_int s i t, fun _ e => nomatch e⟩
  | ref p =>
    cases r
    rcases ty with ⟨rfl, xs, hq⟩ | ⟨rfl, o, hk, hc, hd⟩ | ⟨rfl, hk⟩ | ⟨rfl, S, n, hk⟩
    · obtain ⟨its, _, pl, _⟩ := I.list hq
      refine ⟨pl.isList.typeIs, fun a e => ?_⟩
      cases e
      obtain ⟨o, n, e, c, hd, _⟩ := pl
      exact ⟨o, e, hd⟩
    · refine ⟨⟨o, I.kIn p o hk, hc⟩, fun a e => ?_⟩
      cases e
      exact ⟨o, I.kIn _ o hk, hd⟩
    · have z : ∃ o, s.heap.get? p = some o ∧ o.ExactDict := by
        rcases hk with ⟨kvs, hk⟩ | ⟨kvs, hk⟩
        · obtain ⟨_, _, _, _, o, _, _, e, ex, _⟩ := I.hok p _ hk
          exact ⟨o, e, ex⟩
        · obtain ⟨_, _, _, _, o, _, _, e, ex, _⟩ := I.hok p _ hk
          exact ⟨o, e, ex⟩
      obtain ⟨o, e, ex⟩ := z
      refine ⟨⟨o, e, ex.1⟩, fun a e2 => ?_⟩
      cases e2
      exact ⟨o, e, ex.2.1⟩
    · obtain ⟨o, _, _, _, e, ex, _⟩ := I.hok p _ hk
      refine ⟨⟨o, e, ex.1⟩, fun a e2 => ?_⟩
      cases e2
      exact ⟨o, e, ex.2.1⟩
  | _ => exact False.elim ty
def tBM (K : PySem.W.Frag) (T : String) (r : V → List V → Hp → VK → Prop) (to : TE) (t : TA) : TE := fun σ H Q => to σ H fun x H1 => tyV K T x H1 ∧ t σ H1 fun xs H2 => r x xs H2 Q
variable {o e : Expr} {es : List Expr} {to : TE} {t : TA} {name : Str} {apos cpos : Pos} {T id : String} {r : V → List V → Hp → VK → Prop}
theorem pe_bm (pa : PlainAttrs T) (slot : Slot T name id) (hty : typeOf (.builtin id) = pure (.type "method_descriptor")) (hm : MtR X id r) (ho : PE X o to) (ha : PA X (e :: es) t)
    (hbase : attributeBase o name X.env (eval o X.env) = eval o X.env := by rfl)
    (hfew : ((backTo cpos (starEach (e :: es) X.env)).all (fun x => !x.1) && (backToKw cpos (keywordEach [] X.env)).all (fun x => x.1.isSome)
      && decide ((e :: es).length + ([] : List Keyword).length + (if ([] : List Keyword).isEmpty then 0 else 1) < 30)) = true := by rfl)
    (hline : (apos.endLine == cpos.line) = true := by rfl) (hs : starEach (e :: es) X.env = (false, eval e X.env) :: starEach es X.env := by rfl) (hplain : (backTo cpos (starEach es X.env)).any (·.1) = false := by rfl) :
    PE X (.Call (.Attribute o name apos) (e :: es) [] cpos) (tBM X.K T r to t) := by
  intro pins s σ H Q I h
  refine wpAny_Call_method_late hbase hfew hline rfl (thn (ho pins s σ H _ I h) fun v s1 ⟨x, H1, I1, r1, ty, q1⟩ => ?_)
  obtain ⟨h1, h2⟩ := tyV_is I1 r1 ty
  refine ⟨T, id, pa, slot, hty, h1, h2, ?_⟩
  have hA := ha cpos pins s1 σ H1 _ I1 q1
  rw [hs] at hA ⊢
  refine Calls.callWith_builtin (by show (false || (backTo cpos (starEach es X.env)).any (·.1)) = false; rw [hplain] <;> rfl) (Calls.evalArgs_plain ?_)
  exact thn hA fun us s2 ⟨vs, H2, I2, r2, q2⟩ => hm pins s2 σ H2 x vs v us Q I2 r1 r2 q2
/- xs.append(e), list.index on a module's tuple .. are MtR facts of 06m -/
end
end L2

namespace L2
open PySem PySem.Spec PyProof.Rows

def MtM (X : Cx) (id : String) (r : V → List V → Hp → VK → Prop) : Prop :=
  ∀ (pins : List (Addr × Obj)) (s : Shared) (σ : St) (H : Hp) (x : V) (xs : List V) (v : Value) (us : List Value) (Q : VK), Inv X pins σ H s → RelV x v → Vals xs us → r x xs H Q →
    wpAny (model X.prog X.w) X.A (call (.builtin id) (v :: us)) (EP X pins σ Q) X.xe s

theorem Vals.one : ∀ {x : V} {us : List Value}, Vals [x] us → ∃ u, us = [u] ∧ RelV x u
  | _, _, .cons r .nil => ⟨_, rfl, r⟩
theorem Vals.two : ∀ {x y : V} {us : List Value}, Vals [x, y] us → ∃ u v, us = [u, v] ∧ RelV x u ∧ RelV y v
  | _, _, _, .cons r (.cons q .nil) => ⟨_, _, rfl, r, q⟩
theorem Vals.zero : ∀ {us : List Value}, Vals [] us → us = []
  | _, .nil => rfl
theorem Vals.reverse {xs : List V} {us : List Value} (h : Vals xs us) : Vals xs.reverse us.reverse := by
  induction h with
  | nil => exact .nil
  | cons r t ih => rw [List.reverse_cons, List.reverse_cons]; exact Vals.append ih (.cons r .nil)
theorem Vals.rep {xs : List V} {us : List Value} (h : Vals xs us) : ∀ k : Nat, Vals (List.replicate k xs).flatten (List.replicate k us).flatten
  | 0 => .nil
  | k + 1 => by
    rw [List.replicate_succ, List.replicate_succ, List.flatten_cons, List.flatten_cons]
    exact Vals.append h (Vals.rep h k)
theorem foldl_rep (its : List Value) : ∀ (k : Nat) (acc : List Value),
    List.foldl (fun x1 x2 => x1 ++ x2) acc.toArray (List.replicate k its.toArray) = (acc ++ (List.replicate k its).flatten).toArray
  | 0, acc => by simp
  | k + 1, acc => by
    have e : acc.toArray ++ its.toArray = (acc ++ its).toArray := by simp
    have e2 : (acc ++ its) ++ (List.replicate k its).flatten = acc ++ (List.replicate (k + 1) its).flatten := by
      rw [List.replicate_succ, List.flatten_cons, List.append_assoc]
    rw [← e2, ← foldl_rep its k (acc ++ its), ← e, List.replicate_succ, List.foldl_cons]

section
variable {X : Cx} {pins : List (Addr × Obj)} {σ : St} {H : Hp} {s : Shared} {l b : Addr} {xs ys zs : List V}

theorem Inv.lset {its its' : List Value} {n : Nat} {f : Array Value → Array Value} {t' : Nat} (I : Inv X pins σ H s) (hH : H l = some (.lst xs))
    (e : s.heap.get? l = some { cls := .type "list", data := .seq its.toArray n }) (hf : f its.toArray = its'.toArray) (hv : Vals ys its') (hz : ys.length ≤ sizeLine) :
    Inv X pins σ (upd H l (.lst ys)) { s with heap := s.heap.update l (Obj.mapSeq f), toks := t' } := by
  have q := PySem.IsL.update e f
  rw [hf] at q
  refine I.write (x := l) (e := l) (by rw [hH]; exact trivial) (.inl rfl) (fun b' u hb hu => (Heap.get?_update_other s.heap (Obj.mapSeq f) (Ne.symm hb)).trans hu) ⟨_, q⟩ ?_
  exact ⟨hz, its', _, hv, q⟩
theorem Inv.lnew {its : List Value} {t' : Nat} (I : Inv X pins σ H s) (hv : Vals ys its) (hz : ys.length ≤ sizeLine) :
    Inv X pins σ (upd H s.heap.objs.size (.lst ys)) { s with heap := s.heap.push { cls := .type "list", data := .seq its.toArray }, toks := t' } :=
  I.laid (fun _ _ q => Heap.get?_push_of_some _ q) (Nat.le_refl _) ⟨hz, its, 0, hv, Heap.get?_push_size _ rfl⟩
theorem Inv.fresh (I : Inv X pins σ H s) : H s.heap.objs.size = none := I.hok.fresh (Nat.le_refl _)
theorem Inv.lstM (I : Inv X pins σ H s) (hH : H l = some (.lst xs)) : xs.length ≤ sizeLine ∧ ∃ (its : List Value) (n : Nat), Vals xs its ∧ xs.length = its.length ∧ s.heap.get? l = some { cls := .type "list", data := .seq its.toArray n } := by
  obtain ⟨z, its, n, r, e⟩ := I.hok l _ hH
  exact ⟨z, its, n, r, r.length, e⟩

theorem notLongL {n : Nat} (h : n ≤ sizeLine) : Builtin.List.listTooLong n = false := by
  unfold Builtin.List.listTooLong
  exact decide_eq_false (by omega)
end

section
variable {X : Cx}

def rAppend : V → List V → Hp → VK → Prop := fun x vs H Q => ∃ l xs y, x = .ref l ∧ vs = [y] ∧ H l = some (.lst xs) ∧ xs.length < sizeLine ∧ Q .non (upd H l (.lst (xs ++ [y])))
theorem mt_append : MtM X "list.append" rAppend := by
  intro pins s σ H x vs v us Q I rx rv h
  obtain ⟨l, xs, y, rfl, rfl, hH, hz, q⟩ := h
  cases rx
  obtain ⟨u, rfl, ru⟩ := rv.one
  obtain ⟨z, its, n, r, hl, e⟩ := I.lstM hH
  refine call_meets F.slot_list_append ⟨_, e, rfl⟩ F.entry_list_append (F.args_list_append_2 _ _) (PySem.list_append l its.toArray n u (by rw [List.size_toArray]; omega)) ⟨e, ?_⟩
  refine ⟨.non, _, I.lset (its' := its ++ [u]) hH e (by simp) (r.append (.cons ru .nil)) ?_, rfl, q⟩
  rw [List.length_append, List.length_singleton]
  omega

def rCat : R2 := fun x y H Q => ∃ l b xs zs, x = .ref l ∧ y = .ref b ∧ H l = some (.lst xs) ∧ H b = some (.lst zs) ∧ xs.length + zs.length ≤ sizeLine ∧ ∀ p, H p = none → Q (.ref p) (upd H p (.lst (xs ++ zs)))
theorem op_cat : OpR X (binaryOp .Add) rCat := by
  intro pins s σ H x y v u Q I rx ry h
  obtain ⟨l, b, xs, zs, rfl, rfl, hH, hB, hz, q⟩ := h
  cases rx
  cases ry
  obtain ⟨z, its, n, r, hl, e⟩ := I.lstM hH
  obtain ⟨z2, its2, n2, r2, hl2, e2⟩ := I.lstM hB
  refine PySem.P.add_list e e2 ?_ (by rw [List.size_toArray, List.size_toArray]; omega)
  have ea : its.toArray ++ its2.toArray = (its ++ its2).toArray := by simp
  rw [ea]
  exact ⟨.ref _, _, I.lnew (t' := s.toks) (r.append r2) (by rw [List.length_append]; omega), rfl, q _ I.fresh⟩
def rRep : R2 := fun x y H Q => ∃ l k xs, x = .ref l ∧ y = .int k ∧ H l = some (.lst xs) ∧ -(2 ^ 63) ≤ k ∧ k < 2 ^ 63 ∧ xs.length * k.toNat ≤ sizeLine ∧
  ∀ p, H p = none → Q (.ref p) (upd H p (.lst (List.replicate k.toNat xs).flatten))
theorem len_rep {α : Type} (xs : List α) (k : Nat) : (List.replicate k xs).flatten.length = k * xs.length := by
  induction k with
  | zero => simp
  | succ k ih => rw [List.replicate_succ, List.flatten_cons, List.length_append, ih, Nat.succ_mul, Nat.add_comm]
theorem op_rep : OpR X (binaryOp .Mult) rRep := by
  intro pins s σ H x y v u Q I rx ry h
  obtain ⟨l, k, xs, rfl, rfl, hH, h1, h2, hz, q⟩ := h
  cases rx
  obtain ⟨t, rfl⟩ := ry
  obtain ⟨z, its, n, r, hl, e⟩ := I.lstM hH
  have hlen : its.toArray.size * k.toNat ≤ sizeLine := by rw [List.size_toArray, ← hl]; exact hz
  have hcap : ¬ its.toArray.size * k.toNat > (2 ^ 63 - 1) / 8 := by
    have : (sizeLine : Nat) ≤ (2 ^ 63 - 1) / 8 := by decide
    omega
  have hfit : ¬ (!Builtin.List.listFitsIndex k) = true := by
    rw [fitsIndex_both h1 h2]
    exact Bool.false_ne_true
  have hlong : ¬ Builtin.List.listTooLong (its.toArray.size * k.toNat) = true := by
    rw [notLongL hlen]
    exact Bool.false_ne_true
  have hnew : List.foldl (fun x1 x2 => x1 ++ x2) #[] (List.replicate (if its.toArray.isEmpty = true then 0 else k.toNat) its.toArray) = (List.replicate k.toNat its).flatten.toArray := by
    have f0 : ∀ m : Nat, List.foldl (fun x1 x2 => x1 ++ x2) #[] (List.replicate m its.toArray) = (List.replicate m its).flatten.toArray := fun m => by
      have := foldl_rep its m []
      rw [List.nil_append] at this
      exact this
    rw [f0]
    cases its with
    | nil => simp
    | cons a r' => rw [if_neg (by simp)]
  refine wpAny_binaryOp_repeat_ref (T := "list") (U := "int") (by decide) ⟨_, e, rfl⟩ (fun s' => typeIs_int s' k t) noFill_list_mul F.fills_int_mul F.slot_int_rmul repeat_list F.slot_int_index.lookup
    (call_meets F.slot_int_rmul (typeIs_int s k t) F.entry_int_rmul (F.args_int_rmul_2 _ _) (int___rmul___int_list k t l its.toArray n)
      ⟨e, rfl, ⟨_, e, rfl⟩, call_meets F.slot_list_mul ⟨_, e, rfl⟩ F.entry_list_mul (F.args_list_mul_2 _ _) (AutoListH.list___mul___list_int_3 l its.toArray n k t hfit hcap hlong) ⟨e, ?_⟩⟩)
  rw [hnew]
  exact ⟨.ref _, _, I.lnew (t' := s.toks) (r.rep k.toNat) (by rw [len_rep, Nat.mul_comm]; exact hz), rfl, q _ I.fresh⟩

end

section
variable {prog : Program} {w : World} {A : Around} {E : Value → Shared → Prop} {s : Shared}
end

section
variable {X : Cx}
end
end L2

namespace Att
open PySem PySem.W PySem.Calls PyProof.Rows

theorem ints_of_wellAll {P : Params} {h : Heap} : ∀ (ns : List Int) (vs : List Value), WellAll P h vs (ns.map WData.int) → IntsAre vs ns := by
  intro ns
  induction ns with
  | nil =>
    intro vs w
    rw [List.map_nil] at w
    cases w
    exact .nil
  | cons n ns ih =>
    intro vs w
    rw [List.map_cons] at w
    cases w with
    | cons a b =>
      cases a
      exact .cons _ _ (ih _ b)

theorem script_of {l : OpenLaw} {n : Nat} (hn : l.most = some n) {P : Params} {h : Heap} {args : List WData} {vals : List Value}
    (hpre : l.row.toRowW.claim.pre args = true) (hwl : WellAll P h vals args) :
    ∃ a vs ns, vals = [Value.ref a] ∧ args = [WData.list (ns.map WData.int)] ∧ h.get? a = some { cls := .type "list", data := .seq vs.toArray } ∧ IntsAre vs ns ∧ ns.length ≤ n := by
  have hsh : WShape.hasAll [] args [.list .int] = true := (pre_splitW hpre).1
  have hc : l.pre.holds [] { args := args } = true := (pre_splitW hpre).2
  obtain ⟨d, r, rfl, h1, h2⟩ := hasAllW_cons hsh
  obtain rfl := hasAllW_nil h2
  obtain ⟨xs, rfl, h3⟩ := hasW_list h1
  obtain ⟨ns, rfl⟩ := items_int h3
  have hlen : ns.length ≤ n := by
    unfold OpenLaw.pre at hc
    have h4 : (WTm.not (.lt (.lit (.int (n : Int))) (.len (.arg 0)))).holds [] { args := [.list (ns.map .int)] } = true := by
      have h4 := (holds_andW hc).1
      rw [hn] at h4
      exact h4
    have h5 := condW_of h4 (w_not (w_lt w_lit (w_len_list (w_arg rfl))))
    rw [List.length_map] at h5
    refine Nat.le_of_not_lt fun q => ?_
    have q' : (n : Int) < ((ns.length : Nat) : Int) := by omega
    first
      | (rw [decide_eq_true q'] at h5; exact absurd h5 (by decide))
      | (simp at h5; omega)
  cases hwl with
  | cons w1 w2 =>
    cases w2
    cases w1 with
    | list ho hall => exact ⟨_, _, ns, rfl, rfl, ho, ints_of_wellAll ns _ hall, hlen⟩

theorem post_true (l : OpenLaw) (args : List WData) : l.row.toRowW.claim.post args (.bool true) args = true :=
  postW_of (r := l.row.toRowW) (X := (true == true))
    (show WShape.has [] (.bool true) .bool = true by first | rfl | decide | simp [WShape.has, WShape.arms, WShape.armsAll])
    (show (WTm.eq .res (.lit (.bool true))).value [] { args := args, res := some (.bool true), after := args } = some (.bool (true == true)) from w_eq_bool (w_res rfl) w_lit) rfl

theorem attach_call {l : OpenLaw} {n : Nat} {q : Program} {loose : List Str} {XP : (Str → Option Value) → Heap → Prop} {YP : World → Heap → Prop} {d : DefRec}
    (hn : l.most = some n) (hdf : d.params.defaults = [])
    (call : ∀ (w : World) (s₀ s₁ : Shared) (mg mb : Str → Option Value) (fa : Addr) (o : Obj) (pm cd doc : Value) (a : Addr) (vs : List Value) (ns : List Int),
      Ground q loose [] XP w s₀ mg mb s₁.heap → YP w s₁.heap →
      s₁.heap.get? fa = some o → o.data = .func (docDef d.name d.params d.body d.scope pm cd doc) → s₁.heap.CodeRec cd d.name → mg d.name = some (.ref fa) →
      s₁.heap.get? a = some { cls := .type "list", data := .seq vs.toArray } → IntsAre vs ns → ns.length ≤ n → s₁.gens = #[] →
      codeAny (model l.prog w) callerA (.call (.ref fa) ⟨[.ref a], []⟩) (fun r s' => r = .ok (.ret (.bool true)) ∧ OldK s₁.heap s'.heap ∧ s'.os = s₁.os ∧ AllBare s'.gens) s₁) :
    WalkO q loose XP YP l.row.toRowW d [] (fun f vs => PySem.call f vs) := by
  intro w s₀ s₁ mg mb G Y fa o pm cd doc dV kV ho hd hcd hD hmg hg args vals as hpre hlay hrd hwl hlo
  obtain rfl : dV = .none := Dflts.none hD hdf
  obtain rfl : kV = .none := Dflts.noKw hD
  obtain ⟨a, vs, ns, rfl, rfl, hobj, hints, hlen⟩ := script_of hn hpre hwl
  refine enter_call (codeAny_mono (call w s₀ s₁ mg mb fa o pm cd doc a vs ns G Y ho (fd_plain hd) hcd hmg hobj hints hlen hg) fun r s' hq => ?_)
  obtain ⟨rfl, h2, h3, h4⟩ := hq
  exact ⟨.inl ⟨.bool true, .bool true, [], rfl, fun _ => rfl, .bool true, post_true l _, fun _ => ⟨List.Pairwise.nil, fun _ hm => (nomatch hm)⟩⟩, h2, h3, h4⟩

section
variable {prog : Program} {w : World} {A : Around} {E : Value → Shared → Prop} {s : Shared} {K : Frag}

end
end Att

namespace L2
open PySem PySem.Spec PyProof.Rows

theorem vals_ints : ∀ {vs : List Value} {ns : List Int}, IntsAre vs ns → Vals (ns.map V.int) vs
  | _, _, .nil => .nil
  | _, _, .cons n t h => .cons ⟨t, rfl⟩ (vals_ints h)

def Only (H : Hp) : Prop := ∀ b, H b = none ∨ ∃ o xs, H b = some (.frz o (.lst xs))

theorem law_call {P : Program} {w : World} {K : PySem.W.Frag} {mg mb : Str → Option Value} {CX : CXT} {k : Nat} {fa a : Addr} {fd : FuncData} {x : Str} {sp : Sp} {s₁ : Shared} {vs : List Value} {ns : List Int}
    (KX : K.In s₁.heap) (hns : s₁.heap.Ns mainGlobals mg) (hb : s₁.heap.Ns builtinsNs mb) (hbb : ∀ x : Str, x ≠ "__name__" → mb x = bootBuiltins x) (hlim : s₁.heap.NoLimit) (hg : s₁.gens = #[])
    (ha : s₁.heap.get? a = some { cls := .type "list", data := .seq vs.toArray }) (hi : IntsAre vs ns) (hl : ns.length ≤ sizeLine) (hr : Room k callerA)
    (F : ∀ base : Heap, K.In base → base.Ns mainGlobals mg → FnOk P w K mg base CX k fa fd [x] sp) (hbind : ∀ (s : Shared) (u : Value), BindsTo s fd ⟨[u], []⟩ [(x, u)])
    (hsp : ∀ H : Hp, Only H → SqL K H a (ns.map V.int) → sp [.ref a] H (fun v _ => v = .bl true) fun _ _ _ => False)
    (hCX : ∀ H e s', CX [] H s₁ (fun _ _ _ => False) e s' → False) :
    codeAny (model P w) callerA (.call (.ref fa) ⟨[.ref a], []⟩) (fun r s' => r = .ok (.ret (.bool true)) ∧ OldK s₁.heap s'.heap ∧ s'.os = s₁.os ∧ AllBare s'.gens) s₁ := by
  have rv := vals_ints hi
  have lenV := hi.length
  -- from an abstract heap in which nothing but the script may be tracked
  have core : ∀ H : Hp, Only H → SqL K H a (ns.map V.int) → HOk P w H s₁.heap → (∀ b, H b ≠ none → b = a) → (H a ≠ none → K.lookup a = none) →
      codeAny (model P w) callerA (.call (.ref fa) ⟨[.ref a], []⟩) (fun r s' => r = .ok (.ret (.bool true)) ∧ OldK s₁.heap s'.heap ∧ s'.os = s₁.os ∧ AllBare s'.gens) s₁ := by
    intro H hO hS hok hA hK
    have base_of : ∀ {b : Addr} {o : Obj}, s₁.heap.get? b = some o → H b = none → (hidT s₁.heap H).get? b = some o := fun e n => hidT_get e n
    have noA : ∀ {b : Addr} {o : Obj} {es : Array DictEntry} {ep : Nat}, s₁.heap.get? b = some o → o.data = .dict es ep → H b = none := fun {b o es ep} e d => by
      cases q : H b with
      | none => rfl
      | some u =>
        have e' : b = a := hA b (by rw [q]; simp)
        subst e'
        rw [ha] at e; cases e
        have d' : Data.seq vs.toArray _ = Data.dict es ep := d
        cases d'
    have nsK : ∀ {b : Addr} {m : Str → Option Value}, s₁.heap.Ns b m → (hidT s₁.heap H).Ns b m := fun {b m} ⟨o, es, ep, e, d, r⟩ => ⟨o, es, ep, base_of e (noA e d), d, r⟩
    have hKb : K.In (hidT s₁.heap H) := fun b o e => base_of (KX b o e) (by
      cases q : H b with
      | none => rfl
      | some u =>
        have e' : b = a := hA b (by rw [q]; simp)
        subst e'
        rw [hK (by rw [q]; simp)] at e; cases e)
    have hM : Mod K mg (hidT s₁.heap H) := ⟨hKb, nsK hns, ⟨mb, nsK hb, hbb⟩, let ⟨mc, h1, h2⟩ := hlim; ⟨mc, nsK h1, h2⟩⟩
    have e0 : Env0 P w K mg (hidT s₁.heap H) callerA [] s₁ H := ⟨rfl, hM, fun b o e => of_hidT e, Nat.le_of_eq (hidT_size _ _), trivial, fun b hb => absurd (show b ∈ ([] : List Addr) from hb) (by simp), hok, .of_eq hg⟩
    refine codeAny_mono ((F _ hKb (nsK hns)).run callerA [] s₁ H ⟨[.ref a], []⟩ [.ref a] [.ref a] _ _ hr e0 (hbind s₁ (.ref a)) (.cons rfl .nil) (hsp H hO hS)) fun r s' h => ?_
    cases r with
    | error e => exact (hCX H e s' h).elim
    | ok fl =>
      cases fl with
      | next => exact False.elim h
      | brk => exact False.elim h
      | cont => exact False.elim h
      | ret u =>
        obtain ⟨v, H', os, bare, un, hok', r', q⟩ := h
        have q' : v = .bl true := q
        subst q'
        obtain rfl : u = Value.bool true := r'
        refine ⟨rfl, OldK.of_keep fun b o e => ?_, os, bare⟩
        cases q : H b with
        | none => exact un.keep b o e q (by intro z; exact absurd (show b ∈ ([] : List Addr) from z) (by simp)) (by simp)
        | some u =>
          rcases hO b with z | ⟨ob, xs, z⟩
          · rw [q] at z; cases z
          · have z2 := un.frzs b ob _ z
            obtain ⟨e1, _⟩ := hok b _ z
            obtain ⟨e2, _⟩ := hok' b _ z2
            rw [e] at e1; cases e1
            exact e2
  cases hk : K.lookup a with
  | some o =>
    -- the script is one of the module's own objects
    have e := KX a o hk
    rw [ha] at e
    cases e
    refine core (fun _ => none) (fun _ => .inl rfl) (.inr ⟨_, vs.toArray, _, hk, rfl, rfl, rfl, by rw [List.size_toArray, lenV]; exact hl, by simpa using rv⟩) (fun b u z => by have z' : (none : Option HO) = some u := z; cases z') (fun b z => absurd rfl z) fun z => absurd rfl z
  | none =>
    refine core (fun b => if b = a then some (.frz { cls := .type "list", data := .seq vs.toArray } (.lst (ns.map V.int))) else none) (fun b => ?_) (.inl (.inr ⟨{ cls := .type "list", data := .seq vs.toArray }, if_pos rfl⟩)) (fun b u z => ?_) (fun b z => ?_) fun _ => hk
    · by_cases hb : b = a
      · exact .inr ⟨_, _, if_pos hb⟩
      · exact .inl (if_neg hb)
    · by_cases hb : b = a
      · have z' := (if_pos hb).symm.trans z
        cases z'
        subst hb
        exact ⟨ha, by rw [List.length_map]; exact hl, vs, _, rv, ha⟩
      · have z' := (if_neg hb).symm.trans z
        cases z'
    · by_cases hb : b = a
      · exact hb
      · exact absurd (if_neg hb) z
end L2

namespace L2
open PySem PySem.Spec PyProof.Rows

abbrev KOf {K : PySem.W.Frag} {h : Heap} (_ : K.In h) : PySem.W.Frag := K

theorem walk_of {l : PySem.W.OpenLaw} {n k : Nat} {q : Program} {loose : List Str} {XP : (Str → Option Value) → Heap → Prop} {YP : World → Heap → Prop} {d : DefRec} {K : Params → PySem.W.Frag} {CX : World → CXT} {sp : World → Sp} {x : Str}
    (hn : l.most = some n) (hn2 : n ≤ sizeLine) (hdf : d.params.defaults = []) (hr : Room k callerA)
    (hY : ∀ (w : World) (h : Heap), YP w h → (K w.params).In h)
    (F : ∀ (w : World) (mg : Str → Option Value) (fa : Addr) (h : Heap), (K w.params).In h → h.Ns mainGlobals mg → mg d.name = some (.ref fa) →
      ∃ fd : FuncData, (∀ (s : Shared) (u : Value), BindsTo s fd ⟨[u], []⟩ [(x, u)]) ∧
        ∀ base : Heap, (K w.params).In base → base.Ns mainGlobals mg → FnOk l.prog w (K w.params) mg base (CX w) k fa fd [x] (sp w))
    (hsp : ∀ (w : World) (H : Hp) (a : Addr) (ns : List Int), ns.length ≤ n → Only H → SqL (K w.params) H a (ns.map V.int) → sp w [.ref a] H (fun v _ => v = .bl true) fun _ _ _ => False)
    (hCX : ∀ (w : World) (H : Hp) (s : Shared) (e : Value) (s' : Shared), CX w [] H s (fun _ _ _ => False) e s' → False) :
    PySem.W.WalkO q loose XP YP l.row.toRowW d [] (fun f vs => PySem.call f vs) := by
  refine Att.attach_call hn hdf fun w s₀ s₁ mg mb fa o pm cd doc a vs ns G Y ho hd hcd hmg hobj hints hlen hg => ?_
  have KX := hY w _ Y
  obtain ⟨fd, hb, hF⟩ := F w mg fa _ KX G.T.g hmg
  exact law_call KX G.T.g G.T.b G.T.builtins G.T.nolimit hg hobj hints (Nat.le_trans hlen hn2) hr hF hb (fun H hO hS => hsp w H a ns hlen hO hS) fun H e s' => hCX w H s₁ e s'
end L2

/- THE LAST THEOREM (shape; LID, My.* are yours):
   My.Adr: a structure of the addresses that your layer names (classes, functions); My.Txt K t: a structure (Prop) of the equations over K;
   My.txt_mk : {K} {implicit addresses ..} (e1 : nsIn K mainGlobals "law" = some (some (.ref f))) (e2 : K.lookup f = some ⟨oc, od, .func (fnOf "law" "law" params body scope dV kV doc pm an cdv ct), sl⟩) (e3 : codeIn K cdv "law" = true) .. : ∃ t, My.Txt K t

set_option maxRecDepth 100000 in
set_option maxHeartbeats 0 in
theorem PySem.Challenge.cw_LID_holds : PySem.Challenge.rw_LID.Holds := by
  w_on; o_law; k_head; (case hw => w_witness2)
  k_fill
  refine L2.walk_of (l := PySem.Challenge.rw_LID) (n := 63) (k := 40) (x := "script") (CX := fun w => ..) (sp := fun _ => My.sp_law) rfl (by decide) rfl ⟨rfl, by decide, by decide⟩ (fun w h Y => PySem.W.kIn_of Y) ?F ?S ?C
  case F =>
    intro w mg fa h KX G hmg
    have T : ∃ t, My.Txt (L2.KOf KX) t := by
      dsimp only [L2.KOf]                          -- K must stand as «<heap const> w.params» for k_is
      refine' My.txt_mk ?e1 ?e2 ?e3 ..
      (case e1 => PySem.W.k_is)                    -- in the order: a name -> its address -> its object -> its parts
      (case e2 => PySem.W.k_is)
      ..
    obtain ⟨t, T⟩ := T
    have e0 := hmg.symm.trans (PySem.W.mg_of KX G T.law)
    cases e0                                       -- fa is the law's own address
    exact ⟨_, fun s u => .of_eq rfl, fun base kb nb => My.law_fn T kb nb⟩     -- if «.of_eq rfl» comes too early: refine' ⟨_, ?b, fun base kb nb => My.law_fn T kb nb⟩; exact fun s u => .of_eq rfl
  case S => exact fun w H a ns hl hO hS => ..
  case C => exact ..
(the tactic k_is has no namespace: write k_is) -/

namespace L2
open PySem PySem.Spec PyProof.Rows

def inClass (s : Stmt) (j : Nat) : Stmt := match s with
  | .ClassDef _ _ _ body _ _ _ _ _ _ _ => body.getD j (.Pass ⟨0, 0, 0, 0⟩)
  | _ => .Pass ⟨0, 0, 0, 0⟩
def defArgs (s : Stmt) : Arguments := match s with
  | .FunctionDef _ a _ _ _ _ _ _ _ _ => a
  | _ => { posonlyargs := [], args := [], vararg := none, kwonlyargs := [], kw_defaults := [], kwarg := none, defaults := [] }
def defBody (s : Stmt) : List Stmt := match s with
  | .FunctionDef _ _ b _ _ _ _ _ _ _ => b
  | _ => []
def defScope (s : Stmt) : Scope := match s with
  | .FunctionDef _ _ _ _ _ _ sc _ _ _ => sc
  | _ => { kind := .function, names := [], isGenerator := false, isCoroutine := false }

abbrev CX0 : CXT := fun _ _ _ _ _ _ => False
abbrev E0 : XK := fun _ _ _ => False
theorem pass0 {X : Cx} : Passes CX0 X E0 := fun _ _ _ _ _ _ _ h => h.elim

structure Fun (K : PySem.W.Frag) (x qual : Str) (st : Stmt) (f : Addr) (fd : FuncData) : Prop where
  ex : ∃ (oc : Value) (od : Option Addr) (kV doc pm : Value) (an : Option Addr) (cdv ct : Value) (osl : Array (Option Value)),
    fd = PySem.W.fnOf x qual (defArgs st) (defBody st) (defScope st) .none kV doc pm an cdv ct ∧ K.lookup f = some ⟨oc, od, .func fd, osl⟩ ∧ PySem.W.codeIn K cdv qual = true
  kp : PySem.W.keepIn K (.ref f) = true
section
variable {P : Program} {w : World} {K : PySem.W.Frag} {mg : Str → Option Value} {base : Heap}
theorem Fun.ok {x qual : Str} {st : Stmt} {f : Addr} {fd : FuncData} {N ps : List Str} {k : Nat} {sp : Sp} (F : Fun K x qual st f fd) (S : FnScope N ps (defScope st)) (len : ∀ vs H Q E, sp vs H Q E → vs.length = ps.length)
    (hbody : ∀ (cdv : Value) (A : Around) (outer : List Env) (s : Shared) (H : Hp) (vs : List V) (Q : VK) (E : XK), Room k (A.deeper (envOfC qual (defScope st) s.heap.objs.size f cdv)) → sp vs H Q E →
      ∃ t, PSs (cxOf CX0 P w K mg base N qual (defScope st) f cdv A outer s H E).nox (defBody st) t ∧ t { nx := fun _ H' => Q .non H', rt := Q } (start N vs) H) : FnOk P w K mg base CX0 (k + 1) f fd ps sp := by
  obtain ⟨oc, od, kV, doc, pm, an, cdv, ct, osl, rfl, lk, hcd⟩ := F.ex
  refine fn_of lk hcd S len fun A outer s H vs Q E hr hsp => ?_
  obtain ⟨t, h, q⟩ := hbody cdv A outer s H vs Q E hr hsp
  exact ⟨t, h.nox, q⟩
theorem Fun.binds {x qual : Str} {st : Stmt} {f : Addr} {fd : FuncData} {ps : List Str} (F : Fun K x qual st f fd)
    (h : ∀ (kV doc pm : Value) (an : Option Addr) (cdv ct : Value) (us : List Value), us.length = ps.length → bindArgs (PySem.W.fnOf x qual (defArgs st) (defBody st) (defScope st) .none kV doc pm an cdv ct) ⟨us, []⟩ = pure (ps.zip us)) : Binds K fd ps [] := by
  obtain ⟨oc, od, kV, doc, pm, an, cdv, ct, osl, rfl, lk, hcd⟩ := F.ex
  exact .all (h kV doc pm an cdv ct)
theorem fun_mk {x qual : Str} {st : Stmt} {f : Addr} {oc : Value} {od an : Option Addr} {osl : Array (Option Value)} {kV doc pm cdv ct : Value} (l : K.lookup f = some ⟨oc, od, .func (PySem.W.fnOf x qual (defArgs st) (defBody st) (defScope st) .none kV doc pm an cdv ct), osl⟩)
    (c : PySem.W.codeIn K cdv qual = true) (k : PySem.W.keepIn K (.ref f) = true) : Fun K x qual st f (PySem.W.fnOf x qual (defArgs st) (defBody st) (defScope st) .none kV doc pm an cdv ct) := ⟨⟨oc, od, kV, doc, pm, an, cdv, ct, osl, rfl, l, c⟩, k⟩
end
theorem hu_of {A : Around} {k : Nat} (hr : Room k A) : A.units + 1 < cLine := Nat.lt_of_le_of_lt (Nat.add_le_add_left (by decide : 1 ≤ 64) _) hr.units
theorem small1000 {n : Nat} (h : n ≤ 1000) : n < sizeLine := Nat.lt_of_le_of_lt h (by decide)

section
variable {X : Cx}
theorem pv (i : Nat) {x : Str} {pos : Pos} (hN : X.N[i]? = some x := by rfl) (hv : Vis X.env.scope x := by first | exact Or.inl rfl | exact Or.inr (Or.inl rfl) | exact Or.inr (Or.inr rfl)) (hd : (x == ("__debug__" : Str)) = false := by decide)
    (hcd : (x == ("__classdict__" : Str)) = false := by decide) : PE X (.Name x pos) (tVar i) := pe_var hN hv hd hcd
end

theorem iteF {A B : Prop} (h : B) : if false = true then A else B := by
  rw [if_neg Bool.false_ne_true]
  exact h
theorem iteT {A B : Prop} (h : A) : if true = true then A else B := by
  rw [if_pos rfl]
  exact h
theorem ite2 {c A B : Prop} [Decidable c] (h1 : c → A) (h2 : ¬ c → B) : if c then A else B := by
  by_cases h : c
  · rw [if_pos h]
    exact h1 h
  · rw [if_neg h]
    exact h2 h
def Same (H H' : Hp) : Prop := ∀ b o, H b = some o → H' b = some o
theorem Same.refl (H : Hp) : Same H H := fun _ _ h => h
theorem Same.trans {H H1 H2 : Hp} (a : Same H H1) (b : Same H1 H2) : Same H H2 := fun c o h => b c o (a c o h)
theorem Same.free {H H' : Hp} (e : Same H H') {l : Addr} (h : H' l = Option.none) : H l = Option.none := by
  cases q : H l with
  | none => rfl
  | some o =>
    rw [e l o q] at h
    cases h
theorem Same.seq {K : PySem.W.Frag} {H H' : Hp} {a : Addr} {xs : List V} (e : Same H H') (h : SqL K H a xs) : SqL K H' a xs := by
  rcases h with (h | ⟨o, h⟩) | h
  · exact .inl (.inl (e _ _ h))
  · exact .inl (.inr ⟨o, e _ _ h⟩)
  · exact .inr h

end L2
set_option Elab.async false
set_option linter.all false
set_option maxRecDepth 100000
namespace L2
open PySem PySem.Spec PyProof.Rows

section
variable {prog : Program} {w : World} {A : Around} {R : Result → Shared → Prop} {s : Shared}
theorem compLoop_any {elt target iter : Expr} {ifs : List Expr} {scope : Scope} {pos : Pos} {it acc : Value} {env : Env} (I : Nat → Shared → Prop)
    (turn : ∀ n s, I n s → wpAny (model prog w) A (pyNext it) (fun r s₁ => match r with
      | none => R (.ok .next) s₁
      | some v => wpAny (model prog w) A (letOwnedTupleGo target it v) (fun _ s₀ => wpAny (model prog w) A (assign target env v) (fun _ s₂ =>
          wpAny (model prog w) A (forIn ifs true fun c r => if r = true then do let ok ← isTrue c env (eval c env); pure (ForInStep.yield ok) else pure (ForInStep.yield r)) (fun ok s₃ =>
            if ok = true then wpAny (model prog w) A (eval elt env) (fun x s₄ =>
              wpAny (model prog w) A (call (.builtin "list.append") [acc, x]) (fun _ s₅ => ∃ m, m < n ∧ I m s₅) (fun _ _ => False) s₄) (fun _ _ => False) s₃
            else ∃ m, m < n ∧ I m s₃) (fun _ _ => False) s₂) (fun _ _ => False) s₀) (fun _ _ => False) s₁) (fun _ _ => False) s)
    (n : Nat) (h : I n s) :
    codeAny (model prog w) A (.compLoop (.ListComp elt [⟨target, iter, ifs, 0⟩] scope pos) 0 it acc env) R s := by
  refine codeAny_loop rfl I (fun n s hI => ?_) n h
  show wpAny _ A ((compTurn (.ListComp elt [⟨target, iter, ifs, 0⟩] scope pos) 0 it acc env).onRaise (fun x => do noteFrame x env; theTreesLotGoes x)) _ _ s
  refine wpAny_noted ?_
  rw [compTurn_list]
  have no : ∀ {X : Prop}, ∀ (e : Value) (s' : Shared), (fun _ _ => False : Value → Shared → Prop) e s' → X := fun _ _ z => False.elim z
  refine wpAny_bind (wpAny_standAt (wpAny_bind (wpAny_mono (turn n s hI) (fun r s₁ h₁ => ?_) fun e s' => no e s')))
  cases r with
  | none => exact wpAny_pure h₁
  | some v =>
    refine wpAny_bind (wpAny_mono h₁ (fun _ s₀ h₀ => ?_) fun e s' => no e s')
    refine wpAny_bind (wpAny_mono h₀ (fun _ s₂ h₂ => wpAny_bind (wpAny_mono h₂ (fun ok s₃ h₃ => ?_) fun e s' => no e s')) fun e s' => no e s')
    cases ok with
    | false => exact wpAny_pure ⟨rfl, h₃⟩
    | true =>
      exact wpAny_bind (wpAny_bind (wpAny_mono h₃ (fun x s₄ h₄ => wpAny_bind (wpAny_mono h₄ (fun _ s₅ h₅ => wpAny_pure (wpAny_pure ⟨rfl, h₅⟩)) fun e s' => no e s')) fun e s' => no e s'))
end

def cxComp (X : Cx) (NB : List Str) (scope : Scope) (s3 : Shared) (H3 : Hp) (fp : List Addr) : Cx :=
  { X with N := NB, s₀ := s3, H₀ := H3, env := compEnv scope s3.heap.objs.size X.env, outer := X.stack, stack := X.stack, ex := fp, fn := fun _ => true, pn := [], xe := fun _ _ => False }

def PTs (X : Cx) (ifs : List Expr) (t : TT) : Prop :=
  ∀ (pins : List (Addr × Obj)) (s : Shared) (σ : St) (H : Hp) (Q : Bool → Hp → Prop), Inv X pins σ H s → t σ H Q →
    wpAny (model X.prog X.w) X.A (forIn ifs true fun c r => if r = true then do let ok ← isTrue c X.env (eval c X.env); pure (ForInStep.yield ok) else pure (ForInStep.yield r)) (TP X pins σ Q) X.xe s
theorem pts_nil {X : Cx} : PTs X [] (fun _ H Q => Q true H) := fun _ _ _ H _ I h => wpAny_tests_nil ⟨H, I, h⟩
theorem pts_one {X : Cx} {c : Expr} {t : TT} (h : PT X c t) : PTs X [c] t := fun pins s σ H Q I q => wpAny_tests_one (h pins s σ H Q I q)

def tComp (n : Nat) (wi : TI) (g : TG) (tt : TT) (te : TE) : TE := fun σ H Q => wi σ H fun J H1 => ∀ D, H1 D = none → ∃ W : Nat → Nat → Hp → List V → Prop, (∃ m, W 0 m (upd H1 D (.lst [])) []) ∧
  ∀ i m H2 ys, W i m H2 ys → H2 D = some (.lst ys) → (J.stop i H2 ∧ Q (.ref D) H2) ∨
    (J.go i H2 ∧ ∀ σB x H3, σB.length = n → J.yld i H2 x H3 → g x σB H3 fun σ4 H4 => tt σ4 H4 fun b H5 => if b = true then te σ4 H5 (fun v H6 => H6 D = some (.lst ys) ∧ ys.length < sizeLine ∧ ∃ m', m' < m ∧ W (i + 1) m' (upd H6 D (.lst (ys ++ [v]))) (ys ++ [v]))
      else H5 D = some (.lst ys) ∧ ∃ m', m' < m ∧ W (i + 1) m' H5 ys)


theorem pe_comp {X : Cx} {elt tg iter : Expr} {ifs : List Expr} {scope : Scope} {pos : Pos} {NB : List Str} {wi : TI} {g : TG} {tt : TT} {te : TE}
    (hc : X.calm = true) (hfree : ∀ x ∈ scope.names, x.2 ≠ .free) (hcell : ∀ x ∈ scope.names, x.2 ≠ .cell) (hkind : scope.kind = .function) (hnames : ∀ x ∈ scope.names, x.2 = .local → scope.names.lookup x.1 = some .local)
    (hi : PI X tg iter wi) (hb : ∀ s3 H3 fp, PG (cxComp X NB scope s3 H3 fp) tg g ∧ PTs (cxComp X NB scope s3 H3 fp) ifs tt ∧ PE (cxComp X NB scope s3 H3 fp) elt te)
    (hs : ∀ x, foldedSetIterable iter X.env x = pure x := by intro _; rfl) :
    PE X (.ListComp elt [⟨tg, iter, ifs, 0⟩] scope pos) (tComp NB.length wi g tt te) := by
  intro pins s σ H Q I h
  refine wpAny_ListComp hfree hkind hnames (thn (hi pins s σ H _ I h) fun v s1 h1 => thn h1 fun itv s2 h2 => ?_) hs
  obtain ⟨it, fp, tn, J, H2, e, I2, T, st2, f2, q2⟩ := h2
  subst e
  have hf2 : H2 s2.heap.objs.size = none := I2.hok.fresh (Nat.le_refl _)
  obtain ⟨W, ⟨m0, w0⟩, turn⟩ := q2 _ hf2
  refine wpAny_newObj_type (hd := by size_fits) ?_
  have I3 : Inv X pins σ (upd H2 s2.heap.objs.size (.lst [])) { s2 with heap := s2.heap.push { cls := .type "list", dict := none, data := .seq ([] : List Value).toArray } } :=
    I2.laid (t' := s2.toks) (fun b u e => Heap.get?_push_of_some _ e) (Nat.le_refl _) ⟨by decide, [], 0, .nil, Heap.get?_push_size _ rfl⟩
  generalize hD : s2.heap.objs.size = D at *
  generalize hs3 : ({ s2 with heap := s2.heap.push { cls := .type "list", dict := none, data := .seq ([] : List Value).toArray } } : Shared) = s3 at *
  generalize hH3 : upd H2 D (.lst []) = H3 at *
  have h3D : H3 D = some (.lst []) := by rw [← hH3]; exact upd_same
  have fpD : ∀ b ∈ fp, b ≠ D := fun b hb => by
    obtain ⟨o, e, _⟩ := T.obj _ _ st2 b hb
    rw [← hD]; exact Nat.ne_of_lt (Heap.lt_size e)
  have k23 : ∀ b u, s2.heap.get? b = some u → s3.heap.get? b = some u := fun b u e => by rw [← hs3]; exact Heap.get?_push_of_some _ e
  have st3 : tn 0 s3.heap := T.keep _ _ _ st2 fun b _ o e => k23 b o e
  have f3 : ∀ b ∈ fp, FpOk X pins H3 b := fun b hb => ⟨by rw [← hH3, upd_ne (fpD b hb)]; exact (f2 b hb).1, (f2 b hb).2⟩
  refine wpAny_newFunctionEnv hcell (by intro y hy; simp at hy) (fun h4 hns4 hsb4 => ?_) hkind
  have k34 : ∀ b u, s3.heap.get? b = some u → h4.get? b = some u := fun b u e => hsb4.extBut b u (Nat.ne_of_lt (Heap.lt_size e)) (Heap.get?_push_of_some _ e)
  have okB : (cxComp X NB scope s3 H3 fp).Ok := by
    refine ⟨I3.ok.mod, hkind, I3.ok.glob, I3.ok.blt, Nat.le_refl _, fun x y c e _ => ?_, fun x e => ?_, fun x c _ e => ?_, I3.ok.hd, I3.ok.frames, .inl rfl, fun b hb => ⟨?_, fun x c e => ?_⟩, I3.bs, Nat.le_trans I3.ok.bsz I3.sz, fun b o e hb => ?_, fun b hb z => ?_, I3.stack, I3.stkFree⟩
    · exact absurd (show ([] : List (Str × Addr)).lookup x = some c from e) (by simp)
    · have e' : scope.names.lookup x = some .cell ∨ scope.names.lookup x = some .free := e
      rcases e' with e' | e'
      · exact absurd rfl (hcell _ (PySem.mem_of_lookup e'))
      · exact absurd rfl (hfree _ (PySem.mem_of_lookup e'))
    · exact absurd (show ([] : List (Str × Addr)).lookup x = some c from e) (by simp)
    · obtain ⟨o, e, _⟩ := T.obj _ _ st3 b hb
      exact Nat.ne_of_lt (Heap.lt_size e)
    · exact absurd (show ([] : List (Str × Addr)).lookup x = some c from e) (by simp)
    · obtain ⟨_, _, _, z, _⟩ := f3 b hb
      rcases z with z | z
      · exact I3.ok.noex b o e z
      · exact absurd (Nat.lt_of_lt_of_le (Heap.lt_size e) (Nat.le_trans I3.ok.bsz z)) (Nat.lt_irrefl _)
    · obtain ⟨_, z1, z2, _⟩ := f3 b hb
      rcases List.mem_cons.mp (I3.stkSub b z) with e | e
      · exact z1 e
      · exact z2 e
  have IB : Inv (cxComp X NB scope s3 H3 fp) [] (List.replicate NB.length none) H3 { s3 with heap := h4, toks := s3.toks + ([] : List (Str × Value)).length } := by
    refine ⟨okB, rfl, I3.bare, Un.kept k34, ⟨_, hns4, fun i x v _ e _ => ?_⟩, fun x c e => ?_, I3.hok.fresh (Nat.le_refl _), fun x c e => ?_, fun p hp => ?_, I3.hok.kept k34, by simp [cxComp]⟩
    · rw [List.getElem?_replicate] at e
      split at e <;> cases e
    · exact absurd (show ([] : List (Str × Addr)).lookup x = some c from e) (by simp)
    · exact absurd (show ([] : List (Str × Addr)).lookup x = some c from e) (by simp)
    · exact absurd (show p ∈ ([] : List (Addr × Obj)) from hp) (by simp)
  have st4 : tn 0 h4 := T.keep _ _ _ st3 fun b _ o e => k34 b o e
  have C_ne : ∀ b ∈ fp, b ≠ s3.heap.objs.size := fun b hb => (okB.exf b hb).1
  -- what stays true of the iterator's objects
  have stat : ∀ {H' : Hp}, (∀ b ∈ fp, H' b = none) → ∀ b ∈ fp, FpOk (cxComp X NB scope s3 H3 fp) [] H' b := fun hn b hb =>
    ⟨hn b hb, C_ne b hb, okB.exfs b hb, .inl hb, fun x c e => absurd (show ([] : List (Str × Addr)).lookup x = some c from e) (by simp), fun p hp => absurd (show p ∈ ([] : List (Addr × Obj)) from hp) (by simp)⟩
  obtain ⟨hg, ht, he⟩ := hb s3 H3 fp
  have fin : ∀ {σ' : St} {H' : Hp} {s' : Shared}, Inv (cxComp X NB scope s3 H3 fp) [] σ' H' s' → Q (.ref D) H' →
      ∃ m, s'.heap.Ns s3.heap.objs.size m ∧ ∀ h', Heap.SameBut s3.heap.objs.size s'.heap h' → EP X pins σ Q (.ref D) { s' with heap := h' } := fun {σ' H' s'} J q => by
    obtain ⟨m, hm, _⟩ := J.loc
    refine ⟨m, hm, fun h' sb => ⟨.ref D, H', ?_, rfl, q⟩⟩
    have neC : ∀ b o, s3.heap.get? b = some o → b ≠ s3.heap.objs.size := fun b o e => Nat.ne_of_lt (Heap.lt_size e)
    have hfr : H' s3.heap.objs.size = none := J.free
    have up : ∀ b o, b ≠ s3.heap.objs.size → s'.heap.get? b = some o → h'.get? b = some o := fun b o hb e => (sb.2 b hb).trans e
    have hok' : HOk X.prog X.w H' h' := fun b ob e => (J.hok b ob e).stay (fun c w' hc q => up c w' (by
      rintro rfl
      rcases hc with rfl | hc
      · rw [hfr] at e; cases e
      · rw [hfr] at hc; cases hc) q) (fun _ q => q) fun _ _ q => q
    have u : Un (frs X.stack) fp H3 H' s3.heap h' :=
      ⟨fun b o e n hb hx => up b o (neC b o e) (J.base.keep b o e n hb hx), fun b o e n hb hx => by
        obtain ⟨sl, e'⟩ := J.base.slot b o e n hb hx
        exact ⟨sl, up b _ (neC b o e) e'⟩, J.base.free, fun b o e hx => by
        obtain ⟨o', e'⟩ := J.base.there b o e hx
        exact ⟨o', up b _ (neC b o e) e'⟩, J.base.tups, J.base.frzs, J.base.tbls⟩
    refine I3.call' (s' := { s' with heap := h' }) (ch := fp) J.os u hok' J.bare fun b hb => ?_
    obtain ⟨z0, z1, z2, z3, z4, z5⟩ := f3 b hb
    exact ⟨z3, z1, z4, z5⟩
  have loop : ∀ s5 : Shared, s5 = { s3 with heap := h4, toks := s3.toks + ([] : List (Str × Value)).length } →
      codeAny (model X.prog X.w) X.A (.compLoop (.ListComp elt [⟨tg, iter, ifs, 0⟩] scope pos) 0 (.ref it) (.ref D) (compEnv scope s3.heap.objs.size X.env))
        (fun r s' => ∃ m, s'.heap.Ns s3.heap.objs.size m ∧ ∀ h', Heap.SameBut s3.heap.objs.size s'.heap h' →
          match r with | .ok _ => EP X pins σ Q (.ref D) { s' with heap := h' } | .error x => wpAny (model X.prog X.w) X.A (passOn "comprehension.variables-let-go" x (compEnv scope s3.heap.objs.size X.env)) (EP X pins σ Q) X.xe { s' with heap := h' }) s5 := by
    rintro s5 rfl
    refine compLoop_any (fun n s' => ∃ i σ' H' ys, Inv (cxComp X NB scope s3 H3 fp) [] σ' H' s' ∧ tn i s'.heap ∧ (∀ b ∈ fp, H' b = none) ∧ H' D = some (.lst ys) ∧ W i n H' ys) ?_ m0
      ⟨0, _, H3, [], IB, st4, fun b hb => (f3 b hb).1, h3D, by rw [← hH3] at *; exact w0⟩
    rintro n s6 ⟨i, σ6, H6, ys, I6, st6, fr6, hD6, w6⟩
    rcases turn i n H6 ys w6 hD6 with ⟨stop, qn⟩ | ⟨go, step⟩
    · refine thn (T.done (cxComp X NB scope s3 H3 fp) rfl rfl rfl hc i [] s6 σ6 H6 _ I6 (stat fr6) st6 stop) fun r s7 ⟨hr, I7⟩ => ?_
      subst hr
      exact fin I7 qn
    · refine thn (T.item (cxComp X NB scope s3 H3 fp) rfl rfl rfl hc i [] s6 σ6 H6 _ I6 (stat fr6) st6 go) fun r s7 ⟨u, hr, h7⟩ => ?_
      subst hr
      refine thn h7 fun _ s8 ⟨x, H8, I8, r8, y8, st8, fr8⟩ => ?_
      have I8' := I8.pinned (stat fr8) (T.obj _ _ st8)
      have again : ∀ {σ9 : St} {H9 : Hp} {s9 : Shared} {zs : List V} {m' : Nat}, Inv (cxComp X NB scope s3 H3 fp) ([] ++ pinsAt fp s8.heap) σ9 H9 s9 → H9 D = some (.lst zs) → m' < n → W (i + 1) m' H9 zs →
          ∃ m, m < n ∧ ∃ i σ' H' ys, Inv (cxComp X NB scope s3 H3 fp) [] σ' H' s9 ∧ tn i s9.heap ∧ (∀ b ∈ fp, H' b = none) ∧ H' D = some (.lst ys) ∧ W i m H' ys := fun {σ9 H9 s9 zs m'} I9 hz hm w9 => by
        refine ⟨m', hm, i + 1, σ9, H9, zs, I9.unpinned, T.keep _ _ _ st8 fun b hb o e => (I9.pin (b, o) (List.mem_append_right _ (List.mem_append_right _ (mem_pinsAt hb e)))).1, fun b hb => ?_, hz, w9⟩
        obtain ⟨o, e, d⟩ := T.obj _ _ st8 b hb
        exact (I9.pin (b, o) (List.mem_append_right _ (List.mem_append_right _ (mem_pinsAt hb e)))).2.1
      refine thn (hg _ s8 σ6 H8 x u _ I8' r8 (step σ6 x H8 I6.len y8)) fun _ s9 ⟨σ9, H9, I9, q9⟩ => ?_
      refine thn (ht _ s9 σ9 H9 _ I9 q9) fun ok s10 ⟨H10, I10, q10⟩ => ?_
      cases ok with
      | false =>
        rw [if_neg (by decide)] at q10 ⊢
        obtain ⟨hz, m', hm, w'⟩ := q10
        exact again I10 hz hm w'
      | true =>
        rw [if_pos rfl] at q10 ⊢
        refine thn (he _ s10 σ9 H10 _ I10 q10) fun y s11 ⟨v, H11, I11, r11, hz, hlen, m', hm, w'⟩ => ?_
        refine thn (mt_append _ s11 σ9 H11 (.ref D) [v] (.ref D) [y] (fun _ H12 => H12 = upd H11 D (.lst (ys ++ [v]))) I11 rfl (.cons r11 .nil) ⟨D, ys, v, rfl, rfl, hz, hlen, rfl⟩) fun _ s12 ⟨_, H12, I12, _, e12⟩ => ?_
        subst e12
        exact again I12 upd_same hm w'
  exact codeAny_compStart_list (loop _ rfl) (T.self X.A 0 _ _ _ st4 (loop _ rfl))
end L2
set_option Elab.async false
set_option linter.all false
set_option maxRecDepth 100000
namespace L2
open PySem PySem.Spec PyProof.Rows

mutual
inductive RdD (H : Hp) : V → PyData → Prop
  | non : RdD H .non .none
  | bl (b : Bool) : RdD H (.bl b) (.bool b)
  | int (i : Int) : RdD H (.int i) (.int i)
  | str (x : Str) : RdD H (.str x) (.str x)
  | tup {a : Addr} {xs : List V} {ds : List PyData} : H a = some (.tup xs) → RdDs H xs ds → RdD H (.ref a) (.tuple ds)
  | lst {a : Addr} {xs : List V} {ds : List PyData} : H a = some (.lst xs) → RdDs H xs ds → RdD H (.ref a) (.list ds)
inductive RdDs (H : Hp) : List V → List PyData → Prop
  | nil : RdDs H [] []
  | cons {x : V} {d : PyData} {xs : List V} {ds : List PyData} : RdD H x d → RdDs H xs ds → RdDs H (x :: xs) (d :: ds)
end
section
variable {X : Cx} {pins : List (Addr × Obj)} {σ : St} {H : Hp} {s : Shared}
mutual
theorem RdD.reads (I : Inv X pins σ H s) : ∀ {x : V} {d : PyData}, RdD H x d → ∀ {u : Value}, RelV x u → ∃ as, Reads s.heap u d as
  | _, _, .non, u, r => by cases (show u = Value.none from r); exact ⟨_, .none⟩
  | _, _, .bl b, u, r => by cases (show u = Value.bool b from r); exact ⟨_, .bool b⟩
  | _, _, .int i, u, r => by obtain ⟨t, e⟩ := (show ∃ t, u = Value.int i t from r); subst e; exact ⟨_, .int i t⟩
  | _, _, .str x, u, r => by obtain ⟨t, e⟩ := (show ∃ t, u = Value.str x t from r); subst e; exact ⟨_, .str x t⟩
  | _, _, @RdD.tup _ a xs ds e h, u, r => by
    cases (show u = Value.ref a from r)
    obtain ⟨_, its, rv, o, h1, h2, n, h3⟩ := (show ObjOk X.prog X.w H s.heap a (.tup xs) from I.hok a _ e)
    obtain ⟨as, ra⟩ := RdDs.reads I h rv
    exact ⟨_, .tuple h1 h2 h3 (by simpa using ra)⟩
  | _, _, @RdD.lst _ a xs ds e h, u, r => by
    cases (show u = Value.ref a from r)
    obtain ⟨_, its, n, rv, h1⟩ := (show ObjOk X.prog X.w H s.heap a (.lst xs) from I.hok a _ e)
    obtain ⟨as, ra⟩ := RdDs.reads I h rv
    exact ⟨_, .list h1 rfl rfl (by simpa using ra)⟩
theorem RdDs.reads (I : Inv X pins σ H s) : ∀ {xs : List V} {ds : List PyData}, RdDs H xs ds → ∀ {us : List Value}, Vals xs us → ∃ as, ReadsAll s.heap us ds as
  | _, _, .nil, us, r => by cases r; exact ⟨_, .nil⟩
  | _, _, .cons h t, us, r => by
    cases r with
    | cons r1 r2 =>
      obtain ⟨a1, q1⟩ := RdD.reads I h r1
      obtain ⟨a2, q2⟩ := RdDs.reads I t r2
      exact ⟨_, .cons q1 q2⟩
end
end
def rEqD : R2 := fun x y H Q => ∃ d e, RdD H x d ∧ RdD H y e ∧ SeqAt.shaped d = true ∧ SeqAt.shaped e = true ∧ Q (.bl (PyData.eqv d e)) H
def rNeD : R2 := fun x y H Q => ∃ d e, RdD H x d ∧ RdD H y e ∧ SeqAt.shaped d = true ∧ SeqAt.shaped e = true ∧ Q (.bl (!PyData.eqv d e)) H
section
variable {X : Cx}
theorem op_eqD (hu : X.A.units + 64 < cLine) : OpR X (compareOp .Eq) rEqD := by
  intro pins s σ H x y v u Q I rx ry h
  obtain ⟨d, e, hd, he, s1, s2, q⟩ := h
  obtain ⟨as, r1⟩ := hd.reads I rx
  obtain ⟨bs, r2⟩ := he.reads I ry
  exact eq_dataH r1 r2 s1 s2 hu ⟨.bl _, H, I, rfl, q⟩
theorem op_neD (hu : X.A.units + 64 < cLine) : OpR X (compareOp .NotEq) rNeD := by
  intro pins s σ H x y v u Q I rx ry h
  obtain ⟨d, e, hd, he, s1, s2, q⟩ := h
  obtain ⟨as, r1⟩ := hd.reads I rx
  obtain ⟨bs, r2⟩ := he.reads I ry
  exact ne_dataH r1 r2 s1 s2 hu ⟨.bl _, H, I, rfl, q⟩

def Bd (n : Nat) (i : Int) : Prop := i.natAbs < 2 ^ n
theorem Bd.mono {m n : Nat} {i : Int} (h : Bd m i) (l : m ≤ n) : Bd n i := Nat.lt_of_lt_of_le h (Nat.pow_le_pow_right (by decide) l)
theorem Bd.bits {n : Nat} {i : Int} (h : Bd n i) : Builtin.Int.intBits i ≤ n := intBits_le_iff.mpr h
theorem Bd.of_bits {n : Nat} {i : Int} (h : Builtin.Int.intBits i ≤ n) : Bd n i := intBits_le_iff.mp h
theorem Bd.mul {m n : Nat} {i j : Int} (h : Bd m i) (k : Bd n j) : Bd (m + n) (i * j) := .of_bits (intBits_mul_le h.bits k.bits)
theorem Bd.add {m n : Nat} {i j : Int} (h : Bd m i) (k : Bd n j) : Bd (max m n + 1) (i + j) := .of_bits (intBits_add_le h.bits k.bits)
theorem Bd.neg {n : Nat} {i : Int} (h : Bd n i) : Bd n (-i) := by unfold Bd; rw [Int.natAbs_neg]; exact h
theorem Bd.sub {m n : Nat} {i j : Int} (h : Bd m i) (k : Bd n j) : Bd (max m n + 1) (i - j) := by rw [Int.sub_eq_add_neg]; exact h.add k.neg
def CMulB (i j : Int) : Prop := Bd 1000000 i ∧ Bd 1000000 j
theorem op_mulB : OpR X (binaryOp .Mult) (rI CMulB fun i j => .int (i * j)) := opI fun _ _ _ _ _ _ _ hc q => mul_int q (IntMulOk.of_le hc.1.bits hc.2.bits (by decide))
def CDivB (i j : Int) : Prop := j ≠ 0 ∧ Bd 8900 j
theorem op_fdivB : OpR X (binaryOp .FloorDiv) (rI CDivB fun i j => .int (i.fdiv j)) := opI fun _ j _ _ _ _ _ hc q => floordiv_int hc.1 q (.inl (PyProof.noPylong_of_log2 (by
  have h1 : j.natAbs ≠ 0 := fun z => hc.1 (Int.natAbs_eq_zero.mp z)
  have h2 : j.natAbs < 2 ^ 9000 := Nat.lt_of_lt_of_le hc.2 (Nat.pow_le_pow_right (by decide) (by decide))
  exact (Nat.log2_lt h1).mpr h2)))

theorem call_isinst : CallR X (.builtin "isinstance") (fun xs H Q => ∃ x t n b, xs = [x, .ty n] ∧ TyOf X.K H x t ∧ PySem.W.kitOne X.K t (.type n) = some b ∧ Q (.bl b) H) := by
  intro pins s σ H xs us Q I r h
  obtain ⟨x, t, n, b, rfl, ty, e, q⟩ := h
  obtain ⟨u, w', rfl, r1, r2⟩ := vals2 r
  cases (show w' = Value.type n from r2)
  exact isinst_ok I r1 ty e fun tk => ⟨.bl b, H, I.tok tk, rfl, q⟩
end
end L2
set_option Elab.async false
set_option linter.all false
set_option maxRecDepth 100000
namespace HT
open PySem PySem.Spec PyProof.Rows L2
section
variable {prog : Program} {w : World} {A : Around} {E : Value → Shared → Prop} {s : Shared}
end
end HT
namespace L2
open PySem PySem.Spec PyProof.Rows
section
variable {X : Cx} {e st : Expr} {te : TE} {pos p2 : Pos}
theorem Vals.rev : ∀ {xs : List V} {us : List Value}, Vals xs us → Vals xs.reverse us.reverse
  | _, _, .nil => .nil
  | _, _, .cons r t => by rw [List.reverse_cons, List.reverse_cons]; exact (Vals.rev t).append (.cons r .nil)
end
end L2
namespace KM
theorem gcd_step {a b : Int} (ha : 0 ≤ a) (hb : 0 < b) : Int.gcd b (a % b) = Int.gcd a b := by
  obtain ⟨m, rfl⟩ := Int.eq_ofNat_of_zero_le ha
  obtain ⟨n, rfl⟩ := Int.eq_ofNat_of_zero_le (Int.le_of_lt hb)
  rw [← Int.natCast_emod, Int.gcd_comm (m : Int)]
  show Nat.gcd n (m % n) = Nat.gcd n m
  rw [Nat.gcd_comm n (m % n)]
  exact (Nat.gcd_rec n m).symm
theorem den_ne (q : Rat) : (q.den : Int) ≠ 0 := by have := q.den_nz; omega
theorem den_pos (q : Rat) : (0 : Int) < q.den := by have := q.den_nz; omega
def dv (t b : Int) : Int := if b < 0 then -(Int.gcd t b : Int) else (Int.gcd t b : Int)
theorem gcd_pos {t b : Int} (hb : b ≠ 0) : 0 < Int.gcd t b := Int.gcd_pos_of_ne_zero_right _ hb
theorem dv_ne {t b : Int} (hb : b ≠ 0) : dv t b ≠ 0 := by
  have := gcd_pos (t := t) hb
  unfold dv; split <;> omega
theorem dv_abs {t b : Int} : (dv t b).natAbs = Int.gcd t b := by
  unfold dv; split <;> omega
theorem dv_le {t b : Int} (hb : b ≠ 0) : (dv t b).natAbs ≤ b.natAbs := by
  rw [dv_abs]; exact Nat.le_of_dvd (by omega) (Int.gcd_dvd_natAbs_right t b)
theorem dv_num {t b : Int} (hb : b ≠ 0) : t.fdiv (dv t b) = (Rat.divInt t b).num := by
  rw [Rat.num_divInt, Int.gcd_comm b t]
  have h1 : ((Int.gcd t b : Nat) : Int) ∣ t := Int.gcd_dvd_left ..
  unfold dv
  split
  · rename_i h
    rw [Int.fdiv_eq_ediv_of_dvd (Int.neg_dvd.mpr h1), Int.ediv_neg, Int.sign_eq_neg_one_of_neg h]
    rw [show (-1 * t) = -t by omega, Int.neg_ediv_of_dvd h1]
  · rename_i h
    rw [Int.fdiv_eq_ediv_of_dvd h1, Int.sign_eq_one_of_pos (by omega), Int.one_mul]
theorem dv_den {t b : Int} (hb : b ≠ 0) : b.fdiv (dv t b) = ((Rat.divInt t b).den : Int) := by
  rw [Rat.den_divInt, if_neg hb, Int.gcd_comm b t]
  have h1 : ((Int.gcd t b : Nat) : Int) ∣ b := Int.gcd_dvd_right ..
  have h2 : Int.gcd t b ∣ b.natAbs := Int.gcd_dvd_natAbs_right t b
  unfold dv
  split
  · rename_i h
    rw [Int.fdiv_eq_ediv_of_dvd (Int.neg_dvd.mpr h1), Int.ediv_neg]
    rw [Int.natCast_ediv, show ((b.natAbs : Nat) : Int) = -b by omega, Int.neg_ediv_of_dvd h1]
  · rename_i h
    rw [Int.fdiv_eq_ediv_of_dvd h1, Int.natCast_ediv, show ((b.natAbs : Nat) : Int) = b by omega]
theorem num_le {t b : Int} (hb : b ≠ 0) : (Rat.divInt t b).num.natAbs ≤ t.natAbs := by
  rw [← dv_num hb]
  have : t.fdiv (dv t b) ∣ t := by
    have h1 : dv t b ∣ t := by
      unfold dv; split
      · exact Int.neg_dvd.mpr (Int.gcd_dvd_left ..)
      · exact Int.gcd_dvd_left ..
    obtain ⟨c, hc⟩ := h1
    rw [Int.fdiv_eq_ediv_of_dvd ⟨c, hc⟩]
    refine ⟨dv t b, ?_⟩
    exact (Int.ediv_mul_cancel ⟨c, hc⟩).symm
  by_cases h0 : t = 0
  · subst h0; simp
  · exact Nat.le_of_dvd (by omega) (Int.natAbs_dvd_natAbs.mpr this)
theorem den_le {t b : Int} (hb : b ≠ 0) : (Rat.divInt t b).den ≤ b.natAbs := by
  rw [Rat.den_divInt, if_neg hb]; exact Nat.div_le_self _ _

theorem plus_eq (a b : Rat) : Rat.divInt (a.num * b.den + b.num * a.den) (a.den * b.den) = a + b := by
  rw [Rat.add_def', ← Rat.divInt_ofNat]; simp
theorem times_eq (a b : Rat) : Rat.divInt (a.num * b.num) (a.den * b.den) = a * b := by
  rw [Rat.mul_def', ← Rat.divInt_ofNat]; simp
theorem less_iff (a b : Rat) : a.num * b.den < b.num * a.den ↔ a < b := (Rat.lt_iff a b).symm
theorem int_num (n : Int) : (n : Rat).num = n := Rat.num_intCast n
theorem int_den (n : Int) : (n : Rat).den = 1 := Rat.den_intCast n

structure Ball where
  pl : Rat
  sp : Rat
  wt : Int
def ws (f : Ball → Rat) (l : List Ball) : Rat := l.foldl (fun acc b => acc + (b.wt : Rat) * f b) 0
end KM
set_option Elab.async false
set_option linter.all false
set_option maxRecDepth 100000
namespace L2
open PySem PySem.Spec PyProof.Rows

structure Cal (P : Program) (w : World) (K : PySem.W.Frag) (mg : Str → Option Value) (base : Heap) (x : Str) (k : Nat) (ps : List Str) (dvs : List V) (sp : Sp) : Prop where
  ex : ∃ f fd ds, FnOk P w K mg base CX0 k f fd ps sp ∧ mg x = some (.ref f) ∧ PySem.W.keepIn K (.ref f) = true ∧ Binds K fd ps ds ∧ Vals dvs ds
theorem Cal.mono {P : Program} {w : World} {K : PySem.W.Frag} {mg : Str → Option Value} {base : Heap} {x : Str} {j k : Nat} {ps : List Str} {dvs : List V} {sp : Sp} (c : Cal P w K mg base x j ps dvs sp) (h : j ≤ k) : Cal P w K mg base x k ps dvs sp := by
  obtain ⟨f, fd, ds, F, r⟩ := c.ex
  exact ⟨⟨f, fd, ds, F.mono h, r⟩⟩
theorem Cal.imp {P : Program} {w : World} {K : PySem.W.Frag} {mg : Str → Option Value} {base : Heap} {x : Str} {k : Nat} {ps : List Str} {dvs : List V} {sp sp' : Sp} (c : Cal P w K mg base x k ps dvs sp) (h : ∀ vs H Q E, sp' vs H Q E → sp vs H Q E) : Cal P w K mg base x k ps dvs sp' := by
  obtain ⟨f, fd, ds, F, r⟩ := c.ex
  exact ⟨⟨f, fd, ds, F.imp h, r⟩⟩
theorem pe_c {X : Cx} {x : Str} {k : Nat} {ps : List Str} {dvs : List V} {sp : Sp} {p pos : Pos} {e : Expr} {es : List Expr} {t : TA}
    (c : Cal X.prog X.w X.K X.mg X.base x k ps dvs sp) (hr : Room k X.A) (ha : PA X (e :: es) t) (hg : Gl X x := by rfl) (hdb : (x == ("__debug__" : Str)) = false := by decide)
    (he : starEach (e :: es) X.env = (false, eval e X.env) :: starEach es X.env := by rfl) (hpl : (backTo pos (starEach es X.env)).any (·.1) = false := by rfl) :
    PE X (.Call (.Name x p) (e :: es) [] pos) (tCall sp dvs E0 t) := by
  obtain ⟨f, fd, ds, F, hm, hk, hb, hd⟩ := c.ex
  exact pe_call F hr hg hm hk hb hd pass0 ha hdb he hpl

structure Df (K : PySem.W.Frag) (mg : Str → Option Value) (x : Str) (st : Stmt) (ps : List Str) (dvs : List V) : Prop where
  ex : ∃ (f : Addr) (oc : Value) (od : Option Addr) (dV kV doc pm : Value) (an : Option Addr) (cdv ct : Value) (osl : Array (Option Value)) (ds : List Value),
    K.lookup f = some ⟨oc, od, .func (PySem.W.fnOf x x (defArgs st) (defBody st) (defScope st) dV kV doc pm an cdv ct), osl⟩ ∧ PySem.W.codeIn K cdv x = true ∧ PySem.W.keepIn K (.ref f) = true ∧ mg x = some (.ref f) ∧
    Vals dvs ds ∧ Binds K (PySem.W.fnOf x x (defArgs st) (defBody st) (defScope st) dV kV doc pm an cdv ct) ps ds
section
variable {P : Program} {w : World} {K : PySem.W.Frag} {mg : Str → Option Value} {base : Heap}
theorem Df.cal {x : Str} {st : Stmt} {N ps : List Str} {dvs : List V} {k : Nat} {sp : Sp} (D : Df K mg x st ps dvs) (S : FnScope N ps (defScope st)) (len : ∀ vs H Q E, sp vs H Q E → vs.length = ps.length)
    (hbody : ∀ (f : Addr) (cdv : Value) (A : Around) (outer : List Env) (s : Shared) (H : Hp) (vs : List V) (Q : VK) (E : XK), Room k (A.deeper (envOfC x (defScope st) s.heap.objs.size f cdv)) → sp vs H Q E →
      ∃ t, PSs (cxOf CX0 P w K mg base N x (defScope st) f cdv A outer s H E).nox (defBody st) t ∧ t { nx := fun _ H' => Q .non H', rt := Q } (start N vs) H) : Cal P w K mg base x (k + 1) ps dvs sp := by
  obtain ⟨f, oc, od, dV, kV, doc, pm, an, cdv, ct, osl, ds, lk, hcd, hk, hm, hv, hb⟩ := D.ex
  refine ⟨⟨f, _, ds, fn_of lk hcd S len fun A outer s H vs Q E hr hsp => ?_, hm, hk, hb, hv⟩⟩
  obtain ⟨t, h, q⟩ := hbody f cdv A outer s H vs Q E hr hsp
  exact ⟨t, h.nox, q⟩
theorem df_mk {x : Str} {st : Stmt} {ps : List Str} {f : Addr} {oc : Value} {od an : Option Addr} {osl : Array (Option Value)} {dV kV doc pm cdv ct : Value}
    (l : K.lookup f = some ⟨oc, od, .func (PySem.W.fnOf x x (defArgs st) (defBody st) (defScope st) dV kV doc pm an cdv ct), osl⟩) (c : PySem.W.codeIn K cdv x = true) (k : PySem.W.keepIn K (.ref f) = true) (m : mg x = some (.ref f))
    (hb : ∀ us : List Value, us.length = ps.length → bindArgs (PySem.W.fnOf x x (defArgs st) (defBody st) (defScope st) dV kV doc pm an cdv ct) ⟨us, []⟩ = pure (ps.zip us)) : Df K mg x st ps [] :=
  ⟨⟨f, oc, od, dV, kV, doc, pm, an, cdv, ct, osl, [], l, c, k, m, .nil, .all hb⟩⟩
end

def rp (q : Rat) : List V := [.int q.num, .int (q.den : Int)]
def RatAt (H : Hp) (p : Addr) (q : Rat) : Prop := H p = some (.tup (rp q))
theorem RatAt.same {H H' : Hp} {p : Addr} {q : Rat} (h : RatAt H p q) (e : Same H H') : RatAt H' p q := e _ _ h
def Sz (n : Nat) (q : Rat) : Prop := Bd n q.num ∧ Bd n (q.den : Int)
theorem Sz.mono {m n : Nat} {q : Rat} (h : Sz m q) (l : m ≤ n) : Sz n q := ⟨h.1.mono l, h.2.mono l⟩
theorem Bd.of_le {n : Nat} {i j : Int} (h : i.natAbs ≤ j.natAbs) (b : Bd n j) : Bd n i := Nat.lt_of_le_of_lt h b
theorem Sz.divInt {n : Nat} {t b : Int} (hb : b ≠ 0) (h1 : Bd n t) (h2 : Bd n b) : Sz n (Rat.divInt t b) :=
  ⟨h1.of_le (KM.num_le hb), h2.of_le (by have := KM.den_le (t := t) hb; omega)⟩
theorem Sz.add {m n : Nat} {x y : Rat} (h : Sz m x) (k : Sz n y) : Sz (m + n + 1) (x + y) := by
  rw [← KM.plus_eq]
  refine .divInt (Int.mul_ne_zero (KM.den_ne x) (KM.den_ne y)) ?_ ((h.2.mul k.2).mono (by omega))
  exact ((h.1.mul k.2).add (k.1.mul h.2)).mono (by omega)
theorem Sz.mul {m n : Nat} {x y : Rat} (h : Sz m x) (k : Sz n y) : Sz (m + n) (x * y) := by
  rw [← KM.times_eq]
  exact .divInt (Int.mul_ne_zero (KM.den_ne x) (KM.den_ne y)) (h.1.mul k.1) (h.2.mul k.2)
theorem Sz.int {n : Nat} {i : Int} (h : Bd n i) (hn : 1 ≤ n) : Sz n (i : Rat) := by
  refine ⟨by rw [KM.int_num]; exact h, ?_⟩
  rw [KM.int_den]
  exact Bd.mono (m := 1) (show (1 : Int).natAbs < 2 ^ 1 by decide) hn
theorem shaped_rp (q : Rat) : SeqAt.shaped (.tuple [.int q.num, .int (q.den : Int)]) = true := rfl
theorem RatAt.rd {H : Hp} {p : Addr} {q : Rat} (h : RatAt H p q) : RdD H (.ref p) (.tuple [.int q.num, .int (q.den : Int)]) := .tup h (.cons (.int _) (.cons (.int _) .nil))
theorem eqv_rp (x y : Rat) : PyData.eqv (.tuple [.int x.num, .int (x.den : Int)]) (.tuple [.int y.num, .int (y.den : Int)]) = decide (x = y) := by
  simp only [PyData.eqv, PyData.eqvAll, Bool.and_true]
  rw [Bool.eq_iff_iff]
  simp only [Bool.and_eq_true, beq_iff_eq, decide_eq_true_eq]
  constructor
  · rintro ⟨h1, h2⟩; exact Rat.ext h1 (by omega)
  · rintro rfl; exact ⟨rfl, rfl⟩

def spLow : Sp := fun vs H Q _ => ∃ t b, vs = [.int t, .int b] ∧ b ≠ 0 ∧ Bd 8900 b ∧ ∀ p H', Same H H' → RatAt H' p (Rat.divInt t b) → Q (.ref p) H'
theorem at0 {α : Type} (a b : α) : atI [a, b] 0 = some a := rfl
theorem at1 {α : Type} (a b : α) : atI [a, b] 1 = some b := rfl
theorem Same.upd {H : Hp} {p : Addr} {o : HO} (h : H p = none) : Same H (upd H p o) := fun b u e => by rw [upd_ne (ne_of_none e h)]; exact e
end L2
set_option Elab.async false
set_option linter.all false
set_option maxRecDepth 100000
namespace L2
open PySem PySem.Spec PyProof.Rows
def TrX (h B : Heap) (e : Addr) (cls a0 : Value) (dct : Option Addr) (fl : Value) : Prop :=
  ∃ oe vs T oT ts, h.get? e = some oe ∧ oe.cls = cls ∧ oe.dict = dct ∧ oe.data = .fields vs ∧ vs[0]? = some a0 ∧ vs[1]? = some (.ref T) ∧ B.get? T = none ∧ T ≠ e ∧ h.get? T = some oT ∧ oT.data = .fields ts ∧ ts[3]? = some fl
theorem mapF_dict (o : Obj) (f : Array Value → Array Value) : (Obj.mapFields f o).dict = o.dict := by
  unfold Obj.mapFields; split <;> rfl
section
variable {M : Model} {A : Around} {E : Value → Shared → Prop} {s : Shared} {B : Heap} {env : Env} {outer l : List Env} {L e : Addr} {oe : Obj} {vs : Array Value} {a0 cls fl : Value} {dct : Option Addr} {Q : Unit → Shared → Prop}
theorem entry_x {head : Value} {hadNext : Bool} (hfr : A.frames = some (env :: outer)) (hl : s.heap.FunFrames B (env :: outer)) (hf : env.frame = some L) (he : s.heap.get? e = some oe) (hB : B.StaysIn s.heap) (hn : B.get? e = none) (hd : oe.data = .fields vs) (hz : 1 < vs.size) (h0 : vs[0]? = some a0)
    (q : ∀ h', B.StaysIn h' → h'.FunFrames B (env :: outer) → TrX h' B e oe.cls a0 oe.dict (rawInt L) → s.heap.UpToSlots h' → Q () { s with heap := h' }) :
    wpAny M A (do let a ← frameOf env; let pl ← entryPlaceOf L hadNext; let b ← EntryCells.newEntry head a .none (rawInt L) .none pl; setField (.ref e) 1 b) Q E s := by
  have nf : e ∉ (env :: outer).filterMap (·.frame) := fun m => by
    obtain ⟨_, o, ho, hnf⟩ := hl.mem m
    rw [he] at ho; cases ho; exact hnf vs hd
  refine wpAny_bind (wpAny_frameOf_fun hfr hl hf fun g1 k1 => wpAny_bind (wpAny_entryPlaceOf fun pl hpl => ?_))
  unfold EntryCells.newEntry newFields
  have e1 : g1.get? e = some oe := (k1.2.1 e nf).trans he
  have B1 : B.StaysIn g1 := fun b o z => (k1.2.1 b fun m => by rw [(hl.mem m).1] at z; cases z).trans (hB b o z)
  have fr : g1.objs.size ≠ e := Nat.ne_of_gt (Heap.lt_size e1)
  have d3 := Obj.data_mapFields hd (·.setIfInBounds 1 (Value.ref g1.objs.size))
  refine wpAny_bind (wpAny_newObj_type (wpAny_setField (Heap.get?_push_of_some _ e1) hd hz (q _ (fun b o z => ?_) (hl.of_keeps fun b o hb nn => ?_) ?_ fun b o hb nn => ?_)) (hpl.sizeOk5 _ _ _ _ _))
  · have ne : e ≠ b := fun r => by rw [← r, hn] at z; cases z
    rw [Heap.get?_update_other _ _ ne]
    exact Heap.get?_push_of_some _ (B1 b o z)
  · obtain ⟨sl, z⟩ := k1.2.2 b o hb
    have ne : e ≠ b := fun r => by rw [← r, he] at hb; cases hb; exact nn vs hd
    exact ⟨{ o with slots := sl }, by rw [Heap.get?_update_other _ _ ne]; exact Heap.get?_push_of_some _ z, rfl⟩
  · refine ⟨_, _, g1.objs.size, _, _, Heap.get?_update_self _ (Heap.get?_push_of_some _ e1) (Obj.isFreed_of_fields d3), Obj.cls_mapFields _ _, mapF_dict _ _, d3, ?_, by simp [hz], B1.fresh, fr, (Heap.get?_update_other _ _ (Ne.symm fr)).trans (Heap.get?_push_size g1 rfl), rfl, ?_⟩
    · rw [Array.getElem?_setIfInBounds_ne (by decide)]; exact h0
    · first | (simp; done) | (rcases hpl with rfl | ⟨_, _, _, _, _, _, _, rfl⟩ <;> simp)
  · obtain ⟨sl, z⟩ := k1.2.2 b o hb
    have ne : e ≠ b := fun r => by rw [← r, he] at hb; cases hb; exact nn vs hd
    exact ⟨sl, by rw [Heap.get?_update_other _ _ ne]; exact Heap.get?_push_of_some _ z⟩
theorem note_first (hfr : A.frames = some (env :: outer)) (hl : s.heap.FunFrames B (env :: outer)) (hf : env.frame = some L) (he : s.heap.get? e = some oe) (hB : B.StaysIn s.heap) (hn : B.get? e = none) (hd : oe.data = .fields vs) (h1 : vs[1]? = some .none) (h0 : vs[0]? = some a0)
    (q : ∀ h', B.StaysIn h' → h'.FunFrames B (env :: outer) → TrX h' B e oe.cls a0 oe.dict (rawInt L) → s.heap.UpToSlots h' → Q () { s with heap := h' }) : wpAny M A (noteFrame (.ref e) env) Q E s := by
  unfold noteFrame
  simp only [hf]
  refine wpAny_bind (wpAny_field he hd h1 ?_)
  rw [if_neg (by decide)]
  exact entry_x hfr hl hf he hB hn hd (Array.getElem?_eq_some_iff.mp h1).1 h0 q
theorem note_next (hfr : A.frames = some (env :: outer)) (hl : s.heap.FunFrames B (env :: outer)) (hf : env.frame = some L) (ht : TrX s.heap B e cls a0 dct .none) (hB : B.StaysIn s.heap) (hn : B.get? e = none)
    (q : ∀ h', B.StaysIn h' → h'.FunFrames B (env :: outer) → TrX h' B e cls a0 dct (rawInt L) → s.heap.UpToSlots h' → Q () { s with heap := h' }) : wpAny M A (noteFrame (.ref e) env) Q E s := by
  obtain ⟨oe, vs, T, oT, ts, he, rfl, rfl, hd, h0, h1, nT, Te, hT, dT, h3⟩ := ht
  unfold noteFrame
  simp only [hf]
  refine wpAny_bind (wpAny_field he hd h1 ?_)
  rw [if_pos (show (Value.ref T != Value.none) = true from by simp)]
  refine wpAny_bind (wpAny_field hT dT h3 ?_)
  rw [if_neg (show ¬ ((Value.none == rawInt L) = true) from by simp [rawInt])]
  have oth : ∀ b, b ≠ T → (s.heap.update T (Obj.mapFields (·.setIfInBounds 3 Value.none))).get? b = s.heap.get? b := fun b hb => Heap.get?_update_other _ _ (Ne.symm hb)
  have nr : ∀ b o, s.heap.get? b = some o → (∀ vs, o.data ≠ .fields vs) → b ≠ T := fun b o hb nn r => by rw [r, hT] at hb; cases hb; exact nn ts dT
  refine wpAny_bind (wpAny_setField hT dT (Array.getElem?_eq_some_iff.mp h3).1 (entry_x hfr (hl.of_keeps fun b o hb nn => ⟨o, (oth b (nr b o hb nn)).trans hb, rfl⟩) hf ((oth e (Ne.symm Te)).trans he) (fun b o z => (oth b fun r => by rw [r, nT] at z; cases z).trans (hB b o z)) hn hd (Array.getElem?_eq_some_iff.mp h1).1 h0 fun h' x1 x2 x3 x4 => q h' x1 x2 x3 fun b o hb nn => x4 b o ((oth b (nr b o hb nn)).trans hb) nn))
theorem flight_x (hB : B.StaysIn s.heap) (hl : s.heap.FunFrames B l) (ht : TrX s.heap B e cls a0 dct fl)
    (q : ∀ h', B.StaysIn h' → h'.FunFrames B l → TrX h' B e cls a0 dct .none → s.heap.UpToSlots h' → Q () { s with heap := h' }) : wpAny M A (setFlight (.ref e) none) Q E s := by
  obtain ⟨oe, vs, T, oT, ts, he, hc, hdc, hd, h0, h1, nT, Te, hT, dT, h3⟩ := ht
  have z3 : 3 < ts.size := (Array.getElem?_eq_some_iff.mp h3).1
  have oth : ∀ b, b ≠ T → (s.heap.update T (Obj.mapFields (·.setIfInBounds 3 ((none : Option Addr).elim Value.none fun f => rawInt f)))).get? b = s.heap.get? b := fun b hb => Heap.get?_update_other _ _ (Ne.symm hb)
  have nr : ∀ b o, s.heap.get? b = some o → (∀ vs, o.data ≠ .fields vs) → b ≠ T := fun b o hb nn r => by rw [r, hT] at hb; cases hb; exact nn ts dT
  unfold setFlight
  refine wpAny_bind (wpAny_field he hd h1 ?_)
  rw [if_pos (show (Value.ref T != Value.none) = true from by simp)]
  exact wpAny_setField hT dT z3 (q _ (fun b o z => (oth b fun r => by rw [r, nT] at z; cases z).trans (hB b o z)) (hl.of_keeps fun b o hb nn => ⟨o, (oth b (nr b o hb nn)).trans hb, rfl⟩)
    ⟨oe, vs, T, _, _, (oth e (Ne.symm Te)).trans he, hc, hdc, hd, h0, h1, nT, Te, Heap.get?_update_self _ hT (Obj.isFreed_of_fields (Obj.data_mapFields dT _)), Obj.data_mapFields dT _, by simp [z3]⟩ fun b o hb nn => ⟨o.slots, (oth b (nr b o hb nn)).trans hb⟩)
end
def FlX (B : Heap) (l : List Env) (e : Addr) (cls a0 : Value) (dct : Option Addr) (h : Heap) : Prop := B.StaysIn h ∧ B.get? e = none ∧ h.FunFrames B l ∧ TrX h B e cls a0 dct .none
def HeX (B : Heap) (l : List Env) (e : Addr) (cls a0 : Value) (dct : Option Addr) (h : Heap) : Prop := B.StaysIn h ∧ B.get? e = none ∧ h.FunFrames B l ∧ ∃ fl, TrX h B e cls a0 dct fl
section
variable {M : Model} {A : Around} {E : Value → Shared → Prop} {s : Shared} {B h : Heap} {env : Env} {outer l : List Env} {L e : Addr} {a0 cls : Value} {dct : Option Addr} {Q : Unit → Shared → Prop}
theorem FlX.held (x : FlX B l e cls a0 dct h) : HeX B l e cls a0 dct h := ⟨x.1, x.2.1, x.2.2.1, _, x.2.2.2⟩
theorem FlX.there (x : FlX B l e cls a0 dct h) : ∃ ob, h.get? e = some ob ∧ ob.cls = cls := by
  obtain ⟨_, _, _, oe, _, _, _, _, he, hc, _⟩ := x
  exact ⟨oe, he, hc⟩
theorem FlX.first (x : FlX B l e cls a0 dct h) : ∃ oe vs, h.get? e = some oe ∧ oe.cls = cls ∧ oe.dict = dct ∧ oe.data = .fields vs := by
  obtain ⟨_, _, _, oe, vs, _, _, _, he, hc, hdc, hd, _⟩ := x
  exact ⟨oe, vs, he, hc, hdc, hd⟩
theorem looks_x (hfr : A.frames = some (env :: outer)) (hf : env.frame = some L) (x : FlX B (env :: outer) e cls a0 dct s.heap) (q : ∀ h', HeX B (env :: outer) e cls a0 dct h' → s.heap.UpToSlots h' → Q () { s with heap := h' }) : wpAny M A (noteFrame (.ref e) env) Q E s :=
  note_next hfr x.2.2.1 hf x.2.2.2 x.1 x.2.1 fun h' x1 x2 x3 x4 => q h' ⟨x1, x.2.1, x2, _, x3⟩ x4
theorem lands_x (x : HeX B l e cls a0 dct s.heap) (q : ∀ h', FlX B l e cls a0 dct h' → s.heap.UpToSlots h' → Q () { s with heap := h' }) : wpAny M A (setFlight (.ref e) none) Q E s := by
  obtain ⟨x1, x2, x3, fl, x4⟩ := x
  exact flight_x x1 x3 x4 fun h' y1 y2 y3 y4 => q h' ⟨y1, x2, y2, y3⟩ y4
theorem leaves_x (hfr : A.frames = some (env :: outer)) (hf : env.frame = some L) (x : FlX B (env :: outer) e cls a0 dct s.heap) (q : ∀ h', FlX B outer e cls a0 dct h' → s.heap.UpToSlots h' → Q () { s with heap := h' }) : wpAny M A (leaving env (.ref e)) Q E s := by
  unfold leaving
  refine wpAny_bind (looks_x hfr hf x fun h' y up => lands_x (s := { s with heap := h' }) y fun h2 z up2 => ?_)
  obtain ⟨z1, z2, ⟨_, _, z3⟩, z4⟩ := z
  exact q h2 ⟨z1, z2, z3, z4⟩ (up.trans up2)
theorem leaves_new {args : List Value} (hfr : A.frames = some (env :: outer)) (hf : env.frame = some L) (hB : B.StaysIn h) (hl : h.FunFrames B (env :: outer)) (hx : Heap.MadeExcOf h s.heap e cls args)
    (q : ∀ h' t, FlX B outer e cls (.ref t) none h' → s.heap.UpToSlots h' → Q () { s with heap := h' }) : wpAny M A (leaving env (.ref e)) Q E s := by
  obtain ⟨t, he, _, _⟩ := hx.there
  have hn : B.get? e = none := by
    cases z : B.get? e with
    | none => rfl
    | some o => have := hB e o z; rw [hx.new] at this; cases this
  unfold leaving
  refine wpAny_bind (note_first (a0 := .ref t) hfr (hl.of_keeps fun b o hb _ => ⟨o, hx.keeps b o hb, rfl⟩) hf he (fun b o z => hx.keeps b o (hB b o z)) hn rfl rfl rfl fun h' x1 x2 x3 x4 => ?_)
  refine lands_x (s := { s with heap := h' }) ⟨x1, hn, x2, _, x3⟩ fun h2 z up2 => ?_
  obtain ⟨z1, z2, ⟨_, _, z3⟩, z4⟩ := z
  exact q h2 t ⟨z1, z2, z3, z4⟩ (x4.trans up2)
end
end L2
set_option Elab.async false
set_option linter.all false
set_option maxRecDepth 100000
namespace L2
open PySem PySem.Spec PyProof.Rows

structure Fly (P : Program) (w : World) (l : List Env) (H : Hp) (s : Shared) (C : Addr) (H' : Hp) (a : Addr) (s' : Shared) (B : Heap) (a0 : Value) (dct : Option Addr) : Prop where
  os : s'.os = s.os
  bare : AllBare s'.gens
  un : Un (frs l) [] H H' s.heap s'.heap
  hok : HOk P w H' s'.heap
  fly : FlX B l a (.ref C) a0 dct s'.heap
  kb : ∀ b o, s.heap.get? b = some o → b ∉ frs l → (∃ o', B.get? b = some o') ∧ (H b = none → B.get? b = some o)
  kt : ∀ b u, H' b = some u → ∃ o, B.get? b = some o
abbrev CX1 (P : Program) (w : World) : CXT := fun outer H s E e s' => ∃ a C H' B a0 dct, e = .ref a ∧ Fly P w outer H s C H' a s' B a0 dct ∧ E (.ref C) dct H'

section
variable {P : Program} {w : World} {H H' : Hp} {h h' B : Heap} {a : Addr} {o : HO}
theorem ObjOk.obj (x : ObjOk P w H h a o) : ∃ u, h.get? a = some u := by
  cases o with
  | lst xs => obtain ⟨_, _, _, _, e⟩ := x; exact ⟨_, e⟩
  | tup xs => obtain ⟨_, _, _, ob, e, _⟩ := x; exact ⟨_, e⟩
  | dK kvs => obtain ⟨_, _, _, _, o, _, _, e, _⟩ := x; exact ⟨_, e⟩
  | dT kvs => obtain ⟨_, _, _, _, o, _, _, e, _⟩ := x; exact ⟨_, e⟩
  | set S n => obtain ⟨o, _, _, _, e, _⟩ := x; exact ⟨_, e⟩
  | ins C dx fs => obtain ⟨_, _, _, e, _⟩ := x; exact ⟨_, e⟩
  | own y => obtain ⟨_, e⟩ := x; exact ⟨_, e⟩
  | xd fs => obtain ⟨_, ⟨_, _, _, e, _⟩, _⟩ := x; exact ⟨_, e⟩
  | rng lo hi => obtain ⟨_, _, _, e⟩ := x; exact ⟨_, e⟩
  | frz ob u => obtain ⟨e, _⟩ := x; exact ⟨_, e⟩
  | tbl ps => exact ⟨_, (show h.get? a = some _ from x)⟩
  | met f y => exact ⟨_, (show h.get? a = some _ from x)⟩
  | ext φ => obtain ⟨_, ⟨_, e⟩, _⟩ := x; exact ⟨_, e⟩
theorem hok_of (x : HOk P w H h) (k1 : B.StaysIn h) (k2 : B.StaysIn h') (kt : ∀ b u, H b = some u → ∃ o, B.get? b = some o) : HOk P w H h' := fun a o e =>
  (x a o e).stay (fun b u hb q => by
    have ht : ∃ v, H b = some v := by
      rcases hb with rfl | hb
      · exact ⟨_, e⟩
      · exact ⟨_, hb⟩
    obtain ⟨v, hv⟩ := ht
    obtain ⟨ob, hob⟩ := kt b v hv
    rw [k1 b ob hob] at q; cases q; exact k2 b _ hob) (fun _ q => q) fun _ _ q => q
end

section
variable {P : Program} {w : World} {l : List Env} {H H' : Hp} {s s' : Shared} {C a : Addr} {B h' : Heap} {a0 : Value} {dct : Option Addr}
theorem Fly.move (F : Fly P w l H s C H' a s' B a0 dct) (fl : FlX B l a (.ref C) a0 dct h') (up : s'.heap.UpToSlots h') : Fly P w l H s C H' a { s' with heap := h' } B a0 dct where
  os := F.os
  bare := F.bare
  un := {
    keep := fun b o q n hb _ => fl.1 b o ((F.kb b o q hb).2 n)
    slot := fun b o q n hb hx => by
      obtain ⟨sl, e⟩ := F.un.slot b o q n hb hx
      obtain ⟨_, o', ho', hd⟩ := F.fly.2.2.1.mem hb
      have z : some o' = some { o with slots := sl } := ho'.symm.trans e
      cases z
      obtain ⟨sl', e'⟩ := up b _ e hd
      exact ⟨sl', e'⟩
    free := F.un.free
    there := fun b o q _ => by
      by_cases hb : b ∈ frs l
      · obtain ⟨_, o', ho', _⟩ := fl.2.2.1.mem hb
        exact ⟨o', ho'⟩
      · obtain ⟨o', ho'⟩ := (F.kb b o q hb).1
        exact ⟨o', fl.1 b o' ho'⟩
    tups := F.un.tups
    frzs := F.un.frzs
    tbls := F.un.tbls }
  hok := hok_of F.hok F.fly.1 fl.1 F.kt
  fly := fl
  kb := F.kb
  kt := F.kt
theorem Fly.untracked (F : Fly P w l H s C H' a s' B a0 dct) : H' a = none := by
  cases q : H' a with
  | none => rfl
  | some u =>
    obtain ⟨o, e⟩ := F.kt a u q
    rw [F.fly.2.1] at e; cases e
end

section
variable {X : Cx} {pins : List (Addr × Obj)} {σ : St} {H H' : Hp} {s : Shared}
theorem Inv.notfr (I : Inv X pins σ H s) {b : Addr} {o : Obj} (e : X.s₀.heap.get? b = some o) (hb : b ∉ X.fs) : b ∉ frs X.stack := fun z => by
  rcases List.mem_cons.mp (I.stkSub b z) with r | r
  · exact absurd (Nat.lt_of_lt_of_le (Heap.lt_size e) I.ok.above) (by rw [r]; exact Nat.lt_irrefl _)
  · exact hb r
theorem fly_mk {g : Array GenState} {d : Drawn} {t : Nat} {C a : Addr} {B h1 h' : Heap} {a0 : Value} {dct : Option Addr} (I : Inv X pins σ H s) (hex : X.ex = []) (hfr : ∀ b ∈ X.fs, b ∈ frs X.stack) (u : Un (frs X.stack) [] H H' s.heap h1)
    (kb : ∀ b o, s.heap.get? b = some o → b ∉ frs X.stack → (∃ o', B.get? b = some o') ∧ (H b = none → B.get? b = some o)) (kt : ∀ b u, H' b = some u → ∃ o, B.get? b = some o)
    (hok : HOk X.prog X.w H' h1) (k1 : B.StaysIn h1) (hfun : h1.FunFrames B X.stack) (up : h1.UpToSlots h') (fl : FlX B X.outer a (.ref C) a0 dct h') (hg : AllBare g) :
    Fly X.prog X.w X.outer X.H₀ X.s₀ C H' a { s with heap := h', gens := g, drawn := d, toks := t } B a0 dct where
  os := I.os
  bare := hg
  un := {
    keep := fun b o q n hb hx => by
      have hx' : b ∉ X.ex := by rw [hex]; exact hx
      exact fl.1 b o ((kb b o (I.base.keep b o q n hb hx') (I.notfr q hb)).2 (I.base.free b o q n hx'))
    slot := fun b o q n hb hx => by
      have hx' : b ∉ X.ex := by rw [hex]; exact hx
      obtain ⟨sl, e⟩ := I.base.slot b o q n hb hx'
      obtain ⟨sl1, e1⟩ := u.slot b _ e (I.base.free b o q n hx') (hfr b hb) hx
      obtain ⟨_, o', ho', hd⟩ := hfun.mem (hfr b hb)
      have z := ho'.symm.trans e1
      cases z
      obtain ⟨sl2, e2⟩ := up b _ e1 hd
      exact ⟨sl2, e2⟩
    free := fun b o q n hx => by
      have hx' : b ∉ X.ex := by rw [hex]; exact hx
      obtain ⟨o', e⟩ := I.base.there b o q hx'
      exact u.free b o' e (I.base.free b o q n hx') hx
    there := fun b o q hx => by
      have hx' : b ∉ X.ex := by rw [hex]; exact hx
      by_cases hb : b ∈ X.fs
      · obtain ⟨_, o', ho', _⟩ := fl.2.2.1.mem hb
        exact ⟨o', ho'⟩
      · obtain ⟨o', e⟩ := I.base.there b o q hx'
        obtain ⟨o2, e2⟩ := (kb b o' e (I.notfr q hb)).1
        exact ⟨o2, fl.1 b o2 e2⟩
    tups := fun b xs q => u.tups b xs (I.base.tups b xs q)
    frzs := fun b o xs q => u.frzs b o xs (I.base.frzs b o xs q)
    tbls := fun b ps q => by
      obtain ⟨m1, e1⟩ := I.base.tbls b ps q
      obtain ⟨m2, e2⟩ := u.tbls b _ e1
      exact ⟨m1 ++ m2, by rw [e2, Array.append_assoc]⟩ }
  hok := hok_of hok k1 fl.1 kt
  fly := fl
  kb := fun b o q hb => by
    have hx' : b ∉ X.ex := by rw [hex]; exact List.not_mem_nil
    obtain ⟨o', e⟩ := I.base.there b o q hx'
    have z := kb b o' e (I.notfr q hb)
    exact ⟨z.1, fun n => (kb b o (I.base.keep b o q n hb hx') (I.notfr q hb)).2 (I.base.free b o q n hx')⟩
  kt := kt
end

abbrev XJ := Addr → Option Addr → St → Hp → Prop
def Bears (X : Cx) (J : XJ) : Prop := ∀ (pins : List (Addr × Obj)) (σ : St) (H : Hp) (s : Shared) (a C : Addr) (H' : Hp) (s' : Shared) (B : Heap) (a0 : Value) (dct : Option Addr),
  Inv X pins σ H s → Fly X.prog X.w X.stack H s C H' a s' B a0 dct → J C dct σ H' → X.xe (.ref a) s'
def BearsNew (X : Cx) (J : XJ) : Prop := ∀ (pins : List (Addr × Obj)) (σ : St) (H : Hp) (s : Shared) (h' : Heap) (a C : Addr) (us : List Value),
  Inv X pins σ H s → Heap.MadeExcOf s.heap h' a (.ref C) us → J C none σ H → X.xe (.ref a) { s with heap := h' }
def EJ (E : XK) : XJ := fun C d _ H' => E (.ref C) d H'
section
variable {P : Program} {w : World} {K : PySem.W.Frag} {mg : Str → Option Value} {base : Heap} {N : List Str} {qual : Str} {scope : Scope} {f : Addr} {cd : Value} {A : Around} {outer : List Env} {s : Shared} {H : Hp} {E : XK}
theorem bears_def : Bears (cxOf (CX1 P w) P w K mg base N qual scope f cd A outer s H E) (EJ E) := by
  intro pins σ H1 s1 a C H' s' B a0 dct I F q
  obtain ⟨hh, g, d, t, os'⟩ := s'
  have e : os' = s1.os := F.os
  subst e
  refine leaves_x (L := s.heap.objs.size) I.ok.frames rfl F.fly fun h' fl up => ?_
  refine ⟨a, C, H', B, a0, dct, rfl, ?_, q⟩
  have z := fly_mk (g := g) (d := d) (t := t) I rfl (fun b hb => List.mem_cons_of_mem _ hb) F.un F.kb F.kt F.hok F.fly.1 F.fly.2.2.1 up fl F.bare
  exact z
theorem bearsNew_def : BearsNew (cxOf (CX1 P w) P w K mg base N qual scope f cd A outer s H E) (EJ E) := by
  intro pins σ H1 s1 h1 a C us I hx q
  have hin : ∀ b o, s1.heap.get? b = some o → b ∉ frs (cxOf (CX1 P w) P w K mg base N qual scope f cd A outer s H E).stack →
      (PySem.W.hideAll s1.heap (frs (cxOf (CX1 P w) P w K mg base N qual scope f cd A outer s H E).stack)).get? b = some o := fun b o e n => PySem.W.hideAll_get _ e n
  have hst : (PySem.W.hideAll s1.heap (frs (cxOf (CX1 P w) P w K mg base N qual scope f cd A outer s H E).stack)).StaysIn s1.heap := fun b o q => PySem.W.of_hideAll _ q
  have hff : s1.heap.FunFrames (PySem.W.hideAll s1.heap (frs (cxOf (CX1 P w) P w K mg base N qual scope f cd A outer s H E).stack)) (cxOf (CX1 P w) P w K mg base N qual scope f cd A outer s H E).stack :=
    PySem.W.funFrames_hide I.stack fun env he b hb => List.mem_filterMap.mpr ⟨env, he, hb⟩
  refine leaves_new (L := s.heap.objs.size) (h := s1.heap) (s := { s1 with heap := h1 }) I.ok.frames rfl hst hff hx fun h' t fl up => ?_
  have z := fly_mk (g := s1.gens) (d := s1.drawn) (t := s1.toks) (h1 := h1) I rfl (fun b hb => List.mem_cons_of_mem _ hb) (Un.kept hx.keeps) (fun b o e n => ⟨⟨o, hin b o e n⟩, fun _ => hin b o e n⟩)
    (fun b u e => by
      obtain ⟨o, ho⟩ := (I.hok b u e).obj
      exact ⟨o, hin b o ho fun z => by rw [I.stkFree b z] at e; cases e⟩) (I.hok.kept hx.keeps) (fun b o e => hx.keeps b o (hst b o e)) (hff.of_keeps fun b o e _ => ⟨o, hx.keeps b o e, rfl⟩) up fl I.bare
  exact ⟨a, C, H1, _, _, _, rfl, z, q⟩
end

def tCallX (sp : Sp) (dvs : List V) (J : XJ) (t : TA) : TE := fun σ H Q => t σ H fun vs H1 => sp (vs ++ dvs) H1 Q fun c d H' => ∃ C, c = .ref C ∧ J C d σ H'
structure Cal1 (P : Program) (w : World) (K : PySem.W.Frag) (mg : Str → Option Value) (base : Heap) (x : Str) (k : Nat) (ps : List Str) (dvs : List V) (sp : Sp) : Prop where
  ex : ∃ f fd ds, FnOk P w K mg base (CX1 P w) k f fd ps sp ∧ mg x = some (.ref f) ∧ PySem.W.keepIn K (.ref f) = true ∧ Binds K fd ps ds ∧ Vals dvs ds
section
variable {X : Cx} {k : Nat} {f : Addr} {fd : FuncData} {ps : List Str} {sp : Sp} {dvs : List V} {ds : List Value} {J : XJ} {x : Str} {p pos : Pos} {e : Expr} {es : List Expr} {t : TA}
theorem run_fnX {pins : List (Addr × Obj)} {σ : St} {H : Hp} {s : Shared} {Q : VK} {us : List Value} {vs : List V} (F : FnOk X.prog X.w X.K X.mg X.base (CX1 X.prog X.w) k f fd ps sp) (hr : Room k X.A) (hb : Binds X.K fd ps ds) (hd : Vals dvs ds) (hx : Bears X J)
    (I : Inv X pins σ H s) (r : Vals vs us) (h : sp (vs ++ dvs) H Q fun c d H' => ∃ C, c = .ref C ∧ J C d σ H') : wpAny (model X.prog X.w) X.A (call (.ref f) us) (EP X pins σ Q) X.xe s := by
  have r2 : Vals (vs ++ dvs) (us ++ ds) := r.append hd
  have hl : (us ++ ds).length = ps.length := by rw [← r2.length]; exact F.len _ _ _ _ h
  refine wpAny_call (codeAny_mono (F.run X.A X.stack s H ⟨us, []⟩ (us ++ ds) (vs ++ dvs) Q _ hr I.env0 (hb s us I.kIn hl) r2 h) fun r s' hq => ?_)
  cases r with
  | error e =>
    obtain ⟨a, C, H', B, a0, dct, rfl, F, C', hC, q⟩ := hq
    cases hC
    exact hx pins σ H s a C H' s' B a0 dct I F q
  | ok fl =>
    cases fl with
    | ret u => exact I.after hq
    | next => exact False.elim hq
    | brk => exact False.elim hq
    | cont => exact False.elim hq
theorem pe_cx (c : Cal1 X.prog X.w X.K X.mg X.base x k ps dvs sp) (hr : Room k X.A) (hx : Bears X J) (ha : PA X (e :: es) t) (hg : Gl X x := by rfl) (hdb : (x == ("__debug__" : Str)) = false := by decide)
    (he : starEach (e :: es) X.env = (false, eval e X.env) :: starEach es X.env := by rfl) (hpl : (backTo pos (starEach es X.env)).any (·.1) = false := by rfl) :
    PE X (.Call (.Name x p) (e :: es) [] pos) (tCallX sp dvs J t) := by
  obtain ⟨f, fd, ds, F, hm, hk, hb, hd⟩ := c.ex
  intro pins s σ H Q I h
  refine wpAny_Call_Name_kw (ld_glob I hg hm ?_ hdb)
  refine PySem.W.callWith_K (h₀ := X.base) I.ok.mod.kin hk (thn (ha pos pins s σ H _ I h) fun us s1 ⟨vs, H1, I1, r, q⟩ => ⟨I1.kIn, ?_⟩) he hpl
  exact run_fnX F hr hb hd hx I1 r q
end
section
variable {P : Program} {w : World} {K : PySem.W.Frag} {mg : Str → Option Value} {base : Heap}
theorem Df.cal1 {x : Str} {st : Stmt} {N ps : List Str} {dvs : List V} {k : Nat} {sp : Sp} (D : Df K mg x st ps dvs) (S : FnScope N ps (defScope st)) (len : ∀ vs H Q E, sp vs H Q E → vs.length = ps.length)
    (hbody : ∀ (f : Addr) (cdv : Value) (A : Around) (outer : List Env) (s : Shared) (H : Hp) (vs : List V) (Q : VK) (E : XK), Room k (A.deeper (envOfC x (defScope st) s.heap.objs.size f cdv)) → sp vs H Q E →
      ∃ t, PSs (cxOf (CX1 P w) P w K mg base N x (defScope st) f cdv A outer s H E) (defBody st) t ∧ t { nx := fun _ H' => Q .non H', rt := Q } (start N vs) H) : Cal1 P w K mg base x (k + 1) ps dvs sp := by
  obtain ⟨f, oc, od, dV, kV, doc, pm, an, cdv, ct, osl, ds, lk, hcd, hk, hm, hv, hb⟩ := D.ex
  exact ⟨⟨f, _, ds, fn_of lk hcd S len fun A outer s H vs Q E hr hsp => hbody f cdv A outer s H vs Q E hr hsp, hm, hk, hb, hv⟩⟩
theorem Cal1.imp {x : Str} {k : Nat} {ps : List Str} {dvs : List V} {sp sp' : Sp} (c : Cal1 P w K mg base x k ps dvs sp) (h : ∀ vs H Q E, sp' vs H Q E → sp vs H Q E) : Cal1 P w K mg base x k ps dvs sp' := by
  obtain ⟨f, fd, ds, F, r⟩ := c.ex
  exact ⟨⟨f, fd, ds, F.imp h, r⟩⟩
theorem Cal1.mono {x : Str} {j k : Nat} {ps : List Str} {dvs : List V} {sp : Sp} (c : Cal1 P w K mg base x j ps dvs sp) (h : j ≤ k) : Cal1 P w K mg base x k ps dvs sp := by
  obtain ⟨f, fd, ds, F, r⟩ := c.ex
  exact ⟨⟨f, fd, ds, F.mono h, r⟩⟩
end
end L2
set_option Elab.async false
set_option linter.all false
set_option maxRecDepth 100000
namespace L2
open PySem PySem.Spec PyProof.Rows

def tRaise (C : Addr) (J : XJ) (t : TA) : TS := fun _ σ H => t σ H fun vs H1 => vs.length ≤ sizeLine ∧ J C none σ H1
section
variable {X : Cx} {J : XJ} {x : Str} {C : Addr} {bmB bmN : List Value} {newId Bn inN B nid initId : String} {np cpos pos : Pos} {e : Expr} {es : List Expr} {t : TA}
theorem ps_raise (O : OwnCls x C bmB newId X.mg X.base) (Fn : ExcBaseFacts Bn newId inN bmN) (hBn : bmB.contains (.type Bn) = true) (FB : ExcBaseFacts B nid initId bmB) (hh : X.A.handled = none) (hJ : BearsNew X J) (ha : PA X (e :: es) t)
    (hg : Gl X x := by rfl) (hd : (x == ("__debug__" : Str)) = false := by decide)
    (he : starEach (e :: es) X.env = (false, eval e X.env) :: starEach es X.env := by rfl) (hpl : (backTo cpos (starEach (e :: es) X.env)).any (·.1) = false := by rfl) :
    PS X (.Raise (some (.Call (.Name x np) (e :: es) [] cpos)) none pos) (tRaise C J t) := by
  intro pins s σ H D I h
  obtain ⟨tl, N, nm, q, bs, hdct, sn, sub, ab, col, dd, k0, k1, k2, k3, k5, mN, hC, hN, hni, T⟩ := O.obj
  refine wpAny_Raise_call_subU (C := C) (N := N) (bm := tl) (nm := nm) (q := q) (bs := bs) (hdct := hdct) (sn := sn) (sub := sub) (ab := ab) (col := col) (dd := dd) (k0 := k0) (k1 := k1) (k2 := k2) (k3 := k3) (k5 := k5) Fn hBn FB (mN := mN) (T.hasType FB.hasBase) hh hpl hni (ld_glob I hg O.bound ⟨rfl, ?_⟩ hd)
  have hw := ha cpos pins s σ H _ I h
  rw [he] at hw ⊢
  exact Calls.evalArgs_plain (wpAny_mono hw (fun vs s2 ⟨ws, H1, I1, r, z, q⟩ => ⟨rfl, by rw [← r.length]; exact z, I1.bk _ _ hC, hN.keeps I1.bk, T.keeps I1.bk, fun h' e hm => hJ pins σ H1 s2 h' e C vs I1 hm q⟩) fun _ _ y => y)
end

section
variable {X : Cx} {pins : List (Addr × Obj)} {σ : St} {H : Hp} {s : Shared}
theorem goes_ok {M : Model} {A : Around} {E : Value → Shared → Prop} {i : Nat} {n : Str} {pos : Pos} {Q : Unit → Shared → Prop} (I : Inv X pins σ H s) (hN : X.N.Nodup) (hi : X.N[i]? = some n) (hk : X.env.kindOf n = some .local)
    (h : ∀ s', Inv X pins (σ.set i none) H s' → Q () s') : wpAny M A (do bindName X.env n .none; unbindBehindTheSuite X.env n pos) Q E s := by
  obtain ⟨m, hn, hl⟩ := id I.loc
  have hcls : (X.env.scope.kind == .class || (X.env.scope.kind == .module && X.env.locals != X.env.globals)) = false := by rw [I.ok.kind]; rfl
  have hiσ : i < σ.length := by rw [I.len]; exact (List.getElem?_eq_some_iff.mp hi).1
  have neL : ∀ b o, X.s₀.heap.get? b = some o → b ≠ X.env.locals := fun b o e => Nat.ne_of_lt (Nat.lt_of_lt_of_le (Heap.lt_size e) I.ok.above)
  refine wpAny_nameGoes_keeps hk hn hcls fun h' v hn' hs => h _ ⟨I.ok, I.os, I.bare, ⟨fun b o e n hb hx => (hs.2 b (neL b o e)).trans (I.base.keep b o e n hb hx), fun b o e n hb hx => ?_, I.base.free, fun b o e hx => ?_, I.base.tups, I.base.frzs, I.base.tbls⟩,
    ⟨_, hn', fun j y v' e1 e2 e3 => ?_⟩, fun y c e => ?_, I.free, I.freeC, fun p hp => ?_, fun b ob e => ?_, by simpa using I.len⟩
  · obtain ⟨sl, e1⟩ := I.base.slot b o e n hb hx
    exact ⟨sl, (hs.2 b (neL b o e)).trans e1⟩
  · obtain ⟨o', e1⟩ := I.base.there b o e hx
    exact ⟨o', (hs.2 b (neL b o e)).trans e1⟩
  · by_cases hj : j = i
    · subst hj
      rw [List.getElem?_set_self hiσ] at e2
      cases e2
    · rw [List.getElem?_set_ne (Ne.symm hj)] at e2
      obtain ⟨u', r', q⟩ := hl j y v' e1 e2 e3
      refine ⟨u', r', ?_⟩
      rcases q with ⟨k, e⟩ | ⟨k, c, e, z⟩
      · refine .inl ⟨k, ?_⟩
        have : y ≠ n := fun e => hj (nodup_ix hN e1 (e ▸ hi))
        simp [this, e]
      · exact .inr ⟨k, c, e, z.sameBut hs (I.cne y c e)⟩
  · obtain ⟨w', z⟩ := I.cell y c e
    exact ⟨w', z.sameBut hs (I.cne y c e)⟩
  · obtain ⟨e, n, ne, nf, d⟩ := I.pin p hp
    exact ⟨(hs.2 p.1 ne).trans e, n, ne, nf, d⟩
  · refine (I.hok b ob e).stay (fun c w' hc q => (hs.2 c fun z => ?_).trans q) (fun _ q => q) fun _ _ q => q
    subst z
    rcases hc with rfl | hc
    · rw [I.free] at e; cases e
    · rw [I.free] at hc; cases hc
end

abbrev Cx.tried (X : Cx) (pins : List (Addr × Obj)) (W : Value → Shared → Prop) : Cx := { X with pn := X.pn ++ pins, xe := W }
abbrev Cx.suite (X : Cx) (pins : List (Addr × Obj)) (a : Addr) (oe : Obj) : Cx := { X with A := X.A.mark (some (.ref a)), calm := false, pn := X.pn ++ (pins ++ [(a, oe)]), xe := fun _ _ => False }
abbrev Cx.testing (X : Cx) (a : Addr) : Cx := { X with A := X.A.mark (some (.ref a)), calm := false }
section
variable {X : Cx} {pins : List (Addr × Obj)} {σ : St} {H : Hp} {s : Shared}
theorem Inv.tried (I : Inv X pins σ H s) (W : Value → Shared → Prop) : Inv (X.tried pins W) [] σ H s :=
  ⟨⟨I.ok.mod, I.ok.kind, I.ok.glob, I.ok.blt, I.ok.above, I.ok.inj, I.ok.has, I.ok.cab, I.ok.hd, I.ok.frames, I.ok.stk, I.ok.exf, I.ok.bs, I.ok.bsz, I.ok.noex, I.ok.exfs, I.ok.funs, I.ok.frf⟩,
    I.os, I.bare, I.base, I.loc, I.cell, I.free, I.freeC, fun p hp => I.pin p (by rw [List.append_nil] at hp; exact hp), I.hok, I.len⟩
theorem Inv.untried {pins' : List (Addr × Obj)} {W : Value → Shared → Prop} (ok : X.Ok) (I : Inv (X.tried pins W) pins' σ H s) : Inv X pins σ H s :=
  ⟨ok, I.os, I.bare, I.base, I.loc, I.cell, I.free, I.freeC, fun p hp => I.pin p (List.mem_append_left _ hp), I.hok, I.len⟩
theorem Inv.test (I : Inv X pins σ H s) (a : Addr) : Inv (X.testing a) pins σ H s :=
  ⟨⟨I.ok.mod, I.ok.kind, I.ok.glob, I.ok.blt, I.ok.above, I.ok.inj, I.ok.has, I.ok.cab, (fun h => nomatch h), I.ok.frames, I.ok.stk, I.ok.exf, I.ok.bs, I.ok.bsz, I.ok.noex, I.ok.exfs, I.ok.funs, I.ok.frf⟩,
    I.os, I.bare, I.base, I.loc, I.cell, I.free, I.freeC, I.pin, I.hok, I.len⟩
theorem Inv.suite {a : Addr} {oe : Obj} {vs : Array Value} (I : Inv X pins σ H s) (e : s.heap.get? a = some oe) (hd : oe.data = .fields vs) (hn : H a = none) : Inv (X.suite pins a oe) [] σ H s :=
  ⟨⟨I.ok.mod, I.ok.kind, I.ok.glob, I.ok.blt, I.ok.above, I.ok.inj, I.ok.has, I.ok.cab, (fun h => nomatch h), I.ok.frames, I.ok.stk, I.ok.exf, I.ok.bs, I.ok.bsz, I.ok.noex, I.ok.exfs, I.ok.funs, I.ok.frf⟩,
    I.os, I.bare, I.base, I.loc, I.cell, I.free, I.freeC, (fun p hp => by
      rw [List.append_nil] at hp
      have hp' : p ∈ X.pn ++ pins ∨ p ∈ [(a, oe)] := by
        rcases List.mem_append.mp hp with z | z
        · exact .inl (List.mem_append_left _ z)
        · rcases List.mem_append.mp z with z | z
          · exact .inl (List.mem_append_right _ z)
          · exact .inr z
      rcases hp' with z | z
      · exact I.pin p z
      · obtain rfl : p = (a, oe) := by simpa using z
        refine ⟨e, hn, fun q => ?_, fun q => ?_, fun v q => ?_⟩
        · obtain ⟨m, ⟨o, es, ep, ho, hd', _⟩, _⟩ := I.loc
          rw [← show a = X.env.locals from q, e] at ho
          cases ho
          rw [hd] at hd'; cases hd'
        · obtain ⟨_, o, ho, hnf⟩ := I.funs.mem q
          rw [show s.heap.get? a = some oe from e] at ho
          cases ho
          exact hnf vs hd
        · have q' : oe.data = .cell v := q
          rw [hd] at q'; cases q'), I.hok, I.len⟩
theorem Inv.unsuite {a : Addr} {oe : Obj} (ok : X.Ok) (I : Inv (X.suite pins a oe) [] σ H s) : Inv X pins σ H s :=
  ⟨ok, I.os, I.bare, I.base, I.loc, I.cell, I.free, I.freeC, fun p hp => I.pin p (by
    rw [List.append_nil]
    rcases List.mem_append.mp hp with z | z
    · exact List.mem_append_left _ z
    · exact List.mem_append_right _ (List.mem_append_left _ z)), I.hok, I.len⟩
end
def Ends.gone (i : Nat) (D : Ends) : Ends := { nx := fun σ H => D.nx (σ.set i none) H, rt := D.rt, bk := fun σ H => D.bk (σ.set i none) H, ct := fun σ H => D.ct (σ.set i none) H }
def tTry (i : Nat) (C : Addr) (tb : XJ → TS) (ts : Addr → Option Addr → TS) : TS := fun D σ H =>
  tb (fun C' d σ' H' => C' = C ∧ ∀ a, H' a = none → ts a d (D.gone i) (σ'.set i (some (.ref a))) H') D σ H
section
variable {X : Cx} {i : Nat} {x n : Str} {C : Addr} {bmB : List Value} {newId : String} {np hpos pos : Pos} {body suite : List Stmt} {b₀ : Stmt} {tb : XJ → TS} {ts : Addr → Option Addr → TS}
end

section
variable {X : Cx} {pins : List (Addr × Obj)} {σ : St} {H : Hp} {s : Shared}
end
end L2
set_option Elab.async false
set_option linter.all false
set_option maxRecDepth 100000
namespace L2
open PySem PySem.Spec PyProof.Rows PySem.W
section
variable {prog : Program} {w : World} {A : Around} {E : Value → Shared → Prop} {s : Shared} {K : PySem.W.Frag} {x D : Addr} {ox : Obj} {od : Option Obj}
theorem bexc_check {M : Model} {nameV : Value} {Q : Unit → Shared → Prop} (X : K.In s.heap) (I : InstAt s.heap x ox D od) (hb : subIn K (.ref D) (.type "BaseException") = some true) (q : Q () s) : wpAny M A (checkBuiltinCall "BaseException.__getattribute__" ⟨[.ref x, nameV], []⟩) Q E s := by
  have k1 : builtinKind "BaseException.__getattribute__" = some .slot := by decide +kernel
  have k2 : splitId "BaseException.__getattribute__" = some ("BaseException", "__getattribute__") := by decide +kernel
  have k3 := F.args_bexc_ga (.ref x) nameV
  have L : Looks M s.heap (isInstance (.ref x) (.type "BaseException")) true := (I.type (M := M)).andThen (looks_subIn X hb)
  obtain ⟨hh, g, d, t, os⟩ := s
  simp only [checkBuiltinCall, k1, k2]
  refine wpAny_bind (L.at ?_)
  repeat (any_goals (first | assumption | wp_step))
theorem exc_cls {Q : Option Value → Shared → Prop} (X : K.In s.heap) (I : InstAt s.heap x ox D od) (hga : findIn K (.ref D) "__getattribute__" = some (some (.builtin "BaseException.__getattribute__"))) (hno : findIn K (.ref D) "__getattr__" = some none)
    (hb : subIn K (.ref D) (.type "BaseException") = some true) (hf : findObj K D od "__class__" = some (.bind (.builtin "getset_descriptor.__get__") (.builtin "object.__class__"))) (hm : mroIn K D (.type "object") = some true)
    (h : Q (some (.ref D)) { s with toks := s.toks + 1 }) : wpAny (model prog w) A (getAttr? (.ref x) "__class__") Q E s := by
  have L0 := I.type (M := model prog w)
  have L1 := looks_findIn (M := model prog w) X hga
  have L2 := looks_findIn (M := model prog w) X hno
  have L3 := looks_find (M := model prog w) X I hf
  have GA := F.attr_ValueError.ga
  obtain ⟨hh, g, d, t, os⟩ := s
  unfold getAttr? getAttrBy? getAttrBy
  refine wpAny_bind (wpAny_mkText (wpAny_bind (wpAny_attempt (wpAny_holding (wpAny_bind (L0.at (wpAny_bind (L1.at ?_))))))))
  dsimp only
  rw [if_neg (show ¬ ((onTheHeap (.ref D) && Value.builtin "BaseException.__getattribute__" == Value.builtin "object.__getattribute__") = true) by
    rw [show (Value.builtin "BaseException.__getattribute__" == Value.builtin "object.__getattribute__") = false by decide +kernel]; simp)]
  unfold getAttrByItsOwn
  refine wpAny_bind (?_ : wpAny _ _ (typeLookup (.ref D) "__getattr__") _ _ _)
  refine L2.at ?_
  refine wpAny_bind (wpAny_attempt (wpAny_holding (?_ : wpAny _ _ (boundAndCalled (.builtin "BaseException.__getattribute__") (.ref x) _) _ _ _)))
  unfold boundAndCalled
  refine wpAny_bind (wpAny_of_eq (GA.bind _) ?_)
  refine wpAny_call (codeAny_call_builtin GA.plain F.entry_bexc_ga (bexc_check X I hb ?_))
  unfold Builtin.«object.__getattribute__»
  refine wpAny_bind (wpAny_pure (wpAny_bind (wpAny_pure (wpAny_bind (L0.at (wpAny_bind (L3.at ?_)))))))
  show wpAny _ _ (holding [Value.builtin "object.__class__"] (call (.builtin "getset_descriptor.__get__") [.builtin "object.__class__", .ref x, .ref D]) >>= ret) _ _ _
  refine wpAny_bind (wpAny_holding (wpAny_call (class_get (s := ⟨hh, g, d, t + 1, os⟩) (ox := ox) (od := od) X I hm ?_)))
  refine wpAny_pure ?_
  exact wpAny_pure (wpAny_pure h)
theorem find_data {name : Str} {a g : Value} (hc : (clsIn K D).isSome = true) (ha : findIn K (.ref D) name = some (some a)) (hg : specialIn K a "__get__" = some (some g)) (ht : takesIn K a = some true) : findObj K D od name = some (.bind g a) := by
  obtain ⟨cd, e⟩ := Option.isSome_iff_exists.mp hc
  unfold findObj; rw [e, Option.bind_some, ha, Option.bind_some]
  simp [hg, ht]
structure ExcK (K : PySem.W.Frag) (D : Addr) : Prop where
  ga : findIn K (.ref D) "__getattribute__" = some (some (.builtin "BaseException.__getattribute__"))
  no : findIn K (.ref D) "__getattr__" = some none
  bx : subIn K (.ref D) (.type "BaseException") = some true
  ob : mroIn K D (.type "object") = some true
  ds : hasDictIn K D = true
  ca : findIn K (.ref D) "__class__" = some (some (.builtin "object.__class__"))
  sp : specialIn K (.builtin "object.__class__") "__get__" = some (some (.builtin "getset_descriptor.__get__"))
  tk : takesIn K (.builtin "object.__class__") = some true
theorem kitx_exc (Z : ExcK K D) : KitX K (.ref x) (.ref D) (fun h => ∃ ox od, InstAt h x ox D od) where
  ty := fun _ _ _ ⟨_, _, I⟩ => I.type
  it := fun _ _ X _ => by
    obtain ⟨cdD, hcD, _⟩ := any_some Z.ds
    unfold clsIn at hcD
    split at hcD
    case h_1 c' d' cd' sl' ho =>
      intro A' Q' E' s' k q
      unfold isType loadHead
      exact wpAny_bind (wpAny_loadPart (k _ _ (X _ _ ho)) (wpAny_pure q))
    case h_2 => cases hcD
  ne := fun h tp dd its n sl X htp => by
    obtain ⟨cdD, hcD, _⟩ := any_some Z.ds
    refine Bool.eq_false_iff.mpr fun q => ?_
    have e : D = tp := Value.ref.inj (beq_iff_eq.mp q)
    subst e
    unfold clsIn at hcD
    split at hcD
    case h_1 c' d' cd' sl' ho => exact nomatch (X _ _ ho).symm.trans htp
    case h_2 => cases hcD
  ca := fun X ⟨_, od, I⟩ k => exc_cls X I Z.ga Z.no Z.bx (find_data (by obtain ⟨cd, hc, _⟩ := any_some Z.ds; rw [hc]; rfl) Z.ca Z.sp Z.tk) Z.ob k
end
section
variable {X : Cx}
end
end L2
set_option Elab.async false
set_option linter.all false
set_option maxRecDepth 100000
namespace L2
open PySem PySem.Spec PyProof.Rows

def caps (σ : St) (js : List Nat) : St := js.map fun j => (σ[j]?).getD none
inductive Capt (X : Cx) (scope : Scope) (cl : List (Str × Addr)) : List Str → List Nat → Prop
  | nil : Capt X scope cl [] []
  | cons {x : Str} {j : Nat} {r : List Str} {js : List Nat} : X.N[j]? = some x → X.env.kindOf x = some .cell → (relabel scope X.env).names.lookup x = some .cell → (∃ c, cl.lookup x = some c) → Capt X scope cl r js → Capt X scope cl (x :: r) (j :: js)
section
variable {X : Cx} {scope : Scope} {cl : List (Str × Addr)}
theorem Capt.length : ∀ {r : List Str} {js : List Nat}, Capt X scope cl r js → r.length = js.length
  | _, _, .nil => rfl
  | _, _, .cons _ _ _ _ t => by rw [List.length_cons, List.length_cons, Capt.length t]
theorem Capt.get : ∀ {r : List Str} {js : List Nat} {k : Nat} {x : Str}, Capt X scope cl r js → r[k]? = some x → ∃ j, js[k]? = some j ∧ X.N[j]? = some x ∧ X.env.kindOf x = some .cell ∧ (relabel scope X.env).names.lookup x = some .cell ∧ ∃ c, cl.lookup x = some c
  | _, _, _, _, .nil, e => by simp at e
  | _, _, 0, _, .cons h1 h2 h3 h4 _, e => by
    simp at e; subst e
    exact ⟨_, rfl, h1, h2, h3, h4⟩
  | _, _, k + 1, x, .cons _ _ _ _ t, e => by
    obtain ⟨j, r⟩ := Capt.get (k := k) t (by simpa using e)
    exact ⟨j, by simpa using r⟩
theorem Capt.has {r : List Str} {js : List Nat} (h : Capt X scope cl r js) {x : Str} (hx : x ∈ r) : ∃ c, cl.lookup x = some c := by
  obtain ⟨k, hk⟩ := List.getElem?_of_mem hx
  obtain ⟨_, _, _, _, _, z⟩ := h.get hk
  exact z
end
def cxCompC (X : Cx) (NB FR : List Str) (scope : Scope) (cl : List (Str × Addr)) (s3 : Shared) (H3 : Hp) (fp : List Addr) : Cx :=
  { X with N := NB ++ FR, s₀ := s3, H₀ := H3, env := compEnvC scope cl s3.heap.objs.size X.env, outer := X.stack, stack := X.stack, ex := fp, fn := fun _ => false, pn := [], xe := fun _ _ => False }
def tCompC (n : Nat) (js : List Nat) (wi : TI) (g : TG) (tt : TT) (te : TE) : TE := fun σ H Q => wi σ H fun J H1 => ∀ D, H1 D = none → ∃ W : Nat → Nat → Hp → List V → Prop, (∃ m, W 0 m (upd H1 D (.lst [])) []) ∧
  ∀ i m H2 ys, W i m H2 ys → H2 D = some (.lst ys) → (J.stop i H2 ∧ Q (.ref D) H2) ∨
    (J.go i H2 ∧ ∀ zs x H3, zs.length = n → J.yld i H2 x H3 → g x (zs ++ caps σ js) H3 fun σ4 H4 => σ4.drop n = caps σ js ∧ tt σ4 H4 fun b H5 =>
      if b = true then te σ4 H5 (fun v H6 => H6 D = some (.lst ys) ∧ ys.length < sizeLine ∧ ∃ m', m' < m ∧ W (i + 1) m' (upd H6 D (.lst (ys ++ [v]))) (ys ++ [v]))
      else H5 D = some (.lst ys) ∧ ∃ m', m' < m ∧ W (i + 1) m' H5 ys)

theorem relabel_has {scope : Scope} {env : Env} {FR : List Str} {x : Str} (h : (relabel scope env).names.all (fun y => !(y.2 == .cell || y.2 == .free) || FR.contains y.1) = true)
    (e : (relabel scope env).names.lookup x = some .cell ∨ (relabel scope env).names.lookup x = some .free) : x ∈ FR := by
  have key : ∀ k : NameKind, (k == .cell || k == .free) = true → (x, k) ∈ (relabel scope env).names → x ∈ FR := fun k hk hm => by
    have z := List.all_eq_true.mp h _ hm
    simp only [hk, Bool.not_true, Bool.false_or, List.contains_iff_mem] at z
    exact z
  rcases e with e | e
  · exact key .cell rfl (PySem.mem_of_lookup e)
  · exact key .free rfl (PySem.mem_of_lookup e)

theorem comp_core {X : Cx} {elt tg iter : Expr} {ifs : List Expr} {scope : Scope} {cl : List (Str × Addr)} {pos : Pos} {NB FR : List Str} {js : List Nat} {wi : TI} {g : TG} {tt : TT} {te : TE} {Q : VK} {RR : Value → Addr → Result → Shared → Prop}
    {pins : List (Addr × Obj)} {s : Shared} {σ : St} {H : Hp} (hc : X.calm = true) (hcl : ∀ x c, cl.lookup x = some c → X.env.cells.lookup x = some c) (hcap : Capt X scope cl FR js)
    (hnm : (relabel scope X.env).names.all (fun y => !(y.2 == .cell || y.2 == .free) || FR.contains y.1) = true) (hcell : ∀ x ∈ scope.names, x.2 ≠ .cell) (hkind : scope.kind = .function)
    (hi : PI X tg iter wi) (hb : ∀ s3 H3 fp, PG (cxCompC X NB FR scope cl s3 H3 fp) tg g ∧ PTs (cxCompC X NB FR scope cl s3 H3 fp) ifs tt ∧ PE (cxCompC X NB FR scope cl s3 H3 fp) elt te)
    (I : Inv X pins σ H s) (h : tCompC NB.length js wi g tt te σ H Q)
    (hRR : ∀ D C H' s', Inv X pins σ H' s' → FpOk X pins H' C → (∃ m, s'.heap.Ns C m) → Q (.ref D) H' → RR (.ref D) C (.ok .next) s') :
    wpAny (model X.prog X.w) X.A (eval iter X.env) (fun v s1 => wpAny (model X.prog X.w) X.A (pyIter v) (fun it s2 => wpAny (model X.prog X.w) X.A (newList []) (fun acc s3 =>
      wpAny (model X.prog X.w) X.A (newFunctionEnv scope X.env.globals cl [] X.env.qual none .none (some X.env)) (fun cenv s4 =>
        codeAny (model X.prog X.w) X.A (.compStart (.ListComp elt [⟨tg, iter, ifs, 0⟩] scope pos) 0 it acc { cenv with scope := relabel scope X.env }) (RR acc cenv.locals) s4) X.xe s3) X.xe s2) X.xe s1) X.xe s := by
  refine thn (hi pins s σ H _ I h) fun v s1 h1 => thn h1 fun itv s2 h2 => ?_
  obtain ⟨it, fp, tn, J, H2, e, I2, T, st2, f2, q2⟩ := h2
  subst e
  have hf2 : H2 s2.heap.objs.size = none := I2.hok.fresh (Nat.le_refl _)
  obtain ⟨W, ⟨m0, w0⟩, turn⟩ := q2 _ hf2
  refine wpAny_newObj_type (hd := by size_fits) ?_
  have I3 : Inv X pins σ (upd H2 s2.heap.objs.size (.lst [])) { s2 with heap := s2.heap.push { cls := .type "list", dict := none, data := .seq ([] : List Value).toArray } } :=
    I2.laid (t' := s2.toks) (fun b u e => Heap.get?_push_of_some _ e) (Nat.le_refl _) ⟨by decide, [], 0, .nil, Heap.get?_push_size _ rfl⟩
  generalize hD : s2.heap.objs.size = D at *
  generalize hs3 : ({ s2 with heap := s2.heap.push { cls := .type "list", dict := none, data := .seq ([] : List Value).toArray } } : Shared) = s3 at *
  generalize hH3 : upd H2 D (.lst []) = H3 at *
  have h3D : H3 D = some (.lst []) := by rw [← hH3]; exact upd_same
  have fpD : ∀ b ∈ fp, b ≠ D := fun b hb => by
    obtain ⟨o, e, _⟩ := T.obj _ _ st2 b hb
    rw [← hD]; exact Nat.ne_of_lt (Heap.lt_size e)
  have k23 : ∀ b u, s2.heap.get? b = some u → s3.heap.get? b = some u := fun b u e => by rw [← hs3]; exact Heap.get?_push_of_some _ e
  have st3 : tn 0 s3.heap := T.keep _ _ _ st2 fun b _ o e => k23 b o e
  have f3 : ∀ b ∈ fp, FpOk X pins H3 b := fun b hb => ⟨by rw [← hH3, upd_ne (fpD b hb)]; exact (f2 b hb).1, (f2 b hb).2⟩
  refine wpAny_newFunctionEnv hcell (by intro y hy; simp at hy) (fun h4 hns4 hsb4 => ?_) hkind
  have k34 : ∀ b u, s3.heap.get? b = some u → h4.get? b = some u := fun b u e => hsb4.extBut b u (Nat.ne_of_lt (Heap.lt_size e)) (Heap.get?_push_of_some _ e)
  have okB : (cxCompC X NB FR scope cl s3 H3 fp).Ok := by
    refine ⟨I3.ok.mod, hkind, I3.ok.glob, I3.ok.blt, Nat.le_refl _, fun x y c e1 e2 => I3.ok.inj x y c (hcl _ _ e1) (hcl _ _ e2), fun x e => hcap.has (relabel_has hnm e), (fun x c e => nomatch e), I3.ok.hd, I3.ok.frames, .inl rfl, fun b hb => ⟨?_, fun x c e => ?_⟩, I3.bs, Nat.le_trans I3.ok.bsz I3.sz, fun b o e hb => ?_, fun b hb z => ?_, I3.stack, I3.stkFree⟩
    · obtain ⟨o, e, _⟩ := T.obj _ _ st3 b hb
      exact Nat.ne_of_lt (Heap.lt_size e)
    · exact (f3 b hb).2.2.2.2.1 x c (hcl _ _ e)
    · obtain ⟨_, _, _, z, _⟩ := f3 b hb
      rcases z with z | z
      · exact I3.ok.noex b o e z
      · exact absurd (Nat.lt_of_lt_of_le (Heap.lt_size e) (Nat.le_trans I3.ok.bsz z)) (Nat.lt_irrefl _)
    · obtain ⟨_, z1, z2, _⟩ := f3 b hb
      rcases List.mem_cons.mp (I3.stkSub b z) with e | e
      · exact z1 e
      · exact z2 e
  have IB : Inv (cxCompC X NB FR scope cl s3 H3 fp) [] (List.replicate NB.length none ++ caps σ js) H3 { s3 with heap := h4, toks := s3.toks + ([] : List (Str × Value)).length } := by
    refine ⟨okB, rfl, I3.bare, Un.kept k34, ⟨_, hns4, fun i x v e1 e2 e3 => ?_⟩, fun x c e => ?_, I3.hok.fresh (Nat.le_refl _), fun x c e => I3.freeC x c (hcl _ _ e), fun p hp => ?_, I3.hok.kept k34, ?_⟩
    · by_cases hi : i < NB.length
      · rw [List.getElem?_append_left (by simpa using hi), List.getElem?_replicate, if_pos hi] at e2
        cases e2
      · have e1' : FR[i - NB.length]? = some x := by
          have z : (NB ++ FR)[i]? = some x := e1
          rw [List.getElem?_append_right (by omega)] at z; exact z
        rw [List.getElem?_append_right (by simp; omega), List.length_replicate] at e2
        obtain ⟨j, hj, hN, hk, hb', c, hc'⟩ := hcap.get e1'
        have e2' : σ[j]? = some (some v) := by
          unfold caps at e2
          rw [List.getElem?_map, hj] at e2
          simp only [Option.map_some, Option.some.injEq] at e2
          cases hσ : σ[j]? with
          | none => rw [hσ] at e2; cases e2
          | some o => rw [hσ] at e2; simp only [Option.getD_some] at e2; rw [e2]
        obtain ⟨m, hn, hl⟩ := I3.loc
        obtain ⟨u, ru, lu⟩ := hl j x v hN e2' (.inr (.inl hk))
        refine ⟨u, ru, .inr ⟨.inl hb', c, hc', ?_⟩⟩
        rcases lu with ⟨z, _⟩ | ⟨_, c', z, q⟩
        · rw [hk] at z; cases z
        · rw [hcl _ _ hc'] at z; cases z
          obtain ⟨o, ho, hd⟩ := q
          exact ⟨o, k34 _ _ ho, hd⟩
    · obtain ⟨v, o, ho, hd⟩ := I3.cell x c (hcl _ _ e)
      exact ⟨v, o, k34 _ _ ho, hd⟩
    · exact absurd (show p ∈ ([] : List (Addr × Obj)) from hp) (by simp)
    · show _ = (NB ++ FR).length
      rw [List.length_append, List.length_append, List.length_replicate, hcap.length]
      unfold caps; rw [List.length_map]
  have st4 : tn 0 h4 := T.keep _ _ _ st3 fun b _ o e => k34 b o e
  have stat : ∀ {H' : Hp}, (∀ b ∈ fp, H' b = none) → ∀ b ∈ fp, FpOk (cxCompC X NB FR scope cl s3 H3 fp) [] H' b := fun hn b hb =>
    ⟨hn b hb, (okB.exf b hb).1, okB.exfs b hb, .inl hb, fun x c e => (f3 b hb).2.2.2.2.1 x c (hcl _ _ e), fun p hp => absurd (show p ∈ ([] : List (Addr × Obj)) from hp) (by simp)⟩
  obtain ⟨hg, ht, he⟩ := hb s3 H3 fp
  have fin : ∀ {σ' : St} {H' : Hp} {s' : Shared}, Inv (cxCompC X NB FR scope cl s3 H3 fp) [] σ' H' s' → Q (.ref D) H' → RR (.ref D) s3.heap.objs.size (.ok .next) s' := fun {σ' H' s'} J q => by
    have hm : ∃ m, s'.heap.Ns s3.heap.objs.size m := by
      obtain ⟨m, hm, _⟩ := J.loc
      exact ⟨m, hm⟩
    refine hRR D _ H' s' (I3.call' (ch := fp) J.os J.base J.hok J.bare fun b hb => ?_) (I3.fpOk (Nat.le_refl _) J.free) hm q
    obtain ⟨_, z1, z2, z3, z4, z5⟩ := f3 b hb
    exact ⟨z3, z1, z4, z5⟩
  have loop : ∀ s5 : Shared, s5 = { s3 with heap := h4, toks := s3.toks + ([] : List (Str × Value)).length } →
      codeAny (model X.prog X.w) X.A (.compLoop (.ListComp elt [⟨tg, iter, ifs, 0⟩] scope pos) 0 (.ref it) (.ref D) (compEnvC scope cl s3.heap.objs.size X.env)) (RR (.ref D) s3.heap.objs.size) s5 := by
    rintro s5 rfl
    refine compLoop_any (fun n s' => ∃ i zs H' ys, zs.length = NB.length ∧ Inv (cxCompC X NB FR scope cl s3 H3 fp) [] (zs ++ caps σ js) H' s' ∧ tn i s'.heap ∧ (∀ b ∈ fp, H' b = none) ∧ H' D = some (.lst ys) ∧ W i n H' ys) ?_ m0
      ⟨0, _, H3, [], List.length_replicate, IB, st4, fun b hb => (f3 b hb).1, h3D, by rw [← hH3] at *; exact w0⟩
    rintro n s6 ⟨i, zs, H6, ys, hzs, I6, st6, fr6, hD6, w6⟩
    rcases turn i n H6 ys w6 hD6 with ⟨stop, qn⟩ | ⟨go, step⟩
    · refine thn (T.done (cxCompC X NB FR scope cl s3 H3 fp) rfl rfl rfl hc i [] s6 _ H6 _ I6 (stat fr6) st6 stop) fun r s7 ⟨hr, I7⟩ => ?_
      subst hr
      exact fin I7 qn
    · refine thn (T.item (cxCompC X NB FR scope cl s3 H3 fp) rfl rfl rfl hc i [] s6 _ H6 _ I6 (stat fr6) st6 go) fun r s7 ⟨u, hr, h7⟩ => ?_
      subst hr
      refine thn h7 fun _ s8 ⟨x, H8, I8, r8, y8, st8, fr8⟩ => ?_
      have I8' := I8.pinned (stat fr8) (T.obj _ _ st8)
      have again : ∀ {σ9 : St} {H9 : Hp} {s9 : Shared} {ws : List V} {m' : Nat}, σ9.drop NB.length = caps σ js → Inv (cxCompC X NB FR scope cl s3 H3 fp) ([] ++ pinsAt fp s8.heap) σ9 H9 s9 → H9 D = some (.lst ws) → m' < n → W (i + 1) m' H9 ws →
          ∃ m, m < n ∧ ∃ i zs H' ys, zs.length = NB.length ∧ Inv (cxCompC X NB FR scope cl s3 H3 fp) [] (zs ++ caps σ js) H' s9 ∧ tn i s9.heap ∧ (∀ b ∈ fp, H' b = none) ∧ H' D = some (.lst ys) ∧ W i m H' ys := fun {σ9 H9 s9 ws m'} hdr I9 hz hm w9 => by
        have hl : σ9.length = (NB ++ FR).length := I9.len
        rw [List.length_append] at hl
        refine ⟨m', hm, i + 1, σ9.take NB.length, H9, ws, by rw [List.length_take]; omega, ?_, T.keep _ _ _ st8 fun b hb o e => (I9.pin (b, o) (List.mem_append_right _ (List.mem_append_right _ (mem_pinsAt hb e)))).1, fun b hb => ?_, hz, w9⟩
        · rw [← hdr, List.take_append_drop]; exact I9.unpinned
        · obtain ⟨o, e, d⟩ := T.obj _ _ st8 b hb
          exact (I9.pin (b, o) (List.mem_append_right _ (List.mem_append_right _ (mem_pinsAt hb e)))).2.1
      refine thn (hg _ s8 _ H8 x u _ I8' r8 (step zs x H8 hzs y8)) fun _ s9 ⟨σ9, H9, I9, hdr, q9⟩ => ?_
      refine thn (ht _ s9 σ9 H9 _ I9 q9) fun ok s10 ⟨H10, I10, q10⟩ => ?_
      cases ok with
      | false =>
        rw [if_neg (by decide)] at q10 ⊢
        obtain ⟨hz, m', hm, w'⟩ := q10
        exact again hdr I10 hz hm w'
      | true =>
        rw [if_pos rfl] at q10 ⊢
        refine thn (he _ s10 σ9 H10 _ I10 q10) fun y s11 ⟨v, H11, I11, r11, hz, hlen, m', hm, w'⟩ => ?_
        refine thn (mt_append _ s11 σ9 H11 (.ref D) [v] (.ref D) [y] (fun _ H12 => H12 = upd H11 D (.lst (ys ++ [v]))) I11 rfl (.cons r11 .nil) ⟨D, ys, v, rfl, rfl, hz, hlen, rfl⟩) fun _ s12 ⟨_, H12, I12, _, e12⟩ => ?_
        subst e12
        exact again hdr I12 upd_same hm w'
  exact codeAny_compStart_list (loop _ rfl) (T.self X.A 0 _ _ _ st4 (loop _ rfl))

section
variable {X : Cx} {elt tg iter : Expr} {ifs : List Expr} {scope : Scope} {cl : List (Str × Addr)} {pos spos py : Pos} {NB FR : List Str} {js : List Nat} {wi : TI} {g : TG} {tt : TT} {te : TE}
theorem pe_compC (hc : X.calm = true) (hclos : closureFor scope X.env = pure cl) (hcl : ∀ x c, cl.lookup x = some c → X.env.cells.lookup x = some c) (hcap : Capt X scope cl FR js)
    (hnm : (relabel scope X.env).names.all (fun y => !(y.2 == .cell || y.2 == .free) || FR.contains y.1) = true) (hcell : ∀ x ∈ scope.names, x.2 ≠ .cell) (hkind : scope.kind = .function) (hnames : ∀ x ∈ scope.names, x.2 = .local → scope.names.lookup x.1 = some .local)
    (hi : PI X tg iter wi) (hb : ∀ s3 H3 fp, PG (cxCompC X NB FR scope cl s3 H3 fp) tg g ∧ PTs (cxCompC X NB FR scope cl s3 H3 fp) ifs tt ∧ PE (cxCompC X NB FR scope cl s3 H3 fp) elt te)
    (hs : ∀ x, foldedSetIterable iter X.env x = pure x := by intro _; rfl) :
    PE X (.ListComp elt [⟨tg, iter, ifs, 0⟩] scope pos) (tCompC NB.length js wi g tt te) := by
  intro pins s σ H Q I h
  rw [eval_ListComp]
  refine wpAny_comprehension_free (use := none) rfl hs hclos hkind hnames (comp_core (RR := fun acc C => compPost (model X.prog X.w) X.A X.xe none (EP X pins σ Q) acc C) hc hcl hcap hnm hcell hkind hi hb I h ?_)
  intro D C H' s' I' ⟨f0, f1, f2, f3, f4, f5⟩ ⟨m, hm⟩ q
  exact ⟨m, hm, fun h' sb => ⟨.ref D, H', I'.turned (t' := s'.toks) (fun b o hb e => (sb.2 b hb).trans e) f0 f1 f3 f4 f5, rfl, q⟩⟩
theorem ps_setC {i : Nat} {y : Str} (hc : X.calm = true) (hclos : closureFor scope X.env = pure cl) (hcl : ∀ x c, cl.lookup x = some c → X.env.cells.lookup x = some c) (hcap : Capt X scope cl FR js)
    (hnm : (relabel scope X.env).names.all (fun y => !(y.2 == .cell || y.2 == .free) || FR.contains y.1) = true) (hcell : ∀ x ∈ scope.names, x.2 ≠ .cell) (hkind : scope.kind = .function) (hnames : ∀ x ∈ scope.names, x.2 = .local → scope.names.lookup x.1 = some .local)
    (hN : X.N.Nodup) (hiN : X.N[i]? = some y) (hy : X.env.kindOf y = some .local) (hsw : swapsWith (.ListComp elt [⟨tg, iter, ifs, 0⟩] scope pos) (some (.Name y py)) spos.line X.env = pure true)
    (hi : PI X tg iter wi) (hb : ∀ s3 H3 fp, PG (cxCompC X NB FR scope cl s3 H3 fp) tg g ∧ PTs (cxCompC X NB FR scope cl s3 H3 fp) ifs tt ∧ PE (cxCompC X NB FR scope cl s3 H3 fp) elt te)
    (hs : ∀ x, foldedSetIterable iter X.env x = pure x := by intro _; rfl) :
    PS X (.Assign [.Name y py] (.ListComp elt [⟨tg, iter, ifs, 0⟩] scope pos) spos) (tAsg (tCompC NB.length js wi g tt te) (gName i)) := by
  intro pins s σ H D I h
  rw [exec_Assign_Name_used _ _ _ _ hsw]
  refine wpAny_bind (wpAny_standAt (wpAny_bind ?_))
  show wpAny _ _ (do let _ ← comprehension (.ListComp elt [⟨tg, iter, ifs, 0⟩] scope pos) scope X.env _ (newList []) false (eval iter X.env) (some (assign (.Name y py) X.env))) _ _ s
  refine wpAny_bind (wpAny_mono (wpAny_comprehension_free (use := some (assign (.Name y py) X.env)) (Q := fun _ s' => SP X pins D .next s') rfl hs hclos hkind hnames
    (comp_core (RR := fun acc C => compPost (model X.prog X.w) X.A X.xe (some (assign (.Name y py) X.env)) (fun _ s' => SP X pins D .next s') acc C) hc hcl hcap hnm hcell hkind hi hb I h ?_)) (fun _ s' hq => wpAny_pure (wpAny_pure hq)) fun _ _ e => e)
  intro DD C H' s' I' ⟨f0, f1, f2, f3, f4, f5⟩ ⟨m, hm⟩ q
  show wpAny _ _ (assign (.Name y py) X.env (.ref DD)) _ _ s'
  refine wpAny_assign_Name (store_ok2 (v := .ref DD) I' hN hiN (.inl hy) rfl (fun s'' I'' ⟨a, sa, ha⟩ => ?_) (.inr hy))
  have hCa : C ≠ a := by
    rcases ha with rfl | ha
    · exact f1
    · exact fun z => f4 y a ha z.symm
  exact ⟨m, hm.sameBut sa hCa, fun h' sb => ⟨_, H', I''.turned (t' := s''.toks) (fun b o hb e => (sb.2 b hb).trans e) f0 f1 f3 f4 f5, q⟩⟩
end
end L2
set_option Elab.async false
set_option linter.all false
set_option maxRecDepth 100000
namespace L2
open PySem PySem.Spec PyProof.Rows

section
variable {prog : Program} {w : World} {A : Around} {E : Value → Shared → Prop} {s : Shared}
theorem nt_item {j t : Addr} {i : Nat} {vs : Array Value} {x : Value} {Q : Value → Shared → Prop} (kj : s.heap.IsTupleIter j t i) (kt : s.heap.IsTuple t vs) (kx : vs[i]? = some x)
    (q : ∀ h', h'.IsTupleIter j t (i + 1) → Heap.SameBut j s.heap h' → Q x { s with heap := h' }) : wpAny (model prog w) A (Builtin.SmallTypes.nextOf (.ref j)) Q E s := by
  obtain ⟨oj, e1, e2, e3⟩ := id kj
  obtain ⟨ot, f1, _, nt, f3⟩ := kt
  unfold Builtin.SmallTypes.nextOf
  refine wpAny_bind (wpAny_callSpecial?_slot (name := Str.ofString "__next__") kj.typeIs F.slot_tuple_iterator_next (wpAny_call_entry F.slot_tuple_iterator_next kj.typeIs F.entry_tuple_iterator_next ?_ (F.args_tuple_iterator_next_1 _)))
  show wpAny _ _ (field (.ref j) 0 >>= _) _ _ s
  refine wpAny_bind (wpAny_field e1 e3 (x := .ref t) rfl ?_)
  show wpAny _ _ (if (Value.ref t == .none) = true then _ else _) _ _ s
  rw [if_neg (show ¬ ((Value.ref t == .none) = true) from Bool.false_ne_true)]
  show wpAny _ _ (field (.ref j) 1 >>= _) _ _ s
  refine wpAny_bind (wpAny_field e1 e3 (x := .int i 0) rfl (?_ : wpAny _ _ (seqItems? (.ref t) >>= _) _ _ s))
  refine wpAny_bind (wpAny_seqItems f1 f3 ?_)
  simp only [Int.toNat_natCast, kx]
  refine wpAny_bind (wpAny_setField e1 e3 (by simp) (wpAny_pure ⟨x, rfl, wpAny_pure (q _ ⟨_, Heap.get?_update_self _ e1 (Obj.isFreed_of_fields (Obj.data_mapFields e3 _)), (Obj.cls_mapFields ..).trans e2, ?_⟩ (Heap.SameBut.update ..))⟩))
  rw [Obj.data_mapFields e3]; simp [rawInt]
theorem nt_end {j t : Addr} {i : Nat} {vs : Array Value} {Q : Value → Shared → Prop} (hh : A.handled = none) (kj : s.heap.IsTupleIter j t i) (kt : s.heap.IsTuple t vs) (kx : vs[i]? = none)
    (q : ∀ h' e, Heap.ExtBut j s.heap h' → (∃ o, h'.get? e = some o ∧ o.cls = .type "StopIteration") → E (.ref e) { s with heap := h' }) : wpAny (model prog w) A (Builtin.SmallTypes.nextOf (.ref j)) Q E s := by
  obtain ⟨oj, e1, e2, e3⟩ := id kj
  obtain ⟨ot, f1, _, nt, f3⟩ := kt
  unfold Builtin.SmallTypes.nextOf
  refine wpAny_bind (wpAny_callSpecial?_slot (name := Str.ofString "__next__") kj.typeIs F.slot_tuple_iterator_next (wpAny_call_entry F.slot_tuple_iterator_next kj.typeIs F.entry_tuple_iterator_next ?_ (F.args_tuple_iterator_next_1 _)))
  show wpAny _ _ (field (.ref j) 0 >>= _) _ _ s
  refine wpAny_bind (wpAny_field e1 e3 (x := .ref t) rfl ?_)
  show wpAny _ _ (if (Value.ref t == .none) = true then _ else _) _ _ s
  rw [if_neg (show ¬ ((Value.ref t == .none) = true) from Bool.false_ne_true)]
  show wpAny _ _ (field (.ref j) 1 >>= _) _ _ s
  refine wpAny_bind (wpAny_field e1 e3 (x := .int i 0) rfl (?_ : wpAny _ _ (seqItems? (.ref t) >>= _) _ _ s))
  refine wpAny_bind (wpAny_seqItems f1 f3 ?_)
  simp only [Int.toNat_natCast, kx]
  refine wpAny_bind (wpAny_rule (wpAny_bind (wpAny_setField e1 e3 (by simp) (?_ : wpAny _ _ (newExc (.type "StopIteration") [] >>= _) _ _ _))))
  refine wpAny_bind ?_
  simp only [newExc, newTuple]
  refine wpAny_bind (wpAny_newObj_type (wpAny_bind (m := firstArgMember _ _) (wpAny_of_eq (a := Value.none) (by first | rfl | (simp only [firstArgMember]; rfl)) (wpAny_newObj_type ?_ (by size_fits)))) (by size_fits))
  simp only [raiseNew]
  refine wpAny_bind (wpAny_handled (?_))
  first | rw [show A.in1.handled = none from hh] | rw [hh]
  exact wpAny_bind (wpAny_pure (wpAny_throw (q _ _ (((Heap.SameBut.update ..).extBut.push _).push _) ⟨_, Heap.get?_push_size _ rfl, rfl⟩)))

structure ZT (z TI TO j1 j2 t1 t2 : Addr) (f0 : Value) (i1 i2 : Nat) (h : Heap) : Prop where
  z : IsZip h z TI TO f0
  ti : IsPair h TI (.ref j1) (.ref j2)
  to : ∃ a b, IsPair h TO a b
  i1 : h.IsTupleIter j1 t1 i1
  i2 : h.IsTupleIter j2 t2 i2
structure ZNe (z TI TO j1 j2 : Addr) : Prop where
  a : TI ≠ z
  b : TO ≠ z
  c : j1 ≠ z
  d : j2 ≠ z
  e : TI ≠ TO
  f : TI ≠ j1
  g : TI ≠ j2
  k : TO ≠ j1
  l : TO ≠ j2
  m : j1 ≠ j2
section
variable {z TI TO j1 j2 t1 t2 : Addr} {i : Nat} {xs ys : Array Value}
theorem tup_ne_j {h : Heap} {vs : Array Value} {t j u : Addr} {n : Nat} (ht : h.IsTuple t vs) (hj : h.IsTupleIter j u n) : t ≠ j := fun e => by
  obtain ⟨o, e1, e2, _⟩ := ht
  obtain ⟨o', f1, f2, _⟩ := hj
  rw [e, f1] at e1; cases e1; rw [f2] at e2; simp at e2
end
end

end L2
set_option Elab.async false
set_option linter.all false
set_option maxRecDepth 100000
namespace L2
open PySem PySem.Spec PyProof.Rows
section
variable {X : Cx}
theorem bls_get : ∀ {bs : List Bool} {us : List Value} {i : Nat} {v : Value}, Vals (bs.map V.bl) us → us[i]? = some v → ∃ b, bs[i]? = some b ∧ v = .bool b
  | [], _, _, _, r, e => by cases r; simp at e
  | b :: bs, _, i, v, r, e => by
    cases r with
    | cons h t =>
      cases i with
      | zero => simp at e; subst e; exact ⟨b, rfl, h⟩
      | succ i => obtain ⟨c, e1, e2⟩ := bls_get (i := i) t (by simpa using e); exact ⟨c, by simpa using e1, e2⟩
theorem all_range : ∀ (bs : List Bool) (k : Nat), ((List.range' k bs.length).all fun i => (bs[i - k]?).getD true) = bs.all id
  | [], k => rfl
  | b :: bs, k => by
    rw [List.length_cons, List.range'_succ, List.all_cons, List.all_cons]
    simp only [Nat.sub_self, List.getElem?_cons_zero, Option.getD_some, id]
    congr 1
    rw [← all_range bs (k + 1)]
    apply Bool.eq_iff_iff.mpr
    simp only [List.all_eq_true, List.mem_range'_1]
    constructor
    · intro h i hi
      have := h i hi
      rw [show i - k = (i - (k + 1)) + 1 by omega, List.getElem?_cons_succ] at this; exact this
    · intro h i hi
      rw [show i - k = (i - (k + 1)) + 1 by omega, List.getElem?_cons_succ]; exact h i hi
theorem call_all (hc : X.calm = true) : CallR X (.builtin "all") (fun xs H Q => ∃ (p : Addr) (bs : List Bool), xs = [.ref p] ∧ SqL X.K H p (bs.map V.bl) ∧ Q (.bl (bs.all id)) H) := by
  intro pins s σ H xs us Q I r h
  obtain ⟨p, bs, rfl, hq, q⟩ := h
  obtain ⟨u, rfl, ru⟩ := vals1 r
  cases ru
  obtain ⟨its, rv, pl, _⟩ := I.list hq
  have hlt : p < s.heap.objs.size := by obtain ⟨o, n, e, _⟩ := pl; exact Heap.lt_size e
  have hl := rv.length
  rw [List.length_map] at hl
  refine call_all_walk (wpAny_pyIter_list pl.isList ⟨s.heap.objs.size, _, _, _, _, _, fun i => (bs[i]?).getD true, rfl, Walks.list (A := X.A.in1) (show X.A.in1.handled = none from I.ok.hd hc) s.heap.objs.size p (Nat.ne_of_lt hlt) its.toArray,
    ⟨⟨_, Heap.get?_push_size _ rfl, rfl, rfl⟩, pl.isList.push _⟩, fun i v s' Q' E' hv hQ' => ?_, fun h' tk k => ⟨.bl (bs.all id), H, I.kept fun b o e => k b o (by simpa using Nat.ne_of_lt (Heap.lt_size e)) (Heap.get?_push_of_some _ e), ?_, q⟩⟩)
  · obtain ⟨b, e1, rfl⟩ := bls_get rv (by simpa using hv)
    simp only [e1, Option.getD_some] at hQ'
    exact wpAny_pure hQ'
  · have := all_range bs 0
    simp only [Nat.sub_zero] at this
    rw [show its.toArray.size = bs.length by simp [hl], List.range_eq_range', this]; rfl

def KPair (K : PySem.W.Frag) (a : Addr) (i j : Int) : Prop := ∃ o t u n, K.lookup a = some o ∧ o.cls = .type "tuple" ∧ o.data = .seq #[.int i t, .int j u] n
def rEqN (K : PySem.W.Frag) : R2 := fun x y H Q => ∃ d a i j, RdD H x d ∧ y = .ref a ∧ KPair K a i j ∧ SeqAt.shaped d = true ∧ Q (.bl (PyData.eqv d (.tuple [.int i, .int j]))) H
theorem op_eqN (hu : X.A.units + 64 < cLine) : OpR X (compareOp .Eq) (rEqN X.K) := by
  intro pins s σ H x y v u Q I rx ry h
  obtain ⟨d, a, i, j, hd, rfl, ⟨o, t1, t2, n, hk, h1, h2⟩, s1, q⟩ := h
  obtain ⟨as, r1⟩ := hd.reads I rx
  cases (show u = Value.ref a from ry)
  have r2 : Reads s.heap (.ref a) (.tuple [.int i, .int j]) _ := .tuple (I.kIn _ _ hk) h1 h2 (.cons (.int i t1) (.cons (.int j t2) .nil))
  exact eq_dataH r1 r2 s1 rfl hu ⟨.bl _, H, I, rfl, q⟩
end
end L2
set_option Elab.async false
set_option linter.all false
set_option maxRecDepth 100000
namespace HT
open PySem PyProof.Rows
section
variable {prog : Program} {w : World} {A : Around} {E : Value → Shared → Prop} {s : Shared}
theorem whole_cut {t sl : Addr} {items : Array Value} {vl vu : Value} {lo hi : Option Int} {Q : Value → Shared → Prop} (ht : IsTup s.heap t items) (hs : s.heap.IsSliceOf sl vl vu .none) (pl : IsPart vl lo) (pu : IsPart vu hi)
    (hw : sIx items.size 0 lo = 0 ∧ sIx items.size items.size hi = items.size) (h : Q (.ref t) s) : wpAny (model prog w) A (getItem (.ref t) (.ref sl)) Q E s := by
  obtain ⟨os, hos, hcs, hds⟩ := id hs
  have hTs : s.TypeIs (.ref sl) "slice" := ⟨os, hos, hcs⟩
  unfold getItem
  try with_reducible refine wpAny_holding ?_
  first | refine wpAny_bind (wpAny_pure ?_) | skip
  refine wpAny_bind (wpAny_sequenceKey ht.typeIs (by decide) ?_)
  refine wpAny_bind (wpAny_callSpecial?_slot (name := Str.ofString "__getitem__") ht.typeIs PyProof.Rows.slot_tuple_getitem
    (wpAny_call_entry PyProof.Rows.slot_tuple_getitem ht.typeIs entry_tuple_getitem ?_ (args_tuple_getitem _ _)))
  show wpAny _ _ (Builtin.Tuple.tupleItemsOf (.ref t) >>= _) _ _ s
  refine wpAny_bind (tupleItemsOf_ ht ?_)
  refine wpAny_bind (wpAny_typeOf hTs ?_)
  rw [if_pos (by decide)]
  refine wpAny_bind (sliceApplied_gen hs pl pu ?_)
  show wpAny _ _ (if (((sIx items.size 0 lo : Nat) : Int) == 0 && (1 : Int) == 1 && (sIx items.size items.size hi - sIx items.size 0 lo) == items.size) = true then _ else _) _ _ s
  rw [if_pos (by rw [hw.1, hw.2]; simp)]
  refine wpAny_bind ?_
  unfold Builtin.Tuple.tupleIsExact
  refine wpAny_bind (wpAny_typeOf ht.typeIs (wpAny_pure ?_))
  rw [if_pos (by decide)]
  first
    | exact wpAny_bind (wpAny_rule (wpAny_pure ⟨_, rfl, wpAny_pure h⟩))
    | exact wpAny_bind (wpAny_rule (wpAny_bind (wpAny_pure (wpAny_pure ⟨_, rfl, wpAny_pure h⟩))))
    | exact wpAny_bind (wpAny_rule (wpAny_bind (wpAny_pure ⟨_, rfl, wpAny_pure h⟩)))
end
end HT
namespace L2
open PySem PySem.Spec PyProof.Rows
section
variable {X : Cx}
def rSlW (K : PySem.W.Frag) : V → Option Int → Option Int → Hp → VK → Prop := fun x lo hi H Q => ∃ a xs, x = .ref a ∧ SqT K H a xs ∧ (HT.sIx xs.length 0 lo = 0 ∧ HT.sIx xs.length xs.length hi = xs.length) ∧ Q x H
theorem sl_whole : SlR X (rSlW X.K) := by
  intro pins s σ H x v vl vu lo hi sl Q I rx hs pl pu h
  obtain ⟨a, xs, rfl, hx, hw, q⟩ := h
  cases rx
  obtain ⟨its, r, ht, hz⟩ := I.tuple hx
  have hlen : its.toArray.size = xs.length := by rw [List.size_toArray]; exact r.length.symm
  exact ⟨"tuple", _, PyProof.Rows.slot_tuple_getitem.lookup, ht.typeIs, HT.whole_cut ht hs pl pu (by rw [hlen]; exact hw) ⟨.ref a, H, I, rfl, q⟩⟩
end
end L2
set_option Elab.async false
set_option linter.all false
set_option maxRecDepth 100000
namespace L2
open PySem PySem.Spec PyProof.Rows
section
variable {J : It} {D : Addr} {N n : Nat} {js : List Nat} {σ : St} {g : TG} {tt : TT} {te : TE} {Q : VK} {H : Hp}
theorem comp_by (Pv : Nat → Hp → List V → Prop) (h0 : Pv 0 (upd H D (.lst [])) []) (hgo : ∀ i H ys, i < N → Pv i H ys → J.go i H) (hst : ∀ H ys, Pv N H ys → J.stop N H)
    (hs : ∀ i x zs H2 H3 ys (Nx : Hp → List V → Prop), (∀ H ys, Pv (i + 1) H ys → Nx H ys) → i < N → zs.length = n → J.yld i H2 x H3 → Pv i H2 ys → H2 D = some (.lst ys) → g x zs H3 fun σ4 H4 => tt σ4 H4 fun b H5 =>
      if b = true then te σ4 H5 (fun v H6 => H6 D = some (.lst ys) ∧ ys.length < sizeLine ∧ Nx (upd H6 D (.lst (ys ++ [v]))) (ys ++ [v])) else H5 D = some (.lst ys) ∧ Nx H5 ys)
    (hd : ∀ H ys, Pv N H ys → H D = some (.lst ys) → Q (.ref D) H) :
    ∃ W : Nat → Nat → Hp → List V → Prop, (∃ m, W 0 m (upd H D (.lst [])) []) ∧ ∀ i m H2 ys, W i m H2 ys → H2 D = some (.lst ys) → (J.stop i H2 ∧ Q (.ref D) H2) ∨
      (J.go i H2 ∧ ∀ σB x H3, σB.length = n → J.yld i H2 x H3 → g x σB H3 fun σ4 H4 => tt σ4 H4 fun b H5 => if b = true then te σ4 H5 (fun v H6 => H6 D = some (.lst ys) ∧ ys.length < sizeLine ∧ ∃ m', m' < m ∧ W (i + 1) m' (upd H6 D (.lst (ys ++ [v]))) (ys ++ [v]))
        else H5 D = some (.lst ys) ∧ ∃ m', m' < m ∧ W (i + 1) m' H5 ys) := by
  refine ⟨fun i m H ys => m = N - i ∧ i ≤ N ∧ Pv i H ys, ⟨N, by simp, Nat.zero_le _, h0⟩, ?_⟩
  rintro i m H2 ys ⟨rfl, hi, p⟩ hD
  by_cases hlt : i < N
  · exact .inr ⟨hgo i H2 ys hlt p, fun σB x H3 hB y => hs i x σB H2 H3 ys (fun H' ys' => ∃ m', m' < N - i ∧ (m' = N - (i + 1) ∧ i + 1 ≤ N ∧ Pv (i + 1) H' ys')) (fun H' ys' z => ⟨N - (i + 1), by omega, rfl, hlt, z⟩) hlt hB y p hD⟩
  · obtain rfl : i = N := by omega
    exact .inl ⟨hst H2 ys p, hd H2 ys p hD⟩
theorem compC_by (Pv : Nat → Hp → List V → Prop) (h0 : Pv 0 (upd H D (.lst [])) []) (hgo : ∀ i H ys, i < N → Pv i H ys → J.go i H) (hst : ∀ H ys, Pv N H ys → J.stop N H)
    (hs : ∀ i x zs H2 H3 ys (Nx : Hp → List V → Prop), (∀ H ys, Pv (i + 1) H ys → Nx H ys) → i < N → zs.length = n → J.yld i H2 x H3 → Pv i H2 ys → H2 D = some (.lst ys) → g x (zs ++ caps σ js) H3 fun σ4 H4 => σ4.drop n = caps σ js ∧ tt σ4 H4 fun b H5 =>
      if b = true then te σ4 H5 (fun v H6 => H6 D = some (.lst ys) ∧ ys.length < sizeLine ∧ Nx (upd H6 D (.lst (ys ++ [v]))) (ys ++ [v])) else H5 D = some (.lst ys) ∧ Nx H5 ys)
    (hd : ∀ H ys, Pv N H ys → H D = some (.lst ys) → Q (.ref D) H) :
    ∃ W : Nat → Nat → Hp → List V → Prop, (∃ m, W 0 m (upd H D (.lst [])) []) ∧ ∀ i m H2 ys, W i m H2 ys → H2 D = some (.lst ys) → (J.stop i H2 ∧ Q (.ref D) H2) ∨
      (J.go i H2 ∧ ∀ zs x H3, zs.length = n → J.yld i H2 x H3 → g x (zs ++ caps σ js) H3 fun σ4 H4 => σ4.drop n = caps σ js ∧ tt σ4 H4 fun b H5 => if b = true then te σ4 H5 (fun v H6 => H6 D = some (.lst ys) ∧ ys.length < sizeLine ∧ ∃ m', m' < m ∧ W (i + 1) m' (upd H6 D (.lst (ys ++ [v]))) (ys ++ [v]))
        else H5 D = some (.lst ys) ∧ ∃ m', m' < m ∧ W (i + 1) m' H5 ys) := by
  refine ⟨fun i m H ys => m = N - i ∧ i ≤ N ∧ Pv i H ys, ⟨N, by simp, Nat.zero_le _, h0⟩, ?_⟩
  rintro i m H2 ys ⟨rfl, hi, p⟩ hD
  by_cases hlt : i < N
  · exact .inr ⟨hgo i H2 ys hlt p, fun σB x H3 hB y => hs i x σB H2 H3 ys (fun H' ys' => ∃ m', m' < N - i ∧ (m' = N - (i + 1) ∧ i + 1 ≤ N ∧ Pv (i + 1) H' ys')) (fun H' ys' z => ⟨N - (i + 1), by omega, rfl, hlt, z⟩) hlt hB y p hD⟩
  · obtain rfl : i = N := by omega
    exact .inl ⟨hst H2 ys p, hd H2 ys p hD⟩
end
theorem same_mk {H H2 H3 : Hp} {D : Addr} {o : HO} (hD : H D = none) (e : Same H H2) (e2 : Same H2 H3) : Same H (upd H3 D o) := fun b u z => by rw [upd_ne (ne_of_none z hD)]; exact e2 _ _ (e _ _ z)
end L2
set_option Elab.async false
set_option linter.all false
set_option maxRecDepth 100000
namespace L2
open PySem PySem.Spec PyProof.Rows
section
variable {prog : Program} {w : World} {A : Around} {E : Value → Shared → Prop} {s : Shared}
theorem cat_tup0 {t b : Addr} {ws : List Value} {Q : Value → Shared → Prop} (ht : IsTup s.heap t ([] : List Value).toArray) (hb : IsTup s.heap b ws.toArray) (h0 : Q (.ref b) s) : wpAny (model prog w) A (binaryOp .Add (.ref t) (.ref b)) Q E s := by
  obtain ⟨⟨cls, dd, data, sl⟩, ho, hc, n, hd⟩ := id ht
  obtain ⟨⟨cls2, dd2, data2, sl2⟩, ho2, hc2, n2, hd2⟩ := id hb
  simp only at hc hd hc2 hd2
  subst hc hd hc2 hd2
  exact concat_meets ⟨_, ho, rfl⟩ ⟨_, ho2, rfl⟩ noFill_tuple_add seq_tuple_add PySem.F.slot_tuple_add PySem.F.entry_tuple_add (PySem.F.args_tuple_add_2 _ _)
      (tuple_addW0 t b ([] : List Value).toArray ws.toArray n n2 dd dd2 sl sl2 (by simp)) ⟨ho, ho2, h0⟩
end
def rCatA (K : PySem.W.Frag) : R2 := fun x y H Q => ∃ a b xs ys, x = .ref a ∧ y = .ref b ∧ SqT K H a xs ∧ SqT K H b ys ∧ xs.length + ys.length ≤ sizeLine ∧ (xs = [] → Q (.ref b) H) ∧
  (xs ≠ [] → ys = [] → Q (.ref a) H) ∧ (xs ≠ [] → ys ≠ [] → ∀ p, H p = none → Q (.ref p) (upd H p (.tup (xs ++ ys))))
theorem op_catA {X : Cx} : OpR X (binaryOp .Add) (rCatA X.K) := by
  intro pins s σ H x y v u Q I rx ry h
  have h' := h
  obtain ⟨a, b, xs, ys, rfl, rfl, ha, hb, hz, q0, q1, q2⟩ := h'
  by_cases hx : xs = []
  · cases rx
    cases ry
    obtain ⟨its, r1, p1, _⟩ := I.tuple ha
    obtain ⟨its2, r2, p2, _⟩ := I.tuple hb
    subst hx
    cases r1
    exact cat_tup0 p1 p2 ⟨.ref b, H, I, rfl, q0 rfl⟩
  · exact op_catT pins s σ H _ _ v u Q I rx ry ⟨a, b, xs, ys, rfl, rfl, ha, hb, hx, hz, q1 hx, q2 hx⟩
end L2
set_option Elab.async false
set_option linter.all false
set_option maxRecDepth 100000
namespace L2
open PySem PySem.Spec PyProof.Rows
mutual
theorem RdD.same {H H' : Hp} (e : Same H H') : ∀ {v : V} {d : PyData}, RdD H v d → RdD H' v d
  | _, _, .non => .non
  | _, _, .bl b => .bl b
  | _, _, .int i => .int i
  | _, _, .str x => .str x
  | _, _, .tup h r => .tup (e _ _ h) (RdDs.same e r)
  | _, _, .lst h r => .lst (e _ _ h) (RdDs.same e r)
theorem RdDs.same {H H' : Hp} (e : Same H H') : ∀ {vs : List V} {ds : List PyData}, RdDs H vs ds → RdDs H' vs ds
  | _, _, .nil => .nil
  | _, _, .cons h t => .cons (RdD.same e h) (RdDs.same e t)
end
theorem RdDs.len {H : Hp} : ∀ {xs : List V} {ds : List PyData}, RdDs H xs ds → xs.length = ds.length
  | _, _, .nil => rfl
  | _, _, .cons _ t => by rw [List.length_cons, List.length_cons, RdDs.len t]
theorem RdDs.drop {H : Hp} : ∀ {xs : List V} {ds : List PyData} (n : Nat), RdDs H xs ds → RdDs H (xs.drop n) (ds.drop n)
  | _, _, 0, h => h
  | _, _, _ + 1, .nil => .nil
  | _, _, n + 1, .cons _ t => RdDs.drop n t
theorem RdDs.take {H : Hp} : ∀ {xs : List V} {ds : List PyData} (n : Nat), RdDs H xs ds → RdDs H (xs.take n) (ds.take n)
  | _, _, 0, _ => .nil
  | _, _, _ + 1, .nil => .nil
  | _, _, n + 1, .cons h t => .cons h (RdDs.take n t)
theorem RdDs.get {H : Hp} : ∀ {xs : List V} {ds : List PyData} {i : Nat} {d : PyData}, RdDs H xs ds → ds[i]? = some d → ∃ x, xs[i]? = some x ∧ RdD H x d
  | _, _, _, _, .nil, e => by simp at e
  | _, _, 0, _, .cons h _, e => by simp at e; subst e; exact ⟨_, rfl, h⟩
  | _, _, i + 1, _, .cons _ t, e => by
    obtain ⟨x, h1, h2⟩ := RdDs.get t (i := i) (by simpa using e)
    exact ⟨x, by simpa using h1, h2⟩
theorem RdDs.at {H : Hp} {xs : List V} {ds : List PyData} {i : Int} {d : PyData} (h : RdDs H xs ds) (e : atI ds i = some d) : ∃ x, atI xs i = some x ∧ RdD H x d := by
  unfold atI at e ⊢
  rw [h.len]
  cases hj : ixN ds.length i with
  | none => rw [hj] at e; cases e
  | some j =>
    rw [hj] at e
    exact h.get e
def del (N : List Addr) (H : Hp) : Hp := fun a => if a ∈ N then none else H a
theorem del_some {N : List Addr} {H : Hp} {a : Addr} {o : HO} (h : del N H a = some o) : H a = some o ∧ a ∉ N := by
  unfold del at h
  split at h
  · cases h
  · exact ⟨h, ‹_›⟩
theorem del_of {N : List Addr} {H : Hp} {a : Addr} {o : HO} (h : H a = some o) (n : a ∉ N) : del N H a = some o := by unfold del; rw [if_neg n]; exact h
def Ls (N : List Addr) (H : Hp) : Prop := ∀ a ∈ N, ∃ xs, H a = some (.lst xs)
theorem Ls.nil {H : Hp} : Ls [] H := fun _ m => by cases m
theorem Ls.same {N : List Addr} {H H' : Hp} (h : Ls N H) (e : Same H H') : Ls N H' := fun a m => let ⟨xs, z⟩ := h a m; ⟨xs, e _ _ z⟩
theorem Ls.ntup {N : List Addr} {H : Hp} {a : Addr} {xs : List V} (h : Ls N H) (e : H a = some (.tup xs)) : a ∉ N := fun m => by
  obtain ⟨ys, z⟩ := h a m; rw [e] at z; cases z
theorem same_del {N : List Addr} {H H' : Hp} (e : Same H H') : Same (del N H) (del N H') := fun b o z => del_of (e _ _ (del_some z).1) (del_some z).2
theorem del_sub {N : List Addr} {H : Hp} : Same (del N H) H := fun b o z => (del_some z).1
structure At (N : List Addr) (H0 H1 : Hp) : Prop where
  s : Same H0 (del N H1)
  l : Ls N H1
theorem At.go {N : List Addr} {H0 H1 H2 : Hp} (h : At N H0 H1) (e : Same H1 H2) : At N H0 H2 := ⟨h.s.trans (same_del e), h.l.same e⟩
def Dt (N : List Addr) (t : TE) (σ : St) (H : Hp) (d : PyData) : Prop := ∀ H1, At N H H1 → ∀ Q : VK, (∀ v H2, Same H1 H2 → RdD (del N H2) v d → Q v H2) → t σ H1 Q
def Da (N : List Addr) (t : TA) (σ : St) (H : Hp) (ds : List PyData) : Prop := ∀ H1, At N H H1 → ∀ Q : List V → Hp → Prop, (∀ vs H2, Same H1 H2 → RdDs (del N H2) vs ds → Q vs H2) → t σ H1 Q
section
variable {N : List Addr} {σ : St} {H : Hp} {K : PySem.W.Frag}
end
def rD (x : Rat) : PyData := .tuple [.int x.num, .int (x.den : Int)]
theorem rat_rd {H : Hp} {p : Addr} {x : Rat} (h : RatAt H p x) : RdD H (.ref p) (rD x) := h.rd
end L2
set_option Elab.async false
set_option linter.all false
set_option maxRecDepth 100000
namespace L2
open PySem PySem.Spec PyProof.Rows
theorem szl {n : Nat} (h : n ≤ 1000) : n ≤ sizeLine := Nat.le_of_lt (small1000 h)
structure FS (H0 H1 : Hp) (l : Addr) (ds : List PyData) : Prop where
  at_ : At [l] H0 H1
  ex : ∃ xs, H1 l = some (.lst xs) ∧ RdDs (del [l] H1) xs ds
theorem FS.rd {H0 H1 : Hp} {l : Addr} {ds : List PyData} (f : FS H0 H1 l ds) : RdD H1 (.ref l) (.list ds) := by
  obtain ⟨xs, h, r⟩ := f.ex
  exact .lst h (r.same del_sub)
theorem FS.sm {H0 H1 : Hp} {l : Addr} {ds : List PyData} (f : FS H0 H1 l ds) : Same H0 H1 := f.at_.s.trans del_sub
theorem FS.go {H0 H1 H2 : Hp} {l : Addr} {ds : List PyData} (f : FS H0 H1 l ds) (e : Same H1 H2) : FS H0 H2 l ds := by
  obtain ⟨xs, h, r⟩ := f.ex
  exact ⟨f.at_.go e, xs, e _ _ h, r.same (same_del e)⟩
section
variable {N : List Addr} {σ : St} {H0 : Hp} {K : PySem.W.Frag}
end
end L2
set_option Elab.async false
set_option linter.all false
set_option maxRecDepth 100000
namespace L2
open PySem PySem.Spec PyProof.Rows
inductive Bx (p : Prop) : Prop
  | mk (h : p) : Bx p
section
variable {X : Cx}
theorem bx_nil : Bx (PA X [] tNil) := ⟨pa_nil⟩
theorem bx_cons {e : Expr} {es : List Expr} {te : TE} {t : TA} (ha : Bx (PE X e te)) (hr : Bx (PA X es t)) (hs : starEach (e :: es) X.env = (false, eval e X.env) :: starEach es X.env := by rfl) : Bx (PA X (e :: es) (tCons te t)) := by
  obtain ⟨ha⟩ := ha; obtain ⟨hr⟩ := hr; exact ⟨pa_cons ha hr hs⟩
theorem bx_lst {es : List Expr} {t : TA} {pos : Pos} (h : Bx (PA X es t)) : Bx (PE X (.List es pos) (tLst t)) := by
  obtain ⟨h⟩ := h; exact ⟨pe_lst h⟩
theorem bx_set {i : Nat} {x : Str} {e : Expr} {te : TE} {pos pos' : Pos} (hN : X.N.Nodup) (hi : X.N[i]? = some x) (hx : Loc X.env.scope x) (he : Bx (PE X e te)) (hs : swapsWith e (some (.Name x pos')) pos.line X.env = pure false := by rfl)
    (hf : X.fn x = true ∨ X.env.scope.names.lookup x = some .local := by first | exact .inl rfl | exact .inr rfl | assumption) : Bx (PS X (.Assign [.Name x pos'] e pos) (tAsg te (gName i))) := by
  obtain ⟨he⟩ := he; exact ⟨ps_set hN hi hx he hs hf⟩
theorem bx_scons {st : Stmt} {rest : List Stmt} {t u : TS} (h1 : Bx (PS X st t)) (h2 : Bx (PSs X rest u)) : Bx (PSs X (st :: rest) (tSeq t u)) := by
  obtain ⟨h1⟩ := h1; obtain ⟨h2⟩ := h2; exact ⟨pss_cons h1 h2⟩
end
section
variable {P : Program} {w : World} {K : PySem.W.Frag} {mg : Str → Option Value} {base : Heap}
theorem Df.calB {x : Str} {st : Stmt} {N ps : List Str} {dvs : List V} {k : Nat} {sp : Sp} (D : Df K mg x st ps dvs) (S : FnScope N ps (defScope st)) (len : ∀ vs H Q E, sp vs H Q E → vs.length = ps.length)
    (hbody : ∀ (f : Addr) (cdv : Value) (A : Around) (outer : List Env) (s : Shared) (H : Hp) (vs : List V) (Q : VK) (E : XK), Room k (A.deeper (envOfC x (defScope st) s.heap.objs.size f cdv)) → sp vs H Q E →
      ∃ t, Bx (PSs (cxOf CX0 P w K mg base N x (defScope st) f cdv A outer s H E).nox (defBody st) t) ∧ t { nx := fun _ H' => Q .non H', rt := Q } (start N vs) H) : Cal P w K mg base x (k + 1) ps dvs sp :=
  D.cal S len fun f cdv A outer s H vs Q E hr h => by
    obtain ⟨t, ⟨p⟩, q⟩ := hbody f cdv A outer s H vs Q E hr h
    exact ⟨t, p, q⟩
end
end L2
set_option Elab.async false
set_option linter.all false
set_option maxRecDepth 100000
namespace L2
open PySem PySem.Spec PyProof.Rows

abbrev vMro : List Value := [.type "ValueError", .type "Exception", .type "BaseException", .type "object"]
section
variable {prog : Program} {w : World} {A : Around} {E : Value → Shared → Prop} {h : Heap} {g : Array GenState} {d : Drawn} {t : Nat} {os : OsState}
variable {nm qn : Str} {C N : Addr} {bs bm : List Value} {hd : Bool} {sn : List Str} {sub : List Value} {ab : Bool} {col : Option Bool} {dd : Option Addr} {k0 k1 k2 k3 k5 : Option Value}
end
end L2
set_option Elab.async false
set_option linter.all false
set_option maxRecDepth 100000
namespace L2
open PySem PySem.Spec PyProof.Rows PySem.W

section
variable {P : Program} {w : World} {H : Hp} {h h2 : Heap} {a : Addr} {o : HO}
end
section
variable {X : Cx} {pins : List (Addr × Obj)} {σ : St} {H : Hp} {s : Shared} {h2 : Heap}
end

section
variable {X : Cx} {x : Str} {C : Addr} {p pos : Pos} {e : Expr} {es : List Expr} {t : TA}
end

section
variable {X : Cx}
end
end L2
set_option Elab.async false
set_option linter.all false
set_option maxRecDepth 100000
namespace L2
open PySem PySem.Spec PyProof.Rows
def TupS (H H' : Hp) : Prop := ∀ b xs, H b = some (.tup xs) → H' b = some (.tup xs)
theorem TupS.of {H H' : Hp} (h : Same H H') : TupS H H' := fun b xs e => h b _ e
theorem TupS.trans {H H1 H2 : Hp} (a : TupS H H1) (b : TupS H1 H2) : TupS H H2 := fun c xs e => b c xs (a c xs e)
theorem TupS.upd {H : Hp} {D : Addr} {ys : List V} {o : HO} (h : H D = some (.lst ys)) : TupS H (upd H D o) := fun b xs e => by rw [upd_ne (fun z => by subst z; rw [h] at e; cases e)]; exact e
structure Runs (J : It) (H : Hp) (xs : List V) : Prop where
  go : ∀ i H', i < xs.length → Same H H' → J.go i H'
  stop : ∀ H', Same H H' → J.stop xs.length H'
  yld : ∀ i x H2 H3, Same H H2 → J.yld i H2 x H3 → H3 = H2 ∧ xs[i]? = some x
theorem runs_list {K : PySem.W.Frag} {H : Hp} {a : Addr} {xs : List V} (h : H a = some (.lst xs)) : Runs (Itl K a) H xs :=
  ⟨fun i H' hi s => ⟨xs, xs[i], .of (s _ _ h), by simp [hi]⟩, fun H' s => ⟨xs, .of (s _ _ h), Nat.le_refl _⟩, fun i x H2 H3 s y => ⟨y.1, y.2 xs (.of (s _ _ h))⟩⟩
theorem runs_tup {K : PySem.W.Frag} {H : Hp} {a : Addr} {xs : List V} (h : H a = some (.tup xs)) : Runs (Itt K a) H xs :=
  ⟨fun i H' hi s => ⟨xs, xs[i], .of (s _ _ h), by simp [hi]⟩, fun H' s => ⟨xs, .of (s _ _ h), Nat.le_refl _⟩, fun i x H2 H3 s y => ⟨y.1, y.2 xs (.of (s _ _ h))⟩⟩
section
variable {J : It} {D : Addr} {n : Nat} {js : List Nat} {σ : St} {g : TG} {te : TE} {Z : Hp → Prop} {H : Hp} {xs : List V}
theorem comp_each (R : Nat → V → Hp → Prop) (hR : ∀ i v H H', TupS H H' → R i v H → R i v H') (hD : H D = none) (hJ : Runs J H xs) (hl : xs.length < sizeLine)
    (hs : ∀ i x zs H2 Q', xs[i]? = some x → zs.length = n → Same H H2 → (∀ v H6, Same H2 H6 → R i v H6 → Q' v H6) → g x zs H2 fun σ4 H4 => te σ4 H4 Q')
    (k : ∀ ys H', Same H H' → H' D = some (.lst ys) → ys.length = xs.length → (∀ i v, ys[i]? = some v → R i v H') → Z H') :
    ∃ W : Nat → Nat → Hp → List V → Prop, (∃ m, W 0 m (upd H D (.lst [])) []) ∧ ∀ i m H2 ys, W i m H2 ys → H2 D = some (.lst ys) → (J.stop i H2 ∧ Z H2) ∨
      (J.go i H2 ∧ ∀ σB x H3, σB.length = n → J.yld i H2 x H3 → g x σB H3 fun σ4 H4 => (fun _ H Q => Q true H : TT) σ4 H4 fun b H5 => if b = true then te σ4 H5 (fun v H6 => H6 D = some (.lst ys) ∧ ys.length < sizeLine ∧ ∃ m', m' < m ∧ W (i + 1) m' (upd H6 D (.lst (ys ++ [v]))) (ys ++ [v]))
        else H5 D = some (.lst ys) ∧ ∃ m', m' < m ∧ W (i + 1) m' H5 ys) := by
  refine comp_by (Q := fun _ H => Z H) (tt := fun _ H Q => Q true H) (N := xs.length) (fun i H2 ys => Same H H2 ∧ ys.length = i ∧ ∀ j v, ys[j]? = some v → R j v H2) ⟨Same.upd hD, rfl, fun j v e => by simp at e⟩ (fun i H2 ys hi p => hJ.go i H2 hi p.1) (fun H2 ys p => hJ.stop H2 p.1) ?_ (fun H2 ys p e => k ys H2 p.1 e p.2.1 p.2.2)
  rintro i x zs H2 H3 ys Nx hN hi hz hy ⟨s2, hyl, hyR⟩ hD2
  obtain ⟨rfl, hx⟩ := hJ.yld i x H2 H3 s2 hy
  refine hs i x zs H3 _ hx hz s2 fun v H6 s6 r6 => ⟨s6 _ _ hD2, by omega, hN _ _ ⟨fun c o e => ?_, by simp [hyl], fun j u e => ?_⟩⟩
  · rw [upd_ne (ne_of_none e hD)]; exact s6 _ _ (s2 _ _ e)
  · have T6 : TupS H6 (upd H6 D (.lst (ys ++ [v]))) := .upd (s6 _ _ hD2)
    by_cases hj : j < ys.length
    · rw [List.getElem?_append_left hj] at e
      exact hR _ _ _ _ ((TupS.of s6).trans T6) (hyR j u e)
    · rw [List.getElem?_append_right (by omega)] at e
      have : j - ys.length = 0 := by
        rcases Nat.eq_zero_or_pos (j - ys.length) with z | z
        · exact z
        · rw [List.getElem?_eq_none (by simp; omega)] at e; cases e
      rw [this] at e
      simp at e
      subst e
      rw [show j = i by omega]
      exact hR _ _ _ _ T6 r6
theorem compC_each (R : Nat → V → Hp → Prop) (hR : ∀ i v H H', TupS H H' → R i v H → R i v H') (hD : H D = none) (hJ : Runs J H xs) (hl : xs.length < sizeLine)
    (hs : ∀ i x zs H2 Q', xs[i]? = some x → zs.length = n → Same H H2 → (∀ v H6, Same H2 H6 → R i v H6 → Q' v H6) → g x (zs ++ caps σ js) H2 fun σ4 H4 => σ4.drop n = caps σ js ∧ te σ4 H4 Q')
    (k : ∀ ys H', Same H H' → H' D = some (.lst ys) → ys.length = xs.length → (∀ i v, ys[i]? = some v → R i v H') → Z H') :
    ∃ W : Nat → Nat → Hp → List V → Prop, (∃ m, W 0 m (upd H D (.lst [])) []) ∧ ∀ i m H2 ys, W i m H2 ys → H2 D = some (.lst ys) → (J.stop i H2 ∧ Z H2) ∨
      (J.go i H2 ∧ ∀ zs x H3, zs.length = n → J.yld i H2 x H3 → g x (zs ++ caps σ js) H3 fun σ4 H4 => σ4.drop n = caps σ js ∧ (fun _ H Q => Q true H : TT) σ4 H4 fun b H5 => if b = true then te σ4 H5 (fun v H6 => H6 D = some (.lst ys) ∧ ys.length < sizeLine ∧ ∃ m', m' < m ∧ W (i + 1) m' (upd H6 D (.lst (ys ++ [v]))) (ys ++ [v]))
        else H5 D = some (.lst ys) ∧ ∃ m', m' < m ∧ W (i + 1) m' H5 ys) := by
  refine compC_by (Q := fun _ H => Z H) (tt := fun _ H Q => Q true H) (N := xs.length) (fun i H2 ys => Same H H2 ∧ ys.length = i ∧ ∀ j v, ys[j]? = some v → R j v H2) ⟨Same.upd hD, rfl, fun j v e => by simp at e⟩ (fun i H2 ys hi p => hJ.go i H2 hi p.1) (fun H2 ys p => hJ.stop H2 p.1) ?_ (fun H2 ys p e => k ys H2 p.1 e p.2.1 p.2.2)
  rintro i x zs H2 H3 ys Nx hN hi hz hy ⟨s2, hyl, hyR⟩ hD2
  obtain ⟨rfl, hx⟩ := hJ.yld i x H2 H3 s2 hy
  refine hs i x zs H3 _ hx hz s2 fun v H6 s6 r6 => ⟨s6 _ _ hD2, by omega, hN _ _ ⟨fun c o e => ?_, by simp [hyl], fun j u e => ?_⟩⟩
  · rw [upd_ne (ne_of_none e hD)]; exact s6 _ _ (s2 _ _ e)
  · have T6 : TupS H6 (upd H6 D (.lst (ys ++ [v]))) := .upd (s6 _ _ hD2)
    by_cases hj : j < ys.length
    · rw [List.getElem?_append_left hj] at e
      exact hR _ _ _ _ ((TupS.of s6).trans T6) (hyR j u e)
    · rw [List.getElem?_append_right (by omega)] at e
      have : j - ys.length = 0 := by
        rcases Nat.eq_zero_or_pos (j - ys.length) with z | z
        · exact z
        · rw [List.getElem?_eq_none (by simp; omega)] at e; cases e
      rw [this] at e
      simp at e
      subst e
      rw [show j = i by omega]
      exact hR _ _ _ _ T6 r6
end
end L2
namespace L2
open PySem PySem.Spec PyProof.Rows
section
variable {J : It} {D : Addr} {n : Nat} {σ : St} {g : TG} {tt : TT} {te : TE} {Z : Hp → Prop} {H : Hp} {xs : List V}
theorem comp_sel (p : V → Bool) (hD : H D = none) (hJ : Runs J H xs) (hl : xs.length < sizeLine)
    (hs : ∀ (i : Nat) (x : V) (zs : St) (H2 : Hp) (A : VK) (B : Hp → Prop), xs[i]? = some x → zs.length = n → Same H H2 → (p x = true → A x H2) → (p x = false → B H2) → g x zs H2 fun σ4 H4 => tt σ4 H4 fun b H5 => if b = true then te σ4 H5 A else B H5)
    (k : ∀ H', Same H H' → H' D = some (.lst (xs.filter p)) → Z H') :
    ∃ W : Nat → Nat → Hp → List V → Prop, (∃ m, W 0 m (upd H D (.lst [])) []) ∧ ∀ i m H2 ys, W i m H2 ys → H2 D = some (.lst ys) → (J.stop i H2 ∧ Z H2) ∨
      (J.go i H2 ∧ ∀ σB x H3, σB.length = n → J.yld i H2 x H3 → g x σB H3 fun σ4 H4 => tt σ4 H4 fun b H5 => if b = true then te σ4 H5 (fun v H6 => H6 D = some (.lst ys) ∧ ys.length < sizeLine ∧ ∃ m', m' < m ∧ W (i + 1) m' (upd H6 D (.lst (ys ++ [v]))) (ys ++ [v]))
        else H5 D = some (.lst ys) ∧ ∃ m', m' < m ∧ W (i + 1) m' H5 ys) := by
  refine comp_by (Q := fun _ H => Z H) (tt := tt) (N := xs.length) (fun i H2 ys => Same H H2 ∧ ys = (xs.take i).filter p) ⟨Same.upd hD, rfl⟩ (fun i H2 ys hi p => hJ.go i H2 hi p.1) (fun H2 ys p => hJ.stop H2 p.1) ?_ (fun H2 ys q e => k H2 q.1 (by rw [e, q.2, List.take_length]))
  rintro i x zs H2 H3 ys Nx hN hi hz hy ⟨s2, rfl⟩ hD2
  obtain ⟨rfl, hx⟩ := hJ.yld i x H2 H3 s2 hy
  have et : xs.take (i + 1) = xs.take i ++ [x] := by rw [List.take_add_one, hx]; rfl
  refine hs i x zs H3 _ _ hx hz s2 (fun hp => ⟨hD2, ?_, hN _ _ ⟨fun c o e => ?_, ?_⟩⟩) (fun hp => ⟨hD2, hN _ _ ⟨s2, ?_⟩⟩)
  · have := List.length_filter_le p (xs.take i)
    have := List.length_take_le i xs
    omega
  · rw [upd_ne (ne_of_none e hD)]; exact s2 _ _ e
  · rw [et, List.filter_append]; simp [hp]
  · rw [et, List.filter_append]; simp [hp]
end
end L2
set_option Elab.async false
set_option linter.all false
set_option maxRecDepth 100000
namespace L2
open PySem PySem.Spec PyProof.Rows
section
variable {prog : Program} {w : World} {A : Around} {E : Value → Shared → Prop} {s : Shared}
structure ZTL (z TI TO j1 j2 t1 t2 : Addr) (f0 : Value) (i1 i2 : Nat) (h : Heap) : Prop where
  z : IsZip h z TI TO f0
  ti : IsPair h TI (.ref j1) (.ref j2)
  to : ∃ a b, IsPair h TO a b
  i1 : h.IsListIter j1 t1 i1
  i2 : h.IsListIter j2 t2 i2
section
variable {z TI TO j1 j2 t1 t2 : Addr} {i : Nat} {xs ys : Array Value}
end
end

section
variable {X : Cx}
end
end L2
set_option Elab.async false
set_option linter.all false
set_option maxRecDepth 100000
namespace L2
open PySem PySem.Spec PyProof.Rows
def Ite (K : PySem.W.Frag) (l : Addr) : It :=
  ⟨fun i H => ∃ xs x, SqL K H l xs ∧ xs[i]? = some x,
   fun i H v H' => ∃ T x, v = .ref T ∧ H T = none ∧ H' = upd H T (.tup [.int i, x]) ∧ ∀ xs, SqL K H l xs → xs[i]? = some x,
   fun i H => ∃ xs, SqL K H l xs ∧ xs.length ≤ i⟩
theorem turn_enum {P : Program} {w : World} {K : PySem.W.Frag} {elts : List Expr} {kc : Nat} {tp : Pos} (e it l : Addr) (hne : e ≠ it) :
    Turn P w K (.Tuple elts kc tp) (Ite K l) [e, it] e (fun i h => (∃ old, IsEnum h e it (i : Int) old) ∧ h.IsListIter it l i) where
  mem := by simp
  obj := fun i h st b hb => by
    obtain ⟨⟨old, Z⟩, o1, e1, _, d1⟩ := st
    simp only [List.mem_cons, List.not_mem_nil, or_false] at hb
    rcases hb with rfl | rfl
    · exact ⟨_, Z, fun _ r => by cases r⟩
    · exact ⟨_, e1, fun _ r => by rw [d1] at r; cases r⟩
  keep := fun i h h' st k => by
    obtain ⟨⟨old, Z⟩, Z1⟩ := st
    exact ⟨⟨old, k e (by simp) _ Z⟩, Z1.at fun o q => k it (by simp) o q⟩
  item := by
    intro X hP hw hK hc i pins s σ H E I hf st hg
    subst hP hw hK
    obtain ⟨xs, x, h1, ex⟩ := hg
    obtain ⟨us, r1, p1, _⟩ := I.list h1
    obtain ⟨ux, eu, rx⟩ := r1.get ex
    obtain ⟨⟨old, Z⟩, Z1⟩ := st
    refine wpAny_pyNext_enum_item Z Z1 p1.isList (x := ux) (by simpa using eu) hne fun h' Zo Zi pr sz kk => ⟨_, rfl, ?_⟩
    refine wpAny_letOwnedTupleGo_enum (s := { s with heap := h', toks := s.toks + 1 }) Zo fun h2' Zz' sb => ?_
    replace sb : Heap.SameBut e h' h2' := sb
    have hTz : s.heap.objs.size ≠ e := Nat.ne_of_gt (Heap.lt_size Z)
    have kk2 : ∀ c o, c ≠ e → c ≠ it → s.heap.get? c = some o → h2'.get? c = some o := fun c o c1 c2 q => (sb.2 c c1).trans (kk c o c1 c2 q)
    have prT : h2'.get? s.heap.objs.size = some { cls := .type "tuple", data := .seq #[.int i s.toks, ux] } := (sb.2 _ hTz).trans pr
    have hT : H s.heap.objs.size = none := I.hok.fresh (Nat.le_refl _)
    have neC : ∀ b, b ∉ [e, it] → b ≠ e ∧ b ≠ it := fun b hb => by simpa using hb
    have trk : ∀ b u, H b = some u → b ≠ e ∧ b ≠ it := fun b u q => by
      refine ⟨?_, ?_⟩ <;> rintro rfl
      · rw [(hf b (by simp)).1] at q; cases q
      · rw [(hf b (by simp)).1] at q; cases q
    have ltT : ∀ b o, s.heap.get? b = some o → b ≠ s.heap.objs.size := fun b o q => Nat.ne_of_lt (Heap.lt_size q)
    have u : Un (frs X.stack) [e, it] H (upd H s.heap.objs.size (.tup [.int i, x])) s.heap h2' :=
      ⟨fun b o q n _ hb => by obtain ⟨c1, c2⟩ := neC b hb; exact kk2 b o c1 c2 q, fun b o q n _ hb => by obtain ⟨c1, c2⟩ := neC b hb; exact ⟨o.slots, kk2 b o c1 c2 q⟩,
        fun b o q n hb => by rw [upd_ne (ltT b o q)]; exact n, fun b o q hb => by obtain ⟨c1, c2⟩ := neC b hb; exact ⟨o, kk2 b o c1 c2 q⟩,
        fun b ws q => by rw [upd_ne (ne_of_none q hT)]; exact q, fun b o ws q => by rw [upd_ne (ne_of_none q hT)]; exact q, fun b ps q => ⟨#[], by rw [upd_ne (ne_of_none q hT), q]; simp⟩⟩
    have hok : HOk X.prog X.w (upd H s.heap.objs.size (.tup [.int i, x])) h2' := fun b ob q => by
      by_cases hb : b = s.heap.objs.size
      · subst hb
        rw [upd_same] at q; cases q
        exact ⟨by show 2 ≤ sizeLine; decide, [.int i s.toks, ux], .cons ⟨_, rfl⟩ (.cons rx .nil), _, prT, rfl, 0, rfl⟩
      · rw [upd_ne hb] at q
        refine (I.hok b ob q).stay (fun c v hc' qc => ?_) (fun c q => by rw [upd_ne (ne_of_none q hT)]; exact q) fun c ws q => by rw [upd_ne (ne_of_none q hT)]; exact q
        have : ∃ o, H c = some o := by
          rcases hc' with rfl | hc'
          · exact ⟨_, q⟩
          · exact ⟨_, hc'⟩
        obtain ⟨o, ho⟩ := this
        obtain ⟨c1, c2⟩ := trk c o ho
        exact kk2 c v c1 c2 qc
    refine ⟨.ref s.heap.objs.size, upd H s.heap.objs.size (.tup [.int i, x]), ?_, rfl, ⟨_, x, rfl, hT, rfl, fun xs' h => by rw [I.list_inj h h1]; exact ex⟩,
      ⟨⟨_, by rw [Int.natCast_add]; exact Zz'⟩, Zi.at fun o q => (sb.2 _ hne.symm).trans q⟩, fun b hb => ?_⟩
    · refine I.call' (s' := { s with heap := h2', toks := s.toks + 1 }) (ch := [e, it]) rfl u hok I.bare fun b hb => ?_
      obtain ⟨_, z1, z2, z3, z4, z5⟩ := hf b hb
      exact ⟨z3, z1, z4, z5⟩
    · obtain ⟨o, q⟩ : ∃ o, s.heap.get? b = some o := by
        obtain ⟨o1, e1, _⟩ := Z1
        simp only [List.mem_cons, List.not_mem_nil, or_false] at hb
        rcases hb with rfl | rfl
        · exact ⟨_, Z⟩
        · exact ⟨_, e1⟩
      rw [upd_ne (ltT b o q)]; exact (hf b hb).1
  done := by
    intro X hP hw hK hc i pins s σ H E I hf st hg
    subst hP hw hK
    obtain ⟨xs, h1, en⟩ := hg
    obtain ⟨us, r1, p1, _⟩ := I.list h1
    have l1 := r1.length
    obtain ⟨⟨old, Z⟩, Z1⟩ := st
    obtain ⟨f0, f1, f2, f3, f4, f5⟩ := hf it (by simp)
    exact wpAny_pyNext_enum_end (I.ok.hd hc) Z Z1 p1.isList (by simp; omega) fun h' eb => ⟨rfl, I.turned (t' := s.toks) (fun b o hb q => eb b o hb q) f0 f1 f3 f4 f5⟩
  self := fun _ _ _ _ _ st h => by obtain ⟨⟨old, Z⟩, _⟩ := st; exact wpAny_pyIter_enum Z h
end L2
set_option Elab.async false
set_option linter.all false
set_option maxRecDepth 100000
namespace L2
open PySem PySem.Spec PyProof.Rows
section
variable {prog : Program} {w : World} {A : Around} {E : Value → Shared → Prop} {s : Shared}
structure ZTM (z TI TO j1 j2 t1 t2 : Addr) (f0 : Value) (i1 i2 : Nat) (h : Heap) : Prop where
  z : IsZip h z TI TO f0
  ti : IsPair h TI (.ref j1) (.ref j2)
  to : ∃ a b, IsPair h TO a b
  i1 : h.IsListIter j1 t1 i1
  i2 : h.IsTupleIter j2 t2 i2
section
variable {z TI TO j1 j2 t1 t2 : Addr} {i : Nat} {xs ys : Array Value}
end
end

section
variable {X : Cx}
end
end L2
set_option Elab.async false
set_option linter.all false
set_option maxRecDepth 100000
namespace L2
open PySem PySem.Spec PyProof.Rows
structure RunsZ (J : It) (H : Hp) (N : Nat) (xs ys : List V) : Prop where
  go : ∀ i H', i < N → Same H H' → J.go i H'
  stop : ∀ H', Same H H' → J.stop N H'
  yld : ∀ i v H2 H3, Same H H2 → J.yld i H2 v H3 → ∃ T x y, v = .ref T ∧ H2 T = none ∧ H3 = upd H2 T (.tup [x, y]) ∧ xs[i]? = some x ∧ ys[i]? = some y
section
variable {J : It} {D : Addr} {n N : Nat} {js : List Nat} {σ : St} {g : TG} {tt : TT} {te : TE} {Z : Hp → Prop} {H : Hp} {xs ys : List V}
end
end L2
section
set_option maxHeartbeats 4000000
set_option Elab.async false
set_option linter.all false
set_option maxRecDepth 100000
namespace L2
open PySem PySem.Spec PyProof.Rows
def KIt (k : Bool) (h : Heap) (j t : Addr) (i : Nat) : Prop := match k with | true => h.IsTupleIter j t i | false => h.IsListIter j t i
def KSq (k : Bool) (h : Heap) (t : Addr) (xs : Array Value) : Prop := match k with | true => h.IsTuple t xs | false => h.IsList t xs
def SqK (k : Bool) (K : PySem.W.Frag) (H : Hp) (t : Addr) (xs : List V) : Prop := match k with | true => SqT K H t xs | false => SqL K H t xs
theorem KIt.at {k : Bool} {h h' : Heap} {j t : Addr} {i : Nat} (x : KIt k h j t i) (e : ∀ o, h.get? j = some o → h'.get? j = some o) : KIt k h' j t i := by
  cases k
  · exact Heap.IsListIter.at x e
  · exact Heap.IsTupleIter.at x e
theorem KIt.ob {k : Bool} {h : Heap} {j t : Addr} {i : Nat} (x : KIt k h j t i) : ∃ o, h.get? j = some o ∧ ∀ v, o.data ≠ .cell v := by
  cases k
  · obtain ⟨o, e, _, d⟩ := x; exact ⟨o, e, fun _ r => by rw [d] at r; cases r⟩
  · obtain ⟨o, e, _, d⟩ := x; exact ⟨o, e, fun _ r => by rw [d] at r; cases r⟩
theorem KSq.keep {k : Bool} {h h' : Heap} {t : Addr} {xs : Array Value} (x : KSq k h t xs) (e : ∀ o, h.get? t = some o → h'.get? t = some o) : KSq k h' t xs := by
  cases k
  · obtain ⟨o, ho, r⟩ := x; exact ⟨o, e _ ho, r⟩
  · obtain ⟨o, ho, r⟩ := x; exact ⟨o, e _ ho, r⟩
theorem KSq.push {k : Bool} {h : Heap} {t : Addr} {xs : Array Value} {ob : Obj} (x : KSq k h t xs) : KSq k (h.push ob) t xs := x.keep fun _ e => Heap.get?_push_of_some _ e
theorem KSq.lt {k : Bool} {h : Heap} {t : Addr} {xs : Array Value} (x : KSq k h t xs) : t < h.objs.size := by
  cases k
  · obtain ⟨o, ho, r⟩ := x; exact Heap.lt_size ho
  · obtain ⟨o, ho, r⟩ := x; exact Heap.lt_size ho
section
variable {prog : Program} {w : World} {A : Around} {E : Value → Shared → Prop} {s : Shared}
end
structure ZN2 (z TI TO j1 j2 : Addr) : Prop where
  z_TI : z ≠ TI
  z_TO : z ≠ TO
  z_j1 : z ≠ j1
  z_j2 : z ≠ j2
  TI_TO : TI ≠ TO
  TI_j1 : TI ≠ j1
  TI_j2 : TI ≠ j2
  TO_j1 : TO ≠ j1
  TO_j2 : TO ≠ j2
  j1_j2 : j1 ≠ j2
abbrev IsT2 (h : Heap) (T : Addr) (a1 a2 : Value) : Prop := h.get? T = some { cls := .type "tuple", data := .seq #[a1, a2] }
section
variable {prog : Program} {w : World} {A : Around} {E : Value → Shared → Prop} {s : Shared}
structure ZS2 (z TI TO j1 j2 t1 t2 : Addr) (k1 k2 : Bool) (f0 : Value) (i : Nat) (h : Heap) : Prop where
  z : IsZip h z TI TO f0
  ti : IsT2 h TI (.ref j1) (.ref j2)
  to : ∃ a1 a2, IsT2 h TO a1 a2
  i1 : KIt k1 h j1 t1 i
  i2 : KIt k2 h j2 t2 i
variable {z TI TO j1 j2 t1 t2 : Addr} {k1 k2 : Bool} {i : Nat} {xs1 xs2 : Array Value}
end
section
variable {X : Cx}
end
structure ZN3 (z TI TO j1 j2 j3 : Addr) : Prop where
  z_TI : z ≠ TI
  z_TO : z ≠ TO
  z_j1 : z ≠ j1
  z_j2 : z ≠ j2
  z_j3 : z ≠ j3
  TI_TO : TI ≠ TO
  TI_j1 : TI ≠ j1
  TI_j2 : TI ≠ j2
  TI_j3 : TI ≠ j3
  TO_j1 : TO ≠ j1
  TO_j2 : TO ≠ j2
  TO_j3 : TO ≠ j3
  j1_j2 : j1 ≠ j2
  j1_j3 : j1 ≠ j3
  j2_j3 : j2 ≠ j3
abbrev IsT3 (h : Heap) (T : Addr) (a1 a2 a3 : Value) : Prop := h.get? T = some { cls := .type "tuple", data := .seq #[a1, a2, a3] }
section
variable {prog : Program} {w : World} {A : Around} {E : Value → Shared → Prop} {s : Shared}
structure ZS3 (z TI TO j1 j2 j3 t1 t2 t3 : Addr) (k1 k2 k3 : Bool) (f0 : Value) (i : Nat) (h : Heap) : Prop where
  z : IsZip h z TI TO f0
  ti : IsT3 h TI (.ref j1) (.ref j2) (.ref j3)
  to : ∃ a1 a2 a3, IsT3 h TO a1 a2 a3
  i1 : KIt k1 h j1 t1 i
  i2 : KIt k2 h j2 t2 i
  i3 : KIt k3 h j3 t3 i
variable {z TI TO j1 j2 j3 t1 t2 t3 : Addr} {k1 k2 k3 : Bool} {i : Nat} {xs1 xs2 xs3 : Array Value}
end
section
variable {X : Cx}
end
def HSq (k : Bool) (H : Hp) (a : Addr) (xs : List V) : Prop := match k with | true => H a = some (.tup xs) | false => H a = some (.lst xs)
theorem HSq.sq {k : Bool} {K : PySem.W.Frag} {H : Hp} {a : Addr} {xs : List V} (h : HSq k H a xs) : SqK k K H a xs := by
  cases k
  · exact SqL.of h
  · exact SqT.of h
theorem HSq.same {k : Bool} {H H' : Hp} {a : Addr} {xs : List V} (h : HSq k H a xs) (e : Same H H') : HSq k H' a xs := by
  cases k <;> exact e _ _ h
theorem HSq.ne {k : Bool} {H : Hp} {a b : Addr} {xs : List V} (h : HSq k H a xs) (e : H b = none) : a ≠ b := fun z => by
  cases k
  · have h : H a = some (.lst xs) := h
    rw [z, e] at h; cases h
  · have h : H a = some (.tup xs) := h
    rw [z, e] at h; cases h
theorem HSq.upd {k : Bool} {H : Hp} {a l : Addr} {xs : List V} {o : HO} (h : HSq k H a xs) (n : a ≠ l) : HSq k (upd H l o) a xs := by
  cases k
  · show L2.upd H l o a = _; rw [upd_ne n]; exact h
  · show L2.upd H l o a = _; rw [upd_ne n]; exact h
end L2
end
namespace KM
theorem divInt_lt {a b d : Int} (hd : 0 < d) : Rat.divInt a d < Rat.divInt b d ↔ a < b := by
  rw [Rat.divInt_eq_div, Rat.divInt_eq_div]
  have h : (0 : Rat) < d := Rat.intCast_pos.mpr hd
  rw [Rat.div_lt_iff h, Rat.div_mul_cancel (by grind)]; exact Rat.intCast_lt_intCast
section
variable {x s : Rat}
end
section
variable {x : Rat} {f : Int}
end
end KM
section
set_option maxHeartbeats 8000000
set_option Elab.async false
set_option linter.all false
set_option maxRecDepth 100000
namespace L2
open PySem PySem.Spec PyProof.Rows
end L2
namespace L2
open PySem PySem.Spec PyProof.Rows
end L2
namespace L2
open PySem PySem.Spec PyProof.Rows
end L2
namespace L2
open PySem PySem.Spec PyProof.Rows
end L2
namespace L2
open PySem PySem.Spec PyProof.Rows
end L2
namespace L2
open PySem PySem.Spec PyProof.Rows
end L2
namespace L2
open PySem PySem.Spec PyProof.Rows
end L2
namespace L2
open PySem PySem.Spec PyProof.Rows
end L2
namespace L2
open PySem PySem.Spec PyProof.Rows
end L2
namespace L2
open PySem PySem.Spec PyProof.Rows
end L2
namespace L2
open PySem PySem.Spec PyProof.Rows
section
variable {κ : Type} [DecidableEq κ]
def valV (kvs : List (κ × V)) (k : κ) : Option V := (kvs.find? fun kv => decide (kv.1 = k)).map (·.2)
def putK (kvs : List (κ × V)) (k : κ) (v : V) : List (κ × V) :=
  if (kvs.any fun kv => decide (kv.1 = k)) = true then kvs.map (fun kv => if kv.1 = k then (kv.1, v) else kv) else kvs ++ [(k, v)]
theorem valV_pos {p : κ × V} {r : List (κ × V)} {k : κ} (e : p.1 = k) : valV (p :: r) k = some p.2 := by simp [valV, List.find?_cons, e]
theorem valV_neg {p : κ × V} {r : List (κ × V)} {k : κ} (e : ¬ p.1 = k) : valV (p :: r) k = valV r k := by simp [valV, List.find?_cons, e]
theorem valV_any (k : κ) : ∀ kvs : List (κ × V), (kvs.any fun kv => decide (kv.1 = k)) = (valV kvs k).isSome
  | [] => rfl
  | p :: r => by
    rw [List.any_cons]
    by_cases e : p.1 = k
    · simp only [valV_pos e, decide_eq_true e, Bool.true_or, Option.isSome_some]
    · rw [valV_neg e, decide_eq_false e, Bool.false_or]; exact valV_any k r
theorem length_putK (kvs : List (κ × V)) (k : κ) (v : V) : (putK kvs k v).length ≤ kvs.length + 1 := by
  unfold putK
  split
  · rw [List.length_map]; omega
  · rw [List.length_append, List.length_cons, List.length_nil]; omega
theorem RelO.isSome_eq {o : Option V} {u : Option Value} (r : RelO o u) : o.isSome = u.isSome := by
  cases o with
  | none => cases u with
    | none => rfl
    | some _ => exact (show False from r).elim
  | some _ => cases u with
    | none => exact (show False from r).elim
    | some _ => rfl
theorem KV.val {kvs : List (κ × V)} {vs : List (κ × Value)} (r : KV kvs vs) (k : κ) : RelO (valV kvs k) (valueAt vs k) := by
  unfold KV at r
  induction r with
  | nil => exact True.intro
  | @cons p q ps qs h t ih =>
    obtain ⟨h1, h2⟩ := h
    by_cases e : p.1 = k
    · have e' : q.1 = k := h1.symm.trans e
      have b : valueAt (q :: qs) k = some q.2 := by simp [valueAt, List.find?_cons, e']
      rw [valV_pos e, b]; exact h2
    · have e' : ¬ q.1 = k := fun z => e (h1.trans z)
      have b : valueAt (q :: qs) k = valueAt qs k := by simp [valueAt, List.find?_cons, e']
      rw [valV_neg e, b]; exact ih
theorem KV.any {kvs : List (κ × V)} {vs : List (κ × Value)} (r : KV kvs vs) (k : κ) : (kvs.any fun kv => decide (kv.1 = k)) = vs.any fun kv => decide (kv.1 = k) := by
  unfold KV at r
  induction r with
  | nil => rfl
  | cons h t ih => rw [List.any_cons, List.any_cons, ih, h.1]
theorem KV.repl {kvs : List (κ × V)} {vs : List (κ × Value)} (r : KV kvs vs) (k : κ) {y : V} {u : Value} (ry : RelV y u) :
    KV (kvs.map fun kv => if kv.1 = k then (kv.1, y) else kv) (vs.map fun kv => if kv.1 = k then (kv.1, u) else kv) := by
  unfold KV at r ⊢
  induction r with
  | nil => exact .nil
  | @cons p q ps qs h t ih =>
    rw [List.map_cons, List.map_cons]
    refine .cons ?_ ih
    obtain ⟨h1, h2⟩ := h
    by_cases e : p.1 = k
    · rw [if_pos e, if_pos (h1.symm.trans e)]; exact ⟨h1, ry⟩
    · rw [if_neg e, if_neg (fun z => e (h1.trans z))]; exact ⟨h1, h2⟩
theorem KV.put {kvs : List (κ × V)} {vs : List (κ × Value)} (r : KV kvs vs) (k : κ) {y : V} {u : Value} (ry : RelV y u) : KV (putK kvs k y) (stored vs k u) := by
  unfold putK stored
  rw [r.any k]
  by_cases e : (vs.any fun kv => decide (kv.1 = k)) = true
  · rw [if_pos e, if_pos e]; exact r.repl k ry
  · rw [if_neg e, if_neg e]; exact Paired.snoc r ⟨rfl, ry⟩
theorem KV.keys {kvs : List (κ × V)} {vs : List (κ × Value)} (r : KV kvs vs) : kvs.map (·.1) = vs.map (·.1) := by
  unfold KV at r
  induction r with
  | nil => rfl
  | cons h t ih => rw [List.map_cons, List.map_cons, ih, h.1]
theorem KV.length {kvs : List (κ × V)} {vs : List (κ × Value)} (r : KV kvs vs) : kvs.length = vs.length := Paired.length r
end
theorem kV_is {P : Program} {w : World} {k : Key} {u : Value} (r : RelV (kV k) u) : (mixKind P w).is k u = true := by
  cases k with
  | inl i => obtain ⟨t, e⟩ := (show ∃ t, u = Value.int i t from r); subst e; exact mixKind_int P w i t
  | inr x => obtain ⟨t, e⟩ := (show ∃ t, u = Value.str x t from r); subst e; exact mixKind_str P w x t
theorem items_are {P : Program} {w : World} : ∀ {ks : List Key} {us : List Value}, Vals (ks.map kV) us → ItemsAre (mixKind P w) ks us
  | [], _, r => by rw [List.map_nil] at r; cases r; exact .nil
  | k :: ks, _, r => by
    rw [List.map_cons] at r
    cases r with
    | cons h t => exact .cons (kV_is h) (items_are t)
abbrev KT (H : Hp) : List (List Key × V) → List (List Key × Addr × Value) → Prop := Paired fun p q => p.1 = q.1 ∧ H q.2.1 = some (.tup (p.1.map kV)) ∧ RelV p.2 q.2.2
theorem KT.val {H : Hp} {kvs : List (List Key × V)} {xs : List (List Key × Addr × Value)} (r : KT H kvs xs) (k : List Key) : RelO (valV kvs k) ((atKey xs k).map (·.2)) := by
  induction r with
  | nil => exact True.intro
  | @cons p q ps qs h t ih =>
    obtain ⟨h1, _, h2⟩ := h
    by_cases e : p.1 = k
    · have e' : q.1 = k := h1.symm.trans e
      have b : atKey (q :: qs) k = some q.2 := by simp [atKey, List.find?_cons, e']
      rw [valV_pos e, b]; exact h2
    · have e' : ¬ q.1 = k := fun z => e (h1.trans z)
      have b : atKey (q :: qs) k = atKey qs k := by simp [atKey, List.find?_cons, e']
      rw [valV_neg e, b]; exact ih
theorem KT.repl {H : Hp} {kvs : List (List Key × V)} {xs : List (List Key × Addr × Value)} (r : KT H kvs xs) (k : List Key) {y : V} {u : Value} (ry : RelV y u) :
    KT H (kvs.map fun kv => if kv.1 = k then (kv.1, y) else kv) (xs.map (putAt k u)) := by
  induction r with
  | nil => exact .nil
  | @cons p q ps qs h t ih =>
    rw [List.map_cons, List.map_cons]
    refine .cons ?_ ih
    obtain ⟨h1, h2, h3⟩ := h
    unfold putAt
    by_cases e : p.1 = k
    · rw [if_pos e, if_pos (h1.symm.trans e)]; exact ⟨h1, h2, ry⟩
    · rw [if_neg e, if_neg (fun z => e (h1.trans z))]; exact ⟨h1, h2, h3⟩
theorem KT.put {H : Hp} {kvs : List (List Key × V)} {xs : List (List Key × Addr × Value)} (r : KT H kvs xs) (k : List Key) {b : Addr} {y : V} {u : Value} (hb : H b = some (.tup (k.map kV))) (ry : RelV y u) :
    KT H (putK kvs k y) (storedH xs k b u) := by
  have e : (kvs.any fun kv => decide (kv.1 = k)) = (atKey xs k).isSome := by
    rw [valV_any, (r.val k).isSome_eq, Option.isSome_map]
  unfold putK storedH
  rw [e]
  by_cases q : (atKey xs k).isSome = true
  · rw [if_pos q, if_pos q]; exact r.repl k ry
  · rw [if_neg q, if_neg q]; exact Paired.snoc r ⟨rfl, hb, ry⟩
theorem KT.keeps {H H' : Hp} {kvs : List (List Key × V)} {xs : List (List Key × Addr × Value)} (r : KT H kvs xs) (ht : ∀ b ys, H b = some (.tup ys) → H' b = some (.tup ys)) : KT H' kvs xs :=
  Paired.mapP r fun _ _ z => ⟨z.1, ht _ _ z.2.1, z.2.2⟩
section
variable {P : Program} {w : World} {H : Hp} {h : Heap} {a : Addr}
theorem rd_of {u : HO} (ok : HOk P w H h) (e : Rd H a u) : ObjOk P w H h a u := e.ok ok
theorem dk_rd {kvs : List (Key × V)} (ok : HOk P w H h) (e : Rd H a (.dK kvs)) : kvs.length ≤ sizeLine ∧ (a == sysModules) = false ∧ ∃ vs, KV kvs vs ∧ h.DictOf (mixKind P w) a vs :=
  show ObjOk P w H h a (.dK kvs) from rd_of ok e
theorem dk_of {kvs : List (Key × V)} (ok : HOk P w H h) (e : H a = some (.dK kvs)) : kvs.length ≤ sizeLine ∧ (a == sysModules) = false ∧ ∃ vs, KV kvs vs ∧ h.DictOf (mixKind P w) a vs := dk_rd ok (.inl e)
theorem key_of {ks : List Key} (ok : HOk P w H h) (e : H a = some (.tup (ks.map kV))) : (tupleKind (mixKind P w)).is h ks a := by
  obtain ⟨_, its, r, o, h1, h2, n, h3⟩ := (show ObjOk P w H h a (.tup (ks.map kV)) from ok a _ e)
  exact ⟨o, its.toArray, n, h1, h2, h3, by simpa using items_are r⟩
theorem dt_rd {kvs : List (List Key × V)} (ok : HOk P w H h) (e : Rd H a (.dT kvs)) : kvs.length ≤ sizeLine ∧ (a == sysModules) = false ∧
    ∃ xs, KT H kvs xs ∧ h.DictOfH (tupleKind (mixKind P w)) a xs := by
  obtain ⟨z, y, xs, r, o, es, ep, h1, h2, h3, h4, h5⟩ := (show ObjOk P w H h a (.dT kvs) from rd_of ok e)
  refine ⟨z, y, xs, r, o, es, ep, h1, h2, h3, h4, fun x hx => ?_, h5⟩
  have all : ∀ {l : List (List Key × V)} {m : List (List Key × Addr × Value)}, KT H l m → ∀ x ∈ m, (tupleKind (mixKind P w)).is h x.1 x.2.1 := by
    intro l m q
    induction q with
    | nil => intro x hx; exact nomatch hx
    | @cons p q ps qs hq t ih =>
      intro x hx
      rcases List.mem_cons.mp hx with e | hx
      · subst e
        exact key_of ok (by rw [← hq.1]; exact hq.2.1)
      · exact ih x hx
  exact all r x hx
theorem dt_of {kvs : List (List Key × V)} (ok : HOk P w H h) (e : H a = some (.dT kvs)) : kvs.length ≤ sizeLine ∧ (a == sysModules) = false ∧
    ∃ xs, KT H kvs xs ∧ h.DictOfH (tupleKind (mixKind P w)) a xs := dt_rd ok (.inl e)
end
def DGet (H : Hp) (a : Addr) (y : V) (r : Option V) : Prop :=
  (∃ kvs k, Rd H a (.dK kvs) ∧ y = kV k ∧ r = valV kvs k) ∨ ∃ kvs k b, Rd H a (.dT kvs) ∧ y = .ref b ∧ H b = some (.tup (k.map kV)) ∧ r = valV kvs k
def DPut (H : Hp) (a : Addr) (y v : V) (H' : Hp) : Prop :=
  (∃ kvs k, H a = some (.dK kvs) ∧ y = kV k ∧ kvs.length < sizeLine ∧ H' = upd H a (.dK (putK kvs k v))) ∨
  ∃ kvs k b, H a = some (.dT kvs) ∧ y = .ref b ∧ H b = some (.tup (k.map kV)) ∧ kvs.length < sizeLine ∧ H' = upd H a (.dT (putK kvs k v))
theorem DGet.k {H : Hp} {a : Addr} {kvs : List (Key × V)} {k : Key} (e : H a = some (.dK kvs)) : DGet H a (kV k) (valV kvs k) := .inl ⟨kvs, k, .inl e, rfl, rfl⟩
theorem DGet.t {H : Hp} {a b : Addr} {kvs : List (List Key × V)} {k : List Key} (e : H a = some (.dT kvs)) (eb : H b = some (.tup (k.map kV))) : DGet H a (.ref b) (valV kvs k) := .inr ⟨kvs, k, b, .inl e, rfl, eb, rfl⟩
theorem DPut.k {H : Hp} {a : Addr} {kvs : List (Key × V)} {k : Key} {v : V} (e : H a = some (.dK kvs)) (hl : kvs.length < sizeLine) : DPut H a (kV k) v (upd H a (.dK (putK kvs k v))) := .inl ⟨kvs, k, e, rfl, hl, rfl⟩
theorem DPut.t {H : Hp} {a b : Addr} {kvs : List (List Key × V)} {k : List Key} {v : V} (e : H a = some (.dT kvs)) (eb : H b = some (.tup (k.map kV))) (hl : kvs.length < sizeLine) :
    DPut H a (.ref b) v (upd H a (.dT (putK kvs k v))) := .inr ⟨kvs, k, b, e, rfl, eb, hl, rfl⟩
section
variable {X : Cx} {pins : List (Addr × Obj)} {σ : St} {H : Hp} {s : Shared} {a : Addr} {y v : V} {u r : Value} {o : Option V} {A : Around} {E : Value → Shared → Prop}
theorem Inv.big (I : Inv X pins σ H s) : sysModules < s.heap.objs.size := by
  have h : mainGlobals < s.heap.objs.size := (I.mod.glob.keeps I.bk).lt
  exact Nat.lt_trans (by decide) h
theorem d_getItem {Q : Value → Shared → Prop} (hu : A.units + 1 < cLine) (I : Inv X pins σ H s) (g : DGet H a y (some v)) (ry : RelV y u) (h : ∀ w' s', Inv X pins σ H s' → RelV v w' → Q w' s') :
    wpAny (model X.prog X.w) A (getItem (.ref a) u) Q E s := by
  rcases g with ⟨kvs, k, e, ey, l⟩ | ⟨kvs, k, b, e, ey, eb, l⟩
  · subst ey
    obtain ⟨z, hd, vs, rel, dd⟩ := dk_rd I.hok e
    obtain ⟨w', hw, rw'⟩ := RelO.some_of (v := v) (o := valueAt vs k) (by rw [l]; exact rel.val k)
    exact wpAny_getItem_of (kV_is ry) dd.mapOf hw (h w' _ (I.tok _) rw')
  · subst ey
    cases (show u = Value.ref b from ry)
    obtain ⟨z, hd, xs, rel, dd⟩ := dt_rd I.hok e
    obtain ⟨w', hw, rw'⟩ := RelO.some_of (v := v) (o := (atKey xs k).map (·.2)) (by rw [l]; exact rel.val k)
    obtain ⟨p, hp, hp2⟩ := Option.map_eq_some_iff.mp hw
    refine wpAny_getItem_heap (tupleKind_room_in1 hu) (key_of I.hok eb) dd hp ?_
    rw [hp2]
    exact h w' _ (I.tok _) rw'
theorem d_write {h' : Heap} {t' : Nat} {ob : HO} (I : Inv X pins σ H s) (mu : Mut (H a)) (hs : Heap.SameBut a s.heap h') (he : ∃ q, h'.get? a = some q) (new : ObjOk X.prog X.w (upd H a ob) h' a ob) :
    Inv X pins σ (upd H a ob) { s with heap := h', toks := t' } :=
  I.write (x := a) (e := a) mu (.inl rfl) (fun b q hb z => (hs.2 b hb).trans z) he new
theorem dk_new {P : Program} {w : World} {H' : Hp} {h' : Heap} {kvs : List (Key × V)} {vs : List (Key × Value)} (z : kvs.length ≤ sizeLine) (hd : (a == sysModules) = false) (rel : KV kvs vs) (dd : h'.DictOf (mixKind P w) a vs) :
    ObjOk P w H' h' a (.dK kvs) := ⟨z, hd, vs, rel, dd⟩
theorem d_setItem {H' : Hp} {Q : Unit → Shared → Prop} (hu : A.units + 1 < cLine) (I : Inv X pins σ H s) (g : DPut H a y v H') (ry : RelV y u) (rv : RelV v r) (h : ∀ s', Inv X pins σ H' s' → Q () s') :
    wpAny (model X.prog X.w) A (setItem (.ref a) u r) Q E s := by
  rcases g with ⟨kvs, k, e, ey, l, eH⟩ | ⟨kvs, k, b, e, ey, eb, l, eH⟩
  · subst ey eH
    obtain ⟨z, hd, vs, rel, dd⟩ := dk_of I.hok e
    have hz : vs.length ≤ sizeLine := by rw [← rel.length]; exact z
    have hl : (putK kvs k v).length ≤ sizeLine := by have := length_putK kvs k v; omega
    refine wpAny_setItem_pairs (hsz := hz) (kV_is ry) dd fun h' dd' hs => h _ ?_
    have he : ∃ q, h'.get? a = some q := let ⟨q, _, _, hq, _⟩ := dd'; ⟨q, hq⟩
    exact d_write I (by rw [e]; exact True.intro) hs he (dk_new hl hd (rel.put k rv) dd')
  · subst ey eH
    cases (show u = Value.ref b from ry)
    obtain ⟨z, hd, xs, rel, dd⟩ := dt_of I.hok e
    have hz : xs.length ≤ sizeLine := by rw [← Paired.length rel]; exact z
    have hl : (putK kvs k v).length ≤ sizeLine := by have := length_putK kvs k v; omega
    refine wpAny_setItem_heap (hsz := hz) (tupleKind_room_in1 hu) (key_of I.hok eb) dd fun h' dd' hs => h _ ?_
    obtain ⟨q, es, ep, hq, h2, h3, h4, _, h5⟩ := dd'
    refine d_write I (by rw [e]; exact True.intro) hs ⟨q, hq⟩ ⟨hl, hd, _, (rel.put k eb rv).keeps fun c ys ec => ?_, q, es, ep, hq, h2, h3, h4, h5⟩
    rw [upd_ne (ne_of ec e (fun z => nomatch z))]
    exact ec
end
def NoSl (i : Expr) : Prop := ∀ ov iv, subscripted i false ov iv = operate [ov, iv] (getItem ov iv)
theorem subD_of {prog : Program} {w : World} {A : Around} {E : Value → Shared → Prop} {s : Shared} {env : Env} {value slice : Expr} {pos : Pos} {T id : String} {Q : Value → Shared → Prop}
    (hl : typeLookup (.type T) "__getitem__" = pure (some (.builtin id))) (hs : NoSl slice)
    (h : wpAny (model prog w) A (eval value env) (fun o s₁ => wpAny (model prog w) A (eval slice env) (fun i s₂ => s₂.TypeIs o T ∧ wpAny (model prog w) A (getItem o i) Q E s₂) E s₁) E s) :
    wpAny (model prog w) A (eval (.Subscript value slice pos) env) Q E s := by
  refine Subscript_ (wpAny_mono h (fun o s₁ h₁ => wpAny_mono h₁ (fun i s₂ h₂ => ?_) fun _ _ x => x) fun _ _ x => x)
  obtain ⟨hT, h₂⟩ := h₂
  unfold subscriptTail
  refine wpAny_bind ?_
  rw [getitemInPython_of_ne hT.not_modules]
  refine wpAny_bind (wpAny_specialOf hT hl ?_)
  have fin : wpAny (model prog w) A (subscripted slice false o i) (fun r s₃ => wpAny (model prog w) A (letTemporaryGo value o r >>= fun _ => pure r) Q E s₃) E s₂ := by
    rw [hs o i]
    exact wpAny_operating (wpAny_mono h₂ (fun r s₃ h₃ => wpAny_bind (wpAny_letTemporaryGo (wpAny_pure h₃))) fun _ _ x => x)
  first
    | exact wpAny_pure (wpAny_bind fin)
    | exact wpAny_bind (wpAny_pure (wpAny_bind fin))
    | exact wpAny_bind fin
theorem dict_typeIs {X : Cx} {pins : List (Addr × Obj)} {σ : St} {H : Hp} {s : Shared} {a : Addr} {y : V} {o : Option V} (I : Inv X pins σ H s) (g : DGet H a y o) : s.TypeIs (.ref a) "dict" := by
  rcases g with ⟨kvs, k, e, _, _⟩ | ⟨kvs, k, b, e, _, _, _⟩
  · obtain ⟨_, _, vs, _, dd⟩ := dk_rd I.hok e
    exact dd.typeIs
  · obtain ⟨_, _, xs, _, dd⟩ := dt_rd I.hok e
    exact dd.typeIs
def tDGet (td ty : TE) : TE := fun σ H Q => td σ H fun x H1 => ty σ H1 fun y H2 => ∃ a v, x = .ref a ∧ DGet H2 a y (some v) ∧ Q v H2
def sDPut (td ty tv : TE) : TS := fun D σ H => tv σ H fun v H1 => td σ H1 fun x H2 => ty σ H2 fun y H3 => ∃ a H4, x = .ref a ∧ DPut H3 a y v H4 ∧ D.nx σ H4
section
variable {X : Cx} {o i e value : Expr} {pos pos' tpos : Pos} {td ty tv : TE}
theorem pe_dget (hu : X.A.units + 1 < cLine) (ho : PE X o td) (hi : PE X i ty) (hs : NoSl i) : PE X (.Subscript o i pos) (tDGet td ty) := by
  intro pins s σ H Q I h
  refine subD_of PySem.F.slot_dict_getitem.lookup hs (thn (ho pins s σ H _ I h) fun u s1 ⟨x, H1, I1, rx, q1⟩ => thn (hi pins s1 σ H1 _ I1 q1) fun iv s2 ⟨y, H2, I2, ry, a, v, ex, g, q2⟩ => ?_)
  subst ex
  obtain rfl : u = Value.ref a := rx
  exact ⟨dict_typeIs I2 g, d_getItem hu I2 g ry fun w' s3 I3 rw' => ⟨v, H2, I3, rw', q2⟩⟩
theorem ps_dput (hu : X.A.units + 1 < cLine) (ho : PE X o td) (hi : PE X i ty) (hv : PE X value tv) (hs : swapsWith value (some (.Subscript o i pos')) pos.line X.env = pure false) :
    PS X (.Assign [.Subscript o i pos'] value pos) (sDPut td ty tv) := by
  intro pins s σ H D I h
  refine wpAny_Assign_Subscript (thn (hv pins s σ H _ I h) fun r s1 ⟨v, H1, I1, rv, q1⟩ => thn (ho pins s1 σ H1 _ I1 q1) fun u s2 ⟨x, H2, I2, rx, q2⟩ => thn (hi pins s2 σ H2 _ I2 q2) fun iv s3 ⟨y, H3, I3, ry, a, H4, ex, g, q3⟩ => ?_) hs
  subst ex
  obtain rfl : u = Value.ref a := rx
  exact d_setItem hu I3 g ry rv fun s4 I4 => ⟨σ, H4, I4, q3⟩
end
theorem dk_empty {P : Program} {w : World} {H : Hp} (h : Heap) (hb : sysModules < h.objs.size) : ObjOk P w H (h.push { cls := .type "dict", data := .dict #[] }) h.objs.size (.dK []) :=
  ⟨Nat.zero_le _, beq_eq_false_iff_ne.mpr (Ne.symm (Nat.ne_of_lt hb)), [], .nil, Heap.DictOf.new h⟩
theorem dt_empty {P : Program} {w : World} {H : Hp} (h : Heap) (hb : sysModules < h.objs.size) : ObjOk P w H (h.push { cls := .type "dict", data := .dict #[] }) h.objs.size (.dT []) :=
  ⟨Nat.zero_le _, beq_eq_false_iff_ne.mpr (Ne.symm (Nat.ne_of_lt hb)), [], .nil, _, #[], 0, Heap.get?_push_size _ rfl, ⟨rfl, rfl, rfl⟩, rfl, rfl, List.nodup_nil⟩
def tDNewK : TE := fun _ H Q => ∀ p, H p = none → Q (.ref p) (upd H p (.dK []))
def tDNewT : TE := fun _ H Q => ∀ p, H p = none → Q (.ref p) (upd H p (.dT []))
section
variable {X : Cx} {pos : Pos}
theorem pe_dnewK : PE X (.Dict [] [] pos) tDNewK := fun pins s σ H Q I h =>
  wpAny_Dict_empty ⟨.ref s.heap.objs.size, _, I.laid (a := s.heap.objs.size) (o := .dK []) (t' := s.toks) (fun _ _ q => Heap.get?_push_of_some _ q) (Nat.le_refl _) (dk_empty s.heap I.big), rfl, h _ (I.hok.fresh (Nat.le_refl _))⟩
theorem pe_dnewT : PE X (.Dict [] [] pos) tDNewT := fun pins s σ H Q I h =>
  wpAny_Dict_empty ⟨.ref s.heap.objs.size, _, I.laid (a := s.heap.objs.size) (o := .dT []) (t' := s.toks) (fun _ _ q => Heap.get?_push_of_some _ q) (Nat.le_refl _) (dt_empty s.heap I.big), rfl, h _ (I.hok.fresh (Nat.le_refl _))⟩
end
end L2
namespace Att
open PySem PySem.W PySem.Calls PyProof.Rows
end Att
namespace L2
open PySem PySem.Spec PyProof.Rows
end L2
namespace L2
open PySem PySem.Spec PyProof.Rows
end L2
end
section
set_option maxHeartbeats 4000000
set_option Elab.async false
set_option linter.all false
set_option maxRecDepth 100000
namespace L2
open PySem PySem.W PyProof.Rows
theorem wp_one {α : Type} {M : Model} {c : Code} {t : Sem α} {Q : α → Prop} {p : Pos} {s : Shared} (h1 : Sem.wp M (Ctx.of c []) t (fun a _ _ => Q a) (fun _ _ _ => False) p s) (h2 : Sem.wp M (Ctx.of c []) t (fun a _ _ => ¬ Q a) (fun _ _ _ => False) p s) : False := by
  classical
  let f : α → Sem PySem.Fin := fun a => if Q a then pure (.done (.ret .none)) else throw Value.none
  have w1 : Sem.wp M (Ctx.of c []) (t >>= f) (Sem.finPost M (Ctx.of c []) fun r _ => ∃ z, r = .ok z) (fun e _ s' => (fun (r : Result) (_ : Shared) => ∃ z, r = .ok z) (.error e) s') p s := by
    rw [Sem.wp_bind']
    refine Sem.wp_mono M _ t (fun a p' s' q => ?_) (fun _ _ _ q => q.elim) p s h1
    show Sem.wp M _ (if Q a then pure (PySem.Fin.done (.ret .none)) else throw Value.none : Sem PySem.Fin) _ _ _ _
    rw [if_pos q]
    exact ⟨_, rfl⟩
  have w2 : Sem.wp M (Ctx.of c []) (t >>= f) (Sem.finPost M (Ctx.of c []) fun r _ => ∃ z, r = .error z) (fun e _ s' => (fun (r : Result) (_ : Shared) => ∃ z, r = .error z) (.error e) s') p s := by
    rw [Sem.wp_bind']
    refine Sem.wp_mono M _ t (fun a p' s' q => ?_) (fun _ _ _ q => q.elim) p s h2
    show Sem.wp M _ (if Q a then pure (PySem.Fin.done (.ret .none)) else throw Value.none : Sem PySem.Fin) _ _ _ _
    rw [if_neg q]
    exact ⟨_, rfl⟩
  obtain ⟨r1, s1, a1, z1, e1⟩ := (wp_iff_reach _ _ p s).mp w1
  obtain ⟨r2, s2, a2, z2, e2⟩ := (wp_iff_reach _ _ p s).mp w2
  obtain ⟨_, e⟩ := Reach.det a1 a2
  subst e1; subst e2
  cases e
def runT {α : Type} (lt : Nat → Nat → Bool) : KasT α → α
  | .ret a => a
  | .ask i j k => runT lt (k (lt i j))
def TOk {α : Type} (n : Nat) (R : α → Prop) : KasT α → Prop
  | .ret a => R a
  | .ask i j k => i < n ∧ j < n ∧ ∀ b, TOk n R (k b)
theorem TOk.bind {α β : Type} {n : Nat} {R : α → Prop} {R' : β → Prop} {f : α → KasT β} (hf : ∀ a, R a → TOk n R' (f a)) : ∀ t : KasT α, TOk n R t → TOk n R' (t.bind f)
  | .ret a, h => hf a h
  | .ask i j k, h => ⟨h.1, h.2.1, fun b => TOk.bind hf (k b) (h.2.2 b)⟩
theorem TOk.run {α : Type} {n : Nat} {R : α → Prop} {lt : Nat → Nat → Bool} : ∀ t : KasT α, TOk n R t → R (runT lt t)
  | .ret a, h => h
  | .ask i j k, h => TOk.run (k (lt i j)) (h.2.2 _)
theorem TOk.wp {α : Type} {n : Nat} {R : α → Prop} {lt : Nat → Nat → Bool} {cmp : Nat → Nat → (Bool → Shared → Prop) → Shared → Prop} {s : Shared} (hc : ∀ i j C, i < n → j < n → C (lt i j) s → cmp i j C s) {Q : α → Shared → Prop} : ∀ t : KasT α, TOk n R t → Q (runT lt t) s → t.kasWp cmp Q s
  | .ret a, h, q => q
  | .ask i j k, h, q => hc i j _ h.1 h.2.1 (TOk.wp hc (k (lt i j)) (h.2.2 _) q)
def Bel (n : Nat) (p : Array Nat) : Prop := 0 < n ∧ ∀ x ∈ p.toList, x < n
theorem Bel.at {n : Nat} {p : Array Nat} (h : Bel n p) (k : Nat) : p.getD k 0 < n := by
  unfold Array.getD
  split
  · exact h.2 _ (by simp)
  · exact h.1
theorem Bel.perm {n : Nat} {p q : Array Nat} (h : Bel n p) (e : q.Perm p) : Bel n q := ⟨h.1, fun x m => h.2 x ((Array.perm_iff_toList_perm.mp e).mem_iff.mp m)⟩
theorem Bel.rev {n : Nat} {p : Array Nat} (h : Bel n p) (i j : Nat) : Bel n (kas_rev p i j) := h.perm (mirror_perm _ _ _ _)
theorem tok_asc {n : Nat} {p : Array Nat} (h : Bel n p) : ∀ f k, TOk n (fun _ => True) (kas_asc p f k)
  | 0, _ => trivial
  | f + 1, k => ⟨h.at _, h.at _, fun b => by
    cases b with
    | true => exact trivial
    | false => exact tok_asc h f (k + 1)⟩
theorem tok_desc {n : Nat} : ∀ f p k q, Bel n p → TOk n (fun r => Bel n r.1) (kas_desc f p k q)
  | 0, _, _, _, h => h
  | f + 1, p, k, q, h => ⟨h.at _, h.at _, fun b => by
    cases b with
    | true =>
      show TOk n _ (if q > 0 then _ else _)
      by_cases hq : q > 0
      · rw [if_pos hq]; exact tok_desc f _ _ _ (h.rev _ _)
      · rw [if_neg hq]; exact tok_desc f _ _ _ h
    | false =>
      refine ⟨h.at _, h.at _, fun d => ?_⟩
      cases d with
      | true => exact h
      | false => exact tok_desc f _ _ _ h⟩
theorem tok_tail3 {n k m : Nat} {p : Array Nat} (h : Bel n p) : TOk n (fun r => Bel n r.2) (kas_tail3 k m p) := by
  refine TOk.bind (R := fun _ => True) (fun _ _ => ?_) _ (tok_asc (h.rev 0 k) _ _)
  exact h.rev 0 k
theorem tok_part {n k m : Nat} {p : Array Nat} (h : Bel n p) : TOk n (fun r => Bel n r.2) (kas_descPart k m p) := by
  refine TOk.bind (fun r hr => ?_) _ (tok_desc _ _ _ _ h)
  by_cases hq : r.2.2 > 0
  · rw [if_pos hq]; exact tok_tail3 (Bel.rev hr _ _)
  · rw [if_neg hq]; exact tok_tail3 hr
theorem tok_count {n m : Nat} {p : Array Nat} (h : Bel n p) : TOk n (fun r => Bel n r.2) (kas_count m p) := by
  refine TOk.bind (fun k _ => ?_) _ (tok_asc h _ _)
  by_cases e1 : (k == m) = true
  · rw [if_pos e1]; exact h
  · rw [if_neg e1]
    by_cases e2 : k > 1
    · rw [if_pos e2]
      refine ⟨h.at _, h.at _, fun b => ?_⟩
      cases b with
      | true => exact h
      | false => exact tok_part (h.rev 0 k)
    · rw [if_neg e2]; exact tok_part h
theorem tok_place {n k : Nat} {p : Array Nat} (h : Bel n p) : ∀ f l r, TOk n (fun _ => True) (kas_place p k f l r)
  | 0, _, _ => trivial
  | f + 1, l, r => by
    unfold kas_place
    by_cases e : l ≥ r
    · rw [if_pos e]; exact trivial
    · rw [if_neg e]
      refine ⟨h.at _, h.at _, fun b => ?_⟩
      cases b with
      | true => exact tok_place h f _ _
      | false => exact tok_place h f _ _
theorem tok_bin {n : Nat} : ∀ f p k, Bel n p → TOk n (Bel n) (kas_bin f p k)
  | 0, _, _, h => h
  | f + 1, p, k, h => TOk.bind (fun l _ => tok_bin f _ _ (h.perm (bubble_perm _ _ _))) _ (tok_place h _ _ _)
theorem tok_sort {n : Nat} (h : 0 < n) : TOk n (Bel n) (kas_sort n) := by
  have h0 : Bel n (List.toArray (List.range n)) := ⟨h, fun x m => by simpa using m⟩
  refine TOk.bind (fun r hr => ?_) _ (tok_count h0)
  by_cases e : r.1 < n
  · rw [if_pos e]; exact tok_bin _ _ _ hr
  · rw [if_neg e]; exact hr
end L2
end
section
set_option maxHeartbeats 4000000
set_option Elab.async false
set_option linter.all false
set_option maxRecDepth 100000
namespace L2
open PySem PySem.W PyProof.Rows
def rkIt (r : Nat → Int) (n : Nat) : Array Keyed := ((List.range n).map fun i => ((.int (r i) 0, .int i 0) : Keyed)).toArray
theorem rkIt_size (r : Nat → Int) (n : Nat) : (rkIt r n).size = n := by simp [rkIt]
theorem rkIt_at {r : Nat → Int} {n i : Nat} (h : i < n) : kas_item (rkIt r n) i = (.int (r i) 0, .int i 0) := by
  unfold kas_item Array.getD
  rw [dif_pos (by rw [rkIt_size]; exact h)]
  simp [rkIt]
theorem sort_ranks (prog : Program) (w : World) (s : Shared) {n : Nat} (h2 : 2 ≤ n) (h64 : n < 64) (r : Nat → Int) (p : Array Nat) (hp : p = runT (fun i j => decide (r i < r j)) (kas_sort n)) :
    p.toList.Perm (List.range n) ∧ (p.toList.map r).Pairwise (· ≤ ·) := by
  have tk := tok_sort (n := n) (by omega)
  have hb : Bel n p := hp ▸ TOk.run _ tk
  let A0 : Around := { handled := (Ctx.of default []).handled, depth := frameCount (Ctx.of default []).below + (Ctx.of default []).code.weight, units := (Ctx.of default []).units }
  have hin : (Ctx.of default []).In A0 := ⟨rfl, Nat.le_refl _, (fun l h => by cases h), (fun g h => by cases h), Nat.le_refl _⟩
  have est : arrOf (kas_st oneType' (rkIt r n) (List.toArray (List.range n))) = rkIt r n := by
    have e := kas_range (rkIt r n)
    rw [rkIt_size] at e
    exact e
  have k1 : kasC (model prog w) A0 (fun _ _ => False) sortRuns' (fun _ st' _ => arrOf st' = p.map (kas_item (rkIt r n))) (kas_st oneType' (rkIt r n) (List.toArray (List.range n))) s := by
    refine kas_runs (G := fun p' _ => p' = p) h2 h64 (fun p' st' s' a1 a2 a3 a4 => by subst a4; exact a2) (TOk.wp (n := n) (lt := fun i j => decide (r i < r j)) (fun i j C hi hj hC => ?_) _ tk hp.symm)
    unfold kas_cmp
    rw [rkIt_at hi, rkIt_at hj]
    exact kat_lt_int hC
  have k2 : wpS (model prog w) A0 (fun _ _ => False) s sortRuns' (fun _ st' => (arrOf st').Perm (rkIt r n) ∧ SortedTo (arrOf st') (rkIt r n).size) (kas_st oneType' (rkIt r n) (List.toArray (List.range n))) := by
    refine wpS_sortRuns (a₀ := rkIt r n) (fun q m => ?_) ⟨by rw [est], rfl, rfl, rfl⟩ (by rw [rkIt_size]; exact h2) (by rw [rkIt_size]; exact h64) fun st' a1 _ a3 => ⟨a1, a3⟩
    simp [rkIt] at m
    obtain ⟨i, _, rfl⟩ := m
    exact ⟨_, _, rfl⟩
  have main : (p.map (kas_item (rkIt r n))).Perm (rkIt r n) ∧ SortedTo (p.map (kas_item (rkIt r n))) (rkIt r n).size := by
    refine Classical.byContradiction fun no => ?_
    refine wp_one (M := model prog w) (c := default) (t := sortRuns'.run (kas_st oneType' (rkIt r n) (List.toArray (List.range n)))) (Q := fun q => (arrOf q.2).Perm (rkIt r n) ∧ SortedTo (arrOf q.2) (rkIt r n).size) (p := default) (s := s) ?_ ?_
    · exact Sem.wp_mono _ _ _ (fun a _ _ q => q.2) (fun _ _ _ q => q) _ _ (k2 _ default hin)
    · refine Sem.wp_mono _ _ _ (fun a _ _ q => ?_) (fun _ _ _ q => q) _ _ (k1 _ default hin)
      rw [q]; exact no
  have lt : ∀ i, (h : i < p.size) → p[i] < n := fun i h => hb.2 _ (by simp)
  refine ⟨?_, ?_⟩
  · have e := (Array.perm_iff_toList_perm.mp main.1).map (fun k : Keyed => (numOf k.2).toNat)
    have e1 : ((p.map (kas_item (rkIt r n))).toList.map fun k : Keyed => (numOf k.2).toNat) = p.toList := by
      rw [Array.toList_map, List.map_map]
      conv => rhs; rw [← List.map_id p.toList]
      refine List.map_congr_left fun i m => ?_
      show (numOf (kas_item (rkIt r n) i).2).toNat = i
      rw [rkIt_at (hb.2 i m)]
      rfl
    have e2 : ((rkIt r n).toList.map fun k : Keyed => (numOf k.2).toNat) = List.range n := by
      simp [rkIt, Function.comp_def, numOf]
    rw [e1, e2] at e
    exact e
  · have hs := main.2
    rw [rkIt_size] at hs
    have hsz : p.size = n := by
      have := main.1.size_eq
      rw [Array.size_map, rkIt_size] at this
      exact this
    have hK : ∀ i (h : i < p.size), K (p.map (kas_item (rkIt r n))) i = r p[i] := fun i h => by
      unfold K
      rw [Array.getElem?_map, Array.getElem?_eq_getElem h]
      show numOf (kas_item (rkIt r n) p[i]).1 = _
      rw [rkIt_at (lt i h)]
      rfl
    rw [List.pairwise_iff_getElem]
    intro i j hi hj hij
    simp only [List.length_map, Array.length_toList] at hi hj
    have := hs i j (by omega) (by omega)
    rw [hK i hi, hK j hj] at this
    simpa using this
def lexB : List Int → List Int → Bool
  | [], [] => false
  | [], _ :: _ => true
  | _ :: _, [] => false
  | a :: x, b :: y => if a = b then lexB x y else decide (a < b)
theorem lexB_irr : ∀ x, lexB x x = false
  | [] => rfl
  | a :: x => by rw [lexB, if_pos rfl]; exact lexB_irr x
theorem lexB_trans : ∀ {x y z}, lexB x y = true → lexB y z = true → lexB x z = true
  | [], [], _, h, _ => by simp [lexB] at h
  | [], _ :: _, [], _, h => by simp [lexB] at h
  | [], _ :: _, _ :: _, _, _ => rfl
  | _ :: _, [], _, h, _ => by simp [lexB] at h
  | _ :: _, _ :: _, [], _, h => by simp [lexB] at h
  | a :: x, b :: y, c :: z, h1, h2 => by
    rw [lexB] at *
    by_cases e1 : a = b
    · subst e1
      by_cases e2 : a = c
      · subst e2
        simp only [if_true] at *
        exact lexB_trans h1 h2
      · rw [if_neg e2] at *; exact h2
    · rw [if_neg e1] at h1
      by_cases e2 : b = c
      · subst e2
        rw [if_neg e1]; exact h1
      · rw [if_neg e2] at h2
        have h1 := of_decide_eq_true h1
        have h2 := of_decide_eq_true h2
        rw [if_neg (by omega)]
        exact decide_eq_true (by omega)
theorem lexB_tot : ∀ {x y}, lexB x y = false → lexB y x = false → x = y
  | [], [], _, _ => rfl
  | [], _ :: _, h, _ => by simp [lexB] at h
  | _ :: _, [], _, h => by simp [lexB] at h
  | a :: x, b :: y, h1, h2 => by
    rw [lexB] at h1 h2
    by_cases e : a = b
    · subst e
      simp only [if_true] at h1 h2
      rw [lexB_tot h1 h2]
    · rw [if_neg e] at h1
      rw [if_neg (Ne.symm e)] at h2
      have h1 := of_decide_eq_false h1
      have h2 := of_decide_eq_false h2
      omega
theorem lexB_le {x y z} (h1 : lexB y x = false) (h2 : lexB z y = false) : lexB z x = false := by
  cases h : lexB z x with
  | false => rfl
  | true =>
    cases h3 : lexB x y with
    | true => rw [lexB_trans h h3] at h2; cases h2
    | false => have e := lexB_tot h3 h1; subst e; rw [h] at h2; cases h2
def rkOf (ks : List (List Int)) (x : List Int) : Int := ((ks.countP fun y => lexB y x : Nat) : Int)
theorem countP_lt {α : Type} {p q : α → Bool} : ∀ {l : List α}, (∀ x, p x = true → q x = true) → (∃ x ∈ l, p x = false ∧ q x = true) → l.countP p < l.countP q
  | [], _, ⟨_, m, _⟩ => by simp at m
  | a :: l, hi, ⟨x, m, h1, h2⟩ => by
    have le := List.countP_mono_left (l := l) (p := p) (q := q) (fun y _ => hi y)
    rw [List.countP_cons, List.countP_cons]
    rcases List.mem_cons.mp m with rfl | m
    · rw [h1, h2]; simp; omega
    · have ih := countP_lt (l := l) hi ⟨x, m, h1, h2⟩
      cases ha : p a with
      | true => rw [hi a ha]; simp; exact ih
      | false => cases q a <;> simp <;> omega
theorem rk_lt {ks : List (List Int)} {x y : List Int} (hx : x ∈ ks) : (rkOf ks x < rkOf ks y) ↔ lexB x y = true := by
  unfold rkOf
  constructor
  · intro h
    cases e : lexB x y with
    | true => rfl
    | false =>
      have := List.countP_mono_left (l := ks) (p := fun z => lexB z y) (q := fun z => lexB z x) (fun z _ hz => by
        cases h3 : lexB z x with
        | true => rfl
        | false => rw [lexB_le e h3] at hz; cases hz)
      omega
  · intro h
    have := countP_lt (l := ks) (p := fun z => lexB z x) (q := fun z => lexB z y) (fun z hz => lexB_trans hz h) ⟨x, hx, lexB_irr x, h⟩
    omega
end L2
end
section
set_option maxHeartbeats 4000000
set_option Elab.async false
set_option linter.all false
set_option maxRecDepth 100000
namespace L2
open PySem PySem.W PyProof.Rows
section
variable {prog : Program} {w : World} {A : Around} {E : Value → Shared → Prop} {s : Shared}
theorem one_int {f : Bool} {a b : Int} {t u : Tok} {Q : Bool → Shared → Prop} (h : Q (decide (a < b)) s) : wpAny (model prog w) A (oneLt' f (.int a t) (.int b u)) Q E s := by
  cases f with
  | true => exact oneLt_int h
  | false => exact kat_one _ _ (wpAny_lt_int (Q := W.BoolBack Q) h)
theorem lex_kat {Q : Bool → Shared → Prop} {b fin : Bool} {xs : List Value} {ns : List Int} (hx : IntsAre xs ns) : ∀ {ys : List Value} {ms : List Int} (i : Nat), IntsAre ys ms → fin = decide (ns.length < ms.length) → Q (lexB ns ms) s → KatLex prog w A b fin Q (xs.zip ys) i s := by
  induction hx with
  | nil =>
    intro ys ms i hy hf h
    cases hy with
    | nil => subst hf; exact kat_nil h
    | cons m u _ => subst hf; exact kat_nil (by simpa [lexB] using h)
  | cons n t hx ih =>
    intro ys ms i hy hf h
    cases hy with
    | nil => subst hf; exact kat_nil (by simpa [lexB] using h)
    | @cons m u ys' ms' hy =>
      rw [List.zip_cons_cons]
      refine kat_cons (wpAny_eqBool_int ?_)
      rw [lexB] at h
      by_cases e : n = m
      · subst e
        rw [if_pos rfl] at h
        rw [beq_self_eq_true]
        exact kat_yes (ih (i + 1) hy (by rw [hf]; simp) h)
      · rw [if_neg e] at h
        rw [beq_eq_false_iff_ne.mpr e]
        exact kat_no (one_int h)
def TupI (h : Heap) (v : Value) (k : List Int) : Prop := ∃ a o xs n, v = .ref a ∧ h.get? a = some o ∧ o.cls = .type "tuple" ∧ o.data = .seq xs n ∧ IntsAre xs.toList k ∧ k ≠ []
inductive TupsI (h : Heap) : List Value → List (List Int) → Prop
  | nil : TupsI h [] []
  | cons {v : Value} {k : List Int} {vs : List Value} {ks : List (List Int)} (a : TupI h v k) (t : TupsI h vs ks) : TupsI h (v :: vs) (k :: ks)
theorem TupsI.len {h : Heap} {vs : List Value} {ks : List (List Int)} (t : TupsI h vs ks) : vs.length = ks.length := by
  induction t with
  | nil => rfl
  | cons a t ih => simp [ih]
theorem TupsI.get {h : Heap} {vs : List Value} {ks : List (List Int)} (t : TupsI h vs ks) : ∀ {i : Nat}, i < vs.length → TupI h (vs.getD i .none) (ks.getD i []) := by
  induction t with
  | nil => intro i hi; simp at hi
  | cons a t ih =>
    intro i hi
    cases i with
    | zero => exact a
    | succ i => simpa using ih (by simpa using hi)
theorem TupsI.keep {h h' : Heap} {vs : List Value} {ks : List (List Int)} (t : TupsI h vs ks) (k : ∀ v ∈ vs, ∀ a o, v = .ref a → h.get? a = some o → h'.get? a = some o) : TupsI h' vs ks := by
  induction t with
  | nil => exact .nil
  | @cons v q vs ks a t ih =>
    obtain ⟨a, o, xs, n, rfl, ho, r⟩ := a
    exact .cons ⟨a, o, xs, n, rfl, k _ (.head _) a o rfl ho, r⟩ (ih fun v m => k v (.tail _ m))
theorem TupsI.firsts {h : Heap} {vs : List Value} {ks : List (List Int)} (t : TupsI h vs ks) : ∃ fs, KatTups h vs fs ∧ fs.length = vs.length ∧ ∀ f ∈ fs, ∃ n u, f = Value.int n u := by
  induction t with
  | nil => exact ⟨[], KatTups.nil, rfl, fun _ m => by simp at m⟩
  | @cons v q vs ks a t ih =>
    obtain ⟨fs, k1, k2, k3⟩ := ih
    obtain ⟨a, o, xs, n, rfl, ho, hc, hd, hi, hne⟩ := a
    obtain ⟨l, rfl⟩ : ∃ l : List Value, xs = l.toArray := ⟨xs.toList, by simp⟩
    cases q with
    | nil => exact absurd rfl hne
    | cons z q =>
      have hi' : IntsAre l (z :: q) := by simpa using hi
      cases hi' with
      | cons _ u hi'' => exact ⟨_ :: fs, KatTups.cons ho hc hd (by simp; rfl) k1, by simp [k2], fun f m => by
          rcases List.mem_cons.mp m with rfl | m
          · exact ⟨_, _, rfl⟩
          · exact k3 f m⟩
def SortZ (vs : List Value) (ks : List (List Int)) (out : List Value) : Prop := ∃ ps : List (List Int × Value), ps.Perm (ks.zip vs) ∧ out = ps.map Prod.snd ∧ ps.Pairwise fun a b => lexB b.1 a.1 = false
theorem sort_out {n : Nat} {vs : List Value} {ks : List (List Int)} (hv : vs.length = n) (hk : ks.length = n) (h2 : 2 ≤ n) (h64 : n < 64) (prog : Program) (w : World) (s : Shared) {lt : Nat → Nat → Bool} (hlt : ∀ i j, lt i j = decide (rkOf ks (ks.getD i []) < rkOf ks (ks.getD j []))) :
    SortZ vs ks ((runT lt (kas_sort n)).toList.map fun i => vs.getD i Value.none) := by
  have elt : lt = fun i j => decide (rkOf ks (ks.getD i []) < rkOf ks (ks.getD j [])) := by funext i j; exact hlt i j
  obtain ⟨hp, hs⟩ := sort_ranks prog w s h2 h64 (fun i => rkOf ks (ks.getD i [])) _ rfl
  rw [← elt] at hp hs
  refine ⟨(runT lt (kas_sort n)).toList.map fun i => (ks.getD i [], vs.getD i Value.none), ?_, by simp, ?_⟩
  · have e : (List.range n).map (fun i => (ks.getD i [], vs.getD i Value.none)) = ks.zip vs := by
      refine List.ext_getElem (by simp [hv, hk]) fun i h1 h2 => ?_
      have hi : i < n := by simpa using h1
      simp [hv, hk, hi]
    rw [← e]
    exact hp.map _
  · rw [List.pairwise_map] at hs ⊢
    refine List.Pairwise.imp_of_mem (fun {a b} ma mb q => ?_) hs
    have hb : b < n := by simpa using hp.mem_iff.mp mb
    show lexB (ks.getD b []) (ks.getD a []) = false
    cases e : lexB (ks.getD b []) (ks.getD a []) with
    | false => rfl
    | true =>
      have hm : ks.getD b [] ∈ ks := by
        have : b < ks.length := by omega
        simp [this]
      have := (rk_lt hm).mpr e
      omega
theorem ls_sort {a : Addr} {vs : List Value} {ks : List (List Int)} {n : Nat} {P : PySem.Fin → Shared → Prop} (ho : s.heap.get? a = some (seqObj "list" vs.toArray n)) (hT : TupsI s.heap vs ks) (hna : ∀ v ∈ vs, v ≠ .ref a) (h64 : vs.length < 64)
    (h : ∀ h' out c, (∀ b o, b ≠ a → s.heap.get? b = some o → h'.get? b = some o) → h'.get? a = some (seqObj "list" (List.toArray out) c) → SortZ vs ks out → P (.done (.ret .none)) { s with heap := h' }) :
    wpAny (model prog w) A (Builtin.«list.sort» ⟨[.ref a], []⟩) P E s := by
  have hlen := hT.len
  have ha : a < s.heap.objs.size := Heap.lt_size ho
  obtain ⟨e1, ho1⟩ : ∃ e1, (s.heap.update a (Obj.mapSeq fun _ => (#[] : Array Value))).get? a = some (seqObj "list" #[] e1) := ⟨_, get?_update_seq ho fun _ => #[]⟩
  have kp : ∀ b o, b ≠ a → s.heap.get? b = some o → (((s.heap.update a (Obj.mapSeq fun _ => (#[] : Array Value))).push (seqObj "tuple" vs.toArray 0)).push (seqObj "list" #[] 0)).get? b = some o := fun b o hb e =>
    Heap.get?_push_of_some _ (Heap.get?_push_of_some _ (((Heap.SameBut.update s.heap a _).2 b hb).trans e))
  have ho6 : (((s.heap.update a (Obj.mapSeq fun _ => (#[] : Array Value))).push (seqObj "tuple" vs.toArray 0)).push (seqObj "list" #[] 0)).get? a = some (seqObj "list" #[] e1) := Heap.get?_push_of_some _ (Heap.get?_push_of_some _ ho1)
  have hT6 : TupsI (((s.heap.update a (Obj.mapSeq fun _ => (#[] : Array Value))).push (seqObj "tuple" vs.toArray 0)).push (seqObj "list" #[] 0)) vs ks := hT.keep fun v m b o e q => kp b o (fun z => hna v m (by rw [e, z])) q
  rw [list_sort_plain]
  refine wpAny_bind (listItems_at ho rfl (wpAny_bind (listUpdate_at ho rfl (wpAny_bind (seqEpoch_at ho1 rfl (wpAny_bind (wpAny_newTuple (wpAny_bind (wpAny_newList (wpAny_holding ?_) (Nat.zero_le _))) (by show vs.length ≤ _; rw [sizeLine_eq]; omega))))) (by rw [List.size_toArray, sizeLine_eq]; omega) (Nat.zero_le _))))
  show wpAny (model prog w) A _ P E { s with heap := ((s.heap.update a (Obj.mapSeq fun _ => (#[] : Array Value))).push (seqObj "tuple" vs.toArray 0)).push (seqObj "list" #[] 0) }
  dsimp only
  have fin : ∀ (out : List Value) (c : Nat), out.length = vs.length → SortZ vs ks out → (((((s.heap.update a (Obj.mapSeq fun _ => (#[] : Array Value))).push (seqObj "tuple" vs.toArray 0)).push (seqObj "list" #[] 0)).update a (Obj.mapSeq fun _ => List.toArray out)).get? a = some (seqObj "list" (List.toArray out) c)) →
      P (.done (.ret .none)) { s with heap := (((s.heap.update a (Obj.mapSeq fun _ => (#[] : Array Value))).push (seqObj "tuple" vs.toArray 0)).push (seqObj "list" #[] 0)).update a (Obj.mapSeq fun _ => List.toArray out) } := fun out c _ hz hc =>
    h _ out c (fun b o hb e => ((Heap.SameBut.update _ a _).2 b hb).trans (kp b o hb e)) hc hz
  by_cases h2 : vs.toArray.size < 2
  · rw [if_pos h2, if_pos h2]
    refine wpAny_bind (wpAny_pure ?_)
    rw [StateT.run_pure]
    refine wpAny_bind (wpAny_pure ?_)
    have eo : (arrOf (SortSt.mk' general' (vs.toArray.zip vs.toArray) #[] 7 none)).map (·.2) = List.toArray vs := by
      show (vs.toArray.zip vs.toArray).map (·.2) = _
      apply Array.toList_inj.mp
      simp [List.map_snd_zip]
    dsimp only
    refine wpAny_bind (seqEpoch_at ho6 rfl (wpAny_bind (listUpdate_at ho6 rfl ?_ (Nat.zero_le _) (by rw [eo, List.size_toArray, sizeLine_eq]; omega))))
    simp only [bne_self_eq_false, Bool.false_eq_true, if_false]
    rw [eo]
    refine wpAny_pure (fin vs _ rfl ⟨ks.zip vs, .refl _, by rw [List.map_snd_zip]; omega, ?_⟩ (get?_update_seq ho6 _))
    rw [List.size_toArray] at h2
    match ks, vs, hlen, h2 with
    | [], [], _, _ => exact .nil
    | [k], [v], _, _ => exact List.pairwise_singleton _ _
    | _ :: _ :: _, _ :: _ :: _, _, h2 => simp at h2; omega
  · rw [if_neg h2, if_neg h2]
    rw [List.size_toArray] at h2
    obtain ⟨fs, k1, k2, k3⟩ := hT6.firsts
    refine wpAny_bind (kat_kind (T := .type "int") k1 (by omega) (fun v m => ?_) (by rfl) ?_)
    · obtain ⟨z, u, rfl⟩ := k3 v m
      exact Looks.of_pure rfl
    have hlt : ∀ i j, decide (rkOf ks (ks.getD i []) < rkOf ks (ks.getD j [])) = decide (rkOf ks (ks.getD i []) < rkOf ks (ks.getD j [])) := fun _ _ => rfl
    have so := sort_out (n := vs.length) (ks := ks) rfl hlen.symm (by omega) h64 prog w s (lt := fun i j => decide (rkOf ks (ks.getD i []) < rkOf ks (ks.getD j []))) hlt
    have tk := tok_sort (n := vs.length) (by omega)
    refine wpAny_bind (wpAny_mono (kat_run (ks := vs) (vs := vs) (κ := tuples' (Value.type "int" != Value.type "tuple")) (Q := fun st' s' => s' = { s with heap := ((s.heap.update a (Obj.mapSeq fun _ => (#[] : Array Value))).push (seqObj "tuple" vs.toArray 0)).push (seqObj "list" #[] 0) } ∧ failedOf st' = none ∧ ∃ p : Array Nat, p.size = vs.length ∧ arrOf st' = p.map (kas_item (vs.toArray.zip vs.toArray)) ∧ p = runT (fun i j => decide (rkOf ks (ks.getD i []) < rkOf ks (ks.getD j []))) (kas_sort vs.length))
      (G := fun p s' => s' = { s with heap := ((s.heap.update a (Obj.mapSeq fun _ => (#[] : Array Value))).push (seqObj "tuple" vs.toArray 0)).push (seqObj "list" #[] 0) } ∧ p = runT (fun i j => decide (rkOf ks (ks.getD i []) < rkOf ks (ks.getD j []))) (kas_sort vs.length)) rfl (by omega) h64 (fun p st' s' a1 a2 a3 a4 => ⟨a4.1, a3, p, a1, a2, a4.2⟩)
      (TOk.wp (n := vs.length) (lt := fun i j => decide (rkOf ks (ks.getD i []) < rkOf ks (ks.getD j []))) (fun i j C hi hj hC => ?_) _ tk ⟨rfl, rfl⟩)) ?_ fun _ _ e => e)
    · unfold kas_ask
      obtain ⟨x, ox, xs, nx, ex, hx, _, dx, ix, _⟩ := hT6.get hi
      obtain ⟨y, oy, ys, ny, ey, hy, _, dy, iy, _⟩ := hT6.get hj
      rw [ex, ey]
      have hm : ks.getD i [] ∈ ks := by
        have : i < ks.length := by omega
        simp [this]
      refine kat_lt hx dx hy dy (lex_kat ix 0 iy ?_ ?_)
      · rw [← ix.length, ← iy.length]; simp
      · have e : lexB (ks.getD i []) (ks.getD j []) = decide (rkOf ks (ks.getD i []) < rkOf ks (ks.getD j [])) := by
          cases q : lexB (ks.getD i []) (ks.getD j []) with
          | true => exact (decide_eq_true ((rk_lt hm).mpr q)).symm
          | false => exact (decide_eq_false fun z => by rw [(rk_lt hm).mp z] at q; cases q).symm
        rw [e]; exact hC
    · rintro ⟨⟨⟩, st'⟩ s' ⟨es, hf, p, hp, har, ep⟩
      dsimp only at es hf har
      subst es
      have eo := kat_snds (ks := vs) (vs := vs) rfl har
      dsimp only
      have ln : (p.toList.map fun i => vs.getD i Value.none).length = vs.length := by simp [hp]
      refine wpAny_bind (seqEpoch_at ho6 rfl (wpAny_bind (listUpdate_at ho6 rfl ?_ (Nat.zero_le _) (by rw [eo, List.size_toArray, ln, sizeLine_eq]; omega))))
      rw [hf]
      simp only [bne_self_eq_false, Bool.false_eq_true, if_false]
      rw [eo]
      rw [← ep] at so
      exact wpAny_pure (fin _ _ ln so (get?_update_seq ho6 _))
end
end L2
end
section
set_option maxHeartbeats 4000000
set_option Elab.async false
set_option linter.all false
set_option maxRecDepth 100000
namespace L2
open PySem PySem.W PyProof.Rows
def RawD (h : Heap) (d : Addr) (es : Array DictEntry) (ep : Nat) : Prop := ∃ o, h.get? d = some o ∧ o.ExactDict ∧ o.data = .dict es ep
theorem RawD.ty {s : Shared} {d : Addr} {es : Array DictEntry} {ep : Nat} (x : RawD s.heap d es ep) : s.TypeIs (.ref d) "dict" := let ⟨o, ho, hc, _⟩ := x; ⟨o, ho, hc.1⟩
theorem RawD.to {h h' : Heap} {d : Addr} {es : Array DictEntry} {ep : Nat} (x : RawD h d es ep) (k : ∀ o, h.get? d = some o → h'.get? d = some o) : RawD h' d es ep := let ⟨o, ho, r⟩ := x; ⟨o, k o ho, r⟩
section
variable {prog : Program} {w : World} {A : Around} {E : Value → Shared → Prop} {s : Shared} {it d v : Addr} {i ep : Nat} {es : Array DictEntry}
theorem raw_next {Q : Option Value → Shared → Prop} (hit : s.heap.IsKeyIter it d i es.size ep) (hm : RawD s.heap d es ep) (hi : i < es.size)
    (hQ : ∀ h', h'.IsKeyIter it d (i + 1) es.size ep → Heap.SameBut it s.heap h' → Q (some es[i].key) { s with heap := h' }) : wpAny (model prog w) A (pyNext (.ref it)) Q E s := by
  obtain ⟨o, ho, hc, hd⟩ := id hit
  obtain ⟨od, hod, hcd, hdd⟩ := id hm
  unfold pyNext
  refine wpAny_bind (wpAny_attempt (wpAny_callSpecial?_slot (name := Str.ofString "__next__") hit.typeIs PySem.F.slot_dict_keyiterator_next
    (wpAny_call_entry PySem.F.slot_dict_keyiterator_next hit.typeIs PySem.F.entry_dict_keyiterator_next (wpAny_bind (wpAny_pure (wpAny_bind (wpAny_bind ?_)))) (PySem.F.args_dict_keyiterator_next_1 _))))
  first | refine wpAny_bind (wpAny_typeNameOfWhole_keyiter hit.typeIs (wpAny_pure (wpAny_bind (wpAny_fieldsOf ho hd ?_)))) | refine wpAny_bind (wpAny_typeNameOf_keyiter hit.typeIs (wpAny_pure (wpAny_bind (wpAny_fieldsOf ho hd ?_))))
  have hown : Builtin.Dict_items.ownsTuple "dict_keyiterator" = false := by decide
  simp only [hown, Bool.false_eq_true, if_false]
  show wpAny _ _ (if (Value.ref d == Value.none) = true then _ else _) _ _ s
  rw [if_neg (show ¬ ((Value.ref d == Value.none) = true) from Bool.false_ne_true)]
  refine wpAny_bind (wpAny_pure (wpAny_bind (wpAny_dictEntries hod hdd ?_)))
  rw [if_neg (by simp)]
  refine wpAny_bind (wpAny_pure (wpAny_bind (wpAny_dictEpoch hod hdd ?_)))
  rw [if_neg (by simp)]
  refine wpAny_pure ?_
  simp only [show ¬ ((i : Int) < 0) from by omega, if_false, Int.toNat_natCast, Array.getElem?_eq_getElem hi]
  refine wpAny_bind ?_
  first | refine wpAny_bind (wpAny_typeNameOfWhole_keyiter hit.typeIs (wpAny_pure (wpAny_bind (wpAny_isOneOf_keyiter hit.typeIs ?_)))) | refine wpAny_bind (wpAny_typeNameOf_keyiter hit.typeIs (wpAny_pure (wpAny_bind (wpAny_isOneOf_keyiter hit.typeIs ?_))))
  show wpAny _ _ (setField (.ref it) 1 (rawInt ((i : Int) + 1)) >>= _) _ _ s
  have hit' : (s.heap.update it (Obj.mapFields (·.setIfInBounds 1 (rawInt ((i : Int) + 1))))).IsKeyIter it d (i + 1) es.size ep :=
    ⟨_, Heap.get?_update_self _ ho (Obj.isFreed_of_fields (Obj.data_mapFields hd _)), (Obj.cls_mapFields ..).trans hc, by rw [Obj.data_mapFields hd]; simp [rawInt]⟩
  refine wpAny_bind (wpAny_setField ho hd (by simp) (wpAny_bind (wpAny_holding (wpAny_bind (wpAny_isOneOf_keyiter (s := { s with heap := s.heap.update it (Obj.mapFields (·.setIfInBounds 1 (rawInt ((i : Int) + 1)))) }) hit'.typeIs ?_)))))
  show wpAny _ _ (pure es[i].key) _ _ _
  exact wpAny_pure (wpAny_pure ⟨_, rfl, wpAny_pure (hQ _ hit' (Heap.SameBut.update ..))⟩)
theorem raw_end {Q : Option Value → Shared → Prop} (hh : A.handled = none) (hit : s.heap.IsKeyIter it d es.size es.size ep) (hm : RawD s.heap d es ep)
    (hQ : ∀ h', Heap.ExtBut it s.heap h' → Q none { s with heap := h' }) : wpAny (model prog w) A (pyNext (.ref it)) Q E s := by
  obtain ⟨o, ho, hc, hd⟩ := id hit
  obtain ⟨od, hod, hcd, hdd⟩ := id hm
  unfold pyNext
  refine wpAny_bind (wpAny_attempt (wpAny_callSpecial?_slot (name := Str.ofString "__next__") hit.typeIs PySem.F.slot_dict_keyiterator_next
    (wpAny_call_entry PySem.F.slot_dict_keyiterator_next hit.typeIs PySem.F.entry_dict_keyiterator_next (wpAny_bind (wpAny_pure (wpAny_bind (wpAny_bind ?_)))) (PySem.F.args_dict_keyiterator_next_1 _))))
  first | refine wpAny_bind (wpAny_typeNameOfWhole_keyiter hit.typeIs (wpAny_pure (wpAny_bind (wpAny_fieldsOf ho hd ?_)))) | refine wpAny_bind (wpAny_typeNameOf_keyiter hit.typeIs (wpAny_pure (wpAny_bind (wpAny_fieldsOf ho hd ?_))))
  have hown : Builtin.Dict_items.ownsTuple "dict_keyiterator" = false := by decide
  simp only [hown, Bool.false_eq_true, if_false]
  show wpAny _ _ (if (Value.ref d == Value.none) = true then _ else _) _ _ s
  rw [if_neg (show ¬ ((Value.ref d == Value.none) = true) from Bool.false_ne_true)]
  refine wpAny_bind (wpAny_pure (wpAny_bind (wpAny_dictEntries hod hdd ?_)))
  rw [if_neg (by simp)]
  refine wpAny_bind (wpAny_pure (wpAny_bind (wpAny_dictEpoch hod hdd ?_)))
  rw [if_neg (by simp)]
  refine wpAny_pure ?_
  simp only [show ¬ ((es.size : Int) < 0) from by omega, if_false, Int.toNat_natCast, Array.getElem?_eq_none (Nat.le_refl es.size)]
  refine wpAny_bind ?_
  first | refine wpAny_bind (wpAny_typeNameOfWhole_keyiter hit.typeIs (wpAny_pure ?_)) | refine wpAny_bind (wpAny_typeNameOf_keyiter hit.typeIs (wpAny_pure ?_))
  show wpAny _ _ (setField (.ref it) 0 .none >>= _) _ _ s
  refine wpAny_bind (wpAny_setField ho hd (by simp) ?_)
  show wpAny _ _ (newExc (.type "StopIteration") [] >>= _) _ _ _
  refine wpAny_bind ?_
  simp only [newExc, newTuple]
  refine wpAny_bind (wpAny_newObj_type (wpAny_bind (m := firstArgMember _ _) (wpAny_of_eq (a := Value.none) (by first | rfl | (simp only [firstArgMember]; rfl)) (wpAny_newObj_type ?_ (by size_fits)))) (by size_fits))
  simp only [raiseNew]
  refine wpAny_bind (wpAny_handled ?_)
  rw [show A.in1.handled = none from hh]
  refine wpAny_bind (wpAny_pure (wpAny_throw ?_))
  refine wpAny_bind (wpAny_isInstance (T := "StopIteration") (b := true) ⟨_, Heap.get?_push_size _ rfl, rfl⟩ isSubtype_stop ?_)
  exact wpAny_pure (hQ _ (((Heap.SameBut.update ..).extBut.push _).push _))
theorem raw_iter {Q : Value → Shared → Prop} (hv : KdlKeysView s.heap v d) (hm : RawD s.heap d es ep)
    (hQ : Q (.ref s.heap.objs.size) { s with heap := s.heap.push { cls := .type "dict_keyiterator", data := .fields #[.ref d, .int 0 0, .int es.size 0, .int ep 0] } }) : wpAny (model prog w) A (pyIter (.ref v)) Q E s := by
  obtain ⟨ov, hov, hcv, hdv⟩ := id hv
  obtain ⟨o, ho, hc, hdat⟩ := id hm
  refine wpAny_pyIter_slot hv.typeIs kdl_slot_keys_iter (wpAny_call_entry kdl_slot_keys_iter hv.typeIs kdl_entry_keys_iter ?_ (kdl_args_keys_iter _))
  unfold Builtin.«dict_keys.__iter__»
  refine wpAny_bind (wpAny_pure (wpAny_bind ?_))
  unfold Builtin.Dict_items.dictOf
  refine wpAny_bind (wpAny_field hov hdv (x := .ref d) rfl (wpAny_pure (wpAny_bind ?_)))
  unfold Builtin.Dict_items.newIterator
  refine wpAny_bind (wpAny_dictEntries ho hdat (wpAny_bind (wpAny_dictEpoch ho hdat ?_)))
  have hown : Builtin.Dict_items.ownsTuple "dict_keyiterator" = false := by decide
  simp only [hown, Bool.false_eq_true, if_false]
  refine wpAny_newObj_type (wpAny_pure ⟨_, rfl, "dict_keyiterator", _, ⟨_, Heap.get?_push_size _ rfl, rfl⟩, PySem.F.slot_dict_keyiterator_next.lookup, ?_⟩)
  simpa [rawInt] using hQ
theorem raw_src : KdlSrc prog w "dict_keys" v d es.size (fun i x => ∃ e, es[i]? = some e ∧ x = e.key) (fun h => KdlKeysView h v d ∧ RawD h d es ep) where
  type := fun _ hm => hm.1.typeIs
  there := fun _ hm => ⟨let ⟨_, ho, _⟩ := hm.1; Heap.lt_size ho, let ⟨_, ho, _⟩ := hm.2; Heap.lt_size ho⟩
  keep := fun _ _ hm hk => ⟨let ⟨o, ho, x⟩ := hm.1; ⟨o, hk v (.inl rfl) o ho, x⟩, hm.2.to fun o e => hk d (.inr rfl) o e⟩
  notList := by decide
  notTuple := by decide
  hint := fun _ _ _ _ hm hq => kdl_hint_keys hm.1.typeIs hq
  iter := fun A0 s0 hh hm => by
    have hdlt : d < s0.heap.objs.size := let ⟨_, ho, _⟩ := hm.2; Heap.lt_size ho
    refine ⟨_, fun i h => h.IsKeyIter s0.heap.objs.size d i es.size ep ∧ RawD h d es ep, (fun _ _ hq => raw_iter hm.1 hm.2 hq), ⟨fun b hb => by simp at hb; simp [hb], fun i h h' st hk => ⟨st.1.at fun o e => hk _ (by simp) o e, st.2.to fun o e => hk d (by simp) o e⟩, fun i s1 Q E hi st hQ => ?_, fun s1 Q E st hQ => ?_, fun _ _ _ _ st hQ => wpAny_pyIter_keyiter st.1 hQ⟩, ⟨_, Heap.get?_push_size _ rfl, rfl, rfl⟩, hm.2.to fun o e => Heap.get?_push_of_some _ e⟩
    · exact raw_next st.1 st.2 hi fun h' hit' hs' => hQ _ h' s1.toks ⟨_, Array.getElem?_eq_getElem hi, rfl⟩ ⟨hit', st.2.to fun o e => (hs'.2 d (Nat.ne_of_lt hdlt)).trans e⟩ fun b o hb e => (hs'.2 b (fun z => hb (by simp [z]))).trans e
    · exact raw_end hh st.1 st.2 fun h' he' => hQ h' s1.toks fun b o hb e => he' b o (fun z => hb (by simp [z])) e
theorem raw_keys {Q : Value → Shared → Prop} (lo : (d == sysModules) = false) (hm : RawD s.heap d es ep)
    (h : Q (.ref s.heap.objs.size) { s with heap := s.heap.push { cls := .type "dict_keys", data := .fields #[.ref d] } }) : wpAny (model prog w) A (call (.builtin "dict.keys") [.ref d]) Q E s := by
  refine wpAny_call_entry PySem.F.slot_dict_keys hm.ty PySem.F.entry_dict_keys ?_ (PySem.F.args_dict_keys_1 _)
  show wpAny _ _ (Builtin.«dict.keys» ⟨[.ref d], []⟩) _ _ s
  unfold Builtin.«dict.keys»
  refine wpAny_bind ?_
  unfold Builtin.Dict.noArgs
  refine wpAny_bind (wpAny_notOrdered_dict hm.ty ?_)
  show wpAny _ _ (pure d) _ _ s
  refine wpAny_pure ?_
  show wpAny _ _ (Builtin.Dict.showsAll d >>= _) _ _ s
  unfold Builtin.Dict.showsAll
  rw [if_neg (by rw [lo]; exact Bool.false_ne_true)]
  exact wpAny_bind (wpAny_pure (wpAny_bind (wpAny_newObj_type (wpAny_pure ⟨_, rfl, h⟩))))
theorem ls_sorted {x : Addr} {vs : List Value} {ks : List (List Int)} {Q : Value → Shared → Prop} (hT : TupsI s.heap vs ks) (h64 : vs.length < 64)
    (hcol : ∀ R : List Value → Shared → Prop, (∀ (h1 : Heap) (tk : Nat), (∀ b o, s.heap.get? b = some o → h1.get? b = some o) → R vs { s with heap := h1, toks := tk }) → wpAny (model prog w) A.in1 (collect (.ref x)) R E s)
    (h : ∀ (h1 h' : Heap) (tk : Nat) (out : List Value) (c : Nat), (∀ b o, s.heap.get? b = some o → h1.get? b = some o) → (∀ b o, h1.get? b = some o → h'.get? b = some o) → h'.get? h1.objs.size = some (seqObj "list" (List.toArray out) c) → SortZ vs ks out → Q (.ref h1.objs.size) { s with heap := h', toks := tk }) :
    wpAny (model prog w) A (call (.builtin "sorted") [.ref x]) Q E s := by
  refine Calls.call_function_entry kind_sorted plain_sorted entry_sorted (args_sorted1 _) ?_
  unfold Builtin.«sorted»
  refine wpAny_bind (m := checkCount "sorted" 1 1 _) (wpAny_pure (wpAny_bind (hcol _ fun h1 tk k1 => wpAny_bind (wpAny_newList ?_ (by rw [sizeLine_eq]; omega)))))
  have hoL : (h1.push (seqObj "list" vs.toArray 0)).get? h1.objs.size = some (seqObj "list" vs.toArray 0) := Heap.get?_push_size _ rfl
  have kk : ∀ b o, s.heap.get? b = some o → (h1.push (seqObj "list" vs.toArray 0)).get? b = some o := fun b o e => Heap.get?_push_of_some _ (k1 b o e)
  show wpAny _ _ _ _ _ { s with heap := h1.push (seqObj "list" vs.toArray 0), toks := tk }
  refine wpAny_bind (wpAny_holding (wpAny_call_entry slot_list_sort ⟨_, hoL, rfl⟩ entry_list_sort (ls_sort (s := { s with heap := h1.push (seqObj "list" vs.toArray 0), toks := tk }) (ks := ks) hoL (hT.keep fun v m b o _ q => kk b o q) (fun v m z => ?_) h64 fun h' out c k2 k3 k4 => ⟨_, rfl, ?_⟩) (args_list_sort _)))
  · subst z
    have lt : ∀ {vs : List Value} {ks : List (List Int)}, TupsI s.heap vs ks → Value.ref h1.objs.size ∈ vs → h1.objs.size < h1.objs.size := fun t => by
      induction t with
      | nil => intro m; simp at m
      | cons a t ih =>
        intro m
        rcases List.mem_cons.mp m with e | m
        · obtain ⟨b, o, xs, n, rfl, ho, _⟩ := a
          cases e
          exact Heap.lt_size (k1 _ _ ho)
        · exact ih m
    exact Nat.lt_irrefl _ (lt hT m)
  · exact wpAny_pure ⟨_, rfl, h h1 h' tk out c k1 (fun b o e => k2 b o (Nat.ne_of_lt (Heap.lt_size e)) (Heap.get?_push_of_some _ e)) k3 k4⟩
end
end L2
end
section
set_option maxHeartbeats 4000000
set_option Elab.async false
set_option linter.all false
set_option maxRecDepth 100000
namespace L2
open PySem PySem.Spec PyProof.Rows
inductive TupsH (H : Hp) : List V → List (List Int) → Prop
  | nil : TupsH H [] []
  | cons {a : Addr} {k : List Int} {xs : List V} {ks : List (List Int)} (e : H a = some (.tup (k.map V.int))) (ne : k ≠ []) (t : TupsH H xs ks) : TupsH H (.ref a :: xs) (k :: ks)
theorem TupsH.len {H : Hp} {xs : List V} {ks : List (List Int)} (t : TupsH H xs ks) : xs.length = ks.length := by
  induction t with
  | nil => rfl
  | cons e ne t ih => simp [ih]
theorem TupsH.same {H H' : Hp} {xs : List V} {ks : List (List Int)} (t : TupsH H xs ks) (h : ∀ b o, H b = some o → H' b = some o) : TupsH H' xs ks := by
  induction t with
  | nil => exact .nil
  | cons e ne t ih => exact .cons (h _ _ e) ne ih
theorem TupsH.vals {P : Program} {w : World} {H : Hp} {h : Heap} {xs : List V} {ks : List (List Int)} (ok : HOk P w H h) (t : TupsH H xs ks) : ∀ {its : List Value}, Vals xs its → TupsI h its ks := by
  induction t with
  | nil => intro its r; cases r; exact .nil
  | @cons a k xs ks e ne t ih =>
    intro its r
    cases r with
    | cons ru rs =>
      cases ru
      obtain ⟨_, ys, rv, o, ho, hc, n, hd⟩ := (show ObjOk P w H h a (.tup (k.map V.int)) from ok a _ e)
      exact .cons ⟨a, o, _, n, rfl, ho, hc, hd, by simpa using intsAre_of rv, ne⟩ (ih rs)
def SortH (xs : List V) (ks : List (List Int)) (ys : List V) : Prop := ∃ ps : List (List Int × V), ps.Perm (ks.zip xs) ∧ ys = ps.map Prod.snd ∧ ps.Pairwise fun a b => lexB b.1 a.1 = false
inductive Zq : List (List Int × V) → List (List Int × Value) → Prop where
  | nil : Zq [] []
  | cons {k : List Int} {v : V} {u : Value} {l : List (List Int × V)} {m : List (List Int × Value)} (r : RelV v u) (t : Zq l m) : Zq ((k, v) :: l) ((k, u) :: m)
theorem zq_zip : ∀ {kz : List (List Int)} {xs : List V} {vs : List Value}, Vals xs vs → Zq (kz.zip xs) (kz.zip vs)
  | [], _, _, _ => by simp; exact .nil
  | _ :: _, _, _, .nil => by simp; exact .nil
  | k :: kz, _, _, .cons r t => by rw [List.zip_cons_cons, List.zip_cons_cons]; exact .cons r (zq_zip t)
theorem zq_perm {l1 l2 : List (List Int × Value)} (p : l1.Perm l2) : ∀ {m2 : List (List Int × V)}, Zq m2 l2 → ∃ m1, m1.Perm m2 ∧ Zq m1 l1 := by
  induction p with
  | nil => intro m2 h; cases h; exact ⟨[], .refl _, .nil⟩
  | cons x p ih => intro m2 h; cases h with | cons r t => obtain ⟨m1, a, b⟩ := ih t; exact ⟨_, a.cons _, .cons r b⟩
  | swap x y l => intro m2 h; cases h with | cons r t => cases t with | cons r' t' => exact ⟨_, List.Perm.swap .., .cons r' (.cons r t')⟩
  | trans p1 p2 ih1 ih2 => intro m2 h; obtain ⟨m1, a, b⟩ := ih2 h; obtain ⟨m0, c, d⟩ := ih1 b; exact ⟨m0, c.trans a, d⟩
theorem zq_fst {m : List (List Int × V)} {l : List (List Int × Value)} (h : Zq m l) : m.map Prod.fst = l.map Prod.fst := by
  induction h with
  | nil => rfl
  | cons r t ih => simp [ih]
theorem zq_snd {m : List (List Int × V)} {l : List (List Int × Value)} (h : Zq m l) : Vals (m.map Prod.snd) (l.map Prod.snd) := by
  induction h with
  | nil => exact .nil
  | cons r t ih => exact .cons r ih
theorem sort_back {xs : List V} {ks : List (List Int)} {its out : List Value} (rv : Vals xs its) (z : SortZ its ks out) : ∃ ys, SortH xs ks ys ∧ Vals ys out := by
  obtain ⟨ps, hp, ho, hw⟩ := z
  obtain ⟨ms, hm, hz⟩ := zq_perm hp (zq_zip rv)
  have hw' : (ps.map Prod.fst).Pairwise fun a b => lexB b a = false := List.pairwise_map.mpr hw
  rw [← zq_fst hz] at hw'
  exact ⟨ms.map Prod.snd, ⟨ms, hm, rfl, List.pairwise_map.mp hw'⟩, ho ▸ zq_snd hz⟩
theorem SortH.len {xs : List V} {ks : List (List Int)} {ys : List V} (h : SortH xs ks ys) (e : xs.length = ks.length) : ys.length = xs.length := by
  obtain ⟨ps, hp, rfl, _⟩ := h
  rw [List.length_map, hp.length_eq, List.length_zip]
  omega
theorem SortH.tups {H : Hp} {xs : List V} {ks : List (List Int)} {ys : List V} (t : TupsH H xs ks) (h : SortH xs ks ys) : ∃ js : List (List Int), TupsH H ys js ∧ js.Perm ks ∧ js.Pairwise fun a b => lexB b a = false := by
  obtain ⟨ps, hp, rfl, hw⟩ := h
  have all : ∀ {xs : List V} {ks : List (List Int)}, TupsH H xs ks → ∀ p ∈ ks.zip xs, p.1 ≠ [] ∧ ∃ a, p.2 = .ref a ∧ H a = some (.tup (p.1.map V.int)) := fun t => by
    induction t with
    | nil => intro p m; simp at m
    | cons e ne t ih =>
      intro p m
      rw [List.zip_cons_cons] at m
      rcases List.mem_cons.mp m with rfl | m
      · exact ⟨ne, _, rfl, e⟩
      · exact ih p m
  have mk : ∀ {ps : List (List Int × V)}, (∀ p ∈ ps, p.1 ≠ [] ∧ ∃ a, p.2 = .ref a ∧ H a = some (.tup (p.1.map V.int))) → TupsH H (ps.map Prod.snd) (ps.map Prod.fst) := fun {ps} => by
    induction ps with
    | nil => intro _; exact .nil
    | cons p ps ih =>
      intro h
      obtain ⟨ne, a, e1, e2⟩ := h p (.head _)
      obtain ⟨k, v⟩ := p
      cases e1
      exact .cons e2 ne (ih fun q m => h q (.tail _ m))
  refine ⟨ps.map Prod.fst, mk fun p m => all t p (hp.mem_iff.mp m), ?_, List.pairwise_map.mpr hw⟩
  have e := hp.map Prod.fst
  rw [List.map_fst_zip (by have := t.len; omega)] at e
  exact e
section
variable {X : Cx} {pins : List (Addr × Obj)} {σ : St} {H : Hp} {s : Shared}
theorem sorted_end {xs : List V} {ks : List (List Int)} {its out : List Value} {h1 h' : Heap} {tk c : Nat} {Q : VK} (I : Inv X pins σ H s) (t : TupsH H xs ks) (rv : Vals xs its) (h64 : xs.length < 64) (k1 : ∀ b o, s.heap.get? b = some o → h1.get? b = some o) (k2 : ∀ b o, h1.get? b = some o → h'.get? b = some o)
    (hD : h'.get? h1.objs.size = some (seqObj "list" (List.toArray out) c)) (z : SortZ its ks out) (q : ∀ D ys, H D = none → SortH xs ks ys → Q (.ref D) (upd H D (.lst ys))) : EP X pins σ Q (.ref h1.objs.size) { s with heap := h', toks := tk } := by
  obtain ⟨ys, hy, hv⟩ := sort_back rv z
  have J := I.kept (t' := tk) k1
  refine ⟨.ref h1.objs.size, _, J.laid (t' := tk) (o := .lst ys) k2 (Nat.le_refl _) ⟨?_, out, c, hv, hD⟩, rfl, q _ ys (J.hok.fresh (Nat.le_refl _)) hy⟩
  rw [hy.len t.len, sizeLine_eq]; omega
abbrev KV2 (v d : Addr) : HO := .ext fun h => PySem.W.KdlKeysView h v d
def tKeysT (td : TE) : TE := fun σ H Q => td σ H fun x H1 => ∃ d kvs, x = .ref d ∧ H1 d = some (.dT kvs) ∧ ∀ v, H1 v = none → Q (.ref v) (upd H1 v (KV2 v d))
theorem pe_keysT {o : Expr} {td : TE} {apos cpos : Pos} (ho : PE X o td) (hbase : attributeBase o "keys" X.env (eval o X.env) = eval o X.env := by rfl) (hline : (apos.endLine == cpos.line) = true := by rfl) :
    PE X (.Call (.Attribute o "keys" apos) [] [] cpos) (tKeysT td) := by
  intro pins s σ H Q I h
  refine wpAny_Call_method0_late hbase hline (thn (ho pins s σ H _ I h) fun v s1 ⟨x, H1, I1, r1, d, kvs, ex, e, q⟩ => ?_)
  subst ex
  cases r1
  obtain ⟨_, lo, xs, rel, ob, es, ep, h1, h2, h3, h4, h5⟩ := (show ObjOk X.prog X.w H1 s1.heap d (.dT kvs) from I1.hok d _ e)
  have rw' : RawD s1.heap d es ep := ⟨ob, h1, h2, h3⟩
  refine ⟨"dict", "dict.keys", PySem.F.plainAttrs_dict, PySem.F.slot_dict_keys, PySem.F.type_dict_keys, rw'.ty, fun b hb => ?_, Calls.callWith_builtin rfl (PySem.evalArgs_none ?_)⟩
  · cases hb
    exact ⟨ob, h1, h2.2.1⟩
  refine raw_keys lo rw' ⟨.ref s1.heap.objs.size, _, I1.laid (t' := s1.toks) (o := KV2 s1.heap.objs.size d) (fun b o e => Heap.get?_push_of_some _ e) (Nat.le_refl _) ?_, rfl, q _ (I1.hok.fresh (Nat.le_refl _))⟩
  refine ⟨⟨_, Heap.get?_push_size _ rfl, rfl, rfl⟩, ⟨_, Heap.get?_push_size _ rfl⟩, fun a b x k => ?_⟩
  obtain ⟨o', ho', r'⟩ := x
  exact ⟨o', k _ ho', r'⟩
theorem keys_tups {P : Program} {w : World} {es : Array DictEntry} : ∀ {kvs : List (List Key × V)} {xs : List (List Key × Addr × Value)} {ks : List (List Int)}, Paired (fun (p : List Key × V) (q : List Key × Addr × Value) => p.1 = q.1 ∧ H q.2.1 = some (.tup (p.1.map kV)) ∧ RelV p.2 q.2.2) kvs xs → kvs.map Prod.fst = ks.map (List.map Sum.inl) → (∀ k ∈ ks, k ≠ []) → TupsH H (xs.map fun x => .ref x.2.1) ks
  | [], _, ks, .nil, e, _ => by
    cases ks with
    | nil => exact .nil
    | cons _ _ => simp at e
  | (k, v) :: kvs, _, ks, .cons h t, e, ne => by
    cases ks with
    | nil => simp at e
    | cons j ks =>
      simp only [List.map_cons, List.cons.injEq] at e
      refine .cons ?_ (ne j (.head _)) (keys_tups (P := P) (w := w) (es := es) t e.2 fun k m => ne k (.tail _ m))
      have := h.2.1
      rw [show k = j.map Sum.inl from e.1, List.map_map] at this
      exact this
theorem call_sortD (hc : X.calm = true) : CallR X (.builtin "sorted") (fun vs H Q => ∃ (v d : Addr) (kvs : List (List Key × V)) (ks : List (List Int)), vs = [.ref v] ∧ H v = some (KV2 v d) ∧ H d = some (.dT kvs) ∧ kvs.map Prod.fst = ks.map (List.map Sum.inl) ∧ (∀ k ∈ ks, k ≠ []) ∧ ks.length < 64 ∧ ∀ D xs ys, H D = none → TupsH H xs ks → SortH xs ks ys → Q (.ref D) (upd H D (.lst ys))) := by
  intro pins s σ H vs us Q I r h
  obtain ⟨v, d, kvs, ks, rfl, hv, hd, ek, ne, h64, q⟩ := h
  obtain ⟨u, rfl, ru⟩ := vals1 r
  cases ru
  obtain ⟨kv, _, _⟩ := (show ObjOk X.prog X.w H s.heap v (KV2 v d) from I.hok v _ hv)
  obtain ⟨_, lo, xs, rel, ob, es, ep, h1, h2, h3, h4, h5⟩ := (show ObjOk X.prog X.w H s.heap d (.dT kvs) from I.hok d _ hd)
  have rw' : RawD s.heap d es ep := ⟨ob, h1, h2, h3⟩
  have ht : TupsH H (xs.map fun x => V.ref x.2.1) ks := keys_tups (P := X.prog) (w := X.w) (es := es) rel ek ne
  have rv : Vals (xs.map fun x => V.ref x.2.1) (xs.map fun x => Value.ref x.2.1) := by
    clear ht rel h4 h5
    induction xs with
    | nil => exact .nil
    | cons a l ih => exact .cons rfl ih
  have hlk : ks.length = xs.length := by have := ht.len; simpa using this.symm
  have hse : es.size = xs.length := by rw [← Array.length_toList, h4, List.length_map]
  refine ls_sorted (vs := xs.map fun x => Value.ref x.2.1) (ks := ks) (ht.vals I.hok rv) (by simp; omega) (fun R hR => PySem.W.kdu_collect (raw_src (v := v) (d := d) (es := es) (ep := ep)) (I.ok.hd hc) ⟨kv, rw'⟩ (by rw [hse, sizeLine_eq]; omega) fun h' tk acc k ha => ?_) fun h1 h' tk out c k1 k2 hD z => sorted_end I ht rv (by simp; omega) k1 k2 hD z fun D ys n y => q D _ ys n ht y
  have e : acc.toList = xs.map fun x => Value.ref x.2.1 := by
    refine List.ext_getElem (by rw [Array.length_toList, ha.1, List.length_map]; exact hse) fun i a1 a2 => ?_
    have hi : i < acc.size := by simpa using a1
    obtain ⟨e, he, hx⟩ := ha.2 i acc[i] (Array.getElem?_eq_getElem hi)
    have he' : es.toList[i]? = some e := by rw [Array.getElem?_toList]; exact he
    rw [h4, List.getElem?_map] at he'
    have hix : i < xs.length := by simpa using a2
    rw [List.getElem?_eq_getElem hix] at he'
    simp only [Option.map_some, Option.some.injEq] at he'
    rw [Array.getElem_toList, hx, ← he', List.getElem_map]
    rfl
  rw [e]
  exact hR h' tk k
end
end L2
end
set_option Elab.async false
set_option linter.all false
set_option maxRecDepth 100000
namespace L2
open PySem PySem.Spec PyProof.Rows
section
variable {X : Cx}
theorem call_minL (hc : X.calm = true) : CallR X (.builtin "min") (fun xs H Q => ∃ (p : Addr) (ns : List Int), xs = [.ref p] ∧ SqL X.K H p (ns.map V.int) ∧ 0 < ns.length ∧ ∀ M, M ∈ ns → (∀ a, a ∈ ns → M ≤ a) → Q (.int M) H) := by
  intro pins s σ H xs us Q I r h
  obtain ⟨p, ns, rfl, hq, hne, q⟩ := h
  obtain ⟨u, rfl, ru⟩ := vals1 r
  cases ru
  obtain ⟨its, rv, pl, _⟩ := I.list hq
  have hi : IntsAre its ns := intsAre_of rv
  obtain ⟨ys, e⟩ := hi.allInts.items
  have hl := pl.isList
  rw [e] at hl
  have hns : ns = ys.toList.map (·.1) := by rw [← hi.numsOf, ← nums_intItems, ← e]
  have hsz : 0 < ys.size := by
    have h3 := hne; rw [hns, List.length_map, Array.length_toList] at h3; exact h3
  refine min_intList (I.ok.hd hc) hl hsz fun v h' tk hv hk => ?_
  obtain ⟨t, rfl⟩ := intItems_at hv
  obtain ⟨h1, h2⟩ := argBest_lt (numAt ys) (ys.size - 1)
  refine ⟨.int _, H, I.kept hk, ⟨_, rfl⟩, q _ ?_ fun a ha => ?_⟩
  · rw [hns, numAt_eq]; exact getD_mem (by rw [List.length_map, Array.length_toList]; omega)
  · rw [hns] at ha
    obtain ⟨j, hj, rfl⟩ := mem_getD ha
    rw [List.length_map, Array.length_toList] at hj
    rw [← numAt_eq]; exact h2 j (by omega)
theorem call_maxL (hc : X.calm = true) : CallR X (.builtin "max") (fun xs H Q => ∃ (p : Addr) (ns : List Int), xs = [.ref p] ∧ SqL X.K H p (ns.map V.int) ∧ 0 < ns.length ∧ ∀ M, M ∈ ns → (∀ a, a ∈ ns → a ≤ M) → Q (.int M) H) := by
  intro pins s σ H xs us Q I r h
  obtain ⟨p, ns, rfl, hq, hne, q⟩ := h
  obtain ⟨u, rfl, ru⟩ := vals1 r
  cases ru
  obtain ⟨its, rv, pl, _⟩ := I.list hq
  have hi : IntsAre its ns := intsAre_of rv
  obtain ⟨ys, e⟩ := hi.allInts.items
  have hl := pl.isList
  rw [e] at hl
  have hns : ns = ys.toList.map (·.1) := by rw [← hi.numsOf, ← nums_intItems, ← e]
  have hsz : 0 < ys.size := by
    have h3 := hne; rw [hns, List.length_map, Array.length_toList] at h3; exact h3
  refine max_intList (I.ok.hd hc) hl hsz fun v h' tk hv hk => ?_
  obtain ⟨t, rfl⟩ := intItems_at hv
  obtain ⟨h1, h2⟩ := argBest_gt (numAt ys) (ys.size - 1)
  refine ⟨.int _, H, I.kept hk, ⟨_, rfl⟩, q _ ?_ fun a ha => ?_⟩
  · rw [hns, numAt_eq]; exact getD_mem (by rw [List.length_map, Array.length_toList]; omega)
  · rw [hns] at ha
    obtain ⟨j, hj, rfl⟩ := mem_getD ha
    rw [List.length_map, Array.length_toList] at hj
    rw [← numAt_eq]; exact h2 j (by omega)
end
end L2
section
set_option maxHeartbeats 8000000
set_option Elab.async false
set_option linter.all false
set_option maxRecDepth 100000
namespace L2
open PySem PySem.Spec PyProof.Rows
open AutoSeq1 (wpAny_loadPart')
theorem draws_tuple {prog : Program} {w : World} {A : Around} (hh : A.handled = none) (it l : Addr) (hne : l ≠ it) (items : Array Value) :
    Draws prog w A it [it, l] items.size (fun i v => items[i]? = some v) (fun i h => h.IsTupleIter it l i ∧ h.IsTuple l items) where
  live := fun _ _ st => let ⟨o, ho, _⟩ := st.1; ⟨o, ho⟩
  frame := fun _ _ _ st hk => ⟨st.1.at fun o e => hk it (by simp) o e, st.2.at fun o e => hk l (by simp) o e⟩
  item := fun i s Q E hi st hQ => by
    refine nt_item st.1 st.2 (x := items[i]) (by simp [hi]) fun h' hit' hs' => ?_
    exact hQ _ h' s.toks (by simp [hi]) ⟨hit', st.2.extBut hs'.extBut hne⟩ hs'
  done := fun s Q E st hE => nt_end hh st.1 st.2 (by simp) hE
theorem meets_enum_tup (l : Addr) (items : Array Value) (n : Nat) (dct : Option Addr) (sl : Array (Option Value)) :
    Meets (Builtin.«enumerate.__new__» ⟨[.type "enumerate", .ref l], []⟩) (fun _ R s => s.heap.get? l = some { cls := .type "tuple", dict := dct, data := .seq items n, slots := sl } ∧
      R (.ok (.ret (.ref (s.heap.push { cls := .type "tuple_iterator", data := .fields #[.ref l, .int 0 0] }).objs.size)))
        { s with heap := (s.heap.push { cls := .type "tuple_iterator", data := .fields #[.ref l, .int 0 0] }).push { cls := .type "enumerate", data := .fields #[.none, .bool false, .ref s.heap.objs.size, rawInt 0, .none, .none] } }) :=
  .of_wp fun prog w A R s h => by
    obtain ⟨hp, g, d, tk, os⟩ := s; obtain ⟨hl, h⟩ := h
    have hsub := sub_enumerate
    have hL : Heap.IsTuple (Shared.heap ⟨hp, g, d, tk, os⟩) l items := ⟨_, hl, rfl, n, rfl⟩
    wp_walk using wpAny_loadPart' hl
    refine wpAny_stack_any fun st => wpAny_pure ?_
    split
    · rename_i c _ _ _ _ _
      cases (c == Value.type "enumerate")
      · wp_walk using wpAny_loadPart' hl, wpAny_pyIter_tuple hL
        exact ⟨_, rfl, h⟩
      · wp_walk using wpAny_loadPart' hl, wpAny_pyIter_tuple hL
        exact ⟨_, rfl, h⟩
    · wp_walk using wpAny_loadPart' hl, wpAny_pyIter_tuple hL
      exact ⟨_, rfl, h⟩
def IteK (k : Bool) (K : PySem.W.Frag) (l : Addr) : It :=
  ⟨fun i H => ∃ xs x, SqK k K H l xs ∧ xs[i]? = some x,
   fun i H v H' => ∃ T x, v = .ref T ∧ H T = none ∧ H' = upd H T (.tup [.int i, x]) ∧ ∀ xs, SqK k K H l xs → xs[i]? = some x,
   fun i H => ∃ xs, SqK k K H l xs ∧ xs.length ≤ i⟩
theorem turn_enumT {P : Program} {w : World} {K : PySem.W.Frag} {elts : List Expr} {kc : Nat} {tp : Pos} (e it l : Addr) (hne : e ≠ it) :
    Turn P w K (.Tuple elts kc tp) (IteK true K l) [e, it] e (fun i h => (∃ old, IsEnum h e it (i : Int) old) ∧ h.IsTupleIter it l i) where
  mem := by simp
  obj := fun i h st b hb => by
    obtain ⟨⟨old, Z⟩, o1, e1, _, d1⟩ := st
    simp only [List.mem_cons, List.not_mem_nil, or_false] at hb
    rcases hb with rfl | rfl
    · exact ⟨_, Z, fun _ r => by cases r⟩
    · exact ⟨_, e1, fun _ r => by rw [d1] at r; cases r⟩
  keep := fun i h h' st k => by
    obtain ⟨⟨old, Z⟩, Z1⟩ := st
    exact ⟨⟨old, k e (by simp) _ Z⟩, Z1.at fun o q => k it (by simp) o q⟩
  item := by
    intro X hP hw hK hc i pins s σ H E I hf st hg
    subst hP hw hK
    obtain ⟨xs, x, h1, ex⟩ := hg
    replace h1 : SqT X.K H l xs := h1
    obtain ⟨us, r1, p1, _⟩ := I.tuple h1
    replace p1 : s.heap.IsTuple l us.toArray := p1
    obtain ⟨ux, eu, rx⟩ := r1.get ex
    obtain ⟨⟨old, Z⟩, Z1⟩ := st
    have nl : l ≠ it := tup_ne_j p1 Z1
    have ne : e ≠ l := fun z => by
      obtain ⟨o, e1, e2, _⟩ := p1
      rw [← z, Z] at e1; cases e1; simp at e2
    refine wpAny_pyNext_enum_itemD (draws_tuple (A := X.A.in1) (I.ok.hd hc) it l nl us.toArray) Z ⟨Z1, p1⟩ (by have := (List.getElem?_eq_some_iff.mp eu).1; simpa using this) hne (by simp [hne, ne]) fun ux' h' tk hux Zo Zi pr sz kk => ⟨_, rfl, ?_⟩
    have eux : ux' = ux := by
      have hux : us.toArray[i]? = some ux' := hux
      rw [List.getElem?_toArray, eu] at hux
      cases hux; rfl
    subst eux
    refine wpAny_letOwnedTupleGo_enum (s := { s with heap := h', toks := tk + 1 }) Zo fun h2' Zz' sb => ?_
    replace sb : Heap.SameBut e h' h2' := sb
    have hTz : s.heap.objs.size ≠ e := Nat.ne_of_gt (Heap.lt_size Z)
    have kk2 : ∀ c o, c ≠ e → c ≠ it → s.heap.get? c = some o → h2'.get? c = some o := fun c o c1 c2 q => (sb.2 c c1).trans (kk c o c1 c2 q)
    have prT : h2'.get? s.heap.objs.size = some { cls := .type "tuple", data := .seq #[.int i tk, ux'] } := (sb.2 _ hTz).trans pr
    have hT : H s.heap.objs.size = none := I.hok.fresh (Nat.le_refl _)
    have neC : ∀ b, b ∉ [e, it] → b ≠ e ∧ b ≠ it := fun b hb => by simpa using hb
    have trk : ∀ b u, H b = some u → b ≠ e ∧ b ≠ it := fun b u q => by
      refine ⟨?_, ?_⟩ <;> rintro rfl
      · rw [(hf b (by simp)).1] at q; cases q
      · rw [(hf b (by simp)).1] at q; cases q
    have ltT : ∀ b o, s.heap.get? b = some o → b ≠ s.heap.objs.size := fun b o q => Nat.ne_of_lt (Heap.lt_size q)
    have u : Un (frs X.stack) [e, it] H (upd H s.heap.objs.size (.tup [.int i, x])) s.heap h2' :=
      ⟨fun b o q n _ hb => by obtain ⟨c1, c2⟩ := neC b hb; exact kk2 b o c1 c2 q, fun b o q n _ hb => by obtain ⟨c1, c2⟩ := neC b hb; exact ⟨o.slots, kk2 b o c1 c2 q⟩,
        fun b o q n hb => by rw [upd_ne (ltT b o q)]; exact n, fun b o q hb => by obtain ⟨c1, c2⟩ := neC b hb; exact ⟨o, kk2 b o c1 c2 q⟩,
        fun b ws q => by rw [upd_ne (ne_of_none q hT)]; exact q, fun b o ws q => by rw [upd_ne (ne_of_none q hT)]; exact q, fun b ps q => ⟨#[], by rw [upd_ne (ne_of_none q hT), q]; simp⟩⟩
    have hok : HOk X.prog X.w (upd H s.heap.objs.size (.tup [.int i, x])) h2' := fun b ob q => by
      by_cases hb : b = s.heap.objs.size
      · subst hb
        rw [upd_same] at q; cases q
        exact ⟨by show 2 ≤ sizeLine; decide, [.int i tk, ux'], .cons ⟨_, rfl⟩ (.cons rx .nil), _, prT, rfl, 0, rfl⟩
      · rw [upd_ne hb] at q
        refine (I.hok b ob q).stay (fun c v hc' qc => ?_) (fun c q => by rw [upd_ne (ne_of_none q hT)]; exact q) fun c ws q => by rw [upd_ne (ne_of_none q hT)]; exact q
        have : ∃ o, H c = some o := by
          rcases hc' with rfl | hc'
          · exact ⟨_, q⟩
          · exact ⟨_, hc'⟩
        obtain ⟨o, ho⟩ := this
        obtain ⟨c1, c2⟩ := trk c o ho
        exact kk2 c v c1 c2 qc
    refine ⟨.ref s.heap.objs.size, upd H s.heap.objs.size (.tup [.int i, x]), ?_, rfl, ⟨_, x, rfl, hT, rfl, fun xs' h => by rw [I.tuple_inj h h1]; exact ex⟩,
      ⟨⟨_, by rw [Int.natCast_add]; exact Zz'⟩, Zi.1.at fun o q => (sb.2 _ hne.symm).trans q⟩, fun b hb => ?_⟩
    · refine I.call' (s' := { s with heap := h2', toks := tk + 1 }) (ch := [e, it]) rfl u hok I.bare fun b hb => ?_
      obtain ⟨_, z1, z2, z3, z4, z5⟩ := hf b hb
      exact ⟨z3, z1, z4, z5⟩
    · obtain ⟨o, q⟩ : ∃ o, s.heap.get? b = some o := by
        obtain ⟨o1, e1, _⟩ := Z1
        simp only [List.mem_cons, List.not_mem_nil, or_false] at hb
        rcases hb with rfl | rfl
        · exact ⟨_, Z⟩
        · exact ⟨_, e1⟩
      rw [upd_ne (ltT b o q)]; exact (hf b hb).1
  done := by
    intro X hP hw hK hc i pins s σ H E I hf st hg
    subst hP hw hK
    obtain ⟨xs, h1, en⟩ := hg
    replace h1 : SqT X.K H l xs := h1
    obtain ⟨us, r1, p1, _⟩ := I.tuple h1
    replace p1 : s.heap.IsTuple l us.toArray := p1
    have l1 := r1.length
    obtain ⟨⟨old, Z⟩, Z1⟩ := st
    obtain ⟨f0, f1, f2, f3, f4, f5⟩ := hf it (by simp)
    have hT : s.TypeIs (.ref e) "enumerate" := ⟨_, Z, rfl⟩
    unfold pyNext
    refine wpAny_bind (wpAny_attempt (wpAny_callSpecial?_slot (name := Str.ofString "__next__") hT F.slot_enumerate_next
      (wpAny_call_entry F.slot_enumerate_next hT F.entry_enumerate_next ?_ (F.args_enumerate_next_1 _))))
    show wpAny _ _ (field (.ref e) 2 >>= _) _ _ _
    refine wpAny_bind (wpAny_field Z rfl (x := .ref it) rfl ?_)
    refine wpAny_bind (nt_end (I.ok.hd hc) Z1 p1 (by simp; omega) fun h' x he' hx' => ?_)
    obtain ⟨o, ho, hc'⟩ := hx'
    refine wpAny_bind (wpAny_isInstance (T := "StopIteration") (b := true) ⟨o, ho, hc'⟩ isSubtype_stop ?_)
    exact wpAny_pure ⟨rfl, I.turned (t' := s.toks) (fun b o hb q => he' b o hb q) f0 f1 f3 f4 f5⟩
  self := fun _ _ _ _ _ st h => by obtain ⟨⟨old, Z⟩, _⟩ := st; exact wpAny_pyIter_enum Z h
def iEnumK (K : PySem.W.Frag) (t : TA) : TI := fun σ H R => t σ H fun vs H1 => ∃ k l xs, vs = [.ref l] ∧ HSq k H1 l xs ∧ R (IteK k K l) H1
theorem pi_enumK {X : Cx} {a : Expr} {ta : TA} {p pos tp : Pos} {elts : List Expr} {kc : Nat} (hg : Gl X "enumerate") (hm : X.mg "enumerate" = none) (ha : PA X [a] ta) (hs : starEach [a] X.env = [(false, eval a X.env)] := by rfl) :
    PI X (.Tuple elts kc tp) (.Call (.Name "enumerate" p) [a] [] pos) (iEnumK X.K ta) := by
  intro pins s σ H R I h
  refine Call_ (ld_blt I hg hm (by decide +kernel : bootBuiltins "enumerate" = some (.type "enumerate")) (PyProof.Rows.callWith_type1 (thn (ha pos pins s σ H _ I h) fun us s1 ⟨vs, H1, I1, r1, q1⟩ => ?_) (by rw [hs]; rfl) (by rfl)))
  obtain ⟨k, l, xs, e, hl, q⟩ := q1
  subst e
  obtain ⟨u1, rfl, ru1⟩ := vals1 r1
  cases (show u1 = Value.ref l from ru1)
  cases k with
  | false =>
    replace hl : H1 l = some (.lst xs) := hl
    obtain ⟨z, its, n, rv, hol⟩ := (show ObjOk X.prog X.w H1 s1.heap l (.lst xs) from I1.hok l _ hl)
    refine callType_new F.called_enumerate (by decide) (F.typeCall_enumerate_1 _) (F.newCall_enumerate_1 _) (fun obj => F.args_object_init_2 obj _) F.entry_enumerate_new (meets_enumerate_new l its.toArray n) ⟨hol, ?_⟩
    have z1 : (s1.heap.push { cls := .type "list_iterator", data := .fields #[.ref l, .int 0 0] }).objs.size = s1.heap.objs.size + 1 := Heap.size_push ..
    have g1 : IsEnum ((s1.heap.push { cls := .type "list_iterator", data := .fields #[.ref l, .int 0 0] }).push { cls := .type "enumerate", data := .fields #[.none, .bool false, .ref s1.heap.objs.size, rawInt 0, .none, .none] }) (s1.heap.push { cls := .type "list_iterator", data := .fields #[.ref l, .int 0 0] }).objs.size s1.heap.objs.size 0 .none := Heap.get?_push_size _ rfl
    have g2 : ((s1.heap.push { cls := .type "list_iterator", data := .fields #[.ref l, .int 0 0] }).push { cls := .type "enumerate", data := .fields #[.none, .bool false, .ref s1.heap.objs.size, rawInt 0, .none, .none] }).IsListIter s1.heap.objs.size l 0 := ⟨_, Heap.get?_push_of_some _ (Heap.get?_push_size _ rfl), rfl, rfl⟩
    have g3 : ∀ c o, s1.heap.get? c = some o → ((s1.heap.push { cls := .type "list_iterator", data := .fields #[.ref l, .int 0 0] }).push { cls := .type "enumerate", data := .fields #[.none, .bool false, .ref s1.heap.objs.size, rawInt 0, .none, .none] }).get? c = some o := fun c o e => Heap.get?_push_of_some _ (Heap.get?_push_of_some _ e)
    rw [z1] at g1 ⊢
    show _ ∧ _
    refine ⟨⟨_, g1, rfl⟩, wpAny_pyIter_enum g1 ⟨s1.heap.objs.size + 1, [s1.heap.objs.size + 1, s1.heap.objs.size], _, IteK false X.K l, H1, rfl, I1.kept (t' := s1.toks) g3, turn_enum (s1.heap.objs.size + 1) s1.heap.objs.size l (Nat.succ_ne_self _), ⟨⟨_, g1⟩, g2⟩, fun b hb => ?_, q⟩⟩
    have hb' : s1.heap.objs.size ≤ b := by
      simp only [List.mem_cons, List.not_mem_nil, or_false] at hb
      rcases hb with rfl | rfl
      · exact Nat.le_add_right _ _
      · exact Nat.le_refl _
    exact I1.fpOk hb' (I1.hok.fresh hb')
  | true =>
    replace hl : H1 l = some (.tup xs) := hl
    obtain ⟨z, its, rv, o, ho, oc, n, od⟩ := (show ObjOk X.prog X.w H1 s1.heap l (.tup xs) from I1.hok l _ hl)
    obtain ⟨c, dct, dt, sl⟩ := o
    replace oc : c = .type "tuple" := oc
    replace od : dt = .seq its.toArray n := od
    subst oc od
    refine callType_new F.called_enumerate (by decide) (F.typeCall_enumerate_1 _) (F.newCall_enumerate_1 _) (fun obj => F.args_object_init_2 obj _) F.entry_enumerate_new (meets_enum_tup l its.toArray n dct sl) ⟨ho, ?_⟩
    have z1 : (s1.heap.push { cls := .type "tuple_iterator", data := .fields #[.ref l, .int 0 0] }).objs.size = s1.heap.objs.size + 1 := Heap.size_push ..
    have g1 : IsEnum ((s1.heap.push { cls := .type "tuple_iterator", data := .fields #[.ref l, .int 0 0] }).push { cls := .type "enumerate", data := .fields #[.none, .bool false, .ref s1.heap.objs.size, rawInt 0, .none, .none] }) (s1.heap.push { cls := .type "tuple_iterator", data := .fields #[.ref l, .int 0 0] }).objs.size s1.heap.objs.size 0 .none := Heap.get?_push_size _ rfl
    have g2 : ((s1.heap.push { cls := .type "tuple_iterator", data := .fields #[.ref l, .int 0 0] }).push { cls := .type "enumerate", data := .fields #[.none, .bool false, .ref s1.heap.objs.size, rawInt 0, .none, .none] }).IsTupleIter s1.heap.objs.size l 0 := ⟨_, Heap.get?_push_of_some _ (Heap.get?_push_size _ rfl), rfl, rfl⟩
    have g3 : ∀ c o, s1.heap.get? c = some o → ((s1.heap.push { cls := .type "tuple_iterator", data := .fields #[.ref l, .int 0 0] }).push { cls := .type "enumerate", data := .fields #[.none, .bool false, .ref s1.heap.objs.size, rawInt 0, .none, .none] }).get? c = some o := fun c o e => Heap.get?_push_of_some _ (Heap.get?_push_of_some _ e)
    rw [z1] at g1 ⊢
    show _ ∧ _
    refine ⟨⟨_, g1, rfl⟩, wpAny_pyIter_enum g1 ⟨s1.heap.objs.size + 1, [s1.heap.objs.size + 1, s1.heap.objs.size], _, _, H1, rfl, I1.kept (t' := s1.toks) g3, turn_enumT (s1.heap.objs.size + 1) s1.heap.objs.size l (Nat.succ_ne_self _), ⟨⟨_, g1⟩, g2⟩, fun b hb => ?_, q⟩⟩
    have hb' : s1.heap.objs.size ≤ b := by
      simp only [List.mem_cons, List.not_mem_nil, or_false] at hb
      rcases hb with rfl | rfl
      · exact Nat.le_add_right _ _
      · exact Nat.le_refl _
    exact I1.fpOk hb' (I1.hok.fresh hb')
end L2
end
set_option Elab.async false
set_option linter.all false
set_option maxRecDepth 100000
namespace L2
open PySem PySem.Spec PyProof.Rows
section
variable {X : Cx} {pos : Pos}
end
end L2
section
set_option maxHeartbeats 8000000
set_option Elab.async false
set_option linter.all false
set_option maxRecDepth 100000
namespace L2
open PySem PySem.Spec PyProof.Rows
def rSetDef : V → List V → Hp → VK → Prop := fun x vs H Q => ∃ a kvs k d, x = .ref a ∧ vs = [kV k, d] ∧ H a = some (.dK kvs) ∧ kvs.length < sizeLine ∧ (∀ v, valV kvs k = some v → Q v H) ∧ (valV kvs k = none → Q d (upd H a (.dK (putK kvs k d))))
section
variable {X : Cx}
theorem mt_setdef : MtR X "dict.setdefault" rSetDef := by
  intro pins s σ H x vs v us Q I rx rv h
  obtain ⟨a, kvs, k, d, rfl, rfl, hH, hz, q1, q2⟩ := h
  cases rx
  obtain ⟨uk, ud, rfl, rk, rd⟩ := vals2 rv
  obtain ⟨z, hd, ws, rel, dd⟩ := dk_of I.hok hH
  have hl : ws.length ≤ sizeLine := by rw [← rel.length]; omega
  have hl2 : (putK kvs k d).length ≤ sizeLine := by have := length_putK kvs k d; omega
  refine call_meetsIn F.slot_dict_setdefault dd.typeIs F.entry_dict_setdefault (F.args_dict_setdefault_3 _ _ _) (kt_meets_setdefault (mixKind X.prog X.w) a (kV_is rk) hd ud) ⟨ws, dd, hl, fun w hw => ?_, fun hn h' dd' hs => ?_⟩
  · have r := rel.val k
    rw [hw] at r
    cases hv : valV kvs k with
    | none => rw [hv] at r; exact (show False from r).elim
    | some y => rw [hv] at r; exact ⟨y, H, I.tok _, r, q1 y hv⟩
  · have r := rel.val k
    rw [hn] at r
    cases hv : valV kvs k with
    | some y => rw [hv] at r; exact (show False from r).elim
    | none =>
      have he : ∃ q, h'.get? a = some q := let ⟨q, _, _, hq, _⟩ := dd'; ⟨q, hq⟩
      exact ⟨d, _, d_write I (by rw [hH]; exact True.intro) hs he (dk_new hl2 hd (rel.put k rd) dd'), rd, q2 hv⟩
end
section
variable {prog : Program} {w : World} {A : Around} {E : Value → Shared → Prop} {s : Shared}
theorem ints_len : ∀ {us : List Value} {ns : List Int}, IntsAre us ns → us.length = ns.length := fun h => by
  have := (vals_ints h).length; simpa using this.symm
theorem li_sorted {x : Addr} {ns : List Int} {Q : Value → Shared → Prop} (h64 : ns.length < 64)
    (hcol : ∀ R : List Value → Shared → Prop, (∀ (h1 : Heap) (tk : Nat) (vs : List Value), IntsAre vs ns → (∀ b o, s.heap.get? b = some o → h1.get? b = some o) → R vs { s with heap := h1, toks := tk }) → wpAny (model prog w) A.in1 (collect (.ref x)) R E s)
    (h : ∀ (h1 h' : Heap) (tk : Nat) (out : List Value) (c : Nat) (ns' : List Int), (∀ b o, s.heap.get? b = some o → h1.get? b = some o) → (∀ b o, h1.get? b = some o → h'.get? b = some o) → h'.get? h1.objs.size = some (seqObj "list" (List.toArray out) c) → IntsAre out ns' → ns'.Perm ns → ns'.Pairwise (· ≤ ·) → Q (.ref h1.objs.size) { s with heap := h', toks := tk }) :
    wpAny (model prog w) A (call (.builtin "sorted") [.ref x]) Q E s := by
  refine Calls.call_function_entry kind_sorted plain_sorted entry_sorted (args_sorted1 _) ?_
  unfold Builtin.«sorted»
  refine wpAny_bind (m := checkCount "sorted" 1 1 _) (wpAny_pure (wpAny_bind (hcol _ fun h1 tk vs hI k1 => wpAny_bind (wpAny_newList ?_ (by have := ints_len hI; rw [sizeLine_eq]; omega)))))
  have hvl := ints_len hI
  have hoL : (h1.push (seqObj "list" vs.toArray 0)).get? h1.objs.size = some (seqObj "list" vs.toArray 0) := Heap.get?_push_size _ rfl
  show wpAny _ _ _ _ _ { s with heap := h1.push (seqObj "list" vs.toArray 0), toks := tk }
  refine wpAny_bind (wpAny_holding (wpAny_call_entry slot_list_sort ⟨_, hoL, rfl⟩ entry_list_sort (list_sort_tree (s := { s with heap := h1.push (seqObj "list" vs.toArray 0), toks := tk }) hoL hI (by omega) fun out ns' a1 a2 a3 => ⟨_, rfl, ?_⟩) (args_list_sort _)))
  obtain ⟨c, hc⟩ : ∃ c, (sortedHeap (h1.push (seqObj "list" vs.toArray 0)) h1.objs.size vs out).get? h1.objs.size = some (seqObj "list" out c) := sortedHeap_at hoL
  refine wpAny_pure ⟨_, rfl, h h1 _ tk out.toList c ns' k1 (fun b o e => ?_) (by simpa using hc) a1 a2 a3⟩
  have hlt : b < h1.objs.size := Heap.lt_size e
  rw [sortedHeap_old (Nat.ne_of_lt hlt) (show b < (h1.push _).objs.size by rw [size_push']; exact Nat.lt_succ_of_lt hlt)]
  exact Heap.get?_push_of_some _ e
end
section
variable {X : Cx} {pins : List (Addr × Obj)} {σ : St} {H : Hp} {s : Shared}
theorem mix_int {P : Program} {w : World} {n : Int} {v : Value} (h : (mixKind P w).is (Sum.inl n) v = true) : ∃ t, v = .int n t := by
  exact Value.isInt_shape (k := n) (v := v) h
theorem ints_by : ∀ {us : List Value} {ns : List Int}, us.length = ns.length → (∀ (i : Nat) (v : Value) (n : Int), us[i]? = some v → ns[i]? = some n → ∃ t, v = .int n t) → IntsAre us ns
  | [], [], _, _ => .nil
  | [], _ :: _, h, _ => by simp at h
  | _ :: _, [], h, _ => by simp at h
  | u :: us, n :: ns, h, f => by
    obtain ⟨t, rfl⟩ := f 0 u n rfl rfl
    exact .cons n t (ints_by (by simpa using h) fun i v m e1 e2 => f (i + 1) v m (by simpa using e1) (by simpa using e2))
theorem sortI_end {ns ns' : List Int} {out : List Value} {h1 h' : Heap} {tk c : Nat} {Q : VK} (I : Inv X pins σ H s) (h64 : ns.length < 64) (k1 : ∀ b o, s.heap.get? b = some o → h1.get? b = some o) (k2 : ∀ b o, h1.get? b = some o → h'.get? b = some o)
    (hD : h'.get? h1.objs.size = some (seqObj "list" (List.toArray out) c)) (hI : IntsAre out ns') (hp : ns'.Perm ns) (hs : ns'.Pairwise (· ≤ ·)) (q : ∀ D (ms : List Int), H D = none → ms.Perm ns → ms.Pairwise (· ≤ ·) → Q (.ref D) (upd H D (.lst (ms.map V.int)))) : EP X pins σ Q (.ref h1.objs.size) { s with heap := h', toks := tk } := by
  have J := I.kept (t' := tk) k1
  refine ⟨.ref h1.objs.size, _, J.laid (t' := tk) (o := .lst (ns'.map V.int)) k2 (Nat.le_refl _) ⟨?_, out, c, vals_ints hI, hD⟩, rfl, q _ ns' (J.hok.fresh (Nat.le_refl _)) hp hs⟩
  rw [List.length_map, hp.length_eq, sizeLine_eq]; omega
theorem call_sortI : CallR X (.builtin "sorted") (fun vs H Q => ∃ (p : Addr) (ns : List Int), vs = [.ref p] ∧ SqL X.K H p (ns.map V.int) ∧ ns.length < 64 ∧ ∀ D (ms : List Int), H D = none → ms.Perm ns → ms.Pairwise (· ≤ ·) → Q (.ref D) (upd H D (.lst (ms.map V.int)))) := by
  intro pins s σ H vs us Q I r h
  obtain ⟨p, ns, rfl, hq, h64, q⟩ := h
  obtain ⟨u, rfl, ru⟩ := vals1 r
  cases ru
  obtain ⟨its, rv, pl, hz⟩ := I.list hq
  have hl := rv.length
  rw [List.length_map] at hl
  refine li_sorted (ns := ns) h64 (fun R hR => collect_list pl.isList (hR _ s.toks its (intsAre_of rv) fun b o e => ?_) (by rw [sizeLine_eq]; omega)) fun h1 h' tk out c ns' k1 k2 hD a1 a2 a3 => sortI_end I h64 k1 k2 hD a1 a2 a3 q
  have hlt : b < s.heap.objs.size := Heap.lt_size e
  rw [Heap.get?_update_ne _ _ _ _ (Nat.ne_of_lt hlt), Heap.get?_push_ne _ _ _ (Nat.ne_of_lt hlt)]
  exact e
theorem call_sortK (hc : X.calm = true) : CallR X (.builtin "sorted") (fun vs H Q => ∃ (d : Addr) (kvs : List (Key × V)) (ns : List Int), vs = [.ref d] ∧ H d = some (.dK kvs) ∧ kvs.map Prod.fst = ns.map Sum.inl ∧ ns.length < 64 ∧ ∀ D (ms : List Int), H D = none → ms.Perm ns → ms.Pairwise (· ≤ ·) → Q (.ref D) (upd H D (.lst (ms.map V.int)))) := by
  intro pins s σ H vs us Q I r h
  obtain ⟨d, kvs, ns, rfl, hd, ek, h64, q⟩ := h
  obtain ⟨u, rfl, ru⟩ := vals1 r
  cases ru
  obtain ⟨z, lo, ws, rel, dd⟩ := dk_of I.hok hd
  obtain ⟨ep, hat⟩ := dd.dictAt
  have hk := rel.keys
  have hwl : ws.length = ns.length := by have := congrArg List.length (hk.symm.trans ek); simpa using this
  refine li_sorted (ns := ns) h64 (fun R hR => PySem.W.kdu_collect (PySem.W.kdl_dict (knd := mixKind X.prog X.w) (kvs := ws) (ep := ep) lo) (I.ok.hd hc) hat (by rw [hwl, sizeLine_eq]; omega) fun h' tk acc k ha => hR h' tk acc.toList ?_ k) fun h1 h' tk out c ns' k1 k2 hD a1 a2 a3 => sortI_end I h64 k1 k2 hD a1 a2 a3 q
  refine ints_by (by rw [Array.length_toList, ha.1]; exact hwl) fun i v n e1 e2 => ?_
  obtain ⟨kk, y, hy, hki⟩ := ha.2 i v (by rw [← Array.getElem?_toList]; exact e1)
  have e3 : (ws.map Prod.fst)[i]? = some kk := by rw [List.getElem?_map, hy]; rfl
  rw [← hk, ek, List.getElem?_map, e2] at e3
  cases e3
  exact mix_int hki
theorem call_lenK : CallR X (.builtin "len") (fun xs H Q => ∃ p kvs, xs = [.ref p] ∧ H p = some (.dK kvs) ∧ Q (.int kvs.length) H) := by
  intro pins s σ H xs us Q I r h
  obtain ⟨p, kvs, rfl, hd, q⟩ := h
  obtain ⟨u, rfl, ru⟩ := vals1 r
  cases ru
  obtain ⟨z, lo, ws, rel, dd⟩ := dk_of I.hok hd
  have hl := rel.length
  have hs : sizeLine = 16777216 := sizeLine_eq
  exact call_len_dict lo dd (by omega) ⟨.int kvs.length, H, I.tok _, ⟨_, by rw [hl]⟩, q⟩
end
end L2
end
section
set_option maxHeartbeats 4000000
set_option Elab.async false
set_option linter.all false
set_option maxRecDepth 100000
namespace L2
open PySem PySem.Spec PyProof.Rows
section
variable {X : Cx} {pins : List (Addr × Obj)} {σ : St} {H : Hp} {s : Shared}
def tKeysK (td : TE) : TE := fun σ H Q => td σ H fun x H1 => ∃ d kvs, x = .ref d ∧ H1 d = some (.dK kvs) ∧ ∀ v, H1 v = none → Q (.ref v) (upd H1 v (KV2 v d))
theorem pe_keysK {o : Expr} {td : TE} {apos cpos : Pos} (ho : PE X o td) (hbase : attributeBase o "keys" X.env (eval o X.env) = eval o X.env := by rfl) (hline : (apos.endLine == cpos.line) = true := by rfl) :
    PE X (.Call (.Attribute o "keys" apos) [] [] cpos) (tKeysK td) := by
  intro pins s σ H Q I h
  refine wpAny_Call_method0_late hbase hline (thn (ho pins s σ H _ I h) fun v s1 ⟨x, H1, I1, r1, d, kvs, ex, e, q⟩ => ?_)
  subst ex
  cases r1
  obtain ⟨z, lo, ws, rel, ob, es, ep, h1, h2, h3, h4⟩ := dk_of I1.hok e
  have rw' : RawD s1.heap d es ep := ⟨ob, h1, h2, h3⟩
  refine ⟨"dict", "dict.keys", PySem.F.plainAttrs_dict, PySem.F.slot_dict_keys, PySem.F.type_dict_keys, rw'.ty, fun b hb => ?_, Calls.callWith_builtin rfl (PySem.evalArgs_none ?_)⟩
  · cases hb
    exact ⟨ob, h1, h2.2.1⟩
  refine raw_keys lo rw' ⟨.ref s1.heap.objs.size, _, I1.laid (t' := s1.toks) (o := KV2 s1.heap.objs.size d) (fun b o e => Heap.get?_push_of_some _ e) (Nat.le_refl _) ?_, rfl, q _ (I1.hok.fresh (Nat.le_refl _))⟩
  refine ⟨⟨_, Heap.get?_push_size _ rfl, rfl, rfl⟩, ⟨_, Heap.get?_push_size _ rfl⟩, fun a b x k => ?_⟩
  obtain ⟨o', ho', r'⟩ := x
  exact ⟨o', k _ ho', r'⟩
theorem call_sortV (hc : X.calm = true) : CallR X (.builtin "sorted") (fun vs H Q => ∃ (v d : Addr) (kvs : List (Key × V)) (ns : List Int), vs = [.ref v] ∧ H v = some (KV2 v d) ∧ H d = some (.dK kvs) ∧ kvs.map Prod.fst = ns.map Sum.inl ∧ ns.length < 64 ∧ ∀ D (ms : List Int), H D = none → ms.Perm ns → ms.Pairwise (· ≤ ·) → Q (.ref D) (upd H D (.lst (ms.map V.int)))) := by
  intro pins s σ H vs us Q I r h
  obtain ⟨v, d, kvs, ns, rfl, hv, hd, ek, h64, q⟩ := h
  obtain ⟨u, rfl, ru⟩ := vals1 r
  cases ru
  obtain ⟨kv, _, _⟩ := (show ObjOk X.prog X.w H s.heap v (KV2 v d) from I.hok v _ hv)
  obtain ⟨z, lo, ws, rel, dd⟩ := dk_of I.hok hd
  obtain ⟨ep, hat⟩ := dd.dictAt
  have hk := rel.keys
  have hwl : ws.length = ns.length := by have := congrArg List.length (hk.symm.trans ek); simpa using this
  refine li_sorted (ns := ns) h64 (fun R hR => PySem.W.kdu_collect (PySem.W.kdl_keys (knd := mixKind X.prog X.w) (r := v) (d := d) (kvs := ws) (ep := ep)) (I.ok.hd hc) ⟨kv, hat⟩ (by rw [hwl, sizeLine_eq]; omega) fun h' tk acc k ha => hR h' tk acc.toList ?_ k) fun h1 h' tk out c ns' k1 k2 hD a1 a2 a3 => sortI_end I h64 k1 k2 hD a1 a2 a3 q
  refine ints_by (by rw [Array.length_toList, ha.1]; exact hwl) fun i v n e1 e2 => ?_
  obtain ⟨kk, y, hy, hki⟩ := ha.2 i v (by rw [← Array.getElem?_toList]; exact e1)
  have e3 : (ws.map Prod.fst)[i]? = some kk := by rw [List.getElem?_map, hy]; rfl
  rw [← hk, ek, List.getElem?_map, e2] at e3
  cases e3
  exact mix_int hki
end
end L2
end
section
set_option maxHeartbeats 8000000
set_option Elab.async false
set_option linter.all false
set_option maxRecDepth 100000
namespace PySem
theorem dl_miss : typeLookup (.type "list") "keys" = pure none := am_miss_of_fast (by decide +kernel)
theorem dl_entry_loop : entryFor table "dict.update.loop" = some Builtin.«dict.update.loop» := entryFor_of_tree (by kernel_rfl)
theorem dl_plain_loop : plainId "dict.update.loop" = true := by decide +kernel
section
variable {prog : Program} {w : World} {A : Around} {E : Value → Shared → Prop} {s : Shared} {l : Addr} {xs : Array Value} {c : Nat}
theorem dl_asked {u : Tok} {Q : Value → Shared → Prop} (hx : s.heap.get? l = some { cls := .type "list", data := .seq xs c }) (hA : A.handled = none)
    (h : ∀ hp tk e, Heap.NewAttrErr s.heap hp e (.ref l) "keys" → E (.ref e) { s with heap := hp, toks := tk }) :
    wpAny (model prog w) A (call (.builtin "list.__getattribute__") [.ref l, .str "keys" u]) Q E s :=
  call_meets F.slot_list_getattribute ⟨_, hx, rfl⟩ am_entry_list_getattribute (F.args_list_getattribute_2 _ _) (meets_getattribute_miss_list l xs c #[] "keys" u dl_miss (by decide +kernel)) ⟨hx, hA, h⟩
theorem dl_keys_none {Q : Option Value → Shared → Prop} (hx : s.heap.get? l = some { cls := .type "list", data := .seq xs c }) (hA : A.handled = none)
    (h : ∀ hp tk, (∀ b o, s.heap.get? b = some o → hp.get? b = some o) → Q none { s with heap := hp, toks := tk }) : wpAny (model prog w) A (getAttr? (.ref l) "keys") Q E s := by
  have way := And.intro F.slot_list_getattribute.lookup (F.slot_list_getattribute.bind (.ref l))
  have ends := And.intro am_list_getattr_none sub_AttributeError
  rcases s with ⟨hp, gs, dr, tk, os⟩
  have ty (t : Nat) : Shared.TypeIs ⟨hp, gs, dr, t, os⟩ (.ref l) "list" := ⟨_, hx, rfl⟩
  rcases way with ⟨w1, w2⟩
  rcases ends with ⟨e1, e2⟩
  show wpAny _ _ (mkText "keys" >>= getAttrBy? (.ref l)) _ _ _
  refine wpAny_bind (wpAny_mkText ?_)
  unfold getAttrBy?
  refine wpAny_bind (wpAny_attempt ?_)
  unfold getAttrBy
  refine wpAny_holding (wpAny_bind (wpAny_typeOf (ty _) (wpAny_bind (wpAny_of_eq w1 ?_))))
  show wpAny _ _ (getAttrByItsOwn (.ref l) _ (.type "list") (.builtin "list.__getattribute__") false false) _ _ _
  unfold getAttrByItsOwn
  refine wpAny_bind (wpAny_pure (wpAny_bind (wpAny_attempt (wpAny_holding ?_))))
  show wpAny _ _ (boundAndCalled (.builtin "list.__getattribute__") (.ref l) _) _ _ _
  unfold boundAndCalled
  refine wpAny_bind (wpAny_of_eq w2 (dl_asked (s := ⟨hp, gs, dr, _, os⟩) hx hA fun h1 t1 e x1 => ?_))
  have x2 := x1.of
  rcases x1.there with ⟨_, _, there⟩
  unfold getattributeRaised; (repeat first | assumption | wp_step); exact h _ _ x2.keeps
end
section
variable {prog : Program} {w : World} {K : Type} [DecidableEq K] {knd : KeyKind prog w K} {A : Around}
def dlS (kk : Nat → K) (vv : Nat → Value) : Nat → List (K × Value)
  | 0 => []
  | i + 1 => stored (dlS kk vv i) (kk i) (vv i)
theorem dlS_le (kk : Nat → K) (vv : Nat → Value) (i : Nat) : (dlS kk vv i).length ≤ i := by
  induction i with
  | zero => exact Nat.le_refl _
  | succ i ih =>
    have : (stored (dlS kk vv i) (kk i) (vv i)).length ≤ (dlS kk vv i).length + 1 := by unfold stored; split <;> simp
    exact Nat.le_trans this (Nat.succ_le_succ ih)
structure DlAt (knd : KeyKind prog w K) (h₀ h : Heap) (I l D : Addr) (items : Array Value) (kk : Nat → K) (vv : Nat → Value) (i : Nat) : Prop where
  it : h.IsListIter I l i
  li : h.IsList l items
  dd : h.DictOf knd D (dlS kk vv i)
  old : ∀ b o, h₀.get? b = some o → h.get? b = some o
def DlPs (knd : KeyKind prog w K) (h₀ : Heap) (items : Array Value) (kk : Nat → K) (vv : Nat → Value) : Prop :=
  ∀ i v, items[i]? = some v → ∃ a o m key, v = .ref a ∧ h₀.get? a = some o ∧ o.cls = .type "tuple" ∧ o.data = .seq #[key, vv i] m ∧ knd.is (kk i) key = true
theorem dl_loop {h₀ : Heap} {I l D : Addr} {items : Array Value} {kk : Nat → K} {vv : Nat → Value} {R : Result → Shared → Prop} (hh : A.handled = none) (n1 : l ≠ I) (n2 : D ≠ I) (n3 : D ≠ l) (f1 : h₀.get? I = none) (f2 : h₀.get? D = none) (hp : DlPs knd h₀ items kk vv) (hb : items.size ≤ sizeLine) (i : Nat) (s : Shared) (hi : i ≤ items.size)
    (Z : DlAt knd h₀ s.heap I l D items kk vv i) (k : ∀ hp tk, hp.DictOf knd D (dlS kk vv items.size) → (∀ b o, h₀.get? b = some o → hp.get? b = some o) → R (.ok (.ret .none)) { s with heap := hp, toks := tk }) :
    codeAny (model prog w) A (.builtin "dict.update.loop" ⟨[.ref D, .ref I, rawInt i, .none], []⟩) R s := by
  refine codeAny_builtin dl_entry_loop ?_
  rw [Around.under_plainId dl_plain_loop]
  rcases Nat.lt_or_ge i items.size with lt | ge
  · refine wpAny_bind (wpAny_pyNext_list_item Z.it Z.li (Array.getElem?_eq_getElem lt) fun h1 it1 sb1 => ?_)
    obtain ⟨a, o, m, key, ea, ha, ho, hd, hk⟩ := hp i _ (Array.getElem?_eq_getElem lt)
    have k1 : ∀ b o, h₀.get? b = some o → h1.get? b = some o := fun b o e => sb1.extBut b o (fun z => by rw [z, f1] at e; cases e) (Z.old b o e)
    have d1 : h1.DictOf knd D (dlS kk vv i) := Z.dd.extBut sb1.extBut n2
    simp only [ea]
    refine wpAny_bind (wpAny_holding (wpAny_bind (wpAny_tryCatch (wpAny_bind (wpAny_typeOf ⟨_, k1 _ _ ha, ho⟩ ?_)))))
    rw [if_pos (by decide)]
    refine wpAny_bind (wpAny_seqItems (k1 _ _ ha) hd (wpAny_pure (wpAny_holding (wpAny_dictSet_pairs (key := key) (v := vv i) hk d1 (hsz := Nat.le_trans (dlS_le kk vv i) (Nat.le_of_lt (Nat.lt_of_lt_of_le lt hb))) fun h2 d2 sb2 => ?_))))
    refine wpAny_pure ⟨plainId_quiet dl_plain_loop _, dl_loop hh n1 n2 n3 f1 f2 hp hb (i + 1) _ lt ⟨it1.extBut sb2.extBut n2.symm, (Z.li.extBut sb1.extBut n1).extBut sb2.extBut n3.symm, d2, fun b o e => sb2.extBut b o (fun z => by rw [z, f2] at e; cases e) (k1 b o e)⟩ k⟩
  · have e : i = items.size := Nat.le_antisymm hi ge
    subst e
    refine wpAny_bind (wpAny_pyNext_list_end hh Z.it Z.li (by simp) fun h1 keep => ?_)
    have d1 : h1.DictOf knd D (dlS kk vv items.size) := let ⟨o, es, ep, q, r⟩ := Z.dd; ⟨o, es, ep, keep _ _ n2 q, r⟩
    exact wpAny_bind (wpAny_pure (wpAny_pure (k h1 _ d1 fun b o e => keep b o (fun z => by rw [z, f1] at e; cases e) (Z.old b o e))))
termination_by items.size - i
theorem call_dict_pairs {E : Value → Shared → Prop} {s : Shared} {l : Addr} {items : Array Value} {c : Nat} {Q : Value → Shared → Prop} (hh : A.handled = none) (hl : s.heap.get? l = some { cls := .type "list", data := .seq items c }) (kk : Nat → K) (vv : Nat → Value) (hp : DlPs knd s.heap items kk vv) (hb : items.size ≤ sizeLine)
    (k : ∀ hp tk, hp.DictOf knd s.heap.objs.size (dlS kk vv items.size) → (∀ b o, s.heap.get? b = some o → hp.get? b = some o) → Q (.ref s.heap.objs.size) { s with heap := hp, toks := tk }) :
    wpAny (model prog w) A (call (.type "dict") [.ref l]) Q E s := by
  have lt1 : l < s.heap.objs.size := Heap.lt_size hl
  have none1 : ∀ a, s.heap.objs.size ≤ a → s.heap.get? a = none := fun a ha => by
    rcases e : s.heap.get? a with _ | o
    · rfl
    · exact absurd (Nat.lt_of_lt_of_le (Heap.lt_size e) ha) (Nat.lt_irrefl _)
  refine callType_codes (Q₁ := fun v t => v = .ref s.heap.objs.size ∧ t = { s with heap := s.heap.push ⟨.type "dict", none, .dict #[] 0, #[]⟩ }) F.kt_called_dict (F.kt_typeCall_dict_1 _) F.entry_dict_init (kt_code_dict_new _ ⟨rfl, rfl⟩) fun v t e => ?_
  rcases e with ⟨rfl, rfl⟩
  have dd : (s.heap.push ⟨.type "dict", none, .dict #[] 0, #[]⟩).DictOf knd s.heap.objs.size [] := .new s.heap
  have li := Heap.get?_push_of_some ⟨.type "dict", none, .dict #[] 0, #[]⟩ hl
  have gk : ∀ b o, s.heap.get? b = some o → (s.heap.push ⟨.type "dict", none, .dict #[] 0, #[]⟩).get? b = some o := fun b o e => Heap.get?_push_of_some _ e
  generalize s.heap.push ⟨.type "dict", none, .dict #[] 0, #[]⟩ = g at dd li gk
  refine ⟨dd.typeIs, F.args_dict_init_2 _ _, ?_⟩
  refine wpAny_bind (wpAny_bind (wpAny_notOrdered_dict dd.typeIs (wpAny_pure ?_)))
  refine wpAny_bind (wpAny_typeOf (s := { s with heap := g }) ⟨_, li, rfl⟩ ?_)
  rw [if_pos (by decide)]
  refine wpAny_bind (dl_keys_none li (by simpa using hh) fun g2 tk2 k2 => ?_)
  rw [if_pos (show Option.isNone (none : Option Value) = true from rfl)]
  have dd2 : g2.DictOf knd s.heap.objs.size [] := let ⟨o, es, ep, q, r⟩ := dd; ⟨o, es, ep, k2 _ _ q, r⟩
  have lt2 : s.heap.objs.size < g2.objs.size := let ⟨_, _, _, q, _⟩ := dd2; Heap.lt_size q
  refine wpAny_bind (wpAny_rule (wpAny_bind (wpAny_pyIter_list (s := { s with heap := g2, toks := tk2 }) ⟨_, k2 _ _ li, rfl, c, rfl⟩ (wpAny_pure ⟨plainId_quiet dl_plain_loop _, ?_⟩))))
  refine dl_loop (knd := knd) (h₀ := s.heap) (by simpa using hh) (Nat.ne_of_lt (Nat.lt_trans lt1 lt2)) (Nat.ne_of_lt lt2) (Nat.ne_of_gt lt1) (none1 _ (Nat.le_of_lt lt2)) (none1 _ (Nat.le_refl _)) hp hb 0 _ (Nat.zero_le _)
    ⟨⟨_, Heap.get?_push_size _ rfl, rfl, rfl⟩, ⟨_, Heap.get?_push_of_some _ (k2 _ _ li), rfl, c, rfl⟩, dd2.push _, fun b o e => Heap.get?_push_of_some _ (k2 _ _ (gk b o e))⟩ fun h3 tk3 d3 k3 => ⟨rfl, k h3 tk3 d3 k3⟩
end
end PySem
namespace L2
open PySem PySem.Spec PyProof.Rows
section
variable {X : Cx}
def putL (ps : List (Key × V)) : List (Key × V) := ps.foldl (fun acc p => putK acc p.1 p.2) []
theorem putL_snoc (ps : List (Key × V)) (p : Key × V) : putL (ps ++ [p]) = putK (putL ps) p.1 p.2 := by unfold putL; rw [List.foldl_append]; rfl
def PairsK (H : Hp) (us : List V) (ps : List (Key × V)) : Prop := us.length = ps.length ∧ ∀ (i : Nat) (v : V), us[i]? = some v → ∃ a k x, v = .ref a ∧ H a = some (.tup [kV k, x]) ∧ ps[i]? = some (k, x)
theorem call_dictL (hc : X.calm = true) : CallR X (.type "dict") (fun vs H Q => ∃ p us ps, vs = [.ref p] ∧ H p = some (.lst us) ∧ PairsK H us ps ∧ ∀ d, H d = none → Q (.ref d) (upd H d (.dK (putL ps)))) := by
  intro pins s σ H vs us0 Q I r h
  obtain ⟨p, us, ps, rfl, hp, hP, q⟩ := h
  obtain ⟨u, rfl, ru⟩ := vals1 r
  cases ru
  obtain ⟨z, its, n, rv, hl, e⟩ := I.lstM hp
  have hlen := hP.1
  have hx : ∀ i : Nat, ∃ val : Value, ∀ v, its[i]? = some v → ∃ a o m key k x, v = .ref a ∧ s.heap.get? a = some o ∧ o.cls = .type "tuple" ∧ o.data = .seq #[key, val] m ∧ (mixKind X.prog X.w).is k key = true ∧ ps[i]? = some (k, x) ∧ RelV x val := fun i => by
    cases hv : us[i]? with
    | none =>
      refine ⟨.none, fun v e => ?_⟩
      have h1 := List.getElem?_eq_none_iff.mp hv
      rw [List.getElem?_eq_none (by omega)] at e; cases e
    | some y =>
      obtain ⟨a, k, x, rfl, ha, hps⟩ := hP.2 i y hv
      obtain ⟨_, its2, rv2, o, h1, h2, m, h3⟩ := (show ObjOk X.prog X.w H s.heap a (.tup [kV k, x]) from I.hok a _ ha)
      obtain ⟨key, val, rfl, rk, rx⟩ := vals2 rv2
      refine ⟨val, fun v e => ?_⟩
      obtain ⟨w, hw, rw'⟩ := rv.get hv
      rw [hw] at e; cases e
      cases rw'
      exact ⟨a, o, m, key, k, x, rfl, h1, h2, h3, kV_is rk, hps, rx⟩
  obtain ⟨vv, hvv⟩ := Classical.skolem.mp hx
  have hits : ∀ i, i < ps.length → ∃ v, its[i]? = some v := fun i hi => ⟨_, List.getElem?_eq_getElem (by omega)⟩
  have rel : ∀ i, i ≤ ps.length → KV (putL (ps.take i)) (dlS (fun i => ((ps[i]?).map Prod.fst).getD (Sum.inl 0)) vv i) := by
    intro i
    induction i with
    | zero => intro _; exact .nil
    | succ i ih =>
      intro hi
      obtain ⟨v, hv⟩ := hits i (by omega)
      obtain ⟨a, o, m, key, k, x, _, _, _, _, _, hps, rx⟩ := hvv i v hv
      rw [List.take_add_one, hps]
      show KV (putL (ps.take i ++ [(k, x)])) (stored _ _ _)
      rw [putL_snoc]
      have ek : ((ps[i]?).map Prod.fst).getD (Sum.inl 0) = k := by rw [hps]; rfl
      dsimp only
      rw [ek]
      exact (ih (by omega)).put k rx
  have hr := rel ps.length (Nat.le_refl _)
  rw [List.take_length] at hr
  have hsz : its.toArray.size = ps.length := by rw [List.size_toArray]; omega
  have hz : (putL ps).length ≤ sizeLine := by
    have h1 := dlS_le (fun i => ((ps[i]?).map Prod.fst).getD (Sum.inl 0)) vv ps.length
    have h2 := hr.length
    omega
  refine call_dict_pairs (knd := mixKind X.prog X.w) (I.ok.hd hc) e (fun i => ((ps[i]?).map Prod.fst).getD (Sum.inl 0)) vv (fun i v hv => ?_) (by omega) fun h' tk hD hk => ?_
  · rw [← Array.getElem?_toList] at hv
    obtain ⟨a, o, m, key, k, x, h1, h2, h3, h4, h5, h6, _⟩ := hvv i v hv
    exact ⟨a, o, m, key, h1, h2, h3, h4, by dsimp only; rw [h6]; exact h5⟩
  · rw [hsz] at hD
    have lo : (s.heap.objs.size == sysModules) = false := by
      have := I.big
      exact beq_false_of_ne fun z => by rw [z] at this; exact Nat.lt_irrefl _ this
    exact ⟨.ref s.heap.objs.size, _, I.laid (t' := tk) (o := .dK (putL ps)) hk (Nat.le_refl _) (dk_new hz lo hr hD), rfl, q _ (I.hok.fresh (Nat.le_refl _))⟩
end
end L2
end
set_option Elab.async false
set_option linter.all false
set_option maxRecDepth 100000
namespace KK
open PySem L2
def top (i : Nat) : Stmt := PySem.Challenge.pw_clackrow_k34_rounds_refused.main.body.getD i (.Pass ⟨0, 0, 0, 0⟩)
abbrev s_is_whole : Stmt := top 5
abbrev s_is_tuple : Stmt := top 6
abbrev s_greatest_divisor : Stmt := top 7
abbrev s_is_ratio : Stmt := top 8
abbrev s_ratio : Stmt := top 9
abbrev s_least_multiple : Stmt := top 12
abbrev s_common_bottom : Stmt := top 13
abbrev s_track_of : Stmt := top 14
abbrev s_moment_of : Stmt := top 15
abbrev s_is_wall : Stmt := top 18
abbrev s_is_wall_pair : Stmt := top 19
abbrev s_is_ball_form : Stmt := top 20
abbrev s_is_row_form : Stmt := top 21
abbrev s_is_even : Stmt := top 22
abbrev s_is_still : Stmt := top 23
abbrev s_is_plain : Stmt := top 25
abbrev s_refuse_uneven : Stmt := top 26
abbrev s_refuse_no_box : Stmt := top 27
abbrev s_trip_of : Stmt := top 28
abbrev s_phases_of : Stmt := top 31
abbrev s_comes_again : Stmt := top 32
abbrev s_greatest_many : Stmt := top 33
abbrev s_least_round : Stmt := top 35
abbrev s_round_of : Stmt := top 36
abbrev s_lets_round : Stmt := top 37
abbrev s_law_pool : Stmt := top 39
abbrev s_law_next : Stmt := top 40
abbrev s_law_wide : Stmt := top 41
abbrev s_law_lowest : Stmt := top 42
abbrev s_law_settled : Stmt := top 43
abbrev s_law_speeds_drawn : Stmt := top 44
abbrev s_law_through : Stmt := top 45
abbrev s_law_world : Stmt := top 46
abbrev s_law_row : Stmt := top 47
abbrev s_law_moves : Stmt := top 48
abbrev s_law_round_word : Stmt := top 49
abbrev s_law_bounds : Stmt := top 50
abbrev s_law : Stmt := top 51
abbrev s_course_init : Stmt := inClass (top 11) 0
end KK
set_option Elab.async false
set_option linter.all false
set_option maxRecDepth 100000
namespace KK
open PySem L2
structure TxB (K : PySem.W.Frag) (mg : Str → Option Value) : Prop where
  ii : PySem.W.kitOne K (.type "int") (.type "int") = some true
  ib : PySem.W.kitOne K (.type "int") (.type "bool") = some false
  nIs : mg "isinstance" = none
  nInt : mg "int" = none
  nBool : mg "bool" = none
  nAbs : mg "abs" = none
  nLen : mg "len" = none
  nMax : mg "max" = none
  nMin : mg "min" = none
  nRange : mg "range" = none
  nTuple : mg "tuple" = none
  nSum : mg "sum" = none
section
variable {P : Program} {w : World} {K : PySem.W.Frag} {mg : Str → Option Value} {base : Heap}

def spWhole : Sp := fun vs H Q _ => ∃ i, vs = [.int i] ∧ Q (.bl true) H
theorem sc_whole : FnScope ["thing"] ["thing"] (defScope s_is_whole) := ⟨rfl, rfl, rfl, by decide +kernel, rfl, by decide +kernel, by decide +kernel⟩
theorem ok_whole (D : Df K mg "is_whole" s_is_whole ["thing"] []) (T : TxB K mg) : Cal P w K mg base "is_whole" 1 ["thing"] [] spWhole := by
  refine D.cal (k := 0) sc_whole (fun vs H Q E h => by obtain ⟨i, rfl, _⟩ := h; rfl) (fun f cdv A outer s H vs Q E hr h => ?_)
  obtain ⟨i, rfl, k⟩ := h
  refine ⟨_, pss_one (ps_ret (pe_and
    (pe_callB call_isinst rfl T.nIs PyProof.Rows.boot_isinstance (pa_cons (pv 0) (pa_cons (pe_bltn (v := .ty "int") (u := .type "int") rfl T.nInt PyProof.Rows.boot_int rfl) pa_nil)))
    (pe_one (pe_not (pe_callB call_isinst rfl T.nIs PyProof.Rows.boot_isinstance (pa_cons (pv 0) (pa_cons (pe_bltn (v := .ty "bool") (u := .type "bool") rfl T.nBool (by decide +kernel) rfl) pa_nil))))))), ?_⟩
  refine ⟨_, rfl, _, _, _, true, rfl, .int i, T.ii, true, rfl, iteT ?_⟩
  exact ⟨_, rfl, _, _, _, false, rfl, .int i, T.ib, false, rfl, k⟩

def spGcd : Sp := fun vs H Q _ => ∃ a b : Int, vs = [.int a, .int b] ∧ 0 ≤ a ∧ 0 ≤ b ∧ Q (.int (Int.gcd a b : Nat)) H
theorem sc_gcd : FnScope ["one", "other"] ["one", "other"] (defScope s_greatest_divisor) := ⟨rfl, rfl, rfl, by decide +kernel, rfl, by decide +kernel, by decide +kernel⟩
theorem ok_gcd (D : Df K mg "greatest_divisor" s_greatest_divisor ["one", "other"] []) : Cal P w K mg base "greatest_divisor" 1 ["one", "other"] [] spGcd := by
  refine D.cal (k := 0) sc_gcd (fun vs H Q E h => by obtain ⟨a, b, rfl, _⟩ := h; rfl) (fun f cdv A outer s H vs Q E hr h => ?_)
  obtain ⟨a, b, rfl, ha, hb, k⟩ := h
  refine ⟨_, pss_cons (ps_while PassesOwn.never (pt_cmpR op_gt (pv 1) pe_int (nomark _))
      (pss_one (ps_par (i := 0) (j := 1) rfl sc_gcd.nd rfl rfl (by decide) rfl rfl (pa_cons (pv 1) (pa_cons (pe_op op_mod (pv 0) (pv 1)) pa_nil)) (by rfl))))
    (pss_one (ps_ret (pv 0))), ?_⟩
  refine while_by (fun σ H1 => H1 = H ∧ ∃ x y : Int, σ = [some (.int x), some (.int y)] ∧ 0 ≤ x ∧ 0 ≤ y ∧ Int.gcd x y = Int.gcd a b)
    (fun σ _ => match σ with | [_, some (.int y)] => y.toNat | _ => 0) ⟨rfl, a, b, rfl, ha, hb, rfl⟩ ?_ ?_
  · rintro σ H1 ⟨rfl, x, y, rfl, hx, hy, e⟩
    refine ⟨_, rfl, _, _, rfl, rfl, _, rfl, ite2 (fun h => ?_) (fun h => ?_)⟩
    · have h' : 0 < y := of_decide_eq_true h
      refine ⟨_, rfl, _, rfl, _, rfl, _, _, rfl, rfl, h', _, _, rfl, ⟨rfl, _, _, rfl, hy, Int.emod_nonneg _ (by omega), ?_⟩, ?_⟩
      · rw [KM.gcd_step hx h']; exact e
      · show (x % y).toNat < y.toNat
        have := Int.emod_lt_of_pos x h'
        omega
    · have h' : ¬ 0 < y := fun z => h (decide_eq_true z)
      have : y = 0 := by omega
      subst this
      refine ⟨_, rfl, ?_⟩
      have e2 : x = (Int.gcd a b : Nat) := by rw [← e, Int.gcd_zero_right]; omega
      rw [e2]; exact k
  · rintro σ H1 Q1 Q2 hq ⟨v, e, i, j, e1, e2, k1, e3, q⟩
    exact ⟨v, e, i, j, e1, e2, k1, e3, hq _ _ q⟩

theorem sc_ratio : FnScope ["top", "bottom", "divisor"] ["top", "bottom"] (defScope s_ratio) := ⟨rfl, rfl, rfl, by decide +kernel, rfl, by decide +kernel, by decide +kernel⟩
theorem abs_eq (i : Int) : (if i < 0 then -i else i) = (i.natAbs : Int) := by split <;> omega
theorem ok_ratio {dvs : List V} (D : Df K mg "ratio" s_ratio ["top", "bottom"] dvs) (T : TxB K mg) (cW : Cal P w K mg base "is_whole" 1 ["thing"] [] spWhole) (cG : Cal P w K mg base "greatest_divisor" 1 ["one", "other"] [] spGcd) :
    Cal P w K mg base "ratio" 2 ["top", "bottom"] dvs spLow := by
  refine D.cal (k := 1) sc_ratio (fun vs H Q E h => by obtain ⟨a, b, rfl, _⟩ := h; rfl) (fun f cdv A outer s H vs Q E hr h => ?_)
  obtain ⟨t, b, rfl, hb, hz, k⟩ := h
  refine ⟨_, pss_cons (ps_if (pw_or (pt_not (pt_truth (pe_c cW hr (pa_cons (pv 0) pa_nil)) fun _ => rfl)) (pw_or (pt_not (pt_truth (pe_c cW hr (pa_cons (pv 1) pa_nil)) fun _ => rfl)) (pw_or1 (pt_cmpR op_eq (pv 1) pe_int (nomark _))))).pt pss_never pss_nil)
    (pss_cons (ps_set (i := 2) sc_ratio.nd rfl (Or.inl rfl) (pe_c cG hr (pa_cons (pe_callB call_abs rfl T.nAbs PyProof.Rows.boot_abs (pa_cons (pv 0) pa_nil)) (pa_cons (pe_callB call_abs rfl T.nAbs PyProof.Rows.boot_abs (pa_cons (pv 1) pa_nil)) pa_nil))))
    (pss_cons (ps_if (pt_cmpR op_lt (pv 1) pe_int (nomark _)) (pss_one (ps_set (i := 2) sc_ratio.nd rfl (Or.inl rfl) (pe_un un_neg (pv 2)))) pss_nil)
    (pss_one (ps_ret (pe_tup (pa_cons (pe_op op_fdivB (pv 0) (pv 2)) (pa_cons (pe_op op_fdivB (pv 1) (pv 2)) pa_nil))))))), ?_⟩
  refine ⟨_, rfl, t, rfl, true, rfl, iteF ?_⟩
  refine ⟨_, rfl, b, rfl, true, rfl, iteF ?_⟩
  refine ⟨_, rfl, rfl, _, rfl, ite2 (fun h => absurd (of_decide_eq_true h) (by intro z; injection z with z; exact hb z)) (fun _ => ?_)⟩
  refine ⟨_, rfl, t, rfl, ⟨_, rfl, b, rfl, ⟨_, _, rfl, (by rw [abs_eq]; omega), (by rw [abs_eq]; omega), ?_⟩⟩⟩
  have hd := KM.dv_ne (t := t) hb
  have hdz : Bd 8900 (KM.dv t b) := hz.of_le (KM.dv_le hb)
  have fin : ∀ σ : St, σ = [some (.int t), some (.int b), some (.int (KM.dv t b))] → tRet (tTup (tCons (tOp (rI CDivB fun i j => V.int (i.fdiv j)) (tVar 0) (tVar 2)) (tCons (tOp (rI CDivB fun i j => V.int (i.fdiv j)) (tVar 1) (tVar 2)) tNil))) { nx := fun _ H' => Q .non H', rt := Q } σ H := by
    rintro σ rfl
    refine ⟨_, rfl, _, rfl, _, _, rfl, rfl, ⟨hd, hdz⟩, _, rfl, _, rfl, _, _, rfl, rfl, ⟨hd, hdz⟩, ?_⟩
    refine ⟨by show 2 ≤ sizeLine; decide, fun p hp => k p _ (Same.upd hp) ?_⟩
    show upd H p _ p = _
    rw [upd_same]
    dsimp only
    rw [KM.dv_num hb, KM.dv_den hb]; rfl
  have ge : (Int.gcd (if t < 0 then -t else t) (if b < 0 then -b else b) : Nat) = Int.gcd t b := by
    rw [abs_eq, abs_eq]; simp [Int.gcd]
  refine ⟨_, rfl, _, _, rfl, rfl, _, rfl, ite2 (fun h => ?_) (fun h => ?_)⟩
  · have h' : b < 0 := of_decide_eq_true h
    refine ⟨_, rfl, _, rfl, fin _ ?_⟩
    rw [ge]; unfold KM.dv; rw [if_pos h']; rfl
  · have h' : ¬ b < 0 := fun z => h (decide_eq_true z)
    refine fin _ ?_
    rw [ge]; unfold KM.dv; rw [if_neg h']; rfl
end
end KK
set_option Elab.async false
set_option linter.all false
set_option maxRecDepth 100000
namespace KK
open PySem L2
section
variable {P : Program} {w : World} {K : PySem.W.Frag} {mg : Str → Option Value} {base : Heap}
section
variable {x y : Rat} {p q : Addr} {H : Hp}
end
end
end KK
section
set_option maxHeartbeats 4000000
set_option Elab.async false
set_option linter.all false
set_option maxRecDepth 100000
namespace KK
open PySem L2
def Pool (H : Hp) (p : Addr) : Prop := ∃ a b c : Int, H p = some (.lst [.int a, .int b, .int c])
structure Step (p : Addr) (H H' : Hp) : Prop where
  pool : Pool H' p
  keep : ∀ b o, H b = some o → b ≠ p → H' b = some o
theorem Step.trans {p : Addr} {H H1 H2 : Hp} (a : Step p H H1) (b : Step p H1 H2) : Step p H H2 := ⟨b.pool, fun c o e n => b.keep c o (a.keep c o e n) n⟩
theorem Step.same {p : Addr} {H H1 H2 : Hp} (a : Step p H H1) (b : Same H1 H2) : Step p H H2 := ⟨by obtain ⟨x, y, z, e⟩ := a.pool; exact ⟨x, y, z, b _ _ e⟩, fun c o e n => b c o (a.keep c o e n)⟩
theorem Step.pre {p : Addr} {H H1 H2 : Hp} (b : Step p H1 H2) (a : Same H H1) : Step p H H2 := ⟨b.pool, fun c o e n => b.keep c o (a c o e) n⟩
theorem Pool.new {H : Hp} {p l : Addr} {o : HO} (h : Pool H p) (hl : H l = none) : Pool (upd H l o) p := by obtain ⟨a, b, c, e⟩ := h; exact ⟨a, b, c, Same.upd hl _ _ e⟩
theorem Pool.ne {H : Hp} {p l : Addr} (h : Pool H p) (hl : H l = none) : l ≠ p := by obtain ⟨a, b, c, e⟩ := h; exact (ne_of_none e hl).symm
theorem Step.refl {p : Addr} {H : Hp} (h : Pool H p) : Step p H H := ⟨h, fun _ _ e _ => e⟩
theorem Step.tup {p a : Addr} {H H' : Hp} {xs : List V} (s : Step p H H') (hp : Pool H p) (h : H a = some (.tup xs)) : H' a = some (.tup xs) := by
  obtain ⟨_, _, _, e⟩ := hp
  exact s.keep a _ h (ne_of h e (by intro z; cases z))
section
variable {P : Program} {w : World} {K : PySem.W.Frag} {mg : Str → Option Value} {base : Heap}
def spDig : Sp := fun vs H Q _ => ∃ c : Int, vs = [.int c] ∧ ∀ p H', H p = none → Same H H' → Pool H' p → Q (.ref p) H'
theorem sc_dig : FnScope ["cell"] ["cell"] (defScope s_law_pool) := ⟨rfl, rfl, rfl, by decide +kernel, rfl, by decide +kernel, by decide +kernel⟩
theorem ok_dig (D : Df K mg "_law_pool" s_law_pool ["cell"] []) (T : TxB K mg) : Cal P w K mg base "_law_pool" 1 ["cell"] [] spDig := by
  refine D.cal (k := 0) sc_dig (fun vs H Q E h => by obtain ⟨a, rfl, _⟩ := h; rfl) (fun f cdv A outer s H vs Q E hr h => ?_)
  obtain ⟨c, rfl, k⟩ := h
  refine ⟨_, pss_one (ps_ret (pe_lst (pa_cons (pe_callB (call_max2 rfl) (by rfl) T.nMax PyProof.Rows.boot_max (pa_cons pe_int (pa_cons (pe_op op_sub (pv 0) (pe_op op_pow pe_int pe_int)) pa_nil))) (pa_cons (pe_op op_mod (pv 0) (pe_op op_pow pe_int pe_int)) (pa_cons pe_int pa_nil))))), ?_⟩
  refine ⟨_, rfl, _, _, rfl, rfl, ⟨by decide, by decide, by decide⟩, _, _, rfl, rfl, _, _, rfl, ?_⟩
  refine ⟨_, rfl, _, _, rfl, rfl, ⟨by decide, by decide, by decide⟩, _, _, rfl, rfl, (by show (0 : Int) < 10 ^ 18; decide), (by show 3 ≤ sizeLine; decide), fun p hp => ?_⟩
  exact k p _ hp (Same.upd hp) ⟨_, _, _, upd_same⟩

def spNext : Sp := fun vs H Q _ => ∃ (p : Addr) (n : Int), vs = [.ref p, .int n] ∧ 0 < n ∧ n < 1073741824 ∧ Pool H p ∧ ∀ (d : Int) H', 0 ≤ d → d < n → Step p H H' → Q (.int d) H'
theorem sc_next : FnScope ["pool", "base", "digit", "mixed", "stir"] ["pool", "base"] (defScope s_law_next) := ⟨rfl, rfl, rfl, by decide +kernel, rfl, by decide +kernel, by decide +kernel⟩
theorem step_set {H : Hp} {p : Addr} {a b c : Int} : Step p H (upd H p (.lst [.int a, .int b, .int c])) := ⟨⟨a, b, c, upd_same⟩, fun d o e n => by rw [upd_ne n]; exact e⟩
theorem ok_next (D : Df K mg "_law_next" s_law_next ["pool", "base"] []) : Cal P w K mg base "_law_next" 1 ["pool", "base"] [] spNext := by
  refine D.cal (k := 0) sc_next (fun vs H Q E h => by obtain ⟨a, b, rfl, _⟩ := h; rfl) (fun f cdv A outer s H vs Q E hr h => ?_)
  obtain ⟨p, n, rfl, n0, n1, ⟨a, b, c, hp⟩, k⟩ := h
  refine ⟨_, pss_cons (ps_if (pt_cmpR op_gt (pe_ix ix_list (pv 0) pe_int (fun _ _ => rfl)) pe_int (nomark _))
      (pss_cons (ps_set (i := 2) sc_next.nd rfl (Or.inl rfl) (pe_op op_mod (pe_ix ix_list (pv 0) pe_int (fun _ _ => rfl)) (pv 1)))
      (pss_cons (ps_asg (pe_op op_fdiv (pe_ix ix_list (pv 0) pe_int (fun _ _ => rfl)) (pv 1)) (pg_sub (pv 0) pe_int set_list))
      (pss_one (ps_ret (pv 2))))) pss_nil)
    (pss_cons (ps_asg (pe_op op_add (pe_ix ix_list (pv 0) pe_int (fun _ _ => rfl)) pe_int) (pg_sub (pv 0) pe_int set_list))
    (pss_cons (ps_set (i := 3) sc_next.nd rfl (Or.inl rfl) (pe_op op_mod (pe_op op_add (pe_ix ix_list (pv 0) pe_int (fun _ _ => rfl)) (pe_op op_mul pe_int (pe_ix ix_list (pv 0) pe_int (fun _ _ => rfl)))) pe_int))
    (pss_cons (ps_set (i := 4) sc_next.nd rfl (Or.inl rfl) (pe_op op_mod (pe_op op_mul (pe_op op_add (pv 3) pe_int) (pe_op op_add (pv 3) pe_int)) pe_int))
    (pss_one (ps_ret (pe_op op_mod (pe_op op_fdiv (pe_op op_mod (pe_op op_mul (pv 4) (pv 4)) pe_int) pe_int) (pv 1))))))), ?_⟩
  refine ⟨_, rfl, p, _, _, _, rfl, rfl, .of hp, rfl, _, _, rfl, rfl, _, rfl, ite2 (fun h => ?_) (fun h => ?_)⟩
  · refine ⟨_, rfl, p, _, _, _, rfl, rfl, .of hp, rfl, _, rfl, _, _, rfl, rfl, n0, ?_⟩
    refine ⟨_, rfl, p, _, _, _, rfl, rfl, .of hp, rfl, _, rfl, _, _, rfl, rfl, ⟨n0, n1⟩, ?_⟩
    refine ⟨_, rfl, p, _, _, 0, rfl, rfl, hp, rfl, ?_⟩
    exact ⟨_, rfl, k _ _ (Int.emod_nonneg _ (by omega)) (Int.emod_lt_of_pos _ n0) step_set⟩
  · refine ⟨_, rfl, p, _, _, _, rfl, rfl, .of hp, rfl, _, _, rfl, rfl, ?_⟩
    refine ⟨_, rfl, p, _, _, 2, rfl, rfl, hp, rfl, ?_⟩
    refine ⟨_, rfl, p, _, _, _, rfl, rfl, .of upd_same, rfl, _, rfl, p, _, _, _, rfl, rfl, .of upd_same, rfl, _, _, rfl, rfl, .inl ⟨by decide, by decide⟩, _, _, rfl, rfl, _, _, rfl, rfl, (by show (0 : Int) < 1000000007; decide), ?_⟩
    refine ⟨_, rfl, _, _, rfl, rfl, _, rfl, _, _, rfl, rfl, _, _, rfl, rfl, .inl (by constructor <;> omega), _, _, rfl, rfl, (by show (0 : Int) < 998244353; decide), ?_⟩
    refine ⟨_, rfl, _, rfl, _, _, rfl, rfl, .inl (by constructor <;> omega), _, _, rfl, rfl, (by show (0 : Int) < 2147483647; decide), _, _, rfl, rfl, ⟨by decide, by decide⟩, _, rfl, _, _, rfl, rfl, n0, ?_⟩
    exact k _ _ (Int.emod_nonneg _ (by omega)) (Int.emod_lt_of_pos _ n0) step_set

end
end KK
end
section
set_option maxHeartbeats 4000000
set_option Elab.async false
set_option linter.all false
set_option maxRecDepth 100000
namespace KK
open PySem L2 KM
inductive BallsAt (H : Hp) : List V → List Ball → Prop
  | nil : BallsAt H [] []
  | cons {a p q : Addr} {b : Ball} {vs : List V} {bs : List Ball} : H a = some (.tup [.ref p, .ref q, .int b.wt]) → RatAt H p b.pl → RatAt H q b.sp → BallsAt H vs bs → BallsAt H (.ref a :: vs) (b :: bs)
theorem BallsAt.mono {H H' : Hp} (m : ∀ b xs, H b = some (.tup xs) → H' b = some (.tup xs)) : ∀ {vs : List V} {bs : List Ball}, BallsAt H vs bs → BallsAt H' vs bs
  | _, _, .nil => .nil
  | _, _, .cons h1 h2 h3 t => .cons (m _ _ h1) (m _ _ h2) (m _ _ h3) (BallsAt.mono m t)
theorem BallsAt.same {H H' : Hp} {vs : List V} {bs : List Ball} (h : BallsAt H vs bs) (e : Same H H') : BallsAt H' vs bs := h.mono fun b xs z => e b _ z
theorem BallsAt.step {H H' : Hp} {p : Addr} {vs : List V} {bs : List Ball} (h : BallsAt H vs bs) (s : Step p H H') (hp : Pool H p) : BallsAt H' vs bs := h.mono fun b xs z => s.tup hp z
theorem BallsAt.length {H : Hp} : ∀ {vs : List V} {bs : List Ball}, BallsAt H vs bs → vs.length = bs.length
  | _, _, .nil => rfl
  | _, _, .cons _ _ _ t => by rw [List.length_cons, List.length_cons, BallsAt.length t]
theorem BallsAt.append {H : Hp} {us : List V} {cs : List Ball} (k : BallsAt H us cs) : ∀ {vs : List V} {bs : List Ball}, BallsAt H vs bs → BallsAt H (vs ++ us) (bs ++ cs)
  | _, _, .nil => k
  | _, _, .cons h1 h2 h3 t => .cons h1 h2 h3 (BallsAt.append k t)
theorem BallsAt.one {H : Hp} {a p q : Addr} {b : Ball} (h1 : H a = some (.tup [.ref p, .ref q, .int b.wt])) (h2 : RatAt H p b.pl) (h3 : RatAt H q b.sp) : BallsAt H [.ref a] [b] := .cons h1 h2 h3 .nil
theorem BallsAt.rev {H : Hp} : ∀ {vs : List V} {bs : List Ball}, BallsAt H vs bs → BallsAt H vs.reverse bs.reverse
  | _, _, .nil => .nil
  | _, _, .cons h1 h2 h3 t => by rw [List.reverse_cons, List.reverse_cons]; exact BallsAt.append (.one h1 h2 h3) (BallsAt.rev t)
theorem BallsAt.get {H : Hp} : ∀ {vs : List V} {bs : List Ball} {i : Nat} {v : V}, BallsAt H vs bs → vs[i]? = some v → ∃ (a p q : Addr) (b : Ball), bs[i]? = some b ∧ v = .ref a ∧ H a = some (.tup [.ref p, .ref q, .int b.wt]) ∧ RatAt H p b.pl ∧ RatAt H q b.sp
  | _, _, _, _, .nil, e => by simp at e
  | _, _, 0, _, .cons h1 h2 h3 _, e => by
    simp at e; subst e
    exact ⟨_, _, _, _, rfl, rfl, h1, h2, h3⟩
  | _, _, i + 1, v, .cons _ _ _ t, e => by
    obtain ⟨a, p, q, b, e1, r⟩ := BallsAt.get (i := i) t (by simpa using e)
    exact ⟨a, p, q, b, by simpa using e1, r⟩
def lexR (b c : Ball) : Prop := b.pl < c.pl ∨ (b.pl = c.pl ∧ b.sp < c.sp)
theorem lexR.trans {a b c : Ball} (h : lexR a b) (k : lexR b c) : lexR a c := by
  unfold lexR at *
  rcases h with h | ⟨h1, h2⟩ <;> rcases k with k | ⟨k1, k2⟩
  · exact .inl (by grind)
  · exact .inl (by grind)
  · exact .inl (by grind)
  · exact .inr ⟨by grind, by grind⟩
structure Good (bs : List Ball) : Prop where
  wt : ∀ b ∈ bs, 1 ≤ b.wt ∧ b.wt ≤ 1000
  sz : ∀ b ∈ bs, Sz 300 b.pl ∧ Sz 80 b.sp
  pw : bs.Pairwise lexR
theorem Good.nil : Good [] := ⟨(fun _ h => nomatch h), (fun _ h => nomatch h), List.Pairwise.nil⟩
theorem Good.snoc {bs : List Ball} {b : Ball} (G : Good bs) (hw : 1 ≤ b.wt ∧ b.wt ≤ 1000) (hs : Sz 300 b.pl ∧ Sz 80 b.sp) (h : ∀ cs c, bs = cs ++ [c] → lexR c b) : Good (bs ++ [b]) := by
  refine ⟨fun x hx => ?_, fun x hx => ?_, ?_⟩
  · rcases List.mem_append.mp hx with z | z
    · exact G.wt x z
    · simp at z; subst z; exact hw
  · rcases List.mem_append.mp hx with z | z
    · exact G.sz x z
    · simp at z; subst z; exact hs
  · rw [List.pairwise_append]
    refine ⟨G.pw, List.pairwise_singleton _ _, fun x hx y hy => ?_⟩
    simp at hy; subst hy
    rcases List.eq_nil_or_concat bs with e | ⟨cs, c, e⟩
    · subst e; exact (nomatch hx)
    · have e' : bs = cs ++ [c] := by simpa using e
      have hc := h cs c e'
      subst e'
      rcases List.mem_append.mp hx with z | z
      · have := (List.pairwise_append.mp G.pw).2.2 x z c (by simp)
        exact this.trans hc
      · simp at z; subst z; exact hc
section
variable {P : Program} {w : World} {K : PySem.W.Frag} {mg : Str → Option Value} {base : Heap}
end
end KK
end
section
set_option maxHeartbeats 4000000
set_option Elab.async false
set_option linter.all false
set_option maxRecDepth 100000
namespace KK
open PySem L2 KM
theorem pg_tupK {X : Cx} {es : List Expr} {k : Nat} {pos : Pos} {t : TGs} {n : Nat} {K : PySem.W.Frag} (hK : X.K = K) (hc : X.calm = true) (h : PGs X es t)
    (hn : (assignEach es X.env).length = n := by rfl) (hst : (assignEach es X.env).findIdx? (·.1) = none := by rfl) : PG X (.Tuple es k pos) (gTup K n t) := by subst hK; exact pg_tup hc h hn hst
theorem ix_tupK {X : Cx} {K : PySem.W.Frag} (hK : X.K = K) : IxR X (rIxT K) := by subst hK; exact ix_tup
theorem ix_listK {X : Cx} {K : PySem.W.Frag} (hK : X.K = K) : IxR X (rIxL K) := by subst hK; exact ix_list
section
variable {P : Program} {w : World} {K : PySem.W.Frag} {mg : Str → Option Value} {base : Heap}
theorem Bd9 {i : Int} (h : Bd 8900 i) : Bd 1000000 i := h.mono (by decide)
def lcmL (ks : List Int) : Int := ks.foldl (fun c n => c / (Int.gcd c n : Int) * n) 1
theorem lcm_step {c n : Int} (hc : 0 < c) (hn : 0 < n) : 0 < c / (Int.gcd c n : Int) * n := by
  refine Int.mul_pos ?_ hn
  have hg : 0 < (Int.gcd c n : Int) := by have := Int.gcd_pos_of_ne_zero_left n (a := c) (by omega); omega
  exact Int.ediv_pos_of_pos_of_dvd hc (by omega) (Int.gcd_dvd_left c n)
theorem lcm_le {c n : Int} (hc : 0 < c) (hn : 0 < n) : c / (Int.gcd c n : Int) * n ≤ c * n := by
  have hg : 0 < (Int.gcd c n : Int) := by have := Int.gcd_pos_of_ne_zero_left n (a := c) (by omega); omega
  exact Int.mul_le_mul_of_nonneg_right (Int.ediv_le_self _ (by omega)) (by omega)
theorem bd_lcm {m n : Nat} {c k : Int} (hc : 0 < c) (hk : 0 < k) (h : Bd m c) (h' : Bd n k) : Bd (m + n) (c / (Int.gcd c k : Int) * k) :=
  (h.mul h').of_le (by have := lcm_le hc hk; have := lcm_step hc hk; omega)
def Pos (n : Nat) (ks : List Int) : Prop := ∀ k ∈ ks, 0 < k ∧ Bd n k
def spLcm : Sp := fun vs H Q _ => ∃ p ks, vs = [.ref p] ∧ H p = some (.lst (ks.map V.int)) ∧ Pos 400 ks ∧ ks.length ≤ 20 ∧ Q (.int (lcmL ks)) H
theorem sc_lcm : FnScope ["numbers", "common", "number"] ["numbers"] (defScope s_least_multiple) := ⟨rfl, rfl, rfl, by decide +kernel, rfl, by decide +kernel, by decide +kernel⟩
theorem ok_lcm (D : Df K mg "least_multiple" s_least_multiple ["numbers"] []) (cG : Cal P w K mg base "greatest_divisor" 1 ["one", "other"] [] spGcd) : Cal P w K mg base "least_multiple" 2 ["numbers"] [] spLcm := by
  refine D.cal (k := 1) sc_lcm (fun vs H Q E h => by obtain ⟨_, _, rfl, _⟩ := h; rfl) (fun f cdv A outer s H vs Q E hr h => ?_)
  obtain ⟨p, ks, rfl, hp, hk, hl, k⟩ := h
  refine ⟨_, (pss_cons (ps_set (i := 1) sc_lcm.nd rfl (Or.inl rfl) pe_int)
    (pss_cons (ps_for PassesOwn.never rfl (pi_list (pv 0)) (pg_name (i := 2) sc_lcm.nd rfl (Or.inl rfl)) (pss_one (ps_set (i := 1) sc_lcm.nd rfl (Or.inl rfl) (pe_op op_mulB (pe_op op_fdivB (pv 1) (pe_c cG hr (pa_cons (pv 1) (pa_cons (pv 2) pa_nil)))) (pv 2)))))
    (pss_one (ps_ret (pv 1))))), ?_⟩
  refine ⟨_, rfl, p, rfl, ⟨_, SqL.of hp⟩, for_list (xs := ks.map V.int) (fun i σ H1 => H1 = H ∧ ∃ z, σ = [some (.ref p), some (.int (lcmL (ks.take i))), z] ∧ 0 < lcmL (ks.take i) ∧ Bd (1 + 400 * i) (lcmL (ks.take i))) ⟨rfl, none, rfl, (by show (0:Int) < 1; decide), (show (1 : Int).natAbs < 2 ^ 1 by decide)⟩ ?_ ?_ ?_⟩
  · rintro i σ H1 _ ⟨rfl, _⟩; exact .of hp
  · rintro i x σ H1 hx ⟨rfl, z, rfl, h1, h2⟩
    have hi : i < ks.length := by
      have := (List.getElem?_eq_some_iff.mp hx).1
      simpa using this
    obtain ⟨n, hn, rfl⟩ : ∃ n, ks[i]? = some n ∧ V.int n = x := by simpa using hx
    have hn' := hk n (List.mem_of_getElem? hn)
    have et : lcmL (ks.take (i + 1)) = lcmL (ks.take i) / (Int.gcd (lcmL (ks.take i)) n : Int) * n := by
      rw [List.take_add_one, hn]; simp [lcmL, List.foldl_append]
    have hg : 0 < (Int.gcd (lcmL (ks.take i)) n : Int) := by have := Int.gcd_pos_of_ne_zero_left n (a := lcmL (ks.take i)) (by omega); omega
    have b1 : Bd 8900 (lcmL (ks.take i)) := h2.mono (by omega)
    have hgb : Bd 8900 (Int.gcd (lcmL (ks.take i)) n : Int) := b1.of_le (by have := Int.le_of_dvd h1 (Int.gcd_dvd_left (lcmL (ks.take i)) n); omega)
    have hq : Bd 8900 ((lcmL (ks.take i)).fdiv (Int.gcd (lcmL (ks.take i)) n : Int)) := by
      rw [Int.fdiv_eq_ediv_of_nonneg _ (by omega)]
      exact b1.of_le (by have := Int.ediv_le_self (Int.gcd (lcmL (ks.take i)) n : Int) (a := lcmL (ks.take i)) (by omega); have := Int.ediv_nonneg (a := lcmL (ks.take i)) (b := (Int.gcd (lcmL (ks.take i)) n : Int)) (by omega) (by omega); omega)
    refine ⟨_, rfl, _, rfl, _, rfl, ⟨_, _, rfl, by omega, by omega, ?_⟩⟩
    refine ⟨_, _, rfl, rfl, ⟨by omega, hgb⟩, _, rfl, _, _, rfl, rfl, ⟨Bd9 hq, hn'.2.mono (by decide)⟩, ?_⟩
    refine ⟨rfl, some (.int n), ?_, ?_, ?_⟩
    · rw [et, ← Int.fdiv_eq_ediv_of_nonneg _ (by omega)]; rfl
    · rw [et]; exact lcm_step h1 hn'.1
    · rw [et]; exact (bd_lcm h1 hn'.1 h2 hn'.2).mono (by omega)
  · rintro σ H1 ⟨rfl, z, rfl, _⟩
    refine ⟨_, rfl, ?_⟩
    rw [List.length_map, List.take_length]; exact k
end
end KK
end
section
set_option maxHeartbeats 4000000
set_option Elab.async false
set_option linter.all false
set_option maxRecDepth 100000
namespace KK
open PySem L2 KM
def RatsI (H : Hp) (us : List V) (qs : List Rat) : Prop := us.length = qs.length ∧ ∀ (i : Nat) (v : V), us[i]? = some v → ∃ a q, v = V.ref a ∧ qs[i]? = some q ∧ RatAt H a q
theorem eq_map {α : Type} {f : α → V} {ys : List V} {qs : List α} (h : ys.length = qs.length) (k : ∀ (i : Nat) (v : V), ys[i]? = some v → ∃ q, qs[i]? = some q ∧ v = f q) : ys = qs.map f := by
  refine List.ext_getElem? fun i => ?_
  by_cases hi : i < ys.length
  · obtain ⟨q, e1, e2⟩ := k i ys[i] (by simp [hi])
    rw [List.getElem?_map, e1, List.getElem?_eq_getElem hi, e2]; rfl
  · rw [List.getElem?_eq_none (by omega), List.getElem?_eq_none (by rw [List.length_map]; omega)]
theorem len2 {σ : St} (h : σ.length = 2) : ∃ a b, σ = [a, b] := by
  match σ, h with
  | [a, b], _ => exact ⟨a, b, rfl⟩
theorem len1 {σ : St} (h : σ.length = 1) : ∃ a, σ = [a] := by
  match σ, h with
  | [a], _ => exact ⟨a, rfl⟩
theorem small20 {n : Nat} (h : n ≤ 20) : n < sizeLine := Nat.lt_of_le_of_lt h (by decide)
section
variable {P : Program} {w : World} {K : PySem.W.Frag} {mg : Str → Option Value} {base : Heap}
def lcmD (qs : List Rat) : Int := lcmL (qs.map fun q => (q.den : Int))
def spCB : Sp := fun vs H Q _ => ∃ p us qs, vs = [.ref p] ∧ H p = some (.lst us) ∧ RatsI H us qs ∧ (∀ q ∈ qs, Bd 400 (q.den : Int)) ∧ qs.length ≤ 20 ∧ ∀ H', Same H H' → Q (.int (lcmD qs)) H'
theorem sc_cb : FnScope ["ratios"] ["ratios"] (defScope s_common_bottom) := ⟨rfl, rfl, rfl, by decide +kernel, rfl, by decide +kernel, by decide +kernel⟩
theorem ok_cb (D : Df K mg "common_bottom" s_common_bottom ["ratios"] []) (cL : Cal P w K mg base "least_multiple" 2 ["numbers"] [] spLcm) : Cal P w K mg base "common_bottom" 3 ["ratios"] [] spCB := by
  refine D.cal (k := 2) sc_cb (fun vs H Q E h => by obtain ⟨_, _, _, rfl, _⟩ := h; rfl) (fun f cdv A outer s H vs Q E hr h => ?_)
  obtain ⟨p, us, qs, rfl, hp, hR, hb, hl, k⟩ := h
  refine ⟨_, (pss_one (ps_ret (pe_c cL hr (pa_cons (pe_comp (NB := ["top", "bottom"]) rfl (by decide +kernel) (by decide +kernel) rfl (by decide +kernel) (pi_list (pv 0)) (by intro _ _ _; refine ⟨?_, ?_, ?_⟩; (exact (pg_tupK (K := K) (n := 2) rfl rfl (pgs_cons (pg_name (i := 0) (show List.Nodup (["top", "bottom"] : List Str) by decide +kernel) rfl (Or.inl rfl)) (pgs_cons (pg_name (i := 1) (show List.Nodup (["top", "bottom"] : List Str) by decide +kernel) rfl (Or.inl rfl)) pgs_nil)))); (exact pts_nil); (exact (pv 1)))) pa_nil)))), ?_⟩
  refine ⟨_, rfl, p, rfl, ⟨_, SqL.of hp⟩, fun Da hD => ?_⟩
  refine comp_each (J := Itl K p) (n := 2) (g := gTup K 2 (gCons (gName 0) (gCons (gName 1) gNil))) (te := tVar 1) (xs := us) (fun i v _ => ∃ q : Rat, qs[i]? = some q ∧ v = .int (q.den : Int)) (fun _ _ _ _ _ z => z) hD (runs_list hp) (small20 (by rw [hR.1]; exact hl)) ?_ ?_
  · intro i x zs H2 Q' hx hz s2 hk
    obtain ⟨a, q, rfl, hq, ha⟩ := hR.2 i x hx
    obtain ⟨z1, z2, rfl⟩ := len2 hz
    exact ⟨a, _, rfl, SqT.of (s2 _ _ ha), rfl, _, _, rfl, _, _, rfl, rfl, _, rfl, hk _ _ (Same.refl _) ⟨q, hq, rfl⟩⟩
  · intro ys H' s' hy hyl hyR
    have e := eq_map (f := fun q : Rat => V.int (q.den : Int)) (hyl.trans hR.1) hyR
    refine ⟨Da, qs.map fun q : Rat => (q.den : Int), rfl, ?_, fun n hn => ?_, by simpa using hl, k H' s'⟩
    · rw [hy, e, List.map_map]; rfl
    · obtain ⟨q, hq, rfl⟩ := List.mem_map.mp hn
      exact ⟨by have := q.den_pos; omega, hb q hq⟩
theorem ati0 {a : V} {r : List V} : atI (a :: r) 0 = some a := by
  unfold atI ixN; rw [if_pos (by decide), if_pos (by simp only [List.length_cons]; omega)]; rfl
theorem ati1 {a b : V} {r : List V} : atI (a :: b :: r) 1 = some b := by
  unfold atI ixN; rw [if_pos (by decide), if_pos (by simp only [List.length_cons]; omega)]; rfl
structure TCo (K : PySem.W.Frag) (C : Addr) : Prop where
  cls : Cls K C
  pb : NoAttr K C "place_bottom"
  sb : NoAttr K C "speed_bottom"
  tick : NoAttr K C "tick"
  weights : NoAttr K C "weights"
  tracks : NoAttr K C "tracks"
  low : NoAttr K C "low"
  high : NoAttr K C "high"
def ThAt (H : Hp) (a : Addr) (x y : Rat) : Prop := ∃ p q r, H a = some (.tup (.ref p :: .ref q :: r)) ∧ RatAt H p x ∧ RatAt H q y
theorem ThAt.keeps {H H' : Hp} {a : Addr} {x y : Rat} (h : ThAt H a x y) (t : TupS H H') : ThAt H' a x y := by
  obtain ⟨p, q, r, h1, h2, h3⟩ := h
  exact ⟨p, q, r, t _ _ h1, t _ _ h2, t _ _ h3⟩
def byB (x : Rat) (b : Int) : Int := x.num * b.fdiv (x.den : Int)
def spTr (C : Addr) : Sp := fun vs H Q _ => ∃ (c dx : Addr) (fs : List (Str × V)) (pb sb : Int), H c = some (.ins C dx fs) ∧ fs.lookup ("place_bottom" : Str) = some (V.int pb) ∧ fs.lookup ("speed_bottom" : Str) = some (V.int sb) ∧
  ((vs = [.ref c, .non] ∧ Q .non H) ∨ ∃ a x y, vs = [.ref c, .ref a] ∧ ThAt H a x y ∧ Sz 400 x ∧ Sz 400 y ∧ 0 < pb ∧ 0 < sb ∧ Bd 8900 pb ∧ Bd 8900 sb ∧ ∀ r H', Same H H' → H' r = some (.tup [.int (byB x pb), .int (byB y sb)]) → Q (.ref r) H')
theorem sc_tr : FnScope ["course", "thing", "start"] ["course", "thing"] (defScope s_track_of) := ⟨rfl, rfl, rfl, by decide +kernel, rfl, by decide +kernel, by decide +kernel⟩
theorem bd_fdiv {b d : Int} (hb : 0 < b) (hd : 0 < d) (h : Bd 8900 b) : Bd 8900 (b.fdiv d) := by
  rw [Int.fdiv_eq_ediv_of_nonneg _ (by omega)]
  exact h.of_le (by have := Int.ediv_le_self d (a := b) (by omega); have := Int.ediv_nonneg (a := b) (b := d) (by omega) (by omega); omega)
theorem ok_tr {C : Addr} (D : Df K mg "track_of" s_track_of ["course", "thing"] []) (TC : TCo K C) : Cal P w K mg base "track_of" 1 ["course", "thing"] [] (spTr C) := by
  refine D.cal (k := 0) sc_tr (fun vs H Q E h => by obtain ⟨_, _, _, _, _, _, _, _, ⟨rfl, _⟩ | ⟨_, _, _, rfl, _⟩⟩ := h <;> rfl) (fun f cdv A outer s H vs Q E hr h => ?_)
  obtain ⟨c, dx, fs, pb, sb, hc, e1, e2, h⟩ := h
  refine ⟨_, (pss_cons (ps_if (pt_cmpR op_isN (pv 1) pe_non (nomark _)) (pss_one (ps_ret pe_non)) pss_nil)
    (pss_cons (ps_set (i := 2) sc_tr.nd rfl (Or.inl rfl) (pe_op op_mulB (pe_ix ix_tup (pe_ix ix_tup (pv 1) pe_int (fun _ _ => rfl)) pe_int (fun _ _ => rfl)) (pe_op op_fdivB (pe_fld (pv 0) rfl) (pe_ix ix_tup (pe_ix ix_tup (pv 1) pe_int (fun _ _ => rfl)) pe_int (fun _ _ => rfl)))))
    (pss_one (ps_ret (pe_tup (pa_cons (pv 2) (pa_cons (pe_op op_mulB (pe_ix ix_tup (pe_ix ix_tup (pv 1) pe_int (fun _ _ => rfl)) pe_int (fun _ _ => rfl)) (pe_op op_fdivB (pe_fld (pv 0) rfl) (pe_ix ix_tup (pe_ix ix_tup (pv 1) pe_int (fun _ _ => rfl)) pe_int (fun _ _ => rfl)))) pa_nil))))))), ?_⟩
  rcases h with ⟨rfl, k⟩ | ⟨a, x, y, rfl, ⟨p, q, r, ha, hp, hq⟩, hx, hy, p1, p2, b1, b2, k⟩
  · refine ⟨_, rfl, rfl, _, rfl, iteT k⟩
  · refine ⟨_, rfl, rfl, _, rfl, iteF ?_⟩
    have d1 : 0 < (x.den : Int) := by have := x.den_pos; omega
    have d2 : 0 < (y.den : Int) := by have := y.den_pos; omega
    have z1 := bd_fdiv p1 d1 b1
    have z2 := bd_fdiv p2 d2 b2
    refine ⟨_, rfl, a, _, _, _, rfl, rfl, .of ha, ati0, p, _, _, _, rfl, rfl, .of hp, at0 .., _, rfl, c, C, dx, fs, _, rfl, hc, TC.cls, TC.pb, e1, _, rfl, a, _, _, _, rfl, rfl, .of ha, ati0, p, _, _, _, rfl, rfl, .of hp, at1 .., _, _, rfl, rfl, ⟨by omega, hx.2.mono (by decide)⟩, _, _, rfl, rfl, ⟨hx.1.mono (by decide), Bd9 z1⟩, ?_⟩
    refine ⟨_, rfl, _, rfl, a, _, _, _, rfl, rfl, .of ha, ati1, q, _, _, _, rfl, rfl, .of hq, at0 .., _, rfl, c, C, dx, fs, _, rfl, hc, TC.cls, TC.sb, e2, _, rfl, a, _, _, _, rfl, rfl, .of ha, ati1, q, _, _, _, rfl, rfl, .of hq, at1 .., _, _, rfl, rfl, ⟨by omega, hy.2.mono (by decide)⟩, _, _, rfl, rfl, ⟨hy.1.mono (by decide), Bd9 z2⟩, ?_⟩
    exact ⟨by show 2 ≤ sizeLine; decide, fun r hr => k r _ (Same.upd hr) (by rw [upd_same]; rfl)⟩
end
end KK
end
section
set_option maxHeartbeats 4000000
set_option Elab.async false
set_option linter.all false
set_option maxRecDepth 100000
namespace KK
open PySem L2 KM
theorem lcm_dvd {c n : Int} (hc : 0 < c) (hn : 0 < n) : c ∣ c / (Int.gcd c n : Int) * n ∧ n ∣ c / (Int.gcd c n : Int) * n := by
  refine ⟨?_, Int.dvd_mul_left ..⟩
  obtain ⟨m, hm⟩ := Int.gcd_dvd_right c n
  have hg : 0 < (Int.gcd c n : Int) := by have := Int.gcd_pos_of_ne_zero_left n (a := c) (by omega); omega
  refine ⟨m, ?_⟩
  have e1 : c / (Int.gcd c n : Int) * (Int.gcd c n : Int) = c := Int.ediv_mul_cancel (Int.gcd_dvd_left c n)
  calc c / (Int.gcd c n : Int) * n = c / (Int.gcd c n : Int) * ((Int.gcd c n : Int) * m) := by rw [← hm]
    _ = c / (Int.gcd c n : Int) * (Int.gcd c n : Int) * m := by rw [Int.mul_assoc]
    _ = c * m := by rw [e1]
theorem lcm_fold {n : Nat} : ∀ {ks : List Int} {c : Int} {m : Nat}, 0 < c → Bd m c → Pos n ks →
    0 < ks.foldl (fun c n => c / (Int.gcd c n : Int) * n) c ∧ Bd (m + n * ks.length) (ks.foldl (fun c n => c / (Int.gcd c n : Int) * n) c) ∧ c ∣ ks.foldl (fun c n => c / (Int.gcd c n : Int) * n) c ∧ ∀ k ∈ ks, k ∣ ks.foldl (fun c n => c / (Int.gcd c n : Int) * n) c
  | [], c, m, hc, hm, _ => ⟨hc, hm, Int.dvd_refl c, fun k hk => by cases hk⟩
  | k :: r, c, m, hc, hm, hp => by
    have hk := hp k List.mem_cons_self
    have d := lcm_dvd hc hk.1
    obtain ⟨a1, a2, a3, a4⟩ := lcm_fold (ks := r) (lcm_step hc hk.1) (bd_lcm hc hk.1 hm hk.2) fun x hx => hp x (List.mem_cons_of_mem _ hx)
    refine ⟨a1, a2.mono (by rw [List.length_cons, Nat.mul_add]; omega), Int.dvd_trans d.1 a3, fun x hx => ?_⟩
    rcases List.mem_cons.mp hx with rfl | hx
    · exact Int.dvd_trans d.2 a3
    · exact a4 x hx
theorem lcmD_ok {qs : List Rat} (h : ∀ q ∈ qs, Bd 400 (q.den : Int)) (hl : qs.length ≤ 20) : 0 < lcmD qs ∧ Bd 8900 (lcmD qs) ∧ ∀ q ∈ qs, (q.den : Int) ∣ lcmD qs := by
  obtain ⟨a1, a2, _, a4⟩ := lcm_fold (n := 400) (ks := qs.map fun q => (q.den : Int)) (c := 1) (m := 1) (by decide) (show (1 : Int).natAbs < 2 ^ 1 by decide) (fun k hk => by
    obtain ⟨q, hq, rfl⟩ := List.mem_map.mp hk
    exact ⟨by have := q.den_pos; omega, h q hq⟩)
  exact ⟨a1, a2.mono (by rw [List.length_map]; omega), fun q hq => a4 _ (List.mem_map.mpr ⟨q, hq, rfl⟩)⟩

structure Bl where
  pl : Rat
  sp : Rat
  wt : Int
def BlAt (H : Hp) (v : V) (b : Bl) : Prop := ∃ a p q, v = V.ref a ∧ H a = some (.tup [.ref p, .ref q, .int b.wt]) ∧ RatAt H p b.pl ∧ RatAt H q b.sp
def RowI (H : Hp) (us : List V) (bs : List Bl) : Prop := us.length = bs.length ∧ ∀ (i : Nat) (v : V), us[i]? = some v → ∃ b, bs[i]? = some b ∧ BlAt H v b
def WlAt (H : Hp) (v : V) : Option (Rat × Rat) → Prop
  | none => v = .non
  | some w => ∃ a, v = V.ref a ∧ ThAt H a w.1 w.2
theorem BlAt.keeps {H H' : Hp} {v : V} {b : Bl} (h : BlAt H v b) (t : TupS H H') : BlAt H' v b := by
  obtain ⟨a, p, q, e, h1, h2, h3⟩ := h
  exact ⟨a, p, q, e, t _ _ h1, t _ _ h2, t _ _ h3⟩
theorem RowI.keeps {H H' : Hp} {us : List V} {bs : List Bl} (h : RowI H us bs) (t : TupS H H') : RowI H' us bs :=
  ⟨h.1, fun i v e => by obtain ⟨b, e1, e2⟩ := h.2 i v e; exact ⟨b, e1, e2.keeps t⟩⟩
theorem WlAt.keeps {H H' : Hp} {v : V} {w : Option (Rat × Rat)} (h : WlAt H v w) (t : TupS H H') : WlAt H' v w := by
  cases w with
  | none => exact h
  | some w => obtain ⟨a, e, h⟩ := h; exact ⟨a, e, h.keeps t⟩
def TsI (H : Hp) (vs : List V) (ts : List (Rat × Rat)) : Prop := vs.length = ts.length ∧ ∀ (i : Nat) (v : V), vs[i]? = some v → ∃ t a, ts[i]? = some t ∧ v = V.ref a ∧ ThAt H a t.1 t.2
theorem TsI.keeps {H H' : Hp} {vs : List V} {ts : List (Rat × Rat)} (h : TsI H vs ts) (t : TupS H H') : TsI H' vs ts :=
  ⟨h.1, fun i v e => by obtain ⟨x, a, e1, e2, e3⟩ := h.2 i v e; exact ⟨x, a, e1, e2, e3.keeps t⟩⟩
theorem TsI.nil {H : Hp} : TsI H [] [] := ⟨rfl, fun i v e => by simp at e⟩
theorem TsI.cons {H : Hp} {a : Addr} {t : Rat × Rat} {vs : List V} {ts : List (Rat × Rat)} (h : ThAt H a t.1 t.2) (r : TsI H vs ts) : TsI H (.ref a :: vs) (t :: ts) := by
  refine ⟨by simp [r.1], fun i v e => ?_⟩
  cases i with
  | zero => simp at e; subst e; exact ⟨t, a, rfl, rfl, h⟩
  | succ i => obtain ⟨x, b, e1, e2⟩ := r.2 i v (by simpa using e); exact ⟨x, b, by simpa using e1, e2⟩
theorem TsI.append {H : Hp} {vs vs' : List V} {ts ts' : List (Rat × Rat)} (h : TsI H vs ts) (h' : TsI H vs' ts') : TsI H (vs ++ vs') (ts ++ ts') := by
  refine ⟨by simp [h.1, h'.1], fun i v e => ?_⟩
  by_cases hi : i < vs.length
  · rw [List.getElem?_append_left hi] at e
    rw [List.getElem?_append_left (by rw [← h.1]; exact hi)]
    exact h.2 i v e
  · rw [List.getElem?_append_right (by omega)] at e
    rw [List.getElem?_append_right (by rw [← h.1]; omega), ← h.1]
    exact h'.2 _ v e
theorem RowI.ts {H : Hp} {us : List V} {bs : List Bl} (h : RowI H us bs) : TsI H us (bs.map fun b => (b.pl, b.sp)) := by
  refine ⟨by simp [h.1], fun i v e => ?_⟩
  obtain ⟨b, e1, a, p, q, rfl, h1, h2, h3⟩ := h.2 i v e
  exact ⟨(b.pl, b.sp), a, by rw [List.getElem?_map, e1]; rfl, rfl, p, q, _, h1, h2, h3⟩
def oneT : Option (Rat × Rat) → List (Rat × Rat)
  | none => []
  | some w => [w]
theorem walls_ts {H : Hp} {v1 v2 : V} {lo hi : Option (Rat × Rat)} (h1 : WlAt H v1 lo) (h2 : WlAt H v2 hi) : TsI H ([v1, v2].filter fun v => !decide (v = .non)) (oneT lo ++ oneT hi) := by
  have one : ∀ {v : V} {w : Option (Rat × Rat)}, WlAt H v w → TsI H ([v].filter fun v => !decide (v = .non)) (oneT w) := fun {v w} h => by
    cases w with
    | none =>
      have e : v = .non := h
      subst e; exact .nil
    | some w =>
      obtain ⟨a, e, h⟩ := h
      subst e
      rw [List.filter_cons_of_pos (by simp)]
      exact .cons h .nil
  have e : ([v1, v2].filter fun v => !decide (v = .non)) = ([v1].filter fun v => !decide (v = .non)) ++ ([v2].filter fun v => !decide (v = .non)) := by
    rw [← List.filter_append]; rfl
  rw [e]; exact (one h1).append (one h2)
def SameX (c : Addr) (H H' : Hp) : Prop := ∀ b o, b ≠ c → H b = some o → H' b = some o
theorem SameX.of {c : Addr} {H H' : Hp} (h : Same H H') : SameX c H H' := fun b o _ e => h b o e
theorem SameX.trans {c : Addr} {H H1 H2 : Hp} (a : SameX c H H1) (b : SameX c H1 H2) : SameX c H H2 := fun x o n e => b x o n (a x o n e)
theorem SameX.upd {c : Addr} {H : Hp} {o : HO} : SameX c H (upd H c o) := fun b u n e => by rw [upd_ne n]; exact e
theorem SameX.tup {c C dx : Addr} {fs : List (Str × V)} {H H' : Hp} (h : SameX c H H') (e : H c = some (.ins C dx fs)) : TupS H H' := fun b xs q => h b _ (fun z => by subst z; rw [e] at q; cases q) q
end KK
end
section
set_option maxHeartbeats 4000000
set_option Elab.async false
set_option linter.all false
set_option maxRecDepth 100000
namespace KK
open PySem L2 KM
structure TxQ (K : PySem.W.Frag) (mg : Str → Option Value) : Prop extends TxB K mg where
  nList : mg "list" = none
  nZip : mg "zip" = none
def TrAt (H : Hp) (v : V) : Option (Int × Int) → Prop
  | none => v = .non
  | some t => ∃ a, v = V.ref a ∧ H a = some (.tup [.int t.1, .int t.2])
def TrsI (H : Hp) (vs : List V) (ts : List (Int × Int)) : Prop := vs.length = ts.length ∧ ∀ (i : Nat) (v : V), vs[i]? = some v → ∃ t, ts[i]? = some t ∧ TrAt H v (some t)
theorem TrAt.keeps {H H' : Hp} {v : V} {w : Option (Int × Int)} (h : TrAt H v w) (t : TupS H H') : TrAt H' v w := by
  cases w with
  | none => exact h
  | some w => obtain ⟨a, e, h⟩ := h; exact ⟨a, e, t _ _ h⟩
theorem TrsI.keeps {H H' : Hp} {vs : List V} {ts : List (Int × Int)} (h : TrsI H vs ts) (t : TupS H H') : TrsI H' vs ts :=
  ⟨h.1, fun i v e => by obtain ⟨x, e1, e2⟩ := h.2 i v e; exact ⟨x, e1, e2.keeps t⟩⟩
structure CoF (H : Hp) (fs : List (Str × V)) (pb sb : Int) (tk : Rat) (ws : List Int) (trs : List (Int × Int)) (lo hi : Option (Int × Int)) : Prop where
  pb : fs.lookup ("place_bottom" : Str) = some (V.int pb)
  sb : fs.lookup ("speed_bottom" : Str) = some (V.int sb)
  tick : ∃ tp, fs.lookup ("tick" : Str) = some (V.ref tp) ∧ RatAt H tp tk
  weights : ∃ wl, fs.lookup ("weights" : Str) = some (V.ref wl) ∧ H wl = some (.lst (ws.map V.int))
  tracks : ∃ tl tv, fs.lookup ("tracks" : Str) = some (V.ref tl) ∧ H tl = some (.lst tv) ∧ TrsI H tv trs
  low : ∃ v, fs.lookup ("low" : Str) = some v ∧ TrAt H v lo
  high : ∃ v, fs.lookup ("high" : Str) = some v ∧ TrAt H v hi
  len : fs.length ≤ 20
def CoAt (H : Hp) (C c : Addr) (pb sb : Int) (tk : Rat) (ws : List Int) (trs : List (Int × Int)) (lo hi : Option (Int × Int)) : Prop := ∃ dx fs, H c = some (.ins C dx fs) ∧ CoF H fs pb sb tk ws trs lo hi
def CoN (H0 H : Hp) (C c : Addr) (pb sb : Int) (tk : Rat) (ws : List Int) (trs : List (Int × Int)) (lo hi : Option (Int × Int)) : Prop := ∃ dx fs tl, H c = some (.ins C dx fs) ∧ CoF H fs pb sb tk ws trs lo hi ∧ fs.lookup ("tracks" : Str) = some (V.ref tl) ∧ H0 tl = none
theorem CoN.co {H0 H : Hp} {C c : Addr} {pb sb : Int} {tk : Rat} {ws : List Int} {trs : List (Int × Int)} {lo hi : Option (Int × Int)} (h : CoN H0 H C c pb sb tk ws trs lo hi) : CoAt H C c pb sb tk ws trs lo hi := by
  obtain ⟨dx, fs, tl, h1, h2, _⟩ := h; exact ⟨dx, fs, h1, h2⟩
def ths (bs : List Bl) (lo hi : Option (Rat × Rat)) : List (Rat × Rat) := bs.map (fun b => (b.pl, b.sp)) ++ (oneT lo ++ oneT hi)
def pbO (bs : List Bl) (lo hi : Option (Rat × Rat)) : Int := lcmD ((ths bs lo hi).map (·.1))
def sbO (bs : List Bl) (lo hi : Option (Rat × Rat)) : Int := lcmD ((ths bs lo hi).map (·.2))
def trB (pb sb : Int) (t : Rat × Rat) : Int × Int := (byB t.1 pb, byB t.2 sb)
section
variable {P : Program} {w : World} {K : PySem.W.Frag} {mg : Str → Option Value} {base : Heap}
def spCo (C : Addr) : Sp := fun vs H Q _ => ∃ c dx r wa us bs v1 v2 lo hi, vs = [V.ref c, .ref r, .ref wa] ∧ H c = some (.ins C dx []) ∧ H r = some (.tup us) ∧ RowI H us bs ∧ H wa = some (.tup [v1, v2]) ∧ WlAt H v1 lo ∧ WlAt H v2 hi ∧ bs.length ≤ 8 ∧
  (∀ t ∈ ths bs lo hi, Sz 400 t.1 ∧ Sz 400 t.2) ∧ ∀ H', SameX c H H' → CoN H H' C c (pbO bs lo hi) (sbO bs lo hi) (Rat.divInt (sbO bs lo hi) (pbO bs lo hi)) (bs.map Bl.wt) (bs.map fun b => trB (pbO bs lo hi) (sbO bs lo hi) (b.pl, b.sp)) (lo.map (trB (pbO bs lo hi) (sbO bs lo hi))) (hi.map (trB (pbO bs lo hi) (sbO bs lo hi))) → Q .non H'
theorem sc_ci : FnScope ["self", "row", "walls", "things"] ["self", "row", "walls"] (defScope s_course_init) := ⟨rfl, rfl, rfl, by decide +kernel, rfl, by decide +kernel, by decide +kernel⟩
theorem ths_len {bs : List Bl} {lo hi : Option (Rat × Rat)} (h : bs.length ≤ 8) : (ths bs lo hi).length ≤ 20 := by
  unfold ths
  have e : ∀ w : Option (Rat × Rat), (oneT w).length ≤ 1 := fun w => by cases w <;> simp [oneT]
  have := e lo
  have := e hi
  simp only [List.length_append, List.length_map]; omega
theorem comp_th {σ : St} {H : Hp} {Q : VK} {L : Addr} {vs : List V} {ts : List (Rat × Rat)} {j : Nat} {i : Int} (f : Rat × Rat → Rat) (hσ : σ[j]? = some (some (.ref L))) (hL : H L = some (.lst vs)) (hT : TsI H vs ts) (hl : ts.length ≤ 20)
    (hf : ∀ H2 a t, ThAt H2 a t.1 t.2 → ∃ xs p, H2 a = some (.tup xs) ∧ atI xs i = some (.ref p) ∧ RatAt H2 p (f t))
    (k : ∀ D ys H', Same H H' → H' D = some (.lst ys) → RatsI H' ys (ts.map f) → Q (.ref D) H') :
    tComp 1 (iList K (tVar j)) (gName 0) (fun _ H Q => Q true H) (tOp (rIxT K) (tVar 0) (tC (.int i))) σ H Q := by
  refine ⟨_, hσ, L, rfl, ⟨_, SqL.of hL⟩, fun D hD => ?_⟩
  refine comp_each (J := Itl K L) (n := 1) (g := gName 0) (te := tOp (rIxT K) (tVar 0) (tC (.int i))) (xs := vs) (fun m v H => ∃ t p, ts[m]? = some t ∧ v = .ref p ∧ RatAt H p (f t)) (fun _ _ _ _ t ⟨x, p, e1, e2, e3⟩ => ⟨x, p, e1, e2, t _ _ e3⟩) hD (runs_list hL) (small20 (by rw [hT.1]; exact hl)) ?_ ?_
  · intro m x zs H2 Q' hx hz s2 hk
    obtain ⟨t, a, e, rfl, ha⟩ := hT.2 m x hx
    obtain ⟨z1, rfl⟩ := len1 hz
    obtain ⟨xs, p, h1, h2, h3⟩ := hf H2 a t (ha.keeps (.of s2))
    dsimp only [gName]
    try rw [if_pos rfl]
    exact ⟨_, rfl, a, _, _, _, rfl, rfl, .of h1, h2, hk _ _ (Same.refl _) ⟨t, p, e, rfl, h3⟩⟩
  · intro ys H' s' hy hyl hyR
    refine k D ys H' s' hy ⟨by simp [hyl, hT.1], fun m v e => ?_⟩
    obtain ⟨t, p, e1, e2, e3⟩ := hyR m v e
    exact ⟨p, f t, e2, by rw [List.getElem?_map, e1]; rfl, e3⟩
end
end KK
end
section
set_option maxHeartbeats 4000000
set_option Elab.async false
set_option linter.all false
set_option maxRecDepth 100000
namespace KK
open PySem L2 KM
section
variable {P : Program} {w : World} {K : PySem.W.Frag} {mg : Str → Option Value} {base : Heap}
theorem th0 : ∀ (H2 : Hp) (a : Addr) (t : Rat × Rat), ThAt H2 a t.1 t.2 → ∃ xs p, H2 a = some (.tup xs) ∧ atI xs 0 = some (.ref p) ∧ RatAt H2 p t.1 := fun H2 a t ⟨p, q, r, h1, h2, h3⟩ => ⟨_, p, h1, ati0, h2⟩
theorem th1 : ∀ (H2 : Hp) (a : Addr) (t : Rat × Rat), ThAt H2 a t.1 t.2 → ∃ xs p, H2 a = some (.tup xs) ∧ atI xs 1 = some (.ref p) ∧ RatAt H2 p t.2 := fun H2 a t ⟨p, q, r, h1, h2, h3⟩ => ⟨_, q, h1, ati1, h3⟩
theorem seq_fld {tv : TE} {rest : TS} {f : Str} {D : Ends} {σ : St} {H : Hp} (h : tv σ H fun y H1 => tVar 0 σ H1 fun x H2 => ∃ a C dx fs, x = .ref a ∧ H2 a = some (.ins C dx fs) ∧ Cls K C ∧ NoAttr K C f ∧ fs.length < 1000 ∧ rest D σ (upd H2 a (.ins C dx (putF f y fs)))) : tSeq (sFld K (tVar 0) tv f) rest D σ H := h
theorem one_fld {tv : TE} {f : Str} {D : Ends} {σ : St} {H : Hp} (h : tv σ H fun y H1 => tVar 0 σ H1 fun x H2 => ∃ a C dx fs, x = .ref a ∧ H2 a = some (.ins C dx fs) ∧ Cls K C ∧ NoAttr K C f ∧ fs.length < 1000 ∧ D.nx σ (upd H2 a (.ins C dx (putF f y fs)))) : sFld K (tVar 0) tv f D σ H := h
theorem call1 {te : TE} {sp : Sp} {σ : St} {H : Hp} {Q : VK} (h : te σ H fun x H1 => sp [x] H1 Q E0) : tCall sp [] E0 (tCons te tNil) σ H Q := h
theorem call2 {ta tb : TE} {sp : Sp} {σ : St} {H : Hp} {Q : VK} (h : ta σ H fun x H1 => tb σ H1 fun y H2 => sp [x, y] H2 Q E0) : tCall sp [] E0 (tCons ta (tCons tb tNil)) σ H Q := h
theorem step_fld {c C dx : Addr} {fs : List (Str × V)} {f : Str} {y : V} {rest : TS} {D : Ends} {σ : St} {H3 : Hp} (hσ : σ[0]? = some (some (.ref c))) (hc : H3 c = some (.ins C dx fs)) (cl : Cls K C) (na : NoAttr K C f) (hl : fs.length < 1000)
    (k : ∀ G, SameX c H3 G → G c = some (.ins C dx (putF f y fs)) → rest D σ G) : tVar 0 σ H3 fun x H2 => ∃ a C dx fs, x = .ref a ∧ H2 a = some (.ins C dx fs) ∧ Cls K C ∧ NoAttr K C f ∧ fs.length < 1000 ∧ rest D σ (upd H2 a (.ins C dx (putF f y fs))) :=
  ⟨_, hσ, c, C, dx, fs, rfl, hc, cl, na, hl, k _ .upd upd_same⟩
theorem tr_wall {C c dx : Addr} {fs : List (Str × V)} {pb sb : Int} {G : Hp} {v : V} {w : Option (Rat × Rat)} {Q : VK} {E : XK} (hc : G c = some (.ins C dx fs)) (e1 : fs.lookup ("place_bottom" : Str) = some (V.int pb)) (e2 : fs.lookup ("speed_bottom" : Str) = some (V.int sb)) (hw : WlAt G v w)
    (hz : ∀ t, w = some t → Sz 400 t.1 ∧ Sz 400 t.2) (p1 : 0 < pb ∧ Bd 8900 pb) (p2 : 0 < sb ∧ Bd 8900 sb) (k : ∀ v' H', Same G H' → TrAt H' v' (w.map (trB pb sb)) → Q v' H') : spTr C [.ref c, v] G Q E := by
  refine ⟨c, dx, fs, pb, sb, hc, e1, e2, ?_⟩
  cases w with
  | none =>
    have e : v = .non := hw
    subst e
    exact .inl ⟨rfl, k _ _ (Same.refl _) rfl⟩
  | some t =>
    obtain ⟨a, rfl, ha⟩ := hw
    have z := hz t rfl
    exact .inr ⟨a, t.1, t.2, rfl, ha, z.1, z.2, p1.1, p2.1, p1.2, p2.2, fun r H' s h => k _ _ s ⟨r, rfl, h⟩⟩
theorem ok_ci {C f : Addr} {fd : FuncData} (F : Fun K "__init__" "Course.__init__" s_course_init f fd) (T : TxQ K mg) (TC : TCo K C) (cB : Cal P w K mg base "common_bottom" 3 ["ratios"] [] spCB) (cR : Cal P w K mg base "ratio" 2 ["top", "bottom"] [] spLow)
    (cT : Cal P w K mg base "track_of" 1 ["course", "thing"] [] (spTr C)) : FnOk P w K mg base CX0 4 f fd ["self", "row", "walls"] (spCo C) := by
  refine F.ok (k := 3) sc_ci (fun vs H Q E h => by obtain ⟨_, _, _, _, _, _, _, _, _, _, rfl, _⟩ := h; rfl) (fun cdv A outer s H vs Q E hr h => ?_)
  obtain ⟨c, dx, r, wa, us, bs, v1, v2, lo, hi, rfl, hc, hrr, hB, hw, h1, h2, hl, hz, k⟩ := h
  have hr2 : Room 2 _ := hr.mono (by decide)
  have hr1 : Room 1 _ := hr.mono (by decide)
  refine ⟨_, (pss_cons (ps_set (i := 3) sc_ci.nd rfl (Or.inl rfl) (pe_op op_cat (pe_callTy call_list_of (by rfl) T.nList PyProof.Rows.boot_list (pa_cons (pv 1) pa_nil)) (pe_comp (NB := ["wall"]) rfl (by decide +kernel) (by decide +kernel) rfl (by decide +kernel) (pi_tup (pv 2)) (by intro _ _ _; refine ⟨?_, ?_, ?_⟩; (exact (pg_name (i := 0) (show List.Nodup (["wall"] : List Str) by decide +kernel) rfl (Or.inl rfl))); (exact (pts_one (pt_cmpR op_notN (pv 0) pe_non (nomark _)))); (exact (pv 0))))))
    (pss_cons (ps_fld (pv 0) (pe_c cB hr (pa_cons (pe_comp (NB := ["thing"]) rfl (by decide +kernel) (by decide +kernel) rfl (by decide +kernel) (pi_list (pv 3)) (by intro _ _ _; refine ⟨?_, ?_, ?_⟩; (exact (pg_name (i := 0) (show List.Nodup (["thing"] : List Str) by decide +kernel) rfl (Or.inl rfl))); (exact pts_nil); (exact (pe_ix (ix_tupK (K := K) rfl) (pv 0) pe_int (fun _ _ => rfl))))) pa_nil)) rfl)
    (pss_cons (ps_fld (pv 0) (pe_c cB hr (pa_cons (pe_comp (NB := ["thing"]) rfl (by decide +kernel) (by decide +kernel) rfl (by decide +kernel) (pi_list (pv 3)) (by intro _ _ _; refine ⟨?_, ?_, ?_⟩; (exact (pg_name (i := 0) (show List.Nodup (["thing"] : List Str) by decide +kernel) rfl (Or.inl rfl))); (exact pts_nil); (exact (pe_ix (ix_tupK (K := K) rfl) (pv 0) pe_int (fun _ _ => rfl))))) pa_nil)) rfl)
    (pss_cons (ps_fld (pv 0) (pe_c cR hr2 (pa_cons (pe_fld (pv 0) rfl) (pa_cons (pe_fld (pv 0) rfl) pa_nil))) rfl)
    (pss_cons (ps_fld (pv 0) (pe_comp (NB := ["ball"]) rfl (by decide +kernel) (by decide +kernel) rfl (by decide +kernel) (pi_tup (pv 1)) (by intro _ _ _; refine ⟨?_, ?_, ?_⟩; (exact (pg_name (i := 0) (show List.Nodup (["ball"] : List Str) by decide +kernel) rfl (Or.inl rfl))); (exact pts_nil); (exact (pe_ix (ix_tupK (K := K) rfl) (pv 0) pe_int (fun _ _ => rfl))))) rfl)
    (pss_cons (ps_fld (pv 0) (pe_compC (NB := ["ball"]) (FR := ["self"]) (js := [0]) rfl rfl (fun _ _ h => h) (.cons rfl rfl rfl ⟨_, rfl⟩ .nil) rfl (by decide +kernel) rfl (by decide +kernel) (pi_tup (pv 1)) (by intro _ _ _; refine ⟨?_, ?_, ?_⟩; (exact (pg_name (i := 0) (show List.Nodup (["ball", "self"] : List Str) by decide +kernel) rfl (Or.inl rfl))); (exact pts_nil); (exact (pe_c cT hr1 (pa_cons (pv 1) (pa_cons (pv 0) pa_nil)))))) rfl)
    (pss_cons (ps_fld (pv 0) (pe_c cT hr1 (pa_cons (pv 0) (pa_cons (pe_ix ix_tup (pv 2) pe_int (fun _ _ => rfl)) pa_nil))) rfl)
    (pss_one (ps_fld (pv 0) (pe_c cT hr1 (pa_cons (pv 0) (pa_cons (pe_ix ix_tup (pv 2) pe_int (fun _ _ => rfl)) pa_nil))) rfl))))))))), ?_⟩
  refine ⟨_, rfl, r, us, rfl, .inr (.of hrr), fun l hll => ?_⟩
  refine ⟨_, rfl, wa, rfl, ⟨_, SqT.of (Same.upd hll _ _ hw)⟩, fun Da hD => ?_⟩
  refine comp_sel (J := Itt K wa) (n := 1) (g := gName 0) (te := tVar 0) (xs := [v1, v2]) (fun v => !decide (v = .non)) hD (runs_tup (Same.upd hll _ _ hw)) (small20 (by show 2 ≤ 20; decide)) ?_ ?_
  · intro m x zs H2 A2 B2 hx hz2 s2 ka kb
    obtain ⟨z1, rfl⟩ := len1 hz2
    dsimp only [gName]
    refine ⟨_, rfl, rfl, _, rfl, ?_⟩
    cases e : decide (x = V.non) with
    | true => exact kb (by simp [e])
    | false => exact ⟨_, rfl, ka (by simp [e])⟩
  intro H1 s1 hy
  have hl1 : H1 l = some (.lst us) := s1 _ _ upd_same
  refine ⟨l, Da, us, _, rfl, rfl, hl1, hy, ?_, fun L hL => ?_⟩
  · have z1 := List.length_filter_le (fun v => !decide (v = V.non)) [v1, v2]
    have z2 := hB.1
    have z3 : 20 < sizeLine := small20 (Nat.le_refl _)
    simp only [List.length_cons, List.length_nil] at z1
    omega
  have S1 : Same H H1 := (Same.upd hll).trans s1
  have S2 : Same H (upd H1 L (.lst (us ++ [v1, v2].filter fun v => !decide (v = .non)))) := S1.trans (Same.upd hL)
  have hT : TsI H (us ++ [v1, v2].filter fun v => !decide (v = .non)) (ths bs lo hi) := hB.ts.append (walls_ts h1 h2)
  have hLL : upd H1 L (.lst (us ++ [v1, v2].filter fun v => !decide (v = .non))) L = some (.lst (us ++ [v1, v2].filter fun v => !decide (v = .non))) := upd_same
  generalize upd H1 L (.lst (us ++ [v1, v2].filter fun v => !decide (v = .non))) = G0 at S2 hLL
  generalize (us ++ [v1, v2].filter fun v => !decide (v = .non)) = tv at hT hLL
  have hw0 := S2 _ _ hw
  have hr0 := S2 _ _ hrr
  have hc0 := S2 _ _ hc
  have cL : L ≠ c := fun z => by subst z; rw [hLL] at hc0; cases hc0
  dsimp only [gName]
  refine seq_fld (K := K) ?_
  refine call1 ?_
  refine comp_th (fun t => t.1) (by rfl) hLL (hT.keeps (.of S2)) (ths_len hl) th0 fun D1 y1 H2 s2 hy1 hR1 => ?_
  refine ⟨D1, y1, _, rfl, hy1, hR1, fun q hq => ?_, by rw [List.length_map]; exact ths_len hl, fun H3 s3 => ?_⟩
  · obtain ⟨t, ht, rfl⟩ := List.mem_map.mp hq
    exact (hz t ht).1.2
  have p1 := lcmD_ok (qs := (ths bs lo hi).map (·.1)) (fun q hq => by obtain ⟨t, ht, rfl⟩ := List.mem_map.mp hq; exact (hz t ht).1.2) (by rw [List.length_map]; exact ths_len hl)
  have p2 := lcmD_ok (qs := (ths bs lo hi).map (·.2)) (fun q hq => by obtain ⟨t, ht, rfl⟩ := List.mem_map.mp hq; exact (hz t ht).2.2) (by rw [List.length_map]; exact ths_len hl)
  refine step_fld (by rfl) (s3 _ _ (s2 _ _ hc0)) TC.cls TC.pb (by decide) fun G1 X1 c1 => ?_
  replace X1 : SameX c G0 G1 := (SameX.of (s2.trans s3)).trans X1
  have t1 : TupS H G1 := (TupS.of S2).trans (X1.tup hc0)
  refine seq_fld (K := K) ?_
  refine call1 ?_
  refine comp_th (fun t => t.2) (by rfl) (X1 _ _ cL hLL) (hT.keeps t1) (ths_len hl) th1 fun D2 y2 H4 s4 hy2 hR2 => ?_
  refine ⟨D2, y2, _, rfl, hy2, hR2, fun q hq => ?_, by rw [List.length_map]; exact ths_len hl, fun H5 s5 => ?_⟩
  · obtain ⟨t, ht, rfl⟩ := List.mem_map.mp hq
    exact (hz t ht).2.2
  refine step_fld (by rfl) (s5 _ _ (s4 _ _ c1)) TC.cls TC.sb (by show 1 < 1000; decide) fun G2 X2 c2 => ?_
  replace X2 : SameX c G0 G2 := X1.trans ((SameX.of (s4.trans s5)).trans X2)
  refine seq_fld (K := K) ?_
  refine ⟨_, rfl, c, C, dx, _, _, rfl, c2, TC.cls, TC.sb, rfl, _, rfl, c, C, dx, _, _, rfl, c2, TC.cls, TC.pb, rfl, _, _, rfl, by have := p1.1; omega, p1.2.1, fun tp H6 s6 htp => ?_⟩
  refine step_fld (by rfl) (s6 _ _ c2) TC.cls TC.tick (by show 2 < 1000; decide) fun G3 X3' c3 => ?_
  have X3 : SameX c G0 G3 := X2.trans ((SameX.of s6).trans X3')
  have htp3 : RatAt G3 tp _ := X3' _ _ (fun z => by subst z; have := s6 _ _ c2; rw [htp] at this; cases this) htp
  have t3 : TupS H G3 := (TupS.of S2).trans (X3.tup hc0)
  refine seq_fld (K := K) ?_
  have l20 : us.length < sizeLine := small20 (by rw [hB.1]; omega)
  refine ⟨_, rfl, r, rfl, ⟨_, SqT.of (t3 _ _ hrr)⟩, fun D4 hD4 => ?_⟩
  refine comp_each (J := Itt K r) (n := 1) (g := gName 0) (te := tOp (rIxT K) (tVar 0) (tC (.int 2))) (xs := us) (fun m v _ => ∃ b : Bl, bs[m]? = some b ∧ v = .int b.wt) (fun _ _ _ _ _ z => z) hD4 (runs_tup (t3 _ _ hrr)) l20 ?_ ?_
  · intro m x zs H7 Q' hx hz7 s7 hk
    obtain ⟨b, e, a, p, q, rfl, ha, _⟩ := (hB.keeps (t3.trans (.of s7))).2 m x hx
    obtain ⟨z1, rfl⟩ := len1 hz7
    dsimp only [gName]
    exact ⟨_, rfl, a, _, _, _, rfl, rfl, .of ha, rfl, hk _ _ (Same.refl _) ⟨b, e, rfl⟩⟩
  intro y4 H7 s7 hy4 hyl4 hyR4
  have e4 : y4 = (bs.map Bl.wt).map V.int := by
    rw [List.map_map]
    exact eq_map (hyl4.trans hB.1) hyR4
  refine step_fld (by rfl) (s7 _ _ c3) TC.cls TC.weights (by show 3 < 1000; decide) fun G4 X4' c4 => ?_
  have X4 : SameX c G0 G4 := X3.trans ((SameX.of s7).trans X4')
  have nc : ∀ {G : Hp} {fs : List (Str × V)} {b : Addr} {o : HO}, G c = some (.ins C dx fs) → G b = some o → (∀ fs, o ≠ .ins C dx fs) → b ≠ c := fun h1 h2 h3 z => by subst z; rw [h1] at h2; cases h2; exact h3 _ rfl
  have wl4 : G4 D4 = some (.lst ((bs.map Bl.wt).map V.int)) := by
    rw [← e4]; exact X4' _ _ (nc (s7 _ _ c3) hy4 (fun _ z => by cases z)) hy4
  have htp4 : RatAt G4 tp _ := X4' _ _ (nc (s7 _ _ c3) (s7 _ _ htp3) (fun _ z => by cases z)) (s7 _ _ htp3)
  have t4 : TupS H G4 := (TupS.of S2).trans (X4.tup hc0)
  refine seq_fld (K := K) ?_
  refine ⟨_, rfl, r, rfl, ⟨_, SqT.of (t4 _ _ hrr)⟩, fun D5 hD5 => ?_⟩
  refine compC_each (J := Itt K r) (n := 1) (js := [0]) (g := gName 0) (te := tCall (spTr C) [] E0 (tCons (tVar 1) (tCons (tVar 0) tNil))) (xs := us) (fun m v H => ∃ t, (bs.map fun b => trB (pbO bs lo hi) (sbO bs lo hi) (b.pl, b.sp))[m]? = some t ∧ TrAt H v (some t)) (fun _ _ _ _ t ⟨x, e1, e2⟩ => ⟨x, e1, e2.keeps t⟩) hD5 (runs_tup (t4 _ _ hrr)) l20 ?_ ?_
  · intro m x zs H8 Q' hx hz8 s8 hk
    obtain ⟨b, e, a, p, q, rfl, ha, hp, hq⟩ := (hB.keeps (t4.trans (.of s8))).2 m x hx
    obtain ⟨z1, rfl⟩ := len1 hz8
    dsimp only [gName]
    have zb := hz (b.pl, b.sp) (List.mem_append_left _ (List.mem_map.mpr ⟨b, List.mem_of_getElem? e, rfl⟩))
    refine ⟨rfl, _, rfl, _, rfl, c, dx, _, _, _, s8 _ _ c4, rfl, rfl, .inr ⟨a, b.pl, b.sp, rfl, ⟨p, q, _, ha, hp, hq⟩, zb.1, zb.2, p1.1, p2.1, p1.2.1, p2.2.1, fun r' H9 s9 h9 => hk _ _ s9 ⟨_, by rw [List.getElem?_map, e]; rfl, r', rfl, h9⟩⟩⟩
  intro y5 H8 s8 hy5 hyl5 hyR5
  refine step_fld (by rfl) (s8 _ _ c4) TC.cls TC.tracks (by show 4 < 1000; decide) fun G5 X5' c5 => ?_
  have X5 : SameX c G0 G5 := X4.trans ((SameX.of s8).trans X5')
  have tl5 : G5 D5 = some (.lst y5) := X5' _ _ (nc (s8 _ _ c4) hy5 (fun _ z => by cases z)) hy5
  have tr5 : TrsI G5 y5 (bs.map fun b => trB (pbO bs lo hi) (sbO bs lo hi) (b.pl, b.sp)) := ⟨by rw [hyl5, List.length_map, hB.1], fun m v e => by
    obtain ⟨t, e1, e2⟩ := hyR5 m v e
    exact ⟨t, e1, e2.keeps (X5'.tup (s8 _ _ c4))⟩⟩
  have wl5 := X5' _ _ (nc (s8 _ _ c4) (s8 _ _ wl4) (fun _ z => by cases z)) (s8 _ _ wl4)
  have htp5 : RatAt G5 tp _ := X5' _ _ (nc (s8 _ _ c4) (s8 _ _ htp4) (fun _ z => by cases z)) (s8 _ _ htp4)
  have t5 : TupS H G5 := (TupS.of S2).trans (X5.tup hc0)
  have zlo : ∀ t, lo = some t → Sz 400 t.1 ∧ Sz 400 t.2 := fun t e => hz t (by unfold ths; rw [e]; simp [oneT])
  have zhi : ∀ t, hi = some t → Sz 400 t.1 ∧ Sz 400 t.2 := fun t e => hz t (by unfold ths; rw [e]; simp [oneT])
  refine seq_fld (K := K) ?_
  refine call2 ⟨_, rfl, _, rfl, wa, _, _, _, rfl, rfl, .of (t5 _ _ hw), at0 .., ?_⟩
  refine tr_wall c5 rfl rfl (h1.keeps t5) zlo ⟨p1.1, p1.2.1⟩ ⟨p2.1, p2.2.1⟩ fun lv H9 s9 hlv => ?_
  refine step_fld (by rfl) (s9 _ _ c5) TC.cls TC.low (by show 5 < 1000; decide) fun G6 X6' c6 => ?_
  have X6 : SameX c G0 G6 := X5.trans ((SameX.of s9).trans X6')
  have t6 : TupS H G6 := (TupS.of S2).trans (X6.tup hc0)
  have X56 : SameX c G5 G6 := (SameX.of s9).trans X6'
  refine one_fld (K := K) ?_
  refine call2 ⟨_, rfl, _, rfl, wa, _, _, _, rfl, rfl, .of (t6 _ _ hw), at1 .., ?_⟩
  refine tr_wall c6 rfl rfl (h2.keeps t6) zhi ⟨p1.1, p1.2.1⟩ ⟨p2.1, p2.2.1⟩ fun hv H10 s10 hhv => ?_
  refine step_fld (rest := Ends.nx) (by rfl) (s10 _ _ c6) TC.cls TC.high (by show 6 < 1000; decide) fun G7 X7' c7 => ?_
  have X67 : SameX c G6 G7 := (SameX.of s10).trans X7'
  have X57 : SameX c G5 G7 := X56.trans X67
  have X7 : SameX c G0 G7 := X6.trans X67
  have hD5H : H D5 = none := by
    cases e : H D5 with
    | none => rfl
    | some o =>
      by_cases z : D5 = c
      · rw [z, c4] at hD5; cases hD5
      · rw [X4 _ _ z (S2 _ _ e)] at hD5; cases hD5
  refine k G7 ((SameX.of S2).trans X7) ⟨dx, _, D5, c7, ⟨rfl, rfl, ⟨tp, rfl, X57 _ _ (nc c5 htp5 (fun _ z => by cases z)) htp5⟩, ⟨D4, rfl, X57 _ _ (nc c5 wl5 (fun _ z => by cases z)) wl5⟩,
    ⟨D5, y5, rfl, X57 _ _ (nc c5 tl5 (fun _ z => by cases z)) tl5, tr5.keeps (X57.tup c5)⟩, ⟨lv, rfl, (hlv.keeps (X6'.tup (s9 _ _ c5))).keeps (X67.tup c6)⟩, ⟨hv, rfl, hhv.keeps (X7'.tup (s10 _ _ c6))⟩, by show 7 ≤ 20; decide⟩, rfl, hD5H⟩
end
end KK
end
section
set_option maxHeartbeats 8000000
set_option Elab.async false
set_option linter.all false
set_option maxRecDepth 100000
namespace KK
open PySem L2 KM
structure Tx3 (K : PySem.W.Frag) (mg : Str → Option Value) (aN : Addr) : Prop where
  nAll : mg "all" = none
  nSorted : mg "sorted" = none
  nEnum : mg "enumerate" = none
  mn : mg "NOUGHT" = some (.ref aN)
  kn : KPair K aN 0 1
  tt : PySem.W.kitOne K (.type "tuple") (.type "tuple") = some true
abbrev Wl := Option (Rat × Rat)
def WallAt (H : Hp) (v : V) : Wl → Prop
  | none => v = .non
  | some (x, y) => ∃ a p q, v = .ref a ∧ H a = some (.tup [.ref p, .ref q]) ∧ RatAt H p x ∧ RatAt H q y
theorem WallAt.same {H H' : Hp} {v : V} {l : Wl} (h : WallAt H v l) (e : Same H H') : WallAt H' v l := by
  cases l with
  | none => exact h
  | some z => obtain ⟨a, p, q, e1, e2, e3, e4⟩ := h; exact ⟨a, p, q, e1, e _ _ e2, e3.same e, e4.same e⟩
theorem iteD {c : Prop} [Decidable c] {A B : Prop} (e : ¬ c) (h : B) : if decide c = true then A else B := by
  rw [decide_eq_false e]; exact iteF h
theorem tk_snoc {α : Type} {l : List α} {i : Nat} {x : α} (h : l[i]? = some x) : l.take (i + 1) = l.take i ++ [x] := by rw [List.take_add_one, h]; rfl
theorem ln1 {σ : St} (h : σ.length = 1) : ∃ a, σ = [a] := by
  match σ, h with
  | [a], _ => exact ⟨a, rfl⟩
section
variable {P : Program} {w : World} {K : PySem.W.Frag} {mg : Str → Option Value} {base : Heap} {aN : Addr}
def spTu : Sp := fun vs H Q _ => ∃ p xs n, vs = [.ref p, .int n] ∧ H p = some (.tup xs) ∧ Q (.bl (decide (V.int (xs.length : Nat) = V.int n))) H
theorem sc_istup : FnScope ["thing", "many"] ["thing", "many"] (defScope s_is_tuple) := ⟨rfl, rfl, rfl, by decide +kernel, rfl, by decide +kernel, by decide +kernel⟩
theorem ok_tu (D : Df K mg "is_tuple" s_is_tuple ["thing", "many"] []) (T : TxB K mg) (T3 : Tx3 K mg aN) : Cal P w K mg base "is_tuple" 1 ["thing", "many"] [] spTu := by
  refine D.cal (k := 0) sc_istup (fun vs H Q E h => by obtain ⟨_, _, _, rfl, _⟩ := h; rfl) (fun f cdv A outer s H vs Q E hr h => ?_)
  obtain ⟨p, xs, n, rfl, hp, k⟩ := h
  refine ⟨_, (pss_one (ps_ret (pe_and (pe_callB call_isinst (by rfl) T.nIs PyProof.Rows.boot_isinstance (pa_cons (pv 0) (pa_cons (pe_bltn (v := .ty "tuple") (u := .type "tuple") (by rfl) T.nTuple PyProof.Rows.boot_tuple rfl) pa_nil))) (pe_one (pe_cmpR op_eq (pe_callB call_len_seq (by rfl) T.nLen PySem.boot_len (pa_cons (pv 0) pa_nil)) (pv 1) (nomark _)))))), ?_⟩
  exact ⟨_, rfl, _, _, _, true, rfl, .tup hp, T3.tt, true, rfl, iteT ⟨_, rfl, p, _, rfl, .inr (SqT.of hp), _, rfl, rfl, k⟩⟩
def spIr : Sp := fun vs H Q _ => ∃ p x, vs = [.ref p] ∧ RatAt H p x ∧ Q (.bl true) H
theorem gcd_red (x : Rat) : (Int.gcd (if x.num < 0 then -x.num else x.num) (x.den : Int) : Int) = 1 := by
  rw [abs_eq]
  have := x.reduced
  show ((Nat.gcd x.num.natAbs x.den : Nat) : Int) = 1
  rw [this]; rfl
theorem sc_isr : FnScope ["thing", "top", "bottom"] ["thing"] (defScope s_is_ratio) := ⟨rfl, rfl, rfl, by decide +kernel, rfl, by decide +kernel, by decide +kernel⟩
theorem ok_ir (D : Df K mg "is_ratio" s_is_ratio ["thing"] []) (T : TxB K mg) (cTu : Cal P w K mg base "is_tuple" 1 ["thing", "many"] [] spTu) (cW : Cal P w K mg base "is_whole" 1 ["thing"] [] spWhole) (cG : Cal P w K mg base "greatest_divisor" 1 ["one", "other"] [] spGcd) :
    Cal P w K mg base "is_ratio" 2 ["thing"] [] spIr := by
  refine D.cal (k := 1) sc_isr (fun vs H Q E h => by obtain ⟨_, _, rfl, _⟩ := h; rfl) (fun f cdv A outer s H vs Q E hr1 h => ?_)
  obtain ⟨p, x, rfl, hp, k⟩ := h
  refine ⟨_, (pss_cons (ps_if (pt_not (pt_truth (pe_c cTu hr1 (pa_cons (pv 0) (pa_cons pe_int pa_nil))) fun _ => rfl)) (pss_one (ps_ret pe_bl)) pss_nil)
    (pss_cons (ps_asg (pv 0) (pg_tup rfl (pgs_cons (pg_name (i := 1) sc_isr.nd rfl (Or.inl rfl)) (pgs_cons (pg_name (i := 2) sc_isr.nd rfl (Or.inl rfl)) pgs_nil))))
    (pss_cons (ps_if ((pw_or (pt_not (pt_truth (pe_c cW hr1 (pa_cons (pv 1) pa_nil)) fun _ => rfl)) (pw_or (pt_not (pt_truth (pe_c cW hr1 (pa_cons (pv 2) pa_nil)) fun _ => rfl)) (pw_or1 (pt_cmpR op_lt (pv 2) pe_int (nomark _)))))).pt (pss_one (ps_ret pe_bl)) pss_nil)
    (pss_one (ps_ret (pe_cmpR op_eq (pe_c cG hr1 (pa_cons (pe_callB call_abs (by rfl) T.nAbs PyProof.Rows.boot_abs (pa_cons (pv 1) pa_nil)) (pa_cons (pv 2) pa_nil))) pe_int (nomark _))))))), ?_⟩
  refine ⟨_, rfl, p, _, _, rfl, hp, _, rfl, iteF ?_⟩
  refine ⟨_, rfl, p, _, rfl, SqT.of hp, rfl, _, _, rfl, _, _, rfl, rfl, ?_⟩
  refine ⟨_, rfl, _, rfl, true, rfl, iteF ⟨_, rfl, _, rfl, true, rfl, iteF ?_⟩⟩
  refine ⟨_, rfl, _, _, rfl, rfl, _, rfl, iteD (by have := den_pos x; omega) ?_⟩
  refine ⟨_, rfl, _, rfl, _, rfl, _, _, rfl, (by rw [abs_eq]; omega), (by omega), rfl, ?_⟩
  show Q (.bl (decide (V.int (Int.gcd (if x.num < 0 then -x.num else x.num) (x.den : Int) : Int) = V.int 1))) H
  rw [gcd_red, decide_eq_true rfl]; exact k
def spWa : Sp := fun vs H Q _ => ∃ v l, vs = [v] ∧ WallAt H v l ∧ Q (.bl true) H
theorem sc_iswall : FnScope ["thing"] ["thing"] (defScope s_is_wall) := ⟨rfl, rfl, rfl, by decide +kernel, rfl, by decide +kernel, by decide +kernel⟩
theorem ok_wa (D : Df K mg "is_wall" s_is_wall ["thing"] []) (cTu : Cal P w K mg base "is_tuple" 1 ["thing", "many"] [] spTu) (cIr : Cal P w K mg base "is_ratio" 2 ["thing"] [] spIr) : Cal P w K mg base "is_wall" 3 ["thing"] [] spWa := by
  refine D.cal (k := 2) sc_iswall (fun vs H Q E h => by obtain ⟨_, _, rfl, _⟩ := h; rfl) (fun f cdv A outer s H vs Q E hr2 h => ?_)
  obtain ⟨v, l, rfl, hw, k⟩ := h
  have hr1 : Room 1 _ := hr2.mono (by decide)
  refine ⟨_, (pss_cons (ps_if (pt_cmpR op_isN (pv 0) pe_non (nomark _)) (pss_one (ps_ret pe_bl)) pss_nil)
    (pss_one (ps_ret (pe_and (pe_c cTu hr1 (pa_cons (pv 0) (pa_cons pe_int pa_nil))) (pe_and (pe_c cIr hr2 (pa_cons (pe_ix ix_tup (pv 0) pe_int (fun _ _ => rfl)) pa_nil)) (pe_one (pe_c cIr hr2 (pa_cons (pe_ix ix_tup (pv 0) pe_int (fun _ _ => rfl)) pa_nil)))))))), ?_⟩
  cases l with
  | none =>
    obtain rfl : v = .non := hw
    exact ⟨_, rfl, rfl, _, rfl, iteT k⟩
  | some z =>
    obtain ⟨x, y⟩ := z
    obtain ⟨a, p, q, rfl, ha, hp, hq⟩ := hw
    refine ⟨_, rfl, rfl, _, rfl, iteF ?_⟩
    refine ⟨_, rfl, a, _, _, rfl, ha, true, rfl, iteT ?_⟩
    refine ⟨_, rfl, a, _, _, _, rfl, rfl, .of ha, rfl, p, x, rfl, hp, true, rfl, iteT ?_⟩
    exact ⟨_, rfl, a, _, _, _, rfl, rfl, .of ha, rfl, q, y, rfl, hq, k⟩
def spWp : Sp := fun vs H Q _ => ∃ a v1 v2 l1 l2, vs = [.ref a] ∧ H a = some (.tup [v1, v2]) ∧ WallAt H v1 l1 ∧ WallAt H v2 l2 ∧ Q (.bl true) H
theorem sc_iswp : FnScope ["thing"] ["thing"] (defScope s_is_wall_pair) := ⟨rfl, rfl, rfl, by decide +kernel, rfl, by decide +kernel, by decide +kernel⟩
theorem ok_wp (D : Df K mg "is_wall_pair" s_is_wall_pair ["thing"] []) (cTu : Cal P w K mg base "is_tuple" 1 ["thing", "many"] [] spTu) (cWa : Cal P w K mg base "is_wall" 3 ["thing"] [] spWa) : Cal P w K mg base "is_wall_pair" 4 ["thing"] [] spWp := by
  refine D.cal (k := 3) sc_iswp (fun vs H Q E h => by obtain ⟨_, _, _, _, _, rfl, _⟩ := h; rfl) (fun f cdv A outer s H vs Q E hr3 h => ?_)
  obtain ⟨a, v1, v2, l1, l2, rfl, ha, h1, h2, k⟩ := h
  have hr1 : Room 1 _ := hr3.mono (by decide)
  refine ⟨_, (pss_one (ps_ret (pe_and (pe_c cTu hr1 (pa_cons (pv 0) (pa_cons pe_int pa_nil))) (pe_and (pe_c cWa hr3 (pa_cons (pe_ix ix_tup (pv 0) pe_int (fun _ _ => rfl)) pa_nil)) (pe_one (pe_c cWa hr3 (pa_cons (pe_ix ix_tup (pv 0) pe_int (fun _ _ => rfl)) pa_nil))))))), ?_⟩
  refine ⟨_, rfl, a, _, _, rfl, ha, true, rfl, iteT ?_⟩
  refine ⟨_, rfl, a, _, _, _, rfl, rfl, .of ha, rfl, v1, l1, rfl, h1, true, rfl, iteT ?_⟩
  exact ⟨_, rfl, a, _, _, _, rfl, rfl, .of ha, rfl, v2, l2, rfl, h2, k⟩
def spBf : Sp := fun vs H Q _ => ∃ a p q x y n, vs = [.ref a] ∧ H a = some (.tup [.ref p, .ref q, .int n]) ∧ RatAt H p x ∧ RatAt H q y ∧ Q (.bl true) H
theorem sc_ballf : FnScope ["thing"] ["thing"] (defScope s_is_ball_form) := ⟨rfl, rfl, rfl, by decide +kernel, rfl, by decide +kernel, by decide +kernel⟩
theorem ok_bf (D : Df K mg "is_ball_form" s_is_ball_form ["thing"] []) (cTu : Cal P w K mg base "is_tuple" 1 ["thing", "many"] [] spTu) (cIr : Cal P w K mg base "is_ratio" 2 ["thing"] [] spIr) (cW : Cal P w K mg base "is_whole" 1 ["thing"] [] spWhole) : Cal P w K mg base "is_ball_form" 3 ["thing"] [] spBf := by
  refine D.cal (k := 2) sc_ballf (fun vs H Q E h => by obtain ⟨_, _, _, _, _, _, rfl, _⟩ := h; rfl) (fun f cdv A outer s H vs Q E hr2 h => ?_)
  obtain ⟨a, p, q, x, y, n, rfl, ha, hp, hq, k⟩ := h
  have hr1 : Room 1 _ := hr2.mono (by decide)
  refine ⟨_, (pss_one (ps_ret (pe_and (pe_c cTu hr1 (pa_cons (pv 0) (pa_cons pe_int pa_nil))) (pe_and (pe_c cIr hr2 (pa_cons (pe_ix ix_tup (pv 0) pe_int (fun _ _ => rfl)) pa_nil)) (pe_and (pe_c cIr hr2 (pa_cons (pe_ix ix_tup (pv 0) pe_int (fun _ _ => rfl)) pa_nil)) (pe_one (pe_c cW hr1 (pa_cons (pe_ix ix_tup (pv 0) pe_int (fun _ _ => rfl)) pa_nil)))))))), ?_⟩
  refine ⟨_, rfl, a, _, _, rfl, ha, true, rfl, iteT ?_⟩
  refine ⟨_, rfl, a, _, _, _, rfl, rfl, .of ha, rfl, p, x, rfl, hp, true, rfl, iteT ?_⟩
  refine ⟨_, rfl, a, _, _, _, rfl, rfl, .of ha, rfl, q, y, rfl, hq, true, rfl, iteT ?_⟩
  exact ⟨_, rfl, a, _, _, _, rfl, rfl, .of ha, rfl, n, rfl, k⟩
theorem all_map (f : α → Bool) (l : List α) : (l.map f).all id = l.all f := by rw [List.all_map]; rfl
theorem comp_balls {σ : St} {H : Hp} {Q : VK} {j : Nat} {sp : Sp} {r : Addr} {us : List V} {bs : List Ball} (hσ : σ[j]? = some (some (.ref r))) (hr : H r = some (.tup us)) (hB : BallsAt H us bs) (hlen : bs.length ≤ 8)
    (hsp : ∀ (H1 : Hp) (v : V) (b : Ball) (Q : VK), Same H H1 → b ∈ bs → (∃ a p q, v = .ref a ∧ H1 a = some (.tup [.ref p, .ref q, .int b.wt]) ∧ RatAt H1 p b.pl ∧ RatAt H1 q b.sp) → Q (.bl true) H1 → sp [v] H1 Q E0)
    (k : ∀ D H', Same H H' → H' D = some (.lst ((List.replicate bs.length true).map V.bl)) → Q (.ref D) H') :
    tComp 1 (iTup K (tVar j)) (gName 0) (fun _ H Q => Q true H) (tCall sp [] E0 (tCons (tVar 0) tNil)) σ H Q := by
  refine ⟨_, hσ, r, rfl, ⟨_, SqT.of hr⟩, fun D hD => ?_⟩
  have hl := hB.length
  refine comp_by (J := Itt K r) (g := gName 0) (tt := fun _ H Q => Q true H) (te := tCall sp [] E0 (tCons (tVar 0) tNil)) (Q := Q) (N := us.length) (n := 1) (fun i H2 ys => Same H H2 ∧ ys = (List.replicate i true).map V.bl) ⟨Same.upd hD, rfl⟩ (fun i H2 ys hi ⟨s2, _⟩ => ?_) (fun H2 ys ⟨s2, _⟩ => ?_) ?_ ?_
  · exact ⟨us, us[i], .of (s2 _ _ hr), List.getElem?_eq_getElem hi⟩
  · exact ⟨us, .of (s2 _ _ hr), Nat.le_refl _⟩
  · rintro i x zs H2 H3 ys Nx hNx hi hzs ⟨rfl, f1⟩ ⟨s2, rfl⟩ hD2
    obtain ⟨z1, rfl⟩ := ln1 hzs
    obtain ⟨a, p, q, b, eb, rfl, ha, hp, hq⟩ := hB.get (f1 us (.of (s2 _ _ hr)))
    dsimp only [gName]
    try rw [if_pos rfl]
    refine ⟨_, rfl, ?_⟩
    refine hsp H3 (.ref a) b _ s2 (List.mem_of_getElem? eb) ⟨a, p, q, rfl, s2 _ _ ha, hp.same s2, hq.same s2⟩ ?_
    refine ⟨hD2, ?_, hNx _ _ ⟨same_mk hD s2 (Same.refl _), ?_⟩⟩
    · rw [List.length_map, List.length_replicate]; exact small1000 (by omega)
    · rw [List.replicate_succ', List.map_append]; rfl
  · rintro H2 ys ⟨s2, rfl⟩ hD2
    rw [hl] at hD2
    exact k D H2 s2 hD2
theorem all_true (n : Nat) : (List.replicate n true).all id = true := by simp
def evB (b0 : Ball) (bs : List Ball) : Bool := bs.all fun b => decide (b.wt = b0.wt)
def stillB : Wl → Bool
  | none => true
  | some (_, y) => decide (y = 0)
theorem op_eqNK {X : Cx} {K : PySem.W.Frag} (hK : X.K = K) (hu : X.A.units + 64 < cLine) : OpR X (compareOp .Eq) (rEqN K) := by subst hK; exact op_eqN hu
theorem vint_dec (i j : Int) : decide (V.int i = V.int j) = decide (i = j) := by
  rw [Bool.eq_iff_iff, decide_eq_true_eq, decide_eq_true_eq]
  exact ⟨fun z => by injection z, fun z => by rw [z]⟩
theorem rat_int {H : Hp} {p : Addr} {n : Int} (h : H p = some (.tup [.int n, .int 1])) : RatAt H p (n : Rat) := by
  unfold RatAt rp; rw [int_num, int_den]; exact h
theorem comp_even {σ : St} {H : Hp} {Q : VK} {r : Addr} {us : List V} {bs : List Ball} {b0 : Ball} (hσ : σ[0]? = some (some (.ref r))) (hr : H r = some (.tup us)) (hB : BallsAt H us bs) (h0 : bs[0]? = some b0) (hlen : bs.length ≤ 8)
    (k : ∀ D H', Same H H' → H' D = some (.lst ((bs.map fun b => decide (b.wt = b0.wt)).map V.bl)) → Q (.ref D) H') :
    tCompC 1 [0] (iTup K (tVar 0)) (gName 0) (fun _ H Q => Q true H) (tOp rEq (tOp (rIxT K) (tVar 0) (tC (.int 2))) (tOp (rIxT K) (tOp (rIxT K) (tVar 1) (tC (.int 0))) (tC (.int 2)))) σ H Q := by
  have hcap : caps σ [0] = [some (.ref r)] := by simp [caps, hσ]
  refine ⟨_, hσ, r, rfl, ⟨_, SqT.of hr⟩, fun D hD => ?_⟩
  have hl := hB.length
  have hu0 : 0 < us.length := by rw [hl]; exact (List.getElem?_eq_some_iff.mp h0).1
  obtain ⟨a0, p0, q0, b0', e0, f0, ha0, _, _⟩ := hB.get (i := 0) (List.getElem?_eq_getElem hu0)
  rw [h0] at e0; cases e0
  refine compC_by (J := Itt K r) (g := gName 0) (tt := fun _ H Q => Q true H) (te := tOp rEq (tOp (rIxT K) (tVar 0) (tC (.int 2))) (tOp (rIxT K) (tOp (rIxT K) (tVar 1) (tC (.int 0))) (tC (.int 2)))) (Q := Q) (N := us.length) (n := 1)
    (fun i H2 ys => Same H H2 ∧ ys = ((bs.map fun b => decide (b.wt = b0.wt)).map V.bl).take i) ⟨Same.upd hD, rfl⟩ (fun i H2 ys hi ⟨s2, _⟩ => ?_) (fun H2 ys ⟨s2, _⟩ => ?_) ?_ ?_
  · exact ⟨us, us[i], .of (s2 _ _ hr), List.getElem?_eq_getElem hi⟩
  · exact ⟨us, .of (s2 _ _ hr), Nat.le_refl _⟩
  · rintro i x zs H2 H3 ys Nx hNx hi hzs ⟨rfl, f1⟩ ⟨s2, rfl⟩ hD2
    obtain ⟨z1, rfl⟩ := ln1 hzs
    obtain ⟨a, p, q, b, eb, rfl, ha, hp, hq⟩ := hB.get (f1 us (.of (s2 _ _ hr)))
    rw [hcap]
    dsimp only [gName]
    refine ⟨rfl, ?_⟩
    rw [if_pos rfl]
    refine ⟨_, rfl, a, _, _, _, rfl, rfl, .of (s2 _ _ ha), rfl, _, rfl, r, _, _, _, rfl, rfl, .of (s2 _ _ hr), (by rw [← f0]; exact atI_nat (j := 0) (List.getElem?_eq_getElem hu0)), a0, _, _, _, rfl, rfl, .of (s2 _ _ ha0), rfl, rfl, ?_⟩
    refine ⟨hD2, ?_, hNx _ _ ⟨same_mk hD s2 (Same.refl _), ?_⟩⟩
    · rw [List.length_take]; exact small1000 (by omega)
    · rw [tk_snoc (x := V.bl (decide (b.wt = b0.wt))) (by rw [List.getElem?_map, List.getElem?_map, eb]; rfl)]
      show _ ++ [V.bl (decide (V.int b.wt = V.int b0.wt))] = _
      rw [vint_dec]
  · rintro H2 ys ⟨s2, rfl⟩ hD2
    rw [List.take_of_length_le (by rw [List.length_map, List.length_map, hl]; exact Nat.le_refl _)] at hD2
    exact k D H2 s2 hD2
def spEv : Sp := fun vs H Q _ => ∃ r us bs b0, vs = [.ref r] ∧ H r = some (.tup us) ∧ BallsAt H us bs ∧ bs[0]? = some b0 ∧ bs.length ≤ 8 ∧ ∀ H', Same H H' → Q (.bl (evB b0 bs)) H'
theorem sc_even : FnScope ["row"] ["row"] (defScope s_is_even) := ⟨rfl, rfl, rfl, by decide +kernel, rfl, by decide +kernel, by decide +kernel⟩
def spRf : Sp := fun vs H Q _ => ∃ r us bs, vs = [.ref r] ∧ H r = some (.tup us) ∧ BallsAt H us bs ∧ 0 < bs.length ∧ bs.length ≤ 8 ∧ ∀ H', Same H H' → Q (.bl true) H'
theorem sc_rform : FnScope ["thing"] ["thing"] (defScope s_is_row_form) := ⟨rfl, rfl, rfl, by decide +kernel, rfl, by decide +kernel, by decide +kernel⟩
theorem ok_rform (D : Df K mg "is_row_form" s_is_row_form ["thing"] []) (T : TxB K mg) (T3 : Tx3 K mg aN) (cBf : Cal P w K mg base "is_ball_form" 3 ["thing"] [] spBf) : Cal P w K mg base "is_row_form" 4 ["thing"] [] spRf := by
  refine D.cal (k := 3) sc_rform (fun vs H Q E h => by obtain ⟨_, _, _, rfl, _⟩ := h; rfl) (fun f cdv A outer s H vs Q E hr3 h => ?_)
  obtain ⟨r, us, bs, rfl, hrr, hB, h0, hlen, k⟩ := h
  have hl := hB.length
  refine ⟨_, (pss_one (ps_ret (pe_and (pe_callB call_isinst (by rfl) T.nIs PyProof.Rows.boot_isinstance (pa_cons (pv 0) (pa_cons (pe_bltn (v := .ty "tuple") (u := .type "tuple") (by rfl) T.nTuple PyProof.Rows.boot_tuple rfl) pa_nil))) (pe_and (pe_cmpR op_gt (pe_callB call_len_seq (by rfl) T.nLen PySem.boot_len (pa_cons (pv 0) pa_nil)) pe_int (nomark _)) (pe_one (pe_callB (call_all rfl) (by rfl) T3.nAll (by decide +kernel) (pa_cons (pe_comp (NB := ["ball"]) rfl (by decide +kernel) (by decide +kernel) rfl (by decide +kernel) (pi_tup (pv 0)) (by intro _ _ _; refine ⟨?_, ?_, ?_⟩; (exact (pg_name (i := 0) (show List.Nodup (["ball"] : List Str) by decide +kernel) rfl (Or.inl rfl))); (exact pts_nil); (exact (pe_c cBf hr3 (pa_cons (pv 0) pa_nil))))) pa_nil))))))), ?_⟩
  refine ⟨_, rfl, _, _, _, true, rfl, .tup hrr, T3.tt, true, rfl, iteT ?_⟩
  refine ⟨_, rfl, r, _, rfl, .inr (SqT.of hrr), _, _, rfl, rfl, _, rfl, ?_⟩
  rw [show decide ((0 : Int) < ((us.length : Nat) : Int)) = true from decide_eq_true (by omega)]
  refine iteT ?_
  unfold tCB tCons
  refine comp_balls (K := K) (j := 0) rfl hrr hB hlen (fun H1 v b Q e mb ⟨a, p, q, e1, e2, e3, e4⟩ q' => ?_) fun DD H2 e2 hD => ⟨DD, _, rfl, SqL.of hD, ?_⟩
  · subst e1
    exact ⟨a, p, q, b.pl, b.sp, b.wt, rfl, e2, e3, e4, q'⟩
  · rw [all_true]
    exact k H2 e2
theorem ok_ev (D : Df K mg "is_even" s_is_even ["row"] []) (T : TxB K mg) (T3 : Tx3 K mg aN) (cRf : Cal P w K mg base "is_row_form" 4 ["thing"] [] spRf) : Cal P w K mg base "is_even" 5 ["row"] [] spEv := by
  refine D.cal (k := 4) sc_even (fun vs H Q E h => by obtain ⟨_, _, _, _, rfl, _⟩ := h; rfl) (fun f cdv A outer s H vs Q E hr4 h => ?_)
  obtain ⟨r, us, bs, b0, rfl, hrr, hB, h0, hlen, k⟩ := h
  have hb0 : 0 < bs.length := (List.getElem?_eq_some_iff.mp h0).1
  refine ⟨_, (pss_one (ps_ret (pe_and (pe_c cRf hr4 (pa_cons (pv 0) pa_nil)) (pe_one (pe_callB (call_all rfl) (by rfl) T3.nAll (by decide +kernel) (pa_cons (pe_compC (NB := ["ball"]) (FR := ["row"]) (js := [0]) rfl rfl (fun _ _ h => h) (.cons rfl rfl rfl ⟨_, rfl⟩ .nil) rfl (by decide +kernel) rfl (by decide +kernel) (pi_tup (pv 0)) (by intro _ _ _; refine ⟨?_, ?_, ?_⟩; (exact (pg_name (i := 0) (show List.Nodup (["ball", "row"] : List Str) by decide +kernel) rfl (Or.inl rfl))); (exact pts_nil); (exact (pe_cmpR op_eq (pe_ix (ix_tupK (K := K) rfl) (pv 0) pe_int (fun _ _ => rfl)) (pe_ix (ix_tupK (K := K) rfl) (pe_ix (ix_tupK (K := K) rfl) (pv 1) pe_int (fun _ _ => rfl)) pe_int (fun _ _ => rfl)) (nomark _))))) pa_nil)))))), ?_⟩
  refine ⟨_, rfl, r, us, bs, rfl, hrr, hB, hb0, hlen, fun H2 e2 => ⟨true, rfl, iteT ?_⟩⟩
  unfold tCB tCons
  refine comp_even (K := K) rfl (e2 _ _ hrr) (hB.same e2) h0 hlen fun D3 H3 e3 hD3 => ⟨D3, _, rfl, SqL.of hD3, ?_⟩
  rw [all_map]; exact k H3 (e2.trans e3)
theorem comp_still {σ : St} {H : Hp} {Q : VK} {r : Addr} {v1 v2 : V} {l1 l2 : Wl} (hN : KPair K aN 0 1) (hσ : σ[0]? = some (some (.ref r))) (hr : H r = some (.tup [v1, v2])) (h1 : WallAt H v1 l1) (h2 : WallAt H v2 l2)
    (k : ∀ D H', Same H H' → H' D = some (.lst ([stillB l1, stillB l2].map V.bl)) → Q (.ref D) H') :
    tComp 1 (iTup K (tVar 0)) (gName 0) (fun _ H Q => Q true H) (tOrV (tOp (fun x y H Q => y = .non ∧ Q (.bl (decide (x = .non))) H) (tVar 0) (tC .non)) (tOp (rEqN K) (tOp (rIxT K) (tVar 0) (tC (.int 1))) (tC (.ref aN)))) σ H Q := by
  refine ⟨_, hσ, r, rfl, ⟨_, SqT.of hr⟩, fun D hD => ?_⟩
  refine comp_by (J := Itt K r) (g := gName 0) (tt := fun _ H Q => Q true H) (te := tOrV (tOp (fun x y H Q => y = .non ∧ Q (.bl (decide (x = .non))) H) (tVar 0) (tC .non)) (tOp (rEqN K) (tOp (rIxT K) (tVar 0) (tC (.int 1))) (tC (.ref aN)))) (Q := Q) (N := 2) (n := 1)
    (fun i H2 ys => Same H H2 ∧ ys = ([stillB l1, stillB l2].map V.bl).take i) ⟨Same.upd hD, rfl⟩ (fun i H2 ys hi ⟨s2, _⟩ => ?_) (fun H2 ys ⟨s2, _⟩ => ?_) ?_ ?_
  · exact ⟨_, [v1, v2][i], .of (s2 _ _ hr), List.getElem?_eq_getElem hi⟩
  · exact ⟨_, .of (s2 _ _ hr), Nat.le_refl _⟩
  · rintro i x zs H2 H3 ys Nx hNx hi hzs ⟨rfl, f1⟩ ⟨s2, rfl⟩ hD2
    obtain ⟨z1, rfl⟩ := ln1 hzs
    have g1 := f1 _ (.of (s2 _ _ hr))
    obtain ⟨l, hl, el⟩ : ∃ l, WallAt H3 x l ∧ ([stillB l1, stillB l2].map V.bl)[i]? = some (.bl (stillB l)) := by
      match i, hi with
      | 0, _ => simp at g1; subst g1; exact ⟨l1, h1.same s2, rfl⟩
      | 1, _ => simp at g1; subst g1; exact ⟨l2, h2.same s2, rfl⟩
    dsimp only [gName]
    try rw [if_pos rfl]
    have fin : H3 D = some (.lst (([stillB l1, stillB l2].map V.bl).take i)) ∧ (([stillB l1, stillB l2].map V.bl).take i).length < sizeLine ∧ Nx (upd H3 D (.lst (([stillB l1, stillB l2].map V.bl).take i ++ [.bl (stillB l)]))) (([stillB l1, stillB l2].map V.bl).take i ++ [.bl (stillB l)]) := by
      refine ⟨hD2, ?_, hNx _ _ ⟨same_mk hD s2 (Same.refl _), ?_⟩⟩
      · rw [List.length_take]; exact small1000 (by omega)
      · rw [tk_snoc el]
    cases l with
    | none =>
      obtain rfl : x = .non := hl
      exact ⟨_, rfl, rfl, true, rfl, iteT fin⟩
    | some z =>
      obtain ⟨px, py⟩ := z
      obtain ⟨a, p, q, rfl, ha, hp, hq⟩ := hl
      refine ⟨_, rfl, rfl, false, rfl, iteF ⟨_, rfl, a, _, _, _, rfl, rfl, .of ha, rfl, _, aN, 0, 1, hq.rd, rfl, hN, shaped_rp _, ?_⟩⟩
      rw [show PyData.eqv (.tuple [.int py.num, .int (py.den : Int)]) (.tuple [.int 0, .int 1]) = stillB (some (px, py)) from eqv_rp py 0]
      exact fin
  · rintro H2 ys ⟨s2, rfl⟩ hD2
    exact k D H2 s2 hD2
def spSt : Sp := fun vs H Q _ => ∃ a v1 v2 l1 l2, vs = [.ref a] ∧ H a = some (.tup [v1, v2]) ∧ WallAt H v1 l1 ∧ WallAt H v2 l2 ∧ ∀ H', Same H H' → Q (.bl (stillB l1 && stillB l2)) H'
theorem sc_still : FnScope ["walls"] ["walls"] (defScope s_is_still) := ⟨rfl, rfl, rfl, by decide +kernel, rfl, by decide +kernel, by decide +kernel⟩
theorem ok_st (D : Df K mg "is_still" s_is_still ["walls"] []) (T3 : Tx3 K mg aN) (cWp : Cal P w K mg base "is_wall_pair" 4 ["thing"] [] spWp) : Cal P w K mg base "is_still" 5 ["walls"] [] spSt := by
  refine D.cal (k := 4) sc_still (fun vs H Q E h => by obtain ⟨_, _, _, _, _, rfl, _⟩ := h; rfl) (fun f cdv A outer s H vs Q E hr h => ?_)
  obtain ⟨a, v1, v2, l1, l2, rfl, ha, h1, h2, k⟩ := h
  have hu := hr.units
  refine ⟨_, (pss_one (ps_ret (pe_and (pe_c cWp hr (pa_cons (pv 0) pa_nil)) (pe_one (pe_callB (call_all rfl) (by rfl) T3.nAll (by decide +kernel) (pa_cons (pe_comp (NB := ["wall"]) rfl (by decide +kernel) (by decide +kernel) rfl (by decide +kernel) (pi_tup (pv 0)) (by intro _ _ _; refine ⟨?_, ?_, ?_⟩; (exact (pg_name (i := 0) (show List.Nodup (["wall"] : List Str) by decide +kernel) rfl (Or.inl rfl))); (exact pts_nil); (exact (pe_or (pe_cmpR op_isN (pv 0) pe_non (nomark _)) (pe_one (pe_cmpR (op_eqNK (K := K) rfl hu) (pe_ix (ix_tupK (K := K) rfl) (pv 0) pe_int (fun _ _ => rfl)) (pe_glob (v := .ref aN) (by rfl) T3.mn rfl) (nomark _))))))) pa_nil)))))), ?_⟩
  refine ⟨_, rfl, a, v1, v2, l1, l2, rfl, ha, h1, h2, true, rfl, iteT ?_⟩
  unfold tCB tCons
  refine comp_still (K := K) T3.kn rfl ha h1 h2 fun DD H2 e2 hD => ⟨DD, _, rfl, SqL.of hD, ?_⟩
  rw [show ([stillB l1, stillB l2].all id) = (stillB l1 && stillB l2) by simp]
  exact k H2 e2
end
end KK
end
section
set_option maxHeartbeats 8000000
set_option Elab.async false
set_option linter.all false
set_option maxRecDepth 100000
namespace L2
open PySem PySem.Spec PyProof.Rows PySem.W
section
variable {X : Cx}
def rCatL (K : PySem.W.Frag) : R2 := fun x y H Q => ∃ l b xs zs, x = .ref l ∧ y = .ref b ∧ SqL K H l xs ∧ SqL K H b zs ∧ xs.length + zs.length ≤ sizeLine ∧ ∀ p, H p = none → Q (.ref p) (upd H p (.lst (xs ++ zs)))
theorem op_catL : OpR X (binaryOp .Add) (rCatL X.K) := by
  intro pins s σ H x y v u Q I rx ry h
  obtain ⟨l, b, xs, zs, rfl, rfl, hH, hB, hz, q⟩ := h
  cases rx
  cases ry
  obtain ⟨its, r, pl, z⟩ := I.list hH
  obtain ⟨its2, r2, pl2, z2⟩ := I.list hB
  have e1 := r.length
  have e2 := r2.length
  obtain ⟨⟨cls, dd, data, sl⟩, n, ho, hc, hdn, hd⟩ := pl
  obtain ⟨⟨cls2, dd2, data2, sl2⟩, n2, ho2, hc2, hdn2, hd2⟩ := pl2
  simp only at hc hd hc2 hd2
  subst hc hd hc2 hd2
  refine concat_meets ⟨_, ho, rfl⟩ ⟨_, ho2, rfl⟩ noFill_list_add seq_list_add PySem.F.slot_list_add PySem.F.entry_list_add (PySem.F.args_list_add_2 _ _) (list_addW l b its.toArray its2.toArray n n2 dd dd2 sl sl2 (by simp only [List.size_toArray]; omega)) ⟨ho, ho2, ?_⟩
  have ea : its.toArray ++ its2.toArray = (its ++ its2).toArray := by simp
  rw [ea]
  exact ⟨.ref _, _, I.lnew (t' := s.toks) (r.append r2) (by rw [List.length_append]; omega), rfl, q _ I.fresh⟩
theorem call_isiDK {K : PySem.W.Frag} {a : Addr} {oe : Obj} {C : Addr} {d : Option Addr} {vs : Array Value} (hK : X.K = K) (hp : (a, oe) ∈ X.pn) (hc : oe.cls = .ref C) (hdd : oe.dict = d) (hd : oe.data = .fields vs) (Z : ExcK K C) :
    CallR X (.builtin "isinstance") (fun xs H Q => ∃ x c b, xs = [.ref a, x] ∧ d = none ∧ RelV x c ∧ (∀ u, RelV x u → u = c) ∧ PySem.W.kitOne K (.ref C) c = some b ∧ Q (.bl b) H) := by
  subst hK
  intro pins s σ H xs us Q I r h
  obtain ⟨x, c, b, rfl, hx, rx, ux, e, q⟩ := h
  obtain ⟨u, w', rfl, r1, r2⟩ := vals2 r
  cases (show u = Value.ref a from r1)
  cases ux _ r2
  have g1 := (I.pin _ (List.mem_append_left _ hp)).1
  have hI : InstAt s.heap a oe C none := ⟨g1, hc, by unfold notCls; rw [hd], by rw [hdd, hx]; trivial⟩
  exact PySem.W.kia_one (kitx_exc Z) I.kIn ⟨oe, none, hI⟩ e (fun z => nomatch z) fun tk => ⟨.bl b, H, I.tok tk, rfl, q⟩
end
theorem ty_at {M : Model} {h : Heap} {a : Addr} {o : Obj} {c : Value} (e : h.get? a = some o) (k : o.cls = c) : Looks M h (typeOf (.ref a)) c := by
  subst k; exact (Looks.ld e).andThen .now
section
variable {X : Cx} {i : Nat} {x n : Str} {C : Addr} {np hpos pos : Pos} {body suite : List Stmt} {b₀ : Stmt} {tb : XJ → TS} {ts : Addr → Option Addr → TS}
theorem ps_tryS {Dc : Addr} (hst : X.stack = X.env :: X.outer) (hfr : X.env.frame = some X.env.locals) (hm : X.mg x = some (.ref Dc)) (hx : exmOne X.K (.ref C) (.ref Dc) = some true) (hN : X.N.Nodup) (hi : X.N[i]? = some n) (hk : X.env.kindOf n = some .local)
    (hb : ∀ pins W J, Bears (X.tried pins W) J → PSs (X.tried pins W) body (tb J)) (hs : ∀ pins a oe d vs, oe.cls = .ref C → oe.dict = d → oe.data = .fields vs → PSs (X.suite pins a oe) (b₀ :: suite) (ts a d))
    (hg : Gl X x := by rfl) (hd : (x == ("__debug__" : Str)) = false := by decide) :
    PS X (.Try body [.ExceptHandler (some (.Name x np)) (some n) (b₀ :: suite) hpos] [] [] pos) (tTry i C tb ts) := by
  intro pins s σ H D I h
  have hb' := hb pins (fun e s₁ => wpAny (model X.prog X.w) X.A (noteFrame e X.env) (fun _ s₂ => wpAny (model X.prog X.w) X.A (setFlight e none) (fun _ s₃ =>
    wpAny (model X.prog X.w) X.A (handleBy e X.env [.ExceptHandler (some (.Name x np)) (some n) (b₀ :: suite) hpos]) (SP X pins D) X.xe s₃) X.xe s₂) X.xe s₁) _ ?_ [] s σ H D (I.tried _) h
  · refine wpAny_Try_except (wpAny_mono hb' (fun f s1 hf => ?_) fun _ _ z => z)
    cases f with
    | next => obtain ⟨σ', H', I', q⟩ := hf; exact wpAny_execs_nil ⟨σ', H', I'.untried I.ok, q⟩
    | brk => obtain ⟨σ', H', I', q⟩ := hf; exact ⟨σ', H', I'.untried I.ok, q⟩
    | cont => obtain ⟨σ', H', I', q⟩ := hf; exact ⟨σ', H', I'.untried I.ok, q⟩
    | ret u => obtain ⟨v, σ', H', I', r, q⟩ := hf; exact ⟨v, σ', H', I'.untried I.ok, r, q⟩
  · intro pins' σ' H1 s1 a C' H' s' B a0 dct I1 F hq
    obtain ⟨rfl, q⟩ := hq
    have I1 := I1.untried I.ok
    have hfrm : X.A.frames = some (X.env :: X.outer) := by rw [← hst]; exact I.ok.frames
    have F : Fly X.prog X.w X.stack H1 s1 C' H' a s' B a0 dct := F
    have Ffl : FlX B (X.env :: X.outer) a (.ref C') a0 dct s'.heap := by rw [← hst]; exact F.fly
    refine looks_x hfrm hfr Ffl fun h4 held up4 => ?_
    refine lands_x held fun h5 fl5 up5 => ?_
    have F5 := F.move (by rw [hst]; exact fl5) (up4.trans up5)
    have I5 := I1.call' F5.os F5.un F5.hok F5.bare (fun b z => absurd z (by simp))
    obtain ⟨ob, hob, hobc⟩ := fl5.there
    refine wpAny_handleBy_cons (codeAny_handlers_test (ld_glob (X := X.testing a) (I5.test a) hg hm ?_ hd)) (by intro q; cases q)
    obtain ⟨hh, g, d, tk, os⟩ := s'
    refine (exm_one (M := model X.prog X.w) I5.kIn (ty_at hob hobc) hx).here (codeAny_handlers_suite_as ?_)
    refine lands_x fl5.held fun h6 fl6 up6 => ?_
    have F6 := F5.move (by rw [hst]; exact fl6) up6
    have I6 := I1.call' F6.os F6.un F6.hok F6.bare (fun b z => absurd z (by simp))
    obtain ⟨oe, ws, hoe, hoec, hoet, hoed⟩ := fl6.first
    refine store_ok (X := X.suite pins a oe) (I6.suite hoe hoed F6.untracked) hN hi (.inl hk) (v := .ref a) rfl (fun s7 I7 => ?_) (.inr hk)
    refine wpAny_mono (hs pins a oe dct ws hoec hoet hoed [] s7 _ H' (D.gone i) I7 (q a F6.untracked)) (fun f s8 hf => ?_) fun _ _ z => z.elim
    cases f with
    | next => obtain ⟨σ8, H8, I8, q8⟩ := hf; exact goes_ok (I8.unsuite I.ok) hN hi hk fun s9 I9 => ⟨_, _, I9, q8⟩
    | brk => obtain ⟨σ8, H8, I8, q8⟩ := hf; exact goes_ok (I8.unsuite I.ok) hN hi hk fun s9 I9 => ⟨_, _, I9, q8⟩
    | cont => obtain ⟨σ8, H8, I8, q8⟩ := hf; exact goes_ok (I8.unsuite I.ok) hN hi hk fun s9 I9 => ⟨_, _, I9, q8⟩
    | ret u => obtain ⟨v, σ8, H8, I8, r8, q8⟩ := hf; exact goes_ok (I8.unsuite I.ok) hN hi hk fun s9 I9 => ⟨_, _, _, I9, r8, q8⟩
end
end L2
end
section
set_option maxHeartbeats 8000000
set_option Elab.async false
set_option linter.all false
set_option maxRecDepth 100000
namespace L2
open PySem
theorem st_next {D : Ends} {σ : St} {H : Hp} (h : D.nx σ H) : tNext D σ H := h
theorem st_mid {t u : TS} {D : Ends} {σ : St} {H : Hp} (R : St → Hp → Prop) (h2 : ∀ σ' H', R σ' H' → u D σ' H') (h1 : ∀ nx : St → Hp → Prop, (∀ σ' H', R σ' H' → nx σ' H') → t { D with nx := nx } σ H) : tSeq t u D σ H := h1 (u D) h2
end L2
namespace KK
open PySem L2 KM
def lv : Option Int → V
  | none => .non
  | some l => .int l
def f1 : Option Int → Option Int → Int → Int → Int × Int
  | some l, some h, s, v => (l + (s - l) % (2 * (h - l)), v)
  | some l, none, s, v => if s < l then (2 * l - s, -v) else (s, v)
  | none, _, s, v => (s, v)
def f2 : Option Int → Int × Int → Int × Int
  | some h, p => if h < p.1 then (2 * h - p.1, -p.2) else p
  | none, p => p
def absI (i : Int) : Int := if i < 0 then -i else i
def f3 : Option Int → Int × Int → Int × Int
  | some l, p => if p.1 = l then (p.1, absI p.2) else p
  | none, p => p
def f4 : Option Int → Int × Int → Int × Int
  | some h, p => if p.1 = h then (p.1, -absI p.2) else p
  | none, p => p
def Wb (w : Option (Int × Int)) : Prop := ∀ t, w = some t → Bd 2000 t.1
section
variable {P : Program} {w : World} {K : PySem.W.Frag} {mg : Str → Option Value} {base : Heap} {C : Addr}
theorem fld_w {H : Hp} {v : V} {w : Option (Int × Int)} (h : TrAt H v w) : (w = none ∧ v = .non) ∨ ∃ t a, w = some t ∧ v = .ref a ∧ H a = some (.tup [.int t.1, .int t.2]) := by
  cases w with
  | none => exact .inl ⟨rfl, h⟩
  | some t => obtain ⟨a, e, h⟩ := h; exact .inr ⟨t, a, rfl, e, h⟩
theorem CoAt.same {H H' : Hp} {c : Addr} {pb sb : Int} {tk : Rat} {ws : List Int} {trs : List (Int × Int)} {lo hi : Option (Int × Int)} (h : CoAt H C c pb sb tk ws trs lo hi) (e : Same H H') : CoAt H' C c pb sb tk ws trs lo hi := by
  obtain ⟨dx, fs, h1, F⟩ := h
  obtain ⟨tp, t1, t2⟩ := F.tick
  obtain ⟨wl, w1, w2⟩ := F.weights
  obtain ⟨tl, tv, r1, r2, r3⟩ := F.tracks
  obtain ⟨v, l1, l2⟩ := F.low
  obtain ⟨u, g1, g2⟩ := F.high
  exact ⟨dx, fs, e _ _ h1, F.pb, F.sb, ⟨tp, t1, e _ _ t2⟩, ⟨wl, w1, e _ _ w2⟩, ⟨tl, tv, r1, e _ _ r2, r3.keeps (.of e)⟩, ⟨v, l1, l2.keeps (.of e)⟩, ⟨u, g1, g2.keeps (.of e)⟩, F.len⟩
theorem b2i : Bd 1000000 (2 : Int) := Bd.mono (m := 2) (show (2 : Int).natAbs < 2 ^ 2 by decide) (by decide)
end
end KK
end
section
set_option maxHeartbeats 8000000
set_option Elab.async false
set_option linter.all false
set_option maxRecDepth 100000
namespace KK
open PySem L2 KM
abbrev OwnV (x : Str) (C : Addr) (mg : Str → Option Value) (h : Heap) : Prop := PyProof.Rows.OwnCls x C vMro "ValueError.__new__" mg h
def tripP (lo hi : Option (Int × Int)) : Option Int := match lo, hi with
  | some l, some h => some (2 * (h.1 - l.1))
  | _, _ => none
section
variable {P : Program} {w : World} {K : PySem.W.Frag} {mg : Str → Option Value} {base : Heap} {C CE : Addr} {aN : Addr}
def spTrip (C : Addr) : Sp := fun vs H Q _ => ∃ c pb sb tk ws trs lo hi, vs = [.ref c] ∧ CoAt H C c pb sb tk ws trs lo hi ∧ Wb lo ∧ Wb hi ∧ Q (lv (tripP lo hi)) H
theorem sc_trip : FnScope ["course"] ["course"] (defScope s_trip_of) := ⟨rfl, rfl, rfl, by decide +kernel, rfl, by decide +kernel, by decide +kernel⟩
theorem ok_trip (D : Df K mg "trip_of" s_trip_of ["course"] []) (TC : TCo K C) : Cal P w K mg base "trip_of" 1 ["course"] [] (spTrip C) := by
  refine D.cal (k := 0) sc_trip (fun vs H Q E h => by obtain ⟨_, _, _, _, _, _, _, _, rfl, _⟩ := h; rfl) (fun f cdv A outer s H vs Q E hr h => ?_)
  obtain ⟨c, pb, sb, tk, ws, trs, lo, hi, rfl, hco, wl, wh, k⟩ := h
  obtain ⟨dx, fs, hc, F⟩ := id hco
  obtain ⟨vl, el, tl⟩ := F.low
  obtain ⟨vh, eh, th⟩ := F.high
  refine ⟨_, (pss_cons (ps_if ((pw_or (pt_cmpR op_isN (pe_fld (pv 0) rfl) pe_non (nomark _)) (pw_or1 (pt_cmpR op_isN (pe_fld (pv 0) rfl) pe_non (nomark _))))).pt (pss_one (ps_ret pe_non)) pss_nil)
    (pss_one (ps_ret (pe_op op_mulB pe_int (pe_op op_sub (pe_ix ix_tup (pe_fld (pv 0) rfl) pe_int (fun _ _ => rfl)) (pe_ix ix_tup (pe_fld (pv 0) rfl) pe_int (fun _ _ => rfl))))))), ?_⟩
  rcases fld_w tl with ⟨rfl, rfl⟩ | ⟨l, al, rfl, rfl, hal⟩
  · exact ⟨_, rfl, c, C, dx, fs, _, rfl, hc, TC.cls, TC.low, el, rfl, _, rfl, iteT (iteT k)⟩
  · refine ⟨_, rfl, c, C, dx, fs, _, rfl, hc, TC.cls, TC.low, el, rfl, _, rfl, iteF ?_⟩
    rcases fld_w th with ⟨rfl, rfl⟩ | ⟨h, ah, rfl, rfl, hah⟩
    · exact ⟨_, rfl, c, C, dx, fs, _, rfl, hc, TC.cls, TC.high, eh, rfl, _, rfl, iteT k⟩
    · refine ⟨_, rfl, c, C, dx, fs, _, rfl, hc, TC.cls, TC.high, eh, rfl, _, rfl, iteF ?_⟩
      exact ⟨_, rfl, c, C, dx, fs, _, rfl, hc, TC.cls, TC.high, eh, ah, _, _, _, rfl, rfl, .of hah, at0 .., _, rfl, c, C, dx, fs, _, rfl, hc, TC.cls, TC.low, el, al, _, _, _, rfl, rfl, .of hal, at0 .., _, _, rfl, rfl, _, _, rfl, rfl, ⟨b2i, ((wh _ rfl).sub (wl _ rfl)).mono (by decide)⟩, k⟩
end
end KK
end
section
set_option maxHeartbeats 8000000
set_option Elab.async false
set_option linter.all false
set_option maxRecDepth 100000
namespace L2
open PySem
theorem pe_fldK {X : Cx} {K : PySem.W.Frag} {e : Expr} {ta : TE} {f : Str} {pos : Pos} (hK : X.K = K) (he : PE X e ta) (hb : attributeBase e f X.env (eval e X.env) = eval e X.env) : PE X (.Attribute e f pos) (tFld K ta f) := by
  subst hK; exact pe_fld he hb
theorem cl_two {a b : Str} {m n : Addr} {cs : List (Str × Addr)} (h1 : cs.lookup a = some m) (h2 : cs.lookup b = some n) (x : Str) (c : Addr) (e : List.lookup x [(a, m), (b, n)] = some c) : cs.lookup x = some c := by
  simp only [List.lookup] at e
  cases q1 : (x == a) with
  | true => rw [q1] at e; cases e; rw [eq_of_beq q1]; exact h1
  | false =>
    rw [q1] at e
    cases q2 : (x == b) with
    | true => rw [q2] at e; cases e; rw [eq_of_beq q2]; exact h2
    | false => rw [q2] at e; cases e
theorem cl_three {a b d : Str} {m n k : Addr} {cs : List (Str × Addr)} (h1 : cs.lookup a = some m) (h2 : cs.lookup b = some n) (h3 : cs.lookup d = some k) (x : Str) (c : Addr) (e : List.lookup x [(a, m), (b, n), (d, k)] = some c) : cs.lookup x = some c := by
  simp only [List.lookup] at e
  cases q1 : (x == a) with
  | true => rw [q1] at e; cases e; rw [eq_of_beq q1]; exact h1
  | false =>
    rw [q1] at e
    cases q2 : (x == b) with
    | true => rw [q2] at e; cases e; rw [eq_of_beq q2]; exact h2
    | false =>
      rw [q2] at e
      cases q3 : (x == d) with
      | true => rw [q3] at e; cases e; rw [eq_of_beq q3]; exact h3
      | false => rw [q3] at e; cases e
end L2
namespace KK
open PySem L2 KM
section
variable {P : Program} {w : World} {K : PySem.W.Frag} {mg : Str → Option Value} {base : Heap} {C CE : Addr} {aN : Addr}
theorem trip_ok {lo hi : Option (Int × Int)} (wl : Wb lo) (wh : Wb hi) (h : ∀ l r, lo = some l → hi = some r → l.1 < r.1) : ∀ x, tripP lo hi = some x → 0 < x ∧ Bd 3000 x := fun x e => by
  cases lo with
  | none => cases e
  | some l =>
    cases hi with
    | none => cases e
    | some r =>
      cases e
      have := h _ _ rfl rfl
      exact ⟨by omega, ((show Bd 2 (2 : Int) by show (2 : Int).natAbs < 2 ^ 2; decide).mul ((wh _ rfl).sub (wl _ rfl))).mono (by decide)⟩
structure Pl (H : Hp) (r a : Addr) (bs : List Ball) (b0 : Ball) (l1 l2 : Wl) : Prop where
  row : ∃ us, H r = some (.tup us) ∧ BallsAt H us bs
  b0 : bs[0]? = some b0
  len : bs.length ≤ 8
  walls : ∃ v1 v2, H a = some (.tup [v1, v2]) ∧ WallAt H v1 l1 ∧ WallAt H v2 l2
theorem Pl.same {H H' : Hp} {r a : Addr} {bs : List Ball} {b0 : Ball} {l1 l2 : Wl} (h : Pl H r a bs b0 l1 l2) (e : Same H H') : Pl H' r a bs b0 l1 l2 := by
  obtain ⟨us, h1, h2⟩ := h.row
  obtain ⟨v1, v2, g1, g2, g3⟩ := h.walls
  exact ⟨⟨us, e _ _ h1, h2.same e⟩, h.b0, h.len, ⟨v1, v2, e _ _ g1, g2.same e, g3.same e⟩⟩
def plB (b0 : Ball) (bs : List Ball) (l1 l2 : Wl) : Bool := evB b0 bs && (stillB l1 && stillB l2)
def spPl : Sp := fun vs H Q _ => ∃ r a bs b0 l1 l2, vs = [.ref r, .ref a] ∧ Pl H r a bs b0 l1 l2 ∧ ∀ H', Same H H' → Q (.bl (plB b0 bs l1 l2)) H'
theorem sc_plain : FnScope ["row", "walls"] ["row", "walls"] (defScope s_is_plain) := ⟨rfl, rfl, rfl, by decide +kernel, rfl, by decide +kernel, by decide +kernel⟩
theorem ok_pl (D : Df K mg "is_plain" s_is_plain ["row", "walls"] []) (cEv : Cal P w K mg base "is_even" 5 ["row"] [] spEv) (cSt : Cal P w K mg base "is_still" 5 ["walls"] [] spSt) : Cal P w K mg base "is_plain" 6 ["row", "walls"] [] spPl := by
  refine D.cal (k := 5) sc_plain (fun vs H Q E h => by obtain ⟨_, _, _, _, _, _, rfl, _⟩ := h; rfl) (fun f cdv A outer s H vs Q E hr h => ?_)
  obtain ⟨r, a, bs, b0, l1, l2, rfl, pl, k⟩ := h
  obtain ⟨us, hrr, hB⟩ := pl.row
  obtain ⟨v1, v2, ha, h1, h2⟩ := pl.walls
  refine ⟨_, (pss_one (ps_ret (pe_and (pe_c cEv hr (pa_cons (pv 0) pa_nil)) (pe_one (pe_c cSt hr (pa_cons (pv 1) pa_nil)))))), ?_⟩
  refine ⟨_, rfl, r, us, bs, b0, rfl, hrr, hB, pl.b0, pl.len, fun H1 e1 => ⟨_, rfl, ?_⟩⟩
  cases e : evB b0 bs with
  | false =>
    refine iteF ?_
    have := k H1 e1
    unfold plB at this; rw [e] at this; exact this
  | true =>
    refine iteT ⟨_, rfl, a, v1, v2, l1, l2, rfl, e1 _ _ ha, h1.same e1, h2.same e1, fun H2 e2 => ?_⟩
    have := k H2 (e1.trans e2)
    unfold plB at this; rw [e] at this; exact this
def spRu : Sp := fun vs H Q _ => ∃ r a bs b0 l1 l2, vs = [.ref r, .ref a] ∧ Pl H r a bs b0 l1 l2 ∧ plB b0 bs l1 l2 = true ∧ ∀ H', Same H H' → Q .non H'
def spRuE (C : Addr) : Sp := fun vs H _ E => ∃ r a bs b0 l1 l2, vs = [.ref r, .ref a] ∧ Pl H r a bs b0 l1 l2 ∧ plB b0 bs l1 l2 = false ∧ ∀ H', Same H H' → E (.ref C) none H'
theorem sc_ru : FnScope ["row", "walls"] ["row", "walls"] (defScope s_refuse_uneven) := ⟨rfl, rfl, rfl, by decide +kernel, rfl, by decide +kernel, by decide +kernel⟩
theorem ok_ru (D : Df K mg "refuse_uneven" s_refuse_uneven ["row", "walls"] []) (cPl : Cal P w K mg base "is_plain" 6 ["row", "walls"] [] spPl) : Cal P w K mg base "refuse_uneven" 7 ["row", "walls"] [] spRu := by
  refine D.cal (k := 6) sc_ru (fun vs H Q E h => by obtain ⟨_, _, _, _, _, _, rfl, _⟩ := h; rfl) (fun f cdv A outer s H vs Q E hr h => ?_)
  obtain ⟨r, a, bs, b0, l1, l2, rfl, pl, hp, k⟩ := h
  refine ⟨_, (pss_one (ps_if (pt_not (pt_truth (pe_c cPl hr (pa_cons (pv 0) (pa_cons (pv 1) pa_nil))) fun _ => rfl)) pss_never pss_nil)), ?_⟩
  refine ⟨_, rfl, _, rfl, r, a, bs, b0, l1, l2, rfl, pl, fun H1 e1 => ⟨_, rfl, ?_⟩⟩
  rw [hp]
  exact iteF (k H1 e1)
theorem ok_ruE (D : Df K mg "refuse_uneven" s_refuse_uneven ["row", "walls"] []) (O : OwnV "NotEven" CE mg base) (cPl : Cal P w K mg base "is_plain" 6 ["row", "walls"] [] spPl) : Cal1 P w K mg base "refuse_uneven" 7 ["row", "walls"] [] (spRuE CE) := by
  refine D.cal1 (k := 6) sc_ru (fun vs H Q E h => by obtain ⟨_, _, _, _, _, _, rfl, _⟩ := h; rfl) (fun f cdv A outer s H vs Q E hr h => ?_)
  obtain ⟨r, a, bs, b0, l1, l2, rfl, pl, hp, k⟩ := h
  refine ⟨_, (pss_one (ps_if (pt_not (pt_truth (pe_c cPl hr (pa_cons (pv 0) (pa_cons (pv 1) pa_nil))) fun _ => rfl)) (pss_one (ps_raise O PySem.F.excBase_ValueError (by decide +kernel) PySem.F.excBase_ValueError hr.hd bearsNew_def (pa_cons pe_str pa_nil))) pss_nil)), ?_⟩
  refine ⟨_, rfl, _, rfl, r, a, bs, b0, l1, l2, rfl, pl, fun H1 e1 => ⟨_, rfl, ?_⟩⟩
  rw [hp]
  exact iteT ⟨by show 1 ≤ sizeLine; decide, k H1 e1⟩
end
end KK
end
section
set_option maxHeartbeats 8000000
set_option Elab.async false
set_option linter.all false
set_option maxRecDepth 100000
namespace KK
open PySem L2 KM
def tb (b : Bl) : Ball := ⟨b.pl, b.sp, b.wt⟩
def Sm (x : Rat) : Prop := Bd 200 x.num ∧ Bd 20 (x.den : Int)
theorem Sm.sz {x : Rat} (h : Sm x) : Sz 400 x := ⟨h.1.mono (by decide), h.2.mono (by decide)⟩
structure Ln (H : Hp) (r a : Addr) (bs : List Bl) (lo hi : Wl) : Prop where
  row : ∃ us, H r = some (.tup us) ∧ RowI H us bs
  walls : ∃ v1 v2, H a = some (.tup [v1, v2]) ∧ WallAt H v1 lo ∧ WallAt H v2 hi
  l1 : 1 ≤ bs.length
  l8 : bs.length ≤ 8
theorem Ln.same {H H' : Hp} {r a : Addr} {bs : List Bl} {lo hi : Wl} (h : Ln H r a bs lo hi) (e : Same H H') : Ln H' r a bs lo hi := by
  obtain ⟨us, h1, h2⟩ := h.row
  obtain ⟨v1, v2, g1, g2, g3⟩ := h.walls
  exact ⟨⟨us, e _ _ h1, h2.keeps (.of e)⟩, ⟨v1, v2, e _ _ g1, g2.same e, g3.same e⟩, h.l1, h.l8⟩
structure LnZ (bs : List Bl) (lo hi : Wl) : Prop where
  sz : ∀ t ∈ ths bs lo hi, Sm t.1 ∧ Sm t.2
  lh : ∀ l h, lo = some l → hi = some h → l.1 < h.1
theorem RowI.balls {H : Hp} : ∀ {us : List V} {bs : List Bl}, RowI H us bs → BallsAt H us (bs.map tb)
  | [], [], _ => .nil
  | [], _ :: _, h => by have := h.1; simp at this
  | _ :: _, [], h => by have := h.1; simp at this
  | u :: us, b :: bs, h => by
    obtain ⟨c, e, a, p, q, rfl, h1, h2, h3⟩ := h.2 0 u rfl
    simp at e; subst e
    exact .cons (b := tb b) h1 h2 h3 (RowI.balls ⟨by have := h.1; simpa using this, fun i v e => by simpa using h.2 (i + 1) v (by simpa using e)⟩)
theorem WallAt.wl {H : Hp} {v : V} {l : Wl} (h : WallAt H v l) : WlAt H v l := by
  cases l with
  | none => exact h
  | some z => obtain ⟨x, y⟩ := z; obtain ⟨a, p, q, e1, e2, e3, e4⟩ := h; exact ⟨a, e1, p, q, [], e2, e3, e4⟩
theorem Ln.pl {H : Hp} {r a : Addr} {bs : List Bl} {lo hi : Wl} (h : Ln H r a bs lo hi) : ∃ b0, bs[0]? = some b0 ∧ Pl H r a (bs.map tb) (tb b0) lo hi := by
  obtain ⟨us, h1, h2⟩ := h.row
  have l1 := h.l1
  refine ⟨bs[0], List.getElem?_eq_getElem l1, ⟨us, h1, h2.balls⟩, by rw [List.getElem?_map, List.getElem?_eq_getElem l1]; rfl, by rw [List.length_map]; exact h.l8, h.walls⟩
theorem lcmS {qs : List Rat} (h : ∀ q ∈ qs, Bd 20 (q.den : Int)) (hl : qs.length ≤ 20) : 0 < lcmD qs ∧ Bd 401 (lcmD qs) ∧ ∀ q ∈ qs, (q.den : Int) ∣ lcmD qs := by
  obtain ⟨a1, a2, _, a4⟩ := lcm_fold (n := 20) (ks := qs.map fun q => (q.den : Int)) (c := 1) (m := 1) (by decide) (show (1 : Int).natAbs < 2 ^ 1 by decide) (fun k hk => by
    obtain ⟨q, hq, rfl⟩ := List.mem_map.mp hk
    exact ⟨by have := q.den_pos; omega, h q hq⟩)
  exact ⟨a1, a2.mono (by rw [List.length_map]; omega), fun q hq => a4 _ (List.mem_map.mpr ⟨q, hq, rfl⟩)⟩
theorem byB_bd {x : Rat} {b : Int} (hx : Bd 200 x.num) (hb : 0 < b) (h : Bd 401 b) : Bd 2000 (byB x b) := by
  have d1 : 0 < (x.den : Int) := by have := x.den_pos; omega
  unfold byB
  have z : Bd 401 (b.fdiv (x.den : Int)) := by
    rw [Int.fdiv_eq_ediv_of_nonneg _ (by omega)]
    exact h.of_le (by have := Int.ediv_le_self (x.den : Int) (a := b) (by omega); have := Int.ediv_nonneg (a := b) (b := (x.den : Int)) (by omega) (by omega); omega)
  exact (hx.mul z).mono (by decide)
theorem byB_lt {x y : Rat} {b : Int} (hb : 0 < b) (hx : (x.den : Int) ∣ b) (hy : (y.den : Int) ∣ b) (h : x < y) : byB x b < byB y b := by
  have d1 := den_pos x
  have d2 := den_pos y
  obtain ⟨k, ek⟩ := hx
  obtain ⟨m, em⟩ := hy
  have f1 : b.fdiv (x.den : Int) = k := by rw [Int.fdiv_eq_ediv_of_nonneg _ (by omega), ek]; exact Int.mul_ediv_cancel_left _ (by omega)
  have f2 : b.fdiv (y.den : Int) = m := by rw [Int.fdiv_eq_ediv_of_nonneg _ (by omega), em]; exact Int.mul_ediv_cancel_left _ (by omega)
  have k0 : 0 < k := by
    rcases Int.lt_or_le 0 k with h | h
    · exact h
    · have := Int.mul_nonpos_of_nonneg_of_nonpos (a := (x.den : Int)) (b := k) (by omega) h; omega
  have m0 : 0 < m := by
    rcases Int.lt_or_le 0 m with h | h
    · exact h
    · have := Int.mul_nonpos_of_nonneg_of_nonpos (a := (y.den : Int)) (b := m) (by omega) h; omega
  unfold byB
  rw [f1, f2]
  have h' := (less_iff x y).mpr h
  have h2 := Int.mul_lt_mul_of_pos_right h' (Int.mul_pos k0 m0)
  refine Int.lt_of_mul_lt_mul_right (a := b) ?_ (by omega)
  have e1 : x.num * k * b = x.num * (y.den : Int) * (k * m) := by rw [em]; simp only [Int.mul_assoc, Int.mul_comm, Int.mul_left_comm]
  have e2 : y.num * m * b = y.num * (x.den : Int) * (k * m) := by rw [ek]; simp only [Int.mul_assoc, Int.mul_comm, Int.mul_left_comm]
  rw [e1, e2]; exact h2
structure LnB (bs : List Bl) (lo hi : Wl) (p s : Int) : Prop where
  pb : 0 < p ∧ Bd 401 p
  sb : 0 < s ∧ Bd 401 s
  tr : ∀ b ∈ bs, Bd 2000 (trB p s (b.pl, b.sp)).1 ∧ Bd 2000 (trB p s (b.pl, b.sp)).2
  bl : Wb (lo.map (trB p s))
  bh : Wb (hi.map (trB p s))
  lh : ∀ l h, lo.map (trB p s) = some l → hi.map (trB p s) = some h → l.1 < h.1
  t0 : Rat.divInt s p ≠ 0
  tz : Sz 401 (Rat.divInt s p)
theorem ths_lo {bs : List Bl} {lo hi : Wl} {t : Rat × Rat} (e : lo = some t) : t ∈ ths bs lo hi := by unfold ths; rw [e]; simp [oneT]
theorem ths_hi {bs : List Bl} {lo hi : Wl} {t : Rat × Rat} (e : hi = some t) : t ∈ ths bs lo hi := by unfold ths; rw [e]; simp [oneT]
theorem ths_b {bs : List Bl} {lo hi : Wl} {b : Bl} (m : b ∈ bs) : (b.pl, b.sp) ∈ ths bs lo hi := by
  unfold ths; exact List.mem_append_left _ (List.mem_map.mpr ⟨b, m, rfl⟩)
theorem LnZ.bd {bs : List Bl} {lo hi : Wl} (h : LnZ bs lo hi) (l8 : bs.length ≤ 8) : LnB bs lo hi (pbO bs lo hi) (sbO bs lo hi) := by
  have hl := ths_len (lo := lo) (hi := hi) l8
  obtain ⟨p1, p2, p3⟩ := lcmS (qs := (ths bs lo hi).map (·.1)) (fun q m => by obtain ⟨t, mt, rfl⟩ := List.mem_map.mp m; exact (h.sz t mt).1.2) (by rw [List.length_map]; exact hl)
  obtain ⟨s1, s2, s3⟩ := lcmS (qs := (ths bs lo hi).map (·.2)) (fun q m => by obtain ⟨t, mt, rfl⟩ := List.mem_map.mp m; exact (h.sz t mt).2.2) (by rw [List.length_map]; exact hl)
  have tr : ∀ t ∈ ths bs lo hi, Bd 2000 (trB (pbO bs lo hi) (sbO bs lo hi) t).1 ∧ Bd 2000 (trB (pbO bs lo hi) (sbO bs lo hi) t).2 := fun t m => ⟨byB_bd (h.sz t m).1.1 p1 p2, byB_bd (h.sz t m).2.1 s1 s2⟩
  refine ⟨⟨p1, p2⟩, ⟨s1, s2⟩, fun b m => tr _ (ths_b m), fun t e => ?_, fun t e => ?_, fun l r e1 e2 => ?_, ?_, .divInt (by show pbO bs lo hi ≠ 0; unfold pbO; omega) s2 p2⟩
  · cases lo with
    | none => cases e
    | some z => cases e; exact (tr z (ths_lo rfl)).1
  · cases hi with
    | none => cases e
    | some z => cases e; exact (tr z (ths_hi rfl)).1
  · cases lo with
    | none => cases e1
    | some z =>
      cases hi with
      | none => cases e2
      | some y =>
        cases e1; cases e2
        exact byB_lt p1 (p3 _ (List.mem_map.mpr ⟨z, ths_lo rfl, rfl⟩)) (p3 _ (List.mem_map.mpr ⟨y, ths_hi rfl, rfl⟩)) (h.lh _ _ rfl rfl)
  · intro z
    have h1 : 0 < sbO bs lo hi := s1
    have h2 : 0 < pbO bs lo hi := p1
    rw [show (0 : Rat) = Rat.divInt 0 1 by rfl, Rat.divInt_eq_divInt_iff (by omega) (by decide)] at z
    omega
end KK
end
section
set_option maxHeartbeats 8000000
set_option Elab.async false
set_option linter.all false
set_option maxRecDepth 100000
namespace KK
open PySem L2 KM
def prL (z : Int × Int) : List Int := [z.1, z.2]
theorem tupsH_at {H : Hp} {ys : List V} {ks : List (List Int)} (t : TupsH H ys ks) : ∀ {i : Nat} {v : V}, ys[i]? = some v → ∃ q k, v = .ref q ∧ ks[i]? = some k ∧ H q = some (.tup (k.map V.int)) := by
  induction t with
  | nil => intro i v e; simp at e
  | @cons a k xs ks e ne t ih =>
    intro i v h
    cases i with
    | zero => simp at h; subst h; exact ⟨a, k, rfl, rfl, e⟩
    | succ i => simpa using ih (by simpa using h)
theorem unpr {l : List (Int × Int)} {js : List (List Int)} (h : js.Perm (l.map prL)) : ∃ ks : List (Int × Int), js = ks.map prL ∧ ks.Perm l := by
  refine ⟨js.map fun y => (y.getD 0 0, y.getD 1 0), ?_, ?_⟩
  · rw [List.map_map]
    conv => lhs; rw [← List.map_id js]
    refine List.map_congr_left fun y m => ?_
    obtain ⟨u, _, rfl⟩ := List.mem_map.mp (h.mem_iff.mp m)
    rfl
  · have e := h.map fun y : List Int => (y.getD 0 0, y.getD 1 0)
    rw [List.map_map] at e
    have : (l.map ((fun y : List Int => (y.getD 0 0, y.getD 1 0)) ∘ prL)) = l := by
      conv => rhs; rw [← List.map_id l]
      exact List.map_congr_left fun u _ => rfl
    rw [this] at e
    exact e
section
variable {P : Program} {w : World} {K : PySem.W.Frag} {mg : Str → Option Value} {base : Heap} {C CE : Addr} {aN : Addr}
end
end KK
end
section
set_option maxHeartbeats 8000000
set_option Elab.async false
set_option linter.all false
set_option maxRecDepth 100000
namespace KK
open PySem L2 KM
theorem bdn {n : Nat} {i : Int} (h0 : 0 ≤ i) (h1 : i < 2 ^ n) : Bd n i := by
  unfold Bd
  have : ((2 ^ n : Nat) : Int) = (2 : Int) ^ n := by push_cast; rfl
  omega
theorem compC_byZ {J : It} {D : Addr} {N n : Nat} {js : List Nat} {σ : St} {g : TG} {tt : TT} {te : TE} {Z : Hp → Prop} {H : Hp} (Pv : Nat → Hp → List V → Prop) (h0 : Pv 0 (upd H D (.lst [])) []) (hgo : ∀ i H ys, i < N → Pv i H ys → J.go i H) (hst : ∀ H ys, Pv N H ys → J.stop N H)
    (hs : ∀ i x zs H2 H3 ys (Nx : Hp → List V → Prop), (∀ H ys, Pv (i + 1) H ys → Nx H ys) → i < N → zs.length = n → J.yld i H2 x H3 → Pv i H2 ys → H2 D = some (.lst ys) → g x (zs ++ caps σ js) H3 fun σ4 H4 => σ4.drop n = caps σ js ∧ tt σ4 H4 fun b H5 =>
      if b = true then te σ4 H5 (fun v H6 => H6 D = some (.lst ys) ∧ ys.length < sizeLine ∧ Nx (upd H6 D (.lst (ys ++ [v]))) (ys ++ [v])) else H5 D = some (.lst ys) ∧ Nx H5 ys)
    (hd : ∀ H ys, Pv N H ys → H D = some (.lst ys) → Z H) :
    ∃ W : Nat → Nat → Hp → List V → Prop, (∃ m, W 0 m (upd H D (.lst [])) []) ∧ ∀ i m H2 ys, W i m H2 ys → H2 D = some (.lst ys) → (J.stop i H2 ∧ Z H2) ∨
      (J.go i H2 ∧ ∀ zs x H3, zs.length = n → J.yld i H2 x H3 → g x (zs ++ caps σ js) H3 fun σ4 H4 => σ4.drop n = caps σ js ∧ tt σ4 H4 fun b H5 => if b = true then te σ4 H5 (fun v H6 => H6 D = some (.lst ys) ∧ ys.length < sizeLine ∧ ∃ m', m' < m ∧ W (i + 1) m' (upd H6 D (.lst (ys ++ [v]))) (ys ++ [v]))
        else H5 D = some (.lst ys) ∧ ∃ m', m' < m ∧ W (i + 1) m' H5 ys) := compC_by (Q := fun _ H => Z H) Pv h0 hgo hst hs hd
theorem step_tups {p : Addr} {H H' : Hp} (hp : Pool H p) (s : Step p H H') : TupS H H' := fun b xs e => s.tup hp e
theorem Step.free {p l : Addr} {H G : Hp} (s : Step p H G) (h : G l = none) : H l = none := by
  cases hh : H l with
  | none => rfl
  | some o =>
    by_cases e : l = p
    · subst e; obtain ⟨_, _, _, z⟩ := s.pool; rw [z] at h; cases h
    · rw [s.keep _ _ hh e] at h; cases h
theorem Step.put {p l : Addr} {H G : Hp} (s : Step p H G) (h : H l = none) (n : l ≠ p) (o : HO) : Step p H (upd G l o) :=
  ⟨by obtain ⟨q1, q2, q3, e⟩ := s.pool; exact ⟨q1, q2, q3, by rw [upd_ne (Ne.symm n)]; exact e⟩, fun b u e m => by rw [upd_ne (fun z => by rw [z, h] at e; cases e)]; exact s.keep b u e m⟩
section
variable {P : Program} {w : World} {K : PySem.W.Frag} {mg : Str → Option Value} {base : Heap} {aN : Addr}
def spWide : Sp := fun vs H Q _ => ∃ (p : Addr) (n : Int), vs = [.ref p, .int n] ∧ 0 < n ∧ Pool H p ∧ ∀ (d : Int) H', 0 ≤ d → d < n → Step p H H' → Q (.int d) H'
theorem sc_lwide : FnScope ["pool", "base", "found", "k"] ["pool", "base"] (defScope s_law_wide) := ⟨rfl, rfl, rfl, by decide +kernel, rfl, by decide +kernel, by decide +kernel⟩
theorem ok_wi (D : Df K mg "_law_wide" s_law_wide ["pool", "base"] []) (T : TxB K mg) (cN : Cal P w K mg base "_law_next" 1 ["pool", "base"] [] spNext) : Cal P w K mg base "_law_wide" 2 ["pool", "base"] [] spWide := by
  refine D.cal (k := 1) sc_lwide (fun vs H Q E h => by obtain ⟨_, _, rfl, _⟩ := h; rfl) (fun f cdv A outer s H vs Q E hr h => ?_)
  obtain ⟨p, n, rfl, hn, hP, k⟩ := h
  refine ⟨_, (pss_cons (ps_set (i := 2) sc_lwide.nd rfl (Or.inl rfl) pe_int)
    (pss_cons (ps_for PassesOwn.never rfl (pi_range1 rfl T.nRange (pa_cons pe_int pa_nil)) (pg_name (i := 3) sc_lwide.nd rfl (Or.inl rfl)) (pss_one (ps_set (i := 2) sc_lwide.nd rfl (Or.inl rfl) (pe_op op_add (pe_op op_mulB (pv 2) (pe_op op_pow pe_int pe_int)) (pe_c cN hr (pa_cons (pv 0) (pa_cons (pe_op op_pow pe_int pe_int) pa_nil)))))))
    (pss_one (ps_ret (pe_op op_mod (pv 2) (pv 1)))))), ?_⟩
  refine ⟨_, rfl, by decide, by decide, ?_⟩
  refine for_range (n := (6 : Int).toNat) (lo := 0) (fun i σ G => ∃ (z : Option V) (g : Int), σ = [some (.ref p), some (.int n), some (.int g), z] ∧ Bd (30 + 40 * i) g ∧ Step p H G) ⟨none, 0, rfl, Bd.mono (m := 1) (show (0 : Int).natAbs < 2 ^ 1 by decide) (by decide), Step.refl hP⟩ ?_ ?_
  · rintro i σ G hi ⟨z, g, rfl, hg, tG⟩
    have hi4 : i < 6 := hi
    refine ⟨_, rfl, _, _, rfl, rfl, ⟨by decide, by decide, by decide⟩, _, _, rfl, rfl, ⟨hg.mono (by omega), Bd.mono (m := 30) (bdn (by decide) (by decide)) (by decide)⟩, ?_⟩
    refine ⟨_, rfl, _, _, rfl, rfl, ⟨by decide, by decide, by decide⟩, p, _, rfl, by decide, by decide, tG.pool, fun d G2 d0 d1 t2 => ⟨_, _, rfl, rfl, _, _, rfl, ?_, tG.trans t2⟩⟩
    have e : ((2 : Int) ^ (26 : Int).toNat) = 67108864 := by decide
    have d1' : d < 67108864 := by rw [← e]; exact d1
    have b1 : Bd 30 ((2 : Int) ^ (26 : Int).toNat) := bdn (by decide) (by decide)
    have b2 : Bd 30 d := bdn d0 (by omega)
    exact ((hg.mul b1).add b2).mono (by omega)
  · rintro σ G ⟨z, g, rfl, hg, tG⟩
    exact ⟨_, rfl, _, rfl, _, _, rfl, rfl, by omega, k _ _ (Int.emod_nonneg _ (by omega)) (Int.emod_lt_of_pos _ (by omega)) tG⟩
def spLow1 : Sp := fun vs H Q _ => ∃ t b, vs = [.int t, .int b] ∧ 0 < b ∧ Bd 8900 b ∧ ∀ p H', Same H H' → RatAt H' p (Rat.divInt t b) → Q (.ref p) H'
theorem sc_llow : FnScope ["top", "bottom", "big", "rest"] ["top", "bottom"] (defScope s_law_lowest) := ⟨rfl, rfl, rfl, by decide +kernel, rfl, by decide +kernel, by decide +kernel⟩
theorem ok_llow (D : Df K mg "_law_lowest" s_law_lowest ["top", "bottom"] []) (T : TxB K mg) : Cal P w K mg base "_law_lowest" 1 ["top", "bottom"] [] spLow1 := by
  refine D.cal (k := 0) sc_llow (fun vs H Q E h => by obtain ⟨a, b, rfl, _⟩ := h; rfl) (fun f cdv A outer s H vs Q E hr h => ?_)
  obtain ⟨t, b, rfl, hb, hz, k⟩ := h
  have hb' : b ≠ 0 := by omega
  refine ⟨_, (pss_cons (ps_par (i := 2) (j := 3) rfl sc_llow.nd rfl rfl (by decide) rfl rfl (pa_cons (pe_callB call_abs (by rfl) T.nAbs PyProof.Rows.boot_abs (pa_cons (pv 0) pa_nil)) (pa_cons (pv 1) pa_nil)) (by rfl))
    (pss_cons (ps_while PassesOwn.never (pt_cmpR op_gt (pv 3) pe_int (nomark _)) (pss_one (ps_par (i := 2) (j := 3) rfl sc_llow.nd rfl rfl (by decide) rfl rfl (pa_cons (pv 3) (pa_cons (pe_op op_mod (pv 2) (pv 3)) pa_nil)) (by rfl))))
    (pss_one (ps_ret (pe_tup (pa_cons (pe_op op_fdivB (pv 0) (pv 2)) (pa_cons (pe_op op_fdivB (pv 1) (pv 2)) pa_nil))))))), ?_⟩
  have hd := KM.dv_ne (t := t) hb'
  have hdz : Bd 8900 (KM.dv t b) := hz.of_le (KM.dv_le hb')
  have ge : (Int.gcd (if t < 0 then -t else t) b : Nat) = Int.gcd t b := by
    rw [abs_eq]; simp [Int.gcd]
  refine ⟨_, rfl, t, rfl, ⟨_, rfl, _, _, rfl, ?_⟩⟩
  refine while_by (fun σ H1 => H1 = H ∧ ∃ x y : Int, σ = [some (.int t), some (.int b), some (.int x), some (.int y)] ∧ 0 ≤ x ∧ 0 ≤ y ∧ Int.gcd x y = Int.gcd t b)
    (fun σ _ => match σ with | [_, _, _, some (.int y)] => y.toNat | _ => 0) ⟨rfl, _, _, rfl, (by rw [abs_eq]; omega), (by omega), ge⟩ ?_ ?_
  · rintro σ H1 ⟨rfl, x, y, rfl, hx, hy, e⟩
    refine ⟨_, rfl, _, _, rfl, rfl, _, rfl, ite2 (fun h => ?_) (fun h => ?_)⟩
    · have h' : 0 < y := of_decide_eq_true h
      refine ⟨_, rfl, _, rfl, _, rfl, _, _, rfl, rfl, h', _, _, rfl, ⟨rfl, _, _, rfl, hy, Int.emod_nonneg _ (by omega), ?_⟩, ?_⟩
      · rw [KM.gcd_step hx h']; exact e
      · show (x % y).toNat < y.toNat
        have := Int.emod_lt_of_pos x h'
        omega
    · have h' : ¬ 0 < y := fun z => h (decide_eq_true z)
      have : y = 0 := by omega
      subst this
      have e2 : x = KM.dv t b := by
        have : x = (Int.gcd t b : Nat) := by rw [← e, Int.gcd_zero_right]; omega
        rw [this]; unfold KM.dv; rw [if_neg (by omega)]
      subst e2
      refine ⟨_, rfl, _, rfl, _, _, rfl, rfl, ⟨hd, hdz⟩, _, rfl, _, rfl, _, _, rfl, rfl, ⟨hd, hdz⟩, ?_⟩
      refine ⟨by show 2 ≤ sizeLine; decide, fun p hp => k p _ (Same.upd hp) ?_⟩
      show upd H1 p _ p = _
      rw [upd_same]
      dsimp only
      rw [KM.dv_num hb', KM.dv_den hb']; rfl
  · rintro σ H1 Q1 Q2 hq ⟨v, e, i, j, e1, e2, k1, e3, q⟩
    exact ⟨v, e, i, j, e1, e2, k1, e3, hq _ _ q⟩
end
end KK
end
section
set_option maxHeartbeats 8000000
set_option Elab.async false
set_option linter.all false
set_option maxRecDepth 100000
namespace L2
open PySem
theorem cl_one {a : Str} {m : Addr} {cs : List (Str × Addr)} (h1 : cs.lookup a = some m) (x : Str) (c : Addr) (e : List.lookup x [(a, m)] = some c) : cs.lookup x = some c := by
  simp only [List.lookup] at e
  cases q1 : (x == a) with
  | true => rw [q1] at e; cases e; rw [eq_of_beq q1]; exact h1
  | false => rw [q1] at e; cases e
end L2
namespace KK
open PySem L2 KM
def PrsI (H : Hp) (us : List V) (ps : List (Int × Int)) : Prop := us.length = ps.length ∧ ∀ (i : Nat) (v : V), us[i]? = some v → ∃ u a, ps[i]? = some u ∧ v = .ref a ∧ H a = some (.tup [.int u.1, .int u.2])
theorem PrsI.tups {H H' : Hp} {us : List V} {ps : List (Int × Int)} (h : PrsI H us ps) (t : TupS H H') : PrsI H' us ps :=
  ⟨h.1, fun i v e => by obtain ⟨u, a, e1, e2, e3⟩ := h.2 i v e; exact ⟨u, a, e1, e2, t _ _ e3⟩⟩
section
variable {P : Program} {w : World} {K : PySem.W.Frag} {mg : Str → Option Value} {base : Heap} {aN : Addr}
theorem ints_draw {p D : Addr} {G1 : Hp} {σ : St} {j : Nat} {lo b : Int} {N : Nat} {Z : Hp → Prop} (hP : Pool G1 p) (hD : G1 D = none) (hσ : σ[j]? = some (some (.ref p))) (hN : N ≤ 100) (hb0 : 0 < b) (hb : b < 1000)
    (k : ∀ (ws : List Int) (G : Hp), Step p G1 G → G D = some (.lst (ws.map V.int)) → ws.length = N → (∀ x ∈ ws, -lo ≤ x ∧ x < b - lo) → Z G) :
    ∃ W : Nat → Nat → Hp → List V → Prop, (∃ m, W 0 m (upd G1 D (.lst [])) []) ∧ ∀ i m H2 ys, W i m H2 ys → H2 D = some (.lst ys) → ((Itr 0 N).stop i H2 ∧ Z H2) ∨
      ((Itr 0 N).go i H2 ∧ ∀ zs x H3, zs.length = 1 → (Itr 0 N).yld i H2 x H3 → gName 0 x (zs ++ caps σ [j]) H3 fun σ4 H4 => σ4.drop 1 = caps σ [j] ∧ (fun _ H Q => Q true H : TT) σ4 H4 fun bb H5 => if bb = true then (tOp (rI0 fun i j => V.int (i - j)) (tCall spNext [] E0 (tCons (tVar 1) (tCons (tC (.int b)) tNil))) (tC (.int lo))) σ4 H5 (fun v H6 => H6 D = some (.lst ys) ∧ ys.length < sizeLine ∧ ∃ m', m' < m ∧ W (i + 1) m' (upd H6 D (.lst (ys ++ [v]))) (ys ++ [v]))
        else H5 D = some (.lst ys) ∧ ∃ m', m' < m ∧ W (i + 1) m' H5 ys) := by
  have hDp : D ≠ p := hP.ne hD
  have hcap : caps σ [j] = [some (.ref p)] := by simp [caps, hσ]
  refine compC_byZ (js := [j]) (J := Itr 0 N) (g := gName 0) (tt := fun _ H Q => Q true H) (te := _) (N := N) (n := 1) (fun i G ys => Step p G1 G ∧ ∃ ws : List Int, ys = ws.map V.int ∧ ws.length = i ∧ ∀ x ∈ ws, -lo ≤ x ∧ x < b - lo)
    ⟨⟨hP.new hD, fun b o e _ => Same.upd hD _ _ e⟩, [], rfl, rfl, fun v hv => by cases hv⟩ (fun i G ys hi z => hi) (fun G ys z => Nat.le_refl _) ?_ ?_
  · rintro i x zs G_ G ys Nx hN' hi hz1 ⟨rfl, rfl⟩ ⟨tG, ws, rfl, hwl, hwv⟩ hGD
    obtain ⟨y1, rfl⟩ := len1 hz1
    rw [hcap]
    refine ⟨rfl, iteT ?_⟩
    refine ⟨_, rfl, p, b, rfl, hb0, by omega, tG.pool, fun d2 G3 a2 b2 t3 => ⟨_, _, rfl, rfl, ?_⟩⟩
    have h3 := t3.keep _ _ hGD hDp
    refine ⟨h3, small1000 (by simp; omega), hN' _ _ ⟨(tG.trans t3).put hD hDp _, ws ++ [d2 - lo], by simp, by simp [hwl], fun v hv => ?_⟩⟩
    rcases List.mem_append.mp hv with z | z
    · exact hwv v z
    · have : v = d2 - lo := by simpa using z
      omega
  · rintro G ys ⟨tG, ws, rfl, hwl, hwv⟩ hGD
    exact k ws G tG hGD hwl hwv
def spThr : Sp := fun vs H Q _ => ∃ p, ∃ n : Nat, vs = [.ref p, .int n] ∧ 1 ≤ n ∧ n ≤ 8 ∧ Pool H p ∧ ∀ (t l : Addr) (us : List V) (at' : Int) (ps : List (Int × Int)) H', Step p H H' → H' t = some (.tup [.int at', .ref l]) → H l = none → H' l = some (.lst us) → PrsI H' us ps → ps.length = n → -10 ≤ at' → at' ≤ 10 → (∀ u ∈ ps, -40 ≤ u.1 ∧ u.1 ≤ 40 ∧ -6 ≤ u.2 ∧ u.2 ≤ 6) → Q (.ref t) H'
theorem sc_lth : FnScope ["pool", "many", "at", "moment", "speeds"] ["pool", "many"] (defScope s_law_through) := ⟨rfl, rfl, rfl, by decide +kernel, rfl, by decide +kernel, by decide +kernel⟩
theorem ok_thr (D : Df K mg "_law_through" s_law_through ["pool", "many"] []) (T : TxB K mg) (cN : Cal P w K mg base "_law_next" 1 ["pool", "base"] [] spNext) : Cal P w K mg base "_law_through" 2 ["pool", "many"] [] spThr := by
  refine D.cal (k := 1) sc_lth (fun vs H Q E h => by obtain ⟨_, _, rfl, _⟩ := h; rfl) (fun f cdv A outer s H vs Q E hr h => ?_)
  obtain ⟨p, n, rfl, n1, n8, hP, k⟩ := h
  refine ⟨_, (pss_cons (ps_asg (pe_tup (pa_cons (pe_op op_sub (pe_c cN hr (pa_cons (pv 0) (pa_cons pe_int pa_nil))) pe_int) (pa_cons (pe_op op_add pe_int (pe_c cN hr (pa_cons (pv 0) (pa_cons pe_int pa_nil)))) pa_nil))) (pg_tup rfl (pgs_cons (pg_name (i := 2) sc_lth.nd rfl (Or.inr rfl)) (pgs_cons (pg_name (i := 3) sc_lth.nd rfl (Or.inr rfl)) pgs_nil))))
    (pss_cons (ps_setC (i := 4) (NB := ["k"]) (FR := ["pool"]) (js := [0]) rfl rfl (fun x c h => cl_one rfl x c h) (.cons rfl rfl rfl ⟨_, rfl⟩ .nil) rfl (by decide +kernel) rfl (by decide +kernel) sc_lth.nd rfl rfl (by rfl) (pi_range1 rfl T.nRange (pa_cons (pv 1) pa_nil)) (by intro _ _ _; refine ⟨?_, ?_, ?_⟩; (exact (pg_name (i := 0) (show List.Nodup (["k", "pool"] : List Str) by decide +kernel) rfl (Or.inl rfl))); (exact pts_nil); (exact (pe_op op_sub (pe_c cN hr (pa_cons (pv 1) (pa_cons pe_int pa_nil))) pe_int))))
    (pss_one (ps_ret (pe_tup (pa_cons (pv 2) (pa_cons (pe_compC (NB := ["speed"]) (FR := ["at", "moment"]) (js := [2, 3]) rfl rfl (fun x c h => cl_two rfl rfl x c h) (.cons rfl rfl rfl ⟨_, rfl⟩ (.cons rfl rfl rfl ⟨_, rfl⟩ .nil)) rfl (by decide +kernel) rfl (by decide +kernel) (pi_list (pv 4)) (by intro _ _ _; refine ⟨?_, ?_, ?_⟩; (exact (pg_name (i := 0) (show List.Nodup (["speed", "at", "moment"] : List Str) by decide +kernel) rfl (Or.inl rfl))); (exact pts_nil); (exact (pe_tup (pa_cons (pe_op op_sub (pv 1) (pe_op op_mulB (pv 0) (pv 2))) (pa_cons (pv 0) pa_nil)))))) pa_nil))))))), ?_⟩
  refine ⟨_, rfl, p, _, rfl, by decide, by decide, hP, fun d1 G1 a1 b1 t1 => ⟨_, _, rfl, rfl, _, rfl, p, _, rfl, by decide, by decide, t1.pool, fun d2 G2 a2 b2 t2 => ⟨_, _, rfl, rfl, by show 2 ≤ sizeLine; decide, fun tt htt => ?_⟩⟩⟩
  refine ⟨tt, _, rfl, .of upd_same, rfl, _, _, rfl, _, _, rfl, rfl, ?_⟩
  dsimp only [gName]
  have T2 := (t1.trans t2).same (Same.upd (o := .tup [.int (d1 - 10), .int (1 + d2)]) htt)
  generalize upd G2 tt (.tup [.int (d1 - 10), .int (1 + d2)]) = G2' at *
  refine ⟨_, rfl, (n : Int), rfl, by omega, by omega, fun Dc hDc => ?_⟩
  refine ints_draw (j := 0) (lo := 6) (b := 13) (N := ((n : Int)).toNat) T2.pool hDc rfl (by omega) (by decide) (by decide) fun ws G t3 hGD hwl hwv => ?_
  dsimp only [gName]
  have T3 := T2.trans t3
  refine ⟨_, rfl, _, rfl, Dc, rfl, ⟨_, SqL.of hGD⟩, fun D2 hD2 => ?_⟩
  refine compC_each (js := [2, 3]) (J := Itl K Dc) (g := gName 0) (te := _) (n := 1) (xs := ws.map V.int) (fun i v G => ∃ x a, ws[i]? = some x ∧ v = .ref a ∧ G a = some (.tup [.int (d1 - 10 - x * (1 + d2)), .int x])) (fun i v G G' e ⟨x, a, q1, q2, q3⟩ => ⟨x, a, q1, q2, e _ _ q3⟩) hD2 (runs_list hGD) (small1000 (by rw [List.length_map]; omega)) ?_ ?_
  · intro i y zs G4 Q' hy hz S hQ
    obtain ⟨z1, rfl⟩ := len1 hz
    rw [List.getElem?_map] at hy
    cases hx : ws[i]? with
    | none => rw [hx] at hy; cases hy
    | some x =>
      rw [hx] at hy; cases hy
      have bx := hwv x (List.mem_of_getElem? hx)
      dsimp only [gName]
      refine ⟨rfl, _, rfl, _, rfl, _, rfl, _, _, rfl, rfl, ⟨Bd.mono (m := 10) (show x.natAbs < 2 ^ 10 by omega) (by decide), Bd.mono (m := 10) (show (1 + d2).natAbs < 2 ^ 10 by omega) (by decide)⟩, _, _, rfl, rfl, _, rfl, by show 2 ≤ sizeLine; decide, fun q hq => hQ _ _ (Same.upd hq) ⟨x, q, hx, rfl, upd_same⟩⟩
  intro us G4 S4 hG4 hul hR
  refine ⟨by show 2 ≤ sizeLine; decide, fun t ht => ?_⟩
  have S5 := S4.trans (Same.upd (o := .tup [.int (d1 - 10), .ref D2]) ht)
  refine k t D2 us (d1 - 10) (ws.map fun x => (d1 - 10 - x * (1 + d2), x)) _ (T3.same S5) upd_same (T3.free hD2) (Same.upd ht _ _ hG4) ⟨by rw [List.length_map, hul, List.length_map], fun i v e => ?_⟩ (by rw [List.length_map, hwl]; omega) (by omega) (by omega) (fun u m => ?_)
  · obtain ⟨x, a, q1, q2, q3⟩ := hR i v e
    exact ⟨_, a, by rw [List.getElem?_map, q1]; rfl, q2, Same.upd ht _ _ q3⟩
  · obtain ⟨x, mx, rfl⟩ := List.mem_map.mp m
    have bx := hwv x mx
    have h1 : -6 ≤ x := bx.1
    have h2 : x ≤ 6 := by omega
    have : (1 + d2) = 1 ∨ (1 + d2) = 2 ∨ (1 + d2) = 3 ∨ (1 + d2) = 4 := by omega
    dsimp only
    rcases this with z | z | z | z <;> rw [z] <;> omega
def spSd : Sp := fun vs H Q _ => ∃ p, ∃ n : Nat, ∃ g : Bool, vs = [.ref p, .int n, .bl g] ∧ n ≤ 8 ∧ Pool H p ∧ ∀ (l : Addr) (ws : List Int) H', Step p H H' → H l = none → H' l = some (.lst (ws.map V.int)) → ws.length = n → (∀ x ∈ ws, Bd 68 x) → Q (.ref l) H'
theorem sc_lsd : FnScope ["pool", "many", "great", "own", "found", "k", "speed"] ["pool", "many", "great"] (defScope s_law_speeds_drawn) := ⟨rfl, rfl, rfl, by decide +kernel, rfl, by decide +kernel, by decide +kernel⟩
theorem ok_sd (D : Df K mg "_law_speeds_drawn" s_law_speeds_drawn ["pool", "many", "great"] []) (T : TxB K mg) (cN : Cal P w K mg base "_law_next" 1 ["pool", "base"] [] spNext) (cWi : Cal P w K mg base "_law_wide" 2 ["pool", "base"] [] spWide) : Cal P w K mg base "_law_speeds_drawn" 3 ["pool", "many", "great"] [] spSd := by
  refine D.cal (k := 2) sc_lsd (fun vs H Q E h => by obtain ⟨_, _, _, rfl, _⟩ := h; rfl) (fun f cdv A outer s H vs Q E hr h => ?_)
  obtain ⟨p, n, g, rfl, n8, hP, k⟩ := h
  have hr1 : Room 1 _ := hr.mono (by decide)
  refine ⟨_, (pss_cons (ps_setC (i := 3) (NB := ["k"]) (FR := ["pool"]) (js := [0]) rfl rfl (fun _ _ h => h) (.cons rfl rfl rfl ⟨_, rfl⟩ .nil) rfl (by decide +kernel) rfl (by decide +kernel) sc_lsd.nd rfl rfl (by rfl) (pi_range1 rfl T.nRange (pa_cons (pe_op op_add pe_int (pe_c cN hr1 (pa_cons (pv 0) (pa_cons pe_int pa_nil)))) pa_nil)) (by intro _ _ _; refine ⟨?_, ?_, ?_⟩; (exact (pg_name (i := 0) (show List.Nodup (["k", "pool"] : List Str) by decide +kernel) rfl (Or.inl rfl))); (exact pts_nil); (exact (pe_op op_sub (pe_c cN hr1 (pa_cons (pv 1) (pa_cons pe_int pa_nil))) pe_int))))
    (pss_cons (ps_set (i := 4) sc_lsd.nd rfl (Or.inl rfl) (pe_lst pa_nil))
    (pss_cons (ps_for PassesOwn.never rfl (pi_range1 rfl T.nRange (pa_cons (pv 1) pa_nil)) (pg_name (i := 5) sc_lsd.nd rfl (Or.inl rfl)) (pss_cons (ps_set (i := 6) sc_lsd.nd rfl (Or.inl rfl) (pe_op op_mulB (pe_ix ix_list (pv 3) (pe_c cN hr1 (pa_cons (pv 0) (pa_cons (pe_callB call_len_seq (by rfl) T.nLen PySem.boot_len (pa_cons (pv 3) pa_nil)) pa_nil))) (fun _ _ => rfl)) (pe_op op_sub pe_int (pe_op op_mulB pe_int (pe_c cN hr1 (pa_cons (pv 0) (pa_cons pe_int pa_nil)))))))
    (pss_cons (ps_if (pt_cmpR op_eq (pe_c cN hr1 (pa_cons (pv 0) (pa_cons pe_int pa_nil))) pe_int (nomark _)) (pss_one (ps_set (i := 6) sc_lsd.nd rfl (Or.inl rfl) (pe_op op_sub (pe_c cN hr1 (pa_cons (pv 0) (pa_cons pe_int pa_nil))) pe_int))) pss_nil)
    (pss_cons (ps_if (pw_and (pt_truth (pv 2) fun _ => rfl) (pw_and1 (pt_cmpR op_eq (pe_c cN hr1 (pa_cons (pv 0) (pa_cons pe_int pa_nil))) pe_int (nomark _)))).pt (pss_one (ps_set (i := 6) sc_lsd.nd rfl (Or.inl rfl) (pe_op op_sub (pe_c cWi hr (pa_cons (pv 0) (pa_cons (pe_op op_add (pe_op op_mulB pe_int (pe_op op_pow pe_int pe_int)) pe_int) pa_nil))) (pe_op op_pow pe_int pe_int)))) pss_nil)
    (pss_one (ps_expr (pe_bm PySem.F.plainAttrs_list PySem.F.slot_list_append PySem.F.type_list_append mt_append (pv 4) (pa_cons (pv 6) pa_nil))))))))
    (pss_one (ps_ret (pv 4)))))), ?_⟩
  refine ⟨_, rfl, p, _, rfl, by decide, by decide, hP, fun d1 G1 a1 b1 t1 => ⟨_, _, rfl, rfl, _, rfl, by omega, by omega, fun Dc hDc => ?_⟩⟩
  refine ints_draw (j := 0) (lo := 12) (b := 25) (N := (1 + d1).toNat) t1.pool hDc rfl (by omega) (by decide) (by decide) fun ow G2 t2 hGD howl howv => ?_
  dsimp only [gName]
  have T2 := t1.trans t2
  have hcD : H Dc = none := t1.free hDc
  have hDp : Dc ≠ p := t1.pool.ne hDc
  refine ⟨by show 0 ≤ sizeLine; decide, fun Df hDf => ?_⟩
  dsimp only [gName]
  have hfp : Df ≠ p := T2.pool.ne hDf
  have hfH : H Df = none := T2.free hDf
  have hcf : Dc ≠ Df := fun z => by rw [← z, hGD] at hDf; cases hDf
  refine st_mid (fun σ' G => ∃ (ws : List Int) (z5 z6 : Option V), σ' = [some (.ref p), some (.int n), some (.bl g), some (.ref Dc), some (.ref Df), z5, z6] ∧ Step p H G ∧ G Dc = some (.lst (ow.map V.int)) ∧ G Df = some (.lst (ws.map V.int)) ∧ ws.length = n ∧ ∀ x ∈ ws, Bd 68 x) ?_ ?_
  · rintro σ' G ⟨ws, z5, z6, rfl, tG, _, hG, hwl, hwv⟩
    exact ⟨_, rfl, k Df ws G tG hfH hG hwl hwv⟩
  intro nx hnx
  refine ⟨_, rfl, (n : Int), rfl, by omega, by omega, ?_⟩
  refine for_range (n := ((n : Int)).toNat) (lo := 0) (fun i σ G => ∃ (ws : List Int) (z5 z6 : Option V), σ = [some (.ref p), some (.int n), some (.bl g), some (.ref Dc), some (.ref Df), z5, z6] ∧ Step p H G ∧ G Dc = some (.lst (ow.map V.int)) ∧ G Df = some (.lst (ws.map V.int)) ∧ ws.length = i ∧ ∀ x ∈ ws, Bd 68 x)
    ⟨[], none, none, rfl, T2.put hfH hfp _, by rw [upd_ne hcf]; exact hGD, upd_same, rfl, fun x m => by simp at m⟩ ?_ ?_
  · rintro i σ G hi ⟨ws, z5, z6, rfl, tG, hGc, hGf, hwl, hwv⟩
    dsimp only [gName]
    have mv : ∀ {G G' : Hp}, Step p G G' → (Step p H G ∧ G Dc = some (.lst (ow.map V.int)) ∧ G Df = some (.lst (ws.map V.int))) → (Step p H G' ∧ G' Dc = some (.lst (ow.map V.int)) ∧ G' Df = some (.lst (ws.map V.int))) := fun t ⟨h1, h2, h3⟩ => ⟨h1.trans t, t.keep _ _ h2 hDp, t.keep _ _ h3 hfp⟩
    have ol : 1 ≤ ow.length ∧ ow.length ≤ 3 := by omega
    refine st_mid (fun σ' G => ∃ x, σ' = [some (.ref p), some (.int n), some (.bl g), some (.ref Dc), some (.ref Df), some (.int (0 + (i : Int))), some (.int x)] ∧ (Step p H G ∧ G Dc = some (.lst (ow.map V.int)) ∧ G Df = some (.lst (ws.map V.int))) ∧ Bd 68 x) ?_ ?_
    rotate_left
    · intro nx' hnx'
      refine ⟨_, rfl, _, rfl, _, rfl, Dc, _, rfl, .inl (SqL.of hGc), p, _, rfl, by rw [List.length_map]; omega, by rw [List.length_map]; omega, tG.pool, fun d3 G3 a3 b3 t3 => ?_⟩
      rw [List.length_map] at b3
      have M3 := mv t3 ⟨tG, hGc, hGf⟩
      have hd : d3.toNat < ow.length := by omega
      have e1 : (ow.map V.int)[d3.toNat]? = some (.int ow[d3.toNat]) := by rw [List.getElem?_map, List.getElem?_eq_getElem hd]; rfl
      have e2 := atI_nat e1
      rw [show ((d3.toNat : Nat) : Int) = d3 by omega] at e2
      have bo := howv _ (List.getElem_mem hd)
      refine ⟨Dc, _, _, _, rfl, rfl, SqL.of M3.2.1, e2, ?_⟩
      refine ⟨_, rfl, p, _, rfl, by decide, by decide, M3.1.pool, fun d4 G4 a4 b4 t4 => ⟨_, _, rfl, rfl, ⟨b2i, Bd.mono (m := 10) (show d4.natAbs < 2 ^ 10 by omega) (by decide)⟩, _, _, rfl, rfl, _, _, rfl, rfl, ⟨Bd.mono (m := 10) (show (ow[d3.toNat]).natAbs < 2 ^ 10 by omega) (by decide), Bd.mono (m := 10) (show (1 - 2 * d4).natAbs < 2 ^ 10 by omega) (by decide)⟩, hnx' _ _ ⟨_, rfl, mv t4 M3, ?_⟩⟩⟩
      exact Bd.mono (m := 20) (Bd.mul (m := 10) (n := 10) (show (ow[d3.toNat]).natAbs < 2 ^ 10 by omega) (show (1 - 2 * d4).natAbs < 2 ^ 10 by omega)) (by decide)
    rintro σ1 G1' ⟨x1, rfl, M1, bx1⟩
    refine st_mid (fun σ' G => ∃ x, σ' = [some (.ref p), some (.int n), some (.bl g), some (.ref Dc), some (.ref Df), some (.int (0 + (i : Int))), some (.int x)] ∧ (Step p H G ∧ G Dc = some (.lst (ow.map V.int)) ∧ G Df = some (.lst (ws.map V.int))) ∧ Bd 68 x) ?_ ?_
    rotate_left
    · intro nx' hnx'
      refine ⟨_, rfl, p, _, rfl, by decide, by decide, M1.1.pool, fun d3 G3 a3 b3 t3 => ⟨rfl, _, rfl, ite2 (fun _ => ?_) (fun _ => hnx' _ _ ⟨x1, rfl, mv t3 M1, bx1⟩)⟩⟩
      have M3 := mv t3 M1
      refine ⟨_, rfl, p, _, rfl, by decide, by decide, M3.1.pool, fun d4 G4 a4 b4 t4 => ⟨_, _, rfl, rfl, hnx' _ _ ⟨_, rfl, mv t4 M3, Bd.mono (m := 10) (show (d4 - 12).natAbs < 2 ^ 10 by omega) (by decide)⟩⟩⟩
    rintro σ2 G2' ⟨x2, rfl, M2, bx2⟩
    refine st_mid (fun σ' G => ∃ x, σ' = [some (.ref p), some (.int n), some (.bl g), some (.ref Dc), some (.ref Df), some (.int (0 + (i : Int))), some (.int x)] ∧ (Step p H G ∧ G Dc = some (.lst (ow.map V.int)) ∧ G Df = some (.lst (ws.map V.int))) ∧ Bd 68 x) ?_ ?_
    rotate_left
    · intro nx' hnx'
      refine ⟨_, rfl, g, rfl, ?_⟩
      cases g with
      | false => exact iteF (iteF (hnx' _ _ ⟨x2, rfl, M2, bx2⟩))
      | true =>
        refine iteT ⟨_, rfl, p, _, rfl, by decide, by decide, M2.1.pool, fun d3 G3 a3 b3 t3 => ⟨rfl, _, rfl, ite2 (fun _ => ?_) (fun _ => hnx' _ _ ⟨x2, rfl, mv t3 M2, bx2⟩)⟩⟩
        have M3 := mv t3 M2
        have e20 : ((10 : Int) ^ (20 : Int).toNat) = 100000000000000000000 := by decide
        refine ⟨_, rfl, _, _, rfl, rfl, ⟨by decide, by decide, by decide⟩, _, _, rfl, rfl, ⟨b2i, Bd.mono (m := 70) (show ((10 : Int) ^ (20 : Int).toNat).natAbs < 2 ^ 70 by decide) (by decide)⟩, _, _, rfl, rfl, p, _, rfl, by rw [e20]; decide, M3.1.pool, fun d4 G4 a4 b4 t4 => ⟨_, _, rfl, rfl, ⟨by decide, by decide, by decide⟩, _, _, rfl, rfl, hnx' _ _ ⟨_, rfl, mv t4 M3, ?_⟩⟩⟩
        rw [e20] at b4 ⊢
        show (d4 - 100000000000000000000).natAbs < 2 ^ 68
        omega
    rintro σ3 G3' ⟨x3, rfl, M3, bx3⟩
    obtain ⟨tG3, hGc3, hGf3⟩ := M3
    refine ⟨_, rfl, .inl ⟨rfl, _, SqL.of hGf3⟩, _, rfl, Df, _, _, rfl, rfl, hGf3, small1000 (by rw [List.length_map]; omega), ?_⟩
    refine ⟨ws ++ [x3], _, _, rfl, tG3.put hfH hfp _, by rw [upd_ne hcf]; exact hGc3, by rw [upd_same]; simp, by simp [hwl], fun y m => ?_⟩
    rcases List.mem_append.mp m with m | m
    · exact hwv y m
    · have : y = x3 := by simpa using m
      rw [this]; exact bx3
  · rintro σ G ⟨ws, z5, z6, rfl, tG, hGc, hG, hwl, hwv⟩
    exact hnx _ _ ⟨ws, z5, z6, rfl, tG, hGc, hG, by omega, hwv⟩
end
end KK
end
section
set_option maxHeartbeats 8000000
set_option Elab.async false
set_option linter.all false
set_option maxRecDepth 100000
namespace KK
open PySem L2 KM
def stl (lo hi : Option Int) (u : Int × Int) : Int × Int := if (V.int u.1 = lv lo ∧ u.2 < 0) ∨ (V.int u.1 = lv hi ∧ 0 < u.2) then (u.1, 0 - u.2) else u
theorem stl_fst (lo hi : Option Int) (u : Int × Int) : (stl lo hi u).1 = u.1 := by unfold stl; split <;> rfl
def kk (u : Int × Int) : List Key := [Sum.inl u.1, Sum.inl u.2]
theorem kk_inj {u v : Int × Int} (h : kk u = kk v) : u = v := by
  unfold kk at h
  obtain ⟨a, b⟩ := u
  obtain ⟨c, d⟩ := v
  simp at h
  rw [h.1, h.2]
theorem keys_put {kvs : List (List Key × V)} {ks : List (Int × Int)} {u : Int × Int} {v : V} (e : kvs.map Prod.fst = ks.map kk) : (putK kvs (kk u) v).map Prod.fst = (if u ∈ ks then ks else ks ++ [u]).map kk := by
  have hm : (kvs.any fun kv => decide (kv.1 = kk u)) = decide (u ∈ ks) := by
    rw [Bool.eq_iff_iff, List.any_eq_true, decide_eq_true_eq]
    constructor
    · rintro ⟨p, mp, h⟩
      have h := of_decide_eq_true h
      have : kk u ∈ ks.map kk := by rw [← e, ← h]; exact List.mem_map.mpr ⟨p, mp, rfl⟩
      obtain ⟨w, mw, ew⟩ := List.mem_map.mp this
      rw [← kk_inj ew]; exact mw
    · intro m
      have : kk u ∈ kvs.map Prod.fst := by rw [e]; exact List.mem_map.mpr ⟨u, m, rfl⟩
      obtain ⟨p, mp, ep⟩ := List.mem_map.mp this
      exact ⟨p, mp, decide_eq_true ep⟩
  unfold putK
  rw [hm]
  by_cases m : u ∈ ks
  · rw [decide_eq_true m, if_pos rfl, if_pos m, ← e, List.map_map]
    refine List.map_congr_left fun p _ => ?_
    show (if p.1 = kk u then (p.1, v) else p).1 = p.1
    split <;> rfl
  · rw [decide_eq_false m, if_neg (by decide), if_neg m, List.map_append, e, List.map_append]; rfl
section
variable {P : Program} {w : World} {K : PySem.W.Frag} {mg : Str → Option Value} {base : Heap} {aN : Addr}
def spSet : Sp := fun vs H Q _ => ∃ l us ps lo hi, vs = [.ref l, lv lo, lv hi] ∧ H l = some (.lst us) ∧ PrsI H us ps ∧ 1 ≤ ps.length ∧ ps.length ≤ 8 ∧
  ∀ (D : Addr) (ys : List V) (js : List (Int × Int)) (H' : Hp), Same H H' → H D = none → H' D = some (.lst ys) → PrsI H' ys js → 1 ≤ js.length → js.length ≤ 8 → (∀ u, u ∈ js ↔ u ∈ ps.map (stl lo hi)) → js.Nodup → (js.Pairwise fun u v => lexB (prL v) (prL u) = false) → Q (.ref D) H'
theorem sc_lset : FnScope ["balls", "low", "high", "found", "place", "speed"] ["balls", "low", "high"] (defScope s_law_settled) := ⟨rfl, rfl, rfl, by decide +kernel, rfl, by decide +kernel, by decide +kernel⟩
theorem scal_lv (x : Int) (l : Option Int) : scal (.int x) (lv l) = true := by cases l <;> rfl
theorem ok_set (D : Df K mg "_law_settled" s_law_settled ["balls", "low", "high"] []) (T3 : Tx3 K mg aN) : Cal P w K mg base "_law_settled" 1 ["balls", "low", "high"] [] spSet := by
  refine D.cal (k := 0) sc_lset (fun vs H Q E h => by obtain ⟨_, _, _, _, _, rfl, _⟩ := h; rfl) (fun f cdv A outer s H vs Q E hr h => ?_)
  obtain ⟨l, us, ps, lo, hi, rfl, hl, hP, p1, p8, k⟩ := h
  have hu := hu_of hr
  refine ⟨_, (pss_cons (ps_set (i := 3) sc_lset.nd rfl (Or.inl rfl) pe_dnewT)
    (pss_cons (ps_for PassesOwn.never rfl (pi_list (pv 0)) (pg_tup rfl (pgs_cons (pg_name (i := 4) sc_lset.nd rfl (Or.inl rfl)) (pgs_cons (pg_name (i := 5) sc_lset.nd rfl (Or.inl rfl)) pgs_nil))) (pss_cons (ps_if (pw_or (pw_and (pt_cmpR op_eq (pv 4) (pv 1) (nomark _)) (pw_and1 (pt_cmpR op_lt (pv 5) pe_int (nomark _)))).pt (pw_or1 (pw_and (pt_cmpR op_eq (pv 4) (pv 2) (nomark _)) (pw_and1 (pt_cmpR op_gt (pv 5) pe_int (nomark _)))).pt)).pt (pss_one (ps_set (i := 5) sc_lset.nd rfl (Or.inl rfl) (pe_op op_sub pe_int (pv 5)))) pss_nil)
    (pss_one (ps_dput hu (pv 3) (pe_tup (pa_cons (pv 4) (pa_cons (pv 5) pa_nil))) pe_bl rfl))))
    (pss_one (ps_ret (pe_callB (call_sortD rfl) (by rfl) T3.nSorted PyProof.Rows.boot_sorted (pa_cons (pe_keysT (pv 3)) pa_nil)))))), ?_⟩
  refine fun d hd => ?_
  dsimp only [gName]
  have S0 : Same H (upd H d (.dT [])) := Same.upd hd
  refine st_mid (fun σ' G => ∃ kvs ks z4 z5, σ' = [some (.ref l), some (lv lo), some (lv hi), some (.ref d), z4, z5] ∧ Same H G ∧ G d = some (.dT kvs) ∧ kvs.map Prod.fst = List.map kk ks ∧ ks.Nodup ∧ (∀ u, u ∈ ks ↔ u ∈ ps.map (stl lo hi)) ∧ ks.length ≤ 8) ?_ ?_
  rotate_left
  · intro nx hnx
    refine ⟨_, rfl, l, rfl, ⟨_, SqL.of (S0 _ _ hl)⟩, ?_⟩
    refine for_list (xs := us) (fun i σ' G => ∃ kvs ks z4 z5, σ' = [some (.ref l), some (lv lo), some (lv hi), some (.ref d), z4, z5] ∧ Same H G ∧ G d = some (.dT kvs) ∧ kvs.map Prod.fst = List.map kk ks ∧ ks.Nodup ∧ (∀ u, u ∈ ks ↔ u ∈ (ps.take i).map (stl lo hi)) ∧ ks.length ≤ i)
      ⟨[], [], none, none, rfl, S0, upd_same, rfl, List.nodup_nil, fun u => by simp, Nat.le_refl _⟩ (fun i σ G _ ⟨_, _, _, _, _, q, _⟩ => SqL.of (q _ _ hl)) ?_ ?_
    · rintro i y σ G hy ⟨kvs, ks, z4, z5, rfl, S, hGd, ek, nd, mem, len⟩
      obtain ⟨u, a, eu, rfl, ha⟩ := hP.2 i y hy
      have hi8 : i < 8 := by have := (List.getElem?_eq_some_iff.mp eu).1; omega
      refine ⟨a, _, rfl, .of (S _ _ ha), rfl, _, _, rfl, _, _, rfl, rfl, ?_⟩
      dsimp only [gName]
      refine st_mid (fun σ' G' => G = G' ∧ σ' = [some (.ref l), some (lv lo), some (lv hi), some (.ref d), some (.int u.1), some (.int (stl lo hi u).2)]) ?_ ?_
      rotate_left
      · intro nx' hnx'
        have yes : (V.int u.1 = lv lo ∧ u.2 < 0) ∨ (V.int u.1 = lv hi ∧ 0 < u.2) → nx' [some (.ref l), some (lv lo), some (lv hi), some (.ref d), some (.int u.1), some (.int (0 - u.2))] G := fun h => hnx' _ _ ⟨rfl, by unfold stl; rw [if_pos h]⟩
        have no : ¬ ((V.int u.1 = lv lo ∧ u.2 < 0) ∨ (V.int u.1 = lv hi ∧ 0 < u.2)) → nx' [some (.ref l), some (lv lo), some (lv hi), some (.ref d), some (.int u.1), some (.int u.2)] G := fun h => hnx' _ _ ⟨rfl, by unfold stl; rw [if_neg h]⟩
        refine ⟨_, rfl, _, rfl, scal_lv _ _, _, rfl, ite2 (fun h1 => ⟨_, rfl, _, _, rfl, rfl, _, rfl, ite2 (fun h2 => iteT ?_) (fun h2 => ?_)⟩) (fun h1 => iteF ?_)⟩
        · exact ⟨_, rfl, _, _, rfl, rfl, yes (.inl ⟨of_decide_eq_true h1, of_decide_eq_true h2⟩)⟩
        · have n1 : ¬ (V.int u.1 = lv lo ∧ u.2 < 0) := fun z => h2 (decide_eq_true z.2)
          refine ⟨_, rfl, _, rfl, scal_lv _ _, _, rfl, ite2 (fun h3 => ⟨_, rfl, _, _, rfl, rfl, _, rfl, ite2 (fun h4 => ?_) (fun h4 => ?_)⟩) (fun h3 => iteF ?_)⟩
          · exact ⟨_, rfl, _, _, rfl, rfl, yes (.inr ⟨of_decide_eq_true h3, of_decide_eq_true h4⟩)⟩
          · exact no (fun z => z.elim n1 fun z => h4 (decide_eq_true z.2))
          · exact no (fun z => z.elim n1 fun z => h3 (decide_eq_true z.1))
        · have n1 : ¬ (V.int u.1 = lv lo ∧ u.2 < 0) := fun z => h1 (decide_eq_true z.1)
          refine ⟨_, rfl, _, rfl, scal_lv _ _, _, rfl, ite2 (fun h3 => ⟨_, rfl, _, _, rfl, rfl, _, rfl, ite2 (fun h4 => ?_) (fun h4 => ?_)⟩) (fun h3 => iteF ?_)⟩
          · exact ⟨_, rfl, _, _, rfl, rfl, yes (.inr ⟨of_decide_eq_true h3, of_decide_eq_true h4⟩)⟩
          · exact no (fun z => z.elim n1 fun z => h4 (decide_eq_true z.2))
          · exact no (fun z => z.elim n1 fun z => h3 (decide_eq_true z.1))
      rintro σ1 G' ⟨rfl, rfl⟩
      refine ⟨_, rfl, _, rfl, _, rfl, by show 2 ≤ sizeLine; decide, fun b hb => ?_⟩
      have hne : d ≠ b := fun z => by rw [← z, hGd] at hb; cases hb
      have eS : stl lo hi u = (u.1, (stl lo hi u).2) := by rw [← stl_fst lo hi u]
      refine ⟨d, _, rfl, DPut.t (k := kk (stl lo hi u)) (by rw [upd_ne hne]; exact hGd) (by rw [upd_same, eS]; rfl) ?_, ?_⟩
      · have e1 : kvs.length = ks.length := by have := congrArg List.length ek; simpa using this
        exact small1000 (by omega)
      · refine ⟨_, if stl lo hi u ∈ ks then ks else ks ++ [stl lo hi u], _, _, rfl, ?_, upd_same, keys_put ek, ?_, fun v => ?_, ?_⟩
        · intro c o e
          rw [upd_ne (fun z => by rw [z, hd] at e; cases e)]
          exact Same.upd hb _ _ (S c o e)
        · split
          · exact nd
          · rename_i hnm
            exact List.nodup_append.mpr ⟨nd, by simp, fun a ma b' mb => by simp at mb; subst mb; intro z; exact hnm (z ▸ ma)⟩
        · rw [tk_snoc eu, List.map_append, List.mem_append, ← mem v]
          split
          · rename_i hm
            constructor
            · exact .inl
            · rintro (z | z)
              · exact z
              · simp at z; rw [z]; exact hm
          · rw [List.mem_append]; rfl
        · split
          · omega
          · rw [List.length_append]; simp; omega
    · rintro σ G ⟨kvs, ks, z4, z5, rfl, S, hGd, ek, nd, mem, len⟩
      have e : ps.take us.length = ps := List.take_of_length_le (by rw [hP.1]; exact Nat.le_refl _)
      rw [e] at mem
      exact hnx _ _ ⟨kvs, ks, z4, z5, rfl, S, hGd, ek, nd, mem, by have := hP.1; omega⟩
  rintro σ1 G ⟨kvs, ks, z4, z5, rfl, S, hGd, ek, nd, mem, len⟩
  refine ⟨_, rfl, d, kvs, rfl, hGd, fun v hv => ?_⟩
  have hdv : d ≠ v := fun z => by rw [← z, hGd] at hv; cases hv
  have SV : Same G (upd G v (KV2 v d)) := Same.upd hv
  refine ⟨v, d, kvs, ks.map prL, rfl, upd_same, SV _ _ hGd, ?_, ?_, by rw [List.length_map]; omega, fun D xs ys hD ht hs => ?_⟩
  · rw [ek, List.map_map]; rfl
  · intro j mj
    obtain ⟨u, _, rfl⟩ := List.mem_map.mp mj
    simp [prL]
  · obtain ⟨js', ht', hp', hw'⟩ := hs.tups ht
    obtain ⟨js, rfl, hjp⟩ := unpr hp'
    have S2 : Same H (upd (upd G v (KV2 v d)) D (.lst ys)) := S.trans (SV.trans (Same.upd hD))
    refine k D ys js _ S2 ((S.trans SV).free hD) upd_same ⟨by have := ht'.len; simpa using this, fun i v' e => ?_⟩ ?_ (by rw [hjp.length_eq]; omega) (fun u => by rw [hjp.mem_iff]; exact mem u) (hjp.nodup_iff.mpr nd) (List.pairwise_map.mp hw')
    · obtain ⟨q, kq, rfl, ekq, hq⟩ := tupsH_at ht' e
      rw [List.getElem?_map] at ekq
      cases hu' : js[i]? with
      | none => rw [hu'] at ekq; cases ekq
      | some u => rw [hu'] at ekq; cases ekq; exact ⟨u, q, rfl, rfl, Same.upd hD _ _ hq⟩
    · rw [hjp.length_eq]
      cases ks with
      | nil =>
        obtain ⟨u, pu⟩ : ∃ u, u ∈ ps := by
          cases ps with
          | nil => simp at p1
          | cons a _ => exact ⟨a, .head _⟩
        have := (mem (stl lo hi u)).mpr (List.mem_map.mpr ⟨u, pu, rfl⟩)
        simp at this
      | cons _ _ => simp
end
end KK
end
section
set_option maxHeartbeats 8000000
set_option Elab.async false
set_option linter.all false
set_option maxRecDepth 100000
namespace L2
open PySem
section
variable {X : Cx}
theorem bx_ix {r : R2} {a b : Expr} {ta tb : TE} {pos : Pos} (hr : IxR X r) (ha : Bx (PE X a ta)) (hb : Bx (PE X b tb)) (hs : PlainIx b) : Bx (PE X (.Subscript a b pos) (tOp r ta tb)) := by
  obtain ⟨ha⟩ := ha; obtain ⟨hb⟩ := hb; exact ⟨pe_ix hr ha hb hs⟩
theorem bx_out {p : Prop} (h : Bx p) : p := by obtain ⟨h⟩ := h; exact h
end
end L2
namespace KK
open PySem L2 KM
structure WoZ (un be : Int) (lo hi : Option Int) (js : List (Int × Int)) (wt : Int) : Prop where
  un : 1 ≤ un ∧ un ≤ 12
  be : 1 ≤ be ∧ be ≤ 12
  l1 : 1 ≤ js.length
  l8 : js.length ≤ 8
  wt : 1 ≤ wt ∧ wt ≤ 1000
  bd : ∀ u ∈ js, Bd 72 u.1 ∧ Bd 70 u.2
  bl : ∀ l, lo = some l → Bd 72 l
  bh : ∀ l, hi = some l → Bd 72 l
  lh : ∀ l h, lo = some l → hi = some h → l < h
  il : ∀ u ∈ js, ∀ l, lo = some l → l ≤ u.1 ∧ (u.1 = l → 0 ≤ u.2)
  ih : ∀ u ∈ js, ∀ h, hi = some h → u.1 ≤ h ∧ (u.1 = h → u.2 ≤ 0)
  nd : js.Nodup
  so : js.Pairwise fun u v => lexB (prL v) (prL u) = false
theorem menu6a {d : Int} (h0 : 0 ≤ d) (h1 : d < 6) : ∃ v : Int, atI [V.int 1, .int 1, .int 2, .int 3, .int 4, .int 6] d = some (.int v) ∧ 1 ≤ v ∧ v ≤ 12 := by
  have : d = 0 ∨ d = 1 ∨ d = 2 ∨ d = 3 ∨ d = 4 ∨ d = 5 := by omega
  rcases this with rfl | rfl | rfl | rfl | rfl | rfl
  all_goals exact ⟨_, rfl, by decide, by decide⟩
theorem menu6b {d : Int} (h0 : 0 ≤ d) (h1 : d < 6) : ∃ v : Int, atI [V.int 1, .int 1, .int 2, .int 3, .int 5, .int 12] d = some (.int v) ∧ 1 ≤ v ∧ v ≤ 12 := by
  have : d = 0 ∨ d = 1 ∨ d = 2 ∨ d = 3 ∨ d = 4 ∨ d = 5 := by omega
  rcases this with rfl | rfl | rfl | rfl | rfl | rfl
  all_goals exact ⟨_, rfl, by decide, by decide⟩
theorem menu8a {d : Int} (h0 : 0 ≤ d) (h1 : d < 8) : ∃ v : Nat, atI [V.int 1, .int 2, .int 2, .int 3, .int 3, .int 4, .int 5, .int 8] d = some (.int (v : Int)) ∧ 1 ≤ v ∧ v ≤ 8 := by
  have : d = 0 ∨ d = 1 ∨ d = 2 ∨ d = 3 ∨ d = 4 ∨ d = 5 ∨ d = 6 ∨ d = 7 := by omega
  rcases this with rfl | rfl | rfl | rfl | rfl | rfl | rfl | rfl
  · exact ⟨1, rfl, by decide, by decide⟩
  · exact ⟨2, rfl, by decide, by decide⟩
  · exact ⟨2, rfl, by decide, by decide⟩
  · exact ⟨3, rfl, by decide, by decide⟩
  · exact ⟨3, rfl, by decide, by decide⟩
  · exact ⟨4, rfl, by decide, by decide⟩
  · exact ⟨5, rfl, by decide, by decide⟩
  · exact ⟨8, rfl, by decide, by decide⟩
theorem menu8b {d : Int} (h0 : 0 ≤ d) (h1 : d < 8) : ∃ v : Int, atI [V.int 1, .int 2, .int 3, .int 6, .int 12, .int 24, .int 30, .int 60] d = some (.int v) ∧ 1 ≤ v ∧ v ≤ 60 := by
  have : d = 0 ∨ d = 1 ∨ d = 2 ∨ d = 3 ∨ d = 4 ∨ d = 5 ∨ d = 6 ∨ d = 7 := by omega
  rcases this with rfl | rfl | rfl | rfl | rfl | rfl | rfl | rfl
  all_goals exact ⟨_, rfl, by decide, by decide⟩
theorem stl_ok {lo hi : Option Int} (hlh : ∀ l h, lo = some l → hi = some h → l < h) (u : Int × Int) : (∀ l, lo = some l → u.1 = l → 0 ≤ (stl lo hi u).2) ∧ (∀ h, hi = some h → u.1 = h → (stl lo hi u).2 ≤ 0) := by
  constructor
  · intro l el e
    subst el
    unfold stl
    split
    · rename_i h
      rcases h with h | h
      · show 0 ≤ 0 - u.2; omega
      · cases hi with
        | none => cases h.1
        | some q =>
          have e2 : u.1 = q := by have := h.1; injection this
          have := hlh _ _ rfl rfl; omega
    · rename_i h
      have : ¬ u.2 < 0 := fun z => h (.inl ⟨by rw [e]; rfl, z⟩)
      omega
  · intro q eq e
    subst eq
    unfold stl
    split
    · rename_i h
      rcases h with h | h
      · cases lo with
        | none => cases h.1
        | some l =>
          have e2 : u.1 = l := by have := h.1; injection this
          have := hlh _ _ rfl rfl; omega
      · show 0 - u.2 ≤ 0; omega
    · rename_i h
      have : ¬ 0 < u.2 := fun z => h (.inr ⟨by rw [e]; rfl, z⟩)
      omega
theorem stl_bd {lo hi : Option Int} {u : Int × Int} {n : Nat} (h : Bd n u.2) : Bd n (stl lo hi u).2 := by
  unfold stl
  split
  · show Bd n (0 - u.2); rw [Int.zero_sub]; exact h.neg
  · exact h
end KK
end
section
set_option maxHeartbeats 8000000
set_option Elab.async false
set_option linter.all false
set_option maxRecDepth 100000
namespace KK
open PySem L2 KM
section
variable {P : Program} {w : World} {K : PySem.W.Frag} {mg : Str → Option Value} {base : Heap} {aN : Addr}
def spWo : Sp := fun vs H Q _ => ∃ (p : Addr) (kd : Int), vs = [.ref p, .int kd] ∧ Pool H p ∧ ∀ (t D : Addr) (un be : Int) (lo hi : Option Int) (ys : List V) (js : List (Int × Int)) (wt : Int) (H' : Hp), Step p H H' → H' t = some (.tup [.int un, .int be, lv lo, lv hi, .ref D, .int wt]) → H D = none → D ≠ p → H' D = some (.lst ys) → PrsI H' ys js → WoZ un be lo hi js wt → (kd % 2 ≠ 0 → lo ≠ none) → (2 ≤ kd → hi ≠ none) → Q (.ref t) H'
theorem sc_lw : FnScope ["pool", "kind", "under", "below", "many", "great", "low", "far", "speeds", "balls", "high", "at", "spots"] ["pool", "kind"] (defScope s_law_world) := ⟨rfl, rfl, rfl, by decide +kernel, rfl, by decide +kernel, by decide +kernel⟩
theorem ok_wo (D : Df K mg "_law_world" s_law_world ["pool", "kind"] []) (T : TxB K mg) (cN : Cal P w K mg base "_law_next" 1 ["pool", "base"] [] spNext) (cWi : Cal P w K mg base "_law_wide" 2 ["pool", "base"] [] spWide) (cSd : Cal P w K mg base "_law_speeds_drawn" 3 ["pool", "many", "great"] [] spSd) (cTh : Cal P w K mg base "_law_through" 2 ["pool", "many"] [] spThr) (cSe : Cal P w K mg base "_law_settled" 1 ["balls", "low", "high"] [] spSet) :
    Cal P w K mg base "_law_world" 4 ["pool", "kind"] [] spWo := by
  refine D.calB (k := 3) sc_lw (fun vs H Q E h => by obtain ⟨_, _, rfl, _⟩ := h; rfl) (fun f cdv A outer s H vs Q E hr3 h => ?_)
  obtain ⟨p, kd, rfl, hP, k⟩ := h
  have hr1 : Room 1 _ := hr3.mono (by decide)
  have hr2 : Room 2 _ := hr3.mono (by decide)
  refine ⟨_, (bx_scons (Bx.mk (ps_par (i := 2) (j := 3) rfl sc_lw.nd rfl rfl (by decide) rfl rfl (pa_cons (bx_out (bx_ix ix_list (bx_lst (bx_cons (Bx.mk pe_int) (bx_cons (Bx.mk pe_int) (bx_cons (Bx.mk pe_int) (bx_cons (Bx.mk pe_int) (bx_cons (Bx.mk pe_int) (bx_cons (Bx.mk pe_int) bx_nil))))))) (Bx.mk (pe_c cN hr1 (pa_cons (pv 0) (pa_cons pe_int pa_nil)))) (fun _ _ => rfl))) (pa_cons (bx_out (bx_ix ix_list (bx_lst (bx_cons (Bx.mk pe_int) (bx_cons (Bx.mk pe_int) (bx_cons (Bx.mk pe_int) (bx_cons (Bx.mk pe_int) (bx_cons (Bx.mk pe_int) (bx_cons (Bx.mk pe_int) bx_nil))))))) (Bx.mk (pe_c cN hr1 (pa_cons (pv 0) (pa_cons pe_int pa_nil)))) (fun _ _ => rfl))) pa_nil)) (by rfl)))
    (bx_scons (Bx.mk (bx_out (bx_set (i := 4) sc_lw.nd rfl (Or.inl rfl) (bx_ix ix_list (bx_lst (bx_cons (Bx.mk pe_int) (bx_cons (Bx.mk pe_int) (bx_cons (Bx.mk pe_int) (bx_cons (Bx.mk pe_int) (bx_cons (Bx.mk pe_int) (bx_cons (Bx.mk pe_int) (bx_cons (Bx.mk pe_int) (bx_cons (Bx.mk pe_int) bx_nil))))))))) (Bx.mk (pe_c cN hr1 (pa_cons (pv 0) (pa_cons pe_int pa_nil)))) (fun _ _ => rfl)))))
    (bx_scons (Bx.mk (ps_set (i := 5) sc_lw.nd rfl (Or.inl rfl) (pe_cmpR op_eq (pe_c cN hr1 (pa_cons (pv 0) (pa_cons pe_int pa_nil))) pe_int (nomark _))))
    (bx_scons (Bx.mk (ps_set (i := 6) sc_lw.nd rfl (Or.inr rfl) (pe_op op_sub (pe_c cN hr1 (pa_cons (pv 0) (pa_cons pe_int pa_nil))) pe_int)))
    (bx_scons (Bx.mk (bx_out (bx_set (i := 7) sc_lw.nd rfl (Or.inr rfl) (bx_ix ix_list (bx_lst (bx_cons (Bx.mk pe_int) (bx_cons (Bx.mk pe_int) (bx_cons (Bx.mk pe_int) (bx_cons (Bx.mk pe_int) (bx_cons (Bx.mk pe_int) (bx_cons (Bx.mk pe_int) (bx_cons (Bx.mk pe_int) (bx_cons (Bx.mk pe_int) bx_nil))))))))) (Bx.mk (pe_c cN hr1 (pa_cons (pv 0) (pa_cons pe_int pa_nil)))) (fun _ _ => rfl)))))
    (bx_scons (Bx.mk (ps_if (pt_truth (pv 5) fun _ => rfl) (pss_one (ps_asg (pe_tup (pa_cons (pe_c cWi hr2 (pa_cons (pv 0) (pa_cons (pe_op op_pow pe_int pe_int) pa_nil))) (pa_cons (pe_op op_add pe_int (pe_c cWi hr2 (pa_cons (pv 0) (pa_cons (pe_op op_pow pe_int pe_int) pa_nil)))) pa_nil))) (pg_tup rfl (pgs_cons (pg_name (i := 6) sc_lw.nd rfl (Or.inr rfl)) (pgs_cons (pg_name (i := 7) sc_lw.nd rfl (Or.inr rfl)) pgs_nil))))) pss_nil))
    (bx_scons (Bx.mk (ps_set (i := 8) sc_lw.nd rfl (Or.inl rfl) (pe_c cSd hr3 (pa_cons (pv 0) (pa_cons (pv 4) (pa_cons (pv 5) pa_nil))))))
    (bx_scons (Bx.mk (ps_setC (i := 9) (NB := ["speed"]) (FR := ["low", "pool", "far"]) (js := [6, 0, 7]) rfl rfl (fun x c h => cl_three rfl rfl rfl x c h) (.cons rfl rfl rfl ⟨_, rfl⟩ (.cons rfl rfl rfl ⟨_, rfl⟩ (.cons rfl rfl rfl ⟨_, rfl⟩ .nil))) rfl (by decide +kernel) rfl (by decide +kernel) sc_lw.nd rfl rfl (by rfl) (pi_list (pv 8)) (by intro _ _ _; refine ⟨?_, ?_, ?_⟩; (exact (pg_name (i := 0) (show List.Nodup (["speed", "low", "pool", "far"] : List Str) by decide +kernel) rfl (Or.inl rfl))); (exact pts_nil); (exact (pe_tup (pa_cons (pe_op op_add (pv 1) (pe_c cWi hr2 (pa_cons (pv 2) (pa_cons (pe_op op_add (pv 3) pe_int) pa_nil)))) (pa_cons (pv 0) pa_nil)))))))
    (bx_scons (Bx.mk (ps_set (i := 10) sc_lw.nd rfl (Or.inl rfl) (pe_op op_add (pv 6) (pv 7))))
    (bx_scons (Bx.mk (ps_if (pt_cmpR op_eq (pe_c cN hr1 (pa_cons (pv 0) (pa_cons pe_int pa_nil))) pe_int (nomark _)) (pss_cons (ps_asg (pe_tup (pa_cons pe_int (pa_cons pe_int pa_nil))) (pg_tup rfl (pgs_cons (pg_name (i := 2) sc_lw.nd rfl (Or.inl rfl)) (pgs_cons (pg_name (i := 3) sc_lw.nd rfl (Or.inl rfl)) pgs_nil))))
    (pss_cons (ps_asg (pe_c cTh hr2 (pa_cons (pv 0) (pa_cons (pv 4) pa_nil))) (pg_tup rfl (pgs_cons (pg_name (i := 11) sc_lw.nd rfl (Or.inl rfl)) (pgs_cons (pg_name (i := 9) sc_lw.nd rfl (Or.inl rfl)) pgs_nil))))
    (pss_cons (ps_set (i := 12) sc_lw.nd rfl (Or.inl rfl) (pe_op op_catL (pe_comp (NB := ["place", "speed"]) rfl (by decide +kernel) (by decide +kernel) rfl (by decide +kernel) (pi_list (pv 9)) (by intro _ _ _; refine ⟨?_, ?_, ?_⟩; (exact (pg_tupK (K := K) (n := 2) rfl rfl (pgs_cons (pg_name (i := 0) (show List.Nodup (["place", "speed"] : List Str) by decide +kernel) rfl (Or.inl rfl)) (pgs_cons (pg_name (i := 1) (show List.Nodup (["place", "speed"] : List Str) by decide +kernel) rfl (Or.inl rfl)) pgs_nil)))); (exact pts_nil); (exact (pv 0)))) (pe_lst (pa_cons (pv 11) pa_nil))))
    (pss_cons (ps_asg (pe_tup (pa_cons (pe_op op_sub (pe_callB (call_minL rfl) (by rfl) T.nMin PyProof.Rows.boot_min (pa_cons (pv 12) pa_nil)) (pe_c cN hr1 (pa_cons (pv 0) (pa_cons pe_int pa_nil)))) (pa_cons (pe_op op_add (pe_callB (call_maxL rfl) (by rfl) T.nMax PyProof.Rows.boot_max (pa_cons (pv 12) pa_nil)) (pe_c cN hr1 (pa_cons (pv 0) (pa_cons pe_int pa_nil)))) pa_nil))) (pg_tup rfl (pgs_cons (pg_name (i := 6) sc_lw.nd rfl (Or.inr rfl)) (pgs_cons (pg_name (i := 10) sc_lw.nd rfl (Or.inl rfl)) pgs_nil))))
    (pss_cons (ps_if ((pw_and (pt_cmpR op_eq (pe_c cN hr1 (pa_cons (pv 0) (pa_cons pe_int pa_nil))) pe_int (nomark _)) (pw_and1 (pt_cmpR op_eq (pv 11) (pe_callB (call_maxL rfl) (by rfl) T.nMax PyProof.Rows.boot_max (pa_cons (pv 12) pa_nil)) (nomark _))))).pt (pss_one (ps_set (i := 10) sc_lw.nd rfl (Or.inl rfl) (pv 11))) pss_nil)
    (pss_one (ps_set (i := 10) sc_lw.nd rfl (Or.inl rfl) (pe_callB (call_max2 rfl) (by rfl) T.nMax PyProof.Rows.boot_max (pa_cons (pv 10) (pa_cons (pe_op op_add (pv 6) pe_int) pa_nil)))))))))) pss_nil))
    (bx_scons (Bx.mk (ps_if (pt_cmpR op_eq (pe_op op_mod (pv 1) pe_int) pe_int (nomark _)) (pss_one (ps_set (i := 6) sc_lw.nd rfl (Or.inr rfl) pe_non)) pss_nil))
    (bx_scons (Bx.mk (ps_if (pt_cmpR op_lt (pv 1) pe_int (nomark _)) (pss_one (ps_set (i := 10) sc_lw.nd rfl (Or.inl rfl) pe_non)) pss_nil))
    (Bx.mk (pss_one (ps_ret (pe_tup (pa_cons (pv 2) (pa_cons (pv 3) (pa_cons (pv 6) (pa_cons (pv 10) (pa_cons (pe_c cSe hr1 (pa_cons (pv 9) (pa_cons (pv 6) (pa_cons (pv 10) pa_nil)))) (pa_cons (pe_op op_add pe_int (pe_c cN hr1 (pa_cons (pv 0) (pa_cons (bx_out (bx_ix ix_list (bx_lst (bx_cons (Bx.mk pe_int) (bx_cons (Bx.mk pe_int) bx_nil))) (Bx.mk (pe_c cN hr1 (pa_cons (pv 0) (pa_cons pe_int pa_nil)))) (fun _ _ => rfl))) pa_nil)))) pa_nil)))))))))))))))))))))), ?_⟩
  -- under, below
  refine ⟨by show 6 ≤ sizeLine; decide, fun l1 hl1 => ⟨_, rfl, p, _, rfl, by decide, by decide, hP.new hl1, fun d1 G1 a1 b1 t1 => ?_⟩⟩
  obtain ⟨un, eun, un1, un2⟩ := menu6a a1 b1
  refine ⟨l1, _, _, _, rfl, rfl, .of (t1.keep l1 _ upd_same (hP.ne hl1)), eun, ?_⟩
  have T1 : Step p H G1 := t1.pre (Same.upd hl1)
  refine ⟨by show 6 ≤ sizeLine; decide, fun l2 hl2 => ⟨_, rfl, p, _, rfl, by decide, by decide, T1.pool.new hl2, fun d2 G2 a2 b2 t2 => ?_⟩⟩
  obtain ⟨be, ebe, be1, be2⟩ := menu6b a2 b2
  refine ⟨l2, _, _, _, rfl, rfl, .of (t2.keep l2 _ upd_same (T1.pool.ne hl2)), ebe, _, _, rfl, ?_⟩
  have T2 : Step p H G2 := T1.trans (t2.pre (Same.upd hl2))
  dsimp only
  -- many
  refine ⟨by show 8 ≤ sizeLine; decide, fun l3 hl3 => ⟨_, rfl, p, _, rfl, by decide, by decide, T2.pool.new hl3, fun d3 G3 a3 b3 t3 => ?_⟩⟩
  obtain ⟨n, en, n1, n8⟩ := menu8a a3 b3
  refine ⟨l3, _, _, _, rfl, rfl, .of (t3.keep l3 _ upd_same (T2.pool.ne hl3)), en, ?_⟩
  have T3 : Step p H G3 := T2.trans (t3.pre (Same.upd hl3))
  dsimp only [gName]
  -- great, low
  refine ⟨_, rfl, p, _, rfl, by decide, by decide, T3.pool, fun d4 G4 a4 b4 t4 => ⟨rfl, ?_⟩⟩
  have T4 := T3.trans t4
  dsimp only [gName]
  generalize decide (V.int d4 = V.int 0) = g
  refine ⟨_, rfl, p, _, rfl, by decide, by decide, T4.pool, fun d5 G5 a5 b5 t5 => ⟨_, _, rfl, rfl, ?_⟩⟩
  have T5 := T4.trans t5
  dsimp only [gName]
  -- far
  refine ⟨by show 8 ≤ sizeLine; decide, fun l6 hl6 => ⟨_, rfl, p, _, rfl, by decide, by decide, T5.pool.new hl6, fun d6 G6 a6 b6 t6 => ?_⟩⟩
  obtain ⟨fr0, efr, fr1, fr2⟩ := menu8b a6 b6
  refine ⟨l6, _, _, _, rfl, rfl, .of (t6.keep l6 _ upd_same (T5.pool.ne hl6)), efr, ?_⟩
  have T6 : Step p H G6 := T5.trans (t6.pre (Same.upd hl6))
  dsimp only [gName]
  clear t1 t2 t3 t4 t5 t6 hl1 hl2 hl3 hl6 eun ebe en efr
  -- if great
  refine st_mid (fun σ' G => ∃ lw fr : Int, σ' = [some (.ref p), some (.int kd), some (.int un), some (.int be), some (.int n), some (.bl g), some (.int lw), some (.int fr), none, none, none, none, none] ∧ Step p H G ∧ -20 ≤ lw ∧ lw ≤ 100000000000000000000 ∧ 1 ≤ fr ∧ fr ≤ 100000000000000000000) ?_ ?_
  rotate_left
  · intro nx hnx
    refine ⟨_, rfl, g, rfl, ?_⟩
    cases g with
    | false => exact iteF (hnx _ _ ⟨_, _, rfl, T6, by omega, by omega, by omega, by omega⟩)
    | true =>
      have e20 : ((10 : Int) ^ (20 : Int).toNat) = 100000000000000000000 := by decide
      refine iteT ⟨_, rfl, _, _, rfl, rfl, ⟨by decide, by decide, by decide⟩, p, _, rfl, by rw [e20]; decide, T6.pool, fun e1 F1 c1 c2 s1 => ?_⟩
      refine ⟨_, rfl, _, _, rfl, rfl, ⟨by decide, by decide, by decide⟩, p, _, rfl, by rw [e20]; decide, s1.pool, fun e2 F2 c3 c4 s2 => ⟨_, _, rfl, rfl, by show 2 ≤ sizeLine; decide, fun tt htt => ?_⟩⟩
      refine ⟨tt, _, rfl, .of upd_same, rfl, _, _, rfl, _, _, rfl, rfl, hnx _ _ ⟨_, _, rfl, ((T6.trans s1).trans s2).same (Same.upd htt), by omega, ?_, by omega, ?_⟩⟩
      · rw [e20] at c2; omega
      · rw [e20] at c4; omega
  rintro σ1 G7 ⟨lw, fr, rfl, T7, lw1, lw2, fr1', fr2'⟩
  clear T6 T5 T4 T3 T2 T1 fr1 fr2
  -- speeds
  refine ⟨_, rfl, _, rfl, _, rfl, p, n, g, rfl, n8, T7.pool, fun Ls ws G8 t8 hLs hGs hwl hwv => ?_⟩
  dsimp only [gName]
  have T8 := T7.trans t8
  have hLp : Ls ≠ p := fun z => by rw [z] at hLs; obtain ⟨_, _, _, e⟩ := T7.pool; rw [e] at hLs; cases hLs
  -- balls
  refine ⟨_, rfl, Ls, rfl, ⟨_, SqL.of hGs⟩, fun Dc hDc => ?_⟩
  have hDp : Dc ≠ p := T8.pool.ne hDc
  have hDL : Ls ≠ Dc := fun z => by rw [← z, hGs] at hDc; cases hDc
  refine compC_byZ (js := [6, 0, 7]) (J := Itl K Ls) (g := gName 0) (tt := fun _ H Q => Q true H) (te := _) (N := ws.length) (n := 1) (fun i G ys => Step p G8 G ∧ ∃ ps : List (Int × Int), PrsI G ys ps ∧ ps.length = i ∧ ∀ u ∈ ps, lw ≤ u.1 ∧ u.1 ≤ lw + fr ∧ Bd 68 u.2)
    ⟨⟨T8.pool.new hDc, fun b o e _ => Same.upd hDc _ _ e⟩, [], ⟨rfl, fun i v e => by simp at e⟩, rfl, fun v hv => by cases hv⟩ (fun i G ys hi z => ⟨_, (ws.map V.int)[i]'(by rw [List.length_map]; exact hi), SqL.of (z.1.keep _ _ hGs hLp), List.getElem?_eq_getElem _⟩) (fun G ys z => ⟨_, SqL.of (z.1.keep _ _ hGs hLp), by rw [List.length_map]; exact Nat.le_refl _⟩) ?_ ?_
  · rintro i x zs G_ G ys Nx hN hi hz1 ⟨rfl, fx⟩ ⟨tG, ps, hPs, hpl, hpv⟩ hGD
    obtain ⟨y1, rfl⟩ := len1 hz1
    have ex := fx _ (SqL.of (tG.keep _ _ hGs hLp))
    rw [List.getElem?_map, List.getElem?_eq_getElem hi] at ex
    cases ex
    refine ⟨rfl, iteT ?_⟩
    refine ⟨_, rfl, _, rfl, _, rfl, _, _, rfl, rfl, p, _, rfl, by omega, tG.pool, fun e1 F1 c1 c2 s1 => ⟨_, _, rfl, rfl, _, rfl, by show 2 ≤ sizeLine; decide, fun q hq => ?_⟩⟩
    have s1' := s1.same (Same.upd (o := .tup [.int (lw + e1), .int ws[i]]) hq)
    have h3 := s1'.keep _ _ hGD hDp
    refine ⟨h3, small1000 (by have := hPs.1; omega), hN _ _ ⟨(tG.trans s1').put hDc hDp _, ps ++ [(lw + e1, ws[i])], ?_, by simp [hpl], fun u mu => ?_⟩⟩
    · have tu : TupS G (upd (upd F1 q (.tup [.int (lw + e1), .int ws[i]])) Dc (.lst (ys ++ [.ref q]))) := fun b xs e => by
        rw [upd_ne (fun z => by rw [z, hGD] at e; cases e)]
        exact step_tups tG.pool s1' b xs e
      refine ⟨by rw [List.length_append, List.length_append, hPs.1]; rfl, fun m v e => ?_⟩
      rw [List.getElem?_append] at e
      split at e
      · rename_i hm
        obtain ⟨u, a, e1', e2', e3'⟩ := (hPs.tups tu).2 m v e
        exact ⟨u, a, by rw [List.getElem?_append, if_pos (by rw [← hPs.1]; exact hm)]; exact e1', e2', e3'⟩
      · rename_i hm
        have hm0 : m - ys.length = 0 := by
          rcases Nat.eq_zero_or_pos (m - ys.length) with h | h
          · exact h
          · rw [List.getElem?_eq_none (by simp; omega)] at e; cases e
        rw [hm0] at e; cases e
        refine ⟨(lw + e1, ws[i]), q, ?_, rfl, ?_⟩
        · rw [List.getElem?_append, if_neg (by rw [← hPs.1]; omega), ← hPs.1, hm0]; rfl
        · rw [upd_ne (fun z => by rw [← z] at h3; rw [upd_same] at h3; cases h3), upd_same]
    · rcases List.mem_append.mp mu with z | z
      · exact hpv u z
      · have : u = (lw + e1, ws[i]) := by simpa using z
        subst this
        exact ⟨by show lw ≤ lw + e1; omega, by show lw + e1 ≤ lw + fr; omega, hwv _ (List.getElem_mem hi)⟩
  rintro G9 us ⟨t9, ps, hPs, hpl, hpv⟩ hG9
  dsimp only [gName]
  have T9 := T8.trans t9
  have hDH : H Dc = none := T8.free hDc
  -- high
  refine ⟨_, rfl, _, rfl, _, _, rfl, rfl, ?_⟩
  dsimp only [gName]
  -- through
  refine st_mid (fun σ' G => ∃ (un be : Int) (lw hg : Int) (Db : Addr) (us : List V) (ps : List (Int × Int)) (z7 z8 z11 z12 : Option V), σ' = [some (.ref p), some (.int kd), some (.int un), some (.int be), some (.int n), some (.bl g), some (.int lw), z7, z8, some (.ref Db), some (.int hg), z11, z12] ∧ Step p H G ∧ (1 ≤ un ∧ un ≤ 12) ∧ (1 ≤ be ∧ be ≤ 12) ∧ -100 ≤ lw ∧ lw < hg ∧ hg ≤ 300000000000000000000 ∧ H Db = none ∧ Db ≠ p ∧ G Db = some (.lst us) ∧ PrsI G us ps ∧ ps.length = n ∧ ∀ u ∈ ps, lw ≤ u.1 ∧ u.1 ≤ hg ∧ Bd 68 u.2) ?_ ?_
  rotate_left
  · intro nx hnx
    refine ⟨_, rfl, p, _, rfl, by decide, by decide, T9.pool, fun d10 G10 a10 b10 t10 => ⟨rfl, _, rfl, ite2 (fun _ => ?_) (fun _ => hnx _ _ ⟨un, be, lw, lw + fr, Dc, us, ps, _, _, _, _, rfl, T9.trans t10, ⟨un1, un2⟩, ⟨be1, be2⟩, by omega, by omega, by omega, hDH, hDp, t10.keep _ _ hG9 hDp, hPs.tups (step_tups T9.pool t10), by omega, hpv⟩)⟩⟩
    have T10 := T9.trans t10
    refine ⟨by show 2 ≤ sizeLine; decide, fun tt htt => ⟨tt, _, rfl, .of upd_same, rfl, _, _, rfl, _, _, rfl, rfl, ?_⟩⟩
    dsimp only [gName]
    have T11 := T10.same (Same.upd (o := .tup [.int 1, .int 1]) htt)
    generalize upd G10 tt (.tup [.int 1, .int 1]) = G11 at T11
    refine ⟨_, rfl, _, rfl, p, n, rfl, n1, n8, T11.pool, fun t lb us2 at' ps2 G12 t12 hG12 hlb hGlb hPs2 hpl2 at1 at2 hpv2 => ?_⟩
    refine ⟨t, _, rfl, .of hG12, rfl, _, _, rfl, _, _, rfl, rfl, ?_⟩
    dsimp only [gName]
    have T12 := T11.trans t12
    have hlbp : lb ≠ p := fun z => by rw [z] at hlb; obtain ⟨_, _, _, e⟩ := T11.pool; rw [e] at hlb; cases hlb
    -- spots
    refine ⟨_, rfl, lb, rfl, ⟨_, SqL.of hGlb⟩, fun D3 hD3 => ?_⟩
    refine comp_each (J := Itl K lb) (g := gTup K 2 (gCons (gName 0) (gCons (gName 1) gNil))) (te := tVar 0) (n := 2) (xs := us2) (fun i v G => ∃ u, ps2[i]? = some u ∧ v = .int u.1) (fun i v G G' e h => h) hD3 (runs_list hGlb) (small1000 (by have := hPs2.1; omega)) ?_ ?_
    · intro i y zs G5 Q' hy hz S5 hQ
      obtain ⟨u, a, eu, rfl, ha⟩ := hPs2.2 i y hy
      obtain ⟨w1, w2, rfl⟩ := len2 hz
      refine ⟨a, _, rfl, .of (S5 _ _ ha), rfl, _, _, rfl, _, _, rfl, rfl, ?_⟩
      exact ⟨_, rfl, hQ _ _ (Same.refl _) ⟨u, eu, rfl⟩⟩
    intro ys3 G13 S13 hG13 hyl3 hR3
    have ey : ys3 = (ps2.map Prod.fst).map V.int := by
      rw [List.map_map]
      exact eq_map (f := V.int ∘ Prod.fst) (by have := hPs2.1; omega) fun i v e => by
        obtain ⟨u, e1, e2⟩ := hR3 i v e; exact ⟨u, e1, e2⟩
    refine ⟨_, rfl, by show 1 ≤ sizeLine; decide, fun l4 hl4 => ?_⟩
    have S14 : Same G13 (upd G13 l4 (.lst [.int at'])) := Same.upd hl4
    have hl4' : upd G13 l4 (.lst [.int at']) l4 = some (.lst [.int at']) := upd_same
    generalize upd G13 l4 (.lst [.int at']) = G14 at S14 hl4'
    refine ⟨D3, l4, _, _, rfl, rfl, SqL.of (S14 _ _ hG13), SqL.of hl4', szl (by rw [ey]; simp; omega), fun Sp hSp => ?_⟩
    have S15 : Same G14 (upd G14 Sp (.lst (ys3 ++ [.int at']))) := Same.upd hSp
    have hS15 : upd G14 Sp (.lst (ys3 ++ [.int at'])) Sp = some (.lst ((ps2.map Prod.fst ++ [at']).map V.int)) := by rw [upd_same, ey]; simp
    have hSpn : Sp ≠ p := (T12.same (S13.trans S14)).pool.ne hSp
    generalize upd G14 Sp (.lst (ys3 ++ [.int at'])) = G15 at S15 hS15
    dsimp only [gName]
    have S1215 := S13.trans (S14.trans S15)
    have T15 := T12.same S1215
    -- low, high
    have hns : 0 < (ps2.map Prod.fst ++ [at']).length := by simp
    refine ⟨_, rfl, Sp, _, rfl, SqL.of hS15, hns, fun M mM leM => ?_⟩
    refine ⟨_, rfl, p, _, rfl, by decide, by decide, T15.pool, fun e1 F1 c1 c2 s1 => ⟨_, _, rfl, rfl, ?_⟩⟩
    have T16 := T15.trans s1
    have hSp1 := s1.keep _ _ hS15 hSpn
    refine ⟨_, rfl, Sp, _, rfl, SqL.of hSp1, hns, fun Mx mMx leMx => ?_⟩
    refine ⟨_, rfl, p, _, rfl, by decide, by decide, T16.pool, fun e2 F2 c3 c4 s2 => ⟨_, _, rfl, rfl, by show 2 ≤ sizeLine; decide, fun tt2 htt2 => ⟨tt2, _, rfl, .of upd_same, rfl, _, _, rfl, _, _, rfl, rfl, ?_⟩⟩⟩
    dsimp only [gName]
    have ss := s1.trans (s2.same (Same.upd (o := .tup [.int (M - e1), .int (Mx + e2)]) htt2))
    generalize upd F2 tt2 (.tup [.int (M - e1), .int (Mx + e2)]) = G17 at ss
    have T17 := T15.trans ss
    have hSp17 := ss.keep _ _ hS15 hSpn
    have tu17 : TupS G12 G17 := fun b xs e => step_tups T15.pool ss b xs (S1215 _ _ e)
    have hG17 := ss.keep _ _ (S1215 _ _ hGlb) hlbp
    have hin : ∀ u ∈ ps2, M ≤ u.1 ∧ u.1 ≤ Mx := fun u m => ⟨leM _ (List.mem_append_left _ (List.mem_map.mpr ⟨u, m, rfl⟩)), leMx _ (List.mem_append_left _ (List.mem_map.mpr ⟨u, m, rfl⟩))⟩
    have hM : -40 ≤ M ∧ M ≤ 40 := by
      rcases List.mem_append.mp mM with m | m
      · obtain ⟨u, mu, rfl⟩ := List.mem_map.mp m; have := hpv2 u mu; omega
      · have : M = at' := by simpa using m
        omega
    have hMx : -40 ≤ Mx ∧ Mx ≤ 40 := by
      rcases List.mem_append.mp mMx with m | m
      · obtain ⟨u, mu, rfl⟩ := List.mem_map.mp m; have := hpv2 u mu; omega
      · have : Mx = at' := by simpa using m
        omega
    have hMM : M ≤ Mx := leM _ mMx
    refine st_mid (fun σ' G => ∃ hg : Int, σ' = [some (.ref p), some (.int kd), some (.int 1), some (.int 1), some (.int n), some (.bl g), some (.int (M - e1)), some (.int fr), some (.ref Ls), some (.ref lb), some (.int hg), some (.int at'), some (.ref Sp)] ∧ Step p G17 G ∧ Mx ≤ hg ∧ hg ≤ 50) ?_ ?_
    rotate_left
    · intro nx' hnx'
      refine ⟨_, rfl, p, _, rfl, by decide, by decide, T17.pool, fun e3 F3 c5 c6 s3 => ⟨rfl, _, rfl, ite2 (fun _ => ?_) (fun _ => iteF (hnx' _ _ ⟨_, rfl, s3, by omega, by omega⟩))⟩⟩
      refine ⟨_, rfl, _, rfl, Sp, _, rfl, SqL.of (s3.keep _ _ hSp17 hSpn), hns, fun Mx2 mMx2 leMx2 => ⟨rfl, _, rfl, ite2 (fun h => ?_) (fun _ => hnx' _ _ ⟨_, rfl, s3, by omega, by omega⟩)⟩⟩
      have e : at' = Mx2 := by have := of_decide_eq_true h; injection this
      have h1 := leMx2 _ mMx
      have h2 := leMx _ mMx2
      exact ⟨_, rfl, hnx' _ _ ⟨_, rfl, s3, by omega, by omega⟩⟩
    rintro σ2 G18 ⟨hg, rfl, s18, hg1, hg2⟩
    refine ⟨_, rfl, _, rfl, _, _, rfl, rfl, _, _, rfl, hnx _ _ ⟨1, 1, M - e1, _, lb, us2, ps2, _, _, _, _, rfl, T17.trans s18, ⟨by decide, by decide⟩, ⟨by decide, by decide⟩, by omega, ?_, ?_, T11.free hlb, hlbp, s18.keep _ _ hG17 hlbp, hPs2.tups (fun b xs e => step_tups T17.pool s18 b xs (tu17 _ _ e)), hpl2, fun u m => ?_⟩⟩
    · split <;> omega
    · split <;> omega
    · have := hin u m
      have h3 := hpv2 u m
      refine ⟨by omega, by split <;> omega, Bd.mono (m := 10) (show u.2.natAbs < 2 ^ 10 by omega) (by decide)⟩
  rintro σ1 G10 ⟨un, be, lw, hg, Db, us, ps, z7, z8, z11, z12, rfl, T10, hun, hbe, lw1, lwh, hg2, hDb, hDbp, hGb, hPs, hpl, hpv⟩
  refine st_mid (fun σ' G => G10 = G ∧ ∃ lo : Option Int, (lo = none ∨ lo = some lw) ∧ (kd % 2 ≠ 0 → lo ≠ none) ∧ σ' = [some (.ref p), some (.int kd), some (.int un), some (.int be), some (.int n), some (.bl g), some (lv lo), z7, z8, some (.ref Db), some (.int hg), z11, z12]) ?_ ?_
  rotate_left
  · intro nx hnx
    exact ⟨_, rfl, _, _, rfl, rfl, by show (0 : Int) < 2; decide, rfl, _, rfl, ite2 (fun h => hnx _ _ ⟨rfl, none, .inl rfl, fun z => absurd (by have := of_decide_eq_true h; injection this) z, rfl⟩) (fun _ => hnx _ _ ⟨rfl, some lw, .inr rfl, fun _ z => (by cases z), rfl⟩)⟩
  rintro σ1 G ⟨rfl, lo, hlo, klo, rfl⟩
  refine st_mid (fun σ' G => G10 = G ∧ ∃ hi : Option Int, (hi = none ∨ hi = some hg) ∧ (2 ≤ kd → hi ≠ none) ∧ σ' = [some (.ref p), some (.int kd), some (.int un), some (.int be), some (.int n), some (.bl g), some (lv lo), z7, z8, some (.ref Db), some (lv hi), z11, z12]) ?_ ?_
  rotate_left
  · intro nx hnx
    exact ⟨_, rfl, _, _, rfl, rfl, _, rfl, ite2 (fun h => hnx _ _ ⟨rfl, none, .inl rfl, fun z => absurd (of_decide_eq_true h : kd < 2) (by omega), rfl⟩) (fun _ => hnx _ _ ⟨rfl, some hg, .inr rfl, fun _ z => (by cases z), rfl⟩)⟩
  rintro σ1 G ⟨rfl, hi, hhi, khi, rfl⟩
  have elo : ∀ l, lo = some l → l = lw := fun l e => by rcases hlo with h | h <;> rw [h] at e <;> cases e; rfl
  have ehi : ∀ l, hi = some l → l = hg := fun l e => by rcases hhi with h | h <;> rw [h] at e <;> cases e; rfl
  have hlh : ∀ l h, lo = some l → hi = some h → l < h := fun l h e1 e2 => by rw [elo l e1, ehi h e2]; exact lwh
  refine ⟨_, rfl, _, rfl, _, rfl, _, rfl, _, rfl, _, rfl, _, rfl, Db, us, ps, lo, hi, rfl, hGb, hPs, by omega, by omega, fun Dn ys js G11 S11 hDn hGn hPj j1 j8 mem nd so => ?_⟩
  have hDnp : Dn ≠ p := T10.pool.ne hDn
  have T11 := T10.same S11
  refine ⟨_, rfl, by show 2 ≤ sizeLine; decide, fun l5 hl5 => ⟨_, rfl, p, _, rfl, by decide, by decide, T11.pool.new hl5, fun d12 G12 a12 b12 t12 => ?_⟩⟩
  obtain ⟨mx, emx, m0, m1⟩ : ∃ mx : Int, atI [V.int 1, .int 1000] d12 = some (.int mx) ∧ 1 ≤ mx ∧ mx ≤ 1000 := by
    have : d12 = 0 ∨ d12 = 1 := by omega
    rcases this with rfl | rfl
    · exact ⟨1, rfl, by decide, by decide⟩
    · exact ⟨1000, rfl, by decide, by decide⟩
  refine ⟨l5, _, _, _, rfl, rfl, .of (t12.keep l5 _ upd_same (T11.pool.ne hl5)), emx, ?_⟩
  have t12' : Step p G11 G12 := t12.pre (Same.upd hl5)
  refine ⟨p, mx, rfl, by omega, by omega, t12.pool, fun wt G13 a13 b13 t13 => ⟨_, _, rfl, rfl, by show 6 ≤ sizeLine; decide, fun t ht => ?_⟩⟩
  have ss := (t12'.trans t13).same (Same.upd (o := .tup [.int un, .int be, lv lo, lv hi, .ref Dn, .int (1 + wt)]) ht)
  have fs : ∀ u ∈ js, ∃ u0 ∈ ps, u = stl lo hi u0 := fun u m => by
    obtain ⟨u0, m0, e⟩ := List.mem_map.mp ((mem u).mp m); exact ⟨u0, m0, e.symm⟩
  have b72 : ∀ i : Int, -100 ≤ i → i ≤ 300000000000000000000 → Bd 72 i := fun i h1 h2 => show i.natAbs < 2 ^ 72 by omega
  refine k t Dn un be lo hi ys js (1 + wt) _ (T11.trans ss) upd_same (T10.free hDn) hDnp (ss.keep _ _ hGn hDnp) (hPj.tups (step_tups T11.pool ss)) ⟨hun, hbe, j1, j8, ⟨by omega, by omega⟩, fun u m => ?_, fun l e => ?_, fun l e => ?_, hlh, fun u m l e => ?_, fun u m l e => ?_, nd, so⟩ klo khi
  · obtain ⟨u0, m0', rfl⟩ := fs u m
    have := hpv u0 m0'
    exact ⟨by rw [stl_fst]; exact b72 _ (by omega) (by omega), (stl_bd this.2.2).mono (by decide)⟩
  · rw [elo l e]; exact b72 _ (by omega) (by omega)
  · rw [ehi l e]; exact b72 _ (by omega) (by omega)
  · obtain ⟨u0, m0', rfl⟩ := fs u m
    have := hpv u0 m0'
    refine ⟨by rw [stl_fst, elo l e]; omega, fun z => (stl_ok hlh u0).1 l e (by rw [stl_fst] at z; exact z)⟩
  · obtain ⟨u0, m0', rfl⟩ := fs u m
    have := hpv u0 m0'
    refine ⟨by rw [stl_fst, ehi l e]; omega, fun z => (stl_ok hlh u0).2 l e (by rw [stl_fst] at z; exact z)⟩
end
end KK
end
section
set_option maxHeartbeats 8000000
set_option Elab.async false
set_option linter.all false
set_option maxRecDepth 100000
namespace KK
open PySem L2 KM
theorem WallAt.tupsW {H H' : Hp} {v : V} {l : Wl} (h : WallAt H v l) (e : TupS H H') : WallAt H' v l := by
  cases l with
  | none => exact h
  | some z => obtain ⟨x, y⟩ := z; obtain ⟨a, p, q, e1, e2, e3, e4⟩ := h; exact ⟨a, p, q, e1, e _ _ e2, e _ _ e3, e _ _ e4⟩
def wlO (un : Int) (l : Option Int) : Wl := l.map fun x => (Rat.divInt x un, 0)
def blO (un be wt : Int) (u : Int × Int) : Bl := ⟨Rat.divInt u.1 un, Rat.divInt u.2 be, wt⟩
structure WoAt (H : Hp) (t D : Addr) (un be : Int) (lo hi : Option Int) (js : List (Int × Int)) (wt : Int) : Prop where
  tup : H t = some (.tup [.int un, .int be, lv lo, lv hi, .ref D, .int wt])
  lst : ∃ ys, H D = some (.lst ys) ∧ PrsI H ys js
section
variable {P : Program} {w : World} {K : PySem.W.Frag} {mg : Str → Option Value} {base : Heap} {aN : Addr}
def spRow : Sp := fun vs H Q _ => ∃ t D un be lo hi js wt, vs = [.ref t] ∧ WoAt H t D un be lo hi js wt ∧ WoZ un be lo hi js wt ∧ ∀ r us H', Same H H' → H' r = some (.tup us) → RowI H' us (js.map (blO un be wt)) → Q (.ref r) H'
theorem sc_lr : FnScope ["world", "under", "below", "low", "high", "balls", "weight"] ["world"] (defScope s_law_row) := ⟨rfl, rfl, rfl, by decide +kernel, rfl, by decide +kernel, by decide +kernel⟩
theorem ok_row (D : Df K mg "_law_row" s_law_row ["world"] []) (T : TxB K mg) (cLo : Cal P w K mg base "_law_lowest" 1 ["top", "bottom"] [] spLow1) : Cal P w K mg base "_law_row" 2 ["world"] [] spRow := by
  refine D.cal (k := 1) sc_lr (fun vs H Q E h => by obtain ⟨_, _, _, _, _, _, _, _, rfl, _⟩ := h; rfl) (fun f cdv A outer s H vs Q E hr h => ?_)
  obtain ⟨t, Dn, un, be, lo, hi, js, wt, rfl, wo, z, k⟩ := h
  obtain ⟨ys, hys, hPj⟩ := wo.lst
  refine ⟨_, (pss_cons (ps_asg (pv 0) (pg_tup rfl (pgs_cons (pg_name (i := 1) sc_lr.nd rfl (Or.inr rfl)) (pgs_cons (pg_name (i := 2) sc_lr.nd rfl (Or.inr rfl)) (pgs_cons (pg_name (i := 3) sc_lr.nd rfl (Or.inl rfl)) (pgs_cons (pg_name (i := 4) sc_lr.nd rfl (Or.inl rfl)) (pgs_cons (pg_name (i := 5) sc_lr.nd rfl (Or.inl rfl)) (pgs_cons (pg_name (i := 6) sc_lr.nd rfl (Or.inr rfl)) pgs_nil))))))))
    (pss_one (ps_ret (pe_callTy call_tuple_of (by rfl) T.nTuple PyProof.Rows.boot_tuple (pa_cons (pe_compC (NB := ["place", "speed"]) (FR := ["under", "below", "weight"]) (js := [1, 2, 6]) rfl rfl (fun x c h => cl_three rfl rfl rfl x c h) (.cons rfl rfl rfl ⟨_, rfl⟩ (.cons rfl rfl rfl ⟨_, rfl⟩ (.cons rfl rfl rfl ⟨_, rfl⟩ .nil))) rfl (by decide +kernel) rfl (by decide +kernel) (pi_list (pv 5)) (by intro _ _ _; refine ⟨?_, ?_, ?_⟩; (exact (pg_tupK (K := K) (n := 2) rfl rfl (pgs_cons (pg_name (i := 0) (show List.Nodup (["place", "speed", "under", "below", "weight"] : List Str) by decide +kernel) rfl (Or.inl rfl)) (pgs_cons (pg_name (i := 1) (show List.Nodup (["place", "speed", "under", "below", "weight"] : List Str) by decide +kernel) rfl (Or.inl rfl)) pgs_nil)))); (exact pts_nil); (exact (pe_tup (pa_cons (pe_c cLo hr (pa_cons (pv 0) (pa_cons (pv 2) pa_nil))) (pa_cons (pe_c cLo hr (pa_cons (pv 1) (pa_cons (pv 3) pa_nil))) (pa_cons (pv 4) pa_nil))))))) pa_nil))))), ?_⟩
  refine ⟨_, rfl, t, _, rfl, .of wo.tup, rfl, _, _, rfl, _, _, rfl, _, _, rfl, _, _, rfl, _, _, rfl, _, _, rfl, rfl, ?_⟩
  dsimp only [gName]
  refine ⟨_, rfl, Dn, rfl, ⟨_, SqL.of hys⟩, fun Dc hDc => ?_⟩
  have l8 := z.l8
  have hyl := hPj.1
  refine compC_each (js := [1, 2, 6]) (J := Itl K Dn) (g := gTup K 2 (gCons (gName 0) (gCons (gName 1) gNil))) (te := _) (n := 2) (xs := ys) (fun i v G => ∃ b, (js.map (blO un be wt))[i]? = some b ∧ BlAt G v b) (fun i v G G' e ⟨b, q1, q2⟩ => ⟨b, q1, q2.keeps e⟩) hDc (runs_list hys) (small20 (by omega)) ?_ ?_
  · intro i y zs G Q' hy hz S hQ
    obtain ⟨u, a, eu, rfl, ha⟩ := hPj.2 i y hy
    obtain ⟨w1, w2, rfl⟩ := len2 hz
    have b12 : ∀ x : Int, 1 ≤ x ∧ x ≤ 12 → Bd 8900 x := fun x h => Bd.mono (m := 10) (show x.natAbs < 2 ^ 10 by omega) (by decide)
    refine ⟨a, _, rfl, .of (S _ _ ha), rfl, _, _, rfl, _, _, rfl, rfl, ⟨rfl, ?_⟩⟩
    refine ⟨_, rfl, _, rfl, u.1, un, rfl, by have := z.un; omega, b12 _ z.un, fun p1 G1 s1 h1 => ?_⟩
    refine ⟨_, rfl, _, rfl, u.2, be, rfl, by have := z.be; omega, b12 _ z.be, fun p2 G2 s2 h2 => ?_⟩
    refine ⟨_, rfl, by show 3 ≤ sizeLine; decide, fun q hq => hQ _ _ (s1.trans (s2.trans (Same.upd hq))) ⟨blO un be wt u, by rw [List.getElem?_map, eu]; rfl, q, p1, p2, rfl, upd_same, Same.upd hq _ _ (s2 _ _ h1), Same.upd hq _ _ h2⟩⟩
  intro us G S hG hul hR
  refine ⟨Dc, us, rfl, .inl ⟨.of hG, fun r hr' => ?_⟩⟩
  refine k r us _ (S.trans (Same.upd hr')) upd_same ⟨by rw [List.length_map]; omega, fun i v e => ?_⟩
  obtain ⟨b, q1, q2⟩ := hR i v e
  exact ⟨b, q1, q2.keeps (.of (Same.upd hr'))⟩
def spBd : Sp := fun vs H Q _ => ∃ t D un be lo hi js wt, vs = [.ref t] ∧ WoAt H t D un be lo hi js wt ∧ WoZ un be lo hi js wt ∧ ∀ a v1 v2 H', Same H H' → H' a = some (.tup [v1, v2]) → WallAt H' v1 (wlO un lo) → WallAt H' v2 (wlO un hi) → Q (.ref a) H'
theorem sc_lb : FnScope ["world", "found", "wall"] ["world"] (defScope s_law_bounds) := ⟨rfl, rfl, rfl, by decide +kernel, rfl, by decide +kernel, by decide +kernel⟩
theorem rat0 {H : Hp} {p : Addr} (h : H p = some (.tup [.int 0, .int 1])) : RatAt H p 0 := h
theorem ok_bd (D : Df K mg "_law_bounds" s_law_bounds ["world"] []) (T : TxB K mg) (cLo : Cal P w K mg base "_law_lowest" 1 ["top", "bottom"] [] spLow1) : Cal P w K mg base "_law_bounds" 2 ["world"] [] spBd := by
  refine D.cal (k := 1) sc_lb (fun vs H Q E h => by obtain ⟨_, _, _, _, _, _, _, _, rfl, _⟩ := h; rfl) (fun f cdv A outer s H vs Q E hr h => ?_)
  obtain ⟨t, Dn, un, be, lo, hi, js, wt, rfl, wo, z, k⟩ := h
  have ht := wo.tup
  refine ⟨_, (pss_cons (ps_set (i := 1) sc_lb.nd rfl (Or.inl rfl) (pe_lst pa_nil))
    (pss_cons (ps_for PassesOwn.never rfl (pi_tup (pe_slice sl_tup (pv 0) (po_some pe_int) (po_some pe_int))) (pg_name (i := 2) sc_lb.nd rfl (Or.inl rfl)) (pss_one (ps_if (pt_cmpR op_isN (pv 2) pe_non (nomark _)) (pss_one (ps_expr (pe_bm PySem.F.plainAttrs_list PySem.F.slot_list_append PySem.F.type_list_append mt_append (pv 1) (pa_cons pe_non pa_nil)))) (pss_one (ps_expr (pe_bm PySem.F.plainAttrs_list PySem.F.slot_list_append PySem.F.type_list_append mt_append (pv 1) (pa_cons (pe_tup (pa_cons (pe_c cLo hr (pa_cons (pv 2) (pa_cons (pe_ix ix_tup (pv 0) pe_int (fun _ _ => rfl)) pa_nil))) (pa_cons (pe_tup (pa_cons pe_int (pa_cons pe_int pa_nil))) pa_nil))) pa_nil)))))))
    (pss_one (ps_ret (pe_callTy call_tuple_of (by rfl) T.nTuple PyProof.Rows.boot_tuple (pa_cons (pv 1) pa_nil)))))), ?_⟩
  refine ⟨by show 0 ≤ sizeLine; decide, fun Fd hFd => ?_⟩
  dsimp only [gName]
  have S1 : Same H (upd H Fd (.lst [])) := Same.upd hFd
  have hF1 : upd H Fd (.lst []) Fd = some (.lst []) := upd_same
  generalize upd H Fd (.lst []) = H1 at S1 hF1
  refine st_mid (fun σ' G => ∃ (us : List V) (v1 v2 : V) (z2 : Option V), σ' = [some (.ref t), some (.ref Fd), z2] ∧ Same H G ∧ G Fd = some (.lst [v1, v2]) ∧ WallAt G v1 (wlO un lo) ∧ WallAt G v2 (wlO un hi)) ?_ ?_
  · rintro σ' G ⟨us, v1, v2, z2, rfl, S, hG, h1, h2⟩
    exact ⟨_, rfl, Fd, _, rfl, .inl ⟨.of hG, fun a ha => k a v1 v2 _ (S.trans (Same.upd ha)) upd_same (h1.same (Same.upd ha)) (h2.same (Same.upd ha))⟩⟩
  intro nx hnx
  refine ⟨_, rfl, _, rfl, _, rfl, t, _, rfl, .of (S1 _ _ ht), (fun ⟨z1, _⟩ => absurd (show HT.sIx 6 0 (some 2) = 0 from z1) (by decide)), fun sl hsl => ?_⟩
  have ecut : cutV [V.int un, .int be, lv lo, lv hi, .ref Dn, .int wt] (some 2) (some 4) = [lv lo, lv hi] := rfl
  rw [ecut]
  have S2 : Same H1 (upd H1 sl (.tup [lv lo, lv hi])) := Same.upd hsl
  have hsl2 : upd H1 sl (.tup [lv lo, lv hi]) sl = some (.tup [lv lo, lv hi]) := upd_same
  have hFs : Fd ≠ sl := fun z => by rw [← z, hF1] at hsl; cases hsl
  have hF2 := S2 _ _ hF1
  generalize upd H1 sl (.tup [lv lo, lv hi]) = H2 at S2 hsl2 hF2
  refine ⟨sl, rfl, ⟨_, SqT.of hsl2⟩, ?_⟩
  have S12 := S1.trans S2
  refine for_tup (xs := [lv lo, lv hi]) (fun i σ' G => ∃ (vs : List V) (z2 : Option V), σ' = [some (.ref t), some (.ref Fd), z2] ∧ (∀ b o, H2 b = some o → b ≠ Fd → G b = some o) ∧ G Fd = some (.lst vs) ∧ vs.length = i ∧ ∀ (m : Nat) (v : V), vs[m]? = some v → ∃ l, [lo, hi][m]? = some l ∧ WallAt G v (wlO un l))
    ⟨[], none, rfl, fun b o e _ => e, hF2, rfl, fun m v e => by simp at e⟩ (fun i σ G _ ⟨_, _, _, q, _⟩ => SqT.of (q _ _ hsl2 (Ne.symm hFs))) ?_ ?_
  · rintro i y σ G hy ⟨vs, z2, rfl, kp, hG, hvl, hv⟩
    dsimp only [gName]
    obtain ⟨l, el, rfl⟩ : ∃ l, [lo, hi][i]? = some l ∧ y = lv l := by
      match i, hy with
      | 0, hy => simp at hy; exact ⟨lo, rfl, hy.symm⟩
      | 1, hy => simp at hy; exact ⟨hi, rfl, hy.symm⟩
      | n + 2, hy => simp at hy
    have i2 : i < 2 := by have := (List.getElem?_eq_some_iff.mp el).1; simpa using this
    have step : ∀ (G' : Hp) (v : V), Same G G' → WallAt G' v (wlO un l) → ∃ (vs' : List V) (z2 : Option V), [some (V.ref t), some (.ref Fd), some (lv l)] = [some (.ref t), some (.ref Fd), z2] ∧ (∀ b o, H2 b = some o → b ≠ Fd → upd G' Fd (.lst (vs ++ [v])) b = some o) ∧ upd G' Fd (.lst (vs ++ [v])) Fd = some (.lst vs') ∧ vs'.length = i + 1 ∧ ∀ (m : Nat) (u : V), vs'[m]? = some u → ∃ l, [lo, hi][m]? = some l ∧ WallAt (upd G' Fd (.lst (vs ++ [v]))) u (wlO un l) := fun G' v sG hw => by
      have tu : TupS G' (upd G' Fd (.lst (vs ++ [v]))) := fun b xs e => by rw [upd_ne (fun z => by rw [z, sG _ _ hG] at e; cases e)]; exact e
      refine ⟨vs ++ [v], _, rfl, fun b o e n => by rw [upd_ne n]; exact sG _ _ (kp b o e n), upd_same, by simp [hvl], fun m u e => ?_⟩
      rw [List.getElem?_append] at e
      split at e
      · obtain ⟨l', e1, e2⟩ := hv m u e
        exact ⟨l', e1, (e2.same sG).tupsW tu⟩
      · rename_i hm
        have hm0 : m - vs.length = 0 := by
          rcases Nat.eq_zero_or_pos (m - vs.length) with h | h
          · exact h
          · rw [List.getElem?_eq_none (by simp; omega)] at e; cases e
        rw [hm0] at e; cases e
        have : m = i := by omega
        subst this
        exact ⟨l, el, hw.tupsW tu⟩
    cases l with
    | none =>
      refine ⟨_, rfl, rfl, _, rfl, iteT ?_⟩
      exact ⟨_, rfl, .inl ⟨rfl, _, SqL.of hG⟩, Fd, _, _, rfl, rfl, hG, small1000 (by omega), step G .non (Same.refl _) rfl⟩
    | some x =>
      refine ⟨_, rfl, rfl, _, rfl, iteF ?_⟩
      have htG : G t = some (.tup [.int un, .int be, lv lo, lv hi, .ref Dn, .int wt]) := kp _ _ (S12 _ _ ht) (fun z => by rw [z] at ht; rw [hFd] at ht; cases ht)
      refine ⟨_, rfl, .inl ⟨rfl, _, SqL.of hG⟩, _, rfl, _, rfl, t, _, _, _, rfl, rfl, .of htG, rfl, x, un, rfl, by have := z.un; omega, Bd.mono (m := 10) (show un.natAbs < 2 ^ 10 by have := z.un; omega) (by decide), fun p1 G1 s1 h1 => ?_⟩
      refine ⟨by show 2 ≤ sizeLine; decide, fun p2 hp2 => ⟨by show 2 ≤ sizeLine; decide, fun p3 hp3 => ?_⟩⟩
      have s2 := Same.upd (o := .tup [.int 0, .int 1]) hp2
      have s3 := Same.upd (o := .tup [.ref p1, .ref p2]) hp3
      have ss := s1.trans (s2.trans s3)
      refine ⟨Fd, _, _, rfl, rfl, ss _ _ hG, small1000 (by omega), step _ (.ref p3) ss ⟨p3, p1, p2, rfl, upd_same, s3 _ _ (s2 _ _ h1), rat0 (s3 _ _ upd_same)⟩⟩
  · rintro σ G ⟨vs, z2, rfl, kp, hG, hvl, hv⟩
    obtain ⟨v1, v2, rfl⟩ : ∃ a b, vs = [a, b] := by
      match vs, hvl with
      | [a, b], _ => exact ⟨a, b, rfl⟩
    obtain ⟨_, e1, w1⟩ := hv 0 v1 rfl
    obtain ⟨_, e2, w2⟩ := hv 1 v2 rfl
    cases e1; cases e2
    exact hnx _ _ ⟨[], v1, v2, z2, rfl, fun b o e => kp b o (S12 _ _ e) (fun z => by rw [z, hFd] at e; cases e), hG, w1, w2⟩
end
end KK
end
section
set_option maxHeartbeats 8000000
set_option Elab.async false
set_option linter.all false
set_option maxRecDepth 100000
namespace L2
open PySem
theorem pt_truthK {X : Cx} {K : PySem.W.Frag} {a : Expr} {ta : TE} (hK : X.K = K) (ha : PE X a ta) (he : ∀ whole, isTrue a X.env whole = (do let v ← whole; standAt a.pos; holding [v] (truthy v))) : PT X a (fun σ H Q => ta σ H fun x H' => ∃ k, TruV K x H' k ∧ Q k H') := by
  subst hK; exact pt_truth ha he
end L2
namespace KK
open PySem L2 KM
structure Xc (K : PySem.W.Frag) (mg : Str → Option Value) (C0 CE CB : Addr) where
  c0 : Addr
  c1 : Addr
  c2 : Addr
  c3 : Addr
  c4 : Addr
  c5 : Addr
  m0C : mg "ClackError" = some (.ref C0)
  m0 : mg "NoEnd" = some (.ref c0)
  m1 : mg "NoPlace" = some (.ref c1)
  m2 : mg "NoRow" = some (.ref c2)
  m3 : mg "TooMany" = some (.ref c3)
  m4 : mg "Together" = some (.ref c4)
  m5 : mg "Shut" = some (.ref c5)
  mE : mg "NotEven" = some (.ref CE)
  mB : mg "NoBall" = some (.ref CB)
  nVE : mg "ValueError" = none
structure Xk (K : PySem.W.Frag) (cs : List Addr) (C C0 CE CB : Addr) (b1 b2 : Bool) : Prop where
  ve : PySem.W.kitOne K (.ref C) (.type "ValueError") = some true
  ot : PySem.W.kitAny K (.ref C) (cs.map Value.ref) = some false
  ev : PySem.W.kitOne K (.ref C) (.ref CE) = some b1
  ba : PySem.W.kitOne K (.ref C) (.ref CB) = some b2
  ex : PySem.W.exmOne K (.ref C) (.ref C0) = some true
  z : ExcK K C
section
variable {P : Program} {w : World} {K : PySem.W.Frag} {mg : Str → Option Value} {base : Heap} {aN : Addr} {C C0 CE CB : Addr} {b1 b2 : Bool}
end
end KK
end
section
set_option maxHeartbeats 8000000
set_option Elab.async false
set_option linter.all false
set_option maxRecDepth 100000
namespace L2
open PySem
theorem cat_get {K : PySem.W.Frag} {H : Hp} {a b : Addr} {xs ys : List V} {Q : VK} (ha : H a = some (.tup xs)) (hb : H b = some (.tup ys)) (hl : xs.length + ys.length ≤ 1000) (k : ∀ q H', Same H H' → H' q = some (.tup (xs ++ ys)) → Q (.ref q) H') : rCatA K (.ref a) (.ref b) H Q :=
  ⟨a, b, xs, ys, rfl, rfl, .of ha, .of hb, szl hl, fun z => k b H (Same.refl _) (by rw [z]; exact hb), fun _ z => k a H (Same.refl _) (by rw [z, List.append_nil]; exact ha), fun _ _ p hp => k p _ (Same.upd hp) upd_same⟩
end L2
namespace KK
open PySem L2 KM
theorem Ln.tups {H H' : Hp} {r a : Addr} {bs : List Bl} {lo hi : Wl} (h : Ln H r a bs lo hi) (e : TupS H H') : Ln H' r a bs lo hi := by
  obtain ⟨us, h1, h2⟩ := h.row
  obtain ⟨v1, v2, g1, g2, g3⟩ := h.walls
  exact ⟨⟨us, e _ _ h1, h2.keeps e⟩, ⟨v1, v2, e _ _ g1, g2.tupsW e, g3.tupsW e⟩, h.l1, h.l8⟩
theorem sm_div {t b : Int} (hb : 0 < b) (h12 : b ≤ 12) (ht : Bd 72 t) : Sm (Rat.divInt t b) := by
  have hb' : b ≠ 0 := by omega
  have z : Sz 72 (Rat.divInt t b) := .divInt hb' ht (Bd.mono (m := 10) (show b.natAbs < 2 ^ 10 by omega) (by decide))
  refine ⟨z.1.mono (by decide), ?_⟩
  have := den_le (t := t) hb'
  show (((Rat.divInt t b).den : Nat) : Int).natAbs < 2 ^ 20
  omega
theorem sm_zero : Sm 0 := ⟨show (0 : Int).natAbs < 2 ^ 200 by decide, show ((1 : Nat) : Int).natAbs < 2 ^ 20 by decide⟩
theorem div_lt {a c b : Int} (hb : 0 < b) (h : a < c) : Rat.divInt a b < Rat.divInt c b := (divInt_lt hb).mpr h
theorem WoZ.lnz {un be : Int} {lo hi : Option Int} {js : List (Int × Int)} {wt : Int} (z : WoZ un be lo hi js wt) : LnZ (js.map (blO un be wt)) (wlO un lo) (wlO un hi) := by
  have hun := z.un
  have hbe := z.be
  refine ⟨fun t m => ?_, fun l h e1 e2 => ?_⟩
  · unfold ths at m
    rcases List.mem_append.mp m with m | m
    · obtain ⟨b, mb, rfl⟩ := List.mem_map.mp m
      obtain ⟨u, mu, rfl⟩ := List.mem_map.mp mb
      have := z.bd u mu
      exact ⟨sm_div (by omega) (by omega) this.1, sm_div (by omega) (by omega) (this.2.mono (by decide))⟩
    · rcases List.mem_append.mp m with m | m
      · cases lo with
        | none => simp [wlO, oneT] at m
        | some l => simp [wlO, oneT] at m; subst m; exact ⟨sm_div (by omega) (by omega) (z.bl l rfl), sm_zero⟩
      · cases hi with
        | none => simp [wlO, oneT] at m
        | some l => simp [wlO, oneT] at m; subst m; exact ⟨sm_div (by omega) (by omega) (z.bh l rfl), sm_zero⟩
  · cases lo with
    | none => cases e1
    | some a =>
      cases hi with
      | none => cases e2
      | some b => cases e1; cases e2; exact div_lt (by omega) (z.lh _ _ rfl rfl)
theorem still_wl (un : Int) (l : Option Int) : stillB (wlO un l) = true := by
  cases l with
  | none => rfl
  | some x => show stillB (some (_, 0)) = true; simp [stillB]
theorem plB_true {un be wt : Int} {lo hi : Option Int} {js : List (Int × Int)} {b0 : Bl} (h0 : (js.map (blO un be wt))[0]? = some b0) : plB (tb b0) ((js.map (blO un be wt)).map tb) (wlO un lo) (wlO un hi) = true := by
  unfold plB evB
  rw [still_wl, still_wl, Bool.and_true, Bool.and_true, List.all_eq_true]
  have hw : ∀ b ∈ js.map (blO un be wt), b.wt = wt := fun b m => by obtain ⟨u, _, rfl⟩ := List.mem_map.mp m; rfl
  intro b m
  obtain ⟨c, mc, rfl⟩ := List.mem_map.mp m
  exact decide_eq_true (by show c.wt = b0.wt; rw [hw c mc, hw b0 (List.mem_of_getElem? h0)])
theorem plB_ev {bs : List Bl} {b0 : Bl} {lo hi : Wl} {c : Bl} (m : c ∈ bs) (h : c.wt ≠ b0.wt) : plB (tb b0) (bs.map tb) lo hi = false := by
  unfold plB evB
  rw [show ((bs.map tb).all fun b => decide (b.wt = (tb b0).wt)) = false from ?_, Bool.false_and]
  rw [List.all_eq_false]
  exact ⟨tb c, List.mem_map.mpr ⟨c, m, rfl⟩, by show ¬ decide (c.wt = b0.wt) = true; rw [decide_eq_true_eq]; exact h⟩
section
variable {P : Program} {w : World} {K : PySem.W.Frag} {mg : Str → Option Value} {base : Heap} {aN : Addr} {C C0 CE CB : Addr} {b1 b2 : Bool}
end
end KK
end
section
set_option maxHeartbeats 8000000
set_option Elab.async false
set_option linter.all false
set_option maxRecDepth 100000
namespace KK
open PySem L2 KM
abbrev Ent : Type := Int × Addr × List Int
def addP (ps : List (Int × List Int)) (k w : Int) : List (Int × List Int) := if (ps.any fun p => decide (p.1 = k)) = true then ps.map (fun p => if p.1 = k then (p.1, p.2 ++ [w]) else p) else ps ++ [(k, [w])]
def phStep (l0 T : Int) (ps : List (Int × List Int)) (t : Int × Int) : List (Int × List Int) := if 0 < t.2 then addP ps t.2 (t.1 - l0) else if t.2 < 0 then addP ps (-t.2) (T - (t.1 - l0)) else ps
def phO (l0 T : Int) (trs : List (Int × Int)) : List (Int × List Int) := trs.foldl (phStep l0 T) []
def psOf (es : List Ent) : List (Int × List Int) := es.map fun e => (e.1, e.2.2)
def dkOf (es : List Ent) : List (Key × V) := es.map fun e => (Sum.inl e.1, V.ref e.2.1)
structure PhA (H G : Hp) (a : Addr) (es : List Ent) : Prop where
  d : G a = some (.dK (dkOf es))
  l : ∀ e ∈ es, G e.2.1 = some (.lst (e.2.2.map V.int))
  n : (es.map (·.2.1)).Nodup
  f : ∀ e ∈ es, H e.2.1 = none
  fa : H a = none
  k : (es.map (·.1)).Nodup
theorem PhA.same {H G G' : Hp} {a : Addr} {es : List Ent} (h : PhA H G a es) (e : Same G G') : PhA H G' a es := ⟨e _ _ h.d, fun x m => e _ _ (h.l x m), h.n, h.f, h.fa, h.k⟩
theorem val_es (k : Int) : ∀ es : List Ent, valV (dkOf es) (Sum.inl k) = (es.find? fun e => decide (e.1 = k)).map fun e => V.ref e.2.1
  | [] => rfl
  | e :: es => by
    show valV ((Sum.inl e.1, V.ref e.2.1) :: dkOf es) (Sum.inl k) = _
    rw [List.find?_cons]
    by_cases c : e.1 = k
    · rw [valV_pos (by rw [c]), decide_eq_true c]; rfl
    · rw [valV_neg (fun z => c (Sum.inl.inj z)), decide_eq_false c]; exact val_es k es
theorem any_es (k : Int) (es : List Ent) : (psOf es).any (fun p => decide (p.1 = k)) = (es.find? fun e => decide (e.1 = k)).isSome := by
  unfold psOf
  induction es with
  | nil => rfl
  | cons e es ih =>
    rw [List.map_cons, List.any_cons, List.find?_cons]
    by_cases c : e.1 = k
    · simp [c]
    · simp only [decide_eq_false c, Bool.false_or]; exact ih
def updE (es : List Ent) (k w : Int) : List Ent := es.map fun e => if e.1 = k then (e.1, e.2.1, e.2.2 ++ [w]) else e
theorem psOf_upd {es : List Ent} {k w : Int} {e : Ent} (h : (es.find? fun e => decide (e.1 = k)) = some e) : psOf (updE es k w) = addP (psOf es) k w := by
  unfold addP
  rw [any_es, h, if_pos (show (some e).isSome = true from rfl)]
  unfold psOf updE
  rw [List.map_map, List.map_map]
  refine List.map_congr_left fun x _ => ?_
  show _ = if x.1 = k then (x.1, x.2.2 ++ [w]) else (x.1, x.2.2)
  show ((if x.1 = k then (x.1, x.2.1, x.2.2 ++ [w]) else x).1, (if x.1 = k then (x.1, x.2.1, x.2.2 ++ [w]) else x).2.2) = _
  split <;> rfl
theorem psOf_new {es : List Ent} {k w : Int} {l : Addr} (h : (es.find? fun e => decide (e.1 = k)) = none) : psOf (es ++ [(k, l, [w])]) = addP (psOf es) k w := by
  unfold addP
  rw [any_es, h, if_neg (by decide)]
  unfold psOf
  rw [List.map_append]; rfl
theorem dk_new {es : List Ent} {k : Int} {l : Addr} (w : Int) (h : (es.find? fun e => decide (e.1 = k)) = none) : putK (dkOf es) (Sum.inl k) (V.ref l) = dkOf (es ++ [(k, l, [w])]) := by
  unfold putK
  rw [valV_any, val_es, h]
  rw [if_neg (by decide)]
  unfold dkOf
  rw [List.map_append]; rfl
theorem PhA.put {H G : Hp} {a : Addr} {es : List Ent} {k w : Int} {e : Ent} (h : PhA H G a es) (hf : (es.find? fun e => decide (e.1 = k)) = some e) : PhA H (upd G e.2.1 (.lst (e.2.2.map V.int ++ [.int w]))) a (updE es k w) := by
  have me : e ∈ es := List.mem_of_find?_eq_some hf
  have ke : e.1 = k := of_decide_eq_true (List.find?_some (p := fun e : Ent => decide (e.1 = k)) hf)
  have hle := h.l e me
  have na : a ≠ e.2.1 := fun z => by rw [← z, h.d] at hle; cases hle
  have e1 : (updE es k w).map (·.1) = es.map (·.1) := by unfold updE; rw [List.map_map]; refine List.map_congr_left fun x _ => ?_; show (if x.1 = k then _ else x).1 = x.1; split <;> rfl
  have e2 : (updE es k w).map (·.2.1) = es.map (·.2.1) := by unfold updE; rw [List.map_map]; refine List.map_congr_left fun x _ => ?_; show (if x.1 = k then _ else x).2.1 = x.2.1; split <;> rfl
  have e3 : dkOf (updE es k w) = dkOf es := by unfold dkOf updE; rw [List.map_map]; refine List.map_congr_left fun x _ => ?_; show (Sum.inl (if x.1 = k then _ else x).1, V.ref (if x.1 = k then _ else x).2.1) = _; split <;> rfl
  refine ⟨by rw [e3, upd_ne na]; exact h.d, fun x m => ?_, by rw [e2]; exact h.n, fun x m => ?_, h.fa, by rw [e1]; exact h.k⟩
  · obtain ⟨y, my, rfl⟩ := List.mem_map.mp m
    by_cases c : y.1 = k
    · have ey : y = e := by
        have hk := h.k
        by_cases q : y = e
        · exact q
        · exfalso
          have := (List.pairwise_map.mp hk)
          exact nodup_ne hk my me q (c.trans ke.symm)
      subst ey
      rw [if_pos c]
      show upd G y.2.1 _ y.2.1 = _
      rw [upd_same, List.map_append]; rfl
    · rw [if_neg c]
      have hn : y.2.1 ≠ e.2.1 := fun z => by
        have : y ≠ e := fun q => c (by rw [q]; exact ke)
        exact nodup_ne (f := fun e : Ent => e.2.1) h.n my me this z
      rw [upd_ne hn]; exact h.l y my
  · obtain ⟨y, my, rfl⟩ := List.mem_map.mp m
    have := h.f y my
    split
    · exact this
    · exact this
where
  nodup_ne {α β : Type} {f : α → β} : ∀ {l : List α} {x y : α}, (l.map f).Nodup → x ∈ l → y ∈ l → x ≠ y → f x ≠ f y
  | [], _, _, _, h, _, _ => by cases h
  | a :: l, x, y, hn, mx, my, ne => by
    rw [List.map_cons, List.nodup_cons] at hn
    rcases List.mem_cons.mp mx with ex | mx'
    · rcases List.mem_cons.mp my with ey | my'
      · exact absurd (ex.trans ey.symm) ne
      · exact fun e => hn.1 (by rw [← ex, e]; exact List.mem_map.mpr ⟨y, my', rfl⟩)
    · rcases List.mem_cons.mp my with ey | my'
      · exact fun e => hn.1 (by rw [← ey, ← e]; exact List.mem_map.mpr ⟨x, mx', rfl⟩)
      · exact nodup_ne hn.2 mx' my' ne
theorem PhA.new {H G : Hp} {a l : Addr} {es : List Ent} {k w : Int} (h : PhA H G a es) (hS : ∀ b o, H b = some o → G b = some o) (hl : G l = none) (hf : (es.find? fun e => decide (e.1 = k)) = none) :
    PhA H (upd (upd (upd G l (.lst [])) a (.dK (dkOf (es ++ [(k, l, [w])])))) l (.lst [.int w])) a (es ++ [(k, l, [w])]) := by
  have na : a ≠ l := fun z => by rw [← z, h.d] at hl; cases hl
  have Hl : H l = none := by
    cases q : H l with
    | none => rfl
    | some o => rw [hS _ _ q] at hl; cases hl
  have ne : ∀ e ∈ es, e.2.1 ≠ l := fun e m z => by have := h.l e m; rw [z, hl] at this; cases this
  have nea : ∀ e ∈ es, e.2.1 ≠ a := fun e m z => by have := h.l e m; rw [z, h.d] at this; cases this
  refine ⟨by rw [upd_ne na]; exact upd_same, fun x m => ?_, ?_, fun x m => ?_, h.fa, ?_⟩
  · rcases List.mem_append.mp m with m | m
    · rw [upd_ne (ne x m), upd_ne (nea x m), upd_ne (ne x m)]; exact h.l x m
    · cases List.mem_singleton.mp m; exact upd_same
  · rw [List.map_append]
    refine List.nodup_append.mpr ⟨h.n, by simp, fun b hb c hc => ?_⟩
    obtain ⟨e, m, rfl⟩ := List.mem_map.mp hb
    simp at hc; subst hc
    exact ne e m
  · rcases List.mem_append.mp m with m | m
    · exact h.f x m
    · cases List.mem_singleton.mp m; exact Hl
  · rw [List.map_append]
    refine List.nodup_append.mpr ⟨h.k, by simp, fun b hb c hc => ?_⟩
    obtain ⟨e, m, rfl⟩ := List.mem_map.mp hb
    simp at hc; subst hc
    intro z
    have := List.find?_eq_none.mp hf e m
    exact this (decide_eq_true z)
section
variable {P : Program} {w : World} {K : PySem.W.Frag} {mg : Str → Option Value} {base : Heap} {C CE : Addr} {aN : Addr}
def spPh (C : Addr) : Sp := fun vs H Q _ => ∃ c pb sb tk ws trs lo hi, vs = [.ref c] ∧ CoAt H C c pb sb tk ws trs (some lo) (some hi) ∧ Wb (some lo) ∧ Wb (some hi) ∧ trs.length ≤ 8 ∧
  ∀ a es H', Same H H' → PhA H H' a es → psOf es = phO lo.1 (2 * (hi.1 - lo.1)) trs → Q (.ref a) H'
theorem sc_pho : FnScope ["course", "trip", "phases", "start", "speed", "way"] ["course"] (defScope s_phases_of) := ⟨rfl, rfl, rfl, by decide +kernel, rfl, by decide +kernel, by decide +kernel⟩
theorem es_len (es : List Ent) : (dkOf es).length = es.length := List.length_map ..
theorem ph_app {H G : Hp} {a l0 : Addr} {es : List Ent} {k w : Int} {i : Nat} {R : VK} (h : PhA H G a es) (hS : Same H G) (hi : i ≤ 1000) (hl : es.length ≤ i) (hl8 : ∀ e ∈ es, e.2.2.length ≤ i) (hl0 : G l0 = none)
    (q : ∀ l xs G1 es', G1 l = some (.lst xs) → xs.length < sizeLine → PhA H (upd G1 l (.lst (xs ++ [.int w]))) a es' → Same H (upd G1 l (.lst (xs ++ [.int w]))) → psOf es' = addP (psOf es) k w → es'.length ≤ i + 1 → (∀ e ∈ es', e.2.2.length ≤ i + 1) → R (.ref l) G1) :
    rSetDef (.ref a) [.int k, .ref l0] (upd G l0 (.lst [])) R := by
  have na : a ≠ l0 := fun z => by have := h.d; rw [z, hl0] at this; cases this
  have S1 : Same G (upd G l0 (.lst [])) := Same.upd hl0
  have sz : (1000 : Nat) < sizeLine := by decide
  refine ⟨a, dkOf es, Sum.inl k, .ref l0, rfl, rfl, S1 _ _ h.d, by rw [es_len]; omega, fun v hv => ?_, fun hv => ?_⟩
  · rw [val_es] at hv
    cases hf : es.find? fun e => decide (e.1 = k) with
    | none => rw [hf] at hv; cases hv
    | some e =>
      rw [hf] at hv; cases hv
      have me : e ∈ es := List.mem_of_find?_eq_some hf
      have h1 := h.same S1
      have hle := h1.l e me
      have hll := hl8 e me
      refine q _ _ _ _ hle (by rw [List.length_map]; omega) (h1.put hf) (fun b o eb => ?_) (psOf_upd hf) (by unfold updE; rw [List.length_map]; omega) fun x m => ?_
      · have : b ≠ e.2.1 := fun z => by rw [z, h.f e me] at eb; cases eb
        rw [upd_ne this]; exact S1 _ _ (hS _ _ eb)
      · obtain ⟨y, my, rfl⟩ := List.mem_map.mp m
        have := hl8 y my
        split
        · show (y.2.2 ++ [w]).length ≤ _; simp; omega
        · omega
  · rw [val_es] at hv
    have hf : (es.find? fun e => decide (e.1 = k)) = none := by
      cases hf : es.find? fun e => decide (e.1 = k) with
      | none => rfl
      | some e => rw [hf] at hv; cases hv
    rw [dk_new w hf]
    have hl0' : upd (upd G l0 (.lst [])) a (.dK (dkOf (es ++ [(k, l0, [w])]))) l0 = some (.lst []) := by rw [upd_ne na.symm]; exact upd_same
    refine q _ _ _ _ hl0' (by show 0 < sizeLine; omega) (h.new hS hl0 hf) (fun b o eb => ?_) (psOf_new hf) (by simp; omega) fun x m => ?_
    · have n1 : b ≠ l0 := fun z => by rw [← z, hS _ _ eb] at hl0; cases hl0
      have n2 : b ≠ a := fun z => by rw [z, h.fa] at eb; cases eb
      show upd (upd (upd G l0 (.lst [])) a _) l0 _ b = some o
      rw [upd_ne n1, upd_ne n2, upd_ne n1]; exact hS _ _ eb
    · rcases List.mem_append.mp m with m | m
      · have := hl8 x m; omega
      · cases List.mem_singleton.mp m; simp
theorem ok_ph (D : Df K mg "phases_of" s_phases_of ["course"] []) (TC : TCo K C) (cTr : Cal P w K mg base "trip_of" 1 ["course"] [] (spTrip C)) : Cal P w K mg base "phases_of" 2 ["course"] [] (spPh C) := by
  refine D.cal (k := 1) sc_pho (fun vs H Q E h => by obtain ⟨_, _, _, _, _, _, _, _, rfl, _⟩ := h; rfl) (fun f cdv A outer s H vs Q E hr h => ?_)
  obtain ⟨c, pb, sb, tk, ws, trs, lo, hi, rfl, hco, wl, wh, l8, k⟩ := h
  obtain ⟨dx, fs, hc, F⟩ := id hco
  obtain ⟨vl, el, tl⟩ := F.low
  obtain ⟨al, rfl, hal⟩ : ∃ a, vl = V.ref a ∧ H a = some (.tup [.int lo.1, .int lo.2]) := tl
  obtain ⟨L, tv, et, hL, hT⟩ := F.tracks
  have htl := hT.1
  refine ⟨_, (pss_cons (ps_set (i := 1) sc_pho.nd rfl (Or.inl rfl) (pe_c cTr hr (pa_cons (pv 0) pa_nil)))
    (pss_cons (ps_set (i := 2) sc_pho.nd rfl (Or.inl rfl) pe_dnewK)
    (pss_cons (ps_for PassesOwn.never rfl (pi_list (pe_fld (pv 0) rfl)) (pg_tup rfl (pgs_cons (pg_name (i := 3) sc_pho.nd rfl (Or.inl rfl)) (pgs_cons (pg_name (i := 4) sc_pho.nd rfl (Or.inl rfl)) pgs_nil))) (pss_cons (ps_set (i := 5) sc_pho.nd rfl (Or.inl rfl) (pe_op op_sub (pv 3) (pe_ix ix_tup (pe_fld (pv 0) rfl) pe_int (fun _ _ => rfl))))
    (pss_one (ps_if (pt_cmpR op_gt (pv 4) pe_int (nomark _)) (pss_one (ps_expr (pe_bm PySem.F.plainAttrs_list PySem.F.slot_list_append PySem.F.type_list_append mt_append (pe_bm PySem.F.plainAttrs_dict PySem.F.slot_dict_setdefault PySem.F.type_dict_setdefault mt_setdef (pv 2) (pa_cons (pv 4) (pa_cons (pe_lst pa_nil) pa_nil))) (pa_cons (pv 5) pa_nil)))) (pss_one (ps_if (pt_cmpR op_lt (pv 4) pe_int (nomark _)) (pss_one (ps_expr (pe_bm PySem.F.plainAttrs_list PySem.F.slot_list_append PySem.F.type_list_append mt_append (pe_bm PySem.F.plainAttrs_dict PySem.F.slot_dict_setdefault PySem.F.type_dict_setdefault mt_setdef (pv 2) (pa_cons (pe_un un_neg (pv 4)) (pa_cons (pe_lst pa_nil) pa_nil))) (pa_cons (pe_op op_sub (pv 1) (pv 5)) pa_nil)))) pss_nil))))))
    (pss_one (ps_ret (pv 2)))))), ?_⟩
  refine ⟨_, rfl, c, pb, sb, tk, ws, trs, some lo, some hi, rfl, hco, wl, wh, ?_⟩
  dsimp only [gName]
  refine fun a ha => ?_
  dsimp only [gName]
  have S0 : Same H (upd H a (.dK [])) := Same.upd ha
  have P0 : PhA H (upd H a (.dK [])) a [] := ⟨upd_same, (fun e m => by cases m), List.nodup_nil, (fun e m => by cases m), ha, List.nodup_nil⟩
  generalize upd H a (.dK []) = H0 at S0 P0
  refine st_mid (fun σ' G => ∃ es y3 y4 y5, σ' = [some (.ref c), some (lv (tripP (some lo) (some hi))), some (.ref a), y3, y4, y5] ∧ Same H G ∧ PhA H G a es ∧ psOf es = phO lo.1 (2 * (hi.1 - lo.1)) trs) ?_ ?_
  · rintro σ' G ⟨es, y3, y4, y5, rfl, S, ph, e⟩
    exact ⟨_, rfl, k a es G S ph e⟩
  intro nx hnx
  refine ⟨_, rfl, c, C, dx, fs, _, rfl, S0 _ _ hc, TC.cls, TC.tracks, et, L, rfl, ⟨_, SqL.of (S0 _ _ hL)⟩, ?_⟩
  refine for_list (xs := tv) (fun i σ' G => ∃ es y3 y4 y5, σ' = [some (.ref c), some (lv (tripP (some lo) (some hi))), some (.ref a), y3, y4, y5] ∧ Same H G ∧ PhA H G a es ∧ psOf es = phO lo.1 (2 * (hi.1 - lo.1)) (trs.take i) ∧ es.length ≤ i ∧ ∀ e ∈ es, e.2.2.length ≤ i)
    ⟨[], none, none, none, rfl, S0, P0, rfl, Nat.le_refl _, fun e m => by cases m⟩ (fun i σ' G _ ⟨_, _, _, _, _, S, _⟩ => SqL.of (S _ _ hL)) ?_ ?_
  · rintro i y σ' G hy ⟨es, y3, y4, y5, rfl, S, ph, e, hl1, hl2⟩
    obtain ⟨tr, etr, p, rfl, hp⟩ := hT.2 i y hy
    have hi8 : i < trs.length := (List.getElem?_eq_some_iff.mp etr).1
    have etk : phO lo.1 (2 * (hi.1 - lo.1)) (trs.take (i + 1)) = phStep lo.1 (2 * (hi.1 - lo.1)) (psOf es) tr := by
      rw [List.take_add_one, etr, e]; unfold phO; rw [List.foldl_append]; rfl
    refine ⟨p, _, rfl, .of (S _ _ hp), rfl, _, _, rfl, _, _, rfl, rfl, ?_⟩
    dsimp only [gName]
    have hal' := S _ _ hal
    refine ⟨_, rfl, _, rfl, c, C, dx, fs, _, rfl, S _ _ hc, TC.cls, TC.low, el, al, _, _, _, rfl, rfl, .of hal', at0 .., _, _, rfl, rfl, ?_⟩
    dsimp only [gName]
    unfold phStep at etk
    refine ⟨_, rfl, _, _, rfl, rfl, _, rfl, ite2 (fun z => ?_) (fun z => ?_)⟩
    · have h1 : 0 < tr.2 := of_decide_eq_true z
      rw [if_pos h1] at etk
      refine ⟨_, rfl, .inr (.inr (.inl ⟨rfl, .inl ⟨_, ph.d⟩⟩)), _, rfl, by show 0 ≤ sizeLine; decide, fun l0 hl0 => ?_⟩
      dsimp only [tNil]
      exact ph_app (w := tr.1 - lo.1) ph S (by omega) hl1 hl2 hl0 fun l xs G1 es' hl hx ph' S' e' q1 q2 => ⟨.inl ⟨rfl, _, SqL.of hl⟩, _, rfl, l, _, _, rfl, rfl, hl, hx, ⟨es', _, _, _, rfl, S', ph', by rw [etk]; exact e', q1, q2⟩⟩
    · have h1 : ¬ 0 < tr.2 := fun q => z (decide_eq_true q)
      rw [if_neg h1] at etk
      refine ⟨_, rfl, _, _, rfl, rfl, _, rfl, ite2 (fun z => ?_) (fun z => ?_)⟩
      · have h2 : tr.2 < 0 := of_decide_eq_true z
        rw [if_pos h2] at etk
        refine ⟨_, rfl, .inr (.inr (.inl ⟨rfl, .inl ⟨_, ph.d⟩⟩)), _, rfl, _, rfl, by show 0 ≤ sizeLine; decide, fun l0 hl0 => ?_⟩
        dsimp only [tNil]
        exact ph_app (k := -tr.2) (w := 2 * (hi.1 - lo.1) - (tr.1 - lo.1)) ph S (by omega) hl1 hl2 hl0 fun l xs G1 es' hl hx ph' S' e' q1 q2 => ⟨.inl ⟨rfl, _, SqL.of hl⟩, _, rfl, _, rfl, _, _, rfl, rfl, l, _, _, rfl, rfl, hl, hx, ⟨es', _, _, _, rfl, S', ph', by rw [etk]; exact e', q1, q2⟩⟩
      · have h2 : ¬ tr.2 < 0 := fun q => z (decide_eq_true q)
        rw [if_neg h2] at etk
        exact ⟨es, _, _, _, rfl, S, ph, etk.symm ▸ rfl, by omega, fun x m => by have := hl2 x m; omega⟩
  · rintro σ' G ⟨es, y3, y4, y5, rfl, S, ph, e, _, _⟩
    exact hnx _ _ ⟨es, y3, y4, y5, rfl, S, ph, by rw [e, htl, List.take_length]⟩
end
end KK
end
section
set_option maxHeartbeats 8000000
set_option Elab.async false
set_option linter.all false
set_option maxRecDepth 100000
namespace L2
open PySem PySem.Spec PyProof.Rows
section
variable {J : It} {D : Addr} {N n : Nat} {js : List Nat} {σ : St} {g : TG} {tt : TT} {te : TE} {H : Hp}
theorem compC_byZ {Z : Hp → Prop} (Pv : Nat → Hp → List V → Prop) (h0 : Pv 0 (upd H D (.lst [])) []) (hgo : ∀ i H ys, i < N → Pv i H ys → J.go i H) (hst : ∀ H ys, Pv N H ys → J.stop N H)
    (hs : ∀ i x zs H2 H3 ys (Nx : Hp → List V → Prop), (∀ H ys, Pv (i + 1) H ys → Nx H ys) → i < N → zs.length = n → J.yld i H2 x H3 → Pv i H2 ys → H2 D = some (.lst ys) → g x (zs ++ caps σ js) H3 fun σ4 H4 => σ4.drop n = caps σ js ∧ tt σ4 H4 fun b H5 =>
      if b = true then te σ4 H5 (fun v H6 => H6 D = some (.lst ys) ∧ ys.length < sizeLine ∧ Nx (upd H6 D (.lst (ys ++ [v]))) (ys ++ [v])) else H5 D = some (.lst ys) ∧ Nx H5 ys)
    (hd : ∀ H ys, Pv N H ys → H D = some (.lst ys) → Z H) :
    ∃ W : Nat → Nat → Hp → List V → Prop, (∃ m, W 0 m (upd H D (.lst [])) []) ∧ ∀ i m H2 ys, W i m H2 ys → H2 D = some (.lst ys) → (J.stop i H2 ∧ Z H2) ∨
      (J.go i H2 ∧ ∀ zs x H3, zs.length = n → J.yld i H2 x H3 → g x (zs ++ caps σ js) H3 fun σ4 H4 => σ4.drop n = caps σ js ∧ tt σ4 H4 fun b H5 => if b = true then te σ4 H5 (fun v H6 => H6 D = some (.lst ys) ∧ ys.length < sizeLine ∧ ∃ m', m' < m ∧ W (i + 1) m' (upd H6 D (.lst (ys ++ [v]))) (ys ++ [v]))
        else H5 D = some (.lst ys) ∧ ∃ m', m' < m ∧ W (i + 1) m' H5 ys) :=
  compC_by (Q := fun _ H => Z H) Pv h0 hgo hst hs hd
end
end L2
namespace KK
open PySem L2 KM
def srtI (l : List Int) : List Int := l.mergeSort fun a b => decide (a ≤ b)
theorem srtI_perm (l : List Int) : (srtI l).Perm l := List.mergeSort_perm ..
theorem srtI_so (l : List Int) : (srtI l).Pairwise (· ≤ ·) := by
  have h := List.pairwise_mergeSort (le := fun a b : Int => decide (a ≤ b)) (fun a b c h1 h2 => by simp only [decide_eq_true_eq] at *; omega) (fun a b => by simp only [Bool.or_eq_true, decide_eq_true_eq]; omega) l
  exact h.imp fun z => of_decide_eq_true z
theorem soI_uniq {a b : List Int} (p : a.Perm b) (ha : a.Pairwise (· ≤ ·)) (hb : b.Pairwise (· ≤ ·)) : a = b :=
  List.Perm.eq_of_pairwise (le := (· ≤ ·)) (fun a b _ _ h1 h2 => by omega) ha hb p
theorem srtI_eq {a l : List Int} (p : a.Perm l) (ha : a.Pairwise (· ≤ ·)) : a = srtI l := soI_uniq (p.trans (srtI_perm l).symm) ha (srtI_so l)
theorem srtI_iff {a b : List Int} : srtI a = srtI b ↔ a.Perm b := ⟨fun h => (srtI_perm a).symm.trans (by rw [h]; exact srtI_perm b), fun h => srtI_eq ((srtI_perm a).trans h) (srtI_so a)⟩
def comesB (ps : List Int) (T m : Int) : Bool := decide (srtI (ps.map (· * m)) = srtI (ps.map fun p => (p * m + T) % (T * m)))
theorem comes_iff {ps : List Int} {T m : Int} : comesB ps T m = true ↔ (ps.map (· * m)).Perm (ps.map fun p => (p * m + T) % (T * m)) := by
  unfold comesB; rw [decide_eq_true_eq]; exact srtI_iff
theorem comes_one {ps : List Int} {T : Int} (h : ∀ p ∈ ps, 0 ≤ p ∧ p < T) : comesB ps T 1 = true := by
  rw [comes_iff]
  refine .of_eq (List.map_congr_left fun p m => ?_)
  obtain ⟨h0, h1⟩ := h p m
  rw [Int.mul_one, Int.mul_one, show p + T = p + T * 1 by omega, Int.add_mul_emod_self_left, Int.emod_eq_of_lt h0 h1]
theorem eqv_ints : ∀ (a b : List Int), PyData.eqvAll (a.map .int) (b.map .int) = decide (a = b)
  | [], [] => rfl
  | [], _ :: _ => by simp [PyData.eqvAll]
  | _ :: _, [] => by simp [PyData.eqvAll]
  | x :: a, y :: b => by
    show (PyData.eqv (.int x) (.int y) && PyData.eqvAll (a.map .int) (b.map .int)) = _
    rw [eqv_ints a b]
    by_cases c : x = y
    · subst c
      have e : PyData.eqv (.int x) (.int x) = true := SeqAt.eqv_refl _ rfl
      rw [e, Bool.true_and]
      by_cases d : a = b
      · rw [decide_eq_true d, decide_eq_true (by rw [d])]
      · rw [decide_eq_false d, decide_eq_false (fun z => d (by injection z))]
    · have e : PyData.eqv (.int x) (.int y) = false := by simp [PyData.eqv]; exact c
      rw [e, Bool.false_and, decide_eq_false (fun z => c (by injection z))]
theorem shpL (ds : List Int) : SeqAt.shaped (.list (ds.map .int)) = true := by
  have k : PyData.canLayAll0 (ds.map .int) = true ∧ PyData.depthAll (ds.map .int) = 0 := by
    induction ds with
    | nil => exact ⟨rfl, rfl⟩
    | cons d ds ih =>
      refine ⟨?_, ?_⟩
      · show (PyData.canLay0 (.int d) && _) = true
        rw [ih.1]; rfl
      · show max (PyData.depth (.int d)) _ = 0
        rw [ih.2]; rfl
  have c1 : PyData.canLay0 (.list (ds.map .int)) = true := k.1
  have d1 : PyData.depth (.list (ds.map .int)) = 1 := by show _ + 1 = 1; rw [k.2]
  show (_ && decide (_ ≤ 64)) = true
  rw [c1, d1]; rfl
theorem rds_ints {H : Hp} : ∀ ds : List Int, RdDs H (ds.map V.int) (ds.map .int)
  | [] => .nil
  | d :: ds => .cons (.int d) (rds_ints ds)
theorem ints_of {vs : List V} {ns : List Int} (hl : vs.length = ns.length) (h : ∀ (i : Nat) (v : V), vs[i]? = some v → ∃ n, ns[i]? = some n ∧ v = .int n) : vs = ns.map V.int := by
  refine List.ext_getElem? fun i => ?_
  rw [List.getElem?_map]
  cases e : vs[i]? with
  | none =>
    have : ns.length ≤ i := by rw [← hl]; exact List.getElem?_eq_none_iff.mp e
    rw [List.getElem?_eq_none this]; rfl
  | some v => obtain ⟨n, e1, rfl⟩ := h i v e; rw [e1]; rfl
section
variable {P : Program} {w : World} {K : PySem.W.Frag} {mg : Str → Option Value} {base : Heap} {C CE : Addr} {aN : Addr}
structure Phs (ps : List Int) (T : Int) : Prop where
  T0 : 0 < T
  bT : Bd 3000 T
  l8 : ps.length ≤ 8
  ps : ∀ p ∈ ps, 0 ≤ p ∧ p < T
theorem Phs.bp {ps : List Int} {T : Int} (h : Phs ps T) {p : Int} (m : p ∈ ps) : Bd 3000 p := h.bT.of_le (by have := h.ps p m; omega)
def spCg : Sp := fun vs H Q _ => ∃ L ps T m, vs = [.ref L, .int T, .int m] ∧ H L = some (.lst (ps.map V.int)) ∧ Phs ps T ∧ 0 < m ∧ Bd 3000 m ∧ ∀ H', Same H H' → Q (.bl (comesB ps T m)) H'
theorem sc_cga : FnScope ["phases", "trip", "many", "wide"] ["phases", "trip", "many"] (defScope s_comes_again) := ⟨rfl, rfl, rfl, by decide +kernel, rfl, by decide +kernel, by decide +kernel⟩
theorem ok_cg (D : Df K mg "comes_again" s_comes_again ["phases", "trip", "many"] []) (T3 : Tx3 K mg aN) : Cal P w K mg base "comes_again" 1 ["phases", "trip", "many"] [] spCg := by
  refine D.cal (k := 0) sc_cga (fun vs H Q E h => by obtain ⟨_, _, _, _, rfl, _⟩ := h; rfl) (fun f cdv A outer s H vs Q E hr h => ?_)
  obtain ⟨L, ps, T, m, rfl, hL, z, m0, bm, k⟩ := h
  have hu := hr.units
  have bM : ∀ {n : Nat} {i : Int}, Bd n i → n ≤ 1000000 → Bd 1000000 i := fun h l => h.mono l
  have l8 := z.l8
  refine ⟨_, (pss_cons (ps_setC (i := 3) (NB := ["phase"]) (FR := ["many"]) (js := [2]) rfl rfl (fun x c h => cl_one rfl x c h) (.cons rfl rfl rfl ⟨_, rfl⟩ .nil) rfl (by decide +kernel) rfl (by decide +kernel) sc_cga.nd rfl rfl (by rfl) (pi_list (pv 0)) (by intro _ _ _; refine ⟨?_, ?_, ?_⟩; (exact (pg_name (i := 0) (show List.Nodup (["phase", "many"] : List Str) by decide +kernel) rfl (Or.inl rfl))); (exact pts_nil); (exact (pe_op op_mulB (pv 0) (pv 1)))))
    (pss_one (ps_ret (pe_cmpR (op_eqD hu) (pe_callB call_sortI (by rfl) T3.nSorted PyProof.Rows.boot_sorted (pa_cons (pv 3) pa_nil)) (pe_callB call_sortI (by rfl) T3.nSorted PyProof.Rows.boot_sorted (pa_cons (pe_compC (NB := ["phase"]) (FR := ["trip", "many"]) (js := [1, 2]) rfl rfl (fun x c h => cl_two rfl rfl x c h) (.cons rfl rfl rfl ⟨_, rfl⟩ (.cons rfl rfl rfl ⟨_, rfl⟩ .nil)) rfl (by decide +kernel) rfl (by decide +kernel) (pi_list (pv 3)) (by intro _ _ _; refine ⟨?_, ?_, ?_⟩; (exact (pg_name (i := 0) (show List.Nodup (["phase", "trip", "many"] : List Str) by decide +kernel) rfl (Or.inl rfl))); (exact pts_nil); (exact (pe_op op_mod (pe_op op_add (pv 0) (pv 1)) (pe_op op_mulB (pv 1) (pv 2)))))) pa_nil)) (nomark _))))), ?_⟩
  unfold tSeq tAsg
  refine ⟨_, rfl, L, rfl, ⟨_, SqL.of hL⟩, fun Dc hDc => ?_⟩
  refine compC_each (js := [2]) (J := Itl K L) (g := gName 0) (te := _) (n := 1) (xs := ps.map V.int) (fun i v G => ∃ n, (ps.map (· * m))[i]? = some n ∧ v = .int n) (fun _ _ _ _ _ h => h) hDc (runs_list hL) (small20 (by rw [List.length_map]; omega)) ?_ ?_
  · intro i y zs G Q' hy hz S hQ
    rw [List.getElem?_map] at hy
    cases hp : ps[i]? with
    | none => rw [hp] at hy; cases hy
    | some p =>
      rw [hp] at hy; cases hy
      obtain ⟨w1, rfl⟩ := len1 hz
      exact ⟨rfl, _, rfl, _, rfl, _, _, rfl, rfl, ⟨bM (z.bp (List.mem_of_getElem? hp)) (by decide), bM bm (by decide)⟩, hQ _ _ (Same.refl _) ⟨_, by rw [List.getElem?_map, hp]; rfl, rfl⟩⟩
  intro us G S hDG hul hR
  dsimp only [gName]
  have e1 : us = (ps.map (· * m)).map V.int := ints_of (by rw [List.length_map]; rw [List.length_map] at hul; exact hul) fun i v e => hR i v e
  rw [e1] at hDG
  refine ⟨_, rfl, Dc, _, rfl, .of hDG, by rw [List.length_map]; omega, fun D1 m1 hD1 p1 s1 => ?_⟩
  have S1 := Same.upd (o := .lst (m1.map V.int)) hD1
  have hD1' : upd G D1 (.lst (m1.map V.int)) D1 = some (.lst (m1.map V.int)) := upd_same
  generalize upd G D1 (.lst (m1.map V.int)) = G1 at S1 hD1'
  refine ⟨_, rfl, Dc, rfl, ⟨_, SqL.of (S1 _ _ hDG)⟩, fun De hDe => ?_⟩
  refine compC_each (js := [1, 2]) (J := Itl K Dc) (g := gName 0) (te := _) (n := 1) (xs := (ps.map (· * m)).map V.int) (fun i v G => ∃ n, (ps.map fun p => (p * m + T) % (T * m))[i]? = some n ∧ v = .int n) (fun _ _ _ _ _ h => h) hDe (runs_list (S1 _ _ hDG)) (small20 (by rw [List.length_map, List.length_map]; omega)) ?_ ?_
  · intro i y zs G2 Q' hy hz S2 hQ
    rw [List.map_map, List.getElem?_map] at hy
    cases hp : ps[i]? with
    | none => rw [hp] at hy; cases hy
    | some p =>
      rw [hp] at hy; cases hy
      obtain ⟨w1, rfl⟩ := len1 hz
      exact ⟨rfl, _, rfl, _, rfl, _, _, rfl, rfl, _, rfl, _, rfl, _, _, rfl, rfl, ⟨bM z.bT (by decide), bM bm (by decide)⟩, _, _, rfl, rfl, Int.mul_pos z.T0 m0, hQ _ _ (Same.refl _) ⟨_, by rw [List.getElem?_map, hp]; rfl, rfl⟩⟩
  intro us2 G2 S2 hDG2 hul2 hR2
  have e2 : us2 = (ps.map fun p => (p * m + T) % (T * m)).map V.int := ints_of (by rw [List.length_map]; rw [List.length_map, List.length_map] at hul2; exact hul2) fun i v e => hR2 i v e
  rw [e2] at hDG2
  refine ⟨De, _, rfl, .of hDG2, by rw [List.length_map]; omega, fun D2 m2 hD2 p2 s2 => ?_⟩
  have S3 := Same.upd (o := .lst (m2.map V.int)) hD2
  refine ⟨_, _, .lst (S3 _ _ (S2 _ _ hD1')) (rds_ints m1), .lst upd_same (rds_ints m2), shpL m1, shpL m2, ?_⟩
  have ev : PyData.eqv (.list (m1.map .int)) (.list (m2.map .int)) = comesB ps T m := by
    show PyData.eqvAll (m1.map .int) (m2.map .int) = _
    rw [eqv_ints, srtI_eq p1 s1, srtI_eq p2 s2]; rfl
  rw [ev]
  exact k _ (S.trans (S1.trans (S2.trans S3)))
def spGm : Sp := fun vs H Q _ => ∃ L ps T, vs = [.ref L, .int T] ∧ H L = some (.lst (ps.map V.int)) ∧ Phs ps T ∧ 1 ≤ ps.length ∧ ∀ (M : Nat) H', Same H H' → 1 ≤ M → M ≤ ps.length → comesB ps T M = true → (∀ m : Nat, 1 ≤ m → m ≤ ps.length → comesB ps T m = true → m ≤ M) → Q (.int M) H'
theorem sc_gma : FnScope ["phases", "trip"] ["phases", "trip"] (defScope s_greatest_many) := ⟨rfl, rfl, rfl, by decide +kernel, rfl, by decide +kernel, by decide +kernel⟩
theorem ok_gm (D : Df K mg "greatest_many" s_greatest_many ["phases", "trip"] []) (T1 : TxB K mg) (cCg : Cal P w K mg base "comes_again" 1 ["phases", "trip", "many"] [] spCg) : Cal P w K mg base "greatest_many" 2 ["phases", "trip"] [] spGm := by
  have T := T1
  refine D.cal (k := 1) sc_gma (fun vs H Q E h => by obtain ⟨_, _, _, rfl, _⟩ := h; rfl) (fun f cdv A outer s H vs Q E hr h => ?_)
  obtain ⟨L, ps, Tt, rfl, hL, z, l1, k⟩ := h
  have l8 := z.l8
  refine ⟨_, (pss_one (ps_ret (pe_callB (call_maxL rfl) (by rfl) T.nMax PyProof.Rows.boot_max (pa_cons (pe_compC (NB := ["many"]) (FR := ["phases", "trip"]) (js := [0, 1]) rfl rfl (fun x c h => cl_two rfl rfl x c h) (.cons rfl rfl rfl ⟨_, rfl⟩ (.cons rfl rfl rfl ⟨_, rfl⟩ .nil)) rfl (by decide +kernel) rfl (by decide +kernel) (pi_range2 rfl T.nRange (pa_cons pe_int (pa_cons (pe_op op_add (pe_callB call_len_seq (by rfl) T.nLen PySem.boot_len (pa_cons (pv 0) pa_nil)) pe_int) pa_nil))) (by intro _ _ _; refine ⟨?_, ?_, ?_⟩; (exact (pg_name (i := 0) (show List.Nodup (["many", "phases", "trip"] : List Str) by decide +kernel) rfl (Or.inl rfl))); (exact (pts_one (pt_truthK (K := K) rfl (pe_c cCg hr (pa_cons (pv 1) (pa_cons (pv 2) (pa_cons (pv 0) pa_nil)))) fun _ => rfl))); (exact (pv 0)))) pa_nil)))), ?_⟩
  refine ⟨_, rfl, L, _, rfl, .inl (.of hL), _, _, rfl, rfl, 1, _, rfl, ⟨by decide, by decide, by rw [List.length_map]; omega, by rw [List.length_map]; omega⟩, fun Dc hDc => ?_⟩
  rw [show (((ps.map V.int).length : Int) + 1 - 1).toNat = ps.length by rw [List.length_map]; omega]
  refine compC_byZ (js := [0, 1]) (J := Itr 1 ps.length) (g := gName 0) (tt := fun σ H Q => (tCall spCg [] E0 (tCons (tVar 1) (tCons (tVar 2) (tCons (tVar 0) tNil)))) σ H fun x H' => ∃ k, TruV K x H' k ∧ Q k H') (te := tVar 0) (n := 1) (N := ps.length) (fun i G ys => Same H G ∧ ys = ((List.range i).filter fun j : Nat => comesB ps Tt (1 + (j : Int))).map fun j : Nat => V.int (1 + (j : Int))) ⟨Same.upd hDc, rfl⟩ (fun i G ys hi p => hi) (fun G ys p => Nat.le_refl _) ?_ ?_
  · rintro i x zs G2 G3 ys Nx hN hi hz hy ⟨S, rfl⟩ hD2
    obtain ⟨rfl, rfl⟩ := hy
    obtain ⟨w1, rfl⟩ := len1 hz
    refine ⟨rfl, _, rfl, _, rfl, _, rfl, L, ps, Tt, 1 + (i : Int), rfl, S _ _ hL, z, by omega, ?_, fun G4 S4 => ⟨comesB ps Tt (1 + (i : Int)), rfl, ?_⟩⟩
    · exact Bd.mono (m := 10) (show (1 + (i : Int)).natAbs < 2 ^ 10 by omega) (by decide)
    have hlen : (((List.range i).filter fun j : Nat => comesB ps Tt (1 + (j : Int))).map fun j : Nat => V.int (1 + (j : Int))).length < sizeLine := by
      have := List.length_filter_le (fun j : Nat => comesB ps Tt (1 + (j : Int))) (List.range i)
      rw [List.length_range] at this
      have : (1000 : Nat) < sizeLine := by decide
      rw [List.length_map]; omega
    cases hb : comesB ps Tt (1 + (i : Int)) with
    | true =>
      refine iteT ⟨_, rfl, S4 _ _ hD2, hlen, hN _ _ ⟨fun b o e => ?_, ?_⟩⟩
      · rw [upd_ne (ne_of_none e hDc)]; exact S4 _ _ (S _ _ e)
      · rw [List.range_succ, List.filter_append, List.map_append]; simp [hb]
    | false =>
      refine iteF ⟨S4 _ _ hD2, hN _ _ ⟨S.trans S4, ?_⟩⟩
      rw [List.range_succ, List.filter_append, List.map_append]; simp [hb]
  rintro G ys ⟨S, rfl⟩ hD2
  have mem : ∀ M : Int, M ∈ (((List.range ps.length).filter fun j : Nat => comesB ps Tt (1 + (j : Int))).map fun j : Nat => (1 + (j : Int))) ↔ ∃ j : Nat, j < ps.length ∧ comesB ps Tt (1 + (j : Int)) = true ∧ M = 1 + (j : Int) := fun M => by
    rw [List.mem_map]
    constructor
    · rintro ⟨j, hj, rfl⟩
      obtain ⟨h1, h2⟩ := List.mem_filter.mp hj
      exact ⟨j, List.mem_range.mp h1, h2, rfl⟩
    · rintro ⟨j, h1, h2, rfl⟩
      exact ⟨j, List.mem_filter.mpr ⟨List.mem_range.mpr h1, h2⟩, rfl⟩
  have hone : (1 : Int) ∈ (((List.range ps.length).filter fun j : Nat => comesB ps Tt (1 + (j : Int))).map fun j : Nat => (1 + (j : Int))) := (mem 1).mpr ⟨0, by omega, by simpa using comes_one z.ps, by simp⟩
  refine ⟨Dc, _, rfl, by rw [show (((List.range ps.length).filter fun j : Nat => comesB ps Tt (1 + (j : Int))).map fun j : Nat => V.int (1 + (j : Int))) = ((((List.range ps.length).filter fun j : Nat => comesB ps Tt (1 + (j : Int))).map fun j : Nat => (1 + (j : Int)))).map V.int by rw [List.map_map]; rfl] at hD2; exact .of hD2, List.length_pos_of_mem hone, fun M hM hmax => ?_⟩
  obtain ⟨j, h1, h2, rfl⟩ := (mem M).mp hM
  have ej : (1 + (j : Int)) = ((1 + j : Nat) : Int) := by omega
  rw [ej] at h2 ⊢
  refine k (1 + j) G S (by omega) (by omega) h2 fun m m1 m2 hm => ?_
  have := hmax (m : Int) ((mem _).mpr ⟨m - 1, by omega, by rw [show (1 + ((m - 1 : Nat) : Int)) = (m : Int) by omega]; exact hm, by omega⟩)
  omega
end
end KK
end
section
set_option maxHeartbeats 8000000
set_option Elab.async false
set_option linter.all false
set_option maxRecDepth 100000
namespace KK
open PySem L2 KM
section
variable {P : Program} {w : World} {K : PySem.W.Frag} {mg : Str → Option Value} {base : Heap} {C CE : Addr} {aN : Addr}
def spMo (C : Addr) : Sp := fun vs H Q _ => ∃ c t dx fs tp tk a b, vs = [V.ref c, .ref t] ∧ H c = some (.ins C dx fs) ∧ fs.lookup ("tick" : Str) = some (V.ref tp) ∧ RatAt H tp tk ∧ H t = some (.tup [.int a, .int b]) ∧ b ≠ 0 ∧ Bd 4400 a ∧ Bd 4400 b ∧ Sz 4400 tk ∧
  ∀ r H', Same H H' → RatAt H' r (Rat.divInt (a * tk.num) (b * (tk.den : Int))) → Q (.ref r) H'
theorem sc_mo : FnScope ["course", "ticks"] ["course", "ticks"] (defScope s_moment_of) := ⟨rfl, rfl, rfl, by decide +kernel, rfl, by decide +kernel, by decide +kernel⟩
theorem ok_mo {C : Addr} (D : Df K mg "moment_of" s_moment_of ["course", "ticks"] []) (TC : TCo K C) (cR : Cal P w K mg base "ratio" 2 ["top", "bottom"] [] spLow) : Cal P w K mg base "moment_of" 3 ["course", "ticks"] [] (spMo C) := by
  refine D.cal (k := 2) sc_mo (fun vs H Q E h => by obtain ⟨_, _, _, _, _, _, _, _, rfl, _⟩ := h; rfl) (fun f cdv A outer s H vs Q E hr h => ?_)
  obtain ⟨c, t, dx, fs, tp, tk, a, b, rfl, hc, e, htp, ht, hb, ba, bb, hz, k⟩ := h
  refine ⟨_, (pss_one (ps_ret (pe_c cR hr (pa_cons (pe_op op_mulB (pe_ix ix_tup (pv 1) pe_int (fun _ _ => rfl)) (pe_ix ix_tup (pe_fld (pv 0) rfl) pe_int (fun _ _ => rfl))) (pa_cons (pe_op op_mulB (pe_ix ix_tup (pv 1) pe_int (fun _ _ => rfl)) (pe_ix ix_tup (pe_fld (pv 0) rfl) pe_int (fun _ _ => rfl))) pa_nil))))), ?_⟩
  refine call2 (Q := Q) ?_
  refine ⟨_, rfl, t, _, _, _, rfl, rfl, .of ht, at0 .., _, rfl, c, C, dx, fs, _, rfl, hc, TC.cls, TC.tick, e, tp, _, _, _, rfl, rfl, .of htp, at0 .., _, _, rfl, rfl, ⟨ba.mono (by decide), hz.1.mono (by decide)⟩, ?_⟩
  refine ⟨_, rfl, t, _, _, _, rfl, rfl, .of ht, at1 .., _, rfl, c, C, dx, fs, _, rfl, hc, TC.cls, TC.tick, e, tp, _, _, _, rfl, rfl, .of htp, at1 .., _, _, rfl, rfl, ⟨bb.mono (by decide), hz.2.mono (by decide)⟩, ?_⟩
  exact ⟨_, _, rfl, Int.mul_ne_zero hb (KM.den_ne tk), (bb.mul hz.2).mono (by decide), k⟩
def part1 (T k g : Int) (tk : Rat) : Rat := Rat.divInt (T * tk.num) (g * k * (tk.den : Int))
def gcdF (qs : List Rat) : Int := qs.foldl (fun d q => ((Int.gcd (q.den : Int) d : Nat) : Int)) 0
theorem gcdF_snoc (qs : List Rat) (q : Rat) : gcdF (qs ++ [q]) = ((Int.gcd (q.den : Int) (gcdF qs) : Nat) : Int) := by unfold gcdF; rw [List.foldl_append]; rfl
theorem gcdF_nn (qs : List Rat) : 0 ≤ gcdF qs := by
  rcases List.eq_nil_or_concat qs with rfl | ⟨l, q, rfl⟩
  · exact Int.le_refl _
  · rw [List.concat_eq_append, gcdF_snoc]; omega
theorem gcdF_dvd (qs : List Rat) : (∀ q ∈ qs, gcdF qs ∣ (q.den : Int)) ∧ ∀ d : Int, (∀ q ∈ qs, d ∣ (q.den : Int)) → d ∣ gcdF qs := by
  suffices h : ∀ n, ∀ qs : List Rat, qs.length = n → (∀ q ∈ qs, gcdF qs ∣ (q.den : Int)) ∧ ∀ d : Int, (∀ q ∈ qs, d ∣ (q.den : Int)) → d ∣ gcdF qs from h _ qs rfl
  intro n
  induction n with
  | zero =>
    intro qs hq
    cases List.length_eq_zero_iff.mp hq
    exact ⟨fun q m => (by cases m), fun d _ => Int.dvd_zero d⟩
  | succ n ih =>
    intro qs hq
    rcases List.eq_nil_or_concat qs with rfl | ⟨l, q, rfl⟩
    · simp at hq
    rw [List.concat_eq_append] at hq ⊢
    rw [gcdF_snoc]
    obtain ⟨i1, i2⟩ := ih l (by simpa using hq)
    refine ⟨fun u m => ?_, fun d hd => ?_⟩
    · rcases List.mem_append.mp m with m | m
      · exact Int.dvd_trans (Int.gcd_dvd_right ..) (i1 u m)
      · cases List.mem_singleton.mp m; exact Int.gcd_dvd_left ..
    · exact Int.dvd_coe_gcd (hd q (by simp)) (i2 d fun u m => hd u (by simp [m]))
theorem gcdF_pos {qs : List Rat} (h : 1 ≤ qs.length) : 0 < gcdF qs ∧ ∃ q ∈ qs, gcdF qs ≤ (q.den : Int) := by
  match qs, h with
  | q :: l, _ =>
    have d := (gcdF_dvd (q :: l)).1 q (by simp)
    have p := den_pos q
    have nn := gcdF_nn (q :: l)
    refine ⟨?_, q, by simp, Int.le_of_dvd p d⟩
    rcases Int.lt_or_eq_of_le nn with z | z
    · exact z
    · rw [← z] at d; have := Int.zero_dvd.mp d; omega
def ptL (T : Int) (tk : Rat) (kgs : List (Int × Int)) : List Rat := kgs.map fun u => part1 T u.1 u.2 tk
def leastQ (qs : List Rat) : Rat := Rat.divInt (lcmL (qs.map Rat.num)) (gcdF qs)
structure LrZ (T : Int) (tk : Rat) (kgs : List (Int × Int)) : Prop where
  l1 : 1 ≤ kgs.length
  l8 : kgs.length ≤ 8
  pos : ∀ u ∈ kgs, 0 < u.1 ∧ 0 < u.2
  bk : ∀ u ∈ kgs, Bd 3000 u.1
  bg : ∀ u ∈ kgs, Bd 400 u.2
  num : ∀ q ∈ ptL T tk kgs, 0 < q.num
  bn : ∀ q ∈ ptL T tk kgs, Bd 400 q.num
  bd : ∀ q ∈ ptL T tk kgs, Bd 400 (q.den : Int)
  zt : Sz 4400 tk
def spLrG (C : Addr) : Sp := fun vs H Q _ => ∃ c A ys kgs pb sb tk ws trs lo hi, vs = [.ref c, .ref A] ∧ CoAt H C c pb sb tk ws trs (some lo) (some hi) ∧ Wb (some lo) ∧ Wb (some hi) ∧ lo.1 < hi.1 ∧ H A = some (.lst ys) ∧ PrsI H ys kgs ∧ LrZ (2 * (hi.1 - lo.1)) tk kgs ∧
  ∀ r H', Same H H' → RatAt H' r (leastQ (ptL (2 * (hi.1 - lo.1)) tk kgs)) → Q (.ref r) H'
theorem sc_lero : FnScope ["course", "manies", "trip", "parts", "divisor", "top", "bottom"] ["course", "manies"] (defScope s_least_round) := ⟨rfl, rfl, rfl, by decide +kernel, rfl, by decide +kernel, by decide +kernel⟩
def RatsL (G : Hp) (us : List V) (qs : List Rat) : Prop := us.length = qs.length ∧ ∀ (i : Nat) (v : V), us[i]? = some v → ∃ q r, qs[i]? = some q ∧ v = .ref r ∧ RatAt G r q
theorem ok_lrG (D : Df K mg "least_round" s_least_round ["course", "manies"] []) (TC : TCo K C) (cTr : Cal P w K mg base "trip_of" 1 ["course"] [] (spTrip C)) (cG : Cal P w K mg base "greatest_divisor" 1 ["one", "other"] [] spGcd) (cL : Cal P w K mg base "least_multiple" 2 ["numbers"] [] spLcm) (cR : Cal P w K mg base "ratio" 2 ["top", "bottom"] [] spLow) (cMo : Cal P w K mg base "moment_of" 3 ["course", "ticks"] [] (spMo C)) : Cal P w K mg base "least_round" 4 ["course", "manies"] [] (spLrG C) := by
  refine D.cal (k := 3) sc_lero (fun vs H Q E h => by obtain ⟨_, _, _, _, _, _, _, _, _, _, _, rfl, _⟩ := h; rfl) (fun f cdv A outer s H vs Q E hr3 h => ?_)
  obtain ⟨c, Am, ys, kgs, pb, sb, tk, ws, trs, lo, hi, rfl, hco, wl, wh, hlh, hA, hP, Z, kk⟩ := h
  have hr1 : Room 1 _ := hr3.mono (by decide)
  have hr2 : Room 2 _ := hr3.mono (by decide)
  obtain ⟨dx, fs, hc, F⟩ := id hco
  obtain ⟨tp, et, htp⟩ := F.tick
  refine ⟨_, (pss_cons (ps_set (i := 2) sc_lero.nd rfl (Or.inr rfl) (pe_c cTr hr1 (pa_cons (pv 0) pa_nil)))
    (pss_cons (ps_setC (i := 3) (NB := ["pace", "many"]) (FR := ["course", "trip"]) (js := [0, 2]) rfl rfl (fun x c h => cl_two rfl rfl x c h) (.cons rfl rfl rfl ⟨_, rfl⟩ (.cons rfl rfl rfl ⟨_, rfl⟩ .nil)) rfl (by decide +kernel) rfl (by decide +kernel) sc_lero.nd rfl rfl (by rfl) (pi_list (pv 1)) (by intro _ _ _; refine ⟨?_, ?_, ?_⟩; (exact (pg_tupK (K := K) (n := 2) rfl rfl (pgs_cons (pg_name (i := 0) (show List.Nodup (["pace", "many", "course", "trip"] : List Str) by decide +kernel) rfl (Or.inl rfl)) (pgs_cons (pg_name (i := 1) (show List.Nodup (["pace", "many", "course", "trip"] : List Str) by decide +kernel) rfl (Or.inl rfl)) pgs_nil)))); (exact pts_nil); (exact (pe_c cMo hr3 (pa_cons (pv 2) (pa_cons (pe_tup (pa_cons (pv 3) (pa_cons (pe_op op_mulB (pv 1) (pv 0)) pa_nil))) pa_nil))))))
    (pss_cons (ps_set (i := 4) sc_lero.nd rfl (Or.inl rfl) pe_int)
    (pss_cons (ps_for PassesOwn.never rfl (pi_list (pv 3)) (pg_tup rfl (pgs_cons (pg_name (i := 5) sc_lero.nd rfl (Or.inl rfl)) (pgs_cons (pg_name (i := 6) sc_lero.nd rfl (Or.inl rfl)) pgs_nil))) (pss_one (ps_set (i := 4) sc_lero.nd rfl (Or.inl rfl) (pe_c cG hr1 (pa_cons (pv 6) (pa_cons (pv 4) pa_nil))))))
    (pss_one (ps_ret (pe_c cR hr2 (pa_cons (pe_c cL hr2 (pa_cons (pe_comp (NB := ["top", "bottom"]) rfl (by decide +kernel) (by decide +kernel) rfl (by decide +kernel) (pi_list (pv 3)) (by intro _ _ _; refine ⟨?_, ?_, ?_⟩; (exact (pg_tupK (K := K) (n := 2) rfl rfl (pgs_cons (pg_name (i := 0) (show List.Nodup (["top", "bottom"] : List Str) by decide +kernel) rfl (Or.inl rfl)) (pgs_cons (pg_name (i := 1) (show List.Nodup (["top", "bottom"] : List Str) by decide +kernel) rfl (Or.inl rfl)) pgs_nil)))); (exact pts_nil); (exact (pv 0)))) pa_nil)) (pa_cons (pv 4) pa_nil))))))))), ?_⟩
  refine ⟨_, rfl, c, pb, sb, tk, ws, trs, some lo, some hi, rfl, hco, wl, wh, ?_⟩
  dsimp only [gName]
  have bT : Bd 3000 (2 * (hi.1 - lo.1)) := (trip_ok wl wh (fun l r e1 e2 => by cases e1; cases e2; exact hlh) _ rfl).2
  have hT : lv (tripP (some lo) (some hi)) = V.int (2 * (hi.1 - lo.1)) := rfl
  rw [hT]
  generalize 2 * (hi.1 - lo.1) = T at *
  have bM : ∀ {n : Nat} {i : Int}, Bd n i → n ≤ 1000000 → Bd 1000000 i := fun h l => h.mono l
  obtain ⟨l1, l8, pos, bk, bg, qn, bqn, bqd, zt⟩ := Z
  have yl := hP.1
  have ql : (ptL T tk kgs).length = kgs.length := List.length_map ..
  refine st_mid (fun σ' G => ∃ Dc us, σ' = [some (.ref c), some (.ref Am), some (.int T), some (.ref Dc), none, none, none] ∧ Same H G ∧ G Dc = some (.lst us) ∧ RatsL G us (ptL T tk kgs)) ?_ ?_
  rotate_left
  · intro nx hnx
    refine ⟨_, rfl, Am, rfl, ⟨_, SqL.of hA⟩, fun Dc hDc => ?_⟩
    refine compC_each (js := [0, 2]) (J := Itl K Am) (g := gTup K 2 (gCons (gName 0) (gCons (gName 1) gNil))) (te := _) (n := 2) (xs := ys) (fun i v G => ∃ q r, (ptL T tk kgs)[i]? = some q ∧ v = .ref r ∧ RatAt G r q) (fun i v G G' e ⟨q, r, q0, q1, q2⟩ => ⟨q, r, q0, q1, e _ _ q2⟩) hDc (runs_list hA) (small20 (by omega)) ?_ ?_
    · intro i y zs G Q' hy hz S hQ
      obtain ⟨⟨k, g⟩, e, hu, rfl, he⟩ := hP.2 i y hy
      have mu := List.mem_of_getElem? hu
      obtain ⟨k0, g0⟩ := pos _ mu
      have bk' := bk _ mu
      have bg' := bg _ mu
      dsimp only at k0 g0 bk' bg' he
      obtain ⟨w1, w2, rfl⟩ := len2 hz
      refine ⟨e, _, rfl, .of (S _ _ he), rfl, _, _, rfl, _, _, rfl, rfl, ⟨rfl, ?_⟩⟩
      refine ⟨_, rfl, _, rfl, _, rfl, _, rfl, _, _, rfl, rfl, ⟨bM bg' (by decide), bM bk' (by decide)⟩, by show 2 ≤ sizeLine; decide, fun tq htq => ?_⟩
      have s1 := Same.upd (o := .tup [.int T, .int (g * k)]) htq
      refine ⟨c, tq, dx, fs, tp, tk, T, g * k, rfl, s1 _ _ (S _ _ hc), et, s1 _ _ (S _ _ htp), upd_same, Int.ne_of_gt (Int.mul_pos g0 k0), bT.mono (by decide), (bg'.mul bk').mono (by decide), zt, fun r H' s2 hr => hQ _ _ (s1.trans s2) ⟨_, r, by unfold ptL; rw [List.getElem?_map, hu]; rfl, rfl, hr⟩⟩
    intro us G S hDG hul hR
    exact hnx _ _ ⟨Dc, us, rfl, S, hDG, by rw [ql]; omega, hR⟩
  rintro σ0 G ⟨Dc, us, rfl, S, hDG, hul, hRs⟩
  generalize hqs : ptL T tk kgs = qs at *
  refine st_mid (fun σ' G' => G = G' ∧ σ' = [some (.ref c), some (.ref Am), some (.int T), some (.ref Dc), some (.int 0), none, none]) ?_ ?_
  rotate_left
  · intro nx hnx
    exact hnx _ _ ⟨rfl, rfl⟩
  rintro σ1 G1 ⟨rfl, rfl⟩
  refine st_mid (fun σ' G' => G = G' ∧ ∃ y5 y6, σ' = [some (.ref c), some (.ref Am), some (.int T), some (.ref Dc), some (.int (gcdF qs)), y5, y6]) ?_ ?_
  rotate_left
  · intro nx hnx
    refine ⟨_, rfl, Dc, rfl, ⟨_, SqL.of hDG⟩, ?_⟩
    refine for_list (K := K) (xs := us) (fun i σ' G' => G = G' ∧ ∃ y5 y6, σ' = [some (.ref c), some (.ref Am), some (.int T), some (.ref Dc), some (.int (gcdF (qs.take i))), y5, y6]) ⟨rfl, none, none, rfl⟩ (fun i σ' G' _ h => by rw [← h.1]; exact SqL.of hDG) ?_ ?_
    · rintro i x σ' G' hx ⟨rfl, y5, y6, rfl⟩
      obtain ⟨q, r0, hq, rfl, hr0⟩ := hRs i x hx
      have dq : 0 < (q.den : Int) := den_pos q
      refine ⟨r0, _, rfl, .of hr0, rfl, _, _, rfl, _, _, rfl, rfl, ?_⟩
      dsimp only [gName]
      refine ⟨_, rfl, _, rfl, (q.den : Int), gcdF (qs.take i), rfl, by omega, gcdF_nn _, ?_⟩
      have eg : gcdF (qs.take (i + 1)) = ((Int.gcd (q.den : Int) (gcdF (qs.take i)) : Nat) : Int) := by
        rw [List.take_add_one, hq]; exact gcdF_snoc ..
      dsimp only [gName]
      rw [← eg]
      exact ⟨rfl, _, _, rfl⟩
    · rintro σ' G' ⟨rfl, y5, y6, rfl⟩
      exact hnx _ _ ⟨rfl, y5, y6, by rw [hul, List.take_length]⟩
  rintro σ' G' ⟨rfl, y5, y6, rfl⟩
  refine ⟨_, rfl, Dc, rfl, ⟨_, SqL.of hDG⟩, fun De hDe => ?_⟩
  refine comp_each (J := Itl K Dc) (g := gTup K 2 (gCons (gName 0) (gCons (gName 1) gNil))) (te := _) (n := 2) (xs := us) (fun i v G => ∃ n, (qs.map Rat.num)[i]? = some n ∧ v = .int n) (fun _ _ _ _ _ h => h) hDe (runs_list hDG) (small20 (by omega)) ?_ ?_
  · intro i y zs G2 Q' hy hz S2 hQ
    obtain ⟨q, r0, hq, rfl, hr0⟩ := hRs i y hy
    obtain ⟨w1, w2, rfl⟩ := len2 hz
    exact ⟨r0, _, rfl, .of (S2 _ _ hr0), rfl, _, _, rfl, _, _, rfl, rfl, _, rfl, hQ _ _ (Same.refl _) ⟨_, by rw [List.getElem?_map, hq]; rfl, rfl⟩⟩
  intro us2 G2 S2 hDG2 hul2 hR2
  have e2 : us2 = (qs.map Rat.num).map V.int := ints_of (by rw [List.length_map]; omega) fun i v e => hR2 i v e
  rw [e2] at hDG2
  refine ⟨De, qs.map Rat.num, rfl, hDG2, ?_, by rw [List.length_map]; omega, _, rfl, ?_⟩
  · intro x m
    obtain ⟨q, mq, rfl⟩ := List.mem_map.mp m
    exact ⟨qn q mq, bqn q mq⟩
  obtain ⟨g0, q, mq, gl⟩ := gcdF_pos (qs := qs) (by omega)
  refine ⟨lcmL (qs.map Rat.num), gcdF qs, rfl, by omega, (Bd.of_le (j := (q.den : Int)) (by omega) (bqd q mq)).mono (by decide), fun r H' s3 hr => kk r H' (S.trans (S2.trans s3)) hr⟩
end
end KK
end
section
set_option maxHeartbeats 8000000
set_option Elab.async false
set_option linter.all false
set_option maxRecDepth 100000
namespace KK
open PySem L2 KM
section
variable {P : Program} {w : World} {K : PySem.W.Frag} {mg : Str → Option Value} {base : Heap} {C CE : Addr} {aN : Addr}
def spNx : Sp := fun vs H Q _ => ∃ r a bs b0 l1 l2, vs = [.ref r, .ref a] ∧ Pl H r a bs b0 (some l1) (some l2) ∧ plB b0 bs (some l1) (some l2) = true ∧ ∀ H', Same H H' → Q .non H'
theorem sc_nbx : FnScope ["row", "walls"] ["row", "walls"] (defScope s_refuse_no_box) := ⟨rfl, rfl, rfl, by decide +kernel, rfl, by decide +kernel, by decide +kernel⟩
theorem ok_nbx (D : Df K mg "refuse_no_box" s_refuse_no_box ["row", "walls"] []) (cRu : Cal P w K mg base "refuse_uneven" 7 ["row", "walls"] [] spRu) : Cal P w K mg base "refuse_no_box" 8 ["row", "walls"] [] spNx := by
  refine D.cal (k := 7) sc_nbx (fun vs H Q E h => by obtain ⟨_, _, _, _, _, _, rfl, _⟩ := h; rfl) (fun f cdv A outer s H vs Q E hr7 h => ?_)
  obtain ⟨r, a, bs, b0, l1, l2, rfl, pl, hp, k⟩ := h
  refine ⟨_, (pss_cons (ps_expr (pe_c cRu hr7 (pa_cons (pv 0) (pa_cons (pv 1) pa_nil)))) (pss_one (ps_if ((pw_or (pt_cmpR op_isN (pe_ix ix_tup (pv 1) pe_int (fun _ _ => rfl)) pe_non (nomark _)) (pw_or1 (pt_cmpR op_isN (pe_ix ix_tup (pv 1) pe_int (fun _ _ => rfl)) pe_non (nomark _))))).pt pss_never pss_nil))), ?_⟩
  refine ⟨_, rfl, _, rfl, r, a, bs, b0, _, _, rfl, pl, hp, fun H1 e1 => ?_⟩
  dsimp only
  obtain ⟨v1, v2, ha, h1, h2⟩ := pl.walls
  have ha1 := e1 _ _ ha
  obtain ⟨a1, _, _, rfl, _⟩ := h1
  obtain ⟨a2, _, _, rfl, _⟩ := h2
  refine ⟨_, rfl, a, _, _, _, rfl, rfl, .of ha1, at0 .., rfl, _, rfl, iteF ⟨_, rfl, a, _, _, _, rfl, rfl, .of ha1, at1 .., rfl, _, rfl, iteF (k H1 e1)⟩⟩
structure GmZ (T : Int) (ps : List Int) (M : Nat) : Prop where
  m1 : 1 ≤ M
  m2 : M ≤ ps.length
  m3 : comesB ps T M = true
  m4 : ∀ m : Nat, 1 ≤ m → m ≤ ps.length → comesB ps T m = true → m ≤ M
structure KgZ (T : Int) (pss : List (Int × List Int)) (kgs : List (Int × Int)) : Prop where
  pm : (kgs.map Prod.fst).Perm (pss.map Prod.fst)
  so : (kgs.map Prod.fst).Pairwise (· ≤ ·)
  gm : ∀ u ∈ kgs, ∃ ps M, (u.1, ps) ∈ pss ∧ u.2 = ((M : Nat) : Int) ∧ GmZ T ps M
structure RoG (bs : List Bl) (lo hi : Rat × Rat) (T s : Int) (tk : Rat) (pss : List (Int × List Int)) : Prop where
  esb : s = sbO bs (some lo) (some hi)
  etk : tk = Rat.divInt (sbO bs (some lo) (some hi)) (pbO bs (some lo) (some hi))
  eT : T = 2 * ((trB (pbO bs (some lo) (some hi)) (sbO bs (some lo) (some hi)) hi).1 - (trB (pbO bs (some lo) (some hi)) (sbO bs (some lo) (some hi)) lo).1)
  eph : phO (trB (pbO bs (some lo) (some hi)) (sbO bs (some lo) (some hi)) lo).1 T (bs.map fun b => trB (pbO bs (some lo) (some hi)) (sbO bs (some lo) (some hi)) (b.pl, b.sp)) = pss
  l8 : pss.length ≤ 8
  zps : ∀ e ∈ pss, Phs e.2 T
  l1p : ∀ e ∈ pss, 1 ≤ e.2.length
  k0 : ∀ e ∈ pss, 0 < e.1
  bk : ∀ e ∈ pss, Bd 3000 e.1
  pt : ∀ e ∈ pss, ∀ g : Nat, 1 ≤ g → g ≤ e.2.length → 0 < (part1 T e.1 g tk).num ∧ Bd 400 (part1 T e.1 g tk).num ∧ Bd 400 ((part1 T e.1 g tk).den : Int)
def PcA (G : Hp) (us : List V) (s : Int) (kgs : List (Int × Int)) : Prop := us.length = kgs.length ∧ ∀ (i : Nat) (v : V), us[i]? = some v → ∃ u x y, kgs[i]? = some u ∧ v = .ref x ∧ G x = some (.tup [.ref y, .int u.2]) ∧ RatAt G y (Rat.divInt u.1 s)
theorem PcA.same {G G' : Hp} {us : List V} {s : Int} {kgs : List (Int × Int)} (h : PcA G us s kgs) (e : Same G G') : PcA G' us s kgs := ⟨h.1, fun i v q => let ⟨u, x, y, q1, q2, q3, q4⟩ := h.2 i v q; ⟨u, x, y, q1, q2, e _ _ q3, e _ _ q4⟩⟩
def spRoG : Sp := fun vs H Q _ => ∃ r a bs b0 lo hi T s tk pss, vs = [.ref r, .ref a] ∧ Ln H r a bs (some lo) (some hi) ∧ LnZ bs (some lo) (some hi) ∧ bs[0]? = some b0 ∧ plB (tb b0) (bs.map tb) (some lo) (some hi) = true ∧ RoG bs lo hi T s tk pss ∧
  (pss = [] → ∀ H', Same H H' → Q .non H') ∧
  (pss ≠ [] → ∀ z H' kgs q l us, Same H H' → KgZ T pss kgs → H' z = some (.tup [.ref q, .ref l]) → RatAt H' q (leastQ (ptL T tk kgs)) → H l = none → H' l = some (.lst us) → PcA H' us s kgs → Q (.ref z) H')
theorem sc_rof : FnScope ["row", "walls", "course", "phases", "manies"] ["row", "walls"] (defScope s_round_of) := ⟨rfl, rfl, rfl, by decide +kernel, rfl, by decide +kernel, by decide +kernel⟩
theorem es_find {es : List Ent} (hk : (es.map (·.1)).Nodup) {e : Ent} (m : e ∈ es) : (es.find? fun x => decide (x.1 = e.1)) = some e := by
  cases hf : es.find? fun x => decide (x.1 = e.1) with
  | none => exact absurd (decide_eq_true rfl) (List.find?_eq_none.mp hf e m)
  | some x =>
    have mx := List.mem_of_find?_eq_some hf
    have kx : x.1 = e.1 := of_decide_eq_true (List.find?_some (p := fun y : Ent => decide (y.1 = e.1)) hf)
    by_cases c : x = e
    · rw [c]
    · exact absurd kx (PhA.put.nodup_ne (f := fun y : Ent => y.1) hk mx m c)
theorem prs_fst {H : Hp} {us : List V} {ms : List Int} {F : Int → Nat → Prop} (hl : us.length = ms.length) (h : ∀ (i : Nat) (v : V), us[i]? = some v → ∃ (k : Int) (x : Addr) (M : Nat), ms[i]? = some k ∧ v = .ref x ∧ H x = some (.tup [.int k, .int M]) ∧ F k M) :
    ∃ kgs : List (Int × Int), kgs.map Prod.fst = ms ∧ PrsI H us kgs ∧ ∀ u ∈ kgs, ∃ M : Nat, u.2 = (M : Int) ∧ F u.1 M := by
  induction us generalizing ms with
  | nil =>
    cases ms with
    | nil => exact ⟨[], rfl, ⟨rfl, fun i v e => by simp at e⟩, fun u m => by cases m⟩
    | cons => simp at hl
  | cons v us ih =>
    cases ms with
    | nil => simp at hl
    | cons k ms =>
      obtain ⟨kgs, e1, e2, e3⟩ := ih (ms := ms) (by simpa using hl) (fun i v e => by have := h (i + 1) v (by simpa using e); simpa using this)
      obtain ⟨k', x, M, q1, rfl, q3, q4⟩ := h 0 v rfl
      cases q1
      refine ⟨(k, (M : Int)) :: kgs, by rw [List.map_cons, e1], ⟨by simp [e2.1], fun i w e => ?_⟩, fun u m => ?_⟩
      · match i, e with
        | 0, e => cases e; exact ⟨_, x, rfl, rfl, q3⟩
        | i + 1, e => exact e2.2 i w (by simpa using e)
      · rcases List.mem_cons.mp m with rfl | m
        · exact ⟨M, rfl, q4⟩
        · exact e3 u m
theorem ok_roG {fi : Addr} {fdi : FuncData} (D : Df K mg "round_of" s_round_of ["row", "walls"] []) (T : TxB K mg) (T3 : Tx3 K mg aN) (TC : TCo K C) (M : Mk K C fi) (Fi : FnOk P w K mg base CX0 4 fi fdi ["self", "row", "walls"] (spCo C)) (hmC : mg "Course" = some (.ref C)) (Bi : Binds K fdi ["self", "row", "walls"] [])
    (cNx : Cal P w K mg base "refuse_no_box" 8 ["row", "walls"] [] spNx) (cPh : Cal P w K mg base "phases_of" 2 ["course"] [] (spPh C)) (cGm : Cal P w K mg base "greatest_many" 2 ["phases", "trip"] [] spGm) (cTr : Cal P w K mg base "trip_of" 1 ["course"] [] (spTrip C)) (cLr : Cal P w K mg base "least_round" 4 ["course", "manies"] [] (spLrG C)) (cR : Cal P w K mg base "ratio" 2 ["top", "bottom"] [] spLow) :
    Cal P w K mg base "round_of" 9 ["row", "walls"] [] spRoG := by
  refine D.cal (k := 8) sc_rof (fun vs H Q E h => by obtain ⟨_, _, _, _, _, _, _, _, _, _, rfl, _⟩ := h; rfl) (fun f cdv A outer s H vs Q E hr8 h => ?_)
  obtain ⟨r, a, bs, b0, lo, hi, Tt, ss, tk, pss, rfl, ln, lz, h0, hp, Z0, kN, k⟩ := h
  have hr5 : Room 5 _ := hr8.mono (by decide)
  have hr4 : Room 4 _ := hr8.mono (by decide)
  have hr2 : Room 2 _ := hr8.mono (by decide)
  have hr1 : Room 1 _ := hr8.mono (by decide)
  have hu := Nat.lt_of_le_of_lt (Nat.add_le_add_left (show 1 ≤ 64 by decide) _) hr8.units
  obtain ⟨b0', e0', pl⟩ := ln.pl
  rw [h0] at e0'; cases e0'
  refine ⟨_, (pss_cons (ps_expr (pe_c cNx hr8 (pa_cons (pv 0) (pa_cons (pv 1) pa_nil))))
    (pss_cons (ps_set (i := 2) sc_rof.nd rfl (Or.inr rfl) (pe_make M Fi hr5 (by rfl) hmC Bi .nil pass0 (pa_cons (pv 0) (pa_cons (pv 1) pa_nil))))
    (pss_cons (ps_set (i := 3) sc_rof.nd rfl (Or.inr rfl) (pe_c cPh hr2 (pa_cons (pv 2) pa_nil)))
    (pss_cons (ps_if (pt_cmpR op_eq (pe_callB call_lenK (by rfl) T.nLen PySem.boot_len (pa_cons (pv 3) pa_nil)) pe_int (nomark _)) (pss_one (ps_ret pe_non)) pss_nil)
    (pss_cons (ps_setC (i := 4) (NB := ["pace"]) (FR := ["phases", "course"]) (js := [3, 2]) rfl rfl (fun x c h => cl_two rfl rfl x c h) (.cons rfl rfl rfl ⟨_, rfl⟩ (.cons rfl rfl rfl ⟨_, rfl⟩ .nil)) rfl (by decide +kernel) rfl (by decide +kernel) sc_rof.nd rfl rfl (by rfl) (pi_list (pe_callB (call_sortK rfl) (by rfl) T3.nSorted PyProof.Rows.boot_sorted (pa_cons (pv 3) pa_nil))) (by intro _ _ _; refine ⟨?_, ?_, ?_⟩; (exact (pg_name (i := 0) (show List.Nodup (["pace", "phases", "course"] : List Str) by decide +kernel) rfl (Or.inl rfl))); (exact pts_nil); (exact (pe_tup (pa_cons (pv 0) (pa_cons (pe_c cGm hr2 (pa_cons (pe_dget hu (pv 1) (pv 0) (fun _ _ => rfl)) (pa_cons (pe_c cTr hr1 (pa_cons (pv 2) pa_nil)) pa_nil))) pa_nil))))))
    (pss_one (ps_ret (pe_tup (pa_cons (pe_c cLr hr4 (pa_cons (pv 2) (pa_cons (pv 4) pa_nil))) (pa_cons (pe_compC (NB := ["pace", "many"]) (FR := ["course"]) (js := [2]) rfl rfl (fun x c h => cl_one rfl x c h) (.cons rfl rfl rfl ⟨_, rfl⟩ .nil) rfl (by decide +kernel) rfl (by decide +kernel) (pi_list (pv 4)) (by intro _ _ _; refine ⟨?_, ?_, ?_⟩; (exact (pg_tupK (K := K) (n := 2) rfl rfl (pgs_cons (pg_name (i := 0) (show List.Nodup (["pace", "many", "course"] : List Str) by decide +kernel) rfl (Or.inl rfl)) (pgs_cons (pg_name (i := 1) (show List.Nodup (["pace", "many", "course"] : List Str) by decide +kernel) rfl (Or.inl rfl)) pgs_nil)))); (exact pts_nil); (exact (pe_tup (pa_cons (pe_c cR hr2 (pa_cons (pv 0) (pa_cons (pe_fldK (K := K) rfl (pv 2) rfl) pa_nil))) (pa_cons (pv 1) pa_nil)))))) pa_nil)))))))))), ?_⟩
  refine ⟨_, rfl, _, rfl, r, a, _, _, lo, hi, rfl, pl, hp, fun H1 e1 => ?_⟩
  dsimp only
  have ln1 := ln.same e1
  obtain ⟨us, hrr, hB⟩ := ln1.row
  obtain ⟨v1, v2, ha, h1, h2⟩ := ln1.walls
  refine ⟨_, rfl, _, rfl, fun c dx hc hdx ne => ?_⟩
  have S0 : Same H1 (upd (upd H1 dx (.own c)) c (.ins C dx [])) := (Same.upd hdx).trans (Same.upd (by rw [upd_ne ne.symm]; exact hc))
  refine ⟨c, dx, r, a, us, bs, v1, v2, some lo, some hi, rfl, upd_same, S0 _ _ hrr, hB.keeps (.of S0), S0 _ _ ha, h1.wl.keeps (.of S0), h2.wl.keeps (.of S0), ln.l8, fun t mt => ⟨(lz.sz t mt).1.sz, (lz.sz t mt).2.sz⟩, fun H2 X1 hcn => ⟨rfl, ?_⟩⟩
  have hco := hcn.co
  have S2 : Same H H2 := e1.trans fun b o e => X1 b o (ne_of_none e hc) (S0 b o e)
  dsimp only [gName]
  have Z := lz.bd ln.l8
  obtain ⟨esb, etk, eT, eph, l8p, zps, l1p, k0, bk, pt⟩ := Z0
  have hco' := hco
  rw [← etk] at hco'
  generalize hpb : pbO bs (some lo) (some hi) = pb at *
  generalize hsb : sbO bs (some lo) (some hi) = sb at *
  have hlh : (trB pb sb lo).1 < (trB pb sb hi).1 := Z.lh _ _ rfl rfl
  have wl : Wb (some (trB pb sb lo)) := Z.bl
  have wh : Wb (some (trB pb sb hi)) := Z.bh
  have hco2 : CoAt H2 C c pb sb tk (bs.map Bl.wt) (bs.map fun b => trB pb sb (b.pl, b.sp)) (some (trB pb sb lo)) (some (trB pb sb hi)) := hco'
  refine ⟨_, rfl, c, pb, sb, _, _, _, _, _, rfl, hco2, wl, wh, by rw [List.length_map]; exact ln.l8, fun ad es H3 S3 ph eph2 => ?_⟩
  dsimp only [gName]
  rw [← eT, eph] at eph2
  have hd := ph.d
  have esl : es.length = pss.length := by rw [← eph2]; unfold psOf; rw [List.length_map]
  have hkm : es.map (·.1) = pss.map Prod.fst := by rw [← eph2]; unfold psOf; rw [List.map_map]; rfl
  have mps : ∀ e ∈ es, (e.1, e.2.2) ∈ pss := fun e m => by rw [← eph2]; exact List.mem_map.mpr ⟨e, m, rfl⟩
  have SH3 : Same H H3 := S2.trans S3
  refine ⟨_, rfl, ad, _, rfl, hd, rfl, _, rfl, ite2 (fun zc => ?_) (fun zc => ?_)⟩
  · have z0 : ((dkOf es).length : Int) = 0 := V.int.inj (of_decide_eq_true zc)
    rw [es_len, esl] at z0
    exact kN (List.length_eq_zero_iff.mp (by omega)) H3 SH3
  refine st_next ?_
  have ne0 : pss ≠ [] := fun e => zc (decide_eq_true (by rw [es_len, esl, e]; rfl))
  dsimp only
  have hco3 := hco2.same S3
  refine st_mid (fun σ' G => ∃ (Dm : Addr) (us : List V) (kgs : List (Int × Int)), σ' = [some (.ref r), some (.ref a), some (.ref c), some (.ref ad), some (.ref Dm)] ∧ Same H3 G ∧ G Dm = some (.lst us) ∧ PrsI G us kgs ∧ KgZ Tt pss kgs) ?_ ?_
  rotate_left
  · intro nx hnx
    refine ⟨_, rfl, ad, _, pss.map Prod.fst, rfl, hd, by rw [← hkm]; unfold dkOf; rw [List.map_map, List.map_map]; rfl, by rw [List.length_map]; omega, fun Ds ms hDs pm sm => ?_⟩
    have S4 := Same.upd (o := .lst (ms.map V.int)) hDs
    have hDs' : upd H3 Ds (.lst (ms.map V.int)) Ds = some (.lst (ms.map V.int)) := upd_same
    generalize upd H3 Ds (.lst (ms.map V.int)) = H4 at S4 hDs'
    have msl : ms.length = pss.length := by rw [pm.length_eq, List.length_map]
    refine ⟨Ds, rfl, ⟨_, SqL.of hDs'⟩, fun Dm hDm => ?_⟩
    refine compC_each (js := [3, 2]) (J := Itl K Ds) (g := gName 0) (te := _) (n := 1) (xs := ms.map V.int) (fun i v G => ∃ (kp : Int) (x : Addr) (M : Nat), ms[i]? = some kp ∧ v = .ref x ∧ G x = some (.tup [.int kp, .int M]) ∧ ∃ ps, (kp, ps) ∈ pss ∧ GmZ Tt ps M) (fun i v G G' e ⟨kp, x, M, q0, q1, q2, q3⟩ => ⟨kp, x, M, q0, q1, e _ _ q2, q3⟩) hDm (runs_list hDs') (small20 (by rw [List.length_map]; omega)) ?_ ?_
    · intro i y zs G Q' hy hz S hQ
      rw [List.getElem?_map] at hy
      cases hm : ms[i]? with
      | none => rw [hm] at hy; cases hy
      | some kp =>
      rw [hm] at hy; cases hy
      obtain ⟨w1, rfl⟩ := len1 hz
      have mk : kp ∈ es.map (·.1) := by rw [hkm]; exact pm.subset (List.mem_of_getElem? hm)
      obtain ⟨⟨kp', l, ps⟩, me, rfl⟩ := List.mem_map.mp mk
      have mp := mps _ me
      have hl3 := ph.l _ me
      dsimp only at mp hl3 hm
      have SG := S4.trans S
      have vk : valV (dkOf es) (Sum.inl kp') = some (.ref l) := by rw [val_es, es_find ph.k me]; rfl
      have gd : DGet G ad (.int kp') (some (.ref l)) := by have := DGet.k (k := Sum.inl kp') (SG _ _ hd); rw [vk] at this; exact this
      refine ⟨rfl, _, rfl, _, rfl, _, rfl, ad, .ref l, rfl, gd, _, rfl, c, pb, sb, tk, _, _, some (trB pb sb lo), some (trB pb sb hi), rfl, hco3.same SG, wl, wh, ?_⟩
      have eT' : lv (tripP (some (trB pb sb lo)) (some (trB pb sb hi))) = V.int Tt := by rw [eT]; rfl
      rw [eT']
      refine ⟨l, ps, Tt, rfl, SG _ _ hl3, zps _ mp, l1p _ mp, fun M G1 S1 m1 m2 m3 m4 => ⟨by show 2 ≤ sizeLine; decide, fun e he => hQ _ _ (S1.trans (Same.upd he)) ⟨kp', e, M, hm, rfl, upd_same, ps, mp, m1, m2, m3, m4⟩⟩⟩
    intro us G S hDG hul hR
    obtain ⟨kgs, e1, e2, e3⟩ := prs_fst (H := G) (us := us) (ms := ms) (F := fun kp M => ∃ ps, (kp, ps) ∈ pss ∧ GmZ Tt ps M) (by rw [List.length_map] at hul; exact hul) hR
    exact hnx _ _ ⟨Dm, us, kgs, rfl, S4.trans S, hDG, e2, by rw [e1]; exact pm, by rw [e1]; exact sm, fun u m => let ⟨M, q1, ps, q2, q3⟩ := e3 u m; ⟨ps, M, q2, q1, q3⟩⟩
  rintro σ' G ⟨Dm, us, kgs, rfl, SG, hDm, hPm, kz⟩
  have hcoG := hco3.same SG
  have ztk : Sz 4400 tk := by rw [etk]; exact Z.tz.mono (by decide)
  have eT2 : 2 * ((trB pb sb hi).1 - (trB pb sb lo).1) = Tt := eT.symm
  have kl : kgs.length = pss.length := by have := kz.pm.length_eq; rw [List.length_map, List.length_map] at this; exact this
  have pl0 : 1 ≤ pss.length := by rcases pss with _ | ⟨x, l⟩; exact absurd rfl ne0; simp
  have each : ∀ u ∈ kgs, (0 < u.1 ∧ 0 < u.2) ∧ Bd 3000 u.1 ∧ Bd 400 u.2 ∧ 0 < (part1 Tt u.1 u.2 tk).num ∧ Bd 400 (part1 Tt u.1 u.2 tk).num ∧ Bd 400 ((part1 Tt u.1 u.2 tk).den : Int) := fun u m => by
    obtain ⟨ps, M, q1, q2, q3⟩ := kz.gm u m
    have l8 := (zps _ q1).l8
    have m1 := q3.m1
    have m2 := q3.m2
    dsimp only at l8
    rw [q2]
    exact ⟨⟨k0 _ q1, by omega⟩, bk _ q1, Bd.mono (m := 10) (show (M : Int).natAbs < 2 ^ 10 by omega) (by decide), pt _ q1 M m1 m2⟩
  have each' : ∀ q ∈ ptL Tt tk kgs, 0 < q.num ∧ Bd 400 q.num ∧ Bd 400 (q.den : Int) := fun q m => by
    obtain ⟨u, mu, rfl⟩ := List.mem_map.mp m
    exact (each u mu).2.2.2
  have lrz : LrZ Tt tk kgs := ⟨by omega, by omega, fun u m => (each u m).1, fun u m => (each u m).2.1, fun u m => (each u m).2.2.1, fun q m => (each' q m).1, fun q m => (each' q m).2.1, fun q m => (each' q m).2.2, ztk⟩
  refine ⟨_, rfl, _, rfl, c, Dm, us, kgs, pb, sb, tk, _, _, trB pb sb lo, trB pb sb hi, rfl, hcoG, wl, wh, hlh, hDm, hPm, by rw [eT2]; exact lrz, fun q G1 S1 hq => ?_⟩
  rw [eT2] at hq
  have hDm1 := S1 _ _ hDm
  have uln := hPm.1
  refine ⟨_, rfl, Dm, rfl, ⟨_, SqL.of hDm1⟩, fun Dn hDn => ?_⟩
  obtain ⟨dx4, fs4, hc4, F4⟩ := hcoG.same S1
  refine compC_each (js := [2]) (J := Itl K Dm) (g := gTup K 2 (gCons (gName 0) (gCons (gName 1) gNil))) (te := _) (n := 2) (xs := us) (fun i v G => ∃ u x y, kgs[i]? = some u ∧ v = .ref x ∧ G x = some (.tup [.ref y, .int u.2]) ∧ RatAt G y (Rat.divInt u.1 sb)) (fun i v G G' e ⟨u, x, y, q0, q1, q2, q3⟩ => ⟨u, x, y, q0, q1, e _ _ q2, e _ _ q3⟩) hDn (runs_list hDm1) (small20 (by omega)) ?_ ?_
  · intro i y zs G2 Q' hy hz S2' hQ
    obtain ⟨u, e, hu', rfl, he⟩ := hPm.2 i y hy
    obtain ⟨w1, w2, rfl⟩ := len2 hz
    refine ⟨e, _, rfl, .of (S2' _ _ (S1 _ _ he)), rfl, _, _, rfl, _, _, rfl, rfl, ⟨rfl, ?_⟩⟩
    refine ⟨_, rfl, _, rfl, c, C, dx4, fs4, _, rfl, S2' _ _ hc4, TC.cls, TC.sb, F4.sb, u.1, sb, rfl, Int.ne_of_gt Z.sb.1, Z.sb.2.mono (by decide), fun y G3 S3' hy3 => ?_⟩
    exact ⟨_, rfl, by show 2 ≤ sizeLine; decide, fun x hx => hQ _ _ (S3'.trans (Same.upd hx)) ⟨u, x, y, hu', rfl, upd_same, Same.upd hx _ _ hy3⟩⟩
  intro us2 G2 S2' hDG2 hul2 hR2
  refine ⟨by show 2 ≤ sizeLine; decide, fun z hz => ?_⟩
  have SZ := Same.upd (o := .tup [.ref q, .ref Dn]) hz
  have fr : H Dn = none := by
    cases e : H Dn with
    | none => rfl
    | some o => rw [S1 _ _ (SG _ _ (SH3 _ _ e))] at hDn; cases hDn
  exact k ne0 z _ kgs q Dn us2 (SH3.trans (SG.trans (S1.trans (S2'.trans SZ)))) kz upd_same (SZ _ _ (S2' _ _ hq)) fr (SZ _ _ hDG2) (PcA.same ⟨by omega, fun i v e => by rw [esb]; exact hR2 i v e⟩ SZ)
end
end KK
end
section
set_option maxHeartbeats 8000000
set_option Elab.async false
set_option linter.all false
set_option maxRecDepth 100000
namespace KK
open PySem L2 KM
theorem mul_lt {a b c : Int} (hc : 0 < c) : a * c < b * c ↔ a < b := ⟨fun h => Int.lt_of_mul_lt_mul_right h (by omega), fun h => Int.mul_lt_mul_of_pos_right h hc⟩
theorem mul_eq {a b c : Int} (hc : 0 < c) : a * c = b * c ↔ a = b := ⟨fun h => Int.eq_of_mul_eq_mul_right (by omega) h, fun h => by rw [h]⟩
def sc2 (c d : Int) (u : Int × Int) : Int × Int := (u.1 * c, u.2 * d)
theorem lex_sc {c d : Int} (hc : 0 < c) (hd : 0 < d) (u v : Int × Int) : lexB (prL (sc2 c d u)) (prL (sc2 c d v)) = lexB (prL u) (prL v) := by
  show (if u.1 * c = v.1 * c then (if u.2 * d = v.2 * d then false else decide (u.2 * d < v.2 * d)) else decide (u.1 * c < v.1 * c)) = (if u.1 = v.1 then (if u.2 = v.2 then false else decide (u.2 < v.2)) else decide (u.1 < v.1))
  simp only [mul_eq hc, mul_eq hd, mul_lt hc, mul_lt hd]
abbrev SoP (js : List (Int × Int)) : Prop := js.Pairwise fun u v => lexB (prL v) (prL u) = false
theorem SoP.sc {c d : Int} (hc : 0 < c) (hd : 0 < d) {js : List (Int × Int)} (h : SoP js) : SoP (js.map (sc2 c d)) :=
  List.pairwise_map.mpr (h.imp fun {a b} z => by rw [lex_sc hc hd]; exact z)
end KK
end
section
set_option maxHeartbeats 8000000
set_option Elab.async false
set_option linter.all false
set_option maxRecDepth 100000
namespace KK
open PySem L2 KM
theorem byB_den {x : Rat} {b : Int} (h : (x.den : Int) ∣ b) : byB x b * (x.den : Int) = x.num * b := by
  obtain ⟨k, ek⟩ := h
  have d1 : 0 < (x.den : Int) := by have := x.den_pos; omega
  have f1 : b.fdiv (x.den : Int) = k := by rw [Int.fdiv_eq_ediv_of_nonneg _ (by omega), ek]; exact Int.mul_ediv_cancel_left _ (by omega)
  unfold byB
  rw [f1, ek, Int.mul_assoc, Int.mul_comm k]
theorem div_cross {t b : Int} (hb : b ≠ 0) : (Rat.divInt t b).num * b = t * ((Rat.divInt t b).den : Int) := by
  have h := Rat.num_divInt_den (Rat.divInt t b)
  rw [Rat.divInt_eq_divInt_iff (by have := (Rat.divInt t b).den_pos; omega) hb] at h
  exact h
theorem byB_div {t b p : Int} (hb : b ≠ 0) (h : ((Rat.divInt t b).den : Int) ∣ p) : byB (Rat.divInt t b) p * b = t * p := by
  have h1 := byB_den h
  have h2 := div_cross (t := t) hb
  have d1 : ((Rat.divInt t b).den : Int) ≠ 0 := by have := (Rat.divInt t b).den_pos; omega
  refine Int.eq_of_mul_eq_mul_right d1 ?_
  rw [Int.mul_right_comm, h1, Int.mul_right_comm, h2, Int.mul_right_comm]
theorem pb_dvd {bs : List Bl} {lo hi : Wl} (h : LnZ bs lo hi) (l8 : bs.length ≤ 8) {t : Rat × Rat} (m : t ∈ ths bs lo hi) : (t.1.den : Int) ∣ pbO bs lo hi ∧ (t.2.den : Int) ∣ sbO bs lo hi := by
  have hl := ths_len (lo := lo) (hi := hi) l8
  obtain ⟨p1, p2, p3⟩ := lcmS (qs := (ths bs lo hi).map (·.1)) (fun q m => by obtain ⟨t, mt, rfl⟩ := List.mem_map.mp m; exact (h.sz t mt).1.2) (by rw [List.length_map]; exact hl)
  obtain ⟨s1, s2, s3⟩ := lcmS (qs := (ths bs lo hi).map (·.2)) (fun q m => by obtain ⟨t, mt, rfl⟩ := List.mem_map.mp m; exact (h.sz t mt).2.2) (by rw [List.length_map]; exact hl)
  exact ⟨p3 _ (List.mem_map.mpr ⟨t, m, rfl⟩), s3 _ (List.mem_map.mpr ⟨t, m, rfl⟩)⟩
section
variable {un be wt top bot : Int} {lo hi : Option Int} {js : List (Int × Int)}
def pW (un be wt : Int) (lo hi : Option Int) (js : List (Int × Int)) : Int := pbO (js.map (blO un be wt)) (wlO un lo) (wlO un hi)
def sW (un be wt : Int) (lo hi : Option Int) (js : List (Int × Int)) : Int := sbO (js.map (blO un be wt)) (wlO un lo) (wlO un hi)
theorem WoZ.pos (z : WoZ un be lo hi js wt) : 0 < pW un be wt lo hi js ∧ 0 < sW un be wt lo hi js := by
  have h := z.lnz.bd (by rw [List.length_map]; exact z.l8)
  exact ⟨h.pb.1, h.sb.1⟩
end
end KK
end
section
set_option maxHeartbeats 8000000
set_option Elab.async false
set_option linter.all false
set_option maxRecDepth 100000
namespace KK
open PySem L2 KM
theorem srtI_sc {c : Int} (hc : 0 < c) (l : List Int) : srtI (l.map (· * c)) = (srtI l).map (· * c) := by
  refine (srtI_eq ((srtI_perm l).map _) ?_).symm
  exact List.pairwise_map.mpr ((srtI_so l).imp fun h => Int.mul_le_mul_of_nonneg_right h (by omega))
theorem comes_sc {c T m : Int} (hc : 0 < c) (ps : List Int) : comesB (ps.map (· * c)) (T * c) m = comesB ps T m := by
  unfold comesB
  have e1 : (ps.map (· * c)).map (· * m) = (ps.map (· * m)).map (· * c) := by
    rw [List.map_map, List.map_map]; exact List.map_congr_left fun p _ => by show p * c * m = p * m * c; grind
  have e2 : (ps.map (· * c)).map (fun p => (p * m + T * c) % (T * c * m)) = (ps.map fun p => (p * m + T) % (T * m)).map (· * c) := by
    rw [List.map_map, List.map_map]
    refine List.map_congr_left fun p _ => ?_
    show (p * c * m + T * c) % (T * c * m) = (p * m + T) % (T * m) * c
    rw [show p * c * m + T * c = c * (p * m + T) by grind, show T * c * m = c * (T * m) by grind, Int.mul_emod_mul_of_pos _ _ hc, Int.mul_comm]
  rw [e1, e2, srtI_sc hc, srtI_sc hc]
  have inj : ∀ {a b : List Int}, a.map (· * c) = b.map (· * c) ↔ a = b := fun {a b} => ⟨fun h => map_inj hc h, fun h => by rw [h]⟩
  rw [decide_eq_decide]
  exact inj
where
  map_inj {c : Int} (hc : 0 < c) : ∀ {a b : List Int}, a.map (· * c) = b.map (· * c) → a = b
    | [], [], _ => rfl
    | [], _ :: _, h => by cases h
    | _ :: _, [], h => by cases h
    | x :: a, y :: b, h => by
      rw [List.map_cons, List.map_cons] at h
      injection h with h1 h2
      rw [(mul_eq hc).mp h1, map_inj hc h2]
theorem comes_two {c c' T T' m : Int} (hc : 0 < c) (hc' : 0 < c') {ps qs : List Int} (e : ps.map (· * c) = qs.map (· * c')) (eT : T * c = T' * c') : comesB ps T m = comesB qs T' m := by
  refine (comes_sc (m := m) (T := T) hc ps).symm.trans ?_
  rw [e, eT]
  exact comes_sc hc' qs
def scP (c d : Int) (e : Int × List Int) : Int × List Int := (e.1 * c, e.2.map (· * d))
theorem addP_sc {c d : Int} (hc : 0 < c) (ps : List (Int × List Int)) (k w : Int) : (addP ps k w).map (scP c d) = addP (ps.map (scP c d)) (k * c) (w * d) := by
  have ke : ∀ x : Int, x * c = k * c ↔ x = k := fun x => ⟨fun h => Int.eq_of_mul_eq_mul_right (by omega) h, fun h => by rw [h]⟩
  have ea : ((ps.map (scP c d)).any fun p => decide (p.1 = k * c)) = ps.any fun p => decide (p.1 = k) := by
    rw [List.any_map]
    congr 1
    funext p
    show decide (p.1 * c = k * c) = decide (p.1 = k)
    rw [decide_eq_decide]; exact ke p.1
  unfold addP
  rw [ea]
  split
  · rw [List.map_map, List.map_map]
    refine List.map_congr_left fun p _ => ?_
    show scP c d (if p.1 = k then (p.1, p.2 ++ [w]) else p) = if p.1 * c = k * c then ((scP c d p).1, (scP c d p).2 ++ [w * d]) else scP c d p
    by_cases q : p.1 = k
    · rw [if_pos q, if_pos ((ke _).mpr q)]
      show (p.1 * c, (p.2 ++ [w]).map (· * d)) = (p.1 * c, p.2.map (· * d) ++ [w * d])
      rw [List.map_append]; rfl
    · rw [if_neg q, if_neg (fun z => q ((ke _).mp z))]
  · rw [List.map_append]; rfl
theorem phStep_sc {c d l T : Int} (hc : 0 < c) (ps : List (Int × List Int)) (t : Int × Int) : (phStep l T ps t).map (scP c d) = phStep (l * d) (T * d) (ps.map (scP c d)) (t.1 * d, t.2 * c) := by
  have p0 : 0 < t.2 * c ↔ 0 < t.2 := by have := mul_lt (a := 0) (b := t.2) hc; rw [Int.zero_mul] at this; exact this
  have n0 : t.2 * c < 0 ↔ t.2 < 0 := by have := mul_lt (a := t.2) (b := 0) hc; rw [Int.zero_mul] at this; exact this
  unfold phStep
  dsimp only
  by_cases a : 0 < t.2
  · rw [if_pos a, if_pos (p0.mpr a), addP_sc hc, Int.sub_mul]
  · rw [if_neg a, if_neg (fun z => a (p0.mp z))]
    by_cases b : t.2 < 0
    · rw [if_pos b, if_pos (n0.mpr b), addP_sc hc, Int.sub_mul, Int.sub_mul, Int.neg_mul]
    · rw [if_neg b, if_neg (fun z => b (n0.mp z))]
theorem phO_sc {c d l T : Int} (hc : 0 < c) (ts : List (Int × Int)) : (phO l T ts).map (scP c d) = phO (l * d) (T * d) (ts.map fun t => (t.1 * d, t.2 * c)) := by
  unfold phO
  suffices h : ∀ (ts : List (Int × Int)) ps, (ts.foldl (phStep l T) ps).map (scP c d) = (ts.map fun t => (t.1 * d, t.2 * c)).foldl (phStep (l * d) (T * d)) (ps.map (scP c d)) from h ts []
  intro ts
  induction ts with
  | nil => intro ps; rfl
  | cons t ts ih => intro ps; rw [List.foldl_cons, ih, phStep_sc hc]; rfl
theorem mem_addP {ps : List (Int × List Int)} {k w : Int} {e : Int × List Int} (m : e ∈ addP ps k w) : e = (k, [w]) ∨ e ∈ ps ∨ ∃ o ∈ ps, o.1 = k ∧ e = (k, o.2 ++ [w]) := by
  unfold addP at m
  split at m
  · obtain ⟨o, mo, rfl⟩ := List.mem_map.mp m
    by_cases q : o.1 = k
    · rw [if_pos q]; exact .inr (.inr ⟨o, mo, q, by rw [q]⟩)
    · rw [if_neg q]; exact .inr (.inl mo)
  · rcases List.mem_append.mp m with m | m
    · exact .inr (.inl m)
    · exact .inl (List.mem_singleton.mp m)
theorem addP_len (ps : List (Int × List Int)) (k w : Int) : (addP ps k w).length ≤ ps.length + 1 := by
  unfold addP
  split
  · rw [List.length_map]; omega
  · rw [List.length_append]; simp
theorem addP_ne (ps : List (Int × List Int)) (k w : Int) : addP ps k w ≠ [] := by
  unfold addP
  split
  · rename_i h
    intro z
    rw [List.map_eq_nil_iff.mp z] at h; cases h
  · simp
theorem addP_nd {ps : List (Int × List Int)} {k w : Int} (h : (ps.map Prod.fst).Nodup) : ((addP ps k w).map Prod.fst).Nodup := by
  unfold addP
  split
  · rw [List.map_map]
    have : (ps.map (Prod.fst ∘ fun p : Int × List Int => if p.1 = k then (p.1, p.2 ++ [w]) else p)) = ps.map Prod.fst := List.map_congr_left fun p _ => by
      show (if p.1 = k then (p.1, p.2 ++ [w]) else p).1 = p.1
      split <;> rfl
    rw [this]; exact h
  · rename_i hn
    rw [List.map_append]
    refine List.nodup_append.mpr ⟨h, by simp, fun b hb c hc => ?_⟩
    obtain ⟨e, m, rfl⟩ := List.mem_map.mp hb
    simp at hc; subst hc
    exact fun z => hn (List.any_eq_true.mpr ⟨e, m, decide_eq_true z⟩)
structure PhJ (l T : Int) (js : List (Int × Int)) (ps : List (Int × List Int)) : Prop where
  nd : (ps.map Prod.fst).Nodup
  k0 : ∀ e ∈ ps, 0 < e.1
  l1 : ∀ e ∈ ps, 1 ≤ e.2.length
  ll : ∀ e ∈ ps, e.2.length ≤ js.length
  pl : ps.length ≤ js.length
  of : ∀ e ∈ ps, ∃ u ∈ js, u.2 = e.1 ∨ u.2 = -e.1
  inn : ∀ e ∈ ps, ∀ q ∈ e.2, 0 ≤ q ∧ q < T
  mv : ps = [] ↔ ∀ u ∈ js, u.2 = 0
theorem PhJ.add {l T : Int} {js : List (Int × Int)} {ps : List (Int × List Int)} (h : PhJ l T js ps) {u : Int × Int} {k w : Int} (hk : 0 < k) (hu : u.2 = k ∨ u.2 = -k) (hw : 0 ≤ w ∧ w < T) : PhJ l T (js ++ [u]) (addP ps k w) := by
  have hl : (js ++ [u]).length = js.length + 1 := by simp
  refine ⟨addP_nd h.nd, fun e m => ?_, fun e m => ?_, fun e m => ?_, by have := addP_len ps k w; have := h.pl; omega, fun e m => ?_, fun e m => ?_, ?_⟩
  · rcases mem_addP m with rfl | m | ⟨o, mo, q, rfl⟩
    · exact hk
    · exact h.k0 e m
    · exact hk
  · rcases mem_addP m with rfl | m | ⟨o, mo, q, rfl⟩
    · simp
    · exact h.l1 e m
    · simp
  · rcases mem_addP m with rfl | m | ⟨o, mo, q, rfl⟩
    · simp
    · have := h.ll e m; omega
    · have := h.ll o mo; simp; omega
  · rcases mem_addP m with rfl | m | ⟨o, mo, q, rfl⟩
    · exact ⟨u, by simp, hu⟩
    · obtain ⟨v, mv, q⟩ := h.of e m; exact ⟨v, by simp [mv], q⟩
    · exact ⟨u, by simp, hu⟩
  · rcases mem_addP m with rfl | m | ⟨o, mo, q, rfl⟩
    · intro q mq; cases List.mem_singleton.mp mq; exact hw
    · exact h.inn e m
    · intro x mx
      rcases List.mem_append.mp mx with mx | mx
      · exact h.inn o mo x mx
      · cases List.mem_singleton.mp mx; exact hw
  · constructor
    · intro z; exact absurd z (addP_ne ps k w)
    · intro z
      have := z u (by simp)
      omega
theorem ph_inv {l T : Int} {js : List (Int × Int)} (hj : ∀ u ∈ js, (0 < u.2 → 0 ≤ u.1 - l ∧ u.1 - l < T) ∧ (u.2 < 0 → 0 ≤ T - (u.1 - l) ∧ T - (u.1 - l) < T)) : PhJ l T js (phO l T js) := by
  unfold phO
  suffices h : ∀ (ts ds : List (Int × Int)) ps, (∀ u ∈ ts, u ∈ js) → PhJ l T ds ps → PhJ l T (ds ++ ts) (ts.foldl (phStep l T) ps) from
    h js [] [] (fun u m => m) ⟨by simp, fun e m => (by cases m), fun e m => (by cases m), fun e m => (by cases m), by simp, fun e m => (by cases m), fun e m => (by cases m), by simp⟩
  intro ts
  induction ts with
  | nil => intro ds ps _ h; rw [List.append_nil]; exact h
  | cons t ts ih =>
    intro ds ps hm h
    rw [List.foldl_cons, show ds ++ t :: ts = (ds ++ [t]) ++ ts by simp]
    refine ih _ _ (fun u m => hm u (by simp [m])) ?_
    obtain ⟨h1, h2⟩ := hj t (hm t (by simp))
    unfold phStep
    by_cases a : 0 < t.2
    · rw [if_pos a]; exact h.add a (.inl rfl) (h1 a)
    · rw [if_neg a]
      by_cases b : t.2 < 0
      · rw [if_pos b]; exact h.add (by omega) (.inr (by omega)) (h2 b)
      · rw [if_neg b]
        have hl : (ds ++ [t]).length = ds.length + 1 := by simp
        refine ⟨h.nd, h.k0, h.l1, fun e m => by have := h.ll e m; omega, by have := h.pl; omega, fun e m => let ⟨v, mv, q⟩ := h.of e m; ⟨v, by simp [mv], q⟩, h.inn, ?_⟩
        rw [h.mv]
        constructor
        · intro z u m
          rcases List.mem_append.mp m with m | m
          · exact z u m
          · cases List.mem_singleton.mp m; omega
        · intro z u m; exact z u (by simp [m])
end KK
end
section
set_option maxHeartbeats 8000000
set_option Elab.async false
set_option linter.all false
set_option maxRecDepth 100000
namespace KK
open PySem L2 KM
structure RoWG (un be wt l far : Int) (js : List (Int × Int)) (T s : Int) (tk : Rat) (pss : List (Int × List Int)) : Prop where
  d : RoG (js.map (blO un be wt)) (Rat.divInt l un, 0) (Rat.divInt (l + far) un, 0) T s tk pss
  nil : pss = [] ↔ phO l (2 * far) js = []
  kg : ∀ kgs, KgZ T pss kgs → ∃ kgw, KgZ (2 * far) (phO l (2 * far) js) kgw ∧ kgw.length = kgs.length ∧
    ∀ (i : Nat) (u : Int × Int), kgs[i]? = some u → ∃ v, kgw[i]? = some v ∧ v.2 = u.2 ∧ Rat.divInt u.1 s = Rat.divInt v.1 be ∧ part1 T u.1 u.2 tk = Rat.divInt (2 * far * be) (un * v.1 * v.2)
theorem num_pos' {a b : Int} (ha : 0 < a) (hb : 0 < b) : 0 < (Rat.divInt a b).num := by
  have h := div_cross (t := a) (b := b) (by omega)
  have d := (Rat.divInt a b).den_pos
  have : 0 < a * ((Rat.divInt a b).den : Int) := Int.mul_pos ha (by omega)
  rw [← h] at this
  rcases Int.lt_or_le 0 (Rat.divInt a b).num with c | c
  · exact c
  · have := Int.mul_nonpos_of_nonpos_of_nonneg c (show 0 ≤ b by omega); omega
theorem GmZ.two {c c' T T' : Int} (hc : 0 < c) (hc' : 0 < c') {ps qs : List Int} {M : Nat} (h : GmZ T ps M) (e : ps.map (· * c) = qs.map (· * c')) (eT : T * c = T' * c') : GmZ T' qs M := by
  have l : ps.length = qs.length := by have := congrArg List.length e; rw [List.length_map, List.length_map] at this; exact this
  have cm : ∀ m, comesB ps T m = comesB qs T' m := fun m => comes_two hc hc' e eT
  exact ⟨h.m1, by rw [← l]; exact h.m2, by rw [← cm]; exact h.m3, fun m a b q => h.m4 m a (by rw [l]; exact b) (by rw [cm]; exact q)⟩
theorem WoZ.phj {un be wt l far : Int} {js : List (Int × Int)} (z : WoZ un be (some l) (some (l + far)) js wt) : PhJ l (2 * far) js (phO l (2 * far) js) :=
  ph_inv fun u m => by
    have a1 := z.il u m l rfl
    have a2 := z.ih u m (l + far) rfl
    have hf := z.lh _ _ rfl rfl
    exact ⟨fun h => ⟨by omega, by omega⟩, fun h => ⟨by omega, by omega⟩⟩
section
variable {un be wt l far : Int} {js : List (Int × Int)}
theorem ro_worldG (z : WoZ un be (some l) (some (l + far)) js wt) : ∃ T s tk pss, RoWG un be wt l far js T s tk pss := by
  have hu : 0 < un := z.un.1
  have he : 0 < be := z.be.1
  have hf : 0 < far := by have := z.lh _ _ rfl rfl; omega
  obtain ⟨hp, hs⟩ := z.pos
  have l8 : (js.map (blO un be wt)).length ≤ 8 := by rw [List.length_map]; exact z.l8
  have Z := z.lnz.bd l8
  have pj := z.phj
  have tr : ∀ u ∈ js, (trB (pW un be wt (some l) (some (l + far)) js) (sW un be wt (some l) (some (l + far)) js) ((blO un be wt u).pl, (blO un be wt u).sp)).1 * un = u.1 * pW un be wt (some l) (some (l + far)) js ∧ (trB (pW un be wt (some l) (some (l + far)) js) (sW un be wt (some l) (some (l + far)) js) ((blO un be wt u).pl, (blO un be wt u).sp)).2 * be = u.2 * sW un be wt (some l) (some (l + far)) js := fun u m => by
    have mb := pb_dvd z.lnz l8 (ths_b (lo := wlO un (some l)) (hi := wlO un (some (l + far))) (List.mem_map.mpr ⟨u, m, rfl⟩))
    exact ⟨byB_div (by omega) mb.1, byB_div (by omega) mb.2⟩
  have elo : (trB (pW un be wt (some l) (some (l + far)) js) (sW un be wt (some l) (some (l + far)) js) (Rat.divInt l un, 0)).1 * un = l * pW un be wt (some l) (some (l + far)) js := byB_div (by omega) (pb_dvd z.lnz l8 (t := (Rat.divInt l un, 0)) (ths_lo rfl)).1
  have ehi : (trB (pW un be wt (some l) (some (l + far)) js) (sW un be wt (some l) (some (l + far)) js) (Rat.divInt (l + far) un, 0)).1 * un = (l + far) * pW un be wt (some l) (some (l + far)) js := byB_div (by omega) (pb_dvd z.lnz l8 (t := (Rat.divInt (l + far) un, 0)) (ths_hi rfl)).1
  have wl : Wb (some (trB (pW un be wt (some l) (some (l + far)) js) (sW un be wt (some l) (some (l + far)) js) (Rat.divInt l un, 0))) := Z.bl
  have wh : Wb (some (trB (pW un be wt (some l) (some (l + far)) js) (sW un be wt (some l) (some (l + far)) js) (Rat.divInt (l + far) un, 0))) := Z.bh
  have hlh : (trB (pW un be wt (some l) (some (l + far)) js) (sW un be wt (some l) (some (l + far)) js) (Rat.divInt l un, 0)).1 < (trB (pW un be wt (some l) (some (l + far)) js) (sW un be wt (some l) (some (l + far)) js) (Rat.divInt (l + far) un, 0)).1 := Z.lh _ _ rfl rfl
  have bT := trip_ok wl wh (fun a b e1 e2 => by cases e1; cases e2; exact hlh) _ rfl
  have btr : ∀ u ∈ js, Bd 2000 (trB (pW un be wt (some l) (some (l + far)) js) (sW un be wt (some l) (some (l + far)) js) ((blO un be wt u).pl, (blO un be wt u).sp)).2 := fun u m => (Z.tr _ (List.mem_map.mpr ⟨u, m, rfl⟩)).2
  have ep : pbO (js.map (blO un be wt)) (some (Rat.divInt l un, 0)) (some (Rat.divInt (l + far) un, 0)) = pW un be wt (some l) (some (l + far)) js := rfl
  have es : sbO (js.map (blO un be wt)) (some (Rat.divInt l un, 0)) (some (Rat.divInt (l + far) un, 0)) = sW un be wt (some l) (some (l + far)) js := rfl
  generalize hpp : pW un be wt (some l) (some (l + far)) js = p at *
  generalize hss : sW un be wt (some l) (some (l + far)) js = s at *
  obtain ⟨L0, hL0⟩ : ∃ L0, L0 = (trB p s (Rat.divInt l un, 0)).1 := ⟨_, rfl⟩
  obtain ⟨H0, hH0⟩ : ∃ H0, H0 = (trB p s (Rat.divInt (l + far) un, 0)).1 := ⟨_, rfl⟩
  rw [← hL0] at elo hlh
  rw [← hH0] at ehi hlh
  have eT : 2 * (H0 - L0) * un = 2 * far * p := by grind
  have bT' : Bd 3000 (2 * (H0 - L0)) := by rw [hH0, hL0]; exact bT.2
  have T0 : 0 < 2 * (H0 - L0) := by omega
  obtain ⟨tk, htk⟩ : ∃ tk, tk = Rat.divInt s p := ⟨_, rfl⟩
  obtain ⟨pss, hpss⟩ : ∃ pss, pss = phO L0 (2 * (H0 - L0)) (js.map fun u => trB p s ((blO un be wt u).pl, (blO un be wt u).sp)) := ⟨_, rfl⟩
  have link : pss.map (scP be un) = (phO l (2 * far) js).map (scP s p) := by
    rw [hpss, phO_sc he, phO_sc hs, elo, eT, List.map_map]
    congr 1
    exact List.map_congr_left fun u m => by
      obtain ⟨a, b⟩ := tr u m
      show ((trB p s _).1 * un, (trB p s _).2 * be) = _
      rw [a, b]
  generalize hpw : phO l (2 * far) js = pws at *
  have lkm : ∀ e ∈ pss, ∃ e' ∈ pws, e.1 * be = e'.1 * s ∧ e.2.map (· * un) = e'.2.map (· * p) := fun e m => by
    have : scP be un e ∈ pws.map (scP s p) := by rw [← link]; exact List.mem_map.mpr ⟨e, m, rfl⟩
    obtain ⟨e', m', q⟩ := List.mem_map.mp this
    unfold scP at q
    injection q with q1 q2
    exact ⟨e', m', q1.symm, q2.symm⟩
  have lll : pss.length = pws.length := by have := congrArg List.length link; rw [List.length_map, List.length_map] at this; exact this
  have len2 : ∀ {a b : List Int}, a.map (· * un) = b.map (· * p) → a.length = b.length := fun {a b} h => by have := congrArg List.length h; rw [List.length_map, List.length_map] at this; exact this
  have pos2 : ∀ {a b : Int}, a * be = b * s → 0 < b → 0 < a := fun {a b} h hb => by
    have := Int.mul_pos hb hs
    rw [← h] at this
    rcases Int.lt_or_le 0 a with c | c
    · exact c
    · have := Int.mul_nonpos_of_nonpos_of_nonneg c (show 0 ≤ be by omega); omega
  have ptE : ∀ (pc pace g : Int), pc * be = pace * s → 0 < pace → 0 < g → part1 (2 * (H0 - L0)) pc g tk = Rat.divInt (2 * far * be) (un * pace * g) := fun pc pace g hpc hp0 g0 => by
    have pc0 := pos2 hpc hp0
    unfold part1
    have dt : 0 < (tk.den : Int) := den_pos tk
    have cr : tk.num * p = s * (tk.den : Int) := by rw [htk]; exact div_cross (by omega)
    have n1 : g * pc * (tk.den : Int) ≠ 0 := Int.ne_of_gt (Int.mul_pos (Int.mul_pos g0 pc0) dt)
    have n2 : un * pace * g ≠ 0 := Int.ne_of_gt (Int.mul_pos (Int.mul_pos hu hp0) g0)
    rw [Rat.divInt_eq_divInt_iff n1 n2]
    have e1 : 2 * (H0 - L0) * tk.num * (un * pace * g) = (2 * (H0 - L0) * un) * (tk.num * pace * g) := by grind
    have e2 : 2 * far * be * (g * pc * tk.den) = 2 * far * g * (tk.den : Int) * (pc * be) := by grind
    rw [e1, eT, e2, hpc, show 2 * far * p * (tk.num * pace * g) = 2 * far * pace * g * (tk.num * p) by grind, cr]
    grind
  have b70 : ∀ e ∈ pws, Bd 70 e.1 := fun e m => by
    obtain ⟨u, mu, q⟩ := pj.of e m
    have := (z.bd u mu).2
    rcases q with q | q
    · rw [← q]; exact this
    · rw [show e.1 = -u.2 by omega]; exact this.neg
  refine ⟨2 * (H0 - L0), s, tk, pss, ⟨?_, ?_, ?_, ?_, ?_, ?_, ?_, ?_, ?_, ?_⟩, ?_, ?_⟩
  · rw [es]
  · rw [es, ep]; exact htk
  · rw [es, ep, hH0, hL0]
  · rw [es, ep, List.map_map, ← hL0, hpss]; rfl
  · have := pj.pl; have := z.l8; omega
  · intro e m
    obtain ⟨e', m', q1, q2⟩ := lkm e m
    refine ⟨T0, bT', by have := pj.ll e' m'; have := z.l8; have := len2 q2; omega, fun q mq => ?_⟩
    have : q * un ∈ e'.2.map (· * p) := by rw [← q2]; exact List.mem_map.mpr ⟨q, mq, rfl⟩
    obtain ⟨q', mq', e1⟩ := List.mem_map.mp this
    have e1 : q * un = q' * p := e1.symm
    obtain ⟨a1, a2⟩ := pj.inn e' m' q' mq'
    refine ⟨?_, ?_⟩
    · have k0 := mul_lt (a := q) (b := 0) hu
      have k1 := Int.mul_nonneg a1 (show 0 ≤ p by omega)
      rw [e1, Int.zero_mul] at k0
      omega
    · rw [← mul_lt hu, e1, eT, mul_lt hp]; exact a2
  · intro e m
    obtain ⟨e', m', q1, q2⟩ := lkm e m
    rw [len2 q2]; exact pj.l1 e' m'
  · intro e m
    obtain ⟨e', m', q1, q2⟩ := lkm e m
    exact pos2 q1 (pj.k0 e' m')
  · intro e m
    obtain ⟨e', m', q1, q2⟩ := lkm e m
    obtain ⟨u, mu, q⟩ := pj.of e' m'
    have h := (tr u mu).2
    have b := (btr u mu).mono (m := 2000) (n := 3000) (by decide)
    rcases q with q | q
    · have : (trB p s ((blO un be wt u).pl, (blO un be wt u).sp)).2 = e.1 := Int.eq_of_mul_eq_mul_right (show be ≠ 0 by omega) (by rw [h, q, q1])
      rw [← this]; exact b
    · have : (trB p s ((blO un be wt u).pl, (blO un be wt u).sp)).2 = -e.1 := Int.eq_of_mul_eq_mul_right (show be ≠ 0 by omega) (by rw [h, q, Int.neg_mul, Int.neg_mul, q1])
      rw [show e.1 = - -e.1 by omega, ← this]; exact b.neg
  · intro e m g g1 g2
    obtain ⟨e', m', q1, q2⟩ := lkm e m
    have g0 : 0 < (g : Int) := by omega
    have p0 := pj.k0 e' m'
    rw [ptE e.1 e'.1 g q1 p0 g0]
    have b12 : ∀ x : Int, 1 ≤ x ∧ x ≤ 12 → Bd 4 x := fun x h => (show x.natAbs < 2 ^ 4 by omega)
    have bfar : Bd 74 far := by
      have h1 := z.bl l rfl
      have h2 := z.bh (l + far) rfl
      have := h2.sub h1
      rw [show l + far - l = far by omega] at this
      exact this.mono (by decide)
    have gl : g ≤ 8 := by have := pj.ll e' m'; have := z.l8; have := len2 q2; omega
    have bA : Bd 400 (2 * far * be) := (((show Bd 3 (2 : Int) from (show (2 : Int).natAbs < 2 ^ 3 by decide)).mul bfar).mul (b12 _ z.be)).mono (by decide)
    have bB : Bd 400 (un * e'.1 * (g : Int)) := (((b12 _ z.un).mul (b70 e' m')).mul (show Bd 5 (g : Int) from (show (g : Int).natAbs < 2 ^ 5 by omega))).mono (by decide)
    have pB : 0 < un * e'.1 * (g : Int) := Int.mul_pos (Int.mul_pos hu p0) g0
    have sz : Sz 400 (Rat.divInt (2 * far * be) (un * e'.1 * (g : Int))) := .divInt (by omega) bA bB
    exact ⟨num_pos' (Int.mul_pos (by omega) he) pB, sz.1, sz.2⟩
  · rw [hpw]
    constructor
    · intro h; rw [h] at lll; exact List.length_eq_zero_iff.mp lll.symm
    · intro h; rw [h] at lll; exact List.length_eq_zero_iff.mp lll
  · intro kgs kz
    rw [hpw]
    have back : ∀ u ∈ kgs, ∃ e' ∈ pws, ∃ M : Nat, u.1 * be / s = e'.1 ∧ u.1 * be = e'.1 * s ∧ u.2 = (M : Int) ∧ 1 ≤ M ∧ GmZ (2 * far) e'.2 M := fun u m => by
      obtain ⟨ps, M, q1, q2, q3⟩ := kz.gm u m
      obtain ⟨e', m', r1, r2⟩ := lkm _ q1
      dsimp only at r1 r2
      exact ⟨e', m', M, by rw [r1]; exact Int.mul_ediv_cancel _ (by omega), r1, q2, q3.m1, q3.two hu hp r2 eT⟩
    refine ⟨kgs.map fun u => (u.1 * be / s, u.2), ⟨?_, ?_, ?_⟩, List.length_map .., fun i u hi => ?_⟩
    · have h1 : (kgs.map fun u => (u.1 * be / s, u.2)).map Prod.fst = (kgs.map Prod.fst).map fun k => k * be / s := by rw [List.map_map, List.map_map]; rfl
      have h2 : pws.map Prod.fst = (pss.map Prod.fst).map fun k => k * be / s := by
        have := congrArg (List.map fun e : Int × List Int => e.1 / s) link
        rw [List.map_map, List.map_map] at this
        rw [List.map_map]
        refine Eq.trans ?_ this.symm
        exact List.map_congr_left fun e _ => (Int.mul_ediv_cancel e.1 (show s ≠ 0 by omega)).symm
      rw [h1, h2]
      exact kz.pm.map _
    · rw [List.map_map]
      refine List.pairwise_map.mpr ((List.pairwise_map.mp kz.so).imp fun {a b} h => ?_)
      show a.1 * be / s ≤ b.1 * be / s
      exact Int.ediv_le_ediv hs (Int.mul_le_mul_of_nonneg_right h (by omega))
    · intro v m
      obtain ⟨u, mu, rfl⟩ := List.mem_map.mp m
      obtain ⟨e', m', M, r1, r2, r3, _, r4⟩ := back u mu
      exact ⟨e'.2, M, by show (u.1 * be / s, e'.2) ∈ pws; rw [r1]; exact m', r3, r4⟩
    · refine ⟨(u.1 * be / s, u.2), by rw [List.getElem?_map, hi]; rfl, rfl, ?_, ?_⟩
      all_goals obtain ⟨e', m', M, r1, r2, r3, r5, r4⟩ := back u (List.mem_of_getElem? hi)
      all_goals dsimp only
      all_goals rw [r1]
      · rw [Rat.divInt_eq_divInt_iff (by omega) (by omega), r2]
      · exact ptE u.1 e'.1 u.2 r2 (pj.k0 e' m') (by omega)
end
end KK
end
section
set_option maxHeartbeats 8000000
set_option Elab.async false
set_option linter.all false
set_option maxRecDepth 100000
namespace KK
open PySem L2 KM
def ptW (un be far : Int) (kgs : List (Int × Int)) : List Rat := kgs.map fun v => Rat.divInt (2 * far * be) (un * v.1 * v.2)
theorem PcA.tups {G G' : Hp} {us : List V} {s : Int} {kgs : List (Int × Int)} (h : PcA G us s kgs) (e : TupS G G') : PcA G' us s kgs := ⟨h.1, fun i v q => let ⟨u, x, y, q1, q2, q3, q4⟩ := h.2 i v q; ⟨u, x, y, q1, q2, e _ _ q3, e _ _ q4⟩⟩
structure RoT (G : Hp) (z q l : Addr) (us : List V) (un be far : Int) (kgs : List (Int × Int)) : Prop where
  z : G z = some (.tup [.ref q, .ref l])
  q : RatAt G q (leastQ (ptW un be far kgs))
  l : G l = some (.lst us)
  pc : PcA G us be kgs
theorem RoT.same {G G' : Hp} {z q l : Addr} {us : List V} {un be far : Int} {kgs : List (Int × Int)} (h : RoT G z q l us un be far kgs) (s : Same G G') : RoT G' z q l us un be far kgs := ⟨s _ _ h.z, s _ _ h.q, s _ _ h.l, h.pc.same s⟩
theorem ne_same {H : Hp} {x y : V} {d : PyData} {Q : VK} (h1 : RdD H x d) (h2 : RdD H y d) (s : SeqAt.shaped d = true) (q : Q (.bl false) H) : rNeD x y H Q :=
  ⟨_, _, h1, h2, s, s, by rw [SeqAt.eqv_refl _ (by have : (_ && decide (_ ≤ 64)) = true := s; exact (Bool.and_eq_true_iff.mp this).1)]; exact q⟩
theorem ro_sp {G : Hp} {r ab : Addr} {un be l far wt : Int} {js : List (Int × Int)} {Q : VK} {E : XK} (ln : Ln G r ab (js.map (blO un be wt)) (some (Rat.divInt l un, 0)) (some (Rat.divInt (l + far) un, 0))) (z : WoZ un be (some l) (some (l + far)) js wt)
    (k0 : phO l (2 * far) js = [] → ∀ G', Same G G' → Q .non G')
    (k1 : phO l (2 * far) js ≠ [] → ∀ zz q l' us kgs G', Same G G' → KgZ (2 * far) (phO l (2 * far) js) kgs → RoT G' zz q l' us un be far kgs → G l' = none → Q (.ref zz) G') :
    spRoG [.ref r, .ref ab] G Q E := by
  obtain ⟨T, s, tk, pss, R⟩ := ro_worldG z
  have l1 := z.l1
  obtain ⟨b0, hb0⟩ : ∃ b0, (js.map (blO un be wt))[0]? = some b0 := ⟨_, List.getElem?_eq_getElem (by rw [List.length_map]; omega)⟩
  refine ⟨r, ab, _, b0, _, _, T, s, tk, pss, rfl, ln, z.lnz, hb0, plB_true (lo := some l) (hi := some (l + far)) hb0, R.d, fun e => k0 (R.nil.mp e), fun ne zz G' kgs q l' us S hk hz hq hl hl' hp => ?_⟩
  obtain ⟨kgw, w1, w2, w3⟩ := R.kg kgs hk
  refine k1 (fun e => ne (R.nil.mpr e)) zz q l' us kgw G' S w1 ⟨hz, ?_, hl', by rw [hp.1, w2], fun i v e => ?_⟩ hl
  · have : ptL T tk kgs = ptW un be far kgw := by
      refine List.ext_getElem? fun i => ?_
      unfold ptL ptW
      rw [List.getElem?_map, List.getElem?_map]
      cases e : kgs[i]? with
      | none => rw [List.getElem?_eq_none (by rw [w2]; exact List.getElem?_eq_none_iff.mp e)]; rfl
      | some u => obtain ⟨v, e1, _, _, e4⟩ := w3 i u e; rw [e1]; exact congrArg some e4
    rw [← this]; exact hq
  · obtain ⟨u, x, y, e1, e2, e3, e4⟩ := hp.2 i v e
    obtain ⟨v', f1, f2, f3, _⟩ := w3 i u e1
    exact ⟨v', x, y, f1, e2, by rw [f2]; exact e3, by rw [← f3]; exact e4⟩
theorem comp_byZ {J : It} {D : Addr} {N n : Nat} {g : TG} {tt : TT} {te : TE} {Z : Hp → Prop} {H : Hp} (Pv : Nat → Hp → List V → Prop) (h0 : Pv 0 (upd H D (.lst [])) []) (hgo : ∀ i H ys, i < N → Pv i H ys → J.go i H) (hst : ∀ H ys, Pv N H ys → J.stop N H)
    (hs : ∀ i x zs H2 H3 ys (Nx : Hp → List V → Prop), (∀ H ys, Pv (i + 1) H ys → Nx H ys) → i < N → zs.length = n → J.yld i H2 x H3 → Pv i H2 ys → H2 D = some (.lst ys) → g x zs H3 fun σ4 H4 => tt σ4 H4 fun b H5 =>
      if b = true then te σ4 H5 (fun v H6 => H6 D = some (.lst ys) ∧ ys.length < sizeLine ∧ Nx (upd H6 D (.lst (ys ++ [v]))) (ys ++ [v])) else H5 D = some (.lst ys) ∧ Nx H5 ys)
    (hd : ∀ H ys, Pv N H ys → H D = some (.lst ys) → Z H) :
    ∃ W : Nat → Nat → Hp → List V → Prop, (∃ m, W 0 m (upd H D (.lst [])) []) ∧ ∀ i m H2 ys, W i m H2 ys → H2 D = some (.lst ys) → (J.stop i H2 ∧ Z H2) ∨
      (J.go i H2 ∧ ∀ σB x H3, σB.length = n → J.yld i H2 x H3 → g x σB H3 fun σ4 H4 => tt σ4 H4 fun b H5 => if b = true then te σ4 H5 (fun v H6 => H6 D = some (.lst ys) ∧ ys.length < sizeLine ∧ ∃ m', m' < m ∧ W (i + 1) m' (upd H6 D (.lst (ys ++ [v]))) (ys ++ [v]))
        else H5 D = some (.lst ys) ∧ ∃ m', m' < m ∧ W (i + 1) m' H5 ys) := comp_by (Q := fun _ H => Z H) Pv h0 hgo hst hs hd
section
variable {P : Program} {w : World} {K : PySem.W.Frag} {mg : Str → Option Value} {base : Heap} {C CE : Addr} {aN : Addr}
def mvB (js : List (Int × Int)) : Bool := !(js.filter fun u => decide (u.2 ≠ 0)).isEmpty
theorem mvB_iff (js : List (Int × Int)) : mvB js = false ↔ ∀ u ∈ js, u.2 = 0 := by
  unfold mvB
  rw [Bool.not_eq_false', List.isEmpty_iff, List.filter_eq_nil_iff]
  simp
theorem ne_nilD (ds : List PyData) : (!PyData.eqv (.list ds) (.list [])) = !ds.isEmpty := by cases ds <;> rfl
def spMv : Sp := fun vs H Q _ => ∃ t D un be lo hi js wt, vs = [.ref t] ∧ WoAt H t D un be lo hi js wt ∧ js.length ≤ 8 ∧ ∀ H', Same H H' → Q (.bl (mvB js)) H'
theorem sc_lmv : FnScope ["world"] ["world"] (defScope s_law_moves) := ⟨rfl, rfl, rfl, by decide +kernel, rfl, by decide +kernel, by decide +kernel⟩
theorem ok_lmv (D : Df K mg "_law_moves" s_law_moves ["world"] []) : Cal P w K mg base "_law_moves" 1 ["world"] [] spMv := by
  refine D.cal (k := 0) sc_lmv (fun vs H Q E h => by obtain ⟨_, _, _, _, _, _, _, _, rfl, _⟩ := h; rfl) (fun f cdv A outer s H vs Q E hr h => ?_)
  obtain ⟨t, D, un, be, lo, hi, js, wt, rfl, wo, l8, k⟩ := h
  have hu := hr.units
  obtain ⟨ys, hD, hP⟩ := wo.lst
  have hl := hP.1
  refine ⟨_, (pss_one (ps_ret (pe_cmpR (op_neD hu) (pe_comp (NB := ["place", "speed"]) rfl (by decide +kernel) (by decide +kernel) rfl (by decide +kernel) (pi_list (pe_ix ix_tup (pv 0) pe_int (fun _ _ => rfl))) (by intro _ _ _; refine ⟨?_, ?_, ?_⟩; (exact (pg_tupK (K := K) (n := 2) rfl rfl (pgs_cons (pg_name (i := 0) (show List.Nodup (["place", "speed"] : List Str) by decide +kernel) rfl (Or.inl rfl)) (pgs_cons (pg_name (i := 1) (show List.Nodup (["place", "speed"] : List Str) by decide +kernel) rfl (Or.inl rfl)) pgs_nil)))); (exact (pts_one (pt_cmpR op_ne (pv 1) pe_int (nomark _)))); (exact (pv 1)))) (pe_lst pa_nil) (nomark _)))), ?_⟩
  refine ⟨_, rfl, t, _, _, _, rfl, rfl, .of wo.tup, rfl, D, rfl, ⟨_, SqL.of hD⟩, fun Dc hDc => ?_⟩
  refine comp_byZ (J := Itl K D) (g := gTup K 2 (gCons (gName 0) (gCons (gName 1) gNil))) (tt := tTest (tOp rNe (tVar 1) (tC (.int 0)))) (te := tVar 1) (N := ys.length) (n := 2) (fun i G us => Same H G ∧ us = (((js.take i).filter fun u => decide (u.2 ≠ 0)).map fun u => u.2).map V.int) ⟨Same.upd hDc, rfl⟩ (fun i G us hi ⟨s2, _⟩ => ⟨_, ys[i], SqL.of (s2 _ _ hD), List.getElem?_eq_getElem hi⟩) (fun G us ⟨s2, _⟩ => ⟨_, SqL.of (s2 _ _ hD), Nat.le_refl _⟩) ?_ ?_
  · rintro i x zs G G' us Nx hN hi hz ⟨rfl, fx⟩ ⟨s2, rfl⟩ hGD
    obtain ⟨w1, w2, rfl⟩ := len2 hz
    have ex := fx _ (SqL.of (s2 _ _ hD))
    obtain ⟨u, a, eu, rfl, ha⟩ := hP.2 i x ex
    have ha' := s2 _ _ ha
    refine ⟨a, _, rfl, .of ha', rfl, _, _, rfl, _, _, rfl, rfl, ?_⟩
    have et : js.take (i + 1) = js.take i ++ [u] := by rw [List.take_add_one, eu]; rfl
    refine ⟨_, rfl, rfl, _, rfl, ite2 (fun h => ?_) (fun h => ?_)⟩
    · have h0 : u.2 ≠ 0 := fun e => by rw [e] at h; exact absurd h (by decide)
      refine ⟨_, rfl, hGD, small20 ?_, hN _ _ ⟨fun c o e => by rw [upd_ne (ne_of_none e hDc)]; exact s2 _ _ e, ?_⟩⟩
      · rw [List.length_map, List.length_map]
        have := List.length_filter_le (fun u : Int × Int => decide (u.2 ≠ 0)) (js.take i)
        have := List.length_take_le i js
        omega
      · rw [et, List.filter_append, List.map_append, List.map_append]
        congr 1
        rw [List.filter_cons, if_pos (decide_eq_true h0)]; rfl
    · have h0 : u.2 = 0 := by
        rcases Int.decEq u.2 0 with c | c
        · exfalso; apply h; show (!decide (V.int u.2 = V.int 0)) = true; rw [decide_eq_false (fun e => c (V.int.inj e))]; rfl
        · exact c
      refine ⟨hGD, hN _ _ ⟨s2, ?_⟩⟩
      rw [et, List.filter_append, List.map_append, List.map_append, List.filter_cons, if_neg (by rw [h0]; decide)]
      simp
  rintro G us ⟨s2, rfl⟩ hG
  rw [hl, List.take_length] at hG
  refine ⟨by show 0 ≤ sizeLine; decide, fun e he => ?_⟩
  have s3 := Same.upd (o := .lst []) he
  refine ⟨_, _, .lst (s3 _ _ hG) (rds_ints _), .lst upd_same .nil, shpL _, rfl, ?_⟩
  have : (!PyData.eqv (.list ((((js.filter fun u => decide (u.2 ≠ 0)).map fun u => u.2)).map PyData.int)) (.list [])) = mvB js := by
    rw [ne_nilD, List.isEmpty_map, List.isEmpty_map]; rfl
  rw [this]
  exact k _ (s2.trans s3)
end
end KK
end
section
set_option maxHeartbeats 8000000
set_option Elab.async false
set_option linter.all false
set_option maxRecDepth 100000
namespace KK
open PySem L2 KM
section
variable {P : Program} {w : World} {K : PySem.W.Frag} {mg : Str → Option Value} {base : Heap} {C CE C0 : Addr} {aN : Addr}
def noB (b0 : Ball) (bs : List Ball) (l1 l2 : Wl) : Prop := plB b0 bs l1 l2 = false ∨ (plB b0 bs l1 l2 = true ∧ (l1 = none ∨ l2 = none))
def spNxE (C : Addr) : Sp := fun vs H _ E => ∃ r a bs b0 l1 l2, vs = [.ref r, .ref a] ∧ Pl H r a bs b0 l1 l2 ∧ noB b0 bs l1 l2 ∧ ∀ H', Same H H' → E (.ref C) none H'
theorem ok_nbxE (D : Df K mg "refuse_no_box" s_refuse_no_box ["row", "walls"] []) (O : OwnV "NotEven" CE mg base) (cRu : Cal P w K mg base "refuse_uneven" 7 ["row", "walls"] [] spRu) (cRuE : Cal1 P w K mg base "refuse_uneven" 7 ["row", "walls"] [] (spRuE CE)) : Cal1 P w K mg base "refuse_no_box" 8 ["row", "walls"] [] (spNxE CE) := by
  refine D.cal1 (k := 7) sc_nbx (fun vs H Q E h => by obtain ⟨_, _, _, _, _, _, rfl, _⟩ := h; rfl) (fun f cdv A outer s H vs Q E hr7 h => ?_)
  obtain ⟨r, a, bs, b0, l1, l2, rfl, pl, hp, k⟩ := h
  rcases hp with hp | ⟨hp, hn⟩
  · refine ⟨_, (pss_cons (ps_expr (pe_cx cRuE hr7 bears_def (pa_cons (pv 0) (pa_cons (pv 1) pa_nil)))) pss_never), ?_⟩
    exact ⟨_, rfl, _, rfl, r, a, _, _, l1, l2, rfl, pl, hp, fun H1 e1 => ⟨CE, rfl, k H1 e1⟩⟩
  · refine ⟨_, (pss_cons (ps_expr (pe_c cRu hr7 (pa_cons (pv 0) (pa_cons (pv 1) pa_nil)))) (pss_one (ps_if ((pw_or (pt_cmpR op_isN (pe_ix ix_tup (pv 1) pe_int (fun _ _ => rfl)) pe_non (nomark _)) (pw_or1 (pt_cmpR op_isN (pe_ix ix_tup (pv 1) pe_int (fun _ _ => rfl)) pe_non (nomark _))))).pt (pss_one (ps_raise O PySem.F.excBase_ValueError (by decide +kernel) PySem.F.excBase_ValueError hr7.hd bearsNew_def (pa_cons pe_str pa_nil))) pss_nil))), ?_⟩
    refine ⟨_, rfl, _, rfl, r, a, _, _, l1, l2, rfl, pl, hp, fun H1 e1 => ?_⟩
    dsimp only
    obtain ⟨v1, v2, ha, h1, h2⟩ := pl.walls
    have ha1 := e1 _ _ ha
    cases l1 with
    | none =>
      cases h1
      exact ⟨_, rfl, a, _, _, _, rfl, rfl, .of ha1, at0 .., rfl, _, rfl, iteT ⟨by show 1 ≤ sizeLine; decide, k H1 e1⟩⟩
    | some w1 =>
      rcases hn with hn | hn
      · cases hn
      · subst hn
        obtain ⟨a1, _, _, rfl, _⟩ := h1
        cases h2
        exact ⟨_, rfl, a, _, _, _, rfl, rfl, .of ha1, at0 .., rfl, _, rfl, iteF ⟨_, rfl, a, _, _, _, rfl, rfl, .of ha1, at1 .., rfl, _, rfl, iteT ⟨by show 1 ≤ sizeLine; decide, k H1 e1⟩⟩⟩
def spRoE (C : Addr) : Sp := fun vs H _ E => ∃ r a bs b0 lo hi, vs = [.ref r, .ref a] ∧ Ln H r a bs lo hi ∧ bs[0]? = some b0 ∧ noB (tb b0) (bs.map tb) lo hi ∧ ∀ H', Same H H' → E (.ref C) none H'
theorem ok_roE (D : Df K mg "round_of" s_round_of ["row", "walls"] []) (cNxE : Cal1 P w K mg base "refuse_no_box" 8 ["row", "walls"] [] (spNxE CE)) : Cal1 P w K mg base "round_of" 9 ["row", "walls"] [] (spRoE CE) := by
  refine D.cal1 (k := 8) sc_rof (fun vs H Q E h => by obtain ⟨_, _, _, _, _, _, rfl, _⟩ := h; rfl) (fun f cdv A outer s H vs Q E hr8 h => ?_)
  obtain ⟨r, a, bs, b0, lo, hi, rfl, ln, h0, hp, k⟩ := h
  obtain ⟨b0', e0', pl⟩ := ln.pl
  rw [h0] at e0'; cases e0'
  refine ⟨_, (pss_cons (ps_expr (pe_cx cNxE hr8 bears_def (pa_cons (pv 0) (pa_cons (pv 1) pa_nil)))) pss_never), ?_⟩
  exact ⟨_, rfl, _, rfl, r, a, _, _, lo, hi, rfl, pl, hp, fun H1 e1 => ⟨CE, rfl, k H1 e1⟩⟩
def spLtE (C : Addr) : Sp := fun vs H _ E => ∃ r a m p bs b0 lo hi, vs = [.ref r, .ref a, m, p] ∧ Ln H r a bs lo hi ∧ bs[0]? = some b0 ∧ noB (tb b0) (bs.map tb) lo hi ∧ ∀ H', Same H H' → E (.ref C) none H'
theorem sc_lets : FnScope ["row", "walls", "moment", "paper", "course", "phases", "paces", "manies"] ["row", "walls", "moment", "paper"] (defScope s_lets_round) := ⟨rfl, rfl, rfl, by decide +kernel, rfl, by decide +kernel, by decide +kernel⟩
theorem ok_ltE (D : Df K mg "lets_round" s_lets_round ["row", "walls", "moment", "paper"] []) (cNxE : Cal1 P w K mg base "refuse_no_box" 8 ["row", "walls"] [] (spNxE CE)) : Cal1 P w K mg base "lets_round" 9 ["row", "walls", "moment", "paper"] [] (spLtE CE) := by
  refine D.cal1 (k := 8) sc_lets (fun vs H Q E h => by obtain ⟨_, _, _, _, _, _, _, _, rfl, _⟩ := h; rfl) (fun f cdv A outer s H vs Q E hr8 h => ?_)
  obtain ⟨r, a, m, p, bs, b0, lo, hi, rfl, ln, h0, hp, k⟩ := h
  obtain ⟨b0', e0', pl⟩ := ln.pl
  rw [h0] at e0'; cases e0'
  refine ⟨_, (pss_cons (ps_expr (pe_cx cNxE hr8 bears_def (pa_cons (pv 0) (pa_cons (pv 1) pa_nil)))) pss_never), ?_⟩
  exact ⟨_, rfl, _, rfl, r, a, _, _, lo, hi, rfl, pl, hp, fun H1 e1 => ⟨CE, rfl, k H1 e1⟩⟩
def ratD (s : Int) (k : Int) : PyData := rD (Rat.divInt k s)
def spLtG : Sp := fun vs H Q _ => ∃ r a m p bs b0 lo hi T s tk pss, vs = [.ref r, .ref a, m, .ref p] ∧ Ln H r a bs (some lo) (some hi) ∧ LnZ bs (some lo) (some hi) ∧ bs[0]? = some b0 ∧ plB (tb b0) (bs.map tb) (some lo) (some hi) = true ∧ RoG bs lo hi T s tk pss ∧ pss ≠ [] ∧ H p = some (.lst []) ∧ ∀ H', Same H H' → Q (.bl false) H'
theorem ok_ltG {fi : Addr} {fdi : FuncData} (D : Df K mg "lets_round" s_lets_round ["row", "walls", "moment", "paper"] []) (T : TxB K mg) (T3 : Tx3 K mg aN) (TC : TCo K C) (M : Mk K C fi) (Fi : FnOk P w K mg base CX0 4 fi fdi ["self", "row", "walls"] (spCo C)) (hmC : mg "Course" = some (.ref C)) (Bi : Binds K fdi ["self", "row", "walls"] [])
    (cNx : Cal P w K mg base "refuse_no_box" 8 ["row", "walls"] [] spNx) (cPh : Cal P w K mg base "phases_of" 2 ["course"] [] (spPh C)) (cR : Cal P w K mg base "ratio" 2 ["top", "bottom"] [] spLow) :
    Cal P w K mg base "lets_round" 9 ["row", "walls", "moment", "paper"] [] spLtG := by
  refine D.cal (k := 8) sc_lets (fun vs H Q E h => by obtain ⟨_, _, _, _, _, _, _, _, _, _, _, _, rfl, _⟩ := h; rfl) (fun f cdv A outer s H vs Q E hr8 h => ?_)
  obtain ⟨r, a, m, pp, bs, b0, lo, hi, Tt, ss, tk, pss, rfl, ln, lz, h0, hp, Z0, ne0, hpp, k⟩ := h
  have hr5 : Room 5 _ := hr8.mono (by decide)
  have hr2 : Room 2 _ := hr8.mono (by decide)
  have hu := hr8.units
  obtain ⟨b0', e0', pl⟩ := ln.pl
  rw [h0] at e0'; cases e0'
  refine ⟨_, (pss_cons (ps_expr (pe_c cNx hr8 (pa_cons (pv 0) (pa_cons (pv 1) pa_nil))))
    (pss_cons (ps_set (i := 4) sc_lets.nd rfl (Or.inr rfl) (pe_make M Fi hr5 (by rfl) hmC Bi .nil pass0 (pa_cons (pv 0) (pa_cons (pv 1) pa_nil))))
    (pss_cons (ps_set (i := 5) sc_lets.nd rfl (Or.inr rfl) (pe_c cPh hr2 (pa_cons (pv 4) pa_nil)))
    (pss_cons (ps_set (i := 6) sc_lets.nd rfl (Or.inl rfl) (pe_callB (call_sortK rfl) (by rfl) T3.nSorted PyProof.Rows.boot_sorted (pa_cons (pv 5) pa_nil)))
    (pss_cons (ps_if ((pw_or (pt_cmpR op_eq (pe_callB call_len_seq (by rfl) T.nLen PySem.boot_len (pa_cons (pv 6) pa_nil)) pe_int (nomark _)) (pw_or1 (pt_cmpR (op_neD hu) (pe_comp (NB := ["pace", "many"]) rfl (by decide +kernel) (by decide +kernel) rfl (by decide +kernel) (pi_list (pv 3)) (by intro _ _ _; refine ⟨?_, ?_, ?_⟩; (exact (pg_tupK (K := K) (n := 2) rfl rfl (pgs_cons (pg_name (i := 0) (show List.Nodup (["pace", "many"] : List Str) by decide +kernel) rfl (Or.inl rfl)) (pgs_cons (pg_name (i := 1) (show List.Nodup (["pace", "many"] : List Str) by decide +kernel) rfl (Or.inl rfl)) pgs_nil)))); (exact pts_nil); (exact (pv 0)))) (pe_compC (NB := ["pace"]) (FR := ["course"]) (js := [4]) rfl rfl (fun x c h => cl_one rfl x c h) (.cons rfl rfl rfl ⟨_, rfl⟩ .nil) rfl (by decide +kernel) rfl (by decide +kernel) (pi_list (pv 6)) (by intro _ _ _; refine ⟨?_, ?_, ?_⟩; (exact (pg_name (i := 0) (show List.Nodup (["pace", "course"] : List Str) by decide +kernel) rfl (Or.inl rfl))); (exact pts_nil); (exact (pe_c cR hr2 (pa_cons (pv 0) (pa_cons (pe_fldK (K := K) rfl (pv 1) rfl) pa_nil)))))) (nomark _))))).pt (pss_one (ps_ret pe_bl)) pss_nil)
    pss_never))))), ?_⟩
  refine ⟨_, rfl, _, rfl, r, a, _, _, lo, hi, rfl, pl, hp, fun H1 e1 => ?_⟩
  dsimp only
  have ln1 := ln.same e1
  obtain ⟨us, hrr, hB⟩ := ln1.row
  obtain ⟨v1, v2, ha, h1, h2⟩ := ln1.walls
  refine ⟨_, rfl, _, rfl, fun c dx hc hdx ne => ?_⟩
  have S0 : Same H1 (upd (upd H1 dx (.own c)) c (.ins C dx [])) := (Same.upd hdx).trans (Same.upd (by rw [upd_ne ne.symm]; exact hc))
  refine ⟨c, dx, r, a, us, bs, v1, v2, some lo, some hi, rfl, upd_same, S0 _ _ hrr, hB.keeps (.of S0), S0 _ _ ha, h1.wl.keeps (.of S0), h2.wl.keeps (.of S0), ln.l8, fun t mt => ⟨(lz.sz t mt).1.sz, (lz.sz t mt).2.sz⟩, fun H2 X1 hcn => ⟨rfl, ?_⟩⟩
  have hco := hcn.co
  have S2 : Same H H2 := e1.trans fun b o e => X1 b o (ne_of_none e hc) (S0 b o e)
  dsimp only [gName]
  have Z := lz.bd ln.l8
  obtain ⟨esb, etk, eT, eph, l8p, zps, l1p, k0, bk, pt⟩ := Z0
  have hco' := hco
  rw [← etk] at hco'
  generalize hpb : pbO bs (some lo) (some hi) = pb at *
  generalize hsb : sbO bs (some lo) (some hi) = sb at *
  have wl : Wb (some (trB pb sb lo)) := Z.bl
  have wh : Wb (some (trB pb sb hi)) := Z.bh
  have hco2 : CoAt H2 C c pb sb tk (bs.map Bl.wt) (bs.map fun b => trB pb sb (b.pl, b.sp)) (some (trB pb sb lo)) (some (trB pb sb hi)) := hco'
  refine ⟨_, rfl, c, pb, sb, _, _, _, _, _, rfl, hco2, wl, wh, by rw [List.length_map]; exact ln.l8, fun ad es H3 S3 ph eph2 => ?_⟩
  dsimp only [gName]
  rw [← eT, eph] at eph2
  have hd := ph.d
  have esl : es.length = pss.length := by rw [← eph2]; unfold psOf; rw [List.length_map]
  have hkm : es.map (·.1) = pss.map Prod.fst := by rw [← eph2]; unfold psOf; rw [List.map_map]; rfl
  have SH3 : Same H H3 := S2.trans S3
  have hco3 := hco2.same S3
  -- paces
  refine ⟨_, rfl, ad, _, pss.map Prod.fst, rfl, hd, by rw [← hkm]; unfold dkOf; rw [List.map_map, List.map_map]; rfl, by rw [List.length_map]; omega, fun Ds ms hDs pm sm => ?_⟩
  dsimp only [gName]
  have S4 := Same.upd (o := .lst (ms.map V.int)) hDs
  have hDs' : upd H3 Ds (.lst (ms.map V.int)) Ds = some (.lst (ms.map V.int)) := upd_same
  generalize upd H3 Ds (.lst (ms.map V.int)) = H4 at S4 hDs'
  have msl : ms.length = pss.length := by rw [pm.length_eq, List.length_map]
  have pl0 : 0 < pss.length := by
    cases pss with
    | nil => exact absurd rfl ne0
    | cons _ _ => simp
  refine ⟨_, rfl, Ds, _, rfl, .inl (.of hDs'), rfl, _, rfl, ite2 (fun z => ?_) (fun _ => ?_)⟩
  · have : ((ms.map V.int).length : Int) = 0 := V.int.inj (of_decide_eq_true z)
    rw [List.length_map] at this; omega
  have hp4 := S4 _ _ (SH3 _ _ hpp)
  refine ⟨_, rfl, pp, rfl, ⟨_, SqL.of hp4⟩, fun D1 hD1 => ?_⟩
  refine comp_each (J := Itl K pp) (g := gTup K 2 (gCons (gName 0) (gCons (gName 1) gNil))) (te := tVar 0) (n := 2) (xs := []) (fun i v G => True) (fun _ _ _ _ _ h => h) hD1 (runs_list hp4) (small20 (by simp)) (fun i y zs G5 Q' hy => by simp at hy) ?_
  intro ys5 H5 S5 hH5 hyl5 _
  have e5 : ys5 = [] := by cases ys5 with | nil => rfl | cons _ _ => simp at hyl5
  subst e5
  have hDs5 := S5 _ _ hDs'
  obtain ⟨dx4, fs4, hc4, F4⟩ := hco3.same (S4.trans S5)
  refine ⟨_, rfl, Ds, rfl, ⟨_, SqL.of hDs5⟩, fun D2 hD2 => ?_⟩
  refine compC_each (js := [4]) (J := Itl K Ds) (g := gName 0) (te := _) (n := 1) (xs := ms.map V.int) (fun i v G => ∃ (kp : Int) (x : Addr), ms[i]? = some kp ∧ v = .ref x ∧ RatAt G x (Rat.divInt kp sb)) (fun i v G G' e ⟨kp, x, q0, q1, q2⟩ => ⟨kp, x, q0, q1, e _ _ q2⟩) hD2 (runs_list hDs5) (small20 (by rw [List.length_map]; omega)) ?_ ?_
  · intro i y zs G2 Q' hy hz S2' hQ
    rw [List.getElem?_map] at hy
    cases hm : ms[i]? with
    | none => rw [hm] at hy; cases hy
    | some kp =>
    rw [hm] at hy; cases hy
    obtain ⟨w1, rfl⟩ := len1 hz
    exact ⟨rfl, _, rfl, _, rfl, c, C, dx4, fs4, _, rfl, S2' _ _ hc4, TC.cls, TC.sb, F4.sb, kp, sb, rfl, Int.ne_of_gt Z.sb.1, Z.sb.2.mono (by decide), fun y G3 S3' hy3 => hQ _ _ S3' ⟨kp, y, hm, rfl, hy3⟩⟩
  intro us6 H6 S6 hH6 hul6 hR6
  have rd6 : ∀ (us : List V) (ms : List Int), us.length = ms.length → (∀ (i : Nat) (v : V), us[i]? = some v → ∃ (kp : Int) (x : Addr), ms[i]? = some kp ∧ v = .ref x ∧ RatAt H6 x (Rat.divInt kp sb)) → RdDs H6 us (ms.map (ratD sb)) := by
    intro us
    induction us with
    | nil => intro ms hl _; cases ms with | nil => exact .nil | cons _ _ => simp at hl
    | cons v us ih =>
      intro ms hl h
      cases ms with
      | nil => simp at hl
      | cons mm ms =>
        obtain ⟨kp, x, e1, rfl, e3⟩ := h 0 v rfl
        cases e1
        exact .cons (rat_rd e3) (ih ms (by simpa using hl) fun i v e => h (i + 1) v e)
  have sh6 : SeqAt.shaped (.list (ms.map (ratD sb))) = true := by
    have k : ∀ ms : List Int, PyData.canLayAll0 (ms.map (ratD sb)) = true ∧ PyData.depthAll (ms.map (ratD sb)) ≤ 1 := by
      intro ms
      induction ms with
      | nil => exact ⟨rfl, Nat.zero_le _⟩
      | cons d ds ih =>
        refine ⟨?_, ?_⟩
        · show (PyData.canLay0 (ratD sb d) && _) = true
          rw [ih.1]; rfl
        · show max (PyData.depth (ratD sb d)) _ ≤ 1
          have : PyData.depth (ratD sb d) = 1 := rfl
          rw [this]; have := ih.2; omega
    have c1 : PyData.canLay0 (.list (ms.map (ratD sb))) = true := (k ms).1
    have d1 : PyData.depth (.list (ms.map (ratD sb))) ≤ 2 := by show _ + 1 ≤ 2; have := (k ms).2; omega
    show (_ && decide (_ ≤ 64)) = true
    rw [c1, decide_eq_true (by omega)]; rfl
  have nn : (!PyData.eqv (.list []) (.list (ms.map (ratD sb)))) = true := by
    cases ms with
    | nil => simp at msl; omega
    | cons _ _ => rfl
  refine ⟨_, _, .lst (S6 _ _ hH5) .nil, .lst hH6 (rd6 us6 ms (by rw [List.length_map] at hul6; exact hul6) hR6), rfl, sh6, _, rfl, ?_⟩
  rw [nn]
  exact iteT (k H6 (SH3.trans (S4.trans (S5.trans S6))))
end
end KK
end
section
set_option maxHeartbeats 8000000
set_option Elab.async false
set_option linter.all false
set_option maxRecDepth 100000
namespace KK
open PySem L2 KM
structure Xr (K : PySem.W.Frag) (mg : Str → Option Value) (C0 CE : Addr) : Prop where
  m0C : mg "ClackError" = some (.ref C0)
  mE : mg "NotEven" = some (.ref CE)
  ev : PySem.W.kitOne K (.ref CE) (.ref CE) = some true
  ex : PySem.W.exmOne K (.ref CE) (.ref C0) = some true
  z : ExcK K CE
section
variable {P : Program} {w : World} {K : PySem.W.Frag} {mg : Str → Option Value} {base : Heap} {C CE C0 : Addr} {aN : Addr}
theorem sc_rwd : FnScope ["way", "row", "bounds", "e"] ["way", "row", "bounds"] (defScope s_law_round_word) := ⟨rfl, rfl, rfl, by decide +kernel, rfl, by decide +kernel, by decide +kernel⟩
def spWd : Sp := fun vs H Q _ => ∃ (wy : Int) (r a : Addr), vs = [.int wy, .ref r, .ref a] ∧ (wy = 0 ∨ wy = 1) ∧
  ((∃ bs b0 lo hi, Ln H r a bs lo hi ∧ bs[0]? = some b0 ∧ noB (tb b0) (bs.map tb) lo hi ∧ ∀ H', Same H H' → Q (.str "even") H') ∨
   (∃ un be l far wt js, Ln H r a (js.map (blO un be wt)) (some (Rat.divInt l un, 0)) (some (Rat.divInt (l + far) un, 0)) ∧ WoZ un be (some l) (some (l + far)) js wt ∧ (wy = 1 → phO l (2 * far) js ≠ []) ∧ ∀ H', Same H H' → Q (.str "none") H'))
theorem ok_wd (D : Df K mg "_law_round_word" s_law_round_word ["way", "row", "bounds"] []) (T : TxB K mg) (X : Xr K mg C0 CE) (cRoG : Cal P w K mg base "round_of" 9 ["row", "walls"] [] spRoG) (cLtG : Cal P w K mg base "lets_round" 9 ["row", "walls", "moment", "paper"] [] spLtG) (cRoE : Cal1 P w K mg base "round_of" 9 ["row", "walls"] [] (spRoE CE)) (cLtE : Cal1 P w K mg base "lets_round" 9 ["row", "walls", "moment", "paper"] [] (spLtE CE)) :
    Cal P w K mg base "_law_round_word" 10 ["way", "row", "bounds"] [] spWd := by
  have hx := X.ex
  have Z := X.z
  refine D.cal (k := 9) sc_rwd (fun vs H Q E h => by obtain ⟨_, _, _, rfl, _⟩ := h; rfl) (fun f0 cdv A outer s H vs Q E hr h => ?_)
  obtain ⟨wy, r, a, rfl, hw, h⟩ := h
  rcases h with ⟨bs, b0, lo, hi, ln, h0, nb, q⟩ | ⟨un, be, l, far, wt, js, ln, z, hm, q⟩
  · refine ⟨_, (pss_cons (ps_tryS (i := 3) (C := CE) rfl rfl X.m0C hx sc_rwd.nd rfl rfl (fun pins W J hJ => (pss_one (ps_if (pt_cmpR op_eq (pv 0) pe_int (nomark _)) (pss_one (ps_expr (pe_cx cRoE hr hJ (pa_cons (pv 1) (pa_cons (pv 2) pa_nil))))) (pss_one (ps_expr (pe_cx cLtE hr hJ (pa_cons (pv 1) (pa_cons (pv 2) (pa_cons (pe_tup (pa_cons pe_int (pa_cons pe_int pa_nil))) (pa_cons (pe_lst pa_nil) pa_nil)))))))))) (fun pins a oe d vs hc hdd hdt => (pss_one (ps_ret (pe_ix (ix_listK (K := K) rfl) (pe_lst (pa_cons pe_str (pa_cons pe_str pa_nil))) (pe_callTy call_int1 (by rfl) T.nInt PyProof.Rows.boot_int (pa_cons (pe_callB (call_isiDK (K := K) rfl (List.mem_append_right _ (List.mem_append_right _ (List.mem_singleton.mpr rfl))) hc hdd hdt Z) (by rfl) T.nIs PyProof.Rows.boot_isinstance (pa_cons (pv 3) (pa_cons (pe_glob (v := .ref CE) (by rfl) X.mE rfl) pa_nil))) pa_nil)) (fun _ _ => rfl)))))) (pss_one (ps_ret pe_str))), ?_⟩
    rcases hw with rfl | rfl
    · refine ⟨_, rfl, rfl, _, rfl, iteT ?_⟩
      refine ⟨_, rfl, _, rfl, r, a, bs, b0, lo, hi, rfl, ln, h0, nb, fun H1 S1 => ⟨CE, rfl, rfl, fun ae hae => ?_⟩⟩
      refine ⟨by show 2 ≤ sizeLine; decide, fun l hl => ?_⟩
      have S3 := Same.upd (o := .lst [.str "other", .str "even"]) hl
      refine ⟨_, rfl, _, _, true, rfl, rfl, rfl, fun _ z => z, X.ev, .inr ⟨true, rfl, l, _, _, V.str "even", rfl, rfl, .of upd_same, rfl, ?_⟩⟩
      exact q _ (S1.trans S3)
    · refine ⟨_, rfl, rfl, _, rfl, iteF ?_⟩
      refine ⟨_, rfl, _, rfl, by show 2 ≤ sizeLine; decide, fun m hm => ⟨by show 0 ≤ sizeLine; decide, fun p hp => ?_⟩⟩
      have S0 := (Same.upd (o := .tup [.int 1, .int 1]) hm).trans (Same.upd (o := .lst []) hp)
      refine ⟨r, a, .ref m, .ref p, bs, b0, lo, hi, rfl, ln.same S0, h0, nb, fun H1 S1 => ⟨CE, rfl, rfl, fun ae hae => ?_⟩⟩
      refine ⟨by show 2 ≤ sizeLine; decide, fun l hl => ?_⟩
      have S3 := Same.upd (o := .lst [.str "other", .str "even"]) hl
      refine ⟨_, rfl, _, _, true, rfl, rfl, rfl, fun _ z => z, X.ev, .inr ⟨true, rfl, l, _, _, V.str "even", rfl, rfl, .of upd_same, rfl, ?_⟩⟩
      exact q _ (S0.trans (S1.trans S3))
  · refine ⟨_, (pss_cons (ps_tryS (i := 3) (C := CE) rfl rfl X.m0C hx sc_rwd.nd rfl rfl (fun pins W J hJ => (pss_one (ps_if (pt_cmpR op_eq (pv 0) pe_int (nomark _)) (pss_one (ps_expr (pe_c cRoG hr (pa_cons (pv 1) (pa_cons (pv 2) pa_nil))))) (pss_one (ps_expr (pe_c cLtG hr (pa_cons (pv 1) (pa_cons (pv 2) (pa_cons (pe_tup (pa_cons pe_int (pa_cons pe_int pa_nil))) (pa_cons (pe_lst pa_nil) pa_nil)))))))))) (fun pins a oe d vs hc hdd hdt => pss_never)) (pss_one (ps_ret pe_str))), ?_⟩
    rcases hw with rfl | rfl
    · refine ⟨_, rfl, rfl, _, rfl, iteT ?_⟩
      refine ⟨_, rfl, _, rfl, ?_⟩
      show spRoG [.ref r, .ref a] H (fun _ H1 => Q (.str "none") H1) E0
      exact ro_sp (E := E0) ln z (fun _ H1 S1 => q _ S1) (fun _ zz qq l' us kgs H1 S1 _ _ _ => q _ S1)
    · refine ⟨_, rfl, rfl, _, rfl, iteF ?_⟩
      refine ⟨_, rfl, _, rfl, by show 2 ≤ sizeLine; decide, fun m hm' => ⟨by show 0 ≤ sizeLine; decide, fun p hp => ?_⟩⟩
      have S0 := (Same.upd (o := .tup [.int 1, .int 1]) hm').trans (Same.upd (o := .lst []) hp)
      obtain ⟨Tt, s, tk, pss, R⟩ := ro_worldG z
      have l1 := z.l1
      obtain ⟨b0, hb0⟩ : ∃ b0, (js.map (blO un be wt))[0]? = some b0 := ⟨_, List.getElem?_eq_getElem (by rw [List.length_map]; omega)⟩
      exact ⟨r, a, .ref m, p, _, b0, _, _, Tt, s, tk, pss, rfl, ln.same S0, z.lnz, hb0, plB_true (lo := some l) (hi := some (l + far)) hb0, R.d, fun e => hm rfl (R.nil.mp e), upd_same, fun H1 S1 => q _ (S0.trans S1)⟩
end
end KK
end
section
set_option maxHeartbeats 8000000
set_option Elab.async false
set_option linter.all false
set_option maxRecDepth 100000
namespace L2
open PySem PySem.Spec PyProof.Rows
def rSlA (K : PySem.W.Frag) : V → Option Int → Option Int → Hp → VK → Prop := fun x lo hi H Q => rSlT K x lo hi H Q ∨ rSlW K x lo hi H Q
theorem sl_any {X : Cx} : SlR X (rSlA X.K) := by
  intro pins s σ H x v vl vu lo hi sl Q I rx hs pl pu h
  rcases h with h | h
  · exact sl_tup pins s σ H x v vl vu lo hi sl Q I rx hs pl pu h
  · exact sl_whole pins s σ H x v vl vu lo hi sl Q I rx hs pl pu h
end L2
namespace KK
open PySem L2 KM
theorem for_enumK {k : Bool} {K : PySem.W.Frag} {a : Addr} {xs : List V} {g : TG} {tb : TS} {D : Ends} {σ : St} {H : Hp} (Pv : Nat → St → Hp → Prop) (h0 : Pv 0 σ H) (hl : ∀ i σ H, Pv i σ H → SqK k K H a xs)
    (hs : ∀ (i : Nat) (x : V) (σ : St) (H : Hp) (T : Addr), xs[i]? = some x → Pv i σ H → H T = none → g (.ref T) σ (upd H T (.tup [.int i, x])) fun σ2 H2 => tb { D with nx := Pv (i + 1), ct := Pv (i + 1), bk := D.nx } σ2 H2)
    (hd : ∀ σ H, Pv xs.length σ H → D.nx σ H) :
    ∃ W : Nat → Nat → St → Hp → Prop, (∃ m, W 0 m σ H) ∧ ∀ i m σ H, W i m σ H →
      ((IteK k K a).stop i H ∧ D.nx σ H) ∨ ((IteK k K a).go i H ∧ ∃ N : St → Hp → Prop, (∀ σ' H', N σ' H' → ∃ m', m' < m ∧ W (i + 1) m' σ' H') ∧ ∀ x H', (IteK k K a).yld i H x H' → g x σ H' fun σ2 H2 => tb { D with nx := N, ct := N, bk := D.nx } σ2 H2) := by
  refine ⟨fun i m σ H => m = xs.length - i ∧ i ≤ xs.length ∧ Pv i σ H, ⟨xs.length, by simp, Nat.zero_le _, h0⟩, ?_⟩
  rintro i m σ H ⟨rfl, hi, p⟩
  have q1 := hl i σ H p
  by_cases hlt : i < xs.length
  · refine .inr ⟨⟨xs, xs[i], q1, by simp⟩, Pv (i + 1), fun σ' H' p' => ⟨xs.length - (i + 1), by omega, rfl, hlt, p'⟩, fun x H' y => ?_⟩
    obtain ⟨T, u, rfl, hT, rfl, e1⟩ := y
    exact hs i u σ H T (e1 xs q1) p hT
  · have e : i = xs.length := by omega
    subst e
    exact .inl ⟨⟨xs, q1, Nat.le_refl _⟩, hd σ H p⟩
theorem intsV : ∀ {ys : List V}, (∀ v ∈ ys, ∃ x : Int, v = .int x) → ∃ ns : List Int, ys = ns.map V.int
  | [], _ => ⟨[], rfl⟩
  | y :: ys, h => by
    obtain ⟨x, rfl⟩ := h y (.head _)
    obtain ⟨ns, rfl⟩ := intsV (ys := ys) fun v m => h v (.tail _ m)
    exact ⟨x :: ns, rfl⟩
theorem third_at {H : Hp} {p : Addr} (h : H p = some (.tup [.int 1, .int 3])) : RatAt H p (Rat.divInt 1 3) := by
  have e1 : (Rat.divInt 1 3).num = 1 := by decide +kernel
  have e2 : (Rat.divInt 1 3).den = 3 := by decide +kernel
  unfold RatAt rp; rw [e1, e2]; exact h
theorem mthird_at {H : Hp} {p : Addr} (h : H p = some (.tup [.int (-1), .int 3])) : RatAt H p (Rat.divInt (-1) 3) := by
  have e1 : (Rat.divInt (-1) 3).num = -1 := by decide +kernel
  have e2 : (Rat.divInt (-1) 3).den = 3 := by decide +kernel
  unfold RatAt rp; rw [e1, e2]; exact h
theorem nought_at {H : Hp} {p : Addr} (h : H p = some (.tup [.int 0, .int 1])) : RatAt H p 0 := h
theorem st_third (x : Rat) : stillB (some (x, Rat.divInt 1 3)) = false := (by decide +kernel : decide (Rat.divInt 1 3 = 0) = false)
theorem st_mthird (x : Rat) : stillB (some (x, Rat.divInt (-1) 3)) = false := (by decide +kernel : decide (Rat.divInt (-1) 3 = 0) = false)
def wys (b : Bool) : List V := if b then [.int 0, .int 1] else [.int 0]
theorem wys_at {b : Bool} {i : Nat} {v : V} (h : (wys b)[i]? = some v) : ∃ wy : Int, v = .int wy ∧ (wy = 0 ∨ wy = 1) ∧ (wy = 1 → b = true) := by
  cases b with
  | false =>
    match i, h with
    | 0, h => cases h; exact ⟨0, rfl, .inl rfl, fun e => by cases e⟩
    | i + 1, h => simp [wys] at h
  | true =>
    match i, h with
    | 0, h => cases h; exact ⟨0, rfl, .inl rfl, fun _ => rfl⟩
    | 1, h => cases h; exact ⟨1, rfl, .inr rfl, fun _ => rfl⟩
    | i + 2, h => simp [wys] at h
theorem wys_len (b : Bool) : (wys b).length ≤ 2 := by cases b <;> decide
def wS (bw : Bool) : Str := if bw then "none" else "even"
theorem rep_of {us : List V} {v : V} {n : Nat} (hl : us.length = n) (h : ∀ (i : Nat) (x : V), us[i]? = some x → x = v) : us = List.replicate n v :=
  List.eq_replicate_iff.mpr ⟨hl, fun x m => by obtain ⟨i, hi⟩ := List.mem_iff_getElem?.mp m; exact h i x hi⟩
theorem rds_rep {H : Hp} (s : Str) : ∀ n, RdDs H (List.replicate n (.str s)) (List.replicate n (.str s))
  | 0 => .nil
  | n + 1 => .cons (.str s) (rds_rep s n)
theorem sh_w (b bw : Bool) : SeqAt.shaped (.list (List.replicate (wys b).length (.str (wS bw)))) = true := by cases b <;> cases bw <;> decide +kernel
theorem sh_w2 (bw : Bool) : SeqAt.shaped (.list (List.replicate 2 (.str (wS bw)))) = true := sh_w true bw
theorem rep_ev (b : Bool) : (List.replicate ((wys b).length : Int).toNat [V.str "even"]).flatten = List.replicate (wys b).length (.str (wS false)) := by cases b <;> rfl
section
variable {K : PySem.W.Frag}
theorem words_run {σ : St} {G : Hp} {Q : VK} {i j : Nat} {r ab tw : Addr} {b bw : Bool} (h8 : σ[8]? = some (some (.ref tw))) (hi : σ[i]? = some (some (.ref r))) (hj : σ[j]? = some (some (.ref ab))) (ht : G tw = some (.tup (wys b)))
    (hw : ∀ (wy : Int) (G1 : Hp) (Q' : VK), (wy = 0 ∨ wy = 1) → (wy = 1 → b = true) → Same G G1 → (∀ G2, Same G1 G2 → Q' (.str (wS bw)) G2) → spWd [.int wy, .ref r, .ref ab] G1 Q' E0)
    (k : ∀ Dl G', Same G G' → G' Dl = some (.lst (List.replicate (wys b).length (.str (wS bw)))) → Q (.ref Dl) G') :
    tCompC 1 [i, j] (iTup K (tVar 8)) (gName 0) (fun _ H Q => Q true H) (tCall spWd [] E0 (tCons (tVar 0) (tCons (tVar 1) (tCons (tVar 2) tNil)))) σ G Q := by
  refine ⟨_, h8, tw, rfl, ⟨_, SqT.of ht⟩, fun Dc hDc => ?_⟩
  have hl := wys_len b
  have ec : caps σ [i, j] = [some (.ref r), some (.ref ab)] := by unfold caps; simp [hi, hj]
  refine compC_each (js := [i, j]) (J := Itt K tw) (g := gName 0) (te := _) (n := 1) (xs := wys b) (fun m v G => v = .str (wS bw)) (fun _ _ _ _ _ h => h) hDc (runs_tup ht) (small20 (by omega)) ?_ ?_
  · intro m y zs G1 Q' hy hz S hQ
    obtain ⟨y1, rfl⟩ := len1 hz
    obtain ⟨wy, rfl, h1, h2⟩ := wys_at hy
    rw [ec]
    exact ⟨rfl, _, rfl, _, rfl, _, rfl, hw wy G1 _ h1 h2 S fun G2 S2 => hQ _ _ S2 rfl⟩
  intro us G1 S hDG hul hR
  rw [rep_of hul hR] at hDG
  exact k Dc G1 S hDG
theorem chkE {nx : St → Hp → Prop} {rt : VK} {bk ct : St → Hp → Prop} {σ : St} {G : Hp} {i j : Nat} {r ab tw : Addr} {b : Bool} (h8 : σ[8]? = some (some (.ref tw))) (hi : σ[i]? = some (some (.ref r))) (hj : σ[j]? = some (some (.ref ab))) (ht : G tw = some (.tup (wys b)))
    {bs : List Bl} {b0 : Bl} {lo hi' : Wl} (ln : Ln G r ab bs lo hi') (h0 : bs[0]? = some b0) (nb : noB (tb b0) (bs.map tb) lo hi') (k : ∀ G', Same G G' → nx σ G') :
    tIfS (tTest (tOp rNeD (tCompC 1 [i, j] (iTup K (tVar 8)) (gName 0) (fun _ H Q => Q true H) (tCall spWd [] E0 (tCons (tVar 0) (tCons (tVar 1) (tCons (tVar 2) tNil)))))
      (tOp rRep (tLst (tCons (tC (.str "even")) tNil)) (tCB (fun xs H Q => ∃ p ys, xs = [.ref p] ∧ (SqL K H p ys ∨ SqT K H p ys) ∧ Q (.int ys.length) H) (tCons (tVar 8) tNil))))) (tRet (tC (.bl false))) tNext { nx := nx, rt := rt, bk := bk, ct := ct } σ G := by
  unfold tIfS tTest tOp
  refine words_run (bw := false) h8 hi hj ht (fun wy G1 Q' h1 h2 S q => ⟨wy, r, ab, rfl, h1, .inl ⟨bs, b0, lo, hi', ln.same S, h0, nb, q⟩⟩) fun Dl G1 S1 hDl => ?_
  refine ⟨by show 1 ≤ sizeLine; decide, fun l hl => ?_⟩
  have S2 := Same.upd (o := .lst [.str "even"]) hl
  have hl' : upd G1 l (.lst [.str "even"]) l = some (.lst [.str "even"]) := upd_same
  generalize upd G1 l (.lst [.str "even"]) = G2 at S2 hl'
  have wl := wys_len b
  have ht2 := S2 _ _ (S1 _ _ ht)
  refine ⟨_, h8, tw, _, rfl, .inr (.of ht2), l, _, _, rfl, rfl, hl', by omega, by omega, by show 1 * _ ≤ sizeLine; rw [Nat.one_mul]; exact szl (by omega), fun p hp => ?_⟩
  have S3 := Same.upd (o := .lst (List.replicate ((wys b).length : Int).toNat [V.str "even"]).flatten) hp
  refine ne_same (.lst (S3 _ _ (S2 _ _ hDl)) (rds_rep _ _)) (.lst (by rw [upd_same, rep_ev]) (rds_rep _ _)) (sh_w b false) ⟨_, rfl, iteF (k _ (S1.trans (S2.trans S3)))⟩
end
theorem keysK_put {kvs : List (Key × V)} {ks : List Int} {n : Int} {v : V} (e : kvs.map Prod.fst = ks.map Sum.inl) : (putK kvs (Sum.inl n) v).map Prod.fst = (if n ∈ ks then ks else ks ++ [n]).map Sum.inl := by
  have hm : (kvs.any fun kv => decide (kv.1 = (Sum.inl n : Key))) = decide (n ∈ ks) := by
    rw [Bool.eq_iff_iff, List.any_eq_true, decide_eq_true_eq]
    constructor
    · rintro ⟨p, mp, h⟩
      have h := of_decide_eq_true h
      have : (Sum.inl n : Key) ∈ ks.map Sum.inl := by rw [← e, ← h]; exact List.mem_map.mpr ⟨p, mp, rfl⟩
      obtain ⟨w, mw, ew⟩ := List.mem_map.mp this
      cases ew; exact mw
    · intro m
      have : (Sum.inl n : Key) ∈ kvs.map Prod.fst := by rw [e]; exact List.mem_map.mpr ⟨n, m, rfl⟩
      obtain ⟨p, mp, ep⟩ := List.mem_map.mp this
      exact ⟨p, mp, decide_eq_true ep⟩
  unfold putK
  rw [hm]
  by_cases m : n ∈ ks
  · rw [decide_eq_true m, if_pos rfl, if_pos m, ← e, List.map_map]
    refine List.map_congr_left fun p _ => ?_
    show (if p.1 = Sum.inl n then (p.1, v) else p).1 = p.1
    split <;> rfl
  · rw [decide_eq_false m, if_neg (by decide), if_neg m, List.map_append, e, List.map_append]; rfl
def plK (u : Int × Int) : Key × V := (Sum.inl u.1, .bl true)
theorem keys_places (js : List (Int × Int)) : ∃ ns : List Int, (putL (js.map plK)).map Prod.fst = ns.map Sum.inl ∧ ns.Nodup ∧ ns.length ≤ js.length ∧ ∀ n, n ∈ ns ↔ ∃ u ∈ js, u.1 = n := by
  have h : ∀ i, i ≤ js.length → ∃ ns : List Int, (putL ((js.take i).map plK)).map Prod.fst = ns.map Sum.inl ∧ ns.Nodup ∧ ns.length ≤ i ∧ ∀ n, n ∈ ns ↔ ∃ u ∈ js.take i, u.1 = n := by
    intro i
    induction i with
    | zero => intro _; exact ⟨[], rfl, List.nodup_nil, Nat.le_refl _, fun n => by simp⟩
    | succ i ih =>
      intro hi
      obtain ⟨ns, e, nd, ll, mem⟩ := ih (by omega)
      have et : js.take (i + 1) = js.take i ++ [js[i]] := by rw [List.take_add_one, List.getElem?_eq_getElem (by omega)]; rfl
      refine ⟨if js[i].1 ∈ ns then ns else ns ++ [js[i].1], ?_, ?_, ?_, fun n => ?_⟩
      · rw [et, List.map_append]
        show (putL (_ ++ [plK js[i]])).map Prod.fst = _
        rw [putL_snoc]; exact keysK_put e
      · split
        · exact nd
        · rename_i hnm
          exact List.nodup_append.mpr ⟨nd, by simp, fun a ma b' mb => by simp at mb; subst mb; intro z; exact hnm (z ▸ ma)⟩
      · split
        · omega
        · rw [List.length_append]; simp; omega
      · rw [et]
        have : (∃ u ∈ js.take i ++ [js[i]], u.1 = n) ↔ (∃ u ∈ js.take i, u.1 = n) ∨ js[i].1 = n := by
          constructor
          · rintro ⟨u, m, e⟩
            rcases List.mem_append.mp m with m | m
            · exact .inl ⟨u, m, e⟩
            · rw [List.mem_singleton.mp m] at e; exact .inr e
          · rintro (⟨u, m, e⟩ | e)
            · exact ⟨u, List.mem_append_left _ m, e⟩
            · exact ⟨js[i], List.mem_append_right _ (List.mem_singleton.mpr rfl), e⟩
        rw [this, ← mem n]
        split
        · rename_i hm
          constructor
          · exact .inl
          · rintro (z | z)
            · exact z
            · rw [← z]; exact hm
        · simp [eq_comm]
  obtain ⟨ns, a, b, c, d⟩ := h js.length (Nat.le_refl _)
  rw [List.take_length] at a d
  exact ⟨ns, a, b, c, d⟩
def stlJ (ms : List Int) : List (Int × Int) := ms.map fun m => (m, 0)
theorem WoZ.rest {un be : Int} {lo hi : Option Int} {js : List (Int × Int)} {wt : Int} (z : WoZ un be lo hi js wt) {ms ns : List Int} (pm : ms.Perm ns) (sm : ms.Pairwise (· ≤ ·)) (nd : ns.Nodup) (ll : ns.length ≤ js.length) (mem : ∀ n, n ∈ ns ↔ ∃ u ∈ js, u.1 = n) : WoZ un be lo hi (stlJ ms) wt := by
  have l8 := z.l8
  have of : ∀ u ∈ stlJ ms, u.2 = 0 ∧ ∃ v ∈ js, v.1 = u.1 := fun u m => by
    obtain ⟨x, mx, rfl⟩ := List.mem_map.mp m
    exact ⟨rfl, (mem x).mp (pm.subset mx)⟩
  have hl : (stlJ ms).length = ns.length := by unfold stlJ; rw [List.length_map, pm.length_eq]
  refine ⟨z.un, z.be, ?_, by omega, z.wt, fun u m => ?_, z.bl, z.bh, z.lh, fun u m l e => ?_, fun u m h e => ?_, ?_, ?_⟩
  · rw [hl]
    have l1 := z.l1
    cases js with
    | nil => simp at l1
    | cons u _ =>
      have := (mem u.1).mpr ⟨u, .head _, rfl⟩
      exact List.length_pos_of_mem this
  · obtain ⟨e0, v, mv, ev⟩ := of u m
    exact ⟨by rw [← ev]; exact (z.bd v mv).1, by rw [e0]; exact (show (0 : Int).natAbs < 2 ^ 70 by decide)⟩
  · obtain ⟨e0, v, mv, ev⟩ := of u m
    have := z.il v mv l e
    exact ⟨by rw [← ev]; exact this.1, fun _ => by rw [e0]; exact Int.le_refl _⟩
  · obtain ⟨e0, v, mv, ev⟩ := of u m
    have := z.ih v mv h e
    exact ⟨by rw [← ev]; exact this.1, fun _ => by rw [e0]; exact Int.le_refl _⟩
  · unfold stlJ
    refine List.Pairwise.map _ (fun a b h e => h ?_) (pm.nodup_iff.mpr nd)
    exact congrArg Prod.fst e
  · unfold stlJ
    refine List.Pairwise.map _ (fun a b h => ?_) sm
    show lexB [b, 0] [a, 0] = false
    unfold lexB
    split
    · rfl
    · exact decide_eq_false (by omega)
end KK
end
section
set_option maxHeartbeats 8000000
set_option Elab.async false
set_option linter.all false
set_option maxRecDepth 100000
namespace KK
open PySem L2 KM
def bwO (lo hi : Option Int) : Bool := lo.isSome && hi.isSome
structure Lw4 (G : Hp) (t Dn r ab : Addr) (un be : Int) (lo hi : Option Int) (js : List (Int × Int)) (wt : Int) : Prop where
  wo : WoAt G t Dn un be lo hi js wt
  ln : Ln G r ab (js.map (blO un be wt)) (wlO un lo) (wlO un hi)
theorem Lw4.same {G G' : Hp} {t Dn r ab : Addr} {un be : Int} {lo hi : Option Int} {js : List (Int × Int)} {wt : Int} (h : Lw4 G t Dn r ab un be lo hi js wt) (s : Same G G') : Lw4 G' t Dn r ab un be lo hi js wt :=
  ⟨⟨s _ _ h.wo.tup, let ⟨ys, q1, q2⟩ := h.wo.lst; ⟨ys, s _ _ q1, q2.tups (.of s)⟩⟩, h.ln.same s⟩
theorem wl_ref {G : Hp} {v : V} {un : Int} {l : Option Int} (h : WallAt G v (wlO un l)) : decide (v = .non) = !l.isSome := by
  cases l with
  | none => have : v = .non := h; rw [this]; rfl
  | some x => obtain ⟨a, _, _, rfl, _⟩ := h; rfl
theorem at_hd (x : V) (l : List V) : atI (x :: l) 0 = some x := by simp [atI, ixN]
def unB (bs : List Bl) : List Bl := match bs with
  | [] => []
  | b :: r => ⟨b.pl, b.sp, 1 + b.wt % 1000⟩ :: r
theorem ro_callS {G : Hp} {σ : St} {i j : Nat} {t Dw ab : Addr} {un be l far wt : Int} {js : List (Int × Int)} {Q : VK} (h1 : σ[i]? = some (some (.ref t))) (h2 : σ[j]? = some (some (.ref ab))) (wo : WoAt G t Dw un be (some l) (some (l + far)) js wt) (z : WoZ un be (some l) (some (l + far)) js wt)
    (hw : ∃ v1 v2, G ab = some (.tup [v1, v2]) ∧ WallAt G v1 (wlO un (some l)) ∧ WallAt G v2 (wlO un (some (l + far))))
    (k0 : phO l (2 * far) js = [] → ∀ G', Same G G' → Q .non G')
    (k1 : phO l (2 * far) js ≠ [] → False) :
    tCall spRoG [] E0 (tCons (tCall spRow [] E0 (tCons (tVar i) tNil)) (tCons (tVar j) tNil)) σ G Q := by
  refine ⟨_, h1, t, Dw, un, be, _, _, js, wt, rfl, wo, z, fun r us G1 s1 hr hrow => ⟨_, h2, ?_⟩⟩
  obtain ⟨v1, v2, ha, w1, w2⟩ := hw
  exact ro_sp (E := E0) ⟨⟨us, hr, hrow⟩, ⟨v1, v2, s1 _ _ ha, w1.same s1, w2.same s1⟩, by rw [List.length_map]; exact z.l1, by rw [List.length_map]; exact z.l8⟩ z (fun e G2 s2 => k0 e G2 (s1.trans s2)) (fun ne => (k1 ne).elim)
def spLaw (K : PySem.W.Frag) : Sp := fun vs H Q _ => ∃ (a : Addr) (ns : List Int), vs = [.ref a] ∧ SqL K H a (ns.map V.int) ∧ ns.length ≤ 63 ∧ ∀ H', Q (.bl true) H'
theorem sc_law : FnScope ["script", "k", "cell", "pool", "world", "row", "bounds", "due", "ways", "balls", "still", "uneven", "spots", "going", "pair"] ["script"] (defScope s_law) := ⟨rfl, rfl, rfl, by decide +kernel, rfl, by decide +kernel, by decide +kernel⟩
section
variable {P : Program} {w : World} {K : PySem.W.Frag} {mg : Str → Option Value} {base : Heap} {aN : Addr} {CE : Addr}
theorem ok_law {fl : Addr} {fdl : FuncData} (F : Fun K "law" "law" s_law fl fdl) (T : TxB K mg) (T3 : Tx3 K mg aN) (nD : mg "dict" = none) (cD : Cal P w K mg base "_law_pool" 1 ["cell"] [] spDig) (cN : Cal P w K mg base "_law_next" 1 ["pool", "base"] [] spNext) (cWo : Cal P w K mg base "_law_world" 4 ["pool", "kind"] [] spWo) (cRw : Cal P w K mg base "_law_row" 2 ["world"] [] spRow) (cBd : Cal P w K mg base "_law_bounds" 2 ["world"] [] spBd) (cMv : Cal P w K mg base "_law_moves" 1 ["world"] [] spMv) (cRo : Cal P w K mg base "round_of" 9 ["row", "walls"] [] spRoG)
    (cW : Cal P w K mg base "_law_round_word" 10 ["way", "row", "bounds"] [] spWd) :
    FnOk P w K mg base CX0 11 fl fdl ["script"] (spLaw K) := by
  refine F.ok (k := 10) sc_law (fun vs H Q E h => by obtain ⟨_, _, rfl, _⟩ := h; rfl) (fun cdv A outer s H vs Q E hr10 h => ?_)
  obtain ⟨a, ns, rfl, hS, hl, k⟩ := h
  have hr1 : Room 1 _ := hr10.mono (by decide)
  have hr2 : Room 2 _ := hr10.mono (by decide)
  have hr4 : Room 4 _ := hr10.mono (by decide)
  have hr9 : Room 9 _ := hr10.mono (by decide)
  have hu := hr10.units
  refine ⟨_, (pss_cons (ps_for PassesOwn.never rfl (pi_enumK (by rfl) T3.nEnum (pa_cons (pe_op op_catL (pe_lst (pa_cons pe_int pa_nil)) (pv 0)) pa_nil)) (pg_tup rfl (pgs_cons (pg_name (i := 1) sc_law.nd rfl (Or.inl rfl)) (pgs_cons (pg_name (i := 2) sc_law.nd rfl (Or.inl rfl)) pgs_nil))) (bx_out (bx_scons (Bx.mk (ps_set (i := 3) sc_law.nd rfl (Or.inl rfl) (pe_c cD hr1 (pa_cons (pv 2) pa_nil))))
    (bx_scons (Bx.mk (ps_set (i := 4) sc_law.nd rfl (Or.inl rfl) (pe_c cWo hr4 (pa_cons (pv 3) (pa_cons (pe_op op_mod (pe_op op_add (pv 1) (pe_c cN hr1 (pa_cons (pv 3) (pa_cons pe_int pa_nil)))) pe_int) pa_nil)))))
    (bx_scons (Bx.mk (ps_asg (pe_tup (pa_cons (pe_c cRw hr2 (pa_cons (pv 4) pa_nil)) (pa_cons (pe_c cBd hr2 (pa_cons (pv 4) pa_nil)) pa_nil))) (pg_tup rfl (pgs_cons (pg_name (i := 5) sc_law.nd rfl (Or.inr rfl)) (pgs_cons (pg_name (i := 6) sc_law.nd rfl (Or.inr rfl)) pgs_nil)))))
    (bx_scons (Bx.mk (ps_set (i := 7) sc_law.nd rfl (Or.inl rfl) (pe_ix ix_list (pe_lst (pa_cons (pe_op op_rep (pe_lst (pa_cons pe_str pa_nil)) pe_int) (pa_cons (pe_op op_rep (pe_lst (pa_cons pe_str pa_nil)) pe_int) pa_nil))) (pe_callTy call_int1 (by rfl) T.nInt PyProof.Rows.boot_int (pa_cons (pe_and (pe_cmpR op_notN (pe_ix ix_tup (pv 6) pe_int (fun _ _ => rfl)) pe_non (nomark _)) (pe_one (pe_cmpR op_notN (pe_ix ix_tup (pv 6) pe_int (fun _ _ => rfl)) pe_non (nomark _)))) pa_nil)) (fun _ _ => rfl))))
    (bx_scons (Bx.mk (ps_set (i := 8) sc_law.nd rfl (Or.inl rfl) (pe_slice sl_any (pe_tup (pa_cons pe_int (pa_cons pe_int pa_nil))) po_none (po_some (pe_op op_add pe_int (pe_callTy call_int1 (by rfl) T.nInt PyProof.Rows.boot_int (pa_cons (pe_c cMv hr1 (pa_cons (pv 4) pa_nil)) pa_nil)))))))
    (bx_scons (Bx.mk (ps_if (pw_and (pt_truth (pe_c cMv hr1 (pa_cons (pv 4) pa_nil)) fun _ => rfl) (pw_and1 (pt_cmpR (op_neD hu) (pe_compC (NB := ["way"]) (FR := ["row", "bounds"]) (js := [5, 6]) rfl rfl (fun x c h => cl_two rfl rfl x c h) (.cons rfl rfl rfl ⟨_, rfl⟩ (.cons rfl rfl rfl ⟨_, rfl⟩ .nil)) rfl (by decide +kernel) rfl (by decide +kernel) (pi_tup (pv 8)) (by intro _ _ _; refine ⟨?_, ?_, ?_⟩; (exact (pg_name (i := 0) (show List.Nodup (["way", "row", "bounds"] : List Str) by decide +kernel) rfl (Or.inl rfl))); (exact pts_nil); (exact (pe_c cW hr10 (pa_cons (pv 0) (pa_cons (pv 1) (pa_cons (pv 2) pa_nil))))))) (pv 7) (nomark _)))).pt (pss_one (ps_ret pe_bl)) pss_nil))
    (bx_scons (Bx.mk (ps_set (i := 9) sc_law.nd rfl (Or.inl rfl) (pe_callB (call_sortV rfl) (by rfl) T3.nSorted PyProof.Rows.boot_sorted (pa_cons (pe_keysK (pe_callTy (call_dictL rfl) (by rfl) nD PyProof.Rows.boot_dict (pa_cons (pe_comp (NB := ["place", "speed"]) rfl (by decide +kernel) (by decide +kernel) rfl (by decide +kernel) (pi_list (pe_ix ix_tup (pv 4) pe_int (fun _ _ => rfl))) (by intro _ _ _; refine ⟨?_, ?_, ?_⟩; (exact (pg_tupK (K := K) (n := 2) rfl rfl (pgs_cons (pg_name (i := 0) (show List.Nodup (["place", "speed"] : List Str) by decide +kernel) rfl (Or.inl rfl)) (pgs_cons (pg_name (i := 1) (show List.Nodup (["place", "speed"] : List Str) by decide +kernel) rfl (Or.inl rfl)) pgs_nil)))); (exact pts_nil); (exact (pe_tup (pa_cons (pv 0) (pa_cons pe_bl pa_nil)))))) pa_nil))) pa_nil))))
    (bx_scons (Bx.mk (ps_set (i := 10) sc_law.nd rfl (Or.inl rfl) (pe_op op_catA (pe_slice sl_tup (pv 4) po_none (po_some pe_int)) (pe_tup (pa_cons (pe_comp (NB := ["place"]) rfl (by decide +kernel) (by decide +kernel) rfl (by decide +kernel) (pi_list (pv 9)) (by intro _ _ _; refine ⟨?_, ?_, ?_⟩; (exact (pg_name (i := 0) (show List.Nodup (["place"] : List Str) by decide +kernel) rfl (Or.inl rfl))); (exact pts_nil); (exact (pe_tup (pa_cons (pv 0) (pa_cons pe_int pa_nil)))))) (pa_cons (pe_ix ix_tup (pv 4) pe_int (fun _ _ => rfl)) pa_nil))))))
    (bx_scons (Bx.mk (ps_if (pw_and (pt_cmpR op_eq (pe_ix ix_list (pv 7) pe_int (fun _ _ => rfl)) pe_str (nomark _)) (pw_and1 (pt_cmpR op_notN (pe_c cRo hr9 (pa_cons (pe_c cRw hr2 (pa_cons (pv 10) pa_nil)) (pa_cons (pv 6) pa_nil))) pe_non (nomark _)))).pt (pss_one (ps_ret pe_bl)) pss_nil))
    (bx_scons (Bx.mk (ps_if (pt_cmpR op_gt (pe_callB call_len_seq (by rfl) T.nLen PySem.boot_len (pa_cons (pv 5) pa_nil)) pe_int (nomark _)) (pss_cons (ps_set (i := 11) sc_law.nd rfl (Or.inr rfl) (pe_op op_catA (pe_tup (pa_cons (pe_op op_catA (pe_slice sl_tup (pe_ix ix_tup (pv 5) pe_int (fun _ _ => rfl)) po_none (po_some pe_int)) (pe_tup (pa_cons (pe_op op_add pe_int (pe_op op_mod (pe_ix ix_tup (pe_ix ix_tup (pv 5) pe_int (fun _ _ => rfl)) pe_int (fun _ _ => rfl)) pe_int)) pa_nil))) pa_nil)) (pe_slice sl_tup (pv 5) (po_some pe_int) po_none)))
    (pss_one (ps_if (pt_cmpR (op_neD hu) (pe_compC (NB := ["way"]) (FR := ["uneven", "bounds"]) (js := [11, 6]) rfl rfl (fun x c h => cl_two rfl rfl x c h) (.cons rfl rfl rfl ⟨_, rfl⟩ (.cons rfl rfl rfl ⟨_, rfl⟩ .nil)) rfl (by decide +kernel) rfl (by decide +kernel) (pi_tup (pv 8)) (by intro _ _ _; refine ⟨?_, ?_, ?_⟩; (exact (pg_name (i := 0) (show List.Nodup (["way", "uneven", "bounds"] : List Str) by decide +kernel) rfl (Or.inl rfl))); (exact pts_nil); (exact (pe_c cW hr10 (pa_cons (pv 0) (pa_cons (pv 1) (pa_cons (pv 2) pa_nil))))))) (pe_op op_rep (pe_lst (pa_cons pe_str pa_nil)) (pe_callB call_len_seq (by rfl) T.nLen PySem.boot_len (pa_cons (pv 8) pa_nil))) (nomark _)) (pss_one (ps_ret pe_bl)) pss_nil))) pss_nil))
    (bx_scons (Bx.mk (ps_setC (i := 12) (NB := ["ball"]) (FR := []) (js := []) rfl rfl (fun _ _ h => by cases h) .nil rfl (by decide +kernel) rfl (by decide +kernel) sc_law.nd rfl rfl (by rfl) (pi_tup (pv 5)) (by intro _ _ _; refine ⟨?_, ?_, ?_⟩; (exact (pg_name (i := 0) (show List.Nodup (["ball"] : List Str) by decide +kernel) rfl (Or.inl rfl))); (exact pts_nil); (exact (pe_op op_fdivB (pe_ix (ix_tupK (K := K) rfl) (pe_ix (ix_tupK (K := K) rfl) (pv 0) pe_int (fun _ _ => rfl)) pe_int (fun _ _ => rfl)) (pe_ix (ix_tupK (K := K) rfl) (pe_ix (ix_tupK (K := K) rfl) (pv 0) pe_int (fun _ _ => rfl)) pe_int (fun _ _ => rfl)))))))
    (bx_scons (Bx.mk (ps_set (i := 13) sc_law.nd rfl (Or.inl rfl) (pe_tup (pa_cons (pe_tup (pa_cons (pe_tup (pa_cons (pe_op op_sub (pe_callB (call_minL rfl) (by rfl) T.nMin PyProof.Rows.boot_min (pa_cons (pv 12) pa_nil)) pe_int) (pa_cons pe_int pa_nil))) (pa_cons (pe_tup (pa_cons (pe_un un_neg pe_int) (pa_cons pe_int pa_nil))) pa_nil))) (pa_cons (pe_tup (pa_cons (pe_op op_add (pe_callB (call_maxL rfl) (by rfl) T.nMax PyProof.Rows.boot_max (pa_cons (pv 12) pa_nil)) pe_int) (pa_cons pe_int pa_nil))) (pa_cons (pe_tup (pa_cons pe_int (pa_cons pe_int pa_nil))) pa_nil))))))
    (Bx.mk (pss_one (ps_for PassesOwn.never rfl (pi_tup (pe_tup (pa_cons (pe_tup (pa_cons (pe_ix ix_tup (pv 13) pe_int (fun _ _ => rfl)) (pa_cons (pe_tup (pa_cons (pe_ix ix_tup (pv 13) pe_int (fun _ _ => rfl)) (pa_cons (pe_ix ix_tup (pv 13) pe_int (fun _ _ => rfl)) pa_nil))) pa_nil))) (pa_cons (pe_tup (pa_cons (pe_tup (pa_cons (pe_tup (pa_cons (pe_op op_sub (pe_callB (call_minL rfl) (by rfl) T.nMin PyProof.Rows.boot_min (pa_cons (pv 12) pa_nil)) pe_int) (pa_cons pe_int pa_nil))) (pa_cons (pe_tup (pa_cons pe_int (pa_cons pe_int pa_nil))) pa_nil))) (pa_cons (pe_tup (pa_cons (pe_ix ix_tup (pv 13) pe_int (fun _ _ => rfl)) (pa_cons (pe_tup (pa_cons pe_int (pa_cons pe_int pa_nil))) pa_nil))) pa_nil))) pa_nil)))) (pg_name (i := 14) sc_law.nd rfl (Or.inr rfl)) (pss_one (ps_if (pt_cmpR (op_neD hu) (pe_compC (NB := ["way"]) (FR := ["row", "pair"]) (js := [5, 14]) rfl rfl (fun x c h => cl_two rfl rfl x c h) (.cons rfl rfl rfl ⟨_, rfl⟩ (.cons rfl rfl rfl ⟨_, rfl⟩ .nil)) rfl (by decide +kernel) rfl (by decide +kernel) (pi_tup (pv 8)) (by intro _ _ _; refine ⟨?_, ?_, ?_⟩; (exact (pg_name (i := 0) (show List.Nodup (["way", "row", "pair"] : List Str) by decide +kernel) rfl (Or.inl rfl))); (exact pts_nil); (exact (pe_c cW hr10 (pa_cons (pv 0) (pa_cons (pv 1) (pa_cons (pv 2) pa_nil))))))) (pe_op op_rep (pe_lst (pa_cons pe_str pa_nil)) (pe_callB call_len_seq (by rfl) T.nLen PySem.boot_len (pa_cons (pv 8) pa_nil))) (nomark _)) (pss_one (ps_ret pe_bl)) pss_nil))))))))))))))))))) (pss_one (ps_ret pe_bl))), ?_⟩
  refine ⟨by show 1 ≤ sizeLine; decide, fun p0 hp0 => ⟨_, rfl, p0, a, _, _, rfl, rfl, .of upd_same, (Same.upd hp0).seq hS, szl (by simp; omega), fun p1 hp1 => ?_⟩⟩
  have e1 : upd (upd H p0 (.lst [.int 0])) p1 (.lst ([.int 0] ++ ns.map V.int)) p1 = some (.lst ((0 :: ns).map V.int)) := upd_same
  generalize upd (upd H p0 (.lst [.int 0])) p1 (.lst ([.int 0] ++ ns.map V.int)) = G1 at e1
  refine ⟨false, p1, _, rfl, e1, ?_⟩
  refine for_enumK (k := false) (xs := (0 :: ns).map V.int) (fun i σ G => Same G1 G ∧ ∃ z1 z2 z3 z4 z5 z6 z7 z8 z9 z10 z11 z12 z13 z14, σ = [some (.ref a), z1, z2, z3, z4, z5, z6, z7, z8, z9, z10, z11, z12, z13, z14]) ⟨Same.refl _, _, _, _, _, _, _, _, _, _, _, _, _, _, _, rfl⟩ (fun i σ G ⟨s, _⟩ => HSq.sq (k := false) (s _ _ e1)) ?_ ?_
  · rintro i y σ G Tt hy ⟨SG, z1, z2, z3, z4, z5, z6, z7, z8, z9, z10, z11, z12, z13, z14, rfl⟩ hTt
    obtain ⟨c, rfl⟩ : ∃ c : Int, y = .int c := by
      rw [List.getElem?_map] at hy
      cases hc : (0 :: ns)[i]? with
      | none => rw [hc] at hy; cases hy
      | some c => rw [hc] at hy; cases hy; exact ⟨c, rfl⟩
    have S0 : Same G1 (upd G Tt (.tup [.int i, .int c])) := SG.trans (Same.upd hTt)
    refine ⟨Tt, _, rfl, .of upd_same, rfl, _, _, rfl, _, _, rfl, rfl, ?_⟩
    dsimp only [gName]
    generalize upd G Tt (.tup [.int i, .int c]) = G2 at S0
    -- pool
    refine ⟨_, rfl, c, rfl, fun p G3 hp s3 hP => ?_⟩
    dsimp only [gName]
    -- world
    refine ⟨_, rfl, _, rfl, _, rfl, p, _, rfl, by decide, by decide, hP, fun d1 G4 a1 b1 t1 => ⟨_, _, rfl, rfl, _, _, rfl, rfl, by show (0 : Int) < 4; decide, p, _, rfl, t1.pool, fun t Dn un be lo hi ys js wt G5 t5 ht hDn hDnp hGD hPj z _ _ => ?_⟩⟩
    dsimp only [gName]
    have S5 : Same G1 G5 := fun b o e => by
      have e2 := S0 _ _ e
      exact (t1.trans t5).keep _ _ (s3 _ _ e2) (fun z => by rw [z, hp] at e2; cases e2)
    -- row, bounds
    refine ⟨_, rfl, t, Dn, un, be, lo, hi, js, wt, rfl, ⟨ht, ys, hGD, hPj⟩, z, fun r us G6 s6 hr6 hrow6 => ?_⟩
    refine ⟨_, rfl, t, Dn, un, be, lo, hi, js, wt, rfl, ⟨s6 _ _ ht, ys, s6 _ _ hGD, hPj.tups (.of s6)⟩, z, fun ab v1 v2 G7 s7 ha7 w17 w27 => ?_⟩
    refine ⟨by show 2 ≤ sizeLine; decide, fun tt htt => ⟨tt, _, rfl, .of upd_same, rfl, _, _, rfl, _, _, rfl, rfl, ?_⟩⟩
    dsimp only [gName]
    have s8 : Same G7 (upd G7 tt (.tup [.ref r, .ref ab])) := Same.upd htt
    generalize upd G7 tt (.tup [.ref r, .ref ab]) = G8 at s8
    have s78 := s7.trans s8
    have s68 := s6.trans s78
    have L8 : Lw4 G8 t Dn r ab un be lo hi js wt := ⟨⟨s68 _ _ ht, ys, s68 _ _ hGD, hPj.tups (.of s68)⟩, ⟨us, s78 _ _ hr6, hrow6.keeps (.of s78)⟩, ⟨v1, v2, s8 _ _ ha7, w17.same s8, w27.same s8⟩, by rw [List.length_map]; exact z.l1, by rw [List.length_map]; exact z.l8⟩
    have S8 := S5.trans s68
    clear hr6 hrow6 ha7 w17 w27 s6 s7 s8 s78 s68 ht hGD hPj t1 t5 S5 s3 hP hp S0 hTt SG hDn hDnp
    obtain ⟨b0, hb0⟩ : ∃ b0, (js.map (blO un be wt))[0]? = some b0 := ⟨_, List.getElem?_eq_getElem L8.ln.l1⟩
    have pl : plB (tb b0) ((js.map (blO un be wt)).map tb) (wlO un lo) (wlO un hi) = true := plB_true hb0
    have jl8 := z.l8
    -- due
    refine st_mid (fun σ' G => ∃ ld, σ' = [some (.ref a), some (.int i), some (.int c), some (.ref p), some (.ref t), some (.ref r), some (.ref ab), some (.ref ld), z8, z9, z10, z11, z12, z13, z14] ∧ Same G8 G ∧ G ld = some (.lst [.str (wS (bwO lo hi)), .str (wS (bwO lo hi))])) ?_ ?_
    rotate_left
    · intro nx hnx
      refine ⟨by show 1 ≤ sizeLine; decide, fun la hla => ⟨la, _, _, rfl, rfl, upd_same, by decide, by decide, by show 1 * 2 ≤ sizeLine; decide, fun lb hlb => ?_⟩⟩
      have r1 := (Same.upd (o := .lst [.str "even"]) hla).trans (Same.upd (o := .lst (List.replicate (2 : Int).toNat [V.str "even"]).flatten) hlb)
      have e1' : upd (upd G8 la (.lst [.str "even"])) lb (.lst (List.replicate (2 : Int).toNat [V.str "even"]).flatten) lb = some (.lst [.str "even", .str "even"]) := upd_same
      generalize upd (upd G8 la (.lst [.str "even"])) lb (.lst (List.replicate (2 : Int).toNat [V.str "even"]).flatten) = K1 at r1 e1'
      refine ⟨by show 1 ≤ sizeLine; decide, fun lc hlc => ⟨lc, _, _, rfl, rfl, upd_same, by decide, by decide, by show 1 * 2 ≤ sizeLine; decide, fun le hle => ?_⟩⟩
      have r2 := (Same.upd (o := .lst [.str "none"]) hlc).trans (Same.upd (o := .lst (List.replicate (2 : Int).toNat [V.str "none"]).flatten) hle)
      have e2' : upd (upd K1 lc (.lst [.str "none"])) le (.lst (List.replicate (2 : Int).toNat [V.str "none"]).flatten) le = some (.lst [.str "none", .str "none"]) := upd_same
      generalize upd (upd K1 lc (.lst [.str "none"])) le (.lst (List.replicate (2 : Int).toNat [V.str "none"]).flatten) = K2 at r2 e2'
      refine ⟨by show 2 ≤ sizeLine; decide, fun lf hlf => ?_⟩
      have r3 := Same.upd (o := .lst [.ref lb, .ref le]) hlf
      have e3' : upd K2 lf (.lst [.ref lb, .ref le]) lf = some (.lst [.ref lb, .ref le]) := upd_same
      generalize upd K2 lf (.lst [.ref lb, .ref le]) = K3 at r3 e3'
      have r13 := r1.trans (r2.trans r3)
      obtain ⟨v1, v2, hab, w1, w2⟩ := (L8.same r13).ln.walls
      have x1 := wl_ref w1
      have x2 := wl_ref w2
      refine ⟨_, rfl, ab, _, _, _, rfl, rfl, .of hab, at0 .., rfl, _, rfl, ?_⟩
      rw [x1, Bool.not_not]
      cases lo with
      | none => exact iteF (.inr ⟨false, rfl, lf, _, _, _, rfl, rfl, .of e3', rfl, hnx _ _ ⟨lb, rfl, r13, (r2.trans r3) _ _ e1'⟩⟩)
      | some l =>
        refine iteT ⟨_, rfl, ab, _, _, _, rfl, rfl, .of hab, at1 .., rfl, ?_⟩
        rw [x2, Bool.not_not]
        cases hi with
        | none => exact .inr ⟨false, rfl, lf, _, _, _, rfl, rfl, .of e3', rfl, hnx _ _ ⟨lb, rfl, r13, (r2.trans r3) _ _ e1'⟩⟩
        | some h => exact .inr ⟨true, rfl, lf, _, _, _, rfl, rfl, .of e3', rfl, hnx _ _ ⟨le, rfl, r13, r3 _ _ e2'⟩⟩
    rintro σ1 G9 ⟨ld, rfl, s9, hld⟩
    have L9 := L8.same s9
    have S9 := S8.trans s9
    clear L8 S8 s9
    -- ways
    refine st_mid (fun σ' G => ∃ tw, σ' = [some (.ref a), some (.int i), some (.int c), some (.ref p), some (.ref t), some (.ref r), some (.ref ab), some (.ref ld), some (.ref tw), z9, z10, z11, z12, z13, z14] ∧ Same G9 G ∧ G tw = some (.tup (wys (mvB js)))) ?_ ?_
    rotate_left
    · intro nx hnx
      refine ⟨by show 2 ≤ sizeLine; decide, fun t0 ht0 => ?_⟩
      have r1 := Same.upd (o := .tup [.int 0, .int 1]) ht0
      have e1' : upd G9 t0 (.tup [.int 0, .int 1]) t0 = some (.tup [.int 0, .int 1]) := upd_same
      generalize upd G9 t0 (.tup [.int 0, .int 1]) = K1 at r1 e1'
      refine ⟨_, rfl, t, Dn, un, be, lo, hi, js, wt, rfl, (L9.same r1).wo, jl8, fun K2 r2 => .inr ⟨mvB js, rfl, _, _, rfl, rfl, _, rfl, ?_⟩⟩
      cases hmv : mvB js with
      | true => exact .inr ⟨t0, _, rfl, .of (r2 _ _ e1'), ⟨rfl, rfl⟩, hnx _ _ ⟨t0, rfl, r1.trans r2, by rw [hmv]; exact r2 _ _ e1'⟩⟩
      | false => exact .inl ⟨t0, _, rfl, .of (r2 _ _ e1'), (by show ¬ (HT.sIx 2 0 none = 0 ∧ HT.sIx 2 2 (some 1) = 2); decide), fun q hq => hnx _ _ ⟨q, rfl, r1.trans (r2.trans (Same.upd hq)), by rw [hmv]; exact upd_same⟩⟩
    rintro σ1 G10 ⟨tw, rfl, s10, htw⟩
    have L10 := L9.same s10
    have S10 := S9.trans s10
    replace hld := s10 _ _ hld
    clear L9 S9 s10
    -- the first check
    refine st_mid (fun σ' G => σ' = [some (.ref a), some (.int i), some (.int c), some (.ref p), some (.ref t), some (.ref r), some (.ref ab), some (.ref ld), some (.ref tw), z9, z10, z11, z12, z13, z14] ∧ Same G10 G) ?_ ?_
    rotate_left
    · intro nx hnx
      refine ⟨_, rfl, t, Dn, un, be, lo, hi, js, wt, rfl, L10.wo, jl8, fun K2 r2 => ⟨_, rfl, ?_⟩⟩
      cases hmv : mvB js with
      | false => exact iteF (iteF (hnx _ _ ⟨rfl, r2⟩))
      | true =>
        rw [hmv] at htw
        refine iteT ?_
        have L2' := L10.same r2
        unfold tTest tOp
        refine words_run (b := true) (bw := bwO lo hi) rfl rfl rfl (r2 _ _ htw) (fun wy G1 Q' h1 h2 S q => ⟨wy, r, ab, rfl, h1, ?_⟩) fun Dl K3 r3 hDl => ?_
        · have L3' := L2'.same S
          cases lo with
          | none => exact .inl ⟨_, b0, _, _, L3'.ln, hb0, .inr ⟨pl, .inl rfl⟩, q⟩
          | some l =>
            cases hi with
            | none => exact .inl ⟨_, b0, _, _, L3'.ln, hb0, .inr ⟨pl, .inr rfl⟩, q⟩
            | some h =>
              have eh : h = l + (h - l) := by omega
              rw [eh] at z L3'
              refine .inr ⟨un, be, l, h - l, wt, js, L3'.ln, z, fun _ e => ?_, q⟩
              have := (mvB_iff js).mpr (z.phj.mv.mp e)
              rw [hmv] at this; cases this
        · exact ⟨_, rfl, ne_same (.lst hDl (rds_rep _ _)) (.lst (r3 _ _ (r2 _ _ hld)) (.cons (.str _) (.cons (.str _) .nil))) (sh_w2 _) ⟨_, rfl, iteF (hnx _ _ ⟨rfl, r2.trans r3⟩)⟩⟩
    rintro σ1 G11 ⟨rfl, s11⟩
    have L11 := L10.same s11
    have S11 := S10.trans s11
    replace hld := s11 _ _ hld
    replace htw := s11 _ _ htw
    clear L10 S10 s11
    -- balls
    refine st_mid (fun σ' G => ∃ (Db : Addr) (ms ns : List Int), σ' = [some (.ref a), some (.int i), some (.int c), some (.ref p), some (.ref t), some (.ref r), some (.ref ab), some (.ref ld), some (.ref tw), some (.ref Db), z10, z11, z12, z13, z14] ∧ Same G11 G ∧ G Db = some (.lst (ms.map V.int)) ∧ ms.Perm ns ∧ ms.Pairwise (· ≤ ·) ∧ ns.Nodup ∧ ns.length ≤ js.length ∧ (∀ n, n ∈ ns ↔ ∃ u ∈ js, u.1 = n)) ?_ ?_
    rotate_left
    · intro nx hnx
      obtain ⟨ys, hDn, hPn⟩ := L11.wo.lst
      have yl := hPn.1
      refine ⟨_, rfl, t, _, _, _, rfl, rfl, .of L11.wo.tup, rfl, Dn, rfl, ⟨_, SqL.of hDn⟩, fun Dc hDc => ?_⟩
      refine comp_each (J := Itl K Dn) (g := gTup K 2 (gCons (gName 0) (gCons (gName 1) gNil))) (te := tTup (tCons (tVar 0) (tCons (tC (.bl true)) tNil))) (n := 2) (xs := ys) (fun i v G => ∃ u x, js[i]? = some u ∧ v = .ref x ∧ G x = some (.tup [.int u.1, .bl true])) (fun i v G G' e ⟨u, x, q0, q1, q2⟩ => ⟨u, x, q0, q1, e _ _ q2⟩) hDc (runs_list hDn) (small20 (by omega)) ?_ ?_
      · intro i y zs G5 Q' hy hz S5 hQ
        obtain ⟨u, x, eu, rfl, hx⟩ := hPn.2 i y hy
        obtain ⟨w1, w2, rfl⟩ := len2 hz
        refine ⟨x, _, rfl, .of (S5 _ _ hx), rfl, _, _, rfl, _, _, rfl, rfl, ?_⟩
        exact ⟨_, rfl, by show 2 ≤ sizeLine; decide, fun q hq => hQ _ _ (Same.upd hq) ⟨u, q, eu, rfl, upd_same⟩⟩
      intro us5 K1 r1 hK1 hul hR
      obtain ⟨ns', ek, nd, ll, mem⟩ := keys_places js
      refine ⟨Dc, us5, js.map plK, rfl, hK1, ⟨by rw [List.length_map]; omega, fun i v e => let ⟨u, x, q0, q1, q2⟩ := hR i v e; ⟨x, Sum.inl u.1, .bl true, q1, q2, by rw [List.getElem?_map, q0]; rfl⟩⟩, fun d hd => ⟨d, _, rfl, upd_same, fun v hv => ⟨v, d, _, ns', rfl, upd_same, Same.upd hv _ _ upd_same, ek, by omega, fun Ds ms hDs pm sm => hnx _ _ ⟨Ds, ms, ns', rfl, r1.trans ((Same.upd hd).trans ((Same.upd hv).trans (Same.upd hDs))), upd_same, pm, sm, nd, ll, mem⟩⟩⟩⟩
    rintro σ1 G12 ⟨Db, ms, nn, rfl, s12, hDb, pm, sm, nd, ll, mem⟩
    have L12 := L11.same s12
    have S12 := S11.trans s12
    replace hld := s12 _ _ hld
    replace htw := s12 _ _ htw
    clear L11 S11 s12
    have z0 := z.rest pm sm nd ll mem
    have ml : ms.length ≤ 8 := by rw [pm.length_eq]; omega
    -- still
    refine st_mid (fun σ' G => ∃ ts Dt, σ' = [some (.ref a), some (.int i), some (.int c), some (.ref p), some (.ref t), some (.ref r), some (.ref ab), some (.ref ld), some (.ref tw), some (.ref Db), some (.ref ts), z11, z12, z13, z14] ∧ Same G12 G ∧ WoAt G ts Dt un be lo hi (stlJ ms) wt) ?_ ?_
    rotate_left
    · intro nx hnx
      have ht12 := L12.wo.tup
      refine ⟨_, rfl, _, rfl, t, _, rfl, .of ht12, (by show ¬ (HT.sIx 6 0 none = 0 ∧ HT.sIx 6 6 (some 4) = 6); decide), fun q2 hq2 => ?_⟩
      have sq2 := Same.upd (o := .tup (cutV [.int un, .int be, lv lo, lv hi, .ref Dn, .int wt] none (some 4))) hq2
      have hq2' : upd G12 q2 (.tup (cutV [.int un, .int be, lv lo, lv hi, .ref Dn, .int wt] none (some 4))) q2 = some (.tup [.int un, .int be, lv lo, lv hi]) := upd_same
      generalize upd G12 q2 (.tup (cutV [.int un, .int be, lv lo, lv hi, .ref Dn, .int wt] none (some 4))) = K1 at sq2 hq2'
      have hDb1 := sq2 _ _ hDb
      refine ⟨_, rfl, Db, rfl, ⟨_, SqL.of hDb1⟩, fun Dt hDt => ?_⟩
      refine comp_each (J := Itl K Db) (g := gName 0) (te := tTup (tCons (tVar 0) (tCons (tC (.int 0)) tNil))) (n := 1) (xs := ms.map V.int) (fun i v G => ∃ (m : Int) (x : Addr), ms[i]? = some m ∧ v = .ref x ∧ G x = some (.tup [.int m, .int 0])) (fun i v G G' e ⟨u, x, q0, q1, q2⟩ => ⟨u, x, q0, q1, e _ _ q2⟩) hDt (runs_list hDb1) (small20 (by rw [List.length_map]; omega)) ?_ ?_
      · intro i y zs G5 Q' hy hz S5 hQ
        rw [List.getElem?_map] at hy
        cases hm : ms[i]? with
        | none => rw [hm] at hy; cases hy
        | some m =>
        rw [hm] at hy; cases hy
        obtain ⟨w1, rfl⟩ := len1 hz
        exact ⟨_, rfl, by show 2 ≤ sizeLine; decide, fun q hq => hQ _ _ (Same.upd hq) ⟨m, q, hm, rfl, upd_same⟩⟩
      intro us5 K2 r2 hK2 hul hR
      refine ⟨_, rfl, t, _, _, _, rfl, rfl, .of (r2 _ _ (sq2 _ _ ht12)), rfl, by show 2 ≤ sizeLine; decide, fun q3 hq3 => ?_⟩
      have sq3 := Same.upd (o := .tup [.ref Dt, .int wt]) hq3
      refine cat_get (sq3 _ _ (r2 _ _ hq2')) upd_same (by show 6 ≤ 1000; decide) fun tr K3 sq4 htr => ?_
      have s24 := sq3.trans sq4
      refine hnx _ _ ⟨tr, Dt, rfl, sq2.trans (r2.trans s24), htr, us5, s24 _ _ hK2, ?_, fun i v e => ?_⟩
      · unfold stlJ; rw [List.length_map] at hul ⊢; exact hul
      · obtain ⟨m, x, q0, q1, q2⟩ := hR i v e
        exact ⟨(m, 0), x, by unfold stlJ; rw [List.getElem?_map, q0]; rfl, q1, s24 _ _ q2⟩
    rintro σ1 G13 ⟨ts, Dt, rfl, s13, wo0⟩
    have L13 := L12.same s13
    have S13 := S12.trans s13
    replace hld := s13 _ _ hld
    replace htw := s13 _ _ htw
    clear L12 S12 s13 hDb
    -- the second check
    refine st_mid (fun σ' G => σ' = [some (.ref a), some (.int i), some (.int c), some (.ref p), some (.ref t), some (.ref r), some (.ref ab), some (.ref ld), some (.ref tw), some (.ref Db), some (.ref ts), z11, z12, z13, z14] ∧ Same G13 G) ?_ ?_
    rotate_left
    · intro nx hnx
      refine ⟨_, rfl, ld, _, _, _, rfl, rfl, .of hld, at0 .., rfl, _, rfl, ?_⟩
      cases lo with
      | none => exact ite2 (fun q => absurd (of_decide_eq_true q) (by intro e; injection e with e; exact absurd e (show ¬ (wS false = Str.ofString "none") by decide +kernel))) (fun _ => iteF (hnx _ _ ⟨rfl, Same.refl _⟩))
      | some l =>
        cases hi with
        | none => exact ite2 (fun q => absurd (of_decide_eq_true q) (by intro e; injection e with e; exact absurd e (show ¬ (wS false = Str.ofString "none") by decide +kernel))) (fun _ => iteF (hnx _ _ ⟨rfl, Same.refl _⟩))
        | some h =>
          have eh : h = l + (h - l) := by omega
          refine ite2 (fun _ => ?_) (fun q => absurd (decide_eq_true rfl) q)
          rw [eh] at z0 wo0 L13
          refine ro_callS (i := 10) (j := 6) rfl rfl wo0 z0 L13.ln.walls (fun _ K2 r2 => ⟨rfl, _, rfl, iteF (hnx _ _ ⟨rfl, r2⟩)⟩) (fun ne => absurd (z0.phj.mv.mpr fun u m => ?_) ne)
          obtain ⟨x, _, rfl⟩ := List.mem_map.mp m; rfl
    rintro σ1 G14 ⟨rfl, s14⟩
    have L14 := L13.same s14
    have S14 := S13.trans s14
    replace htw := s14 _ _ htw
    clear L13 S13 s14 hld wo0
    obtain ⟨bs, hbs⟩ : ∃ bs, bs = js.map (blO un be wt) := ⟨_, rfl⟩
    have lz := z.lnz
    have ln := L14.ln
    have hw : ∀ b ∈ bs, b.wt = wt := fun b m => by rw [hbs] at m; obtain ⟨u, _, rfl⟩ := List.mem_map.mp m; rfl
    rw [← hbs] at lz ln hb0 pl
    have wt1 := z.wt
    clear L14 z0 pm sm nd ll mem
    -- uneven
    refine st_mid (fun σ' G => ∃ z11', σ' = [some (.ref a), some (.int i), some (.int c), some (.ref p), some (.ref t), some (.ref r), some (.ref ab), some (.ref ld), some (.ref tw), some (.ref Db), some (.ref ts), z11', z12, z13, z14] ∧ Same G14 G) ?_ ?_
    rotate_left
    · intro nx hnx
      obtain ⟨us, hr, hrow⟩ := ln.row
      have hul := hrow.1
      refine ⟨_, rfl, r, us, rfl, .inr (.of hr), _, _, rfl, rfl, _, rfl, ite2 (fun h => ?_) (fun h => hnx _ _ ⟨_, rfl, Same.refl _⟩)⟩
      have h1 : (1 : Int) < us.length := of_decide_eq_true h
      have hl1 : 1 < bs.length := by omega
      obtain ⟨b, bt, eb⟩ : ∃ b bt, bs = b :: bt := by
        cases bs with
        | nil => simp at hl1
        | cons b bt => exact ⟨b, bt, rfl⟩
      obtain ⟨u0, ut, eu⟩ : ∃ u0 ut, us = u0 :: ut := by
        cases us with
        | nil => simp at h1
        | cons b bt => exact ⟨b, bt, rfl⟩
      subst eu
      obtain ⟨b', eb', a1, p1, q1, rfl, ha1, hp1, hq1⟩ := hrow.2 0 u0 rfl
      rw [eb] at eb'; cases eb'
      refine ⟨_, rfl, r, _, _, _, rfl, rfl, .of hr, at_hd .., _, rfl, a1, _, rfl, .of ha1, (by show ¬ (HT.sIx 3 0 none = 0 ∧ HT.sIx 3 3 (some 2) = 3); decide), fun q2 hq2 => ?_⟩
      have S2 := Same.upd (o := .tup (cutV [.ref p1, .ref q1, .int b.wt] none (some 2))) hq2
      have hq2' : upd G14 q2 (.tup (cutV [.ref p1, .ref q1, .int b.wt] none (some 2))) q2 = some (.tup [.ref p1, .ref q1]) := upd_same
      generalize upd G14 q2 (.tup (cutV [.ref p1, .ref q1, .int b.wt] none (some 2))) = K1 at S2 hq2'
      refine ⟨_, rfl, r, _, _, _, rfl, rfl, .of (S2 _ _ hr), at_hd .., a1, _, _, _, rfl, rfl, .of (S2 _ _ ha1), rfl, _, _, rfl, rfl, by show (0 : Int) < 1000; decide, _, _, rfl, rfl, by show 1 ≤ sizeLine; decide, fun q3 hq3 => ?_⟩
      have S3 := Same.upd (o := .tup [.int (1 + b.wt % 1000)]) hq3
      refine cat_get (S3 _ _ hq2') upd_same (by show 3 ≤ 1000; decide) fun q4 K2 s4 hq4 => ⟨by show 1 ≤ sizeLine; decide, fun q5 hq5 => ?_⟩
      have S24 := S2.trans (S3.trans s4)
      have S5 := Same.upd (o := .tup [.ref q4]) hq5
      have hq5' : upd K2 q5 (.tup [.ref q4]) q5 = some (.tup [.ref q4]) := upd_same
      generalize upd K2 q5 (.tup [.ref q4]) = K3 at S5 hq5'
      have S25 := S24.trans S5
      refine ⟨_, rfl, _, rfl, r, _, rfl, .of (S25 _ _ hr), fun e => absurd e.1 ?_, fun q6 hq6 => ?_⟩
      · show ¬ (HT.sIx (_ + 1) 0 (some ((1 : Nat) : Int)) = 0)
        rw [HT.sIx_nat]; omega
      have ecut : cutV (.ref a1 :: ut) (some 1) none = ut := by
        show cutV (.ref a1 :: ut) (some ((1 : Nat) : Int)) none = ut
        unfold cutV
        rw [HT.sIx_nat, HT.sIx_none, Nat.min_eq_left (by simp)]
        show List.take _ ut = ut
        exact List.take_of_length_le (by simp)
      have S6 := Same.upd (o := .tup (cutV (.ref a1 :: ut) (some 1) none)) hq6
      refine cat_get (S6 _ _ hq5') upd_same (by rw [ecut]; simp at hul ⊢; have := ln.l8; omega) fun q7 K4 s7 hq7 => ?_
      rw [ecut] at hq7
      have S67 := S6.trans s7
      have S27 := S25.trans S67
      dsimp only [gName]
      have lnU : Ln K4 q7 ab (unB bs) (wlO un lo) (wlO un hi) := by
        refine ⟨⟨_, hq7, ?_, fun m v e => ?_⟩, (ln.same S27).walls, ?_, ?_⟩
        · rw [eb]; show _ = (_ :: bt).length; rw [eb] at hul; simpa using hul
        · rw [eb]
          match m, e with
          | 0, e =>
            cases e
            exact ⟨_, rfl, q4, p1, q1, rfl, (S5.trans S67) _ _ hq4, S27 _ _ hp1, S27 _ _ hq1⟩
          | m + 1, e =>
            obtain ⟨b'', e1, e2⟩ := hrow.2 (m + 1) v (by simpa using e)
            rw [eb] at e1
            exact ⟨b'', by simpa [unB] using e1, e2.keeps (.of S27)⟩
        · rw [eb]; show 1 ≤ (_ :: bt).length; simp
        · have := ln.l8; rw [eb] at this ⊢; exact this
      have pf : plB (tb ⟨b.pl, b.sp, 1 + b.wt % 1000⟩) ((unB bs).map tb) (wlO un lo) (wlO un hi) = false := by
        obtain ⟨b2, bt2, eb2⟩ : ∃ b2 bt2, bt = b2 :: bt2 := by
          cases bt with
          | nil => rw [eb] at hl1; simp at hl1
          | cons x y => exact ⟨x, y, rfl⟩
        have m2 : b2 ∈ unB bs := by rw [eb, eb2]; simp [unB]
        refine plB_ev m2 ?_
        have w2 := hw b2 (by rw [eb, eb2]; simp)
        have w1' := hw b (by rw [eb]; simp)
        show b2.wt ≠ 1 + b.wt % 1000
        omega
      exact chkE (i := 11) (j := 6) (b := mvB js) rfl rfl rfl (S27 _ _ htw) lnU (by rw [eb]; rfl) (.inl pf) fun K5 r5 => hnx _ _ ⟨_, rfl, S27.trans r5⟩
    rintro σ1 G15 ⟨z11', rfl, s15⟩
    have ln15 := ln.same s15
    have S15 := S14.trans s15
    replace htw := s15 _ _ htw
    clear ln S14 s15
    obtain ⟨us3, hr17, hrow17⟩ := ln15.row
    have hul3 := hrow17.1
    have bl8 := ln15.l8
    have bl1 := ln15.l1
    -- spots
    refine ⟨_, rfl, r, rfl, ⟨_, SqT.of hr17⟩, fun Ds hDs => ?_⟩
    refine compC_each (js := []) (J := Itt K r) (g := gName 0) (te := _) (n := 1) (xs := us3) (fun m v G => ∃ x : Int, v = .int x) (fun m v G G' e h => h) hDs (runs_tup hr17) (small20 (by omega)) ?_ ?_
    · intro m y zs G Q' hy hz S hQ
      obtain ⟨b, eb, a1, p1, q1, rfl, ha1, hp1, hq1⟩ := hrow17.2 m y hy
      obtain ⟨y1, rfl⟩ := len1 hz
      have sb := (lz.sz _ (ths_b (List.mem_of_getElem? eb))).1.2
      have ha1' := S _ _ ha1
      have hp1' : RatAt G p1 b.pl := S _ _ hp1
      dsimp only [gName]
      exact ⟨rfl, _, rfl, a1, _, _, _, rfl, rfl, .of ha1', rfl, p1, _, _, _, rfl, rfl, .of hp1', at0 .., _, rfl, a1, _, _, _, rfl, rfl, .of ha1', rfl, p1, _, _, _, rfl, rfl, .of hp1', at1 .., _, _, rfl, rfl, ⟨den_ne _, sb.mono (by decide)⟩, hQ _ _ (Same.refl _) ⟨_, rfl⟩⟩
    intro ysp G16 s16 hG16 hysl hRsp
    obtain ⟨nsp, rfl⟩ := intsV (ys := ysp) fun v m => by
      obtain ⟨m', hm', e⟩ := List.mem_iff_getElem.mp m
      exact hRsp m' v (by rw [List.getElem?_eq_getElem hm', e])
    dsimp only [gName]
    have npos : 0 < nsp.length := by rw [List.length_map] at hysl; omega
    have ln16 := ln15.same s16
    have S16 := S15.trans s16
    replace htw := s16 _ _ htw
    clear ln15 S15 s16 hrow17 hr17
    -- going
    refine ⟨_, rfl, Ds, nsp, rfl, SqL.of hG16, npos, fun M _ _ => ⟨_, _, rfl, rfl, ?_⟩⟩
    refine ⟨by show 2 ≤ sizeLine; decide, fun t1 ht1 => ?_⟩
    have rt1 := Same.upd (o := .tup [.int (M - 2), .int 1]) ht1
    have et1 : upd G16 t1 (.tup [.int (M - 2), .int 1]) t1 = some (.tup [.int (M - 2), .int 1]) := upd_same
    generalize upd G16 t1 (.tup [.int (M - 2), .int 1]) = K1 at rt1 et1
    refine ⟨_, rfl, by show 2 ≤ sizeLine; decide, fun t2 ht2 => ?_⟩
    have rt2 := Same.upd (o := .tup [.int (-1), .int 3]) ht2
    have et2 : upd K1 t2 (.tup [.int (-1), .int 3]) t2 = some (.tup [.int (-1), .int 3]) := upd_same
    generalize upd K1 t2 (.tup [.int (-1), .int 3]) = K2 at rt2 et2
    refine ⟨by show 2 ≤ sizeLine; decide, fun t3 ht3 => ?_⟩
    have rt3 := Same.upd (o := .tup [.ref t1, .ref t2]) ht3
    have et3 : upd K2 t3 (.tup [.ref t1, .ref t2]) t3 = some (.tup [.ref t1, .ref t2]) := upd_same
    generalize upd K2 t3 (.tup [.ref t1, .ref t2]) = K3 at rt3 et3
    have hD3 := rt3 _ _ (rt2 _ _ (rt1 _ _ hG16))
    refine ⟨_, rfl, Ds, nsp, rfl, SqL.of hD3, npos, fun M2 _ _ => ⟨_, _, rfl, rfl, ?_⟩⟩
    refine ⟨by show 2 ≤ sizeLine; decide, fun t4 ht4 => ?_⟩
    have rt4 := Same.upd (o := .tup [.int (M2 + 2), .int 1]) ht4
    have et4 : upd K3 t4 (.tup [.int (M2 + 2), .int 1]) t4 = some (.tup [.int (M2 + 2), .int 1]) := upd_same
    generalize upd K3 t4 (.tup [.int (M2 + 2), .int 1]) = K4 at rt4 et4
    refine ⟨by show 2 ≤ sizeLine; decide, fun t5 ht5 => ?_⟩
    have rt5 := Same.upd (o := .tup [.int 0, .int 1]) ht5
    have et5 : upd K4 t5 (.tup [.int 0, .int 1]) t5 = some (.tup [.int 0, .int 1]) := upd_same
    generalize upd K4 t5 (.tup [.int 0, .int 1]) = K5 at rt5 et5
    refine ⟨by show 3 ≤ sizeLine; decide, fun tg htg => ?_⟩
    have rtg := Same.upd (o := .tup [.ref t3, .ref t4, .ref t5]) htg
    have etg : upd K5 tg (.tup [.ref t3, .ref t4, .ref t5]) tg = some (.tup [.ref t3, .ref t4, .ref t5]) := upd_same
    generalize upd K5 tg (.tup [.ref t3, .ref t4, .ref t5]) = K6 at rtg etg
    dsimp only [gName]
    have r36 := rt4.trans (rt5.trans rtg)
    refine ⟨_, rfl, tg, _, _, _, rfl, rfl, .of etg, rfl, _, rfl, tg, _, _, _, rfl, rfl, .of etg, rfl, _, rfl, tg, _, _, _, rfl, rfl, .of etg, rfl, by show 2 ≤ sizeLine; decide, fun t6 ht6 => ?_⟩
    have rt6 := Same.upd (o := .tup [.ref t4, .ref t5]) ht6
    have et6 : upd K6 t6 (.tup [.ref t4, .ref t5]) t6 = some (.tup [.ref t4, .ref t5]) := upd_same
    generalize upd K6 t6 (.tup [.ref t4, .ref t5]) = K7 at rt6 et6
    refine ⟨by show 2 ≤ sizeLine; decide, fun pa hpa => ?_⟩
    have rpa := Same.upd (o := .tup [.ref t3, .ref t6]) hpa
    have epa : upd K7 pa (.tup [.ref t3, .ref t6]) pa = some (.tup [.ref t3, .ref t6]) := upd_same
    generalize upd K7 pa (.tup [.ref t3, .ref t6]) = K8 at rpa epa
    have r68 := rt6.trans rpa
    have hD8 := r68 _ _ (r36 _ _ hD3)
    refine ⟨_, rfl, Ds, nsp, rfl, SqL.of hD8, npos, fun M3 _ _ => ⟨_, _, rfl, rfl, ?_⟩⟩
    refine ⟨by show 2 ≤ sizeLine; decide, fun t7 ht7 => ?_⟩
    have rt7 := Same.upd (o := .tup [.int (M3 - 2), .int 1]) ht7
    have et7 : upd K8 t7 (.tup [.int (M3 - 2), .int 1]) t7 = some (.tup [.int (M3 - 2), .int 1]) := upd_same
    generalize upd K8 t7 (.tup [.int (M3 - 2), .int 1]) = K9 at rt7 et7
    refine ⟨by show 2 ≤ sizeLine; decide, fun t8 ht8 => ?_⟩
    have rt8 := Same.upd (o := .tup [.int 0, .int 1]) ht8
    have et8 : upd K9 t8 (.tup [.int 0, .int 1]) t8 = some (.tup [.int 0, .int 1]) := upd_same
    generalize upd K9 t8 (.tup [.int 0, .int 1]) = K10 at rt8 et8
    refine ⟨by show 2 ≤ sizeLine; decide, fun t9 ht9 => ?_⟩
    have rt9 := Same.upd (o := .tup [.ref t7, .ref t8]) ht9
    have et9 : upd K10 t9 (.tup [.ref t7, .ref t8]) t9 = some (.tup [.ref t7, .ref t8]) := upd_same
    generalize upd K10 t9 (.tup [.ref t7, .ref t8]) = K11 at rt9 et9
    have r811 := rt7.trans (rt8.trans rt9)
    refine ⟨_, rfl, tg, _, _, _, rfl, rfl, .of (r811 _ _ (r68 _ _ etg)), rfl, by show 2 ≤ sizeLine; decide, fun t10 ht10 => ?_⟩
    have rt10 := Same.upd (o := .tup [.int 1, .int 3]) ht10
    have et10 : upd K11 t10 (.tup [.int 1, .int 3]) t10 = some (.tup [.int 1, .int 3]) := upd_same
    generalize upd K11 t10 (.tup [.int 1, .int 3]) = K12 at rt10 et10
    refine ⟨by show 2 ≤ sizeLine; decide, fun t11 ht11 => ?_⟩
    have rt11 := Same.upd (o := .tup [.ref t4, .ref t10]) ht11
    have et11 : upd K12 t11 (.tup [.ref t4, .ref t10]) t11 = some (.tup [.ref t4, .ref t10]) := upd_same
    generalize upd K12 t11 (.tup [.ref t4, .ref t10]) = K13 at rt11 et11
    refine ⟨by show 2 ≤ sizeLine; decide, fun pb hpb => ?_⟩
    have rpb := Same.upd (o := .tup [.ref t9, .ref t11]) hpb
    have epb : upd K13 pb (.tup [.ref t9, .ref t11]) pb = some (.tup [.ref t9, .ref t11]) := upd_same
    generalize upd K13 pb (.tup [.ref t9, .ref t11]) = K14 at rpb epb
    refine ⟨by show 2 ≤ sizeLine; decide, fun ta hta => ?_⟩
    have rta := Same.upd (o := .tup [.ref pa, .ref pb]) hta
    have eta : upd K14 ta (.tup [.ref pa, .ref pb]) ta = some (.tup [.ref pa, .ref pb]) := upd_same
    generalize upd K14 ta (.tup [.ref pa, .ref pb]) = K15 at rta eta
    have r1115 := rt10.trans (rt11.trans (rpb.trans rta))
    have r815 := r811.trans r1115
    have r615 := r68.trans r815
    have r315 := r36.trans r615
    have r1615 := rt1.trans (rt2.trans (rt3.trans r315))
    have ln17 := ln16.same r1615
    have lnA : Ln K15 r pa bs (some (((M - 2 : Int) : Rat), Rat.divInt (-1) 3)) (some (((M2 + 2 : Int) : Rat), 0)) := ⟨ln17.row, ⟨.ref t3, .ref t6, r815 _ _ epa, ⟨t3, t1, t2, rfl, r315 _ _ et3, rat_int (r315 _ _ (rt3 _ _ (rt2 _ _ et1))), mthird_at (r315 _ _ (rt3 _ _ et2))⟩, ⟨t6, t4, t5, rfl, r815 _ _ (rpa _ _ et6), rat_int (r615 _ _ (rtg _ _ (rt5 _ _ et4))), nought_at (r615 _ _ (rtg _ _ et5))⟩⟩, bl1, bl8⟩
    have lnB : Ln K15 r pb bs (some (((M3 - 2 : Int) : Rat), 0)) (some (((M2 + 2 : Int) : Rat), Rat.divInt 1 3)) := ⟨ln17.row, ⟨.ref t9, .ref t11, rta _ _ epb, ⟨t9, t7, t8, rfl, r1115 _ _ et9, rat_int (r1115 _ _ (rt9 _ _ (rt8 _ _ et7))), nought_at (r1115 _ _ (rt9 _ _ et8))⟩, ⟨t11, t4, t10, rfl, rta _ _ (rpb _ _ et11), rat_int (r615 _ _ (rtg _ _ (rt5 _ _ et4))), third_at (rta _ _ (rpb _ _ (rt11 _ _ et10)))⟩⟩, bl1, bl8⟩
    have nbA : noB (tb b0) (bs.map tb) (some (((M - 2 : Int) : Rat), Rat.divInt (-1) 3)) (some (((M2 + 2 : Int) : Rat), 0)) := .inl (by unfold plB; rw [st_mthird, Bool.false_and, Bool.and_false])
    have nbB : noB (tb b0) (bs.map tb) (some (((M3 - 2 : Int) : Rat), 0)) (some (((M2 + 2 : Int) : Rat), Rat.divInt 1 3)) := .inl (by unfold plB; rw [st_third, Bool.and_false, Bool.and_false])
    have S17 := S16.trans r1615
    replace htw := r1615 _ _ htw
    refine ⟨ta, rfl, ⟨_, SqT.of eta⟩, ?_⟩
    refine for_tup (xs := [.ref pa, .ref pb]) (fun m σ' G => Same K15 G ∧ ∃ y14, σ' = [some (.ref a), some (.int i), some (.int c), some (.ref p), some (.ref t), some (.ref r), some (.ref ab), some (.ref ld), some (.ref tw), some (.ref Db), some (.ref ts), z11', some (.ref Ds), some (.ref tg), y14]) ⟨Same.refl _, _, rfl⟩ (fun m σ' G _ h => SqT.of (h.1 _ _ eta)) ?_ ?_
    · rintro m x σ' G hx ⟨sG, y14, rfl⟩
      dsimp only [gName]
      match m, hx with
      | 0, hx => cases hx; exact chkE (i := 5) (j := 14) (b := mvB js) rfl rfl rfl (sG _ _ htw) (lnA.same sG) hb0 nbA fun G' s' => ⟨sG.trans s', _, rfl⟩
      | 1, hx => cases hx; exact chkE (i := 5) (j := 14) (b := mvB js) rfl rfl rfl (sG _ _ htw) (lnB.same sG) hb0 nbB fun G' s' => ⟨sG.trans s', _, rfl⟩
      | m + 2, hx => simp at hx
    · rintro σ' G ⟨sG, y14, rfl⟩
      exact ⟨S17.trans sG, _, _, _, _, _, _, _, _, _, _, _, _, _, _, rfl⟩
  · rintro σ G _
    exact k G
end
end KK
end
section
set_option maxHeartbeats 8000000
set_option Elab.async false
set_option linter.all false
set_option maxRecDepth 100000
namespace KK
open PySem L2 KM PySem.W
def xKB (K : Frag) (C : Addr) : Bool := findIn K (.ref C) "__getattribute__" == some (some (.builtin "BaseException.__getattribute__")) && findIn K (.ref C) "__getattr__" == some none && subIn K (.ref C) (.type "BaseException") == some true && mroIn K C (.type "object") == some true && hasDictIn K C &&
  findIn K (.ref C) "__class__" == some (some (.builtin "object.__class__")) && specialIn K (.builtin "object.__class__") "__get__" == some (some (.builtin "getset_descriptor.__get__")) && takesIn K (.builtin "object.__class__") == some true
theorem xK_of {K : Frag} {C : Addr} (h : xKB K C = true) : ExcK K C := by
  simp only [xKB, Bool.and_eq_true, beq_iff_eq] at h
  obtain ⟨⟨⟨⟨⟨⟨⟨h1, h2⟩, h3⟩, h4⟩, h5⟩, h6⟩, h7⟩, h8⟩ := h
  exact ⟨h1, h2, h3, h4, h5, h6, h7, h8⟩
theorem own_mk {K : Frag} {h : Heap} {mg : Str → Option Value} {x : Str} {C : Addr} (X : K.In h) (G : h.Ns mainGlobals mg) (e : nsIn K mainGlobals x = some (some (.ref C))) (q : excIn K C vMro "ValueError.__new__" = true) : OwnV x C mg h := by
  unfold excIn at q
  split at q
  case h_2 => cases q
  case h_1 dd cd sl ho =>
    split at q
    case h_2 => cases q
    case h_1 C' bm k0 k1 k2 k3 n k5 hm hs =>
      obtain ⟨cnm, cbs, cmro, cns, cqn, chd, csn, csub, cab, ccol, cdel⟩ := cd
      obtain ⟨sll⟩ := sl
      simp only at hm hs q
      subst hm; subst hs
      simp only [Bool.and_eq_true, beq_iff_eq, Bool.not_eq_true'] at q
      obtain ⟨⟨⟨⟨⟨eC, en⟩, ed⟩, et⟩, eo⟩, ei⟩ := q
      subst eC; subst en; subst ed
      exact ⟨mg_of X G e, bm, cns, cnm, cqn, cbs, chd, csn, csub, cab, ccol, dd, k0, k1, k2, k3, k5, _, X _ _ ho, .of_isNs (isNs_of_in X eo), nsMap_none_of_in X eo ei, tail_of_in X et⟩
end KK
end
set_option linter.all false
def PySem.W.Fast.tw11221836140505442335 : Nat := 0
def PySem.W.Fast.tw7951185456270049994 : Nat := 0
def PySem.W.Fast.tw7256486644967811421 : Nat := 0
def PySem.W.Fast.tw6873123996373589087 : Nat := 0
def PySem.W.Fast.tw1654935122647243791 : Nat := 0
def PySem.W.Fast.tw4787209779605450329 : Nat := 0
def PySem.W.Fast.tw8053580564985860253 : Nat := 0
def PySem.W.Fast.tw7816319143369771666 : Nat := 0
def PySem.W.Fast.tw4782567549248994213 : Nat := 0
def PySem.W.Fast.tw14645610882924057711 : Nat := 0
def PySem.W.Fast.tw6609989566452399324 : Nat := 0
def PySem.W.Fast.tw6589192591750647698 : Nat := 0
def PySem.W.Fast.tw13078425404744176321 : Nat := 0
def PySem.W.Fast.tw8893815632194558937 : Nat := 0
def PySem.W.Fast.tw15245000248137552333 : Nat := 0
def PySem.W.Fast.tw17472579317003805993 : Nat := 0
def PySem.W.Fast.tw2034451273520039178 : Nat := 0
def PySem.W.Fast.tw348727342851624766 : Nat := 0
def PySem.W.Fast.tw1220465989889044723 : Nat := 0
def PySem.W.Fast.tw17052571285898346102 : Nat := 0
def PySem.W.Fast.tw15299137889737481689 : Nat := 0
def PySem.W.Fast.tw11699068118988511898 : Nat := 0
section
set_option maxHeartbeats 8000000
set_option Elab.async false
set_option linter.all false
set_option maxRecDepth 100000
namespace KK
open PySem L2 KM
theorem kit_ii (K : PySem.W.Frag) : PySem.W.kitOne K (.type "int") (.type "int") = some true := by
  unfold PySem.W.kitOne; rw [if_pos (by decide +kernel)]
theorem kit_ib (K : PySem.W.Frag) : PySem.W.kitOne K (.type "int") (.type "bool") = some false := by
  with_unfolding_all rfl
theorem kit_tt (K : PySem.W.Frag) : PySem.W.kitOne K (.type "tuple") (.type "tuple") = some true := by
  unfold PySem.W.kitOne; rw [if_pos (by decide +kernel)]
theorem all_mk {l : PySem.W.OpenLaw} {w : World} {K : PySem.W.Frag} {h : Heap} {mg : Str → Option Value} {fa : Addr} (X : K.In h) (G : h.Ns mainGlobals mg) (hfa : mg "law" = some (.ref fa))
    {f0 : Addr} {od0 an0 : Option Addr} {sl0 : Array (Option Value)} {oc0 kV0 dc0 pm0 cd0 ct0 : Value}
    (a0 : PySem.W.nsIn K mainGlobals "is_whole" = some (some (.ref f0))) (l0 : K.lookup f0 = some ⟨oc0, od0, .func (PySem.W.fnOf "is_whole" "is_whole" (defArgs s_is_whole) (defBody s_is_whole) (defScope s_is_whole) .none kV0 dc0 pm0 an0 cd0 ct0), sl0⟩) (c0 : PySem.W.codeIn K cd0 "is_whole" = true) (k0 : PySem.W.keepIn K (.ref f0) = true)
    {f1 : Addr} {od1 an1 : Option Addr} {sl1 : Array (Option Value)} {oc1 kV1 dc1 pm1 cd1 ct1 : Value}
    (a1 : PySem.W.nsIn K mainGlobals "is_tuple" = some (some (.ref f1))) (l1 : K.lookup f1 = some ⟨oc1, od1, .func (PySem.W.fnOf "is_tuple" "is_tuple" (defArgs s_is_tuple) (defBody s_is_tuple) (defScope s_is_tuple) .none kV1 dc1 pm1 an1 cd1 ct1), sl1⟩) (c1 : PySem.W.codeIn K cd1 "is_tuple" = true) (k1 : PySem.W.keepIn K (.ref f1) = true)
    {f2 : Addr} {od2 an2 : Option Addr} {sl2 : Array (Option Value)} {oc2 kV2 dc2 pm2 cd2 ct2 : Value}
    (a2 : PySem.W.nsIn K mainGlobals "greatest_divisor" = some (some (.ref f2))) (l2 : K.lookup f2 = some ⟨oc2, od2, .func (PySem.W.fnOf "greatest_divisor" "greatest_divisor" (defArgs s_greatest_divisor) (defBody s_greatest_divisor) (defScope s_greatest_divisor) .none kV2 dc2 pm2 an2 cd2 ct2), sl2⟩) (c2 : PySem.W.codeIn K cd2 "greatest_divisor" = true) (k2 : PySem.W.keepIn K (.ref f2) = true)
    {f3 : Addr} {od3 an3 : Option Addr} {sl3 : Array (Option Value)} {oc3 kV3 dc3 pm3 cd3 ct3 : Value}
    (a3 : PySem.W.nsIn K mainGlobals "is_ratio" = some (some (.ref f3))) (l3 : K.lookup f3 = some ⟨oc3, od3, .func (PySem.W.fnOf "is_ratio" "is_ratio" (defArgs s_is_ratio) (defBody s_is_ratio) (defScope s_is_ratio) .none kV3 dc3 pm3 an3 cd3 ct3), sl3⟩) (c3 : PySem.W.codeIn K cd3 "is_ratio" = true) (k3 : PySem.W.keepIn K (.ref f3) = true)
    {f4 : Addr} {od4 an4 : Option Addr} {sl4 : Array (Option Value)} {oc4 kV4 dc4 pm4 cd4 ct4 : Value} {Td4 : Addr} {ocd4 : Value} {odd4 : Option Addr} {tkd4 : Tok} {nd4 : Nat} {sld4 : Array (Option Value)}
    (a4 : PySem.W.nsIn K mainGlobals "ratio" = some (some (.ref f4))) (l4 : K.lookup f4 = some ⟨oc4, od4, .func (PySem.W.fnOf "ratio" "ratio" (defArgs s_ratio) (defBody s_ratio) (defScope s_ratio) (.ref Td4) kV4 dc4 pm4 an4 cd4 ct4), sl4⟩) (c4 : PySem.W.codeIn K cd4 "ratio" = true) (k4 : PySem.W.keepIn K (.ref f4) = true)
    (ld4 : K.lookup Td4 = some ⟨ocd4, odd4, .seq #[.int 1 tkd4] nd4, sld4⟩)
    {f5 : Addr} {od5 an5 : Option Addr} {sl5 : Array (Option Value)} {oc5 kV5 dc5 pm5 cd5 ct5 : Value}
    (a5 : PySem.W.nsIn K mainGlobals "least_multiple" = some (some (.ref f5))) (l5 : K.lookup f5 = some ⟨oc5, od5, .func (PySem.W.fnOf "least_multiple" "least_multiple" (defArgs s_least_multiple) (defBody s_least_multiple) (defScope s_least_multiple) .none kV5 dc5 pm5 an5 cd5 ct5), sl5⟩) (c5 : PySem.W.codeIn K cd5 "least_multiple" = true) (k5 : PySem.W.keepIn K (.ref f5) = true)
    {f6 : Addr} {od6 an6 : Option Addr} {sl6 : Array (Option Value)} {oc6 kV6 dc6 pm6 cd6 ct6 : Value}
    (a6 : PySem.W.nsIn K mainGlobals "common_bottom" = some (some (.ref f6))) (l6 : K.lookup f6 = some ⟨oc6, od6, .func (PySem.W.fnOf "common_bottom" "common_bottom" (defArgs s_common_bottom) (defBody s_common_bottom) (defScope s_common_bottom) .none kV6 dc6 pm6 an6 cd6 ct6), sl6⟩) (c6 : PySem.W.codeIn K cd6 "common_bottom" = true) (k6 : PySem.W.keepIn K (.ref f6) = true)
    {f7 : Addr} {od7 an7 : Option Addr} {sl7 : Array (Option Value)} {oc7 kV7 dc7 pm7 cd7 ct7 : Value}
    (a7 : PySem.W.nsIn K mainGlobals "track_of" = some (some (.ref f7))) (l7 : K.lookup f7 = some ⟨oc7, od7, .func (PySem.W.fnOf "track_of" "track_of" (defArgs s_track_of) (defBody s_track_of) (defScope s_track_of) .none kV7 dc7 pm7 an7 cd7 ct7), sl7⟩) (c7 : PySem.W.codeIn K cd7 "track_of" = true) (k7 : PySem.W.keepIn K (.ref f7) = true)
    {f8 : Addr} {od8 an8 : Option Addr} {sl8 : Array (Option Value)} {oc8 kV8 dc8 pm8 cd8 ct8 : Value}
    (a8 : PySem.W.nsIn K mainGlobals "moment_of" = some (some (.ref f8))) (l8 : K.lookup f8 = some ⟨oc8, od8, .func (PySem.W.fnOf "moment_of" "moment_of" (defArgs s_moment_of) (defBody s_moment_of) (defScope s_moment_of) .none kV8 dc8 pm8 an8 cd8 ct8), sl8⟩) (c8 : PySem.W.codeIn K cd8 "moment_of" = true) (k8 : PySem.W.keepIn K (.ref f8) = true)
    {f9 : Addr} {od9 an9 : Option Addr} {sl9 : Array (Option Value)} {oc9 kV9 dc9 pm9 cd9 ct9 : Value}
    (a9 : PySem.W.nsIn K mainGlobals "is_wall" = some (some (.ref f9))) (l9 : K.lookup f9 = some ⟨oc9, od9, .func (PySem.W.fnOf "is_wall" "is_wall" (defArgs s_is_wall) (defBody s_is_wall) (defScope s_is_wall) .none kV9 dc9 pm9 an9 cd9 ct9), sl9⟩) (c9 : PySem.W.codeIn K cd9 "is_wall" = true) (k9 : PySem.W.keepIn K (.ref f9) = true)
    {f10 : Addr} {od10 an10 : Option Addr} {sl10 : Array (Option Value)} {oc10 kV10 dc10 pm10 cd10 ct10 : Value}
    (a10 : PySem.W.nsIn K mainGlobals "is_wall_pair" = some (some (.ref f10))) (l10 : K.lookup f10 = some ⟨oc10, od10, .func (PySem.W.fnOf "is_wall_pair" "is_wall_pair" (defArgs s_is_wall_pair) (defBody s_is_wall_pair) (defScope s_is_wall_pair) .none kV10 dc10 pm10 an10 cd10 ct10), sl10⟩) (c10 : PySem.W.codeIn K cd10 "is_wall_pair" = true) (k10 : PySem.W.keepIn K (.ref f10) = true)
    {f11 : Addr} {od11 an11 : Option Addr} {sl11 : Array (Option Value)} {oc11 kV11 dc11 pm11 cd11 ct11 : Value}
    (a11 : PySem.W.nsIn K mainGlobals "is_ball_form" = some (some (.ref f11))) (l11 : K.lookup f11 = some ⟨oc11, od11, .func (PySem.W.fnOf "is_ball_form" "is_ball_form" (defArgs s_is_ball_form) (defBody s_is_ball_form) (defScope s_is_ball_form) .none kV11 dc11 pm11 an11 cd11 ct11), sl11⟩) (c11 : PySem.W.codeIn K cd11 "is_ball_form" = true) (k11 : PySem.W.keepIn K (.ref f11) = true)
    {f12 : Addr} {od12 an12 : Option Addr} {sl12 : Array (Option Value)} {oc12 kV12 dc12 pm12 cd12 ct12 : Value}
    (a12 : PySem.W.nsIn K mainGlobals "is_row_form" = some (some (.ref f12))) (l12 : K.lookup f12 = some ⟨oc12, od12, .func (PySem.W.fnOf "is_row_form" "is_row_form" (defArgs s_is_row_form) (defBody s_is_row_form) (defScope s_is_row_form) .none kV12 dc12 pm12 an12 cd12 ct12), sl12⟩) (c12 : PySem.W.codeIn K cd12 "is_row_form" = true) (k12 : PySem.W.keepIn K (.ref f12) = true)
    {f13 : Addr} {od13 an13 : Option Addr} {sl13 : Array (Option Value)} {oc13 kV13 dc13 pm13 cd13 ct13 : Value}
    (a13 : PySem.W.nsIn K mainGlobals "is_even" = some (some (.ref f13))) (l13 : K.lookup f13 = some ⟨oc13, od13, .func (PySem.W.fnOf "is_even" "is_even" (defArgs s_is_even) (defBody s_is_even) (defScope s_is_even) .none kV13 dc13 pm13 an13 cd13 ct13), sl13⟩) (c13 : PySem.W.codeIn K cd13 "is_even" = true) (k13 : PySem.W.keepIn K (.ref f13) = true)
    {f14 : Addr} {od14 an14 : Option Addr} {sl14 : Array (Option Value)} {oc14 kV14 dc14 pm14 cd14 ct14 : Value}
    (a14 : PySem.W.nsIn K mainGlobals "is_still" = some (some (.ref f14))) (l14 : K.lookup f14 = some ⟨oc14, od14, .func (PySem.W.fnOf "is_still" "is_still" (defArgs s_is_still) (defBody s_is_still) (defScope s_is_still) .none kV14 dc14 pm14 an14 cd14 ct14), sl14⟩) (c14 : PySem.W.codeIn K cd14 "is_still" = true) (k14 : PySem.W.keepIn K (.ref f14) = true)
    {f15 : Addr} {od15 an15 : Option Addr} {sl15 : Array (Option Value)} {oc15 kV15 dc15 pm15 cd15 ct15 : Value}
    (a15 : PySem.W.nsIn K mainGlobals "is_plain" = some (some (.ref f15))) (l15 : K.lookup f15 = some ⟨oc15, od15, .func (PySem.W.fnOf "is_plain" "is_plain" (defArgs s_is_plain) (defBody s_is_plain) (defScope s_is_plain) .none kV15 dc15 pm15 an15 cd15 ct15), sl15⟩) (c15 : PySem.W.codeIn K cd15 "is_plain" = true) (k15 : PySem.W.keepIn K (.ref f15) = true)
    {f16 : Addr} {od16 an16 : Option Addr} {sl16 : Array (Option Value)} {oc16 kV16 dc16 pm16 cd16 ct16 : Value}
    (a16 : PySem.W.nsIn K mainGlobals "refuse_uneven" = some (some (.ref f16))) (l16 : K.lookup f16 = some ⟨oc16, od16, .func (PySem.W.fnOf "refuse_uneven" "refuse_uneven" (defArgs s_refuse_uneven) (defBody s_refuse_uneven) (defScope s_refuse_uneven) .none kV16 dc16 pm16 an16 cd16 ct16), sl16⟩) (c16 : PySem.W.codeIn K cd16 "refuse_uneven" = true) (k16 : PySem.W.keepIn K (.ref f16) = true)
    {f17 : Addr} {od17 an17 : Option Addr} {sl17 : Array (Option Value)} {oc17 kV17 dc17 pm17 cd17 ct17 : Value}
    (a17 : PySem.W.nsIn K mainGlobals "refuse_no_box" = some (some (.ref f17))) (l17 : K.lookup f17 = some ⟨oc17, od17, .func (PySem.W.fnOf "refuse_no_box" "refuse_no_box" (defArgs s_refuse_no_box) (defBody s_refuse_no_box) (defScope s_refuse_no_box) .none kV17 dc17 pm17 an17 cd17 ct17), sl17⟩) (c17 : PySem.W.codeIn K cd17 "refuse_no_box" = true) (k17 : PySem.W.keepIn K (.ref f17) = true)
    {f18 : Addr} {od18 an18 : Option Addr} {sl18 : Array (Option Value)} {oc18 kV18 dc18 pm18 cd18 ct18 : Value}
    (a18 : PySem.W.nsIn K mainGlobals "trip_of" = some (some (.ref f18))) (l18 : K.lookup f18 = some ⟨oc18, od18, .func (PySem.W.fnOf "trip_of" "trip_of" (defArgs s_trip_of) (defBody s_trip_of) (defScope s_trip_of) .none kV18 dc18 pm18 an18 cd18 ct18), sl18⟩) (c18 : PySem.W.codeIn K cd18 "trip_of" = true) (k18 : PySem.W.keepIn K (.ref f18) = true)
    {f19 : Addr} {od19 an19 : Option Addr} {sl19 : Array (Option Value)} {oc19 kV19 dc19 pm19 cd19 ct19 : Value}
    (a19 : PySem.W.nsIn K mainGlobals "phases_of" = some (some (.ref f19))) (l19 : K.lookup f19 = some ⟨oc19, od19, .func (PySem.W.fnOf "phases_of" "phases_of" (defArgs s_phases_of) (defBody s_phases_of) (defScope s_phases_of) .none kV19 dc19 pm19 an19 cd19 ct19), sl19⟩) (c19 : PySem.W.codeIn K cd19 "phases_of" = true) (k19 : PySem.W.keepIn K (.ref f19) = true)
    {f20 : Addr} {od20 an20 : Option Addr} {sl20 : Array (Option Value)} {oc20 kV20 dc20 pm20 cd20 ct20 : Value}
    (a20 : PySem.W.nsIn K mainGlobals "comes_again" = some (some (.ref f20))) (l20 : K.lookup f20 = some ⟨oc20, od20, .func (PySem.W.fnOf "comes_again" "comes_again" (defArgs s_comes_again) (defBody s_comes_again) (defScope s_comes_again) .none kV20 dc20 pm20 an20 cd20 ct20), sl20⟩) (c20 : PySem.W.codeIn K cd20 "comes_again" = true) (k20 : PySem.W.keepIn K (.ref f20) = true)
    {f21 : Addr} {od21 an21 : Option Addr} {sl21 : Array (Option Value)} {oc21 kV21 dc21 pm21 cd21 ct21 : Value}
    (a21 : PySem.W.nsIn K mainGlobals "greatest_many" = some (some (.ref f21))) (l21 : K.lookup f21 = some ⟨oc21, od21, .func (PySem.W.fnOf "greatest_many" "greatest_many" (defArgs s_greatest_many) (defBody s_greatest_many) (defScope s_greatest_many) .none kV21 dc21 pm21 an21 cd21 ct21), sl21⟩) (c21 : PySem.W.codeIn K cd21 "greatest_many" = true) (k21 : PySem.W.keepIn K (.ref f21) = true)
    {f22 : Addr} {od22 an22 : Option Addr} {sl22 : Array (Option Value)} {oc22 kV22 dc22 pm22 cd22 ct22 : Value}
    (a22 : PySem.W.nsIn K mainGlobals "least_round" = some (some (.ref f22))) (l22 : K.lookup f22 = some ⟨oc22, od22, .func (PySem.W.fnOf "least_round" "least_round" (defArgs s_least_round) (defBody s_least_round) (defScope s_least_round) .none kV22 dc22 pm22 an22 cd22 ct22), sl22⟩) (c22 : PySem.W.codeIn K cd22 "least_round" = true) (k22 : PySem.W.keepIn K (.ref f22) = true)
    {f23 : Addr} {od23 an23 : Option Addr} {sl23 : Array (Option Value)} {oc23 kV23 dc23 pm23 cd23 ct23 : Value}
    (a23 : PySem.W.nsIn K mainGlobals "round_of" = some (some (.ref f23))) (l23 : K.lookup f23 = some ⟨oc23, od23, .func (PySem.W.fnOf "round_of" "round_of" (defArgs s_round_of) (defBody s_round_of) (defScope s_round_of) .none kV23 dc23 pm23 an23 cd23 ct23), sl23⟩) (c23 : PySem.W.codeIn K cd23 "round_of" = true) (k23 : PySem.W.keepIn K (.ref f23) = true)
    {f24 : Addr} {od24 an24 : Option Addr} {sl24 : Array (Option Value)} {oc24 kV24 dc24 pm24 cd24 ct24 : Value}
    (a24 : PySem.W.nsIn K mainGlobals "lets_round" = some (some (.ref f24))) (l24 : K.lookup f24 = some ⟨oc24, od24, .func (PySem.W.fnOf "lets_round" "lets_round" (defArgs s_lets_round) (defBody s_lets_round) (defScope s_lets_round) .none kV24 dc24 pm24 an24 cd24 ct24), sl24⟩) (c24 : PySem.W.codeIn K cd24 "lets_round" = true) (k24 : PySem.W.keepIn K (.ref f24) = true)
    {f25 : Addr} {od25 an25 : Option Addr} {sl25 : Array (Option Value)} {oc25 kV25 dc25 pm25 cd25 ct25 : Value}
    (a25 : PySem.W.nsIn K mainGlobals "_law_pool" = some (some (.ref f25))) (l25 : K.lookup f25 = some ⟨oc25, od25, .func (PySem.W.fnOf "_law_pool" "_law_pool" (defArgs s_law_pool) (defBody s_law_pool) (defScope s_law_pool) .none kV25 dc25 pm25 an25 cd25 ct25), sl25⟩) (c25 : PySem.W.codeIn K cd25 "_law_pool" = true) (k25 : PySem.W.keepIn K (.ref f25) = true)
    {f26 : Addr} {od26 an26 : Option Addr} {sl26 : Array (Option Value)} {oc26 kV26 dc26 pm26 cd26 ct26 : Value}
    (a26 : PySem.W.nsIn K mainGlobals "_law_next" = some (some (.ref f26))) (l26 : K.lookup f26 = some ⟨oc26, od26, .func (PySem.W.fnOf "_law_next" "_law_next" (defArgs s_law_next) (defBody s_law_next) (defScope s_law_next) .none kV26 dc26 pm26 an26 cd26 ct26), sl26⟩) (c26 : PySem.W.codeIn K cd26 "_law_next" = true) (k26 : PySem.W.keepIn K (.ref f26) = true)
    {f27 : Addr} {od27 an27 : Option Addr} {sl27 : Array (Option Value)} {oc27 kV27 dc27 pm27 cd27 ct27 : Value}
    (a27 : PySem.W.nsIn K mainGlobals "_law_wide" = some (some (.ref f27))) (l27 : K.lookup f27 = some ⟨oc27, od27, .func (PySem.W.fnOf "_law_wide" "_law_wide" (defArgs s_law_wide) (defBody s_law_wide) (defScope s_law_wide) .none kV27 dc27 pm27 an27 cd27 ct27), sl27⟩) (c27 : PySem.W.codeIn K cd27 "_law_wide" = true) (k27 : PySem.W.keepIn K (.ref f27) = true)
    {f28 : Addr} {od28 an28 : Option Addr} {sl28 : Array (Option Value)} {oc28 kV28 dc28 pm28 cd28 ct28 : Value}
    (a28 : PySem.W.nsIn K mainGlobals "_law_lowest" = some (some (.ref f28))) (l28 : K.lookup f28 = some ⟨oc28, od28, .func (PySem.W.fnOf "_law_lowest" "_law_lowest" (defArgs s_law_lowest) (defBody s_law_lowest) (defScope s_law_lowest) .none kV28 dc28 pm28 an28 cd28 ct28), sl28⟩) (c28 : PySem.W.codeIn K cd28 "_law_lowest" = true) (k28 : PySem.W.keepIn K (.ref f28) = true)
    {f29 : Addr} {od29 an29 : Option Addr} {sl29 : Array (Option Value)} {oc29 kV29 dc29 pm29 cd29 ct29 : Value}
    (a29 : PySem.W.nsIn K mainGlobals "_law_settled" = some (some (.ref f29))) (l29 : K.lookup f29 = some ⟨oc29, od29, .func (PySem.W.fnOf "_law_settled" "_law_settled" (defArgs s_law_settled) (defBody s_law_settled) (defScope s_law_settled) .none kV29 dc29 pm29 an29 cd29 ct29), sl29⟩) (c29 : PySem.W.codeIn K cd29 "_law_settled" = true) (k29 : PySem.W.keepIn K (.ref f29) = true)
    {f30 : Addr} {od30 an30 : Option Addr} {sl30 : Array (Option Value)} {oc30 kV30 dc30 pm30 cd30 ct30 : Value}
    (a30 : PySem.W.nsIn K mainGlobals "_law_speeds_drawn" = some (some (.ref f30))) (l30 : K.lookup f30 = some ⟨oc30, od30, .func (PySem.W.fnOf "_law_speeds_drawn" "_law_speeds_drawn" (defArgs s_law_speeds_drawn) (defBody s_law_speeds_drawn) (defScope s_law_speeds_drawn) .none kV30 dc30 pm30 an30 cd30 ct30), sl30⟩) (c30 : PySem.W.codeIn K cd30 "_law_speeds_drawn" = true) (k30 : PySem.W.keepIn K (.ref f30) = true)
    {f31 : Addr} {od31 an31 : Option Addr} {sl31 : Array (Option Value)} {oc31 kV31 dc31 pm31 cd31 ct31 : Value}
    (a31 : PySem.W.nsIn K mainGlobals "_law_through" = some (some (.ref f31))) (l31 : K.lookup f31 = some ⟨oc31, od31, .func (PySem.W.fnOf "_law_through" "_law_through" (defArgs s_law_through) (defBody s_law_through) (defScope s_law_through) .none kV31 dc31 pm31 an31 cd31 ct31), sl31⟩) (c31 : PySem.W.codeIn K cd31 "_law_through" = true) (k31 : PySem.W.keepIn K (.ref f31) = true)
    {f32 : Addr} {od32 an32 : Option Addr} {sl32 : Array (Option Value)} {oc32 kV32 dc32 pm32 cd32 ct32 : Value}
    (a32 : PySem.W.nsIn K mainGlobals "_law_world" = some (some (.ref f32))) (l32 : K.lookup f32 = some ⟨oc32, od32, .func (PySem.W.fnOf "_law_world" "_law_world" (defArgs s_law_world) (defBody s_law_world) (defScope s_law_world) .none kV32 dc32 pm32 an32 cd32 ct32), sl32⟩) (c32 : PySem.W.codeIn K cd32 "_law_world" = true) (k32 : PySem.W.keepIn K (.ref f32) = true)
    {f33 : Addr} {od33 an33 : Option Addr} {sl33 : Array (Option Value)} {oc33 kV33 dc33 pm33 cd33 ct33 : Value}
    (a33 : PySem.W.nsIn K mainGlobals "_law_row" = some (some (.ref f33))) (l33 : K.lookup f33 = some ⟨oc33, od33, .func (PySem.W.fnOf "_law_row" "_law_row" (defArgs s_law_row) (defBody s_law_row) (defScope s_law_row) .none kV33 dc33 pm33 an33 cd33 ct33), sl33⟩) (c33 : PySem.W.codeIn K cd33 "_law_row" = true) (k33 : PySem.W.keepIn K (.ref f33) = true)
    {f34 : Addr} {od34 an34 : Option Addr} {sl34 : Array (Option Value)} {oc34 kV34 dc34 pm34 cd34 ct34 : Value}
    (a34 : PySem.W.nsIn K mainGlobals "_law_moves" = some (some (.ref f34))) (l34 : K.lookup f34 = some ⟨oc34, od34, .func (PySem.W.fnOf "_law_moves" "_law_moves" (defArgs s_law_moves) (defBody s_law_moves) (defScope s_law_moves) .none kV34 dc34 pm34 an34 cd34 ct34), sl34⟩) (c34 : PySem.W.codeIn K cd34 "_law_moves" = true) (k34 : PySem.W.keepIn K (.ref f34) = true)
    {f35 : Addr} {od35 an35 : Option Addr} {sl35 : Array (Option Value)} {oc35 kV35 dc35 pm35 cd35 ct35 : Value}
    (a35 : PySem.W.nsIn K mainGlobals "_law_round_word" = some (some (.ref f35))) (l35 : K.lookup f35 = some ⟨oc35, od35, .func (PySem.W.fnOf "_law_round_word" "_law_round_word" (defArgs s_law_round_word) (defBody s_law_round_word) (defScope s_law_round_word) .none kV35 dc35 pm35 an35 cd35 ct35), sl35⟩) (c35 : PySem.W.codeIn K cd35 "_law_round_word" = true) (k35 : PySem.W.keepIn K (.ref f35) = true)
    {f36 : Addr} {od36 an36 : Option Addr} {sl36 : Array (Option Value)} {oc36 kV36 dc36 pm36 cd36 ct36 : Value}
    (a36 : PySem.W.nsIn K mainGlobals "_law_bounds" = some (some (.ref f36))) (l36 : K.lookup f36 = some ⟨oc36, od36, .func (PySem.W.fnOf "_law_bounds" "_law_bounds" (defArgs s_law_bounds) (defBody s_law_bounds) (defScope s_law_bounds) .none kV36 dc36 pm36 an36 cd36 ct36), sl36⟩) (c36 : PySem.W.codeIn K cd36 "_law_bounds" = true) (k36 : PySem.W.keepIn K (.ref f36) = true)
    {f37 : Addr} {od37 an37 : Option Addr} {sl37 : Array (Option Value)} {oc37 kV37 dc37 pm37 cd37 ct37 : Value}
    (a37 : PySem.W.nsIn K mainGlobals "law" = some (some (.ref f37))) (l37 : K.lookup f37 = some ⟨oc37, od37, .func (PySem.W.fnOf "law" "law" (defArgs s_law) (defBody s_law) (defScope s_law) .none kV37 dc37 pm37 an37 cd37 ct37), sl37⟩) (c37 : PySem.W.codeIn K cd37 "law" = true) (k37 : PySem.W.keepIn K (.ref f37) = true)
    (z_isinstance : PySem.W.nsIn K mainGlobals "isinstance" = some none)
    (z_int : PySem.W.nsIn K mainGlobals "int" = some none)
    (z_bool : PySem.W.nsIn K mainGlobals "bool" = some none)
    (z_abs : PySem.W.nsIn K mainGlobals "abs" = some none)
    (z_len : PySem.W.nsIn K mainGlobals "len" = some none)
    (z_max : PySem.W.nsIn K mainGlobals "max" = some none)
    (z_min : PySem.W.nsIn K mainGlobals "min" = some none)
    (z_range : PySem.W.nsIn K mainGlobals "range" = some none)
    (z_tuple : PySem.W.nsIn K mainGlobals "tuple" = some none)
    (z_sum : PySem.W.nsIn K mainGlobals "sum" = some none)
    (z_zip : PySem.W.nsIn K mainGlobals "zip" = some none)
    (z_list : PySem.W.nsIn K mainGlobals "list" = some none)
    (z_enumerate : PySem.W.nsIn K mainGlobals "enumerate" = some none)
    (z_sorted : PySem.W.nsIn K mainGlobals "sorted" = some none)
    (z_all : PySem.W.nsIn K mainGlobals "all" = some none)
    (z_dict : PySem.W.nsIn K mainGlobals "dict" = some none)
    {C_ClackError : Addr} (a_ClackError : PySem.W.nsIn K mainGlobals "ClackError" = some (some (.ref C_ClackError)))
    {C_NotEven : Addr} (a_NotEven : PySem.W.nsIn K mainGlobals "NotEven" = some (some (.ref C_NotEven)))
    {C_Course : Addr} (a_Course : PySem.W.nsIn K mainGlobals "Course" = some (some (.ref C_Course)))
    (kp_Course : PySem.W.keepIn K (.ref C_Course) = true)
    {fI_Course : Addr} {odI_Course anI_Course : Option Addr} {slI_Course : Array (Option Value)} {kVI_Course dcI_Course pmI_Course cdI_Course ctI_Course : Value} (fi_Course : PySem.W.findIn K (.ref C_Course) "__init__" = some (some (.ref fI_Course)))
    (li_Course : K.lookup fI_Course = some ⟨.type "function", odI_Course, .func (PySem.W.fnOf "__init__" "Course.__init__" (defArgs s_course_init) (defBody s_course_init) (defScope s_course_init) .none kVI_Course dcI_Course pmI_Course anI_Course cdI_Course ctI_Course), slI_Course⟩) (ci_Course : PySem.W.codeIn K cdI_Course "Course.__init__" = true) (ki_Course : PySem.W.keepIn K (.ref fI_Course) = true)
    (sa_Course : PySem.W.findIn K (.ref C_Course) "__setattr__" = some (some (.builtin "object.__setattr__")))
    (x_NotEven : PySem.W.excIn K C_NotEven vMro "ValueError.__new__" = true)
    (xkE : xKB K C_NotEven = true)
    (exE : PySem.W.exmOne K (.ref C_NotEven) (.ref C_ClackError) = some true)
    (k1E : PySem.W.kitOne K (.ref C_NotEven) (.ref C_NotEven) = some true)
    (mkC : PySem.W.makesIn K C_Course = true)
    (ifC : PySem.W.isFn K (.ref fI_Course) = true)
    (pgC : PySem.W.plainGet K C_Course Str.empty = true)
    (hdC : PySem.W.hasDictIn K C_Course = true)
    (poC : PySem.W.plainOver K C_Course = true)
    (nc_place_bottom : PySem.W.findIn K (.ref C_Course) "place_bottom" = some none)
    (nc_speed_bottom : PySem.W.findIn K (.ref C_Course) "speed_bottom" = some none)
    (nc_tick : PySem.W.findIn K (.ref C_Course) "tick" = some none)
    (nc_weights : PySem.W.findIn K (.ref C_Course) "weights" = some none)
    (nc_tracks : PySem.W.findIn K (.ref C_Course) "tracks" = some none)
    (nc_low : PySem.W.findIn K (.ref C_Course) "low" = some none)
    (nc_high : PySem.W.findIn K (.ref C_Course) "high" = some none)
    {a_NOUGHT : Addr} {t1_NOUGHT t2_NOUGHT : Tok} {n_NOUGHT : Nat} {od_NOUGHT : Option Addr} {sl_NOUGHT : Array (Option Value)} (v_NOUGHT : PySem.W.nsIn K mainGlobals "NOUGHT" = some (some (.ref a_NOUGHT))) (l_NOUGHT : K.lookup a_NOUGHT = some ⟨.type "tuple", od_NOUGHT, .seq #[.int 0 t1_NOUGHT, .int 1 t2_NOUGHT] n_NOUGHT, sl_NOUGHT⟩) :
    ∃ fd : FuncData, (∀ (s : Shared) (v : Value), BindsTo s fd ⟨[v], []⟩ [("script", v)]) ∧ ∀ base : Heap, K.In base → base.Ns mainGlobals mg → FnOk l.prog w K mg base CX0 11 fa fd ["script"] (spLaw K) := by
  have e := hfa.symm.trans (PySem.W.mg_of X G a37)
  cases e
  have d_is_whole : Df K mg "is_whole" s_is_whole ["thing"] [] := df_mk l0 c0 k0 (PySem.W.mg_of X G a0) fun us hl => match us, hl with | [_], _ => rfl
  have d_is_tuple : Df K mg "is_tuple" s_is_tuple ["thing", "many"] [] := df_mk l1 c1 k1 (PySem.W.mg_of X G a1) fun us hl => match us, hl with | [_, _], _ => rfl
  have d_greatest_divisor : Df K mg "greatest_divisor" s_greatest_divisor ["one", "other"] [] := df_mk l2 c2 k2 (PySem.W.mg_of X G a2) fun us hl => match us, hl with | [_, _], _ => rfl
  have d_is_ratio : Df K mg "is_ratio" s_is_ratio ["thing"] [] := df_mk l3 c3 k3 (PySem.W.mg_of X G a3) fun us hl => match us, hl with | [_], _ => rfl
  have d_ratio : Df K mg "ratio" s_ratio ["top", "bottom"] [] := ⟨⟨f4, _, _, _, _, _, _, _, _, _, _, [], l4, c4, k4, PySem.W.mg_of X G a4, .nil, fun s us KX hl => match us, hl with | [_, _], _ => .of_defaults rfl (KX _ _ ld4) rfl rfl rfl⟩⟩
  have dd_ratio : Df K mg "ratio" s_ratio ["top", "bottom"] [.int 1] := ⟨⟨f4, _, _, _, _, _, _, _, _, _, _, [.int 1 tkd4], l4, c4, k4, PySem.W.mg_of X G a4, .cons ⟨_, rfl⟩ .nil, fun s us KX hl => have hl2 : us.length = 1 := (by simpa using hl); match us, hl2 with | [_], _ => .of_defaults rfl (KX _ _ ld4) rfl rfl rfl⟩⟩
  have d_least_multiple : Df K mg "least_multiple" s_least_multiple ["numbers"] [] := df_mk l5 c5 k5 (PySem.W.mg_of X G a5) fun us hl => match us, hl with | [_], _ => rfl
  have d_common_bottom : Df K mg "common_bottom" s_common_bottom ["ratios"] [] := df_mk l6 c6 k6 (PySem.W.mg_of X G a6) fun us hl => match us, hl with | [_], _ => rfl
  have d_track_of : Df K mg "track_of" s_track_of ["course", "thing"] [] := df_mk l7 c7 k7 (PySem.W.mg_of X G a7) fun us hl => match us, hl with | [_, _], _ => rfl
  have d_moment_of : Df K mg "moment_of" s_moment_of ["course", "ticks"] [] := df_mk l8 c8 k8 (PySem.W.mg_of X G a8) fun us hl => match us, hl with | [_, _], _ => rfl
  have d_is_wall : Df K mg "is_wall" s_is_wall ["thing"] [] := df_mk l9 c9 k9 (PySem.W.mg_of X G a9) fun us hl => match us, hl with | [_], _ => rfl
  have d_is_wall_pair : Df K mg "is_wall_pair" s_is_wall_pair ["thing"] [] := df_mk l10 c10 k10 (PySem.W.mg_of X G a10) fun us hl => match us, hl with | [_], _ => rfl
  have d_is_ball_form : Df K mg "is_ball_form" s_is_ball_form ["thing"] [] := df_mk l11 c11 k11 (PySem.W.mg_of X G a11) fun us hl => match us, hl with | [_], _ => rfl
  have d_is_row_form : Df K mg "is_row_form" s_is_row_form ["thing"] [] := df_mk l12 c12 k12 (PySem.W.mg_of X G a12) fun us hl => match us, hl with | [_], _ => rfl
  have d_is_even : Df K mg "is_even" s_is_even ["row"] [] := df_mk l13 c13 k13 (PySem.W.mg_of X G a13) fun us hl => match us, hl with | [_], _ => rfl
  have d_is_still : Df K mg "is_still" s_is_still ["walls"] [] := df_mk l14 c14 k14 (PySem.W.mg_of X G a14) fun us hl => match us, hl with | [_], _ => rfl
  have d_is_plain : Df K mg "is_plain" s_is_plain ["row", "walls"] [] := df_mk l15 c15 k15 (PySem.W.mg_of X G a15) fun us hl => match us, hl with | [_, _], _ => rfl
  have d_refuse_uneven : Df K mg "refuse_uneven" s_refuse_uneven ["row", "walls"] [] := df_mk l16 c16 k16 (PySem.W.mg_of X G a16) fun us hl => match us, hl with | [_, _], _ => rfl
  have d_refuse_no_box : Df K mg "refuse_no_box" s_refuse_no_box ["row", "walls"] [] := df_mk l17 c17 k17 (PySem.W.mg_of X G a17) fun us hl => match us, hl with | [_, _], _ => rfl
  have d_trip_of : Df K mg "trip_of" s_trip_of ["course"] [] := df_mk l18 c18 k18 (PySem.W.mg_of X G a18) fun us hl => match us, hl with | [_], _ => rfl
  have d_phases_of : Df K mg "phases_of" s_phases_of ["course"] [] := df_mk l19 c19 k19 (PySem.W.mg_of X G a19) fun us hl => match us, hl with | [_], _ => rfl
  have d_comes_again : Df K mg "comes_again" s_comes_again ["phases", "trip", "many"] [] := df_mk l20 c20 k20 (PySem.W.mg_of X G a20) fun us hl => match us, hl with | [_, _, _], _ => rfl
  have d_greatest_many : Df K mg "greatest_many" s_greatest_many ["phases", "trip"] [] := df_mk l21 c21 k21 (PySem.W.mg_of X G a21) fun us hl => match us, hl with | [_, _], _ => rfl
  have d_least_round : Df K mg "least_round" s_least_round ["course", "manies"] [] := df_mk l22 c22 k22 (PySem.W.mg_of X G a22) fun us hl => match us, hl with | [_, _], _ => rfl
  have d_round_of : Df K mg "round_of" s_round_of ["row", "walls"] [] := df_mk l23 c23 k23 (PySem.W.mg_of X G a23) fun us hl => match us, hl with | [_, _], _ => rfl
  have d_lets_round : Df K mg "lets_round" s_lets_round ["row", "walls", "moment", "paper"] [] := df_mk l24 c24 k24 (PySem.W.mg_of X G a24) fun us hl => match us, hl with | [_, _, _, _], _ => rfl
  have d_law_pool : Df K mg "_law_pool" s_law_pool ["cell"] [] := df_mk l25 c25 k25 (PySem.W.mg_of X G a25) fun us hl => match us, hl with | [_], _ => rfl
  have d_law_next : Df K mg "_law_next" s_law_next ["pool", "base"] [] := df_mk l26 c26 k26 (PySem.W.mg_of X G a26) fun us hl => match us, hl with | [_, _], _ => rfl
  have d_law_wide : Df K mg "_law_wide" s_law_wide ["pool", "base"] [] := df_mk l27 c27 k27 (PySem.W.mg_of X G a27) fun us hl => match us, hl with | [_, _], _ => rfl
  have d_law_lowest : Df K mg "_law_lowest" s_law_lowest ["top", "bottom"] [] := df_mk l28 c28 k28 (PySem.W.mg_of X G a28) fun us hl => match us, hl with | [_, _], _ => rfl
  have d_law_settled : Df K mg "_law_settled" s_law_settled ["balls", "low", "high"] [] := df_mk l29 c29 k29 (PySem.W.mg_of X G a29) fun us hl => match us, hl with | [_, _, _], _ => rfl
  have d_law_speeds_drawn : Df K mg "_law_speeds_drawn" s_law_speeds_drawn ["pool", "many", "great"] [] := df_mk l30 c30 k30 (PySem.W.mg_of X G a30) fun us hl => match us, hl with | [_, _, _], _ => rfl
  have d_law_through : Df K mg "_law_through" s_law_through ["pool", "many"] [] := df_mk l31 c31 k31 (PySem.W.mg_of X G a31) fun us hl => match us, hl with | [_, _], _ => rfl
  have d_law_world : Df K mg "_law_world" s_law_world ["pool", "kind"] [] := df_mk l32 c32 k32 (PySem.W.mg_of X G a32) fun us hl => match us, hl with | [_, _], _ => rfl
  have d_law_row : Df K mg "_law_row" s_law_row ["world"] [] := df_mk l33 c33 k33 (PySem.W.mg_of X G a33) fun us hl => match us, hl with | [_], _ => rfl
  have d_law_moves : Df K mg "_law_moves" s_law_moves ["world"] [] := df_mk l34 c34 k34 (PySem.W.mg_of X G a34) fun us hl => match us, hl with | [_], _ => rfl
  have d_law_round_word : Df K mg "_law_round_word" s_law_round_word ["way", "row", "bounds"] [] := df_mk l35 c35 k35 (PySem.W.mg_of X G a35) fun us hl => match us, hl with | [_, _, _], _ => rfl
  have d_law_bounds : Df K mg "_law_bounds" s_law_bounds ["world"] [] := df_mk l36 c36 k36 (PySem.W.mg_of X G a36) fun us hl => match us, hl with | [_], _ => rfl
  have T : TxB K mg := ⟨kit_ii K, kit_ib K, PySem.W.mg_none_of X G z_isinstance, PySem.W.mg_none_of X G z_int, PySem.W.mg_none_of X G z_bool, PySem.W.mg_none_of X G z_abs, PySem.W.mg_none_of X G z_len, PySem.W.mg_none_of X G z_max, PySem.W.mg_none_of X G z_min, PySem.W.mg_none_of X G z_range, PySem.W.mg_none_of X G z_tuple, PySem.W.mg_none_of X G z_sum⟩
  have F := fun_mk (st := s_law) l37 c37 k37
  refine ⟨PySem.W.fnOf "law" "law" (defArgs s_law) (defBody s_law) (defScope s_law) .none kV37 dc37 pm37 an37 cd37 ct37, fun s v => .of_eq rfl, fun base hKb hGb => ?_⟩
  have T3 : Tx3 K mg a_NOUGHT := ⟨PySem.W.mg_none_of X G z_all, PySem.W.mg_none_of X G z_sorted, PySem.W.mg_none_of X G z_enumerate, PySem.W.mg_of X G v_NOUGHT, ⟨_, _, _, _, l_NOUGHT, rfl, rfl⟩, kit_tt K⟩
  have TQ : TxQ K mg := ⟨T, PySem.W.mg_none_of X G z_list, PySem.W.mg_none_of X G z_zip⟩
  have mCo := PySem.W.mg_of X G a_Course
  have FUC := fun_mk (st := s_course_init) li_Course ci_Course ki_Course
  have BIC := FUC.binds (ps := ["self", "row", "walls"]) fun _ _ _ _ _ _ us hl => match us, hl with | [_, _, _], _ => rfl
  have TC : TCo K C_Course := ⟨⟨pgC, hdC, poC, sa_Course⟩, nc_place_bottom, nc_speed_bottom, nc_tick, nc_weights, nc_tracks, nc_low, nc_high⟩
  have OE := own_mk hKb hGb a_NotEven x_NotEven
  have XR : Xr K mg C_ClackError C_NotEven := ⟨PySem.W.mg_of X G a_ClackError, PySem.W.mg_of X G a_NotEven, k1E, exE, xK_of xkE⟩
  have nD : mg "dict" = none := PySem.W.mg_none_of X G z_dict
  have M : Mk K C_Course fI_Course := ⟨mkC, fi_Course, ifC, kp_Course⟩
  have cW := ok_whole (P := l.prog) (w := w) (base := base) d_is_whole T
  have cG := ok_gcd (P := l.prog) (w := w) (base := base) d_greatest_divisor
  have cR := ok_ratio d_ratio T cW cG
  have cTu := ok_tu (P := l.prog) (w := w) (base := base) d_is_tuple T T3
  have cIr := ok_ir d_is_ratio T cTu cW cG
  have cWa := ok_wa d_is_wall cTu cIr
  have cWp := ok_wp d_is_wall_pair cTu cWa
  have cBf := ok_bf d_is_ball_form cTu cIr cW
  have cRf := ok_rform d_is_row_form T T3 cBf
  have cEv := ok_ev d_is_even T T3 cRf
  have cSt := ok_st d_is_still T3 cWp
  have cLcm := ok_lcm d_least_multiple cG
  have cB := ok_cb d_common_bottom cLcm
  have cTr := ok_tr (P := l.prog) (w := w) (base := base) d_track_of TC
  have Fi := ok_ci FUC TQ TC cB cR cTr
  have cPl := ok_pl d_is_plain cEv cSt
  have cRu := ok_ru d_refuse_uneven cPl
  have cTp := ok_trip (P := l.prog) (w := w) (base := base) d_trip_of TC
  have cNx := ok_nbx d_refuse_no_box cRu
  have cPh := ok_ph d_phases_of TC cTp
  have cCg := ok_cg (P := l.prog) (w := w) (base := base) d_comes_again T3
  have cGm := ok_gm d_greatest_many T cCg
  have cMm := ok_mo d_moment_of TC cR
  have cLr := ok_lrG d_least_round TC cTp cG cLcm cR cMm
  have cRo := ok_roG d_round_of T T3 TC M Fi mCo BIC cNx cPh cGm cTp cLr cR
  have cD := ok_dig (P := l.prog) (w := w) (base := base) d_law_pool T
  have cN := ok_next (P := l.prog) (w := w) (base := base) d_law_next
  have cWi := ok_wi d_law_wide T cN
  have cLo := ok_llow (P := l.prog) (w := w) (base := base) d_law_lowest T
  have cSe := ok_set (P := l.prog) (w := w) (base := base) d_law_settled T3
  have cRw := ok_row d_law_row T cLo
  have cBd := ok_bd d_law_bounds T cLo
  have cSd := ok_sd d_law_speeds_drawn T cN cWi
  have cTh := ok_thr d_law_through T cN
  have cWo := ok_wo d_law_world T cN cWi cSd cTh cSe
  have cMv := ok_lmv (P := l.prog) (w := w) (base := base) d_law_moves
  have cRuE := ok_ruE d_refuse_uneven OE cPl
  have cNxE := ok_nbxE d_refuse_no_box OE cRu cRuE
  have cRoE := ok_roE d_round_of cNxE
  have cLtE := ok_ltE d_lets_round cNxE
  have cLtG := ok_ltG d_lets_round T T3 TC M Fi mCo BIC cNx cPh cR
  have cWd := ok_wd d_law_round_word T XR cRo cLtG cRoE cLtE
  exact ok_law F T T3 nD cD cN cWo cRw cBd cMv cRo cWd
theorem walk {l : PySem.W.OpenLaw} {q : Program} {loose : List Str} {XP : (Str → Option Value) → Heap → Prop} {YP : World → Heap → Prop} {d : DefRec} {K : Params → PySem.W.Frag} (hn : l.most = some 63) (hdf : d.params.defaults = [])
    (hY : ∀ (w : World) (h : Heap), YP w h → (K w.params).In h)
    (F : ∀ (w : World) (mg : Str → Option Value) (fa : Addr) (h : Heap), (K w.params).In h → h.Ns mainGlobals mg → mg d.name = some (.ref fa) →
      ∃ fd : FuncData, (∀ (s : Shared) (u : Value), BindsTo s fd ⟨[u], []⟩ [("script", u)]) ∧ ∀ base : Heap, (K w.params).In base → base.Ns mainGlobals mg → FnOk l.prog w (K w.params) mg base CX0 11 fa fd ["script"] (spLaw (K w.params))) :
    PySem.W.WalkO q loose XP YP l.row.toRowW d [] (fun f vs => PySem.call f vs) :=
  L2.walk_of (n := 63) (k := 11) (x := "script") (CX := fun _ => CX0) (sp := fun w => spLaw (K w.params)) hn (by decide) hdf ⟨rfl, by decide, by decide⟩ hY F (fun _ _ a ns hl _ hS => ⟨a, ns, rfl, hS, hl, fun _ => rfl⟩) fun _ _ _ _ _ z => z
end KK
open PySem PySem.W PyProof.Rows
set_option maxRecDepth 100000 in
set_option maxHeartbeats 0 in
theorem PySem.Challenge.cw_clackrow_k34_rounds_refused_holds : PySem.Challenge.rw_clackrow_k34_rounds_refused.Holds := by
  w_on; o_law; k_head; (case hw => w_witness2)
  k_fill
  refine KK.walk (l := PySem.Challenge.rw_clackrow_k34_rounds_refused) rfl rfl (fun w h Y => PySem.W.kIn_of Y) ?F
  case F =>
    intro w mg fa h KX G hmg
    refine' KK.all_mk KX G hmg ?a0 ?l0 ?c0 ?k0 ?a1 ?l1 ?c1 ?k1 ?a2 ?l2 ?c2 ?k2 ?a3 ?l3 ?c3 ?k3 ?a4 ?l4 ?c4 ?k4 ?ld4 ?a5 ?l5 ?c5 ?k5 ?a6 ?l6 ?c6 ?k6 ?a7 ?l7 ?c7 ?k7 ?a8 ?l8 ?c8 ?k8 ?a9 ?l9 ?c9 ?k9 ?a10 ?l10 ?c10 ?k10 ?a11 ?l11 ?c11 ?k11 ?a12 ?l12 ?c12 ?k12 ?a13 ?l13 ?c13 ?k13 ?a14 ?l14 ?c14 ?k14 ?a15 ?l15 ?c15 ?k15 ?a16 ?l16 ?c16 ?k16 ?a17 ?l17 ?c17 ?k17 ?a18 ?l18 ?c18 ?k18 ?a19 ?l19 ?c19 ?k19 ?a20 ?l20 ?c20 ?k20 ?a21 ?l21 ?c21 ?k21 ?a22 ?l22 ?c22 ?k22 ?a23 ?l23 ?c23 ?k23 ?a24 ?l24 ?c24 ?k24 ?a25 ?l25 ?c25 ?k25 ?a26 ?l26 ?c26 ?k26 ?a27 ?l27 ?c27 ?k27 ?a28 ?l28 ?c28 ?k28 ?a29 ?l29 ?c29 ?k29 ?a30 ?l30 ?c30 ?k30 ?a31 ?l31 ?c31 ?k31 ?a32 ?l32 ?c32 ?k32 ?a33 ?l33 ?c33 ?k33 ?a34 ?l34 ?c34 ?k34 ?a35 ?l35 ?c35 ?k35 ?a36 ?l36 ?c36 ?k36 ?a37 ?l37 ?c37 ?k37 ?z_isinstance ?z_int ?z_bool ?z_abs ?z_len ?z_max ?z_min ?z_range ?z_tuple ?z_sum ?z_zip ?z_list ?z_enumerate ?z_sorted ?z_all ?z_dict ?a_ClackError ?a_NotEven ?a_Course ?kp_Course ?fi_Course ?li_Course ?ci_Course ?ki_Course ?sa_Course ?x_NotEven ?xkE ?exE ?k1E ?mkC ?ifC ?pgC ?hdC ?poC ?nc_place_bottom ?nc_speed_bottom ?nc_tick ?nc_weights ?nc_tracks ?nc_low ?nc_high ?v_NOUGHT ?l_NOUGHT
    (case a0 => k_is)
    (case l0 => k_is)
    (case c0 => k_is)
    (case k0 => k_is)
    (case a1 => k_is)
    (case l1 => k_is)
    (case c1 => k_is)
    (case k1 => k_is)
    (case a2 => k_is)
    (case l2 => k_is)
    (case c2 => k_is)
    (case k2 => k_is)
    (case a3 => k_is)
    (case l3 => k_is)
    (case c3 => k_is)
    (case k3 => k_is)
    (case a4 => k_is)
    (case l4 => k_is)
    (case c4 => k_is)
    (case k4 => k_is)
    (case ld4 => k_is)
    (case a5 => k_is)
    (case l5 => k_is)
    (case c5 => k_is)
    (case k5 => k_is)
    (case a6 => k_is)
    (case l6 => k_is)
    (case c6 => k_is)
    (case k6 => k_is)
    (case a7 => k_is)
    (case l7 => k_is)
    (case c7 => k_is)
    (case k7 => k_is)
    (case a8 => k_is)
    (case l8 => k_is)
    (case c8 => k_is)
    (case k8 => k_is)
    (case a9 => k_is)
    (case l9 => k_is)
    (case c9 => k_is)
    (case k9 => k_is)
    (case a10 => k_is)
    (case l10 => k_is)
    (case c10 => k_is)
    (case k10 => k_is)
    (case a11 => k_is)
    (case l11 => k_is)
    (case c11 => k_is)
    (case k11 => k_is)
    (case a12 => k_is)
    (case l12 => k_is)
    (case c12 => k_is)
    (case k12 => k_is)
    (case a13 => k_is)
    (case l13 => k_is)
    (case c13 => k_is)
    (case k13 => k_is)
    (case a14 => k_is)
    (case l14 => k_is)
    (case c14 => k_is)
    (case k14 => k_is)
    (case a15 => k_is)
    (case l15 => k_is)
    (case c15 => k_is)
    (case k15 => k_is)
    (case a16 => k_is)
    (case l16 => k_is)
    (case c16 => k_is)
    (case k16 => k_is)
    (case a17 => k_is)
    (case l17 => k_is)
    (case c17 => k_is)
    (case k17 => k_is)
    (case a18 => k_is)
    (case l18 => k_is)
    (case c18 => k_is)
    (case k18 => k_is)
    (case a19 => k_is)
    (case l19 => k_is)
    (case c19 => k_is)
    (case k19 => k_is)
    (case a20 => k_is)
    (case l20 => k_is)
    (case c20 => k_is)
    (case k20 => k_is)
    (case a21 => k_is)
    (case l21 => k_is)
    (case c21 => k_is)
    (case k21 => k_is)
    (case a22 => k_is)
    (case l22 => k_is)
    (case c22 => k_is)
    (case k22 => k_is)
    (case a23 => k_is)
    (case l23 => k_is)
    (case c23 => k_is)
    (case k23 => k_is)
    (case a24 => k_is)
    (case l24 => k_is)
    (case c24 => k_is)
    (case k24 => k_is)
    (case a25 => k_is)
    (case l25 => k_is)
    (case c25 => k_is)
    (case k25 => k_is)
    (case a26 => k_is)
    (case l26 => k_is)
    (case c26 => k_is)
    (case k26 => k_is)
    (case a27 => k_is)
    (case l27 => k_is)
    (case c27 => k_is)
    (case k27 => k_is)
    (case a28 => k_is)
    (case l28 => k_is)
    (case c28 => k_is)
    (case k28 => k_is)
    (case a29 => k_is)
    (case l29 => k_is)
    (case c29 => k_is)
    (case k29 => k_is)
    (case a30 => k_is)
    (case l30 => k_is)
    (case c30 => k_is)
    (case k30 => k_is)
    (case a31 => k_is)
    (case l31 => k_is)
    (case c31 => k_is)
    (case k31 => k_is)
    (case a32 => k_is)
    (case l32 => k_is)
    (case c32 => k_is)
    (case k32 => k_is)
    (case a33 => k_is)
    (case l33 => k_is)
    (case c33 => k_is)
    (case k33 => k_is)
    (case a34 => k_is)
    (case l34 => k_is)
    (case c34 => k_is)
    (case k34 => k_is)
    (case a35 => k_is)
    (case l35 => k_is)
    (case c35 => k_is)
    (case k35 => k_is)
    (case a36 => k_is)
    (case l36 => k_is)
    (case c36 => k_is)
    (case k36 => k_is)
    (case a37 => k_is)
    (case l37 => k_is)
    (case c37 => k_is)
    (case k37 => k_is)
    (case z_isinstance => k_is)
    (case z_int => k_is)
    (case z_bool => k_is)
    (case z_abs => k_is)
    (case z_len => k_is)
    (case z_max => k_is)
    (case z_min => k_is)
    (case z_range => k_is)
    (case z_tuple => k_is)
    (case z_sum => k_is)
    (case z_zip => k_is)
    (case z_list => k_is)
    (case z_enumerate => k_is)
    (case z_sorted => k_is)
    (case z_all => k_is)
    (case z_dict => k_is)
    (case a_ClackError => k_is)
    (case a_NotEven => k_is)
    (case a_Course => k_is)
    (case kp_Course => k_is)
    (case fi_Course => k_is)
    (case li_Course => k_is)
    (case ci_Course => k_is)
    (case ki_Course => k_is)
    (case sa_Course => k_is)
    (case x_NotEven => k_exc)
    (case xkE => kernel_rfl)
    (case exE => kernel_rfl)
    (case k1E => kernel_rfl)
    (case mkC => kernel_rfl)
    (case ifC => kernel_rfl)
    (case pgC => kernel_rfl)
    (case hdC => kernel_rfl)
    (case poC => kernel_rfl)
    (case nc_place_bottom => k_is)
    (case nc_speed_bottom => k_is)
    (case nc_tick => k_is)
    (case nc_weights => k_is)
    (case nc_tracks => k_is)
    (case nc_low => k_is)
    (case nc_high => k_is)
    (case v_NOUGHT => k_is)
    (case l_NOUGHT => k_is)
end
