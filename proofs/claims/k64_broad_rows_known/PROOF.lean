import PyProof.Rows.All
import Wide.All
import OpenK.AllK
import Wide.FinOn
import Lean
import PyProof.EqAt
import PyProof.EqKinds
import PyProof.TupleCall
import PyProof.CompFree
import PyProof.Rows.SumAny
import PyProof.ZipIter
import PyProof.ConsumeWalk
import PySem.Challenge.RW_clackrow_k64_broad_rows_known
set_option Elab.async false
set_option linter.all false
set_option maxRecDepth 100000
namespace L2
open PySem PySem.Spec PyProof.Rows

abbrev Key := Sum Int Str
def keyIs : Key → Value → Bool
  | .inl k, v => Value.isInt k v
  | .inr x, v => Value.isStrOf x v
def keyH (w : World) : Key → Int
  | .inl k => hashInt k
  | .inr x => hashStr w x
theorem keyIs_shape : ∀ {k : Key} {v : Value}, keyIs k v = true → (∃ i t, k = Sum.inl i ∧ v = Value.int i t) ∨ (∃ x t, k = Sum.inr x ∧ v = Value.str x t)
  | .inl i, v, h => by
    obtain ⟨t, e⟩ := Value.isInt_shape (k := i) (v := v) h
    exact .inl ⟨i, t, rfl, e⟩
  | .inr x, v, h => by
    obtain ⟨t, e⟩ := Value.isStrOf_shape (x := x) (v := v) h
    exact .inr ⟨x, t, rfl, e⟩
theorem key_ll (a b : Int) : decide ((Sum.inl a : Key) = Sum.inl b) = (a == b) := by
  by_cases e : a = b
  · subst e; simp
  · have h : ¬ (Sum.inl a : Key) = Sum.inl b := fun q => e (Sum.inl.inj q)
    rw [decide_eq_false h]
    exact (beq_eq_false_iff_ne.mpr e).symm
theorem key_rr (a b : Str) : decide ((Sum.inr a : Key) = Sum.inr b) = decide (a = b) := by
  by_cases e : a = b
  · subst e; simp
  · have h : ¬ (Sum.inr a : Key) = Sum.inr b := fun q => e (Sum.inr.inj q)
    rw [decide_eq_false h, decide_eq_false e]
theorem key_lr (a : Int) (b : Str) : decide ((Sum.inl a : Key) = Sum.inr b) = false := decide_eq_false (fun q => nomatch q)
theorem key_rl (a : Str) (b : Int) : decide ((Sum.inr a : Key) = Sum.inl b) = false := decide_eq_false (fun q => nomatch q)

def mixKind (prog : Program) (w : World) : PySem.KeyKind prog w Key where
  is := keyIs
  hash := keyH w
  inj := fun v a b ha hb => by
    rcases keyIs_shape ha with ⟨i, t, rfl, rfl⟩ | ⟨x, t, rfl, rfl⟩
    · rcases keyIs_shape hb with ⟨j, u, rfl, e⟩ | ⟨y, u, rfl, e⟩
      · injection e with e1 _; rw [e1]
      · exact nomatch e
    · rcases keyIs_shape hb with ⟨j, u, rfl, e⟩ | ⟨y, u, rfl, e⟩
      · exact nomatch e
      · injection e with e1 _; rw [e1]
  byValue := fun k v h => by
    rcases keyIs_shape h with ⟨i, t, rfl, rfl⟩ | ⟨x, t, rfl, rfl⟩ <;> rfl
  pyHash := fun hv h => by
    rcases keyIs_shape hv with ⟨i, t, rfl, rfl⟩ | ⟨x, t, rfl, rfl⟩
    · exact wpAny_pyHash_int h
    · exact wpAny_pyHash_str h
  eqBool := fun hu hv h => by
    rcases keyIs_shape hu with ⟨i, t, rfl, rfl⟩ | ⟨x, t, rfl, rfl⟩
    · rcases keyIs_shape hv with ⟨j, u, rfl, rfl⟩ | ⟨y, u, rfl, rfl⟩
      · rw [key_ll] at h; exact wpAny_eqBool_int h
      · rw [key_lr] at h; exact SeqAt.EqAt.int_str i t y u _ _ _ _ h
    · rcases keyIs_shape hv with ⟨j, u, rfl, rfl⟩ | ⟨y, u, rfl, rfl⟩
      · rw [key_rl] at h; exact SeqAt.EqAt.str_int x t j u _ _ _ _ h
      · rw [key_rr] at h; exact wpAny_eqBool_str h
  «strs» := fun k x t v h => by
    rcases keyIs_shape h with ⟨i, u, rfl, e⟩ | ⟨y, u, rfl, e⟩
    · exact nomatch e
    · injection e with e1 _
      subst e1
      cases v <;> rfl

end L2

namespace L2
open PySem PySem.Spec PyProof.Rows

inductive V where
  | non | bl (b : Bool) | int (i : Int) | str (x : Str) | byt (b : Array UInt8) | flt (b : UInt64) | ref (a : Addr) | ty (n : String)
  deriving DecidableEq

def RelV : V → Value → Prop
  | .non, u => u = Value.none
  | .bl b, u => u = Value.bool b
  | .int i, u => ∃ t, u = Value.int i t
  | .str x, u => ∃ t, u = Value.str x t
  | .byt b, u => ∃ t, u = Value.bytes b t
  | .flt b, u => ∃ t, u = Value.float b t
  | .ref a, u => u = Value.ref a
  | .ty n, u => u = Value.type n

abbrev Vals : List V → List Value → Prop := Paired RelV
theorem Vals.length {xs : List V} {us : List Value} (r : Vals xs us) : xs.length = us.length := Paired.length r
theorem Vals.get : ∀ {xs : List V} {us : List Value} {i : Nat} {x : V}, Vals xs us → xs[i]? = some x → ∃ u, us[i]? = some u ∧ RelV x u
  | _, _, _, _, .nil, e => by simp at e
  | _, _, 0, _, .cons r _, e => by simp at e; subst e; exact ⟨_, rfl, r⟩
  | _, _, i + 1, x, .cons _ t, e => by
    obtain ⟨u, h1, h2⟩ := Vals.get (i := i) (x := x) t (by simpa using e)
    exact ⟨u, by simpa using h1, h2⟩
theorem Vals.set {x : V} {u : Value} (r : RelV x u) : ∀ {xs : List V} {us : List Value} (i : Nat), Vals xs us → Vals (xs.set i x) (us.set i u)
  | _, _, _, .nil => .nil
  | _, _, 0, .cons _ t => .cons r t
  | _, _, i + 1, .cons q t => .cons q (Vals.set r i t)
theorem Vals.append : ∀ {xs ys : List V} {us ws : List Value}, Vals xs us → Vals ys ws → Vals (xs ++ ys) (us ++ ws)
  | _, _, _, _, .nil, s => s
  | _, _, _, _, .cons r t, s => .cons r (Vals.append t s)
theorem Vals.take : ∀ {xs : List V} {us : List Value} (n : Nat), Vals xs us → Vals (xs.take n) (us.take n)
  | _, _, 0, _ => .nil
  | _, _, _ + 1, .nil => .nil
  | _, _, n + 1, .cons r t => .cons r (Vals.take n t)
theorem Vals.drop : ∀ {xs : List V} {us : List Value} (n : Nat), Vals xs us → Vals (xs.drop n) (us.drop n)
  | _, _, 0, r => r
  | _, _, _ + 1, .nil => .nil
  | _, _, n + 1, .cons _ t => Vals.drop n t
def RelO : Option V → Option Value → Prop
  | some v, some u => RelV v u
  | none, none => True
  | _, _ => False
def KV {κ : Type} : List (κ × V) → List (κ × Value) → Prop := Paired fun (p : κ × V) (q : κ × Value) => p.1 = q.1 ∧ RelV p.2 q.2

def kV : Key → V
  | .inl i => .int i
  | .inr x => .str x

inductive HO where
  /-- a list -/
  | lst (xs : List V)
  /-- a tuple (never changes) -/
  | tup (xs : List V)
  /-- a dict whose keys are ints and texts; one whose keys are tuples of ints and texts (the empty one is both) -/
  | dK (kvs : List (Key × V)) | dT (kvs : List (List Key × V))
  /-- a set of ints: its members, its size -/
  | set (S : Int → Bool) (n : Nat)
  /-- an instance of the class at C, its dict at dx, its attributes -/
  | ins (C dx : Addr) (fs : List (Str × V))
  /-- the dict of the instance at x -/
  | own (x : Addr)
  /-- the dict of an exception -/
  | xd (fs : List (Str × V))
  /-- a bound method, f of x -/
  | met (f x : Addr)
  /-- a range object lo, lo + 1, .. below hi -/
  | rng (lo hi : Int)
  /-- a thing that is known to the object (the script; a dict while a loop walks it): read, never written while it is so -/
  | frz (o : Obj) (u : HO)
  /-- a code object's table -/
  | tbl (ps : Array Value)
  /-- any other thing, by what is true of its one object (a def of one's own: SetO a S n := HO.ext fun h => ..) -/
  | ext (φ : Heap → Prop)

abbrev Hp := Addr → Option HO
def upd (H : Hp) (a : Addr) (o : HO) : Hp := fun b => if b = a then some o else H b
theorem upd_same {H : Hp} {a : Addr} {o : HO} : upd H a o a = some o := by unfold upd; rw [if_pos rfl]
theorem upd_ne {H : Hp} {a b : Addr} {o : HO} (h : b ≠ a) : upd H a o b = H b := by unfold upd; rw [if_neg h]
theorem ne_of {H : Hp} {a b : Addr} {o u : HO} (h : H a = some o) (h' : H b = some u) (d : o ≠ u) : a ≠ b := by
  intro e; subst e; rw [h] at h'; exact d (Option.some.inj h')
theorem ne_of_none {H : Hp} {a b : Addr} {o : HO} (h : H a = some o) (h' : H b = none) : a ≠ b := by
  intro e; subst e; rw [h] at h'; cases h'

section
variable (P : Program) (w : World)
def ObjOk (H : Hp) (h : Heap) (a : Addr) : HO → Prop
  | .lst xs => xs.length ≤ sizeLine ∧ ∃ (its : List Value) (n : Nat), Vals xs its ∧ h.get? a = some { cls := .type "list", data := .seq its.toArray n }
  | .tup xs => xs.length ≤ sizeLine ∧ ∃ its : List Value, Vals xs its ∧ IsTup h a its.toArray
  | .dK kvs => kvs.length ≤ sizeLine ∧ (a == sysModules) = false ∧ ∃ vs, KV kvs vs ∧ h.DictOf (mixKind P w) a vs
  | .dT kvs => kvs.length ≤ sizeLine ∧ (a == sysModules) = false ∧ ∃ xs : List (List Key × Addr × Value),
      Paired (fun (p : List Key × V) (q : List Key × Addr × Value) => p.1 = q.1 ∧ H q.2.1 = some (.tup (p.1.map kV)) ∧ RelV p.2 q.2.2) kvs xs ∧
      ∃ o es ep, h.get? a = some o ∧ o.ExactDict ∧ o.data = .dict es ep ∧ es.toList = xs.map (entryOfKey (tupleKind (mixKind P w))) ∧ (xs.map (·.1)).Nodup
  | .set S n => h.SetOf (intKind P w) a S n
  | .ins C dx fs => H dx = some (.own a) ∧ fs.length ≤ 1000 ∧ dx ≠ a ∧ h.get? a = some (PySem.W.instObj C dx) ∧
      ∃ mA, h.Ns1 dx mA ∧ (∀ f, RelO (fs.lookup f) (mA f)) ∧ PySem.Within mA (fs.map (·.1))
  | .own _ => ∃ o, h.get? a = some o
  | .xd fs => ∃ mA, h.Ns1 a mA ∧ ∀ f, RelO (fs.lookup f) (mA f)
  | .rng lo hi => ∃ t u v, h.get? a = some { cls := .type "range", data := .fields #[.int lo t, .int hi u, .int 1 v] }
  | .frz o u => h.get? a = some o ∧ ObjOk H h a u
  | .tbl ps => h.get? a = some { cls := .none, data := .fields ps }
  | .met f x => h.get? a = some (PySem.W.methodObj (.ref f) (.ref x))
  | .ext φ => φ h ∧ (∃ o, h.get? a = some o) ∧ ∀ h1 h2 : Heap, φ h1 → (∀ o, h1.get? a = some o → h2.get? a = some o) → φ h2
def HOk (H : Hp) (h : Heap) : Prop := ∀ a o, H a = some o → ObjOk P w H h a o
end

section
variable {P : Program} {w : World} {H H' : Hp} {h h' : Heap} {a : Addr} {o : HO}
theorem ObjOk.lt (x : ObjOk P w H h a o) : a < h.objs.size := by
  cases o with
  | lst xs => obtain ⟨_, _, _, _, e⟩ := x; exact Heap.lt_size e
  | tup xs => obtain ⟨_, _, _, p⟩ := x; exact p.lt
  | dK kvs => obtain ⟨_, _, _, _, o, _, _, e, _⟩ := x; exact Heap.lt_size e
  | dT kvs => obtain ⟨_, _, _, _, o, _, _, e, _⟩ := x; exact Heap.lt_size e
  | set S n => obtain ⟨o, _, _, _, e, _⟩ := x; exact Heap.lt_size e
  | ins C dx fs => obtain ⟨_, _, _, e, _⟩ := x; exact Heap.lt_size e
  | own y => obtain ⟨_, e⟩ := x; exact Heap.lt_size e
  | xd fs => obtain ⟨_, ⟨_, _, _, e, _⟩, _⟩ := x; exact Heap.lt_size e
  | rng lo hi => obtain ⟨_, _, _, e⟩ := x; exact Heap.lt_size e
  | frz ob u => obtain ⟨e, _⟩ := x; exact Heap.lt_size e
  | tbl ps => exact Heap.lt_size (show h.get? a = some _ from x)
  | met f y => exact Heap.lt_size (show h.get? a = some _ from x)
  | ext φ => obtain ⟨_, ⟨_, e⟩, _⟩ := x; exact Heap.lt_size e
theorem Paired.mapP {α β : Type} {F G : α → β → Prop} : ∀ {l₁ : List α} {l₂ : List β}, Paired F l₁ l₂ → (∀ a b, F a b → G a b) → Paired G l₁ l₂
  | _, _, .nil, _ => .nil
  | _, _, .cons r t, f => .cons (f _ _ r) (Paired.mapP t f)
theorem ObjOk.stay (x : ObjOk P w H h a o) (k : ∀ b u, (b = a ∨ H b = some (.own a)) → h.get? b = some u → h'.get? b = some u)
    (ho : ∀ b, H b = some (.own a) → H' b = some (.own a)) (ht : ∀ b xs, H b = some (.tup xs) → H' b = some (.tup xs)) : ObjOk P w H' h' a o := by
  induction o with
  | lst xs => obtain ⟨z, its, n, r, e⟩ := x; exact ⟨z, its, n, r, k _ _ (.inl rfl) e⟩
  | tup xs => obtain ⟨z, its, r, ob, e, c⟩ := x; exact ⟨z, its, r, ob, k _ _ (.inl rfl) e, c⟩
  | dK kvs => obtain ⟨z, y, vs, r, ob, es, ep, e, c⟩ := x; exact ⟨z, y, vs, r, ob, es, ep, k _ _ (.inl rfl) e, c⟩
  | dT kvs =>
    obtain ⟨z, y, xs, r, ob, es, ep, e, c⟩ := x
    exact ⟨z, y, xs, Paired.mapP r fun p q z => ⟨z.1, ht _ _ z.2.1, z.2.2⟩, ob, es, ep, k _ _ (.inl rfl) e, c⟩
  | set S n => obtain ⟨ob, es, ep, t, e, c⟩ := x; exact ⟨ob, es, ep, t, k _ _ (.inl rfl) e, c⟩
  | ins C dx fs =>
    obtain ⟨d, z, ne, e, mA, ⟨od, es, ep, e2, c⟩, r⟩ := x
    exact ⟨ho _ d, z, ne, k _ _ (.inl rfl) e, mA, ⟨od, es, ep, k _ _ (.inr d) e2, c⟩, r⟩
  | own y => obtain ⟨ob, e⟩ := x; exact ⟨ob, k _ _ (.inl rfl) e⟩
  | xd fs => obtain ⟨mA, ⟨od, es, ep, e, c⟩, r⟩ := x; exact ⟨mA, ⟨od, es, ep, k _ _ (.inl rfl) e, c⟩, r⟩
  | rng lo hi => obtain ⟨t, u, v, e⟩ := x; exact ⟨t, u, v, k _ _ (.inl rfl) e⟩
  | frz ob u ih => obtain ⟨e, q⟩ := x; exact ⟨k _ _ (.inl rfl) e, ih q⟩
  | tbl ps =>
    have e : h.get? a = some { cls := .none, data := .fields ps } := x
    show h'.get? a = some { cls := .none, data := .fields ps }
    exact k a _ (.inl rfl) e
  | met f y =>
    have e : h.get? a = some (PySem.W.methodObj (.ref f) (.ref y)) := x
    show h'.get? a = some (PySem.W.methodObj (.ref f) (.ref y))
    exact k a _ (.inl rfl) e
  | ext φ => obtain ⟨p, ⟨o, e⟩, st⟩ := x; exact ⟨st _ _ p fun o q => k _ _ (.inl rfl) q, ⟨o, k _ _ (.inl rfl) e⟩, st⟩
theorem HOk.lt (x : HOk P w H h) (e : H a = some o) : a < h.objs.size := (x a o e).lt
theorem HOk.fresh (x : HOk P w H h) (e : h.objs.size ≤ a) : H a = none := by
  cases q : H a with
  | none => rfl
  | some u => exact absurd (Nat.lt_of_lt_of_le (x.lt q) e) (Nat.lt_irrefl _)
theorem HOk.kept (x : HOk P w H h) (k : ∀ b u, h.get? b = some u → h'.get? b = some u) : HOk P w H h' := fun a o e =>
  (x a o e).stay (fun b u _ q => k b u q) (fun _ q => q) fun _ _ q => q
theorem HOk.laid (x : HOk P w H h) (k : ∀ b u, h.get? b = some u → h'.get? b = some u) (hp : h.objs.size ≤ a) (new : ObjOk P w (upd H a o) h' a o) : HOk P w (upd H a o) h' := fun b u e => by
  have hn := x.fresh hp
  by_cases hb : b = a
  · subst hb; rw [upd_same] at e; cases e; exact new
  · rw [upd_ne hb] at e
    exact (x b u e).stay (fun c v _ q => k c v q) (fun c q => by rw [upd_ne (ne_of_none q hn)]; exact q) fun c xs q => by rw [upd_ne (ne_of_none q hn)]; exact q
end

def Rd (H : Hp) (a : Addr) (u : HO) : Prop := H a = some u ∨ ∃ o, H a = some (.frz o u)
theorem Rd.of {H : Hp} {a : Addr} {u : HO} (h : H a = some u) : Rd H a u := .inl h
theorem Rd.ok {P : Program} {w : World} {H : Hp} {h : Heap} {a : Addr} {u : HO} (r : Rd H a u) (x : HOk P w H h) : ObjOk P w H h a u := by
  rcases r with r | ⟨o, r⟩
  · exact x a u r
  · obtain ⟨_, q⟩ := x a _ r
    exact q
def Mut : Option HO → Prop
  | some (.lst _) => True
  | some (.dK _) => True
  | some (.dT _) => True
  | some (.set _ _) => True
  | some (.ins _ _ _) => True
  | some (.ext _) => True
  | _ => False
section
variable {P : Program} {w : World} {H : Hp} {h h' : Heap} {x e : Addr} {o' : HO}
theorem HOk.write (ok : HOk P w H h) (mu : Mut (H x)) (he : e = x ∨ H e = some (.own x)) (k : ∀ b u, b ≠ e → h.get? b = some u → h'.get? b = some u) (heo : ∃ u, h'.get? e = some u)
    (new : ObjOk P w (upd H x o') h' x o') : HOk P w (upd H x o') h' := fun b u q => by
  have nown : ∀ c y, H c = some (.own y) → c ≠ x := fun c y r z => by subst z; rw [r] at mu; exact mu
  have ntup : ∀ c xs, H c = some (.tup xs) → c ≠ x := fun c xs r z => by subst z; rw [r] at mu; exact mu
  by_cases hb : b = x
  · subst hb; rw [upd_same] at q; cases q; exact new
  · rw [upd_ne hb] at q
    by_cases hbe : b = e
    · have q' : H b = some (.own x) := by
        rcases he with z | z
        · exact absurd (hbe.trans z) hb
        · rw [hbe]; exact z
      rw [q] at q'; cases q'
      obtain ⟨v, hv⟩ := heo
      exact ⟨v, by rw [hbe]; exact hv⟩
    · refine (ok b u q).stay (fun c v hc r => k c v ?_ r) (fun c r => by rw [upd_ne (nown c b r)]; exact r) fun c xs r => by rw [upd_ne (ntup c xs r)]; exact r
      rcases hc with rfl | hc
      · exact hbe
      · rintro rfl
        rcases he with z | z
        · exact nown c b hc z
        · rw [hc] at z; cases z; exact hb rfl
end

structure Un (fs ex : List Addr) (H H' : Hp) (h h' : Heap) : Prop where
  keep : ∀ b o, h.get? b = some o → H b = none → b ∉ fs → b ∉ ex → h'.get? b = some o
  slot : ∀ b o, h.get? b = some o → H b = none → b ∈ fs → b ∉ ex → ∃ sl, h'.get? b = some { o with slots := sl }
  free : ∀ b o, h.get? b = some o → H b = none → b ∉ ex → H' b = none
  there : ∀ b o, h.get? b = some o → b ∉ ex → ∃ o', h'.get? b = some o'
  tups : ∀ b xs, H b = some (.tup xs) → H' b = some (.tup xs)
  frzs : ∀ b o u, H b = some (.frz o u) → H' b = some (.frz o u)
  tbls : ∀ b ps, H b = some (.tbl ps) → ∃ more, H' b = some (.tbl (ps ++ more))
section
variable {fs fs' ex ex' : List Addr} {H H1 H2 : Hp} {h h1 h2 h' : Heap} {a x e : Addr} {o : HO}
theorem Un.any (u : Un fs ex H H1 h h1) {b : Addr} {ob : Obj} (q : h.get? b = some ob) (n : H b = none) (hx : b ∉ ex) : ∃ sl, h1.get? b = some { ob with slots := sl } := by
  by_cases hb : b ∈ fs
  · exact u.slot b ob q n hb hx
  · exact ⟨ob.slots, u.keep b ob q n hb hx⟩
theorem Un.trans (a : Un fs ex H H1 h h1) (b : Un fs ex H1 H2 h1 h2) : Un fs ex H H2 h h2 where
  keep := fun c ob q n hc hx => b.keep c ob (a.keep c ob q n hc hx) (a.free c ob q n hx) hc hx
  slot := fun c ob q n hc hx => by
    obtain ⟨sl, e1⟩ := a.slot c ob q n hc hx
    obtain ⟨sl', e2⟩ := b.slot c _ e1 (a.free c ob q n hx) hc hx
    exact ⟨sl', e2⟩
  free := fun c ob q n hx => by
    obtain ⟨o', e1⟩ := a.there c ob q hx
    exact b.free c o' e1 (a.free c ob q n hx) hx
  there := fun c ob q hx => by
    obtain ⟨o', e1⟩ := a.there c ob q hx
    exact b.there c o' e1 hx
  tups := fun c xs q => b.tups c xs (a.tups c xs q)
  frzs := fun c ob xs q => b.frzs c ob xs (a.frzs c ob xs q)
  tbls := fun c ps q => by
    obtain ⟨m1, e1⟩ := a.tbls c ps q
    obtain ⟨m2, e2⟩ := b.tbls c _ e1
    exact ⟨m1 ++ m2, by rw [e2, Array.append_assoc]⟩
theorem Un.kept (k : ∀ b u, h.get? b = some u → h'.get? b = some u) : Un fs ex H H h h' :=
  ⟨fun b ob q _ _ _ => k b ob q, fun b ob q _ _ _ => ⟨ob.slots, k b ob q⟩, fun _ _ _ n _ => n, fun b ob q _ => ⟨ob, k b ob q⟩, fun _ _ q => q, fun _ _ _ q => q, fun _ ps q => ⟨#[], by rw [q]; simp⟩⟩
theorem Un.refl : Un fs ex H H h h := Un.kept fun _ _ q => q
theorem Un.laid (k : ∀ b u, h.get? b = some u → h'.get? b = some u) (hp : h.objs.size ≤ a) (hn : H a = none) : Un fs ex H (upd H a o) h h' where
  keep := fun b u q _ _ _ => k b u q
  slot := fun b u q _ _ _ => ⟨u.slots, k b u q⟩
  free := fun b u q n _ => by rw [upd_ne (Nat.ne_of_lt (Nat.lt_of_lt_of_le (Heap.lt_size q) hp))]; exact n
  there := fun b u q _ => ⟨u, k b u q⟩
  tups := fun b xs q => by rw [upd_ne (ne_of_none q hn)]; exact q
  frzs := fun b u xs q => by rw [upd_ne (ne_of_none q hn)]; exact q
  tbls := fun b ps q => ⟨#[], by rw [upd_ne (ne_of_none q hn), q]; simp⟩
theorem Un.write (mu : Mut (H x)) (he : e = x ∨ H e = some (.own x)) (k : ∀ b u, b ≠ e → h.get? b = some u → h'.get? b = some u) (heo : ∃ u, h'.get? e = some u) : Un fs ex H (upd H x o) h h' := by
  have hx : ∀ b, H b = none → b ≠ x := fun b n z => by subst z; rw [n] at mu; exact mu
  have hb : ∀ b, H b = none → b ≠ e := fun b n z => by
    subst z
    rcases he with r | r
    · exact hx b n r
    · rw [n] at r; cases r
  have hm : ∀ b u, H b = some u → ¬ Mut (some u) → b ≠ x := fun b u q nm z => by subst z; rw [q] at mu; exact nm mu
  refine ⟨fun b u q n _ _ => k b u (hb b n) q, fun b u q n _ _ => ⟨u.slots, k b u (hb b n) q⟩, fun b u q n _ => by rw [upd_ne (hx b n)]; exact n, fun b u q _ => ?_,
    fun b xs q => by rw [upd_ne (hm b _ q fun z => z)]; exact q, fun b u xs q => by rw [upd_ne (hm b _ q fun z => z)]; exact q, fun b ps q => ⟨#[], by rw [upd_ne (hm b _ q fun z => z), q]; simp⟩⟩
  by_cases hbe : b = e
  · subst hbe; exact heo
  · exact ⟨u, k b u hbe q⟩
theorem Un.mono (u : Un fs ex H H1 h h1) (hs : ∀ b ∈ fs, b ∈ fs') (hx : ∀ b ∈ ex, b ∈ ex') : Un fs' ex' H H1 h h1 :=
  ⟨fun b ob q n hb he => u.keep b ob q n (fun z => hb (hs b z)) fun z => he (hx b z), fun _ _ q n _ he => u.any q n fun z => he (hx _ z), fun b ob q n he => u.free b ob q n fun z => he (hx b z), fun b ob q he => u.there b ob q fun z => he (hx b z), u.tups, u.frzs, u.tbls⟩
end

def trk (h : Heap) (H : Hp) : List Addr := (List.range h.objs.size).filter fun a => (H a).isSome
def hidT (h : Heap) (H : Hp) : Heap := PySem.W.hideAll h (trk h H)
theorem hidT_size (h : Heap) (H : Hp) : (hidT h H).objs.size = h.objs.size := PySem.W.hideAll_size _ _
theorem hidT_get {h : Heap} {H : Hp} {b : Addr} {o : Obj} (e : h.get? b = some o) (n : H b = none) : (hidT h H).get? b = some o :=
  PySem.W.hideAll_get _ e fun hm => by
    have q : (H b).isSome = true := (List.mem_filter.mp hm).2
    rw [n] at q; simp at q
theorem of_hidT {h : Heap} {H : Hp} {b : Addr} {o : Obj} (e : (hidT h H).get? b = some o) : h.get? b = some o ∧ H b = none := by
  have e' : h.get? b = some o := PySem.W.of_hideAll (trk h H) e
  refine ⟨e', ?_⟩
  cases q : H b with
  | none => rfl
  | some x =>
    have hm : b ∈ trk h H := List.mem_filter.mpr ⟨List.mem_range.mpr (Heap.lt_size e'), by simp [q]⟩
    have z : (hidT h H).get? b = none := PySem.W.hideAll_none (trk h H) hm
    rw [z] at e; cases e

def allNews (g h : Heap) (L : Addr) : List (Addr × Obj) := (List.range h.objs.size).filterMap fun a => if a = L ∨ (g.get? a).isSome = true then none else (h.get? a).map fun o => (a, o)
def rest (g h : Heap) (L d : Addr) : List (Addr × Obj) := (allNews g h L).filter fun p => decide (p.1 ≠ d)
end L2

namespace L2
open PySem PySem.Spec PyProof.Rows

structure Mod (K : PySem.W.Frag) (mg : Str → Option Value) (base : Heap) : Prop where
  kin : K.In base
  glob : base.Ns mainGlobals mg
  blt : ∃ mb, base.Ns builtinsNs mb ∧ ∀ x : Str, x ≠ "__name__" → mb x = bootBuiltins x
  nolimit : base.NoLimit

structure Cx where
  prog : Program
  w : World
  K : PySem.W.Frag
  mg : Str → Option Value
  base : Heap
  A : Around
  N : List Str
  s₀ : Shared
  H₀ : Hp
  env : Env
  outer : List Env
  stack : List Env
  ex : List Addr
  fn : Str → Bool
  calm : Bool
  pn : List (Addr × Obj)
  xe : Value → Shared → Prop
def frs (l : List Env) : List Addr := l.filterMap (·.frame)
abbrev Cx.fs (X : Cx) : List Addr := frs X.outer

def Vis (sc : Scope) (x : Str) : Prop := sc.names.lookup x = some .local ∨ sc.names.lookup x = some .cell ∨ sc.names.lookup x = some .free
def Loc (sc : Scope) (x : Str) : Prop := sc.names.lookup x = some .local ∨ sc.names.lookup x = some .cell
def Look (env : Env) (h : Heap) (m : Str → Option Value) (x : Str) (u : Value) : Prop :=
  (env.kindOf x = some .local ∧ m x = some u) ∨ ((env.kindOf x = some .cell ∨ env.kindOf x = some .free) ∧ ∃ c, env.cells.lookup x = some c ∧ h.IsCell c (some u))

structure Cx.Ok (X : Cx) : Prop where
  mod : Mod X.K X.mg X.base
  kind : X.env.scope.kind = .function
  glob : X.env.globals = mainGlobals
  blt : X.env.builtins = builtinsNs
  above : X.s₀.heap.objs.size ≤ X.env.locals
  inj : ∀ x y c, X.env.cells.lookup x = some c → X.env.cells.lookup y = some c → x = y
  has : ∀ x, (X.env.kindOf x = some .cell ∨ X.env.kindOf x = some .free) → ∃ c, X.env.cells.lookup x = some c
  cab : ∀ x c, X.fn x = true → X.env.cells.lookup x = some c → X.s₀.heap.objs.size ≤ c
  hd : X.calm = true → X.A.handled = none
  frames : X.A.frames = some X.stack
  stk : X.stack = X.outer ∨ (X.stack = X.env :: X.outer ∧ X.env.frame = some X.env.locals)
  exf : ∀ b ∈ X.ex, b ≠ X.env.locals ∧ ∀ x c, X.env.cells.lookup x = some c → c ≠ b
  bs : ∀ b o, X.base.get? b = some o → X.s₀.heap.get? b = some o ∧ X.H₀ b = none
  bsz : X.base.objs.size ≤ X.s₀.heap.objs.size
  noex : ∀ b o, X.base.get? b = some o → b ∉ X.ex
  exfs : ∀ b ∈ X.ex, b ∉ X.fs
  funs : X.s₀.heap.FunFrames X.base X.outer
  frf : ∀ b ∈ X.fs, X.H₀ b = none

structure Inv (X : Cx) (pins : List (Addr × Obj)) (σ : List (Option V)) (H : Hp) (s : Shared) : Prop where
  ok : X.Ok
  os : s.os = X.s₀.os
  bare : AllBare s.gens
  base : Un X.fs X.ex X.H₀ H X.s₀.heap s.heap
  loc : ∃ m, s.heap.Ns X.env.locals m ∧ ∀ (i : Nat) (x : Str) (v : V), X.N[i]? = some x → σ[i]? = some (some v) → Vis X.env.scope x → ∃ u, RelV v u ∧ Look X.env s.heap m x u
  cell : ∀ x c, X.env.cells.lookup x = some c → ∃ v, s.heap.IsCell c v
  free : H X.env.locals = none
  freeC : ∀ x c, X.env.cells.lookup x = some c → H c = none
  pin : ∀ p ∈ X.pn ++ pins, s.heap.get? p.1 = some p.2 ∧ H p.1 = none ∧ p.1 ≠ X.env.locals ∧ p.1 ∉ X.fs ∧ ∀ v, p.2.data ≠ .cell v
  hok : HOk X.prog X.w H s.heap
  len : σ.length = X.N.length

section
variable {X : Cx} {pins : List (Addr × Obj)} {σ : List (Option V)} {H H' : Hp} {s : Shared} {h' : Heap}

theorem Cx.Ok.nofr (ok : X.Ok) {b : Addr} {o : Obj} (e : X.base.get? b = some o) : b ∉ X.fs := fun hb => by
  have := (ok.funs.mem hb).1
  rw [e] at this; cases this
theorem Inv.bs (I : Inv X pins σ H s) : ∀ b o, X.base.get? b = some o → s.heap.get? b = some o ∧ H b = none := fun b o e =>
  ⟨I.base.keep b o (I.ok.bs b o e).1 (I.ok.bs b o e).2 (I.ok.nofr e) (I.ok.noex b o e), I.base.free b o (I.ok.bs b o e).1 (I.ok.bs b o e).2 (I.ok.noex b o e)⟩
theorem Inv.bk (I : Inv X pins σ H s) : ∀ b o, X.base.get? b = some o → s.heap.get? b = some o := fun b o e => (I.bs b o e).1
theorem Inv.mod (I : Inv X pins σ H s) : Mod X.K X.mg X.base := I.ok.mod
theorem Inv.kIn (I : Inv X pins σ H s) : X.K.In s.heap := I.ok.mod.kin.keeps I.bk
theorem Inv.nolimit (I : Inv X pins σ H s) : s.heap.NoLimit := I.ok.mod.nolimit.keeps I.bk
theorem Inv.lt (I : Inv X pins σ H s) : X.env.locals < s.heap.objs.size := let ⟨_, hn, _⟩ := I.loc; hn.lt
theorem Inv.sz (I : Inv X pins σ H s) : X.s₀.heap.objs.size ≤ s.heap.objs.size := Nat.le_trans I.ok.above (Nat.le_of_lt I.lt)
theorem Inv.nofs (I : Inv X pins σ H s) {a : Addr} (h : s.heap.objs.size ≤ a) : a ∉ X.fs := fun hb => by
  obtain ⟨_, o, ho, _⟩ := I.ok.funs.mem hb
  exact absurd (Nat.lt_of_lt_of_le (Heap.lt_size ho) (Nat.le_trans I.sz h)) (Nat.lt_irrefl _)
theorem Inv.cne (I : Inv X pins σ H s) : ∀ x c, X.env.cells.lookup x = some c → c ≠ X.env.locals := fun x c e z => by
  obtain ⟨v, o, ho, hd⟩ := I.cell x c e
  obtain ⟨m, ⟨o', es, ep, ho', hd', _⟩, _⟩ := I.loc
  rw [z, ho'] at ho; cases ho; rw [hd'] at hd; cases hd
theorem Inv.funs (I : Inv X pins σ H s) : s.heap.FunFrames X.base X.outer := by
  have all : ∀ (l : List Env), (∀ b ∈ frs l, b ∈ X.fs) → X.s₀.heap.FunFrames X.base l → s.heap.FunFrames X.base l := by
    intro l
    induction l with
    | nil => intro _ _; trivial
    | cons env r ih =>
      intro hs hl
      obtain ⟨hk, ⟨L, o, hf, hn, ho, hd⟩, hr⟩ := hl
      have hL : L ∈ X.fs := hs L (by unfold frs; rw [List.filterMap_cons, hf]; exact List.mem_cons_self)
      obtain ⟨sl, e⟩ := I.base.slot L o ho (I.ok.frf L hL) hL fun z => I.ok.exfs L z hL
      exact ⟨hk, ⟨L, _, hf, hn, e, hd⟩, ih (fun b hb => hs b (by unfold frs; rw [List.filterMap_cons, hf]; exact List.mem_cons_of_mem _ hb)) hr⟩
  exact all X.outer (fun _ hb => hb) I.ok.funs

theorem Inv.stack (I : Inv X pins σ H s) : s.heap.FunFrames X.base X.stack := by
  rcases I.ok.stk with e | ⟨e, hf⟩
  · rw [e]; exact I.funs
  · rw [e]
    obtain ⟨m, hn, _⟩ := I.loc
    refine .cons (by rw [I.ok.kind]; decide) hf hn ?_ I.funs
    exact Heap.get?_none_of_le (Nat.le_trans I.ok.bsz I.ok.above)
theorem Inv.stkSub (I : Inv X pins σ H s) : ∀ b ∈ frs X.stack, b ∈ X.env.locals :: X.fs := fun b hb => by
  rcases I.ok.stk with e | ⟨e, hf⟩
  · rw [e] at hb; exact List.mem_cons_of_mem _ hb
  · rw [e] at hb
    unfold frs at hb
    rw [List.filterMap_cons, hf] at hb
    exact hb
theorem Inv.stkFree (I : Inv X pins σ H s) : ∀ b ∈ frs X.stack, H b = none := fun b hb => by
  rcases List.mem_cons.mp (I.stkSub b hb) with e | hb
  · rw [e]; exact I.free
  · obtain ⟨_, o, ho, _⟩ := I.ok.funs.mem hb
    exact I.base.free b o ho (I.ok.frf b hb) fun z => I.ok.exfs b z hb

theorem Inv.step {g' : Array GenState} {t' : Nat} {d' : Drawn} {ch : List Addr} (I : Inv X pins σ H s)
    (hch : ∀ b ∈ ch, (b ∈ X.ex ∨ X.s₀.heap.objs.size ≤ b) ∧ b ≠ X.env.locals ∧ (∀ x c, X.env.cells.lookup x = some c → c ≠ b) ∧ ∀ p ∈ X.pn ++ pins, p.1 ≠ b)
    (keep : ∀ b o, b ≠ X.env.locals → b ∉ X.fs → b ∉ ch → s.heap.get? b = some o → H b = none → h'.get? b = some o)
    (slot : ∀ b o, b ≠ X.env.locals → b ∈ X.fs → b ∉ ch → s.heap.get? b = some o → H b = none → ∃ sl, h'.get? b = some { o with slots := sl }) (free : ∀ b o, b ∉ ch → s.heap.get? b = some o → H b = none → H' b = none)
    (there : ∀ b o, b ∉ ch → s.heap.get? b = some o → ∃ o', h'.get? b = some o')
    (tups : ∀ b xs, H b = some (.tup xs) → H' b = some (.tup xs)) (frzs : ∀ b o u, H b = some (.frz o u) → H' b = some (.frz o u)) (tbls : ∀ b ps, H b = some (.tbl ps) → ∃ more, H' b = some (.tbl (ps ++ more)))
    (ns : ∀ m, s.heap.Ns X.env.locals m → h'.Ns X.env.locals m) (hok : HOk X.prog X.w H' h') (hg : AllBare g') :
    Inv X pins σ H' { s with heap := h', gens := g', drawn := d', toks := t' } := by
  have neL : ∀ b o, X.s₀.heap.get? b = some o → b ≠ X.env.locals := fun b o e => Nat.ne_of_lt (Nat.lt_of_lt_of_le (Heap.lt_size e) I.ok.above)
  have neC : ∀ b o, X.s₀.heap.get? b = some o → b ∉ X.ex → b ∉ ch := fun b o e hx hb => by
    rcases (hch b hb).1 with z | z
    · exact hx z
    · exact absurd (Nat.lt_of_lt_of_le (Heap.lt_size e) z) (Nat.lt_irrefl _)
  have cellK : ∀ x c, X.env.cells.lookup x = some c → ∀ v, s.heap.IsCell c v → h'.IsCell c v := fun x c e v ⟨o, ho, hd⟩ => by
    have nch : c ∉ ch := fun z => (hch c z).2.2.1 x c e rfl
    by_cases hc : c ∈ X.fs
    · obtain ⟨sl, q⟩ := slot c o (I.cne x c e) hc nch ho (I.freeC x c e)
      exact ⟨_, q, hd⟩
    · exact ⟨o, keep c o (I.cne x c e) hc nch ho (I.freeC x c e), hd⟩
  refine ⟨I.ok, I.os, hg, ⟨fun b o e n hb hx => ?_, fun b o e n hb hx => ?_, fun b o e n hx => ?_, fun b o e hx => ?_, fun b xs e => tups b xs (I.base.tups b xs e), fun b o xs e => frzs b o xs (I.base.frzs b o xs e), fun b ps e => ?_⟩, ?_, fun x c e => ?_, ?_, fun x c e => ?_, fun p hp => ?_, hok, I.len⟩
  · exact keep b o (neL b o e) hb (neC b o e hx) (I.base.keep b o e n hb hx) (I.base.free b o e n hx)
  · obtain ⟨sl, e1⟩ := I.base.slot b o e n hb hx
    obtain ⟨sl', e2⟩ := slot b _ (neL b o e) hb (neC b o e hx) e1 (I.base.free b o e n hx)
    exact ⟨sl', e2⟩
  · obtain ⟨o', e1⟩ := I.base.there b o e hx
    exact free b o' (neC b o e hx) e1 (I.base.free b o e n hx)
  · obtain ⟨o', e1⟩ := I.base.there b o e hx
    exact there b o' (neC b o e hx) e1
  · obtain ⟨m1, e1⟩ := I.base.tbls b ps e
    obtain ⟨m2, e2⟩ := tbls b _ e1
    exact ⟨m1 ++ m2, by rw [e2, Array.append_assoc]⟩
  · obtain ⟨m, hn, hl⟩ := I.loc
    refine ⟨m, ns m hn, fun i x v e1 e2 e3 => ?_⟩
    obtain ⟨u, r, l⟩ := hl i x v e1 e2 e3
    refine ⟨u, r, ?_⟩
    rcases l with l | ⟨k, c, e, z⟩
    · exact .inl l
    · exact .inr ⟨k, c, e, cellK x c e _ z⟩
  · obtain ⟨v, z⟩ := I.cell x c e
    exact ⟨v, cellK x c e v z⟩
  · obtain ⟨m, ⟨o, _, _, ho, _⟩, _⟩ := I.loc
    exact free _ o (fun z => (hch _ z).2.1 rfl) ho I.free
  · obtain ⟨v, o, ho, hd⟩ := I.cell x c e
    exact free c o (fun z => (hch c z).2.2.1 x c e rfl) ho (I.freeC x c e)
  · obtain ⟨e, n, ne, nf, d⟩ := I.pin p hp
    have nch : p.1 ∉ ch := fun z => (hch p.1 z).2.2.2 p hp rfl
    exact ⟨keep p.1 p.2 ne nf nch e n, free p.1 p.2 nch e n, ne, nf, d⟩
theorem Inv.un {t' : Nat} (I : Inv X pins σ H s) (u : Un X.fs [] H H' s.heap h') (hok : HOk X.prog X.w H' h') : Inv X pins σ H' { s with heap := h', toks := t' } := by
  obtain ⟨m, ⟨o, es, ep, ho, r⟩, _⟩ := id I.loc
  obtain ⟨sl, hL⟩ := u.any ho I.free (by simp)
  exact I.step (g' := s.gens) (d' := s.drawn) (ch := []) (fun _ z => nomatch z) (fun b o _ hb _ e n => u.keep b o e n hb (by simp)) (fun b o _ hb _ e n => u.slot b o e n hb (by simp)) (fun b o _ e n => u.free b o e n (by simp)) (fun b o _ e => u.there b o e (by simp)) u.tups u.frzs u.tbls (fun m' hm => by
    obtain ⟨o', es', ep', ho', r'⟩ := hm
    rw [ho] at ho'; cases ho'
    exact ⟨_, es', ep', hL, r'⟩) hok I.bare
theorem Inv.call {g' : Array GenState} {t' : Nat} {d' : Drawn} {ch : List Addr} (I : Inv X pins σ H s) (u : Un (frs X.stack) ch H H' s.heap h') (hok : HOk X.prog X.w H' h') (hg : AllBare g')
    (hch : ∀ b ∈ ch, (b ∈ X.ex ∨ X.s₀.heap.objs.size ≤ b) ∧ b ≠ X.env.locals ∧ (∀ x c, X.env.cells.lookup x = some c → c ≠ b) ∧ ∀ p ∈ X.pn ++ pins, p.1 ≠ b) :
    Inv X pins σ H' { s with heap := h', gens := g', drawn := d', toks := t' } := by
  obtain ⟨m, ⟨o, es, ep, ho, r⟩, _⟩ := id I.loc
  obtain ⟨sl, hL⟩ := u.any ho I.free fun z => (hch _ z).2.1 rfl
  exact I.step (ch := ch) hch (fun b o hL hb hc e n => u.keep b o e n (fun z => (List.mem_cons.mp (I.stkSub b z)).elim hL hb) hc) (fun b o _ _ hc e n => u.any e n hc) (fun b o hc e n => u.free b o e n hc) (fun b o hc e => u.there b o e hc) u.tups u.frzs u.tbls (fun m' hm => by
    obtain ⟨o', es', ep', ho', r'⟩ := hm
    rw [ho] at ho'; cases ho'
    exact ⟨_, es', ep', hL, r'⟩) hok hg
theorem Inv.turned {t' : Nat} {it : Addr} (I : Inv X pins σ H s) (k : ∀ b o, b ≠ it → s.heap.get? b = some o → h'.get? b = some o) (hn : H it = none) (hL : it ≠ X.env.locals)
    (h1 : it ∈ X.ex ∨ X.s₀.heap.objs.size ≤ it) (h2 : ∀ x c, X.env.cells.lookup x = some c → c ≠ it) (h3 : ∀ p ∈ X.pn ++ pins, p.1 ≠ it) : Inv X pins σ H { s with heap := h', toks := t' } := by
  have nit : ∀ b u, H b = some u → b ≠ it := fun b u e z => by rw [z, hn] at e; cases e
  refine I.step (g' := s.gens) (d' := s.drawn) (ch := [it]) (fun b hb => ?_) (fun b o _ _ hc e _ => k b o (fun z => hc (by simp [z])) e) (fun b o _ _ hc e _ => ⟨o.slots, k b o (fun z => hc (by simp [z])) e⟩) (fun _ _ _ _ n => n)
    (fun b o hc e => ⟨o, k b o (fun z => hc (by simp [z])) e⟩) (fun _ _ e => e) (fun _ _ _ e => e) (fun b ps e => ⟨#[], by rw [e]; simp⟩) (fun m hm => ?_) (fun b u e => ?_) I.bare
  · have e : b = it := by simpa using hb
    subst e
    exact ⟨h1, hL, h2, h3⟩
  · obtain ⟨o, es, ep, ho, r⟩ := hm
    exact ⟨o, es, ep, k _ o (Ne.symm hL) ho, r⟩
  · refine (I.hok b u e).stay (fun c v hc q => k c v ?_ q) (fun _ q => q) fun _ _ q => q
    rcases hc with z | z
    · rw [z]; exact nit b u e
    · exact nit c _ z
theorem Inv.tok (I : Inv X pins σ H s) (t : Nat) : Inv X pins σ H { s with toks := t } := I.un (h' := s.heap) (t' := t) Un.refl I.hok
theorem Inv.kept {t' : Nat} (I : Inv X pins σ H s) (k : ∀ b u, s.heap.get? b = some u → h'.get? b = some u) : Inv X pins σ H { s with heap := h', toks := t' } := I.un (Un.kept k) (I.hok.kept k)
theorem Inv.laid {a : Addr} {o : HO} {t' : Nat} (I : Inv X pins σ H s) (k : ∀ b u, s.heap.get? b = some u → h'.get? b = some u) (hp : s.heap.objs.size ≤ a) (new : ObjOk X.prog X.w (upd H a o) h' a o) :
    Inv X pins σ (upd H a o) { s with heap := h', toks := t' } := I.un (Un.laid k hp (I.hok.fresh hp)) (I.hok.laid k hp new)
theorem Inv.write {x e : Addr} {o : HO} {t' : Nat} (I : Inv X pins σ H s) (mu : Mut (H x)) (he : e = x ∨ H e = some (.own x)) (k : ∀ b u, b ≠ e → s.heap.get? b = some u → h'.get? b = some u) (heo : ∃ u, h'.get? e = some u)
    (new : ObjOk X.prog X.w (upd H x o) h' x o) : Inv X pins σ (upd H x o) { s with heap := h', toks := t' } := I.un (Un.write mu he k heo) (I.hok.write mu he k heo new)
theorem Inv.pins_of {pins' : List (Addr × Obj)} (I : Inv X pins σ H s) (h : ∀ p ∈ pins', s.heap.get? p.1 = some p.2 ∧ H p.1 = none ∧ p.1 ≠ X.env.locals ∧ p.1 ∉ X.fs ∧ ∀ v, p.2.data ≠ .cell v) : Inv X pins' σ H s :=
  ⟨I.ok, I.os, I.bare, I.base, I.loc, I.cell, I.free, I.freeC, fun p hp => (List.mem_append.mp hp).elim (fun z => I.pin p (List.mem_append_left _ z)) (h p), I.hok, I.len⟩

theorem nodup_ix {N : List Str} (hN : N.Nodup) {i j : Nat} {x : Str} (a : N[i]? = some x) (b : N[j]? = some x) : i = j := by
  obtain ⟨h1, e1⟩ := List.getElem?_eq_some_iff.mp a
  obtain ⟨h2, e2⟩ := List.getElem?_eq_some_iff.mp b
  exact (List.getElem_inj hN).mp (e1.trans e2.symm)

theorem store_ok2 {M : Model} {A : Around} {E : Value → Shared → Prop} {i : Nat} {x : Str} {v : V} {u : Value} {Q : Unit → Shared → Prop} (I : Inv X pins σ H s) (hN : X.N.Nodup) (hi : X.N[i]? = some x) (hx : Loc X.env.scope x) (r : RelV v u)
    (h : ∀ s', Inv X pins (σ.set i (some v)) H s' → (∃ a, Heap.SameBut a s.heap s'.heap ∧ (a = X.env.locals ∨ X.env.cells.lookup x = some a)) → Q () s') (hf : X.fn x = true ∨ X.env.scope.names.lookup x = some .local := by first | exact .inl rfl | exact .inr rfl | assumption) : wpAny M A (storeName X.env x u) Q E s := by
  obtain ⟨m, hn, hl⟩ := id I.loc
  have hcls : (X.env.scope.kind == .class || (X.env.scope.kind == .module && X.env.locals != X.env.globals)) = false := by rw [I.ok.kind]; rfl
  have hiσ : i < σ.length := by rw [I.len]; exact (List.getElem?_eq_some_iff.mp hi).1
  have cne := I.cne
  have tracked : ∀ {a : Addr} {h' : Heap}, (∃ o, s.heap.get? a = some o ∧ H a = none) → Heap.SameBut a s.heap h' → HOk X.prog X.w H h' := fun {a h'} ha hs b ob e => by
    obtain ⟨_, _, hfree⟩ := ha
    refine (I.hok b ob e).stay (fun c w' hc q => (hs.2 c ?_).trans q) (fun _ q => q) fun _ _ q => q
    rintro rfl
    rcases hc with rfl | hc
    · rw [hfree] at e; cases e
    · rw [hfree] at hc; cases hc
  rcases hx with hk | hk
  · refine wpAny_storeName_local hk hn (fun h' hn' hs => ?_) hcls
    obtain ⟨oL, _, _, hoL, _⟩ := id hn
    refine h _ ⟨I.ok, I.os, I.bare, ⟨fun b o e n hb hx => ?_, fun b o e n hb hx => ?_, I.base.free, fun b o e hx => ?_, I.base.tups, I.base.frzs, I.base.tbls⟩, ⟨_, hn', fun j y v' e1 e2 e3 => ?_⟩, fun y c e => ?_, I.free, I.freeC, fun p hp => ?_, tracked ⟨oL, hoL, I.free⟩ hs, by simpa using I.len⟩ ⟨_, hs, .inl rfl⟩
    · exact (hs.2 b (Nat.ne_of_lt (Nat.lt_of_lt_of_le (Heap.lt_size e) I.ok.above))).trans (I.base.keep b o e n hb hx)
    · obtain ⟨sl, e1⟩ := I.base.slot b o e n hb hx
      exact ⟨sl, (hs.2 b (Nat.ne_of_lt (Nat.lt_of_lt_of_le (Heap.lt_size e) I.ok.above))).trans e1⟩
    · obtain ⟨o', e1⟩ := I.base.there b o e hx
      exact ⟨o', (hs.2 b (Nat.ne_of_lt (Nat.lt_of_lt_of_le (Heap.lt_size e) I.ok.above))).trans e1⟩
    · by_cases hj : j = i
      · subst hj
        rw [hi] at e1; cases e1
        rw [List.getElem?_set_self hiσ] at e2
        cases e2
        exact ⟨u, r, .inl ⟨hk, by simp⟩⟩
      · rw [List.getElem?_set_ne (Ne.symm hj)] at e2
        obtain ⟨u', r', q⟩ := hl j y v' e1 e2 e3
        refine ⟨u', r', ?_⟩
        rcases q with ⟨k, e⟩ | ⟨k, c, e, z⟩
        · refine .inl ⟨k, ?_⟩
          have : y ≠ x := fun e => hj (nodup_ix hN e1 (e ▸ hi))
          simp [this, e]
        · exact .inr ⟨k, c, e, z.sameBut hs (cne y c e)⟩
    · obtain ⟨w', z⟩ := I.cell y c e
      exact ⟨w', z.sameBut hs (cne y c e)⟩
    · obtain ⟨e, n, ne, nf, d⟩ := I.pin p hp
      exact ⟨(hs.2 p.1 ne).trans e, n, ne, nf, d⟩
  · have hfn : X.fn x = true := by
      rcases hf with z | z
      · exact z
      · rw [z] at hk; cases hk
    obtain ⟨c, hc⟩ := I.ok.has x (.inl hk)
    obtain ⟨w', z⟩ := I.cell x c hc
    refine wpAny_storeName_cell I.ok.kind hk hc z (fun h' hc' hs => ?_)
    obtain ⟨oc, hoc, hocd⟩ := id z
    refine h { s with heap := h' } ⟨I.ok, I.os, I.bare, ⟨fun b o e n hb hx => ?_, fun b o e n hb hx => ?_, I.base.free, fun b o e hx => ?_, I.base.tups, I.base.frzs, I.base.tbls⟩, ⟨m, hn.sameBut hs (Ne.symm (cne x c hc)), fun j y v' e1 e2 e3 => ?_⟩, fun y c' e => ?_, I.free, I.freeC, fun p hp => ?_, tracked ⟨oc, hoc, I.freeC x c hc⟩ hs, by simpa using I.len⟩ ⟨c, hs, .inr hc⟩
    · exact (hs.2 b (Nat.ne_of_lt (Nat.lt_of_lt_of_le (Heap.lt_size e) (I.ok.cab x c hfn hc)))).trans (I.base.keep b o e n hb hx)
    · obtain ⟨sl, e1⟩ := I.base.slot b o e n hb hx
      exact ⟨sl, (hs.2 b (Nat.ne_of_lt (Nat.lt_of_lt_of_le (Heap.lt_size e) (I.ok.cab x c hfn hc)))).trans e1⟩
    · obtain ⟨o', e1⟩ := I.base.there b o e hx
      exact ⟨o', (hs.2 b (Nat.ne_of_lt (Nat.lt_of_lt_of_le (Heap.lt_size e) (I.ok.cab x c hfn hc)))).trans e1⟩
    · by_cases hj : j = i
      · subst hj
        rw [hi] at e1; cases e1
        rw [List.getElem?_set_self hiσ] at e2
        cases e2
        exact ⟨u, r, .inr ⟨.inl hk, c, hc, hc'⟩⟩
      · rw [List.getElem?_set_ne (Ne.symm hj)] at e2
        obtain ⟨u', r', q⟩ := hl j y v' e1 e2 e3
        refine ⟨u', r', ?_⟩
        rcases q with q | ⟨k, c', e, z'⟩
        · exact .inl q
        · refine .inr ⟨k, c', e, z'.sameBut hs ?_⟩
          rintro rfl
          exact hj (nodup_ix hN e1 (I.ok.inj _ _ _ e hc ▸ hi))
    · by_cases hcc : c' = c
      · subst hcc; exact ⟨_, hc'⟩
      · obtain ⟨w2, z2⟩ := I.cell y c' e
        exact ⟨w2, z2.sameBut hs hcc⟩
    · obtain ⟨e, n, ne, nf, d⟩ := I.pin p hp
      refine ⟨(hs.2 p.1 ?_).trans e, n, ne, nf, d⟩
      intro q
      rw [q, hoc] at e
      have q' : oc = p.2 := Option.some.inj e
      exact d w' (by rw [← q']; exact hocd)
theorem store_ok {M : Model} {A : Around} {E : Value → Shared → Prop} {i : Nat} {x : Str} {v : V} {u : Value} {Q : Unit → Shared → Prop} (I : Inv X pins σ H s) (hN : X.N.Nodup) (hi : X.N[i]? = some x) (hx : Loc X.env.scope x) (r : RelV v u)
    (h : ∀ s', Inv X pins (σ.set i (some v)) H s' → Q () s') (hf : X.fn x = true ∨ X.env.scope.names.lookup x = some .local := by first | exact .inl rfl | exact .inr rfl | assumption) : wpAny M A (storeName X.env x u) Q E s :=
  store_ok2 I hN hi hx r (fun s' I' _ => h s' I') hf
theorem Inv.call' {s' : Shared} {ch : List Addr} (I : Inv X pins σ H s) (ho : s'.os = s.os) (u : Un (frs X.stack) ch H H' s.heap s'.heap) (hok : HOk X.prog X.w H' s'.heap) (hg : AllBare s'.gens)
    (hch : ∀ b ∈ ch, (b ∈ X.ex ∨ X.s₀.heap.objs.size ≤ b) ∧ b ≠ X.env.locals ∧ (∀ x c, X.env.cells.lookup x = some c → c ≠ b) ∧ ∀ p ∈ X.pn ++ pins, p.1 ≠ b) : Inv X pins σ H' s' := by
  obtain ⟨h', g', d', t', o'⟩ := s'
  have e : o' = s.os := ho
  subst e
  exact I.call (g' := g') (t' := t') (d' := d') u hok hg hch
end

abbrev XK := Value → Option Addr → Hp → Prop
abbrev St := List (Option V)
abbrev VK := V → Hp → Prop
abbrev TE := St → Hp → VK → Prop
abbrev TT := St → Hp → (Bool → Hp → Prop) → Prop
abbrev TA := St → Hp → (List V → Hp → Prop) → Prop
structure Ends where
  nx : St → Hp → Prop
  rt : VK
  bk : St → Hp → Prop := fun _ _ => False
  ct : St → Hp → Prop := fun _ _ => False
abbrev TS := Ends → St → Hp → Prop

def EP (X : Cx) (pins : List (Addr × Obj)) (σ : St) (Q : VK) (u : Value) (s' : Shared) : Prop := ∃ v H', Inv X pins σ H' s' ∧ RelV v u ∧ Q v H'
def TP (X : Cx) (pins : List (Addr × Obj)) (σ : St) (Q : Bool → Hp → Prop) (b : Bool) (s' : Shared) : Prop := ∃ H', Inv X pins σ H' s' ∧ Q b H'
def AP (X : Cx) (pins : List (Addr × Obj)) (σ : St) (Q : List V → Hp → Prop) (us : List Value) (s' : Shared) : Prop := ∃ vs H', Inv X pins σ H' s' ∧ Vals vs us ∧ Q vs H'
def SP (X : Cx) (pins : List (Addr × Obj)) (D : Ends) (f : Flow) (s' : Shared) : Prop :=
  match f with
  | .next => ∃ σ' H', Inv X pins σ' H' s' ∧ D.nx σ' H'
  | .brk => ∃ σ' H', Inv X pins σ' H' s' ∧ D.bk σ' H'
  | .cont => ∃ σ' H', Inv X pins σ' H' s' ∧ D.ct σ' H'
  | .ret u => ∃ v σ' H', Inv X pins σ' H' s' ∧ RelV v u ∧ D.rt v H'

def PE (X : Cx) (e : Expr) (t : TE) : Prop :=
  ∀ (pins : List (Addr × Obj)) (s : Shared) (σ : St) (H : Hp) (Q : VK), Inv X pins σ H s → t σ H Q → wpAny (model X.prog X.w) X.A (eval e X.env) (EP X pins σ Q) X.xe s
def PT (X : Cx) (e : Expr) (t : TT) : Prop :=
  ∀ (pins : List (Addr × Obj)) (s : Shared) (σ : St) (H : Hp) (Q : Bool → Hp → Prop), Inv X pins σ H s → t σ H Q → wpAny (model X.prog X.w) X.A (isTrue e X.env (eval e X.env)) (TP X pins σ Q) X.xe s
def PW (X : Cx) (e : Expr) (t : TT) : Prop :=
  ∀ (whole : Sem Value) (pins : List (Addr × Obj)) (s : Shared) (σ : St) (H : Hp) (Q : Bool → Hp → Prop), Inv X pins σ H s → t σ H Q → wpAny (model X.prog X.w) X.A (isTrue e X.env whole) (TP X pins σ Q) X.xe s
theorem PW.pt {X : Cx} {e : Expr} {t : TT} (h : PW X e t) : PT X e t := h _
def PA (X : Cx) (es : List Expr) (t : TA) : Prop :=
  ∀ (pos : Pos) (pins : List (Addr × Obj)) (s : Shared) (σ : St) (H : Hp) (Q : List V → Hp → Prop), Inv X pins σ H s → t σ H Q → wpAny (model X.prog X.w) X.A (spliced (backTo pos (starEach es X.env))) (AP X pins σ Q) X.xe s
def PS (X : Cx) (st : Stmt) (t : TS) : Prop :=
  ∀ (pins : List (Addr × Obj)) (s : Shared) (σ : St) (H : Hp) (D : Ends), Inv X pins σ H s → t D σ H → wpAny (model X.prog X.w) X.A (exec st X.env) (SP X pins D) X.xe s
def PSs (X : Cx) (st : List Stmt) (t : TS) : Prop :=
  ∀ (pins : List (Addr × Obj)) (s : Shared) (σ : St) (H : Hp) (D : Ends), Inv X pins σ H s → t D σ H → wpAny (model X.prog X.w) X.A (execs st X.env) (SP X pins D) X.xe s
theorem thn {α : Type} {t : Sem α} {Q Q' : α → Shared → Prop} {M : Model} {A : Around} {E : Value → Shared → Prop} {s : Shared} (h : wpAny M A t Q E s) (hQ : ∀ a s, Q a s → Q' a s) : wpAny M A t Q' E s := wpAny_mono h hQ fun _ _ x => x
end L2

namespace L2
open PySem PySem.Spec PyProof.Rows
section
variable {X : Cx}

def tVar (i : Nat) : TE := fun σ H Q => ∃ v, σ[i]? = some (some v) ∧ Q v H
def tC (v : V) : TE := fun _ H Q => Q v H
theorem pe_var {i : Nat} {x : Str} {pos : Pos} (hN : X.N[i]? = some x) (hv : Vis X.env.scope x) (hd : (x == ("__debug__" : Str)) = false := by decide) (hcd : (x == ("__classdict__" : Str)) = false := by decide) : PE X (.Name x pos) (tVar i) := by
  intro pins s σ H Q I h
  obtain ⟨v, e, h⟩ := h
  obtain ⟨m, hn, hl⟩ := I.loc
  obtain ⟨u, r, l⟩ := hl i x v hN e hv
  have fin : EP X pins σ Q u s := ⟨v, H, I, r, h⟩
  rcases l with ⟨hk, hm⟩ | ⟨hk, c, hc, hcell⟩
  · exact wpAny_Name (wpAny_loadName_local I.ok.kind hk hn hm fin) hd
  · rcases hk with hk | hk
    · exact wpAny_Name (wpAny_loadName_cell I.ok.kind hk hc hcell fin) hd
    · exact wpAny_Name (wpAny_loadName_free I.ok.kind hk hc hcell fin hcd) hd
theorem pe_int {i j pos} : PE X (.Constant (.int i) j pos) (tC (.int i)) := fun _ _ _ H _ I h => wpAny_Constant_int ⟨.int i, H, I.tok _, ⟨_, rfl⟩, h⟩
theorem pe_bl {b j pos} : PE X (.Constant (.bool b) j pos) (tC (.bl b)) := fun _ _ _ H _ I h => Constant_bool ⟨.bl b, H, I, rfl, h⟩
theorem pe_non {j pos} : PE X (.Constant .none j pos) (tC .non) := fun _ _ _ H _ I h => Constant_none ⟨.non, H, I, rfl, h⟩
def Gl (X : Cx) (x : Str) : Prop := X.env.kindOf x = some .globalImplicit
theorem ld_glob {E : Value → Shared → Prop} {pins : List (Addr × Obj)} {s : Shared} {σ : St} {H : Hp} {x : Str} {u : Value} {pos : Pos} {Q : Value → Shared → Prop} (I : Inv X pins σ H s) (hg : Gl X x) (hm : X.mg x = some u) (h : Q u s)
    (hd : (x == ("__debug__" : Str)) = false := by decide) : wpAny (model X.prog X.w) X.A (eval (.Name x pos) X.env) Q E s :=
  Calls.Name_function_global I.ok.kind hg (Calls.loadGlobal_global (by rw [I.ok.glob]; exact I.mod.glob.keeps I.bk) hm h) hd
theorem ld_blt {E : Value → Shared → Prop} {pins : List (Addr × Obj)} {s : Shared} {σ : St} {H : Hp} {x : Str} {u : Value} {pos : Pos} {Q : Value → Shared → Prop} (I : Inv X pins σ H s) (hg : Gl X x) (hm : X.mg x = none) (hv : bootBuiltins x = some u) (h : Q u s)
    (hn : x ≠ "__name__" := by decide) (hd : (x == ("__debug__" : Str)) = false := by decide) : wpAny (model X.prog X.w) X.A (eval (.Name x pos) X.env) Q E s := by
  obtain ⟨mb, h1, h2⟩ := I.mod.blt
  exact Calls.Name_function_global I.ok.kind hg (Calls.loadGlobal_builtin (by rw [I.ok.glob]; exact I.mod.glob.keeps I.bk) hm (by rw [I.ok.blt]; exact h1.keeps I.bk) ((h2 x hn).trans hv) h) hd
theorem pe_glob {x : Str} {v : V} {u : Value} {pos : Pos} (hg : Gl X x) (hm : X.mg x = some u) (r : RelV v u) (hd : (x == ("__debug__" : Str)) = false := by decide) : PE X (.Name x pos) (tC v) :=
  fun _ _ _ H _ I h => ld_glob I hg hm ⟨v, H, I, r, h⟩ hd
theorem pe_bltn {x : Str} {v : V} {u : Value} {pos : Pos} (hg : Gl X x) (hm : X.mg x = none) (hv : bootBuiltins x = some u) (r : RelV v u) (hn : x ≠ "__name__" := by decide) (hd : (x == ("__debug__" : Str)) = false := by decide) : PE X (.Name x pos) (tC v) :=
  fun _ _ _ H _ I h => ld_blt I hg hm hv ⟨v, H, I, r, h⟩ hn hd

variable {a b : Expr} {ta tb : TE} {pos : Pos}
variable {tA tB' : TT} {rest : List Expr}
def tAnd (t u : TT) : TT := fun σ H Q => t σ H fun c H1 => if c = true then u σ H1 Q else Q false H1
def tOr (t u : TT) : TT := fun σ H Q => t σ H fun c H1 => if c = true then Q true H1 else u σ H1 Q
def tNot (t : TT) : TT := fun σ H Q => t σ H fun c H1 => Q (!c) H1
theorem pw_and1 (ha : PT X a tA) : PW X (.BoolOp .And [a] pos) tA := by
  intro wh pins s σ H Q I h
  refine isTrue_and (thn (ha pins s σ H Q I h) fun c s1 e => ?_)
  cases c with
  | true => exact isTrue_and_nil e
  | false => exact e
theorem pw_or1 (ha : PT X a tA) : PW X (.BoolOp .Or [a] pos) tA := by
  intro wh pins s σ H Q I h
  refine isTrue_or (thn (ha pins s σ H Q I h) fun c s1 e => ?_)
  cases c with
  | false => exact isTrue_or_nil e
  | true => exact e
theorem pw_and (ha : PT X a tA) (hb : PW X (.BoolOp .And (b :: rest) pos) tB') : PW X (.BoolOp .And (a :: b :: rest) pos) (tAnd tA tB') := by
  intro wh pins s σ H Q I h
  refine isTrue_and (thn (ha pins s σ H _ I h) fun c s1 ⟨H1, I1, q1⟩ => ?_)
  cases c with
  | true => exact hb wh pins s1 σ H1 Q I1 q1
  | false => exact ⟨H1, I1, q1⟩
theorem pw_or (ha : PT X a tA) (hb : PW X (.BoolOp .Or (b :: rest) pos) tB') : PW X (.BoolOp .Or (a :: b :: rest) pos) (tOr tA tB') := by
  intro wh pins s σ H Q I h
  refine isTrue_or (thn (ha pins s σ H _ I h) fun c s1 ⟨H1, I1, q1⟩ => ?_)
  cases c with
  | true => exact ⟨H1, I1, q1⟩
  | false => exact hb wh pins s1 σ H1 Q I1 q1
theorem pt_not (ha : PT X a tA) : PT X (.UnaryOp .Not a pos) (tNot tA) := by
  intro pins s σ H Q I h
  exact isTrue_not (ha pins s σ H (fun c H1 => Q (!c) H1) I h)
def tAndV (ta tb : TE) : TE := fun σ H Q => ta σ H fun x H1 => ∃ c, x = .bl c ∧ if c = true then tb σ H1 Q else Q (.bl false) H1
def tOrV (ta tb : TE) : TE := fun σ H Q => ta σ H fun x H1 => ∃ c, x = .bl c ∧ if c = true then Q (.bl true) H1 else tb σ H1 Q
def tNotV (ta : TE) : TE := fun σ H Q => ta σ H fun x H1 => ∃ c, x = .bl c ∧ Q (.bl (!c)) H1
theorem pe_one {op} {t : TE} (h : PE X a t) : PE X (.BoolOp op [a] pos) t := fun pins s σ H Q I hw => BoolOp_one (h pins s σ H Q I hw)
theorem pe_and (ha : PE X a ta) (hb : PE X (.BoolOp .And (b :: rest) pos) tb) : PE X (.BoolOp .And (a :: b :: rest) pos) (tAndV ta tb) := by
  intro pins s σ H Q I h
  refine BoolOp_and (thn (ha pins s σ H _ I h) fun v s1 ⟨x, H1, I1, r1, q1⟩ => ?_)
  obtain ⟨c, rfl, q1⟩ := q1
  cases r1
  refine wpAny_truthy_bool ?_
  cases c with
  | true => exact hb pins s1 σ H1 Q I1 q1
  | false => exact ⟨.bl false, H1, I1, rfl, q1⟩
theorem pe_or (ha : PE X a ta) (hb : PE X (.BoolOp .Or (b :: rest) pos) tb) : PE X (.BoolOp .Or (a :: b :: rest) pos) (tOrV ta tb) := by
  intro pins s σ H Q I h
  refine BoolOp_or (thn (ha pins s σ H _ I h) fun v s1 ⟨x, H1, I1, r1, q1⟩ => ?_)
  obtain ⟨c, rfl, q1⟩ := q1
  cases r1
  refine wpAny_truthy_bool ?_
  cases c with
  | false => exact hb pins s1 σ H1 Q I1 q1
  | true => exact ⟨.bl true, H1, I1, rfl, q1⟩
theorem pe_not (ha : PE X a ta) : PE X (.UnaryOp .Not a pos) (tNotV ta) := by
  intro pins s σ H Q I h
  refine UnaryOp_ (thn (ha pins s σ H _ I h) fun v s1 ⟨x, H1, I1, r1, q1⟩ => ?_)
  obtain ⟨c, rfl, q1⟩ := q1
  cases r1
  exact not_of (wpAny_truthy_bool ⟨.bl (!c), H1, I1, rfl, q1⟩)
end
end L2

namespace L2
open PySem PySem.Spec PyProof.Rows

def SqL (K : PySem.W.Frag) (H : Hp) (a : Addr) (xs : List V) : Prop :=
  Rd H a (.lst xs) ∨
    ∃ (o : Obj) (its : Array Value) (n : Nat), K.lookup a = some o ∧ o.cls = .type "list" ∧ o.dict = none ∧ o.data = .seq its n ∧ its.size ≤ sizeLine ∧ Vals xs its.toList
def SqT (K : PySem.W.Frag) (H : Hp) (a : Addr) (xs : List V) : Prop :=
  Rd H a (.tup xs) ∨
    ∃ (o : Obj) (its : Array Value) (n : Nat), K.lookup a = some o ∧ o.cls = .type "tuple" ∧ o.data = .seq its n ∧ its.size ≤ sizeLine ∧ Vals xs its.toList
def absV : Value → Option V
  | .none => some .non
  | .bool b => some (.bl b)
  | .int i _ => some (.int i)
  | .str x _ => some (.str x)
  | .bytes b _ => some (.byt b)
  | .float b _ => some (.flt b)
  | .ref a => some (.ref a)
  | .type n => some (.ty n)
  | _ => none
theorem RelV.abs {x : V} {u : Value} (r : RelV x u) : absV u = some x := by
  cases x with
  | non => cases r; rfl
  | bl _ => cases r; rfl
  | int _ => obtain ⟨t, rfl⟩ := r; rfl
  | str _ => obtain ⟨t, rfl⟩ := r; rfl
  | byt _ => obtain ⟨t, rfl⟩ := r; rfl
  | flt _ => obtain ⟨t, rfl⟩ := r; rfl
  | ref _ => cases r; rfl
  | ty _ => cases r; rfl
theorem RelV.inj {x y : V} {u : Value} (r : RelV x u) (q : RelV y u) : x = y := Option.some.inj (r.abs.symm.trans q.abs)
theorem Vals.inj : ∀ {xs ys : List V} {us : List Value}, Vals xs us → Vals ys us → xs = ys
  | _, _, _, .nil, .nil => rfl
  | _, _, _, .cons r t, .cons r' t' => by rw [r.inj r', Vals.inj t t']
section
variable {X : Cx} {pins : List (Addr × Obj)} {σ : St} {H : Hp} {s : Shared} {a : Addr} {xs ys : List V}
theorem SqL.of {K : PySem.W.Frag} (h : H a = some (.lst xs)) : SqL K H a xs := .inl (.inl h)
theorem SqT.of {K : PySem.W.Frag} (h : H a = some (.tup xs)) : SqT K H a xs := .inl (.inl h)
theorem Inv.list (I : Inv X pins σ H s) (h : SqL X.K H a xs) : ∃ its : List Value, Vals xs its ∧ PlainL s.heap a its.toArray ∧ xs.length ≤ sizeLine := by
  rcases h with h | ⟨o, its, n, hk, hc, hd, hs, hz, r⟩
  · obtain ⟨z, its, n, r, e⟩ := h.ok I.hok
    exact ⟨its, r, ⟨_, n, e, rfl, rfl, rfl⟩, z⟩
  · refine ⟨its.toList, r, ⟨o, n, I.kIn a o hk, hc, hd, by simpa using hs⟩, ?_⟩
    have e := r.length
    simp only [Array.length_toList] at e
    omega
theorem Inv.tuple (I : Inv X pins σ H s) (h : SqT X.K H a xs) : ∃ its : List Value, Vals xs its ∧ IsTup s.heap a its.toArray ∧ xs.length ≤ sizeLine := by
  rcases h with h | ⟨o, its, n, hk, hc, hs, hz, r⟩
  · obtain ⟨z, its, r, p⟩ := h.ok I.hok
    exact ⟨its, r, p, z⟩
  · refine ⟨its.toList, r, ⟨o, I.kIn a o hk, hc, n, by simpa using hs⟩, ?_⟩
    have e := r.length
    simp only [Array.length_toList] at e
    omega
theorem Inv.list_inj (I : Inv X pins σ H s) (h : SqL X.K H a xs) (h' : SqL X.K H a ys) : xs = ys := by
  obtain ⟨its, r, ⟨o, n, e, _, _, d⟩, _⟩ := I.list h
  obtain ⟨its', r', ⟨o', n', e', _, _, d'⟩, _⟩ := I.list h'
  rw [e] at e'; cases e'
  rw [d] at d'
  injection d' with d1 _
  have : its = its' := by simpa using congrArg Array.toList d1
  subst this
  exact r.inj r'
theorem Inv.tuple_inj (I : Inv X pins σ H s) (h : SqT X.K H a xs) (h' : SqT X.K H a ys) : xs = ys := by
  obtain ⟨its, r, ⟨o, e, _, n, d⟩, _⟩ := I.tuple h
  obtain ⟨its', r', ⟨o', e', _, n', d'⟩, _⟩ := I.tuple h'
  rw [e] at e'; cases e'
  rw [d] at d'
  injection d' with d1 _
  have : its = its' := by simpa using congrArg Array.toList d1
  subst this
  exact r.inj r'
end

abbrev Cx.wish (X : Cx) (E : Value → Shared → Prop) : Cx := { X with xe := E }
abbrev Cx.nox (X : Cx) : Cx := X.wish fun _ _ => False
theorem Cx.Ok.wish {X : Cx} (ok : X.Ok) (E : Value → Shared → Prop) : (X.wish E).Ok :=
  ⟨ok.mod, ok.kind, ok.glob, ok.blt, ok.above, ok.inj, ok.has, ok.cab, ok.hd, ok.frames, ok.stk, ok.exf, ok.bs, ok.bsz, ok.noex, ok.exfs, ok.funs, ok.frf⟩
theorem Cx.Ok.unwish {X : Cx} {E : Value → Shared → Prop} (ok : (X.wish E).Ok) : X.Ok :=
  ⟨ok.mod, ok.kind, ok.glob, ok.blt, ok.above, ok.inj, ok.has, ok.cab, ok.hd, ok.frames, ok.stk, ok.exf, ok.bs, ok.bsz, ok.noex, ok.exfs, ok.funs, ok.frf⟩
section
variable {X : Cx} {pins : List (Addr × Obj)} {σ : St} {H : Hp} {s : Shared} {E : Value → Shared → Prop}
theorem Inv.wish (I : Inv X pins σ H s) (E : Value → Shared → Prop) : Inv (X.wish E) pins σ H s := ⟨I.ok.wish E, I.os, I.bare, I.base, I.loc, I.cell, I.free, I.freeC, I.pin, I.hok, I.len⟩
theorem Inv.unwish (I : Inv (X.wish E) pins σ H s) : Inv X pins σ H s := ⟨I.ok.unwish, I.os, I.bare, I.base, I.loc, I.cell, I.free, I.freeC, I.pin, I.hok, I.len⟩
theorem SP.unwish {D : Ends} {f : Flow} {s' : Shared} (h : SP (X.wish E) pins D f s') : SP X pins D f s' := by
  cases f with
  | next => obtain ⟨σ', H', I, q⟩ := h; exact ⟨σ', H', I.unwish, q⟩
  | brk => obtain ⟨σ', H', I, q⟩ := h; exact ⟨σ', H', I.unwish, q⟩
  | cont => obtain ⟨σ', H', I, q⟩ := h; exact ⟨σ', H', I.unwish, q⟩
  | ret u => obtain ⟨v, σ', H', I, r, q⟩ := h; exact ⟨v, σ', H', I.unwish, r, q⟩
theorem PE.nox {e : Expr} {t : TE} (h : PE X.nox e t) : PE X e t := fun pins s σ H Q I hw =>
  wpAny_mono (h pins s σ H Q (I.wish _) hw) (fun _ _ ⟨v, H', I', r, q⟩ => ⟨v, H', I'.unwish, r, q⟩) fun _ _ z => False.elim z
theorem PT.nox {e : Expr} {t : TT} (h : PT X.nox e t) : PT X e t := fun pins s σ H Q I hw =>
  wpAny_mono (h pins s σ H Q (I.wish _) hw) (fun _ _ ⟨H', I', q⟩ => ⟨H', I'.unwish, q⟩) fun _ _ z => False.elim z
theorem PSs.nox {st : List Stmt} {t : TS} (h : PSs X.nox st t) : PSs X st t := fun pins s σ H D I hw =>
  wpAny_mono (h pins s σ H D (I.wish _) hw) (fun _ _ q => q.unwish) fun _ _ z => False.elim z
end

section
variable {X : Cx} {st : Stmt} {rest : List Stmt} {t u : TS} {e : Expr} {te : TE} {pos : Pos}
def tNext : TS := fun D σ H => D.nx σ H
def tSeq (t u : TS) : TS := fun D σ H => t { D with nx := u D } σ H
theorem pss_nil : PSs X [] tNext := fun _ _ σ H _ I h => wpAny_execs_nil ⟨σ, H, I, h⟩
theorem pss_cons (h1 : PS X st t) (h2 : PSs X rest u) : PSs X (st :: rest) (tSeq t u) := by
  intro pins s σ H D I h
  refine wpAny_execs_cons (thn (h1 pins s σ H { D with nx := u D } I h) fun f s1 q => ?_)
  cases f with
  | next =>
    obtain ⟨σ', H', I', q⟩ := q
    exact h2 pins s1 σ' H' D I' q
  | ret v => exact q
  | brk => exact q
  | cont => exact q
theorem pss_one (h1 : PS X st t) : PSs X [st] t := by
  intro pins s σ H D I h
  refine wpAny_execs_cons (thn (h1 pins s σ H D I h) fun f s1 q => ?_)
  cases f with
  | next => exact wpAny_execs_nil q
  | ret v => exact q
  | brk => exact q
  | cont => exact q
theorem Inv.quiet {pins : List (Addr × Obj)} {σ : St} {H : Hp} {s : Shared} (I : Inv X pins σ H s) : interactive X.env = false := by simp [interactive, I.ok.kind]
def tDrop (te : TE) : TS := fun D σ H => te σ H fun _ H1 => D.nx σ H1
theorem ps_expr (he : PE X e te) (hs : swapsWith e none pos.line X.env = pure false := by rfl) : PS X (.Expr e pos) (tDrop te) := by
  intro pins s σ H D I h
  exact wpAny_Expr_any (thn (he pins s σ H _ I h) fun v s1 ⟨x, H1, I1, r1, q1⟩ => ⟨σ, H1, I1, q1⟩) I.quiet hs
def tRet (te : TE) : TS := fun D σ H => te σ H D.rt
theorem ps_ret (he : PE X e te) : PS X (.Return (some e) pos) (tRet te) := by
  intro pins s σ H D I h
  exact wpAny_Return_some (thn (he pins s σ H _ I h) fun v s1 ⟨x, H1, I1, r1, q1⟩ => ⟨x, σ, H1, I1, r1, q1⟩)
def tIfS (c : TT) (t u : TS) : TS := fun D σ H => c σ H fun b H1 => if b = true then t D σ H1 else u D σ H1
theorem ps_if {c : Expr} {a b : List Stmt} {tc : TT} (hc : PT X c tc) (ha : PSs X a t) (hb : PSs X b u) : PS X (.If c a b pos) (tIfS tc t u) := by
  intro pins s σ H D I h
  refine wpAny_If (thn (hc pins s σ H _ I h) fun d s1 ⟨H1, I1, q1⟩ => ?_)
  cases d with
  | true => exact ha pins s1 σ H1 D I1 q1
  | false => exact hb pins s1 σ H1 D I1 q1
def tNever : TS := fun _ _ _ => False
theorem pss_never {sts : List Stmt} : PSs X sts tNever := fun _ _ _ _ _ _ h => h.elim
end

abbrev TG := V → St → Hp → (St → Hp → Prop) → Prop
abbrev TGs := List V → St → Hp → (St → Hp → Prop) → Prop
def PG (X : Cx) (target : Expr) (t : TG) : Prop :=
  ∀ (pins : List (Addr × Obj)) (s : Shared) (σ : St) (H : Hp) (v : V) (u : Value) (Q : St → Hp → Prop), Inv X pins σ H s → RelV v u → t v σ H Q →
    wpAny (model X.prog X.w) X.A (assign target X.env u) (fun _ s' => ∃ σ' H', Inv X pins σ' H' s' ∧ Q σ' H') X.xe s
def PGs (X : Cx) (ts : List Expr) (t : TGs) : Prop :=
  ∀ (pins : List (Addr × Obj)) (s : Shared) (σ : St) (H : Hp) (vs : List V) (us : List Value) (Q : St → Hp → Prop), Inv X pins σ H s → Vals vs us → t vs σ H Q →
    wpAny (model X.prog X.w) X.A (assignInOrder ((assignEach ts X.env).map (·.2)) us) (fun _ s' => ∃ σ' H', Inv X pins σ' H' s' ∧ Q σ' H') X.xe s
abbrev TSet := V → V → V → Hp → (Hp → Prop) → Prop
def PSet (X : Cx) (t : TSet) : Prop :=
  ∀ (pins : List (Addr × Obj)) (s : Shared) (σ : St) (H : Hp) (o i v : V) (ov iv u : Value) (Q : Hp → Prop), Inv X pins σ H s → RelV o ov → RelV i iv → RelV v u → t o i v H Q →
    wpAny (model X.prog X.w) X.A (setItem ov iv u) (fun _ s' => ∃ H', Inv X pins σ H' s' ∧ Q H') X.xe s
section
variable {X : Cx} {pos : Pos}
def gName (i : Nat) : TG := fun v σ H Q => Q (σ.set i (some v)) H
theorem pg_name {i : Nat} {x : Str} (hN : X.N.Nodup) (hi : X.N[i]? = some x) (hx : Loc X.env.scope x) (hf : X.fn x = true ∨ X.env.scope.names.lookup x = some .local := by first | exact .inl rfl | exact .inr rfl | assumption) : PG X (.Name x pos) (gName i) := by
  intro pins s σ H v u Q I r h
  exact wpAny_assign_Name (store_ok I hN hi hx r (fun s' I' => ⟨_, H, I', h⟩) hf)
def gNil : TGs := fun vs σ H Q => vs = [] ∧ Q σ H
def gCons (t : TG) (u : TGs) : TGs := fun vs σ H Q => ∃ v r, vs = v :: r ∧ t v σ H fun σ' H' => u r σ' H' Q
theorem pgs_nil : PGs X [] gNil := by
  intro pins s σ H vs us Q I r h
  obtain ⟨e, h⟩ := h
  subst e
  cases r
  exact assignInOrder_nil ⟨σ, H, I, h⟩
theorem pgs_cons {e : Expr} {es : List Expr} {t : TG} {u : TGs} (h1 : PG X e t) (h2 : PGs X es u)
    (hs : (assignEach (e :: es) X.env).map (·.2) = assign e X.env :: (assignEach es X.env).map (·.2) := by rfl) : PGs X (e :: es) (gCons t u) := by
  intro pins s σ H vs us Q I r h
  obtain ⟨v, vr, e1, h⟩ := h
  subst e1
  cases r with
  | cons r rr =>
    rw [hs]
    refine assignInOrder_cons (thn (h1 pins s σ H _ _ _ I r h) fun _ s1 ⟨σ1, H1, I1, q1⟩ => ?_)
    exact h2 pins s1 σ1 H1 _ _ Q I1 rr q1
def gTup (K : PySem.W.Frag) (n : Nat) (t : TGs) : TG := fun v σ H Q => ∃ a xs, v = .ref a ∧ SqT K H a xs ∧ xs.length = n ∧ t xs σ H Q
theorem pg_tup {es : List Expr} {k : Nat} {t : TGs} {n : Nat} (hc : X.calm = true) (h : PGs X es t)
    (hn : (assignEach es X.env).length = n := by rfl) (hst : (assignEach es X.env).findIdx? (·.1) = none := by rfl) : PG X (.Tuple es k pos) (gTup X.K n t) := by
  intro pins s σ H v u Q I r hw
  obtain ⟨a, xs, e1, hq, hl, hw⟩ := hw
  subst e1
  cases r
  obtain ⟨its, rv, ht, hz⟩ := I.tuple hq
  refine assign_Tuple_tuple (I.ok.hd hc) ht (by simp [hn, ← hl, rv.length]) hst fun h' hx => ?_
  have I1 : Inv X pins σ H { s with heap := h' } := I.kept (t' := s.toks) fun b o e => hx b o (Nat.ne_of_lt (Heap.lt_size e)) e
  exact h pins _ σ H xs _ Q I1 (by simpa using rv) hw
def gSub (to ti : TE) (t : TSet) : TG := fun v σ H Q => to σ H fun o H1 => ti σ H1 fun i H2 => t o i v H2 fun H3 => Q σ H3
theorem pg_sub {o i : Expr} {to ti : TE} {t : TSet} (ho : PE X o to) (hi : PE X i ti) (hs : PSet X t)
    (ha : ∀ v, assign (.Subscript o i pos) X.env v = (do
      let ov ← holding [v] (eval o X.env)
      let iv ← holding [v, ov] (eval i X.env)
      standAt pos
      holding [v, ov, iv] (setItem ov iv v)
      release [v, ov, iv] []) := by intro _; rfl) : PG X (.Subscript o i pos) (gSub to ti t) := by
  intro pins s σ H v u Q I r h
  rw [ha]
  refine wpAny_bind (wpAny_holding (thn (ho pins s σ H _ I h) fun ov s1 ⟨x, H1, I1, r1, q1⟩ => ?_))
  refine wpAny_bind (wpAny_holding (thn (hi pins s1 σ H1 _ I1 q1) fun iv s2 ⟨y, H2, I2, r2, q2⟩ => ?_))
  refine wpAny_bind (wpAny_standAt (wpAny_bind (wpAny_holding (thn (hs pins s2 σ H2 x y v ov iv u _ I2 r1 r2 r q2) fun _ s3 ⟨H3, I3, q3⟩ => ?_))))
  exact wpAny_release ⟨σ, H3, I3, q3⟩
def tAsg (te : TE) (g : TG) : TS := fun D σ H => te σ H fun x H1 => g x σ H1 D.nx
theorem ps_asg {tg e : Expr} {te : TE} {g : TG} (he : PE X e te) (hg : PG X tg g) (hs : swapsWithSole [tg] e pos.line X.env = pure false := by rfl) (hw : swappedStores [tg] e X.env = pure none := by rfl)
    (h1 : (assignEach [tg] X.env).map (·.2) = [assign tg X.env] := by rfl) : PS X (.Assign [tg] e pos) (tAsg te g) := by
  intro pins s σ H D I h
  refine wpAny_Assign_stores (thn (he pins s σ H _ I h) fun v s1 ⟨x, H1, I1, r1, q1⟩ => ?_) hs hw
  rw [h1]
  exact thn (hg pins s1 σ H1 x v _ I1 r1 q1) fun _ s2 q => q
theorem ps_set {i : Nat} {x : Str} {e : Expr} {te : TE} {pos' : Pos} (hN : X.N.Nodup) (hi : X.N[i]? = some x) (hx : Loc X.env.scope x) (he : PE X e te) (hs : swapsWith e (some (.Name x pos')) pos.line X.env = pure false := by rfl) (hf : X.fn x = true ∨ X.env.scope.names.lookup x = some .local := by first | exact .inl rfl | exact .inr rfl | assumption) :
    PS X (.Assign [.Name x pos'] e pos) (tAsg te (gName i)) := by
  intro pins s σ H D I h
  refine wpAny_Assign_Name (thn (he pins s σ H _ I h) fun v s1 ⟨y, H1, I1, r1, q1⟩ => ?_) hs
  exact store_ok I1 hN hi hx r1 (fun s2 I2 => ⟨_, H1, I2, q1⟩) hf
def tPar (i j : Nat) (ta : TA) : TS := fun D σ H => ta σ H fun vs H1 => ∃ v w, vs = [v, w] ∧ D.nx ((σ.set i (some v)).set j (some w)) H1
theorem ps_par {i j : Nat} {x y : Str} {a b : Expr} {ta : TA} {px py pt : Pos} {kt k2 pt2} (hc : X.calm = true) (hN : X.N.Nodup) (hi : X.N[i]? = some x) (hj : X.N[j]? = some y) (hij : i ≠ j)
    (hx : X.env.scope.names.lookup x = some .local) (hy : X.env.scope.names.lookup y = some .local) (ha : PA X [a, b] ta)
    (hw : swappedStores [.Tuple [.Name x px, .Name y py] kt pt] (.Tuple [a, b] k2 pt2) X.env = pure (some [x, y]))
    (hs : swapsWithSole [.Tuple [.Name x px, .Name y py] kt pt] (.Tuple [a, b] k2 pt2) pos.line X.env = pure false := by rfl) :
    PS X (.Assign [.Tuple [.Name x px, .Name y py] kt pt] (.Tuple [a, b] k2 pt2) pos) (tPar i j ta) := by
  intro pins s σ H D I h
  rw [exec_Assign_arm]
  refine wpAny_bind (wpAny_standAt ?_)
  rw [hs]
  refine wpAny_bind (wpAny_pure ?_)
  rw [if_neg (by decide)]
  refine wpAny_bind (Tuple_ (thn (ha _ pins s σ H _ I h) fun us s1 ⟨vs, H1, I1, r1, q1⟩ => ?_))
  obtain ⟨v, w, e1, q1⟩ := q1
  subst e1
  obtain ⟨u1, u2, rfl, rv, rw'⟩ : ∃ u1 u2, us = [u1, u2] ∧ RelV v u1 ∧ RelV w u2 := by
    cases r1 with
    | cons p q =>
      cases q with
      | cons p' q' =>
        cases q'
        exact ⟨_, _, rfl, p, p'⟩
  refine wpAny_newObj_type ?_ (by show 2 ≤ sizeLine; decide)
  have I2 : Inv X pins σ H1 { s1 with heap := s1.heap.push { cls := .type "tuple", data := .seq [u1, u2].toArray } } := I1.kept (t' := s1.toks) fun b o e => Heap.get?_push_of_some _ e
  rw [hw]
  refine wpAny_bind (wpAny_pure ?_)
  show wpAny (model X.prog X.w) X.A (do rule "assign.swapped-stores"; let items ← unpackItems (.ref s1.heap.objs.size) 2 none; assignInOrder [fun v => bindName X.env y v, fun v => bindName X.env x v] items.reverse; pure Flow.next) _ _ _
  refine wpAny_bind (wpAny_rule (wpAny_bind (unpackItems_tuple (items := #[u1, u2]) (I.ok.hd hc) (IsTup.new s1.heap _) fun h' hx' => ?_)))
  have I3 := I2.kept (h' := h') (t' := s1.toks) fun b o e => hx' b o (Nat.ne_of_lt (Heap.lt_size e)) e
  show wpAny _ _ (assignInOrder [fun v => bindName X.env y v, fun v => bindName X.env x v] [u2, u1] >>= fun _ => pure Flow.next) _ _ _
  refine wpAny_bind (assignInOrder_cons (wpAny_bindName (store_ok I3 hN hj (.inl hy) rw' (fun s2 I4 => ?_) (.inr hy))))
  refine assignInOrder_cons (wpAny_bindName (store_ok I4 hN hi (.inl hx) rv (fun s3 I5 => assignInOrder_nil (wpAny_pure ?_)) (.inr hx)))
  rw [List.set_comm _ _ (Ne.symm hij)] at I5
  exact ⟨_, H1, I5, q1⟩
end

section
variable {X : Cx} {pos : Pos}
def tWhile (c : TT) (tb : TS) : TS := fun D σ H => ∃ W : Nat → St → Hp → Prop, (∃ m, W m σ H) ∧ ∀ m σ H, W m σ H →
  c σ H fun b H1 => if b = true then ∃ N : St → Hp → Prop, (∀ σ' H', N σ' H' → ∃ m', m' < m ∧ W m' σ' H') ∧ tb { D with nx := N, ct := N, bk := D.nx } σ H1 else D.nx σ H1
theorem ps_while {c : Expr} {body : List Stmt} {tc : TT} {tb : TS} (hp : PassesOwn (model X.prog X.w) X.A X.env X.xe) (hc : PT X c tc) (hb : PSs X body tb) : PS X (.While c body [] pos) (tWhile tc tb) := by
  intro pins s σ H D I h
  obtain ⟨W, ⟨m0, w0⟩, turn⟩ := h
  refine wpAny_While (codeAny_whileLoop (fun n s' => ∃ σ' H', Inv X pins σ' H' s' ∧ W n σ' H') ?_ m0 ⟨σ, H, I, w0⟩)
  rintro n s1 ⟨σ1, H1, I1, w1⟩
  refine wpAny_passesOwn hp (thn (hc pins s1 σ1 H1 _ I1 (turn n σ1 H1 w1)) fun b s2 ⟨H2, I2, q2⟩ => ?_)
  cases b with
  | true =>
    obtain ⟨N, hN, q2⟩ := q2
    rw [if_pos rfl]
    refine wpAny_passesOwn hp (thn (hb pins s2 σ1 H2 _ I2 q2) fun f s3 q3 => ?_)
    cases f with
    | next =>
      obtain ⟨σ3, H3, I3, n3⟩ := q3
      obtain ⟨m', hm, w3⟩ := hN σ3 H3 n3
      exact ⟨m', hm, σ3, H3, I3, w3⟩
    | cont =>
      obtain ⟨σ3, H3, I3, n3⟩ := q3
      obtain ⟨m', hm, w3⟩ := hN σ3 H3 n3
      exact ⟨m', hm, σ3, H3, I3, w3⟩
    | brk => exact q3
    | ret v => exact q3
  | false =>
    rw [if_neg Bool.false_ne_true]
    exact wpAny_execs_nil ⟨σ1, H2, I2, q2⟩
end

structure It where
  go : Nat → Hp → Prop
  yld : Nat → Hp → V → Hp → Prop
  stop : Nat → Hp → Prop
def FpOk (X : Cx) (pins : List (Addr × Obj)) (H : Hp) (b : Addr) : Prop :=
  H b = none ∧ b ≠ X.env.locals ∧ b ∉ X.fs ∧ (b ∈ X.ex ∨ X.s₀.heap.objs.size ≤ b) ∧ (∀ x c, X.env.cells.lookup x = some c → c ≠ b) ∧ ∀ p ∈ X.pn ++ pins, p.1 ≠ b
theorem Inv.fpOk {X : Cx} {pins : List (Addr × Obj)} {σ : St} {H H' : Hp} {s : Shared} {b : Addr} (I : Inv X pins σ H s) (hb : s.heap.objs.size ≤ b) (hn : H' b = none) : FpOk X pins H' b := by
  refine ⟨hn, Nat.ne_of_gt (Nat.lt_of_lt_of_le I.lt hb), I.nofs hb, .inr (Nat.le_trans I.sz hb), fun x c e z => ?_, fun p hp z => ?_⟩
  · obtain ⟨v, q⟩ := I.cell x c e
    exact absurd (Nat.lt_of_lt_of_le q.lt (by rw [z]; exact hb)) (Nat.lt_irrefl _)
  · exact absurd (Nat.lt_of_lt_of_le (Heap.lt_size (I.pin p hp).1) (by rw [z]; exact hb)) (Nat.lt_irrefl _)
structure Turn (P : Program) (w : World) (K : PySem.W.Frag) (tg : Expr) (J : It) (fp : List Addr) (it : Addr) (tn : Nat → Heap → Prop) : Prop where
  mem : it ∈ fp
  obj : ∀ i h, tn i h → ∀ b ∈ fp, ∃ o, h.get? b = some o ∧ ∀ v, o.data ≠ .cell v
  keep : ∀ i h h', tn i h → (∀ b ∈ fp, ∀ o, h.get? b = some o → h'.get? b = some o) → tn i h'
  item : ∀ (X : Cx), X.prog = P → X.w = w → X.K = K → X.calm = true → ∀ (i : Nat) (pins : List (Addr × Obj)) (s : Shared) (σ : St) (H : Hp) (E : Value → Shared → Prop), Inv X pins σ H s → (∀ b ∈ fp, FpOk X pins H b) → tn i s.heap → J.go i H →
    wpAny (model P w) X.A (pyNext (.ref it)) (fun r s1 => ∃ u, r = some u ∧
      wpAny (model P w) X.A (letOwnedTupleGo tg (.ref it) u) (fun _ s2 => ∃ x H', Inv X pins σ H' s2 ∧ RelV x u ∧ J.yld i H x H' ∧ tn (i + 1) s2.heap ∧ ∀ b ∈ fp, H' b = none) E s1) E s
  done : ∀ (X : Cx), X.prog = P → X.w = w → X.K = K → X.calm = true → ∀ (i : Nat) (pins : List (Addr × Obj)) (s : Shared) (σ : St) (H : Hp) (E : Value → Shared → Prop), Inv X pins σ H s → (∀ b ∈ fp, FpOk X pins H b) → tn i s.heap → J.stop i H →
    wpAny (model P w) X.A (pyNext (.ref it)) (fun r s1 => r = none ∧ Inv X pins σ H s1) E s
  self : ∀ (A : Around) (i : Nat) (s : Shared) (Q : Value → Shared → Prop) (E : Value → Shared → Prop), tn i s.heap → Q (.ref it) s → wpAny (model P w) A (pyIter (.ref it)) Q E s
abbrev TI := St → Hp → (It → Hp → Prop) → Prop
def PIE (X : Cx) (pins : List (Addr × Obj)) (σ : St) (tg : Expr) (R : It → Hp → Prop) (itv : Value) (s2 : Shared) : Prop :=
  ∃ (it : Addr) (fp : List Addr) (tn : Nat → Heap → Prop) (J : It) (H' : Hp), itv = .ref it ∧ Inv X pins σ H' s2 ∧ Turn X.prog X.w X.K tg J fp it tn ∧ tn 0 s2.heap ∧ (∀ b ∈ fp, FpOk X pins H' b) ∧ R J H'
def PI (X : Cx) (tg iter : Expr) (wi : TI) : Prop :=
  ∀ (pins : List (Addr × Obj)) (s : Shared) (σ : St) (H : Hp) (R : It → Hp → Prop), Inv X pins σ H s → wi σ H R →
    wpAny (model X.prog X.w) X.A (eval iter X.env) (fun v s1 => wpAny (model X.prog X.w) X.A (pyIter v) (PIE X pins σ tg R) X.xe s1) X.xe s

theorem go_of {M : Model} {A : Around} {E : Value → Shared → Prop} {s : Shared} {tg : Expr} {it : Addr} {u : Value} {o : Obj} {n : String} {vs : Array Value} {Q : Unit → Shared → Prop} (ho : s.heap.get? it = some o) (hc : o.cls = .type n) (hd : o.data = .fields vs)
    (hn : ["enumerate", "zip", "dict_itemiterator", "dict_reverseitemiterator", "odict_iterator", "itertools.zip_longest", "itertools.pairwise"].contains n = false) (hQ : Q () s) : wpAny M A (letOwnedTupleGo tg (.ref it) u) Q E s := by
  unfold letOwnedTupleGo
  cases tg <;> first
    | exact wpAny_pure hQ
    | (cases u <;> first
        | exact wpAny_pure hQ
        | (refine wpAny_bind (wpAny_load ho ?_)
           rw [hc, hd]
           show wpAny M A (if (["enumerate", "zip", "dict_itemiterator", "dict_reverseitemiterator", "odict_iterator", "itertools.zip_longest", "itertools.pairwise"].contains n && vs[0]? == some (rawInt _)) = true then _ else _) Q E s
           rw [if_neg (by intro h; rw [hn, Bool.false_and] at h; cases h)]
           exact wpAny_pure hQ))

def Itl (K : PySem.W.Frag) (a : Addr) : It :=
  ⟨fun i H => ∃ xs x, SqL K H a xs ∧ xs[i]? = some x, fun i H x H' => H' = H ∧ ∀ xs, SqL K H a xs → xs[i]? = some x, fun i H => ∃ xs, SqL K H a xs ∧ xs.length ≤ i⟩
def Itt (K : PySem.W.Frag) (a : Addr) : It :=
  ⟨fun i H => ∃ xs x, SqT K H a xs ∧ xs[i]? = some x, fun i H x H' => H' = H ∧ ∀ xs, SqT K H a xs → xs[i]? = some x, fun i H => ∃ xs, SqT K H a xs ∧ xs.length ≤ i⟩
def Itr (lo : Int) (n : Nat) : It := ⟨fun i _ => i < n, fun i H x H' => H' = H ∧ x = .int (lo + i), fun i _ => n ≤ i⟩
theorem turn_list {P : Program} {w : World} {K : PySem.W.Frag} {tg : Expr} (a it : Addr) : Turn P w K tg (Itl K a) [it] it (fun i h => h.IsListIter it a i) where
  mem := by simp
  obj := fun i h st b hb => by
    have e : b = it := by simpa using hb
    subst e
    obtain ⟨o, e, c, d⟩ := st
    exact ⟨o, e, fun v z => by rw [d] at z; cases z⟩
  keep := fun i h h' st k => st.at fun o e => k it (by simp) o e
  item := by
    intro X hP hw hK hc i pins s σ H E I hf st hg
    subst hP hw hK
    obtain ⟨xs, x, hq, hx⟩ := hg
    obtain ⟨its, rv, p, hz⟩ := I.list hq
    obtain ⟨u, hu, ru⟩ := rv.get hx
    obtain ⟨f0, f1, f2, f3, f4, f5⟩ := hf it (by simp)
    refine wpAny_pyNext_list_item st p.isList (x := u) (by simpa using hu) fun h' st' sb => ?_
    have I1 : Inv X pins σ H { s with heap := h' } := I.turned (t' := s.toks) (fun b o hb e => (sb.2 b hb).trans e) f0 f1 f3 f4 f5
    obtain ⟨o, e, c, d⟩ := id st'
    exact ⟨u, rfl, go_of (s := { s with heap := h' }) e c d (by decide) ⟨x, H, I1, ru, ⟨rfl, fun ys hy => by rw [I.list_inj hy hq]; exact hx⟩, st', fun b hb => (hf b hb).1⟩⟩
  done := by
    intro X hP hw hK hc i pins s σ H E I hf st hg
    subst hP hw hK
    obtain ⟨xs, hq, hx⟩ := hg
    obtain ⟨its, rv, p, hz⟩ := I.list hq
    obtain ⟨f0, f1, f2, f3, f4, f5⟩ := hf it (by simp)
    have hl := rv.length
    exact wpAny_pyNext_list_end (I.ok.hd hc) st p.isList (by simp; omega) fun h' eb => ⟨rfl, I.turned (t' := s.toks) (fun b o hb e => eb b o hb e) f0 f1 f3 f4 f5⟩
  self := fun _ _ _ _ _ st h => wpAny_pyIter_listiter st h
theorem turn_tuple {P : Program} {w : World} {K : PySem.W.Frag} {tg : Expr} (a it : Addr) : Turn P w K tg (Itt K a) [it] it (fun i h => h.IsTupleIter it a i) where
  mem := by simp
  obj := fun i h st b hb => by
    have e : b = it := by simpa using hb
    subst e
    obtain ⟨o, e, c, d⟩ := st
    exact ⟨o, e, fun v z => by rw [d] at z; cases z⟩
  keep := fun i h h' st k => st.at fun o e => k it (by simp) o e
  item := by
    intro X hP hw hK hc i pins s σ H E I hf st hg
    subst hP hw hK
    obtain ⟨xs, x, hq, hx⟩ := hg
    obtain ⟨its, rv, p, hz⟩ := I.tuple hq
    obtain ⟨u, hu, ru⟩ := rv.get hx
    obtain ⟨f0, f1, f2, f3, f4, f5⟩ := hf it (by simp)
    refine wpAny_pyNext_tuple_item st (show s.heap.IsTuple a its.toArray from p) (x := u) (by simpa using hu) fun h' st' sb => ?_
    have I1 : Inv X pins σ H { s with heap := h' } := I.turned (t' := s.toks) (fun b o hb e => (sb.2 b hb).trans e) f0 f1 f3 f4 f5
    obtain ⟨o, e, c, d⟩ := id st'
    exact ⟨u, rfl, go_of (s := { s with heap := h' }) e c d (by decide) ⟨x, H, I1, ru, ⟨rfl, fun ys hy => by rw [I.tuple_inj hy hq]; exact hx⟩, st', fun b hb => (hf b hb).1⟩⟩
  done := by
    intro X hP hw hK hc i pins s σ H E I hf st hg
    subst hP hw hK
    obtain ⟨xs, hq, hx⟩ := hg
    obtain ⟨its, rv, p, hz⟩ := I.tuple hq
    obtain ⟨f0, f1, f2, f3, f4, f5⟩ := hf it (by simp)
    have hl := rv.length
    exact wpAny_pyNext_tuple_end (I.ok.hd hc) st (show s.heap.IsTuple a its.toArray from p) (by simp; omega) fun h' eb => ⟨rfl, I.turned (t' := s.toks) (fun b o hb e => eb b o hb e) f0 f1 f3 f4 f5⟩
  self := fun _ _ _ _ _ st h => wpAny_pyIter_tupleiter st h
theorem turn_range {P : Program} {w : World} {K : PySem.W.Frag} {tg : Expr} (it : Addr) (lo : Int) (n : Nat) : Turn P w K tg (Itr lo n) [it] it (fun i h => IsRangeIter h it (lo + (i : Nat) * 1) ((n : Int) - (i : Nat)) 1) where
  mem := by simp
  obj := fun i h st b hb => by
    have e : b = it := by simpa using hb
    subst e
    exact ⟨_, st, fun v z => by
      have z' : Data.fields _ = Data.cell v := z
      cases z'⟩
  keep := fun i h h' st k => k it (by simp) _ st
  item := by
    intro X hP hw hK hc i pins s σ H E I hf st hg
    subst hP hw hK
    obtain ⟨f0, f1, f2, f3, f4, f5⟩ := hf it (by simp)
    have W := Walks.range (prog := X.prog) (w := X.w) (I.ok.hd hc) it lo 1 n
    refine W.item i s _ _ hg st fun v h' tk hv st' kk => ?_
    obtain ⟨t, rfl⟩ := hv
    have I1 : Inv X pins σ H { s with heap := h', toks := tk } := I.turned (fun b o hb e => kk b o (by simpa using hb) e) f0 f1 f3 f4 f5
    refine ⟨_, rfl, go_of (s := { s with heap := h', toks := tk }) (n := "range_iterator") st' rfl rfl (by decide) ⟨.int (lo + i), H, I1, ⟨t, ?_⟩, ⟨rfl, rfl⟩, st', fun b hb => (hf b hb).1⟩⟩
    rw [Int.mul_one]
  done := by
    intro X hP hw hK hc i pins s σ H E I hf st hg
    subst hP hw hK
    obtain ⟨f0, f1, f2, f3, f4, f5⟩ := hf it (by simp)
    exact wpAny_pyNext_range_end (I.ok.hd hc) st (by have : n ≤ i := hg; omega) fun h' eb => ⟨rfl, I.turned (t' := s.toks) (fun b o hb e => eb b o hb e) f0 f1 f3 f4 f5⟩
  self := fun _ _ _ _ _ st h => wpAny_pyIter_rangeiter st h
end L2

namespace L2
open PySem PySem.Spec PyProof.Rows
section
variable {X : Cx} {tg : Expr}
def iList (K : PySem.W.Frag) (tl : TE) : TI := fun σ H R => tl σ H fun x H1 => ∃ a, x = .ref a ∧ (∃ xs, SqL K H1 a xs) ∧ R (Itl K a) H1
def iTup (K : PySem.W.Frag) (tl : TE) : TI := fun σ H R => tl σ H fun x H1 => ∃ a, x = .ref a ∧ (∃ xs, SqT K H1 a xs) ∧ R (Itt K a) H1
theorem pi_list {l : Expr} {tl : TE} (hl : PE X l tl) : PI X tg l (iList X.K tl) := by
  intro pins s σ H R I h
  refine thn (hl pins s σ H _ I h) fun v s1 ⟨x, H1, I1, r1, q1⟩ => ?_
  obtain ⟨a, e, ⟨xs, hq⟩, q⟩ := q1
  subst e
  cases r1
  obtain ⟨its, rv, p, hz⟩ := I1.list hq
  refine wpAny_pyIter_list p.isList ?_
  refine ⟨s1.heap.objs.size, [s1.heap.objs.size], _, _, H1, rfl, I1.kept (t' := s1.toks) fun b o e => Heap.get?_push_of_some _ e, turn_list a _, ⟨_, Heap.get?_push_size _ rfl, rfl, rfl⟩, fun b hb => ?_, q⟩
  have e : b = s1.heap.objs.size := by simpa using hb
  subst e
  exact I1.fpOk (Nat.le_refl _) (I1.hok.fresh (Nat.le_refl _))
theorem pi_tup {l : Expr} {tl : TE} (hl : PE X l tl) : PI X tg l (iTup X.K tl) := by
  intro pins s σ H R I h
  refine thn (hl pins s σ H _ I h) fun v s1 ⟨x, H1, I1, r1, q1⟩ => ?_
  obtain ⟨a, e, ⟨xs, hq⟩, q⟩ := q1
  subst e
  cases r1
  obtain ⟨its, rv, p, hz⟩ := I1.tuple hq
  refine wpAny_pyIter_tuple (show s1.heap.IsTuple a its.toArray from p) ?_
  refine ⟨s1.heap.objs.size, [s1.heap.objs.size], _, _, H1, rfl, I1.kept (t' := s1.toks) fun b o e => Heap.get?_push_of_some _ e, turn_tuple a _, ⟨_, Heap.get?_push_size _ rfl, rfl, rfl⟩, fun b hb => ?_, q⟩
  have e : b = s1.heap.objs.size := by simpa using hb
  subst e
  exact I1.fpOk (Nat.le_refl _) (I1.hok.fresh (Nat.le_refl _))
theorem range_it {pins : List (Addr × Obj)} {σ : St} {H : Hp} {s : Shared} {R : It → Hp → Prop} {E : Value → Shared → Prop} {lo hi : Int} {t u v : Tok} {tk : Nat} (I : Inv X pins σ H s) (h1 : -(2 ^ 62) ≤ lo) (h2 : lo < 2 ^ 62) (h3 : -(2 ^ 62) ≤ hi) (h4 : hi < 2 ^ 62)
    (q : R (Itr lo (hi - lo).toNat) H) : wpAny (model X.prog X.w) X.A (pyIter (.ref s.heap.objs.size)) (PIE X pins σ tg R) E { s with heap := s.heap.push { cls := .type "range", data := .fields #[.int lo t, .int hi u, .int 1 v] }, toks := tk } := by
  refine wpAny_pyIter_range (IsRange.new ..) (small_one h1 h2 h3 h4) ?_
  have I1 : Inv X pins σ H { s with heap := s.heap.push { cls := .type "range", data := .fields #[.int lo t, .int hi u, .int 1 v] }, toks := tk } := I.kept fun b o e => Heap.get?_push_of_some _ e
  refine ⟨(s.heap.push { cls := .type "range", data := .fields #[.int lo t, .int hi u, .int 1 v] }).objs.size, [(s.heap.push { cls := .type "range", data := .fields #[.int lo t, .int hi u, .int 1 v] }).objs.size], _, _, H, rfl,
    I1.kept (t' := tk) fun b o e => Heap.get?_push_of_some _ e, turn_range _ lo (hi - lo).toNat, ?_, fun b hb => ?_, q⟩
  · have e1 : lo + ((0 : Nat) : Int) * 1 = lo := by simp
    have e2 : (((hi - lo).toNat : Nat) : Int) - ((0 : Nat) : Int) = Builtin.Range.rangeSize lo hi 1 := by rw [rangeSize_one]; split <;> omega
    show IsRangeIter _ _ (lo + ((0 : Nat) : Int) * 1) ((((hi - lo).toNat : Nat) : Int) - ((0 : Nat) : Int)) 1
    rw [e1, e2]
    exact Heap.get?_push_size _ rfl
  · have e : b = (s.heap.push { cls := .type "range", data := .fields #[.int lo t, .int hi u, .int 1 v] }).objs.size := by simpa using hb
    subst e
    exact I1.fpOk (Nat.le_refl _) (I1.hok.fresh (Nat.le_refl _))
def iRng1 (ta : TA) : TI := fun σ H R => ta σ H fun vs H1 => ∃ j : Int, vs = [.int j] ∧ -(2 ^ 62) ≤ j ∧ j < 2 ^ 62 ∧ R (Itr 0 j.toNat) H1
theorem pi_range1 {a : Expr} {ta : TA} {p pos : Pos} (hg : Gl X "range") (hm : X.mg "range" = none) (ha : PA X [a] ta) (hs : starEach [a] X.env = [(false, eval a X.env)] := by rfl) : PI X tg (.Call (.Name "range" p) [a] [] pos) (iRng1 ta) := by
  intro pins s σ H R I h
  refine Call_ (ld_blt I hg hm boot_range (PyProof.Rows.callWith_type1 (thn (ha pos pins s σ H _ I h) fun us s1 ⟨vs, H1, I1, r1, q1⟩ => ?_) hs rfl))
  obtain ⟨j, e, q1, q2, q⟩ := q1
  subst e
  cases r1 with
  | cons r rr =>
    cases rr
    obtain ⟨t, rfl⟩ := r
    exact call_range_1 (range_it I1 (by omega) (by omega) q1 q2 (by simpa using q))
def tFor (wi : TI) (g : TG) (tb : TS) : TS := fun D σ H => wi σ H fun J H1 => ∃ W : Nat → Nat → St → Hp → Prop, (∃ m, W 0 m σ H1) ∧ ∀ i m σ H, W i m σ H →
  (J.stop i H ∧ D.nx σ H) ∨ (J.go i H ∧ ∃ N : St → Hp → Prop, (∀ σ' H', N σ' H' → ∃ m', m' < m ∧ W (i + 1) m' σ' H') ∧ ∀ x H', J.yld i H x H' → g x σ H' fun σ2 H2 => tb { D with nx := N, ct := N, bk := D.nx } σ2 H2)
def pinsAt (fp : List Addr) (h : Heap) : List (Addr × Obj) := fp.filterMap fun b => (h.get? b).map fun o => (b, o)
theorem mem_pinsAt {fp : List Addr} {h : Heap} {b : Addr} {o : Obj} (hb : b ∈ fp) (e : h.get? b = some o) : (b, o) ∈ pinsAt fp h := List.mem_filterMap.mpr ⟨b, hb, by rw [e]; rfl⟩
theorem of_pinsAt {fp : List Addr} {h : Heap} {p : Addr × Obj} (hp : p ∈ pinsAt fp h) : p.1 ∈ fp ∧ h.get? p.1 = some p.2 := by
  obtain ⟨b, hb, e⟩ := List.mem_filterMap.mp hp
  cases q : h.get? b with
  | none => rw [q] at e; cases e
  | some o =>
    rw [q] at e
    have e' : (b, o) = p := Option.some.inj e
    subst e'
    exact ⟨hb, q⟩
theorem Inv.pinned {pins : List (Addr × Obj)} {σ : St} {H : Hp} {s : Shared} {fp : List Addr} (I : Inv X pins σ H s) (hf : ∀ b ∈ fp, FpOk X pins H b) (ho : ∀ b ∈ fp, ∃ o, s.heap.get? b = some o ∧ ∀ v, o.data ≠ .cell v) : Inv X (pins ++ pinsAt fp s.heap) σ H s :=
  I.pins_of fun p hp => (List.mem_append.mp hp).elim (fun z => I.pin p (List.mem_append_right _ z)) fun z => by
    obtain ⟨hb, e⟩ := of_pinsAt z
    obtain ⟨f0, f1, f2, _⟩ := hf p.1 hb
    obtain ⟨o, e', d⟩ := ho p.1 hb
    rw [e] at e'; cases e'
    exact ⟨e, f0, f1, f2, d⟩
theorem Inv.unpinned {pins pl : List (Addr × Obj)} {σ : St} {H : Hp} {s : Shared} (I : Inv X (pins ++ pl) σ H s) : Inv X pins σ H s := I.pins_of fun p hp => I.pin p (List.mem_append_right _ (List.mem_append_left _ hp))
theorem ps_for {iter : Expr} {body : List Stmt} {wi : TI} {g : TG} {tb : TS} {pos : Pos} (hp : PassesOwn (model X.prog X.w) X.A X.env X.xe) (hc : X.calm = true) (hi : PI X tg iter wi) (hg : PG X tg g) (hb : PSs X body tb)
    (hs : ∀ x, foldedSetIterable iter X.env x = pure x := by intro _; rfl) : PS X (.For tg iter body [] pos) (tFor wi g tb) := by
  intro pins s σ H D I h
  refine wpAny_For (thn (hi pins s σ H _ I h) fun v s1 h1 => thn h1 fun itv s2 h2 => ?_) hs
  obtain ⟨it, fp, tn, J, H2, e, I2, T, st2, f2, W, ⟨m0, w0⟩, turn⟩ := h2
  subst e
  -- what stays true of the iterator's objects through the loop
  have stat : ∀ {H' : Hp}, (∀ b ∈ fp, H' b = none) → ∀ b ∈ fp, FpOk X pins H' b := fun hn b hb => ⟨hn b hb, (f2 b hb).2⟩
  refine codeAny_forLoop_any (fun n s' => ∃ i σ' H', Inv X pins σ' H' s' ∧ tn i s'.heap ∧ (∀ b ∈ fp, H' b = none) ∧ W i n σ' H') ?_ m0 ⟨0, σ, H2, I2, st2, fun b hb => (f2 b hb).1, w0⟩
  rintro n s3 ⟨i, σ3, H3, I3, st3, fr3, w3⟩
  rcases turn i n σ3 H3 w3 with ⟨stop, qn⟩ | ⟨go, N, hN, step⟩
  · refine wpAny_passesOwn hp (thn (T.done X rfl rfl rfl hc i pins s3 σ3 H3 X.xe I3 (stat fr3) st3 stop) fun r s4 ⟨hr, I4⟩ => ?_)
    subst hr
    exact wpAny_execs_nil ⟨σ3, H3, I4, qn⟩
  · refine wpAny_passesOwn hp (thn (T.item X rfl rfl rfl hc i pins s3 σ3 H3 X.xe I3 (stat fr3) st3 go) fun r s4 ⟨u, hr, h4⟩ => ?_)
    subst hr
    refine wpAny_passesOwn hp (thn h4 fun _ s5 ⟨x, H5, I5, r5, y5, st5, fr5⟩ => ?_)
    have I5' := I5.pinned (stat fr5) (T.obj _ _ st5)
    refine wpAny_passesOwn hp (thn (hg _ s5 σ3 H5 x u _ I5' r5 (step x H5 y5)) fun _ s6 ⟨σ6, H6, I6, q6⟩ => ?_)
    refine wpAny_passesOwn hp (thn (hb _ s6 σ6 H6 _ I6 q6) fun f s7 q7 => ?_)
    have again : ∀ {σ7 : St} {H7 : Hp}, Inv X (pins ++ pinsAt fp s5.heap) σ7 H7 s7 → N σ7 H7 → ∃ m, m < n ∧ ∃ i σ' H', Inv X pins σ' H' s7 ∧ tn i s7.heap ∧ (∀ b ∈ fp, H' b = none) ∧ W i m σ' H' := fun {σ7 H7} I7 n7 => by
      obtain ⟨m', hm, w7⟩ := hN σ7 H7 n7
      refine ⟨m', hm, i + 1, σ7, H7, I7.unpinned, T.keep _ _ _ st5 fun b hb o e => (I7.pin (b, o) (List.mem_append_right _ (List.mem_append_right _ (mem_pinsAt hb e)))).1, fun b hb => ?_, w7⟩
      obtain ⟨o, e, d⟩ := T.obj _ _ st5 b hb
      exact (I7.pin (b, o) (List.mem_append_right _ (List.mem_append_right _ (mem_pinsAt hb e)))).2.1
    cases f with
    | next => obtain ⟨σ7, H7, I7, n7⟩ := q7; exact again I7 n7
    | cont => obtain ⟨σ7, H7, I7, n7⟩ := q7; exact again I7 n7
    | brk => obtain ⟨σ7, H7, I7, q7⟩ := q7; exact ⟨σ7, H7, I7.unpinned, q7⟩
    | ret v => obtain ⟨x7, σ7, H7, I7, r7, q7⟩ := q7; exact ⟨x7, σ7, H7, I7.unpinned, r7, q7⟩
end

theorem for_range {lo : Int} {n : Nat} {g : TG} {tb : TS} {D : Ends} {σ : St} {H : Hp} (Pv : Nat → St → Hp → Prop) (h0 : Pv 0 σ H)
    (hs : ∀ i σ H, i < n → Pv i σ H → g (.int (lo + i)) σ H fun σ2 H2 => tb { D with nx := Pv (i + 1), ct := Pv (i + 1), bk := D.nx } σ2 H2) (hd : ∀ σ H, Pv n σ H → D.nx σ H) :
    ∃ W : Nat → Nat → St → Hp → Prop, (∃ m, W 0 m σ H) ∧ ∀ i m σ H, W i m σ H →
      ((Itr lo n).stop i H ∧ D.nx σ H) ∨ ((Itr lo n).go i H ∧ ∃ N : St → Hp → Prop, (∀ σ' H', N σ' H' → ∃ m', m' < m ∧ W (i + 1) m' σ' H') ∧ ∀ x H', (Itr lo n).yld i H x H' → g x σ H' fun σ2 H2 => tb { D with nx := N, ct := N, bk := D.nx } σ2 H2) := by
  refine ⟨fun i m σ H => m = n - i ∧ i ≤ n ∧ Pv i σ H, ⟨n, by simp, Nat.zero_le _, h0⟩, ?_⟩
  rintro i m σ H ⟨rfl, hi, p⟩
  by_cases hlt : i < n
  · refine .inr ⟨hlt, Pv (i + 1), fun σ' H' p' => ⟨n - (i + 1), by omega, rfl, hlt, p'⟩, fun x H' y => ?_⟩
    obtain ⟨e, y⟩ := y
    subst e y
    exact hs i σ _ hlt p
  · have e : i = n := by omega
    subst e
    exact .inl ⟨Nat.le_refl _, hd σ H p⟩
theorem while_by {c : TT} {tb : TS} {D : Ends} {σ : St} {H : Hp} (Pv : St → Hp → Prop) (μ : St → Hp → Nat) (h0 : Pv σ H)
    (hs : ∀ σ H, Pv σ H → c σ H fun b H1 => if b = true then tb { D with nx := fun σ' H' => Pv σ' H' ∧ μ σ' H' < μ σ H, ct := fun σ' H' => Pv σ' H' ∧ μ σ' H' < μ σ H, bk := D.nx } σ H1 else D.nx σ H1)
    (mono : ∀ σ H Q Q', (∀ b H1, Q b H1 → Q' b H1) → c σ H Q → c σ H Q') : tWhile c tb D σ H := by
  refine ⟨fun m σ H => m = μ σ H ∧ Pv σ H, ⟨_, rfl, h0⟩, ?_⟩
  rintro m σ H ⟨rfl, p⟩
  refine mono σ H _ _ (fun b H1 q => ?_) (hs σ H p)
  cases b with
  | true => exact ⟨_, fun σ' H' ⟨p', l⟩ => ⟨_, l, rfl, p'⟩, q⟩
  | false => exact q
end L2

namespace L2
open PySem PySem.Spec PyProof.Rows

abbrev R2 := V → V → Hp → VK → Prop
def OpR (X : Cx) (f : Value → Value → Sem Value) (r : R2) : Prop :=
  ∀ (pins : List (Addr × Obj)) (s : Shared) (σ : St) (H : Hp) (x y : V) (v u : Value) (Q : VK), Inv X pins σ H s → RelV x v → RelV y u → r x y H Q →
    wpAny (model X.prog X.w) X.A (f v u) (EP X pins σ Q) X.xe s
def UnR (X : Cx) (f : Value → Sem Value) (r : V → Hp → VK → Prop) : Prop :=
  ∀ (pins : List (Addr × Obj)) (s : Shared) (σ : St) (H : Hp) (x : V) (v : Value) (Q : VK), Inv X pins σ H s → RelV x v → r x H Q →
    wpAny (model X.prog X.w) X.A (f v) (EP X pins σ Q) X.xe s
def CallR (X : Cx) (f : Value) (r : List V → Hp → VK → Prop) : Prop :=
  ∀ (pins : List (Addr × Obj)) (s : Shared) (σ : St) (H : Hp) (xs : List V) (us : List Value) (Q : VK), Inv X pins σ H s → Vals xs us → r xs H Q →
    wpAny (model X.prog X.w) X.A (call f us) (EP X pins σ Q) X.xe s
def TruR (X : Cx) (r : V → Hp → (Bool → Hp → Prop) → Prop) : Prop :=
  ∀ (pins : List (Addr × Obj)) (s : Shared) (σ : St) (H : Hp) (x : V) (v : Value) (Q : Bool → Hp → Prop), Inv X pins σ H s → RelV x v → r x H Q →
    wpAny (model X.prog X.w) X.A (truthy v) (TP X pins σ Q) X.xe s

def tOp (r : R2) (ta tb : TE) : TE := fun σ H Q => ta σ H fun x H1 => tb σ H1 fun y H2 => r x y H2 Q
def tUn (r : V → Hp → VK → Prop) (ta : TE) : TE := fun σ H Q => ta σ H fun x H1 => r x H1 Q
def rI (C : Int → Int → Prop) (g : Int → Int → V) : R2 := fun x y H Q => ∃ i j, x = .int i ∧ y = .int j ∧ C i j ∧ Q (g i j) H
def rI0 (g : Int → Int → V) : R2 := fun x y H Q => ∃ i j, x = .int i ∧ y = .int j ∧ Q (g i j) H
def rU (g : Int → V) : V → Hp → VK → Prop := fun x H Q => ∃ i, x = .int i ∧ Q (g i) H

section
variable {X : Cx} {a b c : Expr} {ta tb tc : TE} {pos : Pos}

theorem binT (ha : PE X a ta) (hb : PE X b tb) {pins : List (Addr × Obj)} {s : Shared} {σ : St} {H : Hp} {R : V → V → Hp → Prop} (I : Inv X pins σ H s)
    (h : ta σ H fun x H1 => tb σ H1 fun y H2 => R x y H2) {Q : Value → Shared → Prop} {f : Value → Value → Sem Value}
    (hf : ∀ v u s2 x y H2, Inv X pins σ H2 s2 → RelV x v → RelV y u → R x y H2 → wpAny (model X.prog X.w) X.A (f v u) Q X.xe s2) :
    wpAny (model X.prog X.w) X.A (eval a X.env) (fun v s₁ => wpAny (model X.prog X.w) X.A (eval b X.env) (fun u s₂ => wpAny (model X.prog X.w) X.A (f v u) Q X.xe s₂) X.xe s₁) X.xe s := by
  refine thn (ha pins s σ H _ I h) fun v s1 ⟨x, H1, I1, r1, q1⟩ => ?_
  refine thn (hb pins s1 σ H1 _ I1 q1) fun u s2 ⟨y, H2, I2, r2, q2⟩ => ?_
  exact hf v u s2 x y H2 I2 r1 r2 q2

theorem pe_op {op : Operator} {r : R2} (ho : OpR X (binaryOp op) r) (ha : PE X a ta) (hb : PE X b tb) : PE X (.BinOp a op b pos) (tOp r ta tb) := by
  intro pins s σ H Q I h
  exact wpAny_BinOp (binT ha hb I h fun v u s2 x y H2 I2 rx ry q => ho pins s2 σ H2 x y v u Q I2 rx ry q)
theorem pe_un {op : UnaryOp} {r : V → Hp → VK → Prop} (ho : UnR X (unaryOp op) r) (ha : PE X a ta) : PE X (.UnaryOp op a pos) (tUn r ta) := by
  intro pins s σ H Q I h
  exact UnaryOp_ (thn (ha pins s σ H _ I h) fun v s1 ⟨x, H1, I1, r1, q1⟩ => ho pins s1 σ H1 x v Q I1 r1 q1)
theorem opI {f : Value → Value → Sem Value} {C : Int → Int → Prop} {g : Int → Int → Int}
    (rule : ∀ (i j : Int) (t u : Tok) (s : Shared) (Q : Value → Shared → Prop) (E : Value → Shared → Prop), C i j → Q (.int (g i j) s.toks) { s with toks := s.toks + 1 } → wpAny (model X.prog X.w) X.A (f (.int i t) (.int j u)) Q E s) :
    OpR X f (rI C fun i j => .int (g i j)) := by
  intro pins s σ H x y v u Q I rx ry h
  obtain ⟨i, j, rfl, rfl, hc, q⟩ := h
  obtain ⟨t, rfl⟩ := rx
  obtain ⟨t', rfl⟩ := ry
  exact rule i j t t' s _ _ hc ⟨.int (g i j), H, I.tok _, ⟨_, rfl⟩, q⟩
theorem opI0 {f : Value → Value → Sem Value} {g : Int → Int → Int}
    (rule : ∀ (i j : Int) (t u : Tok) (s : Shared) (Q : Value → Shared → Prop) (E : Value → Shared → Prop), Q (.int (g i j) s.toks) { s with toks := s.toks + 1 } → wpAny (model X.prog X.w) X.A (f (.int i t) (.int j u)) Q E s) :
    OpR X f (rI0 fun i j => .int (g i j)) := by
  intro pins s σ H x y v u Q I rx ry h
  obtain ⟨i, j, rfl, rfl, q⟩ := h
  obtain ⟨t, rfl⟩ := rx
  obtain ⟨t', rfl⟩ := ry
  exact rule i j t t' s _ _ ⟨.int (g i j), H, I.tok _, ⟨_, rfl⟩, q⟩
theorem opB0 {f : Value → Value → Sem Value} {g : Int → Int → Bool}
    (rule : ∀ (i j : Int) (t u : Tok) (s : Shared) (Q : Value → Shared → Prop) (E : Value → Shared → Prop), Q (.bool (g i j)) s → wpAny (model X.prog X.w) X.A (f (.int i t) (.int j u)) Q E s) :
    OpR X f (rI0 fun i j => .bl (g i j)) := by
  intro pins s σ H x y v u Q I rx ry h
  obtain ⟨i, j, rfl, rfl, q⟩ := h
  obtain ⟨t, rfl⟩ := rx
  obtain ⟨t', rfl⟩ := ry
  exact rule i j t t' s _ _ ⟨.bl (g i j), H, I, rfl, q⟩

def CDiv (i j : Int) : Prop := 0 < j ∧ j < 1073741824
def CPow (i j : Int) : Prop := 0 ≤ j ∧ j ≤ 1000000 ∧ i.natAbs < 2 ^ 64
def CMul (i j : Int) : Prop := (-(2 ^ 64) < i ∧ i < 2 ^ 64) ∨ (-(2 ^ 64) < j ∧ j < 2 ^ 64)
theorem CMul.ok {i j : Int} (h : CMul i j) : IntMulOk i j := by
  rcases h with ⟨h1, h2⟩ | ⟨h1, h2⟩
  · exact .of_left (intBits_le_64 h1 h2)
  · exact .of_right (intBits_le_64 h1 h2)
theorem op_add : OpR X (binaryOp .Add) (rI0 fun i j => .int (i + j)) := opI0 fun _ _ _ _ _ _ _ q => add_int q
theorem op_sub : OpR X (binaryOp .Sub) (rI0 fun i j => .int (i - j)) := opI0 fun _ _ _ _ _ _ _ q => sub_int q
theorem op_mul : OpR X (binaryOp .Mult) (rI CMul fun i j => .int (i * j)) := opI fun _ _ _ _ _ _ _ hc q => mul_int q hc.ok
theorem op_fdiv : OpR X (binaryOp .FloorDiv) (rI CDiv fun i j => .int (i / j)) := opI fun i j _ _ _ _ _ hc q => by
  have h1 : (0 : Int) < j := hc.1
  have h2 : j < 1073741824 := hc.2
  exact floordiv_int (by omega) (by rw [Int.fdiv_eq_ediv_of_nonneg i (by omega)]; exact q) (.inl (PyProof.noPylong_small (by omega)))
theorem op_mod : OpR X (binaryOp .Mod) (rI (fun _ j => 0 < j) fun i j => .int (i % j)) := opI fun i j _ _ _ _ _ hc q => by
  have h1 : (0 : Int) < j := hc
  exact mod_int' (by omega) (by rw [Int.fmod_eq_emod_of_nonneg i (by omega)]; exact q)
theorem op_pow : OpR X (binaryOp .Pow) (rI CPow fun i j => .int (i ^ j.toNat)) := opI fun _ _ _ _ _ _ _ hc q => pow_int_small hc.1 hc.2.1 hc.2.2 q
theorem unI {f : Value → Sem Value} {g : Int → Int}
    (rule : ∀ (i : Int) (t : Tok) (s : Shared) (Q : Value → Shared → Prop) (E : Value → Shared → Prop), Q (.int (g i) s.toks) { s with toks := s.toks + 1 } → wpAny (model X.prog X.w) X.A (f (.int i t)) Q E s) :
    UnR X f (rU fun i => .int (g i)) := by
  intro pins s σ H x v Q I rx h
  obtain ⟨i, rfl, q⟩ := h
  obtain ⟨t, rfl⟩ := rx
  exact rule i t s _ _ ⟨.int (g i), H, I.tok _, ⟨_, rfl⟩, q⟩
theorem un_neg : UnR X (unaryOp .USub) (rU fun i => .int (-i)) := unI fun _ _ _ _ _ q => neg_int q
end

def scal : V → V → Bool
  | .non, .non => true | .non, .int _ => true | .int _, .non => true | .non, .bl _ => true | .bl _, .non => true | .non, .str _ => true | .str _, .non => true
  | .int _, .int _ => true | .bl _, .bl _ => true | .str _, .str _ => true | .byt _, .byt _ => true
  | .int _, .str _ => true | .str _, .int _ => true | .bl _, .str _ => true | .str _, .bl _ => true
  | _, _ => false
def rEq : R2 := fun x y H Q => scal x y = true ∧ Q (.bl (decide (x = y))) H
def rNe : R2 := fun x y H Q => scal x y = true ∧ Q (.bl (!decide (x = y))) H

theorem dec_int {i j : Int} : decide (V.int i = V.int j) = (i == j) := by
  rw [Bool.eq_iff_iff]
  simp
theorem dec_bl {i j : Bool} : decide (V.bl i = V.bl j) = (i == j) := by
  rw [Bool.eq_iff_iff]
  simp
theorem dec_str {i j : Str} : decide (V.str i = V.str j) = (i == j) := by
  rw [Bool.eq_iff_iff]
  simp
theorem dec_byt {i j : Array UInt8} : decide (V.byt i = V.byt j) = (i.toList == j.toList) := by
  rw [Bool.eq_iff_iff]
  cases i
  cases j
  simp

section
variable {X : Cx} {a b c : Expr} {ta tb tc : TE} {pos : Pos}
theorem fin_bl {pins : List (Addr × Obj)} {σ : St} {H : Hp} {s : Shared} {Q : VK} {k k' : Bool} (I : Inv X pins σ H s) (q : Q (.bl k) H) (e : k = k') : EP X pins σ Q (.bool k') s := by
  subst e
  exact ⟨.bl k, H, I, rfl, q⟩
theorem op_eq : OpR X (compareOp .Eq) rEq := by
  intro pins s σ H x y v u Q I rx ry h
  obtain ⟨hs, q⟩ := h
  cases x with
  | non =>
    cases rx
    cases y with
    | non => cases ry; exact PySem.EqNone.eq_none_none (fin_bl I q (by simp))
    | bl j => cases ry; exact PySem.EqNone.eq_none_bool (fin_bl I q (by simp))
    | int j => obtain ⟨t', rfl⟩ := ry; exact PySem.EqNone.eq_none_int (fin_bl I q (by simp))
    | str j => obtain ⟨t', rfl⟩ := ry; exact PySem.EqNone.eq_none_str (fin_bl I q (by simp))
    | _ => exact absurd (show false = true from hs) Bool.false_ne_true
  | bl i =>
    cases rx
    cases y with
    | non => cases ry; exact PySem.EqNone.eq_bool_none (fin_bl I q (by simp))
    | bl j => cases ry; exact eq_bool (fin_bl I q dec_bl)
    | str j => obtain ⟨t', rfl⟩ := ry; exact PySem.EqMixed.eq_bool_str (fin_bl I q (by simp))
    | _ => exact absurd (show false = true from hs) Bool.false_ne_true
  | int i =>
    obtain ⟨t, rfl⟩ := rx
    cases y with
    | non => cases ry; exact PySem.EqNone.eq_int_none (fin_bl I q (by simp))
    | int j => obtain ⟨t', rfl⟩ := ry; exact eq_int (fin_bl I q dec_int)
    | str j => obtain ⟨t', rfl⟩ := ry; exact PySem.EqMixed.eq_int_str (fin_bl I q (by simp))
    | _ => exact absurd (show false = true from hs) Bool.false_ne_true
  | str i =>
    obtain ⟨t, rfl⟩ := rx
    cases y with
    | non => cases ry; exact PySem.EqNone.eq_str_none (fin_bl I q (by simp))
    | bl j => cases ry; exact PySem.EqMixed.eq_str_bool (fin_bl I q (by simp))
    | int j => obtain ⟨t', rfl⟩ := ry; exact PySem.EqMixed.eq_str_int (fin_bl I q (by simp))
    | str j => obtain ⟨t', rfl⟩ := ry; exact eq_str (fin_bl I q dec_str)
    | _ => exact absurd (show false = true from hs) Bool.false_ne_true
  | byt i =>
    obtain ⟨t, rfl⟩ := rx
    cases y with
    | byt j => obtain ⟨t', rfl⟩ := ry; exact PySem.W.eq_bytes (fin_bl I q dec_byt)
    | _ => exact absurd (show false = true from hs) Bool.false_ne_true
  | _ => cases y <;> exact absurd (show false = true from hs) Bool.false_ne_true
theorem op_ne : OpR X (compareOp .NotEq) rNe := by
  intro pins s σ H x y v u Q I rx ry h
  obtain ⟨hs, q⟩ := h
  cases x with
  | non =>
    cases rx
    cases y with
    | non => cases ry; exact PySem.EqNone.ne_none_none (fin_bl I q (by simp))
    | bl j => cases ry; exact PySem.EqNone.ne_none_bool (fin_bl I q (by simp))
    | int j => obtain ⟨t', rfl⟩ := ry; exact PySem.EqNone.ne_none_int (fin_bl I q (by simp))
    | str j => obtain ⟨t', rfl⟩ := ry; exact PySem.EqNone.ne_none_str (fin_bl I q (by simp))
    | _ => exact absurd (show false = true from hs) Bool.false_ne_true
  | bl i =>
    cases rx
    cases y with
    | non => cases ry; exact PySem.EqNone.ne_bool_none (fin_bl I q (by simp))
    | bl j => cases ry; exact ne_bool (fin_bl I q (congrArg not dec_bl))
    | str j => obtain ⟨t', rfl⟩ := ry; exact PySem.EqMixed.ne_bool_str (fin_bl I q (by simp))
    | _ => exact absurd (show false = true from hs) Bool.false_ne_true
  | int i =>
    obtain ⟨t, rfl⟩ := rx
    cases y with
    | non => cases ry; exact PySem.EqNone.ne_int_none (fin_bl I q (by simp))
    | int j => obtain ⟨t', rfl⟩ := ry; exact ne_int (fin_bl I q (congrArg not dec_int))
    | str j => obtain ⟨t', rfl⟩ := ry; exact PySem.EqMixed.ne_int_str (fin_bl I q (by simp))
    | _ => exact absurd (show false = true from hs) Bool.false_ne_true
  | str i =>
    obtain ⟨t, rfl⟩ := rx
    cases y with
    | non => cases ry; exact PySem.EqNone.ne_str_none (fin_bl I q (by simp))
    | bl j => cases ry; exact PySem.EqMixed.ne_str_bool (fin_bl I q (by simp))
    | int j => obtain ⟨t', rfl⟩ := ry; exact PySem.EqMixed.ne_str_int (fin_bl I q (by simp))
    | str j => obtain ⟨t', rfl⟩ := ry; exact ne_str (fin_bl I q (congrArg not dec_str))
    | _ => exact absurd (show false = true from hs) Bool.false_ne_true
  | byt i =>
    obtain ⟨t, rfl⟩ := rx
    cases y with
    | byt j => obtain ⟨t', rfl⟩ := ry; exact PySem.W.ne_bytes (fin_bl I q (congrArg not dec_byt))
    | _ => exact absurd (show false = true from hs) Bool.false_ne_true
  | _ => cases y <;> exact absurd (show false = true from hs) Bool.false_ne_true

theorem op_lt : OpR X (compareOp .Lt) (rI0 fun i j => .bl (decide (i < j))) := opB0 fun _ _ _ _ _ _ _ q => lt_int q
theorem op_le : OpR X (compareOp .LtE) (rI0 fun i j => .bl (decide (i ≤ j))) := opB0 fun _ _ _ _ _ _ _ q => le_int q
theorem op_gt : OpR X (compareOp .Gt) (rI0 fun i j => .bl (decide (j < i))) := opB0 fun _ _ _ _ _ _ _ q => gt_int q
theorem op_isN : OpR X (compareOp .Is) (fun x y H Q => y = .non ∧ Q (.bl (decide (x = .non))) H) := by
  intro pins s σ H x y v u Q I rx ry h
  obtain ⟨rfl, q⟩ := h
  cases ry
  refine is_none_gen (fin_bl I q ?_)
  cases x <;> first
    | (cases rx; rfl)
    | (obtain ⟨t, rfl⟩ := rx; rfl)
theorem op_notN : OpR X (compareOp .IsNot) (fun x y H Q => y = .non ∧ Q (.bl (!decide (x = .non))) H) := by
  intro pins s σ H x y v u Q I rx ry h
  obtain ⟨rfl, q⟩ := h
  cases ry
  refine isnot_none_gen (fin_bl I q ?_)
  cases x <;> first
    | (cases rx; rfl)
    | (obtain ⟨t, rfl⟩ := rx; rfl)

theorem OpR.or {f : Value → Value → Sem Value} {r r' : R2} (h : OpR X f r) (h' : OpR X f r') : OpR X f (fun x y H Q => r x y H Q ∨ r' x y H Q) := by
  intro pins s σ H x y v u Q I rx ry q
  rcases q with q | q
  · exact h pins s σ H x y v u Q I rx ry q
  · exact h' pins s σ H x y v u Q I rx ry q

theorem nomark (b : Expr) {op : CmpOp} (h : op ≠ .In := by decide) (h2 : op ≠ .NotIn := by decide) : behindInMarks op b = false := by
  have e1 : (op == CmpOp.In) = false := by cases op <;> first | rfl | exact absurd rfl h
  have e2 : (op == CmpOp.NotIn) = false := by cases op <;> first | rfl | exact absurd rfl h2
  cases b <;> simp [behindInMarks, e1, e2]
theorem pe_cmpR {op : CmpOp} {r : R2} (ho : OpR X (compareOp op) r) (ha : PE X a ta) (hb : PE X b tb) (hm : behindInMarks op b = false) : PE X (.Compare a [op] [b] pos) (tOp r ta tb) := by
  intro pins s σ H Q I h
  exact wpAny_Compare1 (binT ha hb I h fun v u s2 x y H2 I2 rx ry q => ho pins s2 σ H2 x y v u Q I2 rx ry q) hm
def tTest (t : TE) : TT := fun σ H Q => t σ H fun x H' => ∃ k, x = .bl k ∧ Q k H'
theorem pt_cmpR {op : CmpOp} {r : R2} (ho : OpR X (compareOp op) r) (ha : PE X a ta) (hb : PE X b tb) (hm : behindInMarks op b = false) : PT X (.Compare a [op] [b] pos) (tTest (tOp r ta tb)) := by
  intro pins s σ H Q I h
  refine wpAny_isTrue_Compare1 (thn (ha pins s σ H _ I h) fun v s1 ⟨x, H1, I1, r1, q1⟩ => thn (hb pins s1 σ H1 _ I1 q1) fun u s2 ⟨y, H2, I2, r2, q2⟩ =>
    thn (ho pins s2 σ H2 x y v u _ I2 r1 r2 q2) fun c s3 ⟨z, H3, I3, r3, k, e, q3⟩ => ?_) hm
  subst e
  cases r3
  exact wpAny_truthy_bool ⟨H3, I3, q3⟩
def tChain (r r' : R2) (ta tb tc : TE) : TE := fun σ H Q => ta σ H fun x H1 => tb σ H1 fun y H2 => r x y H2 fun z H3 => ∃ k, z = .bl k ∧
  (if k = true then tc σ H3 fun w' H4 => r' y w' H4 Q else Q (.bl false) H3)
theorem pe_chain {op op' : CmpOp} {r r' : R2} (ho : OpR X (compareOp op) r) (ho' : OpR X (compareOp op') r') (ha : PE X a ta) (hb : PE X b tb) (hc : PE X c tc)
    (hm : lastMarks [op, op'] [b, c] = false := by with_unfolding_all rfl) : PE X (.Compare a [op, op'] [b, c] pos) (tChain r r' ta tb tc) := by
  intro pins s σ H Q I h
  refine Compare_chain (thn (ha pins s σ H _ I h) fun v s1 ⟨x, H1, I1, r1, q1⟩ => chain_link (thn (hb pins s1 σ H1 _ I1 q1) fun u s2 ⟨y, H2, I2, r2, q2⟩ =>
    thn (ho pins s2 σ H2 x y v u _ I2 r1 r2 q2) fun d s3 ⟨z, H3, I3, r3, k, e, q3⟩ => ?_)) hm
  subst e
  cases r3
  refine wpAny_truthy_bool ?_
  cases k with
  | false => exact ite_ff ⟨.bl false, H3, I3, rfl, q3⟩
  | true => exact ite_tt (chain_last (thn (hc pins s3 σ H3 _ I3 q3) fun w' s4 ⟨z', H4, I4, r4, q4⟩ => ho' pins s4 σ H4 y z' u w' Q I4 r2 r4 q4))
theorem pt_chain {op op' : CmpOp} {r r' : R2} (ho : OpR X (compareOp op) r) (ho' : OpR X (compareOp op') r') (ha : PE X a ta) (hb : PE X b tb) (hc : PE X c tc)
    (hm : lastMarks [op, op'] [b, c] = false := by with_unfolding_all rfl) : PT X (.Compare a [op, op'] [b, c] pos) (tTest (tChain r r' ta tb tc)) := by
  intro pins s σ H Q I h
  refine isTrue_chain (thn (ha pins s σ H _ I h) fun v s1 ⟨x, H1, I1, r1, q1⟩ => test_link (thn (hb pins s1 σ H1 _ I1 q1) fun u s2 ⟨y, H2, I2, r2, q2⟩ =>
    thn (ho pins s2 σ H2 x y v u _ I2 r1 r2 q2) fun d s3 ⟨z, H3, I3, r3, k, e, q3⟩ => ?_)) hm
  subst e
  cases r3
  refine wpAny_truthy_bool ?_
  cases k with
  | false =>
    obtain ⟨k', e', q'⟩ := q3
    cases e'
    exact ite_ff ⟨H3, I3, q'⟩
  | true =>
    refine ite_tt (test_last (thn (hc pins s3 σ H3 _ I3 q3) fun w' s4 ⟨z', H4, I4, r4, q4⟩ => thn (ho' pins s4 σ H4 y z' u w' _ I4 r2 r4 q4) fun d' s5 ⟨z2, H5, I5, r5, k2, e2, q5⟩ => ?_))
    subst e2
    cases r5
    exact wpAny_truthy_bool ⟨H5, I5, q5⟩

def TruV (K : PySem.W.Frag) (x : V) (H : Hp) (k : Bool) : Prop :=
  match x with
  | .non => k = false
  | .bl b => k = b
  | .int i => k = (i != 0)
  | .str y => y.length ≤ sizeLine ∧ k = ((y.length : Int) != 0)
  | .byt y => y.size ≤ sizeLine ∧ k = ((y.size : Int) != 0)
  | .ref p => (∃ xs, SqL K H p xs ∧ k = !xs.isEmpty) ∨ (∃ xs, SqT K H p xs ∧ k = !xs.isEmpty) ∨ ∃ kvs, H p = some (.dK kvs) ∧ k = !kvs.isEmpty
  | _ => False
theorem isEmpty_kv {κ : Type} {kvs : List (κ × V)} {vs : List (κ × Value)} (r : KV kvs vs) : (!vs.isEmpty) = !kvs.isEmpty := by
  cases r <;> rfl
theorem isEmpty_of {xs : List V} {its : List Value} (r : Vals xs its) : (!its.toArray.isEmpty) = !xs.isEmpty := by
  cases r <;> simp
theorem line63 : (sizeLine : Nat) < 2 ^ 63 := by rw [sizeLine_eq]; decide
theorem tru_ok : TruR X (fun x H Q => ∃ k, TruV X.K x H k ∧ Q k H) := by
  intro pins s σ H x v Q I rx h
  obtain ⟨k, e, q⟩ := h
  have hl := line63
  have hs : sizeLine = 16777216 := sizeLine_eq
  cases x with
  | non =>
    cases rx
    have e' : k = false := e
    subst e'
    exact truthy_none ⟨H, I, q⟩
  | bl b =>
    cases rx
    have e' : k = b := e
    subst e'
    exact wpAny_truthy_bool ⟨H, I, q⟩
  | int i =>
    obtain ⟨t, rfl⟩ := rx
    have e' : k = (i != 0) := e
    subst e'
    exact PySem.P.truthy_int ⟨H, I, q⟩
  | str y =>
    obtain ⟨t, rfl⟩ := rx
    obtain ⟨hy, e'⟩ : y.length ≤ sizeLine ∧ k = ((y.length : Int) != 0) := e
    subst e'
    exact PySem.P.truthy_str (by omega) ⟨H, I.tok _, q⟩
  | byt y =>
    obtain ⟨t, rfl⟩ := rx
    obtain ⟨hy, e'⟩ : y.size ≤ sizeLine ∧ k = ((y.size : Int) != 0) := e
    subst e'
    exact PySem.W.truthy_bytes (by omega) ⟨H, I.tok _, q⟩
  | ref p =>
    cases rx
    have e' : (∃ xs, SqL X.K H p xs ∧ k = !xs.isEmpty) ∨ (∃ xs, SqT X.K H p xs ∧ k = !xs.isEmpty) ∨ ∃ kvs, H p = some (.dK kvs) ∧ k = !kvs.isEmpty := e
    rcases e' with ⟨xs, hx, e'⟩ | ⟨xs, hx, e'⟩ | ⟨kvs, hx, e'⟩
    · subst e'
      obtain ⟨its, r, pl, hz⟩ := I.list hx
      have hlen := r.length
      exact wpAny_truthy_list pl.isList (by simp only [List.size_toArray]; omega) ⟨H, I.tok _, by rw [isEmpty_of r]; exact q⟩
    · subst e'
      obtain ⟨its, r, pl, hz⟩ := I.tuple hx
      have hlen := r.length
      exact truthy_tuple pl (by simp only [List.size_toArray]; omega) ⟨H, I.tok _, by rw [isEmpty_of r]; exact q⟩
    · subst e'
      obtain ⟨hz, hS, vs, r, m⟩ : kvs.length ≤ sizeLine ∧ (p == sysModules) = false ∧ ∃ vs, KV kvs vs ∧ s.heap.DictOf (mixKind X.prog X.w) p vs := I.hok p _ hx
      have hlen : kvs.length = vs.length := Paired.length r
      exact wpAny_truthy_dict hS m (by omega) ⟨H, I.tok _, by rw [isEmpty_kv r]; exact q⟩
  | _ => exact (show False from e).elim
theorem pt_truth (ha : PE X a ta) (he : ∀ whole, isTrue a X.env whole = (do let v ← whole; standAt a.pos; holding [v] (truthy v))) :
    PT X a (fun σ H Q => ta σ H fun x H' => ∃ k, TruV X.K x H' k ∧ Q k H') := by
  intro pins s σ H Q I h
  exact isTrue_plain (thn (ha pins s σ H _ I h) fun v s1 ⟨x, H1, I1, r1, q1⟩ => tru_ok pins s1 σ H1 x v Q I1 r1 q1) (he _)

theorem vals1 {x : V} {us : List Value} (r : Vals [x] us) : ∃ u, us = [u] ∧ RelV x u := by
  cases r with
  | cons r1 r2 => cases r2; exact ⟨_, rfl, r1⟩
theorem vals2 {x y : V} {us : List Value} (r : Vals [x, y] us) : ∃ u w', us = [u, w'] ∧ RelV x u ∧ RelV y w' := by
  cases r with
  | cons r1 r2 =>
    cases r2 with
    | cons r3 r4 => cases r4; exact ⟨_, _, rfl, r1, r3⟩
theorem call_abs : CallR X (.builtin "abs") (fun xs H Q => ∃ i, xs = [.int i] ∧ Q (.int (if i < 0 then -i else i)) H) := by
  intro pins s σ H xs us Q I r h
  obtain ⟨i, rfl, q⟩ := h
  obtain ⟨u, rfl, t, rfl⟩ := vals1 r
  exact call_abs_int fun u tk => ⟨.int (if i < 0 then -i else i), H, I.tok _, ⟨_, rfl⟩, q⟩
theorem call_max2 (hc : X.calm = true) : CallR X (.builtin "max") (fun xs H Q => ∃ i j, xs = [.int i, .int j] ∧ Q (.int (if j > i then j else i)) H) := by
  intro pins s σ H xs us Q I r h
  obtain ⟨i, j, rfl, q⟩ := h
  obtain ⟨u, w', rfl, ⟨t, rfl⟩, ⟨t', rfl⟩⟩ := vals2 r
  refine max_two_ints (I.ok.hd hc) fun h' tk k => ⟨_, H, I.kept k, ?_, q⟩
  by_cases hj : j > i
  · rw [if_pos hj, if_pos hj]; exact ⟨_, rfl⟩
  · rw [if_neg hj, if_neg hj]; exact ⟨_, rfl⟩
theorem call_min2 (hc : X.calm = true) : CallR X (.builtin "min") (fun xs H Q => ∃ i j, xs = [.int i, .int j] ∧ Q (.int (if j < i then j else i)) H) := by
  intro pins s σ H xs us Q I r h
  obtain ⟨i, j, rfl, q⟩ := h
  obtain ⟨u, w', rfl, ⟨t, rfl⟩, ⟨t', rfl⟩⟩ := vals2 r
  refine min_two_ints (I.ok.hd hc) fun h' tk k => ⟨_, H, I.kept k, ?_, q⟩
  by_cases hj : j < i
  · rw [if_pos hj, if_pos hj]; exact ⟨_, rfl⟩
  · rw [if_neg hj, if_neg hj]; exact ⟨_, rfl⟩
theorem call_int1 : CallR X (.type "int") (fun xs H Q => (∃ i, xs = [.int i] ∧ Q (.int i) H) ∨ ∃ k, xs = [.bl k] ∧ Q (.int (if k then 1 else 0)) H) := by
  intro pins s σ H xs us Q I r h
  rcases h with ⟨i, rfl, q⟩ | ⟨k, rfl, q⟩
  · obtain ⟨u, rfl, t, rfl⟩ := vals1 r
    exact call_int_int ⟨.int i, H, I, ⟨_, rfl⟩, q⟩
  · obtain ⟨u, rfl, r1⟩ := vals1 r
    cases r1
    exact call_int_bool ⟨.int (if k then 1 else 0), H, I.tok _, ⟨_, rfl⟩, q⟩
end
end L2

namespace L2
open PySem PySem.Spec PyProof.Rows

structure ObjM (h : Heap) (x dx C : Addr) (mA : Str → Option Value) : Prop where
  obj : h.get? x = some (PySem.W.instObj C dx)
  ns : h.Ns1 dx mA
  ne : dx ≠ x

theorem lookIn_ns {h : Heap} {dx : Addr} {mA : Str → Option Value} (n : h.Ns1 dx mA) : ∃ od, h.get? dx = some od ∧ ∀ name, PySem.W.lookIn name od = some (mA name) := by
  obtain ⟨o, es, ep, ho, hd, hk, _, hm⟩ := n
  refine ⟨o, ho, fun name => ?_⟩
  have e := hm name
  unfold nsFind findBy at e
  rw [← Array.find?_toList] at e
  unfold PySem.W.lookIn
  rw [hd]
  dsimp only
  split
  · rename_i y q
    rw [q] at e
    exact congrArg some e
  · rename_i q
    rw [q] at e
    have a : es.toList.any (·.refKey) = false := by
      rw [List.any_eq_false]
      intro y hy
      obtain ⟨z, t, hkey⟩ := hk y (Array.mem_toList_iff.mp hy)
      simp [DictEntry.refKey, hkey]
    have a' : ¬ es.toList.any (·.refKey) = true := by rw [a]; exact Bool.false_ne_true
    rw [if_neg a']
    exact congrArg some e

theorem ObjM.look {h : Heap} {x dx C : Addr} {mA : Str → Option Value} (I : ObjM h x dx C mA) : ∃ od, PySem.W.InstAt h x (PySem.W.instObj C dx) C (some od) ∧ ∀ name, PySem.W.lookIn name od = some (mA name) :=
  let ⟨od, ho, hl⟩ := lookIn_ns I.ns
  ⟨od, ⟨I.obj, rfl, rfl, ho⟩, hl⟩

section
variable {prog : Program} {w : World} {A : Around} {E : Value → Shared → Prop} {s : Shared} {K : PySem.W.Frag} {x dx C f : Addr} {mA : Str → Option Value} {name : Str} {v : Value}

end

section
variable {P : Program} {w : World} {H H' : Hp} {h h' : Heap} {a C dx : Addr} {fs fs' : List (Str × V)}
theorem ins_get (hok : HOk P w H h) (e : H a = some (.ins C dx fs)) : ∃ mA, ObjM h a dx C mA ∧ (∀ f, RelO (fs.lookup f) (mA f)) ∧ PySem.Within mA (fs.map (·.1)) ∧ fs.length ≤ 1000 ∧ H dx = some (.own a) := by
  obtain ⟨d, z, ne, ob, mA, n, r, q⟩ := (show ObjOk P w H h a (.ins C dx fs) from hok a _ e)
  exact ⟨mA, ⟨ob, n, ne⟩, r, q, z, d⟩
end

structure Cls (K : PySem.W.Frag) (C : Addr) : Prop where
  pg : PySem.W.plainGet K C Str.empty = true
  hd : PySem.W.hasDictIn K C = true
  po : PySem.W.plainOver K C = true
  sa : PySem.W.findIn K (.ref C) "__setattr__" = some (some (.builtin "object.__setattr__"))
theorem Cls.get {K : PySem.W.Frag} {C : Addr} (c : Cls K C) (f : Str) : PySem.W.plainGet K C f = true := c.pg
structure Con (K : PySem.W.Frag) (C : Addr) (f : Str) (v : V) (u : Value) : Prop where
  at_ : PySem.W.findIn K (.ref C) f = some (some u)
  rel : RelV v u
  get : PySem.W.specialIn K u "__get__" = some none
  cp : PySem.W.copiedNames.contains f = false
structure Meth (K : PySem.W.Frag) (C : Addr) (m : Str) (f : Addr) : Prop where
  at_ : PySem.W.findIn K (.ref C) m = some (some (.ref f))
  fn : PySem.W.isFn K (.ref f) = true
  kp : PySem.W.keepIn K (.ref f) = true

section
variable {X : Cx} {pins : List (Addr × Obj)} {σ : St} {H : Hp} {s : Shared} {a C dx : Addr} {fs : List (Str × V)} {f : Str} {v : V} {A : Around} {E : Value → Shared → Prop}

end

section
variable {X : Cx} {o e value : Expr} {f : Str} {pos pos' tpos : Pos} {ta tv : TE}
end

section
variable {X : Cx} {pins : List (Addr × Obj)} {σ : St} {H : Hp} {s : Shared} {A : Around} {E : Value → Shared → Prop} {Q : Value → Shared → Prop} {c : Value} {b : Bool}
inductive TyOf (K : PySem.W.Frag) (H : Hp) : V → Value → Prop where
  | non : TyOf K H .non (.type "NoneType")
  | bl (x : Bool) : TyOf K H (.bl x) (.type "bool")
  | int (i : Int) : TyOf K H (.int i) (.type "int")
  | str (x : Str) : TyOf K H (.str x) (.type "str")
  | flt (x : UInt64) : TyOf K H (.flt x) (.type "float")
  | lst {a : Addr} {xs : List V} (e : H a = some (.lst xs)) : TyOf K H (.ref a) (.type "list")
  | frz {a : Addr} {o : Obj} {xs : List V} (e : H a = some (.frz o (.lst xs))) : TyOf K H (.ref a) (.type "list")
  | tup {a : Addr} {xs : List V} (e : H a = some (.tup xs)) : TyOf K H (.ref a) (.type "tuple")
  | dK {a : Addr} {kvs : List (Key × V)} (e : H a = some (.dK kvs)) : TyOf K H (.ref a) (.type "dict")
  | dT {a : Addr} {kvs : List (List Key × V)} (e : H a = some (.dT kvs)) : TyOf K H (.ref a) (.type "dict")
  | ins {a C dx : Addr} {fs : List (Str × V)} (e : H a = some (.ins C dx fs)) (cl : Cls K C) (ha : PySem.W.findIn K (.ref C) "__class__" = some (some (.builtin "object.__class__")))
      (hn : PySem.W.specialIn K (.builtin "object.__class__") "__get__" = some (some (.builtin "getset_descriptor.__get__"))) (htk : PySem.W.takesIn K (.builtin "object.__class__") = some true)
      (hm : PySem.W.mroIn K C (.type "object") = some true) : TyOf K H (.ref a) (.ref C)
theorem isinst_ok {x : V} {u t : Value} (I : Inv X pins σ H s) (rx : RelV x u) (ty : TyOf X.K H x t) (e : PySem.W.kitOne X.K t c = some b) (h : ∀ tk, Q (.bool b) { s with toks := tk }) :
    wpAny (model X.prog X.w) A (call (.builtin "isinstance") [u, c]) Q E s := by
  cases ty with
  | non => cases (show u = Value.none from rx); exact PySem.W.kia_one PySem.W.kitx_none I.kIn True.intro e (fun z => nomatch z) h
  | bl y => cases (show u = Value.bool y from rx); exact PySem.W.kia_one PySem.W.kitx_bool I.kIn True.intro e (fun z => nomatch z) h
  | int i => obtain ⟨t, q⟩ := (show ∃ t, u = Value.int i t from rx); cases q; exact PySem.W.kia_one PySem.W.kitx_int I.kIn True.intro e (fun z => nomatch z) h
  | str y => obtain ⟨t, q⟩ := (show ∃ t, u = Value.str y t from rx); cases q; exact PySem.W.kia_one PySem.W.kitx_str I.kIn True.intro e (fun z => nomatch z) h
  | flt y => obtain ⟨t, q⟩ := (show ∃ t, u = Value.float y t from rx); cases q; exact PySem.W.kia_one PySem.W.kitx_float I.kIn True.intro e (fun z => nomatch z) h
  | @lst a xs ea =>
    cases (show u = Value.ref a from rx)
    obtain ⟨_, _, n, _, h1⟩ := (show ObjOk X.prog X.w H s.heap a (.lst xs) from I.hok a _ ea)
    exact PySem.W.kia_one PySem.W.kitx_list I.kIn ⟨_, h1, rfl⟩ e (fun z => nomatch z) h
  | @frz a ob xs ea =>
    cases (show u = Value.ref a from rx)
    obtain ⟨_, _, _, n, _, h1⟩ := (show ObjOk X.prog X.w H s.heap a (.frz ob (.lst xs)) from I.hok a _ ea)
    exact PySem.W.kia_one PySem.W.kitx_list I.kIn ⟨_, h1, rfl⟩ e (fun z => nomatch z) h
  | @tup a xs ea =>
    cases (show u = Value.ref a from rx)
    obtain ⟨_, _, _, p⟩ := (show ObjOk X.prog X.w H s.heap a (.tup xs) from I.hok a _ ea)
    obtain ⟨o, h1, h2, _⟩ := p
    exact PySem.W.kia_one PySem.W.kitx_tuple I.kIn ⟨o, h1, h2⟩ e (fun z => nomatch z) h
  | @dK a kvs ea =>
    cases (show u = Value.ref a from rx)
    obtain ⟨_, _, vs, _, p⟩ := (show ObjOk X.prog X.w H s.heap a (.dK kvs) from I.hok a _ ea)
    obtain ⟨o, es, ep, h1, h2, _⟩ := p
    exact PySem.W.kia_one PySem.W.kitx_dict I.kIn ⟨o, h1, h2.1⟩ e (fun z => nomatch z) h
  | @dT a kvs ea =>
    cases (show u = Value.ref a from rx)
    obtain ⟨_, _, xs, _, o, es, ep, h1, h2, _⟩ := (show ObjOk X.prog X.w H s.heap a (.dT kvs) from I.hok a _ ea)
    exact PySem.W.kia_one PySem.W.kitx_dict I.kIn ⟨o, h1, h2.1⟩ e (fun z => nomatch z) h
  | @ins a C dx fs ea cl ha hn htk hm =>
    cases (show u = Value.ref a from rx)
    obtain ⟨mA, O, _⟩ := ins_get I.hok ea
    obtain ⟨od, J, _⟩ := O.look
    exact PySem.W.kia_one (PySem.W.kitx_own (cl.get _) cl.hd ha hn htk hm) I.kIn J e (fun z => nomatch z) h
end
end L2

namespace L2
open PySem PySem.Spec PyProof.Rows

structure Room (k : Nat) (A : Around) : Prop where
  hd : A.handled = none
  dp : A.depth + 3 * k + 5 < recursionLimit
  un : A.units + 16 * k + 200 < cLine
theorem Room.mono {j k : Nat} {A : Around} (r : Room k A) (h : j ≤ k) : Room j A := ⟨r.hd, by have := r.dp; omega, by have := r.un; omega⟩
theorem Room.deeper {k : Nat} {A : Around} (r : Room (k + 1) A) (env : Env) : Room k (A.deeper env) :=
  ⟨r.hd, by have := r.dp; show A.depth + 1 + 3 * k + 5 < _; omega, by have := r.un; show A.units + 3 + 16 * k + 200 < _; omega⟩
theorem Room.in1 {k : Nat} {A : Around} (r : Room (k + 1) A) : Room k A.in1 :=
  ⟨r.hd, by have := r.dp; show A.depth + 3 * k + 5 < _; omega, by have := r.un; show A.units + 1 + 16 * k + 200 < _; omega⟩
theorem Room.depth {k : Nat} {A : Around} (r : Room k A) : A.depth < recursionLimit := by have := r.dp; omega
theorem Room.units {k : Nat} {A : Around} (r : Room k A) : A.units + 64 < cLine := by have := r.un; omega
def tNil : TA := fun _ H Q => Q [] H
def tCons (ta : TE) (tr : TA) : TA := fun σ H Q => ta σ H fun x H1 => tr σ H1 fun xs H2 => Q (x :: xs) H2
section
variable {X : Cx} {e : Expr} {es : List Expr} {te : TE} {t : TA} {pos : Pos}
theorem pa_nil : PA X [] tNil := fun _ _ _ _ H Q I h => Calls.spliced_nil ⟨[], H, I, .nil, h⟩
theorem pa_cons (ha : PE X e te) (hr : PA X es t) (hs : starEach (e :: es) X.env = (false, eval e X.env) :: starEach es X.env := by rfl) : PA X (e :: es) (tCons te t) := by
  intro pos pins s σ H Q I h
  rw [hs]
  show wpAny _ _ (spliced ((false, eval e X.env) :: backTo pos (starEach es X.env))) _ _ s
  refine Calls.spliced_cons (thn (ha pins s σ H _ I h) fun u s1 ⟨x, H1, I1, r1, q1⟩ => ?_)
  exact thn (hr pos pins s1 σ H1 _ I1 q1) fun us s2 ⟨xs, H2, I2, r2, q2⟩ => ⟨x :: xs, H2, I2, .cons r1 r2, q2⟩

def tTup (t : TA) : TE := fun σ H Q => t σ H fun xs H1 => xs.length ≤ sizeLine ∧ ∀ p, H1 p = none → Q (.ref p) (upd H1 p (.tup xs))
def tLst (t : TA) : TE := fun σ H Q => t σ H fun xs H1 => xs.length ≤ sizeLine ∧ ∀ p, H1 p = none → Q (.ref p) (upd H1 p (.lst xs))
theorem pe_tup {x1} (h : PA X es t) : PE X (.Tuple es x1 pos) (tTup t) := by
  intro pins s σ H Q I hq
  refine wpAny_Tuple_spliced (thn (h pos pins s σ H _ I hq) fun us s1 ⟨xs, H1, I1, r, z, q⟩ => ⟨by rw [← r.length]; exact z, ?_⟩)
  have hf : H1 s1.heap.objs.size = none := I1.hok.fresh (Nat.le_refl _)
  refine ⟨.ref s1.heap.objs.size, upd H1 s1.heap.objs.size (.tup xs), I1.laid (t' := s1.toks) (fun b u e => Heap.get?_push_of_some _ e) (Nat.le_refl _) ?_, rfl, q _ hf⟩
  exact ⟨z, us, r, ⟨_, Heap.get?_push_size _ rfl, rfl, _, rfl⟩⟩
theorem pe_lst (h : PA X es t) : PE X (.List es pos) (tLst t) := by
  intro pins s σ H Q I hq
  refine wpAny_List_spliced (thn (h pos pins s σ H _ I hq) fun us s1 ⟨xs, H1, I1, r, z, q⟩ => ⟨by rw [← r.length]; exact z, ?_⟩)
  have hf : H1 s1.heap.objs.size = none := I1.hok.fresh (Nat.le_refl _)
  refine ⟨.ref s1.heap.objs.size, upd H1 s1.heap.objs.size (.lst xs), I1.laid (t' := s1.toks) (fun b u e => Heap.get?_push_of_some _ e) (Nat.le_refl _) ?_, rfl, q _ hf⟩
  exact ⟨z, us, 0, r, Heap.get?_push_size _ rfl⟩
end

abbrev Sp := List V → Hp → VK → XK → Prop
abbrev CXT := List Env → Hp → Shared → XK → Value → Shared → Prop

structure Env0 (P : Program) (w : World) (K : PySem.W.Frag) (mg : Str → Option Value) (base : Heap) (A : Around) (outer : List Env) (s : Shared) (H : Hp) : Prop where
  frames : A.frames = some outer
  mod : Mod K mg base
  bs : ∀ b o, base.get? b = some o → s.heap.get? b = some o ∧ H b = none
  bsz : base.objs.size ≤ s.heap.objs.size
  funs : s.heap.FunFrames base outer
  frf : ∀ b ∈ frs outer, H b = none
  hok : HOk P w H s.heap
  bare : AllBare s.gens
def CE (outer : List Env) (P : Program) (w : World) (H : Hp) (s : Shared) (Q : VK) (u : Value) (s' : Shared) : Prop :=
  ∃ v H', s'.os = s.os ∧ AllBare s'.gens ∧ Un (frs outer) [] H H' s.heap s'.heap ∧ HOk P w H' s'.heap ∧ RelV v u ∧ Q v H'
def CR (CX : CXT) (outer : List Env) (P : Program) (w : World) (H : Hp) (s : Shared) (Q : VK) (E : XK) (r : Result) (s' : Shared) : Prop :=
  match r with
  | .ok (.ret u) => CE outer P w H s Q u s'
  | .ok _ => False
  | .error e => CX outer H s E e s'
structure FnOk (P : Program) (w : World) (K : PySem.W.Frag) (mg : Str → Option Value) (base : Heap) (CX : CXT) (k : Nat) (f : Addr) (fd : FuncData) (ps : List Str) (sp : Sp) : Prop where
  len : ∀ vs H Q E, sp vs H Q E → vs.length = ps.length
  run : ∀ (A : Around) (outer : List Env) (s : Shared) (H : Hp) (args : Args) (us : List Value) (vs : List V) (Q : VK) (E : XK), Room k A → Env0 P w K mg base A outer s H → BindsTo s fd args (ps.zip us) → Vals vs us → sp vs H Q E →
    codeAny (model P w) A (.call (.ref f) args) (CR CX outer P w H s Q E) s
theorem FnOk.mono {P : Program} {w : World} {K : PySem.W.Frag} {mg : Str → Option Value} {base : Heap} {CX : CXT} {j k : Nat} {f : Addr} {fd : FuncData} {ps : List Str} {sp : Sp} (F : FnOk P w K mg base CX j f fd ps sp) (h : j ≤ k) :
    FnOk P w K mg base CX k f fd ps sp := ⟨F.len, fun A outer s H args us vs Q E hr => F.run A outer s H args us vs Q E (hr.mono h)⟩
theorem FnOk.imp {P : Program} {w : World} {K : PySem.W.Frag} {mg : Str → Option Value} {base : Heap} {CX : CXT} {k : Nat} {f : Addr} {fd : FuncData} {ps : List Str} {sp sp' : Sp} (F : FnOk P w K mg base CX k f fd ps sp)
    (h : ∀ vs H Q E, sp' vs H Q E → sp vs H Q E) : FnOk P w K mg base CX k f fd ps sp' :=
  ⟨fun vs H Q E q => F.len vs H Q E (h _ _ _ _ q), fun A outer s H args us vs Q E hr he hb hv hs => F.run A outer s H args us vs Q E hr he hb hv (h _ _ _ _ hs)⟩

theorem Env0.in1 {P : Program} {w : World} {K : PySem.W.Frag} {mg : Str → Option Value} {base : Heap} {A : Around} {outer : List Env} {s : Shared} {H : Hp} (e : Env0 P w K mg base A outer s H) :
    Env0 P w K mg base A.in1 outer s H := ⟨e.frames, e.mod, e.bs, e.bsz, e.funs, e.frf, e.hok, e.bare⟩

section
variable {X : Cx} {pins : List (Addr × Obj)} {σ : St} {H : Hp} {s s' : Shared}
theorem Inv.env0 (I : Inv X pins σ H s) : Env0 X.prog X.w X.K X.mg X.base X.A X.stack s H :=
  ⟨I.ok.frames, I.ok.mod, I.bs, Nat.le_trans I.ok.bsz I.sz, I.stack, I.stkFree, I.hok, I.bare⟩
theorem Inv.after {Q : VK} {u : Value} (I : Inv X pins σ H s) (h : CE X.stack X.prog X.w H s Q u s') : EP X pins σ Q u s' := by
  obtain ⟨v, H', os, bare, un, hok, r, q⟩ := h
  obtain ⟨hh, g, d, t, os'⟩ := s'
  obtain rfl : os' = s.os := os
  exact ⟨v, H', I.call (h' := hh) (g' := g) (d' := d) (t' := t) (ch := []) un hok bare (fun b z => absurd z (by simp)), r, q⟩
end

def tCall (sp : Sp) (dvs : List V) (E : XK) (t : TA) : TE := fun σ H Q => t σ H fun vs H1 => sp (vs ++ dvs) H1 Q E
def Binds (K : PySem.W.Frag) (fd : FuncData) (ps : List Str) (ds : List Value) : Prop :=
  ∀ (s : Shared) (us : List Value), K.In s.heap → (us ++ ds).length = ps.length → BindsTo s fd ⟨us, []⟩ (ps.zip (us ++ ds))
theorem Binds.all {K : PySem.W.Frag} {fd : FuncData} {ps : List Str} (h : ∀ us : List Value, us.length = ps.length → bindArgs fd ⟨us, []⟩ = pure (ps.zip us)) : Binds K fd ps [] := fun s us _ hl => by
  rw [List.append_nil] at hl ⊢
  exact .of_eq (h us hl)

def Passes (CX : CXT) (X : Cx) (E : XK) : Prop := ∀ (pins : List (Addr × Obj)) (σ : St) (H : Hp) (s : Shared) (e : Value) (s' : Shared), Inv X pins σ H s → CX X.stack H s E e s' → X.xe e s'

section
variable {X : Cx} {CX : CXT} {k : Nat} {f C : Addr} {fd : FuncData} {ps : List Str} {sp : Sp} {dvs : List V} {ds : List Value} {E : XK} {x m : Str} {p pos apos : Pos} {e o : Expr} {es : List Expr} {ta : TE} {t : TA}

theorem run_fn {pins : List (Addr × Obj)} {σ : St} {H : Hp} {s : Shared} {Q : VK} {us : List Value} {vs : List V} (F : FnOk X.prog X.w X.K X.mg X.base CX k f fd ps sp) (hr : Room k X.A) (hb : Binds X.K fd ps ds) (hd : Vals dvs ds) (hx : Passes CX X E)
    (I : Inv X pins σ H s) (r : Vals vs us) (h : sp (vs ++ dvs) H Q E) : wpAny (model X.prog X.w) X.A (call (.ref f) us) (EP X pins σ Q) X.xe s := by
  have r2 : Vals (vs ++ dvs) (us ++ ds) := r.append hd
  have hl : (us ++ ds).length = ps.length := by rw [← r2.length]; exact F.len _ _ _ _ h
  refine wpAny_call (codeAny_mono (F.run X.A X.stack s H ⟨us, []⟩ (us ++ ds) (vs ++ dvs) Q E hr I.env0 (hb s us I.kIn hl) r2 h) fun r s' hq => ?_)
  cases r with
  | error e => exact hx pins σ H s e s' I hq
  | ok fl =>
    cases fl with
    | ret u => exact I.after hq
    | next => exact False.elim hq
    | brk => exact False.elim hq
    | cont => exact False.elim hq

theorem pe_call (F : FnOk X.prog X.w X.K X.mg X.base CX k f fd ps sp) (hr : Room k X.A) (hg : Gl X x) (hm : X.mg x = some (.ref f)) (hk : PySem.W.keepIn X.K (.ref f) = true) (hb : Binds X.K fd ps ds) (hd : Vals dvs ds) (hx : Passes CX X E)
    (ha : PA X (e :: es) t) (hdb : (x == ("__debug__" : Str)) = false := by decide) (he : starEach (e :: es) X.env = (false, eval e X.env) :: starEach es X.env := by rfl) (hpl : (backTo pos (starEach es X.env)).any (·.1) = false := by rfl) :
    PE X (.Call (.Name x p) (e :: es) [] pos) (tCall sp dvs E t) := by
  intro pins s σ H Q I h
  refine wpAny_Call_Name_kw (ld_glob I hg hm ?_ hdb)
  refine PySem.W.callWith_K (h₀ := X.base) I.ok.mod.kin hk (thn (ha pos pins s σ H _ I h) fun us s1 ⟨vs, H1, I1, r, q⟩ => ⟨I1.kIn, ?_⟩) he hpl
  exact run_fn F hr hb hd hx I1 r q
structure Mk (K : PySem.W.Frag) (C f : Addr) : Prop where
  makes : PySem.W.makesIn K C = true
  init : PySem.W.findIn K (.ref C) "__init__" = some (some (.ref f))
  fn : PySem.W.isFn K (.ref f) = true
  kp : PySem.W.keepIn K (.ref C) = true

end

section
variable {X : Cx} {CX : CXT} {k : Nat} {f C : Addr} {fd : FuncData} {ps ks : List Str} {sp : Sp} {E : XK} {x m : Str} {p pos apos kpos : Pos} {e o : Expr} {es : List Expr} {kws : List Keyword} {te ta : TE} {t tk : TA} {nm : Option Str}
structure KBinds (K : PySem.W.Frag) (fd : FuncData) (ps ks : List Str) (g : List Value → List Value → List Value) (gV : List V → List V → List V) : Prop where
  to : ∀ (s : Shared) (us ws : List Value), K.In s.heap → (g us ws).length = ps.length → BindsTo s fd ⟨us, ks.zip ws⟩ (ps.zip (g us ws))
  rel : ∀ {vs : List V} {us : List Value} {zs : List V} {ws : List Value}, Vals vs us → Vals zs ws → Vals (gV vs zs) (g us ws)
variable {g : List Value → List Value → List Value} {gV : List V → List V → List V}
end

structure FnScope (N P : List Str) (sc : Scope) : Prop where
  kind : sc.kind = .function
  co : sc.isCoroutine = false
  gen : sc.isGenerator = false
  nd : N.Nodup
  pre : N.take P.length = P
  par : ∀ x ∈ P, sc.names.lookup x = some .local ∨ sc.names.lookup x = some .cell
  nofree : ∀ y ∈ sc.names, y.2 ≠ .free

theorem bindL_out {kindOf : Str → Option NameKind} {x : Str} : ∀ {binds : List (Str × Value)} {m : Str → Option Value}, (∀ v, (x, v) ∉ binds) → bindL kindOf binds m x = m x
  | [], _, _ => rfl
  | (n, v) :: r, m, h => by
    unfold bindL
    rw [bindL_out fun w hw => h w (List.mem_cons_of_mem _ hw)]
    split
    · have : x ≠ n := by rintro rfl; exact h v List.mem_cons_self
      simp [this]
    · rfl
theorem bindC_out {kindOf : Str → Option NameKind} {x : Str} : ∀ {binds : List (Str × Value)} {m : Str → Option Value}, (∀ v, (x, v) ∉ binds) → bindC kindOf binds m x = m x
  | [], _, _ => rfl
  | (n, v) :: r, m, h => by
    unfold bindC
    rw [bindC_out fun w hw => h w (List.mem_cons_of_mem _ hw)]
    split
    · rfl
    · have : x ≠ n := by rintro rfl; exact h v List.mem_cons_self
      simp [this]
theorem bindL_get {kindOf : Str → Option NameKind} {x : Str} {v : Value} : ∀ {P : List Str} {vs : List Value} {i : Nat} {m : Str → Option Value}, P.Nodup → P[i]? = some x → vs[i]? = some v → kindOf x = some .local →
    bindL kindOf (P.zip vs) m x = some v
  | [], _, _, _, _, h, _, _ => by simp at h
  | _ :: _, [], _, _, _, _, h, _ => by simp at h
  | p :: P, w :: vs, 0, m, nd, h1, h2, hk => by
    simp at h1 h2; subst h1; subst h2
    show bindL kindOf ((p, w) :: P.zip vs) m p = _
    unfold bindL
    rw [bindL_out fun v hv => (List.nodup_cons.mp nd).1 (List.of_mem_zip hv).1, if_pos hk]
    simp
  | p :: P, w :: vs, i + 1, m, nd, h1, h2, hk => by
    show bindL kindOf ((p, w) :: P.zip vs) m x = _
    unfold bindL
    exact bindL_get (i := i) (List.nodup_cons.mp nd).2 (by simpa using h1) (by simpa using h2) hk
theorem bindC_get {kindOf : Str → Option NameKind} {x : Str} {v : Value} : ∀ {P : List Str} {vs : List Value} {i : Nat} {m : Str → Option Value}, P.Nodup → P[i]? = some x → vs[i]? = some v → kindOf x ≠ some .local →
    bindC kindOf (P.zip vs) m x = some v
  | [], _, _, _, _, h, _, _ => by simp at h
  | _ :: _, [], _, _, _, _, h, _ => by simp at h
  | p :: P, w :: vs, 0, m, nd, h1, h2, hk => by
    simp at h1 h2; subst h1; subst h2
    show bindC kindOf ((p, w) :: P.zip vs) m p = _
    unfold bindC
    rw [bindC_out fun v hv => (List.nodup_cons.mp nd).1 (List.of_mem_zip hv).1, if_neg hk]
    simp
  | p :: P, w :: vs, i + 1, m, nd, h1, h2, hk => by
    show bindC kindOf ((p, w) :: P.zip vs) m x = _
    unfold bindC
    exact bindC_get (i := i) (List.nodup_cons.mp nd).2 (by simpa using h1) (by simpa using h2) hk

def start (N : List Str) (vs : List V) : St := vs.map some ++ List.replicate (N.length - vs.length) none

def cxOf (CX : CXT) (P : Program) (w : World) (K : PySem.W.Frag) (mg : Str → Option Value) (base : Heap) (N : List Str) (qual : Str) (scope : Scope) (f : Addr) (cd : Value) (A : Around) (outer : List Env) (s : Shared) (H : Hp) (E : XK) : Cx where
  prog := P
  w := w
  K := K
  mg := mg
  base := base
  A := A.deeper (envOfC qual scope s.heap.objs.size f cd)
  N := N
  s₀ := s
  H₀ := H
  env := envOfC qual scope s.heap.objs.size f cd
  outer := outer
  stack := envOfC qual scope s.heap.objs.size f cd :: outer
  ex := []
  calm := true
  fn := fun _ => true
  pn := []
  xe := fun e s' => wpAny (model P w) (A.deeper (envOfC qual scope s.heap.objs.size f cd)) (leaving (envOfC qual scope s.heap.objs.size f cd) e) (fun _ s'' => CX outer H s E e s'') (fun e' s'' => CX outer H s E e' s'') s'

theorem cell_has {sc : Scope} {n : Nat} {x : Str} (h : sc.names.lookup x = some .cell) : ∃ c, (cellsFrom n sc.names []).lookup x = some c := by
  have q := PySem.W.cellsFrom_some sc.names n [] (.inl h)
  exact Option.isSome_iff_exists.mp q

theorem inv_start {CX : CXT} {P : Program} {w : World} {K : PySem.W.Frag} {mg : Str → Option Value} {base : Heap} {N ps : List Str} {qual : Str} {scope : Scope} {f : Addr} {cd : Value} {A : Around} {outer : List Env} {s s1 : Shared} {H : Hp} {E : XK} {us : List Value} {vs : List V}
    (S : FnScope N ps scope) (hd : A.handled = none) (e0 : Env0 P w K mg base A outer s H) (hl : vs.length = ps.length) (r : Vals vs us)
    (x : InCallC s s.heap.objs.size (bindL (envOfC qual scope s.heap.objs.size f cd).kindOf (ps.zip us) fun _ => none) (cellsFrom (s.heap.objs.size + 1) scope.names []) (bindC (envOfC qual scope s.heap.objs.size f cd).kindOf (ps.zip us) fun _ => none) s1) :
    Inv (cxOf CX P w K mg base N qual scope f cd A outer s H E) [] (start N vs) H s1 := by
  have hpl : ps.length ≤ N.length := by have := congrArg List.length S.pre; rw [List.length_take] at this; omega
  obtain ⟨h1, tk, rfl, hk⟩ := x.done
  have noA : ∀ b : Addr, b ∉ (cxOf CX P w K mg base N qual scope f cd A outer s H E).ex := fun b z => absurd (show b ∈ ([] : List Addr) from z) (by simp)
  refine ⟨⟨e0.mod, S.kind, rfl, rfl, Nat.le_refl _, fun y z c h1 h2 => ?_, fun y hy => ?_, fun y c _ h => ?_, fun _ => hd, Around.frames_deeper e0.frames, .inr ⟨rfl, rfl⟩, fun b z => absurd z (noA b), e0.bs, e0.bsz, fun b _ _ => noA b, fun b z => absurd z (noA b), e0.funs, e0.frf⟩,
    rfl, e0.bare, Un.kept hk, ⟨_, x.toInCall.ns, fun i y v h1 h2 h3 => ?_⟩, fun y c h => ⟨_, x.cell y c h⟩, e0.hok.fresh (Nat.le_refl _), fun y c h => ?_, fun p hp => absurd (show p ∈ ([] : List (Addr × Obj)) from hp) (by simp), e0.hok.kept hk, ?_⟩
  · exact name_of_addr x.apart (PySem.mem_of_lookup h1) (PySem.mem_of_lookup h2)
  · have hy : scope.names.lookup y = some .cell ∨ scope.names.lookup y = some .free := hy
    rcases hy with hy | hy
    · exact cell_has hy
    · exact absurd rfl (S.nofree _ (PySem.mem_of_lookup hy))
  · exact Nat.le_of_lt (x.above y c (PySem.mem_of_lookup h))
  · have hi : i < vs.length := by
      unfold start at h2
      by_cases hi : i < vs.length
      · exact hi
      · rw [List.getElem?_append_right (by simpa using hi)] at h2
        rw [List.getElem?_replicate] at h2
        split at h2 <;> cases h2
    have ha : vs[i]? = some v := by
      unfold start at h2
      rw [List.getElem?_append_left (by simpa using hi), List.getElem?_map] at h2
      cases e : vs[i]? with
      | none => rw [e] at h2; cases h2
      | some a => rw [e] at h2; cases h2; rfl
    obtain ⟨u, hu, rv⟩ := r.get ha
    have hp : ps[i]? = some y := by
      rw [← S.pre, List.getElem?_take_of_lt (by omega)]; exact h1
    have ndP : ps.Nodup := by rw [← S.pre]; exact S.nd.sublist (List.take_sublist _ _)
    refine ⟨u, rv, ?_⟩
    rcases S.par y (List.mem_of_getElem? hp) with k | k
    · exact .inl ⟨k, bindL_get ndP hp hu k⟩
    · obtain ⟨c, e⟩ := cell_has (n := s.heap.objs.size + 1) k
      refine .inr ⟨.inl k, c, e, ?_⟩
      have q := x.cell y c e
      rw [bindC_get ndP hp hu (by show scope.names.lookup y ≠ _; rw [k]; decide)] at q
      exact q
  · exact e0.hok.fresh (Nat.le_of_lt (x.above y c (PySem.mem_of_lookup h)))
  · unfold start
    show _ = N.length
    rw [List.length_append, List.length_map, List.length_replicate]
    omega

theorem fn_of {CX : CXT} {P : Program} {w : World} {K : PySem.W.Frag} {mg : Str → Option Value} {base : Heap} {k : Nat} {f : Addr} {name qual : Str} {params : Arguments} {body : List Stmt} {scope : Scope} {dV kV doc pm cdv ct oc : Value} {an od : Option Addr}
    {osl : Array (Option Value)} {N ps : List Str} {sp : Sp} (lk : K.lookup f = some ⟨oc, od, .func (PySem.W.fnOf name qual params body scope dV kV doc pm an cdv ct), osl⟩) (hcd : PySem.W.codeIn K cdv qual = true) (S : FnScope N ps scope)
    (len : ∀ vs H Q E, sp vs H Q E → vs.length = ps.length)
    (hbody : ∀ (A : Around) (outer : List Env) (s : Shared) (H : Hp) (vs : List V) (Q : VK) (E : XK), Room k (A.deeper (envOfC qual scope s.heap.objs.size f cdv)) → sp vs H Q E →
      ∃ t, PSs (cxOf CX P w K mg base N qual scope f cdv A outer s H E) body t ∧ t { nx := fun _ H' => Q .non H', rt := Q } (start N vs) H) :
    FnOk P w K mg base CX (k + 1) f (PySem.W.fnOf name qual params body scope dV kV doc pm an cdv ct) ps sp := by
  refine ⟨len, fun A outer s H args us vs Q E hr e0 hb r hsp => ?_⟩
  have hl := len _ _ _ _ hsp
  have KX : K.In s.heap := e0.mod.kin.keeps fun b o e => (e0.bs b o e).1
  have lim : s.heap.NoLimit := e0.mod.nolimit.keeps fun b o e => (e0.bs b o e).1
  have hkind : ∀ y ∈ ps.zip us, scope.names.lookup y.1 = some .local ∨ (scope.names.lookup y.1 = some .cell ∧ ((cellsFrom (s.heap.objs.size + 1) scope.names []).lookup y.1).isSome = true) := fun ⟨n, v⟩ hy => by
    rcases S.par n (List.of_mem_zip hy).1 with q | q
    · exact .inl q
    · exact .inr ⟨q, PySem.W.cellsFrom_some _ _ _ (.inl q)⟩
  refine codeAny_call_function hr.depth (KX _ _ lk) rfl S.co S.gen rfl (PySem.W.codeRec_of KX hcd) (hb _ _ _ _ ?_)
  refine wpAny_newFunctionEnv_cells S.kind hkind fun env he s1 x => ?_
  subst he
  refine ⟨lim.keeps x.toInCall.keep, codeAny_func ?_⟩
  obtain ⟨t, ht, hq⟩ := hbody A outer s H vs Q E (hr.deeper _) hsp
  have I : Inv (cxOf CX P w K mg base N qual scope f cdv A outer s H E) [] (start N vs) H s1 := inv_start S hr.hd e0 hl r x
  refine wpAny_mono (ht [] s1 (start N vs) H _ I hq) (fun fl s' hs => ?_) fun e s' hs => hs
  have fin : ∀ {σ' : St} {H' : Hp} {v : V} {u : Value}, Inv (cxOf CX P w K mg base N qual scope f cdv A outer s H E) [] σ' H' s' → RelV v u → Q v H' → CE outer P w H s Q u s' :=
    fun {σ' H' v u} J rv q => ⟨v, H', J.os, J.bare, J.base, J.hok, rv, q⟩
  cases fl with
  | ret u =>
    obtain ⟨v, σ', H', J, rv, q⟩ := hs
    exact fin J rv q
  | next =>
    obtain ⟨σ', H', J, q⟩ := hs
    exact fin (v := V.non) (u := Value.none) J rfl q
  | brk =>
    obtain ⟨_, _, _, q⟩ := hs
    exact False.elim q
  | cont =>
    obtain ⟨_, _, _, q⟩ := hs
    exact False.elim q
end L2

namespace L2
open PySem PySem.Spec PyProof.Rows
section
variable {X : Cx} {x : Str} {p pos : Pos} {e : Expr} {es : List Expr} {t : TA} {id T : String} {r : List V → Hp → VK → Prop}

def tCB (r : List V → Hp → VK → Prop) (t : TA) : TE := fun σ H Q => t σ H fun vs H1 => r vs H1 Q
theorem pe_callB (hc : CallR X (.builtin id) r) (hg : Gl X x) (hm : X.mg x = none) (hv : bootBuiltins x = some (.builtin id)) (ha : PA X (e :: es) t) (hn : x ≠ "__name__" := by decide) (hdb : (x == ("__debug__" : Str)) = false := by decide)
    (he : starEach (e :: es) X.env = (false, eval e X.env) :: starEach es X.env := by rfl) (hpl : (backTo pos (starEach es X.env)).any (·.1) = false := by rfl) : PE X (.Call (.Name x p) (e :: es) [] pos) (tCB r t) := by
  intro pins s σ H Q I h
  refine wpAny_Call_Name_kw (ld_blt I hg hm hv ?_ hn hdb)
  exact PyProof.Rows.callWith_builtin1 (thn (ha pos pins s σ H _ I h) fun us s1 ⟨vs, H1, I1, r1, q1⟩ => hc pins s1 σ H1 vs us Q I1 r1 q1) he hpl
theorem pe_callTy (hc : CallR X (.type T) r) (hg : Gl X x) (hm : X.mg x = none) (hv : bootBuiltins x = some (.type T)) (ha : PA X (e :: es) t) (hn : x ≠ "__name__" := by decide) (hdb : (x == ("__debug__" : Str)) = false := by decide)
    (he : starEach (e :: es) X.env = (false, eval e X.env) :: starEach es X.env := by rfl) (hpl : (backTo pos (starEach es X.env)).any (·.1) = false := by rfl) : PE X (.Call (.Name x p) (e :: es) [] pos) (tCB r t) := by
  intro pins s σ H Q I h
  refine wpAny_Call_Name_kw (ld_blt I hg hm hv ?_ hn hdb)
  exact PyProof.Rows.callWith_type1 (thn (ha pos pins s σ H _ I h) fun us s1 ⟨vs, H1, I1, r1, q1⟩ => hc pins s1 σ H1 vs us Q I1 r1 q1) he hpl
end
end L2

namespace HT
open PySem PyProof.Rows

section
open PySem.SeqAt
open PySem.AutoSeq1 (wpAny_loadPart')
open PySem.MeetsSeq PySem.MeetsSeq2 PySem.MeetsSeq3

end

section
variable {prog : Program} {w : World} {A : Around} {E : Value → Shared → Prop} {s : Shared}

theorem cat_tup {t b : Addr} {vs ws : List Value} {Q : Value → Shared → Prop} (ht : IsTup s.heap t vs.toArray) (hb : IsTup s.heap b ws.toArray) (hv : vs ≠ [])
    (h1 : ws = [] → Q (.ref t) s) (h2 : ws ≠ [] → Q (.ref s.heap.objs.size) { s with heap := s.heap.push { cls := .type "tuple", data := .seq (vs ++ ws).toArray } })
    (hsz : vs.length + ws.length ≤ sizeLine) : wpAny (model prog w) A (binaryOp .Add (.ref t) (.ref b)) Q E s := by
  obtain ⟨⟨cls, dd, data, sl⟩, ho, hc, n, hd⟩ := id ht
  obtain ⟨⟨cls2, dd2, data2, sl2⟩, ho2, hc2, n2, hd2⟩ := id hb
  simp only at hc hd hc2 hd2
  subst hc hd hc2 hd2
  have e : vs.toArray ++ ws.toArray = (vs ++ ws).toArray := by simp
  by_cases hw : ws = []
  · exact concat_meets ⟨_, ho, rfl⟩ ⟨_, ho2, rfl⟩ noFill_tuple_add seq_tuple_add PySem.F.slot_tuple_add PySem.F.entry_tuple_add (PySem.F.args_tuple_add_2 _ _)
      (tuple_addW1 t b vs.toArray ws.toArray n n2 dd dd2 sl sl2 (by simpa using hv) (by simp [hw])) ⟨ho, ho2, h1 hw⟩
  · refine concat_meets ⟨_, ho, rfl⟩ ⟨_, ho2, rfl⟩ noFill_tuple_add seq_tuple_add PySem.F.slot_tuple_add PySem.F.entry_tuple_add (PySem.F.args_tuple_add_2 _ _)
      (tuple_addW2 t b vs.toArray ws.toArray n n2 dd dd2 sl sl2 (by simpa using hv) (by simpa using hw) (by rw [List.size_toArray, List.size_toArray]; exact hsz)) ⟨ho, ho2, ?_⟩
    rw [e]
    exact h2 hw

def sIx (n d : Nat) : Option Int → Nat
  | none => d
  | some v => if v < 0 then (v + (n : Int)).toNat else min v.toNat n
theorem sIx_none (n d : Nat) : sIx n d none = d := rfl
theorem sIx_nat (n d k : Nat) : sIx n d (some (k : Int)) = min k n := by
  show (if (k : Int) < 0 then ((k : Int) + (n : Int)).toNat else min (k : Int).toNat n) = min k n
  rw [if_neg (by omega), Int.toNat_natCast]
theorem sIx_le (n d : Nat) (hd : d ≤ n) (o : Option Int) : sIx n d o ≤ n := by
  cases o with
  | none => exact hd
  | some v =>
    show (if v < 0 then (v + (n : Int)).toNat else min v.toNat n) ≤ n
    by_cases hv : v < 0
    · rw [if_pos hv]; omega
    · rw [if_neg hv]; exact Nat.min_le_right _ _
theorem clip_eq (v : Int) (n d : Nat) : (if v < 0 then max (v + (n : Int)) 0 else min v (n : Int)) = ((sIx n d (some v) : Nat) : Int) := by
  show (if v < 0 then max (v + (n : Int)) 0 else min v (n : Int)) = (((if v < 0 then (v + (n : Int)).toNat else min v.toNat n) : Nat) : Int)
  by_cases hv : v < 0
  · simp only [if_pos hv]; omega
  · simp only [if_neg hv]; omega
theorem adjust_gen (lo hi : Option Int) (n : Nat) : Builtin.Slice.sliceAdjust lo hi 1 (n : Int) = (((sIx n 0 lo : Nat) : Int), ((sIx n n hi : Nat) : Int)) := by
  have h1 : ¬ ((1 : Int) < 0) := by omega
  unfold Builtin.Slice.sliceAdjust
  simp only [h1, if_false]
  refine Prod.ext ?_ ?_
  · cases lo with
    | none => rfl
    | some v => exact clip_eq v n 0
  · cases hi with
    | none => rfl
    | some v => exact clip_eq v n n
theorem places_gen (i j : Nat) : Builtin.Slice.slicePlaces (i : Int) (j : Int) 1 = j - i := by
  unfold Builtin.Slice.slicePlaces
  have h1 : (1 : Int) > 0 := by omega
  simp only [h1, if_true, Int.ediv_one]
  split <;> omega
theorem slicePart_ {v : Value} {o : Option Int} {Q : Option Int → Shared → Prop} (p : IsPart v o) (h : Q o s) : wpAny (model prog w) A (Builtin.Slice.slicePartIndex v) Q E s := by
  cases p with
  | none => exact slicePart_none h
  | int i t => exact slicePart_int h
theorem sliceApplied_gen {sl : Addr} {vl vu : Value} {lo hi : Option Int} {n : Nat} {Q : Int × Int × Nat → Shared → Prop} (hs : s.heap.IsSliceOf sl vl vu .none) (pl : IsPart vl lo) (pu : IsPart vu hi)
    (h : Q (((sIx n 0 lo : Nat) : Int), 1, sIx n n hi - sIx n 0 lo) s) : wpAny (model prog w) A (Builtin.Slice.sliceApplied (.ref sl) (pure (n : Int))) Q E s := by
  obtain ⟨os, hos, hcs, hds⟩ := id hs
  unfold Builtin.Slice.sliceApplied Builtin.Slice.sliceFields
  refine wpAny_bind (wpAny_bind (wpAny_field hos hds (x := vl) rfl (wpAny_bind (wpAny_field hos hds (x := vu) rfl (wpAny_bind (wpAny_field hos hds (x := .none) rfl (wpAny_pure ?_)))))))
  refine wpAny_bind (slicePart_none ?_)
  show wpAny _ _ (if ((1 : Int) == 0) = true then _ else _) _ _ s
  rw [if_neg (by decide)]
  refine wpAny_bind (slicePart_ pl (wpAny_bind (slicePart_ pu (wpAny_bind (wpAny_pure ?_)))))
  show wpAny _ _ (match Builtin.Slice.sliceAdjust lo hi 1 (n : Int) with | (lo, hi) => pure (lo, (1 : Int), Builtin.Slice.slicePlaces lo hi 1)) _ _ s
  rw [adjust_gen lo hi n]
  show wpAny _ _ (pure (((sIx n 0 lo : Nat) : Int), (1 : Int), Builtin.Slice.slicePlaces ((sIx n 0 lo : Nat) : Int) ((sIx n n hi : Nat) : Int) 1)) _ _ s
  rw [places_gen]
  exact wpAny_pure h
theorem pick_gen (xs : Array Value) (i k : Nat) : ((List.range k).filterMap fun (m : Nat) => xs[((i : Int) + (m : Int) * 1).toNat]?).toArray = ((xs.toList.drop i).take k).toArray := by
  have e : (fun (m : Nat) => xs[((i : Int) + (m : Int) * 1).toNat]?) = fun m => xs[i + m]? := by
    funext m
    have : ((i : Int) + (m : Int) * 1).toNat = i + m := by omega
    rw [this]
  rw [e]
  have := pick_run xs i k
  rw [List.filterMap_map] at this
  have e2 : ((fun x => xs[x]?) ∘ fun x => i + x) = fun m => xs[i + m]? := rfl
  rw [e2] at this
  rw [this]

theorem getItem_tuple_cut {t sl : Addr} {items : Array Value} {vl vu : Value} {lo hi : Option Int} {Q : Value → Shared → Prop} (ht : IsTup s.heap t items) (hs : s.heap.IsSliceOf sl vl vu .none) (pl : IsPart vl lo) (pu : IsPart vu hi)
    (hw : ¬ (sIx items.size 0 lo = 0 ∧ sIx items.size items.size hi = items.size))
    (h : Q (.ref s.heap.objs.size) { s with heap := s.heap.push { cls := .type "tuple", data := .seq ((items.toList.drop (sIx items.size 0 lo)).take (sIx items.size items.size hi - sIx items.size 0 lo)).toArray } })
    (hsz : items.size ≤ sizeLine) : wpAny (model prog w) A (getItem (.ref t) (.ref sl)) Q E s := by
  have htake : sizeOk (.seq ((items.toList.drop (sIx items.size 0 lo)).take (sIx items.size items.size hi - sIx items.size 0 lo)).toArray) := by
    show ((items.toList.drop (sIx items.size 0 lo)).take (sIx items.size items.size hi - sIx items.size 0 lo)).toArray.size ≤ sizeLine
    rw [List.size_toArray, List.length_take, List.length_drop, Array.length_toList]
    omega
  have hj : sIx items.size items.size hi ≤ items.size := sIx_le _ _ (Nat.le_refl _) hi
  obtain ⟨os, hos, hcs, hds⟩ := id hs
  have hTs : s.TypeIs (.ref sl) "slice" := ⟨os, hos, hcs⟩
  unfold getItem
  try with_reducible refine wpAny_holding ?_
  first | refine wpAny_bind (wpAny_pure ?_) | skip
  refine wpAny_bind (wpAny_sequenceKey ht.typeIs (by decide) ?_)
  refine wpAny_bind (wpAny_callSpecial?_slot (name := Str.ofString "__getitem__") ht.typeIs PyProof.Rows.slot_tuple_getitem
    (wpAny_call_entry PyProof.Rows.slot_tuple_getitem ht.typeIs entry_tuple_getitem ?_ (args_tuple_getitem _ _)))
  show wpAny _ _ (Builtin.Tuple.tupleItemsOf (.ref t) >>= _) _ _ s
  refine wpAny_bind (tupleItemsOf_ ht ?_)
  refine wpAny_bind (wpAny_typeOf hTs ?_)
  rw [if_pos (by decide)]
  refine wpAny_bind (sliceApplied_gen hs pl pu ?_)
  have hno : ¬ ((((sIx items.size 0 lo : Nat) : Int) == 0 && (1 : Int) == 1 && (sIx items.size items.size hi - sIx items.size 0 lo) == items.size) = true) := by
    intro q
    rw [Bool.and_eq_true, Bool.and_eq_true] at q
    have q1 : ((sIx items.size 0 lo : Nat) : Int) = 0 := eq_of_beq q.1.1
    have q2 : sIx items.size items.size hi - sIx items.size 0 lo = items.size := eq_of_beq q.2
    exact hw ⟨by omega, by omega⟩
  show wpAny _ _ (if (((sIx items.size 0 lo : Nat) : Int) == 0 && (1 : Int) == 1 && (sIx items.size items.size hi - sIx items.size 0 lo) == items.size) = true then _ else _) _ _ s
  rw [if_neg hno, pick_gen]
  first
    | exact wpAny_bind (m := Builtin.Tuple.tupleExact _) (wpAny_newObj_type (wpAny_pure ⟨_, rfl, wpAny_pure h⟩) htake)
    | exact wpAny_bind (m := Builtin.Tuple.tupleExact _) (wpAny_newObj_type (wpAny_bind (wpAny_pure (wpAny_pure ⟨_, rfl, wpAny_pure h⟩))) htake)
    | exact wpAny_bind (wpAny_bind (m := Builtin.Tuple.tupleExact _) (wpAny_newObj_type (wpAny_pure (wpAny_pure ⟨_, rfl, wpAny_pure h⟩)) htake))
    | exact wpAny_bind (wpAny_bind (m := Builtin.Tuple.tupleExact _) (wpAny_newObj_type (wpAny_pure ⟨_, rfl, wpAny_pure h⟩) htake))
end
end HT

namespace L2
open PySem PySem.Spec PyProof.Rows

abbrev TO := St → Hp → (Option Int → Hp → Prop) → Prop
def PO (X : Cx) (e : Option Expr) (t : TO) : Prop :=
  ∀ (pins : List (Addr × Obj)) (s : Shared) (σ : St) (H : Hp) (Q : Option Int → Hp → Prop), Inv X pins σ H s → t σ H Q →
    wpAny (model X.prog X.w) X.A (evalPart e X.env) (fun u s' => ∃ o H', Inv X pins σ H' s' ∧ IsPart u o ∧ Q o H') X.xe s
def tNoPart : TO := fun _ H Q => Q none H
def tPart (t : TE) : TO := fun σ H Q => t σ H fun x H1 => ∃ i, x = .int i ∧ Q (some i) H1

section
variable {X : Cx} {e : Expr} {te : TE} {lo hi : Option Expr} {tl th : TO} {pos p2 : Pos}

theorem po_none : PO X none tNoPart := by
  intro pins s σ H Q I h
  rw [evalPart_none]
  exact wpAny_pure ⟨none, H, I, .none, h⟩
theorem po_some (h : PE X e te) : PO X (some e) (tPart te) := by
  intro pins s σ H Q I hw
  rw [evalPart_some]
  refine thn (h pins s σ H _ I hw) fun u s1 ⟨x, H1, I1, r1, q1⟩ => ?_
  obtain ⟨i, rfl, q⟩ := q1
  obtain ⟨t, rfl⟩ := r1
  exact ⟨some i, H1, I1, .int i t, q⟩

def SlR (X : Cx) (r : V → Option Int → Option Int → Hp → VK → Prop) : Prop :=
  ∀ (pins : List (Addr × Obj)) (s : Shared) (σ : St) (H : Hp) (x : V) (v vl vu : Value) (lo hi : Option Int) (sl : Addr) (Q : VK), Inv X pins σ H s → RelV x v → s.heap.IsSliceOf sl vl vu .none → IsPart vl lo → IsPart vu hi → r x lo hi H Q →
    ∃ T id, typeLookup (.type T) "__getitem__" = pure (some (.builtin id)) ∧ s.TypeIs v T ∧ wpAny (model X.prog X.w) X.A (getItem v (.ref sl)) (EP X pins σ Q) X.xe s
theorem SlR.or {r r' : V → Option Int → Option Int → Hp → VK → Prop} (h : SlR X r) (h' : SlR X r') : SlR X (fun x lo hi H Q => r x lo hi H Q ∨ r' x lo hi H Q) := by
  intro pins s σ H x v vl vu lo hi sl Q I rx hs pl pu q
  rcases q with q | q
  · exact h pins s σ H x v vl vu lo hi sl Q I rx hs pl pu q
  · exact h' pins s σ H x v vl vu lo hi sl Q I rx hs pl pu q
def tSl (r : V → Option Int → Option Int → Hp → VK → Prop) (te : TE) (tl th : TO) : TE := fun σ H Q => te σ H fun x H1 => tl σ H1 fun l H2 => th σ H2 fun u H3 => r x l u H3 Q
theorem pe_slice {r : V → Option Int → Option Int → Hp → VK → Prop} (hr : SlR X r) (he : PE X e te) (hl : PO X lo tl) (hu : PO X hi th) : PE X (.Subscript e (.Slice lo hi none p2) pos) (tSl r te tl th) := by
  intro pins s σ H Q I h
  refine Subscript_ (thn (he pins s σ H _ I h) fun v s1 ⟨x, H1, I1, r1, q1⟩ => ?_)
  refine wpAny_Slice (thn (hl pins s1 σ H1 _ I1 q1) fun vl s2 ⟨l, H2, I2, pl, q2⟩ => thn (hu pins s2 σ H2 _ I2 q2) fun vu s3 ⟨u, H3, I3, pu, q3⟩ => ?_)
  rw [evalPart_none]
  refine wpAny_pure ?_
  have I4 : Inv X pins σ H3 { s3 with heap := s3.heap.push { cls := .type "slice", data := .fields #[vl, vu, .none] } } := I3.kept (t' := s3.toks) fun b ob q => Heap.get?_push_of_some _ q
  obtain ⟨T, id, hT, ht, hg⟩ := hr pins { s3 with heap := s3.heap.push { cls := .type "slice", data := .fields #[vl, vu, .none] } } σ H3 x v vl vu l u s3.heap.objs.size Q I4 r1 (Heap.IsSliceOf.new ..) pl pu q3
  show wpAny (model X.prog X.w) X.A (subscriptTail e (.Slice lo hi none p2) v (.ref s3.heap.objs.size)) (EP X pins σ Q) X.xe { s3 with heap := s3.heap.push { cls := .type "slice", data := .fields #[vl, vu, .none] } }
  exact tail_any (ops := [.ref s3.heap.objs.size, v]) ht hT hg (by with_unfolding_all rfl)

def cutV (xs : List V) (lo hi : Option Int) : List V := (xs.drop (HT.sIx xs.length 0 lo)).take (HT.sIx xs.length xs.length hi - HT.sIx xs.length 0 lo)
theorem cutV_length (xs : List V) (lo hi : Option Int) : (cutV xs lo hi).length ≤ xs.length := by
  unfold cutV
  rw [List.length_take, List.length_drop]
  omega
def rSlT (K : PySem.W.Frag) : V → Option Int → Option Int → Hp → VK → Prop := fun x lo hi H Q => ∃ a xs, x = .ref a ∧ SqT K H a xs ∧
  ¬ (HT.sIx xs.length 0 lo = 0 ∧ HT.sIx xs.length xs.length hi = xs.length) ∧ ∀ p, H p = none → Q (.ref p) (upd H p (.tup (cutV xs lo hi)))
theorem sl_tup : SlR X (rSlT X.K) := by
  intro pins s σ H x v vl vu lo hi sl Q I rx hs pl pu h
  obtain ⟨a, xs, rfl, hx, hw, q⟩ := h
  cases rx
  obtain ⟨its, r, ht, hz⟩ := I.tuple hx
  have hlen : its.toArray.size = xs.length := by rw [List.size_toArray]; exact r.length.symm
  refine ⟨"tuple", _, PyProof.Rows.slot_tuple_getitem.lookup, ht.typeIs, ?_⟩
  refine HT.getItem_tuple_cut ht hs pl pu (by rw [hlen]; exact hw) ?_ (by rw [hlen]; exact hz)
  rw [hlen]
  refine ⟨.ref s.heap.objs.size, _, I.laid (t' := s.toks) (o := .tup (cutV xs lo hi)) (fun b ob q => Heap.get?_push_of_some _ q) (Nat.le_refl _) ?_, rfl, q _ (I.hok.fresh (Nat.le_refl _))⟩
  exact ⟨Nat.le_trans (cutV_length xs lo hi) hz, _, (r.drop (HT.sIx xs.length 0 lo)).take (HT.sIx xs.length xs.length hi - HT.sIx xs.length 0 lo), IsTup.new _ _⟩

def rCatT (K : PySem.W.Frag) : R2 := fun x y H Q => ∃ a b xs ys, x = .ref a ∧ y = .ref b ∧ SqT K H a xs ∧ SqT K H b ys ∧ xs ≠ [] ∧ xs.length + ys.length ≤ sizeLine ∧
  (ys = [] → Q (.ref a) H) ∧ (ys ≠ [] → ∀ p, H p = none → Q (.ref p) (upd H p (.tup (xs ++ ys))))
theorem Vals.nil_iff {xs : List V} {us : List Value} (r : Vals xs us) : us = [] ↔ xs = [] := by
  cases r with
  | nil => simp
  | cons _ _ => simp
theorem op_catT : OpR X (binaryOp .Add) (rCatT X.K) := by
  intro pins s σ H x y v u Q I rx ry h
  obtain ⟨a, b, xs, ys, rfl, rfl, ha, hb, hx, hz, q1, q2⟩ := h
  cases rx
  cases ry
  obtain ⟨its, r1, p1, _⟩ := I.tuple ha
  obtain ⟨its2, r2, p2, _⟩ := I.tuple hb
  refine HT.cat_tup p1 p2 (fun z => hx (r1.nil_iff.mp z)) (fun z => ⟨.ref a, H, I, rfl, q1 (r2.nil_iff.mp z)⟩) (fun z => ?_) (by rw [← r1.length, ← r2.length]; exact hz)
  refine ⟨.ref s.heap.objs.size, _, I.laid (t' := s.toks) (o := .tup (xs ++ ys)) (fun b ob q => Heap.get?_push_of_some _ q) (Nat.le_refl _) ?_, rfl, q2 (fun w => z (r2.nil_iff.mpr w)) _ (I.hok.fresh (Nat.le_refl _))⟩
  exact ⟨by rw [List.length_append]; exact hz, _, r1.append r2, IsTup.new _ _⟩
end
end L2

namespace L2
open PySem PySem.Spec PyProof.Rows

def ixN (n : Nat) (i : Int) : Option Nat := if 0 ≤ i then (if i < n then some i.toNat else none) else if -(n : Int) ≤ i then some (i + n).toNat else none
def atI {α : Type} (xs : List α) (i : Int) : Option α := (ixN xs.length i).bind fun j => xs[j]?
theorem ixN_seq {n : Nat} {i : Int} {j : Nat} (h : ixN n i = some j) : seqIndex? i n = some j ∧ j < n ∧ -(n : Int) ≤ i ∧ i < n := by
  unfold ixN at h
  by_cases h0 : 0 ≤ i
  · rw [if_pos h0] at h
    by_cases h1 : i < n
    · rw [if_pos h1] at h
      have e : i.toNat = j := Option.some.inj h
      exact ⟨by rw [seqIndex_of h0 h1, e], by omega, by omega, h1⟩
    · rw [if_neg h1] at h; cases h
  · rw [if_neg h0] at h
    by_cases h1 : -(n : Int) ≤ i
    · rw [if_pos h1] at h
      have e : (i + n).toNat = j := Option.some.inj h
      exact ⟨by rw [seqIndex_neg (by omega) h1, e], by omega, h1, by omega⟩
    · rw [if_neg h1] at h; cases h
theorem atI_get {α : Type} {xs : List α} {i : Int} {v : α} (h : atI xs i = some v) : ∃ j, seqIndex? i xs.length = some j ∧ xs[j]? = some v ∧ j < xs.length ∧ -(xs.length : Int) ≤ i ∧ i < xs.length := by
  unfold atI at h
  cases e : ixN xs.length i with
  | none => rw [e] at h; cases h
  | some j =>
    rw [e] at h
    obtain ⟨h1, h2, h3, h4⟩ := ixN_seq e
    exact ⟨j, h1, h, h2, h3, h4⟩
theorem atI_nat {α : Type} {xs : List α} {j : Nat} {v : α} (h : xs[j]? = some v) : atI xs (j : Int) = some v := by
  have hj : j < xs.length := (List.getElem?_eq_some_iff.mp h).1
  have e : ixN xs.length (j : Int) = some j := by
    unfold ixN
    rw [if_pos (by omega), if_pos (by omega)]; simp
  unfold atI; rw [e]; exact h
theorem atI_last {α : Type} (xs : List α) (v : α) : atI (xs ++ [v]) (-1) = some v := by
  have hl : (xs ++ [v]).length = xs.length + 1 := by simp
  have e : ixN (xs ++ [v]).length (-1) = some xs.length := by
    unfold ixN
    rw [hl, if_neg (by decide), if_pos (by omega)]
    congr 1
    omega
  unfold atI
  rw [e]
  show (xs ++ [v])[xs.length]? = some v
  simp

def PlainIx (b : Expr) : Prop := ∀ o i, subscripted b false o i = operate [o, i] (getItem o i)
def IxR (X : Cx) (r : R2) : Prop :=
  ∀ (value slice : Expr) (pins : List (Addr × Obj)) (s : Shared) (σ : St) (H : Hp) (x y : V) (v u : Value) (Q : VK), Inv X pins σ H s → RelV x v → RelV y u → r x y H Q →
    subscripted slice false v u = operate [v, u] (getItem v u) → wpAny (model X.prog X.w) X.A (subscriptTail value slice v u) (EP X pins σ Q) X.xe s
def MtR (X : Cx) (id : String) (r : V → List V → Hp → VK → Prop) : Prop :=
  ∀ (pins : List (Addr × Obj)) (s : Shared) (σ : St) (H : Hp) (x : V) (xs : List V) (v : Value) (us : List Value) (Q : VK), Inv X pins σ H s → RelV x v → Vals xs us → r x xs H Q →
    wpAny (model X.prog X.w) X.A (call (.builtin id) (v :: us)) (EP X pins σ Q) X.xe s
section
variable {X : Cx} {a b : Expr} {ta tb : TE} {pos : Pos}
theorem IxR.or {r r' : R2} (h : IxR X r) (h' : IxR X r') : IxR X (fun x y H Q => r x y H Q ∨ r' x y H Q) := by
  intro value slice pins s σ H x y v u Q I rx ry q hs
  rcases q with q | q
  · exact h value slice pins s σ H x y v u Q I rx ry q hs
  · exact h' value slice pins s σ H x y v u Q I rx ry q hs
theorem MtR.or {id : String} {r r' : V → List V → Hp → VK → Prop} (h : MtR X id r) (h' : MtR X id r') : MtR X id (fun x xs H Q => r x xs H Q ∨ r' x xs H Q) := by
  intro pins s σ H x xs v us Q I rx rs q
  rcases q with q | q
  · exact h pins s σ H x xs v us Q I rx rs q
  · exact h' pins s σ H x xs v us Q I rx rs q
theorem pe_ix {r : R2} (hr : IxR X r) (ha : PE X a ta) (hb : PE X b tb) (hs : PlainIx b) : PE X (.Subscript a b pos) (tOp r ta tb) := by
  intro pins s σ H Q I h
  exact Subscript_ (binT ha hb I h fun v u s2 x y H2 I2 rx ry q => hr a b pins s2 σ H2 x y v u Q I2 rx ry q (hs _ _))

def rIxL (K : PySem.W.Frag) : R2 := fun x y H Q => ∃ p xs i v, x = .ref p ∧ y = .int i ∧ SqL K H p xs ∧ atI xs i = some v ∧ Q v H
def rIxT (K : PySem.W.Frag) : R2 := fun x y H Q => ∃ p xs i v, x = .ref p ∧ y = .int i ∧ SqT K H p xs ∧ atI xs i = some v ∧ Q v H
theorem ix_list : IxR X (rIxL X.K) := by
  intro value slice pins s σ H x y v u Q I rx ry h hs
  obtain ⟨p, xs, i, z, rfl, rfl, hq, he, q⟩ := h
  cases rx
  obtain ⟨t, rfl⟩ := ry
  obtain ⟨its, r, pl, hz⟩ := I.list hq
  obtain ⟨j, h1, h2, h3, h4, h5⟩ := atI_get he
  obtain ⟨w, ew, rw'⟩ := r.get h2
  have hl := r.length
  have hn := line63
  have fin : EP X pins σ Q w s := ⟨z, H, I, rw', q⟩
  by_cases h0 : 0 ≤ i
  · have hj : i.toNat = j := by
      rw [seqIndex_of h0 h5] at h1
      exact Option.some.inj h1
    exact item_listR pl.isList h0 (by omega) (by rw [hj]; simpa using ew) fin hs
  · have hj : (i + (its.toArray.size : Int)).toNat = j := by
      rw [seqIndex_neg (by omega) h4] at h1
      rw [List.size_toArray, ← hl]
      exact Option.some.inj h1
    exact subscriptTail_builtinR (x := w) pl.isList.typeIs slot_list_getitem.lookup
      (wpAny_getItem_list_neg (Q := fun r s' => r = w ∧ EP X pins σ Q r s') pl.isList (by omega) (by rw [List.size_toArray] <;> omega) (by omega) (by rw [hj]; simpa using ew) ⟨rfl, fin⟩) hs
theorem ix_tup : IxR X (rIxT X.K) := by
  intro value slice pins s σ H x y v u Q I rx ry h hs
  obtain ⟨p, xs, i, z, rfl, rfl, hq, he, q⟩ := h
  cases rx
  obtain ⟨t, rfl⟩ := ry
  obtain ⟨its, r, pl, hz⟩ := I.tuple hq
  obtain ⟨j, h1, h2, h3, h4, h5⟩ := atI_get he
  obtain ⟨w, ew, rw'⟩ := r.get h2
  have hl := r.length
  have hn := line63
  have fin : EP X pins σ Q w s := ⟨z, H, I, rw', q⟩
  exact subscriptTail_builtinR (x := w) pl.typeIs slot_tuple_getitem.lookup
    (getItem_tuple (j := j) (Q := fun r s' => r = w ∧ EP X pins σ Q r s') pl (by omega) (by omega) (by rw [List.size_toArray, ← hl]; exact h1) (by simpa using ew) ⟨rfl, fin⟩) hs
theorem mapSeq_set (its : List Value) (n j : Nat) (u : Value) : Obj.mapSeq (·.setIfInBounds j u) { cls := .type "list", data := .seq its.toArray n } = { cls := .type "list", data := .seq (its.set j u).toArray n } := by
  simp [Obj.mapSeq]
theorem Inv.lst {pins : List (Addr × Obj)} {σ : St} {H : Hp} {s : Shared} {p : Addr} {xs : List V} (I : Inv X pins σ H s) (h : H p = some (.lst xs)) :
    ∃ (its : List Value) (n : Nat), Vals xs its ∧ s.heap.get? p = some { cls := .type "list", data := .seq its.toArray n } ∧ xs.length ≤ sizeLine := by
  obtain ⟨z, its, n, r, e⟩ := I.hok p _ h
  exact ⟨its, n, r, e, z⟩
theorem Inv.lstUpd {pins : List (Addr × Obj)} {σ : St} {H : Hp} {s : Shared} {p : Addr} {xs ys : List V} {its its' : List Value} {n n' : Nat} {f : Obj → Obj} (I : Inv X pins σ H s) (h : H p = some (.lst xs))
    (ho : s.heap.get? p = some { cls := .type "list", data := .seq its.toArray n }) (hf : f { cls := .type "list", data := .seq its.toArray n } = { cls := .type "list", data := .seq its'.toArray n' }) (r : Vals ys its') (hz : ys.length ≤ sizeLine) (t : Nat) :
    Inv X pins σ (upd H p (.lst ys)) { s with heap := s.heap.update p f, toks := t } := by
  have e : (s.heap.update p f).get? p = some { cls := .type "list", data := .seq its'.toArray n' } := by
    rw [Heap.get?_update_self f ho (by rw [hf] <;> rfl), hf]
  refine I.write (x := p) (e := p) (by rw [h]; trivial) (.inl rfl) (fun b u hb q => (Heap.get?_update_other _ _ (Ne.symm hb)).trans q) ⟨_, e⟩ ?_
  exact ⟨hz, its', n', r, e⟩
def rSetL : V → V → V → Hp → (Hp → Prop) → Prop := fun o i v H Q => ∃ p xs k j, o = .ref p ∧ i = .int k ∧ H p = some (.lst xs) ∧ ixN xs.length k = some j ∧ Q (upd H p (.lst (xs.set j v)))
theorem set_list : PSet X rSetL := by
  intro pins s σ H o i v ov iv u Q I ro ri rv h
  obtain ⟨p, xs, k, j, rfl, rfl, hp, hj, q⟩ := h
  cases ro
  obtain ⟨t, rfl⟩ := ri
  obtain ⟨its, n, r, ho, hz⟩ := I.lst hp
  obtain ⟨h1, h2, h3, h4⟩ := ixN_seq hj
  have hl := r.length
  have hn := line63
  have I' : Inv X pins σ (upd H p (.lst (xs.set j v))) { s with heap := s.heap.update p (Obj.mapSeq (·.setIfInBounds j u)) } :=
    I.lstUpd hp ho (mapSeq_set its n j u) (r.set rv j) (by rw [List.length_set]; exact hz) s.toks
  by_cases h0 : 0 ≤ k
  · have hk : k.toNat = j := by
      rw [seqIndex_of h0 h4] at h1
      exact Option.some.inj h1
    exact PySem.W.ki_setAt ho h0 (by omega) (by rw [List.size_toArray, ← hl]; exact h4) (by rw [hk]; exact ⟨_, I', q⟩)
  · have hk : (k + (its.toArray.size : Int)).toNat = j := by
      rw [seqIndex_neg (by omega) h3] at h1
      rw [List.size_toArray, ← hl]
      exact Option.some.inj h1
    exact PySem.W.ki_setBack ho (by omega) (by rw [List.size_toArray, ← hl]; exact h3) (by omega) (by rw [hk]; exact ⟨_, I', q⟩)

theorem call_len_seq : CallR X (.builtin "len") (fun xs H Q => ∃ p ys, xs = [.ref p] ∧ (SqL X.K H p ys ∨ SqT X.K H p ys) ∧ Q (.int ys.length) H) := by
  intro pins s σ H xs us Q I r h
  obtain ⟨p, ys, rfl, hq, q⟩ := h
  obtain ⟨u, rfl, rx⟩ := vals1 r
  cases rx
  have hn := line63
  rcases hq with hq | hq
  · obtain ⟨its, r', pl, hz⟩ := I.list hq
    have hlen := r'.length
    exact Calls.call_len_list pl.isList (by simp only [List.size_toArray] <;> omega) ⟨.int ys.length, H, I.tok _, ⟨s.toks + 1, by rw [List.size_toArray, hlen]⟩, q⟩
  · obtain ⟨its, r', pl, hz⟩ := I.tuple hq
    have hlen := r'.length
    exact len_tuple pl (by simp only [List.size_toArray] <;> omega) ⟨.int ys.length, H, I.tok _, ⟨s.toks + 1, by rw [List.size_toArray, hlen]⟩, q⟩
theorem CallR.or {f : Value} {r r' : List V → Hp → VK → Prop} (h : CallR X f r) (h' : CallR X f r') : CallR X f (fun xs H Q => r xs H Q ∨ r' xs H Q) := by
  intro pins s σ H xs us Q I rs q
  rcases q with q | q
  · exact h pins s σ H xs us Q I rs q
  · exact h' pins s σ H xs us Q I rs q
theorem call_list_of : CallR X (.type "list") (fun xs H Q => ∃ p ys, xs = [.ref p] ∧ (SqL X.K H p ys ∨ SqT X.K H p ys) ∧ ∀ l, H l = none → Q (.ref l) (upd H l (.lst ys))) := by
  intro pins s σ H xs us Q I r h
  obtain ⟨p, ys, rfl, hq, q⟩ := h
  obtain ⟨u, rfl, rx⟩ := vals1 r
  cases rx
  have fin : ∀ (its : List Value), Vals ys its → ys.length ≤ sizeLine → ∀ (h' : Heap) (c' : Nat), (∀ b o', s.heap.get? b = some o' → h'.get? b = some o') →
      h'.get? s.heap.objs.size = some { cls := .type "list", dict := none, data := .seq its.toArray c', slots := #[] } → EP X pins σ Q (.ref s.heap.objs.size) { s with heap := h' } := fun its r' hz h' c' kp e =>
    ⟨.ref s.heap.objs.size, _, I.laid (t' := s.toks) kp (Nat.le_refl _) (show ObjOk X.prog X.w _ h' _ (.lst ys) from ⟨hz, its, c', r', e⟩), rfl, q _ (I.hok.fresh (Nat.le_refl _))⟩
  rcases hq with hq | hq
  · obtain ⟨its, r', pl, hz⟩ := I.list hq
    have hlen := r'.length
    obtain ⟨o, ho, hc, n, hd⟩ := pl.isList
    exact call_list_seq p (.inl rfl) ho hc hd (fun h' c' kp e => fin its r' hz h' c' kp e) (by simp only [List.size_toArray] <;> omega)
  · obtain ⟨its, r', pl, hz⟩ := I.tuple hq
    have hlen := r'.length
    obtain ⟨o, ho, hc, n, hd⟩ := pl
    exact call_list_seq p (.inr rfl) ho hc hd (fun h' c' kp e => fin its r' hz h' c' kp e) (by simp only [List.size_toArray] <;> omega)
theorem call_tuple_of : CallR X (.type "tuple") (fun xs H Q => ∃ p ys, xs = [.ref p] ∧ ((SqL X.K H p ys ∧ ∀ l, H l = none → Q (.ref l) (upd H l (.tup ys))) ∨ (SqT X.K H p ys ∧ Q (.ref p) H))) := by
  intro pins s σ H xs us Q I r h
  obtain ⟨p, ys, rfl, h⟩ := h
  obtain ⟨u, rfl, rx⟩ := vals1 r
  cases rx
  rcases h with ⟨hq, q⟩ | ⟨hq, q⟩
  · obtain ⟨its, r', pl, hz⟩ := I.list hq
    have hlen := r'.length
    refine call_tuple_list pl.isList (fun h' kp => ?_) (by simp only [List.size_toArray] <;> omega)
    have I1 : Inv X pins σ H { s with heap := h' } := I.kept (t' := s.toks) kp
    have I2 : Inv X pins σ (upd H h'.objs.size (.tup ys)) { s with heap := h'.push { cls := .type "tuple", data := .seq its.toArray } } :=
      I1.laid (t' := s.toks) (fun b o e => Heap.get?_push_of_some _ e) (Nat.le_refl _) (show ObjOk X.prog X.w _ _ _ (.tup ys) from ⟨hz, its, r', IsTup.new _ _⟩)
    exact ⟨.ref h'.objs.size, _, I2, rfl, q _ (I1.hok.fresh (Nat.le_refl _))⟩
  · obtain ⟨its, r', pl, hz⟩ := I.tuple hq
    exact call_tuple_same pl ⟨.ref p, H, I, rfl, q⟩

def tyV (K : PySem.W.Frag) (T : String) (x : V) (H : Hp) : Prop := match x with
  | .str _ => T = "str"
  | .int _ => T = "int"
  | .ref p => (T = "list" ∧ ∃ xs, SqL K H p xs) ∨ (T = "tuple" ∧ ∃ o, K.lookup p = some o ∧ o.cls = .type "tuple" ∧ o.dict = none) ∨
      (T = "dict" ∧ ((∃ kvs, H p = some (.dK kvs)) ∨ ∃ kvs, H p = some (.dT kvs))) ∨ (T = "set" ∧ ∃ S n, H p = some (.set S n))
  | _ => False
theorem tyV_is {pins : List (Addr × Obj)} {σ : St} {H : Hp} {s : Shared} {T : String} {x : V} {v : Value} (I : Inv X pins σ H s) (r : RelV x v) (ty : tyV X.K T x H) :
    s.TypeIs v T ∧ ∀ a, v = .ref a → ∃ ob, s.heap.get? a = some ob ∧ ob.dict = none := by
  cases x with
  | str z =>
    obtain ⟨t, rfl⟩ := r
    cases (show T = "str" from ty)
    exact ⟨typeIs_str s z t, fun _ e => nomatch e⟩
  | int i =>
    obtain ⟨t, rfl⟩ := r
    cases (show T = "int" from ty)
    exact ⟨typeIs_int s i t, fun _ e => nomatch e⟩
  | ref p =>
    cases r
    rcases ty with ⟨rfl, xs, hq⟩ | ⟨rfl, o, hk, hc, hd⟩ | ⟨rfl, hk⟩ | ⟨rfl, S, n, hk⟩
    · obtain ⟨its, _, pl, _⟩ := I.list hq
      refine ⟨pl.isList.typeIs, fun a e => ?_⟩
      cases e
      obtain ⟨o, n, e, c, hd, _⟩ := pl
      exact ⟨o, e, hd⟩
    · refine ⟨⟨o, I.kIn p o hk, hc⟩, fun a e => ?_⟩
      cases e
      exact ⟨o, I.kIn _ o hk, hd⟩
    · have z : ∃ o, s.heap.get? p = some o ∧ o.ExactDict := by
        rcases hk with ⟨kvs, hk⟩ | ⟨kvs, hk⟩
        · obtain ⟨_, _, _, _, o, _, _, e, ex, _⟩ := I.hok p _ hk
          exact ⟨o, e, ex⟩
        · obtain ⟨_, _, _, _, o, _, _, e, ex, _⟩ := I.hok p _ hk
          exact ⟨o, e, ex⟩
      obtain ⟨o, e, ex⟩ := z
      refine ⟨⟨o, e, ex.1⟩, fun a e2 => ?_⟩
      cases e2
      exact ⟨o, e, ex.2.1⟩
    · obtain ⟨o, _, _, _, e, ex, _⟩ := I.hok p _ hk
      refine ⟨⟨o, e, ex.1⟩, fun a e2 => ?_⟩
      cases e2
      exact ⟨o, e, ex.2.1⟩
  | _ => exact False.elim ty
def tBM (K : PySem.W.Frag) (T : String) (r : V → List V → Hp → VK → Prop) (to : TE) (t : TA) : TE := fun σ H Q => to σ H fun x H1 => tyV K T x H1 ∧ t σ H1 fun xs H2 => r x xs H2 Q
variable {o e : Expr} {es : List Expr} {to : TE} {t : TA} {name : Str} {apos cpos : Pos} {T id : String} {r : V → List V → Hp → VK → Prop}
theorem pe_bm (pa : PlainAttrs T) (slot : Slot T name id) (hty : typeOf (.builtin id) = pure (.type "method_descriptor")) (hm : MtR X id r) (ho : PE X o to) (ha : PA X (e :: es) t)
    (hbase : attributeBase o name X.env (eval o X.env) = eval o X.env := by rfl)
    (hfew : ((backTo cpos (starEach (e :: es) X.env)).all (fun x => !x.1) && (backToKw cpos (keywordEach [] X.env)).all (fun x => x.1.isSome)
      && decide ((e :: es).length + ([] : List Keyword).length + (if ([] : List Keyword).isEmpty then 0 else 1) < 30)) = true := by rfl)
    (hline : (apos.endLine == cpos.line) = true := by rfl) (hs : starEach (e :: es) X.env = (false, eval e X.env) :: starEach es X.env := by rfl) (hplain : (backTo cpos (starEach es X.env)).any (·.1) = false := by rfl) :
    PE X (.Call (.Attribute o name apos) (e :: es) [] cpos) (tBM X.K T r to t) := by
  intro pins s σ H Q I h
  refine wpAny_Call_method_late hbase hfew hline rfl (thn (ho pins s σ H _ I h) fun v s1 ⟨x, H1, I1, r1, ty, q1⟩ => ?_)
  obtain ⟨h1, h2⟩ := tyV_is I1 r1 ty
  refine ⟨T, id, pa, slot, hty, h1, h2, ?_⟩
  have hA := ha cpos pins s1 σ H1 _ I1 q1
  rw [hs] at hA ⊢
  refine Calls.callWith_builtin (by show (false || (backTo cpos (starEach es X.env)).any (·.1)) = false; rw [hplain] <;> rfl) (Calls.evalArgs_plain ?_)
  exact thn hA fun us s2 ⟨vs, H2, I2, r2, q2⟩ => hm pins s2 σ H2 x vs v us Q I2 r1 r2 q2
/- xs.append(e), list.index on a module's tuple .. are MtR facts of 06m -/
end
end L2

namespace L2
open PySem PySem.Spec PyProof.Rows

def MtM (X : Cx) (id : String) (r : V → List V → Hp → VK → Prop) : Prop :=
  ∀ (pins : List (Addr × Obj)) (s : Shared) (σ : St) (H : Hp) (x : V) (xs : List V) (v : Value) (us : List Value) (Q : VK), Inv X pins σ H s → RelV x v → Vals xs us → r x xs H Q →
    wpAny (model X.prog X.w) X.A (call (.builtin id) (v :: us)) (EP X pins σ Q) X.xe s

theorem Vals.one : ∀ {x : V} {us : List Value}, Vals [x] us → ∃ u, us = [u] ∧ RelV x u
  | _, _, .cons r .nil => ⟨_, rfl, r⟩
theorem Vals.two : ∀ {x y : V} {us : List Value}, Vals [x, y] us → ∃ u v, us = [u, v] ∧ RelV x u ∧ RelV y v
  | _, _, _, .cons r (.cons q .nil) => ⟨_, _, rfl, r, q⟩
theorem Vals.zero : ∀ {us : List Value}, Vals [] us → us = []
  | _, .nil => rfl
theorem Vals.reverse {xs : List V} {us : List Value} (h : Vals xs us) : Vals xs.reverse us.reverse := by
  induction h with
  | nil => exact .nil
  | cons r t ih => rw [List.reverse_cons, List.reverse_cons]; exact Vals.append ih (.cons r .nil)
theorem Vals.rep {xs : List V} {us : List Value} (h : Vals xs us) : ∀ k : Nat, Vals (List.replicate k xs).flatten (List.replicate k us).flatten
  | 0 => .nil
  | k + 1 => by
    rw [List.replicate_succ, List.replicate_succ, List.flatten_cons, List.flatten_cons]
    exact Vals.append h (Vals.rep h k)
theorem foldl_rep (its : List Value) : ∀ (k : Nat) (acc : List Value),
    List.foldl (fun x1 x2 => x1 ++ x2) acc.toArray (List.replicate k its.toArray) = (acc ++ (List.replicate k its).flatten).toArray
  | 0, acc => by simp
  | k + 1, acc => by
    have e : acc.toArray ++ its.toArray = (acc ++ its).toArray := by simp
    have e2 : (acc ++ its) ++ (List.replicate k its).flatten = acc ++ (List.replicate (k + 1) its).flatten := by
      rw [List.replicate_succ, List.flatten_cons, List.append_assoc]
    rw [← e2, ← foldl_rep its k (acc ++ its), ← e, List.replicate_succ, List.foldl_cons]

section
variable {X : Cx} {pins : List (Addr × Obj)} {σ : St} {H : Hp} {s : Shared} {l b : Addr} {xs ys zs : List V}

theorem Inv.lset {its its' : List Value} {n : Nat} {f : Array Value → Array Value} {t' : Nat} (I : Inv X pins σ H s) (hH : H l = some (.lst xs))
    (e : s.heap.get? l = some { cls := .type "list", data := .seq its.toArray n }) (hf : f its.toArray = its'.toArray) (hv : Vals ys its') (hz : ys.length ≤ sizeLine) :
    Inv X pins σ (upd H l (.lst ys)) { s with heap := s.heap.update l (Obj.mapSeq f), toks := t' } := by
  have q := PySem.IsL.update e f
  rw [hf] at q
  refine I.write (x := l) (e := l) (by rw [hH]; exact trivial) (.inl rfl) (fun b' u hb hu => (Heap.get?_update_other s.heap (Obj.mapSeq f) (Ne.symm hb)).trans hu) ⟨_, q⟩ ?_
  exact ⟨hz, its', _, hv, q⟩
theorem Inv.lnew {its : List Value} {t' : Nat} (I : Inv X pins σ H s) (hv : Vals ys its) (hz : ys.length ≤ sizeLine) :
    Inv X pins σ (upd H s.heap.objs.size (.lst ys)) { s with heap := s.heap.push { cls := .type "list", data := .seq its.toArray }, toks := t' } :=
  I.laid (fun _ _ q => Heap.get?_push_of_some _ q) (Nat.le_refl _) ⟨hz, its, 0, hv, Heap.get?_push_size _ rfl⟩
theorem Inv.fresh (I : Inv X pins σ H s) : H s.heap.objs.size = none := I.hok.fresh (Nat.le_refl _)
theorem Inv.lstM (I : Inv X pins σ H s) (hH : H l = some (.lst xs)) : xs.length ≤ sizeLine ∧ ∃ (its : List Value) (n : Nat), Vals xs its ∧ xs.length = its.length ∧ s.heap.get? l = some { cls := .type "list", data := .seq its.toArray n } := by
  obtain ⟨z, its, n, r, e⟩ := I.hok l _ hH
  exact ⟨z, its, n, r, r.length, e⟩

theorem notLongL {n : Nat} (h : n ≤ sizeLine) : Builtin.List.listTooLong n = false := by
  unfold Builtin.List.listTooLong
  exact decide_eq_false (by omega)
end

section
variable {X : Cx}

def rAppend : V → List V → Hp → VK → Prop := fun x vs H Q => ∃ l xs y, x = .ref l ∧ vs = [y] ∧ H l = some (.lst xs) ∧ xs.length < sizeLine ∧ Q .non (upd H l (.lst (xs ++ [y])))
theorem mt_append : MtM X "list.append" rAppend := by
  intro pins s σ H x vs v us Q I rx rv h
  obtain ⟨l, xs, y, rfl, rfl, hH, hz, q⟩ := h
  cases rx
  obtain ⟨u, rfl, ru⟩ := rv.one
  obtain ⟨z, its, n, r, hl, e⟩ := I.lstM hH
  refine call_meets F.slot_list_append ⟨_, e, rfl⟩ F.entry_list_append (F.args_list_append_2 _ _) (PySem.list_append l its.toArray n u (by rw [List.size_toArray]; omega)) ⟨e, ?_⟩
  refine ⟨.non, _, I.lset (its' := its ++ [u]) hH e (by simp) (r.append (.cons ru .nil)) ?_, rfl, q⟩
  rw [List.length_append, List.length_singleton]
  omega

def rCat : R2 := fun x y H Q => ∃ l b xs zs, x = .ref l ∧ y = .ref b ∧ H l = some (.lst xs) ∧ H b = some (.lst zs) ∧ xs.length + zs.length ≤ sizeLine ∧ ∀ p, H p = none → Q (.ref p) (upd H p (.lst (xs ++ zs)))
theorem op_cat : OpR X (binaryOp .Add) rCat := by
  intro pins s σ H x y v u Q I rx ry h
  obtain ⟨l, b, xs, zs, rfl, rfl, hH, hB, hz, q⟩ := h
  cases rx
  cases ry
  obtain ⟨z, its, n, r, hl, e⟩ := I.lstM hH
  obtain ⟨z2, its2, n2, r2, hl2, e2⟩ := I.lstM hB
  refine PySem.P.add_list e e2 ?_ (by rw [List.size_toArray, List.size_toArray]; omega)
  have ea : its.toArray ++ its2.toArray = (its ++ its2).toArray := by simp
  rw [ea]
  exact ⟨.ref _, _, I.lnew (t' := s.toks) (r.append r2) (by rw [List.length_append]; omega), rfl, q _ I.fresh⟩
def rRep : R2 := fun x y H Q => ∃ l k xs, x = .ref l ∧ y = .int k ∧ H l = some (.lst xs) ∧ -(2 ^ 63) ≤ k ∧ k < 2 ^ 63 ∧ xs.length * k.toNat ≤ sizeLine ∧
  ∀ p, H p = none → Q (.ref p) (upd H p (.lst (List.replicate k.toNat xs).flatten))
theorem len_rep {α : Type} (xs : List α) (k : Nat) : (List.replicate k xs).flatten.length = k * xs.length := by
  induction k with
  | zero => simp
  | succ k ih => rw [List.replicate_succ, List.flatten_cons, List.length_append, ih, Nat.succ_mul, Nat.add_comm]
theorem op_rep : OpR X (binaryOp .Mult) rRep := by
  intro pins s σ H x y v u Q I rx ry h
  obtain ⟨l, k, xs, rfl, rfl, hH, h1, h2, hz, q⟩ := h
  cases rx
  obtain ⟨t, rfl⟩ := ry
  obtain ⟨z, its, n, r, hl, e⟩ := I.lstM hH
  have hlen : its.toArray.size * k.toNat ≤ sizeLine := by rw [List.size_toArray, ← hl]; exact hz
  have hcap : ¬ its.toArray.size * k.toNat > (2 ^ 63 - 1) / 8 := by
    have : (sizeLine : Nat) ≤ (2 ^ 63 - 1) / 8 := by decide
    omega
  have hfit : ¬ (!Builtin.List.listFitsIndex k) = true := by
    rw [fitsIndex_both h1 h2]
    exact Bool.false_ne_true
  have hlong : ¬ Builtin.List.listTooLong (its.toArray.size * k.toNat) = true := by
    rw [notLongL hlen]
    exact Bool.false_ne_true
  have hnew : List.foldl (fun x1 x2 => x1 ++ x2) #[] (List.replicate (if its.toArray.isEmpty = true then 0 else k.toNat) its.toArray) = (List.replicate k.toNat its).flatten.toArray := by
    have f0 : ∀ m : Nat, List.foldl (fun x1 x2 => x1 ++ x2) #[] (List.replicate m its.toArray) = (List.replicate m its).flatten.toArray := fun m => by
      have := foldl_rep its m []
      rw [List.nil_append] at this
      exact this
    rw [f0]
    cases its with
    | nil => simp
    | cons a r' => rw [if_neg (by simp)]
  refine wpAny_binaryOp_repeat_ref (T := "list") (U := "int") (by decide) ⟨_, e, rfl⟩ (fun s' => typeIs_int s' k t) noFill_list_mul F.fills_int_mul F.slot_int_rmul repeat_list F.slot_int_index.lookup
    (call_meets F.slot_int_rmul (typeIs_int s k t) F.entry_int_rmul (F.args_int_rmul_2 _ _) (int___rmul___int_list k t l its.toArray n)
      ⟨e, rfl, ⟨_, e, rfl⟩, call_meets F.slot_list_mul ⟨_, e, rfl⟩ F.entry_list_mul (F.args_list_mul_2 _ _) (AutoListH.list___mul___list_int_3 l its.toArray n k t hfit hcap hlong) ⟨e, ?_⟩⟩)
  rw [hnew]
  exact ⟨.ref _, _, I.lnew (t' := s.toks) (r.rep k.toNat) (by rw [len_rep, Nat.mul_comm]; exact hz), rfl, q _ I.fresh⟩

end

section
variable {prog : Program} {w : World} {A : Around} {E : Value → Shared → Prop} {s : Shared}
end

section
variable {X : Cx}
end
end L2

namespace Att
open PySem PySem.W PySem.Calls PyProof.Rows

theorem ints_of_wellAll {P : Params} {h : Heap} : ∀ (ns : List Int) (vs : List Value), WellAll P h vs (ns.map WData.int) → IntsAre vs ns := by
  intro ns
  induction ns with
  | nil =>
    intro vs w
    rw [List.map_nil] at w
    cases w
    exact .nil
  | cons n ns ih =>
    intro vs w
    rw [List.map_cons] at w
    cases w with
    | cons a b =>
      cases a
      exact .cons _ _ (ih _ b)

theorem script_of {l : OpenLaw} {n : Nat} (hn : l.most = some n) {P : Params} {h : Heap} {args : List WData} {vals : List Value}
    (hpre : l.row.toRowW.claim.pre args = true) (hwl : WellAll P h vals args) :
    ∃ a vs ns, vals = [Value.ref a] ∧ args = [WData.list (ns.map WData.int)] ∧ h.get? a = some { cls := .type "list", data := .seq vs.toArray } ∧ IntsAre vs ns ∧ ns.length ≤ n := by
  have hsh : WShape.hasAll [] args [.list .int] = true := (pre_splitW hpre).1
  have hc : l.pre.holds [] { args := args } = true := (pre_splitW hpre).2
  obtain ⟨d, r, rfl, h1, h2⟩ := hasAllW_cons hsh
  obtain rfl := hasAllW_nil h2
  obtain ⟨xs, rfl, h3⟩ := hasW_list h1
  obtain ⟨ns, rfl⟩ := items_int h3
  have hlen : ns.length ≤ n := by
    unfold OpenLaw.pre at hc
    have h4 : (WTm.not (.lt (.lit (.int (n : Int))) (.len (.arg 0)))).holds [] { args := [.list (ns.map .int)] } = true := by
      have h4 := (holds_andW hc).1
      rw [hn] at h4
      exact h4
    have h5 := condW_of h4 (w_not (w_lt w_lit (w_len_list (w_arg rfl))))
    rw [List.length_map] at h5
    refine Nat.le_of_not_lt fun q => ?_
    have q' : (n : Int) < ((ns.length : Nat) : Int) := by omega
    first
      | (rw [decide_eq_true q'] at h5; exact absurd h5 (by decide))
      | (simp at h5; omega)
  cases hwl with
  | cons w1 w2 =>
    cases w2
    cases w1 with
    | list ho hall => exact ⟨_, _, ns, rfl, rfl, ho, ints_of_wellAll ns _ hall, hlen⟩

theorem post_true (l : OpenLaw) (args : List WData) : l.row.toRowW.claim.post args (.bool true) args = true :=
  postW_of (r := l.row.toRowW) (X := (true == true))
    (show WShape.has [] (.bool true) .bool = true by first | rfl | decide | simp [WShape.has, WShape.arms, WShape.armsAll])
    (show (WTm.eq .res (.lit (.bool true))).value [] { args := args, res := some (.bool true), after := args } = some (.bool (true == true)) from w_eq_bool (w_res rfl) w_lit) rfl

theorem attach_call {l : OpenLaw} {n : Nat} {q : Program} {loose : List Str} {XP : (Str → Option Value) → Heap → Prop} {YP : World → Heap → Prop} {d : DefRec}
    (hn : l.most = some n) (hdf : d.params.defaults = [])
    (call : ∀ (w : World) (s₀ s₁ : Shared) (mg mb : Str → Option Value) (fa : Addr) (o : Obj) (pm cd doc : Value) (a : Addr) (vs : List Value) (ns : List Int),
      Ground q loose [] XP w s₀ mg mb s₁.heap → YP w s₁.heap →
      s₁.heap.get? fa = some o → o.data = .func (docDef d.name d.params d.body d.scope pm cd doc) → s₁.heap.CodeRec cd d.name → mg d.name = some (.ref fa) →
      s₁.heap.get? a = some { cls := .type "list", data := .seq vs.toArray } → IntsAre vs ns → ns.length ≤ n → s₁.gens = #[] →
      codeAny (model l.prog w) callerA (.call (.ref fa) ⟨[.ref a], []⟩) (fun r s' => r = .ok (.ret (.bool true)) ∧ OldK s₁.heap s'.heap ∧ s'.os = s₁.os ∧ AllBare s'.gens) s₁) :
    WalkO q loose XP YP l.row.toRowW d [] (fun f vs => PySem.call f vs) := by
  intro w s₀ s₁ mg mb G Y fa o pm cd doc dV kV ho hd hcd hD hmg hg args vals as hpre hlay hrd hwl hlo
  obtain rfl : dV = .none := Dflts.none hD hdf
  obtain rfl : kV = .none := Dflts.noKw hD
  obtain ⟨a, vs, ns, rfl, rfl, hobj, hints, hlen⟩ := script_of hn hpre hwl
  refine enter_call (codeAny_mono (call w s₀ s₁ mg mb fa o pm cd doc a vs ns G Y ho (fd_plain hd) hcd hmg hobj hints hlen hg) fun r s' hq => ?_)
  obtain ⟨rfl, h2, h3, h4⟩ := hq
  exact ⟨.inl ⟨.bool true, .bool true, [], rfl, fun _ => rfl, .bool true, post_true l _, fun _ => ⟨List.Pairwise.nil, fun _ hm => (nomatch hm)⟩⟩, h2, h3, h4⟩

section
variable {prog : Program} {w : World} {A : Around} {E : Value → Shared → Prop} {s : Shared} {K : Frag}

end
end Att

namespace L2
open PySem PySem.Spec PyProof.Rows

theorem vals_ints : ∀ {vs : List Value} {ns : List Int}, IntsAre vs ns → Vals (ns.map V.int) vs
  | _, _, .nil => .nil
  | _, _, .cons n t h => .cons ⟨t, rfl⟩ (vals_ints h)

def Only (H : Hp) : Prop := ∀ b, H b = none ∨ ∃ o xs, H b = some (.frz o (.lst xs))

theorem law_call {P : Program} {w : World} {K : PySem.W.Frag} {mg mb : Str → Option Value} {CX : CXT} {k : Nat} {fa a : Addr} {fd : FuncData} {x : Str} {sp : Sp} {s₁ : Shared} {vs : List Value} {ns : List Int}
    (KX : K.In s₁.heap) (hns : s₁.heap.Ns mainGlobals mg) (hb : s₁.heap.Ns builtinsNs mb) (hbb : ∀ x : Str, x ≠ "__name__" → mb x = bootBuiltins x) (hlim : s₁.heap.NoLimit) (hg : s₁.gens = #[])
    (ha : s₁.heap.get? a = some { cls := .type "list", data := .seq vs.toArray }) (hi : IntsAre vs ns) (hl : ns.length ≤ sizeLine) (hr : Room k callerA)
    (F : ∀ base : Heap, K.In base → base.Ns mainGlobals mg → FnOk P w K mg base CX k fa fd [x] sp) (hbind : ∀ (s : Shared) (u : Value), BindsTo s fd ⟨[u], []⟩ [(x, u)])
    (hsp : ∀ H : Hp, Only H → SqL K H a (ns.map V.int) → sp [.ref a] H (fun v _ => v = .bl true) fun _ _ _ => False)
    (hCX : ∀ H e s', CX [] H s₁ (fun _ _ _ => False) e s' → False) :
    codeAny (model P w) callerA (.call (.ref fa) ⟨[.ref a], []⟩) (fun r s' => r = .ok (.ret (.bool true)) ∧ OldK s₁.heap s'.heap ∧ s'.os = s₁.os ∧ AllBare s'.gens) s₁ := by
  have rv := vals_ints hi
  have lenV := hi.length
  -- from an abstract heap in which nothing but the script may be tracked
  have core : ∀ H : Hp, Only H → SqL K H a (ns.map V.int) → HOk P w H s₁.heap → (∀ b, H b ≠ none → b = a) → (H a ≠ none → K.lookup a = none) →
      codeAny (model P w) callerA (.call (.ref fa) ⟨[.ref a], []⟩) (fun r s' => r = .ok (.ret (.bool true)) ∧ OldK s₁.heap s'.heap ∧ s'.os = s₁.os ∧ AllBare s'.gens) s₁ := by
    intro H hO hS hok hA hK
    have base_of : ∀ {b : Addr} {o : Obj}, s₁.heap.get? b = some o → H b = none → (hidT s₁.heap H).get? b = some o := fun e n => hidT_get e n
    have noA : ∀ {b : Addr} {o : Obj} {es : Array DictEntry} {ep : Nat}, s₁.heap.get? b = some o → o.data = .dict es ep → H b = none := fun {b o es ep} e d => by
      cases q : H b with
      | none => rfl
      | some u =>
        have e' : b = a := hA b (by rw [q]; simp)
        subst e'
        rw [ha] at e; cases e
        have d' : Data.seq vs.toArray _ = Data.dict es ep := d
        cases d'
    have nsK : ∀ {b : Addr} {m : Str → Option Value}, s₁.heap.Ns b m → (hidT s₁.heap H).Ns b m := fun {b m} ⟨o, es, ep, e, d, r⟩ => ⟨o, es, ep, base_of e (noA e d), d, r⟩
    have hKb : K.In (hidT s₁.heap H) := fun b o e => base_of (KX b o e) (by
      cases q : H b with
      | none => rfl
      | some u =>
        have e' : b = a := hA b (by rw [q]; simp)
        subst e'
        rw [hK (by rw [q]; simp)] at e; cases e)
    have hM : Mod K mg (hidT s₁.heap H) := ⟨hKb, nsK hns, ⟨mb, nsK hb, hbb⟩, let ⟨mc, h1, h2⟩ := hlim; ⟨mc, nsK h1, h2⟩⟩
    have e0 : Env0 P w K mg (hidT s₁.heap H) callerA [] s₁ H := ⟨rfl, hM, fun b o e => of_hidT e, Nat.le_of_eq (hidT_size _ _), trivial, fun b hb => absurd (show b ∈ ([] : List Addr) from hb) (by simp), hok, .of_eq hg⟩
    refine codeAny_mono ((F _ hKb (nsK hns)).run callerA [] s₁ H ⟨[.ref a], []⟩ [.ref a] [.ref a] _ _ hr e0 (hbind s₁ (.ref a)) (.cons rfl .nil) (hsp H hO hS)) fun r s' h => ?_
    cases r with
    | error e => exact (hCX H e s' h).elim
    | ok fl =>
      cases fl with
      | next => exact False.elim h
      | brk => exact False.elim h
      | cont => exact False.elim h
      | ret u =>
        obtain ⟨v, H', os, bare, un, hok', r', q⟩ := h
        have q' : v = .bl true := q
        subst q'
        obtain rfl : u = Value.bool true := r'
        refine ⟨rfl, OldK.of_keep fun b o e => ?_, os, bare⟩
        cases q : H b with
        | none => exact un.keep b o e q (by intro z; exact absurd (show b ∈ ([] : List Addr) from z) (by simp)) (by simp)
        | some u =>
          rcases hO b with z | ⟨ob, xs, z⟩
          · rw [q] at z; cases z
          · have z2 := un.frzs b ob _ z
            obtain ⟨e1, _⟩ := hok b _ z
            obtain ⟨e2, _⟩ := hok' b _ z2
            rw [e] at e1; cases e1
            exact e2
  cases hk : K.lookup a with
  | some o =>
    -- the script is one of the module's own objects
    have e := KX a o hk
    rw [ha] at e
    cases e
    refine core (fun _ => none) (fun _ => .inl rfl) (.inr ⟨_, vs.toArray, _, hk, rfl, rfl, rfl, by rw [List.size_toArray, lenV]; exact hl, by simpa using rv⟩) (fun b u z => by have z' : (none : Option HO) = some u := z; cases z') (fun b z => absurd rfl z) fun z => absurd rfl z
  | none =>
    refine core (fun b => if b = a then some (.frz { cls := .type "list", data := .seq vs.toArray } (.lst (ns.map V.int))) else none) (fun b => ?_) (.inl (.inr ⟨{ cls := .type "list", data := .seq vs.toArray }, if_pos rfl⟩)) (fun b u z => ?_) (fun b z => ?_) fun _ => hk
    · by_cases hb : b = a
      · exact .inr ⟨_, _, if_pos hb⟩
      · exact .inl (if_neg hb)
    · by_cases hb : b = a
      · have z' := (if_pos hb).symm.trans z
        cases z'
        subst hb
        exact ⟨ha, by rw [List.length_map]; exact hl, vs, _, rv, ha⟩
      · have z' := (if_neg hb).symm.trans z
        cases z'
    · by_cases hb : b = a
      · exact hb
      · exact absurd (if_neg hb) z
end L2

namespace L2
open PySem PySem.Spec PyProof.Rows

abbrev KOf {K : PySem.W.Frag} {h : Heap} (_ : K.In h) : PySem.W.Frag := K

theorem walk_of {l : PySem.W.OpenLaw} {n k : Nat} {q : Program} {loose : List Str} {XP : (Str → Option Value) → Heap → Prop} {YP : World → Heap → Prop} {d : DefRec} {K : Params → PySem.W.Frag} {CX : World → CXT} {sp : World → Sp} {x : Str}
    (hn : l.most = some n) (hn2 : n ≤ sizeLine) (hdf : d.params.defaults = []) (hr : Room k callerA)
    (hY : ∀ (w : World) (h : Heap), YP w h → (K w.params).In h)
    (F : ∀ (w : World) (mg : Str → Option Value) (fa : Addr) (h : Heap), (K w.params).In h → h.Ns mainGlobals mg → mg d.name = some (.ref fa) →
      ∃ fd : FuncData, (∀ (s : Shared) (u : Value), BindsTo s fd ⟨[u], []⟩ [(x, u)]) ∧
        ∀ base : Heap, (K w.params).In base → base.Ns mainGlobals mg → FnOk l.prog w (K w.params) mg base (CX w) k fa fd [x] (sp w))
    (hsp : ∀ (w : World) (H : Hp) (a : Addr) (ns : List Int), ns.length ≤ n → Only H → SqL (K w.params) H a (ns.map V.int) → sp w [.ref a] H (fun v _ => v = .bl true) fun _ _ _ => False)
    (hCX : ∀ (w : World) (H : Hp) (s : Shared) (e : Value) (s' : Shared), CX w [] H s (fun _ _ _ => False) e s' → False) :
    PySem.W.WalkO q loose XP YP l.row.toRowW d [] (fun f vs => PySem.call f vs) := by
  refine Att.attach_call hn hdf fun w s₀ s₁ mg mb fa o pm cd doc a vs ns G Y ho hd hcd hmg hobj hints hlen hg => ?_
  have KX := hY w _ Y
  obtain ⟨fd, hb, hF⟩ := F w mg fa _ KX G.T.g hmg
  exact law_call KX G.T.g G.T.b G.T.builtins G.T.nolimit hg hobj hints (Nat.le_trans hlen hn2) hr hF hb (fun H hO hS => hsp w H a ns hlen hO hS) fun H e s' => hCX w H s₁ e s'
end L2

/- THE LAST THEOREM (shape; LID, My.* are yours):
   My.Adr: a structure of the addresses that your layer names (classes, functions); My.Txt K t: a structure (Prop) of the equations over K;
   My.txt_mk : {K} {implicit addresses ..} (e1 : nsIn K mainGlobals "law" = some (some (.ref f))) (e2 : K.lookup f = some ⟨oc, od, .func (fnOf "law" "law" params body scope dV kV doc pm an cdv ct), sl⟩) (e3 : codeIn K cdv "law" = true) .. : ∃ t, My.Txt K t

set_option maxRecDepth 100000 in
set_option maxHeartbeats 0 in
theorem PySem.Challenge.cw_LID_holds : PySem.Challenge.rw_LID.Holds := by
  w_on; o_law; k_head; (case hw => w_witness2)
  k_fill
  refine L2.walk_of (l := PySem.Challenge.rw_LID) (n := 63) (k := 40) (x := "script") (CX := fun w => ..) (sp := fun _ => My.sp_law) rfl (by decide) rfl ⟨rfl, by decide, by decide⟩ (fun w h Y => PySem.W.kIn_of Y) ?F ?S ?C
  case F =>
    intro w mg fa h KX G hmg
    have T : ∃ t, My.Txt (L2.KOf KX) t := by
      dsimp only [L2.KOf]                          -- K must stand as «<heap const> w.params» for k_is
      refine' My.txt_mk ?e1 ?e2 ?e3 ..
      (case e1 => PySem.W.k_is)                    -- in the order: a name -> its address -> its object -> its parts
      (case e2 => PySem.W.k_is)
      ..
    obtain ⟨t, T⟩ := T
    have e0 := hmg.symm.trans (PySem.W.mg_of KX G T.law)
    cases e0                                       -- fa is the law's own address
    exact ⟨_, fun s u => .of_eq rfl, fun base kb nb => My.law_fn T kb nb⟩     -- if «.of_eq rfl» comes too early: refine' ⟨_, ?b, fun base kb nb => My.law_fn T kb nb⟩; exact fun s u => .of_eq rfl
  case S => exact fun w H a ns hl hO hS => ..
  case C => exact ..
(the tactic k_is has no namespace: write k_is) -/

namespace L2
open PySem PySem.Spec PyProof.Rows

def defArgs (s : Stmt) : Arguments := match s with
  | .FunctionDef _ a _ _ _ _ _ _ _ _ => a
  | _ => { posonlyargs := [], args := [], vararg := none, kwonlyargs := [], kw_defaults := [], kwarg := none, defaults := [] }
def defBody (s : Stmt) : List Stmt := match s with
  | .FunctionDef _ _ b _ _ _ _ _ _ _ => b
  | _ => []
def defScope (s : Stmt) : Scope := match s with
  | .FunctionDef _ _ _ _ _ _ sc _ _ _ => sc
  | _ => { kind := .function, names := [], isGenerator := false, isCoroutine := false }

abbrev CX0 : CXT := fun _ _ _ _ _ _ => False
abbrev E0 : XK := fun _ _ _ => False
theorem pass0 {X : Cx} : Passes CX0 X E0 := fun _ _ _ _ _ _ _ h => h.elim

structure Fun (K : PySem.W.Frag) (x qual : Str) (st : Stmt) (f : Addr) (fd : FuncData) : Prop where
  ex : ∃ (oc : Value) (od : Option Addr) (kV doc pm : Value) (an : Option Addr) (cdv ct : Value) (osl : Array (Option Value)),
    fd = PySem.W.fnOf x qual (defArgs st) (defBody st) (defScope st) .none kV doc pm an cdv ct ∧ K.lookup f = some ⟨oc, od, .func fd, osl⟩ ∧ PySem.W.codeIn K cdv qual = true
  kp : PySem.W.keepIn K (.ref f) = true
section
variable {P : Program} {w : World} {K : PySem.W.Frag} {mg : Str → Option Value} {base : Heap}
theorem Fun.ok {x qual : Str} {st : Stmt} {f : Addr} {fd : FuncData} {N ps : List Str} {k : Nat} {sp : Sp} (F : Fun K x qual st f fd) (S : FnScope N ps (defScope st)) (len : ∀ vs H Q E, sp vs H Q E → vs.length = ps.length)
    (hbody : ∀ (cdv : Value) (A : Around) (outer : List Env) (s : Shared) (H : Hp) (vs : List V) (Q : VK) (E : XK), Room k (A.deeper (envOfC qual (defScope st) s.heap.objs.size f cdv)) → sp vs H Q E →
      ∃ t, PSs (cxOf CX0 P w K mg base N qual (defScope st) f cdv A outer s H E).nox (defBody st) t ∧ t { nx := fun _ H' => Q .non H', rt := Q } (start N vs) H) : FnOk P w K mg base CX0 (k + 1) f fd ps sp := by
  obtain ⟨oc, od, kV, doc, pm, an, cdv, ct, osl, rfl, lk, hcd⟩ := F.ex
  refine fn_of lk hcd S len fun A outer s H vs Q E hr hsp => ?_
  obtain ⟨t, h, q⟩ := hbody cdv A outer s H vs Q E hr hsp
  exact ⟨t, h.nox, q⟩
theorem Fun.binds {x qual : Str} {st : Stmt} {f : Addr} {fd : FuncData} {ps : List Str} (F : Fun K x qual st f fd)
    (h : ∀ (kV doc pm : Value) (an : Option Addr) (cdv ct : Value) (us : List Value), us.length = ps.length → bindArgs (PySem.W.fnOf x qual (defArgs st) (defBody st) (defScope st) .none kV doc pm an cdv ct) ⟨us, []⟩ = pure (ps.zip us)) : Binds K fd ps [] := by
  obtain ⟨oc, od, kV, doc, pm, an, cdv, ct, osl, rfl, lk, hcd⟩ := F.ex
  exact .all (h kV doc pm an cdv ct)
theorem fun_mk {x qual : Str} {st : Stmt} {f : Addr} {oc : Value} {od an : Option Addr} {osl : Array (Option Value)} {kV doc pm cdv ct : Value} (l : K.lookup f = some ⟨oc, od, .func (PySem.W.fnOf x qual (defArgs st) (defBody st) (defScope st) .none kV doc pm an cdv ct), osl⟩)
    (c : PySem.W.codeIn K cdv qual = true) (k : PySem.W.keepIn K (.ref f) = true) : Fun K x qual st f (PySem.W.fnOf x qual (defArgs st) (defBody st) (defScope st) .none kV doc pm an cdv ct) := ⟨⟨oc, od, kV, doc, pm, an, cdv, ct, osl, rfl, l, c⟩, k⟩
end
theorem small1000 {n : Nat} (h : n ≤ 1000) : n < sizeLine := Nat.lt_of_le_of_lt h (by decide)

section
variable {X : Cx}
theorem pv (i : Nat) {x : Str} {pos : Pos} (hN : X.N[i]? = some x := by rfl) (hv : Vis X.env.scope x := by first | exact Or.inl rfl | exact Or.inr (Or.inl rfl) | exact Or.inr (Or.inr rfl)) (hd : (x == ("__debug__" : Str)) = false := by decide)
    (hcd : (x == ("__classdict__" : Str)) = false := by decide) : PE X (.Name x pos) (tVar i) := pe_var hN hv hd hcd
end

theorem iteF {A B : Prop} (h : B) : if false = true then A else B := by
  rw [if_neg Bool.false_ne_true]
  exact h
theorem iteT {A B : Prop} (h : A) : if true = true then A else B := by
  rw [if_pos rfl]
  exact h
theorem ite2 {c A B : Prop} [Decidable c] (h1 : c → A) (h2 : ¬ c → B) : if c then A else B := by
  by_cases h : c
  · rw [if_pos h]
    exact h1 h
  · rw [if_neg h]
    exact h2 h
def Same (H H' : Hp) : Prop := ∀ b o, H b = some o → H' b = some o
theorem Same.refl (H : Hp) : Same H H := fun _ _ h => h
theorem Same.trans {H H1 H2 : Hp} (a : Same H H1) (b : Same H1 H2) : Same H H2 := fun c o h => b c o (a c o h)
theorem Same.free {H H' : Hp} (e : Same H H') {l : Addr} (h : H' l = Option.none) : H l = Option.none := by
  cases q : H l with
  | none => rfl
  | some o =>
    rw [e l o q] at h
    cases h
theorem Same.seq {K : PySem.W.Frag} {H H' : Hp} {a : Addr} {xs : List V} (e : Same H H') (h : SqL K H a xs) : SqL K H' a xs := by
  rcases h with (h | ⟨o, h⟩) | h
  · exact .inl (.inl (e _ _ h))
  · exact .inl (.inr ⟨o, e _ _ h⟩)
  · exact .inr h

end L2
set_option Elab.async false
set_option linter.all false
set_option maxRecDepth 100000
namespace L2
open PySem PySem.Spec PyProof.Rows

section
variable {prog : Program} {w : World} {A : Around} {R : Result → Shared → Prop} {s : Shared}
theorem compLoop_any {elt target iter : Expr} {ifs : List Expr} {scope : Scope} {pos : Pos} {it acc : Value} {env : Env} (I : Nat → Shared → Prop)
    (turn : ∀ n s, I n s → wpAny (model prog w) A (pyNext it) (fun r s₁ => match r with
      | none => R (.ok .next) s₁
      | some v => wpAny (model prog w) A (letOwnedTupleGo target it v) (fun _ s₀ => wpAny (model prog w) A (assign target env v) (fun _ s₂ =>
          wpAny (model prog w) A (forIn ifs true fun c r => if r = true then do let ok ← isTrue c env (eval c env); pure (ForInStep.yield ok) else pure (ForInStep.yield r)) (fun ok s₃ =>
            if ok = true then wpAny (model prog w) A (eval elt env) (fun x s₄ =>
              wpAny (model prog w) A (call (.builtin "list.append") [acc, x]) (fun _ s₅ => ∃ m, m < n ∧ I m s₅) (fun _ _ => False) s₄) (fun _ _ => False) s₃
            else ∃ m, m < n ∧ I m s₃) (fun _ _ => False) s₂) (fun _ _ => False) s₀) (fun _ _ => False) s₁) (fun _ _ => False) s)
    (n : Nat) (h : I n s) :
    codeAny (model prog w) A (.compLoop (.ListComp elt [⟨target, iter, ifs, 0⟩] scope pos) 0 it acc env) R s := by
  refine codeAny_loop rfl I (fun n s hI => ?_) n h
  show wpAny _ A ((compTurn (.ListComp elt [⟨target, iter, ifs, 0⟩] scope pos) 0 it acc env).onRaise (fun x => do noteFrame x env; theTreesLotGoes x)) _ _ s
  refine wpAny_noted ?_
  rw [compTurn_list]
  have no : ∀ {X : Prop}, ∀ (e : Value) (s' : Shared), (fun _ _ => False : Value → Shared → Prop) e s' → X := fun _ _ z => False.elim z
  refine wpAny_bind (wpAny_standAt (wpAny_bind (wpAny_mono (turn n s hI) (fun r s₁ h₁ => ?_) fun e s' => no e s')))
  cases r with
  | none => exact wpAny_pure h₁
  | some v =>
    refine wpAny_bind (wpAny_mono h₁ (fun _ s₀ h₀ => ?_) fun e s' => no e s')
    refine wpAny_bind (wpAny_mono h₀ (fun _ s₂ h₂ => wpAny_bind (wpAny_mono h₂ (fun ok s₃ h₃ => ?_) fun e s' => no e s')) fun e s' => no e s')
    cases ok with
    | false => exact wpAny_pure ⟨rfl, h₃⟩
    | true =>
      exact wpAny_bind (wpAny_bind (wpAny_mono h₃ (fun x s₄ h₄ => wpAny_bind (wpAny_mono h₄ (fun _ s₅ h₅ => wpAny_pure (wpAny_pure ⟨rfl, h₅⟩)) fun e s' => no e s')) fun e s' => no e s'))
end

def cxComp (X : Cx) (NB : List Str) (scope : Scope) (s3 : Shared) (H3 : Hp) (fp : List Addr) : Cx :=
  { X with N := NB, s₀ := s3, H₀ := H3, env := compEnv scope s3.heap.objs.size X.env, outer := X.stack, stack := X.stack, ex := fp, fn := fun _ => true, pn := [], xe := fun _ _ => False }

def PTs (X : Cx) (ifs : List Expr) (t : TT) : Prop :=
  ∀ (pins : List (Addr × Obj)) (s : Shared) (σ : St) (H : Hp) (Q : Bool → Hp → Prop), Inv X pins σ H s → t σ H Q →
    wpAny (model X.prog X.w) X.A (forIn ifs true fun c r => if r = true then do let ok ← isTrue c X.env (eval c X.env); pure (ForInStep.yield ok) else pure (ForInStep.yield r)) (TP X pins σ Q) X.xe s
theorem pts_nil {X : Cx} : PTs X [] (fun _ H Q => Q true H) := fun _ _ _ H _ I h => wpAny_tests_nil ⟨H, I, h⟩
def tComp (n : Nat) (wi : TI) (g : TG) (tt : TT) (te : TE) : TE := fun σ H Q => wi σ H fun J H1 => ∀ D, H1 D = none → ∃ W : Nat → Nat → Hp → List V → Prop, (∃ m, W 0 m (upd H1 D (.lst [])) []) ∧
  ∀ i m H2 ys, W i m H2 ys → H2 D = some (.lst ys) → (J.stop i H2 ∧ Q (.ref D) H2) ∨
    (J.go i H2 ∧ ∀ σB x H3, σB.length = n → J.yld i H2 x H3 → g x σB H3 fun σ4 H4 => tt σ4 H4 fun b H5 => if b = true then te σ4 H5 (fun v H6 => H6 D = some (.lst ys) ∧ ys.length < sizeLine ∧ ∃ m', m' < m ∧ W (i + 1) m' (upd H6 D (.lst (ys ++ [v]))) (ys ++ [v]))
      else H5 D = some (.lst ys) ∧ ∃ m', m' < m ∧ W (i + 1) m' H5 ys)


theorem pe_comp {X : Cx} {elt tg iter : Expr} {ifs : List Expr} {scope : Scope} {pos : Pos} {NB : List Str} {wi : TI} {g : TG} {tt : TT} {te : TE}
    (hc : X.calm = true) (hfree : ∀ x ∈ scope.names, x.2 ≠ .free) (hcell : ∀ x ∈ scope.names, x.2 ≠ .cell) (hkind : scope.kind = .function) (hnames : ∀ x ∈ scope.names, x.2 = .local → scope.names.lookup x.1 = some .local)
    (hi : PI X tg iter wi) (hb : ∀ s3 H3 fp, PG (cxComp X NB scope s3 H3 fp) tg g ∧ PTs (cxComp X NB scope s3 H3 fp) ifs tt ∧ PE (cxComp X NB scope s3 H3 fp) elt te)
    (hs : ∀ x, foldedSetIterable iter X.env x = pure x := by intro _; rfl) :
    PE X (.ListComp elt [⟨tg, iter, ifs, 0⟩] scope pos) (tComp NB.length wi g tt te) := by
  intro pins s σ H Q I h
  refine wpAny_ListComp hfree hkind hnames (thn (hi pins s σ H _ I h) fun v s1 h1 => thn h1 fun itv s2 h2 => ?_) hs
  obtain ⟨it, fp, tn, J, H2, e, I2, T, st2, f2, q2⟩ := h2
  subst e
  have hf2 : H2 s2.heap.objs.size = none := I2.hok.fresh (Nat.le_refl _)
  obtain ⟨W, ⟨m0, w0⟩, turn⟩ := q2 _ hf2
  refine wpAny_newObj_type (hd := by size_fits) ?_
  have I3 : Inv X pins σ (upd H2 s2.heap.objs.size (.lst [])) { s2 with heap := s2.heap.push { cls := .type "list", dict := none, data := .seq ([] : List Value).toArray } } :=
    I2.laid (t' := s2.toks) (fun b u e => Heap.get?_push_of_some _ e) (Nat.le_refl _) ⟨by decide, [], 0, .nil, Heap.get?_push_size _ rfl⟩
  generalize hD : s2.heap.objs.size = D at *
  generalize hs3 : ({ s2 with heap := s2.heap.push { cls := .type "list", dict := none, data := .seq ([] : List Value).toArray } } : Shared) = s3 at *
  generalize hH3 : upd H2 D (.lst []) = H3 at *
  have h3D : H3 D = some (.lst []) := by rw [← hH3]; exact upd_same
  have fpD : ∀ b ∈ fp, b ≠ D := fun b hb => by
    obtain ⟨o, e, _⟩ := T.obj _ _ st2 b hb
    rw [← hD]; exact Nat.ne_of_lt (Heap.lt_size e)
  have k23 : ∀ b u, s2.heap.get? b = some u → s3.heap.get? b = some u := fun b u e => by rw [← hs3]; exact Heap.get?_push_of_some _ e
  have st3 : tn 0 s3.heap := T.keep _ _ _ st2 fun b _ o e => k23 b o e
  have f3 : ∀ b ∈ fp, FpOk X pins H3 b := fun b hb => ⟨by rw [← hH3, upd_ne (fpD b hb)]; exact (f2 b hb).1, (f2 b hb).2⟩
  refine wpAny_newFunctionEnv hcell (by intro y hy; simp at hy) (fun h4 hns4 hsb4 => ?_) hkind
  have k34 : ∀ b u, s3.heap.get? b = some u → h4.get? b = some u := fun b u e => hsb4.extBut b u (Nat.ne_of_lt (Heap.lt_size e)) (Heap.get?_push_of_some _ e)
  have okB : (cxComp X NB scope s3 H3 fp).Ok := by
    refine ⟨I3.ok.mod, hkind, I3.ok.glob, I3.ok.blt, Nat.le_refl _, fun x y c e _ => ?_, fun x e => ?_, fun x c _ e => ?_, I3.ok.hd, I3.ok.frames, .inl rfl, fun b hb => ⟨?_, fun x c e => ?_⟩, I3.bs, Nat.le_trans I3.ok.bsz I3.sz, fun b o e hb => ?_, fun b hb z => ?_, I3.stack, I3.stkFree⟩
    · exact absurd (show ([] : List (Str × Addr)).lookup x = some c from e) (by simp)
    · have e' : scope.names.lookup x = some .cell ∨ scope.names.lookup x = some .free := e
      rcases e' with e' | e'
      · exact absurd rfl (hcell _ (PySem.mem_of_lookup e'))
      · exact absurd rfl (hfree _ (PySem.mem_of_lookup e'))
    · exact absurd (show ([] : List (Str × Addr)).lookup x = some c from e) (by simp)
    · obtain ⟨o, e, _⟩ := T.obj _ _ st3 b hb
      exact Nat.ne_of_lt (Heap.lt_size e)
    · exact absurd (show ([] : List (Str × Addr)).lookup x = some c from e) (by simp)
    · obtain ⟨_, _, _, z, _⟩ := f3 b hb
      rcases z with z | z
      · exact I3.ok.noex b o e z
      · exact absurd (Nat.lt_of_lt_of_le (Heap.lt_size e) (Nat.le_trans I3.ok.bsz z)) (Nat.lt_irrefl _)
    · obtain ⟨_, z1, z2, _⟩ := f3 b hb
      rcases List.mem_cons.mp (I3.stkSub b z) with e | e
      · exact z1 e
      · exact z2 e
  have IB : Inv (cxComp X NB scope s3 H3 fp) [] (List.replicate NB.length none) H3 { s3 with heap := h4, toks := s3.toks + ([] : List (Str × Value)).length } := by
    refine ⟨okB, rfl, I3.bare, Un.kept k34, ⟨_, hns4, fun i x v _ e _ => ?_⟩, fun x c e => ?_, I3.hok.fresh (Nat.le_refl _), fun x c e => ?_, fun p hp => ?_, I3.hok.kept k34, by simp [cxComp]⟩
    · rw [List.getElem?_replicate] at e
      split at e <;> cases e
    · exact absurd (show ([] : List (Str × Addr)).lookup x = some c from e) (by simp)
    · exact absurd (show ([] : List (Str × Addr)).lookup x = some c from e) (by simp)
    · exact absurd (show p ∈ ([] : List (Addr × Obj)) from hp) (by simp)
  have st4 : tn 0 h4 := T.keep _ _ _ st3 fun b _ o e => k34 b o e
  have C_ne : ∀ b ∈ fp, b ≠ s3.heap.objs.size := fun b hb => (okB.exf b hb).1
  -- what stays true of the iterator's objects
  have stat : ∀ {H' : Hp}, (∀ b ∈ fp, H' b = none) → ∀ b ∈ fp, FpOk (cxComp X NB scope s3 H3 fp) [] H' b := fun hn b hb =>
    ⟨hn b hb, C_ne b hb, okB.exfs b hb, .inl hb, fun x c e => absurd (show ([] : List (Str × Addr)).lookup x = some c from e) (by simp), fun p hp => absurd (show p ∈ ([] : List (Addr × Obj)) from hp) (by simp)⟩
  obtain ⟨hg, ht, he⟩ := hb s3 H3 fp
  have fin : ∀ {σ' : St} {H' : Hp} {s' : Shared}, Inv (cxComp X NB scope s3 H3 fp) [] σ' H' s' → Q (.ref D) H' →
      ∃ m, s'.heap.Ns s3.heap.objs.size m ∧ ∀ h', Heap.SameBut s3.heap.objs.size s'.heap h' → EP X pins σ Q (.ref D) { s' with heap := h' } := fun {σ' H' s'} J q => by
    obtain ⟨m, hm, _⟩ := J.loc
    refine ⟨m, hm, fun h' sb => ⟨.ref D, H', ?_, rfl, q⟩⟩
    have neC : ∀ b o, s3.heap.get? b = some o → b ≠ s3.heap.objs.size := fun b o e => Nat.ne_of_lt (Heap.lt_size e)
    have hfr : H' s3.heap.objs.size = none := J.free
    have up : ∀ b o, b ≠ s3.heap.objs.size → s'.heap.get? b = some o → h'.get? b = some o := fun b o hb e => (sb.2 b hb).trans e
    have hok' : HOk X.prog X.w H' h' := fun b ob e => (J.hok b ob e).stay (fun c w' hc q => up c w' (by
      rintro rfl
      rcases hc with rfl | hc
      · rw [hfr] at e; cases e
      · rw [hfr] at hc; cases hc) q) (fun _ q => q) fun _ _ q => q
    have u : Un (frs X.stack) fp H3 H' s3.heap h' :=
      ⟨fun b o e n hb hx => up b o (neC b o e) (J.base.keep b o e n hb hx), fun b o e n hb hx => by
        obtain ⟨sl, e'⟩ := J.base.slot b o e n hb hx
        exact ⟨sl, up b _ (neC b o e) e'⟩, J.base.free, fun b o e hx => by
        obtain ⟨o', e'⟩ := J.base.there b o e hx
        exact ⟨o', up b _ (neC b o e) e'⟩, J.base.tups, J.base.frzs, J.base.tbls⟩
    refine I3.call' (s' := { s' with heap := h' }) (ch := fp) J.os u hok' J.bare fun b hb => ?_
    obtain ⟨z0, z1, z2, z3, z4, z5⟩ := f3 b hb
    exact ⟨z3, z1, z4, z5⟩
  have loop : ∀ s5 : Shared, s5 = { s3 with heap := h4, toks := s3.toks + ([] : List (Str × Value)).length } →
      codeAny (model X.prog X.w) X.A (.compLoop (.ListComp elt [⟨tg, iter, ifs, 0⟩] scope pos) 0 (.ref it) (.ref D) (compEnv scope s3.heap.objs.size X.env))
        (fun r s' => ∃ m, s'.heap.Ns s3.heap.objs.size m ∧ ∀ h', Heap.SameBut s3.heap.objs.size s'.heap h' →
          match r with | .ok _ => EP X pins σ Q (.ref D) { s' with heap := h' } | .error x => wpAny (model X.prog X.w) X.A (passOn "comprehension.variables-let-go" x (compEnv scope s3.heap.objs.size X.env)) (EP X pins σ Q) X.xe { s' with heap := h' }) s5 := by
    rintro s5 rfl
    refine compLoop_any (fun n s' => ∃ i σ' H' ys, Inv (cxComp X NB scope s3 H3 fp) [] σ' H' s' ∧ tn i s'.heap ∧ (∀ b ∈ fp, H' b = none) ∧ H' D = some (.lst ys) ∧ W i n H' ys) ?_ m0
      ⟨0, _, H3, [], IB, st4, fun b hb => (f3 b hb).1, h3D, by rw [← hH3] at *; exact w0⟩
    rintro n s6 ⟨i, σ6, H6, ys, I6, st6, fr6, hD6, w6⟩
    rcases turn i n H6 ys w6 hD6 with ⟨stop, qn⟩ | ⟨go, step⟩
    · refine thn (T.done (cxComp X NB scope s3 H3 fp) rfl rfl rfl hc i [] s6 σ6 H6 _ I6 (stat fr6) st6 stop) fun r s7 ⟨hr, I7⟩ => ?_
      subst hr
      exact fin I7 qn
    · refine thn (T.item (cxComp X NB scope s3 H3 fp) rfl rfl rfl hc i [] s6 σ6 H6 _ I6 (stat fr6) st6 go) fun r s7 ⟨u, hr, h7⟩ => ?_
      subst hr
      refine thn h7 fun _ s8 ⟨x, H8, I8, r8, y8, st8, fr8⟩ => ?_
      have I8' := I8.pinned (stat fr8) (T.obj _ _ st8)
      have again : ∀ {σ9 : St} {H9 : Hp} {s9 : Shared} {zs : List V} {m' : Nat}, Inv (cxComp X NB scope s3 H3 fp) ([] ++ pinsAt fp s8.heap) σ9 H9 s9 → H9 D = some (.lst zs) → m' < n → W (i + 1) m' H9 zs →
          ∃ m, m < n ∧ ∃ i σ' H' ys, Inv (cxComp X NB scope s3 H3 fp) [] σ' H' s9 ∧ tn i s9.heap ∧ (∀ b ∈ fp, H' b = none) ∧ H' D = some (.lst ys) ∧ W i m H' ys := fun {σ9 H9 s9 zs m'} I9 hz hm w9 => by
        refine ⟨m', hm, i + 1, σ9, H9, zs, I9.unpinned, T.keep _ _ _ st8 fun b hb o e => (I9.pin (b, o) (List.mem_append_right _ (List.mem_append_right _ (mem_pinsAt hb e)))).1, fun b hb => ?_, hz, w9⟩
        obtain ⟨o, e, d⟩ := T.obj _ _ st8 b hb
        exact (I9.pin (b, o) (List.mem_append_right _ (List.mem_append_right _ (mem_pinsAt hb e)))).2.1
      refine thn (hg _ s8 σ6 H8 x u _ I8' r8 (step σ6 x H8 I6.len y8)) fun _ s9 ⟨σ9, H9, I9, q9⟩ => ?_
      refine thn (ht _ s9 σ9 H9 _ I9 q9) fun ok s10 ⟨H10, I10, q10⟩ => ?_
      cases ok with
      | false =>
        rw [if_neg (by decide)] at q10 ⊢
        obtain ⟨hz, m', hm, w'⟩ := q10
        exact again I10 hz hm w'
      | true =>
        rw [if_pos rfl] at q10 ⊢
        refine thn (he _ s10 σ9 H10 _ I10 q10) fun y s11 ⟨v, H11, I11, r11, hz, hlen, m', hm, w'⟩ => ?_
        refine thn (mt_append _ s11 σ9 H11 (.ref D) [v] (.ref D) [y] (fun _ H12 => H12 = upd H11 D (.lst (ys ++ [v]))) I11 rfl (.cons r11 .nil) ⟨D, ys, v, rfl, rfl, hz, hlen, rfl⟩) fun _ s12 ⟨_, H12, I12, _, e12⟩ => ?_
        subst e12
        exact again I12 upd_same hm w'
  exact codeAny_compStart_list (loop _ rfl) (T.self X.A 0 _ _ _ st4 (loop _ rfl))
end L2
set_option Elab.async false
set_option linter.all false
set_option maxRecDepth 100000
namespace L2
open PySem PySem.Spec PyProof.Rows

mutual
inductive RdD (H : Hp) : V → PyData → Prop
  | non : RdD H .non .none
  | bl (b : Bool) : RdD H (.bl b) (.bool b)
  | int (i : Int) : RdD H (.int i) (.int i)
  | str (x : Str) : RdD H (.str x) (.str x)
  | tup {a : Addr} {xs : List V} {ds : List PyData} : H a = some (.tup xs) → RdDs H xs ds → RdD H (.ref a) (.tuple ds)
  | lst {a : Addr} {xs : List V} {ds : List PyData} : H a = some (.lst xs) → RdDs H xs ds → RdD H (.ref a) (.list ds)
inductive RdDs (H : Hp) : List V → List PyData → Prop
  | nil : RdDs H [] []
  | cons {x : V} {d : PyData} {xs : List V} {ds : List PyData} : RdD H x d → RdDs H xs ds → RdDs H (x :: xs) (d :: ds)
end
section
variable {X : Cx} {pins : List (Addr × Obj)} {σ : St} {H : Hp} {s : Shared}
mutual
theorem RdD.reads (I : Inv X pins σ H s) : ∀ {x : V} {d : PyData}, RdD H x d → ∀ {u : Value}, RelV x u → ∃ as, Reads s.heap u d as
  | _, _, .non, u, r => by cases (show u = Value.none from r); exact ⟨_, .none⟩
  | _, _, .bl b, u, r => by cases (show u = Value.bool b from r); exact ⟨_, .bool b⟩
  | _, _, .int i, u, r => by obtain ⟨t, e⟩ := (show ∃ t, u = Value.int i t from r); subst e; exact ⟨_, .int i t⟩
  | _, _, .str x, u, r => by obtain ⟨t, e⟩ := (show ∃ t, u = Value.str x t from r); subst e; exact ⟨_, .str x t⟩
  | _, _, @RdD.tup _ a xs ds e h, u, r => by
    cases (show u = Value.ref a from r)
    obtain ⟨_, its, rv, o, h1, h2, n, h3⟩ := (show ObjOk X.prog X.w H s.heap a (.tup xs) from I.hok a _ e)
    obtain ⟨as, ra⟩ := RdDs.reads I h rv
    exact ⟨_, .tuple h1 h2 h3 (by simpa using ra)⟩
  | _, _, @RdD.lst _ a xs ds e h, u, r => by
    cases (show u = Value.ref a from r)
    obtain ⟨_, its, n, rv, h1⟩ := (show ObjOk X.prog X.w H s.heap a (.lst xs) from I.hok a _ e)
    obtain ⟨as, ra⟩ := RdDs.reads I h rv
    exact ⟨_, .list h1 rfl rfl (by simpa using ra)⟩
theorem RdDs.reads (I : Inv X pins σ H s) : ∀ {xs : List V} {ds : List PyData}, RdDs H xs ds → ∀ {us : List Value}, Vals xs us → ∃ as, ReadsAll s.heap us ds as
  | _, _, .nil, us, r => by cases r; exact ⟨_, .nil⟩
  | _, _, .cons h t, us, r => by
    cases r with
    | cons r1 r2 =>
      obtain ⟨a1, q1⟩ := RdD.reads I h r1
      obtain ⟨a2, q2⟩ := RdDs.reads I t r2
      exact ⟨_, .cons q1 q2⟩
end
end
def rEqD : R2 := fun x y H Q => ∃ d e, RdD H x d ∧ RdD H y e ∧ SeqAt.shaped d = true ∧ SeqAt.shaped e = true ∧ Q (.bl (PyData.eqv d e)) H
section
variable {X : Cx}
theorem op_eqD (hu : X.A.units + 64 < cLine) : OpR X (compareOp .Eq) rEqD := by
  intro pins s σ H x y v u Q I rx ry h
  obtain ⟨d, e, hd, he, s1, s2, q⟩ := h
  obtain ⟨as, r1⟩ := hd.reads I rx
  obtain ⟨bs, r2⟩ := he.reads I ry
  exact eq_dataH r1 r2 s1 s2 hu ⟨.bl _, H, I, rfl, q⟩
def Bd (n : Nat) (i : Int) : Prop := i.natAbs < 2 ^ n
theorem Bd.mono {m n : Nat} {i : Int} (h : Bd m i) (l : m ≤ n) : Bd n i := Nat.lt_of_lt_of_le h (Nat.pow_le_pow_right (by decide) l)
theorem Bd.bits {n : Nat} {i : Int} (h : Bd n i) : Builtin.Int.intBits i ≤ n := intBits_le_iff.mpr h
theorem Bd.of_bits {n : Nat} {i : Int} (h : Builtin.Int.intBits i ≤ n) : Bd n i := intBits_le_iff.mp h
theorem Bd.mul {m n : Nat} {i j : Int} (h : Bd m i) (k : Bd n j) : Bd (m + n) (i * j) := .of_bits (intBits_mul_le h.bits k.bits)
theorem Bd.add {m n : Nat} {i j : Int} (h : Bd m i) (k : Bd n j) : Bd (max m n + 1) (i + j) := .of_bits (intBits_add_le h.bits k.bits)
theorem Bd.neg {n : Nat} {i : Int} (h : Bd n i) : Bd n (-i) := by unfold Bd; rw [Int.natAbs_neg]; exact h
theorem Bd.sub {m n : Nat} {i j : Int} (h : Bd m i) (k : Bd n j) : Bd (max m n + 1) (i - j) := by rw [Int.sub_eq_add_neg]; exact h.add k.neg
def CMulB (i j : Int) : Prop := Bd 1000000 i ∧ Bd 1000000 j
theorem op_mulB : OpR X (binaryOp .Mult) (rI CMulB fun i j => .int (i * j)) := opI fun _ _ _ _ _ _ _ hc q => mul_int q (IntMulOk.of_le hc.1.bits hc.2.bits (by decide))
def CDivB (i j : Int) : Prop := j ≠ 0 ∧ Bd 8900 j
theorem op_fdivB : OpR X (binaryOp .FloorDiv) (rI CDivB fun i j => .int (i.fdiv j)) := opI fun _ j _ _ _ _ _ hc q => floordiv_int hc.1 q (.inl (PyProof.noPylong_of_log2 (by
  have h1 : j.natAbs ≠ 0 := fun z => hc.1 (Int.natAbs_eq_zero.mp z)
  have h2 : j.natAbs < 2 ^ 9000 := Nat.lt_of_lt_of_le hc.2 (Nat.pow_le_pow_right (by decide) (by decide))
  exact (Nat.log2_lt h1).mpr h2)))

theorem call_isinst : CallR X (.builtin "isinstance") (fun xs H Q => ∃ x t n b, xs = [x, .ty n] ∧ TyOf X.K H x t ∧ PySem.W.kitOne X.K t (.type n) = some b ∧ Q (.bl b) H) := by
  intro pins s σ H xs us Q I r h
  obtain ⟨x, t, n, b, rfl, ty, e, q⟩ := h
  obtain ⟨u, w', rfl, r1, r2⟩ := vals2 r
  cases (show w' = Value.type n from r2)
  exact isinst_ok I r1 ty e fun tk => ⟨.bl b, H, I.tok tk, rfl, q⟩
end
end L2
set_option Elab.async false
set_option linter.all false
set_option maxRecDepth 100000
namespace HT
open PySem PySem.Spec PyProof.Rows L2
section
variable {prog : Program} {w : World} {A : Around} {E : Value → Shared → Prop} {s : Shared}
end
end HT
namespace L2
open PySem PySem.Spec PyProof.Rows
section
variable {X : Cx} {e st : Expr} {te : TE} {pos p2 : Pos}
theorem Vals.rev : ∀ {xs : List V} {us : List Value}, Vals xs us → Vals xs.reverse us.reverse
  | _, _, .nil => .nil
  | _, _, .cons r t => by rw [List.reverse_cons, List.reverse_cons]; exact (Vals.rev t).append (.cons r .nil)
end
end L2
namespace KM
theorem gcd_step {a b : Int} (ha : 0 ≤ a) (hb : 0 < b) : Int.gcd b (a % b) = Int.gcd a b := by
  obtain ⟨m, rfl⟩ := Int.eq_ofNat_of_zero_le ha
  obtain ⟨n, rfl⟩ := Int.eq_ofNat_of_zero_le (Int.le_of_lt hb)
  rw [← Int.natCast_emod, Int.gcd_comm (m : Int)]
  show Nat.gcd n (m % n) = Nat.gcd n m
  rw [Nat.gcd_comm n (m % n)]
  exact (Nat.gcd_rec n m).symm
theorem den_ne (q : Rat) : (q.den : Int) ≠ 0 := by have := q.den_nz; omega
theorem den_pos (q : Rat) : (0 : Int) < q.den := by have := q.den_nz; omega
def dv (t b : Int) : Int := if b < 0 then -(Int.gcd t b : Int) else (Int.gcd t b : Int)
theorem gcd_pos {t b : Int} (hb : b ≠ 0) : 0 < Int.gcd t b := Int.gcd_pos_of_ne_zero_right _ hb
theorem dv_ne {t b : Int} (hb : b ≠ 0) : dv t b ≠ 0 := by
  have := gcd_pos (t := t) hb
  unfold dv; split <;> omega
theorem dv_abs {t b : Int} : (dv t b).natAbs = Int.gcd t b := by
  unfold dv; split <;> omega
theorem dv_le {t b : Int} (hb : b ≠ 0) : (dv t b).natAbs ≤ b.natAbs := by
  rw [dv_abs]; exact Nat.le_of_dvd (by omega) (Int.gcd_dvd_natAbs_right t b)
theorem dv_num {t b : Int} (hb : b ≠ 0) : t.fdiv (dv t b) = (Rat.divInt t b).num := by
  rw [Rat.num_divInt, Int.gcd_comm b t]
  have h1 : ((Int.gcd t b : Nat) : Int) ∣ t := Int.gcd_dvd_left ..
  unfold dv
  split
  · rename_i h
    rw [Int.fdiv_eq_ediv_of_dvd (Int.neg_dvd.mpr h1), Int.ediv_neg, Int.sign_eq_neg_one_of_neg h]
    rw [show (-1 * t) = -t by omega, Int.neg_ediv_of_dvd h1]
  · rename_i h
    rw [Int.fdiv_eq_ediv_of_dvd h1, Int.sign_eq_one_of_pos (by omega), Int.one_mul]
theorem dv_den {t b : Int} (hb : b ≠ 0) : b.fdiv (dv t b) = ((Rat.divInt t b).den : Int) := by
  rw [Rat.den_divInt, if_neg hb, Int.gcd_comm b t]
  have h1 : ((Int.gcd t b : Nat) : Int) ∣ b := Int.gcd_dvd_right ..
  have h2 : Int.gcd t b ∣ b.natAbs := Int.gcd_dvd_natAbs_right t b
  unfold dv
  split
  · rename_i h
    rw [Int.fdiv_eq_ediv_of_dvd (Int.neg_dvd.mpr h1), Int.ediv_neg]
    rw [Int.natCast_ediv, show ((b.natAbs : Nat) : Int) = -b by omega, Int.neg_ediv_of_dvd h1]
  · rename_i h
    rw [Int.fdiv_eq_ediv_of_dvd h1, Int.natCast_ediv, show ((b.natAbs : Nat) : Int) = b by omega]
theorem num_le {t b : Int} (hb : b ≠ 0) : (Rat.divInt t b).num.natAbs ≤ t.natAbs := by
  rw [← dv_num hb]
  have : t.fdiv (dv t b) ∣ t := by
    have h1 : dv t b ∣ t := by
      unfold dv; split
      · exact Int.neg_dvd.mpr (Int.gcd_dvd_left ..)
      · exact Int.gcd_dvd_left ..
    obtain ⟨c, hc⟩ := h1
    rw [Int.fdiv_eq_ediv_of_dvd ⟨c, hc⟩]
    refine ⟨dv t b, ?_⟩
    exact (Int.ediv_mul_cancel ⟨c, hc⟩).symm
  by_cases h0 : t = 0
  · subst h0; simp
  · exact Nat.le_of_dvd (by omega) (Int.natAbs_dvd_natAbs.mpr this)
theorem den_le {t b : Int} (hb : b ≠ 0) : (Rat.divInt t b).den ≤ b.natAbs := by
  rw [Rat.den_divInt, if_neg hb]; exact Nat.div_le_self _ _

theorem plus_eq (a b : Rat) : Rat.divInt (a.num * b.den + b.num * a.den) (a.den * b.den) = a + b := by
  rw [Rat.add_def', ← Rat.divInt_ofNat]; simp
theorem times_eq (a b : Rat) : Rat.divInt (a.num * b.num) (a.den * b.den) = a * b := by
  rw [Rat.mul_def', ← Rat.divInt_ofNat]; simp
theorem less_iff (a b : Rat) : a.num * b.den < b.num * a.den ↔ a < b := (Rat.lt_iff a b).symm
theorem int_num (n : Int) : (n : Rat).num = n := Rat.num_intCast n
theorem int_den (n : Int) : (n : Rat).den = 1 := Rat.den_intCast n

structure Ball where
  pl : Rat
  sp : Rat
  wt : Int
def ws (f : Ball → Rat) (l : List Ball) : Rat := l.foldl (fun acc b => acc + (b.wt : Rat) * f b) 0
end KM
set_option Elab.async false
set_option linter.all false
set_option maxRecDepth 100000
namespace L2
open PySem PySem.Spec PyProof.Rows

structure Cal (P : Program) (w : World) (K : PySem.W.Frag) (mg : Str → Option Value) (base : Heap) (x : Str) (k : Nat) (ps : List Str) (dvs : List V) (sp : Sp) : Prop where
  ex : ∃ f fd ds, FnOk P w K mg base CX0 k f fd ps sp ∧ mg x = some (.ref f) ∧ PySem.W.keepIn K (.ref f) = true ∧ Binds K fd ps ds ∧ Vals dvs ds
theorem Cal.mono {P : Program} {w : World} {K : PySem.W.Frag} {mg : Str → Option Value} {base : Heap} {x : Str} {j k : Nat} {ps : List Str} {dvs : List V} {sp : Sp} (c : Cal P w K mg base x j ps dvs sp) (h : j ≤ k) : Cal P w K mg base x k ps dvs sp := by
  obtain ⟨f, fd, ds, F, r⟩ := c.ex
  exact ⟨⟨f, fd, ds, F.mono h, r⟩⟩
theorem Cal.imp {P : Program} {w : World} {K : PySem.W.Frag} {mg : Str → Option Value} {base : Heap} {x : Str} {k : Nat} {ps : List Str} {dvs : List V} {sp sp' : Sp} (c : Cal P w K mg base x k ps dvs sp) (h : ∀ vs H Q E, sp' vs H Q E → sp vs H Q E) : Cal P w K mg base x k ps dvs sp' := by
  obtain ⟨f, fd, ds, F, r⟩ := c.ex
  exact ⟨⟨f, fd, ds, F.imp h, r⟩⟩
theorem pe_c {X : Cx} {x : Str} {k : Nat} {ps : List Str} {dvs : List V} {sp : Sp} {p pos : Pos} {e : Expr} {es : List Expr} {t : TA}
    (c : Cal X.prog X.w X.K X.mg X.base x k ps dvs sp) (hr : Room k X.A) (ha : PA X (e :: es) t) (hg : Gl X x := by rfl) (hdb : (x == ("__debug__" : Str)) = false := by decide)
    (he : starEach (e :: es) X.env = (false, eval e X.env) :: starEach es X.env := by rfl) (hpl : (backTo pos (starEach es X.env)).any (·.1) = false := by rfl) :
    PE X (.Call (.Name x p) (e :: es) [] pos) (tCall sp dvs E0 t) := by
  obtain ⟨f, fd, ds, F, hm, hk, hb, hd⟩ := c.ex
  exact pe_call F hr hg hm hk hb hd pass0 ha hdb he hpl

structure Df (K : PySem.W.Frag) (mg : Str → Option Value) (x : Str) (st : Stmt) (ps : List Str) (dvs : List V) : Prop where
  ex : ∃ (f : Addr) (oc : Value) (od : Option Addr) (dV kV doc pm : Value) (an : Option Addr) (cdv ct : Value) (osl : Array (Option Value)) (ds : List Value),
    K.lookup f = some ⟨oc, od, .func (PySem.W.fnOf x x (defArgs st) (defBody st) (defScope st) dV kV doc pm an cdv ct), osl⟩ ∧ PySem.W.codeIn K cdv x = true ∧ PySem.W.keepIn K (.ref f) = true ∧ mg x = some (.ref f) ∧
    Vals dvs ds ∧ Binds K (PySem.W.fnOf x x (defArgs st) (defBody st) (defScope st) dV kV doc pm an cdv ct) ps ds
section
variable {P : Program} {w : World} {K : PySem.W.Frag} {mg : Str → Option Value} {base : Heap}
theorem Df.cal {x : Str} {st : Stmt} {N ps : List Str} {dvs : List V} {k : Nat} {sp : Sp} (D : Df K mg x st ps dvs) (S : FnScope N ps (defScope st)) (len : ∀ vs H Q E, sp vs H Q E → vs.length = ps.length)
    (hbody : ∀ (f : Addr) (cdv : Value) (A : Around) (outer : List Env) (s : Shared) (H : Hp) (vs : List V) (Q : VK) (E : XK), Room k (A.deeper (envOfC x (defScope st) s.heap.objs.size f cdv)) → sp vs H Q E →
      ∃ t, PSs (cxOf CX0 P w K mg base N x (defScope st) f cdv A outer s H E).nox (defBody st) t ∧ t { nx := fun _ H' => Q .non H', rt := Q } (start N vs) H) : Cal P w K mg base x (k + 1) ps dvs sp := by
  obtain ⟨f, oc, od, dV, kV, doc, pm, an, cdv, ct, osl, ds, lk, hcd, hk, hm, hv, hb⟩ := D.ex
  refine ⟨⟨f, _, ds, fn_of lk hcd S len fun A outer s H vs Q E hr hsp => ?_, hm, hk, hb, hv⟩⟩
  obtain ⟨t, h, q⟩ := hbody f cdv A outer s H vs Q E hr hsp
  exact ⟨t, h.nox, q⟩
theorem df_mk {x : Str} {st : Stmt} {ps : List Str} {f : Addr} {oc : Value} {od an : Option Addr} {osl : Array (Option Value)} {dV kV doc pm cdv ct : Value}
    (l : K.lookup f = some ⟨oc, od, .func (PySem.W.fnOf x x (defArgs st) (defBody st) (defScope st) dV kV doc pm an cdv ct), osl⟩) (c : PySem.W.codeIn K cdv x = true) (k : PySem.W.keepIn K (.ref f) = true) (m : mg x = some (.ref f))
    (hb : ∀ us : List Value, us.length = ps.length → bindArgs (PySem.W.fnOf x x (defArgs st) (defBody st) (defScope st) dV kV doc pm an cdv ct) ⟨us, []⟩ = pure (ps.zip us)) : Df K mg x st ps [] :=
  ⟨⟨f, oc, od, dV, kV, doc, pm, an, cdv, ct, osl, [], l, c, k, m, .nil, .all hb⟩⟩
end

def rp (q : Rat) : List V := [.int q.num, .int (q.den : Int)]
def RatAt (H : Hp) (p : Addr) (q : Rat) : Prop := H p = some (.tup (rp q))
theorem RatAt.same {H H' : Hp} {p : Addr} {q : Rat} (h : RatAt H p q) (e : Same H H') : RatAt H' p q := e _ _ h
def Sz (n : Nat) (q : Rat) : Prop := Bd n q.num ∧ Bd n (q.den : Int)
theorem Sz.mono {m n : Nat} {q : Rat} (h : Sz m q) (l : m ≤ n) : Sz n q := ⟨h.1.mono l, h.2.mono l⟩
theorem Bd.of_le {n : Nat} {i j : Int} (h : i.natAbs ≤ j.natAbs) (b : Bd n j) : Bd n i := Nat.lt_of_le_of_lt h b
theorem Sz.divInt {n : Nat} {t b : Int} (hb : b ≠ 0) (h1 : Bd n t) (h2 : Bd n b) : Sz n (Rat.divInt t b) :=
  ⟨h1.of_le (KM.num_le hb), h2.of_le (by have := KM.den_le (t := t) hb; omega)⟩
theorem Sz.add {m n : Nat} {x y : Rat} (h : Sz m x) (k : Sz n y) : Sz (m + n + 1) (x + y) := by
  rw [← KM.plus_eq]
  refine .divInt (Int.mul_ne_zero (KM.den_ne x) (KM.den_ne y)) ?_ ((h.2.mul k.2).mono (by omega))
  exact ((h.1.mul k.2).add (k.1.mul h.2)).mono (by omega)
theorem Sz.mul {m n : Nat} {x y : Rat} (h : Sz m x) (k : Sz n y) : Sz (m + n) (x * y) := by
  rw [← KM.times_eq]
  exact .divInt (Int.mul_ne_zero (KM.den_ne x) (KM.den_ne y)) (h.1.mul k.1) (h.2.mul k.2)
theorem Sz.int {n : Nat} {i : Int} (h : Bd n i) (hn : 1 ≤ n) : Sz n (i : Rat) := by
  refine ⟨by rw [KM.int_num]; exact h, ?_⟩
  rw [KM.int_den]
  exact Bd.mono (m := 1) (show (1 : Int).natAbs < 2 ^ 1 by decide) hn
theorem shaped_rp (q : Rat) : SeqAt.shaped (.tuple [.int q.num, .int (q.den : Int)]) = true := rfl
theorem RatAt.rd {H : Hp} {p : Addr} {q : Rat} (h : RatAt H p q) : RdD H (.ref p) (.tuple [.int q.num, .int (q.den : Int)]) := .tup h (.cons (.int _) (.cons (.int _) .nil))
theorem eqv_rp (x y : Rat) : PyData.eqv (.tuple [.int x.num, .int (x.den : Int)]) (.tuple [.int y.num, .int (y.den : Int)]) = decide (x = y) := by
  simp only [PyData.eqv, PyData.eqvAll, Bool.and_true]
  rw [Bool.eq_iff_iff]
  simp only [Bool.and_eq_true, beq_iff_eq, decide_eq_true_eq]
  constructor
  · rintro ⟨h1, h2⟩; exact Rat.ext h1 (by omega)
  · rintro rfl; exact ⟨rfl, rfl⟩

def spLow : Sp := fun vs H Q _ => ∃ t b, vs = [.int t, .int b] ∧ b ≠ 0 ∧ Bd 8900 b ∧ ∀ p H', Same H H' → RatAt H' p (Rat.divInt t b) → Q (.ref p) H'
def spBin (C : Rat → Rat → Prop) (f : Rat → Rat → Rat) : Sp := fun vs H Q _ => ∃ p q x y, vs = [.ref p, .ref q] ∧ RatAt H p x ∧ RatAt H q y ∧ C x y ∧ ∀ r H', Same H H' → RatAt H' r (f x y) → Q (.ref r) H'
def Sz2 (x y : Rat) : Prop := Sz 4000 x ∧ Sz 4000 y
theorem at0 {α : Type} (a b : α) : atI [a, b] 0 = some a := rfl
theorem at1 {α : Type} (a b : α) : atI [a, b] 1 = some b := rfl
theorem Same.upd {H : Hp} {p : Addr} {o : HO} (h : H p = none) : Same H (upd H p o) := fun b u e => by rw [upd_ne (ne_of_none e h)]; exact e
end L2
set_option Elab.async false
set_option linter.all false
set_option maxRecDepth 100000
namespace L2
open PySem PySem.Spec PyProof.Rows

def caps (σ : St) (js : List Nat) : St := js.map fun j => (σ[j]?).getD none
inductive Capt (X : Cx) (scope : Scope) (cl : List (Str × Addr)) : List Str → List Nat → Prop
  | nil : Capt X scope cl [] []
  | cons {x : Str} {j : Nat} {r : List Str} {js : List Nat} : X.N[j]? = some x → X.env.kindOf x = some .cell → (relabel scope X.env).names.lookup x = some .cell → (∃ c, cl.lookup x = some c) → Capt X scope cl r js → Capt X scope cl (x :: r) (j :: js)
section
variable {X : Cx} {scope : Scope} {cl : List (Str × Addr)}
theorem Capt.length : ∀ {r : List Str} {js : List Nat}, Capt X scope cl r js → r.length = js.length
  | _, _, .nil => rfl
  | _, _, .cons _ _ _ _ t => by rw [List.length_cons, List.length_cons, Capt.length t]
theorem Capt.get : ∀ {r : List Str} {js : List Nat} {k : Nat} {x : Str}, Capt X scope cl r js → r[k]? = some x → ∃ j, js[k]? = some j ∧ X.N[j]? = some x ∧ X.env.kindOf x = some .cell ∧ (relabel scope X.env).names.lookup x = some .cell ∧ ∃ c, cl.lookup x = some c
  | _, _, _, _, .nil, e => by simp at e
  | _, _, 0, _, .cons h1 h2 h3 h4 _, e => by
    simp at e; subst e
    exact ⟨_, rfl, h1, h2, h3, h4⟩
  | _, _, k + 1, x, .cons _ _ _ _ t, e => by
    obtain ⟨j, r⟩ := Capt.get (k := k) t (by simpa using e)
    exact ⟨j, by simpa using r⟩
theorem Capt.has {r : List Str} {js : List Nat} (h : Capt X scope cl r js) {x : Str} (hx : x ∈ r) : ∃ c, cl.lookup x = some c := by
  obtain ⟨k, hk⟩ := List.getElem?_of_mem hx
  obtain ⟨_, _, _, _, _, z⟩ := h.get hk
  exact z
end
def cxCompC (X : Cx) (NB FR : List Str) (scope : Scope) (cl : List (Str × Addr)) (s3 : Shared) (H3 : Hp) (fp : List Addr) : Cx :=
  { X with N := NB ++ FR, s₀ := s3, H₀ := H3, env := compEnvC scope cl s3.heap.objs.size X.env, outer := X.stack, stack := X.stack, ex := fp, fn := fun _ => false, pn := [], xe := fun _ _ => False }
def tCompC (n : Nat) (js : List Nat) (wi : TI) (g : TG) (tt : TT) (te : TE) : TE := fun σ H Q => wi σ H fun J H1 => ∀ D, H1 D = none → ∃ W : Nat → Nat → Hp → List V → Prop, (∃ m, W 0 m (upd H1 D (.lst [])) []) ∧
  ∀ i m H2 ys, W i m H2 ys → H2 D = some (.lst ys) → (J.stop i H2 ∧ Q (.ref D) H2) ∨
    (J.go i H2 ∧ ∀ zs x H3, zs.length = n → J.yld i H2 x H3 → g x (zs ++ caps σ js) H3 fun σ4 H4 => σ4.drop n = caps σ js ∧ tt σ4 H4 fun b H5 =>
      if b = true then te σ4 H5 (fun v H6 => H6 D = some (.lst ys) ∧ ys.length < sizeLine ∧ ∃ m', m' < m ∧ W (i + 1) m' (upd H6 D (.lst (ys ++ [v]))) (ys ++ [v]))
      else H5 D = some (.lst ys) ∧ ∃ m', m' < m ∧ W (i + 1) m' H5 ys)

theorem relabel_has {scope : Scope} {env : Env} {FR : List Str} {x : Str} (h : (relabel scope env).names.all (fun y => !(y.2 == .cell || y.2 == .free) || FR.contains y.1) = true)
    (e : (relabel scope env).names.lookup x = some .cell ∨ (relabel scope env).names.lookup x = some .free) : x ∈ FR := by
  have key : ∀ k : NameKind, (k == .cell || k == .free) = true → (x, k) ∈ (relabel scope env).names → x ∈ FR := fun k hk hm => by
    have z := List.all_eq_true.mp h _ hm
    simp only [hk, Bool.not_true, Bool.false_or, List.contains_iff_mem] at z
    exact z
  rcases e with e | e
  · exact key .cell rfl (PySem.mem_of_lookup e)
  · exact key .free rfl (PySem.mem_of_lookup e)

theorem comp_core {X : Cx} {elt tg iter : Expr} {ifs : List Expr} {scope : Scope} {cl : List (Str × Addr)} {pos : Pos} {NB FR : List Str} {js : List Nat} {wi : TI} {g : TG} {tt : TT} {te : TE} {Q : VK} {RR : Value → Addr → Result → Shared → Prop}
    {pins : List (Addr × Obj)} {s : Shared} {σ : St} {H : Hp} (hc : X.calm = true) (hcl : ∀ x c, cl.lookup x = some c → X.env.cells.lookup x = some c) (hcap : Capt X scope cl FR js)
    (hnm : (relabel scope X.env).names.all (fun y => !(y.2 == .cell || y.2 == .free) || FR.contains y.1) = true) (hcell : ∀ x ∈ scope.names, x.2 ≠ .cell) (hkind : scope.kind = .function)
    (hi : PI X tg iter wi) (hb : ∀ s3 H3 fp, PG (cxCompC X NB FR scope cl s3 H3 fp) tg g ∧ PTs (cxCompC X NB FR scope cl s3 H3 fp) ifs tt ∧ PE (cxCompC X NB FR scope cl s3 H3 fp) elt te)
    (I : Inv X pins σ H s) (h : tCompC NB.length js wi g tt te σ H Q)
    (hRR : ∀ D C H' s', Inv X pins σ H' s' → FpOk X pins H' C → (∃ m, s'.heap.Ns C m) → Q (.ref D) H' → RR (.ref D) C (.ok .next) s') :
    wpAny (model X.prog X.w) X.A (eval iter X.env) (fun v s1 => wpAny (model X.prog X.w) X.A (pyIter v) (fun it s2 => wpAny (model X.prog X.w) X.A (newList []) (fun acc s3 =>
      wpAny (model X.prog X.w) X.A (newFunctionEnv scope X.env.globals cl [] X.env.qual none .none (some X.env)) (fun cenv s4 =>
        codeAny (model X.prog X.w) X.A (.compStart (.ListComp elt [⟨tg, iter, ifs, 0⟩] scope pos) 0 it acc { cenv with scope := relabel scope X.env }) (RR acc cenv.locals) s4) X.xe s3) X.xe s2) X.xe s1) X.xe s := by
  refine thn (hi pins s σ H _ I h) fun v s1 h1 => thn h1 fun itv s2 h2 => ?_
  obtain ⟨it, fp, tn, J, H2, e, I2, T, st2, f2, q2⟩ := h2
  subst e
  have hf2 : H2 s2.heap.objs.size = none := I2.hok.fresh (Nat.le_refl _)
  obtain ⟨W, ⟨m0, w0⟩, turn⟩ := q2 _ hf2
  refine wpAny_newObj_type (hd := by size_fits) ?_
  have I3 : Inv X pins σ (upd H2 s2.heap.objs.size (.lst [])) { s2 with heap := s2.heap.push { cls := .type "list", dict := none, data := .seq ([] : List Value).toArray } } :=
    I2.laid (t' := s2.toks) (fun b u e => Heap.get?_push_of_some _ e) (Nat.le_refl _) ⟨by decide, [], 0, .nil, Heap.get?_push_size _ rfl⟩
  generalize hD : s2.heap.objs.size = D at *
  generalize hs3 : ({ s2 with heap := s2.heap.push { cls := .type "list", dict := none, data := .seq ([] : List Value).toArray } } : Shared) = s3 at *
  generalize hH3 : upd H2 D (.lst []) = H3 at *
  have h3D : H3 D = some (.lst []) := by rw [← hH3]; exact upd_same
  have fpD : ∀ b ∈ fp, b ≠ D := fun b hb => by
    obtain ⟨o, e, _⟩ := T.obj _ _ st2 b hb
    rw [← hD]; exact Nat.ne_of_lt (Heap.lt_size e)
  have k23 : ∀ b u, s2.heap.get? b = some u → s3.heap.get? b = some u := fun b u e => by rw [← hs3]; exact Heap.get?_push_of_some _ e
  have st3 : tn 0 s3.heap := T.keep _ _ _ st2 fun b _ o e => k23 b o e
  have f3 : ∀ b ∈ fp, FpOk X pins H3 b := fun b hb => ⟨by rw [← hH3, upd_ne (fpD b hb)]; exact (f2 b hb).1, (f2 b hb).2⟩
  refine wpAny_newFunctionEnv hcell (by intro y hy; simp at hy) (fun h4 hns4 hsb4 => ?_) hkind
  have k34 : ∀ b u, s3.heap.get? b = some u → h4.get? b = some u := fun b u e => hsb4.extBut b u (Nat.ne_of_lt (Heap.lt_size e)) (Heap.get?_push_of_some _ e)
  have okB : (cxCompC X NB FR scope cl s3 H3 fp).Ok := by
    refine ⟨I3.ok.mod, hkind, I3.ok.glob, I3.ok.blt, Nat.le_refl _, fun x y c e1 e2 => I3.ok.inj x y c (hcl _ _ e1) (hcl _ _ e2), fun x e => hcap.has (relabel_has hnm e), (fun x c e => nomatch e), I3.ok.hd, I3.ok.frames, .inl rfl, fun b hb => ⟨?_, fun x c e => ?_⟩, I3.bs, Nat.le_trans I3.ok.bsz I3.sz, fun b o e hb => ?_, fun b hb z => ?_, I3.stack, I3.stkFree⟩
    · obtain ⟨o, e, _⟩ := T.obj _ _ st3 b hb
      exact Nat.ne_of_lt (Heap.lt_size e)
    · exact (f3 b hb).2.2.2.2.1 x c (hcl _ _ e)
    · obtain ⟨_, _, _, z, _⟩ := f3 b hb
      rcases z with z | z
      · exact I3.ok.noex b o e z
      · exact absurd (Nat.lt_of_lt_of_le (Heap.lt_size e) (Nat.le_trans I3.ok.bsz z)) (Nat.lt_irrefl _)
    · obtain ⟨_, z1, z2, _⟩ := f3 b hb
      rcases List.mem_cons.mp (I3.stkSub b z) with e | e
      · exact z1 e
      · exact z2 e
  have IB : Inv (cxCompC X NB FR scope cl s3 H3 fp) [] (List.replicate NB.length none ++ caps σ js) H3 { s3 with heap := h4, toks := s3.toks + ([] : List (Str × Value)).length } := by
    refine ⟨okB, rfl, I3.bare, Un.kept k34, ⟨_, hns4, fun i x v e1 e2 e3 => ?_⟩, fun x c e => ?_, I3.hok.fresh (Nat.le_refl _), fun x c e => I3.freeC x c (hcl _ _ e), fun p hp => ?_, I3.hok.kept k34, ?_⟩
    · by_cases hi : i < NB.length
      · rw [List.getElem?_append_left (by simpa using hi), List.getElem?_replicate, if_pos hi] at e2
        cases e2
      · have e1' : FR[i - NB.length]? = some x := by
          have z : (NB ++ FR)[i]? = some x := e1
          rw [List.getElem?_append_right (by omega)] at z; exact z
        rw [List.getElem?_append_right (by simp; omega), List.length_replicate] at e2
        obtain ⟨j, hj, hN, hk, hb', c, hc'⟩ := hcap.get e1'
        have e2' : σ[j]? = some (some v) := by
          unfold caps at e2
          rw [List.getElem?_map, hj] at e2
          simp only [Option.map_some, Option.some.injEq] at e2
          cases hσ : σ[j]? with
          | none => rw [hσ] at e2; cases e2
          | some o => rw [hσ] at e2; simp only [Option.getD_some] at e2; rw [e2]
        obtain ⟨m, hn, hl⟩ := I3.loc
        obtain ⟨u, ru, lu⟩ := hl j x v hN e2' (.inr (.inl hk))
        refine ⟨u, ru, .inr ⟨.inl hb', c, hc', ?_⟩⟩
        rcases lu with ⟨z, _⟩ | ⟨_, c', z, q⟩
        · rw [hk] at z; cases z
        · rw [hcl _ _ hc'] at z; cases z
          obtain ⟨o, ho, hd⟩ := q
          exact ⟨o, k34 _ _ ho, hd⟩
    · obtain ⟨v, o, ho, hd⟩ := I3.cell x c (hcl _ _ e)
      exact ⟨v, o, k34 _ _ ho, hd⟩
    · exact absurd (show p ∈ ([] : List (Addr × Obj)) from hp) (by simp)
    · show _ = (NB ++ FR).length
      rw [List.length_append, List.length_append, List.length_replicate, hcap.length]
      unfold caps; rw [List.length_map]
  have st4 : tn 0 h4 := T.keep _ _ _ st3 fun b _ o e => k34 b o e
  have stat : ∀ {H' : Hp}, (∀ b ∈ fp, H' b = none) → ∀ b ∈ fp, FpOk (cxCompC X NB FR scope cl s3 H3 fp) [] H' b := fun hn b hb =>
    ⟨hn b hb, (okB.exf b hb).1, okB.exfs b hb, .inl hb, fun x c e => (f3 b hb).2.2.2.2.1 x c (hcl _ _ e), fun p hp => absurd (show p ∈ ([] : List (Addr × Obj)) from hp) (by simp)⟩
  obtain ⟨hg, ht, he⟩ := hb s3 H3 fp
  have fin : ∀ {σ' : St} {H' : Hp} {s' : Shared}, Inv (cxCompC X NB FR scope cl s3 H3 fp) [] σ' H' s' → Q (.ref D) H' → RR (.ref D) s3.heap.objs.size (.ok .next) s' := fun {σ' H' s'} J q => by
    have hm : ∃ m, s'.heap.Ns s3.heap.objs.size m := by
      obtain ⟨m, hm, _⟩ := J.loc
      exact ⟨m, hm⟩
    refine hRR D _ H' s' (I3.call' (ch := fp) J.os J.base J.hok J.bare fun b hb => ?_) (I3.fpOk (Nat.le_refl _) J.free) hm q
    obtain ⟨_, z1, z2, z3, z4, z5⟩ := f3 b hb
    exact ⟨z3, z1, z4, z5⟩
  have loop : ∀ s5 : Shared, s5 = { s3 with heap := h4, toks := s3.toks + ([] : List (Str × Value)).length } →
      codeAny (model X.prog X.w) X.A (.compLoop (.ListComp elt [⟨tg, iter, ifs, 0⟩] scope pos) 0 (.ref it) (.ref D) (compEnvC scope cl s3.heap.objs.size X.env)) (RR (.ref D) s3.heap.objs.size) s5 := by
    rintro s5 rfl
    refine compLoop_any (fun n s' => ∃ i zs H' ys, zs.length = NB.length ∧ Inv (cxCompC X NB FR scope cl s3 H3 fp) [] (zs ++ caps σ js) H' s' ∧ tn i s'.heap ∧ (∀ b ∈ fp, H' b = none) ∧ H' D = some (.lst ys) ∧ W i n H' ys) ?_ m0
      ⟨0, _, H3, [], List.length_replicate, IB, st4, fun b hb => (f3 b hb).1, h3D, by rw [← hH3] at *; exact w0⟩
    rintro n s6 ⟨i, zs, H6, ys, hzs, I6, st6, fr6, hD6, w6⟩
    rcases turn i n H6 ys w6 hD6 with ⟨stop, qn⟩ | ⟨go, step⟩
    · refine thn (T.done (cxCompC X NB FR scope cl s3 H3 fp) rfl rfl rfl hc i [] s6 _ H6 _ I6 (stat fr6) st6 stop) fun r s7 ⟨hr, I7⟩ => ?_
      subst hr
      exact fin I7 qn
    · refine thn (T.item (cxCompC X NB FR scope cl s3 H3 fp) rfl rfl rfl hc i [] s6 _ H6 _ I6 (stat fr6) st6 go) fun r s7 ⟨u, hr, h7⟩ => ?_
      subst hr
      refine thn h7 fun _ s8 ⟨x, H8, I8, r8, y8, st8, fr8⟩ => ?_
      have I8' := I8.pinned (stat fr8) (T.obj _ _ st8)
      have again : ∀ {σ9 : St} {H9 : Hp} {s9 : Shared} {ws : List V} {m' : Nat}, σ9.drop NB.length = caps σ js → Inv (cxCompC X NB FR scope cl s3 H3 fp) ([] ++ pinsAt fp s8.heap) σ9 H9 s9 → H9 D = some (.lst ws) → m' < n → W (i + 1) m' H9 ws →
          ∃ m, m < n ∧ ∃ i zs H' ys, zs.length = NB.length ∧ Inv (cxCompC X NB FR scope cl s3 H3 fp) [] (zs ++ caps σ js) H' s9 ∧ tn i s9.heap ∧ (∀ b ∈ fp, H' b = none) ∧ H' D = some (.lst ys) ∧ W i m H' ys := fun {σ9 H9 s9 ws m'} hdr I9 hz hm w9 => by
        have hl : σ9.length = (NB ++ FR).length := I9.len
        rw [List.length_append] at hl
        refine ⟨m', hm, i + 1, σ9.take NB.length, H9, ws, by rw [List.length_take]; omega, ?_, T.keep _ _ _ st8 fun b hb o e => (I9.pin (b, o) (List.mem_append_right _ (List.mem_append_right _ (mem_pinsAt hb e)))).1, fun b hb => ?_, hz, w9⟩
        · rw [← hdr, List.take_append_drop]; exact I9.unpinned
        · obtain ⟨o, e, d⟩ := T.obj _ _ st8 b hb
          exact (I9.pin (b, o) (List.mem_append_right _ (List.mem_append_right _ (mem_pinsAt hb e)))).2.1
      refine thn (hg _ s8 _ H8 x u _ I8' r8 (step zs x H8 hzs y8)) fun _ s9 ⟨σ9, H9, I9, hdr, q9⟩ => ?_
      refine thn (ht _ s9 σ9 H9 _ I9 q9) fun ok s10 ⟨H10, I10, q10⟩ => ?_
      cases ok with
      | false =>
        rw [if_neg (by decide)] at q10 ⊢
        obtain ⟨hz, m', hm, w'⟩ := q10
        exact again hdr I10 hz hm w'
      | true =>
        rw [if_pos rfl] at q10 ⊢
        refine thn (he _ s10 σ9 H10 _ I10 q10) fun y s11 ⟨v, H11, I11, r11, hz, hlen, m', hm, w'⟩ => ?_
        refine thn (mt_append _ s11 σ9 H11 (.ref D) [v] (.ref D) [y] (fun _ H12 => H12 = upd H11 D (.lst (ys ++ [v]))) I11 rfl (.cons r11 .nil) ⟨D, ys, v, rfl, rfl, hz, hlen, rfl⟩) fun _ s12 ⟨_, H12, I12, _, e12⟩ => ?_
        subst e12
        exact again hdr I12 upd_same hm w'
  exact codeAny_compStart_list (loop _ rfl) (T.self X.A 0 _ _ _ st4 (loop _ rfl))

section
variable {X : Cx} {elt tg iter : Expr} {ifs : List Expr} {scope : Scope} {cl : List (Str × Addr)} {pos spos py : Pos} {NB FR : List Str} {js : List Nat} {wi : TI} {g : TG} {tt : TT} {te : TE}
theorem pe_compC (hc : X.calm = true) (hclos : closureFor scope X.env = pure cl) (hcl : ∀ x c, cl.lookup x = some c → X.env.cells.lookup x = some c) (hcap : Capt X scope cl FR js)
    (hnm : (relabel scope X.env).names.all (fun y => !(y.2 == .cell || y.2 == .free) || FR.contains y.1) = true) (hcell : ∀ x ∈ scope.names, x.2 ≠ .cell) (hkind : scope.kind = .function) (hnames : ∀ x ∈ scope.names, x.2 = .local → scope.names.lookup x.1 = some .local)
    (hi : PI X tg iter wi) (hb : ∀ s3 H3 fp, PG (cxCompC X NB FR scope cl s3 H3 fp) tg g ∧ PTs (cxCompC X NB FR scope cl s3 H3 fp) ifs tt ∧ PE (cxCompC X NB FR scope cl s3 H3 fp) elt te)
    (hs : ∀ x, foldedSetIterable iter X.env x = pure x := by intro _; rfl) :
    PE X (.ListComp elt [⟨tg, iter, ifs, 0⟩] scope pos) (tCompC NB.length js wi g tt te) := by
  intro pins s σ H Q I h
  rw [eval_ListComp]
  refine wpAny_comprehension_free (use := none) rfl hs hclos hkind hnames (comp_core (RR := fun acc C => compPost (model X.prog X.w) X.A X.xe none (EP X pins σ Q) acc C) hc hcl hcap hnm hcell hkind hi hb I h ?_)
  intro D C H' s' I' ⟨f0, f1, f2, f3, f4, f5⟩ ⟨m, hm⟩ q
  exact ⟨m, hm, fun h' sb => ⟨.ref D, H', I'.turned (t' := s'.toks) (fun b o hb e => (sb.2 b hb).trans e) f0 f1 f3 f4 f5, rfl, q⟩⟩
theorem ps_setC {i : Nat} {y : Str} (hc : X.calm = true) (hclos : closureFor scope X.env = pure cl) (hcl : ∀ x c, cl.lookup x = some c → X.env.cells.lookup x = some c) (hcap : Capt X scope cl FR js)
    (hnm : (relabel scope X.env).names.all (fun y => !(y.2 == .cell || y.2 == .free) || FR.contains y.1) = true) (hcell : ∀ x ∈ scope.names, x.2 ≠ .cell) (hkind : scope.kind = .function) (hnames : ∀ x ∈ scope.names, x.2 = .local → scope.names.lookup x.1 = some .local)
    (hN : X.N.Nodup) (hiN : X.N[i]? = some y) (hy : X.env.kindOf y = some .local) (hsw : swapsWith (.ListComp elt [⟨tg, iter, ifs, 0⟩] scope pos) (some (.Name y py)) spos.line X.env = pure true)
    (hi : PI X tg iter wi) (hb : ∀ s3 H3 fp, PG (cxCompC X NB FR scope cl s3 H3 fp) tg g ∧ PTs (cxCompC X NB FR scope cl s3 H3 fp) ifs tt ∧ PE (cxCompC X NB FR scope cl s3 H3 fp) elt te)
    (hs : ∀ x, foldedSetIterable iter X.env x = pure x := by intro _; rfl) :
    PS X (.Assign [.Name y py] (.ListComp elt [⟨tg, iter, ifs, 0⟩] scope pos) spos) (tAsg (tCompC NB.length js wi g tt te) (gName i)) := by
  intro pins s σ H D I h
  rw [exec_Assign_Name_used _ _ _ _ hsw]
  refine wpAny_bind (wpAny_standAt (wpAny_bind ?_))
  show wpAny _ _ (do let _ ← comprehension (.ListComp elt [⟨tg, iter, ifs, 0⟩] scope pos) scope X.env _ (newList []) false (eval iter X.env) (some (assign (.Name y py) X.env))) _ _ s
  refine wpAny_bind (wpAny_mono (wpAny_comprehension_free (use := some (assign (.Name y py) X.env)) (Q := fun _ s' => SP X pins D .next s') rfl hs hclos hkind hnames
    (comp_core (RR := fun acc C => compPost (model X.prog X.w) X.A X.xe (some (assign (.Name y py) X.env)) (fun _ s' => SP X pins D .next s') acc C) hc hcl hcap hnm hcell hkind hi hb I h ?_)) (fun _ s' hq => wpAny_pure (wpAny_pure hq)) fun _ _ e => e)
  intro DD C H' s' I' ⟨f0, f1, f2, f3, f4, f5⟩ ⟨m, hm⟩ q
  show wpAny _ _ (assign (.Name y py) X.env (.ref DD)) _ _ s'
  refine wpAny_assign_Name (store_ok2 (v := .ref DD) I' hN hiN (.inl hy) rfl (fun s'' I'' ⟨a, sa, ha⟩ => ?_) (.inr hy))
  have hCa : C ≠ a := by
    rcases ha with rfl | ha
    · exact f1
    · exact fun z => f4 y a ha z.symm
  exact ⟨m, hm.sameBut sa hCa, fun h' sb => ⟨_, H', I''.turned (t' := s''.toks) (fun b o hb e => (sb.2 b hb).trans e) f0 f1 f3 f4 f5, q⟩⟩
end
end L2
set_option Elab.async false
set_option linter.all false
set_option maxRecDepth 100000
namespace L2
open PySem PySem.Spec PyProof.Rows

section
variable {prog : Program} {w : World} {A : Around} {E : Value → Shared → Prop} {s : Shared}
theorem nt_item {j t : Addr} {i : Nat} {vs : Array Value} {x : Value} {Q : Value → Shared → Prop} (kj : s.heap.IsTupleIter j t i) (kt : s.heap.IsTuple t vs) (kx : vs[i]? = some x)
    (q : ∀ h', h'.IsTupleIter j t (i + 1) → Heap.SameBut j s.heap h' → Q x { s with heap := h' }) : wpAny (model prog w) A (Builtin.SmallTypes.nextOf (.ref j)) Q E s := by
  obtain ⟨oj, e1, e2, e3⟩ := id kj
  obtain ⟨ot, f1, _, nt, f3⟩ := kt
  unfold Builtin.SmallTypes.nextOf
  refine wpAny_bind (wpAny_callSpecial?_slot (name := Str.ofString "__next__") kj.typeIs F.slot_tuple_iterator_next (wpAny_call_entry F.slot_tuple_iterator_next kj.typeIs F.entry_tuple_iterator_next ?_ (F.args_tuple_iterator_next_1 _)))
  show wpAny _ _ (field (.ref j) 0 >>= _) _ _ s
  refine wpAny_bind (wpAny_field e1 e3 (x := .ref t) rfl ?_)
  show wpAny _ _ (if (Value.ref t == .none) = true then _ else _) _ _ s
  rw [if_neg (show ¬ ((Value.ref t == .none) = true) from Bool.false_ne_true)]
  show wpAny _ _ (field (.ref j) 1 >>= _) _ _ s
  refine wpAny_bind (wpAny_field e1 e3 (x := .int i 0) rfl (?_ : wpAny _ _ (seqItems? (.ref t) >>= _) _ _ s))
  refine wpAny_bind (wpAny_seqItems f1 f3 ?_)
  simp only [Int.toNat_natCast, kx]
  refine wpAny_bind (wpAny_setField e1 e3 (by simp) (wpAny_pure ⟨x, rfl, wpAny_pure (q _ ⟨_, Heap.get?_update_self _ e1 (Obj.isFreed_of_fields (Obj.data_mapFields e3 _)), (Obj.cls_mapFields ..).trans e2, ?_⟩ (Heap.SameBut.update ..))⟩))
  rw [Obj.data_mapFields e3]; simp [rawInt]
theorem nt_end {j t : Addr} {i : Nat} {vs : Array Value} {Q : Value → Shared → Prop} (hh : A.handled = none) (kj : s.heap.IsTupleIter j t i) (kt : s.heap.IsTuple t vs) (kx : vs[i]? = none)
    (q : ∀ h' e, Heap.ExtBut j s.heap h' → (∃ o, h'.get? e = some o ∧ o.cls = .type "StopIteration") → E (.ref e) { s with heap := h' }) : wpAny (model prog w) A (Builtin.SmallTypes.nextOf (.ref j)) Q E s := by
  obtain ⟨oj, e1, e2, e3⟩ := id kj
  obtain ⟨ot, f1, _, nt, f3⟩ := kt
  unfold Builtin.SmallTypes.nextOf
  refine wpAny_bind (wpAny_callSpecial?_slot (name := Str.ofString "__next__") kj.typeIs F.slot_tuple_iterator_next (wpAny_call_entry F.slot_tuple_iterator_next kj.typeIs F.entry_tuple_iterator_next ?_ (F.args_tuple_iterator_next_1 _)))
  show wpAny _ _ (field (.ref j) 0 >>= _) _ _ s
  refine wpAny_bind (wpAny_field e1 e3 (x := .ref t) rfl ?_)
  show wpAny _ _ (if (Value.ref t == .none) = true then _ else _) _ _ s
  rw [if_neg (show ¬ ((Value.ref t == .none) = true) from Bool.false_ne_true)]
  show wpAny _ _ (field (.ref j) 1 >>= _) _ _ s
  refine wpAny_bind (wpAny_field e1 e3 (x := .int i 0) rfl (?_ : wpAny _ _ (seqItems? (.ref t) >>= _) _ _ s))
  refine wpAny_bind (wpAny_seqItems f1 f3 ?_)
  simp only [Int.toNat_natCast, kx]
  refine wpAny_bind (wpAny_rule (wpAny_bind (wpAny_setField e1 e3 (by simp) (?_ : wpAny _ _ (newExc (.type "StopIteration") [] >>= _) _ _ _))))
  refine wpAny_bind ?_
  simp only [newExc, newTuple]
  refine wpAny_bind (wpAny_newObj_type (wpAny_bind (m := firstArgMember _ _) (wpAny_of_eq (a := Value.none) (by first | rfl | (simp only [firstArgMember]; rfl)) (wpAny_newObj_type ?_ (by size_fits)))) (by size_fits))
  simp only [raiseNew]
  refine wpAny_bind (wpAny_handled (?_))
  first | rw [show A.in1.handled = none from hh] | rw [hh]
  exact wpAny_bind (wpAny_pure (wpAny_throw (q _ _ (((Heap.SameBut.update ..).extBut.push _).push _) ⟨_, Heap.get?_push_size _ rfl, rfl⟩)))

structure ZT (z TI TO j1 j2 t1 t2 : Addr) (f0 : Value) (i1 i2 : Nat) (h : Heap) : Prop where
  z : IsZip h z TI TO f0
  ti : IsPair h TI (.ref j1) (.ref j2)
  to : ∃ a b, IsPair h TO a b
  i1 : h.IsTupleIter j1 t1 i1
  i2 : h.IsTupleIter j2 t2 i2
structure ZNe (z TI TO j1 j2 : Addr) : Prop where
  a : TI ≠ z
  b : TO ≠ z
  c : j1 ≠ z
  d : j2 ≠ z
  e : TI ≠ TO
  f : TI ≠ j1
  g : TI ≠ j2
  k : TO ≠ j1
  l : TO ≠ j2
  m : j1 ≠ j2
section
variable {z TI TO j1 j2 t1 t2 : Addr} {i : Nat} {xs ys : Array Value}
theorem tup_ne_z {h : Heap} {f0 : Value} {vs : Array Value} {t : Addr} (ht : h.IsTuple t vs) (hz : IsZip h z TI TO f0) : t ≠ z := fun e => by
  obtain ⟨o, e1, e2, _⟩ := ht
  rw [e, hz] at e1; cases e1; simp at e2
theorem tup_ne_j {h : Heap} {vs : Array Value} {t j u : Addr} {n : Nat} (ht : h.IsTuple t vs) (hj : h.IsTupleIter j u n) : t ≠ j := fun e => by
  obtain ⟨o, e1, e2, _⟩ := ht
  obtain ⟨o', f1, f2, _⟩ := hj
  rw [e, f1] at e1; cases e1; rw [f2] at e2; simp at e2
theorem zt_item {x y : Value} {Q : Option Value → Shared → Prop} (D : ZNe z TI TO j1 j2) (Z : ZT z TI TO j1 j2 t1 t2 .none i i s.heap) (k1 : s.heap.IsTuple t1 xs) (k2 : s.heap.IsTuple t2 ys) (n1 : t1 ≠ TO) (n2 : t2 ≠ TO) (ex : xs[i]? = some x) (ey : ys[i]? = some y)
    (q : ∀ h', ZT z TI TO j1 j2 t1 t2 (rawInt s.heap.objs.size) (i + 1) (i + 1) h' → IsPair h' s.heap.objs.size x y → h'.objs.size = s.heap.objs.size + 1 →
      (∀ c o, c ≠ z → c ≠ TO → c ≠ j1 → c ≠ j2 → s.heap.get? c = some o → h'.get? c = some o) → Q (some (.ref s.heap.objs.size)) { s with heap := h' }) : wpAny (model prog w) A (pyNext (.ref z)) Q E s := by
  obtain ⟨Zz, Zi, ⟨a, b, Zo⟩, Z1, Z2⟩ := Z
  have ty : s.TypeIs (.ref z) "zip" := ⟨_, Zz, rfl⟩
  unfold pyNext
  refine wpAny_bind (wpAny_attempt (wpAny_callSpecial?_slot (name := Str.ofString "__next__") ty F.slot_zip_next (wpAny_call_entry F.slot_zip_next ty F.entry_zip_next ?_ (F.args_zip_next_1 _))))
  show wpAny _ _ (field (.ref z) 2 >>= _) _ _ s
  refine wpAny_bind (wpAny_field Zz rfl (x := .bool false) rfl (?_ : wpAny _ _ (field (.ref z) 3 >>= _) _ _ s))
  refine wpAny_bind (wpAny_field Zz rfl (x := .ref TI) rfl (wpAny_bind (wpAny_seqItems Zi rfl (?_ : wpAny _ _ (Builtin.SmallTypes.ownedTupleIsFree (.ref z) >>= _) _ _ s))))
  refine wpAny_bind ?_; unfold Builtin.SmallTypes.ownedTupleIsFree
  refine wpAny_bind (wpAny_field Zz rfl (x := .none) rfl (wpAny_pure ?_))
  simp only [if_true]
  refine wpAny_bind (wpAny_rule (wpAny_bind (wpAny_field Zz rfl (x := .ref TO) rfl (wpAny_bind (wpAny_setField_rec Zz (by simp) fun g1 Zz1 m1 => ?_)))))
  replace Zz1 : IsZip g1 z TI TO .ellipsis := Zz1
  refine wpAny_bind ?_; simp only [List.zipIdx_cons, List.zipIdx_nil, List.forIn_cons, List.forIn_nil]
  refine wpAny_bind (wpAny_bind (wpAny_onRaise (?_ : wpAny _ _ (Builtin.SmallTypes.nextOf (.ref j1) >>= _) _ _ _)))
  refine wpAny_bind (nt_item (Z1.extBut m1.extBut D.c) (k1.extBut m1.extBut (tup_ne_z k1 Zz)) ex fun g2 Z12 m2 => wpAny_pure ?_)
  have Zo2 : IsPair g2 TO a b := m2.extBut _ _ D.k (m1.extBut _ _ D.b Zo)
  refine wpAny_bind (wpAny_seqItems Zo2 rfl (wpAny_bind (wpAny_updateSeq_pair Zo2 fun g3 Zo3 m3 => wpAny_bind (wpAny_letGo (wpAny_pure ?_)))))
  replace Zo3 : IsPair g3 TO x b := Zo3
  refine wpAny_bind (wpAny_bind (wpAny_onRaise (?_ : wpAny _ _ (Builtin.SmallTypes.nextOf (.ref j2) >>= _) _ _ _)))
  refine wpAny_bind (nt_item (((Z2.extBut m1.extBut D.d).extBut m2.extBut D.m.symm).extBut m3.extBut D.l.symm) (((k2.extBut m1.extBut (tup_ne_z k2 Zz)).extBut m2.extBut (tup_ne_j k2 Z1)).extBut m3.extBut n2) ey fun g4 Z24 m4 => wpAny_pure ?_)
  have Zo4 : IsPair g4 TO x b := m4.extBut _ _ D.l Zo3
  refine wpAny_bind (wpAny_seqItems Zo4 rfl (wpAny_bind (wpAny_updateSeq_pair Zo4 fun g5 Zo5 m5 => wpAny_bind (wpAny_letGo (wpAny_pure (wpAny_pure ?_))))))
  replace Zo5 : IsPair g5 TO x y := Zo5
  refine wpAny_bind (wpAny_seqItems Zo5 rfl (wpAny_bind (wpAny_newTuple ?_)))
  have sz : g5.objs.size = s.heap.objs.size := by rw [m5.1, m4.1, m3.1, m2.1, m1.1]
  have Zz5 : IsZip g5 z TI TO .ellipsis := m5.extBut _ _ D.b.symm (m4.extBut _ _ D.d.symm (m3.extBut _ _ D.b.symm (m2.extBut _ _ D.c.symm Zz1)))
  have kp : ∀ c o, c ≠ z → c ≠ TO → c ≠ j1 → c ≠ j2 → s.heap.get? c = some o → g5.get? c = some o := fun c o c1 c2 c3 c4 e => m5.extBut _ _ c2 (m4.extBut _ _ c4 (m3.extBut _ _ c2 (m2.extBut _ _ c3 (m1.extBut _ _ c1 e))))
  have Z15 : g5.IsTupleIter j1 t1 (i + 1) := ((Z12.extBut m3.extBut D.k.symm).extBut m4.extBut D.m).extBut m5.extBut D.k.symm
  have Z25 : g5.IsTupleIter j2 t2 (i + 1) := Z24.extBut m5.extBut D.l.symm
  have zlt : g5.objs.size ≠ z := Nat.ne_of_gt (Heap.lt_size Zz5)
  show wpAny _ _ (Builtin.SmallTypes.ownedTupleHandOut (.ref z) (.ref g5.objs.size) >>= _) _ _ _
  refine wpAny_bind ?_; unfold Builtin.SmallTypes.ownedTupleHandOut
  refine wpAny_bind (wpAny_setField_rec (Heap.get?_push_of_some _ Zz5) (by simp) fun g7 Zz7 m7 => ?_)
  replace Zz7 : IsZip g7 z TI TO (rawInt g5.objs.size) := Zz7
  refine wpAny_setField_rec Zz7 (by simp) fun g8 Zz8 m8 => ?_
  replace Zz8 : IsZip g8 z TI TO (rawInt g5.objs.size) := Zz8
  have up : ∀ c o, c ≠ z → g5.get? c = some o → g8.get? c = some o := fun c o c1 e => m8.extBut _ _ c1 (m7.extBut _ _ c1 (Heap.get?_push_of_some _ e))
  have T8 : IsPair g8 g5.objs.size x y := m8.extBut _ _ zlt (m7.extBut _ _ zlt (Heap.get?_push_size _ rfl))
  have s8 : g8.objs.size = g5.objs.size + 1 := by rw [m8.1, m7.1, Heap.size_push]
  refine wpAny_pure ⟨_, rfl, wpAny_pure ?_⟩
  rw [sz] at Zz8 T8 s8
  show Q (some (.ref g5.objs.size)) _
  rw [sz]
  exact q g8 ⟨Zz8, up _ _ D.a (kp _ _ D.a D.e D.f D.g Zi), ⟨_, _, up _ _ D.b Zo5⟩, Z15.at fun o e => up _ o D.c e, Z25.at fun o e => up _ o D.d e⟩ T8 s8 fun c o c1 c2 c3 c4 e => up c o c1 (kp c o c1 c2 c3 c4 e)
theorem zt_end {Q : Option Value → Shared → Prop} (hh : A.handled = none) (D : ZNe z TI TO j1 j2) (Z : ZT z TI TO j1 j2 t1 t2 .none i i s.heap) (k1 : s.heap.IsTuple t1 xs) (k2 : s.heap.IsTuple t2 ys) (n2 : t2 ≠ TO) (en : xs[i]? = none ∨ ys[i]? = none)
    (q : ∀ h', (∀ c o, c ≠ z → c ≠ TO → c ≠ j1 → c ≠ j2 → s.heap.get? c = some o → h'.get? c = some o) → Q none { s with heap := h' }) : wpAny (model prog w) A (pyNext (.ref z)) Q E s := by
  obtain ⟨Zz, Zi, ⟨a, b, Zo⟩, Z1, Z2⟩ := Z
  have ty : s.TypeIs (.ref z) "zip" := ⟨_, Zz, rfl⟩
  have fin : ∀ (g' : Heap) (e : Addr), (∀ c o, c ≠ z → c ≠ TO → c ≠ j1 → c ≠ j2 → s.heap.get? c = some o → g'.get? c = some o) → (∃ o, g'.get? e = some o ∧ o.cls = .type "StopIteration") →
      wpAny (model prog w) A (do if ← isInstance (.ref e) (.type "StopIteration") then pure none else throw (.ref e) : Sem (Option Value)) Q E { s with heap := g' } := fun g' e kk ⟨o, ho, hc⟩ =>
    wpAny_bind (wpAny_isInstance (T := "StopIteration") (b := true) ⟨o, ho, hc⟩ isSubtype_stop (wpAny_pure (q g' kk)))
  unfold pyNext
  refine wpAny_bind (wpAny_attempt (wpAny_callSpecial?_slot (name := Str.ofString "__next__") ty F.slot_zip_next (wpAny_call_entry F.slot_zip_next ty F.entry_zip_next ?_ (F.args_zip_next_1 _))))
  show wpAny _ _ (field (.ref z) 2 >>= _) _ _ s
  refine wpAny_bind (wpAny_field Zz rfl (x := .bool false) rfl (?_ : wpAny _ _ (field (.ref z) 3 >>= _) _ _ s))
  refine wpAny_bind (wpAny_field Zz rfl (x := .ref TI) rfl (wpAny_bind (wpAny_seqItems Zi rfl (?_ : wpAny _ _ (Builtin.SmallTypes.ownedTupleIsFree (.ref z) >>= _) _ _ s))))
  refine wpAny_bind ?_; unfold Builtin.SmallTypes.ownedTupleIsFree
  refine wpAny_bind (wpAny_field Zz rfl (x := .none) rfl (wpAny_pure ?_))
  simp only [if_true]
  refine wpAny_bind (wpAny_rule (wpAny_bind (wpAny_field Zz rfl (x := .ref TO) rfl (wpAny_bind (wpAny_setField_rec Zz (by simp) fun g1 Zz1 m1 => ?_)))))
  replace Zz1 : IsZip g1 z TI TO .ellipsis := Zz1
  refine wpAny_bind ?_; simp only [List.zipIdx_cons, List.zipIdx_nil, List.forIn_cons, List.forIn_nil]
  refine wpAny_bind (wpAny_bind (wpAny_onRaise (?_ : wpAny _ _ (Builtin.SmallTypes.nextOf (.ref j1) >>= _) _ _ _)))
  cases ex : xs[i]? with
  | none =>
    refine wpAny_bind (nt_end hh (Z1.extBut m1.extBut D.c) (k1.extBut m1.extBut (tup_ne_z k1 Zz)) ex fun g2 e m2 ⟨oe, e1, e2⟩ => ?_)
    have Zz2 : IsZip g2 z TI TO .ellipsis := m2 _ _ D.c.symm Zz1
    have ne : e ≠ z := fun r => by subst r; rw [Zz2] at e1; cases e1; simp at e2
    exact wpAny_setField_rec Zz2 (by simp) fun g3 _ m3 => fin g3 e (fun c o c1 _ c3 _ r => m3.extBut _ _ c1 (m2 _ _ c3 (m1.extBut _ _ c1 r))) ⟨oe, m3.extBut _ _ ne e1, e2⟩
  | some x =>
    have ey : ys[i]? = none := by
      rcases en with r | r
      · rw [ex] at r; cases r
      · exact r
    refine wpAny_bind (nt_item (Z1.extBut m1.extBut D.c) (k1.extBut m1.extBut (tup_ne_z k1 Zz)) ex fun g2 Z12 m2 => wpAny_pure ?_)
    have Zo2 : IsPair g2 TO a b := m2.extBut _ _ D.k (m1.extBut _ _ D.b Zo)
    refine wpAny_bind (wpAny_seqItems Zo2 rfl (wpAny_bind (wpAny_updateSeq_pair Zo2 fun g3 Zo3 m3 => wpAny_bind (wpAny_letGo (wpAny_pure ?_)))))
    refine wpAny_bind (wpAny_bind (wpAny_onRaise (?_ : wpAny _ _ (Builtin.SmallTypes.nextOf (.ref j2) >>= _) _ _ _)))
    refine wpAny_bind (nt_end hh (((Z2.extBut m1.extBut D.d).extBut m2.extBut D.m.symm).extBut m3.extBut D.l.symm) (((k2.extBut m1.extBut (tup_ne_z k2 Zz)).extBut m2.extBut (tup_ne_j k2 Z1)).extBut m3.extBut n2) ey fun g4 e m4 ⟨oe, e1, e2⟩ => ?_)
    have Zz4 : IsZip g4 z TI TO .ellipsis := m4 _ _ D.d.symm (m3.extBut _ _ D.b.symm (m2.extBut _ _ D.c.symm Zz1))
    have ne : e ≠ z := fun r => by subst r; rw [Zz4] at e1; cases e1; simp at e2
    exact wpAny_setField_rec Zz4 (by simp) fun g5 _ m5 => fin g5 e (fun c o c1 c2 c3 c4 r => m5.extBut _ _ c1 (m4 _ _ c4 (m3.extBut _ _ c2 (m2.extBut _ _ c3 (m1.extBut _ _ c1 r))))) ⟨oe, m5.extBut _ _ ne e1, e2⟩
end
end

def Itz (K : PySem.W.Frag) (t1 t2 : Addr) : It :=
  ⟨fun i H => ∃ xs ys x y, SqT K H t1 xs ∧ SqT K H t2 ys ∧ xs[i]? = some x ∧ ys[i]? = some y,
   fun i H v H' => ∃ T x y, v = .ref T ∧ H T = none ∧ H' = upd H T (.tup [x, y]) ∧ (∀ xs, SqT K H t1 xs → xs[i]? = some x) ∧ ∀ ys, SqT K H t2 ys → ys[i]? = some y,
   fun i H => ∃ xs ys, SqT K H t1 xs ∧ SqT K H t2 ys ∧ (xs.length ≤ i ∨ ys.length ≤ i)⟩
theorem turn_zip {P : Program} {w : World} {K : PySem.W.Frag} {elts : List Expr} {kc : Nat} {tp : Pos} (z TI TO j1 j2 t1 t2 : Addr) (D : ZNe z TI TO j1 j2) (n1 : t1 ≠ TO) (n2 : t2 ≠ TO) :
    Turn P w K (.Tuple elts kc tp) (Itz K t1 t2) [z, TI, TO, j1, j2] z (fun i h => ZT z TI TO j1 j2 t1 t2 .none i i h) where
  mem := by simp
  obj := fun i h st b hb => by
    obtain ⟨Zz, Zi, ⟨u, v, Zo⟩, ⟨o1, e1, _, d1⟩, ⟨o2, e2, _, d2⟩⟩ := st
    simp only [List.mem_cons, List.not_mem_nil, or_false] at hb
    rcases hb with rfl | rfl | rfl | rfl | rfl
    · exact ⟨_, Zz, fun _ r => by cases r⟩
    · exact ⟨_, Zi, fun _ r => by cases r⟩
    · exact ⟨_, Zo, fun _ r => by cases r⟩
    · exact ⟨_, e1, fun _ r => by rw [d1] at r; cases r⟩
    · exact ⟨_, e2, fun _ r => by rw [d2] at r; cases r⟩
  keep := fun i h h' st k => by
    obtain ⟨Zz, Zi, ⟨u, v, Zo⟩, Z1, Z2⟩ := st
    exact ⟨k z (by simp) _ Zz, k TI (by simp) _ Zi, ⟨u, v, k TO (by simp) _ Zo⟩, Z1.at fun o e => k j1 (by simp) o e, Z2.at fun o e => k j2 (by simp) o e⟩
  item := by
    intro X hP hw hK hc i pins s σ H E I hf st hg
    subst hP hw hK
    obtain ⟨xs, ys, x, y, h1, h2, ex, ey⟩ := hg
    obtain ⟨us, r1, p1, _⟩ := I.tuple h1
    obtain ⟨vs, r2, p2, _⟩ := I.tuple h2
    obtain ⟨ux, eu, rx⟩ := r1.get ex
    obtain ⟨uy, ev, ry⟩ := r2.get ey
    refine zt_item D st (xs := us.toArray) (ys := vs.toArray) p1 p2 n1 n2 (x := ux) (y := uy) (by simpa using eu) (by simpa using ev) fun h' st' pr sz kk => ⟨_, rfl, ?_⟩
    obtain ⟨Zz, Zi, ⟨ua, ub, Zo⟩, Z1, Z2⟩ := st'
    refine wpAny_letOwnedTupleGo_zip Zz fun h2' Zz' sb => ?_
    have hTz : s.heap.objs.size ≠ z := Nat.ne_of_gt (Heap.lt_size st.z)
    have kk2 : ∀ c o, c ≠ z → c ≠ TO → c ≠ j1 → c ≠ j2 → s.heap.get? c = some o → h2'.get? c = some o := fun c o c1 c2 c3 c4 e => (sb.2 c c1).trans (kk c o c1 c2 c3 c4 e)
    have prT : h2'.get? s.heap.objs.size = some { cls := .type "tuple", data := .seq #[ux, uy] } := (sb.2 _ hTz).trans pr
    have hT : H s.heap.objs.size = none := I.hok.fresh (Nat.le_refl _)
    have neC : ∀ b, b ∉ [z, TO, j1, j2] → b ≠ z ∧ b ≠ TO ∧ b ≠ j1 ∧ b ≠ j2 := fun b hb => by simpa using hb
    have trk : ∀ b u, H b = some u → b ≠ z ∧ b ≠ TO ∧ b ≠ j1 ∧ b ≠ j2 := fun b u e => by
      refine ⟨?_, ?_, ?_, ?_⟩ <;> rintro rfl
      · rw [(hf b (by simp)).1] at e; cases e
      · rw [(hf b (by simp)).1] at e; cases e
      · rw [(hf b (by simp)).1] at e; cases e
      · rw [(hf b (by simp)).1] at e; cases e
    have ltT : ∀ b o, s.heap.get? b = some o → b ≠ s.heap.objs.size := fun b o e => Nat.ne_of_lt (Heap.lt_size e)
    have u : Un (frs X.stack) [z, TO, j1, j2] H (upd H s.heap.objs.size (.tup [x, y])) s.heap h2' :=
      ⟨fun b o e n _ hb => by obtain ⟨c1, c2, c3, c4⟩ := neC b hb; exact kk2 b o c1 c2 c3 c4 e, fun b o e n _ hb => by obtain ⟨c1, c2, c3, c4⟩ := neC b hb; exact ⟨o.slots, kk2 b o c1 c2 c3 c4 e⟩,
        fun b o e n hb => by rw [upd_ne (ltT b o e)]; exact n, fun b o e hb => by obtain ⟨c1, c2, c3, c4⟩ := neC b hb; exact ⟨o, kk2 b o c1 c2 c3 c4 e⟩,
        fun b ws e => by rw [upd_ne (ne_of_none e hT)]; exact e, fun b o ws e => by rw [upd_ne (ne_of_none e hT)]; exact e, fun b ps e => ⟨#[], by rw [upd_ne (ne_of_none e hT), e]; simp⟩⟩
    have hok : HOk X.prog X.w (upd H s.heap.objs.size (.tup [x, y])) h2' := fun b ob e => by
      by_cases hb : b = s.heap.objs.size
      · subst hb
        rw [upd_same] at e; cases e
        exact ⟨by show 2 ≤ sizeLine; decide, [ux, uy], .cons rx (.cons ry .nil), _, prT, rfl, 0, rfl⟩
      · rw [upd_ne hb] at e
        refine (I.hok b ob e).stay (fun c v hc' qc => ?_) (fun c q => by rw [upd_ne (ne_of_none q hT)]; exact q) fun c ws q => by rw [upd_ne (ne_of_none q hT)]; exact q
        have : ∃ o, H c = some o := by
          rcases hc' with rfl | hc'
          · exact ⟨_, e⟩
          · exact ⟨_, hc'⟩
        obtain ⟨o, ho⟩ := this
        obtain ⟨c1, c2, c3, c4⟩ := trk c o ho
        exact kk2 c v c1 c2 c3 c4 qc
    refine ⟨.ref s.heap.objs.size, upd H s.heap.objs.size (.tup [x, y]), ?_, rfl, ⟨_, x, y, rfl, hT, rfl, fun xs' h => by rw [I.tuple_inj h h1]; exact ex, fun ys' h => by rw [I.tuple_inj h h2]; exact ey⟩,
      ⟨Zz', (sb.2 _ D.a).trans Zi, ⟨_, _, (sb.2 _ D.b).trans Zo⟩, Z1.at fun o e => (sb.2 _ D.c).trans e, Z2.at fun o e => (sb.2 _ D.d).trans e⟩, fun b hb => ?_⟩
    · refine I.call' (s' := { s with heap := h2' }) (ch := [z, TO, j1, j2]) rfl u hok I.bare fun b hb => ?_
      obtain ⟨_, z1, z2, z3, z4, z5⟩ := hf b (by simp only [List.mem_cons, List.not_mem_nil, or_false] at hb ⊢; rcases hb with r | r | r | r <;> simp [r])
      exact ⟨z3, z1, z4, z5⟩
    · obtain ⟨o, e, _⟩ : ∃ o, s.heap.get? b = some o ∧ True := by
        obtain ⟨Zz, Zi, ⟨u, v, Zo⟩, ⟨o1, e1, _, d1⟩, ⟨o2, e2, _, d2⟩⟩ := st
        simp only [List.mem_cons, List.not_mem_nil, or_false] at hb
        rcases hb with rfl | rfl | rfl | rfl | rfl
        · exact ⟨_, Zz, trivial⟩
        · exact ⟨_, Zi, trivial⟩
        · exact ⟨_, Zo, trivial⟩
        · exact ⟨_, e1, trivial⟩
        · exact ⟨_, e2, trivial⟩
      rw [upd_ne (ltT b o e)]; exact (hf b hb).1
  done := by
    intro X hP hw hK hc i pins s σ H E I hf st hg
    subst hP hw hK
    obtain ⟨xs, ys, h1, h2, en⟩ := hg
    obtain ⟨us, r1, p1, _⟩ := I.tuple h1
    obtain ⟨vs, r2, p2, _⟩ := I.tuple h2
    have l1 := r1.length
    have l2 := r2.length
    refine zt_end (I.ok.hd hc) D st (xs := us.toArray) (ys := vs.toArray) p1 p2 n2 (by rcases en with r | r; exact .inl (by simp; omega); exact .inr (by simp; omega)) fun h' kk => ⟨rfl, ?_⟩
    have neC : ∀ b, b ∉ [z, TO, j1, j2] → b ≠ z ∧ b ≠ TO ∧ b ≠ j1 ∧ b ≠ j2 := fun b hb => by simpa using hb
    have u : Un (frs X.stack) [z, TO, j1, j2] H H s.heap h' :=
      ⟨fun b o e n _ hb => by obtain ⟨c1, c2, c3, c4⟩ := neC b hb; exact kk b o c1 c2 c3 c4 e, fun b o e n _ hb => by obtain ⟨c1, c2, c3, c4⟩ := neC b hb; exact ⟨o.slots, kk b o c1 c2 c3 c4 e⟩,
        fun b o e n hb => n, fun b o e hb => by obtain ⟨c1, c2, c3, c4⟩ := neC b hb; exact ⟨o, kk b o c1 c2 c3 c4 e⟩, fun b ws e => e, fun b o ws e => e, fun b ps e => ⟨#[], by rw [e]; simp⟩⟩
    have hok : HOk X.prog X.w H h' := fun b ob e => by
      refine (I.hok b ob e).stay (fun c v hc' qc => ?_) (fun c q => q) fun c ws q => q
      have : ∃ o, H c = some o := by
        rcases hc' with rfl | hc'
        · exact ⟨_, e⟩
        · exact ⟨_, hc'⟩
      obtain ⟨o, ho⟩ := this
      have nn : ∀ d ∈ [z, TI, TO, j1, j2], c ≠ d := fun d hd r => by subst r; rw [(hf c hd).1] at ho; cases ho
      exact kk c v (nn _ (by simp)) (nn _ (by simp)) (nn _ (by simp)) (nn _ (by simp)) qc
    refine I.call' (s' := { s with heap := h' }) (ch := [z, TO, j1, j2]) rfl u hok I.bare fun b hb => ?_
    obtain ⟨_, z1, z2, z3, z4, z5⟩ := hf b (by simp only [List.mem_cons, List.not_mem_nil, or_false] at hb ⊢; rcases hb with r | r | r | r <;> simp [r])
    exact ⟨z3, z1, z4, z5⟩
  self := fun _ _ _ _ _ st h => wpAny_pyIter_zip st.z h

def zp1 (h : Heap) (t : Addr) : Heap := h.push { cls := .type "tuple_iterator", data := .fields #[.ref t, .int 0 0] }
theorem zp1_size (h : Heap) (t : Addr) : (zp1 h t).objs.size = h.objs.size + 1 := Heap.size_push ..
def zp5 (h : Heap) (t u : Addr) : Heap := (((zp1 (zp1 h t) u).push { cls := .type "tuple", data := .seq #[.ref h.objs.size, .ref (zp1 h t).objs.size] }).push { cls := .type "tuple", data := .seq #[.none, .none] }).push
  { cls := .type "zip", data := .fields #[.none, .bool false, .bool false, .ref (h.objs.size + 2), .ref (h.objs.size + 3)] }
theorem zip_new (t u : Addr) (xs ys : Array Value) : Meets (Builtin.«zip.__new__» ⟨[.type "zip", .ref t, .ref u], []⟩) (fun _ R s => s.heap.IsTuple t xs ∧ s.heap.IsTuple u ys ∧ R (.ok (.ret (.ref (s.heap.objs.size + 4)))) { s with heap := zp5 s.heap t u }) :=
  .of_wp fun prog w A R s h => by
    obtain ⟨hp, g, d, tk, os⟩ := s; obtain ⟨k1, k2, h⟩ := h
    have hs := sub_zip
    have z1 : (hp.push { cls := .type "tuple_iterator", data := .fields #[.ref t, .int 0 0] }).objs.size = hp.objs.size + 1 := Heap.size_push ..
    have K1 : Heap.IsTuple (Shared.heap ⟨hp, g, d, tk, os⟩) t xs := k1
    have K2 : Heap.IsTuple (Shared.heap ⟨hp.push { cls := .type "tuple_iterator", data := .fields #[.ref t, .int 0 0] }, g, d, tk, os⟩) u ys := k2.push _
    wp_walk using wpAny_pyIter_tuple K1, wpAny_pyIter_tuple K2
    refine ⟨_, rfl, ?_⟩
    unfold zp5 zp1 at h
    simp only [Heap.size_push] at h ⊢
    exact h
end L2
set_option Elab.async false
set_option linter.all false
set_option maxRecDepth 100000
namespace L2
open PySem PySem.Spec PyProof.Rows
section
variable {X : Cx}
def iZip (K : PySem.W.Frag) (t : TA) : TI := fun σ H R => t σ H fun vs H1 => ∃ t1 t2, vs = [.ref t1, .ref t2] ∧ (∃ xs, SqT K H1 t1 xs) ∧ (∃ ys, SqT K H1 t2 ys) ∧ R (Itz K t1 t2) H1
theorem zp5_get {h : Heap} {t u : Addr} : IsZip (zp5 h t u) (h.objs.size + 4) (h.objs.size + 2) (h.objs.size + 3) .none ∧ IsPair (zp5 h t u) (h.objs.size + 2) (.ref h.objs.size) (.ref (h.objs.size + 1)) ∧ IsPair (zp5 h t u) (h.objs.size + 3) .none .none ∧
    (zp5 h t u).IsTupleIter h.objs.size t 0 ∧ (zp5 h t u).IsTupleIter (h.objs.size + 1) u 0 ∧ ∀ c o, h.get? c = some o → (zp5 h t u).get? c = some o := by
  have z1 := zp1_size h t
  have z2 : (zp1 (zp1 h t) u).objs.size = h.objs.size + 2 := by rw [zp1_size, z1]
  have z3 : ((zp1 (zp1 h t) u).push { cls := .type "tuple", data := .seq #[.ref h.objs.size, .ref (zp1 h t).objs.size] }).objs.size = h.objs.size + 3 := by rw [Heap.size_push, z2]
  have z4 : (((zp1 (zp1 h t) u).push { cls := .type "tuple", data := .seq #[.ref h.objs.size, .ref (zp1 h t).objs.size] }).push { cls := .type "tuple", data := .seq #[.none, .none] }).objs.size = h.objs.size + 4 := by rw [Heap.size_push, z3]
  unfold zp5
  refine ⟨?_, ?_, ?_, ?_, ?_, fun c o e => ?_⟩
  · rw [← z4]; exact Heap.get?_push_size _ rfl
  · refine Heap.get?_push_of_some _ (Heap.get?_push_of_some _ ?_)
    rw [← z2, ← z1]; exact Heap.get?_push_size _ rfl
  · refine Heap.get?_push_of_some _ ?_
    rw [← z3]; exact Heap.get?_push_size _ rfl
  · exact ⟨_, Heap.get?_push_of_some _ (Heap.get?_push_of_some _ (Heap.get?_push_of_some _ (Heap.get?_push_of_some _ (Heap.get?_push_size _ rfl)))), rfl, rfl⟩
  · refine ⟨{ cls := .type "tuple_iterator", data := .fields #[.ref u, .int 0 0] }, Heap.get?_push_of_some _ (Heap.get?_push_of_some _ (Heap.get?_push_of_some _ ?_)), rfl, rfl⟩
    rw [← z1]; exact Heap.get?_push_size _ rfl
  · exact Heap.get?_push_of_some _ (Heap.get?_push_of_some _ (Heap.get?_push_of_some _ (Heap.get?_push_of_some _ (Heap.get?_push_of_some _ e))))
theorem nne {a b : Nat} (h : a < b) : a ≠ b := Nat.ne_of_lt h
theorem pi_zip {a b : Expr} {ta : TA} {p pos tp : Pos} {elts : List Expr} {kc : Nat} (hg : Gl X "zip") (hm : X.mg "zip" = none) (ha : PA X [a, b] ta) (hs : starEach [a, b] X.env = [(false, eval a X.env), (false, eval b X.env)] := by rfl) (hs2 : starEach [b] X.env = [(false, eval b X.env)] := by rfl) :
    PI X (.Tuple elts kc tp) (.Call (.Name "zip" p) [a, b] [] pos) (iZip X.K ta) := by
  intro pins s σ H R I h
  refine Call_ (ld_blt I hg hm (by decide +kernel : bootBuiltins "zip" = some (.type "zip")) (PyProof.Rows.callWith_type1 (thn (ha pos pins s σ H _ I h) fun us s1 ⟨vs, H1, I1, r1, q1⟩ => ?_) (by rw [hs, hs2]) (by rw [hs2]; rfl)))
  obtain ⟨t1, t2, e, ⟨xs, k1⟩, ⟨ys, k2⟩, q⟩ := q1
  subst e
  obtain ⟨u1, u2, rfl, ru1, ru2⟩ := vals2 r1
  cases (show u1 = Value.ref t1 from ru1)
  cases (show u2 = Value.ref t2 from ru2)
  obtain ⟨as, ra, pa, _⟩ := I1.tuple k1
  obtain ⟨bs, rb, pb, _⟩ := I1.tuple k2
  refine callType_new F.called_zip (by decide) (F.typeCall_zip_2 _ _) (F.newCall_zip_2 _ _) (fun obj => F.args_object_init_3 obj _ _) F.entry_zip_new (zip_new t1 t2 as.toArray bs.toArray) ⟨pa, pb, ?_⟩
  obtain ⟨g1, g2, g3, g4, g5, g6⟩ := zp5_get (h := s1.heap) (t := t1) (u := t2)
  have l1 : t1 < s1.heap.objs.size := by obtain ⟨o, e, _⟩ := pa; exact Heap.lt_size e
  have l2 : t2 < s1.heap.objs.size := by obtain ⟨o, e, _⟩ := pb; exact Heap.lt_size e
  show _ ∧ _
  refine ⟨⟨_, g1, rfl⟩, wpAny_pyIter_zip g1 ⟨_, [s1.heap.objs.size + 4, s1.heap.objs.size + 2, s1.heap.objs.size + 3, s1.heap.objs.size, s1.heap.objs.size + 1], _, _, H1, rfl, I1.kept (t' := s1.toks) g6,
    turn_zip (s1.heap.objs.size + 4) (s1.heap.objs.size + 2) (s1.heap.objs.size + 3) s1.heap.objs.size (s1.heap.objs.size + 1) t1 t2 ?_ ?_ ?_, ⟨g1, g2, ⟨_, _, g3⟩, g4, g5⟩, fun b hb => ?_, q⟩⟩
  · constructor <;> (intro z; simp only [Nat.add_right_inj, Nat.add_eq_left, Nat.left_eq_add] at z; try omega)
  · exact nne (Nat.lt_of_lt_of_le l1 (Nat.le_add_right _ _))
  · exact nne (Nat.lt_of_lt_of_le l2 (Nat.le_add_right _ _))
  · have hb' : s1.heap.objs.size ≤ b := by
      simp only [List.mem_cons, List.not_mem_nil, or_false] at hb
      rcases hb with rfl | rfl | rfl | rfl | rfl
      · exact Nat.le_add_right _ _
      · exact Nat.le_add_right _ _
      · exact Nat.le_add_right _ _
      · exact Nat.le_refl _
      · exact Nat.le_add_right _ _
    exact I1.fpOk hb' (I1.hok.fresh hb')

theorem bls_get : ∀ {bs : List Bool} {us : List Value} {i : Nat} {v : Value}, Vals (bs.map V.bl) us → us[i]? = some v → ∃ b, bs[i]? = some b ∧ v = .bool b
  | [], _, _, _, r, e => by cases r; simp at e
  | b :: bs, _, i, v, r, e => by
    cases r with
    | cons h t =>
      cases i with
      | zero => simp at e; subst e; exact ⟨b, rfl, h⟩
      | succ i => obtain ⟨c, e1, e2⟩ := bls_get (i := i) t (by simpa using e); exact ⟨c, by simpa using e1, e2⟩
theorem all_range : ∀ (bs : List Bool) (k : Nat), ((List.range' k bs.length).all fun i => (bs[i - k]?).getD true) = bs.all id
  | [], k => rfl
  | b :: bs, k => by
    rw [List.length_cons, List.range'_succ, List.all_cons, List.all_cons]
    simp only [Nat.sub_self, List.getElem?_cons_zero, Option.getD_some, id]
    congr 1
    rw [← all_range bs (k + 1)]
    apply Bool.eq_iff_iff.mpr
    simp only [List.all_eq_true, List.mem_range'_1]
    constructor
    · intro h i hi
      have := h i hi
      rw [show i - k = (i - (k + 1)) + 1 by omega, List.getElem?_cons_succ] at this; exact this
    · intro h i hi
      rw [show i - k = (i - (k + 1)) + 1 by omega, List.getElem?_cons_succ]; exact h i hi
theorem call_all (hc : X.calm = true) : CallR X (.builtin "all") (fun xs H Q => ∃ (p : Addr) (bs : List Bool), xs = [.ref p] ∧ SqL X.K H p (bs.map V.bl) ∧ Q (.bl (bs.all id)) H) := by
  intro pins s σ H xs us Q I r h
  obtain ⟨p, bs, rfl, hq, q⟩ := h
  obtain ⟨u, rfl, ru⟩ := vals1 r
  cases ru
  obtain ⟨its, rv, pl, _⟩ := I.list hq
  have hlt : p < s.heap.objs.size := by obtain ⟨o, n, e, _⟩ := pl; exact Heap.lt_size e
  have hl := rv.length
  rw [List.length_map] at hl
  refine call_all_walk (wpAny_pyIter_list pl.isList ⟨s.heap.objs.size, _, _, _, _, _, fun i => (bs[i]?).getD true, rfl, Walks.list (A := X.A.in1) (show X.A.in1.handled = none from I.ok.hd hc) s.heap.objs.size p (Nat.ne_of_lt hlt) its.toArray,
    ⟨⟨_, Heap.get?_push_size _ rfl, rfl, rfl⟩, pl.isList.push _⟩, fun i v s' Q' E' hv hQ' => ?_, fun h' tk k => ⟨.bl (bs.all id), H, I.kept fun b o e => k b o (by simpa using Nat.ne_of_lt (Heap.lt_size e)) (Heap.get?_push_of_some _ e), ?_, q⟩⟩)
  · obtain ⟨b, e1, rfl⟩ := bls_get rv (by simpa using hv)
    simp only [e1, Option.getD_some] at hQ'
    exact wpAny_pure hQ'
  · have := all_range bs 0
    simp only [Nat.sub_zero] at this
    rw [show its.toArray.size = bs.length by simp [hl], List.range_eq_range', this]; rfl

def KPair (K : PySem.W.Frag) (a : Addr) (i j : Int) : Prop := ∃ o t u n, K.lookup a = some o ∧ o.cls = .type "tuple" ∧ o.data = .seq #[.int i t, .int j u] n
end
end L2
set_option Elab.async false
set_option linter.all false
set_option maxRecDepth 100000
namespace HT
open PySem PyProof.Rows
section
variable {prog : Program} {w : World} {A : Around} {E : Value → Shared → Prop} {s : Shared}
theorem whole_cut {t sl : Addr} {items : Array Value} {vl vu : Value} {lo hi : Option Int} {Q : Value → Shared → Prop} (ht : IsTup s.heap t items) (hs : s.heap.IsSliceOf sl vl vu .none) (pl : IsPart vl lo) (pu : IsPart vu hi)
    (hw : sIx items.size 0 lo = 0 ∧ sIx items.size items.size hi = items.size) (h : Q (.ref t) s) : wpAny (model prog w) A (getItem (.ref t) (.ref sl)) Q E s := by
  obtain ⟨os, hos, hcs, hds⟩ := id hs
  have hTs : s.TypeIs (.ref sl) "slice" := ⟨os, hos, hcs⟩
  unfold getItem
  try with_reducible refine wpAny_holding ?_
  first | refine wpAny_bind (wpAny_pure ?_) | skip
  refine wpAny_bind (wpAny_sequenceKey ht.typeIs (by decide) ?_)
  refine wpAny_bind (wpAny_callSpecial?_slot (name := Str.ofString "__getitem__") ht.typeIs PyProof.Rows.slot_tuple_getitem
    (wpAny_call_entry PyProof.Rows.slot_tuple_getitem ht.typeIs entry_tuple_getitem ?_ (args_tuple_getitem _ _)))
  show wpAny _ _ (Builtin.Tuple.tupleItemsOf (.ref t) >>= _) _ _ s
  refine wpAny_bind (tupleItemsOf_ ht ?_)
  refine wpAny_bind (wpAny_typeOf hTs ?_)
  rw [if_pos (by decide)]
  refine wpAny_bind (sliceApplied_gen hs pl pu ?_)
  show wpAny _ _ (if (((sIx items.size 0 lo : Nat) : Int) == 0 && (1 : Int) == 1 && (sIx items.size items.size hi - sIx items.size 0 lo) == items.size) = true then _ else _) _ _ s
  rw [if_pos (by rw [hw.1, hw.2]; simp)]
  refine wpAny_bind ?_
  unfold Builtin.Tuple.tupleIsExact
  refine wpAny_bind (wpAny_typeOf ht.typeIs (wpAny_pure ?_))
  rw [if_pos (by decide)]
  first
    | exact wpAny_bind (wpAny_rule (wpAny_pure ⟨_, rfl, wpAny_pure h⟩))
    | exact wpAny_bind (wpAny_rule (wpAny_bind (wpAny_pure (wpAny_pure ⟨_, rfl, wpAny_pure h⟩))))
    | exact wpAny_bind (wpAny_rule (wpAny_bind (wpAny_pure ⟨_, rfl, wpAny_pure h⟩)))
end
end HT
namespace L2
open PySem PySem.Spec PyProof.Rows
section
variable {X : Cx}
def rSlW (K : PySem.W.Frag) : V → Option Int → Option Int → Hp → VK → Prop := fun x lo hi H Q => ∃ a xs, x = .ref a ∧ SqT K H a xs ∧ (HT.sIx xs.length 0 lo = 0 ∧ HT.sIx xs.length xs.length hi = xs.length) ∧ Q x H
theorem sl_whole : SlR X (rSlW X.K) := by
  intro pins s σ H x v vl vu lo hi sl Q I rx hs pl pu h
  obtain ⟨a, xs, rfl, hx, hw, q⟩ := h
  cases rx
  obtain ⟨its, r, ht, hz⟩ := I.tuple hx
  have hlen : its.toArray.size = xs.length := by rw [List.size_toArray]; exact r.length.symm
  exact ⟨"tuple", _, PyProof.Rows.slot_tuple_getitem.lookup, ht.typeIs, HT.whole_cut ht hs pl pu (by rw [hlen]; exact hw) ⟨.ref a, H, I, rfl, q⟩⟩
end
end L2
set_option Elab.async false
set_option linter.all false
set_option maxRecDepth 100000
namespace L2
open PySem PySem.Spec PyProof.Rows
section
variable {J : It} {D : Addr} {N n : Nat} {js : List Nat} {σ : St} {g : TG} {tt : TT} {te : TE} {Q : VK} {H : Hp}
theorem comp_by (Pv : Nat → Hp → List V → Prop) (h0 : Pv 0 (upd H D (.lst [])) []) (hgo : ∀ i H ys, i < N → Pv i H ys → J.go i H) (hst : ∀ H ys, Pv N H ys → J.stop N H)
    (hs : ∀ i x zs H2 H3 ys (Nx : Hp → List V → Prop), (∀ H ys, Pv (i + 1) H ys → Nx H ys) → i < N → zs.length = n → J.yld i H2 x H3 → Pv i H2 ys → H2 D = some (.lst ys) → g x zs H3 fun σ4 H4 => tt σ4 H4 fun b H5 =>
      if b = true then te σ4 H5 (fun v H6 => H6 D = some (.lst ys) ∧ ys.length < sizeLine ∧ Nx (upd H6 D (.lst (ys ++ [v]))) (ys ++ [v])) else H5 D = some (.lst ys) ∧ Nx H5 ys)
    (hd : ∀ H ys, Pv N H ys → H D = some (.lst ys) → Q (.ref D) H) :
    ∃ W : Nat → Nat → Hp → List V → Prop, (∃ m, W 0 m (upd H D (.lst [])) []) ∧ ∀ i m H2 ys, W i m H2 ys → H2 D = some (.lst ys) → (J.stop i H2 ∧ Q (.ref D) H2) ∨
      (J.go i H2 ∧ ∀ σB x H3, σB.length = n → J.yld i H2 x H3 → g x σB H3 fun σ4 H4 => tt σ4 H4 fun b H5 => if b = true then te σ4 H5 (fun v H6 => H6 D = some (.lst ys) ∧ ys.length < sizeLine ∧ ∃ m', m' < m ∧ W (i + 1) m' (upd H6 D (.lst (ys ++ [v]))) (ys ++ [v]))
        else H5 D = some (.lst ys) ∧ ∃ m', m' < m ∧ W (i + 1) m' H5 ys) := by
  refine ⟨fun i m H ys => m = N - i ∧ i ≤ N ∧ Pv i H ys, ⟨N, by simp, Nat.zero_le _, h0⟩, ?_⟩
  rintro i m H2 ys ⟨rfl, hi, p⟩ hD
  by_cases hlt : i < N
  · exact .inr ⟨hgo i H2 ys hlt p, fun σB x H3 hB y => hs i x σB H2 H3 ys (fun H' ys' => ∃ m', m' < N - i ∧ (m' = N - (i + 1) ∧ i + 1 ≤ N ∧ Pv (i + 1) H' ys')) (fun H' ys' z => ⟨N - (i + 1), by omega, rfl, hlt, z⟩) hlt hB y p hD⟩
  · obtain rfl : i = N := by omega
    exact .inl ⟨hst H2 ys p, hd H2 ys p hD⟩
theorem compC_by (Pv : Nat → Hp → List V → Prop) (h0 : Pv 0 (upd H D (.lst [])) []) (hgo : ∀ i H ys, i < N → Pv i H ys → J.go i H) (hst : ∀ H ys, Pv N H ys → J.stop N H)
    (hs : ∀ i x zs H2 H3 ys (Nx : Hp → List V → Prop), (∀ H ys, Pv (i + 1) H ys → Nx H ys) → i < N → zs.length = n → J.yld i H2 x H3 → Pv i H2 ys → H2 D = some (.lst ys) → g x (zs ++ caps σ js) H3 fun σ4 H4 => σ4.drop n = caps σ js ∧ tt σ4 H4 fun b H5 =>
      if b = true then te σ4 H5 (fun v H6 => H6 D = some (.lst ys) ∧ ys.length < sizeLine ∧ Nx (upd H6 D (.lst (ys ++ [v]))) (ys ++ [v])) else H5 D = some (.lst ys) ∧ Nx H5 ys)
    (hd : ∀ H ys, Pv N H ys → H D = some (.lst ys) → Q (.ref D) H) :
    ∃ W : Nat → Nat → Hp → List V → Prop, (∃ m, W 0 m (upd H D (.lst [])) []) ∧ ∀ i m H2 ys, W i m H2 ys → H2 D = some (.lst ys) → (J.stop i H2 ∧ Q (.ref D) H2) ∨
      (J.go i H2 ∧ ∀ zs x H3, zs.length = n → J.yld i H2 x H3 → g x (zs ++ caps σ js) H3 fun σ4 H4 => σ4.drop n = caps σ js ∧ tt σ4 H4 fun b H5 => if b = true then te σ4 H5 (fun v H6 => H6 D = some (.lst ys) ∧ ys.length < sizeLine ∧ ∃ m', m' < m ∧ W (i + 1) m' (upd H6 D (.lst (ys ++ [v]))) (ys ++ [v]))
        else H5 D = some (.lst ys) ∧ ∃ m', m' < m ∧ W (i + 1) m' H5 ys) := by
  refine ⟨fun i m H ys => m = N - i ∧ i ≤ N ∧ Pv i H ys, ⟨N, by simp, Nat.zero_le _, h0⟩, ?_⟩
  rintro i m H2 ys ⟨rfl, hi, p⟩ hD
  by_cases hlt : i < N
  · exact .inr ⟨hgo i H2 ys hlt p, fun σB x H3 hB y => hs i x σB H2 H3 ys (fun H' ys' => ∃ m', m' < N - i ∧ (m' = N - (i + 1) ∧ i + 1 ≤ N ∧ Pv (i + 1) H' ys')) (fun H' ys' z => ⟨N - (i + 1), by omega, rfl, hlt, z⟩) hlt hB y p hD⟩
  · obtain rfl : i = N := by omega
    exact .inl ⟨hst H2 ys p, hd H2 ys p hD⟩
end
theorem atI0 {α : Type} (a : α) (r : List α) : atI (a :: r) 0 = some a := atI_nat (xs := a :: r) (j := 0) rfl
theorem atI1 {α : Type} (a b : α) (r : List α) : atI (a :: b :: r) 1 = some b := atI_nat (xs := a :: b :: r) (j := 1) rfl
theorem same_mk {H H2 H3 : Hp} {D : Addr} {o : HO} (hD : H D = none) (e : Same H H2) (e2 : Same H2 H3) : Same H (upd H3 D o) := fun b u z => by rw [upd_ne (ne_of_none z hD)]; exact e2 _ _ (e _ _ z)
end L2
set_option Elab.async false
set_option linter.all false
set_option maxRecDepth 100000
namespace L2
open PySem PySem.Spec PyProof.Rows
section
variable {prog : Program} {w : World} {A : Around} {E : Value → Shared → Prop} {s : Shared}
theorem cat_tup0 {t b : Addr} {ws : List Value} {Q : Value → Shared → Prop} (ht : IsTup s.heap t ([] : List Value).toArray) (hb : IsTup s.heap b ws.toArray) (h0 : Q (.ref b) s) : wpAny (model prog w) A (binaryOp .Add (.ref t) (.ref b)) Q E s := by
  obtain ⟨⟨cls, dd, data, sl⟩, ho, hc, n, hd⟩ := id ht
  obtain ⟨⟨cls2, dd2, data2, sl2⟩, ho2, hc2, n2, hd2⟩ := id hb
  simp only at hc hd hc2 hd2
  subst hc hd hc2 hd2
  exact concat_meets ⟨_, ho, rfl⟩ ⟨_, ho2, rfl⟩ noFill_tuple_add seq_tuple_add PySem.F.slot_tuple_add PySem.F.entry_tuple_add (PySem.F.args_tuple_add_2 _ _)
      (tuple_addW0 t b ([] : List Value).toArray ws.toArray n n2 dd dd2 sl sl2 (by simp)) ⟨ho, ho2, h0⟩
end
def rCatA (K : PySem.W.Frag) : R2 := fun x y H Q => ∃ a b xs ys, x = .ref a ∧ y = .ref b ∧ SqT K H a xs ∧ SqT K H b ys ∧ xs.length + ys.length ≤ sizeLine ∧ (xs = [] → Q (.ref b) H) ∧
  (xs ≠ [] → ys = [] → Q (.ref a) H) ∧ (xs ≠ [] → ys ≠ [] → ∀ p, H p = none → Q (.ref p) (upd H p (.tup (xs ++ ys))))
theorem op_catA {X : Cx} : OpR X (binaryOp .Add) (rCatA X.K) := by
  intro pins s σ H x y v u Q I rx ry h
  have h' := h
  obtain ⟨a, b, xs, ys, rfl, rfl, ha, hb, hz, q0, q1, q2⟩ := h'
  by_cases hx : xs = []
  · cases rx
    cases ry
    obtain ⟨its, r1, p1, _⟩ := I.tuple ha
    obtain ⟨its2, r2, p2, _⟩ := I.tuple hb
    subst hx
    cases r1
    exact cat_tup0 p1 p2 ⟨.ref b, H, I, rfl, q0 rfl⟩
  · exact op_catT pins s σ H _ _ v u Q I rx ry ⟨a, b, xs, ys, rfl, rfl, ha, hb, hx, hz, q1 hx, q2 hx⟩
theorem noFill_tuple_mul : fillsNumberSlot (.type "tuple") "mul" = pure false :=
  PySem.fillsNumberSlot_seq (id := "tuple.__mul__") (r := some (.builtin "tuple.__rmul__")) F.slot_tuple_mul.lookup (by decide +kernel) F.slot_tuple_rmul.lookup (by decide +kernel)
theorem repeat_tuple : seqRepeat? (.type "tuple") = pure (some (.builtin "tuple.__mul__")) := by
  unfold seqRepeat?
  rw [PySem.seqSlot_of (T := "tuple") (name := "__mul__") (id := "tuple.__mul__") F.slot_tuple_mul.lookup (by decide +kernel), PySem.seqSlot_of (T := "tuple") (name := "__rmul__") (id := "tuple.__rmul__") F.slot_tuple_rmul.lookup (by decide +kernel)]
  rfl
theorem int_rmul_tuple (a : Int) (t : Tok) (l : Addr) (items : Array Value) (n : Nat) (dd : Option Addr) (sl : Array (Option Value)) :
    Meets (Builtin.«int.__rmul__» ⟨[.int a t, .ref l], []⟩) (fun _ R s => s.heap.get? l = some { cls := .type "tuple", dict := dd, data := .seq items n, slots := sl } ∧ R (.ok (.ret Value.notImplemented)) s) :=
  .of_wp fun prog w A R s h => by obtain ⟨hp, g, d, tk, os⟩ := s; obtain ⟨hl, h⟩ := h; wp_walk using wpAny_loadPart' hl; exact ⟨_, rfl, h⟩
end L2
set_option Elab.async false
set_option linter.all false
set_option maxRecDepth 100000
namespace L2
open PySem PySem.Spec PyProof.Rows
mutual
theorem RdD.same {H H' : Hp} (e : Same H H') : ∀ {v : V} {d : PyData}, RdD H v d → RdD H' v d
  | _, _, .non => .non
  | _, _, .bl b => .bl b
  | _, _, .int i => .int i
  | _, _, .str x => .str x
  | _, _, .tup h r => .tup (e _ _ h) (RdDs.same e r)
  | _, _, .lst h r => .lst (e _ _ h) (RdDs.same e r)
theorem RdDs.same {H H' : Hp} (e : Same H H') : ∀ {vs : List V} {ds : List PyData}, RdDs H vs ds → RdDs H' vs ds
  | _, _, .nil => .nil
  | _, _, .cons h t => .cons (RdD.same e h) (RdDs.same e t)
end
theorem RdDs.len {H : Hp} : ∀ {xs : List V} {ds : List PyData}, RdDs H xs ds → xs.length = ds.length
  | _, _, .nil => rfl
  | _, _, .cons _ t => by rw [List.length_cons, List.length_cons, RdDs.len t]
theorem RdDs.app {H : Hp} {ys : List V} {es : List PyData} (k : RdDs H ys es) : ∀ {xs : List V} {ds : List PyData}, RdDs H xs ds → RdDs H (xs ++ ys) (ds ++ es)
  | _, _, .nil => k
  | _, _, .cons h t => .cons h (RdDs.app k t)
theorem RdDs.drop {H : Hp} : ∀ {xs : List V} {ds : List PyData} (n : Nat), RdDs H xs ds → RdDs H (xs.drop n) (ds.drop n)
  | _, _, 0, h => h
  | _, _, _ + 1, .nil => .nil
  | _, _, n + 1, .cons _ t => RdDs.drop n t
theorem RdDs.take {H : Hp} : ∀ {xs : List V} {ds : List PyData} (n : Nat), RdDs H xs ds → RdDs H (xs.take n) (ds.take n)
  | _, _, 0, _ => .nil
  | _, _, _ + 1, .nil => .nil
  | _, _, n + 1, .cons h t => .cons h (RdDs.take n t)
theorem RdDs.get {H : Hp} : ∀ {xs : List V} {ds : List PyData} {i : Nat} {d : PyData}, RdDs H xs ds → ds[i]? = some d → ∃ x, xs[i]? = some x ∧ RdD H x d
  | _, _, _, _, .nil, e => by simp at e
  | _, _, 0, _, .cons h _, e => by simp at e; subst e; exact ⟨_, rfl, h⟩
  | _, _, i + 1, _, .cons _ t, e => by
    obtain ⟨x, h1, h2⟩ := RdDs.get t (i := i) (by simpa using e)
    exact ⟨x, by simpa using h1, h2⟩
theorem RdDs.at {H : Hp} {xs : List V} {ds : List PyData} {i : Int} {d : PyData} (h : RdDs H xs ds) (e : atI ds i = some d) : ∃ x, atI xs i = some x ∧ RdD H x d := by
  unfold atI at e ⊢
  rw [h.len]
  cases hj : ixN ds.length i with
  | none => rw [hj] at e; cases e
  | some j =>
    rw [hj] at e
    exact h.get e
def del (N : List Addr) (H : Hp) : Hp := fun a => if a ∈ N then none else H a
theorem del_some {N : List Addr} {H : Hp} {a : Addr} {o : HO} (h : del N H a = some o) : H a = some o ∧ a ∉ N := by
  unfold del at h
  split at h
  · cases h
  · exact ⟨h, ‹_›⟩
theorem del_of {N : List Addr} {H : Hp} {a : Addr} {o : HO} (h : H a = some o) (n : a ∉ N) : del N H a = some o := by unfold del; rw [if_neg n]; exact h
theorem del_nil (H : Hp) : del [] H = H := by funext a; unfold del; rw [if_neg (by simp)]
def Ls (N : List Addr) (H : Hp) : Prop := ∀ a ∈ N, ∃ xs, H a = some (.lst xs)
theorem Ls.nil {H : Hp} : Ls [] H := fun _ m => by cases m
theorem Ls.same {N : List Addr} {H H' : Hp} (h : Ls N H) (e : Same H H') : Ls N H' := fun a m => let ⟨xs, z⟩ := h a m; ⟨xs, e _ _ z⟩
theorem Ls.ntup {N : List Addr} {H : Hp} {a : Addr} {xs : List V} (h : Ls N H) (e : H a = some (.tup xs)) : a ∉ N := fun m => by
  obtain ⟨ys, z⟩ := h a m; rw [e] at z; cases z
theorem Ls.nnew {N : List Addr} {H : Hp} {a : Addr} (h : Ls N H) (e : H a = none) : a ∉ N := fun m => by
  obtain ⟨ys, z⟩ := h a m; rw [e] at z; cases z
theorem same_del {N : List Addr} {H H' : Hp} (e : Same H H') : Same (del N H) (del N H') := fun b o z => del_of (e _ _ (del_some z).1) (del_some z).2
theorem del_sub {N : List Addr} {H : Hp} : Same (del N H) H := fun b o z => (del_some z).1
theorem sameD {N : List Addr} {H : Hp} {p : Addr} {o : HO} (h : H p = none) : Same (del N H) (del N (upd H p o)) := same_del (Same.upd h)
structure At (N : List Addr) (H0 H1 : Hp) : Prop where
  s : Same H0 (del N H1)
  l : Ls N H1
theorem At.go {N : List Addr} {H0 H1 H2 : Hp} (h : At N H0 H1) (e : Same H1 H2) : At N H0 H2 := ⟨h.s.trans (same_del e), h.l.same e⟩
def Dt (N : List Addr) (t : TE) (σ : St) (H : Hp) (d : PyData) : Prop := ∀ H1, At N H H1 → ∀ Q : VK, (∀ v H2, Same H1 H2 → RdD (del N H2) v d → Q v H2) → t σ H1 Q
def Da (N : List Addr) (t : TA) (σ : St) (H : Hp) (ds : List PyData) : Prop := ∀ H1, At N H H1 → ∀ Q : List V → Hp → Prop, (∀ vs H2, Same H1 H2 → RdDs (del N H2) vs ds → Q vs H2) → t σ H1 Q
def Dp (N : List Addr) (t : TO) (σ : St) (H : Hp) (o : Option Int) : Prop := ∀ H1, At N H H1 → ∀ Q : Option Int → Hp → Prop, (∀ H2, Same H1 H2 → Q o H2) → t σ H1 Q
section
variable {N : List Addr} {σ : St} {H : Hp} {K : PySem.W.Frag}
theorem dt_var {i : Nat} {v : V} {d : PyData} (h : σ[i]? = some (some v)) (r : RdD H v d) : Dt N (tVar i) σ H d := fun H1 a Q k => ⟨v, h, k v H1 (Same.refl _) (r.same a.s)⟩
theorem dt_int {i : Int} : Dt N (tC (.int i)) σ H (.int i) := fun H1 a Q k => k _ H1 (Same.refl _) (.int i)
theorem dt_non : Dt N (tC .non) σ H .none := fun H1 a Q k => k _ H1 (Same.refl _) .non
theorem da_nil : Da N tNil σ H [] := fun H1 a Q k => k _ H1 (Same.refl _) .nil
theorem da_cons {ta : TE} {tr : TA} {d : PyData} {ds : List PyData} (h : Dt N ta σ H d) (r : Da N tr σ H ds) : Da N (tCons ta tr) σ H (d :: ds) := fun H1 a Q k =>
  h H1 a _ fun v H2 e2 rv => r H2 (a.go e2) _ fun vs H3 e3 rs => k _ _ (e2.trans e3) (.cons (rv.same (same_del e3)) rs)
theorem dt_tup {t : TA} {ds : List PyData} (h : Da N t σ H ds) (l : ds.length ≤ sizeLine) : Dt N (tTup t) σ H (.tuple ds) := fun H1 a Q k =>
  h H1 a _ fun vs H2 e2 r => ⟨by rw [r.len]; exact l, fun p hp => k _ _ (e2.trans (Same.upd hp)) (.tup (del_of upd_same ((a.l.same e2).nnew hp)) (r.same (sameD hp)))⟩
theorem dt_lst {t : TA} {ds : List PyData} (h : Da N t σ H ds) (l : ds.length ≤ sizeLine) : Dt N (tLst t) σ H (.list ds) := fun H1 a Q k =>
  h H1 a _ fun vs H2 e2 r => ⟨by rw [r.len]; exact l, fun p hp => k _ _ (e2.trans (Same.upd hp)) (.lst (del_of upd_same ((a.l.same e2).nnew hp)) (r.same (sameD hp)))⟩
theorem dt_ix {ta tb : TE} {ds : List PyData} {i : Int} {d : PyData} (ha : Dt N ta σ H (.tuple ds)) (hb : Dt N tb σ H (.int i)) (hi : atI ds i = some d) : Dt N (tOp (rIxT K) ta tb) σ H d := fun H1 a Q k =>
  ha H1 a _ fun v H2 e2 r2 => hb H2 (a.go e2) _ fun y H3 e3 r3 => by
    cases r3
    cases r2 with
    | tup z zs =>
      obtain ⟨x, hx, rx⟩ := zs.at hi
      exact ⟨_, _, i, x, rfl, rfl, .of (e3 _ _ (del_some z).1), hx, k x H3 (e2.trans e3) (rx.same (same_del e3))⟩
theorem dt_i0 {g : Int → Int → Int} {ta tb : TE} {i j : Int} (ha : Dt N ta σ H (.int i)) (hb : Dt N tb σ H (.int j)) : Dt N (tOp (rI0 fun i j => .int (g i j)) ta tb) σ H (.int (g i j)) := fun H1 a Q k =>
  ha H1 a _ fun v H2 e2 r2 => hb H2 (a.go e2) _ fun y H3 e3 r3 => by
    cases r3; cases r2
    exact ⟨i, j, rfl, rfl, k _ H3 (e2.trans e3) (.int _)⟩
theorem dt_neg {ta : TE} {i : Int} (ha : Dt N ta σ H (.int i)) : Dt N (tUn (rU fun i => .int (-i)) ta) σ H (.int (-i)) := fun H1 a Q k =>
  ha H1 a _ fun v H2 e2 r2 => by
    cases r2
    exact ⟨i, rfl, k _ H2 e2 (.int _)⟩
theorem dt_catT {ta tb : TE} {ds es : List PyData} (ha : Dt N ta σ H (.tuple ds)) (hb : Dt N tb σ H (.tuple es)) (l : ds.length + es.length ≤ sizeLine) : Dt N (tOp (rCatA K) ta tb) σ H (.tuple (ds ++ es)) := fun H1 a Q k =>
  ha H1 a _ fun v H2 e2 r2 => hb H2 (a.go e2) _ fun y H3 e3 r3 => by
    have r2' := r2.same (same_del e3)
    have L := (a.l.same (e2.trans e3))
    cases r2' with
    | @tup b xs _ z zs =>
      cases r3 with
      | @tup c ys _ y ys' =>
        refine ⟨b, c, xs, ys, rfl, rfl, .of (del_some z).1, .of (del_some y).1, (by rw [zs.len, ys'.len]; exact l), fun h => ?_, fun _ h => ?_, fun _ _ p hp => ?_⟩
        · subst h; cases zs; exact k _ H3 (e2.trans e3) (.tup y ys')
        · subst h; cases ys'; rw [List.append_nil] at k; exact k _ H3 (e2.trans e3) (.tup z zs)
        · exact k _ _ ((e2.trans e3).trans (Same.upd hp)) (.tup (del_of upd_same (L.nnew hp)) ((RdDs.app ys' zs).same (sameD hp)))
theorem dt_cat {ta tb : TE} {ds es : List PyData} (ha : Dt N ta σ H (.list ds)) (hb : Dt N tb σ H (.list es)) (l : ds.length + es.length ≤ sizeLine) : Dt N (tOp rCat ta tb) σ H (.list (ds ++ es)) := fun H1 a Q k =>
  ha H1 a _ fun v H2 e2 r2 => hb H2 (a.go e2) _ fun y H3 e3 r3 => by
    have r2' := r2.same (same_del e3)
    have L := (a.l.same (e2.trans e3))
    cases r2' with
    | @lst b xs _ z zs =>
      cases r3 with
      | @lst c ys _ y ys' =>
        refine ⟨b, c, xs, ys, rfl, rfl, (del_some z).1, (del_some y).1, (by rw [zs.len, ys'.len]; exact l), fun p hp => ?_⟩
        exact k _ _ ((e2.trans e3).trans (Same.upd hp)) (.lst (del_of upd_same (L.nnew hp)) ((RdDs.app ys' zs).same (sameD hp)))
def cutG {α : Type} (xs : List α) (lo hi : Option Int) : List α := (xs.drop (HT.sIx xs.length 0 lo)).take (HT.sIx xs.length xs.length hi - HT.sIx xs.length 0 lo)
theorem dp_none : Dp N tNoPart σ H none := fun H1 a Q k => k H1 (Same.refl _)
theorem dp_some {t : TE} {i : Int} (h : Dt N t σ H (.int i)) : Dp N (tPart t) σ H (some i) := fun H1 a Q k => h H1 a _ fun v H2 e2 r2 => by
  cases r2; exact ⟨i, rfl, k H2 e2⟩
theorem dt_sl {te : TE} {tl th : TO} {ds : List PyData} {lo hi : Option Int} (he : Dt N te σ H (.tuple ds)) (hl : Dp N tl σ H lo) (hh : Dp N th σ H hi) :
    Dt N (tSl (fun x lo hi H Q => rSlT K x lo hi H Q ∨ rSlW K x lo hi H Q) te tl th) σ H (.tuple (cutG ds lo hi)) := fun H1 a Q k =>
  he H1 a _ fun v H2 e2 r2 => hl H2 (a.go e2) _ fun H3 e3 => hh H3 ((a.go e2).go e3) _ fun H4 e4 => by
    have r2' := r2.same (same_del (e3.trans e4))
    have L := (a.l.same (e2.trans (e3.trans e4)))
    cases r2' with
    | @tup b xs _ z zs =>
      by_cases w : HT.sIx xs.length 0 lo = 0 ∧ HT.sIx xs.length xs.length hi = xs.length
      · refine .inr ⟨b, xs, rfl, .of (del_some z).1, w, ?_⟩
        have : cutG ds lo hi = ds := by
          unfold cutG; rw [← zs.len, w.1, w.2]; simp [zs.len]
        rw [this] at k
        exact k _ _ (e2.trans (e3.trans e4)) (.tup z zs)
      · refine .inl ⟨b, xs, rfl, .of (del_some z).1, w, fun p hp => ?_⟩
        refine k _ _ ((e2.trans (e3.trans e4)).trans (Same.upd hp)) (.tup (xs := cutV xs lo hi) (del_of upd_same (L.nnew hp)) ?_)
        have := ((zs.drop (HT.sIx xs.length 0 lo)).take (HT.sIx xs.length xs.length hi - HT.sIx xs.length 0 lo)).same (sameD (o := .tup (cutV xs lo hi)) hp)
        unfold cutG
        rw [← zs.len]
        exact this
theorem dt_listOf {t : TA} {ds : List PyData} (h : Da N t σ H [.tuple ds]) : Dt N (tCB (fun xs H Q => ∃ p ys, xs = [.ref p] ∧ (SqL K H p ys ∨ SqT K H p ys) ∧ ∀ l, H l = none → Q (.ref l) (upd H l (.lst ys))) t) σ H (.list ds) := fun H1 a Q k =>
  h H1 a _ fun vs H2 e2 r => by
    cases r with
    | cons h t =>
      cases t
      cases h with
      | @tup b xs _ z zs =>
        exact ⟨b, xs, rfl, .inr (.of (del_some z).1), fun p hp => k _ _ (e2.trans (Same.upd hp)) (.lst (del_of upd_same ((a.l.same e2).nnew hp)) (zs.same (sameD hp)))⟩
theorem dt_call {sp : Sp} {dvs : List V} {t : TA} {ds : List PyData} {d : PyData} (h : Da N t σ H ds)
    (hs : ∀ H1 vs (Q : VK), At N H H1 → RdDs (del N H1) vs ds → (∀ v H2, Same H1 H2 → RdD (del N H2) v d → Q v H2) → sp (vs ++ dvs) H1 Q E0) : Dt N (tCall sp dvs E0 t) σ H d := fun H1 a Q k =>
  h H1 a _ fun vs H2 e2 r => hs H2 vs Q (a.go e2) r fun v H3 e3 rv => k v H3 (e2.trans e3) rv
end
def rD (x : Rat) : PyData := .tuple [.int x.num, .int (x.den : Int)]
theorem rd_rat {H : Hp} {v : V} {x : Rat} (h : RdD H v (rD x)) : ∃ p, v = .ref p ∧ RatAt H p x := by
  cases h with
  | tup z zs =>
    cases zs with
    | cons h1 t =>
      cases t with
      | cons h2 t2 =>
        cases t2; cases h1; cases h2
        exact ⟨_, rfl, z⟩
theorem rat_rd {H : Hp} {p : Addr} {x : Rat} (h : RatAt H p x) : RdD H (.ref p) (rD x) := h.rd
theorem rat_del {N : List Addr} {H : Hp} {p : Addr} {x : Rat} (L : Ls N H) (h : RatAt H p x) : RatAt (del N H) p x := del_of h (L.ntup h)
theorem dt_bin {N : List Addr} {σ : St} {H : Hp} {C : Rat → Rat → Prop} {f : Rat → Rat → Rat} {t : TA} {x y : Rat} (h : Da N t σ H [rD x, rD y]) (hC : C x y) : Dt N (tCall (spBin C f) [] E0 t) σ H (rD (f x y)) :=
  dt_call h fun H1 vs Q a r k => by
    cases r with
    | cons h1 t =>
      cases t with
      | cons h2 t2 =>
        cases t2
        obtain ⟨p, rfl, hp⟩ := rd_rat h1
        obtain ⟨q, rfl, hq⟩ := rd_rat h2
        exact ⟨p, q, x, y, rfl, hp.same del_sub, hq.same del_sub, hC, fun r H2 e hr => k _ H2 e (rat_rd (rat_del (a.l.same e) hr))⟩
end L2
set_option Elab.async false
set_option linter.all false
set_option maxRecDepth 100000
namespace L2
open PySem PySem.Spec PyProof.Rows
theorem szl {n : Nat} (h : n ≤ 1000) : n ≤ sizeLine := Nat.le_of_lt (small1000 h)
theorem cutG_to {α : Type} (xs : List α) (j : Nat) : cutG xs none (some (j : Int)) = xs.take j := by
  unfold cutG
  rw [HT.sIx_none, HT.sIx_nat, List.drop_zero, Nat.sub_zero]
  rcases Nat.le_total j xs.length with h | h
  · rw [Nat.min_eq_left h]
  · rw [Nat.min_eq_right h, List.take_of_length_le (Nat.le_refl _), List.take_of_length_le h]
theorem cutG_from {α : Type} (xs : List α) (j : Nat) : cutG xs (some (j : Int)) none = xs.drop j := by
  unfold cutG
  rw [HT.sIx_none, HT.sIx_nat]
  rcases Nat.le_total j xs.length with h | h
  · rw [Nat.min_eq_left h, List.take_of_length_le (by rw [List.length_drop]; exact Nat.le_refl _)]
  · rw [Nat.min_eq_right h, Nat.sub_self, List.take_zero, List.drop_of_length_le h]
theorem cutG_to1 {α : Type} (xs : List α) (j : Nat) : cutG xs none (some ((j : Int) + 1)) = xs.take (j + 1) := cutG_to xs (j + 1)
theorem cutG_from1 {α : Type} (xs : List α) (j : Nat) : cutG xs (some ((j : Int) + 1)) none = xs.drop (j + 1) := cutG_from xs (j + 1)
theorem dt_eq {N : List Addr} {t : TE} {σ : St} {H : Hp} {d d' : PyData} (h : Dt N t σ H d) (e : d = d') : Dt N t σ H d' := e ▸ h
theorem dt_use {N : List Addr} {t : TE} {σ : St} {H H1 : Hp} {d : PyData} {Q : VK} (a : At N H H1) (h : Dt N t σ H d) (k : ∀ v H2, Same H1 H2 → RdD (del N H2) v d → Q v H2) : t σ H1 Q := h H1 a Q k
theorem dt_add {N : List Addr} {σ : St} {H : Hp} {ta tb : TE} {i j : Int} (ha : Dt N ta σ H (.int i)) (hb : Dt N tb σ H (.int j)) : Dt N (tOp (rI0 fun i j => .int (i + j)) ta tb) σ H (.int (i + j)) := dt_i0 (g := (· + ·)) ha hb
theorem at_del {N : List Addr} {H : Hp} (h : Ls N H) : At N (del N H) H := ⟨Same.refl _, h⟩
theorem at_0 {H : Hp} : At [] H H := ⟨by rw [del_nil]; exact Same.refl _, .nil⟩
theorem st_set {te : TE} {i : Nat} {u : TS} {D : Ends} {σ : St} {H : Hp} (h : te σ H fun v H1 => u D (σ.set i (some v)) H1) : tSeq (tAsg te (gName i)) u D σ H := h
theorem st_for {wi : TI} {g : TG} {tb : TS} {u : TS} {D : Ends} {σ : St} {H : Hp} (h : tFor wi g tb { D with nx := u D } σ H) : tSeq (tFor wi g tb) u D σ H := h
structure FS (H0 H1 : Hp) (l : Addr) (ds : List PyData) : Prop where
  at_ : At [l] H0 H1
  ex : ∃ xs, H1 l = some (.lst xs) ∧ RdDs (del [l] H1) xs ds
theorem FS.rd {H0 H1 : Hp} {l : Addr} {ds : List PyData} (f : FS H0 H1 l ds) : RdD H1 (.ref l) (.list ds) := by
  obtain ⟨xs, h, r⟩ := f.ex
  exact .lst h (r.same del_sub)
theorem FS.go {H0 H1 H2 : Hp} {l : Addr} {ds : List PyData} (f : FS H0 H1 l ds) (e : Same H1 H2) : FS H0 H2 l ds := by
  obtain ⟨xs, h, r⟩ := f.ex
  exact ⟨f.at_.go e, xs, e _ _ h, r.same (same_del e)⟩
theorem ls1 {H : Hp} {p : Addr} {xs : List V} (h : H p = some (.lst xs)) : Ls [p] H := fun a m => by
  obtain rfl : a = p := by simpa using m
  exact ⟨xs, h⟩
section
variable {N : List Addr} {σ : St} {H0 : Hp} {K : PySem.W.Frag}
end
end L2
set_option Elab.async false
set_option linter.all false
set_option maxRecDepth 100000
namespace L2
open PySem PySem.Spec PyProof.Rows
inductive Bx (p : Prop) : Prop
  | mk (h : p) : Bx p
section
variable {X : Cx}
theorem bx_nil : Bx (PA X [] tNil) := ⟨pa_nil⟩
theorem bx_cons {e : Expr} {es : List Expr} {te : TE} {t : TA} (ha : Bx (PE X e te)) (hr : Bx (PA X es t)) (hs : starEach (e :: es) X.env = (false, eval e X.env) :: starEach es X.env := by rfl) : Bx (PA X (e :: es) (tCons te t)) := by
  obtain ⟨ha⟩ := ha; obtain ⟨hr⟩ := hr; exact ⟨pa_cons ha hr hs⟩
theorem bx_tup {es : List Expr} {t : TA} {x1 : Nat} {pos : Pos} (h : Bx (PA X es t)) : Bx (PE X (.Tuple es x1 pos) (tTup t)) := by
  obtain ⟨h⟩ := h; exact ⟨pe_tup h⟩
theorem bx_lst {es : List Expr} {t : TA} {pos : Pos} (h : Bx (PA X es t)) : Bx (PE X (.List es pos) (tLst t)) := by
  obtain ⟨h⟩ := h; exact ⟨pe_lst h⟩
theorem bx_set {i : Nat} {x : Str} {e : Expr} {te : TE} {pos pos' : Pos} (hN : X.N.Nodup) (hi : X.N[i]? = some x) (hx : Loc X.env.scope x) (he : Bx (PE X e te)) (hs : swapsWith e (some (.Name x pos')) pos.line X.env = pure false := by rfl)
    (hf : X.fn x = true ∨ X.env.scope.names.lookup x = some .local := by first | exact .inl rfl | exact .inr rfl | assumption) : Bx (PS X (.Assign [.Name x pos'] e pos) (tAsg te (gName i))) := by
  obtain ⟨he⟩ := he; exact ⟨ps_set hN hi hx he hs hf⟩
theorem bx_scons {st : Stmt} {rest : List Stmt} {t u : TS} (h1 : Bx (PS X st t)) (h2 : Bx (PSs X rest u)) : Bx (PSs X (st :: rest) (tSeq t u)) := by
  obtain ⟨h1⟩ := h1; obtain ⟨h2⟩ := h2; exact ⟨pss_cons h1 h2⟩
end
section
variable {P : Program} {w : World} {K : PySem.W.Frag} {mg : Str → Option Value} {base : Heap}
theorem Df.calB {x : Str} {st : Stmt} {N ps : List Str} {dvs : List V} {k : Nat} {sp : Sp} (D : Df K mg x st ps dvs) (S : FnScope N ps (defScope st)) (len : ∀ vs H Q E, sp vs H Q E → vs.length = ps.length)
    (hbody : ∀ (f : Addr) (cdv : Value) (A : Around) (outer : List Env) (s : Shared) (H : Hp) (vs : List V) (Q : VK) (E : XK), Room k (A.deeper (envOfC x (defScope st) s.heap.objs.size f cdv)) → sp vs H Q E →
      ∃ t, Bx (PSs (cxOf CX0 P w K mg base N x (defScope st) f cdv A outer s H E).nox (defBody st) t) ∧ t { nx := fun _ H' => Q .non H', rt := Q } (start N vs) H) : Cal P w K mg base x (k + 1) ps dvs sp :=
  D.cal S len fun f cdv A outer s H vs Q E hr h => by
    obtain ⟨t, ⟨p⟩, q⟩ := hbody f cdv A outer s H vs Q E hr h
    exact ⟨t, p, q⟩
end
end L2
set_option Elab.async false
set_option linter.all false
set_option maxRecDepth 100000
namespace L2
open PySem PySem.Spec PyProof.Rows
def TupS (H H' : Hp) : Prop := ∀ b xs, H b = some (.tup xs) → H' b = some (.tup xs)
theorem TupS.of {H H' : Hp} (h : Same H H') : TupS H H' := fun b xs e => h b _ e
theorem TupS.trans {H H1 H2 : Hp} (a : TupS H H1) (b : TupS H1 H2) : TupS H H2 := fun c xs e => b c xs (a c xs e)
theorem TupS.upd {H : Hp} {D : Addr} {ys : List V} {o : HO} (h : H D = some (.lst ys)) : TupS H (upd H D o) := fun b xs e => by rw [upd_ne (fun z => by subst z; rw [h] at e; cases e)]; exact e
structure Runs (J : It) (H : Hp) (xs : List V) : Prop where
  go : ∀ i H', i < xs.length → Same H H' → J.go i H'
  stop : ∀ H', Same H H' → J.stop xs.length H'
  yld : ∀ i x H2 H3, Same H H2 → J.yld i H2 x H3 → H3 = H2 ∧ xs[i]? = some x
theorem runs_list {K : PySem.W.Frag} {H : Hp} {a : Addr} {xs : List V} (h : H a = some (.lst xs)) : Runs (Itl K a) H xs :=
  ⟨fun i H' hi s => ⟨xs, xs[i], .of (s _ _ h), by simp [hi]⟩, fun H' s => ⟨xs, .of (s _ _ h), Nat.le_refl _⟩, fun i x H2 H3 s y => ⟨y.1, y.2 xs (.of (s _ _ h))⟩⟩
theorem runs_tup {K : PySem.W.Frag} {H : Hp} {a : Addr} {xs : List V} (h : H a = some (.tup xs)) : Runs (Itt K a) H xs :=
  ⟨fun i H' hi s => ⟨xs, xs[i], .of (s _ _ h), by simp [hi]⟩, fun H' s => ⟨xs, .of (s _ _ h), Nat.le_refl _⟩, fun i x H2 H3 s y => ⟨y.1, y.2 xs (.of (s _ _ h))⟩⟩
section
variable {J : It} {D : Addr} {n : Nat} {js : List Nat} {σ : St} {g : TG} {te : TE} {Z : Hp → Prop} {H : Hp} {xs : List V}
theorem comp_each (R : Nat → V → Hp → Prop) (hR : ∀ i v H H', TupS H H' → R i v H → R i v H') (hD : H D = none) (hJ : Runs J H xs) (hl : xs.length < sizeLine)
    (hs : ∀ i x zs H2 Q', xs[i]? = some x → zs.length = n → Same H H2 → (∀ v H6, Same H2 H6 → R i v H6 → Q' v H6) → g x zs H2 fun σ4 H4 => te σ4 H4 Q')
    (k : ∀ ys H', Same H H' → H' D = some (.lst ys) → ys.length = xs.length → (∀ i v, ys[i]? = some v → R i v H') → Z H') :
    ∃ W : Nat → Nat → Hp → List V → Prop, (∃ m, W 0 m (upd H D (.lst [])) []) ∧ ∀ i m H2 ys, W i m H2 ys → H2 D = some (.lst ys) → (J.stop i H2 ∧ Z H2) ∨
      (J.go i H2 ∧ ∀ σB x H3, σB.length = n → J.yld i H2 x H3 → g x σB H3 fun σ4 H4 => (fun _ H Q => Q true H : TT) σ4 H4 fun b H5 => if b = true then te σ4 H5 (fun v H6 => H6 D = some (.lst ys) ∧ ys.length < sizeLine ∧ ∃ m', m' < m ∧ W (i + 1) m' (upd H6 D (.lst (ys ++ [v]))) (ys ++ [v]))
        else H5 D = some (.lst ys) ∧ ∃ m', m' < m ∧ W (i + 1) m' H5 ys) := by
  refine comp_by (Q := fun _ H => Z H) (tt := fun _ H Q => Q true H) (N := xs.length) (fun i H2 ys => Same H H2 ∧ ys.length = i ∧ ∀ j v, ys[j]? = some v → R j v H2) ⟨Same.upd hD, rfl, fun j v e => by simp at e⟩ (fun i H2 ys hi p => hJ.go i H2 hi p.1) (fun H2 ys p => hJ.stop H2 p.1) ?_ (fun H2 ys p e => k ys H2 p.1 e p.2.1 p.2.2)
  rintro i x zs H2 H3 ys Nx hN hi hz hy ⟨s2, hyl, hyR⟩ hD2
  obtain ⟨rfl, hx⟩ := hJ.yld i x H2 H3 s2 hy
  refine hs i x zs H3 _ hx hz s2 fun v H6 s6 r6 => ⟨s6 _ _ hD2, by omega, hN _ _ ⟨fun c o e => ?_, by simp [hyl], fun j u e => ?_⟩⟩
  · rw [upd_ne (ne_of_none e hD)]; exact s6 _ _ (s2 _ _ e)
  · have T6 : TupS H6 (upd H6 D (.lst (ys ++ [v]))) := .upd (s6 _ _ hD2)
    by_cases hj : j < ys.length
    · rw [List.getElem?_append_left hj] at e
      exact hR _ _ _ _ ((TupS.of s6).trans T6) (hyR j u e)
    · rw [List.getElem?_append_right (by omega)] at e
      have : j - ys.length = 0 := by
        rcases Nat.eq_zero_or_pos (j - ys.length) with z | z
        · exact z
        · rw [List.getElem?_eq_none (by simp; omega)] at e; cases e
      rw [this] at e
      simp at e
      subst e
      rw [show j = i by omega]
      exact hR _ _ _ _ T6 r6
theorem compC_each (R : Nat → V → Hp → Prop) (hR : ∀ i v H H', TupS H H' → R i v H → R i v H') (hD : H D = none) (hJ : Runs J H xs) (hl : xs.length < sizeLine)
    (hs : ∀ i x zs H2 Q', xs[i]? = some x → zs.length = n → Same H H2 → (∀ v H6, Same H2 H6 → R i v H6 → Q' v H6) → g x (zs ++ caps σ js) H2 fun σ4 H4 => σ4.drop n = caps σ js ∧ te σ4 H4 Q')
    (k : ∀ ys H', Same H H' → H' D = some (.lst ys) → ys.length = xs.length → (∀ i v, ys[i]? = some v → R i v H') → Z H') :
    ∃ W : Nat → Nat → Hp → List V → Prop, (∃ m, W 0 m (upd H D (.lst [])) []) ∧ ∀ i m H2 ys, W i m H2 ys → H2 D = some (.lst ys) → (J.stop i H2 ∧ Z H2) ∨
      (J.go i H2 ∧ ∀ zs x H3, zs.length = n → J.yld i H2 x H3 → g x (zs ++ caps σ js) H3 fun σ4 H4 => σ4.drop n = caps σ js ∧ (fun _ H Q => Q true H : TT) σ4 H4 fun b H5 => if b = true then te σ4 H5 (fun v H6 => H6 D = some (.lst ys) ∧ ys.length < sizeLine ∧ ∃ m', m' < m ∧ W (i + 1) m' (upd H6 D (.lst (ys ++ [v]))) (ys ++ [v]))
        else H5 D = some (.lst ys) ∧ ∃ m', m' < m ∧ W (i + 1) m' H5 ys) := by
  refine compC_by (Q := fun _ H => Z H) (tt := fun _ H Q => Q true H) (N := xs.length) (fun i H2 ys => Same H H2 ∧ ys.length = i ∧ ∀ j v, ys[j]? = some v → R j v H2) ⟨Same.upd hD, rfl, fun j v e => by simp at e⟩ (fun i H2 ys hi p => hJ.go i H2 hi p.1) (fun H2 ys p => hJ.stop H2 p.1) ?_ (fun H2 ys p e => k ys H2 p.1 e p.2.1 p.2.2)
  rintro i x zs H2 H3 ys Nx hN hi hz hy ⟨s2, hyl, hyR⟩ hD2
  obtain ⟨rfl, hx⟩ := hJ.yld i x H2 H3 s2 hy
  refine hs i x zs H3 _ hx hz s2 fun v H6 s6 r6 => ⟨s6 _ _ hD2, by omega, hN _ _ ⟨fun c o e => ?_, by simp [hyl], fun j u e => ?_⟩⟩
  · rw [upd_ne (ne_of_none e hD)]; exact s6 _ _ (s2 _ _ e)
  · have T6 : TupS H6 (upd H6 D (.lst (ys ++ [v]))) := .upd (s6 _ _ hD2)
    by_cases hj : j < ys.length
    · rw [List.getElem?_append_left hj] at e
      exact hR _ _ _ _ ((TupS.of s6).trans T6) (hyR j u e)
    · rw [List.getElem?_append_right (by omega)] at e
      have : j - ys.length = 0 := by
        rcases Nat.eq_zero_or_pos (j - ys.length) with z | z
        · exact z
        · rw [List.getElem?_eq_none (by simp; omega)] at e; cases e
      rw [this] at e
      simp at e
      subst e
      rw [show j = i by omega]
      exact hR _ _ _ _ T6 r6
end
end L2
namespace L2
open PySem PySem.Spec PyProof.Rows
section
variable {J : It} {D : Addr} {n : Nat} {σ : St} {g : TG} {tt : TT} {te : TE} {Z : Hp → Prop} {H : Hp} {xs : List V}
end
end L2
namespace KM
theorem minus_eq (a b : Rat) : Rat.divInt (a.num * b.den - b.num * a.den) (a.den * b.den) = a - b := by
  rw [Rat.sub_def', ← Rat.divInt_ofNat]; simp
theorem divInt_lt {a b d : Int} (hd : 0 < d) : Rat.divInt a d < Rat.divInt b d ↔ a < b := by
  rw [Rat.divInt_eq_div, Rat.divInt_eq_div]
  have h : (0 : Rat) < d := Rat.intCast_pos.mpr hd
  rw [Rat.div_lt_iff h, Rat.div_mul_cancel (by grind)]; exact Rat.intCast_lt_intCast
theorem divInt_zero' (d : Int) : Rat.divInt 0 d = 0 := by simp
theorem divInt_nn {a d : Int} (hd : 0 < d) (h : 0 ≤ a) : 0 ≤ Rat.divInt a d := by
  have := divInt_lt (a := a) (b := 0) hd
  rw [divInt_zero'] at this
  rw [← Rat.not_lt, this]; omega
section
variable {x s : Rat}
end
section
variable {x : Rat} {f : Int}
end
end KM
set_option Elab.async false
set_option linter.all false
set_option maxRecDepth 100000
namespace L2
open PySem PySem.Spec PyProof.Rows
section
variable {prog : Program} {w : World} {A : Around} {E : Value → Shared → Prop} {s : Shared}
theorem nl_item {j t : Addr} {i : Nat} {vs : Array Value} {x : Value} {Q : Value → Shared → Prop} (kj : s.heap.IsListIter j t i) (kt : s.heap.IsList t vs) (kx : vs[i]? = some x)
    (q : ∀ h', h'.IsListIter j t (i + 1) → Heap.SameBut j s.heap h' → Q x { s with heap := h' }) : wpAny (model prog w) A (Builtin.SmallTypes.nextOf (.ref j)) Q E s := by
  obtain ⟨oj, e1, e2, e3⟩ := id kj
  obtain ⟨ot, f1, _, nt, f3⟩ := kt
  unfold Builtin.SmallTypes.nextOf
  refine wpAny_bind (wpAny_callSpecial?_slot (name := Str.ofString "__next__") kj.typeIs slot_listiter_next (wpAny_call_entry slot_listiter_next kj.typeIs entry_listiter_next ?_ (args_listiter_next _)))
  show wpAny _ _ (field (.ref j) 0 >>= _) _ _ s
  refine wpAny_bind (wpAny_field e1 e3 (x := .ref t) rfl ?_)
  show wpAny _ _ (if (Value.ref t == .none) = true then _ else _) _ _ s
  rw [if_neg (show ¬ ((Value.ref t == .none) = true) from Bool.false_ne_true)]
  show wpAny _ _ (field (.ref j) 1 >>= _) _ _ s
  refine wpAny_bind (wpAny_field e1 e3 (x := .int i 0) rfl (?_ : wpAny _ _ (seqItems? (.ref t) >>= _) _ _ s))
  refine wpAny_bind (wpAny_seqItems f1 f3 ?_)
  simp only [Int.toNat_natCast, kx]
  refine wpAny_bind (wpAny_setField e1 e3 (by simp) (wpAny_pure ⟨x, rfl, wpAny_pure (q _ ⟨_, Heap.get?_update_self _ e1 (Obj.isFreed_of_fields (Obj.data_mapFields e3 _)), (Obj.cls_mapFields ..).trans e2, ?_⟩ (Heap.SameBut.update ..))⟩))
  rw [Obj.data_mapFields e3]; simp [rawInt]
theorem nl_end {j t : Addr} {i : Nat} {vs : Array Value} {Q : Value → Shared → Prop} (hh : A.handled = none) (kj : s.heap.IsListIter j t i) (kt : s.heap.IsList t vs) (kx : vs[i]? = none)
    (q : ∀ h' e, Heap.ExtBut j s.heap h' → (∃ o, h'.get? e = some o ∧ o.cls = .type "StopIteration") → E (.ref e) { s with heap := h' }) : wpAny (model prog w) A (Builtin.SmallTypes.nextOf (.ref j)) Q E s := by
  obtain ⟨oj, e1, e2, e3⟩ := id kj
  obtain ⟨ot, f1, _, nt, f3⟩ := kt
  unfold Builtin.SmallTypes.nextOf
  refine wpAny_bind (wpAny_callSpecial?_slot (name := Str.ofString "__next__") kj.typeIs slot_listiter_next (wpAny_call_entry slot_listiter_next kj.typeIs entry_listiter_next ?_ (args_listiter_next _)))
  show wpAny _ _ (field (.ref j) 0 >>= _) _ _ s
  refine wpAny_bind (wpAny_field e1 e3 (x := .ref t) rfl ?_)
  show wpAny _ _ (if (Value.ref t == .none) = true then _ else _) _ _ s
  rw [if_neg (show ¬ ((Value.ref t == .none) = true) from Bool.false_ne_true)]
  show wpAny _ _ (field (.ref j) 1 >>= _) _ _ s
  refine wpAny_bind (wpAny_field e1 e3 (x := .int i 0) rfl (?_ : wpAny _ _ (seqItems? (.ref t) >>= _) _ _ s))
  refine wpAny_bind (wpAny_seqItems f1 f3 ?_)
  simp only [Int.toNat_natCast, kx]
  refine wpAny_bind (wpAny_rule (wpAny_bind (wpAny_setField e1 e3 (by simp) (?_ : wpAny _ _ (newExc (.type "StopIteration") [] >>= _) _ _ _))))
  refine wpAny_bind ?_
  simp only [newExc, newTuple]
  refine wpAny_bind (wpAny_newObj_type (wpAny_bind (m := firstArgMember _ _) (wpAny_of_eq (a := Value.none) (by first | rfl | (simp only [firstArgMember]; rfl)) (wpAny_newObj_type ?_ (by size_fits)))) (by size_fits))
  simp only [raiseNew]
  refine wpAny_bind (wpAny_handled (?_))
  first | rw [show A.in1.handled = none from hh] | rw [hh]
  exact wpAny_bind (wpAny_pure (wpAny_throw (q _ _ (((Heap.SameBut.update ..).extBut.push _).push _) ⟨_, Heap.get?_push_size _ rfl, rfl⟩)))

structure ZTL (z TI TO j1 j2 t1 t2 : Addr) (f0 : Value) (i1 i2 : Nat) (h : Heap) : Prop where
  z : IsZip h z TI TO f0
  ti : IsPair h TI (.ref j1) (.ref j2)
  to : ∃ a b, IsPair h TO a b
  i1 : h.IsListIter j1 t1 i1
  i2 : h.IsListIter j2 t2 i2
section
variable {z TI TO j1 j2 t1 t2 : Addr} {i : Nat} {xs ys : Array Value}
theorem lst_ne_z {h : Heap} {f0 : Value} {vs : Array Value} {t : Addr} (ht : h.IsList t vs) (hz : IsZip h z TI TO f0) : t ≠ z := fun e => by
  obtain ⟨o, e1, e2, _⟩ := ht
  rw [e, hz] at e1; cases e1; simp at e2
end
end

section
variable {X : Cx}
end
end L2
set_option Elab.async false
set_option linter.all false
set_option maxRecDepth 100000
namespace L2
open PySem PySem.Spec PyProof.Rows
section
variable {prog : Program} {w : World} {A : Around} {E : Value → Shared → Prop} {s : Shared}
structure ZTM (z TI TO j1 j2 t1 t2 : Addr) (f0 : Value) (i1 i2 : Nat) (h : Heap) : Prop where
  z : IsZip h z TI TO f0
  ti : IsPair h TI (.ref j1) (.ref j2)
  to : ∃ a b, IsPair h TO a b
  i1 : h.IsListIter j1 t1 i1
  i2 : h.IsTupleIter j2 t2 i2
section
variable {z TI TO j1 j2 t1 t2 : Addr} {i : Nat} {xs ys : Array Value}
end
end

section
variable {X : Cx}
end
end L2
set_option Elab.async false
set_option linter.all false
set_option maxRecDepth 100000
namespace L2
open PySem PySem.Spec PyProof.Rows
structure RunsZ (J : It) (H : Hp) (N : Nat) (xs ys : List V) : Prop where
  go : ∀ i H', i < N → Same H H' → J.go i H'
  stop : ∀ H', Same H H' → J.stop N H'
  yld : ∀ i v H2 H3, Same H H2 → J.yld i H2 v H3 → ∃ T x y, v = .ref T ∧ H2 T = none ∧ H3 = upd H2 T (.tup [x, y]) ∧ xs[i]? = some x ∧ ys[i]? = some y
def sel (p : Nat → Bool) (N : Nat) : List Nat := (List.range N).filter p
theorem sel_succ (p : Nat → Bool) (N : Nat) : sel p (N + 1) = sel p N ++ (if p N = true then [N] else []) := by
  unfold sel
  rw [List.range_succ, List.filter_append]
  by_cases h : p N = true <;> simp [h]
section
variable {J : It} {D : Addr} {n N : Nat} {js : List Nat} {σ : St} {g : TG} {tt : TT} {te : TE} {Z : Hp → Prop} {H : Hp} {xs ys : List V}
theorem compC_zip (p : Nat → Bool) (R : Nat → V → Hp → Prop) (hR : ∀ i v H H', TupS H H' → R i v H → R i v H') (hD : H D = none) (hJ : RunsZ J H N xs ys) (hl : N < sizeLine)
    (hs : ∀ (i : Nat) (T : Addr) (x y : V) (zs : St) (H2 : Hp) (A : VK) (B : Hp → Prop), xs[i]? = some x → ys[i]? = some y → zs.length = n → Same H H2 → H2 T = some (.tup [x, y]) → (p i = true → ∀ v H6, Same H2 H6 → R i v H6 → A v H6) → (p i = false → ∀ H6, Same H2 H6 → B H6) →
      g (.ref T) (zs ++ caps σ js) H2 fun σ4 H4 => σ4.drop n = caps σ js ∧ tt σ4 H4 fun b H5 => if b = true then te σ4 H5 A else B H5)
    (k : ∀ us H', Same H H' → H' D = some (.lst us) → us.length = (sel p N).length → (∀ (j i : Nat) (v : V), (sel p N)[j]? = some i → us[j]? = some v → R i v H') → Z H') :
    ∃ W : Nat → Nat → Hp → List V → Prop, (∃ m, W 0 m (upd H D (.lst [])) []) ∧ ∀ i m H2 ys, W i m H2 ys → H2 D = some (.lst ys) → (J.stop i H2 ∧ Z H2) ∨
      (J.go i H2 ∧ ∀ zs x H3, zs.length = n → J.yld i H2 x H3 → g x (zs ++ caps σ js) H3 fun σ4 H4 => σ4.drop n = caps σ js ∧ tt σ4 H4 fun b H5 => if b = true then te σ4 H5 (fun v H6 => H6 D = some (.lst ys) ∧ ys.length < sizeLine ∧ ∃ m', m' < m ∧ W (i + 1) m' (upd H6 D (.lst (ys ++ [v]))) (ys ++ [v]))
        else H5 D = some (.lst ys) ∧ ∃ m', m' < m ∧ W (i + 1) m' H5 ys) := by
  refine compC_by (Q := fun _ H => Z H) (N := N) (fun i H2 us => Same H H2 ∧ us.length = (sel p i).length ∧ ∀ (j q : Nat) (v : V), (sel p i)[j]? = some q → us[j]? = some v → R q v H2)
    ⟨Same.upd hD, rfl, fun j q v e => by simp [sel] at e⟩ (fun i H2 us hi q => hJ.go i H2 hi q.1) (fun H2 us q => hJ.stop H2 q.1) ?_ (fun H2 us q e => k us H2 q.1 e q.2.1 q.2.2)
  rintro i x zs H2 H3 us Nx hN hi hz hy ⟨s2, hul, huR⟩ hD2
  obtain ⟨T, a, b, rfl, hT, rfl, e1, e2⟩ := hJ.yld i x H2 H3 s2 hy
  have hDT : D ≠ T := fun z => by rw [z, hT] at hD2; cases hD2
  have s3 : Same H2 (upd H2 T (.tup [a, b])) := Same.upd hT
  have hD3 : upd H2 T (.tup [a, b]) D = some (.lst us) := s3 _ _ hD2
  have hsl : us.length < sizeLine := by
    have h1 : (sel p i).length ≤ i := by
      have := List.length_filter_le p (List.range i)
      rw [List.length_range] at this; exact this
    omega
  refine hs i T a b zs _ _ _ e1 e2 hz (s2.trans s3) upd_same (fun hp v H6 s6 r6 => ⟨s6 _ _ hD3, hsl, hN _ _ ⟨fun c o e => ?_, ?_, fun j q u f1 f2 => ?_⟩⟩) (fun hp H6 s6 => ⟨s6 _ _ hD3, hN _ _ ⟨fun c o e => s6 _ _ (s3 _ _ (s2 _ _ e)), ?_, fun j q u f1 f2 => ?_⟩⟩)
  · rw [upd_ne (ne_of_none e hD)]; exact s6 _ _ (s3 _ _ (s2 _ _ e))
  · rw [sel_succ, if_pos hp]; simp [hul]
  · rw [sel_succ, if_pos hp] at f1
    have T6 : TupS H6 (upd H6 D (.lst (us ++ [v]))) := .upd (s6 _ _ hD3)
    by_cases hj : j < us.length
    · rw [List.getElem?_append_left hj] at f2
      rw [List.getElem?_append_left (by omega)] at f1
      exact hR _ _ _ _ ((TupS.of (s3.trans s6)).trans T6) (huR j q u f1 f2)
    · rw [List.getElem?_append_right (by omega)] at f2
      rw [List.getElem?_append_right (by omega)] at f1
      have : j - us.length = 0 := by
        rcases Nat.eq_zero_or_pos (j - us.length) with z | z
        · exact z
        · rw [List.getElem?_eq_none (by simp; omega)] at f2; cases f2
      rw [this] at f2
      rw [show j - (sel p i).length = 0 by omega] at f1
      simp at f1 f2
      subst f1; subst f2
      exact hR _ _ _ _ T6 r6
  · rw [sel_succ, if_neg (by simp [hp])]; simp [hul]
  · rw [sel_succ, if_neg (by simp [hp])] at f1
    rw [List.append_nil] at f1
    exact hR _ _ _ _ (TupS.of (s3.trans s6)) (huR j q u f1 f2)
end
end L2
set_option Elab.async false
set_option linter.all false
set_option maxRecDepth 100000
namespace L2
open PySem PySem.Spec PyProof.Rows
def Ite (K : PySem.W.Frag) (l : Addr) : It :=
  ⟨fun i H => ∃ xs x, SqL K H l xs ∧ xs[i]? = some x,
   fun i H v H' => ∃ T x, v = .ref T ∧ H T = none ∧ H' = upd H T (.tup [.int i, x]) ∧ ∀ xs, SqL K H l xs → xs[i]? = some x,
   fun i H => ∃ xs, SqL K H l xs ∧ xs.length ≤ i⟩
theorem turn_enum {P : Program} {w : World} {K : PySem.W.Frag} {elts : List Expr} {kc : Nat} {tp : Pos} (e it l : Addr) (hne : e ≠ it) :
    Turn P w K (.Tuple elts kc tp) (Ite K l) [e, it] e (fun i h => (∃ old, IsEnum h e it (i : Int) old) ∧ h.IsListIter it l i) where
  mem := by simp
  obj := fun i h st b hb => by
    obtain ⟨⟨old, Z⟩, o1, e1, _, d1⟩ := st
    simp only [List.mem_cons, List.not_mem_nil, or_false] at hb
    rcases hb with rfl | rfl
    · exact ⟨_, Z, fun _ r => by cases r⟩
    · exact ⟨_, e1, fun _ r => by rw [d1] at r; cases r⟩
  keep := fun i h h' st k => by
    obtain ⟨⟨old, Z⟩, Z1⟩ := st
    exact ⟨⟨old, k e (by simp) _ Z⟩, Z1.at fun o q => k it (by simp) o q⟩
  item := by
    intro X hP hw hK hc i pins s σ H E I hf st hg
    subst hP hw hK
    obtain ⟨xs, x, h1, ex⟩ := hg
    obtain ⟨us, r1, p1, _⟩ := I.list h1
    obtain ⟨ux, eu, rx⟩ := r1.get ex
    obtain ⟨⟨old, Z⟩, Z1⟩ := st
    refine wpAny_pyNext_enum_item Z Z1 p1.isList (x := ux) (by simpa using eu) hne fun h' Zo Zi pr sz kk => ⟨_, rfl, ?_⟩
    refine wpAny_letOwnedTupleGo_enum (s := { s with heap := h', toks := s.toks + 1 }) Zo fun h2' Zz' sb => ?_
    replace sb : Heap.SameBut e h' h2' := sb
    have hTz : s.heap.objs.size ≠ e := Nat.ne_of_gt (Heap.lt_size Z)
    have kk2 : ∀ c o, c ≠ e → c ≠ it → s.heap.get? c = some o → h2'.get? c = some o := fun c o c1 c2 q => (sb.2 c c1).trans (kk c o c1 c2 q)
    have prT : h2'.get? s.heap.objs.size = some { cls := .type "tuple", data := .seq #[.int i s.toks, ux] } := (sb.2 _ hTz).trans pr
    have hT : H s.heap.objs.size = none := I.hok.fresh (Nat.le_refl _)
    have neC : ∀ b, b ∉ [e, it] → b ≠ e ∧ b ≠ it := fun b hb => by simpa using hb
    have trk : ∀ b u, H b = some u → b ≠ e ∧ b ≠ it := fun b u q => by
      refine ⟨?_, ?_⟩ <;> rintro rfl
      · rw [(hf b (by simp)).1] at q; cases q
      · rw [(hf b (by simp)).1] at q; cases q
    have ltT : ∀ b o, s.heap.get? b = some o → b ≠ s.heap.objs.size := fun b o q => Nat.ne_of_lt (Heap.lt_size q)
    have u : Un (frs X.stack) [e, it] H (upd H s.heap.objs.size (.tup [.int i, x])) s.heap h2' :=
      ⟨fun b o q n _ hb => by obtain ⟨c1, c2⟩ := neC b hb; exact kk2 b o c1 c2 q, fun b o q n _ hb => by obtain ⟨c1, c2⟩ := neC b hb; exact ⟨o.slots, kk2 b o c1 c2 q⟩,
        fun b o q n hb => by rw [upd_ne (ltT b o q)]; exact n, fun b o q hb => by obtain ⟨c1, c2⟩ := neC b hb; exact ⟨o, kk2 b o c1 c2 q⟩,
        fun b ws q => by rw [upd_ne (ne_of_none q hT)]; exact q, fun b o ws q => by rw [upd_ne (ne_of_none q hT)]; exact q, fun b ps q => ⟨#[], by rw [upd_ne (ne_of_none q hT), q]; simp⟩⟩
    have hok : HOk X.prog X.w (upd H s.heap.objs.size (.tup [.int i, x])) h2' := fun b ob q => by
      by_cases hb : b = s.heap.objs.size
      · subst hb
        rw [upd_same] at q; cases q
        exact ⟨by show 2 ≤ sizeLine; decide, [.int i s.toks, ux], .cons ⟨_, rfl⟩ (.cons rx .nil), _, prT, rfl, 0, rfl⟩
      · rw [upd_ne hb] at q
        refine (I.hok b ob q).stay (fun c v hc' qc => ?_) (fun c q => by rw [upd_ne (ne_of_none q hT)]; exact q) fun c ws q => by rw [upd_ne (ne_of_none q hT)]; exact q
        have : ∃ o, H c = some o := by
          rcases hc' with rfl | hc'
          · exact ⟨_, q⟩
          · exact ⟨_, hc'⟩
        obtain ⟨o, ho⟩ := this
        obtain ⟨c1, c2⟩ := trk c o ho
        exact kk2 c v c1 c2 qc
    refine ⟨.ref s.heap.objs.size, upd H s.heap.objs.size (.tup [.int i, x]), ?_, rfl, ⟨_, x, rfl, hT, rfl, fun xs' h => by rw [I.list_inj h h1]; exact ex⟩,
      ⟨⟨_, by rw [Int.natCast_add]; exact Zz'⟩, Zi.at fun o q => (sb.2 _ hne.symm).trans q⟩, fun b hb => ?_⟩
    · refine I.call' (s' := { s with heap := h2', toks := s.toks + 1 }) (ch := [e, it]) rfl u hok I.bare fun b hb => ?_
      obtain ⟨_, z1, z2, z3, z4, z5⟩ := hf b hb
      exact ⟨z3, z1, z4, z5⟩
    · obtain ⟨o, q⟩ : ∃ o, s.heap.get? b = some o := by
        obtain ⟨o1, e1, _⟩ := Z1
        simp only [List.mem_cons, List.not_mem_nil, or_false] at hb
        rcases hb with rfl | rfl
        · exact ⟨_, Z⟩
        · exact ⟨_, e1⟩
      rw [upd_ne (ltT b o q)]; exact (hf b hb).1
  done := by
    intro X hP hw hK hc i pins s σ H E I hf st hg
    subst hP hw hK
    obtain ⟨xs, h1, en⟩ := hg
    obtain ⟨us, r1, p1, _⟩ := I.list h1
    have l1 := r1.length
    obtain ⟨⟨old, Z⟩, Z1⟩ := st
    obtain ⟨f0, f1, f2, f3, f4, f5⟩ := hf it (by simp)
    exact wpAny_pyNext_enum_end (I.ok.hd hc) Z Z1 p1.isList (by simp; omega) fun h' eb => ⟨rfl, I.turned (t' := s.toks) (fun b o hb q => eb b o hb q) f0 f1 f3 f4 f5⟩
  self := fun _ _ _ _ _ st h => by obtain ⟨⟨old, Z⟩, _⟩ := st; exact wpAny_pyIter_enum Z h
def iEnum (K : PySem.W.Frag) (t : TA) : TI := fun σ H R => t σ H fun vs H1 => ∃ l xs, vs = [.ref l] ∧ H1 l = some (.lst xs) ∧ R (Ite K l) H1
theorem pi_enum {X : Cx} {a : Expr} {ta : TA} {p pos tp : Pos} {elts : List Expr} {kc : Nat} (hg : Gl X "enumerate") (hm : X.mg "enumerate" = none) (ha : PA X [a] ta) (hs : starEach [a] X.env = [(false, eval a X.env)] := by rfl) :
    PI X (.Tuple elts kc tp) (.Call (.Name "enumerate" p) [a] [] pos) (iEnum X.K ta) := by
  intro pins s σ H R I h
  refine Call_ (ld_blt I hg hm (by decide +kernel : bootBuiltins "enumerate" = some (.type "enumerate")) (PyProof.Rows.callWith_type1 (thn (ha pos pins s σ H _ I h) fun us s1 ⟨vs, H1, I1, r1, q1⟩ => ?_) (by rw [hs]; rfl) (by rfl)))
  obtain ⟨l, xs, e, hl, q⟩ := q1
  subst e
  obtain ⟨u1, rfl, ru1⟩ := vals1 r1
  cases (show u1 = Value.ref l from ru1)
  obtain ⟨z, its, n, rv, hol⟩ := (show ObjOk X.prog X.w H1 s1.heap l (.lst xs) from I1.hok l _ hl)
  refine callType_new F.called_enumerate (by decide) (F.typeCall_enumerate_1 _) (F.newCall_enumerate_1 _) (fun obj => F.args_object_init_2 obj _) F.entry_enumerate_new (meets_enumerate_new l its.toArray n) ⟨hol, ?_⟩
  have z1 : (s1.heap.push { cls := .type "list_iterator", data := .fields #[.ref l, .int 0 0] }).objs.size = s1.heap.objs.size + 1 := Heap.size_push ..
  have g1 : IsEnum ((s1.heap.push { cls := .type "list_iterator", data := .fields #[.ref l, .int 0 0] }).push { cls := .type "enumerate", data := .fields #[.none, .bool false, .ref s1.heap.objs.size, rawInt 0, .none, .none] }) (s1.heap.push { cls := .type "list_iterator", data := .fields #[.ref l, .int 0 0] }).objs.size s1.heap.objs.size 0 .none := Heap.get?_push_size _ rfl
  have g2 : ((s1.heap.push { cls := .type "list_iterator", data := .fields #[.ref l, .int 0 0] }).push { cls := .type "enumerate", data := .fields #[.none, .bool false, .ref s1.heap.objs.size, rawInt 0, .none, .none] }).IsListIter s1.heap.objs.size l 0 := ⟨_, Heap.get?_push_of_some _ (Heap.get?_push_size _ rfl), rfl, rfl⟩
  have g3 : ∀ c o, s1.heap.get? c = some o → ((s1.heap.push { cls := .type "list_iterator", data := .fields #[.ref l, .int 0 0] }).push { cls := .type "enumerate", data := .fields #[.none, .bool false, .ref s1.heap.objs.size, rawInt 0, .none, .none] }).get? c = some o := fun c o e => Heap.get?_push_of_some _ (Heap.get?_push_of_some _ e)
  rw [z1] at g1 ⊢
  show _ ∧ _
  refine ⟨⟨_, g1, rfl⟩, wpAny_pyIter_enum g1 ⟨s1.heap.objs.size + 1, [s1.heap.objs.size + 1, s1.heap.objs.size], _, _, H1, rfl, I1.kept (t' := s1.toks) g3, turn_enum (s1.heap.objs.size + 1) s1.heap.objs.size l (Nat.succ_ne_self _), ⟨⟨_, g1⟩, g2⟩, fun b hb => ?_, q⟩⟩
  have hb' : s1.heap.objs.size ≤ b := by
    simp only [List.mem_cons, List.not_mem_nil, or_false] at hb
    rcases hb with rfl | rfl
    · exact Nat.le_add_right _ _
    · exact Nat.le_refl _
  exact I1.fpOk hb' (I1.hok.fresh hb')
end L2
set_option Elab.async false
set_option linter.all false
set_option maxRecDepth 100000
namespace KK
open PySem L2
def top (i : Nat) : Stmt := PySem.Challenge.pw_clackrow_k64_broad_rows_known.main.body.getD i (.Pass ⟨0, 0, 0, 0⟩)
abbrev s_is_whole : Stmt := top 4
abbrev s_is_tuple : Stmt := top 5
abbrev s_greatest_divisor : Stmt := top 6
abbrev s_is_ratio : Stmt := top 7
abbrev s_ratio : Stmt := top 8
abbrev s_plus : Stmt := top 9
abbrev s_minus : Stmt := top 10
abbrev s_less : Stmt := top 11
abbrev s_is_wall : Stmt := top 16
abbrev s_is_wall_pair : Stmt := top 17
abbrev s_walls_good : Stmt := top 18
abbrev s_is_ball_form : Stmt := top 19
abbrev s_is_weight : Stmt := top 20
abbrev s_is_ball : Stmt := top 21
abbrev s_follows : Stmt := top 22
abbrev s_is_ordered : Stmt := top 23
abbrev s_keeps_side : Stmt := top 24
abbrev s_is_between : Stmt := top 25
abbrev s_is_row : Stmt := top 26
abbrev s_is_broad_ball : Stmt := top 28
abbrev s_widths_ahead : Stmt := top 29
abbrev s_wall_moved : Stmt := top 30
abbrev s_widths_of : Stmt := top 31
abbrev s_is_broad : Stmt := top 32
abbrev s_thinned : Stmt := top 33
abbrev s_law_cell : Stmt := top 35
abbrev s_law_left : Stmt := top 36
abbrev s_law_next : Stmt := top 37
abbrev s_law_wide : Stmt := top 38
abbrev s_law_low : Stmt := top 39
abbrev s_law_add : Stmt := top 40
abbrev s_law_off : Stmt := top 41
abbrev s_law_by : Stmt := top 42
abbrev s_law_below : Stmt := top 43
abbrev s_law_ratio : Stmt := top 44
abbrev s_law_speed : Stmt := top 45
abbrev s_law_gap : Stmt := top 46
abbrev s_law_weights : Stmt := top 47
abbrev s_law_row : Stmt := top 48
abbrev s_law_bound : Stmt := top 49
abbrev s_law_box : Stmt := top 50
abbrev s_law_bundle : Stmt := top 51
abbrev s_law_focused : Stmt := top 52
abbrev s_law_start : Stmt := top 53
abbrev s_law_thin : Stmt := top 54
abbrev s_law_thick : Stmt := top 55
abbrev s_law_widths : Stmt := top 56
abbrev s_law_is : Stmt := top 57
abbrev s_law_pushed : Stmt := top 58
abbrev s_law_odd : Stmt := top 59
abbrev s_law_nine : Stmt := top 60
abbrev s_law : Stmt := top 61
end KK
set_option Elab.async false
set_option linter.all false
set_option maxRecDepth 100000
namespace KK
open PySem L2
structure TxB (K : PySem.W.Frag) (mg : Str → Option Value) : Prop where
  ii : PySem.W.kitOne K (.type "int") (.type "int") = some true
  ib : PySem.W.kitOne K (.type "int") (.type "bool") = some false
  nIs : mg "isinstance" = none
  nInt : mg "int" = none
  nBool : mg "bool" = none
  nAbs : mg "abs" = none
  nLen : mg "len" = none
  nMax : mg "max" = none
  nMin : mg "min" = none
  nRange : mg "range" = none
  nTuple : mg "tuple" = none
  nSum : mg "sum" = none
section
variable {P : Program} {w : World} {K : PySem.W.Frag} {mg : Str → Option Value} {base : Heap}

def spWhole : Sp := fun vs H Q _ => ∃ i, vs = [.int i] ∧ Q (.bl true) H
theorem sc_whole : FnScope ["thing"] ["thing"] (defScope s_is_whole) := ⟨rfl, rfl, rfl, by decide +kernel, rfl, by decide +kernel, by decide +kernel⟩
theorem ok_whole (D : Df K mg "is_whole" s_is_whole ["thing"] []) (T : TxB K mg) : Cal P w K mg base "is_whole" 1 ["thing"] [] spWhole := by
  refine D.cal (k := 0) sc_whole (fun vs H Q E h => by obtain ⟨i, rfl, _⟩ := h; rfl) (fun f cdv A outer s H vs Q E hr h => ?_)
  obtain ⟨i, rfl, k⟩ := h
  refine ⟨_, pss_one (ps_ret (pe_and
    (pe_callB call_isinst rfl T.nIs PyProof.Rows.boot_isinstance (pa_cons (pv 0) (pa_cons (pe_bltn (v := .ty "int") (u := .type "int") rfl T.nInt PyProof.Rows.boot_int rfl) pa_nil)))
    (pe_one (pe_not (pe_callB call_isinst rfl T.nIs PyProof.Rows.boot_isinstance (pa_cons (pv 0) (pa_cons (pe_bltn (v := .ty "bool") (u := .type "bool") rfl T.nBool (by decide +kernel) rfl) pa_nil))))))), ?_⟩
  refine ⟨_, rfl, _, _, _, true, rfl, .int i, T.ii, true, rfl, iteT ?_⟩
  exact ⟨_, rfl, _, _, _, false, rfl, .int i, T.ib, false, rfl, k⟩

def spGcd : Sp := fun vs H Q _ => ∃ a b : Int, vs = [.int a, .int b] ∧ 0 ≤ a ∧ 0 ≤ b ∧ Q (.int (Int.gcd a b : Nat)) H
theorem sc_gcd : FnScope ["one", "other"] ["one", "other"] (defScope s_greatest_divisor) := ⟨rfl, rfl, rfl, by decide +kernel, rfl, by decide +kernel, by decide +kernel⟩
theorem ok_gcd (D : Df K mg "greatest_divisor" s_greatest_divisor ["one", "other"] []) : Cal P w K mg base "greatest_divisor" 1 ["one", "other"] [] spGcd := by
  refine D.cal (k := 0) sc_gcd (fun vs H Q E h => by obtain ⟨a, b, rfl, _⟩ := h; rfl) (fun f cdv A outer s H vs Q E hr h => ?_)
  obtain ⟨a, b, rfl, ha, hb, k⟩ := h
  refine ⟨_, pss_cons (ps_while PassesOwn.never (pt_cmpR op_gt (pv 1) pe_int (nomark _))
      (pss_one (ps_par (i := 0) (j := 1) rfl sc_gcd.nd rfl rfl (by decide) rfl rfl (pa_cons (pv 1) (pa_cons (pe_op op_mod (pv 0) (pv 1)) pa_nil)) (by rfl))))
    (pss_one (ps_ret (pv 0))), ?_⟩
  refine while_by (fun σ H1 => H1 = H ∧ ∃ x y : Int, σ = [some (.int x), some (.int y)] ∧ 0 ≤ x ∧ 0 ≤ y ∧ Int.gcd x y = Int.gcd a b)
    (fun σ _ => match σ with | [_, some (.int y)] => y.toNat | _ => 0) ⟨rfl, a, b, rfl, ha, hb, rfl⟩ ?_ ?_
  · rintro σ H1 ⟨rfl, x, y, rfl, hx, hy, e⟩
    refine ⟨_, rfl, _, _, rfl, rfl, _, rfl, ite2 (fun h => ?_) (fun h => ?_)⟩
    · have h' : 0 < y := of_decide_eq_true h
      refine ⟨_, rfl, _, rfl, _, rfl, _, _, rfl, rfl, h', _, _, rfl, ⟨rfl, _, _, rfl, hy, Int.emod_nonneg _ (by omega), ?_⟩, ?_⟩
      · rw [KM.gcd_step hx h']; exact e
      · show (x % y).toNat < y.toNat
        have := Int.emod_lt_of_pos x h'
        omega
    · have h' : ¬ 0 < y := fun z => h (decide_eq_true z)
      have : y = 0 := by omega
      subst this
      refine ⟨_, rfl, ?_⟩
      have e2 : x = (Int.gcd a b : Nat) := by rw [← e, Int.gcd_zero_right]; omega
      rw [e2]; exact k
  · rintro σ H1 Q1 Q2 hq ⟨v, e, i, j, e1, e2, k1, e3, q⟩
    exact ⟨v, e, i, j, e1, e2, k1, e3, hq _ _ q⟩

theorem sc_ratio : FnScope ["top", "bottom", "divisor"] ["top", "bottom"] (defScope s_ratio) := ⟨rfl, rfl, rfl, by decide +kernel, rfl, by decide +kernel, by decide +kernel⟩
theorem abs_eq (i : Int) : (if i < 0 then -i else i) = (i.natAbs : Int) := by split <;> omega
theorem ok_ratio {dvs : List V} (D : Df K mg "ratio" s_ratio ["top", "bottom"] dvs) (T : TxB K mg) (cW : Cal P w K mg base "is_whole" 1 ["thing"] [] spWhole) (cG : Cal P w K mg base "greatest_divisor" 1 ["one", "other"] [] spGcd) :
    Cal P w K mg base "ratio" 2 ["top", "bottom"] dvs spLow := by
  refine D.cal (k := 1) sc_ratio (fun vs H Q E h => by obtain ⟨a, b, rfl, _⟩ := h; rfl) (fun f cdv A outer s H vs Q E hr h => ?_)
  obtain ⟨t, b, rfl, hb, hz, k⟩ := h
  refine ⟨_, pss_cons (ps_if (pw_or (pt_not (pt_truth (pe_c cW hr (pa_cons (pv 0) pa_nil)) fun _ => rfl)) (pw_or (pt_not (pt_truth (pe_c cW hr (pa_cons (pv 1) pa_nil)) fun _ => rfl)) (pw_or1 (pt_cmpR op_eq (pv 1) pe_int (nomark _))))).pt pss_never pss_nil)
    (pss_cons (ps_set (i := 2) sc_ratio.nd rfl (Or.inl rfl) (pe_c cG hr (pa_cons (pe_callB call_abs rfl T.nAbs PyProof.Rows.boot_abs (pa_cons (pv 0) pa_nil)) (pa_cons (pe_callB call_abs rfl T.nAbs PyProof.Rows.boot_abs (pa_cons (pv 1) pa_nil)) pa_nil))))
    (pss_cons (ps_if (pt_cmpR op_lt (pv 1) pe_int (nomark _)) (pss_one (ps_set (i := 2) sc_ratio.nd rfl (Or.inl rfl) (pe_un un_neg (pv 2)))) pss_nil)
    (pss_one (ps_ret (pe_tup (pa_cons (pe_op op_fdivB (pv 0) (pv 2)) (pa_cons (pe_op op_fdivB (pv 1) (pv 2)) pa_nil))))))), ?_⟩
  refine ⟨_, rfl, t, rfl, true, rfl, iteF ?_⟩
  refine ⟨_, rfl, b, rfl, true, rfl, iteF ?_⟩
  refine ⟨_, rfl, rfl, _, rfl, ite2 (fun h => absurd (of_decide_eq_true h) (by intro z; injection z with z; exact hb z)) (fun _ => ?_)⟩
  refine ⟨_, rfl, t, rfl, ⟨_, rfl, b, rfl, ⟨_, _, rfl, (by rw [abs_eq]; omega), (by rw [abs_eq]; omega), ?_⟩⟩⟩
  have hd := KM.dv_ne (t := t) hb
  have hdz : Bd 8900 (KM.dv t b) := hz.of_le (KM.dv_le hb)
  have fin : ∀ σ : St, σ = [some (.int t), some (.int b), some (.int (KM.dv t b))] → tRet (tTup (tCons (tOp (rI CDivB fun i j => V.int (i.fdiv j)) (tVar 0) (tVar 2)) (tCons (tOp (rI CDivB fun i j => V.int (i.fdiv j)) (tVar 1) (tVar 2)) tNil))) { nx := fun _ H' => Q .non H', rt := Q } σ H := by
    rintro σ rfl
    refine ⟨_, rfl, _, rfl, _, _, rfl, rfl, ⟨hd, hdz⟩, _, rfl, _, rfl, _, _, rfl, rfl, ⟨hd, hdz⟩, ?_⟩
    refine ⟨by show 2 ≤ sizeLine; decide, fun p hp => k p _ (Same.upd hp) ?_⟩
    show upd H p _ p = _
    rw [upd_same]
    dsimp only
    rw [KM.dv_num hb, KM.dv_den hb]; rfl
  have ge : (Int.gcd (if t < 0 then -t else t) (if b < 0 then -b else b) : Nat) = Int.gcd t b := by
    rw [abs_eq, abs_eq]; simp [Int.gcd]
  refine ⟨_, rfl, _, _, rfl, rfl, _, rfl, ite2 (fun h => ?_) (fun h => ?_)⟩
  · have h' : b < 0 := of_decide_eq_true h
    refine ⟨_, rfl, _, rfl, fin _ ?_⟩
    rw [ge]; unfold KM.dv; rw [if_pos h']; rfl
  · have h' : ¬ b < 0 := fun z => h (decide_eq_true z)
    refine fin _ ?_
    rw [ge]; unfold KM.dv; rw [if_neg h']; rfl
end
end KK
set_option Elab.async false
set_option linter.all false
set_option maxRecDepth 100000
namespace KK
open PySem L2
section
variable {P : Program} {w : World} {K : PySem.W.Frag} {mg : Str → Option Value} {base : Heap}
theorem Bd4 {x : Rat} (h : Sz 4000 x) : Bd 1000000 x.num ∧ Bd 1000000 (x.den : Int) := ⟨h.1.mono (by decide), h.2.mono (by decide)⟩
section
variable {x y : Rat} {p q : Addr} {H : Hp}
theorem rd_plus {Q : VK} (hp : RatAt H p x) (hq : RatAt H q y) (hx : Sz 4000 x) (hy : Sz 4000 y) (k : ∀ r H', Same H H' → RatAt H' r (x + y) → Q (.ref r) H') :
    tRet (tCall spLow [] E0 (tCons (tOp (rI0 fun i j => .int (i + j)) (tOp (rI CMulB fun i j => .int (i * j)) (tOp (rIxT K) (tVar 0) (tC (.int 0))) (tOp (rIxT K) (tVar 1) (tC (.int 1)))) (tOp (rI CMulB fun i j => .int (i * j)) (tOp (rIxT K) (tVar 1) (tC (.int 0))) (tOp (rIxT K) (tVar 0) (tC (.int 1)))))
      (tCons (tOp (rI CMulB fun i j => .int (i * j)) (tOp (rIxT K) (tVar 0) (tC (.int 1))) (tOp (rIxT K) (tVar 1) (tC (.int 1)))) tNil))) { nx := fun _ H' => Q .non H', rt := Q } [some (.ref p), some (.ref q)] H := by
  have bx := Bd4 hx
  have b_y := Bd4 hy
  refine ⟨_, rfl, p, _, _, _, rfl, rfl, .of hp, at0 .., _, rfl, q, _, _, _, rfl, rfl, .of hq, at1 .., _, _, rfl, rfl, ⟨bx.1, b_y.2⟩, ?_⟩
  refine ⟨_, rfl, q, _, _, _, rfl, rfl, .of hq, at0 .., _, rfl, p, _, _, _, rfl, rfl, .of hp, at1 .., _, _, rfl, rfl, ⟨b_y.1, bx.2⟩, _, _, rfl, rfl, ?_⟩
  refine ⟨_, rfl, p, _, _, _, rfl, rfl, .of hp, at1 .., _, rfl, q, _, _, _, rfl, rfl, .of hq, at1 .., _, _, rfl, rfl, ⟨bx.2, b_y.2⟩, ?_⟩
  refine ⟨_, _, rfl, Int.mul_ne_zero (KM.den_ne x) (KM.den_ne y), (hx.2.mul hy.2).mono (by decide), fun r H' e h => k r H' e ?_⟩
  rw [← KM.plus_eq]; exact h
theorem rd_times {Q : VK} (hp : RatAt H p x) (hq : RatAt H q y) (hx : Sz 4000 x) (hy : Sz 4000 y) (k : ∀ r H', Same H H' → RatAt H' r (x * y) → Q (.ref r) H') :
    tRet (tCall spLow [] E0 (tCons (tOp (rI CMulB fun i j => .int (i * j)) (tOp (rIxT K) (tVar 0) (tC (.int 0))) (tOp (rIxT K) (tVar 1) (tC (.int 0))))
      (tCons (tOp (rI CMulB fun i j => .int (i * j)) (tOp (rIxT K) (tVar 0) (tC (.int 1))) (tOp (rIxT K) (tVar 1) (tC (.int 1)))) tNil))) { nx := fun _ H' => Q .non H', rt := Q } [some (.ref p), some (.ref q)] H := by
  have bx := Bd4 hx
  have b_y := Bd4 hy
  refine ⟨_, rfl, p, _, _, _, rfl, rfl, .of hp, at0 .., _, rfl, q, _, _, _, rfl, rfl, .of hq, at0 .., _, _, rfl, rfl, ⟨bx.1, b_y.1⟩, ?_⟩
  refine ⟨_, rfl, p, _, _, _, rfl, rfl, .of hp, at1 .., _, rfl, q, _, _, _, rfl, rfl, .of hq, at1 .., _, _, rfl, rfl, ⟨bx.2, b_y.2⟩, ?_⟩
  refine ⟨_, _, rfl, Int.mul_ne_zero (KM.den_ne x) (KM.den_ne y), (hx.2.mul hy.2).mono (by decide), fun r H' e h => k r H' e ?_⟩
  rw [← KM.times_eq]; exact h
end
theorem sc_plus : FnScope ["one", "other"] ["one", "other"] (defScope s_plus) := ⟨rfl, rfl, rfl, by decide +kernel, rfl, by decide +kernel, by decide +kernel⟩
end
end KK
section
set_option maxHeartbeats 4000000
set_option Elab.async false
set_option linter.all false
set_option maxRecDepth 100000
namespace KK
open PySem L2
def Pool (H : Hp) (p : Addr) : Prop := ∃ a b c : Int, H p = some (.lst [.int a, .int b, .int c])
structure Step (p : Addr) (H H' : Hp) : Prop where
  pool : Pool H' p
  keep : ∀ b o, H b = some o → b ≠ p → H' b = some o
theorem Step.trans {p : Addr} {H H1 H2 : Hp} (a : Step p H H1) (b : Step p H1 H2) : Step p H H2 := ⟨b.pool, fun c o e n => b.keep c o (a.keep c o e n) n⟩
theorem Step.same {p : Addr} {H H1 H2 : Hp} (a : Step p H H1) (b : Same H1 H2) : Step p H H2 := ⟨by obtain ⟨x, y, z, e⟩ := a.pool; exact ⟨x, y, z, b _ _ e⟩, fun c o e n => b c o (a.keep c o e n)⟩
theorem Step.pre {p : Addr} {H H1 H2 : Hp} (b : Step p H1 H2) (a : Same H H1) : Step p H H2 := ⟨b.pool, fun c o e n => b.keep c o (a c o e) n⟩
theorem Pool.new {H : Hp} {p l : Addr} {o : HO} (h : Pool H p) (hl : H l = none) : Pool (upd H l o) p := by obtain ⟨a, b, c, e⟩ := h; exact ⟨a, b, c, Same.upd hl _ _ e⟩
theorem Pool.ne {H : Hp} {p l : Addr} (h : Pool H p) (hl : H l = none) : l ≠ p := by obtain ⟨a, b, c, e⟩ := h; exact (ne_of_none e hl).symm
theorem Step.refl {p : Addr} {H : Hp} (h : Pool H p) : Step p H H := ⟨h, fun _ _ e _ => e⟩
theorem Step.tup {p a : Addr} {H H' : Hp} {xs : List V} (s : Step p H H') (hp : Pool H p) (h : H a = some (.tup xs)) : H' a = some (.tup xs) := by
  obtain ⟨_, _, _, e⟩ := hp
  exact s.keep a _ h (ne_of h e (by intro z; cases z))
section
variable {P : Program} {w : World} {K : PySem.W.Frag} {mg : Str → Option Value} {base : Heap}
def spDig : Sp := fun vs H Q _ => ∃ c : Int, vs = [.int c] ∧ ∀ p H', H p = none → Same H H' → Pool H' p → Q (.ref p) H'
theorem sc_dig : FnScope ["cell"] ["cell"] (defScope s_law_left) := ⟨rfl, rfl, rfl, by decide +kernel, rfl, by decide +kernel, by decide +kernel⟩
theorem ok_dig (D : Df K mg "_law_left" s_law_left ["cell"] []) (T : TxB K mg) : Cal P w K mg base "_law_left" 1 ["cell"] [] spDig := by
  refine D.cal (k := 0) sc_dig (fun vs H Q E h => by obtain ⟨a, rfl, _⟩ := h; rfl) (fun f cdv A outer s H vs Q E hr h => ?_)
  obtain ⟨c, rfl, k⟩ := h
  refine ⟨_, pss_one (ps_ret (pe_lst (pa_cons (pe_callB (call_max2 rfl) (by rfl) T.nMax PyProof.Rows.boot_max (pa_cons pe_int (pa_cons (pe_op op_sub (pv 0) (pe_op op_pow pe_int pe_int)) pa_nil))) (pa_cons (pe_op op_mod (pv 0) (pe_op op_pow pe_int pe_int)) (pa_cons pe_int pa_nil))))), ?_⟩
  refine ⟨_, rfl, _, _, rfl, rfl, ⟨by decide, by decide, by decide⟩, _, _, rfl, rfl, _, _, rfl, ?_⟩
  refine ⟨_, rfl, _, _, rfl, rfl, ⟨by decide, by decide, by decide⟩, _, _, rfl, rfl, (by show (0 : Int) < 10 ^ 18; decide), (by show 3 ≤ sizeLine; decide), fun p hp => ?_⟩
  exact k p _ hp (Same.upd hp) ⟨_, _, _, upd_same⟩

def spNext : Sp := fun vs H Q _ => ∃ (p : Addr) (n : Int), vs = [.ref p, .int n] ∧ 0 < n ∧ n < 1073741824 ∧ Pool H p ∧ ∀ (d : Int) H', 0 ≤ d → d < n → Step p H H' → Q (.int d) H'
theorem sc_next : FnScope ["pool", "base", "digit", "mixed", "stir"] ["pool", "base"] (defScope s_law_next) := ⟨rfl, rfl, rfl, by decide +kernel, rfl, by decide +kernel, by decide +kernel⟩
theorem step_set {H : Hp} {p : Addr} {a b c : Int} : Step p H (upd H p (.lst [.int a, .int b, .int c])) := ⟨⟨a, b, c, upd_same⟩, fun d o e n => by rw [upd_ne n]; exact e⟩
theorem ok_next (D : Df K mg "_law_next" s_law_next ["pool", "base"] []) : Cal P w K mg base "_law_next" 1 ["pool", "base"] [] spNext := by
  refine D.cal (k := 0) sc_next (fun vs H Q E h => by obtain ⟨a, b, rfl, _⟩ := h; rfl) (fun f cdv A outer s H vs Q E hr h => ?_)
  obtain ⟨p, n, rfl, n0, n1, ⟨a, b, c, hp⟩, k⟩ := h
  refine ⟨_, pss_cons (ps_if (pt_cmpR op_gt (pe_ix ix_list (pv 0) pe_int (fun _ _ => rfl)) pe_int (nomark _))
      (pss_cons (ps_set (i := 2) sc_next.nd rfl (Or.inl rfl) (pe_op op_mod (pe_ix ix_list (pv 0) pe_int (fun _ _ => rfl)) (pv 1)))
      (pss_cons (ps_asg (pe_op op_fdiv (pe_ix ix_list (pv 0) pe_int (fun _ _ => rfl)) (pv 1)) (pg_sub (pv 0) pe_int set_list))
      (pss_one (ps_ret (pv 2))))) pss_nil)
    (pss_cons (ps_asg (pe_op op_add (pe_ix ix_list (pv 0) pe_int (fun _ _ => rfl)) pe_int) (pg_sub (pv 0) pe_int set_list))
    (pss_cons (ps_set (i := 3) sc_next.nd rfl (Or.inl rfl) (pe_op op_mod (pe_op op_add (pe_ix ix_list (pv 0) pe_int (fun _ _ => rfl)) (pe_op op_mul pe_int (pe_ix ix_list (pv 0) pe_int (fun _ _ => rfl)))) pe_int))
    (pss_cons (ps_set (i := 4) sc_next.nd rfl (Or.inl rfl) (pe_op op_mod (pe_op op_mul (pe_op op_add (pv 3) pe_int) (pe_op op_add (pv 3) pe_int)) pe_int))
    (pss_one (ps_ret (pe_op op_mod (pe_op op_fdiv (pe_op op_mod (pe_op op_mul (pv 4) (pv 4)) pe_int) pe_int) (pv 1))))))), ?_⟩
  refine ⟨_, rfl, p, _, _, _, rfl, rfl, .of hp, rfl, _, _, rfl, rfl, _, rfl, ite2 (fun h => ?_) (fun h => ?_)⟩
  · refine ⟨_, rfl, p, _, _, _, rfl, rfl, .of hp, rfl, _, rfl, _, _, rfl, rfl, n0, ?_⟩
    refine ⟨_, rfl, p, _, _, _, rfl, rfl, .of hp, rfl, _, rfl, _, _, rfl, rfl, ⟨n0, n1⟩, ?_⟩
    refine ⟨_, rfl, p, _, _, 0, rfl, rfl, hp, rfl, ?_⟩
    exact ⟨_, rfl, k _ _ (Int.emod_nonneg _ (by omega)) (Int.emod_lt_of_pos _ n0) step_set⟩
  · refine ⟨_, rfl, p, _, _, _, rfl, rfl, .of hp, rfl, _, _, rfl, rfl, ?_⟩
    refine ⟨_, rfl, p, _, _, 2, rfl, rfl, hp, rfl, ?_⟩
    refine ⟨_, rfl, p, _, _, _, rfl, rfl, .of upd_same, rfl, _, rfl, p, _, _, _, rfl, rfl, .of upd_same, rfl, _, _, rfl, rfl, .inl ⟨by decide, by decide⟩, _, _, rfl, rfl, _, _, rfl, rfl, (by show (0 : Int) < 1000000007; decide), ?_⟩
    refine ⟨_, rfl, _, _, rfl, rfl, _, rfl, _, _, rfl, rfl, _, _, rfl, rfl, .inl (by constructor <;> omega), _, _, rfl, rfl, (by show (0 : Int) < 998244353; decide), ?_⟩
    refine ⟨_, rfl, _, rfl, _, _, rfl, rfl, .inl (by constructor <;> omega), _, _, rfl, rfl, (by show (0 : Int) < 2147483647; decide), _, _, rfl, rfl, ⟨by decide, by decide⟩, _, rfl, _, _, rfl, rfl, n0, ?_⟩
    exact k _ _ (Int.emod_nonneg _ (by omega)) (Int.emod_lt_of_pos _ n0) step_set

end
end KK
end
section
set_option maxHeartbeats 4000000
set_option Elab.async false
set_option linter.all false
set_option maxRecDepth 100000
namespace KK
open PySem L2 KM
inductive BallsAt (H : Hp) : List V → List Ball → Prop
  | nil : BallsAt H [] []
  | cons {a p q : Addr} {b : Ball} {vs : List V} {bs : List Ball} : H a = some (.tup [.ref p, .ref q, .int b.wt]) → RatAt H p b.pl → RatAt H q b.sp → BallsAt H vs bs → BallsAt H (.ref a :: vs) (b :: bs)
theorem BallsAt.mono {H H' : Hp} (m : ∀ b xs, H b = some (.tup xs) → H' b = some (.tup xs)) : ∀ {vs : List V} {bs : List Ball}, BallsAt H vs bs → BallsAt H' vs bs
  | _, _, .nil => .nil
  | _, _, .cons h1 h2 h3 t => .cons (m _ _ h1) (m _ _ h2) (m _ _ h3) (BallsAt.mono m t)
theorem BallsAt.same {H H' : Hp} {vs : List V} {bs : List Ball} (h : BallsAt H vs bs) (e : Same H H') : BallsAt H' vs bs := h.mono fun b xs z => e b _ z
theorem BallsAt.step {H H' : Hp} {p : Addr} {vs : List V} {bs : List Ball} (h : BallsAt H vs bs) (s : Step p H H') (hp : Pool H p) : BallsAt H' vs bs := h.mono fun b xs z => s.tup hp z
theorem BallsAt.length {H : Hp} : ∀ {vs : List V} {bs : List Ball}, BallsAt H vs bs → vs.length = bs.length
  | _, _, .nil => rfl
  | _, _, .cons _ _ _ t => by rw [List.length_cons, List.length_cons, BallsAt.length t]
theorem BallsAt.append {H : Hp} {us : List V} {cs : List Ball} (k : BallsAt H us cs) : ∀ {vs : List V} {bs : List Ball}, BallsAt H vs bs → BallsAt H (vs ++ us) (bs ++ cs)
  | _, _, .nil => k
  | _, _, .cons h1 h2 h3 t => .cons h1 h2 h3 (BallsAt.append k t)
theorem BallsAt.one {H : Hp} {a p q : Addr} {b : Ball} (h1 : H a = some (.tup [.ref p, .ref q, .int b.wt])) (h2 : RatAt H p b.pl) (h3 : RatAt H q b.sp) : BallsAt H [.ref a] [b] := .cons h1 h2 h3 .nil
theorem BallsAt.rev {H : Hp} : ∀ {vs : List V} {bs : List Ball}, BallsAt H vs bs → BallsAt H vs.reverse bs.reverse
  | _, _, .nil => .nil
  | _, _, .cons h1 h2 h3 t => by rw [List.reverse_cons, List.reverse_cons]; exact BallsAt.append (.one h1 h2 h3) (BallsAt.rev t)
theorem BallsAt.get {H : Hp} : ∀ {vs : List V} {bs : List Ball} {i : Nat} {v : V}, BallsAt H vs bs → vs[i]? = some v → ∃ (a p q : Addr) (b : Ball), bs[i]? = some b ∧ v = .ref a ∧ H a = some (.tup [.ref p, .ref q, .int b.wt]) ∧ RatAt H p b.pl ∧ RatAt H q b.sp
  | _, _, _, _, .nil, e => by simp at e
  | _, _, 0, _, .cons h1 h2 h3 _, e => by
    simp at e; subst e
    exact ⟨_, _, _, _, rfl, rfl, h1, h2, h3⟩
  | _, _, i + 1, v, .cons _ _ _ t, e => by
    obtain ⟨a, p, q, b, e1, r⟩ := BallsAt.get (i := i) t (by simpa using e)
    exact ⟨a, p, q, b, by simpa using e1, r⟩
theorem BallsAt.last {H : Hp} {vs : List V} {bs : List Ball} {b : Ball} (h : BallsAt H vs (bs ++ [b])) : ∃ (us : List V) (a p q : Addr), vs = us ++ [.ref a] ∧ H a = some (.tup [.ref p, .ref q, .int b.wt]) ∧ RatAt H p b.pl ∧ RatAt H q b.sp := by
  have hl := h.length
  rw [List.length_append, List.length_singleton] at hl
  have hi : bs.length < vs.length := by omega
  obtain ⟨a, p, q, c, e1, e2, r⟩ := h.get (i := bs.length) (List.getElem?_eq_getElem hi)
  rw [List.getElem?_append_right (Nat.le_refl _)] at e1
  simp at e1; subst e1
  refine ⟨vs.take bs.length, a, p, q, ?_, r⟩
  rw [← e2]
  have := List.take_append_getElem hi
  rw [this, List.take_of_length_le (by omega)]
def lexR (b c : Ball) : Prop := b.pl < c.pl ∨ (b.pl = c.pl ∧ b.sp < c.sp)
theorem lexR.trans {a b c : Ball} (h : lexR a b) (k : lexR b c) : lexR a c := by
  unfold lexR at *
  rcases h with h | ⟨h1, h2⟩ <;> rcases k with k | ⟨k1, k2⟩
  · exact .inl (by grind)
  · exact .inl (by grind)
  · exact .inl (by grind)
  · exact .inr ⟨by grind, by grind⟩
structure Good (bs : List Ball) : Prop where
  wt : ∀ b ∈ bs, 1 ≤ b.wt ∧ b.wt ≤ 1000
  sz : ∀ b ∈ bs, Sz 300 b.pl ∧ Sz 80 b.sp
  pw : bs.Pairwise lexR
theorem Good.nil : Good [] := ⟨(fun _ h => nomatch h), (fun _ h => nomatch h), List.Pairwise.nil⟩
theorem Good.snoc {bs : List Ball} {b : Ball} (G : Good bs) (hw : 1 ≤ b.wt ∧ b.wt ≤ 1000) (hs : Sz 300 b.pl ∧ Sz 80 b.sp) (h : ∀ cs c, bs = cs ++ [c] → lexR c b) : Good (bs ++ [b]) := by
  refine ⟨fun x hx => ?_, fun x hx => ?_, ?_⟩
  · rcases List.mem_append.mp hx with z | z
    · exact G.wt x z
    · simp at z; subst z; exact hw
  · rcases List.mem_append.mp hx with z | z
    · exact G.sz x z
    · simp at z; subst z; exact hs
  · rw [List.pairwise_append]
    refine ⟨G.pw, List.pairwise_singleton _ _, fun x hx y hy => ?_⟩
    simp at hy; subst hy
    rcases List.eq_nil_or_concat bs with e | ⟨cs, c, e⟩
    · subst e; exact (nomatch hx)
    · have e' : bs = cs ++ [c] := by simpa using e
      have hc := h cs c e'
      subst e'
      rcases List.mem_append.mp hx with z | z
      · have := (List.pairwise_append.mp G.pw).2.2 x z c (by simp)
        exact this.trans hc
      · simp at z; subst z; exact hc
section
variable {P : Program} {w : World} {K : PySem.W.Frag} {mg : Str → Option Value} {base : Heap}
end
end KK
end
section
set_option maxHeartbeats 4000000
set_option Elab.async false
set_option linter.all false
set_option maxRecDepth 100000
namespace L2
open PySem PySem.Spec PyProof.Rows
def KIt (k : Bool) (h : Heap) (j t : Addr) (i : Nat) : Prop := match k with | true => h.IsTupleIter j t i | false => h.IsListIter j t i
def KSq (k : Bool) (h : Heap) (t : Addr) (xs : Array Value) : Prop := match k with | true => h.IsTuple t xs | false => h.IsList t xs
def SqK (k : Bool) (K : PySem.W.Frag) (H : Hp) (t : Addr) (xs : List V) : Prop := match k with | true => SqT K H t xs | false => SqL K H t xs
def kObj (k : Bool) (t : Addr) : Obj := { cls := .type (match k with | true => "tuple_iterator" | false => "list_iterator"), data := .fields #[.ref t, .int 0 0] }
theorem KIt.at {k : Bool} {h h' : Heap} {j t : Addr} {i : Nat} (x : KIt k h j t i) (e : ∀ o, h.get? j = some o → h'.get? j = some o) : KIt k h' j t i := by
  cases k
  · exact Heap.IsListIter.at x e
  · exact Heap.IsTupleIter.at x e
theorem KIt.ob {k : Bool} {h : Heap} {j t : Addr} {i : Nat} (x : KIt k h j t i) : ∃ o, h.get? j = some o ∧ ∀ v, o.data ≠ .cell v := by
  cases k
  · obtain ⟨o, e, _, d⟩ := x; exact ⟨o, e, fun _ r => by rw [d] at r; cases r⟩
  · obtain ⟨o, e, _, d⟩ := x; exact ⟨o, e, fun _ r => by rw [d] at r; cases r⟩
theorem KSq.keep {k : Bool} {h h' : Heap} {t : Addr} {xs : Array Value} (x : KSq k h t xs) (e : ∀ o, h.get? t = some o → h'.get? t = some o) : KSq k h' t xs := by
  cases k
  · obtain ⟨o, ho, r⟩ := x; exact ⟨o, e _ ho, r⟩
  · obtain ⟨o, ho, r⟩ := x; exact ⟨o, e _ ho, r⟩
theorem KSq.push {k : Bool} {h : Heap} {t : Addr} {xs : Array Value} {ob : Obj} (x : KSq k h t xs) : KSq k (h.push ob) t xs := x.keep fun _ e => Heap.get?_push_of_some _ e
theorem KSq.lt {k : Bool} {h : Heap} {t : Addr} {xs : Array Value} (x : KSq k h t xs) : t < h.objs.size := by
  cases k
  · obtain ⟨o, ho, r⟩ := x; exact Heap.lt_size ho
  · obtain ⟨o, ho, r⟩ := x; exact Heap.lt_size ho
theorem KSq.ne_z {k : Bool} {h : Heap} {f0 : Value} {vs : Array Value} {t z TI TO : Addr} (x : KSq k h t vs) (hz : IsZip h z TI TO f0) : t ≠ z := by
  cases k
  · exact lst_ne_z x hz
  · exact tup_ne_z x hz
theorem KSq.ne_j {k k' : Bool} {h : Heap} {vs : Array Value} {t j u : Addr} {n : Nat} (x : KSq k h t vs) (hj : KIt k' h j u n) : t ≠ j := by
  rintro rfl
  cases k <;> cases k' <;> (obtain ⟨o, e1, e2, _⟩ := x; obtain ⟨o', f1, f2, _⟩ := hj; rw [f1] at e1; cases e1; rw [f2] at e2; simp at e2)
theorem push_at {h : Heap} {a : Addr} {o o' : Obj} (e : a = h.objs.size) (q : o = o') (f : o.isFreed = false := by rfl) : (h.push o).get? a = some o' := by subst e; subst q; exact Heap.get?_push_size _ f
theorem kIt_new {k : Bool} {h : Heap} {j t : Addr} (e : h.get? j = some (kObj k t)) : KIt k h j t 0 := by
  cases k
  · exact ⟨_, e, rfl, rfl⟩
  · exact ⟨_, e, rfl, rfl⟩
section
variable {prog : Program} {w : World} {A : Around} {E : Value → Shared → Prop} {s : Shared}
theorem k_item {k : Bool} {j t : Addr} {i : Nat} {vs : Array Value} {x : Value} {Q : Value → Shared → Prop} (kj : KIt k s.heap j t i) (kt : KSq k s.heap t vs) (kx : vs[i]? = some x)
    (q : ∀ h', KIt k h' j t (i + 1) → Heap.SameBut j s.heap h' → Q x { s with heap := h' }) : wpAny (model prog w) A (Builtin.SmallTypes.nextOf (.ref j)) Q E s := by
  cases k
  · exact nl_item kj kt kx q
  · exact nt_item kj kt kx q
theorem k_end {k : Bool} {j t : Addr} {i : Nat} {vs : Array Value} {Q : Value → Shared → Prop} (hh : A.handled = none) (kj : KIt k s.heap j t i) (kt : KSq k s.heap t vs) (kx : vs[i]? = none)
    (q : ∀ h' e, Heap.ExtBut j s.heap h' → (∃ o, h'.get? e = some o ∧ o.cls = .type "StopIteration") → E (.ref e) { s with heap := h' }) : wpAny (model prog w) A (Builtin.SmallTypes.nextOf (.ref j)) Q E s := by
  cases k
  · exact nl_end hh kj kt kx q
  · exact nt_end hh kj kt kx q
theorem kIter {k : Bool} {t : Addr} {vs : Array Value} {Q : Value → Shared → Prop} (kt : KSq k s.heap t vs) (q : Q (.ref s.heap.objs.size) { s with heap := s.heap.push (kObj k t) }) : wpAny (model prog w) A (pyIter (.ref t)) Q E s := by
  cases k
  · exact wpAny_pyIter_list kt q
  · exact wpAny_pyIter_tuple kt q
end
theorem sqK_of {k : Bool} {X : Cx} {pins : List (Addr × Obj)} {σ : St} {H : Hp} {s : Shared} {a : Addr} {xs : List V} (I : Inv X pins σ H s) (h : SqK k X.K H a xs) : ∃ its : List Value, Vals xs its ∧ KSq k s.heap a its.toArray := by
  cases k
  · obtain ⟨us, r, p, _⟩ := I.list h; exact ⟨us, r, p.isList⟩
  · obtain ⟨us, r, p, _⟩ := I.tuple h; exact ⟨us, r, p⟩
theorem sqK_inj {k : Bool} {X : Cx} {pins : List (Addr × Obj)} {σ : St} {H : Hp} {s : Shared} {a : Addr} {xs ys : List V} (I : Inv X pins σ H s) (h : SqK k X.K H a xs) (h' : SqK k X.K H a ys) : xs = ys := by
  cases k
  · exact I.list_inj h h'
  · exact I.tuple_inj h h'
structure ZN2 (z TI TO j1 j2 : Addr) : Prop where
  z_TI : z ≠ TI
  z_TO : z ≠ TO
  z_j1 : z ≠ j1
  z_j2 : z ≠ j2
  TI_TO : TI ≠ TO
  TI_j1 : TI ≠ j1
  TI_j2 : TI ≠ j2
  TO_j1 : TO ≠ j1
  TO_j2 : TO ≠ j2
  j1_j2 : j1 ≠ j2
abbrev IsT2 (h : Heap) (T : Addr) (a1 a2 : Value) : Prop := h.get? T = some { cls := .type "tuple", data := .seq #[a1, a2] }
section
variable {prog : Program} {w : World} {A : Around} {E : Value → Shared → Prop} {s : Shared}
theorem upd_T2 {T : Addr} {a1 a2 x : Value} {k : Nat} {Q : Unit → Shared → Prop} (hT : IsT2 s.heap T a1 a2)
    (h : ∀ h', h'.get? T = some { cls := .type "tuple", data := .seq ((#[a1, a2] : Array Value).setIfInBounds k x) } → Heap.SameBut T s.heap h' → Q () { s with heap := h' }) :
    wpAny (model prog w) A (updateSeq T (·.setIfInBounds k x)) Q E s := by
  refine wpAny_updateSeq hT rfl (h _ ?_ (Heap.SameBut.update ..))
  rw [Heap.get?_update_self _ hT rfl]
  simp [Obj.mapSeq]
structure ZS2 (z TI TO j1 j2 t1 t2 : Addr) (k1 k2 : Bool) (f0 : Value) (i : Nat) (h : Heap) : Prop where
  z : IsZip h z TI TO f0
  ti : IsT2 h TI (.ref j1) (.ref j2)
  to : ∃ a1 a2, IsT2 h TO a1 a2
  i1 : KIt k1 h j1 t1 i
  i2 : KIt k2 h j2 t2 i
variable {z TI TO j1 j2 t1 t2 : Addr} {k1 k2 : Bool} {i : Nat} {xs1 xs2 : Array Value}
theorem z2_item {x1 x2 : Value} {Q : Option Value → Shared → Prop} (D : ZN2 z TI TO j1 j2) (Z : ZS2 z TI TO j1 j2 t1 t2 k1 k2 .none i s.heap) (q1 : KSq k1 s.heap t1 xs1) (q2 : KSq k2 s.heap t2 xs2) (n1 : t1 ≠ TO) (n2 : t2 ≠ TO) (ex1 : xs1[i]? = some x1) (ex2 : xs2[i]? = some x2)
    (q : ∀ h', ZS2 z TI TO j1 j2 t1 t2 k1 k2 (rawInt s.heap.objs.size) (i + 1) h' → IsT2 h' s.heap.objs.size x1 x2 → h'.objs.size = s.heap.objs.size + 1 →
      (∀ c o, c ≠ z → c ≠ TO → c ≠ j1 → c ≠ j2 → s.heap.get? c = some o → h'.get? c = some o) → Q (some (.ref s.heap.objs.size)) { s with heap := h' }) : wpAny (model prog w) A (pyNext (.ref z)) Q E s := by
  obtain ⟨Zz, Zi, ⟨a1, a2, Zo⟩, Z1, Z2⟩ := Z
  have ty : s.TypeIs (.ref z) "zip" := ⟨_, Zz, rfl⟩
  unfold pyNext
  refine wpAny_bind (wpAny_attempt (wpAny_callSpecial?_slot (name := Str.ofString "__next__") ty F.slot_zip_next (wpAny_call_entry F.slot_zip_next ty F.entry_zip_next ?_ (F.args_zip_next_1 _))))
  show wpAny _ _ (field (.ref z) 2 >>= _) _ _ s
  refine wpAny_bind (wpAny_field Zz rfl (x := .bool false) rfl (?_ : wpAny _ _ (field (.ref z) 3 >>= _) _ _ s))
  refine wpAny_bind (wpAny_field Zz rfl (x := .ref TI) rfl (wpAny_bind (wpAny_seqItems Zi rfl (?_ : wpAny _ _ (Builtin.SmallTypes.ownedTupleIsFree (.ref z) >>= _) _ _ s))))
  refine wpAny_bind ?_; unfold Builtin.SmallTypes.ownedTupleIsFree
  refine wpAny_bind (wpAny_field Zz rfl (x := .none) rfl (wpAny_pure ?_))
  simp only [if_true]
  refine wpAny_bind (wpAny_rule (wpAny_bind (wpAny_field Zz rfl (x := .ref TO) rfl (wpAny_bind (wpAny_setField_rec Zz (by simp) fun g1 Zz1 m1 => ?_)))))
  replace Zz1 : IsZip g1 z TI TO .ellipsis := Zz1
  refine wpAny_bind ?_; simp only [List.zipIdx_cons, List.zipIdx_nil, List.forIn_cons, List.forIn_nil]
  refine wpAny_bind (wpAny_bind (wpAny_onRaise (?_ : wpAny _ _ (Builtin.SmallTypes.nextOf (.ref j1) >>= _) _ _ _)))
  refine wpAny_bind (k_item (Z1.at fun o e => (m1.extBut _ _ D.z_j1.symm e)) (q1.keep fun o e => (m1.extBut _ _ (q1.ne_z Zz) e)) ex1 fun g2 Y1 m2 => wpAny_pure ?_)
  have Zo2 : IsT2 g2 TO a1 a2 := m2.extBut _ _ D.TO_j1 (m1.extBut _ _ D.z_TO.symm Zo)
  refine wpAny_bind (wpAny_seqItems Zo2 rfl (wpAny_bind (upd_T2 Zo2 fun g3 Zo3 m3 => wpAny_bind (wpAny_letGo (wpAny_pure ?_)))))
  replace Zo3 : IsT2 g3 TO x1 a2 := Zo3
  refine wpAny_bind (wpAny_bind (wpAny_onRaise (?_ : wpAny _ _ (Builtin.SmallTypes.nextOf (.ref j2) >>= _) _ _ _)))
  refine wpAny_bind (k_item (Z2.at fun o e => (m3.extBut _ _ D.TO_j2.symm (m2.extBut _ _ D.j1_j2.symm (m1.extBut _ _ D.z_j2.symm e)))) (q2.keep fun o e => (m3.extBut _ _ n2 (m2.extBut _ _ (q2.ne_j Z1) (m1.extBut _ _ (q2.ne_z Zz) e)))) ex2 fun g4 Y2 m4 => wpAny_pure ?_)
  have Zo4 : IsT2 g4 TO x1 a2 := m4.extBut _ _ D.TO_j2 Zo3
  refine wpAny_bind (wpAny_seqItems Zo4 rfl (wpAny_bind (upd_T2 Zo4 fun g5 Zo5 m5 => wpAny_bind (wpAny_letGo (wpAny_pure (wpAny_pure ?_))))))
  replace Zo5 : IsT2 g5 TO x1 x2 := Zo5
  refine wpAny_bind (wpAny_seqItems Zo5 rfl (wpAny_bind (wpAny_newTuple ?_)))
  have sz : g5.objs.size = s.heap.objs.size := by rw [m5.1, m4.1, m3.1, m2.1, m1.1]
  have ZzL : IsZip g5 z TI TO .ellipsis := (m5.extBut _ _ D.z_TO (m4.extBut _ _ D.z_j2 (m3.extBut _ _ D.z_TO (m2.extBut _ _ D.z_j1 Zz1))))
  have kp : ∀ c o, c ≠ z → c ≠ TO → c ≠ j1 → c ≠ j2 → s.heap.get? c = some o → g5.get? c = some o := fun c o c_z c_TO c_j1 c_j2 e => (m5.extBut _ _ c_TO (m4.extBut _ _ c_j2 (m3.extBut _ _ c_TO (m2.extBut _ _ c_j1 (m1.extBut _ _ c_z e)))))
  have W1 : KIt k1 g5 j1 t1 (i + 1) := Y1.at fun o e => (m5.extBut _ _ D.TO_j1.symm (m4.extBut _ _ D.j1_j2 (m3.extBut _ _ D.TO_j1.symm e)))
  have W2 : KIt k2 g5 j2 t2 (i + 1) := Y2.at fun o e => (m5.extBut _ _ D.TO_j2.symm e)
  have zlt : g5.objs.size ≠ z := Nat.ne_of_gt (Heap.lt_size ZzL)
  show wpAny _ _ (Builtin.SmallTypes.ownedTupleHandOut (.ref z) (.ref g5.objs.size) >>= _) _ _ _
  refine wpAny_bind ?_; unfold Builtin.SmallTypes.ownedTupleHandOut
  refine wpAny_bind (wpAny_setField_rec (Heap.get?_push_of_some _ ZzL) (by simp) fun h7 Zz7 p7 => ?_)
  replace Zz7 : IsZip h7 z TI TO (rawInt g5.objs.size) := Zz7
  refine wpAny_setField_rec Zz7 (by simp) fun h8 Zz8 p8 => ?_
  replace Zz8 : IsZip h8 z TI TO (rawInt g5.objs.size) := Zz8
  have up : ∀ c o, c ≠ z → g5.get? c = some o → h8.get? c = some o := fun c o c1 e => p8.extBut _ _ c1 (p7.extBut _ _ c1 (Heap.get?_push_of_some _ e))
  have T8 : IsT2 h8 g5.objs.size x1 x2 := p8.extBut _ _ zlt (p7.extBut _ _ zlt (Heap.get?_push_size _ rfl))
  have s8 : h8.objs.size = g5.objs.size + 1 := by rw [p8.1, p7.1, Heap.size_push]
  refine wpAny_pure ⟨_, rfl, wpAny_pure ?_⟩
  rw [sz] at Zz8 T8 s8
  show Q (some (.ref g5.objs.size)) _
  rw [sz]
  exact q h8 ⟨Zz8, up _ _ D.z_TI.symm (kp _ _ D.z_TI.symm D.TI_TO D.TI_j1 D.TI_j2 Zi), ⟨_, _, up _ _ D.z_TO.symm Zo5⟩, W1.at fun o e => up _ o D.z_j1.symm e, W2.at fun o e => up _ o D.z_j2.symm e⟩ T8 s8 fun c o c_z c_TO c_j1 c_j2 e => up c o c_z (kp c o c_z c_TO c_j1 c_j2 e)
theorem z2_end {Q : Option Value → Shared → Prop} (hh : A.handled = none) (D : ZN2 z TI TO j1 j2) (Z : ZS2 z TI TO j1 j2 t1 t2 k1 k2 .none i s.heap) (q1 : KSq k1 s.heap t1 xs1) (q2 : KSq k2 s.heap t2 xs2) (n1 : t1 ≠ TO) (n2 : t2 ≠ TO) (en : xs1[i]? = none ∨ xs2[i]? = none)
    (q : ∀ h', (∀ c o, c ≠ z → c ≠ TO → c ≠ j1 → c ≠ j2 → s.heap.get? c = some o → h'.get? c = some o) → Q none { s with heap := h' }) : wpAny (model prog w) A (pyNext (.ref z)) Q E s := by
  obtain ⟨Zz, Zi, ⟨a1, a2, Zo⟩, Z1, Z2⟩ := Z
  have ty : s.TypeIs (.ref z) "zip" := ⟨_, Zz, rfl⟩
  have fin : ∀ (g' : Heap) (e : Addr), (∀ c o, c ≠ z → c ≠ TO → c ≠ j1 → c ≠ j2 → s.heap.get? c = some o → g'.get? c = some o) → (∃ o, g'.get? e = some o ∧ o.cls = .type "StopIteration") →
      wpAny (model prog w) A (do if ← isInstance (.ref e) (.type "StopIteration") then pure none else throw (.ref e) : Sem (Option Value)) Q E { s with heap := g' } := fun g' e kk ⟨o, ho, hc⟩ =>
    wpAny_bind (wpAny_isInstance (T := "StopIteration") (b := true) ⟨o, ho, hc⟩ isSubtype_stop (wpAny_pure (q g' kk)))
  unfold pyNext
  refine wpAny_bind (wpAny_attempt (wpAny_callSpecial?_slot (name := Str.ofString "__next__") ty F.slot_zip_next (wpAny_call_entry F.slot_zip_next ty F.entry_zip_next ?_ (F.args_zip_next_1 _))))
  show wpAny _ _ (field (.ref z) 2 >>= _) _ _ s
  refine wpAny_bind (wpAny_field Zz rfl (x := .bool false) rfl (?_ : wpAny _ _ (field (.ref z) 3 >>= _) _ _ s))
  refine wpAny_bind (wpAny_field Zz rfl (x := .ref TI) rfl (wpAny_bind (wpAny_seqItems Zi rfl (?_ : wpAny _ _ (Builtin.SmallTypes.ownedTupleIsFree (.ref z) >>= _) _ _ s))))
  refine wpAny_bind ?_; unfold Builtin.SmallTypes.ownedTupleIsFree
  refine wpAny_bind (wpAny_field Zz rfl (x := .none) rfl (wpAny_pure ?_))
  simp only [if_true]
  refine wpAny_bind (wpAny_rule (wpAny_bind (wpAny_field Zz rfl (x := .ref TO) rfl (wpAny_bind (wpAny_setField_rec Zz (by simp) fun g1 Zz1 m1 => ?_)))))
  replace Zz1 : IsZip g1 z TI TO .ellipsis := Zz1
  refine wpAny_bind ?_; simp only [List.zipIdx_cons, List.zipIdx_nil, List.forIn_cons, List.forIn_nil]
  refine wpAny_bind (wpAny_bind (wpAny_onRaise (?_ : wpAny _ _ (Builtin.SmallTypes.nextOf (.ref j1) >>= _) _ _ _)))
  cases ex1 : xs1[i]? with
  | none =>
    refine wpAny_bind (k_end hh (Z1.at fun o e => (m1.extBut _ _ D.z_j1.symm e)) (q1.keep fun o e => (m1.extBut _ _ (q1.ne_z Zz) e)) ex1 fun g2 e m2 ⟨oe, e1, e2⟩ => ?_)
    have ZzE : IsZip g2 z TI TO .ellipsis := m2 _ _ D.z_j1 Zz1
    have nz : e ≠ z := fun r => by subst r; rw [ZzE] at e1; cases e1; simp at e2
    exact wpAny_setField_rec ZzE (by simp) fun gE _ mE => fin gE e (fun c o c_z c_TO c_j1 c_j2 r => mE.extBut _ _ c_z (m2 _ _ c_j1 (m1.extBut _ _ c_z r))) ⟨oe, mE.extBut _ _ nz e1, e2⟩
  | some x1 =>
    refine wpAny_bind (k_item (Z1.at fun o e => (m1.extBut _ _ D.z_j1.symm e)) (q1.keep fun o e => (m1.extBut _ _ (q1.ne_z Zz) e)) ex1 fun g2 Y1 m2 => wpAny_pure ?_)
    have Zo2 : IsT2 g2 TO a1 a2 := m2.extBut _ _ D.TO_j1 (m1.extBut _ _ D.z_TO.symm Zo)
    refine wpAny_bind (wpAny_seqItems Zo2 rfl (wpAny_bind (upd_T2 Zo2 fun g3 Zo3 m3 => wpAny_bind (wpAny_letGo (wpAny_pure ?_)))))
    replace Zo3 : IsT2 g3 TO x1 a2 := Zo3
    refine wpAny_bind (wpAny_bind (wpAny_onRaise (?_ : wpAny _ _ (Builtin.SmallTypes.nextOf (.ref j2) >>= _) _ _ _)))
    have ex2 : xs2[i]? = none := by
      rcases en with r | r
      · rw [ex1] at r; cases r
      · exact r
    refine wpAny_bind (k_end hh (Z2.at fun o e => (m3.extBut _ _ D.TO_j2.symm (m2.extBut _ _ D.j1_j2.symm (m1.extBut _ _ D.z_j2.symm e)))) (q2.keep fun o e => (m3.extBut _ _ n2 (m2.extBut _ _ (q2.ne_j Z1) (m1.extBut _ _ (q2.ne_z Zz) e)))) ex2 fun g4 e m4 ⟨oe, e1, e2⟩ => ?_)
    have ZzE : IsZip g4 z TI TO .ellipsis := m4 _ _ D.z_j2 (m3.extBut _ _ D.z_TO (m2.extBut _ _ D.z_j1 Zz1))
    have nz : e ≠ z := fun r => by subst r; rw [ZzE] at e1; cases e1; simp at e2
    exact wpAny_setField_rec ZzE (by simp) fun gE _ mE => fin gE e (fun c o c_z c_TO c_j1 c_j2 r => mE.extBut _ _ c_z (m4 _ _ c_j2 (m3.extBut _ _ c_TO (m2.extBut _ _ c_j1 (m1.extBut _ _ c_z r))))) ⟨oe, mE.extBut _ _ nz e1, e2⟩
end
def Itz2 (k1 k2 : Bool) (K : PySem.W.Frag) (t1 t2 : Addr) : It :=
  ⟨fun i H => ∃ (xs1 : List V) (xs2 : List V) (x1 : V) (x2 : V), SqK k1 K H t1 xs1 ∧ SqK k2 K H t2 xs2 ∧ xs1[i]? = some x1 ∧ xs2[i]? = some x2,
   fun i H v H' => ∃ (T : Addr) (x1 x2 : V), v = .ref T ∧ H T = none ∧ H' = upd H T (.tup [x1, x2]) ∧ (∀ xs, SqK k1 K H t1 xs → xs[i]? = some x1) ∧ (∀ xs, SqK k2 K H t2 xs → xs[i]? = some x2),
   fun i H => ∃ (xs1 : List V) (xs2 : List V), SqK k1 K H t1 xs1 ∧ SqK k2 K H t2 xs2 ∧ (xs1.length ≤ i ∨ xs2.length ≤ i)⟩
theorem turn_z2 {P : Program} {w : World} {K : PySem.W.Frag} {elts : List Expr} {kc : Nat} {tp : Pos} (k1 k2 : Bool) (z TI TO j1 j2 t1 t2 : Addr) (D : ZN2 z TI TO j1 j2) (n1 : t1 ≠ TO) (n2 : t2 ≠ TO) :
    Turn P w K (.Tuple elts kc tp) (Itz2 k1 k2 K t1 t2) [z, TI, TO, j1, j2] z (fun i h => ZS2 z TI TO j1 j2 t1 t2 k1 k2 .none i h) where
  mem := by simp
  obj := fun i h st b hb => by
    obtain ⟨Zz, Zi, ⟨a1, a2, Zo⟩, Z1, Z2⟩ := st
    simp only [List.mem_cons, List.not_mem_nil, or_false] at hb
    rcases hb with rfl | rfl | rfl | rfl | rfl
    · exact ⟨_, Zz, fun _ r => by cases r⟩
    · exact ⟨_, Zi, fun _ r => by cases r⟩
    · exact ⟨_, Zo, fun _ r => by cases r⟩
    · exact Z1.ob
    · exact Z2.ob
  keep := fun i h h' st k => by
    obtain ⟨Zz, Zi, ⟨a1, a2, Zo⟩, Z1, Z2⟩ := st
    exact ⟨k z (by simp) _ Zz, k TI (by simp) _ Zi, ⟨a1, a2, k TO (by simp) _ Zo⟩, Z1.at fun o e => k j1 (by simp) o e, Z2.at fun o e => k j2 (by simp) o e⟩
  item := by
    intro X hP hw hK hc i pins s σ H E I hf st hg
    subst hP hw hK
    obtain ⟨xs1, xs2, x1, x2, h1, h2, ex1, ex2⟩ := hg
    obtain ⟨us1, r1, p1⟩ := sqK_of I h1
    obtain ⟨us2, r2, p2⟩ := sqK_of I h2
    obtain ⟨u1, eu1, rx1⟩ := r1.get ex1
    obtain ⟨u2, eu2, rx2⟩ := r2.get ex2
    refine z2_item D st (xs1 := us1.toArray) (xs2 := us2.toArray) p1 p2 n1 n2 (by simpa using eu1) (by simpa using eu2) fun h' st' pr sz kk => ⟨_, rfl, ?_⟩
    obtain ⟨Zz, Zi, ⟨a1, a2, Zo⟩, Z1, Z2⟩ := st'
    refine wpAny_letOwnedTupleGo_zip Zz fun h2' Zz' sb => ?_
    have hTz : s.heap.objs.size ≠ z := Nat.ne_of_gt (Heap.lt_size st.z)
    have kk2 : ∀ c o, c ≠ z → c ≠ TO → c ≠ j1 → c ≠ j2 → s.heap.get? c = some o → h2'.get? c = some o := fun c o c_z c_TO c_j1 c_j2 e => (sb.2 c c_z).trans (kk c o c_z c_TO c_j1 c_j2 e)
    have prT : h2'.get? s.heap.objs.size = some { cls := .type "tuple", data := .seq #[u1, u2] } := (sb.2 _ hTz).trans pr
    have hT : H s.heap.objs.size = none := I.hok.fresh (Nat.le_refl _)
    have neC : ∀ b, b ∉ [z, TO, j1, j2] → b ≠ z ∧ b ≠ TO ∧ b ≠ j1 ∧ b ≠ j2 := fun b hb => by simpa using hb
    have trk : ∀ b u, H b = some u → b ≠ z ∧ b ≠ TO ∧ b ≠ j1 ∧ b ≠ j2 := fun b u e => by
      refine ⟨?_, ?_, ?_, ?_⟩ <;> rintro rfl
      · rw [(hf b (by simp)).1] at e; cases e
      · rw [(hf b (by simp)).1] at e; cases e
      · rw [(hf b (by simp)).1] at e; cases e
      · rw [(hf b (by simp)).1] at e; cases e
    have ltT : ∀ b o, s.heap.get? b = some o → b ≠ s.heap.objs.size := fun b o e => Nat.ne_of_lt (Heap.lt_size e)
    have u : Un (frs X.stack) [z, TO, j1, j2] H (upd H s.heap.objs.size (.tup [x1, x2])) s.heap h2' :=
      ⟨fun b o e n _ hb => by obtain ⟨d0, d1, d2, d3⟩ := neC b hb; exact kk2 b o d0 d1 d2 d3 e, fun b o e n _ hb => by obtain ⟨d0, d1, d2, d3⟩ := neC b hb; exact ⟨o.slots, kk2 b o d0 d1 d2 d3 e⟩,
        fun b o e n hb => by rw [upd_ne (ltT b o e)]; exact n, fun b o e hb => by obtain ⟨d0, d1, d2, d3⟩ := neC b hb; exact ⟨o, kk2 b o d0 d1 d2 d3 e⟩,
        fun b ws e => by rw [upd_ne (ne_of_none e hT)]; exact e, fun b o ws e => by rw [upd_ne (ne_of_none e hT)]; exact e, fun b ps e => ⟨#[], by rw [upd_ne (ne_of_none e hT), e]; simp⟩⟩
    have hok : HOk X.prog X.w (upd H s.heap.objs.size (.tup [x1, x2])) h2' := fun b ob e => by
      by_cases hb : b = s.heap.objs.size
      · subst hb
        rw [upd_same] at e; cases e
        exact ⟨by show 2 ≤ sizeLine; decide, [u1, u2], (.cons rx1 (.cons rx2 .nil)), _, prT, rfl, 0, rfl⟩
      · rw [upd_ne hb] at e
        refine (I.hok b ob e).stay (fun c v hc' qc => ?_) (fun c q => by rw [upd_ne (ne_of_none q hT)]; exact q) fun c ws q => by rw [upd_ne (ne_of_none q hT)]; exact q
        have : ∃ o, H c = some o := by
          rcases hc' with rfl | hc'
          · exact ⟨_, e⟩
          · exact ⟨_, hc'⟩
        obtain ⟨o, ho⟩ := this
        obtain ⟨d0, d1, d2, d3⟩ := trk c o ho
        exact kk2 c v d0 d1 d2 d3 qc
    refine ⟨.ref s.heap.objs.size, upd H s.heap.objs.size (.tup [x1, x2]), ?_, rfl, ⟨_, x1, x2, rfl, hT, rfl, fun xs' h => by rw [sqK_inj I h h1]; exact ex1, fun xs' h => by rw [sqK_inj I h h2]; exact ex2⟩,
      ⟨Zz', (sb.2 _ D.z_TI.symm).trans Zi, ⟨_, _, (sb.2 _ D.z_TO.symm).trans Zo⟩, Z1.at fun o e => (sb.2 _ D.z_j1.symm).trans e, Z2.at fun o e => (sb.2 _ D.z_j2.symm).trans e⟩, fun b hb => ?_⟩
    · refine I.call' (s' := { s with heap := h2' }) (ch := [z, TO, j1, j2]) rfl u hok I.bare fun b hb => ?_
      obtain ⟨_, y1, y2, y3, y4, y5⟩ := hf b (by simp only [List.mem_cons, List.not_mem_nil, or_false] at hb ⊢; rcases hb with r | r | r | r <;> simp [r])
      exact ⟨y3, y1, y4, y5⟩
    · obtain ⟨o, e, _⟩ : ∃ o, s.heap.get? b = some o ∧ True := by
        obtain ⟨Zz, Zi, ⟨a1, a2, Zo⟩, Z1, Z2⟩ := st
        simp only [List.mem_cons, List.not_mem_nil, or_false] at hb
        rcases hb with rfl | rfl | rfl | rfl | rfl
        · exact ⟨_, Zz, trivial⟩
        · exact ⟨_, Zi, trivial⟩
        · exact ⟨_, Zo, trivial⟩
        · obtain ⟨o, e, _⟩ := Z1.ob; exact ⟨o, e, trivial⟩
        · obtain ⟨o, e, _⟩ := Z2.ob; exact ⟨o, e, trivial⟩
      rw [upd_ne (ltT b o e)]; exact (hf b hb).1
  done := by
    intro X hP hw hK hc i pins s σ H E I hf st hg
    subst hP hw hK
    obtain ⟨xs1, xs2, h1, h2, en⟩ := hg
    obtain ⟨us1, r1, p1⟩ := sqK_of I h1
    have l1 := r1.length
    obtain ⟨us2, r2, p2⟩ := sqK_of I h2
    have l2 := r2.length
    refine z2_end (I.ok.hd hc) D st (xs1 := us1.toArray) (xs2 := us2.toArray) p1 p2 n1 n2 (by rcases en with r | r; exact .inl (by simp; omega); exact .inr ((by simp; omega))) fun h' kk => ⟨rfl, ?_⟩
    have neC : ∀ b, b ∉ [z, TO, j1, j2] → b ≠ z ∧ b ≠ TO ∧ b ≠ j1 ∧ b ≠ j2 := fun b hb => by simpa using hb
    have u : Un (frs X.stack) [z, TO, j1, j2] H H s.heap h' :=
      ⟨fun b o e n _ hb => by obtain ⟨d0, d1, d2, d3⟩ := neC b hb; exact kk b o d0 d1 d2 d3 e, fun b o e n _ hb => by obtain ⟨d0, d1, d2, d3⟩ := neC b hb; exact ⟨o.slots, kk b o d0 d1 d2 d3 e⟩,
        fun b o e n hb => n, fun b o e hb => by obtain ⟨d0, d1, d2, d3⟩ := neC b hb; exact ⟨o, kk b o d0 d1 d2 d3 e⟩, fun b ws e => e, fun b o ws e => e, fun b ps e => ⟨#[], by rw [e]; simp⟩⟩
    have hok : HOk X.prog X.w H h' := fun b ob e => by
      refine (I.hok b ob e).stay (fun c v hc' qc => ?_) (fun c q => q) fun c ws q => q
      have : ∃ o, H c = some o := by
        rcases hc' with rfl | hc'
        · exact ⟨_, e⟩
        · exact ⟨_, hc'⟩
      obtain ⟨o, ho⟩ := this
      have nn : ∀ d ∈ [z, TI, TO, j1, j2], c ≠ d := fun d hd r => by subst r; rw [(hf c hd).1] at ho; cases ho
      exact kk c v (nn _ (by simp)) (nn _ (by simp)) (nn _ (by simp)) (nn _ (by simp)) qc
    refine I.call' (s' := { s with heap := h' }) (ch := [z, TO, j1, j2]) rfl u hok I.bare fun b hb => ?_
    obtain ⟨_, y1, y2, y3, y4, y5⟩ := hf b (by simp only [List.mem_cons, List.not_mem_nil, or_false] at hb ⊢; rcases hb with r | r | r | r <;> simp [r])
    exact ⟨y3, y1, y4, y5⟩
  self := fun _ _ _ _ _ st h => wpAny_pyIter_zip st.z h
def zr20 (h : Heap) (k1 k2 : Bool) (t1 t2 : Addr) : Heap := ((((h.push (kObj k1 t1)).push (kObj k2 t2)).push { cls := .type "tuple", data := .seq #[.ref h.objs.size, .ref (h.objs.size + 1)] }).push { cls := .type "tuple", data := .seq #[.none, .none] }).push { cls := .type "zip", data := .fields #[.none, .bool false, .bool false, .ref (h.objs.size + 2), .ref (h.objs.size + 3)] }
theorem zip_new2 (k1 k2 : Bool) (t1 t2 : Addr) (xs1 xs2 : Array Value) : Meets (Builtin.«zip.__new__» ⟨[.type "zip", .ref t1, .ref t2], []⟩) (fun _ R s => KSq k1 s.heap t1 xs1 ∧ KSq k2 s.heap t2 xs2 ∧ R (.ok (.ret (.ref (s.heap.objs.size + 4)))) { s with heap := zr20 s.heap k1 k2 t1 t2 }) :=
  .of_wp fun prog w A R s h => by
    obtain ⟨hp, g, d, tk, os⟩ := s; obtain ⟨q1, q2, h⟩ := h
    have hs := sub_zip
    have K1 : KSq k1 (Shared.heap ⟨hp, g, d, tk, os⟩) t1 xs1 := q1
    have K2 : KSq k2 (Shared.heap ⟨(hp.push (kObj k1 t1)), g, d, tk, os⟩) t2 xs2 := (KSq.push q2)
    wp_walk using kIter K1, kIter K2
    refine ⟨_, rfl, ?_⟩
    unfold zr20 at h
    simp only [Heap.size_push] at h ⊢
    exact h
section
variable {X : Cx}
def iZip2 (K : PySem.W.Frag) (t : TA) : TI := fun σ H R => t σ H fun vs H1 => ∃ (k1 k2 : Bool) (t1 t2 : Addr), vs = [.ref t1, .ref t2] ∧ (∃ xs, SqK k1 K H1 t1 xs) ∧ (∃ xs, SqK k2 K H1 t2 xs) ∧ R (Itz2 k1 k2 K t1 t2) H1
theorem zr20_get {h : Heap} {k1 k2 : Bool} {t1 t2 : Addr} : IsZip (zr20 h k1 k2 t1 t2) (h.objs.size + 4) (h.objs.size + 2) (h.objs.size + 3) .none ∧ IsT2 (zr20 h k1 k2 t1 t2) (h.objs.size + 2) (.ref h.objs.size) (.ref (h.objs.size + 1)) ∧ IsT2 (zr20 h k1 k2 t1 t2) (h.objs.size + 3) .none .none ∧
    KIt k1 (zr20 h k1 k2 t1 t2) (h.objs.size) t1 0 ∧ KIt k2 (zr20 h k1 k2 t1 t2) (h.objs.size + 1) t2 0 ∧ ∀ c o, h.get? c = some o → (zr20 h k1 k2 t1 t2).get? c = some o := by
  have z1 : (h.push (kObj k1 t1)).objs.size = h.objs.size + 1 := by rw [Heap.size_push]
  have z2 : ((h.push (kObj k1 t1)).push (kObj k2 t2)).objs.size = h.objs.size + 2 := by rw [Heap.size_push, z1]
  have z3 : (((h.push (kObj k1 t1)).push (kObj k2 t2)).push { cls := .type "tuple", data := .seq #[.ref h.objs.size, .ref (h.objs.size + 1)] }).objs.size = h.objs.size + 3 := by rw [Heap.size_push, z2]
  have z4 : ((((h.push (kObj k1 t1)).push (kObj k2 t2)).push { cls := .type "tuple", data := .seq #[.ref h.objs.size, .ref (h.objs.size + 1)] }).push { cls := .type "tuple", data := .seq #[.none, .none] }).objs.size = h.objs.size + 4 := by rw [Heap.size_push, z3]
  unfold zr20
  refine ⟨?_, ?_, ?_, ?_, ?_, fun c o e => ?_⟩
  · rw [← z4]; exact Heap.get?_push_size _ rfl
  · refine Heap.get?_push_of_some _ (Heap.get?_push_of_some _ ?_)
    refine push_at z2.symm ?_
    rfl
  · refine Heap.get?_push_of_some _ ?_
    refine push_at z3.symm ?_
    rfl
  · refine kIt_new (Heap.get?_push_of_some _ (Heap.get?_push_of_some _ (Heap.get?_push_of_some _ (Heap.get?_push_of_some _ ?_))))
    exact Heap.get?_push_size _ rfl
  · refine kIt_new (Heap.get?_push_of_some _ (Heap.get?_push_of_some _ (Heap.get?_push_of_some _ ?_)))
    exact push_at z1.symm rfl
  · exact (Heap.get?_push_of_some _ (Heap.get?_push_of_some _ (Heap.get?_push_of_some _ (Heap.get?_push_of_some _ (Heap.get?_push_of_some _ e)))))
theorem pi_zip2 {a b : Expr} {ta : TA} {p pos tp : Pos} {elts : List Expr} {kc : Nat} (hg : Gl X "zip") (hm : X.mg "zip" = none) (ha : PA X [a, b] ta) (hs : starEach [a, b] X.env = [(false, eval a X.env), (false, eval b X.env)] := by rfl) (hs1 : starEach [b] X.env = [(false, eval b X.env)] := by rfl) :
    PI X (.Tuple elts kc tp) (.Call (.Name "zip" p) [a, b] [] pos) (iZip2 X.K ta) := by
  intro pins s σ H R I h
  refine Call_ (ld_blt I hg hm (by decide +kernel : bootBuiltins "zip" = some (.type "zip")) (PyProof.Rows.callWith_type1 (thn (ha pos pins s σ H _ I h) fun us s1 ⟨vs, H1, I1, r1, q1⟩ => ?_) (by rw [hs, hs1]) (by rw [hs1]; rfl)))
  obtain ⟨k1, k2, t1, t2, e, ⟨xs1, k_1⟩, ⟨xs2, k_2⟩, q⟩ := q1
  subst e
  obtain ⟨u1, u2, rfl, ru1, ru2⟩ := vals2 r1
  cases (show u1 = Value.ref t1 from ru1)
  cases (show u2 = Value.ref t2 from ru2)
  obtain ⟨as1, ra1, pa1⟩ := sqK_of I1 k_1
  obtain ⟨as2, ra2, pa2⟩ := sqK_of I1 k_2
  refine callType_new F.called_zip (by decide) (F.typeCall_zip_2 _ _) (F.newCall_zip_2 _ _) (fun obj => F.args_object_init_3 obj _ _) F.entry_zip_new (zip_new2 k1 k2 t1 t2 as1.toArray as2.toArray) ⟨pa1, pa2, ?_⟩
  obtain ⟨g1, g2, g3, g4, g5, g6⟩ := zr20_get (h := s1.heap) (k1 := k1) (k2 := k2) (t1 := t1) (t2 := t2)
  show _ ∧ _
  refine ⟨⟨_, g1, rfl⟩, wpAny_pyIter_zip g1 ⟨_, [s1.heap.objs.size + 4, s1.heap.objs.size + 2, s1.heap.objs.size + 3, s1.heap.objs.size, s1.heap.objs.size + 1], _, _, H1, rfl, I1.kept (t' := s1.toks) g6,
    turn_z2 k1 k2 (s1.heap.objs.size + 4) (s1.heap.objs.size + 2) (s1.heap.objs.size + 3) s1.heap.objs.size (s1.heap.objs.size + 1) t1 t2 ?_ (nne (Nat.lt_of_lt_of_le pa1.lt (Nat.le_add_right _ _))) (nne (Nat.lt_of_lt_of_le pa2.lt (Nat.le_add_right _ _))), ⟨g1, g2, ⟨_, _, g3⟩, g4, g5⟩, fun b hb => ?_, q⟩⟩
  · constructor <;> (intro z; simp only [Nat.add_right_inj, Nat.add_eq_left, Nat.left_eq_add] at z; try omega)
  · have hb' : s1.heap.objs.size ≤ b := by
      simp only [List.mem_cons, List.not_mem_nil, or_false] at hb
      rcases hb with rfl | rfl | rfl | rfl | rfl
      · exact Nat.le_add_right _ _
      · exact Nat.le_add_right _ _
      · exact Nat.le_add_right _ _
      · exact Nat.le_refl _
      · exact Nat.le_add_right _ _
    exact I1.fpOk hb' (I1.hok.fresh hb')
end
structure ZN3 (z TI TO j1 j2 j3 : Addr) : Prop where
  z_TI : z ≠ TI
  z_TO : z ≠ TO
  z_j1 : z ≠ j1
  z_j2 : z ≠ j2
  z_j3 : z ≠ j3
  TI_TO : TI ≠ TO
  TI_j1 : TI ≠ j1
  TI_j2 : TI ≠ j2
  TI_j3 : TI ≠ j3
  TO_j1 : TO ≠ j1
  TO_j2 : TO ≠ j2
  TO_j3 : TO ≠ j3
  j1_j2 : j1 ≠ j2
  j1_j3 : j1 ≠ j3
  j2_j3 : j2 ≠ j3
abbrev IsT3 (h : Heap) (T : Addr) (a1 a2 a3 : Value) : Prop := h.get? T = some { cls := .type "tuple", data := .seq #[a1, a2, a3] }
section
variable {prog : Program} {w : World} {A : Around} {E : Value → Shared → Prop} {s : Shared}
structure ZS3 (z TI TO j1 j2 j3 t1 t2 t3 : Addr) (k1 k2 k3 : Bool) (f0 : Value) (i : Nat) (h : Heap) : Prop where
  z : IsZip h z TI TO f0
  ti : IsT3 h TI (.ref j1) (.ref j2) (.ref j3)
  to : ∃ a1 a2 a3, IsT3 h TO a1 a2 a3
  i1 : KIt k1 h j1 t1 i
  i2 : KIt k2 h j2 t2 i
  i3 : KIt k3 h j3 t3 i
variable {z TI TO j1 j2 j3 t1 t2 t3 : Addr} {k1 k2 k3 : Bool} {i : Nat} {xs1 xs2 xs3 : Array Value}
end
section
variable {X : Cx}
end
def Itk (k : Bool) (K : PySem.W.Frag) (a : Addr) : It := match k with | true => Itt K a | false => Itl K a
def iSeq (K : PySem.W.Frag) (tl : TE) : TI := fun σ H R => tl σ H fun x H1 => ∃ k a, x = .ref a ∧ (∃ xs, SqK k K H1 a xs) ∧ R (Itk k K a) H1
theorem pi_seq {X : Cx} {tg l : Expr} {tl : TE} (hl : PE X l tl) : PI X tg l (iSeq X.K tl) := by
  intro pins s σ H R I h
  refine thn (hl pins s σ H _ I h) fun v s1 ⟨x, H1, I1, r1, q1⟩ => ?_
  obtain ⟨k, a, e, ⟨xs, hq⟩, q⟩ := q1
  subst e
  cases r1
  cases k
  · obtain ⟨its, rv, p, hz⟩ := I1.list hq
    refine wpAny_pyIter_list p.isList ?_
    refine ⟨s1.heap.objs.size, [s1.heap.objs.size], _, _, H1, rfl, I1.kept (t' := s1.toks) fun b o e => Heap.get?_push_of_some _ e, turn_list a _, ⟨_, Heap.get?_push_size _ rfl, rfl, rfl⟩, fun b hb => ?_, q⟩
    have e : b = s1.heap.objs.size := by simpa using hb
    subst e
    exact I1.fpOk (Nat.le_refl _) (I1.hok.fresh (Nat.le_refl _))
  · obtain ⟨its, rv, p, hz⟩ := I1.tuple hq
    refine wpAny_pyIter_tuple (show s1.heap.IsTuple a its.toArray from p) ?_
    refine ⟨s1.heap.objs.size, [s1.heap.objs.size], _, _, H1, rfl, I1.kept (t' := s1.toks) fun b o e => Heap.get?_push_of_some _ e, turn_tuple a _, ⟨_, Heap.get?_push_size _ rfl, rfl, rfl⟩, fun b hb => ?_, q⟩
    have e : b = s1.heap.objs.size := by simpa using hb
    subst e
    exact I1.fpOk (Nat.le_refl _) (I1.hok.fresh (Nat.le_refl _))
def HSq (k : Bool) (H : Hp) (a : Addr) (xs : List V) : Prop := match k with | true => H a = some (.tup xs) | false => H a = some (.lst xs)
theorem HSq.sq {k : Bool} {K : PySem.W.Frag} {H : Hp} {a : Addr} {xs : List V} (h : HSq k H a xs) : SqK k K H a xs := by
  cases k
  · exact SqL.of h
  · exact SqT.of h
theorem HSq.same {k : Bool} {H H' : Hp} {a : Addr} {xs : List V} (h : HSq k H a xs) (e : Same H H') : HSq k H' a xs := by
  cases k <;> exact e _ _ h
theorem HSq.ne {k : Bool} {H : Hp} {a b : Addr} {xs : List V} (h : HSq k H a xs) (e : H b = none) : a ≠ b := fun z => by
  cases k
  · have h : H a = some (.lst xs) := h
    rw [z, e] at h; cases h
  · have h : H a = some (.tup xs) := h
    rw [z, e] at h; cases h
theorem HSq.upd {k : Bool} {H : Hp} {a l : Addr} {xs : List V} {o : HO} (h : HSq k H a xs) (n : a ≠ l) : HSq k (upd H l o) a xs := by
  cases k
  · show L2.upd H l o a = _; rw [upd_ne n]; exact h
  · show L2.upd H l o a = _; rw [upd_ne n]; exact h
theorem for_seq {k : Bool} {K : PySem.W.Frag} {a : Addr} {xs : List V} {g : TG} {tb : TS} {D : Ends} {σ : St} {H : Hp} (Pv : Nat → St → Hp → Prop) (h0 : Pv 0 σ H) (hl : ∀ i σ H, Pv i σ H → SqK k K H a xs)
    (hs : ∀ (i : Nat) (x : V) (σ : St) (H : Hp), xs[i]? = some x → Pv i σ H → g x σ H fun σ2 H2 => tb { D with nx := Pv (i + 1), ct := Pv (i + 1), bk := D.nx } σ2 H2)
    (hd : ∀ σ H, Pv xs.length σ H → D.nx σ H) :
    ∃ W : Nat → Nat → St → Hp → Prop, (∃ m, W 0 m σ H) ∧ ∀ i m σ H, W i m σ H →
      ((Itk k K a).stop i H ∧ D.nx σ H) ∨ ((Itk k K a).go i H ∧ ∃ N : St → Hp → Prop, (∀ σ' H', N σ' H' → ∃ m', m' < m ∧ W (i + 1) m' σ' H') ∧ ∀ x H', (Itk k K a).yld i H x H' → g x σ H' fun σ2 H2 => tb { D with nx := N, ct := N, bk := D.nx } σ2 H2) := by
  refine ⟨fun i m σ H => m = xs.length - i ∧ i ≤ xs.length ∧ Pv i σ H, ⟨xs.length, by simp, Nat.zero_le _, h0⟩, ?_⟩
  rintro i m σ H ⟨rfl, hi, p⟩
  have q1 := hl i σ H p
  by_cases hlt : i < xs.length
  · refine .inr ⟨?_, Pv (i + 1), fun σ' H' p' => ⟨xs.length - (i + 1), by omega, rfl, hlt, p'⟩, fun x H' y => ?_⟩
    · cases k
      · exact ⟨xs, xs[i], q1, by simp⟩
      · exact ⟨xs, xs[i], q1, by simp⟩
    · cases k
      · obtain ⟨rfl, e1⟩ := y; exact hs i x σ _ (e1 xs q1) p
      · obtain ⟨rfl, e1⟩ := y; exact hs i x σ _ (e1 xs q1) p
  · have e : i = xs.length := by omega
    subst e
    refine .inl ⟨?_, hd σ H p⟩
    cases k
    · exact ⟨xs, q1, Nat.le_refl _⟩
    · exact ⟨xs, q1, Nat.le_refl _⟩
theorem runs_z2 {k1 k2 : Bool} {K : PySem.W.Frag} {H : Hp} {a b : Addr} {xs ys : List V} (ha : HSq k1 H a xs) (hb : HSq k2 H b ys) (e : xs.length ≤ ys.length) : RunsZ (Itz2 k1 k2 K a b) H xs.length xs ys :=
  ⟨fun i H' hi s => ⟨xs, ys, xs[i], ys[i], (ha.same s).sq, (hb.same s).sq, by simp [hi], List.getElem?_eq_getElem _⟩, fun H' s => ⟨xs, ys, (ha.same s).sq, (hb.same s).sq, .inl (Nat.le_refl _)⟩,
    fun i v H2 H3 s ⟨T, x, y, z, h1, h2, h3, h4⟩ => ⟨T, x, y, z, h1, h2, h3 xs (ha.same s).sq, h4 ys (hb.same s).sq⟩⟩
theorem for_z2 {k1 k2 : Bool} {K : PySem.W.Frag} {a b : Addr} {xs ys : List V} {g : TG} {tb : TS} {D : Ends} {σ : St} {H : Hp} (e : xs.length ≤ ys.length) (Pv : Nat → St → Hp → Prop) (h0 : Pv 0 σ H) (hl : ∀ i σ H, Pv i σ H → SqK k1 K H a xs ∧ SqK k2 K H b ys)
    (hs : ∀ (i : Nat) (x y : V) (σ : St) (H : Hp) (T : Addr), xs[i]? = some x → ys[i]? = some y → Pv i σ H → H T = none → g (.ref T) σ (upd H T (.tup [x, y])) fun σ2 H2 => tb { D with nx := Pv (i + 1), ct := Pv (i + 1), bk := D.nx } σ2 H2)
    (hd : ∀ σ H, Pv xs.length σ H → D.nx σ H) :
    ∃ W : Nat → Nat → St → Hp → Prop, (∃ m, W 0 m σ H) ∧ ∀ i m σ H, W i m σ H →
      ((Itz2 k1 k2 K a b).stop i H ∧ D.nx σ H) ∨ ((Itz2 k1 k2 K a b).go i H ∧ ∃ N : St → Hp → Prop, (∀ σ' H', N σ' H' → ∃ m', m' < m ∧ W (i + 1) m' σ' H') ∧ ∀ x H', (Itz2 k1 k2 K a b).yld i H x H' → g x σ H' fun σ2 H2 => tb { D with nx := N, ct := N, bk := D.nx } σ2 H2) := by
  refine ⟨fun i m σ H => m = xs.length - i ∧ i ≤ xs.length ∧ Pv i σ H, ⟨xs.length, by simp, Nat.zero_le _, h0⟩, ?_⟩
  rintro i m σ H ⟨rfl, hi, p⟩
  have q1 := hl i σ H p
  by_cases hlt : i < xs.length
  · refine .inr ⟨⟨xs, ys, xs[i], ys[i], q1.1, q1.2, by simp, by simp⟩, Pv (i + 1), fun σ' H' p' => ⟨xs.length - (i + 1), by omega, rfl, hlt, p'⟩, fun v H' y => ?_⟩
    obtain ⟨T, u1, u2, rfl, hT, rfl, e1, e2⟩ := y
    exact hs i u1 u2 σ H T (e1 xs q1.1) (e2 ys q1.2) p hT
  · have e : i = xs.length := by omega
    subst e
    exact .inl ⟨⟨xs, ys, q1.1, q1.2, .inl (Nat.le_refl _)⟩, hd σ H p⟩
end L2
end
section
set_option maxHeartbeats 8000000
set_option Elab.async false
set_option linter.all false
set_option maxRecDepth 100000
namespace L2
open PySem PySem.Spec PyProof.Rows
theorem op_isnotB {X : Cx} : OpR X (compareOp .IsNot) (fun x y H Q => ∃ b c, x = .bl b ∧ y = .bl c ∧ Q (.bl (!decide (b = c))) H) := by
  intro pins s σ H x y v u Q I rx ry h
  obtain ⟨b, c, rfl, rfl, q⟩ := h
  cases rx
  cases ry
  refine wpAny_isNot_plain (by cases b <;> cases c <;> rfl) (fin_bl I q ?_)
  cases b <;> cases c <;> rfl
theorem repN (v : Value) (n : Nat) : List.foldl (fun x1 x2 => x1 ++ x2) #[] (List.replicate n #[v]) = (List.replicate n v).toArray := by
  have : ∀ (k : Nat) (acc : Array Value), List.foldl (fun x1 x2 => x1 ++ x2) acc (List.replicate k #[v]) = acc ++ (List.replicate k v).toArray := by
    intro k
    induction k with
    | zero => intro acc; simp
    | succ k ih => intro acc; rw [List.replicate_succ, List.foldl_cons, ih]; apply Array.toList_inj.mp; simp [List.replicate_succ]
  rw [this]; simp
set_option maxHeartbeats 4000000 in
theorem tuple_mulN (l : Addr) (v : Value) (n : Nat) (dd : Option Addr) (sl : Array (Option Value)) (m : Int) (hm0 : 1 < m) (hm1 : m ≤ 63) (u : Tok) :
    Meets (Builtin.«tuple.__mul__» ⟨[.ref l, .int m u], []⟩) (fun _ R s => s.heap.get? l = some { cls := .type "tuple", dict := dd, data := .seq #[v] n, slots := sl } ∧ R (.ok (.ret (Value.ref s.heap.objs.size))) { s with heap := s.heap.push { cls := Value.type "tuple", data := Data.seq (List.replicate m.toNat v).toArray }, toks := s.toks }) :=
  .of_wp fun prog w A R s h => by
    obtain ⟨hp, g, d, tk, os⟩ := s; obtain ⟨hl, h⟩ := h
    have f1 := AutoSeq1.idx_int
    wp_walk using wpAny_loadPart' hl
    rw [if_neg (by rw [decide_eq_false (show ¬ m < -2 ^ 63 by omega), decide_eq_false (show ¬ m ≥ 2 ^ 63 by omega)]; decide)]
    wp_walk using wpAny_loadPart' hl
    have em : (#[v] : Array Value).isEmpty = false := rfl
    rw [if_neg (by rw [beq_eq_false_iff_ne.mpr (show m ≠ 1 by omega), em]; decide)]
    (try dsimp only)
    rw [if_neg (by rw [decide_eq_false (show ¬ m ≤ 0 by omega), em]; decide)]
    (try dsimp only)
    rw [if_neg (show ¬ (((#[v] : Array Value).size : Int) * m > (2 ^ 63 - 1) / 8) by show ¬ ((1 : Int) * m > (2 ^ 63 - 1) / 8); omega)]
    (try dsimp only)
    rw [if_neg (show ¬ Builtin.Tuple.tupleTooMany (((#[v] : Array Value).size : Int) * m) = true by
      unfold Builtin.Tuple.tupleTooMany
      rw [decide_eq_true_eq]
      show ¬ ((1 : Int) * m > (sizeLine : Int))
      have : (1000 : Int) ≤ (sizeLine : Int) := by decide
      omega)]
    wp_walk using wpAny_loadPart' hl
    rw [repN, if_neg (show ¬ ((List.replicate m.toNat v).toArray.size > sizeLine) by
      rw [List.size_toArray, List.length_replicate]
      have : (1000 : Nat) ≤ sizeLine := by decide
      omega)]
    refine (?_ : wpAny (model prog w) A.in1 (newObjAsIs (Value.type "tuple") (Data.seq (List.replicate m.toNat v).toArray)) (fun a s' => wpAny (model prog w) A.in1 (ret a) (fun fin s' => ∃ v, fin = Fin.done (Flow.ret v) ∧ R (Except.ok (Flow.ret v)) s') (fun e s' => R (Except.error e) s') s') (fun e s' => R (Except.error e) s') { heap := hp, gens := g, drawn := d, toks := tk, os := os })
    wp_walk
    exact ⟨_, rfl, h⟩
theorem vals_rep {z : V} {v : Value} (h : RelV z v) : ∀ n, Vals (List.replicate n z) (List.replicate n v)
  | 0 => .nil
  | n + 1 => .cons h (vals_rep h n)
def rRepTn (K : PySem.W.Frag) : R2 := fun x y H Q => ∃ a z m, x = .ref a ∧ y = .int m ∧ 1 < m ∧ m ≤ 63 ∧ SqT K H a [z] ∧ ∀ p, H p = none → Q (.ref p) (upd H p (.tup (List.replicate m.toNat z)))
theorem op_repTn {X : Cx} : OpR X (binaryOp .Mult) (rRepTn X.K) := by
  intro pins s σ H x y v u Q I rx ry h
  obtain ⟨a, z, m, rfl, rfl, m0, m1, ha, q⟩ := h
  cases rx
  obtain ⟨t, rfl⟩ := ry
  obtain ⟨its, r, p1, _⟩ := I.tuple ha
  obtain ⟨v0, rfl, rz⟩ := vals1 r
  obtain ⟨⟨cls, dd, data, sl⟩, ho, hc, n, hd⟩ := id p1
  simp only at hc hd
  subst hc hd
  refine wpAny_binaryOp_repeat_ref (T := "tuple") (U := "int") (by decide) ⟨_, ho, rfl⟩ (fun s' => typeIs_int s' m t) noFill_tuple_mul F.fills_int_mul F.slot_int_rmul repeat_tuple F.slot_int_index.lookup
    (call_meets F.slot_int_rmul (typeIs_int s m t) F.entry_int_rmul (F.args_int_rmul_2 _ _) (int_rmul_tuple m t a _ n dd sl)
      ⟨ho, rfl, ⟨_, ho, rfl⟩, call_meets F.slot_tuple_mul ⟨_, ho, rfl⟩ F.entry_tuple_mul (F.args_tuple_mul_2 _ _) (tuple_mulN a v0 n dd sl m m0 m1 t) ⟨ho, ?_⟩⟩)
  refine ⟨.ref s.heap.objs.size, _, I.laid (t' := s.toks) (o := .tup (List.replicate m.toNat z)) (fun b ob q => Heap.get?_push_of_some _ q) (Nat.le_refl _) ?_, rfl, q _ (I.hok.fresh (Nat.le_refl _))⟩
  refine ⟨?_, List.replicate m.toNat v0, vals_rep rz _, IsTup.new _ _⟩
  rw [List.length_replicate]
  have : (1000 : Nat) ≤ sizeLine := by decide
  omega
end L2
end
section
set_option maxHeartbeats 8000000
set_option Elab.async false
set_option linter.all false
set_option maxRecDepth 100000
namespace KR
open PySem L2 KM KK
structure Tx3 (K : PySem.W.Frag) (mg : Str → Option Value) (tb tw : Tok) (aN : Addr) : Prop where
  nAll : mg "all" = none
  nZip : mg "zip" = none
  nList : mg "list" = none
  mb : mg "MOST_BALLS" = some (.int 8 tb)
  mw : mg "MOST_WEIGHT" = some (.int 1000 tw)
  tt : PySem.W.kitOne K (.type "tuple") (.type "tuple") = some true
  bb : PySem.W.kitOne K (.type "bool") (.type "bool") = some true
abbrev Wl := Option (Rat × Rat)
def WallAt (H : Hp) (v : V) : Wl → Prop
  | none => v = .non
  | some (x, y) => ∃ a p q, v = .ref a ∧ H a = some (.tup [.ref p, .ref q]) ∧ RatAt H p x ∧ RatAt H q y
theorem WallAt.same {H H' : Hp} {v : V} {l : Wl} (h : WallAt H v l) (e : Same H H') : WallAt H' v l := by
  cases l with
  | none => exact h
  | some z => obtain ⟨a, p, q, e1, e2, e3, e4⟩ := h; exact ⟨a, p, q, e1, e _ _ e2, e3.same e, e4.same e⟩
def WSz (l : Wl) : Prop := ∀ x y, l = some (x, y) → Sz 1600 x ∧ Sz 1600 y
def WS9 (l : Wl) : Prop := ∀ x y, l = some (x, y) → Sz 900 x ∧ Sz 900 y
theorem WS9.w {l : Wl} (h : WS9 l) : WSz l := fun x y e => ⟨(h x y e).1.mono (by decide), (h x y e).2.mono (by decide)⟩
def wgood : Wl → Wl → Bool
  | some l, some h => decide (l.1 < h.1)
  | _, _ => true
def fol (x y x' y' : Rat) : Bool := if x = x' then decide (y < y') else decide (x < x')
def Two (H : Hp) (v : V) (x y : Rat) : Prop := ∃ a p q r, v = .ref a ∧ H a = some (.tup (.ref p :: .ref q :: r)) ∧ RatAt H p x ∧ RatAt H q y ∧ (r = [] ∨ ∃ n, r = [.int n])
theorem Two.same {H H' : Hp} {v : V} {x y : Rat} (h : Two H v x y) (e : Same H H') : Two H' v x y := by
  obtain ⟨a, p, q, r, e1, e2, e3, e4, e5⟩ := h; exact ⟨a, p, q, r, e1, e _ _ e2, e3.same e, e4.same e, e5⟩
theorem WallAt.two {H : Hp} {v : V} {x y : Rat} (h : WallAt H v (some (x, y))) : Two H v x y := by
  obtain ⟨a, p, q, e1, e2, e3, e4⟩ := h; exact ⟨a, p, q, [], e1, e2, e3, e4, .inl rfl⟩
theorem eqv_two (x y x' y' : Rat) : PyData.eqv (.tuple [.tuple [.int x.num, .int (x.den : Int)], .tuple [.int y.num, .int (y.den : Int)]]) (.tuple [.tuple [.int x'.num, .int (x'.den : Int)], .tuple [.int y'.num, .int (y'.den : Int)]]) = (decide (x = x') && decide (y = y')) := by
  have e1 := eqv_rp x x'
  have e2 := eqv_rp y y'
  simp only [PyData.eqv, PyData.eqvAll, Bool.and_true] at e1 e2 ⊢
  rw [e1, e2]
section
variable {P : Program} {w : World} {K : PySem.W.Frag} {mg : Str → Option Value} {base : Heap} {tb tw : Tok} {aN : Addr}
def spTu : Sp := fun vs H Q _ => ∃ p xs n, vs = [.ref p, .int n] ∧ H p = some (.tup xs) ∧ Q (.bl (decide (V.int (xs.length : Nat) = V.int n))) H
theorem sc_istup : FnScope ["thing", "many"] ["thing", "many"] (defScope s_is_tuple) := ⟨rfl, rfl, rfl, by decide +kernel, rfl, by decide +kernel, by decide +kernel⟩
def spIr : Sp := fun vs H Q _ => ∃ p x, vs = [.ref p] ∧ RatAt H p x ∧ Q (.bl true) H
theorem sc_isr : FnScope ["thing", "top", "bottom"] ["thing"] (defScope s_is_ratio) := ⟨rfl, rfl, rfl, by decide +kernel, rfl, by decide +kernel, by decide +kernel⟩
def spLt : Sp := fun vs H Q _ => ∃ p q x y, vs = [.ref p, .ref q] ∧ RatAt H p x ∧ RatAt H q y ∧ Sz2 x y ∧ Q (.bl (decide (x < y))) H
theorem sc_lt : FnScope ["one", "other"] ["one", "other"] (defScope s_less) := ⟨rfl, rfl, rfl, by decide +kernel, rfl, by decide +kernel, by decide +kernel⟩
theorem lt_dec (x y : Rat) : decide (x.num * y.den < y.num * x.den) = decide (x < y) := by
  rw [Bool.eq_iff_iff, decide_eq_true_eq, decide_eq_true_eq]; exact less_iff x y
theorem ok_lt (D : Df K mg "less" s_less ["one", "other"] []) : Cal P w K mg base "less" 1 ["one", "other"] [] spLt := by
  refine D.cal (k := 0) sc_lt (fun vs H Q E h => by obtain ⟨_, _, _, _, rfl, _⟩ := h; rfl) (fun f cdv A outer s H vs Q E hr h => ?_)
  obtain ⟨p, q, x, y, rfl, hp, hq, ⟨hx, hy⟩, k⟩ := h
  have bx := Bd4 hx
  have b_y := Bd4 hy
  refine ⟨_, pss_one (ps_ret (pe_cmpR op_lt (pe_op op_mulB (pe_ix ix_tup (pv 0) pe_int (fun _ _ => rfl)) (pe_ix ix_tup (pv 1) pe_int (fun _ _ => rfl))) (pe_op op_mulB (pe_ix ix_tup (pv 1) pe_int (fun _ _ => rfl)) (pe_ix ix_tup (pv 0) pe_int (fun _ _ => rfl))) (nomark _))), ?_⟩
  refine ⟨_, rfl, p, _, _, _, rfl, rfl, .of hp, at0 .., _, rfl, q, _, _, _, rfl, rfl, .of hq, at1 .., _, _, rfl, rfl, ⟨bx.1, b_y.2⟩, _, rfl, q, _, _, _, rfl, rfl, .of hq, at0 .., _, rfl, p, _, _, _, rfl, rfl, .of hp, at1 .., _, _, rfl, rfl, ⟨b_y.1, bx.2⟩, _, _, rfl, rfl, ?_⟩
  show Q (.bl (decide (x.num * y.den < y.num * x.den))) H
  rw [lt_dec]; exact k
def spWa : Sp := fun vs H Q _ => ∃ v l, vs = [v] ∧ WallAt H v l ∧ Q (.bl true) H
theorem sc_iswall : FnScope ["thing"] ["thing"] (defScope s_is_wall) := ⟨rfl, rfl, rfl, by decide +kernel, rfl, by decide +kernel, by decide +kernel⟩
theorem ok_wa (D : Df K mg "is_wall" s_is_wall ["thing"] []) (cTu : Cal P w K mg base "is_tuple" 1 ["thing", "many"] [] spTu) (cIr : Cal P w K mg base "is_ratio" 2 ["thing"] [] spIr) : Cal P w K mg base "is_wall" 3 ["thing"] [] spWa := by
  refine D.cal (k := 2) sc_iswall (fun vs H Q E h => by obtain ⟨_, _, rfl, _⟩ := h; rfl) (fun f cdv A outer s H vs Q E hr2 h => ?_)
  obtain ⟨v, l, rfl, hw, k⟩ := h
  have hr1 : Room 1 _ := hr2.mono (by decide)
  refine ⟨_, (pss_cons (ps_if (pt_cmpR op_isN (pv 0) pe_non (nomark _)) (pss_one (ps_ret pe_bl)) pss_nil)
    (pss_one (ps_ret (pe_and (pe_c cTu hr1 (pa_cons (pv 0) (pa_cons pe_int pa_nil))) (pe_and (pe_c cIr hr2 (pa_cons (pe_ix ix_tup (pv 0) pe_int (fun _ _ => rfl)) pa_nil)) (pe_one (pe_c cIr hr2 (pa_cons (pe_ix ix_tup (pv 0) pe_int (fun _ _ => rfl)) pa_nil)))))))), ?_⟩
  cases l with
  | none =>
    obtain rfl : v = .non := hw
    exact ⟨_, rfl, rfl, _, rfl, iteT k⟩
  | some z =>
    obtain ⟨x, y⟩ := z
    obtain ⟨a, p, q, rfl, ha, hp, hq⟩ := hw
    refine ⟨_, rfl, rfl, _, rfl, iteF ?_⟩
    refine ⟨_, rfl, a, _, _, rfl, ha, true, rfl, iteT ?_⟩
    refine ⟨_, rfl, a, _, _, _, rfl, rfl, .of ha, rfl, p, x, rfl, hp, true, rfl, iteT ?_⟩
    exact ⟨_, rfl, a, _, _, _, rfl, rfl, .of ha, rfl, q, y, rfl, hq, k⟩
theorem sc_iswp : FnScope ["thing"] ["thing"] (defScope s_is_wall_pair) := ⟨rfl, rfl, rfl, by decide +kernel, rfl, by decide +kernel, by decide +kernel⟩
theorem sc_wgood : FnScope ["thing", "low", "high"] ["thing"] (defScope s_walls_good) := ⟨rfl, rfl, rfl, by decide +kernel, rfl, by decide +kernel, by decide +kernel⟩
theorem sc_ballf : FnScope ["thing"] ["thing"] (defScope s_is_ball_form) := ⟨rfl, rfl, rfl, by decide +kernel, rfl, by decide +kernel, by decide +kernel⟩
theorem sc_iw : FnScope ["thing"] ["thing"] (defScope s_is_weight) := ⟨rfl, rfl, rfl, by decide +kernel, rfl, by decide +kernel, by decide +kernel⟩
theorem sc_ball : FnScope ["thing"] ["thing"] (defScope s_is_ball) := ⟨rfl, rfl, rfl, by decide +kernel, rfl, by decide +kernel, by decide +kernel⟩
def spFo : Sp := fun vs H Q _ => ∃ v u x y x' y', vs = [v, u] ∧ Two H v x y ∧ Two H u x' y' ∧ (Sz 1600 x ∧ Sz 1600 y ∧ Sz 1600 x' ∧ Sz 1600 y') ∧ Q (.bl (fol x y x' y')) H
theorem sc_fol : FnScope ["left", "right"] ["left", "right"] (defScope s_follows) := ⟨rfl, rfl, rfl, by decide +kernel, rfl, by decide +kernel, by decide +kernel⟩
theorem ok_fo (D : Df K mg "follows" s_follows ["left", "right"] []) (cLt : Cal P w K mg base "less" 1 ["one", "other"] [] spLt) : Cal P w K mg base "follows" 2 ["left", "right"] [] spFo := by
  refine D.cal (k := 1) sc_fol (fun vs H Q E h => by obtain ⟨_, _, _, _, _, _, rfl, _⟩ := h; rfl) (fun f cdv A outer s H vs Q E hr1 h => ?_)
  obtain ⟨v, u, x, y, x', y', rfl, ⟨a, p, q, r, rfl, ha, hp, hq, _⟩, ⟨a', p', q', r', rfl, ha', hp', hq', _⟩, ⟨zx, zy, zx', zy'⟩, k⟩ := h
  have hu := hr1.units
  refine ⟨_, (pss_cons (ps_if (pt_cmpR (op_eqD hu) (pe_ix ix_tup (pv 0) pe_int (fun _ _ => rfl)) (pe_ix ix_tup (pv 1) pe_int (fun _ _ => rfl)) (nomark _)) (pss_one (ps_ret (pe_c cLt hr1 (pa_cons (pe_ix ix_tup (pv 0) pe_int (fun _ _ => rfl)) (pa_cons (pe_ix ix_tup (pv 1) pe_int (fun _ _ => rfl)) pa_nil))))) pss_nil)
    (pss_one (ps_ret (pe_c cLt hr1 (pa_cons (pe_ix ix_tup (pv 0) pe_int (fun _ _ => rfl)) (pa_cons (pe_ix ix_tup (pv 1) pe_int (fun _ _ => rfl)) pa_nil)))))), ?_⟩
  refine ⟨_, rfl, a, _, _, _, rfl, rfl, .of ha, atI0 .., _, rfl, a', _, _, _, rfl, rfl, .of ha', atI0 .., _, _, hp.rd, hp'.rd, shaped_rp _, shaped_rp _, ?_⟩
  rw [eqv_rp]
  refine ⟨_, rfl, ite2 (fun h => ?_) (fun h => ?_)⟩
  · have hx : x = x' := of_decide_eq_true h
    refine ⟨_, rfl, a, _, _, _, rfl, rfl, .of ha, atI1 .., _, rfl, a', _, _, _, rfl, rfl, .of ha', atI1 .., q, q', y, y', rfl, hq, hq', ⟨zy.mono (by decide), zy'.mono (by decide)⟩, ?_⟩
    unfold fol at k; rw [if_pos hx] at k; exact k
  · have hx : ¬ x = x' := fun z => h (decide_eq_true z)
    refine ⟨_, rfl, a, _, _, _, rfl, rfl, .of ha, atI0 .., _, rfl, a', _, _, _, rfl, rfl, .of ha', atI0 .., p, p', x, x', rfl, hp, hp', ⟨zx.mono (by decide), zx'.mono (by decide)⟩, ?_⟩
    unfold fol at k; rw [if_neg hx] at k; exact k
def spKs : Sp := fun vs H Q _ => ∃ v u x y x' y', vs = [v, u] ∧ Two H v x y ∧ Two H u x' y' ∧ (Sz 1600 x ∧ Sz 1600 y ∧ Sz 1600 x' ∧ Sz 1600 y') ∧ ∀ H', Same H H' → Q (.bl ((decide (x = x') && decide (y = y')) || fol x y x' y')) H'
theorem two_cut {H : Hp} {v : V} {x y : Rat} {Q : VK} (h : Two H v x y) (k : ∀ a p q H', Same H H' → H' a = some (.tup [.ref p, .ref q]) → RatAt H' p x → RatAt H' q y → Q (.ref a) H') : rSlT K v none (some 2) H Q ∨ rSlW K v none (some 2) H Q := by
  obtain ⟨a, p, q, r, rfl, ha, hp, hq, hr⟩ := h
  rcases hr with rfl | ⟨n, rfl⟩
  · exact .inr ⟨a, _, rfl, .of ha, ⟨rfl, rfl⟩, k a p q H (Same.refl _) ha hp hq⟩
  · refine .inl ⟨a, _, rfl, .of ha, (by intro z; have z2 : HT.sIx 3 3 (some 2) = 3 := z.2; revert z2; decide), fun l hl => k l p q _ (Same.upd hl) upd_same (hp.same (Same.upd hl)) (hq.same (Same.upd hl))⟩
theorem sc_keep : FnScope ["left", "right"] ["left", "right"] (defScope s_keeps_side) := ⟨rfl, rfl, rfl, by decide +kernel, rfl, by decide +kernel, by decide +kernel⟩
theorem ok_ks (D : Df K mg "keeps_side" s_keeps_side ["left", "right"] []) (cFo : Cal P w K mg base "follows" 2 ["left", "right"] [] spFo) : Cal P w K mg base "keeps_side" 3 ["left", "right"] [] spKs := by
  refine D.cal (k := 2) sc_keep (fun vs H Q E h => by obtain ⟨_, _, _, _, _, _, rfl, _⟩ := h; rfl) (fun f cdv A outer s H vs Q E hr h => ?_)
  obtain ⟨v, u, x, y, x', y', rfl, hv, hu', zz, k⟩ := h
  have hu := hr.units
  refine ⟨_, (pss_one (ps_ret (pe_or (pe_cmpR (op_eqD hu) (pe_slice (sl_tup.or sl_whole) (pv 0) po_none (po_some pe_int)) (pe_slice (sl_tup.or sl_whole) (pv 1) po_none (po_some pe_int)) (nomark _)) (pe_one (pe_c cFo hr (pa_cons (pv 0) (pa_cons (pv 1) pa_nil))))))), ?_⟩
  refine ⟨_, rfl, _, rfl, two_cut hv fun a p q H1 e1 ha hp hq => ?_⟩
  refine ⟨_, rfl, _, rfl, two_cut (hu'.same e1) fun a' p' q' H2 e2 ha' hp' hq' => ?_⟩
  refine ⟨_, _, .tup (e2 _ _ ha) (.cons (hp.same e2).rd (.cons (hq.same e2).rd .nil)), .tup ha' (.cons hp'.rd (.cons hq'.rd .nil)), rfl, rfl, ?_⟩
  rw [eqv_two]
  have e3 := e1.trans e2
  cases hc : (decide (x = x') && decide (y = y')) with
  | true =>
    have := k H2 e3
    rw [hc, Bool.true_or] at this
    exact ⟨true, rfl, iteT this⟩
  | false =>
    have := k H2 e3
    rw [hc, Bool.false_or] at this
    exact ⟨false, rfl, iteF ⟨_, rfl, _, rfl, v, u, x, y, x', y', rfl, hv.same e3, hu'.same e3, zz, this⟩⟩
end
end KR
namespace KR
open PySem L2 KM KK
theorem vint_dec (i j : Int) : decide (V.int i = V.int j) = decide (i = j) := by
  rw [Bool.eq_iff_iff, decide_eq_true_eq, decide_eq_true_eq]
  exact ⟨fun z => by injection z, fun z => by rw [z]⟩
theorem rat_int {H : Hp} {p : Addr} {n : Int} (h : H p = some (.tup [.int n, .int 1])) : RatAt H p (n : Rat) := by
  unfold RatAt rp; rw [int_num, int_den]; exact h
end KR
namespace KR
open PySem L2 KM KK
theorem pg_tupK {X : Cx} {es : List Expr} {k : Nat} {pos : Pos} {t : TGs} {n : Nat} {K : PySem.W.Frag} (hK : X.K = K) (hc : X.calm = true) (h : PGs X es t)
    (hn : (assignEach es X.env).length = n := by rfl) (hst : (assignEach es X.env).findIdx? (·.1) = none := by rfl) : PG X (.Tuple es k pos) (gTup K n t) := by subst hK; exact pg_tup hc h hn hst
theorem ix_tupK {X : Cx} {K : PySem.W.Frag} (hK : X.K = K) : IxR X (rIxT K) := by subst hK; exact ix_tup
theorem ix_listK {X : Cx} {K : PySem.W.Frag} (hK : X.K = K) : IxR X (rIxL K) := by subst hK; exact ix_list
theorem tk_snoc {α : Type} {l : List α} {i : Nat} {x : α} (h : l[i]? = some x) : l.take (i + 1) = l.take i ++ [x] := by rw [List.take_add_one, h]; rfl
theorem ln1 {σ : St} (h : σ.length = 1) : ∃ a, σ = [a] := by
  match σ, h with
  | [a], _ => exact ⟨a, rfl⟩
theorem ln2 {σ : St} (h : σ.length = 2) : ∃ a b, σ = [a, b] := by
  match σ, h with
  | [a, b], _ => exact ⟨a, b, rfl⟩
def folB (z : Ball × Ball) : Bool := fol z.1.pl z.1.sp z.2.pl z.2.sp
def ordB (bs : List Ball) : Bool := (bs.zip bs.tail).all folB
def BSz (bs : List Ball) : Prop := ∀ b ∈ bs, Sz 1600 b.pl ∧ Sz 1600 b.sp
theorem ball_two {H : Hp} {a p q : Addr} {b : Ball} (h : H a = some (.tup [.ref p, .ref q, .int b.wt])) (hp : RatAt H p b.pl) (hq : RatAt H q b.sp) : Two H (.ref a) b.pl b.sp := ⟨a, p, q, _, rfl, h, hp, hq, .inr ⟨_, rfl⟩⟩
theorem sIx1 {n : Nat} (h : 1 ≤ n) : HT.sIx n 0 (some 1) = 1 := by
  show HT.sIx n 0 (some ((1 : Nat) : Int)) = 1
  rw [HT.sIx_nat]; omega
theorem cut1 {us : List V} (h : us ≠ []) : cutV us (some 1) none = us.drop 1 := by
  have hl : 1 ≤ us.length := by cases us with | nil => exact absurd rfl h | cons => simp
  unfold cutV
  rw [sIx1 hl, HT.sIx_none]
  rw [List.take_of_length_le (by rw [List.length_drop]; omega)]
section
variable {P : Program} {w : World} {K : PySem.W.Frag} {mg : Str → Option Value} {base : Heap} {tb tw : Tok} {aN : Addr}
theorem comp_ord {σ : St} {H : Hp} {Q : VK} {r : Addr} {us : List V} {bs : List Ball} (hσ : σ[0]? = some (some (.ref r))) (hr : H r = some (.tup us)) (hB : BallsAt H us bs) (hne : bs ≠ []) (hlen : bs.length ≤ 8) (hz : BSz bs)
    (k : ∀ D H', Same H H' → H' D = some (.lst (((bs.zip bs.tail).map folB).map V.bl)) → Q (.ref D) H') :
    tComp 2 (iZip K (tCons (tVar 0) (tCons (tSl (rSlT K) (tVar 0) (tPart (tC (.int 1))) tNoPart) tNil))) (gTup K 2 (gCons (gName 0) (gCons (gName 1) gNil))) (fun _ H Q => Q true H) (tCall spFo [] E0 (tCons (tVar 0) (tCons (tVar 1) tNil))) σ H Q := by
  have hl := hB.length
  have hus : us ≠ [] := by rintro rfl; simp at hl; exact hne (List.length_eq_zero_iff.mp hl.symm)
  have hl1 : 1 ≤ us.length := by cases us with | nil => exact absurd rfl hus | cons => simp
  refine ⟨_, hσ, _, hσ, _, rfl, r, us, rfl, .of hr, ?_, fun l hl' => ?_⟩
  · intro z
    have z1 : HT.sIx us.length 0 (some 1) = 0 := z.1
    rw [sIx1 hl1] at z1
    cases z1
  rw [cut1 hus]
  have hr1 := Same.upd (o := .tup (us.drop 1)) hl' _ _ hr
  refine ⟨r, l, rfl, ⟨_, .of hr1⟩, ⟨_, .of upd_same⟩, fun D hD => ?_⟩
  generalize hH1 : upd H l (.tup (us.drop 1)) = H1 at hr1 hD
  have e1 : Same H H1 := by rw [← hH1]; exact Same.upd hl'
  have hl1' : H1 l = some (.tup (us.drop 1)) := by rw [← hH1]; exact upd_same
  have hB1 := hB.same e1
  have hN : (bs.zip bs.tail).length = us.length - 1 := by rw [List.length_zip, List.length_tail, hl]; omega
  refine comp_by (J := Itz K r l) (g := gTup K 2 (gCons (gName 0) (gCons (gName 1) gNil))) (tt := fun _ H Q => Q true H) (te := tCall spFo [] E0 (tCons (tVar 0) (tCons (tVar 1) tNil))) (Q := Q) (N := us.length - 1) (n := 2) (fun i H2 ys => Same H1 H2 ∧ ys = (((bs.zip bs.tail).map folB).map V.bl).take i) ⟨Same.upd hD, rfl⟩ (fun i H2 ys hi ⟨s2, _⟩ => ?_) (fun H2 ys ⟨s2, _⟩ => ?_) ?_ ?_
  · exact ⟨us, us.drop 1, us[i]'(by omega), us[i + 1]'(by omega), .of (s2 _ _ hr1), .of (s2 _ _ hl1'), List.getElem?_eq_getElem _, by rw [List.getElem?_drop, Nat.add_comm 1 i]; exact List.getElem?_eq_getElem _⟩
  · exact ⟨us, us.drop 1, .of (s2 _ _ hr1), .of (s2 _ _ hl1'), .inr (by rw [List.length_drop]; exact Nat.le_refl _)⟩
  · rintro i x zs H2 H3 ys Nx hNx hi hzs ⟨T, x1, y1, rfl, hT, rfl, f1, f2⟩ ⟨s2, rfl⟩ hD2
    obtain ⟨z1, z2, rfl⟩ := ln2 hzs
    have g1 := f1 us (.of (s2 _ _ hr1))
    have g2 := f2 (us.drop 1) (.of (s2 _ _ hl1'))
    rw [List.getElem?_drop, Nat.add_comm 1 i] at g2
    obtain ⟨a, p, q, b, eb, rfl, ha, hp, hq⟩ := hB1.get g1
    obtain ⟨a', p', q', c, ec, rfl, ha', hp', hq'⟩ := hB1.get g2
    have s3 : Same H1 (upd H2 T (.tup [.ref a, .ref a'])) := s2.trans (Same.upd hT)
    refine ⟨T, _, rfl, .of upd_same, rfl, _, _, rfl, _, _, rfl, rfl, iteT ?_⟩
    have mb := List.mem_of_getElem? eb
    have mc := List.mem_of_getElem? ec
    refine ⟨_, rfl, _, rfl, _, _, b.pl, b.sp, c.pl, c.sp, rfl, (ball_two (s3 _ _ ha) (hp.same s3) (hq.same s3)), (ball_two (s3 _ _ ha') (hp'.same s3) (hq'.same s3)), ⟨(hz b mb).1, (hz b mb).2, (hz c mc).1, (hz c mc).2⟩, ?_⟩
    refine ⟨by rw [upd_ne (ne_of_none hD2 hT)]; exact hD2, ?_, hNx _ _ ⟨same_mk hD s2 (Same.upd hT), ?_⟩⟩
    · rw [List.length_take]; exact small1000 (by omega)
    · have ez : (bs.zip bs.tail)[i]? = some (b, c) := by
        have : bs.tail[i]? = some c := by rw [List.getElem?_tail]; exact ec
        rw [List.getElem?_zip_eq_some]; exact ⟨eb, this⟩
      rw [tk_snoc (x := V.bl (folB (b, c))) (by rw [List.getElem?_map, List.getElem?_map, ez]; rfl)]; rfl
  · rintro H2 ys ⟨s2, rfl⟩ hD2
    rw [List.take_of_length_le (by rw [List.length_map, List.length_map, hN]; exact Nat.le_refl _)] at hD2
    exact k D H2 (e1.trans s2) hD2
theorem all_map (f : α → Bool) (l : List α) : (l.map f).all id = l.all f := by rw [List.all_map]; rfl
def spOd : Sp := fun vs H Q _ => ∃ r us bs, vs = [.ref r] ∧ H r = some (.tup us) ∧ BallsAt H us bs ∧ bs ≠ [] ∧ bs.length ≤ 8 ∧ BSz bs ∧ ∀ H', Same H H' → Q (.bl (ordB bs)) H'
theorem sc_ord : FnScope ["row"] ["row"] (defScope s_is_ordered) := ⟨rfl, rfl, rfl, by decide +kernel, rfl, by decide +kernel, by decide +kernel⟩
theorem ok_od (D : Df K mg "is_ordered" s_is_ordered ["row"] []) (T3 : Tx3 K mg tb tw aN) (cFo : Cal P w K mg base "follows" 2 ["left", "right"] [] spFo) : Cal P w K mg base "is_ordered" 3 ["row"] [] spOd := by
  refine D.cal (k := 2) sc_ord (fun vs H Q E h => by obtain ⟨_, _, _, rfl, _⟩ := h; rfl) (fun f cdv A outer s H vs Q E hr h => ?_)
  obtain ⟨r, us, bs, rfl, hrr, hB, hne, hlen, hz, k⟩ := h
  refine ⟨_, (pss_one (ps_ret (pe_callB (call_all rfl) (by rfl) T3.nAll (by decide +kernel) (pa_cons (pe_comp (NB := ["left", "right"]) rfl (by decide +kernel) (by decide +kernel) rfl (by decide +kernel) (pi_zip (by rfl) T3.nZip (pa_cons (pv 0) (pa_cons (pe_slice sl_tup (pv 0) (po_some pe_int) po_none) pa_nil))) (by intro _ _ _; refine ⟨?_, ?_, ?_⟩; (exact (pg_tupK (K := K) (n := 2) rfl rfl (pgs_cons (pg_name (i := 0) (show List.Nodup (["left", "right"] : List Str) by decide +kernel) rfl (Or.inl rfl)) (pgs_cons (pg_name (i := 1) (show List.Nodup (["left", "right"] : List Str) by decide +kernel) rfl (Or.inl rfl)) pgs_nil)))); (exact pts_nil); (exact (pe_c cFo hr (pa_cons (pv 0) (pa_cons (pv 1) pa_nil)))))) pa_nil)))), ?_⟩
  unfold tRet tCB tCons
  refine comp_ord (K := K) rfl hrr hB hne hlen hz fun D H' e hD => ⟨D, _, rfl, SqL.of hD, ?_⟩
  rw [all_map]; exact k H' e
def loB (l : Wl) (b : Ball) : Bool := match l with | none => true | some (x, y) => (decide (x = b.pl) && decide (y = b.sp)) || fol x y b.pl b.sp
def hiB (l : Wl) (c : Ball) : Bool := match l with | none => true | some (x, y) => (decide (c.pl = x) && decide (c.sp = y)) || fol c.pl c.sp x y
def btwB (l h : Wl) (b c : Ball) : Bool := loB l b && hiB h c
def spBe : Sp := fun vs H Q _ => ∃ a v1 v2 l1 l2 r us bs b cs c, vs = [.ref a, .ref r] ∧ H a = some (.tup [v1, v2]) ∧ WallAt H v1 l1 ∧ WallAt H v2 l2 ∧ WSz l1 ∧ WSz l2 ∧ H r = some (.tup us) ∧ BallsAt H us bs ∧ bs[0]? = some b ∧ bs = cs ++ [c] ∧ BSz bs ∧ ∀ H', Same H H' → Q (.bl (btwB l1 l2 b c)) H'
theorem sc_betw : FnScope ["walls", "row", "low", "high"] ["walls", "row"] (defScope s_is_between) := ⟨rfl, rfl, rfl, by decide +kernel, rfl, by decide +kernel, by decide +kernel⟩
theorem ok_be (D : Df K mg "is_between" s_is_between ["walls", "row"] []) (cKs : Cal P w K mg base "keeps_side" 3 ["left", "right"] [] spKs) : Cal P w K mg base "is_between" 4 ["walls", "row"] [] spBe := by
  refine D.cal (k := 3) sc_betw (fun vs H Q E h => by obtain ⟨_, _, _, _, _, _, _, _, _, _, _, rfl, _⟩ := h; rfl) (fun f cdv A outer s H vs Q E hr h => ?_)
  obtain ⟨a, v1, v2, l1, l2, r, us, bs, b, cs, c, rfl, ha, h1, h2, z1, z2, hrr, hB, eb, ebs, hz, k⟩ := h
  refine ⟨_, (pss_cons (ps_asg (pv 0) (pg_tup rfl (pgs_cons (pg_name (i := 2) sc_betw.nd rfl (Or.inl rfl)) (pgs_cons (pg_name (i := 3) sc_betw.nd rfl (Or.inl rfl)) pgs_nil))))
    (pss_cons (ps_if ((pw_and (pt_cmpR op_notN (pv 2) pe_non (nomark _)) (pw_and1 (pt_not (pt_truth (pe_c cKs hr (pa_cons (pv 2) (pa_cons (pe_ix ix_tup (pv 1) pe_int (fun _ _ => rfl)) pa_nil))) fun _ => rfl))))).pt (pss_one (ps_ret pe_bl)) pss_nil)
    (pss_one (ps_ret (pe_or (pe_cmpR op_isN (pv 3) pe_non (nomark _)) (pe_one (pe_c cKs hr (pa_cons (pe_ix ix_tup (pv 1) (pe_un un_neg pe_int) (fun _ _ => rfl)) (pa_cons (pv 3) pa_nil))))))))), ?_⟩
  refine ⟨_, rfl, a, _, rfl, SqT.of ha, rfl, _, _, rfl, _, _, rfl, rfl, ?_⟩
  have mb : b ∈ bs := List.mem_of_getElem? eb
  have mc : c ∈ bs := by rw [ebs]; simp
  obtain ⟨b0, eu⟩ : ∃ v, us[0]? = some v := by
    have : 0 < us.length := by rw [hB.length, ebs]; simp
    exact ⟨us[0], List.getElem?_eq_getElem this⟩
  obtain ⟨ab, pb, qb, b', e1, rfl, hb1, hb2, hb3⟩ := hB.get eu
  rw [eb] at e1; cases e1
  obtain ⟨us', ac, pc, qc, eus, hc1, hc2, hc3⟩ := (ebs ▸ hB : BallsAt H us (cs ++ [c])).last
  have i0 : atI us 0 = some (.ref ab) := atI_nat (j := 0) eu
  have i1 : atI us (-1) = some (.ref ac) := by rw [eus]; exact atI_last _ _
  have hi : ∀ (H1 : Hp) (σ : St), Same H H1 → σ[1]? = some (some (.ref r)) → σ[3]? = some (some v2) → (∀ H', Same H H' → Q (.bl (hiB l2 c)) H') →
      tRet (tOrV (tOp (fun x y H Q => y = .non ∧ Q (.bl (decide (x = .non))) H) (tVar 3) (tC .non)) (tCall spKs [] E0 (tCons (tOp (rIxT K) (tVar 1) (tUn (rU fun i => V.int (-i)) (tC (.int 1)))) (tCons (tVar 3) tNil)))) { nx := fun _ H' => Q .non H', rt := Q } σ H1 := fun H1 σ e3 s1 s3 kk => by
    cases l2 with
    | none =>
      obtain rfl : v2 = .non := h2
      exact ⟨_, s3, rfl, true, rfl, iteT (kk H1 e3)⟩
    | some z =>
      obtain ⟨x, y⟩ := z
      have h2' := h2
      obtain ⟨a2, p2, q2, rfl, _⟩ := h2'
      exact ⟨_, s3, rfl, false, rfl, iteF ⟨_, s1, _, rfl, r, us, -1, _, rfl, rfl, .of (e3 _ _ hrr), i1, _, s3, _, _, c.pl, c.sp, x, y, rfl, ball_two (e3 _ _ hc1) (hc2.same e3) (hc3.same e3), (h2.same e3).two, ⟨(hz c mc).1, (hz c mc).2, (z2 _ _ rfl).1, (z2 _ _ rfl).2⟩, fun H2 e4 => kk H2 (e3.trans e4)⟩⟩
  cases l1 with
  | none =>
    obtain rfl : v1 = .non := h1
    refine ⟨_, rfl, rfl, false, rfl, iteF (iteF ?_)⟩
    exact hi H _ (Same.refl _) rfl rfl fun H' e => by have := k H' e; unfold btwB loB at this; rw [Bool.true_and] at this; exact this
  | some z =>
    obtain ⟨x, y⟩ := z
    have h1' := h1
    obtain ⟨a1, p1, q1, rfl, _⟩ := h1'
    refine ⟨_, rfl, rfl, true, rfl, iteT ?_⟩
    refine ⟨_, rfl, _, rfl, r, us, 0, _, rfl, rfl, .of hrr, i0, _, _, x, y, b.pl, b.sp, rfl, h1.two, ball_two hb1 hb2 hb3, ⟨(z1 _ _ rfl).1, (z1 _ _ rfl).2, (hz b mb).1, (hz b mb).2⟩, fun H2 e2 => ?_⟩
    have k2 := k H2 e2
    unfold btwB loB at k2
    cases hc : ((decide (x = b.pl) && decide (y = b.sp)) || fol x y b.pl b.sp) with
    | true =>
      refine ⟨true, rfl, iteF ?_⟩
      exact hi H2 _ e2 rfl rfl fun H' e => by have := k H' e; unfold btwB loB at this; simp only [hc, Bool.true_and] at this; exact this
    | false =>
      simp only [hc, Bool.false_and] at k2
      exact ⟨false, rfl, iteT k2⟩
def rowB (l h : Wl) (bs : List Ball) (b c : Ball) : Bool := wgood l h && (ordB bs && btwB l h b c)
theorem sc_isrow : FnScope ["walls", "thing"] ["walls", "thing"] (defScope s_is_row) := ⟨rfl, rfl, rfl, by decide +kernel, rfl, by decide +kernel, by decide +kernel⟩
end
end KR
end
section
set_option maxHeartbeats 8000000
set_option Elab.async false
set_option linter.all false
set_option maxRecDepth 100000
namespace KR
open PySem L2 KM KK
def tyD : PyData → Value
  | .none => .type "NoneType"
  | .bool _ => .type "bool"
  | .int _ => .type "int"
  | .str _ => .type "str"
  | .list _ => .type "list"
  | .tuple _ => .type "tuple"
  | .dict _ => .type "dict"
theorem ty_of {K : PySem.W.Frag} {H : Hp} {v : V} {d : PyData} (h : RdD H v d) : TyOf K H v (tyD d) := by
  cases h with
  | non => exact .non
  | bl b => exact .bl b
  | int i => exact .int i
  | str x => exact .str x
  | tup h _ => exact .tup h
  | lst h _ => exact .lst h
def isIntD : PyData → Bool
  | .int _ => true
  | .bool _ => true
  | _ => false
def isBlD : PyData → Bool
  | .bool _ => true
  | _ => false
def isTuD : PyData → Bool
  | .tuple _ => true
  | _ => false
theorem kt_int (K : PySem.W.Frag) : ∀ d, PySem.W.kitOne K (tyD d) (.type "int") = some (isIntD d)
  | .none => by with_unfolding_all rfl
  | .bool _ => by with_unfolding_all rfl
  | .int _ => if_pos (show (Value.type "int" == Value.type "int") = true by decide +kernel)
  | .str _ => by with_unfolding_all rfl
  | .list _ => by with_unfolding_all rfl
  | .tuple _ => by with_unfolding_all rfl
  | .dict _ => by with_unfolding_all rfl
theorem kt_bool (K : PySem.W.Frag) : ∀ d, PySem.W.kitOne K (tyD d) (.type "bool") = some (isBlD d)
  | .none => by with_unfolding_all rfl
  | .bool _ => if_pos (show (Value.type "bool" == Value.type "bool") = true by decide +kernel)
  | .int _ => by with_unfolding_all rfl
  | .str _ => by with_unfolding_all rfl
  | .list _ => by with_unfolding_all rfl
  | .tuple _ => by with_unfolding_all rfl
  | .dict _ => by with_unfolding_all rfl
theorem kt_tup (K : PySem.W.Frag) : ∀ d, PySem.W.kitOne K (tyD d) (.type "tuple") = some (isTuD d)
  | .none => by with_unfolding_all rfl
  | .bool _ => by with_unfolding_all rfl
  | .int _ => by with_unfolding_all rfl
  | .str _ => by with_unfolding_all rfl
  | .list _ => by with_unfolding_all rfl
  | .tuple _ => if_pos (show (Value.type "tuple" == Value.type "tuple") = true by decide +kernel)
  | .dict _ => by with_unfolding_all rfl
def wholeD : PyData → Bool
  | .int _ => true
  | _ => false
def tupD (n : Int) : PyData → Bool
  | .tuple ds => decide ((ds.length : Int) = n)
  | _ => false
def ratD : PyData → Bool
  | .tuple [.int t, .int b] => decide (1 ≤ b) && decide (Int.gcd t b = 1)
  | _ => false
def wallD : PyData → Bool
  | .none => true
  | .tuple [x, y] => ratD x && ratD y
  | _ => false
def wpD : PyData → Bool
  | .tuple [x, y] => wallD x && wallD y
  | _ => false
def bfD : PyData → Bool
  | .tuple [x, y, z] => ratD x && ratD y && wholeD z
  | _ => false
def ballD : PyData → Bool
  | .tuple [x, y, .int n] => ratD x && ratD y && (decide (1 ≤ n) && decide (n ≤ 1000))
  | _ => false
theorem ratD_int (t b : Int) : ratD (.tuple [.int t, .int b]) = (decide (1 ≤ b) && decide (Int.gcd t b = 1)) := rfl
theorem rds_len {H : Hp} : ∀ {xs : List V} {ds : List PyData}, RdDs H xs ds → xs.length = ds.length
  | _, _, .nil => rfl
  | _, _, .cons _ t => by rw [List.length_cons, List.length_cons, rds_len t]
section
variable {P : Program} {w : World} {K : PySem.W.Frag} {mg : Str → Option Value} {base : Heap} {tb tw : Tok} {aN : Addr}
def spD (f : PyData → Bool) : Sp := fun vs H Q _ => ∃ v d, vs = [v] ∧ RdD H v d ∧ Q (.bl (f d)) H
theorem ok_wholeD (D : Df K mg "is_whole" s_is_whole ["thing"] []) (T : TxB K mg) : Cal P w K mg base "is_whole" 1 ["thing"] [] (spD wholeD) := by
  refine D.cal (k := 0) sc_whole (fun vs H Q E h => by obtain ⟨_, _, rfl, _⟩ := h; rfl) (fun f cdv A outer s H vs Q E hr h => ?_)
  obtain ⟨v, d, rfl, hv, k⟩ := h
  refine ⟨_, pss_one (ps_ret (pe_and
    (pe_callB call_isinst rfl T.nIs PyProof.Rows.boot_isinstance (pa_cons (pv 0) (pa_cons (pe_bltn (v := .ty "int") (u := .type "int") rfl T.nInt PyProof.Rows.boot_int rfl) pa_nil)))
    (pe_one (pe_not (pe_callB call_isinst rfl T.nIs PyProof.Rows.boot_isinstance (pa_cons (pv 0) (pa_cons (pe_bltn (v := .ty "bool") (u := .type "bool") rfl T.nBool (by decide +kernel) rfl) pa_nil))))))), ?_⟩
  refine ⟨_, rfl, _, _, _, _, rfl, ty_of hv, kt_int K d, _, rfl, ?_⟩
  refine ite2 (fun h => ?_) (fun h => ?_)
  · refine ⟨_, rfl, _, _, _, _, rfl, ty_of hv, kt_bool K d, _, rfl, ?_⟩
    have : (!isBlD d) = wholeD d := by cases d <;> first | rfl | cases h
    rw [this]; exact k
  · have : wholeD d = false := by cases d <;> first | rfl | (exact absurd rfl h)
    rw [this] at k; exact k
def spTuD : Sp := fun vs H Q _ => ∃ v d n, vs = [v, .int n] ∧ RdD H v d ∧ Q (.bl (tupD n d)) H
theorem ok_tuD (D : Df K mg "is_tuple" s_is_tuple ["thing", "many"] []) (T : TxB K mg) : Cal P w K mg base "is_tuple" 1 ["thing", "many"] [] spTuD := by
  refine D.cal (k := 0) sc_istup (fun vs H Q E h => by obtain ⟨_, _, _, rfl, _⟩ := h; rfl) (fun f cdv A outer s H vs Q E hr h => ?_)
  obtain ⟨v, d, n, rfl, hv, k⟩ := h
  refine ⟨_, (pss_one (ps_ret (pe_and (pe_callB call_isinst (by rfl) T.nIs PyProof.Rows.boot_isinstance (pa_cons (pv 0) (pa_cons (pe_bltn (v := .ty "tuple") (u := .type "tuple") (by rfl) T.nTuple PyProof.Rows.boot_tuple rfl) pa_nil))) (pe_one (pe_cmpR op_eq (pe_callB call_len_seq (by rfl) T.nLen PySem.boot_len (pa_cons (pv 0) pa_nil)) (pv 1) (nomark _)))))), ?_⟩
  refine ⟨_, rfl, _, _, _, _, rfl, ty_of hv, kt_tup K d, _, rfl, ?_⟩
  cases hv with
  | @tup a xs ds ha hs =>
    refine iteT ⟨_, rfl, a, _, rfl, .inr (SqT.of ha), _, rfl, rfl, ?_⟩
    show Q (.bl (decide (V.int (xs.length : Nat) = V.int n))) H
    rw [vint_dec, rds_len hs]; exact k
  | non => exact iteF k
  | bl b => exact iteF k
  | int i => exact iteF k
  | str x => exact iteF k
  | lst h _ => exact iteF k
theorem ok_irD (D : Df K mg "is_ratio" s_is_ratio ["thing"] []) (T : TxB K mg) (cTu : Cal P w K mg base "is_tuple" 1 ["thing", "many"] [] spTuD) (cW : Cal P w K mg base "is_whole" 1 ["thing"] [] (spD wholeD)) (cG : Cal P w K mg base "greatest_divisor" 1 ["one", "other"] [] spGcd) :
    Cal P w K mg base "is_ratio" 2 ["thing"] [] (spD ratD) := by
  refine D.cal (k := 1) sc_isr (fun vs H Q E h => by obtain ⟨_, _, rfl, _⟩ := h; rfl) (fun f cdv A outer s H vs Q E hr1 h => ?_)
  obtain ⟨v, d, rfl, hv, k⟩ := h
  refine ⟨_, (pss_cons (ps_if (pt_not (pt_truth (pe_c cTu hr1 (pa_cons (pv 0) (pa_cons pe_int pa_nil))) fun _ => rfl)) (pss_one (ps_ret pe_bl)) pss_nil)
    (pss_cons (ps_asg (pv 0) (pg_tup rfl (pgs_cons (pg_name (i := 1) sc_isr.nd rfl (Or.inl rfl)) (pgs_cons (pg_name (i := 2) sc_isr.nd rfl (Or.inl rfl)) pgs_nil))))
    (pss_cons (ps_if ((pw_or (pt_not (pt_truth (pe_c cW hr1 (pa_cons (pv 1) pa_nil)) fun _ => rfl)) (pw_or (pt_not (pt_truth (pe_c cW hr1 (pa_cons (pv 2) pa_nil)) fun _ => rfl)) (pw_or1 (pt_cmpR op_lt (pv 2) pe_int (nomark _)))))).pt (pss_one (ps_ret pe_bl)) pss_nil)
    (pss_one (ps_ret (pe_cmpR op_eq (pe_c cG hr1 (pa_cons (pe_callB call_abs (by rfl) T.nAbs PyProof.Rows.boot_abs (pa_cons (pv 1) pa_nil)) (pa_cons (pv 2) pa_nil))) pe_int (nomark _))))))), ?_⟩
  refine ⟨_, rfl, v, d, _, rfl, hv, _, rfl, ?_⟩
  cases hc : tupD 2 d with
  | false =>
    have : ratD d = false := by
      unfold ratD
      split
      · cases hc
      · rfl
    rw [this] at k
    exact iteT k
  | true =>
    refine iteF ?_
    cases hv with
    | @tup a xs ds ha hs =>
      have hl : ds.length = 2 := by have := of_decide_eq_true hc; omega
      match ds, hl with
      | [d1, d2], _ =>
      cases hs with
      | @cons x1 _ _ _ h1 hs =>
      cases hs with
      | @cons x2 _ _ _ h2 hs =>
      cases hs
      refine ⟨_, rfl, a, _, rfl, SqT.of ha, rfl, _, _, rfl, _, _, rfl, rfl, ?_⟩
      refine ⟨_, rfl, x1, d1, rfl, h1, _, rfl, ?_⟩
      cases h1 with
      | int t =>
        refine iteF ⟨_, rfl, x2, d2, rfl, h2, _, rfl, ?_⟩
        cases h2 with
        | int b =>
          refine iteF ⟨_, rfl, _, _, rfl, rfl, _, rfl, ite2 (fun h => ?_) (fun h => ?_)⟩
          · have hb : b < 1 := of_decide_eq_true h
            have : ratD (.tuple [.int t, .int b]) = false := by rw [ratD_int, decide_eq_false (by omega)]; rfl
            rw [this] at k; exact k
          · have hb : ¬ b < 1 := fun z => h (decide_eq_true z)
            refine ⟨_, rfl, _, rfl, _, rfl, _, _, rfl, (by rw [abs_eq]; omega), (by omega), rfl, ?_⟩
            have e1 : Int.gcd (if t < 0 then -t else t) b = Int.gcd t b := by rw [abs_eq]; simp [Int.gcd]
            show Q (.bl (decide (V.int ((Int.gcd (if t < 0 then -t else t) b : Nat) : Int) = V.int 1))) H
            rw [e1, vint_dec]
            have : ratD (.tuple [.int t, .int b]) = decide (((Int.gcd t b : Nat) : Int) = 1) := by
              rw [ratD_int, decide_eq_true (show 1 ≤ b by omega), Bool.true_and]
              rw [Bool.eq_iff_iff, decide_eq_true_eq, decide_eq_true_eq]; omega
            rw [← this]; exact k
        | non => exact iteT (iteT k)
        | bl b => exact iteT (iteT k)
        | str x => exact iteT (iteT k)
        | tup h _ => exact iteT (iteT k)
        | lst h _ => exact iteT (iteT k)
      | non => exact iteT (iteT k)
      | bl b => exact iteT (iteT k)
      | str x => exact iteT (iteT k)
      | tup h _ => exact iteT (iteT k)
      | lst h _ => exact iteT (iteT k)
    | non => cases hc
    | bl b => cases hc
    | int i => cases hc
    | str x => cases hc
    | lst h _ => cases hc
end
end KR
namespace KR
open PySem L2 KM KK
theorem rd2 {H : Hp} {v : V} {d : PyData} (h : RdD H v d) (c : tupD 2 d = true) : ∃ a x y d1 d2, v = .ref a ∧ d = .tuple [d1, d2] ∧ H a = some (.tup [x, y]) ∧ RdD H x d1 ∧ RdD H y d2 := by
  cases h with
  | @tup a xs ds ha hs =>
    have hl : ds.length = 2 := by have := of_decide_eq_true c; omega
    match ds, hl with
    | [d1, d2], _ =>
      cases hs with
      | cons h1 hs =>
      cases hs with
      | cons h2 hs => cases hs; exact ⟨a, _, _, d1, d2, rfl, rfl, ha, h1, h2⟩
  | non => cases c
  | bl b => cases c
  | int i => cases c
  | str x => cases c
  | lst h _ => cases c
theorem rd3 {H : Hp} {v : V} {d : PyData} (h : RdD H v d) (c : tupD 3 d = true) : ∃ a x y z d1 d2 d3, v = .ref a ∧ d = .tuple [d1, d2, d3] ∧ H a = some (.tup [x, y, z]) ∧ RdD H x d1 ∧ RdD H y d2 ∧ RdD H z d3 := by
  cases h with
  | @tup a xs ds ha hs =>
    have hl : ds.length = 3 := by have := of_decide_eq_true c; omega
    match ds, hl with
    | [d1, d2, d3], _ =>
      cases hs with
      | cons h1 hs =>
      cases hs with
      | cons h2 hs =>
      cases hs with
      | cons h3 hs => cases hs; exact ⟨a, _, _, _, d1, d2, d3, rfl, rfl, ha, h1, h2, h3⟩
  | non => cases c
  | bl b => cases c
  | int i => cases c
  | str x => cases c
  | lst h _ => cases c
theorem wallD_no {ds : List PyData} (c : tupD 2 (.tuple ds) = false) : wallD (.tuple ds) = false := by
  match ds with
  | [] => rfl
  | [_] => rfl
  | [_, _] => cases c
  | _ :: _ :: _ :: _ => rfl
theorem wpD_no {d : PyData} (c : tupD 2 d = false) : wpD d = false := by
  unfold wpD; split
  · cases c
  · rfl
theorem bfD_no {d : PyData} (c : tupD 3 d = false) : bfD d = false := by
  unfold bfD; split
  · cases c
  · rfl
theorem ballD_no {d : PyData} (c : bfD d = false) : ballD d = false := by
  unfold ballD; split
  · next x y n =>
    have : (ratD x && ratD y && true) = false := c
    rw [Bool.and_true] at this
    rw [this]; rfl
  · rfl
theorem ratD_rD (x : Rat) : ratD (rD x) = true := by
  show (decide (1 ≤ (x.den : Int)) && decide (Int.gcd x.num (x.den : Int) = 1)) = true
  have h1 := den_pos x
  have h2 : Int.gcd x.num (x.den : Int) = 1 := x.reduced
  rw [decide_eq_true (by omega), decide_eq_true h2]; rfl
def wlD : Wl → PyData
  | none => .none
  | some (x, y) => .tuple [rD x, rD y]
def wsD (l1 l2 : Wl) : PyData := .tuple [wlD l1, wlD l2]
theorem wallD_wl (l : Wl) : wallD (wlD l) = true := by
  cases l with
  | none => rfl
  | some z => show (ratD (rD z.1) && ratD (rD z.2)) = true; rw [ratD_rD, ratD_rD]; rfl
theorem wpD_ws (l1 l2 : Wl) : wpD (wsD l1 l2) = true := by
  show (wallD (wlD l1) && wallD (wlD l2)) = true; rw [wallD_wl, wallD_wl]; rfl
theorem rd_wall {H : Hp} {v : V} {l : Wl} (h : RdD H v (wlD l)) : WallAt H v l := by
  cases l with
  | none => cases h; rfl
  | some z =>
    obtain ⟨a, x, y, d1, d2, rfl, e, ha, h1, h2⟩ := rd2 h rfl
    cases e
    obtain ⟨p, rfl, hp⟩ := rd_rat h1
    obtain ⟨q, rfl, hq⟩ := rd_rat h2
    exact ⟨a, p, q, rfl, ha, hp, hq⟩
theorem wall_rd {H : Hp} {v : V} {l : Wl} (h : WallAt H v l) : RdD H v (wlD l) := by
  cases l with
  | none => obtain rfl : v = .non := h; exact .non
  | some z =>
    obtain ⟨a, p, q, rfl, ha, hp, hq⟩ := h
    exact .tup ha (.cons hp.rd (.cons hq.rd .nil))
def WgIs (d : PyData) (b : Bool) : Prop := (wpD d = false ∧ b = false) ∨ ∃ l1 l2, d = wsD l1 l2 ∧ WSz l1 ∧ WSz l2 ∧ b = wgood l1 l2
def bD (b : Ball) : PyData := .tuple [rD b.pl, rD b.sp, .int b.wt]
theorem balls_rd {H : Hp} : ∀ {us : List V} {bs : List Ball}, BallsAt H us bs → RdDs H us (bs.map bD)
  | _, _, .nil => .nil
  | _, _, .cons h1 h2 h3 t => .cons (.tup h1 (.cons h2.rd (.cons h3.rd (.cons (.int _) .nil)))) (balls_rd t)
theorem rd_balls {H : Hp} : ∀ {us : List V} {bs : List Ball}, RdDs H us (bs.map bD) → BallsAt H us bs
  | _, [], .nil => .nil
  | _, b :: bs, .cons h t => by
    obtain ⟨a, x, y, z, d1, d2, d3, rfl, e, ha, h1, h2, h3⟩ := rd3 h rfl
    cases e
    obtain ⟨p, rfl, hp⟩ := rd_rat h1
    obtain ⟨q, rfl, hq⟩ := rd_rat h2
    cases h3
    exact .cons ha hp hq (rd_balls t)
inductive Verd (l1 l2 : Wl) : PyData → Bool → Prop
  | kind {e : PyData} (h : isTuD e = false) : Verd l1 l2 e false
  | size {ds : List PyData} (h : ds = [] ∨ 8 < ds.length) : Verd l1 l2 (.tuple ds) false
  | part {ds : List PyData} (h1 : ds ≠ []) (h2 : ds.length ≤ 8) (h : ds.all ballD = false) : Verd l1 l2 (.tuple ds) false
  | row {bs : List Ball} {b c : Ball} {cs : List Ball} (h0 : bs[0]? = some b) (h1 : bs = cs ++ [c]) (hz : BSz bs) (hl : bs.length ≤ 8) (hw : ∀ b ∈ bs, 1 ≤ b.wt ∧ b.wt ≤ 1000) : Verd l1 l2 (.tuple (bs.map bD)) (rowB l1 l2 bs b c)
theorem ballD_bD {b : Ball} (h : 1 ≤ b.wt ∧ b.wt ≤ 1000) : ballD (bD b) = true := by
  show (ratD (rD b.pl) && ratD (rD b.sp) && (decide (1 ≤ b.wt) && decide (b.wt ≤ 1000))) = true
  rw [ratD_rD, ratD_rD, decide_eq_true h.1, decide_eq_true h.2]; rfl
section
variable {P : Program} {w : World} {K : PySem.W.Frag} {mg : Str → Option Value} {base : Heap} {tb tw : Tok} {aN : Addr}
theorem ok_waD (D : Df K mg "is_wall" s_is_wall ["thing"] []) (cTu : Cal P w K mg base "is_tuple" 1 ["thing", "many"] [] spTuD) (cIr : Cal P w K mg base "is_ratio" 2 ["thing"] [] (spD ratD)) : Cal P w K mg base "is_wall" 3 ["thing"] [] (spD wallD) := by
  refine D.cal (k := 2) sc_iswall (fun vs H Q E h => by obtain ⟨_, _, rfl, _⟩ := h; rfl) (fun f cdv A outer s H vs Q E hr2 h => ?_)
  obtain ⟨v, d, rfl, hv, k⟩ := h
  have hr1 : Room 1 _ := hr2.mono (by decide)
  refine ⟨_, (pss_cons (ps_if (pt_cmpR op_isN (pv 0) pe_non (nomark _)) (pss_one (ps_ret pe_bl)) pss_nil)
    (pss_one (ps_ret (pe_and (pe_c cTu hr1 (pa_cons (pv 0) (pa_cons pe_int pa_nil))) (pe_and (pe_c cIr hr2 (pa_cons (pe_ix ix_tup (pv 0) pe_int (fun _ _ => rfl)) pa_nil)) (pe_one (pe_c cIr hr2 (pa_cons (pe_ix ix_tup (pv 0) pe_int (fun _ _ => rfl)) pa_nil)))))))), ?_⟩
  cases hv with
  | non => exact ⟨_, rfl, rfl, _, rfl, iteT k⟩
  | bl b => exact ⟨_, rfl, rfl, _, rfl, iteF ⟨_, rfl, _, _, _, rfl, .bl b, _, rfl, iteF k⟩⟩
  | int b => exact ⟨_, rfl, rfl, _, rfl, iteF ⟨_, rfl, _, _, _, rfl, .int b, _, rfl, iteF k⟩⟩
  | str b => exact ⟨_, rfl, rfl, _, rfl, iteF ⟨_, rfl, _, _, _, rfl, .str b, _, rfl, iteF k⟩⟩
  | lst ha hs => exact ⟨_, rfl, rfl, _, rfl, iteF ⟨_, rfl, _, _, _, rfl, .lst ha hs, _, rfl, iteF k⟩⟩
  | @tup a xs ds ha hs =>
    refine ⟨_, rfl, rfl, _, rfl, iteF ⟨_, rfl, _, _, _, rfl, .tup ha hs, _, rfl, ?_⟩⟩
    cases hc : tupD 2 (.tuple ds) with
    | false => rw [wallD_no hc] at k; exact iteF k
    | true =>
      obtain ⟨a', x, y, d1, d2, e1, e2, ha', h1, h2⟩ := rd2 (.tup ha hs) hc
      cases e1; cases e2
      refine iteT ⟨_, rfl, a, _, _, _, rfl, rfl, .of ha', rfl, x, d1, rfl, h1, _, rfl, ?_⟩
      have k2 : Q (.bl (ratD d1 && ratD d2)) H := k
      cases hd : ratD d1 with
      | false => rw [hd, Bool.false_and] at k2; exact iteF k2
      | true => rw [hd, Bool.true_and] at k2; exact iteT ⟨_, rfl, a, _, _, _, rfl, rfl, .of ha', rfl, y, d2, rfl, h2, k2⟩
theorem ok_wpD (D : Df K mg "is_wall_pair" s_is_wall_pair ["thing"] []) (cTu : Cal P w K mg base "is_tuple" 1 ["thing", "many"] [] spTuD) (cWa : Cal P w K mg base "is_wall" 3 ["thing"] [] (spD wallD)) : Cal P w K mg base "is_wall_pair" 4 ["thing"] [] (spD wpD) := by
  refine D.cal (k := 3) sc_iswp (fun vs H Q E h => by obtain ⟨_, _, rfl, _⟩ := h; rfl) (fun f cdv A outer s H vs Q E hr3 h => ?_)
  obtain ⟨v, d, rfl, hv, k⟩ := h
  have hr1 : Room 1 _ := hr3.mono (by decide)
  refine ⟨_, (pss_one (ps_ret (pe_and (pe_c cTu hr1 (pa_cons (pv 0) (pa_cons pe_int pa_nil))) (pe_and (pe_c cWa hr3 (pa_cons (pe_ix ix_tup (pv 0) pe_int (fun _ _ => rfl)) pa_nil)) (pe_one (pe_c cWa hr3 (pa_cons (pe_ix ix_tup (pv 0) pe_int (fun _ _ => rfl)) pa_nil))))))), ?_⟩
  refine ⟨_, rfl, v, d, _, rfl, hv, _, rfl, ?_⟩
  cases hc : tupD 2 d with
  | false => rw [wpD_no hc] at k; exact iteF k
  | true =>
    obtain ⟨a, x, y, d1, d2, rfl, rfl, ha, h1, h2⟩ := rd2 hv hc
    refine iteT ⟨_, rfl, a, _, _, _, rfl, rfl, .of ha, rfl, x, d1, rfl, h1, _, rfl, ?_⟩
    have k2 : Q (.bl (wallD d1 && wallD d2)) H := k
    cases hd : wallD d1 with
    | false => rw [hd, Bool.false_and] at k2; exact iteF k2
    | true => rw [hd, Bool.true_and] at k2; exact iteT ⟨_, rfl, a, _, _, _, rfl, rfl, .of ha, rfl, y, d2, rfl, h2, k2⟩
def spWgD : Sp := fun vs H Q _ => ∃ v d b, vs = [v] ∧ RdD H v d ∧ WgIs d b ∧ Q (.bl b) H
theorem ok_wgD (D : Df K mg "walls_good" s_walls_good ["thing"] []) (cWp : Cal P w K mg base "is_wall_pair" 4 ["thing"] [] (spD wpD)) (cLt : Cal P w K mg base "less" 1 ["one", "other"] [] spLt) : Cal P w K mg base "walls_good" 5 ["thing"] [] spWgD := by
  refine D.cal (k := 4) sc_wgood (fun vs H Q E h => by obtain ⟨_, _, _, rfl, _⟩ := h; rfl) (fun f cdv A outer s H vs Q E hr h => ?_)
  obtain ⟨v, d, bb, rfl, hv, hw, k⟩ := h
  have hr1 : Room 1 _ := hr.mono (by decide)
  refine ⟨_, (pss_cons (ps_if (pt_not (pt_truth (pe_c cWp hr (pa_cons (pv 0) pa_nil)) fun _ => rfl)) (pss_one (ps_ret pe_bl)) pss_nil)
    (pss_cons (ps_asg (pv 0) (pg_tup rfl (pgs_cons (pg_name (i := 1) sc_wgood.nd rfl (Or.inl rfl)) (pgs_cons (pg_name (i := 2) sc_wgood.nd rfl (Or.inl rfl)) pgs_nil))))
    (pss_one (ps_ret (pe_or (pe_cmpR op_isN (pv 1) pe_non (nomark _)) (pe_or (pe_cmpR op_isN (pv 2) pe_non (nomark _)) (pe_one (pe_c cLt hr1 (pa_cons (pe_ix ix_tup (pv 1) pe_int (fun _ _ => rfl)) (pa_cons (pe_ix ix_tup (pv 2) pe_int (fun _ _ => rfl)) pa_nil)))))))))), ?_⟩
  refine ⟨_, rfl, v, d, rfl, hv, _, rfl, ?_⟩
  rcases hw with ⟨hc, rfl⟩ | ⟨l1, l2, rfl, z1, z2, rfl⟩
  · rw [hc]; exact iteT k
  · rw [wpD_ws]
    refine iteF ?_
    obtain ⟨a, v1, v2, d1, d2, rfl, e, ha, h1, h2⟩ := rd2 hv rfl
    cases e
    have h1 := rd_wall h1
    have h2 := rd_wall h2
    refine ⟨_, rfl, a, _, rfl, SqT.of ha, rfl, _, _, rfl, _, _, rfl, rfl, ?_⟩
    cases l1 with
    | none =>
      obtain rfl : v1 = .non := h1
      exact ⟨_, rfl, rfl, true, rfl, iteT k⟩
    | some l =>
      obtain ⟨x, y⟩ := l
      obtain ⟨b, p, q, rfl, hb, hp, hq⟩ := h1
      refine ⟨_, rfl, rfl, false, rfl, iteF ?_⟩
      cases l2 with
      | none =>
        obtain rfl : v2 = .non := h2
        exact ⟨_, rfl, rfl, true, rfl, iteT k⟩
      | some l' =>
        obtain ⟨x', y'⟩ := l'
        obtain ⟨b', p', q', rfl, hb', hp', hq'⟩ := h2
        refine ⟨_, rfl, rfl, false, rfl, iteF ?_⟩
        refine ⟨_, rfl, b, _, _, _, rfl, rfl, .of hb, rfl, _, rfl, b', _, _, _, rfl, rfl, .of hb', rfl, p, p', x, x', rfl, hp, hp', ⟨(z1 _ _ rfl).1.mono (by decide), (z2 _ _ rfl).1.mono (by decide)⟩, k⟩
theorem ok_bfD (D : Df K mg "is_ball_form" s_is_ball_form ["thing"] []) (cTu : Cal P w K mg base "is_tuple" 1 ["thing", "many"] [] spTuD) (cIr : Cal P w K mg base "is_ratio" 2 ["thing"] [] (spD ratD)) (cW : Cal P w K mg base "is_whole" 1 ["thing"] [] (spD wholeD)) : Cal P w K mg base "is_ball_form" 3 ["thing"] [] (spD bfD) := by
  refine D.cal (k := 2) sc_ballf (fun vs H Q E h => by obtain ⟨_, _, rfl, _⟩ := h; rfl) (fun f cdv A outer s H vs Q E hr2 h => ?_)
  obtain ⟨v, d, rfl, hv, k⟩ := h
  have hr1 : Room 1 _ := hr2.mono (by decide)
  refine ⟨_, (pss_one (ps_ret (pe_and (pe_c cTu hr1 (pa_cons (pv 0) (pa_cons pe_int pa_nil))) (pe_and (pe_c cIr hr2 (pa_cons (pe_ix ix_tup (pv 0) pe_int (fun _ _ => rfl)) pa_nil)) (pe_and (pe_c cIr hr2 (pa_cons (pe_ix ix_tup (pv 0) pe_int (fun _ _ => rfl)) pa_nil)) (pe_one (pe_c cW hr1 (pa_cons (pe_ix ix_tup (pv 0) pe_int (fun _ _ => rfl)) pa_nil)))))))), ?_⟩
  refine ⟨_, rfl, v, d, _, rfl, hv, _, rfl, ?_⟩
  cases hc : tupD 3 d with
  | false => rw [bfD_no hc] at k; exact iteF k
  | true =>
    obtain ⟨a, x, y, z, d1, d2, d3, rfl, rfl, ha, h1, h2, h3⟩ := rd3 hv hc
    refine iteT ⟨_, rfl, a, _, _, _, rfl, rfl, .of ha, rfl, x, d1, rfl, h1, _, rfl, ?_⟩
    have k2 : Q (.bl (ratD d1 && ratD d2 && wholeD d3)) H := k
    cases hd : ratD d1 with
    | false => rw [hd, Bool.false_and, Bool.false_and] at k2; exact iteF k2
    | true =>
      rw [hd, Bool.true_and] at k2
      refine iteT ⟨_, rfl, a, _, _, _, rfl, rfl, .of ha, rfl, y, d2, rfl, h2, _, rfl, ?_⟩
      cases he : ratD d2 with
      | false => rw [he, Bool.false_and] at k2; exact iteF k2
      | true => rw [he, Bool.true_and] at k2; exact iteT ⟨_, rfl, a, _, _, _, rfl, rfl, .of ha, rfl, z, d3, rfl, h3, k2⟩
def spIwD : Sp := fun vs H Q _ => ∃ n, vs = [.int n] ∧ Q (.bl (decide (1 ≤ n) && decide (n ≤ 1000))) H
theorem ok_iwD (D : Df K mg "is_weight" s_is_weight ["thing"] []) (T3 : Tx3 K mg tb tw aN) (cW : Cal P w K mg base "is_whole" 1 ["thing"] [] (spD wholeD)) : Cal P w K mg base "is_weight" 2 ["thing"] [] spIwD := by
  refine D.cal (k := 1) sc_iw (fun vs H Q E h => by obtain ⟨_, rfl, _⟩ := h; rfl) (fun f cdv A outer s H vs Q E hr h => ?_)
  obtain ⟨n, rfl, k⟩ := h
  refine ⟨_, (pss_one (ps_ret (pe_and (pe_c cW hr (pa_cons (pv 0) pa_nil)) (pe_one (pe_chain op_le op_le pe_int (pv 0) (pe_glob (v := .int 1000) (by rfl) T3.mw ⟨_, rfl⟩)))))), ?_⟩
  refine ⟨_, rfl, _, _, rfl, .int n, _, rfl, iteT ⟨_, rfl, _, _, rfl, rfl, _, rfl, ?_⟩⟩
  cases h1n : decide (1 ≤ n) with
  | false => rw [h1n, Bool.false_and] at k; exact iteF k
  | true => rw [h1n, Bool.true_and] at k; exact iteT ⟨_, _, rfl, rfl, k⟩
theorem ok_baD (D : Df K mg "is_ball" s_is_ball ["thing"] []) (cBf : Cal P w K mg base "is_ball_form" 3 ["thing"] [] (spD bfD)) (cIw : Cal P w K mg base "is_weight" 2 ["thing"] [] spIwD) : Cal P w K mg base "is_ball" 4 ["thing"] [] (spD ballD) := by
  refine D.cal (k := 3) sc_ball (fun vs H Q E h => by obtain ⟨_, _, rfl, _⟩ := h; rfl) (fun f cdv A outer s H vs Q E hr h => ?_)
  obtain ⟨v, d, rfl, hv, k⟩ := h
  have hr2 : Room 2 _ := hr.mono (by decide)
  refine ⟨_, (pss_one (ps_ret (pe_and (pe_c cBf hr (pa_cons (pv 0) pa_nil)) (pe_one (pe_c cIw hr2 (pa_cons (pe_ix ix_tup (pv 0) pe_int (fun _ _ => rfl)) pa_nil)))))), ?_⟩
  refine ⟨_, rfl, v, d, rfl, hv, _, rfl, ?_⟩
  cases hc : bfD d with
  | false => rw [ballD_no hc] at k; exact iteF k
  | true =>
    have h3 : tupD 3 d = true := by
      cases h : tupD 3 d with
      | true => rfl
      | false => rw [bfD_no h] at hc; cases hc
    obtain ⟨a, x, y, z, d1, d2, d3, rfl, rfl, ha, h1, h2, h3⟩ := rd3 hv h3
    have hc2 : (ratD d1 && ratD d2 && wholeD d3) = true := hc
    rw [Bool.and_eq_true] at hc2
    cases h3 with
    | int n =>
      have k2 : Q (.bl (ratD d1 && ratD d2 && (decide (1 ≤ n) && decide (n ≤ 1000)))) H := k
      rw [hc2.1, Bool.true_and] at k2
      exact iteT ⟨_, rfl, a, _, _, _, rfl, rfl, .of ha, rfl, n, rfl, k2⟩
    | non => cases hc2.2
    | bl b => cases hc2.2
    | str x => cases hc2.2
    | tup h _ => cases hc2.2
    | lst h _ => cases hc2.2
theorem comp_D {σ : St} {H : Hp} {Q : VK} {j : Nat} {r : Addr} {us : List V} {ds : List PyData} {f : PyData → Bool} (hσ : σ[j]? = some (some (.ref r))) (hr : H r = some (.tup us)) (hB : RdDs H us ds) (hlen : ds.length ≤ 8)
    (k : ∀ D H', Same H H' → H' D = some (.lst ((ds.map f).map V.bl)) → Q (.ref D) H') :
    tComp 1 (iTup K (tVar j)) (gName 0) (fun _ H Q => Q true H) (tCall (spD f) [] E0 (tCons (tVar 0) tNil)) σ H Q := by
  refine ⟨_, hσ, r, rfl, ⟨_, SqT.of hr⟩, fun D hD => ?_⟩
  have hl := hB.len
  refine comp_by (J := Itt K r) (g := gName 0) (tt := fun _ H Q => Q true H) (te := tCall (spD f) [] E0 (tCons (tVar 0) tNil)) (Q := Q) (N := us.length) (n := 1) (fun i H2 ys => Same H H2 ∧ ys = ((ds.map f).map V.bl).take i) ⟨Same.upd hD, rfl⟩ (fun i H2 ys hi ⟨s2, _⟩ => ?_) (fun H2 ys ⟨s2, _⟩ => ?_) ?_ ?_
  · exact ⟨us, us[i], .of (s2 _ _ hr), List.getElem?_eq_getElem hi⟩
  · exact ⟨us, .of (s2 _ _ hr), Nat.le_refl _⟩
  · rintro i x zs H2 H3 ys Nx hNx hi hzs ⟨rfl, f1⟩ ⟨s2, rfl⟩ hD2
    obtain ⟨z1, rfl⟩ := ln1 hzs
    have hx := f1 us (.of (s2 _ _ hr))
    obtain ⟨d, ed⟩ : ∃ d, ds[i]? = some d := ⟨ds[i]'(by omega), List.getElem?_eq_getElem _⟩
    obtain ⟨x', ex, rx⟩ := hB.get ed
    rw [hx] at ex; cases ex
    dsimp only [gName]
    try rw [if_pos rfl]
    refine ⟨_, rfl, x, d, rfl, rx.same s2, ?_⟩
    refine ⟨hD2, ?_, hNx _ _ ⟨same_mk hD s2 (Same.refl _), ?_⟩⟩
    · rw [List.length_take]; exact small1000 (by omega)
    · rw [tk_snoc (x := V.bl (f d)) (by rw [List.getElem?_map, List.getElem?_map, ed]; rfl)]
  · rintro H2 ys ⟨s2, rfl⟩ hD2
    rw [List.take_of_length_le (by rw [List.length_map, List.length_map, hl]; exact Nat.le_refl _)] at hD2
    exact k D H2 s2 hD2
def spIsD : Sp := fun vs H Q _ => ∃ u v l1 l2 e b, vs = [u, v] ∧ RdD H u (wsD l1 l2) ∧ WSz l1 ∧ WSz l2 ∧ RdD H v e ∧ Verd l1 l2 e b ∧ ∀ H', Same H H' → Q (.bl b) H'
theorem ok_isD (D : Df K mg "is_row" s_is_row ["walls", "thing"] []) (T : TxB K mg) (T3 : Tx3 K mg tb tw aN) (cWg : Cal P w K mg base "walls_good" 5 ["thing"] [] spWgD) (cBa : Cal P w K mg base "is_ball" 4 ["thing"] [] (spD ballD)) (cOd : Cal P w K mg base "is_ordered" 3 ["row"] [] spOd)
    (cBe : Cal P w K mg base "is_between" 4 ["walls", "row"] [] spBe) : Cal P w K mg base "is_row" 6 ["walls", "thing"] [] spIsD := by
  refine D.cal (k := 5) sc_isrow (fun vs H Q E h => by obtain ⟨_, _, _, _, _, _, rfl, _⟩ := h; rfl) (fun f cdv A outer s H vs Q E hr5 h => ?_)
  obtain ⟨u, v, l1, l2, e, bb, rfl, hu, z1, z2, hv, hV, k⟩ := h
  have hr3 : Room 3 _ := hr5.mono (by decide)
  have hr4 : Room 4 _ := hr5.mono (by decide)
  have k0 := k H (Same.refl _)
  refine ⟨_, (pss_cons (ps_if ((pw_or (pt_not (pt_truth (pe_c cWg hr5 (pa_cons (pv 0) pa_nil)) fun _ => rfl)) (pw_or1 (pt_not (pt_truth (pe_callB call_isinst (by rfl) T.nIs PyProof.Rows.boot_isinstance (pa_cons (pv 1) (pa_cons (pe_bltn (v := .ty "tuple") (u := .type "tuple") (by rfl) T.nTuple PyProof.Rows.boot_tuple rfl) pa_nil))) fun _ => rfl))))).pt (pss_one (ps_ret pe_bl)) pss_nil)
    (pss_cons (ps_if ((pw_or (pt_not (pt_chain op_le op_le pe_int (pe_callB call_len_seq (by rfl) T.nLen PySem.boot_len (pa_cons (pv 1) pa_nil)) (pe_glob (v := .int 8) (by rfl) T3.mb ⟨_, rfl⟩))) (pw_or1 (pt_not (pt_truth (pe_callB (call_all rfl) (by rfl) T3.nAll (by decide +kernel) (pa_cons (pe_comp (NB := ["ball"]) rfl (by decide +kernel) (by decide +kernel) rfl (by decide +kernel) (pi_tup (pv 1)) (by intro _ _ _; refine ⟨?_, ?_, ?_⟩; (exact (pg_name (i := 0) (show List.Nodup (["ball"] : List Str) by decide +kernel) rfl (Or.inl rfl))); (exact pts_nil); (exact (pe_c cBa hr4 (pa_cons (pv 0) pa_nil))))) pa_nil)) fun _ => rfl))))).pt (pss_one (ps_ret pe_bl)) pss_nil)
    (pss_one (ps_ret (pe_and (pe_c cOd hr3 (pa_cons (pv 1) pa_nil)) (pe_one (pe_c cBe hr4 (pa_cons (pv 0) (pa_cons (pv 1) pa_nil))))))))), ?_⟩
  refine ⟨_, rfl, u, _, wgood l1 l2, rfl, hu, .inr ⟨l1, l2, rfl, z1, z2, rfl⟩, ?_⟩
  cases hg : wgood l1 l2 with
  | false =>
    have : bb = false := by
      cases hV with
      | row => unfold rowB; rw [hg]; rfl
      | _ => rfl
    rw [this] at k0
    exact ⟨false, rfl, iteT (iteT k0)⟩
  | true =>
    refine ⟨true, rfl, iteF ?_⟩
    refine ⟨_, rfl, _, _, _, _, rfl, ty_of hv, kt_tup K e, _, rfl, ?_⟩
    obtain ⟨a, v1, v2, d1, d2, rfl, e2, ha, h1, h2⟩ := rd2 hu rfl
    cases e2
    have h1 := rd_wall h1
    have h2 := rd_wall h2
    cases ht : isTuD e with
    | false =>
      have : bb = false := by
        cases hV with
        | row => cases ht
        | _ => rfl
      rw [this] at k0
      exact iteT k0
    | true =>
      refine iteF ?_
      cases hv with
      | @tup r us ds hrr hB =>
        have hl := hB.len
        refine ⟨_, rfl, r, _, rfl, .inr (SqT.of hrr), _, _, rfl, rfl, _, rfl, ?_⟩
        by_cases hs : ds = [] ∨ 8 < ds.length
        · have hb : bb = false := by
            cases hV with
            | row h0 h1 hz hl' hw =>
              rcases hs with hs | hs
              · rename_i bs b c cs
                rw [List.map_eq_nil_iff] at hs; rw [h1] at hs; simp at hs
              · rw [List.length_map] at hs; omega
            | _ => rfl
          rw [hb] at k0
          rcases hs with hs | hs
          · subst hs
            have : us.length = 0 := hl
            rw [decide_eq_false (show ¬ (1 : Int) ≤ (us.length : Int) by omega)]
            exact iteF ⟨_, rfl, iteT (iteT k0)⟩
          · rw [decide_eq_true (show (1 : Int) ≤ (us.length : Int) by omega)]
            refine iteT ⟨_, _, rfl, rfl, _, rfl, ?_⟩
            rw [decide_eq_false (show ¬ (us.length : Int) ≤ 8 by omega)]
            exact iteT (iteT k0)
        · have hs1 : ds.length ≤ 8 := by omega
          have hs2 : 1 ≤ ds.length := by
            cases ds with
            | nil => exact absurd (.inl rfl) hs
            | cons => simp
          rw [decide_eq_true (show (1 : Int) ≤ (us.length : Int) by omega)]
          refine iteT ⟨_, _, rfl, rfl, _, rfl, ?_⟩
          rw [decide_eq_true (show (us.length : Int) ≤ 8 by omega)]
          refine iteF ?_
          unfold tNot tCB tCons
          refine comp_D (K := K) (j := 1) rfl hrr hB hs1 fun DD H2 e2 hD => ⟨DD, _, rfl, SqL.of hD, ?_⟩
          rw [all_map]
          cases hV with
          | kind h => cases h
          | size h => exact absurd h hs
          | part g1 g2 h =>
            rw [h]
            exact ⟨false, rfl, iteT (k H2 e2)⟩
          | @row bs b c cs h0 h3 hz hl' hw =>
            have hall : (bs.map bD).all ballD = true := by
              rw [List.all_map, List.all_eq_true]
              intro b mb
              exact ballD_bD (hw b mb)
            rw [hall]
            refine ⟨true, rfl, iteF ?_⟩
            have hB := rd_balls hB
            have hne : bs ≠ [] := by rw [h3]; simp
            have k' := k
            unfold rowB at k'
            simp only [hg, Bool.true_and] at k'
            refine ⟨_, rfl, r, us, bs, rfl, e2 _ _ hrr, hB.same e2, hne, hl', hz, fun H3 e3 => ?_⟩
            have e23 := e2.trans e3
            cases ho : ordB bs with
            | false =>
              have := k' H3 e23
              simp only [ho, Bool.false_and] at this
              exact ⟨false, rfl, iteF this⟩
            | true =>
              refine ⟨true, rfl, iteT ⟨_, rfl, _, rfl, a, v1, v2, l1, l2, r, us, bs, b, cs, c, rfl, e23 _ _ ha, h1.same e23, h2.same e23, z1, z2, e23 _ _ hrr, hB.same e23, h0, h3, hz, fun H4 e4 => ?_⟩⟩
              have := k' H4 (e23.trans e4)
              simp only [ho, Bool.true_and] at this
              exact this
      | _ => cases ht
end
end KR
end
section
set_option maxHeartbeats 4000000
set_option Elab.async false
set_option linter.all false
set_option maxRecDepth 100000
namespace KM
def mo (l r : Rat × Rat) : Rat := (r.1 - l.1) / (l.2 - r.2)
def lineL (pl m : Rat) (ss : List Rat) : List (Rat × Rat) := ss.map fun s => (pl - s * m, s)
end KM
end
section
set_option maxHeartbeats 4000000
set_option Elab.async false
set_option linter.all false
set_option maxRecDepth 100000
namespace L2
open PySem PySem.Spec PyProof.Rows
section
variable {X : Cx}
theorem bx_op {op : Operator} {r : R2} {a b : Expr} {ta tb : TE} {pos : Pos} (ho : OpR X (binaryOp op) r) (ha : Bx (PE X a ta)) (hb : Bx (PE X b tb)) : Bx (PE X (.BinOp a op b pos) (tOp r ta tb)) := by obtain ⟨ha⟩ := ha; obtain ⟨hb⟩ := hb; exact ⟨pe_op ho ha hb⟩
theorem bx_ix {r : R2} {a b : Expr} {ta tb : TE} {pos : Pos} (hr : IxR X r) (ha : Bx (PE X a ta)) (hb : Bx (PE X b tb)) (hs : PlainIx b) : Bx (PE X (.Subscript a b pos) (tOp r ta tb)) := by obtain ⟨ha⟩ := ha; obtain ⟨hb⟩ := hb; exact ⟨pe_ix hr ha hb hs⟩
theorem bx_out {p : Prop} (h : Bx p) : p := by obtain ⟨h⟩ := h; exact h
end
end L2
namespace KK
open PySem L2 KM
theorem pg_tupK {X : Cx} {es : List Expr} {k : Nat} {pos : Pos} {t : TGs} {n : Nat} {K : PySem.W.Frag} (hK : X.K = K) (hc : X.calm = true) (h : PGs X es t)
    (hn : (assignEach es X.env).length = n := by rfl) (hst : (assignEach es X.env).findIdx? (·.1) = none := by rfl) : PG X (.Tuple es k pos) (gTup K n t) := by subst hK; exact pg_tup hc h hn hst
theorem ix_tupK {X : Cx} {K : PySem.W.Frag} (hK : X.K = K) : IxR X (rIxT K) := by subst hK; exact ix_tup
theorem ix_listK {X : Cx} {K : PySem.W.Frag} (hK : X.K = K) : IxR X (rIxL K) := by subst hK; exact ix_list
theorem less_rat (x y : Rat) : decide (x.num * (y.den : Int) < y.num * (x.den : Int)) = decide (x < y) := by
  by_cases h : x < y
  · rw [decide_eq_true h, decide_eq_true ((KM.less_iff x y).mpr h)]
  · rw [decide_eq_false h, decide_eq_false fun z => h ((KM.less_iff x y).mp z)]
theorem bdn {n : Nat} {i : Int} (h0 : 0 ≤ i) (h1 : i < 2 ^ n) : Bd n i := by
  unfold Bd
  have : ((2 ^ n : Nat) : Int) = (2 : Int) ^ n := by push_cast; rfl
  omega
theorem bdz {n : Nat} {i : Int} (h0 : -(2 ^ n) < i) (h1 : i < 2 ^ n) : Bd n i := by
  unfold Bd
  have : ((2 ^ n : Nat) : Int) = (2 : Int) ^ n := by push_cast; rfl
  omega
section
variable {P : Program} {w : World} {K : PySem.W.Frag} {mg : Str → Option Value} {base : Heap}
theorem sc_minus : FnScope ["one", "other"] ["one", "other"] (defScope s_minus) := ⟨rfl, rfl, rfl, by decide +kernel, rfl, by decide +kernel, by decide +kernel⟩
end
section
variable {P : Program} {w : World} {K : PySem.W.Frag} {mg : Str → Option Value} {base : Heap}
theorem sc_low : FnScope ["top", "bottom", "one", "other"] ["top", "bottom"] (defScope s_law_low) := ⟨rfl, rfl, rfl, by decide +kernel, rfl, by decide +kernel, by decide +kernel⟩
theorem ok_low (D : Df K mg "_law_low" s_law_low ["top", "bottom"] []) (T : TxB K mg) : Cal P w K mg base "_law_low" 1 ["top", "bottom"] [] spLow := by
  refine D.cal (k := 0) sc_low (fun vs H Q E h => by obtain ⟨a, b, rfl, _⟩ := h; rfl) (fun f cdv A outer s H vs Q E hr h => ?_)
  obtain ⟨t, b, rfl, hb, hz, k⟩ := h
  refine ⟨_, (pss_cons (ps_par (i := 2) (j := 3) rfl sc_low.nd rfl rfl (by decide) rfl rfl (pa_cons (pe_callB call_abs (by rfl) T.nAbs PyProof.Rows.boot_abs (pa_cons (pv 0) pa_nil)) (pa_cons (pe_callB call_abs (by rfl) T.nAbs PyProof.Rows.boot_abs (pa_cons (pv 1) pa_nil)) pa_nil)) (by rfl))
    (pss_cons (ps_while PassesOwn.never (pt_cmpR op_ne (pv 3) pe_int (nomark _)) (pss_one (ps_par (i := 2) (j := 3) rfl sc_low.nd rfl rfl (by decide) rfl rfl (pa_cons (pv 3) (pa_cons (pe_op op_mod (pv 2) (pv 3)) pa_nil)) (by rfl))))
    (pss_cons (ps_if (pt_cmpR op_lt (pv 1) pe_int (nomark _)) (pss_one (ps_set (i := 2) sc_low.nd rfl (Or.inl rfl) (pe_op op_sub pe_int (pv 2)))) pss_nil)
    (pss_one (ps_ret (pe_tup (pa_cons (pe_op op_fdivB (pv 0) (pv 2)) (pa_cons (pe_op op_fdivB (pv 1) (pv 2)) pa_nil)))))))), ?_⟩
  have hd := KM.dv_ne (t := t) hb
  have hdz : Bd 8900 (KM.dv t b) := hz.of_le (KM.dv_le hb)
  have ge : (Int.gcd (if t < 0 then -t else t) (if b < 0 then -b else b) : Nat) = Int.gcd t b := by
    rw [abs_eq, abs_eq]; simp [Int.gcd]
  refine ⟨_, rfl, t, rfl, ⟨_, rfl, b, rfl, _, _, rfl, ?_⟩⟩
  have fin : ∀ (σ : St) (z : Option V), σ = [some (.int t), some (.int b), some (.int (KM.dv t b)), z] → tRet (tTup (tCons (tOp (rI CDivB fun i j => V.int (i.fdiv j)) (tVar 0) (tVar 2)) (tCons (tOp (rI CDivB fun i j => V.int (i.fdiv j)) (tVar 1) (tVar 2)) tNil))) { nx := fun _ H' => Q .non H', rt := Q } σ H := by
    rintro σ z rfl
    refine ⟨_, rfl, _, rfl, _, _, rfl, rfl, ⟨hd, hdz⟩, _, rfl, _, rfl, _, _, rfl, rfl, ⟨hd, hdz⟩, ?_⟩
    refine ⟨by show 2 ≤ sizeLine; decide, fun p hp => k p _ (Same.upd hp) ?_⟩
    show upd H p _ p = _
    rw [upd_same]
    dsimp only
    rw [KM.dv_num hb, KM.dv_den hb]; rfl
  refine while_by (fun σ H1 => H1 = H ∧ ∃ x y : Int, σ = [some (.int t), some (.int b), some (.int x), some (.int y)] ∧ 0 ≤ x ∧ 0 ≤ y ∧ Int.gcd x y = Int.gcd t b)
    (fun σ _ => match σ with | [_, _, _, some (.int y)] => y.toNat | _ => 0) ⟨rfl, _, _, rfl, (by rw [abs_eq]; omega), (by rw [abs_eq]; omega), ge⟩ ?_ ?_
  · rintro σ H1 ⟨rfl, x, y, rfl, hx, hy, e⟩
    refine ⟨_, rfl, rfl, _, rfl, ite2 (fun h => ?_) (fun h => ?_)⟩
    · have h' : 0 < y := by
        have : y ≠ 0 := fun z => by subst z; simp at h
        omega
      refine ⟨_, rfl, _, rfl, _, rfl, _, _, rfl, rfl, h', _, _, rfl, ⟨rfl, _, _, rfl, hy, Int.emod_nonneg _ (by omega), ?_⟩, ?_⟩
      · rw [KM.gcd_step hx h']; exact e
      · show (x % y).toNat < y.toNat
        have := Int.emod_lt_of_pos x h'
        omega
    · have : y = 0 := by simpa using h
      subst this
      have e2 : x = (Int.gcd t b : Nat) := by rw [← e, Int.gcd_zero_right]; omega
      refine ⟨_, rfl, _, _, rfl, rfl, _, rfl, ite2 (fun h => ?_) (fun h => ?_)⟩
      · have h' : b < 0 := of_decide_eq_true h
        refine ⟨_, rfl, 0, _, rfl, rfl, fin _ (some (.int 0)) ?_⟩
        rw [e2]; unfold KM.dv; rw [if_pos h', ← Int.zero_sub]; rfl
      · have h' : ¬ b < 0 := fun z => h (decide_eq_true z)
        refine fin _ (some (.int 0)) ?_
        rw [e2]; unfold KM.dv; rw [if_neg h']
  · rintro σ H1 Q1 Q2 hq ⟨v, e, e1, k1, e3, q⟩
    exact ⟨v, e, e1, k1, e3, hq _ _ q⟩

theorem sc_ladd : FnScope ["a", "b"] ["a", "b"] (defScope s_law_add) := ⟨rfl, rfl, rfl, by decide +kernel, rfl, by decide +kernel, by decide +kernel⟩
theorem ok_ladd (D : Df K mg "_law_add" s_law_add ["a", "b"] []) (cL : Cal P w K mg base "_law_low" 1 ["top", "bottom"] [] spLow) : Cal P w K mg base "_law_add" 2 ["a", "b"] [] (spBin Sz2 (· + ·)) := by
  refine D.cal (k := 1) sc_ladd (fun vs H Q E h => by obtain ⟨_, _, _, _, rfl, _⟩ := h; rfl) (fun f cdv A outer s H vs Q E hr h => ?_)
  obtain ⟨p, q, x, y, rfl, hp, hq, ⟨hx, hy⟩, k⟩ := h
  exact ⟨_, (pss_one (ps_ret (pe_c cL hr (pa_cons (pe_op op_add (pe_op op_mulB (pe_ix ix_tup (pv 0) pe_int (fun _ _ => rfl)) (pe_ix ix_tup (pv 1) pe_int (fun _ _ => rfl))) (pe_op op_mulB (pe_ix ix_tup (pv 1) pe_int (fun _ _ => rfl)) (pe_ix ix_tup (pv 0) pe_int (fun _ _ => rfl)))) (pa_cons (pe_op op_mulB (pe_ix ix_tup (pv 0) pe_int (fun _ _ => rfl)) (pe_ix ix_tup (pv 1) pe_int (fun _ _ => rfl))) pa_nil))))), rd_plus hp hq hx hy k⟩
theorem sc_lby : FnScope ["a", "b"] ["a", "b"] (defScope s_law_by) := ⟨rfl, rfl, rfl, by decide +kernel, rfl, by decide +kernel, by decide +kernel⟩
theorem ok_lby (D : Df K mg "_law_by" s_law_by ["a", "b"] []) (cL : Cal P w K mg base "_law_low" 1 ["top", "bottom"] [] spLow) : Cal P w K mg base "_law_by" 2 ["a", "b"] [] (spBin Sz2 (· * ·)) := by
  refine D.cal (k := 1) sc_lby (fun vs H Q E h => by obtain ⟨_, _, _, _, rfl, _⟩ := h; rfl) (fun f cdv A outer s H vs Q E hr h => ?_)
  obtain ⟨p, q, x, y, rfl, hp, hq, ⟨hx, hy⟩, k⟩ := h
  exact ⟨_, (pss_one (ps_ret (pe_c cL hr (pa_cons (pe_op op_mulB (pe_ix ix_tup (pv 0) pe_int (fun _ _ => rfl)) (pe_ix ix_tup (pv 1) pe_int (fun _ _ => rfl))) (pa_cons (pe_op op_mulB (pe_ix ix_tup (pv 0) pe_int (fun _ _ => rfl)) (pe_ix ix_tup (pv 1) pe_int (fun _ _ => rfl))) pa_nil))))), rd_times hp hq hx hy k⟩
theorem sc_loff : FnScope ["a", "b"] ["a", "b"] (defScope s_law_off) := ⟨rfl, rfl, rfl, by decide +kernel, rfl, by decide +kernel, by decide +kernel⟩
theorem ok_loff (D : Df K mg "_law_off" s_law_off ["a", "b"] []) (cL : Cal P w K mg base "_law_low" 1 ["top", "bottom"] [] spLow) : Cal P w K mg base "_law_off" 2 ["a", "b"] [] (spBin Sz2 (· - ·)) := by
  refine D.cal (k := 1) sc_loff (fun vs H Q E h => by obtain ⟨_, _, _, _, rfl, _⟩ := h; rfl) (fun f cdv A outer s H vs Q E hr h => ?_)
  obtain ⟨p, q, x, y, rfl, hp, hq, ⟨hx, hy⟩, k⟩ := h
  have bx := Bd4 hx
  have b_y := Bd4 hy
  refine ⟨_, (pss_one (ps_ret (pe_c cL hr (pa_cons (pe_op op_sub (pe_op op_mulB (pe_ix ix_tup (pv 0) pe_int (fun _ _ => rfl)) (pe_ix ix_tup (pv 1) pe_int (fun _ _ => rfl))) (pe_op op_mulB (pe_ix ix_tup (pv 1) pe_int (fun _ _ => rfl)) (pe_ix ix_tup (pv 0) pe_int (fun _ _ => rfl)))) (pa_cons (pe_op op_mulB (pe_ix ix_tup (pv 0) pe_int (fun _ _ => rfl)) (pe_ix ix_tup (pv 1) pe_int (fun _ _ => rfl))) pa_nil))))), ?_⟩
  refine ⟨_, rfl, p, _, _, _, rfl, rfl, .of hp, at0 .., _, rfl, q, _, _, _, rfl, rfl, .of hq, at1 .., _, _, rfl, rfl, ⟨bx.1, b_y.2⟩, _, rfl, q, _, _, _, rfl, rfl, .of hq, at0 .., _, rfl, p, _, _, _, rfl, rfl, .of hp, at1 .., _, _, rfl, rfl, ⟨b_y.1, bx.2⟩, _, _, rfl, rfl, ?_⟩
  refine ⟨_, rfl, p, _, _, _, rfl, rfl, .of hp, at1 .., _, rfl, q, _, _, _, rfl, rfl, .of hq, at1 .., _, _, rfl, rfl, ⟨bx.2, b_y.2⟩, ?_⟩
  refine ⟨_, _, rfl, Int.mul_ne_zero (den_ne x) (den_ne y), (hx.2.mul hy.2).mono (by decide), fun r H' e h => k r H' e ?_⟩
  show RatAt H' r (x - y)
  rw [← KM.minus_eq]; exact h
def spLt : Sp := fun vs H Q _ => ∃ p q x y, vs = [.ref p, .ref q] ∧ RatAt H p x ∧ RatAt H q y ∧ Sz2 x y ∧ Q (.bl (decide (x < y))) H
theorem sc_lbel : FnScope ["a", "b"] ["a", "b"] (defScope s_law_below) := ⟨rfl, rfl, rfl, by decide +kernel, rfl, by decide +kernel, by decide +kernel⟩
theorem ok_lbel (D : Df K mg "_law_below" s_law_below ["a", "b"] []) : Cal P w K mg base "_law_below" 1 ["a", "b"] [] spLt := by
  refine D.cal (k := 0) sc_lbel (fun vs H Q E h => by obtain ⟨_, _, _, _, rfl, _⟩ := h; rfl) (fun f cdv A outer s H vs Q E hr h => ?_)
  obtain ⟨p, q, x, y, rfl, hp, hq, ⟨hx, hy⟩, k⟩ := h
  have bx := Bd4 hx
  have b_y := Bd4 hy
  refine ⟨_, (pss_one (ps_ret (pe_cmpR op_lt (pe_op op_mulB (pe_ix ix_tup (pv 0) pe_int (fun _ _ => rfl)) (pe_ix ix_tup (pv 1) pe_int (fun _ _ => rfl))) (pe_op op_mulB (pe_ix ix_tup (pv 1) pe_int (fun _ _ => rfl)) (pe_ix ix_tup (pv 0) pe_int (fun _ _ => rfl))) (nomark _)))), ?_⟩
  refine ⟨_, rfl, p, _, _, _, rfl, rfl, .of hp, at0 .., _, rfl, q, _, _, _, rfl, rfl, .of hq, at1 .., _, _, rfl, rfl, ⟨bx.1, b_y.2⟩, _, rfl, q, _, _, _, rfl, rfl, .of hq, at0 .., _, rfl, p, _, _, _, rfl, rfl, .of hp, at1 .., _, _, rfl, rfl, ⟨b_y.1, bx.2⟩, _, _, rfl, rfl, ?_⟩
  show Q (.bl (decide (x.num * (y.den : Int) < y.num * (x.den : Int)))) H
  rw [less_rat]; exact k
end
end KK
end
section
set_option maxHeartbeats 4000000
set_option Elab.async false
set_option linter.all false
set_option maxRecDepth 100000
namespace KK
open PySem L2 KM
section
variable {P : Program} {w : World} {K : PySem.W.Frag} {mg : Str → Option Value} {base : Heap}
def spCellI (K : PySem.W.Frag) : Sp := fun vs H Q _ => ∃ (a : Addr) (ns : List Int) (k : Int), vs = [.ref a, .int k] ∧ SqL K H a (ns.map V.int) ∧ 0 ≤ k ∧ ∀ i, Q (.int i) H
theorem sc_cell : FnScope ["script", "k"] ["script", "k"] (defScope s_law_cell) := ⟨rfl, rfl, rfl, by decide +kernel, rfl, by decide +kernel, by decide +kernel⟩
theorem ok_cell (D : Df K mg "_law_cell" s_law_cell ["script", "k"] []) (T : TxB K mg) : Cal P w K mg base "_law_cell" 1 ["script", "k"] [] (spCellI K) := by
  refine D.cal (k := 0) sc_cell (fun vs H Q E h => by obtain ⟨a, ns, i, rfl, _⟩ := h; rfl) (fun f cdv A outer s H vs Q E hr h => ?_)
  obtain ⟨a, ns, i, rfl, hS, h0, k⟩ := h
  refine ⟨_, (pss_cons (ps_if (pt_cmpR op_lt (pv 1) (pe_callB call_len_seq (by rfl) T.nLen PySem.boot_len (pa_cons (pv 0) pa_nil)) (nomark _)) (pss_one (ps_ret (pe_ix ix_list (pv 0) (pv 1) (fun _ _ => rfl)))) pss_nil)
    (pss_one (ps_ret pe_int))), ?_⟩
  refine ⟨_, rfl, _, rfl, a, _, rfl, .inl hS, _, _, rfl, rfl, _, rfl, ite2 (fun h => ?_) (fun h => k _)⟩
  have h' : i < ((ns.map V.int).length : Int) := of_decide_eq_true h
  rw [List.length_map] at h'
  have hl : i.toNat < ns.length := by omega
  have e : (ns.map V.int)[i.toNat]? = some (.int ns[i.toNat]) := by rw [List.getElem?_map, List.getElem?_eq_getElem hl]; rfl
  have e2 := atI_nat e
  rw [show ((i.toNat : Nat) : Int) = i by omega] at e2
  exact ⟨_, rfl, _, rfl, a, _, _, _, rfl, rfl, hS, e2, k _⟩
def spWide : Sp := fun vs H Q _ => ∃ (p : Addr) (n : Int), vs = [.ref p, .int n] ∧ 100000000 ≤ n ∧ Pool H p ∧ ∀ (d : Int) H', 0 ≤ d → d < n → Step p H H' → Q (.int d) H'
theorem sc_wi : FnScope ["pool", "base", "found", "k"] ["pool", "base"] (defScope s_law_wide) := ⟨rfl, rfl, rfl, by decide +kernel, rfl, by decide +kernel, by decide +kernel⟩
theorem ok_wi (D : Df K mg "_law_wide" s_law_wide ["pool", "base"] []) (T : TxB K mg) (cN : Cal P w K mg base "_law_next" 1 ["pool", "base"] [] spNext) : Cal P w K mg base "_law_wide" 2 ["pool", "base"] [] spWide := by
  refine D.cal (k := 1) sc_wi (fun vs H Q E h => by obtain ⟨_, _, rfl, _⟩ := h; rfl) (fun f cdv A outer s H vs Q E hr h => ?_)
  obtain ⟨p, n, rfl, hn, hP, k⟩ := h
  refine ⟨_, (pss_cons (ps_if (pt_cmpR op_lt (pv 1) (pe_op op_pow pe_int pe_int) (nomark _)) (pss_one (ps_ret (pe_c cN hr (pa_cons (pv 0) (pa_cons (pv 1) pa_nil))))) pss_nil)
    (pss_cons (ps_set (i := 2) sc_wi.nd rfl (Or.inl rfl) pe_int)
    (pss_cons (ps_for PassesOwn.never rfl (pi_range1 rfl T.nRange (pa_cons pe_int pa_nil)) (pg_name (i := 3) sc_wi.nd rfl (Or.inl rfl)) (pss_one (ps_set (i := 2) sc_wi.nd rfl (Or.inl rfl) (pe_op op_add (pe_op op_mulB (pv 2) (pe_op op_pow pe_int pe_int)) (pe_c cN hr (pa_cons (pv 0) (pa_cons (pe_op op_pow pe_int pe_int) pa_nil)))))))
    (pss_one (ps_ret (pe_op op_mod (pv 2) (pv 1))))))), ?_⟩
  refine ⟨_, rfl, _, _, rfl, rfl, ⟨by decide, by decide, by decide⟩, _, _, rfl, rfl, _, rfl, ite2 (fun h => ?_) (fun h => ?_)⟩
  · exact absurd (of_decide_eq_true h) (by show ¬ n < 10 ^ 8; have : (10 : Int) ^ 8 = 100000000 := by decide
                                           omega)
  refine ⟨_, rfl, by decide, by decide, ?_⟩
  refine for_range (n := (4 : Int).toNat) (lo := 0) (fun i σ G => ∃ (z : Option V) (g : Int), σ = [some (.ref p), some (.int n), some (.int g), z] ∧ Bd (30 + 40 * i) g ∧ Step p H G) ⟨none, 0, rfl, Bd.mono (m := 1) (show (0 : Int).natAbs < 2 ^ 1 by decide) (by decide), Step.refl hP⟩ ?_ ?_
  · rintro i σ G hi ⟨z, g, rfl, hg, tG⟩
    have hi4 : i < 4 := hi
    refine ⟨_, rfl, _, _, rfl, rfl, ⟨by decide, by decide, by decide⟩, _, _, rfl, rfl, ⟨hg.mono (by omega), Bd.mono (m := 30) (bdn (by decide) (by decide)) (by decide)⟩, ?_⟩
    refine ⟨_, rfl, _, _, rfl, rfl, ⟨by decide, by decide, by decide⟩, p, _, rfl, by decide, by decide, tG.pool, fun d G2 d0 d1 t2 => ⟨_, _, rfl, rfl, _, _, rfl, ?_, tG.trans t2⟩⟩
    have e : ((2 : Int) ^ (28 : Int).toNat) = 268435456 := by decide
    have d1' : d < 268435456 := by rw [← e]; exact d1
    have b1 : Bd 30 ((2 : Int) ^ (28 : Int).toNat) := bdn (by decide) (by decide)
    have b2 : Bd 30 d := bdn d0 (by omega)
    exact ((hg.mul b1).add b2).mono (by omega)
  · rintro σ G ⟨z, g, rfl, hg, tG⟩
    exact ⟨_, rfl, _, rfl, _, _, rfl, rfl, by omega, k _ _ (Int.emod_nonneg _ (by omega)) (Int.emod_lt_of_pos _ (by omega)) tG⟩
def spRa : Sp := fun vs H Q _ => ∃ (p : Addr) (n : Int), vs = [.ref p, .int n] ∧ 0 ≤ n ∧ n ≤ 1000000 ∧ Pool H p ∧ ∀ r x H', Step p H H' → RatAt H' r x → Sz 80 x → Q (.ref r) H'
theorem menu8r {d : Int} (h0 : 0 ≤ d) (h1 : d < 8) : ∃ v : Int, atI [V.int 1, .int 1, .int 1, .int 2, .int 3, .int 4, .int 6, .int ((10 : Int) ^ (5 : Int).toNat)] d = some (.int v) ∧ 1 ≤ v ∧ v ≤ 100000 := by
  have : d = 0 ∨ d = 1 ∨ d = 2 ∨ d = 3 ∨ d = 4 ∨ d = 5 ∨ d = 6 ∨ d = 7 := by omega
  rcases this with rfl | rfl | rfl | rfl | rfl | rfl | rfl | rfl
  all_goals exact ⟨_, rfl, by decide, by decide⟩
theorem sc_ra : FnScope ["pool", "size", "bottom"] ["pool", "size"] (defScope s_law_ratio) := ⟨rfl, rfl, rfl, by decide +kernel, rfl, by decide +kernel, by decide +kernel⟩
theorem ok_ra (D : Df K mg "_law_ratio" s_law_ratio ["pool", "size"] []) (cN : Cal P w K mg base "_law_next" 1 ["pool", "base"] [] spNext) (cWi : Cal P w K mg base "_law_wide" 2 ["pool", "base"] [] spWide) (cL : Cal P w K mg base "_law_low" 1 ["top", "bottom"] [] spLow) : Cal P w K mg base "_law_ratio" 3 ["pool", "size"] [] spRa := by
  refine D.calB (k := 2) sc_ra (fun vs H Q E h => by obtain ⟨_, _, rfl, _⟩ := h; rfl) (fun f cdv A outer s H vs Q E hr h => ?_)
  obtain ⟨p, n, rfl, n0, n1, hP, k⟩ := h
  have hr1 : Room 1 _ := hr.mono (by decide)
  refine ⟨_, (bx_scons (bx_set (i := 2) sc_ra.nd rfl (Or.inl rfl) (bx_ix ix_list (bx_lst (bx_cons (Bx.mk pe_int) (bx_cons (Bx.mk pe_int) (bx_cons (Bx.mk pe_int) (bx_cons (Bx.mk pe_int) (bx_cons (Bx.mk pe_int) (bx_cons (Bx.mk pe_int) (bx_cons (Bx.mk pe_int) (bx_cons (Bx.mk (pe_op op_pow pe_int pe_int)) bx_nil))))))))) (Bx.mk (pe_c cN hr1 (pa_cons (pv 0) (pa_cons pe_int pa_nil)))) (fun _ _ => rfl))) (Bx.mk (pss_cons (ps_if (pt_cmpR op_eq (pe_c cN hr1 (pa_cons (pv 0) (pa_cons pe_int pa_nil))) pe_int (nomark _)) (pss_one (ps_ret (pe_c cL hr1 (pa_cons (pe_op op_sub (pe_c cWi hr (pa_cons (pv 0) (pa_cons (pe_op op_add (pe_op op_mulB pe_int (pe_op op_pow pe_int pe_int)) pe_int) pa_nil))) (pe_op op_pow pe_int pe_int)) (pa_cons (pv 2) pa_nil))))) pss_nil)
    (pss_one (ps_ret (pe_c cL hr1 (pa_cons (pe_op op_sub (pe_c cN hr1 (pa_cons (pv 0) (pa_cons (pe_op op_add (pe_op op_mulB pe_int (pv 1)) pe_int) pa_nil))) (pv 1)) (pa_cons (pv 2) pa_nil)))))))), ?_⟩
  refine ⟨_, _, rfl, rfl, ⟨by decide, by decide, by decide⟩, by show 8 ≤ sizeLine; decide, fun l1 hl1 => ?_⟩
  refine ⟨_, rfl, p, _, rfl, by decide, by decide, hP.new hl1, fun d1 G1 a1 b1 t1 => ?_⟩
  obtain ⟨v, ev, v0, v1⟩ := menu8r a1 b1
  refine ⟨l1, _, _, _, rfl, rfl, .of (t1.keep l1 _ upd_same (hP.ne hl1)), ev, ?_⟩
  have T1 : Step p H G1 := t1.pre (Same.upd hl1)
  have vb : Bd 8900 v := Bd.mono (m := 20) (bdn (by omega) (by omega)) (by decide)
  refine ⟨_, rfl, p, _, rfl, by decide, by decide, t1.pool, fun d2 G2 a2 b2 t2 => ⟨rfl, _, rfl, ite2 (fun h => ?_) (fun h => ?_)⟩⟩
  · refine ⟨_, rfl, _, _, rfl, rfl, ⟨by decide, by decide, by decide⟩, _, _, rfl, rfl, ⟨Bd.mono (m := 2) (bdn (by decide) (by decide)) (by decide), Bd.mono (m := 80) (bdn (by decide) (by decide)) (by decide)⟩, _, _, rfl, rfl, p, _, rfl, by decide, t2.pool, fun d3 G3 a3 b3 t3 => ?_⟩
    refine ⟨_, _, rfl, rfl, ⟨by decide, by decide, by decide⟩, _, _, rfl, rfl, _, rfl, _, _, rfl, by omega, vb, fun r H' e h => k r _ H' (((T1.trans t2).trans t3).same e) h (.divInt (by omega) ?_ (Bd.mono (m := 20) (bdn (by omega) (by omega)) (by decide)))⟩
    have e20 : ((10 : Int) ^ (20 : Int).toNat) = 100000000000000000000 := by decide
    have b3' : d3 < 2 * ((10 : Int) ^ (20 : Int).toNat) + 1 := b3
    show Bd 80 (d3 - (10 : Int) ^ (20 : Int).toNat)
    rw [e20] at b3' ⊢
    exact Bd.mono (m := 68) (bdz (by omega) (by omega)) (by decide)
  · refine ⟨_, rfl, _, rfl, _, _, rfl, rfl, ⟨Bd.mono (m := 2) (bdn (by decide) (by decide)) (by decide), Bd.mono (m := 30) (bdn (by omega) (by omega)) (by decide)⟩, _, _, rfl, rfl, p, _, rfl, by omega, by omega, t2.pool, fun d3 G3 a3 b3 t3 => ?_⟩
    refine ⟨_, rfl, _, _, rfl, rfl, _, rfl, _, _, rfl, by omega, vb, fun r H' e h => k r _ H' (((T1.trans t2).trans t3).same e) h (.divInt (by omega) ?_ (Bd.mono (m := 20) (bdn (by omega) (by omega)) (by decide)))⟩
    exact Bd.mono (m := 30) (bdz (by omega) (by omega)) (by decide)
def spSp : Sp := fun vs H Q _ => ∃ (p : Addr), vs = [.ref p] ∧ Pool H p ∧ ∀ r x H', Step p H H' → RatAt H' r x → Sz 5 x → Q (.ref r) H'
theorem menu4s {d : Int} (h0 : 0 ≤ d) (h1 : d < 4) : ∃ v : Int, atI [V.int 1, .int 1, .int 2, .int 3] d = some (.int v) ∧ 1 ≤ v ∧ v ≤ 3 := by
  have : d = 0 ∨ d = 1 ∨ d = 2 ∨ d = 3 := by omega
  rcases this with rfl | rfl | rfl | rfl
  all_goals exact ⟨_, rfl, by decide, by decide⟩
theorem menu4g {d : Int} (h0 : 0 ≤ d) (h1 : d < 4) : ∃ v : Int, atI [V.int 1, .int 2, .int 3, .int 6] d = some (.int v) ∧ 1 ≤ v ∧ v ≤ 6 := by
  have : d = 0 ∨ d = 1 ∨ d = 2 ∨ d = 3 := by omega
  rcases this with rfl | rfl | rfl | rfl
  all_goals exact ⟨_, rfl, by decide, by decide⟩
theorem sc_sp : FnScope ["pool"] ["pool"] (defScope s_law_speed) := ⟨rfl, rfl, rfl, by decide +kernel, rfl, by decide +kernel, by decide +kernel⟩
theorem ok_sp (D : Df K mg "_law_speed" s_law_speed ["pool"] []) (cN : Cal P w K mg base "_law_next" 1 ["pool", "base"] [] spNext) (cL : Cal P w K mg base "_law_low" 1 ["top", "bottom"] [] spLow) : Cal P w K mg base "_law_speed" 2 ["pool"] [] spSp := by
  refine D.cal (k := 1) sc_sp (fun vs H Q E h => by obtain ⟨_, rfl, _⟩ := h; rfl) (fun f cdv A outer s H vs Q E hr h => ?_)
  obtain ⟨p, rfl, hP, k⟩ := h
  refine ⟨_, (pss_one (ps_ret (pe_c cL hr (pa_cons (pe_op op_sub (pe_c cN hr (pa_cons (pv 0) (pa_cons pe_int pa_nil))) pe_int) (pa_cons (pe_ix ix_list (pe_lst (pa_cons pe_int (pa_cons pe_int (pa_cons pe_int (pa_cons pe_int pa_nil))))) (pe_c cN hr (pa_cons (pv 0) (pa_cons pe_int pa_nil))) (fun _ _ => rfl)) pa_nil))))), ?_⟩
  refine ⟨_, rfl, p, _, rfl, by decide, by decide, hP, fun d1 G1 a1 b1 t1 => ⟨_, _, rfl, rfl, by show 4 ≤ sizeLine; decide, fun l1 hl1 => ?_⟩⟩
  refine ⟨_, rfl, p, _, rfl, by decide, by decide, t1.pool.new hl1, fun d2 G2 a2 b2 t2 => ?_⟩
  obtain ⟨v, ev, v0, v1⟩ := menu4s a2 b2
  refine ⟨l1, _, _, _, rfl, rfl, .of (t2.keep l1 _ upd_same (t1.pool.ne hl1)), ev, ?_⟩
  refine ⟨_, _, rfl, by omega, Bd.mono (m := 5) (bdn (by omega) (by omega)) (by decide), fun r H' e h => k r _ H' ((t1.trans (t2.pre (Same.upd hl1))).same e) h (.divInt (by omega) (bdz (by omega) (by omega)) (bdn (by omega) (by omega)))⟩
def spGa : Sp := fun vs H Q _ => ∃ (p : Addr), vs = [.ref p] ∧ Pool H p ∧ ∀ r x H', Step p H H' → RatAt H' r x → Sz 5 x → 0 ≤ x → Q (.ref r) H'
theorem sc_ga : FnScope ["pool"] ["pool"] (defScope s_law_gap) := ⟨rfl, rfl, rfl, by decide +kernel, rfl, by decide +kernel, by decide +kernel⟩
theorem ok_ga (D : Df K mg "_law_gap" s_law_gap ["pool"] []) (cN : Cal P w K mg base "_law_next" 1 ["pool", "base"] [] spNext) (cL : Cal P w K mg base "_law_low" 1 ["top", "bottom"] [] spLow) : Cal P w K mg base "_law_gap" 2 ["pool"] [] spGa := by
  refine D.cal (k := 1) sc_ga (fun vs H Q E h => by obtain ⟨_, rfl, _⟩ := h; rfl) (fun f cdv A outer s H vs Q E hr h => ?_)
  obtain ⟨p, rfl, hP, k⟩ := h
  refine ⟨_, (pss_cons (ps_if (pt_cmpR op_eq (pe_c cN hr (pa_cons (pv 0) (pa_cons pe_int pa_nil))) pe_int (nomark _)) (pss_one (ps_ret (pe_tup (pa_cons pe_int (pa_cons pe_int pa_nil))))) pss_nil)
    (pss_one (ps_ret (pe_c cL hr (pa_cons (pe_op op_add pe_int (pe_c cN hr (pa_cons (pv 0) (pa_cons pe_int pa_nil)))) (pa_cons (pe_ix ix_list (pe_lst (pa_cons pe_int (pa_cons pe_int (pa_cons pe_int (pa_cons pe_int pa_nil))))) (pe_c cN hr (pa_cons (pv 0) (pa_cons pe_int pa_nil))) (fun _ _ => rfl)) pa_nil)))))), ?_⟩
  refine ⟨_, rfl, p, _, rfl, by decide, by decide, hP, fun d0 G0 a0 b0 t0 => ⟨rfl, _, rfl, ite2 (fun h => ?_) (fun h => ?_)⟩⟩
  · refine ⟨by show 2 ≤ sizeLine; decide, fun r hr => k r 0 _ (t0.same (Same.upd hr)) upd_same ⟨show (0 : Int).natAbs < 2 ^ 5 by decide, show (1 : Int).natAbs < 2 ^ 5 by decide⟩ (by decide)⟩
  · refine ⟨_, rfl, p, _, rfl, by decide, by decide, t0.pool, fun d1 G1 a1 b1 t1 => ⟨_, _, rfl, rfl, by show 4 ≤ sizeLine; decide, fun l1 hl1 => ?_⟩⟩
    refine ⟨_, rfl, p, _, rfl, by decide, by decide, t1.pool.new hl1, fun d2 G2 a2 b2 t2 => ?_⟩
    obtain ⟨v, ev, v0, v1⟩ := menu4g a2 b2
    refine ⟨l1, _, _, _, rfl, rfl, .of (t2.keep l1 _ upd_same (t1.pool.ne hl1)), ev, ?_⟩
    refine ⟨_, _, rfl, by omega, Bd.mono (m := 5) (bdn (by omega) (by omega)) (by decide), fun r H' e h => k r _ H' (((t0.trans t1).trans (t2.pre (Same.upd hl1))).same e) h (.divInt (by omega) (bdz (by omega) (by omega)) (bdn (by omega) (by omega))) (divInt_nn (by omega) (by omega))⟩
end
end KK
end
section
set_option maxHeartbeats 8000000
set_option Elab.async false
set_option linter.all false
set_option maxRecDepth 100000
namespace L2
open PySem PySem.Spec PyProof.Rows
theorem compC_byZ {J : It} {D : Addr} {N n : Nat} {js : List Nat} {σ : St} {g : TG} {tt : TT} {te : TE} {Z : Hp → Prop} {H : Hp} (Pv : Nat → Hp → List V → Prop) (h0 : Pv 0 (upd H D (.lst [])) []) (hgo : ∀ i H ys, i < N → Pv i H ys → J.go i H) (hst : ∀ H ys, Pv N H ys → J.stop N H)
    (hs : ∀ i x zs H2 H3 ys (Nx : Hp → List V → Prop), (∀ H ys, Pv (i + 1) H ys → Nx H ys) → i < N → zs.length = n → J.yld i H2 x H3 → Pv i H2 ys → H2 D = some (.lst ys) → g x (zs ++ caps σ js) H3 fun σ4 H4 => σ4.drop n = caps σ js ∧ tt σ4 H4 fun b H5 =>
      if b = true then te σ4 H5 (fun v H6 => H6 D = some (.lst ys) ∧ ys.length < sizeLine ∧ Nx (upd H6 D (.lst (ys ++ [v]))) (ys ++ [v])) else H5 D = some (.lst ys) ∧ Nx H5 ys)
    (hd : ∀ H ys, Pv N H ys → H D = some (.lst ys) → Z H) :
    ∃ W : Nat → Nat → Hp → List V → Prop, (∃ m, W 0 m (upd H D (.lst [])) []) ∧ ∀ i m H2 ys, W i m H2 ys → H2 D = some (.lst ys) → (J.stop i H2 ∧ Z H2) ∨
      (J.go i H2 ∧ ∀ zs x H3, zs.length = n → J.yld i H2 x H3 → g x (zs ++ caps σ js) H3 fun σ4 H4 => σ4.drop n = caps σ js ∧ tt σ4 H4 fun b H5 => if b = true then te σ4 H5 (fun v H6 => H6 D = some (.lst ys) ∧ ys.length < sizeLine ∧ ∃ m', m' < m ∧ W (i + 1) m' (upd H6 D (.lst (ys ++ [v]))) (ys ++ [v]))
        else H5 D = some (.lst ys) ∧ ∃ m', m' < m ∧ W (i + 1) m' H5 ys) := compC_by (Q := fun _ H => Z H) Pv h0 hgo hst hs hd
end L2
namespace KK
open PySem L2 KM
theorem st_next {D : Ends} {σ : St} {H : Hp} (h : D.nx σ H) : tNext D σ H := h
theorem st_mid {t u : TS} {D : Ends} {σ : St} {H : Hp} (R : St → Hp → Prop) (h2 : ∀ σ' H', R σ' H' → u D σ' H') (h1 : ∀ nx : St → Hp → Prop, (∀ σ' H', R σ' H' → nx σ' H') → t { D with nx := nx } σ H) : tSeq t u D σ H := h1 (u D) h2
theorem step_tups {p : Addr} {H H' : Hp} (hp : Pool H p) (s : Step p H H') : TupS H H' := fun b xs e => s.tup hp e
theorem Step.free {p l : Addr} {H G : Hp} (s : Step p H G) (h : G l = none) : H l = none := by
  cases hh : H l with
  | none => rfl
  | some o =>
    by_cases e : l = p
    · subst e; obtain ⟨_, _, _, z⟩ := s.pool; rw [z] at h; cases h
    · rw [s.keep _ _ hh e] at h; cases h
theorem Step.put {p l : Addr} {H G : Hp} (s : Step p H G) (h : H l = none) (n : l ≠ p) (o : HO) : Step p H (upd G l o) :=
  ⟨by obtain ⟨q1, q2, q3, e⟩ := s.pool; exact ⟨q1, q2, q3, by rw [upd_ne (Ne.symm n)]; exact e⟩, fun b u e m => by rw [upd_ne (fun z => by rw [z, h] at e; cases e)]; exact s.keep b u e m⟩
theorem len1 {α : Type} {xs : List α} (h : xs.length = 1) : ∃ a, xs = [a] := by
  match xs, h with
  | [a], _ => exact ⟨a, rfl⟩
theorem menu3w {d : Int} (h0 : 0 ≤ d) (h1 : d < 3) : ∃ v : Int, atI [V.int 1, .int 5, .int 1000] d = some (.int v) ∧ 1 ≤ v ∧ v ≤ 1000 := by
  have : d = 0 ∨ d = 1 ∨ d = 2 := by omega
  rcases this with rfl | rfl | rfl
  all_goals exact ⟨_, rfl, by decide, by decide⟩
theorem rep_one {α : Type} (v : α) : ∀ n : Nat, (List.replicate n [v]).flatten = List.replicate n v
  | 0 => rfl
  | n + 1 => by rw [List.replicate_succ, List.flatten_cons, rep_one v n, List.replicate_succ]; rfl
section
variable {P : Program} {w : World} {K : PySem.W.Frag} {mg : Str → Option Value} {base : Heap}
def spWe : Sp := fun vs H Q _ => ∃ (p : Addr) (n : Nat), vs = [.ref p, .int (n : Int)] ∧ 1 ≤ n ∧ n ≤ 8 ∧ Pool H p ∧ ∀ l (ws : List Int) H', Step p H H' → H l = none → H' l = some (.lst (ws.map V.int)) → ws.length = n → (∀ x ∈ ws, 1 ≤ x ∧ x ≤ 1000) → Q (.ref l) H'
theorem sc_we : FnScope ["pool", "many", "sort"] ["pool", "many"] (defScope s_law_weights) := ⟨rfl, rfl, rfl, by decide +kernel, rfl, by decide +kernel, by decide +kernel⟩
theorem ok_we (D : Df K mg "_law_weights" s_law_weights ["pool", "many"] []) (T : TxB K mg) (cN : Cal P w K mg base "_law_next" 1 ["pool", "base"] [] spNext) : Cal P w K mg base "_law_weights" 2 ["pool", "many"] [] spWe := by
  refine D.cal (k := 1) sc_we (fun vs H Q E h => by obtain ⟨_, _, rfl, _⟩ := h; rfl) (fun f cdv A outer s H vs Q E hr h => ?_)
  obtain ⟨p, n, rfl, n1, n8, hP, k⟩ := h
  refine ⟨_, (pss_cons (ps_set (i := 2) sc_we.nd rfl (Or.inr rfl) (pe_c cN hr (pa_cons (pv 0) (pa_cons pe_int pa_nil))))
    (pss_cons (ps_if (pt_cmpR op_eq (pv 2) pe_int (nomark _)) (pss_one (ps_ret (pe_op op_rep (bx_out (bx_lst (bx_cons (bx_ix ix_list (bx_lst (bx_cons (Bx.mk pe_int) (bx_cons (Bx.mk pe_int) (bx_cons (Bx.mk pe_int) bx_nil)))) (Bx.mk (pe_c cN hr (pa_cons (pv 0) (pa_cons pe_int pa_nil)))) (fun _ _ => rfl)) bx_nil))) (pv 1)))) pss_nil)
    (pss_one (ps_ret (pe_compC (NB := ["k"]) (FR := ["pool", "sort"]) (js := [0, 2]) rfl rfl (fun _ _ h => h) (.cons rfl rfl rfl ⟨_, rfl⟩ (.cons rfl rfl rfl ⟨_, rfl⟩ .nil)) rfl (by decide +kernel) rfl (by decide +kernel) (pi_range1 rfl T.nRange (pa_cons (pv 1) pa_nil)) (by intro _ _ _; refine ⟨?_, ?_, ?_⟩; (exact (pg_name (i := 0) (show List.Nodup (["k", "pool", "sort"] : List Str) by decide +kernel) rfl (Or.inl rfl))); (exact pts_nil); (exact (pe_op op_add pe_int (pe_c cN hr (pa_cons (pv 1) (pa_cons (pe_ix (ix_listK (K := K) rfl) (pe_lst (pa_cons pe_int (pa_cons pe_int pa_nil))) (pe_op op_sub (pv 2) pe_int) (fun _ _ => rfl)) pa_nil))))))))))), ?_⟩
  refine ⟨_, rfl, p, _, rfl, by decide, by decide, hP, fun so G1 a1 b1 t1 => ?_⟩
  refine ⟨_, rfl, rfl, _, rfl, ite2 (fun h => ?_) (fun h => ?_)⟩
  · refine ⟨by show 3 ≤ sizeLine; decide, fun l1 hl1 => ?_⟩
    refine ⟨_, rfl, p, _, rfl, by decide, by decide, t1.pool.new hl1, fun d2 G2 a2 b2 t2 => ?_⟩
    obtain ⟨v, ev, v0, v1⟩ := menu3w a2 b2
    refine ⟨l1, _, _, _, rfl, rfl, .of (t2.keep l1 _ upd_same (t1.pool.ne hl1)), ev, by show 1 ≤ sizeLine; decide, fun l2 hl2 => ?_⟩
    have T2 : Step p H G2 := t1.trans (t2.pre (Same.upd hl1))
    refine ⟨_, rfl, l2, _, _, rfl, rfl, upd_same, by omega, by omega, ?_, fun l3 hl3 => ?_⟩
    · refine szl ?_
      show 1 * ((n : Int).toNat) ≤ 1000
      omega
    have T3 := T2.same (Same.upd (o := .lst [.int v]) hl2)
    refine k l3 (List.replicate n v) _ (T3.same (Same.upd hl3)) (T3.free hl3) ?_ (by simp) (fun x m => by have := List.eq_of_mem_replicate m; omega)
    rw [upd_same, show ((n : Int)).toNat = n by omega, rep_one]; simp
  · have hs : so = 1 ∨ so = 2 := by
      have : so ≠ 0 := fun z => by subst z; exact h (by decide)
      omega
    refine ⟨_, rfl, (n : Int), rfl, by omega, by omega, fun Dc hDc => ?_⟩
    have hDp : Dc ≠ p := t1.pool.ne hDc
    refine compC_byZ (js := [0, 2]) (J := Itr 0 ((n : Int)).toNat) (g := gName 0) (tt := fun _ H Q => Q true H) (te := _) (N := n) (n := 1) (fun i G ys => Step p G1 G ∧ ∃ ws : List Int, ys = ws.map V.int ∧ ws.length = i ∧ ∀ x ∈ ws, 1 ≤ x ∧ x ≤ 1000)
      ⟨⟨t1.pool.new hDc, fun b o e _ => Same.upd hDc _ _ e⟩, [], rfl, rfl, fun v hv => by cases hv⟩ (fun i G ys hi z => by show i < ((n : Int)).toNat; omega) (fun G ys z => by show ((n : Int)).toNat ≤ n; omega) ?_ ?_
    · rintro i x zs G_ G ys Nx hN hi hz1 ⟨rfl, rfl⟩ ⟨tG, ws, rfl, hwl, hwv⟩ hGD
      obtain ⟨y1, rfl⟩ := len1 hz1
      refine ⟨rfl, iteT ?_⟩
      refine ⟨_, rfl, by show 2 ≤ sizeLine; decide, fun l1 hl1 => ?_⟩
      obtain ⟨mx, emx, m0, m1⟩ : ∃ mx : Int, atI [V.int 9, .int 1000] (so - 1) = some (.int mx) ∧ 9 ≤ mx ∧ mx ≤ 1000 := by
        rcases hs with rfl | rfl
        · exact ⟨9, rfl, by decide, by decide⟩
        · exact ⟨1000, rfl, by decide, by decide⟩
      refine ⟨_, rfl, _, _, rfl, rfl, l1, _, _, _, rfl, rfl, .of upd_same, emx, ?_⟩
      refine ⟨p, mx, rfl, by omega, by omega, tG.pool.new hl1, fun d2 G3 a2 b2 t3 => ⟨_, _, rfl, rfl, ?_⟩⟩
      have t3' : Step p G G3 := t3.pre (Same.upd hl1)
      have h3 := t3'.keep _ _ hGD hDp
      refine ⟨h3, small1000 (by simp; omega), hN _ _ ⟨(tG.trans t3').put hDc hDp _, ws ++ [1 + d2], by simp, by simp [hwl], fun v hv => ?_⟩⟩
      rcases List.mem_append.mp hv with z | z
      · exact hwv v z
      · have : v = 1 + d2 := by simpa using z
        omega
    · rintro G ys ⟨tG, ws, rfl, hwl, hwv⟩ hGD
      exact k Dc ws G (t1.trans tG) (t1.free hDc) hGD hwl hwv
end
end KK
end
section
set_option maxHeartbeats 8000000
set_option Elab.async false
set_option linter.all false
set_option maxRecDepth 100000
namespace KK
open PySem L2 KM
theorem eqv0 (x : Rat) : PyData.eqv (.tuple [.int x.num, .int (x.den : Int)]) (.tuple [.int 0, .int 1]) = decide (x = 0) := eqv_rp x 0
section
variable {P : Program} {w : World} {K : PySem.W.Frag} {mg : Str → Option Value} {base : Heap}
def spRow : Sp := fun vs H Q _ => ∃ (p : Addr) (mo : Int), vs = [.ref p, .int mo] ∧ 1 ≤ mo ∧ mo ≤ 8 ∧ Pool H p ∧ ∀ r us bs H', Step p H H' → H' r = some (.tup us) → BallsAt H' us bs → Good bs → 1 ≤ bs.length → bs.length ≤ 8 → Q (.ref r) H'
theorem sc_ro : FnScope ["pool", "most", "many", "weights", "place", "row", "k", "speed", "gap"] ["pool", "most"] (defScope s_law_row) := ⟨rfl, rfl, rfl, by decide +kernel, rfl, by decide +kernel, by decide +kernel⟩
theorem ok_ro (D : Df K mg "_law_row" s_law_row ["pool", "most"] []) (T : TxB K mg) (cN : Cal P w K mg base "_law_next" 1 ["pool", "base"] [] spNext) (cWe : Cal P w K mg base "_law_weights" 2 ["pool", "many"] [] spWe) (cRa : Cal P w K mg base "_law_ratio" 3 ["pool", "size"] [] spRa)
    (cSp : Cal P w K mg base "_law_speed" 2 ["pool"] [] spSp) (cGa : Cal P w K mg base "_law_gap" 2 ["pool"] [] spGa) (cA : Cal P w K mg base "_law_add" 2 ["a", "b"] [] (spBin Sz2 (· + ·))) (cBl : Cal P w K mg base "_law_below" 1 ["a", "b"] [] spLt) : Cal P w K mg base "_law_row" 4 ["pool", "most"] [] spRow := by
  refine D.cal (k := 3) sc_ro (fun vs H Q E h => by obtain ⟨_, _, rfl, _⟩ := h; rfl) (fun f cdv A outer s H vs Q E hr h => ?_)
  obtain ⟨p, mo, rfl, o1, o8, hP, k⟩ := h
  have hr1 : Room 1 _ := hr.mono (by decide)
  have hr2 : Room 2 _ := hr.mono (by decide)
  have hu := hr.units
  refine ⟨_, (pss_cons (ps_set (i := 2) sc_ro.nd rfl (Or.inl rfl) (pe_op op_add pe_int (pe_c cN hr1 (pa_cons (pv 0) (pa_cons (pv 1) pa_nil)))))
    (pss_cons (ps_set (i := 3) sc_ro.nd rfl (Or.inl rfl) (pe_c cWe hr2 (pa_cons (pv 0) (pa_cons (pv 2) pa_nil))))
    (pss_cons (ps_set (i := 4) sc_ro.nd rfl (Or.inl rfl) (pe_c cRa hr (pa_cons (pv 0) (pa_cons pe_int pa_nil))))
    (pss_cons (ps_set (i := 5) sc_ro.nd rfl (Or.inl rfl) (pe_lst pa_nil))
    (pss_cons (ps_for PassesOwn.never rfl (pi_range1 rfl T.nRange (pa_cons (pv 2) pa_nil)) (pg_name (i := 6) sc_ro.nd rfl (Or.inl rfl)) (pss_cons (ps_set (i := 7) sc_ro.nd rfl (Or.inl rfl) (pe_c cSp hr2 (pa_cons (pv 0) pa_nil)))
    (pss_cons (ps_if (pt_cmpR op_gt (pv 6) pe_int (nomark _)) (pss_cons (ps_set (i := 8) sc_ro.nd rfl (Or.inl rfl) (pe_c cGa hr2 (pa_cons (pv 0) pa_nil)))
    (pss_cons (ps_set (i := 4) sc_ro.nd rfl (Or.inl rfl) (pe_c cA hr2 (pa_cons (pv 4) (pa_cons (pv 8) pa_nil))))
    (pss_cons (ps_if (pt_cmpR op_eq (pe_c cN hr1 (pa_cons (pv 0) (pa_cons pe_int pa_nil))) pe_int (nomark _)) (pss_one (ps_set (i := 7) sc_ro.nd rfl (Or.inl rfl) (pe_ix ix_tup (pe_ix ix_list (pv 5) (pe_un un_neg pe_int) (fun _ _ => rfl)) pe_int (fun _ _ => rfl)))) pss_nil)
    (pss_one (ps_if (pw_and (pt_cmpR (op_eqD hu) (pv 8) (pe_tup (pa_cons pe_int (pa_cons pe_int pa_nil))) (nomark _)) (pw_and1 (pt_not (pt_truth (pe_c cBl hr1 (pa_cons (pe_ix ix_tup (pe_ix ix_list (pv 5) (pe_un un_neg pe_int) (fun _ _ => rfl)) pe_int (fun _ _ => rfl)) (pa_cons (pv 7) pa_nil))) fun _ => rfl)))).pt (pss_one (ps_set (i := 7) sc_ro.nd rfl (Or.inl rfl) (pe_c cA hr2 (pa_cons (pe_ix ix_tup (pe_ix ix_list (pv 5) (pe_un un_neg pe_int) (fun _ _ => rfl)) pe_int (fun _ _ => rfl)) (pa_cons (pe_tup (pa_cons (pe_op op_add pe_int (pe_c cN hr1 (pa_cons (pv 0) (pa_cons pe_int pa_nil)))) (pa_cons pe_int pa_nil))) pa_nil))))) pss_nil))))) pss_nil)
    (pss_one (ps_expr (pe_bm PySem.F.plainAttrs_list PySem.F.slot_list_append PySem.F.type_list_append mt_append (pv 5) (pa_cons (pe_tup (pa_cons (pv 4) (pa_cons (pv 7) (pa_cons (pe_ix ix_list (pv 3) (pv 6) (fun _ _ => rfl)) pa_nil)))) pa_nil)))))))
    (pss_one (ps_ret (pe_callTy call_tuple_of (by rfl) T.nTuple PyProof.Rows.boot_tuple (pa_cons (pv 5) pa_nil))))))))), ?_⟩
  refine ⟨_, rfl, _, rfl, p, _, rfl, by omega, by omega, hP, fun d1 G1 a1 b1 t1 => ⟨_, _, rfl, rfl, ?_⟩⟩
  obtain ⟨n, hn⟩ : ∃ n : Nat, (n : Int) = 1 + d1 := ⟨(1 + d1).toNat, by omega⟩
  dsimp only [gName]
  rw [← hn]
  refine ⟨_, rfl, _, rfl, p, n, rfl, by omega, by omega, t1.pool, fun lw ws G2 t2 hlw hw hwl hwv => ?_⟩
  refine ⟨_, rfl, p, _, rfl, by decide, by decide, t2.pool, fun pp pl G3 t3 hpp zpl => ?_⟩
  refine ⟨by show 0 ≤ sizeLine; exact Nat.zero_le _, fun lr hlr => ?_⟩
  have T3 := (t1.trans t2).trans t3
  have hlwp : lw ≠ p := t1.pool.ne hlw
  have hw3 := t3.keep _ _ hw hlwp
  have hrp : lr ≠ p := T3.pool.ne hlr
  have hrH := T3.free hlr
  have hlwr : lw ≠ lr := fun z => by rw [z, hlr] at hw3; cases hw3
  dsimp only [gName]
  refine st_for ?_
  refine ⟨_, rfl, (n : Int), rfl, by omega, by omega, ?_⟩
  refine for_range (n := ((n : Int)).toNat) (lo := 0) (fun i σ G => ∃ pp pl us bs z6 z7 z8, σ = [some (.ref p), some (.int mo), some (.int (n : Int)), some (.ref lw), some (.ref pp), some (.ref lr), z6, z7, z8] ∧ Step p H G ∧ G lw = some (.lst (ws.map V.int)) ∧ RatAt G pp pl ∧ Sz (80 + 10 * i) pl ∧ G lr = some (.lst us) ∧ BallsAt G us bs ∧ bs.length = i ∧ Good bs ∧
      (∀ cs c, bs = cs ++ [c] → c.pl = pl ∧ Sz (5 + 8 * i) c.sp))
    ⟨pp, pl, [], [], none, none, none, rfl, T3.same (Same.upd hlr), Same.upd hlr _ _ hw3, Same.upd hlr _ _ hpp, zpl, upd_same, .nil, rfl, Good.nil, fun cs c e => by simp at e⟩ ?_ ?_
  · rintro i σ G hi ⟨pp, pl, us, bs, z6, z7, z8, rfl, TG, hwG, hppG, zplG, hlrG, hB, hbl, hGo, hlast⟩
    have hin : i < n := by omega
    refine ⟨_, rfl, p, rfl, TG.pool, fun rs sp G4 t4 hrs zsp => ?_⟩
    have T4 := TG.trans t4
    have Tu4 := step_tups TG.pool t4
    dsimp only [gName]
    refine st_mid (fun σ' G' => ∃ pp' pl' rs' sp' z8', σ' = [some (.ref p), some (.int mo), some (.int (n : Int)), some (.ref lw), some (.ref pp'), some (.ref lr), some (.int (0 + (i : Int))), some (.ref rs'), z8'] ∧ Step p H G' ∧ G' lw = some (.lst (ws.map V.int)) ∧ RatAt G' pp' pl' ∧ Sz (80 + 10 * (i + 1)) pl' ∧ G' lr = some (.lst us) ∧ BallsAt G' us bs ∧
      RatAt G' rs' sp' ∧ Sz (5 + 8 * (i + 1)) sp' ∧ ∀ wt cs c, bs = cs ++ [c] → lexR c ⟨pl', sp', wt⟩) ?_ ?_
    · rintro σ' G5 ⟨pp', pl', rs', sp', z8', rfl, T5, hw5, hpp5, zpl5, hlr5, hB5, hrs5, zsp5, hlex⟩
      obtain ⟨wt, ewt⟩ : ∃ wt, ws[i]? = some wt := ⟨_, List.getElem?_eq_getElem (by omega)⟩
      have hwt := hwv wt (List.mem_of_getElem? ewt)
      have ewv : (ws.map V.int)[i]? = some (.int wt) := by rw [List.getElem?_map, ewt]; rfl
      have eat : atI (ws.map V.int) (0 + (i : Int)) = some (.int wt) := by rw [Int.zero_add]; exact atI_nat ewv
      refine ⟨_, rfl, .inl ⟨rfl, _, SqL.of hlr5⟩, _, rfl, _, rfl, _, rfl, _, rfl, lw, _, _, _, rfl, rfl, .of hw5, eat, by show 3 ≤ sizeLine; decide, fun t ht => ?_⟩
      refine ⟨lr, us, _, rfl, rfl, Same.upd ht _ _ hlr5, small1000 (by rw [hB.length]; omega), ?_⟩
      have Tt : TupS G5 (upd (upd G5 t (.tup [.ref pp', .ref rs', .int wt])) lr (.lst (us ++ [.ref t]))) := (TupS.of (Same.upd ht)).trans (.upd (Same.upd ht _ _ hlr5))
      refine ⟨pp', pl', us ++ [.ref t], bs ++ [⟨pl', sp', wt⟩], _, _, _, rfl, (T5.same (Same.upd ht)).put hrH hrp _, ?_, Tt _ _ hpp5, zpl5, upd_same, ?_, by simp [hbl], hGo.snoc hwt ⟨zpl5.mono (by omega), zsp5.mono (by omega)⟩ (hlex wt), ?_⟩
      · rw [upd_ne hlwr]; exact Same.upd ht _ _ hw5
      · exact BallsAt.append (.one (b := ⟨pl', sp', wt⟩) (TupS.upd (Same.upd ht _ _ hlr5) _ _ upd_same) (Tt _ _ hpp5) (Tt _ _ hrs5)) (hB5.mono Tt)
      · intro cs c e
        have e2 := List.append_inj_right' e rfl
        have : c = ⟨pl', sp', wt⟩ := by injection e2 with e3; exact e3.symm
        subst this
        exact ⟨rfl, zsp5⟩
    · intro nx hnx
      refine ⟨_, rfl, _, _, rfl, rfl, _, rfl, ite2 (fun h => ?_) (fun h => ?_)⟩
      · have hi0 : 0 < i := by have z : (0 : Int) < 0 + (i : Int) := of_decide_eq_true h
                               omega
        obtain ⟨cs, c, hcs⟩ : ∃ cs c, bs = cs ++ [c] := by
          rcases List.eq_nil_or_concat bs with e | ⟨cs, c, e⟩
          · rw [e] at hbl; simp at hbl; omega
          · exact ⟨cs, c, by simpa using e⟩
        obtain ⟨hcpl, zc⟩ := hlast cs c hcs
        have hB' := hB
        rw [hcs] at hB'
        obtain ⟨us0, la, lp, lq, eus, hla, hlp, hlq⟩ := hB'.last
        have elast : atI us (-1) = some (.ref la) := by rw [eus]; exact atI_last _ _
        -- gap, place
        refine ⟨_, rfl, p, rfl, T4.pool, fun rg ga G5 t5 hrg zga gnn => ?_⟩
        have Tu5 := step_tups T4.pool t5
        refine ⟨_, rfl, _, rfl, pp, rg, pl, ga, rfl, Tu5 _ _ (Tu4 _ _ hppG), hrg, ⟨zplG.mono (by omega), zga.mono (by decide)⟩, fun pp' G6 e6 hpp' => ?_⟩
        have T6 := (T4.trans t5).same e6
        have Tu6 : TupS G G6 := (Tu4.trans Tu5).trans (.of e6)
        have hw6 := e6 _ _ (t5.keep _ _ (t4.keep _ _ hwG hlwp) hlwp)
        have hlr6 := e6 _ _ (t5.keep _ _ (t4.keep _ _ hlrG hrp) hrp)
        have hrs6 : RatAt G6 rs sp := e6 _ _ (Tu5 _ _ hrs)
        have zpl' : Sz (80 + 10 * (i + 1)) (pl + ga) := (zplG.add zga).mono (by omega)
        have hrg6 : RatAt G6 rg ga := e6 _ _ hrg
        dsimp only [gName]
        refine st_mid (fun σ' G' => ∃ rs' sp', σ' = [some (.ref p), some (.int mo), some (.int (n : Int)), some (.ref lw), some (.ref pp'), some (.ref lr), some (.int (0 + (i : Int))), some (.ref rs'), some (.ref rg)] ∧ Step p H G' ∧ G' lw = some (.lst (ws.map V.int)) ∧ TupS G6 G' ∧ G' lr = some (.lst us) ∧ RatAt G' rs' sp' ∧ Sz (5 + 8 * i) sp') ?_ ?_
        · rintro σ' G7 ⟨rs', sp', rfl, T7, hw7, Tu7, hlr7, hrs7, zs7⟩
          have hrg7 := Tu7 _ _ hrg6
          have hla7 := Tu7 _ _ (Tu6 _ _ hla)
          have hlq7 : RatAt G7 lq c.sp := Tu7 _ _ (Tu6 _ _ hlq)
          refine ⟨_, rfl, by show 2 ≤ sizeLine; decide, fun tz htz => ?_⟩
          refine ⟨_, _, RatAt.rd (Same.upd htz _ _ hrg7), .tup upd_same (.cons (.int 0) (.cons (.int 1) .nil)), shaped_rp _, rfl, _, rfl, ?_⟩
          rw [eqv0]
          have Tu8 : TupS G7 (upd G7 tz (.tup [.int 0, .int 1])) := .of (Same.upd htz)
          have T8 := T7.same (Same.upd (o := .tup [.int 0, .int 1]) htz)
          have hw8 := Same.upd (o := .tup [.int 0, .int 1]) htz _ _ hw7
          have hlr8 := Same.upd (o := .tup [.int 0, .int 1]) htz _ _ hlr7
          generalize upd G7 tz (.tup [.int 0, .int 1]) = G8 at *
          have hla8 := Tu8 _ _ hla7
          have hpp8 : RatAt G8 pp' (pl + ga) := Tu8 _ _ (Tu7 _ _ hpp')
          have hB8 : BallsAt G8 us bs := hB.mono (Tu6.trans (Tu7.trans Tu8))
          have out : ∀ rs'' sp'' G', Step p H G' → G' lw = some (.lst (ws.map V.int)) → TupS G8 G' → G' lr = some (.lst us) → RatAt G' rs'' sp'' → Sz (5 + 8 * (i + 1)) sp'' → (ga = 0 → c.sp < sp'') → nx [some (.ref p), some (.int mo), some (.int (n : Int)), some (.ref lw), some (.ref pp'), some (.ref lr), some (.int (0 + (i : Int))), some (.ref rs''), some (.ref rg)] G' := fun rs'' sp'' G' T' hw' Tu' hlr' hrs' zs' hx =>
            hnx _ _ ⟨pp', pl + ga, rs'', sp'', _, rfl, T', hw', Tu' _ _ hpp8, zpl', hlr', hB8.mono Tu', hrs', zs', fun wt cs' c' e => by
              have : c' = c := by
                rw [hcs] at e
                have := List.append_inj_right' e rfl
                injection this with e3; exact e3.symm
              subst this
              by_cases hg : ga = 0
              · exact .inr ⟨by show c'.pl = pl + ga; rw [hcpl, hg]; grind, hx hg⟩
              · exact .inl (by show c'.pl < pl + ga; rw [hcpl]; grind)⟩
          by_cases hg : ga = 0
          · rw [decide_eq_true hg]
            refine iteT ⟨_, rfl, _, rfl, lr, _, _, _, rfl, rfl, .of hlr8, elast, la, _, _, _, rfl, rfl, .of hla8, rfl, _, rfl, lq, rs', c.sp, sp', rfl, Tu8 _ _ hlq7, Tu8 _ _ hrs7, ⟨zc.mono (by omega), zs7.mono (by omega)⟩, _, rfl, ?_⟩
            by_cases hlt : c.sp < sp'
            · rw [decide_eq_true hlt]
              exact iteF (out rs' sp' G8 T8 hw8 (.of (Same.refl _)) hlr8 (Tu8 _ _ hrs7) (zs7.mono (by omega)) fun _ => hlt)
            · rw [decide_eq_false hlt]
              refine iteT ⟨_, rfl, _, rfl, lr, _, _, _, rfl, rfl, .of hlr8, elast, la, _, _, _, rfl, rfl, .of hla8, rfl, ?_⟩
              refine ⟨_, rfl, p, _, rfl, by decide, by decide, T8.pool, fun d9 G9 a9 b9 t9 => ⟨_, _, rfl, rfl, by show 2 ≤ sizeLine; decide, fun ta hta => ?_⟩⟩
              have Tu9 := step_tups T8.pool t9
              have hone : RatAt (upd G9 ta (.tup [.int (1 + d9), .int 1])) ta ((1 + d9 : Int) : Rat) := by
                show upd G9 ta (.tup [.int (1 + d9), .int 1]) ta = some (.tup (rp ((1 + d9 : Int) : Rat)))
                rw [upd_same]; unfold rp; rw [KM.int_num, KM.int_den]; rfl
              have zone : Sz 4 ((1 + d9 : Int) : Rat) := .int (bdn (by omega) (by omega)) (by decide)
              refine ⟨lq, ta, c.sp, _, rfl, Same.upd hta _ _ (Tu9 _ _ (Tu8 _ _ hlq7)), hone, ⟨zc.mono (by omega), zone.mono (by decide)⟩, fun rn GA eA hrn => ?_⟩
              refine out rn _ GA (((T8.trans t9).same (Same.upd hta)).same eA) (eA _ _ (Same.upd hta _ _ (t9.keep _ _ hw8 hlwp))) ((Tu9.trans (.of (Same.upd hta))).trans (.of eA)) (eA _ _ (Same.upd hta _ _ (t9.keep _ _ hlr8 hrp))) hrn ((zc.add zone).mono (by omega)) fun _ => ?_
              have : (0 : Rat) < ((1 + d9 : Int) : Rat) := Rat.intCast_pos.mpr (by omega)
              show c.sp < c.sp + ((1 + d9 : Int) : Rat)
              grind
          · rw [decide_eq_false hg]
            exact iteF (iteF (out rs' sp' G8 T8 hw8 (.of (Same.refl _)) hlr8 (Tu8 _ _ hrs7) (zs7.mono (by omega)) fun z => absurd z hg))
        · intro nx2 hnx2
          refine ⟨_, rfl, p, _, rfl, by decide, by decide, T6.pool, fun d7 G7 a7 b7 t7 => ⟨rfl, _, rfl, ite2 (fun h => ?_) (fun h => ?_)⟩⟩
          · have Tu7 := step_tups T6.pool t7
            have hlr7 := t7.keep _ _ hlr6 hrp
            have hlaZ := Tu7 _ _ (Tu6 _ _ hla)
            exact ⟨_, rfl, _, rfl, lr, _, _, _, rfl, rfl, .of hlr7, elast, la, _, _, _, rfl, rfl, .of hlaZ, rfl, hnx2 _ _ ⟨lq, c.sp, rfl, T6.trans t7, t7.keep _ _ hw6 hlwp, Tu7, hlr7, Tu7 _ _ (Tu6 _ _ hlq), zc⟩⟩
          · have Tu7 := step_tups T6.pool t7
            exact hnx2 _ _ ⟨rs, sp, rfl, T6.trans t7, t7.keep _ _ hw6 hlwp, Tu7, t7.keep _ _ hlr6 hrp, Tu7 _ _ hrs6, zsp.mono (by omega)⟩
      · have hi0 : i = 0 := by
          rcases Nat.eq_zero_or_pos i with z | z
          · exact z
          · exact absurd (decide_eq_true (show (0 : Int) < 0 + (i : Int) by omega)) h
        exact hnx _ _ ⟨pp, pl, rs, sp, _, rfl, T4, t4.keep _ _ hwG hlwp, Tu4 _ _ hppG, zplG.mono (by omega), t4.keep _ _ hlrG hrp, hB.mono Tu4, hrs, zsp.mono (by omega), fun wt cs c e => by
          rw [e] at hbl; simp at hbl; omega⟩
  · rintro σ G ⟨pp, pl, us, bs, z6, z7, z8, rfl, TG, hwG, hppG, zplG, hlrG, hB, hbl, hGo, hlast⟩
    refine ⟨_, rfl, lr, us, rfl, .inl ⟨.of hlrG, fun r hr' => k r us bs _ (TG.same (Same.upd hr')) upd_same (hB.same (Same.upd hr')) hGo (by omega) (by omega)⟩⟩
end
end KK
end
section
set_option maxHeartbeats 8000000
set_option Elab.async false
set_option linter.all false
set_option maxRecDepth 100000
namespace KK
open PySem L2 KM
theorem rp_sd {sd : Int} (h : sd = 1 ∨ sd = -1) : rp (sd : Rat) = [.int sd, .int 1] := by unfold rp; rw [KM.int_num, KM.int_den]; rfl
theorem sz_sd {sd : Int} (h : sd = 1 ∨ sd = -1) : Sz 2 (sd : Rat) := .int (by rcases h with rfl | rfl <;> (show (_ : Int).natAbs < 2 ^ 2; decide)) (by decide)
section
variable {P : Program} {w : World} {K : PySem.W.Frag} {mg : Str → Option Value} {base : Heap}
def spBo : Sp := fun vs H Q _ => ∃ (p a bp bq : Addr) (b : Ball) (sd : Int), vs = [.ref p, .ref a, .int sd] ∧ (sd = 1 ∨ sd = -1) ∧ H a = some (.tup [.ref bp, .ref bq, .int b.wt]) ∧ RatAt H bp b.pl ∧ RatAt H bq b.sp ∧ Sz 300 b.pl ∧ Sz 80 b.sp ∧ Pool H p ∧ (∀ H', Step p H H' → Q .non H') ∧
  ∀ r rp rq x y H', Step p H H' → H' r = some (.tup [.ref rp, .ref rq]) → RatAt H' rp x → RatAt H' rq y → Sz 310 x → Sz 80 y → (∃ g : Rat, 0 ≤ g ∧ x = b.pl + (sd : Rat) * g ∧ (g = 0 → (sd : Rat) * b.sp ≤ (sd : Rat) * y)) → Q (.ref r) H'
theorem sc_bo : FnScope ["pool", "ball", "side", "gap", "speed"] ["pool", "ball", "side"] (defScope s_law_bound) := ⟨rfl, rfl, rfl, by decide +kernel, rfl, by decide +kernel, by decide +kernel⟩
theorem ok_bo (D : Df K mg "_law_bound" s_law_bound ["pool", "ball", "side"] []) (cN : Cal P w K mg base "_law_next" 1 ["pool", "base"] [] spNext) (cSp : Cal P w K mg base "_law_speed" 2 ["pool"] [] spSp) (cGa : Cal P w K mg base "_law_gap" 2 ["pool"] [] spGa)
    (cA : Cal P w K mg base "_law_add" 2 ["a", "b"] [] (spBin Sz2 (· + ·))) (cBy : Cal P w K mg base "_law_by" 2 ["a", "b"] [] (spBin Sz2 (· * ·))) (cBl : Cal P w K mg base "_law_below" 1 ["a", "b"] [] spLt) : Cal P w K mg base "_law_bound" 3 ["pool", "ball", "side"] [] spBo := by
  refine D.cal (k := 2) sc_bo (fun vs H Q E h => by obtain ⟨_, _, _, _, _, _, rfl, _⟩ := h; rfl) (fun f cdv A outer s H vs Q E hr2 h => ?_)
  obtain ⟨p, a, bp, bq, b, sd, rfl, hsd, ha, hbp, hbq, zb1, zb2, hP, kn, ks⟩ := h
  have hr1 : Room 1 _ := hr2.mono (by decide)
  have hu := hr2.units
  refine ⟨_, (pss_cons (ps_if (pt_cmpR op_eq (pe_c cN hr1 (pa_cons (pv 0) (pa_cons pe_int pa_nil))) pe_int (nomark _)) (pss_one (ps_ret pe_non)) pss_nil)
    (pss_cons (ps_set (i := 3) sc_bo.nd rfl (Or.inl rfl) (pe_c cGa hr2 (pa_cons (pv 0) pa_nil)))
    (pss_cons (bx_out (bx_set (i := 4) sc_bo.nd rfl (Or.inl rfl) (bx_ix ix_list (bx_lst (bx_cons (bx_tup (bx_cons (Bx.mk pe_int) (bx_cons (Bx.mk pe_int) bx_nil))) (bx_cons (bx_tup (bx_cons (Bx.mk pe_int) (bx_cons (Bx.mk pe_int) bx_nil))) (bx_cons (Bx.mk (pe_c cSp hr2 (pa_cons (pv 0) pa_nil))) bx_nil)))) (Bx.mk (pe_c cN hr1 (pa_cons (pv 0) (pa_cons pe_int pa_nil)))) (fun _ _ => rfl))))
    (pss_cons (ps_if (pw_and (pt_cmpR (op_eqD hu) (pv 3) (pe_tup (pa_cons pe_int (pa_cons pe_int pa_nil))) (nomark _)) (pw_and1 (pt_truth (pe_c cBl hr1 (pa_cons (pe_c cBy hr2 (pa_cons (pe_tup (pa_cons (pv 2) (pa_cons pe_int pa_nil))) (pa_cons (pv 4) pa_nil))) (pa_cons (pe_c cBy hr2 (pa_cons (pe_tup (pa_cons (pv 2) (pa_cons pe_int pa_nil))) (pa_cons (pe_ix ix_tup (pv 1) pe_int (fun _ _ => rfl)) pa_nil))) pa_nil))) fun _ => rfl))).pt (pss_one (ps_set (i := 4) sc_bo.nd rfl (Or.inl rfl) (pe_ix ix_tup (pv 1) pe_int (fun _ _ => rfl)))) pss_nil)
    (pss_one (ps_ret (pe_tup (pa_cons (pe_c cA hr2 (pa_cons (pe_ix ix_tup (pv 1) pe_int (fun _ _ => rfl)) (pa_cons (pe_c cBy hr2 (pa_cons (pe_tup (pa_cons (pv 2) (pa_cons pe_int pa_nil))) (pa_cons (pv 3) pa_nil))) pa_nil))) (pa_cons (pv 4) pa_nil))))))))), ?_⟩
  refine ⟨_, rfl, p, _, rfl, by decide, by decide, hP, fun d1 G1 a1 b1 t1 => ⟨rfl, _, rfl, ite2 (fun h => kn G1 t1) (fun h => ?_)⟩⟩
  have Tu1 := step_tups hP t1
  refine ⟨_, rfl, p, rfl, t1.pool, fun rg ga G2 t2 hrg zga gnn => ?_⟩
  have Tu2 := step_tups t1.pool t2
  have T2 := t1.trans t2
  -- speed
  refine ⟨by show 2 ≤ sizeLine; decide, fun q1 h1 => ?_⟩
  refine ⟨by show 2 ≤ sizeLine; decide, fun q2 h2 => ?_⟩
  have T2' := T2.same ((Same.upd (o := .tup [.int 0, .int 1]) h1).trans (Same.upd (o := .tup [.int 0, .int 1]) h2))
  refine ⟨_, rfl, p, rfl, T2'.pool, fun r3 x3 G3 t3 hr3 z3 => ?_⟩
  have Tu3 : TupS G2 G3 := (TupS.of ((Same.upd (o := .tup [.int 0, .int 1]) h1).trans (Same.upd (o := .tup [.int 0, .int 1]) h2))).trans (step_tups T2'.pool t3)
  have g1 : RatAt G3 q1 0 := step_tups T2'.pool t3 _ _ (Same.upd h2 _ _ upd_same)
  have g2 : RatAt G3 q2 0 := step_tups T2'.pool t3 _ _ upd_same
  have T3 := T2'.trans t3
  refine ⟨by show 3 ≤ sizeLine; decide, fun l3 hl3 => ?_⟩
  refine ⟨_, rfl, p, _, rfl, by decide, by decide, T3.pool.new hl3, fun d4 G4 a4 b4 t4 => ?_⟩
  have Tu4 : TupS G3 G4 := (TupS.of (Same.upd hl3)).trans (step_tups (T3.pool.new hl3) t4)
  have T4 : Step p H G4 := T3.trans (t4.pre (Same.upd hl3))
  obtain ⟨rs, sp, ers, hrs, zsp⟩ : ∃ rs sp, atI [V.ref q1, .ref q2, .ref r3] d4 = some (.ref rs) ∧ RatAt G3 rs sp ∧ Sz 5 sp := by
    have zz : Sz 5 (0 : Rat) := ⟨show (0 : Int).natAbs < 2 ^ 5 by decide, show (1 : Int).natAbs < 2 ^ 5 by decide⟩
    have : d4 = 0 ∨ d4 = 1 ∨ d4 = 2 := by omega
    rcases this with rfl | rfl | rfl
    · exact ⟨q1, 0, rfl, g1, zz⟩
    · exact ⟨q2, 0, rfl, g2, zz⟩
    · exact ⟨r3, x3, rfl, hr3, z3⟩
  refine ⟨l3, _, _, _, rfl, rfl, .of (t4.keep l3 _ upd_same (T3.pool.ne hl3)), ers, ?_⟩
  have TuH : TupS H G4 := ((Tu1.trans Tu2).trans Tu3).trans Tu4
  have ha4 := TuH _ _ ha
  have hbp4 : RatAt G4 bp b.pl := TuH _ _ hbp
  have hbq4 : RatAt G4 bq b.sp := TuH _ _ hbq
  have hrg4 : RatAt G4 rg ga := Tu4 _ _ (Tu3 _ _ hrg)
  have hrs4 : RatAt G4 rs sp := Tu4 _ _ hrs
  dsimp only [gName]
  refine st_mid (fun σ' G' => ∃ rs' sp', σ' = [some (.ref p), some (.ref a), some (.int sd), some (.ref rg), some (.ref rs')] ∧ Step p H G' ∧ TupS G4 G' ∧ RatAt G' rs' sp' ∧ Sz 80 sp' ∧ (ga = 0 → (sd : Rat) * b.sp ≤ (sd : Rat) * sp')) ?_ ?_
  · rintro σ' G5 ⟨rs', sp', rfl, T5, Tu5, hrs5, zs5, hle⟩
    have ha5 := Tu5 _ _ ha4
    refine ⟨_, rfl, a, _, _, _, rfl, rfl, .of ha5, rfl, _, rfl, by show 2 ≤ sizeLine; decide, fun ts hts => ?_⟩
    have hsd5 : RatAt (upd G5 ts (.tup [.int sd, .int 1])) ts (sd : Rat) := by unfold RatAt; rw [rp_sd hsd]; exact upd_same
    refine ⟨_, rfl, ts, rg, _, _, rfl, hsd5, Same.upd hts _ _ (Tu5 _ _ hrg4), ⟨(sz_sd hsd).mono (by decide), zga.mono (by decide)⟩, fun rm G6 e6 hrm => ?_⟩
    have S6 : Same G5 G6 := (Same.upd hts).trans e6
    refine ⟨bp, rm, _, _, rfl, S6 _ _ (Tu5 _ _ hbp4), hrm, ⟨zb1.mono (by decide), ((sz_sd hsd).mul zga).mono (by decide)⟩, fun rw' G7 e7 hrw => ?_⟩
    refine ⟨_, rfl, by show 2 ≤ sizeLine; decide, fun rr hrr => ?_⟩
    have S7 := S6.trans e7
    exact ks rr rw' rs' _ sp' _ ((T5.same S7).same (Same.upd hrr)) upd_same (Same.upd hrr _ _ hrw) (Same.upd hrr _ _ (S7 _ _ hrs5)) ((zb1.add ((sz_sd hsd).mul zga)).mono (by decide)) zs5 ⟨ga, gnn, rfl, hle⟩
  · intro nx hnx
    refine ⟨_, rfl, by show 2 ≤ sizeLine; decide, fun tz htz => ?_⟩
    refine ⟨_, _, RatAt.rd (Same.upd htz _ _ hrg4), .tup upd_same (.cons (.int 0) (.cons (.int 1) .nil)), shaped_rp _, rfl, _, rfl, ?_⟩
    rw [eqv0]
    have S5 : Same G4 (upd G4 tz (.tup [.int 0, .int 1])) := Same.upd htz
    have T5 := T4.same S5
    generalize upd G4 tz (.tup [.int 0, .int 1]) = G5 at *
    have ha5 := S5 _ _ ha4
    by_cases hg : ga = 0
    · rw [decide_eq_true hg]
      refine iteT ⟨_, rfl, by show 2 ≤ sizeLine; decide, fun s1 hs1 => ?_⟩
      have hsd1 : RatAt (upd G5 s1 (.tup [.int sd, .int 1])) s1 (sd : Rat) := by unfold RatAt; rw [rp_sd hsd]; exact upd_same
      refine ⟨_, rfl, s1, rs, _, _, rfl, hsd1, Same.upd hs1 _ _ (S5 _ _ hrs4), ⟨(sz_sd hsd).mono (by decide), zsp.mono (by decide)⟩, fun m1 G6 e6 hm1 => ?_⟩
      have S6 : Same G5 G6 := (Same.upd hs1).trans e6
      refine ⟨_, rfl, by show 2 ≤ sizeLine; decide, fun s2 hs2 => ?_⟩
      have hsd2 : RatAt (upd G6 s2 (.tup [.int sd, .int 1])) s2 (sd : Rat) := by unfold RatAt; rw [rp_sd hsd]; exact upd_same
      have ha6 := Same.upd (o := .tup [.int sd, .int 1]) hs2 _ _ (S6 _ _ ha5)
      refine ⟨_, rfl, a, _, _, _, rfl, rfl, .of ha6, rfl, s2, bq, _, _, rfl, hsd2, Same.upd hs2 _ _ (S6 _ _ (S5 _ _ hbq4)), ⟨(sz_sd hsd).mono (by decide), zb2.mono (by decide)⟩, fun m2 G7 e7 hm2 => ?_⟩
      have S7 : Same G6 G7 := (Same.upd hs2).trans e7
      refine ⟨m1, m2, _, _, rfl, S7 _ _ hm1, hm2, ⟨((sz_sd hsd).mul zsp).mono (by decide), ((sz_sd hsd).mul zb2).mono (by decide)⟩, _, rfl, ?_⟩
      have S47 : Same G4 G7 := S5.trans (S6.trans S7)
      have T7 := (T5.same S6).same S7
      by_cases hlt : (sd : Rat) * sp < (sd : Rat) * b.sp
      · rw [decide_eq_true hlt]
        have ha7 := S47 _ _ ha4
        exact iteT ⟨_, rfl, a, _, _, _, rfl, rfl, .of ha7, rfl, hnx _ _ ⟨bq, b.sp, rfl, T7, .of S47, S47 _ _ hbq4, zb2, fun _ => Rat.le_refl⟩⟩
      · rw [decide_eq_false hlt]
        exact iteF (hnx _ _ ⟨rs, sp, rfl, T7, .of S47, S47 _ _ hrs4, zsp.mono (by decide), fun _ => Rat.not_lt.mp hlt⟩)
    · rw [decide_eq_false hg]
      exact iteF (iteF (hnx _ _ ⟨rs, sp, rfl, T5, .of S5, S5 _ _ hrs4, zsp.mono (by decide), fun z => absurd z hg⟩))
end
end KK
end
section
set_option maxHeartbeats 8000000
set_option Elab.async false
set_option linter.all false
set_option maxRecDepth 100000
namespace KK
open PySem L2 KM
abbrev Wl := Option (Rat × Rat)
def WallAt (H : Hp) (v : V) : Wl → Prop
  | none => v = .non
  | some (x, y) => ∃ a p q, v = .ref a ∧ H a = some (.tup [.ref p, .ref q]) ∧ RatAt H p x ∧ RatAt H q y
theorem WallAt.tups {H H' : Hp} {v : V} {l : Wl} (h : WallAt H v l) (e : TupS H H') : WallAt H' v l := by
  cases l with
  | none => exact h
  | some z => obtain ⟨x, y⟩ := z; obtain ⟨a, p, q, e1, e2, e3, e4⟩ := h; exact ⟨a, p, q, e1, e _ _ e2, e _ _ e3, e _ _ e4⟩
structure Box (bs : List Ball) (l1 l2 : Wl) : Prop where
  z1 : ∀ x y, l1 = some (x, y) → Sz 320 x ∧ Sz 80 y
  z2 : ∀ x y, l2 = some (x, y) → Sz 320 x ∧ Sz 80 y
  lo : ∀ x y b, l1 = some (x, y) → bs[0]? = some b → x ≤ b.pl ∧ (x = b.pl → y ≤ b.sp)
  hi : ∀ x y cs b, l2 = some (x, y) → bs = cs ++ [b] → b.pl ≤ x ∧ (x = b.pl → b.sp ≤ y)
  lt : ∀ x y x' y', l1 = some (x, y) → l2 = some (x', y') → x < x'
section
variable {P : Program} {w : World} {K : PySem.W.Frag} {mg : Str → Option Value} {base : Heap}
def spBx : Sp := fun vs H Q _ => ∃ (p r : Addr) (us : List V) (bs : List Ball), vs = [.ref p, .ref r] ∧ H r = some (.tup us) ∧ BallsAt H us bs ∧ Good bs ∧ 1 ≤ bs.length ∧ Pool H p ∧ ∀ t v1 v2 l1 l2 H', Step p H H' → H' t = some (.tup [v1, v2]) → WallAt H' v1 l1 → WallAt H' v2 l2 → Box bs l1 l2 → Q (.ref t) H'
theorem sc_bx : FnScope ["pool", "row", "low", "high"] ["pool", "row"] (defScope s_law_box) := ⟨rfl, rfl, rfl, by decide +kernel, rfl, by decide +kernel, by decide +kernel⟩
theorem ok_bx (D : Df K mg "_law_box" s_law_box ["pool", "row"] []) (cBo : Cal P w K mg base "_law_bound" 3 ["pool", "ball", "side"] [] spBo) (cA : Cal P w K mg base "_law_add" 2 ["a", "b"] [] (spBin Sz2 (· + ·))) : Cal P w K mg base "_law_box" 4 ["pool", "row"] [] spBx := by
  refine D.cal (k := 3) sc_bx (fun vs H Q E h => by obtain ⟨_, _, _, _, rfl, _⟩ := h; rfl) (fun f cdv A outer s H vs Q E hr h => ?_)
  obtain ⟨p, r, us, bs, rfl, hr', hB, hG, hne, hP, k⟩ := h
  have hr2 : Room 2 _ := hr.mono (by decide)
  have hu := hr.units
  obtain ⟨b0, e0⟩ : ∃ b0, bs[0]? = some b0 := ⟨_, List.getElem?_eq_getElem (by omega)⟩
  have hul := hB.length
  obtain ⟨v0, ev0⟩ : ∃ v0, us[0]? = some v0 := ⟨_, List.getElem?_eq_getElem (by omega)⟩
  obtain ⟨a0, p0, q0, b0', e0', rfl, ha0, hp0, hq0⟩ := hB.get ev0
  rw [e0] at e0'; cases e0'
  obtain ⟨cs, bl, ebl⟩ : ∃ cs c, bs = cs ++ [c] := by
    rcases List.eq_nil_or_concat bs with e | ⟨cs, c, e⟩
    · rw [e] at hne; simp at hne
    · exact ⟨cs, c, by simpa using e⟩
  have hB' := hB
  rw [ebl] at hB'
  obtain ⟨us0, la, lp, lq, eus, hla, hlp, hlq⟩ := hB'.last
  have elast : atI us (-1) = some (.ref la) := by rw [eus]; exact atI_last _ _
  have m0 : b0 ∈ bs := List.mem_of_getElem? e0
  have ml : bl ∈ bs := by rw [ebl]; simp
  have first : b0.pl ≤ bl.pl := by
    have hpw := hG.pw
    rcases Nat.eq_zero_or_pos cs.length with z | z
    · have : cs = [] := List.length_eq_zero_iff.mp z
      rw [ebl, this] at e0; cases e0; exact Rat.le_refl
    · rw [ebl] at e0 hpw
      rw [List.getElem?_append_left z] at e0
      have := (List.pairwise_append.mp hpw).2.2 b0 (List.mem_of_getElem? e0) bl (by simp)
      rcases this with h | h
      · exact Rat.le_of_lt h
      · rw [h.1]; exact Rat.le_refl
  refine ⟨_, (pss_cons (ps_set (i := 2) sc_bx.nd rfl (Or.inl rfl) (pe_c cBo hr (pa_cons (pv 0) (pa_cons (pe_ix ix_tup (pv 1) pe_int (fun _ _ => rfl)) (pa_cons (pe_un un_neg pe_int) pa_nil)))))
    (pss_cons (ps_set (i := 3) sc_bx.nd rfl (Or.inl rfl) (pe_c cBo hr (pa_cons (pv 0) (pa_cons (pe_ix ix_tup (pv 1) (pe_un un_neg pe_int) (fun _ _ => rfl)) (pa_cons pe_int pa_nil)))))
    (pss_cons (ps_if (pw_and (pt_cmpR op_notN (pv 2) pe_non (nomark _)) (pw_and (pt_cmpR op_notN (pv 3) pe_non (nomark _)) (pw_and1 (pt_cmpR (op_eqD hu) (pe_ix ix_tup (pv 2) pe_int (fun _ _ => rfl)) (pe_ix ix_tup (pv 3) pe_int (fun _ _ => rfl)) (nomark _))))).pt (pss_one (ps_set (i := 3) sc_bx.nd rfl (Or.inl rfl) (pe_tup (pa_cons (pe_c cA hr2 (pa_cons (pe_ix ix_tup (pv 3) pe_int (fun _ _ => rfl)) (pa_cons (pe_tup (pa_cons pe_int (pa_cons pe_int pa_nil))) pa_nil))) (pa_cons (pe_ix ix_tup (pv 3) pe_int (fun _ _ => rfl)) pa_nil))))) pss_nil)
    (pss_one (ps_ret (pe_tup (pa_cons (pv 2) (pa_cons (pv 3) pa_nil)))))))), ?_⟩
  -- from low on
  have rest : ∀ (G : Hp) (v1 : V) (l1 : Wl), Step p H G → WallAt G v1 l1 → (∀ x y, l1 = some (x, y) → Sz 310 x ∧ Sz 80 y ∧ x ≤ b0.pl ∧ (x = b0.pl → y ≤ b0.sp)) → ∀ (G2 : Hp) (v2 : V) (l2 : Wl), Step p G G2 → WallAt G2 v2 l2 → (∀ x y, l2 = some (x, y) → Sz 310 x ∧ Sz 80 y ∧ bl.pl ≤ x ∧ (x = bl.pl → bl.sp ≤ y)) →
      ∀ (nx : St → Hp → Prop), (∀ σ' H', (∃ v2' l2', σ' = [some (.ref p), some (.ref r), some v1, some v2'] ∧ Step p H H' ∧ WallAt H' v1 l1 ∧ WallAt H' v2' l2' ∧ Box bs l1 l2') → nx σ' H') → True := fun _ _ _ _ _ _ _ _ _ _ _ _ _ _ => trivial
  clear rest
  refine st_mid (fun σ' G => ∃ v1 l1, σ' = [some (.ref p), some (.ref r), some v1, none] ∧ Step p H G ∧ WallAt G v1 l1 ∧ ∀ x y, l1 = some (x, y) → Sz 310 x ∧ Sz 80 y ∧ x ≤ b0.pl ∧ (x = b0.pl → y ≤ b0.sp)) ?_ ?_
  · rintro σ' G1 ⟨v1, l1, rfl, T1, hW1, F1⟩
    have Tu1 := step_tups hP T1
    refine st_mid (fun σ' G => ∃ v2 l2, σ' = [some (.ref p), some (.ref r), some v1, some v2] ∧ Step p H G ∧ WallAt G v1 l1 ∧ WallAt G v2 l2 ∧ ∀ x y, l2 = some (x, y) → Sz 310 x ∧ Sz 80 y ∧ bl.pl ≤ x ∧ (x = bl.pl → bl.sp ≤ y)) ?_ ?_
    · rintro σ' G2 ⟨v2, l2, rfl, T2, hW12, hW2, F2⟩
      refine st_mid (fun σ' G => ∃ v2' l2', σ' = [some (.ref p), some (.ref r), some v1, some v2'] ∧ Step p H G ∧ WallAt G v1 l1 ∧ WallAt G v2' l2' ∧ Box bs l1 l2') ?_ ?_
      · rintro σ' G3 ⟨v2', l2', rfl, T3, h1, h2, hBx⟩
        exact ⟨_, rfl, _, rfl, by show 2 ≤ sizeLine; decide, fun t ht => k t v1 v2' l1 l2' _ (T3.same (Same.upd ht)) upd_same (h1.tups (.of (Same.upd ht))) (h2.tups (.of (Same.upd ht))) hBx⟩
      · intro nx hnx
        have ob : ∀ b, bs[0]? = some b → b = b0 := fun b e => by rw [e0] at e; cases e; rfl
        have oc : ∀ cs' b, bs = cs' ++ [b] → b = bl := fun cs' b e => by
          rw [ebl] at e
          have := List.append_inj_right' e rfl
          injection this with e3; exact e3.symm
        cases l1 with
        | none =>
          obtain rfl : v1 = .non := hW12
          refine ⟨_, rfl, rfl, _, rfl, iteF (iteF (hnx _ _ ⟨v2, l2, rfl, T2, rfl, hW2, ⟨fun _ _ z => by (cases z), fun x y z => ⟨(F2 x y z).1.mono (by decide), (F2 x y z).2.1⟩, fun _ _ _ z => by (cases z), fun x y cs' b z e => by rw [oc cs' b e]; exact (F2 x y z).2.2, fun _ _ _ _ z => by (cases z)⟩⟩))⟩
        | some w1 =>
          obtain ⟨x1, y1⟩ := w1
          have f1 := F1 x1 y1 rfl
          obtain ⟨aw1, pw1, qw1, rfl, g1, g2, g3⟩ := hW12
          refine ⟨_, rfl, rfl, _, rfl, iteT ?_⟩
          cases l2 with
          | none =>
            obtain rfl : v2 = .non := hW2
            exact ⟨_, rfl, rfl, _, rfl, iteF (iteF (hnx _ _ ⟨.non, none, rfl, T2, ⟨aw1, pw1, qw1, rfl, g1, g2, g3⟩, rfl, ⟨fun x y z => by (cases z; exact ⟨f1.1.mono (by decide), f1.2.1⟩), fun _ _ z => by (cases z), fun x y b z e => by (cases z; rw [ob b e]; exact f1.2.2), fun _ _ _ _ z => by (cases z), fun _ _ _ _ _ z => by (cases z)⟩⟩))⟩
          | some w2 =>
            obtain ⟨x2, y2⟩ := w2
            have f2 := F2 x2 y2 rfl
            obtain ⟨aw2, pw2, qw2, rfl, i1, i2, i3⟩ := hW2
            refine ⟨_, rfl, rfl, _, rfl, iteT ?_⟩
            refine ⟨_, rfl, aw1, _, _, _, rfl, rfl, .of g1, rfl, _, rfl, aw2, _, _, _, rfl, rfl, .of i1, rfl, _, _, g2.rd, i2.rd, shaped_rp _, shaped_rp _, _, rfl, ?_⟩
            rw [eqv_rp]
            by_cases he : x1 = x2
            · rw [decide_eq_true he]
              refine iteT ⟨_, rfl, aw2, _, _, _, rfl, rfl, .of i1, rfl, by show 2 ≤ sizeLine; decide, fun to hto => ?_⟩
              have hone : RatAt (upd G2 to (.tup [.int 1, .int 1])) to 1 := upd_same
              have i1' := Same.upd (o := .tup [.int 1, .int 1]) hto _ _ i1
              refine ⟨pw2, to, x2, 1, rfl, Same.upd hto _ _ i2, hone, ⟨f2.1.mono (by decide), ⟨show (1 : Int).natAbs < 2 ^ 4000 by exact Bd.mono (m := 1) (show (1 : Int).natAbs < 2 ^ 1 by decide) (by decide), show (1 : Int).natAbs < 2 ^ 4000 by exact Bd.mono (m := 1) (show (1 : Int).natAbs < 2 ^ 1 by decide) (by decide)⟩⟩, fun rn G3 e3 hrn => ?_⟩
              have S3 : Same G2 G3 := (Same.upd hto).trans e3
              have i13 := S3 _ _ i1
              refine ⟨_, rfl, aw2, _, _, _, rfl, rfl, .of i13, rfl, by show 2 ≤ sizeLine; decide, fun tn htn => ?_⟩
              have S4 : Same G2 (upd G3 tn (.tup [.ref rn, .ref qw2])) := S3.trans (Same.upd htn)
              have z1' : Sz 1 (1 : Rat) := ⟨show (1 : Int).natAbs < 2 ^ 1 by decide, show (1 : Int).natAbs < 2 ^ 1 by decide⟩
              refine hnx _ _ ⟨.ref tn, some (x2 + 1, y2), rfl, T2.same S4, ⟨aw1, pw1, qw1, rfl, S4 _ _ g1, S4 _ _ g2, S4 _ _ g3⟩, ⟨tn, rn, qw2, rfl, upd_same, Same.upd htn _ _ hrn, S4 _ _ i3⟩, ⟨fun x y z => by (cases z; exact ⟨f1.1.mono (by decide), f1.2.1⟩), fun x y z => by (cases z; exact ⟨(f2.1.add z1').mono (by decide), f2.2.1⟩), fun x y b z e => by (cases z; rw [ob b e]; exact f1.2.2), fun x y cs' b z e => ?_, fun x y x' y' z z' => ?_⟩⟩
              · cases z; rw [oc cs' b e]
                have := f2.2.2.1
                exact ⟨by grind, fun q => by grind⟩
              · cases z; cases z'; rw [he]; grind
            · rw [decide_eq_false he]
              refine iteF (hnx _ _ ⟨.ref aw2, some (x2, y2), rfl, T2, ⟨aw1, pw1, qw1, rfl, g1, g2, g3⟩, ⟨aw2, pw2, qw2, rfl, i1, i2, i3⟩, ⟨fun x y z => by (cases z; exact ⟨f1.1.mono (by decide), f1.2.1⟩), fun x y z => by (cases z; exact ⟨f2.1.mono (by decide), f2.2.1⟩), fun x y b z e => by (cases z; rw [ob b e]; exact f1.2.2), fun x y cs' b z e => by (cases z; rw [oc cs' b e]; exact f2.2.2), fun x y x' y' z z' => ?_⟩⟩)
              cases z; cases z'
              have := f1.2.2.1
              have := f2.2.2.1
              grind
    · intro nx hnx
      have hr1' := Tu1 _ _ hr'
      have hla1 := Tu1 _ _ hla
      refine ⟨_, rfl, _, rfl, _, rfl, r, _, _, _, rfl, rfl, .of hr1', elast, p, la, lp, lq, bl, 1, rfl, .inl rfl, hla1, Tu1 _ _ hlp, Tu1 _ _ hlq, (hG.sz bl ml).1, (hG.sz bl ml).2, T1.pool, fun G2 t2 => ?_, fun rr rp' rq x y G2 t2 h1 h2 h3 z1 z2 hx => ?_⟩
      · exact hnx _ _ ⟨.non, none, rfl, T1.trans t2, hW1.tups (step_tups T1.pool t2), rfl, fun _ _ z => by (cases z)⟩
      · refine hnx _ _ ⟨.ref rr, some (x, y), rfl, T1.trans t2, hW1.tups (step_tups T1.pool t2), ⟨rr, rp', rq, rfl, h1, h2, h3⟩, fun x' y' z => ?_⟩
        cases z
        obtain ⟨g, g0, rfl, hg⟩ := hx
        refine ⟨z1, z2, ?_, fun e => ?_⟩
        · have : ((1 : Int) : Rat) = 1 := rfl
          rw [this]; grind
        · have e1 : ((1 : Int) : Rat) = 1 := rfl
          rw [e1] at e hg
          have := hg (by grind)
          grind
  · intro nx hnx
    refine ⟨_, rfl, _, rfl, r, _, _, _, rfl, rfl, .of hr', atI_nat (j := 0) ev0, _, rfl, p, a0, p0, q0, b0, -1, rfl, .inr rfl, ha0, hp0, hq0, (hG.sz b0 m0).1, (hG.sz b0 m0).2, hP, fun G2 t2 => ?_, fun rr rp' rq x y G2 t2 h1 h2 h3 z1 z2 hx => ?_⟩
    · exact hnx _ _ ⟨.non, none, rfl, t2, rfl, fun _ _ z => by (cases z)⟩
    · refine hnx _ _ ⟨.ref rr, some (x, y), rfl, t2, ⟨rr, rp', rq, rfl, h1, h2, h3⟩, fun x' y' z => ?_⟩
      cases z
      obtain ⟨g, g0, rfl, hg⟩ := hx
      have e1 : ((-1 : Int) : Rat) = -1 := rfl
      rw [e1] at hg ⊢
      refine ⟨by rw [e1] at z1; exact z1, z2, by grind, fun e => ?_⟩
      have := hg (by grind)
      grind
end
end KK
end
section
set_option maxHeartbeats 8000000
set_option Elab.async false
set_option linter.all false
set_option maxRecDepth 100000
namespace L2
open PySem PySem.Spec PyProof.Rows
section
variable {X : Cx} {e st : Expr} {te : TE} {pos p2 : Pos}
def tRevL (K : PySem.W.Frag) (te ts : TE) : TE := fun σ H Q => te σ H fun x H1 => ts σ H1 fun y H2 => ∃ a xs, x = .ref a ∧ y = .int (-1) ∧ SqL K H2 a xs ∧ ∀ p, H2 p = none → Q (.ref p) (upd H2 p (.lst xs.reverse))
theorem pe_revL {ts : TE} (he : PE X e te) (hs : PE X st ts) : PE X (.Subscript e (.Slice none none (some st) p2) pos) (tRevL X.K te ts) := by
  intro pins s σ H Q I h
  refine Subscript_ (thn (he pins s σ H _ I h) fun v s1 ⟨x, H1, I1, r1, q1⟩ => ?_)
  refine wpAny_Slice ?_
  rw [evalPart_none]
  refine wpAny_pure (wpAny_pure ?_)
  rw [evalPart_some]
  refine thn (hs pins s1 σ H1 _ I1 q1) fun u s3 ⟨y, H3, I3, r3, q3⟩ => ?_
  obtain ⟨a, xs, rfl, rfl, hx, q⟩ := q3
  cases r1
  obtain ⟨t, rfl⟩ := r3
  have I4 : Inv X pins σ H3 { s3 with heap := s3.heap.push { cls := .type "slice", data := .fields #[.none, .none, .int (-1) t] } } := I3.kept (t' := s3.toks) fun b ob q => Heap.get?_push_of_some _ q
  obtain ⟨its, r, ht, hz⟩ := I4.list hx
  have hlen := r.length
  show wpAny (model X.prog X.w) X.A (subscriptTail e (.Slice none none (some st) p2) (.ref a) (.ref s3.heap.objs.size)) (EP X pins σ Q) X.xe { s3 with heap := s3.heap.push { cls := .type "slice", data := .fields #[.none, .none, .int (-1) t] } }
  refine tail_any (ops := [.ref a, .ref s3.heap.objs.size]) ht.isList.typeIs slot_list_getitem.lookup (wpAny_getItem_list_slice ht.isList (Heap.IsSliceOf.new ..) .none .none (.int (-1) t) (by simp) ?_ (by rw [List.size_toArray] <;> omega)) (by with_unfolding_all rfl)
  rw [PySem.W.krv_pick]
  refine ⟨.ref _, _, I4.laid (t' := s3.toks) (o := .lst xs.reverse) (fun b ob q => Heap.get?_push_of_some _ q) (Nat.le_refl _) ?_, rfl, q _ (I4.hok.fresh (Nat.le_refl _))⟩
  exact ⟨by rw [List.length_reverse]; exact hz, _, 0, r.rev, Heap.get?_push_size _ rfl⟩
end
section
variable {X : Cx}
def rInsert : V → List V → Hp → VK → Prop := fun x vs H Q => ∃ (l : Addr) (xs : List V) (i : Int) (y : V), x = .ref l ∧ vs = [.int i, y] ∧ H l = some (.lst xs) ∧ 0 ≤ i ∧ i ≤ xs.length ∧ xs.length ≤ 1000 ∧ Q .non (upd H l (.lst (xs.take i.toNat ++ y :: xs.drop i.toNat)))
theorem ins_eq (its : List Value) (i : Int) (u : Value) (h0 : 0 ≤ i) (h1 : i ≤ its.length) :
    ((its.toArray.extract 0 (if i < 0 then (i + ((its.toArray.size : Nat) : Int)).toNat else min i.toNat its.toArray.size)).push u ++ its.toArray.extract (if i < 0 then (i + ((its.toArray.size : Nat) : Int)).toNat else min i.toNat its.toArray.size)) = (its.take i.toNat ++ u :: its.drop i.toNat).toArray := by
  rw [if_neg (by omega), List.size_toArray, show min i.toNat its.length = i.toNat by omega]
  apply Array.toList_inj.mp
  simp
  exact List.take_of_length_le (by simp)
theorem mt_insert : MtM X "list.insert" rInsert := by
  intro pins s σ H x vs v us Q I rx rv h
  obtain ⟨l, xs, i, y, rfl, rfl, hH, h0, h1, hz, q⟩ := h
  cases rx
  obtain ⟨u1, u2, rfl, ⟨t, rfl⟩, ru⟩ := rv.two
  obtain ⟨z, its, n, r, hl, e⟩ := I.lstM hH
  have hf : Builtin.List.listFitsIndex i = true := fitsIndex_both (by omega) (by omega)
  have hz2 : its.toArray.size ≤ sizeLine := by rw [List.size_toArray, ← hl]; exact z
  refine call_meets F.slot_list_insert ⟨_, e, rfl⟩ F.entry_list_insert (F.args_list_insert_3 _ _ _) (AutoSeq1.list_insert_list_int_val_1 l its.toArray n i t u2 (by simp [hf]) hz2) ⟨e, ?_⟩
  refine ⟨.non, _, I.lset (its' := its.take i.toNat ++ u2 :: its.drop i.toNat) hH e (ins_eq its i u2 h0 (by omega)) ((r.take i.toNat).append (.cons ru (r.drop i.toNat))) ?_, rfl, q⟩
  have : xs.length < sizeLine := small1000 hz
  rw [List.length_append, List.length_cons, List.length_take, List.length_drop]
  omega
end
end L2
namespace KK
open PySem L2 KM
theorem for_enum {K : PySem.W.Frag} {a : Addr} {xs : List V} {g : TG} {tb : TS} {D : Ends} {σ : St} {H : Hp} (Pv : Nat → St → Hp → Prop) (h0 : Pv 0 σ H) (hl : ∀ i σ H, Pv i σ H → SqL K H a xs)
    (hs : ∀ (i : Nat) (x : V) (σ : St) (H : Hp) (T : Addr), xs[i]? = some x → Pv i σ H → H T = none → g (.ref T) σ (upd H T (.tup [.int i, x])) fun σ2 H2 => tb { D with nx := Pv (i + 1), ct := Pv (i + 1), bk := D.nx } σ2 H2)
    (hd : ∀ σ H, Pv xs.length σ H → D.nx σ H) :
    ∃ W : Nat → Nat → St → Hp → Prop, (∃ m, W 0 m σ H) ∧ ∀ i m σ H, W i m σ H →
      ((Ite K a).stop i H ∧ D.nx σ H) ∨ ((Ite K a).go i H ∧ ∃ N : St → Hp → Prop, (∀ σ' H', N σ' H' → ∃ m', m' < m ∧ W (i + 1) m' σ' H') ∧ ∀ x H', (Ite K a).yld i H x H' → g x σ H' fun σ2 H2 => tb { D with nx := N, ct := N, bk := D.nx } σ2 H2) := by
  refine ⟨fun i m σ H => m = xs.length - i ∧ i ≤ xs.length ∧ Pv i σ H, ⟨xs.length, by simp, Nat.zero_le _, h0⟩, ?_⟩
  rintro i m σ H ⟨rfl, hi, p⟩
  have q1 := hl i σ H p
  by_cases hlt : i < xs.length
  · refine .inr ⟨⟨xs, xs[i], q1, by simp⟩, Pv (i + 1), fun σ' H' p' => ⟨xs.length - (i + 1), by omega, rfl, hlt, p'⟩, fun x H' y => ?_⟩
    obtain ⟨T, u, rfl, hT, rfl, e1⟩ := y
    exact hs i u σ H T (e1 xs q1) p hT
  · have e : i = xs.length := by omega
    subst e
    exact .inl ⟨⟨xs, q1, Nat.le_refl _⟩, hd σ H p⟩
theorem Sz.sub {m n : Nat} {x y : Rat} (h : Sz m x) (k : Sz n y) : Sz (m + n + 1) (x - y) := by
  rw [Rat.sub_eq_add_neg]
  exact h.add ⟨by rw [Rat.neg_num]; exact k.1.neg, by rw [Rat.neg_den]; exact k.2⟩
def ERS (H : Hp) (n : Nat) (us : List V) : Prop := ∀ v ∈ us, ∃ r q, v = .ref r ∧ RatAt H r q ∧ Sz n q
theorem ERS.tups {H H' : Hp} {n : Nat} {us : List V} (h : ERS H n us) (e : TupS H H') : ERS H' n us := fun v m => let ⟨r, q, a, b, c⟩ := h v m; ⟨r, q, a, e _ _ b, c⟩
theorem ERS.mono {H : Hp} {n n' : Nat} {us : List V} (h : ERS H n us) (l : n ≤ n') : ERS H n' us := fun v m => let ⟨r, q, a, b, c⟩ := h v m; ⟨r, q, a, b, c.mono l⟩
theorem ERS.cons {H : Hp} {n : Nat} {us : List V} {r : Addr} {q : Rat} (h : ERS H n us) (e : RatAt H r q) (z : Sz n q) : ERS H n (.ref r :: us) := fun v m => by
  rcases List.mem_cons.mp m with rfl | m
  · exact ⟨r, q, rfl, e, z⟩
  · exact h v m
theorem ERS.snoc {H : Hp} {n : Nat} {us : List V} {r : Addr} {q : Rat} (h : ERS H n us) (e : RatAt H r q) (z : Sz n q) : ERS H n (us ++ [.ref r]) := fun v m => by
  rcases List.mem_append.mp m with m | m
  · exact h v m
  · have : v = .ref r := by simpa using m
    exact ⟨r, q, this, e, z⟩
theorem ERS.rev {H : Hp} {n : Nat} {us : List V} (h : ERS H n us) : ERS H n us.reverse := fun v m => h v (List.mem_reverse.mp m)
theorem cl_fst {a b : Str} {m n : Addr} (x : Str) (c : Addr) (e : List.lookup x [(a, m)] = some c) : List.lookup x [(a, m), (b, n)] = some c := by
  simp only [List.lookup] at e ⊢
  cases h1 : (x == a) with
  | true => rw [h1] at e; exact e
  | false => rw [h1] at e; cases e
theorem cl_snd {a b : Str} {m n : Addr} (h : a ≠ b) (x : Str) (c : Addr) (e : List.lookup x [(b, n)] = some c) : List.lookup x [(a, m), (b, n)] = some c := by
  simp only [List.lookup] at e ⊢
  cases h1 : (x == b) with
  | true =>
    cases h2 : (x == a) with
    | true => exact absurd ((eq_of_beq h2).symm.trans (eq_of_beq h1)) h
    | false => rw [h1] at e; exact e
  | false => rw [h1] at e; cases e
end KK
end
section
set_option maxHeartbeats 8000000
set_option Elab.async false
set_option linter.all false
set_option maxRecDepth 100000
namespace KK
open PySem L2 KM
structure TxW (K : PySem.W.Frag) (mg : Str → Option Value) (aN : Addr) : Prop where
  nEnum : mg "enumerate" = none
  nZip : mg "zip" = none
  mn : mg "NOUGHT" = some (.ref aN)
  kn : KPair K aN 0 1
theorem sz_q {t b : Int} {n : Nat} (h0 : -(2 ^ n) < t) (h1 : t < 2 ^ n) (b0 : 0 < b) (b1 : b < 2 ^ n) : Sz n (Rat.divInt t b) := .divInt (by omega) (bdz h0 h1) (bdn (by omega) b1)
theorem menu8b {d : Int} (h0 : 0 ≤ d) (h1 : d < 8) : ∃ v : Int, atI [V.int 2, .int 2, .int 3, .int 3, .int 4, .int 5, .int 6, .int 7] d = some (.int v) ∧ 2 ≤ v ∧ v ≤ 7 := by
  have : d = 0 ∨ d = 1 ∨ d = 2 ∨ d = 3 ∨ d = 4 ∨ d = 5 ∨ d = 6 ∨ d = 7 := by omega
  rcases this with rfl | rfl | rfl | rfl | rfl | rfl | rfl | rfl
  all_goals exact ⟨_, rfl, by decide, by decide⟩
def ZB (bs : List Ball) : Prop := ∀ b ∈ bs, Sz 300 b.pl ∧ Sz 80 b.sp ∧ 1 ≤ b.wt ∧ b.wt ≤ 1000
structure ERQ (H : Hp) (n : Nat) (us : List V) (qs : List Rat) : Prop where
  len : us.length = qs.length
  at' : ∀ (i : Nat) (v : V), us[i]? = some v → ∃ r q, v = .ref r ∧ qs[i]? = some q ∧ RatAt H r q
  sz : ∀ q ∈ qs, Sz n q
theorem ERQ.tups {H H' : Hp} {n : Nat} {us : List V} {qs : List Rat} (h : ERQ H n us qs) (e : TupS H H') : ERQ H' n us qs := ⟨h.len, fun i v f => let ⟨r, q, a, b, c⟩ := h.at' i v f; ⟨r, q, a, b, e _ _ c⟩, h.sz⟩
theorem ERQ.mono {H : Hp} {n n' : Nat} {us : List V} {qs : List Rat} (h : ERQ H n us qs) (l : n ≤ n') : ERQ H n' us qs := ⟨h.len, h.at', fun q m => (h.sz q m).mono l⟩
theorem ERQ.nil {H : Hp} {n : Nat} : ERQ H n [] [] := ⟨rfl, fun i v e => by simp at e, fun q m => by cases m⟩
theorem ERQ.cons {H : Hp} {n : Nat} {us : List V} {qs : List Rat} {r : Addr} {q : Rat} (h : ERQ H n us qs) (hr : RatAt H r q) (z : Sz n q) : ERQ H n (.ref r :: us) (q :: qs) := by
  refine ⟨by simp [h.len], fun i v e => ?_, fun x m => ?_⟩
  · match i, e with
    | 0, e => cases e; exact ⟨r, q, rfl, rfl, hr⟩
    | i + 1, e => exact h.at' i v (by simpa using e)
  · rcases List.mem_cons.mp m with rfl | m
    · exact z
    · exact h.sz x m
theorem ERQ.snoc {H : Hp} {n : Nat} {us : List V} {qs : List Rat} {r : Addr} {q : Rat} (h : ERQ H n us qs) (hr : RatAt H r q) (z : Sz n q) : ERQ H n (us ++ [.ref r]) (qs ++ [q]) := by
  refine ⟨by simp [h.len], fun i v e => ?_, fun x m => ?_⟩
  · by_cases hi : i < us.length
    · rw [List.getElem?_append_left hi] at e
      rw [List.getElem?_append_left (by rw [← h.len]; exact hi)]
      exact h.at' i v e
    · rw [List.getElem?_append_right (by omega)] at e
      have hj : i - us.length = 0 := by
        rcases Nat.eq_zero_or_pos (i - us.length) with z | z
        · exact z
        · rw [List.getElem?_eq_none (by simp; omega)] at e; cases e
      rw [hj] at e; cases e
      exact ⟨r, q, rfl, by rw [List.getElem?_append_right (by rw [← h.len]; omega), ← h.len, hj]; rfl, hr⟩
  · rcases List.mem_append.mp m with y | y
    · exact h.sz x y
    · have : x = q := by simpa using y
      rw [this]; exact z
def FA (ow : Rat) (qs : List Rat) : Prop := qs.Pairwise (· > ·) ∧ ∀ q ∈ qs, ow < q
theorem FA.cons {ow q0 x : Rat} {qs : List Rat} (h : FA ow (q0 :: qs)) (lt : q0 < x) : FA ow (x :: q0 :: qs) := by
  refine ⟨List.pairwise_cons.mpr ⟨fun a m => ?_, h.1⟩, fun q m => ?_⟩
  · rcases List.mem_cons.mp m with rfl | m
    · exact lt
    · have := (List.pairwise_cons.mp h.1).1 a m
      grind
  · rcases List.mem_cons.mp m with rfl | m
    · have := h.2 q0 (List.mem_cons_self ..)
      grind
    · exact h.2 q m
def FB (wh : Int) (ow : Rat) (qs : List Rat) : Prop := qs.Pairwise (· > ·) ∧ (wh = 1 → ∀ q ∈ qs, q < ow) ∧ (wh ≠ 1 → ∀ q ∈ qs, ow < q)
def FC (wh : Int) (ow : Rat) (qs : List Rat) : Prop := qs.Pairwise (· > ·) ∧ (wh = 1 → ∀ q ∈ qs, q ≤ ow) ∧ (wh ≠ 1 → ∀ q ∈ qs, ow < q)
def FD (wh : Int) (ow : Rat) (qs : List Rat) : Prop := qs.Pairwise (· > ·) ∧ (wh = 1 → ∀ q ∈ qs, q ≤ ow) ∧ (wh = 2 → ∀ q ∈ qs, ow ≤ q)
theorem FA.mirror {ow : Rat} {qs : List Rat} (h : FA ow qs) : FB 1 ow (qs.reverse.map fun q => ow + ow - q) := by
  refine ⟨?_, fun _ q m => ?_, fun z => absurd rfl z⟩
  · rw [List.pairwise_map, List.pairwise_reverse]
    exact h.1.imp fun {a b} lt => by show ow + ow - b > ow + ow - a; grind
  · obtain ⟨x, mx, rfl⟩ := List.mem_map.mp m
    have := h.2 x (List.mem_reverse.mp mx)
    grind
theorem FA.fb {wh : Int} {ow : Rat} {qs : List Rat} (h : FA ow qs) (w : wh ≠ 1) : FB wh ow qs := ⟨h.1, fun z => absurd z w, fun _ => h.2⟩
theorem FB.fc {wh : Int} {ow : Rat} {qs : List Rat} (h : FB wh ow qs) : FC wh ow qs := ⟨h.1, fun z q m => by have := h.2.1 z q m; grind, h.2.2⟩
theorem FB.rest {ow : Rat} {qs : List Rat} (h : FB 1 ow qs) : FC 1 ow (ow :: qs) := by
  refine ⟨List.pairwise_cons.mpr ⟨fun a m => h.2.1 rfl a m, h.1⟩, fun _ q m => ?_, fun z => absurd rfl z⟩
  rcases List.mem_cons.mp m with rfl | m
  · grind
  · have := h.2.1 rfl q m
    grind
theorem FC.fd {wh : Int} {ow : Rat} {qs : List Rat} (h : FC wh ow qs) : FD wh ow qs := ⟨h.1, h.2.1, fun z q m => by have := h.2.2 (by omega) q m; grind⟩
theorem FC.rest {ow : Rat} {qs : List Rat} (h : FC 2 ow qs) : FD 2 ow (qs ++ [ow]) := by
  refine ⟨List.pairwise_append.mpr ⟨h.1, by simp, fun a m b mb => ?_⟩, fun z => absurd z (by decide), fun _ q m => ?_⟩
  · have e : b = ow := by simpa using mb
    rw [e]; exact h.2.2 (by decide) a m
  · rcases List.mem_append.mp m with y | y
    · have := h.2.2 (by decide) q y
      grind
    · have e : q = ow := by simpa using y
      grind
section
variable {P : Program} {w : World} {K : PySem.W.Frag} {mg : Str → Option Value} {base : Heap} {aN : Addr}
def spBu : Sp := fun vs H Q _ => ∃ (p pp pm : Addr) (wh : Int) (al : Bool) (x m : Rat), vs = [.ref p, .int wh, .ref pp, .ref pm, .bl al] ∧ 0 ≤ wh ∧ wh ≤ 2 ∧ RatAt H pp x ∧ Sz 80 x ∧ RatAt H pm m ∧ Sz 5 m ∧ Pool H p ∧
  ∀ t r wl us bs ra rb y z H', Step p H H' → H' t = some (.tup [.ref r, .ref wl]) → H' r = some (.tup us) → BallsAt H' us bs → ZB bs → 1 ≤ bs.length → bs.length ≤ 8 → H' wl = some (.tup [.ref ra, .ref rb]) → RatAt H' ra y → RatAt H' rb z → Sz 300 y → Sz 80 z → (∃ qs, bs.map (fun b => (b.pl, b.sp)) = lineL x m qs ∧ FD wh z qs ∧ y = x - z * m) → Q (.ref t) H'
theorem sc_bu : FnScope ["pool", "where", "place", "moment", "alike", "rest", "many", "own", "speeds", "k", "weights", "row", "speed"] ["pool", "where", "place", "moment", "alike"] (defScope s_law_bundle) := ⟨rfl, rfl, rfl, by decide +kernel, rfl, by decide +kernel, by decide +kernel⟩
theorem ok_bu (D : Df K mg "_law_bundle" s_law_bundle ["pool", "where", "place", "moment", "alike"] []) (T : TxB K mg) (TW : TxW K mg aN) (cN : Cal P w K mg base "_law_next" 1 ["pool", "base"] [] spNext) (cSp : Cal P w K mg base "_law_speed" 2 ["pool"] [] spSp)
    (cL : Cal P w K mg base "_law_low" 1 ["top", "bottom"] [] spLow) (cA : Cal P w K mg base "_law_add" 2 ["a", "b"] [] (spBin Sz2 (· + ·))) (cO : Cal P w K mg base "_law_off" 2 ["a", "b"] [] (spBin Sz2 (· - ·))) (cBy : Cal P w K mg base "_law_by" 2 ["a", "b"] [] (spBin Sz2 (· * ·))) : Cal P w K mg base "_law_bundle" 3 ["pool", "where", "place", "moment", "alike"] [] spBu := by
  refine D.calB (k := 2) sc_bu (fun vs H Q E h => by obtain ⟨_, _, _, _, _, _, _, rfl, _⟩ := h; rfl) (fun f cdv A outer s H vs Q E hr h => ?_)
  obtain ⟨p, pp, pm, wh, al, px, mm, rfl, w0, w2, hpp, zpp, hpm, zpm, hP, k⟩ := h
  have hr1 : Room 1 _ := hr.mono (by decide)
  refine ⟨_, (bx_scons (Bx.mk (ps_set (i := 5) sc_bu.nd rfl (Or.inl rfl) (pe_callTy call_int1 (by rfl) T.nInt PyProof.Rows.boot_int (pa_cons (pe_and (pe_cmpR op_gt (pv 1) pe_int (nomark _)) (pe_one (pe_cmpR op_eq (pe_c cN hr1 (pa_cons (pv 0) (pa_cons pe_int pa_nil))) pe_int (nomark _)))) pa_nil))))
    (bx_scons (bx_set (i := 6) sc_bu.nd rfl (Or.inl rfl) (bx_op op_sub (bx_ix ix_list (bx_lst (bx_cons (Bx.mk pe_int) (bx_cons (Bx.mk pe_int) (bx_cons (Bx.mk pe_int) (bx_cons (Bx.mk pe_int) (bx_cons (Bx.mk pe_int) (bx_cons (Bx.mk pe_int) (bx_cons (Bx.mk pe_int) (bx_cons (Bx.mk pe_int) bx_nil))))))))) (Bx.mk (pe_c cN hr1 (pa_cons (pv 0) (pa_cons pe_int pa_nil)))) (fun _ _ => rfl)) (Bx.mk (pv 5))))
    (bx_scons (bx_set (i := 7) sc_bu.nd rfl (Or.inr rfl) (bx_ix ix_list (bx_lst (bx_cons (bx_tup (bx_cons (Bx.mk pe_int) (bx_cons (Bx.mk pe_int) bx_nil))) (bx_cons (bx_tup (bx_cons (Bx.mk pe_int) (bx_cons (Bx.mk pe_int) bx_nil))) (bx_cons (Bx.mk (pe_c cSp hr (pa_cons (pv 0) pa_nil))) bx_nil)))) (Bx.mk (pe_c cN hr1 (pa_cons (pv 0) (pa_cons pe_int pa_nil)))) (fun _ _ => rfl)))
    (bx_scons (Bx.mk (ps_set (i := 8) sc_bu.nd rfl (Or.inl rfl) (pe_lst (pa_cons (pe_c cA hr (pa_cons (pv 7) (pa_cons (pe_c cL hr1 (pa_cons (pe_op op_add pe_int (pe_c cN hr1 (pa_cons (pv 0) (pa_cons pe_int pa_nil)))) (pa_cons (pe_op op_add pe_int (pe_c cN hr1 (pa_cons (pv 0) (pa_cons pe_int pa_nil)))) pa_nil))) pa_nil))) pa_nil))))
    (bx_scons (Bx.mk (ps_for PassesOwn.never rfl (pi_range1 rfl T.nRange (pa_cons (pe_op op_sub (pv 6) pe_int) pa_nil)) (pg_name (i := 9) sc_bu.nd rfl (Or.inl rfl)) (pss_one (ps_expr (pe_bm PySem.F.plainAttrs_list PySem.F.slot_list_insert PySem.F.type_list_insert mt_insert (pv 8) (pa_cons pe_int (pa_cons (pe_c cA hr (pa_cons (pe_ix ix_list (pv 8) pe_int (fun _ _ => rfl)) (pa_cons (pe_c cL hr1 (pa_cons (pe_op op_add pe_int (pe_c cN hr1 (pa_cons (pv 0) (pa_cons pe_int pa_nil)))) (pa_cons (pe_op op_add pe_int (pe_c cN hr1 (pa_cons (pv 0) (pa_cons pe_int pa_nil)))) pa_nil))) pa_nil))) pa_nil)))))))
    (bx_scons (Bx.mk (ps_if (pt_cmpR op_eq (pv 1) pe_int (nomark _)) (pss_one (ps_setC (i := 8) (NB := ["speed"]) (FR := ["own"]) (js := [7]) rfl rfl cl_fst (.cons rfl rfl rfl ⟨_, rfl⟩ .nil) rfl (by decide +kernel) rfl (by decide +kernel) sc_bu.nd rfl rfl (by rfl) (pi_list (pe_revL (pv 8) (pe_un un_neg pe_int))) (by intro _ _ _; refine ⟨?_, ?_, ?_⟩; (exact (pg_name (i := 0) (show List.Nodup (["speed", "own"] : List Str) by decide +kernel) rfl (Or.inl rfl))); (exact pts_nil); (exact (pe_c cO hr (pa_cons (pe_c cA hr (pa_cons (pv 1) (pa_cons (pv 1) pa_nil))) (pa_cons (pv 0) pa_nil))))))) pss_nil))
    (bx_scons (Bx.mk (ps_if (pw_and (pt_cmpR op_eq (pv 5) pe_int (nomark _)) (pw_and1 (pt_cmpR op_eq (pv 1) pe_int (nomark _)))).pt (pss_one (ps_expr (pe_bm PySem.F.plainAttrs_list PySem.F.slot_list_insert PySem.F.type_list_insert mt_insert (pv 8) (pa_cons pe_int (pa_cons (pv 7) pa_nil))))) pss_nil))
    (bx_scons (Bx.mk (ps_if (pw_and (pt_cmpR op_eq (pv 5) pe_int (nomark _)) (pw_and1 (pt_cmpR op_eq (pv 1) pe_int (nomark _)))).pt (pss_one (ps_expr (pe_bm PySem.F.plainAttrs_list PySem.F.slot_list_append PySem.F.type_list_append mt_append (pv 8) (pa_cons (pv 7) pa_nil)))) pss_nil))
    (bx_scons (Bx.mk (ps_setC (i := 10) (NB := ["speed"]) (FR := ["pool"]) (js := [0]) rfl rfl (cl_snd (a := "own") (b := "pool") (by decide)) (.cons rfl rfl rfl ⟨_, rfl⟩ .nil) rfl (by decide +kernel) rfl (by decide +kernel) sc_bu.nd rfl rfl (by rfl) (pi_list (pv 8)) (by intro _ _ _; refine ⟨?_, ?_, ?_⟩; (exact (pg_name (i := 0) (show List.Nodup (["speed", "pool"] : List Str) by decide +kernel) rfl (Or.inl rfl))); (exact pts_nil); (exact (pe_op op_add pe_int (pe_c cN hr1 (pa_cons (pv 1) (pa_cons pe_int pa_nil))))))))
    (bx_scons (Bx.mk (ps_if (pt_truth (pv 4) fun _ => rfl) (pss_one (ps_set (i := 10) sc_bu.nd rfl (Or.inl rfl) (pe_op op_rep (pe_lst (pa_cons (pe_ix ix_list (pv 10) pe_int (fun _ _ => rfl)) pa_nil)) (pe_callB call_len_seq (by rfl) T.nLen PySem.boot_len (pa_cons (pv 10) pa_nil))))) pss_nil))
    (bx_scons (Bx.mk (ps_set (i := 11) sc_bu.nd rfl (Or.inl rfl) (pe_lst pa_nil)))
    (bx_scons (Bx.mk (ps_for PassesOwn.never rfl (pi_enum (by rfl) TW.nEnum (pa_cons (pv 8) pa_nil)) (pg_tup rfl (pgs_cons (pg_name (i := 9) sc_bu.nd rfl (Or.inl rfl)) (pgs_cons (pg_name (i := 12) sc_bu.nd rfl (Or.inl rfl)) pgs_nil))) (pss_one (ps_expr (pe_bm PySem.F.plainAttrs_list PySem.F.slot_list_append PySem.F.type_list_append mt_append (pv 11) (pa_cons (pe_tup (pa_cons (pe_c cO hr (pa_cons (pv 2) (pa_cons (pe_c cBy hr (pa_cons (pv 12) (pa_cons (pv 3) pa_nil))) pa_nil))) (pa_cons (pv 12) (pa_cons (pe_ix ix_list (pv 10) (pv 9) (fun _ _ => rfl)) pa_nil)))) pa_nil))))))
    (Bx.mk (pss_one (ps_ret (pe_tup (pa_cons (pe_callTy call_tuple_of (by rfl) T.nTuple PyProof.Rows.boot_tuple (pa_cons (pv 11) pa_nil)) (pa_cons (pe_tup (pa_cons (pe_c cO hr (pa_cons (pv 2) (pa_cons (pe_c cBy hr (pa_cons (pv 7) (pa_cons (pv 3) pa_nil))) pa_nil))) (pa_cons (pv 7) pa_nil))) pa_nil)))))))))))))))))), ?_⟩
  -- rest
  refine st_mid (fun σ' G => ∃ rs : Int, (rs = 0 ∨ rs = 1) ∧ σ' = [some (.ref p), some (.int wh), some (.ref pp), some (.ref pm), some (.bl al), some (.int rs), none, none, none, none, none, none, none] ∧ Step p H G) ?_ ?_
  rotate_left
  · intro nx hnx
    refine ⟨_, rfl, _, _, rfl, rfl, _, rfl, ite2 (fun h => ?_) (fun h => ?_)⟩
    · refine ⟨_, rfl, p, _, rfl, by decide, by decide, hP, fun d1 G1 a1 b1 t1 => ⟨rfl, .inr ⟨_, rfl, ?_⟩⟩⟩
      exact hnx _ _ ⟨_, by split <;> omega, rfl, t1⟩
    · exact .inr ⟨_, rfl, hnx _ _ ⟨0, .inl rfl, rfl, Step.refl hP⟩⟩
  rintro σ' G1 ⟨rs, hrs, rfl, T1⟩
  -- many
  refine st_mid (fun σ' G => ∃ mn : Int, 1 ≤ mn ∧ mn + rs ≤ 7 ∧ σ' = [some (.ref p), some (.int wh), some (.ref pp), some (.ref pm), some (.bl al), some (.int rs), some (.int mn), none, none, none, none, none, none] ∧ Step p H G) ?_ ?_
  rotate_left
  · intro nx hnx
    refine ⟨by show 8 ≤ sizeLine; decide, fun l1 hl1 => ?_⟩
    refine ⟨_, rfl, p, _, rfl, by decide, by decide, T1.pool.new hl1, fun d2 G2 a2 b2 t2 => ?_⟩
    obtain ⟨v, ev, v0, v1⟩ := menu8b a2 b2
    refine ⟨l1, _, _, _, rfl, rfl, .of (t2.keep l1 _ upd_same (T1.pool.ne hl1)), ev, ?_⟩
    exact ⟨_, rfl, _, _, rfl, rfl, hnx _ _ ⟨v - rs, by omega, by omega, rfl, T1.trans (t2.pre (Same.upd hl1))⟩⟩
  rintro σ' G2 ⟨mn, m1, m7, rfl, T2⟩
  -- own
  refine st_mid (fun σ' G => ∃ ro ow, σ' = [some (.ref p), some (.int wh), some (.ref pp), some (.ref pm), some (.bl al), some (.int rs), some (.int mn), some (.ref ro), none, none, none, none, none] ∧ Step p H G ∧ RatAt G ro ow ∧ Sz 5 ow) ?_ ?_
  rotate_left
  · intro nx hnx
    refine ⟨by show 2 ≤ sizeLine; decide, fun q1 h1 => ?_⟩
    refine ⟨by show 2 ≤ sizeLine; decide, fun q2 h2 => ?_⟩
    have T2' := T2.same ((Same.upd (o := .tup [.int 0, .int 1]) h1).trans (Same.upd (o := .tup [.int 0, .int 1]) h2))
    refine ⟨_, rfl, p, rfl, T2'.pool, fun r3 x3 G3 t3 hr3 z3 => ?_⟩
    have g1 : RatAt G3 q1 0 := step_tups T2'.pool t3 _ _ (Same.upd h2 _ _ upd_same)
    have g2 : RatAt G3 q2 0 := step_tups T2'.pool t3 _ _ upd_same
    have T3 := T2'.trans t3
    refine ⟨by show 3 ≤ sizeLine; decide, fun l3 hl3 => ?_⟩
    refine ⟨_, rfl, p, _, rfl, by decide, by decide, T3.pool.new hl3, fun d4 G4 a4 b4 t4 => ?_⟩
    have Tu4 : TupS G3 G4 := (TupS.of (Same.upd hl3)).trans (step_tups (T3.pool.new hl3) t4)
    have T4 : Step p H G4 := T3.trans (t4.pre (Same.upd hl3))
    obtain ⟨ro, ow, ers, hro, zow⟩ : ∃ rs sp, atI [V.ref q1, .ref q2, .ref r3] d4 = some (.ref rs) ∧ RatAt G3 rs sp ∧ Sz 5 sp := by
      have zz : Sz 5 (0 : Rat) := ⟨show (0 : Int).natAbs < 2 ^ 5 by decide, show (1 : Int).natAbs < 2 ^ 5 by decide⟩
      have : d4 = 0 ∨ d4 = 1 ∨ d4 = 2 := by omega
      rcases this with rfl | rfl | rfl
      · exact ⟨q1, 0, rfl, g1, zz⟩
      · exact ⟨q2, 0, rfl, g2, zz⟩
      · exact ⟨r3, x3, rfl, hr3, z3⟩
    exact ⟨l3, _, _, _, rfl, rfl, .of (t4.keep l3 _ upd_same (T3.pool.ne hl3)), ers, hnx _ _ ⟨ro, ow, rfl, T4, Tu4 _ _ hro, zow⟩⟩
  rintro σ' G3 ⟨ro, ow, rfl, T3, hro, zow⟩
  -- speeds
  refine st_mid (fun σ' G => ∃ ls us qs, σ' = [some (.ref p), some (.int wh), some (.ref pp), some (.ref pm), some (.bl al), some (.int rs), some (.int mn), some (.ref ro), some (.ref ls), none, none, none, none] ∧ Step p H G ∧ RatAt G ro ow ∧ H ls = none ∧ ls ≠ p ∧ G ls = some (.lst us) ∧ us.length = 1 ∧ ERQ G 10 us qs ∧ FA ow qs) ?_ ?_
  rotate_left
  · intro nx hnx
    refine ⟨_, rfl, _, rfl, p, _, rfl, by decide, by decide, T3.pool, fun d4 G4 a4 b4 t4 => ⟨_, _, rfl, rfl, ?_⟩⟩
    refine ⟨_, rfl, p, _, rfl, by decide, by decide, t4.pool, fun d5 G5 a5 b5 t5 => ⟨_, _, rfl, rfl, ?_⟩⟩
    have Tu5 : TupS G3 G5 := (step_tups T3.pool t4).trans (step_tups t4.pool t5)
    refine ⟨_, _, rfl, by omega, Bd.mono (m := 5) (bdn (by omega) (by omega)) (by decide), fun r6 G6 e6 hr6 => ?_⟩
    have z6 : Sz 3 (Rat.divInt (1 + d4) (1 + d5)) := sz_q (by omega) (by omega) (by omega) (by omega)
    refine ⟨ro, r6, _, _, rfl, e6 _ _ (Tu5 _ _ hro), hr6, ⟨zow.mono (by decide), z6.mono (by decide)⟩, fun r7 G7 e7 hr7 => ⟨by show 1 ≤ sizeLine; decide, fun ls hls => ?_⟩⟩
    have T7 : Step p H G7 := (((T3.trans t4).trans t5).same e6).same e7
    have p6 : 0 < Rat.divInt (1 + d4) (1 + d5) := by
      rw [← Rat.zero_divInt (1 + d5)]; exact (divInt_lt (by omega)).mpr (by omega)
    refine hnx _ _ ⟨ls, _, _, rfl, T7.same (Same.upd hls), Same.upd hls _ _ (e7 _ _ (e6 _ _ (Tu5 _ _ hro))), T7.free hls, T7.pool.ne hls, upd_same, rfl, ERQ.nil.cons (Same.upd hls _ _ hr7) ((zow.add z6).mono (by decide)), by simp, fun q m => ?_⟩
    have e : q = ow + Rat.divInt (1 + d4) (1 + d5) := by simpa using m
    grind
  rintro σ' G4 ⟨ls, us, qs, rfl, T4, hro4, hlsH, hlsp, hls, hul, hus, hFA⟩
  -- more speeds
  refine st_mid (fun σ' G => ∃ us qs z9, σ' = [some (.ref p), some (.int wh), some (.ref pp), some (.ref pm), some (.bl al), some (.int rs), some (.int mn), some (.ref ro), some (.ref ls), z9, none, none, none] ∧ Step p H G ∧ RatAt G ro ow ∧ G ls = some (.lst us) ∧ (us.length : Int) = mn ∧ ERQ G 40 us qs ∧ FA ow qs) ?_ ?_
  rotate_left
  · intro nx hnx
    refine ⟨_, rfl, _, _, rfl, rfl, mn - 1, rfl, by omega, by omega, ?_⟩
    refine for_range (n := (mn - 1).toNat) (lo := 0) (fun i σ G => ∃ us qs z9, σ = [some (.ref p), some (.int wh), some (.ref pp), some (.ref pm), some (.bl al), some (.int rs), some (.int mn), some (.ref ro), some (.ref ls), z9, none, none, none] ∧ Step p H G ∧ RatAt G ro ow ∧ G ls = some (.lst us) ∧ us.length = i + 1 ∧ ERQ G (10 + 5 * i) us qs ∧ FA ow qs)
      ⟨us, qs, _, rfl, T4, hro4, hls, hul, hus, hFA⟩ ?_ ?_
    · rintro i σ G hi ⟨us, qs, z9, rfl, TG, hroG, hlsG, hulG, husG, hFA⟩
      have hi7 : i < 6 := by omega
      obtain ⟨v0, us', rfl⟩ : ∃ v0 us', us = v0 :: us' := by
        cases us with
        | nil => simp at hulG
        | cons v0 us' => exact ⟨v0, us', rfl⟩
      obtain ⟨r0, q0, rfl, eq0, hr0⟩ := husG.at' 0 v0 rfl
      have z0 := husG.sz q0 (List.mem_of_getElem? eq0)
      obtain ⟨qs', rfl⟩ : ∃ qs', qs = q0 :: qs' := by
        cases qs with
        | nil => simp at eq0
        | cons a r => simp at eq0; exact ⟨r, by rw [eq0]⟩
      have e0 : atI (V.ref r0 :: us') 0 = some (.ref r0) := atI_nat (j := 0) rfl
      refine ⟨_, rfl, .inl ⟨rfl, _, SqL.of hlsG⟩, _, rfl, ls, _, _, _, rfl, rfl, .of hlsG, e0, ?_⟩
      refine ⟨_, rfl, p, _, rfl, by decide, by decide, TG.pool, fun d4 G5 a4 b4 t5 => ⟨_, _, rfl, rfl, ?_⟩⟩
      refine ⟨_, rfl, p, _, rfl, by decide, by decide, t5.pool, fun d5 G6 a5 b5 t6 => ⟨_, _, rfl, rfl, ?_⟩⟩
      have Tu6 : TupS G G6 := (step_tups TG.pool t5).trans (step_tups t5.pool t6)
      refine ⟨_, _, rfl, by omega, Bd.mono (m := 5) (bdn (by omega) (by omega)) (by decide), fun r6 G7 e7 hr6 => ?_⟩
      have z6 : Sz 3 (Rat.divInt (1 + d4) (1 + d5)) := sz_q (by omega) (by omega) (by omega) (by omega)
      refine ⟨r0, r6, _, _, rfl, e7 _ _ (Tu6 _ _ hr0), hr6, ⟨z0.mono (by omega), z6.mono (by decide)⟩, fun r7 G8 e8 hr7 => ?_⟩
      have T8 : Step p H G8 := (((TG.trans t5).trans t6).same e7).same e8
      have hls8 := e8 _ _ (e7 _ _ (t6.keep _ _ (t5.keep _ _ hlsG hlsp) hlsp))
      have Tu8 : TupS G G8 := (Tu6.trans (.of e7)).trans (.of e8)
      refine ⟨ls, _, 0, _, rfl, rfl, hls8, by decide, by omega, by simp at hulG ⊢; omega, ?_⟩
      have TuL : TupS G8 (upd G8 ls (.lst (.ref r7 :: .ref r0 :: us'))) := .upd hls8
      have p6 : 0 < Rat.divInt (1 + d4) (1 + d5) := by
        rw [← Rat.zero_divInt (1 + d5)]; exact (divInt_lt (by omega)).mpr (by omega)
      exact ⟨.ref r7 :: .ref r0 :: us', _, _, rfl, T8.put hlsH hlsp _, TuL _ _ (Tu8 _ _ hroG), upd_same, by simp at hulG ⊢; omega, (((husG.mono (by omega)).tups Tu8).tups TuL).cons (TuL _ _ hr7) ((z0.add z6).mono (by omega)), hFA.cons (by show q0 < q0 + Rat.divInt (1 + d4) (1 + d5); grind)⟩
    · rintro σ G ⟨us, qs, z9, rfl, TG, hroG, hlsG, hulG, husG, hFA⟩
      exact hnx _ _ ⟨us, qs, z9, rfl, TG, hroG, hlsG, by omega, husG.mono (by omega), hFA⟩
  rintro σ' G5 ⟨us5, qs5, z9, rfl, T5, hro5, hls5, hul5, hus5, hFA5⟩
  -- the other way round
  refine st_mid (fun σ' G => ∃ ls us qs, σ' = [some (.ref p), some (.int wh), some (.ref pp), some (.ref pm), some (.bl al), some (.int rs), some (.int mn), some (.ref ro), some (.ref ls), z9, none, none, none] ∧ Step p H G ∧ RatAt G ro ow ∧ H ls = none ∧ ls ≠ p ∧ G ls = some (.lst us) ∧ (us.length : Int) = mn ∧ ERQ G 60 us qs ∧ FB wh ow qs) ?_ ?_
  rotate_left
  · intro nx hnx
    refine ⟨_, rfl, rfl, _, rfl, ite2 (fun h => ?_) (fun h => ?_)⟩
    · refine ⟨_, rfl, _, rfl, ls, us5, rfl, rfl, .of hls5, fun lv hlv => ?_⟩
      refine ⟨lv, rfl, ⟨_, .of upd_same⟩, fun Dc hDc => ?_⟩
      have hlvD : lv ≠ Dc := fun z => by rw [← z, upd_same] at hDc; cases hDc
      have T6 := T5.same (Same.upd (o := .lst us5.reverse) hlv)
      have hlv6 : upd G5 lv (.lst us5.reverse) lv = some (.lst us5.reverse) := upd_same
      have hro6 : RatAt (upd G5 lv (.lst us5.reverse)) ro ow := Same.upd hlv _ _ hro5
      have hus6 := hus5.tups (.of (Same.upd (o := .lst us5.reverse) hlv))
      generalize upd G5 lv (.lst us5.reverse) = G6 at *
      have hw1 : wh = 1 := by simpa using h
      have hl5 := hus5.len
      have rget : ∀ (i : Nat) (v : V), us5.reverse[i]? = some v → ∃ r q, v = .ref r ∧ qs5.reverse[i]? = some q ∧ RatAt G6 r q := fun i v e => by
        have hi : i < us5.length := by have := (List.getElem?_eq_some_iff.mp e).1; rw [List.length_reverse] at this; exact this
        rw [List.getElem?_reverse hi] at e
        rw [List.getElem?_reverse (by omega), ← hl5]
        exact hus6.at' _ v e
      refine compC_each (js := [7]) (J := Itl K lv) (g := gName 0) (te := _) (n := 1) (xs := us5.reverse) (fun i v G => ∃ r q, v = .ref r ∧ (qs5.reverse.map fun q => ow + ow - q)[i]? = some q ∧ RatAt G r q) (fun i v G G' e ⟨r, q, a, b, c⟩ => ⟨r, q, a, b, e _ _ c⟩) hDc (runs_list hlv6) (small1000 (by rw [List.length_reverse]; omega)) ?_ ?_
      · intro i x zs G7 Q' hx hz S7 hQ
        obtain ⟨y1, rfl⟩ := len1 hz
        obtain ⟨r, q, rfl, eq, hrq⟩ := rget i x hx
        have zq := hus5.sz q (List.mem_reverse.mp (List.mem_of_getElem? eq))
        refine ⟨rfl, ?_⟩
        refine ⟨_, rfl, _, rfl, ro, ro, ow, ow, rfl, S7 _ _ hro6, S7 _ _ hro6, ⟨zow.mono (by decide), zow.mono (by decide)⟩, fun r8 G8 e8 hr8 => ?_⟩
        refine ⟨_, rfl, r8, r, _, _, rfl, hr8, e8 _ _ (S7 _ _ hrq), ⟨(zow.add zow).mono (by decide), zq.mono (by decide)⟩, fun r9 G9 e9 hr9 => hQ _ _ (e8.trans e9) ⟨r9, _, rfl, by rw [List.getElem?_map, eq]; rfl, hr9⟩⟩
      · intro ys G7 S7 hD7 hl7 hR7
        refine hnx _ _ ⟨Dc, ys, _, rfl, T6.same S7, S7 _ _ hro6, T6.free hDc, T6.pool.ne hDc, hD7, by rw [hl7, List.length_reverse]; exact hul5, ⟨by rw [hl7]; simp [hl5], hR7, fun q m => ?_⟩, by rw [hw1]; exact hFA5.mirror⟩
        obtain ⟨x, mx, rfl⟩ := List.mem_map.mp m
        exact (Sz.sub (zow.add zow) (hus5.sz x (List.mem_reverse.mp mx))).mono (by decide)
    · have hw1 : wh ≠ 1 := fun z => h (by rw [z]; decide)
      exact hnx _ _ ⟨ls, us5, qs5, rfl, T5, hro5, hlsH, hlsp, hls5, hul5, hus5.mono (by decide), hFA5.fb hw1⟩
  clear hls hus hul hlsH hlsp hls5 hFA
  clear qs us
  rintro σ' G6 ⟨ls, us, qs, rfl, T6, hro6, hlsH, hlsp, hls6, hul6, hus6, hFB6⟩
  -- a ball that rests at the wall
  refine st_mid (fun σ' G => ∃ us qs, σ' = [some (.ref p), some (.int wh), some (.ref pp), some (.ref pm), some (.bl al), some (.int rs), some (.int mn), some (.ref ro), some (.ref ls), z9, none, none, none] ∧ Step p H G ∧ RatAt G ro ow ∧ G ls = some (.lst us) ∧ 1 ≤ us.length ∧ us.length ≤ 7 ∧ (wh ≠ 1 → (us.length : Int) + rs ≤ 7) ∧ ERQ G 60 us qs ∧ FC wh ow qs) ?_ ?_
  rotate_left
  · intro nx hnx
    have no : nx [some (.ref p), some (.int wh), some (.ref pp), some (.ref pm), some (.bl al), some (.int rs), some (.int mn), some (.ref ro), some (.ref ls), z9, none, none, none] G6 := hnx _ _ ⟨us, qs, rfl, T6, hro6, hls6, by omega, by omega, fun _ => by omega, hus6, hFB6.fc⟩
    refine ⟨_, rfl, rfl, _, rfl, ite2 (fun h => ?_) (fun h => iteF no)⟩
    refine ⟨_, rfl, rfl, _, rfl, ite2 (fun h2 => ?_) (fun h2 => no)⟩
    have TuL : TupS G6 (upd G6 ls (.lst (.ref ro :: us))) := .upd hls6
    have hw : wh = 1 := by simpa using h2
    have hs : rs = 1 := by simpa using h
    exact ⟨_, rfl, .inl ⟨rfl, _, SqL.of hls6⟩, _, rfl, ls, _, 0, _, rfl, rfl, hls6, by decide, by omega, by omega, hnx _ _ ⟨.ref ro :: us, _, rfl, T6.put hlsH hlsp _, TuL _ _ hro6, upd_same, by simp, by simp only [List.length_cons]; omega, fun z => absurd hw z, (hus6.tups TuL).cons (TuL _ _ hro6) (zow.mono (by decide)), by subst hw; exact hFB6.rest⟩⟩
  clear hls6 hus6 hul6 hro6 hFB6
  clear qs us
  rintro σ' G7 ⟨us, qs, rfl, T7, hro7, hls7, hu1, hu7, hur, hus7, hFC7⟩
  refine st_mid (fun σ' G => ∃ us qs, σ' = [some (.ref p), some (.int wh), some (.ref pp), some (.ref pm), some (.bl al), some (.int rs), some (.int mn), some (.ref ro), some (.ref ls), z9, none, none, none] ∧ Step p H G ∧ RatAt G ro ow ∧ G ls = some (.lst us) ∧ 1 ≤ us.length ∧ us.length ≤ 7 ∧ ERQ G 60 us qs ∧ FD wh ow qs) ?_ ?_
  rotate_left
  · intro nx hnx
    have no : nx [some (.ref p), some (.int wh), some (.ref pp), some (.ref pm), some (.bl al), some (.int rs), some (.int mn), some (.ref ro), some (.ref ls), z9, none, none, none] G7 := hnx _ _ ⟨us, qs, rfl, T7, hro7, hls7, by omega, by omega, hus7, hFC7.fd⟩
    refine ⟨_, rfl, rfl, _, rfl, ite2 (fun h => ?_) (fun h => iteF no)⟩
    refine ⟨_, rfl, rfl, _, rfl, ite2 (fun h2 => ?_) (fun h2 => no)⟩
    have TuL : TupS G7 (upd G7 ls (.lst (us ++ [.ref ro]))) := .upd hls7
    have hw : wh = 2 := by simpa using h2
    have hs : rs = 1 := by simpa using h
    have := hur (by omega)
    exact ⟨_, rfl, .inl ⟨rfl, _, SqL.of hls7⟩, _, rfl, ls, _, _, rfl, rfl, hls7, small1000 (by omega), hnx _ _ ⟨us ++ [.ref ro], _, rfl, T7.put hlsH hlsp _, TuL _ _ hro7, upd_same, by simp, by simp only [List.length_append, List.length_singleton]; omega, (hus7.tups TuL).snoc (TuL _ _ hro7) (zow.mono (by decide)), by subst hw; exact hFC7.rest⟩⟩
  clear hls7 hus7 hu1 hu7 hur hro7 hFC7
  clear qs us
  rintro σ' G8 ⟨us, qs, rfl, T8, hro8, hls8, hu1, hu7, hus8, hFD8⟩
  -- weights
  refine st_mid (fun σ' G => ∃ (lw : Addr) (ws : List Int), σ' = [some (.ref p), some (.int wh), some (.ref pp), some (.ref pm), some (.bl al), some (.int rs), some (.int mn), some (.ref ro), some (.ref ls), z9, some (.ref lw), none, none] ∧ Step p G8 G ∧ H lw = none ∧ lw ≠ p ∧ lw ≠ ls ∧ G lw = some (.lst (ws.map V.int)) ∧ ws.length = us.length ∧ ∀ x ∈ ws, 1 ≤ x ∧ x ≤ 1000) ?_ ?_
  rotate_left
  · intro nx hnx
    refine ⟨_, rfl, ls, rfl, ⟨_, .of hls8⟩, fun Dc hDc => ?_⟩
    have hDp : Dc ≠ p := T8.pool.ne hDc
    have hDl : Dc ≠ ls := fun z => by rw [z, hls8] at hDc; cases hDc
    refine compC_byZ (js := [0]) (J := Itl K ls) (g := gName 0) (tt := fun _ H Q => Q true H) (te := _) (N := us.length) (n := 1) (fun i G ys => Step p G8 G ∧ ∃ ws : List Int, ys = ws.map V.int ∧ ws.length = i ∧ ∀ x ∈ ws, 1 ≤ x ∧ x ≤ 1000)
      ⟨⟨T8.pool.new hDc, fun b o e _ => Same.upd hDc _ _ e⟩, [], rfl, rfl, fun v hv => by cases hv⟩ (fun i G ys hi z => ⟨us, us[i], .of (z.1.keep _ _ hls8 hlsp), List.getElem?_eq_getElem hi⟩) (fun G ys z => ⟨us, .of (z.1.keep _ _ hls8 hlsp), Nat.le_refl _⟩) ?_ ?_
    · rintro i x zs G_ G ys Nx hN hi hz1 ⟨rfl, _⟩ ⟨tG, ws, rfl, hwl, hwv⟩ hGD
      obtain ⟨y1, rfl⟩ := len1 hz1
      refine ⟨rfl, iteT ?_⟩
      refine ⟨_, rfl, p, _, rfl, by decide, by decide, tG.pool, fun d2 G3 a2 b2 t3 => ⟨_, _, rfl, rfl, ?_⟩⟩
      have h3 := t3.keep _ _ hGD hDp
      refine ⟨h3, small1000 (by simp; omega), hN _ _ ⟨(tG.trans t3).put hDc hDp _, ws ++ [1 + d2], by simp, by simp [hwl], fun v hv => ?_⟩⟩
      rcases List.mem_append.mp hv with z | z
      · exact hwv v z
      · have : v = 1 + d2 := by simpa using z
        omega
    · rintro G ys ⟨tG, ws, rfl, hwl, hwv⟩ hGD
      exact hnx _ _ ⟨Dc, ws, rfl, tG, T8.free hDc, hDp, hDl, hGD, hwl, hwv⟩
  rintro σ' G9 ⟨lw, ws, rfl, T9, hlwH, hlwp, hlwl, hlw9, hwl, hwv⟩
  have T9' := T8.trans T9
  -- all alike
  refine st_mid (fun σ' G => ∃ (lw : Addr) (ws : List Int), σ' = [some (.ref p), some (.int wh), some (.ref pp), some (.ref pm), some (.bl al), some (.int rs), some (.int mn), some (.ref ro), some (.ref ls), z9, some (.ref lw), none, none] ∧ Step p G8 G ∧ H lw = none ∧ lw ≠ p ∧ lw ≠ ls ∧ G lw = some (.lst (ws.map V.int)) ∧ ws.length = us.length ∧ ∀ x ∈ ws, 1 ≤ x ∧ x ≤ 1000) ?_ ?_
  rotate_left
  · intro nx hnx
    refine ⟨_, rfl, _, rfl, ite2 (fun h => ?_) (fun h => hnx _ _ ⟨lw, ws, rfl, T9, hlwH, hlwp, hlwl, hlw9, hwl, hwv⟩)⟩
    obtain ⟨w0, ew0⟩ : ∃ w0, ws[0]? = some w0 := ⟨_, List.getElem?_eq_getElem (by omega)⟩
    have e0 : atI (ws.map V.int) 0 = some (.int w0) := atI_nat (j := 0) (by rw [List.getElem?_map, ew0]; rfl)
    refine ⟨_, rfl, lw, _, _, _, rfl, rfl, .of hlw9, e0, by show 1 ≤ sizeLine; decide, fun l2 hl2 => ?_⟩
    have hlw9' := Same.upd (o := .lst [.int w0]) hl2 _ _ hlw9
    refine ⟨_, rfl, lw, _, rfl, .inl (.of hlw9'), l2, _, _, rfl, rfl, upd_same, by (first | (simp; omega) | simp), by (first | (simp; omega) | simp), szl (by (first | (simp; omega) | simp)), fun l3 hl3 => ?_⟩
    have T10 := T9.same ((Same.upd (o := .lst [.int w0]) hl2).trans (Same.upd (o := .lst ((List.replicate ((ws.map V.int).length : Int).toNat [V.int w0]).flatten)) hl3))
    have T9a := T9'.same (Same.upd (o := .lst [.int w0]) hl2)
    have hls9 := T9.keep _ _ hls8 hlsp
    refine hnx _ _ ⟨l3, List.replicate ws.length w0, rfl, T10, T9a.free hl3, T9a.pool.ne hl3, fun z => ?_, ?_, by simp [hwl], fun x m => by have := List.eq_of_mem_replicate m; subst this; exact hwv _ (List.mem_of_getElem? ew0)⟩
    · have := Same.upd (o := .lst [.int w0]) hl2 _ _ hls9
      rw [← z, hl3] at this; cases this
    · rw [upd_same, rep_one]; simp
  clear hlw9 hwl hwv hlwH hlwp hlwl T9' T9
  rintro σ' G10 ⟨lw, ws, rfl, T10, hlwH, hlwp, hlwl, hlw10, hwl, hwv⟩
  have Tu10 := step_tups T8.pool T10
  have hls10 := T10.keep _ _ hls8 hlsp
  have hro10 : RatAt G10 ro ow := Tu10 _ _ hro8
  have hus10 := hus8.tups Tu10
  have T11 := T8.trans T10
  have TuH : TupS H G10 := step_tups hP T11
  -- the row
  refine st_mid (fun σ' G => ∃ lr, σ' = [some (.ref p), some (.int wh), some (.ref pp), some (.ref pm), some (.bl al), some (.int rs), some (.int mn), some (.ref ro), some (.ref ls), z9, some (.ref lw), some (.ref lr), none] ∧ Same G10 G ∧ G10 lr = none ∧ G lr = some (.lst [])) ?_ ?_
  rotate_left
  · intro nx hnx
    exact ⟨by show 0 ≤ sizeLine; exact Nat.zero_le _, fun lr hlr => hnx _ _ ⟨lr, rfl, Same.upd hlr, hlr, upd_same⟩⟩
  rintro σ' G12 ⟨lr, rfl, S12, hlr10, hlr12⟩
  have hlrp : lr ≠ p := T11.pool.ne hlr10
  have hlrH := T11.free hlr10
  have hlrl : ls ≠ lr := fun z => by rw [← z, hls10] at hlr10; cases hlr10
  have hlrw : lw ≠ lr := fun z => by rw [← z, hlw10] at hlr10; cases hlr10
  have T12 := T11.same S12
  refine st_mid (fun σ' G => ∃ z9 z12 vs bs, σ' = [some (.ref p), some (.int wh), some (.ref pp), some (.ref pm), some (.bl al), some (.int rs), some (.int mn), some (.ref ro), some (.ref ls), z9, some (.ref lw), some (.ref lr), z12] ∧ Step p H G ∧ TupS G12 G ∧ G lr = some (.lst vs) ∧ BallsAt G vs bs ∧ bs.length = us.length ∧ ZB bs ∧ bs.map (fun b => (b.pl, b.sp)) = lineL px mm qs) ?_ ?_
  rotate_left
  · intro nx hnx
    refine ⟨_, rfl, ls, us, rfl, S12 _ _ hls10, for_enum (xs := us) (fun i σ G => ∃ z9 z12 vs bs, σ = [some (.ref p), some (.int wh), some (.ref pp), some (.ref pm), some (.bl al), some (.int rs), some (.int mn), some (.ref ro), some (.ref ls), z9, some (.ref lw), some (.ref lr), z12] ∧ Step p H G ∧ TupS G12 G ∧ G ls = some (.lst us) ∧ G lw = some (.lst (ws.map V.int)) ∧ G lr = some (.lst vs) ∧ BallsAt G vs bs ∧ bs.length = i ∧ ZB bs ∧ bs.map (fun b => (b.pl, b.sp)) = lineL px mm (qs.take i))
      ⟨_, _, [], [], rfl, T12, fun _ _ e => e, S12 _ _ hls10, S12 _ _ hlw10, hlr12, .nil, rfl, (fun _ m => by cases m), rfl⟩ (fun i σ G ⟨_, _, _, _, _, _, _, z, _⟩ => .of z) ?_ ?_⟩
    · rintro i x σ G Tt hx ⟨z9, z12, vs, bs, rfl, TG, TuG, hlsG, hlwG, hlrG, hB, hbl, hZ, hLn⟩ hTt
      have sT : Same G (upd G Tt (.tup [.int i, x])) := Same.upd hTt
      have hTT : upd G Tt (.tup [.int i, x]) Tt = some (.tup [.int i, x]) := upd_same
      generalize upd G Tt (.tup [.int i, x]) = G1 at sT hTT
      have hi7 : i < us.length := (List.getElem?_eq_some_iff.mp hx).1
      obtain ⟨r, q, rfl, eq, hrq⟩ := hus10.at' i x hx
      have zq := hus10.sz q (List.mem_of_getElem? eq)
      obtain ⟨wt, ewt⟩ : ∃ wt, ws[i]? = some wt := ⟨_, List.getElem?_eq_getElem (by omega)⟩
      have hwt := hwv wt (List.mem_of_getElem? ewt)
      have eat : atI (ws.map V.int) (i : Int) = some (.int wt) := atI_nat (by rw [List.getElem?_map, ewt]; rfl)
      have hr1 : RatAt G1 r q := sT _ _ (TuG _ _ (S12 _ _ hrq))
      have hpm1 : RatAt G1 pm mm := sT _ _ (TuG _ _ (S12 _ _ (TuH _ _ hpm)))
      have hpp1 : RatAt G1 pp px := sT _ _ (TuG _ _ (S12 _ _ (TuH _ _ hpp)))
      refine ⟨Tt, _, rfl, .of hTT, rfl, _, _, rfl, _, _, rfl, rfl, ?_⟩
      refine ⟨_, rfl, .inl ⟨rfl, _, SqL.of (sT _ _ hlrG)⟩, _, rfl, _, rfl, _, rfl, r, pm, q, mm, rfl, hr1, hpm1, ⟨zq.mono (by decide), zpm.mono (by decide)⟩, fun r2 G2 e2 h2 => ?_⟩
      have zqm := zq.mul zpm
      refine ⟨pp, r2, px, _, rfl, e2 _ _ hpp1, h2, ⟨zpp.mono (by decide), zqm.mono (by decide)⟩, fun r3 G3 e3 h3 => ?_⟩
      have S3 := sT.trans (e2.trans e3)
      have hlw3 := S3 _ _ hlwG
      refine ⟨_, rfl, _, rfl, _, rfl, lw, _, _, _, rfl, rfl, .of hlw3, eat, by show 3 ≤ sizeLine; decide, fun t ht => ?_⟩
      have hlr4 := Same.upd (o := .tup [.ref r3, .ref r, .int wt]) ht _ _ (S3 _ _ hlrG)
      refine ⟨lr, vs, _, rfl, rfl, hlr4, small1000 (by rw [hB.length]; omega), ?_⟩
      have Tu : TupS G3 (upd (upd G3 t (.tup [.ref r3, .ref r, .int wt])) lr (.lst (vs ++ [.ref t]))) := (TupS.of (Same.upd ht)).trans (.upd hlr4)
      have TuA : TupS G (upd (upd G3 t (.tup [.ref r3, .ref r, .int wt])) lr (.lst (vs ++ [.ref t]))) := (TupS.of S3).trans Tu
      refine ⟨_, _, vs ++ [.ref t], bs ++ [⟨px - q * mm, q, wt⟩], rfl, ((TG.same S3).same (Same.upd ht)).put hlrH hlrp _, TuG.trans TuA, ?_, ?_, upd_same, ?_, by simp [hbl], ?_, ?_⟩
      · rw [upd_ne hlrl]; exact Same.upd ht _ _ (S3 _ _ hlsG)
      · rw [upd_ne hlrw]; exact Same.upd ht _ _ hlw3
      · exact BallsAt.append (.one (b := ⟨px - q * mm, q, wt⟩) (TupS.upd hlr4 _ _ upd_same) (Tu _ _ h3) (Tu _ _ ((e2.trans e3) _ _ hr1))) (hB.mono TuA)
      · intro b mb
        rcases List.mem_append.mp mb with z | z
        · exact hZ b z
        · have : b = ⟨px - q * mm, q, wt⟩ := by simpa using z
          subst this
          exact ⟨(Sz.sub zpp zqm).mono (by decide), zq.mono (by decide), hwt⟩
      · rw [List.map_append, hLn, List.take_add_one, eq]; simp [lineL]
    · rintro σ G ⟨z9, z12, vs, bs, rfl, TG, TuG, hlsG, hlwG, hlrG, hB, hbl, hZ, hLn⟩
      rw [List.take_of_length_le (by rw [← hus10.len]; omega)] at hLn
      exact hnx _ _ ⟨z9, z12, vs, bs, rfl, TG, TuG, hlrG, hB, hbl, hZ, hLn⟩
  rintro σ' G13 ⟨z9', z12, vs, bs, rfl, T13, Tu13, hlr13, hB, hbl, hZ, hLn⟩
  have hro13 : RatAt G13 ro ow := Tu13 _ _ (S12 _ _ hro10)
  have hpm13 : RatAt G13 pm mm := Tu13 _ _ (S12 _ _ (TuH _ _ hpm))
  have hpp13 : RatAt G13 pp px := Tu13 _ _ (S12 _ _ (TuH _ _ hpp))
  refine ⟨_, rfl, lr, vs, rfl, .inl ⟨.of hlr13, fun r hr' => ?_⟩⟩
  have S14 : Same G13 (upd G13 r (.tup vs)) := Same.upd hr'
  have hr14 : upd G13 r (.tup vs) r = some (.tup vs) := upd_same
  generalize upd G13 r (.tup vs) = G14 at S14 hr14
  refine ⟨_, rfl, _, rfl, _, rfl, ro, pm, ow, mm, rfl, S14 _ _ hro13, S14 _ _ hpm13, ⟨zow.mono (by decide), zpm.mono (by decide)⟩, fun r2 G15 e15 h2 => ?_⟩
  have zom := zow.mul zpm
  refine ⟨pp, r2, px, _, rfl, e15 _ _ (S14 _ _ hpp13), h2, ⟨zpp.mono (by decide), zom.mono (by decide)⟩, fun r3 G16 e16 h3 => ?_⟩
  have S16 := e15.trans e16
  refine ⟨_, rfl, by show 2 ≤ sizeLine; decide, fun wl hwl' => ⟨by show 2 ≤ sizeLine; decide, fun t ht => ?_⟩⟩
  have S17 := S16.trans ((Same.upd (o := .tup [.ref r3, .ref ro]) hwl').trans (Same.upd (o := .tup [.ref r, .ref wl]) ht))
  have S17' : Same G16 _ := (Same.upd (o := .tup [.ref r3, .ref ro]) hwl').trans (Same.upd (o := .tup [.ref r, .ref wl]) ht)
  exact k t r wl vs bs r3 ro _ ow _ (T13.same (S14.trans S17)) upd_same (S17 _ _ hr14) (hB.same (S14.trans S17)) hZ (by omega) (by omega) (Same.upd ht _ _ upd_same) (S17' _ _ h3) (S17 _ _ (S14 _ _ hro13)) ((Sz.sub zpp zom).mono (by decide)) (zow.mono (by decide)) ⟨qs, hLn, hFD8, rfl⟩
end
end KK
end
section
set_option maxHeartbeats 8000000
set_option Elab.async false
set_option linter.all false
set_option maxRecDepth 100000
namespace KK
open PySem L2 KM
theorem sl_tupK {X : Cx} {K : PySem.W.Frag} (hK : X.K = K) : SlR X (rSlT K) := by subst hK; exact sl_tup
theorem op_catK {X : Cx} {K : PySem.W.Frag} (hK : X.K = K) : OpR X (binaryOp .Add) (rCatA K) := by subst hK; exact op_catA
def WZ (l : Wl) : Prop := ∀ x y, l = some (x, y) → Sz 320 x ∧ Sz 80 y
theorem WZ.no : WZ none := fun _ _ z => by cases z
theorem menu3m {d : Int} (h0 : 0 ≤ d) (h1 : d < 3) : ∃ v : Int, atI [V.int 1, .int 2, .int 3] d = some (.int v) ∧ 1 ≤ v ∧ v ≤ 3 := by
  have : d = 0 ∨ d = 1 ∨ d = 2 := by omega
  rcases this with rfl | rfl | rfl
  all_goals exact ⟨_, rfl, by decide, by decide⟩
theorem menu4t {d : Int} (h0 : 0 ≤ d) (h1 : d < 4) : ∃ v : Int, atI [V.int 4, .int 4, .int 4, .int 8] d = some (.int v) ∧ 4 ≤ v ∧ v ≤ 8 := by
  have : d = 0 ∨ d = 1 ∨ d = 2 ∨ d = 3 := by omega
  rcases this with rfl | rfl | rfl | rfl
  all_goals exact ⟨_, rfl, by decide, by decide⟩
theorem line_good {bs : List Ball} {pl m : Rat} {qs : List Rat} (h : bs.map (fun b => (b.pl, b.sp)) = lineL pl m qs) (pw : qs.Pairwise (· > ·)) (hm : 0 < m) (z : ZB bs) : Good bs := by
  refine ⟨fun b mb => ⟨(z b mb).2.2.1, (z b mb).2.2.2⟩, fun b mb => ⟨(z b mb).1, (z b mb).2.1⟩, ?_⟩
  have h1 : (lineL pl m qs).Pairwise (fun a b => a.1 < b.1) := by
    unfold lineL
    rw [List.pairwise_map]
    refine pw.imp fun {a b} lt => ?_
    have := Rat.mul_lt_mul_of_pos_right (show b < a from lt) hm
    show pl - a * m < pl - b * m
    grind
  rw [← h, List.pairwise_map] at h1
  exact h1.imp fun {a b} lt => .inl lt
theorem line_mem {bs : List Ball} {pl m : Rat} {qs : List Rat} (h : bs.map (fun b => (b.pl, b.sp)) = lineL pl m qs) {b : Ball} (mb : b ∈ bs) : b.sp ∈ qs ∧ b.pl = pl - b.sp * m := by
  have : (b.pl, b.sp) ∈ lineL pl m qs := by rw [← h]; exact List.mem_map.mpr ⟨b, mb, rfl⟩
  unfold lineL at this
  obtain ⟨q, mq, e⟩ := List.mem_map.mp this
  simp only [Prod.mk.injEq] at e
  obtain ⟨e1, e2⟩ := e
  subst e2
  exact ⟨mq, e1.symm⟩
theorem mul_le_m {a b m : Rat} (h : a ≤ b) (hm : 0 < m) : a * m ≤ b * m := Rat.mul_le_mul_of_nonneg_right h (Rat.le_of_lt hm)
theorem mul_inj {a b m : Rat} (h : a * m = b * m) (hm : 0 < m) : a = b := by
  have : m ≠ 0 := by grind
  grind
theorem box_no {bs : List Ball} : Box bs none none := ⟨fun x y e => by (cases e), fun x y e => by (cases e), fun x y b e => by (cases e), fun x y cs b e => by (cases e), fun x y x' y' e => by (cases e)⟩
theorem box_lo {bs : List Ball} {pl m ow : Rat} {qs : List Rat} (h : bs.map (fun b => (b.pl, b.sp)) = lineL pl m qs) (hm : 0 < m) (hq : ∀ q ∈ qs, q ≤ ow) (z1 : Sz 300 (pl - ow * m)) (z2 : Sz 80 ow) : Box bs (some (pl - ow * m, ow)) none := by
  refine ⟨fun x y e => by cases e; exact ⟨z1.mono (by decide), z2⟩, (fun x y e => by cases e), fun x y b e eb => ?_, (fun x y cs b e => by cases e), (fun x y x' y' _ e => by cases e)⟩
  cases e
  obtain ⟨m1, e1⟩ := line_mem h (List.mem_of_getElem? eb)
  have le := mul_le_m (hq _ m1) hm
  refine ⟨by rw [e1]; grind, fun e2 => ?_⟩
  have : ow * m = b.sp * m := by rw [e1] at e2; grind
  rw [mul_inj this hm]; grind
theorem box_hi {bs : List Ball} {pl m ow : Rat} {qs : List Rat} (h : bs.map (fun b => (b.pl, b.sp)) = lineL pl m qs) (hm : 0 < m) (hq : ∀ q ∈ qs, ow ≤ q) (z1 : Sz 300 (pl - ow * m)) (z2 : Sz 80 ow) : Box bs none (some (pl - ow * m, ow)) := by
  refine ⟨(fun x y e => by cases e), fun x y e => by cases e; exact ⟨z1.mono (by decide), z2⟩, (fun x y b e => by cases e), fun x y cs b e eb => ?_, (fun x y x' y' e => by cases e)⟩
  cases e
  obtain ⟨m1, e1⟩ := line_mem h (show b ∈ bs by rw [eb]; simp)
  have le := mul_le_m (hq _ m1) hm
  refine ⟨by rw [e1]; grind, fun e2 => ?_⟩
  have : ow * m = b.sp * m := by rw [e1] at e2; grind
  rw [mul_inj this hm]; grind
def StK (p : Addr) (H : Hp) (Q : VK) : Prop := ∀ t r ws us bs v1 v2 l1 l2 H', Step p H H' → H' t = some (.tup [.ref r, .ref ws]) → H' r = some (.tup us) → BallsAt H' us bs → Good bs → 1 ≤ bs.length → bs.length ≤ 8 → H' ws = some (.tup [v1, v2]) → WallAt H' v1 l1 → WallAt H' v2 l2 → Box bs l1 l2 → Q (.ref t) H'
section
variable {P : Program} {w : World} {K : PySem.W.Frag} {mg : Str → Option Value} {base : Heap} {aN : Addr}
def spFo : Sp := fun vs H Q _ => ∃ (p : Addr) (al : Bool), vs = [.ref p, .bl al] ∧ Pool H p ∧ StK p H Q
theorem sc_fo : FnScope ["pool", "alike", "moment", "where", "row", "wall", "walls"] ["pool", "alike"] (defScope s_law_focused) := ⟨rfl, rfl, rfl, by decide +kernel, rfl, by decide +kernel, by decide +kernel⟩
theorem ok_fo (D : Df K mg "_law_focused" s_law_focused ["pool", "alike"] []) (T : TxB K mg) (cN : Cal P w K mg base "_law_next" 1 ["pool", "base"] [] spNext) (cRa : Cal P w K mg base "_law_ratio" 3 ["pool", "size"] [] spRa)
    (cL : Cal P w K mg base "_law_low" 1 ["top", "bottom"] [] spLow) (cBu : Cal P w K mg base "_law_bundle" 3 ["pool", "where", "place", "moment", "alike"] [] spBu) : Cal P w K mg base "_law_focused" 4 ["pool", "alike"] [] spFo := by
  refine D.calB (k := 3) sc_fo (fun vs H Q E h => by obtain ⟨_, _, rfl, _⟩ := h; rfl) (fun f cdv A outer s H vs Q E hr h => ?_)
  obtain ⟨p, al, rfl, hP, k⟩ := h
  have hr1 : Room 1 _ := hr.mono (by decide)
  refine ⟨_, (bx_scons (bx_set (i := 2) sc_fo.nd rfl (Or.inl rfl) (Bx.mk (pe_c cL hr1 (pa_cons (pe_op op_add pe_int (pe_c cN hr1 (pa_cons (pv 0) (pa_cons pe_int pa_nil)))) (pa_cons (pe_ix ix_list (pe_lst (pa_cons pe_int (pa_cons pe_int (pa_cons pe_int pa_nil)))) (pe_c cN hr1 (pa_cons (pv 0) (pa_cons pe_int pa_nil))) (fun _ _ => rfl)) pa_nil)))))
    (bx_scons (Bx.mk (ps_set (i := 3) sc_fo.nd rfl (Or.inl rfl) (pe_c cN hr1 (pa_cons (pv 0) (pa_cons pe_int pa_nil)))))
    (bx_scons (Bx.mk (ps_asg (pe_c cBu hr (pa_cons (pv 0) (pa_cons (pv 3) (pa_cons (pe_c cRa hr (pa_cons (pv 0) (pa_cons pe_int pa_nil))) (pa_cons (pv 2) (pa_cons (pv 1) pa_nil)))))) (pg_tup rfl (pgs_cons (pg_name (i := 4) sc_fo.nd rfl (Or.inl rfl)) (pgs_cons (pg_name (i := 5) sc_fo.nd rfl (Or.inl rfl)) pgs_nil)))))
    (bx_scons (bx_set (i := 6) sc_fo.nd rfl (Or.inl rfl) (bx_lst (bx_cons (Bx.mk pe_non) (bx_cons (Bx.mk pe_non) bx_nil))))
    (bx_scons (Bx.mk (ps_if (pt_cmpR op_gt (pv 3) pe_int (nomark _)) (pss_one (ps_asg (pv 5) (pg_sub (pv 6) (pe_op op_sub (pv 3) pe_int) set_list))) pss_nil))
    (Bx.mk (pss_one (ps_ret (pe_tup (pa_cons (pv 4) (pa_cons (pe_callTy call_tuple_of (by rfl) T.nTuple PyProof.Rows.boot_tuple (pa_cons (pv 6) pa_nil)) pa_nil))))))))))), ?_⟩
  refine st_mid (fun σ' G => ∃ rm mm, σ' = [some (.ref p), some (.bl al), some (.ref rm), none, none, none, none] ∧ Step p H G ∧ RatAt G rm mm ∧ Sz 5 mm ∧ 0 < mm) ?_ ?_
  rotate_left
  · intro nx hnx
    refine ⟨_, rfl, p, _, rfl, by decide, by decide, hP, fun d1 G1 a1 b1 t1 => ⟨_, _, rfl, rfl, by show 3 ≤ sizeLine; decide, fun l1 hl1 => ?_⟩⟩
    refine ⟨_, rfl, p, _, rfl, by decide, by decide, t1.pool.new hl1, fun d2 G2 a2 b2 t2 => ?_⟩
    obtain ⟨v, ev, v0, v1⟩ := menu3m a2 b2
    refine ⟨l1, _, _, _, rfl, rfl, .of (t2.keep l1 _ upd_same (t1.pool.ne hl1)), ev, ?_⟩
    exact ⟨_, _, rfl, by omega, Bd.mono (m := 5) (bdn (by omega) (by omega)) (by decide), fun r H' e h => hnx _ _ ⟨r, _, rfl, (t1.trans (t2.pre (Same.upd hl1))).same e, h, sz_q (by omega) (by omega) (by omega) (by omega), by rw [← Rat.zero_divInt v]; exact (divInt_lt (by omega)).mpr (by omega)⟩⟩
  rintro σ' G1 ⟨rm, mm, rfl, T1, hrm, zmm, pmm⟩
  refine ⟨_, rfl, p, _, rfl, by decide, by decide, T1.pool, fun wh G2 w0 w3 t2 => ?_⟩
  have T2 := T1.trans t2
  refine ⟨_, rfl, _, rfl, _, rfl, p, _, rfl, by decide, by decide, T2.pool, fun rp px G3 t3 hrp zrp => ?_⟩
  have T3 := T2.trans t3
  have hrm3 : RatAt G3 rm mm := step_tups T2.pool t3 _ _ (step_tups T1.pool t2 _ _ hrm)
  refine ⟨_, rfl, _, rfl, p, rp, rm, wh, al, px, mm, rfl, w0, by omega, hrp, zrp, hrm3, zmm, T3.pool, fun t r wl us bs ra rb y z G4 t4 ht hrr hB hZ h1 h8 hwl hra hrb zy zz hln => ?_⟩
  obtain ⟨qs, hL, hFD, rfl⟩ := hln
  have hG := line_good hL hFD.1 pmm hZ
  have T4 := T3.trans t4
  refine ⟨t, _, rfl, .of ht, rfl, _, _, rfl, _, _, rfl, rfl, ?_⟩
  refine ⟨by show 2 ≤ sizeLine; decide, fun lw hlw => ?_⟩
  have hlwH := T4.free hlw
  have hlwp := T4.pool.ne hlw
  have Tu5 : TupS G4 (upd G4 lw (.lst [.non, .non])) := .of (Same.upd hlw)
  have hlw5 : upd G4 lw (.lst [.non, .non]) lw = some (.lst [.non, .non]) := upd_same
  have T5 := T4.same (Same.upd (o := .lst [.non, .non]) hlw)
  generalize upd G4 lw (.lst [.non, .non]) = G5 at *
  dsimp only [gName]
  refine st_mid (fun σ' G => ∃ v1 v2 l1 l2, σ' = [some (.ref p), some (.bl al), some (.ref rm), some (.int wh), some (.ref r), some (.ref wl), some (.ref lw)] ∧ Step p H G ∧ TupS G4 G ∧ G lw = some (.lst [v1, v2]) ∧ WallAt G v1 l1 ∧ WallAt G v2 l2 ∧ Box bs l1 l2) ?_ ?_
  rotate_left
  · intro nx hnx
    refine ⟨_, rfl, _, _, rfl, rfl, _, rfl, ite2 (fun h => ?_) (fun h => hnx _ _ ⟨.non, .non, none, none, rfl, T5, Tu5, hlw5, rfl, rfl, box_no⟩)⟩
    have hw : wh = 1 ∨ wh = 2 := by have : 0 < wh := of_decide_eq_true h
                                    omega
    have wa : ∀ G, TupS G4 G → WallAt G (.ref wl) (some (px - z * mm, z)) := fun G e => ⟨wl, ra, rb, rfl, e _ _ hwl, e _ _ hra, e _ _ hrb⟩
    have TuL : ∀ xs, TupS G5 (upd G5 lw (.lst xs)) := fun xs => .upd hlw5
    rcases hw with rfl | rfl
    · exact ⟨_, rfl, _, rfl, _, rfl, _, _, rfl, rfl, lw, _, _, 0, rfl, rfl, hlw5, rfl, hnx _ _ ⟨.ref wl, .non, some (px - z * mm, z), none, rfl, T5.put hlwH hlwp _, Tu5.trans (TuL _), upd_same, wa _ (Tu5.trans (TuL _)), rfl, box_lo hL pmm (hFD.2.1 rfl) zy zz⟩⟩
    · exact ⟨_, rfl, _, rfl, _, rfl, _, _, rfl, rfl, lw, _, _, 1, rfl, rfl, hlw5, rfl, hnx _ _ ⟨.non, .ref wl, none, some (px - z * mm, z), rfl, T5.put hlwH hlwp _, Tu5.trans (TuL _), upd_same, rfl, wa _ (Tu5.trans (TuL _)), box_hi hL pmm (hFD.2.2 rfl) zy zz⟩⟩
  rintro σ' G6 ⟨v1, v2, l1, l2, rfl, T6, Tu6, hlw6, hv1, hv2, hBx⟩
  refine ⟨_, rfl, _, rfl, lw, _, rfl, .inl ⟨.of hlw6, fun ws hws => ⟨by show 2 ≤ sizeLine; decide, fun tt htt => ?_⟩⟩⟩
  have S := (Same.upd (o := .tup [v1, v2]) hws).trans (Same.upd (o := .tup [.ref r, .ref ws]) htt)
  exact k tt r ws us bs v1 v2 l1 l2 _ (T6.same S) upd_same (S _ _ (Tu6 _ _ hrr)) ((hB.mono Tu6).same S) hG h1 h8 (Same.upd htt _ _ upd_same) (hv1.tups (.of S)) (hv2.tups (.of S)) hBx
end
end KK
end
section
set_option maxHeartbeats 8000000
set_option Elab.async false
set_option linter.all false
set_option maxRecDepth 100000
namespace KK
open PySem L2 KM
def rwB (f : Int → Int) (b : Ball) : Ball := ⟨b.pl, b.sp, f b.wt⟩
theorem Good.rw {bs : List Ball} {f : Int → Int} (h : Good bs) (hf : ∀ x, 1 ≤ f x ∧ f x ≤ 1000) : Good (bs.map (rwB f)) :=
  ⟨fun b m => by obtain ⟨c, _, rfl⟩ := List.mem_map.mp m; exact hf c.wt, fun b m => by obtain ⟨c, mc, rfl⟩ := List.mem_map.mp m; exact h.sz c mc, by
    rw [List.pairwise_map]
    exact h.pw⟩
theorem Good.zb {bs : List Ball} (h : Good bs) : ZB bs := fun b m => ⟨(h.sz b m).1, (h.sz b m).2, (h.wt b m).1, (h.wt b m).2⟩
def BlAt (H : Hp) (v : V) (b : Ball) : Prop := ∃ a p q, v = .ref a ∧ H a = some (.tup [.ref p, .ref q, .int b.wt]) ∧ RatAt H p b.pl ∧ RatAt H q b.sp
theorem BlAt.tups {H H' : Hp} {v : V} {b : Ball} (h : BlAt H v b) (e : TupS H H') : BlAt H' v b := by
  obtain ⟨a, p, q, h1, h2, h3, h4⟩ := h
  exact ⟨a, p, q, h1, e _ _ h2, e _ _ h3, e _ _ h4⟩
theorem balls_of {H : Hp} : ∀ {ys : List V} {bs : List Ball}, ys.length = bs.length → (∀ (i : Nat) (v : V) (b : Ball), ys[i]? = some v → bs[i]? = some b → BlAt H v b) → BallsAt H ys bs
  | [], [], _, _ => .nil
  | [], _ :: _, h, _ => by simp at h
  | _ :: _, [], h, _ => by simp at h
  | y :: ys, b :: bs, h, k => by
    obtain ⟨a, p, q, rfl, h2, h3, h4⟩ := k 0 y b rfl rfl
    exact .cons h2 h3 h4 (balls_of (by simpa using h) fun i v c e1 e2 => k (i + 1) v c (by simpa using e1) (by simpa using e2))
section
variable {P : Program} {w : World} {K : PySem.W.Frag} {mg : Str → Option Value} {base : Heap} {aN : Addr}
theorem rew {σ : St} {H : Hp} {Q : VK} {r : Addr} {us : List V} {bs : List Ball} {f : Int → Int} {te : TE} (hσ : σ[1]? = some (some (.ref r))) (hr : H r = some (.tup us)) (hB : BallsAt H us bs) (hlen : bs.length ≤ 8)
    (ht : ∀ (a p q : Addr) (b : Ball) (G : Hp) (Q : VK), G a = some (.tup [.ref p, .ref q, .int b.wt]) → (∀ G', Same G G' → Q (.int (f b.wt)) G') → te [some (.ref a)] G Q)
    (k : ∀ r2 us2 H', Same H H' → H' r2 = some (.tup us2) → BallsAt H' us2 (bs.map (rwB f)) → Q (.ref r2) H') :
    tCB (fun xs H Q => ∃ p ys, xs = [.ref p] ∧ ((SqL K H p ys ∧ ∀ l, H l = none → Q (.ref l) (upd H l (.tup ys))) ∨ (SqT K H p ys ∧ Q (.ref p) H))) (tCons (tComp 1 (iTup K (tVar 1)) (gName 0) (fun _ H Q => Q true H) (tOp (rCatA K) (tSl (rSlT K) (tVar 0) tNoPart (tPart (tC (.int 2)))) (tTup (tCons te tNil)))) tNil) σ H Q := by
  unfold tCB tCons
  have hul := hB.length
  refine ⟨_, hσ, r, rfl, ⟨_, SqT.of hr⟩, fun Dc hDc => ?_⟩
  refine comp_each (J := Itt K r) (g := gName 0) (te := _) (n := 1) (xs := us) (fun i v G => ∀ b, bs[i]? = some b → BlAt G v (rwB f b)) (fun i v G G' e h b hb => (h b hb).tups e) hDc (runs_tup hr) (small1000 (by omega)) ?_ ?_
  · intro i x zs G Q' hx hz S hQ
    obtain ⟨y1, rfl⟩ := len1 hz
    obtain ⟨a, p, q, b, eb, rfl, ha, hp, hq⟩ := hB.get hx
    have haG := S _ _ ha
    refine ⟨_, rfl, _, rfl, a, _, rfl, .of haG, (by show ¬ (HT.sIx 3 0 none = 0 ∧ HT.sIx 3 3 (some 2) = 3); decide), fun p1 hp1 => ?_⟩
    refine ht a p q b _ _ (Same.upd hp1 _ _ haG) fun G2 e2 => ⟨by show 1 ≤ sizeLine; decide, fun p2 hp2 => ?_⟩
    have h1 : upd G2 p2 (.tup [.int (f b.wt)]) p1 = some (.tup [.ref p, .ref q]) := Same.upd hp2 _ _ (e2 _ _ upd_same)
    refine ⟨p1, p2, _, _, rfl, rfl, .of h1, .of upd_same, by show 3 ≤ sizeLine; decide, fun z => (by cases z), fun _ z => (by cases z), fun _ _ p3 hp3 => ?_⟩
    have S3 := (Same.upd (o := .tup [.ref p, .ref q]) hp1).trans (e2.trans ((Same.upd (o := .tup [.int (f b.wt)]) hp2).trans (Same.upd (o := .tup ([.ref p, .ref q] ++ [.int (f b.wt)])) hp3)))
    refine hQ _ _ S3 fun c hc => ?_
    rw [eb] at hc; cases hc
    exact ⟨p3, p, q, rfl, upd_same, S3 _ _ (S _ _ hp), S3 _ _ (S _ _ hq)⟩
  · intro ys G S hD hyl hR
    refine ⟨Dc, ys, rfl, .inl ⟨.of hD, fun r2 hr2 => k r2 ys _ (S.trans (Same.upd hr2)) upd_same ?_⟩⟩
    refine (balls_of (by rw [hyl, List.length_map]; exact hul) fun i v b e1 e2 => ?_).same (Same.upd hr2)
    rw [List.getElem?_map] at e2
    cases hb : bs[i]? with
    | none => rw [hb] at e2; cases e2
    | some c => rw [hb] at e2; cases e2; exact hR i v e1 c hb
def spSt : Sp := fun vs H Q _ => ∃ (p : Addr), vs = [.ref p] ∧ Pool H p ∧ StK p H Q
theorem sc_st : FnScope ["pool", "row"] ["pool"] (defScope s_law_start) := ⟨rfl, rfl, rfl, by decide +kernel, rfl, by decide +kernel, by decide +kernel⟩
theorem Box.wz2 {bs : List Ball} {l1 l2 : Wl} (h : Box bs l1 l2) : WZ l2 := h.z2
theorem ok_st (D : Df K mg "_law_start" s_law_start ["pool"] []) (T : TxB K mg) (cN : Cal P w K mg base "_law_next" 1 ["pool", "base"] [] spNext) (cFo : Cal P w K mg base "_law_focused" 4 ["pool", "alike"] [] spFo)
    (cRo : Cal P w K mg base "_law_row" 4 ["pool", "most"] [] spRow) (cBx : Cal P w K mg base "_law_box" 4 ["pool", "row"] [] spBx) : Cal P w K mg base "_law_start" 5 ["pool"] [] spSt := by
  refine D.calB (k := 4) sc_st (fun vs H Q E h => by obtain ⟨_, rfl, _⟩ := h; rfl) (fun f cdv A outer s H vs Q E hr h => ?_)
  obtain ⟨p, rfl, hP, k⟩ := h
  have hr1 : Room 1 _ := hr.mono (by decide)
  have hr4 : Room 4 _ := hr
  refine ⟨_, (bx_scons (Bx.mk (ps_if (pt_cmpR op_eq (pe_c cN hr1 (pa_cons (pv 0) (pa_cons pe_int pa_nil))) pe_int (nomark _)) (pss_one (ps_ret (pe_c cFo hr (pa_cons (pv 0) (pa_cons (pe_cmpR op_gt (pe_c cN hr1 (pa_cons (pv 0) (pa_cons pe_int pa_nil))) pe_int (nomark _)) pa_nil))))) pss_nil))
    (bx_scons (Bx.mk (ps_set (i := 1) sc_st.nd rfl (Or.inl rfl) (pe_c cRo hr4 (pa_cons (pv 0) (pa_cons (pe_ix ix_list (pe_lst (pa_cons pe_int (pa_cons pe_int (pa_cons pe_int (pa_cons pe_int pa_nil))))) (pe_c cN hr1 (pa_cons (pv 0) (pa_cons pe_int pa_nil))) (fun _ _ => rfl)) pa_nil)))))
    (bx_scons (Bx.mk (ps_set (i := 1) sc_st.nd rfl (Or.inl rfl) (pe_callTy call_tuple_of (by rfl) T.nTuple PyProof.Rows.boot_tuple (pa_cons (pe_comp (NB := ["ball"]) rfl (by decide +kernel) (by decide +kernel) rfl (by decide +kernel) (pi_tup (pv 1)) (by intro _ _ _; refine ⟨?_, ?_, ?_⟩; (exact (pg_name (i := 0) (show List.Nodup (["ball"] : List Str) by decide +kernel) rfl (Or.inl rfl))); (exact pts_nil); (exact (pe_op (op_catK (K := K) rfl) (pe_slice (sl_tupK (K := K) rfl) (pv 0) po_none (po_some pe_int)) (pe_tup (pa_cons (pe_op op_add pe_int (pe_op op_mod (pe_ix (ix_tupK (K := K) rfl) (pv 0) pe_int (fun _ _ => rfl)) pe_int)) pa_nil)))))) pa_nil))))
    (bx_scons (Bx.mk (ps_if (pt_cmpR op_gt (pe_callB call_len_seq (by rfl) T.nLen PySem.boot_len (pa_cons (pv 1) pa_nil)) pe_int (nomark _)) (pss_one (ps_set (i := 1) sc_st.nd rfl (Or.inl rfl) (pe_callTy call_tuple_of (by rfl) T.nTuple PyProof.Rows.boot_tuple (pa_cons (pe_comp (NB := ["ball"]) rfl (by decide +kernel) (by decide +kernel) rfl (by decide +kernel) (pi_tup (pv 1)) (by intro _ _ _; refine ⟨?_, ?_, ?_⟩; (exact (pg_name (i := 0) (show List.Nodup (["ball"] : List Str) by decide +kernel) rfl (Or.inl rfl))); (exact pts_nil); (exact (pe_op (op_catK (K := K) rfl) (pe_slice (sl_tupK (K := K) rfl) (pv 0) po_none (po_some pe_int)) (pe_tup (pa_cons pe_int pa_nil)))))) pa_nil)))) pss_nil))
    (Bx.mk (pss_one (ps_ret (pe_tup (pa_cons (pv 1) (pa_cons (pe_c cBx hr4 (pa_cons (pv 0) (pa_cons (pv 1) pa_nil))) pa_nil)))))))))), ?_⟩
  refine ⟨_, rfl, p, _, rfl, by decide, by decide, hP, fun d1 G1 a1 b1 t1 => ⟨rfl, _, rfl, ite2 (fun h => ?_) (fun h => ?_)⟩⟩
  · refine ⟨_, rfl, _, rfl, p, _, rfl, by decide, by decide, t1.pool, fun d2 G2 a2 b2 t2 => ⟨_, _, rfl, rfl, p, _, rfl, t2.pool, fun t r ws us bs v1 v2 l1 l2 H' T' => k t r ws us bs v1 v2 l1 l2 H' ((t1.trans t2).trans T')⟩⟩
  refine st_next ?_
  dsimp only
  refine st_mid (fun σ' G => ∃ r us bs, σ' = [some (.ref p), some (.ref r)] ∧ Step p H G ∧ G r = some (.tup us) ∧ BallsAt G us bs ∧ Good bs ∧ 1 ≤ bs.length ∧ bs.length ≤ 8) ?_ ?_
  rotate_left
  · intro nx hnx
    refine ⟨_, rfl, by show 4 ≤ sizeLine; decide, fun l1 hl1 => ?_⟩
    refine ⟨_, rfl, p, _, rfl, by decide, by decide, t1.pool.new hl1, fun d2 G2 a2 b2 t2 => ?_⟩
    obtain ⟨v, ev, v0, v1⟩ := menu4t a2 b2
    refine ⟨l1, _, _, _, rfl, rfl, .of (t2.keep l1 _ upd_same (t1.pool.ne hl1)), ev, ?_⟩
    exact ⟨p, v, rfl, by omega, by omega, t2.pool, fun r us bs G3 t3 hr' hB hG h1 h8 => hnx _ _ ⟨r, us, bs, rfl, (t1.trans (t2.pre (Same.upd hl1))).trans t3, hr', hB, hG, h1, h8⟩⟩
  rintro σ' G2 ⟨r, us, bs, rfl, T2, hr2, hB2, hG2, h1, h8⟩
  refine st_mid (fun σ' G => ∃ r us bs, σ' = [some (.ref p), some (.ref r)] ∧ Step p H G ∧ G r = some (.tup us) ∧ BallsAt G us bs ∧ Good bs ∧ 1 ≤ bs.length ∧ bs.length ≤ 8) ?_ ?_
  rotate_left
  · intro nx hnx
    refine rew (K := K) (f := fun n => 1 + n % 9) rfl hr2 hB2 h8 (fun a p q b G Q' ha hQ => ?_) fun r3 us3 G3 S3 hr3 hB3 => hnx _ _ ⟨r3, us3, _, rfl, T2.same S3, hr3, hB3, hG2.rw fun x => by show 1 ≤ 1 + x % 9 ∧ 1 + x % 9 ≤ 1000; omega, by simpa using h1, by simpa using h8⟩
    exact ⟨_, rfl, a, _, _, _, rfl, rfl, .of ha, rfl, _, _, rfl, rfl, (by show (0 : Int) < 9; decide), _, _, rfl, rfl, hQ _ (Same.refl _)⟩
  clear hr2 hB2 hG2 h1 h8 T2
  rintro σ' G3 ⟨r, us, bs, rfl, T3, hr3, hB3, hG3, h1, h8⟩
  have hul := hB3.length
  refine st_mid (fun σ' G => ∃ r us bs, σ' = [some (.ref p), some (.ref r)] ∧ Step p H G ∧ G r = some (.tup us) ∧ BallsAt G us bs ∧ Good bs ∧ 1 ≤ bs.length ∧ bs.length ≤ 8) ?_ ?_
  rotate_left
  · intro nx hnx
    refine ⟨_, rfl, r, _, rfl, .inr (.of hr3), _, _, rfl, rfl, _, rfl, ite2 (fun h => ?_) (fun h => hnx _ _ ⟨r, us, bs, rfl, T3, hr3, hB3, hG3, h1, h8⟩)⟩
    refine rew (K := K) (f := fun n => 7) rfl hr3 hB3 h8 (fun a p q b G Q' ha hQ => ?_) fun r4 us4 G4 S4 hr4 hB4 => hnx _ _ ⟨r4, us4, _, rfl, T3.same S4, hr4, hB4, hG3.rw fun x => by decide, by simpa using h1, by simpa using h8⟩
    exact hQ _ (Same.refl _)
  clear hr3 hB3 hG3 h1 h8 T3 hul
  rintro σ' G4 ⟨r, us, bs, rfl, T4, hr4', hB4, hG4, h1, h8⟩
  refine ⟨_, rfl, _, rfl, _, rfl, p, r, us, bs, rfl, hr4', hB4, hG4, h1, T4.pool, fun t v1 v2 l1 l2 G5 T5 ht hv1 hv2 hBx => ⟨by show 2 ≤ sizeLine; decide, fun tt htt => ?_⟩⟩
  have Tu5 := step_tups T4.pool T5
  have S : Same G5 (upd G5 tt (.tup [.ref r, .ref t])) := Same.upd htt
  exact k tt r t us bs v1 v2 l1 l2 _ ((T4.trans T5).same S) upd_same (S _ _ (Tu5 _ _ hr4')) ((hB4.mono Tu5).same S) hG4 h1 h8 (S _ _ ht) (hv1.tups (.of S)) (hv2.tups (.of S)) hBx
end
end KK
end
section
set_option maxHeartbeats 8000000
set_option Elab.async false
set_option linter.all false
set_option maxRecDepth 100000
namespace KK
open PySem L2 KM
theorem KPair.sq {K : PySem.W.Frag} {a : Addr} {i j : Int} (h : KPair K a i j) (H : Hp) : SqT K H a [.int i, .int j] := by
  obtain ⟨o, t, u, n, e1, e2, e3⟩ := h
  exact .inr ⟨o, _, n, e1, e2, e3, by show 2 ≤ sizeLine; decide, .cons ⟨_, rfl⟩ (.cons ⟨_, rfl⟩ .nil)⟩
def ahd (ws : List Rat) : Nat → Rat
  | 0 => 0
  | i + 1 => ahd ws i + ws.getD i 0
theorem ahd_sz {ws : List Rat} (h : ∀ x ∈ ws, Sz 27 x) : ∀ i, i ≤ ws.length → Sz (1 + 28 * i) (ahd ws i)
  | 0, _ => ⟨show (0 : Int).natAbs < 2 ^ 1 by decide, show (1 : Int).natAbs < 2 ^ 1 by decide⟩
  | i + 1, hi => by
    have h1 := ahd_sz h i (by omega)
    have e : ws.getD i 0 = ws[i]'(by omega) := by simp [List.getD_eq_getElem?_getD, List.getElem?_eq_getElem (show i < ws.length by omega)]
    show Sz _ (ahd ws i + ws.getD i 0)
    rw [e]
    exact (h1.add (h _ (List.getElem_mem _))).mono (by omega)
def Rt (aN : Addr) (H : Hp) (v : V) (x : Rat) : Prop := ∃ r, v = .ref r ∧ (RatAt H r x ∨ (r = aN ∧ x = 0))
theorem Rt.tups {aN : Addr} {H H' : Hp} {v : V} {x : Rat} (h : Rt aN H v x) (e : TupS H H') : Rt aN H' v x := by
  obtain ⟨r, a, b⟩ := h
  rcases b with b | b
  · exact ⟨r, a, .inl (e _ _ b)⟩
  · exact ⟨r, a, .inr b⟩
theorem Rt.sq {K : PySem.W.Frag} {aN : Addr} {H : Hp} {v : V} {x : Rat} (h : Rt aN H v x) (hN : KPair K aN 0 1) : ∃ r, v = .ref r ∧ SqT K H r (rp x) := by
  obtain ⟨r, a, b⟩ := h
  rcases b with b | ⟨rfl, rfl⟩
  · exact ⟨r, a, .of b⟩
  · exact ⟨_, a, KPair.sq hN H⟩
def RsR (H : Hp) (us : List V) (ws : List Rat) : Prop := us.length = ws.length ∧ ∀ (i : Nat) (v : V) (x : Rat), us[i]? = some v → ws[i]? = some x → ∃ r, v = .ref r ∧ RatAt H r x
theorem RsR.tups {H H' : Hp} {us : List V} {ws : List Rat} (h : RsR H us ws) (e : TupS H H') : RsR H' us ws := ⟨h.1, fun i v x a b => let ⟨r, p, q⟩ := h.2 i v x a b; ⟨r, p, e _ _ q⟩⟩
def BrAt (H : Hp) (v : V) (b : Ball) (x : Rat) : Prop := ∃ a p q r, v = .ref a ∧ H a = some (.tup [.ref p, .ref q, .int b.wt, .ref r]) ∧ RatAt H p b.pl ∧ RatAt H q b.sp ∧ RatAt H r x
theorem BrAt.tups {H H' : Hp} {v : V} {b : Ball} {x : Rat} (h : BrAt H v b x) (e : TupS H H') : BrAt H' v b x := by
  obtain ⟨a, p, q, r, h1, h2, h3, h4, h5⟩ := h
  exact ⟨a, p, q, r, h1, e _ _ h2, e _ _ h3, e _ _ h4, e _ _ h5⟩
structure BrsAt (H : Hp) (us : List V) (bs : List Ball) (ws : List Rat) : Prop where
  l1 : us.length = bs.length
  l2 : ws.length = bs.length
  at' : ∀ (i : Nat) (v : V) (b : Ball) (x : Rat), us[i]? = some v → bs[i]? = some b → ws[i]? = some x → BrAt H v b x
theorem BrsAt.tups {H H' : Hp} {us : List V} {bs : List Ball} {ws : List Rat} (h : BrsAt H us bs ws) (e : TupS H H') : BrsAt H' us bs ws := ⟨h.l1, h.l2, fun i v b x a c d => (h.at' i v b x a c d).tups e⟩
def WallZ (l : Wl) : Prop := ∀ x y, l = some (x, y) → Sz 4000 x
def mvW (l : Wl) (y : Rat) : Wl := match l with | none => none | some (x, s) => some (x + y, s)
section
variable {P : Program} {w : World} {K : PySem.W.Frag} {mg : Str → Option Value} {base : Heap} {aN : Addr}
theorem nought_sq (h : KPair K aN 0 1) (H : Hp) : SqT K H aN (rp 0) := KPair.sq h H
def spBinK (K : PySem.W.Frag) (C : Rat → Rat → Prop) (f : Rat → Rat → Rat) : Sp := fun vs H Q _ => ∃ p q x y, vs = [.ref p, .ref q] ∧ SqT K H p (rp x) ∧ SqT K H q (rp y) ∧ C x y ∧ ∀ r H', Same H H' → RatAt H' r (f x y) → Q (.ref r) H'
theorem ok_minusK (D : Df K mg "minus" s_minus ["one", "other"] []) (c : Cal P w K mg base "ratio" 2 ["top", "bottom"] [] spLow) : Cal P w K mg base "minus" 3 ["one", "other"] [] (spBinK K Sz2 (· - ·)) := by
  refine D.cal (k := 2) sc_minus (fun vs H Q E h => by obtain ⟨_, _, _, _, rfl, _⟩ := h; rfl) (fun f cdv A outer s H vs Q E hr h => ?_)
  obtain ⟨p, q, x, y, rfl, hp, hq, ⟨hx, hy⟩, k⟩ := h
  have bx := Bd4 hx
  have b_y := Bd4 hy
  refine ⟨_, (pss_one (ps_ret (pe_c c hr (pa_cons (pe_op op_sub (pe_op op_mulB (pe_ix ix_tup (pv 0) pe_int (fun _ _ => rfl)) (pe_ix ix_tup (pv 1) pe_int (fun _ _ => rfl))) (pe_op op_mulB (pe_ix ix_tup (pv 1) pe_int (fun _ _ => rfl)) (pe_ix ix_tup (pv 0) pe_int (fun _ _ => rfl)))) (pa_cons (pe_op op_mulB (pe_ix ix_tup (pv 0) pe_int (fun _ _ => rfl)) (pe_ix ix_tup (pv 1) pe_int (fun _ _ => rfl))) pa_nil))))), ?_⟩
  refine ⟨_, rfl, p, _, _, _, rfl, rfl, hp, at0 .., _, rfl, q, _, _, _, rfl, rfl, hq, at1 .., _, _, rfl, rfl, ⟨bx.1, b_y.2⟩, _, rfl, q, _, _, _, rfl, rfl, hq, at0 .., _, rfl, p, _, _, _, rfl, rfl, hp, at1 .., _, _, rfl, rfl, ⟨b_y.1, bx.2⟩, _, _, rfl, rfl, ?_⟩
  refine ⟨_, rfl, p, _, _, _, rfl, rfl, hp, at1 .., _, rfl, q, _, _, _, rfl, rfl, hq, at1 .., _, _, rfl, rfl, ⟨bx.2, b_y.2⟩, ?_⟩
  refine ⟨_, _, rfl, Int.mul_ne_zero (den_ne x) (den_ne y), (hx.2.mul hy.2).mono (by decide), fun r H' e h => k r H' e ?_⟩
  show RatAt H' r (x - y)
  rw [← KM.minus_eq]; exact h
theorem ok_plusK (D : Df K mg "plus" s_plus ["one", "other"] []) (c : Cal P w K mg base "ratio" 2 ["top", "bottom"] [] spLow) : Cal P w K mg base "plus" 3 ["one", "other"] [] (spBinK K Sz2 (· + ·)) := by
  refine D.cal (k := 2) sc_plus (fun vs H Q E h => by obtain ⟨_, _, _, _, rfl, _⟩ := h; rfl) (fun f cdv A outer s H vs Q E hr h => ?_)
  obtain ⟨p, q, x, y, rfl, hp, hq, ⟨hx, hy⟩, k⟩ := h
  have bx := Bd4 hx
  have b_y := Bd4 hy
  refine ⟨_, (pss_one (ps_ret (pe_c c hr (pa_cons (pe_op op_add (pe_op op_mulB (pe_ix ix_tup (pv 0) pe_int (fun _ _ => rfl)) (pe_ix ix_tup (pv 1) pe_int (fun _ _ => rfl))) (pe_op op_mulB (pe_ix ix_tup (pv 1) pe_int (fun _ _ => rfl)) (pe_ix ix_tup (pv 0) pe_int (fun _ _ => rfl)))) (pa_cons (pe_op op_mulB (pe_ix ix_tup (pv 0) pe_int (fun _ _ => rfl)) (pe_ix ix_tup (pv 1) pe_int (fun _ _ => rfl))) pa_nil))))), ?_⟩
  refine ⟨_, rfl, p, _, _, _, rfl, rfl, hp, at0 .., _, rfl, q, _, _, _, rfl, rfl, hq, at1 .., _, _, rfl, rfl, ⟨bx.1, b_y.2⟩, _, rfl, q, _, _, _, rfl, rfl, hq, at0 .., _, rfl, p, _, _, _, rfl, rfl, hp, at1 .., _, _, rfl, rfl, ⟨b_y.1, bx.2⟩, _, _, rfl, rfl, ?_⟩
  refine ⟨_, rfl, p, _, _, _, rfl, rfl, hp, at1 .., _, rfl, q, _, _, _, rfl, rfl, hq, at1 .., _, _, rfl, rfl, ⟨bx.2, b_y.2⟩, ?_⟩
  refine ⟨_, _, rfl, Int.mul_ne_zero (den_ne x) (den_ne y), (hx.2.mul hy.2).mono (by decide), fun r H' e h => k r H' e ?_⟩
  show RatAt H' r (x + y)
  rw [← KM.plus_eq]; exact h
def spWA (aN : Addr) : Sp := fun vs H Q _ => ∃ k a us ws, vs = [.ref a] ∧ HSq k H a us ∧ RsR H us ws ∧ (∀ x ∈ ws, Sz 27 x) ∧ ws.length ≤ 25 ∧ ∀ l vs' H', Same H H' → H' l = some (.lst vs') → vs'.length = ws.length + 1 → (∀ (i : Nat) (v : V), vs'[i]? = some v → Rt aN H' v (ahd ws i)) → Q (.ref l) H'
theorem sc_wa : FnScope ["widths", "sums", "width"] ["widths"] (defScope s_widths_ahead) := ⟨rfl, rfl, rfl, by decide +kernel, rfl, by decide +kernel, by decide +kernel⟩
theorem ok_wa (D : Df K mg "widths_ahead" s_widths_ahead ["widths"] []) (TW : TxW K mg aN) (cP : Cal P w K mg base "plus" 3 ["one", "other"] [] (spBinK K Sz2 (· + ·))) : Cal P w K mg base "widths_ahead" 4 ["widths"] [] (spWA aN) := by
  refine D.cal (k := 3) sc_wa (fun vs H Q E h => by obtain ⟨_, _, _, _, rfl, _⟩ := h; rfl) (fun f cdv A outer s H vs Q E hr h => ?_)
  obtain ⟨kk, a, us, ws, rfl, ha, hR, zw, hl8, k⟩ := h
  refine ⟨_, (pss_cons (ps_set (i := 1) sc_wa.nd rfl (Or.inl rfl) (pe_lst (pa_cons (pe_glob (v := .ref aN) (by rfl) TW.mn rfl) pa_nil)))
    (pss_cons (ps_for PassesOwn.never rfl (pi_seq (pv 0)) (pg_name (i := 2) sc_wa.nd rfl (Or.inl rfl)) (pss_one (ps_expr (pe_bm PySem.F.plainAttrs_list PySem.F.slot_list_append PySem.F.type_list_append mt_append (pv 1) (pa_cons (pe_c cP hr (pa_cons (pe_ix ix_list (pv 1) (pe_un un_neg pe_int) (fun _ _ => rfl)) (pa_cons (pv 2) pa_nil))) pa_nil)))))
    (pss_one (ps_ret (pv 1))))), ?_⟩
  refine ⟨by show 1 ≤ sizeLine; decide, fun l hl => ?_⟩
  have S1 : Same H (upd H l (.lst [.ref aN])) := Same.upd hl
  have hl1 : upd H l (.lst [.ref aN]) l = some (.lst [.ref aN]) := upd_same
  have hal : a ≠ l := ha.ne hl
  dsimp only [gName]
  refine st_for ?_
  refine ⟨_, rfl, kk, a, rfl, ⟨us, (ha.same S1).sq⟩, ?_⟩
  have hul := hR.1
  refine for_seq (xs := us) (fun i σ G => ∃ z2 vs', σ = [some (.ref a), some (.ref l), z2] ∧ Same H G ∧ G l = some (.lst vs') ∧ vs'.length = i + 1 ∧ ∀ (j : Nat) (v : V), vs'[j]? = some v → Rt aN G v (ahd ws j))
    ⟨_, _, rfl, S1, hl1, rfl, fun j v e => ?_⟩ (fun i σ G ⟨_, _, _, s, _⟩ => (ha.same s).sq) ?_ ?_
  · match j, e with
    | 0, e => cases e; exact ⟨aN, rfl, .inr ⟨rfl, rfl⟩⟩
    | j + 1, e => simp at e
  · rintro i x σ G hx ⟨z2, vs', rfl, SG, hlG, hvl, hvR⟩
    have hi : i < us.length := (List.getElem?_eq_some_iff.mp hx).1
    obtain ⟨q, eq⟩ : ∃ q, ws[i]? = some q := ⟨_, List.getElem?_eq_getElem (by omega)⟩
    obtain ⟨r, rfl, hr'⟩ := hR.2 i x q hx eq
    obtain ⟨vl, evl⟩ : ∃ vl, vs'[i]? = some vl := ⟨_, List.getElem?_eq_getElem (by omega)⟩
    obtain ⟨rl, rfl, hrl⟩ := (hvR i vl evl).sq TW.kn
    have elast : atI vs' (-1) = some (.ref rl) := by
      obtain ⟨cs, c, e⟩ : ∃ cs c, vs' = cs ++ [c] := by
        rcases List.eq_nil_or_concat vs' with e | ⟨cs, c, e⟩
        · rw [e] at hvl; simp at hvl
        · exact ⟨cs, c, by simpa using e⟩
      subst e
      have hc : cs.length = i := by simpa using hvl
      rw [List.getElem?_append_right (by omega), hc, Nat.sub_self] at evl
      cases evl
      exact atI_last _ _
    refine ⟨_, rfl, .inl ⟨rfl, _, SqL.of hlG⟩, _, rfl, _, rfl, l, _, _, _, rfl, rfl, .of hlG, elast, _, rfl, rl, r, _, q, rfl, hrl, .of (SG _ _ hr'), ⟨(ahd_sz zw i (by omega)).mono (by omega), (zw q (List.mem_of_getElem? eq)).mono (by decide)⟩, fun r2 G2 e2 h2 => ?_⟩
    have hlG2 := e2 _ _ hlG
    refine ⟨l, vs', _, rfl, rfl, hlG2, small1000 (by omega), ?_⟩
    have hlH := hl
    have S2 : Same H (upd G2 l (.lst (vs' ++ [.ref r2]))) := fun b o e => by rw [upd_ne (ne_of_none e hlH)]; exact e2 _ _ (SG _ _ e)
    have Tu : TupS G2 (upd G2 l (.lst (vs' ++ [.ref r2]))) := .upd hlG2
    refine ⟨_, vs' ++ [.ref r2], rfl, S2, upd_same, by simp [hvl], fun j v e => ?_⟩
    by_cases hj : j < vs'.length
    · rw [List.getElem?_append_left hj] at e
      exact ((hvR j v e).tups (.of e2)).tups Tu
    · rw [List.getElem?_append_right (by omega)] at e
      have hj' : j - vs'.length = 0 := by
        rcases Nat.eq_zero_or_pos (j - vs'.length) with z | z
        · exact z
        · rw [List.getElem?_eq_none (by simp; omega)] at e; cases e
      rw [hj'] at e; cases e
      have : j = i + 1 := by omega
      subst this
      refine ⟨r2, rfl, .inl ?_⟩
      have h3 : RatAt (upd G2 l (.lst (vs' ++ [.ref r2]))) r2 (ahd ws i + q) := Tu _ _ h2
      have e3 : ahd ws (i + 1) = ahd ws i + q := by show ahd ws i + ws.getD i 0 = _; rw [List.getD_eq_getElem?_getD, eq]; rfl
      rw [e3]; exact h3
  · rintro σ G ⟨z2, vs', rfl, SG, hlG, hvl, hvR⟩
    exact ⟨_, rfl, k l vs' G SG hlG (by omega) hvR⟩
def spWM (K : PySem.W.Frag) : Sp := fun vs H Q _ => ∃ v p l y, vs = [v, .ref p] ∧ WallAt H v l ∧ RatAt H p y ∧ WallZ l ∧ Sz 4000 y ∧ ∀ v' H', Same H H' → WallAt H' v' (mvW l y) → Q v' H'
theorem sc_wm : FnScope ["wall", "way"] ["wall", "way"] (defScope s_wall_moved) := ⟨rfl, rfl, rfl, by decide +kernel, rfl, by decide +kernel, by decide +kernel⟩
theorem ok_wm (D : Df K mg "wall_moved" s_wall_moved ["wall", "way"] []) (cP : Cal P w K mg base "plus" 3 ["one", "other"] [] (spBinK K Sz2 (· + ·))) : Cal P w K mg base "wall_moved" 4 ["wall", "way"] [] (spWM K) := by
  refine D.cal (k := 3) sc_wm (fun vs H Q E h => by obtain ⟨_, _, _, _, rfl, _⟩ := h; rfl) (fun f cdv A outer s H vs Q E hr h => ?_)
  obtain ⟨v, p, l, y, rfl, hv, hp, zl, zy, k⟩ := h
  refine ⟨_, (pss_cons (ps_if (pt_cmpR op_isN (pv 0) pe_non (nomark _)) (pss_one (ps_ret pe_non)) pss_nil)
    (pss_one (ps_ret (pe_tup (pa_cons (pe_c cP hr (pa_cons (pe_ix ix_tup (pv 0) pe_int (fun _ _ => rfl)) (pa_cons (pv 1) pa_nil))) (pa_cons (pe_ix ix_tup (pv 0) pe_int (fun _ _ => rfl)) pa_nil)))))), ?_⟩
  cases l with
  | none =>
    obtain rfl : v = .non := hv
    exact ⟨_, rfl, rfl, _, rfl, iteT (k .non H (Same.refl _) rfl)⟩
  | some z =>
    obtain ⟨x, sp⟩ := z
    obtain ⟨a, pa, qa, rfl, ha, hpa, hqa⟩ := hv
    refine ⟨_, rfl, rfl, _, rfl, iteF ?_⟩
    refine ⟨_, rfl, a, _, _, _, rfl, rfl, .of ha, rfl, _, rfl, pa, p, x, y, rfl, .of hpa, .of hp, ⟨zl x sp rfl, zy⟩, fun r G e hr' => ?_⟩
    have haG := e _ _ ha
    refine ⟨_, rfl, a, _, _, _, rfl, rfl, .of haG, rfl, by show 2 ≤ sizeLine; decide, fun t ht => k _ _ (e.trans (Same.upd ht)) ⟨t, r, qa, rfl, upd_same, Same.upd ht _ _ hr', Same.upd ht _ _ (e _ _ hqa)⟩⟩
def spWO : Sp := fun vs H Q _ => ∃ a us bs ws, vs = [.ref a] ∧ H a = some (.tup us) ∧ BrsAt H us bs ws ∧ bs.length ≤ 25 ∧ ∀ l vs' H', Same H H' → H' l = some (.lst vs') → RsR H' vs' ws → Q (.ref l) H'
theorem sc_wo : FnScope ["broad"] ["broad"] (defScope s_widths_of) := ⟨rfl, rfl, rfl, by decide +kernel, rfl, by decide +kernel, by decide +kernel⟩
theorem ok_wo (D : Df K mg "widths_of" s_widths_of ["broad"] []) : Cal P w K mg base "widths_of" 1 ["broad"] [] spWO := by
  refine D.cal (k := 0) sc_wo (fun vs H Q E h => by obtain ⟨_, _, _, _, rfl, _⟩ := h; rfl) (fun f cdv A outer s H vs Q E hr h => ?_)
  obtain ⟨a, us, bs, ws, rfl, ha, hB, hl8, k⟩ := h
  refine ⟨_, (pss_one (ps_ret (pe_comp (NB := ["place", "speed", "weight", "width"]) rfl (by decide +kernel) (by decide +kernel) rfl (by decide +kernel) (pi_tup (pv 0)) (by intro _ _ _; refine ⟨?_, ?_, ?_⟩; (exact (pg_tupK (K := K) (n := 4) rfl rfl (pgs_cons (pg_name (i := 0) (show List.Nodup (["place", "speed", "weight", "width"] : List Str) by decide +kernel) rfl (Or.inl rfl)) (pgs_cons (pg_name (i := 1) (show List.Nodup (["place", "speed", "weight", "width"] : List Str) by decide +kernel) rfl (Or.inl rfl)) (pgs_cons (pg_name (i := 2) (show List.Nodup (["place", "speed", "weight", "width"] : List Str) by decide +kernel) rfl (Or.inl rfl)) (pgs_cons (pg_name (i := 3) (show List.Nodup (["place", "speed", "weight", "width"] : List Str) by decide +kernel) rfl (Or.inl rfl)) pgs_nil)))))); (exact pts_nil); (exact (pv 3)))))), ?_⟩
  have h1 := hB.l1
  have h2 := hB.l2
  refine ⟨_, rfl, a, rfl, ⟨_, .of ha⟩, fun Dc hDc => ?_⟩
  refine comp_each (J := Itt K a) (te := _) (n := 4) (xs := us) (fun i v G => ∀ x, ws[i]? = some x → ∃ r, v = .ref r ∧ RatAt G r x) (fun i v G G' e h x hx => let ⟨r, p, q⟩ := h x hx; ⟨r, p, e _ _ q⟩) hDc (runs_tup ha) (small1000 (by omega)) ?_ ?_
  · intro i x zs G Q' hx hz S hQ
    have hi : i < us.length := (List.getElem?_eq_some_iff.mp hx).1
    obtain ⟨b, eb⟩ : ∃ b, bs[i]? = some b := ⟨_, List.getElem?_eq_getElem (by omega)⟩
    obtain ⟨q, eq⟩ : ∃ q, ws[i]? = some q := ⟨_, List.getElem?_eq_getElem (by omega)⟩
    obtain ⟨c, p1, p2, p3, rfl, hc, g1, g2, g3⟩ := hB.at' i x b q hx eb eq
    obtain ⟨y1, y2, y3, y4, rfl⟩ : ∃ a b c d, zs = [a, b, c, d] := by
      match zs, hz with
      | [a, b, c, d], _ => exact ⟨a, b, c, d, rfl⟩
    have hcG := S _ _ hc
    refine ⟨c, _, rfl, .of hcG, rfl, _, _, rfl, _, _, rfl, _, _, rfl, _, _, rfl, rfl, ?_⟩
    exact ⟨_, rfl, hQ _ _ (Same.refl _) fun x hx => by rw [eq] at hx; cases hx; exact ⟨p3, rfl, S _ _ g3⟩⟩
  · intro ys G S hD hyl hR
    exact k Dc ys G S hD ⟨by rw [hyl]; omega, fun i v x e1 e2 => hR i v e1 x e2⟩
end
end KK
end
section
set_option maxHeartbeats 8000000
set_option Elab.async false
set_option linter.all false
set_option maxRecDepth 100000
namespace KK
open PySem L2 KM
theorem sel_true (n : Nat) : sel (fun _ => true) n = List.range n := by
  unfold sel
  simp
def thB (ws : List Rat) (bs : List Ball) : List Ball := bs.mapIdx fun i b => ⟨b.pl - ahd ws i, b.sp, b.wt⟩
def tkB (ws : List Rat) (bs : List Ball) : List Ball := bs.mapIdx fun i b => ⟨b.pl + ahd ws i, b.sp, b.wt⟩
section
variable {P : Program} {w : World} {K : PySem.W.Frag} {mg : Str → Option Value} {base : Heap} {aN : Addr}
def spTh : Sp := fun vs H Q _ => ∃ a us bs ws wl v1 v2 l1 l2, vs = [.ref a, .ref wl] ∧ H a = some (.tup us) ∧ BrsAt H us bs ws ∧ bs.length ≤ 25 ∧ (∀ x ∈ ws, Sz 27 x) ∧ (∀ b ∈ bs, Sz 600 b.pl) ∧ H wl = some (.tup [v1, v2]) ∧ WallAt H v1 l1 ∧ WallAt H v2 l2 ∧ WallZ l2 ∧
  ∀ t r us' w' v' H', Same H H' → H' t = some (.tup [.ref r, .ref w']) → H' r = some (.tup us') → BallsAt H' us' (thB ws bs) → H' w' = some (.tup [v1, v']) → WallAt H' v' (mvW l2 (0 - ahd ws ws.length)) → Q (.ref t) H'
theorem sc_th : FnScope ["broad", "walls", "ahead", "row"] ["broad", "walls"] (defScope s_thinned) := ⟨rfl, rfl, rfl, by decide +kernel, rfl, by decide +kernel, by decide +kernel⟩
theorem ok_th (D : Df K mg "thinned" s_thinned ["broad", "walls"] []) (T : TxB K mg) (TW : TxW K mg aN) (cM : Cal P w K mg base "minus" 3 ["one", "other"] [] (spBinK K Sz2 (· - ·))) (cWA : Cal P w K mg base "widths_ahead" 4 ["widths"] [] (spWA aN)) (cWO : Cal P w K mg base "widths_of" 1 ["broad"] [] spWO) (cWM : Cal P w K mg base "wall_moved" 4 ["wall", "way"] [] (spWM K)) : Cal P w K mg base "thinned" 5 ["broad", "walls"] [] spTh := by
  refine D.calB (k := 4) sc_th (fun vs H Q E h => by obtain ⟨_, _, _, _, _, _, _, _, _, rfl, _⟩ := h; rfl) (fun f cdv A outer s H vs Q E hr h => ?_)
  obtain ⟨a, us, bs, ws, wl, v1, v2, l1, l2, rfl, ha, hB, hl8, zw, zb, hwl, hv1, hv2, z2, k⟩ := h
  have hr1 : Room 1 _ := hr.mono (by decide)
  have hr3 : Room 3 _ := hr.mono (by decide)
  have e1 := hB.l1
  have e2 := hB.l2
  refine ⟨_, (bx_scons (Bx.mk (ps_set (i := 2) sc_th.nd rfl (Or.inl rfl) (pe_c cWA hr (pa_cons (pe_c cWO hr1 (pa_cons (pv 0) pa_nil)) pa_nil))))
    (bx_scons (Bx.mk (ps_setC (i := 3) (NB := ["ball", "taken"]) (FR := []) (js := []) rfl rfl (fun _ _ h => by cases h) .nil rfl (by decide +kernel) rfl (by decide +kernel) sc_th.nd rfl rfl (by rfl) (pi_zip2 (by rfl) TW.nZip (pa_cons (pv 0) (pa_cons (pv 2) pa_nil))) (by intro _ _ _; refine ⟨?_, ?_, ?_⟩; (exact (pg_tupK (K := K) (n := 2) rfl rfl (pgs_cons (pg_name (i := 0) (show List.Nodup (["ball", "taken"] : List Str) by decide +kernel) rfl (Or.inl rfl)) (pgs_cons (pg_name (i := 1) (show List.Nodup (["ball", "taken"] : List Str) by decide +kernel) rfl (Or.inl rfl)) pgs_nil)))); (exact pts_nil); (exact (pe_tup (pa_cons (pe_c cM hr3 (pa_cons (pe_ix (ix_tupK (K := K) rfl) (pv 0) pe_int (fun _ _ => rfl)) (pa_cons (pv 1) pa_nil))) (pa_cons (pe_ix (ix_tupK (K := K) rfl) (pv 0) pe_int (fun _ _ => rfl)) (pa_cons (pe_ix (ix_tupK (K := K) rfl) (pv 0) pe_int (fun _ _ => rfl)) pa_nil))))))))
    (Bx.mk (pss_one (ps_ret (pe_tup (pa_cons (pe_callTy call_tuple_of (by rfl) T.nTuple PyProof.Rows.boot_tuple (pa_cons (pv 3) pa_nil)) (pa_cons (pe_tup (pa_cons (pe_ix ix_tup (pv 1) pe_int (fun _ _ => rfl)) (pa_cons (pe_c cWM hr (pa_cons (pe_ix ix_tup (pv 1) pe_int (fun _ _ => rfl)) (pa_cons (pe_c cM hr3 (pa_cons (pe_glob (v := .ref aN) (by rfl) TW.mn rfl) (pa_cons (pe_ix ix_list (pv 2) (pe_un un_neg pe_int) (fun _ _ => rfl)) pa_nil))) pa_nil))) pa_nil))) pa_nil)))))))), ?_⟩
  refine ⟨_, rfl, a, us, bs, ws, rfl, ha, hB, hl8, fun lo os G1 S1 hlo hos => ?_⟩
  refine ⟨false, lo, os, ws, rfl, hlo, hos, zw, by omega, fun la as G2 S2 hla hal haR => ?_⟩
  have S12 := S1.trans S2
  have ha2 := S12 _ _ ha
  dsimp only [gName]
  refine ⟨_, rfl, _, rfl, true, false, a, la, rfl, ⟨_, SqT.of ha2⟩, ⟨_, SqL.of hla⟩, fun Dc hDc => ?_⟩
  refine compC_zip (js := []) (J := Itz2 true false K a la) (N := us.length) (n := 2) (xs := us) (ys := as) (g := gTup K 2 (gCons (gName 0) (gCons (gName 1) gNil))) (tt := fun _ H Q => Q true H) (te := tTup (tCons (tCall (spBinK K Sz2 (· - ·)) [] E0 (tCons (tOp (rIxT K) (tVar 0) (tC (.int 0))) (tCons (tVar 1) tNil))) (tCons (tOp (rIxT K) (tVar 0) (tC (.int 1))) (tCons (tOp (rIxT K) (tVar 0) (tC (.int 2))) tNil)))) (fun _ => true) (fun i v G => ∀ b, bs[i]? = some b → BlAt G v ⟨b.pl - ahd ws i, b.sp, b.wt⟩) (fun i v G G' e h b hb => (h b hb).tups e) hDc (runs_z2 (k1 := true) (k2 := false) ha2 hla (by omega)) (small1000 (by omega)) ?_ ?_
  · intro i Tt x y zs G A' B' hx hy hz S hT hA hB'
    have hi : i < us.length := (List.getElem?_eq_some_iff.mp hx).1
    obtain ⟨b, eb⟩ : ∃ b, bs[i]? = some b := ⟨_, List.getElem?_eq_getElem (by omega)⟩
    obtain ⟨q, eq⟩ : ∃ q, ws[i]? = some q := ⟨_, List.getElem?_eq_getElem (by omega)⟩
    obtain ⟨c, p1, p2, p3, rfl, hc, g1, g2, g3⟩ := hB.at' i x b q hx eb eq
    obtain ⟨ry, rfl, hry⟩ := ((haR i y hy).tups (.of S)).sq TW.kn
    obtain ⟨y1, y2, rfl⟩ : ∃ a b, zs = [a, b] := by
      match zs, hz with
      | [a, b], _ => exact ⟨a, b, rfl⟩
    have hcG := S _ _ (S12 _ _ hc)
    refine ⟨Tt, _, rfl, .of hT, rfl, _, _, rfl, _, _, rfl, rfl, ⟨rfl, iteT ?_⟩⟩
    refine ⟨_, rfl, c, _, _, _, rfl, rfl, .of hcG, rfl, _, rfl, p1, ry, _, _, rfl, .of (S _ _ (S12 _ _ g1)), hry, ⟨(zb b (List.mem_of_getElem? eb)).mono (by decide), (ahd_sz zw i (by omega)).mono (by omega)⟩, fun r2 G2' e2' h2 => ?_⟩
    have hcG2 := e2' _ _ hcG
    refine ⟨_, rfl, c, _, _, _, rfl, rfl, .of hcG2, rfl, _, rfl, c, _, _, _, rfl, rfl, .of hcG2, rfl, by show 3 ≤ sizeLine; decide, fun t ht => ?_⟩
    refine hA rfl _ _ (e2'.trans (Same.upd ht)) fun b' hb' => ?_
    rw [eb] at hb'; cases hb'
    exact ⟨t, r2, p2, rfl, upd_same, Same.upd ht _ _ h2, Same.upd ht _ _ (e2' _ _ (S _ _ (S12 _ _ g2)))⟩
  · intro ys G S hD hyl hR
    rw [sel_true] at hyl hR
    have hyl' : ys.length = us.length := by rw [hyl, List.length_range]
    have hB2 : BallsAt G ys (thB ws bs) := balls_of (by unfold thB; rw [List.length_mapIdx]; omega) fun i v b g1 g2 => by
      have hi : i < us.length := by have := (List.getElem?_eq_some_iff.mp g1).1; omega
      obtain ⟨c, ec⟩ : ∃ b, bs[i]? = some b := ⟨_, List.getElem?_eq_getElem (by omega)⟩
      unfold thB at g2
      rw [List.getElem?_mapIdx, ec] at g2
      cases g2
      exact hR i i v (by rw [List.getElem?_range hi]) g1 c ec
    have S0G := S12.trans S
    refine ⟨_, rfl, Dc, ys, rfl, .inl ⟨.of hD, fun r hr' => ?_⟩⟩
    have S3 : Same G (upd G r (.tup ys)) := Same.upd hr'
    have hr3' : upd G r (.tup ys) r = some (.tup ys) := upd_same
    generalize upd G r (.tup ys) = G3 at S3 hr3'
    have S03 := S0G.trans S3
    have hwl3 := S03 _ _ hwl
    have hla3 := S3 _ _ (S _ _ hla)
    obtain ⟨vl, evl⟩ : ∃ vl, as[ws.length]? = some vl := ⟨_, List.getElem?_eq_getElem (by omega)⟩
    obtain ⟨rl, rfl, hrl⟩ := ((haR _ vl evl).tups (.of (S.trans S3))).sq TW.kn
    have elast : atI as (-1) = some (.ref rl) := by
      obtain ⟨cs, c, e⟩ : ∃ cs c, as = cs ++ [c] := by
        rcases List.eq_nil_or_concat as with e | ⟨cs, c, e⟩
        · rw [e] at hal; simp at hal
        · exact ⟨cs, c, by simpa using e⟩
      subst e
      have hc : cs.length = ws.length := by simpa using hal
      rw [List.getElem?_append_right (by omega), hc, Nat.sub_self] at evl
      cases evl
      exact atI_last _ _
    have z0 : Sz 4000 (0 : Rat) := Sz.mono (m := 1) ⟨show (0 : Int).natAbs < 2 ^ 1 by decide, show (1 : Int).natAbs < 2 ^ 1 by decide⟩ (by decide)
    have za := ahd_sz zw ws.length (Nat.le_refl _)
    refine ⟨_, rfl, wl, _, _, _, rfl, rfl, .of hwl3, rfl, _, rfl, wl, _, _, _, rfl, rfl, .of hwl3, rfl, _, rfl, _, rfl, la, _, _, _, rfl, rfl, .of hla3, elast, aN, rl, 0, _, rfl, nought_sq TW.kn _, hrl, ⟨z0, za.mono (by omega)⟩, fun rm G4 e4 hrm => ?_⟩
    have S04 := S03.trans e4
    have zm : Sz 4000 ((0 : Rat) - ahd ws ws.length) := Sz.mono (m := 1 + (1 + 28 * ws.length) + 1) (Sz.sub ⟨show (0 : Int).natAbs < 2 ^ 1 by decide, show (1 : Int).natAbs < 2 ^ 1 by decide⟩ za) (by omega)
    refine ⟨v2, rm, l2, _, rfl, hv2.tups (.of S04), hrm, z2, zm, fun v' G5 e5 hv' => ?_⟩
    refine ⟨by show 2 ≤ sizeLine; decide, fun w' hw' => ⟨by show 2 ≤ sizeLine; decide, fun t ht => ?_⟩⟩
    have S5 := (Same.upd (o := .tup [v1, v']) hw').trans (Same.upd (o := .tup [.ref r, .ref w']) ht)
    have SG := S3.trans (e4.trans (e5.trans S5))
    exact k t r ys w' v' _ (S0G.trans SG) upd_same ((e4.trans (e5.trans S5)) _ _ hr3') (hB2.same SG) (Same.upd ht _ _ upd_same) (hv'.tups (.of S5))
end
end KK
end
section
set_option maxHeartbeats 8000000
set_option Elab.async false
set_option linter.all false
set_option maxRecDepth 100000
namespace KK
open PySem L2 KM
theorem menu4w {d : Int} (h0 : 0 ≤ d) (h1 : d < 4) : ∃ v : Int, atI [V.int 1, .int 10, .int 10, .int ((10 : Int) ^ (8 : Int).toNat)] d = some (.int v) ∧ 1 ≤ v ∧ v ≤ 100000000 := by
  have : d = 0 ∨ d = 1 ∨ d = 2 ∨ d = 3 := by omega
  rcases this with rfl | rfl | rfl | rfl
  all_goals exact ⟨_, rfl, by decide, by decide⟩
section
variable {P : Program} {w : World} {K : PySem.W.Frag} {mg : Str → Option Value} {base : Heap} {aN : Addr}
def spWd : Sp := fun vs H Q _ => ∃ (p : Addr) (n : Nat), vs = [.ref p, .int (n : Int)] ∧ n ≤ 8 ∧ Pool H p ∧ ∀ l us ws H', Step p H H' → H l = none → H' l = some (.lst us) → RsR H' us ws → ws.length = n → (∀ x ∈ ws, Sz 27 x ∧ 0 ≤ x) → Q (.ref l) H'
theorem sc_wd : FnScope ["pool", "many", "found", "k", "top"] ["pool", "many"] (defScope s_law_widths) := ⟨rfl, rfl, rfl, by decide +kernel, rfl, by decide +kernel, by decide +kernel⟩
theorem ok_wd (D : Df K mg "_law_widths" s_law_widths ["pool", "many"] []) (T : TxB K mg) (cN : Cal P w K mg base "_law_next" 1 ["pool", "base"] [] spNext) (cL : Cal P w K mg base "_law_low" 1 ["top", "bottom"] [] spLow) : Cal P w K mg base "_law_widths" 2 ["pool", "many"] [] spWd := by
  refine D.calB (k := 1) sc_wd (fun vs H Q E h => by obtain ⟨_, _, rfl, _⟩ := h; rfl) (fun f cdv A outer s H vs Q E hr h => ?_)
  obtain ⟨p, n, rfl, n8, hP, k⟩ := h
  refine ⟨_, (bx_scons (Bx.mk (ps_set (i := 2) sc_wd.nd rfl (Or.inl rfl) (pe_lst pa_nil)))
    (bx_scons (Bx.mk (ps_for PassesOwn.never rfl (pi_range1 rfl T.nRange (pa_cons (pv 1) pa_nil)) (pg_name (i := 3) sc_wd.nd rfl (Or.inl rfl)) (pss_cons (bx_out (bx_set (i := 4) sc_wd.nd rfl (Or.inl rfl) (Bx.mk (pe_c cN hr (pa_cons (pv 0) (pa_cons (bx_out (bx_ix ix_list (bx_lst (bx_cons (Bx.mk pe_int) (bx_cons (Bx.mk pe_int) (bx_cons (Bx.mk pe_int) (bx_cons (Bx.mk (pe_op op_pow pe_int pe_int)) bx_nil))))) (Bx.mk (pe_c cN hr (pa_cons (pv 0) (pa_cons pe_int pa_nil)))) (fun _ _ => rfl))) pa_nil)))))) (pss_one (ps_expr (pe_bm PySem.F.plainAttrs_list PySem.F.slot_list_append PySem.F.type_list_append mt_append (pv 2) (pa_cons (pe_c cL hr (pa_cons (pv 4) (pa_cons (pe_ix ix_list (pe_lst (pa_cons pe_int (pa_cons pe_int (pa_cons pe_int (pa_cons pe_int pa_nil))))) (pe_c cN hr (pa_cons (pv 0) (pa_cons pe_int pa_nil))) (fun _ _ => rfl)) pa_nil))) pa_nil)))))))
    (Bx.mk (pss_one (ps_ret (pv 2)))))), ?_⟩
  refine ⟨by show 0 ≤ sizeLine; exact Nat.zero_le _, fun l hl => ?_⟩
  have hlp := hP.ne hl
  dsimp only [gName]
  refine st_for ?_
  refine ⟨_, rfl, (n : Int), rfl, by omega, by omega, ?_⟩
  refine for_range (n := ((n : Int)).toNat) (lo := 0) (fun i σ G => ∃ z3 z4 us ws, σ = [some (.ref p), some (.int (n : Int)), some (.ref l), z3, z4] ∧ Step p H G ∧ G l = some (.lst us) ∧ RsR G us ws ∧ ws.length = i ∧ ∀ x ∈ ws, Sz 27 x ∧ 0 ≤ x)
    ⟨_, _, [], [], rfl, (Step.refl hP).same (Same.upd hl), upd_same, ⟨rfl, fun i v x e => by simp at e⟩, rfl, fun x m => by cases m⟩ ?_ ?_
  · rintro i σ G hi ⟨z3, z4, us, ws, rfl, TG, hlG, hR, hwl, zw⟩
    have hul := hR.1
    refine ⟨_, rfl, _, _, rfl, rfl, ⟨by decide, by decide, by decide⟩, by show 4 ≤ sizeLine; decide, fun l1 hl1 => ?_⟩
    refine ⟨_, rfl, p, _, rfl, by decide, by decide, TG.pool.new hl1, fun d2 G2 a2 b2 t2 => ?_⟩
    obtain ⟨v, ev, v0, v1⟩ := menu4w a2 b2
    refine ⟨l1, _, _, _, rfl, rfl, .of (t2.keep l1 _ upd_same (TG.pool.ne hl1)), ev, ?_⟩
    have T2 : Step p G G2 := t2.pre (Same.upd hl1)
    refine ⟨p, v, rfl, by omega, by omega, t2.pool, fun d3 G3 a3 b3 t3 => ?_⟩
    have T3 := T2.trans t3
    have Tu3 := step_tups TG.pool T3
    have hlG3 := T3.keep _ _ hlG hlp
    dsimp only [gName]
    refine ⟨_, rfl, .inl ⟨rfl, _, SqL.of hlG3⟩, _, rfl, by show 4 ≤ sizeLine; decide, fun l2 hl2 => ?_⟩
    refine ⟨_, rfl, p, _, rfl, by decide, by decide, T3.pool.new hl2, fun d4 G4 a4 b4 t4 => ?_⟩
    obtain ⟨u, eu, u0, u1⟩ := menu4g a4 b4
    refine ⟨l2, _, _, _, rfl, rfl, .of (t4.keep l2 _ upd_same (T3.pool.ne hl2)), eu, ?_⟩
    have T4 := T3.trans (t4.pre (Same.upd hl2))
    refine ⟨_, _, rfl, by omega, Bd.mono (m := 5) (bdn (by omega) (by omega)) (by decide), fun r G5 e5 h5 => ?_⟩
    have T5 := T4.same e5
    have hlG5 := T5.keep _ _ hlG hlp
    have Tu5 : TupS G G5 := step_tups TG.pool T5
    have TuL : TupS G5 (upd G5 l (.lst (us ++ [.ref r]))) := .upd hlG5
    refine ⟨l, us, _, rfl, rfl, hlG5, small1000 (by omega), ?_⟩
    have zr : Sz 27 (Rat.divInt d3 u) := sz_q (by omega) (by omega) (by omega) (by omega)
    refine ⟨_, _, us ++ [.ref r], ws ++ [Rat.divInt d3 u], rfl, (TG.trans T5).put hl hlp _, upd_same, ⟨by simp [hul], fun j v x f1 f2 => ?_⟩, by simp [hwl], fun x m => ?_⟩
    · by_cases hj : j < us.length
      · rw [List.getElem?_append_left hj] at f1
        rw [List.getElem?_append_left (by omega)] at f2
        exact ((hR.tups Tu5).tups TuL).2 j v x f1 f2
      · rw [List.getElem?_append_right (by omega)] at f1
        rw [List.getElem?_append_right (by omega)] at f2
        have hj' : j - us.length = 0 := by
          rcases Nat.eq_zero_or_pos (j - us.length) with z | z
          · exact z
          · rw [List.getElem?_eq_none (by simp; omega)] at f1; cases f1
        rw [hj'] at f1; cases f1
        rw [← hul, hj'] at f2; cases f2
        exact ⟨r, rfl, TuL _ _ h5⟩
    · rcases List.mem_append.mp m with z | z
      · exact zw x z
      · have : x = Rat.divInt d3 u := by simpa using z
        rw [this]; exact ⟨zr, (Rat.divInt_nonneg_iff_of_pos_right (by omega)).mpr a3⟩
  · rintro σ G ⟨z3, z4, us, ws, rfl, TG, hlG, hR, hwl, zw⟩
    exact ⟨_, rfl, k l us ws G TG hl hlG hR (by omega) zw⟩
end
end KK
end
section
set_option maxHeartbeats 8000000
set_option Elab.async false
set_option linter.all false
set_option maxRecDepth 100000
namespace KK
open PySem L2 KM
section
variable {P : Program} {w : World} {K : PySem.W.Frag} {mg : Str → Option Value} {base : Heap} {aN : Addr}
def spTk : Sp := fun vs H Q _ => ∃ a us bs wl v1 v2 l1 l2 lw wv ws, vs = [.ref a, .ref wl, .ref lw] ∧ H a = some (.tup us) ∧ BallsAt H us bs ∧ bs.length ≤ 8 ∧ H wl = some (.tup [v1, v2]) ∧ WallAt H v1 l1 ∧ WallAt H v2 l2 ∧ WallZ l2 ∧ H lw = some (.lst wv) ∧ RsR H wv ws ∧ ws.length = bs.length ∧ (∀ x ∈ ws, Sz 27 x) ∧ (∀ b ∈ bs, Sz 600 b.pl) ∧
  ∀ t fb us' sd v' H', Same H H' → H' t = some (.tup [.ref fb, .ref sd]) → H' fb = some (.tup us') → BrsAt H' us' (tkB ws bs) ws → H' sd = some (.tup [v1, v']) → WallAt H' v' (mvW l2 (ahd ws ws.length)) → Q (.ref t) H'
theorem sc_tk : FnScope ["row", "walls", "widths", "ahead", "found", "ball", "width", "high"] ["row", "walls", "widths"] (defScope s_law_thick) := ⟨rfl, rfl, rfl, by decide +kernel, rfl, by decide +kernel, by decide +kernel⟩
theorem ok_tk (D : Df K mg "_law_thick" s_law_thick ["row", "walls", "widths"] []) (T : TxB K mg) (TW : TxW K mg aN) (cA : Cal P w K mg base "_law_add" 2 ["a", "b"] [] (spBin Sz2 (· + ·))) : Cal P w K mg base "_law_thick" 3 ["row", "walls", "widths"] [] spTk := by
  refine D.calB (k := 2) sc_tk (fun vs H Q E h => by obtain ⟨_, _, _, _, _, _, _, _, _, _, _, rfl, _⟩ := h; rfl) (fun f cdv A outer s H vs Q E hr h => ?_)
  obtain ⟨a, us, bs, wl, v1, v2, l1, l2, lw, wv, ws, rfl, ha, hB, hl8, hwl, hv1, hv2, z2, hlw, hR, hwl', zw, zb, k⟩ := h
  have hul := hB.length
  have hvl := hR.1
  refine ⟨_, (bx_scons (Bx.mk (ps_set (i := 3) sc_tk.nd rfl (Or.inl rfl) (pe_tup (pa_cons pe_int (pa_cons pe_int pa_nil)))))
    (bx_scons (Bx.mk (ps_set (i := 4) sc_tk.nd rfl (Or.inl rfl) (pe_lst pa_nil)))
    (bx_scons (Bx.mk (ps_for PassesOwn.never rfl (pi_zip2 (by rfl) TW.nZip (pa_cons (pv 0) (pa_cons (pv 2) pa_nil))) (pg_tup rfl (pgs_cons (pg_name (i := 5) sc_tk.nd rfl (Or.inl rfl)) (pgs_cons (pg_name (i := 6) sc_tk.nd rfl (Or.inl rfl)) pgs_nil))) (pss_cons (ps_expr (pe_bm PySem.F.plainAttrs_list PySem.F.slot_list_append PySem.F.type_list_append mt_append (pv 4) (pa_cons (pe_op op_catA (pe_op op_catA (pe_tup (pa_cons (pe_c cA hr (pa_cons (pe_ix ix_tup (pv 5) pe_int (fun _ _ => rfl)) (pa_cons (pv 3) pa_nil))) pa_nil)) (pe_slice sl_tup (pv 5) (po_some pe_int) po_none)) (pe_tup (pa_cons (pv 6) pa_nil))) pa_nil))) (pss_one (ps_set (i := 3) sc_tk.nd rfl (Or.inl rfl) (pe_c cA hr (pa_cons (pv 3) (pa_cons (pv 6) pa_nil))))))))
    (bx_scons (Bx.mk (ps_set (i := 7) sc_tk.nd rfl (Or.inl rfl) (pe_ix ix_tup (pv 1) pe_int (fun _ _ => rfl))))
    (bx_scons (Bx.mk (ps_if (pt_cmpR op_notN (pv 7) pe_non (nomark _)) (pss_one (ps_set (i := 7) sc_tk.nd rfl (Or.inl rfl) (pe_tup (pa_cons (pe_c cA hr (pa_cons (pe_ix ix_tup (pv 7) pe_int (fun _ _ => rfl)) (pa_cons (pv 3) pa_nil))) (pa_cons (pe_ix ix_tup (pv 7) pe_int (fun _ _ => rfl)) pa_nil))))) pss_nil))
    (Bx.mk (pss_one (ps_ret (pe_tup (pa_cons (pe_callTy call_tuple_of (by rfl) T.nTuple PyProof.Rows.boot_tuple (pa_cons (pv 4) pa_nil)) (pa_cons (pe_tup (pa_cons (pe_ix ix_tup (pv 1) pe_int (fun _ _ => rfl)) (pa_cons (pv 7) pa_nil))) pa_nil))))))))))), ?_⟩
  refine ⟨by show 2 ≤ sizeLine; decide, fun r0 hr0 => ?_⟩
  have S0 : Same H (upd H r0 (.tup [.int 0, .int 1])) := Same.upd hr0
  have h0 : RatAt (upd H r0 (.tup [.int 0, .int 1])) r0 0 := upd_same
  generalize upd H r0 (.tup [.int 0, .int 1]) = G0 at S0 h0
  dsimp only [gName]
  refine ⟨by show 0 ≤ sizeLine; exact Nat.zero_le _, fun lb hlb => ?_⟩
  have hlbH : H lb = none := by
    cases e : H lb with
    | none => rfl
    | some o => rw [S0 _ _ e] at hlb; cases hlb
  have S1 : Same G0 (upd G0 lb (.lst [])) := Same.upd hlb
  have hlb1 : upd G0 lb (.lst []) lb = some (.lst []) := upd_same
  generalize upd G0 lb (.lst []) = G1 at S1 hlb1
  have S01 := S0.trans S1
  dsimp only [gName]
  refine st_mid (fun σ' G => ∃ ra z5 z6 vs', σ' = [some (.ref a), some (.ref wl), some (.ref lw), some (.ref ra), some (.ref lb), z5, z6, none] ∧ Same H G ∧ RatAt G ra (ahd ws us.length) ∧ G lb = some (.lst vs') ∧ vs'.length = us.length ∧ ∀ (j : Nat) (v : V) (b : Ball) (x : Rat), vs'[j]? = some v → bs[j]? = some b → ws[j]? = some x → BrAt G v ⟨b.pl + ahd ws j, b.sp, b.wt⟩ x) ?_ ?_
  rotate_left
  · intro nx hnx
    refine ⟨_, rfl, _, rfl, true, false, a, lw, rfl, ⟨_, SqT.of (S01 _ _ ha)⟩, ⟨_, SqL.of (S01 _ _ hlw)⟩, ?_⟩
    refine for_z2 (xs := us) (ys := wv) (by omega) (fun i σ G => ∃ ra z5 z6 vs', σ = [some (.ref a), some (.ref wl), some (.ref lw), some (.ref ra), some (.ref lb), z5, z6, none] ∧ Same H G ∧ RatAt G ra (ahd ws i) ∧ G lb = some (.lst vs') ∧ vs'.length = i ∧ ∀ (j : Nat) (v : V) (b : Ball) (x : Rat), vs'[j]? = some v → bs[j]? = some b → ws[j]? = some x → BrAt G v ⟨b.pl + ahd ws j, b.sp, b.wt⟩ x)
      ⟨r0, _, _, [], rfl, S01, S1 _ _ h0, hlb1, rfl, fun j v b x e => by simp at e⟩ (fun i σ G ⟨_, _, _, _, _, s, _⟩ => ⟨SqT.of (s _ _ ha), SqL.of (s _ _ hlw)⟩) ?_ ?_
    · rintro i x y σ G Tt hx hy ⟨ra, z5, z6, vs', rfl, SG, hra, hlbG, hvl', hvR⟩ hTt
      have hi : i < us.length := (List.getElem?_eq_some_iff.mp hx).1
      obtain ⟨c, p, q, b, eb, rfl, hc, hp, hq⟩ := hB.get hx
      obtain ⟨wq, ewq⟩ : ∃ q, ws[i]? = some q := ⟨_, List.getElem?_eq_getElem (by omega)⟩
      obtain ⟨rw', rfl, hrw⟩ := hR.2 i y wq hy ewq
      have zq := zw wq (List.mem_of_getElem? ewq)
      have za := ahd_sz zw i (by omega)
      have sT : Same G (upd G Tt (.tup [.ref c, .ref rw'])) := Same.upd hTt
      have hTT : upd G Tt (.tup [.ref c, .ref rw']) Tt = some (.tup [.ref c, .ref rw']) := upd_same
      generalize upd G Tt (.tup [.ref c, .ref rw']) = G2 at sT hTT
      have hc2 := sT _ _ (SG _ _ hc)
      refine ⟨Tt, _, rfl, .of hTT, rfl, _, _, rfl, _, _, rfl, rfl, ?_⟩
      refine ⟨_, rfl, .inl ⟨rfl, _, SqL.of (sT _ _ hlbG)⟩, _, rfl, c, _, _, _, rfl, rfl, .of hc2, rfl, _, rfl, p, ra, _, _, rfl, sT _ _ (SG _ _ hp), sT _ _ hra, ⟨(zb b (List.mem_of_getElem? eb)).mono (by decide), za.mono (by omega)⟩, fun r2 G3 e3 h2 => ?_⟩
      refine ⟨by show 1 ≤ sizeLine; decide, fun p1 hp1 => ?_⟩
      have S4 : Same G (upd G3 p1 (.tup [.ref r2])) := sT.trans (e3.trans (Same.upd hp1))
      have hp1' : upd G3 p1 (.tup [.ref r2]) p1 = some (.tup [.ref r2]) := upd_same
      have h2' : RatAt (upd G3 p1 (.tup [.ref r2])) r2 (b.pl + ahd ws i) := Same.upd hp1 _ _ h2
      generalize upd G3 p1 (.tup [.ref r2]) = G4 at S4 hp1' h2'
      have hc4 := S4 _ _ (SG _ _ hc)
      refine ⟨_, rfl, _, rfl, c, _, rfl, .of hc4, (by show ¬ (HT.sIx 3 0 (some 1) = 0 ∧ HT.sIx 3 3 none = 3); decide), fun p2 hp2 => ?_⟩
      have S5 : Same G4 (upd G4 p2 (.tup (cutV [.ref p, .ref q, .int b.wt] (some 1) none))) := Same.upd hp2
      have hp2' : upd G4 p2 (.tup (cutV [.ref p, .ref q, .int b.wt] (some 1) none)) p2 = some (.tup [.ref q, .int b.wt]) := upd_same
      generalize upd G4 p2 (.tup (cutV [.ref p, .ref q, .int b.wt] (some 1) none)) = G5 at S5 hp2'
      refine ⟨p1, p2, [.ref r2], [.ref q, .int b.wt], rfl, rfl, .of (S5 _ _ hp1'), .of hp2', by show 3 ≤ sizeLine; decide, fun z => (by cases z), fun _ z => (by cases z), fun _ _ p3 hp3 => ?_⟩
      have S6 : Same G5 (upd G5 p3 (.tup ([.ref r2] ++ [.ref q, .int b.wt]))) := Same.upd hp3
      have hp3' : upd G5 p3 (.tup ([.ref r2] ++ [.ref q, .int b.wt])) p3 = some (.tup [.ref r2, .ref q, .int b.wt]) := upd_same
      generalize upd G5 p3 (.tup ([.ref r2] ++ [.ref q, .int b.wt])) = G6 at S6 hp3'
      refine ⟨_, rfl, by show 1 ≤ sizeLine; decide, fun p4 hp4 => ?_⟩
      have S7 : Same G6 (upd G6 p4 (.tup [.ref rw'])) := Same.upd hp4
      have hp4' : upd G6 p4 (.tup [.ref rw']) p4 = some (.tup [.ref rw']) := upd_same
      generalize upd G6 p4 (.tup [.ref rw']) = G7 at S7 hp4'
      refine ⟨p3, p4, [.ref r2, .ref q, .int b.wt], [.ref rw'], rfl, rfl, .of (S7 _ _ hp3'), .of hp4', by show 4 ≤ sizeLine; decide, fun z => (by cases z), fun _ z => (by cases z), fun _ _ t ht => ?_⟩
      have S78 : Same G7 (upd G7 t (.tup ([.ref r2, .ref q, .int b.wt] ++ [.ref rw']))) := Same.upd ht
      have ht8 : upd G7 t (.tup ([.ref r2, .ref q, .int b.wt] ++ [.ref rw'])) t = some (.tup [.ref r2, .ref q, .int b.wt, .ref rw']) := upd_same
      generalize upd G7 t (.tup ([.ref r2, .ref q, .int b.wt] ++ [.ref rw'])) = G8 at S78 ht8
      have S48 : Same G4 G8 := S5.trans (S6.trans (S7.trans S78))
      have S8 : Same G G8 := S4.trans S48
      have hlb8 := S8 _ _ hlbG
      have h28 : RatAt G8 r2 (b.pl + ahd ws i) := S48 _ _ h2'
      refine ⟨lb, vs', _, rfl, rfl, hlb8, small1000 (by omega), ?_⟩
      have Tu9 : TupS G8 (upd G8 lb (.lst (vs' ++ [.ref t]))) := .upd hlb8
      have S9 : Same H (upd G8 lb (.lst (vs' ++ [.ref t]))) := fun d o e => by rw [upd_ne (ne_of_none e hlbH)]; exact S8 _ _ (SG _ _ e)
      have hlb9 : upd G8 lb (.lst (vs' ++ [.ref t])) lb = some (.lst (vs' ++ [.ref t])) := upd_same
      generalize upd G8 lb (.lst (vs' ++ [.ref t])) = G9 at Tu9 S9 hlb9
      refine ⟨_, rfl, _, rfl, ra, rw', _, _, rfl, Tu9 _ _ (S8 _ _ hra), S9 _ _ hrw, ⟨za.mono (by omega), zq.mono (by decide)⟩, fun r7 G10 e10 h10 => ?_⟩
      have Tu : TupS G8 G10 := Tu9.trans (.of e10)
      have TuA : TupS G G10 := (TupS.of S8).trans Tu
      have e3' : ahd ws (i + 1) = ahd ws i + wq := by show ahd ws i + ws.getD i 0 = _; rw [List.getD_eq_getElem?_getD, ewq]; rfl
      refine ⟨r7, _, _, vs' ++ [.ref t], rfl, S9.trans e10, (by rw [e3']; exact h10), e10 _ _ hlb9, by simp [hvl'], fun j v b' x' f1 f2 f3 => ?_⟩
      by_cases hj : j < vs'.length
      · rw [List.getElem?_append_left hj] at f1
        exact (hvR j v b' x' f1 f2 f3).tups TuA
      · rw [List.getElem?_append_right (by omega)] at f1
        have hj' : j - vs'.length = 0 := by
          rcases Nat.eq_zero_or_pos (j - vs'.length) with z | z
          · exact z
          · rw [List.getElem?_eq_none (by simp; omega)] at f1; cases f1
        rw [hj'] at f1; cases f1
        have : j = i := by omega
        subst this
        rw [eb] at f2; cases f2
        rw [ewq] at f3; cases f3
        exact ⟨t, r2, q, rw', rfl, Tu _ _ ht8, Tu _ _ h28, TuA _ _ (SG _ _ hq), TuA _ _ (SG _ _ hrw)⟩
    · rintro σ G ⟨ra, z5, z6, vs', rfl, SG, hra, hlbG, hvl', hvR⟩
      exact hnx _ _ ⟨ra, z5, z6, vs', rfl, SG, hra, hlbG, hvl', hvR⟩
  rintro σ' G2 ⟨ra, z5, z6, vs', rfl, S2, hra, hlb2, hvl', hvR⟩
  have hwl2 := S2 _ _ hwl
  have hus : us.length = ws.length := by omega
  rw [hus] at hra
  have za := ahd_sz zw ws.length (Nat.le_refl _)
  refine ⟨_, rfl, wl, _, _, _, rfl, rfl, .of hwl2, rfl, ?_⟩
  dsimp only [gName]
  refine st_mid (fun σ' G => ∃ v', σ' = [some (.ref a), some (.ref wl), some (.ref lw), some (.ref ra), some (.ref lb), z5, z6, some v'] ∧ Same G2 G ∧ WallAt G v' (mvW l2 (ahd ws ws.length))) ?_ ?_
  rotate_left
  · intro nx hnx
    have hv22 := hv2.tups (TupS.of S2)
    cases l2 with
    | none =>
      obtain rfl : v2 = .non := hv22
      exact ⟨_, rfl, rfl, _, rfl, iteF (hnx _ _ ⟨.non, rfl, Same.refl _, rfl⟩)⟩
    | some z =>
      obtain ⟨x, sp⟩ := z
      obtain ⟨aw, pw, qw, rfl, h1, h2, h3⟩ := hv22
      refine ⟨_, rfl, rfl, _, rfl, iteT ?_⟩
      refine ⟨_, rfl, aw, _, _, _, rfl, rfl, .of h1, rfl, _, rfl, pw, ra, x, _, rfl, h2, hra, ⟨z2 x sp rfl, za.mono (by omega)⟩, fun r G e h => ?_⟩
      have h1' := e _ _ h1
      exact ⟨_, rfl, aw, _, _, _, rfl, rfl, .of h1', rfl, by show 2 ≤ sizeLine; decide, fun t ht => hnx _ _ ⟨.ref t, rfl, e.trans (Same.upd ht), t, r, qw, rfl, upd_same, Same.upd ht _ _ h, Same.upd ht _ _ (e _ _ h3)⟩⟩
  rintro σ' G3 ⟨v', rfl, S3, hv'⟩
  refine ⟨_, rfl, lb, vs', rfl, .inl ⟨.of (S3 _ _ hlb2), fun r hr' => ?_⟩⟩
  have S4 : Same G3 (upd G3 r (.tup vs')) := Same.upd hr'
  have hr4 : upd G3 r (.tup vs') r = some (.tup vs') := upd_same
  generalize upd G3 r (.tup vs') = G4 at S4 hr4
  have hwl4 := S4 _ _ (S3 _ _ hwl2)
  refine ⟨_, rfl, wl, _, _, _, rfl, rfl, .of hwl4, rfl, _, rfl, by show 2 ≤ sizeLine; decide, fun sd hsd => ⟨by show 2 ≤ sizeLine; decide, fun t ht => ?_⟩⟩
  have S5 := (Same.upd (o := .tup [v1, v']) hsd).trans (Same.upd (o := .tup [.ref r, .ref sd]) ht)
  have S25 := S3.trans (S4.trans S5)
  refine k t r vs' sd v' _ (S2.trans S25) upd_same (S5 _ _ hr4) ⟨?_, ?_, fun j v b x e1 e2 e3 => ?_⟩ (Same.upd ht _ _ upd_same) (hv'.tups (.of (S4.trans S5)))
  · unfold tkB; rw [List.length_mapIdx]; omega
  · unfold tkB; rw [List.length_mapIdx]; exact hwl'
  · unfold tkB at e2
    rw [List.getElem?_mapIdx] at e2
    cases hb : bs[j]? with
    | none => rw [hb] at e2; cases e2
    | some c => rw [hb] at e2; cases e2; exact (hvR j v c x e1 hb e3).tups (.of S25)
end
end KK
end
section
set_option maxHeartbeats 8000000
set_option Elab.async false
set_option linter.all false
set_option maxRecDepth 100000
namespace KK
open PySem L2 KM
theorem off_eq (x y : Rat) : x - y = x + (0 - y) := by grind
section
variable {P : Program} {w : World} {K : PySem.W.Frag} {mg : Str → Option Value} {base : Heap} {aN : Addr}
theorem sc_tn : FnScope ["broad", "walls", "ahead", "row", "place", "speed", "weight", "width", "high"] ["broad", "walls"] (defScope s_law_thin) := ⟨rfl, rfl, rfl, by decide +kernel, rfl, by decide +kernel, by decide +kernel⟩
theorem ok_tn (D : Df K mg "_law_thin" s_law_thin ["broad", "walls"] []) (T : TxB K mg) (cA : Cal P w K mg base "_law_add" 2 ["a", "b"] [] (spBin Sz2 (· + ·))) (cO : Cal P w K mg base "_law_off" 2 ["a", "b"] [] (spBin Sz2 (· - ·))) : Cal P w K mg base "_law_thin" 3 ["broad", "walls"] [] spTh := by
  refine D.calB (k := 2) sc_tn (fun vs H Q E h => by obtain ⟨_, _, _, _, _, _, _, _, _, rfl, _⟩ := h; rfl) (fun f cdv A outer s H vs Q E hr h => ?_)
  obtain ⟨a, us, bs, ws, wl, v1, v2, l1, l2, rfl, ha, hB, hl8, zw, zb, hwl, hv1, hv2, z2, k⟩ := h
  have hul := hB.l1
  have hwl' := hB.l2
  refine ⟨_, (bx_scons (Bx.mk (ps_set (i := 2) sc_tn.nd rfl (Or.inl rfl) (pe_tup (pa_cons pe_int (pa_cons pe_int pa_nil)))))
    (bx_scons (Bx.mk (ps_set (i := 3) sc_tn.nd rfl (Or.inl rfl) (pe_lst pa_nil)))
    (bx_scons (Bx.mk (ps_for PassesOwn.never rfl (pi_seq (pv 0)) (pg_tup rfl (pgs_cons (pg_name (i := 4) sc_tn.nd rfl (Or.inl rfl)) (pgs_cons (pg_name (i := 5) sc_tn.nd rfl (Or.inl rfl)) (pgs_cons (pg_name (i := 6) sc_tn.nd rfl (Or.inl rfl)) (pgs_cons (pg_name (i := 7) sc_tn.nd rfl (Or.inl rfl)) pgs_nil))))) (pss_cons (ps_expr (pe_bm PySem.F.plainAttrs_list PySem.F.slot_list_append PySem.F.type_list_append mt_append (pv 3) (pa_cons (pe_tup (pa_cons (pe_c cO hr (pa_cons (pv 4) (pa_cons (pv 2) pa_nil))) (pa_cons (pv 5) (pa_cons (pv 6) pa_nil)))) pa_nil)))
    (pss_one (ps_set (i := 2) sc_tn.nd rfl (Or.inl rfl) (pe_c cA hr (pa_cons (pv 2) (pa_cons (pv 7) pa_nil))))))))
    (bx_scons (Bx.mk (ps_set (i := 8) sc_tn.nd rfl (Or.inl rfl) (pe_ix ix_tup (pv 1) pe_int (fun _ _ => rfl))))
    (bx_scons (Bx.mk (ps_if (pt_cmpR op_notN (pv 8) pe_non (nomark _)) (pss_one (ps_set (i := 8) sc_tn.nd rfl (Or.inl rfl) (pe_tup (pa_cons (pe_c cO hr (pa_cons (pe_ix ix_tup (pv 8) pe_int (fun _ _ => rfl)) (pa_cons (pv 2) pa_nil))) (pa_cons (pe_ix ix_tup (pv 8) pe_int (fun _ _ => rfl)) pa_nil))))) pss_nil))
    (Bx.mk (pss_one (ps_ret (pe_tup (pa_cons (pe_callTy call_tuple_of (by rfl) T.nTuple PyProof.Rows.boot_tuple (pa_cons (pv 3) pa_nil)) (pa_cons (pe_tup (pa_cons (pe_ix ix_tup (pv 1) pe_int (fun _ _ => rfl)) (pa_cons (pv 8) pa_nil))) pa_nil))))))))))), ?_⟩
  refine ⟨by show 2 ≤ sizeLine; decide, fun r0 hr0 => ?_⟩
  have S0 : Same H (upd H r0 (.tup [.int 0, .int 1])) := Same.upd hr0
  have h0 : RatAt (upd H r0 (.tup [.int 0, .int 1])) r0 0 := upd_same
  generalize upd H r0 (.tup [.int 0, .int 1]) = G0 at S0 h0
  dsimp only [gName]
  refine ⟨by show 0 ≤ sizeLine; exact Nat.zero_le _, fun lb hlb => ?_⟩
  have hlbH : H lb = none := by
    cases e : H lb with
    | none => rfl
    | some o => rw [S0 _ _ e] at hlb; cases hlb
  have S1 : Same G0 (upd G0 lb (.lst [])) := Same.upd hlb
  have hlb1 : upd G0 lb (.lst []) lb = some (.lst []) := upd_same
  generalize upd G0 lb (.lst []) = G1 at S1 hlb1
  have S01 := S0.trans S1
  dsimp only [gName]
  refine st_mid (fun σ' G => ∃ ra z4 z5 z6 z7 vs', σ' = [some (.ref a), some (.ref wl), some (.ref ra), some (.ref lb), z4, z5, z6, z7, none] ∧ Same H G ∧ RatAt G ra (ahd ws us.length) ∧ G lb = some (.lst vs') ∧ vs'.length = us.length ∧ ∀ (j : Nat) (v : V) (b : Ball), vs'[j]? = some v → bs[j]? = some b → BlAt G v ⟨b.pl - ahd ws j, b.sp, b.wt⟩) ?_ ?_
  rotate_left
  · intro nx hnx
    refine ⟨_, rfl, true, a, rfl, ⟨_, SqT.of (S01 _ _ ha)⟩, ?_⟩
    refine for_seq (k := true) (xs := us) (fun i σ G => ∃ ra z4 z5 z6 z7 vs', σ = [some (.ref a), some (.ref wl), some (.ref ra), some (.ref lb), z4, z5, z6, z7, none] ∧ Same H G ∧ RatAt G ra (ahd ws i) ∧ G lb = some (.lst vs') ∧ vs'.length = i ∧ ∀ (j : Nat) (v : V) (b : Ball), vs'[j]? = some v → bs[j]? = some b → BlAt G v ⟨b.pl - ahd ws j, b.sp, b.wt⟩)
      ⟨r0, _, _, _, _, [], rfl, S01, S1 _ _ h0, hlb1, rfl, fun j v b e => by simp at e⟩ (fun i σ G ⟨_, _, _, _, _, _, _, s, _⟩ => SqT.of (s _ _ ha)) ?_ ?_
    · rintro i x σ G hx ⟨ra, z4, z5, z6, z7, vs', rfl, SG, hra, hlbG, hvl', hvR⟩
      have hi : i < us.length := (List.getElem?_eq_some_iff.mp hx).1
      obtain ⟨b, eb⟩ : ∃ b, bs[i]? = some b := ⟨_, List.getElem?_eq_getElem (by omega)⟩
      obtain ⟨wq, ewq⟩ : ∃ q, ws[i]? = some q := ⟨_, List.getElem?_eq_getElem (by omega)⟩
      obtain ⟨c, p, q, rw', rfl, hc, hp, hq, hrw⟩ := hB.at' i x b wq hx eb ewq
      have zq := zw wq (List.mem_of_getElem? ewq)
      have za := ahd_sz zw i (by omega)
      have hcG := SG _ _ hc
      refine ⟨c, _, rfl, .of hcG, rfl, _, _, rfl, _, _, rfl, _, _, rfl, _, _, rfl, rfl, ?_⟩
      refine ⟨_, rfl, .inl ⟨rfl, _, SqL.of hlbG⟩, _, rfl, _, rfl, p, ra, _, _, rfl, SG _ _ hp, hra, ⟨(zb b (List.mem_of_getElem? eb)).mono (by decide), za.mono (by omega)⟩, fun r2 G3 e3 h2 => ?_⟩
      refine ⟨_, rfl, _, rfl, by show 3 ≤ sizeLine; decide, fun t ht => ?_⟩
      have S8 : Same G (upd G3 t (.tup [.ref r2, .ref q, .int b.wt])) := e3.trans (Same.upd ht)
      have ht8 : upd G3 t (.tup [.ref r2, .ref q, .int b.wt]) t = some (.tup [.ref r2, .ref q, .int b.wt]) := upd_same
      have h28 : RatAt (upd G3 t (.tup [.ref r2, .ref q, .int b.wt])) r2 (b.pl - ahd ws i) := Same.upd ht _ _ h2
      generalize upd G3 t (.tup [.ref r2, .ref q, .int b.wt]) = G8 at S8 ht8 h28
      have hlb8 := S8 _ _ hlbG
      refine ⟨lb, vs', _, rfl, rfl, hlb8, small1000 (by omega), ?_⟩
      have Tu9 : TupS G8 (upd G8 lb (.lst (vs' ++ [.ref t]))) := .upd hlb8
      have S9 : Same H (upd G8 lb (.lst (vs' ++ [.ref t]))) := fun d o e => by rw [upd_ne (ne_of_none e hlbH)]; exact S8 _ _ (SG _ _ e)
      have hlb9 : upd G8 lb (.lst (vs' ++ [.ref t])) lb = some (.lst (vs' ++ [.ref t])) := upd_same
      generalize upd G8 lb (.lst (vs' ++ [.ref t])) = G9 at Tu9 S9 hlb9
      refine ⟨_, rfl, _, rfl, ra, rw', _, _, rfl, Tu9 _ _ (S8 _ _ hra), S9 _ _ hrw, ⟨za.mono (by omega), zq.mono (by decide)⟩, fun r7 G10 e10 h10 => ?_⟩
      have Tu : TupS G8 G10 := Tu9.trans (.of e10)
      have TuA : TupS G G10 := (TupS.of S8).trans Tu
      have e3' : ahd ws (i + 1) = ahd ws i + wq := by show ahd ws i + ws.getD i 0 = _; rw [List.getD_eq_getElem?_getD, ewq]; rfl
      refine ⟨r7, _, _, _, _, vs' ++ [.ref t], rfl, S9.trans e10, (by rw [e3']; exact h10), e10 _ _ hlb9, by simp [hvl'], fun j v b' f1 f2 => ?_⟩
      by_cases hj : j < vs'.length
      · rw [List.getElem?_append_left hj] at f1
        exact (hvR j v b' f1 f2).tups TuA
      · rw [List.getElem?_append_right (by omega)] at f1
        have hj' : j - vs'.length = 0 := by
          rcases Nat.eq_zero_or_pos (j - vs'.length) with z | z
          · exact z
          · rw [List.getElem?_eq_none (by simp; omega)] at f1; cases f1
        rw [hj'] at f1; cases f1
        have : j = i := by omega
        subst this
        rw [eb] at f2; cases f2
        exact ⟨t, r2, q, rfl, Tu _ _ ht8, Tu _ _ h28, TuA _ _ (SG _ _ hq)⟩
    · rintro σ G ⟨ra, z4, z5, z6, z7, vs', rfl, SG, hra, hlbG, hvl', hvR⟩
      exact hnx _ _ ⟨ra, z4, z5, z6, z7, vs', rfl, SG, hra, hlbG, hvl', hvR⟩
  rintro σ' G2 ⟨ra, z4, z5, z6, z7, vs', rfl, S2, hra, hlb2, hvl', hvR⟩
  have hwl2 := S2 _ _ hwl
  have hus : us.length = ws.length := by omega
  rw [hus] at hra
  have za := ahd_sz zw ws.length (Nat.le_refl _)
  refine ⟨_, rfl, wl, _, _, _, rfl, rfl, .of hwl2, rfl, ?_⟩
  dsimp only [gName]
  refine st_mid (fun σ' G => ∃ v', σ' = [some (.ref a), some (.ref wl), some (.ref ra), some (.ref lb), z4, z5, z6, z7, some v'] ∧ Same G2 G ∧ WallAt G v' (mvW l2 (0 - ahd ws ws.length))) ?_ ?_
  rotate_left
  · intro nx hnx
    have hv22 := hv2.tups (TupS.of S2)
    cases l2 with
    | none =>
      obtain rfl : v2 = .non := hv22
      exact ⟨_, rfl, rfl, _, rfl, iteF (hnx _ _ ⟨.non, rfl, Same.refl _, rfl⟩)⟩
    | some z =>
      obtain ⟨x, sp⟩ := z
      obtain ⟨aw, pw, qw, rfl, h1, h2, h3⟩ := hv22
      refine ⟨_, rfl, rfl, _, rfl, iteT ?_⟩
      refine ⟨_, rfl, aw, _, _, _, rfl, rfl, .of h1, rfl, _, rfl, pw, ra, x, _, rfl, h2, hra, ⟨z2 x sp rfl, za.mono (by omega)⟩, fun r G e h => ?_⟩
      have h1' := e _ _ h1
      have hh : RatAt G r (x + (0 - ahd ws ws.length)) := by rw [← off_eq]; exact h
      exact ⟨_, rfl, aw, _, _, _, rfl, rfl, .of h1', rfl, by show 2 ≤ sizeLine; decide, fun t ht => hnx _ _ ⟨.ref t, rfl, e.trans (Same.upd ht), t, r, qw, rfl, upd_same, Same.upd ht _ _ hh, Same.upd ht _ _ (e _ _ h3)⟩⟩
  rintro σ' G3 ⟨v', rfl, S3, hv'⟩
  refine ⟨_, rfl, lb, vs', rfl, .inl ⟨.of (S3 _ _ hlb2), fun r hr' => ?_⟩⟩
  have S4 : Same G3 (upd G3 r (.tup vs')) := Same.upd hr'
  have hr4 : upd G3 r (.tup vs') r = some (.tup vs') := upd_same
  generalize upd G3 r (.tup vs') = G4 at S4 hr4
  have hwl4 := S4 _ _ (S3 _ _ hwl2)
  refine ⟨_, rfl, wl, _, _, _, rfl, rfl, .of hwl4, rfl, _, rfl, by show 2 ≤ sizeLine; decide, fun sd hsd => ⟨by show 2 ≤ sizeLine; decide, fun t ht => ?_⟩⟩
  have S5 := (Same.upd (o := .tup [v1, v']) hsd).trans (Same.upd (o := .tup [.ref r, .ref sd]) ht)
  have S25 := S3.trans (S4.trans S5)
  have hB2 : BallsAt G2 vs' (thB ws bs) := balls_of (by unfold thB; rw [List.length_mapIdx]; omega) fun i v b g1 g2 => by
    unfold thB at g2
    rw [List.getElem?_mapIdx] at g2
    cases hb : bs[i]? with
    | none => rw [hb] at g2; cases g2
    | some c => rw [hb] at g2; cases g2; exact hvR i v c g1 hb
  exact k t r vs' sd v' _ (S2.trans S25) upd_same (S5 _ _ hr4) (hB2.same S25) (Same.upd ht _ _ upd_same) (hv'.tups (.of (S4.trans S5)))
end
end KK
end
section
set_option maxHeartbeats 8000000
set_option Elab.async false
set_option linter.all false
set_option maxRecDepth 100000
namespace L2
open PySem PySem.Spec PyProof.Rows
section
variable {X : Cx}
def rCatL (K : PySem.W.Frag) : R2 := fun x y H Q => ∃ l b xs zs, x = .ref l ∧ y = .ref b ∧ SqL K H l xs ∧ SqL K H b zs ∧ xs.length + zs.length ≤ sizeLine ∧ ∀ p, H p = none → Q (.ref p) (upd H p (.lst (xs ++ zs)))
theorem op_catL : OpR X (binaryOp .Add) (rCatL X.K) := by
  intro pins s σ H x y v u Q I rx ry h
  obtain ⟨l, b, xs, zs, rfl, rfl, hH, hB, hz, q⟩ := h
  cases rx
  cases ry
  obtain ⟨its, r, pl, z⟩ := I.list hH
  obtain ⟨its2, r2, pl2, z2⟩ := I.list hB
  have e1 := r.length
  have e2 := r2.length
  obtain ⟨⟨cls, dd, data, sl⟩, n, ho, hc, hdn, hd⟩ := pl
  obtain ⟨⟨cls2, dd2, data2, sl2⟩, n2, ho2, hc2, hdn2, hd2⟩ := pl2
  simp only at hc hd hc2 hd2
  subst hc hd hc2 hd2
  refine concat_meets ⟨_, ho, rfl⟩ ⟨_, ho2, rfl⟩ noFill_list_add seq_list_add PySem.F.slot_list_add PySem.F.entry_list_add (PySem.F.args_list_add_2 _ _) (list_addW l b its.toArray its2.toArray n n2 dd dd2 sl sl2 (by simp only [List.size_toArray]; omega)) ⟨ho, ho2, ?_⟩
  have ea : its.toArray ++ its2.toArray = (its ++ its2).toArray := by simp
  rw [ea]
  exact ⟨.ref _, _, I.lnew (t' := s.toks) (r.append r2) (by rw [List.length_append]; omega), rfl, q _ I.fresh⟩
end
end L2
namespace KK
open PySem L2 KM
def Lay (n : Nat) (d : PyData) : Prop := PyData.canLay0 d = true ∧ PyData.depth d ≤ n
theorem lays {n : Nat} : ∀ {ds : List PyData}, (∀ d ∈ ds, Lay n d) → PyData.canLayAll0 ds = true ∧ PyData.depthAll ds ≤ n
  | [], _ => ⟨rfl, Nat.zero_le _⟩
  | d :: ds, h => by
    obtain ⟨h1, h2⟩ := lays (ds := ds) fun e m => h e (List.mem_cons_of_mem _ m)
    obtain ⟨h3, h4⟩ := h d (List.mem_cons_self ..)
    refine ⟨?_, ?_⟩
    · show (PyData.canLay0 d && _) = true
      rw [h1, h3]; rfl
    · show max (PyData.depth d) _ ≤ n
      omega
theorem Lay.tup {n : Nat} {ds : List PyData} (h : ∀ d ∈ ds, Lay n d) : Lay (n + 1) (.tuple ds) := ⟨(lays h).1, Nat.succ_le_succ (lays h).2⟩
theorem Lay.mono {m n : Nat} {d : PyData} (h : Lay m d) (e : m ≤ n) : Lay n d := ⟨h.1, Nat.le_trans h.2 e⟩
theorem Lay.int (i : Int) : Lay 0 (.int i) := ⟨rfl, Nat.le_refl _⟩
theorem Lay.non : Lay 0 .none := ⟨rfl, Nat.le_refl _⟩
theorem Lay.shaped {n : Nat} {d : PyData} (h : Lay n d) (e : n ≤ 64) : SeqAt.shaped d = true := by
  show (_ && _) = true
  rw [h.1, decide_eq_true (Nat.le_trans h.2 e)]; rfl
theorem Lay.self {n : Nat} {d : PyData} (h : Lay n d) : PyData.eqv d d = true := SeqAt.eqv_refl _ h.1
def bD (b : Ball) : PyData := .tuple [rD b.pl, rD b.sp, .int b.wt]
def brD (b : Ball) (x : Rat) : PyData := .tuple [rD b.pl, rD b.sp, .int b.wt, rD x]
def wlD : Wl → PyData
  | none => .none
  | some (x, y) => .tuple [rD x, rD y]
def stD (bs : List Ball) (l1 l2 : Wl) : PyData := .tuple [.tuple (bs.map bD), .tuple [wlD l1, wlD l2]]
def brsD (bs : List Ball) (ws : List Rat) : PyData := .tuple (List.zipWith brD bs ws)
theorem rds_balls {H : Hp} : ∀ {us : List V} {bs : List Ball}, BallsAt H us bs → RdDs H us (bs.map bD)
  | _, _, .nil => .nil
  | _, _, .cons h1 h2 h3 t => .cons (.tup h1 (.cons (rat_rd h2) (.cons (rat_rd h3) (.cons (.int _) .nil)))) (rds_balls t)
theorem rd_wall {H : Hp} {v : V} : ∀ {l : Wl}, WallAt H v l → RdD H v (wlD l)
  | none, h => by
    obtain rfl : v = .non := h
    exact .non
  | some (x, y), h => by
    obtain ⟨a, p, q, rfl, h1, h2, h3⟩ := h
    exact .tup h1 (.cons (rat_rd h2) (.cons (rat_rd h3) .nil))
theorem rds_brs {H : Hp} : ∀ {us : List V} {bs : List Ball} {ws : List Rat}, BrsAt H us bs ws → RdDs H us (List.zipWith brD bs ws)
  | [], [], _, _ => by simpa using RdDs.nil
  | [], _ :: _, _, h => by have := h.l1; simp at this
  | _ :: _, [], _, h => by have := h.l1; simp at this
  | _ :: _, _ :: _, [], h => by have := h.l2; simp at this
  | u :: us, b :: bs, x :: ws, h => by
    obtain ⟨a, p, q, r, rfl, h1, h2, h3, h4⟩ := h.at' 0 u b x rfl rfl rfl
    refine .cons (.tup h1 (.cons (rat_rd h2) (.cons (rat_rd h3) (.cons (.int _) (.cons (rat_rd h4) .nil))))) (rds_brs ⟨?_, ?_, ?_⟩)
    · have := h.l1; simpa using this
    · have := h.l2; simpa using this
    · exact fun i v c y e1 e2 e3 => h.at' (i + 1) v c y (by simpa using e1) (by simpa using e2) (by simpa using e3)
theorem BrsAt.rd {H : Hp} {us : List V} {bs : List Ball} {ws : List Rat} {a : Addr} (h : BrsAt H us bs ws) (e : H a = some (.tup us)) : RdD H (.ref a) (brsD bs ws) := .tup e (rds_brs h)
theorem th_tk (ws : List Rat) (bs : List Ball) : thB ws (tkB ws bs) = bs := by
  apply List.ext_getElem?
  intro i
  unfold thB tkB
  rw [List.getElem?_mapIdx, List.getElem?_mapIdx]
  cases bs[i]? with
  | none => rfl
  | some b =>
    show some (Ball.mk (b.pl + ahd ws i - ahd ws i) b.sp b.wt) = some b
    rw [show b.pl + ahd ws i - ahd ws i = b.pl by grind]
theorem mv_mv (l : Wl) (a : Rat) : mvW (mvW l a) (0 - a) = l := by
  cases l with
  | none => rfl
  | some z =>
    show some (z.1 + a + (0 - a), z.2) = some z
    rw [show z.1 + a + (0 - a) = z.1 by grind]
theorem tk_len (ws : List Rat) (bs : List Ball) : (tkB ws bs).length = bs.length := by unfold tkB; rw [List.length_mapIdx]
theorem WZ.wz {l : Wl} (z : WZ l) : WallZ l := fun x y e => (z x y e).1.mono (by decide)
def StAt (H : Hp) (t : Addr) (bs : List Ball) (l1 l2 : Wl) : Prop := ∃ r us w v1 v2, H t = some (.tup [.ref r, .ref w]) ∧ H r = some (.tup us) ∧ BallsAt H us bs ∧ H w = some (.tup [v1, v2]) ∧ WallAt H v1 l1 ∧ WallAt H v2 l2
theorem StAt.rd {H : Hp} {t : Addr} {bs : List Ball} {l1 l2 : Wl} (h : StAt H t bs l1 l2) : RdD H (.ref t) (stD bs l1 l2) := by
  obtain ⟨r, us, w, v1, v2, h1, h2, h3, h4, h5, h6⟩ := h
  exact .tup h1 (.cons (.tup h2 (rds_balls h3)) (.cons (.tup h4 (.cons (rd_wall h5) (.cons (rd_wall h6) .nil))) .nil))
theorem StAt.same {H H' : Hp} {t : Addr} {bs : List Ball} {l1 l2 : Wl} (h : StAt H t bs l1 l2) (e : Same H H') : StAt H' t bs l1 l2 := by
  obtain ⟨r, us, w, v1, v2, h1, h2, h3, h4, h5, h6⟩ := h
  exact ⟨r, us, w, v1, v2, e _ _ h1, e _ _ h2, h3.same e, e _ _ h4, h5.tups (.of e), h6.tups (.of e)⟩
end KK
end
section
set_option maxHeartbeats 8000000
set_option Elab.async false
set_option linter.all false
set_option maxRecDepth 100000
namespace KK
open PySem L2 KM
theorem rd4 {H : Hp} {v : V} {d : PyData} (h : RdD H v d) (c : KR.tupD 4 d = true) : ∃ a x y z u d1 d2 d3 d4, v = .ref a ∧ d = .tuple [d1, d2, d3, d4] ∧ H a = some (.tup [x, y, z, u]) ∧ RdD H x d1 ∧ RdD H y d2 ∧ RdD H z d3 ∧ RdD H u d4 := by
  cases h with
  | @tup a xs ds ha hs =>
    have hl : ds.length = 4 := by have := of_decide_eq_true c; omega
    match ds, hl with
    | [d1, d2, d3, d4], _ =>
      cases hs with
      | cons h1 hs =>
      cases hs with
      | cons h2 hs =>
      cases hs with
      | cons h3 hs =>
      cases hs with
      | cons h4 hs => cases hs; exact ⟨a, _, _, _, _, d1, d2, d3, d4, rfl, rfl, ha, h1, h2, h3, h4⟩
  | non => cases c
  | bl b => cases c
  | int i => cases c
  | str x => cases c
  | lst h _ => cases c
theorem ratD_is {d : PyData} (h : KR.ratD d = true) : ∃ x : Rat, d = rD x := by
  unfold KR.ratD at h
  split at h
  · next t b =>
    rw [Bool.and_eq_true, decide_eq_true_eq, decide_eq_true_eq] at h
    obtain ⟨h1, h2⟩ := h
    refine ⟨⟨t, b.toNat, by omega, ?_⟩, ?_⟩
    · show Nat.Coprime t.natAbs b.toNat
      have : Int.gcd t b = Nat.gcd t.natAbs b.natAbs := rfl
      rw [this] at h2
      have e : b.toNat = b.natAbs := by omega
      rw [e]; exact h2
    · show PyData.tuple [.int t, .int b] = .tuple [.int t, .int (b.toNat : Int)]
      rw [Int.toNat_of_nonneg (by omega)]
  · cases h
def numD : PyData → Int
  | .tuple [.int t, .int _] => t
  | _ => 0
def bbD : PyData → Bool
  | .tuple [x, y, z, u] => KR.ballD (.tuple [x, y, z]) && (KR.ratD u && decide (0 ≤ numD u))
  | _ => false
theorem bbD_no {d : PyData} (c : KR.tupD 4 d = false) : bbD d = false := by
  unfold bbD; split
  · cases c
  · rfl
theorem bbD_4 (x y z u : PyData) : bbD (.tuple [x, y, z, u]) = (KR.ballD (.tuple [x, y, z]) && (KR.ratD u && decide (0 ≤ numD u))) := rfl
def BbZ (d : PyData) : Prop := ∀ x y z q, d = .tuple [x, y, z, rD q] → Sz 4000 q
theorem lt_zero (x : Rat) : (!decide (x < 0)) = decide (0 ≤ x.num) := by
  rw [Bool.eq_iff_iff, Bool.not_eq_true', decide_eq_false_iff_not, decide_eq_true_eq]
  have : 0 ≤ x.num ↔ 0 ≤ x := Rat.num_nonneg
  rw [this]
  constructor <;> intro h <;> grind
theorem rd_brs {H : Hp} : ∀ {us : List V} {bs : List Ball} {ws : List Rat}, ws.length = bs.length → RdDs H us (List.zipWith brD bs ws) → BrsAt H us bs ws
  | us, [], [], _, h => by
    cases h
    exact ⟨rfl, rfl, fun i v b x e => by simp at e⟩
  | us, b :: bs, x :: ws, e, h => by
    cases h with
    | @cons u _ us _ h1 h2 =>
      obtain ⟨a, v1, v2, v3, v4, d1, d2, d3, d4, rfl, e1, ha, g1, g2, g3, g4⟩ := rd4 h1 rfl
      cases e1
      obtain ⟨p, rfl, hp⟩ := rd_rat g1
      obtain ⟨q, rfl, hq⟩ := rd_rat g2
      cases g3
      obtain ⟨r, rfl, hr⟩ := rd_rat g4
      have ih := rd_brs (by simpa using e) h2
      refine ⟨by simp [ih.l1], by simp [ih.l2], fun i v c y f1 f2 f3 => ?_⟩
      cases i with
      | zero => cases f1; cases f2; cases f3; exact ⟨a, p, q, r, rfl, ha, hp, hq, hr⟩
      | succ i => exact ih.at' i v c y (by simpa using f1) (by simpa using f2) (by simpa using f3)
  | _, [], _ :: _, e, _ => by simp at e
  | _, _ :: _, [], e, _ => by simp at e
theorem wallR {H : Hp} {v : V} {l : Wl} (h : WallAt H v l) : KR.WallAt H v l := by cases l <;> exact h
theorem wallK {H : Hp} {v : V} {l : Wl} (h : KR.WallAt H v l) : WallAt H v l := by cases l <;> exact h
section
variable {P : Program} {w : World} {K : PySem.W.Frag} {mg : Str → Option Value} {base : Heap} {aN : Addr} {tb tw : Tok}
theorem lt_dec (x y : Rat) : decide (x.num * y.den < y.num * x.den) = decide (x < y) := by
  rw [Bool.eq_iff_iff, decide_eq_true_eq, decide_eq_true_eq]; exact less_iff x y
def spLtK (K : PySem.W.Frag) : Sp := fun vs H Q _ => ∃ p q x y, vs = [.ref p, .ref q] ∧ SqT K H p (rp x) ∧ SqT K H q (rp y) ∧ Sz 8000 x ∧ Sz 8000 y ∧ Q (.bl (decide (x < y))) H
theorem ok_lessK (D : Df K mg "less" s_less ["one", "other"] []) : Cal P w K mg base "less" 1 ["one", "other"] [] (spLtK K) := by
  refine D.cal (k := 0) KR.sc_lt (fun vs H Q E h => by obtain ⟨_, _, _, _, rfl, _⟩ := h; rfl) (fun f cdv A outer s H vs Q E hr h => ?_)
  obtain ⟨p, q, x, y, rfl, hp, hq, hx, hy, k⟩ := h
  have b1 : Bd 1000000 x.num := hx.1.mono (by decide)
  have b2 : Bd 1000000 (x.den : Int) := hx.2.mono (by decide)
  have b3 : Bd 1000000 y.num := hy.1.mono (by decide)
  have b4 : Bd 1000000 (y.den : Int) := hy.2.mono (by decide)
  refine ⟨_, (pss_one (ps_ret (pe_cmpR op_lt (pe_op op_mulB (pe_ix ix_tup (pv 0) pe_int (fun _ _ => rfl)) (pe_ix ix_tup (pv 1) pe_int (fun _ _ => rfl))) (pe_op op_mulB (pe_ix ix_tup (pv 1) pe_int (fun _ _ => rfl)) (pe_ix ix_tup (pv 0) pe_int (fun _ _ => rfl))) (nomark _)))), ?_⟩
  refine ⟨_, rfl, p, _, _, _, rfl, rfl, hp, at0 .., _, rfl, q, _, _, _, rfl, rfl, hq, at1 .., _, _, rfl, rfl, ⟨b1, b4⟩, _, rfl, q, _, _, _, rfl, rfl, hq, at0 .., _, rfl, p, _, _, _, rfl, rfl, hp, at1 .., _, _, rfl, rfl, ⟨b3, b2⟩, _, _, rfl, rfl, ?_⟩
  show Q (.bl (decide (x.num * y.den < y.num * x.den))) H
  rw [lt_dec]; exact k
def spBB : Sp := fun vs H Q _ => ∃ v d, vs = [v] ∧ RdD H v d ∧ BbZ d ∧ ∀ H', Same H H' → Q (.bl (bbD d)) H'
theorem sc_bb : FnScope ["thing"] ["thing"] (defScope s_is_broad_ball) := ⟨rfl, rfl, rfl, by decide +kernel, rfl, by decide +kernel, by decide +kernel⟩
theorem ok_bb (D : Df K mg "is_broad_ball" s_is_broad_ball ["thing"] []) (TW : TxW K mg aN) (cTu : Cal P w K mg base "is_tuple" 1 ["thing", "many"] [] KR.spTuD) (cBa : Cal P w K mg base "is_ball" 4 ["thing"] [] (KR.spD KR.ballD)) (cIr : Cal P w K mg base "is_ratio" 2 ["thing"] [] (KR.spD KR.ratD)) (cLs : Cal P w K mg base "less" 1 ["one", "other"] [] (spLtK K)) : Cal P w K mg base "is_broad_ball" 5 ["thing"] [] spBB := by
  refine D.cal (k := 4) sc_bb (fun vs H Q E h => by obtain ⟨_, _, rfl, _⟩ := h; rfl) (fun f cdv A outer s H vs Q E hr h => ?_)
  obtain ⟨v, d, rfl, hv, hz, k⟩ := h
  have hr1 : Room 1 _ := hr.mono (by decide)
  have hr2 : Room 2 _ := hr.mono (by decide)
  refine ⟨_, (pss_one (ps_ret (pe_and (pe_c cTu hr1 (pa_cons (pv 0) (pa_cons pe_int pa_nil))) (pe_and (pe_c cBa hr (pa_cons (pe_slice sl_tup (pv 0) po_none (po_some pe_int)) pa_nil)) (pe_and (pe_c cIr hr2 (pa_cons (pe_ix ix_tup (pv 0) pe_int (fun _ _ => rfl)) pa_nil)) (pe_one (pe_not (pe_c cLs hr1 (pa_cons (pe_ix ix_tup (pv 0) pe_int (fun _ _ => rfl)) (pa_cons (pe_glob (v := .ref aN) (by rfl) TW.mn rfl) pa_nil)))))))))), ?_⟩
  refine ⟨_, rfl, v, d, _, rfl, hv, _, rfl, ?_⟩
  cases hc : KR.tupD 4 d with
  | false =>
    have k2 := k H (Same.refl _)
    rw [bbD_no hc] at k2; exact iteF k2
  | true =>
    obtain ⟨a, x, y, z, u, d1, d2, d3, d4, rfl, rfl, ha, h1, h2, h3, h4⟩ := rd4 hv hc
    refine iteT ⟨_, rfl, _, rfl, a, _, rfl, .of ha, (by show ¬ (HT.sIx 4 0 none = 0 ∧ HT.sIx 4 4 (some 3) = 4); decide), fun p1 hp1 => ?_⟩
    have S1 : Same H (upd H p1 (.tup (cutV [x, y, z, u] none (some 3)))) := Same.upd hp1
    have hp1' : upd H p1 (.tup (cutV [x, y, z, u] none (some 3))) p1 = some (.tup [x, y, z]) := upd_same
    generalize upd H p1 (.tup (cutV [x, y, z, u] none (some 3))) = G at S1 hp1'
    have ha1 := S1 _ _ ha
    have k2 := k G S1
    rw [bbD_4] at k2
    refine ⟨.ref p1, .tuple [d1, d2, d3], rfl, .tup hp1' (.cons (h1.same S1) (.cons (h2.same S1) (.cons (h3.same S1) .nil))), _, rfl, ?_⟩
    cases hb : KR.ballD (.tuple [d1, d2, d3]) with
    | false => rw [hb, Bool.false_and] at k2; exact iteF k2
    | true =>
      rw [hb, Bool.true_and] at k2
      refine iteT ⟨_, rfl, a, _, _, _, rfl, rfl, .of ha1, rfl, u, d4, rfl, h4.same S1, _, rfl, ?_⟩
      cases hq : KR.ratD d4 with
      | false => rw [hq, Bool.false_and] at k2; exact iteF k2
      | true =>
        rw [hq, Bool.true_and] at k2
        obtain ⟨q, rfl⟩ := ratD_is hq
        obtain ⟨r, rfl, hr'⟩ := rd_rat (h4.same S1)
        refine iteT ⟨_, rfl, a, _, _, _, rfl, rfl, .of ha1, rfl, r, aN, q, 0, rfl, .of hr', nought_sq TW.kn G, (hz _ _ _ q rfl).mono (by decide), Sz.mono (m := 1) ⟨show (0 : Int).natAbs < 2 ^ 1 by decide, show (1 : Int).natAbs < 2 ^ 1 by decide⟩ (by decide), ?_⟩
        refine ⟨_, rfl, ?_⟩
        rw [lt_zero]; exact k2
inductive VerB (l1 l2 : Wl) : PyData → Bool → Prop
  | kind {e : PyData} (h : KR.isTuD e = false) : VerB l1 l2 e false
  | part {ds : List PyData} (hz : ∀ d ∈ ds, BbZ d) (hl : ds.length ≤ 25) (h : ds.all bbD = false) : VerB l1 l2 (.tuple ds) false
  | row {bs : List Ball} {ws : List Rat} {b : Bool} (e : ws.length = bs.length) (hl : bs.length ≤ 25) (hw : ∀ b ∈ bs, 1 ≤ b.wt ∧ b.wt ≤ 1000) (hz : ∀ x ∈ ws, Sz 27 x ∧ 0 ≤ x) (hp : ∀ b ∈ bs, Sz 600 b.pl)
      (h : KR.Verd l1 (mvW l2 (0 - ahd ws ws.length)) (.tuple ((thB ws bs).map KR.bD)) b) (z2 : KR.WSz (mvW l2 (0 - ahd ws ws.length))) : VerB l1 l2 (brsD bs ws) b
theorem bbD_br {b : Ball} {x : Rat} (h : 1 ≤ b.wt ∧ b.wt ≤ 1000) (hx : 0 ≤ x) : bbD (brD b x) = true := by
  show (KR.ballD (KR.bD b) && (KR.ratD (rD x) && decide (0 ≤ x.num))) = true
  rw [KR.ballD_bD h, KR.ratD_rD, decide_eq_true (Rat.num_nonneg.mpr hx)]; rfl
theorem rD_inj {x y : Rat} (h : rD x = rD y) : x = y := by
  unfold rD at h
  injection h with h
  injection h with h1 h2
  injection h2 with h2 _
  injection h1 with h1
  injection h2 with h2
  exact Rat.ext h1 (by omega)
theorem bbz_br {b : Ball} {x : Rat} (h : Sz 27 x) : BbZ (brD b x) := fun d1 d2 d3 q e => by
  unfold brD at e
  injection e with e
  injection e with _ e
  injection e with _ e
  injection e with _ e
  injection e with e _
  rw [← rD_inj e]; exact h.mono (by decide)
theorem zw_all {bs : List Ball} : ∀ {ws : List Rat}, (∀ b ∈ bs, 1 ≤ b.wt ∧ b.wt ≤ 1000) → (∀ x ∈ ws, Sz 27 x ∧ 0 ≤ x) → ∀ d ∈ List.zipWith brD bs ws, bbD d = true ∧ BbZ d := by
  induction bs with
  | nil => intro ws _ _ d m; simp at m
  | cons b bs ih =>
    intro ws hw hz d m
    cases ws with
    | nil => simp at m
    | cons x ws =>
      rcases List.mem_cons.mp (by simpa using m) with rfl | m
      · exact ⟨bbD_br (hw b (List.mem_cons_self ..)) (hz x (List.mem_cons_self ..)).2, bbz_br (hz x (List.mem_cons_self ..)).1⟩
      · exact ih (fun c mc => hw c (List.mem_cons_of_mem _ mc)) (fun y my => hz y (List.mem_cons_of_mem _ my)) d m
theorem comp_B {σ : St} {H : Hp} {Q : VK} {j : Nat} {r : Addr} {us : List V} {ds : List PyData} (hσ : σ[j]? = some (some (.ref r))) (hr : H r = some (.tup us)) (hB : RdDs H us ds) (hz : ∀ d ∈ ds, BbZ d) (hlen : ds.length ≤ 25)
    (k : ∀ D H', Same H H' → H' D = some (.lst ((ds.map bbD).map V.bl)) → Q (.ref D) H') :
    tComp 1 (iTup K (tVar j)) (gName 0) (fun _ H Q => Q true H) (tCall spBB [] E0 (tCons (tVar 0) tNil)) σ H Q := by
  have hl := hB.len
  refine ⟨_, hσ, r, rfl, ⟨_, SqT.of hr⟩, fun Dc hDc => ?_⟩
  refine comp_each (J := Itt K r) (g := gName 0) (te := tCall spBB [] E0 (tCons (tVar 0) tNil)) (n := 1) (xs := us) (fun i v G => ∀ d, ds[i]? = some d → v = .bl (bbD d)) (fun i v G G' e h => h) hDc (runs_tup hr) (small1000 (by omega)) ?_ ?_
  · intro i x zs G Q' hx hzs S hQ
    obtain ⟨y1, rfl⟩ := len1 hzs
    have hi : i < us.length := (List.getElem?_eq_some_iff.mp hx).1
    obtain ⟨d, ed⟩ : ∃ d, ds[i]? = some d := ⟨ds[i]'(by omega), List.getElem?_eq_getElem _⟩
    obtain ⟨x', ex, rx⟩ := hB.get ed
    rw [hx] at ex; cases ex
    refine ⟨_, rfl, x, d, rfl, rx.same S, hz d (List.mem_of_getElem? ed), fun G2 s2 => hQ _ _ s2 fun d' e' => ?_⟩
    rw [ed] at e'; cases e'; rfl
  · intro ys G S hD hyl hR
    refine k Dc G S ?_
    have : ys = (ds.map bbD).map V.bl := by
      apply List.ext_getElem?
      intro i
      rw [List.getElem?_map, List.getElem?_map]
      cases hd : ds[i]? with
      | none =>
        have : ds.length ≤ i := List.getElem?_eq_none_iff.mp hd
        rw [List.getElem?_eq_none (by omega)]; rfl
      | some d =>
        have hi : i < ds.length := (List.getElem?_eq_some_iff.mp hd).1
        obtain ⟨v, ev⟩ : ∃ v, ys[i]? = some v := ⟨ys[i]'(by omega), List.getElem?_eq_getElem _⟩
        rw [ev, hR i v ev d hd]; rfl
    rw [← this]; exact hD
def spIB : Sp := fun vs H Q _ => ∃ u v l1 l2 e b, vs = [u, v] ∧ RdD H u (KR.wsD l1 l2) ∧ KR.WSz l1 ∧ WallZ l2 ∧ RdD H v e ∧ VerB l1 l2 e b ∧ ∀ H', Same H H' → Q (.bl b) H'
theorem sc_ib : FnScope ["walls", "thing", "row", "thin_walls"] ["walls", "thing"] (defScope s_is_broad) := ⟨rfl, rfl, rfl, by decide +kernel, rfl, by decide +kernel, by decide +kernel⟩
theorem ok_ib (D : Df K mg "is_broad" s_is_broad ["walls", "thing"] []) (T : TxB K mg) (T3 : KR.Tx3 K mg tb tw aN) (cWp : Cal P w K mg base "is_wall_pair" 4 ["thing"] [] (KR.spD KR.wpD)) (cBB : Cal P w K mg base "is_broad_ball" 5 ["thing"] [] spBB) (cTh : Cal P w K mg base "thinned" 5 ["broad", "walls"] [] spTh) (cIs : Cal P w K mg base "is_row" 6 ["walls", "thing"] [] KR.spIsD) : Cal P w K mg base "is_broad" 7 ["walls", "thing"] [] spIB := by
  refine D.calB (k := 6) sc_ib (fun vs H Q E h => by obtain ⟨_, _, _, _, _, _, rfl, _⟩ := h; rfl) (fun f cdv A outer s H vs Q E hr h => ?_)
  obtain ⟨u, v, l1, l2, e, bb, rfl, hu, z1, z2, hv, hV, k⟩ := h
  have hr4 : Room 4 _ := hr.mono (by decide)
  have hr5 : Room 5 _ := hr.mono (by decide)
  refine ⟨_, (bx_scons (Bx.mk (ps_if (pw_or (pt_not (pt_truth (pe_c cWp hr4 (pa_cons (pv 0) pa_nil)) fun _ => rfl)) (pw_or (pt_not (pt_truth (pe_callB call_isinst (by rfl) T.nIs PyProof.Rows.boot_isinstance (pa_cons (pv 1) (pa_cons (pe_bltn (v := .ty "tuple") (u := .type "tuple") (by rfl) T.nTuple PyProof.Rows.boot_tuple rfl) pa_nil))) fun _ => rfl)) (pw_or1 (pt_not (pt_truth (pe_callB (call_all rfl) (by rfl) T3.nAll (by decide +kernel) (pa_cons (pe_comp (NB := ["ball"]) rfl (by decide +kernel) (by decide +kernel) rfl (by decide +kernel) (pi_tup (pv 1)) (by intro _ _ _; refine ⟨?_, ?_, ?_⟩; (exact (pg_name (i := 0) (show List.Nodup (["ball"] : List Str) by decide +kernel) rfl (Or.inl rfl))); (exact pts_nil); (exact (pe_c cBB hr5 (pa_cons (pv 0) pa_nil))))) pa_nil)) fun _ => rfl))))).pt (pss_one (ps_ret pe_bl)) pss_nil))
    (bx_scons (Bx.mk (ps_asg (pe_c cTh hr5 (pa_cons (pv 1) (pa_cons (pv 0) pa_nil))) (pg_tup rfl (pgs_cons (pg_name (i := 2) sc_ib.nd rfl (Or.inl rfl)) (pgs_cons (pg_name (i := 3) sc_ib.nd rfl (Or.inl rfl)) pgs_nil)))))
    (Bx.mk (pss_one (ps_ret (pe_c cIs hr (pa_cons (pv 3) (pa_cons (pv 2) pa_nil)))))))), ?_⟩
  refine ⟨_, rfl, u, _, rfl, hu, _, rfl, ?_⟩
  rw [KR.wpD_ws]
  refine iteF ?_
  refine ⟨_, rfl, _, _, _, _, rfl, KR.ty_of hv, KR.kt_tup K e, _, rfl, ?_⟩
  cases ht : KR.isTuD e with
  | false =>
    have : bb = false := by
      cases hV with
      | row => cases ht
      | _ => rfl
    have k0 := k H (Same.refl _)
    rw [this] at k0
    exact iteT (iteT k0)
  | true =>
    refine iteF ?_
    cases hv with
    | @tup r us ds hrr hB =>
      have hzl : (∀ d ∈ ds, BbZ d) ∧ ds.length ≤ 25 := by
        cases hV with
        | kind h => cases h.symm.trans ht
        | part hz hl h => exact ⟨hz, hl⟩
        | row e hl hw hz hp h z2 => exact ⟨fun d m => (zw_all hw hz d m).2, by rw [List.length_zipWith]; omega⟩
      unfold tNot tCB tCons
      refine comp_B (K := K) (j := 1) rfl hrr hB hzl.1 hzl.2 fun DD H2 e2 hD => ⟨DD, _, rfl, SqL.of hD, ?_⟩
      rw [KR.all_map]
      obtain ⟨aw, v1, v2, d1, d2, rfl, ew, haw, hw1, hw2⟩ := KR.rd2 hu rfl
      cases ew
      have hw1 := KR.rd_wall hw1
      have hw2 := KR.rd_wall hw2
      cases hV with
      | kind h => cases h.symm.trans ht
      | part hz hl h =>
        rw [h]
        exact ⟨false, rfl, iteT (k H2 e2)⟩
      | @row bs ws b e hl hw hz hp h zz =>
        have hall : (List.zipWith brD bs ws).all bbD = true := List.all_eq_true.mpr fun d m => (zw_all hw hz d m).1
        rw [hall]
        refine ⟨true, rfl, iteF ?_⟩
        have hBr := (rd_brs e hB).tups (.of e2)
        refine ⟨_, rfl, _, rfl, r, us, bs, ws, aw, v1, v2, l1, l2, rfl, e2 _ _ hrr, hBr, hl, fun x m => (hz x m).1, hp, e2 _ _ haw, (wallK hw1).tups (.of e2), (wallK hw2).tups (.of e2), z2, fun t r2 us2 w2 v2' H3 e3 ht3 hr3 hB3 hw3 hv3 => ?_⟩
        refine ⟨t, _, rfl, .of ht3, rfl, _, _, rfl, _, _, rfl, rfl, ?_⟩
        have e23 := e2.trans e3
        refine ⟨_, rfl, _, rfl, .ref w2, .ref r2, l1, mvW l2 (0 - ahd ws ws.length), _, _, rfl, .tup hw3 (.cons (KR.wall_rd (hw1.same e23)) (.cons (KR.wall_rd (wallR hv3)) .nil)), z1, zz, .tup hr3 (KR.balls_rd hB3), h, fun H4 e4 => k H4 (e23.trans e4)⟩
    | _ => cases ht
end
end KK
end
section
set_option maxHeartbeats 8000000
set_option Elab.async false
set_option linter.all false
set_option maxRecDepth 100000
namespace L2
open PySem PySem.Spec PyProof.Rows
section
variable {N : List Addr} {σ : St} {H : Hp} {K : PySem.W.Frag}
theorem dt_ixL {ta tb : TE} {ds : List PyData} {i : Int} {d : PyData} (ha : Dt N ta σ H (.list ds)) (hb : Dt N tb σ H (.int i)) (hi : atI ds i = some d) : Dt N (tOp (rIxL K) ta tb) σ H d := fun H1 a Q k =>
  ha H1 a _ fun v H2 e2 r2 => hb H2 (a.go e2) _ fun y H3 e3 r3 => by
    cases r3
    cases r2 with
    | lst z zs =>
      obtain ⟨x, hx, rx⟩ := zs.at hi
      exact ⟨_, _, i, x, rfl, rfl, .of (e3 _ _ (del_some z).1), hx, k x H3 (e2.trans e3) (rx.same (same_del e3))⟩
theorem dt_sub {ta tb : TE} {i j : Int} (ha : Dt N ta σ H (.int i)) (hb : Dt N tb σ H (.int j)) : Dt N (tOp (rI0 fun i j => .int (i - j)) ta tb) σ H (.int (i - j)) := dt_i0 (g := (· - ·)) ha hb
theorem rds_rep {H : Hp} {x : V} {d : PyData} (h : RdD H x d) : ∀ n, RdDs H (List.replicate n x) (List.replicate n d)
  | 0 => .nil
  | n + 1 => .cons h (rds_rep h n)
theorem dt_repN {ta tb : TE} {d : PyData} {m : Int} (ha : Dt N ta σ H (.tuple [d])) (hb : Dt N tb σ H (.int m)) (m0 : 1 < m) (m1 : m ≤ 63) : Dt N (tOp (rRepTn K) ta tb) σ H (.tuple (List.replicate m.toNat d)) := fun H1 a Q k =>
  ha H1 a _ fun v H2 e2 r2 => hb H2 (a.go e2) _ fun y H3 e3 r3 => by
    have r2' := r2.same (same_del e3)
    have L := (a.l.same (e2.trans e3))
    cases r3
    cases r2' with
    | @tup b xs _ z zs =>
      cases zs with
      | @cons x _ _ _ h hs =>
        cases hs
        refine ⟨b, x, m, rfl, rfl, m0, m1, .of (del_some z).1, fun p hp => ?_⟩
        exact k _ _ ((e2.trans e3).trans (Same.upd hp)) (.tup (del_of upd_same (L.nnew hp)) (rds_rep (h.same (sameD hp)) _))
end
end L2
namespace KK
open PySem L2 KM
theorem tup_del {H : Hp} {p : Addr} (hP : Pool H p) : TupS H (del [p] H) := fun b xs e => del_of e (by
  intro m
  obtain rfl : b = p := by simpa using m
  obtain ⟨_, _, _, z⟩ := hP
  rw [e] at z; cases z)
theorem pool_ls {H : Hp} {p : Addr} (hP : Pool H p) : Ls [p] H := by
  obtain ⟨_, _, _, z⟩ := hP
  exact ls1 z
theorem step_del {H G : Hp} {p : Addr} (s : Step p H G) : Same (del [p] H) (del [p] G) := fun b o e => by
  obtain ⟨e1, e2⟩ := del_some e
  exact del_of (s.keep b o e1 (by simpa using e2)) e2
section
variable {P : Program} {w : World} {K : PySem.W.Frag} {mg : Str → Option Value} {base : Heap} {aN : Addr} {tb tw : Tok}
def spLI : Sp := fun vs H Q _ => ∃ a us bs ws wl v1 v2 l1 l2 b, vs = [.ref wl, .ref a] ∧ H a = some (.tup us) ∧ BrsAt H us bs ws ∧ bs.length ≤ 25 ∧ (∀ x ∈ ws, Sz 27 x) ∧ (∀ b ∈ bs, Sz 600 b.pl) ∧ H wl = some (.tup [v1, v2]) ∧ WallAt H v1 l1 ∧ WallAt H v2 l2 ∧ WallZ l2 ∧ KR.WSz l1 ∧ KR.WSz (mvW l2 (0 - ahd ws ws.length)) ∧
  KR.Verd l1 (mvW l2 (0 - ahd ws ws.length)) (.tuple ((thB ws bs).map KR.bD)) b ∧ ∀ H', Same H H' → Q (.bl b) H'
theorem sc_li : FnScope ["walls", "broad", "row", "sides"] ["walls", "broad"] (defScope s_law_is) := ⟨rfl, rfl, rfl, by decide +kernel, rfl, by decide +kernel, by decide +kernel⟩
theorem verd_good {l1 l2 : Wl} {e : PyData} {b : Bool} (h : KR.Verd l1 l2 e b) (g : KR.wgood l1 l2 = false) : b = false := by
  cases h with
  | row => unfold KR.rowB; rw [g]; rfl
  | _ => rfl
theorem ok_li (D : Df K mg "_law_is" s_law_is ["walls", "broad"] []) (cTn : Cal P w K mg base "_law_thin" 3 ["broad", "walls"] [] spTh) (cWg : Cal P w K mg base "walls_good" 5 ["thing"] [] KR.spWgD) (cIs : Cal P w K mg base "is_row" 6 ["walls", "thing"] [] KR.spIsD) : Cal P w K mg base "_law_is" 7 ["walls", "broad"] [] spLI := by
  refine D.calB (k := 6) sc_li (fun vs H Q E h => by obtain ⟨_, _, _, _, _, _, _, _, _, _, rfl, _⟩ := h; rfl) (fun f cdv A outer s H vs Q E hr h => ?_)
  obtain ⟨a, us, bs, ws, wl, v1, v2, l1, l2, b, rfl, ha, hB, hl, zw, zb, hwl, hv1, hv2, z2, y1, y2, hV, k⟩ := h
  have hr3 : Room 3 _ := hr.mono (by decide)
  have hr5 : Room 5 _ := hr.mono (by decide)
  refine ⟨_, (bx_scons (Bx.mk (ps_asg (pe_c cTn hr3 (pa_cons (pv 1) (pa_cons (pv 0) pa_nil))) (pg_tup rfl (pgs_cons (pg_name (i := 2) sc_li.nd rfl (Or.inl rfl)) (pgs_cons (pg_name (i := 3) sc_li.nd rfl (Or.inl rfl)) pgs_nil)))))
    (Bx.mk (pss_one (ps_ret (pe_and (pe_c cWg hr5 (pa_cons (pv 3) pa_nil)) (pe_one (pe_c cIs hr (pa_cons (pv 3) (pa_cons (pv 2) pa_nil))))))))), ?_⟩
  refine ⟨_, rfl, _, rfl, a, us, bs, ws, wl, v1, v2, l1, l2, rfl, ha, hB, hl, zw, zb, hwl, hv1, hv2, z2, fun t r2 us2 w2 v2' H3 e3 ht3 hr3 hB3 hw3 hv3 => ?_⟩
  refine ⟨t, _, rfl, .of ht3, rfl, _, _, rfl, _, _, rfl, rfl, ?_⟩
  have hws : RdD H3 (.ref w2) (KR.wsD l1 (mvW l2 (0 - ahd ws ws.length))) := .tup hw3 (.cons (KR.wall_rd ((wallR hv1).same e3)) (.cons (KR.wall_rd (wallR hv3)) .nil))
  refine ⟨_, rfl, .ref w2, _, KR.wgood l1 (mvW l2 (0 - ahd ws ws.length)), rfl, hws, .inr ⟨l1, _, rfl, y1, y2, rfl⟩, ?_⟩
  cases hg : KR.wgood l1 (mvW l2 (0 - ahd ws ws.length)) with
  | false =>
    have := k H3 e3
    rw [verd_good hV hg] at this
    exact ⟨_, rfl, iteF this⟩
  | true =>
    exact ⟨_, rfl, iteT ⟨_, rfl, _, rfl, .ref w2, .ref r2, l1, mvW l2 (0 - ahd ws ws.length), _, b, rfl, hws, y1, y2, .tup hr3 (KR.balls_rd hB3), hV, fun H4 e4 => k H4 (e3.trans e4)⟩⟩
def sizeW (l : Wl) : Prop := ∀ x y, l = some (x, y) → Sz 600 x ∧ Sz 80 y
def putB (ds : List PyData) (j : Nat) (e : PyData) : PyData := .tuple ((ds.take j ++ [e]) ++ ds.drop (j + 1))
theorem ver_put {l1 l2 : Wl} {ds : List PyData} {j : Nat} {e : PyData} (hj : j < ds.length) (hl : ds.length ≤ 8) (hz : ∀ d ∈ ds, BbZ d) (he : bbD e = false) (hb : BbZ e) : VerB l1 l2 (putB ds j e) false := by
  refine .part ?_ ?_ ?_
  · intro d m
    rcases List.mem_append.mp m with m | m
    · rcases List.mem_append.mp m with m | m
      · exact hz d (List.mem_of_mem_take m)
      · obtain rfl : d = e := by simpa using m
        exact hb
    · exact hz d (List.mem_of_mem_drop m)
  · rw [List.length_append, List.length_append, List.length_take, List.length_drop, List.length_cons, List.length_nil]; omega
  · rw [List.all_append, List.all_append, List.all_cons, he]; simp
theorem mv_w {l : Wl} {ws : List Rat} (z : sizeW l) (zw : ∀ x ∈ ws, Sz 27 x) (h : ws.length ≤ 25) : KR.WSz (mvW l (0 - ahd ws ws.length)) := fun x y e => by
  cases l with
  | none => cases e
  | some u =>
    obtain ⟨p, q⟩ := u
    cases e
    have z0 : Sz 1 (0 : Rat) := ⟨show (0 : Int).natAbs < 2 ^ 1 by decide, show (1 : Int).natAbs < 2 ^ 1 by decide⟩
    refine ⟨Sz.mono ((z p _ rfl).1.add (?_ : Sz (1 + 28 * ws.length + 3) _)) (by omega), (z p _ rfl).2.mono (by decide)⟩
    rw [Rat.sub_eq_add_neg, Rat.zero_add]
    have h := ahd_sz zw ws.length (Nat.le_refl _)
    exact Sz.mono ⟨by rw [Rat.neg_num]; exact h.1.neg, by rw [Rat.neg_den]; exact h.2⟩ (by omega)
theorem ver_big {l1 l2 : Wl} {bs : List Ball} {ws : List Rat} (e : ws.length = bs.length) (hl : bs.length ≤ 25) (hs : bs = [] ∨ 8 < bs.length) (hw : ∀ b ∈ bs, 1 ≤ b.wt ∧ b.wt ≤ 1000) (hz : ∀ x ∈ ws, Sz 27 x ∧ 0 ≤ x) (hp : ∀ b ∈ bs, Sz 600 b.pl) (z2 : sizeW l2) : VerB l1 l2 (brsD bs ws) false := by
  refine .row e hl hw hz hp (.size ?_) (mv_w z2 (fun x m => (hz x m).1) (by omega))
  rcases hs with rfl | hs
  · exact .inl rfl
  · exact .inr (by unfold thB; rw [List.length_map, List.length_mapIdx]; exact hs)
def BrZ (bs : List Ball) (ws : List Rat) : Prop := ws.length = bs.length ∧ (∀ b ∈ bs, 1 ≤ b.wt ∧ b.wt ≤ 1000) ∧ (∀ x ∈ ws, Sz 27 x ∧ 0 ≤ x) ∧ (∀ b ∈ bs, Sz 540 b.pl ∧ Sz 80 b.sp)
theorem bbz4 {x y z u : PyData} (h : ∀ q, u = rD q → Sz 4000 q) : BbZ (.tuple [x, y, z, u]) := fun d1 d2 d3 q e => by
  injection e with e
  injection e with _ e
  injection e with _ e
  injection e with _ e
  injection e with e _
  exact h q e
theorem sz_pair {t b : Int} (h1 : t.natAbs < 2 ^ 4000) (h2 : b.natAbs < 2 ^ 4000) : ∀ q, PyData.tuple [.int t, .int b] = rD q → Sz 4000 q := fun q e => by
  unfold rD at e
  injection e with e
  injection e with e1 e2
  injection e2 with e2 _
  injection e1 with e1
  injection e2 with e2
  exact ⟨by rw [← e1]; exact h1, by rw [← e2]; exact h2⟩
def oddD (b : Ball) (x : Rat) : List PyData :=
  [.tuple [rD b.pl, rD b.sp, .int b.wt, .tuple [.int (-1), .int 2]], .tuple [rD b.pl, rD b.sp, .int b.wt, .int 1], .tuple [rD b.pl, rD b.sp, .int b.wt],
   .list [rD b.pl, rD b.sp, .int b.wt, rD x], .tuple [rD b.pl, rD b.sp, .int b.wt, .tuple [.int 2, .int 4]], .none,
   .tuple [rD b.pl, rD b.sp, .int b.wt, .none], .tuple [rD b.pl, rD b.sp, .int 0, rD x],
   .tuple [rD b.pl, rD b.sp, .int 1001, rD x], .tuple [.tuple [.int 1, .int 0], rD b.sp, .int b.wt, rD x], .tuple [rD b.pl, rD b.sp, .int b.wt, rD x, rD x]]
theorem odd_bad {b : Ball} {x : Rat} (hx : Sz 27 x) : ∀ d ∈ oddD b x, bbD d = false ∧ BbZ d := by
  have zx : ∀ q, rD x = rD q → Sz 4000 q := fun q e => by rw [← rD_inj e]; exact hx.mono (by decide)
  intro d m
  unfold oddD at m
  simp only [List.mem_cons, List.not_mem_nil, or_false] at m
  rcases m with rfl | rfl | rfl | rfl | rfl | rfl | rfl | rfl | rfl | rfl | rfl
  · refine ⟨?_, bbz4 (sz_pair (by decide +kernel) (by decide +kernel))⟩
    rw [bbD_4]; rw [show decide (0 ≤ numD (PyData.tuple [.int (-1), .int 2])) = false from rfl]; simp
  · refine ⟨?_, bbz4 fun q e => by unfold rD at e; cases e⟩
    rw [bbD_4]; rw [show KR.ratD (PyData.int 1) = false from rfl]; simp
  · exact ⟨rfl, fun _ _ _ _ e => by cases e⟩
  · exact ⟨rfl, fun _ _ _ _ e => by cases e⟩
  · refine ⟨?_, bbz4 (sz_pair (by decide +kernel) (by decide +kernel))⟩
    rw [bbD_4]; rw [show KR.ratD (PyData.tuple [.int 2, .int 4]) = false by decide +kernel]; simp
  · exact ⟨rfl, fun _ _ _ _ e => by cases e⟩
  · refine ⟨?_, bbz4 fun q e => by unfold rD at e; cases e⟩
    rw [bbD_4]; rw [show KR.ratD PyData.none = false from rfl]; simp
  · refine ⟨?_, bbz4 zx⟩
    rw [bbD_4]; rw [show KR.ballD (PyData.tuple [rD b.pl, rD b.sp, .int 0]) = (KR.ratD (rD b.pl) && KR.ratD (rD b.sp) && false) from rfl]; simp
  · refine ⟨?_, bbz4 zx⟩
    rw [bbD_4]; rw [show KR.ballD (PyData.tuple [rD b.pl, rD b.sp, .int 1001]) = (KR.ratD (rD b.pl) && KR.ratD (rD b.sp) && false) from rfl]; simp
  · refine ⟨?_, bbz4 zx⟩
    rw [bbD_4]; rw [show KR.ballD (PyData.tuple [.tuple [.int 1, .int 0], rD b.sp, .int b.wt]) = (false && KR.ratD (rD b.sp) && (decide (1 ≤ b.wt) && decide (b.wt ≤ 1000))) from rfl]; simp
  · exact ⟨rfl, fun _ _ _ _ e => by injection e with e; have := congrArg List.length e; simp at this⟩
theorem zw_rep {f : Ball → Rat → PyData} {b : Ball} {x : Rat} : ∀ n, List.zipWith f (List.replicate n b) (List.replicate n x) = List.replicate n (f b x)
  | 0 => rfl
  | n + 1 => by rw [List.replicate_succ, List.replicate_succ, List.zipWith_cons_cons, zw_rep n, ← List.replicate_succ]
def spOdd : Sp := fun vs H Q _ => ∃ p a us bs ws, vs = [.ref p, .ref a] ∧ Pool H p ∧ H a = some (.tup us) ∧ BrsAt H us bs ws ∧ BrZ bs ws ∧ 1 ≤ bs.length ∧ bs.length ≤ 8 ∧ ∀ v d H', Step p H H' → RdD H' v d → (∀ l1 l2, sizeW l2 → VerB l1 l2 d false) → Q v H'
theorem sc_odd : FnScope ["pool", "broad", "at", "place", "speed", "weight", "width", "some", "way"] ["pool", "broad"] (defScope s_law_odd) := ⟨rfl, rfl, rfl, by decide +kernel, rfl, by decide +kernel, by decide +kernel⟩
theorem ok_odd (D : Df K mg "_law_odd" s_law_odd ["pool", "broad"] []) (T : TxB K mg) (T3 : KR.Tx3 K mg tb tw aN) (cN : Cal P w K mg base "_law_next" 1 ["pool", "base"] [] spNext) : Cal P w K mg base "_law_odd" 2 ["pool", "broad"] [] spOdd := by
  refine D.calB (k := 1) sc_odd (fun vs H Q E h => by obtain ⟨_, _, _, _, _, rfl, _⟩ := h; rfl) (fun f cdv A outer s H vs Q E hr h => ?_)
  obtain ⟨p, a, us, bs, ws, rfl, hP, ha, hB, hZ, h1, h8, k⟩ := h
  have hul := hB.l1
  have hwl := hB.l2
  refine ⟨_, (bx_scons (Bx.mk (ps_set (i := 2) sc_odd.nd rfl (Or.inl rfl) (pe_c cN hr (pa_cons (pv 0) (pa_cons (pe_callB call_len_seq (by rfl) T.nLen PySem.boot_len (pa_cons (pv 1) pa_nil)) pa_nil)))))
    (bx_scons (Bx.mk (ps_asg (pe_ix ix_tup (pv 1) (pv 2) (fun _ _ => rfl)) (pg_tup rfl (pgs_cons (pg_name (i := 3) sc_odd.nd rfl (Or.inl rfl)) (pgs_cons (pg_name (i := 4) sc_odd.nd rfl (Or.inl rfl)) (pgs_cons (pg_name (i := 5) sc_odd.nd rfl (Or.inl rfl)) (pgs_cons (pg_name (i := 6) sc_odd.nd rfl (Or.inl rfl)) pgs_nil)))))))
    (bx_scons (bx_set (i := 7) sc_odd.nd rfl (Or.inl rfl) (bx_lst (bx_cons (bx_tup (bx_cons (Bx.mk (pv 3)) (bx_cons (Bx.mk (pv 4)) (bx_cons (Bx.mk (pv 5)) (bx_cons (bx_tup (bx_cons (Bx.mk (pe_un un_neg pe_int)) (bx_cons (Bx.mk pe_int) bx_nil))) bx_nil))))) (bx_cons (bx_tup (bx_cons (Bx.mk (pv 3)) (bx_cons (Bx.mk (pv 4)) (bx_cons (Bx.mk (pv 5)) (bx_cons (Bx.mk pe_int) bx_nil))))) (bx_cons (bx_tup (bx_cons (Bx.mk (pv 3)) (bx_cons (Bx.mk (pv 4)) (bx_cons (Bx.mk (pv 5)) bx_nil)))) bx_nil)))))
    (bx_scons (bx_set (i := 7) sc_odd.nd rfl (Or.inl rfl) (bx_op op_cat (Bx.mk (pv 7)) (bx_lst (bx_cons (bx_lst (bx_cons (Bx.mk (pv 3)) (bx_cons (Bx.mk (pv 4)) (bx_cons (Bx.mk (pv 5)) (bx_cons (Bx.mk (pv 6)) bx_nil))))) (bx_cons (bx_tup (bx_cons (Bx.mk (pv 3)) (bx_cons (Bx.mk (pv 4)) (bx_cons (Bx.mk (pv 5)) (bx_cons (bx_tup (bx_cons (Bx.mk pe_int) (bx_cons (Bx.mk pe_int) bx_nil))) bx_nil))))) (bx_cons (Bx.mk pe_non) bx_nil))))))
    (bx_scons (bx_set (i := 7) sc_odd.nd rfl (Or.inl rfl) (bx_op op_cat (Bx.mk (pv 7)) (bx_lst (bx_cons (bx_tup (bx_cons (Bx.mk (pv 3)) (bx_cons (Bx.mk (pv 4)) (bx_cons (Bx.mk (pv 5)) (bx_cons (Bx.mk pe_non) bx_nil))))) (bx_cons (bx_tup (bx_cons (Bx.mk (pv 3)) (bx_cons (Bx.mk (pv 4)) (bx_cons (Bx.mk pe_int) (bx_cons (Bx.mk (pv 6)) bx_nil))))) bx_nil)))))
    (bx_scons (bx_set (i := 7) sc_odd.nd rfl (Or.inl rfl) (bx_op op_cat (Bx.mk (pv 7)) (bx_lst (bx_cons (bx_tup (bx_cons (Bx.mk (pv 3)) (bx_cons (Bx.mk (pv 4)) (bx_cons (Bx.mk pe_int) (bx_cons (Bx.mk (pv 6)) bx_nil))))) (bx_cons (bx_tup (bx_cons (bx_tup (bx_cons (Bx.mk pe_int) (bx_cons (Bx.mk pe_int) bx_nil))) (bx_cons (Bx.mk (pv 4)) (bx_cons (Bx.mk (pv 5)) (bx_cons (Bx.mk (pv 6)) bx_nil))))) (bx_cons (bx_tup (bx_cons (Bx.mk (pv 3)) (bx_cons (Bx.mk (pv 4)) (bx_cons (Bx.mk (pv 5)) (bx_cons (Bx.mk (pv 6)) (bx_cons (Bx.mk (pv 6)) bx_nil)))))) bx_nil))))))
    (bx_scons (Bx.mk (ps_set (i := 8) sc_odd.nd rfl (Or.inl rfl) (pe_c cN hr (pa_cons (pv 0) (pa_cons pe_int pa_nil)))))
    (bx_scons (Bx.mk (ps_if (pt_cmpR op_lt (pv 8) pe_int (nomark _)) (pss_one (ps_ret (pe_op op_catA (pe_op op_catA (pe_slice (sl_tup.or sl_whole) (pv 1) po_none (po_some (pv 2))) (pe_tup (pa_cons (pe_ix ix_list (pv 7) (pv 8) (fun _ _ => rfl)) pa_nil))) (pe_slice (sl_tup.or sl_whole) (pv 1) (po_some (pe_op op_add (pv 2) pe_int)) po_none)))) pss_nil))
    (Bx.mk (pss_one (ps_ret (bx_out (bx_ix ix_list (bx_lst (bx_cons (Bx.mk (pe_callTy call_list_of (by rfl) T3.nList PyProof.Rows.boot_list (pa_cons (pv 1) pa_nil))) (bx_cons (bx_tup bx_nil) (bx_cons (Bx.mk pe_non) (bx_cons (Bx.mk (pe_op op_catA (pe_op op_catA (pv 1) (pv 1)) (pe_op op_repTn (pe_slice (sl_tup.or sl_whole) (pv 1) po_none (po_some pe_int)) pe_int))) bx_nil))))) (Bx.mk (pe_op op_sub (pv 8) pe_int)) (fun _ _ => rfl)))))))))))))), ?_⟩
  refine ⟨_, rfl, _, rfl, a, _, rfl, .inr (.of ha), p, _, rfl, by omega, by omega, hP, fun d G1 d0 d1 t1 => ?_⟩
  dsimp only [gName]
  obtain ⟨j, rfl⟩ : ∃ n : Nat, d = (n : Int) := ⟨d.toNat, by omega⟩
  have Tu1 := step_tups hP t1
  have ha1 := Tu1 _ _ ha
  have hB1 := hB.tups Tu1
  have hj : j < bs.length := by omega
  obtain ⟨vj, evj⟩ : ∃ x, us[j]? = some x := ⟨_, List.getElem?_eq_getElem (by omega)⟩
  obtain ⟨b, eb⟩ : ∃ x, bs[j]? = some x := ⟨_, List.getElem?_eq_getElem (by omega)⟩
  obtain ⟨x, ex⟩ : ∃ x, ws[j]? = some x := ⟨_, List.getElem?_eq_getElem (by omega)⟩
  obtain ⟨c, cp, cq, cr, rfl, hc, hcp, hcq, hcr⟩ := hB1.at' j vj b x evj eb ex
  have zx := hZ.2.2.1 x (List.mem_of_getElem? ex)
  refine ⟨_, rfl, _, rfl, a, _, _, _, rfl, rfl, .of ha1, atI_nat evj, ?_⟩
  refine ⟨c, _, rfl, .of hc, rfl, _, _, rfl, _, _, rfl, _, _, rfl, _, _, rfl, rfl, ?_⟩
  have L1 := pool_ls t1.pool
  have TD := tup_del t1.pool
  have rB : RdD (del [p] G1) (.ref a) (brsD bs ws) := (hB1.tups TD).rd (TD _ _ ha1)
  have hpl : RdD (del [p] G1) (.ref cp) (rD b.pl) := rat_rd (TD _ _ hcp)
  have hsp : RdD (del [p] G1) (.ref cq) (rD b.sp) := rat_rd (TD _ _ hcq)
  have hwd : RdD (del [p] G1) (.ref cr) (rD x) := rat_rd (TD _ _ hcr)
  have hwt : RdD (del [p] G1) (.int b.wt) (.int b.wt) := .int _
  have hpl' := hpl
  have hwd' := hwd
  -- what is no broad ball
  dsimp only
  refine st_set ?_
  apply dt_use (at_del L1)
  case h => exact (by apply dt_lst; apply da_cons; apply dt_tup; apply da_cons; exact dt_var rfl hpl; apply da_cons; exact dt_var rfl hsp; apply da_cons; exact dt_var rfl hwt; apply da_cons; apply dt_tup; apply da_cons; apply dt_neg; exact dt_int; apply da_cons; exact dt_int; exact da_nil; exact szl (show (2 : Nat) ≤ 1000 by decide); exact da_nil; exact szl (show (4 : Nat) ≤ 1000 by decide); apply da_cons; apply dt_tup; apply da_cons; exact dt_var rfl hpl; apply da_cons; exact dt_var rfl hsp; apply da_cons; exact dt_var rfl hwt; apply da_cons; exact dt_int; exact da_nil; exact szl (show (4 : Nat) ≤ 1000 by decide); apply da_cons; apply dt_tup; apply da_cons; exact dt_var rfl hpl; apply da_cons; exact dt_var rfl hsp; apply da_cons; exact dt_var rfl hwt; exact da_nil; exact szl (show (3 : Nat) ≤ 1000 by decide); exact da_nil; exact szl (show (3 : Nat) ≤ 1000 by decide))
  case k =>
  intro s1 H1 e1 r1
  refine st_set ?_
  have A1 : At [p] (del [p] H1) H1 := at_del (L1.same e1)
  have q1 := same_del (N := [p]) e1
  apply dt_use A1
  case h => exact (by apply dt_cat; exact dt_var rfl r1; apply dt_lst; apply da_cons; apply dt_lst; apply da_cons; exact dt_var rfl (hpl.same q1); apply da_cons; exact dt_var rfl (hsp.same q1); apply da_cons; exact dt_var rfl (hwt.same q1); apply da_cons; exact dt_var rfl (hwd.same q1); exact da_nil; exact szl (show (4 : Nat) ≤ 1000 by decide); apply da_cons; apply dt_tup; apply da_cons; exact dt_var rfl (hpl.same q1); apply da_cons; exact dt_var rfl (hsp.same q1); apply da_cons; exact dt_var rfl (hwt.same q1); apply da_cons; apply dt_tup; apply da_cons; exact dt_int; apply da_cons; exact dt_int; exact da_nil; exact szl (show (2 : Nat) ≤ 1000 by decide); exact da_nil; exact szl (show (4 : Nat) ≤ 1000 by decide); apply da_cons; exact dt_non; exact da_nil; exact szl (show (3 : Nat) ≤ 1000 by decide); (first | (refine szl ?_; simp only [List.length_append, List.length_cons, List.length_nil, List.length_map, cutG_to, cutG_from, cutG_to1, cutG_from1, List.length_take, List.length_drop]; omega) | exact szl (show (3 : Nat) ≤ 1000 by decide)))
  case k =>
  intro s2 H2 e2 r2
  have q2 := same_del (N := [p]) e2
  refine st_set ?_
  apply dt_use (at_del ((L1.same e1).same e2))
  case h => exact (by apply dt_cat; exact dt_var rfl r2; apply dt_lst; apply da_cons; apply dt_tup; apply da_cons; exact dt_var rfl (hpl.same (q1.trans q2)); apply da_cons; exact dt_var rfl (hsp.same (q1.trans q2)); apply da_cons; exact dt_var rfl (hwt.same (q1.trans q2)); apply da_cons; exact dt_non; exact da_nil; exact szl (show (4 : Nat) ≤ 1000 by decide); apply da_cons; apply dt_tup; apply da_cons; exact dt_var rfl (hpl.same (q1.trans q2)); apply da_cons; exact dt_var rfl (hsp.same (q1.trans q2)); apply da_cons; exact dt_int; apply da_cons; exact dt_var rfl (hwd.same (q1.trans q2)); exact da_nil; exact szl (show (4 : Nat) ≤ 1000 by decide); exact da_nil; exact szl (show (2 : Nat) ≤ 1000 by decide); (first | (refine szl ?_; simp only [List.length_append, List.length_cons, List.length_nil, List.length_map, cutG_to, cutG_from, cutG_to1, cutG_from1, List.length_take, List.length_drop]; omega) | exact szl (show (3 : Nat) ≤ 1000 by decide)))
  case k =>
  intro s3 H3 e3 r3
  have q3 := same_del (N := [p]) e3
  refine st_set ?_
  apply dt_use (at_del (((L1.same e1).same e2).same e3))
  case h => exact (by apply dt_cat; exact dt_var rfl r3; apply dt_lst; apply da_cons; apply dt_tup; apply da_cons; exact dt_var rfl (hpl.same (q1.trans (q2.trans q3))); apply da_cons; exact dt_var rfl (hsp.same (q1.trans (q2.trans q3))); apply da_cons; exact dt_int; apply da_cons; exact dt_var rfl (hwd.same (q1.trans (q2.trans q3))); exact da_nil; exact szl (show (4 : Nat) ≤ 1000 by decide); apply da_cons; apply dt_tup; apply da_cons; apply dt_tup; apply da_cons; exact dt_int; apply da_cons; exact dt_int; exact da_nil; exact szl (show (2 : Nat) ≤ 1000 by decide); apply da_cons; exact dt_var rfl (hsp.same (q1.trans (q2.trans q3))); apply da_cons; exact dt_var rfl (hwt.same (q1.trans (q2.trans q3))); apply da_cons; exact dt_var rfl (hwd.same (q1.trans (q2.trans q3))); exact da_nil; exact szl (show (4 : Nat) ≤ 1000 by decide); apply da_cons; apply dt_tup; apply da_cons; exact dt_var rfl (hpl.same (q1.trans (q2.trans q3))); apply da_cons; exact dt_var rfl (hsp.same (q1.trans (q2.trans q3))); apply da_cons; exact dt_var rfl (hwt.same (q1.trans (q2.trans q3))); apply da_cons; exact dt_var rfl (hwd.same (q1.trans (q2.trans q3))); apply da_cons; exact dt_var rfl (hwd.same (q1.trans (q2.trans q3))); exact da_nil; exact szl (show (5 : Nat) ≤ 1000 by decide); exact da_nil; exact szl (show (3 : Nat) ≤ 1000 by decide); (first | (refine szl ?_; simp only [List.length_append, List.length_cons, List.length_nil, List.length_map, cutG_to, cutG_from, cutG_to1, cutG_from1, List.length_take, List.length_drop]; omega) | exact szl (show (3 : Nat) ≤ 1000 by decide)))
  case k =>
  intro s4 H4 e4 r4
  have q4 := same_del (N := [p]) e4
  have qa := q1.trans (q2.trans (q3.trans q4))
  have r4 : RdD (del [p] H4) s4 (.list (oddD b x)) := r4
  have S14 := e1.trans (e2.trans (e3.trans e4))
  have T4 := t1.same S14
  have P4 := T4.pool
  clear r1 r2 r3 A1
  refine ⟨_, rfl, p, _, rfl, by decide, by decide, P4, fun wy G5 w0 w1 t5 => ?_⟩
  dsimp only [gName]
  have q5 := step_del t5
  have r5 := r4.same q5
  have rB5 := (rB.same qa).same q5
  have L5 := pool_ls t5.pool
  have T5 := T4.trans t5
  have hdl : (List.zipWith brD bs ws).length = bs.length := by rw [List.length_zipWith]; omega
  have hzz : ∀ d ∈ List.zipWith brD bs ws, BbZ d := fun d m => (zw_all hZ.2.1 hZ.2.2.1 d m).2
  refine ⟨_, rfl, _, _, rfl, rfl, _, rfl, ?_⟩
  refine ite2 (fun h => ?_) (fun h => ?_)
  · have hw : wy < 11 := of_decide_eq_true h
    obtain ⟨n, rfl⟩ : ∃ n : Nat, wy = (n : Int) := ⟨wy.toNat, by omega⟩
    obtain ⟨e, ee⟩ : ∃ e, (oddD b x)[n]? = some e := ⟨_, List.getElem?_eq_getElem (by show n < 11; omega)⟩
    have he := odd_bad (b := b) zx.1 e (List.mem_of_getElem? ee)
    have hat : atI (oddD b x) ((n : Nat) : Int) = some e := atI_nat ee
    unfold tRet
    apply dt_use (at_del L5)
    case h => exact (by apply dt_catT; apply dt_catT; apply dt_sl; exact dt_var rfl rB5; exact dp_none; apply dp_some; exact dt_var rfl (.int ((j : Nat) : Int)); apply dt_tup; apply da_cons; apply dt_ixL; exact dt_var rfl r5; exact dt_var rfl (.int ((n : Nat) : Int)); exact hat; exact da_nil; exact szl (show (1 : Nat) ≤ 1000 by decide); (first | (refine szl ?_; simp only [List.length_append, List.length_cons, List.length_nil, List.length_map, cutG_to, cutG_from, cutG_to1, cutG_from1, List.length_take, List.length_drop]; omega) | exact szl (show (3 : Nat) ≤ 1000 by decide)); apply dt_sl; exact dt_var rfl rB5; apply dp_some; apply dt_add; exact dt_var rfl (.int ((j : Nat) : Int)); exact dt_int; exact dp_none; (first | (refine szl ?_; simp only [List.length_append, List.length_cons, List.length_nil, List.length_map, cutG_to, cutG_from, cutG_to1, cutG_from1, List.length_take, List.length_drop]; omega) | exact szl (show (3 : Nat) ≤ 1000 by decide)))
    case k =>
    intro v H6 e6 r6
    rw [cutG_to, cutG_from1] at r6
    exact k v _ H6 (T5.same e6) (r6.same del_sub) fun l1 l2 _ => ver_put (by omega) (by omega) hzz he.1 he.2
  · have hw : ¬ wy < 11 := fun z => h (decide_eq_true z)
    obtain ⟨b0, e0⟩ : ∃ x, bs[0]? = some x := ⟨_, List.getElem?_eq_getElem (by omega)⟩
    obtain ⟨x0, f0⟩ : ∃ x, ws[0]? = some x := ⟨_, List.getElem?_eq_getElem (by omega)⟩
    have hc1 : PyData.tuple (cutG (List.zipWith brD bs ws) none (some 1)) = .tuple [brD b0 x0] := by
      have := cutG_to (List.zipWith brD bs ws) 1
      rw [show ((1 : Nat) : Int) = 1 from rfl] at this
      rw [this]
      match bs, ws, e0, f0 with
      | b0 :: bs, x0 :: ws, e0, f0 => cases e0; cases f0; rfl
    obtain ⟨e, ee, he⟩ : ∃ e, atI [PyData.list (List.zipWith brD bs ws), .tuple [], .none, .tuple ((List.zipWith brD bs ws ++ List.zipWith brD bs ws) ++ List.replicate (9 : Int).toNat (brD b0 x0))] (wy - 11) = some e ∧ ∀ l1 l2, sizeW l2 → VerB l1 l2 e false := by
      have : wy = 11 ∨ wy = 12 ∨ wy = 13 ∨ wy = 14 := by omega
      rcases this with rfl | rfl | rfl | rfl
      · exact ⟨_, rfl, fun _ _ _ => .kind rfl⟩
      · exact ⟨_, rfl, fun _ _ z => ver_big (bs := []) (ws := []) rfl (by decide) (.inl rfl) (fun _ m => by cases m) (fun _ m => by cases m) (fun _ m => by cases m) z⟩
      · exact ⟨_, rfl, fun _ _ _ => .kind rfl⟩
      · refine ⟨_, rfl, fun l1 l2 z => ?_⟩
        have e1 : PyData.tuple ((List.zipWith brD bs ws ++ List.zipWith brD bs ws) ++ List.replicate (9 : Int).toNat (brD b0 x0)) = brsD (bs ++ bs ++ List.replicate 9 b0) (ws ++ ws ++ List.replicate 9 x0) := by
          unfold brsD
          rw [List.zipWith_append (by simp [hZ.1]), List.zipWith_append hZ.1.symm, zw_rep]
          rfl
        rw [e1]
        have mb : ∀ c ∈ bs ++ bs ++ List.replicate 9 b0, c ∈ bs := fun c m => by
          rcases List.mem_append.mp m with m | m
          · rcases List.mem_append.mp m with m | m <;> exact m
          · rw [(List.mem_replicate.mp m).2]; exact List.mem_of_getElem? e0
        have mw : ∀ c ∈ ws ++ ws ++ List.replicate 9 x0, c ∈ ws := fun c m => by
          rcases List.mem_append.mp m with m | m
          · rcases List.mem_append.mp m with m | m <;> exact m
          · rw [(List.mem_replicate.mp m).2]; exact List.mem_of_getElem? f0
        exact ver_big (by simp [hZ.1]) (by simp; omega) (.inr (by simp; omega)) (fun c m => hZ.2.1 c (mb c m)) (fun c m => hZ.2.2.1 c (mw c m)) (fun c m => (hZ.2.2.2 c (mb c m)).1.mono (by decide)) z
    refine st_next ?_
    dsimp only
    try unfold tRet
    apply dt_use (at_del L5)
    case h => exact (by apply dt_ixL; apply dt_lst; apply da_cons; apply dt_listOf; apply da_cons; exact dt_var rfl rB5; exact da_nil; apply da_cons; apply dt_tup; exact da_nil; exact szl (show (0 : Nat) ≤ 1000 by decide); apply da_cons; exact dt_non; apply da_cons; apply dt_catT; apply dt_catT; exact dt_var rfl rB5; exact dt_var rfl rB5; (refine szl ?_; simp only [List.length_append, hdl, List.length_replicate]; omega); apply dt_repN; exact dt_eq (dt_sl (dt_var rfl rB5) dp_none (dp_some dt_int)) hc1; exact dt_int; decide; decide; (refine szl ?_; simp only [List.length_append, hdl, List.length_replicate]; omega); exact da_nil; exact szl (show (4 : Nat) ≤ 1000 by decide); apply dt_sub; exact dt_var rfl (.int wy); exact dt_int; exact ee)
    case k =>
    intro v H6 e6 r6
    exact k v e H6 (T5.same e6) (r6.same del_sub) he
end
end KK
end
section
set_option maxHeartbeats 8000000
set_option Elab.async false
set_option linter.all false
set_option maxRecDepth 100000
namespace L2
open PySem PySem.Spec PyProof.Rows
section
variable {D : Addr} {n : Nat} {js : List Nat} {σ : St} {g : TG} {te : TE} {Z : Hp → Prop} {H : Hp} {N : Nat}
theorem compC_range (R : Nat → V → Hp → Prop) (hR : ∀ i v H H', TupS H H' → R i v H → R i v H') (hD : H D = none) (hl : N < sizeLine)
    (hs : ∀ (i : Nat) (zs : St) (H2 : Hp) (Q' : VK), i < N → zs.length = n → Same H H2 → (∀ v H6, Same H2 H6 → R i v H6 → Q' v H6) → g (.int (0 + (i : Int))) (zs ++ caps σ js) H2 fun σ4 H4 => σ4.drop n = caps σ js ∧ te σ4 H4 Q')
    (k : ∀ ys H', Same H H' → H' D = some (.lst ys) → ys.length = N → (∀ i v, ys[i]? = some v → R i v H') → Z H') :
    ∃ W : Nat → Nat → Hp → List V → Prop, (∃ m, W 0 m (upd H D (.lst [])) []) ∧ ∀ i m H2 ys, W i m H2 ys → H2 D = some (.lst ys) → ((Itr 0 N).stop i H2 ∧ Z H2) ∨
      ((Itr 0 N).go i H2 ∧ ∀ zs x H3, zs.length = n → (Itr 0 N).yld i H2 x H3 → g x (zs ++ caps σ js) H3 fun σ4 H4 => σ4.drop n = caps σ js ∧ (fun _ H Q => Q true H : TT) σ4 H4 fun b H5 => if b = true then te σ4 H5 (fun v H6 => H6 D = some (.lst ys) ∧ ys.length < sizeLine ∧ ∃ m', m' < m ∧ W (i + 1) m' (upd H6 D (.lst (ys ++ [v]))) (ys ++ [v]))
        else H5 D = some (.lst ys) ∧ ∃ m', m' < m ∧ W (i + 1) m' H5 ys) := by
  refine compC_by (J := Itr 0 N) (Q := fun _ H => Z H) (tt := fun _ H Q => Q true H) (N := N) (fun i H2 ys => Same H H2 ∧ ys.length = i ∧ ∀ j v, ys[j]? = some v → R j v H2) ⟨Same.upd hD, rfl, fun j v e => by simp at e⟩ (fun i H2 ys hi p => hi) (fun H2 ys p => Nat.le_refl _) ?_ (fun H2 ys p e => k ys H2 p.1 e p.2.1 p.2.2)
  rintro i x zs H2 H3 ys Nx hN hi hz ⟨rfl, rfl⟩ ⟨s2, hyl, hyR⟩ hD2
  refine hs i zs H3 _ hi hz s2 fun v H6 s6 r6 => ⟨s6 _ _ hD2, by omega, hN _ _ ⟨fun c o e => ?_, by simp [hyl], fun j u e => ?_⟩⟩
  · rw [upd_ne (ne_of_none e hD)]; exact s6 _ _ (s2 _ _ e)
  · have T6 : TupS H6 (upd H6 D (.lst (ys ++ [v]))) := .upd (s6 _ _ hD2)
    by_cases hj : j < ys.length
    · rw [List.getElem?_append_left hj] at e
      exact hR _ _ _ _ ((TupS.of s6).trans T6) (hyR j u e)
    · rw [List.getElem?_append_right (by omega)] at e
      have : j - ys.length = 0 := by
        rcases Nat.eq_zero_or_pos (j - ys.length) with z | z
        · exact z
        · rw [List.getElem?_eq_none (by simp; omega)] at e; cases e
      rw [this] at e
      simp at e
      subst e
      rw [show j = i by omega]
      exact hR _ _ _ _ T6 r6
end
end L2
namespace KK
open PySem L2 KM
theorem cl_nil {cells : List (Str × Addr)} : ∀ x c, List.lookup x ([] : List (Str × Addr)) = some c → cells.lookup x = some c := fun x c e => by cases e
theorem cl_cons {a : Str} {m : Addr} {cl cells : List (Str × Addr)} (h : cells.lookup a = some m) (t : ∀ x c, cl.lookup x = some c → cells.lookup x = some c) : ∀ x c, ((a, m) :: cl).lookup x = some c → cells.lookup x = some c := fun x c e => by
  simp only [List.lookup] at e
  cases h1 : (x == a) with
  | true => rw [h1] at e; cases e; rw [eq_of_beq h1]; exact h
  | false => rw [h1] at e; exact t x c e

def oneR : Rat := ((1 : Int) : Rat)
def nnB (b : Ball) (x : Rat) (i : Nat) : Ball := ⟨b.pl + ((i : Int) : Rat) * (x + oneR), 0, b.wt⟩
def nineB (b : Ball) (x : Rat) (n : Nat) : List Ball := (List.range n).map (nnB b x)
theorem nine_get {b : Ball} {x : Rat} {n i : Nat} {c : Ball} (h : (nineB b x n)[i]? = some c) : c = nnB b x i := by
  unfold nineB at h
  rw [List.getElem?_map] at h
  cases e : (List.range n)[i]? with
  | none => rw [e] at h; cases h
  | some k =>
    rw [e] at h; cases h
    have := List.getElem?_eq_some_iff.mp e
    obtain ⟨hi, he⟩ := this
    rw [List.getElem_range] at he
    rw [he]
theorem sz_one : Sz 1 oneR := ⟨show (1 : Int).natAbs < 2 ^ 1 by decide, show (1 : Int).natAbs < 2 ^ 1 by decide⟩
theorem sz_nat {i : Nat} (h : i < 16) : Sz 4 ((i : Int) : Rat) := Sz.int (bdn (by omega) (by omega)) (by decide)
section
variable {P : Program} {w : World} {K : PySem.W.Frag} {mg : Str → Option Value} {base : Heap} {aN : Addr} {tb tw : Tok}
def spNi : Sp := fun vs H Q _ => ∃ a us bs ws b x, vs = [.ref a] ∧ H a = some (.tup us) ∧ BrsAt H us bs ws ∧ bs[0]? = some b ∧ ws[0]? = some x ∧ Sz 27 x ∧ Sz 540 b.pl ∧ ∀ r us' H', Same H H' → H' r = some (.tup us') → BrsAt H' us' (nineB b x 9) (List.replicate 9 x) → Q (.ref r) H'
theorem sc_ni : FnScope ["broad", "place", "speed", "weight", "width", "step"] ["broad"] (defScope s_law_nine) := ⟨rfl, rfl, rfl, by decide +kernel, rfl, by decide +kernel, by decide +kernel⟩
theorem ok_ni (D : Df K mg "_law_nine" s_law_nine ["broad"] []) (T : TxB K mg) (cA : Cal P w K mg base "_law_add" 2 ["a", "b"] [] (spBin Sz2 (· + ·))) (cBy : Cal P w K mg base "_law_by" 2 ["a", "b"] [] (spBin Sz2 (· * ·))) : Cal P w K mg base "_law_nine" 3 ["broad"] [] spNi := by
  refine D.calB (k := 2) sc_ni (fun vs H Q E h => by obtain ⟨_, _, _, _, _, _, rfl, _⟩ := h; rfl) (fun f cdv A outer s H vs Q E hr h => ?_)
  obtain ⟨a, us, bs, ws, b, x, rfl, ha, hB, eb, ex, zx, zp, k⟩ := h
  have hul := hB.l1
  have hbl : 0 < bs.length := (List.getElem?_eq_some_iff.mp eb).1
  obtain ⟨v0, ev0⟩ : ∃ x, us[0]? = some x := ⟨_, List.getElem?_eq_getElem (by omega)⟩
  obtain ⟨c, cp, cq, cr, rfl, hc, hcp, hcq, hcr⟩ := hB.at' 0 v0 b x ev0 eb ex
  refine ⟨_, (bx_scons (Bx.mk (ps_asg (pe_ix ix_tup (pv 0) pe_int (fun _ _ => rfl)) (pg_tup rfl (pgs_cons (pg_name (i := 1) sc_ni.nd rfl (Or.inr rfl)) (pgs_cons (pg_name (i := 2) sc_ni.nd rfl (Or.inl rfl)) (pgs_cons (pg_name (i := 3) sc_ni.nd rfl (Or.inr rfl)) (pgs_cons (pg_name (i := 4) sc_ni.nd rfl (Or.inr rfl)) pgs_nil)))))))
    (bx_scons (Bx.mk (ps_set (i := 5) sc_ni.nd rfl (Or.inr rfl) (pe_c cA hr (pa_cons (pv 4) (pa_cons (pe_tup (pa_cons pe_int (pa_cons pe_int pa_nil))) pa_nil)))))
    (Bx.mk (pss_one (ps_ret (pe_callTy call_tuple_of (by rfl) T.nTuple PyProof.Rows.boot_tuple (pa_cons (pe_compC (NB := ["k"]) (FR := ["place", "step", "weight", "width"]) (js := [1, 5, 3, 4]) rfl rfl (cl_cons rfl (cl_cons rfl (cl_cons rfl (cl_cons rfl cl_nil)))) (.cons rfl rfl rfl ⟨_, rfl⟩ (.cons rfl rfl rfl ⟨_, rfl⟩ (.cons rfl rfl rfl ⟨_, rfl⟩ (.cons rfl rfl rfl ⟨_, rfl⟩ .nil)))) rfl (by decide +kernel) rfl (by decide +kernel) (pi_range1 rfl T.nRange (pa_cons pe_int pa_nil)) (by intro _ _ _; refine ⟨?_, ?_, ?_⟩; (exact (pg_name (i := 0) (show List.Nodup (["k", "place", "step", "weight", "width"] : List Str) by decide +kernel) rfl (Or.inl rfl))); (exact pts_nil); (exact (pe_tup (pa_cons (pe_c cA hr (pa_cons (pv 1) (pa_cons (pe_c cBy hr (pa_cons (pe_tup (pa_cons (pv 0) (pa_cons pe_int pa_nil))) (pa_cons (pv 2) pa_nil))) pa_nil))) (pa_cons (pe_tup (pa_cons pe_int (pa_cons pe_int pa_nil))) (pa_cons (pv 3) (pa_cons (pv 4) pa_nil)))))))) pa_nil))))))), ?_⟩
  have e0 : atI us 0 = some (.ref c) := atI_nat (j := 0) ev0
  refine ⟨_, rfl, a, _, _, _, rfl, rfl, .of ha, e0, ?_⟩
  refine ⟨c, _, rfl, .of hc, rfl, _, _, rfl, _, _, rfl, _, _, rfl, _, _, rfl, rfl, ?_⟩
  dsimp only
  refine ⟨_, rfl, by show 2 ≤ sizeLine; decide, fun t1 ht1 => ?_⟩
  have S1 : Same H (upd H t1 (.tup [.int 1, .int 1])) := Same.upd ht1
  have h1 : RatAt (upd H t1 (.tup [.int 1, .int 1])) t1 oneR := KR.rat_int upd_same
  generalize upd H t1 (.tup [.int 1, .int 1]) = G1 at S1 h1
  refine ⟨cr, t1, _, _, rfl, S1 _ _ hcr, h1, ⟨zx.mono (by decide), sz_one.mono (by decide)⟩, fun rs G2 e2 h2 => ?_⟩
  have S2 := S1.trans e2
  have zs : Sz 29 (x + oneR) := (zx.add sz_one).mono (by decide)
  dsimp only [gName]
  refine ⟨9, rfl, by decide, by decide, fun Dc hDc => ?_⟩
  refine compC_range (js := [1, 5, 3, 4]) (n := 1) (g := gName 0) (te := _) (fun i v G => BrAt G v (nnB b x i) x) (fun i v G G' e h => h.tups e) hDc (by decide) ?_ ?_
  · intro i zs' G Q' hi hz S hQ
    obtain ⟨y1, rfl⟩ := len1 hz
    have hi' : i < 9 := hi
    refine ⟨rfl, ?_⟩
    refine ⟨_, rfl, _, rfl, by show 2 ≤ sizeLine; decide, fun t2 ht2 => ?_⟩
    have S3 : Same G (upd G t2 (.tup [.int (0 + (i : Int)), .int 1])) := Same.upd ht2
    have h3 : RatAt (upd G t2 (.tup [.int (0 + (i : Int)), .int 1])) t2 ((i : Int) : Rat) := by
      have := KR.rat_int (H := upd G t2 (.tup [.int (0 + (i : Int)), .int 1])) upd_same
      rw [Int.zero_add] at this ⊢; exact this
    generalize upd G t2 (.tup [.int (0 + (i : Int)), .int 1]) = G3 at S3 h3
    have SA := S.trans S3
    refine ⟨_, rfl, t2, rs, _, _, rfl, h3, SA _ _ h2, ⟨(sz_nat (by omega)).mono (by decide), zs.mono (by decide)⟩, fun r1 G4 e4 h4 => ?_⟩
    have SB := (S2.trans SA).trans e4
    refine ⟨cp, r1, _, _, rfl, SB _ _ hcp, h4, ⟨zp.mono (by decide), ((sz_nat (i := i) (by omega)).mul zs).mono (by decide)⟩, fun r2 G5 e5 h5 => ?_⟩
    refine ⟨by show 2 ≤ sizeLine; decide, fun t3 ht3 => ?_⟩
    have S5 : Same G5 (upd G5 t3 (.tup [.int 0, .int 1])) := Same.upd ht3
    have h6 : RatAt (upd G5 t3 (.tup [.int 0, .int 1])) t3 0 := upd_same
    generalize upd G5 t3 (.tup [.int 0, .int 1]) = G6 at S5 h6
    refine ⟨_, rfl, _, rfl, by show 4 ≤ sizeLine; decide, fun t4 ht4 => ?_⟩
    have S7 : Same G6 (upd G6 t4 (.tup [.ref r2, .ref t3, .int b.wt, .ref cr])) := Same.upd ht4
    have SC := e5.trans (S5.trans S7)
    refine hQ _ _ (S3.trans (e4.trans SC)) ⟨t4, r2, t3, cr, rfl, upd_same, (S5.trans S7) _ _ h5, S7 _ _ h6, (SB.trans SC) _ _ hcr⟩
  · intro ys G S hD hyl hR
    refine ⟨Dc, ys, rfl, .inl ⟨.of hD, fun r hr' => k r ys _ (S2.trans (S.trans (Same.upd hr'))) upd_same ⟨?_, ?_, fun i v c y f1 f2 f3 => ?_⟩⟩⟩
    · rw [hyl]; rfl
    · rfl
    · rw [nine_get f2]
      obtain rfl : y = x := (List.mem_replicate.mp (List.mem_of_getElem? f3)).2
      exact (hR i v f1).tups (.of (Same.upd hr'))
theorem menu3p {d : Int} (h0 : 0 ≤ d) (h1 : d < 3) : ∃ v : Int, atI [V.int 1, .int 2, .int 6] d = some (.int v) ∧ 1 ≤ v ∧ v ≤ 6 := by
  have : d = 0 ∨ d = 1 ∨ d = 2 := by omega
  rcases this with rfl | rfl | rfl
  all_goals exact ⟨_, rfl, by decide, by decide⟩
theorem zw_set {bs : List Ball} {ws : List Rat} {j : Nat} {b' : Ball} {x : Rat} (ex : ws[j]? = some x) (hj : j < bs.length) (e : ws.length = bs.length) : PyData.tuple ((List.zipWith brD bs ws).take j ++ [brD b' x] ++ (List.zipWith brD bs ws).drop (j + 1)) = brsD (bs.set j b') ws := by
  unfold brsD
  congr 1
  have h1 : (List.zipWith brD bs ws).length = bs.length := by rw [List.length_zipWith]; omega
  have h2 : List.zipWith brD (bs.set j b') ws = (List.zipWith brD bs ws).set j (brD b' x) := by
    apply List.ext_getElem?
    intro i
    rw [List.getElem?_zipWith, List.getElem?_set, List.getElem?_set]
    by_cases hi : j = i
    · subst hi
      rw [if_pos rfl, if_pos rfl, if_pos (by omega), if_pos (by omega), ex]
    · rw [if_neg hi, if_neg hi, List.getElem?_zipWith]
  rw [h2, List.set_eq_take_append_cons_drop, if_pos (by omega)]
  simp
def spPu : Sp := fun vs H Q _ => ∃ p a us bs ws wl v1 v2 l1 l2, vs = [.ref p, .ref a, .ref wl] ∧ Pool H p ∧ H a = some (.tup us) ∧ BrsAt H us bs ws ∧ BrZ bs ws ∧ 1 ≤ bs.length ∧ bs.length ≤ 8 ∧ H wl = some (.tup [v1, v2]) ∧ WallAt H v1 l1 ∧ WallAt H v2 l2 ∧ (∀ x y, l2 = some (x, y) → Sz 580 x ∧ Sz 80 y) ∧
  ∀ v bs' l2' H', Step p H H' → RdD H' v (.tuple [brsD bs' ws, KR.wsD l1 l2']) → bs'.length = bs.length → (∀ b ∈ bs', 1 ≤ b.wt ∧ b.wt ≤ 1000) → (∀ b ∈ bs', Sz 600 b.pl ∧ Sz 80 b.sp) → sizeW l2' → Q v H'
theorem sc_pu : FnScope ["pool", "broad", "walls", "by", "at", "ball"] ["pool", "broad", "walls"] (defScope s_law_pushed) := ⟨rfl, rfl, rfl, by decide +kernel, rfl, by decide +kernel, by decide +kernel⟩
theorem ok_pu (D : Df K mg "_law_pushed" s_law_pushed ["pool", "broad", "walls"] []) (T : TxB K mg) (cN : Cal P w K mg base "_law_next" 1 ["pool", "base"] [] spNext) (cL : Cal P w K mg base "_law_low" 1 ["top", "bottom"] [] spLow) (cA : Cal P w K mg base "_law_add" 2 ["a", "b"] [] (spBin Sz2 (· + ·))) : Cal P w K mg base "_law_pushed" 3 ["pool", "broad", "walls"] [] spPu := by
  refine D.calB (k := 2) sc_pu (fun vs H Q E h => by obtain ⟨_, _, _, _, _, _, _, _, _, _, rfl, _⟩ := h; rfl) (fun f cdv A outer s H vs Q E hr h => ?_)
  obtain ⟨p, a, us, bs, ws, wl, v1, v2, l1, l2, rfl, hP, ha, hB, hZ, h1, h8, hwl, hv1, hv2, z2, k⟩ := h
  have hr1 : Room 1 _ := hr.mono (by decide)
  have hul := hB.l1
  have hwl' := hB.l2
  refine ⟨_, (bx_scons (Bx.mk (ps_set (i := 3) sc_pu.nd rfl (Or.inl rfl) (pe_c cL hr1 (pa_cons (pe_op op_sub (pe_c cN hr1 (pa_cons (pv 0) (pa_cons pe_int pa_nil))) pe_int) (pa_cons (pe_ix ix_list (pe_lst (pa_cons pe_int (pa_cons pe_int (pa_cons pe_int pa_nil)))) (pe_c cN hr1 (pa_cons (pv 0) (pa_cons pe_int pa_nil))) (fun _ _ => rfl)) pa_nil)))))
    (bx_scons (Bx.mk (ps_set (i := 4) sc_pu.nd rfl (Or.inl rfl) (pe_c cN hr1 (pa_cons (pv 0) (pa_cons (pe_callB call_len_seq (by rfl) T.nLen PySem.boot_len (pa_cons (pv 1) pa_nil)) pa_nil)))))
    (bx_scons (Bx.mk (ps_if (pw_and (pt_cmpR op_notN (pe_ix ix_tup (pv 2) pe_int (fun _ _ => rfl)) pe_non (nomark _)) (pw_and1 (pt_cmpR op_eq (pe_c cN hr1 (pa_cons (pv 0) (pa_cons pe_int pa_nil))) pe_int (nomark _)))).pt (pss_one (ps_ret (pe_tup (pa_cons (pv 1) (pa_cons (pe_tup (pa_cons (pe_ix ix_tup (pv 2) pe_int (fun _ _ => rfl)) (pa_cons (pe_tup (pa_cons (pe_c cA hr (pa_cons (pe_ix ix_tup (pe_ix ix_tup (pv 2) pe_int (fun _ _ => rfl)) pe_int (fun _ _ => rfl)) (pa_cons (pv 3) pa_nil))) (pa_cons (pe_ix ix_tup (pe_ix ix_tup (pv 2) pe_int (fun _ _ => rfl)) pe_int (fun _ _ => rfl)) pa_nil))) pa_nil))) pa_nil))))) pss_nil))
    (bx_scons (Bx.mk (ps_set (i := 5) sc_pu.nd rfl (Or.inl rfl) (pe_ix ix_tup (pv 1) (pv 4) (fun _ _ => rfl))))
    (Bx.mk (pss_one (ps_ret (pe_tup (pa_cons (pe_op op_catA (pe_op op_catA (pe_slice (sl_tup.or sl_whole) (pv 1) po_none (po_some (pv 4))) (pe_tup (pa_cons (pe_op op_catA (pe_tup (pa_cons (pe_c cA hr (pa_cons (pe_ix ix_tup (pv 5) pe_int (fun _ _ => rfl)) (pa_cons (pv 3) pa_nil))) pa_nil)) (pe_slice (sl_tup.or sl_whole) (pv 5) (po_some pe_int) po_none)) pa_nil))) (pe_slice (sl_tup.or sl_whole) (pv 1) (po_some (pe_op op_add (pv 4) pe_int)) po_none)) (pa_cons (pv 2) pa_nil)))))))))), ?_⟩
  refine st_mid (fun σ' G => ∃ ry y, σ' = [some (.ref p), some (.ref a), some (.ref wl), some (.ref ry), none, none] ∧ Step p H G ∧ RatAt G ry y ∧ Sz 5 y) ?_ ?_
  rotate_left
  · intro nx hnx
    refine ⟨_, rfl, p, _, rfl, by decide, by decide, hP, fun d1 G1 a1 b1 t1 => ⟨_, _, rfl, rfl, by show 3 ≤ sizeLine; decide, fun l0 hl0 => ?_⟩⟩
    refine ⟨_, rfl, p, _, rfl, by decide, by decide, t1.pool.new hl0, fun d2 G2 a2 b2 t2 => ?_⟩
    obtain ⟨v, ev, v0, v6⟩ := menu3p a2 b2
    refine ⟨l0, _, _, _, rfl, rfl, .of (t2.keep l0 _ upd_same (t1.pool.ne hl0)), ev, ?_⟩
    exact ⟨_, _, rfl, by omega, Bd.mono (m := 5) (bdn (by omega) (by omega)) (by decide), fun r H' e h => hnx _ _ ⟨r, _, rfl, (t1.trans (t2.pre (Same.upd hl0))).same e, h, sz_q (by omega) (by omega) (by omega) (by omega)⟩⟩
  rintro σ' G1 ⟨ry, y, rfl, T1, hry, zy⟩
  refine ⟨_, rfl, _, rfl, a, _, rfl, .inr (.of (step_tups hP T1 _ _ ha)), p, _, rfl, by omega, by omega, T1.pool, fun d G2 d0 d1 t2 => ?_⟩
  obtain ⟨j, rfl⟩ : ∃ n : Nat, d = (n : Int) := ⟨d.toNat, by omega⟩
  have T2 := T1.trans t2
  have hry2 : RatAt G2 ry y := step_tups T1.pool t2 _ _ hry
  dsimp only [gName]
  have hj : j < bs.length := by omega
  refine st_mid (fun σ' G => σ' = [some (.ref p), some (.ref a), some (.ref wl), some (.ref ry), some (.int (j : Int)), none] ∧ Step p H G ∧ RatAt G ry y) ?_ ?_
  rotate_left
  · intro nx hnx
    have Tu2 := step_tups hP T2
    have hwl2 := Tu2 _ _ hwl
    cases l2 with
    | none =>
      obtain rfl : v2 = .non := hv2
      exact ⟨_, rfl, wl, _, _, _, rfl, rfl, .of hwl2, rfl, rfl, _, rfl, iteF (iteF (hnx _ _ ⟨rfl, T2, hry2⟩))⟩
    | some u =>
      obtain ⟨wx, wy⟩ := u
      have hv22 := hv2.tups Tu2
      obtain ⟨aw, pw, qw, rfl, g1, g2, g3⟩ := id hv22
      refine ⟨_, rfl, wl, _, _, _, rfl, rfl, .of hwl2, rfl, rfl, _, rfl, iteT ?_⟩
      refine ⟨_, rfl, p, _, rfl, by decide, by decide, T2.pool, fun d3 G3 a3 b3 t3 => ⟨rfl, _, rfl, ?_⟩⟩
      have T3 := T2.trans t3
      have Tu23 := step_tups T2.pool t3
      refine ite2 (fun _ => ?_) (fun _ => hnx _ _ ⟨rfl, T3, Tu23 _ _ hry2⟩)
      have Tu3 := step_tups hP T3
      have rB : RdD G3 (.ref a) (brsD bs ws) := (hB.tups Tu3).rd (Tu3 _ _ ha)
      have rW : RdD G3 (.ref wl) (.tuple [KR.wlD l1, .tuple [rD wx, rD wy]]) := .tup (Tu3 _ _ hwl) (.cons (KR.wall_rd (wallR (hv1.tups Tu3))) (.cons (.tup (Tu23 _ _ g1) (.cons (rat_rd (Tu23 _ _ g2)) (.cons (rat_rd (Tu23 _ _ g3)) .nil))) .nil))
      have rY : RdD G3 (.ref ry) (rD y) := rat_rd (Tu23 _ _ hry2)
      have zz : Sz2 wx y := ⟨(z2 wx wy rfl).1.mono (by decide), zy.mono (by decide)⟩
      unfold tRet
      apply dt_use at_0
      case h => exact (by apply dt_tup; apply da_cons; exact dt_var rfl rB; apply da_cons; apply dt_tup; apply da_cons; apply dt_ix; exact dt_var rfl rW; exact dt_int; exact rfl; apply da_cons; apply dt_tup; apply da_cons; apply dt_bin (x := wx) (y := y); apply da_cons; apply dt_ix; apply dt_ix; exact dt_var rfl rW; exact dt_int; exact rfl; exact dt_int; exact rfl; apply da_cons; exact dt_var rfl rY; exact da_nil; exact zz; apply da_cons; apply dt_ix; apply dt_ix; exact dt_var rfl rW; exact dt_int; exact rfl; exact dt_int; exact rfl; exact da_nil; exact szl (show (2 : Nat) ≤ 1000 by decide); exact da_nil; exact szl (show (2 : Nat) ≤ 1000 by decide); exact da_nil; exact szl (show (2 : Nat) ≤ 1000 by decide))
      case k =>
      intro v H4 e4 r4
      rw [del_nil] at r4
      exact k v bs (some (wx + y, wy)) H4 (T3.same e4) r4 rfl hZ.2.1 (fun b m => ⟨(hZ.2.2.2 b m).1.mono (by decide), (hZ.2.2.2 b m).2⟩) fun x' y' e => by cases e; exact ⟨((z2 wx wy rfl).1.add zy).mono (by decide), (z2 wx wy rfl).2⟩
  rintro σ' G3 ⟨rfl, T3, hry3⟩
  have Tu3 := step_tups hP T3
  have ha3 := Tu3 _ _ ha
  obtain ⟨vj, evj⟩ : ∃ x, us[j]? = some x := ⟨_, List.getElem?_eq_getElem (by omega)⟩
  obtain ⟨b, eb⟩ : ∃ x, bs[j]? = some x := ⟨_, List.getElem?_eq_getElem (by omega)⟩
  obtain ⟨x, ex⟩ : ∃ x, ws[j]? = some x := ⟨_, List.getElem?_eq_getElem (by omega)⟩
  obtain ⟨c, cp, cq, cr, rfl, hc, hcp, hcq, hcr⟩ := (hB.tups Tu3).at' j vj b x evj eb ex
  refine ⟨_, rfl, _, rfl, a, _, _, _, rfl, rfl, .of ha3, atI_nat evj, ?_⟩
  dsimp only [gName]
  have mb := List.mem_of_getElem? eb
  have rB : RdD G3 (.ref a) (brsD bs ws) := (hB.tups Tu3).rd ha3
  have rW : RdD G3 (.ref wl) (KR.wsD l1 l2) := .tup (Tu3 _ _ hwl) (.cons (KR.wall_rd (wallR (hv1.tups Tu3))) (.cons (KR.wall_rd (wallR (hv2.tups Tu3))) .nil))
  have rY : RdD G3 (.ref ry) (rD y) := rat_rd hry3
  have rb : RdD G3 (.ref c) (brD b x) := .tup hc (.cons (rat_rd hcp) (.cons (rat_rd hcq) (.cons (.int _) (.cons (rat_rd hcr) .nil))))
  have zz : Sz2 b.pl y := ⟨(hZ.2.2.2 b mb).1.mono (by decide), zy.mono (by decide)⟩
  have hdl : (List.zipWith brD bs ws).length = bs.length := by rw [List.length_zipWith]; omega
  unfold tRet
  apply dt_use at_0
  case h => exact (by apply dt_tup; apply da_cons; apply dt_catT; apply dt_catT; apply dt_sl; exact dt_var rfl rB; exact dp_none; apply dp_some; exact dt_var rfl (.int ((j : Nat) : Int)); apply dt_tup; apply da_cons; apply dt_catT; apply dt_tup; apply da_cons; apply dt_bin (x := b.pl) (y := y); apply da_cons; apply dt_ix; exact dt_var rfl rb; exact dt_int; exact rfl; apply da_cons; exact dt_var rfl rY; exact da_nil; exact zz; exact da_nil; exact szl (show (1 : Nat) ≤ 1000 by decide); apply dt_sl; exact dt_var rfl rb; apply dp_some; exact dt_int; exact dp_none; (first | (refine szl ?_; simp only [List.length_append, List.length_cons, List.length_nil, List.length_map, cutG_to, cutG_from, cutG_to1, cutG_from1, List.length_take, List.length_drop, hdl]; omega) | exact szl (show (4 : Nat) ≤ 1000 by decide)); exact da_nil; exact szl (show (1 : Nat) ≤ 1000 by decide); (first | (refine szl ?_; simp only [List.length_append, List.length_cons, List.length_nil, List.length_map, cutG_to, cutG_from, cutG_to1, cutG_from1, List.length_take, List.length_drop, hdl]; omega) | exact szl (show (4 : Nat) ≤ 1000 by decide)); apply dt_sl; exact dt_var rfl rB; apply dp_some; apply dt_add; exact dt_var rfl (.int ((j : Nat) : Int)); exact dt_int; exact dp_none; (first | (refine szl ?_; simp only [List.length_append, List.length_cons, List.length_nil, List.length_map, cutG_to, cutG_from, cutG_to1, cutG_from1, List.length_take, List.length_drop, hdl]; omega) | exact szl (show (4 : Nat) ≤ 1000 by decide)); apply da_cons; exact dt_var rfl rW; exact da_nil; exact szl (show (2 : Nat) ≤ 1000 by decide))
  case k =>
  intro v H4 e4 r4
  rw [del_nil, cutG_to, cutG_from1] at r4
  have r5 : RdD H4 v (.tuple [.tuple ((List.zipWith brD bs ws).take j ++ [brD ⟨b.pl + y, b.sp, b.wt⟩ x] ++ (List.zipWith brD bs ws).drop (j + 1)), KR.wsD l1 l2]) := r4
  rw [zw_set ex hj (by omega)] at r5
  have ms : ∀ c ∈ bs.set j ⟨b.pl + y, b.sp, b.wt⟩, c ∈ bs ∨ c = ⟨b.pl + y, b.sp, b.wt⟩ := fun c m => List.mem_or_eq_of_mem_set m
  refine k v _ l2 H4 (T3.same e4) r5 (by simp) (fun c m => ?_) (fun c m => ?_) fun x' y' e => ⟨(z2 x' y' e).1.mono (by decide), (z2 x' y' e).2⟩
  · rcases ms c m with m | rfl
    · exact hZ.2.1 c m
    · exact hZ.2.1 b mb
  · rcases ms c m with m | rfl
    · exact ⟨(hZ.2.2.2 c m).1.mono (by decide), (hZ.2.2.2 c m).2⟩
    · exact ⟨((hZ.2.2.2 b mb).1.add zy).mono (by decide), (hZ.2.2.2 b mb).2⟩
end
end KK
end
section
set_option maxHeartbeats 8000000
set_option Elab.async false
set_option linter.all false
set_option maxRecDepth 100000
namespace KK
open PySem L2 KM
theorem step_same {G0 G1 G' : Hp} {p : Addr} (s : Same G0 G1) (hp : G0 p = none) (t : Step p G1 G') : Same G0 G' := fun b o e => t.keep b o (s b o e) (ne_of_none e hp)
theorem fol_lex {b c : Ball} (h : lexR b c) : KR.folB (b, c) = true := by
  show KR.fol b.pl b.sp c.pl c.sp = true
  unfold KR.fol
  rcases h with h | ⟨h1, h2⟩
  · rw [if_neg (by grind), decide_eq_true h]
  · rw [if_pos h1, decide_eq_true h2]
theorem ord_pw : ∀ {bs : List Ball}, bs.Pairwise lexR → KR.ordB bs = true
  | [], _ => rfl
  | [_], _ => rfl
  | a :: b :: t, h => by
    have h1 := List.pairwise_cons.mp h
    have h2 := ord_pw h1.2
    show (KR.folB (a, b) && KR.ordB (b :: t)) = true
    rw [fol_lex (h1.1 b (List.mem_cons_self ..)), h2]; rfl
theorem ends {α : Type} {bs : List α} (h : 1 ≤ bs.length) : ∃ b cs c, bs[0]? = some b ∧ bs = cs ++ [c] := by
  obtain ⟨b, eb⟩ : ∃ x, bs[0]? = some x := ⟨_, List.getElem?_eq_getElem (by omega)⟩
  rcases List.eq_nil_or_concat bs with e | ⟨cs, c, e⟩
  · rw [e] at h; simp at h
  · exact ⟨b, cs, c, eb, by simpa using e⟩
theorem row_true {bs cs : List Ball} {b c : Ball} {l1 l2 : Wl} (G : Good bs) (B : Box bs l1 l2) (eb : bs[0]? = some b) (ec : bs = cs ++ [c]) : KR.rowB l1 l2 bs b c = true := by
  unfold KR.rowB
  rw [ord_pw G.pw]
  have h1 : KR.wgood l1 l2 = true := by
    cases l1 with
    | none => rfl
    | some u =>
      cases l2 with
      | none => rfl
      | some v => exact decide_eq_true (B.lt u.1 u.2 v.1 v.2 rfl rfl)
  have h2 : KR.loB l1 b = true := by
    cases l1 with
    | none => rfl
    | some u =>
      obtain ⟨x, y⟩ := u
      obtain ⟨g1, g2⟩ := B.lo x y b rfl eb
      show ((decide (x = b.pl) && decide (y = b.sp)) || KR.fol x y b.pl b.sp) = true
      unfold KR.fol
      by_cases e : x = b.pl
      · have := g2 e
        by_cases e2 : y = b.sp
        · rw [decide_eq_true e, decide_eq_true e2]; rfl
        · rw [if_pos e, decide_eq_true (show y < b.sp by grind)]; simp
      · rw [if_neg e, decide_eq_true (show x < b.pl by grind)]; simp
  have h3 : KR.hiB l2 c = true := by
    cases l2 with
    | none => rfl
    | some u =>
      obtain ⟨x, y⟩ := u
      obtain ⟨g1, g2⟩ := B.hi x y cs c rfl ec
      show ((decide (c.pl = x) && decide (c.sp = y)) || KR.fol c.pl c.sp x y) = true
      unfold KR.fol
      by_cases e : c.pl = x
      · have := g2 e.symm
        by_cases e2 : c.sp = y
        · rw [decide_eq_true e, decide_eq_true e2]; rfl
        · rw [if_pos e, decide_eq_true (show c.sp < y by grind)]; simp
      · rw [if_neg e, decide_eq_true (show c.pl < x by grind)]; simp
  unfold KR.btwB
  rw [h1, h2, h3]; rfl
theorem neg_sz {n : Nat} {x : Rat} (h : Sz n x) : Sz n (-x) := ⟨by rw [Rat.neg_num]; exact h.1.neg, by rw [Rat.neg_den]; exact h.2⟩
theorem th_sz {bs : List Ball} {ws : List Rat} (e : ws.length = bs.length) (hl : bs.length ≤ 25) (zw : ∀ x ∈ ws, Sz 27 x) (hp : ∀ b ∈ bs, Sz 600 b.pl ∧ Sz 80 b.sp) : KR.BSz (thB ws bs) := fun b m => by
  unfold thB at m
  obtain ⟨i, hi, rfl⟩ := List.mem_mapIdx.mp m
  have h := hp _ (List.getElem_mem hi)
  refine ⟨?_, h.2.mono (by decide)⟩
  show Sz 1600 (_ - _)
  rw [Rat.sub_eq_add_neg]
  exact (h.1.add (neg_sz (ahd_sz zw i (by omega)))).mono (by omega)
theorem th_wt {bs : List Ball} {ws : List Rat} (hw : ∀ b ∈ bs, 1 ≤ b.wt ∧ b.wt ≤ 1000) : ∀ b ∈ thB ws bs, 1 ≤ b.wt ∧ b.wt ≤ 1000 := fun b m => by
  unfold thB at m
  obtain ⟨i, hi, rfl⟩ := List.mem_mapIdx.mp m
  exact hw (bs[i]'hi) (List.getElem_mem hi)
theorem th_len (ws : List Rat) (bs : List Ball) : (thB ws bs).length = bs.length := by unfold thB; rw [List.length_mapIdx]
theorem verd_th {bs : List Ball} {ws : List Rat} {l1 l2 : Wl} (e : ws.length = bs.length) (h1 : 1 ≤ bs.length) (h8 : bs.length ≤ 8) (hw : ∀ b ∈ bs, 1 ≤ b.wt ∧ b.wt ≤ 1000) (hz : ∀ x ∈ ws, Sz 27 x ∧ 0 ≤ x) (hp : ∀ b ∈ bs, Sz 600 b.pl ∧ Sz 80 b.sp) :
    ∃ b cs c, (thB ws bs)[0]? = some b ∧ thB ws bs = cs ++ [c] ∧ KR.Verd l1 (mvW l2 (0 - ahd ws ws.length)) (.tuple ((thB ws bs).map KR.bD)) (KR.rowB l1 (mvW l2 (0 - ahd ws ws.length)) (thB ws bs) b c) := by
  obtain ⟨b, cs, c, eb, ec⟩ := ends (bs := thB ws bs) (by rw [th_len]; exact h1)
  exact ⟨b, cs, c, eb, ec, .row eb ec (th_sz e (by omega) (fun x m => (hz x m).1) hp) (by rw [th_len]; exact h8) (th_wt hw)⟩
theorem verB_of {bs : List Ball} {ws : List Rat} {l1 l2 : Wl} {b : Bool} (e : ws.length = bs.length) (h8 : bs.length ≤ 25) (hw : ∀ b ∈ bs, 1 ≤ b.wt ∧ b.wt ≤ 1000) (hz : ∀ x ∈ ws, Sz 27 x ∧ 0 ≤ x) (hp : ∀ b ∈ bs, Sz 600 b.pl ∧ Sz 80 b.sp) (z2 : sizeW l2) (h : KR.Verd l1 (mvW l2 (0 - ahd ws ws.length)) (.tuple ((thB ws bs).map KR.bD)) b) : VerB l1 l2 (brsD bs ws) b :=
  .row e h8 hw hz (fun b m => (hp b m).1) h (mv_w z2 (fun x m => (hz x m).1) (by omega))
theorem ahd_rep {x : Rat} {n : Nat} : ∀ {i : Nat}, i ≤ n → ahd (List.replicate n x) i = ((i : Int) : Rat) * x
  | 0, _ => by show (0 : Rat) = _; rw [show (((0 : Nat) : Int) : Rat) = 0 from rfl, Rat.zero_mul]
  | i + 1, h => by
    have ih := ahd_rep (x := x) (n := n) (i := i) (by omega)
    show ahd (List.replicate n x) i + (List.replicate n x).getD i 0 = _
    rw [ih, List.getD_eq_getElem?_getD, List.getElem?_replicate, if_pos (by omega)]
    show ((i : Int) : Rat) * x + x = _
    have : (((i + 1 : Nat) : Int) : Rat) = ((i : Int) : Rat) + 1 := by push_cast; rfl
    rw [this]; grind
theorem th_nine (b : Ball) (x : Rat) (n : Nat) : thB (List.replicate n x) (nineB b x n) = (List.range n).map fun (i : Nat) => (⟨b.pl + ((i : Int) : Rat), 0, b.wt⟩ : Ball) := by
  apply List.ext_getElem?
  intro i
  unfold thB
  rw [List.getElem?_mapIdx, List.getElem?_map]
  unfold nineB
  rw [List.getElem?_map]
  by_cases hi : i < n
  · rw [List.getElem?_range hi]
    show some (Ball.mk (b.pl + ((i : Int) : Rat) * (x + oneR) - ahd (List.replicate n x) i) 0 b.wt) = some _
    rw [ahd_rep (by omega), show b.pl + ((i : Int) : Rat) * (x + oneR) - ((i : Int) : Rat) * x = b.pl + ((i : Int) : Rat) by
      have : oneR = 1 := rfl
      rw [this]; grind]
  · rw [List.getElem?_eq_none (by rw [List.length_range]; omega)]; rfl
theorem nine_pw (b : Ball) (x : Rat) (n : Nat) : (thB (List.replicate n x) (nineB b x n)).Pairwise lexR := by
  rw [th_nine, List.pairwise_map]
  refine List.pairwise_lt_range.imp fun {i j} lt => Or.inl ?_
  show b.pl + ((i : Int) : Rat) < b.pl + ((j : Int) : Rat)
  have : ((i : Int) : Rat) < ((j : Int) : Rat) := Rat.intCast_lt_intCast.mpr (by omega)
  grind
theorem nine_sz {b : Ball} {x : Rat} {n : Nat} (hn : n ≤ 9) (zx : Sz 27 x) (zp : Sz 540 b.pl) : ∀ c ∈ nineB b x n, Sz 600 c.pl ∧ Sz 80 c.sp := fun c m => by
  unfold nineB at m
  obtain ⟨i, hi, rfl⟩ := List.mem_map.mp m
  have : i < n := List.mem_range.mp hi
  exact ⟨(zp.add ((sz_nat (i := i) (by omega)).mul (zx.add sz_one))).mono (by decide), Sz.mono (m := 1) ⟨show (0 : Int).natAbs < 2 ^ 1 by decide, show (1 : Int).natAbs < 2 ^ 1 by decide⟩ (by decide)⟩
theorem nine_wt {b : Ball} {x : Rat} {n : Nat} (h : 1 ≤ b.wt ∧ b.wt ≤ 1000) : ∀ c ∈ nineB b x n, 1 ≤ c.wt ∧ c.wt ≤ 1000 := fun c m => by
  unfold nineB at m
  obtain ⟨i, hi, rfl⟩ := List.mem_map.mp m
  exact h
theorem nine_len (b : Ball) (x : Rat) (n : Nat) : (nineB b x n).length = n := by unfold nineB; rw [List.length_map, List.length_range]
theorem rep_z {x : Rat} {n : Nat} (h : Sz 27 x ∧ 0 ≤ x) : ∀ y ∈ List.replicate n x, Sz 27 y ∧ 0 ≤ y := fun y m => by rw [(List.mem_replicate.mp m).2]; exact h
theorem no_size : sizeW none := fun _ _ e => by cases e
theorem nine_false {b : Ball} {x : Rat} (hw : 1 ≤ b.wt ∧ b.wt ≤ 1000) (zx : Sz 27 x ∧ 0 ≤ x) (zp : Sz 540 b.pl) : VerB none none (brsD (nineB b x 9) (List.replicate 9 x)) false :=
  ver_big (by rw [nine_len]; rfl) (by rw [nine_len]; decide) (.inr (by rw [nine_len]; decide)) (nine_wt hw) (rep_z zx) (fun c m => (nine_sz (by decide) zx.1 zp c m).1) no_size
theorem nine_true {b : Ball} {x : Rat} (hw : 1 ≤ b.wt ∧ b.wt ≤ 1000) (zx : Sz 27 x ∧ 0 ≤ x) (zp : Sz 540 b.pl) : VerB none none (brsD (nineB b x 8) (List.replicate 8 x)) true := by
  obtain ⟨b0, cs, c, e1, e2, hV⟩ := verd_th (l1 := none) (l2 := none) (bs := nineB b x 8) (ws := List.replicate 8 x) (by rw [nine_len]; rfl) (by rw [nine_len]; decide) (by rw [nine_len]; decide) (nine_wt hw) (rep_z zx) (nine_sz (by decide) zx.1 zp)
  have : KR.rowB none (mvW none (0 - ahd (List.replicate 8 x) (List.replicate 8 x).length)) (thB (List.replicate 8 x) (nineB b x 8)) b0 c = true := by
    unfold KR.rowB
    rw [ord_pw (nine_pw b x 8)]; rfl
  rw [this] at hV
  exact verB_of (by rw [nine_len]; rfl) (by rw [nine_len]; decide) (nine_wt hw) (rep_z zx) (nine_sz (by decide) zx.1 zp) no_size hV
theorem nine_take (b : Ball) (x : Rat) : PyData.tuple ((List.zipWith brD (nineB b x 9) (List.replicate 9 x)).take 8) = brsD (nineB b x 8) (List.replicate 8 x) := rfl
section
variable {P : Program} {w : World} {K : PySem.W.Frag} {mg : Str → Option Value} {base : Heap} {aN : Addr} {tb tw : Tok}
theorem callIB {t : TA} {σ : St} {H : Hp} {Q : VK} {l1 l2 : Wl} {e : PyData} {b : Bool} (h : Da [] t σ H [KR.wsD l1 l2, e]) (z1 : KR.WSz l1) (z2 : WallZ l2) (hV : VerB l1 l2 e b) (k : ∀ H', Same H H' → Q (.bl b) H') : tCall spIB [] E0 t σ H Q :=
  h H at_0 _ fun vs H2 e2 r => by
    rw [del_nil] at r
    cases r with
    | cons r1 r =>
      cases r with
      | cons r2 r =>
        cases r
        exact ⟨_, _, l1, l2, e, b, rfl, r1, z1, z2, r2, hV, fun H' e' => k H' (e2.trans e')⟩
structure Br (G : Hp) (fb sd : Addr) (us : List V) (v1 v2 : V) (bs : List Ball) (ws : List Rat) (l1 l2 : Wl) : Prop where
  hfb : G fb = some (.tup us)
  hBr : BrsAt G us bs ws
  hsd : G sd = some (.tup [v1, v2])
  hv1 : WallAt G v1 l1
  hv2 : WallAt G v2 l2
theorem Br.tups {G G' : Hp} {fb sd : Addr} {us : List V} {v1 v2 : V} {bs : List Ball} {ws : List Rat} {l1 l2 : Wl} (h : Br G fb sd us v1 v2 bs ws l1 l2) (e : TupS G G') : Br G' fb sd us v1 v2 bs ws l1 l2 := ⟨e _ _ h.hfb, h.hBr.tups e, e _ _ h.hsd, h.hv1.tups e, h.hv2.tups e⟩
theorem Br.rb {G : Hp} {fb sd : Addr} {us : List V} {v1 v2 : V} {bs : List Ball} {ws : List Rat} {l1 l2 : Wl} (h : Br G fb sd us v1 v2 bs ws l1 l2) : RdD G (.ref fb) (brsD bs ws) := h.hBr.rd h.hfb
theorem Br.rs {G : Hp} {fb sd : Addr} {us : List V} {v1 v2 : V} {bs : List Ball} {ws : List Rat} {l1 l2 : Wl} (h : Br G fb sd us v1 v2 bs ws l1 l2) : RdD G (.ref sd) (KR.wsD l1 l2) := .tup h.hsd (.cons (KR.wall_rd (wallR h.hv1)) (.cons (KR.wall_rd (wallR h.hv2)) .nil))
def spLaw (K : PySem.W.Frag) : Sp := fun vs H Q _ => ∃ (a : Addr) (ns : List Int), vs = [.ref a] ∧ SqL K H a (ns.map V.int) ∧ ns.length ≤ 63 ∧ ∀ H', Q (.bl true) H'
theorem sc_law : FnScope ["script", "k", "pool", "row", "walls", "broad", "sides", "nine", "turn", "other", "beside", "found"] ["script"] (defScope s_law) := ⟨rfl, rfl, rfl, by decide +kernel, rfl, by decide +kernel, by decide +kernel⟩
theorem ok_law {fl : Addr} {fdl : FuncData} (D : Fun K "law" "law" s_law fl fdl) (T : TxB K mg) (T3 : KR.Tx3 K mg tb tw aN) (cC : Cal P w K mg base "_law_cell" 1 ["script", "k"] [] (spCellI K)) (cD : Cal P w K mg base "_law_left" 1 ["cell"] [] spDig) (cSt : Cal P w K mg base "_law_start" 5 ["pool"] [] spSt)
    (cWd : Cal P w K mg base "_law_widths" 2 ["pool", "many"] [] spWd) (cTk : Cal P w K mg base "_law_thick" 3 ["row", "walls", "widths"] [] spTk) (cIB : Cal P w K mg base "is_broad" 7 ["walls", "thing"] [] spIB) (cOd : Cal P w K mg base "_law_odd" 2 ["pool", "broad"] [] spOdd) (cNi : Cal P w K mg base "_law_nine" 3 ["broad"] [] spNi)
    (cPu : Cal P w K mg base "_law_pushed" 3 ["pool", "broad", "walls"] [] spPu) (cWg : Cal P w K mg base "walls_good" 5 ["thing"] [] KR.spWgD) (cLI : Cal P w K mg base "_law_is" 7 ["walls", "broad"] [] spLI) : FnOk P w K mg base CX0 8 fl fdl ["script"] (spLaw K) := by
  refine D.ok (k := 7) sc_law (fun vs H Q E h => by obtain ⟨a, us, rfl, _⟩ := h; rfl) (fun cdv A outer s H vs Q E hr h => ?_)
  obtain ⟨a, ns, rfl, hS, hlen, k⟩ := h
  have hr1 : Room 1 _ := hr.mono (by decide)
  have hr2 : Room 2 _ := hr.mono (by decide)
  have hr3 : Room 3 _ := hr.mono (by decide)
  have hr5 : Room 5 _ := hr.mono (by decide)
  refine ⟨_, (pss_cons (ps_for PassesOwn.never rfl (pi_range1 rfl T.nRange (pa_cons (pe_op op_add pe_int (pe_callB (call_min2 rfl) (by rfl) T.nMin PyProof.Rows.boot_min (pa_cons (pe_callB call_len_seq (by rfl) T.nLen PySem.boot_len (pa_cons (pv 0) pa_nil)) (pa_cons pe_int pa_nil)))) pa_nil)) (pg_name (i := 1) sc_law.nd rfl (Or.inl rfl)) (bx_out (bx_scons (Bx.mk (ps_set (i := 2) sc_law.nd rfl (Or.inl rfl) (pe_c cD hr1 (pa_cons (pe_c cC hr1 (pa_cons (pe_op op_catL (pe_lst (pa_cons pe_int pa_nil)) (pv 0)) (pa_cons (pv 1) pa_nil))) pa_nil))))
    (bx_scons (Bx.mk (ps_asg (pe_c cSt hr5 (pa_cons (pv 2) pa_nil)) (pg_tup rfl (pgs_cons (pg_name (i := 3) sc_law.nd rfl (Or.inl rfl)) (pgs_cons (pg_name (i := 4) sc_law.nd rfl (Or.inl rfl)) pgs_nil)))))
    (bx_scons (Bx.mk (ps_asg (pe_c cTk hr3 (pa_cons (pv 3) (pa_cons (pv 4) (pa_cons (pe_c cWd hr2 (pa_cons (pv 2) (pa_cons (pe_callB call_len_seq (by rfl) T.nLen PySem.boot_len (pa_cons (pv 3) pa_nil)) pa_nil))) pa_nil)))) (pg_tup rfl (pgs_cons (pg_name (i := 5) sc_law.nd rfl (Or.inl rfl)) (pgs_cons (pg_name (i := 6) sc_law.nd rfl (Or.inl rfl)) pgs_nil)))))
    (bx_scons (Bx.mk (ps_if (pw_or (pt_cmpR op_isnotB (pe_c cIB hr (pa_cons (pv 6) (pa_cons (pv 5) pa_nil))) pe_bl (nomark _)) (pw_or1 (pt_cmpR op_isnotB (pe_c cIB hr (pa_cons (pv 6) (pa_cons (pe_c cOd hr2 (pa_cons (pv 2) (pa_cons (pv 5) pa_nil))) pa_nil))) pe_bl (nomark _)))).pt (pss_one (ps_ret pe_bl)) pss_nil))
    (bx_scons (Bx.mk (ps_set (i := 7) sc_law.nd rfl (Or.inl rfl) (pe_c cNi hr3 (pa_cons (pv 5) pa_nil))))
    (bx_scons (Bx.mk (ps_if (pw_or (pt_cmpR op_isnotB (pe_c cIB hr (pa_cons (pe_tup (pa_cons pe_non (pa_cons pe_non pa_nil))) (pa_cons (pv 7) pa_nil))) pe_bl (nomark _)) (pw_or1 (pt_cmpR op_isnotB (pe_c cIB hr (pa_cons (pe_tup (pa_cons pe_non (pa_cons pe_non pa_nil))) (pa_cons (pe_slice (sl_tup.or sl_whole) (pv 7) po_none (po_some pe_int)) pa_nil))) pe_bl (nomark _)))).pt (pss_one (ps_ret pe_bl)) pss_nil))
    (Bx.mk (pss_one (ps_for PassesOwn.never rfl (pi_range1 rfl T.nRange (pa_cons pe_int pa_nil)) (pg_name (i := 8) sc_law.nd rfl (Or.inl rfl)) (pss_cons (ps_asg (pe_c cPu hr3 (pa_cons (pv 2) (pa_cons (pv 5) (pa_cons (pv 6) pa_nil)))) (pg_tup rfl (pgs_cons (pg_name (i := 9) sc_law.nd rfl (Or.inl rfl)) (pgs_cons (pg_name (i := 10) sc_law.nd rfl (Or.inl rfl)) pgs_nil)))) (pss_one (ps_if (pt_truth (pe_c cWg hr5 (pa_cons (pv 10) pa_nil)) fun _ => rfl) (pss_cons (ps_set (i := 11) sc_law.nd rfl (Or.inl rfl) (pe_c cIB hr (pa_cons (pv 10) (pa_cons (pv 9) pa_nil)))) (pss_one (ps_if (pw_or (pt_not (pt_truth (pe_callB call_isinst (by rfl) T.nIs PyProof.Rows.boot_isinstance (pa_cons (pv 11) (pa_cons (pe_bltn (v := .ty "bool") (u := .type "bool") (by rfl) T.nBool (by decide +kernel) rfl) pa_nil))) fun _ => rfl)) (pw_or1 (pt_cmpR op_ne (pv 11) (pe_c cLI hr (pa_cons (pv 10) (pa_cons (pv 9) pa_nil))) (nomark _)))).pt (pss_one (ps_ret pe_bl)) pss_nil))) pss_nil)))))))))))))) (pss_one (ps_ret pe_bl))), ?_⟩
  refine ⟨_, rfl, a, _, rfl, .inl hS, _, _, rfl, _, _, rfl, rfl, _, rfl, ?_⟩
  obtain ⟨m, em⟩ : ∃ m : Int, m = (1 : Int) + (if (30 : Int) < ((ns.map V.int).length : Int) then 30 else ((ns.map V.int).length : Int)) := ⟨_, rfl⟩
  have m0 : 0 ≤ m ∧ m ≤ 31 := by
    rw [em]; split <;> omega
  rw [← em]
  refine ⟨by omega, by omega, ?_⟩
  refine for_range (n := m.toNat) (lo := 0) (fun i σ G => ∃ z, z.length = 11 ∧ σ = some (.ref a) :: z ∧ Same H G) ⟨_, rfl, rfl, Same.refl _⟩ ?_ ?_
  · rintro i σ G0 hi ⟨z, hz, rfl, S0⟩
    match z, hz with
    | [z1, z2, z3, z4, z5, z6, z7, z8, z9, z10, z11], _ =>
    refine ⟨by show 1 ≤ sizeLine; decide, fun p0 hp0 => ?_⟩
    refine ⟨_, rfl, p0, a, _, _, rfl, rfl, SqL.of upd_same, ((S0.trans (Same.upd hp0))).seq hS, szl (by simp only [List.length_map, List.length_cons, List.length_nil]; omega), fun p1 hp1 => ?_⟩
    have S1 := (S0.trans (Same.upd (o := .lst [.int 0]) hp0)).trans (Same.upd (o := .lst ([.int 0] ++ ns.map V.int)) hp1)
    have e1 : upd (upd G0 p0 (.lst [.int 0])) p1 (.lst ([.int 0] ++ ns.map V.int)) p1 = some (.lst ((0 :: ns).map V.int)) := upd_same
    generalize upd (upd G0 p0 (.lst [.int 0])) p1 (.lst ([.int 0] ++ ns.map V.int)) = G1 at S1 e1
    refine ⟨_, rfl, p1, 0 :: ns, _, rfl, SqL.of e1, by omega, fun c => ?_⟩
    refine ⟨c, rfl, fun p G2 hp s2 hP => ?_⟩
    have hpH : H p = none := S1.free hp
    have S2 := S1.trans s2
    refine ⟨_, rfl, p, rfl, hP, fun t r wl us bs v1 v2 l1 l2 G3 T3' ht3 hr3' hB3 hG h1 h8 hw3 hv13 hv23 hBx => ?_⟩
    refine ⟨t, _, rfl, .of ht3, rfl, _, _, rfl, _, _, rfl, rfl, ?_⟩
    have hul := hB3.length
    have zB := hG.zb
    refine ⟨_, rfl, _, rfl, _, rfl, _, rfl, r, _, rfl, .inr (.of hr3'), p, us.length, rfl, by omega, T3'.pool, fun l lus ws G4 T4 hl4n hl4 hR4 hwl4 zw => ?_⟩
    have Tu4 := step_tups T3'.pool T4
    have zw' : ∀ x ∈ ws, Sz 27 x := fun x m => (zw x m).1
    have T34 := T3'.trans T4
    refine ⟨r, us, bs, wl, v1, v2, l1, l2, l, lus, ws, rfl, Tu4 _ _ hr3', hB3.mono Tu4, h8, Tu4 _ _ hw3, hv13.tups Tu4, hv23.tups Tu4, hBx.wz2.wz, hl4, hR4, by omega, zw', fun b m => (zB b m).1.mono (by decide), fun t2 fb us2 sd v' G5 s5 ht5 hfb5 hBr5 hsd5 hv5 => ?_⟩
    refine ⟨t2, _, rfl, .of ht5, rfl, _, _, rfl, _, _, rfl, rfl, ?_⟩
    have hwlen : ws.length = bs.length := by omega
    have T5 := T34.same s5
    have B5 : Br G5 fb sd us2 v1 v' (tkB ws bs) ws l1 (mvW l2 (ahd ws ws.length)) := ⟨hfb5, hBr5, hsd5, (hv13.tups Tu4).tups (.of s5), hv5⟩
    clear ht5 hfb5 hBr5 hsd5 hv5 s5 hl4 hR4 hl4n hv13 hv23 hw3 hB3 hr3' ht3 T4 Tu4 T3' T34
    -- sizes
    have hZ : BrZ (tkB ws bs) ws := by
      refine ⟨by rw [tk_len]; exact hwlen, fun b m => ?_, zw, fun b m => ?_⟩
      · unfold tkB at m
        obtain ⟨i, hi, rfl⟩ := List.mem_mapIdx.mp m
        exact hG.wt (bs[i]'hi) (List.getElem_mem hi)
      · unfold tkB at m
        obtain ⟨i, hi, rfl⟩ := List.mem_mapIdx.mp m
        exact ⟨((hG.sz _ (List.getElem_mem hi)).1.add (ahd_sz zw' i (by omega))).mono (by omega), (hG.sz _ (List.getElem_mem hi)).2⟩
    have zl2 : ∀ x y, mvW l2 (ahd ws ws.length) = some (x, y) → Sz 580 x ∧ Sz 80 y := fun x y e => by
      cases l2 with
      | none => cases e
      | some u =>
        obtain ⟨q1, q2⟩ := u
        cases e
        exact ⟨((hBx.z2 q1 _ rfl).1.add (ahd_sz zw' ws.length (Nat.le_refl _))).mono (by omega), (hBx.z2 q1 _ rfl).2⟩
    have z1w : KR.WSz l1 := fun x y e => ⟨(hBx.z1 x y e).1.mono (by decide), (hBx.z1 x y e).2.mono (by decide)⟩
    have zs2 : sizeW (mvW l2 (ahd ws ws.length)) := fun x y e => ⟨(zl2 x y e).1.mono (by decide), (zl2 x y e).2⟩
    have zz2 : WallZ (mvW l2 (ahd ws ws.length)) := fun x y e => (zl2 x y e).1.mono (by decide)
    have hp6 : ∀ b ∈ tkB ws bs, Sz 600 b.pl ∧ Sz 80 b.sp := fun b m => ⟨(hZ.2.2.2 b m).1.mono (by decide), (hZ.2.2.2 b m).2⟩
    have tk8 : (tkB ws bs).length ≤ 8 := by rw [tk_len]; exact h8
    have tk1 : 1 ≤ (tkB ws bs).length := by rw [tk_len]; exact h1
    have V0 : VerB l1 (mvW l2 (ahd ws ws.length)) (brsD (tkB ws bs) ws) true := by
      obtain ⟨b0, cs, c1, g1, g2, hV⟩ := verd_th (l1 := l1) (l2 := mvW l2 (ahd ws ws.length)) (by rw [tk_len]; exact hwlen) tk1 tk8 hZ.2.1 zw hp6
      have : KR.rowB l1 (mvW (mvW l2 (ahd ws ws.length)) (0 - ahd ws ws.length)) (thB ws (tkB ws bs)) b0 c1 = true := by
        rw [th_tk] at g1 g2 ⊢
        rw [mv_mv]
        exact row_true hG hBx g1 g2
      rw [this] at hV
      exact verB_of (by rw [tk_len]; exact hwlen) (by omega) hZ.2.1 zw hp6 zs2 hV
    clear hBx
    generalize mvW l2 (ahd ws ws.length) = l2s at *
    generalize tkB ws bs = bk at *
    -- the broad row, and an odd one
    refine callIB (da_cons (dt_var rfl B5.rs) (da_cons (dt_var rfl B5.rb) da_nil)) z1w zz2 V0 fun G6 s6 => ?_
    refine ⟨_, _, rfl, rfl, _, rfl, iteF ?_⟩
    have T6 := T5.same s6
    have B6 := B5.tups (.of s6)
    refine ⟨_, rfl, _, rfl, _, rfl, p, fb, us2, bk, ws, rfl, T6.pool, B6.hfb, B6.hBr, hZ, tk1, tk8, fun v d G7 t7 r7 hV7 => ?_⟩
    have B7 := B6.tups (step_tups T6.pool t7)
    have T7 := T6.trans t7
    refine ⟨.ref sd, v, l1, l2s, d, false, rfl, B7.rs, z1w, zz2, r7, hV7 l1 l2s zs2, fun G8 s8 => ?_⟩
    refine ⟨_, _, rfl, rfl, _, rfl, iteF ?_⟩
    have T8 := T7.same s8
    have B8 := B7.tups (.of s8)
    clear B5 B6 B7 T5 T6 T7 r7 hV7
    -- nine
    refine st_next ?_
    obtain ⟨b0, eb0⟩ : ∃ b, bk[0]? = some b := ⟨_, List.getElem?_eq_getElem (by omega)⟩
    obtain ⟨x0, ex0⟩ : ∃ b, ws[0]? = some b := ⟨_, List.getElem?_eq_getElem (by have := hZ.1; omega)⟩
    have mb0 := List.mem_of_getElem? eb0
    have zx0 := zw x0 (List.mem_of_getElem? ex0)
    have zb0 := (hZ.2.2.2 b0 mb0).1
    have wb0 := hZ.2.1 b0 mb0
    refine ⟨_, rfl, fb, us2, bk, ws, b0, x0, rfl, B8.hfb, B8.hBr, eb0, ex0, zx0.1, zb0, fun ni un G9 s9 hni hBn => ?_⟩
    have T9 := T8.same s9
    have B9 := B8.tups (.of s9)
    dsimp only [gName]
    have rn : RdD G9 (.ref ni) (brsD (nineB b0 x0 9) (List.replicate 9 x0)) := hBn.rd hni
    have zn : KR.WSz none := fun _ _ e => by cases e
    have zn2 : WallZ none := fun _ _ e => by cases e
    refine callIB (da_cons (dt_tup (da_cons dt_non (da_cons dt_non da_nil)) (szl (show (2 : Nat) ≤ 1000 by decide))) (da_cons (dt_var rfl rn) da_nil)) zn zn2 (nine_false wb0 zx0 zb0) fun G10 s10 => ?_
    refine ⟨_, _, rfl, rfl, _, rfl, iteF ?_⟩
    have rn10 := rn.same s10
    have c8 : PyData.tuple (cutG (List.zipWith brD (nineB b0 x0 9) (List.replicate 9 x0)) none (some 8)) = brsD (nineB b0 x0 8) (List.replicate 8 x0) := by
      rw [show (8 : Int) = ((8 : Nat) : Int) from rfl, cutG_to]; exact nine_take b0 x0
    refine callIB (da_cons (dt_tup (da_cons dt_non (da_cons dt_non da_nil)) (szl (show (2 : Nat) ≤ 1000 by decide))) (da_cons (dt_eq (dt_sl (dt_var rfl rn10) dp_none (dp_some dt_int)) c8) da_nil)) zn zn2 (nine_true wb0 zx0 zb0) fun G11 s11 => ?_
    refine ⟨_, _, rfl, rfl, _, rfl, iteF ?_⟩
    have T11 := T9.same (s10.trans s11)
    have B11 := B9.tups (.of (s10.trans s11))
    clear B8 B9 T8 T9 rn rn10 hBn hni V0
    refine st_next ?_
    dsimp only
    -- three turns
    refine ⟨3, rfl, by decide, by decide, ?_⟩
    refine for_range (n := 3) (lo := 0) (fun i' σ G => ∃ z8 z9 z10 z11, σ = [some (.ref a), some (.int (0 + (i : Int))), some (.ref p), some (.ref r), some (.ref wl), some (.ref fb), some (.ref sd), some (.ref ni), z8, z9, z10, z11] ∧ Step p G11 G) ⟨_, _, _, _, rfl, Step.refl T11.pool⟩ ?_ ?_
    · rintro i' σ G12 hi' ⟨y8, y9, y10, y11, rfl, t12⟩
      have B12 := B11.tups (step_tups T11.pool t12)
      refine ⟨_, rfl, _, rfl, _, rfl, p, fb, us2, bk, ws, sd, v1, v', l1, l2s, rfl, t12.pool, B12.hfb, B12.hBr, hZ, tk1, tk8, B12.hsd, B12.hv1, B12.hv2, zl2, fun v bs' l2' G13 t13 r13 hl13 hw13 hp13 z13 => ?_⟩
      obtain ⟨t14, xo, xb, d1, d2, rfl, e14, ht14, ro, rbs⟩ := KR.rd2 r13 rfl
      cases e14
      refine ⟨t14, _, rfl, .of ht14, rfl, _, _, rfl, _, _, rfl, rfl, ?_⟩
      have t13' := t12.trans t13
      have w2' : KR.WSz l2' := fun x y e => ⟨(z13 x y e).1.mono (by decide), (z13 x y e).2.mono (by decide)⟩
      refine ⟨_, rfl, xb, _, KR.wgood l1 l2', rfl, rbs, .inr ⟨l1, l2', rfl, z1w, w2', rfl⟩, _, rfl, ?_⟩
      refine ite2 (fun _ => ?_) (fun _ => ⟨_, _, _, _, rfl, t13'⟩)
      have hel : ws.length = bs'.length := by have := hZ.1; omega
      have h13l : bs'.length ≤ 8 := by omega
      obtain ⟨b1, cs1, c1, g1, g2, hV⟩ := verd_th (l1 := l1) (l2 := l2') hel (by omega) h13l hw13 zw hp13
      have VB := verB_of hel (by omega) hw13 zw hp13 z13 hV
      have zz' : WallZ l2' := fun x y e => (z13 x y e).1.mono (by decide)
      refine callIB (da_cons (dt_var rfl rbs) (da_cons (dt_var rfl ro) da_nil)) z1w zz' VB fun G15 s15 => ?_
      dsimp only [gName]
      obtain ⟨bv, ebv⟩ : ∃ bv, bv = KR.rowB l1 (mvW l2' (0 - ahd ws ws.length)) (thB ws bs') b1 c1 := ⟨_, rfl⟩
      rw [← ebv] at hV ⊢
      refine ⟨_, rfl, _, _, _, _, rfl, .bl bv, T3.bb, _, rfl, iteF ?_⟩
      have ro15 := ro.same s15
      have rb15 := rbs.same s15
      obtain ⟨wl', x1, x2, d3, d4, rfl, e15, hwl15, rx1, rx2⟩ := KR.rd2 rb15 rfl
      cases e15
      cases ro15 with
      | @tup ao uo dso hao hro =>
        have hBo := rd_brs hel hro
        refine ⟨_, rfl, _, rfl, _, rfl, ao, uo, bs', ws, wl', x1, x2, l1, l2', bv, rfl, hao, hBo, by omega, zw', fun b m => (hp13 b m).1, hwl15, wallK (KR.rd_wall rx1), wallK (KR.rd_wall rx2), zz', z1w, mv_w z13 zw' (by omega), hV, fun G16 s16 => ?_⟩
        refine ⟨rfl, _, rfl, ?_⟩
        have : (!decide (V.bl bv = V.bl bv)) = false := by simp
        rw [this]
        exact iteF ⟨_, _, _, _, rfl, (t13'.same s15).same s16⟩
    · rintro σ G ⟨z8, z9, z10, z11, rfl, t12⟩
      exact ⟨_, rfl, rfl, step_same S2 hpH (T11.trans t12)⟩
  · rintro σ G ⟨z, hz, rfl, _⟩
    exact k G
end
end KK
end
def PySem.W.Fast.tw3670124318641183702 : Nat := 0
def PySem.W.Fast.tw9408023093451256774 : Nat := 0
def PySem.W.Fast.tw16014643460875655633 : Nat := 0
def PySem.W.Fast.tw4494251867562306710 : Nat := 0
def PySem.W.Fast.tw7392294872105341195 : Nat := 0
def PySem.W.Fast.tw18411628258430885378 : Nat := 0
def PySem.W.Fast.tw6902067941143713748 : Nat := 0
def PySem.W.Fast.tw14979653626902896616 : Nat := 0
def PySem.W.Fast.tw6953647590303115785 : Nat := 0
def PySem.W.Fast.tw7625465312711689375 : Nat := 0
def PySem.W.Fast.tw102719779701271967 : Nat := 0
def PySem.W.Fast.tw17692877198852158450 : Nat := 0
section
set_option maxHeartbeats 8000000
set_option Elab.async false
set_option linter.all false
set_option maxRecDepth 100000
namespace KK
open PySem L2 KM
theorem kit_ii (K : PySem.W.Frag) : PySem.W.kitOne K (.type "int") (.type "int") = some true := by
  unfold PySem.W.kitOne; rw [if_pos (by decide +kernel)]
theorem kit_ib (K : PySem.W.Frag) : PySem.W.kitOne K (.type "int") (.type "bool") = some false := by
  with_unfolding_all rfl
theorem kit_tt (K : PySem.W.Frag) : PySem.W.kitOne K (.type "tuple") (.type "tuple") = some true := by
  unfold PySem.W.kitOne; rw [if_pos (by decide +kernel)]
theorem kit_bb (K : PySem.W.Frag) : PySem.W.kitOne K (.type "bool") (.type "bool") = some true := by
  unfold PySem.W.kitOne; rw [if_pos (by decide +kernel)]
theorem all_mk {l : PySem.W.OpenLaw} {w : World} {K : PySem.W.Frag} {h : Heap} {mg : Str → Option Value} {fa : Addr} (X : K.In h) (G : h.Ns mainGlobals mg) (hfa : mg "law" = some (.ref fa))
    {f0 : Addr} {od0 an0 : Option Addr} {sl0 : Array (Option Value)} {oc0 kV0 dc0 pm0 cd0 ct0 : Value}
    (a0 : PySem.W.nsIn K mainGlobals "is_whole" = some (some (.ref f0))) (l0 : K.lookup f0 = some ⟨oc0, od0, .func (PySem.W.fnOf "is_whole" "is_whole" (defArgs s_is_whole) (defBody s_is_whole) (defScope s_is_whole) .none kV0 dc0 pm0 an0 cd0 ct0), sl0⟩) (c0 : PySem.W.codeIn K cd0 "is_whole" = true) (k0 : PySem.W.keepIn K (.ref f0) = true)
    {f1 : Addr} {od1 an1 : Option Addr} {sl1 : Array (Option Value)} {oc1 kV1 dc1 pm1 cd1 ct1 : Value}
    (a1 : PySem.W.nsIn K mainGlobals "is_tuple" = some (some (.ref f1))) (l1 : K.lookup f1 = some ⟨oc1, od1, .func (PySem.W.fnOf "is_tuple" "is_tuple" (defArgs s_is_tuple) (defBody s_is_tuple) (defScope s_is_tuple) .none kV1 dc1 pm1 an1 cd1 ct1), sl1⟩) (c1 : PySem.W.codeIn K cd1 "is_tuple" = true) (k1 : PySem.W.keepIn K (.ref f1) = true)
    {f2 : Addr} {od2 an2 : Option Addr} {sl2 : Array (Option Value)} {oc2 kV2 dc2 pm2 cd2 ct2 : Value}
    (a2 : PySem.W.nsIn K mainGlobals "greatest_divisor" = some (some (.ref f2))) (l2 : K.lookup f2 = some ⟨oc2, od2, .func (PySem.W.fnOf "greatest_divisor" "greatest_divisor" (defArgs s_greatest_divisor) (defBody s_greatest_divisor) (defScope s_greatest_divisor) .none kV2 dc2 pm2 an2 cd2 ct2), sl2⟩) (c2 : PySem.W.codeIn K cd2 "greatest_divisor" = true) (k2 : PySem.W.keepIn K (.ref f2) = true)
    {f3 : Addr} {od3 an3 : Option Addr} {sl3 : Array (Option Value)} {oc3 kV3 dc3 pm3 cd3 ct3 : Value}
    (a3 : PySem.W.nsIn K mainGlobals "is_ratio" = some (some (.ref f3))) (l3 : K.lookup f3 = some ⟨oc3, od3, .func (PySem.W.fnOf "is_ratio" "is_ratio" (defArgs s_is_ratio) (defBody s_is_ratio) (defScope s_is_ratio) .none kV3 dc3 pm3 an3 cd3 ct3), sl3⟩) (c3 : PySem.W.codeIn K cd3 "is_ratio" = true) (k3 : PySem.W.keepIn K (.ref f3) = true)
    {f4 : Addr} {od4 an4 : Option Addr} {sl4 : Array (Option Value)} {oc4 kV4 dc4 pm4 cd4 ct4 : Value} {Td4 : Addr} {ocd4 : Value} {odd4 : Option Addr} {tkd4 : Tok} {nd4 : Nat} {sld4 : Array (Option Value)}
    (a4 : PySem.W.nsIn K mainGlobals "ratio" = some (some (.ref f4))) (l4 : K.lookup f4 = some ⟨oc4, od4, .func (PySem.W.fnOf "ratio" "ratio" (defArgs s_ratio) (defBody s_ratio) (defScope s_ratio) (.ref Td4) kV4 dc4 pm4 an4 cd4 ct4), sl4⟩) (c4 : PySem.W.codeIn K cd4 "ratio" = true) (k4 : PySem.W.keepIn K (.ref f4) = true)
    (ld4 : K.lookup Td4 = some ⟨ocd4, odd4, .seq #[.int 1 tkd4] nd4, sld4⟩)
    {f5 : Addr} {od5 an5 : Option Addr} {sl5 : Array (Option Value)} {oc5 kV5 dc5 pm5 cd5 ct5 : Value}
    (a5 : PySem.W.nsIn K mainGlobals "plus" = some (some (.ref f5))) (l5 : K.lookup f5 = some ⟨oc5, od5, .func (PySem.W.fnOf "plus" "plus" (defArgs s_plus) (defBody s_plus) (defScope s_plus) .none kV5 dc5 pm5 an5 cd5 ct5), sl5⟩) (c5 : PySem.W.codeIn K cd5 "plus" = true) (k5 : PySem.W.keepIn K (.ref f5) = true)
    {f6 : Addr} {od6 an6 : Option Addr} {sl6 : Array (Option Value)} {oc6 kV6 dc6 pm6 cd6 ct6 : Value}
    (a6 : PySem.W.nsIn K mainGlobals "minus" = some (some (.ref f6))) (l6 : K.lookup f6 = some ⟨oc6, od6, .func (PySem.W.fnOf "minus" "minus" (defArgs s_minus) (defBody s_minus) (defScope s_minus) .none kV6 dc6 pm6 an6 cd6 ct6), sl6⟩) (c6 : PySem.W.codeIn K cd6 "minus" = true) (k6 : PySem.W.keepIn K (.ref f6) = true)
    {f7 : Addr} {od7 an7 : Option Addr} {sl7 : Array (Option Value)} {oc7 kV7 dc7 pm7 cd7 ct7 : Value}
    (a7 : PySem.W.nsIn K mainGlobals "less" = some (some (.ref f7))) (l7 : K.lookup f7 = some ⟨oc7, od7, .func (PySem.W.fnOf "less" "less" (defArgs s_less) (defBody s_less) (defScope s_less) .none kV7 dc7 pm7 an7 cd7 ct7), sl7⟩) (c7 : PySem.W.codeIn K cd7 "less" = true) (k7 : PySem.W.keepIn K (.ref f7) = true)
    {f8 : Addr} {od8 an8 : Option Addr} {sl8 : Array (Option Value)} {oc8 kV8 dc8 pm8 cd8 ct8 : Value}
    (a8 : PySem.W.nsIn K mainGlobals "is_wall" = some (some (.ref f8))) (l8 : K.lookup f8 = some ⟨oc8, od8, .func (PySem.W.fnOf "is_wall" "is_wall" (defArgs s_is_wall) (defBody s_is_wall) (defScope s_is_wall) .none kV8 dc8 pm8 an8 cd8 ct8), sl8⟩) (c8 : PySem.W.codeIn K cd8 "is_wall" = true) (k8 : PySem.W.keepIn K (.ref f8) = true)
    {f9 : Addr} {od9 an9 : Option Addr} {sl9 : Array (Option Value)} {oc9 kV9 dc9 pm9 cd9 ct9 : Value}
    (a9 : PySem.W.nsIn K mainGlobals "is_wall_pair" = some (some (.ref f9))) (l9 : K.lookup f9 = some ⟨oc9, od9, .func (PySem.W.fnOf "is_wall_pair" "is_wall_pair" (defArgs s_is_wall_pair) (defBody s_is_wall_pair) (defScope s_is_wall_pair) .none kV9 dc9 pm9 an9 cd9 ct9), sl9⟩) (c9 : PySem.W.codeIn K cd9 "is_wall_pair" = true) (k9 : PySem.W.keepIn K (.ref f9) = true)
    {f10 : Addr} {od10 an10 : Option Addr} {sl10 : Array (Option Value)} {oc10 kV10 dc10 pm10 cd10 ct10 : Value}
    (a10 : PySem.W.nsIn K mainGlobals "walls_good" = some (some (.ref f10))) (l10 : K.lookup f10 = some ⟨oc10, od10, .func (PySem.W.fnOf "walls_good" "walls_good" (defArgs s_walls_good) (defBody s_walls_good) (defScope s_walls_good) .none kV10 dc10 pm10 an10 cd10 ct10), sl10⟩) (c10 : PySem.W.codeIn K cd10 "walls_good" = true) (k10 : PySem.W.keepIn K (.ref f10) = true)
    {f11 : Addr} {od11 an11 : Option Addr} {sl11 : Array (Option Value)} {oc11 kV11 dc11 pm11 cd11 ct11 : Value}
    (a11 : PySem.W.nsIn K mainGlobals "is_ball_form" = some (some (.ref f11))) (l11 : K.lookup f11 = some ⟨oc11, od11, .func (PySem.W.fnOf "is_ball_form" "is_ball_form" (defArgs s_is_ball_form) (defBody s_is_ball_form) (defScope s_is_ball_form) .none kV11 dc11 pm11 an11 cd11 ct11), sl11⟩) (c11 : PySem.W.codeIn K cd11 "is_ball_form" = true) (k11 : PySem.W.keepIn K (.ref f11) = true)
    {f12 : Addr} {od12 an12 : Option Addr} {sl12 : Array (Option Value)} {oc12 kV12 dc12 pm12 cd12 ct12 : Value}
    (a12 : PySem.W.nsIn K mainGlobals "is_weight" = some (some (.ref f12))) (l12 : K.lookup f12 = some ⟨oc12, od12, .func (PySem.W.fnOf "is_weight" "is_weight" (defArgs s_is_weight) (defBody s_is_weight) (defScope s_is_weight) .none kV12 dc12 pm12 an12 cd12 ct12), sl12⟩) (c12 : PySem.W.codeIn K cd12 "is_weight" = true) (k12 : PySem.W.keepIn K (.ref f12) = true)
    {f13 : Addr} {od13 an13 : Option Addr} {sl13 : Array (Option Value)} {oc13 kV13 dc13 pm13 cd13 ct13 : Value}
    (a13 : PySem.W.nsIn K mainGlobals "is_ball" = some (some (.ref f13))) (l13 : K.lookup f13 = some ⟨oc13, od13, .func (PySem.W.fnOf "is_ball" "is_ball" (defArgs s_is_ball) (defBody s_is_ball) (defScope s_is_ball) .none kV13 dc13 pm13 an13 cd13 ct13), sl13⟩) (c13 : PySem.W.codeIn K cd13 "is_ball" = true) (k13 : PySem.W.keepIn K (.ref f13) = true)
    {f14 : Addr} {od14 an14 : Option Addr} {sl14 : Array (Option Value)} {oc14 kV14 dc14 pm14 cd14 ct14 : Value}
    (a14 : PySem.W.nsIn K mainGlobals "follows" = some (some (.ref f14))) (l14 : K.lookup f14 = some ⟨oc14, od14, .func (PySem.W.fnOf "follows" "follows" (defArgs s_follows) (defBody s_follows) (defScope s_follows) .none kV14 dc14 pm14 an14 cd14 ct14), sl14⟩) (c14 : PySem.W.codeIn K cd14 "follows" = true) (k14 : PySem.W.keepIn K (.ref f14) = true)
    {f15 : Addr} {od15 an15 : Option Addr} {sl15 : Array (Option Value)} {oc15 kV15 dc15 pm15 cd15 ct15 : Value}
    (a15 : PySem.W.nsIn K mainGlobals "is_ordered" = some (some (.ref f15))) (l15 : K.lookup f15 = some ⟨oc15, od15, .func (PySem.W.fnOf "is_ordered" "is_ordered" (defArgs s_is_ordered) (defBody s_is_ordered) (defScope s_is_ordered) .none kV15 dc15 pm15 an15 cd15 ct15), sl15⟩) (c15 : PySem.W.codeIn K cd15 "is_ordered" = true) (k15 : PySem.W.keepIn K (.ref f15) = true)
    {f16 : Addr} {od16 an16 : Option Addr} {sl16 : Array (Option Value)} {oc16 kV16 dc16 pm16 cd16 ct16 : Value}
    (a16 : PySem.W.nsIn K mainGlobals "keeps_side" = some (some (.ref f16))) (l16 : K.lookup f16 = some ⟨oc16, od16, .func (PySem.W.fnOf "keeps_side" "keeps_side" (defArgs s_keeps_side) (defBody s_keeps_side) (defScope s_keeps_side) .none kV16 dc16 pm16 an16 cd16 ct16), sl16⟩) (c16 : PySem.W.codeIn K cd16 "keeps_side" = true) (k16 : PySem.W.keepIn K (.ref f16) = true)
    {f17 : Addr} {od17 an17 : Option Addr} {sl17 : Array (Option Value)} {oc17 kV17 dc17 pm17 cd17 ct17 : Value}
    (a17 : PySem.W.nsIn K mainGlobals "is_between" = some (some (.ref f17))) (l17 : K.lookup f17 = some ⟨oc17, od17, .func (PySem.W.fnOf "is_between" "is_between" (defArgs s_is_between) (defBody s_is_between) (defScope s_is_between) .none kV17 dc17 pm17 an17 cd17 ct17), sl17⟩) (c17 : PySem.W.codeIn K cd17 "is_between" = true) (k17 : PySem.W.keepIn K (.ref f17) = true)
    {f18 : Addr} {od18 an18 : Option Addr} {sl18 : Array (Option Value)} {oc18 kV18 dc18 pm18 cd18 ct18 : Value}
    (a18 : PySem.W.nsIn K mainGlobals "is_row" = some (some (.ref f18))) (l18 : K.lookup f18 = some ⟨oc18, od18, .func (PySem.W.fnOf "is_row" "is_row" (defArgs s_is_row) (defBody s_is_row) (defScope s_is_row) .none kV18 dc18 pm18 an18 cd18 ct18), sl18⟩) (c18 : PySem.W.codeIn K cd18 "is_row" = true) (k18 : PySem.W.keepIn K (.ref f18) = true)
    {f19 : Addr} {od19 an19 : Option Addr} {sl19 : Array (Option Value)} {oc19 kV19 dc19 pm19 cd19 ct19 : Value}
    (a19 : PySem.W.nsIn K mainGlobals "is_broad_ball" = some (some (.ref f19))) (l19 : K.lookup f19 = some ⟨oc19, od19, .func (PySem.W.fnOf "is_broad_ball" "is_broad_ball" (defArgs s_is_broad_ball) (defBody s_is_broad_ball) (defScope s_is_broad_ball) .none kV19 dc19 pm19 an19 cd19 ct19), sl19⟩) (c19 : PySem.W.codeIn K cd19 "is_broad_ball" = true) (k19 : PySem.W.keepIn K (.ref f19) = true)
    {f20 : Addr} {od20 an20 : Option Addr} {sl20 : Array (Option Value)} {oc20 kV20 dc20 pm20 cd20 ct20 : Value}
    (a20 : PySem.W.nsIn K mainGlobals "widths_ahead" = some (some (.ref f20))) (l20 : K.lookup f20 = some ⟨oc20, od20, .func (PySem.W.fnOf "widths_ahead" "widths_ahead" (defArgs s_widths_ahead) (defBody s_widths_ahead) (defScope s_widths_ahead) .none kV20 dc20 pm20 an20 cd20 ct20), sl20⟩) (c20 : PySem.W.codeIn K cd20 "widths_ahead" = true) (k20 : PySem.W.keepIn K (.ref f20) = true)
    {f21 : Addr} {od21 an21 : Option Addr} {sl21 : Array (Option Value)} {oc21 kV21 dc21 pm21 cd21 ct21 : Value}
    (a21 : PySem.W.nsIn K mainGlobals "wall_moved" = some (some (.ref f21))) (l21 : K.lookup f21 = some ⟨oc21, od21, .func (PySem.W.fnOf "wall_moved" "wall_moved" (defArgs s_wall_moved) (defBody s_wall_moved) (defScope s_wall_moved) .none kV21 dc21 pm21 an21 cd21 ct21), sl21⟩) (c21 : PySem.W.codeIn K cd21 "wall_moved" = true) (k21 : PySem.W.keepIn K (.ref f21) = true)
    {f22 : Addr} {od22 an22 : Option Addr} {sl22 : Array (Option Value)} {oc22 kV22 dc22 pm22 cd22 ct22 : Value}
    (a22 : PySem.W.nsIn K mainGlobals "widths_of" = some (some (.ref f22))) (l22 : K.lookup f22 = some ⟨oc22, od22, .func (PySem.W.fnOf "widths_of" "widths_of" (defArgs s_widths_of) (defBody s_widths_of) (defScope s_widths_of) .none kV22 dc22 pm22 an22 cd22 ct22), sl22⟩) (c22 : PySem.W.codeIn K cd22 "widths_of" = true) (k22 : PySem.W.keepIn K (.ref f22) = true)
    {f23 : Addr} {od23 an23 : Option Addr} {sl23 : Array (Option Value)} {oc23 kV23 dc23 pm23 cd23 ct23 : Value}
    (a23 : PySem.W.nsIn K mainGlobals "is_broad" = some (some (.ref f23))) (l23 : K.lookup f23 = some ⟨oc23, od23, .func (PySem.W.fnOf "is_broad" "is_broad" (defArgs s_is_broad) (defBody s_is_broad) (defScope s_is_broad) .none kV23 dc23 pm23 an23 cd23 ct23), sl23⟩) (c23 : PySem.W.codeIn K cd23 "is_broad" = true) (k23 : PySem.W.keepIn K (.ref f23) = true)
    {f24 : Addr} {od24 an24 : Option Addr} {sl24 : Array (Option Value)} {oc24 kV24 dc24 pm24 cd24 ct24 : Value}
    (a24 : PySem.W.nsIn K mainGlobals "thinned" = some (some (.ref f24))) (l24 : K.lookup f24 = some ⟨oc24, od24, .func (PySem.W.fnOf "thinned" "thinned" (defArgs s_thinned) (defBody s_thinned) (defScope s_thinned) .none kV24 dc24 pm24 an24 cd24 ct24), sl24⟩) (c24 : PySem.W.codeIn K cd24 "thinned" = true) (k24 : PySem.W.keepIn K (.ref f24) = true)
    {f25 : Addr} {od25 an25 : Option Addr} {sl25 : Array (Option Value)} {oc25 kV25 dc25 pm25 cd25 ct25 : Value}
    (a25 : PySem.W.nsIn K mainGlobals "_law_cell" = some (some (.ref f25))) (l25 : K.lookup f25 = some ⟨oc25, od25, .func (PySem.W.fnOf "_law_cell" "_law_cell" (defArgs s_law_cell) (defBody s_law_cell) (defScope s_law_cell) .none kV25 dc25 pm25 an25 cd25 ct25), sl25⟩) (c25 : PySem.W.codeIn K cd25 "_law_cell" = true) (k25 : PySem.W.keepIn K (.ref f25) = true)
    {f26 : Addr} {od26 an26 : Option Addr} {sl26 : Array (Option Value)} {oc26 kV26 dc26 pm26 cd26 ct26 : Value}
    (a26 : PySem.W.nsIn K mainGlobals "_law_left" = some (some (.ref f26))) (l26 : K.lookup f26 = some ⟨oc26, od26, .func (PySem.W.fnOf "_law_left" "_law_left" (defArgs s_law_left) (defBody s_law_left) (defScope s_law_left) .none kV26 dc26 pm26 an26 cd26 ct26), sl26⟩) (c26 : PySem.W.codeIn K cd26 "_law_left" = true) (k26 : PySem.W.keepIn K (.ref f26) = true)
    {f27 : Addr} {od27 an27 : Option Addr} {sl27 : Array (Option Value)} {oc27 kV27 dc27 pm27 cd27 ct27 : Value}
    (a27 : PySem.W.nsIn K mainGlobals "_law_next" = some (some (.ref f27))) (l27 : K.lookup f27 = some ⟨oc27, od27, .func (PySem.W.fnOf "_law_next" "_law_next" (defArgs s_law_next) (defBody s_law_next) (defScope s_law_next) .none kV27 dc27 pm27 an27 cd27 ct27), sl27⟩) (c27 : PySem.W.codeIn K cd27 "_law_next" = true) (k27 : PySem.W.keepIn K (.ref f27) = true)
    {f28 : Addr} {od28 an28 : Option Addr} {sl28 : Array (Option Value)} {oc28 kV28 dc28 pm28 cd28 ct28 : Value}
    (a28 : PySem.W.nsIn K mainGlobals "_law_wide" = some (some (.ref f28))) (l28 : K.lookup f28 = some ⟨oc28, od28, .func (PySem.W.fnOf "_law_wide" "_law_wide" (defArgs s_law_wide) (defBody s_law_wide) (defScope s_law_wide) .none kV28 dc28 pm28 an28 cd28 ct28), sl28⟩) (c28 : PySem.W.codeIn K cd28 "_law_wide" = true) (k28 : PySem.W.keepIn K (.ref f28) = true)
    {f29 : Addr} {od29 an29 : Option Addr} {sl29 : Array (Option Value)} {oc29 kV29 dc29 pm29 cd29 ct29 : Value}
    (a29 : PySem.W.nsIn K mainGlobals "_law_low" = some (some (.ref f29))) (l29 : K.lookup f29 = some ⟨oc29, od29, .func (PySem.W.fnOf "_law_low" "_law_low" (defArgs s_law_low) (defBody s_law_low) (defScope s_law_low) .none kV29 dc29 pm29 an29 cd29 ct29), sl29⟩) (c29 : PySem.W.codeIn K cd29 "_law_low" = true) (k29 : PySem.W.keepIn K (.ref f29) = true)
    {f30 : Addr} {od30 an30 : Option Addr} {sl30 : Array (Option Value)} {oc30 kV30 dc30 pm30 cd30 ct30 : Value}
    (a30 : PySem.W.nsIn K mainGlobals "_law_add" = some (some (.ref f30))) (l30 : K.lookup f30 = some ⟨oc30, od30, .func (PySem.W.fnOf "_law_add" "_law_add" (defArgs s_law_add) (defBody s_law_add) (defScope s_law_add) .none kV30 dc30 pm30 an30 cd30 ct30), sl30⟩) (c30 : PySem.W.codeIn K cd30 "_law_add" = true) (k30 : PySem.W.keepIn K (.ref f30) = true)
    {f31 : Addr} {od31 an31 : Option Addr} {sl31 : Array (Option Value)} {oc31 kV31 dc31 pm31 cd31 ct31 : Value}
    (a31 : PySem.W.nsIn K mainGlobals "_law_off" = some (some (.ref f31))) (l31 : K.lookup f31 = some ⟨oc31, od31, .func (PySem.W.fnOf "_law_off" "_law_off" (defArgs s_law_off) (defBody s_law_off) (defScope s_law_off) .none kV31 dc31 pm31 an31 cd31 ct31), sl31⟩) (c31 : PySem.W.codeIn K cd31 "_law_off" = true) (k31 : PySem.W.keepIn K (.ref f31) = true)
    {f32 : Addr} {od32 an32 : Option Addr} {sl32 : Array (Option Value)} {oc32 kV32 dc32 pm32 cd32 ct32 : Value}
    (a32 : PySem.W.nsIn K mainGlobals "_law_by" = some (some (.ref f32))) (l32 : K.lookup f32 = some ⟨oc32, od32, .func (PySem.W.fnOf "_law_by" "_law_by" (defArgs s_law_by) (defBody s_law_by) (defScope s_law_by) .none kV32 dc32 pm32 an32 cd32 ct32), sl32⟩) (c32 : PySem.W.codeIn K cd32 "_law_by" = true) (k32 : PySem.W.keepIn K (.ref f32) = true)
    {f33 : Addr} {od33 an33 : Option Addr} {sl33 : Array (Option Value)} {oc33 kV33 dc33 pm33 cd33 ct33 : Value}
    (a33 : PySem.W.nsIn K mainGlobals "_law_below" = some (some (.ref f33))) (l33 : K.lookup f33 = some ⟨oc33, od33, .func (PySem.W.fnOf "_law_below" "_law_below" (defArgs s_law_below) (defBody s_law_below) (defScope s_law_below) .none kV33 dc33 pm33 an33 cd33 ct33), sl33⟩) (c33 : PySem.W.codeIn K cd33 "_law_below" = true) (k33 : PySem.W.keepIn K (.ref f33) = true)
    {f34 : Addr} {od34 an34 : Option Addr} {sl34 : Array (Option Value)} {oc34 kV34 dc34 pm34 cd34 ct34 : Value}
    (a34 : PySem.W.nsIn K mainGlobals "_law_ratio" = some (some (.ref f34))) (l34 : K.lookup f34 = some ⟨oc34, od34, .func (PySem.W.fnOf "_law_ratio" "_law_ratio" (defArgs s_law_ratio) (defBody s_law_ratio) (defScope s_law_ratio) .none kV34 dc34 pm34 an34 cd34 ct34), sl34⟩) (c34 : PySem.W.codeIn K cd34 "_law_ratio" = true) (k34 : PySem.W.keepIn K (.ref f34) = true)
    {f35 : Addr} {od35 an35 : Option Addr} {sl35 : Array (Option Value)} {oc35 kV35 dc35 pm35 cd35 ct35 : Value}
    (a35 : PySem.W.nsIn K mainGlobals "_law_speed" = some (some (.ref f35))) (l35 : K.lookup f35 = some ⟨oc35, od35, .func (PySem.W.fnOf "_law_speed" "_law_speed" (defArgs s_law_speed) (defBody s_law_speed) (defScope s_law_speed) .none kV35 dc35 pm35 an35 cd35 ct35), sl35⟩) (c35 : PySem.W.codeIn K cd35 "_law_speed" = true) (k35 : PySem.W.keepIn K (.ref f35) = true)
    {f36 : Addr} {od36 an36 : Option Addr} {sl36 : Array (Option Value)} {oc36 kV36 dc36 pm36 cd36 ct36 : Value}
    (a36 : PySem.W.nsIn K mainGlobals "_law_gap" = some (some (.ref f36))) (l36 : K.lookup f36 = some ⟨oc36, od36, .func (PySem.W.fnOf "_law_gap" "_law_gap" (defArgs s_law_gap) (defBody s_law_gap) (defScope s_law_gap) .none kV36 dc36 pm36 an36 cd36 ct36), sl36⟩) (c36 : PySem.W.codeIn K cd36 "_law_gap" = true) (k36 : PySem.W.keepIn K (.ref f36) = true)
    {f37 : Addr} {od37 an37 : Option Addr} {sl37 : Array (Option Value)} {oc37 kV37 dc37 pm37 cd37 ct37 : Value}
    (a37 : PySem.W.nsIn K mainGlobals "_law_weights" = some (some (.ref f37))) (l37 : K.lookup f37 = some ⟨oc37, od37, .func (PySem.W.fnOf "_law_weights" "_law_weights" (defArgs s_law_weights) (defBody s_law_weights) (defScope s_law_weights) .none kV37 dc37 pm37 an37 cd37 ct37), sl37⟩) (c37 : PySem.W.codeIn K cd37 "_law_weights" = true) (k37 : PySem.W.keepIn K (.ref f37) = true)
    {f38 : Addr} {od38 an38 : Option Addr} {sl38 : Array (Option Value)} {oc38 kV38 dc38 pm38 cd38 ct38 : Value}
    (a38 : PySem.W.nsIn K mainGlobals "_law_row" = some (some (.ref f38))) (l38 : K.lookup f38 = some ⟨oc38, od38, .func (PySem.W.fnOf "_law_row" "_law_row" (defArgs s_law_row) (defBody s_law_row) (defScope s_law_row) .none kV38 dc38 pm38 an38 cd38 ct38), sl38⟩) (c38 : PySem.W.codeIn K cd38 "_law_row" = true) (k38 : PySem.W.keepIn K (.ref f38) = true)
    {f39 : Addr} {od39 an39 : Option Addr} {sl39 : Array (Option Value)} {oc39 kV39 dc39 pm39 cd39 ct39 : Value}
    (a39 : PySem.W.nsIn K mainGlobals "_law_bound" = some (some (.ref f39))) (l39 : K.lookup f39 = some ⟨oc39, od39, .func (PySem.W.fnOf "_law_bound" "_law_bound" (defArgs s_law_bound) (defBody s_law_bound) (defScope s_law_bound) .none kV39 dc39 pm39 an39 cd39 ct39), sl39⟩) (c39 : PySem.W.codeIn K cd39 "_law_bound" = true) (k39 : PySem.W.keepIn K (.ref f39) = true)
    {f40 : Addr} {od40 an40 : Option Addr} {sl40 : Array (Option Value)} {oc40 kV40 dc40 pm40 cd40 ct40 : Value}
    (a40 : PySem.W.nsIn K mainGlobals "_law_box" = some (some (.ref f40))) (l40 : K.lookup f40 = some ⟨oc40, od40, .func (PySem.W.fnOf "_law_box" "_law_box" (defArgs s_law_box) (defBody s_law_box) (defScope s_law_box) .none kV40 dc40 pm40 an40 cd40 ct40), sl40⟩) (c40 : PySem.W.codeIn K cd40 "_law_box" = true) (k40 : PySem.W.keepIn K (.ref f40) = true)
    {f41 : Addr} {od41 an41 : Option Addr} {sl41 : Array (Option Value)} {oc41 kV41 dc41 pm41 cd41 ct41 : Value}
    (a41 : PySem.W.nsIn K mainGlobals "_law_bundle" = some (some (.ref f41))) (l41 : K.lookup f41 = some ⟨oc41, od41, .func (PySem.W.fnOf "_law_bundle" "_law_bundle" (defArgs s_law_bundle) (defBody s_law_bundle) (defScope s_law_bundle) .none kV41 dc41 pm41 an41 cd41 ct41), sl41⟩) (c41 : PySem.W.codeIn K cd41 "_law_bundle" = true) (k41 : PySem.W.keepIn K (.ref f41) = true)
    {f42 : Addr} {od42 an42 : Option Addr} {sl42 : Array (Option Value)} {oc42 kV42 dc42 pm42 cd42 ct42 : Value}
    (a42 : PySem.W.nsIn K mainGlobals "_law_focused" = some (some (.ref f42))) (l42 : K.lookup f42 = some ⟨oc42, od42, .func (PySem.W.fnOf "_law_focused" "_law_focused" (defArgs s_law_focused) (defBody s_law_focused) (defScope s_law_focused) .none kV42 dc42 pm42 an42 cd42 ct42), sl42⟩) (c42 : PySem.W.codeIn K cd42 "_law_focused" = true) (k42 : PySem.W.keepIn K (.ref f42) = true)
    {f43 : Addr} {od43 an43 : Option Addr} {sl43 : Array (Option Value)} {oc43 kV43 dc43 pm43 cd43 ct43 : Value}
    (a43 : PySem.W.nsIn K mainGlobals "_law_start" = some (some (.ref f43))) (l43 : K.lookup f43 = some ⟨oc43, od43, .func (PySem.W.fnOf "_law_start" "_law_start" (defArgs s_law_start) (defBody s_law_start) (defScope s_law_start) .none kV43 dc43 pm43 an43 cd43 ct43), sl43⟩) (c43 : PySem.W.codeIn K cd43 "_law_start" = true) (k43 : PySem.W.keepIn K (.ref f43) = true)
    {f44 : Addr} {od44 an44 : Option Addr} {sl44 : Array (Option Value)} {oc44 kV44 dc44 pm44 cd44 ct44 : Value}
    (a44 : PySem.W.nsIn K mainGlobals "_law_thin" = some (some (.ref f44))) (l44 : K.lookup f44 = some ⟨oc44, od44, .func (PySem.W.fnOf "_law_thin" "_law_thin" (defArgs s_law_thin) (defBody s_law_thin) (defScope s_law_thin) .none kV44 dc44 pm44 an44 cd44 ct44), sl44⟩) (c44 : PySem.W.codeIn K cd44 "_law_thin" = true) (k44 : PySem.W.keepIn K (.ref f44) = true)
    {f45 : Addr} {od45 an45 : Option Addr} {sl45 : Array (Option Value)} {oc45 kV45 dc45 pm45 cd45 ct45 : Value}
    (a45 : PySem.W.nsIn K mainGlobals "_law_thick" = some (some (.ref f45))) (l45 : K.lookup f45 = some ⟨oc45, od45, .func (PySem.W.fnOf "_law_thick" "_law_thick" (defArgs s_law_thick) (defBody s_law_thick) (defScope s_law_thick) .none kV45 dc45 pm45 an45 cd45 ct45), sl45⟩) (c45 : PySem.W.codeIn K cd45 "_law_thick" = true) (k45 : PySem.W.keepIn K (.ref f45) = true)
    {f46 : Addr} {od46 an46 : Option Addr} {sl46 : Array (Option Value)} {oc46 kV46 dc46 pm46 cd46 ct46 : Value}
    (a46 : PySem.W.nsIn K mainGlobals "_law_widths" = some (some (.ref f46))) (l46 : K.lookup f46 = some ⟨oc46, od46, .func (PySem.W.fnOf "_law_widths" "_law_widths" (defArgs s_law_widths) (defBody s_law_widths) (defScope s_law_widths) .none kV46 dc46 pm46 an46 cd46 ct46), sl46⟩) (c46 : PySem.W.codeIn K cd46 "_law_widths" = true) (k46 : PySem.W.keepIn K (.ref f46) = true)
    {f47 : Addr} {od47 an47 : Option Addr} {sl47 : Array (Option Value)} {oc47 kV47 dc47 pm47 cd47 ct47 : Value}
    (a47 : PySem.W.nsIn K mainGlobals "_law_is" = some (some (.ref f47))) (l47 : K.lookup f47 = some ⟨oc47, od47, .func (PySem.W.fnOf "_law_is" "_law_is" (defArgs s_law_is) (defBody s_law_is) (defScope s_law_is) .none kV47 dc47 pm47 an47 cd47 ct47), sl47⟩) (c47 : PySem.W.codeIn K cd47 "_law_is" = true) (k47 : PySem.W.keepIn K (.ref f47) = true)
    {f48 : Addr} {od48 an48 : Option Addr} {sl48 : Array (Option Value)} {oc48 kV48 dc48 pm48 cd48 ct48 : Value}
    (a48 : PySem.W.nsIn K mainGlobals "_law_pushed" = some (some (.ref f48))) (l48 : K.lookup f48 = some ⟨oc48, od48, .func (PySem.W.fnOf "_law_pushed" "_law_pushed" (defArgs s_law_pushed) (defBody s_law_pushed) (defScope s_law_pushed) .none kV48 dc48 pm48 an48 cd48 ct48), sl48⟩) (c48 : PySem.W.codeIn K cd48 "_law_pushed" = true) (k48 : PySem.W.keepIn K (.ref f48) = true)
    {f49 : Addr} {od49 an49 : Option Addr} {sl49 : Array (Option Value)} {oc49 kV49 dc49 pm49 cd49 ct49 : Value}
    (a49 : PySem.W.nsIn K mainGlobals "_law_odd" = some (some (.ref f49))) (l49 : K.lookup f49 = some ⟨oc49, od49, .func (PySem.W.fnOf "_law_odd" "_law_odd" (defArgs s_law_odd) (defBody s_law_odd) (defScope s_law_odd) .none kV49 dc49 pm49 an49 cd49 ct49), sl49⟩) (c49 : PySem.W.codeIn K cd49 "_law_odd" = true) (k49 : PySem.W.keepIn K (.ref f49) = true)
    {f50 : Addr} {od50 an50 : Option Addr} {sl50 : Array (Option Value)} {oc50 kV50 dc50 pm50 cd50 ct50 : Value}
    (a50 : PySem.W.nsIn K mainGlobals "_law_nine" = some (some (.ref f50))) (l50 : K.lookup f50 = some ⟨oc50, od50, .func (PySem.W.fnOf "_law_nine" "_law_nine" (defArgs s_law_nine) (defBody s_law_nine) (defScope s_law_nine) .none kV50 dc50 pm50 an50 cd50 ct50), sl50⟩) (c50 : PySem.W.codeIn K cd50 "_law_nine" = true) (k50 : PySem.W.keepIn K (.ref f50) = true)
    {f51 : Addr} {od51 an51 : Option Addr} {sl51 : Array (Option Value)} {oc51 kV51 dc51 pm51 cd51 ct51 : Value}
    (a51 : PySem.W.nsIn K mainGlobals "law" = some (some (.ref f51))) (l51 : K.lookup f51 = some ⟨oc51, od51, .func (PySem.W.fnOf "law" "law" (defArgs s_law) (defBody s_law) (defScope s_law) .none kV51 dc51 pm51 an51 cd51 ct51), sl51⟩) (c51 : PySem.W.codeIn K cd51 "law" = true) (k51 : PySem.W.keepIn K (.ref f51) = true)
    (z_isinstance : PySem.W.nsIn K mainGlobals "isinstance" = some none)
    (z_int : PySem.W.nsIn K mainGlobals "int" = some none)
    (z_bool : PySem.W.nsIn K mainGlobals "bool" = some none)
    (z_abs : PySem.W.nsIn K mainGlobals "abs" = some none)
    (z_len : PySem.W.nsIn K mainGlobals "len" = some none)
    (z_max : PySem.W.nsIn K mainGlobals "max" = some none)
    (z_min : PySem.W.nsIn K mainGlobals "min" = some none)
    (z_range : PySem.W.nsIn K mainGlobals "range" = some none)
    (z_tuple : PySem.W.nsIn K mainGlobals "tuple" = some none)
    (z_sum : PySem.W.nsIn K mainGlobals "sum" = some none)
    (z_all : PySem.W.nsIn K mainGlobals "all" = some none)
    (z_zip : PySem.W.nsIn K mainGlobals "zip" = some none)
    (z_list : PySem.W.nsIn K mainGlobals "list" = some none)
    (z_enumerate : PySem.W.nsIn K mainGlobals "enumerate" = some none)
    {tk_MOST_BALLS : Tok} (v_MOST_BALLS : PySem.W.nsIn K mainGlobals "MOST_BALLS" = some (some (.int 8 tk_MOST_BALLS)))
    {tk_MOST_WEIGHT : Tok} (v_MOST_WEIGHT : PySem.W.nsIn K mainGlobals "MOST_WEIGHT" = some (some (.int 1000 tk_MOST_WEIGHT)))
    {a_NOUGHT : Addr} {t1_NOUGHT t2_NOUGHT : Tok} {n_NOUGHT : Nat} {od_NOUGHT : Option Addr} {sl_NOUGHT : Array (Option Value)} (v_NOUGHT : PySem.W.nsIn K mainGlobals "NOUGHT" = some (some (.ref a_NOUGHT))) (l_NOUGHT : K.lookup a_NOUGHT = some ⟨.type "tuple", od_NOUGHT, .seq #[.int 0 t1_NOUGHT, .int 1 t2_NOUGHT] n_NOUGHT, sl_NOUGHT⟩) :
    ∃ fd : FuncData, (∀ (s : Shared) (v : Value), BindsTo s fd ⟨[v], []⟩ [("script", v)]) ∧ ∀ base : Heap, K.In base → base.Ns mainGlobals mg → FnOk l.prog w K mg base CX0 8 fa fd ["script"] (spLaw K) := by
  have e := hfa.symm.trans (PySem.W.mg_of X G a51)
  cases e
  have d_is_whole : Df K mg "is_whole" s_is_whole ["thing"] [] := df_mk l0 c0 k0 (PySem.W.mg_of X G a0) fun us hl => match us, hl with | [_], _ => rfl
  have d_is_tuple : Df K mg "is_tuple" s_is_tuple ["thing", "many"] [] := df_mk l1 c1 k1 (PySem.W.mg_of X G a1) fun us hl => match us, hl with | [_, _], _ => rfl
  have d_greatest_divisor : Df K mg "greatest_divisor" s_greatest_divisor ["one", "other"] [] := df_mk l2 c2 k2 (PySem.W.mg_of X G a2) fun us hl => match us, hl with | [_, _], _ => rfl
  have d_is_ratio : Df K mg "is_ratio" s_is_ratio ["thing"] [] := df_mk l3 c3 k3 (PySem.W.mg_of X G a3) fun us hl => match us, hl with | [_], _ => rfl
  have d_ratio : Df K mg "ratio" s_ratio ["top", "bottom"] [] := ⟨⟨f4, _, _, _, _, _, _, _, _, _, _, [], l4, c4, k4, PySem.W.mg_of X G a4, .nil, fun s us KX hl => match us, hl with | [_, _], _ => .of_defaults rfl (KX _ _ ld4) rfl rfl rfl⟩⟩
  have dd_ratio : Df K mg "ratio" s_ratio ["top", "bottom"] [.int 1] := ⟨⟨f4, _, _, _, _, _, _, _, _, _, _, [.int 1 tkd4], l4, c4, k4, PySem.W.mg_of X G a4, .cons ⟨_, rfl⟩ .nil, fun s us KX hl => have hl2 : us.length = 1 := (by simpa using hl); match us, hl2 with | [_], _ => .of_defaults rfl (KX _ _ ld4) rfl rfl rfl⟩⟩
  have d_plus : Df K mg "plus" s_plus ["one", "other"] [] := df_mk l5 c5 k5 (PySem.W.mg_of X G a5) fun us hl => match us, hl with | [_, _], _ => rfl
  have d_minus : Df K mg "minus" s_minus ["one", "other"] [] := df_mk l6 c6 k6 (PySem.W.mg_of X G a6) fun us hl => match us, hl with | [_, _], _ => rfl
  have d_less : Df K mg "less" s_less ["one", "other"] [] := df_mk l7 c7 k7 (PySem.W.mg_of X G a7) fun us hl => match us, hl with | [_, _], _ => rfl
  have d_is_wall : Df K mg "is_wall" s_is_wall ["thing"] [] := df_mk l8 c8 k8 (PySem.W.mg_of X G a8) fun us hl => match us, hl with | [_], _ => rfl
  have d_is_wall_pair : Df K mg "is_wall_pair" s_is_wall_pair ["thing"] [] := df_mk l9 c9 k9 (PySem.W.mg_of X G a9) fun us hl => match us, hl with | [_], _ => rfl
  have d_walls_good : Df K mg "walls_good" s_walls_good ["thing"] [] := df_mk l10 c10 k10 (PySem.W.mg_of X G a10) fun us hl => match us, hl with | [_], _ => rfl
  have d_is_ball_form : Df K mg "is_ball_form" s_is_ball_form ["thing"] [] := df_mk l11 c11 k11 (PySem.W.mg_of X G a11) fun us hl => match us, hl with | [_], _ => rfl
  have d_is_weight : Df K mg "is_weight" s_is_weight ["thing"] [] := df_mk l12 c12 k12 (PySem.W.mg_of X G a12) fun us hl => match us, hl with | [_], _ => rfl
  have d_is_ball : Df K mg "is_ball" s_is_ball ["thing"] [] := df_mk l13 c13 k13 (PySem.W.mg_of X G a13) fun us hl => match us, hl with | [_], _ => rfl
  have d_follows : Df K mg "follows" s_follows ["left", "right"] [] := df_mk l14 c14 k14 (PySem.W.mg_of X G a14) fun us hl => match us, hl with | [_, _], _ => rfl
  have d_is_ordered : Df K mg "is_ordered" s_is_ordered ["row"] [] := df_mk l15 c15 k15 (PySem.W.mg_of X G a15) fun us hl => match us, hl with | [_], _ => rfl
  have d_keeps_side : Df K mg "keeps_side" s_keeps_side ["left", "right"] [] := df_mk l16 c16 k16 (PySem.W.mg_of X G a16) fun us hl => match us, hl with | [_, _], _ => rfl
  have d_is_between : Df K mg "is_between" s_is_between ["walls", "row"] [] := df_mk l17 c17 k17 (PySem.W.mg_of X G a17) fun us hl => match us, hl with | [_, _], _ => rfl
  have d_is_row : Df K mg "is_row" s_is_row ["walls", "thing"] [] := df_mk l18 c18 k18 (PySem.W.mg_of X G a18) fun us hl => match us, hl with | [_, _], _ => rfl
  have d_is_broad_ball : Df K mg "is_broad_ball" s_is_broad_ball ["thing"] [] := df_mk l19 c19 k19 (PySem.W.mg_of X G a19) fun us hl => match us, hl with | [_], _ => rfl
  have d_widths_ahead : Df K mg "widths_ahead" s_widths_ahead ["widths"] [] := df_mk l20 c20 k20 (PySem.W.mg_of X G a20) fun us hl => match us, hl with | [_], _ => rfl
  have d_wall_moved : Df K mg "wall_moved" s_wall_moved ["wall", "way"] [] := df_mk l21 c21 k21 (PySem.W.mg_of X G a21) fun us hl => match us, hl with | [_, _], _ => rfl
  have d_widths_of : Df K mg "widths_of" s_widths_of ["broad"] [] := df_mk l22 c22 k22 (PySem.W.mg_of X G a22) fun us hl => match us, hl with | [_], _ => rfl
  have d_is_broad : Df K mg "is_broad" s_is_broad ["walls", "thing"] [] := df_mk l23 c23 k23 (PySem.W.mg_of X G a23) fun us hl => match us, hl with | [_, _], _ => rfl
  have d_thinned : Df K mg "thinned" s_thinned ["broad", "walls"] [] := df_mk l24 c24 k24 (PySem.W.mg_of X G a24) fun us hl => match us, hl with | [_, _], _ => rfl
  have d_law_cell : Df K mg "_law_cell" s_law_cell ["script", "k"] [] := df_mk l25 c25 k25 (PySem.W.mg_of X G a25) fun us hl => match us, hl with | [_, _], _ => rfl
  have d_law_left : Df K mg "_law_left" s_law_left ["cell"] [] := df_mk l26 c26 k26 (PySem.W.mg_of X G a26) fun us hl => match us, hl with | [_], _ => rfl
  have d_law_next : Df K mg "_law_next" s_law_next ["pool", "base"] [] := df_mk l27 c27 k27 (PySem.W.mg_of X G a27) fun us hl => match us, hl with | [_, _], _ => rfl
  have d_law_wide : Df K mg "_law_wide" s_law_wide ["pool", "base"] [] := df_mk l28 c28 k28 (PySem.W.mg_of X G a28) fun us hl => match us, hl with | [_, _], _ => rfl
  have d_law_low : Df K mg "_law_low" s_law_low ["top", "bottom"] [] := df_mk l29 c29 k29 (PySem.W.mg_of X G a29) fun us hl => match us, hl with | [_, _], _ => rfl
  have d_law_add : Df K mg "_law_add" s_law_add ["a", "b"] [] := df_mk l30 c30 k30 (PySem.W.mg_of X G a30) fun us hl => match us, hl with | [_, _], _ => rfl
  have d_law_off : Df K mg "_law_off" s_law_off ["a", "b"] [] := df_mk l31 c31 k31 (PySem.W.mg_of X G a31) fun us hl => match us, hl with | [_, _], _ => rfl
  have d_law_by : Df K mg "_law_by" s_law_by ["a", "b"] [] := df_mk l32 c32 k32 (PySem.W.mg_of X G a32) fun us hl => match us, hl with | [_, _], _ => rfl
  have d_law_below : Df K mg "_law_below" s_law_below ["a", "b"] [] := df_mk l33 c33 k33 (PySem.W.mg_of X G a33) fun us hl => match us, hl with | [_, _], _ => rfl
  have d_law_ratio : Df K mg "_law_ratio" s_law_ratio ["pool", "size"] [] := df_mk l34 c34 k34 (PySem.W.mg_of X G a34) fun us hl => match us, hl with | [_, _], _ => rfl
  have d_law_speed : Df K mg "_law_speed" s_law_speed ["pool"] [] := df_mk l35 c35 k35 (PySem.W.mg_of X G a35) fun us hl => match us, hl with | [_], _ => rfl
  have d_law_gap : Df K mg "_law_gap" s_law_gap ["pool"] [] := df_mk l36 c36 k36 (PySem.W.mg_of X G a36) fun us hl => match us, hl with | [_], _ => rfl
  have d_law_weights : Df K mg "_law_weights" s_law_weights ["pool", "many"] [] := df_mk l37 c37 k37 (PySem.W.mg_of X G a37) fun us hl => match us, hl with | [_, _], _ => rfl
  have d_law_row : Df K mg "_law_row" s_law_row ["pool", "most"] [] := df_mk l38 c38 k38 (PySem.W.mg_of X G a38) fun us hl => match us, hl with | [_, _], _ => rfl
  have d_law_bound : Df K mg "_law_bound" s_law_bound ["pool", "ball", "side"] [] := df_mk l39 c39 k39 (PySem.W.mg_of X G a39) fun us hl => match us, hl with | [_, _, _], _ => rfl
  have d_law_box : Df K mg "_law_box" s_law_box ["pool", "row"] [] := df_mk l40 c40 k40 (PySem.W.mg_of X G a40) fun us hl => match us, hl with | [_, _], _ => rfl
  have d_law_bundle : Df K mg "_law_bundle" s_law_bundle ["pool", "where", "place", "moment", "alike"] [] := df_mk l41 c41 k41 (PySem.W.mg_of X G a41) fun us hl => match us, hl with | [_, _, _, _, _], _ => rfl
  have d_law_focused : Df K mg "_law_focused" s_law_focused ["pool", "alike"] [] := df_mk l42 c42 k42 (PySem.W.mg_of X G a42) fun us hl => match us, hl with | [_, _], _ => rfl
  have d_law_start : Df K mg "_law_start" s_law_start ["pool"] [] := df_mk l43 c43 k43 (PySem.W.mg_of X G a43) fun us hl => match us, hl with | [_], _ => rfl
  have d_law_thin : Df K mg "_law_thin" s_law_thin ["broad", "walls"] [] := df_mk l44 c44 k44 (PySem.W.mg_of X G a44) fun us hl => match us, hl with | [_, _], _ => rfl
  have d_law_thick : Df K mg "_law_thick" s_law_thick ["row", "walls", "widths"] [] := df_mk l45 c45 k45 (PySem.W.mg_of X G a45) fun us hl => match us, hl with | [_, _, _], _ => rfl
  have d_law_widths : Df K mg "_law_widths" s_law_widths ["pool", "many"] [] := df_mk l46 c46 k46 (PySem.W.mg_of X G a46) fun us hl => match us, hl with | [_, _], _ => rfl
  have d_law_is : Df K mg "_law_is" s_law_is ["walls", "broad"] [] := df_mk l47 c47 k47 (PySem.W.mg_of X G a47) fun us hl => match us, hl with | [_, _], _ => rfl
  have d_law_pushed : Df K mg "_law_pushed" s_law_pushed ["pool", "broad", "walls"] [] := df_mk l48 c48 k48 (PySem.W.mg_of X G a48) fun us hl => match us, hl with | [_, _, _], _ => rfl
  have d_law_odd : Df K mg "_law_odd" s_law_odd ["pool", "broad"] [] := df_mk l49 c49 k49 (PySem.W.mg_of X G a49) fun us hl => match us, hl with | [_, _], _ => rfl
  have d_law_nine : Df K mg "_law_nine" s_law_nine ["broad"] [] := df_mk l50 c50 k50 (PySem.W.mg_of X G a50) fun us hl => match us, hl with | [_], _ => rfl
  have T : TxB K mg := ⟨kit_ii K, kit_ib K, PySem.W.mg_none_of X G z_isinstance, PySem.W.mg_none_of X G z_int, PySem.W.mg_none_of X G z_bool, PySem.W.mg_none_of X G z_abs, PySem.W.mg_none_of X G z_len, PySem.W.mg_none_of X G z_max, PySem.W.mg_none_of X G z_min, PySem.W.mg_none_of X G z_range, PySem.W.mg_none_of X G z_tuple, PySem.W.mg_none_of X G z_sum⟩
  have F := fun_mk (st := s_law) l51 c51 k51
  refine ⟨PySem.W.fnOf "law" "law" (defArgs s_law) (defBody s_law) (defScope s_law) .none kV51 dc51 pm51 an51 cd51 ct51, fun s v => .of_eq rfl, fun base hKb hGb => ?_⟩
  have TW : TxW K mg a_NOUGHT := ⟨PySem.W.mg_none_of X G z_enumerate, PySem.W.mg_none_of X G z_zip, PySem.W.mg_of X G v_NOUGHT, ⟨_, _, _, _, l_NOUGHT, rfl, rfl⟩⟩
  have T3 : KR.Tx3 K mg tk_MOST_BALLS tk_MOST_WEIGHT a_NOUGHT := ⟨PySem.W.mg_none_of X G z_all, PySem.W.mg_none_of X G z_zip, PySem.W.mg_none_of X G z_list, PySem.W.mg_of X G v_MOST_BALLS, PySem.W.mg_of X G v_MOST_WEIGHT, kit_tt K, kit_bb K⟩
  have cW := ok_whole (P := l.prog) (w := w) (base := base) d_is_whole T
  have cG := ok_gcd (P := l.prog) (w := w) (base := base) d_greatest_divisor
  have cR := ok_ratio d_ratio T cW cG
  have cP := ok_plusK d_plus cR
  have cM := ok_minusK d_minus cR
  have cWD := KR.ok_wholeD (P := l.prog) (w := w) (base := base) d_is_whole T
  have cTu := KR.ok_tuD (P := l.prog) (w := w) (base := base) d_is_tuple T
  have cIr := KR.ok_irD d_is_ratio T cTu cWD cG
  have cLt := KR.ok_lt (P := l.prog) (w := w) (base := base) d_less
  have cLs := ok_lessK (P := l.prog) (w := w) (base := base) d_less
  have cWa := KR.ok_waD d_is_wall cTu cIr
  have cWp := KR.ok_wpD d_is_wall_pair cTu cWa
  have cWg := KR.ok_wgD d_walls_good cWp cLt
  have cBf := KR.ok_bfD d_is_ball_form cTu cIr cWD
  have cIw := KR.ok_iwD d_is_weight T3 cWD
  have cBa := KR.ok_baD d_is_ball cBf cIw
  have cFw := KR.ok_fo d_follows cLt
  have cOr := KR.ok_od d_is_ordered T3 cFw
  have cKs := KR.ok_ks d_keeps_side cFw
  have cBe := KR.ok_be d_is_between cKs
  have cIs := KR.ok_isD d_is_row T T3 cWg cBa cOr cBe
  have cBB := ok_bb d_is_broad_ball TW cTu cBa cIr cLs
  have cWA := ok_wa d_widths_ahead TW cP
  have cWM := ok_wm d_wall_moved cP
  have cWO := ok_wo (P := l.prog) (w := w) (base := base) d_widths_of
  have cTh := ok_th d_thinned T TW cM cWA cWO cWM
  have cIB := ok_ib d_is_broad T T3 cWp cBB cTh cIs
  have cC := ok_cell (P := l.prog) (w := w) (base := base) d_law_cell T
  have cD := ok_dig (P := l.prog) (w := w) (base := base) d_law_left T
  have cN := ok_next (P := l.prog) (w := w) (base := base) d_law_next
  have cWi := ok_wi d_law_wide T cN
  have cL := ok_low (P := l.prog) (w := w) (base := base) d_law_low T
  have cA := ok_ladd d_law_add cL
  have cO := ok_loff d_law_off cL
  have cBy := ok_lby d_law_by cL
  have cBl := ok_lbel (P := l.prog) (w := w) (base := base) d_law_below
  have cRa := ok_ra d_law_ratio cN cWi cL
  have cSp := ok_sp d_law_speed cN cL
  have cGa := ok_ga d_law_gap cN cL
  have cWe := ok_we d_law_weights T cN
  have cRo := ok_ro d_law_row T cN cWe cRa cSp cGa cA cBl
  have cBo := ok_bo d_law_bound cN cSp cGa cA cBy cBl
  have cBx := ok_bx d_law_box cBo cA
  have cBu := ok_bu d_law_bundle T TW cN cSp cL cA cO cBy
  have cFo := ok_fo d_law_focused T cN cRa cL cBu
  have cSt := ok_st d_law_start T cN cFo cRo cBx
  have cWd := ok_wd d_law_widths T cN cL
  have cTk := ok_tk d_law_thick T TW cA
  have cTn := ok_tn d_law_thin T cA cO
  have cLI := ok_li d_law_is cTn cWg cIs
  have cOd := ok_odd d_law_odd T T3 cN
  have cNi := ok_ni d_law_nine T cA cBy
  have cPu := ok_pu d_law_pushed T cN cL cA
  exact ok_law F T T3 cC cD cSt cWd cTk cIB cOd cNi cPu cWg cLI
theorem walk {l : PySem.W.OpenLaw} {q : Program} {loose : List Str} {XP : (Str → Option Value) → Heap → Prop} {YP : World → Heap → Prop} {d : DefRec} {K : Params → PySem.W.Frag} (hn : l.most = some 63) (hdf : d.params.defaults = [])
    (hY : ∀ (w : World) (h : Heap), YP w h → (K w.params).In h)
    (F : ∀ (w : World) (mg : Str → Option Value) (fa : Addr) (h : Heap), (K w.params).In h → h.Ns mainGlobals mg → mg d.name = some (.ref fa) →
      ∃ fd : FuncData, (∀ (s : Shared) (u : Value), BindsTo s fd ⟨[u], []⟩ [("script", u)]) ∧ ∀ base : Heap, (K w.params).In base → base.Ns mainGlobals mg → FnOk l.prog w (K w.params) mg base CX0 8 fa fd ["script"] (spLaw (K w.params))) :
    PySem.W.WalkO q loose XP YP l.row.toRowW d [] (fun f vs => PySem.call f vs) :=
  L2.walk_of (n := 63) (k := 8) (x := "script") (CX := fun _ => CX0) (sp := fun w => spLaw (K w.params)) hn (by decide) hdf ⟨rfl, by decide, by decide⟩ hY F (fun _ _ a ns hl _ hS => ⟨a, ns, rfl, hS, hl, fun _ => rfl⟩) fun _ _ _ _ _ z => z
end KK
open PySem PySem.W PyProof.Rows
set_option maxRecDepth 100000 in
set_option maxHeartbeats 0 in
theorem PySem.Challenge.cw_clackrow_k64_broad_rows_known_holds : PySem.Challenge.rw_clackrow_k64_broad_rows_known.Holds := by
  w_on; o_law; k_head; (case hw => w_witness2)
  k_fill
  refine KK.walk (l := PySem.Challenge.rw_clackrow_k64_broad_rows_known) rfl rfl (fun w h Y => PySem.W.kIn_of Y) ?F
  case F =>
    intro w mg fa h KX G hmg
    refine' KK.all_mk KX G hmg ?a0 ?l0 ?c0 ?k0 ?a1 ?l1 ?c1 ?k1 ?a2 ?l2 ?c2 ?k2 ?a3 ?l3 ?c3 ?k3 ?a4 ?l4 ?c4 ?k4 ?ld4 ?a5 ?l5 ?c5 ?k5 ?a6 ?l6 ?c6 ?k6 ?a7 ?l7 ?c7 ?k7 ?a8 ?l8 ?c8 ?k8 ?a9 ?l9 ?c9 ?k9 ?a10 ?l10 ?c10 ?k10 ?a11 ?l11 ?c11 ?k11 ?a12 ?l12 ?c12 ?k12 ?a13 ?l13 ?c13 ?k13 ?a14 ?l14 ?c14 ?k14 ?a15 ?l15 ?c15 ?k15 ?a16 ?l16 ?c16 ?k16 ?a17 ?l17 ?c17 ?k17 ?a18 ?l18 ?c18 ?k18 ?a19 ?l19 ?c19 ?k19 ?a20 ?l20 ?c20 ?k20 ?a21 ?l21 ?c21 ?k21 ?a22 ?l22 ?c22 ?k22 ?a23 ?l23 ?c23 ?k23 ?a24 ?l24 ?c24 ?k24 ?a25 ?l25 ?c25 ?k25 ?a26 ?l26 ?c26 ?k26 ?a27 ?l27 ?c27 ?k27 ?a28 ?l28 ?c28 ?k28 ?a29 ?l29 ?c29 ?k29 ?a30 ?l30 ?c30 ?k30 ?a31 ?l31 ?c31 ?k31 ?a32 ?l32 ?c32 ?k32 ?a33 ?l33 ?c33 ?k33 ?a34 ?l34 ?c34 ?k34 ?a35 ?l35 ?c35 ?k35 ?a36 ?l36 ?c36 ?k36 ?a37 ?l37 ?c37 ?k37 ?a38 ?l38 ?c38 ?k38 ?a39 ?l39 ?c39 ?k39 ?a40 ?l40 ?c40 ?k40 ?a41 ?l41 ?c41 ?k41 ?a42 ?l42 ?c42 ?k42 ?a43 ?l43 ?c43 ?k43 ?a44 ?l44 ?c44 ?k44 ?a45 ?l45 ?c45 ?k45 ?a46 ?l46 ?c46 ?k46 ?a47 ?l47 ?c47 ?k47 ?a48 ?l48 ?c48 ?k48 ?a49 ?l49 ?c49 ?k49 ?a50 ?l50 ?c50 ?k50 ?a51 ?l51 ?c51 ?k51 ?z_isinstance ?z_int ?z_bool ?z_abs ?z_len ?z_max ?z_min ?z_range ?z_tuple ?z_sum ?z_all ?z_zip ?z_list ?z_enumerate ?v_MOST_BALLS ?v_MOST_WEIGHT ?v_NOUGHT ?l_NOUGHT
    (case a0 => k_is)
    (case l0 => k_is)
    (case c0 => k_is)
    (case k0 => k_is)
    (case a1 => k_is)
    (case l1 => k_is)
    (case c1 => k_is)
    (case k1 => k_is)
    (case a2 => k_is)
    (case l2 => k_is)
    (case c2 => k_is)
    (case k2 => k_is)
    (case a3 => k_is)
    (case l3 => k_is)
    (case c3 => k_is)
    (case k3 => k_is)
    (case a4 => k_is)
    (case l4 => k_is)
    (case c4 => k_is)
    (case k4 => k_is)
    (case ld4 => k_is)
    (case a5 => k_is)
    (case l5 => k_is)
    (case c5 => k_is)
    (case k5 => k_is)
    (case a6 => k_is)
    (case l6 => k_is)
    (case c6 => k_is)
    (case k6 => k_is)
    (case a7 => k_is)
    (case l7 => k_is)
    (case c7 => k_is)
    (case k7 => k_is)
    (case a8 => k_is)
    (case l8 => k_is)
    (case c8 => k_is)
    (case k8 => k_is)
    (case a9 => k_is)
    (case l9 => k_is)
    (case c9 => k_is)
    (case k9 => k_is)
    (case a10 => k_is)
    (case l10 => k_is)
    (case c10 => k_is)
    (case k10 => k_is)
    (case a11 => k_is)
    (case l11 => k_is)
    (case c11 => k_is)
    (case k11 => k_is)
    (case a12 => k_is)
    (case l12 => k_is)
    (case c12 => k_is)
    (case k12 => k_is)
    (case a13 => k_is)
    (case l13 => k_is)
    (case c13 => k_is)
    (case k13 => k_is)
    (case a14 => k_is)
    (case l14 => k_is)
    (case c14 => k_is)
    (case k14 => k_is)
    (case a15 => k_is)
    (case l15 => k_is)
    (case c15 => k_is)
    (case k15 => k_is)
    (case a16 => k_is)
    (case l16 => k_is)
    (case c16 => k_is)
    (case k16 => k_is)
    (case a17 => k_is)
    (case l17 => k_is)
    (case c17 => k_is)
    (case k17 => k_is)
    (case a18 => k_is)
    (case l18 => k_is)
    (case c18 => k_is)
    (case k18 => k_is)
    (case a19 => k_is)
    (case l19 => k_is)
    (case c19 => k_is)
    (case k19 => k_is)
    (case a20 => k_is)
    (case l20 => k_is)
    (case c20 => k_is)
    (case k20 => k_is)
    (case a21 => k_is)
    (case l21 => k_is)
    (case c21 => k_is)
    (case k21 => k_is)
    (case a22 => k_is)
    (case l22 => k_is)
    (case c22 => k_is)
    (case k22 => k_is)
    (case a23 => k_is)
    (case l23 => k_is)
    (case c23 => k_is)
    (case k23 => k_is)
    (case a24 => k_is)
    (case l24 => k_is)
    (case c24 => k_is)
    (case k24 => k_is)
    (case a25 => k_is)
    (case l25 => k_is)
    (case c25 => k_is)
    (case k25 => k_is)
    (case a26 => k_is)
    (case l26 => k_is)
    (case c26 => k_is)
    (case k26 => k_is)
    (case a27 => k_is)
    (case l27 => k_is)
    (case c27 => k_is)
    (case k27 => k_is)
    (case a28 => k_is)
    (case l28 => k_is)
    (case c28 => k_is)
    (case k28 => k_is)
    (case a29 => k_is)
    (case l29 => k_is)
    (case c29 => k_is)
    (case k29 => k_is)
    (case a30 => k_is)
    (case l30 => k_is)
    (case c30 => k_is)
    (case k30 => k_is)
    (case a31 => k_is)
    (case l31 => k_is)
    (case c31 => k_is)
    (case k31 => k_is)
    (case a32 => k_is)
    (case l32 => k_is)
    (case c32 => k_is)
    (case k32 => k_is)
    (case a33 => k_is)
    (case l33 => k_is)
    (case c33 => k_is)
    (case k33 => k_is)
    (case a34 => k_is)
    (case l34 => k_is)
    (case c34 => k_is)
    (case k34 => k_is)
    (case a35 => k_is)
    (case l35 => k_is)
    (case c35 => k_is)
    (case k35 => k_is)
    (case a36 => k_is)
    (case l36 => k_is)
    (case c36 => k_is)
    (case k36 => k_is)
    (case a37 => k_is)
    (case l37 => k_is)
    (case c37 => k_is)
    (case k37 => k_is)
    (case a38 => k_is)
    (case l38 => k_is)
    (case c38 => k_is)
    (case k38 => k_is)
    (case a39 => k_is)
    (case l39 => k_is)
    (case c39 => k_is)
    (case k39 => k_is)
    (case a40 => k_is)
    (case l40 => k_is)
    (case c40 => k_is)
    (case k40 => k_is)
    (case a41 => k_is)
    (case l41 => k_is)
    (case c41 => k_is)
    (case k41 => k_is)
    (case a42 => k_is)
    (case l42 => k_is)
    (case c42 => k_is)
    (case k42 => k_is)
    (case a43 => k_is)
    (case l43 => k_is)
    (case c43 => k_is)
    (case k43 => k_is)
    (case a44 => k_is)
    (case l44 => k_is)
    (case c44 => k_is)
    (case k44 => k_is)
    (case a45 => k_is)
    (case l45 => k_is)
    (case c45 => k_is)
    (case k45 => k_is)
    (case a46 => k_is)
    (case l46 => k_is)
    (case c46 => k_is)
    (case k46 => k_is)
    (case a47 => k_is)
    (case l47 => k_is)
    (case c47 => k_is)
    (case k47 => k_is)
    (case a48 => k_is)
    (case l48 => k_is)
    (case c48 => k_is)
    (case k48 => k_is)
    (case a49 => k_is)
    (case l49 => k_is)
    (case c49 => k_is)
    (case k49 => k_is)
    (case a50 => k_is)
    (case l50 => k_is)
    (case c50 => k_is)
    (case k50 => k_is)
    (case a51 => k_is)
    (case l51 => k_is)
    (case c51 => k_is)
    (case k51 => k_is)
    (case z_isinstance => k_is)
    (case z_int => k_is)
    (case z_bool => k_is)
    (case z_abs => k_is)
    (case z_len => k_is)
    (case z_max => k_is)
    (case z_min => k_is)
    (case z_range => k_is)
    (case z_tuple => k_is)
    (case z_sum => k_is)
    (case z_all => k_is)
    (case z_zip => k_is)
    (case z_list => k_is)
    (case z_enumerate => k_is)
    (case v_MOST_BALLS => k_is)
    (case v_MOST_WEIGHT => k_is)
    (case v_NOUGHT => k_is)
    (case l_NOUGHT => k_is)
end
