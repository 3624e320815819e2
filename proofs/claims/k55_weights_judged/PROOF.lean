import PyProof.Rows.All
import Wide.All
import OpenK.AllK
import Wide.FinOn
import Lean
import PyProof.EqAt
import PyProof.EqKinds
import PyProof.TupleCall
import PyProof.CompFree
import PyProof.Rows.SumAny
import PyProof.ZipIter
import PyProof.ConsumeWalk
import PySem.Challenge.RW_clackrow_k55_weights_judged
set_option Elab.async false
set_option linter.all false
set_option maxRecDepth 100000
namespace L2
open PySem PySem.Spec PyProof.Rows

abbrev Key := Sum Int Str
def keyIs : Key → Value → Bool
  | .inl k, v => Value.isInt k v
  | .inr x, v => Value.isStrOf x v
def keyH (w : World) : Key → Int
  | .inl k => hashInt k
  | .inr x => hashStr w x
theorem keyIs_shape : ∀ {k : Key} {v : Value}, keyIs k v = true → (∃ i t, k = Sum.inl i ∧ v = Value.int i t) ∨ (∃ x t, k = Sum.inr x ∧ v = Value.str x t)
  | .inl i, v, h => by
    obtain ⟨t, e⟩ := Value.isInt_shape (k := i) (v := v) h
    exact .inl ⟨i, t, rfl, e⟩
  | .inr x, v, h => by
    obtain ⟨t, e⟩ := Value.isStrOf_shape (x := x) (v := v) h
    exact .inr ⟨x, t, rfl, e⟩
theorem key_ll (a b : Int) : decide ((Sum.inl a : Key) = Sum.inl b) = (a == b) := by
  by_cases e : a = b
  · subst e; simp
  · have h : ¬ (Sum.inl a : Key) = Sum.inl b := fun q => e (Sum.inl.inj q)
    rw [decide_eq_false h]
    exact (beq_eq_false_iff_ne.mpr e).symm
theorem key_rr (a b : Str) : decide ((Sum.inr a : Key) = Sum.inr b) = decide (a = b) := by
  by_cases e : a = b
  · subst e; simp
  · have h : ¬ (Sum.inr a : Key) = Sum.inr b := fun q => e (Sum.inr.inj q)
    rw [decide_eq_false h, decide_eq_false e]
theorem key_lr (a : Int) (b : Str) : decide ((Sum.inl a : Key) = Sum.inr b) = false := decide_eq_false (fun q => nomatch q)
theorem key_rl (a : Str) (b : Int) : decide ((Sum.inr a : Key) = Sum.inl b) = false := decide_eq_false (fun q => nomatch q)

def mixKind (prog : Program) (w : World) : PySem.KeyKind prog w Key where
  is := keyIs
  hash := keyH w
  inj := fun v a b ha hb => by
    rcases keyIs_shape ha with ⟨i, t, rfl, rfl⟩ | ⟨x, t, rfl, rfl⟩
    · rcases keyIs_shape hb with ⟨j, u, rfl, e⟩ | ⟨y, u, rfl, e⟩
      · injection e with e1 _; rw [e1]
      · exact nomatch e
    · rcases keyIs_shape hb with ⟨j, u, rfl, e⟩ | ⟨y, u, rfl, e⟩
      · exact nomatch e
      · injection e with e1 _; rw [e1]
  byValue := fun k v h => by
    rcases keyIs_shape h with ⟨i, t, rfl, rfl⟩ | ⟨x, t, rfl, rfl⟩ <;> rfl
  pyHash := fun hv h => by
    rcases keyIs_shape hv with ⟨i, t, rfl, rfl⟩ | ⟨x, t, rfl, rfl⟩
    · exact wpAny_pyHash_int h
    · exact wpAny_pyHash_str h
  eqBool := fun hu hv h => by
    rcases keyIs_shape hu with ⟨i, t, rfl, rfl⟩ | ⟨x, t, rfl, rfl⟩
    · rcases keyIs_shape hv with ⟨j, u, rfl, rfl⟩ | ⟨y, u, rfl, rfl⟩
      · rw [key_ll] at h; exact wpAny_eqBool_int h
      · rw [key_lr] at h; exact SeqAt.EqAt.int_str i t y u _ _ _ _ h
    · rcases keyIs_shape hv with ⟨j, u, rfl, rfl⟩ | ⟨y, u, rfl, rfl⟩
      · rw [key_rl] at h; exact SeqAt.EqAt.str_int x t j u _ _ _ _ h
      · rw [key_rr] at h; exact wpAny_eqBool_str h
  «strs» := fun k x t v h => by
    rcases keyIs_shape h with ⟨i, u, rfl, e⟩ | ⟨y, u, rfl, e⟩
    · exact nomatch e
    · injection e with e1 _
      subst e1
      cases v <;> rfl

end L2

namespace L2
open PySem PySem.Spec PyProof.Rows

inductive V where
  | non | bl (b : Bool) | int (i : Int) | str (x : Str) | byt (b : Array UInt8) | flt (b : UInt64) | ref (a : Addr) | ty (n : String)
  deriving DecidableEq

def RelV : V → Value → Prop
  | .non, u => u = Value.none
  | .bl b, u => u = Value.bool b
  | .int i, u => ∃ t, u = Value.int i t
  | .str x, u => ∃ t, u = Value.str x t
  | .byt b, u => ∃ t, u = Value.bytes b t
  | .flt b, u => ∃ t, u = Value.float b t
  | .ref a, u => u = Value.ref a
  | .ty n, u => u = Value.type n

abbrev Vals : List V → List Value → Prop := Paired RelV
theorem Vals.length {xs : List V} {us : List Value} (r : Vals xs us) : xs.length = us.length := Paired.length r
theorem Vals.get : ∀ {xs : List V} {us : List Value} {i : Nat} {x : V}, Vals xs us → xs[i]? = some x → ∃ u, us[i]? = some u ∧ RelV x u
  | _, _, _, _, .nil, e => by simp at e
  | _, _, 0, _, .cons r _, e => by simp at e; subst e; exact ⟨_, rfl, r⟩
  | _, _, i + 1, x, .cons _ t, e => by
    obtain ⟨u, h1, h2⟩ := Vals.get (i := i) (x := x) t (by simpa using e)
    exact ⟨u, by simpa using h1, h2⟩
theorem Vals.set {x : V} {u : Value} (r : RelV x u) : ∀ {xs : List V} {us : List Value} (i : Nat), Vals xs us → Vals (xs.set i x) (us.set i u)
  | _, _, _, .nil => .nil
  | _, _, 0, .cons _ t => .cons r t
  | _, _, i + 1, .cons q t => .cons q (Vals.set r i t)
theorem Vals.append : ∀ {xs ys : List V} {us ws : List Value}, Vals xs us → Vals ys ws → Vals (xs ++ ys) (us ++ ws)
  | _, _, _, _, .nil, s => s
  | _, _, _, _, .cons r t, s => .cons r (Vals.append t s)
theorem Vals.take : ∀ {xs : List V} {us : List Value} (n : Nat), Vals xs us → Vals (xs.take n) (us.take n)
  | _, _, 0, _ => .nil
  | _, _, _ + 1, .nil => .nil
  | _, _, n + 1, .cons r t => .cons r (Vals.take n t)
theorem Vals.drop : ∀ {xs : List V} {us : List Value} (n : Nat), Vals xs us → Vals (xs.drop n) (us.drop n)
  | _, _, 0, r => r
  | _, _, _ + 1, .nil => .nil
  | _, _, n + 1, .cons _ t => Vals.drop n t
def RelO : Option V → Option Value → Prop
  | some v, some u => RelV v u
  | none, none => True
  | _, _ => False
def KV {κ : Type} : List (κ × V) → List (κ × Value) → Prop := Paired fun (p : κ × V) (q : κ × Value) => p.1 = q.1 ∧ RelV p.2 q.2

def kV : Key → V
  | .inl i => .int i
  | .inr x => .str x

inductive HO where
  /-- a list -/
  | lst (xs : List V)
  /-- a tuple (never changes) -/
  | tup (xs : List V)
  /-- a dict whose keys are ints and texts; one whose keys are tuples of ints and texts (the empty one is both) -/
  | dK (kvs : List (Key × V)) | dT (kvs : List (List Key × V))
  /-- a set of ints: its members, its size -/
  | set (S : Int → Bool) (n : Nat)
  /-- an instance of the class at C, its dict at dx, its attributes -/
  | ins (C dx : Addr) (fs : List (Str × V))
  /-- the dict of the instance at x -/
  | own (x : Addr)
  /-- the dict of an exception -/
  | xd (fs : List (Str × V))
  /-- a bound method, f of x -/
  | met (f x : Addr)
  /-- a range object lo, lo + 1, .. below hi -/
  | rng (lo hi : Int)
  /-- a thing that is known to the object (the script; a dict while a loop walks it): read, never written while it is so -/
  | frz (o : Obj) (u : HO)
  /-- a code object's table -/
  | tbl (ps : Array Value)
  /-- any other thing, by what is true of its one object (a def of one's own: SetO a S n := HO.ext fun h => ..) -/
  | ext (φ : Heap → Prop)

abbrev Hp := Addr → Option HO
def upd (H : Hp) (a : Addr) (o : HO) : Hp := fun b => if b = a then some o else H b
theorem upd_same {H : Hp} {a : Addr} {o : HO} : upd H a o a = some o := by unfold upd; rw [if_pos rfl]
theorem upd_ne {H : Hp} {a b : Addr} {o : HO} (h : b ≠ a) : upd H a o b = H b := by unfold upd; rw [if_neg h]
theorem upd_upd {H : Hp} {a : Addr} {o u : HO} : upd (upd H a o) a u = upd H a u := by
  funext b; unfold upd; split <;> rfl
theorem ne_of {H : Hp} {a b : Addr} {o u : HO} (h : H a = some o) (h' : H b = some u) (d : o ≠ u) : a ≠ b := by
  intro e; subst e; rw [h] at h'; exact d (Option.some.inj h')
theorem ne_of_none {H : Hp} {a b : Addr} {o : HO} (h : H a = some o) (h' : H b = none) : a ≠ b := by
  intro e; subst e; rw [h] at h'; cases h'

section
variable (P : Program) (w : World)
def ObjOk (H : Hp) (h : Heap) (a : Addr) : HO → Prop
  | .lst xs => xs.length ≤ sizeLine ∧ ∃ (its : List Value) (n : Nat), Vals xs its ∧ h.get? a = some { cls := .type "list", data := .seq its.toArray n }
  | .tup xs => xs.length ≤ sizeLine ∧ ∃ its : List Value, Vals xs its ∧ IsTup h a its.toArray
  | .dK kvs => kvs.length ≤ sizeLine ∧ (a == sysModules) = false ∧ ∃ vs, KV kvs vs ∧ h.DictOf (mixKind P w) a vs
  | .dT kvs => kvs.length ≤ sizeLine ∧ (a == sysModules) = false ∧ ∃ xs : List (List Key × Addr × Value),
      Paired (fun (p : List Key × V) (q : List Key × Addr × Value) => p.1 = q.1 ∧ H q.2.1 = some (.tup (p.1.map kV)) ∧ RelV p.2 q.2.2) kvs xs ∧
      ∃ o es ep, h.get? a = some o ∧ o.ExactDict ∧ o.data = .dict es ep ∧ es.toList = xs.map (entryOfKey (tupleKind (mixKind P w))) ∧ (xs.map (·.1)).Nodup
  | .set S n => h.SetOf (intKind P w) a S n
  | .ins C dx fs => H dx = some (.own a) ∧ fs.length ≤ 1000 ∧ dx ≠ a ∧ h.get? a = some (PySem.W.instObj C dx) ∧
      ∃ mA, h.Ns1 dx mA ∧ (∀ f, RelO (fs.lookup f) (mA f)) ∧ PySem.Within mA (fs.map (·.1))
  | .own _ => ∃ o, h.get? a = some o
  | .xd fs => ∃ mA, h.Ns1 a mA ∧ ∀ f, RelO (fs.lookup f) (mA f)
  | .rng lo hi => ∃ t u v, h.get? a = some { cls := .type "range", data := .fields #[.int lo t, .int hi u, .int 1 v] }
  | .frz o u => h.get? a = some o ∧ ObjOk H h a u
  | .tbl ps => h.get? a = some { cls := .none, data := .fields ps }
  | .met f x => h.get? a = some (PySem.W.methodObj (.ref f) (.ref x))
  | .ext φ => φ h ∧ (∃ o, h.get? a = some o) ∧ ∀ h1 h2 : Heap, φ h1 → (∀ o, h1.get? a = some o → h2.get? a = some o) → φ h2
def HOk (H : Hp) (h : Heap) : Prop := ∀ a o, H a = some o → ObjOk P w H h a o
end

section
variable {P : Program} {w : World} {H H' : Hp} {h h' : Heap} {a : Addr} {o : HO}
theorem ObjOk.lt (x : ObjOk P w H h a o) : a < h.objs.size := by
  cases o with
  | lst xs => obtain ⟨_, _, _, _, e⟩ := x; exact Heap.lt_size e
  | tup xs => obtain ⟨_, _, _, p⟩ := x; exact p.lt
  | dK kvs => obtain ⟨_, _, _, _, o, _, _, e, _⟩ := x; exact Heap.lt_size e
  | dT kvs => obtain ⟨_, _, _, _, o, _, _, e, _⟩ := x; exact Heap.lt_size e
  | set S n => obtain ⟨o, _, _, _, e, _⟩ := x; exact Heap.lt_size e
  | ins C dx fs => obtain ⟨_, _, _, e, _⟩ := x; exact Heap.lt_size e
  | own y => obtain ⟨_, e⟩ := x; exact Heap.lt_size e
  | xd fs => obtain ⟨_, ⟨_, _, _, e, _⟩, _⟩ := x; exact Heap.lt_size e
  | rng lo hi => obtain ⟨_, _, _, e⟩ := x; exact Heap.lt_size e
  | frz ob u => obtain ⟨e, _⟩ := x; exact Heap.lt_size e
  | tbl ps => exact Heap.lt_size (show h.get? a = some _ from x)
  | met f y => exact Heap.lt_size (show h.get? a = some _ from x)
  | ext φ => obtain ⟨_, ⟨_, e⟩, _⟩ := x; exact Heap.lt_size e
theorem Paired.mapP {α β : Type} {F G : α → β → Prop} : ∀ {l₁ : List α} {l₂ : List β}, Paired F l₁ l₂ → (∀ a b, F a b → G a b) → Paired G l₁ l₂
  | _, _, .nil, _ => .nil
  | _, _, .cons r t, f => .cons (f _ _ r) (Paired.mapP t f)
theorem ObjOk.stay (x : ObjOk P w H h a o) (k : ∀ b u, (b = a ∨ H b = some (.own a)) → h.get? b = some u → h'.get? b = some u)
    (ho : ∀ b, H b = some (.own a) → H' b = some (.own a)) (ht : ∀ b xs, H b = some (.tup xs) → H' b = some (.tup xs)) : ObjOk P w H' h' a o := by
  induction o with
  | lst xs => obtain ⟨z, its, n, r, e⟩ := x; exact ⟨z, its, n, r, k _ _ (.inl rfl) e⟩
  | tup xs => obtain ⟨z, its, r, ob, e, c⟩ := x; exact ⟨z, its, r, ob, k _ _ (.inl rfl) e, c⟩
  | dK kvs => obtain ⟨z, y, vs, r, ob, es, ep, e, c⟩ := x; exact ⟨z, y, vs, r, ob, es, ep, k _ _ (.inl rfl) e, c⟩
  | dT kvs =>
    obtain ⟨z, y, xs, r, ob, es, ep, e, c⟩ := x
    exact ⟨z, y, xs, Paired.mapP r fun p q z => ⟨z.1, ht _ _ z.2.1, z.2.2⟩, ob, es, ep, k _ _ (.inl rfl) e, c⟩
  | set S n => obtain ⟨ob, es, ep, t, e, c⟩ := x; exact ⟨ob, es, ep, t, k _ _ (.inl rfl) e, c⟩
  | ins C dx fs =>
    obtain ⟨d, z, ne, e, mA, ⟨od, es, ep, e2, c⟩, r⟩ := x
    exact ⟨ho _ d, z, ne, k _ _ (.inl rfl) e, mA, ⟨od, es, ep, k _ _ (.inr d) e2, c⟩, r⟩
  | own y => obtain ⟨ob, e⟩ := x; exact ⟨ob, k _ _ (.inl rfl) e⟩
  | xd fs => obtain ⟨mA, ⟨od, es, ep, e, c⟩, r⟩ := x; exact ⟨mA, ⟨od, es, ep, k _ _ (.inl rfl) e, c⟩, r⟩
  | rng lo hi => obtain ⟨t, u, v, e⟩ := x; exact ⟨t, u, v, k _ _ (.inl rfl) e⟩
  | frz ob u ih => obtain ⟨e, q⟩ := x; exact ⟨k _ _ (.inl rfl) e, ih q⟩
  | tbl ps =>
    have e : h.get? a = some { cls := .none, data := .fields ps } := x
    show h'.get? a = some { cls := .none, data := .fields ps }
    exact k a _ (.inl rfl) e
  | met f y =>
    have e : h.get? a = some (PySem.W.methodObj (.ref f) (.ref y)) := x
    show h'.get? a = some (PySem.W.methodObj (.ref f) (.ref y))
    exact k a _ (.inl rfl) e
  | ext φ => obtain ⟨p, ⟨o, e⟩, st⟩ := x; exact ⟨st _ _ p fun o q => k _ _ (.inl rfl) q, ⟨o, k _ _ (.inl rfl) e⟩, st⟩
theorem HOk.lt (x : HOk P w H h) (e : H a = some o) : a < h.objs.size := (x a o e).lt
theorem HOk.fresh (x : HOk P w H h) (e : h.objs.size ≤ a) : H a = none := by
  cases q : H a with
  | none => rfl
  | some u => exact absurd (Nat.lt_of_lt_of_le (x.lt q) e) (Nat.lt_irrefl _)
theorem HOk.kept (x : HOk P w H h) (k : ∀ b u, h.get? b = some u → h'.get? b = some u) : HOk P w H h' := fun a o e =>
  (x a o e).stay (fun b u _ q => k b u q) (fun _ q => q) fun _ _ q => q
theorem HOk.laid (x : HOk P w H h) (k : ∀ b u, h.get? b = some u → h'.get? b = some u) (hp : h.objs.size ≤ a) (new : ObjOk P w (upd H a o) h' a o) : HOk P w (upd H a o) h' := fun b u e => by
  have hn := x.fresh hp
  by_cases hb : b = a
  · subst hb; rw [upd_same] at e; cases e; exact new
  · rw [upd_ne hb] at e
    exact (x b u e).stay (fun c v _ q => k c v q) (fun c q => by rw [upd_ne (ne_of_none q hn)]; exact q) fun c xs q => by rw [upd_ne (ne_of_none q hn)]; exact q
end

def Rd (H : Hp) (a : Addr) (u : HO) : Prop := H a = some u ∨ ∃ o, H a = some (.frz o u)
theorem Rd.of {H : Hp} {a : Addr} {u : HO} (h : H a = some u) : Rd H a u := .inl h
theorem Rd.ok {P : Program} {w : World} {H : Hp} {h : Heap} {a : Addr} {u : HO} (r : Rd H a u) (x : HOk P w H h) : ObjOk P w H h a u := by
  rcases r with r | ⟨o, r⟩
  · exact x a u r
  · obtain ⟨_, q⟩ := x a _ r
    exact q
def Mut : Option HO → Prop
  | some (.lst _) => True
  | some (.dK _) => True
  | some (.dT _) => True
  | some (.set _ _) => True
  | some (.ins _ _ _) => True
  | some (.ext _) => True
  | _ => False
section
variable {P : Program} {w : World} {H : Hp} {h h' : Heap} {x e : Addr} {o' : HO}
theorem HOk.write (ok : HOk P w H h) (mu : Mut (H x)) (he : e = x ∨ H e = some (.own x)) (k : ∀ b u, b ≠ e → h.get? b = some u → h'.get? b = some u) (heo : ∃ u, h'.get? e = some u)
    (new : ObjOk P w (upd H x o') h' x o') : HOk P w (upd H x o') h' := fun b u q => by
  have nown : ∀ c y, H c = some (.own y) → c ≠ x := fun c y r z => by subst z; rw [r] at mu; exact mu
  have ntup : ∀ c xs, H c = some (.tup xs) → c ≠ x := fun c xs r z => by subst z; rw [r] at mu; exact mu
  by_cases hb : b = x
  · subst hb; rw [upd_same] at q; cases q; exact new
  · rw [upd_ne hb] at q
    by_cases hbe : b = e
    · have q' : H b = some (.own x) := by
        rcases he with z | z
        · exact absurd (hbe.trans z) hb
        · rw [hbe]; exact z
      rw [q] at q'; cases q'
      obtain ⟨v, hv⟩ := heo
      exact ⟨v, by rw [hbe]; exact hv⟩
    · refine (ok b u q).stay (fun c v hc r => k c v ?_ r) (fun c r => by rw [upd_ne (nown c b r)]; exact r) fun c xs r => by rw [upd_ne (ntup c xs r)]; exact r
      rcases hc with rfl | hc
      · exact hbe
      · rintro rfl
        rcases he with z | z
        · exact nown c b hc z
        · rw [hc] at z; cases z; exact hb rfl
end

structure Un (fs ex : List Addr) (H H' : Hp) (h h' : Heap) : Prop where
  keep : ∀ b o, h.get? b = some o → H b = none → b ∉ fs → b ∉ ex → h'.get? b = some o
  slot : ∀ b o, h.get? b = some o → H b = none → b ∈ fs → b ∉ ex → ∃ sl, h'.get? b = some { o with slots := sl }
  free : ∀ b o, h.get? b = some o → H b = none → b ∉ ex → H' b = none
  there : ∀ b o, h.get? b = some o → b ∉ ex → ∃ o', h'.get? b = some o'
  tups : ∀ b xs, H b = some (.tup xs) → H' b = some (.tup xs)
  frzs : ∀ b o u, H b = some (.frz o u) → H' b = some (.frz o u)
  tbls : ∀ b ps, H b = some (.tbl ps) → ∃ more, H' b = some (.tbl (ps ++ more))
section
variable {fs fs' ex ex' : List Addr} {H H1 H2 : Hp} {h h1 h2 h' : Heap} {a x e : Addr} {o : HO}
theorem Un.any (u : Un fs ex H H1 h h1) {b : Addr} {ob : Obj} (q : h.get? b = some ob) (n : H b = none) (hx : b ∉ ex) : ∃ sl, h1.get? b = some { ob with slots := sl } := by
  by_cases hb : b ∈ fs
  · exact u.slot b ob q n hb hx
  · exact ⟨ob.slots, u.keep b ob q n hb hx⟩
theorem Un.trans (a : Un fs ex H H1 h h1) (b : Un fs ex H1 H2 h1 h2) : Un fs ex H H2 h h2 where
  keep := fun c ob q n hc hx => b.keep c ob (a.keep c ob q n hc hx) (a.free c ob q n hx) hc hx
  slot := fun c ob q n hc hx => by
    obtain ⟨sl, e1⟩ := a.slot c ob q n hc hx
    obtain ⟨sl', e2⟩ := b.slot c _ e1 (a.free c ob q n hx) hc hx
    exact ⟨sl', e2⟩
  free := fun c ob q n hx => by
    obtain ⟨o', e1⟩ := a.there c ob q hx
    exact b.free c o' e1 (a.free c ob q n hx) hx
  there := fun c ob q hx => by
    obtain ⟨o', e1⟩ := a.there c ob q hx
    exact b.there c o' e1 hx
  tups := fun c xs q => b.tups c xs (a.tups c xs q)
  frzs := fun c ob xs q => b.frzs c ob xs (a.frzs c ob xs q)
  tbls := fun c ps q => by
    obtain ⟨m1, e1⟩ := a.tbls c ps q
    obtain ⟨m2, e2⟩ := b.tbls c _ e1
    exact ⟨m1 ++ m2, by rw [e2, Array.append_assoc]⟩
theorem Un.kept (k : ∀ b u, h.get? b = some u → h'.get? b = some u) : Un fs ex H H h h' :=
  ⟨fun b ob q _ _ _ => k b ob q, fun b ob q _ _ _ => ⟨ob.slots, k b ob q⟩, fun _ _ _ n _ => n, fun b ob q _ => ⟨ob, k b ob q⟩, fun _ _ q => q, fun _ _ _ q => q, fun _ ps q => ⟨#[], by rw [q]; simp⟩⟩
theorem Un.refl : Un fs ex H H h h := Un.kept fun _ _ q => q
theorem Un.laid (k : ∀ b u, h.get? b = some u → h'.get? b = some u) (hp : h.objs.size ≤ a) (hn : H a = none) : Un fs ex H (upd H a o) h h' where
  keep := fun b u q _ _ _ => k b u q
  slot := fun b u q _ _ _ => ⟨u.slots, k b u q⟩
  free := fun b u q n _ => by rw [upd_ne (Nat.ne_of_lt (Nat.lt_of_lt_of_le (Heap.lt_size q) hp))]; exact n
  there := fun b u q _ => ⟨u, k b u q⟩
  tups := fun b xs q => by rw [upd_ne (ne_of_none q hn)]; exact q
  frzs := fun b u xs q => by rw [upd_ne (ne_of_none q hn)]; exact q
  tbls := fun b ps q => ⟨#[], by rw [upd_ne (ne_of_none q hn), q]; simp⟩
theorem Un.write (mu : Mut (H x)) (he : e = x ∨ H e = some (.own x)) (k : ∀ b u, b ≠ e → h.get? b = some u → h'.get? b = some u) (heo : ∃ u, h'.get? e = some u) : Un fs ex H (upd H x o) h h' := by
  have hx : ∀ b, H b = none → b ≠ x := fun b n z => by subst z; rw [n] at mu; exact mu
  have hb : ∀ b, H b = none → b ≠ e := fun b n z => by
    subst z
    rcases he with r | r
    · exact hx b n r
    · rw [n] at r; cases r
  have hm : ∀ b u, H b = some u → ¬ Mut (some u) → b ≠ x := fun b u q nm z => by subst z; rw [q] at mu; exact nm mu
  refine ⟨fun b u q n _ _ => k b u (hb b n) q, fun b u q n _ _ => ⟨u.slots, k b u (hb b n) q⟩, fun b u q n _ => by rw [upd_ne (hx b n)]; exact n, fun b u q _ => ?_,
    fun b xs q => by rw [upd_ne (hm b _ q fun z => z)]; exact q, fun b u xs q => by rw [upd_ne (hm b _ q fun z => z)]; exact q, fun b ps q => ⟨#[], by rw [upd_ne (hm b _ q fun z => z), q]; simp⟩⟩
  by_cases hbe : b = e
  · subst hbe; exact heo
  · exact ⟨u, k b u hbe q⟩
theorem Un.mono (u : Un fs ex H H1 h h1) (hs : ∀ b ∈ fs, b ∈ fs') (hx : ∀ b ∈ ex, b ∈ ex') : Un fs' ex' H H1 h h1 :=
  ⟨fun b ob q n hb he => u.keep b ob q n (fun z => hb (hs b z)) fun z => he (hx b z), fun _ _ q n _ he => u.any q n fun z => he (hx _ z), fun b ob q n he => u.free b ob q n fun z => he (hx b z), fun b ob q he => u.there b ob q fun z => he (hx b z), u.tups, u.frzs, u.tbls⟩
end

def trk (h : Heap) (H : Hp) : List Addr := (List.range h.objs.size).filter fun a => (H a).isSome
def hidT (h : Heap) (H : Hp) : Heap := PySem.W.hideAll h (trk h H)
theorem hidT_size (h : Heap) (H : Hp) : (hidT h H).objs.size = h.objs.size := PySem.W.hideAll_size _ _
theorem hidT_get {h : Heap} {H : Hp} {b : Addr} {o : Obj} (e : h.get? b = some o) (n : H b = none) : (hidT h H).get? b = some o :=
  PySem.W.hideAll_get _ e fun hm => by
    have q : (H b).isSome = true := (List.mem_filter.mp hm).2
    rw [n] at q; simp at q
theorem of_hidT {h : Heap} {H : Hp} {b : Addr} {o : Obj} (e : (hidT h H).get? b = some o) : h.get? b = some o ∧ H b = none := by
  have e' : h.get? b = some o := PySem.W.of_hideAll (trk h H) e
  refine ⟨e', ?_⟩
  cases q : H b with
  | none => rfl
  | some x =>
    have hm : b ∈ trk h H := List.mem_filter.mpr ⟨List.mem_range.mpr (Heap.lt_size e'), by simp [q]⟩
    have z : (hidT h H).get? b = none := PySem.W.hideAll_none (trk h H) hm
    rw [z] at e; cases e

def allNews (g h : Heap) (L : Addr) : List (Addr × Obj) := (List.range h.objs.size).filterMap fun a => if a = L ∨ (g.get? a).isSome = true then none else (h.get? a).map fun o => (a, o)
def rest (g h : Heap) (L d : Addr) : List (Addr × Obj) := (allNews g h L).filter fun p => decide (p.1 ≠ d)
end L2

namespace L2
open PySem PySem.Spec PyProof.Rows

structure Mod (K : PySem.W.Frag) (mg : Str → Option Value) (base : Heap) : Prop where
  kin : K.In base
  glob : base.Ns mainGlobals mg
  blt : ∃ mb, base.Ns builtinsNs mb ∧ ∀ x : Str, x ≠ "__name__" → mb x = bootBuiltins x
  nolimit : base.NoLimit

structure Cx where
  prog : Program
  w : World
  K : PySem.W.Frag
  mg : Str → Option Value
  base : Heap
  A : Around
  N : List Str
  s₀ : Shared
  H₀ : Hp
  env : Env
  outer : List Env
  stack : List Env
  ex : List Addr
  fn : Str → Bool
  calm : Bool
  pn : List (Addr × Obj)
  xe : Value → Shared → Prop
def frs (l : List Env) : List Addr := l.filterMap (·.frame)
abbrev Cx.fs (X : Cx) : List Addr := frs X.outer

def Vis (sc : Scope) (x : Str) : Prop := sc.names.lookup x = some .local ∨ sc.names.lookup x = some .cell ∨ sc.names.lookup x = some .free
def Loc (sc : Scope) (x : Str) : Prop := sc.names.lookup x = some .local ∨ sc.names.lookup x = some .cell
def Look (env : Env) (h : Heap) (m : Str → Option Value) (x : Str) (u : Value) : Prop :=
  (env.kindOf x = some .local ∧ m x = some u) ∨ ((env.kindOf x = some .cell ∨ env.kindOf x = some .free) ∧ ∃ c, env.cells.lookup x = some c ∧ h.IsCell c (some u))

structure Cx.Ok (X : Cx) : Prop where
  mod : Mod X.K X.mg X.base
  kind : X.env.scope.kind = .function
  glob : X.env.globals = mainGlobals
  blt : X.env.builtins = builtinsNs
  above : X.s₀.heap.objs.size ≤ X.env.locals
  inj : ∀ x y c, X.env.cells.lookup x = some c → X.env.cells.lookup y = some c → x = y
  has : ∀ x, (X.env.kindOf x = some .cell ∨ X.env.kindOf x = some .free) → ∃ c, X.env.cells.lookup x = some c
  cab : ∀ x c, X.fn x = true → X.env.cells.lookup x = some c → X.s₀.heap.objs.size ≤ c
  hd : X.calm = true → X.A.handled = none
  frames : X.A.frames = some X.stack
  stk : X.stack = X.outer ∨ (X.stack = X.env :: X.outer ∧ X.env.frame = some X.env.locals)
  exf : ∀ b ∈ X.ex, b ≠ X.env.locals ∧ ∀ x c, X.env.cells.lookup x = some c → c ≠ b
  bs : ∀ b o, X.base.get? b = some o → X.s₀.heap.get? b = some o ∧ X.H₀ b = none
  bsz : X.base.objs.size ≤ X.s₀.heap.objs.size
  noex : ∀ b o, X.base.get? b = some o → b ∉ X.ex
  exfs : ∀ b ∈ X.ex, b ∉ X.fs
  funs : X.s₀.heap.FunFrames X.base X.outer
  frf : ∀ b ∈ X.fs, X.H₀ b = none

structure Inv (X : Cx) (pins : List (Addr × Obj)) (σ : List (Option V)) (H : Hp) (s : Shared) : Prop where
  ok : X.Ok
  os : s.os = X.s₀.os
  bare : AllBare s.gens
  base : Un X.fs X.ex X.H₀ H X.s₀.heap s.heap
  loc : ∃ m, s.heap.Ns X.env.locals m ∧ ∀ (i : Nat) (x : Str) (v : V), X.N[i]? = some x → σ[i]? = some (some v) → Vis X.env.scope x → ∃ u, RelV v u ∧ Look X.env s.heap m x u
  cell : ∀ x c, X.env.cells.lookup x = some c → ∃ v, s.heap.IsCell c v
  free : H X.env.locals = none
  freeC : ∀ x c, X.env.cells.lookup x = some c → H c = none
  pin : ∀ p ∈ X.pn ++ pins, s.heap.get? p.1 = some p.2 ∧ H p.1 = none ∧ p.1 ≠ X.env.locals ∧ p.1 ∉ X.fs ∧ ∀ v, p.2.data ≠ .cell v
  hok : HOk X.prog X.w H s.heap
  len : σ.length = X.N.length

section
variable {X : Cx} {pins : List (Addr × Obj)} {σ : List (Option V)} {H H' : Hp} {s : Shared} {h' : Heap}

theorem Cx.Ok.nofr (ok : X.Ok) {b : Addr} {o : Obj} (e : X.base.get? b = some o) : b ∉ X.fs := fun hb => by
  have := (ok.funs.mem hb).1
  rw [e] at this; cases this
theorem Inv.bs (I : Inv X pins σ H s) : ∀ b o, X.base.get? b = some o → s.heap.get? b = some o ∧ H b = none := fun b o e =>
  ⟨I.base.keep b o (I.ok.bs b o e).1 (I.ok.bs b o e).2 (I.ok.nofr e) (I.ok.noex b o e), I.base.free b o (I.ok.bs b o e).1 (I.ok.bs b o e).2 (I.ok.noex b o e)⟩
theorem Inv.bk (I : Inv X pins σ H s) : ∀ b o, X.base.get? b = some o → s.heap.get? b = some o := fun b o e => (I.bs b o e).1
theorem Inv.mod (I : Inv X pins σ H s) : Mod X.K X.mg X.base := I.ok.mod
theorem Inv.kIn (I : Inv X pins σ H s) : X.K.In s.heap := I.ok.mod.kin.keeps I.bk
theorem Inv.nolimit (I : Inv X pins σ H s) : s.heap.NoLimit := I.ok.mod.nolimit.keeps I.bk
theorem Inv.lt (I : Inv X pins σ H s) : X.env.locals < s.heap.objs.size := let ⟨_, hn, _⟩ := I.loc; hn.lt
theorem Inv.sz (I : Inv X pins σ H s) : X.s₀.heap.objs.size ≤ s.heap.objs.size := Nat.le_trans I.ok.above (Nat.le_of_lt I.lt)
theorem Inv.nofs (I : Inv X pins σ H s) {a : Addr} (h : s.heap.objs.size ≤ a) : a ∉ X.fs := fun hb => by
  obtain ⟨_, o, ho, _⟩ := I.ok.funs.mem hb
  exact absurd (Nat.lt_of_lt_of_le (Heap.lt_size ho) (Nat.le_trans I.sz h)) (Nat.lt_irrefl _)
theorem Inv.cne (I : Inv X pins σ H s) : ∀ x c, X.env.cells.lookup x = some c → c ≠ X.env.locals := fun x c e z => by
  obtain ⟨v, o, ho, hd⟩ := I.cell x c e
  obtain ⟨m, ⟨o', es, ep, ho', hd', _⟩, _⟩ := I.loc
  rw [z, ho'] at ho; cases ho; rw [hd'] at hd; cases hd
theorem Inv.funs (I : Inv X pins σ H s) : s.heap.FunFrames X.base X.outer := by
  have all : ∀ (l : List Env), (∀ b ∈ frs l, b ∈ X.fs) → X.s₀.heap.FunFrames X.base l → s.heap.FunFrames X.base l := by
    intro l
    induction l with
    | nil => intro _ _; trivial
    | cons env r ih =>
      intro hs hl
      obtain ⟨hk, ⟨L, o, hf, hn, ho, hd⟩, hr⟩ := hl
      have hL : L ∈ X.fs := hs L (by unfold frs; rw [List.filterMap_cons, hf]; exact List.mem_cons_self)
      obtain ⟨sl, e⟩ := I.base.slot L o ho (I.ok.frf L hL) hL fun z => I.ok.exfs L z hL
      exact ⟨hk, ⟨L, _, hf, hn, e, hd⟩, ih (fun b hb => hs b (by unfold frs; rw [List.filterMap_cons, hf]; exact List.mem_cons_of_mem _ hb)) hr⟩
  exact all X.outer (fun _ hb => hb) I.ok.funs

theorem Inv.stack (I : Inv X pins σ H s) : s.heap.FunFrames X.base X.stack := by
  rcases I.ok.stk with e | ⟨e, hf⟩
  · rw [e]; exact I.funs
  · rw [e]
    obtain ⟨m, hn, _⟩ := I.loc
    refine .cons (by rw [I.ok.kind]; decide) hf hn ?_ I.funs
    exact Heap.get?_none_of_le (Nat.le_trans I.ok.bsz I.ok.above)
theorem Inv.stkSub (I : Inv X pins σ H s) : ∀ b ∈ frs X.stack, b ∈ X.env.locals :: X.fs := fun b hb => by
  rcases I.ok.stk with e | ⟨e, hf⟩
  · rw [e] at hb; exact List.mem_cons_of_mem _ hb
  · rw [e] at hb
    unfold frs at hb
    rw [List.filterMap_cons, hf] at hb
    exact hb
theorem Inv.stkFree (I : Inv X pins σ H s) : ∀ b ∈ frs X.stack, H b = none := fun b hb => by
  rcases List.mem_cons.mp (I.stkSub b hb) with e | hb
  · rw [e]; exact I.free
  · obtain ⟨_, o, ho, _⟩ := I.ok.funs.mem hb
    exact I.base.free b o ho (I.ok.frf b hb) fun z => I.ok.exfs b z hb

theorem Inv.step {g' : Array GenState} {t' : Nat} {d' : Drawn} {ch : List Addr} (I : Inv X pins σ H s)
    (hch : ∀ b ∈ ch, (b ∈ X.ex ∨ X.s₀.heap.objs.size ≤ b) ∧ b ≠ X.env.locals ∧ (∀ x c, X.env.cells.lookup x = some c → c ≠ b) ∧ ∀ p ∈ X.pn ++ pins, p.1 ≠ b)
    (keep : ∀ b o, b ≠ X.env.locals → b ∉ X.fs → b ∉ ch → s.heap.get? b = some o → H b = none → h'.get? b = some o)
    (slot : ∀ b o, b ≠ X.env.locals → b ∈ X.fs → b ∉ ch → s.heap.get? b = some o → H b = none → ∃ sl, h'.get? b = some { o with slots := sl }) (free : ∀ b o, b ∉ ch → s.heap.get? b = some o → H b = none → H' b = none)
    (there : ∀ b o, b ∉ ch → s.heap.get? b = some o → ∃ o', h'.get? b = some o')
    (tups : ∀ b xs, H b = some (.tup xs) → H' b = some (.tup xs)) (frzs : ∀ b o u, H b = some (.frz o u) → H' b = some (.frz o u)) (tbls : ∀ b ps, H b = some (.tbl ps) → ∃ more, H' b = some (.tbl (ps ++ more)))
    (ns : ∀ m, s.heap.Ns X.env.locals m → h'.Ns X.env.locals m) (hok : HOk X.prog X.w H' h') (hg : AllBare g') :
    Inv X pins σ H' { s with heap := h', gens := g', drawn := d', toks := t' } := by
  have neL : ∀ b o, X.s₀.heap.get? b = some o → b ≠ X.env.locals := fun b o e => Nat.ne_of_lt (Nat.lt_of_lt_of_le (Heap.lt_size e) I.ok.above)
  have neC : ∀ b o, X.s₀.heap.get? b = some o → b ∉ X.ex → b ∉ ch := fun b o e hx hb => by
    rcases (hch b hb).1 with z | z
    · exact hx z
    · exact absurd (Nat.lt_of_lt_of_le (Heap.lt_size e) z) (Nat.lt_irrefl _)
  have cellK : ∀ x c, X.env.cells.lookup x = some c → ∀ v, s.heap.IsCell c v → h'.IsCell c v := fun x c e v ⟨o, ho, hd⟩ => by
    have nch : c ∉ ch := fun z => (hch c z).2.2.1 x c e rfl
    by_cases hc : c ∈ X.fs
    · obtain ⟨sl, q⟩ := slot c o (I.cne x c e) hc nch ho (I.freeC x c e)
      exact ⟨_, q, hd⟩
    · exact ⟨o, keep c o (I.cne x c e) hc nch ho (I.freeC x c e), hd⟩
  refine ⟨I.ok, I.os, hg, ⟨fun b o e n hb hx => ?_, fun b o e n hb hx => ?_, fun b o e n hx => ?_, fun b o e hx => ?_, fun b xs e => tups b xs (I.base.tups b xs e), fun b o xs e => frzs b o xs (I.base.frzs b o xs e), fun b ps e => ?_⟩, ?_, fun x c e => ?_, ?_, fun x c e => ?_, fun p hp => ?_, hok, I.len⟩
  · exact keep b o (neL b o e) hb (neC b o e hx) (I.base.keep b o e n hb hx) (I.base.free b o e n hx)
  · obtain ⟨sl, e1⟩ := I.base.slot b o e n hb hx
    obtain ⟨sl', e2⟩ := slot b _ (neL b o e) hb (neC b o e hx) e1 (I.base.free b o e n hx)
    exact ⟨sl', e2⟩
  · obtain ⟨o', e1⟩ := I.base.there b o e hx
    exact free b o' (neC b o e hx) e1 (I.base.free b o e n hx)
  · obtain ⟨o', e1⟩ := I.base.there b o e hx
    exact there b o' (neC b o e hx) e1
  · obtain ⟨m1, e1⟩ := I.base.tbls b ps e
    obtain ⟨m2, e2⟩ := tbls b _ e1
    exact ⟨m1 ++ m2, by rw [e2, Array.append_assoc]⟩
  · obtain ⟨m, hn, hl⟩ := I.loc
    refine ⟨m, ns m hn, fun i x v e1 e2 e3 => ?_⟩
    obtain ⟨u, r, l⟩ := hl i x v e1 e2 e3
    refine ⟨u, r, ?_⟩
    rcases l with l | ⟨k, c, e, z⟩
    · exact .inl l
    · exact .inr ⟨k, c, e, cellK x c e _ z⟩
  · obtain ⟨v, z⟩ := I.cell x c e
    exact ⟨v, cellK x c e v z⟩
  · obtain ⟨m, ⟨o, _, _, ho, _⟩, _⟩ := I.loc
    exact free _ o (fun z => (hch _ z).2.1 rfl) ho I.free
  · obtain ⟨v, o, ho, hd⟩ := I.cell x c e
    exact free c o (fun z => (hch c z).2.2.1 x c e rfl) ho (I.freeC x c e)
  · obtain ⟨e, n, ne, nf, d⟩ := I.pin p hp
    have nch : p.1 ∉ ch := fun z => (hch p.1 z).2.2.2 p hp rfl
    exact ⟨keep p.1 p.2 ne nf nch e n, free p.1 p.2 nch e n, ne, nf, d⟩
theorem Inv.un {t' : Nat} (I : Inv X pins σ H s) (u : Un X.fs [] H H' s.heap h') (hok : HOk X.prog X.w H' h') : Inv X pins σ H' { s with heap := h', toks := t' } := by
  obtain ⟨m, ⟨o, es, ep, ho, r⟩, _⟩ := id I.loc
  obtain ⟨sl, hL⟩ := u.any ho I.free (by simp)
  exact I.step (g' := s.gens) (d' := s.drawn) (ch := []) (fun _ z => nomatch z) (fun b o _ hb _ e n => u.keep b o e n hb (by simp)) (fun b o _ hb _ e n => u.slot b o e n hb (by simp)) (fun b o _ e n => u.free b o e n (by simp)) (fun b o _ e => u.there b o e (by simp)) u.tups u.frzs u.tbls (fun m' hm => by
    obtain ⟨o', es', ep', ho', r'⟩ := hm
    rw [ho] at ho'; cases ho'
    exact ⟨_, es', ep', hL, r'⟩) hok I.bare
theorem Inv.call {g' : Array GenState} {t' : Nat} {d' : Drawn} {ch : List Addr} (I : Inv X pins σ H s) (u : Un (frs X.stack) ch H H' s.heap h') (hok : HOk X.prog X.w H' h') (hg : AllBare g')
    (hch : ∀ b ∈ ch, (b ∈ X.ex ∨ X.s₀.heap.objs.size ≤ b) ∧ b ≠ X.env.locals ∧ (∀ x c, X.env.cells.lookup x = some c → c ≠ b) ∧ ∀ p ∈ X.pn ++ pins, p.1 ≠ b) :
    Inv X pins σ H' { s with heap := h', gens := g', drawn := d', toks := t' } := by
  obtain ⟨m, ⟨o, es, ep, ho, r⟩, _⟩ := id I.loc
  obtain ⟨sl, hL⟩ := u.any ho I.free fun z => (hch _ z).2.1 rfl
  exact I.step (ch := ch) hch (fun b o hL hb hc e n => u.keep b o e n (fun z => (List.mem_cons.mp (I.stkSub b z)).elim hL hb) hc) (fun b o _ _ hc e n => u.any e n hc) (fun b o hc e n => u.free b o e n hc) (fun b o hc e => u.there b o e hc) u.tups u.frzs u.tbls (fun m' hm => by
    obtain ⟨o', es', ep', ho', r'⟩ := hm
    rw [ho] at ho'; cases ho'
    exact ⟨_, es', ep', hL, r'⟩) hok hg
theorem Inv.turned {t' : Nat} {it : Addr} (I : Inv X pins σ H s) (k : ∀ b o, b ≠ it → s.heap.get? b = some o → h'.get? b = some o) (hn : H it = none) (hL : it ≠ X.env.locals)
    (h1 : it ∈ X.ex ∨ X.s₀.heap.objs.size ≤ it) (h2 : ∀ x c, X.env.cells.lookup x = some c → c ≠ it) (h3 : ∀ p ∈ X.pn ++ pins, p.1 ≠ it) : Inv X pins σ H { s with heap := h', toks := t' } := by
  have nit : ∀ b u, H b = some u → b ≠ it := fun b u e z => by rw [z, hn] at e; cases e
  refine I.step (g' := s.gens) (d' := s.drawn) (ch := [it]) (fun b hb => ?_) (fun b o _ _ hc e _ => k b o (fun z => hc (by simp [z])) e) (fun b o _ _ hc e _ => ⟨o.slots, k b o (fun z => hc (by simp [z])) e⟩) (fun _ _ _ _ n => n)
    (fun b o hc e => ⟨o, k b o (fun z => hc (by simp [z])) e⟩) (fun _ _ e => e) (fun _ _ _ e => e) (fun b ps e => ⟨#[], by rw [e]; simp⟩) (fun m hm => ?_) (fun b u e => ?_) I.bare
  · have e : b = it := by simpa using hb
    subst e
    exact ⟨h1, hL, h2, h3⟩
  · obtain ⟨o, es, ep, ho, r⟩ := hm
    exact ⟨o, es, ep, k _ o (Ne.symm hL) ho, r⟩
  · refine (I.hok b u e).stay (fun c v hc q => k c v ?_ q) (fun _ q => q) fun _ _ q => q
    rcases hc with z | z
    · rw [z]; exact nit b u e
    · exact nit c _ z
theorem Inv.tok (I : Inv X pins σ H s) (t : Nat) : Inv X pins σ H { s with toks := t } := I.un (h' := s.heap) (t' := t) Un.refl I.hok
theorem Inv.kept {t' : Nat} (I : Inv X pins σ H s) (k : ∀ b u, s.heap.get? b = some u → h'.get? b = some u) : Inv X pins σ H { s with heap := h', toks := t' } := I.un (Un.kept k) (I.hok.kept k)
theorem Inv.laid {a : Addr} {o : HO} {t' : Nat} (I : Inv X pins σ H s) (k : ∀ b u, s.heap.get? b = some u → h'.get? b = some u) (hp : s.heap.objs.size ≤ a) (new : ObjOk X.prog X.w (upd H a o) h' a o) :
    Inv X pins σ (upd H a o) { s with heap := h', toks := t' } := I.un (Un.laid k hp (I.hok.fresh hp)) (I.hok.laid k hp new)
theorem Inv.write {x e : Addr} {o : HO} {t' : Nat} (I : Inv X pins σ H s) (mu : Mut (H x)) (he : e = x ∨ H e = some (.own x)) (k : ∀ b u, b ≠ e → s.heap.get? b = some u → h'.get? b = some u) (heo : ∃ u, h'.get? e = some u)
    (new : ObjOk X.prog X.w (upd H x o) h' x o) : Inv X pins σ (upd H x o) { s with heap := h', toks := t' } := I.un (Un.write mu he k heo) (I.hok.write mu he k heo new)
theorem Inv.pins_of {pins' : List (Addr × Obj)} (I : Inv X pins σ H s) (h : ∀ p ∈ pins', s.heap.get? p.1 = some p.2 ∧ H p.1 = none ∧ p.1 ≠ X.env.locals ∧ p.1 ∉ X.fs ∧ ∀ v, p.2.data ≠ .cell v) : Inv X pins' σ H s :=
  ⟨I.ok, I.os, I.bare, I.base, I.loc, I.cell, I.free, I.freeC, fun p hp => (List.mem_append.mp hp).elim (fun z => I.pin p (List.mem_append_left _ z)) (h p), I.hok, I.len⟩

theorem nodup_ix {N : List Str} (hN : N.Nodup) {i j : Nat} {x : Str} (a : N[i]? = some x) (b : N[j]? = some x) : i = j := by
  obtain ⟨h1, e1⟩ := List.getElem?_eq_some_iff.mp a
  obtain ⟨h2, e2⟩ := List.getElem?_eq_some_iff.mp b
  exact (List.getElem_inj hN).mp (e1.trans e2.symm)

theorem store_ok2 {M : Model} {A : Around} {E : Value → Shared → Prop} {i : Nat} {x : Str} {v : V} {u : Value} {Q : Unit → Shared → Prop} (I : Inv X pins σ H s) (hN : X.N.Nodup) (hi : X.N[i]? = some x) (hx : Loc X.env.scope x) (r : RelV v u)
    (h : ∀ s', Inv X pins (σ.set i (some v)) H s' → (∃ a, Heap.SameBut a s.heap s'.heap ∧ (a = X.env.locals ∨ X.env.cells.lookup x = some a)) → Q () s') (hf : X.fn x = true ∨ X.env.scope.names.lookup x = some .local := by first | exact .inl rfl | exact .inr rfl | assumption) : wpAny M A (storeName X.env x u) Q E s := by
  obtain ⟨m, hn, hl⟩ := id I.loc
  have hcls : (X.env.scope.kind == .class || (X.env.scope.kind == .module && X.env.locals != X.env.globals)) = false := by rw [I.ok.kind]; rfl
  have hiσ : i < σ.length := by rw [I.len]; exact (List.getElem?_eq_some_iff.mp hi).1
  have cne := I.cne
  have tracked : ∀ {a : Addr} {h' : Heap}, (∃ o, s.heap.get? a = some o ∧ H a = none) → Heap.SameBut a s.heap h' → HOk X.prog X.w H h' := fun {a h'} ha hs b ob e => by
    obtain ⟨_, _, hfree⟩ := ha
    refine (I.hok b ob e).stay (fun c w' hc q => (hs.2 c ?_).trans q) (fun _ q => q) fun _ _ q => q
    rintro rfl
    rcases hc with rfl | hc
    · rw [hfree] at e; cases e
    · rw [hfree] at hc; cases hc
  rcases hx with hk | hk
  · refine wpAny_storeName_local hk hn (fun h' hn' hs => ?_) hcls
    obtain ⟨oL, _, _, hoL, _⟩ := id hn
    refine h _ ⟨I.ok, I.os, I.bare, ⟨fun b o e n hb hx => ?_, fun b o e n hb hx => ?_, I.base.free, fun b o e hx => ?_, I.base.tups, I.base.frzs, I.base.tbls⟩, ⟨_, hn', fun j y v' e1 e2 e3 => ?_⟩, fun y c e => ?_, I.free, I.freeC, fun p hp => ?_, tracked ⟨oL, hoL, I.free⟩ hs, by simpa using I.len⟩ ⟨_, hs, .inl rfl⟩
    · exact (hs.2 b (Nat.ne_of_lt (Nat.lt_of_lt_of_le (Heap.lt_size e) I.ok.above))).trans (I.base.keep b o e n hb hx)
    · obtain ⟨sl, e1⟩ := I.base.slot b o e n hb hx
      exact ⟨sl, (hs.2 b (Nat.ne_of_lt (Nat.lt_of_lt_of_le (Heap.lt_size e) I.ok.above))).trans e1⟩
    · obtain ⟨o', e1⟩ := I.base.there b o e hx
      exact ⟨o', (hs.2 b (Nat.ne_of_lt (Nat.lt_of_lt_of_le (Heap.lt_size e) I.ok.above))).trans e1⟩
    · by_cases hj : j = i
      · subst hj
        rw [hi] at e1; cases e1
        rw [List.getElem?_set_self hiσ] at e2
        cases e2
        exact ⟨u, r, .inl ⟨hk, by simp⟩⟩
      · rw [List.getElem?_set_ne (Ne.symm hj)] at e2
        obtain ⟨u', r', q⟩ := hl j y v' e1 e2 e3
        refine ⟨u', r', ?_⟩
        rcases q with ⟨k, e⟩ | ⟨k, c, e, z⟩
        · refine .inl ⟨k, ?_⟩
          have : y ≠ x := fun e => hj (nodup_ix hN e1 (e ▸ hi))
          simp [this, e]
        · exact .inr ⟨k, c, e, z.sameBut hs (cne y c e)⟩
    · obtain ⟨w', z⟩ := I.cell y c e
      exact ⟨w', z.sameBut hs (cne y c e)⟩
    · obtain ⟨e, n, ne, nf, d⟩ := I.pin p hp
      exact ⟨(hs.2 p.1 ne).trans e, n, ne, nf, d⟩
  · have hfn : X.fn x = true := by
      rcases hf with z | z
      · exact z
      · rw [z] at hk; cases hk
    obtain ⟨c, hc⟩ := I.ok.has x (.inl hk)
    obtain ⟨w', z⟩ := I.cell x c hc
    refine wpAny_storeName_cell I.ok.kind hk hc z (fun h' hc' hs => ?_)
    obtain ⟨oc, hoc, hocd⟩ := id z
    refine h { s with heap := h' } ⟨I.ok, I.os, I.bare, ⟨fun b o e n hb hx => ?_, fun b o e n hb hx => ?_, I.base.free, fun b o e hx => ?_, I.base.tups, I.base.frzs, I.base.tbls⟩, ⟨m, hn.sameBut hs (Ne.symm (cne x c hc)), fun j y v' e1 e2 e3 => ?_⟩, fun y c' e => ?_, I.free, I.freeC, fun p hp => ?_, tracked ⟨oc, hoc, I.freeC x c hc⟩ hs, by simpa using I.len⟩ ⟨c, hs, .inr hc⟩
    · exact (hs.2 b (Nat.ne_of_lt (Nat.lt_of_lt_of_le (Heap.lt_size e) (I.ok.cab x c hfn hc)))).trans (I.base.keep b o e n hb hx)
    · obtain ⟨sl, e1⟩ := I.base.slot b o e n hb hx
      exact ⟨sl, (hs.2 b (Nat.ne_of_lt (Nat.lt_of_lt_of_le (Heap.lt_size e) (I.ok.cab x c hfn hc)))).trans e1⟩
    · obtain ⟨o', e1⟩ := I.base.there b o e hx
      exact ⟨o', (hs.2 b (Nat.ne_of_lt (Nat.lt_of_lt_of_le (Heap.lt_size e) (I.ok.cab x c hfn hc)))).trans e1⟩
    · by_cases hj : j = i
      · subst hj
        rw [hi] at e1; cases e1
        rw [List.getElem?_set_self hiσ] at e2
        cases e2
        exact ⟨u, r, .inr ⟨.inl hk, c, hc, hc'⟩⟩
      · rw [List.getElem?_set_ne (Ne.symm hj)] at e2
        obtain ⟨u', r', q⟩ := hl j y v' e1 e2 e3
        refine ⟨u', r', ?_⟩
        rcases q with q | ⟨k, c', e, z'⟩
        · exact .inl q
        · refine .inr ⟨k, c', e, z'.sameBut hs ?_⟩
          rintro rfl
          exact hj (nodup_ix hN e1 (I.ok.inj _ _ _ e hc ▸ hi))
    · by_cases hcc : c' = c
      · subst hcc; exact ⟨_, hc'⟩
      · obtain ⟨w2, z2⟩ := I.cell y c' e
        exact ⟨w2, z2.sameBut hs hcc⟩
    · obtain ⟨e, n, ne, nf, d⟩ := I.pin p hp
      refine ⟨(hs.2 p.1 ?_).trans e, n, ne, nf, d⟩
      intro q
      rw [q, hoc] at e
      have q' : oc = p.2 := Option.some.inj e
      exact d w' (by rw [← q']; exact hocd)
theorem store_ok {M : Model} {A : Around} {E : Value → Shared → Prop} {i : Nat} {x : Str} {v : V} {u : Value} {Q : Unit → Shared → Prop} (I : Inv X pins σ H s) (hN : X.N.Nodup) (hi : X.N[i]? = some x) (hx : Loc X.env.scope x) (r : RelV v u)
    (h : ∀ s', Inv X pins (σ.set i (some v)) H s' → Q () s') (hf : X.fn x = true ∨ X.env.scope.names.lookup x = some .local := by first | exact .inl rfl | exact .inr rfl | assumption) : wpAny M A (storeName X.env x u) Q E s :=
  store_ok2 I hN hi hx r (fun s' I' _ => h s' I') hf
theorem Inv.call' {s' : Shared} {ch : List Addr} (I : Inv X pins σ H s) (ho : s'.os = s.os) (u : Un (frs X.stack) ch H H' s.heap s'.heap) (hok : HOk X.prog X.w H' s'.heap) (hg : AllBare s'.gens)
    (hch : ∀ b ∈ ch, (b ∈ X.ex ∨ X.s₀.heap.objs.size ≤ b) ∧ b ≠ X.env.locals ∧ (∀ x c, X.env.cells.lookup x = some c → c ≠ b) ∧ ∀ p ∈ X.pn ++ pins, p.1 ≠ b) : Inv X pins σ H' s' := by
  obtain ⟨h', g', d', t', o'⟩ := s'
  have e : o' = s.os := ho
  subst e
  exact I.call (g' := g') (t' := t') (d' := d') u hok hg hch
end

abbrev XK := Value → Option Addr → Hp → Prop
abbrev St := List (Option V)
abbrev VK := V → Hp → Prop
abbrev TE := St → Hp → VK → Prop
abbrev TT := St → Hp → (Bool → Hp → Prop) → Prop
abbrev TA := St → Hp → (List V → Hp → Prop) → Prop
structure Ends where
  nx : St → Hp → Prop
  rt : VK
  bk : St → Hp → Prop := fun _ _ => False
  ct : St → Hp → Prop := fun _ _ => False
abbrev TS := Ends → St → Hp → Prop

def EP (X : Cx) (pins : List (Addr × Obj)) (σ : St) (Q : VK) (u : Value) (s' : Shared) : Prop := ∃ v H', Inv X pins σ H' s' ∧ RelV v u ∧ Q v H'
def TP (X : Cx) (pins : List (Addr × Obj)) (σ : St) (Q : Bool → Hp → Prop) (b : Bool) (s' : Shared) : Prop := ∃ H', Inv X pins σ H' s' ∧ Q b H'
def AP (X : Cx) (pins : List (Addr × Obj)) (σ : St) (Q : List V → Hp → Prop) (us : List Value) (s' : Shared) : Prop := ∃ vs H', Inv X pins σ H' s' ∧ Vals vs us ∧ Q vs H'
def SP (X : Cx) (pins : List (Addr × Obj)) (D : Ends) (f : Flow) (s' : Shared) : Prop :=
  match f with
  | .next => ∃ σ' H', Inv X pins σ' H' s' ∧ D.nx σ' H'
  | .brk => ∃ σ' H', Inv X pins σ' H' s' ∧ D.bk σ' H'
  | .cont => ∃ σ' H', Inv X pins σ' H' s' ∧ D.ct σ' H'
  | .ret u => ∃ v σ' H', Inv X pins σ' H' s' ∧ RelV v u ∧ D.rt v H'

def PE (X : Cx) (e : Expr) (t : TE) : Prop :=
  ∀ (pins : List (Addr × Obj)) (s : Shared) (σ : St) (H : Hp) (Q : VK), Inv X pins σ H s → t σ H Q → wpAny (model X.prog X.w) X.A (eval e X.env) (EP X pins σ Q) X.xe s
def PT (X : Cx) (e : Expr) (t : TT) : Prop :=
  ∀ (pins : List (Addr × Obj)) (s : Shared) (σ : St) (H : Hp) (Q : Bool → Hp → Prop), Inv X pins σ H s → t σ H Q → wpAny (model X.prog X.w) X.A (isTrue e X.env (eval e X.env)) (TP X pins σ Q) X.xe s
def PW (X : Cx) (e : Expr) (t : TT) : Prop :=
  ∀ (whole : Sem Value) (pins : List (Addr × Obj)) (s : Shared) (σ : St) (H : Hp) (Q : Bool → Hp → Prop), Inv X pins σ H s → t σ H Q → wpAny (model X.prog X.w) X.A (isTrue e X.env whole) (TP X pins σ Q) X.xe s
theorem PW.pt {X : Cx} {e : Expr} {t : TT} (h : PW X e t) : PT X e t := h _
def PA (X : Cx) (es : List Expr) (t : TA) : Prop :=
  ∀ (pos : Pos) (pins : List (Addr × Obj)) (s : Shared) (σ : St) (H : Hp) (Q : List V → Hp → Prop), Inv X pins σ H s → t σ H Q → wpAny (model X.prog X.w) X.A (spliced (backTo pos (starEach es X.env))) (AP X pins σ Q) X.xe s
def PS (X : Cx) (st : Stmt) (t : TS) : Prop :=
  ∀ (pins : List (Addr × Obj)) (s : Shared) (σ : St) (H : Hp) (D : Ends), Inv X pins σ H s → t D σ H → wpAny (model X.prog X.w) X.A (exec st X.env) (SP X pins D) X.xe s
def PSs (X : Cx) (st : List Stmt) (t : TS) : Prop :=
  ∀ (pins : List (Addr × Obj)) (s : Shared) (σ : St) (H : Hp) (D : Ends), Inv X pins σ H s → t D σ H → wpAny (model X.prog X.w) X.A (execs st X.env) (SP X pins D) X.xe s
theorem thn {α : Type} {t : Sem α} {Q Q' : α → Shared → Prop} {M : Model} {A : Around} {E : Value → Shared → Prop} {s : Shared} (h : wpAny M A t Q E s) (hQ : ∀ a s, Q a s → Q' a s) : wpAny M A t Q' E s := wpAny_mono h hQ fun _ _ x => x
end L2

namespace L2
open PySem PySem.Spec PyProof.Rows
section
variable {X : Cx}

def tVar (i : Nat) : TE := fun σ H Q => ∃ v, σ[i]? = some (some v) ∧ Q v H
def tC (v : V) : TE := fun _ H Q => Q v H
theorem pe_var {i : Nat} {x : Str} {pos : Pos} (hN : X.N[i]? = some x) (hv : Vis X.env.scope x) (hd : (x == ("__debug__" : Str)) = false := by decide) (hcd : (x == ("__classdict__" : Str)) = false := by decide) : PE X (.Name x pos) (tVar i) := by
  intro pins s σ H Q I h
  obtain ⟨v, e, h⟩ := h
  obtain ⟨m, hn, hl⟩ := I.loc
  obtain ⟨u, r, l⟩ := hl i x v hN e hv
  have fin : EP X pins σ Q u s := ⟨v, H, I, r, h⟩
  rcases l with ⟨hk, hm⟩ | ⟨hk, c, hc, hcell⟩
  · exact wpAny_Name (wpAny_loadName_local I.ok.kind hk hn hm fin) hd
  · rcases hk with hk | hk
    · exact wpAny_Name (wpAny_loadName_cell I.ok.kind hk hc hcell fin) hd
    · exact wpAny_Name (wpAny_loadName_free I.ok.kind hk hc hcell fin hcd) hd
theorem pe_int {i j pos} : PE X (.Constant (.int i) j pos) (tC (.int i)) := fun _ _ _ H _ I h => wpAny_Constant_int ⟨.int i, H, I.tok _, ⟨_, rfl⟩, h⟩
theorem pe_bl {b j pos} : PE X (.Constant (.bool b) j pos) (tC (.bl b)) := fun _ _ _ H _ I h => Constant_bool ⟨.bl b, H, I, rfl, h⟩
theorem pe_non {j pos} : PE X (.Constant .none j pos) (tC .non) := fun _ _ _ H _ I h => Constant_none ⟨.non, H, I, rfl, h⟩
def Gl (X : Cx) (x : Str) : Prop := X.env.kindOf x = some .globalImplicit
theorem ld_glob {E : Value → Shared → Prop} {pins : List (Addr × Obj)} {s : Shared} {σ : St} {H : Hp} {x : Str} {u : Value} {pos : Pos} {Q : Value → Shared → Prop} (I : Inv X pins σ H s) (hg : Gl X x) (hm : X.mg x = some u) (h : Q u s)
    (hd : (x == ("__debug__" : Str)) = false := by decide) : wpAny (model X.prog X.w) X.A (eval (.Name x pos) X.env) Q E s :=
  Calls.Name_function_global I.ok.kind hg (Calls.loadGlobal_global (by rw [I.ok.glob]; exact I.mod.glob.keeps I.bk) hm h) hd
theorem ld_blt {E : Value → Shared → Prop} {pins : List (Addr × Obj)} {s : Shared} {σ : St} {H : Hp} {x : Str} {u : Value} {pos : Pos} {Q : Value → Shared → Prop} (I : Inv X pins σ H s) (hg : Gl X x) (hm : X.mg x = none) (hv : bootBuiltins x = some u) (h : Q u s)
    (hn : x ≠ "__name__" := by decide) (hd : (x == ("__debug__" : Str)) = false := by decide) : wpAny (model X.prog X.w) X.A (eval (.Name x pos) X.env) Q E s := by
  obtain ⟨mb, h1, h2⟩ := I.mod.blt
  exact Calls.Name_function_global I.ok.kind hg (Calls.loadGlobal_builtin (by rw [I.ok.glob]; exact I.mod.glob.keeps I.bk) hm (by rw [I.ok.blt]; exact h1.keeps I.bk) ((h2 x hn).trans hv) h) hd
theorem pe_glob {x : Str} {v : V} {u : Value} {pos : Pos} (hg : Gl X x) (hm : X.mg x = some u) (r : RelV v u) (hd : (x == ("__debug__" : Str)) = false := by decide) : PE X (.Name x pos) (tC v) :=
  fun _ _ _ H _ I h => ld_glob I hg hm ⟨v, H, I, r, h⟩ hd
theorem pe_bltn {x : Str} {v : V} {u : Value} {pos : Pos} (hg : Gl X x) (hm : X.mg x = none) (hv : bootBuiltins x = some u) (r : RelV v u) (hn : x ≠ "__name__" := by decide) (hd : (x == ("__debug__" : Str)) = false := by decide) : PE X (.Name x pos) (tC v) :=
  fun _ _ _ H _ I h => ld_blt I hg hm hv ⟨v, H, I, r, h⟩ hn hd

variable {a b : Expr} {ta tb : TE} {pos : Pos}
variable {tA tB' : TT} {rest : List Expr}
def tAnd (t u : TT) : TT := fun σ H Q => t σ H fun c H1 => if c = true then u σ H1 Q else Q false H1
def tOr (t u : TT) : TT := fun σ H Q => t σ H fun c H1 => if c = true then Q true H1 else u σ H1 Q
def tNot (t : TT) : TT := fun σ H Q => t σ H fun c H1 => Q (!c) H1
theorem pw_and1 (ha : PT X a tA) : PW X (.BoolOp .And [a] pos) tA := by
  intro wh pins s σ H Q I h
  refine isTrue_and (thn (ha pins s σ H Q I h) fun c s1 e => ?_)
  cases c with
  | true => exact isTrue_and_nil e
  | false => exact e
theorem pw_or1 (ha : PT X a tA) : PW X (.BoolOp .Or [a] pos) tA := by
  intro wh pins s σ H Q I h
  refine isTrue_or (thn (ha pins s σ H Q I h) fun c s1 e => ?_)
  cases c with
  | false => exact isTrue_or_nil e
  | true => exact e
theorem pw_and (ha : PT X a tA) (hb : PW X (.BoolOp .And (b :: rest) pos) tB') : PW X (.BoolOp .And (a :: b :: rest) pos) (tAnd tA tB') := by
  intro wh pins s σ H Q I h
  refine isTrue_and (thn (ha pins s σ H _ I h) fun c s1 ⟨H1, I1, q1⟩ => ?_)
  cases c with
  | true => exact hb wh pins s1 σ H1 Q I1 q1
  | false => exact ⟨H1, I1, q1⟩
theorem pw_or (ha : PT X a tA) (hb : PW X (.BoolOp .Or (b :: rest) pos) tB') : PW X (.BoolOp .Or (a :: b :: rest) pos) (tOr tA tB') := by
  intro wh pins s σ H Q I h
  refine isTrue_or (thn (ha pins s σ H _ I h) fun c s1 ⟨H1, I1, q1⟩ => ?_)
  cases c with
  | true => exact ⟨H1, I1, q1⟩
  | false => exact hb wh pins s1 σ H1 Q I1 q1
theorem pt_not (ha : PT X a tA) : PT X (.UnaryOp .Not a pos) (tNot tA) := by
  intro pins s σ H Q I h
  exact isTrue_not (ha pins s σ H (fun c H1 => Q (!c) H1) I h)
def tAndV (ta tb : TE) : TE := fun σ H Q => ta σ H fun x H1 => ∃ c, x = .bl c ∧ if c = true then tb σ H1 Q else Q (.bl false) H1
def tNotV (ta : TE) : TE := fun σ H Q => ta σ H fun x H1 => ∃ c, x = .bl c ∧ Q (.bl (!c)) H1
theorem pe_one {op} {t : TE} (h : PE X a t) : PE X (.BoolOp op [a] pos) t := fun pins s σ H Q I hw => BoolOp_one (h pins s σ H Q I hw)
theorem pe_and (ha : PE X a ta) (hb : PE X (.BoolOp .And (b :: rest) pos) tb) : PE X (.BoolOp .And (a :: b :: rest) pos) (tAndV ta tb) := by
  intro pins s σ H Q I h
  refine BoolOp_and (thn (ha pins s σ H _ I h) fun v s1 ⟨x, H1, I1, r1, q1⟩ => ?_)
  obtain ⟨c, rfl, q1⟩ := q1
  cases r1
  refine wpAny_truthy_bool ?_
  cases c with
  | true => exact hb pins s1 σ H1 Q I1 q1
  | false => exact ⟨.bl false, H1, I1, rfl, q1⟩
theorem pe_not (ha : PE X a ta) : PE X (.UnaryOp .Not a pos) (tNotV ta) := by
  intro pins s σ H Q I h
  refine UnaryOp_ (thn (ha pins s σ H _ I h) fun v s1 ⟨x, H1, I1, r1, q1⟩ => ?_)
  obtain ⟨c, rfl, q1⟩ := q1
  cases r1
  exact not_of (wpAny_truthy_bool ⟨.bl (!c), H1, I1, rfl, q1⟩)
def tIf (t : TT) (ta tb : TE) : TE := fun σ H Q => t σ H fun c H1 => if c = true then ta σ H1 Q else tb σ H1 Q
theorem pe_ifExp {c : Expr} (hc : PT X c tA) (ha : PE X a ta) (hb : PE X b tb) : PE X (.IfExp c a b pos) (tIf tA ta tb) := by
  intro pins s σ H Q I h
  refine wpAny_IfExp (thn (hc pins s σ H _ I h) fun d s1 ⟨H1, I1, q1⟩ => ?_)
  cases d with
  | true => exact ha pins s1 σ H1 Q I1 q1
  | false => exact hb pins s1 σ H1 Q I1 q1
end
end L2

namespace L2
open PySem PySem.Spec PyProof.Rows

def SqL (K : PySem.W.Frag) (H : Hp) (a : Addr) (xs : List V) : Prop :=
  Rd H a (.lst xs) ∨
    ∃ (o : Obj) (its : Array Value) (n : Nat), K.lookup a = some o ∧ o.cls = .type "list" ∧ o.dict = none ∧ o.data = .seq its n ∧ its.size ≤ sizeLine ∧ Vals xs its.toList
def SqT (K : PySem.W.Frag) (H : Hp) (a : Addr) (xs : List V) : Prop :=
  Rd H a (.tup xs) ∨
    ∃ (o : Obj) (its : Array Value) (n : Nat), K.lookup a = some o ∧ o.cls = .type "tuple" ∧ o.data = .seq its n ∧ its.size ≤ sizeLine ∧ Vals xs its.toList
def absV : Value → Option V
  | .none => some .non
  | .bool b => some (.bl b)
  | .int i _ => some (.int i)
  | .str x _ => some (.str x)
  | .bytes b _ => some (.byt b)
  | .float b _ => some (.flt b)
  | .ref a => some (.ref a)
  | .type n => some (.ty n)
  | _ => none
theorem RelV.abs {x : V} {u : Value} (r : RelV x u) : absV u = some x := by
  cases x with
  | non => cases r; rfl
  | bl _ => cases r; rfl
  | int _ => obtain ⟨t, rfl⟩ := r; rfl
  | str _ => obtain ⟨t, rfl⟩ := r; rfl
  | byt _ => obtain ⟨t, rfl⟩ := r; rfl
  | flt _ => obtain ⟨t, rfl⟩ := r; rfl
  | ref _ => cases r; rfl
  | ty _ => cases r; rfl
theorem RelV.inj {x y : V} {u : Value} (r : RelV x u) (q : RelV y u) : x = y := Option.some.inj (r.abs.symm.trans q.abs)
theorem Vals.inj : ∀ {xs ys : List V} {us : List Value}, Vals xs us → Vals ys us → xs = ys
  | _, _, _, .nil, .nil => rfl
  | _, _, _, .cons r t, .cons r' t' => by rw [r.inj r', Vals.inj t t']
section
variable {X : Cx} {pins : List (Addr × Obj)} {σ : St} {H : Hp} {s : Shared} {a : Addr} {xs ys : List V}
theorem SqL.of {K : PySem.W.Frag} (h : H a = some (.lst xs)) : SqL K H a xs := .inl (.inl h)
theorem SqT.of {K : PySem.W.Frag} (h : H a = some (.tup xs)) : SqT K H a xs := .inl (.inl h)
theorem Inv.list (I : Inv X pins σ H s) (h : SqL X.K H a xs) : ∃ its : List Value, Vals xs its ∧ PlainL s.heap a its.toArray ∧ xs.length ≤ sizeLine := by
  rcases h with h | ⟨o, its, n, hk, hc, hd, hs, hz, r⟩
  · obtain ⟨z, its, n, r, e⟩ := h.ok I.hok
    exact ⟨its, r, ⟨_, n, e, rfl, rfl, rfl⟩, z⟩
  · refine ⟨its.toList, r, ⟨o, n, I.kIn a o hk, hc, hd, by simpa using hs⟩, ?_⟩
    have e := r.length
    simp only [Array.length_toList] at e
    omega
theorem Inv.tuple (I : Inv X pins σ H s) (h : SqT X.K H a xs) : ∃ its : List Value, Vals xs its ∧ IsTup s.heap a its.toArray ∧ xs.length ≤ sizeLine := by
  rcases h with h | ⟨o, its, n, hk, hc, hs, hz, r⟩
  · obtain ⟨z, its, r, p⟩ := h.ok I.hok
    exact ⟨its, r, p, z⟩
  · refine ⟨its.toList, r, ⟨o, I.kIn a o hk, hc, n, by simpa using hs⟩, ?_⟩
    have e := r.length
    simp only [Array.length_toList] at e
    omega
theorem Inv.list_inj (I : Inv X pins σ H s) (h : SqL X.K H a xs) (h' : SqL X.K H a ys) : xs = ys := by
  obtain ⟨its, r, ⟨o, n, e, _, _, d⟩, _⟩ := I.list h
  obtain ⟨its', r', ⟨o', n', e', _, _, d'⟩, _⟩ := I.list h'
  rw [e] at e'; cases e'
  rw [d] at d'
  injection d' with d1 _
  have : its = its' := by simpa using congrArg Array.toList d1
  subst this
  exact r.inj r'
theorem Inv.tuple_inj (I : Inv X pins σ H s) (h : SqT X.K H a xs) (h' : SqT X.K H a ys) : xs = ys := by
  obtain ⟨its, r, ⟨o, e, _, n, d⟩, _⟩ := I.tuple h
  obtain ⟨its', r', ⟨o', e', _, n', d'⟩, _⟩ := I.tuple h'
  rw [e] at e'; cases e'
  rw [d] at d'
  injection d' with d1 _
  have : its = its' := by simpa using congrArg Array.toList d1
  subst this
  exact r.inj r'
end

abbrev Cx.wish (X : Cx) (E : Value → Shared → Prop) : Cx := { X with xe := E }
abbrev Cx.nox (X : Cx) : Cx := X.wish fun _ _ => False
theorem Cx.Ok.wish {X : Cx} (ok : X.Ok) (E : Value → Shared → Prop) : (X.wish E).Ok :=
  ⟨ok.mod, ok.kind, ok.glob, ok.blt, ok.above, ok.inj, ok.has, ok.cab, ok.hd, ok.frames, ok.stk, ok.exf, ok.bs, ok.bsz, ok.noex, ok.exfs, ok.funs, ok.frf⟩
theorem Cx.Ok.unwish {X : Cx} {E : Value → Shared → Prop} (ok : (X.wish E).Ok) : X.Ok :=
  ⟨ok.mod, ok.kind, ok.glob, ok.blt, ok.above, ok.inj, ok.has, ok.cab, ok.hd, ok.frames, ok.stk, ok.exf, ok.bs, ok.bsz, ok.noex, ok.exfs, ok.funs, ok.frf⟩
section
variable {X : Cx} {pins : List (Addr × Obj)} {σ : St} {H : Hp} {s : Shared} {E : Value → Shared → Prop}
theorem Inv.wish (I : Inv X pins σ H s) (E : Value → Shared → Prop) : Inv (X.wish E) pins σ H s := ⟨I.ok.wish E, I.os, I.bare, I.base, I.loc, I.cell, I.free, I.freeC, I.pin, I.hok, I.len⟩
theorem Inv.unwish (I : Inv (X.wish E) pins σ H s) : Inv X pins σ H s := ⟨I.ok.unwish, I.os, I.bare, I.base, I.loc, I.cell, I.free, I.freeC, I.pin, I.hok, I.len⟩
theorem SP.unwish {D : Ends} {f : Flow} {s' : Shared} (h : SP (X.wish E) pins D f s') : SP X pins D f s' := by
  cases f with
  | next => obtain ⟨σ', H', I, q⟩ := h; exact ⟨σ', H', I.unwish, q⟩
  | brk => obtain ⟨σ', H', I, q⟩ := h; exact ⟨σ', H', I.unwish, q⟩
  | cont => obtain ⟨σ', H', I, q⟩ := h; exact ⟨σ', H', I.unwish, q⟩
  | ret u => obtain ⟨v, σ', H', I, r, q⟩ := h; exact ⟨v, σ', H', I.unwish, r, q⟩
theorem PE.nox {e : Expr} {t : TE} (h : PE X.nox e t) : PE X e t := fun pins s σ H Q I hw =>
  wpAny_mono (h pins s σ H Q (I.wish _) hw) (fun _ _ ⟨v, H', I', r, q⟩ => ⟨v, H', I'.unwish, r, q⟩) fun _ _ z => False.elim z
theorem PT.nox {e : Expr} {t : TT} (h : PT X.nox e t) : PT X e t := fun pins s σ H Q I hw =>
  wpAny_mono (h pins s σ H Q (I.wish _) hw) (fun _ _ ⟨H', I', q⟩ => ⟨H', I'.unwish, q⟩) fun _ _ z => False.elim z
theorem PSs.nox {st : List Stmt} {t : TS} (h : PSs X.nox st t) : PSs X st t := fun pins s σ H D I hw =>
  wpAny_mono (h pins s σ H D (I.wish _) hw) (fun _ _ q => q.unwish) fun _ _ z => False.elim z
end

section
variable {X : Cx} {st : Stmt} {rest : List Stmt} {t u : TS} {e : Expr} {te : TE} {pos : Pos}
def tNext : TS := fun D σ H => D.nx σ H
def tSeq (t u : TS) : TS := fun D σ H => t { D with nx := u D } σ H
theorem pss_nil : PSs X [] tNext := fun _ _ σ H _ I h => wpAny_execs_nil ⟨σ, H, I, h⟩
theorem pss_cons (h1 : PS X st t) (h2 : PSs X rest u) : PSs X (st :: rest) (tSeq t u) := by
  intro pins s σ H D I h
  refine wpAny_execs_cons (thn (h1 pins s σ H { D with nx := u D } I h) fun f s1 q => ?_)
  cases f with
  | next =>
    obtain ⟨σ', H', I', q⟩ := q
    exact h2 pins s1 σ' H' D I' q
  | ret v => exact q
  | brk => exact q
  | cont => exact q
theorem pss_one (h1 : PS X st t) : PSs X [st] t := by
  intro pins s σ H D I h
  refine wpAny_execs_cons (thn (h1 pins s σ H D I h) fun f s1 q => ?_)
  cases f with
  | next => exact wpAny_execs_nil q
  | ret v => exact q
  | brk => exact q
  | cont => exact q
theorem Inv.quiet {pins : List (Addr × Obj)} {σ : St} {H : Hp} {s : Shared} (I : Inv X pins σ H s) : interactive X.env = false := by simp [interactive, I.ok.kind]
def tDrop (te : TE) : TS := fun D σ H => te σ H fun _ H1 => D.nx σ H1
theorem ps_expr (he : PE X e te) (hs : swapsWith e none pos.line X.env = pure false := by rfl) : PS X (.Expr e pos) (tDrop te) := by
  intro pins s σ H D I h
  exact wpAny_Expr_any (thn (he pins s σ H _ I h) fun v s1 ⟨x, H1, I1, r1, q1⟩ => ⟨σ, H1, I1, q1⟩) I.quiet hs
def tRet (te : TE) : TS := fun D σ H => te σ H D.rt
theorem ps_ret (he : PE X e te) : PS X (.Return (some e) pos) (tRet te) := by
  intro pins s σ H D I h
  exact wpAny_Return_some (thn (he pins s σ H _ I h) fun v s1 ⟨x, H1, I1, r1, q1⟩ => ⟨x, σ, H1, I1, r1, q1⟩)
def tIfS (c : TT) (t u : TS) : TS := fun D σ H => c σ H fun b H1 => if b = true then t D σ H1 else u D σ H1
theorem ps_if {c : Expr} {a b : List Stmt} {tc : TT} (hc : PT X c tc) (ha : PSs X a t) (hb : PSs X b u) : PS X (.If c a b pos) (tIfS tc t u) := by
  intro pins s σ H D I h
  refine wpAny_If (thn (hc pins s σ H _ I h) fun d s1 ⟨H1, I1, q1⟩ => ?_)
  cases d with
  | true => exact ha pins s1 σ H1 D I1 q1
  | false => exact hb pins s1 σ H1 D I1 q1
def tNever : TS := fun _ _ _ => False
theorem pss_never {sts : List Stmt} : PSs X sts tNever := fun _ _ _ _ _ _ h => h.elim
end

abbrev TG := V → St → Hp → (St → Hp → Prop) → Prop
abbrev TGs := List V → St → Hp → (St → Hp → Prop) → Prop
def PG (X : Cx) (target : Expr) (t : TG) : Prop :=
  ∀ (pins : List (Addr × Obj)) (s : Shared) (σ : St) (H : Hp) (v : V) (u : Value) (Q : St → Hp → Prop), Inv X pins σ H s → RelV v u → t v σ H Q →
    wpAny (model X.prog X.w) X.A (assign target X.env u) (fun _ s' => ∃ σ' H', Inv X pins σ' H' s' ∧ Q σ' H') X.xe s
def PGs (X : Cx) (ts : List Expr) (t : TGs) : Prop :=
  ∀ (pins : List (Addr × Obj)) (s : Shared) (σ : St) (H : Hp) (vs : List V) (us : List Value) (Q : St → Hp → Prop), Inv X pins σ H s → Vals vs us → t vs σ H Q →
    wpAny (model X.prog X.w) X.A (assignInOrder ((assignEach ts X.env).map (·.2)) us) (fun _ s' => ∃ σ' H', Inv X pins σ' H' s' ∧ Q σ' H') X.xe s
abbrev TSet := V → V → V → Hp → (Hp → Prop) → Prop
def PSet (X : Cx) (t : TSet) : Prop :=
  ∀ (pins : List (Addr × Obj)) (s : Shared) (σ : St) (H : Hp) (o i v : V) (ov iv u : Value) (Q : Hp → Prop), Inv X pins σ H s → RelV o ov → RelV i iv → RelV v u → t o i v H Q →
    wpAny (model X.prog X.w) X.A (setItem ov iv u) (fun _ s' => ∃ H', Inv X pins σ H' s' ∧ Q H') X.xe s
section
variable {X : Cx} {pos : Pos}
def gName (i : Nat) : TG := fun v σ H Q => Q (σ.set i (some v)) H
theorem pg_name {i : Nat} {x : Str} (hN : X.N.Nodup) (hi : X.N[i]? = some x) (hx : Loc X.env.scope x) (hf : X.fn x = true ∨ X.env.scope.names.lookup x = some .local := by first | exact .inl rfl | exact .inr rfl | assumption) : PG X (.Name x pos) (gName i) := by
  intro pins s σ H v u Q I r h
  exact wpAny_assign_Name (store_ok I hN hi hx r (fun s' I' => ⟨_, H, I', h⟩) hf)
def gNil : TGs := fun vs σ H Q => vs = [] ∧ Q σ H
def gCons (t : TG) (u : TGs) : TGs := fun vs σ H Q => ∃ v r, vs = v :: r ∧ t v σ H fun σ' H' => u r σ' H' Q
theorem pgs_nil : PGs X [] gNil := by
  intro pins s σ H vs us Q I r h
  obtain ⟨e, h⟩ := h
  subst e
  cases r
  exact assignInOrder_nil ⟨σ, H, I, h⟩
theorem pgs_cons {e : Expr} {es : List Expr} {t : TG} {u : TGs} (h1 : PG X e t) (h2 : PGs X es u)
    (hs : (assignEach (e :: es) X.env).map (·.2) = assign e X.env :: (assignEach es X.env).map (·.2) := by rfl) : PGs X (e :: es) (gCons t u) := by
  intro pins s σ H vs us Q I r h
  obtain ⟨v, vr, e1, h⟩ := h
  subst e1
  cases r with
  | cons r rr =>
    rw [hs]
    refine assignInOrder_cons (thn (h1 pins s σ H _ _ _ I r h) fun _ s1 ⟨σ1, H1, I1, q1⟩ => ?_)
    exact h2 pins s1 σ1 H1 _ _ Q I1 rr q1
def gTup (K : PySem.W.Frag) (n : Nat) (t : TGs) : TG := fun v σ H Q => ∃ a xs, v = .ref a ∧ SqT K H a xs ∧ xs.length = n ∧ t xs σ H Q
theorem pg_tup {es : List Expr} {k : Nat} {t : TGs} {n : Nat} (hc : X.calm = true) (h : PGs X es t)
    (hn : (assignEach es X.env).length = n := by rfl) (hst : (assignEach es X.env).findIdx? (·.1) = none := by rfl) : PG X (.Tuple es k pos) (gTup X.K n t) := by
  intro pins s σ H v u Q I r hw
  obtain ⟨a, xs, e1, hq, hl, hw⟩ := hw
  subst e1
  cases r
  obtain ⟨its, rv, ht, hz⟩ := I.tuple hq
  refine assign_Tuple_tuple (I.ok.hd hc) ht (by simp [hn, ← hl, rv.length]) hst fun h' hx => ?_
  have I1 : Inv X pins σ H { s with heap := h' } := I.kept (t' := s.toks) fun b o e => hx b o (Nat.ne_of_lt (Heap.lt_size e)) e
  exact h pins _ σ H xs _ Q I1 (by simpa using rv) hw
def gSub (to ti : TE) (t : TSet) : TG := fun v σ H Q => to σ H fun o H1 => ti σ H1 fun i H2 => t o i v H2 fun H3 => Q σ H3
theorem pg_sub {o i : Expr} {to ti : TE} {t : TSet} (ho : PE X o to) (hi : PE X i ti) (hs : PSet X t)
    (ha : ∀ v, assign (.Subscript o i pos) X.env v = (do
      let ov ← holding [v] (eval o X.env)
      let iv ← holding [v, ov] (eval i X.env)
      standAt pos
      holding [v, ov, iv] (setItem ov iv v)
      release [v, ov, iv] []) := by intro _; rfl) : PG X (.Subscript o i pos) (gSub to ti t) := by
  intro pins s σ H v u Q I r h
  rw [ha]
  refine wpAny_bind (wpAny_holding (thn (ho pins s σ H _ I h) fun ov s1 ⟨x, H1, I1, r1, q1⟩ => ?_))
  refine wpAny_bind (wpAny_holding (thn (hi pins s1 σ H1 _ I1 q1) fun iv s2 ⟨y, H2, I2, r2, q2⟩ => ?_))
  refine wpAny_bind (wpAny_standAt (wpAny_bind (wpAny_holding (thn (hs pins s2 σ H2 x y v ov iv u _ I2 r1 r2 r q2) fun _ s3 ⟨H3, I3, q3⟩ => ?_))))
  exact wpAny_release ⟨σ, H3, I3, q3⟩
def tAsg (te : TE) (g : TG) : TS := fun D σ H => te σ H fun x H1 => g x σ H1 D.nx
theorem ps_asg {tg e : Expr} {te : TE} {g : TG} (he : PE X e te) (hg : PG X tg g) (hs : swapsWithSole [tg] e pos.line X.env = pure false := by rfl) (hw : swappedStores [tg] e X.env = pure none := by rfl)
    (h1 : (assignEach [tg] X.env).map (·.2) = [assign tg X.env] := by rfl) : PS X (.Assign [tg] e pos) (tAsg te g) := by
  intro pins s σ H D I h
  refine wpAny_Assign_stores (thn (he pins s σ H _ I h) fun v s1 ⟨x, H1, I1, r1, q1⟩ => ?_) hs hw
  rw [h1]
  exact thn (hg pins s1 σ H1 x v _ I1 r1 q1) fun _ s2 q => q
theorem ps_set {i : Nat} {x : Str} {e : Expr} {te : TE} {pos' : Pos} (hN : X.N.Nodup) (hi : X.N[i]? = some x) (hx : Loc X.env.scope x) (he : PE X e te) (hs : swapsWith e (some (.Name x pos')) pos.line X.env = pure false := by rfl) (hf : X.fn x = true ∨ X.env.scope.names.lookup x = some .local := by first | exact .inl rfl | exact .inr rfl | assumption) :
    PS X (.Assign [.Name x pos'] e pos) (tAsg te (gName i)) := by
  intro pins s σ H D I h
  refine wpAny_Assign_Name (thn (he pins s σ H _ I h) fun v s1 ⟨y, H1, I1, r1, q1⟩ => ?_) hs
  exact store_ok I1 hN hi hx r1 (fun s2 I2 => ⟨_, H1, I2, q1⟩) hf
def tPar (i j : Nat) (ta : TA) : TS := fun D σ H => ta σ H fun vs H1 => ∃ v w, vs = [v, w] ∧ D.nx ((σ.set i (some v)).set j (some w)) H1
theorem ps_par {i j : Nat} {x y : Str} {a b : Expr} {ta : TA} {px py pt : Pos} {kt k2 pt2} (hc : X.calm = true) (hN : X.N.Nodup) (hi : X.N[i]? = some x) (hj : X.N[j]? = some y) (hij : i ≠ j)
    (hx : X.env.scope.names.lookup x = some .local) (hy : X.env.scope.names.lookup y = some .local) (ha : PA X [a, b] ta)
    (hw : swappedStores [.Tuple [.Name x px, .Name y py] kt pt] (.Tuple [a, b] k2 pt2) X.env = pure (some [x, y]))
    (hs : swapsWithSole [.Tuple [.Name x px, .Name y py] kt pt] (.Tuple [a, b] k2 pt2) pos.line X.env = pure false := by rfl) :
    PS X (.Assign [.Tuple [.Name x px, .Name y py] kt pt] (.Tuple [a, b] k2 pt2) pos) (tPar i j ta) := by
  intro pins s σ H D I h
  rw [exec_Assign_arm]
  refine wpAny_bind (wpAny_standAt ?_)
  rw [hs]
  refine wpAny_bind (wpAny_pure ?_)
  rw [if_neg (by decide)]
  refine wpAny_bind (Tuple_ (thn (ha _ pins s σ H _ I h) fun us s1 ⟨vs, H1, I1, r1, q1⟩ => ?_))
  obtain ⟨v, w, e1, q1⟩ := q1
  subst e1
  obtain ⟨u1, u2, rfl, rv, rw'⟩ : ∃ u1 u2, us = [u1, u2] ∧ RelV v u1 ∧ RelV w u2 := by
    cases r1 with
    | cons p q =>
      cases q with
      | cons p' q' =>
        cases q'
        exact ⟨_, _, rfl, p, p'⟩
  refine wpAny_newObj_type ?_ (by show 2 ≤ sizeLine; decide)
  have I2 : Inv X pins σ H1 { s1 with heap := s1.heap.push { cls := .type "tuple", data := .seq [u1, u2].toArray } } := I1.kept (t' := s1.toks) fun b o e => Heap.get?_push_of_some _ e
  rw [hw]
  refine wpAny_bind (wpAny_pure ?_)
  show wpAny (model X.prog X.w) X.A (do rule "assign.swapped-stores"; let items ← unpackItems (.ref s1.heap.objs.size) 2 none; assignInOrder [fun v => bindName X.env y v, fun v => bindName X.env x v] items.reverse; pure Flow.next) _ _ _
  refine wpAny_bind (wpAny_rule (wpAny_bind (unpackItems_tuple (items := #[u1, u2]) (I.ok.hd hc) (IsTup.new s1.heap _) fun h' hx' => ?_)))
  have I3 := I2.kept (h' := h') (t' := s1.toks) fun b o e => hx' b o (Nat.ne_of_lt (Heap.lt_size e)) e
  show wpAny _ _ (assignInOrder [fun v => bindName X.env y v, fun v => bindName X.env x v] [u2, u1] >>= fun _ => pure Flow.next) _ _ _
  refine wpAny_bind (assignInOrder_cons (wpAny_bindName (store_ok I3 hN hj (.inl hy) rw' (fun s2 I4 => ?_) (.inr hy))))
  refine assignInOrder_cons (wpAny_bindName (store_ok I4 hN hi (.inl hx) rv (fun s3 I5 => assignInOrder_nil (wpAny_pure ?_)) (.inr hx)))
  rw [List.set_comm _ _ (Ne.symm hij)] at I5
  exact ⟨_, H1, I5, q1⟩
end

section
variable {X : Cx} {pos : Pos}
def tWhile (c : TT) (tb : TS) : TS := fun D σ H => ∃ W : Nat → St → Hp → Prop, (∃ m, W m σ H) ∧ ∀ m σ H, W m σ H →
  c σ H fun b H1 => if b = true then ∃ N : St → Hp → Prop, (∀ σ' H', N σ' H' → ∃ m', m' < m ∧ W m' σ' H') ∧ tb { D with nx := N, ct := N, bk := D.nx } σ H1 else D.nx σ H1
theorem ps_while {c : Expr} {body : List Stmt} {tc : TT} {tb : TS} (hp : PassesOwn (model X.prog X.w) X.A X.env X.xe) (hc : PT X c tc) (hb : PSs X body tb) : PS X (.While c body [] pos) (tWhile tc tb) := by
  intro pins s σ H D I h
  obtain ⟨W, ⟨m0, w0⟩, turn⟩ := h
  refine wpAny_While (codeAny_whileLoop (fun n s' => ∃ σ' H', Inv X pins σ' H' s' ∧ W n σ' H') ?_ m0 ⟨σ, H, I, w0⟩)
  rintro n s1 ⟨σ1, H1, I1, w1⟩
  refine wpAny_passesOwn hp (thn (hc pins s1 σ1 H1 _ I1 (turn n σ1 H1 w1)) fun b s2 ⟨H2, I2, q2⟩ => ?_)
  cases b with
  | true =>
    obtain ⟨N, hN, q2⟩ := q2
    rw [if_pos rfl]
    refine wpAny_passesOwn hp (thn (hb pins s2 σ1 H2 _ I2 q2) fun f s3 q3 => ?_)
    cases f with
    | next =>
      obtain ⟨σ3, H3, I3, n3⟩ := q3
      obtain ⟨m', hm, w3⟩ := hN σ3 H3 n3
      exact ⟨m', hm, σ3, H3, I3, w3⟩
    | cont =>
      obtain ⟨σ3, H3, I3, n3⟩ := q3
      obtain ⟨m', hm, w3⟩ := hN σ3 H3 n3
      exact ⟨m', hm, σ3, H3, I3, w3⟩
    | brk => exact q3
    | ret v => exact q3
  | false =>
    rw [if_neg Bool.false_ne_true]
    exact wpAny_execs_nil ⟨σ1, H2, I2, q2⟩
end

structure It where
  go : Nat → Hp → Prop
  yld : Nat → Hp → V → Hp → Prop
  stop : Nat → Hp → Prop
def FpOk (X : Cx) (pins : List (Addr × Obj)) (H : Hp) (b : Addr) : Prop :=
  H b = none ∧ b ≠ X.env.locals ∧ b ∉ X.fs ∧ (b ∈ X.ex ∨ X.s₀.heap.objs.size ≤ b) ∧ (∀ x c, X.env.cells.lookup x = some c → c ≠ b) ∧ ∀ p ∈ X.pn ++ pins, p.1 ≠ b
theorem Inv.fpOk {X : Cx} {pins : List (Addr × Obj)} {σ : St} {H H' : Hp} {s : Shared} {b : Addr} (I : Inv X pins σ H s) (hb : s.heap.objs.size ≤ b) (hn : H' b = none) : FpOk X pins H' b := by
  refine ⟨hn, Nat.ne_of_gt (Nat.lt_of_lt_of_le I.lt hb), I.nofs hb, .inr (Nat.le_trans I.sz hb), fun x c e z => ?_, fun p hp z => ?_⟩
  · obtain ⟨v, q⟩ := I.cell x c e
    exact absurd (Nat.lt_of_lt_of_le q.lt (by rw [z]; exact hb)) (Nat.lt_irrefl _)
  · exact absurd (Nat.lt_of_lt_of_le (Heap.lt_size (I.pin p hp).1) (by rw [z]; exact hb)) (Nat.lt_irrefl _)
structure Turn (P : Program) (w : World) (K : PySem.W.Frag) (tg : Expr) (J : It) (fp : List Addr) (it : Addr) (tn : Nat → Heap → Prop) : Prop where
  mem : it ∈ fp
  obj : ∀ i h, tn i h → ∀ b ∈ fp, ∃ o, h.get? b = some o ∧ ∀ v, o.data ≠ .cell v
  keep : ∀ i h h', tn i h → (∀ b ∈ fp, ∀ o, h.get? b = some o → h'.get? b = some o) → tn i h'
  item : ∀ (X : Cx), X.prog = P → X.w = w → X.K = K → X.calm = true → ∀ (i : Nat) (pins : List (Addr × Obj)) (s : Shared) (σ : St) (H : Hp) (E : Value → Shared → Prop), Inv X pins σ H s → (∀ b ∈ fp, FpOk X pins H b) → tn i s.heap → J.go i H →
    wpAny (model P w) X.A (pyNext (.ref it)) (fun r s1 => ∃ u, r = some u ∧
      wpAny (model P w) X.A (letOwnedTupleGo tg (.ref it) u) (fun _ s2 => ∃ x H', Inv X pins σ H' s2 ∧ RelV x u ∧ J.yld i H x H' ∧ tn (i + 1) s2.heap ∧ ∀ b ∈ fp, H' b = none) E s1) E s
  done : ∀ (X : Cx), X.prog = P → X.w = w → X.K = K → X.calm = true → ∀ (i : Nat) (pins : List (Addr × Obj)) (s : Shared) (σ : St) (H : Hp) (E : Value → Shared → Prop), Inv X pins σ H s → (∀ b ∈ fp, FpOk X pins H b) → tn i s.heap → J.stop i H →
    wpAny (model P w) X.A (pyNext (.ref it)) (fun r s1 => r = none ∧ Inv X pins σ H s1) E s
  self : ∀ (A : Around) (i : Nat) (s : Shared) (Q : Value → Shared → Prop) (E : Value → Shared → Prop), tn i s.heap → Q (.ref it) s → wpAny (model P w) A (pyIter (.ref it)) Q E s
abbrev TI := St → Hp → (It → Hp → Prop) → Prop
def PIE (X : Cx) (pins : List (Addr × Obj)) (σ : St) (tg : Expr) (R : It → Hp → Prop) (itv : Value) (s2 : Shared) : Prop :=
  ∃ (it : Addr) (fp : List Addr) (tn : Nat → Heap → Prop) (J : It) (H' : Hp), itv = .ref it ∧ Inv X pins σ H' s2 ∧ Turn X.prog X.w X.K tg J fp it tn ∧ tn 0 s2.heap ∧ (∀ b ∈ fp, FpOk X pins H' b) ∧ R J H'
def PI (X : Cx) (tg iter : Expr) (wi : TI) : Prop :=
  ∀ (pins : List (Addr × Obj)) (s : Shared) (σ : St) (H : Hp) (R : It → Hp → Prop), Inv X pins σ H s → wi σ H R →
    wpAny (model X.prog X.w) X.A (eval iter X.env) (fun v s1 => wpAny (model X.prog X.w) X.A (pyIter v) (PIE X pins σ tg R) X.xe s1) X.xe s

theorem go_of {M : Model} {A : Around} {E : Value → Shared → Prop} {s : Shared} {tg : Expr} {it : Addr} {u : Value} {o : Obj} {n : String} {vs : Array Value} {Q : Unit → Shared → Prop} (ho : s.heap.get? it = some o) (hc : o.cls = .type n) (hd : o.data = .fields vs)
    (hn : ["enumerate", "zip", "dict_itemiterator", "dict_reverseitemiterator", "odict_iterator", "itertools.zip_longest", "itertools.pairwise"].contains n = false) (hQ : Q () s) : wpAny M A (letOwnedTupleGo tg (.ref it) u) Q E s := by
  unfold letOwnedTupleGo
  cases tg <;> first
    | exact wpAny_pure hQ
    | (cases u <;> first
        | exact wpAny_pure hQ
        | (refine wpAny_bind (wpAny_load ho ?_)
           rw [hc, hd]
           show wpAny M A (if (["enumerate", "zip", "dict_itemiterator", "dict_reverseitemiterator", "odict_iterator", "itertools.zip_longest", "itertools.pairwise"].contains n && vs[0]? == some (rawInt _)) = true then _ else _) Q E s
           rw [if_neg (by intro h; rw [hn, Bool.false_and] at h; cases h)]
           exact wpAny_pure hQ))

def Itl (K : PySem.W.Frag) (a : Addr) : It :=
  ⟨fun i H => ∃ xs x, SqL K H a xs ∧ xs[i]? = some x, fun i H x H' => H' = H ∧ ∀ xs, SqL K H a xs → xs[i]? = some x, fun i H => ∃ xs, SqL K H a xs ∧ xs.length ≤ i⟩
def Itt (K : PySem.W.Frag) (a : Addr) : It :=
  ⟨fun i H => ∃ xs x, SqT K H a xs ∧ xs[i]? = some x, fun i H x H' => H' = H ∧ ∀ xs, SqT K H a xs → xs[i]? = some x, fun i H => ∃ xs, SqT K H a xs ∧ xs.length ≤ i⟩
def Itr (lo : Int) (n : Nat) : It := ⟨fun i _ => i < n, fun i H x H' => H' = H ∧ x = .int (lo + i), fun i _ => n ≤ i⟩
theorem turn_list {P : Program} {w : World} {K : PySem.W.Frag} {tg : Expr} (a it : Addr) : Turn P w K tg (Itl K a) [it] it (fun i h => h.IsListIter it a i) where
  mem := by simp
  obj := fun i h st b hb => by
    have e : b = it := by simpa using hb
    subst e
    obtain ⟨o, e, c, d⟩ := st
    exact ⟨o, e, fun v z => by rw [d] at z; cases z⟩
  keep := fun i h h' st k => st.at fun o e => k it (by simp) o e
  item := by
    intro X hP hw hK hc i pins s σ H E I hf st hg
    subst hP hw hK
    obtain ⟨xs, x, hq, hx⟩ := hg
    obtain ⟨its, rv, p, hz⟩ := I.list hq
    obtain ⟨u, hu, ru⟩ := rv.get hx
    obtain ⟨f0, f1, f2, f3, f4, f5⟩ := hf it (by simp)
    refine wpAny_pyNext_list_item st p.isList (x := u) (by simpa using hu) fun h' st' sb => ?_
    have I1 : Inv X pins σ H { s with heap := h' } := I.turned (t' := s.toks) (fun b o hb e => (sb.2 b hb).trans e) f0 f1 f3 f4 f5
    obtain ⟨o, e, c, d⟩ := id st'
    exact ⟨u, rfl, go_of (s := { s with heap := h' }) e c d (by decide) ⟨x, H, I1, ru, ⟨rfl, fun ys hy => by rw [I.list_inj hy hq]; exact hx⟩, st', fun b hb => (hf b hb).1⟩⟩
  done := by
    intro X hP hw hK hc i pins s σ H E I hf st hg
    subst hP hw hK
    obtain ⟨xs, hq, hx⟩ := hg
    obtain ⟨its, rv, p, hz⟩ := I.list hq
    obtain ⟨f0, f1, f2, f3, f4, f5⟩ := hf it (by simp)
    have hl := rv.length
    exact wpAny_pyNext_list_end (I.ok.hd hc) st p.isList (by simp; omega) fun h' eb => ⟨rfl, I.turned (t' := s.toks) (fun b o hb e => eb b o hb e) f0 f1 f3 f4 f5⟩
  self := fun _ _ _ _ _ st h => wpAny_pyIter_listiter st h
theorem turn_tuple {P : Program} {w : World} {K : PySem.W.Frag} {tg : Expr} (a it : Addr) : Turn P w K tg (Itt K a) [it] it (fun i h => h.IsTupleIter it a i) where
  mem := by simp
  obj := fun i h st b hb => by
    have e : b = it := by simpa using hb
    subst e
    obtain ⟨o, e, c, d⟩ := st
    exact ⟨o, e, fun v z => by rw [d] at z; cases z⟩
  keep := fun i h h' st k => st.at fun o e => k it (by simp) o e
  item := by
    intro X hP hw hK hc i pins s σ H E I hf st hg
    subst hP hw hK
    obtain ⟨xs, x, hq, hx⟩ := hg
    obtain ⟨its, rv, p, hz⟩ := I.tuple hq
    obtain ⟨u, hu, ru⟩ := rv.get hx
    obtain ⟨f0, f1, f2, f3, f4, f5⟩ := hf it (by simp)
    refine wpAny_pyNext_tuple_item st (show s.heap.IsTuple a its.toArray from p) (x := u) (by simpa using hu) fun h' st' sb => ?_
    have I1 : Inv X pins σ H { s with heap := h' } := I.turned (t' := s.toks) (fun b o hb e => (sb.2 b hb).trans e) f0 f1 f3 f4 f5
    obtain ⟨o, e, c, d⟩ := id st'
    exact ⟨u, rfl, go_of (s := { s with heap := h' }) e c d (by decide) ⟨x, H, I1, ru, ⟨rfl, fun ys hy => by rw [I.tuple_inj hy hq]; exact hx⟩, st', fun b hb => (hf b hb).1⟩⟩
  done := by
    intro X hP hw hK hc i pins s σ H E I hf st hg
    subst hP hw hK
    obtain ⟨xs, hq, hx⟩ := hg
    obtain ⟨its, rv, p, hz⟩ := I.tuple hq
    obtain ⟨f0, f1, f2, f3, f4, f5⟩ := hf it (by simp)
    have hl := rv.length
    exact wpAny_pyNext_tuple_end (I.ok.hd hc) st (show s.heap.IsTuple a its.toArray from p) (by simp; omega) fun h' eb => ⟨rfl, I.turned (t' := s.toks) (fun b o hb e => eb b o hb e) f0 f1 f3 f4 f5⟩
  self := fun _ _ _ _ _ st h => wpAny_pyIter_tupleiter st h
theorem turn_range {P : Program} {w : World} {K : PySem.W.Frag} {tg : Expr} (it : Addr) (lo : Int) (n : Nat) : Turn P w K tg (Itr lo n) [it] it (fun i h => IsRangeIter h it (lo + (i : Nat) * 1) ((n : Int) - (i : Nat)) 1) where
  mem := by simp
  obj := fun i h st b hb => by
    have e : b = it := by simpa using hb
    subst e
    exact ⟨_, st, fun v z => by
      have z' : Data.fields _ = Data.cell v := z
      cases z'⟩
  keep := fun i h h' st k => k it (by simp) _ st
  item := by
    intro X hP hw hK hc i pins s σ H E I hf st hg
    subst hP hw hK
    obtain ⟨f0, f1, f2, f3, f4, f5⟩ := hf it (by simp)
    have W := Walks.range (prog := X.prog) (w := X.w) (I.ok.hd hc) it lo 1 n
    refine W.item i s _ _ hg st fun v h' tk hv st' kk => ?_
    obtain ⟨t, rfl⟩ := hv
    have I1 : Inv X pins σ H { s with heap := h', toks := tk } := I.turned (fun b o hb e => kk b o (by simpa using hb) e) f0 f1 f3 f4 f5
    refine ⟨_, rfl, go_of (s := { s with heap := h', toks := tk }) (n := "range_iterator") st' rfl rfl (by decide) ⟨.int (lo + i), H, I1, ⟨t, ?_⟩, ⟨rfl, rfl⟩, st', fun b hb => (hf b hb).1⟩⟩
    rw [Int.mul_one]
  done := by
    intro X hP hw hK hc i pins s σ H E I hf st hg
    subst hP hw hK
    obtain ⟨f0, f1, f2, f3, f4, f5⟩ := hf it (by simp)
    exact wpAny_pyNext_range_end (I.ok.hd hc) st (by have : n ≤ i := hg; omega) fun h' eb => ⟨rfl, I.turned (t' := s.toks) (fun b o hb e => eb b o hb e) f0 f1 f3 f4 f5⟩
  self := fun _ _ _ _ _ st h => wpAny_pyIter_rangeiter st h
end L2

namespace L2
open PySem PySem.Spec PyProof.Rows
section
variable {X : Cx} {tg : Expr}
def iTup (K : PySem.W.Frag) (tl : TE) : TI := fun σ H R => tl σ H fun x H1 => ∃ a, x = .ref a ∧ (∃ xs, SqT K H1 a xs) ∧ R (Itt K a) H1
theorem pi_tup {l : Expr} {tl : TE} (hl : PE X l tl) : PI X tg l (iTup X.K tl) := by
  intro pins s σ H R I h
  refine thn (hl pins s σ H _ I h) fun v s1 ⟨x, H1, I1, r1, q1⟩ => ?_
  obtain ⟨a, e, ⟨xs, hq⟩, q⟩ := q1
  subst e
  cases r1
  obtain ⟨its, rv, p, hz⟩ := I1.tuple hq
  refine wpAny_pyIter_tuple (show s1.heap.IsTuple a its.toArray from p) ?_
  refine ⟨s1.heap.objs.size, [s1.heap.objs.size], _, _, H1, rfl, I1.kept (t' := s1.toks) fun b o e => Heap.get?_push_of_some _ e, turn_tuple a _, ⟨_, Heap.get?_push_size _ rfl, rfl, rfl⟩, fun b hb => ?_, q⟩
  have e : b = s1.heap.objs.size := by simpa using hb
  subst e
  exact I1.fpOk (Nat.le_refl _) (I1.hok.fresh (Nat.le_refl _))
theorem range_it {pins : List (Addr × Obj)} {σ : St} {H : Hp} {s : Shared} {R : It → Hp → Prop} {E : Value → Shared → Prop} {lo hi : Int} {t u v : Tok} {tk : Nat} (I : Inv X pins σ H s) (h1 : -(2 ^ 62) ≤ lo) (h2 : lo < 2 ^ 62) (h3 : -(2 ^ 62) ≤ hi) (h4 : hi < 2 ^ 62)
    (q : R (Itr lo (hi - lo).toNat) H) : wpAny (model X.prog X.w) X.A (pyIter (.ref s.heap.objs.size)) (PIE X pins σ tg R) E { s with heap := s.heap.push { cls := .type "range", data := .fields #[.int lo t, .int hi u, .int 1 v] }, toks := tk } := by
  refine wpAny_pyIter_range (IsRange.new ..) (small_one h1 h2 h3 h4) ?_
  have I1 : Inv X pins σ H { s with heap := s.heap.push { cls := .type "range", data := .fields #[.int lo t, .int hi u, .int 1 v] }, toks := tk } := I.kept fun b o e => Heap.get?_push_of_some _ e
  refine ⟨(s.heap.push { cls := .type "range", data := .fields #[.int lo t, .int hi u, .int 1 v] }).objs.size, [(s.heap.push { cls := .type "range", data := .fields #[.int lo t, .int hi u, .int 1 v] }).objs.size], _, _, H, rfl,
    I1.kept (t' := tk) fun b o e => Heap.get?_push_of_some _ e, turn_range _ lo (hi - lo).toNat, ?_, fun b hb => ?_, q⟩
  · have e1 : lo + ((0 : Nat) : Int) * 1 = lo := by simp
    have e2 : (((hi - lo).toNat : Nat) : Int) - ((0 : Nat) : Int) = Builtin.Range.rangeSize lo hi 1 := by rw [rangeSize_one]; split <;> omega
    show IsRangeIter _ _ (lo + ((0 : Nat) : Int) * 1) ((((hi - lo).toNat : Nat) : Int) - ((0 : Nat) : Int)) 1
    rw [e1, e2]
    exact Heap.get?_push_size _ rfl
  · have e : b = (s.heap.push { cls := .type "range", data := .fields #[.int lo t, .int hi u, .int 1 v] }).objs.size := by simpa using hb
    subst e
    exact I1.fpOk (Nat.le_refl _) (I1.hok.fresh (Nat.le_refl _))
def iRng1 (ta : TA) : TI := fun σ H R => ta σ H fun vs H1 => ∃ j : Int, vs = [.int j] ∧ -(2 ^ 62) ≤ j ∧ j < 2 ^ 62 ∧ R (Itr 0 j.toNat) H1
def iRng2 (ta : TA) : TI := fun σ H R => ta σ H fun vs H1 => ∃ i j : Int, vs = [.int i, .int j] ∧ (-(2 ^ 62) ≤ i ∧ i < 2 ^ 62 ∧ -(2 ^ 62) ≤ j ∧ j < 2 ^ 62) ∧ R (Itr i (j - i).toNat) H1
theorem pi_range1 {a : Expr} {ta : TA} {p pos : Pos} (hg : Gl X "range") (hm : X.mg "range" = none) (ha : PA X [a] ta) (hs : starEach [a] X.env = [(false, eval a X.env)] := by rfl) : PI X tg (.Call (.Name "range" p) [a] [] pos) (iRng1 ta) := by
  intro pins s σ H R I h
  refine Call_ (ld_blt I hg hm boot_range (PyProof.Rows.callWith_type1 (thn (ha pos pins s σ H _ I h) fun us s1 ⟨vs, H1, I1, r1, q1⟩ => ?_) hs rfl))
  obtain ⟨j, e, q1, q2, q⟩ := q1
  subst e
  cases r1 with
  | cons r rr =>
    cases rr
    obtain ⟨t, rfl⟩ := r
    exact call_range_1 (range_it I1 (by omega) (by omega) q1 q2 (by simpa using q))
theorem pi_range2 {a b : Expr} {ta : TA} {p pos : Pos} (hg : Gl X "range") (hm : X.mg "range" = none) (ha : PA X [a, b] ta) (hs : starEach [a, b] X.env = [(false, eval a X.env), (false, eval b X.env)] := by rfl) (hs2 : starEach [b] X.env = [(false, eval b X.env)] := by rfl) :
    PI X tg (.Call (.Name "range" p) [a, b] [] pos) (iRng2 ta) := by
  intro pins s σ H R I h
  refine Call_ (ld_blt I hg hm boot_range (PyProof.Rows.callWith_type1 (thn (ha pos pins s σ H _ I h) fun us s1 ⟨vs, H1, I1, r1, q1⟩ => ?_) (by rw [hs, hs2]) (by rw [hs2]; rfl)))
  obtain ⟨i, j, e, ⟨q1, q2, q3, q4⟩, q⟩ := q1
  subst e
  cases r1 with
  | cons r rr =>
    cases rr with
    | cons r' rr =>
      cases rr
      obtain ⟨t, rfl⟩ := r
      obtain ⟨t', rfl⟩ := r'
      exact call_range_2 (range_it I1 q1 q2 q3 q4 q)

def tFor (wi : TI) (g : TG) (tb : TS) : TS := fun D σ H => wi σ H fun J H1 => ∃ W : Nat → Nat → St → Hp → Prop, (∃ m, W 0 m σ H1) ∧ ∀ i m σ H, W i m σ H →
  (J.stop i H ∧ D.nx σ H) ∨ (J.go i H ∧ ∃ N : St → Hp → Prop, (∀ σ' H', N σ' H' → ∃ m', m' < m ∧ W (i + 1) m' σ' H') ∧ ∀ x H', J.yld i H x H' → g x σ H' fun σ2 H2 => tb { D with nx := N, ct := N, bk := D.nx } σ2 H2)
def pinsAt (fp : List Addr) (h : Heap) : List (Addr × Obj) := fp.filterMap fun b => (h.get? b).map fun o => (b, o)
theorem mem_pinsAt {fp : List Addr} {h : Heap} {b : Addr} {o : Obj} (hb : b ∈ fp) (e : h.get? b = some o) : (b, o) ∈ pinsAt fp h := List.mem_filterMap.mpr ⟨b, hb, by rw [e]; rfl⟩
theorem of_pinsAt {fp : List Addr} {h : Heap} {p : Addr × Obj} (hp : p ∈ pinsAt fp h) : p.1 ∈ fp ∧ h.get? p.1 = some p.2 := by
  obtain ⟨b, hb, e⟩ := List.mem_filterMap.mp hp
  cases q : h.get? b with
  | none => rw [q] at e; cases e
  | some o =>
    rw [q] at e
    have e' : (b, o) = p := Option.some.inj e
    subst e'
    exact ⟨hb, q⟩
theorem Inv.pinned {pins : List (Addr × Obj)} {σ : St} {H : Hp} {s : Shared} {fp : List Addr} (I : Inv X pins σ H s) (hf : ∀ b ∈ fp, FpOk X pins H b) (ho : ∀ b ∈ fp, ∃ o, s.heap.get? b = some o ∧ ∀ v, o.data ≠ .cell v) : Inv X (pins ++ pinsAt fp s.heap) σ H s :=
  I.pins_of fun p hp => (List.mem_append.mp hp).elim (fun z => I.pin p (List.mem_append_right _ z)) fun z => by
    obtain ⟨hb, e⟩ := of_pinsAt z
    obtain ⟨f0, f1, f2, _⟩ := hf p.1 hb
    obtain ⟨o, e', d⟩ := ho p.1 hb
    rw [e] at e'; cases e'
    exact ⟨e, f0, f1, f2, d⟩
theorem Inv.unpinned {pins pl : List (Addr × Obj)} {σ : St} {H : Hp} {s : Shared} (I : Inv X (pins ++ pl) σ H s) : Inv X pins σ H s := I.pins_of fun p hp => I.pin p (List.mem_append_right _ (List.mem_append_left _ hp))
theorem ps_for {iter : Expr} {body : List Stmt} {wi : TI} {g : TG} {tb : TS} {pos : Pos} (hp : PassesOwn (model X.prog X.w) X.A X.env X.xe) (hc : X.calm = true) (hi : PI X tg iter wi) (hg : PG X tg g) (hb : PSs X body tb)
    (hs : ∀ x, foldedSetIterable iter X.env x = pure x := by intro _; rfl) : PS X (.For tg iter body [] pos) (tFor wi g tb) := by
  intro pins s σ H D I h
  refine wpAny_For (thn (hi pins s σ H _ I h) fun v s1 h1 => thn h1 fun itv s2 h2 => ?_) hs
  obtain ⟨it, fp, tn, J, H2, e, I2, T, st2, f2, W, ⟨m0, w0⟩, turn⟩ := h2
  subst e
  -- what stays true of the iterator's objects through the loop
  have stat : ∀ {H' : Hp}, (∀ b ∈ fp, H' b = none) → ∀ b ∈ fp, FpOk X pins H' b := fun hn b hb => ⟨hn b hb, (f2 b hb).2⟩
  refine codeAny_forLoop_any (fun n s' => ∃ i σ' H', Inv X pins σ' H' s' ∧ tn i s'.heap ∧ (∀ b ∈ fp, H' b = none) ∧ W i n σ' H') ?_ m0 ⟨0, σ, H2, I2, st2, fun b hb => (f2 b hb).1, w0⟩
  rintro n s3 ⟨i, σ3, H3, I3, st3, fr3, w3⟩
  rcases turn i n σ3 H3 w3 with ⟨stop, qn⟩ | ⟨go, N, hN, step⟩
  · refine wpAny_passesOwn hp (thn (T.done X rfl rfl rfl hc i pins s3 σ3 H3 X.xe I3 (stat fr3) st3 stop) fun r s4 ⟨hr, I4⟩ => ?_)
    subst hr
    exact wpAny_execs_nil ⟨σ3, H3, I4, qn⟩
  · refine wpAny_passesOwn hp (thn (T.item X rfl rfl rfl hc i pins s3 σ3 H3 X.xe I3 (stat fr3) st3 go) fun r s4 ⟨u, hr, h4⟩ => ?_)
    subst hr
    refine wpAny_passesOwn hp (thn h4 fun _ s5 ⟨x, H5, I5, r5, y5, st5, fr5⟩ => ?_)
    have I5' := I5.pinned (stat fr5) (T.obj _ _ st5)
    refine wpAny_passesOwn hp (thn (hg _ s5 σ3 H5 x u _ I5' r5 (step x H5 y5)) fun _ s6 ⟨σ6, H6, I6, q6⟩ => ?_)
    refine wpAny_passesOwn hp (thn (hb _ s6 σ6 H6 _ I6 q6) fun f s7 q7 => ?_)
    have again : ∀ {σ7 : St} {H7 : Hp}, Inv X (pins ++ pinsAt fp s5.heap) σ7 H7 s7 → N σ7 H7 → ∃ m, m < n ∧ ∃ i σ' H', Inv X pins σ' H' s7 ∧ tn i s7.heap ∧ (∀ b ∈ fp, H' b = none) ∧ W i m σ' H' := fun {σ7 H7} I7 n7 => by
      obtain ⟨m', hm, w7⟩ := hN σ7 H7 n7
      refine ⟨m', hm, i + 1, σ7, H7, I7.unpinned, T.keep _ _ _ st5 fun b hb o e => (I7.pin (b, o) (List.mem_append_right _ (List.mem_append_right _ (mem_pinsAt hb e)))).1, fun b hb => ?_, w7⟩
      obtain ⟨o, e, d⟩ := T.obj _ _ st5 b hb
      exact (I7.pin (b, o) (List.mem_append_right _ (List.mem_append_right _ (mem_pinsAt hb e)))).2.1
    cases f with
    | next => obtain ⟨σ7, H7, I7, n7⟩ := q7; exact again I7 n7
    | cont => obtain ⟨σ7, H7, I7, n7⟩ := q7; exact again I7 n7
    | brk => obtain ⟨σ7, H7, I7, q7⟩ := q7; exact ⟨σ7, H7, I7.unpinned, q7⟩
    | ret v => obtain ⟨x7, σ7, H7, I7, r7, q7⟩ := q7; exact ⟨x7, σ7, H7, I7.unpinned, r7, q7⟩
end

theorem for_range {lo : Int} {n : Nat} {g : TG} {tb : TS} {D : Ends} {σ : St} {H : Hp} (Pv : Nat → St → Hp → Prop) (h0 : Pv 0 σ H)
    (hs : ∀ i σ H, i < n → Pv i σ H → g (.int (lo + i)) σ H fun σ2 H2 => tb { D with nx := Pv (i + 1), ct := Pv (i + 1), bk := D.nx } σ2 H2) (hd : ∀ σ H, Pv n σ H → D.nx σ H) :
    ∃ W : Nat → Nat → St → Hp → Prop, (∃ m, W 0 m σ H) ∧ ∀ i m σ H, W i m σ H →
      ((Itr lo n).stop i H ∧ D.nx σ H) ∨ ((Itr lo n).go i H ∧ ∃ N : St → Hp → Prop, (∀ σ' H', N σ' H' → ∃ m', m' < m ∧ W (i + 1) m' σ' H') ∧ ∀ x H', (Itr lo n).yld i H x H' → g x σ H' fun σ2 H2 => tb { D with nx := N, ct := N, bk := D.nx } σ2 H2) := by
  refine ⟨fun i m σ H => m = n - i ∧ i ≤ n ∧ Pv i σ H, ⟨n, by simp, Nat.zero_le _, h0⟩, ?_⟩
  rintro i m σ H ⟨rfl, hi, p⟩
  by_cases hlt : i < n
  · refine .inr ⟨hlt, Pv (i + 1), fun σ' H' p' => ⟨n - (i + 1), by omega, rfl, hlt, p'⟩, fun x H' y => ?_⟩
    obtain ⟨e, y⟩ := y
    subst e y
    exact hs i σ _ hlt p
  · have e : i = n := by omega
    subst e
    exact .inl ⟨Nat.le_refl _, hd σ H p⟩
theorem while_by {c : TT} {tb : TS} {D : Ends} {σ : St} {H : Hp} (Pv : St → Hp → Prop) (μ : St → Hp → Nat) (h0 : Pv σ H)
    (hs : ∀ σ H, Pv σ H → c σ H fun b H1 => if b = true then tb { D with nx := fun σ' H' => Pv σ' H' ∧ μ σ' H' < μ σ H, ct := fun σ' H' => Pv σ' H' ∧ μ σ' H' < μ σ H, bk := D.nx } σ H1 else D.nx σ H1)
    (mono : ∀ σ H Q Q', (∀ b H1, Q b H1 → Q' b H1) → c σ H Q → c σ H Q') : tWhile c tb D σ H := by
  refine ⟨fun m σ H => m = μ σ H ∧ Pv σ H, ⟨_, rfl, h0⟩, ?_⟩
  rintro m σ H ⟨rfl, p⟩
  refine mono σ H _ _ (fun b H1 q => ?_) (hs σ H p)
  cases b with
  | true => exact ⟨_, fun σ' H' ⟨p', l⟩ => ⟨_, l, rfl, p'⟩, q⟩
  | false => exact q
end L2

namespace L2
open PySem PySem.Spec PyProof.Rows

abbrev R2 := V → V → Hp → VK → Prop
def OpR (X : Cx) (f : Value → Value → Sem Value) (r : R2) : Prop :=
  ∀ (pins : List (Addr × Obj)) (s : Shared) (σ : St) (H : Hp) (x y : V) (v u : Value) (Q : VK), Inv X pins σ H s → RelV x v → RelV y u → r x y H Q →
    wpAny (model X.prog X.w) X.A (f v u) (EP X pins σ Q) X.xe s
def UnR (X : Cx) (f : Value → Sem Value) (r : V → Hp → VK → Prop) : Prop :=
  ∀ (pins : List (Addr × Obj)) (s : Shared) (σ : St) (H : Hp) (x : V) (v : Value) (Q : VK), Inv X pins σ H s → RelV x v → r x H Q →
    wpAny (model X.prog X.w) X.A (f v) (EP X pins σ Q) X.xe s
def CallR (X : Cx) (f : Value) (r : List V → Hp → VK → Prop) : Prop :=
  ∀ (pins : List (Addr × Obj)) (s : Shared) (σ : St) (H : Hp) (xs : List V) (us : List Value) (Q : VK), Inv X pins σ H s → Vals xs us → r xs H Q →
    wpAny (model X.prog X.w) X.A (call f us) (EP X pins σ Q) X.xe s
def TruR (X : Cx) (r : V → Hp → (Bool → Hp → Prop) → Prop) : Prop :=
  ∀ (pins : List (Addr × Obj)) (s : Shared) (σ : St) (H : Hp) (x : V) (v : Value) (Q : Bool → Hp → Prop), Inv X pins σ H s → RelV x v → r x H Q →
    wpAny (model X.prog X.w) X.A (truthy v) (TP X pins σ Q) X.xe s

def tOp (r : R2) (ta tb : TE) : TE := fun σ H Q => ta σ H fun x H1 => tb σ H1 fun y H2 => r x y H2 Q
def tUn (r : V → Hp → VK → Prop) (ta : TE) : TE := fun σ H Q => ta σ H fun x H1 => r x H1 Q
def rI (C : Int → Int → Prop) (g : Int → Int → V) : R2 := fun x y H Q => ∃ i j, x = .int i ∧ y = .int j ∧ C i j ∧ Q (g i j) H
def rI0 (g : Int → Int → V) : R2 := fun x y H Q => ∃ i j, x = .int i ∧ y = .int j ∧ Q (g i j) H
def rU (g : Int → V) : V → Hp → VK → Prop := fun x H Q => ∃ i, x = .int i ∧ Q (g i) H

section
variable {X : Cx} {a b c : Expr} {ta tb tc : TE} {pos : Pos}

theorem binT (ha : PE X a ta) (hb : PE X b tb) {pins : List (Addr × Obj)} {s : Shared} {σ : St} {H : Hp} {R : V → V → Hp → Prop} (I : Inv X pins σ H s)
    (h : ta σ H fun x H1 => tb σ H1 fun y H2 => R x y H2) {Q : Value → Shared → Prop} {f : Value → Value → Sem Value}
    (hf : ∀ v u s2 x y H2, Inv X pins σ H2 s2 → RelV x v → RelV y u → R x y H2 → wpAny (model X.prog X.w) X.A (f v u) Q X.xe s2) :
    wpAny (model X.prog X.w) X.A (eval a X.env) (fun v s₁ => wpAny (model X.prog X.w) X.A (eval b X.env) (fun u s₂ => wpAny (model X.prog X.w) X.A (f v u) Q X.xe s₂) X.xe s₁) X.xe s := by
  refine thn (ha pins s σ H _ I h) fun v s1 ⟨x, H1, I1, r1, q1⟩ => ?_
  refine thn (hb pins s1 σ H1 _ I1 q1) fun u s2 ⟨y, H2, I2, r2, q2⟩ => ?_
  exact hf v u s2 x y H2 I2 r1 r2 q2

theorem pe_op {op : Operator} {r : R2} (ho : OpR X (binaryOp op) r) (ha : PE X a ta) (hb : PE X b tb) : PE X (.BinOp a op b pos) (tOp r ta tb) := by
  intro pins s σ H Q I h
  exact wpAny_BinOp (binT ha hb I h fun v u s2 x y H2 I2 rx ry q => ho pins s2 σ H2 x y v u Q I2 rx ry q)
theorem pe_un {op : UnaryOp} {r : V → Hp → VK → Prop} (ho : UnR X (unaryOp op) r) (ha : PE X a ta) : PE X (.UnaryOp op a pos) (tUn r ta) := by
  intro pins s σ H Q I h
  exact UnaryOp_ (thn (ha pins s σ H _ I h) fun v s1 ⟨x, H1, I1, r1, q1⟩ => ho pins s1 σ H1 x v Q I1 r1 q1)
theorem opI {f : Value → Value → Sem Value} {C : Int → Int → Prop} {g : Int → Int → Int}
    (rule : ∀ (i j : Int) (t u : Tok) (s : Shared) (Q : Value → Shared → Prop) (E : Value → Shared → Prop), C i j → Q (.int (g i j) s.toks) { s with toks := s.toks + 1 } → wpAny (model X.prog X.w) X.A (f (.int i t) (.int j u)) Q E s) :
    OpR X f (rI C fun i j => .int (g i j)) := by
  intro pins s σ H x y v u Q I rx ry h
  obtain ⟨i, j, rfl, rfl, hc, q⟩ := h
  obtain ⟨t, rfl⟩ := rx
  obtain ⟨t', rfl⟩ := ry
  exact rule i j t t' s _ _ hc ⟨.int (g i j), H, I.tok _, ⟨_, rfl⟩, q⟩
theorem opI0 {f : Value → Value → Sem Value} {g : Int → Int → Int}
    (rule : ∀ (i j : Int) (t u : Tok) (s : Shared) (Q : Value → Shared → Prop) (E : Value → Shared → Prop), Q (.int (g i j) s.toks) { s with toks := s.toks + 1 } → wpAny (model X.prog X.w) X.A (f (.int i t) (.int j u)) Q E s) :
    OpR X f (rI0 fun i j => .int (g i j)) := by
  intro pins s σ H x y v u Q I rx ry h
  obtain ⟨i, j, rfl, rfl, q⟩ := h
  obtain ⟨t, rfl⟩ := rx
  obtain ⟨t', rfl⟩ := ry
  exact rule i j t t' s _ _ ⟨.int (g i j), H, I.tok _, ⟨_, rfl⟩, q⟩
theorem opB0 {f : Value → Value → Sem Value} {g : Int → Int → Bool}
    (rule : ∀ (i j : Int) (t u : Tok) (s : Shared) (Q : Value → Shared → Prop) (E : Value → Shared → Prop), Q (.bool (g i j)) s → wpAny (model X.prog X.w) X.A (f (.int i t) (.int j u)) Q E s) :
    OpR X f (rI0 fun i j => .bl (g i j)) := by
  intro pins s σ H x y v u Q I rx ry h
  obtain ⟨i, j, rfl, rfl, q⟩ := h
  obtain ⟨t, rfl⟩ := rx
  obtain ⟨t', rfl⟩ := ry
  exact rule i j t t' s _ _ ⟨.bl (g i j), H, I, rfl, q⟩

def CDiv (i j : Int) : Prop := 0 < j ∧ j < 1073741824
def CPow (i j : Int) : Prop := 0 ≤ j ∧ j ≤ 1000000 ∧ i.natAbs < 2 ^ 64
def CMul (i j : Int) : Prop := (-(2 ^ 64) < i ∧ i < 2 ^ 64) ∨ (-(2 ^ 64) < j ∧ j < 2 ^ 64)
theorem CMul.ok {i j : Int} (h : CMul i j) : IntMulOk i j := by
  rcases h with ⟨h1, h2⟩ | ⟨h1, h2⟩
  · exact .of_left (intBits_le_64 h1 h2)
  · exact .of_right (intBits_le_64 h1 h2)
theorem op_add : OpR X (binaryOp .Add) (rI0 fun i j => .int (i + j)) := opI0 fun _ _ _ _ _ _ _ q => add_int q
theorem op_sub : OpR X (binaryOp .Sub) (rI0 fun i j => .int (i - j)) := opI0 fun _ _ _ _ _ _ _ q => sub_int q
theorem op_mul : OpR X (binaryOp .Mult) (rI CMul fun i j => .int (i * j)) := opI fun _ _ _ _ _ _ _ hc q => mul_int q hc.ok
theorem op_fdiv : OpR X (binaryOp .FloorDiv) (rI CDiv fun i j => .int (i / j)) := opI fun i j _ _ _ _ _ hc q => by
  have h1 : (0 : Int) < j := hc.1
  have h2 : j < 1073741824 := hc.2
  exact floordiv_int (by omega) (by rw [Int.fdiv_eq_ediv_of_nonneg i (by omega)]; exact q) (.inl (PyProof.noPylong_small (by omega)))
theorem op_mod : OpR X (binaryOp .Mod) (rI (fun _ j => 0 < j) fun i j => .int (i % j)) := opI fun i j _ _ _ _ _ hc q => by
  have h1 : (0 : Int) < j := hc
  exact mod_int' (by omega) (by rw [Int.fmod_eq_emod_of_nonneg i (by omega)]; exact q)
theorem op_pow : OpR X (binaryOp .Pow) (rI CPow fun i j => .int (i ^ j.toNat)) := opI fun _ _ _ _ _ _ _ hc q => pow_int_small hc.1 hc.2.1 hc.2.2 q
theorem unI {f : Value → Sem Value} {g : Int → Int}
    (rule : ∀ (i : Int) (t : Tok) (s : Shared) (Q : Value → Shared → Prop) (E : Value → Shared → Prop), Q (.int (g i) s.toks) { s with toks := s.toks + 1 } → wpAny (model X.prog X.w) X.A (f (.int i t)) Q E s) :
    UnR X f (rU fun i => .int (g i)) := by
  intro pins s σ H x v Q I rx h
  obtain ⟨i, rfl, q⟩ := h
  obtain ⟨t, rfl⟩ := rx
  exact rule i t s _ _ ⟨.int (g i), H, I.tok _, ⟨_, rfl⟩, q⟩
theorem un_neg : UnR X (unaryOp .USub) (rU fun i => .int (-i)) := unI fun _ _ _ _ _ q => neg_int q
end

def scal : V → V → Bool
  | .non, .non => true | .non, .int _ => true | .int _, .non => true | .non, .bl _ => true | .bl _, .non => true | .non, .str _ => true | .str _, .non => true
  | .int _, .int _ => true | .bl _, .bl _ => true | .str _, .str _ => true | .byt _, .byt _ => true
  | .int _, .str _ => true | .str _, .int _ => true | .bl _, .str _ => true | .str _, .bl _ => true
  | _, _ => false
def rEq : R2 := fun x y H Q => scal x y = true ∧ Q (.bl (decide (x = y))) H
def rNe : R2 := fun x y H Q => scal x y = true ∧ Q (.bl (!decide (x = y))) H

theorem dec_int {i j : Int} : decide (V.int i = V.int j) = (i == j) := by
  rw [Bool.eq_iff_iff]
  simp
theorem dec_bl {i j : Bool} : decide (V.bl i = V.bl j) = (i == j) := by
  rw [Bool.eq_iff_iff]
  simp
theorem dec_str {i j : Str} : decide (V.str i = V.str j) = (i == j) := by
  rw [Bool.eq_iff_iff]
  simp
theorem dec_byt {i j : Array UInt8} : decide (V.byt i = V.byt j) = (i.toList == j.toList) := by
  rw [Bool.eq_iff_iff]
  cases i
  cases j
  simp

section
variable {X : Cx} {a b c : Expr} {ta tb tc : TE} {pos : Pos}
theorem fin_bl {pins : List (Addr × Obj)} {σ : St} {H : Hp} {s : Shared} {Q : VK} {k k' : Bool} (I : Inv X pins σ H s) (q : Q (.bl k) H) (e : k = k') : EP X pins σ Q (.bool k') s := by
  subst e
  exact ⟨.bl k, H, I, rfl, q⟩
theorem op_eq : OpR X (compareOp .Eq) rEq := by
  intro pins s σ H x y v u Q I rx ry h
  obtain ⟨hs, q⟩ := h
  cases x with
  | non =>
    cases rx
    cases y with
    | non => cases ry; exact PySem.EqNone.eq_none_none (fin_bl I q (by simp))
    | bl j => cases ry; exact PySem.EqNone.eq_none_bool (fin_bl I q (by simp))
    | int j => obtain ⟨t', rfl⟩ := ry; exact PySem.EqNone.eq_none_int (fin_bl I q (by simp))
    | str j => obtain ⟨t', rfl⟩ := ry; exact PySem.EqNone.eq_none_str (fin_bl I q (by simp))
    | _ => exact absurd (show false = true from hs) Bool.false_ne_true
  | bl i =>
    cases rx
    cases y with
    | non => cases ry; exact PySem.EqNone.eq_bool_none (fin_bl I q (by simp))
    | bl j => cases ry; exact eq_bool (fin_bl I q dec_bl)
    | str j => obtain ⟨t', rfl⟩ := ry; exact PySem.EqMixed.eq_bool_str (fin_bl I q (by simp))
    | _ => exact absurd (show false = true from hs) Bool.false_ne_true
  | int i =>
    obtain ⟨t, rfl⟩ := rx
    cases y with
    | non => cases ry; exact PySem.EqNone.eq_int_none (fin_bl I q (by simp))
    | int j => obtain ⟨t', rfl⟩ := ry; exact eq_int (fin_bl I q dec_int)
    | str j => obtain ⟨t', rfl⟩ := ry; exact PySem.EqMixed.eq_int_str (fin_bl I q (by simp))
    | _ => exact absurd (show false = true from hs) Bool.false_ne_true
  | str i =>
    obtain ⟨t, rfl⟩ := rx
    cases y with
    | non => cases ry; exact PySem.EqNone.eq_str_none (fin_bl I q (by simp))
    | bl j => cases ry; exact PySem.EqMixed.eq_str_bool (fin_bl I q (by simp))
    | int j => obtain ⟨t', rfl⟩ := ry; exact PySem.EqMixed.eq_str_int (fin_bl I q (by simp))
    | str j => obtain ⟨t', rfl⟩ := ry; exact eq_str (fin_bl I q dec_str)
    | _ => exact absurd (show false = true from hs) Bool.false_ne_true
  | byt i =>
    obtain ⟨t, rfl⟩ := rx
    cases y with
    | byt j => obtain ⟨t', rfl⟩ := ry; exact PySem.W.eq_bytes (fin_bl I q dec_byt)
    | _ => exact absurd (show false = true from hs) Bool.false_ne_true
  | _ => cases y <;> exact absurd (show false = true from hs) Bool.false_ne_true
theorem op_ne : OpR X (compareOp .NotEq) rNe := by
  intro pins s σ H x y v u Q I rx ry h
  obtain ⟨hs, q⟩ := h
  cases x with
  | non =>
    cases rx
    cases y with
    | non => cases ry; exact PySem.EqNone.ne_none_none (fin_bl I q (by simp))
    | bl j => cases ry; exact PySem.EqNone.ne_none_bool (fin_bl I q (by simp))
    | int j => obtain ⟨t', rfl⟩ := ry; exact PySem.EqNone.ne_none_int (fin_bl I q (by simp))
    | str j => obtain ⟨t', rfl⟩ := ry; exact PySem.EqNone.ne_none_str (fin_bl I q (by simp))
    | _ => exact absurd (show false = true from hs) Bool.false_ne_true
  | bl i =>
    cases rx
    cases y with
    | non => cases ry; exact PySem.EqNone.ne_bool_none (fin_bl I q (by simp))
    | bl j => cases ry; exact ne_bool (fin_bl I q (congrArg not dec_bl))
    | str j => obtain ⟨t', rfl⟩ := ry; exact PySem.EqMixed.ne_bool_str (fin_bl I q (by simp))
    | _ => exact absurd (show false = true from hs) Bool.false_ne_true
  | int i =>
    obtain ⟨t, rfl⟩ := rx
    cases y with
    | non => cases ry; exact PySem.EqNone.ne_int_none (fin_bl I q (by simp))
    | int j => obtain ⟨t', rfl⟩ := ry; exact ne_int (fin_bl I q (congrArg not dec_int))
    | str j => obtain ⟨t', rfl⟩ := ry; exact PySem.EqMixed.ne_int_str (fin_bl I q (by simp))
    | _ => exact absurd (show false = true from hs) Bool.false_ne_true
  | str i =>
    obtain ⟨t, rfl⟩ := rx
    cases y with
    | non => cases ry; exact PySem.EqNone.ne_str_none (fin_bl I q (by simp))
    | bl j => cases ry; exact PySem.EqMixed.ne_str_bool (fin_bl I q (by simp))
    | int j => obtain ⟨t', rfl⟩ := ry; exact PySem.EqMixed.ne_str_int (fin_bl I q (by simp))
    | str j => obtain ⟨t', rfl⟩ := ry; exact ne_str (fin_bl I q (congrArg not dec_str))
    | _ => exact absurd (show false = true from hs) Bool.false_ne_true
  | byt i =>
    obtain ⟨t, rfl⟩ := rx
    cases y with
    | byt j => obtain ⟨t', rfl⟩ := ry; exact PySem.W.ne_bytes (fin_bl I q (congrArg not dec_byt))
    | _ => exact absurd (show false = true from hs) Bool.false_ne_true
  | _ => cases y <;> exact absurd (show false = true from hs) Bool.false_ne_true

theorem op_lt : OpR X (compareOp .Lt) (rI0 fun i j => .bl (decide (i < j))) := opB0 fun _ _ _ _ _ _ _ q => lt_int q
theorem op_le : OpR X (compareOp .LtE) (rI0 fun i j => .bl (decide (i ≤ j))) := opB0 fun _ _ _ _ _ _ _ q => le_int q
theorem op_gt : OpR X (compareOp .Gt) (rI0 fun i j => .bl (decide (j < i))) := opB0 fun _ _ _ _ _ _ _ q => gt_int q
theorem op_ge : OpR X (compareOp .GtE) (rI0 fun i j => .bl (decide (j ≤ i))) := opB0 fun _ _ _ _ _ _ _ q => ge_int q
theorem op_isN : OpR X (compareOp .Is) (fun x y H Q => y = .non ∧ Q (.bl (decide (x = .non))) H) := by
  intro pins s σ H x y v u Q I rx ry h
  obtain ⟨rfl, q⟩ := h
  cases ry
  refine is_none_gen (fin_bl I q ?_)
  cases x <;> first
    | (cases rx; rfl)
    | (obtain ⟨t, rfl⟩ := rx; rfl)
theorem OpR.or {f : Value → Value → Sem Value} {r r' : R2} (h : OpR X f r) (h' : OpR X f r') : OpR X f (fun x y H Q => r x y H Q ∨ r' x y H Q) := by
  intro pins s σ H x y v u Q I rx ry q
  rcases q with q | q
  · exact h pins s σ H x y v u Q I rx ry q
  · exact h' pins s σ H x y v u Q I rx ry q

theorem nomark (b : Expr) {op : CmpOp} (h : op ≠ .In := by decide) (h2 : op ≠ .NotIn := by decide) : behindInMarks op b = false := by
  have e1 : (op == CmpOp.In) = false := by cases op <;> first | rfl | exact absurd rfl h
  have e2 : (op == CmpOp.NotIn) = false := by cases op <;> first | rfl | exact absurd rfl h2
  cases b <;> simp [behindInMarks, e1, e2]
theorem pe_cmpR {op : CmpOp} {r : R2} (ho : OpR X (compareOp op) r) (ha : PE X a ta) (hb : PE X b tb) (hm : behindInMarks op b = false) : PE X (.Compare a [op] [b] pos) (tOp r ta tb) := by
  intro pins s σ H Q I h
  exact wpAny_Compare1 (binT ha hb I h fun v u s2 x y H2 I2 rx ry q => ho pins s2 σ H2 x y v u Q I2 rx ry q) hm
def tTest (t : TE) : TT := fun σ H Q => t σ H fun x H' => ∃ k, x = .bl k ∧ Q k H'
theorem pt_cmpR {op : CmpOp} {r : R2} (ho : OpR X (compareOp op) r) (ha : PE X a ta) (hb : PE X b tb) (hm : behindInMarks op b = false) : PT X (.Compare a [op] [b] pos) (tTest (tOp r ta tb)) := by
  intro pins s σ H Q I h
  refine wpAny_isTrue_Compare1 (thn (ha pins s σ H _ I h) fun v s1 ⟨x, H1, I1, r1, q1⟩ => thn (hb pins s1 σ H1 _ I1 q1) fun u s2 ⟨y, H2, I2, r2, q2⟩ =>
    thn (ho pins s2 σ H2 x y v u _ I2 r1 r2 q2) fun c s3 ⟨z, H3, I3, r3, k, e, q3⟩ => ?_) hm
  subst e
  cases r3
  exact wpAny_truthy_bool ⟨H3, I3, q3⟩
def TruV (K : PySem.W.Frag) (x : V) (H : Hp) (k : Bool) : Prop :=
  match x with
  | .non => k = false
  | .bl b => k = b
  | .int i => k = (i != 0)
  | .str y => y.length ≤ sizeLine ∧ k = ((y.length : Int) != 0)
  | .byt y => y.size ≤ sizeLine ∧ k = ((y.size : Int) != 0)
  | .ref p => (∃ xs, SqL K H p xs ∧ k = !xs.isEmpty) ∨ (∃ xs, SqT K H p xs ∧ k = !xs.isEmpty) ∨ ∃ kvs, H p = some (.dK kvs) ∧ k = !kvs.isEmpty
  | _ => False
theorem isEmpty_kv {κ : Type} {kvs : List (κ × V)} {vs : List (κ × Value)} (r : KV kvs vs) : (!vs.isEmpty) = !kvs.isEmpty := by
  cases r <;> rfl
theorem isEmpty_of {xs : List V} {its : List Value} (r : Vals xs its) : (!its.toArray.isEmpty) = !xs.isEmpty := by
  cases r <;> simp
theorem line63 : (sizeLine : Nat) < 2 ^ 63 := by rw [sizeLine_eq]; decide
theorem tru_ok : TruR X (fun x H Q => ∃ k, TruV X.K x H k ∧ Q k H) := by
  intro pins s σ H x v Q I rx h
  obtain ⟨k, e, q⟩ := h
  have hl := line63
  have hs : sizeLine = 16777216 := sizeLine_eq
  cases x with
  | non =>
    cases rx
    have e' : k = false := e
    subst e'
    exact truthy_none ⟨H, I, q⟩
  | bl b =>
    cases rx
    have e' : k = b := e
    subst e'
    exact wpAny_truthy_bool ⟨H, I, q⟩
  | int i =>
    obtain ⟨t, rfl⟩ := rx
    have e' : k = (i != 0) := e
    subst e'
    exact PySem.P.truthy_int ⟨H, I, q⟩
  | str y =>
    obtain ⟨t, rfl⟩ := rx
    obtain ⟨hy, e'⟩ : y.length ≤ sizeLine ∧ k = ((y.length : Int) != 0) := e
    subst e'
    exact PySem.P.truthy_str (by omega) ⟨H, I.tok _, q⟩
  | byt y =>
    obtain ⟨t, rfl⟩ := rx
    obtain ⟨hy, e'⟩ : y.size ≤ sizeLine ∧ k = ((y.size : Int) != 0) := e
    subst e'
    exact PySem.W.truthy_bytes (by omega) ⟨H, I.tok _, q⟩
  | ref p =>
    cases rx
    have e' : (∃ xs, SqL X.K H p xs ∧ k = !xs.isEmpty) ∨ (∃ xs, SqT X.K H p xs ∧ k = !xs.isEmpty) ∨ ∃ kvs, H p = some (.dK kvs) ∧ k = !kvs.isEmpty := e
    rcases e' with ⟨xs, hx, e'⟩ | ⟨xs, hx, e'⟩ | ⟨kvs, hx, e'⟩
    · subst e'
      obtain ⟨its, r, pl, hz⟩ := I.list hx
      have hlen := r.length
      exact wpAny_truthy_list pl.isList (by simp only [List.size_toArray]; omega) ⟨H, I.tok _, by rw [isEmpty_of r]; exact q⟩
    · subst e'
      obtain ⟨its, r, pl, hz⟩ := I.tuple hx
      have hlen := r.length
      exact truthy_tuple pl (by simp only [List.size_toArray]; omega) ⟨H, I.tok _, by rw [isEmpty_of r]; exact q⟩
    · subst e'
      obtain ⟨hz, hS, vs, r, m⟩ : kvs.length ≤ sizeLine ∧ (p == sysModules) = false ∧ ∃ vs, KV kvs vs ∧ s.heap.DictOf (mixKind X.prog X.w) p vs := I.hok p _ hx
      have hlen : kvs.length = vs.length := Paired.length r
      exact wpAny_truthy_dict hS m (by omega) ⟨H, I.tok _, by rw [isEmpty_kv r]; exact q⟩
  | _ => exact (show False from e).elim
theorem pt_truth (ha : PE X a ta) (he : ∀ whole, isTrue a X.env whole = (do let v ← whole; standAt a.pos; holding [v] (truthy v))) :
    PT X a (fun σ H Q => ta σ H fun x H' => ∃ k, TruV X.K x H' k ∧ Q k H') := by
  intro pins s σ H Q I h
  exact isTrue_plain (thn (ha pins s σ H _ I h) fun v s1 ⟨x, H1, I1, r1, q1⟩ => tru_ok pins s1 σ H1 x v Q I1 r1 q1) (he _)

theorem vals1 {x : V} {us : List Value} (r : Vals [x] us) : ∃ u, us = [u] ∧ RelV x u := by
  cases r with
  | cons r1 r2 => cases r2; exact ⟨_, rfl, r1⟩
theorem vals2 {x y : V} {us : List Value} (r : Vals [x, y] us) : ∃ u w', us = [u, w'] ∧ RelV x u ∧ RelV y w' := by
  cases r with
  | cons r1 r2 =>
    cases r2 with
    | cons r3 r4 => cases r4; exact ⟨_, _, rfl, r1, r3⟩
theorem call_abs : CallR X (.builtin "abs") (fun xs H Q => ∃ i, xs = [.int i] ∧ Q (.int (if i < 0 then -i else i)) H) := by
  intro pins s σ H xs us Q I r h
  obtain ⟨i, rfl, q⟩ := h
  obtain ⟨u, rfl, t, rfl⟩ := vals1 r
  exact call_abs_int fun u tk => ⟨.int (if i < 0 then -i else i), H, I.tok _, ⟨_, rfl⟩, q⟩
theorem call_max2 (hc : X.calm = true) : CallR X (.builtin "max") (fun xs H Q => ∃ i j, xs = [.int i, .int j] ∧ Q (.int (if j > i then j else i)) H) := by
  intro pins s σ H xs us Q I r h
  obtain ⟨i, j, rfl, q⟩ := h
  obtain ⟨u, w', rfl, ⟨t, rfl⟩, ⟨t', rfl⟩⟩ := vals2 r
  refine max_two_ints (I.ok.hd hc) fun h' tk k => ⟨_, H, I.kept k, ?_, q⟩
  by_cases hj : j > i
  · rw [if_pos hj, if_pos hj]; exact ⟨_, rfl⟩
  · rw [if_neg hj, if_neg hj]; exact ⟨_, rfl⟩
theorem call_min2 (hc : X.calm = true) : CallR X (.builtin "min") (fun xs H Q => ∃ i j, xs = [.int i, .int j] ∧ Q (.int (if j < i then j else i)) H) := by
  intro pins s σ H xs us Q I r h
  obtain ⟨i, j, rfl, q⟩ := h
  obtain ⟨u, w', rfl, ⟨t, rfl⟩, ⟨t', rfl⟩⟩ := vals2 r
  refine min_two_ints (I.ok.hd hc) fun h' tk k => ⟨_, H, I.kept k, ?_, q⟩
  by_cases hj : j < i
  · rw [if_pos hj, if_pos hj]; exact ⟨_, rfl⟩
  · rw [if_neg hj, if_neg hj]; exact ⟨_, rfl⟩
end
end L2

namespace L2
open PySem PySem.Spec PyProof.Rows

structure ObjM (h : Heap) (x dx C : Addr) (mA : Str → Option Value) : Prop where
  obj : h.get? x = some (PySem.W.instObj C dx)
  ns : h.Ns1 dx mA
  ne : dx ≠ x

theorem lookIn_ns {h : Heap} {dx : Addr} {mA : Str → Option Value} (n : h.Ns1 dx mA) : ∃ od, h.get? dx = some od ∧ ∀ name, PySem.W.lookIn name od = some (mA name) := by
  obtain ⟨o, es, ep, ho, hd, hk, _, hm⟩ := n
  refine ⟨o, ho, fun name => ?_⟩
  have e := hm name
  unfold nsFind findBy at e
  rw [← Array.find?_toList] at e
  unfold PySem.W.lookIn
  rw [hd]
  dsimp only
  split
  · rename_i y q
    rw [q] at e
    exact congrArg some e
  · rename_i q
    rw [q] at e
    have a : es.toList.any (·.refKey) = false := by
      rw [List.any_eq_false]
      intro y hy
      obtain ⟨z, t, hkey⟩ := hk y (Array.mem_toList_iff.mp hy)
      simp [DictEntry.refKey, hkey]
    have a' : ¬ es.toList.any (·.refKey) = true := by rw [a]; exact Bool.false_ne_true
    rw [if_neg a']
    exact congrArg some e

theorem ObjM.look {h : Heap} {x dx C : Addr} {mA : Str → Option Value} (I : ObjM h x dx C mA) : ∃ od, PySem.W.InstAt h x (PySem.W.instObj C dx) C (some od) ∧ ∀ name, PySem.W.lookIn name od = some (mA name) :=
  let ⟨od, ho, hl⟩ := lookIn_ns I.ns
  ⟨od, ⟨I.obj, rfl, rfl, ho⟩, hl⟩

section
variable {prog : Program} {w : World} {A : Around} {E : Value → Shared → Prop} {s : Shared} {K : PySem.W.Frag} {x dx C f : Addr} {mA : Str → Option Value} {name : Str} {v : Value}

end

section
variable {P : Program} {w : World} {H H' : Hp} {h h' : Heap} {a C dx : Addr} {fs fs' : List (Str × V)}
theorem ins_get (hok : HOk P w H h) (e : H a = some (.ins C dx fs)) : ∃ mA, ObjM h a dx C mA ∧ (∀ f, RelO (fs.lookup f) (mA f)) ∧ PySem.Within mA (fs.map (·.1)) ∧ fs.length ≤ 1000 ∧ H dx = some (.own a) := by
  obtain ⟨d, z, ne, ob, mA, n, r, q⟩ := (show ObjOk P w H h a (.ins C dx fs) from hok a _ e)
  exact ⟨mA, ⟨ob, n, ne⟩, r, q, z, d⟩
end

structure Cls (K : PySem.W.Frag) (C : Addr) : Prop where
  pg : PySem.W.plainGet K C Str.empty = true
  hd : PySem.W.hasDictIn K C = true
  po : PySem.W.plainOver K C = true
  sa : PySem.W.findIn K (.ref C) "__setattr__" = some (some (.builtin "object.__setattr__"))
theorem Cls.get {K : PySem.W.Frag} {C : Addr} (c : Cls K C) (f : Str) : PySem.W.plainGet K C f = true := c.pg
structure Con (K : PySem.W.Frag) (C : Addr) (f : Str) (v : V) (u : Value) : Prop where
  at_ : PySem.W.findIn K (.ref C) f = some (some u)
  rel : RelV v u
  get : PySem.W.specialIn K u "__get__" = some none
  cp : PySem.W.copiedNames.contains f = false
structure Meth (K : PySem.W.Frag) (C : Addr) (m : Str) (f : Addr) : Prop where
  at_ : PySem.W.findIn K (.ref C) m = some (some (.ref f))
  fn : PySem.W.isFn K (.ref f) = true
  kp : PySem.W.keepIn K (.ref f) = true

section
variable {X : Cx} {pins : List (Addr × Obj)} {σ : St} {H : Hp} {s : Shared} {a C dx : Addr} {fs : List (Str × V)} {f : Str} {v : V} {A : Around} {E : Value → Shared → Prop}

end

section
variable {X : Cx} {o e value : Expr} {f : Str} {pos pos' tpos : Pos} {ta tv : TE}
end

section
variable {X : Cx} {pins : List (Addr × Obj)} {σ : St} {H : Hp} {s : Shared} {A : Around} {E : Value → Shared → Prop} {Q : Value → Shared → Prop} {c : Value} {b : Bool}
inductive TyOf (K : PySem.W.Frag) (H : Hp) : V → Value → Prop where
  | non : TyOf K H .non (.type "NoneType")
  | bl (x : Bool) : TyOf K H (.bl x) (.type "bool")
  | int (i : Int) : TyOf K H (.int i) (.type "int")
  | str (x : Str) : TyOf K H (.str x) (.type "str")
  | flt (x : UInt64) : TyOf K H (.flt x) (.type "float")
  | lst {a : Addr} {xs : List V} (e : H a = some (.lst xs)) : TyOf K H (.ref a) (.type "list")
  | frz {a : Addr} {o : Obj} {xs : List V} (e : H a = some (.frz o (.lst xs))) : TyOf K H (.ref a) (.type "list")
  | tup {a : Addr} {xs : List V} (e : H a = some (.tup xs)) : TyOf K H (.ref a) (.type "tuple")
  | dK {a : Addr} {kvs : List (Key × V)} (e : H a = some (.dK kvs)) : TyOf K H (.ref a) (.type "dict")
  | dT {a : Addr} {kvs : List (List Key × V)} (e : H a = some (.dT kvs)) : TyOf K H (.ref a) (.type "dict")
  | ins {a C dx : Addr} {fs : List (Str × V)} (e : H a = some (.ins C dx fs)) (cl : Cls K C) (ha : PySem.W.findIn K (.ref C) "__class__" = some (some (.builtin "object.__class__")))
      (hn : PySem.W.specialIn K (.builtin "object.__class__") "__get__" = some (some (.builtin "getset_descriptor.__get__"))) (htk : PySem.W.takesIn K (.builtin "object.__class__") = some true)
      (hm : PySem.W.mroIn K C (.type "object") = some true) : TyOf K H (.ref a) (.ref C)
theorem isinst_ok {x : V} {u t : Value} (I : Inv X pins σ H s) (rx : RelV x u) (ty : TyOf X.K H x t) (e : PySem.W.kitOne X.K t c = some b) (h : ∀ tk, Q (.bool b) { s with toks := tk }) :
    wpAny (model X.prog X.w) A (call (.builtin "isinstance") [u, c]) Q E s := by
  cases ty with
  | non => cases (show u = Value.none from rx); exact PySem.W.kia_one PySem.W.kitx_none I.kIn True.intro e (fun z => nomatch z) h
  | bl y => cases (show u = Value.bool y from rx); exact PySem.W.kia_one PySem.W.kitx_bool I.kIn True.intro e (fun z => nomatch z) h
  | int i => obtain ⟨t, q⟩ := (show ∃ t, u = Value.int i t from rx); cases q; exact PySem.W.kia_one PySem.W.kitx_int I.kIn True.intro e (fun z => nomatch z) h
  | str y => obtain ⟨t, q⟩ := (show ∃ t, u = Value.str y t from rx); cases q; exact PySem.W.kia_one PySem.W.kitx_str I.kIn True.intro e (fun z => nomatch z) h
  | flt y => obtain ⟨t, q⟩ := (show ∃ t, u = Value.float y t from rx); cases q; exact PySem.W.kia_one PySem.W.kitx_float I.kIn True.intro e (fun z => nomatch z) h
  | @lst a xs ea =>
    cases (show u = Value.ref a from rx)
    obtain ⟨_, _, n, _, h1⟩ := (show ObjOk X.prog X.w H s.heap a (.lst xs) from I.hok a _ ea)
    exact PySem.W.kia_one PySem.W.kitx_list I.kIn ⟨_, h1, rfl⟩ e (fun z => nomatch z) h
  | @frz a ob xs ea =>
    cases (show u = Value.ref a from rx)
    obtain ⟨_, _, _, n, _, h1⟩ := (show ObjOk X.prog X.w H s.heap a (.frz ob (.lst xs)) from I.hok a _ ea)
    exact PySem.W.kia_one PySem.W.kitx_list I.kIn ⟨_, h1, rfl⟩ e (fun z => nomatch z) h
  | @tup a xs ea =>
    cases (show u = Value.ref a from rx)
    obtain ⟨_, _, _, p⟩ := (show ObjOk X.prog X.w H s.heap a (.tup xs) from I.hok a _ ea)
    obtain ⟨o, h1, h2, _⟩ := p
    exact PySem.W.kia_one PySem.W.kitx_tuple I.kIn ⟨o, h1, h2⟩ e (fun z => nomatch z) h
  | @dK a kvs ea =>
    cases (show u = Value.ref a from rx)
    obtain ⟨_, _, vs, _, p⟩ := (show ObjOk X.prog X.w H s.heap a (.dK kvs) from I.hok a _ ea)
    obtain ⟨o, es, ep, h1, h2, _⟩ := p
    exact PySem.W.kia_one PySem.W.kitx_dict I.kIn ⟨o, h1, h2.1⟩ e (fun z => nomatch z) h
  | @dT a kvs ea =>
    cases (show u = Value.ref a from rx)
    obtain ⟨_, _, xs, _, o, es, ep, h1, h2, _⟩ := (show ObjOk X.prog X.w H s.heap a (.dT kvs) from I.hok a _ ea)
    exact PySem.W.kia_one PySem.W.kitx_dict I.kIn ⟨o, h1, h2.1⟩ e (fun z => nomatch z) h
  | @ins a C dx fs ea cl ha hn htk hm =>
    cases (show u = Value.ref a from rx)
    obtain ⟨mA, O, _⟩ := ins_get I.hok ea
    obtain ⟨od, J, _⟩ := O.look
    exact PySem.W.kia_one (PySem.W.kitx_own (cl.get _) cl.hd ha hn htk hm) I.kIn J e (fun z => nomatch z) h
end
end L2

namespace L2
open PySem PySem.Spec PyProof.Rows

structure Room (k : Nat) (A : Around) : Prop where
  hd : A.handled = none
  dp : A.depth + 3 * k + 5 < recursionLimit
  un : A.units + 16 * k + 200 < cLine
theorem Room.mono {j k : Nat} {A : Around} (r : Room k A) (h : j ≤ k) : Room j A := ⟨r.hd, by have := r.dp; omega, by have := r.un; omega⟩
theorem Room.deeper {k : Nat} {A : Around} (r : Room (k + 1) A) (env : Env) : Room k (A.deeper env) :=
  ⟨r.hd, by have := r.dp; show A.depth + 1 + 3 * k + 5 < _; omega, by have := r.un; show A.units + 3 + 16 * k + 200 < _; omega⟩
theorem Room.in1 {k : Nat} {A : Around} (r : Room (k + 1) A) : Room k A.in1 :=
  ⟨r.hd, by have := r.dp; show A.depth + 3 * k + 5 < _; omega, by have := r.un; show A.units + 1 + 16 * k + 200 < _; omega⟩
theorem Room.depth {k : Nat} {A : Around} (r : Room k A) : A.depth < recursionLimit := by have := r.dp; omega
theorem Room.units {k : Nat} {A : Around} (r : Room k A) : A.units + 64 < cLine := by have := r.un; omega
def tNil : TA := fun _ H Q => Q [] H
def tCons (ta : TE) (tr : TA) : TA := fun σ H Q => ta σ H fun x H1 => tr σ H1 fun xs H2 => Q (x :: xs) H2
section
variable {X : Cx} {e : Expr} {es : List Expr} {te : TE} {t : TA} {pos : Pos}
theorem pa_nil : PA X [] tNil := fun _ _ _ _ H Q I h => Calls.spliced_nil ⟨[], H, I, .nil, h⟩
theorem pa_cons (ha : PE X e te) (hr : PA X es t) (hs : starEach (e :: es) X.env = (false, eval e X.env) :: starEach es X.env := by rfl) : PA X (e :: es) (tCons te t) := by
  intro pos pins s σ H Q I h
  rw [hs]
  show wpAny _ _ (spliced ((false, eval e X.env) :: backTo pos (starEach es X.env))) _ _ s
  refine Calls.spliced_cons (thn (ha pins s σ H _ I h) fun u s1 ⟨x, H1, I1, r1, q1⟩ => ?_)
  exact thn (hr pos pins s1 σ H1 _ I1 q1) fun us s2 ⟨xs, H2, I2, r2, q2⟩ => ⟨x :: xs, H2, I2, .cons r1 r2, q2⟩

def tTup (t : TA) : TE := fun σ H Q => t σ H fun xs H1 => xs.length ≤ sizeLine ∧ ∀ p, H1 p = none → Q (.ref p) (upd H1 p (.tup xs))
def tLst (t : TA) : TE := fun σ H Q => t σ H fun xs H1 => xs.length ≤ sizeLine ∧ ∀ p, H1 p = none → Q (.ref p) (upd H1 p (.lst xs))
theorem pe_tup {x1} (h : PA X es t) : PE X (.Tuple es x1 pos) (tTup t) := by
  intro pins s σ H Q I hq
  refine wpAny_Tuple_spliced (thn (h pos pins s σ H _ I hq) fun us s1 ⟨xs, H1, I1, r, z, q⟩ => ⟨by rw [← r.length]; exact z, ?_⟩)
  have hf : H1 s1.heap.objs.size = none := I1.hok.fresh (Nat.le_refl _)
  refine ⟨.ref s1.heap.objs.size, upd H1 s1.heap.objs.size (.tup xs), I1.laid (t' := s1.toks) (fun b u e => Heap.get?_push_of_some _ e) (Nat.le_refl _) ?_, rfl, q _ hf⟩
  exact ⟨z, us, r, ⟨_, Heap.get?_push_size _ rfl, rfl, _, rfl⟩⟩
theorem pe_lst (h : PA X es t) : PE X (.List es pos) (tLst t) := by
  intro pins s σ H Q I hq
  refine wpAny_List_spliced (thn (h pos pins s σ H _ I hq) fun us s1 ⟨xs, H1, I1, r, z, q⟩ => ⟨by rw [← r.length]; exact z, ?_⟩)
  have hf : H1 s1.heap.objs.size = none := I1.hok.fresh (Nat.le_refl _)
  refine ⟨.ref s1.heap.objs.size, upd H1 s1.heap.objs.size (.lst xs), I1.laid (t' := s1.toks) (fun b u e => Heap.get?_push_of_some _ e) (Nat.le_refl _) ?_, rfl, q _ hf⟩
  exact ⟨z, us, 0, r, Heap.get?_push_size _ rfl⟩
end

abbrev Sp := List V → Hp → VK → XK → Prop
abbrev CXT := List Env → Hp → Shared → XK → Value → Shared → Prop

structure Env0 (P : Program) (w : World) (K : PySem.W.Frag) (mg : Str → Option Value) (base : Heap) (A : Around) (outer : List Env) (s : Shared) (H : Hp) : Prop where
  frames : A.frames = some outer
  mod : Mod K mg base
  bs : ∀ b o, base.get? b = some o → s.heap.get? b = some o ∧ H b = none
  bsz : base.objs.size ≤ s.heap.objs.size
  funs : s.heap.FunFrames base outer
  frf : ∀ b ∈ frs outer, H b = none
  hok : HOk P w H s.heap
  bare : AllBare s.gens
def CE (outer : List Env) (P : Program) (w : World) (H : Hp) (s : Shared) (Q : VK) (u : Value) (s' : Shared) : Prop :=
  ∃ v H', s'.os = s.os ∧ AllBare s'.gens ∧ Un (frs outer) [] H H' s.heap s'.heap ∧ HOk P w H' s'.heap ∧ RelV v u ∧ Q v H'
def CR (CX : CXT) (outer : List Env) (P : Program) (w : World) (H : Hp) (s : Shared) (Q : VK) (E : XK) (r : Result) (s' : Shared) : Prop :=
  match r with
  | .ok (.ret u) => CE outer P w H s Q u s'
  | .ok _ => False
  | .error e => CX outer H s E e s'
structure FnOk (P : Program) (w : World) (K : PySem.W.Frag) (mg : Str → Option Value) (base : Heap) (CX : CXT) (k : Nat) (f : Addr) (fd : FuncData) (ps : List Str) (sp : Sp) : Prop where
  len : ∀ vs H Q E, sp vs H Q E → vs.length = ps.length
  run : ∀ (A : Around) (outer : List Env) (s : Shared) (H : Hp) (args : Args) (us : List Value) (vs : List V) (Q : VK) (E : XK), Room k A → Env0 P w K mg base A outer s H → BindsTo s fd args (ps.zip us) → Vals vs us → sp vs H Q E →
    codeAny (model P w) A (.call (.ref f) args) (CR CX outer P w H s Q E) s
theorem FnOk.mono {P : Program} {w : World} {K : PySem.W.Frag} {mg : Str → Option Value} {base : Heap} {CX : CXT} {j k : Nat} {f : Addr} {fd : FuncData} {ps : List Str} {sp : Sp} (F : FnOk P w K mg base CX j f fd ps sp) (h : j ≤ k) :
    FnOk P w K mg base CX k f fd ps sp := ⟨F.len, fun A outer s H args us vs Q E hr => F.run A outer s H args us vs Q E (hr.mono h)⟩
theorem Env0.in1 {P : Program} {w : World} {K : PySem.W.Frag} {mg : Str → Option Value} {base : Heap} {A : Around} {outer : List Env} {s : Shared} {H : Hp} (e : Env0 P w K mg base A outer s H) :
    Env0 P w K mg base A.in1 outer s H := ⟨e.frames, e.mod, e.bs, e.bsz, e.funs, e.frf, e.hok, e.bare⟩

section
variable {X : Cx} {pins : List (Addr × Obj)} {σ : St} {H : Hp} {s s' : Shared}
theorem Inv.env0 (I : Inv X pins σ H s) : Env0 X.prog X.w X.K X.mg X.base X.A X.stack s H :=
  ⟨I.ok.frames, I.ok.mod, I.bs, Nat.le_trans I.ok.bsz I.sz, I.stack, I.stkFree, I.hok, I.bare⟩
theorem Inv.after {Q : VK} {u : Value} (I : Inv X pins σ H s) (h : CE X.stack X.prog X.w H s Q u s') : EP X pins σ Q u s' := by
  obtain ⟨v, H', os, bare, un, hok, r, q⟩ := h
  obtain ⟨hh, g, d, t, os'⟩ := s'
  obtain rfl : os' = s.os := os
  exact ⟨v, H', I.call (h' := hh) (g' := g) (d' := d) (t' := t) (ch := []) un hok bare (fun b z => absurd z (by simp)), r, q⟩
end

def tCall (sp : Sp) (dvs : List V) (E : XK) (t : TA) : TE := fun σ H Q => t σ H fun vs H1 => sp (vs ++ dvs) H1 Q E
def Binds (K : PySem.W.Frag) (fd : FuncData) (ps : List Str) (ds : List Value) : Prop :=
  ∀ (s : Shared) (us : List Value), K.In s.heap → (us ++ ds).length = ps.length → BindsTo s fd ⟨us, []⟩ (ps.zip (us ++ ds))
theorem Binds.all {K : PySem.W.Frag} {fd : FuncData} {ps : List Str} (h : ∀ us : List Value, us.length = ps.length → bindArgs fd ⟨us, []⟩ = pure (ps.zip us)) : Binds K fd ps [] := fun s us _ hl => by
  rw [List.append_nil] at hl ⊢
  exact .of_eq (h us hl)

def Passes (CX : CXT) (X : Cx) (E : XK) : Prop := ∀ (pins : List (Addr × Obj)) (σ : St) (H : Hp) (s : Shared) (e : Value) (s' : Shared), Inv X pins σ H s → CX X.stack H s E e s' → X.xe e s'

section
variable {X : Cx} {CX : CXT} {k : Nat} {f C : Addr} {fd : FuncData} {ps : List Str} {sp : Sp} {dvs : List V} {ds : List Value} {E : XK} {x m : Str} {p pos apos : Pos} {e o : Expr} {es : List Expr} {ta : TE} {t : TA}

theorem run_fn {pins : List (Addr × Obj)} {σ : St} {H : Hp} {s : Shared} {Q : VK} {us : List Value} {vs : List V} (F : FnOk X.prog X.w X.K X.mg X.base CX k f fd ps sp) (hr : Room k X.A) (hb : Binds X.K fd ps ds) (hd : Vals dvs ds) (hx : Passes CX X E)
    (I : Inv X pins σ H s) (r : Vals vs us) (h : sp (vs ++ dvs) H Q E) : wpAny (model X.prog X.w) X.A (call (.ref f) us) (EP X pins σ Q) X.xe s := by
  have r2 : Vals (vs ++ dvs) (us ++ ds) := r.append hd
  have hl : (us ++ ds).length = ps.length := by rw [← r2.length]; exact F.len _ _ _ _ h
  refine wpAny_call (codeAny_mono (F.run X.A X.stack s H ⟨us, []⟩ (us ++ ds) (vs ++ dvs) Q E hr I.env0 (hb s us I.kIn hl) r2 h) fun r s' hq => ?_)
  cases r with
  | error e => exact hx pins σ H s e s' I hq
  | ok fl =>
    cases fl with
    | ret u => exact I.after hq
    | next => exact False.elim hq
    | brk => exact False.elim hq
    | cont => exact False.elim hq

theorem pe_call (F : FnOk X.prog X.w X.K X.mg X.base CX k f fd ps sp) (hr : Room k X.A) (hg : Gl X x) (hm : X.mg x = some (.ref f)) (hk : PySem.W.keepIn X.K (.ref f) = true) (hb : Binds X.K fd ps ds) (hd : Vals dvs ds) (hx : Passes CX X E)
    (ha : PA X (e :: es) t) (hdb : (x == ("__debug__" : Str)) = false := by decide) (he : starEach (e :: es) X.env = (false, eval e X.env) :: starEach es X.env := by rfl) (hpl : (backTo pos (starEach es X.env)).any (·.1) = false := by rfl) :
    PE X (.Call (.Name x p) (e :: es) [] pos) (tCall sp dvs E t) := by
  intro pins s σ H Q I h
  refine wpAny_Call_Name_kw (ld_glob I hg hm ?_ hdb)
  refine PySem.W.callWith_K (h₀ := X.base) I.ok.mod.kin hk (thn (ha pos pins s σ H _ I h) fun us s1 ⟨vs, H1, I1, r, q⟩ => ⟨I1.kIn, ?_⟩) he hpl
  exact run_fn F hr hb hd hx I1 r q
structure Mk (K : PySem.W.Frag) (C f : Addr) : Prop where
  makes : PySem.W.makesIn K C = true
  init : PySem.W.findIn K (.ref C) "__init__" = some (some (.ref f))
  fn : PySem.W.isFn K (.ref f) = true
  kp : PySem.W.keepIn K (.ref C) = true

end

section
variable {X : Cx} {CX : CXT} {k : Nat} {f C : Addr} {fd : FuncData} {ps ks : List Str} {sp : Sp} {E : XK} {x m : Str} {p pos apos kpos : Pos} {e o : Expr} {es : List Expr} {kws : List Keyword} {te ta : TE} {t tk : TA} {nm : Option Str}
structure KBinds (K : PySem.W.Frag) (fd : FuncData) (ps ks : List Str) (g : List Value → List Value → List Value) (gV : List V → List V → List V) : Prop where
  to : ∀ (s : Shared) (us ws : List Value), K.In s.heap → (g us ws).length = ps.length → BindsTo s fd ⟨us, ks.zip ws⟩ (ps.zip (g us ws))
  rel : ∀ {vs : List V} {us : List Value} {zs : List V} {ws : List Value}, Vals vs us → Vals zs ws → Vals (gV vs zs) (g us ws)
variable {g : List Value → List Value → List Value} {gV : List V → List V → List V}
end

structure FnScope (N P : List Str) (sc : Scope) : Prop where
  kind : sc.kind = .function
  co : sc.isCoroutine = false
  gen : sc.isGenerator = false
  nd : N.Nodup
  pre : N.take P.length = P
  par : ∀ x ∈ P, sc.names.lookup x = some .local ∨ sc.names.lookup x = some .cell
  nofree : ∀ y ∈ sc.names, y.2 ≠ .free

theorem bindL_out {kindOf : Str → Option NameKind} {x : Str} : ∀ {binds : List (Str × Value)} {m : Str → Option Value}, (∀ v, (x, v) ∉ binds) → bindL kindOf binds m x = m x
  | [], _, _ => rfl
  | (n, v) :: r, m, h => by
    unfold bindL
    rw [bindL_out fun w hw => h w (List.mem_cons_of_mem _ hw)]
    split
    · have : x ≠ n := by rintro rfl; exact h v List.mem_cons_self
      simp [this]
    · rfl
theorem bindC_out {kindOf : Str → Option NameKind} {x : Str} : ∀ {binds : List (Str × Value)} {m : Str → Option Value}, (∀ v, (x, v) ∉ binds) → bindC kindOf binds m x = m x
  | [], _, _ => rfl
  | (n, v) :: r, m, h => by
    unfold bindC
    rw [bindC_out fun w hw => h w (List.mem_cons_of_mem _ hw)]
    split
    · rfl
    · have : x ≠ n := by rintro rfl; exact h v List.mem_cons_self
      simp [this]
theorem bindL_get {kindOf : Str → Option NameKind} {x : Str} {v : Value} : ∀ {P : List Str} {vs : List Value} {i : Nat} {m : Str → Option Value}, P.Nodup → P[i]? = some x → vs[i]? = some v → kindOf x = some .local →
    bindL kindOf (P.zip vs) m x = some v
  | [], _, _, _, _, h, _, _ => by simp at h
  | _ :: _, [], _, _, _, _, h, _ => by simp at h
  | p :: P, w :: vs, 0, m, nd, h1, h2, hk => by
    simp at h1 h2; subst h1; subst h2
    show bindL kindOf ((p, w) :: P.zip vs) m p = _
    unfold bindL
    rw [bindL_out fun v hv => (List.nodup_cons.mp nd).1 (List.of_mem_zip hv).1, if_pos hk]
    simp
  | p :: P, w :: vs, i + 1, m, nd, h1, h2, hk => by
    show bindL kindOf ((p, w) :: P.zip vs) m x = _
    unfold bindL
    exact bindL_get (i := i) (List.nodup_cons.mp nd).2 (by simpa using h1) (by simpa using h2) hk
theorem bindC_get {kindOf : Str → Option NameKind} {x : Str} {v : Value} : ∀ {P : List Str} {vs : List Value} {i : Nat} {m : Str → Option Value}, P.Nodup → P[i]? = some x → vs[i]? = some v → kindOf x ≠ some .local →
    bindC kindOf (P.zip vs) m x = some v
  | [], _, _, _, _, h, _, _ => by simp at h
  | _ :: _, [], _, _, _, _, h, _ => by simp at h
  | p :: P, w :: vs, 0, m, nd, h1, h2, hk => by
    simp at h1 h2; subst h1; subst h2
    show bindC kindOf ((p, w) :: P.zip vs) m p = _
    unfold bindC
    rw [bindC_out fun v hv => (List.nodup_cons.mp nd).1 (List.of_mem_zip hv).1, if_neg hk]
    simp
  | p :: P, w :: vs, i + 1, m, nd, h1, h2, hk => by
    show bindC kindOf ((p, w) :: P.zip vs) m x = _
    unfold bindC
    exact bindC_get (i := i) (List.nodup_cons.mp nd).2 (by simpa using h1) (by simpa using h2) hk

def start (N : List Str) (vs : List V) : St := vs.map some ++ List.replicate (N.length - vs.length) none

def cxOf (CX : CXT) (P : Program) (w : World) (K : PySem.W.Frag) (mg : Str → Option Value) (base : Heap) (N : List Str) (qual : Str) (scope : Scope) (f : Addr) (cd : Value) (A : Around) (outer : List Env) (s : Shared) (H : Hp) (E : XK) : Cx where
  prog := P
  w := w
  K := K
  mg := mg
  base := base
  A := A.deeper (envOfC qual scope s.heap.objs.size f cd)
  N := N
  s₀ := s
  H₀ := H
  env := envOfC qual scope s.heap.objs.size f cd
  outer := outer
  stack := envOfC qual scope s.heap.objs.size f cd :: outer
  ex := []
  calm := true
  fn := fun _ => true
  pn := []
  xe := fun e s' => wpAny (model P w) (A.deeper (envOfC qual scope s.heap.objs.size f cd)) (leaving (envOfC qual scope s.heap.objs.size f cd) e) (fun _ s'' => CX outer H s E e s'') (fun e' s'' => CX outer H s E e' s'') s'

theorem cell_has {sc : Scope} {n : Nat} {x : Str} (h : sc.names.lookup x = some .cell) : ∃ c, (cellsFrom n sc.names []).lookup x = some c := by
  have q := PySem.W.cellsFrom_some sc.names n [] (.inl h)
  exact Option.isSome_iff_exists.mp q

theorem inv_start {CX : CXT} {P : Program} {w : World} {K : PySem.W.Frag} {mg : Str → Option Value} {base : Heap} {N ps : List Str} {qual : Str} {scope : Scope} {f : Addr} {cd : Value} {A : Around} {outer : List Env} {s s1 : Shared} {H : Hp} {E : XK} {us : List Value} {vs : List V}
    (S : FnScope N ps scope) (hd : A.handled = none) (e0 : Env0 P w K mg base A outer s H) (hl : vs.length = ps.length) (r : Vals vs us)
    (x : InCallC s s.heap.objs.size (bindL (envOfC qual scope s.heap.objs.size f cd).kindOf (ps.zip us) fun _ => none) (cellsFrom (s.heap.objs.size + 1) scope.names []) (bindC (envOfC qual scope s.heap.objs.size f cd).kindOf (ps.zip us) fun _ => none) s1) :
    Inv (cxOf CX P w K mg base N qual scope f cd A outer s H E) [] (start N vs) H s1 := by
  have hpl : ps.length ≤ N.length := by have := congrArg List.length S.pre; rw [List.length_take] at this; omega
  obtain ⟨h1, tk, rfl, hk⟩ := x.done
  have noA : ∀ b : Addr, b ∉ (cxOf CX P w K mg base N qual scope f cd A outer s H E).ex := fun b z => absurd (show b ∈ ([] : List Addr) from z) (by simp)
  refine ⟨⟨e0.mod, S.kind, rfl, rfl, Nat.le_refl _, fun y z c h1 h2 => ?_, fun y hy => ?_, fun y c _ h => ?_, fun _ => hd, Around.frames_deeper e0.frames, .inr ⟨rfl, rfl⟩, fun b z => absurd z (noA b), e0.bs, e0.bsz, fun b _ _ => noA b, fun b z => absurd z (noA b), e0.funs, e0.frf⟩,
    rfl, e0.bare, Un.kept hk, ⟨_, x.toInCall.ns, fun i y v h1 h2 h3 => ?_⟩, fun y c h => ⟨_, x.cell y c h⟩, e0.hok.fresh (Nat.le_refl _), fun y c h => ?_, fun p hp => absurd (show p ∈ ([] : List (Addr × Obj)) from hp) (by simp), e0.hok.kept hk, ?_⟩
  · exact name_of_addr x.apart (PySem.mem_of_lookup h1) (PySem.mem_of_lookup h2)
  · have hy : scope.names.lookup y = some .cell ∨ scope.names.lookup y = some .free := hy
    rcases hy with hy | hy
    · exact cell_has hy
    · exact absurd rfl (S.nofree _ (PySem.mem_of_lookup hy))
  · exact Nat.le_of_lt (x.above y c (PySem.mem_of_lookup h))
  · have hi : i < vs.length := by
      unfold start at h2
      by_cases hi : i < vs.length
      · exact hi
      · rw [List.getElem?_append_right (by simpa using hi)] at h2
        rw [List.getElem?_replicate] at h2
        split at h2 <;> cases h2
    have ha : vs[i]? = some v := by
      unfold start at h2
      rw [List.getElem?_append_left (by simpa using hi), List.getElem?_map] at h2
      cases e : vs[i]? with
      | none => rw [e] at h2; cases h2
      | some a => rw [e] at h2; cases h2; rfl
    obtain ⟨u, hu, rv⟩ := r.get ha
    have hp : ps[i]? = some y := by
      rw [← S.pre, List.getElem?_take_of_lt (by omega)]; exact h1
    have ndP : ps.Nodup := by rw [← S.pre]; exact S.nd.sublist (List.take_sublist _ _)
    refine ⟨u, rv, ?_⟩
    rcases S.par y (List.mem_of_getElem? hp) with k | k
    · exact .inl ⟨k, bindL_get ndP hp hu k⟩
    · obtain ⟨c, e⟩ := cell_has (n := s.heap.objs.size + 1) k
      refine .inr ⟨.inl k, c, e, ?_⟩
      have q := x.cell y c e
      rw [bindC_get ndP hp hu (by show scope.names.lookup y ≠ _; rw [k]; decide)] at q
      exact q
  · exact e0.hok.fresh (Nat.le_of_lt (x.above y c (PySem.mem_of_lookup h)))
  · unfold start
    show _ = N.length
    rw [List.length_append, List.length_map, List.length_replicate]
    omega

theorem fn_of {CX : CXT} {P : Program} {w : World} {K : PySem.W.Frag} {mg : Str → Option Value} {base : Heap} {k : Nat} {f : Addr} {name qual : Str} {params : Arguments} {body : List Stmt} {scope : Scope} {dV kV doc pm cdv ct oc : Value} {an od : Option Addr}
    {osl : Array (Option Value)} {N ps : List Str} {sp : Sp} (lk : K.lookup f = some ⟨oc, od, .func (PySem.W.fnOf name qual params body scope dV kV doc pm an cdv ct), osl⟩) (hcd : PySem.W.codeIn K cdv qual = true) (S : FnScope N ps scope)
    (len : ∀ vs H Q E, sp vs H Q E → vs.length = ps.length)
    (hbody : ∀ (A : Around) (outer : List Env) (s : Shared) (H : Hp) (vs : List V) (Q : VK) (E : XK), Room k (A.deeper (envOfC qual scope s.heap.objs.size f cdv)) → sp vs H Q E →
      ∃ t, PSs (cxOf CX P w K mg base N qual scope f cdv A outer s H E) body t ∧ t { nx := fun _ H' => Q .non H', rt := Q } (start N vs) H) :
    FnOk P w K mg base CX (k + 1) f (PySem.W.fnOf name qual params body scope dV kV doc pm an cdv ct) ps sp := by
  refine ⟨len, fun A outer s H args us vs Q E hr e0 hb r hsp => ?_⟩
  have hl := len _ _ _ _ hsp
  have KX : K.In s.heap := e0.mod.kin.keeps fun b o e => (e0.bs b o e).1
  have lim : s.heap.NoLimit := e0.mod.nolimit.keeps fun b o e => (e0.bs b o e).1
  have hkind : ∀ y ∈ ps.zip us, scope.names.lookup y.1 = some .local ∨ (scope.names.lookup y.1 = some .cell ∧ ((cellsFrom (s.heap.objs.size + 1) scope.names []).lookup y.1).isSome = true) := fun ⟨n, v⟩ hy => by
    rcases S.par n (List.of_mem_zip hy).1 with q | q
    · exact .inl q
    · exact .inr ⟨q, PySem.W.cellsFrom_some _ _ _ (.inl q)⟩
  refine codeAny_call_function hr.depth (KX _ _ lk) rfl S.co S.gen rfl (PySem.W.codeRec_of KX hcd) (hb _ _ _ _ ?_)
  refine wpAny_newFunctionEnv_cells S.kind hkind fun env he s1 x => ?_
  subst he
  refine ⟨lim.keeps x.toInCall.keep, codeAny_func ?_⟩
  obtain ⟨t, ht, hq⟩ := hbody A outer s H vs Q E (hr.deeper _) hsp
  have I : Inv (cxOf CX P w K mg base N qual scope f cdv A outer s H E) [] (start N vs) H s1 := inv_start S hr.hd e0 hl r x
  refine wpAny_mono (ht [] s1 (start N vs) H _ I hq) (fun fl s' hs => ?_) fun e s' hs => hs
  have fin : ∀ {σ' : St} {H' : Hp} {v : V} {u : Value}, Inv (cxOf CX P w K mg base N qual scope f cdv A outer s H E) [] σ' H' s' → RelV v u → Q v H' → CE outer P w H s Q u s' :=
    fun {σ' H' v u} J rv q => ⟨v, H', J.os, J.bare, J.base, J.hok, rv, q⟩
  cases fl with
  | ret u =>
    obtain ⟨v, σ', H', J, rv, q⟩ := hs
    exact fin J rv q
  | next =>
    obtain ⟨σ', H', J, q⟩ := hs
    exact fin (v := V.non) (u := Value.none) J rfl q
  | brk =>
    obtain ⟨_, _, _, q⟩ := hs
    exact False.elim q
  | cont =>
    obtain ⟨_, _, _, q⟩ := hs
    exact False.elim q
end L2

namespace L2
open PySem PySem.Spec PyProof.Rows
section
variable {X : Cx} {x : Str} {p pos : Pos} {e : Expr} {es : List Expr} {t : TA} {id T : String} {r : List V → Hp → VK → Prop}

def tCB (r : List V → Hp → VK → Prop) (t : TA) : TE := fun σ H Q => t σ H fun vs H1 => r vs H1 Q
theorem pe_callB (hc : CallR X (.builtin id) r) (hg : Gl X x) (hm : X.mg x = none) (hv : bootBuiltins x = some (.builtin id)) (ha : PA X (e :: es) t) (hn : x ≠ "__name__" := by decide) (hdb : (x == ("__debug__" : Str)) = false := by decide)
    (he : starEach (e :: es) X.env = (false, eval e X.env) :: starEach es X.env := by rfl) (hpl : (backTo pos (starEach es X.env)).any (·.1) = false := by rfl) : PE X (.Call (.Name x p) (e :: es) [] pos) (tCB r t) := by
  intro pins s σ H Q I h
  refine wpAny_Call_Name_kw (ld_blt I hg hm hv ?_ hn hdb)
  exact PyProof.Rows.callWith_builtin1 (thn (ha pos pins s σ H _ I h) fun us s1 ⟨vs, H1, I1, r1, q1⟩ => hc pins s1 σ H1 vs us Q I1 r1 q1) he hpl
theorem pe_callTy (hc : CallR X (.type T) r) (hg : Gl X x) (hm : X.mg x = none) (hv : bootBuiltins x = some (.type T)) (ha : PA X (e :: es) t) (hn : x ≠ "__name__" := by decide) (hdb : (x == ("__debug__" : Str)) = false := by decide)
    (he : starEach (e :: es) X.env = (false, eval e X.env) :: starEach es X.env := by rfl) (hpl : (backTo pos (starEach es X.env)).any (·.1) = false := by rfl) : PE X (.Call (.Name x p) (e :: es) [] pos) (tCB r t) := by
  intro pins s σ H Q I h
  refine wpAny_Call_Name_kw (ld_blt I hg hm hv ?_ hn hdb)
  exact PyProof.Rows.callWith_type1 (thn (ha pos pins s σ H _ I h) fun us s1 ⟨vs, H1, I1, r1, q1⟩ => hc pins s1 σ H1 vs us Q I1 r1 q1) he hpl
end
end L2

namespace HT
open PySem PyProof.Rows

section
open PySem.SeqAt
open PySem.AutoSeq1 (wpAny_loadPart')
open PySem.MeetsSeq PySem.MeetsSeq2 PySem.MeetsSeq3

end

section
variable {prog : Program} {w : World} {A : Around} {E : Value → Shared → Prop} {s : Shared}

theorem cat_tup {t b : Addr} {vs ws : List Value} {Q : Value → Shared → Prop} (ht : IsTup s.heap t vs.toArray) (hb : IsTup s.heap b ws.toArray) (hv : vs ≠ [])
    (h1 : ws = [] → Q (.ref t) s) (h2 : ws ≠ [] → Q (.ref s.heap.objs.size) { s with heap := s.heap.push { cls := .type "tuple", data := .seq (vs ++ ws).toArray } })
    (hsz : vs.length + ws.length ≤ sizeLine) : wpAny (model prog w) A (binaryOp .Add (.ref t) (.ref b)) Q E s := by
  obtain ⟨⟨cls, dd, data, sl⟩, ho, hc, n, hd⟩ := id ht
  obtain ⟨⟨cls2, dd2, data2, sl2⟩, ho2, hc2, n2, hd2⟩ := id hb
  simp only at hc hd hc2 hd2
  subst hc hd hc2 hd2
  have e : vs.toArray ++ ws.toArray = (vs ++ ws).toArray := by simp
  by_cases hw : ws = []
  · exact concat_meets ⟨_, ho, rfl⟩ ⟨_, ho2, rfl⟩ noFill_tuple_add seq_tuple_add PySem.F.slot_tuple_add PySem.F.entry_tuple_add (PySem.F.args_tuple_add_2 _ _)
      (tuple_addW1 t b vs.toArray ws.toArray n n2 dd dd2 sl sl2 (by simpa using hv) (by simp [hw])) ⟨ho, ho2, h1 hw⟩
  · refine concat_meets ⟨_, ho, rfl⟩ ⟨_, ho2, rfl⟩ noFill_tuple_add seq_tuple_add PySem.F.slot_tuple_add PySem.F.entry_tuple_add (PySem.F.args_tuple_add_2 _ _)
      (tuple_addW2 t b vs.toArray ws.toArray n n2 dd dd2 sl sl2 (by simpa using hv) (by simpa using hw) (by rw [List.size_toArray, List.size_toArray]; exact hsz)) ⟨ho, ho2, ?_⟩
    rw [e]
    exact h2 hw

def sIx (n d : Nat) : Option Int → Nat
  | none => d
  | some v => if v < 0 then (v + (n : Int)).toNat else min v.toNat n
theorem sIx_none (n d : Nat) : sIx n d none = d := rfl
theorem sIx_nat (n d k : Nat) : sIx n d (some (k : Int)) = min k n := by
  show (if (k : Int) < 0 then ((k : Int) + (n : Int)).toNat else min (k : Int).toNat n) = min k n
  rw [if_neg (by omega), Int.toNat_natCast]
theorem sIx_le (n d : Nat) (hd : d ≤ n) (o : Option Int) : sIx n d o ≤ n := by
  cases o with
  | none => exact hd
  | some v =>
    show (if v < 0 then (v + (n : Int)).toNat else min v.toNat n) ≤ n
    by_cases hv : v < 0
    · rw [if_pos hv]; omega
    · rw [if_neg hv]; exact Nat.min_le_right _ _
theorem clip_eq (v : Int) (n d : Nat) : (if v < 0 then max (v + (n : Int)) 0 else min v (n : Int)) = ((sIx n d (some v) : Nat) : Int) := by
  show (if v < 0 then max (v + (n : Int)) 0 else min v (n : Int)) = (((if v < 0 then (v + (n : Int)).toNat else min v.toNat n) : Nat) : Int)
  by_cases hv : v < 0
  · simp only [if_pos hv]; omega
  · simp only [if_neg hv]; omega
theorem adjust_gen (lo hi : Option Int) (n : Nat) : Builtin.Slice.sliceAdjust lo hi 1 (n : Int) = (((sIx n 0 lo : Nat) : Int), ((sIx n n hi : Nat) : Int)) := by
  have h1 : ¬ ((1 : Int) < 0) := by omega
  unfold Builtin.Slice.sliceAdjust
  simp only [h1, if_false]
  refine Prod.ext ?_ ?_
  · cases lo with
    | none => rfl
    | some v => exact clip_eq v n 0
  · cases hi with
    | none => rfl
    | some v => exact clip_eq v n n
theorem places_gen (i j : Nat) : Builtin.Slice.slicePlaces (i : Int) (j : Int) 1 = j - i := by
  unfold Builtin.Slice.slicePlaces
  have h1 : (1 : Int) > 0 := by omega
  simp only [h1, if_true, Int.ediv_one]
  split <;> omega
theorem slicePart_ {v : Value} {o : Option Int} {Q : Option Int → Shared → Prop} (p : IsPart v o) (h : Q o s) : wpAny (model prog w) A (Builtin.Slice.slicePartIndex v) Q E s := by
  cases p with
  | none => exact slicePart_none h
  | int i t => exact slicePart_int h
theorem sliceApplied_gen {sl : Addr} {vl vu : Value} {lo hi : Option Int} {n : Nat} {Q : Int × Int × Nat → Shared → Prop} (hs : s.heap.IsSliceOf sl vl vu .none) (pl : IsPart vl lo) (pu : IsPart vu hi)
    (h : Q (((sIx n 0 lo : Nat) : Int), 1, sIx n n hi - sIx n 0 lo) s) : wpAny (model prog w) A (Builtin.Slice.sliceApplied (.ref sl) (pure (n : Int))) Q E s := by
  obtain ⟨os, hos, hcs, hds⟩ := id hs
  unfold Builtin.Slice.sliceApplied Builtin.Slice.sliceFields
  refine wpAny_bind (wpAny_bind (wpAny_field hos hds (x := vl) rfl (wpAny_bind (wpAny_field hos hds (x := vu) rfl (wpAny_bind (wpAny_field hos hds (x := .none) rfl (wpAny_pure ?_)))))))
  refine wpAny_bind (slicePart_none ?_)
  show wpAny _ _ (if ((1 : Int) == 0) = true then _ else _) _ _ s
  rw [if_neg (by decide)]
  refine wpAny_bind (slicePart_ pl (wpAny_bind (slicePart_ pu (wpAny_bind (wpAny_pure ?_)))))
  show wpAny _ _ (match Builtin.Slice.sliceAdjust lo hi 1 (n : Int) with | (lo, hi) => pure (lo, (1 : Int), Builtin.Slice.slicePlaces lo hi 1)) _ _ s
  rw [adjust_gen lo hi n]
  show wpAny _ _ (pure (((sIx n 0 lo : Nat) : Int), (1 : Int), Builtin.Slice.slicePlaces ((sIx n 0 lo : Nat) : Int) ((sIx n n hi : Nat) : Int) 1)) _ _ s
  rw [places_gen]
  exact wpAny_pure h
theorem pick_gen (xs : Array Value) (i k : Nat) : ((List.range k).filterMap fun (m : Nat) => xs[((i : Int) + (m : Int) * 1).toNat]?).toArray = ((xs.toList.drop i).take k).toArray := by
  have e : (fun (m : Nat) => xs[((i : Int) + (m : Int) * 1).toNat]?) = fun m => xs[i + m]? := by
    funext m
    have : ((i : Int) + (m : Int) * 1).toNat = i + m := by omega
    rw [this]
  rw [e]
  have := pick_run xs i k
  rw [List.filterMap_map] at this
  have e2 : ((fun x => xs[x]?) ∘ fun x => i + x) = fun m => xs[i + m]? := rfl
  rw [e2] at this
  rw [this]

theorem getItem_tuple_cut {t sl : Addr} {items : Array Value} {vl vu : Value} {lo hi : Option Int} {Q : Value → Shared → Prop} (ht : IsTup s.heap t items) (hs : s.heap.IsSliceOf sl vl vu .none) (pl : IsPart vl lo) (pu : IsPart vu hi)
    (hw : ¬ (sIx items.size 0 lo = 0 ∧ sIx items.size items.size hi = items.size))
    (h : Q (.ref s.heap.objs.size) { s with heap := s.heap.push { cls := .type "tuple", data := .seq ((items.toList.drop (sIx items.size 0 lo)).take (sIx items.size items.size hi - sIx items.size 0 lo)).toArray } })
    (hsz : items.size ≤ sizeLine) : wpAny (model prog w) A (getItem (.ref t) (.ref sl)) Q E s := by
  have htake : sizeOk (.seq ((items.toList.drop (sIx items.size 0 lo)).take (sIx items.size items.size hi - sIx items.size 0 lo)).toArray) := by
    show ((items.toList.drop (sIx items.size 0 lo)).take (sIx items.size items.size hi - sIx items.size 0 lo)).toArray.size ≤ sizeLine
    rw [List.size_toArray, List.length_take, List.length_drop, Array.length_toList]
    omega
  have hj : sIx items.size items.size hi ≤ items.size := sIx_le _ _ (Nat.le_refl _) hi
  obtain ⟨os, hos, hcs, hds⟩ := id hs
  have hTs : s.TypeIs (.ref sl) "slice" := ⟨os, hos, hcs⟩
  unfold getItem
  try with_reducible refine wpAny_holding ?_
  first | refine wpAny_bind (wpAny_pure ?_) | skip
  refine wpAny_bind (wpAny_sequenceKey ht.typeIs (by decide) ?_)
  refine wpAny_bind (wpAny_callSpecial?_slot (name := Str.ofString "__getitem__") ht.typeIs PyProof.Rows.slot_tuple_getitem
    (wpAny_call_entry PyProof.Rows.slot_tuple_getitem ht.typeIs entry_tuple_getitem ?_ (args_tuple_getitem _ _)))
  show wpAny _ _ (Builtin.Tuple.tupleItemsOf (.ref t) >>= _) _ _ s
  refine wpAny_bind (tupleItemsOf_ ht ?_)
  refine wpAny_bind (wpAny_typeOf hTs ?_)
  rw [if_pos (by decide)]
  refine wpAny_bind (sliceApplied_gen hs pl pu ?_)
  have hno : ¬ ((((sIx items.size 0 lo : Nat) : Int) == 0 && (1 : Int) == 1 && (sIx items.size items.size hi - sIx items.size 0 lo) == items.size) = true) := by
    intro q
    rw [Bool.and_eq_true, Bool.and_eq_true] at q
    have q1 : ((sIx items.size 0 lo : Nat) : Int) = 0 := eq_of_beq q.1.1
    have q2 : sIx items.size items.size hi - sIx items.size 0 lo = items.size := eq_of_beq q.2
    exact hw ⟨by omega, by omega⟩
  show wpAny _ _ (if (((sIx items.size 0 lo : Nat) : Int) == 0 && (1 : Int) == 1 && (sIx items.size items.size hi - sIx items.size 0 lo) == items.size) = true then _ else _) _ _ s
  rw [if_neg hno, pick_gen]
  first
    | exact wpAny_bind (m := Builtin.Tuple.tupleExact _) (wpAny_newObj_type (wpAny_pure ⟨_, rfl, wpAny_pure h⟩) htake)
    | exact wpAny_bind (m := Builtin.Tuple.tupleExact _) (wpAny_newObj_type (wpAny_bind (wpAny_pure (wpAny_pure ⟨_, rfl, wpAny_pure h⟩))) htake)
    | exact wpAny_bind (wpAny_bind (m := Builtin.Tuple.tupleExact _) (wpAny_newObj_type (wpAny_pure (wpAny_pure ⟨_, rfl, wpAny_pure h⟩)) htake))
    | exact wpAny_bind (wpAny_bind (m := Builtin.Tuple.tupleExact _) (wpAny_newObj_type (wpAny_pure ⟨_, rfl, wpAny_pure h⟩) htake))
end
end HT

namespace L2
open PySem PySem.Spec PyProof.Rows

abbrev TO := St → Hp → (Option Int → Hp → Prop) → Prop
def PO (X : Cx) (e : Option Expr) (t : TO) : Prop :=
  ∀ (pins : List (Addr × Obj)) (s : Shared) (σ : St) (H : Hp) (Q : Option Int → Hp → Prop), Inv X pins σ H s → t σ H Q →
    wpAny (model X.prog X.w) X.A (evalPart e X.env) (fun u s' => ∃ o H', Inv X pins σ H' s' ∧ IsPart u o ∧ Q o H') X.xe s
def tNoPart : TO := fun _ H Q => Q none H
def tPart (t : TE) : TO := fun σ H Q => t σ H fun x H1 => ∃ i, x = .int i ∧ Q (some i) H1

theorem intsAre_of {ns : List Int} : ∀ {us : List Value}, Vals (ns.map V.int) us → IntsAre us ns := by
  induction ns with
  | nil => intro us r; rw [List.map_nil] at r; cases r; exact .nil
  | cons n ns ih =>
    intro us r
    rw [List.map_cons] at r
    cases r with
    | cons r1 r2 =>
      obtain ⟨t, e⟩ := r1
      subst e
      exact .cons n t (ih r2)

section
variable {X : Cx} {e : Expr} {te : TE} {lo hi : Option Expr} {tl th : TO} {pos p2 : Pos}

theorem po_none : PO X none tNoPart := by
  intro pins s σ H Q I h
  rw [evalPart_none]
  exact wpAny_pure ⟨none, H, I, .none, h⟩
theorem po_some (h : PE X e te) : PO X (some e) (tPart te) := by
  intro pins s σ H Q I hw
  rw [evalPart_some]
  refine thn (h pins s σ H _ I hw) fun u s1 ⟨x, H1, I1, r1, q1⟩ => ?_
  obtain ⟨i, rfl, q⟩ := q1
  obtain ⟨t, rfl⟩ := r1
  exact ⟨some i, H1, I1, .int i t, q⟩

def SlR (X : Cx) (r : V → Option Int → Option Int → Hp → VK → Prop) : Prop :=
  ∀ (pins : List (Addr × Obj)) (s : Shared) (σ : St) (H : Hp) (x : V) (v vl vu : Value) (lo hi : Option Int) (sl : Addr) (Q : VK), Inv X pins σ H s → RelV x v → s.heap.IsSliceOf sl vl vu .none → IsPart vl lo → IsPart vu hi → r x lo hi H Q →
    ∃ T id, typeLookup (.type T) "__getitem__" = pure (some (.builtin id)) ∧ s.TypeIs v T ∧ wpAny (model X.prog X.w) X.A (getItem v (.ref sl)) (EP X pins σ Q) X.xe s
theorem SlR.or {r r' : V → Option Int → Option Int → Hp → VK → Prop} (h : SlR X r) (h' : SlR X r') : SlR X (fun x lo hi H Q => r x lo hi H Q ∨ r' x lo hi H Q) := by
  intro pins s σ H x v vl vu lo hi sl Q I rx hs pl pu q
  rcases q with q | q
  · exact h pins s σ H x v vl vu lo hi sl Q I rx hs pl pu q
  · exact h' pins s σ H x v vl vu lo hi sl Q I rx hs pl pu q
def tSl (r : V → Option Int → Option Int → Hp → VK → Prop) (te : TE) (tl th : TO) : TE := fun σ H Q => te σ H fun x H1 => tl σ H1 fun l H2 => th σ H2 fun u H3 => r x l u H3 Q
theorem pe_slice {r : V → Option Int → Option Int → Hp → VK → Prop} (hr : SlR X r) (he : PE X e te) (hl : PO X lo tl) (hu : PO X hi th) : PE X (.Subscript e (.Slice lo hi none p2) pos) (tSl r te tl th) := by
  intro pins s σ H Q I h
  refine Subscript_ (thn (he pins s σ H _ I h) fun v s1 ⟨x, H1, I1, r1, q1⟩ => ?_)
  refine wpAny_Slice (thn (hl pins s1 σ H1 _ I1 q1) fun vl s2 ⟨l, H2, I2, pl, q2⟩ => thn (hu pins s2 σ H2 _ I2 q2) fun vu s3 ⟨u, H3, I3, pu, q3⟩ => ?_)
  rw [evalPart_none]
  refine wpAny_pure ?_
  have I4 : Inv X pins σ H3 { s3 with heap := s3.heap.push { cls := .type "slice", data := .fields #[vl, vu, .none] } } := I3.kept (t' := s3.toks) fun b ob q => Heap.get?_push_of_some _ q
  obtain ⟨T, id, hT, ht, hg⟩ := hr pins { s3 with heap := s3.heap.push { cls := .type "slice", data := .fields #[vl, vu, .none] } } σ H3 x v vl vu l u s3.heap.objs.size Q I4 r1 (Heap.IsSliceOf.new ..) pl pu q3
  show wpAny (model X.prog X.w) X.A (subscriptTail e (.Slice lo hi none p2) v (.ref s3.heap.objs.size)) (EP X pins σ Q) X.xe { s3 with heap := s3.heap.push { cls := .type "slice", data := .fields #[vl, vu, .none] } }
  exact tail_any (ops := [.ref s3.heap.objs.size, v]) ht hT hg (by with_unfolding_all rfl)

def cutV (xs : List V) (lo hi : Option Int) : List V := (xs.drop (HT.sIx xs.length 0 lo)).take (HT.sIx xs.length xs.length hi - HT.sIx xs.length 0 lo)
theorem cutV_length (xs : List V) (lo hi : Option Int) : (cutV xs lo hi).length ≤ xs.length := by
  unfold cutV
  rw [List.length_take, List.length_drop]
  omega
def rSlT (K : PySem.W.Frag) : V → Option Int → Option Int → Hp → VK → Prop := fun x lo hi H Q => ∃ a xs, x = .ref a ∧ SqT K H a xs ∧
  ¬ (HT.sIx xs.length 0 lo = 0 ∧ HT.sIx xs.length xs.length hi = xs.length) ∧ ∀ p, H p = none → Q (.ref p) (upd H p (.tup (cutV xs lo hi)))
theorem sl_tup : SlR X (rSlT X.K) := by
  intro pins s σ H x v vl vu lo hi sl Q I rx hs pl pu h
  obtain ⟨a, xs, rfl, hx, hw, q⟩ := h
  cases rx
  obtain ⟨its, r, ht, hz⟩ := I.tuple hx
  have hlen : its.toArray.size = xs.length := by rw [List.size_toArray]; exact r.length.symm
  refine ⟨"tuple", _, PyProof.Rows.slot_tuple_getitem.lookup, ht.typeIs, ?_⟩
  refine HT.getItem_tuple_cut ht hs pl pu (by rw [hlen]; exact hw) ?_ (by rw [hlen]; exact hz)
  rw [hlen]
  refine ⟨.ref s.heap.objs.size, _, I.laid (t' := s.toks) (o := .tup (cutV xs lo hi)) (fun b ob q => Heap.get?_push_of_some _ q) (Nat.le_refl _) ?_, rfl, q _ (I.hok.fresh (Nat.le_refl _))⟩
  exact ⟨Nat.le_trans (cutV_length xs lo hi) hz, _, (r.drop (HT.sIx xs.length 0 lo)).take (HT.sIx xs.length xs.length hi - HT.sIx xs.length 0 lo), IsTup.new _ _⟩

def rCatT (K : PySem.W.Frag) : R2 := fun x y H Q => ∃ a b xs ys, x = .ref a ∧ y = .ref b ∧ SqT K H a xs ∧ SqT K H b ys ∧ xs ≠ [] ∧ xs.length + ys.length ≤ sizeLine ∧
  (ys = [] → Q (.ref a) H) ∧ (ys ≠ [] → ∀ p, H p = none → Q (.ref p) (upd H p (.tup (xs ++ ys))))
theorem Vals.nil_iff {xs : List V} {us : List Value} (r : Vals xs us) : us = [] ↔ xs = [] := by
  cases r with
  | nil => simp
  | cons _ _ => simp
theorem op_catT : OpR X (binaryOp .Add) (rCatT X.K) := by
  intro pins s σ H x y v u Q I rx ry h
  obtain ⟨a, b, xs, ys, rfl, rfl, ha, hb, hx, hz, q1, q2⟩ := h
  cases rx
  cases ry
  obtain ⟨its, r1, p1, _⟩ := I.tuple ha
  obtain ⟨its2, r2, p2, _⟩ := I.tuple hb
  refine HT.cat_tup p1 p2 (fun z => hx (r1.nil_iff.mp z)) (fun z => ⟨.ref a, H, I, rfl, q1 (r2.nil_iff.mp z)⟩) (fun z => ?_) (by rw [← r1.length, ← r2.length]; exact hz)
  refine ⟨.ref s.heap.objs.size, _, I.laid (t' := s.toks) (o := .tup (xs ++ ys)) (fun b ob q => Heap.get?_push_of_some _ q) (Nat.le_refl _) ?_, rfl, q2 (fun w => z (r2.nil_iff.mpr w)) _ (I.hok.fresh (Nat.le_refl _))⟩
  exact ⟨by rw [List.length_append]; exact hz, _, r1.append r2, IsTup.new _ _⟩
end
end L2

namespace L2
open PySem PySem.Spec PyProof.Rows

def ixN (n : Nat) (i : Int) : Option Nat := if 0 ≤ i then (if i < n then some i.toNat else none) else if -(n : Int) ≤ i then some (i + n).toNat else none
def atI {α : Type} (xs : List α) (i : Int) : Option α := (ixN xs.length i).bind fun j => xs[j]?
theorem ixN_seq {n : Nat} {i : Int} {j : Nat} (h : ixN n i = some j) : seqIndex? i n = some j ∧ j < n ∧ -(n : Int) ≤ i ∧ i < n := by
  unfold ixN at h
  by_cases h0 : 0 ≤ i
  · rw [if_pos h0] at h
    by_cases h1 : i < n
    · rw [if_pos h1] at h
      have e : i.toNat = j := Option.some.inj h
      exact ⟨by rw [seqIndex_of h0 h1, e], by omega, by omega, h1⟩
    · rw [if_neg h1] at h; cases h
  · rw [if_neg h0] at h
    by_cases h1 : -(n : Int) ≤ i
    · rw [if_pos h1] at h
      have e : (i + n).toNat = j := Option.some.inj h
      exact ⟨by rw [seqIndex_neg (by omega) h1, e], by omega, h1, by omega⟩
    · rw [if_neg h1] at h; cases h
theorem atI_get {α : Type} {xs : List α} {i : Int} {v : α} (h : atI xs i = some v) : ∃ j, seqIndex? i xs.length = some j ∧ xs[j]? = some v ∧ j < xs.length ∧ -(xs.length : Int) ≤ i ∧ i < xs.length := by
  unfold atI at h
  cases e : ixN xs.length i with
  | none => rw [e] at h; cases h
  | some j =>
    rw [e] at h
    obtain ⟨h1, h2, h3, h4⟩ := ixN_seq e
    exact ⟨j, h1, h, h2, h3, h4⟩
theorem atI_nat {α : Type} {xs : List α} {j : Nat} {v : α} (h : xs[j]? = some v) : atI xs (j : Int) = some v := by
  have hj : j < xs.length := (List.getElem?_eq_some_iff.mp h).1
  have e : ixN xs.length (j : Int) = some j := by
    unfold ixN
    rw [if_pos (by omega), if_pos (by omega)]; simp
  unfold atI; rw [e]; exact h
theorem atI_last {α : Type} (xs : List α) (v : α) : atI (xs ++ [v]) (-1) = some v := by
  have hl : (xs ++ [v]).length = xs.length + 1 := by simp
  have e : ixN (xs ++ [v]).length (-1) = some xs.length := by
    unfold ixN
    rw [hl, if_neg (by decide), if_pos (by omega)]
    congr 1
    omega
  unfold atI
  rw [e]
  show (xs ++ [v])[xs.length]? = some v
  simp

def PlainIx (b : Expr) : Prop := ∀ o i, subscripted b false o i = operate [o, i] (getItem o i)
def IxR (X : Cx) (r : R2) : Prop :=
  ∀ (value slice : Expr) (pins : List (Addr × Obj)) (s : Shared) (σ : St) (H : Hp) (x y : V) (v u : Value) (Q : VK), Inv X pins σ H s → RelV x v → RelV y u → r x y H Q →
    subscripted slice false v u = operate [v, u] (getItem v u) → wpAny (model X.prog X.w) X.A (subscriptTail value slice v u) (EP X pins σ Q) X.xe s
def MtR (X : Cx) (id : String) (r : V → List V → Hp → VK → Prop) : Prop :=
  ∀ (pins : List (Addr × Obj)) (s : Shared) (σ : St) (H : Hp) (x : V) (xs : List V) (v : Value) (us : List Value) (Q : VK), Inv X pins σ H s → RelV x v → Vals xs us → r x xs H Q →
    wpAny (model X.prog X.w) X.A (call (.builtin id) (v :: us)) (EP X pins σ Q) X.xe s
section
variable {X : Cx} {a b : Expr} {ta tb : TE} {pos : Pos}
theorem IxR.or {r r' : R2} (h : IxR X r) (h' : IxR X r') : IxR X (fun x y H Q => r x y H Q ∨ r' x y H Q) := by
  intro value slice pins s σ H x y v u Q I rx ry q hs
  rcases q with q | q
  · exact h value slice pins s σ H x y v u Q I rx ry q hs
  · exact h' value slice pins s σ H x y v u Q I rx ry q hs
theorem MtR.or {id : String} {r r' : V → List V → Hp → VK → Prop} (h : MtR X id r) (h' : MtR X id r') : MtR X id (fun x xs H Q => r x xs H Q ∨ r' x xs H Q) := by
  intro pins s σ H x xs v us Q I rx rs q
  rcases q with q | q
  · exact h pins s σ H x xs v us Q I rx rs q
  · exact h' pins s σ H x xs v us Q I rx rs q
theorem pe_ix {r : R2} (hr : IxR X r) (ha : PE X a ta) (hb : PE X b tb) (hs : PlainIx b) : PE X (.Subscript a b pos) (tOp r ta tb) := by
  intro pins s σ H Q I h
  exact Subscript_ (binT ha hb I h fun v u s2 x y H2 I2 rx ry q => hr a b pins s2 σ H2 x y v u Q I2 rx ry q (hs _ _))

def rIxL (K : PySem.W.Frag) : R2 := fun x y H Q => ∃ p xs i v, x = .ref p ∧ y = .int i ∧ SqL K H p xs ∧ atI xs i = some v ∧ Q v H
def rIxT (K : PySem.W.Frag) : R2 := fun x y H Q => ∃ p xs i v, x = .ref p ∧ y = .int i ∧ SqT K H p xs ∧ atI xs i = some v ∧ Q v H
theorem ix_list : IxR X (rIxL X.K) := by
  intro value slice pins s σ H x y v u Q I rx ry h hs
  obtain ⟨p, xs, i, z, rfl, rfl, hq, he, q⟩ := h
  cases rx
  obtain ⟨t, rfl⟩ := ry
  obtain ⟨its, r, pl, hz⟩ := I.list hq
  obtain ⟨j, h1, h2, h3, h4, h5⟩ := atI_get he
  obtain ⟨w, ew, rw'⟩ := r.get h2
  have hl := r.length
  have hn := line63
  have fin : EP X pins σ Q w s := ⟨z, H, I, rw', q⟩
  by_cases h0 : 0 ≤ i
  · have hj : i.toNat = j := by
      rw [seqIndex_of h0 h5] at h1
      exact Option.some.inj h1
    exact item_listR pl.isList h0 (by omega) (by rw [hj]; simpa using ew) fin hs
  · have hj : (i + (its.toArray.size : Int)).toNat = j := by
      rw [seqIndex_neg (by omega) h4] at h1
      rw [List.size_toArray, ← hl]
      exact Option.some.inj h1
    exact subscriptTail_builtinR (x := w) pl.isList.typeIs slot_list_getitem.lookup
      (wpAny_getItem_list_neg (Q := fun r s' => r = w ∧ EP X pins σ Q r s') pl.isList (by omega) (by rw [List.size_toArray] <;> omega) (by omega) (by rw [hj]; simpa using ew) ⟨rfl, fin⟩) hs
theorem ix_tup : IxR X (rIxT X.K) := by
  intro value slice pins s σ H x y v u Q I rx ry h hs
  obtain ⟨p, xs, i, z, rfl, rfl, hq, he, q⟩ := h
  cases rx
  obtain ⟨t, rfl⟩ := ry
  obtain ⟨its, r, pl, hz⟩ := I.tuple hq
  obtain ⟨j, h1, h2, h3, h4, h5⟩ := atI_get he
  obtain ⟨w, ew, rw'⟩ := r.get h2
  have hl := r.length
  have hn := line63
  have fin : EP X pins σ Q w s := ⟨z, H, I, rw', q⟩
  exact subscriptTail_builtinR (x := w) pl.typeIs slot_tuple_getitem.lookup
    (getItem_tuple (j := j) (Q := fun r s' => r = w ∧ EP X pins σ Q r s') pl (by omega) (by omega) (by rw [List.size_toArray, ← hl]; exact h1) (by simpa using ew) ⟨rfl, fin⟩) hs
theorem mapSeq_set (its : List Value) (n j : Nat) (u : Value) : Obj.mapSeq (·.setIfInBounds j u) { cls := .type "list", data := .seq its.toArray n } = { cls := .type "list", data := .seq (its.set j u).toArray n } := by
  simp [Obj.mapSeq]
theorem Inv.lst {pins : List (Addr × Obj)} {σ : St} {H : Hp} {s : Shared} {p : Addr} {xs : List V} (I : Inv X pins σ H s) (h : H p = some (.lst xs)) :
    ∃ (its : List Value) (n : Nat), Vals xs its ∧ s.heap.get? p = some { cls := .type "list", data := .seq its.toArray n } ∧ xs.length ≤ sizeLine := by
  obtain ⟨z, its, n, r, e⟩ := I.hok p _ h
  exact ⟨its, n, r, e, z⟩
theorem Inv.lstUpd {pins : List (Addr × Obj)} {σ : St} {H : Hp} {s : Shared} {p : Addr} {xs ys : List V} {its its' : List Value} {n n' : Nat} {f : Obj → Obj} (I : Inv X pins σ H s) (h : H p = some (.lst xs))
    (ho : s.heap.get? p = some { cls := .type "list", data := .seq its.toArray n }) (hf : f { cls := .type "list", data := .seq its.toArray n } = { cls := .type "list", data := .seq its'.toArray n' }) (r : Vals ys its') (hz : ys.length ≤ sizeLine) (t : Nat) :
    Inv X pins σ (upd H p (.lst ys)) { s with heap := s.heap.update p f, toks := t } := by
  have e : (s.heap.update p f).get? p = some { cls := .type "list", data := .seq its'.toArray n' } := by
    rw [Heap.get?_update_self f ho (by rw [hf] <;> rfl), hf]
  refine I.write (x := p) (e := p) (by rw [h]; trivial) (.inl rfl) (fun b u hb q => (Heap.get?_update_other _ _ (Ne.symm hb)).trans q) ⟨_, e⟩ ?_
  exact ⟨hz, its', n', r, e⟩
def rSetL : V → V → V → Hp → (Hp → Prop) → Prop := fun o i v H Q => ∃ p xs k j, o = .ref p ∧ i = .int k ∧ H p = some (.lst xs) ∧ ixN xs.length k = some j ∧ Q (upd H p (.lst (xs.set j v)))
theorem set_list : PSet X rSetL := by
  intro pins s σ H o i v ov iv u Q I ro ri rv h
  obtain ⟨p, xs, k, j, rfl, rfl, hp, hj, q⟩ := h
  cases ro
  obtain ⟨t, rfl⟩ := ri
  obtain ⟨its, n, r, ho, hz⟩ := I.lst hp
  obtain ⟨h1, h2, h3, h4⟩ := ixN_seq hj
  have hl := r.length
  have hn := line63
  have I' : Inv X pins σ (upd H p (.lst (xs.set j v))) { s with heap := s.heap.update p (Obj.mapSeq (·.setIfInBounds j u)) } :=
    I.lstUpd hp ho (mapSeq_set its n j u) (r.set rv j) (by rw [List.length_set]; exact hz) s.toks
  by_cases h0 : 0 ≤ k
  · have hk : k.toNat = j := by
      rw [seqIndex_of h0 h4] at h1
      exact Option.some.inj h1
    exact PySem.W.ki_setAt ho h0 (by omega) (by rw [List.size_toArray, ← hl]; exact h4) (by rw [hk]; exact ⟨_, I', q⟩)
  · have hk : (k + (its.toArray.size : Int)).toNat = j := by
      rw [seqIndex_neg (by omega) h3] at h1
      rw [List.size_toArray, ← hl]
      exact Option.some.inj h1
    exact PySem.W.ki_setBack ho (by omega) (by rw [List.size_toArray, ← hl]; exact h3) (by omega) (by rw [hk]; exact ⟨_, I', q⟩)

theorem call_len_seq : CallR X (.builtin "len") (fun xs H Q => ∃ p ys, xs = [.ref p] ∧ (SqL X.K H p ys ∨ SqT X.K H p ys) ∧ Q (.int ys.length) H) := by
  intro pins s σ H xs us Q I r h
  obtain ⟨p, ys, rfl, hq, q⟩ := h
  obtain ⟨u, rfl, rx⟩ := vals1 r
  cases rx
  have hn := line63
  rcases hq with hq | hq
  · obtain ⟨its, r', pl, hz⟩ := I.list hq
    have hlen := r'.length
    exact Calls.call_len_list pl.isList (by simp only [List.size_toArray] <;> omega) ⟨.int ys.length, H, I.tok _, ⟨s.toks + 1, by rw [List.size_toArray, hlen]⟩, q⟩
  · obtain ⟨its, r', pl, hz⟩ := I.tuple hq
    have hlen := r'.length
    exact len_tuple pl (by simp only [List.size_toArray] <;> omega) ⟨.int ys.length, H, I.tok _, ⟨s.toks + 1, by rw [List.size_toArray, hlen]⟩, q⟩
theorem CallR.or {f : Value} {r r' : List V → Hp → VK → Prop} (h : CallR X f r) (h' : CallR X f r') : CallR X f (fun xs H Q => r xs H Q ∨ r' xs H Q) := by
  intro pins s σ H xs us Q I rs q
  rcases q with q | q
  · exact h pins s σ H xs us Q I rs q
  · exact h' pins s σ H xs us Q I rs q
theorem call_tuple_of : CallR X (.type "tuple") (fun xs H Q => ∃ p ys, xs = [.ref p] ∧ ((SqL X.K H p ys ∧ ∀ l, H l = none → Q (.ref l) (upd H l (.tup ys))) ∨ (SqT X.K H p ys ∧ Q (.ref p) H))) := by
  intro pins s σ H xs us Q I r h
  obtain ⟨p, ys, rfl, h⟩ := h
  obtain ⟨u, rfl, rx⟩ := vals1 r
  cases rx
  rcases h with ⟨hq, q⟩ | ⟨hq, q⟩
  · obtain ⟨its, r', pl, hz⟩ := I.list hq
    have hlen := r'.length
    refine call_tuple_list pl.isList (fun h' kp => ?_) (by simp only [List.size_toArray] <;> omega)
    have I1 : Inv X pins σ H { s with heap := h' } := I.kept (t' := s.toks) kp
    have I2 : Inv X pins σ (upd H h'.objs.size (.tup ys)) { s with heap := h'.push { cls := .type "tuple", data := .seq its.toArray } } :=
      I1.laid (t' := s.toks) (fun b o e => Heap.get?_push_of_some _ e) (Nat.le_refl _) (show ObjOk X.prog X.w _ _ _ (.tup ys) from ⟨hz, its, r', IsTup.new _ _⟩)
    exact ⟨.ref h'.objs.size, _, I2, rfl, q _ (I1.hok.fresh (Nat.le_refl _))⟩
  · obtain ⟨its, r', pl, hz⟩ := I.tuple hq
    exact call_tuple_same pl ⟨.ref p, H, I, rfl, q⟩

def tyV (K : PySem.W.Frag) (T : String) (x : V) (H : Hp) : Prop := match x with
  | .str _ => T = "str"
  | .int _ => T = "int"
  | .ref p => (T = "list" ∧ ∃ xs, SqL K H p xs) ∨ (T = "tuple" ∧ ∃ o, K.lookup p = some o ∧ o.cls = .type "tuple" ∧ o.dict = none) ∨
      (T = "dict" ∧ ((∃ kvs, H p = some (.dK kvs)) ∨ ∃ kvs, H p = some (.dT kvs))) ∨ (T = "set" ∧ ∃ S n, H p = some (.set S n))
  | _ => False
theorem tyV_is {pins : List (Addr × Obj)} {σ : St} {H : Hp} {s : Shared} {T : String} {x : V} {v : Value} (I : Inv X pins σ H s) (r : RelV x v) (ty : tyV X.K T x H) :
    s.TypeIs v T ∧ ∀ a, v = .ref a → ∃ ob, s.heap.get? a = some ob ∧ ob.dict = none := by
  cases x with
  | str z =>
    obtain ⟨t, rfl⟩ := r
    cases (show T = "str" from ty)
    exact ⟨typeIs_str s z t, fun _ e => nomatch e⟩
  | int i =>
    obtain ⟨t, rfl⟩ := r
    cases (show T = "int" from ty)
    exact ⟨typeIs_int s i t, fun _ e => nomatch e⟩
  | ref p =>
    cases r
    rcases ty with ⟨rfl, xs, hq⟩ | ⟨rfl, o, hk, hc, hd⟩ | ⟨rfl, hk⟩ | ⟨rfl, S, n, hk⟩
    · obtain ⟨its, _, pl, _⟩ := I.list hq
      refine ⟨pl.isList.typeIs, fun a e => ?_⟩
      cases e
      obtain ⟨o, n, e, c, hd, _⟩ := pl
      exact ⟨o, e, hd⟩
    · refine ⟨⟨o, I.kIn p o hk, hc⟩, fun a e => ?_⟩
      cases e
      exact ⟨o, I.kIn _ o hk, hd⟩
    · have z : ∃ o, s.heap.get? p = some o ∧ o.ExactDict := by
        rcases hk with ⟨kvs, hk⟩ | ⟨kvs, hk⟩
        · obtain ⟨_, _, _, _, o, _, _, e, ex, _⟩ := I.hok p _ hk
          exact ⟨o, e, ex⟩
        · obtain ⟨_, _, _, _, o, _, _, e, ex, _⟩ := I.hok p _ hk
          exact ⟨o, e, ex⟩
      obtain ⟨o, e, ex⟩ := z
      refine ⟨⟨o, e, ex.1⟩, fun a e2 => ?_⟩
      cases e2
      exact ⟨o, e, ex.2.1⟩
    · obtain ⟨o, _, _, _, e, ex, _⟩ := I.hok p _ hk
      refine ⟨⟨o, e, ex.1⟩, fun a e2 => ?_⟩
      cases e2
      exact ⟨o, e, ex.2.1⟩
  | _ => exact False.elim ty
def tBM (K : PySem.W.Frag) (T : String) (r : V → List V → Hp → VK → Prop) (to : TE) (t : TA) : TE := fun σ H Q => to σ H fun x H1 => tyV K T x H1 ∧ t σ H1 fun xs H2 => r x xs H2 Q
variable {o e : Expr} {es : List Expr} {to : TE} {t : TA} {name : Str} {apos cpos : Pos} {T id : String} {r : V → List V → Hp → VK → Prop}
theorem pe_bm (pa : PlainAttrs T) (slot : Slot T name id) (hty : typeOf (.builtin id) = pure (.type "method_descriptor")) (hm : MtR X id r) (ho : PE X o to) (ha : PA X (e :: es) t)
    (hbase : attributeBase o name X.env (eval o X.env) = eval o X.env := by rfl)
    (hfew : ((backTo cpos (starEach (e :: es) X.env)).all (fun x => !x.1) && (backToKw cpos (keywordEach [] X.env)).all (fun x => x.1.isSome)
      && decide ((e :: es).length + ([] : List Keyword).length + (if ([] : List Keyword).isEmpty then 0 else 1) < 30)) = true := by rfl)
    (hline : (apos.endLine == cpos.line) = true := by rfl) (hs : starEach (e :: es) X.env = (false, eval e X.env) :: starEach es X.env := by rfl) (hplain : (backTo cpos (starEach es X.env)).any (·.1) = false := by rfl) :
    PE X (.Call (.Attribute o name apos) (e :: es) [] cpos) (tBM X.K T r to t) := by
  intro pins s σ H Q I h
  refine wpAny_Call_method_late hbase hfew hline rfl (thn (ho pins s σ H _ I h) fun v s1 ⟨x, H1, I1, r1, ty, q1⟩ => ?_)
  obtain ⟨h1, h2⟩ := tyV_is I1 r1 ty
  refine ⟨T, id, pa, slot, hty, h1, h2, ?_⟩
  have hA := ha cpos pins s1 σ H1 _ I1 q1
  rw [hs] at hA ⊢
  refine Calls.callWith_builtin (by show (false || (backTo cpos (starEach es X.env)).any (·.1)) = false; rw [hplain] <;> rfl) (Calls.evalArgs_plain ?_)
  exact thn hA fun us s2 ⟨vs, H2, I2, r2, q2⟩ => hm pins s2 σ H2 x vs v us Q I2 r1 r2 q2
/- xs.append(e), list.index on a module's tuple .. are MtR facts of 06m -/
end
end L2

namespace L2
open PySem PySem.Spec PyProof.Rows

def MtM (X : Cx) (id : String) (r : V → List V → Hp → VK → Prop) : Prop :=
  ∀ (pins : List (Addr × Obj)) (s : Shared) (σ : St) (H : Hp) (x : V) (xs : List V) (v : Value) (us : List Value) (Q : VK), Inv X pins σ H s → RelV x v → Vals xs us → r x xs H Q →
    wpAny (model X.prog X.w) X.A (call (.builtin id) (v :: us)) (EP X pins σ Q) X.xe s

theorem Vals.one : ∀ {x : V} {us : List Value}, Vals [x] us → ∃ u, us = [u] ∧ RelV x u
  | _, _, .cons r .nil => ⟨_, rfl, r⟩
theorem Vals.zero : ∀ {us : List Value}, Vals [] us → us = []
  | _, .nil => rfl
theorem Vals.reverse {xs : List V} {us : List Value} (h : Vals xs us) : Vals xs.reverse us.reverse := by
  induction h with
  | nil => exact .nil
  | cons r t ih => rw [List.reverse_cons, List.reverse_cons]; exact Vals.append ih (.cons r .nil)
section
variable {X : Cx} {pins : List (Addr × Obj)} {σ : St} {H : Hp} {s : Shared} {l b : Addr} {xs ys zs : List V}

theorem Inv.lset {its its' : List Value} {n : Nat} {f : Array Value → Array Value} {t' : Nat} (I : Inv X pins σ H s) (hH : H l = some (.lst xs))
    (e : s.heap.get? l = some { cls := .type "list", data := .seq its.toArray n }) (hf : f its.toArray = its'.toArray) (hv : Vals ys its') (hz : ys.length ≤ sizeLine) :
    Inv X pins σ (upd H l (.lst ys)) { s with heap := s.heap.update l (Obj.mapSeq f), toks := t' } := by
  have q := PySem.IsL.update e f
  rw [hf] at q
  refine I.write (x := l) (e := l) (by rw [hH]; exact trivial) (.inl rfl) (fun b' u hb hu => (Heap.get?_update_other s.heap (Obj.mapSeq f) (Ne.symm hb)).trans hu) ⟨_, q⟩ ?_
  exact ⟨hz, its', _, hv, q⟩
theorem Inv.lnew {its : List Value} {t' : Nat} (I : Inv X pins σ H s) (hv : Vals ys its) (hz : ys.length ≤ sizeLine) :
    Inv X pins σ (upd H s.heap.objs.size (.lst ys)) { s with heap := s.heap.push { cls := .type "list", data := .seq its.toArray }, toks := t' } :=
  I.laid (fun _ _ q => Heap.get?_push_of_some _ q) (Nat.le_refl _) ⟨hz, its, 0, hv, Heap.get?_push_size _ rfl⟩
theorem Inv.fresh (I : Inv X pins σ H s) : H s.heap.objs.size = none := I.hok.fresh (Nat.le_refl _)
theorem Inv.lstM (I : Inv X pins σ H s) (hH : H l = some (.lst xs)) : xs.length ≤ sizeLine ∧ ∃ (its : List Value) (n : Nat), Vals xs its ∧ xs.length = its.length ∧ s.heap.get? l = some { cls := .type "list", data := .seq its.toArray n } := by
  obtain ⟨z, its, n, r, e⟩ := I.hok l _ hH
  exact ⟨z, its, n, r, r.length, e⟩

end

section
variable {X : Cx}

def rAppend : V → List V → Hp → VK → Prop := fun x vs H Q => ∃ l xs y, x = .ref l ∧ vs = [y] ∧ H l = some (.lst xs) ∧ xs.length < sizeLine ∧ Q .non (upd H l (.lst (xs ++ [y])))
theorem mt_append : MtM X "list.append" rAppend := by
  intro pins s σ H x vs v us Q I rx rv h
  obtain ⟨l, xs, y, rfl, rfl, hH, hz, q⟩ := h
  cases rx
  obtain ⟨u, rfl, ru⟩ := rv.one
  obtain ⟨z, its, n, r, hl, e⟩ := I.lstM hH
  refine call_meets F.slot_list_append ⟨_, e, rfl⟩ F.entry_list_append (F.args_list_append_2 _ _) (PySem.list_append l its.toArray n u (by rw [List.size_toArray]; omega)) ⟨e, ?_⟩
  refine ⟨.non, _, I.lset (its' := its ++ [u]) hH e (by simp) (r.append (.cons ru .nil)) ?_, rfl, q⟩
  rw [List.length_append, List.length_singleton]
  omega

def rCat : R2 := fun x y H Q => ∃ l b xs zs, x = .ref l ∧ y = .ref b ∧ H l = some (.lst xs) ∧ H b = some (.lst zs) ∧ xs.length + zs.length ≤ sizeLine ∧ ∀ p, H p = none → Q (.ref p) (upd H p (.lst (xs ++ zs)))
theorem op_cat : OpR X (binaryOp .Add) rCat := by
  intro pins s σ H x y v u Q I rx ry h
  obtain ⟨l, b, xs, zs, rfl, rfl, hH, hB, hz, q⟩ := h
  cases rx
  cases ry
  obtain ⟨z, its, n, r, hl, e⟩ := I.lstM hH
  obtain ⟨z2, its2, n2, r2, hl2, e2⟩ := I.lstM hB
  refine PySem.P.add_list e e2 ?_ (by rw [List.size_toArray, List.size_toArray]; omega)
  have ea : its.toArray ++ its2.toArray = (its ++ its2).toArray := by simp
  rw [ea]
  exact ⟨.ref _, _, I.lnew (t' := s.toks) (r.append r2) (by rw [List.length_append]; omega), rfl, q _ I.fresh⟩
end

section
variable {prog : Program} {w : World} {A : Around} {E : Value → Shared → Prop} {s : Shared}
end

section
variable {X : Cx}
end
end L2

namespace Att
open PySem PySem.W PySem.Calls PyProof.Rows

theorem ints_of_wellAll {P : Params} {h : Heap} : ∀ (ns : List Int) (vs : List Value), WellAll P h vs (ns.map WData.int) → IntsAre vs ns := by
  intro ns
  induction ns with
  | nil =>
    intro vs w
    rw [List.map_nil] at w
    cases w
    exact .nil
  | cons n ns ih =>
    intro vs w
    rw [List.map_cons] at w
    cases w with
    | cons a b =>
      cases a
      exact .cons _ _ (ih _ b)

theorem script_of {l : OpenLaw} {n : Nat} (hn : l.most = some n) {P : Params} {h : Heap} {args : List WData} {vals : List Value}
    (hpre : l.row.toRowW.claim.pre args = true) (hwl : WellAll P h vals args) :
    ∃ a vs ns, vals = [Value.ref a] ∧ args = [WData.list (ns.map WData.int)] ∧ h.get? a = some { cls := .type "list", data := .seq vs.toArray } ∧ IntsAre vs ns ∧ ns.length ≤ n := by
  have hsh : WShape.hasAll [] args [.list .int] = true := (pre_splitW hpre).1
  have hc : l.pre.holds [] { args := args } = true := (pre_splitW hpre).2
  obtain ⟨d, r, rfl, h1, h2⟩ := hasAllW_cons hsh
  obtain rfl := hasAllW_nil h2
  obtain ⟨xs, rfl, h3⟩ := hasW_list h1
  obtain ⟨ns, rfl⟩ := items_int h3
  have hlen : ns.length ≤ n := by
    unfold OpenLaw.pre at hc
    have h4 : (WTm.not (.lt (.lit (.int (n : Int))) (.len (.arg 0)))).holds [] { args := [.list (ns.map .int)] } = true := by
      have h4 := (holds_andW hc).1
      rw [hn] at h4
      exact h4
    have h5 := condW_of h4 (w_not (w_lt w_lit (w_len_list (w_arg rfl))))
    rw [List.length_map] at h5
    refine Nat.le_of_not_lt fun q => ?_
    have q' : (n : Int) < ((ns.length : Nat) : Int) := by omega
    first
      | (rw [decide_eq_true q'] at h5; exact absurd h5 (by decide))
      | (simp at h5; omega)
  cases hwl with
  | cons w1 w2 =>
    cases w2
    cases w1 with
    | list ho hall => exact ⟨_, _, ns, rfl, rfl, ho, ints_of_wellAll ns _ hall, hlen⟩

theorem post_true (l : OpenLaw) (args : List WData) : l.row.toRowW.claim.post args (.bool true) args = true :=
  postW_of (r := l.row.toRowW) (X := (true == true))
    (show WShape.has [] (.bool true) .bool = true by first | rfl | decide | simp [WShape.has, WShape.arms, WShape.armsAll])
    (show (WTm.eq .res (.lit (.bool true))).value [] { args := args, res := some (.bool true), after := args } = some (.bool (true == true)) from w_eq_bool (w_res rfl) w_lit) rfl

theorem attach_call {l : OpenLaw} {n : Nat} {q : Program} {loose : List Str} {XP : (Str → Option Value) → Heap → Prop} {YP : World → Heap → Prop} {d : DefRec}
    (hn : l.most = some n) (hdf : d.params.defaults = [])
    (call : ∀ (w : World) (s₀ s₁ : Shared) (mg mb : Str → Option Value) (fa : Addr) (o : Obj) (pm cd doc : Value) (a : Addr) (vs : List Value) (ns : List Int),
      Ground q loose [] XP w s₀ mg mb s₁.heap → YP w s₁.heap →
      s₁.heap.get? fa = some o → o.data = .func (docDef d.name d.params d.body d.scope pm cd doc) → s₁.heap.CodeRec cd d.name → mg d.name = some (.ref fa) →
      s₁.heap.get? a = some { cls := .type "list", data := .seq vs.toArray } → IntsAre vs ns → ns.length ≤ n → s₁.gens = #[] →
      codeAny (model l.prog w) callerA (.call (.ref fa) ⟨[.ref a], []⟩) (fun r s' => r = .ok (.ret (.bool true)) ∧ OldK s₁.heap s'.heap ∧ s'.os = s₁.os ∧ AllBare s'.gens) s₁) :
    WalkO q loose XP YP l.row.toRowW d [] (fun f vs => PySem.call f vs) := by
  intro w s₀ s₁ mg mb G Y fa o pm cd doc dV kV ho hd hcd hD hmg hg args vals as hpre hlay hrd hwl hlo
  obtain rfl : dV = .none := Dflts.none hD hdf
  obtain rfl : kV = .none := Dflts.noKw hD
  obtain ⟨a, vs, ns, rfl, rfl, hobj, hints, hlen⟩ := script_of hn hpre hwl
  refine enter_call (codeAny_mono (call w s₀ s₁ mg mb fa o pm cd doc a vs ns G Y ho (fd_plain hd) hcd hmg hobj hints hlen hg) fun r s' hq => ?_)
  obtain ⟨rfl, h2, h3, h4⟩ := hq
  exact ⟨.inl ⟨.bool true, .bool true, [], rfl, fun _ => rfl, .bool true, post_true l _, fun _ => ⟨List.Pairwise.nil, fun _ hm => (nomatch hm)⟩⟩, h2, h3, h4⟩

section
variable {prog : Program} {w : World} {A : Around} {E : Value → Shared → Prop} {s : Shared} {K : Frag}

end
end Att

namespace L2
open PySem PySem.Spec PyProof.Rows

theorem vals_ints : ∀ {vs : List Value} {ns : List Int}, IntsAre vs ns → Vals (ns.map V.int) vs
  | _, _, .nil => .nil
  | _, _, .cons n t h => .cons ⟨t, rfl⟩ (vals_ints h)

def Only (H : Hp) : Prop := ∀ b, H b = none ∨ ∃ o xs, H b = some (.frz o (.lst xs))

theorem law_call {P : Program} {w : World} {K : PySem.W.Frag} {mg mb : Str → Option Value} {CX : CXT} {k : Nat} {fa a : Addr} {fd : FuncData} {x : Str} {sp : Sp} {s₁ : Shared} {vs : List Value} {ns : List Int}
    (KX : K.In s₁.heap) (hns : s₁.heap.Ns mainGlobals mg) (hb : s₁.heap.Ns builtinsNs mb) (hbb : ∀ x : Str, x ≠ "__name__" → mb x = bootBuiltins x) (hlim : s₁.heap.NoLimit) (hg : s₁.gens = #[])
    (ha : s₁.heap.get? a = some { cls := .type "list", data := .seq vs.toArray }) (hi : IntsAre vs ns) (hl : ns.length ≤ sizeLine) (hr : Room k callerA)
    (F : ∀ base : Heap, K.In base → base.Ns mainGlobals mg → FnOk P w K mg base CX k fa fd [x] sp) (hbind : ∀ (s : Shared) (u : Value), BindsTo s fd ⟨[u], []⟩ [(x, u)])
    (hsp : ∀ H : Hp, Only H → SqL K H a (ns.map V.int) → sp [.ref a] H (fun v _ => v = .bl true) fun _ _ _ => False)
    (hCX : ∀ H e s', CX [] H s₁ (fun _ _ _ => False) e s' → False) :
    codeAny (model P w) callerA (.call (.ref fa) ⟨[.ref a], []⟩) (fun r s' => r = .ok (.ret (.bool true)) ∧ OldK s₁.heap s'.heap ∧ s'.os = s₁.os ∧ AllBare s'.gens) s₁ := by
  have rv := vals_ints hi
  have lenV := hi.length
  -- from an abstract heap in which nothing but the script may be tracked
  have core : ∀ H : Hp, Only H → SqL K H a (ns.map V.int) → HOk P w H s₁.heap → (∀ b, H b ≠ none → b = a) → (H a ≠ none → K.lookup a = none) →
      codeAny (model P w) callerA (.call (.ref fa) ⟨[.ref a], []⟩) (fun r s' => r = .ok (.ret (.bool true)) ∧ OldK s₁.heap s'.heap ∧ s'.os = s₁.os ∧ AllBare s'.gens) s₁ := by
    intro H hO hS hok hA hK
    have base_of : ∀ {b : Addr} {o : Obj}, s₁.heap.get? b = some o → H b = none → (hidT s₁.heap H).get? b = some o := fun e n => hidT_get e n
    have noA : ∀ {b : Addr} {o : Obj} {es : Array DictEntry} {ep : Nat}, s₁.heap.get? b = some o → o.data = .dict es ep → H b = none := fun {b o es ep} e d => by
      cases q : H b with
      | none => rfl
      | some u =>
        have e' : b = a := hA b (by rw [q]; simp)
        subst e'
        rw [ha] at e; cases e
        have d' : Data.seq vs.toArray _ = Data.dict es ep := d
        cases d'
    have nsK : ∀ {b : Addr} {m : Str → Option Value}, s₁.heap.Ns b m → (hidT s₁.heap H).Ns b m := fun {b m} ⟨o, es, ep, e, d, r⟩ => ⟨o, es, ep, base_of e (noA e d), d, r⟩
    have hKb : K.In (hidT s₁.heap H) := fun b o e => base_of (KX b o e) (by
      cases q : H b with
      | none => rfl
      | some u =>
        have e' : b = a := hA b (by rw [q]; simp)
        subst e'
        rw [hK (by rw [q]; simp)] at e; cases e)
    have hM : Mod K mg (hidT s₁.heap H) := ⟨hKb, nsK hns, ⟨mb, nsK hb, hbb⟩, let ⟨mc, h1, h2⟩ := hlim; ⟨mc, nsK h1, h2⟩⟩
    have e0 : Env0 P w K mg (hidT s₁.heap H) callerA [] s₁ H := ⟨rfl, hM, fun b o e => of_hidT e, Nat.le_of_eq (hidT_size _ _), trivial, fun b hb => absurd (show b ∈ ([] : List Addr) from hb) (by simp), hok, .of_eq hg⟩
    refine codeAny_mono ((F _ hKb (nsK hns)).run callerA [] s₁ H ⟨[.ref a], []⟩ [.ref a] [.ref a] _ _ hr e0 (hbind s₁ (.ref a)) (.cons rfl .nil) (hsp H hO hS)) fun r s' h => ?_
    cases r with
    | error e => exact (hCX H e s' h).elim
    | ok fl =>
      cases fl with
      | next => exact False.elim h
      | brk => exact False.elim h
      | cont => exact False.elim h
      | ret u =>
        obtain ⟨v, H', os, bare, un, hok', r', q⟩ := h
        have q' : v = .bl true := q
        subst q'
        obtain rfl : u = Value.bool true := r'
        refine ⟨rfl, OldK.of_keep fun b o e => ?_, os, bare⟩
        cases q : H b with
        | none => exact un.keep b o e q (by intro z; exact absurd (show b ∈ ([] : List Addr) from z) (by simp)) (by simp)
        | some u =>
          rcases hO b with z | ⟨ob, xs, z⟩
          · rw [q] at z; cases z
          · have z2 := un.frzs b ob _ z
            obtain ⟨e1, _⟩ := hok b _ z
            obtain ⟨e2, _⟩ := hok' b _ z2
            rw [e] at e1; cases e1
            exact e2
  cases hk : K.lookup a with
  | some o =>
    -- the script is one of the module's own objects
    have e := KX a o hk
    rw [ha] at e
    cases e
    refine core (fun _ => none) (fun _ => .inl rfl) (.inr ⟨_, vs.toArray, _, hk, rfl, rfl, rfl, by rw [List.size_toArray, lenV]; exact hl, by simpa using rv⟩) (fun b u z => by have z' : (none : Option HO) = some u := z; cases z') (fun b z => absurd rfl z) fun z => absurd rfl z
  | none =>
    refine core (fun b => if b = a then some (.frz { cls := .type "list", data := .seq vs.toArray } (.lst (ns.map V.int))) else none) (fun b => ?_) (.inl (.inr ⟨{ cls := .type "list", data := .seq vs.toArray }, if_pos rfl⟩)) (fun b u z => ?_) (fun b z => ?_) fun _ => hk
    · by_cases hb : b = a
      · exact .inr ⟨_, _, if_pos hb⟩
      · exact .inl (if_neg hb)
    · by_cases hb : b = a
      · have z' := (if_pos hb).symm.trans z
        cases z'
        subst hb
        exact ⟨ha, by rw [List.length_map]; exact hl, vs, _, rv, ha⟩
      · have z' := (if_neg hb).symm.trans z
        cases z'
    · by_cases hb : b = a
      · exact hb
      · exact absurd (if_neg hb) z
end L2

namespace L2
open PySem PySem.Spec PyProof.Rows

abbrev KOf {K : PySem.W.Frag} {h : Heap} (_ : K.In h) : PySem.W.Frag := K

theorem walk_of {l : PySem.W.OpenLaw} {n k : Nat} {q : Program} {loose : List Str} {XP : (Str → Option Value) → Heap → Prop} {YP : World → Heap → Prop} {d : DefRec} {K : Params → PySem.W.Frag} {CX : World → CXT} {sp : World → Sp} {x : Str}
    (hn : l.most = some n) (hn2 : n ≤ sizeLine) (hdf : d.params.defaults = []) (hr : Room k callerA)
    (hY : ∀ (w : World) (h : Heap), YP w h → (K w.params).In h)
    (F : ∀ (w : World) (mg : Str → Option Value) (fa : Addr) (h : Heap), (K w.params).In h → h.Ns mainGlobals mg → mg d.name = some (.ref fa) →
      ∃ fd : FuncData, (∀ (s : Shared) (u : Value), BindsTo s fd ⟨[u], []⟩ [(x, u)]) ∧
        ∀ base : Heap, (K w.params).In base → base.Ns mainGlobals mg → FnOk l.prog w (K w.params) mg base (CX w) k fa fd [x] (sp w))
    (hsp : ∀ (w : World) (H : Hp) (a : Addr) (ns : List Int), ns.length ≤ n → Only H → SqL (K w.params) H a (ns.map V.int) → sp w [.ref a] H (fun v _ => v = .bl true) fun _ _ _ => False)
    (hCX : ∀ (w : World) (H : Hp) (s : Shared) (e : Value) (s' : Shared), CX w [] H s (fun _ _ _ => False) e s' → False) :
    PySem.W.WalkO q loose XP YP l.row.toRowW d [] (fun f vs => PySem.call f vs) := by
  refine Att.attach_call hn hdf fun w s₀ s₁ mg mb fa o pm cd doc a vs ns G Y ho hd hcd hmg hobj hints hlen hg => ?_
  have KX := hY w _ Y
  obtain ⟨fd, hb, hF⟩ := F w mg fa _ KX G.T.g hmg
  exact law_call KX G.T.g G.T.b G.T.builtins G.T.nolimit hg hobj hints (Nat.le_trans hlen hn2) hr hF hb (fun H hO hS => hsp w H a ns hlen hO hS) fun H e s' => hCX w H s₁ e s'
end L2

/- THE LAST THEOREM (shape; LID, My.* are yours):
   My.Adr: a structure of the addresses that your layer names (classes, functions); My.Txt K t: a structure (Prop) of the equations over K;
   My.txt_mk : {K} {implicit addresses ..} (e1 : nsIn K mainGlobals "law" = some (some (.ref f))) (e2 : K.lookup f = some ⟨oc, od, .func (fnOf "law" "law" params body scope dV kV doc pm an cdv ct), sl⟩) (e3 : codeIn K cdv "law" = true) .. : ∃ t, My.Txt K t

set_option maxRecDepth 100000 in
set_option maxHeartbeats 0 in
theorem PySem.Challenge.cw_LID_holds : PySem.Challenge.rw_LID.Holds := by
  w_on; o_law; k_head; (case hw => w_witness2)
  k_fill
  refine L2.walk_of (l := PySem.Challenge.rw_LID) (n := 63) (k := 40) (x := "script") (CX := fun w => ..) (sp := fun _ => My.sp_law) rfl (by decide) rfl ⟨rfl, by decide, by decide⟩ (fun w h Y => PySem.W.kIn_of Y) ?F ?S ?C
  case F =>
    intro w mg fa h KX G hmg
    have T : ∃ t, My.Txt (L2.KOf KX) t := by
      dsimp only [L2.KOf]                          -- K must stand as «<heap const> w.params» for k_is
      refine' My.txt_mk ?e1 ?e2 ?e3 ..
      (case e1 => PySem.W.k_is)                    -- in the order: a name -> its address -> its object -> its parts
      (case e2 => PySem.W.k_is)
      ..
    obtain ⟨t, T⟩ := T
    have e0 := hmg.symm.trans (PySem.W.mg_of KX G T.law)
    cases e0                                       -- fa is the law's own address
    exact ⟨_, fun s u => .of_eq rfl, fun base kb nb => My.law_fn T kb nb⟩     -- if «.of_eq rfl» comes too early: refine' ⟨_, ?b, fun base kb nb => My.law_fn T kb nb⟩; exact fun s u => .of_eq rfl
  case S => exact fun w H a ns hl hO hS => ..
  case C => exact ..
(the tactic k_is has no namespace: write k_is) -/

namespace L2
open PySem PySem.Spec PyProof.Rows

def defArgs (s : Stmt) : Arguments := match s with
  | .FunctionDef _ a _ _ _ _ _ _ _ _ => a
  | _ => { posonlyargs := [], args := [], vararg := none, kwonlyargs := [], kw_defaults := [], kwarg := none, defaults := [] }
def defBody (s : Stmt) : List Stmt := match s with
  | .FunctionDef _ _ b _ _ _ _ _ _ _ => b
  | _ => []
def defScope (s : Stmt) : Scope := match s with
  | .FunctionDef _ _ _ _ _ _ sc _ _ _ => sc
  | _ => { kind := .function, names := [], isGenerator := false, isCoroutine := false }

abbrev CX0 : CXT := fun _ _ _ _ _ _ => False
abbrev E0 : XK := fun _ _ _ => False
theorem pass0 {X : Cx} : Passes CX0 X E0 := fun _ _ _ _ _ _ _ h => h.elim

structure Fun (K : PySem.W.Frag) (x qual : Str) (st : Stmt) (f : Addr) (fd : FuncData) : Prop where
  ex : ∃ (oc : Value) (od : Option Addr) (kV doc pm : Value) (an : Option Addr) (cdv ct : Value) (osl : Array (Option Value)),
    fd = PySem.W.fnOf x qual (defArgs st) (defBody st) (defScope st) .none kV doc pm an cdv ct ∧ K.lookup f = some ⟨oc, od, .func fd, osl⟩ ∧ PySem.W.codeIn K cdv qual = true
  kp : PySem.W.keepIn K (.ref f) = true
section
variable {P : Program} {w : World} {K : PySem.W.Frag} {mg : Str → Option Value} {base : Heap}
theorem Fun.ok {x qual : Str} {st : Stmt} {f : Addr} {fd : FuncData} {N ps : List Str} {k : Nat} {sp : Sp} (F : Fun K x qual st f fd) (S : FnScope N ps (defScope st)) (len : ∀ vs H Q E, sp vs H Q E → vs.length = ps.length)
    (hbody : ∀ (cdv : Value) (A : Around) (outer : List Env) (s : Shared) (H : Hp) (vs : List V) (Q : VK) (E : XK), Room k (A.deeper (envOfC qual (defScope st) s.heap.objs.size f cdv)) → sp vs H Q E →
      ∃ t, PSs (cxOf CX0 P w K mg base N qual (defScope st) f cdv A outer s H E).nox (defBody st) t ∧ t { nx := fun _ H' => Q .non H', rt := Q } (start N vs) H) : FnOk P w K mg base CX0 (k + 1) f fd ps sp := by
  obtain ⟨oc, od, kV, doc, pm, an, cdv, ct, osl, rfl, lk, hcd⟩ := F.ex
  refine fn_of lk hcd S len fun A outer s H vs Q E hr hsp => ?_
  obtain ⟨t, h, q⟩ := hbody cdv A outer s H vs Q E hr hsp
  exact ⟨t, h.nox, q⟩
theorem Fun.binds {x qual : Str} {st : Stmt} {f : Addr} {fd : FuncData} {ps : List Str} (F : Fun K x qual st f fd)
    (h : ∀ (kV doc pm : Value) (an : Option Addr) (cdv ct : Value) (us : List Value), us.length = ps.length → bindArgs (PySem.W.fnOf x qual (defArgs st) (defBody st) (defScope st) .none kV doc pm an cdv ct) ⟨us, []⟩ = pure (ps.zip us)) : Binds K fd ps [] := by
  obtain ⟨oc, od, kV, doc, pm, an, cdv, ct, osl, rfl, lk, hcd⟩ := F.ex
  exact .all (h kV doc pm an cdv ct)
theorem fun_mk {x qual : Str} {st : Stmt} {f : Addr} {oc : Value} {od an : Option Addr} {osl : Array (Option Value)} {kV doc pm cdv ct : Value} (l : K.lookup f = some ⟨oc, od, .func (PySem.W.fnOf x qual (defArgs st) (defBody st) (defScope st) .none kV doc pm an cdv ct), osl⟩)
    (c : PySem.W.codeIn K cdv qual = true) (k : PySem.W.keepIn K (.ref f) = true) : Fun K x qual st f (PySem.W.fnOf x qual (defArgs st) (defBody st) (defScope st) .none kV doc pm an cdv ct) := ⟨⟨oc, od, kV, doc, pm, an, cdv, ct, osl, rfl, l, c⟩, k⟩
end
theorem small1000 {n : Nat} (h : n ≤ 1000) : n < sizeLine := Nat.lt_of_le_of_lt h (by decide)

section
variable {X : Cx}
theorem pv (i : Nat) {x : Str} {pos : Pos} (hN : X.N[i]? = some x := by rfl) (hv : Vis X.env.scope x := by first | exact Or.inl rfl | exact Or.inr (Or.inl rfl) | exact Or.inr (Or.inr rfl)) (hd : (x == ("__debug__" : Str)) = false := by decide)
    (hcd : (x == ("__classdict__" : Str)) = false := by decide) : PE X (.Name x pos) (tVar i) := pe_var hN hv hd hcd
end

theorem iteF {A B : Prop} (h : B) : if false = true then A else B := by
  rw [if_neg Bool.false_ne_true]
  exact h
theorem iteT {A B : Prop} (h : A) : if true = true then A else B := by
  rw [if_pos rfl]
  exact h
theorem ite2 {c A B : Prop} [Decidable c] (h1 : c → A) (h2 : ¬ c → B) : if c then A else B := by
  by_cases h : c
  · rw [if_pos h]
    exact h1 h
  · rw [if_neg h]
    exact h2 h
def Same (H H' : Hp) : Prop := ∀ b o, H b = some o → H' b = some o
theorem Same.refl (H : Hp) : Same H H := fun _ _ h => h
theorem Same.trans {H H1 H2 : Hp} (a : Same H H1) (b : Same H1 H2) : Same H H2 := fun c o h => b c o (a c o h)
theorem Same.free {H H' : Hp} (e : Same H H') {l : Addr} (h : H' l = Option.none) : H l = Option.none := by
  cases q : H l with
  | none => rfl
  | some o =>
    rw [e l o q] at h
    cases h
theorem Same.seq {K : PySem.W.Frag} {H H' : Hp} {a : Addr} {xs : List V} (e : Same H H') (h : SqL K H a xs) : SqL K H' a xs := by
  rcases h with (h | ⟨o, h⟩) | h
  · exact .inl (.inl (e _ _ h))
  · exact .inl (.inr ⟨o, e _ _ h⟩)
  · exact .inr h

end L2
set_option Elab.async false
set_option linter.all false
set_option maxRecDepth 100000
namespace L2
open PySem PySem.Spec PyProof.Rows

section
variable {prog : Program} {w : World} {A : Around} {R : Result → Shared → Prop} {s : Shared}
theorem compLoop_any {elt target iter : Expr} {ifs : List Expr} {scope : Scope} {pos : Pos} {it acc : Value} {env : Env} (I : Nat → Shared → Prop)
    (turn : ∀ n s, I n s → wpAny (model prog w) A (pyNext it) (fun r s₁ => match r with
      | none => R (.ok .next) s₁
      | some v => wpAny (model prog w) A (letOwnedTupleGo target it v) (fun _ s₀ => wpAny (model prog w) A (assign target env v) (fun _ s₂ =>
          wpAny (model prog w) A (forIn ifs true fun c r => if r = true then do let ok ← isTrue c env (eval c env); pure (ForInStep.yield ok) else pure (ForInStep.yield r)) (fun ok s₃ =>
            if ok = true then wpAny (model prog w) A (eval elt env) (fun x s₄ =>
              wpAny (model prog w) A (call (.builtin "list.append") [acc, x]) (fun _ s₅ => ∃ m, m < n ∧ I m s₅) (fun _ _ => False) s₄) (fun _ _ => False) s₃
            else ∃ m, m < n ∧ I m s₃) (fun _ _ => False) s₂) (fun _ _ => False) s₀) (fun _ _ => False) s₁) (fun _ _ => False) s)
    (n : Nat) (h : I n s) :
    codeAny (model prog w) A (.compLoop (.ListComp elt [⟨target, iter, ifs, 0⟩] scope pos) 0 it acc env) R s := by
  refine codeAny_loop rfl I (fun n s hI => ?_) n h
  show wpAny _ A ((compTurn (.ListComp elt [⟨target, iter, ifs, 0⟩] scope pos) 0 it acc env).onRaise (fun x => do noteFrame x env; theTreesLotGoes x)) _ _ s
  refine wpAny_noted ?_
  rw [compTurn_list]
  have no : ∀ {X : Prop}, ∀ (e : Value) (s' : Shared), (fun _ _ => False : Value → Shared → Prop) e s' → X := fun _ _ z => False.elim z
  refine wpAny_bind (wpAny_standAt (wpAny_bind (wpAny_mono (turn n s hI) (fun r s₁ h₁ => ?_) fun e s' => no e s')))
  cases r with
  | none => exact wpAny_pure h₁
  | some v =>
    refine wpAny_bind (wpAny_mono h₁ (fun _ s₀ h₀ => ?_) fun e s' => no e s')
    refine wpAny_bind (wpAny_mono h₀ (fun _ s₂ h₂ => wpAny_bind (wpAny_mono h₂ (fun ok s₃ h₃ => ?_) fun e s' => no e s')) fun e s' => no e s')
    cases ok with
    | false => exact wpAny_pure ⟨rfl, h₃⟩
    | true =>
      exact wpAny_bind (wpAny_bind (wpAny_mono h₃ (fun x s₄ h₄ => wpAny_bind (wpAny_mono h₄ (fun _ s₅ h₅ => wpAny_pure (wpAny_pure ⟨rfl, h₅⟩)) fun e s' => no e s')) fun e s' => no e s'))
end

def cxComp (X : Cx) (NB : List Str) (scope : Scope) (s3 : Shared) (H3 : Hp) (fp : List Addr) : Cx :=
  { X with N := NB, s₀ := s3, H₀ := H3, env := compEnv scope s3.heap.objs.size X.env, outer := X.stack, stack := X.stack, ex := fp, fn := fun _ => true, pn := [], xe := fun _ _ => False }

def PTs (X : Cx) (ifs : List Expr) (t : TT) : Prop :=
  ∀ (pins : List (Addr × Obj)) (s : Shared) (σ : St) (H : Hp) (Q : Bool → Hp → Prop), Inv X pins σ H s → t σ H Q →
    wpAny (model X.prog X.w) X.A (forIn ifs true fun c r => if r = true then do let ok ← isTrue c X.env (eval c X.env); pure (ForInStep.yield ok) else pure (ForInStep.yield r)) (TP X pins σ Q) X.xe s
theorem pts_nil {X : Cx} : PTs X [] (fun _ H Q => Q true H) := fun _ _ _ H _ I h => wpAny_tests_nil ⟨H, I, h⟩
theorem pts_one {X : Cx} {c : Expr} {t : TT} (h : PT X c t) : PTs X [c] t := fun pins s σ H Q I q => wpAny_tests_one (h pins s σ H Q I q)

def tComp (n : Nat) (wi : TI) (g : TG) (tt : TT) (te : TE) : TE := fun σ H Q => wi σ H fun J H1 => ∀ D, H1 D = none → ∃ W : Nat → Nat → Hp → List V → Prop, (∃ m, W 0 m (upd H1 D (.lst [])) []) ∧
  ∀ i m H2 ys, W i m H2 ys → H2 D = some (.lst ys) → (J.stop i H2 ∧ Q (.ref D) H2) ∨
    (J.go i H2 ∧ ∀ σB x H3, σB.length = n → J.yld i H2 x H3 → g x σB H3 fun σ4 H4 => tt σ4 H4 fun b H5 => if b = true then te σ4 H5 (fun v H6 => H6 D = some (.lst ys) ∧ ys.length < sizeLine ∧ ∃ m', m' < m ∧ W (i + 1) m' (upd H6 D (.lst (ys ++ [v]))) (ys ++ [v]))
      else H5 D = some (.lst ys) ∧ ∃ m', m' < m ∧ W (i + 1) m' H5 ys)


theorem pe_comp {X : Cx} {elt tg iter : Expr} {ifs : List Expr} {scope : Scope} {pos : Pos} {NB : List Str} {wi : TI} {g : TG} {tt : TT} {te : TE}
    (hc : X.calm = true) (hfree : ∀ x ∈ scope.names, x.2 ≠ .free) (hcell : ∀ x ∈ scope.names, x.2 ≠ .cell) (hkind : scope.kind = .function) (hnames : ∀ x ∈ scope.names, x.2 = .local → scope.names.lookup x.1 = some .local)
    (hi : PI X tg iter wi) (hb : ∀ s3 H3 fp, PG (cxComp X NB scope s3 H3 fp) tg g ∧ PTs (cxComp X NB scope s3 H3 fp) ifs tt ∧ PE (cxComp X NB scope s3 H3 fp) elt te)
    (hs : ∀ x, foldedSetIterable iter X.env x = pure x := by intro _; rfl) :
    PE X (.ListComp elt [⟨tg, iter, ifs, 0⟩] scope pos) (tComp NB.length wi g tt te) := by
  intro pins s σ H Q I h
  refine wpAny_ListComp hfree hkind hnames (thn (hi pins s σ H _ I h) fun v s1 h1 => thn h1 fun itv s2 h2 => ?_) hs
  obtain ⟨it, fp, tn, J, H2, e, I2, T, st2, f2, q2⟩ := h2
  subst e
  have hf2 : H2 s2.heap.objs.size = none := I2.hok.fresh (Nat.le_refl _)
  obtain ⟨W, ⟨m0, w0⟩, turn⟩ := q2 _ hf2
  refine wpAny_newObj_type (hd := by size_fits) ?_
  have I3 : Inv X pins σ (upd H2 s2.heap.objs.size (.lst [])) { s2 with heap := s2.heap.push { cls := .type "list", dict := none, data := .seq ([] : List Value).toArray } } :=
    I2.laid (t' := s2.toks) (fun b u e => Heap.get?_push_of_some _ e) (Nat.le_refl _) ⟨by decide, [], 0, .nil, Heap.get?_push_size _ rfl⟩
  generalize hD : s2.heap.objs.size = D at *
  generalize hs3 : ({ s2 with heap := s2.heap.push { cls := .type "list", dict := none, data := .seq ([] : List Value).toArray } } : Shared) = s3 at *
  generalize hH3 : upd H2 D (.lst []) = H3 at *
  have h3D : H3 D = some (.lst []) := by rw [← hH3]; exact upd_same
  have fpD : ∀ b ∈ fp, b ≠ D := fun b hb => by
    obtain ⟨o, e, _⟩ := T.obj _ _ st2 b hb
    rw [← hD]; exact Nat.ne_of_lt (Heap.lt_size e)
  have k23 : ∀ b u, s2.heap.get? b = some u → s3.heap.get? b = some u := fun b u e => by rw [← hs3]; exact Heap.get?_push_of_some _ e
  have st3 : tn 0 s3.heap := T.keep _ _ _ st2 fun b _ o e => k23 b o e
  have f3 : ∀ b ∈ fp, FpOk X pins H3 b := fun b hb => ⟨by rw [← hH3, upd_ne (fpD b hb)]; exact (f2 b hb).1, (f2 b hb).2⟩
  refine wpAny_newFunctionEnv hcell (by intro y hy; simp at hy) (fun h4 hns4 hsb4 => ?_) hkind
  have k34 : ∀ b u, s3.heap.get? b = some u → h4.get? b = some u := fun b u e => hsb4.extBut b u (Nat.ne_of_lt (Heap.lt_size e)) (Heap.get?_push_of_some _ e)
  have okB : (cxComp X NB scope s3 H3 fp).Ok := by
    refine ⟨I3.ok.mod, hkind, I3.ok.glob, I3.ok.blt, Nat.le_refl _, fun x y c e _ => ?_, fun x e => ?_, fun x c _ e => ?_, I3.ok.hd, I3.ok.frames, .inl rfl, fun b hb => ⟨?_, fun x c e => ?_⟩, I3.bs, Nat.le_trans I3.ok.bsz I3.sz, fun b o e hb => ?_, fun b hb z => ?_, I3.stack, I3.stkFree⟩
    · exact absurd (show ([] : List (Str × Addr)).lookup x = some c from e) (by simp)
    · have e' : scope.names.lookup x = some .cell ∨ scope.names.lookup x = some .free := e
      rcases e' with e' | e'
      · exact absurd rfl (hcell _ (PySem.mem_of_lookup e'))
      · exact absurd rfl (hfree _ (PySem.mem_of_lookup e'))
    · exact absurd (show ([] : List (Str × Addr)).lookup x = some c from e) (by simp)
    · obtain ⟨o, e, _⟩ := T.obj _ _ st3 b hb
      exact Nat.ne_of_lt (Heap.lt_size e)
    · exact absurd (show ([] : List (Str × Addr)).lookup x = some c from e) (by simp)
    · obtain ⟨_, _, _, z, _⟩ := f3 b hb
      rcases z with z | z
      · exact I3.ok.noex b o e z
      · exact absurd (Nat.lt_of_lt_of_le (Heap.lt_size e) (Nat.le_trans I3.ok.bsz z)) (Nat.lt_irrefl _)
    · obtain ⟨_, z1, z2, _⟩ := f3 b hb
      rcases List.mem_cons.mp (I3.stkSub b z) with e | e
      · exact z1 e
      · exact z2 e
  have IB : Inv (cxComp X NB scope s3 H3 fp) [] (List.replicate NB.length none) H3 { s3 with heap := h4, toks := s3.toks + ([] : List (Str × Value)).length } := by
    refine ⟨okB, rfl, I3.bare, Un.kept k34, ⟨_, hns4, fun i x v _ e _ => ?_⟩, fun x c e => ?_, I3.hok.fresh (Nat.le_refl _), fun x c e => ?_, fun p hp => ?_, I3.hok.kept k34, by simp [cxComp]⟩
    · rw [List.getElem?_replicate] at e
      split at e <;> cases e
    · exact absurd (show ([] : List (Str × Addr)).lookup x = some c from e) (by simp)
    · exact absurd (show ([] : List (Str × Addr)).lookup x = some c from e) (by simp)
    · exact absurd (show p ∈ ([] : List (Addr × Obj)) from hp) (by simp)
  have st4 : tn 0 h4 := T.keep _ _ _ st3 fun b _ o e => k34 b o e
  have C_ne : ∀ b ∈ fp, b ≠ s3.heap.objs.size := fun b hb => (okB.exf b hb).1
  -- what stays true of the iterator's objects
  have stat : ∀ {H' : Hp}, (∀ b ∈ fp, H' b = none) → ∀ b ∈ fp, FpOk (cxComp X NB scope s3 H3 fp) [] H' b := fun hn b hb =>
    ⟨hn b hb, C_ne b hb, okB.exfs b hb, .inl hb, fun x c e => absurd (show ([] : List (Str × Addr)).lookup x = some c from e) (by simp), fun p hp => absurd (show p ∈ ([] : List (Addr × Obj)) from hp) (by simp)⟩
  obtain ⟨hg, ht, he⟩ := hb s3 H3 fp
  have fin : ∀ {σ' : St} {H' : Hp} {s' : Shared}, Inv (cxComp X NB scope s3 H3 fp) [] σ' H' s' → Q (.ref D) H' →
      ∃ m, s'.heap.Ns s3.heap.objs.size m ∧ ∀ h', Heap.SameBut s3.heap.objs.size s'.heap h' → EP X pins σ Q (.ref D) { s' with heap := h' } := fun {σ' H' s'} J q => by
    obtain ⟨m, hm, _⟩ := J.loc
    refine ⟨m, hm, fun h' sb => ⟨.ref D, H', ?_, rfl, q⟩⟩
    have neC : ∀ b o, s3.heap.get? b = some o → b ≠ s3.heap.objs.size := fun b o e => Nat.ne_of_lt (Heap.lt_size e)
    have hfr : H' s3.heap.objs.size = none := J.free
    have up : ∀ b o, b ≠ s3.heap.objs.size → s'.heap.get? b = some o → h'.get? b = some o := fun b o hb e => (sb.2 b hb).trans e
    have hok' : HOk X.prog X.w H' h' := fun b ob e => (J.hok b ob e).stay (fun c w' hc q => up c w' (by
      rintro rfl
      rcases hc with rfl | hc
      · rw [hfr] at e; cases e
      · rw [hfr] at hc; cases hc) q) (fun _ q => q) fun _ _ q => q
    have u : Un (frs X.stack) fp H3 H' s3.heap h' :=
      ⟨fun b o e n hb hx => up b o (neC b o e) (J.base.keep b o e n hb hx), fun b o e n hb hx => by
        obtain ⟨sl, e'⟩ := J.base.slot b o e n hb hx
        exact ⟨sl, up b _ (neC b o e) e'⟩, J.base.free, fun b o e hx => by
        obtain ⟨o', e'⟩ := J.base.there b o e hx
        exact ⟨o', up b _ (neC b o e) e'⟩, J.base.tups, J.base.frzs, J.base.tbls⟩
    refine I3.call' (s' := { s' with heap := h' }) (ch := fp) J.os u hok' J.bare fun b hb => ?_
    obtain ⟨z0, z1, z2, z3, z4, z5⟩ := f3 b hb
    exact ⟨z3, z1, z4, z5⟩
  have loop : ∀ s5 : Shared, s5 = { s3 with heap := h4, toks := s3.toks + ([] : List (Str × Value)).length } →
      codeAny (model X.prog X.w) X.A (.compLoop (.ListComp elt [⟨tg, iter, ifs, 0⟩] scope pos) 0 (.ref it) (.ref D) (compEnv scope s3.heap.objs.size X.env))
        (fun r s' => ∃ m, s'.heap.Ns s3.heap.objs.size m ∧ ∀ h', Heap.SameBut s3.heap.objs.size s'.heap h' →
          match r with | .ok _ => EP X pins σ Q (.ref D) { s' with heap := h' } | .error x => wpAny (model X.prog X.w) X.A (passOn "comprehension.variables-let-go" x (compEnv scope s3.heap.objs.size X.env)) (EP X pins σ Q) X.xe { s' with heap := h' }) s5 := by
    rintro s5 rfl
    refine compLoop_any (fun n s' => ∃ i σ' H' ys, Inv (cxComp X NB scope s3 H3 fp) [] σ' H' s' ∧ tn i s'.heap ∧ (∀ b ∈ fp, H' b = none) ∧ H' D = some (.lst ys) ∧ W i n H' ys) ?_ m0
      ⟨0, _, H3, [], IB, st4, fun b hb => (f3 b hb).1, h3D, by rw [← hH3] at *; exact w0⟩
    rintro n s6 ⟨i, σ6, H6, ys, I6, st6, fr6, hD6, w6⟩
    rcases turn i n H6 ys w6 hD6 with ⟨stop, qn⟩ | ⟨go, step⟩
    · refine thn (T.done (cxComp X NB scope s3 H3 fp) rfl rfl rfl hc i [] s6 σ6 H6 _ I6 (stat fr6) st6 stop) fun r s7 ⟨hr, I7⟩ => ?_
      subst hr
      exact fin I7 qn
    · refine thn (T.item (cxComp X NB scope s3 H3 fp) rfl rfl rfl hc i [] s6 σ6 H6 _ I6 (stat fr6) st6 go) fun r s7 ⟨u, hr, h7⟩ => ?_
      subst hr
      refine thn h7 fun _ s8 ⟨x, H8, I8, r8, y8, st8, fr8⟩ => ?_
      have I8' := I8.pinned (stat fr8) (T.obj _ _ st8)
      have again : ∀ {σ9 : St} {H9 : Hp} {s9 : Shared} {zs : List V} {m' : Nat}, Inv (cxComp X NB scope s3 H3 fp) ([] ++ pinsAt fp s8.heap) σ9 H9 s9 → H9 D = some (.lst zs) → m' < n → W (i + 1) m' H9 zs →
          ∃ m, m < n ∧ ∃ i σ' H' ys, Inv (cxComp X NB scope s3 H3 fp) [] σ' H' s9 ∧ tn i s9.heap ∧ (∀ b ∈ fp, H' b = none) ∧ H' D = some (.lst ys) ∧ W i m H' ys := fun {σ9 H9 s9 zs m'} I9 hz hm w9 => by
        refine ⟨m', hm, i + 1, σ9, H9, zs, I9.unpinned, T.keep _ _ _ st8 fun b hb o e => (I9.pin (b, o) (List.mem_append_right _ (List.mem_append_right _ (mem_pinsAt hb e)))).1, fun b hb => ?_, hz, w9⟩
        obtain ⟨o, e, d⟩ := T.obj _ _ st8 b hb
        exact (I9.pin (b, o) (List.mem_append_right _ (List.mem_append_right _ (mem_pinsAt hb e)))).2.1
      refine thn (hg _ s8 σ6 H8 x u _ I8' r8 (step σ6 x H8 I6.len y8)) fun _ s9 ⟨σ9, H9, I9, q9⟩ => ?_
      refine thn (ht _ s9 σ9 H9 _ I9 q9) fun ok s10 ⟨H10, I10, q10⟩ => ?_
      cases ok with
      | false =>
        rw [if_neg (by decide)] at q10 ⊢
        obtain ⟨hz, m', hm, w'⟩ := q10
        exact again I10 hz hm w'
      | true =>
        rw [if_pos rfl] at q10 ⊢
        refine thn (he _ s10 σ9 H10 _ I10 q10) fun y s11 ⟨v, H11, I11, r11, hz, hlen, m', hm, w'⟩ => ?_
        refine thn (mt_append _ s11 σ9 H11 (.ref D) [v] (.ref D) [y] (fun _ H12 => H12 = upd H11 D (.lst (ys ++ [v]))) I11 rfl (.cons r11 .nil) ⟨D, ys, v, rfl, rfl, hz, hlen, rfl⟩) fun _ s12 ⟨_, H12, I12, _, e12⟩ => ?_
        subst e12
        exact again I12 upd_same hm w'
  exact codeAny_compStart_list (loop _ rfl) (T.self X.A 0 _ _ _ st4 (loop _ rfl))
end L2
set_option Elab.async false
set_option linter.all false
set_option maxRecDepth 100000
namespace L2
open PySem PySem.Spec PyProof.Rows

mutual
inductive RdD (H : Hp) : V → PyData → Prop
  | non : RdD H .non .none
  | bl (b : Bool) : RdD H (.bl b) (.bool b)
  | int (i : Int) : RdD H (.int i) (.int i)
  | str (x : Str) : RdD H (.str x) (.str x)
  | tup {a : Addr} {xs : List V} {ds : List PyData} : H a = some (.tup xs) → RdDs H xs ds → RdD H (.ref a) (.tuple ds)
  | lst {a : Addr} {xs : List V} {ds : List PyData} : H a = some (.lst xs) → RdDs H xs ds → RdD H (.ref a) (.list ds)
inductive RdDs (H : Hp) : List V → List PyData → Prop
  | nil : RdDs H [] []
  | cons {x : V} {d : PyData} {xs : List V} {ds : List PyData} : RdD H x d → RdDs H xs ds → RdDs H (x :: xs) (d :: ds)
end
section
variable {X : Cx} {pins : List (Addr × Obj)} {σ : St} {H : Hp} {s : Shared}
mutual
theorem RdD.reads (I : Inv X pins σ H s) : ∀ {x : V} {d : PyData}, RdD H x d → ∀ {u : Value}, RelV x u → ∃ as, Reads s.heap u d as
  | _, _, .non, u, r => by cases (show u = Value.none from r); exact ⟨_, .none⟩
  | _, _, .bl b, u, r => by cases (show u = Value.bool b from r); exact ⟨_, .bool b⟩
  | _, _, .int i, u, r => by obtain ⟨t, e⟩ := (show ∃ t, u = Value.int i t from r); subst e; exact ⟨_, .int i t⟩
  | _, _, .str x, u, r => by obtain ⟨t, e⟩ := (show ∃ t, u = Value.str x t from r); subst e; exact ⟨_, .str x t⟩
  | _, _, @RdD.tup _ a xs ds e h, u, r => by
    cases (show u = Value.ref a from r)
    obtain ⟨_, its, rv, o, h1, h2, n, h3⟩ := (show ObjOk X.prog X.w H s.heap a (.tup xs) from I.hok a _ e)
    obtain ⟨as, ra⟩ := RdDs.reads I h rv
    exact ⟨_, .tuple h1 h2 h3 (by simpa using ra)⟩
  | _, _, @RdD.lst _ a xs ds e h, u, r => by
    cases (show u = Value.ref a from r)
    obtain ⟨_, its, n, rv, h1⟩ := (show ObjOk X.prog X.w H s.heap a (.lst xs) from I.hok a _ e)
    obtain ⟨as, ra⟩ := RdDs.reads I h rv
    exact ⟨_, .list h1 rfl rfl (by simpa using ra)⟩
theorem RdDs.reads (I : Inv X pins σ H s) : ∀ {xs : List V} {ds : List PyData}, RdDs H xs ds → ∀ {us : List Value}, Vals xs us → ∃ as, ReadsAll s.heap us ds as
  | _, _, .nil, us, r => by cases r; exact ⟨_, .nil⟩
  | _, _, .cons h t, us, r => by
    cases r with
    | cons r1 r2 =>
      obtain ⟨a1, q1⟩ := RdD.reads I h r1
      obtain ⟨a2, q2⟩ := RdDs.reads I t r2
      exact ⟨_, .cons q1 q2⟩
end
end
def rEqD : R2 := fun x y H Q => ∃ d e, RdD H x d ∧ RdD H y e ∧ SeqAt.shaped d = true ∧ SeqAt.shaped e = true ∧ Q (.bl (PyData.eqv d e)) H
def rNeD : R2 := fun x y H Q => ∃ d e, RdD H x d ∧ RdD H y e ∧ SeqAt.shaped d = true ∧ SeqAt.shaped e = true ∧ Q (.bl (!PyData.eqv d e)) H
section
variable {X : Cx}
theorem op_eqD (hu : X.A.units + 64 < cLine) : OpR X (compareOp .Eq) rEqD := by
  intro pins s σ H x y v u Q I rx ry h
  obtain ⟨d, e, hd, he, s1, s2, q⟩ := h
  obtain ⟨as, r1⟩ := hd.reads I rx
  obtain ⟨bs, r2⟩ := he.reads I ry
  exact eq_dataH r1 r2 s1 s2 hu ⟨.bl _, H, I, rfl, q⟩
theorem op_neD (hu : X.A.units + 64 < cLine) : OpR X (compareOp .NotEq) rNeD := by
  intro pins s σ H x y v u Q I rx ry h
  obtain ⟨d, e, hd, he, s1, s2, q⟩ := h
  obtain ⟨as, r1⟩ := hd.reads I rx
  obtain ⟨bs, r2⟩ := he.reads I ry
  exact ne_dataH r1 r2 s1 s2 hu ⟨.bl _, H, I, rfl, q⟩

def Bd (n : Nat) (i : Int) : Prop := i.natAbs < 2 ^ n
theorem Bd.mono {m n : Nat} {i : Int} (h : Bd m i) (l : m ≤ n) : Bd n i := Nat.lt_of_lt_of_le h (Nat.pow_le_pow_right (by decide) l)
theorem Bd.bits {n : Nat} {i : Int} (h : Bd n i) : Builtin.Int.intBits i ≤ n := intBits_le_iff.mpr h
theorem Bd.of_bits {n : Nat} {i : Int} (h : Builtin.Int.intBits i ≤ n) : Bd n i := intBits_le_iff.mp h
theorem Bd.mul {m n : Nat} {i j : Int} (h : Bd m i) (k : Bd n j) : Bd (m + n) (i * j) := .of_bits (intBits_mul_le h.bits k.bits)
theorem Bd.add {m n : Nat} {i j : Int} (h : Bd m i) (k : Bd n j) : Bd (max m n + 1) (i + j) := .of_bits (intBits_add_le h.bits k.bits)
theorem Bd.neg {n : Nat} {i : Int} (h : Bd n i) : Bd n (-i) := by unfold Bd; rw [Int.natAbs_neg]; exact h
theorem Bd.sub {m n : Nat} {i j : Int} (h : Bd m i) (k : Bd n j) : Bd (max m n + 1) (i - j) := by rw [Int.sub_eq_add_neg]; exact h.add k.neg
def CMulB (i j : Int) : Prop := Bd 1000000 i ∧ Bd 1000000 j
theorem op_mulB : OpR X (binaryOp .Mult) (rI CMulB fun i j => .int (i * j)) := opI fun _ _ _ _ _ _ _ hc q => mul_int q (IntMulOk.of_le hc.1.bits hc.2.bits (by decide))
def CDivB (i j : Int) : Prop := j ≠ 0 ∧ Bd 8900 j
theorem op_fdivB : OpR X (binaryOp .FloorDiv) (rI CDivB fun i j => .int (i.fdiv j)) := opI fun _ j _ _ _ _ _ hc q => floordiv_int hc.1 q (.inl (PyProof.noPylong_of_log2 (by
  have h1 : j.natAbs ≠ 0 := fun z => hc.1 (Int.natAbs_eq_zero.mp z)
  have h2 : j.natAbs < 2 ^ 9000 := Nat.lt_of_lt_of_le hc.2 (Nat.pow_le_pow_right (by decide) (by decide))
  exact (Nat.log2_lt h1).mpr h2)))

theorem call_isinst : CallR X (.builtin "isinstance") (fun xs H Q => ∃ x t n b, xs = [x, .ty n] ∧ TyOf X.K H x t ∧ PySem.W.kitOne X.K t (.type n) = some b ∧ Q (.bl b) H) := by
  intro pins s σ H xs us Q I r h
  obtain ⟨x, t, n, b, rfl, ty, e, q⟩ := h
  obtain ⟨u, w', rfl, r1, r2⟩ := vals2 r
  cases (show w' = Value.type n from r2)
  exact isinst_ok I r1 ty e fun tk => ⟨.bl b, H, I.tok tk, rfl, q⟩
end
end L2
set_option Elab.async false
set_option linter.all false
set_option maxRecDepth 100000
namespace HT
open PySem PySem.Spec PyProof.Rows L2
section
variable {prog : Program} {w : World} {A : Around} {E : Value → Shared → Prop} {s : Shared}
end
end HT
namespace L2
open PySem PySem.Spec PyProof.Rows
section
variable {X : Cx} {e st : Expr} {te : TE} {pos p2 : Pos}
end
end L2
namespace KM
theorem gcd_step {a b : Int} (ha : 0 ≤ a) (hb : 0 < b) : Int.gcd b (a % b) = Int.gcd a b := by
  obtain ⟨m, rfl⟩ := Int.eq_ofNat_of_zero_le ha
  obtain ⟨n, rfl⟩ := Int.eq_ofNat_of_zero_le (Int.le_of_lt hb)
  rw [← Int.natCast_emod, Int.gcd_comm (m : Int)]
  show Nat.gcd n (m % n) = Nat.gcd n m
  rw [Nat.gcd_comm n (m % n)]
  exact (Nat.gcd_rec n m).symm
theorem den_ne (q : Rat) : (q.den : Int) ≠ 0 := by have := q.den_nz; omega
def dv (t b : Int) : Int := if b < 0 then -(Int.gcd t b : Int) else (Int.gcd t b : Int)
theorem gcd_pos {t b : Int} (hb : b ≠ 0) : 0 < Int.gcd t b := Int.gcd_pos_of_ne_zero_right _ hb
theorem dv_ne {t b : Int} (hb : b ≠ 0) : dv t b ≠ 0 := by
  have := gcd_pos (t := t) hb
  unfold dv; split <;> omega
theorem dv_abs {t b : Int} : (dv t b).natAbs = Int.gcd t b := by
  unfold dv; split <;> omega
theorem dv_le {t b : Int} (hb : b ≠ 0) : (dv t b).natAbs ≤ b.natAbs := by
  rw [dv_abs]; exact Nat.le_of_dvd (by omega) (Int.gcd_dvd_natAbs_right t b)
theorem dv_num {t b : Int} (hb : b ≠ 0) : t.fdiv (dv t b) = (Rat.divInt t b).num := by
  rw [Rat.num_divInt, Int.gcd_comm b t]
  have h1 : ((Int.gcd t b : Nat) : Int) ∣ t := Int.gcd_dvd_left ..
  unfold dv
  split
  · rename_i h
    rw [Int.fdiv_eq_ediv_of_dvd (Int.neg_dvd.mpr h1), Int.ediv_neg, Int.sign_eq_neg_one_of_neg h]
    rw [show (-1 * t) = -t by omega, Int.neg_ediv_of_dvd h1]
  · rename_i h
    rw [Int.fdiv_eq_ediv_of_dvd h1, Int.sign_eq_one_of_pos (by omega), Int.one_mul]
theorem dv_den {t b : Int} (hb : b ≠ 0) : b.fdiv (dv t b) = ((Rat.divInt t b).den : Int) := by
  rw [Rat.den_divInt, if_neg hb, Int.gcd_comm b t]
  have h1 : ((Int.gcd t b : Nat) : Int) ∣ b := Int.gcd_dvd_right ..
  have h2 : Int.gcd t b ∣ b.natAbs := Int.gcd_dvd_natAbs_right t b
  unfold dv
  split
  · rename_i h
    rw [Int.fdiv_eq_ediv_of_dvd (Int.neg_dvd.mpr h1), Int.ediv_neg]
    rw [Int.natCast_ediv, show ((b.natAbs : Nat) : Int) = -b by omega, Int.neg_ediv_of_dvd h1]
  · rename_i h
    rw [Int.fdiv_eq_ediv_of_dvd h1, Int.natCast_ediv, show ((b.natAbs : Nat) : Int) = b by omega]
theorem num_le {t b : Int} (hb : b ≠ 0) : (Rat.divInt t b).num.natAbs ≤ t.natAbs := by
  rw [← dv_num hb]
  have : t.fdiv (dv t b) ∣ t := by
    have h1 : dv t b ∣ t := by
      unfold dv; split
      · exact Int.neg_dvd.mpr (Int.gcd_dvd_left ..)
      · exact Int.gcd_dvd_left ..
    obtain ⟨c, hc⟩ := h1
    rw [Int.fdiv_eq_ediv_of_dvd ⟨c, hc⟩]
    refine ⟨dv t b, ?_⟩
    exact (Int.ediv_mul_cancel ⟨c, hc⟩).symm
  by_cases h0 : t = 0
  · subst h0; simp
  · exact Nat.le_of_dvd (by omega) (Int.natAbs_dvd_natAbs.mpr this)
theorem den_le {t b : Int} (hb : b ≠ 0) : (Rat.divInt t b).den ≤ b.natAbs := by
  rw [Rat.den_divInt, if_neg hb]; exact Nat.div_le_self _ _

theorem plus_eq (a b : Rat) : Rat.divInt (a.num * b.den + b.num * a.den) (a.den * b.den) = a + b := by
  rw [Rat.add_def', ← Rat.divInt_ofNat]; simp
theorem times_eq (a b : Rat) : Rat.divInt (a.num * b.num) (a.den * b.den) = a * b := by
  rw [Rat.mul_def', ← Rat.divInt_ofNat]; simp
theorem over_eq (a b : Rat) : Rat.divInt (a.num * b.den) (a.den * b.num) = a / b := by
  rw [Rat.div_def, Rat.inv_def, ← Rat.divInt_mul_divInt, Rat.num_divInt_den]
theorem less_iff (a b : Rat) : a.num * b.den < b.num * a.den ↔ a < b := (Rat.lt_iff a b).symm
theorem int_num (n : Int) : (n : Rat).num = n := Rat.num_intCast n
theorem int_den (n : Int) : (n : Rat).den = 1 := Rat.den_intCast n

structure Ball where
  pl : Rat
  sp : Rat
  wt : Int
def ws (f : Ball → Rat) (l : List Ball) : Rat := l.foldl (fun acc b => acc + (b.wt : Rat) * f b) 0
end KM
set_option Elab.async false
set_option linter.all false
set_option maxRecDepth 100000
namespace L2
open PySem PySem.Spec PyProof.Rows

structure Cal (P : Program) (w : World) (K : PySem.W.Frag) (mg : Str → Option Value) (base : Heap) (x : Str) (k : Nat) (ps : List Str) (dvs : List V) (sp : Sp) : Prop where
  ex : ∃ f fd ds, FnOk P w K mg base CX0 k f fd ps sp ∧ mg x = some (.ref f) ∧ PySem.W.keepIn K (.ref f) = true ∧ Binds K fd ps ds ∧ Vals dvs ds
theorem Cal.mono {P : Program} {w : World} {K : PySem.W.Frag} {mg : Str → Option Value} {base : Heap} {x : Str} {j k : Nat} {ps : List Str} {dvs : List V} {sp : Sp} (c : Cal P w K mg base x j ps dvs sp) (h : j ≤ k) : Cal P w K mg base x k ps dvs sp := by
  obtain ⟨f, fd, ds, F, r⟩ := c.ex
  exact ⟨⟨f, fd, ds, F.mono h, r⟩⟩
theorem pe_c {X : Cx} {x : Str} {k : Nat} {ps : List Str} {dvs : List V} {sp : Sp} {p pos : Pos} {e : Expr} {es : List Expr} {t : TA}
    (c : Cal X.prog X.w X.K X.mg X.base x k ps dvs sp) (hr : Room k X.A) (ha : PA X (e :: es) t) (hg : Gl X x := by rfl) (hdb : (x == ("__debug__" : Str)) = false := by decide)
    (he : starEach (e :: es) X.env = (false, eval e X.env) :: starEach es X.env := by rfl) (hpl : (backTo pos (starEach es X.env)).any (·.1) = false := by rfl) :
    PE X (.Call (.Name x p) (e :: es) [] pos) (tCall sp dvs E0 t) := by
  obtain ⟨f, fd, ds, F, hm, hk, hb, hd⟩ := c.ex
  exact pe_call F hr hg hm hk hb hd pass0 ha hdb he hpl

structure Df (K : PySem.W.Frag) (mg : Str → Option Value) (x : Str) (st : Stmt) (ps : List Str) (dvs : List V) : Prop where
  ex : ∃ (f : Addr) (oc : Value) (od : Option Addr) (dV kV doc pm : Value) (an : Option Addr) (cdv ct : Value) (osl : Array (Option Value)) (ds : List Value),
    K.lookup f = some ⟨oc, od, .func (PySem.W.fnOf x x (defArgs st) (defBody st) (defScope st) dV kV doc pm an cdv ct), osl⟩ ∧ PySem.W.codeIn K cdv x = true ∧ PySem.W.keepIn K (.ref f) = true ∧ mg x = some (.ref f) ∧
    Vals dvs ds ∧ Binds K (PySem.W.fnOf x x (defArgs st) (defBody st) (defScope st) dV kV doc pm an cdv ct) ps ds
section
variable {P : Program} {w : World} {K : PySem.W.Frag} {mg : Str → Option Value} {base : Heap}
theorem Df.cal {x : Str} {st : Stmt} {N ps : List Str} {dvs : List V} {k : Nat} {sp : Sp} (D : Df K mg x st ps dvs) (S : FnScope N ps (defScope st)) (len : ∀ vs H Q E, sp vs H Q E → vs.length = ps.length)
    (hbody : ∀ (f : Addr) (cdv : Value) (A : Around) (outer : List Env) (s : Shared) (H : Hp) (vs : List V) (Q : VK) (E : XK), Room k (A.deeper (envOfC x (defScope st) s.heap.objs.size f cdv)) → sp vs H Q E →
      ∃ t, PSs (cxOf CX0 P w K mg base N x (defScope st) f cdv A outer s H E).nox (defBody st) t ∧ t { nx := fun _ H' => Q .non H', rt := Q } (start N vs) H) : Cal P w K mg base x (k + 1) ps dvs sp := by
  obtain ⟨f, oc, od, dV, kV, doc, pm, an, cdv, ct, osl, ds, lk, hcd, hk, hm, hv, hb⟩ := D.ex
  refine ⟨⟨f, _, ds, fn_of lk hcd S len fun A outer s H vs Q E hr hsp => ?_, hm, hk, hb, hv⟩⟩
  obtain ⟨t, h, q⟩ := hbody f cdv A outer s H vs Q E hr hsp
  exact ⟨t, h.nox, q⟩
theorem df_mk {x : Str} {st : Stmt} {ps : List Str} {f : Addr} {oc : Value} {od an : Option Addr} {osl : Array (Option Value)} {dV kV doc pm cdv ct : Value}
    (l : K.lookup f = some ⟨oc, od, .func (PySem.W.fnOf x x (defArgs st) (defBody st) (defScope st) dV kV doc pm an cdv ct), osl⟩) (c : PySem.W.codeIn K cdv x = true) (k : PySem.W.keepIn K (.ref f) = true) (m : mg x = some (.ref f))
    (hb : ∀ us : List Value, us.length = ps.length → bindArgs (PySem.W.fnOf x x (defArgs st) (defBody st) (defScope st) dV kV doc pm an cdv ct) ⟨us, []⟩ = pure (ps.zip us)) : Df K mg x st ps [] :=
  ⟨⟨f, oc, od, dV, kV, doc, pm, an, cdv, ct, osl, [], l, c, k, m, .nil, .all hb⟩⟩
end

def rp (q : Rat) : List V := [.int q.num, .int (q.den : Int)]
def RatAt (H : Hp) (p : Addr) (q : Rat) : Prop := H p = some (.tup (rp q))
theorem RatAt.same {H H' : Hp} {p : Addr} {q : Rat} (h : RatAt H p q) (e : Same H H') : RatAt H' p q := e _ _ h
def Sz (n : Nat) (q : Rat) : Prop := Bd n q.num ∧ Bd n (q.den : Int)
theorem Sz.mono {m n : Nat} {q : Rat} (h : Sz m q) (l : m ≤ n) : Sz n q := ⟨h.1.mono l, h.2.mono l⟩
theorem Bd.of_le {n : Nat} {i j : Int} (h : i.natAbs ≤ j.natAbs) (b : Bd n j) : Bd n i := Nat.lt_of_le_of_lt h b
theorem Sz.divInt {n : Nat} {t b : Int} (hb : b ≠ 0) (h1 : Bd n t) (h2 : Bd n b) : Sz n (Rat.divInt t b) :=
  ⟨h1.of_le (KM.num_le hb), h2.of_le (by have := KM.den_le (t := t) hb; omega)⟩
theorem Sz.add {m n : Nat} {x y : Rat} (h : Sz m x) (k : Sz n y) : Sz (m + n + 1) (x + y) := by
  rw [← KM.plus_eq]
  refine .divInt (Int.mul_ne_zero (KM.den_ne x) (KM.den_ne y)) ?_ ((h.2.mul k.2).mono (by omega))
  exact ((h.1.mul k.2).add (k.1.mul h.2)).mono (by omega)
theorem Sz.mul {m n : Nat} {x y : Rat} (h : Sz m x) (k : Sz n y) : Sz (m + n) (x * y) := by
  rw [← KM.times_eq]
  exact .divInt (Int.mul_ne_zero (KM.den_ne x) (KM.den_ne y)) (h.1.mul k.1) (h.2.mul k.2)
theorem Sz.int {n : Nat} {i : Int} (h : Bd n i) (hn : 1 ≤ n) : Sz n (i : Rat) := by
  refine ⟨by rw [KM.int_num]; exact h, ?_⟩
  rw [KM.int_den]
  exact Bd.mono (m := 1) (show (1 : Int).natAbs < 2 ^ 1 by decide) hn
theorem shaped_rp (q : Rat) : SeqAt.shaped (.tuple [.int q.num, .int (q.den : Int)]) = true := rfl
theorem RatAt.rd {H : Hp} {p : Addr} {q : Rat} (h : RatAt H p q) : RdD H (.ref p) (.tuple [.int q.num, .int (q.den : Int)]) := .tup h (.cons (.int _) (.cons (.int _) .nil))
theorem eqv_rp (x y : Rat) : PyData.eqv (.tuple [.int x.num, .int (x.den : Int)]) (.tuple [.int y.num, .int (y.den : Int)]) = decide (x = y) := by
  simp only [PyData.eqv, PyData.eqvAll, Bool.and_true]
  rw [Bool.eq_iff_iff]
  simp only [Bool.and_eq_true, beq_iff_eq, decide_eq_true_eq]
  constructor
  · rintro ⟨h1, h2⟩; exact Rat.ext h1 (by omega)
  · rintro rfl; exact ⟨rfl, rfl⟩

def spLow : Sp := fun vs H Q _ => ∃ t b, vs = [.int t, .int b] ∧ b ≠ 0 ∧ Bd 8900 b ∧ ∀ p H', Same H H' → RatAt H' p (Rat.divInt t b) → Q (.ref p) H'
def spBin (C : Rat → Rat → Prop) (f : Rat → Rat → Rat) : Sp := fun vs H Q _ => ∃ p q x y, vs = [.ref p, .ref q] ∧ RatAt H p x ∧ RatAt H q y ∧ C x y ∧ ∀ r H', Same H H' → RatAt H' r (f x y) → Q (.ref r) H'
def Sz2 (x y : Rat) : Prop := Sz 4000 x ∧ Sz 4000 y
theorem at0 {α : Type} (a b : α) : atI [a, b] 0 = some a := rfl
theorem at1 {α : Type} (a b : α) : atI [a, b] 1 = some b := rfl
theorem Same.upd {H : Hp} {p : Addr} {o : HO} (h : H p = none) : Same H (upd H p o) := fun b u e => by rw [upd_ne (ne_of_none e h)]; exact e
end L2
set_option Elab.async false
set_option linter.all false
set_option maxRecDepth 100000
namespace L2
open PySem PySem.Spec PyProof.Rows

def caps (σ : St) (js : List Nat) : St := js.map fun j => (σ[j]?).getD none
inductive Capt (X : Cx) (scope : Scope) (cl : List (Str × Addr)) : List Str → List Nat → Prop
  | nil : Capt X scope cl [] []
  | cons {x : Str} {j : Nat} {r : List Str} {js : List Nat} : X.N[j]? = some x → X.env.kindOf x = some .cell → (relabel scope X.env).names.lookup x = some .cell → (∃ c, cl.lookup x = some c) → Capt X scope cl r js → Capt X scope cl (x :: r) (j :: js)
section
variable {X : Cx} {scope : Scope} {cl : List (Str × Addr)}
theorem Capt.length : ∀ {r : List Str} {js : List Nat}, Capt X scope cl r js → r.length = js.length
  | _, _, .nil => rfl
  | _, _, .cons _ _ _ _ t => by rw [List.length_cons, List.length_cons, Capt.length t]
theorem Capt.get : ∀ {r : List Str} {js : List Nat} {k : Nat} {x : Str}, Capt X scope cl r js → r[k]? = some x → ∃ j, js[k]? = some j ∧ X.N[j]? = some x ∧ X.env.kindOf x = some .cell ∧ (relabel scope X.env).names.lookup x = some .cell ∧ ∃ c, cl.lookup x = some c
  | _, _, _, _, .nil, e => by simp at e
  | _, _, 0, _, .cons h1 h2 h3 h4 _, e => by
    simp at e; subst e
    exact ⟨_, rfl, h1, h2, h3, h4⟩
  | _, _, k + 1, x, .cons _ _ _ _ t, e => by
    obtain ⟨j, r⟩ := Capt.get (k := k) t (by simpa using e)
    exact ⟨j, by simpa using r⟩
theorem Capt.has {r : List Str} {js : List Nat} (h : Capt X scope cl r js) {x : Str} (hx : x ∈ r) : ∃ c, cl.lookup x = some c := by
  obtain ⟨k, hk⟩ := List.getElem?_of_mem hx
  obtain ⟨_, _, _, _, _, z⟩ := h.get hk
  exact z
end
def cxCompC (X : Cx) (NB FR : List Str) (scope : Scope) (cl : List (Str × Addr)) (s3 : Shared) (H3 : Hp) (fp : List Addr) : Cx :=
  { X with N := NB ++ FR, s₀ := s3, H₀ := H3, env := compEnvC scope cl s3.heap.objs.size X.env, outer := X.stack, stack := X.stack, ex := fp, fn := fun _ => false, pn := [], xe := fun _ _ => False }
def tCompC (n : Nat) (js : List Nat) (wi : TI) (g : TG) (tt : TT) (te : TE) : TE := fun σ H Q => wi σ H fun J H1 => ∀ D, H1 D = none → ∃ W : Nat → Nat → Hp → List V → Prop, (∃ m, W 0 m (upd H1 D (.lst [])) []) ∧
  ∀ i m H2 ys, W i m H2 ys → H2 D = some (.lst ys) → (J.stop i H2 ∧ Q (.ref D) H2) ∨
    (J.go i H2 ∧ ∀ zs x H3, zs.length = n → J.yld i H2 x H3 → g x (zs ++ caps σ js) H3 fun σ4 H4 => σ4.drop n = caps σ js ∧ tt σ4 H4 fun b H5 =>
      if b = true then te σ4 H5 (fun v H6 => H6 D = some (.lst ys) ∧ ys.length < sizeLine ∧ ∃ m', m' < m ∧ W (i + 1) m' (upd H6 D (.lst (ys ++ [v]))) (ys ++ [v]))
      else H5 D = some (.lst ys) ∧ ∃ m', m' < m ∧ W (i + 1) m' H5 ys)

theorem relabel_has {scope : Scope} {env : Env} {FR : List Str} {x : Str} (h : (relabel scope env).names.all (fun y => !(y.2 == .cell || y.2 == .free) || FR.contains y.1) = true)
    (e : (relabel scope env).names.lookup x = some .cell ∨ (relabel scope env).names.lookup x = some .free) : x ∈ FR := by
  have key : ∀ k : NameKind, (k == .cell || k == .free) = true → (x, k) ∈ (relabel scope env).names → x ∈ FR := fun k hk hm => by
    have z := List.all_eq_true.mp h _ hm
    simp only [hk, Bool.not_true, Bool.false_or, List.contains_iff_mem] at z
    exact z
  rcases e with e | e
  · exact key .cell rfl (PySem.mem_of_lookup e)
  · exact key .free rfl (PySem.mem_of_lookup e)

theorem comp_core {X : Cx} {elt tg iter : Expr} {ifs : List Expr} {scope : Scope} {cl : List (Str × Addr)} {pos : Pos} {NB FR : List Str} {js : List Nat} {wi : TI} {g : TG} {tt : TT} {te : TE} {Q : VK} {RR : Value → Addr → Result → Shared → Prop}
    {pins : List (Addr × Obj)} {s : Shared} {σ : St} {H : Hp} (hc : X.calm = true) (hcl : ∀ x c, cl.lookup x = some c → X.env.cells.lookup x = some c) (hcap : Capt X scope cl FR js)
    (hnm : (relabel scope X.env).names.all (fun y => !(y.2 == .cell || y.2 == .free) || FR.contains y.1) = true) (hcell : ∀ x ∈ scope.names, x.2 ≠ .cell) (hkind : scope.kind = .function)
    (hi : PI X tg iter wi) (hb : ∀ s3 H3 fp, PG (cxCompC X NB FR scope cl s3 H3 fp) tg g ∧ PTs (cxCompC X NB FR scope cl s3 H3 fp) ifs tt ∧ PE (cxCompC X NB FR scope cl s3 H3 fp) elt te)
    (I : Inv X pins σ H s) (h : tCompC NB.length js wi g tt te σ H Q)
    (hRR : ∀ D C H' s', Inv X pins σ H' s' → FpOk X pins H' C → (∃ m, s'.heap.Ns C m) → Q (.ref D) H' → RR (.ref D) C (.ok .next) s') :
    wpAny (model X.prog X.w) X.A (eval iter X.env) (fun v s1 => wpAny (model X.prog X.w) X.A (pyIter v) (fun it s2 => wpAny (model X.prog X.w) X.A (newList []) (fun acc s3 =>
      wpAny (model X.prog X.w) X.A (newFunctionEnv scope X.env.globals cl [] X.env.qual none .none (some X.env)) (fun cenv s4 =>
        codeAny (model X.prog X.w) X.A (.compStart (.ListComp elt [⟨tg, iter, ifs, 0⟩] scope pos) 0 it acc { cenv with scope := relabel scope X.env }) (RR acc cenv.locals) s4) X.xe s3) X.xe s2) X.xe s1) X.xe s := by
  refine thn (hi pins s σ H _ I h) fun v s1 h1 => thn h1 fun itv s2 h2 => ?_
  obtain ⟨it, fp, tn, J, H2, e, I2, T, st2, f2, q2⟩ := h2
  subst e
  have hf2 : H2 s2.heap.objs.size = none := I2.hok.fresh (Nat.le_refl _)
  obtain ⟨W, ⟨m0, w0⟩, turn⟩ := q2 _ hf2
  refine wpAny_newObj_type (hd := by size_fits) ?_
  have I3 : Inv X pins σ (upd H2 s2.heap.objs.size (.lst [])) { s2 with heap := s2.heap.push { cls := .type "list", dict := none, data := .seq ([] : List Value).toArray } } :=
    I2.laid (t' := s2.toks) (fun b u e => Heap.get?_push_of_some _ e) (Nat.le_refl _) ⟨by decide, [], 0, .nil, Heap.get?_push_size _ rfl⟩
  generalize hD : s2.heap.objs.size = D at *
  generalize hs3 : ({ s2 with heap := s2.heap.push { cls := .type "list", dict := none, data := .seq ([] : List Value).toArray } } : Shared) = s3 at *
  generalize hH3 : upd H2 D (.lst []) = H3 at *
  have h3D : H3 D = some (.lst []) := by rw [← hH3]; exact upd_same
  have fpD : ∀ b ∈ fp, b ≠ D := fun b hb => by
    obtain ⟨o, e, _⟩ := T.obj _ _ st2 b hb
    rw [← hD]; exact Nat.ne_of_lt (Heap.lt_size e)
  have k23 : ∀ b u, s2.heap.get? b = some u → s3.heap.get? b = some u := fun b u e => by rw [← hs3]; exact Heap.get?_push_of_some _ e
  have st3 : tn 0 s3.heap := T.keep _ _ _ st2 fun b _ o e => k23 b o e
  have f3 : ∀ b ∈ fp, FpOk X pins H3 b := fun b hb => ⟨by rw [← hH3, upd_ne (fpD b hb)]; exact (f2 b hb).1, (f2 b hb).2⟩
  refine wpAny_newFunctionEnv hcell (by intro y hy; simp at hy) (fun h4 hns4 hsb4 => ?_) hkind
  have k34 : ∀ b u, s3.heap.get? b = some u → h4.get? b = some u := fun b u e => hsb4.extBut b u (Nat.ne_of_lt (Heap.lt_size e)) (Heap.get?_push_of_some _ e)
  have okB : (cxCompC X NB FR scope cl s3 H3 fp).Ok := by
    refine ⟨I3.ok.mod, hkind, I3.ok.glob, I3.ok.blt, Nat.le_refl _, fun x y c e1 e2 => I3.ok.inj x y c (hcl _ _ e1) (hcl _ _ e2), fun x e => hcap.has (relabel_has hnm e), (fun x c e => nomatch e), I3.ok.hd, I3.ok.frames, .inl rfl, fun b hb => ⟨?_, fun x c e => ?_⟩, I3.bs, Nat.le_trans I3.ok.bsz I3.sz, fun b o e hb => ?_, fun b hb z => ?_, I3.stack, I3.stkFree⟩
    · obtain ⟨o, e, _⟩ := T.obj _ _ st3 b hb
      exact Nat.ne_of_lt (Heap.lt_size e)
    · exact (f3 b hb).2.2.2.2.1 x c (hcl _ _ e)
    · obtain ⟨_, _, _, z, _⟩ := f3 b hb
      rcases z with z | z
      · exact I3.ok.noex b o e z
      · exact absurd (Nat.lt_of_lt_of_le (Heap.lt_size e) (Nat.le_trans I3.ok.bsz z)) (Nat.lt_irrefl _)
    · obtain ⟨_, z1, z2, _⟩ := f3 b hb
      rcases List.mem_cons.mp (I3.stkSub b z) with e | e
      · exact z1 e
      · exact z2 e
  have IB : Inv (cxCompC X NB FR scope cl s3 H3 fp) [] (List.replicate NB.length none ++ caps σ js) H3 { s3 with heap := h4, toks := s3.toks + ([] : List (Str × Value)).length } := by
    refine ⟨okB, rfl, I3.bare, Un.kept k34, ⟨_, hns4, fun i x v e1 e2 e3 => ?_⟩, fun x c e => ?_, I3.hok.fresh (Nat.le_refl _), fun x c e => I3.freeC x c (hcl _ _ e), fun p hp => ?_, I3.hok.kept k34, ?_⟩
    · by_cases hi : i < NB.length
      · rw [List.getElem?_append_left (by simpa using hi), List.getElem?_replicate, if_pos hi] at e2
        cases e2
      · have e1' : FR[i - NB.length]? = some x := by
          have z : (NB ++ FR)[i]? = some x := e1
          rw [List.getElem?_append_right (by omega)] at z; exact z
        rw [List.getElem?_append_right (by simp; omega), List.length_replicate] at e2
        obtain ⟨j, hj, hN, hk, hb', c, hc'⟩ := hcap.get e1'
        have e2' : σ[j]? = some (some v) := by
          unfold caps at e2
          rw [List.getElem?_map, hj] at e2
          simp only [Option.map_some, Option.some.injEq] at e2
          cases hσ : σ[j]? with
          | none => rw [hσ] at e2; cases e2
          | some o => rw [hσ] at e2; simp only [Option.getD_some] at e2; rw [e2]
        obtain ⟨m, hn, hl⟩ := I3.loc
        obtain ⟨u, ru, lu⟩ := hl j x v hN e2' (.inr (.inl hk))
        refine ⟨u, ru, .inr ⟨.inl hb', c, hc', ?_⟩⟩
        rcases lu with ⟨z, _⟩ | ⟨_, c', z, q⟩
        · rw [hk] at z; cases z
        · rw [hcl _ _ hc'] at z; cases z
          obtain ⟨o, ho, hd⟩ := q
          exact ⟨o, k34 _ _ ho, hd⟩
    · obtain ⟨v, o, ho, hd⟩ := I3.cell x c (hcl _ _ e)
      exact ⟨v, o, k34 _ _ ho, hd⟩
    · exact absurd (show p ∈ ([] : List (Addr × Obj)) from hp) (by simp)
    · show _ = (NB ++ FR).length
      rw [List.length_append, List.length_append, List.length_replicate, hcap.length]
      unfold caps; rw [List.length_map]
  have st4 : tn 0 h4 := T.keep _ _ _ st3 fun b _ o e => k34 b o e
  have stat : ∀ {H' : Hp}, (∀ b ∈ fp, H' b = none) → ∀ b ∈ fp, FpOk (cxCompC X NB FR scope cl s3 H3 fp) [] H' b := fun hn b hb =>
    ⟨hn b hb, (okB.exf b hb).1, okB.exfs b hb, .inl hb, fun x c e => (f3 b hb).2.2.2.2.1 x c (hcl _ _ e), fun p hp => absurd (show p ∈ ([] : List (Addr × Obj)) from hp) (by simp)⟩
  obtain ⟨hg, ht, he⟩ := hb s3 H3 fp
  have fin : ∀ {σ' : St} {H' : Hp} {s' : Shared}, Inv (cxCompC X NB FR scope cl s3 H3 fp) [] σ' H' s' → Q (.ref D) H' → RR (.ref D) s3.heap.objs.size (.ok .next) s' := fun {σ' H' s'} J q => by
    have hm : ∃ m, s'.heap.Ns s3.heap.objs.size m := by
      obtain ⟨m, hm, _⟩ := J.loc
      exact ⟨m, hm⟩
    refine hRR D _ H' s' (I3.call' (ch := fp) J.os J.base J.hok J.bare fun b hb => ?_) (I3.fpOk (Nat.le_refl _) J.free) hm q
    obtain ⟨_, z1, z2, z3, z4, z5⟩ := f3 b hb
    exact ⟨z3, z1, z4, z5⟩
  have loop : ∀ s5 : Shared, s5 = { s3 with heap := h4, toks := s3.toks + ([] : List (Str × Value)).length } →
      codeAny (model X.prog X.w) X.A (.compLoop (.ListComp elt [⟨tg, iter, ifs, 0⟩] scope pos) 0 (.ref it) (.ref D) (compEnvC scope cl s3.heap.objs.size X.env)) (RR (.ref D) s3.heap.objs.size) s5 := by
    rintro s5 rfl
    refine compLoop_any (fun n s' => ∃ i zs H' ys, zs.length = NB.length ∧ Inv (cxCompC X NB FR scope cl s3 H3 fp) [] (zs ++ caps σ js) H' s' ∧ tn i s'.heap ∧ (∀ b ∈ fp, H' b = none) ∧ H' D = some (.lst ys) ∧ W i n H' ys) ?_ m0
      ⟨0, _, H3, [], List.length_replicate, IB, st4, fun b hb => (f3 b hb).1, h3D, by rw [← hH3] at *; exact w0⟩
    rintro n s6 ⟨i, zs, H6, ys, hzs, I6, st6, fr6, hD6, w6⟩
    rcases turn i n H6 ys w6 hD6 with ⟨stop, qn⟩ | ⟨go, step⟩
    · refine thn (T.done (cxCompC X NB FR scope cl s3 H3 fp) rfl rfl rfl hc i [] s6 _ H6 _ I6 (stat fr6) st6 stop) fun r s7 ⟨hr, I7⟩ => ?_
      subst hr
      exact fin I7 qn
    · refine thn (T.item (cxCompC X NB FR scope cl s3 H3 fp) rfl rfl rfl hc i [] s6 _ H6 _ I6 (stat fr6) st6 go) fun r s7 ⟨u, hr, h7⟩ => ?_
      subst hr
      refine thn h7 fun _ s8 ⟨x, H8, I8, r8, y8, st8, fr8⟩ => ?_
      have I8' := I8.pinned (stat fr8) (T.obj _ _ st8)
      have again : ∀ {σ9 : St} {H9 : Hp} {s9 : Shared} {ws : List V} {m' : Nat}, σ9.drop NB.length = caps σ js → Inv (cxCompC X NB FR scope cl s3 H3 fp) ([] ++ pinsAt fp s8.heap) σ9 H9 s9 → H9 D = some (.lst ws) → m' < n → W (i + 1) m' H9 ws →
          ∃ m, m < n ∧ ∃ i zs H' ys, zs.length = NB.length ∧ Inv (cxCompC X NB FR scope cl s3 H3 fp) [] (zs ++ caps σ js) H' s9 ∧ tn i s9.heap ∧ (∀ b ∈ fp, H' b = none) ∧ H' D = some (.lst ys) ∧ W i m H' ys := fun {σ9 H9 s9 ws m'} hdr I9 hz hm w9 => by
        have hl : σ9.length = (NB ++ FR).length := I9.len
        rw [List.length_append] at hl
        refine ⟨m', hm, i + 1, σ9.take NB.length, H9, ws, by rw [List.length_take]; omega, ?_, T.keep _ _ _ st8 fun b hb o e => (I9.pin (b, o) (List.mem_append_right _ (List.mem_append_right _ (mem_pinsAt hb e)))).1, fun b hb => ?_, hz, w9⟩
        · rw [← hdr, List.take_append_drop]; exact I9.unpinned
        · obtain ⟨o, e, d⟩ := T.obj _ _ st8 b hb
          exact (I9.pin (b, o) (List.mem_append_right _ (List.mem_append_right _ (mem_pinsAt hb e)))).2.1
      refine thn (hg _ s8 _ H8 x u _ I8' r8 (step zs x H8 hzs y8)) fun _ s9 ⟨σ9, H9, I9, hdr, q9⟩ => ?_
      refine thn (ht _ s9 σ9 H9 _ I9 q9) fun ok s10 ⟨H10, I10, q10⟩ => ?_
      cases ok with
      | false =>
        rw [if_neg (by decide)] at q10 ⊢
        obtain ⟨hz, m', hm, w'⟩ := q10
        exact again hdr I10 hz hm w'
      | true =>
        rw [if_pos rfl] at q10 ⊢
        refine thn (he _ s10 σ9 H10 _ I10 q10) fun y s11 ⟨v, H11, I11, r11, hz, hlen, m', hm, w'⟩ => ?_
        refine thn (mt_append _ s11 σ9 H11 (.ref D) [v] (.ref D) [y] (fun _ H12 => H12 = upd H11 D (.lst (ys ++ [v]))) I11 rfl (.cons r11 .nil) ⟨D, ys, v, rfl, rfl, hz, hlen, rfl⟩) fun _ s12 ⟨_, H12, I12, _, e12⟩ => ?_
        subst e12
        exact again hdr I12 upd_same hm w'
  exact codeAny_compStart_list (loop _ rfl) (T.self X.A 0 _ _ _ st4 (loop _ rfl))

section
variable {X : Cx} {elt tg iter : Expr} {ifs : List Expr} {scope : Scope} {cl : List (Str × Addr)} {pos spos py : Pos} {NB FR : List Str} {js : List Nat} {wi : TI} {g : TG} {tt : TT} {te : TE}
theorem pe_compC (hc : X.calm = true) (hclos : closureFor scope X.env = pure cl) (hcl : ∀ x c, cl.lookup x = some c → X.env.cells.lookup x = some c) (hcap : Capt X scope cl FR js)
    (hnm : (relabel scope X.env).names.all (fun y => !(y.2 == .cell || y.2 == .free) || FR.contains y.1) = true) (hcell : ∀ x ∈ scope.names, x.2 ≠ .cell) (hkind : scope.kind = .function) (hnames : ∀ x ∈ scope.names, x.2 = .local → scope.names.lookup x.1 = some .local)
    (hi : PI X tg iter wi) (hb : ∀ s3 H3 fp, PG (cxCompC X NB FR scope cl s3 H3 fp) tg g ∧ PTs (cxCompC X NB FR scope cl s3 H3 fp) ifs tt ∧ PE (cxCompC X NB FR scope cl s3 H3 fp) elt te)
    (hs : ∀ x, foldedSetIterable iter X.env x = pure x := by intro _; rfl) :
    PE X (.ListComp elt [⟨tg, iter, ifs, 0⟩] scope pos) (tCompC NB.length js wi g tt te) := by
  intro pins s σ H Q I h
  rw [eval_ListComp]
  refine wpAny_comprehension_free (use := none) rfl hs hclos hkind hnames (comp_core (RR := fun acc C => compPost (model X.prog X.w) X.A X.xe none (EP X pins σ Q) acc C) hc hcl hcap hnm hcell hkind hi hb I h ?_)
  intro D C H' s' I' ⟨f0, f1, f2, f3, f4, f5⟩ ⟨m, hm⟩ q
  exact ⟨m, hm, fun h' sb => ⟨.ref D, H', I'.turned (t' := s'.toks) (fun b o hb e => (sb.2 b hb).trans e) f0 f1 f3 f4 f5, rfl, q⟩⟩
end
end L2
set_option Elab.async false
set_option linter.all false
set_option maxRecDepth 100000
namespace L2
open PySem PySem.Spec PyProof.Rows

section
variable {prog : Program} {w : World} {A : Around} {E : Value → Shared → Prop} {s : Shared}
structure ZT (z TI TO j1 j2 t1 t2 : Addr) (f0 : Value) (i1 i2 : Nat) (h : Heap) : Prop where
  z : IsZip h z TI TO f0
  ti : IsPair h TI (.ref j1) (.ref j2)
  to : ∃ a b, IsPair h TO a b
  i1 : h.IsTupleIter j1 t1 i1
  i2 : h.IsTupleIter j2 t2 i2
structure ZNe (z TI TO j1 j2 : Addr) : Prop where
  a : TI ≠ z
  b : TO ≠ z
  c : j1 ≠ z
  d : j2 ≠ z
  e : TI ≠ TO
  f : TI ≠ j1
  g : TI ≠ j2
  k : TO ≠ j1
  l : TO ≠ j2
  m : j1 ≠ j2
section
variable {z TI TO j1 j2 t1 t2 : Addr} {i : Nat} {xs ys : Array Value}
end
end

end L2
set_option Elab.async false
set_option linter.all false
set_option maxRecDepth 100000
namespace L2
open PySem PySem.Spec PyProof.Rows
section
variable {X : Cx}
theorem bls_get : ∀ {bs : List Bool} {us : List Value} {i : Nat} {v : Value}, Vals (bs.map V.bl) us → us[i]? = some v → ∃ b, bs[i]? = some b ∧ v = .bool b
  | [], _, _, _, r, e => by cases r; simp at e
  | b :: bs, _, i, v, r, e => by
    cases r with
    | cons h t =>
      cases i with
      | zero => simp at e; subst e; exact ⟨b, rfl, h⟩
      | succ i => obtain ⟨c, e1, e2⟩ := bls_get (i := i) t (by simpa using e); exact ⟨c, by simpa using e1, e2⟩
theorem all_range : ∀ (bs : List Bool) (k : Nat), ((List.range' k bs.length).all fun i => (bs[i - k]?).getD true) = bs.all id
  | [], k => rfl
  | b :: bs, k => by
    rw [List.length_cons, List.range'_succ, List.all_cons, List.all_cons]
    simp only [Nat.sub_self, List.getElem?_cons_zero, Option.getD_some, id]
    congr 1
    rw [← all_range bs (k + 1)]
    apply Bool.eq_iff_iff.mpr
    simp only [List.all_eq_true, List.mem_range'_1]
    constructor
    · intro h i hi
      have := h i hi
      rw [show i - k = (i - (k + 1)) + 1 by omega, List.getElem?_cons_succ] at this; exact this
    · intro h i hi
      rw [show i - k = (i - (k + 1)) + 1 by omega, List.getElem?_cons_succ]; exact h i hi
theorem call_all (hc : X.calm = true) : CallR X (.builtin "all") (fun xs H Q => ∃ (p : Addr) (bs : List Bool), xs = [.ref p] ∧ SqL X.K H p (bs.map V.bl) ∧ Q (.bl (bs.all id)) H) := by
  intro pins s σ H xs us Q I r h
  obtain ⟨p, bs, rfl, hq, q⟩ := h
  obtain ⟨u, rfl, ru⟩ := vals1 r
  cases ru
  obtain ⟨its, rv, pl, _⟩ := I.list hq
  have hlt : p < s.heap.objs.size := by obtain ⟨o, n, e, _⟩ := pl; exact Heap.lt_size e
  have hl := rv.length
  rw [List.length_map] at hl
  refine call_all_walk (wpAny_pyIter_list pl.isList ⟨s.heap.objs.size, _, _, _, _, _, fun i => (bs[i]?).getD true, rfl, Walks.list (A := X.A.in1) (show X.A.in1.handled = none from I.ok.hd hc) s.heap.objs.size p (Nat.ne_of_lt hlt) its.toArray,
    ⟨⟨_, Heap.get?_push_size _ rfl, rfl, rfl⟩, pl.isList.push _⟩, fun i v s' Q' E' hv hQ' => ?_, fun h' tk k => ⟨.bl (bs.all id), H, I.kept fun b o e => k b o (by simpa using Nat.ne_of_lt (Heap.lt_size e)) (Heap.get?_push_of_some _ e), ?_, q⟩⟩)
  · obtain ⟨b, e1, rfl⟩ := bls_get rv (by simpa using hv)
    simp only [e1, Option.getD_some] at hQ'
    exact wpAny_pure hQ'
  · have := all_range bs 0
    simp only [Nat.sub_zero] at this
    rw [show its.toArray.size = bs.length by simp [hl], List.range_eq_range', this]; rfl

def KPair (K : PySem.W.Frag) (a : Addr) (i j : Int) : Prop := ∃ o t u n, K.lookup a = some o ∧ o.cls = .type "tuple" ∧ o.data = .seq #[.int i t, .int j u] n
end
end L2
set_option Elab.async false
set_option linter.all false
set_option maxRecDepth 100000
namespace HT
open PySem PyProof.Rows
section
variable {prog : Program} {w : World} {A : Around} {E : Value → Shared → Prop} {s : Shared}
theorem whole_cut {t sl : Addr} {items : Array Value} {vl vu : Value} {lo hi : Option Int} {Q : Value → Shared → Prop} (ht : IsTup s.heap t items) (hs : s.heap.IsSliceOf sl vl vu .none) (pl : IsPart vl lo) (pu : IsPart vu hi)
    (hw : sIx items.size 0 lo = 0 ∧ sIx items.size items.size hi = items.size) (h : Q (.ref t) s) : wpAny (model prog w) A (getItem (.ref t) (.ref sl)) Q E s := by
  obtain ⟨os, hos, hcs, hds⟩ := id hs
  have hTs : s.TypeIs (.ref sl) "slice" := ⟨os, hos, hcs⟩
  unfold getItem
  try with_reducible refine wpAny_holding ?_
  first | refine wpAny_bind (wpAny_pure ?_) | skip
  refine wpAny_bind (wpAny_sequenceKey ht.typeIs (by decide) ?_)
  refine wpAny_bind (wpAny_callSpecial?_slot (name := Str.ofString "__getitem__") ht.typeIs PyProof.Rows.slot_tuple_getitem
    (wpAny_call_entry PyProof.Rows.slot_tuple_getitem ht.typeIs entry_tuple_getitem ?_ (args_tuple_getitem _ _)))
  show wpAny _ _ (Builtin.Tuple.tupleItemsOf (.ref t) >>= _) _ _ s
  refine wpAny_bind (tupleItemsOf_ ht ?_)
  refine wpAny_bind (wpAny_typeOf hTs ?_)
  rw [if_pos (by decide)]
  refine wpAny_bind (sliceApplied_gen hs pl pu ?_)
  show wpAny _ _ (if (((sIx items.size 0 lo : Nat) : Int) == 0 && (1 : Int) == 1 && (sIx items.size items.size hi - sIx items.size 0 lo) == items.size) = true then _ else _) _ _ s
  rw [if_pos (by rw [hw.1, hw.2]; simp)]
  refine wpAny_bind ?_
  unfold Builtin.Tuple.tupleIsExact
  refine wpAny_bind (wpAny_typeOf ht.typeIs (wpAny_pure ?_))
  rw [if_pos (by decide)]
  first
    | exact wpAny_bind (wpAny_rule (wpAny_pure ⟨_, rfl, wpAny_pure h⟩))
    | exact wpAny_bind (wpAny_rule (wpAny_bind (wpAny_pure (wpAny_pure ⟨_, rfl, wpAny_pure h⟩))))
    | exact wpAny_bind (wpAny_rule (wpAny_bind (wpAny_pure ⟨_, rfl, wpAny_pure h⟩)))
end
end HT
namespace L2
open PySem PySem.Spec PyProof.Rows
section
variable {X : Cx}
def rSlW (K : PySem.W.Frag) : V → Option Int → Option Int → Hp → VK → Prop := fun x lo hi H Q => ∃ a xs, x = .ref a ∧ SqT K H a xs ∧ (HT.sIx xs.length 0 lo = 0 ∧ HT.sIx xs.length xs.length hi = xs.length) ∧ Q x H
theorem sl_whole : SlR X (rSlW X.K) := by
  intro pins s σ H x v vl vu lo hi sl Q I rx hs pl pu h
  obtain ⟨a, xs, rfl, hx, hw, q⟩ := h
  cases rx
  obtain ⟨its, r, ht, hz⟩ := I.tuple hx
  have hlen : its.toArray.size = xs.length := by rw [List.size_toArray]; exact r.length.symm
  exact ⟨"tuple", _, PyProof.Rows.slot_tuple_getitem.lookup, ht.typeIs, HT.whole_cut ht hs pl pu (by rw [hlen]; exact hw) ⟨.ref a, H, I, rfl, q⟩⟩
end
end L2
set_option Elab.async false
set_option linter.all false
set_option maxRecDepth 100000
namespace L2
open PySem PySem.Spec PyProof.Rows
section
variable {J : It} {D : Addr} {N n : Nat} {js : List Nat} {σ : St} {g : TG} {tt : TT} {te : TE} {Q : VK} {H : Hp}
theorem comp_by (Pv : Nat → Hp → List V → Prop) (h0 : Pv 0 (upd H D (.lst [])) []) (hgo : ∀ i H ys, i < N → Pv i H ys → J.go i H) (hst : ∀ H ys, Pv N H ys → J.stop N H)
    (hs : ∀ i x zs H2 H3 ys (Nx : Hp → List V → Prop), (∀ H ys, Pv (i + 1) H ys → Nx H ys) → i < N → zs.length = n → J.yld i H2 x H3 → Pv i H2 ys → H2 D = some (.lst ys) → g x zs H3 fun σ4 H4 => tt σ4 H4 fun b H5 =>
      if b = true then te σ4 H5 (fun v H6 => H6 D = some (.lst ys) ∧ ys.length < sizeLine ∧ Nx (upd H6 D (.lst (ys ++ [v]))) (ys ++ [v])) else H5 D = some (.lst ys) ∧ Nx H5 ys)
    (hd : ∀ H ys, Pv N H ys → H D = some (.lst ys) → Q (.ref D) H) :
    ∃ W : Nat → Nat → Hp → List V → Prop, (∃ m, W 0 m (upd H D (.lst [])) []) ∧ ∀ i m H2 ys, W i m H2 ys → H2 D = some (.lst ys) → (J.stop i H2 ∧ Q (.ref D) H2) ∨
      (J.go i H2 ∧ ∀ σB x H3, σB.length = n → J.yld i H2 x H3 → g x σB H3 fun σ4 H4 => tt σ4 H4 fun b H5 => if b = true then te σ4 H5 (fun v H6 => H6 D = some (.lst ys) ∧ ys.length < sizeLine ∧ ∃ m', m' < m ∧ W (i + 1) m' (upd H6 D (.lst (ys ++ [v]))) (ys ++ [v]))
        else H5 D = some (.lst ys) ∧ ∃ m', m' < m ∧ W (i + 1) m' H5 ys) := by
  refine ⟨fun i m H ys => m = N - i ∧ i ≤ N ∧ Pv i H ys, ⟨N, by simp, Nat.zero_le _, h0⟩, ?_⟩
  rintro i m H2 ys ⟨rfl, hi, p⟩ hD
  by_cases hlt : i < N
  · exact .inr ⟨hgo i H2 ys hlt p, fun σB x H3 hB y => hs i x σB H2 H3 ys (fun H' ys' => ∃ m', m' < N - i ∧ (m' = N - (i + 1) ∧ i + 1 ≤ N ∧ Pv (i + 1) H' ys')) (fun H' ys' z => ⟨N - (i + 1), by omega, rfl, hlt, z⟩) hlt hB y p hD⟩
  · obtain rfl : i = N := by omega
    exact .inl ⟨hst H2 ys p, hd H2 ys p hD⟩
theorem compC_by (Pv : Nat → Hp → List V → Prop) (h0 : Pv 0 (upd H D (.lst [])) []) (hgo : ∀ i H ys, i < N → Pv i H ys → J.go i H) (hst : ∀ H ys, Pv N H ys → J.stop N H)
    (hs : ∀ i x zs H2 H3 ys (Nx : Hp → List V → Prop), (∀ H ys, Pv (i + 1) H ys → Nx H ys) → i < N → zs.length = n → J.yld i H2 x H3 → Pv i H2 ys → H2 D = some (.lst ys) → g x (zs ++ caps σ js) H3 fun σ4 H4 => σ4.drop n = caps σ js ∧ tt σ4 H4 fun b H5 =>
      if b = true then te σ4 H5 (fun v H6 => H6 D = some (.lst ys) ∧ ys.length < sizeLine ∧ Nx (upd H6 D (.lst (ys ++ [v]))) (ys ++ [v])) else H5 D = some (.lst ys) ∧ Nx H5 ys)
    (hd : ∀ H ys, Pv N H ys → H D = some (.lst ys) → Q (.ref D) H) :
    ∃ W : Nat → Nat → Hp → List V → Prop, (∃ m, W 0 m (upd H D (.lst [])) []) ∧ ∀ i m H2 ys, W i m H2 ys → H2 D = some (.lst ys) → (J.stop i H2 ∧ Q (.ref D) H2) ∨
      (J.go i H2 ∧ ∀ zs x H3, zs.length = n → J.yld i H2 x H3 → g x (zs ++ caps σ js) H3 fun σ4 H4 => σ4.drop n = caps σ js ∧ tt σ4 H4 fun b H5 => if b = true then te σ4 H5 (fun v H6 => H6 D = some (.lst ys) ∧ ys.length < sizeLine ∧ ∃ m', m' < m ∧ W (i + 1) m' (upd H6 D (.lst (ys ++ [v]))) (ys ++ [v]))
        else H5 D = some (.lst ys) ∧ ∃ m', m' < m ∧ W (i + 1) m' H5 ys) := by
  refine ⟨fun i m H ys => m = N - i ∧ i ≤ N ∧ Pv i H ys, ⟨N, by simp, Nat.zero_le _, h0⟩, ?_⟩
  rintro i m H2 ys ⟨rfl, hi, p⟩ hD
  by_cases hlt : i < N
  · exact .inr ⟨hgo i H2 ys hlt p, fun σB x H3 hB y => hs i x σB H2 H3 ys (fun H' ys' => ∃ m', m' < N - i ∧ (m' = N - (i + 1) ∧ i + 1 ≤ N ∧ Pv (i + 1) H' ys')) (fun H' ys' z => ⟨N - (i + 1), by omega, rfl, hlt, z⟩) hlt hB y p hD⟩
  · obtain rfl : i = N := by omega
    exact .inl ⟨hst H2 ys p, hd H2 ys p hD⟩
end
end L2
set_option Elab.async false
set_option linter.all false
set_option maxRecDepth 100000
namespace L2
open PySem PySem.Spec PyProof.Rows
section
variable {prog : Program} {w : World} {A : Around} {E : Value → Shared → Prop} {s : Shared}
theorem cat_tup0 {t b : Addr} {ws : List Value} {Q : Value → Shared → Prop} (ht : IsTup s.heap t ([] : List Value).toArray) (hb : IsTup s.heap b ws.toArray) (h0 : Q (.ref b) s) : wpAny (model prog w) A (binaryOp .Add (.ref t) (.ref b)) Q E s := by
  obtain ⟨⟨cls, dd, data, sl⟩, ho, hc, n, hd⟩ := id ht
  obtain ⟨⟨cls2, dd2, data2, sl2⟩, ho2, hc2, n2, hd2⟩ := id hb
  simp only at hc hd hc2 hd2
  subst hc hd hc2 hd2
  exact concat_meets ⟨_, ho, rfl⟩ ⟨_, ho2, rfl⟩ noFill_tuple_add seq_tuple_add PySem.F.slot_tuple_add PySem.F.entry_tuple_add (PySem.F.args_tuple_add_2 _ _)
      (tuple_addW0 t b ([] : List Value).toArray ws.toArray n n2 dd dd2 sl sl2 (by simp)) ⟨ho, ho2, h0⟩
end
def rCatA (K : PySem.W.Frag) : R2 := fun x y H Q => ∃ a b xs ys, x = .ref a ∧ y = .ref b ∧ SqT K H a xs ∧ SqT K H b ys ∧ xs.length + ys.length ≤ sizeLine ∧ (xs = [] → Q (.ref b) H) ∧
  (xs ≠ [] → ys = [] → Q (.ref a) H) ∧ (xs ≠ [] → ys ≠ [] → ∀ p, H p = none → Q (.ref p) (upd H p (.tup (xs ++ ys))))
theorem op_catA {X : Cx} : OpR X (binaryOp .Add) (rCatA X.K) := by
  intro pins s σ H x y v u Q I rx ry h
  have h' := h
  obtain ⟨a, b, xs, ys, rfl, rfl, ha, hb, hz, q0, q1, q2⟩ := h'
  by_cases hx : xs = []
  · cases rx
    cases ry
    obtain ⟨its, r1, p1, _⟩ := I.tuple ha
    obtain ⟨its2, r2, p2, _⟩ := I.tuple hb
    subst hx
    cases r1
    exact cat_tup0 p1 p2 ⟨.ref b, H, I, rfl, q0 rfl⟩
  · exact op_catT pins s σ H _ _ v u Q I rx ry ⟨a, b, xs, ys, rfl, rfl, ha, hb, hx, hz, q1 hx, q2 hx⟩
theorem noFill_tuple_mul : fillsNumberSlot (.type "tuple") "mul" = pure false :=
  PySem.fillsNumberSlot_seq (id := "tuple.__mul__") (r := some (.builtin "tuple.__rmul__")) F.slot_tuple_mul.lookup (by decide +kernel) F.slot_tuple_rmul.lookup (by decide +kernel)
theorem repeat_tuple : seqRepeat? (.type "tuple") = pure (some (.builtin "tuple.__mul__")) := by
  unfold seqRepeat?
  rw [PySem.seqSlot_of (T := "tuple") (name := "__mul__") (id := "tuple.__mul__") F.slot_tuple_mul.lookup (by decide +kernel), PySem.seqSlot_of (T := "tuple") (name := "__rmul__") (id := "tuple.__rmul__") F.slot_tuple_rmul.lookup (by decide +kernel)]
  rfl
theorem int_rmul_tuple (a : Int) (t : Tok) (l : Addr) (items : Array Value) (n : Nat) (dd : Option Addr) (sl : Array (Option Value)) :
    Meets (Builtin.«int.__rmul__» ⟨[.int a t, .ref l], []⟩) (fun _ R s => s.heap.get? l = some { cls := .type "tuple", dict := dd, data := .seq items n, slots := sl } ∧ R (.ok (.ret Value.notImplemented)) s) :=
  .of_wp fun prog w A R s h => by obtain ⟨hp, g, d, tk, os⟩ := s; obtain ⟨hl, h⟩ := h; wp_walk using wpAny_loadPart' hl; exact ⟨_, rfl, h⟩
end L2
set_option Elab.async false
set_option linter.all false
set_option maxRecDepth 100000
namespace L2
open PySem PySem.Spec PyProof.Rows
mutual
theorem RdD.same {H H' : Hp} (e : Same H H') : ∀ {v : V} {d : PyData}, RdD H v d → RdD H' v d
  | _, _, .non => .non
  | _, _, .bl b => .bl b
  | _, _, .int i => .int i
  | _, _, .str x => .str x
  | _, _, .tup h r => .tup (e _ _ h) (RdDs.same e r)
  | _, _, .lst h r => .lst (e _ _ h) (RdDs.same e r)
theorem RdDs.same {H H' : Hp} (e : Same H H') : ∀ {vs : List V} {ds : List PyData}, RdDs H vs ds → RdDs H' vs ds
  | _, _, .nil => .nil
  | _, _, .cons h t => .cons (RdD.same e h) (RdDs.same e t)
end
theorem RdDs.len {H : Hp} : ∀ {xs : List V} {ds : List PyData}, RdDs H xs ds → xs.length = ds.length
  | _, _, .nil => rfl
  | _, _, .cons _ t => by rw [List.length_cons, List.length_cons, RdDs.len t]
theorem RdDs.app {H : Hp} {ys : List V} {es : List PyData} (k : RdDs H ys es) : ∀ {xs : List V} {ds : List PyData}, RdDs H xs ds → RdDs H (xs ++ ys) (ds ++ es)
  | _, _, .nil => k
  | _, _, .cons h t => .cons h (RdDs.app k t)
theorem RdDs.drop {H : Hp} : ∀ {xs : List V} {ds : List PyData} (n : Nat), RdDs H xs ds → RdDs H (xs.drop n) (ds.drop n)
  | _, _, 0, h => h
  | _, _, _ + 1, .nil => .nil
  | _, _, n + 1, .cons _ t => RdDs.drop n t
theorem RdDs.take {H : Hp} : ∀ {xs : List V} {ds : List PyData} (n : Nat), RdDs H xs ds → RdDs H (xs.take n) (ds.take n)
  | _, _, 0, _ => .nil
  | _, _, _ + 1, .nil => .nil
  | _, _, n + 1, .cons h t => .cons h (RdDs.take n t)
theorem RdDs.get {H : Hp} : ∀ {xs : List V} {ds : List PyData} {i : Nat} {d : PyData}, RdDs H xs ds → ds[i]? = some d → ∃ x, xs[i]? = some x ∧ RdD H x d
  | _, _, _, _, .nil, e => by simp at e
  | _, _, 0, _, .cons h _, e => by simp at e; subst e; exact ⟨_, rfl, h⟩
  | _, _, i + 1, _, .cons _ t, e => by
    obtain ⟨x, h1, h2⟩ := RdDs.get t (i := i) (by simpa using e)
    exact ⟨x, by simpa using h1, h2⟩
theorem RdDs.at {H : Hp} {xs : List V} {ds : List PyData} {i : Int} {d : PyData} (h : RdDs H xs ds) (e : atI ds i = some d) : ∃ x, atI xs i = some x ∧ RdD H x d := by
  unfold atI at e ⊢
  rw [h.len]
  cases hj : ixN ds.length i with
  | none => rw [hj] at e; cases e
  | some j =>
    rw [hj] at e
    exact h.get e
def del (N : List Addr) (H : Hp) : Hp := fun a => if a ∈ N then none else H a
theorem del_some {N : List Addr} {H : Hp} {a : Addr} {o : HO} (h : del N H a = some o) : H a = some o ∧ a ∉ N := by
  unfold del at h
  split at h
  · cases h
  · exact ⟨h, ‹_›⟩
theorem del_of {N : List Addr} {H : Hp} {a : Addr} {o : HO} (h : H a = some o) (n : a ∉ N) : del N H a = some o := by unfold del; rw [if_neg n]; exact h
theorem del_nil (H : Hp) : del [] H = H := by funext a; unfold del; rw [if_neg (by simp)]
def Ls (N : List Addr) (H : Hp) : Prop := ∀ a ∈ N, ∃ xs, H a = some (.lst xs)
theorem Ls.nil {H : Hp} : Ls [] H := fun _ m => by cases m
theorem Ls.same {N : List Addr} {H H' : Hp} (h : Ls N H) (e : Same H H') : Ls N H' := fun a m => let ⟨xs, z⟩ := h a m; ⟨xs, e _ _ z⟩
theorem Ls.ntup {N : List Addr} {H : Hp} {a : Addr} {xs : List V} (h : Ls N H) (e : H a = some (.tup xs)) : a ∉ N := fun m => by
  obtain ⟨ys, z⟩ := h a m; rw [e] at z; cases z
theorem Ls.nnew {N : List Addr} {H : Hp} {a : Addr} (h : Ls N H) (e : H a = none) : a ∉ N := fun m => by
  obtain ⟨ys, z⟩ := h a m; rw [e] at z; cases z
theorem same_del {N : List Addr} {H H' : Hp} (e : Same H H') : Same (del N H) (del N H') := fun b o z => del_of (e _ _ (del_some z).1) (del_some z).2
theorem del_sub {N : List Addr} {H : Hp} : Same (del N H) H := fun b o z => (del_some z).1
theorem sameD {N : List Addr} {H : Hp} {p : Addr} {o : HO} (h : H p = none) : Same (del N H) (del N (upd H p o)) := same_del (Same.upd h)
structure At (N : List Addr) (H0 H1 : Hp) : Prop where
  s : Same H0 (del N H1)
  l : Ls N H1
theorem At.go {N : List Addr} {H0 H1 H2 : Hp} (h : At N H0 H1) (e : Same H1 H2) : At N H0 H2 := ⟨h.s.trans (same_del e), h.l.same e⟩
def Dt (N : List Addr) (t : TE) (σ : St) (H : Hp) (d : PyData) : Prop := ∀ H1, At N H H1 → ∀ Q : VK, (∀ v H2, Same H1 H2 → RdD (del N H2) v d → Q v H2) → t σ H1 Q
def Da (N : List Addr) (t : TA) (σ : St) (H : Hp) (ds : List PyData) : Prop := ∀ H1, At N H H1 → ∀ Q : List V → Hp → Prop, (∀ vs H2, Same H1 H2 → RdDs (del N H2) vs ds → Q vs H2) → t σ H1 Q
def Dp (N : List Addr) (t : TO) (σ : St) (H : Hp) (o : Option Int) : Prop := ∀ H1, At N H H1 → ∀ Q : Option Int → Hp → Prop, (∀ H2, Same H1 H2 → Q o H2) → t σ H1 Q
section
variable {N : List Addr} {σ : St} {H : Hp} {K : PySem.W.Frag}
theorem dt_var {i : Nat} {v : V} {d : PyData} (h : σ[i]? = some (some v)) (r : RdD H v d) : Dt N (tVar i) σ H d := fun H1 a Q k => ⟨v, h, k v H1 (Same.refl _) (r.same a.s)⟩
theorem dt_int {i : Int} : Dt N (tC (.int i)) σ H (.int i) := fun H1 a Q k => k _ H1 (Same.refl _) (.int i)
theorem da_nil : Da N tNil σ H [] := fun H1 a Q k => k _ H1 (Same.refl _) .nil
theorem da_cons {ta : TE} {tr : TA} {d : PyData} {ds : List PyData} (h : Dt N ta σ H d) (r : Da N tr σ H ds) : Da N (tCons ta tr) σ H (d :: ds) := fun H1 a Q k =>
  h H1 a _ fun v H2 e2 rv => r H2 (a.go e2) _ fun vs H3 e3 rs => k _ _ (e2.trans e3) (.cons (rv.same (same_del e3)) rs)
theorem dt_tup {t : TA} {ds : List PyData} (h : Da N t σ H ds) (l : ds.length ≤ sizeLine) : Dt N (tTup t) σ H (.tuple ds) := fun H1 a Q k =>
  h H1 a _ fun vs H2 e2 r => ⟨by rw [r.len]; exact l, fun p hp => k _ _ (e2.trans (Same.upd hp)) (.tup (del_of upd_same ((a.l.same e2).nnew hp)) (r.same (sameD hp)))⟩
theorem dt_ix {ta tb : TE} {ds : List PyData} {i : Int} {d : PyData} (ha : Dt N ta σ H (.tuple ds)) (hb : Dt N tb σ H (.int i)) (hi : atI ds i = some d) : Dt N (tOp (rIxT K) ta tb) σ H d := fun H1 a Q k =>
  ha H1 a _ fun v H2 e2 r2 => hb H2 (a.go e2) _ fun y H3 e3 r3 => by
    cases r3
    cases r2 with
    | tup z zs =>
      obtain ⟨x, hx, rx⟩ := zs.at hi
      exact ⟨_, _, i, x, rfl, rfl, .of (e3 _ _ (del_some z).1), hx, k x H3 (e2.trans e3) (rx.same (same_del e3))⟩
theorem dt_i0 {g : Int → Int → Int} {ta tb : TE} {i j : Int} (ha : Dt N ta σ H (.int i)) (hb : Dt N tb σ H (.int j)) : Dt N (tOp (rI0 fun i j => .int (g i j)) ta tb) σ H (.int (g i j)) := fun H1 a Q k =>
  ha H1 a _ fun v H2 e2 r2 => hb H2 (a.go e2) _ fun y H3 e3 r3 => by
    cases r3; cases r2
    exact ⟨i, j, rfl, rfl, k _ H3 (e2.trans e3) (.int _)⟩
theorem dt_iC {C : Int → Int → Prop} {g : Int → Int → Int} {ta tb : TE} {i j : Int} (ha : Dt N ta σ H (.int i)) (hb : Dt N tb σ H (.int j)) (hC : C i j) : Dt N (tOp (rI C fun i j => .int (g i j)) ta tb) σ H (.int (g i j)) := fun H1 a Q k =>
  ha H1 a _ fun v H2 e2 r2 => hb H2 (a.go e2) _ fun y H3 e3 r3 => by
    cases r3; cases r2
    exact ⟨i, j, rfl, rfl, hC, k _ H3 (e2.trans e3) (.int _)⟩
theorem dt_neg {ta : TE} {i : Int} (ha : Dt N ta σ H (.int i)) : Dt N (tUn (rU fun i => .int (-i)) ta) σ H (.int (-i)) := fun H1 a Q k =>
  ha H1 a _ fun v H2 e2 r2 => by
    cases r2
    exact ⟨i, rfl, k _ H2 e2 (.int _)⟩
theorem dt_catT {ta tb : TE} {ds es : List PyData} (ha : Dt N ta σ H (.tuple ds)) (hb : Dt N tb σ H (.tuple es)) (l : ds.length + es.length ≤ sizeLine) : Dt N (tOp (rCatA K) ta tb) σ H (.tuple (ds ++ es)) := fun H1 a Q k =>
  ha H1 a _ fun v H2 e2 r2 => hb H2 (a.go e2) _ fun y H3 e3 r3 => by
    have r2' := r2.same (same_del e3)
    have L := (a.l.same (e2.trans e3))
    cases r2' with
    | @tup b xs _ z zs =>
      cases r3 with
      | @tup c ys _ y ys' =>
        refine ⟨b, c, xs, ys, rfl, rfl, .of (del_some z).1, .of (del_some y).1, (by rw [zs.len, ys'.len]; exact l), fun h => ?_, fun _ h => ?_, fun _ _ p hp => ?_⟩
        · subst h; cases zs; exact k _ H3 (e2.trans e3) (.tup y ys')
        · subst h; cases ys'; rw [List.append_nil] at k; exact k _ H3 (e2.trans e3) (.tup z zs)
        · exact k _ _ ((e2.trans e3).trans (Same.upd hp)) (.tup (del_of upd_same (L.nnew hp)) ((RdDs.app ys' zs).same (sameD hp)))
def cutG {α : Type} (xs : List α) (lo hi : Option Int) : List α := (xs.drop (HT.sIx xs.length 0 lo)).take (HT.sIx xs.length xs.length hi - HT.sIx xs.length 0 lo)
theorem dp_none : Dp N tNoPart σ H none := fun H1 a Q k => k H1 (Same.refl _)
theorem dp_some {t : TE} {i : Int} (h : Dt N t σ H (.int i)) : Dp N (tPart t) σ H (some i) := fun H1 a Q k => h H1 a _ fun v H2 e2 r2 => by
  cases r2; exact ⟨i, rfl, k H2 e2⟩
theorem dt_sl {te : TE} {tl th : TO} {ds : List PyData} {lo hi : Option Int} (he : Dt N te σ H (.tuple ds)) (hl : Dp N tl σ H lo) (hh : Dp N th σ H hi) :
    Dt N (tSl (fun x lo hi H Q => rSlT K x lo hi H Q ∨ rSlW K x lo hi H Q) te tl th) σ H (.tuple (cutG ds lo hi)) := fun H1 a Q k =>
  he H1 a _ fun v H2 e2 r2 => hl H2 (a.go e2) _ fun H3 e3 => hh H3 ((a.go e2).go e3) _ fun H4 e4 => by
    have r2' := r2.same (same_del (e3.trans e4))
    have L := (a.l.same (e2.trans (e3.trans e4)))
    cases r2' with
    | @tup b xs _ z zs =>
      by_cases w : HT.sIx xs.length 0 lo = 0 ∧ HT.sIx xs.length xs.length hi = xs.length
      · refine .inr ⟨b, xs, rfl, .of (del_some z).1, w, ?_⟩
        have : cutG ds lo hi = ds := by
          unfold cutG; rw [← zs.len, w.1, w.2]; simp [zs.len]
        rw [this] at k
        exact k _ _ (e2.trans (e3.trans e4)) (.tup z zs)
      · refine .inl ⟨b, xs, rfl, .of (del_some z).1, w, fun p hp => ?_⟩
        refine k _ _ ((e2.trans (e3.trans e4)).trans (Same.upd hp)) (.tup (xs := cutV xs lo hi) (del_of upd_same (L.nnew hp)) ?_)
        have := ((zs.drop (HT.sIx xs.length 0 lo)).take (HT.sIx xs.length xs.length hi - HT.sIx xs.length 0 lo)).same (sameD (o := .tup (cutV xs lo hi)) hp)
        unfold cutG
        rw [← zs.len]
        exact this
end
def rD (x : Rat) : PyData := .tuple [.int x.num, .int (x.den : Int)]
end L2
set_option Elab.async false
set_option linter.all false
set_option maxRecDepth 100000
namespace L2
open PySem PySem.Spec PyProof.Rows
theorem szl {n : Nat} (h : n ≤ 1000) : n ≤ sizeLine := Nat.le_of_lt (small1000 h)
theorem cutG_to {α : Type} (xs : List α) (j : Nat) : cutG xs none (some (j : Int)) = xs.take j := by
  unfold cutG
  rw [HT.sIx_none, HT.sIx_nat, List.drop_zero, Nat.sub_zero]
  rcases Nat.le_total j xs.length with h | h
  · rw [Nat.min_eq_left h]
  · rw [Nat.min_eq_right h, List.take_of_length_le (Nat.le_refl _), List.take_of_length_le h]
theorem cutG_from {α : Type} (xs : List α) (j : Nat) : cutG xs (some (j : Int)) none = xs.drop j := by
  unfold cutG
  rw [HT.sIx_none, HT.sIx_nat]
  rcases Nat.le_total j xs.length with h | h
  · rw [Nat.min_eq_left h, List.take_of_length_le (by rw [List.length_drop]; exact Nat.le_refl _)]
  · rw [Nat.min_eq_right h, Nat.sub_self, List.take_zero, List.drop_of_length_le h]
theorem cutG_from1 {α : Type} (xs : List α) (j : Nat) : cutG xs (some ((j : Int) + 1)) none = xs.drop (j + 1) := cutG_from xs (j + 1)
theorem dt_eq {N : List Addr} {t : TE} {σ : St} {H : Hp} {d d' : PyData} (h : Dt N t σ H d) (e : d = d') : Dt N t σ H d' := e ▸ h
theorem dt_add {N : List Addr} {σ : St} {H : Hp} {ta tb : TE} {i j : Int} (ha : Dt N ta σ H (.int i)) (hb : Dt N tb σ H (.int j)) : Dt N (tOp (rI0 fun i j => .int (i + j)) ta tb) σ H (.int (i + j)) := dt_i0 (g := (· + ·)) ha hb
theorem dt_mul {N : List Addr} {σ : St} {H : Hp} {ta tb : TE} {i j : Int} (ha : Dt N ta σ H (.int i)) (hb : Dt N tb σ H (.int j)) (hC : CMulB i j) : Dt N (tOp (rI CMulB fun i j => .int (i * j)) ta tb) σ H (.int (i * j)) := dt_iC (g := (· * ·)) ha hb hC
theorem at_0 {H : Hp} : At [] H H := ⟨by rw [del_nil]; exact Same.refl _, .nil⟩
theorem st_set {te : TE} {i : Nat} {u : TS} {D : Ends} {σ : St} {H : Hp} (h : te σ H fun v H1 => u D (σ.set i (some v)) H1) : tSeq (tAsg te (gName i)) u D σ H := h
theorem st_drop {te : TE} {u : TS} {D : Ends} {σ : St} {H : Hp} (h : te σ H fun _ H1 => u D σ H1) : tSeq (tDrop te) u D σ H := h
theorem st_for {wi : TI} {g : TG} {tb : TS} {u : TS} {D : Ends} {σ : St} {H : Hp} (h : tFor wi g tb { D with nx := u D } σ H) : tSeq (tFor wi g tb) u D σ H := h
structure FS (H0 H1 : Hp) (l : Addr) (ds : List PyData) : Prop where
  at_ : At [l] H0 H1
  ex : ∃ xs, H1 l = some (.lst xs) ∧ RdDs (del [l] H1) xs ds
theorem FS.rd {H0 H1 : Hp} {l : Addr} {ds : List PyData} (f : FS H0 H1 l ds) : RdD H1 (.ref l) (.list ds) := by
  obtain ⟨xs, h, r⟩ := f.ex
  exact .lst h (r.same del_sub)
theorem FS.sm {H0 H1 : Hp} {l : Addr} {ds : List PyData} (f : FS H0 H1 l ds) : Same H0 H1 := f.at_.s.trans del_sub
theorem FS.go {H0 H1 H2 : Hp} {l : Addr} {ds : List PyData} (f : FS H0 H1 l ds) (e : Same H1 H2) : FS H0 H2 l ds := by
  obtain ⟨xs, h, r⟩ := f.ex
  exact ⟨f.at_.go e, xs, e _ _ h, r.same (same_del e)⟩
theorem same_hid {H : Hp} {p : Addr} {o : HO} (h : H p = none) : Same H (del [p] (upd H p o)) := fun b u z => by
  have n : b ≠ p := ne_of_none z h
  refine del_of ?_ (by simpa using n)
  rw [upd_ne n]; exact z
theorem del_upd {H : Hp} {p : Addr} {o : HO} : del [p] (upd H p o) = del [p] H := by
  funext a
  unfold del
  by_cases h : a = p
  · rw [if_pos (by simpa using h), if_pos (by simpa using h)]
  · rw [if_neg (by simpa using h), if_neg (by simpa using h), upd_ne h]
theorem ls1 {H : Hp} {p : Addr} {xs : List V} (h : H p = some (.lst xs)) : Ls [p] H := fun a m => by
  obtain rfl : a = p := by simpa using m
  exact ⟨xs, h⟩
section
variable {N : List Addr} {σ : St} {H0 : Hp} {K : PySem.W.Frag}
theorem fs_new {H0 H2 : Hp} {p : Addr} {vs : List V} {ds : List PyData} (a : At N H0 H2) (hp : H2 p = none) (r : RdDs (del N H2) vs ds) : FS H0 (upd H2 p (.lst vs)) p ds :=
  ⟨⟨(a.s.trans del_sub).trans (same_hid hp), ls1 upd_same⟩, vs, upd_same, (r.same del_sub).same (same_hid hp)⟩
theorem fs_lst {t : TA} {ds : List PyData} {H1 : Hp} {Q : VK} (a : At N H0 H1) (h : Da N t σ H0 ds) (l : ds.length ≤ sizeLine) (k : ∀ l H2, FS H0 H2 l ds → Q (.ref l) H2) : tLst t σ H1 Q :=
  h H1 a _ fun vs H2 e2 r => ⟨by rw [r.len]; exact l, fun p hp => k p _ (fs_new (a.go e2) hp r)⟩
theorem fs_cat {t : TA} {ds es : List PyData} {H1 : Hp} {Q : VK} {i : Nat} {l : Addr} (f : FS H0 H1 l ds) (h : Da [l] t σ H0 es) (hs : σ[i]? = some (some (.ref l))) (z : ds.length + es.length ≤ sizeLine)
    (k : ∀ p H3, FS H0 H3 p (ds ++ es) → Q (.ref p) H3) : tOp rCat (tVar i) (tLst t) σ H1 Q :=
  ⟨_, hs, h H1 f.at_ _ fun vs H2 e2 r => ⟨by rw [r.len]; omega, fun q hq => by
    obtain ⟨xs, hx, rx⟩ := (f.go e2).ex
    have e3 : Same H2 (upd H2 q (.lst vs)) := Same.upd hq
    refine ⟨l, q, xs, vs, rfl, rfl, e3 _ _ hx, upd_same, (by rw [rx.len, r.len]; exact z), fun p hp => k p _ ?_⟩
    have a3 : At [l] H0 (upd H2 q (.lst vs)) := (f.go e2).at_.go e3
    exact fs_new a3 hp (RdDs.app (r.same (same_del e3)) (rx.same (same_del e3)))⟩⟩
theorem fs_app {te : TE} {ds : List PyData} {d : PyData} {H1 : Hp} {Q : VK} {i : Nat} {l : Addr} (f : FS H0 H1 l ds) (h : Dt [l] te σ H0 d) (hs : σ[i]? = some (some (.ref l))) (z : ds.length ≤ 1000)
    (k : ∀ H3, FS H0 H3 l (ds ++ [d]) → Q .non H3) : tBM K "list" rAppend (tVar i) (tCons te tNil) σ H1 Q := by
  obtain ⟨xs, hx, rx⟩ := f.ex
  refine ⟨_, hs, .inl ⟨rfl, xs, .of hx⟩, h H1 f.at_ _ fun v H2 e2 r => ?_⟩
  refine ⟨l, xs, v, rfl, rfl, e2 _ _ hx, small1000 (by rw [rx.len]; exact z), k _ ?_⟩
  refine ⟨⟨by rw [del_upd]; exact (f.go e2).at_.s, ls1 upd_same⟩, _, upd_same, ?_⟩
  rw [del_upd]
  exact RdDs.app (.cons r .nil) (rx.same (same_del e2))
end
end L2
set_option Elab.async false
set_option linter.all false
set_option maxRecDepth 100000
namespace L2
open PySem PySem.Spec PyProof.Rows
inductive Bx (p : Prop) : Prop
  | mk (h : p) : Bx p
section
variable {X : Cx}
theorem bx_scons {st : Stmt} {rest : List Stmt} {t u : TS} (h1 : Bx (PS X st t)) (h2 : Bx (PSs X rest u)) : Bx (PSs X (st :: rest) (tSeq t u)) := by
  obtain ⟨h1⟩ := h1; obtain ⟨h2⟩ := h2; exact ⟨pss_cons h1 h2⟩
end
section
variable {P : Program} {w : World} {K : PySem.W.Frag} {mg : Str → Option Value} {base : Heap}
theorem Df.calB {x : Str} {st : Stmt} {N ps : List Str} {dvs : List V} {k : Nat} {sp : Sp} (D : Df K mg x st ps dvs) (S : FnScope N ps (defScope st)) (len : ∀ vs H Q E, sp vs H Q E → vs.length = ps.length)
    (hbody : ∀ (f : Addr) (cdv : Value) (A : Around) (outer : List Env) (s : Shared) (H : Hp) (vs : List V) (Q : VK) (E : XK), Room k (A.deeper (envOfC x (defScope st) s.heap.objs.size f cdv)) → sp vs H Q E →
      ∃ t, Bx (PSs (cxOf CX0 P w K mg base N x (defScope st) f cdv A outer s H E).nox (defBody st) t) ∧ t { nx := fun _ H' => Q .non H', rt := Q } (start N vs) H) : Cal P w K mg base x (k + 1) ps dvs sp :=
  D.cal S len fun f cdv A outer s H vs Q E hr h => by
    obtain ⟨t, ⟨p⟩, q⟩ := hbody f cdv A outer s H vs Q E hr h
    exact ⟨t, p, q⟩
end
end L2
set_option Elab.async false
set_option linter.all false
set_option maxRecDepth 100000
namespace L2
open PySem PySem.Spec PyProof.Rows
def TupS (H H' : Hp) : Prop := ∀ b xs, H b = some (.tup xs) → H' b = some (.tup xs)
theorem TupS.of {H H' : Hp} (h : Same H H') : TupS H H' := fun b xs e => h b _ e
theorem TupS.trans {H H1 H2 : Hp} (a : TupS H H1) (b : TupS H1 H2) : TupS H H2 := fun c xs e => b c xs (a c xs e)
theorem TupS.upd {H : Hp} {D : Addr} {ys : List V} {o : HO} (h : H D = some (.lst ys)) : TupS H (upd H D o) := fun b xs e => by rw [upd_ne (fun z => by subst z; rw [h] at e; cases e)]; exact e
structure Runs (J : It) (H : Hp) (xs : List V) : Prop where
  go : ∀ i H', i < xs.length → Same H H' → J.go i H'
  stop : ∀ H', Same H H' → J.stop xs.length H'
  yld : ∀ i x H2 H3, Same H H2 → J.yld i H2 x H3 → H3 = H2 ∧ xs[i]? = some x
theorem runs_list {K : PySem.W.Frag} {H : Hp} {a : Addr} {xs : List V} (h : H a = some (.lst xs)) : Runs (Itl K a) H xs :=
  ⟨fun i H' hi s => ⟨xs, xs[i], .of (s _ _ h), by simp [hi]⟩, fun H' s => ⟨xs, .of (s _ _ h), Nat.le_refl _⟩, fun i x H2 H3 s y => ⟨y.1, y.2 xs (.of (s _ _ h))⟩⟩
theorem runs_tup {K : PySem.W.Frag} {H : Hp} {a : Addr} {xs : List V} (h : H a = some (.tup xs)) : Runs (Itt K a) H xs :=
  ⟨fun i H' hi s => ⟨xs, xs[i], .of (s _ _ h), by simp [hi]⟩, fun H' s => ⟨xs, .of (s _ _ h), Nat.le_refl _⟩, fun i x H2 H3 s y => ⟨y.1, y.2 xs (.of (s _ _ h))⟩⟩
section
variable {J : It} {D : Addr} {n : Nat} {js : List Nat} {σ : St} {g : TG} {te : TE} {Z : Hp → Prop} {H : Hp} {xs : List V}
theorem comp_each (R : Nat → V → Hp → Prop) (hR : ∀ i v H H', TupS H H' → R i v H → R i v H') (hD : H D = none) (hJ : Runs J H xs) (hl : xs.length < sizeLine)
    (hs : ∀ i x zs H2 Q', xs[i]? = some x → zs.length = n → Same H H2 → (∀ v H6, Same H2 H6 → R i v H6 → Q' v H6) → g x zs H2 fun σ4 H4 => te σ4 H4 Q')
    (k : ∀ ys H', Same H H' → H' D = some (.lst ys) → ys.length = xs.length → (∀ i v, ys[i]? = some v → R i v H') → Z H') :
    ∃ W : Nat → Nat → Hp → List V → Prop, (∃ m, W 0 m (upd H D (.lst [])) []) ∧ ∀ i m H2 ys, W i m H2 ys → H2 D = some (.lst ys) → (J.stop i H2 ∧ Z H2) ∨
      (J.go i H2 ∧ ∀ σB x H3, σB.length = n → J.yld i H2 x H3 → g x σB H3 fun σ4 H4 => (fun _ H Q => Q true H : TT) σ4 H4 fun b H5 => if b = true then te σ4 H5 (fun v H6 => H6 D = some (.lst ys) ∧ ys.length < sizeLine ∧ ∃ m', m' < m ∧ W (i + 1) m' (upd H6 D (.lst (ys ++ [v]))) (ys ++ [v]))
        else H5 D = some (.lst ys) ∧ ∃ m', m' < m ∧ W (i + 1) m' H5 ys) := by
  refine comp_by (Q := fun _ H => Z H) (tt := fun _ H Q => Q true H) (N := xs.length) (fun i H2 ys => Same H H2 ∧ ys.length = i ∧ ∀ j v, ys[j]? = some v → R j v H2) ⟨Same.upd hD, rfl, fun j v e => by simp at e⟩ (fun i H2 ys hi p => hJ.go i H2 hi p.1) (fun H2 ys p => hJ.stop H2 p.1) ?_ (fun H2 ys p e => k ys H2 p.1 e p.2.1 p.2.2)
  rintro i x zs H2 H3 ys Nx hN hi hz hy ⟨s2, hyl, hyR⟩ hD2
  obtain ⟨rfl, hx⟩ := hJ.yld i x H2 H3 s2 hy
  refine hs i x zs H3 _ hx hz s2 fun v H6 s6 r6 => ⟨s6 _ _ hD2, by omega, hN _ _ ⟨fun c o e => ?_, by simp [hyl], fun j u e => ?_⟩⟩
  · rw [upd_ne (ne_of_none e hD)]; exact s6 _ _ (s2 _ _ e)
  · have T6 : TupS H6 (upd H6 D (.lst (ys ++ [v]))) := .upd (s6 _ _ hD2)
    by_cases hj : j < ys.length
    · rw [List.getElem?_append_left hj] at e
      exact hR _ _ _ _ ((TupS.of s6).trans T6) (hyR j u e)
    · rw [List.getElem?_append_right (by omega)] at e
      have : j - ys.length = 0 := by
        rcases Nat.eq_zero_or_pos (j - ys.length) with z | z
        · exact z
        · rw [List.getElem?_eq_none (by simp; omega)] at e; cases e
      rw [this] at e
      simp at e
      subst e
      rw [show j = i by omega]
      exact hR _ _ _ _ T6 r6
theorem compC_each (R : Nat → V → Hp → Prop) (hR : ∀ i v H H', TupS H H' → R i v H → R i v H') (hD : H D = none) (hJ : Runs J H xs) (hl : xs.length < sizeLine)
    (hs : ∀ i x zs H2 Q', xs[i]? = some x → zs.length = n → Same H H2 → (∀ v H6, Same H2 H6 → R i v H6 → Q' v H6) → g x (zs ++ caps σ js) H2 fun σ4 H4 => σ4.drop n = caps σ js ∧ te σ4 H4 Q')
    (k : ∀ ys H', Same H H' → H' D = some (.lst ys) → ys.length = xs.length → (∀ i v, ys[i]? = some v → R i v H') → Z H') :
    ∃ W : Nat → Nat → Hp → List V → Prop, (∃ m, W 0 m (upd H D (.lst [])) []) ∧ ∀ i m H2 ys, W i m H2 ys → H2 D = some (.lst ys) → (J.stop i H2 ∧ Z H2) ∨
      (J.go i H2 ∧ ∀ zs x H3, zs.length = n → J.yld i H2 x H3 → g x (zs ++ caps σ js) H3 fun σ4 H4 => σ4.drop n = caps σ js ∧ (fun _ H Q => Q true H : TT) σ4 H4 fun b H5 => if b = true then te σ4 H5 (fun v H6 => H6 D = some (.lst ys) ∧ ys.length < sizeLine ∧ ∃ m', m' < m ∧ W (i + 1) m' (upd H6 D (.lst (ys ++ [v]))) (ys ++ [v]))
        else H5 D = some (.lst ys) ∧ ∃ m', m' < m ∧ W (i + 1) m' H5 ys) := by
  refine compC_by (Q := fun _ H => Z H) (tt := fun _ H Q => Q true H) (N := xs.length) (fun i H2 ys => Same H H2 ∧ ys.length = i ∧ ∀ j v, ys[j]? = some v → R j v H2) ⟨Same.upd hD, rfl, fun j v e => by simp at e⟩ (fun i H2 ys hi p => hJ.go i H2 hi p.1) (fun H2 ys p => hJ.stop H2 p.1) ?_ (fun H2 ys p e => k ys H2 p.1 e p.2.1 p.2.2)
  rintro i x zs H2 H3 ys Nx hN hi hz hy ⟨s2, hyl, hyR⟩ hD2
  obtain ⟨rfl, hx⟩ := hJ.yld i x H2 H3 s2 hy
  refine hs i x zs H3 _ hx hz s2 fun v H6 s6 r6 => ⟨s6 _ _ hD2, by omega, hN _ _ ⟨fun c o e => ?_, by simp [hyl], fun j u e => ?_⟩⟩
  · rw [upd_ne (ne_of_none e hD)]; exact s6 _ _ (s2 _ _ e)
  · have T6 : TupS H6 (upd H6 D (.lst (ys ++ [v]))) := .upd (s6 _ _ hD2)
    by_cases hj : j < ys.length
    · rw [List.getElem?_append_left hj] at e
      exact hR _ _ _ _ ((TupS.of s6).trans T6) (hyR j u e)
    · rw [List.getElem?_append_right (by omega)] at e
      have : j - ys.length = 0 := by
        rcases Nat.eq_zero_or_pos (j - ys.length) with z | z
        · exact z
        · rw [List.getElem?_eq_none (by simp; omega)] at e; cases e
      rw [this] at e
      simp at e
      subst e
      rw [show j = i by omega]
      exact hR _ _ _ _ T6 r6
end
end L2
namespace L2
open PySem PySem.Spec PyProof.Rows
section
variable {J : It} {D : Addr} {n : Nat} {σ : St} {g : TG} {tt : TT} {te : TE} {Z : Hp → Prop} {H : Hp} {xs : List V}
end
end L2
namespace KM
theorem minus_eq (a b : Rat) : Rat.divInt (a.num * b.den - b.num * a.den) (a.den * b.den) = a - b := by
  rw [Rat.sub_def', ← Rat.divInt_ofNat]; simp
section
variable {x s : Rat}
end
section
variable {x : Rat} {f : Int}
end
end KM
set_option Elab.async false
set_option linter.all false
set_option maxRecDepth 100000
namespace KK
open PySem L2
def top (i : Nat) : Stmt := PySem.Challenge.pw_clackrow_k55_weights_judged.main.body.getD i (.Pass ⟨0, 0, 0, 0⟩)
abbrev s_is_whole : Stmt := top 4
abbrev s_greatest_divisor : Stmt := top 5
abbrev s_ratio : Stmt := top 6
abbrev s_minus : Stmt := top 7
abbrev s_over : Stmt := top 8
abbrev s_less : Stmt := top 9
abbrev s_share_of : Stmt := top 12
abbrev s_does_all : Stmt := top 13
abbrev s_law_cell : Stmt := top 15
abbrev s_law_dig : Stmt := top 16
abbrev s_law_next : Stmt := top 17
abbrev s_law_lowest : Stmt := top 18
abbrev s_law_far : Stmt := top 19
abbrev s_law_ratio : Stmt := top 20
abbrev s_law_sum : Stmt := top 21
abbrev s_law_product : Stmt := top 22
abbrev s_law_minus : Stmt := top 23
abbrev s_law_meeting : Stmt := top 24
abbrev s_law_sighting : Stmt := top 25
abbrev s_law_weights : Stmt := top 26
abbrev s_law_share : Stmt := top 27
abbrev s_law_does : Stmt := top 28
abbrev s_law_parts : Stmt := top 29
abbrev s_law_common : Stmt := top 30
abbrev s_law_least : Stmt := top 31
abbrev s_law_softer : Stmt := top 32
abbrev s_law_bad_ones : Stmt := top 33
abbrev s_law : Stmt := top 34
end KK
set_option Elab.async false
set_option linter.all false
set_option maxRecDepth 100000
namespace KK
open PySem L2
structure TxB (K : PySem.W.Frag) (mg : Str → Option Value) : Prop where
  ii : PySem.W.kitOne K (.type "int") (.type "int") = some true
  ib : PySem.W.kitOne K (.type "int") (.type "bool") = some false
  nIs : mg "isinstance" = none
  nInt : mg "int" = none
  nBool : mg "bool" = none
  nAbs : mg "abs" = none
  nLen : mg "len" = none
  nMax : mg "max" = none
  nMin : mg "min" = none
  nRange : mg "range" = none
  nTuple : mg "tuple" = none
  nSum : mg "sum" = none
section
variable {P : Program} {w : World} {K : PySem.W.Frag} {mg : Str → Option Value} {base : Heap}

def spWhole : Sp := fun vs H Q _ => ∃ i, vs = [.int i] ∧ Q (.bl true) H
theorem sc_whole : FnScope ["thing"] ["thing"] (defScope s_is_whole) := ⟨rfl, rfl, rfl, by decide +kernel, rfl, by decide +kernel, by decide +kernel⟩
theorem ok_whole (D : Df K mg "is_whole" s_is_whole ["thing"] []) (T : TxB K mg) : Cal P w K mg base "is_whole" 1 ["thing"] [] spWhole := by
  refine D.cal (k := 0) sc_whole (fun vs H Q E h => by obtain ⟨i, rfl, _⟩ := h; rfl) (fun f cdv A outer s H vs Q E hr h => ?_)
  obtain ⟨i, rfl, k⟩ := h
  refine ⟨_, pss_one (ps_ret (pe_and
    (pe_callB call_isinst rfl T.nIs PyProof.Rows.boot_isinstance (pa_cons (pv 0) (pa_cons (pe_bltn (v := .ty "int") (u := .type "int") rfl T.nInt PyProof.Rows.boot_int rfl) pa_nil)))
    (pe_one (pe_not (pe_callB call_isinst rfl T.nIs PyProof.Rows.boot_isinstance (pa_cons (pv 0) (pa_cons (pe_bltn (v := .ty "bool") (u := .type "bool") rfl T.nBool (by decide +kernel) rfl) pa_nil))))))), ?_⟩
  refine ⟨_, rfl, _, _, _, true, rfl, .int i, T.ii, true, rfl, iteT ?_⟩
  exact ⟨_, rfl, _, _, _, false, rfl, .int i, T.ib, false, rfl, k⟩

def spGcd : Sp := fun vs H Q _ => ∃ a b : Int, vs = [.int a, .int b] ∧ 0 ≤ a ∧ 0 ≤ b ∧ Q (.int (Int.gcd a b : Nat)) H
theorem sc_gcd : FnScope ["one", "other"] ["one", "other"] (defScope s_greatest_divisor) := ⟨rfl, rfl, rfl, by decide +kernel, rfl, by decide +kernel, by decide +kernel⟩
theorem ok_gcd (D : Df K mg "greatest_divisor" s_greatest_divisor ["one", "other"] []) : Cal P w K mg base "greatest_divisor" 1 ["one", "other"] [] spGcd := by
  refine D.cal (k := 0) sc_gcd (fun vs H Q E h => by obtain ⟨a, b, rfl, _⟩ := h; rfl) (fun f cdv A outer s H vs Q E hr h => ?_)
  obtain ⟨a, b, rfl, ha, hb, k⟩ := h
  refine ⟨_, pss_cons (ps_while PassesOwn.never (pt_cmpR op_gt (pv 1) pe_int (nomark _))
      (pss_one (ps_par (i := 0) (j := 1) rfl sc_gcd.nd rfl rfl (by decide) rfl rfl (pa_cons (pv 1) (pa_cons (pe_op op_mod (pv 0) (pv 1)) pa_nil)) (by rfl))))
    (pss_one (ps_ret (pv 0))), ?_⟩
  refine while_by (fun σ H1 => H1 = H ∧ ∃ x y : Int, σ = [some (.int x), some (.int y)] ∧ 0 ≤ x ∧ 0 ≤ y ∧ Int.gcd x y = Int.gcd a b)
    (fun σ _ => match σ with | [_, some (.int y)] => y.toNat | _ => 0) ⟨rfl, a, b, rfl, ha, hb, rfl⟩ ?_ ?_
  · rintro σ H1 ⟨rfl, x, y, rfl, hx, hy, e⟩
    refine ⟨_, rfl, _, _, rfl, rfl, _, rfl, ite2 (fun h => ?_) (fun h => ?_)⟩
    · have h' : 0 < y := of_decide_eq_true h
      refine ⟨_, rfl, _, rfl, _, rfl, _, _, rfl, rfl, h', _, _, rfl, ⟨rfl, _, _, rfl, hy, Int.emod_nonneg _ (by omega), ?_⟩, ?_⟩
      · rw [KM.gcd_step hx h']; exact e
      · show (x % y).toNat < y.toNat
        have := Int.emod_lt_of_pos x h'
        omega
    · have h' : ¬ 0 < y := fun z => h (decide_eq_true z)
      have : y = 0 := by omega
      subst this
      refine ⟨_, rfl, ?_⟩
      have e2 : x = (Int.gcd a b : Nat) := by rw [← e, Int.gcd_zero_right]; omega
      rw [e2]; exact k
  · rintro σ H1 Q1 Q2 hq ⟨v, e, i, j, e1, e2, k1, e3, q⟩
    exact ⟨v, e, i, j, e1, e2, k1, e3, hq _ _ q⟩

theorem sc_ratio : FnScope ["top", "bottom", "divisor"] ["top", "bottom"] (defScope s_ratio) := ⟨rfl, rfl, rfl, by decide +kernel, rfl, by decide +kernel, by decide +kernel⟩
theorem abs_eq (i : Int) : (if i < 0 then -i else i) = (i.natAbs : Int) := by split <;> omega
theorem ok_ratio {dvs : List V} (D : Df K mg "ratio" s_ratio ["top", "bottom"] dvs) (T : TxB K mg) (cW : Cal P w K mg base "is_whole" 1 ["thing"] [] spWhole) (cG : Cal P w K mg base "greatest_divisor" 1 ["one", "other"] [] spGcd) :
    Cal P w K mg base "ratio" 2 ["top", "bottom"] dvs spLow := by
  refine D.cal (k := 1) sc_ratio (fun vs H Q E h => by obtain ⟨a, b, rfl, _⟩ := h; rfl) (fun f cdv A outer s H vs Q E hr h => ?_)
  obtain ⟨t, b, rfl, hb, hz, k⟩ := h
  refine ⟨_, pss_cons (ps_if (pw_or (pt_not (pt_truth (pe_c cW hr (pa_cons (pv 0) pa_nil)) fun _ => rfl)) (pw_or (pt_not (pt_truth (pe_c cW hr (pa_cons (pv 1) pa_nil)) fun _ => rfl)) (pw_or1 (pt_cmpR op_eq (pv 1) pe_int (nomark _))))).pt pss_never pss_nil)
    (pss_cons (ps_set (i := 2) sc_ratio.nd rfl (Or.inl rfl) (pe_c cG hr (pa_cons (pe_callB call_abs rfl T.nAbs PyProof.Rows.boot_abs (pa_cons (pv 0) pa_nil)) (pa_cons (pe_callB call_abs rfl T.nAbs PyProof.Rows.boot_abs (pa_cons (pv 1) pa_nil)) pa_nil))))
    (pss_cons (ps_if (pt_cmpR op_lt (pv 1) pe_int (nomark _)) (pss_one (ps_set (i := 2) sc_ratio.nd rfl (Or.inl rfl) (pe_un un_neg (pv 2)))) pss_nil)
    (pss_one (ps_ret (pe_tup (pa_cons (pe_op op_fdivB (pv 0) (pv 2)) (pa_cons (pe_op op_fdivB (pv 1) (pv 2)) pa_nil))))))), ?_⟩
  refine ⟨_, rfl, t, rfl, true, rfl, iteF ?_⟩
  refine ⟨_, rfl, b, rfl, true, rfl, iteF ?_⟩
  refine ⟨_, rfl, rfl, _, rfl, ite2 (fun h => absurd (of_decide_eq_true h) (by intro z; injection z with z; exact hb z)) (fun _ => ?_)⟩
  refine ⟨_, rfl, t, rfl, ⟨_, rfl, b, rfl, ⟨_, _, rfl, (by rw [abs_eq]; omega), (by rw [abs_eq]; omega), ?_⟩⟩⟩
  have hd := KM.dv_ne (t := t) hb
  have hdz : Bd 8900 (KM.dv t b) := hz.of_le (KM.dv_le hb)
  have fin : ∀ σ : St, σ = [some (.int t), some (.int b), some (.int (KM.dv t b))] → tRet (tTup (tCons (tOp (rI CDivB fun i j => V.int (i.fdiv j)) (tVar 0) (tVar 2)) (tCons (tOp (rI CDivB fun i j => V.int (i.fdiv j)) (tVar 1) (tVar 2)) tNil))) { nx := fun _ H' => Q .non H', rt := Q } σ H := by
    rintro σ rfl
    refine ⟨_, rfl, _, rfl, _, _, rfl, rfl, ⟨hd, hdz⟩, _, rfl, _, rfl, _, _, rfl, rfl, ⟨hd, hdz⟩, ?_⟩
    refine ⟨by show 2 ≤ sizeLine; decide, fun p hp => k p _ (Same.upd hp) ?_⟩
    show upd H p _ p = _
    rw [upd_same]
    dsimp only
    rw [KM.dv_num hb, KM.dv_den hb]; rfl
  have ge : (Int.gcd (if t < 0 then -t else t) (if b < 0 then -b else b) : Nat) = Int.gcd t b := by
    rw [abs_eq, abs_eq]; simp [Int.gcd]
  refine ⟨_, rfl, _, _, rfl, rfl, _, rfl, ite2 (fun h => ?_) (fun h => ?_)⟩
  · have h' : b < 0 := of_decide_eq_true h
    refine ⟨_, rfl, _, rfl, fin _ ?_⟩
    rw [ge]; unfold KM.dv; rw [if_pos h']; rfl
  · have h' : ¬ b < 0 := fun z => h (decide_eq_true z)
    refine fin _ ?_
    rw [ge]; unfold KM.dv; rw [if_neg h']; rfl
end
end KK
set_option Elab.async false
set_option linter.all false
set_option maxRecDepth 100000
namespace KK
open PySem L2
section
variable {P : Program} {w : World} {K : PySem.W.Frag} {mg : Str → Option Value} {base : Heap}
theorem Bd4 {x : Rat} (h : Sz 4000 x) : Bd 1000000 x.num ∧ Bd 1000000 (x.den : Int) := ⟨h.1.mono (by decide), h.2.mono (by decide)⟩
section
variable {x y : Rat} {p q : Addr} {H : Hp}
theorem rd_plus {Q : VK} (hp : RatAt H p x) (hq : RatAt H q y) (hx : Sz 4000 x) (hy : Sz 4000 y) (k : ∀ r H', Same H H' → RatAt H' r (x + y) → Q (.ref r) H') :
    tRet (tCall spLow [] E0 (tCons (tOp (rI0 fun i j => .int (i + j)) (tOp (rI CMulB fun i j => .int (i * j)) (tOp (rIxT K) (tVar 0) (tC (.int 0))) (tOp (rIxT K) (tVar 1) (tC (.int 1)))) (tOp (rI CMulB fun i j => .int (i * j)) (tOp (rIxT K) (tVar 1) (tC (.int 0))) (tOp (rIxT K) (tVar 0) (tC (.int 1)))))
      (tCons (tOp (rI CMulB fun i j => .int (i * j)) (tOp (rIxT K) (tVar 0) (tC (.int 1))) (tOp (rIxT K) (tVar 1) (tC (.int 1)))) tNil))) { nx := fun _ H' => Q .non H', rt := Q } [some (.ref p), some (.ref q)] H := by
  have bx := Bd4 hx
  have b_y := Bd4 hy
  refine ⟨_, rfl, p, _, _, _, rfl, rfl, .of hp, at0 .., _, rfl, q, _, _, _, rfl, rfl, .of hq, at1 .., _, _, rfl, rfl, ⟨bx.1, b_y.2⟩, ?_⟩
  refine ⟨_, rfl, q, _, _, _, rfl, rfl, .of hq, at0 .., _, rfl, p, _, _, _, rfl, rfl, .of hp, at1 .., _, _, rfl, rfl, ⟨b_y.1, bx.2⟩, _, _, rfl, rfl, ?_⟩
  refine ⟨_, rfl, p, _, _, _, rfl, rfl, .of hp, at1 .., _, rfl, q, _, _, _, rfl, rfl, .of hq, at1 .., _, _, rfl, rfl, ⟨bx.2, b_y.2⟩, ?_⟩
  refine ⟨_, _, rfl, Int.mul_ne_zero (KM.den_ne x) (KM.den_ne y), (hx.2.mul hy.2).mono (by decide), fun r H' e h => k r H' e ?_⟩
  rw [← KM.plus_eq]; exact h
theorem rd_times {Q : VK} (hp : RatAt H p x) (hq : RatAt H q y) (hx : Sz 4000 x) (hy : Sz 4000 y) (k : ∀ r H', Same H H' → RatAt H' r (x * y) → Q (.ref r) H') :
    tRet (tCall spLow [] E0 (tCons (tOp (rI CMulB fun i j => .int (i * j)) (tOp (rIxT K) (tVar 0) (tC (.int 0))) (tOp (rIxT K) (tVar 1) (tC (.int 0))))
      (tCons (tOp (rI CMulB fun i j => .int (i * j)) (tOp (rIxT K) (tVar 0) (tC (.int 1))) (tOp (rIxT K) (tVar 1) (tC (.int 1)))) tNil))) { nx := fun _ H' => Q .non H', rt := Q } [some (.ref p), some (.ref q)] H := by
  have bx := Bd4 hx
  have b_y := Bd4 hy
  refine ⟨_, rfl, p, _, _, _, rfl, rfl, .of hp, at0 .., _, rfl, q, _, _, _, rfl, rfl, .of hq, at0 .., _, _, rfl, rfl, ⟨bx.1, b_y.1⟩, ?_⟩
  refine ⟨_, rfl, p, _, _, _, rfl, rfl, .of hp, at1 .., _, rfl, q, _, _, _, rfl, rfl, .of hq, at1 .., _, _, rfl, rfl, ⟨bx.2, b_y.2⟩, ?_⟩
  refine ⟨_, _, rfl, Int.mul_ne_zero (KM.den_ne x) (KM.den_ne y), (hx.2.mul hy.2).mono (by decide), fun r H' e h => k r H' e ?_⟩
  rw [← KM.times_eq]; exact h
end
theorem sc_lsum : FnScope ["one", "other"] ["one", "other"] (defScope s_law_sum) := ⟨rfl, rfl, rfl, by decide +kernel, rfl, by decide +kernel, by decide +kernel⟩
theorem ok_lsum (D : Df K mg "_law_sum" s_law_sum ["one", "other"] []) (c : Cal P w K mg base "_law_lowest" 1 ["top", "bottom"] [] spLow) : Cal P w K mg base "_law_sum" 2 ["one", "other"] [] (spBin Sz2 (· + ·)) := by
  refine D.cal (k := 1) sc_lsum (fun vs H Q E h => by obtain ⟨_, _, _, _, rfl, _⟩ := h; rfl) (fun f cdv A outer s H vs Q E hr h => ?_)
  obtain ⟨p, q, x, y, rfl, hp, hq, ⟨hx, hy⟩, k⟩ := h
  exact ⟨_, pss_one (ps_ret (pe_c c hr (pa_cons (pe_op op_add (pe_op op_mulB (pe_ix ix_tup (pv 0) pe_int (fun _ _ => rfl)) (pe_ix ix_tup (pv 1) pe_int (fun _ _ => rfl))) (pe_op op_mulB (pe_ix ix_tup (pv 1) pe_int (fun _ _ => rfl)) (pe_ix ix_tup (pv 0) pe_int (fun _ _ => rfl))))
    (pa_cons (pe_op op_mulB (pe_ix ix_tup (pv 0) pe_int (fun _ _ => rfl)) (pe_ix ix_tup (pv 1) pe_int (fun _ _ => rfl))) pa_nil)))), rd_plus hp hq hx hy k⟩
theorem sc_lprod : FnScope ["one", "other"] ["one", "other"] (defScope s_law_product) := ⟨rfl, rfl, rfl, by decide +kernel, rfl, by decide +kernel, by decide +kernel⟩
theorem ok_lprod (D : Df K mg "_law_product" s_law_product ["one", "other"] []) (c : Cal P w K mg base "_law_lowest" 1 ["top", "bottom"] [] spLow) : Cal P w K mg base "_law_product" 2 ["one", "other"] [] (spBin Sz2 (· * ·)) := by
  refine D.cal (k := 1) sc_lprod (fun vs H Q E h => by obtain ⟨_, _, _, _, rfl, _⟩ := h; rfl) (fun f cdv A outer s H vs Q E hr h => ?_)
  obtain ⟨p, q, x, y, rfl, hp, hq, ⟨hx, hy⟩, k⟩ := h
  exact ⟨_, pss_one (ps_ret (pe_c c hr (pa_cons (pe_op op_mulB (pe_ix ix_tup (pv 0) pe_int (fun _ _ => rfl)) (pe_ix ix_tup (pv 1) pe_int (fun _ _ => rfl)))
    (pa_cons (pe_op op_mulB (pe_ix ix_tup (pv 0) pe_int (fun _ _ => rfl)) (pe_ix ix_tup (pv 1) pe_int (fun _ _ => rfl))) pa_nil)))), rd_times hp hq hx hy k⟩
theorem sc_over : FnScope ["one", "other"] ["one", "other"] (defScope s_over) := ⟨rfl, rfl, rfl, by decide +kernel, rfl, by decide +kernel, by decide +kernel⟩
theorem ok_over (D : Df K mg "over" s_over ["one", "other"] []) (c : Cal P w K mg base "ratio" 2 ["top", "bottom"] [] spLow) : Cal P w K mg base "over" 3 ["one", "other"] [] (spBin (fun x y => Sz2 x y ∧ y ≠ 0) (· / ·)) := by
  refine D.cal (k := 2) sc_over (fun vs H Q E h => by obtain ⟨_, _, _, _, rfl, _⟩ := h; rfl) (fun f cdv A outer s H vs Q E hr h => ?_)
  obtain ⟨p, q, x, y, rfl, hp, hq, ⟨⟨hx, hy⟩, hy0⟩, k⟩ := h
  have bx := Bd4 hx
  have b_y := Bd4 hy
  refine ⟨_, pss_one (ps_ret (pe_c c hr (pa_cons (pe_op op_mulB (pe_ix ix_tup (pv 0) pe_int (fun _ _ => rfl)) (pe_ix ix_tup (pv 1) pe_int (fun _ _ => rfl)))
    (pa_cons (pe_op op_mulB (pe_ix ix_tup (pv 0) pe_int (fun _ _ => rfl)) (pe_ix ix_tup (pv 1) pe_int (fun _ _ => rfl))) pa_nil)))), ?_⟩
  refine ⟨_, rfl, p, _, _, _, rfl, rfl, .of hp, at0 .., _, rfl, q, _, _, _, rfl, rfl, .of hq, at1 .., _, _, rfl, rfl, ⟨bx.1, b_y.2⟩, ?_⟩
  refine ⟨_, rfl, p, _, _, _, rfl, rfl, .of hp, at1 .., _, rfl, q, _, _, _, rfl, rfl, .of hq, at0 .., _, _, rfl, rfl, ⟨bx.2, b_y.1⟩, ?_⟩
  refine ⟨_, _, rfl, Int.mul_ne_zero (KM.den_ne x) (fun z => hy0 (Rat.num_eq_zero.mp z)), (hx.2.mul hy.1).mono (by decide), fun r H' e h => k r H' e ?_⟩
  show RatAt H' r (x / y)
  rw [← KM.over_eq]; exact h

theorem sc_low : FnScope ["top", "bottom", "one", "other"] ["top", "bottom"] (defScope s_law_lowest) := ⟨rfl, rfl, rfl, by decide +kernel, rfl, by decide +kernel, by decide +kernel⟩
theorem ok_low (D : Df K mg "_law_lowest" s_law_lowest ["top", "bottom"] []) (T : TxB K mg) : Cal P w K mg base "_law_lowest" 1 ["top", "bottom"] [] spLow := by
  refine D.cal (k := 0) sc_low (fun vs H Q E h => by obtain ⟨a, b, rfl, _⟩ := h; rfl) (fun f cdv A outer s H vs Q E hr h => ?_)
  obtain ⟨t, b, rfl, hb, hz, k⟩ := h
  refine ⟨_, pss_cons (ps_par (i := 2) (j := 3) rfl sc_low.nd rfl rfl (by decide) rfl rfl (pa_cons (pe_callB call_abs rfl T.nAbs PyProof.Rows.boot_abs (pa_cons (pv 0) pa_nil)) (pa_cons (pe_callB call_abs rfl T.nAbs PyProof.Rows.boot_abs (pa_cons (pv 1) pa_nil)) pa_nil)) (by rfl))
    (pss_cons (ps_while PassesOwn.never (pt_cmpR op_gt (pv 3) pe_int (nomark _))
      (pss_one (ps_par (i := 2) (j := 3) rfl sc_low.nd rfl rfl (by decide) rfl rfl (pa_cons (pv 3) (pa_cons (pe_op op_mod (pv 2) (pv 3)) pa_nil)) (by rfl))))
    (pss_cons (ps_if (pt_cmpR op_lt (pv 1) pe_int (nomark _)) (pss_one (ps_set (i := 2) sc_low.nd rfl (Or.inl rfl) (pe_un un_neg (pv 2)))) pss_nil)
    (pss_one (ps_ret (pe_tup (pa_cons (pe_op op_fdivB (pv 0) (pv 2)) (pa_cons (pe_op op_fdivB (pv 1) (pv 2)) pa_nil))))))), ?_⟩
  have hd := KM.dv_ne (t := t) hb
  have hdz : Bd 8900 (KM.dv t b) := hz.of_le (KM.dv_le hb)
  have ge : (Int.gcd (if t < 0 then -t else t) (if b < 0 then -b else b) : Nat) = Int.gcd t b := by
    rw [abs_eq, abs_eq]; simp [Int.gcd]
  refine ⟨_, rfl, t, rfl, ⟨_, rfl, b, rfl, _, _, rfl, ?_⟩⟩
  have fin : ∀ (σ : St) (z : Option V), σ = [some (.int t), some (.int b), some (.int (KM.dv t b)), z] → tRet (tTup (tCons (tOp (rI CDivB fun i j => V.int (i.fdiv j)) (tVar 0) (tVar 2)) (tCons (tOp (rI CDivB fun i j => V.int (i.fdiv j)) (tVar 1) (tVar 2)) tNil))) { nx := fun _ H' => Q .non H', rt := Q } σ H := by
    rintro σ z rfl
    refine ⟨_, rfl, _, rfl, _, _, rfl, rfl, ⟨hd, hdz⟩, _, rfl, _, rfl, _, _, rfl, rfl, ⟨hd, hdz⟩, ?_⟩
    refine ⟨by show 2 ≤ sizeLine; decide, fun p hp => k p _ (Same.upd hp) ?_⟩
    show upd H p _ p = _
    rw [upd_same]
    dsimp only
    rw [KM.dv_num hb, KM.dv_den hb]; rfl
  refine while_by (fun σ H1 => H1 = H ∧ ∃ x y : Int, σ = [some (.int t), some (.int b), some (.int x), some (.int y)] ∧ 0 ≤ x ∧ 0 ≤ y ∧ Int.gcd x y = Int.gcd t b)
    (fun σ _ => match σ with | [_, _, _, some (.int y)] => y.toNat | _ => 0) ⟨rfl, _, _, rfl, (by rw [abs_eq]; omega), (by rw [abs_eq]; omega), ge⟩ ?_ ?_
  · rintro σ H1 ⟨rfl, x, y, rfl, hx, hy, e⟩
    refine ⟨_, rfl, _, _, rfl, rfl, _, rfl, ite2 (fun h => ?_) (fun h => ?_)⟩
    · have h' : 0 < y := of_decide_eq_true h
      refine ⟨_, rfl, _, rfl, _, rfl, _, _, rfl, rfl, h', _, _, rfl, ⟨rfl, _, _, rfl, hy, Int.emod_nonneg _ (by omega), ?_⟩, ?_⟩
      · rw [KM.gcd_step hx h']; exact e
      · show (x % y).toNat < y.toNat
        have := Int.emod_lt_of_pos x h'
        omega
    · have h' : ¬ 0 < y := fun z => h (decide_eq_true z)
      have : y = 0 := by omega
      subst this
      have e2 : x = (Int.gcd t b : Nat) := by rw [← e, Int.gcd_zero_right]; omega
      refine ⟨_, rfl, _, _, rfl, rfl, _, rfl, ite2 (fun h => ?_) (fun h => ?_)⟩
      · have h' : b < 0 := of_decide_eq_true h
        refine ⟨_, rfl, _, rfl, fin _ (some (.int 0)) ?_⟩
        rw [e2]; unfold KM.dv; rw [if_pos h']; rfl
      · have h' : ¬ b < 0 := fun z => h (decide_eq_true z)
        refine fin _ (some (.int 0)) ?_
        rw [e2]; unfold KM.dv; rw [if_neg h']
  · rintro σ H1 Q1 Q2 hq ⟨v, e, i, j, e1, e2, k1, e3, q⟩
    exact ⟨v, e, i, j, e1, e2, k1, e3, hq _ _ q⟩
end
end KK
section
set_option maxHeartbeats 4000000
set_option Elab.async false
set_option linter.all false
set_option maxRecDepth 100000
namespace KK
open PySem L2
def Pool (H : Hp) (p : Addr) : Prop := ∃ a b c : Int, H p = some (.lst [.int a, .int b, .int c])
structure Step (p : Addr) (H H' : Hp) : Prop where
  pool : Pool H' p
  keep : ∀ b o, H b = some o → b ≠ p → H' b = some o
theorem Step.trans {p : Addr} {H H1 H2 : Hp} (a : Step p H H1) (b : Step p H1 H2) : Step p H H2 := ⟨b.pool, fun c o e n => b.keep c o (a.keep c o e n) n⟩
theorem Step.same {p : Addr} {H H1 H2 : Hp} (a : Step p H H1) (b : Same H1 H2) : Step p H H2 := ⟨by obtain ⟨x, y, z, e⟩ := a.pool; exact ⟨x, y, z, b _ _ e⟩, fun c o e n => b c o (a.keep c o e n)⟩
theorem Step.pre {p : Addr} {H H1 H2 : Hp} (b : Step p H1 H2) (a : Same H H1) : Step p H H2 := ⟨b.pool, fun c o e n => b.keep c o (a c o e) n⟩
theorem Pool.new {H : Hp} {p l : Addr} {o : HO} (h : Pool H p) (hl : H l = none) : Pool (upd H l o) p := by obtain ⟨a, b, c, e⟩ := h; exact ⟨a, b, c, Same.upd hl _ _ e⟩
theorem Pool.ne {H : Hp} {p l : Addr} (h : Pool H p) (hl : H l = none) : l ≠ p := by obtain ⟨a, b, c, e⟩ := h; exact (ne_of_none e hl).symm
theorem Step.refl {p : Addr} {H : Hp} (h : Pool H p) : Step p H H := ⟨h, fun _ _ e _ => e⟩
theorem Step.tup {p a : Addr} {H H' : Hp} {xs : List V} (s : Step p H H') (hp : Pool H p) (h : H a = some (.tup xs)) : H' a = some (.tup xs) := by
  obtain ⟨_, _, _, e⟩ := hp
  exact s.keep a _ h (ne_of h e (by intro z; cases z))
theorem Step.rat {p a : Addr} {H H' : Hp} {q : Rat} (s : Step p H H') (hp : Pool H p) (h : RatAt H a q) : RatAt H' a q := s.tup hp h
section
variable {P : Program} {w : World} {K : PySem.W.Frag} {mg : Str → Option Value} {base : Heap}
def spCell (K : PySem.W.Frag) : Sp := fun vs H Q _ => ∃ (a : Addr) (ns : List Int) (k : Int), vs = [.ref a, .int k] ∧ SqL K H a (ns.map V.int) ∧ 0 ≤ k ∧ k < 1000 ∧ ∀ i, Q (.int i) H
theorem sc_cell : FnScope ["script", "k"] ["script", "k"] (defScope s_law_cell) := ⟨rfl, rfl, rfl, by decide +kernel, rfl, by decide +kernel, by decide +kernel⟩
theorem ok_cell (D : Df K mg "_law_cell" s_law_cell ["script", "k"] []) (T : TxB K mg) : Cal P w K mg base "_law_cell" 1 ["script", "k"] [] (spCell K) := by
  refine D.cal (k := 0) sc_cell (fun vs H Q E h => by obtain ⟨a, ns, i, rfl, _⟩ := h; rfl) (fun f cdv A outer s H vs Q E hr h => ?_)
  obtain ⟨a, ns, i, rfl, hS, h0, h1, k⟩ := h
  refine ⟨_, pss_cons (ps_if (pt_cmpR op_lt (pv 1) (pe_callB call_len_seq (by rfl) T.nLen PySem.boot_len (pa_cons (pv 0) pa_nil)) (nomark _)) (pss_one (ps_ret (pe_ix ix_list (pv 0) (pv 1) (fun _ _ => rfl)))) pss_nil)
    (pss_one (ps_ret (pe_op op_add (pe_op op_mul (pe_op op_mul pe_int (pv 1)) (pv 1)) (pe_op op_mul pe_int (pv 1))))), ?_⟩
  refine ⟨_, rfl, _, rfl, a, _, rfl, .inl hS, _, _, rfl, rfl, _, rfl, ite2 (fun h => ?_) (fun h => ?_)⟩
  · have h' : i < ((ns.map V.int).length : Int) := of_decide_eq_true h
    rw [List.length_map] at h'
    have hl : i.toNat < ns.length := by omega
    have e : (ns.map V.int)[i.toNat]? = some (.int ns[i.toNat]) := by rw [List.getElem?_map, List.getElem?_eq_getElem hl]; rfl
    have e2 := atI_nat e
    rw [show ((i.toNat : Nat) : Int) = i by omega] at e2
    exact ⟨_, rfl, _, rfl, a, _, _, _, rfl, rfl, hS, e2, k _⟩
  · exact ⟨_, rfl, _, _, rfl, rfl, .inl ⟨by decide, by decide⟩, _, rfl, _, _, rfl, rfl, .inr ⟨by omega, by omega⟩, _, rfl, _, _, rfl, rfl, .inl ⟨by decide, by decide⟩, _, _, rfl, rfl, k _⟩

def spDig : Sp := fun vs H Q _ => ∃ c : Int, vs = [.int c] ∧ ∀ p H', H p = none → Same H H' → Pool H' p → Q (.ref p) H'
theorem sc_dig : FnScope ["cell"] ["cell"] (defScope s_law_dig) := ⟨rfl, rfl, rfl, by decide +kernel, rfl, by decide +kernel, by decide +kernel⟩
theorem ok_dig (D : Df K mg "_law_dig" s_law_dig ["cell"] []) (T : TxB K mg) : Cal P w K mg base "_law_dig" 1 ["cell"] [] spDig := by
  refine D.cal (k := 0) sc_dig (fun vs H Q E h => by obtain ⟨a, rfl, _⟩ := h; rfl) (fun f cdv A outer s H vs Q E hr h => ?_)
  obtain ⟨c, rfl, k⟩ := h
  refine ⟨_, pss_one (ps_ret (pe_lst (pa_cons (pe_callB (call_max2 rfl) (by rfl) T.nMax PyProof.Rows.boot_max (pa_cons pe_int (pa_cons (pe_op op_sub (pv 0) (pe_op op_pow pe_int pe_int)) pa_nil))) (pa_cons (pe_op op_mod (pv 0) (pe_op op_pow pe_int pe_int)) (pa_cons pe_int pa_nil))))), ?_⟩
  refine ⟨_, rfl, _, _, rfl, rfl, ⟨by decide, by decide, by decide⟩, _, _, rfl, rfl, _, _, rfl, ?_⟩
  refine ⟨_, rfl, _, _, rfl, rfl, ⟨by decide, by decide, by decide⟩, _, _, rfl, rfl, (by show (0 : Int) < 10 ^ 18; decide), (by show 3 ≤ sizeLine; decide), fun p hp => ?_⟩
  exact k p _ hp (Same.upd hp) ⟨_, _, _, upd_same⟩

def spNext : Sp := fun vs H Q _ => ∃ (p : Addr) (n : Int), vs = [.ref p, .int n] ∧ 0 < n ∧ n < 1073741824 ∧ Pool H p ∧ ∀ (d : Int) H', 0 ≤ d → d < n → Step p H H' → Q (.int d) H'
theorem sc_next : FnScope ["pool", "base", "digit", "mixed", "stir"] ["pool", "base"] (defScope s_law_next) := ⟨rfl, rfl, rfl, by decide +kernel, rfl, by decide +kernel, by decide +kernel⟩
theorem step_set {H : Hp} {p : Addr} {a b c : Int} : Step p H (upd H p (.lst [.int a, .int b, .int c])) := ⟨⟨a, b, c, upd_same⟩, fun d o e n => by rw [upd_ne n]; exact e⟩
theorem ok_next (D : Df K mg "_law_next" s_law_next ["pool", "base"] []) : Cal P w K mg base "_law_next" 1 ["pool", "base"] [] spNext := by
  refine D.cal (k := 0) sc_next (fun vs H Q E h => by obtain ⟨a, b, rfl, _⟩ := h; rfl) (fun f cdv A outer s H vs Q E hr h => ?_)
  obtain ⟨p, n, rfl, n0, n1, ⟨a, b, c, hp⟩, k⟩ := h
  refine ⟨_, pss_cons (ps_if (pt_cmpR op_gt (pe_ix ix_list (pv 0) pe_int (fun _ _ => rfl)) pe_int (nomark _))
      (pss_cons (ps_set (i := 2) sc_next.nd rfl (Or.inl rfl) (pe_op op_mod (pe_ix ix_list (pv 0) pe_int (fun _ _ => rfl)) (pv 1)))
      (pss_cons (ps_asg (pe_op op_fdiv (pe_ix ix_list (pv 0) pe_int (fun _ _ => rfl)) (pv 1)) (pg_sub (pv 0) pe_int set_list))
      (pss_one (ps_ret (pv 2))))) pss_nil)
    (pss_cons (ps_asg (pe_op op_add (pe_ix ix_list (pv 0) pe_int (fun _ _ => rfl)) pe_int) (pg_sub (pv 0) pe_int set_list))
    (pss_cons (ps_set (i := 3) sc_next.nd rfl (Or.inl rfl) (pe_op op_mod (pe_op op_add (pe_ix ix_list (pv 0) pe_int (fun _ _ => rfl)) (pe_op op_mul pe_int (pe_ix ix_list (pv 0) pe_int (fun _ _ => rfl)))) pe_int))
    (pss_cons (ps_set (i := 4) sc_next.nd rfl (Or.inl rfl) (pe_op op_mod (pe_op op_mul (pe_op op_add (pv 3) pe_int) (pe_op op_add (pv 3) pe_int)) pe_int))
    (pss_one (ps_ret (pe_op op_mod (pe_op op_fdiv (pe_op op_mod (pe_op op_mul (pv 4) (pv 4)) pe_int) pe_int) (pv 1))))))), ?_⟩
  refine ⟨_, rfl, p, _, _, _, rfl, rfl, .of hp, rfl, _, _, rfl, rfl, _, rfl, ite2 (fun h => ?_) (fun h => ?_)⟩
  · refine ⟨_, rfl, p, _, _, _, rfl, rfl, .of hp, rfl, _, rfl, _, _, rfl, rfl, n0, ?_⟩
    refine ⟨_, rfl, p, _, _, _, rfl, rfl, .of hp, rfl, _, rfl, _, _, rfl, rfl, ⟨n0, n1⟩, ?_⟩
    refine ⟨_, rfl, p, _, _, 0, rfl, rfl, hp, rfl, ?_⟩
    exact ⟨_, rfl, k _ _ (Int.emod_nonneg _ (by omega)) (Int.emod_lt_of_pos _ n0) step_set⟩
  · refine ⟨_, rfl, p, _, _, _, rfl, rfl, .of hp, rfl, _, _, rfl, rfl, ?_⟩
    refine ⟨_, rfl, p, _, _, 2, rfl, rfl, hp, rfl, ?_⟩
    refine ⟨_, rfl, p, _, _, _, rfl, rfl, .of upd_same, rfl, _, rfl, p, _, _, _, rfl, rfl, .of upd_same, rfl, _, _, rfl, rfl, .inl ⟨by decide, by decide⟩, _, _, rfl, rfl, _, _, rfl, rfl, (by show (0 : Int) < 1000000007; decide), ?_⟩
    refine ⟨_, rfl, _, _, rfl, rfl, _, rfl, _, _, rfl, rfl, _, _, rfl, rfl, .inl (by constructor <;> omega), _, _, rfl, rfl, (by show (0 : Int) < 998244353; decide), ?_⟩
    refine ⟨_, rfl, _, rfl, _, _, rfl, rfl, .inl (by constructor <;> omega), _, _, rfl, rfl, (by show (0 : Int) < 2147483647; decide), _, _, rfl, rfl, ⟨by decide, by decide⟩, _, rfl, _, _, rfl, rfl, n0, ?_⟩
    exact k _ _ (Int.emod_nonneg _ (by omega)) (Int.emod_lt_of_pos _ n0) step_set

def spFar : Sp := fun vs H Q _ => ∃ (p : Addr), vs = [.ref p] ∧ Pool H p ∧ ∀ (d : Int) H', 0 ≤ d → d < 1000000000000000000000 → Step p H H' → Q (.int d) H'
theorem sc_far : FnScope ["pool", "found", "k"] ["pool"] (defScope s_law_far) := ⟨rfl, rfl, rfl, by decide +kernel, rfl, by decide +kernel, by decide +kernel⟩
theorem far_step {i : Nat} {f d : Int} (h0 : 0 ≤ f) (h1 : f < 10000000 ^ i) (d0 : 0 ≤ d) (d1 : d < 10000000) : 0 ≤ f * 10 ^ 7 + d ∧ f * 10 ^ 7 + d < 10000000 ^ (i + 1) := by
  have e : (10 : Int) ^ 7 = 10000000 := by decide
  rw [e, Int.pow_succ]
  generalize (10000000 : Int) ^ i = B at *
  omega
theorem ok_far (D : Df K mg "_law_far" s_law_far ["pool"] []) (T : TxB K mg) (cN : Cal P w K mg base "_law_next" 1 ["pool", "base"] [] spNext) : Cal P w K mg base "_law_far" 2 ["pool"] [] spFar := by
  refine D.cal (k := 1) sc_far (fun vs H Q E h => by obtain ⟨a, rfl, _⟩ := h; rfl) (fun f cdv A outer s H vs Q E hr h => ?_)
  obtain ⟨p, rfl, hp, k⟩ := h
  refine ⟨_, pss_cons (ps_set (i := 1) sc_far.nd rfl (Or.inl rfl) pe_int)
    (pss_cons (ps_for PassesOwn.never rfl (pi_range1 rfl T.nRange (pa_cons (pe_op op_add pe_int (pe_c cN hr (pa_cons (pv 0) (pa_cons pe_int pa_nil)))) pa_nil)) (pg_name (i := 2) sc_far.nd rfl (Or.inl rfl))
      (pss_one (ps_set (i := 1) sc_far.nd rfl (Or.inl rfl) (pe_op op_add (pe_op op_mul (pv 1) (pe_op op_pow pe_int pe_int)) (pe_c cN hr (pa_cons (pv 0) (pa_cons (pe_op op_pow pe_int pe_int) pa_nil)))))))
    (pss_one (ps_ret (pv 1)))), ?_⟩
  refine ⟨_, rfl, p, _, rfl, by decide, by decide, hp, fun d H1 d0 d1 s1 => ?_⟩
  refine ⟨_, _, rfl, rfl, _, rfl, (by omega), (by omega), ?_⟩
  have hn : ((1 : Int) + d).toNat ≤ 3 := by omega
  refine for_range (n := ((1 : Int) + d).toNat) (lo := 0) (fun i σ H2 => ∃ (z : Option V) (g : Int), σ = [some (.ref p), some (.int g), z] ∧ 0 ≤ g ∧ g < 10000000 ^ i ∧ Step p H H2) ⟨none, 0, rfl, by decide, by decide, s1⟩ ?_ ?_
  · rintro i σ H2 hi ⟨z, g, rfl, g0, g1, s2⟩
    refine ⟨_, rfl, _, _, rfl, rfl, ⟨by decide, by decide, by decide⟩, _, _, rfl, rfl, .inr ⟨by decide, by decide⟩, ?_⟩
    refine ⟨_, rfl, _, _, rfl, rfl, ⟨by decide, by decide, by decide⟩, p, _, rfl, by decide, by decide, s2.pool, fun e H3 e0 e1 s3 => ?_⟩
    have := far_step g0 g1 e0 e1
    exact ⟨_, _, rfl, rfl, _, _, rfl, this.1, this.2, s2.trans s3⟩
  · rintro σ H2 ⟨z, g, rfl, g0, g1, s2⟩
    refine ⟨_, rfl, k _ _ g0 ?_ s2⟩
    have : ((1 : Int) + d).toNat = 0 ∨ ((1 : Int) + d).toNat = 1 ∨ ((1 : Int) + d).toNat = 2 ∨ ((1 : Int) + d).toNat = 3 := by omega
    have e1 : (10000000 : Int) ^ 0 = 1 := by decide
    have e2 : (10000000 : Int) ^ 1 = 10000000 := by decide
    have e3 : (10000000 : Int) ^ 2 = 100000000000000 := by decide
    have e4 : (10000000 : Int) ^ 3 = 1000000000000000000000 := by decide
    rcases this with z | z | z | z <;> rw [z] at g1 <;> omega

def spRat : Sp := fun vs H Q _ => ∃ (p : Addr), vs = [.ref p] ∧ Pool H p ∧ ∀ (r : Addr) (q : Rat) H', Step p H H' → RatAt H' r q → Sz 80 q → Q (.ref r) H'
theorem sc_rat : FnScope ["pool", "bottom", "top", "way"] ["pool"] (defScope s_law_ratio) := ⟨rfl, rfl, rfl, by decide +kernel, rfl, by decide +kernel, by decide +kernel⟩
theorem menu8 {d : Int} (h0 : 0 ≤ d) (h1 : d < 8) : ∃ v : Int, atI [V.int 1, .int 1, .int 1, .int 2, .int 2, .int 3, .int 4, .int 6] d = some (.int v) ∧ 1 ≤ v ∧ v ≤ 6 := by
  have : d = 0 ∨ d = 1 ∨ d = 2 ∨ d = 3 ∨ d = 4 ∨ d = 5 ∨ d = 6 ∨ d = 7 := by omega
  rcases this with rfl | rfl | rfl | rfl | rfl | rfl | rfl | rfl
  all_goals exact ⟨_, rfl, by decide, by decide⟩
theorem menu2 {d : Int} (h0 : 0 ≤ d) (h1 : d < 2) (x y : V) : ∃ v, atI [x, y] d = some v ∧ (v = x ∨ v = y) := by
  have : d = 0 ∨ d = 1 := by omega
  rcases this with rfl | rfl
  · exact ⟨_, rfl, .inl rfl⟩
  · exact ⟨_, rfl, .inr rfl⟩
theorem ok_rat (D : Df K mg "_law_ratio" s_law_ratio ["pool"] []) (cN : Cal P w K mg base "_law_next" 1 ["pool", "base"] [] spNext) (cF : Cal P w K mg base "_law_far" 2 ["pool"] [] spFar) (cL : Cal P w K mg base "_law_lowest" 1 ["top", "bottom"] [] spLow) :
    Cal P w K mg base "_law_ratio" 3 ["pool"] [] spRat := by
  refine D.cal (k := 2) sc_rat (fun vs H Q E h => by obtain ⟨a, rfl, _⟩ := h; rfl) (fun f cdv A outer s H vs Q E hr h => ?_)
  obtain ⟨p, rfl, hp, k⟩ := h
  have hr1 : Room 1 _ := hr.mono (by decide)
  refine ⟨_, pss_cons (ps_set (i := 1) sc_rat.nd rfl (Or.inl rfl) (pe_ix ix_list (pe_lst (pa_cons pe_int (pa_cons pe_int (pa_cons pe_int (pa_cons pe_int (pa_cons pe_int (pa_cons pe_int (pa_cons pe_int (pa_cons pe_int pa_nil))))))))) (pe_c cN hr1 (pa_cons (pv 0) (pa_cons pe_int pa_nil))) (fun _ _ => rfl)))
    (pss_cons (ps_set (i := 2) sc_rat.nd rfl (Or.inl rfl) (pe_op op_sub (pe_c cN hr1 (pa_cons (pv 0) (pa_cons pe_int pa_nil))) pe_int))
    (pss_cons (ps_set (i := 3) sc_rat.nd rfl (Or.inl rfl) (pe_c cN hr1 (pa_cons (pv 0) (pa_cons pe_int pa_nil))))
    (pss_cons (ps_if (pt_cmpR op_eq (pv 3) pe_int (nomark _))
      (pss_cons (ps_set (i := 2) sc_rat.nd rfl (Or.inl rfl) (pe_op op_mul (pe_c cF hr (pa_cons (pv 0) pa_nil)) (pe_ix ix_list (pe_lst (pa_cons pe_int (pa_cons (pe_un un_neg pe_int) pa_nil))) (pe_c cN hr1 (pa_cons (pv 0) (pa_cons pe_int pa_nil))) (fun _ _ => rfl))))
      (pss_one (ps_set (i := 1) sc_rat.nd rfl (Or.inl rfl) (pe_op op_add pe_int (pe_c cN hr1 (pa_cons (pv 0) (pa_cons pe_int pa_nil))))))) pss_nil)
    (pss_cons (ps_if (pt_cmpR op_eq (pv 3) pe_int (nomark _)) (pss_one (ps_set (i := 2) sc_rat.nd rfl (Or.inl rfl) pe_int)) pss_nil)
    (pss_one (ps_ret (pe_c cL hr1 (pa_cons (pv 2) (pa_cons (pv 1) pa_nil))))))))), ?_⟩
  refine ⟨by show 8 ≤ sizeLine; decide, fun l hl => ?_⟩
  refine ⟨_, rfl, p, _, rfl, by decide, by decide, hp.new hl, fun d H1 d0 d1 s1 => ?_⟩
  obtain ⟨b, eb, b1, b2⟩ := menu8 d0 d1
  refine ⟨l, _, _, _, rfl, rfl, .of (s1.keep l _ upd_same (hp.ne hl)), eb, ?_⟩
  have S1 : Step p H H1 := s1.pre (Same.upd hl)
  refine ⟨_, rfl, p, _, rfl, by decide, by decide, S1.pool, fun d2 H2 e0 e1 s2 => ?_⟩
  refine ⟨_, _, rfl, rfl, ?_⟩
  refine ⟨_, rfl, p, _, rfl, by decide, by decide, s2.pool, fun wy H3 w0 w1 s3 => ?_⟩
  have S3 := S1.trans (s2.trans s3)
  have fin : ∀ (t b : Int) (H4 : Hp) (z : Option V), 1 ≤ b → b ≤ 12 → t.natAbs ≤ 1000000000000000000000 → Step p H H4 → tRet (tCall spLow [] E0 (tCons (tVar 2) (tCons (tVar 1) tNil))) { nx := fun _ H' => Q .non H', rt := Q } [some (.ref p), some (.int b), some (.int t), z] H4 := by
    intro t b H4 z hb1 hb2 ht S4
    have hbb : Bd 80 b := Nat.lt_of_le_of_lt (show b.natAbs ≤ 12 by omega) (by decide)
    have htt : Bd 80 t := Nat.lt_of_le_of_lt ht (by decide)
    refine ⟨_, rfl, _, rfl, _, _, rfl, (by omega), hbb.mono (by decide), fun r H' e h => k r _ H' (S4.same e) h (.divInt (by omega) htt hbb)⟩
  have cont : ∀ (t b : Int) (H4 : Hp), 1 ≤ b → b ≤ 12 → t.natAbs ≤ 1000000000000000000000 → Step p H H4 → tSeq (tIfS (tTest (tOp rEq (tVar 3) (tC (.int 1)))) (tAsg (tC (.int 0)) (gName 2)) tNext) (tRet (tCall spLow [] E0 (tCons (tVar 2) (tCons (tVar 1) tNil)))) { nx := fun _ H' => Q .non H', rt := Q } [some (.ref p), some (.int b), some (.int t), some (.int wy)] H4 := by
    intro t b H4 hb1 hb2 ht S4
    refine ⟨_, rfl, rfl, _, rfl, ite2 (fun _ => ?_) (fun _ => ?_)⟩
    · exact fin 0 b H4 (some (.int wy)) hb1 hb2 (by decide) S4
    · exact fin t b H4 (some (.int wy)) hb1 hb2 ht S4
  refine ⟨_, rfl, rfl, _, rfl, ite2 (fun _ => ?_) (fun _ => ?_)⟩
  · refine ⟨_, rfl, p, rfl, S3.pool, fun g H4 g0 g1 s4 => ?_⟩
    refine ⟨_, rfl, by show 2 ≤ sizeLine; decide, fun l2 hl2 => ?_⟩
    refine ⟨_, rfl, p, _, rfl, by decide, by decide, s4.pool.new hl2, fun d5 H5 f0 f1 s5 => ?_⟩
    obtain ⟨v, ev, hv⟩ := menu2 f0 f1 (V.int 1) (V.int (-1))
    refine ⟨l2, _, _, _, rfl, rfl, .of (s5.keep l2 _ upd_same (s4.pool.ne hl2)), ev, ?_⟩
    have S5 : Step p H H5 := S3.trans (s4.trans (s5.pre (Same.upd hl2)))
    rcases hv with rfl | rfl
    · refine ⟨_, _, rfl, rfl, .inr ⟨by decide, by decide⟩, ?_⟩
      refine ⟨_, rfl, p, _, rfl, by decide, by decide, S5.pool, fun d6 H6 h0 h1 s6 => ?_⟩
      refine ⟨_, _, rfl, rfl, ?_⟩
      exact cont _ _ H6 (by omega) (by omega) (by omega) (S5.trans s6)
    · refine ⟨_, _, rfl, rfl, .inr ⟨by decide, by decide⟩, ?_⟩
      refine ⟨_, rfl, p, _, rfl, by decide, by decide, S5.pool, fun d6 H6 h0 h1 s6 => ?_⟩
      refine ⟨_, _, rfl, rfl, ?_⟩
      exact cont _ _ H6 (by omega) (by omega) (by omega) (S5.trans s6)
  · exact cont _ _ H3 (by omega) (by omega) (by omega) S3
end
end KK
end
section
set_option maxHeartbeats 8000000
set_option Elab.async false
set_option linter.all false
set_option maxRecDepth 100000
namespace L2
open PySem PySem.Spec PyProof.Rows
section
variable {X : Cx}
theorem bx_out {p : Prop} (h : Bx p) : p := by obtain ⟨h⟩ := h; exact h
end
end L2
namespace L2
open PySem PySem.Spec PyProof.Rows
open KM in
theorem Sz.sub {m n : Nat} {x y : Rat} (h : Sz m x) (k : Sz n y) : Sz (m + n + 1) (x - y) := by
  rw [Rat.sub_eq_add_neg]
  exact h.add ⟨by rw [Rat.neg_num]; exact k.1.neg, by rw [Rat.neg_den]; exact k.2⟩
open KM in
theorem Sz.div {m n : Nat} {x y : Rat} (h : Sz m x) (k : Sz n y) (y0 : y ≠ 0) : Sz (m + n) (x / y) := by
  rw [← over_eq]
  exact .divInt (Int.mul_ne_zero (den_ne x) (fun z => y0 (Rat.num_eq_zero.mp z))) (h.1.mul k.2) (h.2.mul k.1)
section
variable {D : Addr} {n : Nat} {js : List Nat} {σ : St} {g : TG} {te : TE} {Z : Hp → Prop} {H : Hp} {N : Nat}
end
end L2
namespace KK
open PySem L2 KM
theorem ix_tupK {X : Cx} {K : PySem.W.Frag} (hK : X.K = K) : IxR X (rIxT K) := by subst hK; exact ix_tup
theorem ix_listK {X : Cx} {K : PySem.W.Frag} (hK : X.K = K) : IxR X (rIxL K) := by subst hK; exact ix_list
theorem bdn {n : Nat} {i : Int} (h0 : 0 ≤ i) (h1 : i < 2 ^ n) : Bd n i := by
  unfold Bd
  have : ((2 ^ n : Nat) : Int) = (2 : Int) ^ n := by push_cast; rfl
  omega
theorem bdz {n : Nat} {i : Int} (h0 : -(2 ^ n) < i) (h1 : i < 2 ^ n) : Bd n i := by
  unfold Bd
  have : ((2 ^ n : Nat) : Int) = (2 : Int) ^ n := by push_cast; rfl
  omega
theorem st_next {D : Ends} {σ : St} {H : Hp} (h : D.nx σ H) : tNext D σ H := h
theorem st_mid {t u : TS} {D : Ends} {σ : St} {H : Hp} (R : St → Hp → Prop) (h2 : ∀ σ' H', R σ' H' → u D σ' H') (h1 : ∀ nx : St → Hp → Prop, (∀ σ' H', R σ' H' → nx σ' H') → t { D with nx := nx } σ H) : tSeq t u D σ H := h1 (u D) h2
theorem step_tups {p : Addr} {H H' : Hp} (hp : Pool H p) (s : Step p H H') : TupS H H' := fun b xs e => s.tup hp e
theorem Step.free {p l : Addr} {H G : Hp} (s : Step p H G) (h : G l = none) : H l = none := by
  cases hh : H l with
  | none => rfl
  | some o =>
    by_cases e : l = p
    · subst e; obtain ⟨_, _, _, z⟩ := s.pool; rw [z] at h; cases h
    · rw [s.keep _ _ hh e] at h; cases h
theorem Step.put {p l : Addr} {H G : Hp} (s : Step p H G) (h : H l = none) (n : l ≠ p) (o : HO) : Step p H (upd G l o) :=
  ⟨by obtain ⟨q1, q2, q3, e⟩ := s.pool; exact ⟨q1, q2, q3, by rw [upd_ne (Ne.symm n)]; exact e⟩, fun b u e m => by rw [upd_ne (fun z => by rw [z, h] at e; cases e)]; exact s.keep b u e m⟩
theorem len1 {α : Type} {xs : List α} (h : xs.length = 1) : ∃ a, xs = [a] := by
  match xs, h with
  | [a], _ => exact ⟨a, rfl⟩
theorem rat_int {H : Hp} {p : Addr} {n : Int} (h : H p = some (.tup [.int n, .int 1])) : RatAt H p (n : Rat) := by
  unfold RatAt rp; rw [int_num, int_den]; exact h
theorem step_same {G0 G1 G' : Hp} {p : Addr} (s : Same G0 G1) (hp : G0 p = none) (t : Step p G1 G') : Same G0 G' := fun b o e => t.keep b o (s b o e) (ne_of_none e hp)
theorem tk_snoc {α : Type} {l : List α} {i : Nat} {x : α} (h : l[i]? = some x) : l.take (i + 1) = l.take i ++ [x] := by rw [List.take_add_one, h]; rfl
theorem vint_dec (i j : Int) : decide (V.int i = V.int j) = decide (i = j) := by
  rw [Bool.eq_iff_iff, decide_eq_true_eq, decide_eq_true_eq]
  exact ⟨fun z => by injection z, fun z => by rw [z]⟩
theorem KPair.sq {K : PySem.W.Frag} {a : Addr} {i j : Int} (h : KPair K a i j) (H : Hp) : SqT K H a [.int i, .int j] := by
  obtain ⟨o, t, u, n, e1, e2, e3⟩ := h
  exact .inr ⟨o, _, n, e1, e2, e3, by show 2 ≤ sizeLine; decide, .cons ⟨_, rfl⟩ (.cons ⟨_, rfl⟩ .nil)⟩
structure TxF (K : PySem.W.Frag) (mg : Str → Option Value) (aN : Addr) : Prop where
  nAll : mg "all" = none
  nList : mg "list" = none
  mn : mg "NOUGHT" = some (.ref aN)
  kn : KPair K aN 0 1
structure Sg where
  i : Int
  j : Int
  v : Rat
  w : Rat
  v2 : Rat
  w2 : Rat
def SgAt (H : Hp) (u : V) (s : Sg) : Prop := ∃ a p q p2 q2, u = .ref a ∧ H a = some (.tup [.int s.i, .int s.j, .ref p, .ref q, .ref p2, .ref q2]) ∧ RatAt H p s.v ∧ RatAt H q s.w ∧ RatAt H p2 s.v2 ∧ RatAt H q2 s.w2
theorem SgAt.tups {H H' : Hp} {u : V} {s : Sg} (h : SgAt H u s) (e : TupS H H') : SgAt H' u s := by
  obtain ⟨a, p, q, p2, q2, h1, h2, h3, h4, h5, h6⟩ := h
  exact ⟨a, p, q, p2, q2, h1, e _ _ h2, e _ _ h3, e _ _ h4, e _ _ h5, e _ _ h6⟩
def SgZ (s : Sg) : Prop := Sz 1500 s.v ∧ Sz 1500 s.w ∧ Sz 1500 s.v2 ∧ Sz 1500 s.w2
def shQ (s : Sg) : Option Rat := if s.v = s.w ∨ s.w2 - s.v2 ≠ s.v - s.w ∨ s.w = s.w2 then none else if 0 < (s.v - s.v2) / (s.w2 - s.w) then some ((s.v - s.v2) / (s.w2 - s.w)) else none
def ORt (H : Hp) (v : V) : Option Rat → Prop
  | none => v = .non
  | some q => ∃ a, v = .ref a ∧ RatAt H a q
theorem ORt.tups {H H' : Hp} {v : V} {o : Option Rat} (h : ORt H v o) (e : TupS H H') : ORt H' v o := by
  cases o with
  | none => exact h
  | some q => obtain ⟨a, e1, e2⟩ := h; exact ⟨a, e1, e _ _ e2⟩
theorem shQ_sz {s : Sg} (z : SgZ s) {q : Rat} (h : shQ s = some q) : Sz 6100 q := by
  unfold shQ at h
  by_cases c : s.v = s.w ∨ s.w2 - s.v2 ≠ s.v - s.w ∨ s.w = s.w2
  · rw [if_pos c] at h; cases h
  · rw [if_neg c] at h
    split at h
    · cases h
      exact ((Sz.sub z.1 z.2.2.1).div (Sz.sub z.2.2.2 z.2.1) (by intro e; exact c (.inr (.inr (by grind))))).mono (by decide)
    · cases h
theorem num_pos' {x : Rat} : 0 < x.num ↔ 0 < x := by
  have h1 : 0 ≤ x.num ↔ 0 ≤ x := Rat.num_nonneg
  have h2 : x.num = 0 ↔ x = 0 := Rat.num_eq_zero
  constructor
  · intro h
    have a := h1.mp (by omega)
    have b : x ≠ 0 := fun e => by have := h2.mpr e; omega
    grind
  · intro h
    have a := h1.mpr (by grind)
    have b : x.num ≠ 0 := fun e => by have := h2.mp e; grind
    omega
theorem mul_sgn (x y : Rat) : x.num * y.num ≤ 0 ↔ ¬ (y ≠ 0 ∧ 0 < x / y) := by
  have h1 : (0 < x.num * y.num) ↔ (y ≠ 0 ∧ 0 < x / y) := by
    have hx : 0 < x.num ↔ 0 < x := num_pos'
    have hy : 0 < y.num ↔ 0 < y := num_pos'
    have hx0 : x.num = 0 ↔ x = 0 := Rat.num_eq_zero
    have hy0 : y.num = 0 ↔ y = 0 := Rat.num_eq_zero
    rcases Int.lt_trichotomy y.num 0 with n | n | n
    · have y0 : y < 0 := by
        rcases Classical.em (0 ≤ y) with z | z
        · have := Rat.num_nonneg.mpr z; omega
        · grind
      have e : 0 < x / y ↔ x < 0 := by
        have : x / y = (-x) / (-y) := by grind
        rw [this, Rat.lt_div_iff (by grind)]
        constructor <;> intro h <;> grind
      rw [e]
      constructor
      · intro h
        refine ⟨by grind, ?_⟩
        rcases Classical.em (0 ≤ x) with z | z
        · have := Rat.num_nonneg.mpr z
          have : x.num * y.num ≤ 0 := Int.mul_nonpos_of_nonneg_of_nonpos this (by omega)
          omega
        · grind
      · rintro ⟨_, h⟩
        have : x.num < 0 := by
          rcases Int.lt_or_le x.num 0 with z | z
          · exact z
          · have := Rat.num_nonneg.mp z; grind
        exact Int.mul_pos_of_neg_of_neg this n
    · rw [n, Int.mul_zero]
      have := hy0.mp n
      constructor
      · intro h; omega
      · intro h; exact absurd this h.1
    · have y0 := hy.mp n
      have e : 0 < x / y ↔ 0 < x := by
        rw [Rat.lt_div_iff y0]
        constructor <;> intro h <;> grind
      rw [e, ← hx]
      constructor
      · intro h
        refine ⟨by grind, ?_⟩
        rcases Int.lt_or_le 0 x.num with z | z
        · exact z
        · have : x.num * y.num ≤ 0 := Int.mul_nonpos_of_nonpos_of_nonneg z (by omega)
          omega
      · rintro ⟨_, h⟩
        exact Int.mul_pos h n
  rw [← h1]
  exact ⟨fun h => by omega, fun h => by omega⟩
end KK
end
section
set_option maxHeartbeats 8000000
set_option Elab.async false
set_option linter.all false
set_option maxRecDepth 100000
namespace KK
open PySem L2 KM
section
variable {P : Program} {w : World} {K : PySem.W.Frag} {mg : Str → Option Value} {base : Heap} {aN : Addr}
theorem lt_dec (x y : Rat) : decide (x.num * y.den < y.num * x.den) = decide (x < y) := by
  rw [Bool.eq_iff_iff, decide_eq_true_eq, decide_eq_true_eq]; exact less_iff x y
def spLtK (K : PySem.W.Frag) : Sp := fun vs H Q _ => ∃ p q x y, vs = [.ref p, .ref q] ∧ SqT K H p (rp x) ∧ SqT K H q (rp y) ∧ Sz 8000 x ∧ Sz 8000 y ∧ Q (.bl (decide (x < y))) H
theorem sc_less : FnScope ["one", "other"] ["one", "other"] (defScope s_less) := ⟨rfl, rfl, rfl, by decide +kernel, rfl, by decide +kernel, by decide +kernel⟩
theorem ok_lessK (D : Df K mg "less" s_less ["one", "other"] []) : Cal P w K mg base "less" 1 ["one", "other"] [] (spLtK K) := by
  refine D.cal (k := 0) sc_less (fun vs H Q E h => by obtain ⟨_, _, _, _, rfl, _⟩ := h; rfl) (fun f cdv A outer s H vs Q E hr h => ?_)
  obtain ⟨p, q, x, y, rfl, hp, hq, hx, hy, k⟩ := h
  have b1 : Bd 1000000 x.num := hx.1.mono (by decide)
  have b2 : Bd 1000000 (x.den : Int) := hx.2.mono (by decide)
  have b3 : Bd 1000000 y.num := hy.1.mono (by decide)
  have b4 : Bd 1000000 (y.den : Int) := hy.2.mono (by decide)
  refine ⟨_, (pss_one (ps_ret (pe_cmpR op_lt (pe_op op_mulB (pe_ix ix_tup (pv 0) pe_int (fun _ _ => rfl)) (pe_ix ix_tup (pv 1) pe_int (fun _ _ => rfl))) (pe_op op_mulB (pe_ix ix_tup (pv 1) pe_int (fun _ _ => rfl)) (pe_ix ix_tup (pv 0) pe_int (fun _ _ => rfl))) (nomark _)))), ?_⟩
  refine ⟨_, rfl, p, _, _, _, rfl, rfl, hp, at0 .., _, rfl, q, _, _, _, rfl, rfl, hq, at1 .., _, _, rfl, rfl, ⟨b1, b4⟩, _, rfl, q, _, _, _, rfl, rfl, hq, at0 .., _, rfl, p, _, _, _, rfl, rfl, hp, at1 .., _, _, rfl, rfl, ⟨b3, b2⟩, _, _, rfl, rfl, ?_⟩
  show Q (.bl (decide (x.num * y.den < y.num * x.den))) H
  rw [lt_dec]; exact k
theorem sc_minus : FnScope ["one", "other"] ["one", "other"] (defScope s_minus) := ⟨rfl, rfl, rfl, by decide +kernel, rfl, by decide +kernel, by decide +kernel⟩
theorem ok_minus (D : Df K mg "minus" s_minus ["one", "other"] []) (c : Cal P w K mg base "ratio" 2 ["top", "bottom"] [] spLow) : Cal P w K mg base "minus" 3 ["one", "other"] [] (spBin Sz2 (· - ·)) := by
  refine D.cal (k := 2) sc_minus (fun vs H Q E h => by obtain ⟨_, _, _, _, rfl, _⟩ := h; rfl) (fun f cdv A outer s H vs Q E hr h => ?_)
  obtain ⟨p, q, x, y, rfl, hp, hq, ⟨hx, hy⟩, k⟩ := h
  have bx := Bd4 hx
  have b_y := Bd4 hy
  refine ⟨_, (pss_one (ps_ret (pe_c c hr (pa_cons (pe_op op_sub (pe_op op_mulB (pe_ix ix_tup (pv 0) pe_int (fun _ _ => rfl)) (pe_ix ix_tup (pv 1) pe_int (fun _ _ => rfl))) (pe_op op_mulB (pe_ix ix_tup (pv 1) pe_int (fun _ _ => rfl)) (pe_ix ix_tup (pv 0) pe_int (fun _ _ => rfl)))) (pa_cons (pe_op op_mulB (pe_ix ix_tup (pv 0) pe_int (fun _ _ => rfl)) (pe_ix ix_tup (pv 1) pe_int (fun _ _ => rfl))) pa_nil))))), ?_⟩
  refine ⟨_, rfl, p, _, _, _, rfl, rfl, .of hp, at0 .., _, rfl, q, _, _, _, rfl, rfl, .of hq, at1 .., _, _, rfl, rfl, ⟨bx.1, b_y.2⟩, _, rfl, q, _, _, _, rfl, rfl, .of hq, at0 .., _, rfl, p, _, _, _, rfl, rfl, .of hp, at1 .., _, _, rfl, rfl, ⟨b_y.1, bx.2⟩, _, _, rfl, rfl, ?_⟩
  refine ⟨_, rfl, p, _, _, _, rfl, rfl, .of hp, at1 .., _, rfl, q, _, _, _, rfl, rfl, .of hq, at1 .., _, _, rfl, rfl, ⟨bx.2, b_y.2⟩, ?_⟩
  refine ⟨_, _, rfl, Int.mul_ne_zero (den_ne x) (den_ne y), (hx.2.mul hy.2).mono (by decide), fun r H' e h => k r H' e ?_⟩
  show RatAt H' r (x - y)
  rw [← KM.minus_eq]; exact h
def spSh : Sp := fun vs H Q _ => ∃ u s, vs = [u] ∧ SgAt H u s ∧ SgZ s ∧ ∀ v H', Same H H' → ORt H' v (shQ s) → Q v H'
theorem sc_sh : FnScope ["sighting", "i", "j", "v", "w", "v2", "w2", "share"] ["sighting"] (defScope s_share_of) := ⟨rfl, rfl, rfl, by decide +kernel, rfl, by decide +kernel, by decide +kernel⟩
theorem eqv_r (x y : Rat) : PyData.eqv (.tuple [.int x.num, .int (x.den : Int)]) (.tuple [.int y.num, .int (y.den : Int)]) = decide (x = y) := eqv_rp x y
theorem ok_sh (D : Df K mg "share_of" s_share_of ["sighting"] []) (TF : TxF K mg aN) (cM : Cal P w K mg base "minus" 3 ["one", "other"] [] (spBin Sz2 (· - ·))) (cO : Cal P w K mg base "over" 3 ["one", "other"] [] (spBin (fun x y => Sz2 x y ∧ y ≠ 0) (· / ·))) (cLs : Cal P w K mg base "less" 1 ["one", "other"] [] (spLtK K)) : Cal P w K mg base "share_of" 4 ["sighting"] [] spSh := by
  refine D.calB (k := 3) sc_sh (fun vs H Q E h => by obtain ⟨_, _, rfl, _⟩ := h; rfl) (fun f cdv A outer s H vs Q E hr h => ?_)
  obtain ⟨u, g, rfl, ⟨a, p, q, p2, q2, rfl, ha, hp, hq, hp2, hq2⟩, ⟨z1, z2, z3, z4⟩, k⟩ := h
  have hr1 : Room 1 _ := hr.mono (by decide)
  have hu := hr.units
  have zz : ∀ {x y : Rat}, Sz 1500 x → Sz 1500 y → Sz2 x y := fun h h' => ⟨h.mono (by decide), h'.mono (by decide)⟩
  refine ⟨_, (bx_scons (Bx.mk (ps_asg (pv 0) (pg_tup rfl (pgs_cons (pg_name (i := 1) sc_sh.nd rfl (Or.inl rfl)) (pgs_cons (pg_name (i := 2) sc_sh.nd rfl (Or.inl rfl)) (pgs_cons (pg_name (i := 3) sc_sh.nd rfl (Or.inl rfl)) (pgs_cons (pg_name (i := 4) sc_sh.nd rfl (Or.inl rfl)) (pgs_cons (pg_name (i := 5) sc_sh.nd rfl (Or.inl rfl)) (pgs_cons (pg_name (i := 6) sc_sh.nd rfl (Or.inl rfl)) pgs_nil)))))))))
    (bx_scons (Bx.mk (ps_if (pw_or (pt_cmpR (op_eqD hu) (pv 3) (pv 4) (nomark _)) (pw_or (pt_cmpR (op_neD hu) (pe_c cM hr (pa_cons (pv 6) (pa_cons (pv 5) pa_nil))) (pe_c cM hr (pa_cons (pv 3) (pa_cons (pv 4) pa_nil))) (nomark _)) (pw_or1 (pt_cmpR (op_eqD hu) (pv 4) (pv 6) (nomark _))))).pt (pss_one (ps_ret pe_non)) pss_nil))
    (bx_scons (Bx.mk (ps_set (i := 7) sc_sh.nd rfl (Or.inl rfl) (pe_c cO hr (pa_cons (pe_c cM hr (pa_cons (pv 3) (pa_cons (pv 5) pa_nil))) (pa_cons (pe_c cM hr (pa_cons (pv 6) (pa_cons (pv 4) pa_nil))) pa_nil)))))
    (Bx.mk (pss_one (ps_ret (pe_ifExp (pt_truth (pe_c cLs hr1 (pa_cons (pe_glob (v := .ref aN) (by rfl) TF.mn rfl) (pa_cons (pv 7) pa_nil))) fun _ => rfl) (pv 7) pe_non))))))), ?_⟩
  refine ⟨_, rfl, a, _, rfl, .of ha, rfl, _, _, rfl, _, _, rfl, _, _, rfl, _, _, rfl, _, _, rfl, _, _, rfl, rfl, ?_⟩
  refine ⟨_, rfl, _, rfl, _, _, hp.rd, hq.rd, shaped_rp _, shaped_rp _, _, rfl, ?_⟩
  rw [eqv_r]
  by_cases c1 : g.v = g.w
  · rw [decide_eq_true c1]
    refine iteT (iteT (k .non H (Same.refl _) ?_))
    unfold shQ; rw [if_pos (.inl c1)]; rfl
  rw [decide_eq_false c1]
  refine iteF ?_
  refine ⟨_, rfl, _, rfl, q2, p2, _, _, rfl, hq2, hp2, zz z4 z3, fun r1 H1 e1 h1 => ?_⟩
  refine ⟨_, rfl, _, rfl, p, q, _, _, rfl, hp.same e1, hq.same e1, zz z1 z2, fun r2 H2 e2 h2 => ?_⟩
  have S2 := e1.trans e2
  refine ⟨_, _, RatAt.rd (e2 _ _ h1), h2.rd, shaped_rp _, shaped_rp _, _, rfl, ?_⟩
  rw [eqv_r]
  by_cases c2 : g.w2 - g.v2 = g.v - g.w
  rotate_left
  · rw [decide_eq_false c2]
    refine iteT (iteT (k .non H2 S2 ?_))
    unfold shQ; rw [if_pos (.inr (.inl c2))]; rfl
  rw [decide_eq_true c2]
  refine iteF ?_
  refine ⟨_, rfl, _, rfl, _, _, RatAt.rd (S2 _ _ hq), RatAt.rd (S2 _ _ hq2), shaped_rp _, shaped_rp _, _, rfl, ?_⟩
  rw [eqv_r]
  by_cases c3 : g.w = g.w2
  · rw [decide_eq_true c3]
    refine iteT (k .non H2 S2 ?_)
    unfold shQ; rw [if_pos (.inr (.inr c3))]; rfl
  rw [decide_eq_false c3]
  refine iteF ?_
  have n0 : g.w2 - g.w ≠ 0 := by grind
  have cn : ¬ (g.v = g.w ∨ g.w2 - g.v2 ≠ g.v - g.w ∨ g.w = g.w2) := by
    rintro (z | z | z)
    · exact c1 z
    · exact z c2
    · exact c3 z
  refine ⟨_, rfl, _, rfl, p, p2, _, _, rfl, S2 _ _ hp, S2 _ _ hp2, zz z1 z3, fun r3 H3 e3 h3 => ?_⟩
  have S3 := S2.trans e3
  refine ⟨_, rfl, _, rfl, q2, q, _, _, rfl, S3 _ _ hq2, S3 _ _ hq, zz z4 z2, fun r4 H4 e4 h4 => ?_⟩
  have zl := Sz.sub z1 z3
  have zw := Sz.sub z4 z2
  refine ⟨r3, r4, _, _, rfl, e4 _ _ h3, h4, ⟨⟨zl.mono (by decide), zw.mono (by decide)⟩, n0⟩, fun r5 H5 e5 h5 => ?_⟩
  have S5 := S3.trans (e4.trans e5)
  dsimp only [gName]
  have zq : Sz 6100 ((g.v - g.v2) / (g.w2 - g.w)) := (zl.div zw n0).mono (by decide)
  have z0 : Sz 8000 (0 : Rat) := Sz.mono (m := 1) ⟨show (0 : Int).natAbs < 2 ^ 1 by decide, show (1 : Int).natAbs < 2 ^ 1 by decide⟩ (by decide)
  refine ⟨_, rfl, aN, r5, 0, _, rfl, KPair.sq TF.kn H5, .of h5, z0, zq.mono (by decide), _, rfl, ?_⟩
  by_cases c4 : 0 < (g.v - g.v2) / (g.w2 - g.w)
  · rw [decide_eq_true c4]
    refine iteT ⟨_, rfl, k _ H5 S5 ?_⟩
    unfold shQ; rw [if_neg cn, if_pos c4]; exact ⟨r5, rfl, h5⟩
  · rw [decide_eq_false c4]
    refine iteF (k .non H5 S5 ?_)
    unfold shQ; rw [if_neg cn, if_neg c4]; rfl
theorem sc_mi : FnScope ["one", "other"] ["one", "other"] (defScope s_law_minus) := ⟨rfl, rfl, rfl, by decide +kernel, rfl, by decide +kernel, by decide +kernel⟩
def Sz3 (x y : Rat) : Prop := Sz 3900 x ∧ Sz 3900 y
theorem ok_mi (D : Df K mg "_law_minus" s_law_minus ["one", "other"] []) (cS : Cal P w K mg base "_law_sum" 2 ["one", "other"] [] (spBin Sz2 (· + ·))) (cPr : Cal P w K mg base "_law_product" 2 ["one", "other"] [] (spBin Sz2 (· * ·))) : Cal P w K mg base "_law_minus" 3 ["one", "other"] [] (spBin Sz3 (· - ·)) := by
  refine D.cal (k := 2) sc_mi (fun vs H Q E h => by obtain ⟨_, _, _, _, rfl, _⟩ := h; rfl) (fun f cdv A outer s H vs Q E hr h => ?_)
  obtain ⟨p, q, x, y, rfl, hp, hq, ⟨hx, hy⟩, k⟩ := h
  refine ⟨_, (pss_one (ps_ret (pe_c cS hr (pa_cons (pv 0) (pa_cons (pe_c cPr hr (pa_cons (pv 1) (pa_cons (pe_tup (pa_cons (pe_un un_neg pe_int) (pa_cons pe_int pa_nil))) pa_nil))) pa_nil))))), ?_⟩
  refine ⟨_, rfl, _, rfl, _, rfl, by show 2 ≤ sizeLine; decide, fun t ht => ?_⟩
  have s1 := Same.upd (o := .tup [.int (-1), .int 1]) ht
  have z1 : Sz 2 (((-1 : Int) : Rat)) := Sz.int (show (-1 : Int).natAbs < 2 ^ 2 by decide) (by decide)
  refine ⟨q, t, _, _, rfl, s1 _ _ hq, rat_int upd_same, ⟨hy.mono (by decide), z1.mono (by decide)⟩, fun r1 H1 e1 h1 => ?_⟩
  refine ⟨p, r1, _, _, rfl, e1 _ _ (s1 _ _ hp), h1, ⟨hx.mono (by decide), (hy.mul z1).mono (by decide)⟩, fun r2 H2 e2 h2 => k r2 H2 (s1.trans (e1.trans e2)) ?_⟩
  have e : x + y * (((-1 : Int)) : Rat) = x - y := by
    have : (((-1 : Int)) : Rat) = -1 := by rfl
    rw [this]; grind
  show RatAt H2 r2 (x - y)
  rw [← e]; exact h2
theorem sc_ls : FnScope ["sighting", "i", "j", "v", "w", "v2", "w2", "lost", "won"] ["sighting"] (defScope s_law_share) := ⟨rfl, rfl, rfl, by decide +kernel, rfl, by decide +kernel, by decide +kernel⟩
theorem ok_ls (D : Df K mg "_law_share" s_law_share ["sighting"] []) (cMi : Cal P w K mg base "_law_minus" 3 ["one", "other"] [] (spBin Sz3 (· - ·))) (cL : Cal P w K mg base "_law_lowest" 1 ["top", "bottom"] [] spLow) : Cal P w K mg base "_law_share" 4 ["sighting"] [] spSh := by
  refine D.calB (k := 3) sc_ls (fun vs H Q E h => by obtain ⟨_, _, rfl, _⟩ := h; rfl) (fun f cdv A outer s H vs Q E hr h => ?_)
  obtain ⟨u, g, rfl, ⟨a, p, q, p2, q2, rfl, ha, hp, hq, hp2, hq2⟩, ⟨z1, z2, z3, z4⟩, k⟩ := h
  have hr1 : Room 1 _ := hr.mono (by decide)
  have hu := hr.units
  have zz : ∀ {x y : Rat}, Sz 1500 x → Sz 1500 y → Sz3 x y := fun h h' => ⟨h.mono (by decide), h'.mono (by decide)⟩
  refine ⟨_, (bx_scons (Bx.mk (ps_asg (pv 0) (pg_tup rfl (pgs_cons (pg_name (i := 1) sc_ls.nd rfl (Or.inl rfl)) (pgs_cons (pg_name (i := 2) sc_ls.nd rfl (Or.inl rfl)) (pgs_cons (pg_name (i := 3) sc_ls.nd rfl (Or.inl rfl)) (pgs_cons (pg_name (i := 4) sc_ls.nd rfl (Or.inl rfl)) (pgs_cons (pg_name (i := 5) sc_ls.nd rfl (Or.inl rfl)) (pgs_cons (pg_name (i := 6) sc_ls.nd rfl (Or.inl rfl)) pgs_nil)))))))))
    (bx_scons (Bx.mk (ps_set (i := 7) sc_ls.nd rfl (Or.inl rfl) (pe_c cMi hr (pa_cons (pv 3) (pa_cons (pv 5) pa_nil)))))
    (bx_scons (Bx.mk (ps_set (i := 8) sc_ls.nd rfl (Or.inl rfl) (pe_c cMi hr (pa_cons (pv 6) (pa_cons (pv 4) pa_nil)))))
    (bx_scons (Bx.mk (ps_if (pw_or (pt_cmpR (op_eqD hu) (pv 3) (pv 4) (nomark _)) (pw_or (pt_cmpR (op_neD hu) (pe_c cMi hr (pa_cons (pv 6) (pa_cons (pv 5) pa_nil))) (pe_c cMi hr (pa_cons (pv 3) (pa_cons (pv 4) pa_nil))) (nomark _)) (pw_or1 (pt_cmpR op_le (pe_op op_mulB (pe_ix ix_tup (pv 7) pe_int (fun _ _ => rfl)) (pe_ix ix_tup (pv 8) pe_int (fun _ _ => rfl))) pe_int (nomark _))))).pt (pss_one (ps_ret pe_non)) pss_nil))
    (Bx.mk (pss_one (ps_ret (pe_c cL hr1 (pa_cons (pe_op op_mulB (pe_ix ix_tup (pv 7) pe_int (fun _ _ => rfl)) (pe_ix ix_tup (pv 8) pe_int (fun _ _ => rfl))) (pa_cons (pe_op op_mulB (pe_ix ix_tup (pv 7) pe_int (fun _ _ => rfl)) (pe_ix ix_tup (pv 8) pe_int (fun _ _ => rfl))) pa_nil)))))))))), ?_⟩
  refine ⟨_, rfl, a, _, rfl, .of ha, rfl, _, _, rfl, _, _, rfl, _, _, rfl, _, _, rfl, _, _, rfl, _, _, rfl, rfl, ?_⟩
  refine ⟨_, rfl, _, rfl, p, p2, _, _, rfl, hp, hp2, zz z1 z3, fun rl H1 e1 hl => ?_⟩
  dsimp only [gName]
  refine ⟨_, rfl, _, rfl, q2, q, _, _, rfl, e1 _ _ hq2, e1 _ _ hq, zz z4 z2, fun rw' H2 e2 hw => ?_⟩
  dsimp only [gName]
  have S2 := e1.trans e2
  have hl2 : RatAt H2 rl (g.v - g.v2) := e2 _ _ hl
  refine ⟨_, rfl, _, rfl, _, _, RatAt.rd (S2 _ _ hp), RatAt.rd (S2 _ _ hq), shaped_rp _, shaped_rp _, _, rfl, ?_⟩
  rw [eqv_r]
  by_cases c1 : g.v = g.w
  · rw [decide_eq_true c1]
    refine iteT (iteT (k .non H2 S2 ?_))
    unfold shQ; rw [if_pos (.inl c1)]; rfl
  rw [decide_eq_false c1]
  refine iteF ?_
  refine ⟨_, rfl, _, rfl, q2, p2, _, _, rfl, S2 _ _ hq2, S2 _ _ hp2, zz z4 z3, fun r1 H3 e3 h1 => ?_⟩
  have S3 := S2.trans e3
  refine ⟨_, rfl, _, rfl, p, q, _, _, rfl, S3 _ _ hp, S3 _ _ hq, zz z1 z2, fun r2 H4 e4 h2 => ?_⟩
  have S4 := S3.trans e4
  refine ⟨_, _, RatAt.rd (e4 _ _ h1), h2.rd, shaped_rp _, shaped_rp _, _, rfl, ?_⟩
  rw [eqv_r]
  by_cases c2 : g.w2 - g.v2 = g.v - g.w
  rotate_left
  · rw [decide_eq_false c2]
    refine iteT (iteT (k .non H4 S4 ?_))
    unfold shQ; rw [if_pos (.inr (.inl c2))]; rfl
  rw [decide_eq_true c2]
  refine iteF ?_
  have hl4 : RatAt H4 rl (g.v - g.v2) := e4 _ _ (e3 _ _ hl2)
  have hw4 : RatAt H4 rw' (g.w2 - g.w) := e4 _ _ (e3 _ _ hw)
  have zl := Sz.sub z1 z3
  have zw := Sz.sub z4 z2
  have bl1 : Bd 1000000 (g.v - g.v2).num := zl.1.mono (by decide)
  have bl2 : Bd 1000000 ((g.v - g.v2).den : Int) := zl.2.mono (by decide)
  have bw1 : Bd 1000000 (g.w2 - g.w).num := zw.1.mono (by decide)
  have bw2 : Bd 1000000 ((g.w2 - g.w).den : Int) := zw.2.mono (by decide)
  refine ⟨_, rfl, rl, _, _, _, rfl, rfl, .of hl4, at0 .., _, rfl, rw', _, _, _, rfl, rfl, .of hw4, at0 .., _, _, rfl, rfl, ⟨bl1, bw1⟩, _, _, rfl, rfl, _, rfl, ?_⟩
  by_cases c3 : (g.v - g.v2).num * (g.w2 - g.w).num ≤ 0
  · have c4 := (mul_sgn _ _).mp c3
    rw [show decide ((g.v - g.v2).num * (g.w2 - g.w).num ≤ 0) = true from decide_eq_true c3]
    refine iteT (k .non H4 S4 ?_)
    unfold shQ
    by_cases c5 : g.w = g.w2
    · rw [if_pos (.inr (.inr c5))]; rfl
    · rw [if_neg (by rintro (z | z | z); exact c1 z; exact z c2; exact c5 z), if_neg (fun z => c4 ⟨by grind, z⟩)]; rfl
  · have c4 : g.w2 - g.w ≠ 0 ∧ 0 < (g.v - g.v2) / (g.w2 - g.w) := Classical.byContradiction fun z => c3 ((mul_sgn _ _).mpr z)
    rw [show decide ((g.v - g.v2).num * (g.w2 - g.w).num ≤ 0) = false from decide_eq_false c3]
    refine iteF ?_
    refine ⟨_, rfl, rl, _, _, _, rfl, rfl, .of hl4, at0 .., _, rfl, rw', _, _, _, rfl, rfl, .of hw4, at1 .., _, _, rfl, rfl, ⟨bl1, bw2⟩, _, rfl, rl, _, _, _, rfl, rfl, .of hl4, at1 .., _, rfl, rw', _, _, _, rfl, rfl, .of hw4, at0 .., _, _, rfl, rfl, ⟨bl2, bw1⟩, ?_⟩
    refine ⟨_, _, rfl, Int.mul_ne_zero (den_ne _) (fun z => c4.1 (Rat.num_eq_zero.mp z)), (zl.2.mul zw.1).mono (by decide), fun r5 H5 e5 h5 => k _ H5 (S4.trans e5) ?_⟩
    unfold shQ
    rw [if_neg (by rintro (z | z | z); exact c1 z; exact z c2; exact c4.1 (by grind)), if_pos c4.2]
    refine ⟨r5, rfl, ?_⟩
    show RatAt H5 r5 ((g.v - g.v2) / (g.w2 - g.w))
    rw [← KM.over_eq]; exact h5
end
end KK
end
section
set_option maxHeartbeats 8000000
set_option Elab.async false
set_option linter.all false
set_option maxRecDepth 100000
namespace L2
open PySem PySem.Spec PyProof.Rows
theorem compC_byZ {J : It} {D : Addr} {N n : Nat} {js : List Nat} {σ : St} {g : TG} {tt : TT} {te : TE} {Z : Hp → Prop} {H : Hp} (Pv : Nat → Hp → List V → Prop) (h0 : Pv 0 (upd H D (.lst [])) []) (hgo : ∀ i H ys, i < N → Pv i H ys → J.go i H) (hst : ∀ H ys, Pv N H ys → J.stop N H)
    (hs : ∀ i x zs H2 H3 ys (Nx : Hp → List V → Prop), (∀ H ys, Pv (i + 1) H ys → Nx H ys) → i < N → zs.length = n → J.yld i H2 x H3 → Pv i H2 ys → H2 D = some (.lst ys) → g x (zs ++ caps σ js) H3 fun σ4 H4 => σ4.drop n = caps σ js ∧ tt σ4 H4 fun b H5 =>
      if b = true then te σ4 H5 (fun v H6 => H6 D = some (.lst ys) ∧ ys.length < sizeLine ∧ Nx (upd H6 D (.lst (ys ++ [v]))) (ys ++ [v])) else H5 D = some (.lst ys) ∧ Nx H5 ys)
    (hd : ∀ H ys, Pv N H ys → H D = some (.lst ys) → Z H) :
    ∃ W : Nat → Nat → Hp → List V → Prop, (∃ m, W 0 m (upd H D (.lst [])) []) ∧ ∀ i m H2 ys, W i m H2 ys → H2 D = some (.lst ys) → (J.stop i H2 ∧ Z H2) ∨
      (J.go i H2 ∧ ∀ zs x H3, zs.length = n → J.yld i H2 x H3 → g x (zs ++ caps σ js) H3 fun σ4 H4 => σ4.drop n = caps σ js ∧ tt σ4 H4 fun b H5 => if b = true then te σ4 H5 (fun v H6 => H6 D = some (.lst ys) ∧ ys.length < sizeLine ∧ ∃ m', m' < m ∧ W (i + 1) m' (upd H6 D (.lst (ys ++ [v]))) (ys ++ [v]))
        else H5 D = some (.lst ys) ∧ ∃ m', m' < m ∧ W (i + 1) m' H5 ys) := compC_by (Q := fun _ H => Z H) Pv h0 hgo hst hs hd
end L2
namespace KK
open PySem L2 KM
def SgY (s : Sg) : Prop := Sz 100 s.v ∧ Sz 100 s.w ∧ Sz 400 s.v2 ∧ Sz 400 s.w2
theorem SgY.z {s : Sg} (h : SgY s) : SgZ s := ⟨h.1.mono (by decide), h.2.1.mono (by decide), h.2.2.1.mono (by decide), h.2.2.2.mono (by decide)⟩
theorem sz_qq {t b : Int} {n : Nat} (h0 : -(2 ^ n) < t) (h1 : t < 2 ^ n) (b0 : 0 < b) (b1 : b < 2 ^ n) : Sz n (Rat.divInt t b) := .divInt (by omega) (bdz h0 h1) (bdn (by omega) b1)
section
variable {P : Program} {w : World} {K : PySem.W.Frag} {mg : Str → Option Value} {base : Heap} {aN : Addr}
def meS (i j a b : Int) (x y : Rat) : Sg := ⟨i, j, x, y, x - (x - y) * Rat.divInt (2 * b) (a + b), y + (x - y) * Rat.divInt (2 * a) (a + b)⟩
theorem me_share {i j a b : Int} {x y : Rat} (ha : 1 ≤ a) (hb : 1 ≤ b) (h : x ≠ y) : shQ (meS i j a b x y) = some ((b : Rat) / (a : Rat)) := by
  have pa : (0 : Rat) < (a : Rat) := by have : (0 : Int) < a := by omega
                                        exact_mod_cast this
  have pb : (0 : Rat) < (b : Rat) := by have : (0 : Int) < b := by omega
                                        exact_mod_cast this
  have hs : ((a : Rat) + (b : Rat)) ≠ 0 := by grind
  have e1 : Rat.divInt (2 * b) (a + b) = 2 * (b : Rat) / ((a : Rat) + (b : Rat)) := by rw [Rat.divInt_eq_div]; push_cast; rfl
  have e2 : Rat.divInt (2 * a) (a + b) = 2 * (a : Rat) / ((a : Rat) + (b : Rat)) := by rw [Rat.divInt_eq_div]; push_cast; rfl
  unfold shQ meS
  dsimp only
  rw [e1, e2]
  have hg : x - y ≠ 0 := by grind
  have q1 : y + (x - y) * (2 * (a : Rat) / ((a : Rat) + (b : Rat))) - (x - (x - y) * (2 * (b : Rat) / ((a : Rat) + (b : Rat)))) = x - y := by grind
  have q2 : (x - y) * (2 * (a : Rat) / ((a : Rat) + (b : Rat))) ≠ 0 := by grind
  have q3 : (x - (x - (x - y) * (2 * (b : Rat) / ((a : Rat) + (b : Rat))))) / (y + (x - y) * (2 * (a : Rat) / ((a : Rat) + (b : Rat))) - y) = (b : Rat) / (a : Rat) := by grind
  have q4 : (0 : Rat) < (b : Rat) / (a : Rat) := by rw [Rat.div_def]; exact Rat.mul_pos pb (Rat.inv_pos.mpr pa)
  rw [if_neg (by
    rintro (z | z | z)
    · exact h z
    · exact z q1
    · exact q2 (by grind)), q3, if_pos q4]
theorem div_ne {t u : Int} (ht : t ≠ 0) (hu : u ≠ 0) : Rat.divInt t u ≠ 0 := fun z => by
  rw [Rat.divInt_eq_div] at z
  have hu' : (u : Rat) ≠ 0 := fun y => hu (by exact_mod_cast y)
  have h2 := congrArg (· * (u : Rat)) z
  simp only [Rat.div_mul_cancel hu', Rat.zero_mul] at h2
  exact ht (by exact_mod_cast h2)
theorem mod_ne {i d N : Int} (h0 : 0 ≤ i) (h1 : i < N) (d0 : 0 ≤ d) (d1 : d < N - 1) : i ≠ (i + 1 + d) % N := by
  rcases Int.lt_or_le (i + 1 + d) N with h | h
  · rw [Int.emod_eq_of_lt (by omega) h]; omega
  · rw [← Int.sub_emod_right, Int.emod_eq_of_lt (by omega) (by omega)]; omega
def spMe : Sp := fun vs H Q _ => ∃ (i j a b : Int) (p q : Addr) (x y : Rat), vs = [.int i, .int j, .int a, .int b, .ref p, .ref q] ∧ 1 ≤ a ∧ a ≤ 1000 ∧ 1 ≤ b ∧ b ≤ 1000 ∧ RatAt H p x ∧ RatAt H q y ∧ Sz 80 x ∧ Sz 90 y ∧ ∀ t s H', Same H H' → SgAt H' (.ref t) s → SgY s → s = meS i j a b x y → Q (.ref t) H'
theorem sc_me : FnScope ["i", "j", "one", "other", "v", "w", "gap", "v2", "w2"] ["i", "j", "one", "other", "v", "w"] (defScope s_law_meeting) := ⟨rfl, rfl, rfl, by decide +kernel, rfl, by decide +kernel, by decide +kernel⟩
theorem ok_me (D : Df K mg "_law_meeting" s_law_meeting ["i", "j", "one", "other", "v", "w"] []) (cMi : Cal P w K mg base "_law_minus" 3 ["one", "other"] [] (spBin Sz3 (· - ·))) (cS : Cal P w K mg base "_law_sum" 2 ["one", "other"] [] (spBin Sz2 (· + ·))) (cPr : Cal P w K mg base "_law_product" 2 ["one", "other"] [] (spBin Sz2 (· * ·)))
    (cL : Cal P w K mg base "_law_lowest" 1 ["top", "bottom"] [] spLow) : Cal P w K mg base "_law_meeting" 4 ["i", "j", "one", "other", "v", "w"] [] spMe := by
  refine D.cal (k := 3) sc_me (fun vs H Q E h => by obtain ⟨_, _, _, _, _, _, _, _, rfl, _⟩ := h; rfl) (fun f cdv A outer s H vs Q E hr h => ?_)
  obtain ⟨i, j, a, b, p, q, x, y, rfl, a1, a2, b1, b2, hp, hq, zx, zy, k⟩ := h
  have hr1 : Room 1 _ := hr.mono (by decide)
  have hr2 : Room 2 _ := hr.mono (by decide)
  have bd : ∀ i : Int, 0 ≤ i → i < 2 ^ 12 → Bd 1000000 i := fun i h0 h1 => Bd.mono (m := 12) (bdn h0 h1) (by decide)
  refine ⟨_, (pss_cons (ps_set (i := 6) sc_me.nd rfl (Or.inl rfl) (pe_c cMi hr (pa_cons (pv 4) (pa_cons (pv 5) pa_nil))))
    (pss_cons (ps_set (i := 7) sc_me.nd rfl (Or.inl rfl) (pe_c cMi hr (pa_cons (pv 4) (pa_cons (pe_c cPr hr2 (pa_cons (pv 6) (pa_cons (pe_c cL hr1 (pa_cons (pe_op op_mulB pe_int (pv 3)) (pa_cons (pe_op op_add (pv 2) (pv 3)) pa_nil))) pa_nil))) pa_nil))))
    (pss_cons (ps_set (i := 8) sc_me.nd rfl (Or.inl rfl) (pe_c cS hr2 (pa_cons (pv 5) (pa_cons (pe_c cPr hr2 (pa_cons (pv 6) (pa_cons (pe_c cL hr1 (pa_cons (pe_op op_mulB pe_int (pv 2)) (pa_cons (pe_op op_add (pv 2) (pv 3)) pa_nil))) pa_nil))) pa_nil))))
    (pss_one (ps_ret (pe_tup (pa_cons (pv 0) (pa_cons (pv 1) (pa_cons (pv 4) (pa_cons (pv 5) (pa_cons (pv 7) (pa_cons (pv 8) pa_nil)))))))))))), ?_⟩
  refine ⟨_, rfl, _, rfl, p, q, _, _, rfl, hp, hq, ⟨zx.mono (by decide), zy.mono (by decide)⟩, fun rg H1 e1 hg => ?_⟩
  dsimp only [gName]
  have zg := Sz.sub zx zy
  refine ⟨_, rfl, _, rfl, _, rfl, _, _, rfl, rfl, ⟨bd 2 (by decide) (by decide), bd b (by omega) (by omega)⟩, _, rfl, _, rfl, _, _, rfl, rfl, ?_⟩
  refine ⟨_, _, rfl, by omega, Bd.mono (m := 12) (bdn (by omega) (by omega)) (by decide), fun r1 H2 e2 h1 => ?_⟩
  have z1 : Sz 12 (Rat.divInt (2 * b) (a + b)) := sz_qq (by omega) (by omega) (by omega) (by omega)
  refine ⟨rg, r1, _, _, rfl, e2 _ _ hg, h1, ⟨zg.mono (by decide), z1.mono (by decide)⟩, fun r2 H3 e3 h2 => ?_⟩
  have zp := zg.mul z1
  have S3 := e1.trans (e2.trans e3)
  refine ⟨p, r2, _, _, rfl, S3 _ _ hp, h2, ⟨zx.mono (by decide), zp.mono (by decide)⟩, fun rv H4 e4 hv2 => ?_⟩
  dsimp only [gName]
  have S4 := S3.trans e4
  refine ⟨_, rfl, _, rfl, _, rfl, _, _, rfl, rfl, ⟨bd 2 (by decide) (by decide), bd a (by omega) (by omega)⟩, _, rfl, _, rfl, _, _, rfl, rfl, ?_⟩
  refine ⟨_, _, rfl, by omega, Bd.mono (m := 12) (bdn (by omega) (by omega)) (by decide), fun r3 H5 e5 h3 => ?_⟩
  have z3 : Sz 12 (Rat.divInt (2 * a) (a + b)) := sz_qq (by omega) (by omega) (by omega) (by omega)
  refine ⟨rg, r3, _, _, rfl, e5 _ _ (e4 _ _ (e3 _ _ (e2 _ _ hg))), h3, ⟨zg.mono (by decide), z3.mono (by decide)⟩, fun r4 H6 e6 h4 => ?_⟩
  have zp2 := zg.mul z3
  have S6 := S4.trans (e5.trans e6)
  refine ⟨q, r4, _, _, rfl, S6 _ _ hq, h4, ⟨zy.mono (by decide), zp2.mono (by decide)⟩, fun rw' H7 e7 hw2 => ?_⟩
  dsimp only [gName]
  have S7 := S6.trans e7
  refine ⟨_, rfl, _, rfl, _, rfl, _, rfl, _, rfl, _, rfl, by show 6 ≤ sizeLine; decide, fun t ht => ?_⟩
  have s8 := Same.upd (o := .tup [.int i, .int j, .ref p, .ref q, .ref rv, .ref rw']) ht
  exact k t ⟨i, j, x, y, _, _⟩ _ (S7.trans s8) ⟨t, p, q, rv, rw', rfl, upd_same, s8 _ _ (S7 _ _ hp), s8 _ _ (S7 _ _ hq), s8 _ _ (e7 _ _ (e6 _ _ (e5 _ _ hv2))), s8 _ _ hw2⟩ ⟨zx.mono (by decide), zy.mono (by decide), (Sz.sub zx zp).mono (by decide), (zy.add zp2).mono (by decide)⟩ rfl
def spSi : Sp := fun vs H Q _ => ∃ (p lw : Addr) (ws : List Int), vs = [.ref p, .ref lw] ∧ Pool H p ∧ lw ≠ p ∧ H lw = some (.tup (ws.map V.int)) ∧ 2 ≤ ws.length ∧ ws.length ≤ 8 ∧ (∀ x ∈ ws, 1 ≤ x ∧ x ≤ 1000) ∧ ∀ t s H', Step p H H' → SgAt H' (.ref t) s → SgY s → (∃ (ni nj : Nat) (wi wj : Int), s.i = (ni : Int) ∧ s.j = (nj : Int) ∧ ni ≠ nj ∧ ws[ni]? = some wi ∧ ws[nj]? = some wj ∧ shQ s = some ((wj : Rat) / (wi : Rat))) → Q (.ref t) H'
theorem sc_si : FnScope ["pool", "weights", "i", "j", "v", "w"] ["pool", "weights"] (defScope s_law_sighting) := ⟨rfl, rfl, rfl, by decide +kernel, rfl, by decide +kernel, by decide +kernel⟩
theorem ok_si (D : Df K mg "_law_sighting" s_law_sighting ["pool", "weights"] []) (T : TxB K mg) (cN : Cal P w K mg base "_law_next" 1 ["pool", "base"] [] spNext) (cRa : Cal P w K mg base "_law_ratio" 3 ["pool"] [] spRat) (cS : Cal P w K mg base "_law_sum" 2 ["one", "other"] [] (spBin Sz2 (· + ·)))
    (cL : Cal P w K mg base "_law_lowest" 1 ["top", "bottom"] [] spLow) (cMe : Cal P w K mg base "_law_meeting" 4 ["i", "j", "one", "other", "v", "w"] [] spMe) : Cal P w K mg base "_law_sighting" 5 ["pool", "weights"] [] spSi := by
  refine D.calB (k := 4) sc_si (fun vs H Q E h => by obtain ⟨_, _, _, rfl, _⟩ := h; rfl) (fun f cdv A outer s H vs Q E hr h => ?_)
  obtain ⟨p, lw, ws, rfl, hP, hne, hlw, n2, n8, hw, k⟩ := h
  have hr1 : Room 1 _ := hr.mono (by decide)
  have hr2 : Room 2 _ := hr.mono (by decide)
  have hr3 : Room 3 _ := hr.mono (by decide)
  have hl : ((ws.map V.int).length : Int) = (ws.length : Int) := by rw [List.length_map]
  refine ⟨_, (bx_scons (Bx.mk (ps_set (i := 2) sc_si.nd rfl (Or.inl rfl) (pe_c cN hr1 (pa_cons (pv 0) (pa_cons (pe_callB call_len_seq (by rfl) T.nLen PySem.boot_len (pa_cons (pv 1) pa_nil)) pa_nil)))))
    (bx_scons (Bx.mk (ps_set (i := 3) sc_si.nd rfl (Or.inl rfl) (pe_op op_mod (pe_op op_add (pe_op op_add (pv 2) pe_int) (pe_c cN hr1 (pa_cons (pv 0) (pa_cons (pe_op op_sub (pe_callB call_len_seq (by rfl) T.nLen PySem.boot_len (pa_cons (pv 1) pa_nil)) pe_int) pa_nil)))) (pe_callB call_len_seq (by rfl) T.nLen PySem.boot_len (pa_cons (pv 1) pa_nil)))))
    (bx_scons (Bx.mk (ps_set (i := 4) sc_si.nd rfl (Or.inl rfl) (pe_c cRa hr3 (pa_cons (pv 0) pa_nil))))
    (bx_scons (Bx.mk (ps_set (i := 5) sc_si.nd rfl (Or.inl rfl) (pe_c cS hr2 (pa_cons (pv 4) (pa_cons (pe_c cL hr1 (pa_cons (pe_op op_mulB (pe_ix ix_list (pe_lst (pa_cons (pe_un un_neg pe_int) (pa_cons pe_int pa_nil))) (pe_c cN hr1 (pa_cons (pv 0) (pa_cons pe_int pa_nil))) (fun _ _ => rfl)) (pe_op op_add pe_int (pe_c cN hr1 (pa_cons (pv 0) (pa_cons pe_int pa_nil))))) (pa_cons (pe_op op_add pe_int (pe_c cN hr1 (pa_cons (pv 0) (pa_cons pe_int pa_nil)))) pa_nil))) pa_nil)))))
    (Bx.mk (pss_one (ps_ret (pe_c cMe hr (pa_cons (pv 2) (pa_cons (pv 3) (pa_cons (pe_ix ix_tup (pv 1) (pv 2) (fun _ _ => rfl)) (pa_cons (pe_ix ix_tup (pv 1) (pv 3) (fun _ _ => rfl)) (pa_cons (pv 4) (pa_cons (pv 5) pa_nil)))))))))))))), ?_⟩
  refine ⟨_, rfl, _, rfl, lw, _, rfl, .inr (.of hlw), p, _, rfl, by omega, by omega, hP, fun i G1 i0 i1 t1 => ?_⟩
  dsimp only [gName]
  have hlw1 := t1.keep _ _ hlw hne
  refine ⟨_, rfl, _, _, rfl, rfl, _, rfl, _, rfl, lw, _, rfl, .inr (.of hlw1), _, _, rfl, rfl, p, _, rfl, by omega, by omega, t1.pool, fun d G2 d0 d1 t2 => ⟨_, _, rfl, rfl, ?_⟩⟩
  have hlw2 := t2.keep _ _ hlw1 hne
  refine ⟨_, rfl, lw, _, rfl, .inr (.of hlw2), _, _, rfl, rfl, (by show (0 : Int) < ((ws.map V.int).length : Int); omega), ?_⟩
  dsimp only [gName]
  have T2 := t1.trans t2
  obtain ⟨j, ej⟩ : ∃ j : Int, j = (i + 1 + d) % ((ws.map V.int).length : Int) := ⟨_, rfl⟩
  rw [← ej]
  have j0 : 0 ≤ j := by rw [ej]; exact Int.emod_nonneg _ (by omega)
  have j1 : j < ((ws.map V.int).length : Int) := by rw [ej]; exact Int.emod_lt_of_pos _ (by omega)
  refine ⟨_, rfl, p, rfl, T2.pool, fun rv v G3 t3 hv zv => ?_⟩
  dsimp only [gName]
  have T3 := T2.trans t3
  refine ⟨_, rfl, _, rfl, by show 2 ≤ sizeLine; decide, fun l1 hl1 => ?_⟩
  refine ⟨_, rfl, p, _, rfl, by decide, by decide, T3.pool.new hl1, fun e G4 e0 e1 t4 => ?_⟩
  obtain ⟨sg, esg, hsg⟩ : ∃ sg : Int, atI [V.int (-1), .int 1] e = some (.int sg) ∧ (sg = 1 ∨ sg = -1) := by
    have : e = 0 ∨ e = 1 := by omega
    rcases this with rfl | rfl
    · exact ⟨-1, rfl, .inr rfl⟩
    · exact ⟨1, rfl, .inl rfl⟩
  refine ⟨l1, _, _, _, rfl, rfl, .of (t4.keep l1 _ upd_same (T3.pool.ne hl1)), esg, ?_⟩
  have t34 := t4.pre (Same.upd (o := .lst [.int (-1), .int 1]) hl1)
  refine ⟨_, rfl, p, _, rfl, by decide, by decide, t4.pool, fun f1 G5 f10 f11 t5 => ⟨_, _, rfl, rfl, ?_⟩⟩
  refine ⟨_, _, rfl, rfl, ⟨Bd.mono (m := 3) (bdz (by omega) (by omega)) (by decide), Bd.mono (m := 5) (bdn (by omega) (by omega)) (by decide)⟩, ?_⟩
  refine ⟨_, rfl, p, _, rfl, by decide, by decide, t5.pool, fun f2 G6 f20 f21 t6 => ⟨_, _, rfl, rfl, ?_⟩⟩
  refine ⟨_, _, rfl, by omega, Bd.mono (m := 5) (bdn (by omega) (by omega)) (by decide), fun r1 G7 s7 h1 => ?_⟩
  have t37 := ((t34.trans t5).trans t6).same s7
  have Tu37 := step_tups T3.pool t37
  have z1 : Sz 6 (Rat.divInt (sg * (1 + f1)) (1 + f2)) := by
    rcases hsg with rfl | rfl
    · exact sz_qq (by omega) (by omega) (by omega) (by omega)
    · exact sz_qq (by omega) (by omega) (by omega) (by omega)
  refine ⟨rv, r1, _, _, rfl, Tu37 _ _ hv, h1, ⟨zv.mono (by decide), z1.mono (by decide)⟩, fun rw' G8 s8 hw' => ?_⟩
  dsimp only [gName]
  have t38 := t37.same s8
  have T8 := T3.trans t38
  have hlw8 := t38.keep _ _ (t3.keep _ _ hlw2 hne) hne
  have hv8 : RatAt G8 rv v := s8 _ _ (Tu37 _ _ hv)
  obtain ⟨ni, rfl⟩ : ∃ n : Nat, i = (n : Int) := ⟨i.toNat, by omega⟩
  obtain ⟨nj, rfl⟩ : ∃ n : Nat, j = (n : Int) := ⟨j.toNat, by omega⟩
  obtain ⟨wi, ewi⟩ : ∃ x, ws[ni]? = some x := ⟨_, List.getElem?_eq_getElem (by omega)⟩
  obtain ⟨wj, ewj⟩ : ∃ x, ws[nj]? = some x := ⟨_, List.getElem?_eq_getElem (by omega)⟩
  have ai : atI (ws.map V.int) (ni : Int) = some (.int wi) := atI_nat (by rw [List.getElem?_map, ewi]; rfl)
  have aj : atI (ws.map V.int) (nj : Int) = some (.int wj) := atI_nat (by rw [List.getElem?_map, ewj]; rfl)
  have hi := hw wi (List.mem_of_getElem? ewi)
  have hj := hw wj (List.mem_of_getElem? ewj)
  refine ⟨_, rfl, _, rfl, _, rfl, _, rfl, lw, _, _, _, rfl, rfl, .of hlw8, ai, _, rfl, _, rfl, lw, _, _, _, rfl, rfl, .of hlw8, aj, _, rfl, _, rfl, ?_⟩
  refine ⟨_, _, wi, wj, rv, rw', v, _, rfl, hi.1, hi.2, hj.1, hj.2, hv8, hw', zv, (zv.add z1).mono (by decide), fun t s H' e hs zs es => k t s H' (T8.same e) hs zs ⟨ni, nj, wi, wj, by rw [es]; rfl, by rw [es]; rfl, ?_, ewi, ewj, by rw [es]; exact me_share hi.1 hj.1 (by have : Rat.divInt (sg * (1 + f1)) (1 + f2) ≠ 0 := div_ne (by rcases hsg with rfl | rfl <;> omega) (by omega); grind)⟩⟩
  intro z
  subst z
  exact mod_ne (by omega) (by omega) d0 (by omega) ej
def soS (g : Sg) (x : Rat) : Sg := ⟨g.i, g.j, g.v, g.w, g.v - (g.v - g.v2) * x, g.w + (g.w2 - g.w) * x⟩
def spSo : Sp := fun vs H Q _ => ∃ u p s x, vs = [u, .ref p] ∧ SgAt H u s ∧ SgY s ∧ RatAt H p x ∧ Sz 5 x ∧ ∀ t H', Same H H' → SgAt H' (.ref t) (soS s x) → SgZ (soS s x) → Q (.ref t) H'
theorem sc_so : FnScope ["sighting", "part", "i", "j", "v", "w", "v2", "w2", "lost", "won"] ["sighting", "part"] (defScope s_law_softer) := ⟨rfl, rfl, rfl, by decide +kernel, rfl, by decide +kernel, by decide +kernel⟩
theorem ok_so (D : Df K mg "_law_softer" s_law_softer ["sighting", "part"] []) (cMi : Cal P w K mg base "_law_minus" 3 ["one", "other"] [] (spBin Sz3 (· - ·))) (cS : Cal P w K mg base "_law_sum" 2 ["one", "other"] [] (spBin Sz2 (· + ·))) (cPr : Cal P w K mg base "_law_product" 2 ["one", "other"] [] (spBin Sz2 (· * ·))) : Cal P w K mg base "_law_softer" 4 ["sighting", "part"] [] spSo := by
  refine D.calB (k := 3) sc_so (fun vs H Q E h => by obtain ⟨_, _, _, _, rfl, _⟩ := h; rfl) (fun f cdv A outer s H vs Q E hr h => ?_)
  obtain ⟨u, pp, g, x, rfl, ⟨a, p, q, p2, q2, rfl, ha, hp, hq, hp2, hq2⟩, ⟨z1, z2, z3, z4⟩, hpp, zx, k⟩ := h
  have hr2 : Room 2 _ := hr.mono (by decide)
  refine ⟨_, (bx_scons (Bx.mk (ps_asg (pv 0) (pg_tup rfl (pgs_cons (pg_name (i := 2) sc_so.nd rfl (Or.inl rfl)) (pgs_cons (pg_name (i := 3) sc_so.nd rfl (Or.inl rfl)) (pgs_cons (pg_name (i := 4) sc_so.nd rfl (Or.inl rfl)) (pgs_cons (pg_name (i := 5) sc_so.nd rfl (Or.inl rfl)) (pgs_cons (pg_name (i := 6) sc_so.nd rfl (Or.inl rfl)) (pgs_cons (pg_name (i := 7) sc_so.nd rfl (Or.inl rfl)) pgs_nil)))))))))
    (bx_scons (Bx.mk (ps_set (i := 8) sc_so.nd rfl (Or.inl rfl) (pe_c cPr hr2 (pa_cons (pe_c cMi hr (pa_cons (pv 4) (pa_cons (pv 6) pa_nil))) (pa_cons (pv 1) pa_nil)))))
    (bx_scons (Bx.mk (ps_set (i := 9) sc_so.nd rfl (Or.inl rfl) (pe_c cPr hr2 (pa_cons (pe_c cMi hr (pa_cons (pv 7) (pa_cons (pv 5) pa_nil))) (pa_cons (pv 1) pa_nil)))))
    (Bx.mk (pss_one (ps_ret (pe_tup (pa_cons (pv 2) (pa_cons (pv 3) (pa_cons (pv 4) (pa_cons (pv 5) (pa_cons (pe_c cMi hr (pa_cons (pv 4) (pa_cons (pv 8) pa_nil))) (pa_cons (pe_c cS hr2 (pa_cons (pv 5) (pa_cons (pv 9) pa_nil))) pa_nil))))))))))))), ?_⟩
  refine ⟨_, rfl, a, _, rfl, .of ha, rfl, _, _, rfl, _, _, rfl, _, _, rfl, _, _, rfl, _, _, rfl, _, _, rfl, rfl, ?_⟩
  have zl := Sz.sub z1 z3
  have zw := Sz.sub z4 z2
  refine ⟨_, rfl, _, rfl, p, p2, _, _, rfl, hp, hp2, ⟨z1.mono (by decide), z3.mono (by decide)⟩, fun r1 H1 e1 h1 => ?_⟩
  refine ⟨_, rfl, r1, pp, _, _, rfl, h1, e1 _ _ hpp, ⟨zl.mono (by decide), zx.mono (by decide)⟩, fun rl H2 e2 hl => ?_⟩
  dsimp only [gName]
  have S2 := e1.trans e2
  refine ⟨_, rfl, _, rfl, q2, q, _, _, rfl, S2 _ _ hq2, S2 _ _ hq, ⟨z4.mono (by decide), z2.mono (by decide)⟩, fun r3 H3 e3 h3 => ?_⟩
  have S3 := S2.trans e3
  refine ⟨_, rfl, r3, pp, _, _, rfl, h3, S3 _ _ hpp, ⟨zw.mono (by decide), zx.mono (by decide)⟩, fun rn H4 e4 hn => ?_⟩
  dsimp only [gName]
  have S4 := S3.trans e4
  have hl4 : RatAt H4 rl _ := e4 _ _ (e3 _ _ hl)
  refine ⟨_, rfl, _, rfl, _, rfl, _, rfl, _, rfl, _, rfl, p, rl, _, _, rfl, S4 _ _ hp, hl4, ⟨z1.mono (by decide), (zl.mul zx).mono (by decide)⟩, fun r5 H5 e5 h5 => ?_⟩
  have S5 := S4.trans e5
  refine ⟨_, rfl, _, rfl, q, rn, _, _, rfl, S5 _ _ hq, e5 _ _ hn, ⟨z2.mono (by decide), (zw.mul zx).mono (by decide)⟩, fun r6 H6 e6 h6 => ⟨by show 6 ≤ sizeLine; decide, fun t ht => ?_⟩⟩
  have S6 := S5.trans e6
  have s7 := Same.upd (o := .tup [.int g.i, .int g.j, .ref p, .ref q, .ref r5, .ref r6]) ht
  exact k t _ (S6.trans s7) ⟨t, p, q, r5, r6, rfl, upd_same, s7 _ _ (S6 _ _ hp), s7 _ _ (S6 _ _ hq), s7 _ _ (e6 _ _ h5), s7 _ _ h6⟩ ⟨z1.mono (by decide), z2.mono (by decide), (Sz.sub z1 (zl.mul zx)).mono (by decide), (z2.add (zw.mul zx)).mono (by decide)⟩
end
end KK
end
section
set_option maxHeartbeats 8000000
set_option Elab.async false
set_option linter.all false
set_option maxRecDepth 100000
namespace KK
open PySem L2 KM
def LsG (G : Hp) (vs : List V) : Prop := ∀ v ∈ vs, ∃ s, SgAt G v s ∧ SgZ s
theorem LsG.tups {G G' : Hp} {vs : List V} (h : LsG G vs) (e : TupS G G') : LsG G' vs := fun v m => let ⟨s, a, b⟩ := h v m; ⟨s, a.tups e, b⟩
theorem LsG.append {G : Hp} {us vs : List V} (h : LsG G us) (k : LsG G vs) : LsG G (us ++ vs) := fun v m => by
  rcases List.mem_append.mp m with z | z
  · exact h v z
  · exact k v z
theorem LsG.nil {G : Hp} : LsG G [] := fun v m => by cases m
theorem LsG.cons {G : Hp} {v : V} {vs : List V} {s : Sg} (h1 : SgAt G v s) (h2 : SgZ s) (h : LsG G vs) : LsG G (v :: vs) := fun u m => by
  rcases List.mem_cons.mp m with rfl | m
  · exact ⟨s, h1, h2⟩
  · exact h u m
theorem sgAt {G : Hp} {t p q p2 q2 : Addr} {i j : Int} {v w v2 w2 : Rat} (h : G t = some (.tup [.int i, .int j, .ref p, .ref q, .ref p2, .ref q2])) (h1 : RatAt G p v) (h2 : RatAt G q w) (h3 : RatAt G p2 v2) (h4 : RatAt G q2 w2) : SgAt G (.ref t) ⟨i, j, v, w, v2, w2⟩ := ⟨t, p, q, p2, q2, rfl, h, h1, h2, h3, h4⟩
section
variable {P : Program} {w : World} {K : PySem.W.Frag} {mg : Str → Option Value} {base : Heap} {aN : Addr}
def spWe : Sp := fun vs H Q _ => ∃ (p : Addr) (n : Nat), vs = [.ref p, .int (n : Int)] ∧ n ≤ 8 ∧ Pool H p ∧ ∀ (l : Addr) (ws : List Int) H', Step p H H' → H l = none → H' l = some (.lst (ws.map V.int)) → ws.length = n → (∀ x ∈ ws, 1 ≤ x ∧ x ≤ 1000) → Q (.ref l) H'
theorem sc_we : FnScope ["pool", "many"] ["pool", "many"] (defScope s_law_weights) := ⟨rfl, rfl, rfl, by decide +kernel, rfl, by decide +kernel, by decide +kernel⟩
theorem ok_we (D : Df K mg "_law_weights" s_law_weights ["pool", "many"] []) (T : TxB K mg) (cN : Cal P w K mg base "_law_next" 1 ["pool", "base"] [] spNext) : Cal P w K mg base "_law_weights" 2 ["pool", "many"] [] spWe := by
  refine D.cal (k := 1) sc_we (fun vs H Q E h => by obtain ⟨_, _, rfl, _⟩ := h; rfl) (fun f cdv A outer s H vs Q E hr h => ?_)
  obtain ⟨p, n, rfl, n8, hP, k⟩ := h
  refine ⟨_, (pss_one (ps_ret (pe_compC (NB := ["k"]) (FR := ["pool"]) (js := [0]) rfl rfl (fun _ _ h => h) (.cons rfl rfl rfl ⟨_, rfl⟩ .nil) rfl (by decide +kernel) rfl (by decide +kernel) (pi_range1 rfl T.nRange (pa_cons (pv 1) pa_nil)) (by intro _ _ _; refine ⟨?_, ?_, ?_⟩; (exact (pg_name (i := 0) (show List.Nodup (["k", "pool"] : List Str) by decide +kernel) rfl (Or.inl rfl))); (exact pts_nil); (exact (pe_ix (ix_listK (K := K) rfl) (pe_lst (pa_cons (pe_op op_add pe_int (pe_c cN hr (pa_cons (pv 1) (pa_cons pe_int pa_nil)))) (pa_cons (pe_op op_add pe_int (pe_c cN hr (pa_cons (pv 1) (pa_cons pe_int pa_nil)))) pa_nil))) (pe_c cN hr (pa_cons (pv 1) (pa_cons pe_int pa_nil))) (fun _ _ => rfl))))))), ?_⟩
  refine ⟨_, rfl, (n : Int), rfl, by omega, by omega, fun Dc hDc => ?_⟩
  have hDp : Dc ≠ p := hP.ne hDc
  refine compC_byZ (js := [0]) (J := Itr 0 ((n : Int)).toNat) (g := gName 0) (tt := fun _ H Q => Q true H) (te := _) (N := n) (n := 1) (fun i G ys => Step p H G ∧ ∃ ws : List Int, ys = ws.map V.int ∧ ws.length = i ∧ ∀ x ∈ ws, 1 ≤ x ∧ x ≤ 1000)
    ⟨⟨hP.new hDc, fun b o e _ => Same.upd hDc _ _ e⟩, [], rfl, rfl, fun v hv => by cases hv⟩ (fun i G ys hi z => by show i < ((n : Int)).toNat; omega) (fun G ys z => by show ((n : Int)).toNat ≤ n; omega) ?_ ?_
  · rintro i x zs G_ G ys Nx hN hi hz1 ⟨rfl, rfl⟩ ⟨tG, ws, rfl, hwl, hwv⟩ hGD
    obtain ⟨y1, rfl⟩ := len1 hz1
    refine ⟨rfl, iteT ?_⟩
    refine ⟨_, rfl, p, _, rfl, by decide, by decide, tG.pool, fun d1 G2 a1 b1 t2 => ⟨_, _, rfl, rfl, ?_⟩⟩
    refine ⟨_, rfl, p, _, rfl, by decide, by decide, t2.pool, fun d2 G3 a2 b2 t3 => ⟨_, _, rfl, rfl, by show 2 ≤ sizeLine; decide, fun l1 hl1 => ?_⟩⟩
    refine ⟨_, rfl, p, _, rfl, by decide, by decide, t3.pool.new hl1, fun d3 G4 a3 b3 t4 => ?_⟩
    obtain ⟨x, ex, hx⟩ : ∃ x : Int, atI [V.int (1 + d1), .int (1 + d2)] d3 = some (.int x) ∧ 1 ≤ x ∧ x ≤ 1000 := by
      have : d3 = 0 ∨ d3 = 1 := by omega
      rcases this with rfl | rfl
      · exact ⟨1 + d1, rfl, by omega, by omega⟩
      · exact ⟨1 + d2, rfl, by omega, by omega⟩
    refine ⟨l1, _, _, _, rfl, rfl, .of (t4.keep l1 _ upd_same (t3.pool.ne hl1)), ex, ?_⟩
    have tt := (t2.trans t3).trans (t4.pre (Same.upd hl1))
    have h3 := tt.keep _ _ hGD hDp
    refine ⟨h3, small1000 (by simp; omega), hN _ _ ⟨(tG.trans tt).put hDc hDp _, ws ++ [x], by simp, by simp [hwl], fun v hv => ?_⟩⟩
    rcases List.mem_append.mp hv with z | z
    · exact hwv v z
    · have : v = x := by simpa using z
      rw [this]; exact hx
  · rintro G ys ⟨tG, ws, rfl, hwl, hwv⟩ hGD
    exact k Dc ws G tG hDc hGD hwl hwv
end
end KK
end
section
set_option maxHeartbeats 8000000
set_option Elab.async false
set_option linter.all false
set_option maxRecDepth 100000
namespace L2
open PySem PySem.Spec PyProof.Rows
def SqK (k : Bool) (K : PySem.W.Frag) (H : Hp) (t : Addr) (xs : List V) : Prop := match k with | true => SqT K H t xs | false => SqL K H t xs
def Itk (k : Bool) (K : PySem.W.Frag) (a : Addr) : It := match k with | true => Itt K a | false => Itl K a
def iSeq (K : PySem.W.Frag) (tl : TE) : TI := fun σ H R => tl σ H fun x H1 => ∃ k a, x = .ref a ∧ (∃ xs, SqK k K H1 a xs) ∧ R (Itk k K a) H1
theorem pi_seq {X : Cx} {tg l : Expr} {tl : TE} (hl : PE X l tl) : PI X tg l (iSeq X.K tl) := by
  intro pins s σ H R I h
  refine thn (hl pins s σ H _ I h) fun v s1 ⟨x, H1, I1, r1, q1⟩ => ?_
  obtain ⟨k, a, e, ⟨xs, hq⟩, q⟩ := q1
  subst e
  cases r1
  cases k
  · obtain ⟨its, rv, p, hz⟩ := I1.list hq
    refine wpAny_pyIter_list p.isList ?_
    refine ⟨s1.heap.objs.size, [s1.heap.objs.size], _, _, H1, rfl, I1.kept (t' := s1.toks) fun b o e => Heap.get?_push_of_some _ e, turn_list a _, ⟨_, Heap.get?_push_size _ rfl, rfl, rfl⟩, fun b hb => ?_, q⟩
    have e : b = s1.heap.objs.size := by simpa using hb
    subst e
    exact I1.fpOk (Nat.le_refl _) (I1.hok.fresh (Nat.le_refl _))
  · obtain ⟨its, rv, p, hz⟩ := I1.tuple hq
    refine wpAny_pyIter_tuple (show s1.heap.IsTuple a its.toArray from p) ?_
    refine ⟨s1.heap.objs.size, [s1.heap.objs.size], _, _, H1, rfl, I1.kept (t' := s1.toks) fun b o e => Heap.get?_push_of_some _ e, turn_tuple a _, ⟨_, Heap.get?_push_size _ rfl, rfl, rfl⟩, fun b hb => ?_, q⟩
    have e : b = s1.heap.objs.size := by simpa using hb
    subst e
    exact I1.fpOk (Nat.le_refl _) (I1.hok.fresh (Nat.le_refl _))
def HSq (k : Bool) (H : Hp) (a : Addr) (xs : List V) : Prop := match k with | true => H a = some (.tup xs) | false => H a = some (.lst xs)
theorem HSq.sq {k : Bool} {K : PySem.W.Frag} {H : Hp} {a : Addr} {xs : List V} (h : HSq k H a xs) : SqK k K H a xs := by
  cases k
  · exact SqL.of h
  · exact SqT.of h
theorem HSq.same {k : Bool} {H H' : Hp} {a : Addr} {xs : List V} (h : HSq k H a xs) (e : Same H H') : HSq k H' a xs := by
  cases k <;> exact e _ _ h
theorem HSq.ne {k : Bool} {H : Hp} {a b : Addr} {xs : List V} (h : HSq k H a xs) (e : H b = none) : a ≠ b := fun z => by
  cases k
  · have h : H a = some (.lst xs) := h
    rw [z, e] at h; cases h
  · have h : H a = some (.tup xs) := h
    rw [z, e] at h; cases h
theorem HSq.upd {k : Bool} {H : Hp} {a l : Addr} {xs : List V} {o : HO} (h : HSq k H a xs) (n : a ≠ l) : HSq k (upd H l o) a xs := by
  cases k
  · show L2.upd H l o a = _; rw [upd_ne n]; exact h
  · show L2.upd H l o a = _; rw [upd_ne n]; exact h
theorem for_seq {k : Bool} {K : PySem.W.Frag} {a : Addr} {xs : List V} {g : TG} {tb : TS} {D : Ends} {σ : St} {H : Hp} (Pv : Nat → St → Hp → Prop) (h0 : Pv 0 σ H) (hl : ∀ i σ H, Pv i σ H → SqK k K H a xs)
    (hs : ∀ (i : Nat) (x : V) (σ : St) (H : Hp), xs[i]? = some x → Pv i σ H → g x σ H fun σ2 H2 => tb { D with nx := Pv (i + 1), ct := Pv (i + 1), bk := D.nx } σ2 H2)
    (hd : ∀ σ H, Pv xs.length σ H → D.nx σ H) :
    ∃ W : Nat → Nat → St → Hp → Prop, (∃ m, W 0 m σ H) ∧ ∀ i m σ H, W i m σ H →
      ((Itk k K a).stop i H ∧ D.nx σ H) ∨ ((Itk k K a).go i H ∧ ∃ N : St → Hp → Prop, (∀ σ' H', N σ' H' → ∃ m', m' < m ∧ W (i + 1) m' σ' H') ∧ ∀ x H', (Itk k K a).yld i H x H' → g x σ H' fun σ2 H2 => tb { D with nx := N, ct := N, bk := D.nx } σ2 H2) := by
  refine ⟨fun i m σ H => m = xs.length - i ∧ i ≤ xs.length ∧ Pv i σ H, ⟨xs.length, by simp, Nat.zero_le _, h0⟩, ?_⟩
  rintro i m σ H ⟨rfl, hi, p⟩
  have q1 := hl i σ H p
  by_cases hlt : i < xs.length
  · refine .inr ⟨?_, Pv (i + 1), fun σ' H' p' => ⟨xs.length - (i + 1), by omega, rfl, hlt, p'⟩, fun x H' y => ?_⟩
    · cases k
      · exact ⟨xs, xs[i], q1, by simp⟩
      · exact ⟨xs, xs[i], q1, by simp⟩
    · cases k
      · obtain ⟨rfl, e1⟩ := y; exact hs i x σ _ (e1 xs q1) p
      · obtain ⟨rfl, e1⟩ := y; exact hs i x σ _ (e1 xs q1) p
  · have e : i = xs.length := by omega
    subst e
    refine .inl ⟨?_, hd σ H p⟩
    cases k
    · exact ⟨xs, q1, Nat.le_refl _⟩
    · exact ⟨xs, q1, Nat.le_refl _⟩
theorem runs_seq {k : Bool} {K : PySem.W.Frag} {H : Hp} {a : Addr} {xs : List V} (h : HSq k H a xs) : Runs (Itk k K a) H xs := by
  cases k
  · exact runs_list h
  · exact runs_tup h
end L2
namespace KK
open PySem L2 KM
end KK
end
section
set_option maxHeartbeats 8000000
set_option Elab.async false
set_option linter.all false
set_option maxRecDepth 100000
namespace L2
open PySem PySem.Spec PyProof.Rows
theorem pi_seqK {X : Cx} {K : PySem.W.Frag} {tg l : Expr} {tl : TE} (hK : X.K = K) (hl : PE X l tl) : PI X tg l (iSeq K tl) := by subst hK; exact pi_seq hl
end L2
namespace KK
open PySem L2 KM
def SgL (H : Hp) (vs : List V) (ss : List Sg) : Prop := vs.length = ss.length ∧ ∀ (i : Nat) s, ss[i]? = some s → ∃ v, vs[i]? = some v ∧ SgAt H v s ∧ SgZ s
theorem SgL.tups {H H' : Hp} {vs : List V} {ss : List Sg} (h : SgL H vs ss) (e : TupS H H') : SgL H' vs ss := ⟨h.1, fun i s m => by obtain ⟨v, a, b, c⟩ := h.2 i s m; exact ⟨v, a, b.tups e, c⟩⟩
theorem LsG.list {G : Hp} : ∀ {vs : List V}, LsG G vs → ∃ ss, SgL G vs ss
  | [], _ => ⟨[], rfl, fun i s m => by simp at m⟩
  | v :: vs, h => by
    obtain ⟨s, a, b⟩ := h v (List.mem_cons_self ..)
    obtain ⟨ss, c, d⟩ := LsG.list (vs := vs) (fun u m => h u (List.mem_cons_of_mem _ m))
    refine ⟨s :: ss, by simp [c], fun i s' m => ?_⟩
    cases i with
    | zero => simp at m; subst m; exact ⟨v, rfl, a, b⟩
    | succ i => simpa using d i s' (by simpa using m)
end KK
end
set_option Elab.async false
set_option linter.all false
set_option maxRecDepth 100000
namespace L2
open PySem PySem.Spec PyProof.Rows
section
variable {prog : Program} {w : World} {A : Around} {E : Value → Shared → Prop} {s : Shared} {l : Addr} {xs : Array (Int × Tok)}
theorem min_intTup {Q : Value → Shared → Prop} (hh : A.handled = none) (hl : s.heap.IsTuple l (intItems xs)) (hne : 0 < xs.size)
    (h : ∀ v h' tk, (intItems xs)[argBest (fun i j => decide (numAt xs i < numAt xs j)) (xs.size - 1)]? = some v → (∀ b o, s.heap.get? b = some o → h'.get? b = some o) → Q v { s with heap := h', toks := tk }) :
    wpAny (model prog w) A (call (.builtin "min") [.ref l]) Q E s := by
  have hlt : l < s.heap.objs.size := by obtain ⟨_, e, _⟩ := hl; exact Heap.lt_size e
  refine call_min_walk (wpAny_pyIter_tuple hl ?_)
  refine ⟨_, [_, l], [_], _, _, _, _, rfl, Walks.tuple (A := A.in1) hh _ l (Nat.ne_of_lt hlt) (intItems xs), ⟨⟨_, Heap.get?_push_size _ rfl, rfl, rfl⟩, hl.push _⟩, fun b hb => ?_, by simpa [intItems] using hne, CmpOf.ints_lt (numAt xs) (fun _ _ => intItems_at), fun v h' tk hP hk => ?_⟩
  · show b < (s.heap.push _).objs.size
    rw [Heap.size_push]
    rcases List.mem_cons.mp hb with rfl | hb
    · exact Nat.lt_succ_self _
    · rcases List.mem_cons.mp hb with rfl | hb
      · exact Nat.lt_succ_of_lt hlt
      · cases hb
  · refine h v h' tk (by simpa [intItems] using hP) fun b o e => hk b o (fun hm => ?_) (Heap.get?_push_of_some _ e)
    rcases List.mem_cons.mp hm with e1 | hm
    · exact absurd (e1 ▸ Heap.lt_size e) (Nat.lt_irrefl _)
    · cases hm
end
section
variable {X : Cx}
theorem call_minT (hc : X.calm = true) : CallR X (.builtin "min") (fun xs H Q => ∃ (p : Addr) (ns : List Int), xs = [.ref p] ∧ SqT X.K H p (ns.map V.int) ∧ 0 < ns.length ∧ ∀ M, M ∈ ns → (∀ a, a ∈ ns → M ≤ a) → Q (.int M) H) := by
  intro pins s σ H xs us Q I r h
  obtain ⟨p, ns, rfl, hq, hne, q⟩ := h
  obtain ⟨u, rfl, ru⟩ := vals1 r
  cases ru
  obtain ⟨its, rv, pl, _⟩ := I.tuple hq
  have hi : IntsAre its ns := intsAre_of rv
  obtain ⟨ys, e⟩ := hi.allInts.items
  have hl : s.heap.IsTuple p its.toArray := pl
  rw [e] at hl
  have hns : ns = ys.toList.map (·.1) := by
    rw [← hi.numsOf, ← nums_intItems, ← e]
  have hsz : 0 < ys.size := by
    have h3 := hne; rw [hns, List.length_map, Array.length_toList] at h3; exact h3
  refine min_intTup (I.ok.hd hc) hl hsz fun v h' tk hv hk => ?_
  obtain ⟨t, rfl⟩ := intItems_at hv
  obtain ⟨h1, h2⟩ := argBest_lt (numAt ys) (ys.size - 1)
  refine ⟨.int _, H, I.kept hk, ⟨_, rfl⟩, q _ ?_ fun a ha => ?_⟩
  · rw [hns, numAt_eq]; exact getD_mem (by rw [List.length_map, Array.length_toList]; omega)
  · rw [hns] at ha
    obtain ⟨j, hj, rfl⟩ := mem_getD ha
    rw [List.length_map, Array.length_toList] at hj
    rw [← numAt_eq]; exact h2 j (by omega)
def rngV (n : Nat) : List V := (List.range n).map fun i : Nat => V.int (i : Int)
def tListRange (ta : TA) : TE := fun σ H Q => ta σ H fun xs H1 => ∃ n : Nat, xs = [.int (n : Int)] ∧ n ≤ 1000 ∧ ∀ l, H1 l = none → Q (.ref l) (upd H1 l (.lst (rngV n)))
theorem vals_items {n : Nat} {acc : Array Value} (h : ItemsOf (fun i v => ∃ t, v = Value.int ((0 : Int) + i * 1) t) acc n) : Vals (rngV n) acc.toList := by
  have key : ∀ (k m : Nat) (us : List Value), us.length = m → (∀ j v, us[j]? = some v → ∃ t, v = Value.int (((k + j : Nat)) : Int) t) → Vals ((List.range' k m).map fun i : Nat => V.int (i : Int)) us := by
    intro k m
    induction m generalizing k with
    | zero => intro us hl _; obtain rfl : us = [] := List.length_eq_zero_iff.mp hl; exact .nil
    | succ m ih =>
      intro us hl hv
      match us, hl with
      | u :: us, hl =>
        obtain ⟨t, e⟩ := hv 0 u rfl
        refine .cons ⟨t, by simpa using e⟩ (ih (k + 1) us (by simpa using hl) fun j v e => ?_)
        obtain ⟨t, e⟩ := hv (j + 1) v (by simpa using e)
        exact ⟨t, by rw [e]; congr 1; push_cast; omega⟩
  unfold rngV
  rw [List.range_eq_range']
  refine key 0 n acc.toList (by rw [Array.length_toList]; exact h.1) fun j v e => ?_
  obtain ⟨t, e⟩ := h.2 j v (by simpa using e)
  exact ⟨t, by rw [e]; congr 1; push_cast; omega⟩
theorem pe_listRange {a : Expr} {ta : TA} {p pos p2 pos2 : Pos} (hc : X.calm = true) (hg : Gl X "list") (hm : X.mg "list" = none) (hg2 : Gl X "range") (hm2 : X.mg "range" = none) (ha : PA X [a] ta)
    (hs : starEach [a] X.env = [(false, eval a X.env)] := by rfl) (hs2 : starEach [.Call (.Name "range" p2) [a] [] pos2] X.env = [(false, eval (.Call (.Name "range" p2) [a] [] pos2) X.env)] := by rfl) :
    PE X (.Call (.Name "list" p) [.Call (.Name "range" p2) [a] [] pos2] [] pos) (tListRange ta) := by
  intro pins s σ H Q I h
  refine wpAny_Call_Name_kw (ld_blt I hg hm PyProof.Rows.boot_list ?_)
  refine PyProof.Rows.callWith_type1 ?_ hs2 rfl
  rw [hs2]
  show wpAny _ _ (spliced [(false, eval (.Call (.Name "range" p2) [a] [] pos2) X.env)]) _ _ s
  refine Calls.spliced_cons (Call_ (ld_blt I hg2 hm2 PyProof.Rows.boot_range (PyProof.Rows.callWith_type1 (thn (ha pos2 pins s σ H _ I h) fun us s1 ⟨vs, H1, I1, r1, q1⟩ => ?_) hs rfl)))
  obtain ⟨n, e, hn, q⟩ := q1
  subst e
  obtain ⟨u, rfl, t, rfl⟩ := vals1 r1
  refine call_range_1 (Calls.spliced_nil ?_)
  refine call_list_range (n := n) (I1.ok.hd hc) (IsRange.new ..) (small_one (by omega) (by omega) (by omega) (by omega)) (by rw [rangeSize_one]; split <;> omega) (Nat.le_trans hn (by decide)) fun h' tk acc c' hk hS hacc => ?_
  have I2 : Inv X pins σ H1 { s1 with heap := s1.heap.push { cls := .type "range", data := .fields #[.int 0 s1.toks, .int (n : Int) t, .int 1 (s1.toks + 1)] }, toks := s1.toks + 1 + 1 } := I1.kept fun b o e => Heap.get?_push_of_some _ e
  refine ⟨.ref _, _, I2.laid (t' := tk) (o := .lst (rngV n)) hk (Nat.le_refl _) ?_, rfl, q _ (I2.hok.fresh (Nat.le_refl _))⟩
  refine ⟨by unfold rngV; rw [List.length_map, List.length_range]; exact Nat.le_of_lt (small1000 hn), acc.toList, c', vals_items hacc, ?_⟩
  rw [Array.toArray_toList]; exact hS
end

theorem rep_arr (v : Value) (k : Nat) : List.foldl (fun x1 x2 => x1 ++ x2) #[] (List.replicate k #[v]) = (List.replicate k v).toArray := by
  have : ∀ (k : Nat) (acc : Array Value), List.foldl (fun x1 x2 => x1 ++ x2) acc (List.replicate k #[v]) = acc ++ (List.replicate k v).toArray := by
    intro k
    induction k with
    | zero => intro acc; simp
    | succ k ih =>
      intro acc
      rw [List.replicate_succ, List.foldl_cons, ih, List.replicate_succ]
      apply Array.toList_inj.mp
      simp
  rw [this]; simp
set_option maxHeartbeats 4000000 in
theorem tuple_mulN (l : Addr) (v : Value) (n : Nat) (dd : Option Addr) (sl : Array (Option Value)) (k : Int) (u : Tok) (c0 : (decide (k < -(2 ^ 63)) || decide (k ≥ 2 ^ 63)) = false) (c1 : ((#[v] : Array Value).isEmpty || k == 1) = false)
    (c2 : (decide (k ≤ 0) || (#[v] : Array Value).isEmpty) = false) (c3 : ¬ (((#[v] : Array Value).size : Int) * k > (2 ^ 63 - 1) / 8)) (c4 : Builtin.Tuple.tupleTooMany (((#[v] : Array Value).size : Int) * k) = false) :
    Meets (Builtin.«tuple.__mul__» ⟨[.ref l, .int k u], []⟩) (fun _ R s => s.heap.get? l = some { cls := .type "tuple", dict := dd, data := .seq #[v] n, slots := sl } ∧ R (.ok (.ret (Value.ref s.heap.objs.size))) { s with heap := s.heap.push { cls := Value.type "tuple", data := Data.seq (List.replicate k.toNat v).toArray }, toks := s.toks }) :=
  .of_wp fun prog w A R s h => by
    obtain ⟨hp, g, d, tk, os⟩ := s; obtain ⟨hl, h⟩ := h
    have f1 := AutoSeq1.idx_int
    have no : ∀ {b : Bool}, b = false → decide (b = true) = false := fun h => by rw [h]; rfl
    wp_walk using wpAny_loadPart' hl
    refine wpAny_ite_false (no c0) ?_
    wp_walk using wpAny_loadPart' hl
    refine wpAny_ite_false (no c1) ?_
    wp_walk using wpAny_loadPart' hl
    refine wpAny_ite_false (no c2) ?_
    wp_walk using wpAny_loadPart' hl
    refine wpAny_ite_false (decide_eq_false c3) ?_
    wp_walk using wpAny_loadPart' hl
    refine wpAny_ite_false (no c4) ?_
    wp_walk using wpAny_loadPart' hl
    rw [rep_arr]
    refine wpAny_ite_false (decide_eq_false ?_) ?_
    · have c5 := of_decide_eq_false c4
      have c6 : (1 : Int) * k ≤ (sizeLine : Int) := Int.not_lt.mp c5
      rw [List.size_toArray, List.length_replicate]
      omega
    wp_walk using wpAny_loadPart' hl
    exact ⟨_, rfl, h⟩
theorem tuple_mul1 (l : Addr) (v : Value) (n : Nat) (dd : Option Addr) (sl : Array (Option Value)) (u : Tok) :
    Meets (Builtin.«tuple.__mul__» ⟨[.ref l, .int 1 u], []⟩) (fun _ R s => s.heap.get? l = some { cls := .type "tuple", dict := dd, data := .seq #[v] n, slots := sl } ∧ R (.ok (.ret (Value.ref l))) s) :=
  .of_wp fun prog w A R s h => by
    obtain ⟨hp, g, d, tk, os⟩ := s; obtain ⟨hl, h⟩ := h
    have f1 := AutoSeq1.idx_int
    wp_walk using wpAny_loadPart' hl
    exact ⟨_, rfl, h⟩
def rRepN (K : PySem.W.Frag) : R2 := fun x y H Q => ∃ (a : Addr) (z : V) (n : Nat), x = .ref a ∧ y = .int (n : Int) ∧ SqT K H a [z] ∧ 1 ≤ n ∧ n ≤ 1000 ∧ (n = 1 → Q (.ref a) H) ∧ (2 ≤ n → ∀ p, H p = none → Q (.ref p) (upd H p (.tup (List.replicate n z))))
theorem vals_rep {z : V} {v : Value} (r : RelV z v) : ∀ n : Nat, Vals (List.replicate n z) (List.replicate n v)
  | 0 => .nil
  | n + 1 => .cons r (vals_rep r n)
theorem op_repN {X : Cx} : OpR X (binaryOp .Mult) (rRepN X.K) := by
  intro pins s σ H x y v u Q I rx ry h
  obtain ⟨a, z, n, rfl, rfl, ha, h1, h2, q1, q2⟩ := h
  cases rx
  obtain ⟨t, rfl⟩ := ry
  obtain ⟨its, r, p1, _⟩ := I.tuple ha
  obtain ⟨v0, rfl, rz⟩ := vals1 r
  obtain ⟨⟨cls, dd, data, sl⟩, ho, hc, m, hd⟩ := id p1
  simp only at hc hd
  subst hc hd
  by_cases hn : n = 1
  · subst hn
    exact wpAny_binaryOp_repeat_ref (T := "tuple") (U := "int") (by decide) ⟨_, ho, rfl⟩ (fun s' => typeIs_int s' _ t) noFill_tuple_mul F.fills_int_mul F.slot_int_rmul repeat_tuple F.slot_int_index.lookup
      (call_meets F.slot_int_rmul (typeIs_int s _ t) F.entry_int_rmul (F.args_int_rmul_2 _ _) (int_rmul_tuple _ t a _ m dd sl)
        ⟨ho, rfl, ⟨_, ho, rfl⟩, call_meets F.slot_tuple_mul ⟨_, ho, rfl⟩ F.entry_tuple_mul (F.args_tuple_mul_2 _ _) (tuple_mul1 a v0 m dd sl t) ⟨ho, .ref a, H, I, rfl, q1 rfl⟩⟩)
  · have hb : ∀ {p : Prop} [Decidable p], ¬ p → decide p = false := fun h => decide_eq_false h
    refine wpAny_binaryOp_repeat_ref (T := "tuple") (U := "int") (by decide) ⟨_, ho, rfl⟩ (fun s' => typeIs_int s' _ t) noFill_tuple_mul F.fills_int_mul F.slot_int_rmul repeat_tuple F.slot_int_index.lookup
      (call_meets F.slot_int_rmul (typeIs_int s _ t) F.entry_int_rmul (F.args_int_rmul_2 _ _) (int_rmul_tuple _ t a _ m dd sl)
        ⟨ho, rfl, ⟨_, ho, rfl⟩, call_meets F.slot_tuple_mul ⟨_, ho, rfl⟩ F.entry_tuple_mul (F.args_tuple_mul_2 _ _) (tuple_mulN a v0 m dd sl (n : Int) t ?_ ?_ ?_ ?_ ?_) ⟨ho, ?_⟩⟩)
    · rw [hb (by omega), hb (by omega)]; rfl
    · show (false || ((n : Int) == 1)) = false
      rw [Bool.false_or, beq_eq_false_iff_ne]; omega
    · rw [hb (by omega)]; rfl
    · show ¬ ((1 : Int) * (n : Int) > (2 ^ 63 - 1) / 8)
      omega
    · show decide ((1 : Int) * (n : Int) > (sizeLine : Int)) = false
      have := szl h2
      exact hb (by omega)
    · rw [Int.toNat_natCast]
      refine ⟨.ref s.heap.objs.size, _, I.laid (t' := s.toks) (o := .tup (List.replicate n z)) (fun b ob q => Heap.get?_push_of_some _ q) (Nat.le_refl _) ?_, rfl, q2 (by omega) _ (I.hok.fresh (Nat.le_refl _))⟩
      exact ⟨by rw [List.length_replicate]; exact szl h2, List.replicate n v0, vals_rep rz n, IsTup.new _ _⟩
end L2
set_option linter.all false
namespace LB
def one (l : Nat → Nat) (e : Nat × Nat) : Nat → Nat := fun v => if v = e.1 ∨ v = e.2 then min (l e.1) (l e.2) else l v
def turn (E : List (Nat × Nat)) (l : Nat → Nat) : Nat → Nat := E.foldl one l
def turns (E : List (Nat × Nat)) : Nat → (Nat → Nat) → Nat → Nat
  | 0, l => l
  | k + 1, l => turn E (turns E k l)
theorem one_le (l : Nat → Nat) (e : Nat × Nat) (v : Nat) : one l e v ≤ l v := by
  unfold one
  split
  · rename_i h; rcases h with rfl | rfl <;> omega
  · exact Nat.le_refl _
theorem turn_le : ∀ (E : List (Nat × Nat)) (l : Nat → Nat) (v : Nat), turn E l v ≤ l v
  | [], l, v => Nat.le_refl _
  | e :: E, l, v => Nat.le_trans (turn_le E (one l e) v) (one_le l e v)
theorem turn_edge {E : List (Nat × Nat)} {m : Nat} : ∀ {l : Nat → Nat} {e : Nat × Nat}, e ∈ E → (l e.1 ≤ m ∨ l e.2 ≤ m) → turn E l e.1 ≤ m ∧ turn E l e.2 ≤ m := by
  induction E with
  | nil => intro l e h; cases h
  | cons f E ih =>
    intro l e h hm
    rcases List.mem_cons.mp h with rfl | h
    · have h1 : one l e e.1 ≤ m := by unfold one; rw [if_pos (.inl rfl)]; omega
      have h2 : one l e e.2 ≤ m := by unfold one; rw [if_pos (.inr rfl)]; omega
      exact ⟨Nat.le_trans (turn_le E _ _) h1, Nat.le_trans (turn_le E _ _) h2⟩
    · refine ih h ?_
      rcases hm with hm | hm
      · exact .inl (Nat.le_trans (one_le l f _) hm)
      · exact .inr (Nat.le_trans (one_le l f _) hm)
theorem turn_closed {E : List (Nat × Nat)} {m : Nat} : ∀ {l : Nat → Nat}, (∀ e ∈ E, l e.1 ≤ m ↔ l e.2 ≤ m) → ∀ v, turn E l v ≤ m ↔ l v ≤ m := by
  induction E with
  | nil => intro l _ v; exact Iff.rfl
  | cons f E ih =>
    intro l h v
    have hf := h f (List.mem_cons_self ..)
    have h1 : ∀ u, one l f u ≤ m ↔ l u ≤ m := fun u => by
      unfold one
      split
      · rename_i hu
        rcases hu with rfl | rfl <;> omega
      · exact Iff.rfl
    rw [show turn (f :: E) l v = turn E (one l f) v from rfl, ih (fun e he => by rw [h1, h1]; exact h e (List.mem_cons_of_mem _ he)), h1]
def low (n m : Nat) (l : Nat → Nat) : List Nat := (List.range n).filter fun v => decide (l v ≤ m)
theorem low_grow {E : List (Nat × Nat)} {n m : Nat} {l : Nat → Nat} (hE : ∀ e ∈ E, e.1 < n ∧ e.2 < n) (h : ¬ ∀ e ∈ E, l e.1 ≤ m ↔ l e.2 ≤ m) : (low n m l).length < (low n m (turn E l)).length := by
  obtain ⟨e, he, hne⟩ : ∃ e ∈ E, ¬ (l e.1 ≤ m ↔ l e.2 ≤ m) := by
    rcases Classical.not_forall.mp h with ⟨e, h1⟩
    rcases Classical.not_forall.mp h1 with ⟨h2, h3⟩
    exact ⟨e, h2, h3⟩
  obtain ⟨v, hv, h1, h2⟩ : ∃ v, v < n ∧ ¬ l v ≤ m ∧ turn E l v ≤ m := by
    have hb := hE e he
    by_cases c : l e.1 ≤ m
    · have := turn_edge he (.inl c)
      exact ⟨e.2, hb.2, fun z => hne ⟨fun _ => z, fun _ => c⟩, this.2⟩
    · by_cases c2 : l e.2 ≤ m
      · have := turn_edge he (.inr c2)
        exact ⟨e.1, hb.1, c, this.1⟩
      · exact absurd ⟨fun z => absurd z c, fun z => absurd z c2⟩ hne
  have sub : ∀ (L : List Nat), (L.filter fun v => decide (l v ≤ m)).length + (if v ∈ L then 1 else 0) ≤ (L.filter fun v => decide (turn E l v ≤ m)).length := fun L => by
    induction L with
    | nil => simp
    | cons u L ih =>
      have hle := turn_le E l u
      by_cases hu : u = v
      · subst hu
        rw [List.filter_cons_of_neg (by simpa using h1), List.filter_cons_of_pos (by simpa using h2), if_pos (List.mem_cons_self ..), List.length_cons]
        split at ih <;> omega
      · have hm : (v ∈ u :: L) ↔ v ∈ L := by simp [Ne.symm hu]
        by_cases c : l u ≤ m
        · rw [List.filter_cons_of_pos (by simpa using c), List.filter_cons_of_pos (by simp; omega), List.length_cons, List.length_cons]
          simp only [hm]; omega
        · rw [List.filter_cons_of_neg (by simpa using c)]
          simp only [hm]
          by_cases c2 : turn E l u ≤ m
          · rw [List.filter_cons_of_pos (by simpa using c2), List.length_cons]; omega
          · rw [List.filter_cons_of_neg (by simpa using c2)]; exact ih
  have := sub (List.range n)
  rw [if_pos (List.mem_range.mpr hv)] at this
  exact this
theorem turns_same {E : List (Nat × Nat)} {n : Nat} (hE : ∀ e ∈ E, e.1 < n ∧ e.2 < n) (hn : 1 ≤ n) : ∀ e ∈ E, turns E n (fun v => v) e.1 = turns E n (fun v => v) e.2 := by
  have key : ∀ m, ∀ e ∈ E, turns E n (fun v => v) e.1 ≤ m ↔ turns E n (fun v => v) e.2 ≤ m := fun m => by
    by_cases hc : ∃ k, k ≤ n ∧ ∀ e ∈ E, turns E k (fun v => v) e.1 ≤ m ↔ turns E k (fun v => v) e.2 ≤ m
    · obtain ⟨k, hk, h⟩ := hc
      have : ∀ j, ∀ e ∈ E, turns E (k + j) (fun v => v) e.1 ≤ m ↔ turns E (k + j) (fun v => v) e.2 ≤ m := fun j => by
        induction j with
        | zero => exact h
        | succ j ih =>
          intro e he
          have := turn_closed ih
          rw [show turns E (k + (j + 1)) (fun v => v) = turn E (turns E (k + j) (fun v => v)) from rfl, this, this]
          exact ih e he
      have := this (n - k)
      rw [show k + (n - k) = n by omega] at this
      exact this
    · exfalso
      have grow : ∀ k, k ≤ n → k + 1 ≤ (low n m (turns E k (fun v => v))).length := fun k => by
        induction k with
        | zero =>
          intro _
          have : 0 ∈ low n m (turns E 0 (fun v => v)) := by unfold low; simp [turns]; omega
          exact List.length_pos_of_mem this
        | succ k ih =>
          intro hk
          have h1 := ih (by omega)
          have h2 := low_grow (m := m) (l := turns E k (fun v => v)) hE (fun z => hc ⟨k, by omega, z⟩)
          rw [show turns E (k + 1) (fun v => v) = turn E (turns E k (fun v => v)) from rfl]
          omega
      have h1 := grow n (Nat.le_refl _)
      have h2 : (low n m (turns E n (fun v => v))).length ≤ n := by
        unfold low
        have := List.length_filter_le (fun v => decide (turns E n (fun v => v) v ≤ m)) (List.range n)
        rw [List.length_range] at this
        exact this
      omega
  intro e he
  have h1 := (key (turns E n (fun v => v) e.1) e he).mp (Nat.le_refl _)
  have h2 := (key (turns E n (fun v => v) e.2) e he).mpr (Nat.le_refl _)
  omega
end LB
section
set_option maxHeartbeats 8000000
set_option Elab.async false
set_option linter.all false
set_option maxRecDepth 100000
namespace KK
open PySem L2 KM
def wAt (ws : List Int) (i : Int) : Int := ws.getD i.toNat 0
def shB (ws : List Int) (s : Sg) : Bool := decide (shQ s = some (Rat.divInt (wAt ws s.j) (wAt ws s.i)))
def doesB (ws : List Int) (ss : List Sg) : Bool := ws.all (fun w => decide (1 ≤ w)) && ss.all (shB ws)
def InW (n : Nat) (s : Sg) : Prop := ∃ ni nj : Nat, s.i = (ni : Int) ∧ s.j = (nj : Int) ∧ ni < n ∧ nj < n
def GdS (ws : List Int) (s : Sg) : Prop := ∃ (ni nj : Nat) (wi wj : Int), s.i = (ni : Int) ∧ s.j = (nj : Int) ∧ ni ≠ nj ∧ ws[ni]? = some wi ∧ ws[nj]? = some wj ∧ shQ s = some ((wj : Rat) / (wi : Rat))
theorem wAt_of {ws : List Int} {i : Int} {n : Nat} {x : Int} (h : i = (n : Int)) (e : ws[n]? = some x) : wAt ws i = x := by
  subst h
  unfold wAt
  rw [Int.toNat_natCast, List.getD_eq_getElem?_getD, e]; rfl
theorem GdS.inW {ws : List Int} {s : Sg} (h : GdS ws s) : InW ws.length s := by
  obtain ⟨ni, nj, wi, wj, e1, e2, _, e3, e4, _⟩ := h
  exact ⟨ni, nj, e1, e2, (List.getElem?_eq_some_iff.mp e3).1, (List.getElem?_eq_some_iff.mp e4).1⟩
theorem GdS.shB {ws : List Int} {s : Sg} (h : GdS ws s) : shB ws s = true := by
  obtain ⟨ni, nj, wi, wj, e1, e2, _, e3, e4, e5⟩ := h
  unfold KK.shB
  rw [wAt_of e1 e3, wAt_of e2 e4, e5, Rat.divInt_eq_div]
  exact decide_eq_true rfl
theorem does_good {ws : List Int} {ss : List Sg} (hw : ∀ w ∈ ws, 1 ≤ w) (hs : ∀ s ∈ ss, GdS ws s) : doesB ws ss = true := by
  unfold doesB
  rw [Bool.and_eq_true]
  exact ⟨List.all_eq_true.mpr fun w m => decide_eq_true (hw w m), List.all_eq_true.mpr fun s m => (hs s m).shB⟩
theorem div_mul_same {a b g : Int} (ha : a ≠ 0) (hg : g ≠ 0) : Rat.divInt (b * g) (a * g) = Rat.divInt b a := Rat.divInt_mul_right hg
theorem does_least {ws ls : List Int} {ss : List Sg} {ps : List Int} {g : Int → Int} (hw : ∀ w ∈ ws, 1 ≤ w) (hs : ∀ s ∈ ss, GdS ws s) (hl : ls.length = ws.length)
    (hp : ∀ s ∈ ss, ∀ ni nj : Nat, s.i = (ni : Int) → s.j = (nj : Int) → ∃ q, ps[ni]? = some q ∧ ps[nj]? = some q) (hpl : ps.length = ws.length)
    (hg : ∀ (i : Nat) w p, ws[i]? = some w → ps[i]? = some p → 1 ≤ g p ∧ ∃ l, ls[i]? = some l ∧ l * g p = w) : (∀ l ∈ ls, 1 ≤ l) ∧ doesB ls ss = true := by
  have h1 : ∀ l ∈ ls, 1 ≤ l := fun l m => by
    obtain ⟨i, hi⟩ := List.getElem?_of_mem m
    have hil := (List.getElem?_eq_some_iff.mp hi).1
    obtain ⟨w, ew⟩ : ∃ w, ws[i]? = some w := ⟨_, List.getElem?_eq_getElem (by omega)⟩
    obtain ⟨p, ep⟩ : ∃ p, ps[i]? = some p := ⟨_, List.getElem?_eq_getElem (by omega)⟩
    obtain ⟨g1, l', el, e⟩ := hg i w p ew ep
    rw [hi] at el; cases el
    have := hw w (List.mem_of_getElem? ew)
    rcases Int.lt_or_le 0 l with h | h
    · omega
    · have : l * g p ≤ 0 := Int.mul_nonpos_of_nonpos_of_nonneg h (by omega)
      omega
  refine ⟨h1, ?_⟩
  unfold doesB
  rw [Bool.and_eq_true]
  refine ⟨List.all_eq_true.mpr fun w m => decide_eq_true (h1 w m), List.all_eq_true.mpr fun s m => ?_⟩
  obtain ⟨ni, nj, wi, wj, e1, e2, _, e3, e4, e5⟩ := hs s m
  obtain ⟨q, q1, q2⟩ := hp s m ni nj e1 e2
  obtain ⟨g1, li, eli, ei⟩ := hg ni wi q e3 q1
  obtain ⟨_, lj, elj, ej⟩ := hg nj wj q e4 q2
  unfold KK.shB
  rw [wAt_of e1 eli, wAt_of e2 elj, e5, ← Rat.divInt_eq_div, ← ei, ← ej]
  have := h1 li (List.mem_of_getElem? eli)
  rw [div_mul_same (by omega) (by omega)]
  exact decide_eq_true rfl
def BdS (ws : List Int) (s b : Sg) : Prop := b.i = s.i ∧ b.j = s.j ∧ ∀ q, shQ s = some q → shQ b ≠ some q
theorem does_bad {ws : List Int} {ss ss' : List Sg} {s b : Sg} (hg : GdS ws s) (hb : BdS ws s b) (hm : b ∈ ss') : doesB ws ss' = false := by
  unfold doesB
  have : ss'.all (shB ws) = false := by
    rw [List.all_eq_false]
    refine ⟨b, hm, ?_⟩
    have h1 := hg.shB
    unfold KK.shB at h1 ⊢
    rw [hb.1, hb.2.1]
    have h2 := of_decide_eq_true h1
    intro h3
    exact hb.2.2 _ h2 (of_decide_eq_true h3)
  rw [this, Bool.and_false]
theorem shQ_none {s : Sg} (h : s.v = s.w ∨ s.w2 - s.v2 ≠ s.v - s.w ∨ s.w = s.w2) : shQ s = none := by unfold shQ; rw [if_pos h]
theorem shQ_some {s : Sg} {q : Rat} (h : shQ s = some q) : s.v ≠ s.w ∧ s.w2 - s.v2 = s.v - s.w ∧ s.w ≠ s.w2 ∧ q = (s.v - s.v2) / (s.w2 - s.w) ∧ 0 < q := by
  unfold shQ at h
  by_cases c : s.v = s.w ∨ s.w2 - s.v2 ≠ s.v - s.w ∨ s.w = s.w2
  · rw [if_pos c] at h; cases h
  · rw [if_neg c] at h
    split at h
    · cases h
      refine ⟨fun z => c (.inl z), Classical.byContradiction fun z => c (.inr (.inl z)), fun z => c (.inr (.inr z)), rfl, ‹_›⟩
    · cases h
theorem bd_none {ws : List Int} {s b : Sg} (h1 : b.i = s.i) (h2 : b.j = s.j) (h : shQ b = none) : BdS ws s b := ⟨h1, h2, fun q _ => by rw [h]; intro z; cases z⟩
section
variable {ws : List Int} {s : Sg} {m : Rat}
theorem bad1 (hg : GdS ws s) (m0 : m ≠ 0) : BdS ws s ⟨s.i, s.j, s.v, s.w, s.v2 + m, s.w2⟩ := by
  obtain ⟨ni, nj, wi, wj, _, _, _, _, _, e⟩ := hg
  obtain ⟨h1, h2, h3, h4, h5⟩ := shQ_some e
  exact bd_none rfl rfl (shQ_none (.inr (.inl (by dsimp only; grind))))
theorem bad2 (hg : GdS ws s) (m1 : m ≠ 1) : BdS ws s ⟨s.i, s.j, s.v, s.w, s.v - (s.v - s.v2) * m, s.w + (s.w2 - s.w) * m⟩ := by
  obtain ⟨ni, nj, wi, wj, _, _, _, _, _, e⟩ := hg
  obtain ⟨h1, h2, h3, h4, h5⟩ := shQ_some e
  refine bd_none rfl rfl (shQ_none (.inr (.inl ?_)))
  dsimp only
  intro z
  have e1 : s.w + (s.w2 - s.w) * m - (s.v - (s.v - s.v2) * m) = (s.w - s.v) + m * ((s.w2 - s.v2) + (s.v - s.w)) := by grind
  rw [e1, h2] at z
  have e2 : (s.v - s.w) * (m - 1) = 0 := by grind
  rcases Rat.mul_eq_zero.mp e2 with y | y
  · exact h1 (by grind)
  · exact m1 (by grind)
theorem bad3 : BdS ws s ⟨s.i, s.j, s.v, s.v, s.v, s.v⟩ := bd_none rfl rfl (shQ_none (.inl rfl))
theorem bad4 (hg : GdS ws s) (m0 : m ≠ 0) : BdS ws s ⟨s.i, s.j, s.v, s.w, s.v2 + m, s.w2 + m⟩ := by
  refine ⟨rfl, rfl, fun q hq hb => ?_⟩
  obtain ⟨h1, h2, h3, h4, h5⟩ := shQ_some hq
  obtain ⟨b1, b2, b3, b4, b5⟩ := shQ_some hb
  dsimp only at b1 b2 b3 b4 b5
  have n1 : s.w2 - s.w ≠ 0 := by grind
  have n2 : s.w2 + m - s.w ≠ 0 := by grind
  have e1 : q * (s.w2 - s.w) = s.v - s.v2 := by rw [h4]; grind
  have e2 : q * (s.w2 + m - s.w) = s.v - (s.v2 + m) := by rw [b4]; grind
  have e3 : (q + 1) * m = 0 := by grind
  rcases Rat.mul_eq_zero.mp e3 with y | y
  · grind
  · exact m0 y
theorem bad5 (hg : GdS ws s) : BdS ws s ⟨s.i, s.j, s.w, s.v, s.v2, s.w2⟩ := by
  obtain ⟨ni, nj, wi, wj, _, _, _, _, _, e⟩ := hg
  obtain ⟨h1, h2, h3, h4, h5⟩ := shQ_some e
  exact bd_none rfl rfl (shQ_none (.inr (.inl (by dsimp only; grind))))
theorem bad6 (hg : GdS ws s) : BdS ws s ⟨s.i, s.j, s.v, s.w, s.v, s.w⟩ := by
  obtain ⟨ni, nj, wi, wj, _, _, _, _, _, e⟩ := hg
  obtain ⟨h1, h2, h3, h4, h5⟩ := shQ_some e
  exact bd_none rfl rfl (shQ_none (.inr (.inl (by dsimp only; grind))))
end
theorem share_is {q : Rat} {wi wj : Int} (hi : wi ≠ 0) : (wj * (q.den : Int) = wi * q.num) ↔ q = Rat.divInt wj wi := by
  have hd : (q.den : Int) ≠ 0 := den_ne q
  conv => rhs; rw [← Rat.num_divInt_den q]
  rw [Rat.divInt_eq_divInt_iff hd hi]
  constructor <;> intro h <;> grind
def labL (n : Nat) (f : Nat → Nat) : List V := (List.range n).map fun v : Nat => V.int ((f v : Nat) : Int)
theorem labL_get {n : Nat} {f : Nat → Nat} {i : Nat} (h : i < n) : (labL n f)[i]? = some (V.int ((f i : Nat) : Int)) := by
  unfold labL; rw [List.getElem?_map, List.getElem?_range h]; rfl
theorem labL_set {n : Nat} {f : Nat → Nat} {i m : Nat} : (labL n f).set i (V.int (m : Int)) = labL n (fun v => if v = i then m else f v) := by
  refine List.ext_getElem? fun j => ?_
  rw [List.getElem?_set]
  unfold labL
  rw [List.getElem?_map, List.getElem?_map, List.length_map, List.length_range]
  by_cases hj : j < n
  · rw [List.getElem?_range hj]
    by_cases e : i = j
    · subst e; simp [hj]
    · rw [if_neg e]
      simp [Ne.symm e]
  · rw [List.getElem?_eq_none (l := List.range n) (by simp; omega)]
    by_cases e : i = j
    · subst e; simp [hj]
    · rw [if_neg e]; rfl
def edg (ss : List Sg) : List (Nat × Nat) := ss.map fun s => (s.i.toNat, s.j.toNat)
theorem turn_snoc (E : List (Nat × Nat)) (e : Nat × Nat) (l : Nat → Nat) : LB.turn (E ++ [e]) l = LB.one (LB.turn E l) e := by
  unfold LB.turn; rw [List.foldl_append]; rfl
theorem lab_parts {n : Nat} {ss : List Sg} (hn : 1 ≤ n) (hs : ∀ s ∈ ss, InW n s) : ∀ s ∈ ss, ∀ ni nj : Nat, s.i = (ni : Int) → s.j = (nj : Int) →
    ∃ q, ((List.range n).map fun v : Nat => ((LB.turns (edg ss) n (fun v => v) v : Nat) : Int))[ni]? = some q ∧ ((List.range n).map fun v : Nat => ((LB.turns (edg ss) n (fun v => v) v : Nat) : Int))[nj]? = some q := by
  intro s m ni nj ei ej
  have hE : ∀ e ∈ edg ss, e.1 < n ∧ e.2 < n := fun e he => by
    obtain ⟨s', m', rfl⟩ := List.mem_map.mp he
    obtain ⟨a, b, ea, eb, la, lb⟩ := hs s' m'
    dsimp only
    rw [ea, eb]; simp; exact ⟨la, lb⟩
  have := LB.turns_same hE hn (s.i.toNat, s.j.toNat) (List.mem_map.mpr ⟨s, m, rfl⟩)
  dsimp only at this
  rw [ei, ej] at this
  simp only [Int.toNat_natCast] at this
  obtain ⟨a, b, ea, eb, la, lb⟩ := hs s m
  have ha : ni < n := by omega
  have hb : nj < n := by omega
  refine ⟨((LB.turns (edg ss) n (fun v => v) ni : Nat) : Int), by rw [List.getElem?_map, List.getElem?_range ha]; rfl, ?_⟩
  rw [List.getElem?_map, List.getElem?_range hb, this]; rfl
def gcdL (xs : List Int) : Nat := xs.foldl (fun g x => Int.gcd (g : Int) x) 0
theorem gcdL_snoc (xs : List Int) (x : Int) : gcdL (xs ++ [x]) = Int.gcd (gcdL xs : Int) x := by unfold gcdL; rw [List.foldl_append]; rfl
theorem gcd_fold_dvd : ∀ (xs : List Int) (g : Nat), ((xs.foldl (fun g x => Int.gcd (g : Int) x) g : Nat) : Int) ∣ (g : Int) ∧ ∀ x ∈ xs, ((xs.foldl (fun g x => Int.gcd (g : Int) x) g : Nat) : Int) ∣ x
  | [], g => ⟨Int.dvd_refl _, fun x m => by cases m⟩
  | y :: xs, g => by
    obtain ⟨h1, h2⟩ := gcd_fold_dvd xs (Int.gcd (g : Int) y)
    refine ⟨Int.dvd_trans h1 (Int.gcd_dvd_left ..), fun x m => ?_⟩
    rcases List.mem_cons.mp m with rfl | m
    · exact Int.dvd_trans h1 (Int.gcd_dvd_right ..)
    · exact h2 x m
theorem gcdL_dvd {xs : List Int} {x : Int} (m : x ∈ xs) : (gcdL xs : Int) ∣ x := (gcd_fold_dvd xs 0).2 x m
theorem gcdL_pos {xs : List Int} {x : Int} (m : x ∈ xs) (h : 1 ≤ x) : 1 ≤ gcdL xs := by
  have := gcdL_dvd m
  rcases Nat.eq_zero_or_pos (gcdL xs) with z | z
  · rw [z] at this
    have := Int.zero_dvd.mp this
    omega
  · exact z
theorem gcdL_le {xs : List Int} {x : Int} (m : x ∈ xs) (h : 1 ≤ x) : (gcdL xs : Int) ≤ x := Int.le_of_dvd (by omega) (gcdL_dvd m)
def partW (ws ps : List Int) (p : Int) : List Int := ((List.range ws.length).filter fun o => decide (ps.getD o 0 = p)).map fun o => ws.getD o 0
theorem partW_mem {ws ps : List Int} {i : Nat} {w p : Int} (e : ws[i]? = some w) (f : ps[i]? = some p) : w ∈ partW ws ps p := by
  unfold partW
  refine List.mem_map.mpr ⟨i, List.mem_filter.mpr ⟨List.mem_range.mpr (List.getElem?_eq_some_iff.mp e).1, decide_eq_true ?_⟩, ?_⟩
  · rw [List.getD_eq_getElem?_getD, f]; rfl
  · rw [List.getD_eq_getElem?_getD, e]; rfl
theorem fdiv_exact {w g : Int} (h : g ∣ w) : w.fdiv g * g = w := Int.fdiv_mul_cancel h
end KK
end
section
set_option maxHeartbeats 8000000
set_option Elab.async false
set_option linter.all false
set_option maxRecDepth 100000
namespace KK
open PySem L2 KM
theorem list_of_map {α : Type} {ys : List V} {rs : List α} {f : α → V} (h : ys.length = rs.length) (k : ∀ (i : Nat) v, ys[i]? = some v → ∃ r, rs[i]? = some r ∧ v = f r) : ys = rs.map f := by
  refine List.ext_getElem? fun i => ?_
  rw [List.getElem?_map]
  cases e : ys[i]? with
  | none =>
    rw [List.getElem?_eq_none_iff] at e
    rw [List.getElem?_eq_none (by omega)]; rfl
  | some v =>
    obtain ⟨r, er, rfl⟩ := k i v e
    rw [er]; rfl
def oD : Option Rat → PyData
  | none => .none
  | some q => rD q
theorem ORt.rd {H : Hp} {v : V} {o : Option Rat} (h : ORt H v o) : RdD H v (oD o) := by
  cases o with
  | none => cases (show v = .non from h); exact .non
  | some q => obtain ⟨a, rfl, e⟩ := h; exact e.rd
theorem oD_eqv (o : Option Rat) (x : Rat) : PyData.eqv (oD o) (rD x) = decide (o = some x) := by
  cases o with
  | none => rfl
  | some q =>
    show PyData.eqv (.tuple [.int q.num, .int (q.den : Int)]) (.tuple [.int x.num, .int (x.den : Int)]) = _
    rw [eqv_rp, Bool.eq_iff_iff, decide_eq_true_eq, decide_eq_true_eq]
    exact ⟨fun z => by rw [z], fun z => by cases z; rfl⟩
theorem oD_sh (o : Option Rat) : SeqAt.shaped (oD o) = true := by cases o <;> rfl
theorem SgL.at {H : Hp} {vs : List V} {ss : List Sg} (h : SgL H vs ss) {i : Nat} {x : V} (e : vs[i]? = some x) : ∃ s, ss[i]? = some s ∧ SgAt H x s ∧ SgZ s := by
  have hi : i < vs.length := (List.getElem?_eq_some_iff.mp e).1
  obtain ⟨s, es⟩ : ∃ s, ss[i]? = some s := ⟨_, List.getElem?_eq_getElem (h := by rw [← h.1]; exact hi)⟩
  obtain ⟨v, a, b, c⟩ := h.2 i s es
  rw [a] at e; cases e
  exact ⟨s, es, b, c⟩
theorem at_map {ws : List Int} {i : Int} {n : Nat} (h : i = (n : Int)) (l : n < ws.length) : ∃ w, ws[n]? = some w ∧ w ∈ ws ∧ wAt ws i = w ∧ atI (ws.map V.int) i = some (.int w) := by
  have e : ws[n]? = some ws[n] := List.getElem?_eq_getElem l
  refine ⟨ws[n], e, List.getElem_mem l, wAt_of h e, ?_⟩
  rw [h]; exact atI_nat (by rw [List.getElem?_map, e]; rfl)
section
variable {P : Program} {w : World} {K : PySem.W.Frag} {mg : Str → Option Value} {base : Heap} {aN : Addr}
def WsZ (ws : List Int) : Prop := 1 ≤ ws.length ∧ ws.length ≤ 8 ∧ ∀ w ∈ ws, Bd 4000 w
def spDo : Sp := fun vs H Q _ => ∃ (aw as : Addr) (k : Bool) (xs : List V) (ws : List Int) (ss : List Sg), vs = [.ref aw, .ref as] ∧ H aw = some (.tup (ws.map V.int)) ∧ HSq k H as xs ∧ SgL H xs ss ∧ (∀ s ∈ ss, InW ws.length s) ∧ WsZ ws ∧ xs.length ≤ 500 ∧ ∀ H', Same H H' → Q (.bl (doesB ws ss)) H'
theorem sc_do : FnScope ["weights", "sightings"] ["weights", "sightings"] (defScope s_does_all) := ⟨rfl, rfl, rfl, by decide +kernel, rfl, by decide +kernel, by decide +kernel⟩
theorem ok_do (D : Df K mg "does_all" s_does_all ["weights", "sightings"] []) (TF : TxF K mg aN) (cR : Cal P w K mg base "ratio" 2 ["top", "bottom"] [] spLow) (cSh : Cal P w K mg base "share_of" 4 ["sighting"] [] spSh) : Cal P w K mg base "does_all" 5 ["weights", "sightings"] [] spDo := by
  refine D.calB (k := 4) sc_do (fun vs H Q E h => by obtain ⟨_, _, _, _, _, _, rfl, _⟩ := h; rfl) (fun f cdv A outer s H vs Q E hr h => ?_)
  obtain ⟨aw, as, kk, xs, ws, ss, rfl, haw, has, hss, hin, ⟨w1, wl, hb⟩, xl, k⟩ := h
  have hr2 : Room 2 _ := hr.mono (by decide)
  have hu := hr.units
  refine ⟨_, (bx_scons (Bx.mk (ps_if (pt_not (pt_truth (pe_callB (call_all rfl) (by rfl) TF.nAll (by decide +kernel) (pa_cons (pe_comp (NB := ["weight"]) rfl (by decide +kernel) (by decide +kernel) rfl (by decide +kernel) (pi_tup (pv 0)) (by intro _ _ _; refine ⟨?_, ?_, ?_⟩; (exact (pg_name (i := 0) (show List.Nodup (["weight"] : List Str) by decide +kernel) rfl (Or.inl rfl))); (exact pts_nil); (exact (pe_cmpR op_ge (pv 0) pe_int (nomark _))))) pa_nil)) fun _ => rfl)) (pss_one (ps_ret pe_bl)) pss_nil))
    (Bx.mk (pss_one (ps_ret (pe_callB (call_all rfl) (by rfl) TF.nAll (by decide +kernel) (pa_cons (pe_compC (NB := ["sighting"]) (FR := ["weights"]) (js := [0]) rfl rfl (fun _ _ h => h) (.cons rfl rfl rfl ⟨_, rfl⟩ .nil) rfl (by decide +kernel) rfl (by decide +kernel) (pi_seqK (K := K) rfl (pv 1)) (by intro _ _ _; refine ⟨?_, ?_, ?_⟩; (exact (pg_name (i := 0) (show List.Nodup (["sighting", "weights"] : List Str) by decide +kernel) rfl (Or.inl rfl))); (exact pts_nil); (exact (pe_cmpR (op_eqD hu) (pe_c cSh hr (pa_cons (pv 0) pa_nil)) (pe_c cR hr2 (pa_cons (pe_ix (ix_tupK (K := K) rfl) (pv 1) (pe_ix (ix_tupK (K := K) rfl) (pv 0) pe_int (fun _ _ => rfl)) (fun _ _ => rfl)) (pa_cons (pe_ix (ix_tupK (K := K) rfl) (pv 1) (pe_ix (ix_tupK (K := K) rfl) (pv 0) pe_int (fun _ _ => rfl)) (fun _ _ => rfl)) pa_nil))) (nomark _))))) pa_nil)))))), ?_⟩
  refine ⟨_, rfl, aw, rfl, ⟨_, .of haw⟩, fun D1 hD1 => ?_⟩
  refine comp_each (n := 1) (xs := ws.map V.int) (fun i v _ => ∃ w, ws[i]? = some w ∧ v = .bl (decide (1 ≤ w))) (fun i v H H' _ h => h) hD1 (runs_tup haw) (small1000 (by rw [List.length_map]; omega)) ?_ ?_
  · intro i x zs H2 Q' ex hz s2 hq'
    rw [List.getElem?_map] at ex
    obtain ⟨w, ew, rfl⟩ := Option.map_eq_some_iff.mp ex
    obtain ⟨z1, rfl⟩ := len1 hz
    exact ⟨_, rfl, _, _, rfl, rfl, hq' _ _ (Same.refl _) ⟨w, ew, rfl⟩⟩
  intro ys H1 s1 hD1' hyl hyR
  have ey := list_of_map (f := fun w => V.bl (decide ((1 : Int) ≤ w))) (rs := ws) (by rw [hyl, List.length_map]) hyR
  refine ⟨D1, ws.map (fun w => decide ((1 : Int) ≤ w)), rfl, SqL.of (by rw [hD1', ey, List.map_map]; rfl), _, rfl, ?_⟩
  have e0 : (ws.map (fun w => decide ((1 : Int) ≤ w))).all id = ws.all (fun w => decide (1 ≤ w)) := by rw [List.all_map]; rfl
  rw [e0]
  cases c1 : ws.all (fun w => decide (1 ≤ w)) with
  | false =>
    refine iteT ?_
    have := k H1 s1
    unfold doesB at this
    rw [c1] at this
    exact this
  | true =>
  refine iteF ?_
  have hpos : ∀ w ∈ ws, 1 ≤ w := fun w m => of_decide_eq_true (List.all_eq_true.mp c1 w m)
  have haw1 := s1 _ _ haw
  have has1 := has.same s1
  have hss1 := hss.tups (.of s1)
  clear ey e0 hyR hyl hD1' hD1
  refine ⟨_, rfl, kk, as, rfl, ⟨xs, has1.sq⟩, fun D2 hD2 => ?_⟩
  refine compC_each (n := 1) (xs := xs) (fun i v _ => ∃ s, ss[i]? = some s ∧ v = .bl (shB ws s)) (fun i v H H' _ h => h) hD2 (runs_seq has1) (small1000 (by omega)) ?_ ?_
  · intro i x zs H2 Q' ex hz s2 hq'
    obtain ⟨z1, rfl⟩ := len1 hz
    obtain ⟨sg, es, hx, zg⟩ := hss1.at ex
    obtain ⟨ni, nj, ei, ej, li, lj⟩ := hin sg (List.mem_of_getElem? es)
    obtain ⟨wi, ewi, mi, ai, ti⟩ := at_map ei li
    obtain ⟨wj, ewj, mj, aj, tj⟩ := at_map ej lj
    refine ⟨rfl, ?_⟩
    refine ⟨_, rfl, x, sg, rfl, hx.tups (.of s2), zg, fun u H3 s3 o3 => ?_⟩
    have S3 := s2.trans s3
    have haw3 := S3 _ _ haw1
    obtain ⟨p1, q1, q2, q3, q4, rfl, hsg, _⟩ := hx
    have hsg3 := S3 _ _ hsg
    refine ⟨_, rfl, _, rfl, p1, _, 1, .int sg.j, rfl, rfl, .of hsg3, rfl, aw, _, sg.j, .int wj, rfl, rfl, .of haw3, tj, ?_⟩
    refine ⟨_, rfl, _, rfl, p1, _, 0, .int sg.i, rfl, rfl, .of hsg3, rfl, aw, _, sg.i, .int wi, rfl, rfl, .of haw3, ti, ?_⟩
    have := hpos wi mi
    refine ⟨wj, wi, rfl, by omega, (hb wi mi).mono (by decide), fun r H4 s4 h4 => ?_⟩
    refine ⟨_, _, (o3.tups (.of s4)).rd, h4.rd, oD_sh _, shaped_rp _, hq' _ _ (s3.trans s4) ⟨sg, es, ?_⟩⟩
    rw [show PyData.tuple [.int (Rat.divInt wj wi).num, .int ((Rat.divInt wj wi).den : Int)] = rD (Rat.divInt wj wi) from rfl, oD_eqv]
    unfold shB
    rw [ai, aj]
  intro bs H2 s2 hD2' hbl hbR
  have eb := list_of_map (f := fun s => V.bl (shB ws s)) (rs := ss) (by rw [hbl, hss.1]) hbR
  refine ⟨D2, ss.map (shB ws), rfl, SqL.of (by rw [hD2', eb, List.map_map]; rfl), ?_⟩
  have e0 : (ss.map (shB ws)).all id = ss.all (shB ws) := by rw [List.all_map]; rfl
  rw [e0]
  have := k H2 (s1.trans s2)
  unfold doesB at this
  rw [c1, Bool.true_and] at this
  exact this
theorem sc_ld : FnScope ["weights", "sightings", "sighting", "share", "due"] ["weights", "sightings"] (defScope s_law_does) := ⟨rfl, rfl, rfl, by decide +kernel, rfl, by decide +kernel, by decide +kernel⟩
def spLd : Sp := fun vs H Q _ => ∃ (aw as : Addr) (xs : List V) (ws : List Int) (ss : List Sg), vs = [.ref aw, .ref as] ∧ H aw = some (.tup (ws.map V.int)) ∧ H as = some (.lst xs) ∧ SgL H xs ss ∧ (∀ s ∈ ss, InW ws.length s) ∧ WsZ ws ∧ xs.length ≤ 500 ∧ ∀ H', Same H H' → Q (.bl (doesB ws ss)) H'
theorem ok_ld (D : Df K mg "_law_does" s_law_does ["weights", "sightings"] []) (T : TxB K mg) (cSl : Cal P w K mg base "_law_share" 4 ["sighting"] [] spSh) : Cal P w K mg base "_law_does" 5 ["weights", "sightings"] [] spLd := by
  refine D.calB (k := 4) sc_ld (fun vs H Q E h => by obtain ⟨_, _, _, _, _, rfl, _⟩ := h; rfl) (fun f cdv A outer s H vs Q E hr h => ?_)
  obtain ⟨aw, as, xs, ws, ss, rfl, haw, has, hss, hin, ⟨w1, wl, hb⟩, xl, k⟩ := h
  refine ⟨_, (bx_scons (Bx.mk (ps_if (pt_cmpR op_lt (pe_callB (call_minT rfl) (by rfl) T.nMin PyProof.Rows.boot_min (pa_cons (pv 0) pa_nil)) pe_int (nomark _)) (pss_one (ps_ret pe_bl)) pss_nil))
    (bx_scons (Bx.mk (ps_for PassesOwn.never rfl (pi_seqK (K := K) rfl (pv 1)) (pg_name (i := 2) sc_ld.nd rfl (Or.inl rfl)) (pss_cons (ps_set (i := 3) sc_ld.nd rfl (Or.inl rfl) (pe_c cSl hr (pa_cons (pv 2) pa_nil)))
    (pss_cons (ps_if (pt_cmpR op_isN (pv 3) pe_non (nomark _)) (pss_one (ps_ret pe_bl)) pss_nil)
    (pss_cons (ps_set (i := 4) sc_ld.nd rfl (Or.inl rfl) (pe_op op_mulB (pe_ix ix_tup (pv 0) (pe_ix ix_tup (pv 2) pe_int (fun _ _ => rfl)) (fun _ _ => rfl)) (pe_ix ix_tup (pv 3) pe_int (fun _ _ => rfl))))
    (pss_one (ps_if (pt_cmpR op_ne (pe_op op_mulB (pe_ix ix_tup (pv 0) (pe_ix ix_tup (pv 2) pe_int (fun _ _ => rfl)) (fun _ _ => rfl)) (pe_ix ix_tup (pv 3) pe_int (fun _ _ => rfl))) (pv 4) (nomark _)) (pss_one (ps_ret pe_bl)) pss_nil)))))))
    (Bx.mk (pss_one (ps_ret pe_bl))))), ?_⟩
  refine ⟨_, rfl, aw, ws, rfl, .of haw, by omega, fun M mM hM => ⟨_, _, rfl, rfl, _, rfl, ?_⟩⟩
  by_cases c0 : M < 1
  · rw [decide_eq_true c0]
    refine iteT ?_
    have e : ws.all (fun w => decide (1 ≤ w)) = false := by
      rw [List.all_eq_false]
      exact ⟨M, mM, fun z => by have := of_decide_eq_true z; omega⟩
    have := k H (Same.refl _)
    unfold doesB at this
    rw [e] at this
    exact this
  rw [decide_eq_false c0]
  refine iteF ?_
  have hpos : ∀ w ∈ ws, 1 ≤ w := fun w m => by have := hM w m; omega
  have c1 : ws.all (fun w => decide (1 ≤ w)) = true := List.all_eq_true.mpr fun w m => decide_eq_true (hpos w m)
  have k' : ∀ H', Same H H' → Q (.bl (ss.all (shB ws))) H' := fun H' s' => by
    have := k H' s'
    unfold doesB at this
    rw [c1, Bool.true_and] at this
    exact this
  clear k c1
  refine st_next ?_
  dsimp only
  refine st_for ?_
  refine ⟨_, rfl, false, as, rfl, ⟨xs, SqL.of has⟩, ?_⟩
  refine for_seq (k := false) (K := K) (a := as) (xs := xs) (fun i σ G => ∃ z, z.length = 3 ∧ σ = some (.ref aw) :: some (.ref as) :: z ∧ Same H G ∧ ∀ s ∈ ss.take i, shB ws s = true) ⟨_, rfl, rfl, Same.refl _, fun s m => by simp at m⟩ (fun i σ G ⟨_, _, _, s4, _⟩ => SqL.of (s4 _ _ has)) ?_ ?_
  · rintro i x σ G ex ⟨z, hz, rfl, s1, hall⟩
    match z, hz with
    | [z1, z2, z3], _ =>
    obtain ⟨sg, es, hx, zg⟩ := hss.at ex
    obtain ⟨ni, nj, ei, ej, li, lj⟩ := hin sg (List.mem_of_getElem? es)
    obtain ⟨wi, ewi, mi, ai, ti⟩ := at_map ei li
    obtain ⟨wj, ewj, mj, aj, tj⟩ := at_map ej lj
    have hno : shB ws sg = false → ss.all (shB ws) = false := fun z => List.all_eq_false.mpr ⟨sg, List.mem_of_getElem? es, by rw [z]; decide⟩
    refine ⟨_, rfl, x, sg, rfl, hx.tups (.of s1), zg, fun u G2 s2 o2 => ?_⟩
    dsimp only [gName]
    have S2 := s1.trans s2
    have haw2 := S2 _ _ haw
    obtain ⟨p1, q1, q2, q3, q4, rfl, hsg, _⟩ := hx
    have hsg2 := S2 _ _ hsg
    refine ⟨_, rfl, rfl, _, rfl, ?_⟩
    cases esh : shQ sg with
    | none =>
      rw [esh] at o2
      cases (show u = .non from o2)
      rw [decide_eq_true rfl]
      refine iteT ?_
      have := k' G2 S2
      rw [hno (by unfold shB; rw [esh]; exact decide_eq_false (fun z => by cases z))] at this
      exact this
    | some q =>
      rw [esh] at o2
      obtain ⟨ru, rfl, hru⟩ := o2
      rw [decide_eq_false (fun z => by cases z)]
      refine iteF ?_
      have zq := shQ_sz zg esh
      have b1 : Bd 1000000 q.num := zq.1.mono (by decide)
      have b2 : Bd 1000000 (q.den : Int) := zq.2.mono (by decide)
      have b3 : Bd 1000000 wi := (hb wi mi).mono (by decide)
      have b4 : Bd 1000000 wj := (hb wj mj).mono (by decide)
      refine ⟨_, rfl, _, rfl, p1, _, 0, .int sg.i, rfl, rfl, .of hsg2, rfl, aw, _, sg.i, .int wi, rfl, rfl, .of haw2, ti, _, rfl, ru, _, _, _, rfl, rfl, .of hru, at0 .., _, _, rfl, rfl, ⟨b3, b1⟩, ?_⟩
      dsimp only [gName]
      refine ⟨_, rfl, _, rfl, p1, _, 1, .int sg.j, rfl, rfl, .of hsg2, rfl, aw, _, sg.j, .int wj, rfl, rfl, .of haw2, tj, _, rfl, ru, _, _, _, rfl, rfl, .of hru, at1 .., _, _, rfl, rfl, ⟨b4, b2⟩, _, rfl, rfl, _, rfl, ?_⟩
      rw [vint_dec]
      have hwi := hpos wi mi
      by_cases c : wj * (q.den : Int) = wi * q.num
      · rw [decide_eq_true c]
        refine iteF ⟨_, rfl, rfl, S2, fun s' m => ?_⟩
        rw [tk_snoc es] at m
        rcases List.mem_append.mp m with z | z
        · exact hall s' z
        · have : s' = sg := by simpa using z
          subst this
          unfold shB
          rw [esh, ai, aj, (share_is (by omega)).mp c]
          exact decide_eq_true rfl
      · rw [decide_eq_false c]
        refine iteT ?_
        have := k' G2 S2
        rw [hno (by
          unfold shB; rw [esh, ai, aj]
          exact decide_eq_false fun z => c ((share_is (by omega)).mpr (Option.some.inj z)))] at this
        exact this
  · rintro σ G ⟨z, hz, rfl, s1, hall⟩
    rw [List.take_of_length_le (by rw [hss.1]; exact Nat.le_refl _)] at hall
    have := k' G s1
    rw [List.all_eq_true.mpr hall] at this
    exact this
end
end KK
end
section
set_option maxHeartbeats 8000000
set_option Elab.async false
set_option linter.all false
set_option maxRecDepth 100000
namespace KK
open PySem L2 KM
theorem cl_nil {cells : List (Str × Addr)} : ∀ x c, List.lookup x ([] : List (Str × Addr)) = some c → cells.lookup x = some c := fun x c e => by cases e
theorem cl_cons {a : Str} {m : Addr} {cl cells : List (Str × Addr)} (h : cells.lookup a = some m) (t : ∀ x c, cl.lookup x = some c → cells.lookup x = some c) : ∀ x c, ((a, m) :: cl).lookup x = some c → cells.lookup x = some c := fun x c e => by
  simp only [List.lookup] at e
  cases h1 : (x == a) with
  | true => rw [h1] at e; cases e; rw [eq_of_beq h1]; exact h
  | false => rw [h1] at e; exact t x c e
theorem filter_succ {α : Type} (p : Nat → Bool) (f : Nat → α) (i : Nat) : ((List.range (i + 1)).filter p).map f = ((List.range i).filter p).map f ++ (if p i = true then [f i] else []) := by
  rw [List.range_succ, List.filter_append, List.map_append]
  congr 1
  cases h : p i with
  | true => simp [h]
  | false => simp [h]
theorem ixN_nat {n j : Nat} (h : j < n) : ixN n (j : Int) = some j := by
  unfold ixN
  rw [if_pos (by omega)]
  simp; omega
theorem labL_len (n : Nat) (f : Nat → Nat) : (labL n f).length = n := by unfold labL; rw [List.length_map, List.length_range]
theorem edg_get {ss : List Sg} {i : Nat} {s : Sg} (h : ss[i]? = some s) : (edg ss)[i]? = some (s.i.toNat, s.j.toNat) := by unfold edg; rw [List.getElem?_map, h]; rfl
theorem lab_one {n : Nat} {f : Nat → Nat} {i j : Nat} {x : Int} (hx : x = ((min (f i) (f j) : Nat) : Int)) : ((labL n f).set i (.int x)).set j (.int x) = labL n (LB.one f (i, j)) := by
  rw [hx, labL_set, labL_set]
  congr 1
  funext v
  unfold LB.one
  by_cases h1 : v = j
  · rw [if_pos h1, if_pos (.inr h1)]
  · rw [if_neg h1]
    by_cases h2 : v = i
    · rw [if_pos h2, if_pos (.inl h2)]
    · rw [if_neg h2, if_neg (by rintro (z | z); exact h2 z; exact h1 z)]
section
variable {P : Program} {w : World} {K : PySem.W.Frag} {mg : Str → Option Value} {base : Heap} {aN : Addr}
def spPt : Sp := fun vs H Q _ => ∃ (n : Nat) (as : Addr) (xs : List V) (ss : List Sg), vs = [.int (n : Int), .ref as] ∧ H as = some (.lst xs) ∧ SgL H xs ss ∧ (∀ s ∈ ss, InW n s) ∧ 1 ≤ n ∧ n ≤ 8 ∧ ∀ l H', Same H H' → H l = none → H' l = some (.lst (labL n (LB.turns (edg ss) n fun v => v))) → Q (.ref l) H'
theorem sc_pt : FnScope ["n", "sightings", "parts", "turn", "sighting", "least"] ["n", "sightings"] (defScope s_law_parts) := ⟨rfl, rfl, rfl, by decide +kernel, rfl, by decide +kernel, by decide +kernel⟩
theorem ok_pt (D : Df K mg "_law_parts" s_law_parts ["n", "sightings"] []) (T : TxB K mg) (TF : TxF K mg aN) : Cal P w K mg base "_law_parts" 1 ["n", "sightings"] [] spPt := by
  refine D.calB (k := 0) sc_pt (fun vs H Q E h => by obtain ⟨_, _, _, _, rfl, _⟩ := h; rfl) (fun f cdv A outer s H vs Q E hr h => ?_)
  obtain ⟨n, as, xs, ss, rfl, has, hss, hin, n1, n8, k⟩ := h
  refine ⟨_, (bx_scons (Bx.mk (ps_set (i := 2) sc_pt.nd rfl (Or.inl rfl) (pe_listRange rfl (by rfl) TF.nList (by rfl) T.nRange (pa_cons (pv 0) pa_nil))))
    (bx_scons (Bx.mk (ps_for PassesOwn.never rfl (pi_range1 rfl T.nRange (pa_cons (pv 0) pa_nil)) (pg_name (i := 3) sc_pt.nd rfl (Or.inl rfl)) (pss_one (ps_for PassesOwn.never rfl (pi_seqK (K := K) rfl (pv 1)) (pg_name (i := 4) sc_pt.nd rfl (Or.inl rfl)) (pss_cons (ps_set (i := 5) sc_pt.nd rfl (Or.inl rfl) (pe_callB (call_min2 rfl) (by rfl) T.nMin PyProof.Rows.boot_min (pa_cons (pe_ix ix_list (pv 2) (pe_ix ix_tup (pv 4) pe_int (fun _ _ => rfl)) (fun _ _ => rfl)) (pa_cons (pe_ix ix_list (pv 2) (pe_ix ix_tup (pv 4) pe_int (fun _ _ => rfl)) (fun _ _ => rfl)) pa_nil))))
    (pss_cons (ps_asg (pv 5) (pg_sub (pv 2) (pe_ix ix_tup (pv 4) pe_int (fun _ _ => rfl)) set_list))
    (pss_one (ps_asg (pv 5) (pg_sub (pv 2) (pe_ix ix_tup (pv 4) pe_int (fun _ _ => rfl)) set_list)))))))))
    (Bx.mk (pss_one (ps_ret (pv 2)))))), ?_⟩
  refine ⟨_, rfl, n, rfl, by omega, fun lp hlp => ?_⟩
  have hnp : as ≠ lp := fun z => by rw [z, hlp] at has; cases has
  dsimp only [gName]
  refine st_for ?_
  refine ⟨_, rfl, (n : Int), rfl, by omega, by omega, ?_⟩
  refine for_range (n := ((n : Int) - 0).toNat) (lo := 0) (fun t σ G => ∃ z, z.length = 3 ∧ σ = some (.int (n : Int)) :: some (.ref as) :: some (.ref lp) :: z ∧ Same H G ∧ G lp = some (.lst (labL n (LB.turns (edg ss) t fun v => v)))) ⟨[none, none, none], rfl, rfl, Same.upd hlp, upd_same⟩ ?_ ?_
  · rintro t σ G0 ht ⟨z, hz, rfl, s0, g0⟩
    match z, hz with
    | [z1, z2, z3], _ =>
    refine ⟨_, rfl, false, as, rfl, ⟨xs, SqL.of (s0 _ _ has)⟩, ?_⟩
    refine for_seq (k := false) (K := K) (a := as) (xs := xs) (fun i σ G => ∃ z, z.length = 3 ∧ σ = some (.int (n : Int)) :: some (.ref as) :: some (.ref lp) :: z ∧ Same H G ∧ G lp = some (.lst (labL n (LB.turn ((edg ss).take i) (LB.turns (edg ss) t fun v => v))))) ⟨_, rfl, rfl, s0, g0⟩ (fun i σ G ⟨_, _, _, s1, _⟩ => SqL.of (s1 _ _ has)) ?_ ?_
    · rintro i x σ G ex ⟨y, hy, rfl, s1, g1⟩
      match y, hy with
      | [y1, y2, y3], _ =>
      obtain ⟨sg, es, hx, zg⟩ := hss.at ex
      obtain ⟨ni, nj, ei, ej, li, lj⟩ := hin sg (List.mem_of_getElem? es)
      obtain ⟨p1, q1, q2, q3, q4, rfl, hsg, _⟩ := hx
      have hsg1 := s1 _ _ hsg
      generalize hF : LB.turn ((edg ss).take i) (LB.turns (edg ss) t fun v => v) = F at g1
      have ai : atI (labL n F) sg.i = some (.int ((F ni : Nat) : Int)) := by rw [ei]; exact atI_nat (labL_get li)
      have aj : atI (labL n F) sg.j = some (.int ((F nj : Nat) : Int)) := by rw [ej]; exact atI_nat (labL_get lj)
      refine ⟨_, rfl, _, rfl, p1, _, 0, .int sg.i, rfl, rfl, .of hsg1, rfl, lp, _, sg.i, _, rfl, rfl, .of g1, ai, ?_⟩
      refine ⟨_, rfl, _, rfl, p1, _, 1, .int sg.j, rfl, rfl, .of hsg1, rfl, lp, _, sg.j, _, rfl, rfl, .of g1, aj, ?_⟩
      refine ⟨_, _, rfl, ?_⟩
      dsimp only [gName]
      obtain ⟨m, em⟩ : ∃ m : Int, m = (if ((F nj : Nat) : Int) < ((F ni : Nat) : Int) then ((F nj : Nat) : Int) else ((F ni : Nat) : Int)) := ⟨_, rfl⟩
      rw [← em]
      have em' : m = ((min (F ni) (F nj) : Nat) : Int) := by rw [em]; split <;> omega
      have hpl : p1 ≠ lp := fun z => by rw [z, g1] at hsg1; cases hsg1
      have hsg2 : upd G lp (.lst ((labL n F).set ni (.int m))) p1 = _ := (upd_ne hpl).trans hsg1
      refine ⟨_, rfl, _, rfl, _, rfl, p1, _, 0, .int sg.i, rfl, rfl, .of hsg1, rfl, lp, _, sg.i, ni, rfl, rfl, g1, by rw [ei, labL_len]; exact ixN_nat li, ?_⟩
      refine ⟨_, rfl, _, rfl, _, rfl, p1, _, 1, .int sg.j, rfl, rfl, .of hsg2, rfl, lp, _, sg.j, nj, rfl, rfl, upd_same, by rw [ej, List.length_set, labL_len]; exact ixN_nat lj, ?_⟩
      rw [upd_upd, lab_one em']
      refine ⟨_, rfl, rfl, fun b o e => ?_, ?_⟩
      · rw [upd_ne (ne_of_none e hlp)]; exact s1 _ _ e
      · rw [upd_same, tk_snoc (edg_get es), turn_snoc, hF, ei, ej, Int.toNat_natCast, Int.toNat_natCast]
    · rintro σ G ⟨y, hy, rfl, s1, g1⟩
      refine ⟨_, hy, rfl, s1, ?_⟩
      rw [g1, List.take_of_length_le (by unfold edg; rw [List.length_map, hss.1]; exact Nat.le_refl _)]
      rfl
  · rintro σ G ⟨z, hz, rfl, s0, g0⟩
    refine ⟨_, rfl, k lp G s0 hlp ?_⟩
    rw [g0, show ((n : Int) - 0).toNat = n by omega]
def spCm : Sp := fun vs H Q _ => ∃ (l : Addr) (xs : List Int), vs = [.ref l] ∧ H l = some (.lst (xs.map V.int)) ∧ (∀ x ∈ xs, 1 ≤ x) ∧ Q (.int (gcdL xs : Nat)) H
theorem sc_cm : FnScope ["some", "one", "other"] ["some"] (defScope s_law_common) := ⟨rfl, rfl, rfl, by decide +kernel, rfl, by decide +kernel, by decide +kernel⟩
theorem ok_cm (D : Df K mg "_law_common" s_law_common ["some"] []) : Cal P w K mg base "_law_common" 1 ["some"] [] spCm := by
  refine D.calB (k := 0) sc_cm (fun vs H Q E h => by obtain ⟨_, _, rfl, _⟩ := h; rfl) (fun f cdv A outer s H vs Q E hr h => ?_)
  obtain ⟨l, xs, rfl, hl, hx, k⟩ := h
  refine ⟨_, (bx_scons (Bx.mk (ps_set (i := 1) sc_cm.nd rfl (Or.inl rfl) pe_int))
    (bx_scons (Bx.mk (ps_for PassesOwn.never rfl (pi_seqK (K := K) rfl (pv 0)) (pg_name (i := 2) sc_cm.nd rfl (Or.inl rfl)) (pss_one (ps_while PassesOwn.never (pt_cmpR op_gt (pv 2) pe_int (nomark _)) (pss_one (ps_par (i := 1) (j := 2) rfl sc_cm.nd rfl rfl (by decide) rfl rfl (pa_cons (pv 2) (pa_cons (pe_op op_mod (pv 1) (pv 2)) pa_nil)) (by rfl)))))))
    (Bx.mk (pss_one (ps_ret (pv 1)))))), ?_⟩
  refine st_set ?_
  refine st_for ?_
  refine ⟨_, rfl, false, l, rfl, ⟨_, SqL.of hl⟩, ?_⟩
  refine for_seq (k := false) (K := K) (a := l) (xs := xs.map V.int) (fun i σ G => ∃ z, σ = [some (.ref l), some (.int (gcdL (xs.take i) : Nat)), z] ∧ G = H) ⟨_, rfl, rfl⟩ (fun i σ G ⟨_, _, e⟩ => by rw [e]; exact SqL.of hl) ?_ ?_
  · rintro i x σ G ex ⟨z, rfl, rfl⟩
    rw [List.getElem?_map] at ex
    obtain ⟨n, en, rfl⟩ := Option.map_eq_some_iff.mp ex
    have hn := hx n (List.mem_of_getElem? en)
    refine while_by (fun σ H1 => H1 = G ∧ ∃ x y : Int, σ = [some (.ref l), some (.int x), some (.int y)] ∧ 0 ≤ x ∧ 0 ≤ y ∧ Int.gcd x y = Int.gcd (gcdL (xs.take i) : Int) n)
      (fun σ _ => match σ with | [_, _, some (.int y)] => y.toNat | _ => 0) ⟨rfl, _, n, rfl, by omega, by omega, rfl⟩ ?_ ?_
    · rintro σ H1 ⟨rfl, x, y, rfl, h1, h2, e⟩
      refine ⟨_, rfl, _, _, rfl, rfl, _, rfl, ite2 (fun h => ?_) (fun h => ?_)⟩
      · have h' : 0 < y := of_decide_eq_true h
        refine ⟨_, rfl, _, rfl, _, rfl, _, _, rfl, rfl, h', _, _, rfl, ⟨rfl, _, _, rfl, h2, Int.emod_nonneg _ (by omega), ?_⟩, ?_⟩
        · rw [KM.gcd_step h1 h']; exact e
        · show (x % y).toNat < y.toNat
          have := Int.emod_lt_of_pos x h'
          omega
      · have h' : ¬ 0 < y := fun z => h (decide_eq_true z)
        have : y = 0 := by omega
        subst this
        refine ⟨some (.int 0), ?_, rfl⟩
        rw [tk_snoc en, gcdL_snoc, ← e, Int.gcd_zero_right, Int.natAbs_of_nonneg h1]
    · rintro σ H1 Q1 Q2 hq ⟨v, e, i, j, e1, e2, k1, e3, q⟩
      exact ⟨v, e, i, j, e1, e2, k1, e3, hq _ _ q⟩
  · rintro σ G ⟨z, rfl, rfl⟩
    refine ⟨_, rfl, ?_⟩
    rw [List.length_map, List.take_length]
    exact k
def spLe : Sp := fun vs H Q _ => ∃ (aw lp : Addr) (ws ps : List Int), vs = [.ref aw, .ref lp] ∧ H aw = some (.tup (ws.map V.int)) ∧ H lp = some (.lst (ps.map V.int)) ∧ ps.length = ws.length ∧ ws.length ≤ 8 ∧ (∀ x ∈ ws, 1 ≤ x ∧ x ≤ 1000) ∧
  ∀ t (ls : List Int) H', Same H H' → H' t = some (.tup (ls.map V.int)) → ls.length = ws.length → (∀ (i : Nat) w p, ws[i]? = some w → ps[i]? = some p → (1 : Int) ≤ (gcdL (partW ws ps p) : Nat) ∧ ∃ l, ls[i]? = some l ∧ l * ((gcdL (partW ws ps p) : Nat) : Int) = w) → Q (.ref t) H'
theorem sc_le : FnScope ["weights", "parts", "found", "ball", "by"] ["weights", "parts"] (defScope s_law_least) := ⟨rfl, rfl, rfl, by decide +kernel, rfl, by decide +kernel, by decide +kernel⟩
theorem getD_of {α : Type} {xs : List α} {i : Nat} {x d : α} (h : xs[i]? = some x) : xs.getD i d = x := by rw [List.getD_eq_getElem?_getD, h]; rfl
theorem ok_le (D : Df K mg "_law_least" s_law_least ["weights", "parts"] []) (T : TxB K mg) (cCm : Cal P w K mg base "_law_common" 1 ["some"] [] spCm) : Cal P w K mg base "_law_least" 2 ["weights", "parts"] [] spLe := by
  refine D.calB (k := 1) sc_le (fun vs H Q E h => by obtain ⟨_, _, _, _, rfl, _⟩ := h; rfl) (fun f cdv A outer s H vs Q E hr h => ?_)
  obtain ⟨aw, lp, ws, ps, rfl, haw, hlp, hpl, wl, hw, k⟩ := h
  refine ⟨_, (bx_scons (Bx.mk (ps_set (i := 2) sc_le.nd rfl (Or.inl rfl) (pe_lst pa_nil)))
    (bx_scons (Bx.mk (ps_for PassesOwn.never rfl (pi_range1 rfl T.nRange (pa_cons (pe_callB call_len_seq (by rfl) T.nLen PySem.boot_len (pa_cons (pv 0) pa_nil)) pa_nil)) (pg_name (i := 3) sc_le.nd rfl (Or.inr rfl)) (pss_cons (ps_set (i := 4) sc_le.nd rfl (Or.inl rfl) (pe_c cCm hr (pa_cons (pe_compC (NB := ["other"]) (FR := ["weights", "parts", "ball"]) (js := [0, 1, 3]) rfl rfl (cl_cons rfl (cl_cons rfl (cl_cons rfl cl_nil))) (.cons rfl rfl rfl ⟨_, rfl⟩ (.cons rfl rfl rfl ⟨_, rfl⟩ (.cons rfl rfl rfl ⟨_, rfl⟩ .nil))) rfl (by decide +kernel) rfl (by decide +kernel) (pi_range1 rfl T.nRange (pa_cons (pe_callB call_len_seq (by rfl) T.nLen PySem.boot_len (pa_cons (pv 0) pa_nil)) pa_nil)) (by intro _ _ _; refine ⟨?_, ?_, ?_⟩; (exact (pg_name (i := 0) (show List.Nodup (["other", "weights", "parts", "ball"] : List Str) by decide +kernel) rfl (Or.inl rfl))); (exact (pts_one (pt_cmpR op_eq (pe_ix (ix_listK (K := K) rfl) (pv 2) (pv 0) (fun _ _ => rfl)) (pe_ix (ix_listK (K := K) rfl) (pv 2) (pv 3) (fun _ _ => rfl)) (nomark _)))); (exact (pe_ix (ix_tupK (K := K) rfl) (pv 1) (pv 0) (fun _ _ => rfl))))) pa_nil)))
    (pss_one (ps_expr (pe_bm PySem.F.plainAttrs_list PySem.F.slot_list_append PySem.F.type_list_append mt_append (pv 2) (pa_cons (pe_op op_fdivB (pe_ix ix_tup (pv 0) (pv 3) (fun _ _ => rfl)) (pv 4)) pa_nil)))))))
    (Bx.mk (pss_one (ps_ret (pe_callTy call_tuple_of (by rfl) T.nTuple PyProof.Rows.boot_tuple (pa_cons (pv 2) pa_nil))))))), ?_⟩
  refine ⟨by show 0 ≤ sizeLine; decide, fun lf hlf => ?_⟩
  have s0 := Same.upd (o := .lst []) hlf
  have g0 : upd H lf (.lst []) lf = some (.lst (([] : List Int).map V.int)) := upd_same
  generalize upd H lf (.lst []) = H0 at s0 g0
  dsimp only [gName]
  refine st_for ?_
  have hwl : ((ws.map V.int).length : Int) = (ws.length : Int) := by rw [List.length_map]
  refine ⟨_, rfl, aw, _, rfl, .inr (.of (s0 _ _ haw)), _, rfl, by omega, by omega, ?_⟩
  refine for_range (n := (((ws.map V.int).length : Int) - 0).toNat) (lo := 0) (fun i σ G => ∃ z, ∃ ls : List Int, z.length = 2 ∧ σ = some (.ref aw) :: some (.ref lp) :: some (.ref lf) :: z ∧ Same H G ∧ G lf = some (.lst (ls.map V.int)) ∧ ls.length = i ∧ ∀ (j : Nat) w p, j < i → ws[j]? = some w → ps[j]? = some p → (1 : Int) ≤ (gcdL (partW ws ps p) : Nat) ∧ ∃ l, ls[j]? = some l ∧ l * ((gcdL (partW ws ps p) : Nat) : Int) = w)
    ⟨[none, none], [], rfl, rfl, s0, g0, rfl, fun j w p h => by omega⟩ ?_ ?_
  · rintro i σ G0 hi ⟨z, ls, hz, rfl, s1, g1, hll, hls⟩
    match z, hz with
    | [z1, z2], _ =>
    have hi' : i < ws.length := by omega
    obtain ⟨wi, ewi⟩ : ∃ x, ws[i]? = some x := ⟨_, List.getElem?_eq_getElem hi'⟩
    obtain ⟨pi, epi⟩ : ∃ x, ps[i]? = some x := ⟨_, List.getElem?_eq_getElem (by omega)⟩
    have aiw : atI (ws.map V.int) (0 + (i : Int)) = some (.int wi) := by rw [Int.zero_add]; exact atI_nat (by rw [List.getElem?_map, ewi]; rfl)
    have aip : atI (ps.map V.int) (0 + (i : Int)) = some (.int pi) := by rw [Int.zero_add]; exact atI_nat (by rw [List.getElem?_map, epi]; rfl)
    dsimp only [gName]
    refine ⟨_, rfl, aw, _, rfl, .inr (.of (s1 _ _ haw)), _, rfl, by omega, by omega, fun D1 hD1 => ?_⟩
    refine compC_byZ (js := [0, 1, 3]) (N := ((ws.map V.int).length : Int).toNat) (n := 1) (fun o G ys => Same G0 G ∧ ys = (((List.range o).filter fun o => decide (ps.getD o 0 = pi)).map fun o => ws.getD o 0).map V.int) ⟨Same.upd hD1, rfl⟩ (fun o G ys ho _ => ho) (fun G ys _ => Nat.le_refl _) ?_ ?_
    · rintro o x zs G_ G ys Nx hN ho hz1 ⟨rfl, rfl⟩ ⟨s2, rfl⟩ hGD
      obtain ⟨y1, rfl⟩ := len1 hz1
      have S2 := s1.trans s2
      have ho' : o < ws.length := by omega
      obtain ⟨wo, ewo⟩ : ∃ x, ws[o]? = some x := ⟨_, List.getElem?_eq_getElem ho'⟩
      obtain ⟨po, epo⟩ : ∃ x, ps[o]? = some x := ⟨_, List.getElem?_eq_getElem (by omega)⟩
      have aow : atI (ws.map V.int) (0 + (o : Int)) = some (.int wo) := by rw [Int.zero_add]; exact atI_nat (by rw [List.getElem?_map, ewo]; rfl)
      have aop : atI (ps.map V.int) (0 + (o : Int)) = some (.int po) := by rw [Int.zero_add]; exact atI_nat (by rw [List.getElem?_map, epo]; rfl)
      have hyl : ((((List.range o).filter fun o => decide (ps.getD o 0 = pi)).map fun o => ws.getD o 0).map V.int).length ≤ o := by
        rw [List.length_map, List.length_map]
        exact Nat.le_trans (List.length_filter_le _ _) (by rw [List.length_range]; exact Nat.le_refl _)
      refine ⟨rfl, ?_⟩
      refine ⟨_, rfl, _, rfl, lp, _, _, _, rfl, rfl, .of (S2 _ _ hlp), aop, ?_⟩
      refine ⟨_, rfl, _, rfl, lp, _, _, _, rfl, rfl, .of (S2 _ _ hlp), aip, rfl, _, rfl, ?_⟩
      rw [vint_dec]
      by_cases c : po = pi
      · rw [decide_eq_true c]
        refine iteT ?_
        refine ⟨_, rfl, _, rfl, aw, _, _, _, rfl, rfl, .of (S2 _ _ haw), aow, hGD, small1000 (by omega), hN _ _ ⟨fun b u e => ?_, ?_⟩⟩
        · rw [upd_ne (ne_of_none e hD1)]; exact s2 _ _ e
        · rw [filter_succ, getD_of epo, decide_eq_true c, if_pos rfl, List.map_append, getD_of ewo]; rfl
      · rw [decide_eq_false c]
        refine iteF ⟨hGD, hN _ _ ⟨s2, ?_⟩⟩
        rw [filter_succ, getD_of epo, decide_eq_false c, if_neg (by decide), List.append_nil]
    rintro G ys ⟨s2, rfl⟩ hGD
    have eN : ((ws.map V.int).length : Int).toNat = ws.length := by rw [List.length_map]; omega
    rw [eN] at hGD
    have hGD' : G D1 = some (.lst ((partW ws ps pi).map V.int)) := hGD
    have hmem := partW_mem ewi epi
    have hwi := hw wi (List.mem_of_getElem? ewi)
    have gp := gcdL_pos hmem hwi.1
    have gle := gcdL_le hmem hwi.1
    refine ⟨D1, partW ws ps pi, rfl, hGD', fun x hx => ?_, ?_⟩
    · unfold partW at hx
      obtain ⟨o, ho, rfl⟩ := List.mem_map.mp hx
      have ho' := List.mem_range.mp (List.mem_filter.mp ho).1
      rw [getD_of (List.getElem?_eq_getElem ho')]
      exact (hw _ (List.getElem_mem ho')).1
    dsimp only [gName]
    have S2 := s1.trans s2
    have g2 := s2 _ _ g1
    refine ⟨_, rfl, .inl ⟨rfl, _, SqL.of g2⟩, ?_⟩
    refine ⟨_, rfl, _, rfl, aw, _, _, _, rfl, rfl, .of (S2 _ _ haw), aiw, _, rfl, _, _, rfl, rfl, ⟨by omega, Bd.mono (m := 11) (bdn (by omega) (by omega)) (by decide)⟩, ?_⟩
    refine ⟨lf, _, _, rfl, rfl, g2, small1000 (by simp; omega), ?_⟩
    refine ⟨_, ls ++ [wi.fdiv ((gcdL (partW ws ps pi) : Nat) : Int)], rfl, rfl, fun b o e => ?_, by rw [upd_same, List.map_append]; rfl, by simp [hll], fun j w p hj ew ep => ?_⟩
    · rw [upd_ne (ne_of_none e hlf)]; exact S2 _ _ e
    · by_cases hj' : j < i
      · obtain ⟨h1, l, el, h2⟩ := hls j w p hj' ew ep
        exact ⟨h1, l, by rw [List.getElem?_append_left (by omega)]; exact el, h2⟩
      · have : j = i := by omega
        subst this
        rw [ewi] at ew; cases ew
        rw [epi] at ep; cases ep
        refine ⟨by omega, _, by rw [List.getElem?_append_right (by omega), hll, Nat.sub_self]; rfl, fdiv_exact (gcdL_dvd hmem)⟩
  · rintro σ G ⟨z, ls, hz, rfl, s1, g1, hll, hls⟩
    have eN : (((ws.map V.int).length : Int) - 0).toNat = ws.length := by rw [List.length_map]; omega
    rw [eN] at hll hls
    refine ⟨_, rfl, lf, _, rfl, .inl ⟨.of g1, fun t ht => k t ls _ (s1.trans (Same.upd ht)) upd_same hll fun i w p ew ep => hls i w p (List.getElem?_eq_some_iff.mp ew).1 ew ep⟩⟩
end
end KK
end
section
set_option maxHeartbeats 8000000
set_option Elab.async false
set_option linter.all false
set_option maxRecDepth 100000
namespace KK
open PySem L2 KM
theorem SgL.nil {H : Hp} : SgL H [] [] := ⟨rfl, fun i s m => by simp at m⟩
theorem SgL.snoc {H : Hp} {vs : List V} {ss : List Sg} {v : V} {s : Sg} (h : SgL H vs ss) (a : SgAt H v s) (z : SgZ s) : SgL H (vs ++ [v]) (ss ++ [s]) := by
  refine ⟨by simp [h.1], fun i s' m => ?_⟩
  by_cases hi : i < ss.length
  · rw [List.getElem?_append_left hi] at m
    obtain ⟨u, b, c⟩ := h.2 i s' m
    exact ⟨u, by rw [List.getElem?_append_left (by rw [h.1]; exact hi)]; exact b, c⟩
  · rw [List.getElem?_append_right (by omega)] at m
    have h0 : i - ss.length = 0 := by
      have := (List.getElem?_eq_some_iff.mp m).1
      simp at this; omega
    rw [h0] at m
    have : s = s' := by simpa using m
    subst this
    exact ⟨v, by rw [List.getElem?_append_right (by rw [h.1]; omega), h.1, h0]; rfl, a, z⟩
theorem SgL.cons {H : Hp} {vs : List V} {ss : List Sg} {v : V} {s : Sg} (h : SgL H vs ss) (a : SgAt H v s) (z : SgZ s) : SgL H (v :: vs) (s :: ss) := by
  refine ⟨by simp [h.1], fun i s' m => ?_⟩
  cases i with
  | zero => have : s = s' := by simpa using m
            subst this; exact ⟨v, rfl, a, z⟩
  | succ i => simpa using h.2 i s' (by simpa using m)
theorem rat_unit {H : Hp} {p : Addr} {m : Int} (h : H p = some (.tup [.int 1, .int m])) (h0 : 1 ≤ m) (h1 : m ≤ 12) : RatAt H p (Rat.divInt 1 m) ∧ Rat.divInt 1 m ≠ 0 ∧ Sz 4 (Rat.divInt 1 m) := by
  have : m = 1 ∨ m = 2 ∨ m = 3 ∨ m = 4 ∨ m = 5 ∨ m = 6 ∨ m = 7 ∨ m = 8 ∨ m = 9 ∨ m = 10 ∨ m = 11 ∨ m = 12 := by omega
  refine ⟨?_, div_ne (by decide) (by omega), sz_qq (by omega) (by omega) (by omega) (by omega)⟩
  unfold RatAt
  rw [h]
  rcases this with rfl | rfl | rfl | rfl | rfl | rfl | rfl | rfl | rfl | rfl | rfl | rfl <;> rfl
theorem unit_ne1 {d : Int} (h0 : 0 ≤ d) : Rat.divInt 1 (2 + d) ≠ 1 := fun z => by
  have h1 : (1 : Rat) = Rat.divInt 1 1 := rfl
  rw [h1, Rat.divInt_eq_divInt_iff (by omega) (by decide)] at z
  omega
section
variable {P : Program} {w : World} {K : PySem.W.Frag} {mg : Str → Option Value} {base : Heap} {aN : Addr}
def spBo : Sp := fun vs H Q _ => ∃ p u g, vs = [.ref p, u] ∧ Pool H p ∧ SgAt H u g ∧ SgY g ∧ ∀ l xs bs H', Step p H H' → H l = none → l ≠ p → H' l = some (.lst xs) → SgL H' xs bs → xs.length = 6 → (∀ ws, GdS ws g → ∀ b ∈ bs, BdS ws g b) → Q (.ref l) H'
theorem sc_bo : FnScope ["pool", "sighting", "i", "j", "v", "w", "v2", "w2", "part", "more", "found"] ["pool", "sighting"] (defScope s_law_bad_ones) := ⟨rfl, rfl, rfl, by decide +kernel, rfl, by decide +kernel, by decide +kernel⟩
theorem ok_bo (D : Df K mg "_law_bad_ones" s_law_bad_ones ["pool", "sighting"] []) (cN : Cal P w K mg base "_law_next" 1 ["pool", "base"] [] spNext) (cL : Cal P w K mg base "_law_lowest" 1 ["top", "bottom"] [] spLow) (cS : Cal P w K mg base "_law_sum" 2 ["one", "other"] [] (spBin Sz2 (· + ·))) (cSo : Cal P w K mg base "_law_softer" 4 ["sighting", "part"] [] spSo) : Cal P w K mg base "_law_bad_ones" 5 ["pool", "sighting"] [] spBo := by
  refine D.calB (k := 4) sc_bo (fun vs H Q E h => by obtain ⟨_, _, _, rfl, _⟩ := h; rfl) (fun f cdv A outer s H vs Q E hr h => ?_)
  obtain ⟨p, u, g, rfl, hP, hu0, zg, k⟩ := h
  obtain ⟨a, av, aw, av2, aw2, rfl, ha, hv, hw, hv2, hw2⟩ := id hu0
  obtain ⟨z1, z2, z3, z4⟩ := id zg
  have hr1 : Room 1 _ := hr.mono (by decide)
  have hr2 : Room 2 _ := hr.mono (by decide)
  refine ⟨_, (bx_scons (Bx.mk (ps_asg (pv 1) (pg_tup rfl (pgs_cons (pg_name (i := 2) sc_bo.nd rfl (Or.inl rfl)) (pgs_cons (pg_name (i := 3) sc_bo.nd rfl (Or.inl rfl)) (pgs_cons (pg_name (i := 4) sc_bo.nd rfl (Or.inl rfl)) (pgs_cons (pg_name (i := 5) sc_bo.nd rfl (Or.inl rfl)) (pgs_cons (pg_name (i := 6) sc_bo.nd rfl (Or.inl rfl)) (pgs_cons (pg_name (i := 7) sc_bo.nd rfl (Or.inl rfl)) pgs_nil)))))))))
    (bx_scons (Bx.mk (ps_set (i := 8) sc_bo.nd rfl (Or.inl rfl) (pe_c cL hr1 (pa_cons pe_int (pa_cons (pe_op op_add pe_int (pe_c cN hr1 (pa_cons (pv 0) (pa_cons pe_int pa_nil)))) pa_nil)))))
    (bx_scons (Bx.mk (ps_set (i := 9) sc_bo.nd rfl (Or.inl rfl) (pe_tup (pa_cons pe_int (pa_cons (pe_op op_add pe_int (pe_c cN hr1 (pa_cons (pv 0) (pa_cons pe_int pa_nil)))) pa_nil)))))
    (bx_scons (Bx.mk (ps_set (i := 10) sc_bo.nd rfl (Or.inl rfl) (pe_lst (pa_cons (pe_tup (pa_cons (pv 2) (pa_cons (pv 3) (pa_cons (pv 4) (pa_cons (pv 5) (pa_cons (pe_c cS hr2 (pa_cons (pv 6) (pa_cons (pv 9) pa_nil))) (pa_cons (pv 7) pa_nil))))))) (pa_cons (pe_c cSo hr (pa_cons (pv 1) (pa_cons (pv 8) pa_nil))) (pa_cons (pe_tup (pa_cons (pv 2) (pa_cons (pv 3) (pa_cons (pv 4) (pa_cons (pv 4) (pa_cons (pv 4) (pa_cons (pv 4) pa_nil))))))) pa_nil))))))
    (bx_scons (Bx.mk (ps_expr (pe_bm PySem.F.plainAttrs_list PySem.F.slot_list_append PySem.F.type_list_append mt_append (pv 10) (pa_cons (pe_tup (pa_cons (pv 2) (pa_cons (pv 3) (pa_cons (pv 4) (pa_cons (pv 5) (pa_cons (pe_c cS hr2 (pa_cons (pv 6) (pa_cons (pv 9) pa_nil))) (pa_cons (pe_c cS hr2 (pa_cons (pv 7) (pa_cons (pv 9) pa_nil))) pa_nil))))))) pa_nil))))
    (Bx.mk (pss_one (ps_ret (pe_op op_cat (pv 10) (pe_lst (pa_cons (pe_tup (pa_cons (pv 2) (pa_cons (pv 3) (pa_cons (pv 5) (pa_cons (pv 4) (pa_cons (pv 6) (pa_cons (pv 7) pa_nil))))))) (pa_cons (pe_tup (pa_cons (pv 2) (pa_cons (pv 3) (pa_cons (pv 4) (pa_cons (pv 5) (pa_cons (pv 4) (pa_cons (pv 5) pa_nil))))))) pa_nil)))))))))))), ?_⟩
  refine ⟨_, rfl, a, _, rfl, .of ha, rfl, _, _, rfl, _, _, rfl, _, _, rfl, _, _, rfl, _, _, rfl, _, _, rfl, rfl, ?_⟩
  refine ⟨_, rfl, p, _, rfl, by decide, by decide, hP, fun d G1 d0 d1 t1 => ⟨_, _, rfl, rfl, ?_⟩⟩
  refine ⟨_, _, rfl, by omega, Bd.mono (m := 5) (bdn (by omega) (by omega)) (by decide), fun rq G2 s2 hrq => ?_⟩
  dsimp only [gName]
  have zq : Sz 5 (Rat.divInt 1 (2 + d)) := sz_qq (by omega) (by omega) (by omega) (by omega)
  have nq := unit_ne1 d0
  have T2 := t1.same s2
  refine ⟨_, rfl, p, _, rfl, by decide, by decide, T2.pool, fun e G3 e0 e1 t3 => ⟨_, _, rfl, rfl, by show 2 ≤ sizeLine; decide, fun tm htm => ?_⟩⟩
  have s4 := Same.upd (o := .tup [.int 1, .int (1 + e)]) htm
  have g4 : upd G3 tm (.tup [.int 1, .int (1 + e)]) tm = some (.tup [.int 1, .int (1 + e)]) := upd_same
  have T4 := (T2.trans t3).same s4
  generalize upd G3 tm (.tup [.int 1, .int (1 + e)]) = G4 at s4 g4 T4
  have hrq4 : RatAt G4 rq (Rat.divInt 1 (2 + d)) := s4 _ _ (step_tups T2.pool t3 _ _ hrq)
  obtain ⟨hm4, nm, zm⟩ := rat_unit g4 (by omega) (by omega)
  generalize Rat.divInt 1 (1 + e) = m at hm4 nm zm
  generalize Rat.divInt 1 (2 + d) = x at hrq4 nq zq
  dsimp only [gName]
  have U4 := step_tups hP T4
  have hu4 := hu0.tups U4
  have hv4 : RatAt G4 av g.v := U4 _ _ hv
  have hw4 : RatAt G4 aw g.w := U4 _ _ hw
  have hv24 : RatAt G4 av2 g.v2 := U4 _ _ hv2
  have hw24 : RatAt G4 aw2 g.w2 := U4 _ _ hw2
  clear hrq g4 s4 htm t3 T2 s2 t1 hv hw hv2 hw2 ha hu0
  have y1 : ∀ {q : Rat}, Sz 100 q → Sz 1500 q := fun h => h.mono (by decide)
  have y2 : ∀ {q : Rat}, Sz 400 q → Sz 1500 q := fun h => h.mono (by decide)
  have zvm : Sz 1500 (g.v2 + m) := (z3.add zm).mono (by decide)
  have zwm : Sz 1500 (g.w2 + m) := (z4.add zm).mono (by decide)
  -- three of them
  refine ⟨_, rfl, _, rfl, _, rfl, _, rfl, _, rfl, _, rfl, av2, tm, _, _, rfl, hv24, hm4, ⟨z3.mono (by decide), zm.mono (by decide)⟩, fun r1 G5 s5 h1 => ⟨_, rfl, by show 6 ≤ sizeLine; decide, fun t1 ht1 => ?_⟩⟩
  have s6 := Same.upd (o := .tup [.int g.i, .int g.j, .ref av, .ref aw, .ref r1, .ref aw2]) ht1
  have g6 : upd G5 t1 (.tup [.int g.i, .int g.j, .ref av, .ref aw, .ref r1, .ref aw2]) t1 = some (.tup [.int g.i, .int g.j, .ref av, .ref aw, .ref r1, .ref aw2]) := upd_same
  generalize upd G5 t1 (.tup [.int g.i, .int g.j, .ref av, .ref aw, .ref r1, .ref aw2]) = G6 at s6 g6
  have S6 := s5.trans s6
  have L6 : SgL G6 [.ref t1] [⟨g.i, g.j, g.v, g.w, g.v2 + m, g.w2⟩] := SgL.nil.cons (sgAt g6 (S6 _ _ hv4) (S6 _ _ hw4) (s6 _ _ h1) (S6 _ _ hw24)) ⟨y1 z1, y1 z2, zvm, y2 z4⟩
  refine ⟨_, rfl, _, rfl, .ref a, rq, g, x, rfl, hu4.tups (.of S6), zg, S6 _ _ hrq4, zq, fun t2 G7 s7 h2 zs => ?_⟩
  have S7 := S6.trans s7
  have L7 := (L6.tups (.of s7)).snoc h2 zs
  refine ⟨_, rfl, _, rfl, _, rfl, _, rfl, _, rfl, _, rfl, by show 6 ≤ sizeLine; decide, fun t3 ht3 => ?_⟩
  have s8 := Same.upd (o := .tup [.int g.i, .int g.j, .ref av, .ref av, .ref av, .ref av]) ht3
  have g8 : upd G7 t3 (.tup [.int g.i, .int g.j, .ref av, .ref av, .ref av, .ref av]) t3 = some (.tup [.int g.i, .int g.j, .ref av, .ref av, .ref av, .ref av]) := upd_same
  generalize upd G7 t3 (.tup [.int g.i, .int g.j, .ref av, .ref av, .ref av, .ref av]) = G8 at s8 g8
  have S8 := S7.trans s8
  have L8 := (L7.tups (.of s8)).snoc (sgAt g8 (S8 _ _ hv4) (S8 _ _ hv4) (S8 _ _ hv4) (S8 _ _ hv4)) ⟨y1 z1, y1 z1, y1 z1, y1 z1⟩
  refine ⟨by show 3 ≤ sizeLine; decide, fun ls hls => ?_⟩
  have s9 := Same.upd (o := .lst [.ref t1, .ref t2, .ref t3]) hls
  have g9 : upd G8 ls (.lst [.ref t1, .ref t2, .ref t3]) ls = some (.lst [.ref t1, .ref t2, .ref t3]) := upd_same
  have T8 := T4.same S8
  have hlsp := T8.pool.ne hls
  have hlsH := T8.free hls
  have L9 := L8.tups (.of s9)
  have S9 := S8.trans s9
  generalize upd G8 ls (.lst [.ref t1, .ref t2, .ref t3]) = G9 at s9 g9 L9 S9
  have T9 := T4.same S9
  dsimp only [gName]
  clear g6 g8 L6 L7 L8 s5 s6 s7 s8 s9 h1 h2 zs ht1 ht3 hls S6 S7 S8 T8
  have hv9 : RatAt G9 av g.v := S9 _ _ hv4
  have hw9 : RatAt G9 aw g.w := S9 _ _ hw4
  have hv29 : RatAt G9 av2 g.v2 := S9 _ _ hv24
  have hw29 : RatAt G9 aw2 g.w2 := S9 _ _ hw24
  have hm9 : RatAt G9 tm m := S9 _ _ hm4
  -- the fourth
  refine st_mid (fun σ' G => σ' = [some (.ref p), some (.ref a), some (.int g.i), some (.int g.j), some (.ref av), some (.ref aw), some (.ref av2), some (.ref aw2), some (.ref rq), some (.ref tm), some (.ref ls)] ∧ Step p H G ∧ TupS G9 G ∧ ∃ t4, G ls = some (.lst [.ref t1, .ref t2, .ref t3, .ref t4]) ∧ SgL G [.ref t1, .ref t2, .ref t3, .ref t4] [⟨g.i, g.j, g.v, g.w, g.v2 + m, g.w2⟩, soS g x, ⟨g.i, g.j, g.v, g.v, g.v, g.v⟩, ⟨g.i, g.j, g.v, g.w, g.v2 + m, g.w2 + m⟩]) ?_ ?_
  rotate_left
  · intro nx hnx
    refine ⟨_, rfl, .inl ⟨rfl, _, SqL.of g9⟩, ?_⟩
    refine ⟨_, rfl, _, rfl, _, rfl, _, rfl, _, rfl, _, rfl, av2, tm, _, _, rfl, hv29, hm9, ⟨z3.mono (by decide), zm.mono (by decide)⟩, fun r1 F1 s1 h1 => ?_⟩
    refine ⟨_, rfl, _, rfl, aw2, tm, _, _, rfl, s1 _ _ hw29, s1 _ _ hm9, ⟨z4.mono (by decide), zm.mono (by decide)⟩, fun r2 F2 s2 h2 => ?_⟩
    refine ⟨by show 6 ≤ sizeLine; decide, fun t4 ht4 => ?_⟩
    have s3 := Same.upd (o := .tup [.int g.i, .int g.j, .ref av, .ref aw, .ref r1, .ref r2]) ht4
    have g3 : upd F2 t4 (.tup [.int g.i, .int g.j, .ref av, .ref aw, .ref r1, .ref r2]) t4 = some (.tup [.int g.i, .int g.j, .ref av, .ref aw, .ref r1, .ref r2]) := upd_same
    generalize upd F2 t4 (.tup [.int g.i, .int g.j, .ref av, .ref aw, .ref r1, .ref r2]) = F3 at s3 g3
    have S3 := s1.trans (s2.trans s3)
    have g9' := S3 _ _ g9
    refine ⟨ls, _, _, rfl, rfl, g9', small1000 (by show 3 ≤ 1000; decide), ?_⟩
    have TL : TupS F3 (upd F3 ls (.lst ([.ref t1, .ref t2, .ref t3] ++ [.ref t4]))) := .upd g9'
    have TA := (TupS.of S3).trans TL
    exact hnx _ _ ⟨rfl, (T9.same S3).put hlsH hlsp _, TA, t4, upd_same, (L9.tups TA).snoc (sgAt (TL _ _ g3) (TA _ _ hv9) (TA _ _ hw9) (TL _ _ (s3 _ _ (s2 _ _ h1))) (TL _ _ (s3 _ _ h2))) ⟨y1 z1, y1 z2, zvm, zwm⟩⟩
  rintro σ' G10 ⟨rfl, T10, U10, t4, g10, L10⟩
  have hv10 : RatAt G10 av g.v := U10 _ _ hv9
  have hw10 : RatAt G10 aw g.w := U10 _ _ hw9
  have hv210 : RatAt G10 av2 g.v2 := U10 _ _ hv29
  have hw210 : RatAt G10 aw2 g.w2 := U10 _ _ hw29
  clear hv9 hw9 hv29 hw29 hm9 U10 L9 g9 S9 T9
  refine ⟨_, rfl, ?_⟩
  refine ⟨_, rfl, _, rfl, _, rfl, _, rfl, _, rfl, _, rfl, by show 6 ≤ sizeLine; decide, fun t5 ht5 => ?_⟩
  have s1 := Same.upd (o := .tup [.int g.i, .int g.j, .ref aw, .ref av, .ref av2, .ref aw2]) ht5
  have g1 : upd G10 t5 (.tup [.int g.i, .int g.j, .ref aw, .ref av, .ref av2, .ref aw2]) t5 = some (.tup [.int g.i, .int g.j, .ref aw, .ref av, .ref av2, .ref aw2]) := upd_same
  generalize upd G10 t5 (.tup [.int g.i, .int g.j, .ref aw, .ref av, .ref av2, .ref aw2]) = F1 at s1 g1
  have L1 := (L10.tups (.of s1)).snoc (sgAt g1 (s1 _ _ hw10) (s1 _ _ hv10) (s1 _ _ hv210) (s1 _ _ hw210)) ⟨y1 z2, y1 z1, y2 z3, y2 z4⟩
  refine ⟨_, rfl, _, rfl, _, rfl, _, rfl, _, rfl, _, rfl, by show 6 ≤ sizeLine; decide, fun t6 ht6 => ?_⟩
  have s2 := Same.upd (o := .tup [.int g.i, .int g.j, .ref av, .ref aw, .ref av, .ref aw]) ht6
  have g2 : upd F1 t6 (.tup [.int g.i, .int g.j, .ref av, .ref aw, .ref av, .ref aw]) t6 = some (.tup [.int g.i, .int g.j, .ref av, .ref aw, .ref av, .ref aw]) := upd_same
  generalize upd F1 t6 (.tup [.int g.i, .int g.j, .ref av, .ref aw, .ref av, .ref aw]) = F2 at s2 g2
  have S2 := s1.trans s2
  have L2 := (L1.tups (.of s2)).snoc (sgAt g2 (S2 _ _ hv10) (S2 _ _ hw10) (S2 _ _ hv10) (S2 _ _ hw10)) ⟨y1 z1, y1 z2, y1 z1, y1 z2⟩
  refine ⟨by show 2 ≤ sizeLine; decide, fun l2 hl2 => ?_⟩
  have s3 := Same.upd (o := .lst [.ref t5, .ref t6]) hl2
  have S3 := S2.trans s3
  refine ⟨ls, l2, _, _, rfl, rfl, S3 _ _ g10, upd_same, szl (by show 6 ≤ 1000; decide), fun l3 hl3 => ?_⟩
  have s4 := Same.upd (o := .lst ([.ref t1, .ref t2, .ref t3, .ref t4] ++ [.ref t5, .ref t6])) hl3
  have T3 := T10.same S3
  refine k l3 _ _ _ (T3.same s4) (T3.free hl3) (T3.pool.ne hl3) upd_same ((L2.tups (.of s3)).tups (.of s4)) rfl fun ws hg b hb => ?_
  simp only [List.cons_append, List.nil_append, List.mem_cons, List.not_mem_nil, or_false] at hb
  rcases hb with rfl | rfl | rfl | rfl | rfl | rfl
  · exact bad1 hg nm
  · exact bad2 hg nq
  · exact bad3
  · exact bad4 hg nm
  · exact bad5 hg
  · exact bad6 hg
end
end KK
end
section
set_option maxHeartbeats 8000000
set_option Elab.async false
set_option linter.all false
set_option maxRecDepth 100000
namespace KK
open PySem L2 KM
def Lay (n : Nat) (d : PyData) : Prop := PyData.canLay0 d = true ∧ PyData.depth d ≤ n
theorem lays {n : Nat} : ∀ {ds : List PyData}, (∀ d ∈ ds, Lay n d) → PyData.canLayAll0 ds = true ∧ PyData.depthAll ds ≤ n
  | [], _ => ⟨rfl, Nat.zero_le _⟩
  | d :: ds, h => by
    obtain ⟨h1, h2⟩ := lays (ds := ds) fun e m => h e (List.mem_cons_of_mem _ m)
    obtain ⟨h3, h4⟩ := h d (List.mem_cons_self ..)
    refine ⟨?_, ?_⟩
    · show (PyData.canLay0 d && _) = true
      rw [h1, h3]; rfl
    · show max (PyData.depth d) _ ≤ n
      omega
theorem Lay.tup {n : Nat} {ds : List PyData} (h : ∀ d ∈ ds, Lay n d) : Lay (n + 1) (.tuple ds) := ⟨(lays h).1, Nat.succ_le_succ (lays h).2⟩
theorem Lay.mono {m n : Nat} {d : PyData} (h : Lay m d) (e : m ≤ n) : Lay n d := ⟨h.1, Nat.le_trans h.2 e⟩
theorem Lay.int (i : Int) : Lay 0 (.int i) := ⟨rfl, Nat.le_refl _⟩
theorem Lay.non : Lay 0 .none := ⟨rfl, Nat.le_refl _⟩
theorem Lay.rat (x : Rat) : Lay 1 (rD x) := Lay.tup fun d m => by
  rcases List.mem_cons.mp m with rfl | m
  · exact .int _
  · rcases List.mem_cons.mp m with rfl | m
    · exact .int _
    · cases m
theorem Lay.shaped {n : Nat} {d : PyData} (h : Lay n d) (e : n ≤ 64) : SeqAt.shaped d = true := by
  show (_ && _) = true
  rw [h.1, decide_eq_true (Nat.le_trans h.2 e)]; rfl
theorem Lay.self {n : Nat} {d : PyData} (h : Lay n d) : PyData.eqv d d = true := SeqAt.eqv_refl _ h.1
theorem Lay.lst {n : Nat} {ds : List PyData} (h : ∀ d ∈ ds, Lay n d) : Lay (n + 1) (.list ds) := ⟨(lays h).1, Nat.succ_le_succ (lays h).2⟩
def sgD (s : Sg) : PyData := .tuple [.int s.i, .int s.j, rD s.v, rD s.w, rD s.v2, rD s.w2]
theorem lay_sg (s : Sg) : Lay 2 (sgD s) := Lay.tup fun d m => by
  simp only [List.mem_cons, List.not_mem_nil, or_false] at m
  rcases m with rfl | rfl | rfl | rfl | rfl | rfl
  · exact (Lay.int _).mono (by decide)
  · exact (Lay.int _).mono (by decide)
  · exact Lay.rat _
  · exact Lay.rat _
  · exact Lay.rat _
  · exact Lay.rat _
theorem SgAt.rd {H : Hp} {v : V} {s : Sg} (h : SgAt H v s) : RdD H v (sgD s) := by
  obtain ⟨a, p, q, p2, q2, rfl, ha, h1, h2, h3, h4⟩ := h
  exact .tup ha (.cons (.int _) (.cons (.int _) (.cons h1.rd (.cons h2.rd (.cons h3.rd (.cons h4.rd .nil))))))
theorem SgL.rds {H : Hp} : ∀ {vs : List V} {ss : List Sg}, SgL H vs ss → RdDs H vs (ss.map sgD)
  | [], [], _ => .nil
  | [], _ :: _, h => by have := h.1; simp at this
  | _ :: _, [], h => by have := h.1; simp at this
  | u :: us, r :: rs, h => by
    obtain ⟨v, a, b, _⟩ := h.2 0 r rfl
    have a : u = v := by simpa using a
    subst a
    exact .cons b.rd (SgL.rds ⟨by simpa using h.1, fun i q e => by simpa using h.2 (i + 1) q (by simpa using e)⟩)

theorem SgL.rd {H : Hp} {l : Addr} {vs : List V} {ss : List Sg} (h : H l = some (.lst vs)) (k : SgL H vs ss) : RdD H (.ref l) (.list (ss.map sgD)) := .lst h k.rds
theorem sgs_shaped (ss : List Sg) : SeqAt.shaped (.list (ss.map sgD)) = true := (Lay.lst (n := 2) fun d m => by obtain ⟨e, _, rfl⟩ := List.mem_map.mp m; exact lay_sg e).shaped (by decide)
theorem sgs_nil (ss : List Sg) : PyData.eqv (.list (ss.map sgD)) (.list []) = ss.isEmpty := by
  cases ss with
  | nil => rfl
  | cons s ss => rfl
theorem atI_last {α : Type} (xs : List α) (x : α) : atI (xs ++ [x]) (-1) = some x := by
  have e : ixN (xs ++ [x]).length (-1) = some xs.length := by
    unfold ixN
    rw [if_neg (by decide), List.length_append, List.length_singleton]
    rw [if_pos (by omega)]
    congr 1; omega
  unfold atI
  rw [e]
  simp
def isD (ws : List Int) : PyData := .tuple (ws.map PyData.int)
theorem rds_ints {H : Hp} : ∀ ws : List Int, RdDs H (ws.map V.int) (ws.map PyData.int)
  | [] => .nil
  | w :: ws => .cons (.int w) (rds_ints ws)
theorem ints_of {H : Hp} : ∀ {vs : List V} {ws : List Int}, RdDs H vs (ws.map PyData.int) → vs = ws.map V.int
  | _, [], h => by cases h; rfl
  | _, w :: ws, h => by
    cases h with
    | cons a b => cases a; rw [ints_of b]; rfl
theorem rd_isD {H : Hp} {a : Addr} {ws : List Int} (h : H a = some (.tup (ws.map V.int))) : RdD H (.ref a) (isD ws) := .tup h (rds_ints ws)
theorem of_isD {H : Hp} {v : V} {ws : List Int} (h : RdD H v (isD ws)) : ∃ a, v = .ref a ∧ H a = some (.tup (ws.map V.int)) := by
  unfold isD at h
  cases h with
  | tup e r => exact ⟨_, rfl, by rw [e, ints_of r]⟩
def IsW (n : Nat) (d : PyData) : Prop := ∃ ws : List Int, d = isD ws ∧ ws.length = n ∧ ∀ w ∈ ws, Bd 4000 w
section
variable {N : List Addr} {σ : St} {H : Hp} {K : PySem.W.Frag}
theorem dt_repN {ta tb : TE} {i : Int} {n : Nat} (ha : Dt N ta σ H (.tuple [.int i])) (hb : Dt N tb σ H (.int (n : Int))) (h1 : 1 ≤ n) (h2 : n ≤ 8) : Dt N (tOp (rRepN K) ta tb) σ H (isD (List.replicate n i)) := fun H1 a Q k =>
  ha H1 a _ fun v H2 e2 r2 => hb H2 (a.go e2) _ fun y H3 e3 r3 => by
    have r2' := r2.same (same_del e3)
    have L := (a.l.same (e2.trans e3))
    cases r3
    cases r2' with
    | @tup b xs _ z zs =>
      cases zs with
      | @cons x _ _ _ h hs =>
        cases hs
        cases h
        refine ⟨b, .int i, n, rfl, rfl, .of (del_some z).1, h1, by omega, fun e => ?_, fun e p hp => ?_⟩
        · subst e
          exact k _ H3 (e2.trans e3) (.tup z (rds_ints [i]))
        · have : List.replicate n (V.int i) = (List.replicate n i).map V.int := by rw [List.map_replicate]
          rw [this]
          exact k _ _ ((e2.trans e3).trans (Same.upd hp)) (.tup (del_of upd_same (L.nnew hp)) (rds_ints _))
theorem dt_cut {te : TE} {i j n : Nat} {v : V} {ws : List Int} {x : Int} (hv : σ[i]? = some (some v)) (rv : RdD H v (isD ws)) (hj : σ[j]? = some (some (.int (n : Int)))) (hx : Dt N te σ H (.int x)) (hn : n < ws.length) (hl : ws.length ≤ 8) :
    Dt N (tOp (rCatA K) (tOp (rCatA K) (tSl (fun x lo hi H Q => rSlT K x lo hi H Q ∨ rSlW K x lo hi H Q) (tVar i) tNoPart (tPart (tVar j))) (tTup (tCons te tNil)))
      (tSl (fun x lo hi H Q => rSlT K x lo hi H Q ∨ rSlW K x lo hi H Q) (tVar i) (tPart (tOp (rI0 fun i j => .int (i + j)) (tVar j) (tC (.int 1)))) tNoPart)) σ H (isD (ws.set n x)) := by
  have hv' : Dt N (tVar i) σ H (.tuple (ws.map PyData.int)) := dt_var hv rv
  have hj' : Dt N (tVar j) σ H (.int (n : Int)) := dt_var hj (.int _)
  have h1 := dt_sl (K := K) hv' dp_none (dp_some hj')
  have h2 : Dt N (tTup (tCons te tNil)) σ H (.tuple [.int x]) := dt_tup (da_cons hx da_nil) (by show 1 ≤ sizeLine; decide)
  have h3 := dt_sl (K := K) hv' (dp_some (dt_add hj' (dt_int (i := 1)))) dp_none
  rw [cutG_to] at h1
  rw [cutG_from1] at h3
  have l1 : ((ws.map PyData.int).take n).length + [PyData.int x].length ≤ sizeLine := szl (by simp; omega)
  have l2 : ((ws.map PyData.int).take n ++ [PyData.int x]).length + ((ws.map PyData.int).drop (n + 1)).length ≤ sizeLine := szl (by simp; omega)
  refine dt_eq (dt_catT (dt_catT h1 h2 l1) h3 l2) ?_
  unfold isD
  rw [List.set_eq_take_append_cons_drop, if_pos hn, List.map_append, List.map_cons, List.map_take, List.map_drop, List.append_assoc]
  rfl
theorem dt_ixI {i j n : Nat} {v : V} {ws : List Int} {x : Int} (hv : σ[i]? = some (some v)) (rv : RdD H v (isD ws)) (hj : σ[j]? = some (some (.int (n : Int)))) (hx : ws[n]? = some x) : Dt N (tOp (rIxT K) (tVar i) (tVar j)) σ H (.int x) :=
  dt_ix (ds := ws.map PyData.int) (dt_var hv rv) (dt_var hj (.int _)) (atI_nat (by rw [List.getElem?_map, hx]; rfl))
theorem dt_tupOf {tc : TE} {ws : List Int} (h : ∀ H1, At N H H1 → ∀ Q : VK, (∀ D H2, Same H1 H2 → H2 D = some (.lst (ws.map V.int)) → Q (.ref D) H2) → tc σ H1 Q) :
    Dt N (tCB (fun xs H Q => ∃ p ys, xs = [.ref p] ∧ ((SqL K H p ys ∧ ∀ l, H l = none → Q (.ref l) (upd H l (.tup ys))) ∨ (SqT K H p ys ∧ Q (.ref p) H))) (tCons tc tNil)) σ H (isD ws) := fun H1 a Q k =>
  h H1 a _ fun D H2 s2 hD => ⟨D, _, rfl, .inl ⟨.of hD, fun t ht => k _ _ (s2.trans (Same.upd ht)) (.tup (del_of upd_same ((a.l.same s2).nnew ht)) (rds_ints ws))⟩⟩
end
theorem isw_set {n j : Nat} {ws : List Int} {x : Int} (h : IsW n (isD ws)) (hx : Bd 4000 x) : IsW n (isD (ws.set j x)) := by
  obtain ⟨ws', e, hl, hb⟩ := h
  have : ws = ws' := by
    unfold isD at e
    injection e with e
    have : ∀ (a b : List Int), a.map PyData.int = b.map PyData.int → a = b := fun a b h => by
      induction a generalizing b with
      | nil => cases b with
        | nil => rfl
        | cons => simp at h
      | cons x a ih => cases b with
        | nil => simp at h
        | cons y b =>
          simp only [List.map_cons, List.cons.injEq, PyData.int.injEq] at h
          rw [h.1, ih b h.2]
    exact this _ _ e
  subst this
  refine ⟨ws.set j x, rfl, by simp [hl], fun w hw => ?_⟩
  rcases List.mem_or_eq_of_mem_set hw with z | z
  · exact hb w z
  · rw [z]; exact hx
end KK
end
section
set_option maxHeartbeats 8000000
set_option Elab.async false
set_option linter.all false
set_option maxRecDepth 100000
namespace KK
open PySem L2 KM
theorem kit_bb1 (K : PySem.W.Frag) : PySem.W.kitOne K (.type "bool") (.type "bool") = some true := by
  unfold PySem.W.kitOne; rw [if_pos (by decide +kernel)]
theorem labL_ints (n : Nat) (f : Nat → Nat) : labL n f = ((List.range n).map fun v : Nat => ((f v : Nat) : Int)).map V.int := by unfold labL; rw [List.map_map]; rfl
theorem isw_of {n : Nat} {ws : List Int} (h : ws.length = n) (k : ∀ w ∈ ws, Bd 4000 w) : IsW n (isD ws) := ⟨ws, rfl, h, k⟩
section
variable {P : Program} {w : World} {K : PySem.W.Frag} {mg : Str → Option Value} {base : Heap} {aN : Addr}
def spLaw (K : PySem.W.Frag) : Sp := fun vs H Q _ => ∃ (a : Addr) (ns : List Int), vs = [.ref a] ∧ SqL K H a (ns.map V.int) ∧ ns.length ≤ 63 ∧ ∀ H', Q (.bl true) H'
theorem sc_law : FnScope ["script", "n", "weights", "some", "k", "pool", "at", "by", "least", "tries", "thing", "found", "bad"] ["script"] (defScope s_law) := ⟨rfl, rfl, rfl, by decide +kernel, rfl, by decide +kernel, by decide +kernel⟩
theorem ok_law {fl : Addr} {fdl : FuncData} (D : Fun K "law" "law" s_law fl fdl) (T : TxB K mg) (TF : TxF K mg aN) (cC : Cal P w K mg base "_law_cell" 1 ["script", "k"] [] (spCell K)) (cD : Cal P w K mg base "_law_dig" 1 ["cell"] [] spDig) (cN : Cal P w K mg base "_law_next" 1 ["pool", "base"] [] spNext) (cFa : Cal P w K mg base "_law_far" 2 ["pool"] [] spFar)
    (cWe : Cal P w K mg base "_law_weights" 2 ["pool", "many"] [] spWe) (cSi : Cal P w K mg base "_law_sighting" 5 ["pool", "weights"] [] spSi) (cPt : Cal P w K mg base "_law_parts" 1 ["n", "sightings"] [] spPt) (cLe : Cal P w K mg base "_law_least" 2 ["weights", "parts"] [] spLe) (cDo : Cal P w K mg base "does_all" 5 ["weights", "sightings"] [] spDo) (cLd : Cal P w K mg base "_law_does" 5 ["weights", "sightings"] [] spLd)
    (cBo : Cal P w K mg base "_law_bad_ones" 5 ["pool", "sighting"] [] spBo) : FnOk P w K mg base CX0 6 fl fdl ["script"] (spLaw K) := by
  refine D.ok (k := 5) sc_law (fun vs H Q E h => by obtain ⟨a, us, rfl, _⟩ := h; rfl) (fun cdv A outer s H vs Q E hr h => ?_)
  obtain ⟨a, ns, rfl, hS, hlen, k⟩ := h
  have hr1 : Room 1 _ := hr.mono (by decide)
  have hr2 : Room 2 _ := hr.mono (by decide)
  have hu := hr.units
  refine ⟨_, bx_out (bx_scons (Bx.mk (ps_set (i := 1) sc_law.nd rfl (Or.inl rfl) (pe_op op_add pe_int (pe_c cN hr1 (pa_cons (pe_c cD hr1 (pa_cons (pe_c cC hr1 (pa_cons (pv 0) (pa_cons pe_int pa_nil))) pa_nil)) (pa_cons pe_int pa_nil))))))
    (bx_scons (Bx.mk (ps_set (i := 2) sc_law.nd rfl (Or.inl rfl) (pe_callTy call_tuple_of (by rfl) T.nTuple PyProof.Rows.boot_tuple (pa_cons (pe_c cWe hr2 (pa_cons (pe_c cD hr1 (pa_cons (pe_op op_add (pe_c cC hr1 (pa_cons (pv 0) (pa_cons pe_int pa_nil))) pe_int) pa_nil)) (pa_cons (pv 1) pa_nil))) pa_nil))))
    (bx_scons (Bx.mk (ps_set (i := 3) sc_law.nd rfl (Or.inl rfl) (pe_lst pa_nil)))
    (bx_scons (Bx.mk (ps_for PassesOwn.never rfl (pi_range2 rfl T.nRange (pa_cons pe_int (pa_cons (pe_callB (call_max2 rfl) (by rfl) T.nMax PyProof.Rows.boot_max (pa_cons pe_int (pa_cons (pe_callB (call_min2 rfl) (by rfl) T.nMin PyProof.Rows.boot_min (pa_cons pe_int (pa_cons (pe_callB call_len_seq (by rfl) T.nLen PySem.boot_len (pa_cons (pv 0) pa_nil)) pa_nil))) pa_nil))) pa_nil))) (pg_name (i := 4) sc_law.nd rfl (Or.inl rfl)) (bx_out (bx_scons (Bx.mk (ps_set (i := 5) sc_law.nd rfl (Or.inl rfl) (pe_c cD hr1 (pa_cons (pe_c cC hr1 (pa_cons (pv 0) (pa_cons (pv 4) pa_nil))) pa_nil))))
    (bx_scons (Bx.mk (ps_if (pw_and (pt_cmpR op_gt (pv 1) pe_int (nomark _)) (pw_and1 (pt_cmpR op_gt (pe_c cN hr1 (pa_cons (pv 5) (pa_cons pe_int pa_nil))) pe_int (nomark _)))).pt (pss_one (ps_expr (pe_bm PySem.F.plainAttrs_list PySem.F.slot_list_append PySem.F.type_list_append mt_append (pv 3) (pa_cons (pe_c cSi hr (pa_cons (pv 5) (pa_cons (pv 2) pa_nil))) pa_nil)))) pss_nil))
    (bx_scons (Bx.mk (ps_set (i := 6) sc_law.nd rfl (Or.inl rfl) (pe_c cN hr1 (pa_cons (pv 5) (pa_cons (pv 1) pa_nil)))))
    (bx_scons (Bx.mk (ps_set (i := 7) sc_law.nd rfl (Or.inr rfl) (pe_op op_add pe_int (pe_c cFa hr2 (pa_cons (pv 5) pa_nil)))))
    (bx_scons (Bx.mk (ps_set (i := 8) sc_law.nd rfl (Or.inl rfl) (pe_c cLe hr2 (pa_cons (pv 2) (pa_cons (pe_c cPt hr1 (pa_cons (pv 1) (pa_cons (pv 3) pa_nil))) pa_nil)))))
    (bx_scons (Bx.mk (ps_set (i := 9) sc_law.nd rfl (Or.inl rfl) (pe_lst (pa_cons (pv 2) (pa_cons (pv 8) (pa_cons (pe_op op_repN (pe_tup (pa_cons pe_int pa_nil)) (pv 1)) (pa_cons (pe_op op_repN (pe_tup (pa_cons pe_int pa_nil)) (pv 1)) pa_nil)))))))
    (bx_scons (Bx.mk (ps_set (i := 9) sc_law.nd rfl (Or.inl rfl) (pe_op op_cat (pv 9) (pe_lst (pa_cons (pe_callTy call_tuple_of (by rfl) T.nTuple PyProof.Rows.boot_tuple (pa_cons (pe_compC (NB := ["one"]) (FR := ["by"]) (js := [7]) rfl rfl (fun _ _ h => h) (.cons rfl rfl rfl ⟨_, rfl⟩ .nil) rfl (by decide +kernel) rfl (by decide +kernel) (pi_tup (pv 2)) (by intro _ _ _; refine ⟨?_, ?_, ?_⟩; (exact (pg_name (i := 0) (show List.Nodup (["one", "by"] : List Str) by decide +kernel) rfl (Or.inl rfl))); (exact pts_nil); (exact (pe_op op_mulB (pv 1) (pv 0))))) pa_nil)) (pa_cons (pe_callTy call_tuple_of (by rfl) T.nTuple PyProof.Rows.boot_tuple (pa_cons (pe_comp (NB := ["one"]) rfl (by decide +kernel) (by decide +kernel) rfl (by decide +kernel) (pi_tup (pv 2)) (by intro _ _ _; refine ⟨?_, ?_, ?_⟩; (exact (pg_name (i := 0) (show List.Nodup (["one"] : List Str) by decide +kernel) rfl (Or.inl rfl))); (exact pts_nil); (exact (pe_un un_neg (pv 0))))) pa_nil)) pa_nil))))))
    (bx_scons (Bx.mk (ps_expr (pe_bm PySem.F.plainAttrs_list PySem.F.slot_list_append PySem.F.type_list_append mt_append (pv 9) (pa_cons (pe_op op_catA (pe_op op_catA (pe_slice (sl_tup.or sl_whole) (pv 2) po_none (po_some (pv 6))) (pe_tup (pa_cons (pe_op op_add (pe_ix ix_tup (pv 2) (pv 6) (fun _ _ => rfl)) pe_int) pa_nil))) (pe_slice (sl_tup.or sl_whole) (pv 2) (po_some (pe_op op_add (pv 6) pe_int)) po_none)) pa_nil))))
    (bx_scons (Bx.mk (ps_expr (pe_bm PySem.F.plainAttrs_list PySem.F.slot_list_append PySem.F.type_list_append mt_append (pv 9) (pa_cons (pe_op op_catA (pe_op op_catA (pe_slice (sl_tup.or sl_whole) (pv 2) po_none (po_some (pv 6))) (pe_tup (pa_cons (pe_op op_mulB (pv 7) (pe_ix ix_tup (pv 2) (pv 6) (fun _ _ => rfl))) pa_nil))) (pe_slice (sl_tup.or sl_whole) (pv 2) (po_some (pe_op op_add (pv 6) pe_int)) po_none)) pa_nil))))
    (bx_scons (Bx.mk (ps_expr (pe_bm PySem.F.plainAttrs_list PySem.F.slot_list_append PySem.F.type_list_append mt_append (pv 9) (pa_cons (pe_op op_catA (pe_op op_catA (pe_slice (sl_tup.or sl_whole) (pv 8) po_none (po_some (pv 6))) (pe_tup (pa_cons pe_int pa_nil))) (pe_slice (sl_tup.or sl_whole) (pv 8) (po_some (pe_op op_add (pv 6) pe_int)) po_none)) pa_nil))))
    (bx_scons (Bx.mk (ps_expr (pe_bm PySem.F.plainAttrs_list PySem.F.slot_list_append PySem.F.type_list_append mt_append (pv 9) (pa_cons (pe_op op_catA (pe_op op_catA (pe_slice (sl_tup.or sl_whole) (pv 8) po_none (po_some (pv 6))) (pe_tup (pa_cons (pe_un un_neg pe_int) pa_nil))) (pe_slice (sl_tup.or sl_whole) (pv 8) (po_some (pe_op op_add (pv 6) pe_int)) po_none)) pa_nil))))
    (bx_scons (Bx.mk (ps_for PassesOwn.never rfl (pi_seqK (K := K) rfl (pv 9)) (pg_name (i := 10) sc_law.nd rfl (Or.inl rfl)) (pss_cons (ps_set (i := 11) sc_law.nd rfl (Or.inl rfl) (pe_c cDo hr (pa_cons (pv 10) (pa_cons (pv 3) pa_nil))))
    (pss_one (ps_if (pw_or (pt_not (pt_truth (pe_callB call_isinst (by rfl) T.nIs PyProof.Rows.boot_isinstance (pa_cons (pv 11) (pa_cons (pe_bltn (v := .ty "bool") (u := .type "bool") (by rfl) T.nBool (by decide +kernel) rfl) pa_nil))) fun _ => rfl)) (pw_or1 (pt_cmpR op_ne (pv 11) (pe_c cLd hr (pa_cons (pv 10) (pa_cons (pv 3) pa_nil))) (nomark _)))).pt (pss_one (ps_ret pe_bl)) pss_nil)))))
    (bx_scons (Bx.mk (ps_if (pw_or (pt_not (pt_truth (pe_c cDo hr (pa_cons (pv 2) (pa_cons (pv 3) pa_nil))) fun _ => rfl)) (pw_or1 (pt_not (pt_truth (pe_c cDo hr (pa_cons (pv 8) (pa_cons (pe_callTy call_tuple_of (by rfl) T.nTuple PyProof.Rows.boot_tuple (pa_cons (pv 3) pa_nil)) pa_nil))) fun _ => rfl)))).pt (pss_one (ps_ret pe_bl)) pss_nil))
    (Bx.mk (pss_one (ps_if (pt_cmpR (op_neD hu) (pv 3) (pe_lst pa_nil) (nomark _)) (pss_one (ps_for PassesOwn.never rfl (pi_seqK (K := K) rfl (pe_c cBo hr (pa_cons (pv 5) (pa_cons (pe_ix ix_list (pv 3) (pe_un un_neg pe_int) (fun _ _ => rfl)) pa_nil)))) (pg_name (i := 12) sc_law.nd rfl (Or.inl rfl)) (pss_one (ps_if (pw_or (pt_truth (pe_c cDo hr (pa_cons (pv 2) (pa_cons (pe_op op_cat (pv 3) (pe_lst (pa_cons (pv 12) pa_nil))) pa_nil))) fun _ => rfl) (pw_or1 (pt_truth (pe_c cDo hr (pa_cons (pv 2) (pa_cons (pe_op op_cat (pe_lst (pa_cons (pv 12) pa_nil)) (pv 3)) pa_nil))) fun _ => rfl))).pt (pss_one (ps_ret pe_bl)) pss_nil)))) pss_nil)))))))))))))))))))
    (Bx.mk (pss_one (ps_ret pe_bl))))))), ?_⟩
  refine ⟨_, rfl, a, ns, 0, rfl, hS, by decide, by decide, fun c0 => ⟨c0, rfl, fun p0 H0 hp0 s0 hP0 => ?_⟩⟩
  refine ⟨p0, _, rfl, by decide, by decide, hP0, fun d H1 d0 d1 t1 => ⟨_, _, rfl, rfl, ?_⟩⟩
  have S1 := step_same s0 hp0 t1
  dsimp only [gName]
  obtain ⟨n, en⟩ : ∃ n : Nat, (n : Int) = 1 + d := ⟨(1 + d).toNat, by omega⟩
  rw [← en]
  have n1 : 1 ≤ n := by omega
  have n8 : n ≤ 8 := by omega
  clear en d0 d1 t1 hP0 s0 hp0
  -- weights
  refine ⟨_, rfl, a, ns, 0, rfl, S1.seq hS, by decide, by decide, fun c1 => ⟨_, _, rfl, rfl, _, rfl, fun p1 H2 hp1 s2 hP1 => ?_⟩⟩
  refine ⟨_, rfl, p1, n, rfl, n8, hP1, fun lw ws H3 t3 hlw1 hlw3 hwl hwv => ?_⟩
  have S3 := S1.trans (step_same s2 hp1 t3)
  refine ⟨lw, _, rfl, .inl ⟨.of hlw3, fun aw haw => ?_⟩⟩
  have S4 := S3.trans (Same.upd (o := .tup (ws.map V.int)) haw)
  have g4 : upd H3 aw (.tup (ws.map V.int)) aw = some (.tup (ws.map V.int)) := upd_same
  generalize upd H3 aw (.tup (ws.map V.int)) = H4 at S4 g4
  have hS4 := S4.seq hS
  clear S3 hlw3 hlw1 t3 hP1 s2 hp1 S1 haw S4 hS
  dsimp only [gName]
  refine ⟨by show 0 ≤ sizeLine; decide, fun ls hls => ?_⟩
  have s5 := Same.upd (o := .lst []) hls
  have g5 : upd H4 ls (.lst []) ls = some (.lst []) := upd_same
  generalize upd H4 ls (.lst []) = H5 at s5 g5
  dsimp only [gName]
  refine st_for ?_
  refine ⟨_, rfl, a, _, rfl, .inl (s5.seq hS4), _, _, rfl, _, _, rfl, _, _, rfl, ?_⟩
  obtain ⟨m, em⟩ : ∃ m : Int, m = (if (if ((ns.map V.int).length : Int) < 40 then ((ns.map V.int).length : Int) else 40) > 9 then (if ((ns.map V.int).length : Int) < 40 then ((ns.map V.int).length : Int) else 40) else 9) := ⟨_, rfl⟩
  have m0 : 9 ≤ m ∧ m ≤ 40 := by
    rw [em]; split <;> split at * <;> omega
  rw [← em]
  refine ⟨⟨by decide, by decide, by omega, by omega⟩, ?_⟩
  have wb : ∀ w ∈ ws, Bd 10 w := fun w hw => bdn (by have := hwv w hw; omega) (by have := hwv w hw; omega)
  have wb4 : ∀ w ∈ ws, Bd 4000 w := fun w hw => (wb w hw).mono (by decide)
  have wz : WsZ ws := ⟨by omega, by omega, wb4⟩
  have hw1 : ∀ w ∈ ws, 1 ≤ w := fun w hw => (hwv w hw).1
  refine for_range (n := (m - 1).toNat) (lo := 1) (fun i σ G => ∃ z xs ss, z.length = 9 ∧ σ = some (.ref a) :: some (.int (n : Int)) :: some (.ref aw) :: some (.ref ls) :: z ∧ Same H4 G ∧ G ls = some (.lst xs) ∧ SgL G xs ss ∧ xs.length ≤ i ∧ ∀ s ∈ ss, GdS ws s ∧ SgY s)
    ⟨[none, none, none, none, none, none, none, none, none], [], [], rfl, rfl, s5, g5, .nil, Nat.le_refl _, fun s m => by cases m⟩ ?_ ?_
  rotate_left
  · rintro σ G ⟨z, xs, ss, hz, rfl, _⟩
    exact k G
  clear s5 g5 em
  rintro i σ G0 hi ⟨z, xs0, ss0, hz, rfl, S0, gs0, hss0, hxl0, hgd0⟩
  match z, hz with
  | [z1, z2, z3, z4, z5, z6, z7, z8, z9], _ =>
  refine ⟨_, rfl, _, rfl, a, ns, _, rfl, S0.seq hS4, by omega, by omega, fun c => ⟨c, rfl, fun p G1 hp s1 hP1 => ?_⟩⟩
  dsimp only [gName]
  have hlsp : ls ≠ p := by rintro rfl; rw [gs0] at hp; cases hp
  have hpH : H4 p = none := S0.free hp
  have S1 := S0.trans s1
  have gs1 := s1 _ _ gs0
  have hss1 := hss0.tups (.of s1)
  clear s1 hss0 gs0 S0 hp
  -- one more is seen, or none
  refine st_mid (fun σ' G => ∃ xs ss, σ' = [some (.ref a), some (.int (n : Int)), some (.ref aw), some (.ref ls), some (.int (1 + (i : Int))), some (.ref p), z3, z4, z5, z6, z7, z8, z9] ∧ Same H4 G ∧ Pool G p ∧ G ls = some (.lst xs) ∧ SgL G xs ss ∧ xs.length ≤ i + 1 ∧ ∀ s ∈ ss, GdS ws s ∧ SgY s) ?_ ?_
  rotate_left
  · intro nx hnx
    refine ⟨_, rfl, _, _, rfl, rfl, _, rfl, ?_⟩
    by_cases c1 : (1 : Int) < (n : Int)
    rotate_left
    · rw [decide_eq_false c1]
      exact iteF (iteF (hnx _ _ ⟨xs0, ss0, rfl, S1, hP1, gs1, hss1, by omega, hgd0⟩))
    rw [decide_eq_true c1]
    refine iteT ?_
    refine ⟨_, rfl, p, _, rfl, by decide, by decide, hP1, fun e G2 e0 e1 t2 => ⟨_, _, rfl, rfl, _, rfl, ?_⟩⟩
    have U2 := step_tups hP1 t2
    have gs2 := t2.keep _ _ gs1 hlsp
    refine ite2 (fun _ => ?_) (fun _ => ?_)
    rotate_left
    · exact hnx _ _ ⟨xs0, ss0, rfl, step_same S1 hpH t2, t2.pool, gs2, hss1.tups U2, by omega, hgd0⟩
    refine ⟨_, rfl, .inl ⟨rfl, _, SqL.of gs2⟩, ?_⟩
    have gw2 : G2 aw = some (.tup (ws.map V.int)) := step_same S1 hpH t2 _ _ g4
    have hawp : aw ≠ p := by rintro rfl; rw [g4] at hpH; cases hpH
    refine ⟨_, rfl, _, rfl, p, aw, ws, rfl, t2.pool, hawp, gw2, by omega, by omega, hwv, fun t sg G3 t3 hsg zsg gsg => ?_⟩
    have t23 := t2.trans t3
    have gs3 := t23.keep _ _ gs1 hlsp
    refine ⟨ls, xs0, _, rfl, rfl, gs3, small1000 (by omega), ?_⟩
    have UL : TupS G3 (upd G3 ls (.lst (xs0 ++ [.ref t]))) := .upd gs3
    refine hnx _ _ ⟨xs0 ++ [.ref t], ss0 ++ [sg], rfl, fun b o eb => ?_, ?_, upd_same, ((hss1.tups (step_tups hP1 t23)).tups UL).snoc (hsg.tups UL) zsg.z, by simp; omega, fun s' hs' => ?_⟩
    · rw [upd_ne (ne_of_none eb hls)]; exact step_same S1 hpH t23 _ _ eb
    · obtain ⟨q1, q2, q3, q⟩ := t23.pool
      exact ⟨q1, q2, q3, by rw [upd_ne (Ne.symm hlsp)]; exact q⟩
    · rcases List.mem_append.mp hs' with y | y
      · exact hgd0 s' y
      · have : s' = sg := by simpa using y
        subst this
        exact ⟨gsg, zsg⟩
  clear hP1 S1 gs1 hss1 hgd0 hxl0 xs0 ss0 G0 G1
  rintro σ' G2 ⟨xs, ss, rfl, S2, hP2, gs2, hss2, hxl, hgd⟩
  have hin : ∀ s ∈ ss, InW n s := fun s hs => by rw [← hwl]; exact (hgd s hs).1.inW
  have hinw : ∀ s ∈ ss, InW ws.length s := fun s hs => (hgd s hs).1.inW
  -- at, by
  refine ⟨_, rfl, _, rfl, p, _, rfl, by omega, by omega, hP2, fun at' G3 a0 a1 t3 => ?_⟩
  dsimp only [gName]
  obtain ⟨ia, rfl⟩ : ∃ n : Nat, at' = (n : Int) := ⟨at'.toNat, by omega⟩
  refine ⟨_, rfl, p, rfl, t3.pool, fun far G4 f0 f1 t4 => ⟨_, _, rfl, rfl, ?_⟩⟩
  dsimp only [gName]
  have t34 := t3.trans t4
  have S4 := step_same S2 hpH t34
  have gs4 := t34.keep _ _ gs2 hlsp
  have hss4 := hss2.tups (step_tups hP2 t34)
  have hP4 := t34.pool
  clear t3 t4 t34 hss2 gs2 S2 hP2
  -- least
  refine ⟨_, rfl, _, rfl, _, rfl, n, ls, xs, ss, rfl, gs4, hss4, hin, n1, n8, fun lp G5 s5 _ g5 => ?_⟩
  rw [labL_ints] at g5
  refine ⟨aw, lp, ws, _, rfl, s5 _ _ (S4 _ _ g4), g5, by rw [List.length_map, List.length_range, hwl], by omega, hwv, fun al lv G6 s6 gl6 hll hlg => ?_⟩
  dsimp only [gName]
  have hgd' : ∀ s ∈ ss, GdS ws s := fun s hs => (hgd s hs).1
  obtain ⟨hl1, hdl⟩ := does_least hw1 hgd' hll (lab_parts n1 hin) (by rw [List.length_map, List.length_range, hwl]) hlg
  have hlb : ∀ l ∈ lv, Bd 10 l := fun l hl => by
    obtain ⟨j, hj⟩ := List.getElem?_of_mem hl
    have hjl := (List.getElem?_eq_some_iff.mp hj).1
    obtain ⟨w, ew⟩ : ∃ w, ws[j]? = some w := ⟨_, List.getElem?_eq_getElem (by omega)⟩
    obtain ⟨q, eq⟩ : ∃ q, ((List.range n).map fun v : Nat => ((LB.turns (edg ss) n (fun v => v) v : Nat) : Int))[j]? = some q := ⟨_, List.getElem?_eq_getElem (by rw [List.length_map, List.length_range]; omega)⟩
    obtain ⟨g1, l', el, e⟩ := hlg j w q ew eq
    rw [hj] at el; cases el
    have h1 := hl1 l hl
    have h2 := (hwv w (List.mem_of_getElem? ew)).2
    refine bdn (by omega) ?_
    have : l ≤ w := by
      rw [← e]
      have := Int.mul_le_mul_of_nonneg_left g1 (show 0 ≤ l by omega)
      omega
    omega
  have hlb4 : ∀ l ∈ lv, Bd 4000 l := fun l hl => (hlb l hl).mono (by decide)
  clear hlg
  have S6 := S4.trans (s5.trans s6)
  have gs6 := (s5.trans s6) _ _ gs4
  have hss6 := hss4.tups (.of (s5.trans s6))
  have gw6 := S6 _ _ g4
  have hP6 : Pool G6 p := by obtain ⟨q1, q2, q3, q⟩ := hP4; exact ⟨q1, q2, q3, (s5.trans s6) _ _ q⟩
  clear g5 s5 s6 gs4 hss4 S4 hP4
  have rw6 : RdD G6 (.ref aw) (isD ws) := rd_isD gw6
  have rl6 : RdD G6 (.ref al) (isD lv) := rd_isD gl6
  obtain ⟨wa, ewa⟩ : ∃ x, ws[ia]? = some x := ⟨_, List.getElem?_eq_getElem (by omega)⟩
  obtain ⟨la, ela⟩ : ∃ x, lv[ia]? = some x := ⟨_, List.getElem?_eq_getElem (by omega)⟩
  have bwa := wb wa (List.mem_of_getElem? ewa)
  have bby : Bd 80 (1 + far) := bdn (by omega) (by omega)
  have isw : IsW n (isD ws) := isw_of hwl wb4
  have isl : IsW n (isD lv) := isw_of (by omega) hlb4
  -- tries
  refine st_set (fs_lst (N := []) at_0 (da_cons (dt_var rfl rw6) (da_cons (dt_var rfl rl6) (da_cons (dt_repN (i := 0) (n := n) (dt_tup (da_cons dt_int da_nil) (by show 1 ≤ sizeLine; decide)) (dt_var rfl (.int _)) n1 n8) (da_cons (dt_repN (i := 1) (n := n) (dt_tup (da_cons dt_int da_nil) (by show 1 ≤ sizeLine; decide)) (dt_var rfl (.int _)) n1 n8) da_nil)))) (by show 4 ≤ sizeLine; decide) fun l1 F1 f1 => ?_)
  refine st_set (fs_cat (ds := [isD ws, isD lv, isD (List.replicate n 0), isD (List.replicate n 1)]) (es := [isD (ws.map fun w => (1 + far) * w), isD (ws.map fun w => -w)]) f1 (da_cons (dt_tupOf fun H1 at1 Q1 k1 => ?_) (da_cons (dt_tupOf fun H1 at1 Q1 k1 => ?_) da_nil)) rfl (by show 6 ≤ sizeLine; decide) fun l2 F2 f2 => ?_)
  · have gw : H1 aw = some (.tup (ws.map V.int)) := (at1.s.trans del_sub) _ _ gw6
    refine ⟨_, rfl, aw, rfl, ⟨_, .of gw⟩, fun Dc hDc => ?_⟩
    refine compC_each (n := 1) (xs := ws.map V.int) (fun j v _ => ∃ w, ws[j]? = some w ∧ v = .int ((1 + far) * w)) (fun j v H H' _ h => h) hDc (runs_tup gw) (small1000 (by rw [List.length_map]; omega)) ?_ ?_
    · intro j x zs H2 Q' ex hz s2 hq'
      rw [List.getElem?_map] at ex
      obtain ⟨w, ew, rfl⟩ := Option.map_eq_some_iff.mp ex
      obtain ⟨y1, rfl⟩ := len1 hz
      exact ⟨rfl, _, rfl, _, rfl, _, _, rfl, rfl, ⟨bby.mono (by decide), (wb w (List.mem_of_getElem? ew)).mono (by decide)⟩, hq' _ _ (Same.refl _) ⟨w, ew, rfl⟩⟩
    · intro ys H2 s2 hD2 hyl hyR
      refine k1 Dc H2 s2 ?_
      rw [hD2, list_of_map (f := fun w => V.int ((1 + far) * w)) (rs := ws) (by rw [hyl, List.length_map]) hyR, List.map_map]; rfl
  · have gw : H1 aw = some (.tup (ws.map V.int)) := (at1.s.trans del_sub) _ _ gw6
    refine ⟨_, rfl, aw, rfl, ⟨_, .of gw⟩, fun Dc hDc => ?_⟩
    refine comp_each (n := 1) (xs := ws.map V.int) (fun j v _ => ∃ w, ws[j]? = some w ∧ v = .int (-w)) (fun j v H H' _ h => h) hDc (runs_tup gw) (small1000 (by rw [List.length_map]; omega)) ?_ ?_
    · intro j x zs H2 Q' ex hz s2 hq'
      rw [List.getElem?_map] at ex
      obtain ⟨w, ew, rfl⟩ := Option.map_eq_some_iff.mp ex
      obtain ⟨y1, rfl⟩ := len1 hz
      exact ⟨_, rfl, _, rfl, hq' _ _ (Same.refl _) ⟨w, ew, rfl⟩⟩
    · intro ys H2 s2 hD2 hyl hyR
      refine k1 Dc H2 s2 ?_
      rw [hD2, list_of_map (f := fun w => V.int (-w)) (rs := ws) (by rw [hyl, List.length_map]) hyR, List.map_map]; rfl
  refine st_drop (fs_app f2 (dt_cut rfl rw6 rfl (dt_add (dt_ixI rfl rw6 rfl ewa) dt_int) (by omega) (by omega)) rfl (by show 6 ≤ 1000; decide) fun F3 f3 => ?_)
  refine st_drop (fs_app f3 (dt_cut rfl rw6 rfl (dt_mul (dt_var rfl (.int _)) (dt_ixI rfl rw6 rfl ewa) ⟨bby.mono (by decide), bwa.mono (by decide)⟩) (by omega) (by omega)) rfl (by show 7 ≤ 1000; decide) fun F4 f4 => ?_)
  refine st_drop (fs_app f4 (dt_cut rfl rl6 rfl dt_int (by omega) (by omega)) rfl (by show 8 ≤ 1000; decide) fun F5 f5 => ?_)
  refine st_drop (fs_app f5 (dt_cut rfl rl6 rfl (dt_neg dt_int) (by omega) (by omega)) rfl (by show 9 ≤ 1000; decide) fun F6 f6 => ?_)
  clear f1 f2 f3 f4 f5
  have hall : ∀ d ∈ (((([isD ws, isD lv, isD (List.replicate n 0), isD (List.replicate n 1)] ++ [isD (ws.map fun w => (1 + far) * w), isD (ws.map fun w => -w)]) ++ [isD (ws.set ia (wa + 1))]) ++ [isD (ws.set ia ((1 + far) * wa))]) ++ [isD (lv.set ia 0)]) ++ [isD (lv.set ia (-1))], IsW n d := by
    intro dd hdd
    simp only [List.cons_append, List.nil_append, List.mem_cons, List.not_mem_nil, or_false] at hdd
    rcases hdd with rfl | rfl | rfl | rfl | rfl | rfl | rfl | rfl | rfl | rfl
    · exact isw
    · exact isl
    · exact isw_of (by simp) fun w hw => by rw [(List.mem_replicate.mp hw).2]; exact Bd.mono (m := 1) (show (0 : Int).natAbs < 2 ^ 1 by decide) (by decide)
    · exact isw_of (by simp) fun w hw => by rw [(List.mem_replicate.mp hw).2]; exact Bd.mono (m := 1) (show (1 : Int).natAbs < 2 ^ 1 by decide) (by decide)
    · exact isw_of (by simp [hwl]) fun w hw => by obtain ⟨y, my, rfl⟩ := List.mem_map.mp hw; exact (bby.mul (wb y my)).mono (by decide)
    · exact isw_of (by simp [hwl]) fun w hw => by obtain ⟨y, my, rfl⟩ := List.mem_map.mp hw; exact ((wb y my).neg).mono (by decide)
    · exact isw_set isw ((bwa.add (n := 1) (show (1 : Int).natAbs < 2 ^ 1 by decide)).mono (by decide))
    · exact isw_set isw ((bby.mul bwa).mono (by decide))
    · exact isw_set isl (Bd.mono (m := 1) (show (0 : Int).natAbs < 2 ^ 1 by decide) (by decide))
    · exact isw_set isl (Bd.mono (m := 2) (show (-1 : Int).natAbs < 2 ^ 2 by decide) (by decide))
  generalize (((([isD ws, isD lv, isD (List.replicate n 0), isD (List.replicate n 1)] ++ [isD (ws.map fun w => (1 + far) * w), isD (ws.map fun w => -w)]) ++ [isD (ws.set ia (wa + 1))]) ++ [isD (ws.set ia ((1 + far) * wa))]) ++ [isD (lv.set ia 0)]) ++ [isD (lv.set ia (-1))] = ds at f6 hall
  have S7 := f6.sm
  obtain ⟨tv, gt7, rt7⟩ := f6.ex
  have rt7' : RdDs F6 tv ds := rt7.same del_sub
  have S7H := S6.trans S7
  have gs7 := S7 _ _ gs6
  have hss7 := hss6.tups (.of S7)
  have gw7 := S7 _ _ gw6
  have gl7 := S7 _ _ gl6
  have hP7 : Pool F6 p := by obtain ⟨q1, q2, q3, q⟩ := hP6; exact ⟨q1, q2, q3, S7 _ _ q⟩
  clear f6 rt7 gs6 hss6 hP6 S6 S7 rw6 rl6 gw6 gl6 isw isl
  -- each of them
  refine st_mid (fun σ' G => ∃ y1 y2, σ' = [some (.ref a), some (.int (n : Int)), some (.ref aw), some (.ref ls), some (.int (1 + (i : Int))), some (.ref p), some (.int (ia : Int)), some (.int (1 + far)), some (.ref al), some (.ref l2), y1, y2, z9] ∧ Same F6 G) ?_ ?_
  rotate_left
  · intro nx hnx
    refine ⟨_, rfl, false, l2, rfl, ⟨tv, SqL.of gt7⟩, ?_⟩
    refine for_seq (k := false) (K := K) (a := l2) (xs := tv) (fun j σ G => ∃ y1 y2, σ = [some (.ref a), some (.int (n : Int)), some (.ref aw), some (.ref ls), some (.int (1 + (i : Int))), some (.ref p), some (.int (ia : Int)), some (.int (1 + far)), some (.ref al), some (.ref l2), y1, y2, z9] ∧ Same F6 G) ⟨_, _, rfl, Same.refl _⟩ (fun j σ G ⟨_, _, _, sG⟩ => SqL.of (sG _ _ gt7)) ?_ ?_
    rotate_left
    · rintro σ G ⟨y1, y2, rfl, sG⟩
      exact hnx _ _ ⟨y1, y2, rfl, sG⟩
    rintro j x σ G ex ⟨y1, y2, rfl, sG⟩
    obtain ⟨dd, ed⟩ : ∃ dd, ds[j]? = some dd := ⟨_, List.getElem?_eq_getElem (by rw [← rt7'.len]; exact (List.getElem?_eq_some_iff.mp ex).1)⟩
    obtain ⟨x', ex', rx⟩ := rt7'.get ed
    rw [ex] at ex'; cases ex'
    obtain ⟨wt, rfl, wtl, wtb⟩ := hall dd (List.mem_of_getElem? ed)
    obtain ⟨at', rfl, gat⟩ := of_isD rx
    have wtz : WsZ wt := ⟨by omega, by omega, wtb⟩
    have hint : ∀ s ∈ ss, InW wt.length s := by rw [wtl]; exact hin
    refine ⟨_, rfl, _, rfl, at', ls, false, xs, wt, ss, rfl, sG _ _ gat, sG _ _ gs7, hss7.tups (.of sG), hint, wtz, by omega, fun G8 s8 => ?_⟩
    have sG8 := sG.trans s8
    dsimp only [gName]
    refine ⟨_, rfl, _, .type "bool", "bool", true, rfl, .bl _, kit_bb1 K, _, rfl, iteF ?_⟩
    refine ⟨_, rfl, _, rfl, _, rfl, at', ls, xs, wt, ss, rfl, sG8 _ _ gat, sG8 _ _ gs7, hss7.tups (.of sG8), hint, wtz, by omega, fun G9 s9 => ⟨rfl, _, rfl, ?_⟩⟩
    rw [decide_eq_true (rfl : V.bl (doesB wt ss) = V.bl (doesB wt ss))]
    exact iteF ⟨_, _, rfl, sG8.trans s9⟩
  clear rt7' hall gt7 tv
  rintro σ' G8 ⟨y1, y2, rfl, s8⟩
  -- the weights themselves
  have d1 : doesB ws ss = true := does_good hw1 hgd'
  refine st_mid (fun σ' G => σ' = [some (.ref a), some (.int (n : Int)), some (.ref aw), some (.ref ls), some (.int (1 + (i : Int))), some (.ref p), some (.int (ia : Int)), some (.int (1 + far)), some (.ref al), some (.ref l2), y1, y2, z9] ∧ Same F6 G) ?_ ?_
  rotate_left
  · intro nx hnx
    refine ⟨_, rfl, _, rfl, aw, ls, false, xs, ws, ss, rfl, s8 _ _ gw7, s8 _ _ gs7, hss7.tups (.of s8), hinw, wz, by omega, fun G9 s9 => ⟨true, by rw [d1]; rfl, iteF ?_⟩⟩
    have S9 := s8.trans s9
    refine ⟨_, rfl, _, rfl, ls, xs, rfl, .inl ⟨.of (S9 _ _ gs7), fun tt htt => ?_⟩⟩
    have s10 := Same.upd (o := .tup xs) htt
    have S10 := S9.trans s10
    exact ⟨al, tt, true, xs, lv, ss, rfl, S10 _ _ gl7, upd_same, hss7.tups (.of S10), by rw [hll]; exact hinw, ⟨by omega, by omega, hlb4⟩, by omega, fun G11 s11 => ⟨true, by rw [hdl]; rfl, iteF (hnx _ _ ⟨rfl, S10.trans s11⟩)⟩⟩
  clear s8 d1 hdl
  rintro σ' G9 ⟨rfl, s9⟩
  have gs9 := s9 _ _ gs7
  have hss9 := hss7.tups (.of s9)
  -- what is not so
  refine ⟨_, rfl, by show 0 ≤ sizeLine; decide, fun le hle => ?_⟩
  have s10 := Same.upd (o := .lst []) hle
  have g10 : upd G9 le (.lst []) le = some (.lst []) := upd_same
  generalize upd G9 le (.lst []) = G10 at s10 g10
  have gs10 := s10 _ _ gs9
  have hss10 := hss9.tups (.of s10)
  have S10 := S7H.trans (s9.trans s10)
  refine ⟨_, _, SgL.rd gs10 hss10, .lst g10 .nil, sgs_shaped ss, rfl, _, rfl, ?_⟩
  rw [sgs_nil]
  have hP10 : Pool G10 p := by obtain ⟨q1, q2, q3, q⟩ := hP7; exact ⟨q1, q2, q3, (s9.trans s10) _ _ q⟩
  have fin : ∀ (σ' : St) (G : Hp), (∃ z : St, z.length = 9 ∧ σ' = some (.ref a) :: some (.int (n : Int)) :: some (.ref aw) :: some (.ref ls) :: z) → Same H4 G → G ls = some (.lst xs) → SgL G xs ss → ∃ z xs ss, z.length = 9 ∧ σ' = some (.ref a) :: some (.int (n : Int)) :: some (.ref aw) :: some (.ref ls) :: z ∧ Same H4 G ∧ G ls = some (.lst xs) ∧ SgL G xs ss ∧ xs.length ≤ i + 1 ∧ ∀ s ∈ ss, GdS ws s ∧ SgY s :=
    fun σ' G ⟨z, hz, e⟩ h1 h2 h3 => ⟨z, xs, ss, hz, e, h1, h2, h3, hxl, hgd⟩
  rcases List.eq_nil_or_concat ss with e | ⟨sl, sg, e⟩
  · rw [e]
    refine iteF ?_
    exact fin _ _ ⟨_, rfl, rfl⟩ S10 gs10 hss10
  have hem : ss.isEmpty = false := by rw [e]; simp
  rw [hem]
  refine iteT ?_
  have hsgm : sg ∈ ss := by rw [e]; simp
  obtain ⟨xl', xg, ex, hxg⟩ : ∃ xl' xg, xs = xl' ++ [xg] ∧ SgAt G10 xg sg := by
    rcases List.eq_nil_or_concat xs with z | ⟨xl', xg, z⟩
    · have := hss10.1
      rw [z, e] at this; simp at this
    · refine ⟨xl', xg, by rw [z]; simp, ?_⟩
      have hl : xl'.length = sl.length := by
        have := hss10.1
        rw [z, e] at this; simpa using this
      obtain ⟨v, e1, e2, _⟩ := hss10.2 sl.length sg (by rw [e]; simp)
      rw [z, ← hl] at e1
      have : xg = v := by simpa using e1
      rw [this]; exact e2
  obtain ⟨gg, gy⟩ := hgd sg hsgm
  refine ⟨_, rfl, _, rfl, _, rfl, ls, xs, -1, xg, rfl, rfl, .of gs10, by rw [ex]; exact atI_last _ _, p, xg, sg, rfl, hP10, hxg, gy, fun lb bv bs G11 t11 hlbn hlbp glb hbs hb6 hbad => ?_⟩
  have U11 := step_tups hP10 t11
  have S11 := step_same S10 hpH t11
  have gs11 := t11.keep _ _ gs10 hlsp
  have hss11 := hss10.tups U11
  refine ⟨false, lb, rfl, ⟨bv, SqL.of glb⟩, ?_⟩
  refine for_seq (k := false) (K := K) (a := lb) (xs := bv) (fun j σ G => (∃ z, z.length = 9 ∧ σ = some (.ref a) :: some (.int (n : Int)) :: some (.ref aw) :: some (.ref ls) :: z) ∧ Same G11 G) ⟨⟨_, rfl, rfl⟩, Same.refl _⟩ (fun j σ G ⟨_, sG⟩ => SqL.of (sG _ _ glb)) ?_ ?_
  rotate_left
  · rintro σ G ⟨hσ, sG⟩
    exact fin _ _ hσ (S11.trans sG) (sG _ _ gs11) (hss11.tups (.of sG))
  rintro j x σ G exj ⟨⟨z, hz, rfl⟩, sG⟩
  match z, hz with
  | [w1, w2, w3, w4, w5, w6, w7, w8, w9], _ =>
  obtain ⟨bg, eb, hxb, zb⟩ := hbs.at exj
  have hbm := List.mem_of_getElem? eb
  have hbd := hbad ws gg bg hbm
  have hib : InW ws.length bg := by
    obtain ⟨ni, nj, e1, e2, l1', l2'⟩ := hinw sg hsgm
    exact ⟨ni, nj, by rw [hbd.1]; exact e1, by rw [hbd.2.1]; exact e2, l1', l2'⟩
  have gwG : G aw = some (.tup (ws.map V.int)) := (S11.trans sG) _ _ g4
  refine ⟨_, rfl, _, rfl, _, rfl, by show 1 ≤ sizeLine; decide, fun c1 hc1 => ?_⟩
  have q1 := Same.upd (o := .lst [x]) hc1
  refine ⟨ls, c1, xs, [x], rfl, rfl, q1 _ _ (sG _ _ gs11), upd_same, szl (by simp; omega), fun c2 hc2 => ?_⟩
  have q2 := Same.upd (o := .lst (xs ++ [x])) hc2
  have Q2 := sG.trans (q1.trans q2)
  refine ⟨aw, c2, false, xs ++ [x], ws, ss ++ [bg], rfl, (q1.trans q2) _ _ gwG, upd_same, (hss11.tups (.of Q2)).snoc (hxb.tups (.of Q2)) zb, fun s' hs' => ?_, wz, by simp; omega, fun G12 q12 => ⟨false, ?_, iteF ?_⟩⟩
  · rcases List.mem_append.mp hs' with y | y
    · exact hinw s' y
    · have : s' = bg := by simpa using y
      rw [this]; exact hib
  · rw [does_bad (ss := ss) gg hbd (List.mem_append_right _ (List.mem_singleton.mpr rfl))]; rfl
  have Q12 := Q2.trans q12
  refine ⟨_, rfl, _, rfl, by show 1 ≤ sizeLine; decide, fun c3 hc3 => ?_⟩
  have q3 := Same.upd (o := .lst [x]) hc3
  refine ⟨_, rfl, c3, ls, [x], xs, rfl, rfl, upd_same, q3 _ _ (Q12 _ _ gs11), szl (by simp; omega), fun c4 hc4 => ?_⟩
  have q4 := Same.upd (o := .lst ([x] ++ xs)) hc4
  have Q4 := Q12.trans (q3.trans q4)
  refine ⟨aw, c4, false, x :: xs, ws, bg :: ss, rfl, (S11.trans Q4) _ _ g4, upd_same, (hss11.tups (.of Q4)).cons (hxb.tups (.of Q4)) zb, fun s' hs' => ?_, wz, by simp; omega, fun G13 q13 => ⟨false, ?_, iteF ?_⟩⟩
  · rcases List.mem_cons.mp hs' with rfl | y
    · exact hib
    · exact hinw s' y
  · rw [does_bad (ss := ss) gg hbd (List.mem_cons_self ..)]; rfl
  exact ⟨⟨_, rfl, rfl⟩, Q4.trans q13⟩
end
end KK
end
section
set_option maxHeartbeats 8000000
set_option Elab.async false
set_option linter.all false
set_option maxRecDepth 100000
namespace KK
open PySem L2 KM
theorem kit_ii (K : PySem.W.Frag) : PySem.W.kitOne K (.type "int") (.type "int") = some true := by
  unfold PySem.W.kitOne; rw [if_pos (by decide +kernel)]
theorem kit_ib (K : PySem.W.Frag) : PySem.W.kitOne K (.type "int") (.type "bool") = some false := by
  with_unfolding_all rfl
theorem all_mk {l : PySem.W.OpenLaw} {w : World} {K : PySem.W.Frag} {h : Heap} {mg : Str → Option Value} {fa : Addr} (X : K.In h) (G : h.Ns mainGlobals mg) (hfa : mg "law" = some (.ref fa))
    {f0 : Addr} {od0 an0 : Option Addr} {sl0 : Array (Option Value)} {oc0 kV0 dc0 pm0 cd0 ct0 : Value}
    (a0 : PySem.W.nsIn K mainGlobals "is_whole" = some (some (.ref f0))) (l0 : K.lookup f0 = some ⟨oc0, od0, .func (PySem.W.fnOf "is_whole" "is_whole" (defArgs s_is_whole) (defBody s_is_whole) (defScope s_is_whole) .none kV0 dc0 pm0 an0 cd0 ct0), sl0⟩) (c0 : PySem.W.codeIn K cd0 "is_whole" = true) (k0 : PySem.W.keepIn K (.ref f0) = true)
    {f1 : Addr} {od1 an1 : Option Addr} {sl1 : Array (Option Value)} {oc1 kV1 dc1 pm1 cd1 ct1 : Value}
    (a1 : PySem.W.nsIn K mainGlobals "greatest_divisor" = some (some (.ref f1))) (l1 : K.lookup f1 = some ⟨oc1, od1, .func (PySem.W.fnOf "greatest_divisor" "greatest_divisor" (defArgs s_greatest_divisor) (defBody s_greatest_divisor) (defScope s_greatest_divisor) .none kV1 dc1 pm1 an1 cd1 ct1), sl1⟩) (c1 : PySem.W.codeIn K cd1 "greatest_divisor" = true) (k1 : PySem.W.keepIn K (.ref f1) = true)
    {f2 : Addr} {od2 an2 : Option Addr} {sl2 : Array (Option Value)} {oc2 kV2 dc2 pm2 cd2 ct2 : Value} {Td2 : Addr} {ocd2 : Value} {odd2 : Option Addr} {tkd2 : Tok} {nd2 : Nat} {sld2 : Array (Option Value)}
    (a2 : PySem.W.nsIn K mainGlobals "ratio" = some (some (.ref f2))) (l2 : K.lookup f2 = some ⟨oc2, od2, .func (PySem.W.fnOf "ratio" "ratio" (defArgs s_ratio) (defBody s_ratio) (defScope s_ratio) (.ref Td2) kV2 dc2 pm2 an2 cd2 ct2), sl2⟩) (c2 : PySem.W.codeIn K cd2 "ratio" = true) (k2 : PySem.W.keepIn K (.ref f2) = true)
    (ld2 : K.lookup Td2 = some ⟨ocd2, odd2, .seq #[.int 1 tkd2] nd2, sld2⟩)
    {f3 : Addr} {od3 an3 : Option Addr} {sl3 : Array (Option Value)} {oc3 kV3 dc3 pm3 cd3 ct3 : Value}
    (a3 : PySem.W.nsIn K mainGlobals "minus" = some (some (.ref f3))) (l3 : K.lookup f3 = some ⟨oc3, od3, .func (PySem.W.fnOf "minus" "minus" (defArgs s_minus) (defBody s_minus) (defScope s_minus) .none kV3 dc3 pm3 an3 cd3 ct3), sl3⟩) (c3 : PySem.W.codeIn K cd3 "minus" = true) (k3 : PySem.W.keepIn K (.ref f3) = true)
    {f4 : Addr} {od4 an4 : Option Addr} {sl4 : Array (Option Value)} {oc4 kV4 dc4 pm4 cd4 ct4 : Value}
    (a4 : PySem.W.nsIn K mainGlobals "over" = some (some (.ref f4))) (l4 : K.lookup f4 = some ⟨oc4, od4, .func (PySem.W.fnOf "over" "over" (defArgs s_over) (defBody s_over) (defScope s_over) .none kV4 dc4 pm4 an4 cd4 ct4), sl4⟩) (c4 : PySem.W.codeIn K cd4 "over" = true) (k4 : PySem.W.keepIn K (.ref f4) = true)
    {f5 : Addr} {od5 an5 : Option Addr} {sl5 : Array (Option Value)} {oc5 kV5 dc5 pm5 cd5 ct5 : Value}
    (a5 : PySem.W.nsIn K mainGlobals "less" = some (some (.ref f5))) (l5 : K.lookup f5 = some ⟨oc5, od5, .func (PySem.W.fnOf "less" "less" (defArgs s_less) (defBody s_less) (defScope s_less) .none kV5 dc5 pm5 an5 cd5 ct5), sl5⟩) (c5 : PySem.W.codeIn K cd5 "less" = true) (k5 : PySem.W.keepIn K (.ref f5) = true)
    {f6 : Addr} {od6 an6 : Option Addr} {sl6 : Array (Option Value)} {oc6 kV6 dc6 pm6 cd6 ct6 : Value}
    (a6 : PySem.W.nsIn K mainGlobals "share_of" = some (some (.ref f6))) (l6 : K.lookup f6 = some ⟨oc6, od6, .func (PySem.W.fnOf "share_of" "share_of" (defArgs s_share_of) (defBody s_share_of) (defScope s_share_of) .none kV6 dc6 pm6 an6 cd6 ct6), sl6⟩) (c6 : PySem.W.codeIn K cd6 "share_of" = true) (k6 : PySem.W.keepIn K (.ref f6) = true)
    {f7 : Addr} {od7 an7 : Option Addr} {sl7 : Array (Option Value)} {oc7 kV7 dc7 pm7 cd7 ct7 : Value}
    (a7 : PySem.W.nsIn K mainGlobals "does_all" = some (some (.ref f7))) (l7 : K.lookup f7 = some ⟨oc7, od7, .func (PySem.W.fnOf "does_all" "does_all" (defArgs s_does_all) (defBody s_does_all) (defScope s_does_all) .none kV7 dc7 pm7 an7 cd7 ct7), sl7⟩) (c7 : PySem.W.codeIn K cd7 "does_all" = true) (k7 : PySem.W.keepIn K (.ref f7) = true)
    {f8 : Addr} {od8 an8 : Option Addr} {sl8 : Array (Option Value)} {oc8 kV8 dc8 pm8 cd8 ct8 : Value}
    (a8 : PySem.W.nsIn K mainGlobals "_law_cell" = some (some (.ref f8))) (l8 : K.lookup f8 = some ⟨oc8, od8, .func (PySem.W.fnOf "_law_cell" "_law_cell" (defArgs s_law_cell) (defBody s_law_cell) (defScope s_law_cell) .none kV8 dc8 pm8 an8 cd8 ct8), sl8⟩) (c8 : PySem.W.codeIn K cd8 "_law_cell" = true) (k8 : PySem.W.keepIn K (.ref f8) = true)
    {f9 : Addr} {od9 an9 : Option Addr} {sl9 : Array (Option Value)} {oc9 kV9 dc9 pm9 cd9 ct9 : Value}
    (a9 : PySem.W.nsIn K mainGlobals "_law_dig" = some (some (.ref f9))) (l9 : K.lookup f9 = some ⟨oc9, od9, .func (PySem.W.fnOf "_law_dig" "_law_dig" (defArgs s_law_dig) (defBody s_law_dig) (defScope s_law_dig) .none kV9 dc9 pm9 an9 cd9 ct9), sl9⟩) (c9 : PySem.W.codeIn K cd9 "_law_dig" = true) (k9 : PySem.W.keepIn K (.ref f9) = true)
    {f10 : Addr} {od10 an10 : Option Addr} {sl10 : Array (Option Value)} {oc10 kV10 dc10 pm10 cd10 ct10 : Value}
    (a10 : PySem.W.nsIn K mainGlobals "_law_next" = some (some (.ref f10))) (l10 : K.lookup f10 = some ⟨oc10, od10, .func (PySem.W.fnOf "_law_next" "_law_next" (defArgs s_law_next) (defBody s_law_next) (defScope s_law_next) .none kV10 dc10 pm10 an10 cd10 ct10), sl10⟩) (c10 : PySem.W.codeIn K cd10 "_law_next" = true) (k10 : PySem.W.keepIn K (.ref f10) = true)
    {f11 : Addr} {od11 an11 : Option Addr} {sl11 : Array (Option Value)} {oc11 kV11 dc11 pm11 cd11 ct11 : Value}
    (a11 : PySem.W.nsIn K mainGlobals "_law_lowest" = some (some (.ref f11))) (l11 : K.lookup f11 = some ⟨oc11, od11, .func (PySem.W.fnOf "_law_lowest" "_law_lowest" (defArgs s_law_lowest) (defBody s_law_lowest) (defScope s_law_lowest) .none kV11 dc11 pm11 an11 cd11 ct11), sl11⟩) (c11 : PySem.W.codeIn K cd11 "_law_lowest" = true) (k11 : PySem.W.keepIn K (.ref f11) = true)
    {f12 : Addr} {od12 an12 : Option Addr} {sl12 : Array (Option Value)} {oc12 kV12 dc12 pm12 cd12 ct12 : Value}
    (a12 : PySem.W.nsIn K mainGlobals "_law_far" = some (some (.ref f12))) (l12 : K.lookup f12 = some ⟨oc12, od12, .func (PySem.W.fnOf "_law_far" "_law_far" (defArgs s_law_far) (defBody s_law_far) (defScope s_law_far) .none kV12 dc12 pm12 an12 cd12 ct12), sl12⟩) (c12 : PySem.W.codeIn K cd12 "_law_far" = true) (k12 : PySem.W.keepIn K (.ref f12) = true)
    {f13 : Addr} {od13 an13 : Option Addr} {sl13 : Array (Option Value)} {oc13 kV13 dc13 pm13 cd13 ct13 : Value}
    (a13 : PySem.W.nsIn K mainGlobals "_law_ratio" = some (some (.ref f13))) (l13 : K.lookup f13 = some ⟨oc13, od13, .func (PySem.W.fnOf "_law_ratio" "_law_ratio" (defArgs s_law_ratio) (defBody s_law_ratio) (defScope s_law_ratio) .none kV13 dc13 pm13 an13 cd13 ct13), sl13⟩) (c13 : PySem.W.codeIn K cd13 "_law_ratio" = true) (k13 : PySem.W.keepIn K (.ref f13) = true)
    {f14 : Addr} {od14 an14 : Option Addr} {sl14 : Array (Option Value)} {oc14 kV14 dc14 pm14 cd14 ct14 : Value}
    (a14 : PySem.W.nsIn K mainGlobals "_law_sum" = some (some (.ref f14))) (l14 : K.lookup f14 = some ⟨oc14, od14, .func (PySem.W.fnOf "_law_sum" "_law_sum" (defArgs s_law_sum) (defBody s_law_sum) (defScope s_law_sum) .none kV14 dc14 pm14 an14 cd14 ct14), sl14⟩) (c14 : PySem.W.codeIn K cd14 "_law_sum" = true) (k14 : PySem.W.keepIn K (.ref f14) = true)
    {f15 : Addr} {od15 an15 : Option Addr} {sl15 : Array (Option Value)} {oc15 kV15 dc15 pm15 cd15 ct15 : Value}
    (a15 : PySem.W.nsIn K mainGlobals "_law_product" = some (some (.ref f15))) (l15 : K.lookup f15 = some ⟨oc15, od15, .func (PySem.W.fnOf "_law_product" "_law_product" (defArgs s_law_product) (defBody s_law_product) (defScope s_law_product) .none kV15 dc15 pm15 an15 cd15 ct15), sl15⟩) (c15 : PySem.W.codeIn K cd15 "_law_product" = true) (k15 : PySem.W.keepIn K (.ref f15) = true)
    {f16 : Addr} {od16 an16 : Option Addr} {sl16 : Array (Option Value)} {oc16 kV16 dc16 pm16 cd16 ct16 : Value}
    (a16 : PySem.W.nsIn K mainGlobals "_law_minus" = some (some (.ref f16))) (l16 : K.lookup f16 = some ⟨oc16, od16, .func (PySem.W.fnOf "_law_minus" "_law_minus" (defArgs s_law_minus) (defBody s_law_minus) (defScope s_law_minus) .none kV16 dc16 pm16 an16 cd16 ct16), sl16⟩) (c16 : PySem.W.codeIn K cd16 "_law_minus" = true) (k16 : PySem.W.keepIn K (.ref f16) = true)
    {f17 : Addr} {od17 an17 : Option Addr} {sl17 : Array (Option Value)} {oc17 kV17 dc17 pm17 cd17 ct17 : Value}
    (a17 : PySem.W.nsIn K mainGlobals "_law_meeting" = some (some (.ref f17))) (l17 : K.lookup f17 = some ⟨oc17, od17, .func (PySem.W.fnOf "_law_meeting" "_law_meeting" (defArgs s_law_meeting) (defBody s_law_meeting) (defScope s_law_meeting) .none kV17 dc17 pm17 an17 cd17 ct17), sl17⟩) (c17 : PySem.W.codeIn K cd17 "_law_meeting" = true) (k17 : PySem.W.keepIn K (.ref f17) = true)
    {f18 : Addr} {od18 an18 : Option Addr} {sl18 : Array (Option Value)} {oc18 kV18 dc18 pm18 cd18 ct18 : Value}
    (a18 : PySem.W.nsIn K mainGlobals "_law_sighting" = some (some (.ref f18))) (l18 : K.lookup f18 = some ⟨oc18, od18, .func (PySem.W.fnOf "_law_sighting" "_law_sighting" (defArgs s_law_sighting) (defBody s_law_sighting) (defScope s_law_sighting) .none kV18 dc18 pm18 an18 cd18 ct18), sl18⟩) (c18 : PySem.W.codeIn K cd18 "_law_sighting" = true) (k18 : PySem.W.keepIn K (.ref f18) = true)
    {f19 : Addr} {od19 an19 : Option Addr} {sl19 : Array (Option Value)} {oc19 kV19 dc19 pm19 cd19 ct19 : Value}
    (a19 : PySem.W.nsIn K mainGlobals "_law_weights" = some (some (.ref f19))) (l19 : K.lookup f19 = some ⟨oc19, od19, .func (PySem.W.fnOf "_law_weights" "_law_weights" (defArgs s_law_weights) (defBody s_law_weights) (defScope s_law_weights) .none kV19 dc19 pm19 an19 cd19 ct19), sl19⟩) (c19 : PySem.W.codeIn K cd19 "_law_weights" = true) (k19 : PySem.W.keepIn K (.ref f19) = true)
    {f20 : Addr} {od20 an20 : Option Addr} {sl20 : Array (Option Value)} {oc20 kV20 dc20 pm20 cd20 ct20 : Value}
    (a20 : PySem.W.nsIn K mainGlobals "_law_share" = some (some (.ref f20))) (l20 : K.lookup f20 = some ⟨oc20, od20, .func (PySem.W.fnOf "_law_share" "_law_share" (defArgs s_law_share) (defBody s_law_share) (defScope s_law_share) .none kV20 dc20 pm20 an20 cd20 ct20), sl20⟩) (c20 : PySem.W.codeIn K cd20 "_law_share" = true) (k20 : PySem.W.keepIn K (.ref f20) = true)
    {f21 : Addr} {od21 an21 : Option Addr} {sl21 : Array (Option Value)} {oc21 kV21 dc21 pm21 cd21 ct21 : Value}
    (a21 : PySem.W.nsIn K mainGlobals "_law_does" = some (some (.ref f21))) (l21 : K.lookup f21 = some ⟨oc21, od21, .func (PySem.W.fnOf "_law_does" "_law_does" (defArgs s_law_does) (defBody s_law_does) (defScope s_law_does) .none kV21 dc21 pm21 an21 cd21 ct21), sl21⟩) (c21 : PySem.W.codeIn K cd21 "_law_does" = true) (k21 : PySem.W.keepIn K (.ref f21) = true)
    {f22 : Addr} {od22 an22 : Option Addr} {sl22 : Array (Option Value)} {oc22 kV22 dc22 pm22 cd22 ct22 : Value}
    (a22 : PySem.W.nsIn K mainGlobals "_law_parts" = some (some (.ref f22))) (l22 : K.lookup f22 = some ⟨oc22, od22, .func (PySem.W.fnOf "_law_parts" "_law_parts" (defArgs s_law_parts) (defBody s_law_parts) (defScope s_law_parts) .none kV22 dc22 pm22 an22 cd22 ct22), sl22⟩) (c22 : PySem.W.codeIn K cd22 "_law_parts" = true) (k22 : PySem.W.keepIn K (.ref f22) = true)
    {f23 : Addr} {od23 an23 : Option Addr} {sl23 : Array (Option Value)} {oc23 kV23 dc23 pm23 cd23 ct23 : Value}
    (a23 : PySem.W.nsIn K mainGlobals "_law_common" = some (some (.ref f23))) (l23 : K.lookup f23 = some ⟨oc23, od23, .func (PySem.W.fnOf "_law_common" "_law_common" (defArgs s_law_common) (defBody s_law_common) (defScope s_law_common) .none kV23 dc23 pm23 an23 cd23 ct23), sl23⟩) (c23 : PySem.W.codeIn K cd23 "_law_common" = true) (k23 : PySem.W.keepIn K (.ref f23) = true)
    {f24 : Addr} {od24 an24 : Option Addr} {sl24 : Array (Option Value)} {oc24 kV24 dc24 pm24 cd24 ct24 : Value}
    (a24 : PySem.W.nsIn K mainGlobals "_law_least" = some (some (.ref f24))) (l24 : K.lookup f24 = some ⟨oc24, od24, .func (PySem.W.fnOf "_law_least" "_law_least" (defArgs s_law_least) (defBody s_law_least) (defScope s_law_least) .none kV24 dc24 pm24 an24 cd24 ct24), sl24⟩) (c24 : PySem.W.codeIn K cd24 "_law_least" = true) (k24 : PySem.W.keepIn K (.ref f24) = true)
    {f25 : Addr} {od25 an25 : Option Addr} {sl25 : Array (Option Value)} {oc25 kV25 dc25 pm25 cd25 ct25 : Value}
    (a25 : PySem.W.nsIn K mainGlobals "_law_softer" = some (some (.ref f25))) (l25 : K.lookup f25 = some ⟨oc25, od25, .func (PySem.W.fnOf "_law_softer" "_law_softer" (defArgs s_law_softer) (defBody s_law_softer) (defScope s_law_softer) .none kV25 dc25 pm25 an25 cd25 ct25), sl25⟩) (c25 : PySem.W.codeIn K cd25 "_law_softer" = true) (k25 : PySem.W.keepIn K (.ref f25) = true)
    {f26 : Addr} {od26 an26 : Option Addr} {sl26 : Array (Option Value)} {oc26 kV26 dc26 pm26 cd26 ct26 : Value}
    (a26 : PySem.W.nsIn K mainGlobals "_law_bad_ones" = some (some (.ref f26))) (l26 : K.lookup f26 = some ⟨oc26, od26, .func (PySem.W.fnOf "_law_bad_ones" "_law_bad_ones" (defArgs s_law_bad_ones) (defBody s_law_bad_ones) (defScope s_law_bad_ones) .none kV26 dc26 pm26 an26 cd26 ct26), sl26⟩) (c26 : PySem.W.codeIn K cd26 "_law_bad_ones" = true) (k26 : PySem.W.keepIn K (.ref f26) = true)
    {f27 : Addr} {od27 an27 : Option Addr} {sl27 : Array (Option Value)} {oc27 kV27 dc27 pm27 cd27 ct27 : Value}
    (a27 : PySem.W.nsIn K mainGlobals "law" = some (some (.ref f27))) (l27 : K.lookup f27 = some ⟨oc27, od27, .func (PySem.W.fnOf "law" "law" (defArgs s_law) (defBody s_law) (defScope s_law) .none kV27 dc27 pm27 an27 cd27 ct27), sl27⟩) (c27 : PySem.W.codeIn K cd27 "law" = true) (k27 : PySem.W.keepIn K (.ref f27) = true)
    (z_isinstance : PySem.W.nsIn K mainGlobals "isinstance" = some none)
    (z_int : PySem.W.nsIn K mainGlobals "int" = some none)
    (z_bool : PySem.W.nsIn K mainGlobals "bool" = some none)
    (z_abs : PySem.W.nsIn K mainGlobals "abs" = some none)
    (z_len : PySem.W.nsIn K mainGlobals "len" = some none)
    (z_max : PySem.W.nsIn K mainGlobals "max" = some none)
    (z_min : PySem.W.nsIn K mainGlobals "min" = some none)
    (z_range : PySem.W.nsIn K mainGlobals "range" = some none)
    (z_tuple : PySem.W.nsIn K mainGlobals "tuple" = some none)
    (z_sum : PySem.W.nsIn K mainGlobals "sum" = some none)
    (z_all : PySem.W.nsIn K mainGlobals "all" = some none)
    (z_list : PySem.W.nsIn K mainGlobals "list" = some none)
    {a_NOUGHT : Addr} {t1_NOUGHT t2_NOUGHT : Tok} {n_NOUGHT : Nat} {od_NOUGHT : Option Addr} {sl_NOUGHT : Array (Option Value)} (v_NOUGHT : PySem.W.nsIn K mainGlobals "NOUGHT" = some (some (.ref a_NOUGHT))) (l_NOUGHT : K.lookup a_NOUGHT = some ⟨.type "tuple", od_NOUGHT, .seq #[.int 0 t1_NOUGHT, .int 1 t2_NOUGHT] n_NOUGHT, sl_NOUGHT⟩) :
    ∃ fd : FuncData, (∀ (s : Shared) (v : Value), BindsTo s fd ⟨[v], []⟩ [("script", v)]) ∧ ∀ base : Heap, K.In base → base.Ns mainGlobals mg → FnOk l.prog w K mg base CX0 6 fa fd ["script"] (spLaw K) := by
  have e := hfa.symm.trans (PySem.W.mg_of X G a27)
  cases e
  have d_is_whole : Df K mg "is_whole" s_is_whole ["thing"] [] := df_mk l0 c0 k0 (PySem.W.mg_of X G a0) fun us hl => match us, hl with | [_], _ => rfl
  have d_greatest_divisor : Df K mg "greatest_divisor" s_greatest_divisor ["one", "other"] [] := df_mk l1 c1 k1 (PySem.W.mg_of X G a1) fun us hl => match us, hl with | [_, _], _ => rfl
  have d_ratio : Df K mg "ratio" s_ratio ["top", "bottom"] [] := ⟨⟨f2, _, _, _, _, _, _, _, _, _, _, [], l2, c2, k2, PySem.W.mg_of X G a2, .nil, fun s us KX hl => match us, hl with | [_, _], _ => .of_defaults rfl (KX _ _ ld2) rfl rfl rfl⟩⟩
  have dd_ratio : Df K mg "ratio" s_ratio ["top", "bottom"] [.int 1] := ⟨⟨f2, _, _, _, _, _, _, _, _, _, _, [.int 1 tkd2], l2, c2, k2, PySem.W.mg_of X G a2, .cons ⟨_, rfl⟩ .nil, fun s us KX hl => have hl2 : us.length = 1 := (by simpa using hl); match us, hl2 with | [_], _ => .of_defaults rfl (KX _ _ ld2) rfl rfl rfl⟩⟩
  have d_minus : Df K mg "minus" s_minus ["one", "other"] [] := df_mk l3 c3 k3 (PySem.W.mg_of X G a3) fun us hl => match us, hl with | [_, _], _ => rfl
  have d_over : Df K mg "over" s_over ["one", "other"] [] := df_mk l4 c4 k4 (PySem.W.mg_of X G a4) fun us hl => match us, hl with | [_, _], _ => rfl
  have d_less : Df K mg "less" s_less ["one", "other"] [] := df_mk l5 c5 k5 (PySem.W.mg_of X G a5) fun us hl => match us, hl with | [_, _], _ => rfl
  have d_share_of : Df K mg "share_of" s_share_of ["sighting"] [] := df_mk l6 c6 k6 (PySem.W.mg_of X G a6) fun us hl => match us, hl with | [_], _ => rfl
  have d_does_all : Df K mg "does_all" s_does_all ["weights", "sightings"] [] := df_mk l7 c7 k7 (PySem.W.mg_of X G a7) fun us hl => match us, hl with | [_, _], _ => rfl
  have d_law_cell : Df K mg "_law_cell" s_law_cell ["script", "k"] [] := df_mk l8 c8 k8 (PySem.W.mg_of X G a8) fun us hl => match us, hl with | [_, _], _ => rfl
  have d_law_dig : Df K mg "_law_dig" s_law_dig ["cell"] [] := df_mk l9 c9 k9 (PySem.W.mg_of X G a9) fun us hl => match us, hl with | [_], _ => rfl
  have d_law_next : Df K mg "_law_next" s_law_next ["pool", "base"] [] := df_mk l10 c10 k10 (PySem.W.mg_of X G a10) fun us hl => match us, hl with | [_, _], _ => rfl
  have d_law_lowest : Df K mg "_law_lowest" s_law_lowest ["top", "bottom"] [] := df_mk l11 c11 k11 (PySem.W.mg_of X G a11) fun us hl => match us, hl with | [_, _], _ => rfl
  have d_law_far : Df K mg "_law_far" s_law_far ["pool"] [] := df_mk l12 c12 k12 (PySem.W.mg_of X G a12) fun us hl => match us, hl with | [_], _ => rfl
  have d_law_ratio : Df K mg "_law_ratio" s_law_ratio ["pool"] [] := df_mk l13 c13 k13 (PySem.W.mg_of X G a13) fun us hl => match us, hl with | [_], _ => rfl
  have d_law_sum : Df K mg "_law_sum" s_law_sum ["one", "other"] [] := df_mk l14 c14 k14 (PySem.W.mg_of X G a14) fun us hl => match us, hl with | [_, _], _ => rfl
  have d_law_product : Df K mg "_law_product" s_law_product ["one", "other"] [] := df_mk l15 c15 k15 (PySem.W.mg_of X G a15) fun us hl => match us, hl with | [_, _], _ => rfl
  have d_law_minus : Df K mg "_law_minus" s_law_minus ["one", "other"] [] := df_mk l16 c16 k16 (PySem.W.mg_of X G a16) fun us hl => match us, hl with | [_, _], _ => rfl
  have d_law_meeting : Df K mg "_law_meeting" s_law_meeting ["i", "j", "one", "other", "v", "w"] [] := df_mk l17 c17 k17 (PySem.W.mg_of X G a17) fun us hl => match us, hl with | [_, _, _, _, _, _], _ => rfl
  have d_law_sighting : Df K mg "_law_sighting" s_law_sighting ["pool", "weights"] [] := df_mk l18 c18 k18 (PySem.W.mg_of X G a18) fun us hl => match us, hl with | [_, _], _ => rfl
  have d_law_weights : Df K mg "_law_weights" s_law_weights ["pool", "many"] [] := df_mk l19 c19 k19 (PySem.W.mg_of X G a19) fun us hl => match us, hl with | [_, _], _ => rfl
  have d_law_share : Df K mg "_law_share" s_law_share ["sighting"] [] := df_mk l20 c20 k20 (PySem.W.mg_of X G a20) fun us hl => match us, hl with | [_], _ => rfl
  have d_law_does : Df K mg "_law_does" s_law_does ["weights", "sightings"] [] := df_mk l21 c21 k21 (PySem.W.mg_of X G a21) fun us hl => match us, hl with | [_, _], _ => rfl
  have d_law_parts : Df K mg "_law_parts" s_law_parts ["n", "sightings"] [] := df_mk l22 c22 k22 (PySem.W.mg_of X G a22) fun us hl => match us, hl with | [_, _], _ => rfl
  have d_law_common : Df K mg "_law_common" s_law_common ["some"] [] := df_mk l23 c23 k23 (PySem.W.mg_of X G a23) fun us hl => match us, hl with | [_], _ => rfl
  have d_law_least : Df K mg "_law_least" s_law_least ["weights", "parts"] [] := df_mk l24 c24 k24 (PySem.W.mg_of X G a24) fun us hl => match us, hl with | [_, _], _ => rfl
  have d_law_softer : Df K mg "_law_softer" s_law_softer ["sighting", "part"] [] := df_mk l25 c25 k25 (PySem.W.mg_of X G a25) fun us hl => match us, hl with | [_, _], _ => rfl
  have d_law_bad_ones : Df K mg "_law_bad_ones" s_law_bad_ones ["pool", "sighting"] [] := df_mk l26 c26 k26 (PySem.W.mg_of X G a26) fun us hl => match us, hl with | [_, _], _ => rfl
  have T : TxB K mg := ⟨kit_ii K, kit_ib K, PySem.W.mg_none_of X G z_isinstance, PySem.W.mg_none_of X G z_int, PySem.W.mg_none_of X G z_bool, PySem.W.mg_none_of X G z_abs, PySem.W.mg_none_of X G z_len, PySem.W.mg_none_of X G z_max, PySem.W.mg_none_of X G z_min, PySem.W.mg_none_of X G z_range, PySem.W.mg_none_of X G z_tuple, PySem.W.mg_none_of X G z_sum⟩
  have F := fun_mk (st := s_law) l27 c27 k27
  refine ⟨PySem.W.fnOf "law" "law" (defArgs s_law) (defBody s_law) (defScope s_law) .none kV27 dc27 pm27 an27 cd27 ct27, fun s v => .of_eq rfl, fun base hKb hGb => ?_⟩
  have TF : TxF K mg a_NOUGHT := ⟨PySem.W.mg_none_of X G z_all, PySem.W.mg_none_of X G z_list, PySem.W.mg_of X G v_NOUGHT, ⟨_, _, _, _, l_NOUGHT, rfl, rfl⟩⟩
  have cW := ok_whole (P := l.prog) (w := w) (base := base) d_is_whole T
  have cG := ok_gcd (P := l.prog) (w := w) (base := base) d_greatest_divisor
  have cR := ok_ratio d_ratio T cW cG
  have cM := ok_minus d_minus cR
  have cO := ok_over d_over cR
  have cLs := ok_lessK (P := l.prog) (w := w) (base := base) d_less
  have cSh := ok_sh d_share_of TF cM cO cLs
  have cDo := ok_do d_does_all TF cR cSh
  have cC := ok_cell (P := l.prog) (w := w) (base := base) d_law_cell T
  have cD := ok_dig (P := l.prog) (w := w) (base := base) d_law_dig T
  have cN := ok_next (P := l.prog) (w := w) (base := base) d_law_next
  have cL := ok_low (P := l.prog) (w := w) (base := base) d_law_lowest T
  have cFa := ok_far d_law_far T cN
  have cRa := ok_rat d_law_ratio cN cFa cL
  have cS := ok_lsum d_law_sum cL
  have cPr := ok_lprod d_law_product cL
  have cMi := ok_mi d_law_minus cS cPr
  have cMe := ok_me d_law_meeting cMi cS cPr cL
  have cSi := ok_si d_law_sighting T cN cRa cS cL cMe
  have cWe := ok_we d_law_weights T cN
  have cSl := ok_ls d_law_share cMi cL
  have cSo := ok_so d_law_softer cMi cS cPr
  have cLd := ok_ld d_law_does T cSl
  have cPt := ok_pt (P := l.prog) (w := w) (base := base) d_law_parts T TF
  have cCm := ok_cm (P := l.prog) (w := w) (base := base) d_law_common
  have cLe := ok_le d_law_least T cCm
  have cBo := ok_bo d_law_bad_ones cN cL cS cSo
  exact ok_law F T TF cC cD cN cFa cWe cSi cPt cLe cDo cLd cBo
theorem walk {l : PySem.W.OpenLaw} {q : Program} {loose : List Str} {XP : (Str → Option Value) → Heap → Prop} {YP : World → Heap → Prop} {d : DefRec} {K : Params → PySem.W.Frag} (hn : l.most = some 63) (hdf : d.params.defaults = [])
    (hY : ∀ (w : World) (h : Heap), YP w h → (K w.params).In h)
    (F : ∀ (w : World) (mg : Str → Option Value) (fa : Addr) (h : Heap), (K w.params).In h → h.Ns mainGlobals mg → mg d.name = some (.ref fa) →
      ∃ fd : FuncData, (∀ (s : Shared) (u : Value), BindsTo s fd ⟨[u], []⟩ [("script", u)]) ∧ ∀ base : Heap, (K w.params).In base → base.Ns mainGlobals mg → FnOk l.prog w (K w.params) mg base CX0 6 fa fd ["script"] (spLaw (K w.params))) :
    PySem.W.WalkO q loose XP YP l.row.toRowW d [] (fun f vs => PySem.call f vs) :=
  L2.walk_of (n := 63) (k := 6) (x := "script") (CX := fun _ => CX0) (sp := fun w => spLaw (K w.params)) hn (by decide) hdf ⟨rfl, by decide, by decide⟩ hY F (fun _ _ a ns hl _ hS => ⟨a, ns, rfl, hS, hl, fun _ => rfl⟩) fun _ _ _ _ _ z => z
end KK
open PySem PySem.W PyProof.Rows
set_option maxRecDepth 100000 in
set_option maxHeartbeats 0 in
theorem PySem.Challenge.cw_clackrow_k55_weights_judged_holds : PySem.Challenge.rw_clackrow_k55_weights_judged.Holds := by
  w_on; o_law; k_head; (case hw => w_witness2)
  k_fill
  refine KK.walk (l := PySem.Challenge.rw_clackrow_k55_weights_judged) rfl rfl (fun w h Y => PySem.W.kIn_of Y) ?F
  case F =>
    intro w mg fa h KX G hmg
    refine' KK.all_mk KX G hmg ?a0 ?l0 ?c0 ?k0 ?a1 ?l1 ?c1 ?k1 ?a2 ?l2 ?c2 ?k2 ?ld2 ?a3 ?l3 ?c3 ?k3 ?a4 ?l4 ?c4 ?k4 ?a5 ?l5 ?c5 ?k5 ?a6 ?l6 ?c6 ?k6 ?a7 ?l7 ?c7 ?k7 ?a8 ?l8 ?c8 ?k8 ?a9 ?l9 ?c9 ?k9 ?a10 ?l10 ?c10 ?k10 ?a11 ?l11 ?c11 ?k11 ?a12 ?l12 ?c12 ?k12 ?a13 ?l13 ?c13 ?k13 ?a14 ?l14 ?c14 ?k14 ?a15 ?l15 ?c15 ?k15 ?a16 ?l16 ?c16 ?k16 ?a17 ?l17 ?c17 ?k17 ?a18 ?l18 ?c18 ?k18 ?a19 ?l19 ?c19 ?k19 ?a20 ?l20 ?c20 ?k20 ?a21 ?l21 ?c21 ?k21 ?a22 ?l22 ?c22 ?k22 ?a23 ?l23 ?c23 ?k23 ?a24 ?l24 ?c24 ?k24 ?a25 ?l25 ?c25 ?k25 ?a26 ?l26 ?c26 ?k26 ?a27 ?l27 ?c27 ?k27 ?z_isinstance ?z_int ?z_bool ?z_abs ?z_len ?z_max ?z_min ?z_range ?z_tuple ?z_sum ?z_all ?z_list ?v_NOUGHT ?l_NOUGHT
    (case a0 => k_is)
    (case l0 => k_is)
    (case c0 => k_is)
    (case k0 => k_is)
    (case a1 => k_is)
    (case l1 => k_is)
    (case c1 => k_is)
    (case k1 => k_is)
    (case a2 => k_is)
    (case l2 => k_is)
    (case c2 => k_is)
    (case k2 => k_is)
    (case ld2 => k_is)
    (case a3 => k_is)
    (case l3 => k_is)
    (case c3 => k_is)
    (case k3 => k_is)
    (case a4 => k_is)
    (case l4 => k_is)
    (case c4 => k_is)
    (case k4 => k_is)
    (case a5 => k_is)
    (case l5 => k_is)
    (case c5 => k_is)
    (case k5 => k_is)
    (case a6 => k_is)
    (case l6 => k_is)
    (case c6 => k_is)
    (case k6 => k_is)
    (case a7 => k_is)
    (case l7 => k_is)
    (case c7 => k_is)
    (case k7 => k_is)
    (case a8 => k_is)
    (case l8 => k_is)
    (case c8 => k_is)
    (case k8 => k_is)
    (case a9 => k_is)
    (case l9 => k_is)
    (case c9 => k_is)
    (case k9 => k_is)
    (case a10 => k_is)
    (case l10 => k_is)
    (case c10 => k_is)
    (case k10 => k_is)
    (case a11 => k_is)
    (case l11 => k_is)
    (case c11 => k_is)
    (case k11 => k_is)
    (case a12 => k_is)
    (case l12 => k_is)
    (case c12 => k_is)
    (case k12 => k_is)
    (case a13 => k_is)
    (case l13 => k_is)
    (case c13 => k_is)
    (case k13 => k_is)
    (case a14 => k_is)
    (case l14 => k_is)
    (case c14 => k_is)
    (case k14 => k_is)
    (case a15 => k_is)
    (case l15 => k_is)
    (case c15 => k_is)
    (case k15 => k_is)
    (case a16 => k_is)
    (case l16 => k_is)
    (case c16 => k_is)
    (case k16 => k_is)
    (case a17 => k_is)
    (case l17 => k_is)
    (case c17 => k_is)
    (case k17 => k_is)
    (case a18 => k_is)
    (case l18 => k_is)
    (case c18 => k_is)
    (case k18 => k_is)
    (case a19 => k_is)
    (case l19 => k_is)
    (case c19 => k_is)
    (case k19 => k_is)
    (case a20 => k_is)
    (case l20 => k_is)
    (case c20 => k_is)
    (case k20 => k_is)
    (case a21 => k_is)
    (case l21 => k_is)
    (case c21 => k_is)
    (case k21 => k_is)
    (case a22 => k_is)
    (case l22 => k_is)
    (case c22 => k_is)
    (case k22 => k_is)
    (case a23 => k_is)
    (case l23 => k_is)
    (case c23 => k_is)
    (case k23 => k_is)
    (case a24 => k_is)
    (case l24 => k_is)
    (case c24 => k_is)
    (case k24 => k_is)
    (case a25 => k_is)
    (case l25 => k_is)
    (case c25 => k_is)
    (case k25 => k_is)
    (case a26 => k_is)
    (case l26 => k_is)
    (case c26 => k_is)
    (case k26 => k_is)
    (case a27 => k_is)
    (case l27 => k_is)
    (case c27 => k_is)
    (case k27 => k_is)
    (case z_isinstance => k_is)
    (case z_int => k_is)
    (case z_bool => k_is)
    (case z_abs => k_is)
    (case z_len => k_is)
    (case z_max => k_is)
    (case z_min => k_is)
    (case z_range => k_is)
    (case z_tuple => k_is)
    (case z_sum => k_is)
    (case z_all => k_is)
    (case z_list => k_is)
    (case v_NOUGHT => k_is)
    (case l_NOUGHT => k_is)
end
