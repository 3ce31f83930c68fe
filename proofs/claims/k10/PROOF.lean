import PyProof.Rows.All
import Wide.All
import OpenK.AllK
import Wide.FinOn
import Lean
import PyProof.EqAt
import PyProof.EqKinds
import PyProof.TupleCall
import KE.IntBitsLaws
import PyProof.NeKinds
import PyProof.ZipIter
import PyProof.EnumMake
import PyProof.FString
import PyProof.InstStoreFacts
import KE.KDictList
import KE.KItemsList
import KE.KPairComp
import PyProof.StrBlockI
import PyProof.StrWalks
import PySem.Challenge.RW_knell_k10_whole_tower
set_option Elab.async false
set_option linter.all false
set_option maxRecDepth 100000
namespace L2
open PySem PySem.Spec PyProof.Rows
abbrev Key := Sum Int Str
def keyIs : Key → Value → Bool
 | .inl k, v => Value.isInt k v
 | .inr x, v => Value.isStrOf x v
def keyH (w : World) : Key → Int
 | .inl k => hashInt k
 | .inr x => hashStr w x
theorem keyIs_shape : ∀ {k : Key} {v : Value}, keyIs k v = true → (∃ i t, k = Sum.inl i ∧ v = Value.int i t) ∨ (∃ x t, k = Sum.inr x ∧ v = Value.str x t)
 | .inl i, v, h => by
  obtain ⟨t, e⟩ := Value.isInt_shape (k := i) (v := v) h
  exact .inl ⟨i, t, rfl, e⟩
 | .inr x, v, h => by
  obtain ⟨t, e⟩ := Value.isStrOf_shape (x := x) (v := v) h
  exact .inr ⟨x, t, rfl, e⟩
theorem keyIs_int (i : Int) (t : Tok) : keyIs (.inl i) (.int i t) = true := by simp [keyIs, Value.isInt]
theorem keyIs_str (x : Str) (t : Tok) : keyIs (.inr x) (.str x t) = true := by simp [keyIs, Value.isStrOf]
theorem key_ll (a b : Int) : decide ((Sum.inl a : Key) = Sum.inl b) = (a == b) := by
 by_cases e : a = b
 ·subst e; simp
 ·have h : ¬ (Sum.inl a : Key) = Sum.inl b := fun q => e (Sum.inl.inj q)
  rw [decide_eq_false h]
  exact (beq_eq_false_iff_ne.mpr e).symm
theorem key_rr (a b : Str) : decide ((Sum.inr a : Key) = Sum.inr b) = decide (a = b) := by
 by_cases e : a = b
 ·subst e; simp
 ·have h : ¬ (Sum.inr a : Key) = Sum.inr b := fun q => e (Sum.inr.inj q)
  rw [decide_eq_false h, decide_eq_false e]
theorem key_lr (a : Int) (b : Str) : decide ((Sum.inl a : Key) = Sum.inr b) = false := decide_eq_false (fun q => nomatch q)
theorem key_rl (a : Str) (b : Int) : decide ((Sum.inr a : Key) = Sum.inl b) = false := decide_eq_false (fun q => nomatch q)
def mixKind (prog : Program) (w : World) : PySem.KeyKind prog w Key where
 is := keyIs
 hash := keyH w
 inj := fun v a b ha hb => by
  rcases keyIs_shape ha with ⟨i, t, rfl, rfl⟩ | ⟨x, t, rfl, rfl⟩
  ·rcases keyIs_shape hb with ⟨j, u, rfl, e⟩ | ⟨y, u, rfl, e⟩
   ·injection e with e1 _; rw [e1]
   ·exact nomatch e
  ·rcases keyIs_shape hb with ⟨j, u, rfl, e⟩ | ⟨y, u, rfl, e⟩
   ·exact nomatch e
   ·injection e with e1 _; rw [e1]
 byValue := fun k v h => by
  rcases keyIs_shape h with ⟨i, t, rfl, rfl⟩ | ⟨x, t, rfl, rfl⟩ <;> rfl
 pyHash := fun hv h => by
  rcases keyIs_shape hv with ⟨i, t, rfl, rfl⟩ | ⟨x, t, rfl, rfl⟩
  ·exact wpAny_pyHash_int h
  ·exact wpAny_pyHash_str h
 eqBool := fun hu hv h => by
  rcases keyIs_shape hu with ⟨i, t, rfl, rfl⟩ | ⟨x, t, rfl, rfl⟩
  ·rcases keyIs_shape hv with ⟨j, u, rfl, rfl⟩ | ⟨y, u, rfl, rfl⟩
   ·rw [key_ll] at h; exact wpAny_eqBool_int h
   ·rw [key_lr] at h; exact SeqAt.EqAt.int_str i t y u _ _ _ _ h
  ·rcases keyIs_shape hv with ⟨j, u, rfl, rfl⟩ | ⟨y, u, rfl, rfl⟩
   ·rw [key_rl] at h; exact SeqAt.EqAt.str_int x t j u _ _ _ _ h
   ·rw [key_rr] at h; exact wpAny_eqBool_str h
 «strs» := fun k x t v h => by
  rcases keyIs_shape h with ⟨i, u, rfl, e⟩ | ⟨y, u, rfl, e⟩
  ·exact nomatch e
  ·injection e with e1 _
   subst e1
   cases v <;> rfl
theorem mixKind_int (prog : Program) (w : World) (i : Int) (t : Tok) : (mixKind prog w).is (.inl i) (.int i t) = true := keyIs_int i t
theorem mixKind_str (prog : Program) (w : World) (x : Str) (t : Tok) : (mixKind prog w).is (.inr x) (.str x t) = true := keyIs_str x t
end L2
namespace L2
open PySem PySem.Spec PyProof.Rows
inductive V where
 | non | bl (b : Bool) | int (i : Int) | str (x : Str) | byt (b : Array UInt8) | flt (b : UInt64) | ref (a : Addr) | ty (n : String)
 deriving DecidableEq
def RelV : V → Value → Prop
 | .non, u => u = Value.none
 | .bl b, u => u = Value.bool b
 | .int i, u => ∃ t, u = Value.int i t
 | .str x, u => ∃ t, u = Value.str x t
 | .byt b, u => ∃ t, u = Value.bytes b t
 | .flt b, u => ∃ t, u = Value.float b t
 | .ref a, u => u = Value.ref a
 | .ty n, u => u = Value.type n
abbrev Vals : List V → List Value → Prop := Paired RelV
theorem Vals.length {xs : List V} {us : List Value} (r : Vals xs us) : xs.length = us.length := Paired.length r
theorem Vals.get : ∀ {xs : List V} {us : List Value} {i : Nat} {x : V}, Vals xs us → xs[i]? = some x → ∃ u, us[i]? = some u ∧ RelV x u
 | _, _, _, _, .nil, e => by simp at e
 | _, _, 0, _, .cons r _, e => by simp at e; subst e; exact ⟨_, rfl, r⟩
 | _, _, i + 1, x, .cons _ t, e => by
  obtain ⟨u, h1, h2⟩ := Vals.get (i := i) (x := x) t (by simpa using e)
  exact ⟨u, by simpa using h1, h2⟩
theorem Vals.set {x : V} {u : Value} (r : RelV x u) : ∀ {xs : List V} {us : List Value} (i : Nat), Vals xs us → Vals (xs.set i x) (us.set i u)
 | _, _, _, .nil => .nil
 | _, _, 0, .cons _ t => .cons r t
 | _, _, i + 1, .cons q t => .cons q (Vals.set r i t)
theorem Vals.append : ∀ {xs ys : List V} {us ws : List Value}, Vals xs us → Vals ys ws → Vals (xs ++ ys) (us ++ ws)
 | _, _, _, _, .nil, s => s
 | _, _, _, _, .cons r t, s => .cons r (Vals.append t s)
theorem Vals.take : ∀ {xs : List V} {us : List Value} (n : Nat), Vals xs us → Vals (xs.take n) (us.take n)
 | _, _, 0, _ => .nil
 | _, _, _ + 1, .nil => .nil
 | _, _, n + 1, .cons r t => .cons r (Vals.take n t)
theorem Vals.drop : ∀ {xs : List V} {us : List Value} (n : Nat), Vals xs us → Vals (xs.drop n) (us.drop n)
 | _, _, 0, r => r
 | _, _, _ + 1, .nil => .nil
 | _, _, n + 1, .cons _ t => Vals.drop n t
def RelO : Option V → Option Value → Prop
 | some v, some u => RelV v u
 | none, none => True
 | _, _ => False
def KV {κ : Type} : List (κ × V) → List (κ × Value) → Prop := Paired fun (p : κ × V) (q : κ × Value) => p.1 = q.1 ∧ RelV p.2 q.2
def kV : Key → V
 | .inl i => .int i
 | .inr x => .str x
inductive HO where
 /-- a list -/
 | lst (xs : List V)
 /-- a tuple (never changes) -/
 | tup (xs : List V)
 /-- a dict whose keys are ints and texts; one whose keys are tuples of ints and texts (the empty one is both) -/
 | dK (kvs : List (Key × V)) | dT (kvs : List (List Key × V))
 /-- a set of ints: its members, its size -/
 | set (S : Int → Bool) (n : Nat)
 /-- an instance of the class at C, its dict at dx, its attributes -/
 | ins (C dx : Addr) (fs : List (Str × V))
 /-- the dict of the instance at x -/
 | own (x : Addr)
 /-- the dict of an exception -/
 | xd (fs : List (Str × V))
 /-- a bound method, f of x -/
 | met (f x : Addr)
 /-- a range object lo, lo + 1, .. below hi -/
 | rng (lo hi : Int)
 /-- a thing that is known to the object (the script; a dict while a loop walks it): read, never written while it is so -/
 | frz (o : Obj) (u : HO)
 /-- a code object's table -/
 | tbl (ps : Array Value)
 /-- any other thing, by what is true of its one object (a def of one's own: SetO a S n := HO.ext fun h => ..) -/
 | ext (φ : Heap → Prop)
abbrev Hp := Addr → Option HO
def upd (H : Hp) (a : Addr) (o : HO) : Hp := fun b => if b = a then some o else H b
theorem upd_same {H : Hp} {a : Addr} {o : HO} : upd H a o a = some o := by unfold upd; rw [if_pos rfl]
theorem upd_ne {H : Hp} {a b : Addr} {o : HO} (h : b ≠ a) : upd H a o b = H b := by unfold upd; rw [if_neg h]
theorem ne_of {H : Hp} {a b : Addr} {o u : HO} (h : H a = some o) (h' : H b = some u) (d : o ≠ u) : a ≠ b := by
 intro e; subst e; rw [h] at h'; exact d (Option.some.inj h')
theorem ne_of_none {H : Hp} {a b : Addr} {o : HO} (h : H a = some o) (h' : H b = none) : a ≠ b := by
 intro e; subst e; rw [h] at h'; cases h'
section
variable (P : Program) (w : World)
def ObjOk (H : Hp) (h : Heap) (a : Addr) : HO → Prop
 | .lst xs => xs.length ≤ sizeLine ∧ ∃ (its : List Value) (n : Nat), Vals xs its ∧ h.get? a = some { cls := .type "list", data := .seq its.toArray n }
 | .tup xs => xs.length ≤ sizeLine ∧ ∃ its : List Value, Vals xs its ∧ IsTup h a its.toArray
 | .dK kvs => kvs.length ≤ sizeLine ∧ (a == sysModules) = false ∧ ∃ vs, KV kvs vs ∧ h.DictOf (mixKind P w) a vs
 | .dT kvs => kvs.length ≤ sizeLine ∧ (a == sysModules) = false ∧ ∃ xs : List (List Key × Addr × Value),
   Paired (fun (p : List Key × V) (q : List Key × Addr × Value) => p.1 = q.1 ∧ H q.2.1 = some (.tup (p.1.map kV)) ∧ RelV p.2 q.2.2) kvs xs ∧
   ∃ o es ep, h.get? a = some o ∧ o.ExactDict ∧ o.data = .dict es ep ∧ es.toList = xs.map (entryOfKey (tupleKind (mixKind P w))) ∧ (xs.map (·.1)).Nodup
 | .set S n => h.SetOf (intKind P w) a S n
 | .ins C dx fs => H dx = some (.own a) ∧ fs.length ≤ 1000 ∧ dx ≠ a ∧ h.get? a = some (W.instObj C dx) ∧
   ∃ mA, h.Ns1 dx mA ∧ (∀ f, RelO (fs.lookup f) (mA f)) ∧ PySem.Within mA (fs.map (·.1))
 | .own _ => ∃ o, h.get? a = some o
 | .xd fs => ∃ mA, h.Ns1 a mA ∧ ∀ f, RelO (fs.lookup f) (mA f)
 | .rng lo hi => ∃ t u v, h.get? a = some { cls := .type "range", data := .fields #[.int lo t, .int hi u, .int 1 v] }
 | .frz o u => h.get? a = some o ∧ ObjOk H h a u
 | .tbl ps => h.get? a = some { cls := .none, data := .fields ps }
 | .met f x => h.get? a = some (W.methodObj (.ref f) (.ref x))
 | .ext φ => φ h ∧ (∃ o, h.get? a = some o) ∧ ∀ h1 h2 : Heap, φ h1 → (∀ o, h1.get? a = some o → h2.get? a = some o) → φ h2
def HOk (H : Hp) (h : Heap) : Prop := ∀ a o, H a = some o → ObjOk P w H h a o
end
section
variable {P : Program} {w : World} {H H' : Hp} {h h' : Heap} {a : Addr} {o : HO}
theorem ObjOk.lt (x : ObjOk P w H h a o) : a < h.objs.size := by
 cases o with
 | lst xs => obtain ⟨_, _, _, _, e⟩ := x; exact Heap.lt_size e
 | tup xs => obtain ⟨_, _, _, p⟩ := x; exact p.lt
 | dK kvs => obtain ⟨_, _, _, _, o, _, _, e, _⟩ := x; exact Heap.lt_size e
 | dT kvs => obtain ⟨_, _, _, _, o, _, _, e, _⟩ := x; exact Heap.lt_size e
 | set S n => obtain ⟨o, _, _, _, e, _⟩ := x; exact Heap.lt_size e
 | ins C dx fs => obtain ⟨_, _, _, e, _⟩ := x; exact Heap.lt_size e
 | own y => obtain ⟨_, e⟩ := x; exact Heap.lt_size e
 | xd fs => obtain ⟨_, ⟨_, _, _, e, _⟩, _⟩ := x; exact Heap.lt_size e
 | rng lo hi => obtain ⟨_, _, _, e⟩ := x; exact Heap.lt_size e
 | frz ob u => obtain ⟨e, _⟩ := x; exact Heap.lt_size e
 | tbl ps => exact Heap.lt_size (show h.get? a = some _ from x)
 | met f y => exact Heap.lt_size (show h.get? a = some _ from x)
 | ext φ => obtain ⟨_, ⟨_, e⟩, _⟩ := x; exact Heap.lt_size e
theorem Paired.mapP {α β : Type} {F G : α → β → Prop} : ∀ {l₁ : List α} {l₂ : List β}, Paired F l₁ l₂ → (∀ a b, F a b → G a b) → Paired G l₁ l₂
 | _, _, .nil, _ => .nil
 | _, _, .cons r t, f => .cons (f _ _ r) (Paired.mapP t f)
theorem ObjOk.stay (x : ObjOk P w H h a o) (k : ∀ b u, (b = a ∨ H b = some (.own a)) → h.get? b = some u → h'.get? b = some u)
  (ho : ∀ b, H b = some (.own a) → H' b = some (.own a)) (ht : ∀ b xs, H b = some (.tup xs) → H' b = some (.tup xs)) : ObjOk P w H' h' a o := by
 induction o with
 | lst xs => obtain ⟨z, its, n, r, e⟩ := x; exact ⟨z, its, n, r, k _ _ (.inl rfl) e⟩
 | tup xs => obtain ⟨z, its, r, ob, e, c⟩ := x; exact ⟨z, its, r, ob, k _ _ (.inl rfl) e, c⟩
 | dK kvs => obtain ⟨z, y, vs, r, ob, es, ep, e, c⟩ := x; exact ⟨z, y, vs, r, ob, es, ep, k _ _ (.inl rfl) e, c⟩
 | dT kvs =>
  obtain ⟨z, y, xs, r, ob, es, ep, e, c⟩ := x
  exact ⟨z, y, xs, Paired.mapP r fun p q z => ⟨z.1, ht _ _ z.2.1, z.2.2⟩, ob, es, ep, k _ _ (.inl rfl) e, c⟩
 | set S n => obtain ⟨ob, es, ep, t, e, c⟩ := x; exact ⟨ob, es, ep, t, k _ _ (.inl rfl) e, c⟩
 | ins C dx fs =>
  obtain ⟨d, z, ne, e, mA, ⟨od, es, ep, e2, c⟩, r⟩ := x
  exact ⟨ho _ d, z, ne, k _ _ (.inl rfl) e, mA, ⟨od, es, ep, k _ _ (.inr d) e2, c⟩, r⟩
 | own y => obtain ⟨ob, e⟩ := x; exact ⟨ob, k _ _ (.inl rfl) e⟩
 | xd fs => obtain ⟨mA, ⟨od, es, ep, e, c⟩, r⟩ := x; exact ⟨mA, ⟨od, es, ep, k _ _ (.inl rfl) e, c⟩, r⟩
 | rng lo hi => obtain ⟨t, u, v, e⟩ := x; exact ⟨t, u, v, k _ _ (.inl rfl) e⟩
 | frz ob u ih => obtain ⟨e, q⟩ := x; exact ⟨k _ _ (.inl rfl) e, ih q⟩
 | tbl ps =>
  have e : h.get? a = some { cls := .none, data := .fields ps } := x
  show h'.get? a = some { cls := .none, data := .fields ps }
  exact k a _ (.inl rfl) e
 | met f y =>
  have e : h.get? a = some (W.methodObj (.ref f) (.ref y)) := x
  show h'.get? a = some (W.methodObj (.ref f) (.ref y))
  exact k a _ (.inl rfl) e
 | ext φ => obtain ⟨p, ⟨o, e⟩, st⟩ := x; exact ⟨st _ _ p fun o q => k _ _ (.inl rfl) q, ⟨o, k _ _ (.inl rfl) e⟩, st⟩
theorem HOk.lt (x : HOk P w H h) (e : H a = some o) : a < h.objs.size := (x a o e).lt
theorem HOk.fresh (x : HOk P w H h) (e : h.objs.size ≤ a) : H a = none := by
 cases q : H a with
 | none => rfl
 | some u => exact absurd (Nat.lt_of_lt_of_le (x.lt q) e) (Nat.lt_irrefl _)
theorem HOk.kept (x : HOk P w H h) (k : ∀ b u, h.get? b = some u → h'.get? b = some u) : HOk P w H h' := fun a o e =>
 (x a o e).stay (fun b u _ q => k b u q) (fun _ q => q) fun _ _ q => q
theorem HOk.laid (x : HOk P w H h) (k : ∀ b u, h.get? b = some u → h'.get? b = some u) (hp : h.objs.size ≤ a) (new : ObjOk P w (upd H a o) h' a o) : HOk P w (upd H a o) h' := fun b u e => by
 have hn := x.fresh hp
 by_cases hb : b = a
 ·subst hb; rw [upd_same] at e; cases e; exact new
 ·rw [upd_ne hb] at e
  exact (x b u e).stay (fun c v _ q => k c v q) (fun c q => by rw [upd_ne (ne_of_none q hn)]; exact q) fun c xs q => by rw [upd_ne (ne_of_none q hn)]; exact q
end
def Rd (H : Hp) (a : Addr) (u : HO) : Prop := H a = some u ∨ ∃ o, H a = some (.frz o u)
theorem Rd.ok {P : Program} {w : World} {H : Hp} {h : Heap} {a : Addr} {u : HO} (r : Rd H a u) (x : HOk P w H h) : ObjOk P w H h a u := by
 rcases r with r | ⟨o, r⟩
 ·exact x a u r
 ·obtain ⟨_, q⟩ := x a _ r
  exact q
def Mut : Option HO → Prop
 | some (.lst _) => True
 | some (.dK _) => True
 | some (.dT _) => True
 | some (.set _ _) => True
 | some (.ins _ _ _) => True
 | some (.ext _) => True
 | _ => False
section
variable {P : Program} {w : World} {H : Hp} {h h' : Heap} {x e : Addr} {o' : HO}
theorem HOk.write (ok : HOk P w H h) (mu : Mut (H x)) (he : e = x ∨ H e = some (.own x)) (k : ∀ b u, b ≠ e → h.get? b = some u → h'.get? b = some u) (heo : ∃ u, h'.get? e = some u)
  (new : ObjOk P w (upd H x o') h' x o') : HOk P w (upd H x o') h' := fun b u q => by
 have nown : ∀ c y, H c = some (.own y) → c ≠ x := fun c y r z => by subst z; rw [r] at mu; exact mu
 have ntup : ∀ c xs, H c = some (.tup xs) → c ≠ x := fun c xs r z => by subst z; rw [r] at mu; exact mu
 by_cases hb : b = x
 ·subst hb; rw [upd_same] at q; cases q; exact new
 ·rw [upd_ne hb] at q
  by_cases hbe : b = e
  ·have q' : H b = some (.own x) := by
    rcases he with z | z
    ·exact absurd (hbe.trans z) hb
    ·rw [hbe]; exact z
   rw [q] at q'; cases q'
   obtain ⟨v, hv⟩ := heo
   exact ⟨v, by rw [hbe]; exact hv⟩
  ·refine (ok b u q).stay (fun c v hc r => k c v ?_ r) (fun c r => by rw [upd_ne (nown c b r)]; exact r) fun c xs r => by rw [upd_ne (ntup c xs r)]; exact r
   rcases hc with rfl | hc
   ·exact hbe
   ·rintro rfl
    rcases he with z | z
    ·exact nown c b hc z
    ·rw [hc] at z; cases z; exact hb rfl
end
structure Un (fs ex : List Addr) (H H' : Hp) (h h' : Heap) : Prop where
 keep : ∀ b o, h.get? b = some o → H b = none → b ∉ fs → b ∉ ex → h'.get? b = some o
 slot : ∀ b o, h.get? b = some o → H b = none → b ∈ fs → b ∉ ex → ∃ sl, h'.get? b = some { o with slots := sl }
 free : ∀ b o, h.get? b = some o → H b = none → b ∉ ex → H' b = none
 there : ∀ b o, h.get? b = some o → b ∉ ex → ∃ o', h'.get? b = some o'
 tups : ∀ b xs, H b = some (.tup xs) → H' b = some (.tup xs)
 frzs : ∀ b o u, H b = some (.frz o u) → H' b = some (.frz o u)
 tbls : ∀ b ps, H b = some (.tbl ps) → ∃ more, H' b = some (.tbl (ps ++ more))
section
variable {fs fs' ex ex' : List Addr} {H H1 H2 : Hp} {h h1 h2 h' : Heap} {a x e : Addr} {o : HO}
theorem Un.any (u : Un fs ex H H1 h h1) {b : Addr} {ob : Obj} (q : h.get? b = some ob) (n : H b = none) (hx : b ∉ ex) : ∃ sl, h1.get? b = some { ob with slots := sl } := by
 by_cases hb : b ∈ fs
 ·exact u.slot b ob q n hb hx
 ·exact ⟨ob.slots, u.keep b ob q n hb hx⟩
theorem Un.kept (k : ∀ b u, h.get? b = some u → h'.get? b = some u) : Un fs ex H H h h' :=
 ⟨fun b ob q _ _ _ => k b ob q, fun b ob q _ _ _ => ⟨ob.slots, k b ob q⟩, fun _ _ _ n _ => n, fun b ob q _ => ⟨ob, k b ob q⟩, fun _ _ q => q, fun _ _ _ q => q, fun _ ps q => ⟨#[], by rw [q]; simp⟩⟩
theorem Un.refl : Un fs ex H H h h := Un.kept fun _ _ q => q
theorem Un.laid (k : ∀ b u, h.get? b = some u → h'.get? b = some u) (hp : h.objs.size ≤ a) (hn : H a = none) : Un fs ex H (upd H a o) h h' where
 keep := fun b u q _ _ _ => k b u q
 slot := fun b u q _ _ _ => ⟨u.slots, k b u q⟩
 free := fun b u q n _ => by rw [upd_ne (Nat.ne_of_lt (Nat.lt_of_lt_of_le (Heap.lt_size q) hp))]; exact n
 there := fun b u q _ => ⟨u, k b u q⟩
 tups := fun b xs q => by rw [upd_ne (ne_of_none q hn)]; exact q
 frzs := fun b u xs q => by rw [upd_ne (ne_of_none q hn)]; exact q
 tbls := fun b ps q => ⟨#[], by rw [upd_ne (ne_of_none q hn), q]; simp⟩
theorem Un.write (mu : Mut (H x)) (he : e = x ∨ H e = some (.own x)) (k : ∀ b u, b ≠ e → h.get? b = some u → h'.get? b = some u) (heo : ∃ u, h'.get? e = some u) : Un fs ex H (upd H x o) h h' := by
 have hx : ∀ b, H b = none → b ≠ x := fun b n z => by subst z; rw [n] at mu; exact mu
 have hb : ∀ b, H b = none → b ≠ e := fun b n z => by
  subst z
  rcases he with r | r
  ·exact hx b n r
  ·rw [n] at r; cases r
 have hm : ∀ b u, H b = some u → ¬ Mut (some u) → b ≠ x := fun b u q nm z => by subst z; rw [q] at mu; exact nm mu
 refine ⟨fun b u q n _ _ => k b u (hb b n) q, fun b u q n _ _ => ⟨u.slots, k b u (hb b n) q⟩, fun b u q n _ => by rw [upd_ne (hx b n)]; exact n, fun b u q _ => ?_,
  fun b xs q => by rw [upd_ne (hm b _ q fun z => z)]; exact q, fun b u xs q => by rw [upd_ne (hm b _ q fun z => z)]; exact q, fun b ps q => ⟨#[], by rw [upd_ne (hm b _ q fun z => z), q]; simp⟩⟩
 by_cases hbe : b = e
 ·subst hbe; exact heo
 ·exact ⟨u, k b u hbe q⟩
end
def trk (h : Heap) (H : Hp) : List Addr := (List.range h.objs.size).filter fun a => (H a).isSome
def hidT (h : Heap) (H : Hp) : Heap := W.hideAll h (trk h H)
theorem hidT_size (h : Heap) (H : Hp) : (hidT h H).objs.size = h.objs.size := W.hideAll_size _ _
theorem hidT_get {h : Heap} {H : Hp} {b : Addr} {o : Obj} (e : h.get? b = some o) (n : H b = none) : (hidT h H).get? b = some o :=
 W.hideAll_get _ e fun hm => by
  have q : (H b).isSome = true := (List.mem_filter.mp hm).2
  rw [n] at q; simp at q
theorem of_hidT {h : Heap} {H : Hp} {b : Addr} {o : Obj} (e : (hidT h H).get? b = some o) : h.get? b = some o ∧ H b = none := by
 have e' : h.get? b = some o := W.of_hideAll (trk h H) e
 refine ⟨e', ?_⟩
 cases q : H b with
 | none => rfl
 | some x =>
  have hm : b ∈ trk h H := List.mem_filter.mpr ⟨List.mem_range.mpr (Heap.lt_size e'), by simp [q]⟩
  have z : (hidT h H).get? b = none := W.hideAll_none (trk h H) hm
  rw [z] at e; cases e
end L2
namespace L2
open PySem PySem.Spec PyProof.Rows
structure Mod (K : W.Frag) (mg : Str → Option Value) (base : Heap) : Prop where
 kin : K.In base
 glob : base.Ns mainGlobals mg
 blt : ∃ mb, base.Ns builtinsNs mb ∧ ∀ x : Str, x ≠ "__name__" → mb x = bootBuiltins x
 nolimit : base.NoLimit
structure Cx where
 prog : Program
 w : World
 K : W.Frag
 mg : Str → Option Value
 base : Heap
 A : Around
 N : List Str
 s₀ : Shared
 H₀ : Hp
 env : Env
 outer : List Env
 stack : List Env
 ex : List Addr
 fn : Str → Bool
 calm : Bool
 pn : List (Addr × Obj)
 xe : Value → Shared → Prop
def frs (l : List Env) : List Addr := l.filterMap (·.frame)
abbrev Cx.fs (X : Cx) : List Addr := frs X.outer
def Vis (sc : Scope) (x : Str) : Prop := sc.names.lookup x = some .local ∨ sc.names.lookup x = some .cell ∨ sc.names.lookup x = some .free
def Loc (sc : Scope) (x : Str) : Prop := sc.names.lookup x = some .local ∨ sc.names.lookup x = some .cell
def Look (env : Env) (h : Heap) (m : Str → Option Value) (x : Str) (u : Value) : Prop :=
 (env.kindOf x = some .local ∧ m x = some u) ∨ ((env.kindOf x = some .cell ∨ env.kindOf x = some .free) ∧ ∃ c, env.cells.lookup x = some c ∧ h.IsCell c (some u))
structure Cx.Ok (X : Cx) : Prop where
 mod : Mod X.K X.mg X.base
 kind : X.env.scope.kind = .function
 glob : X.env.globals = mainGlobals
 blt : X.env.builtins = builtinsNs
 above : X.s₀.heap.objs.size ≤ X.env.locals
 inj : ∀ x y c, X.env.cells.lookup x = some c → X.env.cells.lookup y = some c → x = y
 has : ∀ x, (X.env.kindOf x = some .cell ∨ X.env.kindOf x = some .free) → ∃ c, X.env.cells.lookup x = some c
 cab : ∀ x c, X.fn x = true → X.env.cells.lookup x = some c → X.s₀.heap.objs.size ≤ c
 hd : X.calm = true → X.A.handled = none
 frames : X.A.frames = some X.stack
 stk : X.stack = X.outer ∨ (X.stack = X.env :: X.outer ∧ X.env.frame = some X.env.locals)
 exf : ∀ b ∈ X.ex, b ≠ X.env.locals ∧ ∀ x c, X.env.cells.lookup x = some c → c ≠ b
 bs : ∀ b o, X.base.get? b = some o → X.s₀.heap.get? b = some o ∧ X.H₀ b = none
 bsz : X.base.objs.size ≤ X.s₀.heap.objs.size
 noex : ∀ b o, X.base.get? b = some o → b ∉ X.ex
 exfs : ∀ b ∈ X.ex, b ∉ X.fs
 funs : X.s₀.heap.FunFrames X.base X.outer
 frf : ∀ b ∈ X.fs, X.H₀ b = none
structure Inv (X : Cx) (pins : List (Addr × Obj)) (σ : List (Option V)) (H : Hp) (s : Shared) : Prop where
 ok : X.Ok
 os : s.os = X.s₀.os
 bare : AllBare s.gens
 base : Un X.fs X.ex X.H₀ H X.s₀.heap s.heap
 loc : ∃ m, s.heap.Ns X.env.locals m ∧ ∀ (i : Nat) (x : Str) (v : V), X.N[i]? = some x → σ[i]? = some (some v) → Vis X.env.scope x → ∃ u, RelV v u ∧ Look X.env s.heap m x u
 cell : ∀ x c, X.env.cells.lookup x = some c → ∃ v, s.heap.IsCell c v
 free : H X.env.locals = none
 freeC : ∀ x c, X.env.cells.lookup x = some c → H c = none
 pin : ∀ p ∈ X.pn ++ pins, s.heap.get? p.1 = some p.2 ∧ H p.1 = none ∧ p.1 ≠ X.env.locals ∧ p.1 ∉ X.fs ∧ ∀ v, p.2.data ≠ .cell v
 hok : HOk X.prog X.w H s.heap
 len : σ.length = X.N.length
section
variable {X : Cx} {pins : List (Addr × Obj)} {σ : List (Option V)} {H H' : Hp} {s : Shared} {h' : Heap}
theorem Cx.Ok.nofr (ok : X.Ok) {b : Addr} {o : Obj} (e : X.base.get? b = some o) : b ∉ X.fs := fun hb => by
 have := (ok.funs.mem hb).1
 rw [e] at this; cases this
theorem Inv.bs (I : Inv X pins σ H s) : ∀ b o, X.base.get? b = some o → s.heap.get? b = some o ∧ H b = none := fun b o e =>
 ⟨I.base.keep b o (I.ok.bs b o e).1 (I.ok.bs b o e).2 (I.ok.nofr e) (I.ok.noex b o e), I.base.free b o (I.ok.bs b o e).1 (I.ok.bs b o e).2 (I.ok.noex b o e)⟩
theorem Inv.bk (I : Inv X pins σ H s) : ∀ b o, X.base.get? b = some o → s.heap.get? b = some o := fun b o e => (I.bs b o e).1
theorem Inv.mod (I : Inv X pins σ H s) : Mod X.K X.mg X.base := I.ok.mod
theorem Inv.kIn (I : Inv X pins σ H s) : X.K.In s.heap := I.ok.mod.kin.keeps I.bk
theorem Inv.lt (I : Inv X pins σ H s) : X.env.locals < s.heap.objs.size := let ⟨_, hn, _⟩ := I.loc; hn.lt
theorem Inv.sz (I : Inv X pins σ H s) : X.s₀.heap.objs.size ≤ s.heap.objs.size := Nat.le_trans I.ok.above (Nat.le_of_lt I.lt)
theorem Inv.nofs (I : Inv X pins σ H s) {a : Addr} (h : s.heap.objs.size ≤ a) : a ∉ X.fs := fun hb => by
 obtain ⟨_, o, ho, _⟩ := I.ok.funs.mem hb
 exact absurd (Nat.lt_of_lt_of_le (Heap.lt_size ho) (Nat.le_trans I.sz h)) (Nat.lt_irrefl _)
theorem Inv.cne (I : Inv X pins σ H s) : ∀ x c, X.env.cells.lookup x = some c → c ≠ X.env.locals := fun x c e z => by
 obtain ⟨v, o, ho, hd⟩ := I.cell x c e
 obtain ⟨m, ⟨o', es, ep, ho', hd', _⟩, _⟩ := I.loc
 rw [z, ho'] at ho; cases ho; rw [hd'] at hd; cases hd
theorem Inv.funs (I : Inv X pins σ H s) : s.heap.FunFrames X.base X.outer := by
 have all : ∀ (l : List Env), (∀ b ∈ frs l, b ∈ X.fs) → X.s₀.heap.FunFrames X.base l → s.heap.FunFrames X.base l := by
  intro l
  induction l with
  | nil => intro _ _; trivial
  | cons env r ih =>
   intro hs hl
   obtain ⟨hk, ⟨L, o, hf, hn, ho, hd⟩, hr⟩ := hl
   have hL : L ∈ X.fs := hs L (by unfold frs; rw [List.filterMap_cons, hf]; exact List.mem_cons_self)
   obtain ⟨sl, e⟩ := I.base.slot L o ho (I.ok.frf L hL) hL fun z => I.ok.exfs L z hL
   exact ⟨hk, ⟨L, _, hf, hn, e, hd⟩, ih (fun b hb => hs b (by unfold frs; rw [List.filterMap_cons, hf]; exact List.mem_cons_of_mem _ hb)) hr⟩
 exact all X.outer (fun _ hb => hb) I.ok.funs
theorem Inv.stack (I : Inv X pins σ H s) : s.heap.FunFrames X.base X.stack := by
 rcases I.ok.stk with e | ⟨e, hf⟩
 ·rw [e]; exact I.funs
 ·rw [e]
  obtain ⟨m, hn, _⟩ := I.loc
  refine .cons (by rw [I.ok.kind]; decide) hf hn ?_ I.funs
  exact Heap.get?_none_of_le (Nat.le_trans I.ok.bsz I.ok.above)
theorem Inv.stkSub (I : Inv X pins σ H s) : ∀ b ∈ frs X.stack, b ∈ X.env.locals :: X.fs := fun b hb => by
 rcases I.ok.stk with e | ⟨e, hf⟩
 ·rw [e] at hb; exact List.mem_cons_of_mem _ hb
 ·rw [e] at hb
  unfold frs at hb
  rw [List.filterMap_cons, hf] at hb
  exact hb
theorem Inv.stkFree (I : Inv X pins σ H s) : ∀ b ∈ frs X.stack, H b = none := fun b hb => by
 rcases List.mem_cons.mp (I.stkSub b hb) with e | hb
 ·rw [e]; exact I.free
 ·obtain ⟨_, o, ho, _⟩ := I.ok.funs.mem hb
  exact I.base.free b o ho (I.ok.frf b hb) fun z => I.ok.exfs b z hb
theorem Inv.step {g' : Array GenState} {t' : Nat} {d' : Drawn} {ch : List Addr} (I : Inv X pins σ H s)
  (hch : ∀ b ∈ ch, (b ∈ X.ex ∨ X.s₀.heap.objs.size ≤ b) ∧ b ≠ X.env.locals ∧ (∀ x c, X.env.cells.lookup x = some c → c ≠ b) ∧ ∀ p ∈ X.pn ++ pins, p.1 ≠ b)
  (keep : ∀ b o, b ≠ X.env.locals → b ∉ X.fs → b ∉ ch → s.heap.get? b = some o → H b = none → h'.get? b = some o)
  (slot : ∀ b o, b ≠ X.env.locals → b ∈ X.fs → b ∉ ch → s.heap.get? b = some o → H b = none → ∃ sl, h'.get? b = some { o with slots := sl }) (free : ∀ b o, b ∉ ch → s.heap.get? b = some o → H b = none → H' b = none)
  (there : ∀ b o, b ∉ ch → s.heap.get? b = some o → ∃ o', h'.get? b = some o')
  (tups : ∀ b xs, H b = some (.tup xs) → H' b = some (.tup xs)) (frzs : ∀ b o u, H b = some (.frz o u) → H' b = some (.frz o u)) (tbls : ∀ b ps, H b = some (.tbl ps) → ∃ more, H' b = some (.tbl (ps ++ more)))
  (ns : ∀ m, s.heap.Ns X.env.locals m → h'.Ns X.env.locals m) (hok : HOk X.prog X.w H' h') (hg : AllBare g') :
  Inv X pins σ H' { s with heap := h', gens := g', drawn := d', toks := t' } := by
 have neL : ∀ b o, X.s₀.heap.get? b = some o → b ≠ X.env.locals := fun b o e => Nat.ne_of_lt (Nat.lt_of_lt_of_le (Heap.lt_size e) I.ok.above)
 have neC : ∀ b o, X.s₀.heap.get? b = some o → b ∉ X.ex → b ∉ ch := fun b o e hx hb => by
  rcases (hch b hb).1 with z | z
  ·exact hx z
  ·exact absurd (Nat.lt_of_lt_of_le (Heap.lt_size e) z) (Nat.lt_irrefl _)
 have cellK : ∀ x c, X.env.cells.lookup x = some c → ∀ v, s.heap.IsCell c v → h'.IsCell c v := fun x c e v ⟨o, ho, hd⟩ => by
  have nch : c ∉ ch := fun z => (hch c z).2.2.1 x c e rfl
  by_cases hc : c ∈ X.fs
  ·obtain ⟨sl, q⟩ := slot c o (I.cne x c e) hc nch ho (I.freeC x c e)
   exact ⟨_, q, hd⟩
  ·exact ⟨o, keep c o (I.cne x c e) hc nch ho (I.freeC x c e), hd⟩
 refine ⟨I.ok, I.os, hg, ⟨fun b o e n hb hx => ?_, fun b o e n hb hx => ?_, fun b o e n hx => ?_, fun b o e hx => ?_, fun b xs e => tups b xs (I.base.tups b xs e), fun b o xs e => frzs b o xs (I.base.frzs b o xs e), fun b ps e => ?_⟩, ?_, fun x c e => ?_, ?_, fun x c e => ?_, fun p hp => ?_, hok, I.len⟩
 ·exact keep b o (neL b o e) hb (neC b o e hx) (I.base.keep b o e n hb hx) (I.base.free b o e n hx)
 ·obtain ⟨sl, e1⟩ := I.base.slot b o e n hb hx
  obtain ⟨sl', e2⟩ := slot b _ (neL b o e) hb (neC b o e hx) e1 (I.base.free b o e n hx)
  exact ⟨sl', e2⟩
 ·obtain ⟨o', e1⟩ := I.base.there b o e hx
  exact free b o' (neC b o e hx) e1 (I.base.free b o e n hx)
 ·obtain ⟨o', e1⟩ := I.base.there b o e hx
  exact there b o' (neC b o e hx) e1
 ·obtain ⟨m1, e1⟩ := I.base.tbls b ps e
  obtain ⟨m2, e2⟩ := tbls b _ e1
  exact ⟨m1 ++ m2, by rw [e2, Array.append_assoc]⟩
 ·obtain ⟨m, hn, hl⟩ := I.loc
  refine ⟨m, ns m hn, fun i x v e1 e2 e3 => ?_⟩
  obtain ⟨u, r, l⟩ := hl i x v e1 e2 e3
  refine ⟨u, r, ?_⟩
  rcases l with l | ⟨k, c, e, z⟩
  ·exact .inl l
  ·exact .inr ⟨k, c, e, cellK x c e _ z⟩
 ·obtain ⟨v, z⟩ := I.cell x c e
  exact ⟨v, cellK x c e v z⟩
 ·obtain ⟨m, ⟨o, _, _, ho, _⟩, _⟩ := I.loc
  exact free _ o (fun z => (hch _ z).2.1 rfl) ho I.free
 ·obtain ⟨v, o, ho, hd⟩ := I.cell x c e
  exact free c o (fun z => (hch c z).2.2.1 x c e rfl) ho (I.freeC x c e)
 ·obtain ⟨e, n, ne, nf, d⟩ := I.pin p hp
  have nch : p.1 ∉ ch := fun z => (hch p.1 z).2.2.2 p hp rfl
  exact ⟨keep p.1 p.2 ne nf nch e n, free p.1 p.2 nch e n, ne, nf, d⟩
theorem Inv.un {t' : Nat} (I : Inv X pins σ H s) (u : Un X.fs [] H H' s.heap h') (hok : HOk X.prog X.w H' h') : Inv X pins σ H' { s with heap := h', toks := t' } := by
 obtain ⟨m, ⟨o, es, ep, ho, r⟩, _⟩ := id I.loc
 obtain ⟨sl, hL⟩ := u.any ho I.free (by simp)
 exact I.step (g' := s.gens) (d' := s.drawn) (ch := []) (fun _ z => nomatch z) (fun b o _ hb _ e n => u.keep b o e n hb (by simp)) (fun b o _ hb _ e n => u.slot b o e n hb (by simp)) (fun b o _ e n => u.free b o e n (by simp)) (fun b o _ e => u.there b o e (by simp)) u.tups u.frzs u.tbls (fun m' hm => by
  obtain ⟨o', es', ep', ho', r'⟩ := hm
  rw [ho] at ho'; cases ho'
  exact ⟨_, es', ep', hL, r'⟩) hok I.bare
theorem Inv.call {g' : Array GenState} {t' : Nat} {d' : Drawn} {ch : List Addr} (I : Inv X pins σ H s) (u : Un (frs X.stack) ch H H' s.heap h') (hok : HOk X.prog X.w H' h') (hg : AllBare g')
  (hch : ∀ b ∈ ch, (b ∈ X.ex ∨ X.s₀.heap.objs.size ≤ b) ∧ b ≠ X.env.locals ∧ (∀ x c, X.env.cells.lookup x = some c → c ≠ b) ∧ ∀ p ∈ X.pn ++ pins, p.1 ≠ b) :
  Inv X pins σ H' { s with heap := h', gens := g', drawn := d', toks := t' } := by
 obtain ⟨m, ⟨o, es, ep, ho, r⟩, _⟩ := id I.loc
 obtain ⟨sl, hL⟩ := u.any ho I.free fun z => (hch _ z).2.1 rfl
 exact I.step (ch := ch) hch (fun b o hL hb hc e n => u.keep b o e n (fun z => (List.mem_cons.mp (I.stkSub b z)).elim hL hb) hc) (fun b o _ _ hc e n => u.any e n hc) (fun b o hc e n => u.free b o e n hc) (fun b o hc e => u.there b o e hc) u.tups u.frzs u.tbls (fun m' hm => by
  obtain ⟨o', es', ep', ho', r'⟩ := hm
  rw [ho] at ho'; cases ho'
  exact ⟨_, es', ep', hL, r'⟩) hok hg
theorem Inv.turned {t' : Nat} {it : Addr} (I : Inv X pins σ H s) (k : ∀ b o, b ≠ it → s.heap.get? b = some o → h'.get? b = some o) (hn : H it = none) (hL : it ≠ X.env.locals)
  (h1 : it ∈ X.ex ∨ X.s₀.heap.objs.size ≤ it) (h2 : ∀ x c, X.env.cells.lookup x = some c → c ≠ it) (h3 : ∀ p ∈ X.pn ++ pins, p.1 ≠ it) : Inv X pins σ H { s with heap := h', toks := t' } := by
 have nit : ∀ b u, H b = some u → b ≠ it := fun b u e z => by rw [z, hn] at e; cases e
 refine I.step (g' := s.gens) (d' := s.drawn) (ch := [it]) (fun b hb => ?_) (fun b o _ _ hc e _ => k b o (fun z => hc (by simp [z])) e) (fun b o _ _ hc e _ => ⟨o.slots, k b o (fun z => hc (by simp [z])) e⟩) (fun _ _ _ _ n => n)
  (fun b o hc e => ⟨o, k b o (fun z => hc (by simp [z])) e⟩) (fun _ _ e => e) (fun _ _ _ e => e) (fun b ps e => ⟨#[], by rw [e]; simp⟩) (fun m hm => ?_) (fun b u e => ?_) I.bare
 ·have e : b = it := by simpa using hb
  subst e
  exact ⟨h1, hL, h2, h3⟩
 ·obtain ⟨o, es, ep, ho, r⟩ := hm
  exact ⟨o, es, ep, k _ o (Ne.symm hL) ho, r⟩
 ·refine (I.hok b u e).stay (fun c v hc q => k c v ?_ q) (fun _ q => q) fun _ _ q => q
  rcases hc with z | z
  ·rw [z]; exact nit b u e
  ·exact nit c _ z
theorem Inv.tok (I : Inv X pins σ H s) (t : Nat) : Inv X pins σ H { s with toks := t } := I.un (h' := s.heap) (t' := t) Un.refl I.hok
theorem Inv.kept {t' : Nat} (I : Inv X pins σ H s) (k : ∀ b u, s.heap.get? b = some u → h'.get? b = some u) : Inv X pins σ H { s with heap := h', toks := t' } := I.un (Un.kept k) (I.hok.kept k)
theorem Inv.laid {a : Addr} {o : HO} {t' : Nat} (I : Inv X pins σ H s) (k : ∀ b u, s.heap.get? b = some u → h'.get? b = some u) (hp : s.heap.objs.size ≤ a) (new : ObjOk X.prog X.w (upd H a o) h' a o) :
  Inv X pins σ (upd H a o) { s with heap := h', toks := t' } := I.un (Un.laid k hp (I.hok.fresh hp)) (I.hok.laid k hp new)
theorem Inv.write {x e : Addr} {o : HO} {t' : Nat} (I : Inv X pins σ H s) (mu : Mut (H x)) (he : e = x ∨ H e = some (.own x)) (k : ∀ b u, b ≠ e → s.heap.get? b = some u → h'.get? b = some u) (heo : ∃ u, h'.get? e = some u)
  (new : ObjOk X.prog X.w (upd H x o) h' x o) : Inv X pins σ (upd H x o) { s with heap := h', toks := t' } := I.un (Un.write mu he k heo) (I.hok.write mu he k heo new)
theorem Inv.pins_of {pins' : List (Addr × Obj)} (I : Inv X pins σ H s) (h : ∀ p ∈ pins', s.heap.get? p.1 = some p.2 ∧ H p.1 = none ∧ p.1 ≠ X.env.locals ∧ p.1 ∉ X.fs ∧ ∀ v, p.2.data ≠ .cell v) : Inv X pins' σ H s :=
 ⟨I.ok, I.os, I.bare, I.base, I.loc, I.cell, I.free, I.freeC, fun p hp => (List.mem_append.mp hp).elim (fun z => I.pin p (List.mem_append_left _ z)) (h p), I.hok, I.len⟩
theorem nodup_ix {N : List Str} (hN : N.Nodup) {i j : Nat} {x : Str} (a : N[i]? = some x) (b : N[j]? = some x) : i = j := by
 obtain ⟨h1, e1⟩ := List.getElem?_eq_some_iff.mp a
 obtain ⟨h2, e2⟩ := List.getElem?_eq_some_iff.mp b
 exact (List.getElem_inj hN).mp (e1.trans e2.symm)
theorem store_ok2 {M : Model} {A : Around} {E : Value → Shared → Prop} {i : Nat} {x : Str} {v : V} {u : Value} {Q : Unit → Shared → Prop} (I : Inv X pins σ H s) (hN : X.N.Nodup) (hi : X.N[i]? = some x) (hx : Loc X.env.scope x) (r : RelV v u)
  (h : ∀ s', Inv X pins (σ.set i (some v)) H s' → (∃ a, Heap.SameBut a s.heap s'.heap ∧ (a = X.env.locals ∨ X.env.cells.lookup x = some a)) → Q () s') (hf : X.fn x = true ∨ X.env.scope.names.lookup x = some .local := by first | exact .inl rfl | exact .inr rfl | assumption) : wpAny M A (storeName X.env x u) Q E s := by
 obtain ⟨m, hn, hl⟩ := id I.loc
 have hcls : (X.env.scope.kind == .class || (X.env.scope.kind == .module && X.env.locals != X.env.globals)) = false := by rw [I.ok.kind]; rfl
 have hiσ : i < σ.length := by rw [I.len]; exact (List.getElem?_eq_some_iff.mp hi).1
 have cne := I.cne
 have tracked : ∀ {a : Addr} {h' : Heap}, (∃ o, s.heap.get? a = some o ∧ H a = none) → Heap.SameBut a s.heap h' → HOk X.prog X.w H h' := fun {a h'} ha hs b ob e => by
  obtain ⟨_, _, hfree⟩ := ha
  refine (I.hok b ob e).stay (fun c w' hc q => (hs.2 c ?_).trans q) (fun _ q => q) fun _ _ q => q
  rintro rfl
  rcases hc with rfl | hc
  ·rw [hfree] at e; cases e
  ·rw [hfree] at hc; cases hc
 rcases hx with hk | hk
 ·refine wpAny_storeName_local hk hn (fun h' hn' hs => ?_) hcls
  obtain ⟨oL, _, _, hoL, _⟩ := id hn
  refine h _ ⟨I.ok, I.os, I.bare, ⟨fun b o e n hb hx => ?_, fun b o e n hb hx => ?_, I.base.free, fun b o e hx => ?_, I.base.tups, I.base.frzs, I.base.tbls⟩, ⟨_, hn', fun j y v' e1 e2 e3 => ?_⟩, fun y c e => ?_, I.free, I.freeC, fun p hp => ?_, tracked ⟨oL, hoL, I.free⟩ hs, by simpa using I.len⟩ ⟨_, hs, .inl rfl⟩
  ·exact (hs.2 b (Nat.ne_of_lt (Nat.lt_of_lt_of_le (Heap.lt_size e) I.ok.above))).trans (I.base.keep b o e n hb hx)
  ·obtain ⟨sl, e1⟩ := I.base.slot b o e n hb hx
   exact ⟨sl, (hs.2 b (Nat.ne_of_lt (Nat.lt_of_lt_of_le (Heap.lt_size e) I.ok.above))).trans e1⟩
  ·obtain ⟨o', e1⟩ := I.base.there b o e hx
   exact ⟨o', (hs.2 b (Nat.ne_of_lt (Nat.lt_of_lt_of_le (Heap.lt_size e) I.ok.above))).trans e1⟩
  ·by_cases hj : j = i
   ·subst hj
    rw [hi] at e1; cases e1
    rw [List.getElem?_set_self hiσ] at e2
    cases e2
    exact ⟨u, r, .inl ⟨hk, by simp⟩⟩
   ·rw [List.getElem?_set_ne (Ne.symm hj)] at e2
    obtain ⟨u', r', q⟩ := hl j y v' e1 e2 e3
    refine ⟨u', r', ?_⟩
    rcases q with ⟨k, e⟩ | ⟨k, c, e, z⟩
    ·refine .inl ⟨k, ?_⟩
     have : y ≠ x := fun e => hj (nodup_ix hN e1 (e ▸ hi))
     simp [this, e]
    ·exact .inr ⟨k, c, e, z.sameBut hs (cne y c e)⟩
  ·obtain ⟨w', z⟩ := I.cell y c e
   exact ⟨w', z.sameBut hs (cne y c e)⟩
  ·obtain ⟨e, n, ne, nf, d⟩ := I.pin p hp
   exact ⟨(hs.2 p.1 ne).trans e, n, ne, nf, d⟩
 ·have hfn : X.fn x = true := by
   rcases hf with z | z
   ·exact z
   ·rw [z] at hk; cases hk
  obtain ⟨c, hc⟩ := I.ok.has x (.inl hk)
  obtain ⟨w', z⟩ := I.cell x c hc
  refine wpAny_storeName_cell I.ok.kind hk hc z (fun h' hc' hs => ?_)
  obtain ⟨oc, hoc, hocd⟩ := id z
  refine h { s with heap := h' } ⟨I.ok, I.os, I.bare, ⟨fun b o e n hb hx => ?_, fun b o e n hb hx => ?_, I.base.free, fun b o e hx => ?_, I.base.tups, I.base.frzs, I.base.tbls⟩, ⟨m, hn.sameBut hs (Ne.symm (cne x c hc)), fun j y v' e1 e2 e3 => ?_⟩, fun y c' e => ?_, I.free, I.freeC, fun p hp => ?_, tracked ⟨oc, hoc, I.freeC x c hc⟩ hs, by simpa using I.len⟩ ⟨c, hs, .inr hc⟩
  ·exact (hs.2 b (Nat.ne_of_lt (Nat.lt_of_lt_of_le (Heap.lt_size e) (I.ok.cab x c hfn hc)))).trans (I.base.keep b o e n hb hx)
  ·obtain ⟨sl, e1⟩ := I.base.slot b o e n hb hx
   exact ⟨sl, (hs.2 b (Nat.ne_of_lt (Nat.lt_of_lt_of_le (Heap.lt_size e) (I.ok.cab x c hfn hc)))).trans e1⟩
  ·obtain ⟨o', e1⟩ := I.base.there b o e hx
   exact ⟨o', (hs.2 b (Nat.ne_of_lt (Nat.lt_of_lt_of_le (Heap.lt_size e) (I.ok.cab x c hfn hc)))).trans e1⟩
  ·by_cases hj : j = i
   ·subst hj
    rw [hi] at e1; cases e1
    rw [List.getElem?_set_self hiσ] at e2
    cases e2
    exact ⟨u, r, .inr ⟨.inl hk, c, hc, hc'⟩⟩
   ·rw [List.getElem?_set_ne (Ne.symm hj)] at e2
    obtain ⟨u', r', q⟩ := hl j y v' e1 e2 e3
    refine ⟨u', r', ?_⟩
    rcases q with q | ⟨k, c', e, z'⟩
    ·exact .inl q
    ·refine .inr ⟨k, c', e, z'.sameBut hs ?_⟩
     rintro rfl
     exact hj (nodup_ix hN e1 (I.ok.inj _ _ _ e hc ▸ hi))
  ·by_cases hcc : c' = c
   ·subst hcc; exact ⟨_, hc'⟩
   ·obtain ⟨w2, z2⟩ := I.cell y c' e
    exact ⟨w2, z2.sameBut hs hcc⟩
  ·obtain ⟨e, n, ne, nf, d⟩ := I.pin p hp
   refine ⟨(hs.2 p.1 ?_).trans e, n, ne, nf, d⟩
   intro q
   rw [q, hoc] at e
   have q' : oc = p.2 := Option.some.inj e
   exact d w' (by rw [← q']; exact hocd)
theorem store_ok {M : Model} {A : Around} {E : Value → Shared → Prop} {i : Nat} {x : Str} {v : V} {u : Value} {Q : Unit → Shared → Prop} (I : Inv X pins σ H s) (hN : X.N.Nodup) (hi : X.N[i]? = some x) (hx : Loc X.env.scope x) (r : RelV v u)
  (h : ∀ s', Inv X pins (σ.set i (some v)) H s' → Q () s') (hf : X.fn x = true ∨ X.env.scope.names.lookup x = some .local := by first | exact .inl rfl | exact .inr rfl | assumption) : wpAny M A (storeName X.env x u) Q E s :=
 store_ok2 I hN hi hx r (fun s' I' _ => h s' I') hf
theorem Inv.call' {s' : Shared} {ch : List Addr} (I : Inv X pins σ H s) (ho : s'.os = s.os) (u : Un (frs X.stack) ch H H' s.heap s'.heap) (hok : HOk X.prog X.w H' s'.heap) (hg : AllBare s'.gens)
  (hch : ∀ b ∈ ch, (b ∈ X.ex ∨ X.s₀.heap.objs.size ≤ b) ∧ b ≠ X.env.locals ∧ (∀ x c, X.env.cells.lookup x = some c → c ≠ b) ∧ ∀ p ∈ X.pn ++ pins, p.1 ≠ b) : Inv X pins σ H' s' := by
 obtain ⟨h', g', d', t', o'⟩ := s'
 have e : o' = s.os := ho
 subst e
 exact I.call (g' := g') (t' := t') (d' := d') u hok hg hch
end
abbrev XK := Value → Option Addr → Hp → Prop
abbrev St := List (Option V)
abbrev VK := V → Hp → Prop
abbrev TE := St → Hp → VK → Prop
abbrev TT := St → Hp → (Bool → Hp → Prop) → Prop
abbrev TA := St → Hp → (List V → Hp → Prop) → Prop
structure Ends where
 nx : St → Hp → Prop
 rt : VK
 bk : St → Hp → Prop := fun _ _ => False
 ct : St → Hp → Prop := fun _ _ => False
abbrev TS := Ends → St → Hp → Prop
def EP (X : Cx) (pins : List (Addr × Obj)) (σ : St) (Q : VK) (u : Value) (s' : Shared) : Prop := ∃ v H', Inv X pins σ H' s' ∧ RelV v u ∧ Q v H'
def TP (X : Cx) (pins : List (Addr × Obj)) (σ : St) (Q : Bool → Hp → Prop) (b : Bool) (s' : Shared) : Prop := ∃ H', Inv X pins σ H' s' ∧ Q b H'
def AP (X : Cx) (pins : List (Addr × Obj)) (σ : St) (Q : List V → Hp → Prop) (us : List Value) (s' : Shared) : Prop := ∃ vs H', Inv X pins σ H' s' ∧ Vals vs us ∧ Q vs H'
def SP (X : Cx) (pins : List (Addr × Obj)) (D : Ends) (f : Flow) (s' : Shared) : Prop :=
 match f with
 | .next => ∃ σ' H', Inv X pins σ' H' s' ∧ D.nx σ' H'
 | .brk => ∃ σ' H', Inv X pins σ' H' s' ∧ D.bk σ' H'
 | .cont => ∃ σ' H', Inv X pins σ' H' s' ∧ D.ct σ' H'
 | .ret u => ∃ v σ' H', Inv X pins σ' H' s' ∧ RelV v u ∧ D.rt v H'
def PE (X : Cx) (e : Expr) (t : TE) : Prop :=
 ∀ (pins : List (Addr × Obj)) (s : Shared) (σ : St) (H : Hp) (Q : VK), Inv X pins σ H s → t σ H Q → wpAny (model X.prog X.w) X.A (eval e X.env) (EP X pins σ Q) X.xe s
def PT (X : Cx) (e : Expr) (t : TT) : Prop :=
 ∀ (pins : List (Addr × Obj)) (s : Shared) (σ : St) (H : Hp) (Q : Bool → Hp → Prop), Inv X pins σ H s → t σ H Q → wpAny (model X.prog X.w) X.A (isTrue e X.env (eval e X.env)) (TP X pins σ Q) X.xe s
def PW (X : Cx) (e : Expr) (t : TT) : Prop :=
 ∀ (whole : Sem Value) (pins : List (Addr × Obj)) (s : Shared) (σ : St) (H : Hp) (Q : Bool → Hp → Prop), Inv X pins σ H s → t σ H Q → wpAny (model X.prog X.w) X.A (isTrue e X.env whole) (TP X pins σ Q) X.xe s
theorem PW.pt {X : Cx} {e : Expr} {t : TT} (h : PW X e t) : PT X e t := h _
def PA (X : Cx) (es : List Expr) (t : TA) : Prop :=
 ∀ (pos : Pos) (pins : List (Addr × Obj)) (s : Shared) (σ : St) (H : Hp) (Q : List V → Hp → Prop), Inv X pins σ H s → t σ H Q → wpAny (model X.prog X.w) X.A (spliced (backTo pos (starEach es X.env))) (AP X pins σ Q) X.xe s
def PS (X : Cx) (st : Stmt) (t : TS) : Prop :=
 ∀ (pins : List (Addr × Obj)) (s : Shared) (σ : St) (H : Hp) (D : Ends), Inv X pins σ H s → t D σ H → wpAny (model X.prog X.w) X.A (exec st X.env) (SP X pins D) X.xe s
def PSs (X : Cx) (st : List Stmt) (t : TS) : Prop :=
 ∀ (pins : List (Addr × Obj)) (s : Shared) (σ : St) (H : Hp) (D : Ends), Inv X pins σ H s → t D σ H → wpAny (model X.prog X.w) X.A (execs st X.env) (SP X pins D) X.xe s
theorem thn {α : Type} {t : Sem α} {Q Q' : α → Shared → Prop} {M : Model} {A : Around} {E : Value → Shared → Prop} {s : Shared} (h : wpAny M A t Q E s) (hQ : ∀ a s, Q a s → Q' a s) : wpAny M A t Q' E s := wpAny_mono h hQ fun _ _ x => x
end L2
namespace L2
open PySem PySem.Spec PyProof.Rows
section
variable {X : Cx}
def tVar (i : Nat) : TE := fun σ H Q => ∃ v, σ[i]? = some (some v) ∧ Q v H
def tC (v : V) : TE := fun _ H Q => Q v H
theorem pe_var {i : Nat} {x : Str} {pos : Pos} (hN : X.N[i]? = some x) (hv : Vis X.env.scope x) (hd : (x == ("__debug__" : Str)) = false := by decide) (hcd : (x == ("__classdict__" : Str)) = false := by decide) : PE X (.Name x pos) (tVar i) := by
 intro pins s σ H Q I h
 obtain ⟨v, e, h⟩ := h
 obtain ⟨m, hn, hl⟩ := I.loc
 obtain ⟨u, r, l⟩ := hl i x v hN e hv
 have fin : EP X pins σ Q u s := ⟨v, H, I, r, h⟩
 rcases l with ⟨hk, hm⟩ | ⟨hk, c, hc, hcell⟩
 ·exact wpAny_Name (wpAny_loadName_local I.ok.kind hk hn hm fin) hd
 ·rcases hk with hk | hk
  ·exact wpAny_Name (wpAny_loadName_cell I.ok.kind hk hc hcell fin) hd
  ·exact wpAny_Name (wpAny_loadName_free I.ok.kind hk hc hcell fin hcd) hd
theorem pe_int {i j pos} : PE X (.Constant (.int i) j pos) (tC (.int i)) := fun _ _ _ H _ I h => wpAny_Constant_int ⟨.int i, H, I.tok _, ⟨_, rfl⟩, h⟩
theorem pe_bl {b j pos} : PE X (.Constant (.bool b) j pos) (tC (.bl b)) := fun _ _ _ H _ I h => Constant_bool ⟨.bl b, H, I, rfl, h⟩
theorem pe_non {j pos} : PE X (.Constant .none j pos) (tC .non) := fun _ _ _ H _ I h => Constant_none ⟨.non, H, I, rfl, h⟩
theorem pe_str {x j pos} : PE X (.Constant (.str x) j pos) (tC (.str x)) := fun _ _ _ H _ I h => Calls.Constant_str ⟨.str x, H, I.tok _, ⟨_, rfl⟩, h⟩
def Gl (X : Cx) (x : Str) : Prop := X.env.kindOf x = some .globalImplicit
theorem ld_glob {E : Value → Shared → Prop} {pins : List (Addr × Obj)} {s : Shared} {σ : St} {H : Hp} {x : Str} {u : Value} {pos : Pos} {Q : Value → Shared → Prop} (I : Inv X pins σ H s) (hg : Gl X x) (hm : X.mg x = some u) (h : Q u s)
  (hd : (x == ("__debug__" : Str)) = false := by decide) : wpAny (model X.prog X.w) X.A (eval (.Name x pos) X.env) Q E s :=
 Calls.Name_function_global I.ok.kind hg (Calls.loadGlobal_global (by rw [I.ok.glob]; exact I.mod.glob.keeps I.bk) hm h) hd
theorem ld_blt {E : Value → Shared → Prop} {pins : List (Addr × Obj)} {s : Shared} {σ : St} {H : Hp} {x : Str} {u : Value} {pos : Pos} {Q : Value → Shared → Prop} (I : Inv X pins σ H s) (hg : Gl X x) (hm : X.mg x = none) (hv : bootBuiltins x = some u) (h : Q u s)
  (hn : x ≠ "__name__" := by decide) (hd : (x == ("__debug__" : Str)) = false := by decide) : wpAny (model X.prog X.w) X.A (eval (.Name x pos) X.env) Q E s := by
 obtain ⟨mb, h1, h2⟩ := I.mod.blt
 exact Calls.Name_function_global I.ok.kind hg (Calls.loadGlobal_builtin (by rw [I.ok.glob]; exact I.mod.glob.keeps I.bk) hm (by rw [I.ok.blt]; exact h1.keeps I.bk) ((h2 x hn).trans hv) h) hd
theorem pe_glob {x : Str} {v : V} {u : Value} {pos : Pos} (hg : Gl X x) (hm : X.mg x = some u) (r : RelV v u) (hd : (x == ("__debug__" : Str)) = false := by decide) : PE X (.Name x pos) (tC v) :=
 fun _ _ _ H _ I h => ld_glob I hg hm ⟨v, H, I, r, h⟩ hd
theorem pe_bltn {x : Str} {v : V} {u : Value} {pos : Pos} (hg : Gl X x) (hm : X.mg x = none) (hv : bootBuiltins x = some u) (r : RelV v u) (hn : x ≠ "__name__" := by decide) (hd : (x == ("__debug__" : Str)) = false := by decide) : PE X (.Name x pos) (tC v) :=
 fun _ _ _ H _ I h => ld_blt I hg hm hv ⟨v, H, I, r, h⟩ hn hd
variable {a b : Expr} {ta tb : TE} {pos : Pos}
def PC (X : Cx) (op : CmpOp) (a b : Expr) (t : TE) : Prop :=
 ∀ (pins : List (Addr × Obj)) (s : Shared) (σ : St) (H : Hp) (Q : VK), Inv X pins σ H s → t σ H Q →
  wpAny (model X.prog X.w) X.A (eval a X.env) (fun v s₁ => wpAny (model X.prog X.w) X.A (eval b X.env) (fun u s₂ => wpAny (model X.prog X.w) X.A (compareOp op v u) (EP X pins σ Q) X.xe s₂) X.xe s₁) X.xe s
def tB (t : TE) : TT := fun σ H Q => t σ H fun x H1 => ∃ c, x = .bl c ∧ Q c H1
theorem pt_cmp {op : CmpOp} {t : TE} (h : PC X op a b t) (h1 : behindInMarks op b = false := by first | exact nobehind _ (by decide) (by decide) | rfl) : PT X (.Compare a [op] [b] pos) (tB t) := by
 intro pins s σ H Q I hw
 refine wpAny_isTrue_Compare1 (thn (h pins s σ H _ I hw) fun v s1 h1 => thn h1 fun u s2 h2 => thn h2 fun c s3 ⟨x, H1, I1, r1, q1⟩ => ?_) h1
 obtain ⟨d, rfl, q⟩ := q1
 cases r1
 exact wpAny_truthy_bool ⟨H1, I1, q⟩
theorem pt_val {e : Expr} {t : TE} (h : PE X e t) (he : ∀ whole, isTrue e X.env whole = (do let v ← whole; standAt e.pos; holding [v] (truthy v)) := by intro _; rfl) : PT X e (tB t) := by
 intro pins s σ H Q I hw
 refine isTrue_plain (thn (h pins s σ H _ I hw) fun v s1 ⟨x, H1, I1, r1, q1⟩ => ?_) (he _)
 obtain ⟨d, rfl, q⟩ := q1
 cases r1
 exact wpAny_truthy_bool ⟨H1, I1, q⟩
variable {tA tB' : TT} {rest : List Expr}
def tAnd (t u : TT) : TT := fun σ H Q => t σ H fun c H1 => if c = true then u σ H1 Q else Q false H1
def tOr (t u : TT) : TT := fun σ H Q => t σ H fun c H1 => if c = true then Q true H1 else u σ H1 Q
def tNot (t : TT) : TT := fun σ H Q => t σ H fun c H1 => Q (!c) H1
theorem pw_and1 (ha : PT X a tA) : PW X (.BoolOp .And [a] pos) tA := by
 intro wh pins s σ H Q I h
 refine isTrue_and (thn (ha pins s σ H Q I h) fun c s1 e => ?_)
 cases c with
 | true => exact isTrue_and_nil e
 | false => exact e
theorem pw_or1 (ha : PT X a tA) : PW X (.BoolOp .Or [a] pos) tA := by
 intro wh pins s σ H Q I h
 refine isTrue_or (thn (ha pins s σ H Q I h) fun c s1 e => ?_)
 cases c with
 | false => exact isTrue_or_nil e
 | true => exact e
theorem pw_and (ha : PT X a tA) (hb : PW X (.BoolOp .And (b :: rest) pos) tB') : PW X (.BoolOp .And (a :: b :: rest) pos) (tAnd tA tB') := by
 intro wh pins s σ H Q I h
 refine isTrue_and (thn (ha pins s σ H _ I h) fun c s1 ⟨H1, I1, q1⟩ => ?_)
 cases c with
 | true => exact hb wh pins s1 σ H1 Q I1 q1
 | false => exact ⟨H1, I1, q1⟩
theorem pw_or (ha : PT X a tA) (hb : PW X (.BoolOp .Or (b :: rest) pos) tB') : PW X (.BoolOp .Or (a :: b :: rest) pos) (tOr tA tB') := by
 intro wh pins s σ H Q I h
 refine isTrue_or (thn (ha pins s σ H _ I h) fun c s1 ⟨H1, I1, q1⟩ => ?_)
 cases c with
 | true => exact ⟨H1, I1, q1⟩
 | false => exact hb wh pins s1 σ H1 Q I1 q1
theorem pt_not (ha : PT X a tA) : PT X (.UnaryOp .Not a pos) (tNot tA) := by
 intro pins s σ H Q I h
 exact isTrue_not (ha pins s σ H (fun c H1 => Q (!c) H1) I h)
def tAndV (ta tb : TE) : TE := fun σ H Q => ta σ H fun x H1 => ∃ c, x = .bl c ∧ if c = true then tb σ H1 Q else Q (.bl false) H1
def tNotV (ta : TE) : TE := fun σ H Q => ta σ H fun x H1 => ∃ c, x = .bl c ∧ Q (.bl (!c)) H1
theorem pe_one {op} {t : TE} (h : PE X a t) : PE X (.BoolOp op [a] pos) t := fun pins s σ H Q I hw => BoolOp_one (h pins s σ H Q I hw)
theorem pe_and (ha : PE X a ta) (hb : PE X (.BoolOp .And (b :: rest) pos) tb) : PE X (.BoolOp .And (a :: b :: rest) pos) (tAndV ta tb) := by
 intro pins s σ H Q I h
 refine BoolOp_and (thn (ha pins s σ H _ I h) fun v s1 ⟨x, H1, I1, r1, q1⟩ => ?_)
 obtain ⟨c, rfl, q1⟩ := q1
 cases r1
 refine wpAny_truthy_bool ?_
 cases c with
 | true => exact hb pins s1 σ H1 Q I1 q1
 | false => exact ⟨.bl false, H1, I1, rfl, q1⟩
theorem pe_not (ha : PE X a ta) : PE X (.UnaryOp .Not a pos) (tNotV ta) := by
 intro pins s σ H Q I h
 refine UnaryOp_ (thn (ha pins s σ H _ I h) fun v s1 ⟨x, H1, I1, r1, q1⟩ => ?_)
 obtain ⟨c, rfl, q1⟩ := q1
 cases r1
 exact not_of (wpAny_truthy_bool ⟨.bl (!c), H1, I1, rfl, q1⟩)
end
end L2
namespace L2
open PySem PySem.Spec PyProof.Rows
def SqL (K : W.Frag) (H : Hp) (a : Addr) (xs : List V) : Prop :=
 Rd H a (.lst xs) ∨
  ∃ (o : Obj) (its : Array Value) (n : Nat), K.lookup a = some o ∧ o.cls = .type "list" ∧ o.dict = none ∧ o.data = .seq its n ∧ its.size ≤ sizeLine ∧ Vals xs its.toList
def SqT (K : W.Frag) (H : Hp) (a : Addr) (xs : List V) : Prop :=
 Rd H a (.tup xs) ∨
  ∃ (o : Obj) (its : Array Value) (n : Nat), K.lookup a = some o ∧ o.cls = .type "tuple" ∧ o.data = .seq its n ∧ its.size ≤ sizeLine ∧ Vals xs its.toList
def absV : Value → Option V
 | .none => some .non
 | .bool b => some (.bl b)
 | .int i _ => some (.int i)
 | .str x _ => some (.str x)
 | .bytes b _ => some (.byt b)
 | .float b _ => some (.flt b)
 | .ref a => some (.ref a)
 | .type n => some (.ty n)
 | _ => none
theorem RelV.abs {x : V} {u : Value} (r : RelV x u) : absV u = some x := by
 cases x with
 | non => cases r; rfl
 | bl _ => cases r; rfl
 | int _ => obtain ⟨t, rfl⟩ := r; rfl
 | str _ => obtain ⟨t, rfl⟩ := r; rfl
 | byt _ => obtain ⟨t, rfl⟩ := r; rfl
 | flt _ => obtain ⟨t, rfl⟩ := r; rfl
 | ref _ => cases r; rfl
 | ty _ => cases r; rfl
theorem RelV.inj {x y : V} {u : Value} (r : RelV x u) (q : RelV y u) : x = y := Option.some.inj (r.abs.symm.trans q.abs)
theorem Vals.inj : ∀ {xs ys : List V} {us : List Value}, Vals xs us → Vals ys us → xs = ys
 | _, _, _, .nil, .nil => rfl
 | _, _, _, .cons r t, .cons r' t' => by rw [r.inj r', Vals.inj t t']
section
variable {X : Cx} {pins : List (Addr × Obj)} {σ : St} {H : Hp} {s : Shared} {a : Addr} {xs ys : List V}
theorem SqL.of {K : W.Frag} (h : H a = some (.lst xs)) : SqL K H a xs := .inl (.inl h)
theorem SqT.of {K : W.Frag} (h : H a = some (.tup xs)) : SqT K H a xs := .inl (.inl h)
theorem Inv.list (I : Inv X pins σ H s) (h : SqL X.K H a xs) : ∃ its : List Value, Vals xs its ∧ PlainL s.heap a its.toArray ∧ xs.length ≤ sizeLine := by
 rcases h with h | ⟨o, its, n, hk, hc, hd, hs, hz, r⟩
 ·obtain ⟨z, its, n, r, e⟩ := h.ok I.hok
  exact ⟨its, r, ⟨_, n, e, rfl, rfl, rfl⟩, z⟩
 ·refine ⟨its.toList, r, ⟨o, n, I.kIn a o hk, hc, hd, by simpa using hs⟩, ?_⟩
  have e := r.length
  simp only [Array.length_toList] at e
  omega
theorem Inv.tuple (I : Inv X pins σ H s) (h : SqT X.K H a xs) : ∃ its : List Value, Vals xs its ∧ IsTup s.heap a its.toArray ∧ xs.length ≤ sizeLine := by
 rcases h with h | ⟨o, its, n, hk, hc, hs, hz, r⟩
 ·obtain ⟨z, its, r, p⟩ := h.ok I.hok
  exact ⟨its, r, p, z⟩
 ·refine ⟨its.toList, r, ⟨o, I.kIn a o hk, hc, n, by simpa using hs⟩, ?_⟩
  have e := r.length
  simp only [Array.length_toList] at e
  omega
theorem Inv.list_inj (I : Inv X pins σ H s) (h : SqL X.K H a xs) (h' : SqL X.K H a ys) : xs = ys := by
 obtain ⟨its, r, ⟨o, n, e, _, _, d⟩, _⟩ := I.list h
 obtain ⟨its', r', ⟨o', n', e', _, _, d'⟩, _⟩ := I.list h'
 rw [e] at e'; cases e'
 rw [d] at d'
 injection d' with d1 _
 have : its = its' := by simpa using congrArg Array.toList d1
 subst this
 exact r.inj r'
end
abbrev Cx.wish (X : Cx) (E : Value → Shared → Prop) : Cx := { X with xe := E }
abbrev Cx.nox (X : Cx) : Cx := X.wish fun _ _ => False
theorem Cx.Ok.wish {X : Cx} (ok : X.Ok) (E : Value → Shared → Prop) : (X.wish E).Ok :=
 ⟨ok.mod, ok.kind, ok.glob, ok.blt, ok.above, ok.inj, ok.has, ok.cab, ok.hd, ok.frames, ok.stk, ok.exf, ok.bs, ok.bsz, ok.noex, ok.exfs, ok.funs, ok.frf⟩
theorem Cx.Ok.unwish {X : Cx} {E : Value → Shared → Prop} (ok : (X.wish E).Ok) : X.Ok :=
 ⟨ok.mod, ok.kind, ok.glob, ok.blt, ok.above, ok.inj, ok.has, ok.cab, ok.hd, ok.frames, ok.stk, ok.exf, ok.bs, ok.bsz, ok.noex, ok.exfs, ok.funs, ok.frf⟩
section
variable {X : Cx} {pins : List (Addr × Obj)} {σ : St} {H : Hp} {s : Shared} {E : Value → Shared → Prop}
theorem Inv.wish (I : Inv X pins σ H s) (E : Value → Shared → Prop) : Inv (X.wish E) pins σ H s := ⟨I.ok.wish E, I.os, I.bare, I.base, I.loc, I.cell, I.free, I.freeC, I.pin, I.hok, I.len⟩
theorem Inv.unwish (I : Inv (X.wish E) pins σ H s) : Inv X pins σ H s := ⟨I.ok.unwish, I.os, I.bare, I.base, I.loc, I.cell, I.free, I.freeC, I.pin, I.hok, I.len⟩
theorem SP.unwish {D : Ends} {f : Flow} {s' : Shared} (h : SP (X.wish E) pins D f s') : SP X pins D f s' := by
 cases f with
 | next => obtain ⟨σ', H', I, q⟩ := h; exact ⟨σ', H', I.unwish, q⟩
 | brk => obtain ⟨σ', H', I, q⟩ := h; exact ⟨σ', H', I.unwish, q⟩
 | cont => obtain ⟨σ', H', I, q⟩ := h; exact ⟨σ', H', I.unwish, q⟩
 | ret u => obtain ⟨v, σ', H', I, r, q⟩ := h; exact ⟨v, σ', H', I.unwish, r, q⟩
theorem PSs.nox {st : List Stmt} {t : TS} (h : PSs X.nox st t) : PSs X st t := fun pins s σ H D I hw =>
 wpAny_mono (h pins s σ H D (I.wish _) hw) (fun _ _ q => q.unwish) fun _ _ z => False.elim z
end
section
variable {X : Cx} {st : Stmt} {rest : List Stmt} {t u : TS} {e : Expr} {te : TE} {pos : Pos}
def tNext : TS := fun D σ H => D.nx σ H
def tSeq (t u : TS) : TS := fun D σ H => t { D with nx := u D } σ H
theorem pss_nil : PSs X [] tNext := fun _ _ σ H _ I h => wpAny_execs_nil ⟨σ, H, I, h⟩
theorem pss_cons (h1 : PS X st t) (h2 : PSs X rest u) : PSs X (st :: rest) (tSeq t u) := by
 intro pins s σ H D I h
 refine wpAny_execs_cons (thn (h1 pins s σ H { D with nx := u D } I h) fun f s1 q => ?_)
 cases f with
 | next =>
  obtain ⟨σ', H', I', q⟩ := q
  exact h2 pins s1 σ' H' D I' q
 | ret v => exact q
 | brk => exact q
 | cont => exact q
theorem pss_one (h1 : PS X st t) : PSs X [st] t := by
 intro pins s σ H D I h
 refine wpAny_execs_cons (thn (h1 pins s σ H D I h) fun f s1 q => ?_)
 cases f with
 | next => exact wpAny_execs_nil q
 | ret v => exact q
 | brk => exact q
 | cont => exact q
theorem Inv.quiet {pins : List (Addr × Obj)} {σ : St} {H : Hp} {s : Shared} (I : Inv X pins σ H s) : interactive X.env = false := by simp [interactive, I.ok.kind]
def tDrop (te : TE) : TS := fun D σ H => te σ H fun _ H1 => D.nx σ H1
theorem ps_expr (he : PE X e te) (hs : swapsWith e none pos.line X.env = pure false := by rfl) : PS X (.Expr e pos) (tDrop te) := by
 intro pins s σ H D I h
 exact wpAny_Expr_any (thn (he pins s σ H _ I h) fun v s1 ⟨x, H1, I1, r1, q1⟩ => ⟨σ, H1, I1, q1⟩) I.quiet hs
def tRet (te : TE) : TS := fun D σ H => te σ H D.rt
theorem ps_ret (he : PE X e te) : PS X (.Return (some e) pos) (tRet te) := by
 intro pins s σ H D I h
 exact wpAny_Return_some (thn (he pins s σ H _ I h) fun v s1 ⟨x, H1, I1, r1, q1⟩ => ⟨x, σ, H1, I1, r1, q1⟩)
def tIfS (c : TT) (t u : TS) : TS := fun D σ H => c σ H fun b H1 => if b = true then t D σ H1 else u D σ H1
theorem ps_if {c : Expr} {a b : List Stmt} {tc : TT} (hc : PT X c tc) (ha : PSs X a t) (hb : PSs X b u) : PS X (.If c a b pos) (tIfS tc t u) := by
 intro pins s σ H D I h
 refine wpAny_If (thn (hc pins s σ H _ I h) fun d s1 ⟨H1, I1, q1⟩ => ?_)
 cases d with
 | true => exact ha pins s1 σ H1 D I1 q1
 | false => exact hb pins s1 σ H1 D I1 q1
end
abbrev TG := V → St → Hp → (St → Hp → Prop) → Prop
abbrev TGs := List V → St → Hp → (St → Hp → Prop) → Prop
def PG (X : Cx) (target : Expr) (t : TG) : Prop :=
 ∀ (pins : List (Addr × Obj)) (s : Shared) (σ : St) (H : Hp) (v : V) (u : Value) (Q : St → Hp → Prop), Inv X pins σ H s → RelV v u → t v σ H Q →
  wpAny (model X.prog X.w) X.A (assign target X.env u) (fun _ s' => ∃ σ' H', Inv X pins σ' H' s' ∧ Q σ' H') X.xe s
def PGs (X : Cx) (ts : List Expr) (t : TGs) : Prop :=
 ∀ (pins : List (Addr × Obj)) (s : Shared) (σ : St) (H : Hp) (vs : List V) (us : List Value) (Q : St → Hp → Prop), Inv X pins σ H s → Vals vs us → t vs σ H Q →
  wpAny (model X.prog X.w) X.A (assignInOrder ((assignEach ts X.env).map (·.2)) us) (fun _ s' => ∃ σ' H', Inv X pins σ' H' s' ∧ Q σ' H') X.xe s
abbrev TSet := V → V → V → Hp → (Hp → Prop) → Prop
def PSet (X : Cx) (t : TSet) : Prop :=
 ∀ (pins : List (Addr × Obj)) (s : Shared) (σ : St) (H : Hp) (o i v : V) (ov iv u : Value) (Q : Hp → Prop), Inv X pins σ H s → RelV o ov → RelV i iv → RelV v u → t o i v H Q →
  wpAny (model X.prog X.w) X.A (setItem ov iv u) (fun _ s' => ∃ H', Inv X pins σ H' s' ∧ Q H') X.xe s
section
variable {X : Cx} {pos : Pos}
def gName (i : Nat) : TG := fun v σ H Q => Q (σ.set i (some v)) H
theorem pg_name {i : Nat} {x : Str} (hN : X.N.Nodup) (hi : X.N[i]? = some x) (hx : Loc X.env.scope x) (hf : X.fn x = true ∨ X.env.scope.names.lookup x = some .local := by first | exact .inl rfl | exact .inr rfl | assumption) : PG X (.Name x pos) (gName i) := by
 intro pins s σ H v u Q I r h
 exact wpAny_assign_Name (store_ok I hN hi hx r (fun s' I' => ⟨_, H, I', h⟩) hf)
def gNil : TGs := fun vs σ H Q => vs = [] ∧ Q σ H
def gCons (t : TG) (u : TGs) : TGs := fun vs σ H Q => ∃ v r, vs = v :: r ∧ t v σ H fun σ' H' => u r σ' H' Q
theorem pgs_nil : PGs X [] gNil := by
 intro pins s σ H vs us Q I r h
 obtain ⟨e, h⟩ := h
 subst e
 cases r
 exact assignInOrder_nil ⟨σ, H, I, h⟩
theorem pgs_cons {e : Expr} {es : List Expr} {t : TG} {u : TGs} (h1 : PG X e t) (h2 : PGs X es u)
  (hs : (assignEach (e :: es) X.env).map (·.2) = assign e X.env :: (assignEach es X.env).map (·.2) := by rfl) : PGs X (e :: es) (gCons t u) := by
 intro pins s σ H vs us Q I r h
 obtain ⟨v, vr, e1, h⟩ := h
 subst e1
 cases r with
 | cons r rr =>
  rw [hs]
  refine assignInOrder_cons (thn (h1 pins s σ H _ _ _ I r h) fun _ s1 ⟨σ1, H1, I1, q1⟩ => ?_)
  exact h2 pins s1 σ1 H1 _ _ Q I1 rr q1
def gTup (K : W.Frag) (n : Nat) (t : TGs) : TG := fun v σ H Q => ∃ a xs, v = .ref a ∧ SqT K H a xs ∧ xs.length = n ∧ t xs σ H Q
theorem pg_tup {es : List Expr} {k : Nat} {t : TGs} {n : Nat} (hc : X.calm = true) (h : PGs X es t)
  (hn : (assignEach es X.env).length = n := by rfl) (hst : (assignEach es X.env).findIdx? (·.1) = none := by rfl) : PG X (.Tuple es k pos) (gTup X.K n t) := by
 intro pins s σ H v u Q I r hw
 obtain ⟨a, xs, e1, hq, hl, hw⟩ := hw
 subst e1
 cases r
 obtain ⟨its, rv, ht, hz⟩ := I.tuple hq
 refine assign_Tuple_tuple (I.ok.hd hc) ht (by simp [hn, ← hl, rv.length]) hst fun h' hx => ?_
 have I1 : Inv X pins σ H { s with heap := h' } := I.kept (t' := s.toks) fun b o e => hx b o (Nat.ne_of_lt (Heap.lt_size e)) e
 exact h pins _ σ H xs _ Q I1 (by simpa using rv) hw
def gSub (to ti : TE) (t : TSet) : TG := fun v σ H Q => to σ H fun o H1 => ti σ H1 fun i H2 => t o i v H2 fun H3 => Q σ H3
theorem pg_sub {o i : Expr} {to ti : TE} {t : TSet} (ho : PE X o to) (hi : PE X i ti) (hs : PSet X t)
  (ha : ∀ v, assign (.Subscript o i pos) X.env v = (do
   let ov ← holding [v] (eval o X.env)
   let iv ← holding [v, ov] (eval i X.env)
   standAt pos
   holding [v, ov, iv] (setItem ov iv v)
   release [v, ov, iv] []) := by intro _; rfl) : PG X (.Subscript o i pos) (gSub to ti t) := by
 intro pins s σ H v u Q I r h
 rw [ha]
 refine wpAny_bind (wpAny_holding (thn (ho pins s σ H _ I h) fun ov s1 ⟨x, H1, I1, r1, q1⟩ => ?_))
 refine wpAny_bind (wpAny_holding (thn (hi pins s1 σ H1 _ I1 q1) fun iv s2 ⟨y, H2, I2, r2, q2⟩ => ?_))
 refine wpAny_bind (wpAny_standAt (wpAny_bind (wpAny_holding (thn (hs pins s2 σ H2 x y v ov iv u _ I2 r1 r2 r q2) fun _ s3 ⟨H3, I3, q3⟩ => ?_))))
 exact wpAny_release ⟨σ, H3, I3, q3⟩
def tAsg (te : TE) (g : TG) : TS := fun D σ H => te σ H fun x H1 => g x σ H1 D.nx
theorem ps_asg {tg e : Expr} {te : TE} {g : TG} (he : PE X e te) (hg : PG X tg g) (hs : swapsWithSole [tg] e pos.line X.env = pure false := by rfl) (hw : swappedStores [tg] e X.env = pure none := by rfl)
  (h1 : (assignEach [tg] X.env).map (·.2) = [assign tg X.env] := by rfl) : PS X (.Assign [tg] e pos) (tAsg te g) := by
 intro pins s σ H D I h
 refine wpAny_Assign_stores (thn (he pins s σ H _ I h) fun v s1 ⟨x, H1, I1, r1, q1⟩ => ?_) hs hw
 rw [h1]
 exact thn (hg pins s1 σ H1 x v _ I1 r1 q1) fun _ s2 q => q
theorem ps_set {i : Nat} {x : Str} {e : Expr} {te : TE} {pos' : Pos} (hN : X.N.Nodup) (hi : X.N[i]? = some x) (hx : Loc X.env.scope x) (he : PE X e te) (hs : swapsWith e (some (.Name x pos')) pos.line X.env = pure false := by rfl) (hf : X.fn x = true ∨ X.env.scope.names.lookup x = some .local := by first | exact .inl rfl | exact .inr rfl | assumption) :
  PS X (.Assign [.Name x pos'] e pos) (tAsg te (gName i)) := by
 intro pins s σ H D I h
 refine wpAny_Assign_Name (thn (he pins s σ H _ I h) fun v s1 ⟨y, H1, I1, r1, q1⟩ => ?_) hs
 exact store_ok I1 hN hi hx r1 (fun s2 I2 => ⟨_, H1, I2, q1⟩) hf
def tPar (i j : Nat) (ta : TA) : TS := fun D σ H => ta σ H fun vs H1 => ∃ v w, vs = [v, w] ∧ D.nx ((σ.set i (some v)).set j (some w)) H1
theorem ps_par {i j : Nat} {x y : Str} {a b : Expr} {ta : TA} {px py pt : Pos} {kt k2 pt2} (hc : X.calm = true) (hN : X.N.Nodup) (hi : X.N[i]? = some x) (hj : X.N[j]? = some y) (hij : i ≠ j)
  (hx : X.env.scope.names.lookup x = some .local) (hy : X.env.scope.names.lookup y = some .local) (ha : PA X [a, b] ta)
  (hw : swappedStores [.Tuple [.Name x px, .Name y py] kt pt] (.Tuple [a, b] k2 pt2) X.env = pure (some [x, y]))
  (hs : swapsWithSole [.Tuple [.Name x px, .Name y py] kt pt] (.Tuple [a, b] k2 pt2) pos.line X.env = pure false := by rfl) :
  PS X (.Assign [.Tuple [.Name x px, .Name y py] kt pt] (.Tuple [a, b] k2 pt2) pos) (tPar i j ta) := by
 intro pins s σ H D I h
 rw [exec_Assign_arm]
 refine wpAny_bind (wpAny_standAt ?_)
 rw [hs]
 refine wpAny_bind (wpAny_pure ?_)
 rw [if_neg (by decide)]
 refine wpAny_bind (Tuple_ (thn (ha _ pins s σ H _ I h) fun us s1 ⟨vs, H1, I1, r1, q1⟩ => ?_))
 obtain ⟨v, w, e1, q1⟩ := q1
 subst e1
 obtain ⟨u1, u2, rfl, rv, rw'⟩ : ∃ u1 u2, us = [u1, u2] ∧ RelV v u1 ∧ RelV w u2 := by
  cases r1 with
  | cons p q =>
   cases q with
   | cons p' q' =>
    cases q'
    exact ⟨_, _, rfl, p, p'⟩
 refine wpAny_newObj_type ?_ (by show 2 ≤ sizeLine; decide)
 have I2 : Inv X pins σ H1 { s1 with heap := s1.heap.push { cls := .type "tuple", data := .seq [u1, u2].toArray } } := I1.kept (t' := s1.toks) fun b o e => Heap.get?_push_of_some _ e
 rw [hw]
 refine wpAny_bind (wpAny_pure ?_)
 show wpAny (model X.prog X.w) X.A (do rule "assign.swapped-stores"; let items ← unpackItems (.ref s1.heap.objs.size) 2 none; assignInOrder [fun v => bindName X.env y v, fun v => bindName X.env x v] items.reverse; pure Flow.next) _ _ _
 refine wpAny_bind (wpAny_rule (wpAny_bind (unpackItems_tuple (items := #[u1, u2]) (I.ok.hd hc) (IsTup.new s1.heap _) fun h' hx' => ?_)))
 have I3 := I2.kept (h' := h') (t' := s1.toks) fun b o e => hx' b o (Nat.ne_of_lt (Heap.lt_size e)) e
 show wpAny _ _ (assignInOrder [fun v => bindName X.env y v, fun v => bindName X.env x v] [u2, u1] >>= fun _ => pure Flow.next) _ _ _
 refine wpAny_bind (assignInOrder_cons (wpAny_bindName (store_ok I3 hN hj (.inl hy) rw' (fun s2 I4 => ?_) (.inr hy))))
 refine assignInOrder_cons (wpAny_bindName (store_ok I4 hN hi (.inl hx) rv (fun s3 I5 => assignInOrder_nil (wpAny_pure ?_)) (.inr hx)))
 rw [List.set_comm _ _ (Ne.symm hij)] at I5
 exact ⟨_, H1, I5, q1⟩
end
section
variable {X : Cx} {pos : Pos}
def tWhile (c : TT) (tb : TS) : TS := fun D σ H => ∃ W : Nat → St → Hp → Prop, (∃ m, W m σ H) ∧ ∀ m σ H, W m σ H →
 c σ H fun b H1 => if b = true then ∃ N : St → Hp → Prop, (∀ σ' H', N σ' H' → ∃ m', m' < m ∧ W m' σ' H') ∧ tb { D with nx := N, ct := N, bk := D.nx } σ H1 else D.nx σ H1
theorem ps_while {c : Expr} {body : List Stmt} {tc : TT} {tb : TS} (hp : PassesOwn (model X.prog X.w) X.A X.env X.xe) (hc : PT X c tc) (hb : PSs X body tb) : PS X (.While c body [] pos) (tWhile tc tb) := by
 intro pins s σ H D I h
 obtain ⟨W, ⟨m0, w0⟩, turn⟩ := h
 refine wpAny_While (codeAny_whileLoop (fun n s' => ∃ σ' H', Inv X pins σ' H' s' ∧ W n σ' H') ?_ m0 ⟨σ, H, I, w0⟩)
 rintro n s1 ⟨σ1, H1, I1, w1⟩
 refine wpAny_passesOwn hp (thn (hc pins s1 σ1 H1 _ I1 (turn n σ1 H1 w1)) fun b s2 ⟨H2, I2, q2⟩ => ?_)
 cases b with
 | true =>
  obtain ⟨N, hN, q2⟩ := q2
  rw [if_pos rfl]
  refine wpAny_passesOwn hp (thn (hb pins s2 σ1 H2 _ I2 q2) fun f s3 q3 => ?_)
  cases f with
  | next =>
   obtain ⟨σ3, H3, I3, n3⟩ := q3
   obtain ⟨m', hm, w3⟩ := hN σ3 H3 n3
   exact ⟨m', hm, σ3, H3, I3, w3⟩
  | cont =>
   obtain ⟨σ3, H3, I3, n3⟩ := q3
   obtain ⟨m', hm, w3⟩ := hN σ3 H3 n3
   exact ⟨m', hm, σ3, H3, I3, w3⟩
  | brk => exact q3
  | ret v => exact q3
 | false =>
  rw [if_neg Bool.false_ne_true]
  exact wpAny_execs_nil ⟨σ1, H2, I2, q2⟩
end
structure It where
 go : Nat → Hp → Prop
 yld : Nat → Hp → V → Hp → Prop
 stop : Nat → Hp → Prop
def FpOk (X : Cx) (pins : List (Addr × Obj)) (H : Hp) (b : Addr) : Prop :=
 H b = none ∧ b ≠ X.env.locals ∧ b ∉ X.fs ∧ (b ∈ X.ex ∨ X.s₀.heap.objs.size ≤ b) ∧ (∀ x c, X.env.cells.lookup x = some c → c ≠ b) ∧ ∀ p ∈ X.pn ++ pins, p.1 ≠ b
theorem Inv.fpOk {X : Cx} {pins : List (Addr × Obj)} {σ : St} {H H' : Hp} {s : Shared} {b : Addr} (I : Inv X pins σ H s) (hb : s.heap.objs.size ≤ b) (hn : H' b = none) : FpOk X pins H' b := by
 refine ⟨hn, Nat.ne_of_gt (Nat.lt_of_lt_of_le I.lt hb), I.nofs hb, .inr (Nat.le_trans I.sz hb), fun x c e z => ?_, fun p hp z => ?_⟩
 ·obtain ⟨v, q⟩ := I.cell x c e
  exact absurd (Nat.lt_of_lt_of_le q.lt (by rw [z]; exact hb)) (Nat.lt_irrefl _)
 ·exact absurd (Nat.lt_of_lt_of_le (Heap.lt_size (I.pin p hp).1) (by rw [z]; exact hb)) (Nat.lt_irrefl _)
structure Turn (P : Program) (w : World) (K : W.Frag) (tg : Expr) (J : It) (fp : List Addr) (it : Addr) (tn : Nat → Heap → Prop) : Prop where
 mem : it ∈ fp
 obj : ∀ i h, tn i h → ∀ b ∈ fp, ∃ o, h.get? b = some o ∧ ∀ v, o.data ≠ .cell v
 keep : ∀ i h h', tn i h → (∀ b ∈ fp, ∀ o, h.get? b = some o → h'.get? b = some o) → tn i h'
 item : ∀ (X : Cx), X.prog = P → X.w = w → X.K = K → X.calm = true → ∀ (i : Nat) (pins : List (Addr × Obj)) (s : Shared) (σ : St) (H : Hp) (E : Value → Shared → Prop), Inv X pins σ H s → (∀ b ∈ fp, FpOk X pins H b) → tn i s.heap → J.go i H →
  wpAny (model P w) X.A (pyNext (.ref it)) (fun r s1 => ∃ u, r = some u ∧
   wpAny (model P w) X.A (letOwnedTupleGo tg (.ref it) u) (fun _ s2 => ∃ x H', Inv X pins σ H' s2 ∧ RelV x u ∧ J.yld i H x H' ∧ tn (i + 1) s2.heap ∧ ∀ b ∈ fp, H' b = none) E s1) E s
 done : ∀ (X : Cx), X.prog = P → X.w = w → X.K = K → X.calm = true → ∀ (i : Nat) (pins : List (Addr × Obj)) (s : Shared) (σ : St) (H : Hp) (E : Value → Shared → Prop), Inv X pins σ H s → (∀ b ∈ fp, FpOk X pins H b) → tn i s.heap → J.stop i H →
  wpAny (model P w) X.A (pyNext (.ref it)) (fun r s1 => r = none ∧ Inv X pins σ H s1) E s
 self : ∀ (A : Around) (i : Nat) (s : Shared) (Q : Value → Shared → Prop) (E : Value → Shared → Prop), tn i s.heap → Q (.ref it) s → wpAny (model P w) A (pyIter (.ref it)) Q E s
abbrev TI := St → Hp → (It → Hp → Prop) → Prop
def PIE (X : Cx) (pins : List (Addr × Obj)) (σ : St) (tg : Expr) (R : It → Hp → Prop) (itv : Value) (s2 : Shared) : Prop :=
 ∃ (it : Addr) (fp : List Addr) (tn : Nat → Heap → Prop) (J : It) (H' : Hp), itv = .ref it ∧ Inv X pins σ H' s2 ∧ Turn X.prog X.w X.K tg J fp it tn ∧ tn 0 s2.heap ∧ (∀ b ∈ fp, FpOk X pins H' b) ∧ R J H'
def PI (X : Cx) (tg iter : Expr) (wi : TI) : Prop :=
 ∀ (pins : List (Addr × Obj)) (s : Shared) (σ : St) (H : Hp) (R : It → Hp → Prop), Inv X pins σ H s → wi σ H R →
  wpAny (model X.prog X.w) X.A (eval iter X.env) (fun v s1 => wpAny (model X.prog X.w) X.A (pyIter v) (PIE X pins σ tg R) X.xe s1) X.xe s
theorem go_of {M : Model} {A : Around} {E : Value → Shared → Prop} {s : Shared} {tg : Expr} {it : Addr} {u : Value} {o : Obj} {n : String} {vs : Array Value} {Q : Unit → Shared → Prop} (ho : s.heap.get? it = some o) (hc : o.cls = .type n) (hd : o.data = .fields vs)
    (hn : ["enumerate", "zip", "dict_itemiterator", "dict_reverseitemiterator", "odict_iterator", "itertools.zip_longest", "itertools.pairwise"].contains n = false) (hQ : Q () s) : wpAny M A (letOwnedTupleGo tg (.ref it) u) Q E s := by
  unfold letOwnedTupleGo
  cases tg <;> first
    | exact wpAny_pure hQ
    | (cases u <;> first
        | exact wpAny_pure hQ
        | (refine wpAny_bind (wpAny_load ho ?_)
           rw [hc, hd]
           show wpAny M A (if (["enumerate", "zip", "dict_itemiterator", "dict_reverseitemiterator", "odict_iterator", "itertools.zip_longest", "itertools.pairwise"].contains n && vs[0]? == some (rawInt _)) = true then _ else _) Q E s
           rw [if_neg (by intro h; rw [hn, Bool.false_and] at h; cases h)]
           exact wpAny_pure hQ))
def Itl (K : W.Frag) (a : Addr) : It :=
 ⟨fun i H => ∃ xs x, SqL K H a xs ∧ xs[i]? = some x, fun i H x H' => H' = H ∧ ∀ xs, SqL K H a xs → xs[i]? = some x, fun i H => ∃ xs, SqL K H a xs ∧ xs.length ≤ i⟩
def Itr (lo : Int) (n : Nat) : It := ⟨fun i _ => i < n, fun i H x H' => H' = H ∧ x = .int (lo + i), fun i _ => n ≤ i⟩
theorem turn_list {P : Program} {w : World} {K : W.Frag} {tg : Expr} (a it : Addr) : Turn P w K tg (Itl K a) [it] it (fun i h => h.IsListIter it a i) where
 mem := by simp
 obj := fun i h st b hb => by
  have e : b = it := by simpa using hb
  subst e
  obtain ⟨o, e, c, d⟩ := st
  exact ⟨o, e, fun v z => by rw [d] at z; cases z⟩
 keep := fun i h h' st k => st.at fun o e => k it (by simp) o e
 item := by
  intro X hP hw hK hc i pins s σ H E I hf st hg
  subst hP hw hK
  obtain ⟨xs, x, hq, hx⟩ := hg
  obtain ⟨its, rv, p, hz⟩ := I.list hq
  obtain ⟨u, hu, ru⟩ := rv.get hx
  obtain ⟨f0, f1, f2, f3, f4, f5⟩ := hf it (by simp)
  refine wpAny_pyNext_list_item st p.isList (x := u) (by simpa using hu) fun h' st' sb => ?_
  have I1 : Inv X pins σ H { s with heap := h' } := I.turned (t' := s.toks) (fun b o hb e => (sb.2 b hb).trans e) f0 f1 f3 f4 f5
  obtain ⟨o, e, c, d⟩ := id st'
  exact ⟨u, rfl, go_of (s := { s with heap := h' }) e c d (by decide) ⟨x, H, I1, ru, ⟨rfl, fun ys hy => by rw [I.list_inj hy hq]; exact hx⟩, st', fun b hb => (hf b hb).1⟩⟩
 done := by
  intro X hP hw hK hc i pins s σ H E I hf st hg
  subst hP hw hK
  obtain ⟨xs, hq, hx⟩ := hg
  obtain ⟨its, rv, p, hz⟩ := I.list hq
  obtain ⟨f0, f1, f2, f3, f4, f5⟩ := hf it (by simp)
  have hl := rv.length
  exact wpAny_pyNext_list_end (I.ok.hd hc) st p.isList (by simp; omega) fun h' eb => ⟨rfl, I.turned (t' := s.toks) (fun b o hb e => eb b o hb e) f0 f1 f3 f4 f5⟩
 self := fun _ _ _ _ _ st h => wpAny_pyIter_listiter st h
theorem turn_range {P : Program} {w : World} {K : PySem.W.Frag} {tg : Expr} (it : Addr) (lo : Int) (n : Nat) : Turn P w K tg (Itr lo n) [it] it (fun i h => IsRangeIter h it (lo + (i : Nat) * 1) ((n : Int) - (i : Nat)) 1) where
 mem := by simp
 obj := fun i h st b hb => by
  have e : b = it := by simpa using hb
  subst e
  exact ⟨_, st, fun v z => by
   have z' : Data.fields _ = Data.cell v := z
   cases z'⟩
 keep := fun i h h' st k => k it (by simp) _ st
 item := by
  intro X hP hw hK hc i pins s σ H E I hf st hg
  subst hP hw hK
  obtain ⟨f0, f1, f2, f3, f4, f5⟩ := hf it (by simp)
  have W := Walks.range (prog := X.prog) (w := X.w) (I.ok.hd hc) it lo 1 n
  refine W.item i s _ _ hg st fun v h' tk hv st' kk => ?_
  obtain ⟨t, rfl⟩ := hv
  have I1 : Inv X pins σ H { s with heap := h', toks := tk } := I.turned (fun b o hb e => kk b o (by simpa using hb) e) f0 f1 f3 f4 f5
  refine ⟨_, rfl, go_of (s := { s with heap := h', toks := tk }) (n := "range_iterator") st' rfl rfl (by decide) ⟨.int (lo + i), H, I1, ⟨t, ?_⟩, ⟨rfl, rfl⟩, st', fun b hb => (hf b hb).1⟩⟩
  rw [Int.mul_one]
 done := by
  intro X hP hw hK hc i pins s σ H E I hf st hg
  subst hP hw hK
  obtain ⟨f0, f1, f2, f3, f4, f5⟩ := hf it (by simp)
  exact wpAny_pyNext_range_end (I.ok.hd hc) st (by have : n ≤ i := hg; omega) fun h' eb => ⟨rfl, I.turned (t' := s.toks) (fun b o hb e => eb b o hb e) f0 f1 f3 f4 f5⟩
 self := fun _ _ _ _ _ st h => wpAny_pyIter_rangeiter st h
end L2
namespace L2
open PySem PySem.Spec PyProof.Rows
section
variable {X : Cx} {tg : Expr}
def iList (K : W.Frag) (tl : TE) : TI := fun σ H R => tl σ H fun x H1 => ∃ a, x = .ref a ∧ (∃ xs, SqL K H1 a xs) ∧ R (Itl K a) H1
theorem pi_list {l : Expr} {tl : TE} (hl : PE X l tl) : PI X tg l (iList X.K tl) := by
 intro pins s σ H R I h
 refine thn (hl pins s σ H _ I h) fun v s1 ⟨x, H1, I1, r1, q1⟩ => ?_
 obtain ⟨a, e, ⟨xs, hq⟩, q⟩ := q1
 subst e
 cases r1
 obtain ⟨its, rv, p, hz⟩ := I1.list hq
 refine wpAny_pyIter_list p.isList ?_
 refine ⟨s1.heap.objs.size, [s1.heap.objs.size], _, _, H1, rfl, I1.kept (t' := s1.toks) fun b o e => Heap.get?_push_of_some _ e, turn_list a _, ⟨_, Heap.get?_push_size _ rfl, rfl, rfl⟩, fun b hb => ?_, q⟩
 have e : b = s1.heap.objs.size := by simpa using hb
 subst e
 exact I1.fpOk (Nat.le_refl _) (I1.hok.fresh (Nat.le_refl _))
theorem range_it {pins : List (Addr × Obj)} {σ : St} {H : Hp} {s : Shared} {R : It → Hp → Prop} {E : Value → Shared → Prop} {lo hi : Int} {t u v : Tok} {tk : Nat} (I : Inv X pins σ H s) (h1 : -(2 ^ 62) ≤ lo) (h2 : lo < 2 ^ 62) (h3 : -(2 ^ 62) ≤ hi) (h4 : hi < 2 ^ 62)
  (q : R (Itr lo (hi - lo).toNat) H) : wpAny (model X.prog X.w) X.A (pyIter (.ref s.heap.objs.size)) (PIE X pins σ tg R) E { s with heap := s.heap.push { cls := .type "range", data := .fields #[.int lo t, .int hi u, .int 1 v] }, toks := tk } := by
 refine wpAny_pyIter_range (IsRange.new ..) (small_one h1 h2 h3 h4) ?_
 have I1 : Inv X pins σ H { s with heap := s.heap.push { cls := .type "range", data := .fields #[.int lo t, .int hi u, .int 1 v] }, toks := tk } := I.kept fun b o e => Heap.get?_push_of_some _ e
 refine ⟨(s.heap.push { cls := .type "range", data := .fields #[.int lo t, .int hi u, .int 1 v] }).objs.size, [(s.heap.push { cls := .type "range", data := .fields #[.int lo t, .int hi u, .int 1 v] }).objs.size], _, _, H, rfl,
  I1.kept (t' := tk) fun b o e => Heap.get?_push_of_some _ e, turn_range _ lo (hi - lo).toNat, ?_, fun b hb => ?_, q⟩
 ·have e1 : lo + ((0 : Nat) : Int) * 1 = lo := by simp
  have e2 : (((hi - lo).toNat : Nat) : Int) - ((0 : Nat) : Int) = Builtin.Range.rangeSize lo hi 1 := by rw [rangeSize_one]; split <;> omega
  show IsRangeIter _ _ (lo + ((0 : Nat) : Int) * 1) ((((hi - lo).toNat : Nat) : Int) - ((0 : Nat) : Int)) 1
  rw [e1, e2]
  exact Heap.get?_push_size _ rfl
 ·have e : b = (s.heap.push { cls := .type "range", data := .fields #[.int lo t, .int hi u, .int 1 v] }).objs.size := by simpa using hb
  subst e
  exact I1.fpOk (Nat.le_refl _) (I1.hok.fresh (Nat.le_refl _))
def iRng1 (ta : TA) : TI := fun σ H R => ta σ H fun vs H1 => ∃ j : Int, vs = [.int j] ∧ -(2 ^ 62) ≤ j ∧ j < 2 ^ 62 ∧ R (Itr 0 j.toNat) H1
theorem pi_range1 {a : Expr} {ta : TA} {p pos : Pos} (hg : Gl X "range") (hm : X.mg "range" = none) (ha : PA X [a] ta) (hs : starEach [a] X.env = [(false, eval a X.env)] := by rfl) : PI X tg (.Call (.Name "range" p) [a] [] pos) (iRng1 ta) := by
 intro pins s σ H R I h
 refine Call_ (ld_blt I hg hm boot_range (PyProof.Rows.callWith_type1 (thn (ha pos pins s σ H _ I h) fun us s1 ⟨vs, H1, I1, r1, q1⟩ => ?_) hs rfl))
 obtain ⟨j, e, q1, q2, q⟩ := q1
 subst e
 cases r1 with
 | cons r rr =>
  cases rr
  obtain ⟨t, rfl⟩ := r
  exact call_range_1 (range_it I1 (by omega) (by omega) q1 q2 (by simpa using q))
def tFor (wi : TI) (g : TG) (tb : TS) : TS := fun D σ H => wi σ H fun J H1 => ∃ W : Nat → Nat → St → Hp → Prop, (∃ m, W 0 m σ H1) ∧ ∀ i m σ H, W i m σ H →
 (J.stop i H ∧ D.nx σ H) ∨ (J.go i H ∧ ∃ N : St → Hp → Prop, (∀ σ' H', N σ' H' → ∃ m', m' < m ∧ W (i + 1) m' σ' H') ∧ ∀ x H', J.yld i H x H' → g x σ H' fun σ2 H2 => tb { D with nx := N, ct := N, bk := D.nx } σ2 H2)
def pinsAt (fp : List Addr) (h : Heap) : List (Addr × Obj) := fp.filterMap fun b => (h.get? b).map fun o => (b, o)
theorem mem_pinsAt {fp : List Addr} {h : Heap} {b : Addr} {o : Obj} (hb : b ∈ fp) (e : h.get? b = some o) : (b, o) ∈ pinsAt fp h := List.mem_filterMap.mpr ⟨b, hb, by rw [e]; rfl⟩
theorem of_pinsAt {fp : List Addr} {h : Heap} {p : Addr × Obj} (hp : p ∈ pinsAt fp h) : p.1 ∈ fp ∧ h.get? p.1 = some p.2 := by
 obtain ⟨b, hb, e⟩ := List.mem_filterMap.mp hp
 cases q : h.get? b with
 | none => rw [q] at e; cases e
 | some o =>
  rw [q] at e
  have e' : (b, o) = p := Option.some.inj e
  subst e'
  exact ⟨hb, q⟩
theorem Inv.pinned {pins : List (Addr × Obj)} {σ : St} {H : Hp} {s : Shared} {fp : List Addr} (I : Inv X pins σ H s) (hf : ∀ b ∈ fp, FpOk X pins H b) (ho : ∀ b ∈ fp, ∃ o, s.heap.get? b = some o ∧ ∀ v, o.data ≠ .cell v) : Inv X (pins ++ pinsAt fp s.heap) σ H s :=
 I.pins_of fun p hp => (List.mem_append.mp hp).elim (fun z => I.pin p (List.mem_append_right _ z)) fun z => by
  obtain ⟨hb, e⟩ := of_pinsAt z
  obtain ⟨f0, f1, f2, _⟩ := hf p.1 hb
  obtain ⟨o, e', d⟩ := ho p.1 hb
  rw [e] at e'; cases e'
  exact ⟨e, f0, f1, f2, d⟩
theorem Inv.unpinned {pins pl : List (Addr × Obj)} {σ : St} {H : Hp} {s : Shared} (I : Inv X (pins ++ pl) σ H s) : Inv X pins σ H s := I.pins_of fun p hp => I.pin p (List.mem_append_right _ (List.mem_append_left _ hp))
theorem ps_for {iter : Expr} {body : List Stmt} {wi : TI} {g : TG} {tb : TS} {pos : Pos} (hp : PassesOwn (model X.prog X.w) X.A X.env X.xe) (hc : X.calm = true) (hi : PI X tg iter wi) (hg : PG X tg g) (hb : PSs X body tb)
  (hs : ∀ x, foldedSetIterable iter X.env x = pure x := by intro _; rfl) : PS X (.For tg iter body [] pos) (tFor wi g tb) := by
 intro pins s σ H D I h
 refine wpAny_For (thn (hi pins s σ H _ I h) fun v s1 h1 => thn h1 fun itv s2 h2 => ?_) hs
 obtain ⟨it, fp, tn, J, H2, e, I2, T, st2, f2, W, ⟨m0, w0⟩, turn⟩ := h2
 subst e
 -- what stays true of the iterator's objects through the loop
 have stat : ∀ {H' : Hp}, (∀ b ∈ fp, H' b = none) → ∀ b ∈ fp, FpOk X pins H' b := fun hn b hb => ⟨hn b hb, (f2 b hb).2⟩
 refine codeAny_forLoop_any (fun n s' => ∃ i σ' H', Inv X pins σ' H' s' ∧ tn i s'.heap ∧ (∀ b ∈ fp, H' b = none) ∧ W i n σ' H') ?_ m0 ⟨0, σ, H2, I2, st2, fun b hb => (f2 b hb).1, w0⟩
 rintro n s3 ⟨i, σ3, H3, I3, st3, fr3, w3⟩
 rcases turn i n σ3 H3 w3 with ⟨stop, qn⟩ | ⟨go, N, hN, step⟩
 ·refine wpAny_passesOwn hp (thn (T.done X rfl rfl rfl hc i pins s3 σ3 H3 X.xe I3 (stat fr3) st3 stop) fun r s4 ⟨hr, I4⟩ => ?_)
  subst hr
  exact wpAny_execs_nil ⟨σ3, H3, I4, qn⟩
 ·refine wpAny_passesOwn hp (thn (T.item X rfl rfl rfl hc i pins s3 σ3 H3 X.xe I3 (stat fr3) st3 go) fun r s4 ⟨u, hr, h4⟩ => ?_)
  subst hr
  refine wpAny_passesOwn hp (thn h4 fun _ s5 ⟨x, H5, I5, r5, y5, st5, fr5⟩ => ?_)
  have I5' := I5.pinned (stat fr5) (T.obj _ _ st5)
  refine wpAny_passesOwn hp (thn (hg _ s5 σ3 H5 x u _ I5' r5 (step x H5 y5)) fun _ s6 ⟨σ6, H6, I6, q6⟩ => ?_)
  refine wpAny_passesOwn hp (thn (hb _ s6 σ6 H6 _ I6 q6) fun f s7 q7 => ?_)
  have again : ∀ {σ7 : St} {H7 : Hp}, Inv X (pins ++ pinsAt fp s5.heap) σ7 H7 s7 → N σ7 H7 → ∃ m, m < n ∧ ∃ i σ' H', Inv X pins σ' H' s7 ∧ tn i s7.heap ∧ (∀ b ∈ fp, H' b = none) ∧ W i m σ' H' := fun {σ7 H7} I7 n7 => by
   obtain ⟨m', hm, w7⟩ := hN σ7 H7 n7
   refine ⟨m', hm, i + 1, σ7, H7, I7.unpinned, T.keep _ _ _ st5 fun b hb o e => (I7.pin (b, o) (List.mem_append_right _ (List.mem_append_right _ (mem_pinsAt hb e)))).1, fun b hb => ?_, w7⟩
   obtain ⟨o, e, d⟩ := T.obj _ _ st5 b hb
   exact (I7.pin (b, o) (List.mem_append_right _ (List.mem_append_right _ (mem_pinsAt hb e)))).2.1
  cases f with
  | next => obtain ⟨σ7, H7, I7, n7⟩ := q7; exact again I7 n7
  | cont => obtain ⟨σ7, H7, I7, n7⟩ := q7; exact again I7 n7
  | brk => obtain ⟨σ7, H7, I7, q7⟩ := q7; exact ⟨σ7, H7, I7.unpinned, q7⟩
  | ret v => obtain ⟨x7, σ7, H7, I7, r7, q7⟩ := q7; exact ⟨x7, σ7, H7, I7.unpinned, r7, q7⟩
end
theorem for_list {K : PySem.W.Frag} {a : Addr} {xs : List V} {g : TG} {tb : TS} {D : Ends} {σ : St} {H : Hp} (Pv : Nat → St → Hp → Prop) (h0 : Pv 0 σ H) (hl : ∀ i σ H, i ≤ xs.length → Pv i σ H → SqL K H a xs)
  (hs : ∀ i x σ H, xs[i]? = some x → Pv i σ H → g x σ H fun σ2 H2 => tb { D with nx := Pv (i + 1), ct := Pv (i + 1), bk := D.nx } σ2 H2) (hd : ∀ σ H, Pv xs.length σ H → D.nx σ H) :
  ∃ W : Nat → Nat → St → Hp → Prop, (∃ m, W 0 m σ H) ∧ ∀ i m σ H, W i m σ H →
   ((Itl K a).stop i H ∧ D.nx σ H) ∨ ((Itl K a).go i H ∧ ∃ N : St → Hp → Prop, (∀ σ' H', N σ' H' → ∃ m', m' < m ∧ W (i + 1) m' σ' H') ∧ ∀ x H', (Itl K a).yld i H x H' → g x σ H' fun σ2 H2 => tb { D with nx := N, ct := N, bk := D.nx } σ2 H2) := by
 refine ⟨fun i m σ H => m = xs.length - i ∧ i ≤ xs.length ∧ Pv i σ H, ⟨xs.length, by simp, Nat.zero_le _, h0⟩, ?_⟩
 rintro i m σ H ⟨rfl, hi, p⟩
 have q := hl i σ H hi p
 by_cases hlt : i < xs.length
 ·refine .inr ⟨⟨xs, xs[i], q, by simp [hlt]⟩, Pv (i + 1), fun σ' H' p' => ⟨xs.length - (i + 1), by omega, rfl, hlt, p'⟩, fun x H' y => ?_⟩
  obtain ⟨e, y⟩ := y
  subst e
  exact hs i x σ _ (y xs q) p
 ·have e : i = xs.length := by omega
  subst e
  exact .inl ⟨⟨xs, q, Nat.le_refl _⟩, hd σ H p⟩
theorem for_range {lo : Int} {n : Nat} {g : TG} {tb : TS} {D : Ends} {σ : St} {H : Hp} (Pv : Nat → St → Hp → Prop) (h0 : Pv 0 σ H)
  (hs : ∀ i σ H, i < n → Pv i σ H → g (.int (lo + i)) σ H fun σ2 H2 => tb { D with nx := Pv (i + 1), ct := Pv (i + 1), bk := D.nx } σ2 H2) (hd : ∀ σ H, Pv n σ H → D.nx σ H) :
  ∃ W : Nat → Nat → St → Hp → Prop, (∃ m, W 0 m σ H) ∧ ∀ i m σ H, W i m σ H →
   ((Itr lo n).stop i H ∧ D.nx σ H) ∨ ((Itr lo n).go i H ∧ ∃ N : St → Hp → Prop, (∀ σ' H', N σ' H' → ∃ m', m' < m ∧ W (i + 1) m' σ' H') ∧ ∀ x H', (Itr lo n).yld i H x H' → g x σ H' fun σ2 H2 => tb { D with nx := N, ct := N, bk := D.nx } σ2 H2) := by
 refine ⟨fun i m σ H => m = n - i ∧ i ≤ n ∧ Pv i σ H, ⟨n, by simp, Nat.zero_le _, h0⟩, ?_⟩
 rintro i m σ H ⟨rfl, hi, p⟩
 by_cases hlt : i < n
 ·refine .inr ⟨hlt, Pv (i + 1), fun σ' H' p' => ⟨n - (i + 1), by omega, rfl, hlt, p'⟩, fun x H' y => ?_⟩
  obtain ⟨e, y⟩ := y
  subst e y
  exact hs i σ _ hlt p
 ·have e : i = n := by omega
  subst e
  exact .inl ⟨Nat.le_refl _, hd σ H p⟩
end L2
namespace L2
open PySem PySem.Spec PyProof.Rows
abbrev R2 := V → V → Hp → VK → Prop
def OpR (X : Cx) (f : Value → Value → Sem Value) (r : R2) : Prop :=
 ∀ (pins : List (Addr × Obj)) (s : Shared) (σ : St) (H : Hp) (x y : V) (v u : Value) (Q : VK), Inv X pins σ H s → RelV x v → RelV y u → r x y H Q →
  wpAny (model X.prog X.w) X.A (f v u) (EP X pins σ Q) X.xe s
def UnR (X : Cx) (f : Value → Sem Value) (r : V → Hp → VK → Prop) : Prop :=
 ∀ (pins : List (Addr × Obj)) (s : Shared) (σ : St) (H : Hp) (x : V) (v : Value) (Q : VK), Inv X pins σ H s → RelV x v → r x H Q →
  wpAny (model X.prog X.w) X.A (f v) (EP X pins σ Q) X.xe s
def CallR (X : Cx) (f : Value) (r : List V → Hp → VK → Prop) : Prop :=
 ∀ (pins : List (Addr × Obj)) (s : Shared) (σ : St) (H : Hp) (xs : List V) (us : List Value) (Q : VK), Inv X pins σ H s → Vals xs us → r xs H Q →
  wpAny (model X.prog X.w) X.A (call f us) (EP X pins σ Q) X.xe s
def tOp (r : R2) (ta tb : TE) : TE := fun σ H Q => ta σ H fun x H1 => tb σ H1 fun y H2 => r x y H2 Q
def tUn (r : V → Hp → VK → Prop) (ta : TE) : TE := fun σ H Q => ta σ H fun x H1 => r x H1 Q
def rI (C : Int → Int → Prop) (g : Int → Int → V) : R2 := fun x y H Q => ∃ i j, x = .int i ∧ y = .int j ∧ C i j ∧ Q (g i j) H
def rI0 (g : Int → Int → V) : R2 := fun x y H Q => ∃ i j, x = .int i ∧ y = .int j ∧ Q (g i j) H
def rU (g : Int → V) : V → Hp → VK → Prop := fun x H Q => ∃ i, x = .int i ∧ Q (g i) H
section
variable {X : Cx} {a b c : Expr} {ta tb tc : TE} {pos : Pos}
theorem binT (ha : PE X a ta) (hb : PE X b tb) {pins : List (Addr × Obj)} {s : Shared} {σ : St} {H : Hp} {R : V → V → Hp → Prop} (I : Inv X pins σ H s)
  (h : ta σ H fun x H1 => tb σ H1 fun y H2 => R x y H2) {Q : Value → Shared → Prop} {f : Value → Value → Sem Value}
  (hf : ∀ v u s2 x y H2, Inv X pins σ H2 s2 → RelV x v → RelV y u → R x y H2 → wpAny (model X.prog X.w) X.A (f v u) Q X.xe s2) :
  wpAny (model X.prog X.w) X.A (eval a X.env) (fun v s₁ => wpAny (model X.prog X.w) X.A (eval b X.env) (fun u s₂ => wpAny (model X.prog X.w) X.A (f v u) Q X.xe s₂) X.xe s₁) X.xe s := by
 refine thn (ha pins s σ H _ I h) fun v s1 ⟨x, H1, I1, r1, q1⟩ => ?_
 refine thn (hb pins s1 σ H1 _ I1 q1) fun u s2 ⟨y, H2, I2, r2, q2⟩ => ?_
 exact hf v u s2 x y H2 I2 r1 r2 q2
theorem pe_op {op : Operator} {r : R2} (ho : OpR X (binaryOp op) r) (ha : PE X a ta) (hb : PE X b tb) : PE X (.BinOp a op b pos) (tOp r ta tb) := by
 intro pins s σ H Q I h
 exact wpAny_BinOp (binT ha hb I h fun v u s2 x y H2 I2 rx ry q => ho pins s2 σ H2 x y v u Q I2 rx ry q)
theorem pe_un {op : UnaryOp} {r : V → Hp → VK → Prop} (ho : UnR X (unaryOp op) r) (ha : PE X a ta) : PE X (.UnaryOp op a pos) (tUn r ta) := by
 intro pins s σ H Q I h
 exact UnaryOp_ (thn (ha pins s σ H _ I h) fun v s1 ⟨x, H1, I1, r1, q1⟩ => ho pins s1 σ H1 x v Q I1 r1 q1)
theorem opI {f : Value → Value → Sem Value} {C : Int → Int → Prop} {g : Int → Int → Int}
  (rule : ∀ (i j : Int) (t u : Tok) (s : Shared) (Q : Value → Shared → Prop) (E : Value → Shared → Prop), C i j → Q (.int (g i j) s.toks) { s with toks := s.toks + 1 } → wpAny (model X.prog X.w) X.A (f (.int i t) (.int j u)) Q E s) :
  OpR X f (rI C fun i j => .int (g i j)) := by
 intro pins s σ H x y v u Q I rx ry h
 obtain ⟨i, j, rfl, rfl, hc, q⟩ := h
 obtain ⟨t, rfl⟩ := rx
 obtain ⟨t', rfl⟩ := ry
 exact rule i j t t' s _ _ hc ⟨.int (g i j), H, I.tok _, ⟨_, rfl⟩, q⟩
theorem opI0 {f : Value → Value → Sem Value} {g : Int → Int → Int}
  (rule : ∀ (i j : Int) (t u : Tok) (s : Shared) (Q : Value → Shared → Prop) (E : Value → Shared → Prop), Q (.int (g i j) s.toks) { s with toks := s.toks + 1 } → wpAny (model X.prog X.w) X.A (f (.int i t) (.int j u)) Q E s) :
  OpR X f (rI0 fun i j => .int (g i j)) := by
 intro pins s σ H x y v u Q I rx ry h
 obtain ⟨i, j, rfl, rfl, q⟩ := h
 obtain ⟨t, rfl⟩ := rx
 obtain ⟨t', rfl⟩ := ry
 exact rule i j t t' s _ _ ⟨.int (g i j), H, I.tok _, ⟨_, rfl⟩, q⟩
theorem opB0 {f : Value → Value → Sem Value} {g : Int → Int → Bool}
  (rule : ∀ (i j : Int) (t u : Tok) (s : Shared) (Q : Value → Shared → Prop) (E : Value → Shared → Prop), Q (.bool (g i j)) s → wpAny (model X.prog X.w) X.A (f (.int i t) (.int j u)) Q E s) :
  OpR X f (rI0 fun i j => .bl (g i j)) := by
 intro pins s σ H x y v u Q I rx ry h
 obtain ⟨i, j, rfl, rfl, q⟩ := h
 obtain ⟨t, rfl⟩ := rx
 obtain ⟨t', rfl⟩ := ry
 exact rule i j t t' s _ _ ⟨.bl (g i j), H, I, rfl, q⟩
def CPow (i j : Int) : Prop := 0 ≤ j ∧ j ≤ 1000000 ∧ i.natAbs < 2 ^ 64
theorem op_add : OpR X (binaryOp .Add) (rI0 fun i j => .int (i + j)) := opI0 fun _ _ _ _ _ _ _ q => add_int q
theorem op_sub : OpR X (binaryOp .Sub) (rI0 fun i j => .int (i - j)) := opI0 fun _ _ _ _ _ _ _ q => sub_int q
theorem op_mod : OpR X (binaryOp .Mod) (rI (fun _ j => 0 < j) fun i j => .int (i % j)) := opI fun i j _ _ _ _ _ hc q => by
 have h1 : (0 : Int) < j := hc
 exact mod_int' (by omega) (by rw [Int.fmod_eq_emod_of_nonneg i (by omega)]; exact q)
theorem op_pow : OpR X (binaryOp .Pow) (rI CPow fun i j => .int (i ^ j.toNat)) := opI fun _ _ _ _ _ _ _ hc q => pow_int_small hc.1 hc.2.1 hc.2.2 q
theorem unI {f : Value → Sem Value} {g : Int → Int}
  (rule : ∀ (i : Int) (t : Tok) (s : Shared) (Q : Value → Shared → Prop) (E : Value → Shared → Prop), Q (.int (g i) s.toks) { s with toks := s.toks + 1 } → wpAny (model X.prog X.w) X.A (f (.int i t)) Q E s) :
  UnR X f (rU fun i => .int (g i)) := by
 intro pins s σ H x v Q I rx h
 obtain ⟨i, rfl, q⟩ := h
 obtain ⟨t, rfl⟩ := rx
 exact rule i t s _ _ ⟨.int (g i), H, I.tok _, ⟨_, rfl⟩, q⟩
theorem un_neg : UnR X (unaryOp .USub) (rU fun i => .int (-i)) := unI fun _ _ _ _ _ q => neg_int q
end
def scal : V → V → Bool
 | .non, .non => true | .non, .int _ => true | .int _, .non => true | .non, .bl _ => true | .bl _, .non => true | .non, .str _ => true | .str _, .non => true
 | .int _, .int _ => true | .bl _, .bl _ => true | .str _, .str _ => true | .byt _, .byt _ => true
 | .int _, .str _ => true | .str _, .int _ => true | .bl _, .str _ => true | .str _, .bl _ => true
 | _, _ => false
def rEq : R2 := fun x y H Q => scal x y = true ∧ Q (.bl (decide (x = y))) H
def rNe : R2 := fun x y H Q => scal x y = true ∧ Q (.bl (!decide (x = y))) H
theorem dec_int {i j : Int} : decide (V.int i = V.int j) = (i == j) := by
 rw [Bool.eq_iff_iff]
 simp
theorem dec_bl {i j : Bool} : decide (V.bl i = V.bl j) = (i == j) := by
 rw [Bool.eq_iff_iff]
 simp
theorem dec_str {i j : Str} : decide (V.str i = V.str j) = (i == j) := by
 rw [Bool.eq_iff_iff]
 simp
theorem dec_byt {i j : Array UInt8} : decide (V.byt i = V.byt j) = (i.toList == j.toList) := by
 rw [Bool.eq_iff_iff]
 cases i
 cases j
 simp
section
variable {X : Cx} {a b c : Expr} {ta tb tc : TE} {pos : Pos}
theorem fin_bl {pins : List (Addr × Obj)} {σ : St} {H : Hp} {s : Shared} {Q : VK} {k k' : Bool} (I : Inv X pins σ H s) (q : Q (.bl k) H) (e : k = k') : EP X pins σ Q (.bool k') s := by
 subst e
 exact ⟨.bl k, H, I, rfl, q⟩
theorem op_eq : OpR X (compareOp .Eq) rEq := by
 intro pins s σ H x y v u Q I rx ry h
 obtain ⟨hs, q⟩ := h
 cases x with
 | non =>
  cases rx
  cases y with
  | non => cases ry; exact PySem.EqNone.eq_none_none (fin_bl I q (by simp))
  | bl j => cases ry; exact PySem.EqNone.eq_none_bool (fin_bl I q (by simp))
  | int j => obtain ⟨t', rfl⟩ := ry; exact PySem.EqNone.eq_none_int (fin_bl I q (by simp))
  | str j => obtain ⟨t', rfl⟩ := ry; exact PySem.EqNone.eq_none_str (fin_bl I q (by simp))
  | _ => exact absurd (show false = true from hs) Bool.false_ne_true
 | bl i =>
  cases rx
  cases y with
  | non => cases ry; exact PySem.EqNone.eq_bool_none (fin_bl I q (by simp))
  | bl j => cases ry; exact eq_bool (fin_bl I q dec_bl)
  | str j => obtain ⟨t', rfl⟩ := ry; exact PySem.EqMixed.eq_bool_str (fin_bl I q (by simp))
  | _ => exact absurd (show false = true from hs) Bool.false_ne_true
 | int i =>
  obtain ⟨t, rfl⟩ := rx
  cases y with
  | non => cases ry; exact PySem.EqNone.eq_int_none (fin_bl I q (by simp))
  | int j => obtain ⟨t', rfl⟩ := ry; exact eq_int (fin_bl I q dec_int)
  | str j => obtain ⟨t', rfl⟩ := ry; exact PySem.EqMixed.eq_int_str (fin_bl I q (by simp))
  | _ => exact absurd (show false = true from hs) Bool.false_ne_true
 | str i =>
  obtain ⟨t, rfl⟩ := rx
  cases y with
  | non => cases ry; exact PySem.EqNone.eq_str_none (fin_bl I q (by simp))
  | bl j => cases ry; exact PySem.EqMixed.eq_str_bool (fin_bl I q (by simp))
  | int j => obtain ⟨t', rfl⟩ := ry; exact PySem.EqMixed.eq_str_int (fin_bl I q (by simp))
  | str j => obtain ⟨t', rfl⟩ := ry; exact eq_str (fin_bl I q dec_str)
  | _ => exact absurd (show false = true from hs) Bool.false_ne_true
 | byt i =>
  obtain ⟨t, rfl⟩ := rx
  cases y with
  | byt j => obtain ⟨t', rfl⟩ := ry; exact W.eq_bytes (fin_bl I q dec_byt)
  | _ => exact absurd (show false = true from hs) Bool.false_ne_true
 | _ => cases y <;> exact absurd (show false = true from hs) Bool.false_ne_true
theorem op_ne : OpR X (compareOp .NotEq) rNe := by
 intro pins s σ H x y v u Q I rx ry h
 obtain ⟨hs, q⟩ := h
 cases x with
 | non =>
  cases rx
  cases y with
  | non => cases ry; exact PySem.EqNone.ne_none_none (fin_bl I q (by simp))
  | bl j => cases ry; exact PySem.EqNone.ne_none_bool (fin_bl I q (by simp))
  | int j => obtain ⟨t', rfl⟩ := ry; exact PySem.EqNone.ne_none_int (fin_bl I q (by simp))
  | str j => obtain ⟨t', rfl⟩ := ry; exact PySem.EqNone.ne_none_str (fin_bl I q (by simp))
  | _ => exact absurd (show false = true from hs) Bool.false_ne_true
 | bl i =>
  cases rx
  cases y with
  | non => cases ry; exact PySem.EqNone.ne_bool_none (fin_bl I q (by simp))
  | bl j => cases ry; exact ne_bool (fin_bl I q (congrArg not dec_bl))
  | str j => obtain ⟨t', rfl⟩ := ry; exact PySem.EqMixed.ne_bool_str (fin_bl I q (by simp))
  | _ => exact absurd (show false = true from hs) Bool.false_ne_true
 | int i =>
  obtain ⟨t, rfl⟩ := rx
  cases y with
  | non => cases ry; exact PySem.EqNone.ne_int_none (fin_bl I q (by simp))
  | int j => obtain ⟨t', rfl⟩ := ry; exact ne_int (fin_bl I q (congrArg not dec_int))
  | str j => obtain ⟨t', rfl⟩ := ry; exact PySem.EqMixed.ne_int_str (fin_bl I q (by simp))
  | _ => exact absurd (show false = true from hs) Bool.false_ne_true
 | str i =>
  obtain ⟨t, rfl⟩ := rx
  cases y with
  | non => cases ry; exact PySem.EqNone.ne_str_none (fin_bl I q (by simp))
  | bl j => cases ry; exact PySem.EqMixed.ne_str_bool (fin_bl I q (by simp))
  | int j => obtain ⟨t', rfl⟩ := ry; exact PySem.EqMixed.ne_str_int (fin_bl I q (by simp))
  | str j => obtain ⟨t', rfl⟩ := ry; exact ne_str (fin_bl I q (congrArg not dec_str))
  | _ => exact absurd (show false = true from hs) Bool.false_ne_true
 | byt i =>
  obtain ⟨t, rfl⟩ := rx
  cases y with
  | byt j => obtain ⟨t', rfl⟩ := ry; exact W.ne_bytes (fin_bl I q (congrArg not dec_byt))
  | _ => exact absurd (show false = true from hs) Bool.false_ne_true
 | _ => cases y <;> exact absurd (show false = true from hs) Bool.false_ne_true
theorem op_lt : OpR X (compareOp .Lt) (rI0 fun i j => .bl (decide (i < j))) := opB0 fun _ _ _ _ _ _ _ q => lt_int q
theorem op_gt : OpR X (compareOp .Gt) (rI0 fun i j => .bl (decide (j < i))) := opB0 fun _ _ _ _ _ _ _ q => gt_int q
theorem op_ge : OpR X (compareOp .GtE) (rI0 fun i j => .bl (decide (j ≤ i))) := opB0 fun _ _ _ _ _ _ _ q => ge_int q
theorem op_isN : OpR X (compareOp .Is) (fun x y H Q => y = .non ∧ Q (.bl (decide (x = .non))) H) := by
 intro pins s σ H x y v u Q I rx ry h
 obtain ⟨rfl, q⟩ := h
 cases ry
 refine is_none_gen (fin_bl I q ?_)
 cases x <;> first
  | (cases rx; rfl)
  | (obtain ⟨t, rfl⟩ := rx; rfl)
theorem op_notN : OpR X (compareOp .IsNot) (fun x y H Q => y = .non ∧ Q (.bl (!decide (x = .non))) H) := by
 intro pins s σ H x y v u Q I rx ry h
 obtain ⟨rfl, q⟩ := h
 cases ry
 refine isnot_none_gen (fin_bl I q ?_)
 cases x <;> first
  | (cases rx; rfl)
  | (obtain ⟨t, rfl⟩ := rx; rfl)
theorem nomark (b : Expr) {op : CmpOp} (h : op ≠ .In := by decide) (h2 : op ≠ .NotIn := by decide) : behindInMarks op b = false := by
 have e1 : (op == CmpOp.In) = false := by cases op <;> first | rfl | exact absurd rfl h
 have e2 : (op == CmpOp.NotIn) = false := by cases op <;> first | rfl | exact absurd rfl h2
 cases b <;> simp [behindInMarks, e1, e2]
theorem pe_cmpR {op : CmpOp} {r : R2} (ho : OpR X (compareOp op) r) (ha : PE X a ta) (hb : PE X b tb) (hm : behindInMarks op b = false) : PE X (.Compare a [op] [b] pos) (tOp r ta tb) := by
 intro pins s σ H Q I h
 exact wpAny_Compare1 (binT ha hb I h fun v u s2 x y H2 I2 rx ry q => ho pins s2 σ H2 x y v u Q I2 rx ry q) hm
def tTest (t : TE) : TT := fun σ H Q => t σ H fun x H' => ∃ k, x = .bl k ∧ Q k H'
theorem pt_cmpR {op : CmpOp} {r : R2} (ho : OpR X (compareOp op) r) (ha : PE X a ta) (hb : PE X b tb) (hm : behindInMarks op b = false) : PT X (.Compare a [op] [b] pos) (tTest (tOp r ta tb)) := by
 intro pins s σ H Q I h
 refine wpAny_isTrue_Compare1 (thn (ha pins s σ H _ I h) fun v s1 ⟨x, H1, I1, r1, q1⟩ => thn (hb pins s1 σ H1 _ I1 q1) fun u s2 ⟨y, H2, I2, r2, q2⟩ =>
  thn (ho pins s2 σ H2 x y v u _ I2 r1 r2 q2) fun c s3 ⟨z, H3, I3, r3, k, e, q3⟩ => ?_) hm
 subst e
 cases r3
 exact wpAny_truthy_bool ⟨H3, I3, q3⟩
theorem line63 : (sizeLine : Nat) < 2 ^ 63 := by rw [sizeLine_eq]; decide
theorem op_add_str : OpR X (binaryOp .Add) (fun x y H Q => ∃ i j, x = .str i ∧ y = .str j ∧ i.length + j.length ≤ sizeLine ∧ Q (.str (i ++ j)) H) := by
 intro pins s σ H x y v u Q I rx ry h
 obtain ⟨i, j, rfl, rfl, hz, q⟩ := h
 obtain ⟨t, rfl⟩ := rx
 obtain ⟨t', rfl⟩ := ry
 exact add_str (fun t' tk => ⟨.str (i ++ j), H, I.tok _, ⟨_, rfl⟩, q⟩) hz
theorem vals1 {x : V} {us : List Value} (r : Vals [x] us) : ∃ u, us = [u] ∧ RelV x u := by
 cases r with
 | cons r1 r2 => cases r2; exact ⟨_, rfl, r1⟩
theorem call_int1 : CallR X (.type "int") (fun xs H Q => (∃ i, xs = [.int i] ∧ Q (.int i) H) ∨ ∃ k, xs = [.bl k] ∧ Q (.int (if k then 1 else 0)) H) := by
 intro pins s σ H xs us Q I r h
 rcases h with ⟨i, rfl, q⟩ | ⟨k, rfl, q⟩
 ·obtain ⟨u, rfl, t, rfl⟩ := vals1 r
  exact call_int_int ⟨.int i, H, I, ⟨_, rfl⟩, q⟩
 ·obtain ⟨u, rfl, r1⟩ := vals1 r
  cases r1
  exact call_int_bool ⟨.int (if k then 1 else 0), H, I.tok _, ⟨_, rfl⟩, q⟩
end
end L2
namespace L2
open PySem PySem.Spec PyProof.Rows
structure ObjM (h : Heap) (x dx C : Addr) (mA : Str → Option Value) : Prop where
 obj : h.get? x = some (W.instObj C dx)
 ns : h.Ns1 dx mA
 ne : dx ≠ x
theorem lookIn_ns {h : Heap} {dx : Addr} {mA : Str → Option Value} (n : h.Ns1 dx mA) : ∃ od, h.get? dx = some od ∧ ∀ name, W.lookIn name od = some (mA name) := by
 obtain ⟨o, es, ep, ho, hd, hk, _, hm⟩ := n
 refine ⟨o, ho, fun name => ?_⟩
 have e := hm name
 unfold nsFind findBy at e
 rw [← Array.find?_toList] at e
 unfold W.lookIn
 rw [hd]
 dsimp only
 split
 ·rename_i y q
  rw [q] at e
  exact congrArg some e
 ·rename_i q
  rw [q] at e
  have a : es.toList.any (·.refKey) = false := by
   rw [List.any_eq_false]
   intro y hy
   obtain ⟨z, t, hkey⟩ := hk y (Array.mem_toList_iff.mp hy)
   simp [DictEntry.refKey, hkey]
  have a' : ¬ es.toList.any (·.refKey) = true := by rw [a]; exact Bool.false_ne_true
  rw [if_neg a']
  exact congrArg some e
theorem ObjM.look {h : Heap} {x dx C : Addr} {mA : Str → Option Value} (I : ObjM h x dx C mA) : ∃ od, W.InstAt h x (W.instObj C dx) C (some od) ∧ ∀ name, W.lookIn name od = some (mA name) :=
 let ⟨od, ho, hl⟩ := lookIn_ns I.ns
 ⟨od, ⟨I.obj, rfl, rfl, ho⟩, hl⟩
section
variable {prog : Program} {w : World} {A : Around} {E : Value → Shared → Prop} {s : Shared} {K : W.Frag} {x dx C f : Addr} {mA : Str → Option Value} {name : Str} {v : Value}
theorem get_map {expr : Bool} {Q : Value → Shared → Prop} (X : K.In s.heap) (I : ObjM s.heap x dx C mA) (hg : W.plainGet K C name = true) (hh : W.hasDictIn K C = true)
  (ha : W.findIn K (.ref C) name = some none) (hv : mA name = some v) (hv' : W.handedIn v = true) (h : Q v { s with toks := s.toks + 1 }) :
  wpAny (model prog w) A (getAttr (.ref x) name expr) Q E s := by
 obtain ⟨od, J, hl⟩ := I.look
 exact W.get_value X J (W.plainGet_of hg).1 (W.findObj_own hh ha rfl (by rw [hl, hv])) hv' h
theorem get_meth {pl : Sem Bool} {Q : Value × List Value → Shared → Prop} (X : K.In s.heap) (I : ObjM s.heap x dx C mA) (hg : W.plainGet K C name = true)
  (hf : W.findIn K (.ref C) name = some (some (.ref f))) (ht : W.isFn K (.ref f) = true) (hv : mA name = none) (h : Q (.ref f, [.ref x]) s) :
  wpAny (model prog w) A (getMethod (.ref x) name pl) Q E s := by
 obtain ⟨od, J, hl⟩ := I.look
 exact W.method_fn X J (W.plainGet_of hg).1 (W.plainGet_of hg).2 hf (beq_iff_eq.mp ht) (by show (W.lookIn name od).map (·.isSome) = some false; rw [hl, hv]; rfl) h
theorem set_map {ns : List Str} {Q : Unit → Shared → Prop} (X : K.In s.heap) (I : ObjM s.heap x dx C mA)
  (hs : W.findIn K (.ref C) "__setattr__" = some (some (.builtin "object.__setattr__"))) (hp : W.plainOver K C = true) (ht : W.takerIn K C name = some none) (hh : W.hasDictIn K C = true)
  (hw : PySem.Within mA ns) (hsz : ns.length ≤ sizeLine)
  (h : ∀ h', ObjM h' x dx C (fun y => if y = name then some v else mA y) → Heap.SameBut dx s.heap h' → Q () { s with heap := h', toks := s.toks + 2 }) :
  wpAny (model prog w) A (setAttr (.ref x) name v) Q E s := by
 obtain ⟨od, J, hl⟩ := I.look
 refine W.set_plain X J hs (W.osa_open (s := { s with toks := s.toks + 1 }) (r := none) X J hp ht fun b => ?_)
 obtain ⟨cd, hc, hd'⟩ := W.any_some hh
 have hx : s.heap.get? x = some ⟨.ref C, some dx, .plain, #[]⟩ := I.obj
 refine wpAny_bind (wpAny_pure (wpAny_bind (wpAny_bind (wpAny_loadPart hx (wpAny_bind (W.Looks.here (s := { s with toks := s.toks + 1 }) (W.looks_clsIn X hc) ?_))))))
 rw [hd']
 refine wpAny_pure (a := some dx) (wpAny_bind (wpAny_pure (wpAny_bind ?_)))
 refine wpAny_nsSet1 (s := { s with toks := s.toks + 1 }) I.ns fun h' hn2 hs2 => ?_
 obtain ⟨oD, esD, epD, hoD, hdD, hcD⟩ := hn2.count (PySem.Within.cons name v hw)
 refine wpAny_bind (wpAny_lookBehind hoD (by rw [hdD]; exact pastItsLine_dict (Nat.le_trans hcD (by rw [List.length_cons]; omega))) ?_)
 exact wpAny_pure (h _ ⟨(hs2.2 _ (Ne.symm I.ne)).trans I.obj, hn2, I.ne⟩ hs2)
theorem make_map {R : Result → Shared → Prop} {vs : List Value} {kw : List (Str × Value)} (X : K.In s.heap) (hm : W.makesIn K C = true)
  (hi : W.findIn K (.ref C) "__init__" = some (some (.ref f))) (hf : W.typeIn K (.ref f) = some (.type "function"))
  (h : codeAny (model prog w) (A.under (.builtin "type.__call__" ⟨.ref C :: vs, kw⟩)) (.call (.ref f) ⟨.ref (s.heap.objs.size + 1) :: vs, kw⟩) (W.InitBack (s.heap.objs.size + 1) R)
   { s with heap := (s.heap.push W.emptyDict).push (W.instObj C s.heap.objs.size) }) :
  codeAny (model prog w) A (.call (.ref C) ⟨vs, kw⟩) R s := by
 obtain ⟨hh, g, d, t, os⟩ := s
 exact W.make_core (W.makes_of X hm) (W.looks_findIn X hi) (fun self => W.bind_fn X self hf) (.inl rfl) h
end
def putF (f : Str) (v : V) : List (Str × V) → List (Str × V)
 | [] => [(f, v)]
 | (g, x) :: r => if g = f then (g, v) :: r else (g, x) :: putF f v r
theorem lookup_putF (f g : Str) (v : V) : ∀ fs : List (Str × V), (putF f v fs).lookup g = if g = f then some v else fs.lookup g
 | [] => by
  show List.lookup g [(f, v)] = _
  by_cases h : g = f
  ·have hb : (g == f) = true := beq_iff_eq.mpr h
   simp only [List.lookup, hb, if_pos h]
  ·have hb : (g == f) = false := beq_eq_false_iff_ne.mpr h
   simp only [List.lookup, hb, if_neg h]
 | (k, x) :: r => by
  have ih := lookup_putF f g v r
  rw [show putF f v ((k, x) :: r) = (if k = f then (k, v) :: r else (k, x) :: putF f v r) from rfl]
  by_cases hk : k = f
  ·rw [if_pos hk]
   by_cases h : g = k
   ·have hb : (g == k) = true := beq_iff_eq.mpr h
    simp only [List.lookup, hb, if_pos (h.trans hk)]
   ·have hb : (g == k) = false := beq_eq_false_iff_ne.mpr h
    simp only [List.lookup, hb, if_neg (fun e : g = f => h (e.trans hk.symm))]
  ·rw [if_neg hk]
   by_cases h : g = k
   ·have hb : (g == k) = true := beq_iff_eq.mpr h
    simp only [List.lookup, hb, if_neg (fun e : g = f => hk (h.symm.trans e))]
   ·have hb : (g == k) = false := beq_eq_false_iff_ne.mpr h
    simp only [List.lookup, hb]
    exact ih
theorem keys_putF (f : Str) (v : V) : ∀ fs : List (Str × V), f ∈ (putF f v fs).map (·.1) ∧ ∀ g, g ∈ fs.map (·.1) → g ∈ (putF f v fs).map (·.1)
 | [] => ⟨by simp [putF], fun g h => by simp at h⟩
 | (k, x) :: r => by
  obtain ⟨i1, i2⟩ := keys_putF f v r
  rw [show putF f v ((k, x) :: r) = (if k = f then (k, v) :: r else (k, x) :: putF f v r) from rfl]
  by_cases hk : k = f
  ·rw [if_pos hk]
   subst hk
   exact ⟨by simp, fun g h => by simpa using h⟩
  ·rw [if_neg hk]
   refine ⟨?_, fun g h => ?_⟩
   ·rw [List.map_cons]
    exact List.mem_cons_of_mem _ i1
   ·rw [List.map_cons] at h ⊢
    rcases List.mem_cons.mp h with e | e
    ·exact List.mem_cons.mpr (.inl e)
    ·exact List.mem_cons_of_mem _ (i2 g e)
theorem length_putF (f : Str) (v : V) : ∀ fs : List (Str × V), (putF f v fs).length ≤ fs.length + 1
 | [] => by simp [putF]
 | (k, x) :: r => by
  have ih := length_putF f v r
  rw [show putF f v ((k, x) :: r) = (if k = f then (k, v) :: r else (k, x) :: putF f v r) from rfl]
  by_cases hk : k = f
  ·rw [if_pos hk, List.length_cons, List.length_cons]; omega
  ·rw [if_neg hk, List.length_cons, List.length_cons]; omega
theorem RelO.some_of {v : V} {o : Option Value} (r : RelO (some v) o) : ∃ u, o = some u ∧ RelV v u := by
 cases o with
 | none => exact (show False from r).elim
 | some u => exact ⟨u, rfl, r⟩
theorem RelO.none_of {o : Option Value} (r : RelO none o) : o = none := by
 cases o with
 | none => rfl
 | some u => exact (show False from r).elim
theorem handed_of {v : V} {u : Value} (r : RelV v u) : W.handedIn u = true := by
 cases v with
 | non => cases (show u = Value.none from r); rfl
 | bl b => cases (show u = Value.bool b from r); rfl
 | int i => obtain ⟨t, e⟩ := (show ∃ t, u = Value.int i t from r); cases e; rfl
 | str x => obtain ⟨t, e⟩ := (show ∃ t, u = Value.str x t from r); cases e; rfl
 | byt b => obtain ⟨t, e⟩ := (show ∃ t, u = Value.bytes b t from r); cases e; rfl
 | flt b => obtain ⟨t, e⟩ := (show ∃ t, u = Value.float b t from r); cases e; rfl
 | ref a => cases (show u = Value.ref a from r); rfl
 | ty n => cases (show u = Value.type n from r); rfl
section
variable {P : Program} {w : World} {H H' : Hp} {h h' : Heap} {a C dx : Addr} {fs fs' : List (Str × V)}
theorem ins_get (hok : HOk P w H h) (e : H a = some (.ins C dx fs)) : ∃ mA, ObjM h a dx C mA ∧ (∀ f, RelO (fs.lookup f) (mA f)) ∧ PySem.Within mA (fs.map (·.1)) ∧ fs.length ≤ 1000 ∧ H dx = some (.own a) := by
 obtain ⟨d, z, ne, ob, mA, n, r, q⟩ := (show ObjOk P w H h a (.ins C dx fs) from hok a _ e)
 exact ⟨mA, ⟨ob, n, ne⟩, r, q, z, d⟩
end
structure Cls (K : W.Frag) (C : Addr) : Prop where
 pg : W.plainGet K C Str.empty = true
 hd : W.hasDictIn K C = true
 po : W.plainOver K C = true
 sa : W.findIn K (.ref C) "__setattr__" = some (some (.builtin "object.__setattr__"))
theorem Cls.get {K : W.Frag} {C : Addr} (c : Cls K C) (f : Str) : W.plainGet K C f = true := c.pg
def NoAttr (K : W.Frag) (C : Addr) (f : Str) : Prop := W.findIn K (.ref C) f = some none
theorem NoAttr.taker {K : W.Frag} {C : Addr} {f : Str} (n : NoAttr K C f) : W.takerIn K C f = some none := by
 unfold W.takerIn
 rw [show W.findIn K (.ref C) f = some none from n]
 rfl
structure Meth (K : W.Frag) (C : Addr) (m : Str) (f : Addr) : Prop where
 at_ : W.findIn K (.ref C) m = some (some (.ref f))
 fn : W.isFn K (.ref f) = true
 kp : W.keepIn K (.ref f) = true
section
variable {X : Cx} {pins : List (Addr × Obj)} {σ : St} {H : Hp} {s : Shared} {a C dx : Addr} {fs : List (Str × V)} {f : Str} {v : V} {A : Around} {E : Value → Shared → Prop}
theorem getattr_ok {b : Bool} {Q : Value → Shared → Prop} (I : Inv X pins σ H s) (e : H a = some (.ins C dx fs)) (c : Cls X.K C) (n : NoAttr X.K C f) (l : fs.lookup f = some v)
  (h : ∀ u s', Inv X pins σ H s' → RelV v u → Q u s') : wpAny (model X.prog X.w) A (getAttr (.ref a) f b) Q E s := by
 obtain ⟨mA, O, r, _, _, _⟩ := ins_get I.hok e
 obtain ⟨u, hu, ru⟩ := RelO.some_of (v := v) (o := mA f) (by rw [← l]; exact r f)
 exact get_map I.kIn O (c.get f) c.hd n hu (handed_of ru) (h u _ (I.tok _) ru)
theorem getmeth_ok {m : Str} {g : Addr} {pl : Sem Bool} {Q : Value × List Value → Shared → Prop} (I : Inv X pins σ H s) (e : H a = some (.ins C dx fs)) (c : Cls X.K C) (k : Meth X.K C m g) (l : fs.lookup m = none)
  (h : Q (.ref g, [.ref a]) s) : wpAny (model X.prog X.w) A (getMethod (.ref a) m pl) Q E s := by
 obtain ⟨mA, O, r, _, _, _⟩ := ins_get I.hok e
 have hn : mA m = none := RelO.none_of (by rw [← l]; exact r m)
 exact get_meth I.kIn O (c.get m) k.at_ k.fn hn h
theorem setattr_ok {y : V} {u : Value} {Q : Unit → Shared → Prop} (I : Inv X pins σ H s) (e : H a = some (.ins C dx fs)) (c : Cls X.K C) (n : NoAttr X.K C f) (hl : fs.length < 1000) (ry : RelV y u)
  (h : ∀ s', Inv X pins σ (upd H a (.ins C dx (putF f y fs))) s' → Q () s') : wpAny (model X.prog X.w) A (setAttr (.ref a) f u) Q E s := by
 obtain ⟨mA, O, r, wi, _, ho⟩ := ins_get I.hok e
 have hz : (fs.map (·.1)).length ≤ sizeLine := by rw [List.length_map, sizeLine_eq]; omega
 refine set_map I.kIn O c.sa c.po n.taker c.hd wi hz fun h' O' sb => h _ ?_
 have hd : ∃ o, h'.get? dx = some o := let ⟨o, _, _, e', _⟩ := O'.ns; ⟨o, e'⟩
 refine I.write (x := a) (e := dx) (by rw [e]; exact True.intro) (.inr ho) (fun b q hb z => (sb.2 b hb).trans z) hd ?_
 refine ⟨by rw [upd_ne O.ne]; exact ho, ?_, O.ne, O'.obj, _, O'.ns, fun g => ?_, fun g hg => ?_⟩
 ·have := length_putF f y fs; omega
 ·show RelO ((putF f y fs).lookup g) (if g = f then some u else mA g)
  rw [lookup_putF]
  by_cases q : g = f
  ·rw [if_pos q, if_pos q]; exact ry
  ·rw [if_neg q, if_neg q]; exact r g
 ·by_cases q : g = f
  ·rw [q]; exact (keys_putF f y fs).1
  ·refine (keys_putF f y fs).2 g (wi g fun z => hg ?_)
   show (if g = f then some u else mA g) = none
   rw [if_neg q]; exact z
theorem Inv.made (I : Inv X pins σ H s) : Inv X pins σ (upd (upd H s.heap.objs.size (.own (s.heap.objs.size + 1))) (s.heap.objs.size + 1) (.ins C s.heap.objs.size []))
  { s with heap := (s.heap.push W.emptyDict).push (W.instObj C s.heap.objs.size) } := by
 have e1 : (s.heap.push W.emptyDict).get? s.heap.objs.size = some W.emptyDict := Heap.get?_push_size s.heap rfl
 have e2 : ((s.heap.push W.emptyDict).push (W.instObj C s.heap.objs.size)).get? (s.heap.objs.size + 1) = some (W.instObj C s.heap.objs.size) := by
  have := Heap.get?_push_size (s.heap.push W.emptyDict) (o := W.instObj C s.heap.objs.size) rfl
  rwa [Heap.size_push] at this
 have e3 : (s.heap.push W.emptyDict).Ns s.heap.objs.size (fun _ => none) := ⟨W.emptyDict, #[], _, e1, rfl, (fun e he => absurd he (by simp)), fun _ => rfl⟩
 have I1 := I.laid (a := s.heap.objs.size) (o := .own (s.heap.objs.size + 1)) (h' := s.heap.push W.emptyDict) (t' := s.toks) (fun b u q => Heap.get?_push_of_some _ q) (Nat.le_refl _) ⟨_, e1⟩
 refine I1.laid (a := s.heap.objs.size + 1) (o := .ins C s.heap.objs.size []) (t' := s.toks) (fun b u q => Heap.get?_push_of_some _ q) (Nat.le_of_eq (Heap.size_push _ _)) ?_
 have ne : s.heap.objs.size ≠ s.heap.objs.size + 1 := Nat.ne_of_lt (Nat.lt_succ_self _)
 refine ⟨by rw [upd_ne ne, upd_same], Nat.zero_le _, ne, e2, fun _ => none, (Heap.Ns1.of_empty e3).at fun o q => Heap.get?_push_of_some _ q, fun _ => True.intro, fun y hy => absurd rfl hy⟩
theorem attr_of {prog : Program} {w : World} {env : Env} {e : Expr} {f : Str} {pos : Pos} {s : Shared} {Q : Value → Shared → Prop} (hb : attributeBase e f env (eval e env) = eval e env)
  (h : wpAny (model prog w) A (eval e env) (fun o s₁ => wpAny (model prog w) A (getAttr o f true) Q E s₁) E s) : wpAny (model prog w) A (eval (.Attribute e f pos) env) Q E s :=
 Attribute_any_ h (by rw [arm_eval_Attribute, hb])
end
def tFld (K : W.Frag) (ta : TE) (f : Str) : TE := fun σ H Q => ta σ H fun x H1 => ∃ a C dx fs v, x = .ref a ∧ H1 a = some (.ins C dx fs) ∧ Cls K C ∧ NoAttr K C f ∧ fs.lookup f = some v ∧ Q v H1
def sFld (K : W.Frag) (ta tv : TE) (f : Str) : TS := fun D σ H => tv σ H fun y H1 => ta σ H1 fun x H2 => ∃ a C dx fs, x = .ref a ∧ H2 a = some (.ins C dx fs) ∧ Cls K C ∧ NoAttr K C f ∧ fs.length < 1000 ∧
 D.nx σ (upd H2 a (.ins C dx (putF f y fs)))
section
variable {X : Cx} {o e value : Expr} {f : Str} {pos pos' tpos : Pos} {ta tv : TE}
theorem pe_fld (he : PE X e ta) (hb : attributeBase e f X.env (eval e X.env) = eval e X.env) : PE X (.Attribute e f pos) (tFld X.K ta f) := by
 intro pins s σ H Q I h
 refine attr_of hb (thn (he pins s σ H _ I h) fun u s1 ⟨x, H1, I1, rx, a, C, dx, fs, v, ex, ea, c, n, l, q⟩ => ?_)
 subst ex
 obtain rfl : u = Value.ref a := rx
 exact getattr_ok I1 ea c n l fun u' s2 I2 ru => ⟨v, H1, I2, ru, q⟩
theorem ps_fld (ha : PE X o ta) (hv : PE X value tv) (hs : swapsWith value (some (.Attribute o f pos')) pos.line X.env = pure false) : PS X (.Assign [.Attribute o f pos'] value pos) (sFld X.K ta tv f) := by
 intro pins s σ H D I h
 refine plainObj_wpAny_Assign_Attribute (thn (hv pins s σ H _ I h) fun u s1 ⟨y, H1, I1, ry, q⟩ => thn (ha pins s1 σ H1 _ I1 q) fun ov s2 ⟨x, H2, I2, rx, a, C, dx, fs, ex, ea, c, n, l, q2⟩ => ?_) hs
 subst ex
 obtain rfl : ov = Value.ref a := rx
 exact setattr_ok I2 ea c n l ry fun s3 I3 => ⟨σ, _, I3, q2⟩
end
section
variable {X : Cx} {pins : List (Addr × Obj)} {σ : St} {H : Hp} {s : Shared} {A : Around} {E : Value → Shared → Prop} {Q : Value → Shared → Prop} {c : Value} {b : Bool}
inductive TyOf (K : W.Frag) (H : Hp) : V → Value → Prop where
 | non : TyOf K H .non (.type "NoneType")
 | bl (x : Bool) : TyOf K H (.bl x) (.type "bool")
 | int (i : Int) : TyOf K H (.int i) (.type "int")
 | str (x : Str) : TyOf K H (.str x) (.type "str")
 | flt (x : UInt64) : TyOf K H (.flt x) (.type "float")
 | lst {a : Addr} {xs : List V} (e : H a = some (.lst xs)) : TyOf K H (.ref a) (.type "list")
 | frz {a : Addr} {o : Obj} {xs : List V} (e : H a = some (.frz o (.lst xs))) : TyOf K H (.ref a) (.type "list")
 | tup {a : Addr} {xs : List V} (e : H a = some (.tup xs)) : TyOf K H (.ref a) (.type "tuple")
 | dK {a : Addr} {kvs : List (Key × V)} (e : H a = some (.dK kvs)) : TyOf K H (.ref a) (.type "dict")
 | dT {a : Addr} {kvs : List (List Key × V)} (e : H a = some (.dT kvs)) : TyOf K H (.ref a) (.type "dict")
 | ins {a C dx : Addr} {fs : List (Str × V)} (e : H a = some (.ins C dx fs)) (cl : Cls K C) (ha : W.findIn K (.ref C) "__class__" = some (some (.builtin "object.__class__")))
   (hn : W.specialIn K (.builtin "object.__class__") "__get__" = some (some (.builtin "getset_descriptor.__get__"))) (htk : W.takesIn K (.builtin "object.__class__") = some true)
   (hm : W.mroIn K C (.type "object") = some true) : TyOf K H (.ref a) (.ref C)
theorem isinst_ok {x : V} {u t : Value} (I : Inv X pins σ H s) (rx : RelV x u) (ty : TyOf X.K H x t) (e : W.kitOne X.K t c = some b) (h : ∀ tk, Q (.bool b) { s with toks := tk }) :
  wpAny (model X.prog X.w) A (call (.builtin "isinstance") [u, c]) Q E s := by
 cases ty with
 | non => cases (show u = Value.none from rx); exact W.kia_one W.kitx_none I.kIn True.intro e (fun z => nomatch z) h
 | bl y => cases (show u = Value.bool y from rx); exact W.kia_one W.kitx_bool I.kIn True.intro e (fun z => nomatch z) h
 | int i => obtain ⟨t, q⟩ := (show ∃ t, u = Value.int i t from rx); cases q; exact W.kia_one W.kitx_int I.kIn True.intro e (fun z => nomatch z) h
 | str y => obtain ⟨t, q⟩ := (show ∃ t, u = Value.str y t from rx); cases q; exact W.kia_one W.kitx_str I.kIn True.intro e (fun z => nomatch z) h
 | flt y => obtain ⟨t, q⟩ := (show ∃ t, u = Value.float y t from rx); cases q; exact W.kia_one W.kitx_float I.kIn True.intro e (fun z => nomatch z) h
 | @lst a xs ea =>
  cases (show u = Value.ref a from rx)
  obtain ⟨_, _, n, _, h1⟩ := (show ObjOk X.prog X.w H s.heap a (.lst xs) from I.hok a _ ea)
  exact W.kia_one W.kitx_list I.kIn ⟨_, h1, rfl⟩ e (fun z => nomatch z) h
 | @frz a ob xs ea =>
  cases (show u = Value.ref a from rx)
  obtain ⟨_, _, _, n, _, h1⟩ := (show ObjOk X.prog X.w H s.heap a (.frz ob (.lst xs)) from I.hok a _ ea)
  exact W.kia_one W.kitx_list I.kIn ⟨_, h1, rfl⟩ e (fun z => nomatch z) h
 | @tup a xs ea =>
  cases (show u = Value.ref a from rx)
  obtain ⟨_, _, _, p⟩ := (show ObjOk X.prog X.w H s.heap a (.tup xs) from I.hok a _ ea)
  obtain ⟨o, h1, h2, _⟩ := p
  exact W.kia_one W.kitx_tuple I.kIn ⟨o, h1, h2⟩ e (fun z => nomatch z) h
 | @dK a kvs ea =>
  cases (show u = Value.ref a from rx)
  obtain ⟨_, _, vs, _, p⟩ := (show ObjOk X.prog X.w H s.heap a (.dK kvs) from I.hok a _ ea)
  obtain ⟨o, es, ep, h1, h2, _⟩ := p
  exact W.kia_one W.kitx_dict I.kIn ⟨o, h1, h2.1⟩ e (fun z => nomatch z) h
 | @dT a kvs ea =>
  cases (show u = Value.ref a from rx)
  obtain ⟨_, _, xs, _, o, es, ep, h1, h2, _⟩ := (show ObjOk X.prog X.w H s.heap a (.dT kvs) from I.hok a _ ea)
  exact W.kia_one W.kitx_dict I.kIn ⟨o, h1, h2.1⟩ e (fun z => nomatch z) h
 | @ins a C dx fs ea cl ha hn htk hm =>
  cases (show u = Value.ref a from rx)
  obtain ⟨mA, O, _⟩ := ins_get I.hok ea
  obtain ⟨od, J, _⟩ := O.look
  exact W.kia_one (W.kitx_own (cl.get _) cl.hd ha hn htk hm) I.kIn J e (fun z => nomatch z) h
end
end L2
namespace L2
open PySem PySem.Spec PyProof.Rows
structure Room (k : Nat) (A : Around) : Prop where
 hd : A.handled = none
 dp : A.depth + 3 * k + 5 < recursionLimit
 un : A.units + 16 * k + 200 < cLine
theorem Room.mono {j k : Nat} {A : Around} (r : Room k A) (h : j ≤ k) : Room j A := ⟨r.hd, by have := r.dp; omega, by have := r.un; omega⟩
theorem Room.deeper {k : Nat} {A : Around} (r : Room (k + 1) A) (env : Env) : Room k (A.deeper env) :=
 ⟨r.hd, by have := r.dp; show A.depth + 1 + 3 * k + 5 < _; omega, by have := r.un; show A.units + 3 + 16 * k + 200 < _; omega⟩
theorem make_depth {A : Around} {C : Addr} {us : List Value} {kw : List (Str × Value)} : (A.under (.builtin "type.__call__" ⟨.ref C :: us, kw⟩)).depth = A.depth + 1 := by
 first | rfl | simp [Around.under, Code.weight, Code.isCreation, Code.isGuard, Code.isCaller, Code.frames, Code.isFrame, guardIds]
theorem make_units {A : Around} {C : Addr} {us : List Value} {kw : List (Str × Value)} : (A.under (.builtin "type.__call__" ⟨.ref C :: us, kw⟩)).units = A.units + 1 := by
 first | rfl | simp [Around.under, Code.cUnits, Code.frames, Code.isFrame]
theorem Room.make {k : Nat} {A : Around} (r : Room (k + 1) A) (C : Addr) (us : List Value) (kw : List (Str × Value)) : Room k (A.under (.builtin "type.__call__" ⟨.ref C :: us, kw⟩)) :=
 ⟨r.hd, by have := r.dp; rw [make_depth]; omega, by have := r.un; rw [make_units]; omega⟩
theorem Room.depth {k : Nat} {A : Around} (r : Room k A) : A.depth < recursionLimit := by have := r.dp; omega
theorem Room.units {k : Nat} {A : Around} (r : Room k A) : A.units + 64 < cLine := by have := r.un; omega
theorem Room.units0 {k : Nat} {A : Around} (r : Room k A) : A.units < cLine := by have := r.un; omega
def tNil : TA := fun _ H Q => Q [] H
def tCons (ta : TE) (tr : TA) : TA := fun σ H Q => ta σ H fun x H1 => tr σ H1 fun xs H2 => Q (x :: xs) H2
section
variable {X : Cx} {e : Expr} {es : List Expr} {te : TE} {t : TA} {pos : Pos}
theorem pa_nil : PA X [] tNil := fun _ _ _ _ H Q I h => Calls.spliced_nil ⟨[], H, I, .nil, h⟩
theorem pa_cons (ha : PE X e te) (hr : PA X es t) (hs : starEach (e :: es) X.env = (false, eval e X.env) :: starEach es X.env := by rfl) : PA X (e :: es) (tCons te t) := by
 intro pos pins s σ H Q I h
 rw [hs]
 show wpAny _ _ (spliced ((false, eval e X.env) :: backTo pos (starEach es X.env))) _ _ s
 refine Calls.spliced_cons (thn (ha pins s σ H _ I h) fun u s1 ⟨x, H1, I1, r1, q1⟩ => ?_)
 exact thn (hr pos pins s1 σ H1 _ I1 q1) fun us s2 ⟨xs, H2, I2, r2, q2⟩ => ⟨x :: xs, H2, I2, .cons r1 r2, q2⟩
def tTup (t : TA) : TE := fun σ H Q => t σ H fun xs H1 => xs.length ≤ sizeLine ∧ ∀ p, H1 p = none → Q (.ref p) (upd H1 p (.tup xs))
def tLst (t : TA) : TE := fun σ H Q => t σ H fun xs H1 => xs.length ≤ sizeLine ∧ ∀ p, H1 p = none → Q (.ref p) (upd H1 p (.lst xs))
theorem pe_tup {x1} (h : PA X es t) : PE X (.Tuple es x1 pos) (tTup t) := by
 intro pins s σ H Q I hq
 refine wpAny_Tuple_spliced (thn (h pos pins s σ H _ I hq) fun us s1 ⟨xs, H1, I1, r, z, q⟩ => ⟨by rw [← r.length]; exact z, ?_⟩)
 have hf : H1 s1.heap.objs.size = none := I1.hok.fresh (Nat.le_refl _)
 refine ⟨.ref s1.heap.objs.size, upd H1 s1.heap.objs.size (.tup xs), I1.laid (t' := s1.toks) (fun b u e => Heap.get?_push_of_some _ e) (Nat.le_refl _) ?_, rfl, q _ hf⟩
 exact ⟨z, us, r, ⟨_, Heap.get?_push_size _ rfl, rfl, _, rfl⟩⟩
theorem pe_lst (h : PA X es t) : PE X (.List es pos) (tLst t) := by
 intro pins s σ H Q I hq
 refine wpAny_List_spliced (thn (h pos pins s σ H _ I hq) fun us s1 ⟨xs, H1, I1, r, z, q⟩ => ⟨by rw [← r.length]; exact z, ?_⟩)
 have hf : H1 s1.heap.objs.size = none := I1.hok.fresh (Nat.le_refl _)
 refine ⟨.ref s1.heap.objs.size, upd H1 s1.heap.objs.size (.lst xs), I1.laid (t' := s1.toks) (fun b u e => Heap.get?_push_of_some _ e) (Nat.le_refl _) ?_, rfl, q _ hf⟩
 exact ⟨z, us, 0, r, Heap.get?_push_size _ rfl⟩
end
abbrev Sp := List V → Hp → VK → XK → Prop
abbrev CXT := List Env → Hp → Shared → XK → Value → Shared → Prop
structure Env0 (P : Program) (w : World) (K : W.Frag) (mg : Str → Option Value) (base : Heap) (A : Around) (outer : List Env) (s : Shared) (H : Hp) : Prop where
 frames : A.frames = some outer
 mod : Mod K mg base
 bs : ∀ b o, base.get? b = some o → s.heap.get? b = some o ∧ H b = none
 bsz : base.objs.size ≤ s.heap.objs.size
 funs : s.heap.FunFrames base outer
 frf : ∀ b ∈ frs outer, H b = none
 hok : HOk P w H s.heap
 bare : AllBare s.gens
def CE (outer : List Env) (P : Program) (w : World) (H : Hp) (s : Shared) (Q : VK) (u : Value) (s' : Shared) : Prop :=
 ∃ v H', s'.os = s.os ∧ AllBare s'.gens ∧ Un (frs outer) [] H H' s.heap s'.heap ∧ HOk P w H' s'.heap ∧ RelV v u ∧ Q v H'
def CR (CX : CXT) (outer : List Env) (P : Program) (w : World) (H : Hp) (s : Shared) (Q : VK) (E : XK) (r : Result) (s' : Shared) : Prop :=
 match r with
 | .ok (.ret u) => CE outer P w H s Q u s'
 | .ok _ => False
 | .error e => CX outer H s E e s'
structure FnOk (P : Program) (w : World) (K : W.Frag) (mg : Str → Option Value) (base : Heap) (CX : CXT) (k : Nat) (f : Addr) (fd : FuncData) (ps : List Str) (sp : Sp) : Prop where
 len : ∀ vs H Q E, sp vs H Q E → vs.length = ps.length
 run : ∀ (A : Around) (outer : List Env) (s : Shared) (H : Hp) (args : Args) (us : List Value) (vs : List V) (Q : VK) (E : XK), Room k A → Env0 P w K mg base A outer s H → BindsTo s fd args (ps.zip us) → Vals vs us → sp vs H Q E →
  codeAny (model P w) A (.call (.ref f) args) (CR CX outer P w H s Q E) s
theorem Env0.make {P : Program} {w : World} {K : W.Frag} {mg : Str → Option Value} {base : Heap} {A : Around} {outer : List Env} {s : Shared} {H : Hp} (e : Env0 P w K mg base A outer s H) (C : Addr) (us : List Value) (kw : List (Str × Value)) :
  Env0 P w K mg base (A.under (.builtin "type.__call__" ⟨.ref C :: us, kw⟩)) outer s H := ⟨by first | exact e.frames | (simpa [Around.under, Code.envs, Code.isFrame, pushEnvs] using e.frames), e.mod, e.bs, e.bsz, e.funs, e.frf, e.hok, e.bare⟩
section
variable {X : Cx} {pins : List (Addr × Obj)} {σ : St} {H : Hp} {s s' : Shared}
theorem Inv.env0 (I : Inv X pins σ H s) : Env0 X.prog X.w X.K X.mg X.base X.A X.stack s H :=
 ⟨I.ok.frames, I.ok.mod, I.bs, Nat.le_trans I.ok.bsz I.sz, I.stack, I.stkFree, I.hok, I.bare⟩
theorem Inv.after {Q : VK} {u : Value} (I : Inv X pins σ H s) (h : CE X.stack X.prog X.w H s Q u s') : EP X pins σ Q u s' := by
 obtain ⟨v, H', os, bare, un, hok, r, q⟩ := h
 obtain ⟨hh, g, d, t, os'⟩ := s'
 obtain rfl : os' = s.os := os
 exact ⟨v, H', I.call (h' := hh) (g' := g) (d' := d) (t' := t) (ch := []) un hok bare (fun b z => absurd z (by simp)), r, q⟩
end
def tCall (sp : Sp) (dvs : List V) (E : XK) (t : TA) : TE := fun σ H Q => t σ H fun vs H1 => sp (vs ++ dvs) H1 Q E
def tMeth (C : Addr) (m : Str) (sp : Sp) (dvs : List V) (E : XK) (ta : TE) (t : TA) : TE := fun σ H Q => ta σ H fun x H1 => ∃ a dx fs, x = .ref a ∧ H1 a = some (.ins C dx fs) ∧ fs.lookup m = none ∧
 t σ H1 fun vs H2 => sp (x :: (vs ++ dvs)) H2 Q E
def tMake (C : Addr) (sp : Sp) (dvs : List V) (E : XK) (t : TA) : TE := fun σ H Q => t σ H fun vs H1 => ∀ x dx, H1 x = none → H1 dx = none → dx ≠ x →
 sp (.ref x :: (vs ++ dvs)) (upd (upd H1 dx (.own x)) x (.ins C dx [])) (fun v H2 => v = .non ∧ Q (.ref x) H2) E
def Binds (K : W.Frag) (fd : FuncData) (ps : List Str) (ds : List Value) : Prop :=
 ∀ (s : Shared) (us : List Value), K.In s.heap → (us ++ ds).length = ps.length → BindsTo s fd ⟨us, []⟩ (ps.zip (us ++ ds))
theorem Binds.all {K : W.Frag} {fd : FuncData} {ps : List Str} (h : ∀ us : List Value, us.length = ps.length → bindArgs fd ⟨us, []⟩ = pure (ps.zip us)) : Binds K fd ps [] := fun s us _ hl => by
 rw [List.append_nil] at hl ⊢
 exact .of_eq (h us hl)
def Passes (CX : CXT) (X : Cx) (E : XK) : Prop := ∀ (pins : List (Addr × Obj)) (σ : St) (H : Hp) (s : Shared) (e : Value) (s' : Shared), Inv X pins σ H s → CX X.stack H s E e s' → X.xe e s'
section
variable {X : Cx} {CX : CXT} {k : Nat} {f C : Addr} {fd : FuncData} {ps : List Str} {sp : Sp} {dvs : List V} {ds : List Value} {E : XK} {x m : Str} {p pos apos : Pos} {e o : Expr} {es : List Expr} {ta : TE} {t : TA}
theorem run_fn {pins : List (Addr × Obj)} {σ : St} {H : Hp} {s : Shared} {Q : VK} {us : List Value} {vs : List V} (F : FnOk X.prog X.w X.K X.mg X.base CX k f fd ps sp) (hr : Room k X.A) (hb : Binds X.K fd ps ds) (hd : Vals dvs ds) (hx : Passes CX X E)
  (I : Inv X pins σ H s) (r : Vals vs us) (h : sp (vs ++ dvs) H Q E) : wpAny (model X.prog X.w) X.A (call (.ref f) us) (EP X pins σ Q) X.xe s := by
 have r2 : Vals (vs ++ dvs) (us ++ ds) := r.append hd
 have hl : (us ++ ds).length = ps.length := by rw [← r2.length]; exact F.len _ _ _ _ h
 refine wpAny_call (codeAny_mono (F.run X.A X.stack s H ⟨us, []⟩ (us ++ ds) (vs ++ dvs) Q E hr I.env0 (hb s us I.kIn hl) r2 h) fun r s' hq => ?_)
 cases r with
 | error e => exact hx pins σ H s e s' I hq
 | ok fl =>
  cases fl with
  | ret u => exact I.after hq
  | next => exact False.elim hq
  | brk => exact False.elim hq
  | cont => exact False.elim hq
theorem pe_call (F : FnOk X.prog X.w X.K X.mg X.base CX k f fd ps sp) (hr : Room k X.A) (hg : Gl X x) (hm : X.mg x = some (.ref f)) (hk : W.keepIn X.K (.ref f) = true) (hb : Binds X.K fd ps ds) (hd : Vals dvs ds) (hx : Passes CX X E)
  (ha : PA X (e :: es) t) (hdb : (x == ("__debug__" : Str)) = false := by decide) (he : starEach (e :: es) X.env = (false, eval e X.env) :: starEach es X.env := by rfl) (hpl : (backTo pos (starEach es X.env)).any (·.1) = false := by rfl) :
  PE X (.Call (.Name x p) (e :: es) [] pos) (tCall sp dvs E t) := by
 intro pins s σ H Q I h
 refine wpAny_Call_Name_kw (ld_glob I hg hm ?_ hdb)
 refine W.callWith_K (h₀ := X.base) I.ok.mod.kin hk (thn (ha pos pins s σ H _ I h) fun us s1 ⟨vs, H1, I1, r, q⟩ => ⟨I1.kIn, ?_⟩) he hpl
 exact run_fn F hr hb hd hx I1 r q
theorem pe_meth0 {pl : Sem Bool} (he : PE X o ta) (c : Cls X.K C) (hm : Meth X.K C m f) (F : FnOk X.prog X.w X.K X.mg X.base CX k f fd ps sp) (hr : Room k X.A) (hb : Binds X.K fd ps ds) (hd : Vals dvs ds) (hx : Passes CX X E)
  (ht : eval (.Call (.Attribute o m apos) [] [] pos) X.env = (do
   let ov ← eval o X.env
   standAt apos.atName
   let (f, first) ← holding [ov] (getMethod ov m pl)
   callWith pos f first (backTo pos (starEach [] X.env)) (backToKw pos (keywordEach [] X.env))) := by rfl) :
  PE X (.Call (.Attribute o m apos) [] [] pos) (tMeth C m sp dvs E ta tNil) := by
 intro pins s σ H Q I h
 refine W.methodCall_KW (pl := pl) (thn (he pins s σ H _ I h) fun u s1 ⟨x, H1, I1, rx, a, dx, fs, ex, ea, l, q⟩ => ?_) ht
 subst ex
 obtain rfl : u = Value.ref a := rx
 refine getmeth_ok I1 ea c hm l ?_
 exact W.callWith_K0 (first := [.ref a]) I1.kIn hm.kp (run_fn (us := [.ref a]) (vs := [.ref a]) F hr hb hd hx I1 (.cons rfl .nil) q)
structure Mk (K : W.Frag) (C f : Addr) : Prop where
 makes : W.makesIn K C = true
 init : W.findIn K (.ref C) "__init__" = some (some (.ref f))
 fn : W.isFn K (.ref f) = true
 kp : W.keepIn K (.ref C) = true
theorem run_make {pins : List (Addr × Obj)} {σ : St} {H : Hp} {s : Shared} {Q : VK} {us : List Value} {vs : List V} (M : Mk X.K C f) (F : FnOk X.prog X.w X.K X.mg X.base CX k f fd ps sp) (hr : Room (k + 1) X.A) (hb : Binds X.K fd ps ds) (hd : Vals dvs ds)
  (hx : Passes CX X E) (I : Inv X pins σ H s) (r : Vals vs us)
  (h : ∀ x dx, H x = none → H dx = none → dx ≠ x → sp (.ref x :: (vs ++ dvs)) (upd (upd H dx (.own x)) x (.ins C dx [])) (fun v H2 => v = .non ∧ Q (.ref x) H2) E) :
  wpAny (model X.prog X.w) X.A (call (.ref C) us) (EP X pins σ Q) X.xe s := by
 have hq := h (s.heap.objs.size + 1) s.heap.objs.size (I.hok.fresh (Nat.le_succ _)) (I.hok.fresh (Nat.le_refl _)) (Nat.ne_of_lt (Nat.lt_succ_self _))
 have I2 := Inv.made (C := C) I
 have r2 : Vals (V.ref (s.heap.objs.size + 1) :: (vs ++ dvs)) (Value.ref (s.heap.objs.size + 1) :: (us ++ ds)) := .cons rfl (r.append hd)
 have hl : (Value.ref (s.heap.objs.size + 1) :: us ++ ds).length = ps.length := by
  have e := r2.length
  rw [F.len _ _ _ _ hq] at e
  exact e.symm
 refine wpAny_call (make_map (f := f) I.kIn M.makes M.init (beq_iff_eq.mp M.fn) (codeAny_mono (F.run _ X.stack _ _ ⟨Value.ref (s.heap.objs.size + 1) :: us, []⟩ (Value.ref (s.heap.objs.size + 1) :: (us ++ ds)) _ _ E (hr.make C us [])
  (I2.env0.make C us []) (hb _ (Value.ref (s.heap.objs.size + 1) :: us) I2.kIn hl) r2 hq) fun r s' hq' => ?_))
 cases r with
 | error e => exact hx pins σ _ _ e s' I2 hq'
 | ok fl =>
  cases fl with
  | ret u =>
   obtain ⟨v, H', I3, rv, ev, q3⟩ := I2.after hq'
   subst ev
   exact ⟨rv, ⟨V.ref (s.heap.objs.size + 1), H', I3, rfl, q3⟩⟩
  | next => exact False.elim hq'
  | brk => exact False.elim hq'
  | cont => exact False.elim hq'
theorem pe_make0 (M : Mk X.K C f) (F : FnOk X.prog X.w X.K X.mg X.base CX k f fd ps sp) (hr : Room (k + 1) X.A) (hg : Gl X x) (hm : X.mg x = some (.ref C)) (hb : Binds X.K fd ps ds) (hd : Vals dvs ds) (hx : Passes CX X E)
  (hdb : (x == ("__debug__" : Str)) = false := by decide) : PE X (.Call (.Name x p) [] [] pos) (tMake C sp dvs E tNil) := by
 intro pins s σ H Q I h
 refine wpAny_Call_Name_kw (ld_glob I hg hm ?_ hdb)
 exact W.callWith_K0 I.kIn M.kp (run_make (us := []) M F hr hb hd hx I .nil h)
end
def PK (X : Cx) (kws : List Keyword) (t : TA) : Prop :=
 ∀ (pos : Pos) (pins : List (Addr × Obj)) (s : Shared) (σ : St) (H : Hp) (Q : List V → Hp → Prop), Inv X pins σ H s → t σ H Q → wpAny (model X.prog X.w) X.A (evalAll ((backToKw pos (keywordEach kws X.env)).map (·.2))) (AP X pins σ Q) X.xe s
section
variable {X : Cx} {CX : CXT} {k : Nat} {f C : Addr} {fd : FuncData} {ps ks : List Str} {sp : Sp} {E : XK} {x m : Str} {p pos apos kpos : Pos} {e o : Expr} {es : List Expr} {kws : List Keyword} {te ta : TE} {t tk : TA} {nm : Option Str}
theorem pk_nil : PK X [] tNil := fun _ _ _ _ H Q I h => wpAny_evalAll_nil ⟨[], H, I, .nil, h⟩
theorem pk_cons (ha : PE X e te) (hr : PK X kws t) : PK X (⟨nm, e, kpos⟩ :: kws) (tCons te t) := by
 intro pos pins s σ H Q I h
 show wpAny _ _ (evalAll ((do let v ← eval e X.env; standAt pos; pure v) :: (backToKw pos (keywordEach kws X.env)).map (·.2))) _ _ s
 refine wpAny_evalAll_cons (wpAny_bind (thn (ha pins s σ H _ I h) fun u s1 ⟨x, H1, I1, r1, q1⟩ => wpAny_bind (wpAny_standAt (wpAny_pure ?_))))
 exact thn (hr pos pins s1 σ H1 _ I1 q1) fun us s2 ⟨xs, H2, I2, r2, q2⟩ => ⟨x :: xs, H2, I2, .cons r1 r2, q2⟩
structure KBinds (K : W.Frag) (fd : FuncData) (ps ks : List Str) (g : List Value → List Value → List Value) (gV : List V → List V → List V) : Prop where
 to : ∀ (s : Shared) (us ws : List Value), K.In s.heap → (g us ws).length = ps.length → BindsTo s fd ⟨us, ks.zip ws⟩ (ps.zip (g us ws))
 rel : ∀ {vs : List V} {us : List Value} {zs : List V} {ws : List Value}, Vals vs us → Vals zs ws → Vals (gV vs zs) (g us ws)
variable {g : List Value → List Value → List Value} {gV : List V → List V → List V}
end
structure FnScope (N P : List Str) (sc : Scope) : Prop where
 kind : sc.kind = .function
 co : sc.isCoroutine = false
 gen : sc.isGenerator = false
 nd : N.Nodup
 pre : N.take P.length = P
 par : ∀ x ∈ P, sc.names.lookup x = some .local ∨ sc.names.lookup x = some .cell
 nofree : ∀ y ∈ sc.names, y.2 ≠ .free
theorem bindL_out {kindOf : Str → Option NameKind} {x : Str} : ∀ {binds : List (Str × Value)} {m : Str → Option Value}, (∀ v, (x, v) ∉ binds) → bindL kindOf binds m x = m x
 | [], _, _ => rfl
 | (n, v) :: r, m, h => by
  unfold bindL
  rw [bindL_out fun w hw => h w (List.mem_cons_of_mem _ hw)]
  split
  ·have : x ≠ n := by rintro rfl; exact h v List.mem_cons_self
   simp [this]
  ·rfl
theorem bindC_out {kindOf : Str → Option NameKind} {x : Str} : ∀ {binds : List (Str × Value)} {m : Str → Option Value}, (∀ v, (x, v) ∉ binds) → bindC kindOf binds m x = m x
 | [], _, _ => rfl
 | (n, v) :: r, m, h => by
  unfold bindC
  rw [bindC_out fun w hw => h w (List.mem_cons_of_mem _ hw)]
  split
  ·rfl
  ·have : x ≠ n := by rintro rfl; exact h v List.mem_cons_self
   simp [this]
theorem bindL_get {kindOf : Str → Option NameKind} {x : Str} {v : Value} : ∀ {P : List Str} {vs : List Value} {i : Nat} {m : Str → Option Value}, P.Nodup → P[i]? = some x → vs[i]? = some v → kindOf x = some .local →
  bindL kindOf (P.zip vs) m x = some v
 | [], _, _, _, _, h, _, _ => by simp at h
 | _ :: _, [], _, _, _, _, h, _ => by simp at h
 | p :: P, w :: vs, 0, m, nd, h1, h2, hk => by
  simp at h1 h2; subst h1; subst h2
  show bindL kindOf ((p, w) :: P.zip vs) m p = _
  unfold bindL
  rw [bindL_out fun v hv => (List.nodup_cons.mp nd).1 (List.of_mem_zip hv).1, if_pos hk]
  simp
 | p :: P, w :: vs, i + 1, m, nd, h1, h2, hk => by
  show bindL kindOf ((p, w) :: P.zip vs) m x = _
  unfold bindL
  exact bindL_get (i := i) (List.nodup_cons.mp nd).2 (by simpa using h1) (by simpa using h2) hk
theorem bindC_get {kindOf : Str → Option NameKind} {x : Str} {v : Value} : ∀ {P : List Str} {vs : List Value} {i : Nat} {m : Str → Option Value}, P.Nodup → P[i]? = some x → vs[i]? = some v → kindOf x ≠ some .local →
  bindC kindOf (P.zip vs) m x = some v
 | [], _, _, _, _, h, _, _ => by simp at h
 | _ :: _, [], _, _, _, _, h, _ => by simp at h
 | p :: P, w :: vs, 0, m, nd, h1, h2, hk => by
  simp at h1 h2; subst h1; subst h2
  show bindC kindOf ((p, w) :: P.zip vs) m p = _
  unfold bindC
  rw [bindC_out fun v hv => (List.nodup_cons.mp nd).1 (List.of_mem_zip hv).1, if_neg hk]
  simp
 | p :: P, w :: vs, i + 1, m, nd, h1, h2, hk => by
  show bindC kindOf ((p, w) :: P.zip vs) m x = _
  unfold bindC
  exact bindC_get (i := i) (List.nodup_cons.mp nd).2 (by simpa using h1) (by simpa using h2) hk
def start (N : List Str) (vs : List V) : St := vs.map some ++ List.replicate (N.length - vs.length) none
def cxOf (CX : CXT) (P : Program) (w : World) (K : W.Frag) (mg : Str → Option Value) (base : Heap) (N : List Str) (qual : Str) (scope : Scope) (f : Addr) (cd : Value) (A : Around) (outer : List Env) (s : Shared) (H : Hp) (E : XK) : Cx where
 prog := P
 w := w
 K := K
 mg := mg
 base := base
 A := A.deeper (envOfC qual scope s.heap.objs.size f cd)
 N := N
 s₀ := s
 H₀ := H
 env := envOfC qual scope s.heap.objs.size f cd
 outer := outer
 stack := envOfC qual scope s.heap.objs.size f cd :: outer
 ex := []
 calm := true
 fn := fun _ => true
 pn := []
 xe := fun e s' => wpAny (model P w) (A.deeper (envOfC qual scope s.heap.objs.size f cd)) (leaving (envOfC qual scope s.heap.objs.size f cd) e) (fun _ s'' => CX outer H s E e s'') (fun e' s'' => CX outer H s E e' s'') s'
theorem cell_has {sc : Scope} {n : Nat} {x : Str} (h : sc.names.lookup x = some .cell) : ∃ c, (cellsFrom n sc.names []).lookup x = some c := by
 have q := W.cellsFrom_some sc.names n [] (.inl h)
 exact Option.isSome_iff_exists.mp q
theorem inv_start {CX : CXT} {P : Program} {w : World} {K : W.Frag} {mg : Str → Option Value} {base : Heap} {N ps : List Str} {qual : Str} {scope : Scope} {f : Addr} {cd : Value} {A : Around} {outer : List Env} {s s1 : Shared} {H : Hp} {E : XK} {us : List Value} {vs : List V}
  (S : FnScope N ps scope) (hd : A.handled = none) (e0 : Env0 P w K mg base A outer s H) (hl : vs.length = ps.length) (r : Vals vs us)
  (x : InCallC s s.heap.objs.size (bindL (envOfC qual scope s.heap.objs.size f cd).kindOf (ps.zip us) fun _ => none) (cellsFrom (s.heap.objs.size + 1) scope.names []) (bindC (envOfC qual scope s.heap.objs.size f cd).kindOf (ps.zip us) fun _ => none) s1) :
  Inv (cxOf CX P w K mg base N qual scope f cd A outer s H E) [] (start N vs) H s1 := by
 have hpl : ps.length ≤ N.length := by have := congrArg List.length S.pre; rw [List.length_take] at this; omega
 obtain ⟨h1, tk, rfl, hk⟩ := x.done
 have noA : ∀ b : Addr, b ∉ (cxOf CX P w K mg base N qual scope f cd A outer s H E).ex := fun b z => absurd (show b ∈ ([] : List Addr) from z) (by simp)
 refine ⟨⟨e0.mod, S.kind, rfl, rfl, Nat.le_refl _, fun y z c h1 h2 => ?_, fun y hy => ?_, fun y c _ h => ?_, fun _ => hd, Around.frames_deeper e0.frames, .inr ⟨rfl, rfl⟩, fun b z => absurd z (noA b), e0.bs, e0.bsz, fun b _ _ => noA b, fun b z => absurd z (noA b), e0.funs, e0.frf⟩,
  rfl, e0.bare, Un.kept hk, ⟨_, x.toInCall.ns, fun i y v h1 h2 h3 => ?_⟩, fun y c h => ⟨_, x.cell y c h⟩, e0.hok.fresh (Nat.le_refl _), fun y c h => ?_, fun p hp => absurd (show p ∈ ([] : List (Addr × Obj)) from hp) (by simp), e0.hok.kept hk, ?_⟩
 ·exact name_of_addr x.apart (PySem.mem_of_lookup h1) (PySem.mem_of_lookup h2)
 ·have hy : scope.names.lookup y = some .cell ∨ scope.names.lookup y = some .free := hy
  rcases hy with hy | hy
  ·exact cell_has hy
  ·exact absurd rfl (S.nofree _ (PySem.mem_of_lookup hy))
 ·exact Nat.le_of_lt (x.above y c (PySem.mem_of_lookup h))
 ·have hi : i < vs.length := by
   unfold start at h2
   by_cases hi : i < vs.length
   ·exact hi
   ·rw [List.getElem?_append_right (by simpa using hi)] at h2
    rw [List.getElem?_replicate] at h2
    split at h2 <;> cases h2
  have ha : vs[i]? = some v := by
   unfold start at h2
   rw [List.getElem?_append_left (by simpa using hi), List.getElem?_map] at h2
   cases e : vs[i]? with
   | none => rw [e] at h2; cases h2
   | some a => rw [e] at h2; cases h2; rfl
  obtain ⟨u, hu, rv⟩ := r.get ha
  have hp : ps[i]? = some y := by
   rw [← S.pre, List.getElem?_take_of_lt (by omega)]; exact h1
  have ndP : ps.Nodup := by rw [← S.pre]; exact S.nd.sublist (List.take_sublist _ _)
  refine ⟨u, rv, ?_⟩
  rcases S.par y (List.mem_of_getElem? hp) with k | k
  ·exact .inl ⟨k, bindL_get ndP hp hu k⟩
  ·obtain ⟨c, e⟩ := cell_has (n := s.heap.objs.size + 1) k
   refine .inr ⟨.inl k, c, e, ?_⟩
   have q := x.cell y c e
   rw [bindC_get ndP hp hu (by show scope.names.lookup y ≠ _; rw [k]; decide)] at q
   exact q
 ·exact e0.hok.fresh (Nat.le_of_lt (x.above y c (PySem.mem_of_lookup h)))
 ·unfold start
  show _ = N.length
  rw [List.length_append, List.length_map, List.length_replicate]
  omega
theorem fn_of {CX : CXT} {P : Program} {w : World} {K : W.Frag} {mg : Str → Option Value} {base : Heap} {k : Nat} {f : Addr} {name qual : Str} {params : Arguments} {body : List Stmt} {scope : Scope} {dV kV doc pm cdv ct oc : Value} {an od : Option Addr}
  {osl : Array (Option Value)} {N ps : List Str} {sp : Sp} (lk : K.lookup f = some ⟨oc, od, .func (W.fnOf name qual params body scope dV kV doc pm an cdv ct), osl⟩) (hcd : W.codeIn K cdv qual = true) (S : FnScope N ps scope)
  (len : ∀ vs H Q E, sp vs H Q E → vs.length = ps.length)
  (hbody : ∀ (A : Around) (outer : List Env) (s : Shared) (H : Hp) (vs : List V) (Q : VK) (E : XK), Room k (A.deeper (envOfC qual scope s.heap.objs.size f cdv)) → sp vs H Q E →
   ∃ t, PSs (cxOf CX P w K mg base N qual scope f cdv A outer s H E) body t ∧ t { nx := fun _ H' => Q .non H', rt := Q } (start N vs) H) :
  FnOk P w K mg base CX (k + 1) f (W.fnOf name qual params body scope dV kV doc pm an cdv ct) ps sp := by
 refine ⟨len, fun A outer s H args us vs Q E hr e0 hb r hsp => ?_⟩
 have hl := len _ _ _ _ hsp
 have KX : K.In s.heap := e0.mod.kin.keeps fun b o e => (e0.bs b o e).1
 have lim : s.heap.NoLimit := e0.mod.nolimit.keeps fun b o e => (e0.bs b o e).1
 have hkind : ∀ y ∈ ps.zip us, scope.names.lookup y.1 = some .local ∨ (scope.names.lookup y.1 = some .cell ∧ ((cellsFrom (s.heap.objs.size + 1) scope.names []).lookup y.1).isSome = true) := fun ⟨n, v⟩ hy => by
  rcases S.par n (List.of_mem_zip hy).1 with q | q
  ·exact .inl q
  ·exact .inr ⟨q, W.cellsFrom_some _ _ _ (.inl q)⟩
 refine codeAny_call_function hr.depth (KX _ _ lk) rfl S.co S.gen rfl (W.codeRec_of KX hcd) (hb _ _ _ _ ?_)
 refine wpAny_newFunctionEnv_cells S.kind hkind fun env he s1 x => ?_
 subst he
 refine ⟨lim.keeps x.toInCall.keep, codeAny_func ?_⟩
 obtain ⟨t, ht, hq⟩ := hbody A outer s H vs Q E (hr.deeper _) hsp
 have I : Inv (cxOf CX P w K mg base N qual scope f cdv A outer s H E) [] (start N vs) H s1 := inv_start S hr.hd e0 hl r x
 refine wpAny_mono (ht [] s1 (start N vs) H _ I hq) (fun fl s' hs => ?_) fun e s' hs => hs
 have fin : ∀ {σ' : St} {H' : Hp} {v : V} {u : Value}, Inv (cxOf CX P w K mg base N qual scope f cdv A outer s H E) [] σ' H' s' → RelV v u → Q v H' → CE outer P w H s Q u s' :=
  fun {σ' H' v u} J rv q => ⟨v, H', J.os, J.bare, J.base, J.hok, rv, q⟩
 cases fl with
 | ret u =>
  obtain ⟨v, σ', H', J, rv, q⟩ := hs
  exact fin J rv q
 | next =>
  obtain ⟨σ', H', J, q⟩ := hs
  exact fin (v := V.non) (u := Value.none) J rfl q
 | brk =>
  obtain ⟨_, _, _, q⟩ := hs
  exact False.elim q
 | cont =>
  obtain ⟨_, _, _, q⟩ := hs
  exact False.elim q
end L2
namespace L2
open PySem PySem.Spec PyProof.Rows
section
variable {X : Cx} {x : Str} {p pos : Pos} {e : Expr} {es : List Expr} {t : TA} {id T : String} {r : List V → Hp → VK → Prop}
def tCB (r : List V → Hp → VK → Prop) (t : TA) : TE := fun σ H Q => t σ H fun vs H1 => r vs H1 Q
theorem pe_callB (hc : CallR X (.builtin id) r) (hg : Gl X x) (hm : X.mg x = none) (hv : bootBuiltins x = some (.builtin id)) (ha : PA X (e :: es) t) (hn : x ≠ "__name__" := by decide) (hdb : (x == ("__debug__" : Str)) = false := by decide)
  (he : starEach (e :: es) X.env = (false, eval e X.env) :: starEach es X.env := by rfl) (hpl : (backTo pos (starEach es X.env)).any (·.1) = false := by rfl) : PE X (.Call (.Name x p) (e :: es) [] pos) (tCB r t) := by
 intro pins s σ H Q I h
 refine wpAny_Call_Name_kw (ld_blt I hg hm hv ?_ hn hdb)
 exact PyProof.Rows.callWith_builtin1 (thn (ha pos pins s σ H _ I h) fun us s1 ⟨vs, H1, I1, r1, q1⟩ => hc pins s1 σ H1 vs us Q I1 r1 q1) he hpl
theorem pe_callTy (hc : CallR X (.type T) r) (hg : Gl X x) (hm : X.mg x = none) (hv : bootBuiltins x = some (.type T)) (ha : PA X (e :: es) t) (hn : x ≠ "__name__" := by decide) (hdb : (x == ("__debug__" : Str)) = false := by decide)
  (he : starEach (e :: es) X.env = (false, eval e X.env) :: starEach es X.env := by rfl) (hpl : (backTo pos (starEach es X.env)).any (·.1) = false := by rfl) : PE X (.Call (.Name x p) (e :: es) [] pos) (tCB r t) := by
 intro pins s σ H Q I h
 refine wpAny_Call_Name_kw (ld_blt I hg hm hv ?_ hn hdb)
 exact PyProof.Rows.callWith_type1 (thn (ha pos pins s σ H _ I h) fun us s1 ⟨vs, H1, I1, r1, q1⟩ => hc pins s1 σ H1 vs us Q I1 r1 q1) he hpl
end
end L2
namespace HT
open PySem PyProof.Rows
section
open PySem.SeqAt
open PySem.AutoSeq1 (wpAny_loadPart')
open PySem.MeetsSeq PySem.MeetsSeq2 PySem.MeetsSeq3
end
section
variable {prog : Program} {w : World} {A : Around} {E : Value → Shared → Prop} {s : Shared}
def sIx (n d : Nat) : Option Int → Nat
 | none => d
 | some v => if v < 0 then (v + (n : Int)).toNat else min v.toNat n
theorem sIx_nat (n d k : Nat) : sIx n d (some (k : Int)) = min k n := by
 show (if (k : Int) < 0 then ((k : Int) + (n : Int)).toNat else min (k : Int).toNat n) = min k n
 rw [if_neg (by omega), Int.toNat_natCast]
end
end HT
namespace L2
open PySem PySem.Spec PyProof.Rows
abbrev TO := St → Hp → (Option Int → Hp → Prop) → Prop
def PO (X : Cx) (e : Option Expr) (t : TO) : Prop :=
 ∀ (pins : List (Addr × Obj)) (s : Shared) (σ : St) (H : Hp) (Q : Option Int → Hp → Prop), Inv X pins σ H s → t σ H Q →
  wpAny (model X.prog X.w) X.A (evalPart e X.env) (fun u s' => ∃ o H', Inv X pins σ H' s' ∧ IsPart u o ∧ Q o H') X.xe s
def tNoPart : TO := fun _ H Q => Q none H
def tPart (t : TE) : TO := fun σ H Q => t σ H fun x H1 => ∃ i, x = .int i ∧ Q (some i) H1
section
variable {X : Cx} {e : Expr} {te : TE} {lo hi : Option Expr} {tl th : TO} {pos p2 : Pos}
theorem po_none : PO X none tNoPart := by
 intro pins s σ H Q I h
 rw [evalPart_none]
 exact wpAny_pure ⟨none, H, I, .none, h⟩
theorem po_some (h : PE X e te) : PO X (some e) (tPart te) := by
 intro pins s σ H Q I hw
 rw [evalPart_some]
 refine thn (h pins s σ H _ I hw) fun u s1 ⟨x, H1, I1, r1, q1⟩ => ?_
 obtain ⟨i, rfl, q⟩ := q1
 obtain ⟨t, rfl⟩ := r1
 exact ⟨some i, H1, I1, .int i t, q⟩
def SlR (X : Cx) (r : V → Option Int → Option Int → Hp → VK → Prop) : Prop :=
 ∀ (pins : List (Addr × Obj)) (s : Shared) (σ : St) (H : Hp) (x : V) (v vl vu : Value) (lo hi : Option Int) (sl : Addr) (Q : VK), Inv X pins σ H s → RelV x v → s.heap.IsSliceOf sl vl vu .none → IsPart vl lo → IsPart vu hi → r x lo hi H Q →
  ∃ T id, typeLookup (.type T) "__getitem__" = pure (some (.builtin id)) ∧ s.TypeIs v T ∧ wpAny (model X.prog X.w) X.A (getItem v (.ref sl)) (EP X pins σ Q) X.xe s
def tSl (r : V → Option Int → Option Int → Hp → VK → Prop) (te : TE) (tl th : TO) : TE := fun σ H Q => te σ H fun x H1 => tl σ H1 fun l H2 => th σ H2 fun u H3 => r x l u H3 Q
theorem pe_slice {r : V → Option Int → Option Int → Hp → VK → Prop} (hr : SlR X r) (he : PE X e te) (hl : PO X lo tl) (hu : PO X hi th) : PE X (.Subscript e (.Slice lo hi none p2) pos) (tSl r te tl th) := by
 intro pins s σ H Q I h
 refine Subscript_ (thn (he pins s σ H _ I h) fun v s1 ⟨x, H1, I1, r1, q1⟩ => ?_)
 refine wpAny_Slice (thn (hl pins s1 σ H1 _ I1 q1) fun vl s2 ⟨l, H2, I2, pl, q2⟩ => thn (hu pins s2 σ H2 _ I2 q2) fun vu s3 ⟨u, H3, I3, pu, q3⟩ => ?_)
 rw [evalPart_none]
 refine wpAny_pure ?_
 have I4 : Inv X pins σ H3 { s3 with heap := s3.heap.push { cls := .type "slice", data := .fields #[vl, vu, .none] } } := I3.kept (t' := s3.toks) fun b ob q => Heap.get?_push_of_some _ q
 obtain ⟨T, id, hT, ht, hg⟩ := hr pins { s3 with heap := s3.heap.push { cls := .type "slice", data := .fields #[vl, vu, .none] } } σ H3 x v vl vu l u s3.heap.objs.size Q I4 r1 (Heap.IsSliceOf.new ..) pl pu q3
 show wpAny (model X.prog X.w) X.A (subscriptTail e (.Slice lo hi none p2) v (.ref s3.heap.objs.size)) (EP X pins σ Q) X.xe { s3 with heap := s3.heap.push { cls := .type "slice", data := .fields #[vl, vu, .none] } }
 exact tail_any (ops := [.ref s3.heap.objs.size, v]) ht hT hg (by with_unfolding_all rfl)
def cutV (xs : List V) (lo hi : Option Int) : List V := (xs.drop (HT.sIx xs.length 0 lo)).take (HT.sIx xs.length xs.length hi - HT.sIx xs.length 0 lo)
theorem cutV_length (xs : List V) (lo hi : Option Int) : (cutV xs lo hi).length ≤ xs.length := by
 unfold cutV
 rw [List.length_take, List.length_drop]
 omega
end
end L2
namespace L2
open PySem PySem.Spec PyProof.Rows
def ixN (n : Nat) (i : Int) : Option Nat := if 0 ≤ i then (if i < n then some i.toNat else none) else if -(n : Int) ≤ i then some (i + n).toNat else none
def atI {α : Type} (xs : List α) (i : Int) : Option α := (ixN xs.length i).bind fun j => xs[j]?
theorem ixN_seq {n : Nat} {i : Int} {j : Nat} (h : ixN n i = some j) : seqIndex? i n = some j ∧ j < n ∧ -(n : Int) ≤ i ∧ i < n := by
 unfold ixN at h
 by_cases h0 : 0 ≤ i
 ·rw [if_pos h0] at h
  by_cases h1 : i < n
  ·rw [if_pos h1] at h
   have e : i.toNat = j := Option.some.inj h
   exact ⟨by rw [seqIndex_of h0 h1, e], by omega, by omega, h1⟩
  ·rw [if_neg h1] at h; cases h
 ·rw [if_neg h0] at h
  by_cases h1 : -(n : Int) ≤ i
  ·rw [if_pos h1] at h
   have e : (i + n).toNat = j := Option.some.inj h
   exact ⟨by rw [seqIndex_neg (by omega) h1, e], by omega, h1, by omega⟩
  ·rw [if_neg h1] at h; cases h
theorem atI_get {α : Type} {xs : List α} {i : Int} {v : α} (h : atI xs i = some v) : ∃ j, seqIndex? i xs.length = some j ∧ xs[j]? = some v ∧ j < xs.length ∧ -(xs.length : Int) ≤ i ∧ i < xs.length := by
 unfold atI at h
 cases e : ixN xs.length i with
 | none => rw [e] at h; cases h
 | some j =>
  rw [e] at h
  obtain ⟨h1, h2, h3, h4⟩ := ixN_seq e
  exact ⟨j, h1, h, h2, h3, h4⟩
theorem atI_nat {α : Type} {xs : List α} {j : Nat} {v : α} (h : xs[j]? = some v) : atI xs (j : Int) = some v := by
 have hj : j < xs.length := (List.getElem?_eq_some_iff.mp h).1
 have e : ixN xs.length (j : Int) = some j := by
  unfold ixN
  rw [if_pos (by omega), if_pos (by omega)]; simp
 unfold atI; rw [e]; exact h
def PlainIx (b : Expr) : Prop := ∀ o i, subscripted b false o i = operate [o, i] (getItem o i)
def IxR (X : Cx) (r : R2) : Prop :=
 ∀ (value slice : Expr) (pins : List (Addr × Obj)) (s : Shared) (σ : St) (H : Hp) (x y : V) (v u : Value) (Q : VK), Inv X pins σ H s → RelV x v → RelV y u → r x y H Q →
  subscripted slice false v u = operate [v, u] (getItem v u) → wpAny (model X.prog X.w) X.A (subscriptTail value slice v u) (EP X pins σ Q) X.xe s
def MtR (X : Cx) (id : String) (r : V → List V → Hp → VK → Prop) : Prop :=
 ∀ (pins : List (Addr × Obj)) (s : Shared) (σ : St) (H : Hp) (x : V) (xs : List V) (v : Value) (us : List Value) (Q : VK), Inv X pins σ H s → RelV x v → Vals xs us → r x xs H Q →
  wpAny (model X.prog X.w) X.A (call (.builtin id) (v :: us)) (EP X pins σ Q) X.xe s
section
variable {X : Cx} {a b : Expr} {ta tb : TE} {pos : Pos}
theorem pe_ix {r : R2} (hr : IxR X r) (ha : PE X a ta) (hb : PE X b tb) (hs : PlainIx b) : PE X (.Subscript a b pos) (tOp r ta tb) := by
 intro pins s σ H Q I h
 exact Subscript_ (binT ha hb I h fun v u s2 x y H2 I2 rx ry q => hr a b pins s2 σ H2 x y v u Q I2 rx ry q (hs _ _))
def rIxL (K : W.Frag) : R2 := fun x y H Q => ∃ p xs i v, x = .ref p ∧ y = .int i ∧ SqL K H p xs ∧ atI xs i = some v ∧ Q v H
def rIxT (K : W.Frag) : R2 := fun x y H Q => ∃ p xs i v, x = .ref p ∧ y = .int i ∧ SqT K H p xs ∧ atI xs i = some v ∧ Q v H
def rIxS : R2 := fun x y H Q => ∃ z i c, x = .str z ∧ y = .int i ∧ z.length ≤ sizeLine ∧ atI z.cps.toList i = some c ∧ Q (.str ⟨#[c]⟩) H
theorem ix_list : IxR X (rIxL X.K) := by
 intro value slice pins s σ H x y v u Q I rx ry h hs
 obtain ⟨p, xs, i, z, rfl, rfl, hq, he, q⟩ := h
 cases rx
 obtain ⟨t, rfl⟩ := ry
 obtain ⟨its, r, pl, hz⟩ := I.list hq
 obtain ⟨j, h1, h2, h3, h4, h5⟩ := atI_get he
 obtain ⟨w, ew, rw'⟩ := r.get h2
 have hl := r.length
 have hn := line63
 have fin : EP X pins σ Q w s := ⟨z, H, I, rw', q⟩
 by_cases h0 : 0 ≤ i
 ·have hj : i.toNat = j := by
   rw [seqIndex_of h0 h5] at h1
   exact Option.some.inj h1
  exact item_listR pl.isList h0 (by omega) (by rw [hj]; simpa using ew) fin hs
 ·have hj : (i + (its.toArray.size : Int)).toNat = j := by
   rw [seqIndex_neg (by omega) h4] at h1
   rw [List.size_toArray, ← hl]
   exact Option.some.inj h1
  exact subscriptTail_builtinR (x := w) pl.isList.typeIs slot_list_getitem.lookup
   (wpAny_getItem_list_neg (Q := fun r s' => r = w ∧ EP X pins σ Q r s') pl.isList (by omega) (by rw [List.size_toArray] <;> omega) (by omega) (by rw [hj]; simpa using ew) ⟨rfl, fin⟩) hs
theorem ix_tup : IxR X (rIxT X.K) := by
 intro value slice pins s σ H x y v u Q I rx ry h hs
 obtain ⟨p, xs, i, z, rfl, rfl, hq, he, q⟩ := h
 cases rx
 obtain ⟨t, rfl⟩ := ry
 obtain ⟨its, r, pl, hz⟩ := I.tuple hq
 obtain ⟨j, h1, h2, h3, h4, h5⟩ := atI_get he
 obtain ⟨w, ew, rw'⟩ := r.get h2
 have hl := r.length
 have hn := line63
 have fin : EP X pins σ Q w s := ⟨z, H, I, rw', q⟩
 exact subscriptTail_builtinR (x := w) pl.typeIs slot_tuple_getitem.lookup
  (getItem_tuple (j := j) (Q := fun r s' => r = w ∧ EP X pins σ Q r s') pl (by omega) (by omega) (by rw [List.size_toArray, ← hl]; exact h1) (by simpa using ew) ⟨rfl, fin⟩) hs
theorem ix_str : IxR X rIxS := by
 intro value slice pins s σ H x y v u Q I rx ry h hs
 obtain ⟨z, i, c, rfl, rfl, hz, he, q⟩ := h
 obtain ⟨t, rfl⟩ := rx
 obtain ⟨t', rfl⟩ := ry
 obtain ⟨j, h1, h2, h3, h4, h5⟩ := atI_get he
 have hl : z.cps.toList.length = z.length := by simp [Str.length]
 rw [hl] at h1 h4 h5
 have hn := line63
 exact tail_any (typeIs_str s z t) slot_str_getitem.lookup (getItem_str (c := c) (by
  have e1 : decide (i < -(2 ^ 63 : Int)) = false := decide_eq_false (by omega)
  have e2 : decide (i ≥ 2 ^ 63) = false := decide_eq_false (by omega)
  rw [e1, e2, Bool.or_false]) (by rw [h1]; simpa using h2) ⟨.str ⟨#[c]⟩, H, I.tok _, ⟨_, rfl⟩, q⟩) hs
theorem mapSeq_set (its : List Value) (n j : Nat) (u : Value) : Obj.mapSeq (·.setIfInBounds j u) { cls := .type "list", data := .seq its.toArray n } = { cls := .type "list", data := .seq (its.set j u).toArray n } := by
 simp [Obj.mapSeq]
theorem Inv.lst {pins : List (Addr × Obj)} {σ : St} {H : Hp} {s : Shared} {p : Addr} {xs : List V} (I : Inv X pins σ H s) (h : H p = some (.lst xs)) :
  ∃ (its : List Value) (n : Nat), Vals xs its ∧ s.heap.get? p = some { cls := .type "list", data := .seq its.toArray n } ∧ xs.length ≤ sizeLine := by
 obtain ⟨z, its, n, r, e⟩ := I.hok p _ h
 exact ⟨its, n, r, e, z⟩
theorem Inv.lstUpd {pins : List (Addr × Obj)} {σ : St} {H : Hp} {s : Shared} {p : Addr} {xs ys : List V} {its its' : List Value} {n n' : Nat} {f : Obj → Obj} (I : Inv X pins σ H s) (h : H p = some (.lst xs))
  (ho : s.heap.get? p = some { cls := .type "list", data := .seq its.toArray n }) (hf : f { cls := .type "list", data := .seq its.toArray n } = { cls := .type "list", data := .seq its'.toArray n' }) (r : Vals ys its') (hz : ys.length ≤ sizeLine) (t : Nat) :
  Inv X pins σ (upd H p (.lst ys)) { s with heap := s.heap.update p f, toks := t } := by
 have e : (s.heap.update p f).get? p = some { cls := .type "list", data := .seq its'.toArray n' } := by
  rw [Heap.get?_update_self f ho (by rw [hf] <;> rfl), hf]
 refine I.write (x := p) (e := p) (by rw [h]; trivial) (.inl rfl) (fun b u hb q => (Heap.get?_update_other _ _ (Ne.symm hb)).trans q) ⟨_, e⟩ ?_
 exact ⟨hz, its', n', r, e⟩
def rSetL : V → V → V → Hp → (Hp → Prop) → Prop := fun o i v H Q => ∃ p xs k j, o = .ref p ∧ i = .int k ∧ H p = some (.lst xs) ∧ ixN xs.length k = some j ∧ Q (upd H p (.lst (xs.set j v)))
theorem set_list : PSet X rSetL := by
 intro pins s σ H o i v ov iv u Q I ro ri rv h
 obtain ⟨p, xs, k, j, rfl, rfl, hp, hj, q⟩ := h
 cases ro
 obtain ⟨t, rfl⟩ := ri
 obtain ⟨its, n, r, ho, hz⟩ := I.lst hp
 obtain ⟨h1, h2, h3, h4⟩ := ixN_seq hj
 have hl := r.length
 have hn := line63
 have I' : Inv X pins σ (upd H p (.lst (xs.set j v))) { s with heap := s.heap.update p (Obj.mapSeq (·.setIfInBounds j u)) } :=
  I.lstUpd hp ho (mapSeq_set its n j u) (r.set rv j) (by rw [List.length_set]; exact hz) s.toks
 by_cases h0 : 0 ≤ k
 ·have hk : k.toNat = j := by
   rw [seqIndex_of h0 h4] at h1
   exact Option.some.inj h1
  exact W.ki_setAt ho h0 (by omega) (by rw [List.size_toArray, ← hl]; exact h4) (by rw [hk]; exact ⟨_, I', q⟩)
 ·have hk : (k + (its.toArray.size : Int)).toNat = j := by
   rw [seqIndex_neg (by omega) h3] at h1
   rw [List.size_toArray, ← hl]
   exact Option.some.inj h1
  exact W.ki_setBack ho (by omega) (by rw [List.size_toArray, ← hl]; exact h3) (by omega) (by rw [hk]; exact ⟨_, I', q⟩)
theorem slice_bounds (lo hi : Option Int) (n : Nat) : (sliceBounds lo hi none n).1 = ((HT.sIx n 0 lo : Nat) : Int) ∧ (sliceBounds lo hi none n).2.1 = ((HT.sIx n n hi : Nat) : Int) ∧ (sliceBounds lo hi none n).2.2 = 1 := by
 refine ⟨?_, ?_, rfl⟩
 ·cases lo with
  | none => simp [sliceBounds, HT.sIx]
  | some i =>
   simp only [sliceBounds, HT.sIx, Option.getD_none, show (1 : Int) > 0 by decide, if_true]
   by_cases h : i < 0
   ·simp only [h, if_true] <;> omega
   ·simp only [h, if_false] <;> omega
 ·cases hi with
  | none => simp [sliceBounds, HT.sIx]
  | some i =>
   simp only [sliceBounds, HT.sIx, Option.getD_none, show (1 : Int) > 0 by decide, if_true]
   by_cases h : i < 0
   ·simp only [h, if_true] <;> omega
   ·simp only [h, if_false] <;> omega
theorem slicePick_cut (its : List Value) (lo hi : Option Int) : slicePick its.toArray lo hi none = ((its.drop (HT.sIx its.length 0 lo)).take (HT.sIx its.length its.length hi - HT.sIx its.length 0 lo)).toArray := by
 obtain ⟨h1, h2, h3⟩ := slice_bounds lo hi its.toArray.size
 unfold slicePick
 rw [h1, h2, h3]
 simp only [sliceRange_one, pick_run, List.size_toArray] <;> rfl
def rSlL (K : W.Frag) : V → Option Int → Option Int → Hp → VK → Prop := fun x lo hi H Q => ∃ a xs, x = .ref a ∧ SqL K H a xs ∧ ∀ p, H p = none → Q (.ref p) (upd H p (.lst (cutV xs lo hi)))
theorem sl_list : SlR X (rSlL X.K) := by
 intro pins s σ H x v vl vu lo hi sl Q I rx hs pl pu h
 obtain ⟨a, xs, rfl, hx, q⟩ := h
 cases rx
 obtain ⟨its, r, ht, hz⟩ := I.list hx
 have hlen := r.length
 refine ⟨"list", _, slot_list_getitem.lookup, ht.isList.typeIs, ?_⟩
 refine wpAny_getItem_list_slice ht.isList hs pl pu .none (by simp) ?_ (by rw [List.size_toArray] <;> omega)
 rw [slicePick_cut, ← hlen]
 refine ⟨.ref s.heap.objs.size, _, I.laid (t' := s.toks) (o := .lst (cutV xs lo hi)) (fun b ob q => Heap.get?_push_of_some _ q) (Nat.le_refl _) ?_, rfl, q _ (I.hok.fresh (Nat.le_refl _))⟩
 exact ⟨Nat.le_trans (cutV_length xs lo hi) hz, _, 0, (r.drop (HT.sIx xs.length 0 lo)).take (HT.sIx xs.length xs.length hi - HT.sIx xs.length 0 lo), Heap.get?_push_size _ rfl⟩
def flatV : V → Bool
 | .non => true
 | .bl _ => true
 | .int _ => true
 | .str _ => true
 | _ => false
def eqV : V → V → Bool
 | .non, .non => true
 | .bl a, .bl b => a == b
 | .bl a, .int b => (if a then 1 else 0) == b
 | .int a, .bl b => a == (if b then 1 else 0)
 | .int a, .int b => a == b
 | .str a, .str b => a == b
 | _, _ => false
theorem eqAt_V {A : Around} {s : Shared} {y x : V} {u v : Value} (ry : RelV y u) (rx : RelV x v) (fy : flatV y = true) (fx : flatV x = true) : SeqAt.EqAt A s u v (eqV y x) := by
 cases y with
 | non =>
  cases ry
  cases x with
  | non => cases rx; exact SeqAt.EqAt.same _
  | bl b => cases rx; exact SeqAt.EqAt.none_bool b
  | int b => obtain ⟨t, rfl⟩ := rx; exact SeqAt.EqAt.none_int b t
  | str b => obtain ⟨t, rfl⟩ := rx; exact SeqAt.EqAt.none_str b t
  | _ => exact absurd (show false = true from fx) Bool.false_ne_true
 | bl a =>
  cases ry
  cases x with
  | non => cases rx; exact SeqAt.EqAt.bool_none a
  | bl b => cases rx; exact SeqAt.EqAt.bool_bool a b
  | int b => obtain ⟨t, rfl⟩ := rx; exact SeqAt.EqAt.bool_int a b t
  | str b => obtain ⟨t, rfl⟩ := rx; exact SeqAt.EqAt.bool_str a b t
  | _ => exact absurd (show false = true from fx) Bool.false_ne_true
 | int a =>
  obtain ⟨t', rfl⟩ := ry
  cases x with
  | non => cases rx; exact SeqAt.EqAt.int_none a t'
  | bl b => cases rx; exact SeqAt.EqAt.int_bool a t' b
  | int b => obtain ⟨t, rfl⟩ := rx; exact SeqAt.EqAt.int_int a t' b t
  | str b => obtain ⟨t, rfl⟩ := rx; exact SeqAt.EqAt.int_str a t' b t
  | _ => exact absurd (show false = true from fx) Bool.false_ne_true
 | str a =>
  obtain ⟨t', rfl⟩ := ry
  cases x with
  | non => cases rx; exact SeqAt.EqAt.str_none a t'
  | bl b => cases rx; exact SeqAt.EqAt.str_bool a t' b
  | int b => obtain ⟨t, rfl⟩ := rx; exact SeqAt.EqAt.str_int a t' b t
  | str b => obtain ⟨t, rfl⟩ := rx; exact SeqAt.EqAt.str_str a t' b t
  | _ => exact absurd (show false = true from fx) Bool.false_ne_true
 | _ => exact absurd (show false = true from fy) Bool.false_ne_true
def eqU (x : V) (u : Value) : Bool := match u with
 | .none => eqV .non x
 | .bool b => eqV (.bl b) x
 | .int i _ => eqV (.int i) x
 | .str z _ => eqV (.str z) x
 | _ => false
theorem eqU_of {x y : V} {u : Value} (r : RelV y u) (f : flatV y = true) : eqU x u = eqV y x := by
 cases y with
 | non => cases r; rfl
 | bl b => cases r; rfl
 | int i => obtain ⟨t, rfl⟩ := r; rfl
 | str z => obtain ⟨t, rfl⟩ := r; rfl
 | _ => exact absurd (show false = true from f) Bool.false_ne_true
theorem any_eqU {x : V} : ∀ {xs : List V} {us : List Value}, Vals xs us → xs.all flatV = true → us.any (eqU x) = xs.any fun y => eqV y x
 | _, _, .nil, _ => rfl
 | y :: xs, u :: us, .cons r t, f => by
  rw [List.all_cons, Bool.and_eq_true] at f
  rw [List.any_cons, List.any_cons, eqU_of r f.1, any_eqU t f.2]
theorem mem_eqAt {A : Around} {s : Shared} {x : V} {v : Value} (rx : RelV x v) (fx : flatV x = true) : ∀ {xs : List V} {us : List Value}, Vals xs us → xs.all flatV = true → ∀ u ∈ us, SeqAt.EqAt A s u v (eqU x u)
 | _, _, .nil, _ => fun u hu => by cases hu
 | y :: xs, u :: us, .cons r t, f => fun u' hu => by
  rw [List.all_cons, Bool.and_eq_true] at f
  rcases List.mem_cons.mp hu with rfl | hu
  ·rw [eqU_of r f.1]; exact eqAt_V r rx f.1 fx
  ·exact mem_eqAt rx fx t f.2 u' hu
def inV (x : V) (xs : List V) : Bool := xs.any fun y => eqV y x
def rIn (K : W.Frag) (neg : Bool) : R2 := fun x y H Q => ∃ p xs, y = .ref p ∧ (SqL K H p xs ∨ SqT K H p xs) ∧ flatV x = true ∧ xs.all flatV = true ∧ Q (.bl (if neg then !inV x xs else inV x xs)) H
theorem op_in_seq : OpR X (compareOp .In) (rIn X.K false) := by
 intro pins s σ H x y v u Q I rx ry h
 obtain ⟨p, xs, rfl, hq, fx, fs, q⟩ := h
 cases ry
 rcases hq with hq | hq
 ·obtain ⟨its, r, pl, hz⟩ := I.list hq
  refine SeqAt.in_listAt (eqU x) pl.isList (fun w hw => mem_eqAt rx fx r fs w (by simpa using hw)) ⟨.bl _, H, I, rfl, ?_⟩
  rw [show its.toArray.any (eqU x) = its.any (eqU x) by simp, any_eqU r fs]
  exact q
 ·obtain ⟨its, r, pl, hz⟩ := I.tuple hq
  refine SeqAt.in_tupleAt (eqU x) pl (fun w hw => mem_eqAt rx fx r fs w (by simpa using hw)) ⟨.bl _, H, I, rfl, ?_⟩
  rw [show its.toArray.any (eqU x) = its.any (eqU x) by simp, any_eqU r fs]
  exact q
theorem op_notIn_seq : OpR X (compareOp .NotIn) (rIn X.K true) := by
 intro pins s σ H x y v u Q I rx ry h
 obtain ⟨p, xs, rfl, hq, fx, fs, q⟩ := h
 cases ry
 rcases hq with hq | hq
 ·obtain ⟨its, r, pl, hz⟩ := I.list hq
  refine SeqAt.notIn_listAt (eqU x) pl.isList (fun w hw => mem_eqAt rx fx r fs w (by simpa using hw)) ⟨.bl _, H, I, rfl, ?_⟩
  rw [show its.toArray.any (eqU x) = its.any (eqU x) by simp, any_eqU r fs]
  exact q
 ·obtain ⟨its, r, pl, hz⟩ := I.tuple hq
  refine SeqAt.notIn_tupleAt (eqU x) pl (fun w hw => mem_eqAt rx fx r fs w (by simpa using hw)) ⟨.bl _, H, I, rfl, ?_⟩
  rw [show its.toArray.any (eqU x) = its.any (eqU x) by simp, any_eqU r fs]
  exact q
theorem call_len_seq : CallR X (.builtin "len") (fun xs H Q => ∃ p ys, xs = [.ref p] ∧ (SqL X.K H p ys ∨ SqT X.K H p ys) ∧ Q (.int ys.length) H) := by
 intro pins s σ H xs us Q I r h
 obtain ⟨p, ys, rfl, hq, q⟩ := h
 obtain ⟨u, rfl, rx⟩ := vals1 r
 cases rx
 have hn := line63
 rcases hq with hq | hq
 ·obtain ⟨its, r', pl, hz⟩ := I.list hq
  have hlen := r'.length
  exact Calls.call_len_list pl.isList (by simp only [List.size_toArray] <;> omega) ⟨.int ys.length, H, I.tok _, ⟨s.toks + 1, by rw [List.size_toArray, hlen]⟩, q⟩
 ·obtain ⟨its, r', pl, hz⟩ := I.tuple hq
  have hlen := r'.length
  exact len_tuple pl (by simp only [List.size_toArray] <;> omega) ⟨.int ys.length, H, I.tok _, ⟨s.toks + 1, by rw [List.size_toArray, hlen]⟩, q⟩
theorem call_len_str : CallR X (.builtin "len") (fun xs H Q => ∃ z, xs = [.str z] ∧ z.length ≤ sizeLine ∧ Q (.int z.length) H) := by
 intro pins s σ H xs us Q I r h
 obtain ⟨z, rfl, hz, q⟩ := h
 obtain ⟨u, rfl, t, rfl⟩ := vals1 r
 have hn := line63
 exact len_str (by omega) ⟨.int z.length, H, I.tok _, ⟨_, rfl⟩, q⟩
theorem call_list_of : CallR X (.type "list") (fun xs H Q => ∃ p ys, xs = [.ref p] ∧ (SqL X.K H p ys ∨ SqT X.K H p ys) ∧ ∀ l, H l = none → Q (.ref l) (upd H l (.lst ys))) := by
 intro pins s σ H xs us Q I r h
 obtain ⟨p, ys, rfl, hq, q⟩ := h
 obtain ⟨u, rfl, rx⟩ := vals1 r
 cases rx
 have fin : ∀ (its : List Value), Vals ys its → ys.length ≤ sizeLine → ∀ (h' : Heap) (c' : Nat), (∀ b o', s.heap.get? b = some o' → h'.get? b = some o') →
   h'.get? s.heap.objs.size = some { cls := .type "list", dict := none, data := .seq its.toArray c', slots := #[] } → EP X pins σ Q (.ref s.heap.objs.size) { s with heap := h' } := fun its r' hz h' c' kp e =>
  ⟨.ref s.heap.objs.size, _, I.laid (t' := s.toks) kp (Nat.le_refl _) (show ObjOk X.prog X.w _ h' _ (.lst ys) from ⟨hz, its, c', r', e⟩), rfl, q _ (I.hok.fresh (Nat.le_refl _))⟩
 rcases hq with hq | hq
 ·obtain ⟨its, r', pl, hz⟩ := I.list hq
  have hlen := r'.length
  obtain ⟨o, ho, hc, n, hd⟩ := pl.isList
  exact call_list_seq p (.inl rfl) ho hc hd (fun h' c' kp e => fin its r' hz h' c' kp e) (by simp only [List.size_toArray] <;> omega)
 ·obtain ⟨its, r', pl, hz⟩ := I.tuple hq
  have hlen := r'.length
  obtain ⟨o, ho, hc, n, hd⟩ := pl
  exact call_list_seq p (.inr rfl) ho hc hd (fun h' c' kp e => fin its r' hz h' c' kp e) (by simp only [List.size_toArray] <;> omega)
def tyV (K : W.Frag) (T : String) (x : V) (H : Hp) : Prop := match x with
 | .str _ => T = "str"
 | .int _ => T = "int"
 | .ref p => (T = "list" ∧ ∃ xs, SqL K H p xs) ∨ (T = "tuple" ∧ ∃ o, K.lookup p = some o ∧ o.cls = .type "tuple" ∧ o.dict = none) ∨
   (T = "dict" ∧ ((∃ kvs, H p = some (.dK kvs)) ∨ ∃ kvs, H p = some (.dT kvs))) ∨ (T = "set" ∧ ∃ S n, H p = some (.set S n))
 | _ => False
theorem tyV_is {pins : List (Addr × Obj)} {σ : St} {H : Hp} {s : Shared} {T : String} {x : V} {v : Value} (I : Inv X pins σ H s) (r : RelV x v) (ty : tyV X.K T x H) :
  s.TypeIs v T ∧ ∀ a, v = .ref a → ∃ ob, s.heap.get? a = some ob ∧ ob.dict = none := by
 cases x with
 | str z =>
  obtain ⟨t, rfl⟩ := r
  cases (show T = "str" from ty)
  exact ⟨typeIs_str s z t, fun _ e => nomatch e⟩
 | int i =>
  obtain ⟨t, rfl⟩ := r
  cases (show T = "int" from ty)
  exact ⟨typeIs_int s i t, fun _ e => nomatch e⟩
 | ref p =>
  cases r
  rcases ty with ⟨rfl, xs, hq⟩ | ⟨rfl, o, hk, hc, hd⟩ | ⟨rfl, hk⟩ | ⟨rfl, S, n, hk⟩
  ·obtain ⟨its, _, pl, _⟩ := I.list hq
   refine ⟨pl.isList.typeIs, fun a e => ?_⟩
   cases e
   obtain ⟨o, n, e, c, hd, _⟩ := pl
   exact ⟨o, e, hd⟩
  ·refine ⟨⟨o, I.kIn p o hk, hc⟩, fun a e => ?_⟩
   cases e
   exact ⟨o, I.kIn _ o hk, hd⟩
  ·have z : ∃ o, s.heap.get? p = some o ∧ o.ExactDict := by
    rcases hk with ⟨kvs, hk⟩ | ⟨kvs, hk⟩
    ·obtain ⟨_, _, _, _, o, _, _, e, ex, _⟩ := I.hok p _ hk
     exact ⟨o, e, ex⟩
    ·obtain ⟨_, _, _, _, o, _, _, e, ex, _⟩ := I.hok p _ hk
     exact ⟨o, e, ex⟩
   obtain ⟨o, e, ex⟩ := z
   refine ⟨⟨o, e, ex.1⟩, fun a e2 => ?_⟩
   cases e2
   exact ⟨o, e, ex.2.1⟩
  ·obtain ⟨o, _, _, _, e, ex, _⟩ := I.hok p _ hk
   refine ⟨⟨o, e, ex.1⟩, fun a e2 => ?_⟩
   cases e2
   exact ⟨o, e, ex.2.1⟩
 | _ => exact False.elim ty
def tBM0 (K : W.Frag) (T : String) (r : V → List V → Hp → VK → Prop) (to : TE) : TE := fun σ H Q => to σ H fun x H1 => tyV K T x H1 ∧ r x [] H1 Q
def tBM (K : W.Frag) (T : String) (r : V → List V → Hp → VK → Prop) (to : TE) (t : TA) : TE := fun σ H Q => to σ H fun x H1 => tyV K T x H1 ∧ t σ H1 fun xs H2 => r x xs H2 Q
variable {o e : Expr} {es : List Expr} {to : TE} {t : TA} {name : Str} {apos cpos : Pos} {T id : String} {r : V → List V → Hp → VK → Prop}
theorem pe_bm0 (pa : PlainAttrs T) (slot : Slot T name id) (hty : typeOf (.builtin id) = pure (.type "method_descriptor")) (hm : MtR X id r) (ho : PE X o to)
  (hbase : attributeBase o name X.env (eval o X.env) = eval o X.env := by rfl) (hline : (apos.endLine == cpos.line) = true := by rfl) : PE X (.Call (.Attribute o name apos) [] [] cpos) (tBM0 X.K T r to) := by
 intro pins s σ H Q I h
 refine wpAny_Call_method0_late hbase hline (thn (ho pins s σ H _ I h) fun v s1 ⟨x, H1, I1, r1, ty, q1⟩ => ?_)
 obtain ⟨h1, h2⟩ := tyV_is I1 r1 ty
 exact ⟨T, id, pa, slot, hty, h1, h2, Calls.callWith_builtin rfl (PySem.evalArgs_none (hm pins s1 σ H1 x [] v [] Q I1 r1 .nil q1))⟩
theorem pe_bm (pa : PlainAttrs T) (slot : Slot T name id) (hty : typeOf (.builtin id) = pure (.type "method_descriptor")) (hm : MtR X id r) (ho : PE X o to) (ha : PA X (e :: es) t)
  (hbase : attributeBase o name X.env (eval o X.env) = eval o X.env := by rfl)
  (hfew : ((backTo cpos (starEach (e :: es) X.env)).all (fun x => !x.1) && (backToKw cpos (keywordEach [] X.env)).all (fun x => x.1.isSome)
   && decide ((e :: es).length + ([] : List Keyword).length + (if ([] : List Keyword).isEmpty then 0 else 1) < 30)) = true := by rfl)
  (hline : (apos.endLine == cpos.line) = true := by rfl) (hs : starEach (e :: es) X.env = (false, eval e X.env) :: starEach es X.env := by rfl) (hplain : (backTo cpos (starEach es X.env)).any (·.1) = false := by rfl) :
  PE X (.Call (.Attribute o name apos) (e :: es) [] cpos) (tBM X.K T r to t) := by
 intro pins s σ H Q I h
 refine wpAny_Call_method_late hbase hfew hline rfl (thn (ho pins s σ H _ I h) fun v s1 ⟨x, H1, I1, r1, ty, q1⟩ => ?_)
 obtain ⟨h1, h2⟩ := tyV_is I1 r1 ty
 refine ⟨T, id, pa, slot, hty, h1, h2, ?_⟩
 have hA := ha cpos pins s1 σ H1 _ I1 q1
 rw [hs] at hA ⊢
 refine Calls.callWith_builtin (by show (false || (backTo cpos (starEach es X.env)).any (·.1)) = false; rw [hplain] <;> rfl) (Calls.evalArgs_plain ?_)
 exact thn hA fun us s2 ⟨vs, H2, I2, r2, q2⟩ => hm pins s2 σ H2 x vs v us Q I2 r1 r2 q2
end
end L2
namespace L2
open PySem PySem.Spec PyProof.Rows
def MtM (X : Cx) (id : String) (r : V → List V → Hp → VK → Prop) : Prop :=
 ∀ (pins : List (Addr × Obj)) (s : Shared) (σ : St) (H : Hp) (x : V) (xs : List V) (v : Value) (us : List Value) (Q : VK), Inv X pins σ H s → RelV x v → Vals xs us → r x xs H Q →
  wpAny (model X.prog X.w) X.A (call (.builtin id) (v :: us)) (EP X pins σ Q) X.xe s
theorem Vals.one : ∀ {x : V} {us : List Value}, Vals [x] us → ∃ u, us = [u] ∧ RelV x u
 | _, _, .cons r .nil => ⟨_, rfl, r⟩
theorem Vals.two : ∀ {x y : V} {us : List Value}, Vals [x, y] us → ∃ u v, us = [u, v] ∧ RelV x u ∧ RelV y v
 | _, _, _, .cons r (.cons q .nil) => ⟨_, _, rfl, r, q⟩
theorem Vals.zero : ∀ {us : List Value}, Vals [] us → us = []
 | _, .nil => rfl
theorem Vals.eraseIdx : ∀ {xs : List V} {us : List Value} (i : Nat), Vals xs us → Vals (xs.eraseIdx i) (us.eraseIdx i)
 | _, _, _, .nil => .nil
 | _, _, 0, .cons _ t => t
 | _, _, i + 1, .cons r t => .cons r (Vals.eraseIdx i t)
theorem len_erase {α : Type} : ∀ (l : List α) (i : Nat), (l.eraseIdx i).length ≤ l.length
 | [], _ => Nat.le_refl _
 | _ :: _, 0 => Nat.le_succ _
 | _ :: r, i + 1 => Nat.succ_le_succ (len_erase r i)
section
variable {X : Cx} {pins : List (Addr × Obj)} {σ : St} {H : Hp} {s : Shared} {l b : Addr} {xs ys zs : List V}
theorem Inv.lset {its its' : List Value} {n : Nat} {f : Array Value → Array Value} {t' : Nat} (I : Inv X pins σ H s) (hH : H l = some (.lst xs))
  (e : s.heap.get? l = some { cls := .type "list", data := .seq its.toArray n }) (hf : f its.toArray = its'.toArray) (hv : Vals ys its') (hz : ys.length ≤ sizeLine) :
  Inv X pins σ (upd H l (.lst ys)) { s with heap := s.heap.update l (Obj.mapSeq f), toks := t' } := by
 have q := PySem.IsL.update e f
 rw [hf] at q
 refine I.write (x := l) (e := l) (by rw [hH]; exact trivial) (.inl rfl) (fun b' u hb hu => (Heap.get?_update_other s.heap (Obj.mapSeq f) (Ne.symm hb)).trans hu) ⟨_, q⟩ ?_
 exact ⟨hz, its', _, hv, q⟩
theorem Inv.lnew {its : List Value} {t' : Nat} (I : Inv X pins σ H s) (hv : Vals ys its) (hz : ys.length ≤ sizeLine) :
  Inv X pins σ (upd H s.heap.objs.size (.lst ys)) { s with heap := s.heap.push { cls := .type "list", data := .seq its.toArray }, toks := t' } :=
 I.laid (fun _ _ q => Heap.get?_push_of_some _ q) (Nat.le_refl _) ⟨hz, its, 0, hv, Heap.get?_push_size _ rfl⟩
theorem Inv.fresh (I : Inv X pins σ H s) : H s.heap.objs.size = none := I.hok.fresh (Nat.le_refl _)
theorem Inv.lstM (I : Inv X pins σ H s) (hH : H l = some (.lst xs)) : xs.length ≤ sizeLine ∧ ∃ (its : List Value) (n : Nat), Vals xs its ∧ xs.length = its.length ∧ s.heap.get? l = some { cls := .type "list", data := .seq its.toArray n } := by
 obtain ⟨z, its, n, r, e⟩ := I.hok l _ hH
 exact ⟨z, its, n, r, r.length, e⟩
end
section
variable {X : Cx}
def rAppend : V → List V → Hp → VK → Prop := fun x vs H Q => ∃ l xs y, x = .ref l ∧ vs = [y] ∧ H l = some (.lst xs) ∧ xs.length < sizeLine ∧ Q .non (upd H l (.lst (xs ++ [y])))
theorem mt_append : MtM X "list.append" rAppend := by
 intro pins s σ H x vs v us Q I rx rv h
 obtain ⟨l, xs, y, rfl, rfl, hH, hz, q⟩ := h
 cases rx
 obtain ⟨u, rfl, ru⟩ := rv.one
 obtain ⟨z, its, n, r, hl, e⟩ := I.lstM hH
 refine call_meets F.slot_list_append ⟨_, e, rfl⟩ F.entry_list_append (F.args_list_append_2 _ _) (PySem.list_append l its.toArray n u (by rw [List.size_toArray]; omega)) ⟨e, ?_⟩
 refine ⟨.non, _, I.lset (its' := its ++ [u]) hH e (by simp) (r.append (.cons ru .nil)) ?_, rfl, q⟩
 rw [List.length_append, List.length_singleton]
 omega
def rPopAt : V → List V → Hp → VK → Prop := fun x vs H Q => ∃ l xs i k y, x = .ref l ∧ vs = [.int i] ∧ H l = some (.lst xs) ∧ -(2 ^ 63) ≤ i ∧ i < 2 ^ 63 ∧ seqIndex? i xs.length = some k ∧ xs[k]? = some y ∧ Q y (upd H l (.lst (xs.eraseIdx k)))
theorem mt_popAt : MtM X "list.pop" rPopAt := by
 intro pins s σ H x vs v us Q I rx rv h
 obtain ⟨l, xs, i, k, y, rfl, rfl, hH, h1, h2, hk, hy, q⟩ := h
 cases rx
 obtain ⟨u, rfl, ru⟩ := rv.one
 obtain ⟨t, rfl⟩ := ru
 obtain ⟨z, its, n, r, hl, e⟩ := I.lstM hH
 obtain ⟨w, hw, rw'⟩ := r.get hy
 refine call_meets F.slot_list_pop ⟨_, e, rfl⟩ F.entry_list_pop (F.args_list_pop_2 _ _)
  (MeetsSeq.list_pop_at l its.toArray n i t k w (fitsIndex_both h1 h2) (by rw [List.size_toArray, ← hl]; exact hk) (by rw [← Array.getElem?_toList]; exact hw) (by rw [List.size_toArray]; omega)) ⟨e, ?_⟩
 refine ⟨y, _, I.lset (its' := its.eraseIdx k) hH e ?_ (r.eraseIdx k) ?_, rw', q⟩
 ·show its.toArray.eraseIdxIfInBounds k = (its.eraseIdx k).toArray
  rw [List.eraseIdxIfInBounds_toArray]
 ·have := len_erase xs k
  omega
def rClear : V → List V → Hp → VK → Prop := fun x vs H Q => ∃ l xs, x = .ref l ∧ vs = [] ∧ H l = some (.lst xs) ∧ Q .non (upd H l (.lst []))
theorem mt_clear : MtM X "list.clear" rClear := by
 intro pins s σ H x vs v us Q I rx rv h
 obtain ⟨l, xs, rfl, rfl, hH, q⟩ := h
 cases rx
 have hus := rv.zero
 subst hus
 obtain ⟨z, its, n, r, hl, e⟩ := I.lstM hH
 refine call_meets F.slot_list_clear ⟨_, e, rfl⟩ F.entry_list_clear (F.args_list_clear_1 _) (AutoSeq1.list_clear_list_0 l its.toArray n (by rw [List.size_toArray]; omega)) ⟨e, ?_⟩
 exact ⟨.non, _, I.lset (its' := []) (ys := []) hH e rfl .nil (Nat.zero_le _), rfl, q⟩
def rCat : R2 := fun x y H Q => ∃ l b xs zs, x = .ref l ∧ y = .ref b ∧ H l = some (.lst xs) ∧ H b = some (.lst zs) ∧ xs.length + zs.length ≤ sizeLine ∧ ∀ p, H p = none → Q (.ref p) (upd H p (.lst (xs ++ zs)))
theorem op_cat : OpR X (binaryOp .Add) rCat := by
 intro pins s σ H x y v u Q I rx ry h
 obtain ⟨l, b, xs, zs, rfl, rfl, hH, hB, hz, q⟩ := h
 cases rx
 cases ry
 obtain ⟨z, its, n, r, hl, e⟩ := I.lstM hH
 obtain ⟨z2, its2, n2, r2, hl2, e2⟩ := I.lstM hB
 refine PySem.P.add_list e e2 ?_ (by rw [List.size_toArray, List.size_toArray]; omega)
 have ea : its.toArray ++ its2.toArray = (its ++ its2).toArray := by simp
 rw [ea]
 exact ⟨.ref _, _, I.lnew (t' := s.toks) (r.append r2) (by rw [List.length_append]; omega), rfl, q _ I.fresh⟩
end
section
variable {prog : Program} {w : World} {A : Around} {E : Value → Shared → Prop} {s : Shared}
set_option maxRecDepth 100000 in
end
section
variable {X : Cx}
end
end L2
namespace Att
open PySem PySem.W PySem.Calls PyProof.Rows
theorem ints_of_wellAll {P : Params} {h : Heap} : ∀ (ns : List Int) (vs : List Value), WellAll P h vs (ns.map WData.int) → IntsAre vs ns := by
 intro ns
 induction ns with
 | nil =>
  intro vs w
  rw [List.map_nil] at w
  cases w
  exact .nil
 | cons n ns ih =>
  intro vs w
  rw [List.map_cons] at w
  cases w with
  | cons a b =>
   cases a
   exact .cons _ _ (ih _ b)
theorem script_of {l : OpenLaw} {n : Nat} (hn : l.most = some n) {P : Params} {h : Heap} {args : List WData} {vals : List Value}
  (hpre : l.row.toRowW.claim.pre args = true) (hwl : WellAll P h vals args) :
  ∃ a vs ns, vals = [Value.ref a] ∧ args = [WData.list (ns.map WData.int)] ∧ h.get? a = some { cls := .type "list", data := .seq vs.toArray } ∧ IntsAre vs ns ∧ ns.length ≤ n := by
 have hsh : WShape.hasAll [] args [.list .int] = true := (pre_splitW hpre).1
 have hc : l.pre.holds [] { args := args } = true := (pre_splitW hpre).2
 obtain ⟨d, r, rfl, h1, h2⟩ := hasAllW_cons hsh
 obtain rfl := hasAllW_nil h2
 obtain ⟨xs, rfl, h3⟩ := hasW_list h1
 obtain ⟨ns, rfl⟩ := items_int h3
 have hlen : ns.length ≤ n := by
  unfold OpenLaw.pre at hc
  have h4 : (WTm.not (.lt (.lit (.int (n : Int))) (.len (.arg 0)))).holds [] { args := [.list (ns.map .int)] } = true := by
   have h4 := (holds_andW hc).1
   rw [hn] at h4
   exact h4
  have h5 := condW_of h4 (w_not (w_lt w_lit (w_len_list (w_arg rfl))))
  rw [List.length_map] at h5
  refine Nat.le_of_not_lt fun q => ?_
  have q' : (n : Int) < ((ns.length : Nat) : Int) := by omega
  first
   | (rw [decide_eq_true q'] at h5; exact absurd h5 (by decide))
   | (simp at h5; omega)
 cases hwl with
 | cons w1 w2 =>
  cases w2
  cases w1 with
  | list ho hall => exact ⟨_, _, ns, rfl, rfl, ho, ints_of_wellAll ns _ hall, hlen⟩
theorem post_true (l : OpenLaw) (args : List WData) : l.row.toRowW.claim.post args (.bool true) args = true :=
 postW_of (r := l.row.toRowW) (X := (true == true))
  (show WShape.has [] (.bool true) .bool = true by first | rfl | decide | simp [WShape.has, WShape.arms, WShape.armsAll])
  (show (WTm.eq .res (.lit (.bool true))).value [] { args := args, res := some (.bool true), after := args } = some (.bool (true == true)) from w_eq_bool (w_res rfl) w_lit) rfl
theorem attach_call {l : OpenLaw} {n : Nat} {q : Program} {loose : List Str} {XP : (Str → Option Value) → Heap → Prop} {YP : World → Heap → Prop} {d : DefRec}
  (hn : l.most = some n) (hdf : d.params.defaults = [])
  (call : ∀ (w : World) (s₀ s₁ : Shared) (mg mb : Str → Option Value) (fa : Addr) (o : Obj) (pm cd doc : Value) (a : Addr) (vs : List Value) (ns : List Int),
   Ground q loose [] XP w s₀ mg mb s₁.heap → YP w s₁.heap →
   s₁.heap.get? fa = some o → o.data = .func (docDef d.name d.params d.body d.scope pm cd doc) → s₁.heap.CodeRec cd d.name → mg d.name = some (.ref fa) →
   s₁.heap.get? a = some { cls := .type "list", data := .seq vs.toArray } → IntsAre vs ns → ns.length ≤ n → s₁.gens = #[] →
   codeAny (model l.prog w) callerA (.call (.ref fa) ⟨[.ref a], []⟩) (fun r s' => r = .ok (.ret (.bool true)) ∧ OldK s₁.heap s'.heap ∧ s'.os = s₁.os ∧ AllBare s'.gens) s₁) :
  WalkO q loose XP YP l.row.toRowW d [] (fun f vs => PySem.call f vs) := by
 intro w s₀ s₁ mg mb G Y fa o pm cd doc dV kV ho hd hcd hD hmg hg args vals as hpre hlay hrd hwl hlo
 obtain rfl : dV = .none := Dflts.none hD hdf
 obtain rfl : kV = .none := Dflts.noKw hD
 obtain ⟨a, vs, ns, rfl, rfl, hobj, hints, hlen⟩ := script_of hn hpre hwl
 refine enter_call (codeAny_mono (call w s₀ s₁ mg mb fa o pm cd doc a vs ns G Y ho (fd_plain hd) hcd hmg hobj hints hlen hg) fun r s' hq => ?_)
 obtain ⟨rfl, h2, h3, h4⟩ := hq
 exact ⟨.inl ⟨.bool true, .bool true, [], rfl, fun _ => rfl, .bool true, post_true l _, fun _ => ⟨List.Pairwise.nil, fun _ hm => (nomatch hm)⟩⟩, h2, h3, h4⟩
section
variable {prog : Program} {w : World} {A : Around} {E : Value → Shared → Prop} {s : Shared} {K : Frag}
end
end Att
namespace L2
open PySem PySem.Spec PyProof.Rows
theorem vals_ints : ∀ {vs : List Value} {ns : List Int}, IntsAre vs ns → Vals (ns.map V.int) vs
 | _, _, .nil => .nil
 | _, _, .cons n t h => .cons ⟨t, rfl⟩ (vals_ints h)
def Only (H : Hp) : Prop := ∀ b, H b = none ∨ ∃ o xs, H b = some (.frz o (.lst xs))
theorem law_call {P : Program} {w : World} {K : W.Frag} {mg mb : Str → Option Value} {CX : CXT} {k : Nat} {fa a : Addr} {fd : FuncData} {x : Str} {sp : Sp} {s₁ : Shared} {vs : List Value} {ns : List Int}
  (KX : K.In s₁.heap) (hns : s₁.heap.Ns mainGlobals mg) (hb : s₁.heap.Ns builtinsNs mb) (hbb : ∀ x : Str, x ≠ "__name__" → mb x = bootBuiltins x) (hlim : s₁.heap.NoLimit) (hg : s₁.gens = #[])
  (ha : s₁.heap.get? a = some { cls := .type "list", data := .seq vs.toArray }) (hi : IntsAre vs ns) (hl : ns.length ≤ sizeLine) (hr : Room k callerA)
  (F : ∀ base : Heap, K.In base → base.Ns mainGlobals mg → FnOk P w K mg base CX k fa fd [x] sp) (hbind : ∀ (s : Shared) (u : Value), BindsTo s fd ⟨[u], []⟩ [(x, u)])
  (hsp : ∀ H : Hp, Only H → SqL K H a (ns.map V.int) → sp [.ref a] H (fun v _ => v = .bl true) fun _ _ _ => False)
  (hCX : ∀ H e s', CX [] H s₁ (fun _ _ _ => False) e s' → False) :
  codeAny (model P w) callerA (.call (.ref fa) ⟨[.ref a], []⟩) (fun r s' => r = .ok (.ret (.bool true)) ∧ OldK s₁.heap s'.heap ∧ s'.os = s₁.os ∧ AllBare s'.gens) s₁ := by
 have rv := vals_ints hi
 have lenV := hi.length
 -- from an abstract heap in which nothing but the script may be tracked
 have core : ∀ H : Hp, Only H → SqL K H a (ns.map V.int) → HOk P w H s₁.heap → (∀ b, H b ≠ none → b = a) → (H a ≠ none → K.lookup a = none) →
   codeAny (model P w) callerA (.call (.ref fa) ⟨[.ref a], []⟩) (fun r s' => r = .ok (.ret (.bool true)) ∧ OldK s₁.heap s'.heap ∧ s'.os = s₁.os ∧ AllBare s'.gens) s₁ := by
  intro H hO hS hok hA hK
  have base_of : ∀ {b : Addr} {o : Obj}, s₁.heap.get? b = some o → H b = none → (hidT s₁.heap H).get? b = some o := fun e n => hidT_get e n
  have noA : ∀ {b : Addr} {o : Obj} {es : Array DictEntry} {ep : Nat}, s₁.heap.get? b = some o → o.data = .dict es ep → H b = none := fun {b o es ep} e d => by
   cases q : H b with
   | none => rfl
   | some u =>
    have e' : b = a := hA b (by rw [q]; simp)
    subst e'
    rw [ha] at e; cases e
    have d' : Data.seq vs.toArray _ = Data.dict es ep := d
    cases d'
  have nsK : ∀ {b : Addr} {m : Str → Option Value}, s₁.heap.Ns b m → (hidT s₁.heap H).Ns b m := fun {b m} ⟨o, es, ep, e, d, r⟩ => ⟨o, es, ep, base_of e (noA e d), d, r⟩
  have hKb : K.In (hidT s₁.heap H) := fun b o e => base_of (KX b o e) (by
   cases q : H b with
   | none => rfl
   | some u =>
    have e' : b = a := hA b (by rw [q]; simp)
    subst e'
    rw [hK (by rw [q]; simp)] at e; cases e)
  have hM : Mod K mg (hidT s₁.heap H) := ⟨hKb, nsK hns, ⟨mb, nsK hb, hbb⟩, let ⟨mc, h1, h2⟩ := hlim; ⟨mc, nsK h1, h2⟩⟩
  have e0 : Env0 P w K mg (hidT s₁.heap H) callerA [] s₁ H := ⟨rfl, hM, fun b o e => of_hidT e, Nat.le_of_eq (hidT_size _ _), trivial, fun b hb => absurd (show b ∈ ([] : List Addr) from hb) (by simp), hok, .of_eq hg⟩
  refine codeAny_mono ((F _ hKb (nsK hns)).run callerA [] s₁ H ⟨[.ref a], []⟩ [.ref a] [.ref a] _ _ hr e0 (hbind s₁ (.ref a)) (.cons rfl .nil) (hsp H hO hS)) fun r s' h => ?_
  cases r with
  | error e => exact (hCX H e s' h).elim
  | ok fl =>
   cases fl with
   | next => exact False.elim h
   | brk => exact False.elim h
   | cont => exact False.elim h
   | ret u =>
    obtain ⟨v, H', os, bare, un, hok', r', q⟩ := h
    have q' : v = .bl true := q
    subst q'
    obtain rfl : u = Value.bool true := r'
    refine ⟨rfl, OldK.of_keep fun b o e => ?_, os, bare⟩
    cases q : H b with
    | none => exact un.keep b o e q (by intro z; exact absurd (show b ∈ ([] : List Addr) from z) (by simp)) (by simp)
    | some u =>
     rcases hO b with z | ⟨ob, xs, z⟩
     ·rw [q] at z; cases z
     ·have z2 := un.frzs b ob _ z
      obtain ⟨e1, _⟩ := hok b _ z
      obtain ⟨e2, _⟩ := hok' b _ z2
      rw [e] at e1; cases e1
      exact e2
 cases hk : K.lookup a with
 | some o =>
  -- the script is one of the module's own objects
  have e := KX a o hk
  rw [ha] at e
  cases e
  refine core (fun _ => none) (fun _ => .inl rfl) (.inr ⟨_, vs.toArray, _, hk, rfl, rfl, rfl, by rw [List.size_toArray, lenV]; exact hl, by simpa using rv⟩) (fun b u z => by have z' : (none : Option HO) = some u := z; cases z') (fun b z => absurd rfl z) fun z => absurd rfl z
 | none =>
  refine core (fun b => if b = a then some (.frz { cls := .type "list", data := .seq vs.toArray } (.lst (ns.map V.int))) else none) (fun b => ?_) (.inl (.inr ⟨{ cls := .type "list", data := .seq vs.toArray }, if_pos rfl⟩)) (fun b u z => ?_) (fun b z => ?_) fun _ => hk
  ·by_cases hb : b = a
   ·exact .inr ⟨_, _, if_pos hb⟩
   ·exact .inl (if_neg hb)
  ·by_cases hb : b = a
   ·have z' := (if_pos hb).symm.trans z
    cases z'
    subst hb
    exact ⟨ha, by rw [List.length_map]; exact hl, vs, _, rv, ha⟩
   ·have z' := (if_neg hb).symm.trans z
    cases z'
  ·by_cases hb : b = a
   ·exact hb
   ·exact absurd (if_neg hb) z
end L2
namespace L2
open PySem PySem.Spec PyProof.Rows
theorem walk_of {l : W.OpenLaw} {n k : Nat} {q : Program} {loose : List Str} {XP : (Str → Option Value) → Heap → Prop} {YP : World → Heap → Prop} {d : DefRec} {K : Params → W.Frag} {CX : World → CXT} {sp : World → Sp} {x : Str}
  (hn : l.most = some n) (hn2 : n ≤ sizeLine) (hdf : d.params.defaults = []) (hr : Room k callerA)
  (hY : ∀ (w : World) (h : Heap), YP w h → (K w.params).In h)
  (F : ∀ (w : World) (mg : Str → Option Value) (fa : Addr) (h : Heap), (K w.params).In h → h.Ns mainGlobals mg → mg d.name = some (.ref fa) →
   ∃ fd : FuncData, (∀ (s : Shared) (u : Value), BindsTo s fd ⟨[u], []⟩ [(x, u)]) ∧
    ∀ base : Heap, (K w.params).In base → base.Ns mainGlobals mg → FnOk l.prog w (K w.params) mg base (CX w) k fa fd [x] (sp w))
  (hsp : ∀ (w : World) (H : Hp) (a : Addr) (ns : List Int), ns.length ≤ n → Only H → SqL (K w.params) H a (ns.map V.int) → sp w [.ref a] H (fun v _ => v = .bl true) fun _ _ _ => False)
  (hCX : ∀ (w : World) (H : Hp) (s : Shared) (e : Value) (s' : Shared), CX w [] H s (fun _ _ _ => False) e s' → False) :
  W.WalkO q loose XP YP l.row.toRowW d [] (fun f vs => PySem.call f vs) := by
 refine Att.attach_call hn hdf fun w s₀ s₁ mg mb fa o pm cd doc a vs ns G Y ho hd hcd hmg hobj hints hlen hg => ?_
 have KX := hY w _ Y
 obtain ⟨fd, hb, hF⟩ := F w mg fa _ KX G.T.g hmg
 exact law_call KX G.T.g G.T.b G.T.builtins G.T.nolimit hg hobj hints (Nat.le_trans hlen hn2) hr hF hb (fun H hO hS => hsp w H a ns hlen hO hS) fun H e s' => hCX w H s₁ e s'
end L2
namespace L2
open PySem PySem.Spec PyProof.Rows
def inClass (s : Stmt) (j : Nat) : Stmt := match s with
 | .ClassDef _ _ _ body _ _ _ _ _ _ _ => body.getD j (.Pass ⟨0, 0, 0, 0⟩)
 | _ => .Pass ⟨0, 0, 0, 0⟩
def defArgs (s : Stmt) : Arguments := match s with
 | .FunctionDef _ a _ _ _ _ _ _ _ _ => a
 | _ => { posonlyargs := [], args := [], vararg := none, kwonlyargs := [], kw_defaults := [], kwarg := none, defaults := [] }
def defBody (s : Stmt) : List Stmt := match s with
 | .FunctionDef _ _ b _ _ _ _ _ _ _ => b
 | _ => []
def defScope (s : Stmt) : Scope := match s with
 | .FunctionDef _ _ _ _ _ _ sc _ _ _ => sc
 | _ => { kind := .function, names := [], isGenerator := false, isCoroutine := false }
abbrev CX0 : CXT := fun _ _ _ _ _ _ => False
abbrev E0 : XK := fun _ _ _ => False
theorem pass0 {X : Cx} : Passes CX0 X E0 := fun _ _ _ _ _ _ _ h => h.elim
structure Fun (K : W.Frag) (x qual : Str) (st : Stmt) (f : Addr) (fd : FuncData) : Prop where
 ex : ∃ (oc : Value) (od : Option Addr) (kV doc pm : Value) (an : Option Addr) (cdv ct : Value) (osl : Array (Option Value)),
  fd = W.fnOf x qual (defArgs st) (defBody st) (defScope st) .none kV doc pm an cdv ct ∧ K.lookup f = some ⟨oc, od, .func fd, osl⟩ ∧ W.codeIn K cdv qual = true
 kp : W.keepIn K (.ref f) = true
section
variable {P : Program} {w : World} {K : W.Frag} {mg : Str → Option Value} {base : Heap}
theorem Fun.ok {x qual : Str} {st : Stmt} {f : Addr} {fd : FuncData} {N ps : List Str} {k : Nat} {sp : Sp} (F : Fun K x qual st f fd) (S : FnScope N ps (defScope st)) (len : ∀ vs H Q E, sp vs H Q E → vs.length = ps.length)
  (hbody : ∀ (cdv : Value) (A : Around) (outer : List Env) (s : Shared) (H : Hp) (vs : List V) (Q : VK) (E : XK), Room k (A.deeper (envOfC qual (defScope st) s.heap.objs.size f cdv)) → sp vs H Q E →
   ∃ t, PSs (cxOf CX0 P w K mg base N qual (defScope st) f cdv A outer s H E).nox (defBody st) t ∧ t { nx := fun _ H' => Q .non H', rt := Q } (start N vs) H) : FnOk P w K mg base CX0 (k + 1) f fd ps sp := by
 obtain ⟨oc, od, kV, doc, pm, an, cdv, ct, osl, rfl, lk, hcd⟩ := F.ex
 refine fn_of lk hcd S len fun A outer s H vs Q E hr hsp => ?_
 obtain ⟨t, h, q⟩ := hbody cdv A outer s H vs Q E hr hsp
 exact ⟨t, h.nox, q⟩
theorem Fun.binds {x qual : Str} {st : Stmt} {f : Addr} {fd : FuncData} {ps : List Str} (F : Fun K x qual st f fd)
  (h : ∀ (kV doc pm : Value) (an : Option Addr) (cdv ct : Value) (us : List Value), us.length = ps.length → bindArgs (W.fnOf x qual (defArgs st) (defBody st) (defScope st) .none kV doc pm an cdv ct) ⟨us, []⟩ = pure (ps.zip us)) : Binds K fd ps [] := by
 obtain ⟨oc, od, kV, doc, pm, an, cdv, ct, osl, rfl, lk, hcd⟩ := F.ex
 exact .all (h kV doc pm an cdv ct)
theorem fun_mk {x qual : Str} {st : Stmt} {f : Addr} {oc : Value} {od an : Option Addr} {osl : Array (Option Value)} {kV doc pm cdv ct : Value} (l : K.lookup f = some ⟨oc, od, .func (W.fnOf x qual (defArgs st) (defBody st) (defScope st) .none kV doc pm an cdv ct), osl⟩)
  (c : W.codeIn K cdv qual = true) (k : W.keepIn K (.ref f) = true) : Fun K x qual st f (W.fnOf x qual (defArgs st) (defBody st) (defScope st) .none kV doc pm an cdv ct) := ⟨⟨oc, od, kV, doc, pm, an, cdv, ct, osl, rfl, l, c⟩, k⟩
end
theorem hu_of {A : Around} {k : Nat} (hr : Room k A) : A.units + 1 < cLine := Nat.lt_of_le_of_lt (Nat.add_le_add_left (by decide : 1 ≤ 64) _) hr.units
theorem small1000 {n : Nat} (h : n ≤ 1000) : n < sizeLine := Nat.lt_of_le_of_lt h (by decide)
section
variable {X : Cx}
theorem pv (i : Nat) {x : Str} {pos : Pos} (hN : X.N[i]? = some x := by rfl) (hv : Vis X.env.scope x := by first | exact Or.inl rfl | exact Or.inr (Or.inl rfl) | exact Or.inr (Or.inr rfl)) (hd : (x == ("__debug__" : Str)) = false := by decide)
  (hcd : (x == ("__classdict__" : Str)) = false := by decide) : PE X (.Name x pos) (tVar i) := pe_var hN hv hd hcd
end
theorem iteF {A B : Prop} (h : B) : if false = true then A else B := by
 rw [if_neg Bool.false_ne_true]
 exact h
theorem iteT {A B : Prop} (h : A) : if true = true then A else B := by
 rw [if_pos rfl]
 exact h
theorem ite2 {c A B : Prop} [Decidable c] (h1 : c → A) (h2 : ¬ c → B) : if c then A else B := by
 by_cases h : c
 ·rw [if_pos h]
  exact h1 h
 ·rw [if_neg h]
  exact h2 h
theorem iteNS {c A B : Prop} [Decidable c] (hc : c) (h : B) : if (!decide c) = true then A else B := by
 rw [decide_eq_true hc]
 exact iteF h
def Same (H H' : Hp) : Prop := ∀ b o, H b = some o → H' b = some o
theorem Same.refl (H : Hp) : Same H H := fun _ _ h => h
theorem Same.trans {H H1 H2 : Hp} (a : Same H H1) (b : Same H1 H2) : Same H H2 := fun c o h => b c o (a c o h)
theorem Same.free {H H' : Hp} (e : Same H H') {l : Addr} (h : H' l = Option.none) : H l = Option.none := by
 cases q : H l with
 | none => rfl
 | some o =>
  rw [e l o q] at h
  cases h
end L2
set_option maxHeartbeats 4000000
namespace KM
theorem fmod_eq (a b : Int) : a - a.fdiv b * b = a.fmod b := by
 rw [Int.fmod_def, Int.mul_comm]
theorem fmod_pos {a b : Int} (h : 0 < b) : 0 ≤ a.fmod b ∧ a.fmod b < b := ⟨Int.fmod_nonneg_of_pos a h, Int.fmod_lt_of_pos a h⟩
theorem fmod_neg {a b : Int} (h : b < 0) : b < a.fmod b ∧ a.fmod b ≤ 0 := by
 have e : (-a).fmod (-b) = -(a.fmod b) := by first | exact Int.neg_fmod_neg .. | simp
 have := fmod_pos (a := -a) (b := -b) (by omega)
 omega
theorem fdiv_abs_pos {a b : Int} (h : 0 < b) : (a.fdiv b).natAbs ≤ a.natAbs := by
 have h1 := Int.mul_fdiv_add_fmod a b
 have h2 := fmod_pos (a := a) h
 rcases (by omega : 0 ≤ a ∨ a < 0) with h3 | h3
 ·have : 0 ≤ a.fdiv b := Int.fdiv_nonneg h3 (by omega)
  have h4 : 1 * a.fdiv b ≤ b * a.fdiv b := Int.mul_le_mul_of_nonneg_right (by omega) this
  omega
 ·have : a.fdiv b < 0 := by
   rcases (by omega : a.fdiv b < 0 ∨ 0 ≤ a.fdiv b) with h5 | h5
   ·exact h5
   ·have := Int.mul_nonneg (by omega : 0 ≤ b) h5
    omega
  have h4 : b * a.fdiv b ≤ 1 * a.fdiv b := Int.mul_le_mul_of_nonpos_right (by omega) (by omega)
  rcases (by omega : a ≤ a.fdiv b ∨ a.fdiv b ≤ a - 1) with h5 | h5
  ·omega
  ·have h6 : b * a.fdiv b ≤ b * (a - 1) := Int.mul_le_mul_of_nonneg_left h5 (by omega)
   have h7 : b * (a - 1) = b * a - b := by grind
   have h8 : b * a ≤ 1 * a := Int.mul_le_mul_of_nonpos_right (by omega) (by omega)
   omega
theorem fdiv_abs (a b : Int) : (a.fdiv b).natAbs ≤ a.natAbs := by
 rcases (by omega : b = 0 ∨ 0 < b ∨ b < 0) with h | h | h
 ·subst h; simp
 ·exact fdiv_abs_pos h
 ·have e : (-a).fdiv (-b) = a.fdiv b := Int.neg_fdiv_neg ..
  have := fdiv_abs_pos (a := -a) (b := -b) (by omega)
  rw [e] at this
  omega
theorem abs_sub_mul (u q x : Int) : (u - q * x).natAbs ≤ u.natAbs + q.natAbs * x.natAbs := by
 have h := Int.natAbs_add_le u (-(q * x))
 have e : u + -(q * x) = u - q * x := by omega
 rw [e, Int.natAbs_neg, Int.natAbs_mul] at h
 exact h
structure Eu (C : Nat) (one other a u v b x y : Int) : Prop where
 ha : u * one + v * other = a
 hb : x * one + y * other = b
 dv : ∀ d, d ∣ a → d ∣ b → d ∣ one ∧ d ∣ other
 rg : (a = one ∧ b = other ∧ u = 1 ∧ v = 0 ∧ x = 0 ∧ y = 1) ∨ (0 ≤ b ∧ b < a) ∨ (b ≤ 0 ∧ a < b)
 cu : u.natAbs ≤ C
 cv : v.natAbs ≤ C
 cx : x.natAbs ≤ C
 cy : y.natAbs ≤ C
 p1 : u.natAbs * b.natAbs + x.natAbs * a.natAbs ≤ C
 p2 : v.natAbs * b.natAbs + y.natAbs * a.natAbs ≤ C
 sa : a.natAbs ≤ C
 sb : b.natAbs ≤ C
theorem Eu.start (one other : Int) : Eu (one.natAbs + 2 * other.natAbs + 1) one other one 1 0 other 0 1 where
 ha := by omega
 hb := by omega
 dv := fun d h1 h2 => ⟨h1, h2⟩
 rg := .inl ⟨rfl, rfl, rfl, rfl, rfl, rfl⟩
 cu := by show 1 ≤ _; omega
 cv := by show 0 ≤ _; omega
 cx := by show 0 ≤ _; omega
 cy := by show 1 ≤ _; omega
 p1 := by show 1 * _ + 0 * _ ≤ _; omega
 p2 := by show 0 * _ + 1 * _ ≤ _; omega
 sa := by omega
 sb := by omega
theorem part_le {X b T C : Nat} (h : T + X * b ≤ C) (hb : 1 ≤ b) : X ≤ C := by
 have := Nat.mul_le_mul_left X hb
 omega
theorem prod_step {u x q a b r X C : Nat} (hX : X ≤ u + q * x) (ha : a = q * b + r) (h : u * b + x * a ≤ C) : x * r + X * b ≤ C := by
 have h1 := Nat.mul_le_mul_right b hX
 have h2 : (u + q * x) * b = u * b + q * x * b := Nat.add_mul ..
 have h3 : x * a = q * x * b + x * r := by rw [ha, Nat.mul_add, ← Nat.mul_assoc, Nat.mul_comm x q]
 omega
theorem abs_split {a b q r : Int} (h : a = q * b + r) (hr : (0 ≤ b ∧ b < a ∧ 0 ≤ r ∧ r < b) ∨ (b ≤ 0 ∧ a < b ∧ b < r ∧ r ≤ 0)) (hb : b ≠ 0) : a.natAbs = q.natAbs * b.natAbs + r.natAbs := by
 have key : 0 ≤ q := by
  rcases (by omega : 0 ≤ q ∨ q ≤ -1) with h0 | h0
  ·exact h0
  ·rcases hr with hr | hr
   ·have := Int.mul_le_mul_of_nonneg_right h0 (by omega : 0 ≤ b)
    omega
   ·have := Int.mul_le_mul_of_nonpos_right h0 (by omega : b ≤ 0)
    omega
 rw [← Int.natAbs_mul]
 rcases hr with hr | hr
 ·have := Int.mul_nonneg key (by omega : 0 ≤ b)
  omega
 ·have := Int.mul_nonneg key (by omega : 0 ≤ -b)
  have e : q * -b = -(q * b) := by grind
  omega
theorem Eu.turn {C : Nat} {one other a u v b x y : Int} (E : Eu C one other a u v b x y) (hC : one.natAbs + 2 * other.natAbs + 1 ≤ C) (hb : b ≠ 0) :
  Eu C one other b x y (a - a.fdiv b * b) (u - a.fdiv b * x) (v - a.fdiv b * y) := by
 obtain ⟨ha, hB, dv, rg, cu, cv, cx, cy, p1, p2, sa, sb⟩ := E
 have hq := fdiv_abs a b
 have hd : a = a.fdiv b * b + a.fmod b := by rw [← fmod_eq]; omega
 have hr : (0 < b ∧ 0 ≤ a.fmod b ∧ a.fmod b < b) ∨ (b < 0 ∧ b < a.fmod b ∧ a.fmod b ≤ 0) := by
  rcases (by omega : 0 < b ∨ b < 0) with h | h
  ·exact .inl ⟨h, fmod_pos h⟩
  ·exact .inr ⟨h, fmod_neg h⟩
 rw [fmod_eq]
 have mx := abs_sub_mul u (a.fdiv b) x
 have my := abs_sub_mul v (a.fdiv b) y
 have hb1 : 1 ≤ b.natAbs := by omega
 have main : x.natAbs * (a.fmod b).natAbs + (u - a.fdiv b * x).natAbs * b.natAbs ≤ C ∧ y.natAbs * (a.fmod b).natAbs + (v - a.fdiv b * y).natAbs * b.natAbs ≤ C := by
  rcases rg with ⟨rfl, rfl, rfl, rfl, rfl, rfl⟩ | rg | rg
  ·have e : (a.fdiv b).natAbs * b.natAbs ≤ a.natAbs + b.natAbs := by
    rw [← Int.natAbs_mul]
    omega
   have e1 : (1 - a.fdiv b * 0).natAbs = 1 := by simp
   have e2 : (0 - a.fdiv b * 1).natAbs = (a.fdiv b).natAbs := by simp
   rw [e1, e2]
   constructor
   ·show 0 * _ + 1 * _ ≤ C
    omega
   ·show 1 * _ + _ ≤ C
    omega
  ·have s := abs_split hd (.inl (by omega)) hb
   exact ⟨prod_step mx s p1, prod_step my s p2⟩
  ·have s := abs_split hd (.inr (by omega)) hb
   exact ⟨prod_step mx s p1, prod_step my s p2⟩
 refine ⟨hB, ?_, ?_, ?_, cx, cy, part_le main.1 hb1, part_le main.2 hb1, main.1, main.2, sb, ?_⟩
 ·rw [← fmod_eq]; grind
 ·intro d h1 h2
  refine dv d ?_ h1
  rw [hd]
  exact Int.dvd_add (Int.dvd_mul_of_dvd_right h1) h2
 ·omega
 ·omega
theorem Eu.less {a b : Int} (hb : b ≠ 0) : (a - a.fdiv b * b).natAbs < b.natAbs := by
 rw [fmod_eq]
 rcases (by omega : 0 < b ∨ b < 0) with h | h
 ·have := fmod_pos (a := a) h; omega
 ·have := fmod_neg (a := a) h; omega
structure Wt (one other d u v : Int) : Prop where
 nn : 0 ≤ d
 eq : u * one + v * other = d
 d1 : d ∣ one
 d2 : d ∣ other
theorem Eu.fin {C : Nat} {one other a u v x y : Int} (E : Eu C one other a u v 0 x y) (h : ¬ a < 0) : Wt one other a u v :=
 ⟨by omega, E.ha, (E.dv a (Int.dvd_refl _) (Int.dvd_zero _)).1, (E.dv a (Int.dvd_refl _) (Int.dvd_zero _)).2⟩
theorem Eu.finN {C : Nat} {one other a u v x y : Int} (E : Eu C one other a u v 0 x y) (h : a < 0) : Wt one other (-a) (-u) (-v) :=
 ⟨by omega, by have := E.ha; grind, Int.neg_dvd.mpr (E.dv a (Int.dvd_refl _) (Int.dvd_zero _)).1, Int.neg_dvd.mpr (E.dv a (Int.dvd_refl _) (Int.dvd_zero _)).2⟩
theorem ediv_abs {x g : Int} (hg : 0 < g) : (x / g).natAbs ≤ x.natAbs := by
 rw [← Int.fdiv_eq_ediv_of_nonneg x (by omega)]
 exact fdiv_abs_pos hg
theorem emod_sub_zero {x y g : Int} : (x - y) % g = 0 ↔ x % g = y % g := by
 rw [Int.emod_eq_emod_iff_emod_sub_eq_zero]
end KM
namespace L2
open PySem PySem.Spec PyProof.Rows
section
variable {X : Cx} {tg a b c : Expr} {ta tb tc : TE} {pos : Pos}
theorem op_mulB : OpR X (binaryOp .Mult) (rI IntMulOk fun i j => .int (i * j)) := opI fun _ _ _ _ _ _ _ hc q => mul_int q hc
def CDivB (_ j : Int) : Prop := 0 < j ∧ j.natAbs.log2 < 9000
theorem op_fdivB : OpR X (binaryOp .FloorDiv) (rI CDivB fun i j => .int (i / j)) := opI fun i j _ _ _ _ _ hc q => by
 have h1 : (0 : Int) < j := hc.1
 exact floordiv_int (by omega) (by rw [Int.fdiv_eq_ediv_of_nonneg i (by omega)]; exact q) (.inl (PyProof.noPylong_of_log2 hc.2))
def CDivF (_ j : Int) : Prop := j ≠ 0 ∧ j.natAbs.log2 < 9000
theorem op_fdivF : OpR X (binaryOp .FloorDiv) (rI CDivF fun i j => .int (i.fdiv j)) := opI fun _ _ _ _ _ _ _ hc q => floordiv_int hc.1 q (.inl (PyProof.noPylong_of_log2 hc.2))
theorem log2_of {j : Int} {n : Nat} (h : j.natAbs < 2 ^ n) (hn : 0 < n) : j.natAbs.log2 < n := by
 by_cases h0 : j.natAbs = 0
 ·rw [h0]
  exact hn
 ·exact (Nat.log2_lt h0).mpr h
theorem mulOk_of {i j : Int} {m n : Nat} (hi : i.natAbs < 2 ^ m) (hj : j.natAbs < 2 ^ n) (h : m + n ≤ 134217728 := by decide) : IntMulOk i j := IntMulOk.of_le (intBits_le_iff.mpr hi) (intBits_le_iff.mpr hj) h
theorem mulOk_l {i j : Int} (h1 : -(2 ^ 64) < i) (h2 : i < 2 ^ 64) : IntMulOk i j := .of_left (intBits_le_64 h1 h2)
theorem mulOk_r {i j : Int} (h1 : -(2 ^ 64) < j) (h2 : j < 2 ^ 64) : IntMulOk i j := .of_right (intBits_le_64 h1 h2)
def rIsI (K : W.Frag) : List V → Hp → VK → Prop := fun xs H Q => ∃ x T t b, xs = [x, .ty T] ∧ TyOf K H x t ∧ W.kitOne K t (.type T) = some b ∧ Q (.bl b) H
theorem call_isinst : CallR X (.builtin "isinstance") (rIsI X.K) := by
 intro pins s σ H xs us Q I r h
 obtain ⟨x, T, t, b, rfl, ty, e, q⟩ := h
 obtain ⟨u, v, rfl, ru, rv⟩ := r.two
 cases rv
 exact isinst_ok I ru ty e fun tk => ⟨.bl b, H, I.tok tk, rfl, q⟩
end
end L2
namespace L2
open PySem PySem.Spec PyProof.Rows
def Dn (P : Program) (w : World) (K : W.Frag) (mg : Str → Option Value) (base : Heap) (x : Str) (k : Nat) (ps : List Str) (sp : Sp) : Prop :=
 ∃ f fd, FnOk P w K mg base CX0 k f fd ps sp ∧ Binds K fd ps [] ∧ mg x = some (.ref f) ∧ W.keepIn K (.ref f) = true
section
variable {X : Cx} {x : Str} {k : Nat} {ps : List Str} {sp : Sp} {e : Expr} {es : List Expr} {t : TA} {p pos : Pos}
theorem pe_fn (D : Dn X.prog X.w X.K X.mg X.base x k ps sp) (hr : Room k X.A) (ha : PA X (e :: es) t) (hg : Gl X x := by rfl) (hdb : (x == ("__debug__" : Str)) = false := by decide)
  (he : starEach (e :: es) X.env = (false, eval e X.env) :: starEach es X.env := by rfl) (hpl : (backTo pos (starEach es X.env)).any (·.1) = false := by rfl) : PE X (.Call (.Name x p) (e :: es) [] pos) (tCall sp [] E0 t) := by
 obtain ⟨f, fd, F, b, m, kp⟩ := D
 exact pe_call F hr hg m kp b .nil pass0 ha hdb he hpl
end
theorem cap_nil {R : Nat → Str → Prop} : ∀ (j : Nat) (y : Str), ([] : List Str)[j]? = some y → ∃ i, ([] : List Nat)[j]? = some i ∧ R i y := fun j y h => by simp at h
theorem cap_cons {R : Nat → Str → Prop} {y0 : Str} {i0 : Nat} {M : List Str} {idx : List Nat} (h : R i0 y0) (t : ∀ (j : Nat) (y : Str), M[j]? = some y → ∃ i, idx[j]? = some i ∧ R i y) :
  ∀ (j : Nat) (y : Str), (y0 :: M)[j]? = some y → ∃ i, (i0 :: idx)[j]? = some i ∧ R i y
 | 0, y, e => by
  have e' : y0 = y := Option.some.inj e
  subst e'
  exact ⟨i0, rfl, h⟩
 | j + 1, y, e => t j y e
theorem int_atD {ns : List Int} {k : Int} (h0 : 0 ≤ k) (h1 : k < ns.length) : ∃ z, atI (ns.map V.int) k = some (V.int z) := by
 obtain ⟨n, rfl⟩ := Int.eq_ofNat_of_zero_le h0
 have hn : n < ns.length := by omega
 refine ⟨ns[n], atI_nat ?_⟩
 rw [List.getElem?_map, List.getElem?_eq_getElem hn]
 rfl
theorem cut_ints (ns : List Int) (lo hi : Option Int) : ∃ ms : List Int, cutV (ns.map V.int) lo hi = ms.map V.int ∧ ms.length ≤ ns.length := by
 unfold cutV
 refine ⟨(ns.drop (HT.sIx (ns.map V.int).length 0 lo)).take (HT.sIx (ns.map V.int).length (ns.map V.int).length hi - HT.sIx (ns.map V.int).length 0 lo), ?_, ?_⟩
 ·rw [List.map_take, List.map_drop]
 ·rw [List.length_take, List.length_drop]
  omega
end L2
namespace L2
open PySem PySem.Spec PyProof.Rows
theorem at0 {α : Type} {x : α} {xs : List α} : atI (x :: xs) 0 = some x := atI_nat (j := 0) rfl
theorem at1 {α : Type} {x y : α} {xs : List α} : atI (x :: y :: xs) 1 = some y := atI_nat (j := 1) rfl
theorem at2 {α : Type} {x y z : α} {xs : List α} : atI (x :: y :: z :: xs) 2 = some z := atI_nat (j := 2) rfl
theorem kt_self (K : W.Frag) (T : String) : W.kitOne K (.type T) (.type T) = some true := by
 unfold W.kitOne
 rw [if_pos (by simp)]
theorem kt_tt {T T' : String} {b : Bool} (K : W.Frag) (h0 : (Value.type T == Value.type T') = false) (h1 : W.kitMeta T' = true) (h2 : W.subIn K (.type T) (.type T') = some b) : W.kitOne K (.type T) (.type T') = some b := by
 unfold W.kitOne W.kitCls
 rw [h0, if_neg Bool.false_ne_true]
 show (if W.kitMeta T' = true then W.subIn K (.type T) (.type T') else none) = some b
 rw [if_pos h1]
 exact h2
theorem sub_int_bool {K : W.Frag} : (W.subIn K (.type "int") (.type "bool")) = some false := by
 kernel_rfl
theorem kt_int_bool (K : W.Frag) : W.kitOne K (.type "int") (.type "bool") = some false := kt_tt K (by decide +kernel) (by decide +kernel) sub_int_bool
theorem divB {i j : Int} {n : Nat} (h : 0 < j) (h2 : j.natAbs < 2 ^ n) (hn : 0 < n := by decide) (hn2 : n ≤ 9000 := by decide) : CDivB i j := ⟨h, Nat.lt_of_lt_of_le (log2_of h2 hn) hn2⟩
theorem divF {i j : Int} {n : Nat} (h : j ≠ 0) (h2 : j.natAbs < 2 ^ n) (hn : 0 < n := by decide) (hn2 : n ≤ 9000 := by decide) : CDivF i j := ⟨h, Nat.lt_of_lt_of_le (log2_of h2 hn) hn2⟩
theorem Same.new {H : Hp} {p : Addr} {o : HO} (h : H p = none) : Same H (upd H p o) := fun b u e => by
 rw [upd_ne (ne_of_none e h)]
 exact e
theorem Same.on {H H' : Hp} {p : Addr} {o : HO} (s : Same H H') (h : H' p = none) : Same H (upd H' p o) := s.trans (Same.new h)
theorem Same.sq {H H' : Hp} {K : W.Frag} {a : Addr} {xs : List V} (s : Same H H') (h : SqL K H a xs) : SqL K H' a xs := by
 rcases h with (h | ⟨o, h⟩) | h
 ·exact .inl (.inl (s _ _ h))
 ·exact .inl (.inr ⟨o, s _ _ h⟩)
 ·exact .inr h
theorem len_ok {n : Nat} (h : n ≤ 1000) : n ≤ sizeLine := Nat.le_of_lt (small1000 h)
theorem b_of {c : Prop} [Decidable c] (h : decide c = true) : c := of_decide_eq_true h
theorem b_not {c : Prop} [Decidable c] (h : ¬ decide c = true) : ¬ c := fun z => h (decide_eq_true z)
theorem e_of {i j : Int} (h : decide (V.int i = V.int j) = true) : i = j := by simpa using h
theorem e_not {i j : Int} (h : ¬ decide (V.int i = V.int j) = true) : i ≠ j := by simpa using h
end L2
namespace L2
theorem iteD {c A B : Prop} [Decidable c] (hc : ¬ c) (h : B) : if decide c = true then A else B := by
 rw [decide_eq_false hc]
 exact iteF h
theorem iteDT {c A B : Prop} [Decidable c] (hc : c) (h : A) : if decide c = true then A else B := by
 rw [decide_eq_true hc]
 exact iteT h
theorem iteNT {c A B : Prop} [Decidable c] (hc : ¬ c) (h : A) : if (!decide c) = true then A else B := by
 rw [decide_eq_false hc]
 exact iteT h
theorem e_eq {i j : Int} (h : i = j) : (V.int i = V.int j) := by rw [h]
theorem e_ne {i j : Int} (h : i ≠ j) : ¬ (V.int i = V.int j) := fun z => h (V.int.inj z)
theorem k_true {c : Prop} [Decidable c] {Q : VK} {H : Hp} (hc : c) (k : Q (.bl true) H) : Q (.bl (decide c)) H := by
 rw [decide_eq_true hc]
 exact k
end L2
namespace L2
open PySem PySem.Spec PyProof.Rows
section
variable {prog : Program} {w : World} {A : Around} {R : Result → Shared → Prop} {s : Shared}
theorem compLoop_any {elt target iter : Expr} {scope : Scope} {pos : Pos} {it acc : Value} {env : Env} (I : Nat → Shared → Prop)
  (turn : ∀ n s, I n s → wpAny (model prog w) A (pyNext it) (fun r s₁ => match r with
   | none => R (.ok .next) s₁
   | some v => wpAny (model prog w) A (letOwnedTupleGo target it v) (fun _ s₂ => wpAny (model prog w) A (assign target env v) (fun _ s₃ => wpAny (model prog w) A (eval elt env) (fun x s₄ =>
     wpAny (model prog w) A (call (.builtin "list.append") [acc, x]) (fun _ s₅ => ∃ m, m < n ∧ I m s₅) (fun _ _ => False) s₄) (fun _ _ => False) s₃) (fun _ _ => False) s₂) (fun _ _ => False) s₁) (fun _ _ => False) s)
  (n : Nat) (h : I n s) : codeAny (model prog w) A (.compLoop (.ListComp elt [⟨target, iter, [], 0⟩] scope pos) 0 it acc env) R s := by
 refine codeAny_loop rfl I (fun n s hI => ?_) n h
 show wpAny _ _ ((compTurn (.ListComp elt [⟨target, iter, [], 0⟩] scope pos) 0 it acc env).onRaise (fun x => do noteFrame x env; theTreesLotGoes x)) _ _ s
 refine wpAny_noted ?_
 rw [compTurn_list1]
 refine wpAny_bind (wpAny_standAt (wpAny_bind (wpAny_mono (turn n s hI) (fun r s₁ h₁ => ?_) fun _ _ h' => h'.elim)))
 cases r with
 | none => exact wpAny_pure h₁
 | some v =>
  exact wpAny_bind (wpAny_mono h₁ (fun _ s₂ h₂ => wpAny_bind (wpAny_mono h₂ (fun _ s₃ h₃ => wpAny_bind (wpAny_bind (wpAny_mono h₃ (fun x s₄ h₄ => wpAny_bind (wpAny_mono h₄
   (fun _ s₅ h₅ => wpAny_pure (wpAny_pure ⟨rfl, h₅⟩)) fun _ _ h' => h'.elim)) fun _ _ h' => h'.elim))) fun _ _ h' => h'.elim)) fun _ _ h' => h'.elim)
end
def cxComp (X : Cx) (N : List Str) (scope : Scope) (cl : List (Str × Addr)) (fp : List Addr) (s : Shared) (H : Hp) : Cx :=
 { X with N := N, s₀ := s, H₀ := H, env := compEnvC scope cl (s.heap.objs.size + 1) X.env, outer := X.stack, ex := fp, fn := fun _ => false, pn := [], xe := fun _ _ => False }
structure CompOk (X : Cx) (scope : Scope) (cl : List (Str × Addr)) (x : Str) (M : List Str) (idx : List Nat) : Prop where
 clos : closureFor scope X.env = pure cl
 nocell : ∀ y ∈ scope.names, y.2 ≠ .cell
 kind : scope.kind = .function
 names : ∀ y ∈ scope.names, y.2 = .local → scope.names.lookup y.1 = some .local
 hx : scope.names.lookup x = some .local
 sub : ∀ p ∈ cl, X.env.cells.lookup p.1 = some p.2
 has : ((relabel scope X.env).names.all fun p => !(p.2 == .cell || p.2 == .free) || (cl.lookup p.1).isSome) = true
 cap : ∀ (j : Nat) (y : Str), M[j]? = some y → ∃ i, idx[j]? = some i ∧ X.N[i]? = some y ∧ X.env.scope.names.lookup y = some .cell ∧ (relabel scope X.env).names.lookup y = some .cell ∧ cl.lookup y = X.env.cells.lookup y
 nd : (x :: M).Nodup
 len : M.length = idx.length
def pick (idx : List Nat) (σ : St) : St := idx.map fun i => (σ[i]?).join
section
variable {X : Cx} {pins : List (Addr × Obj)} {σ : St} {H : Hp} {s : Shared} {scope : Scope} {cl : List (Str × Addr)} {x : Str} {M : List Str} {idx : List Nat} {fp : List Addr}
theorem CompOk.look (C : CompOk X scope cl x M idx) {y : Str} {c : Addr} (e : cl.lookup y = some c) : X.env.cells.lookup y = some c := C.sub (y, c) (PySem.mem_of_lookup e)
theorem cx_ok (C : CompOk X scope cl x M idx) (I : Inv X pins σ H s) (f : ∀ b ∈ fp, FpOk X pins H b) (ho : ∀ b ∈ fp, ∃ o, s.heap.get? b = some o ∧ ∀ v, o.data ≠ .cell v) : (cxComp X (x :: M) scope cl fp s H).Ok where
 mod := I.ok.mod
 kind := C.kind
 glob := I.ok.glob
 blt := I.ok.blt
 above := Nat.le_succ _
 inj := fun y z c h1 h2 => I.ok.inj y z c (C.look h1) (C.look h2)
 has := fun y hy => by
  have hy' : (relabel scope X.env).names.lookup y = some .cell ∨ (relabel scope X.env).names.lookup y = some .free := hy
  have key : ∀ k, (relabel scope X.env).names.lookup y = some k → (k = .cell ∨ k = .free) → ∃ c, cl.lookup y = some c := fun k e hk => by
   have q := List.all_eq_true.mp C.has (y, k) (PySem.mem_of_lookup e)
   have hb : (k == NameKind.cell || k == NameKind.free) = true := by rcases hk with rfl | rfl <;> rfl
   rw [hb] at q
   exact Option.isSome_iff_exists.mp (by simpa using q)
  rcases hy' with e | e
  ·exact key _ e (.inl rfl)
  ·exact key _ e (.inr rfl)
 cab := fun y c h _ => nomatch (show false = true from h)
 hd := I.ok.hd
 frames := I.ok.frames
 stk := .inl rfl
 exf := fun b hb => by
  obtain ⟨f0, f1, f2, f3, f4, f5⟩ := f b hb
  obtain ⟨o, e, _⟩ := ho b hb
  refine ⟨?_, fun y c h => f4 y c (C.look h)⟩
  exact Nat.ne_of_lt (Nat.lt_succ_of_lt (Heap.lt_size e))
 bs := I.bs
 bsz := Nat.le_trans I.ok.bsz I.sz
 noex := fun b o e hb => by
  obtain ⟨f0, f1, f2, f3, f4, f5⟩ := f b hb
  rcases f3 with z | z
  ·exact I.ok.noex b o e z
  ·exact absurd (Nat.lt_of_lt_of_le (Heap.lt_size e) (Nat.le_trans I.ok.bsz z)) (Nat.lt_irrefl _)
 exfs := fun b hb z => by
  obtain ⟨f0, f1, f2, f3, f4, f5⟩ := f b hb
  rcases List.mem_cons.mp (I.stkSub b z) with e | e
  ·exact f1 e
  ·exact f2 e
 funs := I.stack
 frf := I.stkFree
theorem pick_len (idx : List Nat) (σ : St) : (pick idx σ).length = idx.length := by simp [pick]
theorem inv_comp {h₁ : Heap} {t : Nat} (C : CompOk X scope cl x M idx) (I : Inv X pins σ H s) (f : ∀ b ∈ fp, FpOk X pins H b) (ho : ∀ b ∈ fp, ∃ o, s.heap.get? b = some o ∧ ∀ v, o.data ≠ .cell v)
  (old : ∀ b o, s.heap.get? b = some o → h₁.get? b = some o) (hD : h₁.get? s.heap.objs.size = some { cls := .type "list", data := .seq ([] : List Value).toArray })
  {m : Str → Option Value} (hC : h₁.Ns (s.heap.objs.size + 1) m) : Inv (cxComp X (x :: M) scope cl fp s H) [] (none :: pick idx σ) (upd H s.heap.objs.size (.lst [])) { s with heap := h₁, toks := t } := by
 have fr : H s.heap.objs.size = none := I.hok.fresh (Nat.le_refl _)
 have cellK : ∀ c v, s.heap.IsCell c v → h₁.IsCell c v := fun c v ⟨o, e, d⟩ => ⟨o, old _ _ e, d⟩
 refine ⟨cx_ok C I f ho, rfl, I.bare, Un.laid old (Nat.le_refl _) fr, ⟨m, hC, fun j y v e1 e2 e3 => ?_⟩, fun y c e => ?_, ?_, fun y c e => ?_, fun p hp => absurd (show p ∈ ([] : List (Addr × Obj)) from hp) (by simp), ?_, ?_⟩
 ·cases j with
  | zero =>
   have z : (some (none : Option V)) = some (some v) := e2
   cases z
  | succ j =>
   have e1' : M[j]? = some y := e1
   have e2' : (pick idx σ)[j]? = some (some v) := e2
   obtain ⟨i, hi, hN, hk, hr, hc⟩ := C.cap j y e1'
   have e3' : σ[i]? = some (some v) := by
    unfold pick at e2'
    rw [List.getElem?_map, hi] at e2'
    have z : (σ[i]?).join = some v := Option.some.inj e2'
    cases q : σ[i]? with
    | none => rw [q] at z; cases z
    | some o => rw [q] at z; have z' : o = some v := z; rw [z']
   obtain ⟨m0, hn, hl⟩ := I.loc
   obtain ⟨u, ru, l⟩ := hl i y v hN e3' (.inr (.inl hk))
   refine ⟨u, ru, ?_⟩
   rcases l with ⟨k, _⟩ | ⟨_, c, hcc, z⟩
   ·have k' : X.env.scope.names.lookup y = some .local := k
    rw [hk] at k'; cases k'
   ·exact .inr ⟨.inl hr, c, hc.trans hcc, cellK c _ z⟩
 ·obtain ⟨v, z⟩ := I.cell y c (C.look e)
  exact ⟨v, cellK c v z⟩
 ·show upd H s.heap.objs.size (.lst []) (s.heap.objs.size + 1) = none
  rw [upd_ne (Nat.succ_ne_self _)]
  exact I.hok.fresh (Nat.le_succ _)
 ·show upd H s.heap.objs.size (.lst []) c = none
  obtain ⟨v, z⟩ := I.cell y c (C.look e)
  rw [upd_ne (Nat.ne_of_lt z.lt)]
  exact I.freeC y c (C.look e)
 ·exact I.hok.laid old (Nat.le_refl _) ⟨Nat.zero_le _, [], 0, .nil, hD⟩
 ·show (none :: pick idx σ).length = (x :: M).length
  rw [List.length_cons, List.length_cons, pick_len, C.len]
def CompW (J : It) (idx : List Nat) (σ : St) (te : TE) (D : Addr) (Q : VK) (H : Hp) : Prop := ∃ W : Nat → Nat → List V → Hp → Prop, (∃ m, W 0 m [] (upd H D (.lst []))) ∧ ∀ i m ys H2, W i m ys H2 →
 H2 D = some (.lst ys) ∧ ys.length < sizeLine ∧ ((J.stop i H2 ∧ Q (.ref D) H2) ∨ (J.go i H2 ∧ ∃ N : VK, (∀ y H4, N y H4 → H4 D = some (.lst ys) ∧ ∃ m', m' < m ∧ W (i + 1) m' (ys ++ [y]) (upd H4 D (.lst (ys ++ [y])))) ∧ ∀ v H3, J.yld i H2 v H3 → te (some v :: pick idx σ) H3 N))
def tComp (idx : List Nat) (wi : TI) (te : TE) : TE := fun σ H Q => wi σ H fun J H1 => ∀ D, H1 D = none → CompW J idx σ te D Q H1
structure BlockAt (X : Cx) (pins : List (Addr × Obj)) (H : Hp) (C : Addr) (h : Heap) : Prop where
 ns : ∃ m, h.Ns C m
 fr : H C = none
 nl : C ≠ X.env.locals
 yo : X.s₀.heap.objs.size ≤ C
 nc : ∀ x c, X.env.cells.lookup x = some c → c ≠ C
 np : ∀ p ∈ X.pn ++ pins, p.1 ≠ C
theorem comp_core {elt iter : Expr} {px pos : Pos} {te : TE} {Q : VK} {RR : Value → Addr → Result → Shared → Prop} {E : Value → Shared → Prop} (hc : X.calm = true) (C : CompOk X scope cl x M idx)
  (he : ∀ fp s H, PE (cxComp X (x :: M) scope cl fp s H) elt te) {it : Addr} {tn : Nat → Heap → Prop} {J : It} (I : Inv X pins σ H s) (T : Turn X.prog X.w X.K (.Name x px) J fp it tn) (st : tn 0 s.heap) (f : ∀ b ∈ fp, FpOk X pins H b)
  (h : ∀ D, H D = none → CompW J idx σ te D Q H)
  (hR : ∀ D H' s', Inv X pins σ H' s' → BlockAt X pins H' (s.heap.objs.size + 1) s'.heap → Q (.ref D) H' → RR (.ref D) (s.heap.objs.size + 1) (.ok .next) s') :
  wpAny (model X.prog X.w) X.A (newList []) (fun acc s₃ => wpAny (model X.prog X.w) X.A (newFunctionEnv scope X.env.globals cl [] X.env.qual none .none (some X.env)) (fun cenv s₄ =>
   codeAny (model X.prog X.w) X.A (.compStart (.ListComp elt [⟨.Name x px, iter, [], 0⟩] scope pos) 0 (.ref it) acc { cenv with scope := relabel scope X.env }) (RR acc cenv.locals) s₄) E s₃) E s := by
 have hO := T.obj 0 _ st
 obtain ⟨W, ⟨m0, w0⟩, turn⟩ := h s.heap.objs.size (I.hok.fresh (Nat.le_refl _))
 refine wpAny_newObj_type (wpAny_newFunctionEnv C.nocell (by intro y hy; simp at hy) (fun h₁ hns₁ hsb₁ => ?_) C.kind)
 dsimp only at hns₁ hsb₁ ⊢
 have hsz : (s.heap.push { cls := .type "list", dict := none, data := .seq ([] : List Value).toArray }).objs.size = s.heap.objs.size + 1 := Heap.size_push ..
 rw [hsz] at hns₁ hsb₁ ⊢
 have old1 : ∀ b o, (s.heap.push { cls := .type "list", dict := none, data := .seq ([] : List Value).toArray }).get? b = some o → b ≠ s.heap.objs.size + 1 → h₁.get? b = some o := fun b o e ne =>
  (hsb₁.2 b ne).trans (Heap.get?_push_of_some _ e)
 have old : ∀ b o, s.heap.get? b = some o → h₁.get? b = some o := fun b o e => old1 b o (Heap.get?_push_of_some _ e) (Nat.ne_of_lt (Nat.lt_succ_of_lt (Heap.lt_size e)))
 have hD : h₁.get? s.heap.objs.size = some { cls := .type "list", data := .seq ([] : List Value).toArray } := old1 _ _ (Heap.get?_push_size _ rfl) (Nat.ne_of_lt (Nat.lt_succ_self _))
 have I0 := inv_comp (t := s.toks + ([] : List (Str × Value)).length) C I f hO old hD hns₁
 have stat : ∀ {H' : Hp}, (∀ b ∈ fp, H' b = none) → ∀ b ∈ fp, FpOk (cxComp X (x :: M) scope cl fp s H) [] H' b := fun hn b hb => by
  obtain ⟨f0, f1, f2, f3, f4, f5⟩ := f b hb
  obtain ⟨o, e, _⟩ := hO b hb
  have ok := cx_ok (x := x) (M := M) C I f hO
  exact ⟨hn b hb, (ok.exf b hb).1, ok.exfs b hb, .inl hb, fun y c z => f4 y c (C.look z), fun p hp => absurd (show p ∈ ([] : List (Addr × Obj)) from hp) (by simp)⟩
 have st1 : tn 0 h₁ := T.keep _ _ _ st fun b _ o e => old b o e
 have fr0 : ∀ b ∈ fp, upd H s.heap.objs.size (.lst []) b = none := fun b hb => by
  obtain ⟨o, e, _⟩ := hO b hb
  rw [upd_ne (Nat.ne_of_lt (Heap.lt_size e))]
  exact (f b hb).1
 have loop : codeAny (model X.prog X.w) X.A (.compLoop (.ListComp elt [⟨.Name x px, iter, [], 0⟩] scope pos) 0 (.ref it) (.ref s.heap.objs.size) (compEnvC scope cl (s.heap.objs.size + 1) X.env)) (RR (.ref s.heap.objs.size) (s.heap.objs.size + 1))
   { s with heap := h₁, toks := s.toks + ([] : List (Str × Value)).length } := by
  refine compLoop_any (fun n s' => ∃ i o ys H', Inv (cxComp X (x :: M) scope cl fp s H) [] (o :: pick idx σ) H' s' ∧ tn i s'.heap ∧ (∀ b ∈ fp, H' b = none) ∧ W i n ys H') ?_ m0 ⟨0, none, [], _, I0, st1, fr0, w0⟩
  rintro n s3 ⟨i, o, ys, H3, I3, st3, fr3, w3⟩
  obtain ⟨hD3, hz3, alt⟩ := turn i n ys H3 w3
  rcases alt with ⟨stop, q⟩ | ⟨go, N, hN, step⟩
  ·refine thn (T.done (cxComp X (x :: M) scope cl fp s H) rfl rfl rfl hc i [] s3 _ H3 _ I3 (stat fr3) st3 stop) fun r s4 ⟨hr, I4⟩ => ?_
   subst hr
   have u4 : Un (frs X.stack) fp H H3 s.heap s4.heap := I4.base
   have I5 : Inv X pins σ H3 s4 := I.call' I4.os u4 I4.hok I4.bare fun b hb => ⟨(f b hb).2.2.2.1, (f b hb).2.1, (f b hb).2.2.2.2.1, (f b hb).2.2.2.2.2⟩
   obtain ⟨m4, hn4, _⟩ := I4.loc
   refine hR _ H3 s4 I5 ⟨⟨m4, hn4⟩, I4.free, ?_, ?_, fun y c e z => ?_, fun p hp z => ?_⟩ q
   ·exact Nat.ne_of_gt (Nat.lt_succ_of_lt I.lt)
   ·exact Nat.le_succ_of_le I.sz
   ·obtain ⟨v, k⟩ := I.cell y c e
    rw [z] at k
    exact absurd (Nat.lt_of_succ_lt k.lt) (Nat.lt_irrefl _)
   ·have q1 := Heap.lt_size (I.pin p hp).1
    rw [z] at q1
    exact absurd (Nat.lt_of_succ_lt q1) (Nat.lt_irrefl _)
  ·refine thn (T.item (cxComp X (x :: M) scope cl fp s H) rfl rfl rfl hc i [] s3 _ H3 _ I3 (stat fr3) st3 go) fun r s4 ⟨u, hr, h4⟩ => ?_
   subst hr
   refine thn h4 fun _ s5 ⟨v, H5, I5, r5, y5, st5, fr5⟩ => ?_
   have I5' := I5.pinned (stat fr5) (T.obj _ _ st5)
   have G : PG (cxComp X (x :: M) scope cl fp s H) (.Name x px) (gName 0) := pg_name C.nd rfl (.inl (lookup_relabel_local C.hx)) (.inr (lookup_relabel_local C.hx))
   refine thn (G _ s5 _ H5 v u (fun σ2 H2 => σ2 = some v :: pick idx σ ∧ H2 = H5) I5' r5 ⟨rfl, rfl⟩) fun _ s6 ⟨σ6, H6, I6, e6, e6'⟩ => ?_
   subst e6 e6'
   refine thn (he fp s H _ s6 _ H6 _ I6 (step v H6 y5)) fun z s7 ⟨y, H7, I7, r7, n7⟩ => ?_
   obtain ⟨hD7, m', hm, w7⟩ := hN y H7 n7
   refine thn (mt_append _ s7 _ H7 (.ref s.heap.objs.size) [y] _ _ (fun _ H8 => H8 = upd H7 s.heap.objs.size (.lst (ys ++ [y]))) I7 rfl (.cons r7 .nil) ⟨_, ys, y, rfl, rfl, hD7, hz3, rfl⟩) fun _ s8 ⟨_, H8, I8, _, e8⟩ => ?_
   subst e8
   refine ⟨m', hm, i + 1, some v, ys ++ [y], _, I8.unpinned, T.keep _ _ _ st5 fun b hb o e => (I8.pin (b, o) (List.mem_append_right _ (List.mem_append_right _ (mem_pinsAt hb e)))).1, fun b hb => ?_, w7⟩
   obtain ⟨o, e, _⟩ := T.obj _ _ st5 b hb
   exact (I8.pin (b, o) (List.mem_append_right _ (List.mem_append_right _ (mem_pinsAt hb e)))).2.1
 exact codeAny_compStart_list loop (T.self _ 0 _ _ _ st1 loop)
theorem pe_comp {elt iter : Expr} {px pos : Pos} {wi : TI} {te : TE} (hc : X.calm = true) (hi : PI X (.Name x px) iter wi) (C : CompOk X scope cl x M idx) (he : ∀ fp s H, PE (cxComp X (x :: M) scope cl fp s H) elt te)
  (hs : ∀ x, foldedSetIterable iter X.env x = pure x := by intro _; rfl) : PE X (.ListComp elt [⟨.Name x px, iter, [], 0⟩] scope pos) (tComp idx wi te) := by
 intro pins s σ H Q I h
 rw [eval_ListComp]
 refine wpAny_comprehension_free (use := none) rfl hs C.clos C.kind C.names (thn (hi pins s σ H _ I h) fun xv s1 h1 => thn h1 fun itv s2 h2 => ?_)
 obtain ⟨it, fp, tn, J, H2, e, I2, T, st2, f2, hW⟩ := h2
 subst e
 refine comp_core (RR := fun acc C => compPost (model X.prog X.w) X.A X.xe none (EP X pins σ Q) acc C) (Q := Q) hc C he I2 T st2 f2 hW fun D H' s' I' B q => ?_
 obtain ⟨m, hn⟩ := B.ns
 exact ⟨m, hn, fun h' hs' => ⟨.ref D, H', I'.turned (t' := s'.toks) (fun b o hb e => (hs'.2 b hb).trans e) B.fr B.nl (.inr B.yo) B.nc B.np, rfl, q⟩⟩
theorem ps_setcomp {elt iter : Expr} {i : Nat} {y : Str} {px py pos spos : Pos} {wi : TI} {te : TE} (hN : X.N.Nodup) (hy : X.N[i]? = some y) (hl : X.env.scope.names.lookup y = some .local) (hc : X.calm = true) (hi : PI X (.Name x px) iter wi)
  (C : CompOk X scope cl x M idx) (he : ∀ fp s H, PE (cxComp X (x :: M) scope cl fp s H) elt te)
  (hsw : swapsWith (.ListComp elt [⟨.Name x px, iter, [], 0⟩] scope pos) (some (.Name y py)) spos.line X.env = pure true := by rfl)
  (hs : ∀ x, foldedSetIterable iter X.env x = pure x := by intro _; rfl) : PS X (.Assign [.Name y py] (.ListComp elt [⟨.Name x px, iter, [], 0⟩] scope pos) spos) (tAsg (tComp idx wi te) (gName i)) := by
 intro pins s σ H D I h
 rw [exec_Assign_Name_used _ _ _ _ hsw]
 refine wpAny_bind (wpAny_standAt (wpAny_bind ?_))
 show wpAny _ X.A (do let _ ← comprehension (.ListComp elt [⟨.Name x px, iter, [], 0⟩] scope pos) scope X.env _ (newList []) false (eval iter X.env) (some (assign (.Name y py) X.env))) _ _ s
 refine wpAny_bind (wpAny_mono (wpAny_comprehension_free (use := some (assign (.Name y py) X.env)) (Q := fun _ s' => SP X pins D .next s') rfl hs C.clos C.kind C.names
  (thn (hi pins s σ H _ I h) fun xv s1 h1 => thn h1 fun itv s2 h2 => ?_)) (fun _ s' hq => wpAny_pure (wpAny_pure hq)) fun _ _ e => e)
 obtain ⟨it, fp, tn, J, H2, e, I2, T, st2, f2, hW⟩ := h2
 subst e
 refine comp_core (RR := fun acc C => compPost (model X.prog X.w) X.A X.xe (some (assign (.Name y py) X.env)) (fun _ s' => SP X pins D .next s') acc C) (Q := fun x H1 => gName i x σ H1 D.nx) hc C he I2 T st2 f2 hW fun D' H' s' I' B q => ?_
 obtain ⟨m, hn⟩ := B.ns
 show wpAny _ X.A (assign (.Name y py) X.env (.ref D')) _ _ s'
 refine wpAny_assign_Name (store_ok2 I' hN hy (.inl hl) (v := .ref D') rfl (fun s'' I'' hs'' => ?_) (.inr hl))
 obtain ⟨a, hsb, ha⟩ := hs''
 have hne : s2.heap.objs.size + 1 ≠ a := by
  rcases ha with rfl | ha
  ·exact B.nl
  ·exact fun z => B.nc y a ha z.symm
 refine ⟨m, hn.sameBut hsb hne, fun h' hs' => ?_⟩
 exact ⟨_, H', I''.turned (t' := s''.toks) (fun b o hb e => (hs'.2 b hb).trans e) B.fr B.nl (.inr B.yo) B.nc B.np, q⟩
end
theorem comp_list {K : W.Frag} {a D : Addr} {xs : List V} {idx : List Nat} {σ : St} {te : TE} {Q : VK} {H : Hp} (Pv : Nat → List V → Hp → Prop) (h0 : Pv 0 [] (upd H D (.lst [])))
  (hl : ∀ i ys H2, i ≤ xs.length → Pv i ys H2 → SqL K H2 a xs ∧ H2 D = some (.lst ys) ∧ ys.length < sizeLine)
  (hs : ∀ i v ys H2, xs[i]? = some v → Pv i ys H2 → te (some v :: pick idx σ) H2 fun y H4 => H4 D = some (.lst ys) ∧ Pv (i + 1) (ys ++ [y]) (upd H4 D (.lst (ys ++ [y])))) (hd : ∀ ys H2, Pv xs.length ys H2 → Q (.ref D) H2) :
  CompW (Itl K a) idx σ te D Q H := by
 refine ⟨fun i m ys H2 => m = xs.length - i ∧ i ≤ xs.length ∧ Pv i ys H2, ⟨xs.length, by simp, Nat.zero_le _, h0⟩, ?_⟩
 rintro i m ys H2 ⟨rfl, hi, p⟩
 obtain ⟨q1, q2, q3⟩ := hl i ys H2 hi p
 refine ⟨q2, q3, ?_⟩
 by_cases hlt : i < xs.length
 ·refine .inr ⟨⟨xs, xs[i], q1, by simp [hlt]⟩, fun y H4 => H4 D = some (.lst ys) ∧ Pv (i + 1) (ys ++ [y]) (upd H4 D (.lst (ys ++ [y]))), fun z H4 q => ⟨q.1, xs.length - (i + 1), by omega, rfl, hlt, q.2⟩, fun v H3 y => ?_⟩
  obtain ⟨e, y⟩ := y
  subst e
  exact hs i v ys _ (y xs q1) p
 ·have e : i = xs.length := by omega
  subst e
  exact .inl ⟨⟨xs, q1, Nat.le_refl _⟩, hd ys H2 p⟩
theorem comp_range {D : Addr} {lo : Int} {n : Nat} {idx : List Nat} {σ : St} {te : TE} {Q : VK} {H : Hp} (Pv : Nat → List V → Hp → Prop) (h0 : Pv 0 [] (upd H D (.lst [])))
  (hl : ∀ i ys H2, i ≤ n → Pv i ys H2 → H2 D = some (.lst ys) ∧ ys.length < sizeLine)
  (hs : ∀ i ys H2, i < n → Pv i ys H2 → te (some (.int (lo + i)) :: pick idx σ) H2 fun y H4 => H4 D = some (.lst ys) ∧ Pv (i + 1) (ys ++ [y]) (upd H4 D (.lst (ys ++ [y])))) (hd : ∀ ys H2, Pv n ys H2 → Q (.ref D) H2) :
  CompW (Itr lo n) idx σ te D Q H := by
 refine ⟨fun i m ys H2 => m = n - i ∧ i ≤ n ∧ Pv i ys H2, ⟨n, by simp, Nat.zero_le _, h0⟩, ?_⟩
 rintro i m ys H2 ⟨rfl, hi, p⟩
 obtain ⟨q2, q3⟩ := hl i ys H2 hi p
 refine ⟨q2, q3, ?_⟩
 by_cases hlt : i < n
 ·refine .inr ⟨hlt, fun y H4 => H4 D = some (.lst ys) ∧ Pv (i + 1) (ys ++ [y]) (upd H4 D (.lst (ys ++ [y]))), fun z H4 q => ⟨q.1, n - (i + 1), by omega, rfl, hlt, q.2⟩, fun v H3 y => ?_⟩
  obtain ⟨e, y⟩ := y
  subst e y
  exact hs i ys _ hlt p
 ·have e : i = n := by omega
  subst e
  exact .inl ⟨Nat.le_refl _, hd ys H2 p⟩
end L2
namespace L2
open PySem PySem.Spec PyProof.Rows
def DK {α : Type} : Sem α → Prop
 | .pure _ => True
 | .raise _ => True
 | .unsupported _ => True
 | .finish _ => True
 | .rule _ k => DK (k ())
 | .at _ k => DK (k ())
 | .load _ _ k => ∀ o, DK (k o)
 | .update _ _ f k => (∀ o, (f o).dict = o.dict ∧ (o.isFreed = false → (f o).isFreed = false)) ∧ DK (k ())
 | .alloc _ k => ∀ a, DK (k a)
 | .loadIfAlive _ k => ∀ o, DK (k o)
 | .point _ k => DK (k ())
 | .register _ _ => True
 | .fresh k => ∀ t, DK (k t)
 | .ask k => ∀ x, DK (k x)
 | .choose _ _ k => ∀ n, DK (k n)
 | .os _ _ k => ∀ r, DK (k r)
 | .call .. => False
 | .handled _ k => ∀ x, DK (k x)
 | .newGen _ k => ∀ x, DK (k x)
 | .genState _ k => ∀ x, DK (k x)
 | .resume .. => False
 | .yield .. => True
 | .stack k => ∀ x, DK (k x)
 | .fork .. => True
 | .thread k => ∀ x, DK (k x)
 | .await .. => True
theorem dk_bind0 {α β : Type} {m : Sem α} {f : α → Sem β} (h : DK m) (hf : ∀ a, DK (f a)) : DK (m.bind f) := by
 induction m with
 | pure a => exact hf a
 | raise | unsupported | finish | register | yield | fork | await => trivial
 | call | resume => exact False.elim h
 | update a p g k ih => exact ⟨h.1, ih () h.2⟩
 | rule _ k ih | «at» _ k ih | point _ k ih => exact ih () h
 | load _ _ k ih | alloc _ k ih | loadIfAlive _ k ih | fresh k ih | ask k ih | choose _ _ k ih | os _ _ k ih | handled _ k ih | newGen _ k ih | genState _ k ih | stack k ih | thread k ih => exact fun x => ih x (h x)
theorem dk_bind {α β : Type} {m : Sem α} {f : α → Sem β} (h : DK m) (hf : ∀ a, DK (f a)) : DK (m >>= f) := dk_bind0 h hf
def KD (h h' : Heap) : Prop := ∀ b o, h.get? b = some o → ∃ o', h'.get? b = some o' ∧ o'.dict = o.dict
theorem KD.refl (h : Heap) : KD h h := fun _ o e => ⟨o, e, rfl⟩
theorem KD.trans {h h' h'' : Heap} (a : KD h h') (b : KD h' h'') : KD h h'' := fun c o e => by
 obtain ⟨o1, e1, d1⟩ := a c o e
 obtain ⟨o2, e2, d2⟩ := b c o1 e1
 exact ⟨o2, e2, d2.trans d1⟩
theorem KD.push (h : Heap) (o : Obj) : KD h (h.push o) := fun _ u e => ⟨u, Heap.get?_push_of_some o e, rfl⟩
theorem KD.update (h : Heap) (a : Addr) {f : Obj → Obj} (hf : ∀ o, (f o).dict = o.dict ∧ (o.isFreed = false → (f o).isFreed = false)) : KD h (h.update a f) := fun b u e => by
 by_cases hb : b = a
 ·subst hb
  exact ⟨f u, Heap.get?_update_self f e ((hf u).2 (Heap.get?_some_iff.mp e).2), (hf u).1⟩
 ·exact ⟨u, (Heap.get?_update_other h f (Ne.symm hb)).trans e, rfl⟩
theorem wp_dk {α : Type} {M : Model} {Γ : PySem.Ctx} {t : Sem α} (h : DK t) : ∀ {Q : α → Pos → Shared → Prop} {E : Value → Pos → Shared → Prop} {p : Pos} {s : Shared}, Sem.wp M Γ t Q E p s →
  Sem.wp M Γ t (fun a p' s' => Q a p' s' ∧ KD s.heap s'.heap) (fun e p' s' => E e p' s' ∧ KD s.heap s'.heap) p s := by
 induction t with
 | pure a => exact fun hq => ⟨hq, KD.refl _⟩
 | raise e => exact fun hq => ⟨hq, KD.refl _⟩
 | unsupported | finish | register | yield | fork | await => exact fun hq => hq
 | call | resume => exact False.elim h
 | update a p g k ih =>
  rintro Q E p s ⟨h1, h2⟩
  refine ⟨h1, Sem.wp_mono M Γ _ (fun _ _ s' z => ⟨z.1, (KD.update s.heap a h.1).trans z.2⟩) (fun _ _ s' z => ⟨z.1, (KD.update s.heap a h.1).trans z.2⟩) _ _ (ih () h.2 h2)⟩
 | alloc o k ih =>
  intro Q E p s hq
  exact Sem.wp_mono M Γ _ (fun _ _ s' z => ⟨z.1, (KD.push s.heap o).trans z.2⟩) (fun _ _ s' z => ⟨z.1, (KD.push s.heap o).trans z.2⟩) _ _ (ih _ (h _) hq)
 | rule _ k ih | «at» _ k ih | point _ k ih => exact fun hq => ih () h hq
 | load a _ k ih =>
  rintro Q E p s ⟨o, ho, hq⟩
  exact ⟨o, ho, ih o (h o) hq⟩
 | genState a k ih =>
  rintro Q E p s ⟨o, ho, hq⟩
  exact ⟨o, ho, ih _ (h _) hq⟩
 | choose src n k ih =>
  rintro Q E p s ⟨hn, hq⟩
  exact ⟨hn, ih _ (h _) hq⟩
 | loadIfAlive _ k ih | fresh k ih | ask k ih | os _ _ k ih | handled _ k ih | newGen _ k ih | stack k ih | thread k ih => exact fun hq => ih _ (h _) hq
theorem wpAny_dk {α : Type} {M : Model} {A : Around} {t : Sem α} {Q : α → Shared → Prop} {E : Value → Shared → Prop} {s : Shared} (h : DK t) (w : wpAny M A t Q E s) :
  wpAny M A t (fun a s' => Q a s' ∧ KD s.heap s'.heap) (fun e s' => E e s' ∧ KD s.heap s'.heap) s := fun Γ p hΓ => wp_dk h (w Γ p hΓ)
theorem dk_load (a : Addr) : DK (load a) := fun _ => True.intro
theorem dk_mapFields (f : Array Value → Array Value) : ∀ o : Obj, (Obj.mapFields f o).dict = o.dict ∧ (o.isFreed = false → (Obj.mapFields f o).isFreed = false) := fun o => by
 obtain ⟨c, d, dt, sl⟩ := o
 cases dt <;> exact ⟨rfl, fun z => z⟩
theorem dk_updateField (a : Addr) (i : Nat) (v : Value) : DK (updateField a i v) := by
 unfold updateField
 refine dk_bind (dk_load a) fun o => ?_
 split
 ·split
  ·exact ⟨dk_mapFields _, True.intro⟩
  ·trivial
 ·trivial
theorem dk_setField (v : Value) (i : Nat) (x : Value) : DK (setField v i x) := by
 unfold setField
 split
 ·exact dk_updateField _ _ _
 ·trivial
theorem dk_pure {α : Type} (a : α) : DK (pure a : Sem α) := True.intro
theorem dk_unsupported {α : Type} (w : String) : DK (unsupported w : Sem α) := True.intro
theorem dk_stack : DK stack := fun _ => True.intro
theorem dk_field (v : Value) (i : Nat) : DK (field v i) := by
 unfold field fieldsOf
 repeat' (first | exact dk_pure _ | exact dk_unsupported _ | exact dk_load _ | exact dk_loadPart _ _ | refine dk_bind ?_ fun _ => ?_ | split)
theorem dk_setFlight (e : Value) (f : Option Addr) : DK (setFlight e f) := by
 unfold setFlight
 refine dk_bind (dk_field _ _) fun tb => ?_
 split
 ·exact dk_setField _ _ _
 ·exact dk_pure _
theorem dk_update (a : Addr) {f : Obj → Obj} (h : ∀ o, (f o).dict = o.dict ∧ (o.isFreed = false → (f o).isFreed = false)) : DK (update a f) := ⟨h, True.intro⟩
theorem dk_behind (env : Env) (outer : List Env) : DK (behindIsImport env outer) := by
 unfold behindIsImport
 repeat' (first | exact dk_pure _ | exact dk_unsupported _ | exact dk_field _ _ | refine dk_bind ?_ fun _ => ?_ | split)
theorem dk_kept (env : Env) (b : Bool) (l : List Env) : DK (keptBack env b l) := by
 unfold keptBack underTheClaimsCaller
 repeat' (first | exact dk_pure _ | exact dk_unsupported _ | exact dk_stack | refine dk_bind ?_ fun _ => ?_ | split)
theorem dk_ready : ∀ l : List Env, DK (readyFrames l)
 | [] => True.intro
 | env :: outer => by
  unfold readyFrames
  repeat' (first | exact dk_pure _ | exact dk_unsupported _ | exact dk_load _ | exact dk_behind _ _ | exact dk_kept _ _ _ | exact dk_ready outer | exact dk_update _ (fun o => ⟨rfl, fun z => by obtain ⟨c, d, dt, sl⟩ := o; cases dt <;> exact z⟩) | refine dk_bind ?_ fun _ => ?_ | split)
theorem dk_frameOf (env : Env) : DK (PySem.frameOf env) := by
 unfold PySem.frameOf frameEnvs frameObject
 repeat' (first | exact dk_pure _ | exact dk_unsupported _ | exact dk_stack | exact dk_ready _ | refine dk_bind ?_ fun _ => ?_ | split)
theorem dk_place (f : Addr) (b : Bool) : DK (entryPlaceOf f b) := by
 unfold entryPlaceOf
 repeat' (first | exact dk_pure _ | exact dk_unsupported _ | exact dk_stack | refine dk_bind ?_ fun _ => ?_ | split)
theorem dk_alloc (o : Obj) : DK (alloc o) := fun _ => True.intro
theorem dk_newFields (ty : String) (vs : List Value) : DK (newFields ty vs) := by
 unfold newFields newObj newObjAsIs
 dsimp only
 repeat' (first | exact dk_pure _ | exact dk_unsupported _ | exact dk_alloc _ | refine dk_bind ?_ fun _ => ?_ | split)
theorem dk_noteFrame (e : Value) (env : Env) : DK (noteFrame e env) := by
 unfold noteFrame EntryCells.newEntry
 repeat' (first | exact dk_pure _ | exact dk_unsupported _ | exact dk_field _ _ | exact dk_setField _ _ _ | exact dk_frameOf _ | exact dk_place _ _ | exact dk_newFields _ _ | refine dk_bind ?_ fun _ => ?_ | split)
theorem dk_leaving (env : Env) (e : Value) : DK (leaving env e) := dk_bind (dk_noteFrame e env) fun _ => dk_setFlight e none
theorem keeping {α : Type} {M : Model} {A : Around} {t : Sem α} {Q : α → Shared → Prop} {E : Value → Shared → Prop} {s : Shared} (h : DK t) (w : wpAny M A t (fun a s' => KD s.heap s'.heap → Q a s') E s) : wpAny M A t Q E s :=
 wpAny_mono (wpAny_dk h w) (fun _ _ z => z.1 z.2) fun _ _ z => z.1
end L2
namespace L2
open PySem PySem.Spec PyProof.Rows
def Fly (outer : List Env) (s : Shared) (H' : Hp) (x : Addr) (C : Value) (h : Heap) : Prop :=
 ∃ B a0, Heap.FlyingW B outer x C a0 h ∧ (∀ b, H' b ≠ none → ∃ o, B.get? b = some o) ∧ (∀ b o, s.heap.get? b = some o → b ∉ frs outer → ∃ o', B.get? b = some o') ∧ H' x = none
def CX1 (P : Program) (w : World) : CXT := fun outer H s E e s' =>
 ∃ x C od H', e = .ref x ∧ s'.os = s.os ∧ AllBare s'.gens ∧ Un (frs outer) [] H H' s.heap s'.heap ∧ HOk P w H' s'.heap ∧ Fly outer s H' x C s'.heap ∧ (∃ ox, s'.heap.get? x = some ox ∧ ox.dict = od) ∧ E C od H'
section
variable {P : Program} {w : World} {H H' : Hp} {h h' : Heap} {a : Addr} {o : HO}
theorem ObjOk.there (x : ObjOk P w H h a o) : ∃ ob, h.get? a = some ob := by
 cases o with
 | lst xs => obtain ⟨_, _, _, _, e⟩ := x; exact ⟨_, e⟩
 | tup xs => obtain ⟨_, _, _, ob, e, _⟩ := x; exact ⟨ob, e⟩
 | dK kvs => obtain ⟨_, _, _, _, o, _, _, e, _⟩ := x; exact ⟨_, e⟩
 | dT kvs => obtain ⟨_, _, _, _, o, _, _, e, _⟩ := x; exact ⟨_, e⟩
 | set S n => obtain ⟨o, _, _, _, e, _⟩ := x; exact ⟨_, e⟩
 | ins C dx fs => obtain ⟨_, _, _, e, _⟩ := x; exact ⟨_, e⟩
 | own y => exact x
 | xd fs => obtain ⟨_, ⟨_, _, _, e, _⟩, _⟩ := x; exact ⟨_, e⟩
 | rng lo hi => obtain ⟨_, _, _, e⟩ := x; exact ⟨_, e⟩
 | frz ob u => obtain ⟨e, _⟩ := x; exact ⟨_, e⟩
 | tbl ps => exact ⟨_, show h.get? a = some _ from x⟩
 | met f y => exact ⟨_, show h.get? a = some _ from x⟩
 | ext φ => obtain ⟨_, e, _⟩ := x; exact e
theorem HOk.there (x : HOk P w H h) (n : H a ≠ none) : ∃ ob, h.get? a = some ob := by
 cases e : H a with
 | none => exact absurd e n
 | some u => exact (x a u e).there
end
section
variable {X : Cx} {pins : List (Addr × Obj)} {σ : St} {H H' : Hp} {s s' : Shared} {h' : Heap}
theorem fly_on {B : Heap} (I : Inv X pins σ H s) (u : Un (frs X.stack) [] H H' s.heap s'.heap) (hok : HOk X.prog X.w H' s'.heap) (b1 : ∀ b, H' b ≠ none → ∃ o, B.get? b = some o)
  (b2 : ∀ b o, s.heap.get? b = some o → b ∉ frs X.stack → ∃ o', B.get? b = some o') (st : ∀ b o, B.get? b = some o → s'.heap.get? b = some o) (st' : ∀ b o, B.get? b = some o → h'.get? b = some o) (up : s'.heap.UpToSlots h') :
  Un (frs X.stack) [] H H' s.heap h' ∧ HOk X.prog X.w H' h' := by
 have sl : ∀ b o, s.heap.get? b = some o → b ∈ frs X.stack → ∃ sl, h'.get? b = some { o with slots := sl } := fun b o e hb => by
  obtain ⟨_, o', e', nf⟩ := I.stack.mem hb
  rw [e] at e'; cases e'
  obtain ⟨sl, e1⟩ := u.slot b o e (I.stkFree b hb) hb (by simp)
  obtain ⟨sl', e2⟩ := up b _ e1 nf
  exact ⟨sl', e2⟩
 refine ⟨⟨fun b o e n hb _ => ?_, fun b o e _ hb _ => sl b o e hb, fun b o e n hx => u.free b o e n hx, fun b o e _ => ?_, u.tups, u.frzs, u.tbls⟩, fun b ob e => ?_⟩
 ·have e1 := u.keep b o e n hb (by simp)
  obtain ⟨o', e2⟩ := b2 b o e hb
  have e3 := st b o' e2
  rw [e1] at e3; cases e3
  exact st' b _ e2
 ·by_cases hb : b ∈ frs X.stack
  ·obtain ⟨z, q⟩ := sl b o e hb
   exact ⟨_, q⟩
  ·obtain ⟨o', e2⟩ := b2 b o e hb
   exact ⟨o', st' b o' e2⟩
 ·refine (hok b ob e).stay (fun c v hc q => ?_) (fun _ q => q) fun _ _ q => q
  have hn : H' c ≠ none := by
   rcases hc with rfl | hc
   ·rw [e]; simp
   ·rw [hc]; simp
  obtain ⟨o', e2⟩ := b1 c hn
  have e3 := st c o' e2
  rw [q] at e3; cases e3
  exact st' c _ e2
theorem Inv.notfr (I : Inv X pins σ H s) {b : Addr} {o : Obj} (e : X.s₀.heap.get? b = some o) (nb : b ∉ X.fs) : b ∉ frs X.stack := fun z => by
 rcases List.mem_cons.mp (I.stkSub b z) with q | q
 ·subst q
  exact absurd (Nat.lt_of_lt_of_le (Heap.lt_size e) I.ok.above) (Nat.lt_irrefl _)
 ·exact nb q
def Throws (X : Cx) (T : Value → Hp → Prop) : Prop :=
 ∀ (pins : List (Addr × Obj)) (σ : St) (H : Hp) (s : Shared) (h' : Heap) (e : Addr) (cls : Value) (args : List Value), Inv X pins σ H s → Heap.MadeExcOf s.heap h' e cls args → T cls H → X.xe (.ref e) { s with heap := h' }
end
section
variable {P : Program} {w : World} {K : W.Frag} {mg : Str → Option Value} {base : Heap} {N : List Str} {qual : Str} {scope : Scope} {f : Addr} {cd : Value} {A : Around} {outer : List Env} {s : Shared} {H : Hp} {E : XK}
theorem throws_cx : Throws (cxOf (CX1 P w) P w K mg base N qual scope f cd A outer s H E) (fun cls H' => E cls none H') := by
 intro pins σ H1 s1 h2 e cls args I hx hT
 have hin : ∀ env' ∈ (cxOf (CX1 P w) P w K mg base N qual scope f cd A outer s H E).stack, ∀ a, env'.frame = some a → a ∈ frs (cxOf (CX1 P w) P w K mg base N qual scope f cd A outer s H E).stack := fun env' he a ha => List.mem_filterMap.mpr ⟨env', he, ha⟩
 show wpAny (model P w) _ (leaving _ (.ref e)) _ _ { s1 with heap := h2 }
 refine keeping (dk_leaving _ _) (PySem.wpAny_leaves_madeW (s := { s1 with heap := h2 }) (base := W.hideAll s1.heap (frs (cxOf (CX1 P w) P w K mg base N qual scope f cd A outer s H E).stack)) (h := s1.heap) I.ok.frames rfl (fun b o q => W.of_hideAll _ q) (W.funFrames_hide I.stack hin) hx fun h' t x1 _ _ x4 kd => ?_)
 have inB : ∀ b o, s1.heap.get? b = some o → b ∉ frs (cxOf (CX1 P w) P w K mg base N qual scope f cd A outer s H E).stack → (W.hideAll s1.heap (frs (cxOf (CX1 P w) P w K mg base N qual scope f cd A outer s H E).stack)).get? b = some o := fun b o q nb => W.hideAll_get _ q nb
 have b1 : ∀ b, H1 b ≠ none → ∃ o, (W.hideAll s1.heap (frs (cxOf (CX1 P w) P w K mg base N qual scope f cd A outer s H E).stack)).get? b = some o := fun b n => by
  obtain ⟨ob, q⟩ := I.hok.there n
  exact ⟨ob, inB b ob q fun z => n (I.stkFree b z)⟩
 have b2 : ∀ b o, s1.heap.get? b = some o → b ∉ frs (cxOf (CX1 P w) P w K mg base N qual scope f cd A outer s H E).stack → ∃ o', (W.hideAll s1.heap (frs (cxOf (CX1 P w) P w K mg base N qual scope f cd A outer s H E).stack)).get? b = some o' := fun b o q nb => ⟨o, inB b o q nb⟩
 have r := fly_on (s' := { s1 with heap := h2 }) (h' := h') I (Un.kept hx.keeps) (I.hok.kept hx.keeps) b1 b2 (fun b o q => hx.keeps b o (W.of_hideAll _ q)) x1.1 x4
 have I2 : Inv (cxOf (CX1 P w) P w K mg base N qual scope f cd A outer s H E) pins σ H1 { s1 with heap := h' } := I.call' rfl r.1 r.2 I.bare fun b z => absurd z (by simp)
 obtain ⟨_, hthere, _⟩ := hx.there
 obtain ⟨ox, hox, hdx⟩ := kd _ _ hthere
 refine ⟨e, cls, none, H1, rfl, I.os, I.bare, I2.base, I2.hok, ⟨_, _, x1, b1, fun b o q nb => ?_, ?_⟩, ⟨ox, hox, hdx⟩, hT⟩
 ·obtain ⟨o', q'⟩ := I.base.there b o q (by intro z; exact absurd (show b ∈ ([] : List Addr) from z) (by simp))
  exact b2 b o' q' (I.notfr q nb)
 ·cases q : H1 e with
  | none => rfl
  | some u =>
   obtain ⟨ob, q'⟩ := I.hok.there (a := e) (by rw [q]; simp)
   rw [hx.new] at q'
   cases q'
theorem passes_cx : Passes (CX1 P w) (cxOf (CX1 P w) P w K mg base N qual scope f cd A outer s H E) E := by
 intro pins σ H1 s1 e s' I h
 obtain ⟨x, C, od, H', rfl, os, bare, u, hok, ⟨B, a0, fl, b1, b2, fx⟩, ⟨ox, hox, hdx⟩, hE⟩ := h
 show wpAny (model P w) _ (leaving _ (.ref x)) _ _ s'
 refine keeping (dk_leaving _ _) (PySem.wpAny_leaves_onW I.ok.frames rfl fl fun h' fl' up kd => ?_)
 obtain ⟨oy, hoy, hdy⟩ := kd _ _ hox
 have r := fly_on (h' := h') I u hok b1 b2 fl.1 fl'.1 up
 have I2 : Inv (cxOf (CX1 P w) P w K mg base N qual scope f cd A outer s H E) pins σ H' { s' with heap := h' } := I.call' os r.1 r.2 bare fun b z => absurd z (by simp)
 refine ⟨x, C, od, H', rfl, I2.os, bare, I2.base, I2.hok, ⟨B, a0, fl', b1, fun b o q nb => ?_, fx⟩, ⟨oy, hoy, hdy.trans hdx⟩, hE⟩
 obtain ⟨o', q'⟩ := I.base.there b o q (by intro z; exact absurd (show b ∈ ([] : List Addr) from z) (by simp))
 exact b2 b o' q' (I.notfr q nb)
theorem Fun.okX {x : Str} {st : Stmt} {fd : FuncData} {ps : List Str} {k : Nat} {sp : Sp} (F : Fun K x qual st f fd) (S : FnScope N ps (defScope st)) (len : ∀ vs H Q E, sp vs H Q E → vs.length = ps.length)
  (hbody : ∀ (cdv : Value) (A : Around) (outer : List Env) (s : Shared) (H : Hp) (vs : List V) (Q : VK) (E : XK), Room k (A.deeper (envOfC qual (defScope st) s.heap.objs.size f cdv)) → sp vs H Q E →
   ∃ t, PSs (cxOf (CX1 P w) P w K mg base N qual (defScope st) f cdv A outer s H E) (defBody st) t ∧ t { nx := fun _ H' => Q .non H', rt := Q } (start N vs) H) : FnOk P w K mg base (CX1 P w) (k + 1) f fd ps sp := by
 obtain ⟨oc, od, kV, doc, pm, an, cdv, ct, osl, rfl, lk, hcd⟩ := F.ex
 exact fn_of lk hcd S len fun A outer s H vs Q E hr hsp => hbody cdv A outer s H vs Q E hr hsp
end
abbrev veMro : List Value := [.type "ValueError", .type "Exception", .type "BaseException", .type "object"]
def ExcIs (K : W.Frag) (C : Addr) : Prop := W.excIn K C veMro "ValueError.__new__" = true
theorem ExcIs.obj {K : W.Frag} {C : Addr} {h : Heap} (q : ExcIs K C) (X : K.In h) :
  ∃ (bm : List Value) (Nn : Addr) (nm qn : Str) (bs : List Value) (hdct : Bool) (sn : List Str) (sub : List Value) (ab : Bool) (col : Option Bool) (dd : Option Addr) (k0 k1 k2 k3 k5 : Option Value) (mN : Str → Option Value),
   h.get? C = some (excClassObj nm qn C Nn bs bm hdct sn sub ab col dd k0 k1 k2 k3 k5 "ValueError.__new__") ∧ h.Ns Nn mN ∧ mN "__init__" = none ∧ OwnTail h veMro bm := by
 unfold ExcIs W.excIn at q
 split at q
 ·rename_i dd cd sl ho
  split at q
  ·rename_i C' bm k0 k1 k2 k3 n k5 hm hs
   simp only [Bool.and_eq_true, beq_iff_eq, Bool.not_eq_true'] at q
   obtain ⟨⟨⟨⟨⟨e1, e2⟩, hdel⟩, ht⟩, hok⟩, hni⟩ := q
   subst e1 e2
   obtain ⟨nm, bs, mro, ns, qn, hd, sn, sub, ab, col, del⟩ := cd
   dsimp only at hm hdel hok hni
   subst hm hdel
   obtain ⟨l⟩ := sl
   have hl : l = [k0, k1, k2, k3, some (.builtin "ValueError.__new__"), k5] := hs
   subst hl
   exact ⟨bm, ns, nm, qn, bs, hd, sn, sub, ab, col, dd, k0, k1, k2, k3, k5, _, X _ _ ho, .of_isNs (W.isNs_of_in X hok), W.nsMap_none_of_in X hok hni, W.tail_of_in X ht⟩
  ·cases q
 ·cases q
def excXIn (K : W.Frag) (C : Addr) (bmB : List Value) (newId : String) : Bool := match K.lookup C with
 | some ⟨.type "type", _, .cls cd, sl⟩ => (match cd.mro, sl.toList with
  | .ref C' :: bm, [_, _, _, _, some (.builtin n), _] => C' == C && n == newId && !cd.hasDel && W.tailIn K bmB bm
  | _, _ => false)
 | _ => false
def ExcIs0 (K : W.Frag) (C : Addr) : Prop := excXIn K C veMro "ValueError.__new__" = true
theorem ExcIs0.obj {K : W.Frag} {C : Addr} {h : Heap} (q : ExcIs0 K C) (X : K.In h) :
  ∃ (bm : List Value) (Nn : Addr) (nm qn : Str) (bs : List Value) (hdct : Bool) (sn : List Str) (sub : List Value) (ab : Bool) (col : Option Bool) (dd : Option Addr) (k0 k1 k2 k3 k5 : Option Value),
   h.get? C = some (excClassObj nm qn C Nn bs bm hdct sn sub ab col dd k0 k1 k2 k3 k5 "ValueError.__new__") ∧ OwnTail h veMro bm := by
 unfold ExcIs0 excXIn at q
 split at q
 ·rename_i dd cd sl ho
  split at q
  ·rename_i C' bm k0 k1 k2 k3 n k5 hm hs
   simp only [Bool.and_eq_true, beq_iff_eq, Bool.not_eq_true'] at q
   obtain ⟨⟨⟨e1, e2⟩, hdel⟩, ht⟩ := q
   subst e1 e2
   obtain ⟨nm, bs, mro, ns, qn, hd, sn, sub, ab, col, del⟩ := cd
   dsimp only at hm hdel
   subst hm hdel
   obtain ⟨l⟩ := sl
   have hl : l = [k0, k1, k2, k3, some (.builtin "ValueError.__new__"), k5] := hs
   subst hl
   exact ⟨bm, ns, nm, qn, bs, hd, sn, sub, ab, col, dd, k0, k1, k2, k3, k5, X _ _ ho, W.tail_of_in X ht⟩
  ·cases q
 ·cases q
theorem ExcIs.zero {K : W.Frag} {C : Addr} (q : ExcIs K C) : ExcIs0 K C := by
 unfold ExcIs W.excIn at q
 unfold ExcIs0 excXIn
 split at q
 ·rename_i dd cd sl ho
  split at q
  ·rename_i C' bm k0 k1 k2 k3 n k5 hm hs
   simp only [Bool.and_eq_true, beq_iff_eq, Bool.not_eq_true'] at q
   obtain ⟨⟨⟨⟨⟨e1, e2⟩, hdel⟩, ht⟩, hok⟩, hni⟩ := q
   rw [ho]
   simp [hm, hs, e1, e2, hdel, ht]
  ·cases q
 ·cases q
section
variable {X : Cx} {x : Str} {e : Expr} {es : List Expr} {t : TA} {p cpos pos : Pos} {C : Addr}
def tRaise (C : Addr) (T : Value → Hp → Prop) (t : TA) : TS := fun _ σ H => t σ H fun vs H1 => vs.length ≤ sizeLine ∧ T (.ref C) H1
theorem ps_raise {T : Value → Hp → Prop} (Th : Throws X T) (hc : X.calm = true) (EI : ExcIs X.K C) (hg : Gl X x) (hm : X.mg x = some (.ref C)) (ha : PA X (e :: es) t) (hdb : (x == ("__debug__" : Str)) = false := by decide)
  (he : starEach (e :: es) X.env = (false, eval e X.env) :: starEach es X.env := by rfl) (hpl : (backTo cpos (starEach (e :: es) X.env)).any (·.1) = false := by rfl) :
  PS X (.Raise (some (.Call (.Name x p) (e :: es) [] cpos)) none pos) (tRaise C T t) := by
 intro pins s σ H D I h
 obtain ⟨bm, Nn, nm, q, bs, hdct, sn, sub, ab, col, dd, k0, k1, k2, k3, k5, mN, c1, c2, hni, c3⟩ := EI.obj I.ok.mod.kin
 refine wpAny_Raise_call_subT (C := C) (nm := nm) (q := q) (N := Nn) (bs := bs) (bm := bm) (hdct := hdct) (sn := sn) (sub := sub) (ab := ab) (col := col) (dd := dd) (k0 := k0) (k1 := k1) (k2 := k2) (k3 := k3) (k5 := k5) (newId := "ValueError.__new__") (mN := mN) PySem.F.excBase_ValueError
  (c3.hasType (by decide +kernel)) (I.ok.hd hc) hpl hni (ld_glob I hg hm ⟨rfl, ?_⟩ hdb)
 have hA := ha cpos pins s σ H _ I h
 rw [he] at hA ⊢
 refine Calls.evalArgs_plain ?_
 refine thn hA fun us s1 ⟨vs, H1, I1, r, hz, hT⟩ => ?_
 exact ⟨rfl, by rw [← r.length]; exact hz, I1.bk _ _ c1, c2.keeps I1.bk, c3.keeps I1.bk, fun h' e' hx => Th pins σ H1 s1 h' e' _ _ I1 hx hT⟩
end
end L2
namespace L2
open PySem PySem.Spec PyProof.Rows
abbrev TEX := St → Hp → VK → XK → Prop
def PEx (X : Cx) (e : Expr) (t : TEX) : Prop :=
 ∀ (pins : List (Addr × Obj)) (s : Shared) (σ : St) (H : Hp) (Q : VK) (E : XK), Inv X pins σ H s → t σ H Q E →
  wpAny (model X.prog X.w) X.A (eval e X.env) (EP X pins σ Q) (fun e' s' => ∃ H1 s1, Inv X pins σ H1 s1 ∧ CX1 X.prog X.w X.stack H1 s1 E e' s') s
def tCallX (sp : Sp) (dvs : List V) (t : TA) : TEX := fun σ H Q E => t σ H fun vs H1 => sp (vs ++ dvs) H1 Q E
abbrev Cx.hand (X : Cx) (x : Addr) : Cx := { X with A := X.A.mark (some (.ref x)), calm := false, xe := fun _ _ => False }
section
variable {X : Cx} {pins : List (Addr × Obj)} {σ : St} {H H' : Hp} {s : Shared} {x : Addr}
theorem Cx.Ok.hand (ok : X.Ok) (x : Addr) : (X.hand x).Ok :=
 ⟨ok.mod, ok.kind, ok.glob, ok.blt, ok.above, ok.inj, ok.has, ok.cab, fun h => (nomatch (show false = true from h)), ok.frames, ok.stk, ok.exf, ok.bs, ok.bsz, ok.noex, ok.exfs, ok.funs, ok.frf⟩
theorem Inv.hand (I : Inv X pins σ H s) (x : Addr) : Inv (X.hand x) pins σ H s := ⟨I.ok.hand x, I.os, I.bare, I.base, I.loc, I.cell, I.free, I.freeC, I.pin, I.hok, I.len⟩
theorem Inv.unhand (I : Inv (X.hand x) pins σ H s) (ok : X.Ok) : Inv X pins σ H s := ⟨ok, I.os, I.bare, I.base, I.loc, I.cell, I.free, I.freeC, I.pin, I.hok, I.len⟩
theorem Inv.unset {i : Nat} {n : Str} {m : Str → Option Value} {v : Option Value} {h' : Heap} {t' : Nat} (I : Inv X pins σ H s) (hN : X.N.Nodup) (hi : X.N[i]? = some n) (hk : X.env.scope.names.lookup n = some .local)
  (hl : ∀ (i : Nat) (x : Str) (v : V), X.N[i]? = some x → σ[i]? = some (some v) → Vis X.env.scope x → ∃ u, RelV v u ∧ Look X.env s.heap m x u)
  (hn' : h'.Ns X.env.locals (fun x => if x = n then v else m x)) (hs : Heap.SameBut X.env.locals s.heap h') : Inv X pins (σ.set i none) H { s with heap := h', toks := t' } := by
 obtain ⟨m0, hn, _⟩ := id I.loc
 have hiσ : i < σ.length := by rw [I.len]; exact (List.getElem?_eq_some_iff.mp hi).1
 have cne := I.cne
 obtain ⟨oL, _, _, hoL, _⟩ := id hn
 have old : ∀ b o, X.s₀.heap.get? b = some o → b ≠ X.env.locals := fun b o e => Nat.ne_of_lt (Nat.lt_of_lt_of_le (Heap.lt_size e) I.ok.above)
 refine ⟨I.ok, I.os, I.bare, ⟨fun b o e nn hb hx => ?_, fun b o e nn hb hx => ?_, I.base.free, fun b o e hx => ?_, I.base.tups, I.base.frzs, I.base.tbls⟩, ⟨_, hn', fun j y v' e1 e2 e3 => ?_⟩, fun y c e => ?_, I.free, I.freeC, fun p hp => ?_, fun b ob e => ?_, by simpa using I.len⟩
 ·exact (hs.2 b (old b o e)).trans (I.base.keep b o e nn hb hx)
 ·obtain ⟨sl, e1⟩ := I.base.slot b o e nn hb hx
  exact ⟨sl, (hs.2 b (old b o e)).trans e1⟩
 ·obtain ⟨o', e1⟩ := I.base.there b o e hx
  exact ⟨o', (hs.2 b (old b o e)).trans e1⟩
 ·by_cases hj : j = i
  ·subst hj
   rw [List.getElem?_set_self hiσ] at e2
   cases e2
  ·rw [List.getElem?_set_ne (Ne.symm hj)] at e2
   obtain ⟨u', r', q⟩ := hl j y v' e1 e2 e3
   refine ⟨u', r', ?_⟩
   rcases q with ⟨k, e⟩ | ⟨k, c, e, z⟩
   ·refine .inl ⟨k, ?_⟩
    have : y ≠ n := fun e => hj (nodup_ix hN e1 (e ▸ hi))
    simp [this, e]
   ·exact .inr ⟨k, c, e, z.sameBut hs (cne y c e)⟩
 ·obtain ⟨w', z⟩ := I.cell y c e
  exact ⟨w', z.sameBut hs (cne y c e)⟩
 ·obtain ⟨e, n1, ne, nf, d⟩ := I.pin p hp
  exact ⟨(hs.2 p.1 ne).trans e, n1, ne, nf, d⟩
 ·refine (I.hok b ob e).stay (fun c w' hc q => (hs.2 c ?_).trans q) (fun _ q => q) fun _ _ q => q
  rintro rfl
  rcases hc with rfl | hc
  ·rw [I.free] at e; cases e
  ·rw [I.free] at hc; cases hc
end
section
variable {X : Cx} {k : Nat} {f : Addr} {fd : FuncData} {ps : List Str} {sp : Sp} {dvs : List V} {ds : List Value} {x : Str} {p pos : Pos} {e : Expr} {es : List Expr} {t : TA}
theorem pex_call (F : FnOk X.prog X.w X.K X.mg X.base (CX1 X.prog X.w) k f fd ps sp) (hr : Room k X.A) (hg : Gl X x) (hm : X.mg x = some (.ref f)) (hk : W.keepIn X.K (.ref f) = true) (hb : Binds X.K fd ps ds) (hd : Vals dvs ds)
  (ha : PA X.nox (e :: es) t) (hdb : (x == ("__debug__" : Str)) = false := by decide) (he : starEach (e :: es) X.env = (false, eval e X.env) :: starEach es X.env := by rfl) (hpl : (backTo pos (starEach es X.env)).any (·.1) = false := by rfl) :
  PEx X (.Call (.Name x p) (e :: es) [] pos) (tCallX sp dvs t) := by
 intro pins s σ H Q E I h
 refine wpAny_Call_Name_kw (ld_glob I hg hm ?_ hdb)
 refine W.callWith_K (h₀ := X.base) I.ok.mod.kin hk (wpAny_mono (ha pos pins s σ H _ (I.wish _) h) (fun us s1 ⟨vs, H1, I1, r, q⟩ => ⟨I1.kIn, ?_⟩) fun _ _ z => False.elim z) he hpl
 have I2 : Inv X pins σ H1 s1 := I1.unwish
 have r2 : Vals (vs ++ dvs) (us ++ ds) := r.append hd
 have hl : (us ++ ds).length = ps.length := by rw [← r2.length]; exact F.len _ _ _ _ q
 refine wpAny_call (codeAny_mono (F.run X.A X.stack s1 H1 ⟨us, []⟩ (us ++ ds) (vs ++ dvs) Q E hr I2.env0 (hb s1 us I2.kIn hl) r2 q) fun r s' hq => ?_)
 cases r with
 | error e => exact ⟨H1, s1, I2, hq⟩
 | ok fl =>
  cases fl with
  | ret u => exact I2.after hq
  | next => exact False.elim hq
  | brk => exact False.elim hq
  | cont => exact False.elim hq
end
def EndsGo (D : Ends) (i : Nat) : Ends := { nx := fun σ' H2 => D.nx (σ'.set i none) H2, rt := D.rt, bk := fun σ' H2 => D.bk (σ'.set i none) H2, ct := fun σ' H2 => D.ct (σ'.set i none) H2 }
section
variable {X : Cx} {i : Nat} {n c : Str} {C0 : Addr} {e : Expr} {te : TEX} {th : TS} {b₀ : Stmt} {suite : List Stmt} {p1 np hp pos : Pos}
end
end L2
namespace L2
open PySem PySem.Spec PyProof.Rows
section
variable {prog : Program} {w : World} {A : Around} {E : Value → Shared → Prop} {K : W.Frag} {h : Heap} {g : Array GenState} {d : Drawn} {t : Nat} {os : OsState} {a C : Addr} {o : Obj}
 {nm q : Str} {N : Addr} {bs bm : List Value} {hdct : Bool} {sn : List Str} {sub : List Value} {ab : Bool} {col : Option Bool} {dd : Option Addr} {k0 k1 k2 k3 k5 : Option Value} {newId : String}
structure ExcCls (K : W.Frag) (C : Addr) : Prop where
 ga : W.findIn K (.ref C) "__getattribute__" = some (some (.builtin "BaseException.__getattribute__"))
 gh : W.findIn K (.ref C) "__getattr__" = some none
 cl : W.findIn K (.ref C) "__class__" = some (some (.builtin "object.__class__"))
 is : ExcIs0 K C
theorem exc_class_get {R : Result → Shared → Prop} (hC : h.get? C = some (excClassObj nm q C N bs bm hdct sn sub ab col dd k0 k1 k2 k3 k5 newId)) (ho : bm.contains (.type "object") = true) (hx : h.get? a = some o) (hc : o.cls = .ref C)
  (hq : R (.ok (.ret (.ref C))) ⟨h, g, d, t, os⟩) : codeAny (model prog w) A (.call (.builtin "getset_descriptor.__get__") ⟨[.builtin "object.__class__", .ref a, .ref C], []⟩) R ⟨h, g, d, t, os⟩ := by
 have ty : (⟨h, g, d, t, os⟩ : Shared).TypeIs (.builtin "object.__class__") "getset_descriptor" := F.typeOf_object_class
 have inC : (Value.ref C :: bm).contains (.type (".".intercalate ("object.__class__".cutAt '.').dropLast)) = true := by
  rw [F.owner_object_class, List.contains_cons, ho]
  rfl
 refine codeAny_call_builtin F.slot_gs_get.plain F.entry_gs_get (F.slot_gs_get.check _ _ _ _ _ _ _ _ ty (F.args_gs_get _ _ _) ?_)
 repeat' (first | assumption | (with_reducible refine wpAny_loadPart_at hx ?_; rw [hc]) | (with_reducible refine wpAny_isSubtype_exc hC ?_; rw [inC]) | wp_step)
 refine ⟨Code.quiet_builtin _ (by decide +kernel), codeAny_builtin F.entry_object_class ?_⟩
 repeat' (first | assumption | (with_reducible refine wpAny_loadPart_at hx ?_; rw [hc]) | wp_step)
theorem exc_class_entry {tk : Tok} {Q : Fin → Shared → Prop} (X : K.In h) (Z : ExcCls K C) (hC : h.get? C = some (excClassObj nm q C N bs bm hdct sn sub ab col dd k0 k1 k2 k3 k5 newId)) (ho : bm.contains (.type "object") = true)
  (hx : h.get? a = some o) (hc : o.cls = .ref C) (hq : Q (.done (.ret (.ref C))) ⟨h, g, d, t, os⟩) : wpAny (model prog w) A (Builtin.«object.__getattribute__» ⟨[.ref a, .str "__class__" tk], []⟩) Q E ⟨h, g, d, t, os⟩ := by
 have ty : (⟨h, g, d, t, os⟩ : Shared).TypeIs (.builtin "object.__class__") "getset_descriptor" := F.typeOf_object_class
 have z1 := F.typeOf_object_class
 have z2 := F.slot_gs_get.lookup
 have z3 := F.slot_gs_set.lookup
 have L := W.looks_findIn (M := model prog w) X Z.cl
 repeat' (first | assumption | (with_reducible refine wpAny_loadPart_at hx ?_; rw [hc]) | with_reducible refine L.at ?_ | wp_step)
 refine exc_class_get hC ho hx hc ?_
 repeat' (first | assumption | wp_step)
theorem exc_check_ga {M : Model} {nv : Value} {Q : Unit → Shared → Prop} (hC : h.get? C = some (excClassObj nm q C N bs bm hdct sn sub ab col dd k0 k1 k2 k3 k5 newId)) (hb : bm.contains (.type "BaseException") = true)
  (hx : h.get? a = some o) (hc : o.cls = .ref C) (hq : Q () ⟨h, g, d, t, os⟩) : wpAny M A (checkBuiltinCall "BaseException.__getattribute__" ⟨[.ref a, nv], []⟩) Q E ⟨h, g, d, t, os⟩ := by
 have kind : builtinKind "BaseException.__getattribute__" = some .slot := by decide +kernel
 have cut : splitId "BaseException.__getattribute__" = some ("BaseException", "__getattribute__") := by decide +kernel
 have inC : (Value.ref C :: bm).contains (.type "BaseException") = true := by rw [List.contains_cons, hb]; rfl
 have z := F.args_bexc_ga (.ref a) nv
 simp only [checkBuiltinCall, kind, cut]
 refine wpAny_bind ?_
 unfold isInstance
 repeat' (first | (with_reducible refine wpAny_loadPart_at hx ?_; rw [hc]) | (with_reducible refine wpAny_isSubtype_exc hC ?_; rw [inC]) | wp_step)
 exact hq
theorem exc_class_by {tk : Tok} {fill : Bool} {Q : Value → Shared → Prop} (X : K.In h) (Z : ExcCls K C) (hC : h.get? C = some (excClassObj nm q C N bs bm hdct sn sub ab col dd k0 k1 k2 k3 k5 newId)) (ho : bm.contains (.type "object") = true)
  (hb : bm.contains (.type "BaseException") = true) (hx : h.get? a = some o) (hc : o.cls = .ref C) (hq : Q (.ref C) ⟨h, g, d, t, os⟩) : wpAny (model prog w) A (getAttrBy (.ref a) (.str "__class__" tk) fill) Q E ⟨h, g, d, t, os⟩ := by
 have L1 := W.looks_findIn (M := model prog w) X Z.ga
 have L2 := W.looks_findIn (M := model prog w) X Z.gh
 have z3 := PySem.F.excAttr_ValueError.ga.bind (.ref a)
 have n1 : (Value.builtin "BaseException.__getattribute__" == Value.builtin "object.__getattribute__") = false := by decide +kernel
 have n2 : (onTheHeap (Value.ref C) && Value.builtin "BaseException.__getattribute__" == Value.builtin "object.__getattribute__") = false := by rw [n1]; rfl
 have n3 : (false && onTheHeap (Value.builtin "BaseException.__getattribute__")) = false := rfl
 repeat' (first | assumption | (with_reducible refine wpAny_loadPart_at hx ?_; rw [hc]) | with_reducible refine L1.at ?_ | with_reducible refine L2.at ?_ | wp_step)
 refine codeAny_call_builtin PySem.F.excAttr_ValueError.ga.plain F.entry_bexc_ga (exc_check_ga hC hb hx hc (exc_class_entry X Z hC ho hx hc ?_))
 repeat' (first | assumption | wp_step)
theorem exc_class_attr {Q : Option Value → Shared → Prop} (X : K.In h) (Z : ExcCls K C) (hC : h.get? C = some (excClassObj nm q C N bs bm hdct sn sub ab col dd k0 k1 k2 k3 k5 newId)) (ho : bm.contains (.type "object") = true)
  (hb : bm.contains (.type "BaseException") = true) (hx : h.get? a = some o) (hc : o.cls = .ref C) (hq : Q (some (.ref C)) ⟨h, g, d, t + 1, os⟩) : wpAny (model prog w) A (getAttr? (.ref a) "__class__") Q E ⟨h, g, d, t, os⟩ := by
 unfold getAttr? getAttrBy?
 repeat' (first | assumption | with_reducible apply exc_class_by X Z hC ho hb hx hc | wp_step)
end
end L2
namespace L2
open PySem PySem.Spec PyProof.Rows
def clsVal : V → Option Value
 | .ref D => some (.ref D)
 | .ty T => some (.type T)
 | _ => none
theorem clsVal_rel {v : V} {u c : Value} (r : RelV v u) (e : clsVal v = some c) : u = c := by
 cases v with
 | ref D => cases r; cases e; rfl
 | ty T => cases r; cases e; rfl
 | _ => cases e
section
variable {X : Cx}
theorem kitx_exc {K : W.Frag} {a C : Addr} (Z : ExcCls K C) : W.KitX K (.ref a) (.ref C) (fun h => ∃ oe vs, h.get? a = some oe ∧ oe.cls = .ref C ∧ oe.data = .fields vs) where
 ty := fun M h _ ⟨oe, _, h1, h2, _⟩ => h2 ▸ (W.Looks.ld h1).andThen .now
 it := fun M h X _ => by
  obtain ⟨bm, Nn, nm, q, bs, hdct, sn, sub, ab, col, dd, k0, k1, k2, k3, k5, c1, _⟩ := Z.is.obj X
  intro A' Q' E' s' k q'
  unfold isType loadHead
  exact wpAny_bind (wpAny_loadPart (k _ _ c1) (wpAny_pure q'))
 ne := fun h tp dd' its n sl X htp => by
  obtain ⟨bm, Nn, nm, q, bs, hdct, sn, sub, ab, col, dd, k0, k1, k2, k3, k5, c1, _⟩ := Z.is.obj X
  refine Bool.eq_false_iff.mpr fun z => ?_
  have e : C = tp := Value.ref.inj (beq_iff_eq.mp z)
  subst e
  have y : Value.type "type" = Value.type "tuple" := congrArg Obj.cls (Option.some.inj (c1.symm.trans htp))
  injection y with y1
  exact absurd y1 (by decide)
 ca := fun {prog w A E Q s} X p k => by
  obtain ⟨oe, vs, h1, h2, _⟩ := p
  obtain ⟨bm, Nn, nm, q, bs, hdct, sn, sub, ab, col, dd, k0, k1, k2, k3, k5, c1, c3⟩ := Z.is.obj X
  obtain ⟨hh, g, d, t, os⟩ := s
  exact exc_class_attr X Z c1 (c3.hasType (by decide +kernel)) (c3.hasType (by decide +kernel)) h1 h2 k
def eqs : List V → List V → Bool
 | [], [] => true
 | x :: xs, y :: ys => eqV x y && eqs xs ys
 | _, _ => false
def eqAtJ (xs ys : List V) (j : Nat) : Bool := match xs[j]?, ys[j]? with
 | some x, some y => eqV x y
 | _, _ => false
theorem eqs_range : ∀ (xs ys : List V), ((List.range (min xs.length ys.length)).all (eqAtJ xs ys) && xs.length == ys.length) = eqs xs ys
 | [], [] => rfl
 | [], _ :: _ => by simp [eqs]
 | _ :: _, [] => by simp [eqs]
 | x :: xs, y :: ys => by
  have e : min (x :: xs).length (y :: ys).length = min xs.length ys.length + 1 := by simp [Nat.succ_min_succ]
  have ih := eqs_range xs ys
  rw [e, List.range_succ_eq_map, List.all_cons, List.all_map]
  have e2 : (eqAtJ (x :: xs) (y :: ys) ∘ Nat.succ) = eqAtJ xs ys := rfl
  have e3 : ((x :: xs).length == (y :: ys).length) = (xs.length == ys.length) := by
   rw [Bool.eq_iff_iff]
   simp
  rw [e2, e3, Bool.and_assoc, ih]
  rfl
theorem eqs_len : ∀ {xs ys : List V}, xs.length ≠ ys.length → eqs xs ys = false
 | [], [], h => absurd rfl h
 | [], _ :: _, _ => rfl
 | _ :: _, [], _ => rfl
 | x :: xs, y :: ys, h => by
  show (eqV x y && eqs xs ys) = false
  rw [eqs_len (fun z => h (by simp [z])), Bool.and_false]
theorem eqs_at {A : Around} {s : Shared} {xs ys : List V} {us ws : List Value} (r : Vals xs us) (q : Vals ys ws) (fx : xs.all flatV = true) (fy : ys.all flatV = true) :
  ∀ j (h1 : j < us.toArray.size) (h2 : j < ws.toArray.size), SeqAt.EqAt A s us.toArray[j] ws.toArray[j] (eqAtJ xs ys j) := fun j h1 h2 => by
 have l1 := r.length
 have l2 := q.length
 have j1 : j < us.length := by simpa using h1
 have j2 : j < ws.length := by simpa using h2
 have k1 : j < xs.length := by omega
 have k2 : j < ys.length := by omega
 obtain ⟨u, e1, r1⟩ := r.get (i := j) (x := xs[j]) (by simp [k1])
 obtain ⟨v, e2, r2⟩ := q.get (i := j) (x := ys[j]) (by simp [k2])
 have eu : us.toArray[j] = u := by
  have z : us[j]? = some us[j] := by simp [j1]
  rw [z] at e1
  simpa using e1
 have ev : ws.toArray[j] = v := by
  have z : ws[j]? = some ws[j] := by simp [j2]
  rw [z] at e2
  simpa using e2
 have ee : eqAtJ xs ys j = eqV xs[j] ys[j] := by
  unfold eqAtJ
  simp [k1, k2]
 rw [eu, ev, ee]
 exact eqAt_V r1 r2 (List.all_eq_true.mp fx _ (List.getElem_mem k1)) (List.all_eq_true.mp fy _ (List.getElem_mem k2))
def rEqT (K : W.Frag) : R2 := fun x y H Q => ∃ a b xs ys, x = .ref a ∧ y = .ref b ∧ SqT K H a xs ∧ SqT K H b ys ∧ xs.all flatV = true ∧ ys.all flatV = true ∧ Q (.bl (eqs xs ys)) H
theorem op_eqT (hu : X.A.units < cLine) : OpR X (compareOp .Eq) (rEqT X.K) := by
 intro pins s σ H x y v u Q I rx ry h
 obtain ⟨a, b, xs, ys, rfl, rfl, ha, hb, fx, fy, q⟩ := h
 cases rx
 cases ry
 obtain ⟨its, r1, p1, _⟩ := I.tuple ha
 obtain ⟨its2, r2, p2, _⟩ := I.tuple hb
 refine SeqAt.eq_tupleAt (show s.heap.IsTuple a its.toArray from p1) (show s.heap.IsTuple b its2.toArray from p2) hu (eqs_at r1 r2 fx fy) ?_
 have e : ((List.range (min its.toArray.size its2.toArray.size)).all (eqAtJ xs ys) && its.toArray.size == its2.toArray.size) = eqs xs ys := by
  rw [List.size_toArray, List.size_toArray, ← r1.length, ← r2.length]
  exact eqs_range xs ys
 rw [e]
 exact ⟨.bl _, H, I, rfl, q⟩
def rEqL (K : W.Frag) : R2 := fun x y H Q => ∃ a b xs ys, x = .ref a ∧ y = .ref b ∧ SqL K H a xs ∧ SqL K H b ys ∧ xs.all flatV = true ∧ ys.all flatV = true ∧ Q (.bl (eqs xs ys)) H
theorem op_eqL (hu : X.A.units < cLine) : OpR X (compareOp .Eq) (rEqL X.K) := by
 intro pins s σ H x y v u Q I rx ry h
 obtain ⟨a, b, xs, ys, rfl, rfl, ha, hb, fx, fy, q⟩ := h
 cases rx
 cases ry
 obtain ⟨its, r1, p1, _⟩ := I.list ha
 obtain ⟨its2, r2, p2, _⟩ := I.list hb
 have l1 := r1.length
 have l2 := r2.length
 by_cases hl : xs.length = ys.length
 ·refine SeqAt.eq_listAt p1.isList p2.isList (by simp only [List.size_toArray]; omega) hu (eqs_at r1 r2 fx fy) ?_
  have e := eqs_range xs ys
  rw [hl, Nat.min_self, beq_self_eq_true, Bool.and_true] at e
  have e2 : (List.range its.toArray.size).all (eqAtJ xs ys) = eqs xs ys := by
   rw [List.size_toArray, ← l1, hl]
   exact e
  rw [e2]
  exact ⟨.bl _, H, I, rfl, q⟩
 ·refine SeqAt.eq_list_lengthsAt p1.isList p2.isList (by simp only [List.size_toArray, bne_iff_ne]; omega) hu ?_
  rw [eqs_len hl] at q
  exact ⟨.bl _, H, I, rfl, q⟩
end
end L2
namespace L2
open PySem PySem.Spec PyProof.Rows
def DnX (P : Program) (w : World) (K : W.Frag) (mg : Str → Option Value) (base : Heap) (x : Str) (k : Nat) (ps : List Str) (sp : Sp) : Prop :=
 ∃ f fd, FnOk P w K mg base (CX1 P w) k f fd ps sp ∧ Binds K fd ps [] ∧ mg x = some (.ref f) ∧ W.keepIn K (.ref f) = true
abbrev noX : XK := fun _ _ _ => False
section
variable {X : Cx} {x : Str} {k : Nat} {ps : List Str} {sp : Sp} {e : Expr} {es : List Expr} {t : TA} {p pos : Pos} {E : XK}
theorem pass_no : Passes (CX1 X.prog X.w) X noX := fun _ _ _ _ _ _ _ ⟨_, _, _, _, _, _, _, _, _, _, _, z⟩ => z.elim
theorem pe_fnX (D : DnX X.prog X.w X.K X.mg X.base x k ps sp) (hr : Room k X.A) (hp : Passes (CX1 X.prog X.w) X E) (ha : PA X (e :: es) t) (hg : Gl X x := by rfl) (hdb : (x == ("__debug__" : Str)) = false := by decide)
  (he : starEach (e :: es) X.env = (false, eval e X.env) :: starEach es X.env := by rfl) (hpl : (backTo pos (starEach es X.env)).any (·.1) = false := by rfl) : PE X (.Call (.Name x p) (e :: es) [] pos) (tCall sp [] E t) := by
 obtain ⟨f, fd, F, b, m, kp⟩ := D
 exact pe_call F hr hg m kp b .nil hp ha hdb he hpl
theorem pex_fn (D : DnX X.prog X.w X.K X.mg X.base x k ps sp) (hr : Room k X.A) (ha : PA X.nox (e :: es) t) (hg : Gl X x := by rfl) (hdb : (x == ("__debug__" : Str)) = false := by decide)
  (he : starEach (e :: es) X.env = (false, eval e X.env) :: starEach es X.env := by rfl) (hpl : (backTo pos (starEach es X.env)).any (·.1) = false := by rfl) : PEx X (.Call (.Name x p) (e :: es) [] pos) (tCallX sp [] t) := by
 obtain ⟨f, fd, F, b, m, kp⟩ := D
 exact pex_call F hr hg m kp b .nil ha hdb he hpl
end
end L2
namespace KM
theorem Wt.gcd {one other d u v : Int} (W : Wt one other d u v) : d = (Int.gcd one other : Int) := by
 refine Int.dvd_antisymm W.nn (Int.natCast_nonneg _) (Int.dvd_coe_gcd W.d1 W.d2) ?_
 rw [← W.eq]
 exact Int.dvd_add (Int.dvd_mul_of_dvd_right (Int.gcd_dvd_left ..)) (Int.dvd_mul_of_dvd_right (Int.gcd_dvd_right ..))
theorem gcd_step {a b : Int} : Int.gcd b (a % b) = Int.gcd a b := by
 have e : a % b = a - (a / b) * b := by
  have := Int.mul_ediv_add_emod a b
  grind
 rw [e, Int.gcd_sub_mul_right_right, Int.gcd_comm]
theorem gcd_posL {a b : Int} (h : 0 < a) : (0 : Int) < (Int.gcd a b : Int) := by
 have := Int.gcd_pos_of_ne_zero_left (a := a) b (by omega)
 omega
theorem gcd_end {a : Int} (h : 0 ≤ a) : (Int.gcd a 0 : Int) = a := by
 rw [Int.gcd_zero_right]
 omega
theorem gcd_leL {a b : Int} (h : 0 < a) : (Int.gcd a b : Int) ≤ a := Int.le_of_dvd h (Int.gcd_dvd_left ..)
theorem gcd_leR {a b : Int} (h : 0 < b) : (Int.gcd a b : Int) ≤ b := Int.le_of_dvd h (Int.gcd_dvd_right ..)
structure Meets (r1 g1 r2 g2 x L : Int) : Prop where
 lo : 0 ≤ x
 hi : x < L
 m1 : (x - r1) % g1 = 0
 m2 : (x - r2) % g2 = 0
 pr : L * (Int.gcd g1 g2 : Int) = g1 * g2
theorem lcm_pr {a b : Int} : a / (Int.gcd a b : Int) * b * (Int.gcd a b : Int) = a * b := by
 have h := Int.ediv_mul_cancel (Int.gcd_dvd_left a b)
 generalize (Int.gcd a b : Int) = d at *
 generalize a / d = q at *
 rw [← h]
 grind
theorem lcm_pos {a b : Int} (ha : 0 < a) (hb : 0 < b) : 0 < a / (Int.gcd a b : Int) * b :=
 Int.mul_pos (Int.ediv_pos_of_pos_of_dvd ha (Int.natCast_nonneg _) (Int.gcd_dvd_left ..)) hb
theorem lcm_dvdL {a b : Int} : a ∣ a / (Int.gcd a b : Int) * b := by
 have h1 := Int.ediv_mul_cancel (Int.gcd_dvd_left a b)
 have h2 := Int.ediv_mul_cancel (Int.gcd_dvd_right a b)
 refine ⟨b / (Int.gcd a b : Int), ?_⟩
 generalize (Int.gcd a b : Int) = d at *
 generalize a / d = q at *
 generalize b / d = t at *
 rw [← h1, ← h2]
 grind
theorem lcm_dvdR {a b : Int} : b ∣ a / (Int.gcd a b : Int) * b := ⟨_, Int.mul_comm ..⟩
theorem Meets.len {r1 g1 r2 g2 x L : Int} (M : Meets r1 g1 r2 g2 x L) (h : 0 < g1) : L = g1 / (Int.gcd g1 g2 : Int) * g2 := by
 have h1 := M.pr
 rw [← lcm_pr (a := g1) (b := g2)] at h1
 have hp := gcd_posL (b := g2) h
 exact Int.eq_of_mul_eq_mul_right (show (Int.gcd g1 g2 : Int) ≠ 0 by omega) h1
theorem Meets.dL {r1 g1 r2 g2 x L : Int} (M : Meets r1 g1 r2 g2 x L) (h : 0 < g1) : g1 ∣ L := M.len h ▸ lcm_dvdL
theorem Meets.dR {r1 g1 r2 g2 x L : Int} (M : Meets r1 g1 r2 g2 x L) (h : 0 < g1) : g2 ∣ L := M.len h ▸ lcm_dvdR
theorem meets_of {r1 g1 r2 g2 d u v x L : Int} (h1 : 0 < g1) (h2 : 0 < g2) (W : Wt g1 g2 d u v) (hd : d ∣ r2 - r1) (hL : L = g1 / d * g2) (hx : x = (r1 + (r2 - r1) / d * u * g1) % L) : Meets r1 g1 r2 g2 x L := by
 have hg := W.gcd
 have hp : 0 < L := by rw [hL, hg]; exact lcm_pos h1 h2
 have d1 : g1 ∣ L := by rw [hL, hg]; exact lcm_dvdL
 have d2 : g2 ∣ L := by rw [hL, hg]; exact lcm_dvdR
 have hc := Int.ediv_mul_cancel hd
 have key : ∀ g y : Int, g ∣ L → g ∣ (r1 + (r2 - r1) / d * u * g1) - y → (x - y) % g = 0 := fun g y hg' hy => by
  rw [← Int.dvd_iff_emod_eq_zero]
  have e : x - y = (x - (r1 + (r2 - r1) / d * u * g1)) + ((r1 + (r2 - r1) / d * u * g1) - y) := by omega
  rw [e]
  refine Int.dvd_add (Int.dvd_trans hg' ?_) hy
  rw [hx]
  exact Int.dvd_emod_sub_self
 refine ⟨?_, ?_, key _ _ d1 ?_, key _ _ d2 ?_, ?_⟩
 ·rw [hx]; exact Int.emod_nonneg _ (by omega)
 ·rw [hx]; exact Int.emod_lt_of_pos _ hp
 ·exact ⟨(r2 - r1) / d * u, by grind⟩
 ·have hw := W.eq
  refine ⟨-((r2 - r1) / d * v), ?_⟩
  generalize (r2 - r1) / d = q at *
  have e1 : r1 + q * u * g1 - r2 = q * (u * g1) - q * d := by grind
  have e2 : u * g1 = d - v * g2 := by omega
  rw [e1, e2]
  grind
 ·rw [hL, hg]; exact lcm_pr
theorem sub_swap {a b d : Int} : (a - b) % d = 0 ↔ (b - a) % d = 0 := by
 rw [← Int.dvd_iff_emod_eq_zero, ← Int.dvd_iff_emod_eq_zero]
 have e : b - a = -(a - b) := by omega
 rw [e, Int.dvd_neg]
theorem no_meet {r1 g1 r2 g2 x : Int} (h : (r1 - r2) % (Int.gcd g1 g2 : Int) ≠ 0) (m1 : (x - r1) % g1 = 0) (m2 : (x - r2) % g2 = 0) : False := by
 refine h ?_
 rw [← Int.dvd_iff_emod_eq_zero] at *
 have e : r1 - r2 = (x - r2) - (x - r1) := by omega
 rw [e]
 exact Int.dvd_sub (Int.dvd_trans (Int.gcd_dvd_right ..) m2) (Int.dvd_trans (Int.gcd_dvd_left ..) m1)
theorem rest_one {x y g : Int} (h : (x - y) % g = 0) (a0 : 0 ≤ x) (a1 : x < g) (b0 : 0 ≤ y) (b1 : y < g) : x = y := by
 rw [emod_sub_zero, Int.emod_eq_of_lt a0 a1, Int.emod_eq_of_lt b0 b1] at h
 exact h
theorem sz_mono {x : Int} {m : Nat} (n : Nat) (h : x.natAbs < 2 ^ m) (hn : m ≤ n := by decide) : x.natAbs < 2 ^ n := Nat.lt_of_lt_of_le h (Nat.pow_le_pow_right (by decide) hn)
theorem sz_mul {x y : Int} {m n : Nat} (h1 : x.natAbs < 2 ^ m) (h2 : y.natAbs < 2 ^ n) : (x * y).natAbs < 2 ^ (m + n) := by
 rw [Int.natAbs_mul, Nat.pow_add]
 exact Nat.mul_lt_mul_of_lt_of_le h1 (Nat.le_of_lt h2) (Nat.lt_of_le_of_lt (Nat.zero_le _) h2)
theorem sz_sub {x y : Int} {m : Nat} (h1 : x.natAbs < 2 ^ m) (h2 : y.natAbs < 2 ^ m) : (x - y).natAbs < 2 ^ (m + 1) := by
 have := Int.natAbs_sub_le x y
 rw [Nat.pow_succ]
 omega
theorem sz_le {x y : Int} {m : Nat} (h1 : y.natAbs < 2 ^ m) (h0 : 0 ≤ x) (h : x ≤ y) : x.natAbs < 2 ^ m := by omega
theorem sz_div {x y : Int} {m : Nat} (h1 : x.natAbs < 2 ^ m) (h : 0 < y) : (x / y).natAbs < 2 ^ m := Nat.lt_of_le_of_lt (ediv_abs h) h1
theorem sz_nat {x : Int} {n : Nat} {m : Nat} (h1 : x.natAbs ≤ n) (h : n < 2 ^ m) : x.natAbs < 2 ^ m := Nat.lt_of_le_of_lt h1 h
end KM
namespace KM
def Cl (b c : Int × Int) : Prop := (b.1 - c.1) % (Int.gcd b.2 c.2 : Int) ≠ 0
instance (b c : Int × Int) : Decidable (Cl b c) := by unfold Cl; infer_instance
def wsum (L : Int) : List Int → List (Int × Int) → Int
 | w :: ws, b :: bs => w * (L / b.2) + wsum L ws bs
 | _, _ => 0
theorem wsum_snoc {L w : Int} {b : Int × Int} : ∀ {ws : List Int} {bs : List (Int × Int)}, ws.length = bs.length → wsum L (ws ++ [w]) (bs ++ [b]) = wsum L ws bs + w * (L / b.2)
 | [], [], _ => by show w * (L / b.2) + 0 = 0 + w * (L / b.2); omega
 | w' :: ws, b' :: bs, h => by
  show w' * (L / b'.2) + wsum L (ws ++ [w]) (bs ++ [b]) = w' * (L / b'.2) + wsum L ws bs + w * (L / b.2)
  rw [wsum_snoc (by simpa using h)]
  omega
 | [], _ :: _, h => by simp at h
 | _ :: _, [], h => by simp at h
theorem wsum_scale {L c : Int} : ∀ {ws : List Int} {bs : List (Int × Int)}, wsum L (ws.map (· * c)) bs = c * wsum L ws bs
 | [], bs => by cases bs <;> simp [wsum]
 | _ :: _, [] => by simp [wsum]
 | w :: ws, b :: bs => by
  show w * c * (L / b.2) + wsum L (ws.map (· * c)) bs = c * (w * (L / b.2) + wsum L ws bs)
  rw [wsum_scale]
  grind
theorem wsum_mul {L L' : Int} (hL : 0 < L) (d : L ∣ L') : ∀ {ws : List Int} {bs : List (Int × Int)}, (∀ b ∈ bs, b.2 ∣ L) → wsum L' ws bs = L' / L * wsum L ws bs
 | [], bs, _ => by cases bs <;> simp [wsum]
 | _ :: _, [], _ => by simp [wsum]
 | w :: ws, b :: bs, h => by
  show w * (L' / b.2) + wsum L' ws bs = L' / L * (w * (L / b.2) + wsum L ws bs)
  rw [wsum_mul hL d fun b hb => h b (List.mem_cons_of_mem _ hb)]
  have hb := h b (List.mem_cons_self ..)
  have e : L' / b.2 = L' / L * (L / b.2) := by
   obtain ⟨t, rfl⟩ := d
   rw [Int.mul_ediv_cancel_left t (by omega), Int.mul_comm L t, Int.mul_ediv_assoc t hb]
  rw [e]
  grind
theorem wsum_dvd {L D y : Int} : ∀ {ws : List Int} {bs : List (Int × Int)}, (∀ b ∈ bs, D ∣ L / b.2 * y) → D ∣ wsum L ws bs * y
 | [], bs, _ => by cases bs <;> simp [wsum]
 | _ :: _, [], _ => by simp [wsum]
 | w :: ws, b :: bs, h => by
  show D ∣ (w * (L / b.2) + wsum L ws bs) * y
  have h1 := h b (List.mem_cons_self ..)
  have h2 := wsum_dvd (ws := ws) fun b hb => h b (List.mem_cons_of_mem _ hb)
  rw [Int.add_mul]
  refine Int.dvd_add ?_ h2
  rw [Int.mul_assoc]
  exact Int.dvd_mul_of_dvd_right h1
structure Tog (bs : List (Int × Int)) (x L : Int) (ws : List Int) : Prop where
 lo : 0 ≤ x
 hi : x < L
 dv : ∀ b ∈ bs, b.2 ∣ L
 at_ : ∀ b ∈ bs, (x - b.1) % b.2 = 0
 len : ws.length = bs.length
 one : bs ≠ [] → wsum L ws bs = 1
 nil : bs = [] → x = 0 ∧ L = 1
theorem Tog.pos {bs x L ws} (T : Tog bs x L ws) : 0 < L := by have := T.lo; have := T.hi; omega
theorem Tog.ring {bs x L ws} {y : Int} (T : Tog bs x L ws) : (y - x) % L = 0 ↔ ∀ b ∈ bs, (y - b.1) % b.2 = 0 := by
 constructor
 ·intro h b hb
  have h1 := T.dv b hb
  have h2 := T.at_ b hb
  rw [← Int.dvd_iff_emod_eq_zero] at *
  have e : y - b.1 = (y - x) + (x - b.1) := by omega
  rw [e]
  exact Int.dvd_add (Int.dvd_trans h1 h) h2
 ·intro h
  by_cases hn : bs = []
  ·rw [(T.nil hn).2]
   exact Int.emod_one _
  ·rw [← Int.dvd_iff_emod_eq_zero]
   have key := wsum_dvd (L := L) (D := L) (y := y - x) (ws := ws) (bs := bs) fun b hb => by
    have h1 := T.dv b hb
    have h2 := T.at_ b hb
    have h3 := h b hb
    rw [← Int.dvd_iff_emod_eq_zero] at h2 h3
    have e : y - x = (y - b.1) - (x - b.1) := by omega
    obtain ⟨t, ht⟩ : b.2 ∣ y - x := by rw [e]; exact Int.dvd_sub h3 h2
    rw [ht, ← Int.mul_assoc, Int.ediv_mul_cancel h1]
    exact Int.dvd_mul_right ..
   rw [T.one hn, Int.one_mul] at key
   exact key
theorem Tog.apart {bs x L ws} (T : Tog bs x L ws) {b c : Int × Int} (hb : b ∈ bs) (hc : c ∈ bs) : ¬ Cl b c := fun h => no_meet h (T.at_ b hb) (T.at_ c hc)
theorem Tog.fits {bs x L ws} {r g : Int} (T : Tog bs x L ws) (h : ∀ b ∈ bs, ¬ Cl b (r, g)) : (x - r) % (Int.gcd L g : Int) = 0 := by
 by_cases hn : bs = []
 ·have e := (T.nil hn).2
  subst e
  simp
 ·rw [← Int.dvd_iff_emod_eq_zero]
  have key := wsum_dvd (L := L) (D := (Int.gcd L g : Int)) (y := x - r) (ws := ws) (bs := bs) fun b hb => by
   have h1 := T.dv b hb
   have h2 := T.at_ b hb
   have h3 : (b.1 - r) % (Int.gcd b.2 g : Int) = 0 := Decidable.byContradiction fun z => h b hb z
   rw [← Int.dvd_iff_emod_eq_zero] at h2 h3
   have e : x - r = (x - b.1) + (b.1 - r) := by omega
   have h4 : (Int.gcd b.2 g : Int) ∣ x - r := by
    rw [e]
    exact Int.dvd_add (Int.dvd_trans (Int.gcd_dvd_left ..) h2) h3
   obtain ⟨t, ht⟩ := h4
   have e2 : L / b.2 * (x - r) = (L / b.2 * (Int.gcd b.2 g : Int)) * t := by rw [ht]; grind
   rw [e2]
   refine Int.dvd_mul_of_dvd_left ?_
   have hd : (Int.gcd L g : Int) ∣ (Int.gcd (L / b.2 * b.2) (L / b.2 * g) : Int) := by
    rw [Int.ediv_mul_cancel h1]
    exact Int.dvd_coe_gcd (Int.gcd_dvd_left ..) (Int.dvd_mul_of_dvd_right (Int.gcd_dvd_right ..))
   rw [Int.gcd_mul_left] at hd
   have e3 : (((L / b.2).natAbs * Int.gcd b.2 g : Nat) : Int) ∣ L / b.2 * (Int.gcd b.2 g : Int) := by
    rw [Int.natCast_mul]
    exact Int.mul_dvd_mul (Int.natAbs_dvd.mpr (Int.dvd_refl _)) (Int.dvd_refl _)
   exact Int.dvd_trans hd e3
  rw [T.one hn, Int.one_mul] at key
  exact key
theorem Tog.step {bs x L ws} {r g x' L' u v : Int} (T : Tog bs x L ws) (hg : 0 < g) (M : Meets x L r g x' L') (hw : u * (L' / L) + v * (L' / g) = 1) (h0 : bs = [] → v = 1) : Tog (bs ++ [(r, g)]) x' L' (ws.map (· * u) ++ [v]) := by
 have hL := T.pos
 have d1 := M.dL hL
 have d2 := M.dR hL
 refine ⟨M.lo, M.hi, fun b hb => ?_, fun b hb => ?_, by simp [T.len], fun _ => ?_, fun z => by simp at z⟩
 ·rcases List.mem_append.mp hb with z | z
  ·exact Int.dvd_trans (T.dv b z) d1
  ·rw [List.mem_singleton.mp z]
   exact d2
 ·rcases List.mem_append.mp hb with z | z
  ·have h1 := T.dv b z
   have h2 := T.at_ b z
   have h3 := M.m1
   rw [← Int.dvd_iff_emod_eq_zero] at *
   have e : x' - b.1 = (x' - x) + (x - b.1) := by omega
   rw [e]
   exact Int.dvd_add (Int.dvd_trans h1 h3) h2
  ·rw [List.mem_singleton.mp z]
   exact M.m2
 ·rw [wsum_snoc (by simp [T.len]), wsum_scale, wsum_mul hL d1 T.dv]
  by_cases hn : bs = []
  ·have hl : L' = g := by
    have e := M.len hL
    rw [(T.nil hn).2] at e
    simpa using e
   subst hn
   rw [hl, h0 rfl, Int.ediv_self (by omega)]
   cases ws <;> simp [wsum]
  ·rw [T.one hn]
   have : u * (L' / L * 1) = u * (L' / L) := by rw [Int.mul_one]
   rw [this]
   exact hw
theorem Tog.start : Tog [] 0 1 [] := ⟨by decide, by decide, fun _ h => (nomatch h), fun _ h => (nomatch h), rfl, fun h => absurd rfl h, fun _ => ⟨rfl, rfl⟩⟩
structure Apart (bs : List (Int × Int)) (i j : Nat) (d : Int) : Prop where
 ij : i < j
 jl : j < bs.length
 cl : ∀ b c, bs[i]? = some b → bs[j]? = some c → Cl b c ∧ d = (Int.gcd b.2 c.2 : Int)
 fst : ∀ a b c, a < i → bs[a]? = some b → bs[j]? = some c → ¬ Cl b c
 no : ∀ a e b c, a < e → e < j → bs[a]? = some b → bs[e]? = some c → ¬ Cl b c
end KM
namespace KM
theorem take_snoc {α : Type} {xs : List α} {i : Nat} {x : α} (h : xs[i]? = some x) : xs.take (i + 1) = xs.take i ++ [x] := by rw [List.take_add_one, h]; rfl
end KM
namespace KM
def rg (m : Int) (b : Int × Int) : Bool := (m - b.1) % b.2 == 0
end KM
namespace KM
def cgap (bs : List (Int × Int)) : Int := bs.foldl (fun c b => c / (Int.gcd c b.2 : Int) * b.2) 1
theorem cgap_snoc {bs : List (Int × Int)} {b : Int × Int} : cgap (bs ++ [b]) = cgap bs / (Int.gcd (cgap bs) b.2 : Int) * b.2 := by
 unfold cgap
 rw [List.foldl_append]
 rfl
theorem cgap_take {bs : List (Int × Int)} {i : Nat} {b : Int × Int} (h : bs[i]? = some b) : cgap (bs.take (i + 1)) = cgap (bs.take i) / (Int.gcd (cgap (bs.take i)) b.2 : Int) * b.2 := by rw [take_snoc h, cgap_snoc]
theorem cgap_pos : ∀ (n : Nat) {bs : List (Int × Int)}, (∀ b ∈ bs, 0 < b.2) → 0 < cgap (bs.take n)
 | 0, _, _ => by rw [List.take_zero]; decide
 | n + 1, bs, h => by
  cases e : bs[n]? with
  | none =>
   have : bs.length ≤ n := List.getElem?_eq_none_iff.mp e
   rw [List.take_of_length_le (by omega), ← List.take_of_length_le this]
   exact cgap_pos n h
  | some b =>
   rw [cgap_take e]
   exact lcm_pos (cgap_pos n h) (h b (List.mem_of_getElem? e))
theorem cgap_sz {B : Nat} : ∀ (n : Nat) {bs : List (Int × Int)}, (∀ b ∈ bs, 0 < b.2 ∧ b.2.natAbs < 2 ^ B) → (cgap (bs.take n)).natAbs < 2 ^ (B * n + 1)
 | 0, _, _ => by rw [List.take_zero]; exact Nat.lt_of_lt_of_le (show (1 : Nat) < 2 by decide) (by simp)
 | n + 1, bs, h => by
  have ih := cgap_sz (B := B) n h
  cases e : bs[n]? with
  | none =>
   have hl : bs.length ≤ n := List.getElem?_eq_none_iff.mp e
   rw [List.take_of_length_le (by omega)]
   rw [List.take_of_length_le hl] at ih
   exact Nat.lt_of_lt_of_le ih (Nat.pow_le_pow_right (by decide) (by rw [Nat.mul_succ]; omega))
  | some b =>
   rw [cgap_take e]
   have hb := h b (List.mem_of_getElem? e)
   have hp := cgap_pos n fun b hb => (h b hb).1
   have := sz_mul (sz_div ih (gcd_posL (b := b.2) hp)) hb.2
   rw [show B * (n + 1) + 1 = B * n + 1 + B by rw [Nat.mul_succ]; omega]
   exact this
end KM
namespace L2
open PySem PySem.Spec PyProof.Rows
def BtAt (H : Hp) (v : V) (b : Int × Int) : Prop := ∃ p, v = .ref p ∧ H p = some (.tup [.int b.1, .int b.2])
def Tups (H H' : Hp) : Prop := ∀ b xs, H b = some (.tup xs) → H' b = some (.tup xs)
theorem Same.tups {H H' : Hp} (s : Same H H') : Tups H H' := fun b xs h => s b _ h
theorem Tups.trans {H H1 H2 : Hp} (a : Tups H H1) (b : Tups H1 H2) : Tups H H2 := fun c xs h => b c xs (a c xs h)
theorem BtAt.on {H H' : Hp} {v : V} {b : Int × Int} (t : Tups H H') (h : BtAt H v b) : BtAt H' v b := by
 obtain ⟨p, e, q⟩ := h
 exact ⟨p, e, t _ _ q⟩
abbrev BsV (H : Hp) : List V → List (Int × Int) → Prop := Paired (BtAt H)
theorem bsv_on {H H' : Hp} {vs : List V} {bs : List (Int × Int)} (t : Tups H H') (h : BsV H vs bs) : BsV H' vs bs := Paired.mono (fun _ _ q => q.on t) h
theorem paired_get {α β : Type} {F : α → β → Prop} : ∀ {xs : List α} {ys : List β} {i : Nat} {x : α}, Paired F xs ys → xs[i]? = some x → ∃ y, ys[i]? = some y ∧ F x y
 | _, _, _, _, .nil, e => by simp at e
 | _, _, 0, _, .cons r _, e => by simp at e; subst e; exact ⟨_, rfl, r⟩
 | _, _, i + 1, x, .cons _ t, e => by
  obtain ⟨u, h1, h2⟩ := paired_get (i := i) (x := x) t (by simpa using e)
  exact ⟨u, by simpa using h1, h2⟩
theorem paired_getR {α β : Type} {F : α → β → Prop} : ∀ {xs : List α} {ys : List β} {i : Nat} {y : β}, Paired F xs ys → ys[i]? = some y → ∃ x, xs[i]? = some x ∧ F x y
 | _, _, _, _, .nil, e => by simp at e
 | _, _, 0, _, .cons r _, e => by simp at e; subst e; exact ⟨_, rfl, r⟩
 | _, _, i + 1, x, .cons _ t, e => by
  obtain ⟨u, h1, h2⟩ := paired_getR (i := i) (y := x) t (by simpa using e)
  exact ⟨u, by simpa using h1, h2⟩
def Bs (K : W.Frag) (H : Hp) (a : Addr) (bs : List (Int × Int)) : Prop := ∃ vs, SqL K H a vs ∧ BsV H vs bs
theorem Bs.on {K : W.Frag} {H H' : Hp} {a : Addr} {bs : List (Int × Int)} (s : Same H H') (h : Bs K H a bs) : Bs K H' a bs := by
 obtain ⟨vs, q, r⟩ := h
 exact ⟨vs, s.sq q, bsv_on s.tups r⟩
theorem bsv_at {H : Hp} {vs : List V} {bs : List (Int × Int)} (h : BsV H vs bs) {k : Int} (h0 : 0 ≤ k) (h1 : k < bs.length) :
  ∃ p b, atI vs k = some (.ref p) ∧ bs[k.toNat]? = some b ∧ H p = some (.tup [.int b.1, .int b.2]) := by
 obtain ⟨n, rfl⟩ := Int.eq_ofNat_of_zero_le h0
 have hn : n < bs.length := by omega
 obtain ⟨x, e, p, rfl, q⟩ := paired_getR h (List.getElem?_eq_getElem hn)
 exact ⟨p, _, atI_nat e, by simpa using List.getElem?_eq_getElem hn, q⟩
theorem Same.own {H H' : Hp} {p : Addr} {o : HO} (s : Same H H') (h : H p = none) : Same H (upd H' p o) := fun b u e => by
 rw [upd_ne (ne_of_none e h)]
 exact s b u e
end L2
namespace L2
open PySem
theorem get_new {H : Hp} {p q : Addr} {o u : HO} (h : H q = some o) (hp : H p = none) : upd H p u q = some o := by
 rw [upd_ne (ne_of_none h hp)]
 exact h
end L2
namespace L2
open PySem
end L2
namespace L2
open PySem PySem.Spec PyProof.Rows
theorem at3 {α : Type} {x y z u : α} {xs : List α} : atI (x :: y :: z :: u :: xs) 3 = some u := atI_nat (j := 3) rfl
theorem menu4 (a b d e c : Int) : ∃ m, (m = a ∨ m = b ∨ m = d ∨ m = e) ∧ atI [V.int a, V.int b, V.int d, V.int e] (c % 4) = some (.int m) := by
 rcases (by omega : c % 4 = 0 ∨ c % 4 = 1 ∨ c % 4 = 2 ∨ c % 4 = 3) with h | h | h | h <;> rw [h]
 ·exact ⟨a, .inl rfl, at0⟩
 ·exact ⟨b, .inr (.inl rfl), at1⟩
 ·exact ⟨d, .inr (.inr (.inl rfl)), at2⟩
 ·exact ⟨e, .inr (.inr (.inr rfl)), at3⟩
theorem em {x g : Int} (h : 0 < g) : 0 ≤ x % g ∧ x % g < g := ⟨Int.emod_nonneg x (by omega), Int.emod_lt_of_pos x h⟩
end L2
namespace L2
open PySem
theorem eqs_refl : ∀ {xs : List V}, xs.all flatV = true → eqs xs xs = true
 | [], _ => rfl
 | x :: xs, h => by
  rw [List.all_cons, Bool.and_eq_true] at h
  show (eqV x x && eqs xs xs) = true
  rw [eqs_refl h.2, Bool.and_true]
  cases x with
  | int i => show (i == i) = true; simp
  | str s => show (s == s) = true; simp
  | bl b => show (b == b) = true; simp
  | non => rfl
  | _ => exact absurd (show false = true from h.1) Bool.false_ne_true
theorem eqs_ints {r g : Int} : eqs [.int r, .int g] [.int r, .int g] = true := eqs_refl rfl
end L2
namespace L2
open PySem PySem.Spec PyProof.Rows
section
variable {X : Cx} {tg a b c d : Expr} {ta tb tc td : TE} {pos : Pos}
def okV : V → Bool
 | .ref _ => true
 | v => flatV v
theorem eqV_refl {x : V} (h : flatV x = true) : eqV x x = true := by
 cases x with
 | int i => show (i == i) = true; simp
 | str s => show (s == s) = true; simp
 | bl b => show (b == b) = true; simp
 | non => rfl
 | _ => exact absurd (show false = true from h) Bool.false_ne_true
theorem eqAt_ok {A : Around} {s : Shared} {x : V} {u v : Value} (r1 : RelV x u) (r2 : RelV x v) (h : okV x = true) : SeqAt.EqAt A s u v true := by
 cases x with
 | ref a => cases r1; cases r2; exact SeqAt.EqAt.same _
 | int i => rw [← eqV_refl (x := .int i) rfl]; exact eqAt_V r1 r2 rfl rfl
 | str i => rw [← eqV_refl (x := .str i) rfl]; exact eqAt_V r1 r2 rfl rfl
 | bl i => rw [← eqV_refl (x := .bl i) rfl]; exact eqAt_V r1 r2 rfl rfl
 | non => rw [← eqV_refl (x := .non) rfl]; exact eqAt_V r1 r2 rfl rfl
 | _ => exact absurd (show false = true from h) Bool.false_ne_true
def rNeL (K : W.Frag) : R2 := fun x y H Q => ∃ a b xs ys, x = .ref a ∧ y = .ref b ∧ SqL K H a xs ∧ SqL K H b ys ∧ xs.all flatV = true ∧ ys.all flatV = true ∧ Q (.bl (!eqs xs ys)) H
theorem op_neL (hu : X.A.units < cLine) : OpR X (compareOp .NotEq) (rNeL X.K) := by
 intro pins s σ H x y v u Q I rx ry h
 obtain ⟨a, b, xs, ys, rfl, rfl, ha, hb, fx, fy, q⟩ := h
 cases rx
 cases ry
 obtain ⟨its, r1, p1, _⟩ := I.list ha
 obtain ⟨its2, r2, p2, _⟩ := I.list hb
 have l1 := r1.length
 have l2 := r2.length
 by_cases hl : xs.length = ys.length
 ·refine SeqAt.RcNeAt.lists p1.isList p2.isList (by simp only [List.size_toArray]; omega) hu (eqs_at r1 r2 fx fy) X.prog X.w _ _ ?_
  have e := eqs_range xs ys
  rw [hl, Nat.min_self, beq_self_eq_true, Bool.and_true] at e
  have e2 : (List.range its.toArray.size).all (eqAtJ xs ys) = eqs xs ys := by
   rw [List.size_toArray, ← l1, hl]
   exact e
  rw [e2]
  exact ⟨.bl _, H, I, rfl, q⟩
 ·refine SeqAt.RcNeAt.lists_lengths p1.isList p2.isList (by simp only [List.size_toArray, bne_iff_ne]; omega) hu X.prog X.w _ _ ?_
  rw [eqs_len hl] at q
  exact ⟨.bl _, H, I, rfl, q⟩
end
end L2
namespace L2
open PySem PySem.Spec PyProof.Rows
section
variable {prog : Program} {w : World} {A : Around} {R : Result → Shared → Prop} {s : Shared}
theorem compLoop_anyT {elt target iter c : Expr} {scope : Scope} {pos : Pos} {it acc : Value} {env : Env} (I : Nat → Shared → Prop)
  (turn : ∀ n s, I n s → wpAny (model prog w) A (pyNext it) (fun r s₁ => match r with
   | none => R (.ok .next) s₁
   | some v => wpAny (model prog w) A (letOwnedTupleGo target it v) (fun _ s₂ => wpAny (model prog w) A (assign target env v) (fun _ s₃ => wpAny (model prog w) A (isTrue c env (eval c env)) (fun ok s₄ =>
     if ok = true then wpAny (model prog w) A (eval elt env) (fun x s₅ =>
      wpAny (model prog w) A (call (.builtin "list.append") [acc, x]) (fun _ s₆ => ∃ m, m < n ∧ I m s₆) (fun _ _ => False) s₅) (fun _ _ => False) s₄
     else ∃ m, m < n ∧ I m s₄) (fun _ _ => False) s₃) (fun _ _ => False) s₂) (fun _ _ => False) s₁) (fun _ _ => False) s)
  (n : Nat) (h : I n s) : codeAny (model prog w) A (.compLoop (.ListComp elt [⟨target, iter, [c], 0⟩] scope pos) 0 it acc env) R s := by
 refine codeAny_loop rfl I (fun n s hI => ?_) n h
 show wpAny _ _ ((compTurn (.ListComp elt [⟨target, iter, [c], 0⟩] scope pos) 0 it acc env).onRaise (fun x => do noteFrame x env; theTreesLotGoes x)) _ _ s
 refine wpAny_noted ?_
 rw [compTurn_list]
 refine wpAny_bind (wpAny_standAt (wpAny_bind (wpAny_mono (turn n s hI) (fun r s₁ h₁ => ?_) fun _ _ h' => h'.elim)))
 cases r with
 | none => exact wpAny_pure h₁
 | some v =>
  refine wpAny_bind (wpAny_mono h₁ (fun _ s₂ h₂ => wpAny_bind (wpAny_mono h₂ (fun _ s₃ h₃ => wpAny_bind (wpAny_tests_one (wpAny_mono h₃ (fun ok s₄ h₄ => ?_) fun _ _ h' => h'.elim))) fun _ _ h' => h'.elim)) fun _ _ h' => h'.elim)
  cases ok with
  | false => exact wpAny_pure ⟨rfl, h₄⟩
  | true => exact wpAny_bind (wpAny_bind (wpAny_mono h₄ (fun x s₅ h₅ => wpAny_bind (wpAny_mono h₅ (fun _ s₆ h₆ => wpAny_pure (wpAny_pure ⟨rfl, h₆⟩)) fun _ _ h' => h'.elim)) fun _ _ h' => h'.elim))
end
def CompWT (J : It) (idx : List Nat) (σ : St) (tt : TT) (te : TE) (D : Addr) (Q : VK) (H : Hp) : Prop := ∃ W : Nat → Nat → List V → Hp → Prop, (∃ m, W 0 m [] (upd H D (.lst []))) ∧ ∀ i m ys H2, W i m ys H2 →
 H2 D = some (.lst ys) ∧ ys.length < sizeLine ∧ ((J.stop i H2 ∧ Q (.ref D) H2) ∨ (J.go i H2 ∧ ∀ v H3, J.yld i H2 v H3 → tt (some v :: pick idx σ) H3 fun b H4 =>
  if b = true then te (some v :: pick idx σ) H4 fun y H5 => H5 D = some (.lst ys) ∧ ∃ m', m' < m ∧ W (i + 1) m' (ys ++ [y]) (upd H5 D (.lst (ys ++ [y]))) else ∃ m', m' < m ∧ W (i + 1) m' ys H4))
def tCompT (idx : List Nat) (wi : TI) (tt : TT) (te : TE) : TE := fun σ H Q => wi σ H fun J H1 => ∀ D, H1 D = none → CompWT J idx σ tt te D Q H1
section
variable {X : Cx} {pins : List (Addr × Obj)} {σ : St} {H : Hp} {s : Shared} {scope : Scope} {cl : List (Str × Addr)} {x : Str} {M : List Str} {idx : List Nat} {fp : List Addr}
theorem compT_core {elt iter c : Expr} {px pos : Pos} {tt : TT} {te : TE} {Q : VK} {RR : Value → Addr → Result → Shared → Prop} {E : Value → Shared → Prop} (hc : X.calm = true) (C : CompOk X scope cl x M idx)
  (ht : ∀ fp s H, PT (cxComp X (x :: M) scope cl fp s H) c tt) (he : ∀ fp s H, PE (cxComp X (x :: M) scope cl fp s H) elt te) {it : Addr} {tn : Nat → Heap → Prop} {J : It} (I : Inv X pins σ H s) (T : Turn X.prog X.w X.K (.Name x px) J fp it tn) (st : tn 0 s.heap) (f : ∀ b ∈ fp, FpOk X pins H b)
  (h : ∀ D, H D = none → CompWT J idx σ tt te D Q H)
  (hR : ∀ D H' s', Inv X pins σ H' s' → BlockAt X pins H' (s.heap.objs.size + 1) s'.heap → Q (.ref D) H' → RR (.ref D) (s.heap.objs.size + 1) (.ok .next) s') :
  wpAny (model X.prog X.w) X.A (newList []) (fun acc s₃ => wpAny (model X.prog X.w) X.A (newFunctionEnv scope X.env.globals cl [] X.env.qual none .none (some X.env)) (fun cenv s₄ =>
   codeAny (model X.prog X.w) X.A (.compStart (.ListComp elt [⟨.Name x px, iter, [c], 0⟩] scope pos) 0 (.ref it) acc { cenv with scope := relabel scope X.env }) (RR acc cenv.locals) s₄) E s₃) E s := by
 have hO := T.obj 0 _ st
 obtain ⟨W, ⟨m0, w0⟩, turn⟩ := h s.heap.objs.size (I.hok.fresh (Nat.le_refl _))
 refine wpAny_newObj_type (wpAny_newFunctionEnv C.nocell (by intro y hy; simp at hy) (fun h₁ hns₁ hsb₁ => ?_) C.kind)
 dsimp only at hns₁ hsb₁ ⊢
 have hsz : (s.heap.push { cls := .type "list", dict := none, data := .seq ([] : List Value).toArray }).objs.size = s.heap.objs.size + 1 := Heap.size_push ..
 rw [hsz] at hns₁ hsb₁ ⊢
 have old1 : ∀ b o, (s.heap.push { cls := .type "list", dict := none, data := .seq ([] : List Value).toArray }).get? b = some o → b ≠ s.heap.objs.size + 1 → h₁.get? b = some o := fun b o e ne =>
  (hsb₁.2 b ne).trans (Heap.get?_push_of_some _ e)
 have old : ∀ b o, s.heap.get? b = some o → h₁.get? b = some o := fun b o e => old1 b o (Heap.get?_push_of_some _ e) (Nat.ne_of_lt (Nat.lt_succ_of_lt (Heap.lt_size e)))
 have hD : h₁.get? s.heap.objs.size = some { cls := .type "list", data := .seq ([] : List Value).toArray } := old1 _ _ (Heap.get?_push_size _ rfl) (Nat.ne_of_lt (Nat.lt_succ_self _))
 have I0 := inv_comp (t := s.toks + ([] : List (Str × Value)).length) C I f hO old hD hns₁
 have stat : ∀ {H' : Hp}, (∀ b ∈ fp, H' b = none) → ∀ b ∈ fp, FpOk (cxComp X (x :: M) scope cl fp s H) [] H' b := fun hn b hb => by
  obtain ⟨f0, f1, f2, f3, f4, f5⟩ := f b hb
  obtain ⟨o, e, _⟩ := hO b hb
  have ok := cx_ok (x := x) (M := M) C I f hO
  exact ⟨hn b hb, (ok.exf b hb).1, ok.exfs b hb, .inl hb, fun y c z => f4 y c (C.look z), fun p hp => absurd (show p ∈ ([] : List (Addr × Obj)) from hp) (by simp)⟩
 have st1 : tn 0 h₁ := T.keep _ _ _ st fun b _ o e => old b o e
 have fr0 : ∀ b ∈ fp, upd H s.heap.objs.size (.lst []) b = none := fun b hb => by
  obtain ⟨o, e, _⟩ := hO b hb
  rw [upd_ne (Nat.ne_of_lt (Heap.lt_size e))]
  exact (f b hb).1
 have loop : codeAny (model X.prog X.w) X.A (.compLoop (.ListComp elt [⟨.Name x px, iter, [c], 0⟩] scope pos) 0 (.ref it) (.ref s.heap.objs.size) (compEnvC scope cl (s.heap.objs.size + 1) X.env)) (RR (.ref s.heap.objs.size) (s.heap.objs.size + 1))
   { s with heap := h₁, toks := s.toks + ([] : List (Str × Value)).length } := by
  refine compLoop_anyT (fun n s' => ∃ i o ys H', Inv (cxComp X (x :: M) scope cl fp s H) [] (o :: pick idx σ) H' s' ∧ tn i s'.heap ∧ (∀ b ∈ fp, H' b = none) ∧ W i n ys H') ?_ m0 ⟨0, none, [], _, I0, st1, fr0, w0⟩
  rintro n s3 ⟨i, o, ys, H3, I3, st3, fr3, w3⟩
  obtain ⟨hD3, hz3, alt⟩ := turn i n ys H3 w3
  rcases alt with ⟨stop, q⟩ | ⟨go, step⟩
  ·refine thn (T.done (cxComp X (x :: M) scope cl fp s H) rfl rfl rfl hc i [] s3 _ H3 _ I3 (stat fr3) st3 stop) fun r s4 ⟨hr, I4⟩ => ?_
   subst hr
   have u4 : Un (frs X.stack) fp H H3 s.heap s4.heap := I4.base
   have I5 : Inv X pins σ H3 s4 := I.call' I4.os u4 I4.hok I4.bare fun b hb => ⟨(f b hb).2.2.2.1, (f b hb).2.1, (f b hb).2.2.2.2.1, (f b hb).2.2.2.2.2⟩
   obtain ⟨m4, hn4, _⟩ := I4.loc
   refine hR _ H3 s4 I5 ⟨⟨m4, hn4⟩, I4.free, ?_, ?_, fun y c e z => ?_, fun p hp z => ?_⟩ q
   ·exact Nat.ne_of_gt (Nat.lt_succ_of_lt I.lt)
   ·exact Nat.le_succ_of_le I.sz
   ·obtain ⟨v, k⟩ := I.cell y c e
    rw [z] at k
    exact absurd (Nat.lt_of_succ_lt k.lt) (Nat.lt_irrefl _)
   ·have q1 := Heap.lt_size (I.pin p hp).1
    rw [z] at q1
    exact absurd (Nat.lt_of_succ_lt q1) (Nat.lt_irrefl _)
  ·refine thn (T.item (cxComp X (x :: M) scope cl fp s H) rfl rfl rfl hc i [] s3 _ H3 _ I3 (stat fr3) st3 go) fun r s4 ⟨u, hr, h4⟩ => ?_
   subst hr
   refine thn h4 fun _ s5 ⟨v, H5, I5, r5, y5, st5, fr5⟩ => ?_
   have I5' := I5.pinned (stat fr5) (T.obj _ _ st5)
   have G : PG (cxComp X (x :: M) scope cl fp s H) (.Name x px) (gName 0) := pg_name C.nd rfl (.inl (lookup_relabel_local C.hx)) (.inr (lookup_relabel_local C.hx))
   refine thn (G _ s5 _ H5 v u (fun σ2 H2 => σ2 = some v :: pick idx σ ∧ H2 = H5) I5' r5 ⟨rfl, rfl⟩) fun _ s6 ⟨σ6, H6, I6, e6, e6'⟩ => ?_
   subst e6 e6'
   refine thn (ht fp s H _ s6 _ H6 _ I6 (step v H6 y5)) fun ok s7 ⟨H7, I7, n7⟩ => ?_
   cases ok with
   | false =>
    rw [if_neg Bool.false_ne_true] at n7 ⊢
    obtain ⟨m', hm, w7⟩ := n7
    refine ⟨m', hm, i + 1, some v, ys, _, I7.unpinned, T.keep _ _ _ st5 fun b hb o e => (I7.pin (b, o) (List.mem_append_right _ (List.mem_append_right _ (mem_pinsAt hb e)))).1, fun b hb => ?_, w7⟩
    obtain ⟨o, e, _⟩ := T.obj _ _ st5 b hb
    exact (I7.pin (b, o) (List.mem_append_right _ (List.mem_append_right _ (mem_pinsAt hb e)))).2.1
   | true =>
    rw [if_pos rfl] at n7 ⊢
    refine thn (he fp s H _ s7 _ H7 _ I7 n7) fun z s8 ⟨y, H8, I8, r8, hD8, m', hm, w8⟩ => ?_
    refine thn (mt_append _ s8 _ H8 (.ref s.heap.objs.size) [y] _ _ (fun _ H9 => H9 = upd H8 s.heap.objs.size (.lst (ys ++ [y]))) I8 rfl (.cons r8 .nil) ⟨_, ys, y, rfl, rfl, hD8, hz3, rfl⟩) fun _ s9 ⟨_, H9, I9, _, e9⟩ => ?_
    subst e9
    refine ⟨m', hm, i + 1, some v, ys ++ [y], _, I9.unpinned, T.keep _ _ _ st5 fun b hb o e => (I9.pin (b, o) (List.mem_append_right _ (List.mem_append_right _ (mem_pinsAt hb e)))).1, fun b hb => ?_, w8⟩
    obtain ⟨o, e, _⟩ := T.obj _ _ st5 b hb
    exact (I9.pin (b, o) (List.mem_append_right _ (List.mem_append_right _ (mem_pinsAt hb e)))).2.1
 exact codeAny_compStart_list loop (T.self _ 0 _ _ _ st1 loop)
theorem pe_compT {elt iter c : Expr} {px pos : Pos} {wi : TI} {tt : TT} {te : TE} (hc : X.calm = true) (hi : PI X (.Name x px) iter wi) (C : CompOk X scope cl x M idx) (ht : ∀ fp s H, PT (cxComp X (x :: M) scope cl fp s H) c tt) (he : ∀ fp s H, PE (cxComp X (x :: M) scope cl fp s H) elt te)
  (hs : ∀ x, foldedSetIterable iter X.env x = pure x := by intro _; rfl) : PE X (.ListComp elt [⟨.Name x px, iter, [c], 0⟩] scope pos) (tCompT idx wi tt te) := by
 intro pins s σ H Q I h
 rw [eval_ListComp]
 refine wpAny_comprehension_free (use := none) rfl hs C.clos C.kind C.names (thn (hi pins s σ H _ I h) fun xv s1 h1 => thn h1 fun itv s2 h2 => ?_)
 obtain ⟨it, fp, tn, J, H2, e, I2, T, st2, f2, hW⟩ := h2
 subst e
 refine compT_core (RR := fun acc C => compPost (model X.prog X.w) X.A X.xe none (EP X pins σ Q) acc C) (Q := Q) hc C ht he I2 T st2 f2 hW fun D H' s' I' B q => ?_
 obtain ⟨m, hn⟩ := B.ns
 exact ⟨m, hn, fun h' hs' => ⟨.ref D, H', I'.turned (t' := s'.toks) (fun b o hb e => (hs'.2 b hb).trans e) B.fr B.nl (.inr B.yo) B.nc B.np, rfl, q⟩⟩
theorem ps_setcompT {elt iter c : Expr} {i : Nat} {y : Str} {px py pos spos : Pos} {wi : TI} {tt : TT} {te : TE} (hN : X.N.Nodup) (hy : X.N[i]? = some y) (hl : X.env.scope.names.lookup y = some .local) (hc : X.calm = true) (hi : PI X (.Name x px) iter wi)
  (C : CompOk X scope cl x M idx) (ht : ∀ fp s H, PT (cxComp X (x :: M) scope cl fp s H) c tt) (he : ∀ fp s H, PE (cxComp X (x :: M) scope cl fp s H) elt te)
  (hsw : swapsWith (.ListComp elt [⟨.Name x px, iter, [c], 0⟩] scope pos) (some (.Name y py)) spos.line X.env = pure true := by rfl)
  (hs : ∀ x, foldedSetIterable iter X.env x = pure x := by intro _; rfl) : PS X (.Assign [.Name y py] (.ListComp elt [⟨.Name x px, iter, [c], 0⟩] scope pos) spos) (tAsg (tCompT idx wi tt te) (gName i)) := by
 intro pins s σ H D I h
 rw [exec_Assign_Name_used _ _ _ _ hsw]
 refine wpAny_bind (wpAny_standAt (wpAny_bind ?_))
 show wpAny _ X.A (do let _ ← comprehension (.ListComp elt [⟨.Name x px, iter, [c], 0⟩] scope pos) scope X.env _ (newList []) false (eval iter X.env) (some (assign (.Name y py) X.env))) _ _ s
 refine wpAny_bind (wpAny_mono (wpAny_comprehension_free (use := some (assign (.Name y py) X.env)) (Q := fun _ s' => SP X pins D .next s') rfl hs C.clos C.kind C.names
  (thn (hi pins s σ H _ I h) fun xv s1 h1 => thn h1 fun itv s2 h2 => ?_)) (fun _ s' hq => wpAny_pure (wpAny_pure hq)) fun _ _ e => e)
 obtain ⟨it, fp, tn, J, H2, e, I2, T, st2, f2, hW⟩ := h2
 subst e
 refine compT_core (RR := fun acc C => compPost (model X.prog X.w) X.A X.xe (some (assign (.Name y py) X.env)) (fun _ s' => SP X pins D .next s') acc C) (Q := fun x H1 => gName i x σ H1 D.nx) hc C ht he I2 T st2 f2 hW fun D' H' s' I' B q => ?_
 obtain ⟨m, hn⟩ := B.ns
 show wpAny _ X.A (assign (.Name y py) X.env (.ref D')) _ _ s'
 refine wpAny_assign_Name (store_ok2 I' hN hy (.inl hl) (v := .ref D') rfl (fun s'' I'' hs'' => ?_) (.inr hl))
 obtain ⟨a, hsb, ha⟩ := hs''
 have hne : s2.heap.objs.size + 1 ≠ a := by
  rcases ha with rfl | ha
  ·exact B.nl
  ·exact fun z => B.nc y a ha z.symm
 refine ⟨m, hn.sameBut hsb hne, fun h' hs' => ?_⟩
 exact ⟨_, H', I''.turned (t' := s''.toks) (fun b o hb e => (hs'.2 b hb).trans e) B.fr B.nl (.inr B.yo) B.nc B.np, q⟩
end
theorem compT_list {K : W.Frag} {a D : Addr} {xs : List V} {idx : List Nat} {σ : St} {tt : TT} {te : TE} {Q : VK} {H : Hp} (Pv : Nat → List V → Hp → Prop) (h0 : Pv 0 [] (upd H D (.lst [])))
  (hl : ∀ i ys H2, i ≤ xs.length → Pv i ys H2 → SqL K H2 a xs ∧ H2 D = some (.lst ys) ∧ ys.length < sizeLine)
  (hs : ∀ i v ys H2 (N : List V → Hp → Prop), xs[i]? = some v → Pv i ys H2 → (∀ zs H', Pv (i + 1) zs H' → N zs H') →
   tt (some v :: pick idx σ) H2 fun b H4 => if b = true then te (some v :: pick idx σ) H4 fun y H5 => H5 D = some (.lst ys) ∧ N (ys ++ [y]) (upd H5 D (.lst (ys ++ [y]))) else N ys H4)
  (hd : ∀ ys H2, Pv xs.length ys H2 → Q (.ref D) H2) : CompWT (Itl K a) idx σ tt te D Q H := by
 refine ⟨fun i m ys H2 => m = xs.length - i ∧ i ≤ xs.length ∧ Pv i ys H2, ⟨xs.length, by simp, Nat.zero_le _, h0⟩, ?_⟩
 rintro i m ys H2 ⟨rfl, hi, p⟩
 obtain ⟨q1, q2, q3⟩ := hl i ys H2 hi p
 refine ⟨q2, q3, ?_⟩
 by_cases hlt : i < xs.length
 ·refine .inr ⟨⟨xs, xs[i], q1, by simp [hlt]⟩, fun v H3 y => ?_⟩
  obtain ⟨e, y⟩ := y
  subst e
  exact hs i v ys _ (fun zs H' => ∃ m', m' < xs.length - i ∧ m' = xs.length - (i + 1) ∧ i + 1 ≤ xs.length ∧ Pv (i + 1) zs H') (y xs q1) p fun zs H' q => ⟨xs.length - (i + 1), by omega, rfl, hlt, q⟩
 ·have e : i = xs.length := by omega
  subst e
  exact .inl ⟨⟨xs, q1, Nat.le_refl _⟩, hd ys H2 p⟩
theorem compT_range {D : Addr} {lo : Int} {n : Nat} {idx : List Nat} {σ : St} {tt : TT} {te : TE} {Q : VK} {H : Hp} (Pv : Nat → List V → Hp → Prop) (h0 : Pv 0 [] (upd H D (.lst [])))
  (hl : ∀ i ys H2, i ≤ n → Pv i ys H2 → H2 D = some (.lst ys) ∧ ys.length < sizeLine)
  (hs : ∀ i ys H2 (N : List V → Hp → Prop), i < n → Pv i ys H2 → (∀ zs H', Pv (i + 1) zs H' → N zs H') →
   tt (some (.int (lo + i)) :: pick idx σ) H2 fun b H4 => if b = true then te (some (.int (lo + i)) :: pick idx σ) H4 fun y H5 => H5 D = some (.lst ys) ∧ N (ys ++ [y]) (upd H5 D (.lst (ys ++ [y]))) else N ys H4)
  (hd : ∀ ys H2, Pv n ys H2 → Q (.ref D) H2) : CompWT (Itr lo n) idx σ tt te D Q H := by
 refine ⟨fun i m ys H2 => m = n - i ∧ i ≤ n ∧ Pv i ys H2, ⟨n, by simp, Nat.zero_le _, h0⟩, ?_⟩
 rintro i m ys H2 ⟨rfl, hi, p⟩
 obtain ⟨q2, q3⟩ := hl i ys H2 hi p
 refine ⟨q2, q3, ?_⟩
 by_cases hlt : i < n
 ·refine .inr ⟨hlt, fun v H3 y => ?_⟩
  obtain ⟨e, y⟩ := y
  subst e y
  exact hs i ys _ (fun zs H' => ∃ m', m' < n - i ∧ m' = n - (i + 1) ∧ i + 1 ≤ n ∧ Pv (i + 1) zs H') hlt p fun zs H' q => ⟨n - (i + 1), by omega, rfl, hlt, q⟩
 ·have e : i = n := by omega
  subst e
  exact .inl ⟨Nat.le_refl _, hd ys H2 p⟩
end L2
namespace L2
open PySem PySem.Spec PyProof.Rows
section
variable {X : Cx} {pins : List (Addr × Obj)} {σ : St} {H : Hp} {s : Shared} {h' : Heap}
theorem Inv.turnedL {t' : Nat} {ch : List Addr} (I : Inv X pins σ H s) (k : ∀ b o, b ∉ ch → s.heap.get? b = some o → h'.get? b = some o) (f : ∀ b ∈ ch, FpOk X pins H b) : Inv X pins σ H { s with heap := h', toks := t' } := by
 have nit : ∀ b u, H b = some u → b ∉ ch := fun b u e z => by rw [(f b z).1] at e; cases e
 refine I.call' (s' := { s with heap := h', toks := t' }) rfl ⟨fun b o q _ _ hx => k b o hx q, fun b o q _ _ hx => ⟨o.slots, k b o hx q⟩, fun _ _ _ n _ => n, fun b o q hx => ⟨o, k b o hx q⟩, fun _ _ q => q, fun _ _ _ q => q, fun _ ps q => ⟨#[], by rw [q]; simp⟩⟩ (fun b u e => ?_) I.bare
  fun b hb => ⟨(f b hb).2.2.2.1, (f b hb).2.1, (f b hb).2.2.2.2.1, (f b hb).2.2.2.2.2⟩
 refine (I.hok b u e).stay (fun c v hc q => k c v ?_ q) (fun _ q => q) fun _ _ q => q
 rcases hc with z | z
 ·rw [z]; exact nit b u e
 ·exact nit c _ z
theorem Inv.turnedNew {t' : Nat} {ch : List Addr} {T : Addr} {o : HO} (I : Inv X pins σ H s) (k : ∀ b o, b ∉ ch → s.heap.get? b = some o → h'.get? b = some o) (f : ∀ b ∈ ch, FpOk X pins H b) (hT : s.heap.objs.size ≤ T)
  (new : ObjOk X.prog X.w (upd H T o) h' T o) : Inv X pins σ (upd H T o) { s with heap := h', toks := t' } := by
 have nit : ∀ b u, H b = some u → b ∉ ch := fun b u e z => by rw [(f b z).1] at e; cases e
 have hn : H T = none := I.hok.fresh hT
 refine I.call' (s' := { s with heap := h', toks := t' }) rfl ⟨fun b o q _ _ hx => k b o hx q, fun b o q _ _ hx => ⟨o.slots, k b o hx q⟩, fun b o q n _ => by rw [upd_ne (Nat.ne_of_lt (Nat.lt_of_lt_of_le (Heap.lt_size q) hT))]; exact n, fun b o q hx => ⟨o, k b o hx q⟩,
  fun b xs q => by rw [upd_ne (ne_of_none q hn)]; exact q, fun b u xs q => by rw [upd_ne (ne_of_none q hn)]; exact q, fun b ps q => ⟨#[], by rw [upd_ne (ne_of_none q hn), q]; simp⟩⟩ (fun b u e => ?_) I.bare
  fun b hb => ⟨(f b hb).2.2.2.1, (f b hb).2.1, (f b hb).2.2.2.2.1, (f b hb).2.2.2.2.2⟩
 by_cases hb : b = T
 ·subst hb
  rw [upd_same] at e
  cases e
  exact new
 ·rw [upd_ne hb] at e
  refine (I.hok b u e).stay (fun c v hc q => k c v ?_ q) (fun c q => by rw [upd_ne (ne_of_none q hn)]; exact q) fun c xs q => by rw [upd_ne (ne_of_none q hn)]; exact q
  rcases hc with z | z
  ·rw [z]; exact nit b u e
  ·exact nit c _ z
end
def Itz (K : W.Frag) (a b : Addr) : It :=
  ⟨fun i H => ∃ xs ys x y, SqL K H a xs ∧ SqL K H b ys ∧ xs[i]? = some x ∧ ys[i]? = some y,
   fun i H v H' => ∃ T x y, v = .ref T ∧ H T = none ∧ H' = upd H T (.tup [x, y]) ∧ (∀ xs, SqL K H a xs → xs[i]? = some x) ∧ ∀ ys, SqL K H b ys → ys[i]? = some y,
   fun i H => ∃ xs ys, SqL K H a xs ∧ SqL K H b ys ∧ (xs.length ≤ i ∨ ys.length ≤ i)⟩
theorem cls_ne {h : Heap} {a b : Addr} {o u : Obj} (ha : h.get? a = some o) (hb : h.get? b = some u) (n : o.cls ≠ u.cls) : a ≠ b := fun e => by
 subst e
 rw [ha] at hb
 cases hb
 exact n rfl
theorem zip_apart {h : Heap} {z TI TO i1 i2 l1 l2 : Addr} {f0 a b : Value} {k1 k2 : Nat} {xs ys : Array Value} (h1 : TI ≠ TO) (h2 : i1 ≠ i2) (hz : IsZip h z TI TO f0) (hTI : IsPair h TI (.ref i1) (.ref i2)) (hTO : IsPair h TO a b)
  (q1 : h.IsListIter i1 l1 k1) (q2 : h.IsListIter i2 l2 k2) (hl1 : h.IsList l1 xs) (hl2 : h.IsList l2 ys) : ZipApart z TI TO i1 i2 l1 l2 := by
 obtain ⟨o1, e1, c1, d1⟩ := q1
 obtain ⟨o2, e2, c2, d2⟩ := q2
 obtain ⟨o3, e3, c3, _⟩ := hl1
 obtain ⟨o4, e4, c4, _⟩ := hl2
 refine ⟨cls_ne hTI hz ?_, cls_ne hTO hz ?_, cls_ne e1 hz ?_, cls_ne e2 hz ?_, h1, cls_ne hTI e1 ?_, cls_ne hTI e2 ?_, cls_ne hTO e1 ?_, cls_ne hTO e2 ?_, h2, cls_ne e3 hz ?_, cls_ne e3 hTO ?_, cls_ne e3 e1 ?_, cls_ne e3 e2 ?_, cls_ne e4 hz ?_, cls_ne e4 hTO ?_, cls_ne e4 e1 ?_, cls_ne e4 e2 ?_⟩ <;>
  (intro z; (try rw [c1] at z); (try rw [c2] at z); (try rw [c3] at z); (try rw [c4] at z); injection z with z'; exact absurd z' (by decide))
theorem turn_zip {P : Program} {w : World} {K : W.Frag} {es : List Expr} {kk : Nat} {tp : Pos} (a b z TI TO i1 i2 : Addr) (h1 : TI ≠ TO) (h2 : i1 ≠ i2) :
  Turn P w K (.Tuple es kk tp) (Itz K a b) [z, TI, TO, i1, i2] z (fun i h => IsZip h z TI TO .none ∧ IsPair h TI (.ref i1) (.ref i2) ∧ (∃ u v, IsPair h TO u v) ∧ h.IsListIter i1 a i ∧ h.IsListIter i2 b i) where
 mem := by simp
 obj := fun i h ⟨hz, hTI, ⟨u, v, hTO⟩, q1, q2⟩ c hc => by
  obtain ⟨o1, e1, c1, d1⟩ := q1
  obtain ⟨o2, e2, c2, d2⟩ := q2
  simp only [List.mem_cons, List.not_mem_nil, or_false] at hc
  rcases hc with rfl | rfl | rfl | rfl | rfl
  ·exact ⟨_, hz, fun v z => by cases z⟩
  ·exact ⟨_, hTI, fun v z => by cases z⟩
  ·exact ⟨_, hTO, fun v z => by cases z⟩
  ·exact ⟨_, e1, fun v z => by rw [d1] at z; cases z⟩
  ·exact ⟨_, e2, fun v z => by rw [d2] at z; cases z⟩
 keep := fun i h h' ⟨hz, hTI, ⟨u, v, hTO⟩, q1, q2⟩ k => ⟨k z (by simp) _ hz, k TI (by simp) _ hTI, ⟨u, v, k TO (by simp) _ hTO⟩, q1.at fun o e => k i1 (by simp) o e, q2.at fun o e => k i2 (by simp) o e⟩
 item := by
  intro X hP hw hK hc i pins s σ H E I hf ⟨hz, hTI, ⟨u, v, hTO⟩, q1, q2⟩ hg
  subst hP hw hK
  obtain ⟨xs, ys, x, y, hx, hy, ex, ey⟩ := hg
  obtain ⟨its, rv, p, hz1⟩ := I.list hx
  obtain ⟨its2, rv2, p2, hz2⟩ := I.list hy
  obtain ⟨ux, hux, rux⟩ := rv.get ex
  obtain ⟨uy, huy, ruy⟩ := rv2.get ey
  have D := zip_apart h1 h2 hz hTI hTO q1 q2 p.isList p2.isList
  refine wpAny_pyNext_zip_item D hz hTI hTO q1 q2 p.isList p2.isList (by simpa using hux) (by simpa using huy) fun h' a1 a2 a3 a4 a5 a6 hk => ?_
  refine ⟨_, rfl, wpAny_letOwnedTupleGo_zip a1 fun h'' hz' hs' => ?_⟩
  have lt : ∀ {c o}, s.heap.get? c = some o → s.heap.objs.size ≠ c := fun e => Nat.ne_of_gt (Heap.lt_size e)
  have kk : ∀ c o, c ∉ [z, TI, TO, i1, i2] → s.heap.get? c = some o → h''.get? c = some o := fun c o hc e => by
   simp only [List.mem_cons, List.not_mem_nil, or_false, not_or] at hc
   exact hs'.extBut _ _ hc.1 (hk c o hc.1 hc.2.2.1 hc.2.2.2.1 hc.2.2.2.2 e)
  have hT : h''.get? s.heap.objs.size = some { cls := .type "tuple", data := .seq #[ux, uy] } := hs'.extBut _ _ (lt hz) a5
  have I1 : Inv X pins σ (upd H s.heap.objs.size (.tup [x, y])) { s with heap := h'' } := I.turnedNew (t' := s.toks) kk hf (Nat.le_refl _) ⟨(by show 2 ≤ sizeLine; decide), [ux, uy], .cons rux (.cons ruy .nil), _, hT, rfl, _, rfl⟩
  refine ⟨.ref s.heap.objs.size, _, I1, rfl, ⟨_, x, y, rfl, I.hok.fresh (Nat.le_refl _), rfl, fun xs' h => by rw [I.list_inj h hx]; exact ex, fun ys' h => by rw [I.list_inj h hy]; exact ey⟩, ⟨hz', hs'.extBut _ _ D.TIz (hk _ _ D.TIz D.TITO D.TIi1 D.TIi2 hTI), ⟨_, _, hs'.extBut _ _ D.TOz a2⟩, a3.extBut hs'.extBut D.i1z, a4.extBut hs'.extBut D.i2z⟩, fun c hc => ?_⟩
  have hcs : ∃ o, s.heap.get? c = some o := by
   obtain ⟨o1, e1, _⟩ := q1
   obtain ⟨o2, e2, _⟩ := q2
   simp only [List.mem_cons, List.not_mem_nil, or_false] at hc
   rcases hc with rfl | rfl | rfl | rfl | rfl
   ·exact ⟨_, hz⟩
   ·exact ⟨_, hTI⟩
   ·exact ⟨_, hTO⟩
   ·exact ⟨_, e1⟩
   ·exact ⟨_, e2⟩
  obtain ⟨o, e⟩ := hcs
  rw [upd_ne (lt e).symm]
  exact (hf c hc).1
 done := by
  intro X hP hw hK hc i pins s σ H E I hf ⟨hz, hTI, ⟨u, v, hTO⟩, q1, q2⟩ hg
  subst hP hw hK
  obtain ⟨xs, ys, hx, hy, he⟩ := hg
  obtain ⟨its, rv, p, hz1⟩ := I.list hx
  obtain ⟨its2, rv2, p2, hz2⟩ := I.list hy
  have l1 := rv.length
  have l2 := rv2.length
  have D := zip_apart h1 h2 hz hTI hTO q1 q2 p.isList p2.isList
  refine wpAny_pyNext_zip_end (I.ok.hd hc) D hz hTI hTO q1 q2 p.isList p2.isList (he.imp (fun z => by simp; omega) fun z => by simp; omega) fun h' hk => ⟨rfl, I.turnedL (t' := s.toks) (fun c o hc e => ?_) hf⟩
  simp only [List.mem_cons, List.not_mem_nil, or_false, not_or] at hc
  exact hk c o hc.1 hc.2.2.1 hc.2.2.2.1 hc.2.2.2.2 e
 self := fun _ _ _ _ _ st h => wpAny_pyIter_zip st.1 h
def iZip (K : W.Frag) (ta : TA) : TI := fun σ H R => ta σ H fun vs H1 => ∃ a b, vs = [.ref a, .ref b] ∧ (∃ xs, SqL K H1 a xs) ∧ (∃ ys, SqL K H1 b ys) ∧ R (Itz K a b) H1
theorem boot_zip : bootBuiltins "zip" = some (.type "zip") := by decide +kernel
theorem pi_zip {X : Cx} {a b : Expr} {ta : TA} {p pos : Pos} {es : List Expr} {kk : Nat} {tp : Pos} (hg : Gl X "zip") (hm : X.mg "zip" = none) (ha : PA X [a, b] ta) (hs : starEach [a, b] X.env = (false, eval a X.env) :: starEach [b] X.env := by rfl) (hs2 : (backTo pos (starEach [b] X.env)).any (·.1) = false := by rfl) :
  PI X (.Tuple es kk tp) (.Call (.Name "zip" p) [a, b] [] pos) (iZip X.K ta) := by
 intro pins s σ H R I h
 refine Call_ (ld_blt I hg hm boot_zip (PyProof.Rows.callWith_type1 (thn (ha pos pins s σ H _ I h) fun us s1 ⟨vs, H1, I1, r1, q1⟩ => ?_) hs hs2))
 obtain ⟨l1, l2, e, ⟨xs, hx⟩, ⟨ys, hy⟩, q⟩ := q1
 subst e
 obtain ⟨u1, u2, rfl, ru1, ru2⟩ := r1.two
 cases ru1
 cases ru2
 obtain ⟨its, rv, p1, hz1⟩ := I1.list hx
 obtain ⟨its2, rv2, p2, hz2⟩ := I1.list hy
 refine call_zip_2 p1.isList p2.isList fun h' hz hTI hTO hit1 hit2 hsz hk => ?_
 have I2 : Inv X pins σ H1 { s1 with heap := h' } := I1.kept (t' := s1.toks) hk
 refine wpAny_pyIter_zip hz ⟨_, _, _, _, H1, rfl, I2, turn_zip l1 l2 (s1.heap.objs.size + 4) (s1.heap.objs.size + 2) (s1.heap.objs.size + 3) s1.heap.objs.size (s1.heap.objs.size + 1) (fun z => absurd (Nat.add_left_cancel (show s1.heap.objs.size + 2 = s1.heap.objs.size + 3 from z)) (by decide)) (fun z => absurd z.symm (Nat.succ_ne_self _)), ⟨hz, hTI, ⟨_, _, hTO⟩, hit1, hit2⟩, fun b hb => ?_, q⟩
 simp only [List.mem_cons, List.not_mem_nil, or_false] at hb
 have nw : ∀ k, H1 (s1.heap.objs.size + k) = none := fun k => I1.hok.fresh (Nat.le_add_right _ k)
 have fo : ∀ k, FpOk X pins H1 (s1.heap.objs.size + k) := fun k => I1.fpOk (Nat.le_add_right _ k) (nw k)
 rcases hb with rfl | rfl | rfl | rfl | rfl
 ·exact fo 4
 ·exact fo 2
 ·exact fo 3
 ·exact fo 0
 ·exact fo 1
end L2
namespace L2
open PySem PySem.Spec PyProof.Rows
theorem cut_length (xs : List V) (a b : Nat) : (cutV xs (some (a : Int)) (some (b : Int))).length = min b xs.length - min a xs.length := by
 unfold cutV
 rw [List.length_take, List.length_drop, HT.sIx_nat, HT.sIx_nat]
 omega
theorem cut_take (xs : List V) (j : Nat) (h : j ≤ xs.length) : cutV xs none (some (j : Int)) = xs.take j := by
 unfold cutV
 rw [HT.sIx_nat]
 show (xs.drop 0).take (min j xs.length - 0) = xs.take j
 rw [List.drop_zero, Nat.sub_zero, Nat.min_eq_left h]
end L2
namespace L2
open PySem PySem.Spec PyProof.Rows
section
variable {X : Cx} {K : W.Frag}
theorem ix_tupK (hK : X.K = K) : IxR X (rIxT K) := by subst hK; exact ix_tup
theorem ix_listK (hK : X.K = K) : IxR X (rIxL K) := by subst hK; exact ix_list
theorem call_isinstK (hK : X.K = K) : CallR X (.builtin "isinstance") (rIsI K) := by subst hK; exact call_isinst
theorem op_notInK (hK : X.K = K) : OpR X (compareOp .NotIn) (rIn K true) := by subst hK; exact op_notIn_seq
end
end L2
namespace L2
open PySem PySem.Spec PyProof.Rows
section
variable {X : Cx} {i : Nat} {n c : Str} {CB : Addr} {e : Expr} {te : TEX} {th : TS} {b₀ : Stmt} {suite : List Stmt} {p1 np hp pos : Pos}
end
end L2
namespace L2
open PySem PySem.Spec PyProof.Rows
section
variable {X : Cx} {pos : Pos}
end
end L2
namespace L2
open PySem PySem.Spec PyProof.Rows
abbrev Cx.shaky (X : Cx) : Cx := { X with calm := false }
structure RoomH (k : Nat) (A : Around) : Prop where
 dp : A.depth + 3 * k + 5 < recursionLimit
 un : A.units + 16 * k + 200 < cLine
theorem Room.h {k : Nat} {A : Around} (r : Room k A) : RoomH k A := ⟨r.dp, r.un⟩
theorem Room.held {k : Nat} {A : Around} {v : Option Value} (r : Room k A) : RoomH k (A.mark v) := ⟨r.dp, r.un⟩
theorem RoomH.mono {j k : Nat} {A : Around} (r : RoomH k A) (h : j ≤ k) : RoomH j A := ⟨by have := r.dp; omega, by have := r.un; omega⟩
theorem RoomH.deeper {k : Nat} {A : Around} (r : RoomH (k + 1) A) (env : Env) : RoomH k (A.deeper env) :=
 ⟨by have := r.dp; show A.depth + 1 + 3 * k + 5 < _; omega, by have := r.un; show A.units + 3 + 16 * k + 200 < _; omega⟩
theorem RoomH.depth {k : Nat} {A : Around} (r : RoomH k A) : A.depth < recursionLimit := by have := r.dp; omega
structure FnOkH (P : Program) (w : World) (K : W.Frag) (mg : Str → Option Value) (base : Heap) (CX : CXT) (k : Nat) (f : Addr) (fd : FuncData) (ps : List Str) (sp : Sp) : Prop where
 len : ∀ vs H Q E, sp vs H Q E → vs.length = ps.length
 run : ∀ (A : Around) (outer : List Env) (s : Shared) (H : Hp) (args : Args) (us : List Value) (vs : List V) (Q : VK) (E : XK), RoomH k A → Env0 P w K mg base A outer s H → BindsTo s fd args (ps.zip us) → Vals vs us → sp vs H Q E →
  codeAny (model P w) A (.call (.ref f) args) (CR CX outer P w H s Q E) s
theorem inv_startH {CX : CXT} {P : Program} {w : World} {K : W.Frag} {mg : Str → Option Value} {base : Heap} {N ps : List Str} {qual : Str} {scope : Scope} {f : Addr} {cd : Value} {A : Around} {outer : List Env} {s s1 : Shared} {H : Hp} {E : XK} {us : List Value} {vs : List V}
  (S : FnScope N ps scope) (e0 : Env0 P w K mg base A outer s H) (hl : vs.length = ps.length) (r : Vals vs us)
  (x : InCallC s s.heap.objs.size (bindL (envOfC qual scope s.heap.objs.size f cd).kindOf (ps.zip us) fun _ => none) (cellsFrom (s.heap.objs.size + 1) scope.names []) (bindC (envOfC qual scope s.heap.objs.size f cd).kindOf (ps.zip us) fun _ => none) s1) :
  Inv (cxOf CX P w K mg base N qual scope f cd A outer s H E).shaky [] (start N vs) H s1 := by
 have hpl : ps.length ≤ N.length := by have := congrArg List.length S.pre; rw [List.length_take] at this; omega
 obtain ⟨h1, tk, rfl, hk⟩ := x.done
 have noA : ∀ b : Addr, b ∉ (cxOf CX P w K mg base N qual scope f cd A outer s H E).shaky.ex := fun b z => absurd (show b ∈ ([] : List Addr) from z) (by simp)
 refine ⟨⟨e0.mod, S.kind, rfl, rfl, Nat.le_refl _, fun y z c h1 h2 => ?_, fun y hy => ?_, fun y c _ h => ?_, fun h => (nomatch (show false = true from h)), Around.frames_deeper e0.frames, .inr ⟨rfl, rfl⟩, fun b z => absurd z (noA b), e0.bs, e0.bsz, fun b _ _ => noA b, fun b z => absurd z (noA b), e0.funs, e0.frf⟩,
  rfl, e0.bare, Un.kept hk, ⟨_, x.toInCall.ns, fun i y v h1 h2 h3 => ?_⟩, fun y c h => ⟨_, x.cell y c h⟩, e0.hok.fresh (Nat.le_refl _), fun y c h => ?_, fun p hp => absurd (show p ∈ ([] : List (Addr × Obj)) from hp) (by simp), e0.hok.kept hk, ?_⟩
 ·exact name_of_addr x.apart (PySem.mem_of_lookup h1) (PySem.mem_of_lookup h2)
 ·have hy : scope.names.lookup y = some .cell ∨ scope.names.lookup y = some .free := hy
  rcases hy with hy | hy
  ·exact cell_has hy
  ·exact absurd rfl (S.nofree _ (PySem.mem_of_lookup hy))
 ·exact Nat.le_of_lt (x.above y c (PySem.mem_of_lookup h))
 ·have hi : i < vs.length := by
   unfold start at h2
   by_cases hi : i < vs.length
   ·exact hi
   ·rw [List.getElem?_append_right (by simpa using hi)] at h2
    rw [List.getElem?_replicate] at h2
    split at h2 <;> cases h2
  have ha : vs[i]? = some v := by
   unfold start at h2
   rw [List.getElem?_append_left (by simpa using hi), List.getElem?_map] at h2
   cases e : vs[i]? with
   | none => rw [e] at h2; cases h2
   | some a => rw [e] at h2; cases h2; rfl
  obtain ⟨u, hu, rv⟩ := r.get ha
  have hp : ps[i]? = some y := by
   rw [← S.pre, List.getElem?_take_of_lt (by omega)]; exact h1
  have ndP : ps.Nodup := by rw [← S.pre]; exact S.nd.sublist (List.take_sublist _ _)
  refine ⟨u, rv, ?_⟩
  rcases S.par y (List.mem_of_getElem? hp) with k | k
  ·exact .inl ⟨k, bindL_get ndP hp hu k⟩
  ·obtain ⟨c, e⟩ := cell_has (n := s.heap.objs.size + 1) k
   refine .inr ⟨.inl k, c, e, ?_⟩
   have q := x.cell y c e
   rw [bindC_get ndP hp hu (by show scope.names.lookup y ≠ _; rw [k]; decide)] at q
   exact q
 ·exact e0.hok.fresh (Nat.le_of_lt (x.above y c (PySem.mem_of_lookup h)))
 ·unfold start
  show _ = N.length
  rw [List.length_append, List.length_map, List.length_replicate]
  omega
theorem fn_ofH {CX : CXT} {P : Program} {w : World} {K : W.Frag} {mg : Str → Option Value} {base : Heap} {k : Nat} {f : Addr} {name qual : Str} {params : Arguments} {body : List Stmt} {scope : Scope} {dV kV doc pm cdv ct oc : Value} {an od : Option Addr}
  {osl : Array (Option Value)} {N ps : List Str} {sp : Sp} (lk : K.lookup f = some ⟨oc, od, .func (W.fnOf name qual params body scope dV kV doc pm an cdv ct), osl⟩) (hcd : W.codeIn K cdv qual = true) (S : FnScope N ps scope)
  (len : ∀ vs H Q E, sp vs H Q E → vs.length = ps.length)
  (hbody : ∀ (A : Around) (outer : List Env) (s : Shared) (H : Hp) (vs : List V) (Q : VK) (E : XK), RoomH k (A.deeper (envOfC qual scope s.heap.objs.size f cdv)) → sp vs H Q E →
   ∃ t, PSs (cxOf CX P w K mg base N qual scope f cdv A outer s H E).shaky body t ∧ t { nx := fun _ H' => Q .non H', rt := Q } (start N vs) H) :
  FnOkH P w K mg base CX (k + 1) f (W.fnOf name qual params body scope dV kV doc pm an cdv ct) ps sp := by
 refine ⟨len, fun A outer s H args us vs Q E hr e0 hb r hsp => ?_⟩
 have hl := len _ _ _ _ hsp
 have KX : K.In s.heap := e0.mod.kin.keeps fun b o e => (e0.bs b o e).1
 have lim : s.heap.NoLimit := e0.mod.nolimit.keeps fun b o e => (e0.bs b o e).1
 have hkind : ∀ y ∈ ps.zip us, scope.names.lookup y.1 = some .local ∨ (scope.names.lookup y.1 = some .cell ∧ ((cellsFrom (s.heap.objs.size + 1) scope.names []).lookup y.1).isSome = true) := fun ⟨n, v⟩ hy => by
  rcases S.par n (List.of_mem_zip hy).1 with q | q
  ·exact .inl q
  ·exact .inr ⟨q, W.cellsFrom_some _ _ _ (.inl q)⟩
 refine codeAny_call_function hr.depth (KX _ _ lk) rfl S.co S.gen rfl (W.codeRec_of KX hcd) (hb _ _ _ _ ?_)
 refine wpAny_newFunctionEnv_cells S.kind hkind fun env he s1 x => ?_
 subst he
 refine ⟨lim.keeps x.toInCall.keep, codeAny_func ?_⟩
 obtain ⟨t, ht, hq⟩ := hbody A outer s H vs Q E (hr.deeper _) hsp
 have I : Inv (cxOf CX P w K mg base N qual scope f cdv A outer s H E).shaky [] (start N vs) H s1 := inv_startH S e0 hl r x
 refine wpAny_mono (ht [] s1 (start N vs) H _ I hq) (fun fl s' hs => ?_) fun e s' hs => hs
 have fin : ∀ {σ' : St} {H' : Hp} {v : V} {u : Value}, Inv (cxOf CX P w K mg base N qual scope f cdv A outer s H E).shaky [] σ' H' s' → RelV v u → Q v H' → CE outer P w H s Q u s' :=
  fun {σ' H' v u} J rv q => ⟨v, H', J.os, J.bare, J.base, J.hok, rv, q⟩
 cases fl with
 | ret u =>
  obtain ⟨v, σ', H', J, rv, q⟩ := hs
  exact fin J rv q
 | next =>
  obtain ⟨σ', H', J, q⟩ := hs
  exact fin (v := V.non) (u := Value.none) J rfl q
 | brk =>
  obtain ⟨_, _, _, q⟩ := hs
  exact False.elim q
 | cont =>
  obtain ⟨_, _, _, q⟩ := hs
  exact False.elim q
section
variable {P : Program} {w : World} {K : W.Frag} {mg : Str → Option Value} {base : Heap}
theorem Fun.okH {x qual : Str} {st : Stmt} {f : Addr} {fd : FuncData} {N ps : List Str} {k : Nat} {sp : Sp} (F : Fun K x qual st f fd) (S : FnScope N ps (defScope st)) (len : ∀ vs H Q E, sp vs H Q E → vs.length = ps.length)
  (hbody : ∀ (cdv : Value) (A : Around) (outer : List Env) (s : Shared) (H : Hp) (vs : List V) (Q : VK) (E : XK), RoomH k (A.deeper (envOfC qual (defScope st) s.heap.objs.size f cdv)) → sp vs H Q E →
   ∃ t, PSs (cxOf CX0 P w K mg base N qual (defScope st) f cdv A outer s H E).shaky.nox (defBody st) t ∧ t { nx := fun _ H' => Q .non H', rt := Q } (start N vs) H) : FnOkH P w K mg base CX0 (k + 1) f fd ps sp := by
 obtain ⟨oc, od, kV, doc, pm, an, cdv, ct, osl, rfl, lk, hcd⟩ := F.ex
 refine fn_ofH lk hcd S len fun A outer s H vs Q E hr hsp => ?_
 obtain ⟨t, h, q⟩ := hbody cdv A outer s H vs Q E hr hsp
 exact ⟨t, h.nox, q⟩
end
def DnH (P : Program) (w : World) (K : W.Frag) (mg : Str → Option Value) (base : Heap) (x : Str) (k : Nat) (ps : List Str) (sp : Sp) : Prop :=
 ∃ f fd, FnOkH P w K mg base CX0 k f fd ps sp ∧ Binds K fd ps [] ∧ mg x = some (.ref f) ∧ W.keepIn K (.ref f) = true
section
variable {X : Cx} {x : Str} {k : Nat} {ps : List Str} {sp : Sp} {e : Expr} {es : List Expr} {t : TA} {p pos : Pos} {CX : CXT} {f : Addr} {fd : FuncData} {dvs : List V} {ds : List Value} {E : XK}
theorem run_fnH {pins : List (Addr × Obj)} {σ : St} {H : Hp} {s : Shared} {Q : VK} {us : List Value} {vs : List V} (F : FnOkH X.prog X.w X.K X.mg X.base CX k f fd ps sp) (hr : RoomH k X.A) (hb : Binds X.K fd ps ds) (hd : Vals dvs ds) (hx : Passes CX X E)
  (I : Inv X pins σ H s) (r : Vals vs us) (h : sp (vs ++ dvs) H Q E) : wpAny (model X.prog X.w) X.A (call (.ref f) us) (EP X pins σ Q) X.xe s := by
 have r2 : Vals (vs ++ dvs) (us ++ ds) := r.append hd
 have hl : (us ++ ds).length = ps.length := by rw [← r2.length]; exact F.len _ _ _ _ h
 refine wpAny_call (codeAny_mono (F.run X.A X.stack s H ⟨us, []⟩ (us ++ ds) (vs ++ dvs) Q E hr I.env0 (hb s us I.kIn hl) r2 h) fun r s' hq => ?_)
 cases r with
 | error e => exact hx pins σ H s e s' I hq
 | ok fl =>
  cases fl with
  | ret u => exact I.after hq
  | next => exact False.elim hq
  | brk => exact False.elim hq
  | cont => exact False.elim hq
theorem pe_fnH (D : DnH X.prog X.w X.K X.mg X.base x k ps sp) (hr : RoomH k X.A) (ha : PA X (e :: es) t) (hg : Gl X x := by rfl) (hdb : (x == ("__debug__" : Str)) = false := by decide)
  (he : starEach (e :: es) X.env = (false, eval e X.env) :: starEach es X.env := by rfl) (hpl : (backTo pos (starEach es X.env)).any (·.1) = false := by rfl) : PE X (.Call (.Name x p) (e :: es) [] pos) (tCall sp [] E0 t) := by
 obtain ⟨f, fd, F, b, m, kp⟩ := D
 intro pins s σ H Q I h
 refine wpAny_Call_Name_kw (ld_glob I hg m ?_ hdb)
 refine W.callWith_K (h₀ := X.base) I.ok.mod.kin kp (thn (ha pos pins s σ H _ I h) fun us s1 ⟨vs, H1, I1, r, q⟩ => ⟨I1.kIn, ?_⟩) he hpl
 exact run_fnH F hr b .nil pass0 I1 r q
end
end L2
namespace L2
open PySem PySem.Spec PyProof.Rows
section
variable {X : Cx}
end
end L2
namespace L2
open PySem
theorem menuL (ms : List Int) (c : Int) {n : Int} (hn : (ms.length : Int) = n) (h0 : 0 < n) : ∃ m ∈ ms, atI (ms.map V.int) (c % n) = some (.int m) := by
 have r := em (x := c) h0
 obtain ⟨k, hk⟩ := Int.eq_ofNat_of_zero_le r.1
 have hk' : k < ms.length := by omega
 refine ⟨ms[k], List.getElem_mem hk', ?_⟩
 rw [hk]
 exact atI_nat (by rw [List.getElem?_map, List.getElem?_eq_getElem hk']; rfl)
end L2
namespace L2
open PySem
section
variable {X : Cx} {es : List Expr} {t : TA}
end
end L2
namespace KM
def dot (ws ns : List Int) : Int := (List.zipWith (· * ·) ws ns).sum
theorem dot_nil {ns : List Int} : dot [] ns = 0 := rfl
theorem dot_nilR {ws : List Int} : dot ws [] = 0 := by cases ws <;> rfl
theorem dot_cons {w n : Int} {ws ns : List Int} : dot (w :: ws) (n :: ns) = w * n + dot ws ns := by simp [dot]
theorem dot_sz {m n : Nat} : ∀ {ws ns : List Int}, (∀ w ∈ ws, w.natAbs < 2 ^ m) → (∀ w ∈ ns, w.natAbs < 2 ^ n) → (dot ws ns).natAbs ≤ ws.length * 2 ^ (m + n)
 | [], _, _, _ => by rw [dot_nil]; simp
 | _ :: _, [], _, _ => by rw [dot_nilR]; simp
 | w :: ws, v :: ns, h1, h2 => by
  rw [dot_cons]
  have a := sz_mul (h1 w (by simp)) (h2 v (by simp))
  have b := dot_sz (ws := ws) (ns := ns) (fun x hx => h1 x (by simp [hx])) (fun x hx => h2 x (by simp [hx]))
  rw [List.length_cons, Nat.add_mul, Nat.one_mul]
  generalize 2 ^ (m + n) = N at *
  generalize ws.length * N = T at *
  omega
def modz (v : Int) : List Int → List (Int × Int) → List Int
 | w :: ws, b :: bs => v * w % b.2 :: modz v ws bs
 | _, _ => []
theorem modz_len {v : Int} : ∀ {ws : List Int} {bs : List (Int × Int)}, ws.length ≤ bs.length → (modz v ws bs).length = ws.length
 | [], _, _ => rfl
 | _ :: _, [], h => by simp at h
 | w :: ws, b :: bs, h => by show (modz v ws bs).length + 1 = ws.length + 1; rw [modz_len (by simpa using h)]
theorem modz_at {v w : Int} {b : Int × Int} : ∀ {ws : List Int} {bs : List (Int × Int)} {i : Nat}, ws[i]? = some w → bs[i]? = some b → (modz v ws bs)[i]? = some (v * w % b.2)
 | w' :: ws, b' :: bs, 0, h1, h2 => by simp at h1 h2; subst h1 h2; rfl
 | w' :: ws, b' :: bs, i + 1, h1, h2 => by simp at h1 h2; show (modz v ws bs)[i]? = _; exact modz_at h1 h2
 | [], _, _, h1, _ => by simp at h1
 | _ :: _, [], _, _, h2 => by simp at h2
theorem modz_bd {v : Int} : ∀ {ws : List Int} {bs : List (Int × Int)}, (∀ b ∈ bs, 0 < b.2) → ∀ o ∈ modz v ws bs, ∃ b ∈ bs, 0 ≤ o ∧ o < b.2
 | [], _, _, _, z => nomatch z
 | _ :: _, [], _, _, z => nomatch z
 | w :: ws, b :: bs, h, o, z => by
  rcases List.mem_cons.mp z with rfl | z
  ·exact ⟨b, by simp, Int.emod_nonneg _ (by have := h b (by simp); omega), Int.emod_lt_of_pos _ (h b (by simp))⟩
  ·obtain ⟨c, hc, q⟩ := modz_bd (fun c hc => h c (by simp [hc])) o z
   exact ⟨c, by simp [hc], q⟩
theorem modz_take {v : Int} : ∀ {ws : List Int} {bs : List (Int × Int)} {n : Nat}, ws.length ≤ n → modz v ws (bs.take n) = modz v ws bs
 | [], _, _, _ => rfl
 | _ :: _, [], _, _ => by simp
 | _ :: _, _ :: _, 0, h => by simp at h
 | w :: ws, b :: bs, n + 1, h => by rw [List.take_succ_cons]; show _ :: _ = _ :: _; rw [modz_take (by simpa using h)]
theorem wsum_modz {L v : Int} (h : ∀ b ∈ ([] : List (Int × Int)), b.2 ∣ L) : ∀ {ws : List Int} {bs : List (Int × Int)}, (∀ b ∈ bs, b.2 ∣ L) → L ∣ wsum L (modz v ws bs) bs - v * wsum L ws bs
 | [], _, _ => by show L ∣ wsum L [] _ - v * wsum L [] _; simp [wsum]
 | _ :: _, [], _ => by simp [wsum, modz]
 | w :: ws, b :: bs, hd => by
  show L ∣ v * w % b.2 * (L / b.2) + wsum L (modz v ws bs) bs - v * (w * (L / b.2) + wsum L ws bs)
  have h1 := wsum_modz (v := v) h (ws := ws) (bs := bs) fun c hc => hd c (by simp [hc])
  have h2 : L ∣ (v * w % b.2 - v * w) * (L / b.2) := by
   have e : v * w % b.2 - v * w = b.2 * -(v * w / b.2) := by have := Int.emod_def (v * w) b.2; rw [this]; grind
   rw [e]
   refine ⟨-(v * w / b.2), ?_⟩
   have := Int.mul_ediv_cancel' (hd b (by simp))
   grind
  have e : v * w % b.2 * (L / b.2) + wsum L (modz v ws bs) bs - v * (w * (L / b.2) + wsum L ws bs) = (v * w % b.2 - v * w) * (L / b.2) + (wsum L (modz v ws bs) bs - v * wsum L ws bs) := by grind
  rw [e]
  exact Int.dvd_add h2 h1
structure Shr (b0 : Int × Int) (bs : List (Int × Int)) (os : List Int) (c : Int) : Prop where
 pos : 0 < c
 d0 : b0.2 ∣ c
 dv : ∀ b ∈ bs, b.2 ∣ c
 len : os.length = bs.length
 sm : c / b0.2 ∣ 1 - wsum c os bs
 bd : ∀ o ∈ os, ∃ b ∈ bs, 0 ≤ o ∧ o < b.2
theorem Shr.start {b0 : Int × Int} (h : 0 < b0.2) : Shr b0 [] [] b0.2 := ⟨h, Int.dvd_refl _, fun _ z => (nomatch z), rfl, by rw [Int.ediv_self (by omega)]; exact Int.one_dvd _, fun _ z => (nomatch z)⟩
theorem Shr.step {b0 : Int × Int} {bs : List (Int × Int)} {os : List Int} {c d u v : Int} {b : Int × Int} (S : Shr b0 bs os c) (h0 : 0 < b0.2) (hp : ∀ b ∈ bs, 0 < b.2) (hb : 0 < b.2) (W : Wt c b.2 d u v) (hd : 0 < d) :
  Shr b0 (bs ++ [b]) (modz v os bs ++ [u % b.2]) (c / d * b.2) := by
 have hg := W.gcd
 have dc : d ∣ c := by rw [hg]; exact Int.gcd_dvd_left ..
 have db : d ∣ b.2 := by rw [hg]; exact Int.gcd_dvd_right ..
 obtain ⟨c1, rfl⟩ := dc
 obtain ⟨g1, hg1⟩ := db
 have ec : d * c1 / d = c1 := Int.mul_ediv_cancel_left _ (by omega)
 rw [ec]
 have hc1 : 0 < c1 := by
  have := S.pos
  exact Int.pos_of_mul_pos_right (by rw [Int.mul_comm] at this; rw [Int.mul_comm]; exact this) hd
 have hg1p : 0 < g1 := by
  rw [hg1] at hb
  exact Int.pos_of_mul_pos_right (by rw [Int.mul_comm] at hb; rw [Int.mul_comm]; exact hb) hd
 have hL : 0 < c1 * b.2 := Int.mul_pos hc1 hb
 have cL : d * c1 ∣ c1 * b.2 := ⟨g1, by rw [hg1]; grind⟩
 have bL : b.2 ∣ c1 * b.2 := ⟨c1, Int.mul_comm ..⟩
 have dL : ∀ x ∈ bs, x.2 ∣ c1 * b.2 := fun x hx => Int.dvd_trans (S.dv x hx) cL
 have d0L : b0.2 ∣ c1 * b.2 := Int.dvd_trans S.d0 cL
 have q1 : c1 * b.2 / (d * c1) = g1 := by
  have e : c1 * b.2 = d * c1 * g1 := by rw [hg1]; grind
  rw [e]
  exact Int.mul_ediv_cancel_left _ (by have := S.pos; omega)
 refine ⟨hL, d0L, fun x hx => ?_, by rw [List.length_append, List.length_append, modz_len (by rw [S.len]; exact Nat.le_refl _), S.len]; rfl, ?_, fun o ho => ?_⟩
 ·rcases List.mem_append.mp hx with z | z
  ·exact dL x z
  ·rw [List.mem_singleton.mp z]; exact bL
 ·rw [wsum_snoc (by rw [modz_len (by rw [S.len]; exact Nat.le_refl _), S.len])]
  have eb : c1 * b.2 / b.2 = c1 := Int.mul_ediv_cancel _ (by omega)
  rw [eb]
  have m1 := wsum_modz (L := c1 * b.2) (v := v) (fun _ z => (nomatch z)) (ws := os) (bs := bs) dL
  have m2 : wsum (c1 * b.2) os bs = g1 * wsum (d * c1) os bs := by
   rw [wsum_mul S.pos cL S.dv, q1]
  have m3 : c1 * b.2 / b0.2 = g1 * (d * c1 / b0.2) := by
   obtain ⟨t, ht⟩ := S.d0
   have e : c1 * b.2 = b0.2 * (g1 * t) := by
    have e1 : c1 * b.2 = d * c1 * g1 := by rw [hg1]; grind
    rw [e1, ht]; grind
   rw [e, ht, Int.mul_ediv_cancel_left _ (by omega), Int.mul_ediv_cancel_left _ (by omega)]
  have m4 : c1 * b.2 / b0.2 ∣ c1 * b.2 := ⟨b0.2, by rw [Int.ediv_mul_cancel d0L]⟩
  have m5 := S.sm
  have k1 : c1 * b.2 / b0.2 ∣ g1 * (1 - wsum (d * c1) os bs) := by
   rw [m3]
   exact Int.mul_dvd_mul (Int.dvd_refl _) m5
  have m6 : u * c1 + v * g1 = 1 := by
   have s := W.eq
   have e : d * (u * c1 + v * g1) = d * 1 := by
    rw [hg1] at s
    grind
   exact Int.eq_of_mul_eq_mul_left (by omega) e
  have m7 : c1 * b.2 ∣ (u % b.2 - u) * c1 := ⟨-(u / b.2), by have := Int.emod_def u b.2; rw [this]; grind⟩
  have e : 1 - (wsum (c1 * b.2) (modz v os bs) bs + u % b.2 * c1) = v * (g1 * (1 - wsum (d * c1) os bs)) - (wsum (c1 * b.2) (modz v os bs) bs - v * wsum (c1 * b.2) os bs) - (u % b.2 - u) * c1 := by
   rw [m2]
   grind
  rw [e]
  exact Int.dvd_sub (Int.dvd_sub (Int.dvd_mul_of_dvd_right k1) (Int.dvd_trans m4 m1)) (Int.dvd_trans m4 m7)
 ·rcases List.mem_append.mp ho with z | z
  ·obtain ⟨x, hx, q⟩ := modz_bd hp o z
   exact ⟨x, by simp [hx], q⟩
  ·rw [List.mem_singleton.mp z]
   exact ⟨b, by simp, Int.emod_nonneg _ (by omega), Int.emod_lt_of_pos _ hb⟩
theorem dot_wsum {L : Int} : ∀ {ws : List Int} {bs : List (Int × Int)}, dot ws (bs.map fun b => L / b.2) = wsum L ws bs
 | [], _ => by rw [dot_nil]; simp [wsum]
 | _ :: _, [] => by rw [List.map_nil, dot_nilR]; simp [wsum]
 | w :: ws, b :: bs => by rw [List.map_cons, dot_cons, dot_wsum]; rfl
theorem bezout : ∀ (a b : Nat), ∃ u v : Int, u * a + v * b = (Nat.gcd a b : Int) := by
 intro a
 induction a using Nat.strongRecOn with
 | ind a ih =>
  intro b
  by_cases h : a = 0
  ·subst h
   exact ⟨0, 1, by simp⟩
  ·obtain ⟨u, v, e⟩ := ih (b % a) (Nat.mod_lt _ (Nat.pos_of_ne_zero h)) a
   refine ⟨v - u * (b / a : Nat), u, ?_⟩
   rw [Nat.gcd_rec, ← e]
   have hb : ((b : Nat) : Int) = (a : Int) * ((b / a : Nat) : Int) + ((b % a : Nat) : Int) := by
    rw [← Int.natCast_mul, ← Int.natCast_add, Nat.div_add_mod]
   rw [hb]
   grind
theorem bezoutI {a b : Int} (ha : 0 < a) (hb : 0 < b) : ∃ u v : Int, u * a + v * b = (Int.gcd a b : Int) := by
 obtain ⟨u, v, e⟩ := bezout a.natAbs b.natAbs
 refine ⟨u, v, ?_⟩
 rw [Int.natAbs_of_nonneg (by omega), Int.natAbs_of_nonneg (by omega)] at e
 exact e
theorem Tog.more {bs x L ws} {r g x' L' : Int} (T : Tog bs x L ws) (hg : 0 < g) (M : Meets x L r g x' L') : ∃ ws', Tog (bs ++ [(r, g)]) x' L' ws' := by
 have hL := T.pos
 by_cases hn : bs = []
 ·refine ⟨_, T.step (u := 0) (v := 1) hg M ?_ (fun _ => rfl)⟩
  have e := M.len hL
  rw [(T.nil hn).2] at e ⊢
  have e' : L' = g := by simpa using e
  rw [e', Int.ediv_self (by omega)]
  omega
 ·obtain ⟨u, v, e⟩ := bezoutI hL hg
  have d1 := M.dL hL
  have d2 := M.dR hL
  have hd := gcd_posL (b := g) hL
  refine ⟨_, T.step (u := v) (v := u) hg M ?_ (fun z => absurd z hn)⟩
  have eL := M.len hL
  obtain ⟨a, ha⟩ : (Int.gcd L g : Int) ∣ L := Int.gcd_dvd_left ..
  obtain ⟨b, hb⟩ : (Int.gcd L g : Int) ∣ g := Int.gcd_dvd_right ..
  generalize (Int.gcd L g : Int) = d at *
  have q1 : L / d = a := by rw [ha]; exact Int.mul_ediv_cancel_left _ (by omega)
  rw [q1] at eL
  have e1 : L' / g = a := by rw [eL]; exact Int.mul_ediv_cancel _ (by omega)
  have e2 : L' / L = b := by
   have z : L' = L * b := by rw [eL, ha, hb]; grind
   rw [z]; exact Int.mul_ediv_cancel_left _ (by omega)
  rw [e1, e2]
  have z : d * (v * b + u * a) = d * 1 := by
   rw [ha, hb] at e
   grind
  exact Int.eq_of_mul_eq_mul_left (by omega) z
end KM
namespace KM
theorem rest_iff {x r g : Int} (h0 : 0 ≤ r) (h1 : r < g) : (x - r) % g = 0 ↔ x % g = r := by
 constructor
 ·intro h
  have e1 := Int.emod_nonneg x (show g ≠ 0 by omega)
  have e2 := Int.emod_lt_of_pos x (show 0 < g by omega)
  refine rest_one ?_ e1 e2 h0 h1
  rw [← Int.dvd_iff_emod_eq_zero] at *
  have h2 : g ∣ x - x % g := ⟨x / g, by have := Int.emod_def x g; omega⟩
  have e : x % g - r = (x - r) - (x - x % g) := by omega
  rw [e]
  exact Int.dvd_sub h h2
 ·intro h
  rw [← Int.dvd_iff_emod_eq_zero, ← h]
  exact ⟨x / g, by have := Int.emod_def x g; omega⟩
end KM
namespace KM
end KM
namespace KM
theorem cgap_dvd : ∀ (n : Nat) {bs : List (Int × Int)}, ∀ b ∈ bs.take n, b.2 ∣ cgap (bs.take n)
 | 0, _, b, h => by simp at h
 | n + 1, bs, b, h => by
  cases e : bs[n]? with
  | none =>
   rw [List.take_add_one, e] at h ⊢
   simp only [Option.toList_none, List.append_nil] at h ⊢
   exact cgap_dvd n b h
  | some c =>
   rw [cgap_take e]
   rw [take_snoc e] at h
   rcases List.mem_append.mp h with z | z
   ·exact Int.dvd_trans (cgap_dvd n b z) lcm_dvdL
   ·rw [List.mem_singleton.mp z]
    exact lcm_dvdR
theorem tog_le {bs : List (Int × Int)} {x L : Int} {ws : List Int} (T : Tog bs x L ws) (hp : ∀ b ∈ bs, 0 < b.2) : L ≤ cgap bs := by
 have hc : 0 < cgap bs := by
  have := cgap_pos bs.length hp
  rwa [List.take_of_length_le (Nat.le_refl _)] at this
 have hd : ∀ b ∈ bs, b.2 ∣ cgap bs := fun b hb => by
  have := cgap_dvd bs.length (bs := bs) b
  rw [List.take_of_length_le (Nat.le_refl _)] at this
  exact this hb
 have key := (T.ring (y := x + cgap bs)).mpr fun b hb => by
  have h1 := T.at_ b hb
  have h2 := hd b hb
  rw [← Int.dvd_iff_emod_eq_zero] at *
  have e : x + cgap bs - b.1 = (x - b.1) + cgap bs := by omega
  rw [e]
  exact Int.dvd_add h1 h2
 have e : x + cgap bs - x = cgap bs := by omega
 rw [e] at key
 exact Int.le_of_dvd hc (Int.dvd_of_emod_eq_zero key)
end KM
namespace L2
open PySem PySem.Spec PyProof.Rows
structure CompOk2 (X : Cx) (scope : Scope) (cl : List (Str × Addr)) (x x2 : Str) (M : List Str) (idx : List Nat) : Prop where
 clos : closureFor scope X.env = pure cl
 nocell : ∀ y ∈ scope.names, y.2 ≠ .cell
 kind : scope.kind = .function
 names : ∀ y ∈ scope.names, y.2 = .local → scope.names.lookup y.1 = some .local
 hx : scope.names.lookup x = some .local
 hx2 : scope.names.lookup x2 = some .local
 sub : ∀ p ∈ cl, X.env.cells.lookup p.1 = some p.2
 has : ((relabel scope X.env).names.all fun p => !(p.2 == .cell || p.2 == .free) || (cl.lookup p.1).isSome) = true
 cap : ∀ (j : Nat) (y : Str), M[j]? = some y → ∃ i, idx[j]? = some i ∧ X.N[i]? = some y ∧ X.env.scope.names.lookup y = some .cell ∧ (relabel scope X.env).names.lookup y = some .cell ∧ cl.lookup y = X.env.cells.lookup y
 nd : (x :: x2 :: M).Nodup
 len : M.length = idx.length
section
variable {X : Cx} {pins : List (Addr × Obj)} {σ : St} {H : Hp} {s : Shared} {scope : Scope} {cl : List (Str × Addr)} {x x2 : Str} {M : List Str} {idx : List Nat} {fp : List Addr}
theorem CompOk2.look (C : CompOk2 X scope cl x x2 M idx) {y : Str} {c : Addr} (e : cl.lookup y = some c) : X.env.cells.lookup y = some c := C.sub (y, c) (PySem.mem_of_lookup e)
theorem cx_ok2 (C : CompOk2 X scope cl x x2 M idx) (I : Inv X pins σ H s) (f : ∀ b ∈ fp, FpOk X pins H b) (ho : ∀ b ∈ fp, ∃ o, s.heap.get? b = some o ∧ ∀ v, o.data ≠ .cell v) : (cxComp X (x :: x2 :: M) scope cl fp s H).Ok where
 mod := I.ok.mod
 kind := C.kind
 glob := I.ok.glob
 blt := I.ok.blt
 above := Nat.le_succ _
 inj := fun y z c h1 h2 => I.ok.inj y z c (C.look h1) (C.look h2)
 has := fun y hy => by
  have hy' : (relabel scope X.env).names.lookup y = some .cell ∨ (relabel scope X.env).names.lookup y = some .free := hy
  have key : ∀ k, (relabel scope X.env).names.lookup y = some k → (k = .cell ∨ k = .free) → ∃ c, cl.lookup y = some c := fun k e hk => by
   have q := List.all_eq_true.mp C.has (y, k) (PySem.mem_of_lookup e)
   have hb : (k == NameKind.cell || k == NameKind.free) = true := by rcases hk with rfl | rfl <;> rfl
   rw [hb] at q
   exact Option.isSome_iff_exists.mp (by simpa using q)
  rcases hy' with e | e
  ·exact key _ e (.inl rfl)
  ·exact key _ e (.inr rfl)
 cab := fun y c h _ => nomatch (show false = true from h)
 hd := I.ok.hd
 frames := I.ok.frames
 stk := .inl rfl
 exf := fun b hb => by
  obtain ⟨f0, f1, f2, f3, f4, f5⟩ := f b hb
  obtain ⟨o, e, _⟩ := ho b hb
  refine ⟨?_, fun y c h => f4 y c (C.look h)⟩
  exact Nat.ne_of_lt (Nat.lt_succ_of_lt (Heap.lt_size e))
 bs := I.bs
 bsz := Nat.le_trans I.ok.bsz I.sz
 noex := fun b o e hb => by
  obtain ⟨f0, f1, f2, f3, f4, f5⟩ := f b hb
  rcases f3 with z | z
  ·exact I.ok.noex b o e z
  ·exact absurd (Nat.lt_of_lt_of_le (Heap.lt_size e) (Nat.le_trans I.ok.bsz z)) (Nat.lt_irrefl _)
 exfs := fun b hb z => by
  obtain ⟨f0, f1, f2, f3, f4, f5⟩ := f b hb
  rcases List.mem_cons.mp (I.stkSub b z) with e | e
  ·exact f1 e
  ·exact f2 e
 funs := I.stack
 frf := I.stkFree
theorem inv_comp2 {h₁ : Heap} {t : Nat} (C : CompOk2 X scope cl x x2 M idx) (I : Inv X pins σ H s) (f : ∀ b ∈ fp, FpOk X pins H b) (ho : ∀ b ∈ fp, ∃ o, s.heap.get? b = some o ∧ ∀ v, o.data ≠ .cell v)
  (old : ∀ b o, s.heap.get? b = some o → h₁.get? b = some o) (hD : h₁.get? s.heap.objs.size = some { cls := .type "list", data := .seq ([] : List Value).toArray })
  {m : Str → Option Value} (hC : h₁.Ns (s.heap.objs.size + 1) m) : Inv (cxComp X (x :: x2 :: M) scope cl fp s H) [] (none :: none :: pick idx σ) (upd H s.heap.objs.size (.lst [])) { s with heap := h₁, toks := t } := by
 have fr : H s.heap.objs.size = none := I.hok.fresh (Nat.le_refl _)
 have cellK : ∀ c v, s.heap.IsCell c v → h₁.IsCell c v := fun c v ⟨o, e, d⟩ => ⟨o, old _ _ e, d⟩
 refine ⟨cx_ok2 C I f ho, rfl, I.bare, Un.laid old (Nat.le_refl _) fr, ⟨m, hC, fun j y v e1 e2 e3 => ?_⟩, fun y c e => ?_, ?_, fun y c e => ?_, fun p hp => absurd (show p ∈ ([] : List (Addr × Obj)) from hp) (by simp), ?_, ?_⟩
 ·rcases j with _ | _ | j
  ·have z : (some (none : Option V)) = some (some v) := e2
   cases z
  ·have z : (some (none : Option V)) = some (some v) := e2
   cases z
  ·skip
   have e1' : M[j]? = some y := e1
   have e2' : (pick idx σ)[j]? = some (some v) := e2
   obtain ⟨i, hi, hN, hk, hr, hc⟩ := C.cap j y e1'
   have e3' : σ[i]? = some (some v) := by
    unfold pick at e2'
    rw [List.getElem?_map, hi] at e2'
    have z : (σ[i]?).join = some v := Option.some.inj e2'
    cases q : σ[i]? with
    | none => rw [q] at z; cases z
    | some o => rw [q] at z; have z' : o = some v := z; rw [z']
   obtain ⟨m0, hn, hl⟩ := I.loc
   obtain ⟨u, ru, l⟩ := hl i y v hN e3' (.inr (.inl hk))
   refine ⟨u, ru, ?_⟩
   rcases l with ⟨k, _⟩ | ⟨_, c, hcc, z⟩
   ·have k' : X.env.scope.names.lookup y = some .local := k
    rw [hk] at k'; cases k'
   ·exact .inr ⟨.inl hr, c, hc.trans hcc, cellK c _ z⟩
 ·obtain ⟨v, z⟩ := I.cell y c (C.look e)
  exact ⟨v, cellK c v z⟩
 ·show upd H s.heap.objs.size (.lst []) (s.heap.objs.size + 1) = none
  rw [upd_ne (Nat.succ_ne_self _)]
  exact I.hok.fresh (Nat.le_succ _)
 ·show upd H s.heap.objs.size (.lst []) c = none
  obtain ⟨v, z⟩ := I.cell y c (C.look e)
  rw [upd_ne (Nat.ne_of_lt z.lt)]
  exact I.freeC y c (C.look e)
 ·exact I.hok.laid old (Nat.le_refl _) ⟨Nat.zero_le _, [], 0, .nil, hD⟩
 ·show (none :: none :: pick idx σ).length = (x :: x2 :: M).length
  rw [List.length_cons, List.length_cons, List.length_cons, List.length_cons, pick_len, C.len]
def CompW2 (K : PySem.W.Frag) (J : It) (idx : List Nat) (σ : St) (te : TE) (D : Addr) (Q : VK) (H : Hp) : Prop := ∃ W : Nat → Nat → List V → Hp → Prop, (∃ m, W 0 m [] (upd H D (.lst []))) ∧ ∀ i m ys H2, W i m ys H2 →
 H2 D = some (.lst ys) ∧ ys.length < sizeLine ∧ ((J.stop i H2 ∧ Q (.ref D) H2) ∨ (J.go i H2 ∧ ∃ N : VK, (∀ y H4, N y H4 → H4 D = some (.lst ys) ∧ ∃ m', m' < m ∧ W (i + 1) m' (ys ++ [y]) (upd H4 D (.lst (ys ++ [y])))) ∧ ∀ v H3, J.yld i H2 v H3 → ∃ a u w, v = .ref a ∧ SqT K H3 a [u, w] ∧ te (some u :: some w :: pick idx σ) H3 N))
def tComp2 (K : W.Frag) (idx : List Nat) (wi : TI) (te : TE) : TE := fun σ H Q => wi σ H fun J H1 => ∀ D, H1 D = none → CompW2 K J idx σ te D Q H1
def CompWT2 (K : PySem.W.Frag) (J : It) (idx : List Nat) (σ : St) (tt : TT) (te : TE) (D : Addr) (Q : VK) (H : Hp) : Prop := ∃ W : Nat → Nat → List V → Hp → Prop, (∃ m, W 0 m [] (upd H D (.lst []))) ∧ ∀ i m ys H2, W i m ys H2 →
 H2 D = some (.lst ys) ∧ ys.length < sizeLine ∧ ((J.stop i H2 ∧ Q (.ref D) H2) ∨ (J.go i H2 ∧ ∀ v H3, J.yld i H2 v H3 → ∃ a u w, v = .ref a ∧ SqT K H3 a [u, w] ∧ tt (some u :: some w :: pick idx σ) H3 fun b H4 =>
  if b = true then te (some u :: some w :: pick idx σ) H4 fun y H5 => H5 D = some (.lst ys) ∧ ∃ m', m' < m ∧ W (i + 1) m' (ys ++ [y]) (upd H5 D (.lst (ys ++ [y]))) else ∃ m', m' < m ∧ W (i + 1) m' ys H4))
def tCompT2 (K : W.Frag) (idx : List Nat) (wi : TI) (tt : TT) (te : TE) : TE := fun σ H Q => wi σ H fun J H1 => ∀ D, H1 D = none → CompWT2 K J idx σ tt te D Q H1
theorem comp_core2 {elt iter : Expr} {px px2 pt pos : Pos} {kt : Nat} {te : TE} {Q : VK} {RR : Value → Addr → Result → Shared → Prop} {E : Value → Shared → Prop} (hc : X.calm = true) (C : CompOk2 X scope cl x x2 M idx)
  (he : ∀ fp s H, PE (cxComp X (x :: x2 :: M) scope cl fp s H) elt te) {it : Addr} {tn : Nat → Heap → Prop} {J : It} (I : Inv X pins σ H s) (T : Turn X.prog X.w X.K (.Tuple [.Name x px, .Name x2 px2] kt pt) J fp it tn) (st : tn 0 s.heap) (f : ∀ b ∈ fp, FpOk X pins H b)
  (h : ∀ D, H D = none → CompW2 X.K J idx σ te D Q H)
  (hR : ∀ D H' s', Inv X pins σ H' s' → BlockAt X pins H' (s.heap.objs.size + 1) s'.heap → Q (.ref D) H' → RR (.ref D) (s.heap.objs.size + 1) (.ok .next) s') :
  wpAny (model X.prog X.w) X.A (newList []) (fun acc s₃ => wpAny (model X.prog X.w) X.A (newFunctionEnv scope X.env.globals cl [] X.env.qual none .none (some X.env)) (fun cenv s₄ =>
   codeAny (model X.prog X.w) X.A (.compStart (.ListComp elt [⟨.Tuple [.Name x px, .Name x2 px2] kt pt, iter, [], 0⟩] scope pos) 0 (.ref it) acc { cenv with scope := relabel scope X.env }) (RR acc cenv.locals) s₄) E s₃) E s := by
 have hO := T.obj 0 _ st
 obtain ⟨W, ⟨m0, w0⟩, turn⟩ := h s.heap.objs.size (I.hok.fresh (Nat.le_refl _))
 refine wpAny_newObj_type (wpAny_newFunctionEnv C.nocell (by intro y hy; simp at hy) (fun h₁ hns₁ hsb₁ => ?_) C.kind)
 dsimp only at hns₁ hsb₁ ⊢
 have hsz : (s.heap.push { cls := .type "list", dict := none, data := .seq ([] : List Value).toArray }).objs.size = s.heap.objs.size + 1 := Heap.size_push ..
 rw [hsz] at hns₁ hsb₁ ⊢
 have old1 : ∀ b o, (s.heap.push { cls := .type "list", dict := none, data := .seq ([] : List Value).toArray }).get? b = some o → b ≠ s.heap.objs.size + 1 → h₁.get? b = some o := fun b o e ne =>
  (hsb₁.2 b ne).trans (Heap.get?_push_of_some _ e)
 have old : ∀ b o, s.heap.get? b = some o → h₁.get? b = some o := fun b o e => old1 b o (Heap.get?_push_of_some _ e) (Nat.ne_of_lt (Nat.lt_succ_of_lt (Heap.lt_size e)))
 have hD : h₁.get? s.heap.objs.size = some { cls := .type "list", data := .seq ([] : List Value).toArray } := old1 _ _ (Heap.get?_push_size _ rfl) (Nat.ne_of_lt (Nat.lt_succ_self _))
 have I0 := inv_comp2 (t := s.toks + ([] : List (Str × Value)).length) C I f hO old hD hns₁
 have stat : ∀ {H' : Hp}, (∀ b ∈ fp, H' b = none) → ∀ b ∈ fp, FpOk (cxComp X (x :: x2 :: M) scope cl fp s H) [] H' b := fun hn b hb => by
  obtain ⟨f0, f1, f2, f3, f4, f5⟩ := f b hb
  obtain ⟨o, e, _⟩ := hO b hb
  have ok := cx_ok2 (x := x) (x2 := x2) (M := M) C I f hO
  exact ⟨hn b hb, (ok.exf b hb).1, ok.exfs b hb, .inl hb, fun y c z => f4 y c (C.look z), fun p hp => absurd (show p ∈ ([] : List (Addr × Obj)) from hp) (by simp)⟩
 have st1 : tn 0 h₁ := T.keep _ _ _ st fun b _ o e => old b o e
 have fr0 : ∀ b ∈ fp, upd H s.heap.objs.size (.lst []) b = none := fun b hb => by
  obtain ⟨o, e, _⟩ := hO b hb
  rw [upd_ne (Nat.ne_of_lt (Heap.lt_size e))]
  exact (f b hb).1
 have loop : codeAny (model X.prog X.w) X.A (.compLoop (.ListComp elt [⟨.Tuple [.Name x px, .Name x2 px2] kt pt, iter, [], 0⟩] scope pos) 0 (.ref it) (.ref s.heap.objs.size) (compEnvC scope cl (s.heap.objs.size + 1) X.env)) (RR (.ref s.heap.objs.size) (s.heap.objs.size + 1))
   { s with heap := h₁, toks := s.toks + ([] : List (Str × Value)).length } := by
  refine compLoop_any (fun n s' => ∃ i o o2 ys H', Inv (cxComp X (x :: x2 :: M) scope cl fp s H) [] (o :: o2 :: pick idx σ) H' s' ∧ tn i s'.heap ∧ (∀ b ∈ fp, H' b = none) ∧ W i n ys H') ?_ m0 ⟨0, none, none, [], _, I0, st1, fr0, w0⟩
  rintro n s3 ⟨i, o, o2, ys, H3, I3, st3, fr3, w3⟩
  obtain ⟨hD3, hz3, alt⟩ := turn i n ys H3 w3
  rcases alt with ⟨stop, q⟩ | ⟨go, N, hN, step⟩
  ·refine thn (T.done (cxComp X (x :: x2 :: M) scope cl fp s H) rfl rfl rfl hc i [] s3 _ H3 _ I3 (stat fr3) st3 stop) fun r s4 ⟨hr, I4⟩ => ?_
   subst hr
   have u4 : Un (frs X.stack) fp H H3 s.heap s4.heap := I4.base
   have I5 : Inv X pins σ H3 s4 := I.call' I4.os u4 I4.hok I4.bare fun b hb => ⟨(f b hb).2.2.2.1, (f b hb).2.1, (f b hb).2.2.2.2.1, (f b hb).2.2.2.2.2⟩
   obtain ⟨m4, hn4, _⟩ := I4.loc
   refine hR _ H3 s4 I5 ⟨⟨m4, hn4⟩, I4.free, ?_, ?_, fun y c e z => ?_, fun p hp z => ?_⟩ q
   ·exact Nat.ne_of_gt (Nat.lt_succ_of_lt I.lt)
   ·exact Nat.le_succ_of_le I.sz
   ·obtain ⟨v, k⟩ := I.cell y c e
    rw [z] at k
    exact absurd (Nat.lt_of_succ_lt k.lt) (Nat.lt_irrefl _)
   ·have q1 := Heap.lt_size (I.pin p hp).1
    rw [z] at q1
    exact absurd (Nat.lt_of_succ_lt q1) (Nat.lt_irrefl _)
  ·refine thn (T.item (cxComp X (x :: x2 :: M) scope cl fp s H) rfl rfl rfl hc i [] s3 _ H3 _ I3 (stat fr3) st3 go) fun r s4 ⟨u, hr, h4⟩ => ?_
   subst hr
   refine thn h4 fun _ s5 ⟨v, H5, I5, r5, y5, st5, fr5⟩ => ?_
   have I5' := I5.pinned (stat fr5) (T.obj _ _ st5)
   have G : PG (cxComp X (x :: x2 :: M) scope cl fp s H) (.Tuple [.Name x px, .Name x2 px2] kt pt) (gTup X.K 2 (gCons (gName 0) (gCons (gName 1) gNil))) := pg_tup (X := cxComp X (x :: x2 :: M) scope cl fp s H) hc (pgs_cons (pg_name C.nd rfl (.inl (lookup_relabel_local C.hx)) (.inr (lookup_relabel_local C.hx))) (pgs_cons (pg_name C.nd rfl (.inl (lookup_relabel_local C.hx2)) (.inr (lookup_relabel_local C.hx2))) pgs_nil))
   obtain ⟨ta, v1, v2, ev, sv, step2⟩ := step v H5 y5
   subst ev
   refine thn (G _ s5 _ H5 (.ref ta) u (fun σ2 H2 => σ2 = some v1 :: some v2 :: pick idx σ ∧ H2 = H5) I5' r5 ⟨ta, [v1, v2], rfl, sv, rfl, v1, [v2], rfl, v2, [], rfl, rfl, rfl, rfl⟩) fun _ s6 ⟨σ6, H6, I6, e6, e6'⟩ => ?_
   subst e6 e6'
   refine thn (he fp s H _ s6 _ H6 _ I6 step2) fun z s7 ⟨y, H7, I7, r7, n7⟩ => ?_
   obtain ⟨hD7, m', hm, w7⟩ := hN y H7 n7
   refine thn (mt_append _ s7 _ H7 (.ref s.heap.objs.size) [y] _ _ (fun _ H8 => H8 = upd H7 s.heap.objs.size (.lst (ys ++ [y]))) I7 rfl (.cons r7 .nil) ⟨_, ys, y, rfl, rfl, hD7, hz3, rfl⟩) fun _ s8 ⟨_, H8, I8, _, e8⟩ => ?_
   subst e8
   refine ⟨m', hm, i + 1, some v1, some v2, ys ++ [y], _, I8.unpinned, T.keep _ _ _ st5 fun b hb o e => (I8.pin (b, o) (List.mem_append_right _ (List.mem_append_right _ (mem_pinsAt hb e)))).1, fun b hb => ?_, w7⟩
   obtain ⟨o, e, _⟩ := T.obj _ _ st5 b hb
   exact (I8.pin (b, o) (List.mem_append_right _ (List.mem_append_right _ (mem_pinsAt hb e)))).2.1
 exact codeAny_compStart_list loop (T.self _ 0 _ _ _ st1 loop)
theorem pe_comp2 {elt iter : Expr} {px px2 pt pos : Pos} {kt : Nat} {wi : TI} {te : TE} (hc : X.calm = true) (hi : PI X (.Tuple [.Name x px, .Name x2 px2] kt pt) iter wi) (C : CompOk2 X scope cl x x2 M idx) (he : ∀ fp s H, PE (cxComp X (x :: x2 :: M) scope cl fp s H) elt te)
  (hs : ∀ x, foldedSetIterable iter X.env x = pure x := by intro _; rfl) : PE X (.ListComp elt [⟨.Tuple [.Name x px, .Name x2 px2] kt pt, iter, [], 0⟩] scope pos) (tComp2 X.K idx wi te) := by
 intro pins s σ H Q I h
 rw [eval_ListComp]
 refine wpAny_comprehension_free (use := none) rfl hs C.clos C.kind C.names (thn (hi pins s σ H _ I h) fun xv s1 h1 => thn h1 fun itv s2 h2 => ?_)
 obtain ⟨it, fp, tn, J, H2, e, I2, T, st2, f2, hW⟩ := h2
 subst e
 refine comp_core2 (RR := fun acc C => compPost (model X.prog X.w) X.A X.xe none (EP X pins σ Q) acc C) (Q := Q) hc C he I2 T st2 f2 hW fun D H' s' I' B q => ?_
 obtain ⟨m, hn⟩ := B.ns
 exact ⟨m, hn, fun h' hs' => ⟨.ref D, H', I'.turned (t' := s'.toks) (fun b o hb e => (hs'.2 b hb).trans e) B.fr B.nl (.inr B.yo) B.nc B.np, rfl, q⟩⟩
theorem compT_core2 {elt iter c : Expr} {px px2 pt pos : Pos} {kt : Nat} {tt : TT} {te : TE} {Q : VK} {RR : Value → Addr → Result → Shared → Prop} {E : Value → Shared → Prop} (hc : X.calm = true) (C : CompOk2 X scope cl x x2 M idx)
  (ht : ∀ fp s H, PT (cxComp X (x :: x2 :: M) scope cl fp s H) c tt) (he : ∀ fp s H, PE (cxComp X (x :: x2 :: M) scope cl fp s H) elt te) {it : Addr} {tn : Nat → Heap → Prop} {J : It} (I : Inv X pins σ H s) (T : Turn X.prog X.w X.K (.Tuple [.Name x px, .Name x2 px2] kt pt) J fp it tn) (st : tn 0 s.heap) (f : ∀ b ∈ fp, FpOk X pins H b)
  (h : ∀ D, H D = none → CompWT2 X.K J idx σ tt te D Q H)
  (hR : ∀ D H' s', Inv X pins σ H' s' → BlockAt X pins H' (s.heap.objs.size + 1) s'.heap → Q (.ref D) H' → RR (.ref D) (s.heap.objs.size + 1) (.ok .next) s') :
  wpAny (model X.prog X.w) X.A (newList []) (fun acc s₃ => wpAny (model X.prog X.w) X.A (newFunctionEnv scope X.env.globals cl [] X.env.qual none .none (some X.env)) (fun cenv s₄ =>
   codeAny (model X.prog X.w) X.A (.compStart (.ListComp elt [⟨.Tuple [.Name x px, .Name x2 px2] kt pt, iter, [c], 0⟩] scope pos) 0 (.ref it) acc { cenv with scope := relabel scope X.env }) (RR acc cenv.locals) s₄) E s₃) E s := by
 have hO := T.obj 0 _ st
 obtain ⟨W, ⟨m0, w0⟩, turn⟩ := h s.heap.objs.size (I.hok.fresh (Nat.le_refl _))
 refine wpAny_newObj_type (wpAny_newFunctionEnv C.nocell (by intro y hy; simp at hy) (fun h₁ hns₁ hsb₁ => ?_) C.kind)
 dsimp only at hns₁ hsb₁ ⊢
 have hsz : (s.heap.push { cls := .type "list", dict := none, data := .seq ([] : List Value).toArray }).objs.size = s.heap.objs.size + 1 := Heap.size_push ..
 rw [hsz] at hns₁ hsb₁ ⊢
 have old1 : ∀ b o, (s.heap.push { cls := .type "list", dict := none, data := .seq ([] : List Value).toArray }).get? b = some o → b ≠ s.heap.objs.size + 1 → h₁.get? b = some o := fun b o e ne =>
  (hsb₁.2 b ne).trans (Heap.get?_push_of_some _ e)
 have old : ∀ b o, s.heap.get? b = some o → h₁.get? b = some o := fun b o e => old1 b o (Heap.get?_push_of_some _ e) (Nat.ne_of_lt (Nat.lt_succ_of_lt (Heap.lt_size e)))
 have hD : h₁.get? s.heap.objs.size = some { cls := .type "list", data := .seq ([] : List Value).toArray } := old1 _ _ (Heap.get?_push_size _ rfl) (Nat.ne_of_lt (Nat.lt_succ_self _))
 have I0 := inv_comp2 (t := s.toks + ([] : List (Str × Value)).length) C I f hO old hD hns₁
 have stat : ∀ {H' : Hp}, (∀ b ∈ fp, H' b = none) → ∀ b ∈ fp, FpOk (cxComp X (x :: x2 :: M) scope cl fp s H) [] H' b := fun hn b hb => by
  obtain ⟨f0, f1, f2, f3, f4, f5⟩ := f b hb
  obtain ⟨o, e, _⟩ := hO b hb
  have ok := cx_ok2 (x := x) (x2 := x2) (M := M) C I f hO
  exact ⟨hn b hb, (ok.exf b hb).1, ok.exfs b hb, .inl hb, fun y c z => f4 y c (C.look z), fun p hp => absurd (show p ∈ ([] : List (Addr × Obj)) from hp) (by simp)⟩
 have st1 : tn 0 h₁ := T.keep _ _ _ st fun b _ o e => old b o e
 have fr0 : ∀ b ∈ fp, upd H s.heap.objs.size (.lst []) b = none := fun b hb => by
  obtain ⟨o, e, _⟩ := hO b hb
  rw [upd_ne (Nat.ne_of_lt (Heap.lt_size e))]
  exact (f b hb).1
 have loop : codeAny (model X.prog X.w) X.A (.compLoop (.ListComp elt [⟨.Tuple [.Name x px, .Name x2 px2] kt pt, iter, [c], 0⟩] scope pos) 0 (.ref it) (.ref s.heap.objs.size) (compEnvC scope cl (s.heap.objs.size + 1) X.env)) (RR (.ref s.heap.objs.size) (s.heap.objs.size + 1))
   { s with heap := h₁, toks := s.toks + ([] : List (Str × Value)).length } := by
  refine compLoop_anyT (fun n s' => ∃ i o o2 ys H', Inv (cxComp X (x :: x2 :: M) scope cl fp s H) [] (o :: o2 :: pick idx σ) H' s' ∧ tn i s'.heap ∧ (∀ b ∈ fp, H' b = none) ∧ W i n ys H') ?_ m0 ⟨0, none, none, [], _, I0, st1, fr0, w0⟩
  rintro n s3 ⟨i, o, o2, ys, H3, I3, st3, fr3, w3⟩
  obtain ⟨hD3, hz3, alt⟩ := turn i n ys H3 w3
  rcases alt with ⟨stop, q⟩ | ⟨go, step⟩
  ·refine thn (T.done (cxComp X (x :: x2 :: M) scope cl fp s H) rfl rfl rfl hc i [] s3 _ H3 _ I3 (stat fr3) st3 stop) fun r s4 ⟨hr, I4⟩ => ?_
   subst hr
   have u4 : Un (frs X.stack) fp H H3 s.heap s4.heap := I4.base
   have I5 : Inv X pins σ H3 s4 := I.call' I4.os u4 I4.hok I4.bare fun b hb => ⟨(f b hb).2.2.2.1, (f b hb).2.1, (f b hb).2.2.2.2.1, (f b hb).2.2.2.2.2⟩
   obtain ⟨m4, hn4, _⟩ := I4.loc
   refine hR _ H3 s4 I5 ⟨⟨m4, hn4⟩, I4.free, ?_, ?_, fun y c e z => ?_, fun p hp z => ?_⟩ q
   ·exact Nat.ne_of_gt (Nat.lt_succ_of_lt I.lt)
   ·exact Nat.le_succ_of_le I.sz
   ·obtain ⟨v, k⟩ := I.cell y c e
    rw [z] at k
    exact absurd (Nat.lt_of_succ_lt k.lt) (Nat.lt_irrefl _)
   ·have q1 := Heap.lt_size (I.pin p hp).1
    rw [z] at q1
    exact absurd (Nat.lt_of_succ_lt q1) (Nat.lt_irrefl _)
  ·refine thn (T.item (cxComp X (x :: x2 :: M) scope cl fp s H) rfl rfl rfl hc i [] s3 _ H3 _ I3 (stat fr3) st3 go) fun r s4 ⟨u, hr, h4⟩ => ?_
   subst hr
   refine thn h4 fun _ s5 ⟨v, H5, I5, r5, y5, st5, fr5⟩ => ?_
   have I5' := I5.pinned (stat fr5) (T.obj _ _ st5)
   have G : PG (cxComp X (x :: x2 :: M) scope cl fp s H) (.Tuple [.Name x px, .Name x2 px2] kt pt) (gTup X.K 2 (gCons (gName 0) (gCons (gName 1) gNil))) := pg_tup (X := cxComp X (x :: x2 :: M) scope cl fp s H) hc (pgs_cons (pg_name C.nd rfl (.inl (lookup_relabel_local C.hx)) (.inr (lookup_relabel_local C.hx))) (pgs_cons (pg_name C.nd rfl (.inl (lookup_relabel_local C.hx2)) (.inr (lookup_relabel_local C.hx2))) pgs_nil))
   obtain ⟨ta, v1, v2, ev, sv, step2⟩ := step v H5 y5
   subst ev
   refine thn (G _ s5 _ H5 (.ref ta) u (fun σ2 H2 => σ2 = some v1 :: some v2 :: pick idx σ ∧ H2 = H5) I5' r5 ⟨ta, [v1, v2], rfl, sv, rfl, v1, [v2], rfl, v2, [], rfl, rfl, rfl, rfl⟩) fun _ s6 ⟨σ6, H6, I6, e6, e6'⟩ => ?_
   subst e6 e6'
   refine thn (ht fp s H _ s6 _ H6 _ I6 step2) fun ok s7 ⟨H7, I7, n7⟩ => ?_
   cases ok with
   | false =>
    rw [if_neg Bool.false_ne_true] at n7 ⊢
    obtain ⟨m', hm, w7⟩ := n7
    refine ⟨m', hm, i + 1, some v1, some v2, ys, _, I7.unpinned, T.keep _ _ _ st5 fun b hb o e => (I7.pin (b, o) (List.mem_append_right _ (List.mem_append_right _ (mem_pinsAt hb e)))).1, fun b hb => ?_, w7⟩
    obtain ⟨o, e, _⟩ := T.obj _ _ st5 b hb
    exact (I7.pin (b, o) (List.mem_append_right _ (List.mem_append_right _ (mem_pinsAt hb e)))).2.1
   | true =>
    rw [if_pos rfl] at n7 ⊢
    refine thn (he fp s H _ s7 _ H7 _ I7 n7) fun z s8 ⟨y, H8, I8, r8, hD8, m', hm, w8⟩ => ?_
    refine thn (mt_append _ s8 _ H8 (.ref s.heap.objs.size) [y] _ _ (fun _ H9 => H9 = upd H8 s.heap.objs.size (.lst (ys ++ [y]))) I8 rfl (.cons r8 .nil) ⟨_, ys, y, rfl, rfl, hD8, hz3, rfl⟩) fun _ s9 ⟨_, H9, I9, _, e9⟩ => ?_
    subst e9
    refine ⟨m', hm, i + 1, some v1, some v2, ys ++ [y], _, I9.unpinned, T.keep _ _ _ st5 fun b hb o e => (I9.pin (b, o) (List.mem_append_right _ (List.mem_append_right _ (mem_pinsAt hb e)))).1, fun b hb => ?_, w8⟩
    obtain ⟨o, e, _⟩ := T.obj _ _ st5 b hb
    exact (I9.pin (b, o) (List.mem_append_right _ (List.mem_append_right _ (mem_pinsAt hb e)))).2.1
 exact codeAny_compStart_list loop (T.self _ 0 _ _ _ st1 loop)
theorem pe_compT2 {elt iter c : Expr} {px px2 pt pos : Pos} {kt : Nat} {wi : TI} {tt : TT} {te : TE} (hc : X.calm = true) (hi : PI X (.Tuple [.Name x px, .Name x2 px2] kt pt) iter wi) (C : CompOk2 X scope cl x x2 M idx) (ht : ∀ fp s H, PT (cxComp X (x :: x2 :: M) scope cl fp s H) c tt) (he : ∀ fp s H, PE (cxComp X (x :: x2 :: M) scope cl fp s H) elt te)
  (hs : ∀ x, foldedSetIterable iter X.env x = pure x := by intro _; rfl) : PE X (.ListComp elt [⟨.Tuple [.Name x px, .Name x2 px2] kt pt, iter, [c], 0⟩] scope pos) (tCompT2 X.K idx wi tt te) := by
 intro pins s σ H Q I h
 rw [eval_ListComp]
 refine wpAny_comprehension_free (use := none) rfl hs C.clos C.kind C.names (thn (hi pins s σ H _ I h) fun xv s1 h1 => thn h1 fun itv s2 h2 => ?_)
 obtain ⟨it, fp, tn, J, H2, e, I2, T, st2, f2, hW⟩ := h2
 subst e
 refine compT_core2 (RR := fun acc C => compPost (model X.prog X.w) X.A X.xe none (EP X pins σ Q) acc C) (Q := Q) hc C ht he I2 T st2 f2 hW fun D H' s' I' B q => ?_
 obtain ⟨m, hn⟩ := B.ns
 exact ⟨m, hn, fun h' hs' => ⟨.ref D, H', I'.turned (t' := s'.toks) (fun b o hb e => (hs'.2 b hb).trans e) B.fr B.nl (.inr B.yo) B.nc B.np, rfl, q⟩⟩
theorem ps_setcompT2 {elt iter c : Expr} {i : Nat} {y : Str} {px px2 pt py pos spos : Pos} {kt : Nat} {wi : TI} {tt : TT} {te : TE} (hN : X.N.Nodup) (hy : X.N[i]? = some y) (hl : X.env.scope.names.lookup y = some .local) (hc : X.calm = true) (hi : PI X (.Tuple [.Name x px, .Name x2 px2] kt pt) iter wi)
  (C : CompOk2 X scope cl x x2 M idx) (ht : ∀ fp s H, PT (cxComp X (x :: x2 :: M) scope cl fp s H) c tt) (he : ∀ fp s H, PE (cxComp X (x :: x2 :: M) scope cl fp s H) elt te)
  (hsw : swapsWith (.ListComp elt [⟨.Tuple [.Name x px, .Name x2 px2] kt pt, iter, [c], 0⟩] scope pos) (some (.Name y py)) spos.line X.env = pure true := by rfl)
  (hs : ∀ x, foldedSetIterable iter X.env x = pure x := by intro _; rfl) : PS X (.Assign [.Name y py] (.ListComp elt [⟨.Tuple [.Name x px, .Name x2 px2] kt pt, iter, [c], 0⟩] scope pos) spos) (tAsg (tCompT2 X.K idx wi tt te) (gName i)) := by
 intro pins s σ H D I h
 rw [exec_Assign_Name_used _ _ _ _ hsw]
 refine wpAny_bind (wpAny_standAt (wpAny_bind ?_))
 show wpAny _ X.A (do let _ ← comprehension (.ListComp elt [⟨.Tuple [.Name x px, .Name x2 px2] kt pt, iter, [c], 0⟩] scope pos) scope X.env _ (newList []) false (eval iter X.env) (some (assign (.Name y py) X.env))) _ _ s
 refine wpAny_bind (wpAny_mono (wpAny_comprehension_free (use := some (assign (.Name y py) X.env)) (Q := fun _ s' => SP X pins D .next s') rfl hs C.clos C.kind C.names
  (thn (hi pins s σ H _ I h) fun xv s1 h1 => thn h1 fun itv s2 h2 => ?_)) (fun _ s' hq => wpAny_pure (wpAny_pure hq)) fun _ _ e => e)
 obtain ⟨it, fp, tn, J, H2, e, I2, T, st2, f2, hW⟩ := h2
 subst e
 refine compT_core2 (RR := fun acc C => compPost (model X.prog X.w) X.A X.xe (some (assign (.Name y py) X.env)) (fun _ s' => SP X pins D .next s') acc C) (Q := fun x H1 => gName i x σ H1 D.nx) hc C ht he I2 T st2 f2 hW fun D' H' s' I' B q => ?_
 obtain ⟨m, hn⟩ := B.ns
 show wpAny _ X.A (assign (.Name y py) X.env (.ref D')) _ _ s'
 refine wpAny_assign_Name (store_ok2 I' hN hy (.inl hl) (v := .ref D') rfl (fun s'' I'' hs'' => ?_) (.inr hl))
 obtain ⟨a, hsb, ha⟩ := hs''
 have hne : s2.heap.objs.size + 1 ≠ a := by
  rcases ha with rfl | ha
  ·exact B.nl
  ·exact fun z => B.nc y a ha z.symm
 refine ⟨m, hn.sameBut hsb hne, fun h' hs' => ?_⟩
 exact ⟨_, H', I''.turned (t' := s''.toks) (fun b o hb e => (hs'.2 b hb).trans e) B.fr B.nl (.inr B.yo) B.nc B.np, q⟩
end
theorem comp_zip {K : W.Frag} {a b D : Addr} {xs ys : List V} {idx : List Nat} {σ : St} {te : TE} {Q : VK} {H : Hp} (Pv : Nat → List V → Hp → Prop) (h0 : Pv 0 [] (upd H D (.lst []))) (hle : xs.length ≤ ys.length)
  (hl : ∀ i zs H2, i ≤ xs.length → Pv i zs H2 → SqL K H2 a xs ∧ SqL K H2 b ys ∧ H2 D = some (.lst zs) ∧ zs.length < sizeLine)
  (hs : ∀ i u w zs H2 T, xs[i]? = some u → ys[i]? = some w → Pv i zs H2 → H2 T = none → te (some u :: some w :: pick idx σ) (upd H2 T (.tup [u, w])) fun y H4 => H4 D = some (.lst zs) ∧ Pv (i + 1) (zs ++ [y]) (upd H4 D (.lst (zs ++ [y])))) (hd : ∀ zs H2, Pv xs.length zs H2 → Q (.ref D) H2) :
  CompW2 K (Itz K a b) idx σ te D Q H := by
 refine ⟨fun i m zs H2 => m = xs.length - i ∧ i ≤ xs.length ∧ Pv i zs H2, ⟨xs.length, by simp, Nat.zero_le _, h0⟩, ?_⟩
 rintro i m zs H2 ⟨rfl, hi, p⟩
 obtain ⟨q1, q1', q2, q3⟩ := hl i zs H2 hi p
 refine ⟨q2, q3, ?_⟩
 by_cases hlt : i < xs.length
 ·have hlt' : i < ys.length := by omega
  refine .inr ⟨⟨xs, ys, xs[i], ys[i], q1, q1', by simp [hlt], by simp [hlt']⟩, fun y H4 => H4 D = some (.lst zs) ∧ Pv (i + 1) (zs ++ [y]) (upd H4 D (.lst (zs ++ [y]))), fun z H4 q => ⟨q.1, xs.length - (i + 1), by omega, rfl, hlt, q.2⟩, fun v H3 y => ?_⟩
  obtain ⟨T, x, y, rfl, hT, rfl, e1, e2⟩ := y
  exact ⟨T, x, y, rfl, SqT.of upd_same, hs i x y zs H2 T (e1 xs q1) (e2 ys q1') p hT⟩
 ·have e : i = xs.length := by omega
  subst e
  exact .inl ⟨⟨xs, ys, q1, q1', .inl (Nat.le_refl _)⟩, hd zs H2 p⟩
def Itn (K : W.Frag) (a : Addr) : It :=
  ⟨fun i H => ∃ xs x, SqL K H a xs ∧ xs[i]? = some x,
   fun i H v H' => ∃ T x, v = .ref T ∧ H T = none ∧ H' = upd H T (.tup [.int (i : Nat), x]) ∧ ∀ xs, SqL K H a xs → xs[i]? = some x,
   fun i H => ∃ xs, SqL K H a xs ∧ xs.length ≤ i⟩
theorem turn_enum {P : Program} {w : World} {K : W.Frag} {es : List Expr} {kk : Nat} {tp : Pos} (a e it : Addr) :
  Turn P w K (.Tuple es kk tp) (Itn K a) [e, it] e (fun i h => (∃ old, IsEnum h e it (i : Nat) old) ∧ h.IsListIter it a i) where
 mem := by simp
 obj := fun i h ⟨⟨old, he⟩, q⟩ c hc => by
  obtain ⟨o1, e1, c1, d1⟩ := q
  simp only [List.mem_cons, List.not_mem_nil, or_false] at hc
  rcases hc with rfl | rfl
  ·exact ⟨_, he, fun v z => by cases z⟩
  ·exact ⟨_, e1, fun v z => by rw [d1] at z; cases z⟩
 keep := fun i h h' ⟨⟨old, he⟩, q⟩ k => ⟨⟨old, k e (by simp) _ he⟩, q.at fun o z => k it (by simp) o z⟩
 item := by
  intro X hP hw hK hc i pins s σ H E I hf ⟨⟨old, he⟩, q⟩ hg
  subst hP hw hK
  obtain ⟨xs, x, hx, ex⟩ := hg
  obtain ⟨its, rv, p, hz1⟩ := I.list hx
  obtain ⟨ux, hux, rux⟩ := rv.get ex
  have hne : e ≠ it := by
   obtain ⟨o1, e1, c1, d1⟩ := q
   exact cls_ne he e1 (by rw [c1]; intro z; injection z with z'; exact absurd z' (by decide))
  refine wpAny_pyNext_enum_item he q p.isList (by simpa using hux) hne fun h' heo hit ht hz hk => ?_
  refine ⟨_, rfl, wpAny_letOwnedTupleGo_enum heo fun h'' he' hs' => ?_⟩
  have lt : ∀ {c o}, s.heap.get? c = some o → s.heap.objs.size ≠ c := fun z => Nat.ne_of_gt (Heap.lt_size z)
  have kk : ∀ c o, c ∉ [e, it] → s.heap.get? c = some o → h''.get? c = some o := fun c o hc z => by
   simp only [List.mem_cons, List.not_mem_nil, or_false, not_or] at hc
   exact hs'.extBut _ _ hc.1 (hk c o hc.1 hc.2 z)
  have hT : h''.get? s.heap.objs.size = some { cls := .type "tuple", data := .seq #[.int i s.toks, ux] } := hs'.extBut _ _ (lt he) ht
  have I1 : Inv X pins σ (upd H s.heap.objs.size (.tup [.int (i : Nat), x])) { s with heap := h'', toks := s.toks + 1 } := I.turnedNew (t' := s.toks + 1) kk hf (Nat.le_refl _) ⟨(by show 2 ≤ sizeLine; decide), [.int i s.toks, ux], .cons ⟨_, rfl⟩ (.cons rux .nil), _, hT, rfl, _, rfl⟩
  refine ⟨.ref s.heap.objs.size, _, I1, rfl, ⟨_, x, rfl, I.hok.fresh (Nat.le_refl _), rfl, fun xs' h => by rw [I.list_inj h hx]; exact ex⟩, ⟨⟨ux, ?_⟩, hit.extBut hs'.extBut hne.symm⟩, fun c hc => ?_⟩
  ·exact he'
  ·have hcs : ∃ o, s.heap.get? c = some o := by
    obtain ⟨o1, e1, _⟩ := q
    simp only [List.mem_cons, List.not_mem_nil, or_false] at hc
    rcases hc with rfl | rfl
    ·exact ⟨_, he⟩
    ·exact ⟨_, e1⟩
   obtain ⟨o, z⟩ := hcs
   rw [upd_ne (lt z).symm]
   exact (hf c hc).1
 done := by
  intro X hP hw hK hc i pins s σ H E I hf ⟨⟨old, he⟩, q⟩ hg
  subst hP hw hK
  obtain ⟨xs, hx, hle⟩ := hg
  obtain ⟨its, rv, p, hz1⟩ := I.list hx
  have l1 := rv.length
  refine wpAny_pyNext_enum_end (I.ok.hd hc) he q p.isList (by simp; omega) fun h' hk => ⟨rfl, I.turnedL (t' := s.toks) (ch := [e, it]) (fun c o hc z => ?_) hf⟩
  simp only [List.mem_cons, List.not_mem_nil, or_false, not_or] at hc
  exact hk c o hc.2 z
 self := fun _ _ _ _ _ st h => wpAny_pyIter_enum st.1.choose_spec h
def iEnum (K : W.Frag) (ta : TA) : TI := fun σ H R => ta σ H fun vs H1 => ∃ a, vs = [.ref a] ∧ (∃ xs, SqL K H1 a xs) ∧ R (Itn K a) H1
theorem boot_enumerate : bootBuiltins "enumerate" = some (.type "enumerate") := by decide +kernel
theorem pi_enum {X : Cx} {a : Expr} {ta : TA} {p pos : Pos} {es : List Expr} {kk : Nat} {tp : Pos} (hg : Gl X "enumerate") (hm : X.mg "enumerate" = none) (ha : PA X [a] ta) (hs : starEach [a] X.env = [(false, eval a X.env)] := by rfl) :
  PI X (.Tuple es kk tp) (.Call (.Name "enumerate" p) [a] [] pos) (iEnum X.K ta) := by
 intro pins s σ H R I h
 refine Call_ (ld_blt I hg hm boot_enumerate (PyProof.Rows.callWith_type1 (thn (ha pos pins s σ H _ I h) fun us s1 ⟨vs, H1, I1, r1, q1⟩ => ?_) hs rfl))
 obtain ⟨l, e, ⟨xs, hx⟩, q⟩ := q1
 subst e
 obtain ⟨u1, rfl, ru1⟩ := vals1 r1
 cases ru1
 obtain ⟨its, rv, p1, hz1⟩ := I1.list hx
 refine call_enumerate_list p1.isList fun h' he hit hsz hk => ?_
 have I2 : Inv X pins σ H1 { s1 with heap := h' } := I1.kept (t' := s1.toks) hk
 refine wpAny_pyIter_enum he ⟨_, _, _, _, H1, rfl, I2, turn_enum l (s1.heap.objs.size + 1) s1.heap.objs.size, ⟨⟨_, he⟩, hit⟩, fun b hb => ?_, q⟩
 simp only [List.mem_cons, List.not_mem_nil, or_false] at hb
 have nw : ∀ k, H1 (s1.heap.objs.size + k) = none := fun k => I1.hok.fresh (Nat.le_add_right _ k)
 have fo : ∀ k, FpOk X pins H1 (s1.heap.objs.size + k) := fun k => I1.fpOk (Nat.le_add_right _ k) (nw k)
 rcases hb with rfl | rfl
 ·exact fo 1
 ·exact fo 0
theorem for_enum {K : PySem.W.Frag} {a : Addr} {xs : List V} {g : TG} {tb : TS} {D : Ends} {σ : St} {H : Hp} (Pv : Nat → St → Hp → Prop) (h0 : Pv 0 σ H) (hl : ∀ i σ H, i ≤ xs.length → Pv i σ H → SqL K H a xs)
  (hs : ∀ i x T σ H, xs[i]? = some x → Pv i σ H → H T = none → g (.ref T) σ (upd H T (.tup [.int (i : Nat), x])) fun σ2 H2 => tb { D with nx := Pv (i + 1), ct := Pv (i + 1), bk := D.nx } σ2 H2) (hd : ∀ σ H, Pv xs.length σ H → D.nx σ H) :
  ∃ W : Nat → Nat → St → Hp → Prop, (∃ m, W 0 m σ H) ∧ ∀ i m σ H, W i m σ H →
   ((Itn K a).stop i H ∧ D.nx σ H) ∨ ((Itn K a).go i H ∧ ∃ N : St → Hp → Prop, (∀ σ' H', N σ' H' → ∃ m', m' < m ∧ W (i + 1) m' σ' H') ∧ ∀ x H', (Itn K a).yld i H x H' → g x σ H' fun σ2 H2 => tb { D with nx := N, ct := N, bk := D.nx } σ2 H2) := by
 refine ⟨fun i m σ H => m = xs.length - i ∧ i ≤ xs.length ∧ Pv i σ H, ⟨xs.length, by simp, Nat.zero_le _, h0⟩, ?_⟩
 rintro i m σ H ⟨rfl, hi, p⟩
 have q := hl i σ H hi p
 by_cases hlt : i < xs.length
 ·refine .inr ⟨⟨xs, xs[i], q, by simp [hlt]⟩, Pv (i + 1), fun σ' H' p' => ⟨xs.length - (i + 1), by omega, rfl, hlt, p'⟩, fun v H' y => ?_⟩
  obtain ⟨T, x, rfl, hT, rfl, e1⟩ := y
  exact hs i x T σ H (e1 xs q) p hT
 ·have e : i = xs.length := by omega
  subst e
  exact .inl ⟨⟨xs, q, Nat.le_refl _⟩, hd σ H p⟩
theorem ints_are : ∀ {ns : List Int} {us : List Value}, Vals (ns.map V.int) us → IntsAre us ns
 | [], _, .nil => .nil
 | n :: ns, _, .cons ⟨t, e⟩ r => by
  subst e
  exact .cons n t (ints_are r)
section
variable {X : Cx}
theorem call_sumL {K : W.Frag} (hK : X.K = K) (hc : X.calm = true) : CallR X (.builtin "sum") (fun xs H Q => ∃ (p : Addr) (ns : List Int), xs = [.ref p] ∧ SqL K H p (ns.map V.int) ∧ Q (.int ns.sum) H) := by
 subst hK
 intro pins s σ H xs us Q I r h
 obtain ⟨p, ns, rfl, hq, q⟩ := h
 obtain ⟨u, rfl, ru⟩ := vals1 r
 cases ru
 obtain ⟨its, rv, pl, hz⟩ := I.list hq
 obtain ⟨zs, e⟩ := (ints_are rv).allInts.items
 have hns : ns = zs.toList.map (·.1) := by rw [← (ints_are rv).numsOf, ← nums_intItems, ← e]
 have hL := pl.isList
 rw [e] at hL
 refine sum_intListG (I.ok.hd hc) hL fun h' tk t' k => ⟨.int ns.sum, H, I.kept k, ⟨t', ?_⟩, q⟩
 rw [preSum_eq, List.take_of_length_le (by simp), hns]
theorem call_minL {K : W.Frag} (hK : X.K = K) (hc : X.calm = true) : CallR X (.builtin "min") (fun xs H Q => ∃ (p : Addr) (ns : List Int), xs = [.ref p] ∧ SqL K H p (ns.map V.int) ∧ ns ≠ [] ∧ ∀ m, m ∈ ns → (∀ a ∈ ns, m ≤ a) → Q (.int m) H) := by
 subst hK
 intro pins s σ H xs us Q I r h
 obtain ⟨p, ns, rfl, hq, hne, q⟩ := h
 obtain ⟨u, rfl, ru⟩ := vals1 r
 cases ru
 obtain ⟨its, rv, pl, hz⟩ := I.list hq
 obtain ⟨zs, e⟩ := (ints_are rv).allInts.items
 have hns : ns = zs.toList.map (·.1) := by rw [← (ints_are rv).numsOf, ← nums_intItems, ← e]
 have hL := pl.isList
 rw [e] at hL
 have hsz : 0 < zs.size := by
  have h3 := List.length_pos_iff.mpr hne
  rw [hns, List.length_map, Array.length_toList] at h3
  exact h3
 refine min_intList (I.ok.hd hc) hL hsz fun v h' tk hv k => ?_
 obtain ⟨t, rfl⟩ := intItems_at hv
 obtain ⟨h1, h2⟩ := argBest_lt (numAt zs) (zs.size - 1)
 refine ⟨.int _, H, I.kept k, ⟨t, rfl⟩, q _ ?_ fun a ha => ?_⟩
 ·rw [hns, numAt_eq]
  exact PySem.getD_mem (by rw [List.length_map, Array.length_toList]; omega)
 ·rw [hns] at ha
  obtain ⟨j, hj, rfl⟩ := mem_getD ha
  rw [List.length_map, Array.length_toList] at hj
  rw [← numAt_eq]
  exact h2 j (by omega)
abbrev TJ := Str → St → Hp → (Str → Hp → Prop) → Prop
def PJ (X : Cx) (es : List Expr) (t : TJ) : Prop := ∀ pins s σ H acc R, Inv X pins σ H s → t acc σ H R →
 Joins (model X.prog X.w) X.A X.xe (evalEach es X.env) acc (fun out s1 => ∃ H', Inv X pins σ H' s1 ∧ R out H') s
theorem pj_nil : PJ X [] (fun acc _ H R => R acc H) := fun _ _ _ H _ _ I h => ⟨H, I, h⟩
def jPart (te : TE) (t : TJ) : TJ := fun acc σ H R => te σ H fun v H1 => ∃ x : Str, v = .str x ∧ (acc ++ x).length ≤ sizeLine ∧ t (acc ++ x) σ H1 R
theorem pj_cons {e : Expr} {es : List Expr} {te : TE} {t : TJ} (he : PE X e te) (ht : PJ X es t) : PJ X (e :: es) (jPart te t) := by
 intro pins s σ H acc R I h
 refine thn (he pins s σ H _ I h) fun u s1 ⟨v, H1, I1, r1, x, e1, hl, q⟩ => ?_
 subst e1
 obtain ⟨tk, rfl⟩ := r1
 exact ⟨x, tk, rfl, hl, ht pins s1 σ H1 _ R I1 q⟩
def tFmt (te : TE) : TE := fun σ H Q => te σ H fun v H1 => (∃ i, v = .int i ∧ i.natAbs.log2 < 1920 ∧ Q (.str (toString i)) H1) ∨ (∃ x, v = .str x ∧ x.length ≤ sizeLine ∧ Q (.str x) H1)
theorem pe_fmt {e : Expr} {te : TE} {pos : Pos} (he : PE X e te) : PE X (.FormattedValue e (-1) none pos) (tFmt te) := by
 intro pins s σ H Q I h
 refine wpAny_FormattedValue_plain (thn (he pins s σ H _ I h) fun u s1 ⟨v, H1, I1, r1, q⟩ => ?_)
 rcases q with ⟨i, rfl, hi, q⟩ | ⟨x, rfl, hx, q⟩
 ·obtain ⟨tk, rfl⟩ := r1
  exact wpAny_formatField_int hi ⟨.str (toString i), H1, (I1.tok _), ⟨_, rfl⟩, q⟩
 ·obtain ⟨tk, rfl⟩ := r1
  exact wpAny_formatField_str ⟨.str x, H1, I1, ⟨_, rfl⟩, q⟩ ⟨.str x, H1, I1.tok _, ⟨_, rfl⟩, q⟩ hx
def tJoin (t : TJ) : TE := fun σ H Q => t Str.empty σ H fun out H1 => out.length ≤ sizeLine ∧ Q (.str out) H1
theorem joins_mono {M : Model} {A : Around} {E : Value → Shared → Prop} {Q Q' : Str → Shared → Prop} (k : ∀ x s, Q x s → Q' x s) : ∀ {parts : List (Sem Value)} {acc : Str} {s : Shared}, Joins M A E parts acc Q s → Joins M A E parts acc Q' s
 | [], _, _, h => k _ _ h
 | _ :: _, _, _, h => wpAny_mono h (fun _ _ ⟨y, t, e, hl, q⟩ => ⟨y, t, e, hl, joins_mono k q⟩) fun _ _ z => z
theorem pe_join {e1 e2 : Expr} {es : List Expr} {t : TJ} {pos : Pos} (h : PJ X (e1 :: e2 :: es) t) : PE X (.JoinedStr (e1 :: e2 :: es) pos) (tJoin t) := by
 intro pins s σ H Q I hw
 refine wpAny_JoinedStr (joins_mono (fun out s1 ⟨H1, I1, hl, q⟩ => ⟨hl, .str out, H1, I1.tok _, ⟨_, rfl⟩, q⟩) (h pins s σ H Str.empty _ I hw))
end
end L2
namespace L2
open PySem PySem.Spec PyProof.Rows
theorem cut_drop (xs : List V) (j : Nat) : cutV xs (some (j : Int)) none = xs.drop j := by
 unfold cutV
 rw [HT.sIx_nat]
 show (xs.drop (min j xs.length)).take (xs.length - min j xs.length) = xs.drop j
 by_cases h : j ≤ xs.length
 ·rw [Nat.min_eq_left h, List.take_of_length_le (by rw [List.length_drop]; exact Nat.le_refl _)]
 ·rw [Nat.min_eq_right (by omega), List.drop_of_length_le (Nat.le_refl _), List.drop_of_length_le (by omega)]
  simp
theorem zipv_at {os ns : List Int} {i : Nat} {o n : Int} (h1 : os[i]? = some o) (h2 : ns[i]? = some n) : (List.zipWith (· * ·) os ns)[i]? = some (o * n) := by
 rw [List.getElem?_zipWith, h1, h2]
theorem ints_at {os : List Int} {i : Nat} {v : V} (h : (os.map V.int)[i]? = some v) : ∃ o, os[i]? = some o ∧ v = .int o := by
 rw [List.getElem?_map] at h
 obtain ⟨w, ew, e⟩ := Option.map_eq_some_iff.mp h
 exact ⟨w, ew, e.symm⟩
end L2
namespace L2
open PySem PySem.Spec PyProof.Rows
end L2
namespace L2
open PySem PySem.Spec PyProof.Rows
end L2
namespace L2
open PySem PySem.Spec PyProof.Rows
section
variable {κ : Type} [DecidableEq κ]
def valV (kvs : List (κ × V)) (k : κ) : Option V := (kvs.find? fun kv => decide (kv.1 = k)).map (·.2)
def putK (kvs : List (κ × V)) (k : κ) (v : V) : List (κ × V) :=
 if (kvs.any fun kv => decide (kv.1 = k)) = true then kvs.map (fun kv => if kv.1 = k then (kv.1, v) else kv) else kvs ++ [(k, v)]
def dropK (kvs : List (κ × V)) (k : κ) : List (κ × V) := kvs.filter fun kv => decide (kv.1 ≠ k)
theorem valV_pos {p : κ × V} {r : List (κ × V)} {k : κ} (e : p.1 = k) : valV (p :: r) k = some p.2 := by simp [valV, List.find?_cons, e]
theorem valV_neg {p : κ × V} {r : List (κ × V)} {k : κ} (e : ¬ p.1 = k) : valV (p :: r) k = valV r k := by simp [valV, List.find?_cons, e]
theorem valV_any (k : κ) : ∀ kvs : List (κ × V), (kvs.any fun kv => decide (kv.1 = k)) = (valV kvs k).isSome
 | [] => rfl
 | p :: r => by
  rw [List.any_cons]
  by_cases e : p.1 = k
  ·simp only [valV_pos e, decide_eq_true e, Bool.true_or, Option.isSome_some]
  ·rw [valV_neg e, decide_eq_false e, Bool.false_or]; exact valV_any k r
theorem length_putK (kvs : List (κ × V)) (k : κ) (v : V) : (putK kvs k v).length ≤ kvs.length + 1 := by
 unfold putK
 split
 ·rw [List.length_map]; omega
 ·rw [List.length_append, List.length_cons, List.length_nil]; omega
theorem putK_new {kvs : List (κ × V)} {k : κ} (v : V) (h : valV kvs k = none) : putK kvs k v = kvs ++ [(k, v)] := by
 unfold putK
 rw [valV_any, h]
 exact if_neg (by decide)
theorem RelO.isSome_eq {o : Option V} {u : Option Value} (r : RelO o u) : o.isSome = u.isSome := by
 cases o with
 | none => cases u with
  | none => rfl
  | some _ => exact (show False from r).elim
 | some _ => cases u with
  | none => exact (show False from r).elim
  | some _ => rfl
theorem KV.val {kvs : List (κ × V)} {vs : List (κ × Value)} (r : KV kvs vs) (k : κ) : RelO (valV kvs k) (valueAt vs k) := by
 unfold KV at r
 induction r with
 | nil => exact True.intro
 | @cons p q ps qs h t ih =>
  obtain ⟨h1, h2⟩ := h
  by_cases e : p.1 = k
  ·have e' : q.1 = k := h1.symm.trans e
   have b : valueAt (q :: qs) k = some q.2 := by simp [valueAt, List.find?_cons, e']
   rw [valV_pos e, b]; exact h2
  ·have e' : ¬ q.1 = k := fun z => e (h1.trans z)
   have b : valueAt (q :: qs) k = valueAt qs k := by simp [valueAt, List.find?_cons, e']
   rw [valV_neg e, b]; exact ih
theorem KV.any {kvs : List (κ × V)} {vs : List (κ × Value)} (r : KV kvs vs) (k : κ) : (kvs.any fun kv => decide (kv.1 = k)) = vs.any fun kv => decide (kv.1 = k) := by
 unfold KV at r
 induction r with
 | nil => rfl
 | cons h t ih => rw [List.any_cons, List.any_cons, ih, h.1]
theorem KV.repl {kvs : List (κ × V)} {vs : List (κ × Value)} (r : KV kvs vs) (k : κ) {y : V} {u : Value} (ry : RelV y u) :
  KV (kvs.map fun kv => if kv.1 = k then (kv.1, y) else kv) (vs.map fun kv => if kv.1 = k then (kv.1, u) else kv) := by
 unfold KV at r ⊢
 induction r with
 | nil => exact .nil
 | @cons p q ps qs h t ih =>
  rw [List.map_cons, List.map_cons]
  refine .cons ?_ ih
  obtain ⟨h1, h2⟩ := h
  by_cases e : p.1 = k
  ·rw [if_pos e, if_pos (h1.symm.trans e)]; exact ⟨h1, ry⟩
  ·rw [if_neg e, if_neg (fun z => e (h1.trans z))]; exact ⟨h1, h2⟩
theorem KV.put {kvs : List (κ × V)} {vs : List (κ × Value)} (r : KV kvs vs) (k : κ) {y : V} {u : Value} (ry : RelV y u) : KV (putK kvs k y) (stored vs k u) := by
 unfold putK stored
 rw [r.any k]
 by_cases e : (vs.any fun kv => decide (kv.1 = k)) = true
 ·rw [if_pos e, if_pos e]; exact r.repl k ry
 ·rw [if_neg e, if_neg e]; exact Paired.snoc r ⟨rfl, ry⟩
theorem KV.drop {kvs : List (κ × V)} {vs : List (κ × Value)} (r : KV kvs vs) (k : κ) : KV (dropK kvs k) (without vs k) := by
 unfold KV at r ⊢
 unfold dropK without
 induction r with
 | nil => exact .nil
 | @cons p q ps qs h t ih =>
  obtain ⟨h1, h2⟩ := h
  rw [List.filter_cons, List.filter_cons]
  by_cases e : p.1 = k
  ·have a : ¬ decide (p.1 ≠ k) = true := by simp [e]
   have b : ¬ decide (q.1 ≠ k) = true := by simp [h1.symm.trans e]
   rw [if_neg a, if_neg b]; exact ih
  ·have e' : ¬ q.1 = k := fun z => e (h1.trans z)
   have a : decide (p.1 ≠ k) = true := by simp [e]
   have b : decide (q.1 ≠ k) = true := by simp [e']
   rw [if_pos a, if_pos b]; exact .cons ⟨h1, h2⟩ ih
theorem KV.length {kvs : List (κ × V)} {vs : List (κ × Value)} (r : KV kvs vs) : kvs.length = vs.length := Paired.length r
theorem dropK_le (kvs : List (κ × V)) (k : κ) : (dropK kvs k).length ≤ kvs.length := List.length_filter_le _ _
end
theorem kV_is {P : Program} {w : World} {k : Key} {u : Value} (r : RelV (kV k) u) : (mixKind P w).is k u = true := by
 cases k with
 | inl i => obtain ⟨t, e⟩ := (show ∃ t, u = Value.int i t from r); subst e; exact mixKind_int P w i t
 | inr x => obtain ⟨t, e⟩ := (show ∃ t, u = Value.str x t from r); subst e; exact mixKind_str P w x t
theorem items_are {P : Program} {w : World} : ∀ {ks : List Key} {us : List Value}, Vals (ks.map kV) us → ItemsAre (mixKind P w) ks us
 | [], _, r => by rw [List.map_nil] at r; cases r; exact .nil
 | k :: ks, _, r => by
  rw [List.map_cons] at r
  cases r with
  | cons h t => exact .cons (kV_is h) (items_are t)
abbrev KT (H : Hp) : List (List Key × V) → List (List Key × Addr × Value) → Prop := Paired fun p q => p.1 = q.1 ∧ H q.2.1 = some (.tup (p.1.map kV)) ∧ RelV p.2 q.2.2
theorem KT.val {H : Hp} {kvs : List (List Key × V)} {xs : List (List Key × Addr × Value)} (r : KT H kvs xs) (k : List Key) : RelO (valV kvs k) ((atKey xs k).map (·.2)) := by
 induction r with
 | nil => exact True.intro
 | @cons p q ps qs h t ih =>
  obtain ⟨h1, _, h2⟩ := h
  by_cases e : p.1 = k
  ·have e' : q.1 = k := h1.symm.trans e
   have b : atKey (q :: qs) k = some q.2 := by simp [atKey, List.find?_cons, e']
   rw [valV_pos e, b]; exact h2
  ·have e' : ¬ q.1 = k := fun z => e (h1.trans z)
   have b : atKey (q :: qs) k = atKey qs k := by simp [atKey, List.find?_cons, e']
   rw [valV_neg e, b]; exact ih
theorem KT.repl {H : Hp} {kvs : List (List Key × V)} {xs : List (List Key × Addr × Value)} (r : KT H kvs xs) (k : List Key) {y : V} {u : Value} (ry : RelV y u) :
  KT H (kvs.map fun kv => if kv.1 = k then (kv.1, y) else kv) (xs.map (putAt k u)) := by
 induction r with
 | nil => exact .nil
 | @cons p q ps qs h t ih =>
  rw [List.map_cons, List.map_cons]
  refine .cons ?_ ih
  obtain ⟨h1, h2, h3⟩ := h
  unfold putAt
  by_cases e : p.1 = k
  ·rw [if_pos e, if_pos (h1.symm.trans e)]; exact ⟨h1, h2, ry⟩
  ·rw [if_neg e, if_neg (fun z => e (h1.trans z))]; exact ⟨h1, h2, h3⟩
theorem KT.put {H : Hp} {kvs : List (List Key × V)} {xs : List (List Key × Addr × Value)} (r : KT H kvs xs) (k : List Key) {b : Addr} {y : V} {u : Value} (hb : H b = some (.tup (k.map kV))) (ry : RelV y u) :
  KT H (putK kvs k y) (storedH xs k b u) := by
 have e : (kvs.any fun kv => decide (kv.1 = k)) = (atKey xs k).isSome := by
  rw [valV_any, (r.val k).isSome_eq, Option.isSome_map]
 unfold putK storedH
 rw [e]
 by_cases q : (atKey xs k).isSome = true
 ·rw [if_pos q, if_pos q]; exact r.repl k ry
 ·rw [if_neg q, if_neg q]; exact Paired.snoc r ⟨rfl, hb, ry⟩
theorem KT.keeps {H H' : Hp} {kvs : List (List Key × V)} {xs : List (List Key × Addr × Value)} (r : KT H kvs xs) (ht : ∀ b ys, H b = some (.tup ys) → H' b = some (.tup ys)) : KT H' kvs xs :=
 Paired.mapP r fun _ _ z => ⟨z.1, ht _ _ z.2.1, z.2.2⟩
section
variable {P : Program} {w : World} {H : Hp} {h : Heap} {a : Addr}
theorem rd_of {u : HO} (ok : HOk P w H h) (e : Rd H a u) : ObjOk P w H h a u := e.ok ok
theorem dk_rd {kvs : List (Key × V)} (ok : HOk P w H h) (e : Rd H a (.dK kvs)) : kvs.length ≤ sizeLine ∧ (a == sysModules) = false ∧ ∃ vs, KV kvs vs ∧ h.DictOf (mixKind P w) a vs :=
 show ObjOk P w H h a (.dK kvs) from rd_of ok e
theorem dk_of {kvs : List (Key × V)} (ok : HOk P w H h) (e : H a = some (.dK kvs)) : kvs.length ≤ sizeLine ∧ (a == sysModules) = false ∧ ∃ vs, KV kvs vs ∧ h.DictOf (mixKind P w) a vs := dk_rd ok (.inl e)
theorem key_of {ks : List Key} (ok : HOk P w H h) (e : H a = some (.tup (ks.map kV))) : (tupleKind (mixKind P w)).is h ks a := by
 obtain ⟨_, its, r, o, h1, h2, n, h3⟩ := (show ObjOk P w H h a (.tup (ks.map kV)) from ok a _ e)
 exact ⟨o, its.toArray, n, h1, h2, h3, by simpa using items_are r⟩
theorem dt_rd {kvs : List (List Key × V)} (ok : HOk P w H h) (e : Rd H a (.dT kvs)) : kvs.length ≤ sizeLine ∧ (a == sysModules) = false ∧
  ∃ xs, KT H kvs xs ∧ h.DictOfH (tupleKind (mixKind P w)) a xs := by
 obtain ⟨z, y, xs, r, o, es, ep, h1, h2, h3, h4, h5⟩ := (show ObjOk P w H h a (.dT kvs) from rd_of ok e)
 refine ⟨z, y, xs, r, o, es, ep, h1, h2, h3, h4, fun x hx => ?_, h5⟩
 have all : ∀ {l : List (List Key × V)} {m : List (List Key × Addr × Value)}, KT H l m → ∀ x ∈ m, (tupleKind (mixKind P w)).is h x.1 x.2.1 := by
  intro l m q
  induction q with
  | nil => intro x hx; exact nomatch hx
  | @cons p q ps qs hq t ih =>
   intro x hx
   rcases List.mem_cons.mp hx with e | hx
   ·subst e
    exact key_of ok (by rw [← hq.1]; exact hq.2.1)
   ·exact ih x hx
 exact all r x hx
theorem dt_of {kvs : List (List Key × V)} (ok : HOk P w H h) (e : H a = some (.dT kvs)) : kvs.length ≤ sizeLine ∧ (a == sysModules) = false ∧
  ∃ xs, KT H kvs xs ∧ h.DictOfH (tupleKind (mixKind P w)) a xs := dt_rd ok (.inl e)
end
def DGet (H : Hp) (a : Addr) (y : V) (r : Option V) : Prop :=
 (∃ kvs k, Rd H a (.dK kvs) ∧ y = kV k ∧ r = valV kvs k) ∨ ∃ kvs k b, Rd H a (.dT kvs) ∧ y = .ref b ∧ H b = some (.tup (k.map kV)) ∧ r = valV kvs k
def DPut (H : Hp) (a : Addr) (y v : V) (H' : Hp) : Prop :=
 (∃ kvs k, H a = some (.dK kvs) ∧ y = kV k ∧ kvs.length < sizeLine ∧ H' = upd H a (.dK (putK kvs k v))) ∨
 ∃ kvs k b, H a = some (.dT kvs) ∧ y = .ref b ∧ H b = some (.tup (k.map kV)) ∧ kvs.length < sizeLine ∧ H' = upd H a (.dT (putK kvs k v))
theorem DGet.k {H : Hp} {a : Addr} {kvs : List (Key × V)} {k : Key} (e : H a = some (.dK kvs)) : DGet H a (kV k) (valV kvs k) := .inl ⟨kvs, k, .inl e, rfl, rfl⟩
theorem DPut.k {H : Hp} {a : Addr} {kvs : List (Key × V)} {k : Key} {v : V} (e : H a = some (.dK kvs)) (hl : kvs.length < sizeLine) : DPut H a (kV k) v (upd H a (.dK (putK kvs k v))) := .inl ⟨kvs, k, e, rfl, hl, rfl⟩
section
variable {X : Cx} {pins : List (Addr × Obj)} {σ : St} {H : Hp} {s : Shared} {a : Addr} {y v : V} {u r : Value} {o : Option V} {A : Around} {E : Value → Shared → Prop}
theorem Inv.big (I : Inv X pins σ H s) : sysModules < s.heap.objs.size := by
 have h : mainGlobals < s.heap.objs.size := (I.mod.glob.keeps I.bk).lt
 exact Nat.lt_trans (by decide) h
theorem d_in {Q : Value → Shared → Prop} (hu : A.units + 1 < cLine) (I : Inv X pins σ H s) (g : DGet H a y o) (ry : RelV y u) (h : ∀ s', Inv X pins σ H s' → Q (.bool o.isSome) s') :
  wpAny (model X.prog X.w) A (compareOp .In u (.ref a)) Q E s := by
 rcases g with ⟨kvs, k, e, ey, l⟩ | ⟨kvs, k, b, e, ey, eb, l⟩
 ·subst ey
  obtain ⟨z, hd, vs, rel, dd⟩ := dk_rd I.hok e
  refine wpAny_in_of (kV_is ry) hd dd.mapOf ?_
  rw [← (rel.val k).isSome_eq, ← l]
  exact h _ (I.tok _)
 ·subst ey
  cases (show u = Value.ref b from ry)
  obtain ⟨z, hd, xs, rel, dd⟩ := dt_rd I.hok e
  refine wpAny_in_heap (tupleKind_room_in1 hu) (key_of I.hok eb) hd dd ?_
  have q := (rel.val k).isSome_eq
  rw [Option.isSome_map] at q
  rw [← q, ← l]
  exact h _ (I.tok _)
theorem d_notIn {Q : Value → Shared → Prop} (hu : A.units + 1 < cLine) (I : Inv X pins σ H s) (g : DGet H a y o) (ry : RelV y u) (h : ∀ s', Inv X pins σ H s' → Q (.bool (!o.isSome)) s') :
  wpAny (model X.prog X.w) A (compareOp .NotIn u (.ref a)) Q E s := by
 rcases g with ⟨kvs, k, e, ey, l⟩ | ⟨kvs, k, b, e, ey, eb, l⟩
 ·subst ey
  obtain ⟨z, hd, vs, rel, dd⟩ := dk_rd I.hok e
  refine wpAny_notIn_of (kV_is ry) hd dd.mapOf ?_
  rw [← (rel.val k).isSome_eq, ← l]
  exact h _ (I.tok _)
 ·subst ey
  cases (show u = Value.ref b from ry)
  obtain ⟨z, hd, xs, rel, dd⟩ := dt_rd I.hok e
  refine wpAny_notIn_heap (tupleKind_room_in1 hu) (key_of I.hok eb) hd dd ?_
  have q := (rel.val k).isSome_eq
  rw [Option.isSome_map] at q
  rw [← q, ← l]
  exact h _ (I.tok _)
theorem d_write {h' : Heap} {t' : Nat} {ob : HO} (I : Inv X pins σ H s) (mu : Mut (H a)) (hs : Heap.SameBut a s.heap h') (he : ∃ q, h'.get? a = some q) (new : ObjOk X.prog X.w (upd H a ob) h' a ob) :
  Inv X pins σ (upd H a ob) { s with heap := h', toks := t' } :=
 I.write (x := a) (e := a) mu (.inl rfl) (fun b q hb z => (hs.2 b hb).trans z) he new
theorem dk_new {P : Program} {w : World} {H' : Hp} {h' : Heap} {kvs : List (Key × V)} {vs : List (Key × Value)} (z : kvs.length ≤ sizeLine) (hd : (a == sysModules) = false) (rel : KV kvs vs) (dd : h'.DictOf (mixKind P w) a vs) :
  ObjOk P w H' h' a (.dK kvs) := ⟨z, hd, vs, rel, dd⟩
theorem d_setItem {H' : Hp} {Q : Unit → Shared → Prop} (hu : A.units + 1 < cLine) (I : Inv X pins σ H s) (g : DPut H a y v H') (ry : RelV y u) (rv : RelV v r) (h : ∀ s', Inv X pins σ H' s' → Q () s') :
  wpAny (model X.prog X.w) A (setItem (.ref a) u r) Q E s := by
 rcases g with ⟨kvs, k, e, ey, l, eH⟩ | ⟨kvs, k, b, e, ey, eb, l, eH⟩
 ·subst ey eH
  obtain ⟨z, hd, vs, rel, dd⟩ := dk_of I.hok e
  have hz : vs.length ≤ sizeLine := by rw [← rel.length]; exact z
  have hl : (putK kvs k v).length ≤ sizeLine := by have := length_putK kvs k v; omega
  refine wpAny_setItem_pairs (hsz := hz) (kV_is ry) dd fun h' dd' hs => h _ ?_
  have he : ∃ q, h'.get? a = some q := let ⟨q, _, _, hq, _⟩ := dd'; ⟨q, hq⟩
  exact d_write I (by rw [e]; exact True.intro) hs he (dk_new hl hd (rel.put k rv) dd')
 ·subst ey eH
  cases (show u = Value.ref b from ry)
  obtain ⟨z, hd, xs, rel, dd⟩ := dt_of I.hok e
  have hz : xs.length ≤ sizeLine := by rw [← Paired.length rel]; exact z
  have hl : (putK kvs k v).length ≤ sizeLine := by have := length_putK kvs k v; omega
  refine wpAny_setItem_heap (hsz := hz) (tupleKind_room_in1 hu) (key_of I.hok eb) dd fun h' dd' hs => h _ ?_
  obtain ⟨q, es, ep, hq, h2, h3, h4, _, h5⟩ := dd'
  refine d_write I (by rw [e]; exact True.intro) hs ⟨q, hq⟩ ⟨hl, hd, _, (rel.put k eb rv).keeps fun c ys ec => ?_, q, es, ep, hq, h2, h3, h4, h5⟩
  rw [upd_ne (ne_of ec e (fun z => nomatch z))]
  exact ec
end
section
variable {X : Cx} {pins : List (Addr × Obj)} {σ : St} {H : Hp} {s : Shared} {a : Addr} {kvs : List (Key × V)} {k : Key} {u : Value} {A : Around} {E : Value → Shared → Prop}
theorem d_pop {v : V} {more : List Value} {Q : Value → Shared → Prop} (I : Inv X pins σ H s) (e : H a = some (.dK kvs)) (ry : RelV (kV k) u) (l : valV kvs k = some v) (hm : more = [] ∨ ∃ x, more = [x])
  (h : ∀ w' s', Inv X pins σ (upd H a (.dK (dropK kvs k))) s' → RelV v w' → Q w' s') : wpAny (model X.prog X.w) A (call (.builtin "dict.pop") (.ref a :: u :: more)) Q E s := by
 obtain ⟨z, hd, vs, rel, dd⟩ := dk_of I.hok e
 obtain ⟨w', hw, rw'⟩ := RelO.some_of (v := v) (o := valueAt vs k) (by rw [← l]; exact rel.val k)
 have hp : (keyPart u).isSome = true := by
  cases k with
  | inl i => obtain ⟨t, q⟩ := (show ∃ t, u = Value.int i t from ry); subst q; rfl
  | inr x => obtain ⟨t, q⟩ := (show ∃ t, u = Value.str x t from ry); subst q; rfl
 have ha : argsOk "dict.pop" ⟨.ref a :: u :: more, []⟩ := by
  rcases hm with q | ⟨x, q⟩
  ·subst q; exact PySem.F.args_dict_pop_2 _ _
  ·subst q; exact PySem.F.args_dict_pop_3 _ _ _
 refine call_meetsIn PySem.F.slot_dict_pop dd.typeIs PySem.F.entry_dict_pop ha (meets_dict_pop_there (mixKind X.prog X.w) a (kV_is ry) more hm hp)
  ⟨vs, w', dd, by rw [← rel.length]; exact z, hw, fun h' dd' hs => h w' _ ?_ rw'⟩
 have he : ∃ q, h'.get? a = some q := let ⟨q, _, _, hq, _⟩ := dd'; ⟨q, hq⟩
 exact d_write I (by rw [e]; exact True.intro) hs he (dk_new (Nat.le_trans (dropK_le kvs k) z) hd (rel.drop k) dd')
theorem d_len {Q : Value → Shared → Prop} (I : Inv X pins σ H s) (e : Rd H a (.dK kvs)) (h : ∀ t s', Inv X pins σ H s' → Q (.int kvs.length t) s') : wpAny (model X.prog X.w) A (call (.builtin "len") [.ref a]) Q E s := by
 obtain ⟨z, hd, vs, rel, dd⟩ := dk_rd I.hok e
 refine call_len_dict hd dd (by rw [← rel.length]; rw [sizeLine_eq] at z; omega) ?_
 rw [← rel.length]
 exact h _ _ (I.tok _)
end
def tDIn (ty td : TE) : TE := fun σ H Q => ty σ H fun y H1 => td σ H1 fun x H2 => ∃ a o, x = .ref a ∧ DGet H2 a y o ∧ Q (.bl o.isSome) H2
def tDNotIn (ty td : TE) : TE := fun σ H Q => ty σ H fun y H1 => td σ H1 fun x H2 => ∃ a o, x = .ref a ∧ DGet H2 a y o ∧ Q (.bl (!o.isSome)) H2
def sDPut (td ty tv : TE) : TS := fun D σ H => tv σ H fun v H1 => td σ H1 fun x H2 => ty σ H2 fun y H3 => ∃ a H4, x = .ref a ∧ DPut H3 a y v H4 ∧ D.nx σ H4
section
variable {X : Cx} {o i e value : Expr} {pos pos' tpos : Pos} {td ty tv : TE}
theorem pc_din (hu : X.A.units + 1 < cLine) (hi : PE X i ty) (ho : PE X o td) : PC X .In i o (tDIn ty td) := by
 intro pins s σ H Q I h
 refine thn (hi pins s σ H _ I h) fun iv s1 ⟨y, H1, I1, ry, q1⟩ => thn (ho pins s1 σ H1 _ I1 q1) fun u s2 ⟨x, H2, I2, rx, a, ov, ex, g, q2⟩ => ?_
 subst ex
 obtain rfl : u = Value.ref a := rx
 exact d_in hu I2 g ry fun s3 I3 => ⟨.bl ov.isSome, H2, I3, rfl, q2⟩
theorem pc_dnotin (hu : X.A.units + 1 < cLine) (hi : PE X i ty) (ho : PE X o td) : PC X .NotIn i o (tDNotIn ty td) := by
 intro pins s σ H Q I h
 refine thn (hi pins s σ H _ I h) fun iv s1 ⟨y, H1, I1, ry, q1⟩ => thn (ho pins s1 σ H1 _ I1 q1) fun u s2 ⟨x, H2, I2, rx, a, ov, ex, g, q2⟩ => ?_
 subst ex
 obtain rfl : u = Value.ref a := rx
 exact d_notIn hu I2 g ry fun s3 I3 => ⟨.bl (!ov.isSome), H2, I3, rfl, q2⟩
theorem ps_dput (hu : X.A.units + 1 < cLine) (ho : PE X o td) (hi : PE X i ty) (hv : PE X value tv) (hs : swapsWith value (some (.Subscript o i pos')) pos.line X.env = pure false) :
  PS X (.Assign [.Subscript o i pos'] value pos) (sDPut td ty tv) := by
 intro pins s σ H D I h
 refine wpAny_Assign_Subscript (thn (hv pins s σ H _ I h) fun r s1 ⟨v, H1, I1, rv, q1⟩ => thn (ho pins s1 σ H1 _ I1 q1) fun u s2 ⟨x, H2, I2, rx, q2⟩ => thn (hi pins s2 σ H2 _ I2 q2) fun iv s3 ⟨y, H3, I3, ry, a, H4, ex, g, q3⟩ => ?_) hs
 subst ex
 obtain rfl : u = Value.ref a := rx
 exact d_setItem hu I3 g ry rv fun s4 I4 => ⟨σ, H4, I4, q3⟩
end
theorem dk_empty {P : Program} {w : World} {H : Hp} (h : Heap) (hb : sysModules < h.objs.size) : ObjOk P w H (h.push { cls := .type "dict", data := .dict #[] }) h.objs.size (.dK []) :=
 ⟨Nat.zero_le _, beq_eq_false_iff_ne.mpr (Ne.symm (Nat.ne_of_lt hb)), [], .nil, Heap.DictOf.new h⟩
def tDNewK : TE := fun _ H Q => ∀ p, H p = none → Q (.ref p) (upd H p (.dK []))
section
variable {X : Cx} {pos : Pos}
theorem pe_dnewK : PE X (.Dict [] [] pos) tDNewK := fun pins s σ H Q I h =>
 wpAny_Dict_empty ⟨.ref s.heap.objs.size, _, I.laid (a := s.heap.objs.size) (o := .dK []) (t' := s.toks) (fun _ _ q => Heap.get?_push_of_some _ q) (Nat.le_refl _) (dk_empty s.heap I.big), rfl, h _ (I.hok.fresh (Nat.le_refl _))⟩
end
structure M1 (X : Cx) (o : Expr) (m : Str) (apos : Pos) (e : Expr) (cpos : Pos) : Prop where
 base : attributeBase o m X.env (eval o X.env) = eval o X.env
 few : ((backTo cpos (starEach [e] X.env)).all (fun x => !x.1) && (backToKw cpos (keywordEach [] X.env)).all (fun x => x.1.isSome)
  && decide (([e] : List Expr).length + ([] : List Keyword).length + (if ([] : List Keyword).isEmpty then 0 else 1) < 30)) = true
 line : (apos.endLine == cpos.line) = true
 trees : backTo cpos (starEach [e] X.env) = [(false, eval e X.env)]
def IsD (H : Hp) (a : Addr) : Prop := (∃ kvs, Rd H a (.dK kvs)) ∨ ∃ kvs, Rd H a (.dT kvs)
theorem isD_at {X : Cx} {pins : List (Addr × Obj)} {σ : St} {H : Hp} {s : Shared} {a : Addr} (I : Inv X pins σ H s) (d : IsD H a) :
  s.TypeIs (.ref a) "dict" ∧ (∀ b, Value.ref a = .ref b → ∃ ob, s.heap.get? b = some ob ∧ ob.dict = none) ∧ (a == sysModules) = false := by
 rcases d with ⟨kvs, e⟩ | ⟨kvs, e⟩
 ·obtain ⟨_, hd, vs, _, dd⟩ := dk_rd I.hok e
  refine ⟨dd.typeIs, fun b q => ?_, hd⟩
  cases q
  obtain ⟨ob, _, _, h1, h2, _⟩ := dd
  exact ⟨ob, h1, h2.2.1⟩
 ·obtain ⟨_, hd, xs, _, dd⟩ := dt_rd I.hok e
  refine ⟨dd.typeIs, fun b q => ?_, hd⟩
  cases q
  obtain ⟨ob, _, _, h1, h2, _⟩ := dd
  exact ⟨ob, h1, h2.2.1⟩
section
variable {X : Cx} {pins : List (Addr × Obj)} {σ : St} {H : Hp} {s : Shared} {a : Addr} {y d : V} {u r : Value} {o : Option V} {A : Around} {E : Value → Shared → Prop}
end
def tDPop1 (td ty : TE) : TE := fun σ H Q => td σ H fun x H1 => ∃ a, x = .ref a ∧ IsD H1 a ∧ ty σ H1 fun y H2 => ∃ kvs k v, H2 a = some (.dK kvs) ∧ y = kV k ∧ valV kvs k = some v ∧ Q v (upd H2 a (.dK (dropK kvs k)))
section
variable {X : Cx} {o e f : Expr} {apos cpos : Pos} {td ty tx : TE}
theorem pe_dpop1 (ho : PE X o td) (he : PE X e ty) (m : M1 X o "pop" apos e cpos) : PE X (.Call (.Attribute o "pop" apos) [e] [] cpos) (tDPop1 td ty) := by
 intro pins s σ H Q I h
 refine wpAny_Call_method m.base m.few m.line PySem.F.plainAttrs_dict PySem.F.slot_dict_pop PySem.F.type_dict_pop (thn (ho pins s σ H _ I h) fun u s1 ⟨x, H1, I1, rx, a, ex, d, q1⟩ => ?_)
 subst ex
 obtain rfl : u = Value.ref a := rx
 obtain ⟨t1, t2, _⟩ := isD_at I1 d
 refine ⟨t1, t2, ?_⟩
 rw [m.trees]
 refine Calls.callWith_builtin rfl (Calls.evalArgs_plain (Calls.spliced_cons (thn (he pins s1 σ H1 _ I1 q1) fun iv s2 ⟨y, H2, I2, ry, kvs, k, v, ea, ey, l, q2⟩ => Calls.spliced_nil ?_)))
 subst ey
 exact d_pop I2 ea ry l (.inl rfl) fun w' s3 I3 rw' => ⟨v, _, I3, rw', q2⟩
end
section
variable {X : Cx} {pins : List (Addr × Obj)} {σ : St} {H : Hp} {s : Shared} {a : Addr} {kvs : List (Key × V)} {A : Around} {E : Value → Shared → Prop}
end
section
variable {X : Cx} {pins : List (Addr × Obj)} {σ : St} {H : Hp} {s : Shared} {a : Addr} {y : V} {u : Value} {A : Around} {E : Value → Shared → Prop}
end
end L2
namespace L2
open PySem PySem.Spec PyProof.Rows
section
variable {X : Cx}
theorem call_lenD : CallR X (.builtin "len") (fun xs H Q => ∃ a kvs, xs = [V.ref a] ∧ H a = some (.dK kvs) ∧ Q (.int kvs.length) H) := by
 intro pins s σ H xs us Q I r h
 obtain ⟨a, kvs, rfl, ha, q⟩ := h
 obtain ⟨u, rfl, ru⟩ := vals1 r
 cases ru
 exact d_len I (.inl ha) fun t s' I' => ⟨.int kvs.length, H, I', ⟨t, rfl⟩, q⟩
end
section
variable {κ : Type} [DecidableEq κ]
theorem nd_snoc : ∀ {l : List κ} {k : κ}, l.Nodup → ¬ k ∈ l → (l ++ [k]).Nodup
 | [], k, _, _ => by simp
 | a :: r, k, h, hk => by
  obtain ⟨h1, h2⟩ := List.nodup_cons.mp h
  show (a :: (r ++ [k])).Nodup
  refine List.nodup_cons.mpr ⟨fun m => ?_, nd_snoc h2 fun m => hk (List.mem_cons.mpr (Or.inr m))⟩
  rcases List.mem_append.mp m with q | q
  ·exact h1 q
  ·exact hk (List.mem_cons.mpr (Or.inl (List.mem_singleton.mp q).symm))
theorem dropK_pos {p : κ × V} {r : List (κ × V)} {k : κ} (e : p.1 = k) : dropK (p :: r) k = dropK r k := by
 unfold dropK
 rw [List.filter_cons, if_neg (by simp [e])]
theorem dropK_neg {p : κ × V} {r : List (κ × V)} {k : κ} (e : ¬ p.1 = k) : dropK (p :: r) k = p :: dropK r k := by
 unfold dropK
 rw [List.filter_cons, if_pos (by simp [e])]
end
end L2
namespace L2
open PySem PySem.Spec PyProof.Rows
section
variable {X : Cx} {pins : List (Addr × Obj)} {σ : St} {H H' : Hp} {s : Shared} {h' : Heap}
theorem Inv.laidMany {t' : Nat} (I : Inv X pins σ H s) (k : ∀ b o, s.heap.get? b = some o → h'.get? b = some o) (sm : Same H H') (nw : ∀ b u, H' b = some u → H b = none → s.heap.objs.size ≤ b ∧ ObjOk X.prog X.w H' h' b u) :
  Inv X pins σ H' { s with heap := h', toks := t' } := by
 refine I.call' (s' := { s with heap := h', toks := t' }) (ch := []) rfl ⟨fun b o q _ _ _ => k b o q, fun b o q _ _ _ => ⟨o.slots, k b o q⟩, fun b o q n _ => ?_, fun b o q _ => ⟨o, k b o q⟩, fun b xs q => sm b _ q, fun b u xs q => sm b _ q, fun b ps q => ⟨#[], by rw [sm b _ q]; simp⟩⟩ (fun b u e => ?_) I.bare fun b hb => absurd hb (by simp)
 ·cases e : H' b with
  | none => rfl
  | some u => exact absurd (Nat.lt_of_lt_of_le (Heap.lt_size q) (nw b u e n).1) (Nat.lt_irrefl _)
 ·cases e2 : H b with
  | none => exact (nw b u e e2).2
  | some u' =>
   have e3 := sm b u' e2
   rw [e] at e3
   cases e3
   exact (I.hok b u e2).stay (fun c v _ q => k c v q) (fun c q => sm c _ q) fun c xs q => sm c _ q
theorem Inv.seen {d : Addr} {u u' : HO} (I : Inv X pins σ H s) (hd : H d = some u) (n1 : ∀ xs, u ≠ .tup xs) (n2 : ∀ x, u ≠ .own x) (n3 : ∀ ps, u ≠ .tbl ps) (n4 : ∀ o v, u = .frz o v → ∀ b, X.H₀ b = some (.frz o v) → b ≠ d) (ok : ObjOk X.prog X.w (upd H d u') s.heap d u') : Inv X pins σ (upd H d u') s := by
 have ne : ∀ b, H b = none → b ≠ d := fun b e q => by rw [q, hd] at e; cases e
 have no : ∀ b, H b = none → upd H d u' b = none := fun b e => by rw [upd_ne (ne b e)]; exact e
 refine ⟨I.ok, I.os, I.bare, ⟨I.base.keep, I.base.slot, fun b o e n hx => no b (I.base.free b o e n hx), I.base.there, fun b xs e => ?_, fun b o v e => ?_, fun b ps e => ?_⟩, I.loc, I.cell, no _ I.free, fun y c e => no _ (I.freeC y c e), fun p hp => ?_, fun b v e => ?_, I.len⟩
 ·have q := I.base.tups b xs e
  rw [upd_ne (fun z => by rw [z, hd] at q; cases q; exact n1 xs rfl)]; exact q
 ·have q := I.base.frzs b o v e
  rw [upd_ne (fun z => by
   have q2 := q
   rw [z, hd] at q2
   exact n4 o v (Option.some.inj q2) b e z)]; exact q
 ·obtain ⟨mo, q⟩ := I.base.tbls b ps e
  exact ⟨mo, by rw [upd_ne (fun z => by rw [z, hd] at q; cases q; exact n3 _ rfl)]; exact q⟩
 ·obtain ⟨a, b, c⟩ := I.pin p hp
  exact ⟨a, no _ b, c⟩
 ·by_cases hb : b = d
  ·subst hb
   rw [upd_same] at e
   cases e
   exact ok
  ·rw [upd_ne hb] at e
   exact (I.hok b v e).stay (fun _ _ _ q => q) (fun c q => by rw [upd_ne (fun z => by rw [z, hd] at q; cases q; exact n2 _ rfl)]; exact q) fun c xs q => by rw [upd_ne (fun z => by rw [z, hd] at q; cases q; exact n1 _ rfl)]; exact q
end
def itemsHO (v d : Addr) : HO := .ext fun h => h.IsItemsView v d
def valuesHO (v d : Addr) : HO := .ext fun h => h.IsValuesView v d
theorem key_val {P : Program} {w : World} {k : Key} {u : Value} (h : (mixKind P w).is k u = true) : RelV (kV k) u := by
 rcases keyIs_shape (k := k) (v := u) h with ⟨i, t, rfl, rfl⟩ | ⟨x, t, rfl, rfl⟩
 ·exact ⟨t, rfl⟩
 ·exact ⟨t, rfl⟩
theorem kv_get {kvs : List (Key × V)} {vs : List (Key × Value)} (r : KV kvs vs) {i : Nat} {k : Key} {u : Value} (e : vs[i]? = some (k, u)) : ∃ v, kvs[i]? = some (k, v) ∧ RelV v u := by
 obtain ⟨p, hp, h1, h2⟩ := paired_getR r e
 have h1' : p.1 = k := h1
 exact ⟨p.2, by rw [hp, ← h1'], h2⟩
section
variable {X : Cx} {o : Expr} {td : TE} {apos cpos : Pos}
def tView (mk : Addr → Addr → HO) (td : TE) : TE := fun σ H Q => td σ H fun x H1 => ∃ a kvs, x = .ref a ∧ Rd H1 a (.dK kvs) ∧ ∀ v, H1 v = none → Q (.ref v) (upd H1 v (mk v a))
theorem pe_items (ho : PE X o td) (hbase : attributeBase o "items" X.env (eval o X.env) = eval o X.env := by rfl) (hline : (apos.endLine == cpos.line) = true := by rfl) : PE X (.Call (.Attribute o "items" apos) [] [] cpos) (tView itemsHO td) := by
 intro pins s σ H Q I h
 refine wpAny_Call_method0_late hbase hline (thn (ho pins s σ H _ I h) fun u s1 ⟨x, H1, I1, r1, a, kvs, ex, ha, q⟩ => ?_)
 subst ex
 cases r1
 obtain ⟨z, hd, vs, rel, dd⟩ := dk_rd I1.hok ha
 have t1 := dd.typeIs
 have t2 := dd.mapOf.noDict
 refine ⟨"dict", "dict.items", PySem.F.plainAttrs_dict, PySem.F.slot_dict_items, PySem.F.type_dict_items, t1, t2, Calls.callWith_builtin rfl (PySem.evalArgs_none ?_)⟩
 refine call_meetsIn PySem.F.slot_dict_items dd.typeIs PySem.F.entry_dict_items (PySem.F.args_dict_items_1 _) (meets_dict_items (mixKind X.prog X.w) a hd) ⟨⟨vs, dd⟩, ?_⟩
 refine ⟨.ref s1.heap.objs.size, _, I1.laid (t' := s1.toks) (fun b u e => Heap.get?_push_of_some _ e) (Nat.le_refl _) ?_, rfl, q _ (I1.hok.fresh (Nat.le_refl _))⟩
 exact ⟨⟨_, Heap.get?_push_size _ rfl, rfl, rfl⟩, ⟨_, Heap.get?_push_size _ rfl⟩, fun h1 h2 ⟨ob, e, c⟩ k => ⟨ob, k _ e, c⟩⟩
theorem pe_values (ho : PE X o td) (hbase : attributeBase o "values" X.env (eval o X.env) = eval o X.env := by rfl) (hline : (apos.endLine == cpos.line) = true := by rfl) : PE X (.Call (.Attribute o "values" apos) [] [] cpos) (tView valuesHO td) := by
 intro pins s σ H Q I h
 refine wpAny_Call_method0_late hbase hline (thn (ho pins s σ H _ I h) fun u s1 ⟨x, H1, I1, r1, a, kvs, ex, ha, q⟩ => ?_)
 subst ex
 cases r1
 obtain ⟨z, hd, vs, rel, dd⟩ := dk_rd I1.hok ha
 have t1 := dd.typeIs
 have t2 := dd.mapOf.noDict
 refine ⟨"dict", "dict.values", PySem.F.plainAttrs_dict, PySem.F.slot_dict_values, PySem.F.type_dict_values, t1, t2, Calls.callWith_builtin rfl (PySem.evalArgs_none ?_)⟩
 refine call_meetsIn PySem.F.slot_dict_values dd.typeIs PySem.F.entry_dict_values (PySem.F.args_dict_values_1 _) (meets_dict_values (mixKind X.prog X.w) a hd) ⟨⟨vs, dd⟩, ?_⟩
 refine ⟨.ref s1.heap.objs.size, _, I1.laid (t' := s1.toks) (fun b u e => Heap.get?_push_of_some _ e) (Nat.le_refl _) ?_, rfl, q _ (I1.hok.fresh (Nat.le_refl _))⟩
 exact ⟨⟨_, Heap.get?_push_size _ rfl, rfl, rfl⟩, ⟨_, Heap.get?_push_size _ rfl⟩, fun h1 h2 ⟨ob, e, c⟩ k => ⟨ob, k _ e, c⟩⟩
theorem items_vals {P : Nat → Value → Prop} : ∀ {acc : Array Value} {n : Nat}, PySem.ItemsOf P acc n → acc.toList.length = n ∧ ∀ j v, acc.toList[j]? = some v → P j v := fun h => ⟨by rw [Array.length_toList]; exact h.1, fun j v e => h.2 j v (by rw [← Array.getElem?_toList]; exact e)⟩
theorem paired_of {α β : Type} {F : α → β → Prop} : ∀ {xs : List α} {ys : List β}, xs.length = ys.length → (∀ (j : Nat) x y, xs[j]? = some x → ys[j]? = some y → F x y) → Paired F xs ys
 | [], [], _, _ => .nil
 | x :: xs, y :: ys, h, k => .cons (k 0 x y rfl rfl) (paired_of (by simpa using h) fun j a b e1 e2 => k (j + 1) a b (by simpa using e1) (by simpa using e2))
 | [], _ :: _, h, _ => by simp at h
 | _ :: _, [], h, _ => by simp at h
theorem call_list_dict (hc : X.calm = true) : CallR X (.type "list") (fun xs H Q => ∃ a kvs, xs = [.ref a] ∧ H a = some (.dK kvs) ∧ ∀ l, H l = none → Q (.ref l) (upd H l (.lst (kvs.map fun p => kV p.1)))) := by
 intro pins s σ H xs us Q I r h
 obtain ⟨a, kvs, rfl, ha, q⟩ := h
 obtain ⟨u, rfl, ru⟩ := vals1 r
 cases ru
 obtain ⟨z, hd, vs, rel, dd⟩ := dk_of I.hok ha
 obtain ⟨ep, dat⟩ := dd.dictAt
 have hl := rel.length
 refine W.kdl_call (W.kdl_dict (knd := mixKind X.prog X.w) (kvs := vs) (ep := ep) hd) (I.ok.hd hc) dat (by rw [← hl]; exact z) fun h' tk acc c k hS hI => ?_
 obtain ⟨l1, l2⟩ := items_vals hI
 refine ⟨.ref s.heap.objs.size, _, I.laid (t' := tk) (o := .lst (kvs.map fun p => kV p.1)) k (Nat.le_refl _) ⟨by rw [List.length_map]; exact z, acc.toList, c, ?_, by rw [Array.toArray_toList]; exact hS⟩, rfl, q _ (I.hok.fresh (Nat.le_refl _))⟩
 refine paired_of (by rw [List.length_map, l1, hl]) fun j x y e1 e2 => ?_
 obtain ⟨kk, xx, e3, e4⟩ := l2 j y e2
 obtain ⟨v, e5, _⟩ := kv_get rel e3
 rw [List.getElem?_map, e5] at e1
 cases e1
 exact key_val e4
theorem call_list_values (hc : X.calm = true) : CallR X (.type "list") (fun xs H Q => ∃ v a kvs, xs = [.ref v] ∧ H v = some (valuesHO v a) ∧ H a = some (.dK kvs) ∧ ∀ l, H l = none → Q (.ref l) (upd H l (.lst (kvs.map (·.2))))) := by
 intro pins s σ H xs us Q I r h
 obtain ⟨v, a, kvs, rfl, hv, ha, q⟩ := h
 obtain ⟨u, rfl, ru⟩ := vals1 r
 cases ru
 obtain ⟨z, hd, vs, rel, dd⟩ := dk_of I.hok ha
 obtain ⟨ep, dat⟩ := dd.dictAt
 have hl := rel.length
 have hview : s.heap.IsValuesView v a := (I.hok v _ hv).1
 refine W.kdl_call (W.kdl_values (knd := mixKind X.prog X.w) (r := v) (kvs := vs) (ep := ep)) (I.ok.hd hc) ⟨hview, dat⟩ (by rw [← hl]; exact z) fun h' tk acc c k hS hI => ?_
 obtain ⟨l1, l2⟩ := items_vals hI
 refine ⟨.ref s.heap.objs.size, _, I.laid (t' := tk) (o := .lst (kvs.map (·.2))) k (Nat.le_refl _) ⟨by rw [List.length_map]; exact z, acc.toList, c, ?_, by rw [Array.toArray_toList]; exact hS⟩, rfl, q _ (I.hok.fresh (Nat.le_refl _))⟩
 refine paired_of (by rw [List.length_map, l1, hl]) fun j x y e1 e2 => ?_
 obtain ⟨kk, e3⟩ := l2 j y e2
 obtain ⟨v, e5, e6⟩ := kv_get rel e3
 rw [List.getElem?_map, e5] at e1
 cases e1
 exact e6
theorem call_list_items (hc : X.calm = true) : CallR X (.type "list") (fun xs H Q => ∃ v a kvs, xs = [.ref v] ∧ H v = some (itemsHO v a) ∧ H a = some (.dK kvs) ∧ ∀ (l : Addr) (ps : List Addr) (H' : Hp), Same H H' → H l = none → H' l = some (.lst (ps.map V.ref)) → ps.length = kvs.length → (∀ (j : Nat) p kv, ps[j]? = some p → kvs[j]? = some kv → H p = none ∧ p ≠ l ∧ H' p = some (.tup [kV kv.1, kv.2])) → (∀ b, H' b ≠ none → H b ≠ none ∨ b = l ∨ b ∈ ps) → Q (.ref l) H') := by
 intro pins s σ H xs us Q I r h
 obtain ⟨v, a, kvs, rfl, hv, ha, q⟩ := h
 obtain ⟨u, rfl, ru⟩ := vals1 r
 cases ru
 obtain ⟨z, hd, vs, rel, dd⟩ := dk_of I.hok ha
 obtain ⟨ep, dat⟩ := dd.dictAt
 have hl := rel.length
 have hview : s.heap.IsItemsView v a := (I.hok v _ hv).1
 refine W.kdx_call (knd := mixKind X.prog X.w) (kvs := vs) (ep := ep) (I.ok.hd hc) hview dat (by rw [← hl]; exact z) fun h' tk acc c as k hS hal hG hacc => ?_
 have fr : ∀ b, s.heap.objs.size ≤ b → H b = none := fun b hb => I.hok.fresh hb
 have nd : as.Nodup := hG.rise.imp fun h => Nat.ne_of_lt h
 -- the map: at l the list, at each of as its pair
 let H' : Hp := fun b => if b = s.heap.objs.size then some (.lst (as.map V.ref)) else match as.findIdx? (fun x => decide (x = b)) with
  | some j => (kvs[j]?).map fun kv => .tup [kV kv.1, kv.2]
  | none => H b
 have atl : H' s.heap.objs.size = some (.lst (as.map V.ref)) := if_pos rfl
 have ata : ∀ (j : Nat) p kv, as[j]? = some p → kvs[j]? = some kv → H' p = some (.tup [kV kv.1, kv.2]) := fun j p kv e1 e2 => by
  have hm := List.mem_of_getElem? e1
  have hj := (List.getElem?_eq_some_iff.mp e1).1
  have hne : p ≠ s.heap.objs.size := Nat.ne_of_gt (hG.above p hm)
  have hf : as.findIdx? (fun x => decide (x = p)) = some j := by
   rw [List.findIdx?_eq_some_iff_getElem]
   refine ⟨hj, by simpa using (List.getElem?_eq_some_iff.mp e1).2, fun i hi => ?_⟩
   have e3 := (List.getElem?_eq_some_iff.mp e1).2
   rw [← e3]
   have := (List.pairwise_iff_getElem.mp nd) i j (by omega) hj hi
   simpa using this
  show (if p = _ then _ else _) = _
  rw [if_neg hne, hf]
  simp [e2]
 have other : ∀ b, b ≠ s.heap.objs.size → b ∉ as → H' b = H b := fun b h1 h2 => by
  have hf : as.findIdx? (fun x => decide (x = b)) = none := by
   rw [List.findIdx?_eq_none_iff]
   intro x hx
   exact decide_eq_false fun e => h2 (e ▸ hx)
  show (if b = _ then _ else _) = _
  rw [if_neg h1, hf]
 have sm : Same H H' := fun b u e => by
  have h1 : b ≠ s.heap.objs.size := fun z => by rw [z, fr _ (Nat.le_refl _)] at e; cases e
  have h2 : b ∉ as := fun z => by rw [fr b (Nat.le_of_lt (hG.above b z))] at e; cases e
  rw [other b h1 h2]; exact e
 have pairAt : ∀ b, b ∈ as → ∃ (j : Nat) (kv : Key × V), as[j]? = some b ∧ kvs[j]? = some kv := fun b hb => by
  obtain ⟨j, hj⟩ := List.getElem?_of_mem hb
  have hlt := (List.getElem?_eq_some_iff.mp hj).1
  exact ⟨j, kvs[j], hj, by simp⟩
 have I' : Inv X pins σ H' { s with heap := h', toks := tk } := I.laidMany k sm fun b u e n => by
  by_cases h1 : b = s.heap.objs.size
  ·subst h1
   rw [atl] at e
   cases e
   refine ⟨Nat.le_refl _, by rw [List.length_map, hal, ← hl]; exact z, acc.toList, c, ?_, by rw [Array.toArray_toList]; exact hS⟩
   rw [hacc]
   refine paired_of (by simp) fun j x y e1 e2 => ?_
   rw [List.getElem?_map] at e1 e2
   cases e3 : as[j]? with
   | none => rw [e3] at e1; cases e1
   | some p => rw [e3] at e1 e2; cases e1; cases e2; exact rfl
  ·by_cases h2 : b ∈ as
   ·obtain ⟨j, kv, ej, ekv⟩ := pairAt b h2
    rw [ata j b kv ej ekv] at e
    cases e
    obtain ⟨key, kk, x, p1, p2, p3⟩ := hG.pairs j b ej
    obtain ⟨w', q1, q2⟩ := kv_get rel p1
    rw [ekv] at q1
    cases q1
    exact ⟨Nat.le_of_lt (hG.above b h2), by show 2 ≤ sizeLine; decide, [key, x], .cons (key_val p2) (.cons q2 .nil), _, p3, rfl, 0, rfl⟩
   ·rw [other b h1 h2, n] at e
    cases e
 refine ⟨.ref s.heap.objs.size, H', I', rfl, q _ as H' sm (fr _ (Nat.le_refl _)) atl (by rw [hal, hl]) (fun j p kv e1 e2 => ?_) fun b nb => ?_⟩
 ·have hm := List.mem_of_getElem? e1
  exact ⟨fr p (Nat.le_of_lt (hG.above p hm)), Nat.ne_of_gt (hG.above p hm), ata j p kv e1 e2⟩
 ·by_cases h1 : b = s.heap.objs.size
  ·exact .inr (.inl h1)
  ·by_cases h2 : b ∈ as
   ·exact .inr (.inr h2)
   ·rw [other b h1 h2] at nb
    exact .inl nb
def Itv (d : Addr) (ob : Obj) (kvs : List (Key × V)) : It :=
  ⟨fun i H => H d = some (.frz ob (.dK kvs)) ∧ i < kvs.length,
   fun i H v H' => H' = H ∧ ∃ kv, kvs[i]? = some kv ∧ v = kv.2,
   fun i H => H d = some (.frz ob (.dK kvs)) ∧ kvs.length ≤ i⟩
def Iti (d : Addr) (ob : Obj) (kvs : List (Key × V)) : It :=
  ⟨fun i H => H d = some (.frz ob (.dK kvs)) ∧ i < kvs.length,
   fun i H v H' => ∃ T kv, v = .ref T ∧ H T = none ∧ H' = upd H T (.tup [kV kv.1, kv.2]) ∧ kvs[i]? = some kv,
   fun i H => H d = some (.frz ob (.dK kvs)) ∧ kvs.length ≤ i⟩
theorem frz_at {X : Cx} {pins : List (Addr × Obj)} {σ : St} {H : Hp} {s : Shared} {d : Addr} {ob : Obj} {kvs : List (Key × V)} {es : Array DictEntry} {ep : Nat} (hob : ob.data = .dict es ep) (I : Inv X pins σ H s) (e : H d = some (.frz ob (.dK kvs))) :
  ∃ vs, KV kvs vs ∧ s.heap.DictAt (mixKind X.prog X.w) d vs ep := by
 obtain ⟨e0, z, hd, vs, rel, o, es', ep', q1, q2, q3, q4⟩ := I.hok d _ e
 rw [e0] at q1
 cases q1
 rw [hob] at q3
 cases q3
 exact ⟨vs, rel, ob, es, e0, q2, hob, q4⟩
theorem turn_values {P : Program} {w : World} {K : W.Frag} {tg : Expr} {d it : Addr} {ob : Obj} {kvs : List (Key × V)} {es : Array DictEntry} {ep : Nat} (hob : ob.data = .dict es ep) :
  Turn P w K tg (Itv d ob kvs) [it] it (fun i h => h.IsValIter it d i kvs.length ep) where
 mem := by simp
 obj := fun i h ⟨o1, e1, c1, d1⟩ c hc => by
  simp only [List.mem_cons, List.not_mem_nil, or_false] at hc
  subst hc
  exact ⟨_, e1, fun v z => by rw [d1] at z; cases z⟩
 keep := fun i h h' q k => q.at fun o z => k it (by simp) o z
 item := by
  intro X hP hw hK hc i pins s σ H E I hf q hg
  subst hP hw hK
  obtain ⟨he, hi⟩ := hg
  obtain ⟨vs, rel, dat⟩ := frz_at hob I he
  have hl := rel.length
  rw [hl] at q
  obtain ⟨⟨kk, uu⟩, hx⟩ : ∃ p, vs[i]? = some p := ⟨vs[i]'(by omega), by simp⟩
  obtain ⟨v, e5, e6⟩ := kv_get rel hx
  refine wpAny_pyNext_values_item q dat hx fun h' q' hs' => ?_
  refine ⟨_, rfl, ?_⟩
  obtain ⟨o1, e1, c1, d1⟩ := id q'
  refine go_of e1 c1 d1 (by decide) ⟨v, H, I.turnedL (t' := s.toks) (fun c o hc z => ?_) hf, e6, ⟨rfl, _, e5, rfl⟩, by rw [hl]; exact q', fun b hb => (hf b hb).1⟩
  simp only [List.mem_cons, List.not_mem_nil, or_false] at hc
  exact hs'.extBut c o hc z
 done := by
  intro X hP hw hK hc i pins s σ H E I hf q hg
  subst hP hw hK
  obtain ⟨he, hi⟩ := hg
  obtain ⟨vs, rel, dat⟩ := frz_at hob I he
  have hl := rel.length
  rw [hl] at q
  refine wpAny_pyNext_values_end (I.ok.hd hc) q dat (by simp; omega) fun h' hk => ⟨rfl, I.turnedL (t' := s.toks) (ch := [it]) (fun c o hc z => ?_) hf⟩
  simp only [List.mem_cons, List.not_mem_nil, or_false] at hc
  exact hk c o hc z
 self := fun _ _ _ _ _ st h => wpAny_pyIter_valiter st h
theorem turn_items {P : Program} {w : World} {K : W.Frag} {es0 : List Expr} {kk : Nat} {tp : Pos} {d it : Addr} {ob : Obj} {kvs : List (Key × V)} {es : Array DictEntry} {ep : Nat} (hob : ob.data = .dict es ep) :
  Turn P w K (.Tuple es0 kk tp) (Iti d ob kvs) [it] it (fun i h => ∃ ok ov, IsItemIter h it d i kvs.length ep ok ov) where
 mem := by simp
 obj := fun i h ⟨ok, ov, e1⟩ c hc => by
  simp only [List.mem_cons, List.not_mem_nil, or_false] at hc
  subst hc
  exact ⟨_, e1, fun v z => by cases z⟩
 keep := fun i h h' ⟨ok, ov, q⟩ k => ⟨ok, ov, k it (by simp) _ q⟩
 item := by
  intro X hP hw hK hc i pins s σ H E I hf ⟨ok, ov, q⟩ hg
  subst hP hw hK
  obtain ⟨he, hi⟩ := hg
  obtain ⟨vs, rel, dat⟩ := frz_at hob I he
  have hl := rel.length
  rw [hl] at q
  obtain ⟨⟨kx, uu⟩, hx⟩ : ∃ p, vs[i]? = some p := ⟨vs[i]'(by omega), by simp⟩
  obtain ⟨v, e5, e6⟩ := kv_get rel hx
  refine wpAny_pyNext_items_item q dat hx fun key h' hkey out ht hz hk => ?_
  refine ⟨_, rfl, wpAny_letOwnedTupleGo_items out fun h'' he' hs' => ?_⟩
  have lt : s.heap.objs.size ≠ it := Nat.ne_of_gt (Heap.lt_size q)
  have kk' : ∀ c o, c ∉ [it] → s.heap.get? c = some o → h''.get? c = some o := fun c o hc z => by
   simp only [List.mem_cons, List.not_mem_nil, or_false] at hc
   exact hs'.extBut _ _ hc (hk c o hc z)
  have hT : h''.get? s.heap.objs.size = some { cls := .type "tuple", data := .seq #[key, uu] } := hs'.extBut _ _ lt ht
  have I1 : Inv X pins σ (upd H s.heap.objs.size (.tup [kV kx, v])) { s with heap := h'' } := I.turnedNew (t' := s.toks) kk' hf (Nat.le_refl _) ⟨(by show 2 ≤ sizeLine; decide), [key, uu], .cons (key_val hkey) (.cons e6 .nil), _, hT, rfl, _, rfl⟩
  refine ⟨.ref s.heap.objs.size, _, I1, rfl, ⟨_, _, rfl, I.hok.fresh (Nat.le_refl _), rfl, e5⟩, ⟨_, _, by rw [hl]; exact he'⟩, fun b hb => ?_⟩
  simp only [List.mem_cons, List.not_mem_nil, or_false] at hb
  subst hb
  rw [upd_ne lt.symm]
  exact (hf b (by simp)).1
 done := by
  intro X hP hw hK hc i pins s σ H E I hf ⟨ok, ov, q⟩ hg
  subst hP hw hK
  obtain ⟨he, hi⟩ := hg
  obtain ⟨vs, rel, dat⟩ := frz_at hob I he
  have hl := rel.length
  rw [hl] at q
  refine wpAny_pyNext_items_end (I.ok.hd hc) q dat (by simp; omega) fun h' hk => ⟨rfl, I.turnedL (t' := s.toks) (ch := [it]) (fun c o hc z => ?_) hf⟩
  simp only [List.mem_cons, List.not_mem_nil, or_false] at hc
  exact hk c o hc z
 self := fun _ _ s _ _ ⟨ok, ov, st⟩ h => W.kcp_self st h
def iView (mk : Addr → Addr → HO) (J : Addr → Obj → List (Key × V) → It) (te : TE) : TI := fun σ H R => te σ H fun x H1 => ∃ v d ob kvs, x = .ref v ∧ H1 v = some (mk v d) ∧ H1 d = some (.frz ob (.dK kvs)) ∧ R (J d ob kvs) H1
theorem pi_values {e tg : Expr} {te : TE} (he : PE X e te) : PI X tg e (iView valuesHO Itv te) := by
 intro pins s σ H R I h
 refine thn (he pins s σ H _ I h) fun u s1 ⟨x, H1, I1, r1, v, d, ob, kvs, ex, hv, hd, q⟩ => ?_
 subst ex
 cases r1
 obtain ⟨e0, z, hsd, vs, rel, o, es, ep, q1, q2, q3, q4⟩ := I1.hok d _ hd
 have q1' := q1
 rw [e0] at q1'
 cases q1'
 have hview : s1.heap.IsValuesView v d := (I1.hok v _ hv).1
 have dat : s1.heap.DictAt (mixKind X.prog X.w) d vs ep := ⟨_, es, q1, q2, q3, q4⟩
 refine wpAny_pyIter_values hview dat ?_
 have hl := rel.length
 refine ⟨_, [s1.heap.objs.size], _, _, H1, rfl, I1.kept (t' := s1.toks) (fun b o e => Heap.get?_push_of_some _ e), turn_values (kvs := kvs) q3, ⟨_, Heap.get?_push_size _ rfl, rfl, by rw [hl]; rfl⟩, fun b hb => ?_, q⟩
 simp only [List.mem_cons, List.not_mem_nil, or_false] at hb
 subst hb
 exact I1.fpOk (Nat.le_refl _) (I1.hok.fresh (Nat.le_refl _))
theorem pi_items {e : Expr} {te : TE} {es0 : List Expr} {kk : Nat} {tp : Pos} (he : PE X e te) : PI X (.Tuple es0 kk tp) e (iView itemsHO Iti te) := by
 intro pins s σ H R I h
 refine thn (he pins s σ H _ I h) fun u s1 ⟨x, H1, I1, r1, v, d, ob, kvs, ex, hv, hd, q⟩ => ?_
 subst ex
 cases r1
 obtain ⟨e0, z, hsd, vs, rel, o, es, ep, q1, q2, q3, q4⟩ := I1.hok d _ hd
 have q1' := q1
 rw [e0] at q1'
 cases q1'
 have hview : s1.heap.IsItemsView v d := (I1.hok v _ hv).1
 have dat : s1.heap.DictAt (mixKind X.prog X.w) d vs ep := ⟨_, es, q1, q2, q3, q4⟩
 refine wpAny_pyIter_items hview dat ?_
 have hl := rel.length
 refine ⟨_, [s1.heap.objs.size], _, _, H1, rfl, I1.kept (t' := s1.toks) (fun b o e => Heap.get?_push_of_some _ e), turn_items (kvs := kvs) q3, ⟨_, _, by rw [hl]; exact Heap.get?_push_size _ rfl⟩, fun b hb => ?_, q⟩
 simp only [List.mem_cons, List.not_mem_nil, or_false] at hb
 subst hb
 exact I1.fpOk (Nat.le_refl _) (I1.hok.fresh (Nat.le_refl _))
def tFrz (te : TE) : TE := fun σ H Q => ∃ d kvs, H d = some (.dK kvs) ∧ ∀ ob, te σ (upd H d (.frz ob (.dK kvs))) fun v H1 => H1 d = some (.frz ob (.dK kvs)) ∧ Q v (upd H1 d (.dK kvs))
theorem pe_frz {e : Expr} {te : TE} (he : PE X e te) : PE X e (tFrz te) := by
 intro pins s σ H Q I h
 obtain ⟨d, kvs, hd, h⟩ := h
 have ok := I.hok d _ hd
 obtain ⟨z, hsd, vs, rel, o, es, ep, q1, q⟩ := id ok
 have hn : ∀ ob u, X.H₀ d ≠ some (.frz ob u) := fun ob u z => by
  have := I.base.frzs d ob u z
  rw [hd] at this
  cases this
 have I1 : Inv X pins σ (upd H d (.frz o (.dK kvs))) s := I.seen hd (fun _ z => by cases z) (fun _ z => by cases z) (fun _ z => by cases z) (fun _ _ z => by cases z) ⟨q1, ok⟩
 refine thn (he pins s σ _ _ I1 (h o)) fun u s1 ⟨v, H1, I2, r, hd2, k⟩ => ?_
 refine ⟨v, _, I2.seen hd2 (fun _ z => by cases z) (fun _ z => by cases z) (fun _ z => by cases z) (fun o' u' z b hb hbd => ?_) ?_, r, k⟩
 ·subst hbd
  exact hn _ _ hb
 ·exact (I2.hok d _ hd2).2
theorem comp_values {D d : Addr} {ob : Obj} {kvs : List (Key × V)} {idx : List Nat} {σ : St} {te : TE} {Q : VK} {H : Hp} (Pv : Nat → List V → Hp → Prop) (h0 : Pv 0 [] (upd H D (.lst [])))
  (hl : ∀ i ys H2, i ≤ kvs.length → Pv i ys H2 → H2 d = some (.frz ob (.dK kvs)) ∧ H2 D = some (.lst ys) ∧ ys.length < sizeLine)
  (hs : ∀ i kv ys H2, kvs[i]? = some kv → Pv i ys H2 → te (some kv.2 :: pick idx σ) H2 fun y H4 => H4 D = some (.lst ys) ∧ Pv (i + 1) (ys ++ [y]) (upd H4 D (.lst (ys ++ [y])))) (hd : ∀ ys H2, Pv kvs.length ys H2 → Q (.ref D) H2) :
  CompW (Itv d ob kvs) idx σ te D Q H := by
 refine ⟨fun i m ys H2 => m = kvs.length - i ∧ i ≤ kvs.length ∧ Pv i ys H2, ⟨kvs.length, by simp, Nat.zero_le _, h0⟩, ?_⟩
 rintro i m ys H2 ⟨rfl, hi, p⟩
 obtain ⟨q1, q2, q3⟩ := hl i ys H2 hi p
 refine ⟨q2, q3, ?_⟩
 by_cases hlt : i < kvs.length
 ·refine .inr ⟨⟨q1, hlt⟩, fun y H4 => H4 D = some (.lst ys) ∧ Pv (i + 1) (ys ++ [y]) (upd H4 D (.lst (ys ++ [y]))), fun z H4 q => ⟨q.1, kvs.length - (i + 1), by omega, rfl, hlt, q.2⟩, fun v H3 y => ?_⟩
  obtain ⟨rfl, kv, e, rfl⟩ := y
  exact hs i kv ys _ e p
 ·have e : i = kvs.length := by omega
  subst e
  exact .inl ⟨⟨q1, Nat.le_refl _⟩, hd ys H2 p⟩
theorem compT_items {K : W.Frag} {D d : Addr} {ob : Obj} {kvs : List (Key × V)} {idx : List Nat} {σ : St} {tt : TT} {te : TE} {Q : VK} {H : Hp} (Pv : Nat → List V → Hp → Prop) (h0 : Pv 0 [] (upd H D (.lst [])))
  (hl : ∀ i ys H2, i ≤ kvs.length → Pv i ys H2 → H2 d = some (.frz ob (.dK kvs)) ∧ H2 D = some (.lst ys) ∧ ys.length < sizeLine)
  (hs : ∀ i kv ys H2 T (N : List V → Hp → Prop), kvs[i]? = some kv → Pv i ys H2 → H2 T = none → (∀ zs H', Pv (i + 1) zs H' → N zs H') →
   tt (some (kV kv.1) :: some kv.2 :: pick idx σ) (upd H2 T (.tup [kV kv.1, kv.2])) fun b H4 => if b = true then te (some (kV kv.1) :: some kv.2 :: pick idx σ) H4 fun y H5 => H5 D = some (.lst ys) ∧ N (ys ++ [y]) (upd H5 D (.lst (ys ++ [y]))) else N ys H4)
  (hd : ∀ ys H2, Pv kvs.length ys H2 → Q (.ref D) H2) : CompWT2 K (Iti d ob kvs) idx σ tt te D Q H := by
 refine ⟨fun i m ys H2 => m = kvs.length - i ∧ i ≤ kvs.length ∧ Pv i ys H2, ⟨kvs.length, by simp, Nat.zero_le _, h0⟩, ?_⟩
 rintro i m ys H2 ⟨rfl, hi, p⟩
 obtain ⟨q1, q2, q3⟩ := hl i ys H2 hi p
 refine ⟨q2, q3, ?_⟩
 by_cases hlt : i < kvs.length
 ·refine .inr ⟨⟨q1, hlt⟩, fun v H3 y => ?_⟩
  obtain ⟨T, kv, rfl, hT, rfl, e⟩ := y
  exact ⟨T, _, _, rfl, SqT.of upd_same, hs i kv ys _ T (fun zs H' => ∃ m', m' < kvs.length - i ∧ m' = kvs.length - (i + 1) ∧ i + 1 ≤ kvs.length ∧ Pv (i + 1) zs H') e p hT fun zs H' q => ⟨kvs.length - (i + 1), by omega, rfl, hlt, q⟩⟩
 ·have e : i = kvs.length := by omega
  subst e
  exact .inl ⟨⟨q1, Nat.le_refl _⟩, hd ys H2 p⟩
end
end L2
namespace L2
open PySem PySem.Spec PyProof.Rows
theorem passes_tail {h : Heap} {bm : List Value} (T : OwnTail h veMro bm) (self : Value) : refuseLoop self "__setattr__" bm = pure () := by
 induction T with
 | base => exact PySem.F.store_ValueError.passes self
 | own _ _ _ _ ih => rw [refuseLoop_ref]; exact ih
structure XCls (K : W.Frag) (C : Addr) : Prop where
 ob : ∀ {h : Heap}, K.In h → ∃ (bm : List Value) (Nn : Addr) (nm qn : Str) (bs : List Value) (hdct : Bool) (sn : List Str) (sub : List Value) (ab : Bool) (col : Option Bool) (dd : Option Addr) (k0 k1 k2 k3 k5 : Option Value),
  h.get? C = some (excClassObj nm qn C Nn bs bm hdct sn sub ab col dd k0 k1 k2 k3 k5 "ValueError.__new__") ∧ OwnTail h veMro bm
 sa : W.findIn K (.ref C) "__setattr__" = some (some (.builtin "object.__setattr__"))
 ob2 : W.mroIn K C (.type "object") = some true
 hd : W.hasDictIn K C = true
section
variable {prog : Program} {w : World} {A : Around} {E : Value → Shared → Prop} {s : Shared} {K : W.Frag} {x C : Addr} {ox : Obj} {od : Option Obj} {name : Str} {v : Value}
theorem xsa_open {tk : Tok} {R : Result → Shared → Prop} (X : K.In s.heap) (Z : XCls K C) (I : W.InstAt s.heap x ox C od) (ht : W.takerIn K C name = some none)
  (h : ∀ b, wpAny (model prog w) A.in1 (Builtin.ObjectAttr.storeInOwnDict (.ref x) (.ref C) (.str name tk) name v b)
   (fun fin s' => match fin with | .done f => R (.ok f) s' | .again c' => c'.quiet = true ∧ codeAny (model prog w) A c' R s') (fun e s' => R (.error e) s') s) :
  codeAny (model prog w) A (.call (.builtin "object.__setattr__") ⟨[.ref x, .str name tk, v], []⟩) R s := by
 have SF := PySem.F.store_object
 have sub : W.Looks (model prog w) s.heap (isInstance (.ref x) (.type "object")) true := I.type.andThen (W.looks_mroIn X Z.ob2)
 refine codeAny_call_builtin SF.slot.plain SF.entry (@W.check_slot (model prog w) _ _ s "object.__setattr__" "object" "__setattr__" (.ref x) [.str name tk, v] [] _ SF.kind SF.split sub (SF.args (.ref x) (.str name tk) v) ?_)
 obtain ⟨attr, ha, hr⟩ := Option.bind_eq_some_iff.mp ht
 have L3 : W.Looks (model prog w) s.heap (Builtin.ObjectAttr.storeTaker? attr) none := by
  cases attr with
  | none => exact .now
  | some a =>
   obtain ⟨b, hb, hb2⟩ := Option.map_eq_some_iff.mp hr
   refine (W.looks_takesIn X hb).andThen ?_
   cases b with
   | true => cases hb2
   | false => exact .now
 obtain ⟨bm, Nn, nm, qn, bs, hdct, sn, sub', ab, col, dd, k0, k1, k2, k3, k5, c1, c3⟩ := Z.ob X
 rw [W.osa_eq, refuse_eq]
 obtain ⟨hh, g, d, t, os⟩ := s
 refine wpAny_bind (wpAny_bind (I.type.here (wpAny_bind (wpAny_mroOf_exc c1 ?_))))
 rw [refuseLoop_ref, passes_tail c3]
 refine wpAny_pure (wpAny_bind (I.type.here (wpAny_bind ((W.looks_findIn X ha).here (wpAny_bind (L3.here ?_))))))
 exact h _
theorem xset_new {vs : Array Value} {Q : Unit → Shared → Prop} (X : K.In s.heap) (Z : XCls K C) (hx : s.heap.get? x = some ox) (hc : ox.cls = .ref C) (hd : ox.data = .fields vs) (hn : ox.dict = none) (ht : W.takerIn K C name = some none)
  (hq : ∀ h', h'.get? x = some { ox with dict := some s.heap.objs.size } → h'.Ns1 s.heap.objs.size (fun y => if y = name then some v else none) → (∀ b o, b ≠ x → s.heap.get? b = some o → h'.get? b = some o) → Q () { s with heap := h', toks := s.toks + 2 }) :
  wpAny (model prog w) A (setAttr (.ref x) name v) Q E s := by
 have I : W.InstAt s.heap x ox C none := ⟨hx, hc, by unfold W.notCls; rw [hd], by rw [hn]; trivial⟩
 refine W.set_plain X I Z.sa (xsa_open (s := { s with toks := s.toks + 1 }) X Z I ht fun b => ?_)
 obtain ⟨cd, hcl, hd'⟩ := W.any_some Z.hd
 refine wpAny_bind (wpAny_pure (wpAny_bind (wpAny_bind (wpAny_loadPart hx ?_))))
 rw [hc]
 dsimp only
 refine wpAny_bind (W.Looks.here (s := { s with toks := s.toks + 1 }) (W.looks_clsIn X hcl) ?_)
 rw [hd', hn, if_neg (by decide)]
 dsimp only
 rw [if_neg (by simp [typeHasDict]), hd]
 dsimp only
 have hx1 : (s.heap.push { cls := .type "dict", data := .dict #[] }).get? x = some ox := Heap.get?_push_of_some _ hx
 have hxs : x ≠ s.heap.objs.size := Nat.ne_of_lt (Heap.lt_size hx)
 refine wpAny_bind (wpAny_alloc' (wpAny_bind (wpAny_update' hx1 (wpAny_pure ?_))))
 have fr := (Heap.get?_some_iff.mp hx).2
 have hgd : ((s.heap.push { cls := .type "dict", data := .dict #[] }).update x fun o => { o with dict := some s.heap.objs.size }).get? s.heap.objs.size = some { cls := .type "dict", data := .dict #[] } :=
  (Heap.get?_update_other _ _ hxs).trans (Heap.get?_push_size _ rfl)
 have hns : ((s.heap.push { cls := .type "dict", data := .dict #[] }).update x fun o => { o with dict := some s.heap.objs.size }).Ns s.heap.objs.size (fun _ => none) := ⟨_, #[], _, hgd, rfl, fun e he => absurd he (by simp), fun _ => rfl⟩
 have hgx : ((s.heap.push { cls := .type "dict", data := .dict #[] }).update x fun o => { o with dict := some s.heap.objs.size }).get? x = some { ox with dict := some s.heap.objs.size } := by
  refine Heap.get?_update_self _ hx1 ?_
  obtain ⟨oc, od', odt, osl⟩ := ox
  cases odt <;> first | rfl | exact fr
 refine wpAny_bind (wpAny_pure (wpAny_bind (wpAny_nsSet1 (Heap.Ns1.of_empty hns) fun h' hn2 hs2 => ?_)))
 obtain ⟨oD, esD, epD, hoD, hdD, hcD⟩ := hn2.count (PySem.Within.cons name v PySem.Within.nil)
 refine wpAny_bind (wpAny_lookBehind hoD (by rw [hdD]; exact pastItsLine_dict (Nat.le_trans hcD (by rw [List.length_cons, List.length_nil, sizeLine_eq]; omega))) ?_)
 refine wpAny_pure (hq h' ((hs2.2 x hxs).trans hgx) hn2 fun b o hb e => ?_)
 exact (hs2.2 b (Nat.ne_of_lt (Heap.lt_size e))).trans ((Heap.get?_update_other _ _ (Ne.symm hb)).trans (Heap.get?_push_of_some _ e))
theorem xset_more {vs : Array Value} {dx : Addr} {mA : Str → Option Value} {ns : List Str} {Q : Unit → Shared → Prop} (X : K.In s.heap) (Z : XCls K C) (hx : s.heap.get? x = some ox) (hc : ox.cls = .ref C) (hd : ox.data = .fields vs) (hn : ox.dict = some dx) (hA : s.heap.Ns1 dx mA)
  (hw : PySem.Within mA ns) (hsz : ns.length ≤ sizeLine) (ht : W.takerIn K C name = some none)
  (hq : ∀ h', h'.Ns1 dx (fun y => if y = name then some v else mA y) → Heap.SameBut dx s.heap h' → Q () { s with heap := h', toks := s.toks + 2 }) :
  wpAny (model prog w) A (setAttr (.ref x) name v) Q E s := by
 obtain ⟨od, ho, hl⟩ := lookIn_ns hA
 have I : W.InstAt s.heap x ox C (some od) := ⟨hx, hc, by unfold W.notCls; rw [hd], by rw [hn]; exact ho⟩
 refine W.set_plain X I Z.sa (xsa_open (s := { s with toks := s.toks + 1 }) X Z I ht fun b => ?_)
 obtain ⟨cd, hcl, hd'⟩ := W.any_some Z.hd
 refine wpAny_bind (wpAny_pure (wpAny_bind (wpAny_bind (wpAny_loadPart hx ?_))))
 rw [hc]
 dsimp only
 refine wpAny_bind (W.Looks.here (s := { s with toks := s.toks + 1 }) (W.looks_clsIn X hcl) ?_)
 rw [hd', hn, if_neg (by decide)]
 dsimp only
 refine wpAny_pure (a := some dx) (wpAny_bind (wpAny_pure (wpAny_bind (wpAny_nsSet1 (s := { s with toks := s.toks + 1 }) hA fun h' hn2 hs2 => ?_))))
 obtain ⟨oD, esD, epD, hoD, hdD, hcD⟩ := hn2.count (PySem.Within.cons name v hw)
 refine wpAny_bind (wpAny_lookBehind hoD (by rw [hdD]; exact pastItsLine_dict (Nat.le_trans hcD (by rw [List.length_cons]; omega))) ?_)
 exact wpAny_pure (hq h' hn2 hs2)
end
end L2
namespace L2
open PySem PySem.Spec PyProof.Rows
section
variable {prog : Program} {w : World} {A : Around} {E : Value → Shared → Prop} {K : W.Frag} {h : Heap} {g : Array GenState} {d : Drawn} {t : Nat} {os : OsState} {a C : Addr} {o : Obj} {od : Option Obj} {name : Str} {v : Value}
 {nm q : Str} {N : Addr} {bs bm : List Value} {hdct : Bool} {sn : List Str} {sub : List Value} {ab : Bool} {col : Option Bool} {dd : Option Addr} {k0 k1 k2 k3 k5 : Option Value} {newId : String}
theorem xget_entry {tk : Tok} {Q : Fin → Shared → Prop} (X : K.In h) (I : W.InstAt h a o C od) (hf : W.findObj K C od name = some (.value v)) (hq : Q (.done (.ret v)) ⟨h, g, d, t, os⟩) :
  wpAny (model prog w) A (Builtin.«object.__getattribute__» ⟨[.ref a, .str name tk], []⟩) Q E ⟨h, g, d, t, os⟩ := by
 have L0 := I.type (M := model prog w)
 have L1 := W.looks_find (M := model prog w) X I hf
 unfold Builtin.«object.__getattribute__»
 repeat' (first | assumption | with_reducible refine L0.at ?_ | with_reducible refine L1.at ?_ | wp_step)
theorem xget_by {tk : Tok} {fill expr : Bool} {Q : Value → Shared → Prop} (X : K.In h) (Z : ExcCls K C) (hC : h.get? C = some (excClassObj nm q C N bs bm hdct sn sub ab col dd k0 k1 k2 k3 k5 newId)) (hb : bm.contains (.type "BaseException") = true)
  (I : W.InstAt h a o C od) (hf : W.findObj K C od name = some (.value v)) (hh : W.handedIn v = true) (hq : Q v ⟨h, g, d, t, os⟩) : wpAny (model prog w) A (getAttrBy (.ref a) (.str name tk) fill expr) Q E ⟨h, g, d, t, os⟩ := by
 have hx := I.at_
 have hc := I.cls
 have L1 := W.looks_findIn (M := model prog w) X Z.ga
 have L2 := W.looks_findIn (M := model prog w) X Z.gh
 have z3 := PySem.F.excAttr_ValueError.ga.bind (.ref a)
 have n1 : (Value.builtin "BaseException.__getattribute__" == Value.builtin "object.__getattribute__") = false := by decide +kernel
 have n2 : (onTheHeap (Value.ref C) && Value.builtin "BaseException.__getattribute__" == Value.builtin "object.__getattribute__") = false := by rw [n1]; rfl
 have n3 : (expr && onTheHeap (Value.builtin "BaseException.__getattribute__")) = false := by cases expr <;> rfl
 repeat' (first | assumption | (with_reducible refine wpAny_loadPart_at hx ?_; rw [hc]) | with_reducible refine L1.at ?_ | with_reducible refine L2.at ?_ | wp_step)
 refine codeAny_call_builtin PySem.F.excAttr_ValueError.ga.plain F.entry_bexc_ga (exc_check_ga hC hb hx hc (xget_entry X I hf ?_))
 repeat' (first | assumption | wp_step)
 show wpAny _ _ (handedOut v) _ _ _
 rw [W.handedOut_of hh]
 exact wpAny_pure hq
theorem xget {dx : Addr} {vs : Array Value} {mA : Str → Option Value} {expr : Bool} {Q : Value → Shared → Prop} (X : K.In h) (Z : ExcCls K C) (Z2 : XCls K C) (hx : h.get? a = some o) (hc : o.cls = .ref C) (hd : o.data = .fields vs) (hn : o.dict = some dx) (hA : h.Ns1 dx mA)
  (na : NoAttr K C name) (hv : mA name = some v) (hh : W.handedIn v = true) (hq : Q v ⟨h, g, d, t + 1, os⟩) : wpAny (model prog w) A (getAttr (.ref a) name expr) Q E ⟨h, g, d, t, os⟩ := by
 obtain ⟨od, ho, hl⟩ := lookIn_ns hA
 have I : W.InstAt h a o C (some od) := ⟨hx, hc, by unfold W.notCls; rw [hd], by rw [hn]; exact ho⟩
 obtain ⟨bm, Nn, nm, qn, bs, hdct, sn, sub', ab, col, dd, k0, k1, k2, k3, k5, c1, c3⟩ := Z2.ob X
 have hf := W.findObj_own (od := od) (v := v) Z2.hd na rfl (by rw [hl, hv])
 exact wpAny_bind (wpAny_mkText (xget_by X Z c1 (c3.hasType (by decide +kernel)) I hf hh hq))
end
end L2
namespace L2
open PySem PySem.Spec PyProof.Rows
section
variable {prog : Program} {w : World} {A : Around} {E : Value → Shared → Prop} {K : W.Frag} {h : Heap} {g : Array GenState} {d : Drawn} {t : Nat} {os : OsState} {C f : Addr} {rest : List Value}
def MadeBack (Q : Value → Shared → Prop) (E : Value → Shared → Prop) (e : Addr) (r : Result) (s' : Shared) : Prop := match r with
 | .ok (.ret u) => u = .none ∧ Q (.ref e) s'
 | .ok _ => False
 | .error z => E z s'
theorem xmake_type {Q : Fin → Shared → Prop} (X : K.In h) (Z : XCls K C) (hi : W.findIn K (.ref C) "__init__" = some (some (.ref f))) (hf : W.typeIn K (.ref f) = some (.type "function")) (hrest : rest.length ≤ sizeLine)
  (hq : ∀ h' e, e = h.objs.size + 1 → Heap.MadeExcOf h h' e (.ref C) rest → codeAny (model prog w) A (.call (.ref f) ⟨.ref e :: rest, []⟩) (MadeBack (fun v => Q (.done (.ret v))) E e) ⟨h', g, d, t, os⟩) :
  wpAny (model prog w) A (Builtin.«type.__call__» ⟨.ref C :: rest, []⟩) Q E ⟨h, g, d, t, os⟩ := by
 obtain ⟨bm, Nn, nm, qn, bs, hdct, sn, sub', ab, col, dd, k0, k1, k2, k3, k5, hC, hT⟩ := Z.ob X
 have FB := PySem.F.excBase_ValueError
 repeat (first | with_reducible refine wpAny_loadPart_at hC ?_ | with_reducible refine wpAny_madeBy_exc hC ?_ | wp_step)
 refine codeAny_call_builtin_code (Code.quiet_builtin _ FB.quiet) (wpAny_check_new_subT FB hT hC (codeAny_exc_new_subT FB hT hC ?_ hrest))
 show wpAny _ _ _ _ _ _
 have up : ∀ b o, h.get? b = some o → ((h.push { cls := .type "tuple", data := .seq rest.toArray }).push { cls := .ref C, data := .fields #[.ref h.objs.size, .none, .none, .none, .bool false, .none] }).get? b = some o := fun b o q => Heap.get?_push_of_some _ (Heap.get?_push_of_some _ q)
 have he : ((h.push { cls := .type "tuple", data := .seq rest.toArray }).push { cls := .ref C, data := .fields #[.ref h.objs.size, .none, .none, .none, .bool false, .none] }).get? (h.objs.size + 1) = some { cls := .ref C, data := .fields #[.ref h.objs.size, .none, .none, .none, .bool false, .none] } := by heap_get
 have hC1 := up _ _ hC
 have cC : (Value.ref C :: bm).contains (.ref C) = true := by simp
 have LI := W.looks_findIn (M := model prog w) (X.keeps up) hi
 unfold isInstance
 repeat (first | with_reducible refine wpAny_loadPart_at he ?_ | (with_reducible refine wpAny_isSubtype_exc hC1 ?_; rw [cC]) | wp_step)
 show wpAny _ _ (typeLookup (.ref C) _) _ _ _
 refine LI.at ?_
 refine wpAny_holding (wpAny_bind ?_)
 refine (W.bind_fn (X.keeps up) (.ref (h.objs.size + 1)) hf).at ?_
 refine wpAny_bind (wpAny_call (codeAny_mono (hq _ (h.objs.size + 1) rfl ⟨up, Heap.get?_none_of_le (Nat.le_succ _), h.objs.size, he, Heap.get?_none_of_le (Nat.le_refl _), Heap.get?_push_of_some _ (Heap.get?_push_at rfl rfl)⟩) fun r s' z => ?_))
 cases r with
 | error e => exact z
 | ok fl =>
  cases fl with
  | ret u =>
   obtain ⟨rfl, z2⟩ := (show u = .none ∧ Q (.done (.ret (.ref (h.objs.size + 1)))) s' from z)
   wp_walk
   exact z2
  | next => exact False.elim z
  | brk => exact False.elim z
  | cont => exact False.elim z
theorem xmake {Q : Value → Shared → Prop} (X : K.In h) (Z : XCls K C) (hi : W.findIn K (.ref C) "__init__" = some (some (.ref f))) (hf : W.typeIn K (.ref f) = some (.type "function")) (hrest : rest.length ≤ sizeLine)
  (hq : ∀ h' e, e = h.objs.size + 1 → Heap.MadeExcOf h h' e (.ref C) rest → codeAny (model prog w) (A.under (.builtin "type.__call__" ⟨.ref C :: rest, []⟩)) (.call (.ref f) ⟨.ref e :: rest, []⟩) (MadeBack Q E e) ⟨h', g, d, t, os⟩) :
  wpAny (model prog w) A (call (.ref C) rest) Q E ⟨h, g, d, t, os⟩ := by
 obtain ⟨bm, Nn, nm, qn, bs, hdct, sn, sub', ab, col, dd, k0, k1, k2, k3, k5, hC, hT⟩ := Z.ob X
 have f1 := tc_lookup
 have f2 := tc_bind (.ref C)
 have ty : (⟨h, g, d, t, os⟩ : Shared).TypeIs (.ref C) "type" := ⟨_, hC, rfl⟩
 refine wpAny_call (codeAny_of_tree ?_)
 show wpAny _ _ (callAny (.ref C) _) _ _ _
 repeat (any_goals (first | assumption | with_reducible refine wpAny_loadPart_at hC ?_ | wp_step))
 refine ⟨rfl, codeAny_call_builtin_at (Code.quiet_builtin _ (by decide +kernel)) entry_typeCall (wpAny_check_type_call_sub hC (xmake_type X Z hi hf hrest fun h' e ee hm => codeAny_mono (hq h' e ee hm) fun r s' z => ?_))⟩
 cases r with
 | error e => exact z
 | ok fl => cases fl <;> exact z
end
end L2
namespace L2
open PySem PySem.Spec PyProof.Rows
def excD (x C : Addr) (od : Option Addr) : HO := .ext fun h => ∃ oe vs, h.get? x = some oe ∧ oe.cls = .ref C ∧ oe.data = .fields vs ∧ oe.dict = od
abbrev TSX := Ends → XK → St → Hp → Prop
def PSX (X : Cx) (st : List Stmt) (t : TSX) : Prop :=
 ∀ (pins : List (Addr × Obj)) (s : Shared) (σ : St) (H : Hp) (D : Ends) (E : XK), Inv X pins σ H s → t D E σ H →
  wpAny (model X.prog X.w) X.A (execs st X.env) (SP X pins D) (fun e' s' => ∃ H1 s1, Inv X pins σ H1 s1 ∧ CX1 X.prog X.w X.stack H1 s1 E e' s') s
def tTryS (K : W.Frag) (i : Nat) (CB : Addr) (te : TSX) (th : TS) : TS := fun D σ H => te D (fun C od H' => ∃ C0, C = .ref C0 ∧ W.exmOne K (.ref C0) (.ref CB) = some true ∧ ∀ x, H' x = none → th (EndsGo D i) (σ.set i (some (.ref x))) (upd H' x (excD x C0 od))) σ H
section
variable {X : Cx} {i : Nat} {n c : Str} {CB : Addr} {body : List Stmt} {te : TSX} {th : TS} {b₀ : Stmt} {suite : List Stmt} {np hp pos : Pos}
theorem ps_tryS (hN : X.N.Nodup) (hi : X.N[i]? = some n) (hl : X.env.scope.names.lookup n = some .local) (hs : X.stack = X.env :: X.outer) (hf : X.env.frame = some X.env.locals)
  (he : PSX X body te) (hg : Gl X c) (hm : X.mg c = some (.ref CB)) (hh : ∀ x, PSs (X.hand x) (b₀ :: suite) th) (hdb : (c == ("__debug__" : Str)) = false := by decide) :
  PS X (.Try body [.ExceptHandler (some (.Name c np)) (some n) (b₀ :: suite) hp] [] [] pos) (tTryS X.K i CB te th) := by
 intro pins s σ H D I h
 refine wpAny_Try_except ?_
 refine wpAny_mono (he pins s σ H D _ I h) (fun fl0 s1 q1 => ?_) fun e' s' ⟨H1, s1, I1, cx⟩ => ?_
 ·cases fl0 with
  | next => exact wpAny_execs_nil q1
  | ret u => exact q1
  | brk => exact q1
  | cont => exact q1
 obtain ⟨x, C, od, H', rfl, os, bare, u, hok, ⟨B, a0, fl, b1, b2, fx⟩, ⟨ox0, hox0, hdx0⟩, C0, rfl, hexm, hE⟩ := cx
 have fl' : Heap.FlyingW B (X.env :: X.outer) x (.ref C0) a0 s'.heap := by rw [← hs]; exact fl
 have hfr : X.A.frames = some (X.env :: X.outer) := by rw [← hs]; exact I.ok.frames
 refine keeping (dk_noteFrame _ _) (wpAny_looks_onW hfr hf fl' fun h4 held4 up4 kd4 => ?_)
 refine keeping (dk_setFlight _ _) (wpAny_landsW held4 fun h5 fl5 up5 kd5 => ?_)
 have r5 := fly_on (h' := h5) I1 u hok b1 b2 fl.1 fl5.1 (up4.trans up5)
 have I5 : Inv X pins σ H' { s' with heap := h5 } := I1.call' os r5.1 r5.2 bare fun b z => absurd z (by simp)
 obtain ⟨oe5, vs5, he5, hc5, hd5, _⟩ := fl5.first
 refine wpAny_handleBy_cons (codeAny_handlers_test ?_) (by intro q; cases q)
 refine ld_glob (X := X.hand x) (I5.hand x) hg hm ?_ hdb
 obtain ⟨hh', gg, dd', tt, oo⟩ := s'
 refine (W.exm_one (M := model X.prog X.w) I5.kIn (hc5 ▸ (W.Looks.ld he5).andThen .now) hexm).at ?_
 show codeAny _ _ _ _ _
 refine codeAny_handlers_suite_as ?_
 refine keeping (dk_setFlight _ _) (lands_againW fl5 fun h6 fl6 up6 kd6 => ?_)
 obtain ⟨ox6, hox6, hdx6⟩ := (kd4.trans (kd5.trans kd6)) _ _ hox0
 have up46 := (up4.trans up5).trans up6
 have r6 := fly_on (h' := h6) I1 u hok b1 b2 fl.1 fl6.1 up46
 obtain ⟨oe6, vs6, he6, hc6, hd6, _⟩ := fl6.first
 have hdd : oe6.dict = od := by
  rw [he6] at hox6
  cases hox6
  exact hdx6.trans hdx0
 have xnew : ∀ o, s1.heap.get? x = some o → False := fun o z => by
  by_cases hb' : x ∈ frs X.stack
  ·obtain ⟨_, o', e', nf⟩ := I1.stack.mem hb'
   obtain ⟨sl, e1⟩ := r6.1.slot x _ e' (I1.stkFree x hb') hb' (by simp)
   rw [he6] at e1
   cases e1
   exact nf _ hd6
  ·obtain ⟨o', e2⟩ := b2 x o z hb'
   rw [fl.2.1] at e2
   cases e2
 have un7 : Un (frs X.stack) [] H1 (upd H' x (excD x C0 od)) s1.heap h6 := ⟨r6.1.keep, r6.1.slot, fun b o q1 q2 q3 => by rw [upd_ne (fun z => xnew o (by rw [← z]; exact q1))]; exact r6.1.free b o q1 q2 q3, r6.1.there,
  fun b xs q1 => by have z := r6.1.tups b xs q1; rw [upd_ne (ne_of_none z fx)]; exact z, fun b o1 xs q1 => by have z := r6.1.frzs b o1 xs q1; rw [upd_ne (ne_of_none z fx)]; exact z,
  fun b ps' q1 => by obtain ⟨mo, z⟩ := r6.1.tbls b ps' q1; exact ⟨mo, by rw [upd_ne (ne_of_none z fx)]; exact z⟩⟩
 have ok7 : HOk X.prog X.w (upd H' x (excD x C0 od)) h6 := fun b ob q1 => by
  by_cases hb' : b = x
  ·subst hb'
   rw [upd_same] at q1
   cases q1
   refine ⟨⟨oe6, vs6, he6, hc6, hd6, hdd⟩, ⟨oe6, he6⟩, fun h1 h2 ⟨oe, vs, z1, z2, z3, z4⟩ kk => ⟨oe, vs, kk oe z1, z2, z3, z4⟩⟩
  ·rw [upd_ne hb'] at q1
   exact (r6.2 b ob q1).stay (fun _ _ _ z => z) (fun c' z => by rw [upd_ne (ne_of_none z fx)]; exact z) fun c' xs z => by rw [upd_ne (ne_of_none z fx)]; exact z
 have I7 : Inv X pins σ (upd H' x (excD x C0 od)) ⟨h6, gg, dd', tt, oo⟩ := I1.call' os un7 ok7 bare fun b z => absurd z (by simp)
 refine store_ok I7 hN hi (.inl hl) (v := .ref x) rfl (fun s8 I8 => ?_) (.inr hl)
 refine wpAny_mono (hh x pins s8 _ _ (EndsGo D i) (I8.hand x) (hE x fx)) (fun fl9 s9 q9 => ?_) fun _ _ z => False.elim z
 have hpl : (X.env.scope.kind == .class || (X.env.scope.kind == .module && X.env.locals != X.env.globals)) = false := by rw [I.ok.kind]; rfl
 have go : ∀ {σ' : St} {H2 : Hp} {R : Shared → Prop}, Inv (X.hand x) pins σ' H2 s9 → (∀ s10, Inv X pins (σ'.set i none) H2 s10 → R s10) → wpAny (model X.prog X.w) X.A (do bindName X.env n .none; unbindBehindTheSuite X.env n hp) (fun _ s10 => R s10) X.xe s9 := fun {σ' H2 R} J hR => by
  have J' := J.unhand I.ok
  obtain ⟨m, hn, hlook⟩ := J'.loc
  exact wpAny_nameGoes_keeps hl hn hpl fun h' v hn' hs' => hR _ (J'.unset hN hi hl hlook hn' hs')
 cases fl9 with
 | next =>
  obtain ⟨σ', H2, J, q⟩ := q9
  exact go J fun s10 I10 => ⟨_, H2, I10, q⟩
 | brk =>
  obtain ⟨σ', H2, J, q⟩ := q9
  exact go J fun s10 I10 => ⟨_, H2, I10, q⟩
 | cont =>
  obtain ⟨σ', H2, J, q⟩ := q9
  exact go J fun s10 I10 => ⟨_, H2, I10, q⟩
 | ret v =>
  obtain ⟨y, σ', H2, J, ry, q⟩ := q9
  exact go J fun s10 I10 => ⟨y, _, H2, I10, ry, q⟩
end
section
variable {X : Cx} {e c : Expr} {te : TEX} {tc : TT} {ta tb : TSX} {a b : List Stmt} {pos p1 : Pos}
theorem psx_set {i : Nat} {x : Str} {pos' : Pos} (hN : X.N.Nodup) (hi : X.N[i]? = some x) (hx : Loc X.env.scope x) (he : PEx X e te) (hs : swapsWith e (some (.Name x pos')) pos.line X.env = pure false := by rfl) (hf : X.fn x = true ∨ X.env.scope.names.lookup x = some .local := by first | exact .inl rfl | exact .inr rfl | assumption) :
  PSX X [.Assign [.Name x pos'] e pos] (fun D E σ H => te σ H (fun v H1 => D.nx (σ.set i (some v)) H1) E) := by
 intro pins s σ H D E I h
 refine wpAny_execs_cons (wpAny_Assign_Name (wpAny_mono (he pins s σ H _ _ I h) (fun v s1 ⟨y, H1, I1, r1, q1⟩ => ?_) fun e' s' z => z) hs)
 exact store_ok I1 hN hi hx r1 (fun s2 I2 => wpAny_execs_nil ⟨_, H1, I2, q1⟩) hf
theorem psx_if (hc : PT X.nox c tc) (ha : PSX X a ta) (hb : PSX X b tb) : PSX X [.If c a b pos] (fun D E σ H => tc σ H fun k H1 => if k = true then ta D E σ H1 else tb D E σ H1) := by
 intro pins s σ H D E I h
 refine wpAny_execs_cons (wpAny_If (wpAny_mono (hc pins s σ H _ (I.wish _) h) (fun d s1 ⟨H1, I1, q1⟩ => ?_) fun _ _ z => False.elim z))
 have I2 : Inv X pins σ H1 s1 := I1.unwish
 cases d with
 | true =>
  refine wpAny_mono (ha pins s1 σ H1 D E I2 q1) (fun fl s2 q2 => ?_) fun _ _ z => z
  cases fl with
  | next => exact wpAny_execs_nil q2
  | ret u => exact q2
  | brk => exact q2
  | cont => exact q2
 | false =>
  refine wpAny_mono (hb pins s1 σ H1 D E I2 q1) (fun fl s2 q2 => ?_) fun _ _ z => z
  cases fl with
  | next => exact wpAny_execs_nil q2
  | ret u => exact q2
  | brk => exact q2
  | cont => exact q2
end
end L2
namespace L2
open PySem PySem.Spec PyProof.Rows
def excN (x C : Addr) (od : Option Addr) : HO := .ext fun h => ∃ t sl, h.get? x = some { cls := .ref C, dict := od, data := .fields #[.ref t, .none, .none, .none, .bool false, .none], slots := sl }
def xdHO (d : Addr) (fs : List (Str × V)) : HO := .ext fun h => ∃ mA, h.Ns1 d mA ∧ (∀ f, RelO (fs.lookup f) (mA f)) ∧ PySem.Within mA (fs.map (·.1))
def XAt (H : Hp) (x C : Addr) (od : Option Addr) : Prop := H x = some (excD x C od) ∨ H x = some (excN x C od)
section
variable {P : Program} {w : World} {H : Hp} {h : Heap} {x C d : Addr} {od : Option Addr} {fs : List (Str × V)}
theorem XAt.get (hok : HOk P w H h) (q : XAt H x C od) : ∃ oe vs, h.get? x = some oe ∧ oe.cls = .ref C ∧ oe.data = .fields vs ∧ oe.dict = od := by
 rcases q with q | q
 ·exact (hok x _ q).1
 ·obtain ⟨⟨t, sl, e⟩, _⟩ := hok x _ q
  exact ⟨_, _, e, rfl, rfl, rfl⟩
theorem excN_ok {t : Addr} {sl : Array (Option Value)} (e : h.get? x = some { cls := .ref C, dict := od, data := .fields #[.ref t, .none, .none, .none, .bool false, .none], slots := sl }) : ObjOk P w H h x (excN x C od) :=
 ⟨⟨t, sl, e⟩, ⟨_, e⟩, fun _ _ ⟨t', sl', q⟩ k => ⟨t', sl', k _ q⟩⟩
theorem xdHO_ok {mA : Str → Option Value} (n : h.Ns1 d mA) (r : ∀ f, RelO (fs.lookup f) (mA f)) (wi : PySem.Within mA (fs.map (·.1))) : ObjOk P w H h d (xdHO d fs) := by
 obtain ⟨o, es, ep, e, q⟩ := id n
 exact ⟨⟨mA, n, r, wi⟩, ⟨o, e⟩, fun h1 h2 ⟨mB, n2, r2, w2⟩ k => ⟨mB, n2.at fun o e => k o e, r2, w2⟩⟩
end
section
variable {X : Cx} {pins : List (Addr × Obj)} {σ : St} {H : Hp} {s : Shared} {h' : Heap} {x C d : Addr} {o1 o2 : HO}
theorem Inv.writeLay {φ : Heap → Prop} {t' : Nat} (I : Inv X pins σ H s) (hx : H x = some (.ext φ)) (hd : s.heap.objs.size ≤ d) (k : ∀ b o, b ≠ x → s.heap.get? b = some o → h'.get? b = some o) (kx : ∃ o, h'.get? x = some o)
  (n1 : ObjOk X.prog X.w (upd (upd H d o2) x o1) h' x o1) (n2 : ObjOk X.prog X.w (upd (upd H d o2) x o1) h' d o2) : Inv X pins σ (upd (upd H d o2) x o1) { s with heap := h', toks := t' } := by
 have hn : H d = none := I.hok.fresh hd
 have xd : x ≠ d := fun z => by rw [z, hn] at hx; cases hx
 have nx : ∀ b u, H b = some u → (∀ ψ, u ≠ .ext ψ) → b ≠ x := fun b u e nu z => by rw [z, hx] at e; cases e; exact nu φ rfl
 have other : ∀ b, b ≠ x → b ≠ d → upd (upd H d o2) x o1 b = H b := fun b z1 z2 => by rw [upd_ne z1, upd_ne z2]
 have ltd : ∀ b o, s.heap.get? b = some o → b ≠ d := fun b o e => Nat.ne_of_lt (Nat.lt_of_lt_of_le (Heap.lt_size e) hd)
 have nnx : ∀ b, H b = none → b ≠ x := fun b e z => by rw [z, hx] at e; cases e
 refine I.call' (s' := { s with heap := h', toks := t' }) (ch := []) rfl ⟨fun b o e n _ _ => k b o (nnx b n) e, fun b o e n _ _ => ⟨o.slots, k b o (nnx b n) e⟩, fun b o e n _ => by rw [other b (nnx b n) (ltd b o e)]; exact n, fun b o e _ => ?_,
  fun b xs e => by rw [other b (nx b _ e fun _ z => by cases z) (ne_of_none e hn)]; exact e, fun b u xs e => by rw [other b (nx b _ e fun _ z => by cases z) (ne_of_none e hn)]; exact e,
  fun b ps e => ⟨#[], by rw [other b (nx b _ e fun _ z => by cases z) (ne_of_none e hn), e]; simp⟩⟩ (fun b u e => ?_) I.bare fun b z => absurd z (by simp)
 ·by_cases hb : b = x
  ·rw [hb]; exact kx
  ·exact ⟨o, k b o hb e⟩
 ·by_cases hb : b = x
  ·subst hb
   rw [upd_same] at e
   cases e
   exact n1
  ·by_cases hb2 : b = d
   ·subst hb2
    rw [upd_ne hb, upd_same] at e
    cases e
    exact n2
   ·rw [other b hb hb2] at e
    refine (I.hok b u e).stay (fun c v hc q => k c v ?_ q) (fun c q => by rw [other c (nx c _ q fun _ z => by cases z) (ne_of_none q hn)]; exact q) fun c xs q => by rw [other c (nx c _ q fun _ z => by cases z) (ne_of_none q hn)]; exact q
    rcases hc with z | z
    ·rw [z]; exact hb
    ·exact nx c _ z fun _ z => by cases z
end
end L2
namespace L2
open PySem PySem.Spec PyProof.Rows
section
variable {X : Cx} {e o value : Expr} {ta tv : TE} {f : Str} {pos pos' : Pos}
def tXFld (K : W.Frag) (ta : TE) (f : Str) : TE := fun σ H Q => ta σ H fun x H1 => ∃ a C d fs v, x = .ref a ∧ XAt H1 a C (some d) ∧ ExcCls K C ∧ XCls K C ∧ NoAttr K C f ∧ H1 d = some (xdHO d fs) ∧ fs.lookup f = some v ∧ Q v H1
theorem pe_xfld (he : PE X e ta) (hb : attributeBase e f X.env (eval e X.env) = eval e X.env) : PE X (.Attribute e f pos) (tXFld X.K ta f) := by
 intro pins s σ H Q I h
 refine attr_of hb (thn (he pins s σ H _ I h) fun u s1 ⟨x, H1, I1, r1, a, C, d, fs, v, e1, xa, Z, Z2, na, hd, l, q⟩ => ?_)
 subst e1
 cases r1
 obtain ⟨oe, vs, g1, g2, g3, g4⟩ := xa.get I1.hok
 obtain ⟨⟨mA, n, r, wi⟩, _⟩ := I1.hok d _ hd
 obtain ⟨u, hu, ru⟩ := RelO.some_of (v := v) (o := mA f) (by rw [← l]; exact r f)
 obtain ⟨hh, gg, dd, tt, oo⟩ := s1
 exact xget I1.kIn Z Z2 g1 g2 g3 g4 n na hu (handed_of ru) ⟨v, H1, I1.tok _, ru, q⟩
def sXFld (K : W.Frag) (ta tv : TE) (f : Str) : TS := fun D σ H => tv σ H fun y H1 => ta σ H1 fun x H2 => ∃ a C, x = .ref a ∧ XCls K C ∧ NoAttr K C f ∧
  ((H2 a = some (excN a C none) ∧ ∀ d, H2 d = none → D.nx σ (upd (upd H2 d (xdHO d [(f, y)])) a (excN a C (some d)))) ∨
   (∃ d fs, H2 a = some (excN a C (some d)) ∧ H2 d = some (xdHO d fs) ∧ fs.length < 1000 ∧ D.nx σ (upd H2 d (xdHO d (putF f y fs)))))
theorem ps_xfld (ha : PE X o ta) (hv : PE X value tv) (hs : swapsWith value (some (.Attribute o f pos')) pos.line X.env = pure false) : PS X (.Assign [.Attribute o f pos'] value pos) (sXFld X.K ta tv f) := by
 intro pins s σ H D I h
 refine plainObj_wpAny_Assign_Attribute (thn (hv pins s σ H _ I h) fun u s1 ⟨y, H1, I1, ry, q1⟩ => thn (ha pins s1 σ H1 _ I1 q1) fun b s2 ⟨x, H2, I2, rx, a, C, ex, Z, na, q2⟩ => ?_) hs
 subst ex
 obtain rfl : b = Value.ref a := rx
 rcases q2 with ⟨hx, q2⟩ | ⟨d, fs, hx, hd, hl, q2⟩
 ·obtain ⟨⟨t, sl, e⟩, _⟩ := I2.hok a _ hx
  refine xset_new I2.kIn Z e rfl rfl rfl na.taker fun h' g1 g2 g3 => ?_
  refine ⟨σ, _, ?_, q2 s2.heap.objs.size (I2.hok.fresh (Nat.le_refl _))⟩
  refine I2.writeLay hx (Nat.le_refl _) g3 ⟨_, g1⟩ (excN_ok g1) (xdHO_ok g2 (fun g => ?_) fun g hg => ?_)
  ·show RelO (List.lookup g [(f, y)]) (if g = f then some u else none)
   by_cases z : g = f
   ·have hb : (g == f) = true := beq_iff_eq.mpr z
    simp only [List.lookup, hb, if_pos z]
    exact ry
   ·have hb : (g == f) = false := beq_eq_false_iff_ne.mpr z
    simp only [List.lookup, hb, if_neg z]
    exact True.intro
  ·by_cases z : g = f
   ·simp [z]
   ·exact absurd (show (if g = f then some u else none) = none by rw [if_neg z]) hg
 ·obtain ⟨⟨t, sl, e⟩, _⟩ := I2.hok a _ hx
  obtain ⟨⟨mA, n, r, wi⟩, _⟩ := I2.hok d _ hd
  have hz : (fs.map (·.1)).length ≤ sizeLine := by rw [List.length_map, sizeLine_eq]; omega
  refine xset_more I2.kIn Z e rfl rfl rfl n wi hz na.taker fun h' g1 g2 => ?_
  refine ⟨σ, _, ?_, q2⟩
  have hd2 : ∃ o, h'.get? d = some o := let ⟨o, _, _, e', _⟩ := g1; ⟨o, e'⟩
  refine I2.write (x := d) (e := d) (by rw [hd]; exact True.intro) (.inl rfl) (fun b o hb z => (g2.2 b hb).trans z) hd2 (xdHO_ok g1 (fun g => ?_) fun g hg => ?_)
  ·show RelO ((putF f y fs).lookup g) (if g = f then some u else mA g)
   rw [lookup_putF]
   by_cases z : g = f
   ·rw [if_pos z, if_pos z]; exact ry
   ·rw [if_neg z, if_neg z]; exact r g
  ·by_cases z : g = f
   ·rw [z]; exact (keys_putF f y fs).1
   ·refine (keys_putF f y fs).2 g (wi g fun z2 => hg ?_)
    show (if g = f then some u else mA g) = none
    rw [if_neg z]; exact z2
def rIsE (K : W.Frag) : List V → Hp → VK → Prop := fun xs H Q => ∃ x C od vc c b, xs = [.ref x, vc] ∧ clsVal vc = some c ∧ XAt H x C od ∧ ExcCls K C ∧ W.kitOne K (.ref C) c = some b ∧ Q (.bl b) H
theorem call_isinstE {K : W.Frag} (hK : X.K = K) : CallR X (.builtin "isinstance") (rIsE K) := by
 subst hK
 intro pins s σ H xs us Q I r h
 obtain ⟨x, C, od, vc, c, b, rfl, ec, hx, Z, e, q⟩ := h
 obtain ⟨u, v, rfl, ru, rv⟩ := r.two
 cases ru
 have ev := clsVal_rel rv ec
 subst ev
 obtain ⟨oe, vs, g1, g2, g3, g4⟩ := hx.get I.hok
 exact W.kia_one (kitx_exc Z) I.kIn ⟨oe, vs, g1, g2, g3⟩ e (fun z => nomatch z) fun tk => ⟨.bl b, H, I.tok tk, rfl, q⟩
end
end L2
namespace L2
open PySem PySem.Spec PyProof.Rows
structure XMk (K : W.Frag) (C f : Addr) : Prop where
 cls : XCls K C
 init : W.findIn K (.ref C) "__init__" = some (some (.ref f))
 fn : W.isFn K (.ref f) = true
 kp : W.keepIn K (.ref C) = true
section
variable {X : Cx} {k : Nat} {f C : Addr} {fd : FuncData} {ps : List Str} {sp : Sp} {x : Str} {p pos : Pos} {e : Expr} {es : List Expr} {t : TA}
theorem run_makeX {pins : List (Addr × Obj)} {σ : St} {H : Hp} {s : Shared} {Q : Addr → Hp → Prop} {us : List Value} {vs : List V} {EE : Value → Shared → Prop} (M : XMk X.K C f) (F : FnOk X.prog X.w X.K X.mg X.base CX0 k f fd ps sp) (hr : Room (k + 1) X.A) (hb : Binds X.K fd ps [])
  (I : Inv X pins σ H s) (r : Vals vs us) (hz : us.length ≤ sizeLine)
  (h : ∀ x, s.heap.objs.size ≤ x → H x = none → sp (.ref x :: vs) (upd H x (excN x C none)) (fun v H2 => v = .non ∧ Q x H2) E0) :
  wpAny (model X.prog X.w) X.A (call (.ref C) us) (fun u s' => ∃ z, s.heap.objs.size ≤ z ∧ u = .ref z ∧ EP X pins σ (fun v H' => v = .ref z ∧ Q z H') u s') EE s := by
 obtain ⟨hh, gg, dd, tt, oo⟩ := s
 refine xmake I.kIn M.cls M.init (beq_iff_eq.mp M.fn) hz fun h' z ez hm => ?_
 have hsz : hh.objs.size ≤ z := by rw [ez]; exact Nat.le_succ _
 have hn : H z = none := I.hok.fresh hsz
 obtain ⟨tt', ht, _⟩ := hm.there
 have I2 : Inv X pins σ (upd H z (excN z C none)) ⟨h', gg, dd, tt, oo⟩ := I.laid (t' := tt) hm.keeps hsz (excN_ok ht)
 have hq := h z hsz hn
 have r2 : Vals (V.ref z :: vs) (Value.ref z :: us) := .cons rfl r
 have hl : (Value.ref z :: us ++ []).length = ps.length := by
  have e := r2.length
  rw [F.len _ _ _ _ hq] at e
  rw [List.append_nil]
  exact e.symm
 have hbb := hb ⟨h', gg, dd, tt, oo⟩ (Value.ref z :: us) I2.kIn hl
 rw [List.append_nil] at hbb
 refine codeAny_mono (F.run _ X.stack _ _ ⟨Value.ref z :: us, []⟩ (Value.ref z :: us) _ _ E0 (hr.make C us []) (I2.env0.make C us []) hbb r2 hq) fun r s' hq' => ?_
 cases r with
 | error e => exact False.elim hq'
 | ok fl =>
  cases fl with
  | ret u =>
   obtain ⟨v, H', I3, rv, ev, q3⟩ := I2.after hq'
   subst ev
   exact ⟨rv, z, hsz, rfl, .ref z, H', I3, rfl, rfl, q3⟩
  | next => exact False.elim hq'
  | brk => exact False.elim hq'
  | cont => exact False.elim hq'
def tMakeX (C : Addr) (sp : Sp) (t : TA) : TE := fun σ H Q => t σ H fun vs H1 => vs.length ≤ sizeLine ∧ ∀ x, H1 x = none → sp (.ref x :: vs) (upd H1 x (excN x C none)) (fun v H2 => v = .non ∧ Q (.ref x) H2) E0
theorem pe_makeX (M : XMk X.K C f) (F : FnOk X.prog X.w X.K X.mg X.base CX0 k f fd ps sp) (hr : Room (k + 1) X.A) (hg : Gl X x) (hm : X.mg x = some (.ref C)) (hb : Binds X.K fd ps [])
  (ha : PA X (e :: es) t) (hdb : (x == ("__debug__" : Str)) = false := by decide) (he : starEach (e :: es) X.env = (false, eval e X.env) :: starEach es X.env := by rfl) (hpl : (backTo pos (starEach es X.env)).any (·.1) = false := by rfl) :
  PE X (.Call (.Name x p) (e :: es) [] pos) (tMakeX C sp t) := by
 intro pins s σ H Q I h
 refine wpAny_Call_Name_kw (ld_glob I hg hm ?_ hdb)
 refine W.callWith_K (h₀ := X.base) I.ok.mod.kin M.kp (thn (ha pos pins s σ H _ I h) fun us s1 ⟨vs, H1, I1, r, hz, q⟩ => ⟨I1.kIn, ?_⟩) he hpl
 refine thn (run_makeX (Q := fun z => Q (.ref z)) M F hr hb I1 r (show us.length ≤ sizeLine by rw [← r.length]; exact hz) fun z _ hz => q z hz) fun u s2 ⟨z, _, hu, v, H2, I2, rv, ev, q2⟩ => ?_
 subst ev
 exact ⟨_, H2, I2, rv, q2⟩
end
end L2
namespace L2
open PySem PySem.Spec PyProof.Rows
def del (H : Hp) (z : Addr) : Hp := fun b => if b = z then none else H b
theorem del_same {H : Hp} {z : Addr} : del H z z = none := by unfold del; rw [if_pos rfl]
theorem del_ne {H : Hp} {z b : Addr} (h : b ≠ z) : del H z b = H b := by unfold del; rw [if_neg h]
theorem del_some {H : Hp} {z b : Addr} {o : HO} (h : del H z b = some o) : b ≠ z ∧ H b = some o := by
 by_cases q : b = z
 ·rw [q, del_same] at h; cases h
 ·rw [del_ne q] at h; exact ⟨q, h⟩
section
variable {X : Cx} {pins : List (Addr × Obj)} {σ : St} {H : Hp} {s : Shared} {z : Addr} {φ : Heap → Prop}
theorem Inv.forget (I : Inv X pins σ H s) (hz : H z = some (.ext φ)) : Inv X pins σ (del H z) s := by
 have nz : ∀ b u, H b = some u → (∀ ψ, u ≠ .ext ψ) → b ≠ z := fun b u e nu q => by rw [q, hz] at e; cases e; exact nu φ rfl
 have none_of : ∀ b, H b = none → del H z b = none := fun b e => by
  by_cases q : b = z
  ·rw [q]; exact del_same
  ·rw [del_ne q]; exact e
 refine ⟨I.ok, I.os, I.bare, ⟨I.base.keep, I.base.slot, fun b o e n hx => none_of b (I.base.free b o e n hx), I.base.there, fun b xs e => ?_, fun b o u e => ?_, fun b ps e => ?_⟩, I.loc, I.cell, none_of _ I.free, fun y c e => none_of _ (I.freeC y c e), fun p hp => ?_, fun b u e => ?_, I.len⟩
 ·have q := I.base.tups b xs e
  rw [del_ne (nz b _ q fun _ w => by cases w)]; exact q
 ·have q := I.base.frzs b o u e
  rw [del_ne (nz b _ q fun _ w => by cases w)]; exact q
 ·obtain ⟨mo, q⟩ := I.base.tbls b ps e
  exact ⟨mo, by rw [del_ne (nz b _ q fun _ w => by cases w)]; exact q⟩
 ·obtain ⟨a, b, c⟩ := I.pin p hp
  exact ⟨a, none_of _ b, c⟩
 ·obtain ⟨hb, e'⟩ := del_some e
  exact (I.hok b u e').stay (fun _ _ _ q => q) (fun c q => by rw [del_ne (nz c _ q fun _ w => by cases w)]; exact q) fun c xs q => by rw [del_ne (nz c _ q fun _ w => by cases w)]; exact q
end
def ThrowsN (X : Cx) (T : Value → Option Addr → Hp → Prop) : Prop :=
 ∀ (pins : List (Addr × Obj)) (σ : St) (H : Hp) (s : Shared) (z C : Addr) (od : Option Addr), Inv X pins σ H s → H z = some (excN z C od) → X.s₀.heap.objs.size ≤ z → T (.ref C) od (del H z) → X.xe (.ref z) s
section
variable {P : Program} {w : World} {K : W.Frag} {mg : Str → Option Value} {base : Heap} {N : List Str} {qual : Str} {scope : Scope} {f : Addr} {cd : Value} {A : Around} {outer : List Env} {s : Shared} {H : Hp} {E : XK}
theorem throwsN_cx : ThrowsN (cxOf (CX1 P w) P w K mg base N qual scope f cd A outer s H E) E := by
 intro pins σ H1 s1 z C od I hz hsz hT
 obtain ⟨⟨t, sl, he⟩, _⟩ := I.hok z _ hz
 have hzf : z ∉ frs (cxOf (CX1 P w) P w K mg base N qual scope f cd A outer s H E).stack := fun q => by
  have := I.stkFree z q
  rw [hz] at this; cases this
 have hin : ∀ env' ∈ (cxOf (CX1 P w) P w K mg base N qual scope f cd A outer s H E).stack, ∀ a, env'.frame = some a → a ∈ z :: frs (cxOf (CX1 P w) P w K mg base N qual scope f cd A outer s H E).stack := fun env' he a ha => List.mem_cons_of_mem _ (List.mem_filterMap.mpr ⟨env', he, ha⟩)
 have hen := W.hideAll_none (h := s1.heap) (z :: frs (cxOf (CX1 P w) P w K mg base N qual scope f cd A outer s H E).stack) (List.mem_cons_self (a := z))
 show wpAny (model P w) _ (leaving _ (.ref z)) _ _ s1
 refine keeping (dk_leaving _ _) (wpAny_leaving_firstW (s := s1) (base := W.hideAll s1.heap (z :: frs (cxOf (CX1 P w) P w K mg base N qual scope f cd A outer s H E).stack)) (a0 := .ref t) I.ok.frames (W.funFrames_hide I.stack hin) rfl he (fun b o q => W.of_hideAll _ q) hen rfl rfl rfl fun h' hL kd => ?_)
 obtain ⟨k1, ⟨_, _, k2⟩, k3, k4⟩ := hL
 have inB : ∀ b o, s1.heap.get? b = some o → b ≠ z → b ∉ frs (cxOf (CX1 P w) P w K mg base N qual scope f cd A outer s H E).stack → (W.hideAll s1.heap (z :: frs (cxOf (CX1 P w) P w K mg base N qual scope f cd A outer s H E).stack)).get? b = some o := fun b o q n1 n2 => W.hideAll_get _ q fun m => by
  rcases List.mem_cons.mp m with e | e
  ·exact n1 e
  ·exact n2 e
 have I0 := I.forget hz
 have slotF : ∀ b o, s1.heap.get? b = some o → b ∈ frs (cxOf (CX1 P w) P w K mg base N qual scope f cd A outer s H E).stack → ∃ sl, h'.get? b = some { o with slots := sl } := fun b o q hb => by
  obtain ⟨_, o', e', nf⟩ := I.stack.mem hb
  rw [q] at e'; cases e'
  exact k4 b o q nf
 have un : Un (frs (cxOf (CX1 P w) P w K mg base N qual scope f cd A outer s H E).stack) [z] (del H1 z) (del H1 z) s1.heap h' :=
  ⟨fun b o q _ hb hx => k1 b o (inB b o q (fun e => hx (by simp [e])) hb), fun b o q _ hb _ => slotF b o q hb, fun _ _ _ n _ => n, fun b o q hx => by
   by_cases hb : b ∈ frs (cxOf (CX1 P w) P w K mg base N qual scope f cd A outer s H E).stack
   ·obtain ⟨sl', e⟩ := slotF b o q hb
    exact ⟨_, e⟩
   ·exact ⟨o, k1 b o (inB b o q (fun e => hx (by simp [e])) hb)⟩, fun _ _ q => q, fun _ _ _ q => q, fun _ ps q => ⟨#[], by rw [q]; simp⟩⟩
 have hok : HOk P w (del H1 z) h' := fun b u q => by
  refine (I0.hok b u q).stay (fun c v hc e => ?_) (fun _ q => q) fun _ _ q => q
  have hn : del H1 z c ≠ none := by
   rcases hc with rfl | hc
   ·rw [q]; simp
   ·rw [hc]; simp
  refine k1 c v (inB c v e (fun y => hn (by rw [y]; exact del_same)) fun y => hn (I0.stkFree c y))
 have I2 : Inv (cxOf (CX1 P w) P w K mg base N qual scope f cd A outer s H E) pins σ (del H1 z) { s1 with heap := h' } := I0.call' (ch := [z]) rfl un hok I.bare fun b hb => by
  have e : b = z := by simpa using hb
  subst e
  refine ⟨.inr hsz, fun q => ?_, fun y c q1 q2 => ?_, fun p hp q => ?_⟩
  ·have := I.free
   rw [← q, hz] at this; cases this
  ·have := I.freeC y c q1
   rw [q2, hz] at this; cases this
  ·have := (I.pin p hp).2.1
   rw [q, hz] at this; cases this
 obtain ⟨ox, hox, hdx⟩ := kd _ _ he
 refine ⟨z, .ref C, od, del H1 z, rfl, I.os, I.bare, I2.base, I2.hok, ⟨_, _, ⟨k1, hen, k2, k3⟩, fun b n => ?_, fun b o q nb => ?_, del_same⟩, ⟨ox, hox, hdx⟩, hT⟩
 ·obtain ⟨ob, q⟩ := I0.hok.there n
  exact ⟨ob, inB b ob q (fun y => n (by rw [y]; exact del_same)) fun y => n (I0.stkFree b y)⟩
 ·obtain ⟨o', q'⟩ := I.base.there b o q (by intro m; exact absurd (show b ∈ ([] : List Addr) from m) (by simp))
  exact ⟨o', inB b o' q' (Nat.ne_of_lt (Nat.lt_of_lt_of_le (Heap.lt_size q) hsz)) (I.notfr q nb)⟩
end
section
variable {X : Cx} {k : Nat} {f C : Addr} {fd : FuncData} {ps : List Str} {sp : Sp} {x : Str} {p cpos pos : Pos} {e : Expr} {es : List Expr} {t : TA}
theorem raise_made {M : Model} {A : Around} {env : Env} {EE : Value → Shared → Prop} {s : Shared} {y : Sem Value} {Q : Flow → Shared → Prop} (K : W.Frag) (Z : XCls K C) (hh : A.handled = none)
  (h : wpAny M A y (fun v s₁ => ∃ z t sl od, v = .ref z ∧ K.In s₁.heap ∧ s₁.heap.get? z = some { cls := .ref C, dict := od, data := .fields #[.ref t, .none, .none, .none, .bool false, .none], slots := sl } ∧ EE (.ref z) s₁) EE s) :
  wpAny M A (raiseStmt env (some y) none) Q EE s := by
 unfold raiseStmt
 refine wpAny_bind (wpAny_mono h (fun v s₁ h₁ => ?_) fun _ _ x => x)
 obtain ⟨z, t, sl, od, rfl, KX, he, hE⟩ := h₁
 obtain ⟨bm, Nn, nm, qn, bs, hdct, sn, sub', ab, col, dd, k0, k1, k2, k3, k5, hC, hT⟩ := Z.ob KX
 have hcB : (Value.ref C :: bm).contains (.type "BaseException") = true := by rw [List.contains_cons, hT.hasType (b := true) (by decide +kernel), Bool.or_true]
 obtain ⟨hp, g, d, tk, os⟩ := s₁
 repeat (first | with_reducible refine wpAny_loadPart_at he ?_ | with_reducible refine wpAny_loadPart_at hC ?_ | (with_reducible refine wpAny_isSubtype_exc hC ?_; rw [hcB]) | wp_step)
 exact wpAny_raiseNew_none hh hE
def tRaiseX (C : Addr) (sp : Sp) (T : Value → Option Addr → Hp → Prop) (t : TA) : TS := fun _ σ H => t σ H fun vs H1 => vs.length ≤ sizeLine ∧ ∀ z, H1 z = none →
 sp (.ref z :: vs) (upd H1 z (excN z C none)) (fun v H2 => v = .non ∧ ∃ od, H2 z = some (excN z C od) ∧ T (.ref C) od (del H2 z)) E0
theorem ps_raiseX {T : Value → Option Addr → Hp → Prop} (Th : ThrowsN X T) (hc : X.calm = true) (M : XMk X.K C f) (F : FnOk X.prog X.w X.K X.mg X.base CX0 k f fd ps sp) (hr : Room (k + 1) X.A) (hg : Gl X x) (hm : X.mg x = some (.ref C)) (hb : Binds X.K fd ps [])
  (ha : PA X (e :: es) t) (hdb : (x == ("__debug__" : Str)) = false := by decide) (he : starEach (e :: es) X.env = (false, eval e X.env) :: starEach es X.env := by rfl) (hpl : (backTo cpos (starEach es X.env)).any (·.1) = false := by rfl) :
  PS X (.Raise (some (.Call (.Name x p) (e :: es) [] cpos)) none pos) (tRaiseX C sp T t) := by
 intro pins s σ H D I h
 rw [arm_exec_Raise]
 refine wpAny_bind (wpAny_standAt (raise_made X.K M.cls (I.ok.hd hc) (wpAny_bind (wpAny_mono (Q := fun v s₁ => ∃ z t sl od, v = .ref z ∧ X.K.In s₁.heap ∧ s₁.heap.get? z = some { cls := .ref C, dict := od, data := .fields #[.ref t, .none, .none, .none, .bool false, .none], slots := sl } ∧ X.xe (.ref z) s₁) ?_ (fun v s₁ q => wpAny_bind (wpAny_standAt (wpAny_pure q))) fun _ _ q => q))))
 refine wpAny_Call_Name_kw (ld_glob I hg hm ?_ hdb)
 refine W.callWith_K (h₀ := X.base) I.ok.mod.kin M.kp (thn (ha cpos pins s σ H _ I h) fun us s1 ⟨vs, H1, I1, r, hz, q⟩ => ⟨I1.kIn, ?_⟩) he hpl
 refine thn (run_makeX (Q := fun z H2 => ∃ od, H2 z = some (excN z C od) ∧ T (.ref C) od (del H2 z)) M F hr hb I1 r (show us.length ≤ sizeLine by rw [← r.length]; exact hz) fun z _ hz => q z hz) fun u s2 ⟨z, hsz, hu, v, H2, I2, rv, ev, q2⟩ => ?_
 ·obtain ⟨od, hx, hT⟩ := q2
  obtain ⟨⟨t0, sl, e0⟩, _⟩ := I2.hok z _ hx
  exact ⟨z, t0, sl, od, hu, I2.kIn, e0, Th pins σ H2 s2 z C od I2 hx (Nat.le_trans I1.sz hsz) hT⟩
end
end L2
namespace L2
open PySem PySem.Spec PyProof.Rows
section
variable {X : Cx} {CX : CXT} {k : Nat} {f C : Addr} {fd : FuncData} {ps ks : List Str} {sp : Sp} {dvs : List V} {ds : List Value} {E : XK} {x m : Str} {p pos apos : Pos} {e o : Expr} {es : List Expr} {kws : List Keyword} {ta : TE} {t tk : TA}
 {g : List Value → List Value → List Value} {gV : List V → List V → List V}
theorem run_fnx {pins : List (Addr × Obj)} {σ : St} {H : Hp} {s : Shared} {Q : VK} {us : List Value} {vs : List V} (F : FnOk X.prog X.w X.K X.mg X.base (CX1 X.prog X.w) k f fd ps sp) (hr : Room k X.A) (hb : Binds X.K fd ps ds) (hd : Vals dvs ds)
  (I : Inv X pins σ H s) (r : Vals vs us) (h : sp (vs ++ dvs) H Q E) : wpAny (model X.prog X.w) X.A (call (.ref f) us) (EP X pins σ Q) (fun e' s' => ∃ H1 s1, Inv X pins σ H1 s1 ∧ CX1 X.prog X.w X.stack H1 s1 E e' s') s := by
 have r2 : Vals (vs ++ dvs) (us ++ ds) := r.append hd
 have hl : (us ++ ds).length = ps.length := by rw [← r2.length]; exact F.len _ _ _ _ h
 refine wpAny_call (codeAny_mono (F.run X.A X.stack s H ⟨us, []⟩ (us ++ ds) (vs ++ dvs) Q E hr I.env0 (hb s us I.kIn hl) r2 h) fun r s' hq => ?_)
 cases r with
 | error e => exact ⟨H, s, I, hq⟩
 | ok fl =>
  cases fl with
  | ret u => exact I.after hq
  | next => exact False.elim hq
  | brk => exact False.elim hq
  | cont => exact False.elim hq
theorem run_fnkx {pins : List (Addr × Obj)} {σ : St} {H : Hp} {s : Shared} {Q : VK} {us ws : List Value} {vs zs : List V} (F : FnOk X.prog X.w X.K X.mg X.base (CX1 X.prog X.w) k f fd ps sp) (hr : Room k X.A) (hb : KBinds X.K fd ps ks g gV)
  (I : Inv X pins σ H s) (r : Vals vs us) (rz : Vals zs ws) (h : sp (gV vs zs) H Q E) : wpAny (model X.prog X.w) X.A (call (.ref f) us (ks.zip ws)) (EP X pins σ Q) (fun e' s' => ∃ H1 s1, Inv X pins σ H1 s1 ∧ CX1 X.prog X.w X.stack H1 s1 E e' s') s := by
 have r2 := hb.rel r rz
 have hl : (g us ws).length = ps.length := by rw [← r2.length]; exact F.len _ _ _ _ h
 refine wpAny_call (codeAny_mono (F.run X.A X.stack s H ⟨us, ks.zip ws⟩ (g us ws) (gV vs zs) Q E hr I.env0 (hb.to s us ws I.kIn hl) r2 h) fun r s' hq => ?_)
 cases r with
 | error e => exact ⟨H, s, I, hq⟩
 | ok fl =>
  cases fl with
  | ret u => exact I.after hq
  | next => exact False.elim hq
  | brk => exact False.elim hq
  | cont => exact False.elim hq
def tMethX (C : Addr) (m : Str) (sp : Sp) (dvs : List V) (ta : TE) (t : TA) : TEX := fun σ H Q E => ta σ H fun x H1 => ∃ a dx fs, x = .ref a ∧ H1 a = some (.ins C dx fs) ∧ fs.lookup m = none ∧ t σ H1 fun vs H2 => sp (x :: (vs ++ dvs)) H2 Q E
def tMethKX (C : Addr) (m : Str) (sp : Sp) (gV : List V → List V → List V) (ta : TE) (t tk : TA) : TEX := fun σ H Q E => ta σ H fun x H1 => ∃ a dx fs, x = .ref a ∧ H1 a = some (.ins C dx fs) ∧ fs.lookup m = none ∧ t σ H1 fun vs H2 => tk σ H2 fun zs H3 => sp (gV (x :: vs) zs) H3 Q E
theorem pex_meth {pl : Sem Bool} (he : PE X.nox o ta) (c : Cls X.K C) (hm : Meth X.K C m f) (F : FnOk X.prog X.w X.K X.mg X.base (CX1 X.prog X.w) k f fd ps sp) (hr : Room k X.A) (hb : Binds X.K fd ps ds) (hd : Vals dvs ds) (ha : PA X.nox (e :: es) t)
  (hst : starEach (e :: es) X.env = (false, eval e X.env) :: starEach es X.env := by rfl) (hpl : (backTo pos (starEach es X.env)).any (·.1) = false := by rfl)
  (ht : eval (.Call (.Attribute o m apos) (e :: es) [] pos) X.env = (do
   let ov ← eval o X.env
   standAt apos.atName
   let (f, first) ← holding [ov] (getMethod ov m pl)
   callWith pos f first (backTo pos (starEach (e :: es) X.env)) (backToKw pos (keywordEach [] X.env))) := by rfl) :
  PEx X (.Call (.Attribute o m apos) (e :: es) [] pos) (tMethX C m sp dvs ta t) := by
 intro pins s σ H Q E I h
 refine W.methodCall_KW (pl := pl) (wpAny_mono (he pins s σ H _ (I.wish _) h) (fun u s1 ⟨x, H1, I1', rx, a, dx, fs, ex, ea, l, q⟩ => ?_) fun _ _ z => False.elim z) ht
 subst ex
 obtain rfl : u = Value.ref a := rx
 have I1 : Inv X pins σ H1 s1 := I1'.unwish
 refine getmeth_ok I1 ea c hm l ?_
 refine W.callWith_K (first := [.ref a]) (h₀ := X.base) I.ok.mod.kin hm.kp (wpAny_mono (ha pos pins s1 σ H1 _ (I1.wish _) q) (fun us s2 ⟨vs, H2, I2', r, q2⟩ => ?_) fun _ _ z => False.elim z) hst hpl
 have I2 : Inv X pins σ H2 s2 := I2'.unwish
 exact ⟨I2.kIn, run_fnx (us := .ref a :: us) (vs := .ref a :: vs) F hr hb hd I2 (.cons rfl r) q2⟩
theorem pex_methK {pl : Sem Bool} (he : PE X.nox o ta) (c : Cls X.K C) (hm : Meth X.K C m f) (F : FnOk X.prog X.w X.K X.mg X.base (CX1 X.prog X.w) k f fd ps sp) (hr : Room k X.A) (hb : KBinds X.K fd ps ks g gV) (ha : PA X.nox (e :: es) t) (hkw : PK X.nox kws tk)
  (hall : (backToKw pos (keywordEach kws X.env)).all (·.1.isSome) = true := by rfl) (hks : (backToKw pos (keywordEach kws X.env)).filterMap (·.1) = ks := by rfl)
  (hst : starEach (e :: es) X.env = (false, eval e X.env) :: starEach es X.env := by rfl) (hpl : ((backTo pos (starEach (e :: es) X.env)).any (·.1) || (backToKw pos (keywordEach kws X.env)).any (·.1.isNone)) = false := by rfl)
  (ht : eval (.Call (.Attribute o m apos) (e :: es) kws pos) X.env = (do
   let ov ← eval o X.env
   standAt apos.atName
   let (f, first) ← holding [ov] (getMethod ov m pl)
   callWith pos f first (backTo pos (starEach (e :: es) X.env)) (backToKw pos (keywordEach kws X.env))) := by rfl) :
  PEx X (.Call (.Attribute o m apos) (e :: es) kws pos) (tMethKX C m sp gV ta t tk) := by
 intro pins s σ H Q E I h
 refine W.methodCall_KW (pl := pl) (wpAny_mono (he pins s σ H _ (I.wish _) h) (fun u s1 ⟨x, H1, I1', rx, a, dx, fs, ex, ea, l, q⟩ => ?_) fun _ _ z => False.elim z) ht
 subst ex
 obtain rfl : u = Value.ref a := rx
 have I1 : Inv X pins σ H1 s1 := I1'.unwish
 refine getmeth_ok I1 ea c hm l ?_
 refine W.callWith_KW (first := [.ref a]) (h₀ := X.base) I.ok.mod.kin hm.kp hall (wpAny_mono (ha pos pins s1 σ H1 _ (I1.wish _) q) (fun us s2 ⟨vs, H2, I2', r, q2⟩ => ?_) fun _ _ z => False.elim z) hpl hst
 refine wpAny_mono (hkw pos pins s2 σ H2 _ I2' q2) (fun ws s3 ⟨zs, H3, I3', rz, q3⟩ => ?_) fun _ _ z => False.elim z
 have I3 : Inv X pins σ H3 s3 := I3'.unwish
 refine ⟨I3.kIn, ?_⟩
 rw [hks]
 exact run_fnkx (us := .ref a :: us) (vs := .ref a :: vs) F hr hb I3 (.cons rfl r) rz q3
theorem PEx.pe {te : TEX} (h : PEx X e te) (hx : Passes (CX1 X.prog X.w) X E) : PE X e (fun σ H Q => te σ H Q E) := fun pins s σ H Q I ht =>
 wpAny_mono (h pins s σ H Q E I ht) (fun _ _ z => z) fun e' s' ⟨H1, s1, I1, cx⟩ => hx pins σ H1 s1 e' s' I1 cx
theorem pex_methK0 {pl : Sem Bool} (he : PE X.nox o ta) (c : Cls X.K C) (hm : Meth X.K C m f) (F : FnOk X.prog X.w X.K X.mg X.base (CX1 X.prog X.w) k f fd ps sp) (hr : Room k X.A) (hb : KBinds X.K fd ps ks g gV) (hkw : PK X.nox kws tk)
  (hall : (backToKw pos (keywordEach kws X.env)).all (·.1.isSome) = true := by rfl) (hks : (backToKw pos (keywordEach kws X.env)).filterMap (·.1) = ks := by rfl)
  (hpl : ((backTo pos (starEach [] X.env)).any (·.1) || (backToKw pos (keywordEach kws X.env)).any (·.1.isNone)) = false := by rfl)
  (ht : eval (.Call (.Attribute o m apos) [] kws pos) X.env = (do
   let ov ← eval o X.env
   standAt apos.atName
   let (f, first) ← holding [ov] (getMethod ov m pl)
   callWith pos f first (backTo pos (starEach [] X.env)) (backToKw pos (keywordEach kws X.env))) := by rfl) :
  PEx X (.Call (.Attribute o m apos) [] kws pos) (tMethKX C m sp gV ta tNil tk) := by
 intro pins s σ H Q E I h
 refine W.methodCall_KW (pl := pl) (wpAny_mono (he pins s σ H _ (I.wish _) h) (fun u s1 ⟨x, H1, I1', rx, a, dx, fs, ex, ea, l, q⟩ => ?_) fun _ _ z => False.elim z) ht
 subst ex
 obtain rfl : u = Value.ref a := rx
 have I1 : Inv X pins σ H1 s1 := I1'.unwish
 refine getmeth_ok I1 ea c hm l ?_
 refine W.callWith_KW0 (first := [.ref a]) (h₀ := X.base) I.ok.mod.kin hm.kp hall (wpAny_mono (hkw pos pins s1 σ H1 _ (I1.wish _) q) (fun ws s3 ⟨zs, H3, I3', rz, q3⟩ => ?_) fun _ _ z => False.elim z) hpl
 have I3 : Inv X pins σ H3 s3 := I3'.unwish
 refine ⟨I3.kIn, ?_⟩
 rw [hks]
 exact run_fnkx (us := [.ref a]) (vs := [.ref a]) F hr hb I3 (.cons rfl .nil) rz q3
theorem pex_meth0 {pl : Sem Bool} (he : PE X.nox o ta) (c : Cls X.K C) (hm : Meth X.K C m f) (F : FnOk X.prog X.w X.K X.mg X.base (CX1 X.prog X.w) k f fd ps sp) (hr : Room k X.A) (hb : Binds X.K fd ps ds) (hd : Vals dvs ds)
  (ht : eval (.Call (.Attribute o m apos) [] [] pos) X.env = (do
   let ov ← eval o X.env
   standAt apos.atName
   let (f, first) ← holding [ov] (getMethod ov m pl)
   callWith pos f first (backTo pos (starEach [] X.env)) (backToKw pos (keywordEach [] X.env))) := by rfl) :
  PEx X (.Call (.Attribute o m apos) [] [] pos) (tMethX C m sp dvs ta tNil) := by
 intro pins s σ H Q E I h
 refine W.methodCall_KW (pl := pl) (wpAny_mono (he pins s σ H _ (I.wish _) h) (fun u s1 ⟨x, H1, I1', rx, a, dx, fs, ex, ea, l, q⟩ => ?_) fun _ _ z => False.elim z) ht
 subst ex
 obtain rfl : u = Value.ref a := rx
 have I1 : Inv X pins σ H1 s1 := I1'.unwish
 refine getmeth_ok I1 ea c hm l ?_
 exact W.callWith_K0 (first := [.ref a]) I1.kIn hm.kp (run_fnx (us := [.ref a]) (vs := [.ref a]) F hr hb hd I1 (.cons rfl .nil) q)
end
end L2
namespace L2
open PySem PySem.Spec PyProof.Rows
def D0 (x y : V) : Prop := x = y ∧ okV x = true
def D1 (H : Hp) (x y : V) : Prop := D0 x y ∨ ∃ p q xs ys, x = .ref p ∧ y = .ref q ∧ H p = some (.tup xs) ∧ H q = some (.tup ys) ∧ Paired D0 xs ys
def D2 (H : Hp) (x y : V) : Prop := D1 H x y ∨ ∃ p q xs ys, x = .ref p ∧ y = .ref q ∧ H p = some (.tup xs) ∧ H q = some (.tup ys) ∧ Paired (D1 H) xs ys
theorem D1.on {H H' : Hp} (t : Tups H H') {x y : V} (h : D1 H x y) : D1 H' x y := by
 rcases h with h | ⟨p, q, xs, ys, e1, e2, h1, h2, h3⟩
 ·exact .inl h
 ·exact .inr ⟨p, q, xs, ys, e1, e2, t _ _ h1, t _ _ h2, h3⟩
theorem D2.on {H H' : Hp} (t : Tups H H') {x y : V} (h : D2 H x y) : D2 H' x y := by
 rcases h with h | ⟨p, q, xs, ys, e1, e2, h1, h2, h3⟩
 ·exact .inl (h.on t)
 ·exact .inr ⟨p, q, xs, ys, e1, e2, t _ _ h1, t _ _ h2, Paired.mono (fun _ _ q => D1.on t q) h3⟩
theorem paired_at {A : Around} {s : Shared} {F : V → V → Prop} (hF : ∀ x y u v, F x y → RelV x u → RelV y v → SeqAt.EqAt A s u v true) {xs ys : List V} {us ws : List Value} (p : Paired F xs ys) (r : Vals xs us) (q : Vals ys ws) :
  ∀ j (h1 : j < us.toArray.size) (h2 : j < ws.toArray.size), SeqAt.EqAt A s us.toArray[j] ws.toArray[j] ((fun _ => true) j) := fun j h1 h2 => by
 have l1 := r.length
 have l2 := Paired.length p
 have j1 : j < us.length := by simpa using h1
 have j2 : j < ws.length := by simpa using h2
 have k1 : j < xs.length := by omega
 obtain ⟨y, ey, fy⟩ := paired_get p (i := j) (x := xs[j]) (by simp [k1])
 obtain ⟨u, e1, r1⟩ := r.get (i := j) (x := xs[j]) (by simp [k1])
 obtain ⟨v, e2, r2⟩ := q.get (i := j) ey
 have eu : us.toArray[j] = u := by
  have z : us[j]? = some us[j] := by simp [j1]
  rw [z] at e1
  simpa using e1
 have ev : ws.toArray[j] = v := by
  have z : ws[j]? = some ws[j] := by simp [j2]
  rw [z] at e2
  simpa using e2
 rw [eu, ev]
 exact hF _ _ _ _ fy r1 r2
section
variable {X : Cx} {pins : List (Addr × Obj)} {σ : St} {H : Hp} {s : Shared} {A : Around}
theorem tup_at {F : V → V → Prop} (I : Inv X pins σ H s) (hu : A.units < cLine) (hF : ∀ x y u v, F x y → RelV x u → RelV y v → SeqAt.EqAt A.in1 s u v true) {p q : Addr} {xs ys : List V} (h1 : H p = some (.tup xs)) (h2 : H q = some (.tup ys)) (h3 : Paired F xs ys) : SeqAt.EqAt A s (.ref p) (.ref q) true := by
 by_cases e : p = q
 ·subst e
  exact SeqAt.EqAt.same _
 ·obtain ⟨its, r1, t1, _⟩ := I.tuple (SqT.of (K := X.K) h1)
  obtain ⟨its2, r2, t2, _⟩ := I.tuple (SqT.of (K := X.K) h2)
  have l1 := r1.length
  have l2 := r2.length
  have l3 := Paired.length h3
  have key := SeqAt.RcAt.tuples (A := A) (e := fun _ => true) t1 t2 hu (paired_at (A := A.in1) hF h3 r1 r2)
  refine SeqAt.EqAt.of_refs e ?_
  have z : ((List.range (min its.toArray.size its2.toArray.size)).all (fun _ => true) && its.toArray.size == its2.toArray.size) = true := by
   rw [Bool.and_eq_true]
   exact ⟨List.all_eq_true.mpr fun _ _ => rfl, beq_iff_eq.mpr (by simp only [List.size_toArray]; omega)⟩
  rw [z] at key
  exact key
theorem d0_at {x y : V} {u v : Value} (h : D0 x y) (r : RelV x u) (q : RelV y v) : SeqAt.EqAt A s u v true := by
 obtain ⟨e, o⟩ := h
 subst e
 exact eqAt_ok r q o
theorem d1_at (I : Inv X pins σ H s) (hu : A.units < cLine) {x y : V} {u v : Value} (h : D1 H x y) (r : RelV x u) (q : RelV y v) : SeqAt.EqAt A s u v true := by
 rcases h with h | ⟨a, b, xs, ys, rfl, rfl, h1, h2, h3⟩
 ·exact d0_at h r q
 ·cases r
  cases q
  exact tup_at I hu (fun _ _ _ _ f a b => d0_at f a b) h1 h2 h3
theorem d2_at (I : Inv X pins σ H s) (hu : A.units < cLine) (hu' : A.in1.units < cLine) {x y : V} {u v : Value} (h : D2 H x y) (r : RelV x u) (q : RelV y v) : SeqAt.EqAt A s u v true := by
 rcases h with h | ⟨a, b, xs, ys, rfl, rfl, h1, h2, h3⟩
 ·exact d1_at I hu h r q
 ·cases r
  cases q
  exact tup_at I hu (fun _ _ _ _ f a b => d1_at (A := A.in1) I hu' f a b) h1 h2 h3
end
section
variable {X : Cx}
def rNeD (K : W.Frag) : R2 := fun x y H Q => ∃ a b xs ys, x = .ref a ∧ y = .ref b ∧ SqL K H a xs ∧ SqL K H b ys ∧ Paired (D2 H) xs ys ∧ Q (.bl false) H
theorem op_neD (hu : X.A.units < cLine) (hu1 : X.A.in1.units < cLine) (hu2 : X.A.in1.in1.units < cLine) : OpR X (compareOp .NotEq) (rNeD X.K) := by
 intro pins s σ H x y v u Q I rx ry h
 obtain ⟨a, b, xs, ys, rfl, rfl, ha, hb, f, q⟩ := h
 cases rx
 cases ry
 obtain ⟨its, r1, p1, _⟩ := I.list ha
 obtain ⟨its2, r2, p2, _⟩ := I.list hb
 have l1 := r1.length
 have l2 := r2.length
 have l3 := Paired.length f
 refine SeqAt.RcNeAt.lists p1.isList p2.isList (by simp only [List.size_toArray]; omega) hu (paired_at (A := X.A.in1) (fun _ _ _ _ f a b => d2_at I hu1 hu2 f a b) f r1 r2) X.prog X.w _ _ ?_
 have e : (!(List.range its.toArray.size).all (fun _ => true)) = false := by simp
 rw [e]
 exact ⟨.bl _, H, I, rfl, q⟩
def rSlS : V → Option Int → Option Int → Hp → VK → Prop := fun x lo hi H Q => ∃ z : Str, x = .str z ∧ z.length ≤ sizeLine ∧ Q (.str (Txt.slice z lo hi)) H
theorem part_of {v : Value} {o : Option Int} (h : PySem.IsPart v o) : ∃ p : Option (Int × Tok), v = partValue p ∧ p.map (·.1) = o := by
 cases h with
 | none => exact ⟨none, rfl, rfl⟩
 | int i t => exact ⟨some (i, t), rfl, rfl⟩
theorem sl_str : SlR X rSlS := by
 intro pins s σ H x v vl vu lo hi sl Q I rx hs pl pu h
 obtain ⟨z, rfl, hz, q⟩ := h
 obtain ⟨t, rfl⟩ := rx
 obtain ⟨p1, rfl, rfl⟩ := part_of pl
 obtain ⟨p2, rfl, rfl⟩ := part_of pu
 refine ⟨"str", _, PySem.F.slot_str_getitem.lookup, typeIs_str _ _ _, wpAny_getItem_str_slice (l := p1) (u := p2) (st := none) hs rfl ?_⟩
 exact PySem.post_val_or_str ⟨Nat.le_trans (Txt.slice_le z _ _) hz, fun t' k => ⟨.str _, H, I.tok _, ⟨t', rfl⟩, q⟩⟩
def Its (x : Str) : It := ⟨fun i _ => i < x.cps.size, fun i H v H' => H' = H ∧ ∃ c, x.cps[i]? = some c ∧ v = .str ⟨#[c]⟩, fun i _ => x.cps.size ≤ i⟩
theorem turn_str {P : Program} {w : World} {K : W.Frag} {tg : Expr} {it : Addr} {x : Str} {t : Tok} : Turn P w K tg (Its x) [it] it (fun i h => h.IsStrIter it "str_ascii_iterator" x t i) where
 mem := by simp
 obj := fun i h ⟨o1, e1, c1, d1⟩ c hc => by
  simp only [List.mem_cons, List.not_mem_nil, or_false] at hc
  subst hc
  exact ⟨_, e1, fun v z => by rw [d1] at z; cases z⟩
 keep := fun i h h' ⟨o1, e1, r⟩ k => ⟨o1, k it (by simp) _ e1, r⟩
 item := by
  intro X hP hw hK hc i pins s σ H E I hf q hg
  subst hP hw hK
  have hx : x.cps[i]? = some (x.cps[i]'hg) := Array.getElem?_eq_getElem hg
  refine wpAny_pyNext_ascii_item q hx fun h' q' hs' => ?_
  refine ⟨_, rfl, ?_⟩
  obtain ⟨o1, e1, c1, d1⟩ := id q'
  refine go_of e1 c1 d1 (by decide) ⟨.str ⟨#[x.cps[i]'hg]⟩, H, I.turnedL (t' := s.toks + 1) (fun c o hc z => ?_) hf, ⟨_, rfl⟩, ⟨rfl, _, hx, rfl⟩, q', fun b hb => (hf b hb).1⟩
  simp only [List.mem_cons, List.not_mem_nil, or_false] at hc
  exact hs'.extBut c o hc z
 done := by
  intro X hP hw hK hc i pins s σ H E I hf q hg
  subst hP hw hK
  have hg' : x.cps.size ≤ i := hg
  refine wpAny_pyNext_ascii_end (I.ok.hd hc) q (by simp; omega) fun h' hk => ⟨rfl, I.turnedL (t' := s.toks) (ch := [it]) (fun c o hc z => ?_) hf⟩
  simp only [List.mem_cons, List.not_mem_nil, or_false] at hc
  exact hk c o hc z
 self := fun _ _ _ _ _ st h => wpAny_pyIter_striter_ascii st h
def iStr (te : TE) : TI := fun σ H R => te σ H fun v H1 => ∃ x : Str, v = .str x ∧ x.cps.all (· < 128) = true ∧ R (Its x) H1
theorem pi_str {e tg : Expr} {te : TE} (he : PE X e te) : PI X tg e (iStr te) := by
 intro pins s σ H R I h
 refine thn (he pins s σ H _ I h) fun u s1 ⟨v, H1, I1, r1, x, ex, ha, q⟩ => ?_
 subst ex
 obtain ⟨t, rfl⟩ := r1
 refine wpAny_pyIter_ascii ha ?_
 refine ⟨_, [s1.heap.objs.size], _, _, H1, rfl, I1.kept (t' := s1.toks) (fun b o e => Heap.get?_push_of_some _ e), turn_str (x := x) (t := t), ⟨_, Heap.get?_push_size _ rfl, rfl, rfl⟩, fun b hb => ?_, q⟩
 simp only [List.mem_cons, List.not_mem_nil, or_false] at hb
 subst hb
 exact I1.fpOk (Nat.le_refl _) (I1.hok.fresh (Nat.le_refl _))
theorem comp_str {D : Addr} {x : Str} {idx : List Nat} {σ : St} {te : TE} {Q : VK} {H : Hp} (Pv : Nat → List V → Hp → Prop) (h0 : Pv 0 [] (upd H D (.lst [])))
  (hl : ∀ i ys H2, i ≤ x.cps.size → Pv i ys H2 → H2 D = some (.lst ys) ∧ ys.length < sizeLine)
  (hs : ∀ i c ys H2, x.cps[i]? = some c → Pv i ys H2 → te (some (.str ⟨#[c]⟩) :: pick idx σ) H2 fun y H4 => H4 D = some (.lst ys) ∧ Pv (i + 1) (ys ++ [y]) (upd H4 D (.lst (ys ++ [y])))) (hd : ∀ ys H2, Pv x.cps.size ys H2 → Q (.ref D) H2) :
  CompW (Its x) idx σ te D Q H := by
 refine ⟨fun i m ys H2 => m = x.cps.size - i ∧ i ≤ x.cps.size ∧ Pv i ys H2, ⟨x.cps.size, by simp, Nat.zero_le _, h0⟩, ?_⟩
 rintro i m ys H2 ⟨rfl, hi, p⟩
 obtain ⟨q2, q3⟩ := hl i ys H2 hi p
 refine ⟨q2, q3, ?_⟩
 by_cases hlt : i < x.cps.size
 ·refine .inr ⟨hlt, fun y H4 => H4 D = some (.lst ys) ∧ Pv (i + 1) (ys ++ [y]) (upd H4 D (.lst (ys ++ [y]))), fun z H4 q => ⟨q.1, x.cps.size - (i + 1), by omega, rfl, hlt, q.2⟩, fun v H3 y => ?_⟩
  obtain ⟨rfl, c, e, rfl⟩ := y
  exact hs i c ys _ e p
 ·have e : i = x.cps.size := by omega
  subst e
  exact .inl ⟨Nat.le_refl _, hd ys H2 p⟩
end
end L2
namespace L2
open PySem PySem.Spec PyProof.Rows
structure FunD (K : W.Frag) (x qual : Str) (st : Stmt) (f : Addr) (fd : FuncData) (Td : Addr) (ds : List Value) : Prop where
 ex : ∃ (oc : Value) (od : Option Addr) (kV doc pm : Value) (an : Option Addr) (cdv ct : Value) (osl : Array (Option Value)),
  fd = W.fnOf x qual (defArgs st) (defBody st) (defScope st) (.ref Td) kV doc pm an cdv ct ∧ K.lookup f = some ⟨oc, od, .func fd, osl⟩ ∧ W.codeIn K cdv qual = true
 kp : W.keepIn K (.ref f) = true
 df : ∃ o n, K.lookup Td = some o ∧ o.data = .seq ds.toArray n
section
variable {P : Program} {w : World} {K : W.Frag} {mg : Str → Option Value} {base : Heap}
theorem FunD.okX {x qual : Str} {st : Stmt} {f Td : Addr} {fd : FuncData} {ds : List Value} {N ps : List Str} {k : Nat} {sp : Sp} (F : FunD K x qual st f fd Td ds) (S : FnScope N ps (defScope st)) (len : ∀ vs H Q E, sp vs H Q E → vs.length = ps.length)
  (hbody : ∀ (cdv : Value) (A : Around) (outer : List Env) (s : Shared) (H : Hp) (vs : List V) (Q : VK) (E : XK), Room k (A.deeper (envOfC qual (defScope st) s.heap.objs.size f cdv)) → sp vs H Q E →
   ∃ t, PSs (cxOf (CX1 P w) P w K mg base N qual (defScope st) f cdv A outer s H E) (defBody st) t ∧ t { nx := fun _ H' => Q .non H', rt := Q } (start N vs) H) : FnOk P w K mg base (CX1 P w) (k + 1) f fd ps sp := by
 obtain ⟨oc, od, kV, doc, pm, an, cdv, ct, osl, rfl, lk, hcd⟩ := F.ex
 exact fn_of lk hcd S len fun A outer s H vs Q E hr hsp => hbody cdv A outer s H vs Q E hr hsp
theorem fund_mk {x qual : Str} {st : Stmt} {f Td : Addr} {oc : Value} {od an : Option Addr} {osl : Array (Option Value)} {kV doc pm cdv ct : Value} {ds : List Value} {o : Obj} {n : Nat}
  (l : K.lookup f = some ⟨oc, od, .func (W.fnOf x qual (defArgs st) (defBody st) (defScope st) (.ref Td) kV doc pm an cdv ct), osl⟩)
  (c : W.codeIn K cdv qual = true) (k : W.keepIn K (.ref f) = true) (d : K.lookup Td = some o) (hd : o.data = .seq ds.toArray n) : FunD K x qual st f (W.fnOf x qual (defArgs st) (defBody st) (defScope st) (.ref Td) kV doc pm an cdv ct) Td ds := ⟨⟨oc, od, kV, doc, pm, an, cdv, ct, osl, rfl, l, c⟩, k, o, n, d, hd⟩
def gK (us ws : List Value) : List Value := match ws with | [w] => us ++ [w] | _ => []
def gKV (us ws : List V) : List V := match ws with | [w] => us ++ [w] | _ => []
theorem gK_rel {vs : List V} {us : List Value} {zs : List V} {ws : List Value} (r : Vals vs us) (q : Vals zs ws) : Vals (gKV vs zs) (gK us ws) := by
 cases q with
 | nil => exact .nil
 | cons q1 q2 =>
  cases q2 with
  | nil => exact r.append (.cons q1 .nil)
  | cons _ _ => exact .nil
structure MethOk (P : Program) (w : World) (K : W.Frag) (mg : Str → Option Value) (base : Heap) (CX : CXT) (C : Addr) (m : Str) (k : Nat) (ps : List Str) (sp : Sp) : Prop where
 ex : ∃ f fd, Meth K C m f ∧ FnOk P w K mg base CX k f fd ps sp ∧ Binds K fd ps []
 cl : Cls K C
structure MethD (P : Program) (w : World) (K : W.Frag) (mg : Str → Option Value) (base : Heap) (CX : CXT) (C : Addr) (m : Str) (k : Nat) (ps : List Str) (dvs : List V) (kw : Str) (sp : Sp) : Prop where
 ex : ∃ f fd ds, Meth K C m f ∧ FnOk P w K mg base CX k f fd ps sp ∧ Binds K fd ps [] ∧ Binds K fd ps ds ∧ Vals dvs ds ∧ KBinds K fd ps [kw] gK gKV
 cl : Cls K C
structure MakeOk (P : Program) (w : World) (K : W.Frag) (mg : Str → Option Value) (base : Heap) (C : Addr) (k : Nat) (ps : List Str) (sp : Sp) : Prop where
 ex : ∃ f fd, Mk K C f ∧ FnOk P w K mg base CX0 k f fd ps sp ∧ Binds K fd ps []
structure MakeXOk (P : Program) (w : World) (K : W.Frag) (mg : Str → Option Value) (base : Heap) (C : Addr) (k : Nat) (ps : List Str) (sp : Sp) : Prop where
 ex : ∃ f fd, XMk K C f ∧ FnOk P w K mg base CX0 k f fd ps sp ∧ Binds K fd ps []
end
section
variable {X : Cx} {k : Nat} {C : Addr} {ps : List Str} {sp : Sp} {m kw : Str} {p pos apos kpos : Pos} {e o : Expr} {es : List Expr} {ta te : TE} {t : TA} {dvs : List V} {x : Str}
theorem pe_m0 {pl : Sem Bool} (D : MethOk X.prog X.w X.K X.mg X.base CX0 C m k ps sp) (hr : Room k X.A) (he : PE X o ta)
  (ht : eval (.Call (.Attribute o m apos) [] [] pos) X.env = (do
   let ov ← eval o X.env
   standAt apos.atName
   let (f, first) ← holding [ov] (getMethod ov m pl)
   callWith pos f first (backTo pos (starEach [] X.env)) (backToKw pos (keywordEach [] X.env))) := by rfl) :
  PE X (.Call (.Attribute o m apos) [] [] pos) (tMeth C m sp [] noX ta tNil) := by
 obtain ⟨⟨f, fd, hm, F, hb⟩, c⟩ := D
 exact pe_meth0 he c hm F hr hb .nil pass0 ht
theorem pxm {pl : Sem Bool} (D : MethOk X.prog X.w X.K X.mg X.base (CX1 X.prog X.w) C m k ps sp) (hr : Room k X.A) (he : PE X.nox o ta) (ha : PA X.nox (e :: es) t)
  (hst : starEach (e :: es) X.env = (false, eval e X.env) :: starEach es X.env := by rfl) (hpl : (backTo pos (starEach es X.env)).any (·.1) = false := by rfl)
  (ht : eval (.Call (.Attribute o m apos) (e :: es) [] pos) X.env = (do
   let ov ← eval o X.env
   standAt apos.atName
   let (f, first) ← holding [ov] (getMethod ov m pl)
   callWith pos f first (backTo pos (starEach (e :: es) X.env)) (backToKw pos (keywordEach [] X.env))) := by rfl) :
  PEx X (.Call (.Attribute o m apos) (e :: es) [] pos) (tMethX C m sp [] ta t) := by
 obtain ⟨⟨f, fd, hm, F, hb⟩, c⟩ := D
 exact pex_meth he c hm F hr hb .nil ha hst hpl ht
theorem pxd_all {pl : Sem Bool} (D : MethD X.prog X.w X.K X.mg X.base (CX1 X.prog X.w) C m k ps dvs kw sp) (hr : Room k X.A) (he : PE X.nox o ta) (ha : PA X.nox (e :: es) t)
  (hst : starEach (e :: es) X.env = (false, eval e X.env) :: starEach es X.env := by rfl) (hpl : (backTo pos (starEach es X.env)).any (·.1) = false := by rfl)
  (ht : eval (.Call (.Attribute o m apos) (e :: es) [] pos) X.env = (do
   let ov ← eval o X.env
   standAt apos.atName
   let (f, first) ← holding [ov] (getMethod ov m pl)
   callWith pos f first (backTo pos (starEach (e :: es) X.env)) (backToKw pos (keywordEach [] X.env))) := by rfl) :
  PEx X (.Call (.Attribute o m apos) (e :: es) [] pos) (tMethX C m sp [] ta t) := by
 obtain ⟨⟨f, fd, ds, hm, F, hb, hb2, hv, hk⟩, c⟩ := D
 exact pex_meth he c hm F hr hb .nil ha hst hpl ht
theorem pxd_def {pl : Sem Bool} (D : MethD X.prog X.w X.K X.mg X.base (CX1 X.prog X.w) C m k ps dvs kw sp) (hr : Room k X.A) (he : PE X.nox o ta) (ha : PA X.nox (e :: es) t)
  (hst : starEach (e :: es) X.env = (false, eval e X.env) :: starEach es X.env := by rfl) (hpl : (backTo pos (starEach es X.env)).any (·.1) = false := by rfl)
  (ht : eval (.Call (.Attribute o m apos) (e :: es) [] pos) X.env = (do
   let ov ← eval o X.env
   standAt apos.atName
   let (f, first) ← holding [ov] (getMethod ov m pl)
   callWith pos f first (backTo pos (starEach (e :: es) X.env)) (backToKw pos (keywordEach [] X.env))) := by rfl) :
  PEx X (.Call (.Attribute o m apos) (e :: es) [] pos) (tMethX C m sp dvs ta t) := by
 obtain ⟨⟨f, fd, ds, hm, F, hb, hb2, hv, hk⟩, c⟩ := D
 exact pex_meth he c hm F hr hb2 hv ha hst hpl ht
theorem pxd_def0 {pl : Sem Bool} (D : MethD X.prog X.w X.K X.mg X.base (CX1 X.prog X.w) C m k ps dvs kw sp) (hr : Room k X.A) (he : PE X.nox o ta)
  (ht : eval (.Call (.Attribute o m apos) [] [] pos) X.env = (do
   let ov ← eval o X.env
   standAt apos.atName
   let (f, first) ← holding [ov] (getMethod ov m pl)
   callWith pos f first (backTo pos (starEach [] X.env)) (backToKw pos (keywordEach [] X.env))) := by rfl) :
  PEx X (.Call (.Attribute o m apos) [] [] pos) (tMethX C m sp dvs ta tNil) := by
 obtain ⟨⟨f, fd, ds, hm, F, hb, hb2, hv, hk⟩, c⟩ := D
 exact pex_meth0 he c hm F hr hb2 hv ht
theorem pxd_kw {pl : Sem Bool} {v : Expr} {tv : TE} (D : MethD X.prog X.w X.K X.mg X.base (CX1 X.prog X.w) C m k ps dvs kw sp) (hr : Room k X.A) (he : PE X.nox o ta) (ha : PA X.nox (e :: es) t) (hv : PE X.nox v tv)
  (hall : (backToKw pos (keywordEach [⟨some kw, v, kpos⟩] X.env)).all (·.1.isSome) = true := by rfl) (hks : (backToKw pos (keywordEach [⟨some kw, v, kpos⟩] X.env)).filterMap (·.1) = [kw] := by rfl)
  (hst : starEach (e :: es) X.env = (false, eval e X.env) :: starEach es X.env := by rfl) (hpl : ((backTo pos (starEach (e :: es) X.env)).any (·.1) || (backToKw pos (keywordEach [⟨some kw, v, kpos⟩] X.env)).any (·.1.isNone)) = false := by rfl)
  (ht : eval (.Call (.Attribute o m apos) (e :: es) [⟨some kw, v, kpos⟩] pos) X.env = (do
   let ov ← eval o X.env
   standAt apos.atName
   let (f, first) ← holding [ov] (getMethod ov m pl)
   callWith pos f first (backTo pos (starEach (e :: es) X.env)) (backToKw pos (keywordEach [⟨some kw, v, kpos⟩] X.env))) := by rfl) :
  PEx X (.Call (.Attribute o m apos) (e :: es) [⟨some kw, v, kpos⟩] pos) (tMethKX C m sp gKV ta t (tCons tv tNil)) := by
 obtain ⟨⟨f, fd, ds, hm, F, hb, hb2, hv2, hk⟩, c⟩ := D
 exact pex_methK he c hm F hr hk ha (pk_cons hv pk_nil) hall hks hst hpl ht
theorem pxd_kw0 {pl : Sem Bool} {v : Expr} {tv : TE} (D : MethD X.prog X.w X.K X.mg X.base (CX1 X.prog X.w) C m k ps dvs kw sp) (hr : Room k X.A) (he : PE X.nox o ta) (hv : PE X.nox v tv)
  (hall : (backToKw pos (keywordEach [⟨some kw, v, kpos⟩] X.env)).all (·.1.isSome) = true := by rfl) (hks : (backToKw pos (keywordEach [⟨some kw, v, kpos⟩] X.env)).filterMap (·.1) = [kw] := by rfl)
  (hpl : ((backTo pos (starEach [] X.env)).any (·.1) || (backToKw pos (keywordEach [⟨some kw, v, kpos⟩] X.env)).any (·.1.isNone)) = false := by rfl)
  (ht : eval (.Call (.Attribute o m apos) [] [⟨some kw, v, kpos⟩] pos) X.env = (do
   let ov ← eval o X.env
   standAt apos.atName
   let (f, first) ← holding [ov] (getMethod ov m pl)
   callWith pos f first (backTo pos (starEach [] X.env)) (backToKw pos (keywordEach [⟨some kw, v, kpos⟩] X.env))) := by rfl) :
  PEx X (.Call (.Attribute o m apos) [] [⟨some kw, v, kpos⟩] pos) (tMethKX C m sp gKV ta tNil (tCons tv tNil)) := by
 obtain ⟨⟨f, fd, ds, hm, F, hb, hb2, hv2, hk⟩, c⟩ := D
 exact pex_methK0 he c hm F hr hk (pk_cons hv pk_nil) hall hks hpl ht
theorem pe_new0 (D : MakeOk X.prog X.w X.K X.mg X.base C k ps sp) (hr : Room (k + 1) X.A) (hg : Gl X x) (hm : X.mg x = some (.ref C)) (hdb : (x == ("__debug__" : Str)) = false := by decide) :
  PE X (.Call (.Name x p) [] [] pos) (tMake C sp [] noX tNil) := by
 obtain ⟨f, fd, M, F, hb⟩ := D.ex
 exact pe_make0 M F hr hg hm hb .nil pass0 hdb
theorem pe_newX (D : MakeXOk X.prog X.w X.K X.mg X.base C k ps sp) (hr : Room (k + 1) X.A) (hg : Gl X x) (hm : X.mg x = some (.ref C)) (ha : PA X (e :: es) t) (hdb : (x == ("__debug__" : Str)) = false := by decide)
  (he : starEach (e :: es) X.env = (false, eval e X.env) :: starEach es X.env := by rfl) (hpl : (backTo pos (starEach es X.env)).any (·.1) = false := by rfl) :
  PE X (.Call (.Name x p) (e :: es) [] pos) (tMakeX C sp t) := by
 obtain ⟨f, fd, M, F, hb⟩ := D.ex
 exact pe_makeX M F hr hg hm hb ha hdb he hpl
theorem ps_throwX {T : Value → Option Addr → Hp → Prop} {p2 : Pos} (Th : ThrowsN X T) (hc : X.calm = true) (D : MakeXOk X.prog X.w X.K X.mg X.base C k ps sp) (hr : Room (k + 1) X.A) (hg : Gl X x) (hm : X.mg x = some (.ref C)) (ha : PA X (e :: es) t) (hdb : (x == ("__debug__" : Str)) = false := by decide)
  (he : starEach (e :: es) X.env = (false, eval e X.env) :: starEach es X.env := by rfl) (hpl : (backTo pos (starEach es X.env)).any (·.1) = false := by rfl) :
  PS X (.Raise (some (.Call (.Name x p) (e :: es) [] pos)) none p2) (tRaiseX C sp T t) := by
 obtain ⟨f, fd, M, F, hb⟩ := D.ex
 exact ps_raiseX Th hc M F hr hg hm hb ha hdb he hpl
end
end L2
namespace L2
open PySem PySem.Spec PyProof.Rows
section
variable {K : W.Frag} {x qual : Str} {st : Stmt} {f Td : Addr} {fd : FuncData} {ds : List Value} {ps : List Str} {kw : Str}
theorem FunD.binds (F : FunD K x qual st f fd Td ds)
  (h : ∀ (kV doc pm : Value) (an : Option Addr) (cdv ct : Value) (us : List Value), us.length = ps.length → ∃ k, bindArgs (W.fnOf x qual (defArgs st) (defBody st) (defScope st) (.ref Td) kV doc pm an cdv ct) ⟨us, []⟩ = seqItems? (.ref Td) >>= k ∧ k (some ds.toArray) = pure (ps.zip us)) : Binds K fd ps [] := by
 obtain ⟨oc, od, kV, doc, pm, an, cdv, ct, osl, rfl, lk, hcd⟩ := F.ex
 obtain ⟨o, n, ho, hd⟩ := F.df
 intro s us X hl
 rw [List.append_nil] at hl ⊢
 obtain ⟨k, h1, h2⟩ := h kV doc pm an cdv ct us hl
 exact W.binds_K X rfl ho hd h1 h2
theorem FunD.bindsD (F : FunD K x qual st f fd Td ds) (h1d : ds.length = 1)
  (h : ∀ (kV doc pm : Value) (an : Option Addr) (cdv ct : Value) (us : List Value), us.length + 1 = ps.length → ∃ k, bindArgs (W.fnOf x qual (defArgs st) (defBody st) (defScope st) (.ref Td) kV doc pm an cdv ct) ⟨us, []⟩ = seqItems? (.ref Td) >>= k ∧ k (some ds.toArray) = pure (ps.zip (us ++ ds))) : Binds K fd ps ds := by
 obtain ⟨oc, od, kV, doc, pm, an, cdv, ct, osl, rfl, lk, hcd⟩ := F.ex
 obtain ⟨o, n, ho, hd⟩ := F.df
 intro s us X hl
 obtain ⟨k, h1, h2⟩ := h kV doc pm an cdv ct us (by rw [List.length_append, h1d] at hl; exact hl)
 exact W.binds_K X rfl ho hd h1 h2
theorem FunD.bindsK (F : FunD K x qual st f fd Td ds) (hp : ps ≠ [])
  (h : ∀ (kV doc pm : Value) (an : Option Addr) (cdv ct : Value) (us : List Value) (v : Value), us.length + 1 = ps.length → ∃ k, bindArgs (W.fnOf x qual (defArgs st) (defBody st) (defScope st) (.ref Td) kV doc pm an cdv ct) ⟨us, [(kw, v)]⟩ = seqItems? (.ref Td) >>= k ∧ k (some ds.toArray) = pure (ps.zip (us ++ [v]))) : KBinds K fd ps [kw] gK gKV := by
 obtain ⟨oc, od, kV, doc, pm, an, cdv, ct, osl, rfl, lk, hcd⟩ := F.ex
 obtain ⟨o, n, ho, hd⟩ := F.df
 refine ⟨fun s us ws X hl => ?_, fun r q => gK_rel r q⟩
 match ws, hl with
 | [v], hl =>
  have hl' : (us ++ [v]).length = ps.length := hl
  rw [List.length_append] at hl'
  obtain ⟨k, h1, h2⟩ := h kV doc pm an cdv ct us v hl'
  exact W.binds_K X rfl ho hd h1 h2
 | [], hl => exact absurd (List.eq_nil_of_length_eq_zero hl.symm) hp
 | _ :: _ :: _, hl => exact absurd (List.eq_nil_of_length_eq_zero hl.symm) hp
end
end L2
namespace L2
open PySem PySem.Spec PyProof.Rows
structure BOk (B : Nat) (b : Int × Int) : Prop where
 lo : 0 ≤ b.1
 hi : b.1 < b.2
 big : b.2.natAbs < 2 ^ B
theorem BOk.pos {B : Nat} {b : Int × Int} (h : BOk B b) : 0 < b.2 := by have := h.lo; have := h.hi; omega
def TogR (H : Hp) (p : Addr) (bs : List (Int × Int)) : Prop :=
 (∃ (pb pw : Addr) (x L : Int) (ws : List Int), H p = some (.tup [.str "beat", .ref pb, .ref pw]) ∧ H pb = some (.tup [.int x, .int L]) ∧ H pw = some (.lst (ws.map V.int)) ∧ KM.Tog bs x L ws ∧ L.natAbs < 2 ^ 4000 ∧ ∀ w ∈ ws, w.natAbs < 2 ^ 1000000) ∨
 (∃ (i j : Nat) (d : Int), H p = some (.tup [.str "clash", .int i, .int j, .int d]) ∧ KM.Apart bs i j d)
abbrev Bell := Str × Int × Int
def KvAt (H : Hp) (kv : Key × V) (b : Bell) : Prop := kv.1 = Sum.inr b.1 ∧ BtAt H kv.2 b.2
structure TwAt (C : Addr) (H : Hp) (t d : Addr) (bl : List Bell) : Prop where
 ob : ∃ dx, H t = some (.ins C dx [("hung", .ref d)])
 dc : ∃ kvs, H d = some (.dK kvs) ∧ Paired (KvAt H) kvs bl
 nd : (bl.map (·.1)).Nodup
theorem fl_hung (d : Addr) : ([("hung", V.ref d)] : List (Str × V)).lookup ("hung" : Str) = some (V.ref d) := by simp [List.lookup]
def Ch (A : List Addr) (H H' : Hp) : Prop := (∀ b o, H b = some o → b ∉ A → H' b = some o) ∧ Tups H H'
theorem Ch.same {A : List Addr} {H H' : Hp} (s : Same H H') : Ch A H H' := ⟨fun b o e _ => s b o e, s.tups⟩
theorem Ch.refl {A : List Addr} {H : Hp} : Ch A H H := Ch.same (Same.refl _)
theorem Ch.trans {A : List Addr} {H H1 H2 : Hp} (a : Ch A H H1) (b : Ch A H1 H2) : Ch A H H2 := ⟨fun c o e n => b.1 c o (a.1 c o e n) n, a.2.trans b.2⟩
theorem Ch.mono {A B : List Addr} {H H' : Hp} (a : Ch A H H') (h : ∀ x ∈ A, x ∈ B) : Ch B H H' := ⟨fun c o e n => a.1 c o e fun z => n (h c z), a.2⟩
theorem Ch.upd {A : List Addr} {H H' : Hp} {p : Addr} {o : HO} (a : Ch A H H') (hp : p ∈ A) (ht : ∀ xs, H' p ≠ some (.tup xs)) : Ch A H (L2.upd H' p o) := ⟨fun c u e n => by
 have q := a.1 c u e n
 rw [upd_ne (fun z : c = p => n (by rw [z]; exact hp))]; exact q, fun c xs e => by
 have q := a.2 c xs e
 rw [upd_ne (fun z : c = p => by rw [z] at q; exact ht xs q)]; exact q⟩
theorem KvAt.on {H H' : Hp} (t : Tups H H') {kv : Key × V} {b : Bell} (h : KvAt H kv b) : KvAt H' kv b := ⟨h.1, h.2.on t⟩
theorem TwAt.keep {C : Addr} {H H' : Hp} {t d : Addr} {bl : List Bell} {A : List Addr} (T : TwAt C H t d bl) (c : Ch A H H') (ht : t ∉ A) (hd : d ∉ A) : TwAt C H' t d bl := by
 obtain ⟨⟨dx, h1⟩, ⟨kvs, h2, h3⟩, h4⟩ := T
 exact ⟨⟨dx, c.1 _ _ h1 ht⟩, ⟨kvs, c.1 _ _ h2 hd, Paired.mono (fun _ _ q => q.on c.2) h3⟩, h4⟩
theorem kv_no {H : Hp} {n : Str} : ∀ {kvs : List (Key × V)} {bl : List Bell}, Paired (KvAt H) kvs bl → n ∉ bl.map (·.1) → valV kvs (Sum.inr n : Key) = none
 | _, _, .nil, _ => rfl
 | kv :: kvs, b :: bl, .cons h t, hn => by
  rw [valV_neg (fun z => hn (by rw [h.1] at z; have := Sum.inr.inj z; simp [this]))]
  exact kv_no t fun z => hn (by simp only [List.map_cons, List.mem_cons]; exact .inr z)
theorem kv_yes {H : Hp} : ∀ {kvs : List (Key × V)} {bl : List Bell} {i : Nat} {b : Bell}, Paired (KvAt H) kvs bl → (bl.map (·.1)).Nodup → bl[i]? = some b → ∃ v, valV kvs (Sum.inr b.1 : Key) = some v ∧ BtAt H v b.2
 | _, _, _, _, .nil, _, e => by simp at e
 | kv :: kvs, c :: bl, 0, b, .cons h t, nd, e => by
  simp at e
  subst e
  exact ⟨kv.2, valV_pos h.1, h.2⟩
 | kv :: kvs, c :: bl, i + 1, b, .cons h t, nd, e => by
  simp at e
  simp only [List.map_cons, List.nodup_cons] at nd
  obtain ⟨v, q1, q2⟩ := kv_yes t nd.2 e
  refine ⟨v, ?_, q2⟩
  rw [valV_neg (fun z => ?_)]
  ·exact q1
  ·rw [h.1] at z
   have z' := Sum.inr.inj z
   exact nd.1 (z' ▸ List.mem_map_of_mem (List.mem_of_getElem? e))
theorem kv_drop {H : Hp} {n : Str} : ∀ {kvs : List (Key × V)} {bl : List Bell}, Paired (KvAt H) kvs bl → Paired (KvAt H) (dropK kvs (Sum.inr n : Key)) (bl.filter fun b => decide (b.1 ≠ n))
 | _, _, .nil => .nil
 | kv :: kvs, b :: bl, .cons h t => by
  by_cases e : b.1 = n
  ·rw [dropK_pos (by rw [h.1, e]), List.filter_cons, if_neg (by simp [e])]
   exact kv_drop t
  ·rw [dropK_neg (fun z => e (by rw [h.1] at z; exact Sum.inr.inj z)), List.filter_cons, if_pos (by simp [e])]
   exact .cons h (kv_drop t)
theorem names_in {n : Str} {bl : List Bell} (h : n ∈ bl.map (·.1)) : ∃ (i : Nat) (b : Int × Int), bl[i]? = some (n, b) := by
 obtain ⟨b, hb, rfl⟩ := List.mem_map.mp h
 obtain ⟨i, hi⟩ := List.getElem?_of_mem hb
 exact ⟨i, b.2, hi⟩
theorem drop_at : ∀ {bl : List Bell} {i : Nat} {b : Bell}, (bl.map (·.1)).Nodup → bl[i]? = some b → (bl.filter fun c => decide (c.1 ≠ b.1)) = bl.eraseIdx i
 | [], _, _, _, e => by simp at e
 | c :: bl, 0, b, nd, e => by
  simp at e
  subst e
  simp only [List.map_cons, List.nodup_cons] at nd
  rw [List.filter_cons, if_neg (by simp), List.eraseIdx_cons_zero]
  refine List.filter_eq_self.mpr fun x hx => ?_
  simp only [ne_eq, decide_not, Bool.not_eq_true', decide_eq_false_iff_not]
  intro z
  exact nd.1 (z ▸ List.mem_map_of_mem hx)
 | c :: bl, i + 1, b, nd, e => by
  simp at e
  simp only [List.map_cons, List.nodup_cons] at nd
  have hne : c.1 ≠ b.1 := fun z => nd.1 (z ▸ List.mem_map_of_mem (List.mem_of_getElem? e))
  rw [List.filter_cons, if_pos (by simpa using hne), List.eraseIdx_cons_succ, drop_at nd.2 e]
def RwAt (H : Hp) (v : V) (b : Bell) : Prop := ∃ p q, v = .ref p ∧ H p = some (.tup [.str b.1, .ref q]) ∧ H q = some (.tup [.int b.2.1, .int b.2.2])
theorem RwAt.on {H H' : Hp} (t : Tups H H') {v : V} {b : Bell} (h : RwAt H v b) : RwAt H' v b := by
 obtain ⟨p, q, e, h1, h2⟩ := h
 exact ⟨p, q, e, t _ _ h1, t _ _ h2⟩
abbrev RwV (H : Hp) : List V → List Bell → Prop := Paired (RwAt H)
theorem rwv_on {H H' : Hp} {vs : List V} {bl : List Bell} (t : Tups H H') (h : RwV H vs bl) : RwV H' vs bl := Paired.mono (fun _ _ q => q.on t) h
theorem paired_erase {α β : Type} {F : α → β → Prop} : ∀ {xs : List α} {ys : List β} (i : Nat), Paired F xs ys → Paired F (xs.eraseIdx i) (ys.eraseIdx i)
 | _, _, _, .nil => .nil
 | _ :: _, _ :: _, 0, .cons _ t => t
 | _ :: _, _ :: _, i + 1, .cons h t => .cons h (paired_erase i t)
theorem paired_snoc {α β : Type} {F : α → β → Prop} {x : α} {y : β} : ∀ {xs : List α} {ys : List β}, Paired F xs ys → F x y → Paired F (xs ++ [x]) (ys ++ [y])
 | _, _, .nil, h => .cons h .nil
 | _ :: _, _ :: _, .cons a t, h => .cons a (paired_snoc t h)
def beatsOf (bl : List Bell) : List (Int × Int) := bl.map (·.2)
structure StAt (C : Addr) (H : Hp) (t d r c : Addr) (bl : List Bell) (cn : Nat) : Prop where
 tw : TwAt C H t d bl
 row : ∃ us, H r = some (.lst us) ∧ RwV H us bl
 cl : H c = some (.lst [.int (cn : Nat)])
 le : cn ≤ bl.length
 ap : ∀ (i j : Nat) (x y : Bell), i < j → j < cn → bl[i]? = some x → bl[j]? = some y → ¬ KM.Cl x.2 y.2
 bd : ∀ b ∈ bl, BOk 60 b.2 ∧ b.1.length ≤ 100
theorem StAt.keep {C : Addr} {H H' : Hp} {t d r c : Addr} {bl : List Bell} {cn : Nat} {A : List Addr} (S : StAt C H t d r c bl cn) (h : Ch A H H') (ht : t ∉ A) (hd : d ∉ A) (hr : r ∉ A) (hc : c ∉ A) : StAt C H' t d r c bl cn := by
 obtain ⟨us, h1, h2⟩ := S.row
 exact ⟨S.tw.keep h ht hd, ⟨us, h.1 _ _ h1 hr, rwv_on h.2 h2⟩, h.1 _ _ S.cl hc, S.le, S.ap, S.bd⟩
theorem StAt.rc {C : Addr} {H : Hp} {t d r c : Addr} {bl : List Bell} {cn : Nat} (S : StAt C H t d r c bl cn) : r ≠ c := fun z => by
 obtain ⟨us, h1, h2⟩ := S.row
 have h3 := S.cl
 rw [← z, h1] at h3
 cases h3
 cases h2 with
 | cons h _ =>
  obtain ⟨p, q, e, _⟩ := h
  cases e
def HeldAt (H : Hp) (A : List Addr) (v : V) : Prop := ∃ p f g xs ys, v = .ref p ∧ H p = some (.tup [.ref f, .ref g]) ∧ H f = some (.lst xs) ∧ H g = some (.lst ys) ∧ f ∉ A ∧ g ∉ A ∧ Paired (D2 H) xs ys
theorem HeldAt.on {H H' : Hp} {A : List Addr} {v : V} (h : HeldAt H A v) (c : Ch A H H') : HeldAt H' A v := by
 obtain ⟨p, f, g, xs, ys, e, h1, h2, h3, h4, h5, h6⟩ := h
 exact ⟨p, f, g, xs, ys, e, c.2 _ _ h1, c.1 _ _ h2 h4, c.1 _ _ h3 h5, h4, h5, Paired.mono (fun _ _ q => D2.on c.2 q) h6⟩
theorem apart_one {bs : List (Int × Int)} {i j i' j' : Nat} {d d' : Int} (a : KM.Apart bs i j d) (b : KM.Apart bs i' j' d') : i = i' ∧ j = j' ∧ d = d' := by
 have e1 : j = j' := by
  have hi := a.ij
  have hi' := b.ij
  have hj := a.jl
  have hj' := b.jl
  rcases Nat.lt_trichotomy j j' with h | h | h
  ·exact absurd (a.cl _ _ (List.getElem?_eq_getElem (by omega)) (List.getElem?_eq_getElem hj)).1 (b.no i j _ _ hi h (List.getElem?_eq_getElem (by omega)) (List.getElem?_eq_getElem hj))
  ·exact h
  ·exact absurd (b.cl _ _ (List.getElem?_eq_getElem (by omega)) (List.getElem?_eq_getElem hj')).1 (a.no i' j' _ _ hi' h (List.getElem?_eq_getElem (by omega)) (List.getElem?_eq_getElem hj'))
 subst e1
 have hj := a.jl
 have e2 : i = i' := by
  have hi := a.ij
  have hi' := b.ij
  rcases Nat.lt_trichotomy i i' with h | h | h
  ·exact absurd (a.cl _ _ (List.getElem?_eq_getElem (by omega)) (List.getElem?_eq_getElem hj)).1 (b.fst i _ _ h (List.getElem?_eq_getElem (by omega)) (List.getElem?_eq_getElem hj))
  ·exact h
  ·exact absurd (b.cl _ _ (List.getElem?_eq_getElem (by omega)) (List.getElem?_eq_getElem hj)).1 (a.fst i' _ _ h (List.getElem?_eq_getElem (by omega)) (List.getElem?_eq_getElem hj))
 subst e2
 have hi := a.ij
 refine ⟨rfl, rfl, ?_⟩
 rw [(a.cl _ _ (List.getElem?_eq_getElem (by omega)) (List.getElem?_eq_getElem hj)).2, (b.cl _ _ (List.getElem?_eq_getElem (by omega)) (List.getElem?_eq_getElem hj)).2]
end L2
namespace L2
open PySem PySem.Spec PyProof.Rows
theorem put_second {a b : V} : putF ("second" : Str) b [(("first" : Str), a)] = [(("first" : Str), a), (("second" : Str), b)] := by
 have h : ¬ (("first" : Str) = "second") := by decide +kernel
 show (if ("first" : Str) = "second" then [(("first" : Str), b)] else (("first" : Str), a) :: putF "second" b []) = [(("first" : Str), a), (("second" : Str), b)]
 rw [if_neg h]
 rfl
theorem put_divisor {a b c : V} : putF ("divisor" : Str) c [(("first" : Str), a), (("second" : Str), b)] = [(("first" : Str), a), (("second" : Str), b), (("divisor" : Str), c)] := by
 have h : ¬ (("first" : Str) = "divisor") := by decide +kernel
 have h' : ¬ (("second" : Str) = "divisor") := by decide +kernel
 show (if ("first" : Str) = "divisor" then [(("first" : Str), c), (("second" : Str), b)] else (("first" : Str), a) :: (if ("second" : Str) = "divisor" then [(("second" : Str), c)] else (("second" : Str), b) :: putF "divisor" c [])) = [(("first" : Str), a), (("second" : Str), b), (("divisor" : Str), c)]
 rw [if_neg h, if_neg h']
 rfl
theorem join_len {n : Str} (h : n.length ≤ 200) : (Str.empty ++ n).length ≤ sizeLine := by
 rw [strLen_append]
 exact len_ok (by show 0 + n.length ≤ 1000; omega)
theorem join_len2 {n m : Str} (h : n.length ≤ 200) (h2 : m.length ≤ 200) : (Str.empty ++ n ++ m).length ≤ sizeLine := by
 rw [strLen_append, strLen_append]
 exact len_ok (by show 0 + n.length + m.length ≤ 1000; omega)
theorem nd_erase {bl : List Bell} (nd : (bl.map (·.1)).Nodup) (i : Nat) : ((bl.eraseIdx i).map (·.1)).Nodup := (List.Sublist.map _ (List.eraseIdx_sublist ..)).nodup nd
end L2
namespace L2
open PySem PySem.Spec PyProof.Rows
theorem kv_bs {H : Hp} : ∀ {kvs : List (Key × V)} {bl : List Bell}, Paired (KvAt H) kvs bl → BsV H (kvs.map (·.2)) (beatsOf bl)
 | _, _, .nil => .nil
 | _ :: _, _ :: _, .cons h t => .cons h.2 (kv_bs t)
theorem kv_name {H : Hp} {kvs : List (Key × V)} {bl : List Bell} (h : Paired (KvAt H) kvs bl) {i : Nat} {x : Bell} (e : bl[i]? = some x) : atI (kvs.map fun p => kV p.1) (i : Nat) = some (.str x.1) := by
 obtain ⟨kv, ekv, hk, _⟩ := paired_getR h e
 refine atI_nat ?_
 rw [List.getElem?_map, ekv]
 show some (kV kv.1) = _
 rw [hk]
 rfl
end L2
namespace L2
open PySem PySem.Spec PyProof.Rows
abbrev letters : Str := "abcdefghijklmnopqrstuvwxyz"
theorem letters_ascii : letters.cps.all (· < 128) = true := by decide +kernel
theorem letter_at {k : Int} (h : 0 ≤ k ∧ k < 26) : ∃ ch, atI letters.cps.toList k = some ch := by
 have hl : letters.cps.toList.length = 26 := by decide +kernel
 obtain ⟨j, rfl⟩ : ∃ j : Nat, k = (j : Nat) := ⟨k.toNat, by omega⟩
 have hj : j < letters.cps.toList.length := by omega
 exact ⟨letters.cps.toList[j], atI_nat (List.getElem?_eq_getElem hj)⟩
structure NamesOk (ns : List Str) : Prop where
 many : 26 ≤ ns.length
 few : ns.length ≤ 40
 nd : (ns.take 26).Nodup
 len : ∀ n ∈ ns, n.length ≤ 100
theorem str_cancel {P S : Str} {a b : Nat} (h : P ++ (⟨#[a]⟩ : Str) ++ S = P ++ (⟨#[b]⟩ : Str) ++ S) : a = b := by
 have e : (P.cps ++ #[a] ++ S.cps) = (P.cps ++ #[b] ++ S.cps) := congrArg Str.cps h
 have e2 := congrArg Array.toList e
 simp only [Array.toList_append] at e2
 have e3 := List.append_cancel_right e2
 have e4 := List.append_cancel_left e3
 simpa using e4
theorem names_ok {P S : Str} (lP : P.length ≤ 19) (lS : S.length ≤ 19) : (letters.cps.toList.map fun ch => P ++ (⟨#[ch]⟩ : Str) ++ S).Nodup ∧ ∀ n ∈ letters.cps.toList.map (fun ch => P ++ (⟨#[ch]⟩ : Str) ++ S), n.length ≤ 39 := by
 refine ⟨?_, fun n hn => ?_⟩
 ·have hd : letters.cps.toList.Nodup := by decide +kernel
  exact (List.pairwise_map.mpr (hd.imp fun {a b} h z => h (str_cancel z)))
 ·obtain ⟨ch, _, rfl⟩ := List.mem_map.mp hn
  rw [strLen_append, strLen_append]
  show P.length + 1 + S.length ≤ 39
  omega
end L2
namespace L2
open PySem PySem.Spec PyProof.Rows
theorem in_names {n : Str} {bl : List Bell} : inV (.str n) (bl.map fun b => V.str b.1) = decide (n ∈ bl.map (·.1)) := by
 unfold inV
 rw [Bool.eq_iff_iff, List.any_eq_true, decide_eq_true_iff]
 constructor
 ·rintro ⟨v, hv, e⟩
  obtain ⟨b, hb, rfl⟩ := List.mem_map.mp hv
  have : b.1 = n := by simpa [eqV] using e
  exact this ▸ List.mem_map_of_mem hb
 ·intro h
  obtain ⟨b, hb, rfl⟩ := List.mem_map.mp h
  exact ⟨.str b.1, List.mem_map.mpr ⟨b, hb, rfl⟩, by simp [eqV]⟩
theorem nodup_le {α : Type} [DecidableEq α] : ∀ {l m : List α}, l.Nodup → (∀ x ∈ l, x ∈ m) → l.length ≤ m.length
 | [], _, _, _ => Nat.zero_le _
 | a :: l, m, h, k => by
  obtain ⟨h1, h2⟩ := List.nodup_cons.mp h
  have ha := k a (List.mem_cons_self ..)
  have ih := nodup_le (l := l) (m := m.erase a) h2 fun x hx => (List.mem_erase_of_ne (fun z : x = a => h1 (by rw [← z]; exact hx))).mpr (k x (List.mem_cons_of_mem _ hx))
  rw [List.length_erase_of_mem ha] at ih
  have := List.length_pos_of_mem ha
  rw [List.length_cons]
  omega
theorem new_name {ns : List Str} {bl : List Bell} (no : NamesOk ns) (hl : bl.length ≤ 13) : ∃ n, n ∈ ns ∧ n ∉ bl.map (·.1) := by
 refine Classical.byContradiction fun h => ?_
 have hsub : ∀ n ∈ ns.take 26, n ∈ bl.map (·.1) := fun n hn => Classical.byContradiction fun z => h ⟨n, List.mem_of_mem_take hn, z⟩
 have : (ns.take 26).length ≤ (bl.map (·.1)).length := nodup_le no.nd hsub
 rw [List.length_take, List.length_map] at this
 have := no.many
 omega
end L2
namespace L2
open PySem PySem.Spec PyProof.Rows
theorem lk_first {a b c : V} : ([(("first" : Str), a), (("second" : Str), b), (("divisor" : Str), c)]).lookup ("first" : Str) = some a := by simp [List.lookup]
theorem lk_second {a b c : V} : ([(("first" : Str), a), (("second" : Str), b), (("divisor" : Str), c)]).lookup ("second" : Str) = some b := by
 have h : (("second" : Str) == ("first" : Str)) = false := by decide +kernel
 simp [List.lookup, h]
theorem lk_divisor {a b c : V} : ([(("first" : Str), a), (("second" : Str), b), (("divisor" : Str), c)]).lookup ("divisor" : Str) = some c := by
 have h : (("divisor" : Str) == ("first" : Str)) = false := by decide +kernel
 have h' : (("divisor" : Str) == ("second" : Str)) = false := by decide +kernel
 simp [List.lookup, h, h']
theorem fl_no {m : Str} {d : Addr} (h : (m == ("hung" : Str)) = false) : ([(("hung" : Str), V.ref d)]).lookup m = none := by simp [List.lookup, h]
theorem fl_hang {d : Addr} : ([(("hung" : Str), V.ref d)]).lookup ("hang" : Str) = none := fl_no (by decide +kernel)
theorem fl_take {d : Addr} : ([(("hung" : Str), V.ref d)]).lookup ("take" : Str) = none := fl_no (by decide +kernel)
theorem fl_bells {d : Addr} : ([(("hung" : Str), V.ref d)]).lookup ("bells" : Str) = none := fl_no (by decide +kernel)
theorem fl_nt {d : Addr} : ([(("hung" : Str), V.ref d)]).lookup ("next_together" : Str) = none := fl_no (by decide +kernel)
theorem fl_na {d : Addr} : ([(("hung" : Str), V.ref d)]).lookup ("next_any" : Str) = none := fl_no (by decide +kernel)
end L2
namespace L2
open PySem PySem.Spec PyProof.Rows
def bnAt (bl : List Bell) (k : Nat) (n : Str) : Bool := match bl[k]? with
 | some b => decide (b.1 = n)
 | none => false
theorem bnAt_mem {bl : List Bell} {k : Nat} {n : Str} (h : bnAt bl k n = true) : n ∈ bl.map (·.1) := by
 unfold bnAt at h
 split at h
 ·rename_i b e
  have := of_decide_eq_true h
  exact this ▸ List.mem_map_of_mem (List.mem_of_getElem? e)
 ·cases h
theorem bnAt_only {bl : List Bell} (nd : (bl.map (·.1)).Nodup) {i : Nat} {n : Str} {b : Int × Int} (hb : bl[i]? = some (n, b)) (k : Nat) : bnAt bl k n = decide (k = i) := by
 rw [Bool.eq_iff_iff, decide_eq_true_iff]
 constructor
 ·intro h
  unfold bnAt at h
  split at h
  ·rename_i c e
   have hc : c.1 = n := of_decide_eq_true h
   have h1 := (List.getElem?_eq_some_iff.mp e).1
   have h2 := (List.getElem?_eq_some_iff.mp hb).1
   have e1 : (bl.map (·.1))[k]? = some n := by rw [List.getElem?_map, e]; simp [hc]
   have e2 : (bl.map (·.1))[i]? = some n := by rw [List.getElem?_map, hb]; rfl
   exact (List.getElem?_inj (by simpa using h1) nd).mp (e1.trans e2.symm)
  ·cases h
 ·rintro rfl
  unfold bnAt
  rw [hb]
  simp
theorem range_one : ∀ {n i : Nat}, i < n → (List.range n).filter (fun k => decide (k = i)) = [i]
 | 0, _, h => absurd h (Nat.not_lt_zero _)
 | n + 1, i, h => by
  rw [List.range_succ, List.filter_append]
  by_cases e : i = n
  ·subst e
   have : (List.range i).filter (fun k => decide (k = i)) = [] := List.filter_eq_nil_iff.mpr fun k hk z => by
    have := List.mem_range.mp hk
    have := of_decide_eq_true z
    omega
   rw [this]
   simp
  ·rw [range_one (by omega)]
   have h' : ¬ n = i := fun z => e z.symm
   simp [h']
theorem bnAt_one {bl : List Bell} (nd : (bl.map (·.1)).Nodup) {i : Nat} {n : Str} {b : Int × Int} (hb : bl[i]? = some (n, b)) : (List.range bl.length).filter (fun k => bnAt bl k n) = [i] := by
 have h2 := (List.getElem?_eq_some_iff.mp hb).1
 rw [← range_one h2]
 exact List.filter_congr fun k _ => bnAt_only nd hb k
theorem ap_erase_lt {bl : List Bell} {cn i : Nat} (ap : ∀ (i j : Nat) (x y : Bell), i < j → j < cn → bl[i]? = some x → bl[j]? = some y → ¬ KM.Cl x.2 y.2) (hi : i < cn) {a e : Nat} {x y : Bell} (h1 : a < e) (h2 : e < cn - 1) (e1 : (bl.eraseIdx i)[a]? = some x) (e2 : (bl.eraseIdx i)[e]? = some y) : ¬ KM.Cl x.2 y.2 := by
 rw [List.getElem?_eraseIdx] at e1 e2
 by_cases ha : a < i
 ·rw [if_pos ha] at e1
  by_cases he : e < i
  ·rw [if_pos he] at e2
   exact ap a e x y h1 (by omega) e1 e2
  ·rw [if_neg he] at e2
   exact ap a (e + 1) x y (by omega) (by omega) e1 e2
 ·rw [if_neg ha] at e1
  rw [if_neg (by omega)] at e2
  exact ap (a + 1) (e + 1) x y (by omega) (by omega) e1 e2
theorem ap_erase_ge {bl : List Bell} {cn i : Nat} (ap : ∀ (i j : Nat) (x y : Bell), i < j → j < cn → bl[i]? = some x → bl[j]? = some y → ¬ KM.Cl x.2 y.2) (hi : cn ≤ i) {a e : Nat} {x y : Bell} (h1 : a < e) (h2 : e < cn) (e1 : (bl.eraseIdx i)[a]? = some x) (e2 : (bl.eraseIdx i)[e]? = some y) : ¬ KM.Cl x.2 y.2 := by
 rw [List.getElem?_eraseIdx, if_pos (by omega)] at e1 e2
 exact ap a e x y h1 h2 e1 e2
end L2
namespace L2
open PySem PySem.Spec PyProof.Rows
theorem Ch.fresh {H H' : Hp} {h l : Addr} (c : Ch [h, l] H H') (hl : H l = none) : Ch [h] H H' := ⟨fun b o e n => c.1 b o e (by
 simp only [List.mem_cons, List.not_mem_nil, or_false, not_or] at n ⊢
 exact ⟨n, fun z => by rw [z, hl] at e; cases e⟩), c.2⟩
def NewHeld (H H' : Hp) (v : V) : Prop := ∃ p f g xs ys, v = .ref p ∧ H' p = some (.tup [.ref f, .ref g]) ∧ H' f = some (.lst xs) ∧ H' g = some (.lst ys) ∧ H f = none ∧ H g = none ∧ Paired (D2 H') xs ys
theorem d2_same {H : Hp} : ∀ {xs : List V}, xs.all okV = true → Paired (D2 H) xs xs
 | [], _ => .nil
 | x :: xs, h => by
  simp only [List.all_cons, Bool.and_eq_true] at h
  exact .cons (.inl (.inl ⟨rfl, h.1⟩)) (d2_same h.2)
theorem d2_rows {H : Hp} : ∀ {us vs : List V} {bl : List Bell}, RwV H us bl → RwV H vs bl → Paired (D2 H) us vs
 | _, _, _, .nil, .nil => .nil
 | _ :: _, _ :: _, _ :: _, .cons h t, .cons h' t' => by
  refine .cons ?_ (d2_rows t t')
  obtain ⟨p, q, rfl, h1, h2⟩ := h
  obtain ⟨p', q', rfl, h1', h2'⟩ := h'
  exact .inr ⟨p, p', _, _, rfl, rfl, h1, h1', .cons (.inl ⟨rfl, rfl⟩) (.cons (.inr ⟨q, q', _, _, rfl, rfl, h2, h2', .cons ⟨rfl, rfl⟩ (.cons ⟨rfl, rfl⟩ .nil)⟩) .nil)⟩
theorem compT2_list {K : W.Frag} {a D : Addr} {xs : List V} {idx : List Nat} {σ : St} {tt : TT} {te : TE} {Q : VK} {H : Hp} (Pv : Nat → List V → Hp → Prop) (h0 : Pv 0 [] (upd H D (.lst [])))
  (hl : ∀ i ys H2, i ≤ xs.length → Pv i ys H2 → SqL K H2 a xs ∧ H2 D = some (.lst ys) ∧ ys.length < sizeLine)
  (hs : ∀ i v ys H2 (N : List V → Hp → Prop), xs[i]? = some v → Pv i ys H2 → (∀ zs H', Pv (i + 1) zs H' → N zs H') → ∃ p u w, v = .ref p ∧ SqT K H2 p [u, w] ∧
   tt (some u :: some w :: pick idx σ) H2 fun b H4 => if b = true then te (some u :: some w :: pick idx σ) H4 fun y H5 => H5 D = some (.lst ys) ∧ N (ys ++ [y]) (upd H5 D (.lst (ys ++ [y]))) else N ys H4)
  (hd : ∀ ys H2, Pv xs.length ys H2 → Q (.ref D) H2) : CompWT2 K (Itl K a) idx σ tt te D Q H := by
 refine ⟨fun i m ys H2 => m = xs.length - i ∧ i ≤ xs.length ∧ Pv i ys H2, ⟨xs.length, by simp, Nat.zero_le _, h0⟩, ?_⟩
 rintro i m ys H2 ⟨rfl, hi, p⟩
 obtain ⟨q1, q2, q3⟩ := hl i ys H2 hi p
 refine ⟨q2, q3, ?_⟩
 by_cases hlt : i < xs.length
 ·refine .inr ⟨⟨xs, xs[i], q1, by simp [hlt]⟩, fun v H3 y => ?_⟩
  obtain ⟨e, y⟩ := y
  subst e
  obtain ⟨pp, u, w, e1, e2, e3⟩ := hs i v ys _ (fun zs H' => ∃ m', m' < xs.length - i ∧ m' = xs.length - (i + 1) ∧ i + 1 ≤ xs.length ∧ Pv (i + 1) zs H') (y xs q1) p fun zs H' q => ⟨xs.length - (i + 1), by omega, rfl, hlt, q⟩
  exact ⟨pp, u, w, e1, e2, e3⟩
 ·have e : i = xs.length := by omega
  subst e
  exact .inl ⟨⟨xs, q1, Nat.le_refl _⟩, hd ys H2 p⟩
end L2
namespace L2
open PySem PySem.Spec PyProof.Rows
theorem NewHeld.back {H H1 H' : Hp} {u : V} (s : Same H H1) (n : NewHeld H1 H' u) : NewHeld H H' u := by
 obtain ⟨p, f, g, xs, ys, e, h1, h2, h3, h4, h5, h6⟩ := n
 exact ⟨p, f, g, xs, ys, e, h1, h2, h3, s.free h4, s.free h5, h6⟩
theorem NewHeld.backC {A : List Addr} {H H1 H' : Hp} {u : V} (c : Ch A H H1) (hA : ∀ x ∈ A, H1 x ≠ none) (n : NewHeld H1 H' u) : NewHeld H H' u := by
 obtain ⟨p, f, g, xs, ys, e, h1, h2, h3, h4, h5, h6⟩ := n
 have fr : ∀ b, H1 b = none → H b = none := fun b hb => by
  cases e : H b with
  | none => rfl
  | some o =>
   by_cases hbA : b ∈ A
   ·exact absurd hb (hA b hbA)
   ·rw [c.1 b o e hbA] at hb; cases hb
 exact ⟨p, f, g, xs, ys, e, h1, h2, h3, fr _ h4, fr _ h5, h6⟩
theorem NewHeld.on {A : List Addr} {H H1 H2 : Hp} {u : V} (n : NewHeld H H1 u) (c : Ch A H1 H2) (hA : ∀ x ∈ A, H x ≠ none) : NewHeld H H2 u := by
 obtain ⟨p, f, g, xs, ys, e, h1, h2, h3, h4, h5, h6⟩ := n
 exact ⟨p, f, g, xs, ys, e, c.2 _ _ h1, c.1 _ _ h2 (fun z => hA f z h4), c.1 _ _ h3 (fun z => hA g z h5), h4, h5, Paired.mono (fun _ _ q => D2.on c.2 q) h6⟩
theorem NewHeld.held {A : List Addr} {H H' : Hp} {u : V} (n : NewHeld H H' u) (hA : ∀ x ∈ A, H x ≠ none) : HeldAt H' A u := by
 obtain ⟨p, f, g, xs, ys, e, h1, h2, h3, h4, h5, h6⟩ := n
 exact ⟨p, f, g, xs, ys, e, h1, h2, h3, fun z => hA f z h4, fun z => hA g z h5, h6⟩
def HeldStep (H H' : Hp) (hd : Addr) (hs : List V) : Prop := H' hd = some (.lst hs) ∨ ∃ u, H' hd = some (.lst (hs ++ [u])) ∧ NewHeld H H' u
theorem StAt.there {C : Addr} {H : Hp} {t d r c : Addr} {bl : List Bell} {cn : Nat} (S : StAt C H t d r c bl cn) : H t ≠ none ∧ H d ≠ none ∧ H r ≠ none ∧ H c ≠ none := by
 obtain ⟨⟨dx, h1⟩, ⟨kvs, h2, _⟩, _⟩ := S.tw
 obtain ⟨us, h3, _⟩ := S.row
 refine ⟨by rw [h1]; simp, by rw [h2]; simp, by rw [h3]; simp, by rw [S.cl]; simp⟩
theorem StAt.hung {C : Addr} {H H' : Hp} {t d r c : Addr} {bl : List Bell} {cn : Nat} {b : Bell} (S : StAt C H t d r c bl cn) (ch : Ch [d, r] H H') (TW : TwAt C H' t d (bl ++ [b])) (rw' : ∃ us', H' r = some (.lst us') ∧ RwV H' us' (bl ++ [b])) (hb : BOk 60 b.2 ∧ b.1.length ≤ 100) : StAt C H' t d r c (bl ++ [b]) cn := by
 have hcl := S.cl
 obtain ⟨_, ⟨kvs, h2, _⟩, _⟩ := S.tw
 have ncd : c ≠ d := ne_of hcl h2 (by intro z; cases z)
 have hle := S.le
 refine ⟨TW, rw', ch.1 _ _ hcl (by simp only [List.mem_cons, List.not_mem_nil, or_false, not_or]; exact ⟨ncd, S.rc.symm⟩), by rw [List.length_append]; omega, fun i j x y hij hj e1 e2 => ?_, fun e he => ?_⟩
 ·rw [List.getElem?_append_left (by omega)] at e1 e2
  exact S.ap i j x y hij hj e1 e2
 ·rcases List.mem_append.mp he with z | z
  ·exact S.bd e z
  ·rw [List.mem_singleton.mp z]; exact hb
end L2
namespace L2
open PySem PySem.Spec PyProof.Rows
theorem ne1 {C : Addr} {H : Hp} {t d c : Addr} {bl : List Bell} {xs : List V} (T : TwAt C H t d bl) (h : H c = some (.lst xs)) : t ∉ [c] := by
 obtain ⟨⟨dx, h1⟩, _, _⟩ := T
 simpa using ne_of h1 h (by intro z; cases z)
theorem ne2 {C : Addr} {H : Hp} {t d c : Addr} {bl : List Bell} {xs : List V} (T : TwAt C H t d bl) (h : H c = some (.lst xs)) : d ∉ [c] := by
 obtain ⟨_, ⟨kvs, h1, _⟩, _⟩ := T
 simpa using ne_of h1 h (by intro z; cases z)
end L2
namespace L2
open PySem PySem.Spec PyProof.Rows
def Trk (H : Hp) (L : List Addr) : Prop := L.Nodup ∧ ∀ x ∈ L, H x ≠ none
theorem Trk.new {H : Hp} {L : List Addr} {y : Addr} {o : HO} (t : Trk H L) (h : H y = none) : Trk (upd H y o) (y :: L) := by
 refine ⟨List.nodup_cons.mpr ⟨fun z => t.2 y z h, t.1⟩, fun x hx => ?_⟩
 rcases List.mem_cons.mp hx with rfl | z
 ·rw [upd_same]; simp
 ·have hne : x ≠ y := fun e => t.2 x z (e ▸ h)
  rw [upd_ne hne]
  exact t.2 x z
theorem Same.there {H H' : Hp} (s : Same H H') {x : Addr} (h : H x ≠ none) : H' x ≠ none := by
 cases e : H x with
 | none => exact absurd e h
 | some o => rw [s x o e]; simp
theorem Trk.two {H H' : Hp} {L : List Addr} {t d : Addr} (tr : Trk H L) (s : Same H H') (ht : H t = none) (hd : H d = none) (hdt : d ≠ t) (ht' : H' t ≠ none) (hd' : H' d ≠ none) : Trk H' (d :: t :: L) := by
 refine ⟨List.nodup_cons.mpr ⟨fun z => ?_, List.nodup_cons.mpr ⟨fun z => tr.2 t z ht, tr.1⟩⟩, fun x hx => ?_⟩
 ·rcases List.mem_cons.mp z with e | z
  ·exact hdt e
  ·exact tr.2 d z hd
 ·rcases List.mem_cons.mp hx with rfl | hx
  ·exact hd'
  ·rcases List.mem_cons.mp hx with rfl | hx
   ·exact ht'
   ·exact s.there (tr.2 x hx)
structure Fx (H0 : Hp) (pn pt pr pc hd t0 d0 r0 c0 t1 d1 r1 c1 : Addr) : Prop where
 fr : ∀ x ∈ [d0, r0, c0, d1, r1, c1, hd], H0 x = none
 a0 : ∀ x ∈ [pn, t1, d1, r1, c1, pt, pr, pc], x ∉ [d0, r0, c0, hd]
 a1 : ∀ x ∈ [pn, t0, d0, r0, c0, pt, pr, pc], x ∉ [d1, r1, c1, hd]
 h0 : r0 ≠ hd ∧ c0 ≠ hd
 h1 : r1 ≠ hd ∧ c1 ≠ hd
theorem Fx.of {H0 : Hp} {pn pt pr pc hd t0 d0 r0 c0 t1 d1 r1 c1 : Addr} (nd : [hd, pc, c1, c0, pr, r1, r0, pt, d1, t1, d0, t0, pn].Nodup) (e1 : H0 d0 = none) (e2 : H0 r0 = none) (e3 : H0 c0 = none) (e4 : H0 d1 = none) (e5 : H0 r1 = none) (e6 : H0 c1 = none) (e7 : H0 hd = none) : Fx H0 pn pt pr pc hd t0 d0 r0 c0 t1 d1 r1 c1 := by
 simp only [List.nodup_cons, List.mem_cons, List.not_mem_nil, or_false, not_or, not_false_eq_true, List.nodup_nil, and_true] at nd
 obtain ⟨⟨a1, a2, a3, a4, a5, a6, a7, a8, a9, a10, a11, a12⟩, ⟨b2, b3, b4, b5, b6, b7, b8, b9, b10, b11, b12⟩, ⟨c3, c4, c5, c6, c7, c8, c9, c10, c11, c12⟩, ⟨f4, f5, f6, f7, f8, f9, f10, f11, f12⟩, ⟨g5, g6, g7, g8, g9, g10, g11, g12⟩, ⟨i6, i7, i8, i9, i10, i11, i12⟩, ⟨j7, j8, j9, j10, j11, j12⟩, ⟨k8, k9, k10, k11, k12⟩, ⟨l9, l10, l11, l12⟩, ⟨m10, m11, m12⟩, ⟨n11, n12⟩, o12⟩ := nd
 refine ⟨fun x hx => ?_, fun x hx => ?_, fun x hx => ?_, ⟨fun z => a6 z.symm, fun z => a3 z.symm⟩, ⟨fun z => a5 z.symm, fun z => a2 z.symm⟩⟩
 ·simp only [List.mem_cons, List.not_mem_nil, or_false] at hx
  rcases hx with h | h | h | h | h | h | h <;> rw [h] <;> assumption
 ·simp only [List.mem_cons, List.not_mem_nil, or_false, not_or] at hx ⊢
  rcases hx with h | h | h | h | h | h | h | h <;> rw [h] <;> refine ⟨?_, ?_, ?_, ?_⟩ <;> first | assumption | (intro z; exact absurd z.symm ‹_›)
 ·simp only [List.mem_cons, List.not_mem_nil, or_false, not_or] at hx ⊢
  rcases hx with h | h | h | h | h | h | h | h <;> rw [h] <;> refine ⟨?_, ?_, ?_, ?_⟩ <;> first | assumption | (intro z; exact absurd z.symm ‹_›)
structure Wd (C : Addr) (H0 H : Hp) (pn pt pr pc hd t0 d0 r0 c0 t1 d1 r1 c1 : Addr) (ns : List Str) (n : Nat) : Prop where
 s0 : Same H0 H
 S0 : ∃ bl cn, StAt C H t0 d0 r0 c0 bl cn ∧ bl.length ≤ 12
 S1 : ∃ bl cn, StAt C H t1 d1 r1 c1 bl cn ∧ bl.length ≤ 12
 he : ∃ hs, H hd = some (.lst hs) ∧ hs.length ≤ n ∧ ∀ u ∈ hs, HeldAt H [d0, r0, c0, d1, r1, c1, hd] u
 np : H pn = some (.lst (ns.map V.str))
 tp : H pt = some (.lst [.ref t0, .ref t1])
 rp : H pr = some (.lst [.ref r0, .ref r1])
 cp : H pc = some (.lst [.ref c0, .ref c1])
def HeldNow (H H' : Hp) (hd : Addr) (n : Nat) : Prop := ∃ hs hs', H hd = some (.lst hs) ∧ H' hd = some (.lst hs') ∧ hs'.length ≤ n ∧ ∀ u ∈ hs', u ∈ hs ∨ NewHeld H H' u
theorem held_step {H H' : Hp} {hd : Addr} {hs : List V} {n : Nat} (h : H hd = some (.lst hs)) (hl : hs.length ≤ n) (st : HeldStep H H' hd hs) : HeldNow H H' hd (n + 1) := by
 rcases st with e | ⟨u, e, nh⟩
 ·exact ⟨hs, hs, h, e, by omega, fun u hu => .inl hu⟩
 ·refine ⟨hs, hs ++ [u], h, e, by rw [List.length_append]; simp; omega, fun x hx => ?_⟩
  rcases List.mem_append.mp hx with z | z
  ·exact .inl z
  ·rw [List.mem_singleton.mp z]; exact .inr nh
theorem held_two {H H' : Hp} {hd : Addr} {hs : List V} {n : Nat} {u1 u2 : V} (h : H hd = some (.lst hs)) (hl : hs.length ≤ n) (e : H' hd = some (.lst (hs ++ [u1] ++ [u2]))) (n1 : NewHeld H H' u1) (n2 : NewHeld H H' u2) : HeldNow H H' hd (n + 2) := by
 refine ⟨hs, _, h, e, by simp; omega, fun x hx => ?_⟩
 simp only [List.append_assoc, List.mem_append, List.mem_cons, List.not_mem_nil, or_false] at hx
 rcases hx with z | z | z
 ·exact .inl z
 ·rw [z]; exact .inr n1
 ·rw [z]; exact .inr n2
section
variable {C : Addr} {H0 H H' : Hp} {pn pt pr pc hd t0 d0 r0 c0 t1 d1 r1 c1 : Addr} {ns : List Str} {n n' : Nat}
theorem Wd.all (W : Wd C H0 H pn pt pr pc hd t0 d0 r0 c0 t1 d1 r1 c1 ns n) : ∀ x ∈ [d0, r0, c0, d1, r1, c1, hd], H x ≠ none := fun x hx => by
 obtain ⟨bl, cn, S, _⟩ := W.S0
 obtain ⟨bl', cn', S', _⟩ := W.S1
 obtain ⟨hs, hh, _⟩ := W.he
 have a := S.there
 have b := S'.there
 simp only [List.mem_cons, List.not_mem_nil, or_false] at hx
 rcases hx with h | h | h | h | h | h | h <;> rw [h]
 ·exact a.2.1
 ·exact a.2.2.1
 ·exact a.2.2.2
 ·exact b.2.1
 ·exact b.2.2.1
 ·exact b.2.2.2
 ·rw [hh]; simp
theorem Wd.step0 (W : Wd C H0 H pn pt pr pc hd t0 d0 r0 c0 t1 d1 r1 c1 ns n) (F : Fx H0 pn pt pr pc hd t0 d0 r0 c0 t1 d1 r1 c1) (ch : Ch [d0, r0, c0, hd] H H') (S : ∃ bl cn, StAt C H' t0 d0 r0 c0 bl cn ∧ bl.length ≤ 12) (hn : HeldNow H H' hd n') : Wd C H0 H' pn pt pr pc hd t0 d0 r0 c0 t1 d1 r1 c1 ns n' := by
 have sub : ∀ x ∈ [d0, r0, c0, hd], x ∈ [d0, r0, c0, d1, r1, c1, hd] := fun x hx => by simp only [List.mem_cons, List.not_mem_nil, or_false] at hx ⊢; rcases hx with h | h | h | h <;> simp [h]
 have a := F.a0
 obtain ⟨hs, hs', e1, e2, e3, e4⟩ := hn
 obtain ⟨hsW, f1, f2, f3⟩ := W.he
 rw [e1] at f1
 cases f1
 obtain ⟨bl, cn, S1, l1⟩ := W.S1
 refine ⟨fun b o e => ch.1 _ _ (W.s0 b o e) (fun z => by rw [F.fr b (sub b z)] at e; cases e), S, ⟨bl, cn, S1.keep ch (a _ (by simp)) (a _ (by simp)) (a _ (by simp)) (a _ (by simp)), l1⟩, ⟨hs', e2, e3, fun u hu => ?_⟩, ch.1 _ _ W.np (a _ (by simp)), ch.1 _ _ W.tp (a _ (by simp)), ch.1 _ _ W.rp (a _ (by simp)), ch.1 _ _ W.cp (a _ (by simp))⟩
 rcases e4 u hu with z | z
 ·exact (f3 u z).on (ch.mono sub)
 ·exact z.held W.all
theorem Wd.step1 (W : Wd C H0 H pn pt pr pc hd t0 d0 r0 c0 t1 d1 r1 c1 ns n) (F : Fx H0 pn pt pr pc hd t0 d0 r0 c0 t1 d1 r1 c1) (ch : Ch [d1, r1, c1, hd] H H') (S : ∃ bl cn, StAt C H' t1 d1 r1 c1 bl cn ∧ bl.length ≤ 12) (hn : HeldNow H H' hd n') : Wd C H0 H' pn pt pr pc hd t0 d0 r0 c0 t1 d1 r1 c1 ns n' := by
 have sub : ∀ x ∈ [d1, r1, c1, hd], x ∈ [d0, r0, c0, d1, r1, c1, hd] := fun x hx => by simp only [List.mem_cons, List.not_mem_nil, or_false] at hx ⊢; rcases hx with h | h | h | h <;> simp [h]
 have a := F.a1
 obtain ⟨hs, hs', e1, e2, e3, e4⟩ := hn
 obtain ⟨hsW, f1, f2, f3⟩ := W.he
 rw [e1] at f1
 cases f1
 obtain ⟨bl, cn, S0, l0⟩ := W.S0
 refine ⟨fun b o e => ch.1 _ _ (W.s0 b o e) (fun z => by rw [F.fr b (sub b z)] at e; cases e), ⟨bl, cn, S0.keep ch (a _ (by simp)) (a _ (by simp)) (a _ (by simp)) (a _ (by simp)), l0⟩, S, ⟨hs', e2, e3, fun u hu => ?_⟩, ch.1 _ _ W.np (a _ (by simp)), ch.1 _ _ W.tp (a _ (by simp)), ch.1 _ _ W.rp (a _ (by simp)), ch.1 _ _ W.cp (a _ (by simp))⟩
 rcases e4 u hu with z | z
 ·exact (f3 u z).on (ch.mono sub)
 ·exact z.held W.all
theorem Wd.same (W : Wd C H0 H pn pt pr pc hd t0 d0 r0 c0 t1 d1 r1 c1 ns n) (s : Same H H') : Wd C H0 H' pn pt pr pc hd t0 d0 r0 c0 t1 d1 r1 c1 ns n := by
 obtain ⟨bl, cn, S0, l0⟩ := W.S0
 obtain ⟨bl', cn', S1, l1⟩ := W.S1
 obtain ⟨hs, f1, f2, f3⟩ := W.he
 exact ⟨W.s0.trans s, ⟨bl, cn, S0.keep (A := []) (Ch.same s) (by simp) (by simp) (by simp) (by simp), l0⟩, ⟨bl', cn', S1.keep (A := []) (Ch.same s) (by simp) (by simp) (by simp) (by simp), l1⟩, ⟨hs, s _ _ f1, f2, fun u hu => (f3 u hu).on (Ch.same s)⟩, s _ _ W.np, s _ _ W.tp, s _ _ W.rp, s _ _ W.cp⟩
end
theorem in1_units {A : Around} {k : Nat} (hr : Room k A) : A.in1.units < cLine := by
 have := hr.units
 show A.units + 1 < cLine
 exact hu_of hr
theorem in2_units {A : Around} {k : Nat} (hr : Room k A) : A.in1.in1.units < cLine := by
 show A.units + 1 + 1 < cLine
 exact Nat.lt_of_le_of_lt (Nat.add_le_add_left (by decide : 2 ≤ 64) _) hr.units
end L2
namespace L2
open PySem PySem.Spec PyProof.Rows
theorem Wd.more {C : Addr} {H0 H : Hp} {pn pt pr pc hd t0 d0 r0 c0 t1 d1 r1 c1 : Addr} {ns : List Str} {n n' : Nat} (W : Wd C H0 H pn pt pr pc hd t0 d0 r0 c0 t1 d1 r1 c1 ns n) (h : n ≤ n') : Wd C H0 H pn pt pr pc hd t0 d0 r0 c0 t1 d1 r1 c1 ns n' := by
 obtain ⟨hs, f1, f2, f3⟩ := W.he
 exact ⟨W.s0, W.S0, W.S1, ⟨hs, f1, by omega, f3⟩, W.np, W.tp, W.rp, W.cp⟩
end L2
namespace L2
open PySem PySem.Spec PyProof.Rows
theorem excX_mk {K : W.Frag} {C C' : Addr} {d d' : Option Addr} {cd cd' : ClassData} {sl sl' : Array (Option Value)} {bm : List Value} {k0 k1 k2 k3 k5 : Option Value} (q : ExcIs K C') (l' : K.lookup C' = some ⟨.type "type", d', .cls cd', sl'⟩) (m' : cd'.mro = .ref C' :: bm) (l : K.lookup C = some ⟨.type "type", d, .cls cd, sl⟩) (m : cd.mro = .ref C :: bm) (hs : sl.toList = [k0, k1, k2, k3, some (.builtin "ValueError.__new__"), k5]) (hd : cd.hasDel = false) : ExcIs0 K C := by
 have q := q.zero
 unfold ExcIs0 excXIn at q ⊢
 rw [l'] at q
 rw [l]
 simp only [m'] at q
 simp only [m, hs, hd]
 split at q
 ·rename_i h1 h2
  cases h1
  simp only [Bool.and_eq_true] at q
  simp [q.2]
 ·cases q
section
variable {K : W.Frag} {h : Heap} {mg : Str → Option Value} {x q : Str} {st : Stmt} {f : Addr} {fd : FuncData} {k : Nat} {ps : List Str} {sp : Sp}
variable (X : K.In h) (G : h.Ns mainGlobals mg) (P : Program) (w : World) (base : Heap) (F : Fun K x q st f fd)
include X G F
theorem dn_mk (o : FnOk P w K mg base CX0 k f fd ps sp) (a : W.nsIn K mainGlobals x = some (some (.ref f)))
  (b : ∀ (kV doc pm : Value) (an : Option Addr) (cdv ct : Value) (us : List Value), us.length = ps.length → bindArgs (W.fnOf x q (defArgs st) (defBody st) (defScope st) .none kV doc pm an cdv ct) ⟨us, []⟩ = pure (ps.zip us)) : Dn P w K mg base x k ps sp := ⟨_, _, o, F.binds b, W.mg_of X G a, F.kp⟩
theorem dnX_mk (o : FnOk P w K mg base (CX1 P w) k f fd ps sp) (a : W.nsIn K mainGlobals x = some (some (.ref f)))
  (b : ∀ (kV doc pm : Value) (an : Option Addr) (cdv ct : Value) (us : List Value), us.length = ps.length → bindArgs (W.fnOf x q (defArgs st) (defBody st) (defScope st) .none kV doc pm an cdv ct) ⟨us, []⟩ = pure (ps.zip us)) : DnX P w K mg base x k ps sp := ⟨_, _, o, F.binds b, W.mg_of X G a, F.kp⟩
end
theorem StAt.keep0 {C : Addr} {H H' : Hp} {t d r c : Addr} {bl : List Bell} {cn : Nat} (S : StAt C H t d r c bl cn) (h : Same H H') : StAt C H' t d r c bl cn := S.keep (A := []) (Ch.same h) (by simp) (by simp) (by simp) (by simp)
end L2
def PySem.W.Fast.tw4866789066523099428 : Unit := ()
def PySem.W.Fast.tw13934590032699605264 : Unit := ()
def PySem.W.Fast.tw15063236643059042413 : Unit := ()
def PySem.W.Fast.tw5960929390927542005 : Unit := ()
def PySem.W.Fast.tw10520970781534791064 : Unit := ()
def PySem.W.Fast.tw10324474871085720596 : Unit := ()
def PySem.W.Fast.tw7618036239478358924 : Unit := ()
def PySem.W.Fast.tw6490245542413810134 : Unit := ()
def PySem.W.Fast.tw5250345715676262187 : Unit := ()
def PySem.W.Fast.tw7377302861989307737 : Unit := ()
def PySem.W.Fast.tw18273695400719145962 : Unit := ()
def PySem.W.Fast.tw16274208537649520140 : Unit := ()
def PySem.W.Fast.tw8729581413125521338 : Unit := ()
def PySem.W.Fast.tw216443368403665310 : Unit := ()
def PySem.W.Fast.tw9410896288105736668 : Unit := ()
def PySem.W.Fast.tw522752237205560115 : Unit := ()
def PySem.W.Fast.tw5495300156590539752 : Unit := ()
def PySem.W.Fast.tw6670622585692700403 : Unit := ()
def PySem.W.Fast.tw5806221724069081529 : Unit := ()
def PySem.W.Fast.tw12713264050448305679 : Unit := ()
def PySem.W.Fast.tw4235203141506585081 : Unit := ()
def PySem.W.Fast.tw1150395879787177256 : Unit := ()
def PySem.W.Fast.tw17146329222409867453 : Unit := ()
def PySem.W.Fast.tw15320283316725868433 : Unit := ()
def PySem.W.Fast.tw3977716162353073056 : Unit := ()
def PySem.W.Fast.tw12772848635307099450 : Unit := ()
def PySem.W.Fast.tw18344320347628794123 : Unit := ()
def PySem.W.Fast.tw11353227635534265114 : Unit := ()
local macro_rules | `(tactic| walk_at "sd") => `(tactic| first | assumption | decide | exact (show (0 : Int) < _ by first | decide | assumption | omega) | exact ⟨by decide, by decide⟩ | exact ⟨by decide, by decide, by decide⟩ | exact L2.mulOk_l (by decide) (by decide) | exact L2.mulOk_l (by omega) (by omega) | exact L2.mulOk_r (by decide) (by decide) | exact L2.mulOk_r (by omega) (by omega) | omega)
local macro_rules | `(tactic| walk_at "sq") => `(tactic| first | exact L2.SqT.of (by assumption) | exact L2.SqL.of (by assumption) | assumption | exact L2.SqT.of L2.upd_same | exact L2.SqL.of L2.upd_same)
local macro_rules | `(tactic| walk_at "at") => `(tactic| first | exact L2.at0 | exact L2.at1 | exact L2.at2 | assumption)
local macro_rules | `(tactic| walk_at "sz") => `(tactic| exact L2.len_ok (Nat.le_of_ble_eq_true rfl))
local macro_rules | `(tactic| walk_at "ln") => `(tactic| first | exact Or.inl (by assumption) | exact Or.inr (by assumption) | exact Or.inr (L2.SqT.of (by assumption)) | exact Or.inl (L2.SqL.of (by assumption)))
local macro_rules | `(tactic| walk_at "ls") => `(tactic| first | assumption | exact L2.SqL.of (by assumption) | exact L2.upd_same)
local macro_rules | `(tactic| walk_at "ty") => `(tactic| first | exact L2.TyOf.int _ | exact L2.TyOf.bl _ | exact L2.TyOf.tup (by assumption))
local macro_rules | `(tactic| walk_at "kt") => `(tactic| first | exact L2.kt_self _ _ | exact L2.kt_int_bool _ | exact L2.kt_bool_int _)
local macro_rules | `(tactic| walk_at "xo") => `(tactic| first | assumption | exact L2.upd_same)
local macro_rules | `(tactic| walk_at "s1") => `(tactic| first | assumption | exact L2.small1000 (by omega) | exact L2.small1000 (Nat.le_of_ble_eq_true rfl))
local macro_rules | `(tactic| walk_at "ls") => `(tactic| first | assumption | exact L2.SqL.of (by assumption) | exact L2.upd_same | exact L2.SqL.of L2.upd_same | exact L2.get_new (by assumption) (by assumption))
local macro_rules | `(tactic| walk_at "at") => `(tactic| first | exact L2.at0 | exact L2.at1 | exact L2.at2 | exact L2.at3 | assumption)
local macro_rules | `(tactic| walk_at "ty") => `(tactic| first | exact L2.TyOf.int _ | exact L2.TyOf.bl _ | exact L2.TyOf.str _ | exact L2.TyOf.non | exact L2.TyOf.tup (by assumption) | exact L2.TyOf.lst (by assumption) | exact L2.TyOf.tup L2.upd_same | exact L2.TyOf.lst L2.upd_same)
local macro_rules | `(tactic| walk_at "ok") => `(tactic| first | assumption | rfl)
local macro_rules | `(tactic| walk_at "ns") => `(tactic| try dsimp only [L2.start, List.set, List.map, List.length, List.replicate, List.cons_append, List.nil_append, Nat.sub, Nat.reduceSub])
local macro_rules | `(tactic| walk_at "bs") => `(tactic| first | exact (fun _ _ _ _ _ _ us hl => match us, hl with | [_], _ => rfl) | exact (fun _ _ _ _ _ _ us hl => match us, hl with | [_, _], _ => rfl) | exact (fun _ _ _ _ _ _ us hl => match us, hl with | [_, _, _], _ => rfl) | exact (fun _ _ _ _ _ _ us hl => match us, hl with | [_, _, _, _], _ => rfl) | exact (fun _ _ _ _ _ _ us hl => match us, hl with | [_, _, _, _, _], _ => rfl) | exact (fun _ _ _ _ _ _ us hl => match us, hl with | [_, _, _, _, _, _], _ => rfl) | exact (fun _ _ _ _ _ _ us hl => match us, hl with | [_, _, _, _, _, _, _], _ => rfl) | exact (fun _ _ _ _ _ _ us hl => match us, hl with | [_, _, _, _, _, _, _, _], _ => rfl))
set_option hygiene false
local macro_rules | `(tactic| walk_at "a") => `(tactic| refine ⟨_, rfl, _, rfl, _, rfl, _, rfl, _, rfl, _, _, _, _, _, _, _, rfl, (by assumption), (by assumption), (by assumption), (by assumption), (by assumption), fun n401 nl401 => ?_⟩)
local macro_rules | `(tactic| walk_at "b") => `(tactic| refine k _ cn _ cf (SG.hung ch2 TW2 rw2 ⟨⟨(em hg0).1, (em hg0).2, by show g.natAbs < 2 ^ 60; omega⟩, nl401⟩) (by simp; omega) (.inl (ch2.1 _ _ (sG _ _ hhd) ?_)))
local macro_rules | `(tactic| walk_at "c") => `(tactic| exact k bl cn _ cf (ST.keep ch2 (by simpa using nth) (by simpa using ndh) (by simpa using hrh) (by simpa using hch)) hb12 (.inr ⟨u, hh2, nh.back sT⟩))
local macro_rules | `(tactic| walk_at "d") => `(tactic| exact k bl cn _ (Ch.same sH) (S.keep0 sH) hb12 (.inl (sH _ _ hhd)))
local macro_rules | `(tactic| walk_at "e") => `(tactic| refine ⟨t, d, r, us, bl, n401, _, g, _, rfl, SG.tw, hrG, hrwG, nl401, by omega, gP, fun _ H2 s2 => ?_, fun hn hg H2 ch2 TW2 rw2 => ?_⟩)
local macro_rules | `(tactic| walk_at "f") => `(tactic| refine comp_list (xs := us) (fun i ys HC => Same H2 HC ∧ HC D = some (.lst ys) ∧ ys = (bl.take i).map fun b => V.str b.1) ⟨Same.new hD, upd_same, rfl⟩ (fun i ys HC hi ⟨q1, q2, q3⟩ => ⟨SqL.of (q1 _ _ hrX), q2, by rw [q3]; exact small1000 (by simp; omega)⟩) ?_ ?_)
local macro_rules | `(tactic| walk_at "g") => `(tactic| refine ⟨_, rfl, _, rfl, _, rfl, _, rfl, _, rfl, _, rfl, _, _, _, _, _, _, _, rfl, (by assumption), (by assumption), (by assumption), (by assumption), (by assumption), fun n301 nl301 => ?_⟩)
local macro_rules | `(tactic| walk_at "h") => `(tactic| have cf : Ch [d, r, c, hd] H H2 := (Ch.same sT).trans (ch2.mono (fun x hx => by simp only [List.mem_cons, List.not_mem_nil, or_false] at hx ⊢; rcases hx with h | h | h <;> simp [h])))
local macro_rules | `(tactic| walk_at "i") => `(tactic| simp only [List.mem_cons, List.not_mem_nil, or_false, not_or])
local macro_rules | `(tactic| walk_at "j") => `(tactic| refine ⟨_, rfl, _, rfl, _, rfl, _, rfl, _, rfl, _, rfl, _, _, rfl, rfl, (by walk_at "sd"), _, _, rfl, rfl, (by walk_at "sd"), rfl, ?_⟩)
local macro_rules | `(tactic| walk_at "k") => `(tactic| refine ⟨_, rfl, _, _, _, _, rfl, rfl, (by walk_at "sq"), (by walk_at "at"), ?_⟩)
local macro_rules | `(tactic| walk_at "l") => `(tactic| refine ⟨_, rfl, rfl, _, rfl, ?_⟩)
local macro_rules | `(tactic| walk_at "m") => `(tactic| refine ⟨_, _, rfl, rfl, (by walk_at "sd"), _, _, rfl, rfl, (by walk_at "sd"), _, _, rfl, rfl, _, _, rfl, rfl, (by walk_at "sd"), _, _, rfl, rfl, (by walk_at "sd"), _, _, rfl, rfl, _, rfl, _, rfl, _, _, rfl, rfl, (by walk_at "sd"), _, _, rfl, rfl, _, _, rfl, rfl, mo5, _, _, rfl, rfl, ?_⟩)
local macro_rules | `(tactic| walk_at "n") => `(tactic| refine ⟨t, d, r, c, bl, cn, n301, rfl, ST, nl301, by omega, fun hn H2 s2 => ?_, fun i b hb cn' H2 ch2 S2 => ?_⟩)
local macro_rules | `(tactic| walk_at "o") => `(tactic| exact k bl cn' _ ((Ch.same sT).trans (ch2.mono (by simp))) S2 hb12 (.inl (ch2.1 _ _ hhT (by simpa using hch.symm))))
local macro_rules | `(tactic| walk_at "p") => `(tactic| have cf : Ch [d, r, c, hd] H H2 := (Ch.same sT).trans (ch2.mono (by simp)))
local macro_rules | `(tactic| walk_at "q") => `(tactic| have cf : Ch [d, r, c, hd] H H2 := (Ch.same sG).trans (ch2.mono (by simp)))
local macro_rules | `(tactic| walk_at "r") => `(tactic| have ein : inV (.str n) ys = decide (n ∈ bl.map (·.1)) := by rw [q3]; exact in_names)
local macro_rules | `(tactic| walk_at "s") => `(tactic| exact ⟨q2, q1.own hD, upd_same, by rw [q3, KM.take_snoc eb]; simp⟩)
local macro_rules | `(tactic| walk_at "t") => `(tactic| refine ⟨_, rfl, _, _, rfl, rfl, _, rfl, ?_⟩)
set_option hygiene true
namespace Kn
open PySem L2
seal PE PA PT PW PS PSs PG PGs PI PO OpR UnR CallR IxR SlR PEx
def top (i : Nat) : Stmt := PySem.Challenge.pw_knell_k10_whole_tower.main.body.getD i (.Pass ⟨0, 0, 0, 0⟩)
abbrev s_l_names : Stmt := top 29
abbrev s_l_cell_at : Stmt := top 26
abbrev s_Clash_init : Stmt := inClass (top 7) 0
abbrev s_l_fields : Stmt := top 35
abbrev s_l_kinds : Stmt := top 33
abbrev s_l_only : Stmt := top 34
abbrev s_l_clash_made : Stmt := top 46
abbrev s_Tower_init : Stmt := inClass (top 24) 0
abbrev s_Tower_bells : Stmt := inClass (top 24) 3
abbrev s_l_whole : Stmt := top 27
abbrev s_l_is_beat : Stmt := top 37
abbrev s_l_bells : Stmt := top 43
abbrev s_Tower_take : Stmt := inClass (top 24) 2
abbrev s_l_take : Stmt := top 38
abbrev s_l_gap : Stmt := top 32
abbrev s_beat : Stmt := top 9
abbrev s_Tower_hang : Stmt := inClass (top 24) 1
abbrev s_l_hang : Stmt := top 36
abbrev s_l_divisor : Stmt := top 28
abbrev s_l_trouble : Stmt := top 39
abbrev s_next_from : Stmt := top 11
abbrev s_rings : Stmt := top 10
abbrev s_Tower_next_any : Stmt := inClass (top 24) 5
abbrev s_less_times : Stmt := top 14
abbrev s_weights : Stmt := top 13
abbrev s_least_multiple : Stmt := top 15
abbrev s_met : Stmt := top 20
abbrev s_with_first : Stmt := top 17
abbrev s_weights_of_shares : Stmt := top 16
abbrev s_clash : Stmt := top 19
abbrev s_told_clash : Stmt := top 22
abbrev s_together : Stmt := top 21
abbrev s_Tower_next_together : Stmt := inClass (top 24) 4
abbrev s_l_asked : Stmt := top 40
abbrev s_l_all_ring : Stmt := top 41
abbrev s_l_some_ring : Stmt := top 42
abbrev s_l_name : Stmt := top 30
abbrev s_l_done : Stmt := top 44
abbrev s_l_new_name : Stmt := top 31
abbrev s_l_made_good : Stmt := top 45
abbrev s_law : Stmt := top 47
theorem bt_ValueError : bootBuiltins "ValueError" = some (.type "ValueError") := by decide +kernel
theorem bt_bool : bootBuiltins "bool" = some (.type "bool") := by decide +kernel
theorem bt_enumerate : bootBuiltins "enumerate" = some (.type "enumerate") := by decide +kernel
theorem bt_int : bootBuiltins "int" = some (.type "int") := by decide +kernel
theorem bt_isinstance : bootBuiltins "isinstance" = some (.builtin "isinstance") := by decide +kernel
theorem bt_len : bootBuiltins "len" = some (.builtin "len") := by decide +kernel
theorem bt_list : bootBuiltins "list" = some (.type "list") := by decide +kernel
theorem bt_min : bootBuiltins "min" = some (.builtin "min") := by decide +kernel
theorem bt_range : bootBuiltins "range" = some (.type "range") := by decide +kernel
theorem bt_str : bootBuiltins "str" = some (.type "str") := by decide +kernel
theorem bt_sum : bootBuiltins "sum" = some (.builtin "sum") := by decide +kernel
theorem bt_tuple : bootBuiltins "tuple" = some (.type "tuple") := by decide +kernel
theorem bt_zip : bootBuiltins "zip" = some (.type "zip") := by decide +kernel
/-- where the error classes stand -/
structure Cls where
 Clash : Addr
 KnellError : Addr
 NoBeat : Addr
 NoBell : Addr
 NoName : Addr
 TooMany : Addr
 Tower : Addr
 Twice : Addr
structure Txt (K : W.Frag) (mg : Str → Option Value) (cs : Cls) : Prop where
 n_ValueError : mg "ValueError" = none
 n_bool : mg "bool" = none
 n_enumerate : mg "enumerate" = none
 n_int : mg "int" = none
 n_isinstance : mg "isinstance" = none
 n_len : mg "len" = none
 n_list : mg "list" = none
 n_min : mg "min" = none
 n_range : mg "range" = none
 n_str : mg "str" = none
 n_sum : mg "sum" = none
 n_tuple : mg "tuple" = none
 n_zip : mg "zip" = none
 m_Clash : mg "Clash" = some (.ref cs.Clash)
 m_KnellError : mg "KnellError" = some (.ref cs.KnellError)
 m_NoBeat : mg "NoBeat" = some (.ref cs.NoBeat)
 m_NoBell : mg "NoBell" = some (.ref cs.NoBell)
 m_NoName : mg "NoName" = some (.ref cs.NoName)
 m_TooMany : mg "TooMany" = some (.ref cs.TooMany)
 m_Tower : mg "Tower" = some (.ref cs.Tower)
 m_Twice : mg "Twice" = some (.ref cs.Twice)
 e_Clash : ExcCls K cs.Clash
 e_NoBeat : ExcCls K cs.NoBeat
 i_NoBeat : ExcIs K cs.NoBeat
 e_NoBell : ExcCls K cs.NoBell
 i_NoBell : ExcIs K cs.NoBell
 e_NoName : ExcCls K cs.NoName
 i_NoName : ExcIs K cs.NoName
 e_Twice : ExcCls K cs.Twice
 i_Twice : ExcIs K cs.Twice
 xc_Clash : XCls K cs.Clash
 cl_Tower : L2.Cls K cs.Tower
 na_Clash_divisor : NoAttr K cs.Clash "divisor"
 na_Clash_first : NoAttr K cs.Clash "first"
 na_Clash_second : NoAttr K cs.Clash "second"
 na_Tower_hung : NoAttr K cs.Tower "hung"
 k_Clash_Clash : W.kitOne K (.ref cs.Clash) (.ref cs.Clash) = some true
 k_Clash_NoBeat : W.kitOne K (.ref cs.Clash) (.ref cs.NoBeat) = some false
 k_Clash_NoBell : W.kitOne K (.ref cs.Clash) (.ref cs.NoBell) = some false
 k_Clash_NoName : W.kitOne K (.ref cs.Clash) (.ref cs.NoName) = some false
 k_Clash_TooMany : W.kitOne K (.ref cs.Clash) (.ref cs.TooMany) = some false
 k_Clash_Twice : W.kitOne K (.ref cs.Clash) (.ref cs.Twice) = some false
 k_Clash_ValueError : W.kitOne K (.ref cs.Clash) (.type "ValueError") = some true
 k_NoBeat_Clash : W.kitOne K (.ref cs.NoBeat) (.ref cs.Clash) = some false
 k_NoBeat_NoBeat : W.kitOne K (.ref cs.NoBeat) (.ref cs.NoBeat) = some true
 k_NoBeat_NoBell : W.kitOne K (.ref cs.NoBeat) (.ref cs.NoBell) = some false
 k_NoBeat_NoName : W.kitOne K (.ref cs.NoBeat) (.ref cs.NoName) = some false
 k_NoBeat_TooMany : W.kitOne K (.ref cs.NoBeat) (.ref cs.TooMany) = some false
 k_NoBeat_Twice : W.kitOne K (.ref cs.NoBeat) (.ref cs.Twice) = some false
 k_NoBeat_ValueError : W.kitOne K (.ref cs.NoBeat) (.type "ValueError") = some true
 k_NoBell_Clash : W.kitOne K (.ref cs.NoBell) (.ref cs.Clash) = some false
 k_NoBell_NoBeat : W.kitOne K (.ref cs.NoBell) (.ref cs.NoBeat) = some false
 k_NoBell_NoBell : W.kitOne K (.ref cs.NoBell) (.ref cs.NoBell) = some true
 k_NoBell_NoName : W.kitOne K (.ref cs.NoBell) (.ref cs.NoName) = some false
 k_NoBell_TooMany : W.kitOne K (.ref cs.NoBell) (.ref cs.TooMany) = some false
 k_NoBell_Twice : W.kitOne K (.ref cs.NoBell) (.ref cs.Twice) = some false
 k_NoBell_ValueError : W.kitOne K (.ref cs.NoBell) (.type "ValueError") = some true
 k_NoName_Clash : W.kitOne K (.ref cs.NoName) (.ref cs.Clash) = some false
 k_NoName_NoBeat : W.kitOne K (.ref cs.NoName) (.ref cs.NoBeat) = some false
 k_NoName_NoBell : W.kitOne K (.ref cs.NoName) (.ref cs.NoBell) = some false
 k_NoName_NoName : W.kitOne K (.ref cs.NoName) (.ref cs.NoName) = some true
 k_NoName_TooMany : W.kitOne K (.ref cs.NoName) (.ref cs.TooMany) = some false
 k_NoName_Twice : W.kitOne K (.ref cs.NoName) (.ref cs.Twice) = some false
 k_NoName_ValueError : W.kitOne K (.ref cs.NoName) (.type "ValueError") = some true
 k_Twice_Clash : W.kitOne K (.ref cs.Twice) (.ref cs.Clash) = some false
 k_Twice_NoBeat : W.kitOne K (.ref cs.Twice) (.ref cs.NoBeat) = some false
 k_Twice_NoBell : W.kitOne K (.ref cs.Twice) (.ref cs.NoBell) = some false
 k_Twice_NoName : W.kitOne K (.ref cs.Twice) (.ref cs.NoName) = some false
 k_Twice_TooMany : W.kitOne K (.ref cs.Twice) (.ref cs.TooMany) = some false
 k_Twice_Twice : W.kitOne K (.ref cs.Twice) (.ref cs.Twice) = some true
 k_Twice_ValueError : W.kitOne K (.ref cs.Twice) (.type "ValueError") = some true
 x_Clash_KnellError : W.exmOne K (.ref cs.Clash) (.ref cs.KnellError) = some true
 x_NoBeat_KnellError : W.exmOne K (.ref cs.NoBeat) (.ref cs.KnellError) = some true
 x_NoBell_KnellError : W.exmOne K (.ref cs.NoBell) (.ref cs.KnellError) = some true
 x_NoName_KnellError : W.exmOne K (.ref cs.NoName) (.ref cs.KnellError) = some true
 x_Twice_KnellError : W.exmOne K (.ref cs.Twice) (.ref cs.KnellError) = some true
theorem p18 : (10 : Int) ^ (18 : Int).toNat = 1000000000000000000 := by decide
theorem p9 : (10 : Int) ^ (9 : Int).toNat = 1000000000 := by decide
theorem p12 : (10 : Int) ^ (12 : Int).toNat = 1000000000000 := by decide
/-- the places of the refusals among those that are asked for -/
def onlyV (j : Nat) : List V := [.bl true, .bl (decide (j = 0)), .bl (decide (j = 1)), .bl (decide (j = 2)), .bl (decide (j = 3)), .bl (decide (j = 4)), .bl (decide (j = 5))]
theorem onlyV_flat (j : Nat) : (onlyV j).all flatV = true := rfl
structure KindOf (K : W.Frag) (cs : Cls) (C : Addr) (j : Nat) : Prop where
 v : W.kitOne K (.ref C) (.type "ValueError") = some true
 a0 : W.kitOne K (.ref C) (.ref cs.NoBeat) = some (decide (j = 0))
 a1 : W.kitOne K (.ref C) (.ref cs.NoBell) = some (decide (j = 1))
 a2 : W.kitOne K (.ref C) (.ref cs.TooMany) = some (decide (j = 2))
 a3 : W.kitOne K (.ref C) (.ref cs.Twice) = some (decide (j = 3))
 a4 : W.kitOne K (.ref C) (.ref cs.NoName) = some (decide (j = 4))
 a5 : W.kitOne K (.ref C) (.ref cs.Clash) = some (decide (j = 5))
theorem xat_on {H H' : Hp} {x C : Addr} {od : Option Addr} (s : Same H H') (h : XAt H x C od) : XAt H' x C od := h.imp (s _ _) (s _ _)
def sp_l_names (_ : W.Frag) (cs : Cls) : Sp := fun vs H Q _ => ∃ (c : Int), vs = [.int c] ∧ ∀ (p : Addr) (ns : List Str) (H' : Hp), Same H H' → H' p = some (.lst (ns.map V.str)) → NamesOk ns → Q (.ref p) H'
def sp_l_cell_at (K : W.Frag) (cs : Cls) : Sp := fun vs H Q _ => ∃ (a : Addr) (ns : List Int) (k : Int), vs = [.ref a, .int k] ∧ SqL K H a (ns.map V.int) ∧ 0 ≤ k ∧ ∀ z : Int, Q (.int z) H
def sp_Clash_init (_ : W.Frag) (cs : Cls) : Sp := fun vs H Q _ => ∃ (z : Addr) (a b c : V), vs = [.ref z, a, b, c] ∧ H z = some (excN z cs.Clash none) ∧ ∀ (dd : Addr) (H' : Hp), H dd = none → H' z = some (excN z cs.Clash (some dd)) → H' dd = some (xdHO dd [("first", a), ("second", b), ("divisor", c)]) → (∀ y o, H y = some o → y ≠ z → H' y = some o) → Q .non H'
def sp_l_fields (K : W.Frag) (cs : Cls) : Sp := fun vs H Q _ => ∃ (x C : Addr) (od : Option Addr) (b : Bool), vs = [.ref x] ∧ XAt H x C od ∧ ExcCls K C ∧ W.kitOne K (.ref C) (.ref cs.Clash) = some b ∧
 (b = false → ∀ (p : Addr) (H' : Hp), Same H H' → H p = none → H' p = some (.lst []) → Q (.ref p) H') ∧
 (b = true → C = cs.Clash ∧ ∃ (dd : Addr) (a1 a2 a3 : V), od = some dd ∧ H dd = some (xdHO dd [("first", a1), ("second", a2), ("divisor", a3)]) ∧ ∀ (p : Addr) (H' : Hp), Same H H' → H p = none → H' p = some (.lst [a1, a2, a3]) → Q (.ref p) H')
def sp_l_kinds (K : W.Frag) (cs : Cls) : Sp := fun vs H Q _ => ∃ (x C : Addr) (od : Option Addr) (j : Nat), vs = [.ref x] ∧ XAt H x C od ∧ ExcCls K C ∧ KindOf K cs C j ∧ ∀ (p : Addr) (H' : Hp), Same H H' → H p = none → H' p = some (.lst (onlyV j)) → Q (.ref p) H'
def sp_l_only (_ : W.Frag) (cs : Cls) : Sp := fun vs H Q _ => ∃ (j : Nat), vs = [.int (j : Nat)] ∧ ∀ (p : Addr) (H' : Hp), Same H H' → H' p = some (.lst (onlyV j)) → Q (.ref p) H'
def sp_l_clash_made (_ : W.Frag) (cs : Cls) : Sp := fun vs H Q _ => ∃ (pn : Addr) (ns : List Str) (c : Int), vs = [.ref pn, .int c] ∧ H pn = some (.lst (ns.map V.str)) ∧ NamesOk ns ∧ ∀ H', Same H H' → Q (.bl true) H'
def sp_Tower_init (_ : W.Frag) (cs : Cls) : Sp := fun vs H Q _ => ∃ (p dx : Addr), vs = [.ref p] ∧ H p = some (.ins cs.Tower dx []) ∧ ∀ (d : Addr) (H' : Hp), H d = none → TwAt cs.Tower H' p d [] → (∀ b o, H b = some o → b ≠ p → H' b = some o) → Q .non H'
def sp_Tower_bells (_ : W.Frag) (cs : Cls) : Sp := fun vs H Q _ => ∃ (t d : Addr) (bl : List Bell), vs = [.ref t] ∧ TwAt cs.Tower H t d bl ∧ ∀ (l : Addr) (us : List V) (H' : Hp), Same H H' → H l = none → H' l = some (.lst us) → RwV H' us bl → Q (.ref l) H'
def sp_l_whole (_ : W.Frag) (cs : Cls) : Sp := fun vs H Q _ => ∃ (i : Int), vs = [.int i] ∧ Q (.bl true) H
def sp_l_is_beat (_ : W.Frag) (cs : Cls) : Sp := fun vs H Q _ => ∃ (a b : Addr) (r g : Int), vs = [.ref a, .ref b] ∧ H a = some (.tup [.int r, .int g]) ∧ H b = some (.tup [.int r, .int g]) ∧ Q (.bl true) H
def sp_l_bells (_ : W.Frag) (cs : Cls) : Sp := fun vs H Q _ => ∃ (t d r hd : Addr) (us hs : List V) (bl : List Bell) (em0 : Bool), vs = [.ref t, .ref r, .ref hd, .bl em0] ∧ TwAt cs.Tower H t d bl ∧ H r = some (.lst us) ∧ RwV H us bl ∧ bl.length ≤ 13 ∧ H hd = some (.lst hs) ∧ hs.length ≤ 500 ∧ ∀ (u : V) (H' : Hp), Ch [hd] H H' → H' hd = some (.lst (hs ++ [u])) → NewHeld H H' u → Q (.bl true) H'
def sp_Tower_take (_ : W.Frag) (cs : Cls) : Sp := fun vs H Q E => ∃ (t d : Addr) (n : Str) (bl : List Bell), vs = [.ref t, .str n] ∧ TwAt cs.Tower H t d bl ∧ n.length ≤ 100 ∧ (n ∉ bl.map (·.1) → ∀ H', Same H H' → E (.ref cs.NoName) none H') ∧
 (∀ (i : Nat) (b : Int × Int), bl[i]? = some (n, b) → ∀ (p : Addr) (H' : Hp), Ch [d] H H' → H' p = some (.tup [.int b.1, .int b.2]) → TwAt cs.Tower H' t d (bl.eraseIdx i) → Q (.ref p) H')
def sp_l_take (_ : W.Frag) (cs : Cls) : Sp := fun vs H Q _ => ∃ (t d r c : Addr) (bl : List Bell) (cn : Nat) (n : Str), vs = [.ref t, .ref r, .ref c, .str n] ∧ StAt cs.Tower H t d r c bl cn ∧ n.length ≤ 100 ∧ bl.length ≤ 13 ∧
 (n ∉ bl.map (·.1) → ∀ H', Same H H' → Q (.bl true) H') ∧
 (∀ (i : Nat) (b : Int × Int), bl[i]? = some (n, b) → ∀ (cn' : Nat) (H' : Hp), Ch [d, r, c] H H' → StAt cs.Tower H' t d r c (bl.eraseIdx i) cn' → Q (.bl true) H')
def sp_l_gap (_ : W.Frag) (cs : Cls) : Sp := fun vs H Q _ => ∃ (c : Int), vs = [.int c] ∧ ∀ (g : Int) (H' : Hp), Same H H' → -1000000000 ≤ g → g ≤ 1000000000 → Q (.int g) H'
def sp_beat (_ : W.Frag) (cs : Cls) : Sp := fun vs H Q E => ∃ (f g : Int), vs = [.int f, .int g] ∧ (g < 1 → E (.ref cs.NoBeat) none H) ∧ (¬ g < 1 → ∀ p, H p = none → Q (.ref p) (upd H p (.tup [.int (f % g), .int g])))
def sp_Tower_hang (_ : W.Frag) (cs : Cls) : Sp := fun vs H Q E => ∃ (t d : Addr) (n : Str) (f g : Int) (bl : List Bell), vs = [.ref t, .str n, .int f, .int g] ∧ TwAt cs.Tower H t d bl ∧ n.length ≤ 100 ∧ bl.length ≤ 60 ∧ (n ∈ bl.map (·.1) → ∀ H', Same H H' → E (.ref cs.Twice) none H') ∧ (n ∉ bl.map (·.1) → g < 1 → ∀ H', Same H H' → E (.ref cs.NoBeat) none H') ∧
 (n ∉ bl.map (·.1) → ¬ g < 1 → ∀ H', Ch [d] H H' → TwAt cs.Tower H' t d (bl ++ [(n, f % g, g)]) → Q .non H')
def sp_l_hang (_ : W.Frag) (cs : Cls) : Sp := fun vs H Q _ => ∃ (t d r : Addr) (us : List V) (bl : List Bell) (n : Str) (f g : Int) (pl : Bool), vs = [.ref t, .ref r, .str n, .int f, .int g, .bl pl] ∧ TwAt cs.Tower H t d bl ∧ H r = some (.lst us) ∧ RwV H us bl ∧ n.length ≤ 100 ∧ bl.length ≤ 13 ∧ (pl = true → g = 24) ∧
 (n ∈ bl.map (·.1) ∨ g < 1 → ∀ H', Same H H' → Q (.bl true) H') ∧
 (n ∉ bl.map (·.1) → ¬ g < 1 → ∀ H', Ch [d, r] H H' → TwAt cs.Tower H' t d (bl ++ [(n, f % g, g)]) → (∃ us', H' r = some (.lst us') ∧ RwV H' us' (bl ++ [(n, f % g, g)])) → Q (.bl true) H')
def sp_l_divisor (_ : W.Frag) (cs : Cls) : Sp := fun vs H Q _ => ∃ (a b : Int), vs = [.int a, .int b] ∧ 0 < a ∧ 0 ≤ b ∧ Q (.int (Int.gcd a b : Int)) H
def sp_l_trouble (_ : W.Frag) (cs : Cls) : Sp := fun vs H Q _ => ∃ (r c : Addr) (us : List V) (bl : List Bell) (cn : Nat), vs = [.ref r, .ref c] ∧ H r = some (.lst us) ∧ RwV H us bl ∧ H c = some (.lst [.int (cn : Nat)]) ∧ r ≠ c ∧ cn ≤ bl.length ∧ (∀ (i j : Nat) (x y : Bell), i < j → j < cn → bl[i]? = some x → bl[j]? = some y → ¬ KM.Cl x.2 y.2) ∧ (∀ b ∈ bl, BOk 60 b.2 ∧ b.1.length ≤ 100) ∧ bl.length ≤ 13 ∧
 (∀ (p : Addr) (H' : Hp), Ch [c] H H' → H p = none → H' p = some (.lst []) → H' c = some (.lst [.int (bl.length : Nat)]) → (∀ (i j : Nat) (x y : Bell), i < j → bl[i]? = some x → bl[j]? = some y → ¬ KM.Cl x.2 y.2) → Q (.ref p) H') ∧
 (∀ (i j : Nat) (dv : Int) (x y : Bell) (p : Addr) (H' : Hp), Ch [c] H H' → H p = none → KM.Apart (beatsOf bl) i j dv → bl[i]? = some x → bl[j]? = some y → H' p = some (.lst [.str x.1, .str y.1, .int dv]) → H' c = some (.lst [.int (j : Nat)]) → Q (.ref p) H')
def sp_next_from (_ : W.Frag) (cs : Cls) : Sp := fun vs H Q _ => ∃ (a : Addr) (r g m : Int), vs = [.ref a, .int m] ∧ H a = some (.tup [.int r, .int g]) ∧ 0 < g ∧ Q (.int (m + (r - m) % g)) H
def sp_rings (_ : W.Frag) (cs : Cls) : Sp := fun vs H Q _ => ∃ (a : Addr) (r g m : Int), vs = [.ref a, .int m] ∧ H a = some (.tup [.int r, .int g]) ∧ 0 < g ∧ Q (.bl (m % g == r)) H
def sp_Tower_next_any (_ : W.Frag) (cs : Cls) : Sp := fun vs H Q E => ∃ (t d : Addr) (m : Int) (bl : List Bell), vs = [.ref t, .int m] ∧ TwAt cs.Tower H t d bl ∧ (∀ b ∈ bl, BOk 60 b.2) ∧ bl.length ≤ 60 ∧ (bl = [] → ∀ H', Same H H' → E (.ref cs.NoBell) none H') ∧
 (bl ≠ [] → ∀ (s : Int) (p l : Addr) (H' : Hp), Same H H' → H' p = some (.tup [.int s, .ref l]) → H l = none → H' l = some (.lst ((bl.filter fun b => KM.rg s b.2).map fun b => V.str b.1)) → (∃ b ∈ bl, s = m + (b.2.1 - m) % b.2.2) → (∀ b ∈ bl, s ≤ m + (b.2.1 - m) % b.2.2) → Q (.ref p) H')
def sp_less_times (_ : W.Frag) (cs : Cls) : Sp := fun vs H Q _ => ∃ (a b : Addr) (m a0 a1 a2 b0 b1 b2 : Int), vs = [.ref a, .ref b, .int m] ∧ H a = some (.tup [.int a0, .int a1, .int a2]) ∧ H b = some (.tup [.int b0, .int b1, .int b2]) ∧
 IntMulOk m b0 ∧ IntMulOk m b1 ∧ IntMulOk m b2 ∧ ∀ p, H p = none → Q (.ref p) (upd H p (.tup [.int (a0 - m * b0), .int (a1 - m * b1), .int (a2 - m * b2)]))
/-- the weights of one and other stand at p -/
structure WtAt (H : Hp) (p : Addr) (one other d u v : Int) : Prop where
 at_ : H p = some (.tup [.int d, .int u, .int v])
 wt : KM.Wt one other d u v
 bu : u.natAbs ≤ one.natAbs + 2 * other.natAbs + 1
 bv : v.natAbs ≤ one.natAbs + 2 * other.natAbs + 1
def sp_weights (_ : W.Frag) (cs : Cls) : Sp := fun vs H Q _ => ∃ (one other : Int), vs = [.int one, .int other] ∧ one.natAbs < 2 ^ 8000 ∧ other.natAbs < 2 ^ 8000 ∧ ∀ (p : Addr) (d u v : Int) (H' : Hp), Same H H' → WtAt H' p one other d u v → Q (.ref p) H'
def sp_least_multiple (_ : W.Frag) (cs : Cls) : Sp := fun vs H Q _ => ∃ (a b : Int), vs = [.int a, .int b] ∧ 0 < a ∧ 0 < b ∧ a.natAbs < 2 ^ 4000 ∧ b.natAbs < 2 ^ 4000 ∧ ∀ (H' : Hp), Same H H' → Q (.int (a / (Int.gcd a b : Int) * b)) H'
/-- how the moments of both are told -/
def MetR (H : Hp) (r1 g1 r2 g2 : Int) (v : V) : Prop := (v = .non ∧ (r1 - r2) % (Int.gcd g1 g2 : Int) ≠ 0) ∨ (∃ (p : Addr) (x L : Int), v = .ref p ∧ H p = some (.tup [.int x, .int L]) ∧ KM.Meets r1 g1 r2 g2 x L ∧ (r1 - r2) % (Int.gcd g1 g2 : Int) = 0)
def sp_met (_ : W.Frag) (cs : Cls) : Sp := fun vs H Q _ => ∃ (a b : Addr) (r1 g1 r2 g2 : Int), vs = [.ref a, .ref b] ∧ H a = some (.tup [.int r1, .int g1]) ∧ H b = some (.tup [.int r2, .int g2]) ∧ 0 ≤ r1 ∧ r1 < g1 ∧ 0 ≤ r2 ∧ r2 < g2 ∧ g1.natAbs < 2 ^ 4000 ∧ g2.natAbs < 2 ^ 4000 ∧
 ∀ (v : V) (H' : Hp), Same H H' → MetR H' r1 g1 r2 g2 v → Q v H'
def sp_with_first (_ : W.Frag) (cs : Cls) : Sp := fun vs H Q _ => ∃ (a b : Addr) (n0 t : Int) (ns os : List Int), vs = [.ref a, .ref b, .int t] ∧ H a = some (.lst ((n0 :: ns).map V.int)) ∧ H b = some (.lst (os.map V.int)) ∧ os.length ≤ ns.length ∧ ns.length ≤ 200 ∧ 0 < n0 ∧ n0.natAbs < 2 ^ 8000 ∧ (∀ o ∈ os, o.natAbs < 2 ^ 8000) ∧ (∀ n ∈ ns, n.natAbs < 2 ^ 8000) ∧
 ∀ (p : Addr) (H' : Hp), Same H H' → H' p = some (.lst ((((t - KM.dot os ns) / n0) :: os).map V.int)) → Q (.ref p) H'
def sp_weights_of_shares (_ : W.Frag) (cs : Cls) : Sp := fun vs H Q _ => ∃ (a : Addr) (bs : List (Int × Int)) (B : Nat), vs = [.ref a] ∧ H a = some (.lst (bs.map fun b => V.int b.2)) ∧ (∀ b ∈ bs, BOk B b) ∧ B * bs.length ≤ 3900 ∧ bs.length ≤ 60 ∧
 ∀ (p : Addr) (ws : List Int) (H' : Hp), Same H H' → H' p = some (.lst (ws.map V.int)) → ws.length = bs.length → (bs ≠ [] → KM.wsum (KM.cgap bs) ws bs = 1) → (∀ w ∈ ws, w.natAbs < 2 ^ 1000000) → Q (.ref p) H'
/-- how a clash is told -/
def ClashR (r1 g1 r2 g2 : Int) (v : V) : Prop := (v = .non ∧ (r1 - r2) % (Int.gcd g1 g2 : Int) = 0) ∨ (v = .int (Int.gcd g1 g2 : Int) ∧ (r1 - r2) % (Int.gcd g1 g2 : Int) ≠ 0)
def sp_clash (_ : W.Frag) (cs : Cls) : Sp := fun vs H Q _ => ∃ (a b : Addr) (r1 g1 r2 g2 : Int), vs = [.ref a, .ref b] ∧ H a = some (.tup [.int r1, .int g1]) ∧ H b = some (.tup [.int r2, .int g2]) ∧ 0 < g1 ∧ 0 < g2 ∧ g1.natAbs < 2 ^ 4000 ∧ g2.natAbs < 2 ^ 4000 ∧
 ∀ (v : V) (H' : Hp), Same H H' → ClashR r1 g1 r2 g2 v → Q v H'
def sp_told_clash (K : W.Frag) (cs : Cls) : Sp := fun vs H Q _ => ∃ (a : Addr) (bs : List (Int × Int)) (B j : Nat), vs = [.ref a, .int (j : Nat)] ∧ Bs K H a bs ∧ (∀ b ∈ bs, BOk B b) ∧ B ≤ 3900 ∧ bs.length ≤ 60 ∧ (∃ (k : Nat) (b c : Int × Int), k < j ∧ bs[k]? = some b ∧ bs[j]? = some c ∧ KM.Cl b c) ∧
 ∀ (p : Addr) (i : Nat) (d : Int) (H' : Hp), Same H H' → H' p = some (.tup [.str "clash", .int (i : Nat), .int (j : Nat), .int d]) → i < j → (∀ b c, bs[i]? = some b → bs[j]? = some c → KM.Cl b c ∧ d = (Int.gcd b.2 c.2 : Int)) → (∀ m b c, m < i → bs[m]? = some b → bs[j]? = some c → ¬ KM.Cl b c) → Q (.ref p) H'
def sp_together (K : W.Frag) (cs : Cls) : Sp := fun vs H Q _ => ∃ (a : Addr) (bs : List (Int × Int)) (B : Nat), vs = [.ref a] ∧ Bs K H a bs ∧ (∀ b ∈ bs, BOk B b) ∧ B * bs.length ≤ 3900 ∧ bs.length ≤ 60 ∧ ∀ (p : Addr) (H' : Hp), Same H H' → TogR H' p bs → Q (.ref p) H'
def sp_Tower_next_together (_ : W.Frag) (cs : Cls) : Sp := fun vs H Q E => ∃ (t d : Addr) (m : Int) (bl : List Bell), vs = [.ref t, .int m] ∧ TwAt cs.Tower H t d bl ∧ (∀ b ∈ bl, BOk 60 b.2) ∧ bl.length ≤ 60 ∧
 (∀ (x L : Int) (ws : List Int), KM.Tog (beatsOf bl) x L ws → ∀ H', Same H H' → Q (.int (m + (x - m) % L)) H') ∧
 (∀ (i j : Nat) (dv : Int) (x y : Bell), KM.Apart (beatsOf bl) i j dv → bl[i]? = some x → bl[j]? = some y → ∀ (dd : Addr) (H' : Hp), Same H H' → H' dd = some (xdHO dd [("first", .str x.1), ("second", .str y.1), ("divisor", .int dv)]) → E (.ref cs.Clash) (some dd) H')
def sp_l_asked (K : W.Frag) (cs : Cls) : Sp := fun vs H Q E => ∃ (t d : Addr) (m : Int) (pl al : Bool) (bl : List Bell), vs = [.ref t, .int m, .bl pl, .bl al] ∧ TwAt cs.Tower H t d bl ∧ (pl = true → m = 0) ∧ (al = true → sp_Tower_next_together K cs [.ref t, .int m] H Q E) ∧ (al = false → sp_Tower_next_any K cs [.ref t, .int m] H Q E)
def sp_l_all_ring (_ : W.Frag) (cs : Cls) : Sp := fun vs H Q _ => ∃ (t d r c : Addr) (bl : List Bell) (cn : Nat) (m : Int) (pl : Bool), vs = [.ref t, .ref r, .ref c, .int m, .bl pl] ∧ StAt cs.Tower H t d r c bl cn ∧ bl.length ≤ 13 ∧ (pl = true → m = 0) ∧ ∀ (cn' : Nat) (H' : Hp), Ch [c] H H' → StAt cs.Tower H' t d r c bl cn' → Q (.bl true) H'
def sp_l_some_ring (_ : W.Frag) (cs : Cls) : Sp := fun vs H Q _ => ∃ (t d r hd : Addr) (us hs : List V) (bl : List Bell) (m : Int) (pl em0 : Bool), vs = [.ref t, .ref r, .int m, .bl pl, .ref hd, .bl em0] ∧ TwAt cs.Tower H t d bl ∧ H r = some (.lst us) ∧ RwV H us bl ∧ (∀ b ∈ bl, BOk 60 b.2 ∧ b.1.length ≤ 100) ∧ bl.length ≤ 13 ∧ (pl = true → m = 0) ∧ H hd = some (.lst hs) ∧ hs.length ≤ 500 ∧ r ≠ hd ∧
 (bl = [] → ∀ H', Same H H' → Q (.bl true) H') ∧ (bl ≠ [] → ∀ (u : V) (H' : Hp), Ch [hd] H H' → H' hd = some (.lst (hs ++ [u])) → NewHeld H H' u → Q (.bl true) H')
def sp_l_name (_ : W.Frag) (cs : Cls) : Sp := fun vs H Q _ => ∃ (r pn : Addr) (us : List V) (bl : List Bell) (ns : List Str) (num sh : Int), vs = [.ref r, .ref pn, .int num, .int sh] ∧ H r = some (.lst us) ∧ RwV H us bl ∧ (∀ b ∈ bl, BOk 60 b.2 ∧ b.1.length ≤ 100) ∧ H pn = some (.lst (ns.map V.str)) ∧ NamesOk ns ∧ ∀ n : Str, n.length ≤ 100 → Q (.str n) H
def sp_l_done (K : W.Frag) (cs : Cls) : Sp := fun vs H Q _ => ∃ (t d r c hd pn a : Addr) (bl : List Bell) (cn : Nat) (ns : List Str) (hs : List V) (cell : Int) (zs : List Int), vs = [.ref t, .ref r, .ref c, .ref pn, .int cell, .ref a, .ref hd] ∧ StAt cs.Tower H t d r c bl cn ∧ bl.length ≤ 12 ∧ H pn = some (.lst (ns.map V.str)) ∧ NamesOk ns ∧ SqL K H a (zs.map V.int) ∧ H hd = some (.lst hs) ∧ hs.length ≤ 400 ∧ r ≠ hd ∧ c ≠ hd ∧
 ∀ (bl' : List Bell) (cn' : Nat) (H' : Hp), Ch [d, r, c, hd] H H' → StAt cs.Tower H' t d r c bl' cn' → bl'.length ≤ 12 → HeldStep H H' hd hs → Q (.bl true) H'
def sp_l_new_name (_ : W.Frag) (cs : Cls) : Sp := fun vs H Q _ => ∃ (r pn : Addr) (us : List V) (bl : List Bell) (ns : List Str), vs = [.ref r, .ref pn] ∧ H r = some (.lst us) ∧ RwV H us bl ∧ bl.length ≤ 13 ∧ H pn = some (.lst (ns.map V.str)) ∧ NamesOk ns ∧ ∀ (n : Str) (H' : Hp), Same H H' → n.length ≤ 100 → n ∉ bl.map (·.1) → Q (.str n) H'
def sp_l_made_good (_ : W.Frag) (cs : Cls) : Sp := fun vs H Q _ => ∃ (t d r c hd pn : Addr) (bl : List Bell) (cn : Nat) (ns : List Str) (hs : List V) (m : Int), vs = [.ref t, .ref r, .ref c, .ref pn, .int m, .ref hd] ∧ StAt cs.Tower H t d r c bl cn ∧ bl.length ≤ 12 ∧ H pn = some (.lst (ns.map V.str)) ∧ NamesOk ns ∧ H hd = some (.lst hs) ∧ hs.length ≤ 400 ∧ r ≠ hd ∧ c ≠ hd ∧ pn ∉ [d, r, c, hd] ∧
 ∀ (bl' : List Bell) (cn' : Nat) (u1 u2 : V) (H' : Hp), Ch [d, r, c, hd] H H' → StAt cs.Tower H' t d r c bl' cn' → bl'.length ≤ 12 → H' hd = some (.lst (hs ++ [u1] ++ [u2])) → NewHeld H H' u1 → NewHeld H H' u2 → Q (.bl true) H'
def sp_law (K : W.Frag) : Sp := fun vs H Q _ => ∃ (a : Addr) (ns : List Int), vs = [.ref a] ∧ SqL K H a (ns.map V.int) ∧ ns.length ≤ 63 ∧ ∀ H', Q (.bl true) H'
section
variable {P : Program} {w : World} {K : W.Frag} {mg : Str → Option Value} {base : Heap}
theorem sc_l_names : FnScope ["_law_cell", "_law_letters", "_law_base", "_law_k", "_law_at", "_law_names_here", "_law_more", "_law_name_here", "_law_other"] ["_law_cell"] (defScope s_l_names) := ⟨rfl, rfl, rfl, by decide +kernel, rfl, by decide +kernel, by decide +kernel⟩
set_option maxHeartbeats 4000000 in
theorem ok_l_names {f : Addr} {fd : FuncData} {cs : Cls} (F : Fun K "_law_names" "_law_names" s_l_names f fd) (T : Txt K mg cs)  : FnOk P w K mg base CX0 1 f fd ["_law_cell"] (sp_l_names K cs) := by
 refine F.ok sc_l_names (fun vs H Q E h => ?_) (fun cdv A outer s H vs Q E hr h => ?_)
 ·obtain ⟨c, rfl, _⟩ := h
  rfl
 ·obtain ⟨c, rfl, k⟩ := h
  refine ⟨_, (pss_cons (ps_set (i := 1) sc_l_names.nd rfl (Or.inl rfl) pe_str)
   (pss_cons (ps_set (i := 2) sc_l_names.nd rfl (Or.inr rfl) pe_str)
   (pss_cons (ps_for PassesOwn.never rfl (pi_range1 rfl T.n_range (pa_cons (pe_op op_add pe_int (pe_op op_mod (pv 0) pe_int)) pa_nil)) (pg_name (i := 3) sc_l_names.nd rfl (Or.inl rfl)) (pss_one (ps_set (i := 2) sc_l_names.nd rfl (Or.inr rfl) (pe_op op_add_str (pv 2) (pe_ix ix_str (pv 1) (pe_op op_mod (pe_op op_add (pe_op op_fdivB (pv 0) pe_int) (pe_op op_mulB (pe_op op_mulB (pv 3) (pv 3)) (pe_op op_add pe_int (pe_op op_mod (pe_op op_fdivB (pv 0) pe_int) pe_int)))) pe_int) (fun _ _ => rfl))))))
   (pss_cons (ps_set (i := 4) sc_l_names.nd rfl (Or.inr rfl) (pe_op op_mod (pe_op op_fdivB (pv 0) pe_int) (pe_callB call_len_str rfl T.n_len bt_len (pa_cons (pv 2) pa_nil))))
   (pss_cons (ps_setcomp (i := 5) sc_l_names.nd rfl rfl rfl (pi_str (pv 1)) (by refine ⟨rfl, by decide +kernel, rfl, by decide +kernel, rfl, (List.forall_mem_cons.mpr ⟨rfl, List.forall_mem_cons.mpr ⟨rfl, List.forall_mem_nil _⟩⟩), rfl, (cap_cons ⟨rfl, rfl, rfl, rfl⟩ (cap_cons ⟨rfl, rfl, rfl, rfl⟩ cap_nil)), by decide +kernel, rfl⟩ : CompOk _ _ _ "_law_sign" ["_law_base", "_law_at"] [2, 4]) (fun _ _ _ => (pe_op op_add_str (pe_op op_add_str (pe_slice sl_str (pv 1) po_none (po_some (pv 2))) (pv 0)) (pe_slice sl_str (pv 1) (po_some (pe_op op_add (pv 2) pe_int)) po_none))))
   (pss_cons (ps_set (i := 6) sc_l_names.nd rfl (Or.inl rfl) (pe_ix ix_str (pv 1) (pe_op op_mod (pe_op op_fdivB (pv 0) pe_int) pe_int) (fun _ _ => rfl)))
   (pss_cons (ps_for PassesOwn.never rfl (pi_list (pe_slice sl_list (pv 5) po_none (po_some pe_int))) (pg_name (i := 7) sc_l_names.nd rfl (Or.inl rfl)) (pss_one (ps_for PassesOwn.never rfl (pi_list (pe_lst (pa_cons (pe_op op_add_str (pv 7) (pv 6)) (pa_cons (pe_op op_add_str (pv 6) (pv 7)) pa_nil)))) (pg_name (i := 8) sc_l_names.nd rfl (Or.inl rfl)) (pss_one (ps_if (pt_cmpR op_notIn_seq (pv 8) (pv 5) (by with_unfolding_all rfl)) (pss_one (ps_set (i := 5) sc_l_names.nd rfl (Or.inl rfl) (pe_op op_cat (pv 5) (pe_lst (pa_cons (pv 8) pa_nil))))) pss_nil)))))
   (pss_one (ps_ret (pv 5)))))))))), ?_⟩
  have r19 := em (x := c) (g := 19) (by decide)
  refine ⟨_, rfl, _, _, rfl, rfl, (by walk_at "sd"), _, _, rfl, rfl, _, rfl, by omega, by omega, ?_⟩
  refine for_range (lo := 0) (n := (1 + c % 19).toNat) (fun i σ HL => ∃ (b : Str) (x1 : Option V), σ = [some (.int c), some (.str letters), some (.str b), x1, none, none, none, none, none] ∧ HL = H ∧ b.length = i) ⟨Str.empty, none, rfl, rfl, rfl⟩ ?_ ?_
  ·rintro i σ HL hi ⟨b, x1, rfl, rfl, hb⟩
   have m1 : IntMulOk (0 + (i : Int)) (0 + (i : Int)) := mulOk_l (by omega) (by omega)
   have rm := em (x := c / 7) (g := 5) (by decide)
   have m2 : IntMulOk ((0 + (i : Int)) * (0 + (i : Int))) (1 + c / 7 % 5) := mulOk_r (by omega) (by omega)
   obtain ⟨ch, hch⟩ := letter_at (em (x := c / 361 + (0 + (i : Int)) * (0 + (i : Int)) * (1 + c / 7 % 5)) (g := 26) (by decide))
   refine ⟨_, rfl, _, rfl, _, rfl, _, _, rfl, rfl, (by walk_at "sd"), _, rfl, _, rfl, _, _, rfl, rfl, (by walk_at "sd"), _, rfl, _, _, rfl, rfl, (by walk_at "sd"), _, _, rfl, rfl, (by walk_at "sd"), _, _, rfl, rfl, _, _, rfl, rfl, m2, _, _, rfl, rfl, _, _, rfl, rfl, (by walk_at "sd"), ?_⟩
   refine ⟨_, _, _, rfl, rfl, len_ok (by decide), hch, _, _, rfl, rfl, len_ok (by rw [hb]; show i + 1 ≤ 1000; omega), ?_⟩
   exact ⟨b ++ ⟨#[ch]⟩, _, rfl, rfl, by rw [strLen_append, hb]; rfl⟩
  ·rintro σ HL ⟨b, x1, rfl, rfl, hb⟩
   have hbl : b.length ≤ 19 := by omega
   have hb0 : (0 : Int) < (b.length : Int) := by omega
   refine ⟨_, rfl, _, _, rfl, rfl, (by walk_at "sd"), _, rfl, ?_⟩
   refine ⟨_, rfl, len_ok (by omega), _, _, rfl, rfl, hb0, ?_⟩
   have h26 : letters.cps.size = 26 := by decide +kernel
   refine ⟨_, rfl, _, rfl, letters_ascii, fun D hD => ?_⟩
   generalize hP : Txt.slice b none (some (c / 19 % (b.length : Int))) = P0
   generalize hS : Txt.slice b (some (c / 19 % (b.length : Int) + 1)) none = S0
   have lP : P0.length ≤ 19 := by rw [← hP]; exact Nat.le_trans (Txt.slice_le b _ _) hbl
   have lS : S0.length ≤ 19 := by rw [← hS]; exact Nat.le_trans (Txt.slice_le b _ _) hbl
   refine comp_str (x := letters) (fun i ys HC => Same HL HC ∧ HC D = some (.lst ys) ∧ ys = ((letters.cps.toList.take i).map fun ch => P0 ++ ⟨#[ch]⟩ ++ S0).map V.str) ⟨Same.new hD, upd_same, rfl⟩ (fun i ys HC hi ⟨q1, q2, q3⟩ => ⟨q2, by rw [q3]; simp only [List.length_map, List.length_take, Array.length_toList]; exact small1000 (by omega)⟩) ?_ ?_
   ·rintro i ch ys HC hch ⟨q1, q2, q3⟩
    refine ⟨_, rfl, _, rfl, _, rfl, _, rfl, len_ok (by omega), _, rfl, _, _, rfl, rfl, ?_, _, rfl, _, rfl, _, _, rfl, rfl, _, rfl, _, rfl, len_ok (by omega), _, _, rfl, rfl, ?_, ?_⟩
    ·rw [hP]
     exact len_ok (by show P0.length + 1 ≤ 1000; omega)
    ·rw [hP, hS, strLen_append]
     exact len_ok (by show P0.length + 1 + S0.length ≤ 1000; omega)
    ·rw [hP, hS]
     refine ⟨q2, q1.own hD, upd_same, ?_⟩
     rw [q3, KM.take_snoc (x := ch) (by rw [← hch, Array.getElem?_toList])]
     simp
   ·rintro ys HC ⟨q1, q2, q3⟩
    rw [List.take_of_length_le (by simp)] at q3
    subst q3
    obtain ⟨ch, hch⟩ := letter_at (em (x := c / 361) (g := 26) (by decide))
    refine ⟨_, rfl, _, rfl, _, _, rfl, rfl, (by walk_at "sd"), _, _, rfl, rfl, (by walk_at "sd"), ?_⟩
    refine ⟨_, _, _, rfl, rfl, len_ok (by decide), hch, ?_⟩
    have nok := names_ok (P := P0) (S := S0) lP lS
    generalize hn0 : (letters.cps.toList.map fun ch => P0 ++ (⟨#[ch]⟩ : Str) ++ S0) = n0 at *
    have n0l : n0.length = 26 := by rw [← hn0, List.length_map, Array.length_toList]; exact h26
    refine ⟨_, rfl, _, rfl, _, _, rfl, (by walk_at "ls"), fun p1 hp1 => ?_⟩
    rw [show cutV (n0.map V.str) none (some 3) = (n0.take 3).map V.str from (cut_take _ 3 (by rw [List.length_map]; omega)).trans (by rw [List.map_take])]
    have mo : ∀ n ∈ n0.take 3, n.length ≤ 39 := fun n hn => nok.2 n (List.mem_of_mem_take hn)
    refine ⟨_, rfl, ⟨_, SqL.of upd_same⟩, ?_⟩
    refine for_list (xs := (n0.take 3).map V.str) (fun i σ HL2 => ∃ (ns : List Str) (pl : Addr) (x1 x2 x3 : Option V), σ = [some (.int c), some (.str letters), some (.str b), x1, some (.int (c / 19 % (b.length : Int))), some (.ref pl), some (.str ⟨#[ch]⟩), x2, x3] ∧ Same (upd HC p1 (.lst ((n0.take 3).map V.str))) HL2 ∧ HL2 pl = some (.lst (ns.map V.str)) ∧ ns.take 26 = n0 ∧ ns.length ≤ 26 + 2 * i ∧ ∀ n ∈ ns, n.length ≤ 100) ⟨n0, D, _, _, _, rfl, Same.refl _, get_new q2 hp1, List.take_of_length_le (by omega), by omega, fun n hn => Nat.le_trans (nok.2 n hn) (by decide)⟩ (fun i σ HL2 _ ⟨_, _, _, _, _, _, s, _⟩ => SqL.of (s _ _ upd_same)) ?_ ?_
    ·rintro i v σ HL2 hv ⟨ns, pl, x1, x2, x3, rfl, s, hpl, ht, hl, hlen⟩
     rw [List.getElem?_map] at hv
     obtain ⟨nm, en, rfl⟩ := Option.map_eq_some_iff.mp hv
     have hi3 : i < 3 := by have := (List.getElem?_eq_some_iff.mp en).1; rw [List.length_take] at this; omega
     have hnm := mo nm (List.mem_of_getElem? en)
     refine ⟨_, rfl, _, rfl, _, _, rfl, rfl, len_ok (by show nm.length + 1 ≤ 1000; omega), _, rfl, _, rfl, _, _, rfl, rfl, len_ok (by show 1 + nm.length ≤ 1000; omega), len_ok (Nat.le_of_ble_eq_true rfl), fun p2 hp2 => ?_⟩
     refine ⟨_, rfl, ⟨_, SqL.of upd_same⟩, ?_⟩
     have hos : ∀ o ∈ [nm ++ (⟨#[ch]⟩ : Str), (⟨#[ch]⟩ : Str) ++ nm], o.length ≤ 100 := fun o ho => by
      simp only [List.mem_cons, List.not_mem_nil, or_false] at ho
      rcases ho with rfl | rfl
      ·rw [strLen_append]; show nm.length + 1 ≤ 100; omega
      ·rw [strLen_append]; show 1 + nm.length ≤ 100; omega
     refine for_list (xs := [V.str (nm ++ (⟨#[ch]⟩ : Str)), V.str ((⟨#[ch]⟩ : Str) ++ nm)]) (fun j σ HL3 => ∃ (ns : List Str) (pl : Addr) (x3 : Option V), σ = [some (.int c), some (.str letters), some (.str b), x1, some (.int (c / 19 % (b.length : Int))), some (.ref pl), some (.str ⟨#[ch]⟩), some (.str nm), x3] ∧ Same (upd HL2 p2 (.lst [V.str (nm ++ (⟨#[ch]⟩ : Str)), V.str ((⟨#[ch]⟩ : Str) ++ nm)])) HL3 ∧ HL3 pl = some (.lst (ns.map V.str)) ∧ ns.take 26 = n0 ∧ ns.length ≤ 26 + 2 * i + j ∧ ∀ n ∈ ns, n.length ≤ 100) ⟨ns, pl, _, rfl, Same.refl _, get_new hpl hp2, ht, by omega, hlen⟩ (fun j σ HL3 _ ⟨_, _, _, _, s', _⟩ => SqL.of (s' _ _ upd_same)) ?_ ?_
     ·rintro j v σ HL3 hv ⟨ns, pl, x3, rfl, s3, hpl, ht, hl, hlen⟩
      obtain ⟨o, eo, rfl⟩ : ∃ o, [nm ++ (⟨#[ch]⟩ : Str), (⟨#[ch]⟩ : Str) ++ nm][j]? = some o ∧ v = .str o := by
       have hv' : ([nm ++ (⟨#[ch]⟩ : Str), (⟨#[ch]⟩ : Str) ++ nm].map V.str)[j]? = some v := hv
       rw [List.getElem?_map] at hv'
       obtain ⟨w, ew, e⟩ := Option.map_eq_some_iff.mp hv'
       exact ⟨w, ew, e.symm⟩
      have ho := hos o (List.mem_of_getElem? eo)
      have hj2 : j < 2 := by have := (List.getElem?_eq_some_iff.mp eo).1; simpa using this
      have nl26 : 26 ≤ ns.length := by
       have := congrArg List.length ht
       rw [List.length_take, n0l] at this
       omega
      have hfl : (ns.map V.str).all flatV = true := by
       rw [List.all_map]
       exact List.all_eq_true.mpr fun _ _ => rfl
      refine ⟨_, rfl, _, rfl, _, _, rfl, .inl (SqL.of hpl), rfl, hfl, _, rfl, ?_⟩
      refine ite2 (fun h => ?_) (fun h => ?_)
      ·refine ⟨_, rfl, _, rfl, (by walk_at "sz"), fun p2 hp2 => ?_⟩
       refine ⟨_, _, _, _, rfl, rfl, get_new hpl hp2, upd_same, len_ok (by simp; omega), fun p4 hp4 => ?_⟩
       exact ⟨ns ++ [o], p4, _, rfl, (s3.on hp2).on hp4, by rw [upd_same]; simp, by rw [List.take_append_of_le_length nl26]; exact ht, by simp; omega, fun n hn => by
        rcases List.mem_append.mp hn with z | z
        ·exact hlen n z
        ·rw [List.mem_singleton.mp z]; exact ho⟩
      ·exact ⟨ns, pl, _, rfl, s3, hpl, ht, by omega, hlen⟩
     ·rintro σ HL3 ⟨ns, pl, x3, rfl, s3, hpl, ht, hl, hlen⟩
      exact ⟨ns, pl, _, _, _, rfl, (s.on hp2).trans s3, hpl, ht, (by show ns.length ≤ 26 + 2 * (i + 1); have : ns.length ≤ 26 + 2 * i + 2 := hl; omega), hlen⟩
    ·rintro σ HL2 ⟨ns, pl, x1, x2, x3, rfl, s, hpl, ht, hl, hlen⟩
     have nl26 : 26 ≤ ns.length := by
      have := congrArg List.length ht
      rw [List.length_take, n0l] at this
      omega
     have l3 : ((n0.take 3).map V.str).length ≤ 3 := by rw [List.length_map, List.length_take]; omega
     refine ⟨_, rfl, ?_⟩
     exact k pl ns _ ((q1.on hp1).trans s) hpl ⟨nl26, by omega, by rw [ht]; exact nok.1, hlen⟩
theorem sc_l_cell_at : FnScope ["_law_script", "_law_k"] ["_law_script", "_law_k"] (defScope s_l_cell_at) := ⟨rfl, rfl, rfl, by decide +kernel, rfl, by decide +kernel, by decide +kernel⟩
set_option maxHeartbeats 4000000 in
theorem ok_l_cell_at {f : Addr} {fd : FuncData} {cs : Cls} (F : Fun K "_law_cell_at" "_law_cell_at" s_l_cell_at f fd) (T : Txt K mg cs)  : FnOk P w K mg base CX0 1 f fd ["_law_script", "_law_k"] (sp_l_cell_at K cs) := by
 refine F.ok sc_l_cell_at (fun vs H Q E h => ?_) (fun cdv A outer s H vs Q E hr h => ?_)
 ·obtain ⟨a, ns, k, rfl, _⟩ := h
  rfl
 ·obtain ⟨a, ns, k, rfl, hS, h0, kk⟩ := h
  refine ⟨_, (pss_cons (ps_if (pt_cmpR op_lt (pv 1) (pe_callB call_len_seq rfl T.n_len bt_len (pa_cons (pv 0) pa_nil)) (nomark _)) (pss_one (ps_ret (pe_ix ix_list (pv 0) (pv 1) (fun _ _ => rfl)))) pss_nil)
   (pss_one (ps_ret pe_int))), ?_⟩
  refine ⟨_, rfl, _, rfl, _, _, rfl, (by walk_at "ln"), _, _, rfl, rfl, _, rfl, ?_⟩
  refine ite2 (fun h => ?_) (fun h => ?_)
  ·have h' := b_of h
   rw [List.length_map] at h'
   obtain ⟨z, hz⟩ := int_atD h0 h'
   refine ⟨_, rfl, _, rfl, _, _, _, _, rfl, rfl, (by walk_at "sq"), (by walk_at "at"), ?_⟩
   exact kk z
  ·exact kk 0
theorem sc_Clash_init : FnScope ["self", "first", "second", "divisor"] ["self", "first", "second", "divisor"] (defScope s_Clash_init) := ⟨rfl, rfl, rfl, by decide +kernel, rfl, by decide +kernel, by decide +kernel⟩
set_option maxHeartbeats 4000000 in
theorem ok_Clash_init {f : Addr} {fd : FuncData} {cs : Cls} (F : Fun K "__init__" "Clash.__init__" s_Clash_init f fd) (T : Txt K mg cs)  : FnOk P w K mg base CX0 1 f fd ["self", "first", "second", "divisor"] (sp_Clash_init K cs) := by
 refine F.ok sc_Clash_init (fun vs H Q E h => ?_) (fun cdv A outer s H vs Q E hr h => ?_)
 ·obtain ⟨z, a, b, c, rfl, _⟩ := h
  rfl
 ·obtain ⟨z, a, b, c, rfl, hz, k⟩ := h
  refine ⟨_, (pss_cons (ps_xfld (pv 0) (pv 1) rfl)
   (pss_cons (ps_xfld (pv 0) (pv 2) rfl)
   (pss_one (ps_xfld (pv 0) (pv 3) rfl)))), ?_⟩
  refine ⟨_, rfl, _, rfl, z, cs.Clash, rfl, T.xc_Clash, T.na_Clash_first, .inl ⟨hz, fun d hd => ?_⟩⟩
  have nzd : z ≠ d := ne_of_none hz hd
  refine ⟨_, rfl, _, rfl, z, cs.Clash, rfl, T.xc_Clash, T.na_Clash_second, .inr ⟨d, _, upd_same, by rw [upd_ne nzd.symm, upd_same], by show 1 < 1000; decide, ?_⟩⟩
  refine ⟨_, rfl, _, rfl, z, cs.Clash, rfl, T.xc_Clash, T.na_Clash_divisor, .inr ⟨d, _, by rw [upd_ne nzd, upd_same], upd_same, ?_, ?_⟩⟩
  ·rw [put_second]
   show 2 < 1000
   decide
  ·refine k d _ hd (by rw [upd_ne nzd, upd_ne nzd, upd_same]) (by rw [upd_same, put_second, put_divisor]) fun y o e hy => ?_
   rw [upd_ne (ne_of_none e hd), upd_ne (ne_of_none e hd), upd_ne hy, upd_ne (ne_of_none e hd)]
   exact e
theorem sc_l_fields : FnScope ["_law_e"] ["_law_e"] (defScope s_l_fields) := ⟨rfl, rfl, rfl, by decide +kernel, rfl, by decide +kernel, by decide +kernel⟩
set_option maxHeartbeats 4000000 in
theorem ok_l_fields {f : Addr} {fd : FuncData} {cs : Cls} (F : Fun K "_law_fields" "_law_fields" s_l_fields f fd) (T : Txt K mg cs)  : FnOkH P w K mg base CX0 1 f fd ["_law_e"] (sp_l_fields K cs) := by
 refine F.okH sc_l_fields (fun vs H Q E h => ?_) (fun cdv A outer s H vs Q E hr h => ?_)
 ·obtain ⟨x, C, od, b, rfl, _⟩ := h
  rfl
 ·obtain ⟨x, C, od, b, rfl, hx, Z, hk, k0, k1⟩ := h
  refine ⟨_, (pss_cons (ps_if (pt_val (pe_callB (call_isinstE (K := K) rfl) rfl T.n_isinstance bt_isinstance (pa_cons (pv 0) (pa_cons (pe_glob (v := .ref cs.Clash) rfl T.m_Clash rfl) pa_nil)))) (pss_one (ps_ret (pe_lst (pa_cons (pe_xfld (pv 0) rfl) (pa_cons (pe_xfld (pv 0) rfl) (pa_cons (pe_xfld (pv 0) rfl) pa_nil)))))) pss_nil)
   (pss_one (ps_ret (pe_lst pa_nil)))), ?_⟩
  refine ⟨_, rfl, _, _, _, _, _, _, rfl, rfl, hx, Z, hk, _, rfl, ?_⟩
  cases b with
  | true =>
   refine iteT ?_
   obtain ⟨rfl, dd, a1, a2, a3, rfl, hdd, k1⟩ := k1 rfl
   refine ⟨_, rfl, _, _, _, _, _, rfl, hx, T.e_Clash, T.xc_Clash, T.na_Clash_first, hdd, lk_first, _, rfl, _, _, _, _, _, rfl, hx, T.e_Clash, T.xc_Clash, T.na_Clash_second, hdd, lk_second, _, rfl, _, _, _, _, _, rfl, hx, T.e_Clash, T.xc_Clash, T.na_Clash_divisor, hdd, lk_divisor, len_ok (Nat.le_of_ble_eq_true rfl), fun p1 hp1 => ?_⟩
   exact k1 p1 _ (Same.new hp1) hp1 upd_same
  | false =>
   refine iteF ?_
   refine ⟨len_ok (Nat.le_of_ble_eq_true rfl), fun p1 hp1 => ?_⟩
   exact k0 rfl p1 _ (Same.new hp1) hp1 upd_same
theorem sc_l_kinds : FnScope ["_law_e", "_law_kinds_here"] ["_law_e"] (defScope s_l_kinds) := ⟨rfl, rfl, rfl, by decide +kernel, rfl, by decide +kernel, by decide +kernel⟩
set_option maxHeartbeats 4000000 in
theorem ok_l_kinds {f : Addr} {fd : FuncData} {cs : Cls} (F : Fun K "_law_kinds" "_law_kinds" s_l_kinds f fd) (T : Txt K mg cs)  : FnOkH P w K mg base CX0 1 f fd ["_law_e"] (sp_l_kinds K cs) := by
 refine F.okH sc_l_kinds (fun vs H Q E h => ?_) (fun cdv A outer s H vs Q E hr h => ?_)
 ·obtain ⟨x, C, od, j, rfl, _⟩ := h
  rfl
 ·obtain ⟨x, C, od, j, rfl, hx, Z, kd, k⟩ := h
  refine ⟨_, (pss_cons (ps_set (i := 1) sc_l_kinds.nd rfl (Or.inl rfl) (pe_lst (pa_cons (pe_callB (call_isinstE (K := K) rfl) rfl T.n_isinstance bt_isinstance (pa_cons (pv 0) (pa_cons (pe_bltn (v := .ty "ValueError") rfl T.n_ValueError bt_ValueError rfl) pa_nil))) (pa_cons (pe_callB (call_isinstE (K := K) rfl) rfl T.n_isinstance bt_isinstance (pa_cons (pv 0) (pa_cons (pe_glob (v := .ref cs.NoBeat) rfl T.m_NoBeat rfl) pa_nil))) (pa_cons (pe_callB (call_isinstE (K := K) rfl) rfl T.n_isinstance bt_isinstance (pa_cons (pv 0) (pa_cons (pe_glob (v := .ref cs.NoBell) rfl T.m_NoBell rfl) pa_nil))) (pa_cons (pe_callB (call_isinstE (K := K) rfl) rfl T.n_isinstance bt_isinstance (pa_cons (pv 0) (pa_cons (pe_glob (v := .ref cs.TooMany) rfl T.m_TooMany rfl) pa_nil))) pa_nil))))))
   (pss_one (ps_ret (pe_op op_cat (pv 1) (pe_lst (pa_cons (pe_callB (call_isinstE (K := K) rfl) rfl T.n_isinstance bt_isinstance (pa_cons (pv 0) (pa_cons (pe_glob (v := .ref cs.Twice) rfl T.m_Twice rfl) pa_nil))) (pa_cons (pe_callB (call_isinstE (K := K) rfl) rfl T.n_isinstance bt_isinstance (pa_cons (pv 0) (pa_cons (pe_glob (v := .ref cs.NoName) rfl T.m_NoName rfl) pa_nil))) (pa_cons (pe_callB (call_isinstE (K := K) rfl) rfl T.n_isinstance bt_isinstance (pa_cons (pv 0) (pa_cons (pe_glob (v := .ref cs.Clash) rfl T.m_Clash rfl) pa_nil))) pa_nil)))))))), ?_⟩
  refine ⟨_, rfl, _, _, _, _, _, _, rfl, rfl, hx, Z, kd.v, _, rfl, _, _, _, _, _, _, rfl, rfl, hx, Z, kd.a0, _, rfl, _, _, _, _, _, _, rfl, rfl, hx, Z, kd.a1, _, rfl, _, _, _, _, _, _, rfl, rfl, hx, Z, kd.a2, len_ok (Nat.le_of_ble_eq_true rfl), fun p1 hp1 => ?_⟩
  have hx1 := xat_on (Same.new hp1 (o := .lst [.bl true, .bl (decide (j = 0)), .bl (decide (j = 1)), .bl (decide (j = 2))])) hx
  refine ⟨_, rfl, _, rfl, _, _, _, _, _, _, rfl, rfl, hx1, Z, kd.a3, _, rfl, _, _, _, _, _, _, rfl, rfl, hx1, Z, kd.a4, _, rfl, _, _, _, _, _, _, rfl, rfl, hx1, Z, kd.a5, len_ok (Nat.le_of_ble_eq_true rfl), fun p2 hp2 => ?_⟩
  refine ⟨_, _, _, _, rfl, rfl, get_new upd_same hp2, upd_same, len_ok (Nat.le_of_ble_eq_true rfl), fun p3 hp3 => ?_⟩
  exact k p3 _ (((Same.new hp1).on hp2).on hp3) (((Same.new hp1).on hp2).free hp3) upd_same
theorem sc_l_only : FnScope ["_law_place"] ["_law_place"] (defScope s_l_only) := ⟨rfl, rfl, rfl, by decide +kernel, rfl, by decide +kernel, by decide +kernel⟩
set_option maxHeartbeats 4000000 in
theorem ok_l_only {f : Addr} {fd : FuncData} {cs : Cls} (F : Fun K "_law_only" "_law_only" s_l_only f fd) (T : Txt K mg cs)  : FnOk P w K mg base CX0 1 f fd ["_law_place"] (sp_l_only K cs) := by
 refine F.ok sc_l_only (fun vs H Q E h => ?_) (fun cdv A outer s H vs Q E hr h => ?_)
 ·obtain ⟨j, rfl, _⟩ := h
  rfl
 ·obtain ⟨j, rfl, k⟩ := h
  refine ⟨_, (pss_one (ps_ret (pe_op op_cat (pe_lst (pa_cons pe_bl pa_nil)) (pe_comp rfl (pi_range1 rfl T.n_range (pa_cons pe_int pa_nil)) (by refine ⟨rfl, by decide +kernel, rfl, by decide +kernel, rfl, (List.forall_mem_cons.mpr ⟨rfl, List.forall_mem_nil _⟩), rfl, (cap_cons ⟨rfl, rfl, rfl, rfl⟩ cap_nil), by decide +kernel, rfl⟩ : CompOk _ _ _ "_law_k" ["_law_place"] [0]) (fun _ _ _ => (pe_cmpR op_eq (pv 0) (pv 1) (nomark _))))))), ?_⟩
  refine ⟨len_ok (Nat.le_of_ble_eq_true rfl), fun p1 hp1 => ?_⟩
  refine ⟨6, rfl, by decide, by decide, fun D hD => ?_⟩
  refine comp_range (lo := 0) (n := 6) (fun i ys HC => Same (upd H p1 (.lst [.bl true])) HC ∧ HC D = some (.lst ys) ∧ ys = (List.range i).map fun m => V.bl (decide (j = m))) ⟨Same.new hD, upd_same, rfl⟩ (fun i ys HC hi ⟨q1, q2, q3⟩ => ⟨q2, by rw [q3]; simp only [List.length_map, List.length_range]; exact small1000 (by omega)⟩) ?_ ?_
  ·rintro i ys HC hi ⟨q1, q2, q3⟩
   refine ⟨_, rfl, _, rfl, rfl, q2, q1.own hD, upd_same, ?_⟩
   rw [q3, List.range_succ, List.map_append]
   have e : decide (V.int (0 + (i : Int)) = V.int (j : Nat)) = decide (j = i) := by
    by_cases h : j = i
    ·subst h; simp
    ·rw [decide_eq_false h, decide_eq_false (fun z => h (by have := V.int.inj z; omega))]
   rw [e]
   rfl
  ·rintro ys HC ⟨q1, q2, q3⟩
   refine ⟨_, _, _, _, rfl, rfl, q1 _ _ upd_same, q2, len_ok (by rw [q3]; simp), fun p3 hp3 => ?_⟩
   refine k p3 _ (((Same.new hp1).trans q1).on hp3) ?_
   rw [upd_same, q3]
   rfl
theorem sc_l_clash_made : FnScope ["_law_names_here", "_law_cell", "_law_e"] ["_law_names_here", "_law_cell"] (defScope s_l_clash_made) := ⟨rfl, rfl, rfl, by decide +kernel, rfl, by decide +kernel, by decide +kernel⟩
set_option maxHeartbeats 4000000 in
theorem ok_l_clash_made {f : Addr} {fd : FuncData} {cs : Cls} (F : Fun K "_law_clash_made" "_law_clash_made" s_l_clash_made f fd) (T : Txt K mg cs) (D_Clash_init : MakeXOk P w K mg base cs.Clash 1 ["self", "first", "second", "divisor"] (sp_Clash_init K cs)) (D__law_fields : DnH P w K mg base "_law_fields" 1 ["_law_e"] (sp_l_fields K cs)) (D__law_kinds : DnH P w K mg base "_law_kinds" 1 ["_law_e"] (sp_l_kinds K cs)) (D__law_only : Dn P w K mg base "_law_only" 1 ["_law_place"] (sp_l_only K cs)) : FnOk P w K mg base CX0 3 f fd ["_law_names_here", "_law_cell"] (sp_l_clash_made K cs) := by
 refine F.ok sc_l_clash_made (fun vs H Q E h => ?_) (fun cdv A outer s H vs Q E hr h => ?_)
 ·obtain ⟨pn, ns, c, rfl, _⟩ := h
  rfl
 ·obtain ⟨pn, ns, c, rfl, hpn, no, k⟩ := h
  refine ⟨_, (pss_cons (ps_set (i := 2) sc_l_clash_made.nd rfl (Or.inl rfl) (pe_newX D_Clash_init (hr.mono (by decide)) rfl T.m_Clash (pa_cons (pe_ix ix_list (pv 0) pe_int (fun _ _ => rfl)) (pa_cons (pe_ix ix_list (pv 0) pe_int (fun _ _ => rfl)) (pa_cons (pe_op op_add pe_int (pe_op op_mod (pv 1) (pe_op op_pow pe_int pe_int))) pa_nil)))))
   (pss_one (ps_ret (pe_and (pe_cmpR (op_eqL hr.units0) (pe_fnH D__law_fields (hr.h.mono (by decide)) (pa_cons (pv 2) pa_nil)) (pe_lst (pa_cons (pe_ix ix_list (pv 0) pe_int (fun _ _ => rfl)) (pa_cons (pe_ix ix_list (pv 0) pe_int (fun _ _ => rfl)) (pa_cons (pe_op op_add pe_int (pe_op op_mod (pv 1) (pe_op op_pow pe_int pe_int))) pa_nil)))) (nomark _)) (pe_one (pe_cmpR (op_eqL hr.units0) (pe_fnH D__law_kinds (hr.h.mono (by decide)) (pa_cons (pv 2) pa_nil)) (pe_fn D__law_only (hr.mono (by decide)) (pa_cons pe_int pa_nil)) (nomark _))))))), ?_⟩
  obtain ⟨n0, n1, e0, e1⟩ : ∃ n0 n1 : Str, atI (ns.map V.str) 0 = some (.str n0) ∧ atI (ns.map V.str) 1 = some (.str n1) := by
   have hm := no.many
   exact ⟨ns[0]'(by omega), ns[1]'(by omega), atI_nat (j := 0) (by rw [List.getElem?_map, List.getElem?_eq_getElem (by omega)]; rfl), atI_nat (j := 1) (by rw [List.getElem?_map, List.getElem?_eq_getElem (by omega)]; rfl)⟩
  refine ⟨_, rfl, _, _, _, _, rfl, rfl, SqL.of hpn, e0, _, rfl, _, _, _, _, rfl, rfl, SqL.of hpn, e1, _, rfl, _, _, rfl, rfl, (by walk_at "sd"), _, _, rfl, rfl, (by walk_at "sd"), _, _, rfl, rfl, ?_⟩
  refine ⟨len_ok (Nat.le_of_ble_eq_true rfl), fun z hz => ?_⟩
  refine ⟨z, _, _, _, rfl, upd_same, fun dd H1 hdd hz1 hd1 kp => ⟨rfl, ?_⟩⟩
  have s1 : Same H H1 := fun b o e => kp b o (by rw [upd_ne (ne_of_none e hz)]; exact e) (ne_of_none e hz)
  refine ⟨_, rfl, z, cs.Clash, some dd, true, rfl, .inr hz1, T.e_Clash, T.k_Clash_Clash, (fun e => nomatch e), fun _ => ⟨rfl, dd, _, _, _, rfl, hd1, fun p2 H2 s2 _ hp2 => ?_⟩⟩
  have hpn2 := s2 _ _ (s1 _ _ hpn)
  refine ⟨_, rfl, _, _, _, _, rfl, rfl, SqL.of hpn2, e0, _, rfl, _, _, _, _, rfl, rfl, SqL.of hpn2, e1, _, rfl, _, _, rfl, rfl, (by walk_at "sd"), _, _, rfl, rfl, (by walk_at "sd"), _, _, rfl, rfl, ?_⟩
  refine ⟨len_ok (Nat.le_of_ble_eq_true rfl), fun p3 hp3 => ?_⟩
  refine ⟨_, _, _, _, rfl, rfl, SqL.of (get_new hp2 hp3), SqL.of upd_same, rfl, rfl, ?_⟩
  rw [eqs_refl rfl]
  refine ⟨_, rfl, iteT ?_⟩
  have hz3 := get_new (u := .lst [.str n0, .str n1, .int (2 + c % 10 ^ (18 : Int).toNat)]) (s2 _ _ hz1) hp3
  refine ⟨_, rfl, z, cs.Clash, some dd, 5, rfl, .inr hz3, T.e_Clash, ⟨T.k_Clash_ValueError, T.k_Clash_NoBeat, T.k_Clash_NoBell, T.k_Clash_TooMany, T.k_Clash_Twice, T.k_Clash_NoName, T.k_Clash_Clash⟩, fun p4 H4 s4 _ hp4 => ?_⟩
  refine ⟨5, rfl, fun p5 H5 s5 hp5 => ?_⟩
  refine ⟨_, _, _, _, rfl, rfl, SqL.of (s5 _ _ hp4), SqL.of hp5, rfl, rfl, ?_⟩
  rw [eqs_refl rfl]
  exact k _ ((((s1.trans s2).on hp3).trans s4).trans s5)
theorem sc_Tower_init : FnScope ["self"] ["self"] (defScope s_Tower_init) := ⟨rfl, rfl, rfl, by decide +kernel, rfl, by decide +kernel, by decide +kernel⟩
set_option maxHeartbeats 4000000 in
theorem ok_Tower_init {f : Addr} {fd : FuncData} {cs : Cls} (F : Fun K "__init__" "Tower.__init__" s_Tower_init f fd) (T : Txt K mg cs)  : FnOk P w K mg base CX0 1 f fd ["self"] (sp_Tower_init K cs) := by
 refine F.ok sc_Tower_init (fun vs H Q E h => ?_) (fun cdv A outer s H vs Q E hr h => ?_)
 ·obtain ⟨p, dx, rfl, _⟩ := h
  rfl
 ·obtain ⟨p, dx, rfl, hp, k⟩ := h
  refine ⟨_, (pss_one (ps_fld (pv 0) pe_dnewK rfl)), ?_⟩
  intro d hd
  have npd : p ≠ d := ne_of_none hp hd
  refine ⟨_, rfl, p, cs.Tower, dx, [], rfl, (by rw [upd_ne npd]; exact hp), T.cl_Tower, T.na_Tower_hung, (by show 0 < 1000; decide), ?_⟩
  refine k d _ hd ⟨⟨dx, upd_same⟩, ⟨[], by rw [upd_ne npd.symm, upd_same], .nil⟩, List.nodup_nil⟩ fun b o e hb => ?_
  rw [upd_ne hb, upd_ne (ne_of_none e hd)]
  exact e
theorem sc_Tower_bells : FnScope ["self"] ["self"] (defScope s_Tower_bells) := ⟨rfl, rfl, rfl, by decide +kernel, rfl, by decide +kernel, by decide +kernel⟩
set_option maxHeartbeats 4000000 in
theorem ok_Tower_bells {f : Addr} {fd : FuncData} {cs : Cls} (F : Fun K "bells" "Tower.bells" s_Tower_bells f fd) (T : Txt K mg cs)  : FnOk P w K mg base CX0 1 f fd ["self"] (sp_Tower_bells K cs) := by
 refine F.ok sc_Tower_bells (fun vs H Q E h => ?_) (fun cdv A outer s H vs Q E hr h => ?_)
 ·obtain ⟨t, d, bl, rfl, _⟩ := h
  rfl
 ·obtain ⟨t, d, bl, rfl, TW, k⟩ := h
  refine ⟨_, (pss_one (ps_ret (pe_callTy (call_list_items rfl) rfl T.n_list bt_list (pa_cons (pe_items (pe_fld (pv 0) rfl)) pa_nil)))), ?_⟩
  obtain ⟨⟨dx, h1⟩, ⟨kvs, h2, h3⟩, nd⟩ := id TW
  refine ⟨_, rfl, _, _, _, _, _, rfl, ‹_›, T.cl_Tower, T.na_Tower_hung, (fl_hung _), ?_⟩
  refine ⟨d, kvs, rfl, .inl h2, fun v hv => ?_⟩
  refine ⟨v, d, kvs, rfl, upd_same, get_new h2 hv, fun l ps H' sm hl hll hpl hpp hb => ?_⟩
  have sm' := (Same.new hv).trans sm
  refine k l _ H' sm' ((Same.new hv).free hl) hll ?_
  have hkl := Paired.length h3
  refine paired_of (by rw [List.length_map]; omega) fun j x y e1 e2 => ?_
  rw [List.getElem?_map] at e1
  obtain ⟨p, ep, rfl⟩ := Option.map_eq_some_iff.mp e1
  obtain ⟨kv, ekv, hk1, q, hk2, hq⟩ := paired_getR h3 e2
  obtain ⟨_, _, hp⟩ := hpp j p kv ep ekv
  rw [hk1, hk2] at hp
  exact ⟨p, q, rfl, hp, sm' _ _ hq⟩
theorem sc_l_whole : FnScope ["_law_found"] ["_law_found"] (defScope s_l_whole) := ⟨rfl, rfl, rfl, by decide +kernel, rfl, by decide +kernel, by decide +kernel⟩
set_option maxHeartbeats 4000000 in
theorem ok_l_whole {f : Addr} {fd : FuncData} {cs : Cls} (F : Fun K "_law_whole" "_law_whole" s_l_whole f fd) (T : Txt K mg cs)  : FnOk P w K mg base CX0 1 f fd ["_law_found"] (sp_l_whole K cs) := by
 refine F.ok sc_l_whole (fun vs H Q E h => ?_) (fun cdv A outer s H vs Q E hr h => ?_)
 ·obtain ⟨i, rfl, _⟩ := h
  rfl
 ·obtain ⟨i, rfl, k⟩ := h
  refine ⟨_, (pss_one (ps_ret (pe_and (pe_callB call_isinst rfl T.n_isinstance bt_isinstance (pa_cons (pv 0) (pa_cons (pe_bltn (v := .ty "int") rfl T.n_int bt_int rfl) pa_nil))) (pe_one (pe_not (pe_callB call_isinst rfl T.n_isinstance bt_isinstance (pa_cons (pv 0) (pa_cons (pe_bltn (v := .ty "bool") rfl T.n_bool bt_bool rfl) pa_nil)))))))), ?_⟩
  refine ⟨_, rfl, _, _, _, _, rfl, (by walk_at "ty"), (by walk_at "kt"), _, rfl, ?_⟩
  refine iteT ?_
  refine ⟨_, rfl, _, _, _, _, rfl, (by walk_at "ty"), (by walk_at "kt"), _, rfl, ?_⟩
  exact k
theorem sc_l_is_beat : FnScope ["_law_found", "_law_due"] ["_law_found", "_law_due"] (defScope s_l_is_beat) := ⟨rfl, rfl, rfl, by decide +kernel, rfl, by decide +kernel, by decide +kernel⟩
set_option maxHeartbeats 4000000 in
theorem ok_l_is_beat {f : Addr} {fd : FuncData} {cs : Cls} (F : Fun K "_law_is_beat" "_law_is_beat" s_l_is_beat f fd) (T : Txt K mg cs) (D__law_whole : Dn P w K mg base "_law_whole" 1 ["_law_found"] (sp_l_whole K cs)) : FnOk P w K mg base CX0 2 f fd ["_law_found", "_law_due"] (sp_l_is_beat K cs) := by
 refine F.ok sc_l_is_beat (fun vs H Q E h => ?_) (fun cdv A outer s H vs Q E hr h => ?_)
 ·obtain ⟨a, b, r, g, rfl, _⟩ := h
  rfl
 ·obtain ⟨a, b, r, g, rfl, h1, h2, k⟩ := h
  refine ⟨_, (pss_cons (ps_if (PW.pt (pw_or (pt_not (pt_val (pe_callB call_isinst rfl T.n_isinstance bt_isinstance (pa_cons (pv 0) (pa_cons (pe_bltn (v := .ty "tuple") rfl T.n_tuple bt_tuple rfl) pa_nil))))) (pw_or1 (pt_cmpR op_ne (pe_callB call_len_seq rfl T.n_len bt_len (pa_cons (pv 0) pa_nil)) pe_int (nomark _))))) (pss_one (ps_ret pe_bl)) pss_nil)
   (pss_one (ps_ret (pe_and (pe_fn D__law_whole (hr.mono (by decide)) (pa_cons (pe_ix ix_tup (pv 0) pe_int (fun _ _ => rfl)) pa_nil)) (pe_and (pe_fn D__law_whole (hr.mono (by decide)) (pa_cons (pe_ix ix_tup (pv 0) pe_int (fun _ _ => rfl)) pa_nil)) (pe_one (pe_cmpR (op_eqT hr.units0) (pv 0) (pv 1) (nomark _)))))))), ?_⟩
  refine ⟨_, rfl, _, _, _, _, rfl, (by walk_at "ty"), (by walk_at "kt"), _, rfl, ?_⟩
  refine iteF ?_
  refine ⟨_, rfl, _, _, rfl, (by walk_at "ln"), rfl, _, rfl, ?_⟩
  refine iteNS (e_eq rfl) ?_
  refine ⟨_, rfl, _, _, _, _, rfl, rfl, (by walk_at "sq"), (by walk_at "at"), _, rfl, _, rfl, ?_⟩
  refine iteT ?_
  refine ⟨_, rfl, _, _, _, _, rfl, rfl, (by walk_at "sq"), (by walk_at "at"), _, rfl, _, rfl, ?_⟩
  refine iteT ?_
  refine ⟨_, rfl, _, rfl, _, _, _, _, rfl, rfl, SqT.of h1, SqT.of h2, rfl, rfl, ?_⟩
  rw [eqs_ints]
  exact k
theorem sc_l_bells : FnScope ["_law_tower", "_law_row", "_law_held", "_law_emptied", "_law_found", "_law_k", "_law_due"] ["_law_tower", "_law_row", "_law_held", "_law_emptied"] (defScope s_l_bells) := ⟨rfl, rfl, rfl, by decide +kernel, rfl, by decide +kernel, by decide +kernel⟩
set_option maxHeartbeats 4000000 in
theorem ok_l_bells {f : Addr} {fd : FuncData} {cs : Cls} (F : Fun K "_law_bells" "_law_bells" s_l_bells f fd) (T : Txt K mg cs) (D_Tower_bells : MethOk P w K mg base CX0 cs.Tower "bells" 1 ["self"] (sp_Tower_bells K cs)) (D__law_is_beat : Dn P w K mg base "_law_is_beat" 2 ["_law_found", "_law_due"] (sp_l_is_beat K cs)) : FnOk P w K mg base CX0 3 f fd ["_law_tower", "_law_row", "_law_held", "_law_emptied"] (sp_l_bells K cs) := by
 refine F.ok sc_l_bells (fun vs H Q E h => ?_) (fun cdv A outer s H vs Q E hr h => ?_)
 ·obtain ⟨t, d, r, hd, us, hs, bl, em0, rfl, _⟩ := h
  rfl
 ·obtain ⟨t, d, r, hd, us, hs, bl, em0, rfl, TW, hr1, hrw, hb13, hhd, hhl, k⟩ := h
  have hul := Paired.length hrw
  obtain ⟨⟨dx, h1⟩, _, _⟩ := id TW
  refine ⟨_, (pss_cons (ps_set (i := 4) sc_l_bells.nd rfl (Or.inl rfl) (pe_m0 D_Tower_bells (hr.mono (by decide)) (pv 0)))
   (pss_cons (ps_if (PW.pt (pw_or (pt_not (pt_val (pe_callB call_isinst rfl T.n_isinstance bt_isinstance (pa_cons (pv 4) (pa_cons (pe_bltn (v := .ty "list") rfl T.n_list bt_list rfl) pa_nil))))) (pw_or1 (pt_cmpR op_ne (pe_callB call_len_seq rfl T.n_len bt_len (pa_cons (pv 4) pa_nil)) (pe_callB call_len_seq rfl T.n_len bt_len (pa_cons (pv 1) pa_nil)) (nomark _))))) (pss_one (ps_ret pe_bl)) pss_nil)
   (pss_cons (ps_for PassesOwn.never rfl (pi_range1 rfl T.n_range (pa_cons (pe_callB call_len_seq rfl T.n_len bt_len (pa_cons (pv 1) pa_nil)) pa_nil)) (pg_name (i := 5) sc_l_bells.nd rfl (Or.inl rfl)) (pss_cons (ps_if (PW.pt (pw_or (pt_not (pt_val (pe_callB call_isinst rfl T.n_isinstance bt_isinstance (pa_cons (pe_ix ix_list (pv 4) (pv 5) (fun _ _ => rfl)) (pa_cons (pe_bltn (v := .ty "tuple") rfl T.n_tuple bt_tuple rfl) pa_nil))))) (pw_or (pt_cmpR op_ne (pe_callB call_len_seq rfl T.n_len bt_len (pa_cons (pe_ix ix_list (pv 4) (pv 5) (fun _ _ => rfl)) pa_nil)) pe_int (nomark _)) (pw_or1 (pt_not (pt_val (pe_callB call_isinst rfl T.n_isinstance bt_isinstance (pa_cons (pe_ix ix_tup (pe_ix ix_list (pv 4) (pv 5) (fun _ _ => rfl)) pe_int (fun _ _ => rfl)) (pa_cons (pe_bltn (v := .ty "str") rfl T.n_str bt_str rfl) pa_nil))))))))) (pss_one (ps_ret pe_bl)) pss_nil)
   (pss_one (ps_if (PW.pt (pw_or (pt_cmpR op_ne (pe_ix ix_tup (pe_ix ix_list (pv 4) (pv 5) (fun _ _ => rfl)) pe_int (fun _ _ => rfl)) (pe_ix ix_tup (pe_ix ix_list (pv 1) (pv 5) (fun _ _ => rfl)) pe_int (fun _ _ => rfl)) (nomark _)) (pw_or1 (pt_not (pt_val (pe_fn D__law_is_beat (hr.mono (by decide)) (pa_cons (pe_ix ix_tup (pe_ix ix_list (pv 4) (pv 5) (fun _ _ => rfl)) pe_int (fun _ _ => rfl)) (pa_cons (pe_ix ix_tup (pe_ix ix_list (pv 1) (pv 5) (fun _ _ => rfl)) pe_int (fun _ _ => rfl)) pa_nil)))))))) (pss_one (ps_ret pe_bl)) pss_nil))))
   (pss_cons (ps_set (i := 6) sc_l_bells.nd rfl (Or.inl rfl) (pe_callTy call_list_of rfl T.n_list bt_list (pa_cons (pv 1) pa_nil)))
   (pss_cons (ps_if (pt_val (pv 3)) (pss_cons (ps_expr (pe_bm0 PySem.F.plainAttrs_list PySem.F.slot_list_clear PySem.F.type_list_clear mt_clear (pv 4)))
   (pss_one (ps_set (i := 6) sc_l_bells.nd rfl (Or.inl rfl) (pe_lst pa_nil)))) pss_nil)
   (pss_cons (ps_expr (pe_bm PySem.F.plainAttrs_list PySem.F.slot_list_append PySem.F.type_list_append mt_append (pv 2) (pa_cons (pe_tup (pa_cons (pv 4) (pa_cons (pv 6) pa_nil))) pa_nil)))
   (pss_one (ps_ret pe_bl)))))))), ?_⟩
  refine ⟨_, rfl, t, dx, _, rfl, h1, fl_bells, t, d, bl, rfl, TW, fun l vs H1 s1 hlH hl hw => ?_⟩
  have hvl := Paired.length hw
  have hrX := s1 _ _ hr1
  have hwX := rwv_on s1.tups hrw
  refine ⟨_, rfl, _, _, _, _, rfl, (by walk_at "ty"), (by walk_at "kt"), _, rfl, ?_⟩
  refine iteF ?_
  refine ⟨_, rfl, _, _, rfl, (by walk_at "ln"), _, rfl, _, _, rfl, (by walk_at "ln"), rfl, _, rfl, ?_⟩
  refine iteNS (e_eq (by omega)) ?_
  refine ⟨_, rfl, _, _, rfl, (by walk_at "ln"), _, rfl, by omega, by omega, ?_⟩
  refine for_range (lo := 0) (n := ((us.length : Nat) : Int).toNat) (fun i σ HL => ∃ (x1 : Option V), σ = [some (.ref t), some (.ref r), some (.ref hd), some (.bl em0), some (.ref l), x1, none] ∧ HL = H1) ⟨none, rfl, rfl⟩ ?_ ?_
  ·rintro i σ HL hi ⟨x1, rfl, rfl⟩
   have hib : i < bl.length := by omega
   obtain ⟨v, ev, p, q, rfl, hp, hq⟩ := paired_getR hwX (List.getElem?_eq_getElem hib)
   obtain ⟨v', ev', p', q', rfl, hp', hq'⟩ := paired_getR hw (List.getElem?_eq_getElem hib)
   have ea : atI us (0 + (i : Int)) = some (.ref p) := by rw [Int.zero_add]; exact atI_nat ev
   have ea' : atI vs (0 + (i : Int)) = some (.ref p') := by rw [Int.zero_add]; exact atI_nat ev'
   refine ⟨_, rfl, _, rfl, _, _, _, _, rfl, rfl, SqL.of hl, ea', _, _, _, _, rfl, TyOf.tup hp', L2.kt_self _ _, _, rfl, ?_⟩
   refine iteF ?_
   refine ⟨_, rfl, _, rfl, _, _, _, _, rfl, rfl, SqL.of hl, ea', _, _, rfl, .inr (SqT.of hp'), rfl, _, rfl, ?_⟩
   refine iteNS (e_eq rfl) ?_
   refine ⟨_, rfl, _, rfl, _, _, _, _, rfl, rfl, SqL.of hl, ea', _, _, _, _, rfl, rfl, SqT.of hp', at0, _, _, _, _, rfl, TyOf.str _, L2.kt_self _ _, _, rfl, ?_⟩
   refine iteF ?_
   refine ⟨_, rfl, _, rfl, _, _, _, _, rfl, rfl, SqL.of hl, ea', _, _, _, _, rfl, rfl, SqT.of hp', at0, _, rfl, _, rfl, _, _, _, _, rfl, rfl, SqL.of hrX, ea, _, _, _, _, rfl, rfl, SqT.of hp, at0, rfl, _, rfl, ?_⟩
   refine iteNS rfl ?_
   refine ⟨_, rfl, _, rfl, _, _, _, _, rfl, rfl, SqL.of hl, ea', _, _, _, _, rfl, rfl, SqT.of hp', at1, _, rfl, _, rfl, _, _, _, _, rfl, rfl, SqL.of hrX, ea, _, _, _, _, rfl, rfl, SqT.of hp, at1, ?_⟩
   refine ⟨_, _, _, _, rfl, hq', hq, _, rfl, ?_⟩
   refine iteF ?_
   exact ⟨_, rfl, rfl⟩
  ·rintro σ HL ⟨x1, rfl, rfl⟩
   refine ⟨_, rfl, ?_⟩
   refine ⟨_, _, rfl, .inl (SqL.of hrX), fun p2 hp2 => ?_⟩
   have s2 := s1.on hp2 (o := .lst us)
   have hl2 := get_new (u := .lst us) hl hp2
   have hh2 := s2 _ _ hhd
   have nlh : l ≠ hd := fun z => by rw [z, hhd] at hlH; cases hlH
   have hp2H : H p2 = none := s1.free hp2
   have n2h : p2 ≠ hd := fun z => by rw [z, hhd] at hp2H; cases hp2H
   refine ⟨_, rfl, _, rfl, ?_⟩
   cases em0 with
   | true =>
    refine iteT ?_
    refine ⟨_, rfl, .inl ⟨rfl, _, SqL.of hl2⟩, _, _, rfl, rfl, hl2, ?_⟩
    have cl : Ch [l] (upd HL p2 (.lst us)) (upd (upd HL p2 (.lst us)) l (.lst [])) := Ch.refl.upd (by simp) (fun xs z => by rw [hl2] at z; cases z)
    refine ⟨(by walk_at "sz"), fun p1 hp1 => ?_⟩
    have hlG : upd (upd (upd HL p2 (.lst us)) l (.lst [])) p1 (.lst []) l = some (.lst []) := get_new upd_same hp1
    have hhG : upd (upd (upd HL p2 (.lst us)) l (.lst [])) p1 (.lst []) hd = some (.lst hs) := get_new (by rw [upd_ne nlh.symm]; exact hh2) hp1
    refine ⟨_, rfl, .inl ⟨rfl, _, SqL.of hhG⟩, _, rfl, _, rfl, ?_⟩
    refine ⟨len_ok (Nat.le_of_ble_eq_true rfl), fun p9 hp9 => ?_⟩
    have hhI := get_new (u := .tup [.ref l, .ref p1]) hhG hp9
    refine ⟨_, _, _, rfl, rfl, hhI, small1000 (by omega), ?_⟩
    have hp1H : H p1 = none := by
     cases e : H p1 with
     | none => rfl
     | some o => rw [cl.1 _ _ (s2 _ _ e) (by simp only [List.mem_singleton]; intro z; rw [z, hlH] at e; cases e)] at hp1; cases hp1
    have n3h : p1 ≠ hd := fun z => by rw [z, hhd] at hp1H; cases hp1H
    have ch0 : Ch [hd, l] H (upd (upd (upd (upd (upd HL p2 (.lst us)) l (.lst [])) p1 (.lst [])) p9 (.tup [.ref l, .ref p1])) hd (.lst (hs ++ [.ref p9]))) := ((((Ch.same s2).trans (cl.mono (by simp))).trans (Ch.same ((Same.new hp1).on hp9)))).upd (by simp) (fun xs z => by rw [hhI] at z; cases z)
    have n9h : p9 ≠ hd := fun z => by rw [z, hhG] at hp9; cases hp9
    refine k (.ref p9) _ (ch0.fresh hlH) upd_same ⟨p9, l, p1, [], [], rfl, ?_, ?_, ?_, hlH, hp1H, .nil⟩
    ·rw [upd_ne n9h, upd_same]
    ·rw [upd_ne nlh]; exact get_new hlG hp9
    ·rw [upd_ne n3h]; exact get_new upd_same hp9
   | false =>
    refine iteF ?_
    refine ⟨_, rfl, .inl ⟨rfl, _, SqL.of hh2⟩, _, rfl, _, rfl, ?_⟩
    refine ⟨len_ok (Nat.le_of_ble_eq_true rfl), fun p9 hp9 => ?_⟩
    have hhI := get_new (u := .tup [.ref l, .ref p2]) hh2 hp9
    refine ⟨_, _, _, rfl, rfl, hhI, small1000 (by omega), ?_⟩
    have cz : Ch [hd] (upd HL p2 (.lst us)) (upd (upd (upd HL p2 (.lst us)) p9 (.tup [.ref l, .ref p2])) hd (.lst (hs ++ [.ref p9]))) := (Ch.same (Same.new hp9)).upd (by simp) (fun xs z => by rw [hhI] at z; cases z)
    have n9h : p9 ≠ hd := fun z => by rw [z, hh2] at hp9; cases hp9
    refine k (.ref p9) _ ((Ch.same s2).trans cz) upd_same ⟨p9, l, p2, vs, us, rfl, ?_, ?_, ?_, hlH, hp2H, ?_⟩
    ·rw [upd_ne n9h, upd_same]
    ·rw [upd_ne nlh]; exact get_new hl2 hp9
    ·rw [upd_ne n2h]; exact get_new upd_same hp9
    ·exact d2_rows (rwv_on ((Same.new hp2).tups.trans cz.2) hw) (rwv_on ((Same.new hp2).tups.trans cz.2) hwX)
theorem sc_Tower_take : FnScope ["self", "name"] ["self", "name"] (defScope s_Tower_take) := ⟨rfl, rfl, rfl, by decide +kernel, rfl, by decide +kernel, by decide +kernel⟩
set_option maxHeartbeats 4000000 in
theorem ok_Tower_take {f : Addr} {fd : FuncData} {cs : Cls} (F : Fun K "take" "Tower.take" s_Tower_take f fd) (T : Txt K mg cs)  : FnOk P w K mg base (CX1 P w) 1 f fd ["self", "name"] (sp_Tower_take K cs) := by
 refine F.okX sc_Tower_take (fun vs H Q E h => ?_) (fun cdv A outer s H vs Q E hr h => ?_)
 ·obtain ⟨t, d, n, bl, rfl, _⟩ := h
  rfl
 ·obtain ⟨t, d, n, bl, rfl, TW, hl, ke, kq⟩ := h
  refine ⟨_, (pss_cons (ps_if (pt_cmp (pc_dnotin (hu_of hr) (pv 1) (pe_fld (pv 0) rfl))) (pss_one (ps_raise throws_cx rfl T.i_NoName rfl T.m_NoName (pa_cons (pe_join (pj_cons (pe_fmt (pv 1)) (pj_cons pe_str pj_nil))) pa_nil))) pss_nil)
   (pss_one (ps_ret (pe_dpop1 (pe_fld (pv 0) rfl) (pv 1) ⟨rfl, rfl, rfl, rfl⟩)))), ?_⟩
  obtain ⟨⟨dx, h1⟩, ⟨kvs, h2, h3⟩, nd⟩ := id TW
  have ntd : t ≠ d := ne_of h1 h2 (by intro z; cases z)
  refine ⟨_, rfl, _, rfl, _, _, _, _, _, rfl, ‹_›, T.cl_Tower, T.na_Tower_hung, (fl_hung _), ?_⟩
  refine ⟨d, _, rfl, DGet.k (k := Sum.inr n) h2, _, rfl, ?_⟩
  by_cases hn : n ∈ bl.map (·.1)
  ·obtain ⟨i, b, hb⟩ := names_in hn
   obtain ⟨v, q1, q2⟩ := kv_yes h3 nd hb
   rw [q1]
   refine iteF ?_
   obtain ⟨p, rfl, hp⟩ := q2
   refine ⟨_, rfl, _, _, _, _, _, rfl, ‹_›, T.cl_Tower, T.na_Tower_hung, (fl_hung _), ?_⟩
   refine ⟨d, rfl, .inl ⟨kvs, .inl h2⟩, _, rfl, kvs, Sum.inr n, .ref p, h2, rfl, q1, ?_⟩
   have cc : Ch [d] H (upd H d (.dK (dropK kvs (Sum.inr n)))) := Ch.refl.upd (by simp) (fun xs z => by rw [h2] at z; cases z)
   refine kq i b hb p _ cc (cc.2 _ _ hp) ⟨⟨dx, by rw [upd_ne ntd]; exact h1⟩, ⟨_, upd_same, ?_⟩, ?_⟩
   ·rw [← drop_at nd hb]
    exact Paired.mono (fun _ _ q => q.on cc.2) (kv_drop h3)
   ·exact nd_erase nd i
  ·rw [kv_no h3 hn]
   refine iteT ?_
   exact ⟨_, rfl, .inr ⟨_, rfl, len_ok (by omega), _, rfl, join_len (by omega), _, rfl, join_len2 (by omega) (by decide), join_len2 (by omega) (by decide), len_ok (Nat.le_of_ble_eq_true rfl), ke hn _ (Same.refl _)⟩⟩
theorem sc_l_take : FnScope ["_law_tower", "_law_row", "_law_clean", "_law_name_here", "_law_kinds_here", "_law_told", "_law_e", "_law_places", "_law_due"] ["_law_tower", "_law_row", "_law_clean", "_law_name_here"] (defScope s_l_take) := ⟨rfl, rfl, rfl, by decide +kernel, rfl, by decide +kernel, by decide +kernel⟩
set_option maxHeartbeats 4000000 in
theorem ok_l_take {f : Addr} {fd : FuncData} {cs : Cls} (F : Fun K "_law_take" "_law_take" s_l_take f fd) (T : Txt K mg cs) (D_Tower_take : MethOk P w K mg base (CX1 P w) cs.Tower "take" 1 ["self", "name"] (sp_Tower_take K cs)) (D__law_is_beat : Dn P w K mg base "_law_is_beat" 2 ["_law_found", "_law_due"] (sp_l_is_beat K cs)) (D__law_kinds : DnH P w K mg base "_law_kinds" 1 ["_law_e"] (sp_l_kinds K cs)) (D__law_only : Dn P w K mg base "_law_only" 1 ["_law_place"] (sp_l_only K cs)) : FnOk P w K mg base CX0 3 f fd ["_law_tower", "_law_row", "_law_clean", "_law_name_here"] (sp_l_take K cs) := by
 refine F.ok sc_l_take (fun vs H Q E h => ?_) (fun cdv A outer s H vs Q E hr h => ?_)
 ·obtain ⟨t, d, r, c, bl, cn, n, rfl, _⟩ := h
  rfl
 ·obtain ⟨t, d, r, c, bl, cn, n, rfl, S, hl, hb13, k1, k2⟩ := h
  obtain ⟨us, hr1, hrw⟩ := S.row
  have hul := Paired.length hrw
  have TW := S.tw
  have hrc := S.rc
  have hcl := S.cl
  refine ⟨_, (pss_cons (ps_set (i := 4) sc_l_take.nd rfl (Or.inl rfl) (pe_lst pa_nil))
   (pss_cons (ps_set (i := 5) sc_l_take.nd rfl (Or.inl rfl) pe_non)
   (pss_cons (ps_tryS (i := 6) sc_l_take.nd rfl rfl rfl rfl (psx_set (i := 5) sc_l_take.nd rfl (Or.inl rfl) (pxm D_Tower_take (hr.mono (by decide)) (pv 0) (pa_cons (pv 3) pa_nil))) rfl T.m_KnellError (fun _ => (pss_one (ps_set (i := 4) sc_l_take.nd rfl (Or.inl rfl) (pe_fnH D__law_kinds (hr.held.mono (by decide)) (pa_cons (pv 6) pa_nil))))))
   (pss_cons (ps_setcompT (i := 7) sc_l_take.nd rfl rfl rfl (pi_range1 rfl T.n_range (pa_cons (pe_callB call_len_seq rfl T.n_len bt_len (pa_cons (pv 1) pa_nil)) pa_nil)) (by refine ⟨rfl, by decide +kernel, rfl, by decide +kernel, rfl, (List.forall_mem_cons.mpr ⟨rfl, List.forall_mem_cons.mpr ⟨rfl, List.forall_mem_nil _⟩⟩), rfl, (cap_cons ⟨rfl, rfl, rfl, rfl⟩ (cap_cons ⟨rfl, rfl, rfl, rfl⟩ cap_nil)), by decide +kernel, rfl⟩ : CompOk _ _ _ "_law_k" ["_law_name_here", "_law_row"] [3, 1]) (fun _ _ _ => (pt_cmpR op_eq (pe_ix (ix_tupK (K := K) rfl) (pe_ix (ix_listK (K := K) rfl) (pv 2) (pv 0) (fun _ _ => rfl)) pe_int (fun _ _ => rfl)) (pv 1) (nomark _))) (fun _ _ _ => (pv 0)))
   (pss_cons (ps_if (pt_cmpR op_eq (pe_callB call_len_seq rfl T.n_len bt_len (pa_cons (pv 7) pa_nil)) pe_int (nomark _)) (pss_one (ps_ret (pe_and (pe_cmpR op_isN (pv 5) pe_non (nomark _)) (pe_one (pe_cmpR (op_eqL hr.units0) (pv 4) (pe_fn D__law_only (hr.mono (by decide)) (pa_cons pe_int pa_nil)) (nomark _)))))) pss_nil)
   (pss_cons (ps_set (i := 8) sc_l_take.nd rfl (Or.inl rfl) (pe_ix ix_tup (pe_bm PySem.F.plainAttrs_list PySem.F.slot_list_pop PySem.F.type_list_pop mt_popAt (pv 1) (pa_cons (pe_ix ix_list (pv 7) pe_int (fun _ _ => rfl)) pa_nil)) pe_int (fun _ _ => rfl)))
   (pss_cons (ps_if (pt_cmpR op_lt (pe_ix ix_list (pv 7) pe_int (fun _ _ => rfl)) (pe_ix ix_list (pv 2) pe_int (fun _ _ => rfl)) (nomark _)) (pss_one (ps_asg (pe_op op_sub (pe_ix ix_list (pv 2) pe_int (fun _ _ => rfl)) pe_int) (pg_sub (pv 2) pe_int set_list))) pss_nil)
   (pss_one (ps_ret (pe_and (pe_cmpR (op_eqL hr.units0) (pv 4) (pe_lst pa_nil) (nomark _)) (pe_one (pe_fn D__law_is_beat (hr.mono (by decide)) (pa_cons (pv 5) (pa_cons (pv 8) pa_nil)))))))))))))), ?_⟩
  obtain ⟨⟨dx, h1⟩, ⟨kvs, hd1, hkv⟩, nd⟩ := id TW
  have nrd : r ≠ d := ne_of hr1 hd1 (by intro z; cases z)
  have ncd : c ≠ d := ne_of hcl hd1 (by intro z; cases z)
  refine ⟨(by walk_at "sz"), fun p1 hp1 => ?_⟩
  have sP : Same H (upd H p1 (.lst [])) := Same.new hp1
  have TW1 : TwAt cs.Tower (upd H p1 (.lst [])) t d bl := TW.keep (A := []) (Ch.same sP) (by simp) (by simp)
  have h1' := sP _ _ h1
  refine ⟨_, rfl, t, dx, _, rfl, h1', fl_take, _, rfl, ?_⟩
  refine ⟨t, d, n, bl, rfl, TW1, hl, fun hn H1 s1 => ?_, fun i b hb pb H1 ch hpb TW2 => ?_⟩
  ·refine ⟨cs.NoName, rfl, T.x_NoName_KnellError, fun x hx => ?_⟩
   refine ⟨_, rfl, x, cs.NoName, none, 4, rfl, .inl upd_same, T.e_NoName, ⟨T.k_NoName_ValueError, T.k_NoName_NoBeat, T.k_NoName_NoBell, T.k_NoName_TooMany, T.k_NoName_Twice, T.k_NoName_NoName, T.k_NoName_Clash⟩, fun p2 H2 s2 _ hp2 => ?_⟩
   have sx : Same H H2 := ((sP.trans s1).on hx).trans s2
   have hrX := sx _ _ hr1
   have hwX := rwv_on sx.tups hrw
   refine ⟨_, rfl, _, _, rfl, (by walk_at "ln"), _, rfl, by omega, by omega, ?_⟩
   refine fun D hD => ?_
   refine compT_range (lo := 0) (n := ((us.length : Nat) : Int).toNat) (fun i ys HC => Same H2 HC ∧ HC D = some (.lst ys) ∧ ∃ ks : List Nat, ys = ks.map (fun k => V.int ((k : Nat) : Int)) ∧ ks = (List.range i).filter fun k => bnAt bl k n) ⟨Same.new hD, upd_same, [], rfl, rfl⟩ (fun i ys HC hi ⟨q1, q2, ks, q3, q4⟩ => ⟨q2, by rw [q3, q4, List.length_map]; exact small1000 (Nat.le_trans (List.length_filter_le ..) (by rw [List.length_range]; omega))⟩) ?_ ?_
   ·rintro i ys HC N hi ⟨q1, q2, ks, q3, q4⟩ hN
    have hib : i < bl.length := by omega
    obtain ⟨v, ev, p, q, rfl, hp, hq⟩ := paired_getR hwX (List.getElem?_eq_getElem hib)
    have hp' := q1 _ _ hp
    have hrX' := q1 _ _ hrX
    have ea : atI us (0 + (i : Int)) = some (.ref p) := by rw [Int.zero_add]; exact atI_nat ev
    refine ⟨_, rfl, _, rfl, _, _, _, _, rfl, rfl, SqL.of hrX', ea, _, _, _, _, rfl, rfl, SqT.of hp', at0, _, rfl, rfl, _, rfl, ?_⟩
    have en : bnAt bl i n = decide (bl[i].1 = n) := by unfold bnAt; rw [List.getElem?_eq_getElem hib]
    by_cases hbn : bl[i].1 = n
    ·refine iteDT (by rw [hbn]) ?_
     refine ⟨_, rfl, ?_⟩
     refine ⟨q2, hN _ _ ⟨q1.own hD, upd_same, ks ++ [i], by rw [q3, List.map_append, Int.zero_add]; rfl, ?_⟩⟩
     rw [q4, List.range_succ, List.filter_append]
     simp [en, hbn]
    ·refine iteD (fun z => hbn (V.str.inj z)) ?_
     refine hN _ _ ⟨q1, q2, ks, q3, ?_⟩
     rw [q4, List.range_succ, List.filter_append]
     simp [en, hbn]
   rintro ys HC ⟨q1, q2, ks, q3, q4⟩
   have hks : ks = (List.range bl.length).filter fun k => bnAt bl k n := by rw [q4, show ((us.length : Nat) : Int).toNat = bl.length by omega]
   have hk0 : ks = [] := by
    rw [hks]
    refine List.filter_eq_nil_iff.mpr fun k hk z => hn ?_
    exact bnAt_mem z
   subst hk0
   subst q3
   refine ⟨_, rfl, _, _, rfl, (by walk_at "ln"), rfl, _, rfl, ?_⟩
   refine iteDT (e_eq rfl) ?_
   walk_at "l"
   refine iteT ?_
   have hk := q1 _ _ hp2
   refine ⟨_, rfl, 4, rfl, fun p5 H5 s5 hp5 => ?_⟩
   refine ⟨_, _, _, _, rfl, rfl, SqL.of (s5 _ _ hk), SqL.of hp5, rfl, rfl, ?_⟩
   rw [eqs_refl rfl]
   exact k1 hn _ ((sx.trans q1).trans s5)
  ·have hrX : H1 r = some (.lst us) := ch.1 _ _ (sP _ _ hr1) (by simpa using nrd)
   have hcX : H1 c = some (.lst [.int (cn : Nat)]) := ch.1 _ _ (sP _ _ hcl) (by simpa using ncd)
   have hwX : RwV H1 us bl := rwv_on (sP.tups.trans ch.2) hrw
   have hp0 : H1 p1 = some (.lst []) := ch.1 _ _ upd_same (by
    simp only [List.mem_singleton]
    intro z
    rw [z, hd1] at hp1
    cases hp1)
   have hil := (List.getElem?_eq_some_iff.mp hb).1
   refine ⟨_, rfl, _, _, rfl, (by walk_at "ln"), _, rfl, by omega, by omega, ?_⟩
   refine fun D hD => ?_
   refine compT_range (lo := 0) (n := ((us.length : Nat) : Int).toNat) (fun i ys HC => Same H1 HC ∧ HC D = some (.lst ys) ∧ ∃ ks : List Nat, ys = ks.map (fun k => V.int ((k : Nat) : Int)) ∧ ks = (List.range i).filter fun k => bnAt bl k n) ⟨Same.new hD, upd_same, [], rfl, rfl⟩ (fun i ys HC hi ⟨q1, q2, ks, q3, q4⟩ => ⟨q2, by rw [q3, q4, List.length_map]; exact small1000 (Nat.le_trans (List.length_filter_le ..) (by rw [List.length_range]; omega))⟩) ?_ ?_
   ·rintro i ys HC N hi ⟨q1, q2, ks, q3, q4⟩ hN
    have hib : i < bl.length := by omega
    obtain ⟨v, ev, p, q, rfl, hp, hq⟩ := paired_getR hwX (List.getElem?_eq_getElem hib)
    have hp' := q1 _ _ hp
    have hrX' := q1 _ _ hrX
    have ea : atI us (0 + (i : Int)) = some (.ref p) := by rw [Int.zero_add]; exact atI_nat ev
    refine ⟨_, rfl, _, rfl, _, _, _, _, rfl, rfl, SqL.of hrX', ea, _, _, _, _, rfl, rfl, SqT.of hp', at0, _, rfl, rfl, _, rfl, ?_⟩
    have en : bnAt bl i n = decide (bl[i].1 = n) := by unfold bnAt; rw [List.getElem?_eq_getElem hib]
    by_cases hbn : bl[i].1 = n
    ·refine iteDT (by rw [hbn]) ?_
     refine ⟨_, rfl, ?_⟩
     refine ⟨q2, hN _ _ ⟨q1.own hD, upd_same, ks ++ [i], by rw [q3, List.map_append, Int.zero_add]; rfl, ?_⟩⟩
     rw [q4, List.range_succ, List.filter_append]
     simp [en, hbn]
    ·refine iteD (fun z => hbn (V.str.inj z)) ?_
     refine hN _ _ ⟨q1, q2, ks, q3, ?_⟩
     rw [q4, List.range_succ, List.filter_append]
     simp [en, hbn]
   rintro ys HC ⟨q1, q2, ks, q3, q4⟩
   have hks : ks = (List.range bl.length).filter fun k => bnAt bl k n := by rw [q4, show ((us.length : Nat) : Int).toNat = bl.length by omega]
   have hk1 : ks = [i] := by rw [hks]; exact bnAt_one nd hb
   subst hk1
   subst q3
   have hrC := q1 _ _ hrX
   have hcC := q1 _ _ hcX
   have hpbC := q1 _ _ hpb
   refine ⟨_, rfl, _, _, rfl, (by walk_at "ln"), rfl, _, rfl, ?_⟩
   refine iteD (e_ne (by simp)) ?_
   obtain ⟨v, ev, p, q, rfl, hp, hq⟩ := paired_getR hwX hb
   have hpC := q1 _ _ hp
   have hqC := q1 _ _ hq
   have hsi : seqIndex? ((i : Nat) : Int) us.length = some i := PySem.StrLaws.seqIndex_nonneg (by omega) (by omega)
   refine ⟨_, rfl, .inl ⟨rfl, _, SqL.of hrC⟩, _, rfl, _, _, _, _, rfl, rfl, SqL.of q2, at0, _, _, _, _, _, rfl, rfl, hrC, by omega, by omega, hsi, ev, ?_⟩
   have cR : Ch [d, r, c] HC (upd HC r (.lst (us.eraseIdx i))) := Ch.refl.upd (by simp) (fun xs z => by rw [hrC] at z; cases z)
   have hpR := cR.2 _ _ hpC
   refine ⟨_, _, _, _, rfl, rfl, SqT.of hpR, at1, ?_⟩
   have nDr : D ≠ r := fun z => by rw [z, hrX] at hD; cases hD
   have nDc : D ≠ c := fun z => by rw [z, hcX] at hD; cases hD
   have hD1 : upd HC r (.lst (us.eraseIdx i)) D = some (.lst [.int ((i : Nat) : Int)]) := by rw [upd_ne nDr]; exact q2
   have hc1 : upd HC r (.lst (us.eraseIdx i)) c = some (.lst [.int (cn : Nat)]) := by rw [upd_ne hrc.symm]; exact hcC
   have np0r : p1 ≠ r := fun z => by rw [z, hr1] at hp1; cases hp1
   have np0c : p1 ≠ c := fun z => by rw [z, hcl] at hp1; cases hp1
   have hk0 : upd HC r (.lst (us.eraseIdx i)) p1 = some (.lst []) := by rw [upd_ne np0r]; exact q1 _ _ hp0
   have hqR := cR.2 _ _ hqC
   have hpbR := cR.2 _ _ hpbC
   have chA : Ch [d, r, c] H (upd HC r (.lst (us.eraseIdx i))) := (((Ch.same sP).trans (ch.mono (by simp))).trans (Ch.same q1)).trans cR
   have ntr : t ≠ r := ne_of h1 hr1 (by intro z; cases z)
   have ntc : t ≠ c := ne_of h1 hcl (by intro z; cases z)
   have TW3 : TwAt cs.Tower (upd HC r (.lst (us.eraseIdx i))) t d (bl.eraseIdx i) := TW2.keep (A := [r]) ((Ch.same q1).trans (Ch.refl.upd (by simp) (fun xs z => by rw [hrC] at z; cases z))) (by simpa using ntr) (by simpa using nrd.symm)
   have RW3 : RwV (upd HC r (.lst (us.eraseIdx i))) (us.eraseIdx i) (bl.eraseIdx i) := rwv_on (q1.tups.trans cR.2) (paired_erase i hwX)
   refine ⟨_, rfl, _, _, _, _, rfl, rfl, (by walk_at "sq"), (by walk_at "at"), _, rfl, _, _, _, _, rfl, rfl, (by walk_at "sq"), (by walk_at "at"), _, _, rfl, rfl, _, rfl, ?_⟩
   refine ite2 (fun hlt => ?_) (fun hlt => ?_)
   ·have hlt' : i < cn := by have := b_of hlt; omega
    refine ⟨_, rfl, _, _, _, _, rfl, rfl, (by walk_at "sq"), (by walk_at "at"), _, _, rfl, rfl, _, rfl, ?_⟩
    refine ⟨_, _, _, 0, rfl, rfl, hc1, rfl, ?_⟩
    have cC : Ch [d, r, c] (upd HC r (.lst (us.eraseIdx i))) (upd (upd HC r (.lst (us.eraseIdx i))) c (.lst [.int ((cn : Nat) - 1 : Int)])) := Ch.refl.upd (by simp) (fun xs z => by rw [hc1] at z; cases z)
    have cC' : Ch [c] (upd HC r (.lst (us.eraseIdx i))) (upd (upd HC r (.lst (us.eraseIdx i))) c (.lst [.int ((cn : Nat) - 1 : Int)])) := Ch.refl.upd (by simp) (fun xs z => by rw [hc1] at z; cases z)
    have hk2 := cC'.1 _ _ hk0 (by simpa using np0c)
    have hpb2 := cC'.2 _ _ hpbR
    have hq2 := cC'.2 _ _ hqR
    refine ⟨_, rfl, (by walk_at "sz"), fun p2 hp2 => ?_⟩
    refine ⟨_, _, _, _, rfl, rfl, SqL.of (get_new hk2 hp2), SqL.of upd_same, rfl, rfl, ?_⟩
    have hpb3 := get_new (u := .lst []) hpb2 hp2
    have hq3 := get_new (u := .lst []) hq2 hp2
    refine ⟨_, rfl, iteT ?_⟩
    refine ⟨_, rfl, _, rfl, _, _, _, _, rfl, ‹_›, ‹_›, ?_⟩
    have cf := (chA.trans cC).trans (Ch.same (Same.new hp2 (o := .lst [])))
    refine k2 i b hb (cn - 1) _ cf ⟨?_, ⟨us.eraseIdx i, ?_, ?_⟩, ?_, ?_, fun a e x y hae he e1 e2 => ?_, fun b hb' => S.bd b (List.mem_of_mem_eraseIdx hb')⟩
    ·exact TW3.keep (cC'.trans (Ch.same (Same.new hp2))) (by simpa using ntc) (by simpa using ncd.symm)
    ·exact get_new (by rw [upd_ne hrc, upd_same]) hp2
    ·exact rwv_on (cC'.2.trans (Same.new hp2).tups) RW3
    ·refine get_new ?_ hp2
     rw [upd_same]
     have : ((cn : Nat) : Int) - 1 = ((cn - 1 : Nat) : Int) := by omega
     show some (HO.lst [V.int (((cn : Nat) : Int) - 1)]) = _
     rw [this]
    ·rw [List.length_eraseIdx_of_lt hil]
     have := S.le
     omega
    ·exact ap_erase_lt S.ap hlt' hae he e1 e2
   ·have hge : cn ≤ i := by have := b_not hlt; omega
    refine ⟨_, rfl, (by walk_at "sz"), fun p4 hp4 => ?_⟩
    refine ⟨_, _, _, _, rfl, rfl, SqL.of (get_new hk0 hp4), SqL.of upd_same, rfl, rfl, ?_⟩
    have hpb3 := get_new (u := .lst []) hpbR hp4
    have hq3 := get_new (u := .lst []) hqR hp4
    refine ⟨_, rfl, iteT ?_⟩
    refine ⟨_, rfl, _, rfl, _, _, _, _, rfl, ‹_›, ‹_›, ?_⟩
    refine k2 i b hb cn _ (chA.trans (Ch.same (Same.new hp4))) ⟨?_, ⟨us.eraseIdx i, ?_, ?_⟩, ?_, ?_, fun a e x y hae he e1 e2 => ?_, fun b hb' => S.bd b (List.mem_of_mem_eraseIdx hb')⟩
    ·exact TW3.keep (A := []) (Ch.same (Same.new hp4)) (by simp) (by simp)
    ·exact get_new upd_same hp4
    ·exact rwv_on (Same.new hp4).tups RW3
    ·exact get_new hc1 hp4
    ·rw [List.length_eraseIdx_of_lt hil]
     have := S.le
     omega
    ·exact ap_erase_ge S.ap hge hae he e1 e2
theorem sc_l_gap : FnScope ["_law_number", "_law_big", "_law_some"] ["_law_number"] (defScope s_l_gap) := ⟨rfl, rfl, rfl, by decide +kernel, rfl, by decide +kernel, by decide +kernel⟩
set_option maxHeartbeats 4000000 in
theorem ok_l_gap {f : Addr} {fd : FuncData} {cs : Cls} (F : Fun K "_law_gap" "_law_gap" s_l_gap f fd) (T : Txt K mg cs)  : FnOk P w K mg base CX0 1 f fd ["_law_number"] (sp_l_gap K cs) := by
 refine F.ok sc_l_gap (fun vs H Q E h => ?_) (fun cdv A outer s H vs Q E hr h => ?_)
 ·obtain ⟨c, rfl, _⟩ := h
  rfl
 ·obtain ⟨c, rfl, k⟩ := h
  refine ⟨_, (pss_cons (ps_set (i := 1) sc_l_gap.nd rfl (Or.inl rfl) (pe_op op_fdivB (pv 0) pe_int))
   (pss_cons (ps_set (i := 2) sc_l_gap.nd rfl (Or.inl rfl) (pe_lst (pa_cons (pe_op op_add pe_int (pe_op op_mod (pv 1) pe_int)) (pa_cons (pe_op op_mulB (pe_ix ix_list (pe_lst (pa_cons pe_int (pa_cons pe_int (pa_cons pe_int (pa_cons pe_int pa_nil))))) (pe_op op_mod (pv 1) pe_int) (fun _ _ => rfl)) (pe_ix ix_list (pe_lst (pa_cons pe_int (pa_cons pe_int (pa_cons pe_int (pa_cons pe_int pa_nil))))) (pe_op op_mod (pe_op op_fdivB (pv 1) pe_int) pe_int) (fun _ _ => rfl))) (pa_cons (pe_op op_add pe_int (pe_op op_mod (pv 1) (pe_op op_pow pe_int pe_int))) pa_nil)))))
   (pss_cons (ps_set (i := 2) sc_l_gap.nd rfl (Or.inl rfl) (pe_op op_cat (pv 2) (pe_lst (pa_cons (pe_op op_mulB pe_int (pe_op op_add pe_int (pe_op op_mod (pv 1) pe_int))) (pa_cons pe_int (pa_cons (pe_op op_sub pe_int (pe_op op_mod (pv 1) (pe_op op_pow pe_int pe_int))) pa_nil))))))
   (pss_one (ps_ret (pe_ix ix_list (pv 2) (pe_op op_mod (pv 0) pe_int) (fun _ _ => rfl))))))), ?_⟩
  refine ⟨_, rfl, _, _, rfl, rfl, (by walk_at "sd"), ?_⟩
  obtain ⟨m1, h1, e1⟩ := menu4 2 4 8 3 (c / 6)
  obtain ⟨m2, h2, e2⟩ := menu4 1 3 9 5 (c / 6 / 4)
  have r12 := em (x := c / 6) (g := 12) (by decide)
  have r9 := em (x := c / 6) (g := 1000000000) (by decide)
  have r1000 := em (x := c / 6) (g := 1000) (by decide)
  have mb : 0 ≤ m1 * m2 ∧ m1 * m2 ≤ 72 := by
   rcases h1 with rfl | rfl | rfl | rfl <;> rcases h2 with rfl | rfl | rfl | rfl <;> omega
  refine ⟨_, rfl, _, _, rfl, rfl, (by walk_at "sd"), _, _, rfl, rfl, (by walk_at "sz"), fun p1 hp1 => ?_⟩
  refine ⟨_, rfl, _, _, rfl, rfl, (by walk_at "sd"), _, _, _, _, rfl, rfl, SqL.of upd_same, e1, (by walk_at "sz"), fun p2 hp2 => ?_⟩
  refine ⟨_, rfl, _, _, rfl, rfl, (by walk_at "sd"), _, _, rfl, rfl, (by walk_at "sd"), _, _, _, _, rfl, rfl, SqL.of upd_same, e2, _, _, rfl, rfl, mulOk_l (by omega) (by omega), _, rfl, _, _, rfl, rfl, (by walk_at "sd"), _, _, rfl, rfl, (by walk_at "sd"), _, _, rfl, rfl, ?_⟩
  refine ⟨len_ok (Nat.le_of_ble_eq_true rfl), fun p3 hp3 => ?_⟩
  refine ⟨_, rfl, _, rfl, _, _, rfl, rfl, (by walk_at "sd"), _, _, rfl, rfl, _, _, rfl, rfl, (by walk_at "sd"), _, rfl, _, _, rfl, rfl, (by walk_at "sd"), _, _, rfl, rfl, (by walk_at "sd"), _, _, rfl, rfl, ?_⟩
  refine ⟨len_ok (Nat.le_of_ble_eq_true rfl), fun p4 hp4 => ?_⟩
  refine ⟨_, _, _, _, rfl, rfl, get_new upd_same hp4, upd_same, len_ok (Nat.le_of_ble_eq_true rfl), fun p5 hp5 => ?_⟩
  obtain ⟨m, hm, e⟩ := menuL [1 + c / 6 % 12, m1 * m2, 1 + c / 6 % 10 ^ (9 : Int).toNat, 12 * (1 + c / 6 % 1000), 24, 0 - c / 6 % 10 ^ (9 : Int).toNat] c (n := 6) rfl (by decide)
  refine ⟨_, rfl, _, rfl, _, _, rfl, rfl, (by walk_at "sd"), _, _, _, _, rfl, rfl, SqL.of upd_same, e, ?_⟩
  have sm := ((((Same.new hp1 (o := .lst [.int 2, .int 4, .int 8, .int 3])).on hp2 (o := .lst [.int 1, .int 3, .int 9, .int 5])).on hp3 (o := .lst [.int (1 + c / 6 % 12), .int (m1 * m2), .int (1 + c / 6 % 10 ^ (9 : Int).toNat)])).on hp4 (o := .lst [.int (12 * (1 + c / 6 % 1000)), .int 24, .int (0 - c / 6 % 10 ^ (9 : Int).toNat)])).on hp5 (o := .lst ([.int (1 + c / 6 % 12), .int (m1 * m2), .int (1 + c / 6 % 10 ^ (9 : Int).toNat)] ++ [.int (12 * (1 + c / 6 % 1000)), .int 24, .int (0 - c / 6 % 10 ^ (9 : Int).toNat)]))
  rw [p9] at hm
  have hmb : -1000000000 ≤ m ∧ m ≤ 1000000000 := by
   simp only [List.mem_cons, List.not_mem_nil, or_false] at hm
   rcases hm with rfl | rfl | rfl | rfl | rfl | rfl <;> omega
  exact k m _ sm hmb.1 hmb.2
theorem sc_beat : FnScope ["first", "gap"] ["first", "gap"] (defScope s_beat) := ⟨rfl, rfl, rfl, by decide +kernel, rfl, by decide +kernel, by decide +kernel⟩
set_option maxHeartbeats 4000000 in
theorem ok_beat {f : Addr} {fd : FuncData} {cs : Cls} (F : Fun K "beat" "beat" s_beat f fd) (T : Txt K mg cs)  : FnOk P w K mg base (CX1 P w) 1 f fd ["first", "gap"] (sp_beat K cs) := by
 refine F.okX sc_beat (fun vs H Q E h => ?_) (fun cdv A outer s H vs Q E hr h => ?_)
 ·obtain ⟨f0, g, rfl, _⟩ := h
  rfl
 ·obtain ⟨f0, g, rfl, ke, kq⟩ := h
  refine ⟨_, (pss_cons (ps_if (pt_cmpR op_lt (pv 1) pe_int (nomark _)) (pss_one (ps_raise throws_cx rfl T.i_NoBeat rfl T.m_NoBeat (pa_cons pe_str pa_nil))) pss_nil)
   (pss_one (ps_ret (pe_tup (pa_cons (pe_op op_mod (pv 0) (pv 1)) (pa_cons (pv 1) pa_nil)))))), ?_⟩
  walk_at "t"
  refine ite2 (fun h => ?_) (fun h => ?_)
  ·exact ⟨len_ok (Nat.le_of_ble_eq_true rfl), ke (b_of h)⟩
  ·have hn := b_not h
   have hg : 0 < g := by omega
   refine ⟨_, rfl, _, rfl, _, _, rfl, rfl, (by walk_at "sd"), _, rfl, (by walk_at "sz"), fun p1 hp1 => ?_⟩
   exact kq hn p1 hp1
theorem sc_Tower_hang : FnScope ["self", "name", "first", "gap"] ["self", "name", "first", "gap"] (defScope s_Tower_hang) := ⟨rfl, rfl, rfl, by decide +kernel, rfl, by decide +kernel, by decide +kernel⟩
set_option maxHeartbeats 4000000 in
theorem ok_Tower_hang {f : Addr} {fd : FuncData} {cs : Cls} {Td : Addr} {ds : List Value} (F : FunD K "hang" "Tower.hang" s_Tower_hang f fd Td ds) (T : Txt K mg cs) (D_beat : DnX P w K mg base "beat" 1 ["first", "gap"] (sp_beat K cs)) : FnOk P w K mg base (CX1 P w) 2 f fd ["self", "name", "first", "gap"] (sp_Tower_hang K cs) := by
 refine F.okX sc_Tower_hang (fun vs H Q E h => ?_) (fun cdv A outer s H vs Q E hr h => ?_)
 ·obtain ⟨t, d, n, f0, g, bl, rfl, _⟩ := h
  rfl
 ·obtain ⟨t, d, n, f0, g, bl, rfl, TW, hl, hb60, ke1, ke2, kq⟩ := h
  refine ⟨_, (pss_cons (ps_if (pt_cmp (pc_din (hu_of hr) (pv 1) (pe_fld (pv 0) rfl))) (pss_one (ps_raise throws_cx rfl T.i_Twice rfl T.m_Twice (pa_cons (pe_join (pj_cons (pe_fmt (pv 1)) (pj_cons pe_str pj_nil))) pa_nil))) pss_nil)
   (pss_one (ps_dput (hu_of hr) (pe_fld (pv 0) rfl) (pv 1) (pe_fnX D_beat (hr.mono (by decide)) passes_cx (pa_cons (pv 2) (pa_cons (pv 3) pa_nil))) rfl))), ?_⟩
  obtain ⟨⟨dx, h1⟩, ⟨kvs, h2, h3⟩, nd⟩ := id TW
  have kl := Paired.length h3
  have ntd : t ≠ d := ne_of h1 h2 (by intro z; cases z)
  refine ⟨_, rfl, _, rfl, _, _, _, _, _, rfl, ‹_›, T.cl_Tower, T.na_Tower_hung, (fl_hung _), ?_⟩
  refine ⟨d, _, rfl, DGet.k (k := Sum.inr n) h2, _, rfl, ?_⟩
  by_cases hn : n ∈ bl.map (·.1)
  ·obtain ⟨i, b, hb⟩ := names_in hn
   obtain ⟨v, q1, q2⟩ := kv_yes h3 nd hb
   rw [q1]
   refine iteT ?_
   exact ⟨_, rfl, .inr ⟨_, rfl, len_ok (by omega), _, rfl, join_len (by omega), _, rfl, join_len2 (by omega) (by decide), join_len2 (by omega) (by decide), len_ok (Nat.le_of_ble_eq_true rfl), ke1 hn _ (Same.refl _)⟩⟩
  ·rw [kv_no h3 hn]
   refine iteF ?_
   by_cases hg : g < 1
   ·exact ⟨_, rfl, _, rfl, f0, g, rfl, fun _ => ke2 hn hg _ (Same.refl _), fun z => absurd hg z⟩
   ·refine ⟨_, rfl, _, rfl, f0, g, rfl, (fun z => absurd z hg), fun _ p1 hp1 => ?_⟩
    have h1' := get_new (u := .tup [.int (f0 % g), .int g]) h1 hp1
    have h2' := get_new (u := .tup [.int (f0 % g), .int g]) h2 hp1
    refine ⟨_, rfl, _, _, _, _, _, rfl, ‹_›, T.cl_Tower, T.na_Tower_hung, (fl_hung _), _, rfl, ?_⟩
    refine ⟨d, _, rfl, DPut.k (k := Sum.inr n) h2' (small1000 (by omega)), ?_⟩
    rw [putK_new _ (kv_no h3 hn)]
    have cc : Ch [d] H (upd (upd H p1 (.tup [.int (f0 % g), .int g])) d (.dK (kvs ++ [(Sum.inr n, .ref p1)]))) := (Ch.same (Same.new hp1)).upd (by simp) (fun xs z => by rw [h2'] at z; cases z)
    refine kq hn hg _ cc ⟨⟨dx, by rw [upd_ne ntd]; exact h1'⟩, ⟨_, upd_same, ?_⟩, ?_⟩
    ·refine paired_snoc (Paired.mono (fun _ _ q => q.on cc.2) h3) ⟨rfl, p1, rfl, ?_⟩
     rw [upd_ne (fun z => by rw [z, h2] at hp1; cases hp1), upd_same]
    ·rw [List.map_append]
     exact nd_snoc nd hn
theorem sc_l_hang : FnScope ["_law_tower", "_law_row", "_law_name_here", "_law_first", "_law_wide", "_law_plain", "_law_kinds_here", "_law_told", "_law_e"] ["_law_tower", "_law_row", "_law_name_here", "_law_first", "_law_wide", "_law_plain"] (defScope s_l_hang) := ⟨rfl, rfl, rfl, by decide +kernel, rfl, by decide +kernel, by decide +kernel⟩
set_option maxHeartbeats 4000000 in
theorem ok_l_hang {f : Addr} {fd : FuncData} {cs : Cls} (F : Fun K "_law_hang" "_law_hang" s_l_hang f fd) (T : Txt K mg cs) (D_Tower_hang : MethD P w K mg base (CX1 P w) cs.Tower "hang" 2 ["self", "name", "first", "gap"] [.int 24] "gap" (sp_Tower_hang K cs)) (D__law_kinds : DnH P w K mg base "_law_kinds" 1 ["_law_e"] (sp_l_kinds K cs)) (D__law_only : Dn P w K mg base "_law_only" 1 ["_law_place"] (sp_l_only K cs)) : FnOk P w K mg base CX0 3 f fd ["_law_tower", "_law_row", "_law_name_here", "_law_first", "_law_wide", "_law_plain"] (sp_l_hang K cs) := by
 refine F.ok sc_l_hang (fun vs H Q E h => ?_) (fun cdv A outer s H vs Q E hr h => ?_)
 ·obtain ⟨t, d, r, us, bl, n, f0, g, pl, rfl, _⟩ := h
  rfl
 ·obtain ⟨t, d, r, us, bl, n, f0, g, pl, rfl, TW, hr1, hrw, hl, hb13, hpl, k1, k2⟩ := h
  have hul := Paired.length hrw
  refine ⟨_, (pss_cons (ps_set (i := 6) sc_l_hang.nd rfl (Or.inl rfl) (pe_lst pa_nil))
   (pss_cons (ps_set (i := 7) sc_l_hang.nd rfl (Or.inl rfl) pe_non)
   (pss_cons (ps_tryS (i := 8) sc_l_hang.nd rfl rfl rfl rfl (psx_if (pt_val (pv 5)) (psx_set (i := 7) sc_l_hang.nd rfl (Or.inl rfl) (pxd_def D_Tower_hang (hr.mono (by decide)) (pv 0) (pa_cons (pv 2) (pa_cons (pv 3) pa_nil)))) (psx_if (pt_cmpR op_eq (pe_op op_mod (pv 4) pe_int) pe_int (nomark _)) (psx_set (i := 7) sc_l_hang.nd rfl (Or.inl rfl) (pxd_kw D_Tower_hang (hr.mono (by decide)) (pv 0) (pa_cons (pv 2) (pa_cons (pv 3) pa_nil)) (pv 4))) (psx_set (i := 7) sc_l_hang.nd rfl (Or.inl rfl) (pxd_all D_Tower_hang (hr.mono (by decide)) (pv 0) (pa_cons (pv 2) (pa_cons (pv 3) (pa_cons (pv 4) pa_nil))))))) rfl T.m_KnellError (fun _ => (pss_one (ps_set (i := 6) sc_l_hang.nd rfl (Or.inl rfl) (pe_fnH D__law_kinds (hr.held.mono (by decide)) (pa_cons (pv 8) pa_nil))))))
   (pss_cons (ps_if (pt_cmpR op_notN (pv 7) pe_non (nomark _)) (pss_one (ps_ret pe_bl)) pss_nil)
   (pss_cons (ps_if (pt_cmpR op_in_seq (pv 2) (pe_comp rfl (pi_list (pv 1)) (by refine ⟨rfl, by decide +kernel, rfl, by decide +kernel, rfl, (List.forall_mem_nil _), rfl, cap_nil, by decide +kernel, rfl⟩ : CompOk _ _ _ "_law_one" [] []) (fun _ _ _ => (pe_ix (ix_tupK (K := K) rfl) (pv 0) pe_int (fun _ _ => rfl)))) (by with_unfolding_all rfl)) (pss_one (ps_ret (pe_cmpR (op_eqL hr.units0) (pv 6) (pe_fn D__law_only (hr.mono (by decide)) (pa_cons pe_int pa_nil)) (nomark _)))) pss_nil)
   (pss_cons (ps_if (pt_cmpR op_lt (pv 4) pe_int (nomark _)) (pss_one (ps_ret (pe_cmpR (op_eqL hr.units0) (pv 6) (pe_fn D__law_only (hr.mono (by decide)) (pa_cons pe_int pa_nil)) (nomark _)))) pss_nil)
   (pss_cons (ps_expr (pe_bm PySem.F.plainAttrs_list PySem.F.slot_list_append PySem.F.type_list_append mt_append (pv 1) (pa_cons (pe_tup (pa_cons (pv 2) (pa_cons (pe_tup (pa_cons (pe_op op_mod (pv 3) (pv 4)) (pa_cons (pv 4) pa_nil))) pa_nil))) pa_nil)))
   (pss_one (ps_ret (pe_cmpR (op_eqL hr.units0) (pv 6) (pe_lst pa_nil) (nomark _))))))))))), ?_⟩
  refine ⟨(by walk_at "sz"), fun p1 hp1 => ?_⟩
  have sP : Same H (upd H p1 (.lst [])) := Same.new hp1
  have TW1 : TwAt cs.Tower (upd H p1 (.lst [])) t d bl := TW.keep (A := []) (Ch.same sP) (by simp) (by simp)
  obtain ⟨⟨dx, h1⟩, _, _⟩ := id TW1
  refine ⟨_, rfl, _, rfl, ?_⟩
  cases pl with
  | true =>
   refine iteT ?_
   refine ⟨_, rfl, t, dx, _, rfl, h1, fl_hang, _, rfl, _, rfl, ?_⟩
   refine ⟨t, d, n, f0, g, bl, (by rw [hpl rfl]; rfl), TW1, hl, by omega, fun hn H1 s1 => ?_, fun hn hg H1 s1 => ?_, fun hn hg H1 ch TW2 => ?_⟩
   ·refine ⟨cs.Twice, rfl, T.x_Twice_KnellError, fun x hx => ?_⟩
    refine ⟨_, rfl, x, cs.Twice, none, 3, rfl, .inl upd_same, T.e_Twice, ⟨T.k_Twice_ValueError, T.k_Twice_NoBeat, T.k_Twice_NoBell, T.k_Twice_TooMany, T.k_Twice_Twice, T.k_Twice_NoName, T.k_Twice_Clash⟩, fun p2 H2 s2 _ hp2 => ?_⟩
    have sx : Same H H2 := ((sP.trans s1).on hx).trans s2
    have hrX := sx _ _ hr1
    have hwX := rwv_on sx.tups hrw
    walk_at "l"
    refine iteF ?_
    refine ⟨_, rfl, _, rfl, _, rfl, ⟨_, SqL.of hrX⟩, ?_⟩
    refine fun D hD => ?_
    walk_at "f"
    ·rintro i v ys HC hv ⟨q1, q2, q3⟩
     obtain ⟨b, eb, pp, qq, rfl, hpp, hqq⟩ := paired_get hwX hv
     have hpp' := q1 _ _ hpp
     walk_at "k"
     walk_at "s"
    rintro ys HC ⟨q1, q2, q3⟩
    rw [List.take_of_length_le (by omega)] at q3
    have hfl : ys.all flatV = true := by
     rw [q3, List.all_map]
     exact List.all_eq_true.mpr fun _ _ => rfl
    refine ⟨_, _, rfl, .inl (SqL.of q2), rfl, hfl, _, rfl, ?_⟩
    walk_at "r"
    rw [ein]
    rw [decide_eq_true hn]
    refine iteT ?_
    have hk := q1 _ _ hp2
    refine ⟨_, rfl, 3, rfl, fun p5 H5 s5 hp5 => ?_⟩
    refine ⟨_, _, _, _, rfl, rfl, SqL.of (s5 _ _ hk), SqL.of hp5, rfl, rfl, ?_⟩
    rw [eqs_refl rfl]
    exact k1 (.inl hn) _ ((sx.trans q1).trans s5)
   ·refine ⟨cs.NoBeat, rfl, T.x_NoBeat_KnellError, fun x hx => ?_⟩
    refine ⟨_, rfl, x, cs.NoBeat, none, 0, rfl, .inl upd_same, T.e_NoBeat, ⟨T.k_NoBeat_ValueError, T.k_NoBeat_NoBeat, T.k_NoBeat_NoBell, T.k_NoBeat_TooMany, T.k_NoBeat_Twice, T.k_NoBeat_NoName, T.k_NoBeat_Clash⟩, fun p2 H2 s2 _ hp2 => ?_⟩
    have sx : Same H H2 := ((sP.trans s1).on hx).trans s2
    have hrX := sx _ _ hr1
    have hwX := rwv_on sx.tups hrw
    walk_at "l"
    refine iteF ?_
    refine ⟨_, rfl, _, rfl, _, rfl, ⟨_, SqL.of hrX⟩, ?_⟩
    refine fun D hD => ?_
    walk_at "f"
    ·rintro i v ys HC hv ⟨q1, q2, q3⟩
     obtain ⟨b, eb, pp, qq, rfl, hpp, hqq⟩ := paired_get hwX hv
     have hpp' := q1 _ _ hpp
     walk_at "k"
     walk_at "s"
    rintro ys HC ⟨q1, q2, q3⟩
    rw [List.take_of_length_le (by omega)] at q3
    have hfl : ys.all flatV = true := by
     rw [q3, List.all_map]
     exact List.all_eq_true.mpr fun _ _ => rfl
    refine ⟨_, _, rfl, .inl (SqL.of q2), rfl, hfl, _, rfl, ?_⟩
    walk_at "r"
    rw [ein]
    rw [decide_eq_false hn]
    refine iteF ?_
    walk_at "t"
    refine iteDT hg ?_
    have hk := q1 _ _ hp2
    refine ⟨_, rfl, 0, rfl, fun p5 H5 s5 hp5 => ?_⟩
    refine ⟨_, _, _, _, rfl, rfl, SqL.of (s5 _ _ hk), SqL.of hp5, rfl, rfl, ?_⟩
    rw [eqs_refl rfl]
    exact k1 (.inr hg) _ ((sx.trans q1).trans s5)
   ·have nrd : r ≠ d := fun z => by
     obtain ⟨_, ⟨kvs, hd, _⟩, _⟩ := TW
     rw [← z, hr1] at hd
     cases hd
    have hrX : H1 r = some (.lst us) := ch.1 _ _ (sP _ _ hr1) (by simpa using nrd)
    have hwX : RwV H1 us bl := rwv_on (sP.tups.trans ch.2) hrw
    have hp0 : H1 p1 = some (.lst []) := ch.1 _ _ upd_same (by
     simp only [List.mem_singleton]
     intro z
     obtain ⟨_, ⟨kvs, hd, _⟩, _⟩ := TW
     rw [z, hd] at hp1
     cases hp1)
    walk_at "l"
    refine iteF ?_
    refine ⟨_, rfl, _, rfl, _, rfl, ⟨_, SqL.of hrX⟩, ?_⟩
    refine fun D hD => ?_
    refine comp_list (xs := us) (fun i ys HC => Same H1 HC ∧ HC D = some (.lst ys) ∧ ys = (bl.take i).map fun b => V.str b.1) ⟨Same.new hD, upd_same, rfl⟩ (fun i ys HC hi ⟨q1, q2, q3⟩ => ⟨SqL.of (q1 _ _ hrX), q2, by rw [q3]; exact small1000 (by simp; omega)⟩) ?_ ?_
    ·rintro i v ys HC hv ⟨q1, q2, q3⟩
     obtain ⟨b, eb, pp, qq, rfl, hpp, hqq⟩ := paired_get hwX hv
     have hpp' := q1 _ _ hpp
     walk_at "k"
     walk_at "s"
    rintro ys HC ⟨q1, q2, q3⟩
    rw [List.take_of_length_le (by omega)] at q3
    have hfl : ys.all flatV = true := by
     rw [q3, List.all_map]
     exact List.all_eq_true.mpr fun _ _ => rfl
    refine ⟨_, _, rfl, .inl (SqL.of q2), rfl, hfl, _, rfl, ?_⟩
    walk_at "r"
    rw [ein]
    rw [decide_eq_false hn]
    refine iteF ?_
    walk_at "t"
    refine iteD hg ?_
    have hrC := q1 _ _ hrX
    have hg0 : 0 < g := by omega
    refine ⟨_, rfl, .inl ⟨rfl, _, SqL.of hrC⟩, _, rfl, _, rfl, _, rfl, _, _, rfl, rfl, (by walk_at "sd"), _, rfl, (by walk_at "sz"), fun p101 hp101 => ?_⟩
    refine ⟨len_ok (Nat.le_of_ble_eq_true rfl), fun p7 hp7 => ?_⟩
    have hr7 := get_new (u := .tup [.str n, .ref p101]) (get_new (u := .tup [.int (f0 % g), .int g]) hrC hp101) hp7
    refine ⟨_, _, _, rfl, rfl, hr7, small1000 (by omega), ?_⟩
    have c1 : Ch [d, r] H H1 := (Ch.same sP).trans (ch.mono (by simp))
    have c2 : Ch [d, r] H (upd (upd (upd HC p101 (.tup [.int (f0 % g), .int g])) p7 (.tup [.str n, .ref p101])) r (.lst (us ++ [.ref p7]))) := (c1.trans (Ch.same ((q1.on hp101).on hp7))).upd (by simp) (fun xs z => by rw [hr7] at z; cases z)
    have hk := q1 _ _ hp0
    have np0r : p1 ≠ r := fun z => by rw [z, hr1] at hp1; cases hp1
    refine ⟨_, rfl, (by walk_at "sz"), fun p102 hp102 => ?_⟩
    refine ⟨_, _, _, _, rfl, rfl, SqL.of (get_new (by rw [upd_ne np0r]; exact get_new (get_new hk hp101) hp7) hp102), SqL.of upd_same, rfl, rfl, ?_⟩
    have cq : Ch [r] (upd (upd HC p101 (.tup [.int (f0 % g), .int g])) p7 (.tup [.str n, .ref p101])) (upd (upd (upd (upd HC p101 (.tup [.int (f0 % g), .int g])) p7 (.tup [.str n, .ref p101])) r (.lst (us ++ [.ref p7]))) p102 (.lst [])) := (Ch.refl.upd (by simp) (fun xs z => by rw [hr7] at z; cases z)).trans (Ch.same (Same.new hp102))
    have c3 := (Ch.same (A := [r]) ((q1.on hp101 (o := .tup [.int (f0 % g), .int g])).on hp7 (o := .tup [.str n, .ref p101]))).trans cq
    have ntr : t ≠ r := fun z => by
     obtain ⟨⟨dx', e⟩, _, _⟩ := TW
     rw [z, hr1] at e
     cases e
    refine k2 hn hg _ (c2.trans (Ch.same (Same.new hp102))) (TW2.keep c3 (by simpa using ntr) (by simpa using nrd.symm)) ⟨us ++ [.ref p7], get_new upd_same hp102, paired_snoc (rwv_on c3.2 hwX) ⟨p7, p101, rfl, cq.2 _ _ upd_same, cq.2 _ _ (get_new upd_same hp7)⟩⟩
  | false =>
   refine iteF ?_
   refine ⟨_, rfl, _, _, rfl, rfl, (by walk_at "sd"), rfl, _, rfl, ?_⟩
   refine ite2 (fun h3 => ?_) (fun h3 => ?_)
   ·refine ⟨_, rfl, t, dx, _, rfl, h1, fl_hang, _, rfl, _, rfl, _, rfl, ?_⟩
    refine ⟨t, d, n, f0, g, bl, rfl, TW1, hl, by omega, fun hn H1 s1 => ?_, fun hn hg H1 s1 => ?_, fun hn hg H1 ch TW2 => ?_⟩
    ·refine ⟨cs.Twice, rfl, T.x_Twice_KnellError, fun x hx => ?_⟩
     refine ⟨_, rfl, x, cs.Twice, none, 3, rfl, .inl upd_same, T.e_Twice, ⟨T.k_Twice_ValueError, T.k_Twice_NoBeat, T.k_Twice_NoBell, T.k_Twice_TooMany, T.k_Twice_Twice, T.k_Twice_NoName, T.k_Twice_Clash⟩, fun p2 H2 s2 _ hp2 => ?_⟩
     have sx : Same H H2 := ((sP.trans s1).on hx).trans s2
     have hrX := sx _ _ hr1
     have hwX := rwv_on sx.tups hrw
     walk_at "l"
     refine iteF ?_
     refine ⟨_, rfl, _, rfl, _, rfl, ⟨_, SqL.of hrX⟩, ?_⟩
     refine fun D hD => ?_
     walk_at "f"
     ·rintro i v ys HC hv ⟨q1, q2, q3⟩
      obtain ⟨b, eb, pp, qq, rfl, hpp, hqq⟩ := paired_get hwX hv
      have hpp' := q1 _ _ hpp
      walk_at "k"
      walk_at "s"
     rintro ys HC ⟨q1, q2, q3⟩
     rw [List.take_of_length_le (by omega)] at q3
     have hfl : ys.all flatV = true := by
      rw [q3, List.all_map]
      exact List.all_eq_true.mpr fun _ _ => rfl
     refine ⟨_, _, rfl, .inl (SqL.of q2), rfl, hfl, _, rfl, ?_⟩
     walk_at "r"
     rw [ein]
     rw [decide_eq_true hn]
     refine iteT ?_
     have hk := q1 _ _ hp2
     refine ⟨_, rfl, 3, rfl, fun p5 H5 s5 hp5 => ?_⟩
     refine ⟨_, _, _, _, rfl, rfl, SqL.of (s5 _ _ hk), SqL.of hp5, rfl, rfl, ?_⟩
     rw [eqs_refl rfl]
     exact k1 (.inl hn) _ ((sx.trans q1).trans s5)
    ·refine ⟨cs.NoBeat, rfl, T.x_NoBeat_KnellError, fun x hx => ?_⟩
     refine ⟨_, rfl, x, cs.NoBeat, none, 0, rfl, .inl upd_same, T.e_NoBeat, ⟨T.k_NoBeat_ValueError, T.k_NoBeat_NoBeat, T.k_NoBeat_NoBell, T.k_NoBeat_TooMany, T.k_NoBeat_Twice, T.k_NoBeat_NoName, T.k_NoBeat_Clash⟩, fun p2 H2 s2 _ hp2 => ?_⟩
     have sx : Same H H2 := ((sP.trans s1).on hx).trans s2
     have hrX := sx _ _ hr1
     have hwX := rwv_on sx.tups hrw
     walk_at "l"
     refine iteF ?_
     refine ⟨_, rfl, _, rfl, _, rfl, ⟨_, SqL.of hrX⟩, ?_⟩
     refine fun D hD => ?_
     walk_at "f"
     ·rintro i v ys HC hv ⟨q1, q2, q3⟩
      obtain ⟨b, eb, pp, qq, rfl, hpp, hqq⟩ := paired_get hwX hv
      have hpp' := q1 _ _ hpp
      walk_at "k"
      walk_at "s"
     rintro ys HC ⟨q1, q2, q3⟩
     rw [List.take_of_length_le (by omega)] at q3
     have hfl : ys.all flatV = true := by
      rw [q3, List.all_map]
      exact List.all_eq_true.mpr fun _ _ => rfl
     refine ⟨_, _, rfl, .inl (SqL.of q2), rfl, hfl, _, rfl, ?_⟩
     walk_at "r"
     rw [ein]
     rw [decide_eq_false hn]
     refine iteF ?_
     walk_at "t"
     refine iteDT hg ?_
     have hk := q1 _ _ hp2
     refine ⟨_, rfl, 0, rfl, fun p5 H5 s5 hp5 => ?_⟩
     refine ⟨_, _, _, _, rfl, rfl, SqL.of (s5 _ _ hk), SqL.of hp5, rfl, rfl, ?_⟩
     rw [eqs_refl rfl]
     exact k1 (.inr hg) _ ((sx.trans q1).trans s5)
    ·have nrd : r ≠ d := fun z => by
      obtain ⟨_, ⟨kvs, hd, _⟩, _⟩ := TW
      rw [← z, hr1] at hd
      cases hd
     have hrX : H1 r = some (.lst us) := ch.1 _ _ (sP _ _ hr1) (by simpa using nrd)
     have hwX : RwV H1 us bl := rwv_on (sP.tups.trans ch.2) hrw
     have hp0 : H1 p1 = some (.lst []) := ch.1 _ _ upd_same (by
      simp only [List.mem_singleton]
      intro z
      obtain ⟨_, ⟨kvs, hd, _⟩, _⟩ := TW
      rw [z, hd] at hp1
      cases hp1)
     walk_at "l"
     refine iteF ?_
     refine ⟨_, rfl, _, rfl, _, rfl, ⟨_, SqL.of hrX⟩, ?_⟩
     refine fun D hD => ?_
     refine comp_list (xs := us) (fun i ys HC => Same H1 HC ∧ HC D = some (.lst ys) ∧ ys = (bl.take i).map fun b => V.str b.1) ⟨Same.new hD, upd_same, rfl⟩ (fun i ys HC hi ⟨q1, q2, q3⟩ => ⟨SqL.of (q1 _ _ hrX), q2, by rw [q3]; exact small1000 (by simp; omega)⟩) ?_ ?_
     ·rintro i v ys HC hv ⟨q1, q2, q3⟩
      obtain ⟨b, eb, pp, qq, rfl, hpp, hqq⟩ := paired_get hwX hv
      have hpp' := q1 _ _ hpp
      walk_at "k"
      walk_at "s"
     rintro ys HC ⟨q1, q2, q3⟩
     rw [List.take_of_length_le (by omega)] at q3
     have hfl : ys.all flatV = true := by
      rw [q3, List.all_map]
      exact List.all_eq_true.mpr fun _ _ => rfl
     refine ⟨_, _, rfl, .inl (SqL.of q2), rfl, hfl, _, rfl, ?_⟩
     walk_at "r"
     rw [ein]
     rw [decide_eq_false hn]
     refine iteF ?_
     walk_at "t"
     refine iteD hg ?_
     have hrC := q1 _ _ hrX
     have hg0 : 0 < g := by omega
     refine ⟨_, rfl, .inl ⟨rfl, _, SqL.of hrC⟩, _, rfl, _, rfl, _, rfl, _, _, rfl, rfl, (by walk_at "sd"), _, rfl, (by walk_at "sz"), fun p101 hp101 => ?_⟩
     refine ⟨len_ok (Nat.le_of_ble_eq_true rfl), fun p7 hp7 => ?_⟩
     have hr7 := get_new (u := .tup [.str n, .ref p101]) (get_new (u := .tup [.int (f0 % g), .int g]) hrC hp101) hp7
     refine ⟨_, _, _, rfl, rfl, hr7, small1000 (by omega), ?_⟩
     have c1 : Ch [d, r] H H1 := (Ch.same sP).trans (ch.mono (by simp))
     have c2 : Ch [d, r] H (upd (upd (upd HC p101 (.tup [.int (f0 % g), .int g])) p7 (.tup [.str n, .ref p101])) r (.lst (us ++ [.ref p7]))) := (c1.trans (Ch.same ((q1.on hp101).on hp7))).upd (by simp) (fun xs z => by rw [hr7] at z; cases z)
     have hk := q1 _ _ hp0
     have np0r : p1 ≠ r := fun z => by rw [z, hr1] at hp1; cases hp1
     refine ⟨_, rfl, (by walk_at "sz"), fun p102 hp102 => ?_⟩
     refine ⟨_, _, _, _, rfl, rfl, SqL.of (get_new (by rw [upd_ne np0r]; exact get_new (get_new hk hp101) hp7) hp102), SqL.of upd_same, rfl, rfl, ?_⟩
     have cq : Ch [r] (upd (upd HC p101 (.tup [.int (f0 % g), .int g])) p7 (.tup [.str n, .ref p101])) (upd (upd (upd (upd HC p101 (.tup [.int (f0 % g), .int g])) p7 (.tup [.str n, .ref p101])) r (.lst (us ++ [.ref p7]))) p102 (.lst [])) := (Ch.refl.upd (by simp) (fun xs z => by rw [hr7] at z; cases z)).trans (Ch.same (Same.new hp102))
     have c3 := (Ch.same (A := [r]) ((q1.on hp101 (o := .tup [.int (f0 % g), .int g])).on hp7 (o := .tup [.str n, .ref p101]))).trans cq
     have ntr : t ≠ r := fun z => by
      obtain ⟨⟨dx', e⟩, _, _⟩ := TW
      rw [z, hr1] at e
      cases e
     refine k2 hn hg _ (c2.trans (Ch.same (Same.new hp102))) (TW2.keep c3 (by simpa using ntr) (by simpa using nrd.symm)) ⟨us ++ [.ref p7], get_new upd_same hp102, paired_snoc (rwv_on c3.2 hwX) ⟨p7, p101, rfl, cq.2 _ _ upd_same, cq.2 _ _ (get_new upd_same hp7)⟩⟩
   ·refine ⟨_, rfl, t, dx, _, rfl, h1, fl_hang, _, rfl, _, rfl, _, rfl, ?_⟩
    refine ⟨t, d, n, f0, g, bl, rfl, TW1, hl, by omega, fun hn H1 s1 => ?_, fun hn hg H1 s1 => ?_, fun hn hg H1 ch TW2 => ?_⟩
    ·refine ⟨cs.Twice, rfl, T.x_Twice_KnellError, fun x hx => ?_⟩
     refine ⟨_, rfl, x, cs.Twice, none, 3, rfl, .inl upd_same, T.e_Twice, ⟨T.k_Twice_ValueError, T.k_Twice_NoBeat, T.k_Twice_NoBell, T.k_Twice_TooMany, T.k_Twice_Twice, T.k_Twice_NoName, T.k_Twice_Clash⟩, fun p2 H2 s2 _ hp2 => ?_⟩
     have sx : Same H H2 := ((sP.trans s1).on hx).trans s2
     have hrX := sx _ _ hr1
     have hwX := rwv_on sx.tups hrw
     walk_at "l"
     refine iteF ?_
     refine ⟨_, rfl, _, rfl, _, rfl, ⟨_, SqL.of hrX⟩, ?_⟩
     refine fun D hD => ?_
     walk_at "f"
     ·rintro i v ys HC hv ⟨q1, q2, q3⟩
      obtain ⟨b, eb, pp, qq, rfl, hpp, hqq⟩ := paired_get hwX hv
      have hpp' := q1 _ _ hpp
      walk_at "k"
      walk_at "s"
     rintro ys HC ⟨q1, q2, q3⟩
     rw [List.take_of_length_le (by omega)] at q3
     have hfl : ys.all flatV = true := by
      rw [q3, List.all_map]
      exact List.all_eq_true.mpr fun _ _ => rfl
     refine ⟨_, _, rfl, .inl (SqL.of q2), rfl, hfl, _, rfl, ?_⟩
     walk_at "r"
     rw [ein]
     rw [decide_eq_true hn]
     refine iteT ?_
     have hk := q1 _ _ hp2
     refine ⟨_, rfl, 3, rfl, fun p5 H5 s5 hp5 => ?_⟩
     refine ⟨_, _, _, _, rfl, rfl, SqL.of (s5 _ _ hk), SqL.of hp5, rfl, rfl, ?_⟩
     rw [eqs_refl rfl]
     exact k1 (.inl hn) _ ((sx.trans q1).trans s5)
    ·refine ⟨cs.NoBeat, rfl, T.x_NoBeat_KnellError, fun x hx => ?_⟩
     refine ⟨_, rfl, x, cs.NoBeat, none, 0, rfl, .inl upd_same, T.e_NoBeat, ⟨T.k_NoBeat_ValueError, T.k_NoBeat_NoBeat, T.k_NoBeat_NoBell, T.k_NoBeat_TooMany, T.k_NoBeat_Twice, T.k_NoBeat_NoName, T.k_NoBeat_Clash⟩, fun p2 H2 s2 _ hp2 => ?_⟩
     have sx : Same H H2 := ((sP.trans s1).on hx).trans s2
     have hrX := sx _ _ hr1
     have hwX := rwv_on sx.tups hrw
     walk_at "l"
     refine iteF ?_
     refine ⟨_, rfl, _, rfl, _, rfl, ⟨_, SqL.of hrX⟩, ?_⟩
     refine fun D hD => ?_
     walk_at "f"
     ·rintro i v ys HC hv ⟨q1, q2, q3⟩
      obtain ⟨b, eb, pp, qq, rfl, hpp, hqq⟩ := paired_get hwX hv
      have hpp' := q1 _ _ hpp
      walk_at "k"
      walk_at "s"
     rintro ys HC ⟨q1, q2, q3⟩
     rw [List.take_of_length_le (by omega)] at q3
     have hfl : ys.all flatV = true := by
      rw [q3, List.all_map]
      exact List.all_eq_true.mpr fun _ _ => rfl
     refine ⟨_, _, rfl, .inl (SqL.of q2), rfl, hfl, _, rfl, ?_⟩
     walk_at "r"
     rw [ein]
     rw [decide_eq_false hn]
     refine iteF ?_
     walk_at "t"
     refine iteDT hg ?_
     have hk := q1 _ _ hp2
     refine ⟨_, rfl, 0, rfl, fun p5 H5 s5 hp5 => ?_⟩
     refine ⟨_, _, _, _, rfl, rfl, SqL.of (s5 _ _ hk), SqL.of hp5, rfl, rfl, ?_⟩
     rw [eqs_refl rfl]
     exact k1 (.inr hg) _ ((sx.trans q1).trans s5)
    ·have nrd : r ≠ d := fun z => by
      obtain ⟨_, ⟨kvs, hd, _⟩, _⟩ := TW
      rw [← z, hr1] at hd
      cases hd
     have hrX : H1 r = some (.lst us) := ch.1 _ _ (sP _ _ hr1) (by simpa using nrd)
     have hwX : RwV H1 us bl := rwv_on (sP.tups.trans ch.2) hrw
     have hp0 : H1 p1 = some (.lst []) := ch.1 _ _ upd_same (by
      simp only [List.mem_singleton]
      intro z
      obtain ⟨_, ⟨kvs, hd, _⟩, _⟩ := TW
      rw [z, hd] at hp1
      cases hp1)
     walk_at "l"
     refine iteF ?_
     refine ⟨_, rfl, _, rfl, _, rfl, ⟨_, SqL.of hrX⟩, ?_⟩
     refine fun D hD => ?_
     refine comp_list (xs := us) (fun i ys HC => Same H1 HC ∧ HC D = some (.lst ys) ∧ ys = (bl.take i).map fun b => V.str b.1) ⟨Same.new hD, upd_same, rfl⟩ (fun i ys HC hi ⟨q1, q2, q3⟩ => ⟨SqL.of (q1 _ _ hrX), q2, by rw [q3]; exact small1000 (by simp; omega)⟩) ?_ ?_
     ·rintro i v ys HC hv ⟨q1, q2, q3⟩
      obtain ⟨b, eb, pp, qq, rfl, hpp, hqq⟩ := paired_get hwX hv
      have hpp' := q1 _ _ hpp
      walk_at "k"
      walk_at "s"
     rintro ys HC ⟨q1, q2, q3⟩
     rw [List.take_of_length_le (by omega)] at q3
     have hfl : ys.all flatV = true := by
      rw [q3, List.all_map]
      exact List.all_eq_true.mpr fun _ _ => rfl
     refine ⟨_, _, rfl, .inl (SqL.of q2), rfl, hfl, _, rfl, ?_⟩
     walk_at "r"
     rw [ein]
     rw [decide_eq_false hn]
     refine iteF ?_
     walk_at "t"
     refine iteD hg ?_
     have hrC := q1 _ _ hrX
     have hg0 : 0 < g := by omega
     refine ⟨_, rfl, .inl ⟨rfl, _, SqL.of hrC⟩, _, rfl, _, rfl, _, rfl, _, _, rfl, rfl, (by walk_at "sd"), _, rfl, (by walk_at "sz"), fun p101 hp101 => ?_⟩
     refine ⟨len_ok (Nat.le_of_ble_eq_true rfl), fun p7 hp7 => ?_⟩
     have hr7 := get_new (u := .tup [.str n, .ref p101]) (get_new (u := .tup [.int (f0 % g), .int g]) hrC hp101) hp7
     refine ⟨_, _, _, rfl, rfl, hr7, small1000 (by omega), ?_⟩
     have c1 : Ch [d, r] H H1 := (Ch.same sP).trans (ch.mono (by simp))
     have c2 : Ch [d, r] H (upd (upd (upd HC p101 (.tup [.int (f0 % g), .int g])) p7 (.tup [.str n, .ref p101])) r (.lst (us ++ [.ref p7]))) := (c1.trans (Ch.same ((q1.on hp101).on hp7))).upd (by simp) (fun xs z => by rw [hr7] at z; cases z)
     have hk := q1 _ _ hp0
     have np0r : p1 ≠ r := fun z => by rw [z, hr1] at hp1; cases hp1
     refine ⟨_, rfl, (by walk_at "sz"), fun p102 hp102 => ?_⟩
     refine ⟨_, _, _, _, rfl, rfl, SqL.of (get_new (by rw [upd_ne np0r]; exact get_new (get_new hk hp101) hp7) hp102), SqL.of upd_same, rfl, rfl, ?_⟩
     have cq : Ch [r] (upd (upd HC p101 (.tup [.int (f0 % g), .int g])) p7 (.tup [.str n, .ref p101])) (upd (upd (upd (upd HC p101 (.tup [.int (f0 % g), .int g])) p7 (.tup [.str n, .ref p101])) r (.lst (us ++ [.ref p7]))) p102 (.lst [])) := (Ch.refl.upd (by simp) (fun xs z => by rw [hr7] at z; cases z)).trans (Ch.same (Same.new hp102))
     have c3 := (Ch.same (A := [r]) ((q1.on hp101 (o := .tup [.int (f0 % g), .int g])).on hp7 (o := .tup [.str n, .ref p101]))).trans cq
     have ntr : t ≠ r := fun z => by
      obtain ⟨⟨dx', e⟩, _, _⟩ := TW
      rw [z, hr1] at e
      cases e
     refine k2 hn hg _ (c2.trans (Ch.same (Same.new hp102))) (TW2.keep c3 (by simpa using ntr) (by simpa using nrd.symm)) ⟨us ++ [.ref p7], get_new upd_same hp102, paired_snoc (rwv_on c3.2 hwX) ⟨p7, p101, rfl, cq.2 _ _ upd_same, cq.2 _ _ (get_new upd_same hp7)⟩⟩
theorem sc_l_divisor : FnScope ["_law_one", "_law_other"] ["_law_one", "_law_other"] (defScope s_l_divisor) := ⟨rfl, rfl, rfl, by decide +kernel, rfl, by decide +kernel, by decide +kernel⟩
set_option maxHeartbeats 4000000 in
theorem ok_l_divisor {f : Addr} {fd : FuncData} {cs : Cls} (F : Fun K "_law_divisor" "_law_divisor" s_l_divisor f fd) (T : Txt K mg cs)  : FnOk P w K mg base CX0 1 f fd ["_law_one", "_law_other"] (sp_l_divisor K cs) := by
 refine F.ok sc_l_divisor (fun vs H Q E h => ?_) (fun cdv A outer s H vs Q E hr h => ?_)
 ·obtain ⟨a, b, rfl, _⟩ := h
  rfl
 ·obtain ⟨a, b, rfl, ha, hb, k⟩ := h
  refine ⟨_, (pss_cons (ps_while PassesOwn.never (pt_cmpR op_ne (pv 1) pe_int (nomark _)) (pss_one (ps_par (i := 0) (j := 1) rfl sc_l_divisor.nd rfl rfl (by decide) rfl rfl (pa_cons (pv 1) (pa_cons (pe_op op_mod (pv 0) (pv 1)) pa_nil)) rfl)))
   (pss_one (ps_ret (pv 0)))), ?_⟩
  refine ⟨fun m σ H2 => ∃ (x y : Int), σ = [some (.int x), some (.int y)] ∧ H2 = H ∧ 0 < x ∧ 0 ≤ y ∧ Int.gcd x y = Int.gcd a b ∧ m = y.natAbs, ⟨_, a, b, rfl, rfl, ha, hb, rfl, rfl⟩, ?_⟩
  rintro m σ H2 ⟨x, y, rfl, rfl, hx, hy, e, rfl⟩
  walk_at "l"
  by_cases h0 : y = 0
  ·refine iteNS (e_eq h0) ?_
   subst h0
   have e' : (x : Int) = (Int.gcd a b : Int) := by rw [← e, KM.gcd_end (by omega)]
   refine ⟨_, rfl, ?_⟩
   exact (by rw [e']; exact k)
  ·refine iteNT (e_ne h0) ?_
   have h0 : 0 < y := by omega
   refine ⟨_, fun _ _ z => z, ?_⟩
   have r0 := em (x := x) h0
   refine ⟨_, rfl, _, rfl, _, rfl, _, _, rfl, rfl, (by walk_at "sd"), _, _, rfl, ?_⟩
   exact ⟨_, by omega, y, x % y, rfl, rfl, h0, r0.1, by rw [KM.gcd_step, e], rfl⟩
theorem sc_l_trouble : FnScope ["_law_row", "_law_clean", "_law_name_here", "_law_one", "_law_k", "_law_divisor_here"] ["_law_row", "_law_clean"] (defScope s_l_trouble) := ⟨rfl, rfl, rfl, by decide +kernel, rfl, by decide +kernel, by decide +kernel⟩
set_option maxHeartbeats 4000000 in
theorem ok_l_trouble {f : Addr} {fd : FuncData} {cs : Cls} (F : Fun K "_law_trouble" "_law_trouble" s_l_trouble f fd) (T : Txt K mg cs) (D__law_divisor : Dn P w K mg base "_law_divisor" 1 ["_law_one", "_law_other"] (sp_l_divisor K cs)) : FnOk P w K mg base CX0 2 f fd ["_law_row", "_law_clean"] (sp_l_trouble K cs) := by
 refine F.ok sc_l_trouble (fun vs H Q E h => ?_) (fun cdv A outer s H vs Q E hr h => ?_)
 ·obtain ⟨r, c, us, bl, cn, rfl, _⟩ := h
  rfl
 ·obtain ⟨r, c, us, bl, cn, rfl, hr1, hrw, hcl, hrc, hle, hap, hbd, hb13, k1, k2⟩ := h
  have hul := Paired.length hrw
  refine ⟨_, (pss_cons (ps_while PassesOwn.never (pt_cmpR op_lt (pe_ix ix_list (pv 1) pe_int (fun _ _ => rfl)) (pe_callB call_len_seq rfl T.n_len bt_len (pa_cons (pv 0) pa_nil)) (nomark _)) (pss_cons (ps_asg (pe_ix ix_list (pv 0) (pe_ix ix_list (pv 1) pe_int (fun _ _ => rfl)) (fun _ _ => rfl)) (pg_tup rfl (pgs_cons (pg_name (i := 2) sc_l_trouble.nd rfl (Or.inl rfl)) (pgs_cons (pg_name (i := 3) sc_l_trouble.nd rfl (Or.inl rfl)) pgs_nil))))
   (pss_cons (ps_for PassesOwn.never rfl (pi_range1 rfl T.n_range (pa_cons (pe_ix ix_list (pv 1) pe_int (fun _ _ => rfl)) pa_nil)) (pg_name (i := 4) sc_l_trouble.nd rfl (Or.inl rfl)) (pss_cons (ps_set (i := 5) sc_l_trouble.nd rfl (Or.inl rfl) (pe_fn D__law_divisor (hr.mono (by decide)) (pa_cons (pe_ix ix_tup (pe_ix ix_tup (pe_ix ix_list (pv 0) (pv 4) (fun _ _ => rfl)) pe_int (fun _ _ => rfl)) pe_int (fun _ _ => rfl)) (pa_cons (pe_ix ix_tup (pv 3) pe_int (fun _ _ => rfl)) pa_nil))))
   (pss_one (ps_if (pt_cmpR op_ne (pe_op op_mod (pe_op op_sub (pe_ix ix_tup (pe_ix ix_tup (pe_ix ix_list (pv 0) (pv 4) (fun _ _ => rfl)) pe_int (fun _ _ => rfl)) pe_int (fun _ _ => rfl)) (pe_ix ix_tup (pv 3) pe_int (fun _ _ => rfl))) (pv 5)) pe_int (nomark _)) (pss_one (ps_ret (pe_lst (pa_cons (pe_ix ix_tup (pe_ix ix_list (pv 0) (pv 4) (fun _ _ => rfl)) pe_int (fun _ _ => rfl)) (pa_cons (pv 2) (pa_cons (pv 5) pa_nil)))))) pss_nil))))
   (pss_one (ps_asg (pe_op op_add (pe_ix ix_list (pv 1) pe_int (fun _ _ => rfl)) pe_int) (pg_sub (pv 1) pe_int set_list))))))
   (pss_one (ps_ret (pe_lst pa_nil)))), ?_⟩
  refine ⟨fun m σ H2 => ∃ (j : Nat) (x1 x2 x3 x4 : Option V), σ = [some (.ref r), some (.ref c), x1, x2, x3, x4] ∧ Ch [c] H H2 ∧ H2 c = some (.lst [.int (j : Nat)]) ∧ (∀ b, H b = none → H2 b = none) ∧ j ≤ bl.length ∧ (∀ (a e : Nat) (x y : Bell), a < e → e < j → bl[a]? = some x → bl[e]? = some y → ¬ KM.Cl x.2 y.2) ∧ m = bl.length - j, ⟨_, cn, none, none, none, none, rfl, Ch.refl, hcl, fun _ z => z, hle, hap, rfl⟩, ?_⟩
  rintro m σ H2 ⟨j, x1, x2, x3, x4, rfl, ch, hc2, hfr, hj, hap2, rfl⟩
  have hr2 : H2 r = some (.lst us) := ch.1 _ _ hr1 (by simpa using hrc)
  have hw2 := rwv_on ch.2 hrw
  refine ⟨_, rfl, _, _, _, _, rfl, rfl, (by walk_at "sq"), (by walk_at "at"), _, rfl, _, _, rfl, (by walk_at "ln"), _, _, rfl, rfl, _, rfl, ?_⟩
  refine ite2 (fun h => ?_) (fun h => ?_)
  ·have hjl : j < bl.length := by have := b_of h; omega
   refine ⟨_, fun _ _ z => z, ?_⟩
   obtain ⟨v, ev, p, q, rfl, hp, hq⟩ := paired_getR hw2 (List.getElem?_eq_getElem hjl)
   have ea : atI us ((j : Nat) : Int) = some (.ref p) := atI_nat ev
   have hbj := (hbd _ (List.getElem_mem hjl)).1
   have hbjp := hbj.pos
   refine ⟨_, rfl, _, rfl, _, _, _, _, rfl, rfl, (by walk_at "sq"), (by walk_at "at"), _, _, _, _, rfl, rfl, SqL.of hr2, ea, ?_⟩
   refine ⟨_, _, rfl, SqT.of hp, rfl, _, _, rfl, _, _, rfl, rfl, ?_⟩
   refine ⟨_, rfl, _, _, _, _, rfl, rfl, (by walk_at "sq"), (by walk_at "at"), _, rfl, by omega, by omega, ?_⟩
   refine for_range (lo := 0) (n := ((j : Nat) : Int).toNat) (fun i σ H3 => ∃ (x3 x4 : Option V), σ = [some (.ref r), some (.ref c), some (.str bl[j].1), some (.ref q), x3, x4] ∧ H3 = H2 ∧ ∀ (a : Nat) (x : Bell), a < i → bl[a]? = some x → ¬ KM.Cl x.2 bl[j].2) ⟨_, _, rfl, rfl, fun a x z => absurd z (Nat.not_lt_zero _)⟩ ?_ ?_
   ·rintro i σ H3 hi ⟨x3, x4, rfl, rfl, hno⟩
    have hib : i < bl.length := by omega
    obtain ⟨v', ev', p', q', rfl, hp', hq'⟩ := paired_getR hw2 (List.getElem?_eq_getElem hib)
    have ea' : atI us (0 + (i : Int)) = some (.ref p') := by rw [Int.zero_add]; exact atI_nat ev'
    have hbi := (hbd _ (List.getElem_mem hib)).1
    have hbip := hbi.pos
    have hg0 := KM.gcd_posL (b := bl[j].2.2) hbip
    have hj0 : 0 ≤ bl[j].2.2 := by omega
    refine ⟨_, rfl, _, rfl, _, _, _, _, rfl, rfl, SqL.of hr2, ea', _, _, _, _, rfl, rfl, SqT.of hp', at1, _, _, _, _, rfl, rfl, SqT.of hq', at1, _, rfl, _, _, _, _, rfl, rfl, (by walk_at "sq"), (by walk_at "at"), ?_⟩
    refine ⟨_, _, rfl, hbip, hj0, ?_⟩
    refine ⟨_, rfl, _, rfl, _, _, _, _, rfl, rfl, SqL.of hr2, ea', _, _, _, _, rfl, rfl, SqT.of hp', at1, _, _, _, _, rfl, rfl, SqT.of hq', at0, _, rfl, _, _, _, _, rfl, rfl, (by walk_at "sq"), (by walk_at "at"), _, _, rfl, rfl, _, rfl, _, _, rfl, rfl, hg0, rfl, _, rfl, ?_⟩
    by_cases hz : (bl[i].2.1 - bl[j].2.1) % (Int.gcd bl[i].2.2 bl[j].2.2 : Int) = 0
    ·refine iteNS (e_eq hz) ?_
     refine ⟨_, _, rfl, rfl, fun a x ha hx => ?_⟩
     by_cases hai : a < i
     ·exact hno a x hai hx
     ·have : a = i := by omega
      subst this
      rw [List.getElem?_eq_getElem hib] at hx
      cases hx
      exact fun z => z hz
    ·refine iteNT (e_ne hz) ?_
     refine ⟨_, rfl, _, rfl, _, _, _, _, rfl, rfl, SqL.of hr2, ea', _, _, _, _, rfl, rfl, SqT.of hp', at0, _, rfl, _, rfl, ?_⟩
     refine ⟨len_ok (Nat.le_of_ble_eq_true rfl), fun p7 hp7 => ?_⟩
     have hp7H : H p7 = none := by
      cases e : H p7 with
      | none => rfl
      | some o =>
       by_cases hpc : p7 = c
       ·rw [hpc, hc2] at hp7; cases hp7
       ·rw [ch.1 _ _ e (by simpa using hpc)] at hp7; cases hp7
     refine k2 i j _ bl[i] bl[j] p7 _ (ch.trans (Ch.same (Same.new hp7))) hp7H ⟨by omega, by rw [beatsOf, List.length_map]; exact hjl, fun b c' e1 e2 => ?_, fun a b c' ha e1 e2 => ?_, fun a e b c' hae hej e1 e2 => ?_⟩ (List.getElem?_eq_getElem hib) (List.getElem?_eq_getElem hjl) upd_same (get_new hc2 hp7)
     ·rw [beatsOf, List.getElem?_map, List.getElem?_eq_getElem hib] at e1
      rw [beatsOf, List.getElem?_map, List.getElem?_eq_getElem hjl] at e2
      cases e1
      cases e2
      exact ⟨hz, rfl⟩
     ·rw [beatsOf, List.getElem?_map] at e1
      rw [beatsOf, List.getElem?_map, List.getElem?_eq_getElem hjl] at e2
      obtain ⟨x, ex, rfl⟩ := Option.map_eq_some_iff.mp e1
      cases e2
      exact hno a x ha ex
     ·rw [beatsOf, List.getElem?_map] at e1 e2
      obtain ⟨x, ex, rfl⟩ := Option.map_eq_some_iff.mp e1
      obtain ⟨y, ey, rfl⟩ := Option.map_eq_some_iff.mp e2
      exact hap2 a e x y hae hej ex ey
   ·rintro σ H3 ⟨x3, x4, rfl, rfl, hno⟩
    refine ⟨_, rfl, _, _, _, _, rfl, rfl, (by walk_at "sq"), (by walk_at "at"), _, _, rfl, rfl, _, rfl, ?_⟩
    refine ⟨_, _, _, 0, rfl, rfl, hc2, rfl, ?_⟩
    refine ⟨_, by omega, j + 1, _, _, _, _, rfl, ch.upd (by simp) (fun xs z => by rw [hc2] at z; cases z), ?_, fun b hb => ?_, by omega, fun a e x y hae he e1 e2 => ?_, rfl⟩
    ·rw [upd_same]
     rfl
    ·rw [upd_ne (fun z => by rw [z, hcl] at hb; cases hb)]
     exact hfr b hb
    ·by_cases hej : e < j
     ·exact hap2 a e x y hae hej e1 e2
     ·have : e = j := by omega
      subst this
      rw [List.getElem?_eq_getElem hjl] at e2
      cases e2
      exact hno a x (by omega) e1
  ·have hjl : j = bl.length := by have := b_not h; omega
   subst hjl
   refine ⟨(by walk_at "sz"), fun p1 hp1 => ?_⟩
   have hpH : H p1 = none := by
    cases e : H p1 with
    | none => rfl
    | some o =>
     by_cases hpc : p1 = c
     ·rw [hpc, hc2] at hp1; cases hp1
     ·rw [ch.1 _ _ e (by simpa using hpc)] at hp1; cases hp1
   exact k1 p1 _ (ch.trans (Ch.same (Same.new hp1))) hpH upd_same (get_new hc2 hp1) fun i j x y hij e1 e2 => hap2 i j x y hij (List.getElem?_eq_some_iff.mp e2).1 e1 e2
theorem sc_next_from : FnScope ["one", "moment"] ["one", "moment"] (defScope s_next_from) := ⟨rfl, rfl, rfl, by decide +kernel, rfl, by decide +kernel, by decide +kernel⟩
set_option maxHeartbeats 4000000 in
theorem ok_next_from {f : Addr} {fd : FuncData} {cs : Cls} (F : Fun K "next_from" "next_from" s_next_from f fd) (T : Txt K mg cs)  : FnOk P w K mg base CX0 1 f fd ["one", "moment"] (sp_next_from K cs) := by
 refine F.ok sc_next_from (fun vs H Q E h => ?_) (fun cdv A outer s H vs Q E hr h => ?_)
 ·obtain ⟨a, r, g, m, rfl, _⟩ := h
  rfl
 ·obtain ⟨a, r, g, m, rfl, h1, hg, k⟩ := h
  refine ⟨_, (pss_one (ps_ret (pe_op op_add (pv 1) (pe_op op_mod (pe_op op_sub (pe_ix ix_tup (pv 0) pe_int (fun _ _ => rfl)) (pv 1)) (pe_ix ix_tup (pv 0) pe_int (fun _ _ => rfl)))))), ?_⟩
  refine ⟨_, rfl, _, rfl, _, _, _, _, rfl, rfl, (by walk_at "sq"), (by walk_at "at"), _, rfl, _, _, rfl, rfl, _, rfl, _, _, _, _, rfl, rfl, (by walk_at "sq"), (by walk_at "at"), _, _, rfl, rfl, (by walk_at "sd"), _, _, rfl, rfl, ?_⟩
  exact k
theorem sc_rings : FnScope ["one", "moment"] ["one", "moment"] (defScope s_rings) := ⟨rfl, rfl, rfl, by decide +kernel, rfl, by decide +kernel, by decide +kernel⟩
set_option maxHeartbeats 4000000 in
theorem ok_rings {f : Addr} {fd : FuncData} {cs : Cls} (F : Fun K "rings" "rings" s_rings f fd) (T : Txt K mg cs)  : FnOk P w K mg base CX0 1 f fd ["one", "moment"] (sp_rings K cs) := by
 refine F.ok sc_rings (fun vs H Q E h => ?_) (fun cdv A outer s H vs Q E hr h => ?_)
 ·obtain ⟨a, r, g, m, rfl, _⟩ := h
  rfl
 ·obtain ⟨a, r, g, m, rfl, h1, hg, k⟩ := h
  refine ⟨_, (pss_one (ps_ret (pe_cmpR op_eq (pe_op op_mod (pv 1) (pe_ix ix_tup (pv 0) pe_int (fun _ _ => rfl))) (pe_ix ix_tup (pv 0) pe_int (fun _ _ => rfl)) (nomark _)))), ?_⟩
  refine ⟨_, rfl, _, rfl, _, _, _, _, rfl, rfl, (by walk_at "sq"), (by walk_at "at"), _, _, rfl, rfl, (by walk_at "sd"), _, rfl, _, _, _, _, rfl, rfl, (by walk_at "sq"), (by walk_at "at"), rfl, ?_⟩
  rw [dec_int]
  exact k
theorem sc_Tower_next_any : FnScope ["self", "moment", "soonest"] ["self", "moment"] (defScope s_Tower_next_any) := ⟨rfl, rfl, rfl, by decide +kernel, rfl, by decide +kernel, by decide +kernel⟩
set_option maxHeartbeats 4000000 in
theorem ok_Tower_next_any {f : Addr} {fd : FuncData} {cs : Cls} {Td : Addr} {ds : List Value} (F : FunD K "next_any" "Tower.next_any" s_Tower_next_any f fd Td ds) (T : Txt K mg cs) (D_next_from : Dn P w K mg base "next_from" 1 ["one", "moment"] (sp_next_from K cs)) (D_rings : Dn P w K mg base "rings" 1 ["one", "moment"] (sp_rings K cs)) : FnOk P w K mg base (CX1 P w) 2 f fd ["self", "moment"] (sp_Tower_next_any K cs) := by
 refine F.okX sc_Tower_next_any (fun vs H Q E h => ?_) (fun cdv A outer s H vs Q E hr h => ?_)
 ·obtain ⟨t, d, m, bl, rfl, _⟩ := h
  rfl
 ·obtain ⟨t, d, m, bl, rfl, TW, hbo, hl, ke, kq⟩ := h
  refine ⟨_, (pss_cons (ps_if (pt_cmpR op_eq (pe_callB call_lenD rfl T.n_len bt_len (pa_cons (pe_fld (pv 0) rfl) pa_nil)) pe_int (nomark _)) (pss_one (ps_raise throws_cx rfl T.i_NoBell rfl T.m_NoBell (pa_cons pe_str pa_nil))) pss_nil)
   (pss_cons (ps_set (i := 2) sc_Tower_next_any.nd rfl (Or.inr rfl) (pe_callB (call_minL (K := K) rfl rfl) rfl T.n_min bt_min (pa_cons (pe_frz (pe_comp rfl (pi_values (pe_values (pe_fld (pv 0) rfl))) (by refine ⟨rfl, by decide +kernel, rfl, by decide +kernel, rfl, (List.forall_mem_cons.mpr ⟨rfl, List.forall_mem_nil _⟩), rfl, (cap_cons ⟨rfl, rfl, rfl, rfl⟩ cap_nil), by decide +kernel, rfl⟩ : CompOk _ _ _ "one" ["moment"] [1]) (fun _ _ _ => (pe_fn D_next_from (hr.mono (by decide)) (pa_cons (pv 0) (pa_cons (pv 1) pa_nil)))))) pa_nil)))
   (pss_one (ps_ret (pe_tup (pa_cons (pv 2) (pa_cons (pe_frz (pe_compT2 rfl (pi_items (pe_items (pe_fld (pv 0) rfl))) (by refine ⟨rfl, by decide +kernel, rfl, by decide +kernel, rfl, rfl, (List.forall_mem_cons.mpr ⟨rfl, List.forall_mem_nil _⟩), rfl, (cap_cons ⟨rfl, rfl, rfl, rfl⟩ cap_nil), by decide +kernel, rfl⟩ : CompOk2 _ _ _ "name" "one" ["soonest"] [2]) (fun _ _ _ => (pt_val (pe_fn D_rings (hr.mono (by decide)) (pa_cons (pv 1) (pa_cons (pv 2) pa_nil))))) (fun _ _ _ => (pv 0)))) pa_nil))))))), ?_⟩
  obtain ⟨⟨dx, h1⟩, ⟨kvs, h2, h3⟩, nd⟩ := id TW
  have hkl := Paired.length h3
  have ntd : t ≠ d := ne_of h1 h2 (by intro z; cases z)
  refine ⟨_, rfl, _, _, _, _, _, rfl, ‹_›, T.cl_Tower, T.na_Tower_hung, (fl_hung _), ?_⟩
  refine ⟨d, kvs, rfl, h2, rfl, _, rfl, ?_⟩
  by_cases hn : bl = []
  ·refine iteDT (e_eq (by rw [hkl, hn]; rfl)) ?_
   exact ⟨len_ok (Nat.le_of_ble_eq_true rfl), ke hn _ (Same.refl _)⟩
  ·have hpos := List.length_pos_iff.mpr hn
   refine iteD (e_ne (by omega)) ?_
   refine ⟨d, kvs, h2, fun ob => ?_⟩
   have h1' : upd H d (.frz ob (.dK kvs)) t = some (.ins cs.Tower dx [("hung", .ref d)]) := by rw [upd_ne ntd]; exact h1
   refine ⟨_, rfl, _, _, _, _, _, rfl, ‹_›, T.cl_Tower, T.na_Tower_hung, (fl_hung _), ?_⟩
   refine ⟨d, kvs, rfl, .inr ⟨ob, upd_same⟩, fun v hv => ?_⟩
   refine ⟨v, d, ob, kvs, rfl, upd_same, get_new upd_same hv, fun D hD => ?_⟩
   have tz : Tups H (upd H d (.frz ob (.dK kvs))) := fun b xs e => by rw [upd_ne (fun z => by rw [z, h2] at e; cases e)]; exact e
   have tz1 : Tups H (upd (upd H d (.frz ob (.dK kvs))) v (valuesHO v d)) := tz.trans (Same.new hv).tups
   have atd : (upd (upd H d (.frz ob (.dK kvs))) v (valuesHO v d)) d = some (.frz ob (.dK kvs)) := get_new upd_same hv
   refine comp_values (d := d) (ob := ob) (kvs := kvs) (fun i ys HC => Same (upd (upd H d (.frz ob (.dK kvs))) v (valuesHO v d)) HC ∧ HC D = some (.lst ys) ∧ ys = (bl.take i).map fun b => V.int (m + (b.2.1 - m) % b.2.2)) ⟨Same.new hD, upd_same, rfl⟩ (fun i ys HC hi ⟨q1, q2, q3⟩ => ⟨q1 _ _ atd, q2, by rw [q3]; exact small1000 (by simp; omega)⟩) ?_ ?_
   ·rintro i kv ys HC hkv ⟨q1, q2, q3⟩
    obtain ⟨b, eb, hk1, q, hk2, hq⟩ := paired_get h3 hkv
    have hq' := q1 _ _ (tz1 _ _ hq)
    have hbp := (hbo b (List.mem_of_getElem? eb)).pos
    rw [hk2]
    refine ⟨_, rfl, _, rfl, _, _, _, _, rfl, ‹_›, (by walk_at "sd"), ?_⟩
    walk_at "s"
   ·rintro ys HC ⟨q1, q2, q3⟩
    rw [List.take_of_length_le (by omega)] at q3
    have nDd : D ≠ d := fun z => by rw [z, atd] at hD; cases hD
    refine ⟨q1 _ _ atd, _, bl.map (fun b => m + (b.2.1 - m) % b.2.2), rfl, SqL.of (by rw [upd_ne nDd, q2, q3, List.map_map]; rfl), by simpa using hn, fun mn hm hmin => ?_⟩
    obtain ⟨b0, hb0, e0⟩ := List.mem_map.mp hm
    -- the heap behind the first list
    have sA : Same H (upd HC d (.dK kvs)) := fun b o e => by
     by_cases hb : b = d
     ·subst hb
      rw [h2] at e
      cases e
      exact upd_same
     ·rw [upd_ne hb]
      exact q1 _ _ ((Same.new hv) _ _ (by rw [upd_ne hb]; exact e))
    generalize hHA : upd HC d (.dK kvs) = HA at *
    have h1A := sA _ _ h1
    have h2A := sA _ _ h2
    refine ⟨_, rfl, d, kvs, h2A, fun ob2 => ?_⟩
    have h1B : upd HA d (.frz ob2 (.dK kvs)) t = some (.ins cs.Tower dx [("hung", .ref d)]) := by rw [upd_ne ntd]; exact h1A
    refine ⟨_, rfl, _, _, _, _, _, rfl, ‹_›, T.cl_Tower, T.na_Tower_hung, (fl_hung _), ?_⟩
    refine ⟨d, kvs, rfl, .inr ⟨ob2, upd_same⟩, fun v2 hv2 => ?_⟩
    refine ⟨v2, d, ob2, kvs, rfl, upd_same, get_new upd_same hv2, fun D2 hD2 => ?_⟩
    have ty : Tups HA (upd HA d (.frz ob2 (.dK kvs))) := fun b xs e => by rw [upd_ne (fun z => by rw [z, h2A] at e; cases e)]; exact e
    have ty1 : Tups H (upd (upd HA d (.frz ob2 (.dK kvs))) v2 (itemsHO v2 d)) := (sA.tups.trans ty).trans (Same.new hv2).tups
    have atd2 : (upd (upd HA d (.frz ob2 (.dK kvs))) v2 (itemsHO v2 d)) d = some (.frz ob2 (.dK kvs)) := get_new upd_same hv2
    refine compT_items (d := d) (ob := ob2) (kvs := kvs) (fun i ys HE => Same (upd (upd HA d (.frz ob2 (.dK kvs))) v2 (itemsHO v2 d)) HE ∧ HE D2 = some (.lst ys) ∧ ys = ((bl.take i).filter fun b => KM.rg mn b.2).map fun b => V.str b.1) ⟨Same.new hD2, upd_same, rfl⟩ (fun i ys HE hi ⟨r1, r2, r3⟩ => ⟨r1 _ _ atd2, r2, by rw [r3, List.length_map]; exact small1000 (Nat.le_trans (List.length_filter_le ..) (by simp; omega))⟩) ?_ ?_
    ·rintro i kv ys HE T0 N hkv ⟨r1, r2, r3⟩ hT0 hN
     obtain ⟨b, eb, hk1, q, hk2, hq⟩ := paired_get h3 hkv
     have hbb := hbo b (List.mem_of_getElem? eb)
     have hbp := hbb.pos
     rw [hk2]
     have hk : kV kv.1 = .str b.1 := by rw [hk1]; rfl
     rw [hk]
     have hq' := (r1.on hT0 (o := .tup [.str b.1, .ref q])) _ _ (ty1 _ _ hq)
     have er : KM.rg mn b.2 = (mn % b.2.2 == b.2.1) := by
      unfold KM.rg
      rw [Bool.eq_iff_iff, beq_iff_eq, beq_iff_eq]
      exact KM.rest_iff hbb.lo hbb.hi
     have et : bl.take (i + 1) = bl.take i ++ [b] := KM.take_snoc eb
     refine ⟨_, rfl, _, rfl, _, _, _, _, rfl, ‹_›, (by walk_at "sd"), _, rfl, ?_⟩
     rw [← er]
     refine ite2 (fun h => ?_) (fun h => ?_)
     ·refine ⟨_, rfl, ?_⟩
      exact ⟨get_new r2 hT0, hN _ _ ⟨(r1.on hT0).own hD2, upd_same, by rw [r3, et, List.filter_append]; simp [h]⟩⟩
     ·exact hN _ _ ⟨r1.on hT0, get_new r2 hT0, by rw [r3, et, List.filter_append]; simp [h]⟩
    ·rintro ys HE ⟨r1, r2, r3⟩
     rw [List.take_of_length_le (by omega)] at r3
     have nDd2 : D2 ≠ d := fun z => by rw [z, atd2] at hD2; cases hD2
     refine ⟨r1 _ _ atd2, len_ok (Nat.le_of_ble_eq_true rfl), fun p5 hp5 => ?_⟩
     have sB : Same HA (upd HE d (.dK kvs)) := fun b o e => by
      by_cases hb : b = d
      ·subst hb
       rw [h2A] at e
       cases e
       exact upd_same
      ·rw [upd_ne hb]
       exact r1 _ _ ((Same.new hv2) _ _ (by rw [upd_ne hb]; exact e))
     have hD2A : HA D2 = none := by
      cases e : HA D2 with
      | none => rfl
      | some o => rw [(Same.new hv2) _ _ (show upd HA d (.frz ob2 (.dK kvs)) D2 = some o by rw [upd_ne nDd2]; exact e)] at hD2; cases hD2
     refine kq hn mn p5 D2 _ ((sA.trans sB).on hp5) upd_same (sA.free hD2A) (get_new (by rw [upd_ne nDd2, r2, r3]) hp5) ⟨b0, hb0, e0.symm⟩ fun b hb => hmin _ (List.mem_map.mpr ⟨b, hb, rfl⟩)
theorem sc_less_times : FnScope ["row", "other", "many"] ["row", "other", "many"] (defScope s_less_times) := ⟨rfl, rfl, rfl, by decide +kernel, rfl, by decide +kernel, by decide +kernel⟩
set_option maxHeartbeats 4000000 in
theorem ok_less_times {f : Addr} {fd : FuncData} {cs : Cls} (F : Fun K "less_times" "less_times" s_less_times f fd) (T : Txt K mg cs)  : FnOk P w K mg base CX0 1 f fd ["row", "other", "many"] (sp_less_times K cs) := by
 refine F.ok sc_less_times (fun vs H Q E h => ?_) (fun cdv A outer s H vs Q E hr h => ?_)
 ·obtain ⟨a, b, m, a0, a1, a2, b0, b1, b2, rfl, _⟩ := h
  rfl
 ·obtain ⟨a, b, m, a0, a1, a2, b0, b1, b2, rfl, h1, h2, m0, m1, m2, k⟩ := h
  refine ⟨_, (pss_one (ps_ret (pe_tup (pa_cons (pe_op op_sub (pe_ix ix_tup (pv 0) pe_int (fun _ _ => rfl)) (pe_op op_mulB (pv 2) (pe_ix ix_tup (pv 1) pe_int (fun _ _ => rfl)))) (pa_cons (pe_op op_sub (pe_ix ix_tup (pv 0) pe_int (fun _ _ => rfl)) (pe_op op_mulB (pv 2) (pe_ix ix_tup (pv 1) pe_int (fun _ _ => rfl)))) (pa_cons (pe_op op_sub (pe_ix ix_tup (pv 0) pe_int (fun _ _ => rfl)) (pe_op op_mulB (pv 2) (pe_ix ix_tup (pv 1) pe_int (fun _ _ => rfl)))) pa_nil)))))), ?_⟩
  refine ⟨_, rfl, _, _, _, _, rfl, rfl, (by walk_at "sq"), (by walk_at "at"), _, rfl, _, rfl, _, _, _, _, rfl, rfl, (by walk_at "sq"), (by walk_at "at"), _, _, rfl, rfl, (by walk_at "sd"), _, _, rfl, rfl, _, rfl, _, _, _, _, rfl, rfl, (by walk_at "sq"), (by walk_at "at"), _, rfl, _, rfl, _, _, _, _, rfl, rfl, (by walk_at "sq"), (by walk_at "at"), _, _, rfl, rfl, (by walk_at "sd"), _, _, rfl, rfl, _, rfl, _, _, _, _, rfl, rfl, (by walk_at "sq"), (by walk_at "at"), _, rfl, _, rfl, _, _, _, _, rfl, rfl, (by walk_at "sq"), (by walk_at "at"), _, _, rfl, rfl, (by walk_at "sd"), _, _, rfl, rfl, (by walk_at "sz"), fun p1 hp1 => ?_⟩
  exact k p1 hp1
theorem sc_weights : FnScope ["one", "other", "upper", "lower", "left"] ["one", "other"] (defScope s_weights) := ⟨rfl, rfl, rfl, by decide +kernel, rfl, by decide +kernel, by decide +kernel⟩
set_option maxHeartbeats 4000000 in
theorem ok_weights {f : Addr} {fd : FuncData} {cs : Cls} (F : Fun K "weights" "weights" s_weights f fd) (T : Txt K mg cs) (D_less_times : Dn P w K mg base "less_times" 1 ["row", "other", "many"] (sp_less_times K cs)) : FnOk P w K mg base CX0 2 f fd ["one", "other"] (sp_weights K cs) := by
 refine F.ok sc_weights (fun vs H Q E h => ?_) (fun cdv A outer s H vs Q E hr h => ?_)
 ·obtain ⟨one, other, rfl, _⟩ := h
  rfl
 ·obtain ⟨one, other, rfl, z1, z2, k⟩ := h
  refine ⟨_, (pss_cons (ps_set (i := 2) sc_weights.nd rfl (Or.inl rfl) (pe_tup (pa_cons (pv 0) (pa_cons pe_int (pa_cons pe_int pa_nil)))))
   (pss_cons (ps_set (i := 3) sc_weights.nd rfl (Or.inl rfl) (pe_tup (pa_cons (pv 1) (pa_cons pe_int (pa_cons pe_int pa_nil)))))
   (pss_cons (ps_while PassesOwn.never (pt_cmpR op_ne (pe_ix ix_tup (pv 3) pe_int (fun _ _ => rfl)) pe_int (nomark _)) (pss_cons (ps_set (i := 4) sc_weights.nd rfl (Or.inl rfl) (pe_fn D_less_times (hr.mono (by decide)) (pa_cons (pv 2) (pa_cons (pv 3) (pa_cons (pe_op op_fdivF (pe_ix ix_tup (pv 2) pe_int (fun _ _ => rfl)) (pe_ix ix_tup (pv 3) pe_int (fun _ _ => rfl))) pa_nil)))))
   (pss_cons (ps_set (i := 2) sc_weights.nd rfl (Or.inl rfl) (pv 3))
   (pss_one (ps_set (i := 3) sc_weights.nd rfl (Or.inl rfl) (pv 4))))))
   (pss_cons (ps_if (pt_cmpR op_lt (pe_ix ix_tup (pv 2) pe_int (fun _ _ => rfl)) pe_int (nomark _)) (pss_one (ps_ret (pe_tup (pa_cons (pe_un un_neg (pe_ix ix_tup (pv 2) pe_int (fun _ _ => rfl))) (pa_cons (pe_un un_neg (pe_ix ix_tup (pv 2) pe_int (fun _ _ => rfl))) (pa_cons (pe_un un_neg (pe_ix ix_tup (pv 2) pe_int (fun _ _ => rfl))) pa_nil)))))) pss_nil)
   (pss_one (ps_ret (pv 2))))))), ?_⟩
  refine ⟨_, rfl, (by walk_at "sz"), fun p1 hp1 => ?_⟩
  refine ⟨_, rfl, (by walk_at "sz"), fun p2 hp2 => ?_⟩
  have hC : one.natAbs + 2 * other.natAbs + 1 < 2 ^ 8003 := by
   rw [Nat.pow_succ, Nat.pow_succ, Nat.pow_succ]
   generalize 2 ^ 8000 = N at z1 z2 ⊢
   omega
  refine ⟨fun m σ H2 => ∃ (pa pb : Addr) (a u v b x y : Int) (l : Option V), σ = [some (.int one), some (.int other), some (.ref pa), some (.ref pb), l] ∧ Same H H2 ∧ H2 pa = some (.tup [.int a, .int u, .int v]) ∧ H2 pb = some (.tup [.int b, .int x, .int y]) ∧
    KM.Eu (one.natAbs + 2 * other.natAbs + 1) one other a u v b x y ∧ m = b.natAbs, ⟨_, p1, p2, one, 1, 0, other, 0, 1, none, rfl, (Same.new hp1).on hp2, (Same.new hp2) _ _ upd_same, upd_same, KM.Eu.start one other, rfl⟩, ?_⟩
  rintro m σ H2 ⟨pa, pb, a, u, v, b, x, y, l, rfl, s2, ha, hb, E, rfl⟩
  refine ⟨_, rfl, _, _, _, _, rfl, rfl, (by walk_at "sq"), (by walk_at "at"), rfl, _, rfl, ?_⟩
  by_cases b0 : b = 0
  ·refine iteNS (e_eq b0) ?_
   subst b0
   refine ⟨_, rfl, _, _, _, _, rfl, rfl, (by walk_at "sq"), (by walk_at "at"), _, _, rfl, rfl, _, rfl, ?_⟩
   refine ite2 (fun h => ?_) (fun h => ?_)
   ·refine ⟨_, rfl, _, _, _, _, rfl, rfl, (by walk_at "sq"), (by walk_at "at"), _, rfl, _, rfl, _, _, _, _, rfl, rfl, (by walk_at "sq"), (by walk_at "at"), _, rfl, _, rfl, _, _, _, _, rfl, rfl, (by walk_at "sq"), (by walk_at "at"), _, rfl, (by walk_at "sz"), fun p3 hp3 => ?_⟩
    exact k _ _ _ _ _ (s2.on hp3) ⟨upd_same, E.finN (b_of h), by rw [Int.natAbs_neg]; exact E.cu, by rw [Int.natAbs_neg]; exact E.cv⟩
   ·refine ⟨_, rfl, ?_⟩
    exact k _ _ _ _ _ s2 ⟨ha, E.fin (b_not h), E.cu, E.cv⟩
  ·refine iteNT (e_ne b0) ?_
   refine ⟨_, fun _ _ z => z, ?_⟩
   have hq := KM.fdiv_abs a b
   have dv : CDivF a b := divF (n := 8003) b0 (Nat.lt_of_le_of_lt E.sb hC)
   have hq' : (a.fdiv b).natAbs < 2 ^ 8003 := Nat.lt_of_le_of_lt (Nat.le_trans hq E.sa) hC
   have q0 : IntMulOk (a.fdiv b) b := mulOk_of hq' (Nat.lt_of_le_of_lt E.sb hC)
   have q1 : IntMulOk (a.fdiv b) x := mulOk_of hq' (Nat.lt_of_le_of_lt E.cx hC)
   have q2 : IntMulOk (a.fdiv b) y := mulOk_of hq' (Nat.lt_of_le_of_lt E.cy hC)
   refine ⟨_, rfl, _, rfl, _, rfl, _, _, _, _, rfl, rfl, (by walk_at "sq"), (by walk_at "at"), _, rfl, _, _, _, _, rfl, rfl, (by walk_at "sq"), (by walk_at "at"), _, _, rfl, rfl, (by walk_at "sd"), _, _, _, _, _, _, _, _, _, rfl, ‹_›, ‹_›, (by walk_at "sd"), (by walk_at "sd"), (by walk_at "sd"), fun p4 hp4 => ?_⟩
   refine ⟨_, rfl, _, rfl, ?_⟩
   exact ⟨_, KM.Eu.less b0, pb, p4, b, x, y, _, _, _, _, rfl, s2.on hp4, (Same.new hp4) _ _ hb, upd_same, E.turn (Nat.le_refl _) b0, rfl⟩
theorem sc_least_multiple : FnScope ["one", "other"] ["one", "other"] (defScope s_least_multiple) := ⟨rfl, rfl, rfl, by decide +kernel, rfl, by decide +kernel, by decide +kernel⟩
set_option maxHeartbeats 4000000 in
theorem ok_least_multiple {f : Addr} {fd : FuncData} {cs : Cls} (F : Fun K "least_multiple" "least_multiple" s_least_multiple f fd) (T : Txt K mg cs) (D_weights : Dn P w K mg base "weights" 2 ["one", "other"] (sp_weights K cs)) : FnOk P w K mg base CX0 3 f fd ["one", "other"] (sp_least_multiple K cs) := by
 refine F.ok sc_least_multiple (fun vs H Q E h => ?_) (fun cdv A outer s H vs Q E hr h => ?_)
 ·obtain ⟨a, b, rfl, _⟩ := h
  rfl
 ·obtain ⟨a, b, rfl, a0, b0, z1, z2, k⟩ := h
  have y1 := KM.sz_mono 8000 z1
  have y2 := KM.sz_mono 8000 z2
  refine ⟨_, (pss_one (ps_ret (pe_op op_mulB (pe_op op_fdivB (pv 0) (pe_ix ix_tup (pe_fn D_weights (hr.mono (by decide)) (pa_cons (pv 0) (pa_cons (pv 1) pa_nil))) pe_int (fun _ _ => rfl))) (pv 1)))), ?_⟩
  refine ⟨_, rfl, _, rfl, _, rfl, _, _, rfl, (by walk_at "sd"), (by walk_at "sd"), fun p1 d1 u1 v1 H1 sm1 wt1 => ?_⟩
  have ht := wt1.at_
  have hd := wt1.wt.gcd
  have hp := KM.gcd_posL (b := b) a0
  rw [← hd] at hp
  have zd : d1.natAbs < 2 ^ 4000 := KM.sz_le z1 (by omega) (hd ▸ KM.gcd_leL a0)
  have q0 : CDivB a d1 := divB hp zd
  have q1 : IntMulOk (a / d1) b := mulOk_of (KM.sz_div z1 hp) z2
  refine ⟨_, _, _, _, rfl, rfl, (by walk_at "sq"), at0, _, _, rfl, rfl, (by walk_at "sd"), ?_⟩
  refine ⟨_, rfl, _, _, rfl, rfl, (by walk_at "sd"), ?_⟩
  exact (by rw [hd]; exact k _ sm1)
theorem sc_met : FnScope ["one", "other", "found", "apart", "steps"] ["one", "other"] (defScope s_met) := ⟨rfl, rfl, rfl, by decide +kernel, rfl, by decide +kernel, by decide +kernel⟩
set_option maxHeartbeats 4000000 in
theorem ok_met {f : Addr} {fd : FuncData} {cs : Cls} (F : Fun K "met" "met" s_met f fd) (T : Txt K mg cs) (D_weights : Dn P w K mg base "weights" 2 ["one", "other"] (sp_weights K cs)) (D_beat : DnX P w K mg base "beat" 1 ["first", "gap"] (sp_beat K cs)) (D_least_multiple : Dn P w K mg base "least_multiple" 3 ["one", "other"] (sp_least_multiple K cs)) : FnOk P w K mg base CX0 4 f fd ["one", "other"] (sp_met K cs) := by
 refine F.ok sc_met (fun vs H Q E h => ?_) (fun cdv A outer s H vs Q E hr h => ?_)
 ·obtain ⟨a, b, r1, g1, r2, g2, rfl, _⟩ := h
  rfl
 ·obtain ⟨a, b, r1, g1, r2, g2, rfl, ha, hb, a0, a1, b0, b1, z1, z2, k⟩ := h
  have y1 := KM.sz_mono 8000 z1
  have y2 := KM.sz_mono 8000 z2
  have pos1 : 0 < g1 := by omega
  have pos2 : 0 < g2 := by omega
  refine ⟨_, (pss_cons (ps_set (i := 2) sc_met.nd rfl (Or.inl rfl) (pe_fn D_weights (hr.mono (by decide)) (pa_cons (pe_ix ix_tup (pv 0) pe_int (fun _ _ => rfl)) (pa_cons (pe_ix ix_tup (pv 1) pe_int (fun _ _ => rfl)) pa_nil))))
   (pss_cons (ps_set (i := 3) sc_met.nd rfl (Or.inl rfl) (pe_op op_sub (pe_ix ix_tup (pv 1) pe_int (fun _ _ => rfl)) (pe_ix ix_tup (pv 0) pe_int (fun _ _ => rfl))))
   (pss_cons (ps_if (pt_cmpR op_ne (pe_op op_mod (pv 3) (pe_ix ix_tup (pv 2) pe_int (fun _ _ => rfl))) pe_int (nomark _)) (pss_one (ps_ret pe_non)) pss_nil)
   (pss_cons (ps_set (i := 4) sc_met.nd rfl (Or.inl rfl) (pe_op op_mulB (pe_op op_fdivB (pv 3) (pe_ix ix_tup (pv 2) pe_int (fun _ _ => rfl))) (pe_ix ix_tup (pv 2) pe_int (fun _ _ => rfl))))
   (pss_one (ps_ret (pe_fnX D_beat (hr.mono (by decide)) pass_no (pa_cons (pe_op op_add (pe_ix ix_tup (pv 0) pe_int (fun _ _ => rfl)) (pe_op op_mulB (pv 4) (pe_ix ix_tup (pv 0) pe_int (fun _ _ => rfl)))) (pa_cons (pe_fn D_least_multiple (hr.mono (by decide)) (pa_cons (pe_ix ix_tup (pv 0) pe_int (fun _ _ => rfl)) (pa_cons (pe_ix ix_tup (pv 1) pe_int (fun _ _ => rfl)) pa_nil))) pa_nil))))))))), ?_⟩
  refine ⟨_, rfl, _, _, _, _, rfl, rfl, (by walk_at "sq"), (by walk_at "at"), _, rfl, _, _, _, _, rfl, rfl, (by walk_at "sq"), (by walk_at "at"), _, _, rfl, (by walk_at "sd"), (by walk_at "sd"), fun p1 d1 u1 v1 H1 sm1 wt1 => ?_⟩
  have ht := wt1.at_
  have hd := wt1.wt.gcd
  have hp := KM.gcd_posL (b := g2) pos1
  rw [← hd] at hp
  have ha' := sm1 _ _ ha
  have hb' := sm1 _ _ hb
  refine ⟨_, rfl, _, _, _, _, rfl, rfl, (by walk_at "sq"), (by walk_at "at"), _, rfl, _, _, _, _, rfl, rfl, (by walk_at "sq"), (by walk_at "at"), _, _, rfl, rfl, ?_⟩
  refine ⟨_, rfl, _, rfl, _, _, _, _, rfl, rfl, (by walk_at "sq"), (by walk_at "at"), _, _, rfl, rfl, (by walk_at "sd"), rfl, _, rfl, ?_⟩
  refine ite2 (fun h => ?_) (fun h => ?_)
  ·refine k _ _ sm1 (.inl ⟨rfl, fun z => ?_⟩)
   rw [← hd, KM.sub_swap] at z
   simp [z] at h
  ·have hz : (r2 - r1) % d1 = 0 := by simpa using h
   have zr : (r2 - r1).natAbs < 2 ^ 4001 := KM.sz_sub (KM.sz_le z2 b0 (by omega)) (KM.sz_le z1 a0 (by omega))
   have zd : d1.natAbs < 2 ^ 4000 := KM.sz_le z1 (by omega) (hd ▸ KM.gcd_leL pos1)
   have zu : u1.natAbs < 2 ^ 4002 := KM.sz_nat wt1.bu (by rw [Nat.pow_succ, Nat.pow_succ]; generalize 2 ^ 4000 = N at z1 z2 ⊢; omega)
   have q0 : CDivB (r2 - r1) d1 := divB hp zd
   have zq := KM.sz_div zr hp
   have q1 : IntMulOk ((r2 - r1) / d1) u1 := mulOk_of zq zu
   have q2 : IntMulOk ((r2 - r1) / d1 * u1) g1 := mulOk_of (KM.sz_mul zq zu) z1
   refine ⟨_, rfl, _, rfl, _, _, _, _, rfl, rfl, (by walk_at "sq"), (by walk_at "at"), _, _, rfl, rfl, (by walk_at "sd"), _, rfl, _, _, _, _, rfl, rfl, (by walk_at "sq"), (by walk_at "at"), _, _, rfl, rfl, (by walk_at "sd"), ?_⟩
   have hL : 0 < g1 / (Int.gcd g1 g2 : Int) * g2 := KM.lcm_pos pos1 pos2
   refine ⟨_, rfl, _, _, _, _, rfl, rfl, (by walk_at "sq"), (by walk_at "at"), _, rfl, _, rfl, _, _, _, _, rfl, rfl, (by walk_at "sq"), (by walk_at "at"), _, _, rfl, rfl, (by walk_at "sd"), _, _, rfl, rfl, _, rfl, _, _, _, _, rfl, rfl, (by walk_at "sq"), (by walk_at "at"), _, rfl, _, _, _, _, rfl, rfl, (by walk_at "sq"), (by walk_at "at"), _, _, rfl, (by walk_at "sd"), (by walk_at "sd"), (by walk_at "sd"), (by walk_at "sd"), fun H2 sm2 => ?_⟩
   refine ⟨_, _, rfl, (fun z => absurd z (by omega)), fun _ p3 hp3 => ?_⟩
   refine k _ _ ((sm1.trans sm2).on hp3) (.inr ⟨_, _, _, rfl, upd_same, KM.meets_of pos1 pos2 wt1.wt (Int.dvd_of_emod_eq_zero hz) (by rw [hd]) rfl, ?_⟩)
   rw [← hd, KM.sub_swap]
   exact hz
theorem sc_with_first : FnScope ["numbers", "others", "total", "left"] ["numbers", "others", "total"] (defScope s_with_first) := ⟨rfl, rfl, rfl, by decide +kernel, rfl, by decide +kernel, by decide +kernel⟩
set_option maxHeartbeats 4000000 in
theorem ok_with_first {f : Addr} {fd : FuncData} {cs : Cls} (F : Fun K "with_first" "with_first" s_with_first f fd) (T : Txt K mg cs)  : FnOk P w K mg base CX0 1 f fd ["numbers", "others", "total"] (sp_with_first K cs) := by
 refine F.ok sc_with_first (fun vs H Q E h => ?_) (fun cdv A outer s H vs Q E hr h => ?_)
 ·obtain ⟨a, b, n0, t, ns, os, rfl, _⟩ := h
  rfl
 ·obtain ⟨a, b, n0, t, ns, os, rfl, ha, hb, hle, hl, p0, z0, zo, zn, k⟩ := h
  refine ⟨_, (pss_cons (ps_set (i := 3) sc_with_first.nd rfl (Or.inl rfl) (pe_op op_sub (pv 2) (pe_callB (call_sumL (K := K) rfl rfl) rfl T.n_sum bt_sum (pa_cons (pe_comp2 rfl (pi_zip rfl T.n_zip (pa_cons (pv 1) (pa_cons (pe_slice sl_list (pv 0) (po_some pe_int) po_none) pa_nil))) (by refine ⟨rfl, by decide +kernel, rfl, by decide +kernel, rfl, rfl, (List.forall_mem_nil _), rfl, cap_nil, by decide +kernel, rfl⟩ : CompOk2 _ _ _ "weight" "number" [] []) (fun _ _ _ => (pe_op op_mulB (pv 0) (pv 1)))) pa_nil))))
   (pss_one (ps_ret (pe_op op_cat (pe_lst (pa_cons (pe_op op_fdivB (pv 3) (pe_ix ix_list (pv 0) pe_int (fun _ _ => rfl))) pa_nil)) (pv 1))))), ?_⟩
  refine ⟨_, rfl, _, rfl, _, rfl, _, rfl, _, _, rfl, (by walk_at "ls"), fun p1 hp1 => ?_⟩
  rw [show cutV ((n0 :: ns).map V.int) (some 1) none = ns.map V.int from (by simpa using cut_drop ((n0 :: ns).map V.int) 1)]
  have s1 : Same H (upd H p1 (.lst (ns.map V.int))) := Same.new hp1
  refine ⟨_, _, rfl, ⟨_, SqL.of (s1 _ _ hb)⟩, ⟨_, SqL.of upd_same⟩, fun D hD => ?_⟩
  refine comp_zip (xs := os.map V.int) (ys := ns.map V.int) (fun i zs H2 => Same (upd H p1 (.lst (ns.map V.int))) H2 ∧ H2 D = some (.lst zs) ∧ zs = ((List.zipWith (· * ·) os ns).take i).map V.int) ⟨Same.new hD, upd_same, rfl⟩ (by simpa using hle) (fun i zs H2 hi ⟨q1, q2, q3⟩ => ⟨SqL.of (q1 _ _ (s1 _ _ hb)), SqL.of (q1 _ _ upd_same), q2, by rw [q3]; exact small1000 (by simp; omega)⟩) ?_ ?_
  ·rintro i u w zs H2 T hu hw ⟨q1, q2, q3⟩ hT
   obtain ⟨o, eo, rfl⟩ := ints_at hu
   obtain ⟨n, en, rfl⟩ := ints_at hw
   have mo : IntMulOk o n := mulOk_of (zo o (List.mem_of_getElem? eo)) (zn n (List.mem_of_getElem? en))
   refine ⟨_, rfl, _, rfl, _, _, rfl, rfl, (by walk_at "sd"), ?_⟩
   exact ⟨get_new q2 hT, (q1.on hT).own hD, upd_same, by rw [q3, KM.take_snoc (zipv_at eo en)]; simp⟩
  ·rintro zs H2 ⟨q1, q2, q3⟩
   rw [List.length_map, List.take_of_length_le (by simp; omega)] at q3
   subst q3
   have s2 := s1.trans q1
   have ha2 := s2 _ _ ha
   have hb2 := s2 _ _ hb
   have dv : CDivB (t - (List.zipWith (· * ·) os ns).sum) n0 := divB p0 z0
   refine ⟨_, _, rfl, SqL.of q2, _, _, rfl, rfl, ?_⟩
   refine ⟨_, rfl, _, rfl, _, _, _, _, rfl, rfl, (by walk_at "sq"), (by walk_at "at"), _, _, rfl, rfl, (by walk_at "sd"), (by walk_at "sz"), fun p2 hp2 => ?_⟩
   refine ⟨_, rfl, ?_⟩
   refine ⟨_, _, _, _, rfl, rfl, upd_same, get_new hb2 hp2, len_ok (by simp; omega), fun p3 hp3 => ?_⟩
   exact k _ _ ((s2.on hp2).on hp3) upd_same
theorem sc_weights_of_shares : FnScope ["gaps", "common", "others", "gap", "found"] ["gaps"] (defScope s_weights_of_shares) := ⟨rfl, rfl, rfl, by decide +kernel, rfl, by decide +kernel, by decide +kernel⟩
set_option maxHeartbeats 4000000 in
theorem ok_weights_of_shares {f : Addr} {fd : FuncData} {cs : Cls} (F : Fun K "weights_of_shares" "weights_of_shares" s_weights_of_shares f fd) (T : Txt K mg cs) (D_with_first : Dn P w K mg base "with_first" 1 ["numbers", "others", "total"] (sp_with_first K cs)) (D_weights : Dn P w K mg base "weights" 2 ["one", "other"] (sp_weights K cs)) : FnOk P w K mg base CX0 3 f fd ["gaps"] (sp_weights_of_shares K cs) := by
 refine F.ok sc_weights_of_shares (fun vs H Q E h => ?_) (fun cdv A outer s H vs Q E hr h => ?_)
 ·obtain ⟨a, bs, B, rfl, _⟩ := h
  rfl
 ·obtain ⟨a, bs, B, rfl, ha, hgb, hB, hl, k⟩ := h
  refine ⟨_, (pss_cons (ps_if (pt_cmpR op_eq (pe_callB call_len_seq rfl T.n_len bt_len (pa_cons (pv 0) pa_nil)) pe_int (nomark _)) (pss_one (ps_ret (pe_lst pa_nil))) pss_nil)
   (pss_cons (ps_set (i := 1) sc_weights_of_shares.nd rfl (Or.inr rfl) (pe_ix ix_list (pv 0) pe_int (fun _ _ => rfl)))
   (pss_cons (ps_set (i := 2) sc_weights_of_shares.nd rfl (Or.inl rfl) (pe_lst pa_nil))
   (pss_cons (ps_for PassesOwn.never rfl (pi_list (pe_slice sl_list (pv 0) (po_some pe_int) po_none)) (pg_name (i := 3) sc_weights_of_shares.nd rfl (Or.inl rfl)) (pss_cons (ps_set (i := 4) sc_weights_of_shares.nd rfl (Or.inr rfl) (pe_fn D_weights (hr.mono (by decide)) (pa_cons (pv 1) (pa_cons (pv 3) pa_nil))))
   (pss_cons (ps_set (i := 2) sc_weights_of_shares.nd rfl (Or.inl rfl) (pe_op op_cat (pe_comp2 rfl (pi_zip rfl T.n_zip (pa_cons (pv 2) (pa_cons (pe_slice sl_list (pv 0) (po_some pe_int) po_none) pa_nil))) (by refine ⟨rfl, by decide +kernel, rfl, by decide +kernel, rfl, rfl, (List.forall_mem_cons.mpr ⟨rfl, List.forall_mem_nil _⟩), rfl, (cap_cons ⟨rfl, rfl, rfl, rfl⟩ cap_nil), by decide +kernel, rfl⟩ : CompOk2 _ _ _ "weight" "own" ["found"] [4]) (fun _ _ _ => (pe_op op_mod (pe_op op_mulB (pe_ix (ix_tupK (K := K) rfl) (pv 2) pe_int (fun _ _ => rfl)) (pv 0)) (pv 1)))) (pe_lst (pa_cons (pe_op op_mod (pe_ix ix_tup (pv 4) pe_int (fun _ _ => rfl)) (pv 3)) pa_nil))))
   (pss_one (ps_set (i := 1) sc_weights_of_shares.nd rfl (Or.inr rfl) (pe_op op_mulB (pe_op op_fdivB (pv 1) (pe_ix ix_tup (pv 4) pe_int (fun _ _ => rfl))) (pv 3)))))))
   (pss_one (ps_ret (pe_fn D_with_first (hr.mono (by decide)) (pa_cons (pe_comp rfl (pi_list (pv 0)) (by refine ⟨rfl, by decide +kernel, rfl, by decide +kernel, rfl, (List.forall_mem_cons.mpr ⟨rfl, List.forall_mem_nil _⟩), rfl, (cap_cons ⟨rfl, rfl, rfl, rfl⟩ cap_nil), by decide +kernel, rfl⟩ : CompOk _ _ _ "gap" ["common"] [1]) (fun _ _ _ => (pe_op op_fdivB (pv 1) (pv 0)))) (pa_cons (pv 2) (pa_cons pe_int pa_nil)))))))))), ?_⟩
  refine ⟨_, rfl, _, _, rfl, (by walk_at "ln"), rfl, _, rfl, ?_⟩
  refine ite2 (fun h => ?_) (fun h => ?_)
  ·have hn : bs = [] := List.eq_nil_of_length_eq_zero (by have := e_of h; rw [List.length_map] at this; omega)
   subst hn
   refine ⟨(by walk_at "sz"), fun p1 hp1 => ?_⟩
   exact k _ [] _ (Same.new hp1) upd_same rfl (fun z => absurd rfl z) (fun _ z => (nomatch z))
  ·match bs, ha, hgb, hB, hl, k, h with
   | [], _, _, _, _, _, h => exact absurd (show decide (V.int ((List.map (fun b : Int × Int => V.int b.2) []).length : Int) = V.int 0) = true from rfl) h
   | b0 :: tl, ha, hgb, hB, hl, k, h =>
    have hg0 := hgb b0 (by simp)
    have p0 := hg0.pos
    have hp : ∀ b ∈ b0 :: tl, 0 < b.2 := fun b hb => (hgb b hb).pos
    have hz : ∀ b ∈ b0 :: tl, 0 < b.2 ∧ b.2.natAbs < 2 ^ B := fun b hb => ⟨(hgb b hb).pos, (hgb b hb).big⟩
    have hB1 : B ≤ 3900 := by have : B * 1 ≤ B * (b0 :: tl).length := Nat.mul_le_mul_left B (by simp); omega
    have hzz : ∀ b ∈ b0 :: tl, b.2.natAbs < 2 ^ 3900 := fun b hb => KM.sz_mono 3900 (hgb b hb).big hB1
    have htl : ∀ b ∈ tl, b ∈ b0 :: tl := fun b hb => by simp [hb]
    walk_at "k"
    refine ⟨(by walk_at "sz"), fun p2 hp2 => ?_⟩
    have ha1 := (Same.new hp2 (o := .lst [])) _ _ ha
    refine ⟨_, rfl, _, rfl, _, _, rfl, (by walk_at "ls"), fun p3 hp3 => ?_⟩
    rw [show cutV ((b0 :: tl).map fun b => V.int b.2) (some 1) none = (tl.map (·.2)).map V.int from ((cut_drop ((b0 :: tl).map fun b => V.int b.2) 1).trans (by rw [List.map_map]; rfl))]
    have s3 : Same H (upd (upd H p2 (.lst [])) p3 (.lst ((tl.map (·.2)).map V.int))) := (Same.new hp2).on hp3
    refine ⟨_, rfl, ⟨_, SqL.of upd_same⟩, ?_⟩
    refine for_list (xs := (tl.map (·.2)).map V.int) (fun i σ HL => ∃ (os : List Int) (c : Int) (pl : Addr) (x1 x2 : Option V), σ = [some (.ref a), some (.int c), some (.ref pl), x1, x2] ∧ Same (upd (upd H p2 (.lst [])) p3 (.lst ((tl.map (·.2)).map V.int))) HL ∧ HL pl = some (.lst (os.map V.int)) ∧ KM.Shr b0 (tl.take i) os c ∧ c = KM.cgap ((b0 :: tl).take (i + 1))) ⟨[], b0.2, p2, none, none, rfl, Same.refl _, get_new upd_same hp3, KM.Shr.start p0, by show b0.2 = KM.cgap [b0]; simp [KM.cgap]⟩ (fun i σ HL _ ⟨_, _, _, _, _, _, s, _, _⟩ => SqL.of (s _ _ upd_same)) ?_ ?_
    ·rintro i v σ HL hv ⟨os, c, pl, x1, x2, rfl, s4, hpl, A, ec⟩
     obtain ⟨x, ex0, rfl⟩ := ints_at hv
     rw [List.getElem?_map] at ex0
     obtain ⟨b, ex, rfl⟩ := Option.map_eq_some_iff.mp ex0
     have hxm := htl b (List.mem_of_getElem? ex)
     have hil := (List.getElem?_eq_some_iff.mp ex).1
     have bp := hp b hxm
     have cp := A.pos
     have zc0 : c.natAbs < 2 ^ 4000 := by
      rw [ec]
      have h1 := KM.cgap_sz (B := B) (i + 1) hz
      have h2 : B * (i + 1) ≤ B * (b0 :: tl).length := Nat.mul_le_mul_left B (by simp; omega)
      exact KM.sz_mono 4000 h1 (by omega)
     have zc := KM.sz_mono 8000 zc0
     have zx := KM.sz_mono 8000 (hzz b hxm)
     refine ⟨_, rfl, _, rfl, _, _, rfl, (by walk_at "sd"), (by walk_at "sd"), fun p4 d4 u4 v4 H4 sm4 wt4 => ?_⟩
     have ht := wt4.at_
     have hd := wt4.wt.gcd
     have hdp := KM.gcd_posL (b := b.2) cp
     rw [← hd] at hdp
     have ha4 := sm4 _ _ (s4 _ _ (s3 _ _ ha))
     have hpl4 := sm4 _ _ hpl
     have zv : v4.natAbs < 2 ^ 8003 := KM.sz_nat wt4.bv (by rw [Nat.pow_succ, Nat.pow_succ, Nat.pow_succ]; generalize 2 ^ 8000 = N at zc zx ⊢; omega)
     have ol : os.length = i := by have := A.len; rw [List.length_take] at this; omega
     refine ⟨_, rfl, _, rfl, _, rfl, _, _, rfl, (by walk_at "ls"), fun p5 hp5 => ?_⟩
     rw [show cutV ((b0 :: tl).map fun b => V.int b.2) (some 1) none = (tl.map (·.2)).map V.int from ((cut_drop ((b0 :: tl).map fun b => V.int b.2) 1).trans (by rw [List.map_map]; rfl))]
     have s5 : Same H4 (upd H4 p5 (.lst ((tl.map (·.2)).map V.int))) := Same.new hp5
     refine ⟨_, _, rfl, ⟨_, SqL.of (s5 _ _ hpl4)⟩, ⟨_, SqL.of upd_same⟩, fun D hD => ?_⟩
     refine comp_zip (xs := os.map V.int) (ys := (tl.map (·.2)).map V.int) (fun j zs HC => Same (upd H4 p5 (.lst ((tl.map (·.2)).map V.int))) HC ∧ HC D = some (.lst zs) ∧ zs = ((KM.modz v4 os tl).take j).map V.int) ⟨Same.new hD, upd_same, rfl⟩ (by simp; omega) (fun j zs HC hj ⟨q1, q2, q3⟩ => ⟨SqL.of (q1 _ _ (s5 _ _ hpl4)), SqL.of (q1 _ _ upd_same), q2, by rw [q3]; exact small1000 (by simp at hj hl ⊢; omega)⟩) ?_ ?_
     ·rintro j u w zs HC T hu hw ⟨q1, q2, q3⟩ hT
      obtain ⟨o, eo, rfl⟩ := ints_at hu
      obtain ⟨n, en0, rfl⟩ := ints_at hw
      rw [List.getElem?_map] at en0
      obtain ⟨e, en, rfl⟩ := Option.map_eq_some_iff.mp en0
      have hem := htl e (List.mem_of_getElem? en)
      have ep := hp e hem
      obtain ⟨bb, hbb, o0, o1⟩ := A.bd o (List.mem_of_getElem? eo)
      have mo : IntMulOk v4 o := mulOk_of zv (KM.sz_le (hzz bb (htl bb (List.mem_of_mem_take hbb))) o0 (by omega))
      have ht4 := (q1.on hT (o := .tup [.int o, .int e.2])) _ _ (s5 _ _ ht)
      refine ⟨_, rfl, _, _, _, _, rfl, rfl, (by walk_at "sq"), (by walk_at "at"), _, rfl, _, _, rfl, rfl, (by walk_at "sd"), _, rfl, _, _, rfl, rfl, (by walk_at "sd"), ?_⟩
      exact ⟨get_new q2 hT, (q1.on hT).own hD, upd_same, by rw [q3, KM.take_snoc (KM.modz_at eo en)]; simp⟩
     ·rintro zs HC ⟨q1, q2, q3⟩
      rw [List.length_map, List.take_of_length_le (by rw [KM.modz_len (by omega)]; exact Nat.le_refl _)] at q3
      subst q3
      have ht4 := q1 _ _ (s5 _ _ ht)
      refine ⟨_, rfl, _, _, _, _, rfl, rfl, (by walk_at "sq"), (by walk_at "at"), _, rfl, _, _, rfl, rfl, (by walk_at "sd"), (by walk_at "sz"), fun p6 hp6 => ?_⟩
      refine ⟨_, _, _, _, rfl, rfl, get_new q2 hp6, upd_same, len_ok (by rw [List.length_map, KM.modz_len (by omega)]; simp at hl ⊢; omega), fun p7 hp7 => ?_⟩
      have ht7 := ((Same.new hp6 (o := .lst [.int (u4 % b.2)])).on hp7 (o := .lst (List.map V.int (KM.modz v4 os tl) ++ [.int (u4 % b.2)]))) _ _ ht4
      have zd : d4.natAbs < 2 ^ 8000 := KM.sz_le zc (by omega) (hd ▸ KM.gcd_leL cp)
      have dv : CDivB c d4 := divB hdp zd
      have mo : IntMulOk (c / d4) b.2 := mulOk_of (KM.sz_div zc hdp) zx
      refine ⟨_, rfl, _, rfl, _, _, _, _, rfl, rfl, (by walk_at "sq"), (by walk_at "at"), _, _, rfl, rfl, (by walk_at "sd"), _, rfl, _, _, rfl, rfl, (by walk_at "sd"), ?_⟩
      refine ⟨KM.modz v4 os tl ++ [u4 % b.2], c / d4 * b.2, p7, _, _, rfl, ((((s4.trans sm4).trans s5).trans q1).on hp6).on hp7, by rw [upd_same]; simp, ?_, ?_⟩
      ·have st := A.step p0 (fun e he => hp e (htl e (List.mem_of_mem_take he))) bp wt4.wt hdp
       rw [KM.modz_take (by omega)] at st
       rw [KM.take_snoc ex]
       exact st
      ·have e2 : (b0 :: tl)[i + 1]? = some b := by simpa using ex
       rw [KM.cgap_take e2, ← ec, hd]
    ·rintro σ HL ⟨os, c, pl, x1, x2, rfl, s4, hpl, A, ec⟩
     have lt : (List.map V.int (tl.map (·.2))).length = tl.length := by simp
     rw [lt, List.take_of_length_le (Nat.le_refl _)] at A
     rw [lt, List.take_of_length_le (by simp)] at ec
     have ha4 := s4 _ _ (s3 _ _ ha)
     have cp := A.pos
     have zc0 : c.natAbs < 2 ^ 4000 := by
      rw [ec]
      have h1 := KM.cgap_sz (B := B) (b0 :: tl).length hz
      rw [List.take_of_length_le (Nat.le_refl _)] at h1
      exact KM.sz_mono 4000 h1 (by omega)
     refine ⟨_, rfl, ?_⟩
     refine ⟨_, rfl, ⟨_, SqL.of ha4⟩, fun D hD => ?_⟩
     refine comp_list (xs := (b0 :: tl).map fun b => V.int b.2) (fun j ys HC => Same HL HC ∧ HC D = some (.lst ys) ∧ ys = (((b0 :: tl).map fun b : Int × Int => c / b.2).take j).map V.int) ⟨Same.new hD, upd_same, rfl⟩ (fun j ys HC hj ⟨q1, q2, q3⟩ => ⟨SqL.of (q1 _ _ ha4), q2, by rw [q3]; exact small1000 (by simp at hl ⊢; omega)⟩) ?_ ?_
     ·rintro j w ys HC hw ⟨q1, q2, q3⟩
      rw [List.getElem?_map] at hw
      obtain ⟨e, en, rfl⟩ := Option.map_eq_some_iff.mp hw
      have hem := List.mem_of_getElem? en
      have dv : CDivB c e.2 := divB (hp e hem) (hzz e hem)
      refine ⟨_, rfl, _, rfl, _, _, rfl, rfl, (by walk_at "sd"), ?_⟩
      exact ⟨q2, q1.own hD, upd_same, by rw [q3, KM.take_snoc (show ((b0 :: tl).map fun b : Int × Int => c / b.2)[j]? = some (c / e.2) by rw [List.getElem?_map, en]; rfl)]; simp⟩
     ·rintro ys HC ⟨q1, q2, q3⟩
      rw [List.length_map, List.take_of_length_le (by simp)] at q3
      subst q3
      have oz : ∀ o ∈ os, o.natAbs < 2 ^ 4000 := fun o ho => by
       obtain ⟨bb, hbb, o0, o1⟩ := A.bd o ho
       exact KM.sz_mono (m := 3900) 4000 (KM.sz_le (hzz bb (htl bb hbb)) o0 (by omega))
      have nz : ∀ n ∈ tl.map (fun b : Int × Int => c / b.2), n.natAbs < 2 ^ 4000 := fun n hn => by
       obtain ⟨e, he, rfl⟩ := List.mem_map.mp hn
       exact KM.sz_div zc0 (hp e (htl e he))
      have q0p : 0 < c / b0.2 := Int.ediv_pos_of_pos_of_dvd cp (by omega) A.d0
      have hde := Int.ediv_mul_cancel A.sm
      refine ⟨_, rfl, ?_⟩
      refine ⟨_, _, c / b0.2, 1, tl.map (fun b : Int × Int => c / b.2), os, rfl, q2, q1 _ _ hpl, by rw [A.len, List.length_map]; exact Nat.le_refl _, by simp at hl ⊢; omega, q0p, KM.sz_mono (m := 4000) 8000 (KM.sz_div zc0 p0), fun o ho => KM.sz_mono (m := 4000) 8000 (oz o ho), fun n hn => KM.sz_mono (m := 4000) 8000 (nz n hn), fun p8 H8 sm8 hp8 => ?_⟩
      refine k _ _ _ (((s3.trans s4).trans q1).trans sm8) hp8 (by rw [List.length_cons, A.len]; rfl) (fun _ => ?_) fun w hw => ?_
      ·rw [KM.dot_wsum, ← ec]
       show (1 - KM.wsum c os tl) / (c / b0.2) * (c / b0.2) + KM.wsum c os tl = 1
       omega
      ·rcases List.mem_cons.mp hw with rfl | z
       ·have h1 := KM.ediv_abs (x := 1 - KM.dot os (tl.map fun b : Int × Int => c / b.2)) q0p
        have h2 := KM.dot_sz (m := 4000) (n := 4000) oz nz
        have h4 : os.length ≤ 60 := by rw [A.len]; simp at hl; omega
        have h5 : os.length * 2 ^ (4000 + 4000) ≤ 60 * 2 ^ 8000 := Nat.mul_le_mul_right _ h4
        have h6 : 2 ^ 8000 * 256 ≤ 2 ^ 1000000 := by
         have : (2 : Nat) ^ 8000 * 256 = 2 ^ 8008 := by rw [show (256 : Nat) = 2 ^ 8 by decide, ← Nat.pow_add]
         rw [this]
         exact Nat.pow_le_pow_right (by decide) (by decide)
        have h7 : (2 : Nat) ^ (4000 + 4000) = 2 ^ 8000 := rfl
        have h8 : 0 < 2 ^ 8000 := Nat.pow_pos (by decide)
        rw [h7] at h2 h5
        generalize (2 : Nat) ^ 8000 = N at *
        generalize (2 : Nat) ^ 1000000 = M at *
        omega
       ·exact KM.sz_mono (m := 4000) 1000000 (oz w z) (by decide)
theorem sc_clash : FnScope ["one", "other", "shared"] ["one", "other"] (defScope s_clash) := ⟨rfl, rfl, rfl, by decide +kernel, rfl, by decide +kernel, by decide +kernel⟩
set_option maxHeartbeats 4000000 in
theorem ok_clash {f : Addr} {fd : FuncData} {cs : Cls} (F : Fun K "clash" "clash" s_clash f fd) (T : Txt K mg cs) (D_weights : Dn P w K mg base "weights" 2 ["one", "other"] (sp_weights K cs)) : FnOk P w K mg base CX0 3 f fd ["one", "other"] (sp_clash K cs) := by
 refine F.ok sc_clash (fun vs H Q E h => ?_) (fun cdv A outer s H vs Q E hr h => ?_)
 ·obtain ⟨a, b, r1, g1, r2, g2, rfl, _⟩ := h
  rfl
 ·obtain ⟨a, b, r1, g1, r2, g2, rfl, ha, hb, pos1, pos2, z1, z2, k⟩ := h
  have y1 := KM.sz_mono 8000 z1
  have y2 := KM.sz_mono 8000 z2
  refine ⟨_, (pss_cons (ps_set (i := 2) sc_clash.nd rfl (Or.inl rfl) (pe_ix ix_tup (pe_fn D_weights (hr.mono (by decide)) (pa_cons (pe_ix ix_tup (pv 0) pe_int (fun _ _ => rfl)) (pa_cons (pe_ix ix_tup (pv 1) pe_int (fun _ _ => rfl)) pa_nil))) pe_int (fun _ _ => rfl)))
   (pss_cons (ps_if (pt_cmpR op_eq (pe_op op_mod (pe_op op_sub (pe_ix ix_tup (pv 1) pe_int (fun _ _ => rfl)) (pe_ix ix_tup (pv 0) pe_int (fun _ _ => rfl))) (pv 2)) pe_int (nomark _)) (pss_one (ps_ret pe_non)) pss_nil)
   (pss_one (ps_ret (pv 2))))), ?_⟩
  refine ⟨_, rfl, _, _, _, _, rfl, rfl, (by walk_at "sq"), (by walk_at "at"), _, rfl, _, _, _, _, rfl, rfl, (by walk_at "sq"), (by walk_at "at"), _, _, rfl, (by walk_at "sd"), (by walk_at "sd"), fun p1 d1 u1 v1 H1 sm1 wt1 => ?_⟩
  have ht := wt1.at_
  have hd := wt1.wt.gcd
  have hp := KM.gcd_posL (b := g2) pos1
  rw [← hd] at hp
  have ha' := sm1 _ _ ha
  have hb' := sm1 _ _ hb
  refine ⟨_, _, _, _, rfl, rfl, (by walk_at "sq"), at0, ?_⟩
  refine ⟨_, rfl, _, _, _, _, rfl, rfl, (by walk_at "sq"), (by walk_at "at"), _, rfl, _, _, _, _, rfl, rfl, (by walk_at "sq"), (by walk_at "at"), _, _, rfl, rfl, _, rfl, _, _, rfl, rfl, (by walk_at "sd"), rfl, _, rfl, ?_⟩
  refine ite2 (fun h => ?_) (fun h => ?_)
  ·exact k _ _ sm1 (.inl ⟨rfl, by rw [← hd]; exact KM.sub_swap.mp (e_of h)⟩)
  ·refine ⟨_, rfl, ?_⟩
   exact k _ _ sm1 (.inr ⟨by rw [hd], by rw [← hd]; exact fun z => e_not h (KM.sub_swap.mp z)⟩)
theorem sc_told_clash : FnScope ["beats", "j", "i"] ["beats", "j"] (defScope s_told_clash) := ⟨rfl, rfl, rfl, by decide +kernel, rfl, by decide +kernel, by decide +kernel⟩
set_option maxHeartbeats 4000000 in
theorem ok_told_clash {f : Addr} {fd : FuncData} {cs : Cls} (F : Fun K "told_clash" "told_clash" s_told_clash f fd) (T : Txt K mg cs) (D_clash : Dn P w K mg base "clash" 3 ["one", "other"] (sp_clash K cs)) : FnOk P w K mg base CX0 4 f fd ["beats", "j"] (sp_told_clash K cs) := by
 refine F.ok sc_told_clash (fun vs H Q E h => ?_) (fun cdv A outer s H vs Q E hr h => ?_)
 ·obtain ⟨a, bs, B, j, rfl, _⟩ := h
  rfl
 ·obtain ⟨a, bs, B, j, rfl, ⟨us, hS, hbs⟩, hgb, hB, hl, hex, k⟩ := h
  have hul := Paired.length hbs
  refine ⟨_, (pss_cons (ps_set (i := 2) sc_told_clash.nd rfl (Or.inl rfl) (pe_callB (call_minL (K := K) rfl rfl) rfl T.n_min bt_min (pa_cons (pe_compT rfl (pi_range1 rfl T.n_range (pa_cons (pv 1) pa_nil)) (by refine ⟨rfl, by decide +kernel, rfl, by decide +kernel, rfl, (List.forall_mem_cons.mpr ⟨rfl, List.forall_mem_cons.mpr ⟨rfl, List.forall_mem_nil _⟩⟩), rfl, (cap_cons ⟨rfl, rfl, rfl, rfl⟩ (cap_cons ⟨rfl, rfl, rfl, rfl⟩ cap_nil)), by decide +kernel, rfl⟩ : CompOk _ _ _ "k" ["beats", "j"] [0, 1]) (fun _ _ _ => (pt_cmpR op_notN (pe_fn D_clash (hr.mono (by decide)) (pa_cons (pe_ix (ix_listK (K := K) rfl) (pv 1) (pv 0) (fun _ _ => rfl)) (pa_cons (pe_ix (ix_listK (K := K) rfl) (pv 1) (pv 2) (fun _ _ => rfl)) pa_nil))) pe_non (nomark _))) (fun _ _ _ => (pv 0))) pa_nil)))
   (pss_one (ps_ret (pe_tup (pa_cons pe_str (pa_cons (pv 2) (pa_cons (pv 1) (pa_cons (pe_fn D_clash (hr.mono (by decide)) (pa_cons (pe_ix ix_list (pv 0) (pv 2) (fun _ _ => rfl)) (pa_cons (pe_ix ix_list (pv 0) (pv 1) (fun _ _ => rfl)) pa_nil))) pa_nil)))))))), ?_⟩
  obtain ⟨k0, b0, c, hk0, eb0, ec, hc0⟩ := hex
  have hj := (List.getElem?_eq_some_iff.mp ec).1
  have hcm := hgb c (List.mem_of_getElem? ec)
  have hcp := hcm.pos
  have zc := KM.sz_mono 4000 hcm.big (by omega)
  refine ⟨_, rfl, _, rfl, by omega, by omega, ?_⟩
  refine fun D hD => ?_
  refine compT_range (lo := 0) (n := ((j : Nat) : Int).toNat) (fun i ys HC => Same H HC ∧ HC D = some (.lst ys) ∧ ∃ ns : List Int, ys = ns.map V.int ∧ ns.length ≤ i ∧ ∀ m : Int, m ∈ ns ↔ ∃ (k : Nat) (b : Int × Int), m = (k : Nat) ∧ k < i ∧ bs[k]? = some b ∧ KM.Cl b c) ⟨Same.new hD, upd_same, [], rfl, Nat.le_refl _, fun m => ⟨fun z => (nomatch z), fun ⟨k, b, _, z, _⟩ => absurd z (Nat.not_lt_zero _)⟩⟩ (fun i ys HC hi ⟨q1, q2, ns, q3, q4, q5⟩ => ⟨q2, by rw [q3]; exact small1000 (by simp; omega)⟩) ?_ ?_
  ·rintro i ys HC N hi ⟨q1, q2, ns, q3, q4, q5⟩ hN
   have hij : i < j := by omega
   obtain ⟨pa, b, ea, ib, hpa⟩ := bsv_at (bsv_on q1.tups hbs) (k := 0 + (i : Int)) (by omega) (by omega)
   obtain ⟨pc, c', ec', ic, hpc⟩ := bsv_at (bsv_on q1.tups hbs) (k := ((j : Nat) : Int)) (by omega) (by omega)
   have z1 : (0 + (i : Int)).toNat = i := by omega
   have z2 : ((j : Nat) : Int).toNat = j := by omega
   rw [z1] at ib
   rw [z2, ec] at ic
   cases ic
   have hbm := hgb b (List.mem_of_getElem? ib)
   have hbp := hbm.pos
   have zb := KM.sz_mono 4000 hbm.big (by omega)
   have hS2 := q1.sq hS
   refine ⟨_, rfl, _, rfl, _, _, _, _, rfl, rfl, (by walk_at "sq"), (by walk_at "at"), _, rfl, _, rfl, _, _, _, _, rfl, rfl, (by walk_at "sq"), (by walk_at "at"), _, _, _, _, _, _, rfl, ‹_›, ‹_›, (by walk_at "sd"), (by walk_at "sd"), (by walk_at "sd"), (by walk_at "sd"), fun v1 H1 sm1 cr1 => ?_⟩
   have st : ∀ m : Int, (∃ (k : Nat) (b : Int × Int), m = (k : Nat) ∧ k < i + 1 ∧ bs[k]? = some b ∧ KM.Cl b c) ↔ (m ∈ ns ∨ (m = (i : Nat) ∧ KM.Cl b c)) := fun m => by
    rw [q5 m]
    constructor
    ·rintro ⟨k, b', e1, e2, e3, e4⟩
     by_cases hk : k < i
     ·exact .inl ⟨k, b', e1, hk, e3, e4⟩
     ·have hki : k = i := by omega
      subst hki
      rw [ib] at e3
      cases e3
      exact .inr ⟨e1, e4⟩
    ·rintro (⟨k, b', e1, e2, e3, e4⟩ | ⟨e1, e4⟩)
     ·exact ⟨k, b', e1, by omega, e3, e4⟩
     ·exact ⟨i, b, e1, by omega, ib, e4⟩
   rcases cr1 with ⟨rfl, hz⟩ | ⟨rfl, hz⟩
   ·refine ⟨rfl, _, rfl, ?_⟩
    refine iteF ?_
    refine hN _ _ ⟨q1.trans sm1, sm1 _ _ q2, ns, q3, by omega, fun m => ?_⟩
    rw [st m]
    exact ⟨fun z => .inl z, fun z => z.elim id fun z => absurd hz z.2⟩
   ·refine ⟨rfl, _, rfl, ?_⟩
    refine iteT ?_
    refine ⟨_, rfl, ?_⟩
    refine ⟨sm1 _ _ q2, hN _ _ ⟨(q1.trans sm1).own hD, upd_same, ns ++ [((i : Nat) : Int)], by rw [q3, List.map_append, Int.zero_add]; rfl, by simp; omega, fun m => ?_⟩⟩
    rw [st m]
    simp only [List.mem_append, List.mem_singleton]
    exact ⟨fun z => z.imp id fun z => ⟨z, hz⟩, fun z => z.imp id fun z => z.1⟩
  ·rintro ys HC ⟨q1, q2, ns, q3, q4, q5⟩
   subst q3
   refine ⟨_, ns, rfl, SqL.of q2, fun z => ?_, fun m hm hmin => ?_⟩
   ·subst z
    exact absurd ((q5 (k0 : Nat)).mpr ⟨k0, b0, rfl, by omega, eb0, hc0⟩) (by simp)
   ·obtain ⟨i, b, rfl, hi, eb, hcl⟩ := (q5 m).mp hm
    have hij : i < j := by omega
    have hS2 := q1.sq hS
    obtain ⟨pa, b', ea, ib, hpa⟩ := bsv_at (bsv_on q1.tups hbs) (k := ((i : Nat) : Int)) (by omega) (by omega)
    obtain ⟨pc, c', ec', ic, hpc⟩ := bsv_at (bsv_on q1.tups hbs) (k := ((j : Nat) : Int)) (by omega) (by omega)
    have z1 : ((i : Nat) : Int).toNat = i := by omega
    have z2 : ((j : Nat) : Int).toNat = j := by omega
    rw [z1, eb] at ib
    cases ib
    rw [z2, ec] at ic
    cases ic
    have hbm := hgb b (List.mem_of_getElem? eb)
    have hbp := hbm.pos
    have zb := KM.sz_mono 4000 hbm.big (by omega)
    refine ⟨_, rfl, _, rfl, _, rfl, _, rfl, _, _, _, _, rfl, rfl, (by walk_at "sq"), (by walk_at "at"), _, rfl, _, rfl, _, _, _, _, rfl, rfl, (by walk_at "sq"), (by walk_at "at"), _, _, _, _, _, _, rfl, ‹_›, ‹_›, (by walk_at "sd"), (by walk_at "sd"), (by walk_at "sd"), (by walk_at "sd"), fun v2 H2 sm2 cr2 => ?_⟩
    rcases cr2 with ⟨_, hz⟩ | ⟨rfl, hz⟩
    ·exact absurd hz hcl
    ·refine ⟨len_ok (Nat.le_of_ble_eq_true rfl), fun p3 hp3 => ?_⟩
     refine k _ i _ _ ((q1.trans sm2).on hp3) upd_same hij (fun b' c' e1 e2 => ?_) fun m b' c' hmi e1 e2 hcl' => ?_
     ·rw [eb] at e1
      rw [ec] at e2
      cases e1
      cases e2
      exact ⟨hcl, rfl⟩
     ·rw [ec] at e2
      cases e2
      have := hmin (m : Nat) ((q5 _).mpr ⟨m, b', rfl, by omega, e1, hcl'⟩)
      omega
theorem sc_together : FnScope ["beats", "common", "number", "one", "both"] ["beats"] (defScope s_together) := ⟨rfl, rfl, rfl, by decide +kernel, rfl, by decide +kernel, by decide +kernel⟩
set_option maxHeartbeats 4000000 in
theorem ok_together {f : Addr} {fd : FuncData} {cs : Cls} (F : Fun K "together" "together" s_together f fd) (T : Txt K mg cs) (D_met : Dn P w K mg base "met" 4 ["one", "other"] (sp_met K cs)) (D_weights_of_shares : Dn P w K mg base "weights_of_shares" 3 ["gaps"] (sp_weights_of_shares K cs)) (D_told_clash : Dn P w K mg base "told_clash" 4 ["beats", "j"] (sp_told_clash K cs)) : FnOk P w K mg base CX0 5 f fd ["beats"] (sp_together K cs) := by
 refine F.ok sc_together (fun vs H Q E h => ?_) (fun cdv A outer s H vs Q E hr h => ?_)
 ·obtain ⟨a, bs, B, rfl, _⟩ := h
  rfl
 ·obtain ⟨a, bs, B, rfl, ⟨us, hS, hbs⟩, hgb, hB, hl, k⟩ := h
  have hul := Paired.length hbs
  refine ⟨_, (pss_cons (ps_set (i := 1) sc_together.nd rfl (Or.inl rfl) (pe_tup (pa_cons pe_int (pa_cons pe_int pa_nil))))
   (pss_cons (ps_for PassesOwn.never rfl (pi_enum rfl T.n_enumerate (pa_cons (pv 0) pa_nil)) (pg_tup rfl (pgs_cons (pg_name (i := 2) sc_together.nd rfl (Or.inl rfl)) (pgs_cons (pg_name (i := 3) sc_together.nd rfl (Or.inl rfl)) pgs_nil))) (pss_cons (ps_set (i := 4) sc_together.nd rfl (Or.inl rfl) (pe_fn D_met (hr.mono (by decide)) (pa_cons (pv 1) (pa_cons (pv 3) pa_nil))))
   (pss_cons (ps_if (pt_cmpR op_isN (pv 4) pe_non (nomark _)) (pss_one (ps_ret (pe_fn D_told_clash (hr.mono (by decide)) (pa_cons (pv 0) (pa_cons (pv 2) pa_nil))))) pss_nil)
   (pss_one (ps_set (i := 1) sc_together.nd rfl (Or.inl rfl) (pv 4))))))
   (pss_one (ps_ret (pe_tup (pa_cons pe_str (pa_cons (pv 1) (pa_cons (pe_fn D_weights_of_shares (hr.mono (by decide)) (pa_cons (pe_comp rfl (pi_list (pv 0)) (by refine ⟨rfl, by decide +kernel, rfl, by decide +kernel, rfl, (List.forall_mem_nil _), rfl, cap_nil, by decide +kernel, rfl⟩ : CompOk _ _ _ "each" [] []) (fun _ _ _ => (pe_ix (ix_tupK (K := K) rfl) (pv 0) pe_int (fun _ _ => rfl)))) pa_nil)) pa_nil)))))))), ?_⟩
  have hz : ∀ b ∈ bs, 0 < b.2 ∧ b.2.natAbs < 2 ^ B := fun b hb => ⟨(hgb b hb).pos, (hgb b hb).big⟩
  refine ⟨(by walk_at "sz"), fun p1 hp1 => ?_⟩
  refine ⟨_, rfl, ?_⟩
  refine ⟨_, rfl, ⟨_, (Same.new hp1).sq hS⟩, ?_⟩
  refine for_enum (xs := us) (fun i σ HL => ∃ (pc : Addr) (x L : Int) (ws : List Int) (x1 x2 x3 : Option V), σ = [some (.ref a), some (.ref pc), x1, x2, x3] ∧ Same H HL ∧ HL pc = some (.tup [.int x, .int L]) ∧ KM.Tog (bs.take i) x L ws ∧ L = KM.cgap (bs.take i)) ⟨p1, 0, 1, [], none, none, none, rfl, Same.new hp1, upd_same, KM.Tog.start, rfl⟩ (fun i σ HL _ ⟨_, _, _, _, _, _, _, _, s, _⟩ => s.sq hS) ?_ ?_
  ·rintro i v T σ HL hv ⟨pc, x, L, ws, x1, x2, x3, rfl, s, hpc, Tg, eL⟩ hT
   obtain ⟨b, eb, q, rfl, hq⟩ := paired_get hbs hv
   have hm := List.mem_of_getElem? eb
   have hil := (List.getElem?_eq_some_iff.mp eb).1
   have sT := s.on hT (o := .tup [.int (i : Nat), .ref q])
   have hq' := sT _ _ hq
   have hpc' := (Same.new hT (o := .tup [.int (i : Nat), .ref q])) _ _ hpc
   have hb := hgb b hm
   have hbl := hb.lo
   have hbh := hb.hi
   have lo := Tg.lo
   have hi := Tg.hi
   have hLp := Tg.pos
   have hB1 : B ≤ 3900 := by have : B * 1 ≤ B * bs.length := Nat.mul_le_mul_left B (by omega); omega
   have zb := KM.sz_mono 4000 hb.big (by omega)
   have zL : L.natAbs < 2 ^ 4000 := by
    rw [eL]
    have h2 : B * i ≤ B * bs.length := Nat.mul_le_mul_left B (by omega)
    exact KM.sz_mono 4000 (KM.cgap_sz (B := B) i hz) (by omega)
   have et : bs.take (i + 1) = bs.take i ++ [(b.1, b.2)] := KM.take_snoc eb
   refine ⟨_, _, rfl, SqT.of upd_same, rfl, _, _, rfl, _, _, rfl, rfl, ?_⟩
   refine ⟨_, rfl, _, rfl, _, _, _, _, _, _, rfl, ‹_›, ‹_›, (by walk_at "sd"), (by walk_at "sd"), (by walk_at "sd"), (by walk_at "sd"), (by walk_at "sd"), (by walk_at "sd"), fun v2 H2 sm2 mr2 => ?_⟩
   rcases mr2 with ⟨rfl, hne⟩ | ⟨p, y, L', rfl, hy, M, hok⟩
   ·walk_at "l"
    refine iteT ?_
    have hB2 : Bs K H2 a bs := Bs.on (sT.trans sm2) ⟨us, hS, hbs⟩
    have hex : ∃ (k : Nat) (b' c' : Int × Int), k < i ∧ bs[k]? = some b' ∧ bs[i]? = some c' ∧ KM.Cl b' c' := by
     refine Classical.byContradiction fun hn => hne (Tg.fits fun b' hb' hcl => hn ?_)
     obtain ⟨k, hk⟩ := List.getElem?_of_mem hb'
     rw [List.getElem?_take] at hk
     by_cases hki : k < i
     ·rw [if_pos hki] at hk
      exact ⟨k, b', b, hki, hk, eb, hcl⟩
     ·rw [if_neg hki] at hk
      cases hk
    refine ⟨_, rfl, _, rfl, _, _, _, _, rfl, ‹_›, ‹_›, ‹_›, ‹_›, ‹_›, fun p3 i3 d3 H3 sm3 at3 ij3 cl3 fs3 => ?_⟩
    refine k _ _ ((sT.trans sm2).trans sm3) (.inr ⟨i3, i, d3, at3, ⟨ij3, hil, fun b' c' e1 e2 => cl3 b' c' e1 e2, fun m b' c' hmi e1 e2 => fs3 m b' c' hmi e1 e2, fun m e b' c' hme hej e1 e2 => ?_⟩⟩)
    refine Tg.apart (List.mem_of_getElem? (i := m) ?_) (List.mem_of_getElem? (i := e) ?_)
    ·rw [List.getElem?_take, if_pos (by omega)]; exact e1
    ·rw [List.getElem?_take, if_pos (by omega)]; exact e2
   ·walk_at "l"
    refine iteF ?_
    refine ⟨_, rfl, ?_⟩
    obtain ⟨ws', Tg'⟩ := Tg.more (show 0 < b.2 by omega) M
    refine ⟨p, y, L', ws', _, _, _, rfl, sT.trans sm2, hy, by rw [et]; exact Tg', ?_⟩
    rw [M.len hLp, KM.cgap_take eb, ← eL]
  ·rintro σ HL ⟨pc, x, L, ws, x1, x2, x3, rfl, s, hpc, Tg, eL⟩
   rw [List.take_of_length_le (by omega)] at Tg eL
   have zL : L.natAbs < 2 ^ 4000 := by
    rw [eL]
    have h1 := KM.cgap_sz (B := B) bs.length hz
    rw [List.take_of_length_le (Nat.le_refl _)] at h1
    exact KM.sz_mono 4000 h1 (by omega)
   have bvL := bsv_on s.tups hbs
   refine ⟨_, rfl, _, rfl, ?_⟩
   refine ⟨_, rfl, ⟨_, s.sq hS⟩, fun D hD => ?_⟩
   refine comp_list (xs := us) (fun j ys HC => Same HL HC ∧ HC D = some (.lst ys) ∧ ys = (bs.take j).map fun b => V.int b.2) ⟨Same.new hD, upd_same, rfl⟩ (fun j ys HC hj ⟨q1, q2, q3⟩ => ⟨q1.sq (s.sq hS), q2, by rw [q3]; exact small1000 (by simp; omega)⟩) ?_ ?_
   ·rintro j w ys HC hw ⟨q1, q2, q3⟩
    obtain ⟨b, eb, q, rfl, hq⟩ := paired_get bvL hw
    have hq' := q1 _ _ hq
    walk_at "k"
    walk_at "s"
   ·rintro ys HC ⟨q1, q2, q3⟩
    rw [List.take_of_length_le (by omega)] at q3
    subst q3
    refine ⟨_, bs, B, rfl, q2, hgb, hB, hl, fun p4 ws4 H4 sm4 at4 wl4 wo4 wz4 => ?_⟩
    refine ⟨len_ok (Nat.le_of_ble_eq_true rfl), fun p5 hp5 => ?_⟩
    refine k _ _ (((s.trans q1).trans sm4).on hp5) (.inl ⟨_, _, x, L, ws4, upd_same, get_new (sm4 _ _ (q1 _ _ hpc)) hp5, get_new at4 hp5, ⟨Tg.lo, Tg.hi, Tg.dv, Tg.at_, wl4, fun hne => ?_, Tg.nil⟩, zL, wz4⟩)
    rw [eL]
    exact wo4 hne
theorem sc_Tower_next_together : FnScope ["self", "moment", "told", "names"] ["self", "moment"] (defScope s_Tower_next_together) := ⟨rfl, rfl, rfl, by decide +kernel, rfl, by decide +kernel, by decide +kernel⟩
set_option maxHeartbeats 4000000 in
theorem ok_Tower_next_together {f : Addr} {fd : FuncData} {cs : Cls} {Td : Addr} {ds : List Value} (F : FunD K "next_together" "Tower.next_together" s_Tower_next_together f fd Td ds) (T : Txt K mg cs) (D_together : Dn P w K mg base "together" 5 ["beats"] (sp_together K cs)) (D_next_from : Dn P w K mg base "next_from" 1 ["one", "moment"] (sp_next_from K cs)) (D_Clash_init : MakeXOk P w K mg base cs.Clash 1 ["self", "first", "second", "divisor"] (sp_Clash_init K cs)) : FnOk P w K mg base (CX1 P w) 6 f fd ["self", "moment"] (sp_Tower_next_together K cs) := by
 refine F.okX sc_Tower_next_together (fun vs H Q E h => ?_) (fun cdv A outer s H vs Q E hr h => ?_)
 ·obtain ⟨t, d, m, bl, rfl, _⟩ := h
  rfl
 ·obtain ⟨t, d, m, bl, rfl, TW, hbo, hl, kq, ke⟩ := h
  refine ⟨_, (pss_cons (ps_set (i := 2) sc_Tower_next_together.nd rfl (Or.inl rfl) (pe_fn D_together (hr.mono (by decide)) (pa_cons (pe_callTy (call_list_values rfl) rfl T.n_list bt_list (pa_cons (pe_values (pe_fld (pv 0) rfl)) pa_nil)) pa_nil)))
   (pss_cons (ps_if (pt_cmpR op_eq (pe_ix ix_tup (pv 2) pe_int (fun _ _ => rfl)) pe_str (nomark _)) (pss_cons (ps_set (i := 3) sc_Tower_next_together.nd rfl (Or.inl rfl) (pe_callTy (call_list_dict rfl) rfl T.n_list bt_list (pa_cons (pe_fld (pv 0) rfl) pa_nil)))
   (pss_one (ps_throwX throwsN_cx rfl D_Clash_init (hr.mono (by decide)) rfl T.m_Clash (pa_cons (pe_ix ix_list (pv 3) (pe_ix ix_tup (pv 2) pe_int (fun _ _ => rfl)) (fun _ _ => rfl)) (pa_cons (pe_ix ix_list (pv 3) (pe_ix ix_tup (pv 2) pe_int (fun _ _ => rfl)) (fun _ _ => rfl)) (pa_cons (pe_ix ix_tup (pv 2) pe_int (fun _ _ => rfl)) pa_nil)))))) pss_nil)
   (pss_one (ps_ret (pe_fn D_next_from (hr.mono (by decide)) (pa_cons (pe_ix ix_tup (pv 2) pe_int (fun _ _ => rfl)) (pa_cons (pv 1) pa_nil))))))), ?_⟩
  obtain ⟨⟨dx, h1⟩, ⟨kvs, h2, h3⟩, nd⟩ := id TW
  have hkl := Paired.length h3
  refine ⟨_, rfl, _, _, _, _, _, rfl, ‹_›, T.cl_Tower, T.na_Tower_hung, (fl_hung _), ?_⟩
  refine ⟨d, kvs, rfl, .inl h2, fun v hv => ?_⟩
  refine ⟨v, d, kvs, rfl, upd_same, get_new h2 hv, fun l hl0 => ?_⟩
  have s1 := (Same.new hv (o := valuesHO v d)).on hl0 (o := .lst (kvs.map (·.2)))
  have hB : Bs K (upd (upd H v (valuesHO v d)) l (.lst (kvs.map (·.2)))) l (beatsOf bl) := ⟨_, SqL.of upd_same, bsv_on s1.tups (kv_bs h3)⟩
  have hg : ∀ b ∈ beatsOf bl, BOk 60 b := fun b hb => by
   obtain ⟨c, hc, rfl⟩ := List.mem_map.mp hb
   exact hbo c hc
  have hbl : (beatsOf bl).length = bl.length := List.length_map ..
  refine ⟨_, beatsOf bl, 60, rfl, hB, hg, by omega, by omega, fun p2 H2 sm2 tr2 => ?_⟩
  have s2 := s1.trans sm2
  rcases tr2 with ⟨pb, pw, x, L, ws, t1, t2, t3, Tg, zL, zw⟩ | ⟨i, j, dv, t1, A0⟩
  ·refine ⟨_, rfl, _, _, _, _, rfl, rfl, (by walk_at "sq"), (by walk_at "at"), rfl, _, rfl, ?_⟩
   refine iteD (fun z => absurd (V.str.inj z) (by decide +kernel)) ?_
   have hLp := Tg.pos
   refine ⟨_, rfl, _, _, _, _, rfl, rfl, (by walk_at "sq"), (by walk_at "at"), _, rfl, _, _, _, _, rfl, ‹_›, (by walk_at "sd"), ?_⟩
   exact kq x L ws Tg _ s2
  ·refine ⟨_, rfl, _, _, _, _, rfl, rfl, (by walk_at "sq"), (by walk_at "at"), rfl, _, rfl, ?_⟩
   refine iteDT rfl ?_
   have h1' := s2 _ _ h1
   have h2' := s2 _ _ h2
   refine ⟨_, rfl, _, _, _, _, _, rfl, ‹_›, T.cl_Tower, T.na_Tower_hung, (fl_hung _), ?_⟩
   refine ⟨d, kvs, rfl, h2', fun l2 hl2 => ?_⟩
   have s3 := s2.on hl2 (o := .lst (kvs.map fun p => kV p.1))
   have t1' := get_new (u := .lst (kvs.map fun p => kV p.1)) t1 hl2
   have hij := A0.ij
   have hjl := A0.jl
   rw [hbl] at hjl
   obtain ⟨x, ex⟩ : ∃ x, bl[i]? = some x := ⟨bl[i]'(by omega), by simp⟩
   obtain ⟨y, ey⟩ : ∃ y, bl[j]? = some y := ⟨bl[j]'(by omega), by simp⟩
   have ax := kv_name h3 ex
   have ay := kv_name h3 ey
   refine ⟨_, rfl, _, rfl, _, _, _, _, rfl, rfl, (by walk_at "sq"), (by walk_at "at"), _, _, _, _, rfl, rfl, SqL.of upd_same, ax, ?_⟩
   refine ⟨_, rfl, _, rfl, _, _, _, _, rfl, rfl, (by walk_at "sq"), (by walk_at "at"), _, _, _, _, rfl, rfl, SqL.of upd_same, ay, ?_⟩
   walk_at "k"
   refine ⟨len_ok (Nat.le_of_ble_eq_true rfl), fun z hz => ?_⟩
   refine ⟨z, _, _, _, rfl, upd_same, fun dd H4 hdd hz4 hd4 kp => ⟨rfl, some dd, hz4, ?_⟩⟩
   have ndz : dd ≠ z := fun e => by rw [e, upd_same] at hdd; cases hdd
   refine ke i j dv x y A0 ex ey dd _ (fun b o e => ?_) (by rw [del_ne ndz]; exact hd4)
   have e3 := s3 b o e
   have nbz : b ≠ z := ne_of_none e3 hz
   rw [del_ne nbz]
   exact kp b o (by rw [upd_ne nbz]; exact e3) nbz
theorem sc_l_asked : FnScope ["_law_tower", "_law_begin", "_law_plain", "_law_all_bells"] ["_law_tower", "_law_begin", "_law_plain", "_law_all_bells"] (defScope s_l_asked) := ⟨rfl, rfl, rfl, by decide +kernel, rfl, by decide +kernel, by decide +kernel⟩
set_option maxHeartbeats 4000000 in
theorem ok_l_asked {f : Addr} {fd : FuncData} {cs : Cls} (F : Fun K "_law_asked" "_law_asked" s_l_asked f fd) (T : Txt K mg cs) (D_Tower_next_any : MethD P w K mg base (CX1 P w) cs.Tower "next_any" 2 ["self", "moment"] [.int 0] "moment" (sp_Tower_next_any K cs)) (D_Tower_next_together : MethD P w K mg base (CX1 P w) cs.Tower "next_together" 6 ["self", "moment"] [.int 0] "moment" (sp_Tower_next_together K cs)) : FnOk P w K mg base (CX1 P w) 7 f fd ["_law_tower", "_law_begin", "_law_plain", "_law_all_bells"] (sp_l_asked K cs) := by
 refine F.okX sc_l_asked (fun vs H Q E h => ?_) (fun cdv A outer s H vs Q E hr h => ?_)
 ·obtain ⟨t, d, m, pl, al, bl, rfl, _⟩ := h
  rfl
 ·obtain ⟨t, d, m, pl, al, bl, rfl, TW, hm, k1, k2⟩ := h
  obtain ⟨⟨dx, h1⟩, _, _⟩ := id TW
  refine ⟨_, (pss_cons (ps_if (PW.pt (pw_and (pt_val (pv 3)) (pw_and1 (pt_val (pv 2))))) (pss_one (ps_ret (PEx.pe (pxd_def0 D_Tower_next_together (hr.mono (by decide)) (pv 0)) passes_cx))) pss_nil)
   (pss_cons (ps_if (PW.pt (pw_and (pt_val (pv 3)) (pw_and1 (pt_cmpR op_eq (pe_op op_mod (pv 1) pe_int) pe_int (nomark _))))) (pss_one (ps_ret (PEx.pe (pxd_kw0 D_Tower_next_together (hr.mono (by decide)) (pv 0) (pv 1)) passes_cx))) pss_nil)
   (pss_cons (ps_if (pt_val (pv 3)) (pss_one (ps_ret (PEx.pe (pxd_all D_Tower_next_together (hr.mono (by decide)) (pv 0) (pa_cons (pv 1) pa_nil)) passes_cx))) pss_nil)
   (pss_cons (ps_if (pt_val (pv 2)) (pss_one (ps_ret (PEx.pe (pxd_def0 D_Tower_next_any (hr.mono (by decide)) (pv 0)) passes_cx))) pss_nil)
   (pss_cons (ps_if (pt_cmpR op_eq (pe_op op_mod (pv 1) pe_int) pe_int (nomark _)) (pss_one (ps_ret (PEx.pe (pxd_kw0 D_Tower_next_any (hr.mono (by decide)) (pv 0) (pv 1)) passes_cx))) pss_nil)
   (pss_one (ps_ret (PEx.pe (pxd_all D_Tower_next_any (hr.mono (by decide)) (pv 0) (pa_cons (pv 1) pa_nil)) passes_cx)))))))), ?_⟩
  refine ⟨_, rfl, _, rfl, ?_⟩
  cases al with
  | true =>
   refine iteT ?_
   have k1 := k1 rfl
   refine ⟨_, rfl, _, rfl, ?_⟩
   cases pl with
   | true =>
    refine iteT ?_
    obtain rfl := hm rfl
    exact ⟨_, rfl, t, dx, _, rfl, h1, fl_nt, k1⟩
   | false =>
    refine iteF ?_
    refine ⟨_, rfl, _, rfl, ?_⟩
    refine iteT ?_
    refine ⟨_, rfl, _, _, rfl, rfl, (by walk_at "sd"), rfl, _, rfl, ?_⟩
    refine ite2 (fun h => ?_) (fun h => ?_)
    ·exact ⟨_, rfl, t, dx, _, rfl, h1, fl_nt, _, rfl, k1⟩
    ·refine ⟨_, rfl, _, rfl, ?_⟩
     refine iteT ?_
     exact ⟨_, rfl, t, dx, _, rfl, h1, fl_nt, _, rfl, k1⟩
  | false =>
   refine iteF ?_
   have k2 := k2 rfl
   refine ⟨_, rfl, _, rfl, ?_⟩
   refine iteF ?_
   refine ⟨_, rfl, _, rfl, ?_⟩
   refine iteF ?_
   refine ⟨_, rfl, _, rfl, ?_⟩
   cases pl with
   | true =>
    refine iteT ?_
    obtain rfl := hm rfl
    exact ⟨_, rfl, t, dx, _, rfl, h1, fl_na, k2⟩
   | false =>
    refine iteF ?_
    refine ⟨_, rfl, _, _, rfl, rfl, (by walk_at "sd"), rfl, _, rfl, ?_⟩
    refine ite2 (fun h => ?_) (fun h => ?_)
    ·exact ⟨_, rfl, t, dx, _, rfl, h1, fl_na, _, rfl, k2⟩
    ·exact ⟨_, rfl, t, dx, _, rfl, h1, fl_na, _, rfl, k2⟩
theorem sc_l_all_ring : FnScope ["_law_tower", "_law_row", "_law_clean", "_law_begin", "_law_plain", "_law_kinds_here", "_law_fields_here", "_law_told", "_law_e", "_law_trouble_here", "_law_wide", "_law_name_here", "_law_one"] ["_law_tower", "_law_row", "_law_clean", "_law_begin", "_law_plain"] (defScope s_l_all_ring) := ⟨rfl, rfl, rfl, by decide +kernel, rfl, by decide +kernel, by decide +kernel⟩
set_option maxHeartbeats 4000000 in
theorem ok_l_all_ring {f : Addr} {fd : FuncData} {cs : Cls} (F : Fun K "_law_all_ring" "_law_all_ring" s_l_all_ring f fd) (T : Txt K mg cs) (D__law_trouble : Dn P w K mg base "_law_trouble" 2 ["_law_row", "_law_clean"] (sp_l_trouble K cs)) (D__law_asked : DnX P w K mg base "_law_asked" 7 ["_law_tower", "_law_begin", "_law_plain", "_law_all_bells"] (sp_l_asked K cs)) (D__law_kinds : DnH P w K mg base "_law_kinds" 1 ["_law_e"] (sp_l_kinds K cs)) (D__law_fields : DnH P w K mg base "_law_fields" 1 ["_law_e"] (sp_l_fields K cs)) (D__law_whole : Dn P w K mg base "_law_whole" 1 ["_law_found"] (sp_l_whole K cs)) (D__law_only : Dn P w K mg base "_law_only" 1 ["_law_place"] (sp_l_only K cs)) (D__law_divisor : Dn P w K mg base "_law_divisor" 1 ["_law_one", "_law_other"] (sp_l_divisor K cs)) : FnOk P w K mg base CX0 8 f fd ["_law_tower", "_law_row", "_law_clean", "_law_begin", "_law_plain"] (sp_l_all_ring K cs) := by
 refine F.ok sc_l_all_ring (fun vs H Q E h => ?_) (fun cdv A outer s H vs Q E hr h => ?_)
 ·obtain ⟨t, d, r, c, bl, cn, m, pl, rfl, _⟩ := h
  rfl
 ·obtain ⟨t, d, r, c, bl, cn, m, pl, rfl, S, hb13, hm, k⟩ := h
  obtain ⟨us, hr1, hrw⟩ := S.row
  have hul := Paired.length hrw
  have hrc := S.rc
  have hcl := S.cl
  have hbd := S.bd
  refine ⟨_, (pss_cons (ps_set (i := 5) sc_l_all_ring.nd rfl (Or.inl rfl) (pe_lst pa_nil))
   (pss_cons (ps_set (i := 6) sc_l_all_ring.nd rfl (Or.inl rfl) (pe_lst pa_nil))
   (pss_cons (ps_set (i := 7) sc_l_all_ring.nd rfl (Or.inl rfl) pe_non)
   (pss_cons (ps_tryS (i := 8) sc_l_all_ring.nd rfl rfl rfl rfl (psx_set (i := 7) sc_l_all_ring.nd rfl (Or.inl rfl) (pex_fn D__law_asked (hr.mono (by decide)) (pa_cons (pv 0) (pa_cons (pv 3) (pa_cons (pv 4) (pa_cons pe_bl pa_nil)))))) rfl T.m_KnellError (fun _ => (pss_cons (ps_set (i := 5) sc_l_all_ring.nd rfl (Or.inl rfl) (pe_fnH D__law_kinds (hr.held.mono (by decide)) (pa_cons (pv 8) pa_nil)))
   (pss_one (ps_set (i := 6) sc_l_all_ring.nd rfl (Or.inl rfl) (pe_fnH D__law_fields (hr.held.mono (by decide)) (pa_cons (pv 8) pa_nil)))))))
   (pss_cons (ps_set (i := 9) sc_l_all_ring.nd rfl (Or.inl rfl) (pe_fn D__law_trouble (hr.mono (by decide)) (pa_cons (pv 1) (pa_cons (pv 2) pa_nil))))
   (pss_cons (ps_if (pt_cmpR op_gt (pe_callB call_len_seq rfl T.n_len bt_len (pa_cons (pv 9) pa_nil)) pe_int (nomark _)) (pss_cons (ps_if (PW.pt (pw_or (pt_cmpR op_notN (pv 7) pe_non (nomark _)) (pw_or (pt_cmpR (op_neL hr.units0) (pv 5) (pe_fn D__law_only (hr.mono (by decide)) (pa_cons pe_int pa_nil)) (nomark _)) (pw_or1 (pt_not (pt_val (pe_fn D__law_whole (hr.mono (by decide)) (pa_cons (pe_ix ix_list (pv 6) pe_int (fun _ _ => rfl)) pa_nil)))))))) (pss_one (ps_ret pe_bl)) pss_nil)
   (pss_one (ps_ret (pe_and (pe_callB call_isinst rfl T.n_isinstance bt_isinstance (pa_cons (pe_ix ix_list (pv 6) pe_int (fun _ _ => rfl)) (pa_cons (pe_bltn (v := .ty "str") rfl T.n_str bt_str rfl) pa_nil))) (pe_and (pe_callB call_isinst rfl T.n_isinstance bt_isinstance (pa_cons (pe_ix ix_list (pv 6) pe_int (fun _ _ => rfl)) (pa_cons (pe_bltn (v := .ty "str") rfl T.n_str bt_str rfl) pa_nil))) (pe_one (pe_cmpR (op_eqL hr.units0) (pv 6) (pv 9) (nomark _)))))))) pss_nil)
   (pss_cons (ps_if (PW.pt (pw_or (pt_cmpR (op_neL hr.units0) (pv 5) (pe_lst pa_nil) (nomark _)) (pw_or (pt_not (pt_val (pe_fn D__law_whole (hr.mono (by decide)) (pa_cons (pv 7) pa_nil)))) (pw_or1 (pt_cmpR op_lt (pv 7) (pv 3) (nomark _)))))) (pss_one (ps_ret pe_bl)) pss_nil)
   (pss_cons (ps_set (i := 10) sc_l_all_ring.nd rfl (Or.inl rfl) pe_int)
   (pss_cons (ps_for PassesOwn.never rfl (pi_list (pv 1)) (pg_tup rfl (pgs_cons (pg_name (i := 11) sc_l_all_ring.nd rfl (Or.inl rfl)) (pgs_cons (pg_name (i := 12) sc_l_all_ring.nd rfl (Or.inl rfl)) pgs_nil))) (pss_cons (ps_if (pt_cmpR op_ne (pe_op op_mod (pe_op op_sub (pv 7) (pe_ix ix_tup (pv 12) pe_int (fun _ _ => rfl))) (pe_ix ix_tup (pv 12) pe_int (fun _ _ => rfl))) pe_int (nomark _)) (pss_one (ps_ret pe_bl)) pss_nil)
   (pss_one (ps_set (i := 10) sc_l_all_ring.nd rfl (Or.inl rfl) (pe_op op_mulB (pe_op op_fdivB (pv 10) (pe_fn D__law_divisor (hr.mono (by decide)) (pa_cons (pv 10) (pa_cons (pe_ix ix_tup (pv 12) pe_int (fun _ _ => rfl)) pa_nil)))) (pe_ix ix_tup (pv 12) pe_int (fun _ _ => rfl)))))))
   (pss_one (ps_ret (pe_cmpR op_lt (pe_op op_sub (pv 7) (pv 10)) (pv 3) (nomark _))))))))))))), ?_⟩
  have TW := S.tw
  obtain ⟨⟨dx, h1⟩, ⟨kvs, hd1, hkv⟩, nd⟩ := id TW
  have ntc : t ≠ c := ne_of h1 hcl (by intro z; cases z)
  have ndc : d ≠ c := ne_of hd1 hcl (by intro z; cases z)
  have hbl : (beatsOf bl).length = bl.length := List.length_map ..
  refine ⟨(by walk_at "sz"), fun p1 hp1 => ?_⟩
  refine ⟨(by walk_at "sz"), fun p2 hp2 => ?_⟩
  have sP : Same H (upd (upd H p1 (.lst [])) p2 (.lst [])) := (Same.new hp1).on hp2
  have TW1 : TwAt cs.Tower (upd (upd H p1 (.lst [])) p2 (.lst [])) t d bl := TW.keep (A := []) (Ch.same sP) (by simp) (by simp)
  have hpk : upd (upd H p1 (.lst [])) p2 (.lst []) p1 = some (.lst []) := get_new upd_same hp2
  have np1c : p1 ≠ c := fun z => by rw [z, hcl] at hp1; cases hp1
  have fin : ∀ (H1 H5 : Hp) (cn' : Nat), Same H H1 → Ch [c] H1 H5 → H5 c = some (.lst [.int (cn' : Nat)]) → cn' ≤ bl.length → (∀ (i j : Nat) (x y : Bell), i < j → j < cn' → bl[i]? = some x → bl[j]? = some y → ¬ KM.Cl x.2 y.2) → Ch [c] H H5 ∧ StAt cs.Tower H5 t d r c bl cn' := fun H1 H5 cn' s1 ch e1 e2 e3 => by
   have cc : Ch [c] H H5 := (Ch.same s1).trans ch
   exact ⟨cc, TW.keep cc (by simpa using ntc) (by simpa using ndc), ⟨us, cc.1 _ _ hr1 (by simpa using hrc), rwv_on cc.2 hrw⟩, e1, e2, e3, S.bd⟩
  refine ⟨_, rfl, _, rfl, _, rfl, ?_⟩
  refine ⟨t, d, m, pl, true, bl, rfl, TW1, hm, fun _ => ⟨t, d, m, bl, rfl, TW1, fun b hb => (hbd b hb).1, by omega, fun x L ws Tg H1 s1 => ?_, fun i j dv x y A0 ex ey dd H1 s1 hdd => ?_⟩, fun z => nomatch z⟩
  ·have sx : Same H H1 := sP.trans s1
   have hrX := sx _ _ hr1
   have hwX := rwv_on sx.tups hrw
   have hcX := sx _ _ hcl
   have hkX := s1 _ _ hpk
   refine ⟨_, rfl, _, rfl, ?_⟩
   refine ⟨r, c, us, bl, cn, rfl, hrX, hwX, hcX, hrc, S.le, S.ap, hbd, hb13, fun p5 H5 ch5 _ hp5 hc5 hno => ?_, fun i j dv x' y' p5 H5 ch5 _ A0 ex ey hp5 hc5 => ?_⟩
   ·obtain ⟨cc, S5⟩ := fin H1 H5 bl.length sx ch5 hc5 (Nat.le_refl _) (fun i j x y hij hj e1 e2 => hno i j x y hij e1 e2)
    have hk5 : H5 p1 = some (.lst []) := ch5.1 _ _ hkX (by simpa using np1c)
    have hr5 := cc.1 _ _ hr1 (by simpa using hrc)
    have hw5 := rwv_on cc.2 hrw
    have hLp := Tg.pos
    have ed := em (x := x - m) hLp
    refine ⟨_, rfl, _, _, rfl, (by walk_at "ln"), _, _, rfl, rfl, _, rfl, ?_⟩
    refine iteD (by simp) ?_
    refine ⟨_, rfl, (by walk_at "sz"), fun p3 hp3 => ?_⟩
    refine ⟨_, _, _, _, rfl, rfl, SqL.of (get_new hk5 hp3), SqL.of upd_same, rfl, rfl, _, rfl, ?_⟩
    refine iteF ?_
    have sy : Same H5 (upd H5 p3 (.lst [])) := Same.new hp3
    refine ⟨_, rfl, _, rfl, _, rfl, ?_⟩
    refine iteF ?_
    refine ⟨_, rfl, _, rfl, _, _, rfl, rfl, _, rfl, ?_⟩
    refine iteD (by omega) ?_
    have hrE := sy _ _ hr5
    have hwE := rwv_on sy.tups hw5
    have hpos : ∀ b ∈ beatsOf bl, 0 < b.2 := fun b hb => by
     obtain ⟨e, he, rfl⟩ := List.mem_map.mp hb
     exact (hbd e he).1.pos
    have hz : ∀ b ∈ beatsOf bl, 0 < b.2 ∧ b.2.natAbs < 2 ^ 60 := fun b hb => by
     obtain ⟨e, he, rfl⟩ := List.mem_map.mp hb
     exact ⟨(hbd e he).1.pos, (hbd e he).1.big⟩
    have ring : ∀ b ∈ beatsOf bl, (m + (x - m) % L - b.1) % b.2 = 0 := Tg.ring.mp (by
     have : m + (x - m) % L - x = -(L * ((x - m) / L)) := by have := Int.emod_def (x - m) L; omega
     rw [this]
     exact Int.emod_eq_zero_of_dvd (Int.dvd_neg.mpr ⟨_, rfl⟩))
    refine ⟨_, rfl, _, rfl, ⟨_, SqL.of hrE⟩, ?_⟩
    refine for_list (xs := us) (fun i σ HL => ∃ (x1 x2 : Option V), σ = [some (.ref t), some (.ref r), some (.ref c), some (.int m), some (.bl pl), some (.ref p1), some (.ref p2), some (.int (m + (x - m) % L)), none, some (.ref p5), some (.int (KM.cgap ((beatsOf bl).take i))), x1, x2] ∧ HL = upd H5 p3 (.lst [])) ⟨none, none, rfl, rfl⟩ (fun i σ HL _ ⟨_, _, _, e⟩ => by rw [e]; exact SqL.of hrE) ?_ ?_
    ·rintro i v σ HL hv ⟨x1, x2, rfl, rfl⟩
     obtain ⟨b, eb, p, q, rfl, hp, hq⟩ := paired_get hwE hv
     have ebs : (beatsOf bl)[i]? = some b.2 := by rw [beatsOf, List.getElem?_map, eb]; rfl
     have hbm := List.mem_of_getElem? ebs
     have hil := (List.getElem?_eq_some_iff.mp eb).1
     have hbp := hpos _ hbm
     have hb0 : 0 ≤ b.2.2 := by omega
     refine ⟨_, _, rfl, SqT.of hp, rfl, _, _, rfl, _, _, rfl, rfl, ?_⟩
     refine ⟨_, rfl, _, rfl, _, _, _, _, rfl, rfl, (by walk_at "sq"), (by walk_at "at"), _, _, rfl, rfl, _, rfl, _, _, _, _, rfl, rfl, (by walk_at "sq"), (by walk_at "at"), _, _, rfl, rfl, (by walk_at "sd"), rfl, _, rfl, ?_⟩
     refine iteNS (e_eq (ring _ hbm)) ?_
     have hc := KM.cgap_pos i hpos
     have zc := KM.sz_mono 4000 (KM.cgap_sz (B := 60) i hz) (by omega)
     have hg0 := KM.gcd_posL (b := b.2.2) hc
     have hgl := KM.gcd_leR (a := KM.cgap ((beatsOf bl).take i)) hbp
     have zb := (hz _ hbm).2
     have dv : CDivB (KM.cgap ((beatsOf bl).take i)) (Int.gcd (KM.cgap ((beatsOf bl).take i)) b.2.2 : Int) := divB (n := 60) hg0 (by omega)
     have mo : IntMulOk (KM.cgap ((beatsOf bl).take i) / (Int.gcd (KM.cgap ((beatsOf bl).take i)) b.2.2 : Int)) b.2.2 := mulOk_of (KM.sz_div zc hg0) zb
     refine ⟨_, rfl, _, rfl, _, rfl, _, _, _, _, rfl, rfl, (by walk_at "sq"), (by walk_at "at"), _, _, rfl, (by walk_at "sd"), (by walk_at "sd"), _, _, rfl, rfl, dv, _, rfl, _, _, _, _, rfl, rfl, (by walk_at "sq"), (by walk_at "at"), _, _, rfl, rfl, mo, ?_⟩
     exact ⟨_, _, by rw [KM.cgap_take ebs]; rfl, rfl⟩
    ·rintro σ HL ⟨x1, x2, rfl, rfl⟩
     rw [List.take_of_length_le (by omega)]
     have hle : L ≤ KM.cgap (beatsOf bl) := KM.tog_le Tg hpos
     refine ⟨_, rfl, _, rfl, _, _, rfl, rfl, _, rfl, _, _, rfl, rfl, ?_⟩
     exact k_true (by omega) (k _ _ (cc.trans (Ch.same sy)) (S5.keep0 sy))
   ·exact absurd (A0.cl x'.2 y'.2 (by rw [beatsOf, List.getElem?_map, ex]; rfl) (by rw [beatsOf, List.getElem?_map, ey]; rfl)).1 (Tg.apart (List.mem_map_of_mem (List.mem_of_getElem? ex)) (List.mem_map_of_mem (List.mem_of_getElem? ey)))
  ·refine ⟨cs.Clash, rfl, T.x_Clash_KnellError, fun z hz => ?_⟩
   refine ⟨_, rfl, z, cs.Clash, some dd, 5, rfl, .inl upd_same, T.e_Clash, ⟨T.k_Clash_ValueError, T.k_Clash_NoBeat, T.k_Clash_NoBell, T.k_Clash_TooMany, T.k_Clash_Twice, T.k_Clash_NoName, T.k_Clash_Clash⟩, fun p3 H3 s3 hp3H hp3 => ?_⟩
   have hz3 := s3 _ _ (upd_same (H := H1) (a := z) (o := excD z cs.Clash (some dd)))
   have hdd3 := ((Same.new hz (o := excD z cs.Clash (some dd))).trans s3) _ _ hdd
   refine ⟨_, rfl, z, cs.Clash, some dd, true, rfl, .inl hz3, T.e_Clash, T.k_Clash_Clash, (fun e => nomatch e), fun _ => ⟨rfl, dd, _, _, _, rfl, hdd3, fun p4 H4 s4 hp4H hp4 => ?_⟩⟩
   have sx : Same H H4 := (((sP.trans s1).on hz).trans s3).trans s4
   have hrX := sx _ _ hr1
   have hwX := rwv_on sx.tups hrw
   have hcX := sx _ _ hcl
   have hk4 := s4 _ _ hp3
   have np3c : p3 ≠ c := fun e => by rw [e] at hp3H; rw [((sP.trans s1).on hz) _ _ hcl] at hp3H; cases hp3H
   have np4c : p4 ≠ c := fun e => by rw [e] at hp4H; rw [(((sP.trans s1).on hz).trans s3) _ _ hcl] at hp4H; cases hp4H
   refine ⟨_, rfl, _, rfl, ?_⟩
   refine ⟨r, c, us, bl, cn, rfl, hrX, hwX, hcX, hrc, S.le, S.ap, hbd, hb13, fun p5 H5 ch5 _ hp5 hc5 hno => ?_, fun i' j' dv' x' y' p5 H5 ch5 hp5H A1 ex' ey' hp5 hc5 => ?_⟩
   ·exact absurd (A0.cl x.2 y.2 (by rw [beatsOf, List.getElem?_map, ex]; rfl) (by rw [beatsOf, List.getElem?_map, ey]; rfl)).1 (hno i j x y A0.ij ex ey)
   ·obtain ⟨rfl, rfl, rfl⟩ := apart_one A0 A1
    rw [ex] at ex'
    rw [ey] at ey'
    cases ex'
    cases ey'
    have hjl := A0.jl
    rw [hbl] at hjl
    obtain ⟨cc, S5⟩ := fin H4 H5 j sx ch5 hc5 (by omega) (fun a e x y hae hej e1 e2 => A0.no a e x.2 y.2 hae hej (by rw [beatsOf, List.getElem?_map, e1]; rfl) (by rw [beatsOf, List.getElem?_map, e2]; rfl))
    have hk5 := ch5.1 _ _ hk4 (by simpa using np3c)
    have hf5 := ch5.1 _ _ hp4 (by simpa using np4c)
    refine ⟨_, rfl, _, _, rfl, (by walk_at "ln"), _, _, rfl, rfl, _, rfl, ?_⟩
    refine iteDT (by simp) ?_
    walk_at "l"
    refine iteF ?_
    refine ⟨_, rfl, 5, rfl, fun p6 H6 s6 hp6 => ?_⟩
    refine ⟨_, _, _, _, rfl, rfl, SqL.of (s6 _ _ hk5), SqL.of hp6, rfl, rfl, _, rfl, ?_⟩
    rw [eqs_refl rfl]
    refine iteF ?_
    have hf6 := s6 _ _ hf5
    have ht6 := s6 _ _ hp5
    refine ⟨_, rfl, _, _, _, _, rfl, rfl, SqL.of hf6, at2, _, rfl, _, rfl, ?_⟩
    refine iteF ?_
    refine ⟨_, rfl, _, _, _, _, rfl, rfl, (by walk_at "sq"), (by walk_at "at"), _, _, _, _, rfl, (by walk_at "ty"), (by walk_at "kt"), _, rfl, ?_⟩
    refine iteT ?_
    refine ⟨_, rfl, _, _, _, _, rfl, rfl, (by walk_at "sq"), (by walk_at "at"), _, _, _, _, rfl, (by walk_at "ty"), (by walk_at "kt"), _, rfl, ?_⟩
    refine iteT ?_
    refine ⟨_, rfl, _, rfl, _, _, _, _, rfl, rfl, SqL.of hf6, SqL.of ht6, rfl, rfl, ?_⟩
    rw [eqs_refl rfl]
    exact k _ _ (cc.trans (Ch.same s6)) (S5.keep0 s6)
theorem sc_l_some_ring : FnScope ["_law_tower", "_law_row", "_law_begin", "_law_plain", "_law_held", "_law_emptied", "_law_kinds_here", "_law_told", "_law_e", "_law_name_here", "_law_one", "_law_due"] ["_law_tower", "_law_row", "_law_begin", "_law_plain", "_law_held", "_law_emptied"] (defScope s_l_some_ring) := ⟨rfl, rfl, rfl, by decide +kernel, rfl, by decide +kernel, by decide +kernel⟩
set_option maxHeartbeats 4000000 in
theorem ok_l_some_ring {f : Addr} {fd : FuncData} {cs : Cls} (F : Fun K "_law_some_ring" "_law_some_ring" s_l_some_ring f fd) (T : Txt K mg cs) (D__law_asked : DnX P w K mg base "_law_asked" 7 ["_law_tower", "_law_begin", "_law_plain", "_law_all_bells"] (sp_l_asked K cs)) (D__law_kinds : DnH P w K mg base "_law_kinds" 1 ["_law_e"] (sp_l_kinds K cs)) (D__law_whole : Dn P w K mg base "_law_whole" 1 ["_law_found"] (sp_l_whole K cs)) (D__law_only : Dn P w K mg base "_law_only" 1 ["_law_place"] (sp_l_only K cs)) : FnOk P w K mg base CX0 8 f fd ["_law_tower", "_law_row", "_law_begin", "_law_plain", "_law_held", "_law_emptied"] (sp_l_some_ring K cs) := by
 refine F.ok sc_l_some_ring (fun vs H Q E h => ?_) (fun cdv A outer s H vs Q E hr h => ?_)
 ·obtain ⟨t, d, r, hd, us, hs, bl, m, pl, em0, rfl, _⟩ := h
  rfl
 ·obtain ⟨t, d, r, hd, us, hs, bl, m, pl, em0, rfl, TW, hr1, hrw, hbd, hb13, hm, hhd, hhl, hrh, k0, k1⟩ := h
  have hul := Paired.length hrw
  refine ⟨_, (pss_cons (ps_set (i := 6) sc_l_some_ring.nd rfl (Or.inl rfl) (pe_lst pa_nil))
   (pss_cons (ps_set (i := 7) sc_l_some_ring.nd rfl (Or.inr rfl) pe_non)
   (pss_cons (ps_tryS (i := 8) sc_l_some_ring.nd rfl rfl rfl rfl (psx_set (i := 7) sc_l_some_ring.nd rfl (Or.inr rfl) (pex_fn D__law_asked (hr.mono (by decide)) (pa_cons (pv 0) (pa_cons (pv 2) (pa_cons (pv 3) (pa_cons pe_bl pa_nil)))))) rfl T.m_KnellError (fun _ => (pss_one (ps_set (i := 6) sc_l_some_ring.nd rfl (Or.inl rfl) (pe_fnH D__law_kinds (hr.held.mono (by decide)) (pa_cons (pv 8) pa_nil))))))
   (pss_cons (ps_if (pt_cmpR op_eq (pe_callB call_len_seq rfl T.n_len bt_len (pa_cons (pv 1) pa_nil)) pe_int (nomark _)) (pss_one (ps_ret (pe_and (pe_cmpR op_isN (pv 7) pe_non (nomark _)) (pe_one (pe_cmpR (op_eqL hr.units0) (pv 6) (pe_fn D__law_only (hr.mono (by decide)) (pa_cons pe_int pa_nil)) (nomark _)))))) pss_nil)
   (pss_cons (ps_if (PW.pt (pw_or (pt_cmpR (op_neL hr.units0) (pv 6) (pe_lst pa_nil) (nomark _)) (pw_or (pt_not (pt_val (pe_callB call_isinst rfl T.n_isinstance bt_isinstance (pa_cons (pv 7) (pa_cons (pe_bltn (v := .ty "tuple") rfl T.n_tuple bt_tuple rfl) pa_nil))))) (pw_or1 (pt_cmpR op_ne (pe_callB call_len_seq rfl T.n_len bt_len (pa_cons (pv 7) pa_nil)) pe_int (nomark _)))))) (pss_one (ps_ret pe_bl)) pss_nil)
   (pss_cons (ps_if (PW.pt (pw_or (pt_not (pt_val (pe_fn D__law_whole (hr.mono (by decide)) (pa_cons (pe_ix ix_tup (pv 7) pe_int (fun _ _ => rfl)) pa_nil)))) (pw_or (pt_cmpR op_lt (pe_ix ix_tup (pv 7) pe_int (fun _ _ => rfl)) (pv 2) (nomark _)) (pw_or1 (pt_not (pt_val (pe_callB call_isinst rfl T.n_isinstance bt_isinstance (pa_cons (pe_ix ix_tup (pv 7) pe_int (fun _ _ => rfl)) (pa_cons (pe_bltn (v := .ty "list") rfl T.n_list bt_list rfl) pa_nil))))))))) (pss_one (ps_ret pe_bl)) pss_nil)
   (pss_cons (ps_for PassesOwn.never rfl (pi_list (pv 1)) (pg_tup rfl (pgs_cons (pg_name (i := 9) sc_l_some_ring.nd rfl (Or.inl rfl)) (pgs_cons (pg_name (i := 10) sc_l_some_ring.nd rfl (Or.inl rfl)) pgs_nil))) (pss_one (ps_if (pt_cmpR op_lt (pe_op op_add (pv 2) (pe_op op_mod (pe_op op_sub (pe_ix ix_tup (pv 10) pe_int (fun _ _ => rfl)) (pv 2)) (pe_ix ix_tup (pv 10) pe_int (fun _ _ => rfl)))) (pe_ix ix_tup (pv 7) pe_int (fun _ _ => rfl)) (nomark _)) (pss_one (ps_ret pe_bl)) pss_nil)))
   (pss_cons (ps_setcompT2 (i := 11) sc_l_some_ring.nd rfl rfl rfl (pi_list (pv 1)) (by refine ⟨rfl, by decide +kernel, rfl, by decide +kernel, rfl, rfl, (List.forall_mem_cons.mpr ⟨rfl, List.forall_mem_nil _⟩), rfl, (cap_cons ⟨rfl, rfl, rfl, rfl⟩ cap_nil), by decide +kernel, rfl⟩ : CompOk2 _ _ _ "_law_name_here" "_law_one" ["_law_told"] [7]) (fun _ _ _ => (pt_cmpR op_eq (pe_op op_mod (pe_op op_sub (pe_ix (ix_tupK (K := K) rfl) (pv 2) pe_int (fun _ _ => rfl)) (pe_ix (ix_tupK (K := K) rfl) (pv 1) pe_int (fun _ _ => rfl))) (pe_ix (ix_tupK (K := K) rfl) (pv 1) pe_int (fun _ _ => rfl))) pe_int (nomark _))) (fun _ _ _ => (pv 0)))
   (pss_cons (ps_if (PW.pt (pw_or (pt_cmpR op_eq (pe_callB call_len_seq rfl T.n_len bt_len (pa_cons (pv 11) pa_nil)) pe_int (nomark _)) (pw_or (pt_cmpR (op_neL hr.units0) (pe_ix ix_tup (pv 7) pe_int (fun _ _ => rfl)) (pv 11) (nomark _)) (pw_or1 (pt_cmpR op_gt (pe_callB call_len_seq rfl T.n_len bt_len (pa_cons (pe_compT rfl (pi_list (pe_ix ix_tup (pv 7) pe_int (fun _ _ => rfl))) (by refine ⟨rfl, by decide +kernel, rfl, by decide +kernel, rfl, (List.forall_mem_nil _), rfl, cap_nil, by decide +kernel, rfl⟩ : CompOk _ _ _ "_law_name_here" [] []) (fun _ _ _ => (pt_not (pt_val (pe_callB (call_isinstK (K := K) rfl) rfl T.n_isinstance bt_isinstance (pa_cons (pv 0) (pa_cons (pe_bltn (v := .ty "str") rfl T.n_str bt_str rfl) pa_nil)))))) (fun _ _ _ => (pv 0))) pa_nil)) pe_int (nomark _)))))) (pss_one (ps_ret pe_bl)) pss_nil)
   (pss_cons (ps_if (pt_val (pv 5)) (pss_cons (ps_expr (pe_bm0 PySem.F.plainAttrs_list PySem.F.slot_list_clear PySem.F.type_list_clear mt_clear (pe_ix ix_tup (pv 7) pe_int (fun _ _ => rfl))))
   (pss_one (ps_set (i := 11) sc_l_some_ring.nd rfl (Or.inl rfl) (pe_lst pa_nil)))) pss_nil)
   (pss_cons (ps_expr (pe_bm PySem.F.plainAttrs_list PySem.F.slot_list_append PySem.F.type_list_append mt_append (pv 4) (pa_cons (pe_tup (pa_cons (pe_ix ix_tup (pv 7) pe_int (fun _ _ => rfl)) (pa_cons (pv 11) pa_nil))) pa_nil)))
   (pss_one (ps_ret pe_bl))))))))))))), ?_⟩
  refine ⟨(by walk_at "sz"), fun p1 hp1 => ?_⟩
  have sP : Same H (upd H p1 (.lst [])) := Same.new hp1
  have TW1 : TwAt cs.Tower (upd H p1 (.lst [])) t d bl := TW.keep (A := []) (Ch.same sP) (by simp) (by simp)
  refine ⟨_, rfl, _, rfl, _, rfl, ?_⟩
  refine ⟨t, d, m, pl, false, bl, rfl, TW1, hm, (fun z => nomatch z), fun _ => ⟨t, d, m, bl, rfl, TW1, fun b hb => (hbd b hb).1, by omega, fun hn H1 s1 => ?_, fun hn s0 p l H1 s1 hp hlH hl hex hmin => ?_⟩⟩
  ·refine ⟨cs.NoBell, rfl, T.x_NoBell_KnellError, fun x hx => ?_⟩
   refine ⟨_, rfl, x, cs.NoBell, none, 1, rfl, .inl upd_same, T.e_NoBell, ⟨T.k_NoBell_ValueError, T.k_NoBell_NoBeat, T.k_NoBell_NoBell, T.k_NoBell_TooMany, T.k_NoBell_Twice, T.k_NoBell_NoName, T.k_NoBell_Clash⟩, fun p2 H2 s2 _ hp2 => ?_⟩
   have sx : Same H H2 := ((sP.trans s1).on hx).trans s2
   have hrX := sx _ _ hr1
   have hu0 : us = [] := List.eq_nil_of_length_eq_zero (by rw [hul, hn]; rfl)
   refine ⟨_, rfl, _, _, rfl, (by walk_at "ln"), rfl, _, rfl, ?_⟩
   refine iteDT (e_eq (by rw [hu0]; rfl)) ?_
   walk_at "l"
   refine iteT ?_
   refine ⟨_, rfl, 1, rfl, fun p5 H5 s5 hp5 => ?_⟩
   refine ⟨_, _, _, _, rfl, rfl, SqL.of (s5 _ _ hp2), SqL.of hp5, rfl, rfl, ?_⟩
   rw [eqs_refl rfl]
   exact k0 hn _ (sx.trans s5)
  ·have sx : Same H H1 := sP.trans s1
   have hlH' : H l = none := sP.free hlH
   have hrX := sx _ _ hr1
   have hwX := rwv_on sx.tups hrw
   have hkX := s1 _ _ (upd_same (H := H) (a := p1) (o := .lst []))
   have hpos := List.length_pos_iff.mpr hn
   obtain ⟨b0, hb0, e0⟩ := hex
   have hb0p := (hbd b0 hb0).1.pos
   have ed0 := em (x := b0.2.1 - m) hb0p
   refine ⟨_, rfl, _, _, rfl, (by walk_at "ln"), rfl, _, rfl, ?_⟩
   refine iteD (e_ne (by omega)) ?_
   refine ⟨_, rfl, (by walk_at "sz"), fun p2 hp2 => ?_⟩
   refine ⟨_, _, _, _, rfl, rfl, SqL.of (get_new hkX hp2), SqL.of upd_same, rfl, rfl, _, rfl, ?_⟩
   refine iteF ?_
   have sy : Same H1 (upd H1 p2 (.lst [])) := Same.new hp2
   have hpY := sy _ _ hp
   have hlY := sy _ _ hl
   have hrY := sy _ _ hrX
   have hwY := rwv_on sy.tups hwX
   refine ⟨_, rfl, _, _, _, _, rfl, (by walk_at "ty"), (by walk_at "kt"), _, rfl, ?_⟩
   refine iteF ?_
   refine ⟨_, rfl, _, _, rfl, (by walk_at "ln"), rfl, _, rfl, ?_⟩
   refine iteNS (e_eq rfl) ?_
   refine ⟨_, rfl, _, _, _, _, rfl, rfl, (by walk_at "sq"), (by walk_at "at"), _, rfl, _, rfl, ?_⟩
   refine iteF ?_
   refine ⟨_, rfl, _, _, _, _, rfl, rfl, (by walk_at "sq"), (by walk_at "at"), _, rfl, _, _, rfl, rfl, _, rfl, ?_⟩
   refine iteD (by omega) ?_
   refine ⟨_, rfl, _, _, _, _, rfl, rfl, (by walk_at "sq"), (by walk_at "at"), _, _, _, _, rfl, (by walk_at "ty"), (by walk_at "kt"), _, rfl, ?_⟩
   refine iteF ?_
   refine ⟨_, rfl, _, rfl, ⟨_, SqL.of hrY⟩, ?_⟩
   refine for_list (xs := us) (fun i σ HL => ∃ (x1 x2 : Option V), σ = [some (.ref t), some (.ref r), some (.int m), some (.bl pl), some (.ref hd), some (.bl em0), some (.ref p1), some (.ref p), none, x1, x2, none] ∧ HL = upd H1 p2 (.lst [])) ⟨none, none, rfl, rfl⟩ (fun i σ HL _ ⟨_, _, _, e⟩ => by rw [e]; exact SqL.of hrY) ?_ ?_
   ·rintro i v σ HL hv ⟨x1, x2, rfl, rfl⟩
    obtain ⟨b, eb, pp, qq, rfl, hpp, hqq⟩ := paired_get hwY hv
    have hbm := List.mem_of_getElem? eb
    have hbp := (hbd b hbm).1.pos
    have hmn := hmin b hbm
    refine ⟨_, _, rfl, SqT.of hpp, rfl, _, _, rfl, _, _, rfl, rfl, ?_⟩
    refine ⟨_, rfl, _, rfl, _, _, _, _, rfl, rfl, (by walk_at "sq"), (by walk_at "at"), _, rfl, _, _, rfl, rfl, _, rfl, _, _, _, _, rfl, rfl, (by walk_at "sq"), (by walk_at "at"), _, _, rfl, rfl, (by walk_at "sd"), _, _, rfl, rfl, _, rfl, _, _, _, _, rfl, rfl, (by walk_at "sq"), (by walk_at "at"), _, _, rfl, rfl, _, rfl, ?_⟩
    refine iteD (by omega) ?_
    exact ⟨_, _, rfl, rfl⟩
   ·rintro σ HL ⟨x1, x2, rfl, rfl⟩
    refine ⟨_, rfl, _, rfl, ⟨_, SqL.of hrY⟩, ?_⟩
    refine fun D hD => ?_
    refine compT2_list (xs := us) (fun i ys HC => Same (upd H1 p2 (.lst [])) HC ∧ HC D = some (.lst ys) ∧ ys = ((bl.take i).filter fun b => KM.rg s0 b.2).map fun b => V.str b.1) ⟨Same.new hD, upd_same, rfl⟩ (fun i ys HC hi ⟨q1, q2, q3⟩ => ⟨SqL.of (q1 _ _ hrY), q2, by rw [q3, List.length_map]; exact small1000 (Nat.le_trans (List.length_filter_le ..) (by simp; omega))⟩) ?_ ?_
    ·rintro i v ys HC N hv ⟨q1, q2, q3⟩ hN
     obtain ⟨b, eb, pp, qq, rfl, hpp, hqq⟩ := paired_get hwY hv
     have hbm := List.mem_of_getElem? eb
     have hbp := (hbd b hbm).1.pos
     have hpp' := q1 _ _ hpp
     have hqq' := q1 _ _ hqq
     have hpC := q1 _ _ hpY
     have et : bl.take (i + 1) = bl.take i ++ [b] := KM.take_snoc eb
     refine ⟨_, _, _, rfl, SqT.of hpp', ?_⟩
     refine ⟨_, rfl, _, _, _, _, rfl, rfl, (by walk_at "sq"), (by walk_at "at"), _, rfl, _, _, _, _, rfl, rfl, (by walk_at "sq"), (by walk_at "at"), _, _, rfl, rfl, _, rfl, _, _, _, _, rfl, rfl, (by walk_at "sq"), (by walk_at "at"), _, _, rfl, rfl, (by walk_at "sd"), rfl, _, rfl, ?_⟩
     by_cases hz : (s0 - b.2.1) % b.2.2 = 0
     ·refine iteDT (e_eq hz) ?_
      have hg : KM.rg s0 b.2 = true := beq_iff_eq.mpr hz
      refine ⟨_, rfl, ?_⟩
      exact ⟨q2, hN _ _ ⟨q1.own hD, upd_same, by rw [q3, et, List.filter_append]; simp [hg]⟩⟩
     ·refine iteD (e_ne hz) ?_
      have hg : KM.rg s0 b.2 = false := beq_eq_false_iff_ne.mpr hz
      exact hN _ _ ⟨q1, q2, by rw [q3, et, List.filter_append]; simp [hg]⟩
    ·rintro ys HC ⟨q1, q2, q3⟩
     rw [List.take_of_length_le (by omega)] at q3
     have hpC := q1 _ _ hpY
     have hlC := q1 _ _ hlY
     rw [← q3] at hlC
     have hfl : ys.all flatV = true := by
      rw [q3, List.all_map]
      exact List.all_eq_true.mpr fun _ _ => rfl
     have hok : ys.all okV = true := by
      rw [q3, List.all_map]
      exact List.all_eq_true.mpr fun _ _ => rfl
     have hys : (ys.length : Int) ≠ 0 := by
      have hg : KM.rg s0 b0.2 = true := beq_iff_eq.mpr (by
       rw [e0]
       have : m + (b0.2.1 - m) % b0.2.2 - b0.2.1 = -(b0.2.2 * ((b0.2.1 - m) / b0.2.2)) := by have := Int.emod_def (b0.2.1 - m) b0.2.2; omega
       rw [this]
       exact Int.emod_eq_zero_of_dvd (Int.dvd_neg.mpr ⟨_, rfl⟩))
      have : b0 ∈ bl.filter fun b => KM.rg s0 b.2 := List.mem_filter.mpr ⟨hb0, hg⟩
      have := List.length_pos_of_mem this
      rw [q3, List.length_map]
      omega
     have hyl : ys.length ≤ 13 := by
      rw [q3, List.length_map]
      exact Nat.le_trans (List.length_filter_le ..) hb13
     have hysS : ∀ v ∈ ys, ∃ n, v = .str n := fun v hv => by
      rw [q3] at hv
      obtain ⟨b, _, rfl⟩ := List.mem_map.mp hv
      exact ⟨b.1, rfl⟩
     refine ⟨_, rfl, _, _, rfl, (by walk_at "ln"), rfl, _, rfl, ?_⟩
     refine iteD (e_ne hys) ?_
     refine ⟨_, rfl, _, _, _, _, rfl, rfl, SqT.of hpC, at1, _, rfl, _, _, _, _, rfl, rfl, SqL.of hlC, SqL.of q2, hfl, hfl, _, rfl, ?_⟩
     rw [eqs_refl hfl]
     refine iteF ?_
     refine ⟨_, rfl, _, _, _, _, rfl, rfl, SqT.of hpC, at1, ?_⟩
     refine ⟨_, rfl, ⟨_, SqL.of hlC⟩, fun D2 hD2 => ?_⟩
     refine compT_list (xs := ys) (fun i zs HE => Same HC HE ∧ HE D2 = some (.lst zs) ∧ zs = []) ⟨Same.new hD2, upd_same, rfl⟩ (fun i zs HE hi ⟨r1, r2, r3⟩ => ⟨SqL.of (r1 _ _ hlC), r2, by rw [r3]; exact small1000 (Nat.zero_le _)⟩) ?_ ?_
     ·rintro i v zs HE N hv ⟨r1, r2, r3⟩ hN
      obtain ⟨n, rfl⟩ := hysS v (List.mem_of_getElem? hv)
      refine ⟨_, rfl, _, _, _, _, rfl, (by walk_at "ty"), (by walk_at "kt"), _, rfl, ?_⟩
      refine iteF ?_
      exact hN _ _ ⟨r1, r2, r3⟩
     ·rintro zs HE ⟨r1, r2, rfl⟩
      refine ⟨_, _, rfl, .inl (SqL.of r2), _, _, rfl, rfl, _, rfl, ?_⟩
      refine iteD (by simp) ?_
      have hpE := r1 _ _ hpC
      have hlE := r1 _ _ hlC
      have hDE := r1 _ _ q2
      have sH : Same H HE := ((sx.trans sy).trans q1).trans r1
      have hhE := sH _ _ hhd
      have nlh : l ≠ hd := fun z => by rw [z, hhd] at hlH'; cases hlH'
      have sDH : H D = none := ((sx.trans sy)).free hD
      have nDh : D ≠ hd := fun z => by rw [z, hhd] at sDH; cases sDH
      refine ⟨_, rfl, _, rfl, ?_⟩
      cases em0 with
      | true =>
       refine iteT ?_
       refine ⟨_, rfl, _, _, _, _, rfl, rfl, SqT.of hpE, at1, .inl ⟨rfl, _, SqL.of hlE⟩, _, _, rfl, rfl, hlE, ?_⟩
       have cl : Ch [l] HE (upd HE l (.lst [])) := Ch.refl.upd (by simp) (fun xs z => by rw [hlE] at z; cases z)
       have hpF := cl.2 _ _ hpE
       refine ⟨(by walk_at "sz"), fun p4 hp4 => ?_⟩
       have hpG := get_new (u := .lst []) hpF hp4
       have hlG : upd (upd HE l (.lst [])) p4 (.lst []) l = some (.lst []) := get_new upd_same hp4
       have hhG : upd (upd HE l (.lst [])) p4 (.lst []) hd = some (.lst hs) := get_new (by rw [upd_ne nlh.symm]; exact hhE) hp4
       refine ⟨_, rfl, .inl ⟨rfl, _, SqL.of hhG⟩, _, rfl, _, _, _, _, rfl, rfl, SqT.of hpG, at1, _, rfl, ?_⟩
       refine ⟨len_ok (Nat.le_of_ble_eq_true rfl), fun p9 hp9 => ?_⟩
       have hhI := get_new (u := .tup [.ref l, .ref p4]) hhG hp9
       refine ⟨_, _, _, rfl, rfl, hhI, small1000 (by omega), ?_⟩
       have hp7H : H p4 = none := by
        cases e : H p4 with
        | none => rfl
        | some o => rw [cl.1 _ _ (sH _ _ e) (by simp only [List.mem_singleton]; intro z; rw [z, hlH'] at e; cases e)] at hp4; cases hp4
       have n7h : p4 ≠ hd := fun z => by rw [z, hhd] at hp7H; cases hp7H
       have ch0 : Ch [hd, l] H (upd (upd (upd (upd HE l (.lst [])) p4 (.lst [])) p9 (.tup [.ref l, .ref p4])) hd (.lst (hs ++ [.ref p9]))) := ((((Ch.same sH).trans (cl.mono (by simp))).trans (Ch.same ((Same.new hp4).on hp9)))).upd (by simp) (fun xs z => by rw [hhI] at z; cases z)
       have n9h : p9 ≠ hd := fun z => by rw [z, hhG] at hp9; cases hp9
       refine k1 hn (.ref p9) _ (ch0.fresh hlH') upd_same ⟨p9, l, p4, [], [], rfl, ?_, ?_, ?_, hlH', hp7H, .nil⟩
       ·rw [upd_ne n9h, upd_same]
       ·rw [upd_ne nlh]; exact get_new hlG hp9
       ·rw [upd_ne n7h]; exact get_new upd_same hp9
      | false =>
       refine iteF ?_
       refine ⟨_, rfl, .inl ⟨rfl, _, SqL.of hhE⟩, _, rfl, _, _, _, _, rfl, rfl, SqT.of hpE, at1, _, rfl, ?_⟩
       refine ⟨len_ok (Nat.le_of_ble_eq_true rfl), fun p9 hp9 => ?_⟩
       have hhI := get_new (u := .tup [.ref l, .ref D]) hhE hp9
       refine ⟨_, _, _, rfl, rfl, hhI, small1000 (by omega), ?_⟩
       have ch0 : Ch [hd] H (upd (upd HE p9 (.tup [.ref l, .ref D])) hd (.lst (hs ++ [.ref p9]))) := (Ch.same (sH.on hp9)).upd (by simp) (fun xs z => by rw [hhI] at z; cases z)
       have n9h : p9 ≠ hd := fun z => by rw [z, hhE] at hp9; cases hp9
       refine k1 hn (.ref p9) _ ch0 upd_same ⟨p9, l, D, ys, ys, rfl, ?_, ?_, ?_, hlH', sDH, d2_same hok⟩
       ·rw [upd_ne n9h, upd_same]
       ·rw [upd_ne nlh]; exact get_new hlE hp9
       ·rw [upd_ne nDh]; exact get_new hDE hp9
theorem sc_l_name : FnScope ["_law_row", "_law_names_here", "_law_number", "_law_share"] ["_law_row", "_law_names_here", "_law_number", "_law_share"] (defScope s_l_name) := ⟨rfl, rfl, rfl, by decide +kernel, rfl, by decide +kernel, by decide +kernel⟩
set_option maxHeartbeats 4000000 in
theorem ok_l_name {f : Addr} {fd : FuncData} {cs : Cls} (F : Fun K "_law_name" "_law_name" s_l_name f fd) (T : Txt K mg cs)  : FnOk P w K mg base CX0 1 f fd ["_law_row", "_law_names_here", "_law_number", "_law_share"] (sp_l_name K cs) := by
 refine F.ok sc_l_name (fun vs H Q E h => ?_) (fun cdv A outer s H vs Q E hr h => ?_)
 ·obtain ⟨r, pn, us, bl, ns, num, sh, rfl, _⟩ := h
  rfl
 ·obtain ⟨r, pn, us, bl, ns, num, sh, rfl, hr1, hrw, hbd, hn, no, k⟩ := h
  have hul := Paired.length hrw
  refine ⟨_, (pss_cons (ps_if (PW.pt (pw_or (pt_cmpR op_ge (pe_op op_mod (pv 2) pe_int) (pv 3) (nomark _)) (pw_or1 (pt_cmpR op_eq (pe_callB call_len_seq rfl T.n_len bt_len (pa_cons (pv 0) pa_nil)) pe_int (nomark _))))) (pss_one (ps_ret (pe_ix ix_list (pv 1) (pe_op op_mod (pe_op op_fdivB (pv 2) pe_int) (pe_callB call_len_seq rfl T.n_len bt_len (pa_cons (pv 1) pa_nil))) (fun _ _ => rfl)))) pss_nil)
   (pss_one (ps_ret (pe_ix ix_tup (pe_ix ix_list (pv 0) (pe_op op_mod (pe_op op_fdivB (pv 2) pe_int) (pe_callB call_len_seq rfl T.n_len bt_len (pa_cons (pv 0) pa_nil))) (fun _ _ => rfl)) pe_int (fun _ _ => rfl))))), ?_⟩
  have tail1 : ∃ n, atI (ns.map V.str) (num / 4 % ((ns.map V.str).length : Int)) = some (.str n) ∧ n.length ≤ 100 := by
   have hl : (0 : Int) < ((ns.map V.str).length : Int) := by rw [List.length_map]; have := no.many; omega
   have e := em (x := num / 4) hl
   obtain ⟨j, hj⟩ : ∃ j : Nat, num / 4 % ((ns.map V.str).length : Int) = (j : Nat) := ⟨(num / 4 % ((ns.map V.str).length : Int)).toNat, by omega⟩
   rw [hj]
   have hjl : j < ns.length := by rw [hj, List.length_map] at e; omega
   exact ⟨ns[j], atI_nat (by rw [List.getElem?_map, List.getElem?_eq_getElem hjl]; rfl), no.len _ (List.getElem_mem hjl)⟩
  obtain ⟨n1, e1, l1⟩ := tail1
  have hnl : (0 : Int) < ((ns.map V.str).length : Int) := by rw [List.length_map]; have := no.many; omega
  refine ⟨_, rfl, _, _, rfl, rfl, (by walk_at "sd"), _, rfl, _, _, rfl, rfl, _, rfl, ?_⟩
  refine ite2 (fun h => ?_) (fun h => ?_)
  ·refine ⟨_, rfl, _, rfl, _, _, rfl, rfl, (by walk_at "sd"), _, rfl, _, _, rfl, (by walk_at "ln"), _, _, rfl, rfl, hnl, _, _, _, _, rfl, rfl, SqL.of hn, e1, ?_⟩
   exact k n1 l1
  ·refine ⟨_, rfl, _, _, rfl, (by walk_at "ln"), rfl, _, rfl, ?_⟩
   refine ite2 (fun h2 => ?_) (fun h2 => ?_)
   ·refine ⟨_, rfl, _, rfl, _, _, rfl, rfl, (by walk_at "sd"), _, rfl, _, _, rfl, (by walk_at "ln"), _, _, rfl, rfl, hnl, _, _, _, _, rfl, rfl, SqL.of hn, e1, ?_⟩
    exact k n1 l1
   ·have hu0 : (us.length : Int) ≠ 0 := e_not h2
    have hup : (0 : Int) < (us.length : Int) := by omega
    have e := em (x := num / 4) hup
    obtain ⟨j, hj⟩ : ∃ j : Nat, num / 4 % (us.length : Int) = (j : Nat) := ⟨(num / 4 % (us.length : Int)).toNat, by omega⟩
    have hjl : j < bl.length := by omega
    obtain ⟨v, ev, p, q, rfl, hp, hq⟩ := paired_getR hrw (List.getElem?_eq_getElem hjl)
    have ea : atI us (num / 4 % (us.length : Int)) = some (.ref p) := by rw [hj]; exact atI_nat ev
    refine ⟨_, rfl, _, rfl, _, _, rfl, rfl, (by walk_at "sd"), _, rfl, _, _, rfl, (by walk_at "ln"), _, _, rfl, rfl, hup, _, _, _, _, rfl, rfl, SqL.of hr1, ea, _, _, _, _, rfl, rfl, SqT.of hp, at0, ?_⟩
    exact k _ (hbd _ (List.getElem_mem hjl)).2
theorem sc_l_done : FnScope ["_law_tower", "_law_row", "_law_clean", "_law_names_here", "_law_cell", "_law_script", "_law_held", "_law_way", "_law_number", "_law_begin", "_law_plain", "_law_wide", "_law_mixed", "_law_first"] ["_law_tower", "_law_row", "_law_clean", "_law_names_here", "_law_cell", "_law_script", "_law_held"] (defScope s_l_done) := ⟨rfl, rfl, rfl, by decide +kernel, rfl, by decide +kernel, by decide +kernel⟩
set_option maxHeartbeats 4000000 in
theorem ok_l_done {f : Addr} {fd : FuncData} {cs : Cls} (F : Fun K "_law_done" "_law_done" s_l_done f fd) (T : Txt K mg cs) (D__law_bells : Dn P w K mg base "_law_bells" 3 ["_law_tower", "_law_row", "_law_held", "_law_emptied"] (sp_l_bells K cs)) (D__law_take : Dn P w K mg base "_law_take" 3 ["_law_tower", "_law_row", "_law_clean", "_law_name_here"] (sp_l_take K cs)) (D__law_gap : Dn P w K mg base "_law_gap" 1 ["_law_number"] (sp_l_gap K cs)) (D__law_hang : Dn P w K mg base "_law_hang" 3 ["_law_tower", "_law_row", "_law_name_here", "_law_first", "_law_wide", "_law_plain"] (sp_l_hang K cs)) (D__law_all_ring : Dn P w K mg base "_law_all_ring" 8 ["_law_tower", "_law_row", "_law_clean", "_law_begin", "_law_plain"] (sp_l_all_ring K cs)) (D__law_some_ring : Dn P w K mg base "_law_some_ring" 8 ["_law_tower", "_law_row", "_law_begin", "_law_plain", "_law_held", "_law_emptied"] (sp_l_some_ring K cs)) (D__law_name : Dn P w K mg base "_law_name" 1 ["_law_row", "_law_names_here", "_law_number", "_law_share"] (sp_l_name K cs)) (D__law_cell_at : Dn P w K mg base "_law_cell_at" 1 ["_law_script", "_law_k"] (sp_l_cell_at K cs)) : FnOk P w K mg base CX0 9 f fd ["_law_tower", "_law_row", "_law_clean", "_law_names_here", "_law_cell", "_law_script", "_law_held"] (sp_l_done K cs) := by
 refine F.ok sc_l_done (fun vs H Q E h => ?_) (fun cdv A outer s H vs Q E hr h => ?_)
 ·obtain ⟨t, d, r, c, hd, pn, a, bl, cn, ns, hs, cell, zs, rfl, _⟩ := h
  rfl
 ·obtain ⟨t, d, r, c, hd, pn, a, bl, cn, ns, hs, cell, zs, rfl, S, hb12, hpn, no, hS, hhd, hhl, hrh, hch, k⟩ := h
  obtain ⟨us, hr1, hrw⟩ := S.row
  have hul := Paired.length hrw
  have hbd := S.bd
  refine ⟨_, (pss_cons (ps_set (i := 7) sc_l_done.nd rfl (Or.inl rfl) (pe_op op_mod (pv 4) pe_int))
   (pss_cons (ps_set (i := 8) sc_l_done.nd rfl (Or.inl rfl) (pe_op op_fdivB (pv 4) pe_int))
   (pss_cons (ps_set (i := 9) sc_l_done.nd rfl (Or.inl rfl) (pe_op op_sub (pe_op op_mod (pe_op op_mulB (pe_op op_fdivB (pv 8) pe_int) pe_int) (pe_op op_add (pe_op op_mulB pe_int (pe_op op_pow pe_int pe_int)) pe_int)) (pe_op op_pow pe_int pe_int)))
   (pss_cons (ps_if (pt_cmpR op_eq (pe_op op_mod (pv 8) pe_int) pe_int (nomark _)) (pss_one (ps_set (i := 9) sc_l_done.nd rfl (Or.inl rfl) (pe_op op_sub (pe_op op_mod (pe_op op_fdivB (pv 8) pe_int) pe_int) pe_int))) pss_nil)
   (pss_cons (ps_set (i := 10) sc_l_done.nd rfl (Or.inl rfl) (pe_cmpR op_in_seq (pv 7) (pe_tup (pa_cons pe_int (pa_cons pe_int (pa_cons pe_int pa_nil)))) (by with_unfolding_all rfl)))
   (pss_cons (ps_if (pt_val (pv 10)) (pss_one (ps_set (i := 9) sc_l_done.nd rfl (Or.inl rfl) pe_int)) pss_nil)
   (pss_cons (ps_if (PW.pt (pw_or (pt_cmpR op_eq (pv 7) pe_int (nomark _)) (pw_or1 (PW.pt (pw_and (pt_cmpR op_lt (pv 7) pe_int (nomark _)) (pw_and1 (pt_cmpR op_ge (pe_callB call_len_seq rfl T.n_len bt_len (pa_cons (pv 1) pa_nil)) pe_int (nomark _)))))))) (pss_one (ps_ret (pe_fn D__law_take (hr.mono (by decide)) (pa_cons (pv 0) (pa_cons (pv 1) (pa_cons (pv 2) (pa_cons (pe_fn D__law_name (hr.mono (by decide)) (pa_cons (pv 1) (pa_cons (pv 3) (pa_cons (pv 8) (pa_cons pe_int pa_nil))))) pa_nil))))))) pss_nil)
   (pss_cons (ps_if (pt_cmpR op_lt (pv 7) pe_int (nomark _)) (pss_cons (ps_set (i := 11) sc_l_done.nd rfl (Or.inl rfl) (pe_fn D__law_gap (hr.mono (by decide)) (pa_cons (pe_op op_mod (pe_op op_mulB (pv 4) pe_int) (pe_op op_add (pe_op op_pow pe_int pe_int) pe_int)) pa_nil)))
   (pss_cons (ps_if (pt_val (pv 10)) (pss_one (ps_set (i := 11) sc_l_done.nd rfl (Or.inl rfl) pe_int)) pss_nil)
   (pss_cons (ps_set (i := 12) sc_l_done.nd rfl (Or.inl rfl) (pe_op op_mod (pe_op op_mulB (pv 8) pe_int) pe_int))
   (pss_cons (ps_set (i := 13) sc_l_done.nd rfl (Or.inl rfl) (pe_op op_add (pe_op op_sub (pe_op op_mod (pe_fn D__law_cell_at (hr.mono (by decide)) (pa_cons (pv 5) (pa_cons pe_int pa_nil))) (pe_op op_add (pe_op op_mulB pe_int (pe_op op_pow pe_int pe_int)) pe_int)) (pe_op op_pow pe_int pe_int)) (pe_op op_mulB (pv 11) (pe_op op_sub (pv 12) (pe_op op_pow pe_int pe_int)))))
   (pss_cons (ps_if (PW.pt (pw_and (pt_cmpR op_eq (pe_op op_mod (pe_fn D__law_cell_at (hr.mono (by decide)) (pa_cons (pv 5) (pa_cons pe_int pa_nil))) pe_int) pe_int (nomark _)) (pw_and1 (pt_cmpR op_eq (pe_op op_mod (pe_op op_fdivB (pv 12) pe_int) pe_int) pe_int (nomark _))))) (pss_one (ps_set (i := 13) sc_l_done.nd rfl (Or.inl rfl) (pe_op op_add (pe_op op_add (pv 13) pe_int) (pe_op op_mod (pe_op op_fdivB (pv 12) pe_int) pe_int)))) pss_nil)
   (pss_one (ps_ret (pe_fn D__law_hang (hr.mono (by decide)) (pa_cons (pv 0) (pa_cons (pv 1) (pa_cons (pe_fn D__law_name (hr.mono (by decide)) (pa_cons (pv 1) (pa_cons (pv 3) (pa_cons (pv 8) (pa_cons pe_int pa_nil))))) (pa_cons (pv 13) (pa_cons (pv 11) (pa_cons (pv 10) pa_nil)))))))))))))) pss_nil)
   (pss_cons (ps_if (PW.pt (pw_or (pt_cmpR op_eq (pv 7) pe_int (nomark _)) (pw_or1 (pt_cmpR op_eq (pv 7) pe_int (nomark _))))) (pss_one (ps_ret (pe_fn D__law_all_ring (hr.mono (by decide)) (pa_cons (pv 0) (pa_cons (pv 1) (pa_cons (pv 2) (pa_cons (pv 9) (pa_cons (pv 10) pa_nil)))))))) pss_nil)
   (pss_cons (ps_if (PW.pt (pw_or (pt_cmpR op_eq (pv 7) pe_int (nomark _)) (pw_or1 (pt_cmpR op_eq (pv 7) pe_int (nomark _))))) (pss_one (ps_ret (pe_fn D__law_some_ring (hr.mono (by decide)) (pa_cons (pv 0) (pa_cons (pv 1) (pa_cons (pv 9) (pa_cons (pv 10) (pa_cons (pv 6) (pa_cons (pe_cmpR op_eq (pe_op op_mod (pe_op op_fdivB (pv 8) pe_int) pe_int) pe_int (nomark _)) pa_nil))))))))) pss_nil)
   (pss_one (ps_ret (pe_fn D__law_bells (hr.mono (by decide)) (pa_cons (pv 0) (pa_cons (pv 1) (pa_cons (pv 6) (pa_cons (pe_cmpR op_eq (pe_op op_mod (pe_op op_fdivB (pv 8) pe_int) pe_int) pe_int (nomark _)) pa_nil))))))))))))))))), ?_⟩
  obtain ⟨⟨dx, h1⟩, ⟨kvs, hd1, hkv⟩, nd⟩ := id S.tw
  have nth : t ≠ hd := ne_of h1 hhd (by intro z; cases z)
  have ndh : d ≠ hd := ne_of hd1 hhd (by intro z; cases z)
  refine ⟨_, rfl, _, _, rfl, rfl, (by walk_at "sd"), ?_⟩
  refine ⟨_, rfl, _, _, rfl, rfl, (by walk_at "sd"), ?_⟩
  have mo1 : IntMulOk (cell / 10 / 3) 48271 := mulOk_r (by omega) (by omega)
  refine ⟨_, rfl, _, _, rfl, rfl, (by walk_at "sd"), _, _, rfl, rfl, (by walk_at "sd"), _, _, rfl, rfl, (by walk_at "sd"), _, _, rfl, rfl, (by walk_at "sd"), _, _, rfl, rfl, _, _, rfl, rfl, (by walk_at "sd"), _, _, rfl, rfl, (by walk_at "sd"), _, _, rfl, rfl, ?_⟩
  generalize cell / 10 / 3 * 48271 % (2 * 10 ^ (18 : Int).toNat + 1) - 10 ^ (18 : Int).toNat = m0
  refine ⟨_, rfl, _, _, rfl, rfl, (by walk_at "sd"), rfl, _, rfl, ?_⟩
  refine ite2 (fun h0 => ?_) (fun h0 => ?_)
  ·refine ⟨_, rfl, _, _, rfl, rfl, (by walk_at "sd"), _, _, rfl, rfl, (by walk_at "sd"), _, _, rfl, rfl, ?_⟩
   generalize cell / 10 / 3 % 2001 - 1000 = m1
   refine ⟨_, rfl, (by walk_at "sz"), fun p101 hp101 => ?_⟩
   refine ⟨_, _, rfl, .inr (SqT.of upd_same), rfl, rfl, ?_⟩
   have sT : Same H (upd H p101 (.tup [.int 2, .int 6, .int 7])) := Same.new hp101
   have ST : StAt cs.Tower (upd H p101 (.tup [.int 2, .int 6, .int 7])) t d r c bl cn := S.keep0 sT
   have hrT := sT _ _ hr1
   have hrwT := rwv_on sT.tups hrw
   have hpnT := sT _ _ hpn
   have hhT := sT _ _ hhd
   have hST := sT.sq hS
   generalize upd H p101 (.tup [.int 2, .int 6, .int 7]) = HT at *
   generalize (if false = true then !inV (V.int (cell % 10)) [V.int 2, V.int 6, V.int 7] else inV (V.int (cell % 10)) [V.int 2, V.int 6, V.int 7]) = pl
   refine ⟨_, rfl, _, rfl, ?_⟩
   cases pl with
   | true =>
    refine iteT ?_
    walk_at "ns"
    walk_at "l"
    refine ite2 (fun h3 => ?_) (fun h3 => ?_)
    ·walk_at "g"
     walk_at "n"
     ·have sH := sT.trans s2
      walk_at "d"
     ·walk_at "h"
      refine k _ cn' _ cf S2 (Nat.le_trans (List.length_eraseIdx_le ..) hb12) (.inl (ch2.1 _ _ hhT ?_))
      walk_at "i"
      exact ⟨ndh.symm, hrh.symm, hch.symm⟩
    ·walk_at "t"
     refine ite2 (fun hw => ?_) (fun hw => ?_)
     ·refine ⟨_, rfl, _, _, rfl, (by walk_at "ln"), _, _, rfl, rfl, _, rfl, ?_⟩
      refine ite2 (fun h12 => ?_) (fun h12 => ?_)
      ·walk_at "g"
       walk_at "n"
       ·have sH := sT.trans s2
        walk_at "d"
       ·walk_at "h"
        refine k _ cn' _ cf S2 (Nat.le_trans (List.length_eraseIdx_le ..) hb12) (.inl (ch2.1 _ _ hhT ?_))
        walk_at "i"
        exact ⟨ndh.symm, hrh.symm, hch.symm⟩
      ·have hlt : bl.length < 12 := by have := b_not h12; omega
       walk_at "t"
       refine iteDT (b_of hw) ?_
       have mo3 : IntMulOk cell 48271 := mulOk_r (by omega) (by omega)
       refine ⟨_, rfl, _, _, rfl, rfl, (by walk_at "sd"), _, _, rfl, rfl, (by walk_at "sd"), _, _, rfl, rfl, _, _, rfl, rfl, (by walk_at "sd"), _, rfl, fun g301 H301 sm301 ge301 gl301 => ?_⟩
       have sG : Same H H301 := sT.trans sm301
       have SG : StAt cs.Tower H301 t d r c bl cn := S.keep0 sG
       have hrG := sG _ _ hr1
       have hrwG := rwv_on sG.tups hrw
       have hpnG := sG _ _ hpn
       have hSG := sG.sq hS
       walk_at "ns"
       refine ⟨_, rfl, _, rfl, ?_⟩
       refine iteT ?_
       obtain ⟨g, hg24⟩ : ∃ g : Int, g = 24 := ⟨24, rfl⟩
       rw [← hg24]
       have gB : -1000000000 ≤ g ∧ g ≤ 1000000000 := by omega
       have gP : true = true → g = 24 := fun _ => hg24
       have mo4 : IntMulOk (cell / 10) 69621 := mulOk_r (by omega) (by omega)
       refine ⟨_, rfl, _, _, rfl, rfl, (by walk_at "sd"), _, _, rfl, rfl, (by walk_at "sd"), ?_⟩
       have mo5 : IntMulOk g (cell / 10 * 69621 % 2147483629 - 10 ^ (9 : Int).toNat) := mulOk_l (by omega) (by omega)
       refine ⟨_, rfl, _, _, _, rfl, ‹_›, (by walk_at "sd"), fun c302 => ?_⟩
       walk_at "m"
       generalize c302 % (2 * 10 ^ (18 : Int).toNat + 1) - 10 ^ (18 : Int).toNat + g * (cell / 10 * 69621 % 2147483629 - 10 ^ (9 : Int).toNat) = f1
       walk_at "ns"
       refine ⟨_, rfl, _, _, _, rfl, ‹_›, (by walk_at "sd"), fun c303 => ?_⟩
       refine ⟨_, _, rfl, rfl, (by walk_at "sd"), rfl, _, rfl, ?_⟩
       refine ite2 (fun ha => ?_) (fun ha => ?_)
       ·refine ⟨_, rfl, _, _, rfl, rfl, (by walk_at "sd"), _, _, rfl, rfl, (by walk_at "sd"), rfl, _, rfl, ?_⟩
        refine ite2 (fun hb => ?_) (fun hb => ?_)
        ·refine ⟨_, rfl, _, _, rfl, rfl, _, rfl, _, _, rfl, rfl, (by walk_at "sd"), _, _, rfl, rfl, (by walk_at "sd"), _, _, rfl, rfl, ?_⟩
         generalize f1 + 1 + cell / 10 * 69621 % 2147483629 / 128 % 5 = f2
         walk_at "ns"
         walk_at "a"
         refine ⟨_, rfl, _, rfl, _, rfl, ?_⟩
         walk_at "e"
         ·have sH := sG.trans s2
          walk_at "d"
         ·have hg0 : 0 < g := by omega
          walk_at "q"
          walk_at "b"
          walk_at "i"
          exact ⟨ndh.symm, hrh.symm⟩
        ·walk_at "ns"
         walk_at "a"
         refine ⟨_, rfl, _, rfl, _, rfl, ?_⟩
         walk_at "e"
         ·have sH := sG.trans s2
          walk_at "d"
         ·have hg0 : 0 < g := by omega
          walk_at "q"
          walk_at "b"
          walk_at "i"
          exact ⟨ndh.symm, hrh.symm⟩
       ·walk_at "ns"
        walk_at "a"
        refine ⟨_, rfl, _, rfl, _, rfl, ?_⟩
        walk_at "e"
        ·have sH := sG.trans s2
         walk_at "d"
        ·have hg0 : 0 < g := by omega
         walk_at "q"
         walk_at "b"
         walk_at "i"
         exact ⟨ndh.symm, hrh.symm⟩
     ·walk_at "t"
      refine iteD (b_not hw) ?_
      walk_at "l"
      refine ite2 (fun h4 => ?_) (fun h4 => ?_)
      ·refine ⟨_, rfl, _, rfl, _, rfl, _, rfl, _, rfl, ?_⟩
       refine ⟨t, d, r, c, bl, cn, _, _, rfl, ST, by omega, (fun _ => rfl), fun cn' H2 ch2 S2 => ?_⟩
       walk_at "o"
      ·walk_at "l"
       refine ite2 (fun h6 => ?_) (fun h6 => ?_)
       ·refine ⟨_, rfl, _, rfl, _, rfl, _, rfl, _, rfl, ?_⟩
        refine ⟨t, d, r, c, bl, cn, _, _, rfl, ST, by omega, (fun _ => rfl), fun cn' H2 ch2 S2 => ?_⟩
        walk_at "o"
       ·walk_at "l"
        refine ite2 (fun h5 => ?_) (fun h5 => ?_)
        ·walk_at "j"
         refine ⟨t, d, r, hd, us, hs, bl, _, _, _, rfl, ST.tw, hrT, hrwT, hbd, by omega, (fun _ => rfl), hhT, by omega, hrh, fun _ H2 s2 => ?_, fun _ u H2 ch2 hh2 nh => ?_⟩
         ·have sH := sT.trans s2
          walk_at "d"
         ·walk_at "p"
          walk_at "c"
        ·walk_at "l"
         refine ite2 (fun h7 => ?_) (fun h7 => ?_)
         ·walk_at "j"
          refine ⟨t, d, r, hd, us, hs, bl, _, _, _, rfl, ST.tw, hrT, hrwT, hbd, by omega, (fun _ => rfl), hhT, by omega, hrh, fun _ H2 s2 => ?_, fun _ u H2 ch2 hh2 nh => ?_⟩
          ·have sH := sT.trans s2
           walk_at "d"
          ·walk_at "p"
           walk_at "c"
         ·refine ⟨_, rfl, _, rfl, _, rfl, _, rfl, _, _, rfl, rfl, (by walk_at "sd"), _, _, rfl, rfl, (by walk_at "sd"), rfl, ?_⟩
          refine ⟨t, d, r, hd, us, hs, bl, _, rfl, ST.tw, hrT, hrwT, by omega, hhT, by omega, fun u H2 ch2 hh2 nh => ?_⟩
          walk_at "p"
          walk_at "c"
   | false =>
    refine iteF ?_
    walk_at "ns"
    walk_at "l"
    refine ite2 (fun h3 => ?_) (fun h3 => ?_)
    ·walk_at "g"
     walk_at "n"
     ·have sH := sT.trans s2
      walk_at "d"
     ·walk_at "h"
      refine k _ cn' _ cf S2 (Nat.le_trans (List.length_eraseIdx_le ..) hb12) (.inl (ch2.1 _ _ hhT ?_))
      walk_at "i"
      exact ⟨ndh.symm, hrh.symm, hch.symm⟩
    ·walk_at "t"
     refine ite2 (fun hw => ?_) (fun hw => ?_)
     ·refine ⟨_, rfl, _, _, rfl, (by walk_at "ln"), _, _, rfl, rfl, _, rfl, ?_⟩
      refine ite2 (fun h12 => ?_) (fun h12 => ?_)
      ·walk_at "g"
       walk_at "n"
       ·have sH := sT.trans s2
        walk_at "d"
       ·walk_at "h"
        refine k _ cn' _ cf S2 (Nat.le_trans (List.length_eraseIdx_le ..) hb12) (.inl (ch2.1 _ _ hhT ?_))
        walk_at "i"
        exact ⟨ndh.symm, hrh.symm, hch.symm⟩
      ·have hlt : bl.length < 12 := by have := b_not h12; omega
       walk_at "t"
       refine iteDT (b_of hw) ?_
       have mo3 : IntMulOk cell 48271 := mulOk_r (by omega) (by omega)
       refine ⟨_, rfl, _, _, rfl, rfl, (by walk_at "sd"), _, _, rfl, rfl, (by walk_at "sd"), _, _, rfl, rfl, _, _, rfl, rfl, (by walk_at "sd"), _, rfl, fun g301 H301 sm301 ge301 gl301 => ?_⟩
       have sG : Same H H301 := sT.trans sm301
       have SG : StAt cs.Tower H301 t d r c bl cn := S.keep0 sG
       have hrG := sG _ _ hr1
       have hrwG := rwv_on sG.tups hrw
       have hpnG := sG _ _ hpn
       have hSG := sG.sq hS
       walk_at "ns"
       refine ⟨_, rfl, _, rfl, ?_⟩
       refine iteF ?_
       obtain ⟨g, hgg⟩ : ∃ g : Int, g = g301 := ⟨g301, rfl⟩
       rw [← hgg]
       have gB : -1000000000 ≤ g ∧ g ≤ 1000000000 := by omega
       have gP : false = true → g = 24 := fun z => nomatch z
       have mo4 : IntMulOk (cell / 10) 69621 := mulOk_r (by omega) (by omega)
       refine ⟨_, rfl, _, _, rfl, rfl, (by walk_at "sd"), _, _, rfl, rfl, (by walk_at "sd"), ?_⟩
       have mo5 : IntMulOk g (cell / 10 * 69621 % 2147483629 - 10 ^ (9 : Int).toNat) := mulOk_l (by omega) (by omega)
       refine ⟨_, rfl, _, _, _, rfl, ‹_›, (by walk_at "sd"), fun c302 => ?_⟩
       walk_at "m"
       generalize c302 % (2 * 10 ^ (18 : Int).toNat + 1) - 10 ^ (18 : Int).toNat + g * (cell / 10 * 69621 % 2147483629 - 10 ^ (9 : Int).toNat) = f1
       walk_at "ns"
       refine ⟨_, rfl, _, _, _, rfl, ‹_›, (by walk_at "sd"), fun c303 => ?_⟩
       refine ⟨_, _, rfl, rfl, (by walk_at "sd"), rfl, _, rfl, ?_⟩
       refine ite2 (fun ha => ?_) (fun ha => ?_)
       ·refine ⟨_, rfl, _, _, rfl, rfl, (by walk_at "sd"), _, _, rfl, rfl, (by walk_at "sd"), rfl, _, rfl, ?_⟩
        refine ite2 (fun hb => ?_) (fun hb => ?_)
        ·refine ⟨_, rfl, _, _, rfl, rfl, _, rfl, _, _, rfl, rfl, (by walk_at "sd"), _, _, rfl, rfl, (by walk_at "sd"), _, _, rfl, rfl, ?_⟩
         generalize f1 + 1 + cell / 10 * 69621 % 2147483629 / 128 % 5 = f2
         walk_at "ns"
         walk_at "a"
         refine ⟨_, rfl, _, rfl, _, rfl, ?_⟩
         walk_at "e"
         ·have sH := sG.trans s2
          walk_at "d"
         ·have hg0 : 0 < g := by omega
          walk_at "q"
          walk_at "b"
          walk_at "i"
          exact ⟨ndh.symm, hrh.symm⟩
        ·walk_at "ns"
         walk_at "a"
         refine ⟨_, rfl, _, rfl, _, rfl, ?_⟩
         walk_at "e"
         ·have sH := sG.trans s2
          walk_at "d"
         ·have hg0 : 0 < g := by omega
          walk_at "q"
          walk_at "b"
          walk_at "i"
          exact ⟨ndh.symm, hrh.symm⟩
       ·walk_at "ns"
        walk_at "a"
        refine ⟨_, rfl, _, rfl, _, rfl, ?_⟩
        walk_at "e"
        ·have sH := sG.trans s2
         walk_at "d"
        ·have hg0 : 0 < g := by omega
         walk_at "q"
         walk_at "b"
         walk_at "i"
         exact ⟨ndh.symm, hrh.symm⟩
     ·walk_at "t"
      refine iteD (b_not hw) ?_
      walk_at "l"
      refine ite2 (fun h4 => ?_) (fun h4 => ?_)
      ·refine ⟨_, rfl, _, rfl, _, rfl, _, rfl, _, rfl, ?_⟩
       refine ⟨t, d, r, c, bl, cn, _, _, rfl, ST, by omega, (fun z => nomatch z), fun cn' H2 ch2 S2 => ?_⟩
       walk_at "o"
      ·walk_at "l"
       refine ite2 (fun h6 => ?_) (fun h6 => ?_)
       ·refine ⟨_, rfl, _, rfl, _, rfl, _, rfl, _, rfl, ?_⟩
        refine ⟨t, d, r, c, bl, cn, _, _, rfl, ST, by omega, (fun z => nomatch z), fun cn' H2 ch2 S2 => ?_⟩
        walk_at "o"
       ·walk_at "l"
        refine ite2 (fun h5 => ?_) (fun h5 => ?_)
        ·walk_at "j"
         refine ⟨t, d, r, hd, us, hs, bl, _, _, _, rfl, ST.tw, hrT, hrwT, hbd, by omega, (fun z => nomatch z), hhT, by omega, hrh, fun _ H2 s2 => ?_, fun _ u H2 ch2 hh2 nh => ?_⟩
         ·have sH := sT.trans s2
          walk_at "d"
         ·walk_at "p"
          walk_at "c"
        ·walk_at "l"
         refine ite2 (fun h7 => ?_) (fun h7 => ?_)
         ·walk_at "j"
          refine ⟨t, d, r, hd, us, hs, bl, _, _, _, rfl, ST.tw, hrT, hrwT, hbd, by omega, (fun z => nomatch z), hhT, by omega, hrh, fun _ H2 s2 => ?_, fun _ u H2 ch2 hh2 nh => ?_⟩
          ·have sH := sT.trans s2
           walk_at "d"
          ·walk_at "p"
           walk_at "c"
         ·refine ⟨_, rfl, _, rfl, _, rfl, _, rfl, _, _, rfl, rfl, (by walk_at "sd"), _, _, rfl, rfl, (by walk_at "sd"), rfl, ?_⟩
          refine ⟨t, d, r, hd, us, hs, bl, _, rfl, ST.tw, hrT, hrwT, by omega, hhT, by omega, fun u H2 ch2 hh2 nh => ?_⟩
          walk_at "p"
          walk_at "c"
  ·refine ⟨_, rfl, (by walk_at "sz"), fun p101 hp101 => ?_⟩
   refine ⟨_, _, rfl, .inr (SqT.of upd_same), rfl, rfl, ?_⟩
   have sT : Same H (upd H p101 (.tup [.int 2, .int 6, .int 7])) := Same.new hp101
   have ST : StAt cs.Tower (upd H p101 (.tup [.int 2, .int 6, .int 7])) t d r c bl cn := S.keep0 sT
   have hrT := sT _ _ hr1
   have hrwT := rwv_on sT.tups hrw
   have hpnT := sT _ _ hpn
   have hhT := sT _ _ hhd
   have hST := sT.sq hS
   generalize upd H p101 (.tup [.int 2, .int 6, .int 7]) = HT at *
   generalize (if false = true then !inV (V.int (cell % 10)) [V.int 2, V.int 6, V.int 7] else inV (V.int (cell % 10)) [V.int 2, V.int 6, V.int 7]) = pl
   refine ⟨_, rfl, _, rfl, ?_⟩
   cases pl with
   | true =>
    refine iteT ?_
    walk_at "ns"
    walk_at "l"
    refine ite2 (fun h3 => ?_) (fun h3 => ?_)
    ·walk_at "g"
     walk_at "n"
     ·have sH := sT.trans s2
      walk_at "d"
     ·walk_at "h"
      refine k _ cn' _ cf S2 (Nat.le_trans (List.length_eraseIdx_le ..) hb12) (.inl (ch2.1 _ _ hhT ?_))
      walk_at "i"
      exact ⟨ndh.symm, hrh.symm, hch.symm⟩
    ·walk_at "t"
     refine ite2 (fun hw => ?_) (fun hw => ?_)
     ·refine ⟨_, rfl, _, _, rfl, (by walk_at "ln"), _, _, rfl, rfl, _, rfl, ?_⟩
      refine ite2 (fun h12 => ?_) (fun h12 => ?_)
      ·walk_at "g"
       walk_at "n"
       ·have sH := sT.trans s2
        walk_at "d"
       ·walk_at "h"
        refine k _ cn' _ cf S2 (Nat.le_trans (List.length_eraseIdx_le ..) hb12) (.inl (ch2.1 _ _ hhT ?_))
        walk_at "i"
        exact ⟨ndh.symm, hrh.symm, hch.symm⟩
      ·have hlt : bl.length < 12 := by have := b_not h12; omega
       walk_at "t"
       refine iteDT (b_of hw) ?_
       have mo3 : IntMulOk cell 48271 := mulOk_r (by omega) (by omega)
       refine ⟨_, rfl, _, _, rfl, rfl, (by walk_at "sd"), _, _, rfl, rfl, (by walk_at "sd"), _, _, rfl, rfl, _, _, rfl, rfl, (by walk_at "sd"), _, rfl, fun g301 H301 sm301 ge301 gl301 => ?_⟩
       have sG : Same H H301 := sT.trans sm301
       have SG : StAt cs.Tower H301 t d r c bl cn := S.keep0 sG
       have hrG := sG _ _ hr1
       have hrwG := rwv_on sG.tups hrw
       have hpnG := sG _ _ hpn
       have hSG := sG.sq hS
       walk_at "ns"
       refine ⟨_, rfl, _, rfl, ?_⟩
       refine iteT ?_
       obtain ⟨g, hg24⟩ : ∃ g : Int, g = 24 := ⟨24, rfl⟩
       rw [← hg24]
       have gB : -1000000000 ≤ g ∧ g ≤ 1000000000 := by omega
       have gP : true = true → g = 24 := fun _ => hg24
       have mo4 : IntMulOk (cell / 10) 69621 := mulOk_r (by omega) (by omega)
       refine ⟨_, rfl, _, _, rfl, rfl, (by walk_at "sd"), _, _, rfl, rfl, (by walk_at "sd"), ?_⟩
       have mo5 : IntMulOk g (cell / 10 * 69621 % 2147483629 - 10 ^ (9 : Int).toNat) := mulOk_l (by omega) (by omega)
       refine ⟨_, rfl, _, _, _, rfl, ‹_›, (by walk_at "sd"), fun c302 => ?_⟩
       walk_at "m"
       generalize c302 % (2 * 10 ^ (18 : Int).toNat + 1) - 10 ^ (18 : Int).toNat + g * (cell / 10 * 69621 % 2147483629 - 10 ^ (9 : Int).toNat) = f1
       walk_at "ns"
       refine ⟨_, rfl, _, _, _, rfl, ‹_›, (by walk_at "sd"), fun c303 => ?_⟩
       refine ⟨_, _, rfl, rfl, (by walk_at "sd"), rfl, _, rfl, ?_⟩
       refine ite2 (fun ha => ?_) (fun ha => ?_)
       ·refine ⟨_, rfl, _, _, rfl, rfl, (by walk_at "sd"), _, _, rfl, rfl, (by walk_at "sd"), rfl, _, rfl, ?_⟩
        refine ite2 (fun hb => ?_) (fun hb => ?_)
        ·refine ⟨_, rfl, _, _, rfl, rfl, _, rfl, _, _, rfl, rfl, (by walk_at "sd"), _, _, rfl, rfl, (by walk_at "sd"), _, _, rfl, rfl, ?_⟩
         generalize f1 + 1 + cell / 10 * 69621 % 2147483629 / 128 % 5 = f2
         walk_at "ns"
         walk_at "a"
         refine ⟨_, rfl, _, rfl, _, rfl, ?_⟩
         walk_at "e"
         ·have sH := sG.trans s2
          walk_at "d"
         ·have hg0 : 0 < g := by omega
          walk_at "q"
          walk_at "b"
          walk_at "i"
          exact ⟨ndh.symm, hrh.symm⟩
        ·walk_at "ns"
         walk_at "a"
         refine ⟨_, rfl, _, rfl, _, rfl, ?_⟩
         walk_at "e"
         ·have sH := sG.trans s2
          walk_at "d"
         ·have hg0 : 0 < g := by omega
          walk_at "q"
          walk_at "b"
          walk_at "i"
          exact ⟨ndh.symm, hrh.symm⟩
       ·walk_at "ns"
        walk_at "a"
        refine ⟨_, rfl, _, rfl, _, rfl, ?_⟩
        walk_at "e"
        ·have sH := sG.trans s2
         walk_at "d"
        ·have hg0 : 0 < g := by omega
         walk_at "q"
         walk_at "b"
         walk_at "i"
         exact ⟨ndh.symm, hrh.symm⟩
     ·walk_at "t"
      refine iteD (b_not hw) ?_
      walk_at "l"
      refine ite2 (fun h4 => ?_) (fun h4 => ?_)
      ·refine ⟨_, rfl, _, rfl, _, rfl, _, rfl, _, rfl, ?_⟩
       refine ⟨t, d, r, c, bl, cn, _, _, rfl, ST, by omega, (fun _ => rfl), fun cn' H2 ch2 S2 => ?_⟩
       walk_at "o"
      ·walk_at "l"
       refine ite2 (fun h6 => ?_) (fun h6 => ?_)
       ·refine ⟨_, rfl, _, rfl, _, rfl, _, rfl, _, rfl, ?_⟩
        refine ⟨t, d, r, c, bl, cn, _, _, rfl, ST, by omega, (fun _ => rfl), fun cn' H2 ch2 S2 => ?_⟩
        walk_at "o"
       ·walk_at "l"
        refine ite2 (fun h5 => ?_) (fun h5 => ?_)
        ·walk_at "j"
         refine ⟨t, d, r, hd, us, hs, bl, _, _, _, rfl, ST.tw, hrT, hrwT, hbd, by omega, (fun _ => rfl), hhT, by omega, hrh, fun _ H2 s2 => ?_, fun _ u H2 ch2 hh2 nh => ?_⟩
         ·have sH := sT.trans s2
          walk_at "d"
         ·walk_at "p"
          walk_at "c"
        ·walk_at "l"
         refine ite2 (fun h7 => ?_) (fun h7 => ?_)
         ·walk_at "j"
          refine ⟨t, d, r, hd, us, hs, bl, _, _, _, rfl, ST.tw, hrT, hrwT, hbd, by omega, (fun _ => rfl), hhT, by omega, hrh, fun _ H2 s2 => ?_, fun _ u H2 ch2 hh2 nh => ?_⟩
          ·have sH := sT.trans s2
           walk_at "d"
          ·walk_at "p"
           walk_at "c"
         ·refine ⟨_, rfl, _, rfl, _, rfl, _, rfl, _, _, rfl, rfl, (by walk_at "sd"), _, _, rfl, rfl, (by walk_at "sd"), rfl, ?_⟩
          refine ⟨t, d, r, hd, us, hs, bl, _, rfl, ST.tw, hrT, hrwT, by omega, hhT, by omega, fun u H2 ch2 hh2 nh => ?_⟩
          walk_at "p"
          walk_at "c"
   | false =>
    refine iteF ?_
    walk_at "ns"
    walk_at "l"
    refine ite2 (fun h3 => ?_) (fun h3 => ?_)
    ·walk_at "g"
     walk_at "n"
     ·have sH := sT.trans s2
      walk_at "d"
     ·walk_at "h"
      refine k _ cn' _ cf S2 (Nat.le_trans (List.length_eraseIdx_le ..) hb12) (.inl (ch2.1 _ _ hhT ?_))
      walk_at "i"
      exact ⟨ndh.symm, hrh.symm, hch.symm⟩
    ·walk_at "t"
     refine ite2 (fun hw => ?_) (fun hw => ?_)
     ·refine ⟨_, rfl, _, _, rfl, (by walk_at "ln"), _, _, rfl, rfl, _, rfl, ?_⟩
      refine ite2 (fun h12 => ?_) (fun h12 => ?_)
      ·walk_at "g"
       walk_at "n"
       ·have sH := sT.trans s2
        walk_at "d"
       ·walk_at "h"
        refine k _ cn' _ cf S2 (Nat.le_trans (List.length_eraseIdx_le ..) hb12) (.inl (ch2.1 _ _ hhT ?_))
        walk_at "i"
        exact ⟨ndh.symm, hrh.symm, hch.symm⟩
      ·have hlt : bl.length < 12 := by have := b_not h12; omega
       walk_at "t"
       refine iteDT (b_of hw) ?_
       have mo3 : IntMulOk cell 48271 := mulOk_r (by omega) (by omega)
       refine ⟨_, rfl, _, _, rfl, rfl, (by walk_at "sd"), _, _, rfl, rfl, (by walk_at "sd"), _, _, rfl, rfl, _, _, rfl, rfl, (by walk_at "sd"), _, rfl, fun g301 H301 sm301 ge301 gl301 => ?_⟩
       have sG : Same H H301 := sT.trans sm301
       have SG : StAt cs.Tower H301 t d r c bl cn := S.keep0 sG
       have hrG := sG _ _ hr1
       have hrwG := rwv_on sG.tups hrw
       have hpnG := sG _ _ hpn
       have hSG := sG.sq hS
       walk_at "ns"
       refine ⟨_, rfl, _, rfl, ?_⟩
       refine iteF ?_
       obtain ⟨g, hgg⟩ : ∃ g : Int, g = g301 := ⟨g301, rfl⟩
       rw [← hgg]
       have gB : -1000000000 ≤ g ∧ g ≤ 1000000000 := by omega
       have gP : false = true → g = 24 := fun z => nomatch z
       have mo4 : IntMulOk (cell / 10) 69621 := mulOk_r (by omega) (by omega)
       refine ⟨_, rfl, _, _, rfl, rfl, (by walk_at "sd"), _, _, rfl, rfl, (by walk_at "sd"), ?_⟩
       have mo5 : IntMulOk g (cell / 10 * 69621 % 2147483629 - 10 ^ (9 : Int).toNat) := mulOk_l (by omega) (by omega)
       refine ⟨_, rfl, _, _, _, rfl, ‹_›, (by walk_at "sd"), fun c302 => ?_⟩
       walk_at "m"
       generalize c302 % (2 * 10 ^ (18 : Int).toNat + 1) - 10 ^ (18 : Int).toNat + g * (cell / 10 * 69621 % 2147483629 - 10 ^ (9 : Int).toNat) = f1
       walk_at "ns"
       refine ⟨_, rfl, _, _, _, rfl, ‹_›, (by walk_at "sd"), fun c303 => ?_⟩
       refine ⟨_, _, rfl, rfl, (by walk_at "sd"), rfl, _, rfl, ?_⟩
       refine ite2 (fun ha => ?_) (fun ha => ?_)
       ·refine ⟨_, rfl, _, _, rfl, rfl, (by walk_at "sd"), _, _, rfl, rfl, (by walk_at "sd"), rfl, _, rfl, ?_⟩
        refine ite2 (fun hb => ?_) (fun hb => ?_)
        ·refine ⟨_, rfl, _, _, rfl, rfl, _, rfl, _, _, rfl, rfl, (by walk_at "sd"), _, _, rfl, rfl, (by walk_at "sd"), _, _, rfl, rfl, ?_⟩
         generalize f1 + 1 + cell / 10 * 69621 % 2147483629 / 128 % 5 = f2
         walk_at "ns"
         walk_at "a"
         refine ⟨_, rfl, _, rfl, _, rfl, ?_⟩
         walk_at "e"
         ·have sH := sG.trans s2
          walk_at "d"
         ·have hg0 : 0 < g := by omega
          walk_at "q"
          walk_at "b"
          walk_at "i"
          exact ⟨ndh.symm, hrh.symm⟩
        ·walk_at "ns"
         walk_at "a"
         refine ⟨_, rfl, _, rfl, _, rfl, ?_⟩
         walk_at "e"
         ·have sH := sG.trans s2
          walk_at "d"
         ·have hg0 : 0 < g := by omega
          walk_at "q"
          walk_at "b"
          walk_at "i"
          exact ⟨ndh.symm, hrh.symm⟩
       ·walk_at "ns"
        walk_at "a"
        refine ⟨_, rfl, _, rfl, _, rfl, ?_⟩
        walk_at "e"
        ·have sH := sG.trans s2
         walk_at "d"
        ·have hg0 : 0 < g := by omega
         walk_at "q"
         walk_at "b"
         walk_at "i"
         exact ⟨ndh.symm, hrh.symm⟩
     ·walk_at "t"
      refine iteD (b_not hw) ?_
      walk_at "l"
      refine ite2 (fun h4 => ?_) (fun h4 => ?_)
      ·refine ⟨_, rfl, _, rfl, _, rfl, _, rfl, _, rfl, ?_⟩
       refine ⟨t, d, r, c, bl, cn, _, _, rfl, ST, by omega, (fun z => nomatch z), fun cn' H2 ch2 S2 => ?_⟩
       walk_at "o"
      ·walk_at "l"
       refine ite2 (fun h6 => ?_) (fun h6 => ?_)
       ·refine ⟨_, rfl, _, rfl, _, rfl, _, rfl, _, rfl, ?_⟩
        refine ⟨t, d, r, c, bl, cn, _, _, rfl, ST, by omega, (fun z => nomatch z), fun cn' H2 ch2 S2 => ?_⟩
        walk_at "o"
       ·walk_at "l"
        refine ite2 (fun h5 => ?_) (fun h5 => ?_)
        ·walk_at "j"
         refine ⟨t, d, r, hd, us, hs, bl, _, _, _, rfl, ST.tw, hrT, hrwT, hbd, by omega, (fun z => nomatch z), hhT, by omega, hrh, fun _ H2 s2 => ?_, fun _ u H2 ch2 hh2 nh => ?_⟩
         ·have sH := sT.trans s2
          walk_at "d"
         ·walk_at "p"
          walk_at "c"
        ·walk_at "l"
         refine ite2 (fun h7 => ?_) (fun h7 => ?_)
         ·walk_at "j"
          refine ⟨t, d, r, hd, us, hs, bl, _, _, _, rfl, ST.tw, hrT, hrwT, hbd, by omega, (fun z => nomatch z), hhT, by omega, hrh, fun _ H2 s2 => ?_, fun _ u H2 ch2 hh2 nh => ?_⟩
          ·have sH := sT.trans s2
           walk_at "d"
          ·walk_at "p"
           walk_at "c"
         ·refine ⟨_, rfl, _, rfl, _, rfl, _, rfl, _, _, rfl, rfl, (by walk_at "sd"), _, _, rfl, rfl, (by walk_at "sd"), rfl, ?_⟩
          refine ⟨t, d, r, hd, us, hs, bl, _, rfl, ST.tw, hrT, hrwT, by omega, hhT, by omega, fun u H2 ch2 hh2 nh => ?_⟩
          walk_at "p"
          walk_at "c"
theorem sc_l_new_name : FnScope ["_law_row", "_law_names_here", "_law_hung"] ["_law_row", "_law_names_here"] (defScope s_l_new_name) := ⟨rfl, rfl, rfl, by decide +kernel, rfl, by decide +kernel, by decide +kernel⟩
set_option maxHeartbeats 4000000 in
theorem ok_l_new_name {f : Addr} {fd : FuncData} {cs : Cls} (F : Fun K "_law_new_name" "_law_new_name" s_l_new_name f fd) (T : Txt K mg cs)  : FnOk P w K mg base CX0 1 f fd ["_law_row", "_law_names_here"] (sp_l_new_name K cs) := by
 refine F.ok sc_l_new_name (fun vs H Q E h => ?_) (fun cdv A outer s H vs Q E hr h => ?_)
 ·obtain ⟨r, pn, us, bl, ns, rfl, _⟩ := h
  rfl
 ·obtain ⟨r, pn, us, bl, ns, rfl, hr1, hrw, hl, hn, no, k⟩ := h
  have hul := Paired.length hrw
  refine ⟨_, (pss_cons (ps_set (i := 2) sc_l_new_name.nd rfl (Or.inr rfl) (pe_comp rfl (pi_list (pv 0)) (by refine ⟨rfl, by decide +kernel, rfl, by decide +kernel, rfl, (List.forall_mem_nil _), rfl, cap_nil, by decide +kernel, rfl⟩ : CompOk _ _ _ "_law_one" [] []) (fun _ _ _ => (pe_ix (ix_tupK (K := K) rfl) (pv 0) pe_int (fun _ _ => rfl)))))
   (pss_one (ps_ret (pe_ix ix_list (pe_compT rfl (pi_list (pv 1)) (by refine ⟨rfl, by decide +kernel, rfl, by decide +kernel, rfl, (List.forall_mem_cons.mpr ⟨rfl, List.forall_mem_nil _⟩), rfl, (cap_cons ⟨rfl, rfl, rfl, rfl⟩ cap_nil), by decide +kernel, rfl⟩ : CompOk _ _ _ "_law_name_here" ["_law_hung"] [2]) (fun _ _ _ => (pt_cmpR (op_notInK (K := K) rfl) (pv 0) (pv 1) (by with_unfolding_all rfl))) (fun _ _ _ => (pv 0))) pe_int (fun _ _ => rfl))))), ?_⟩
  refine ⟨_, rfl, _, rfl, ⟨_, SqL.of hr1⟩, ?_⟩
  refine fun D hD => ?_
  refine comp_list (xs := us) (fun i ys HC => Same H HC ∧ HC D = some (.lst ys) ∧ ys = (bl.take i).map fun b => V.str b.1) ⟨Same.new hD, upd_same, rfl⟩ (fun i ys HC hi ⟨q1, q2, q3⟩ => ⟨SqL.of (q1 _ _ hr1), q2, by rw [q3]; exact small1000 (by simp; omega)⟩) ?_ ?_
  ·rintro i v ys HC hv ⟨q1, q2, q3⟩
   obtain ⟨b, eb, p, q, rfl, hp, hq⟩ := paired_get hrw hv
   have hp' := q1 _ _ hp
   walk_at "k"
   walk_at "s"
  ·rintro ys HC ⟨q1, q2, q3⟩
   rw [List.take_of_length_le (by omega)] at q3
   have hn1 := q1 _ _ hn
   refine ⟨_, rfl, _, rfl, ⟨_, SqL.of hn1⟩, ?_⟩
   refine fun D2 hD2 => ?_
   have hfl : ys.all flatV = true := by
    rw [q3, List.all_map]
    exact List.all_eq_true.mpr fun _ _ => rfl
   refine compT_list (xs := ns.map V.str) (fun i zs HE => Same HC HE ∧ HE D2 = some (.lst zs) ∧ zs = ((ns.take i).filter fun n => decide (n ∉ bl.map (·.1))).map V.str) ⟨Same.new hD2, upd_same, rfl⟩ (fun i zs HE hi ⟨r1, r2, r3⟩ => ⟨SqL.of (r1 _ _ hn1), r2, by rw [r3, List.length_map]; exact small1000 (Nat.le_trans (List.length_filter_le ..) (by have := no.few; simp; omega))⟩) ?_ ?_
   ·rintro i v zs HE N hv ⟨r1, r2, r3⟩ hN
    rw [List.getElem?_map] at hv
    obtain ⟨n, en, rfl⟩ := Option.map_eq_some_iff.mp hv
    have q2' := r1 _ _ q2
    have et : ns.take (i + 1) = ns.take i ++ [n] := KM.take_snoc en
    refine ⟨_, rfl, _, rfl, _, _, rfl, .inl (SqL.of q2'), rfl, hfl, _, rfl, ?_⟩
    walk_at "r"
    rw [ein]
    by_cases hin : n ∈ bl.map (·.1)
    ·rw [decide_eq_true hin]
     refine iteF ?_
     exact hN _ _ ⟨r1, r2, by rw [r3, et, List.filter_append]; simp [hin]⟩
    ·rw [decide_eq_false hin]
     refine iteT ?_
     refine ⟨_, rfl, ?_⟩
     exact ⟨r2, hN _ _ ⟨r1.own hD2, upd_same, by rw [r3, et, List.filter_append]; simp [hin]⟩⟩
   ·rintro zs HE ⟨r1, r2, r3⟩
    rw [List.length_map, List.take_of_length_le (Nat.le_refl _)] at r3
    obtain ⟨n, hnf, hnb⟩ := new_name no hl
    obtain ⟨m, rest, em'⟩ : ∃ m rest, (ns.filter fun n => decide (n ∉ bl.map (·.1))) = m :: rest := by
     cases e : (ns.filter fun n => decide (n ∉ bl.map (·.1))) with
     | nil => exact absurd (List.filter_eq_nil_iff.mp e n hnf) (by simpa using hnb)
     | cons m rest => exact ⟨m, rest, rfl⟩
    have hm : m ∈ (ns.filter fun n => decide (n ∉ bl.map (·.1))) := by rw [em']; exact List.mem_cons_self ..
    obtain ⟨hm1, hm2⟩ := List.mem_filter.mp hm
    rw [em'] at r3
    refine ⟨_, _, _, _, rfl, rfl, SqL.of r2, by rw [r3]; exact at0, ?_⟩
    exact k m _ (q1.trans r1) (no.len m hm1) (by simpa using hm2)
theorem sc_l_made_good : FnScope ["_law_tower", "_law_row", "_law_clean", "_law_names_here", "_law_begin", "_law_held", "_law_k", "_law_trouble_here", "_law_name_here"] ["_law_tower", "_law_row", "_law_clean", "_law_names_here", "_law_begin", "_law_held"] (defScope s_l_made_good) := ⟨rfl, rfl, rfl, by decide +kernel, rfl, by decide +kernel, by decide +kernel⟩
set_option maxHeartbeats 4000000 in
theorem ok_l_made_good {f : Addr} {fd : FuncData} {cs : Cls} (F : Fun K "_law_made_good" "_law_made_good" s_l_made_good f fd) (T : Txt K mg cs) (D__law_new_name : Dn P w K mg base "_law_new_name" 1 ["_law_row", "_law_names_here"] (sp_l_new_name K cs)) (D__law_bells : Dn P w K mg base "_law_bells" 3 ["_law_tower", "_law_row", "_law_held", "_law_emptied"] (sp_l_bells K cs)) (D__law_trouble : Dn P w K mg base "_law_trouble" 2 ["_law_row", "_law_clean"] (sp_l_trouble K cs)) (D__law_all_ring : Dn P w K mg base "_law_all_ring" 8 ["_law_tower", "_law_row", "_law_clean", "_law_begin", "_law_plain"] (sp_l_all_ring K cs)) (D__law_take : Dn P w K mg base "_law_take" 3 ["_law_tower", "_law_row", "_law_clean", "_law_name_here"] (sp_l_take K cs)) (D__law_hang : Dn P w K mg base "_law_hang" 3 ["_law_tower", "_law_row", "_law_name_here", "_law_first", "_law_wide", "_law_plain"] (sp_l_hang K cs)) (D__law_some_ring : Dn P w K mg base "_law_some_ring" 8 ["_law_tower", "_law_row", "_law_begin", "_law_plain", "_law_held", "_law_emptied"] (sp_l_some_ring K cs)) : FnOk P w K mg base CX0 9 f fd ["_law_tower", "_law_row", "_law_clean", "_law_names_here", "_law_begin", "_law_held"] (sp_l_made_good K cs) := by
 refine F.ok sc_l_made_good (fun vs H Q E h => ?_) (fun cdv A outer s H vs Q E hr h => ?_)
 ·obtain ⟨t, d, r, c, hd, pn, bl, cn, ns, hs, m, rfl, _⟩ := h
  rfl
 ·obtain ⟨t, d, r, c, hd, pn, bl, cn, ns, hs, m, rfl, S, hb12, hpn, no, hhd, hhl, hrh, hch, hpA, k⟩ := h
  have hdc := S.there
  refine ⟨_, (pss_cons (ps_for PassesOwn.never rfl (pi_range1 rfl T.n_range (pa_cons pe_int pa_nil)) (pg_name (i := 6) sc_l_made_good.nd rfl (Or.inl rfl)) (pss_cons (ps_set (i := 7) sc_l_made_good.nd rfl (Or.inl rfl) (pe_fn D__law_trouble (hr.mono (by decide)) (pa_cons (pv 1) (pa_cons (pv 2) pa_nil))))
   (pss_cons (ps_if (pt_not (pt_val (pe_fn D__law_all_ring (hr.mono (by decide)) (pa_cons (pv 0) (pa_cons (pv 1) (pa_cons (pv 2) (pa_cons (pv 4) (pa_cons pe_bl pa_nil)))))))) (pss_one (ps_ret pe_bl)) pss_nil)
   (pss_one (ps_if (PW.pt (pw_and (pt_cmpR op_gt (pe_callB call_len_seq rfl T.n_len bt_len (pa_cons (pv 7) pa_nil)) pe_int (nomark _)) (pw_and1 (pt_not (pt_val (pe_fn D__law_take (hr.mono (by decide)) (pa_cons (pv 0) (pa_cons (pv 1) (pa_cons (pv 2) (pa_cons (pe_ix ix_list (pv 7) pe_int (fun _ _ => rfl)) pa_nil)))))))))) (pss_one (ps_ret pe_bl)) pss_nil)))))
   (pss_cons (ps_set (i := 8) sc_l_made_good.nd rfl (Or.inl rfl) (pe_fn D__law_new_name (hr.mono (by decide)) (pa_cons (pv 1) (pa_cons (pv 3) pa_nil))))
   (pss_cons (ps_if (PW.pt (pw_or (pt_not (pt_val (pe_fn D__law_take (hr.mono (by decide)) (pa_cons (pv 0) (pa_cons (pv 1) (pa_cons (pv 2) (pa_cons (pv 8) pa_nil))))))) (pw_or1 (pt_not (pt_val (pe_fn D__law_hang (hr.mono (by decide)) (pa_cons (pv 0) (pa_cons (pv 1) (pa_cons (pv 8) (pa_cons (pv 4) (pa_cons pe_int (pa_cons pe_bl pa_nil)))))))))))) (pss_one (ps_ret pe_bl)) pss_nil)
   (pss_cons (ps_if (PW.pt (pw_or (pt_not (pt_val (pe_fn D__law_some_ring (hr.mono (by decide)) (pa_cons (pv 0) (pa_cons (pv 1) (pa_cons (pv 4) (pa_cons pe_bl (pa_cons (pv 5) (pa_cons pe_bl pa_nil))))))))) (pw_or1 (pt_not (pt_val (pe_fn D__law_take (hr.mono (by decide)) (pa_cons (pv 0) (pa_cons (pv 1) (pa_cons (pv 2) (pa_cons (pv 8) pa_nil)))))))))) (pss_one (ps_ret pe_bl)) pss_nil)
   (pss_one (ps_ret (pe_fn D__law_bells (hr.mono (by decide)) (pa_cons (pv 0) (pa_cons (pv 1) (pa_cons (pv 5) (pa_cons pe_bl pa_nil))))))))))), ?_⟩
  obtain ⟨⟨dx, h1⟩, ⟨kvs, hd1, hkv⟩, nd⟩ := id S.tw
  have nth : t ≠ hd := ne_of h1 hhd (by intro z; cases z)
  have ndh : d ≠ hd := ne_of hd1 hhd (by intro z; cases z)
  have hA : ∀ x ∈ [d, r, c, hd], H x ≠ none := fun x hx => by
   simp only [List.mem_cons, List.not_mem_nil, or_false] at hx
   rcases hx with rfl | rfl | rfl | rfl
   ·exact hdc.2.1
   ·exact hdc.2.2.1
   ·exact hdc.2.2.2
   ·rw [hhd]; simp
  have hh3 : hd ∉ [d, r, c] := by
   walk_at "i"
   exact ⟨ndh.symm, hrh.symm, hch.symm⟩
  have m3 : ∀ x ∈ [d, r, c], x ∈ [d, r, c, hd] := fun x hx => by simp only [List.mem_cons, List.not_mem_nil, or_false] at hx ⊢; rcases hx with h | h | h <;> simp [h]
  have m1 : ∀ x ∈ [c], x ∈ [d, r, c] := by simp
  refine ⟨3, rfl, by decide, by decide, ?_⟩
  refine for_range (lo := 0) (n := 3) (fun i σ HL => ∃ (bl' : List Bell) (cn' : Nat) (x1 x2 : Option V), σ = [some (.ref t), some (.ref r), some (.ref c), some (.ref pn), some (.int m), some (.ref hd), x1, x2, none] ∧ Ch [d, r, c] H HL ∧ StAt cs.Tower HL t d r c bl' cn' ∧ bl'.length ≤ 12) ⟨bl, cn, none, none, rfl, Ch.refl, S, hb12⟩ ?_ ?_
  ·rintro i σ HL hi ⟨bl', cn', x1, x2, rfl, ch, SL, hl⟩
   obtain ⟨us, hr1, hrw⟩ := SL.row
   have goOn : ∀ (pT : Addr) (HM : Hp) (c2 : Nat), Ch [c] HL HM → StAt cs.Tower HM t d r c bl' c2 → True := fun _ _ _ _ _ => trivial
   refine ⟨_, rfl, _, rfl, ?_⟩
   refine ⟨r, c, us, bl', cn', rfl, hr1, hrw, SL.cl, SL.rc, SL.le, SL.ap, SL.bd, by omega, fun p5 H5 ch5 hp5H hp5 hc5 hno => ?_, fun i1 j1 dv x y p5 H5 ch5 hp5H A0 ex ey hp5 hc5 => ?_⟩
   ·have S5 : StAt cs.Tower H5 t d r c bl' bl'.length := ⟨SL.tw.keep ch5 (ne1 SL.tw SL.cl) (ne2 SL.tw SL.cl), ⟨us, ch5.1 _ _ hr1 (by simpa using SL.rc), rwv_on ch5.2 hrw⟩, hc5, Nat.le_refl _, fun i j x y hij _ e1 e2 => hno i j x y hij e1 e2, SL.bd⟩
    have npc : p5 ≠ c := fun z => by rw [z, SL.cl] at hp5H; cases hp5H
    refine ⟨_, rfl, _, rfl, _, rfl, _, rfl, ?_⟩
    refine ⟨t, d, r, c, bl', bl'.length, m, false, rfl, S5, by omega, (fun z => nomatch z), fun c6 H6 ch6 S6 => ⟨_, rfl, ?_⟩⟩
    refine iteF ?_
    have hp6 := ch6.1 _ _ hp5 (by simpa using npc)
    refine ⟨_, rfl, _, _, rfl, (by walk_at "ln"), _, _, rfl, rfl, _, rfl, ?_⟩
    refine iteD (by simp) ?_
    exact ⟨bl', c6, _, _, rfl, (ch.trans (ch5.mono m1)).trans (ch6.mono m1), S6, hl⟩
   ·have hjl := (List.getElem?_eq_some_iff.mp ey).1
    have S5 : StAt cs.Tower H5 t d r c bl' j1 := ⟨SL.tw.keep ch5 (ne1 SL.tw SL.cl) (ne2 SL.tw SL.cl), ⟨us, ch5.1 _ _ hr1 (by simpa using SL.rc), rwv_on ch5.2 hrw⟩, hc5, by omega, fun a e x y hae hej e1 e2 => A0.no a e x.2 y.2 hae hej (by rw [beatsOf, List.getElem?_map, e1]; rfl) (by rw [beatsOf, List.getElem?_map, e2]; rfl), SL.bd⟩
    have npc : p5 ≠ c := fun z => by rw [z, SL.cl] at hp5H; cases hp5H
    refine ⟨_, rfl, _, rfl, _, rfl, _, rfl, ?_⟩
    refine ⟨t, d, r, c, bl', j1, m, false, rfl, S5, by omega, (fun z => nomatch z), fun c6 H6 ch6 S6 => ⟨_, rfl, ?_⟩⟩
    refine iteF ?_
    have hp6 := ch6.1 _ _ hp5 (by simpa using npc)
    refine ⟨_, rfl, _, _, rfl, (by walk_at "ln"), _, _, rfl, rfl, _, rfl, ?_⟩
    refine iteDT (by simp) ?_
    refine ⟨_, rfl, _, rfl, _, rfl, _, rfl, _, _, _, _, rfl, rfl, SqL.of hp6, at1, ?_⟩
    refine ⟨t, d, r, c, bl', c6, y.1, rfl, S6, (SL.bd y (List.mem_of_getElem? ey)).2, by omega, fun hn => absurd (List.mem_map_of_mem (List.mem_of_getElem? ey)) hn, fun i2 b2 hb2 c7 H7 ch7 S7 => ⟨_, rfl, ?_⟩⟩
    refine iteF ?_
    exact ⟨_, c7, _, _, rfl, ((ch.trans (ch5.mono m1)).trans (ch6.mono m1)).trans ch7, S7, Nat.le_trans (List.length_eraseIdx_le ..) hl⟩
  ·rintro σ HL ⟨bl', cn', x1, x2, rfl, ch, SL, hl⟩
   obtain ⟨us, hr1, hrw⟩ := SL.row
   have hpnL := ch.1 _ _ hpn (fun z => hpA (m3 _ z))
   have hhL := ch.1 _ _ hhd hh3
   refine ⟨_, rfl, _, rfl, ?_⟩
   refine ⟨r, pn, us, bl', ns, rfl, hr1, hrw, by omega, hpnL, no, fun n H1 s1 hnl hnn => ?_⟩
   have S1 : StAt cs.Tower H1 t d r c bl' cn' := SL.keep0 s1
   have c1 : Ch [d, r, c] H H1 := ch.trans (Ch.same s1)
   walk_at "ns"
   refine ⟨_, rfl, _, rfl, _, rfl, _, rfl, ?_⟩
   refine ⟨t, d, r, c, bl', cn', n, rfl, S1, hnl, by omega, fun _ H2 s2 => ⟨_, rfl, ?_⟩, fun i b hb => absurd (List.mem_map_of_mem (f := (·.1)) (List.mem_of_getElem? hb)) hnn⟩
   refine iteF ?_
   have S2 : StAt cs.Tower H2 t d r c bl' cn' := S1.keep0 s2
   obtain ⟨us2, hr2, hrw2⟩ := S2.row
   have c2 : Ch [d, r, c] H H2 := c1.trans (Ch.same s2)
   refine ⟨_, rfl, _, rfl, _, rfl, _, rfl, ?_⟩
   refine ⟨t, d, r, us2, bl', n, m, 24, true, rfl, S2.tw, hr2, hrw2, hnl, by omega, (fun _ => rfl), (fun h => absurd h (by rintro (h | h); exact hnn h; exact absurd h (by decide))), fun _ _ H3 ch3 TW3 rw3 => ⟨_, rfl, ?_⟩⟩
   refine iteF ?_
   have S3 : StAt cs.Tower H3 t d r c (bl' ++ [(n, m % 24, 24)]) cn' := S2.hung ch3 TW3 rw3 ⟨⟨(em (by decide)).1, (em (by decide)).2, by show (24 : Int).natAbs < 2 ^ 60; decide⟩, hnl⟩
   have c3 : Ch [d, r, c] H H3 := c2.trans (ch3.mono (by simp))
   have hh3' := c3.1 _ _ hhd hh3
   obtain ⟨us3, hr3, hrw3⟩ := S3.row
   have l3 : (bl' ++ [(n, m % 24, (24 : Int))]).length ≤ 13 := by rw [List.length_append]; simp; omega
   refine ⟨_, rfl, _, rfl, _, rfl, _, rfl, ?_⟩
   refine ⟨t, d, r, hd, us3, hs, bl' ++ [(n, m % 24, 24)], m, false, false, rfl, S3.tw, hr3, hrw3, S3.bd, l3, (fun z => nomatch z), hh3', by omega, hrh, (fun z => absurd z (by simp)), fun _ u1 H4 ch4 hh4 nh4 => ⟨_, rfl, ?_⟩⟩
   refine iteF ?_
   have S4 : StAt cs.Tower H4 t d r c (bl' ++ [(n, m % 24, 24)]) cn' := S3.keep ch4 (by simpa using nth) (by simpa using ndh) (by simpa using hrh) (by simpa using hch)
   have hA3 : ∀ x ∈ [d, r, c], H3 x ≠ none := fun x hx => by
    have := S3.there
    simp only [List.mem_cons, List.not_mem_nil, or_false] at hx
    rcases hx with rfl | rfl | rfl
    ·exact this.2.1
    ·exact this.2.2.1
    ·exact this.2.2.2
   have n1 : NewHeld H H4 u1 := nh4.backC c3 hA3
   have hidx : (bl' ++ [(n, m % 24, (24 : Int))])[bl'.length]? = some (n, m % 24, 24) := by simp
   refine ⟨_, rfl, _, rfl, _, rfl, _, rfl, ?_⟩
   refine ⟨t, d, r, c, bl' ++ [(n, m % 24, 24)], cn', n, rfl, S4, hnl, l3, (fun h => absurd (List.mem_map_of_mem (f := (·.1)) (List.mem_of_getElem? hidx)) h), fun i b hb c5 H5 ch5 S5 => ⟨_, rfl, ?_⟩⟩
   refine iteF ?_
   have hh5 := ch5.1 _ _ hh4 hh3
   have c4 : Ch [d, r, c, hd] H H4 := (c3.mono m3).trans (ch4.mono (by simp))
   have c5' : Ch [d, r, c, hd] H H5 := c4.trans (ch5.mono m3)
   have n1' : NewHeld H H5 u1 := n1.on (ch5.mono m3) hA
   have hil := (List.getElem?_eq_some_iff.mp hb).1
   have l5 : ((bl' ++ [(n, m % 24, (24 : Int))]).eraseIdx i).length ≤ 12 := by rw [List.length_eraseIdx_of_lt hil]; omega
   obtain ⟨us5, hr5, hrw5⟩ := S5.row
   refine ⟨_, rfl, _, rfl, _, rfl, ?_⟩
   refine ⟨t, d, r, hd, us5, hs ++ [u1], _, false, rfl, S5.tw, hr5, hrw5, by omega, hh5, by rw [List.length_append]; simp; omega, fun u2 H6 ch6 hh6 nh6 => ?_⟩
   have S6 := S5.keep ch6 (by simpa using nth) (by simpa using ndh) (by simpa using hrh) (by simpa using hch)
   have hA5 : ∀ x ∈ [d, r, c, hd], H5 x ≠ none := fun x hx => by
    have := S5.there
    simp only [List.mem_cons, List.not_mem_nil, or_false] at hx
    rcases hx with rfl | rfl | rfl | rfl
    ·exact this.2.1
    ·exact this.2.2.1
    ·exact this.2.2.2
    ·rw [hh5]; simp
   exact k _ c5 u1 u2 _ (c5'.trans (ch6.mono (by simp))) S6 l5 hh6 (n1'.on (ch6.mono (by simp : ∀ x ∈ [hd], x ∈ [d, r, c, hd])) hA) (nh6.backC c5' hA5)
theorem sc_law : FnScope ["_law_script", "_law_names_here", "_law_towers", "_law_rows", "_law_cleans", "_law_held", "_law_cell", "_law_at", "_law_begin", "_law_found", "_law_due"] ["_law_script"] (defScope s_law) := ⟨rfl, rfl, rfl, by decide +kernel, rfl, by decide +kernel, by decide +kernel⟩
set_option maxHeartbeats 4000000 in
theorem ok_law {f : Addr} {fd : FuncData} {cs : Cls} (F : Fun K "law" "law" s_law f fd) (T : Txt K mg cs) (D__law_names : Dn P w K mg base "_law_names" 1 ["_law_cell"] (sp_l_names K cs)) (D__law_cell_at : Dn P w K mg base "_law_cell_at" 1 ["_law_script", "_law_k"] (sp_l_cell_at K cs)) (D__law_clash_made : Dn P w K mg base "_law_clash_made" 3 ["_law_names_here", "_law_cell"] (sp_l_clash_made K cs)) (D_Tower_init : MakeOk P w K mg base cs.Tower 1 ["self"] (sp_Tower_init K cs)) (D__law_done : Dn P w K mg base "_law_done" 9 ["_law_tower", "_law_row", "_law_clean", "_law_names_here", "_law_cell", "_law_script", "_law_held"] (sp_l_done K cs)) (D__law_made_good : Dn P w K mg base "_law_made_good" 9 ["_law_tower", "_law_row", "_law_clean", "_law_names_here", "_law_begin", "_law_held"] (sp_l_made_good K cs)) : FnOk P w K mg base CX0 10 f fd ["_law_script"] (sp_law K) := by
 refine F.ok sc_law (fun vs H Q E h => ?_) (fun cdv A outer s H vs Q E hr h => ?_)
 ·obtain ⟨a, ns, rfl, _⟩ := h
  rfl
 ·obtain ⟨a, ns, rfl, hS, hl, k⟩ := h
  refine ⟨_, (pss_cons (ps_set (i := 1) sc_law.nd rfl (Or.inl rfl) (pe_fn D__law_names (hr.mono (by decide)) (pa_cons (pe_fn D__law_cell_at (hr.mono (by decide)) (pa_cons (pv 0) (pa_cons pe_int pa_nil))) pa_nil)))
   (pss_cons (ps_if (pt_not (pt_val (pe_fn D__law_clash_made (hr.mono (by decide)) (pa_cons (pv 1) (pa_cons (pe_fn D__law_cell_at (hr.mono (by decide)) (pa_cons (pv 0) (pa_cons pe_int pa_nil))) pa_nil))))) (pss_one (ps_ret pe_bl)) pss_nil)
   (pss_cons (ps_set (i := 2) sc_law.nd rfl (Or.inl rfl) (pe_lst (pa_cons (pe_new0 D_Tower_init (hr.mono (by decide)) rfl T.m_Tower) (pa_cons (pe_new0 D_Tower_init (hr.mono (by decide)) rfl T.m_Tower) pa_nil))))
   (pss_cons (ps_set (i := 3) sc_law.nd rfl (Or.inl rfl) (pe_lst (pa_cons (pe_lst pa_nil) (pa_cons (pe_lst pa_nil) pa_nil))))
   (pss_cons (ps_set (i := 4) sc_law.nd rfl (Or.inl rfl) (pe_lst (pa_cons (pe_lst (pa_cons pe_int pa_nil)) (pa_cons (pe_lst (pa_cons pe_int pa_nil)) pa_nil))))
   (pss_cons (ps_set (i := 5) sc_law.nd rfl (Or.inl rfl) (pe_lst pa_nil))
   (pss_cons (ps_for PassesOwn.never rfl (pi_list (pe_slice sl_list (pv 0) (po_some pe_int) (po_some pe_int))) (pg_name (i := 6) sc_law.nd rfl (Or.inl rfl)) (pss_cons (ps_set (i := 7) sc_law.nd rfl (Or.inl rfl) (pe_callTy call_int1 rfl T.n_int bt_int (pa_cons (pe_cmpR op_eq (pe_op op_mod (pe_op op_fdivB (pe_op op_mod (pe_op op_mulB (pv 6) pe_int) pe_int) pe_int) pe_int) pe_int (nomark _)) pa_nil)))
   (pss_one (ps_if (pt_not (pt_val (pe_fn D__law_done (hr.mono (by decide)) (pa_cons (pe_ix ix_list (pv 2) (pv 7) (fun _ _ => rfl)) (pa_cons (pe_ix ix_list (pv 3) (pv 7) (fun _ _ => rfl)) (pa_cons (pe_ix ix_list (pv 4) (pv 7) (fun _ _ => rfl)) (pa_cons (pv 1) (pa_cons (pv 6) (pa_cons (pv 0) (pa_cons (pv 5) pa_nil)))))))))) (pss_one (ps_ret pe_bl)) pss_nil))))
   (pss_cons (ps_set (i := 8) sc_law.nd rfl (Or.inl rfl) (pe_op op_sub (pe_op op_mod (pe_op op_fdivB (pe_fn D__law_cell_at (hr.mono (by decide)) (pa_cons (pv 0) (pa_cons pe_int pa_nil))) pe_int) (pe_op op_add (pe_op op_mulB pe_int (pe_op op_pow pe_int pe_int)) pe_int)) (pe_op op_pow pe_int pe_int)))
   (pss_cons (ps_for PassesOwn.never rfl (pi_range1 rfl T.n_range (pa_cons pe_int pa_nil)) (pg_name (i := 7) sc_law.nd rfl (Or.inl rfl)) (pss_one (ps_if (pt_not (pt_val (pe_fn D__law_made_good (hr.mono (by decide)) (pa_cons (pe_ix ix_list (pv 2) (pv 7) (fun _ _ => rfl)) (pa_cons (pe_ix ix_list (pv 3) (pv 7) (fun _ _ => rfl)) (pa_cons (pe_ix ix_list (pv 4) (pv 7) (fun _ _ => rfl)) (pa_cons (pv 1) (pa_cons (pv 8) (pa_cons (pv 5) pa_nil))))))))) (pss_one (ps_ret pe_bl)) pss_nil)))
   (pss_cons (ps_for PassesOwn.never rfl (pi_list (pv 5)) (pg_tup rfl (pgs_cons (pg_name (i := 9) sc_law.nd rfl (Or.inl rfl)) (pgs_cons (pg_name (i := 10) sc_law.nd rfl (Or.inl rfl)) pgs_nil))) (pss_one (ps_if (pt_cmpR (op_neD hr.units0 (in1_units hr) (in2_units hr)) (pv 9) (pv 10) (nomark _)) (pss_one (ps_ret pe_bl)) pss_nil)))
   (pss_one (ps_ret pe_bl)))))))))))), ?_⟩
  refine ⟨_, rfl, _, _, _, rfl, ‹_›, (by walk_at "sd"), fun c1 => ?_⟩
  refine ⟨_, rfl, fun p2 ns2 H2 sm2 at2 no2 => ?_⟩
  have no1 := no2
  have hS2 := sm2.sq hS
  refine ⟨_, rfl, _, rfl, _, _, _, rfl, ‹_›, (by walk_at "sd"), fun c3 => ?_⟩
  refine ⟨p2, ns2, _, rfl, at2, no1, fun HA sA => ⟨_, rfl, ?_⟩⟩
  refine iteF ?_
  have sB : Same H HA := sm2.trans sA
  have tr0 : Trk HA [p2] := ⟨by simp, fun x hx => by rw [List.mem_singleton.mp hx, sA _ _ at2]; simp⟩
  -- the towers
  refine fun t0 dx0 ht0 hdx0 ne0 => ⟨t0, dx0, rfl, upd_same, fun d0 H1 hd0 TW0 kp0 => ⟨rfl, ?_⟩⟩
  have s1 : Same HA H1 := fun b o e => kp0 b o (by rw [upd_ne (ne_of_none e ht0), upd_ne (ne_of_none e hdx0)]; exact e) (ne_of_none e ht0)
  have hd0A : HA d0 = none := by
   cases e : HA d0 with
   | none => rfl
   | some o => rw [upd_ne (ne_of_none e ht0), upd_ne (ne_of_none e hdx0), e] at hd0; cases hd0
  have hdt0 : d0 ≠ t0 := fun z => by rw [z, upd_same] at hd0; cases hd0
  have tr1 : Trk H1 [d0, t0, p2] := tr0.two s1 ht0 hd0A hdt0 (by obtain ⟨⟨_, e⟩, _, _⟩ := TW0; rw [e]; simp) (by obtain ⟨_, ⟨_, e, _⟩, _⟩ := TW0; rw [e]; simp)
  refine fun t1 dx1 ht1 hdx1 ne1' => ⟨t1, dx1, rfl, upd_same, fun d1 H2 hd1 TW1 kp1 => ⟨rfl, ?_⟩⟩
  have s2 : Same H1 H2 := fun b o e => kp1 b o (by rw [upd_ne (ne_of_none e ht1), upd_ne (ne_of_none e hdx1)]; exact e) (ne_of_none e ht1)
  have hd1A : H1 d1 = none := by
   cases e : H1 d1 with
   | none => rfl
   | some o => rw [upd_ne (ne_of_none e ht1), upd_ne (ne_of_none e hdx1), e] at hd1; cases hd1
  have hdt1 : d1 ≠ t1 := fun z => by rw [z, upd_same] at hd1; cases hd1
  have tr2 : Trk H2 [d1, t1, d0, t0, p2] := tr1.two s2 ht1 hd1A hdt1 (by obtain ⟨⟨_, e⟩, _, _⟩ := TW1; rw [e]; simp) (by obtain ⟨_, ⟨_, e, _⟩, _⟩ := TW1; rw [e]; simp)
  refine ⟨len_ok (Nat.le_of_ble_eq_true rfl), fun pt hpt => ?_⟩
  have tr3 := tr2.new hpt (o := .lst [.ref t0, .ref t1])
  refine ⟨len_ok (Nat.le_of_ble_eq_true rfl), fun r0 hr0 => ?_⟩
  have tr4 := tr3.new hr0 (o := .lst [])
  refine ⟨len_ok (Nat.le_of_ble_eq_true rfl), fun r1 hr1 => ?_⟩
  have tr5 := tr4.new hr1 (o := .lst [])
  refine ⟨len_ok (Nat.le_of_ble_eq_true rfl), fun pr hpr => ?_⟩
  have tr6 := tr5.new hpr (o := .lst [.ref r0, .ref r1])
  refine ⟨len_ok (Nat.le_of_ble_eq_true rfl), fun c0 hc0 => ?_⟩
  have tr7 := tr6.new hc0 (o := .lst [.int 0])
  refine ⟨len_ok (Nat.le_of_ble_eq_true rfl), fun c1 hc1 => ?_⟩
  have tr8 := tr7.new hc1 (o := .lst [.int 0])
  refine ⟨len_ok (Nat.le_of_ble_eq_true rfl), fun pc hpc => ?_⟩
  have tr9 := tr8.new hpc (o := .lst [.ref c0, .ref c1])
  refine ⟨len_ok (Nat.le_of_ble_eq_true rfl), fun hd hhd0 => ?_⟩
  have trA := tr9.new hhd0 (o := .lst [])
  have sp : Same H H2 := (sB.trans s1).trans s2
  have q1 := Same.new hpt (o := .lst [.ref t0, .ref t1])
  have q2 := q1.on hr0 (o := .lst [])
  have q3 := q2.on hr1 (o := .lst [])
  have q4 := q3.on hpr (o := .lst [.ref r0, .ref r1])
  have q5 := q4.on hc0 (o := .lst [.int 0])
  have q6 := q5.on hc1 (o := .lst [.int 0])
  have q7 := q6.on hpc (o := .lst [.ref c0, .ref c1])
  have q8 := q7.on hhd0 (o := .lst [])
  have F : Fx H p2 pt pr pc hd t0 d0 r0 c0 t1 d1 r1 c1 := Fx.of trA.1 (sB.free hd0A) (sp.free (q1.free hr0)) (sp.free (q4.free hc0)) ((sB.trans s1).free hd1A) (sp.free (q2.free hr1)) (sp.free (q5.free hc1)) (sp.free (q7.free hhd0))
  have W0 : Wd cs.Tower H (upd (upd (upd (upd (upd (upd (upd (upd H2 pt (.lst [.ref t0, .ref t1])) r0 (.lst [])) r1 (.lst [])) pr (.lst [.ref r0, .ref r1])) c0 (.lst [.int 0])) c1 (.lst [.int 0])) pc (.lst [.ref c0, .ref c1])) hd (.lst [])) p2 pt pr pc hd t0 d0 r0 c0 t1 d1 r1 c1 ns2 0 := by
   refine ⟨sp.trans q8, ⟨[], 0, ⟨(TW0.keep (A := []) (Ch.same (s2.trans q8)) (by simp) (by simp)), ⟨[], get_new (get_new (get_new (get_new (get_new (get_new upd_same hr1) hpr) hc0) hc1) hpc) hhd0, .nil⟩, get_new (get_new (get_new upd_same hc1) hpc) hhd0, Nat.le_refl _, fun i j x y _ hj => absurd hj (Nat.not_lt_zero _), fun b hb => nomatch hb⟩, by decide⟩, ⟨[], 0, ⟨(TW1.keep (A := []) (Ch.same q8) (by simp) (by simp)), ⟨[], get_new (get_new (get_new (get_new (get_new upd_same hpr) hc0) hc1) hpc) hhd0, .nil⟩, get_new (get_new upd_same hpc) hhd0, Nat.le_refl _, fun i j x y _ hj => absurd hj (Nat.not_lt_zero _), fun b hb => nomatch hb⟩, by decide⟩, ⟨[], upd_same, Nat.le_refl _, fun u hu => nomatch hu⟩, ?_, ?_, ?_, ?_⟩
   ·exact ((sA.trans s1).trans s2 |>.trans q8) _ _ at2
   ·exact get_new (get_new (get_new (get_new (get_new (get_new (get_new upd_same hr0) hr1) hpr) hc0) hc1) hpc) hhd0
   ·exact get_new (get_new (get_new (get_new upd_same hc0) hc1) hpc) hhd0
   ·exact get_new upd_same hhd0
  generalize (upd (upd (upd (upd (upd (upd (upd (upd H2 pt (.lst [.ref t0, .ref t1])) r0 (.lst [])) r1 (.lst [])) pr (.lst [.ref r0, .ref r1])) c0 (.lst [.int 0])) c1 (.lst [.int 0])) pc (.lst [.ref c0, .ref c1])) hd (.lst [])) = HW at *
  walk_at "ns"
  have hSW := W0.s0.sq hS
  refine ⟨_, rfl, _, rfl, _, rfl, _, _, rfl, (by walk_at "ls"), fun p4 hp4 => ?_⟩
  have hcl : (cutV (ns.map V.int) (some 3) (some 63)).length ≤ 60 := by
   have := cut_length (ns.map V.int) 3 63
   have e : cutV (ns.map V.int) (some 3) (some 63) = cutV (ns.map V.int) (some ((3 : Nat) : Int)) (some ((63 : Nat) : Int)) := rfl
   rw [e, this]
   omega
  obtain ⟨ms, hms, _⟩ := cut_ints ns (some 3) (some 63)
  rw [hms] at hcl ⊢
  rw [List.length_map] at hcl
  refine ⟨_, rfl, ⟨_, SqL.of upd_same⟩, ?_⟩
  have wall := W0.all
  have nq0 : p4 ∉ [d0, r0, c0, hd] := fun z => wall p4 (by simp only [List.mem_cons, List.not_mem_nil, or_false] at z ⊢; rcases z with h | h | h | h <;> simp [h]) hp4
  have nq1 : p4 ∉ [d1, r1, c1, hd] := fun z => wall p4 (by simp only [List.mem_cons, List.not_mem_nil, or_false] at z ⊢; rcases z with h | h | h | h <;> simp [h]) hp4
  refine for_list (xs := ms.map V.int) (fun i σ HL => ∃ (x1 x2 : Option V), σ = [some (.ref a), some (.ref p2), some (.ref pt), some (.ref pr), some (.ref pc), some (.ref hd), x1, x2, none, none, none] ∧ Wd cs.Tower H HL p2 pt pr pc hd t0 d0 r0 c0 t1 d1 r1 c1 ns2 i ∧ HL p4 = some (.lst (ms.map V.int))) ⟨none, none, rfl, W0.same (Same.new hp4), upd_same⟩ (fun i σ HL _ ⟨_, _, _, _, e⟩ => SqL.of e) ?_ ?_
  ·rintro i v σ HL hv ⟨x1, x2, rfl, W, hp⟩
   obtain ⟨z, ez, rfl⟩ := ints_at hv
   have hi60 : i < 60 := by have := (List.getElem?_eq_some_iff.mp ez).1; omega
   have mo1 : IntMulOk z 40692 := mulOk_r (by omega) (by omega)
   refine ⟨_, rfl, _, _, rfl, rfl, (by walk_at "sd"), _, _, rfl, rfl, (by walk_at "sd"), _, _, rfl, rfl, (by walk_at "sd"), _, _, rfl, rfl, (by walk_at "sd"), rfl, .inr ⟨_, rfl, ?_⟩⟩
   generalize (decide (V.int (z * 40692 % 2147483399 / 1024 % 4) = V.int 0)) = bb
   walk_at "ns"
   cases bb with
   | true =>
    obtain ⟨bl, cn, SB, lB⟩ := W.S1
    obtain ⟨hs, hh, hhl, hhu⟩ := W.he
    refine ⟨_, rfl, _, rfl, _, _, _, _, rfl, rfl, SqL.of W.tp, at1, _, rfl, _, rfl, _, _, _, _, rfl, rfl, SqL.of W.rp, at1, _, rfl, _, rfl, _, _, _, _, rfl, rfl, SqL.of W.cp, at1, _, rfl, _, rfl, _, rfl, _, rfl, ?_⟩
    refine ⟨t1, d1, r1, c1, hd, p2, a, bl, cn, ns2, hs, _, ns, rfl, SB, lB, W.np, no1, W.s0.sq hS, hh, by omega, F.h1.1, F.h1.2, fun bl' cn' H' ch S' l' hst => ⟨_, rfl, ?_⟩⟩
    refine iteF ?_
    exact ⟨_, _, rfl, W.step1 F ch ⟨bl', cn', S', l'⟩ (held_step hh hhl hst), ch.1 _ _ hp nq1⟩
   | false =>
    obtain ⟨bl, cn, SB, lB⟩ := W.S0
    obtain ⟨hs, hh, hhl, hhu⟩ := W.he
    refine ⟨_, rfl, _, rfl, _, _, _, _, rfl, rfl, SqL.of W.tp, at0, _, rfl, _, rfl, _, _, _, _, rfl, rfl, SqL.of W.rp, at0, _, rfl, _, rfl, _, _, _, _, rfl, rfl, SqL.of W.cp, at0, _, rfl, _, rfl, _, rfl, _, rfl, ?_⟩
    refine ⟨t0, d0, r0, c0, hd, p2, a, bl, cn, ns2, hs, _, ns, rfl, SB, lB, W.np, no1, W.s0.sq hS, hh, by omega, F.h0.1, F.h0.2, fun bl' cn' H' ch S' l' hst => ⟨_, rfl, ?_⟩⟩
    refine iteF ?_
    exact ⟨_, _, rfl, W.step0 F ch ⟨bl', cn', S', l'⟩ (held_step hh hhl hst), ch.1 _ _ hp nq0⟩
  ·rintro σ HL ⟨x1, x2, rfl, W, hp⟩
   rw [List.length_map] at W
   have hSL := W.s0.sq hS
   refine ⟨_, rfl, _, _, _, rfl, ‹_›, (by walk_at "sd"), fun c5 => ?_⟩
   refine ⟨_, _, rfl, rfl, (by walk_at "sd"), _, _, rfl, rfl, (by walk_at "sd"), _, _, rfl, rfl, (by walk_at "sd"), _, _, rfl, rfl, _, _, rfl, rfl, (by walk_at "sd"), _, _, rfl, rfl, (by walk_at "sd"), _, _, rfl, rfl, ?_⟩
   walk_at "ns"
   refine ⟨2, rfl, by decide, by decide, ?_⟩
   refine for_range (lo := 0) (n := 2) (fun i σ HL => ∃ (x2 : Option V), σ = [some (.ref a), some (.ref p2), some (.ref pt), some (.ref pr), some (.ref pc), some (.ref hd), x1, x2, some (.int (c5 / 2 % (2 * 10 ^ (18 : Int).toNat + 1) - 10 ^ (18 : Int).toNat)), none, none] ∧ Wd cs.Tower H HL p2 pt pr pc hd t0 d0 r0 c0 t1 d1 r1 c1 ns2 (60 + 2 * i)) ⟨_, rfl, W.more (by omega)⟩ ?_ ?_
   ·rintro i σ HL hi ⟨x2, rfl, W⟩
    rcases (by omega : i = 0 ∨ i = 1) with rfl | rfl
    ·obtain ⟨bl, cn, SB, lB⟩ := W.S0
     obtain ⟨hs, hh, hhl, hhu⟩ := W.he
     refine ⟨_, rfl, _, rfl, _, _, _, _, rfl, rfl, SqL.of W.tp, at0, _, rfl, _, rfl, _, _, _, _, rfl, rfl, SqL.of W.rp, at0, _, rfl, _, rfl, _, _, _, _, rfl, rfl, SqL.of W.cp, at0, _, rfl, _, rfl, _, rfl, ?_⟩
     refine ⟨t0, d0, r0, c0, hd, p2, bl, cn, ns2, hs, _, rfl, SB, lB, W.np, no1, hh, by omega, F.h0.1, F.h0.2, F.a0 _ (by simp), fun bl' cn' u1 u2 H' ch S' l' hh' n1 n2 => ⟨_, rfl, ?_⟩⟩
     refine iteF ?_
     exact ⟨_, rfl, W.step0 F ch ⟨bl', cn', S', l'⟩ (held_two hh hhl hh' n1 n2)⟩
    ·obtain ⟨bl, cn, SB, lB⟩ := W.S1
     obtain ⟨hs, hh, hhl, hhu⟩ := W.he
     refine ⟨_, rfl, _, rfl, _, _, _, _, rfl, rfl, SqL.of W.tp, at1, _, rfl, _, rfl, _, _, _, _, rfl, rfl, SqL.of W.rp, at1, _, rfl, _, rfl, _, _, _, _, rfl, rfl, SqL.of W.cp, at1, _, rfl, _, rfl, _, rfl, ?_⟩
     refine ⟨t1, d1, r1, c1, hd, p2, bl, cn, ns2, hs, _, rfl, SB, lB, W.np, no1, hh, by omega, F.h1.1, F.h1.2, F.a1 _ (by simp), fun bl' cn' u1 u2 H' ch S' l' hh' n1 n2 => ⟨_, rfl, ?_⟩⟩
     refine iteF ?_
     exact ⟨_, rfl, W.step1 F ch ⟨bl', cn', S', l'⟩ (held_two hh hhl hh' n1 n2)⟩
   ·rintro σ HL ⟨x2, rfl, W⟩
    obtain ⟨hs, hh, hhl, hhu⟩ := W.he
    refine ⟨_, rfl, _, rfl, ⟨_, SqL.of hh⟩, ?_⟩
    refine for_list (xs := hs) (fun i σ HM => ∃ (y1 y2 : Option V), σ = [some (.ref a), some (.ref p2), some (.ref pt), some (.ref pr), some (.ref pc), some (.ref hd), x1, x2, some (.int (c5 / 2 % (2 * 10 ^ (18 : Int).toNat + 1) - 10 ^ (18 : Int).toNat)), y1, y2] ∧ HM = HL) ⟨_, _, rfl, rfl⟩ (fun i σ HM _ ⟨_, _, _, e⟩ => by rw [e]; exact SqL.of hh) ?_ ?_
    ·rintro i v σ HM hv ⟨y1, y2, rfl, rfl⟩
     obtain ⟨p, f1, g1, xs, ys, rfl, g2, g3, g4, _, _, pd⟩ := hhu v (List.mem_of_getElem? hv)
     refine ⟨_, _, rfl, SqT.of g2, rfl, _, _, rfl, _, _, rfl, rfl, ?_⟩
     refine ⟨_, rfl, _, rfl, _, _, _, _, rfl, rfl, SqL.of g3, SqL.of g4, pd, _, rfl, ?_⟩
     refine iteF ?_
     exact ⟨_, _, rfl, rfl⟩
    ·rintro σ HM ⟨y1, y2, rfl, rfl⟩
     exact k _
end
theorem all_mk {l : W.OpenLaw} {w : World} {K : W.Frag} {h : Heap} {mg : Str → Option Value} {fa : Addr} (X : K.In h) (G : h.Ns mainGlobals mg) (hfa : mg "law" = some (.ref fa))
  {C_Clash : Addr}
  {C_KnellError : Addr}
  {C_NoBeat : Addr}
  {C_NoBell : Addr}
  {C_NoName : Addr}
  {C_TooMany : Addr}
  {C_Tower : Addr}
  {C_Twice : Addr}
  {f0 : Addr} {od0 an0 : Option Addr} {sl0 : Array (Option Value)} {oc0 kV0 dc0 pm0 cd0 ct0 : Value}
  {f1 : Addr} {od1 an1 : Option Addr} {sl1 : Array (Option Value)} {oc1 kV1 dc1 pm1 cd1 ct1 : Value}
  {f2 : Addr} {od2 an2 : Option Addr} {sl2 : Array (Option Value)} {oc2 kV2 dc2 pm2 cd2 ct2 : Value}
  {f3 : Addr} {od3 an3 : Option Addr} {sl3 : Array (Option Value)} {oc3 kV3 dc3 pm3 cd3 ct3 : Value}
  {f4 : Addr} {od4 an4 : Option Addr} {sl4 : Array (Option Value)} {oc4 kV4 dc4 pm4 cd4 ct4 : Value}
  {f5 : Addr} {od5 an5 : Option Addr} {sl5 : Array (Option Value)} {oc5 kV5 dc5 pm5 cd5 ct5 : Value}
  {f6 : Addr} {od6 an6 : Option Addr} {sl6 : Array (Option Value)} {oc6 kV6 dc6 pm6 cd6 ct6 : Value}
  {f7 : Addr} {od7 an7 : Option Addr} {sl7 : Array (Option Value)} {oc7 kV7 dc7 pm7 cd7 ct7 : Value}
  {f8 : Addr} {od8 an8 : Option Addr} {sl8 : Array (Option Value)} {oc8 kV8 dc8 pm8 cd8 ct8 : Value}
  {f9 : Addr} {od9 an9 : Option Addr} {sl9 : Array (Option Value)} {oc9 kV9 dc9 pm9 cd9 ct9 : Value}
  {f10 : Addr} {od10 an10 : Option Addr} {sl10 : Array (Option Value)} {oc10 kV10 dc10 pm10 cd10 ct10 : Value}
  {f11 : Addr} {od11 an11 : Option Addr} {sl11 : Array (Option Value)} {oc11 kV11 dc11 pm11 cd11 ct11 : Value}
  {f12 : Addr} {od12 an12 : Option Addr} {sl12 : Array (Option Value)} {oc12 kV12 dc12 pm12 cd12 ct12 : Value}
  {f13 : Addr} {od13 an13 : Option Addr} {sl13 : Array (Option Value)} {oc13 kV13 dc13 pm13 cd13 ct13 : Value}
  {f14 : Addr} {od14 an14 : Option Addr} {sl14 : Array (Option Value)} {oc14 kV14 dc14 pm14 cd14 ct14 : Value}
  {f15 : Addr} {od15 an15 : Option Addr} {sl15 : Array (Option Value)} {oc15 kV15 dc15 pm15 cd15 ct15 : Value}
  {Td16 : Addr} {dt16 : Tok} {doc16 : Value} {dod16 : Option Addr} {dn16 : Nat} {dsl16 : Array (Option Value)}
  {f16 : Addr} {od16 an16 : Option Addr} {sl16 : Array (Option Value)} {oc16 kV16 dc16 pm16 cd16 ct16 : Value}
  {f17 : Addr} {od17 an17 : Option Addr} {sl17 : Array (Option Value)} {oc17 kV17 dc17 pm17 cd17 ct17 : Value}
  {f18 : Addr} {od18 an18 : Option Addr} {sl18 : Array (Option Value)} {oc18 kV18 dc18 pm18 cd18 ct18 : Value}
  {f19 : Addr} {od19 an19 : Option Addr} {sl19 : Array (Option Value)} {oc19 kV19 dc19 pm19 cd19 ct19 : Value}
  {f20 : Addr} {od20 an20 : Option Addr} {sl20 : Array (Option Value)} {oc20 kV20 dc20 pm20 cd20 ct20 : Value}
  {f21 : Addr} {od21 an21 : Option Addr} {sl21 : Array (Option Value)} {oc21 kV21 dc21 pm21 cd21 ct21 : Value}
  {Td22 : Addr} {dt22 : Tok} {doc22 : Value} {dod22 : Option Addr} {dn22 : Nat} {dsl22 : Array (Option Value)}
  {f22 : Addr} {od22 an22 : Option Addr} {sl22 : Array (Option Value)} {oc22 kV22 dc22 pm22 cd22 ct22 : Value}
  {f23 : Addr} {od23 an23 : Option Addr} {sl23 : Array (Option Value)} {oc23 kV23 dc23 pm23 cd23 ct23 : Value}
  {f24 : Addr} {od24 an24 : Option Addr} {sl24 : Array (Option Value)} {oc24 kV24 dc24 pm24 cd24 ct24 : Value}
  {f25 : Addr} {od25 an25 : Option Addr} {sl25 : Array (Option Value)} {oc25 kV25 dc25 pm25 cd25 ct25 : Value}
  {f26 : Addr} {od26 an26 : Option Addr} {sl26 : Array (Option Value)} {oc26 kV26 dc26 pm26 cd26 ct26 : Value}
  {f27 : Addr} {od27 an27 : Option Addr} {sl27 : Array (Option Value)} {oc27 kV27 dc27 pm27 cd27 ct27 : Value}
  {f28 : Addr} {od28 an28 : Option Addr} {sl28 : Array (Option Value)} {oc28 kV28 dc28 pm28 cd28 ct28 : Value}
  {f29 : Addr} {od29 an29 : Option Addr} {sl29 : Array (Option Value)} {oc29 kV29 dc29 pm29 cd29 ct29 : Value}
  {f30 : Addr} {od30 an30 : Option Addr} {sl30 : Array (Option Value)} {oc30 kV30 dc30 pm30 cd30 ct30 : Value}
  {f31 : Addr} {od31 an31 : Option Addr} {sl31 : Array (Option Value)} {oc31 kV31 dc31 pm31 cd31 ct31 : Value}
  {Td32 : Addr} {dt32 : Tok} {doc32 : Value} {dod32 : Option Addr} {dn32 : Nat} {dsl32 : Array (Option Value)}
  {f32 : Addr} {od32 an32 : Option Addr} {sl32 : Array (Option Value)} {oc32 kV32 dc32 pm32 cd32 ct32 : Value}
  {f33 : Addr} {od33 an33 : Option Addr} {sl33 : Array (Option Value)} {oc33 kV33 dc33 pm33 cd33 ct33 : Value}
  {f34 : Addr} {od34 an34 : Option Addr} {sl34 : Array (Option Value)} {oc34 kV34 dc34 pm34 cd34 ct34 : Value}
  {f35 : Addr} {od35 an35 : Option Addr} {sl35 : Array (Option Value)} {oc35 kV35 dc35 pm35 cd35 ct35 : Value}
  {f36 : Addr} {od36 an36 : Option Addr} {sl36 : Array (Option Value)} {oc36 kV36 dc36 pm36 cd36 ct36 : Value}
  {f37 : Addr} {od37 an37 : Option Addr} {sl37 : Array (Option Value)} {oc37 kV37 dc37 pm37 cd37 ct37 : Value}
  {f38 : Addr} {od38 an38 : Option Addr} {sl38 : Array (Option Value)} {oc38 kV38 dc38 pm38 cd38 ct38 : Value}
  {f39 : Addr} {od39 an39 : Option Addr} {sl39 : Array (Option Value)} {oc39 kV39 dc39 pm39 cd39 ct39 : Value}
  {f40 : Addr} {od40 an40 : Option Addr} {sl40 : Array (Option Value)} {oc40 kV40 dc40 pm40 cd40 ct40 : Value}
  {xd_Clash xd2_Clash : Option Addr} {xc_Clash xc2_Clash : ClassData} {xs_Clash xs2_Clash : Array (Option Value)} {xb_Clash : List Value} {xk0_Clash xk1_Clash xk2_Clash xk3_Clash xk5_Clash : Option Value}
  (y_Clash : W.nsIn K mainGlobals "Clash" = some (some (.ref C_Clash)))
  (y_KnellError : W.nsIn K mainGlobals "KnellError" = some (some (.ref C_KnellError)))
  (y_NoBeat : W.nsIn K mainGlobals "NoBeat" = some (some (.ref C_NoBeat)))
  (y_NoBell : W.nsIn K mainGlobals "NoBell" = some (some (.ref C_NoBell)))
  (y_NoName : W.nsIn K mainGlobals "NoName" = some (some (.ref C_NoName)))
  (y_TooMany : W.nsIn K mainGlobals "TooMany" = some (some (.ref C_TooMany)))
  (y_Tower : W.nsIn K mainGlobals "Tower" = some (some (.ref C_Tower)))
  (y_Twice : W.nsIn K mainGlobals "Twice" = some (some (.ref C_Twice)))
  (a0 : W.nsIn K mainGlobals "_law_names" = some (some (.ref f0))) (l0 : K.lookup f0 = some ⟨oc0, od0, .func (W.fnOf "_law_names" "_law_names" (defArgs s_l_names) (defBody s_l_names) (defScope s_l_names) .none kV0 dc0 pm0 an0 cd0 ct0), sl0⟩) (c0 : W.codeIn K cd0 "_law_names" = true) (k0 : W.keepIn K (.ref f0) = true)
  (a1 : W.nsIn K mainGlobals "_law_cell_at" = some (some (.ref f1))) (l1 : K.lookup f1 = some ⟨oc1, od1, .func (W.fnOf "_law_cell_at" "_law_cell_at" (defArgs s_l_cell_at) (defBody s_l_cell_at) (defScope s_l_cell_at) .none kV1 dc1 pm1 an1 cd1 ct1), sl1⟩) (c1 : W.codeIn K cd1 "_law_cell_at" = true) (k1 : W.keepIn K (.ref f1) = true)
  (a2 : W.findIn K (.ref C_Clash) "__init__" = some (some (.ref f2))) (i2 : W.isFn K (.ref f2) = true) (l2 : K.lookup f2 = some ⟨oc2, od2, .func (W.fnOf "__init__" "Clash.__init__" (defArgs s_Clash_init) (defBody s_Clash_init) (defScope s_Clash_init) .none kV2 dc2 pm2 an2 cd2 ct2), sl2⟩) (c2 : W.codeIn K cd2 "Clash.__init__" = true) (k2 : W.keepIn K (.ref f2) = true)
  (a3 : W.nsIn K mainGlobals "_law_fields" = some (some (.ref f3))) (l3 : K.lookup f3 = some ⟨oc3, od3, .func (W.fnOf "_law_fields" "_law_fields" (defArgs s_l_fields) (defBody s_l_fields) (defScope s_l_fields) .none kV3 dc3 pm3 an3 cd3 ct3), sl3⟩) (c3 : W.codeIn K cd3 "_law_fields" = true) (k3 : W.keepIn K (.ref f3) = true)
  (a4 : W.nsIn K mainGlobals "_law_kinds" = some (some (.ref f4))) (l4 : K.lookup f4 = some ⟨oc4, od4, .func (W.fnOf "_law_kinds" "_law_kinds" (defArgs s_l_kinds) (defBody s_l_kinds) (defScope s_l_kinds) .none kV4 dc4 pm4 an4 cd4 ct4), sl4⟩) (c4 : W.codeIn K cd4 "_law_kinds" = true) (k4 : W.keepIn K (.ref f4) = true)
  (a5 : W.nsIn K mainGlobals "_law_only" = some (some (.ref f5))) (l5 : K.lookup f5 = some ⟨oc5, od5, .func (W.fnOf "_law_only" "_law_only" (defArgs s_l_only) (defBody s_l_only) (defScope s_l_only) .none kV5 dc5 pm5 an5 cd5 ct5), sl5⟩) (c5 : W.codeIn K cd5 "_law_only" = true) (k5 : W.keepIn K (.ref f5) = true)
  (a6 : W.nsIn K mainGlobals "_law_clash_made" = some (some (.ref f6))) (l6 : K.lookup f6 = some ⟨oc6, od6, .func (W.fnOf "_law_clash_made" "_law_clash_made" (defArgs s_l_clash_made) (defBody s_l_clash_made) (defScope s_l_clash_made) .none kV6 dc6 pm6 an6 cd6 ct6), sl6⟩) (c6 : W.codeIn K cd6 "_law_clash_made" = true) (k6 : W.keepIn K (.ref f6) = true)
  (a7 : W.findIn K (.ref C_Tower) "__init__" = some (some (.ref f7))) (i7 : W.isFn K (.ref f7) = true) (l7 : K.lookup f7 = some ⟨oc7, od7, .func (W.fnOf "__init__" "Tower.__init__" (defArgs s_Tower_init) (defBody s_Tower_init) (defScope s_Tower_init) .none kV7 dc7 pm7 an7 cd7 ct7), sl7⟩) (c7 : W.codeIn K cd7 "Tower.__init__" = true) (k7 : W.keepIn K (.ref f7) = true)
  (a8 : W.findIn K (.ref C_Tower) "bells" = some (some (.ref f8))) (i8 : W.isFn K (.ref f8) = true) (l8 : K.lookup f8 = some ⟨oc8, od8, .func (W.fnOf "bells" "Tower.bells" (defArgs s_Tower_bells) (defBody s_Tower_bells) (defScope s_Tower_bells) .none kV8 dc8 pm8 an8 cd8 ct8), sl8⟩) (c8 : W.codeIn K cd8 "Tower.bells" = true) (k8 : W.keepIn K (.ref f8) = true)
  (a9 : W.nsIn K mainGlobals "_law_whole" = some (some (.ref f9))) (l9 : K.lookup f9 = some ⟨oc9, od9, .func (W.fnOf "_law_whole" "_law_whole" (defArgs s_l_whole) (defBody s_l_whole) (defScope s_l_whole) .none kV9 dc9 pm9 an9 cd9 ct9), sl9⟩) (c9 : W.codeIn K cd9 "_law_whole" = true) (k9 : W.keepIn K (.ref f9) = true)
  (a10 : W.nsIn K mainGlobals "_law_is_beat" = some (some (.ref f10))) (l10 : K.lookup f10 = some ⟨oc10, od10, .func (W.fnOf "_law_is_beat" "_law_is_beat" (defArgs s_l_is_beat) (defBody s_l_is_beat) (defScope s_l_is_beat) .none kV10 dc10 pm10 an10 cd10 ct10), sl10⟩) (c10 : W.codeIn K cd10 "_law_is_beat" = true) (k10 : W.keepIn K (.ref f10) = true)
  (a11 : W.nsIn K mainGlobals "_law_bells" = some (some (.ref f11))) (l11 : K.lookup f11 = some ⟨oc11, od11, .func (W.fnOf "_law_bells" "_law_bells" (defArgs s_l_bells) (defBody s_l_bells) (defScope s_l_bells) .none kV11 dc11 pm11 an11 cd11 ct11), sl11⟩) (c11 : W.codeIn K cd11 "_law_bells" = true) (k11 : W.keepIn K (.ref f11) = true)
  (a12 : W.findIn K (.ref C_Tower) "take" = some (some (.ref f12))) (i12 : W.isFn K (.ref f12) = true) (l12 : K.lookup f12 = some ⟨oc12, od12, .func (W.fnOf "take" "Tower.take" (defArgs s_Tower_take) (defBody s_Tower_take) (defScope s_Tower_take) .none kV12 dc12 pm12 an12 cd12 ct12), sl12⟩) (c12 : W.codeIn K cd12 "Tower.take" = true) (k12 : W.keepIn K (.ref f12) = true)
  (a13 : W.nsIn K mainGlobals "_law_take" = some (some (.ref f13))) (l13 : K.lookup f13 = some ⟨oc13, od13, .func (W.fnOf "_law_take" "_law_take" (defArgs s_l_take) (defBody s_l_take) (defScope s_l_take) .none kV13 dc13 pm13 an13 cd13 ct13), sl13⟩) (c13 : W.codeIn K cd13 "_law_take" = true) (k13 : W.keepIn K (.ref f13) = true)
  (a14 : W.nsIn K mainGlobals "_law_gap" = some (some (.ref f14))) (l14 : K.lookup f14 = some ⟨oc14, od14, .func (W.fnOf "_law_gap" "_law_gap" (defArgs s_l_gap) (defBody s_l_gap) (defScope s_l_gap) .none kV14 dc14 pm14 an14 cd14 ct14), sl14⟩) (c14 : W.codeIn K cd14 "_law_gap" = true) (k14 : W.keepIn K (.ref f14) = true)
  (a15 : W.nsIn K mainGlobals "beat" = some (some (.ref f15))) (l15 : K.lookup f15 = some ⟨oc15, od15, .func (W.fnOf "beat" "beat" (defArgs s_beat) (defBody s_beat) (defScope s_beat) .none kV15 dc15 pm15 an15 cd15 ct15), sl15⟩) (c15 : W.codeIn K cd15 "beat" = true) (k15 : W.keepIn K (.ref f15) = true)
  (a16 : W.findIn K (.ref C_Tower) "hang" = some (some (.ref f16))) (i16 : W.isFn K (.ref f16) = true) (l16 : K.lookup f16 = some ⟨oc16, od16, .func (W.fnOf "hang" "Tower.hang" (defArgs s_Tower_hang) (defBody s_Tower_hang) (defScope s_Tower_hang) (.ref Td16) kV16 dc16 pm16 an16 cd16 ct16), sl16⟩) (c16 : W.codeIn K cd16 "Tower.hang" = true) (k16 : W.keepIn K (.ref f16) = true)
  (dd16 : K.lookup Td16 = some ⟨doc16, dod16, .seq #[.int 24 dt16] dn16, dsl16⟩)
  (a17 : W.nsIn K mainGlobals "_law_hang" = some (some (.ref f17))) (l17 : K.lookup f17 = some ⟨oc17, od17, .func (W.fnOf "_law_hang" "_law_hang" (defArgs s_l_hang) (defBody s_l_hang) (defScope s_l_hang) .none kV17 dc17 pm17 an17 cd17 ct17), sl17⟩) (c17 : W.codeIn K cd17 "_law_hang" = true) (k17 : W.keepIn K (.ref f17) = true)
  (a18 : W.nsIn K mainGlobals "_law_divisor" = some (some (.ref f18))) (l18 : K.lookup f18 = some ⟨oc18, od18, .func (W.fnOf "_law_divisor" "_law_divisor" (defArgs s_l_divisor) (defBody s_l_divisor) (defScope s_l_divisor) .none kV18 dc18 pm18 an18 cd18 ct18), sl18⟩) (c18 : W.codeIn K cd18 "_law_divisor" = true) (k18 : W.keepIn K (.ref f18) = true)
  (a19 : W.nsIn K mainGlobals "_law_trouble" = some (some (.ref f19))) (l19 : K.lookup f19 = some ⟨oc19, od19, .func (W.fnOf "_law_trouble" "_law_trouble" (defArgs s_l_trouble) (defBody s_l_trouble) (defScope s_l_trouble) .none kV19 dc19 pm19 an19 cd19 ct19), sl19⟩) (c19 : W.codeIn K cd19 "_law_trouble" = true) (k19 : W.keepIn K (.ref f19) = true)
  (a20 : W.nsIn K mainGlobals "next_from" = some (some (.ref f20))) (l20 : K.lookup f20 = some ⟨oc20, od20, .func (W.fnOf "next_from" "next_from" (defArgs s_next_from) (defBody s_next_from) (defScope s_next_from) .none kV20 dc20 pm20 an20 cd20 ct20), sl20⟩) (c20 : W.codeIn K cd20 "next_from" = true) (k20 : W.keepIn K (.ref f20) = true)
  (a21 : W.nsIn K mainGlobals "rings" = some (some (.ref f21))) (l21 : K.lookup f21 = some ⟨oc21, od21, .func (W.fnOf "rings" "rings" (defArgs s_rings) (defBody s_rings) (defScope s_rings) .none kV21 dc21 pm21 an21 cd21 ct21), sl21⟩) (c21 : W.codeIn K cd21 "rings" = true) (k21 : W.keepIn K (.ref f21) = true)
  (a22 : W.findIn K (.ref C_Tower) "next_any" = some (some (.ref f22))) (i22 : W.isFn K (.ref f22) = true) (l22 : K.lookup f22 = some ⟨oc22, od22, .func (W.fnOf "next_any" "Tower.next_any" (defArgs s_Tower_next_any) (defBody s_Tower_next_any) (defScope s_Tower_next_any) (.ref Td22) kV22 dc22 pm22 an22 cd22 ct22), sl22⟩) (c22 : W.codeIn K cd22 "Tower.next_any" = true) (k22 : W.keepIn K (.ref f22) = true)
  (dd22 : K.lookup Td22 = some ⟨doc22, dod22, .seq #[.int 0 dt22] dn22, dsl22⟩)
  (a23 : W.nsIn K mainGlobals "less_times" = some (some (.ref f23))) (l23 : K.lookup f23 = some ⟨oc23, od23, .func (W.fnOf "less_times" "less_times" (defArgs s_less_times) (defBody s_less_times) (defScope s_less_times) .none kV23 dc23 pm23 an23 cd23 ct23), sl23⟩) (c23 : W.codeIn K cd23 "less_times" = true) (k23 : W.keepIn K (.ref f23) = true)
  (a24 : W.nsIn K mainGlobals "weights" = some (some (.ref f24))) (l24 : K.lookup f24 = some ⟨oc24, od24, .func (W.fnOf "weights" "weights" (defArgs s_weights) (defBody s_weights) (defScope s_weights) .none kV24 dc24 pm24 an24 cd24 ct24), sl24⟩) (c24 : W.codeIn K cd24 "weights" = true) (k24 : W.keepIn K (.ref f24) = true)
  (a25 : W.nsIn K mainGlobals "least_multiple" = some (some (.ref f25))) (l25 : K.lookup f25 = some ⟨oc25, od25, .func (W.fnOf "least_multiple" "least_multiple" (defArgs s_least_multiple) (defBody s_least_multiple) (defScope s_least_multiple) .none kV25 dc25 pm25 an25 cd25 ct25), sl25⟩) (c25 : W.codeIn K cd25 "least_multiple" = true) (k25 : W.keepIn K (.ref f25) = true)
  (a26 : W.nsIn K mainGlobals "met" = some (some (.ref f26))) (l26 : K.lookup f26 = some ⟨oc26, od26, .func (W.fnOf "met" "met" (defArgs s_met) (defBody s_met) (defScope s_met) .none kV26 dc26 pm26 an26 cd26 ct26), sl26⟩) (c26 : W.codeIn K cd26 "met" = true) (k26 : W.keepIn K (.ref f26) = true)
  (a27 : W.nsIn K mainGlobals "with_first" = some (some (.ref f27))) (l27 : K.lookup f27 = some ⟨oc27, od27, .func (W.fnOf "with_first" "with_first" (defArgs s_with_first) (defBody s_with_first) (defScope s_with_first) .none kV27 dc27 pm27 an27 cd27 ct27), sl27⟩) (c27 : W.codeIn K cd27 "with_first" = true) (k27 : W.keepIn K (.ref f27) = true)
  (a28 : W.nsIn K mainGlobals "weights_of_shares" = some (some (.ref f28))) (l28 : K.lookup f28 = some ⟨oc28, od28, .func (W.fnOf "weights_of_shares" "weights_of_shares" (defArgs s_weights_of_shares) (defBody s_weights_of_shares) (defScope s_weights_of_shares) .none kV28 dc28 pm28 an28 cd28 ct28), sl28⟩) (c28 : W.codeIn K cd28 "weights_of_shares" = true) (k28 : W.keepIn K (.ref f28) = true)
  (a29 : W.nsIn K mainGlobals "clash" = some (some (.ref f29))) (l29 : K.lookup f29 = some ⟨oc29, od29, .func (W.fnOf "clash" "clash" (defArgs s_clash) (defBody s_clash) (defScope s_clash) .none kV29 dc29 pm29 an29 cd29 ct29), sl29⟩) (c29 : W.codeIn K cd29 "clash" = true) (k29 : W.keepIn K (.ref f29) = true)
  (a30 : W.nsIn K mainGlobals "told_clash" = some (some (.ref f30))) (l30 : K.lookup f30 = some ⟨oc30, od30, .func (W.fnOf "told_clash" "told_clash" (defArgs s_told_clash) (defBody s_told_clash) (defScope s_told_clash) .none kV30 dc30 pm30 an30 cd30 ct30), sl30⟩) (c30 : W.codeIn K cd30 "told_clash" = true) (k30 : W.keepIn K (.ref f30) = true)
  (a31 : W.nsIn K mainGlobals "together" = some (some (.ref f31))) (l31 : K.lookup f31 = some ⟨oc31, od31, .func (W.fnOf "together" "together" (defArgs s_together) (defBody s_together) (defScope s_together) .none kV31 dc31 pm31 an31 cd31 ct31), sl31⟩) (c31 : W.codeIn K cd31 "together" = true) (k31 : W.keepIn K (.ref f31) = true)
  (a32 : W.findIn K (.ref C_Tower) "next_together" = some (some (.ref f32))) (i32 : W.isFn K (.ref f32) = true) (l32 : K.lookup f32 = some ⟨oc32, od32, .func (W.fnOf "next_together" "Tower.next_together" (defArgs s_Tower_next_together) (defBody s_Tower_next_together) (defScope s_Tower_next_together) (.ref Td32) kV32 dc32 pm32 an32 cd32 ct32), sl32⟩) (c32 : W.codeIn K cd32 "Tower.next_together" = true) (k32 : W.keepIn K (.ref f32) = true)
  (dd32 : K.lookup Td32 = some ⟨doc32, dod32, .seq #[.int 0 dt32] dn32, dsl32⟩)
  (a33 : W.nsIn K mainGlobals "_law_asked" = some (some (.ref f33))) (l33 : K.lookup f33 = some ⟨oc33, od33, .func (W.fnOf "_law_asked" "_law_asked" (defArgs s_l_asked) (defBody s_l_asked) (defScope s_l_asked) .none kV33 dc33 pm33 an33 cd33 ct33), sl33⟩) (c33 : W.codeIn K cd33 "_law_asked" = true) (k33 : W.keepIn K (.ref f33) = true)
  (a34 : W.nsIn K mainGlobals "_law_all_ring" = some (some (.ref f34))) (l34 : K.lookup f34 = some ⟨oc34, od34, .func (W.fnOf "_law_all_ring" "_law_all_ring" (defArgs s_l_all_ring) (defBody s_l_all_ring) (defScope s_l_all_ring) .none kV34 dc34 pm34 an34 cd34 ct34), sl34⟩) (c34 : W.codeIn K cd34 "_law_all_ring" = true) (k34 : W.keepIn K (.ref f34) = true)
  (a35 : W.nsIn K mainGlobals "_law_some_ring" = some (some (.ref f35))) (l35 : K.lookup f35 = some ⟨oc35, od35, .func (W.fnOf "_law_some_ring" "_law_some_ring" (defArgs s_l_some_ring) (defBody s_l_some_ring) (defScope s_l_some_ring) .none kV35 dc35 pm35 an35 cd35 ct35), sl35⟩) (c35 : W.codeIn K cd35 "_law_some_ring" = true) (k35 : W.keepIn K (.ref f35) = true)
  (a36 : W.nsIn K mainGlobals "_law_name" = some (some (.ref f36))) (l36 : K.lookup f36 = some ⟨oc36, od36, .func (W.fnOf "_law_name" "_law_name" (defArgs s_l_name) (defBody s_l_name) (defScope s_l_name) .none kV36 dc36 pm36 an36 cd36 ct36), sl36⟩) (c36 : W.codeIn K cd36 "_law_name" = true) (k36 : W.keepIn K (.ref f36) = true)
  (a37 : W.nsIn K mainGlobals "_law_done" = some (some (.ref f37))) (l37 : K.lookup f37 = some ⟨oc37, od37, .func (W.fnOf "_law_done" "_law_done" (defArgs s_l_done) (defBody s_l_done) (defScope s_l_done) .none kV37 dc37 pm37 an37 cd37 ct37), sl37⟩) (c37 : W.codeIn K cd37 "_law_done" = true) (k37 : W.keepIn K (.ref f37) = true)
  (a38 : W.nsIn K mainGlobals "_law_new_name" = some (some (.ref f38))) (l38 : K.lookup f38 = some ⟨oc38, od38, .func (W.fnOf "_law_new_name" "_law_new_name" (defArgs s_l_new_name) (defBody s_l_new_name) (defScope s_l_new_name) .none kV38 dc38 pm38 an38 cd38 ct38), sl38⟩) (c38 : W.codeIn K cd38 "_law_new_name" = true) (k38 : W.keepIn K (.ref f38) = true)
  (a39 : W.nsIn K mainGlobals "_law_made_good" = some (some (.ref f39))) (l39 : K.lookup f39 = some ⟨oc39, od39, .func (W.fnOf "_law_made_good" "_law_made_good" (defArgs s_l_made_good) (defBody s_l_made_good) (defScope s_l_made_good) .none kV39 dc39 pm39 an39 cd39 ct39), sl39⟩) (c39 : W.codeIn K cd39 "_law_made_good" = true) (k39 : W.keepIn K (.ref f39) = true)
  (a40 : W.nsIn K mainGlobals "law" = some (some (.ref f40))) (l40 : K.lookup f40 = some ⟨oc40, od40, .func (W.fnOf "law" "law" (defArgs s_law) (defBody s_law) (defScope s_law) .none kV40 dc40 pm40 an40 cd40 ct40), sl40⟩) (c40 : W.codeIn K cd40 "law" = true) (k40 : W.keepIn K (.ref f40) = true)
  (z_ValueError : W.nsIn K mainGlobals "ValueError" = some none)
  (z_bool : W.nsIn K mainGlobals "bool" = some none)
  (z_enumerate : W.nsIn K mainGlobals "enumerate" = some none)
  (z_int : W.nsIn K mainGlobals "int" = some none)
  (z_isinstance : W.nsIn K mainGlobals "isinstance" = some none)
  (z_len : W.nsIn K mainGlobals "len" = some none)
  (z_list : W.nsIn K mainGlobals "list" = some none)
  (z_min : W.nsIn K mainGlobals "min" = some none)
  (z_range : W.nsIn K mainGlobals "range" = some none)
  (z_str : W.nsIn K mainGlobals "str" = some none)
  (z_sum : W.nsIn K mainGlobals "sum" = some none)
  (z_tuple : W.nsIn K mainGlobals "tuple" = some none)
  (z_zip : W.nsIn K mainGlobals "zip" = some none)
  (x1_Clash : W.findIn K (.ref C_Clash) "__getattribute__" = some (some (.builtin "BaseException.__getattribute__"))) (x2_Clash : W.findIn K (.ref C_Clash) "__getattr__" = some none) (x3_Clash : W.findIn K (.ref C_Clash) "__class__" = some (some (.builtin "object.__class__")))
  (x5_Clash : K.lookup C_NoBeat = some ⟨.type "type", xd2_Clash, .cls xc2_Clash, xs2_Clash⟩) (x6_Clash : xc2_Clash.mro = .ref C_NoBeat :: xb_Clash) (x7_Clash : K.lookup C_Clash = some ⟨.type "type", xd_Clash, .cls xc_Clash, xs_Clash⟩) (x8_Clash : xc_Clash.mro = .ref C_Clash :: xb_Clash) (x9_Clash : xs_Clash.toList = [xk0_Clash, xk1_Clash, xk2_Clash, xk3_Clash, some (.builtin "ValueError.__new__"), xk5_Clash]) (x0_Clash : xc_Clash.hasDel = false)
  (x1_NoBeat : W.findIn K (.ref C_NoBeat) "__getattribute__" = some (some (.builtin "BaseException.__getattribute__"))) (x2_NoBeat : W.findIn K (.ref C_NoBeat) "__getattr__" = some none) (x3_NoBeat : W.findIn K (.ref C_NoBeat) "__class__" = some (some (.builtin "object.__class__")))
  (x4_NoBeat : W.excIn K C_NoBeat veMro "ValueError.__new__" = true)
  (x1_NoBell : W.findIn K (.ref C_NoBell) "__getattribute__" = some (some (.builtin "BaseException.__getattribute__"))) (x2_NoBell : W.findIn K (.ref C_NoBell) "__getattr__" = some none) (x3_NoBell : W.findIn K (.ref C_NoBell) "__class__" = some (some (.builtin "object.__class__")))
  (x4_NoBell : W.excIn K C_NoBell veMro "ValueError.__new__" = true)
  (x1_NoName : W.findIn K (.ref C_NoName) "__getattribute__" = some (some (.builtin "BaseException.__getattribute__"))) (x2_NoName : W.findIn K (.ref C_NoName) "__getattr__" = some none) (x3_NoName : W.findIn K (.ref C_NoName) "__class__" = some (some (.builtin "object.__class__")))
  (x4_NoName : W.excIn K C_NoName veMro "ValueError.__new__" = true)
  (x1_Twice : W.findIn K (.ref C_Twice) "__getattribute__" = some (some (.builtin "BaseException.__getattribute__"))) (x2_Twice : W.findIn K (.ref C_Twice) "__getattr__" = some none) (x3_Twice : W.findIn K (.ref C_Twice) "__class__" = some (some (.builtin "object.__class__")))
  (x4_Twice : W.excIn K C_Twice veMro "ValueError.__new__" = true)
  (s1_Clash : W.findIn K (.ref C_Clash) "__setattr__" = some (some (.builtin "object.__setattr__"))) (s2_Clash : W.mroIn K C_Clash (.type "object") = some true) (s3_Clash : W.hasDictIn K C_Clash = true) (s4_Clash : W.keepIn K (.ref C_Clash) = true)
  (s1_Tower : W.plainGet K C_Tower Str.empty = true) (s2_Tower : W.hasDictIn K C_Tower = true) (s3_Tower : W.plainOver K C_Tower = true) (s4_Tower : W.findIn K (.ref C_Tower) "__setattr__" = some (some (.builtin "object.__setattr__"))) (s5_Tower : W.makesIn K C_Tower = true) (s6_Tower : W.keepIn K (.ref C_Tower) = true)
  (na_Clash_divisor : W.findIn K (.ref C_Clash) "divisor" = some none)
  (na_Clash_first : W.findIn K (.ref C_Clash) "first" = some none)
  (na_Clash_second : W.findIn K (.ref C_Clash) "second" = some none)
  (na_Tower_hung : W.findIn K (.ref C_Tower) "hung" = some none)
  (w_Clash_Clash : W.kitOne K (.ref C_Clash) (.ref C_Clash) = some true)
  (w_Clash_NoBeat : W.kitOne K (.ref C_Clash) (.ref C_NoBeat) = some false)
  (w_Clash_NoBell : W.kitOne K (.ref C_Clash) (.ref C_NoBell) = some false)
  (w_Clash_NoName : W.kitOne K (.ref C_Clash) (.ref C_NoName) = some false)
  (w_Clash_TooMany : W.kitOne K (.ref C_Clash) (.ref C_TooMany) = some false)
  (w_Clash_Twice : W.kitOne K (.ref C_Clash) (.ref C_Twice) = some false)
  (w_Clash_ValueError : W.kitOne K (.ref C_Clash) (.type "ValueError") = some true)
  (w_NoBeat_Clash : W.kitOne K (.ref C_NoBeat) (.ref C_Clash) = some false)
  (w_NoBeat_NoBeat : W.kitOne K (.ref C_NoBeat) (.ref C_NoBeat) = some true)
  (w_NoBeat_NoBell : W.kitOne K (.ref C_NoBeat) (.ref C_NoBell) = some false)
  (w_NoBeat_NoName : W.kitOne K (.ref C_NoBeat) (.ref C_NoName) = some false)
  (w_NoBeat_TooMany : W.kitOne K (.ref C_NoBeat) (.ref C_TooMany) = some false)
  (w_NoBeat_Twice : W.kitOne K (.ref C_NoBeat) (.ref C_Twice) = some false)
  (w_NoBeat_ValueError : W.kitOne K (.ref C_NoBeat) (.type "ValueError") = some true)
  (w_NoBell_Clash : W.kitOne K (.ref C_NoBell) (.ref C_Clash) = some false)
  (w_NoBell_NoBeat : W.kitOne K (.ref C_NoBell) (.ref C_NoBeat) = some false)
  (w_NoBell_NoBell : W.kitOne K (.ref C_NoBell) (.ref C_NoBell) = some true)
  (w_NoBell_NoName : W.kitOne K (.ref C_NoBell) (.ref C_NoName) = some false)
  (w_NoBell_TooMany : W.kitOne K (.ref C_NoBell) (.ref C_TooMany) = some false)
  (w_NoBell_Twice : W.kitOne K (.ref C_NoBell) (.ref C_Twice) = some false)
  (w_NoBell_ValueError : W.kitOne K (.ref C_NoBell) (.type "ValueError") = some true)
  (w_NoName_Clash : W.kitOne K (.ref C_NoName) (.ref C_Clash) = some false)
  (w_NoName_NoBeat : W.kitOne K (.ref C_NoName) (.ref C_NoBeat) = some false)
  (w_NoName_NoBell : W.kitOne K (.ref C_NoName) (.ref C_NoBell) = some false)
  (w_NoName_NoName : W.kitOne K (.ref C_NoName) (.ref C_NoName) = some true)
  (w_NoName_TooMany : W.kitOne K (.ref C_NoName) (.ref C_TooMany) = some false)
  (w_NoName_Twice : W.kitOne K (.ref C_NoName) (.ref C_Twice) = some false)
  (w_NoName_ValueError : W.kitOne K (.ref C_NoName) (.type "ValueError") = some true)
  (w_Twice_Clash : W.kitOne K (.ref C_Twice) (.ref C_Clash) = some false)
  (w_Twice_NoBeat : W.kitOne K (.ref C_Twice) (.ref C_NoBeat) = some false)
  (w_Twice_NoBell : W.kitOne K (.ref C_Twice) (.ref C_NoBell) = some false)
  (w_Twice_NoName : W.kitOne K (.ref C_Twice) (.ref C_NoName) = some false)
  (w_Twice_TooMany : W.kitOne K (.ref C_Twice) (.ref C_TooMany) = some false)
  (w_Twice_Twice : W.kitOne K (.ref C_Twice) (.ref C_Twice) = some true)
  (w_Twice_ValueError : W.kitOne K (.ref C_Twice) (.type "ValueError") = some true)
  (v_Clash_KnellError : W.exmOne K (.ref C_Clash) (.ref C_KnellError) = some true)
  (v_NoBeat_KnellError : W.exmOne K (.ref C_NoBeat) (.ref C_KnellError) = some true)
  (v_NoBell_KnellError : W.exmOne K (.ref C_NoBell) (.ref C_KnellError) = some true)
  (v_NoName_KnellError : W.exmOne K (.ref C_NoName) (.ref C_KnellError) = some true)
  (v_Twice_KnellError : W.exmOne K (.ref C_Twice) (.ref C_KnellError) = some true) :
  ∃ fd : FuncData, (∀ (s : Shared) (v : Value), BindsTo s fd ⟨[v], []⟩ [("_law_script", v)]) ∧ ∀ base : Heap, K.In base → base.Ns mainGlobals mg → FnOk l.prog w K mg base CX0 10 fa fd ["_law_script"] (sp_law K) := by
 have e := hfa.symm.trans (W.mg_of X G a40)
 cases e
 let cs : Cls := ⟨C_Clash, C_KnellError, C_NoBeat, C_NoBell, C_NoName, C_TooMany, C_Tower, C_Twice⟩
 have x4_Clash := excX_mk x4_NoBeat x5_Clash x6_Clash x7_Clash x8_Clash x9_Clash x0_Clash
 have T : Txt K mg cs := ⟨W.mg_none_of X G z_ValueError, W.mg_none_of X G z_bool, W.mg_none_of X G z_enumerate, W.mg_none_of X G z_int, W.mg_none_of X G z_isinstance, W.mg_none_of X G z_len, W.mg_none_of X G z_list, W.mg_none_of X G z_min, W.mg_none_of X G z_range, W.mg_none_of X G z_str, W.mg_none_of X G z_sum, W.mg_none_of X G z_tuple, W.mg_none_of X G z_zip, W.mg_of X G y_Clash, W.mg_of X G y_KnellError, W.mg_of X G y_NoBeat, W.mg_of X G y_NoBell, W.mg_of X G y_NoName, W.mg_of X G y_TooMany, W.mg_of X G y_Tower, W.mg_of X G y_Twice, ⟨x1_Clash, x2_Clash, x3_Clash, x4_Clash⟩, ⟨x1_NoBeat, x2_NoBeat, x3_NoBeat, (ExcIs.zero x4_NoBeat)⟩, x4_NoBeat, ⟨x1_NoBell, x2_NoBell, x3_NoBell, (ExcIs.zero x4_NoBell)⟩, x4_NoBell, ⟨x1_NoName, x2_NoName, x3_NoName, (ExcIs.zero x4_NoName)⟩, x4_NoName, ⟨x1_Twice, x2_Twice, x3_Twice, (ExcIs.zero x4_Twice)⟩, x4_Twice, ⟨fun X => ExcIs0.obj x4_Clash X, s1_Clash, s2_Clash, s3_Clash⟩, ⟨s1_Tower, s2_Tower, s3_Tower, s4_Tower⟩, na_Clash_divisor, na_Clash_first, na_Clash_second, na_Tower_hung, w_Clash_Clash, w_Clash_NoBeat, w_Clash_NoBell, w_Clash_NoName, w_Clash_TooMany, w_Clash_Twice, w_Clash_ValueError, w_NoBeat_Clash, w_NoBeat_NoBeat, w_NoBeat_NoBell, w_NoBeat_NoName, w_NoBeat_TooMany, w_NoBeat_Twice, w_NoBeat_ValueError, w_NoBell_Clash, w_NoBell_NoBeat, w_NoBell_NoBell, w_NoBell_NoName, w_NoBell_TooMany, w_NoBell_Twice, w_NoBell_ValueError, w_NoName_Clash, w_NoName_NoBeat, w_NoName_NoBell, w_NoName_NoName, w_NoName_TooMany, w_NoName_Twice, w_NoName_ValueError, w_Twice_Clash, w_Twice_NoBeat, w_Twice_NoBell, w_Twice_NoName, w_Twice_TooMany, w_Twice_Twice, w_Twice_ValueError, v_Clash_KnellError, v_NoBeat_KnellError, v_NoBell_KnellError, v_NoName_KnellError, v_Twice_KnellError⟩
 have F0 := fun_mk (st := s_l_names) l0 c0 k0
 have F1 := fun_mk (st := s_l_cell_at) l1 c1 k1
 have F2 := fun_mk (st := s_Clash_init) l2 c2 k2
 have F3 := fun_mk (st := s_l_fields) l3 c3 k3
 have F4 := fun_mk (st := s_l_kinds) l4 c4 k4
 have F5 := fun_mk (st := s_l_only) l5 c5 k5
 have F6 := fun_mk (st := s_l_clash_made) l6 c6 k6
 have F7 := fun_mk (st := s_Tower_init) l7 c7 k7
 have F8 := fun_mk (st := s_Tower_bells) l8 c8 k8
 have F9 := fun_mk (st := s_l_whole) l9 c9 k9
 have F10 := fun_mk (st := s_l_is_beat) l10 c10 k10
 have F11 := fun_mk (st := s_l_bells) l11 c11 k11
 have F12 := fun_mk (st := s_Tower_take) l12 c12 k12
 have F13 := fun_mk (st := s_l_take) l13 c13 k13
 have F14 := fun_mk (st := s_l_gap) l14 c14 k14
 have F15 := fun_mk (st := s_beat) l15 c15 k15
 have F16 := fund_mk (st := s_Tower_hang) (ds := [.int 24 dt16]) l16 c16 k16 dd16 rfl
 have F17 := fun_mk (st := s_l_hang) l17 c17 k17
 have F18 := fun_mk (st := s_l_divisor) l18 c18 k18
 have F19 := fun_mk (st := s_l_trouble) l19 c19 k19
 have F20 := fun_mk (st := s_next_from) l20 c20 k20
 have F21 := fun_mk (st := s_rings) l21 c21 k21
 have F22 := fund_mk (st := s_Tower_next_any) (ds := [.int 0 dt22]) l22 c22 k22 dd22 rfl
 have F23 := fun_mk (st := s_less_times) l23 c23 k23
 have F24 := fun_mk (st := s_weights) l24 c24 k24
 have F25 := fun_mk (st := s_least_multiple) l25 c25 k25
 have F26 := fun_mk (st := s_met) l26 c26 k26
 have F27 := fun_mk (st := s_with_first) l27 c27 k27
 have F28 := fun_mk (st := s_weights_of_shares) l28 c28 k28
 have F29 := fun_mk (st := s_clash) l29 c29 k29
 have F30 := fun_mk (st := s_told_clash) l30 c30 k30
 have F31 := fun_mk (st := s_together) l31 c31 k31
 have F32 := fund_mk (st := s_Tower_next_together) (ds := [.int 0 dt32]) l32 c32 k32 dd32 rfl
 have F33 := fun_mk (st := s_l_asked) l33 c33 k33
 have F34 := fun_mk (st := s_l_all_ring) l34 c34 k34
 have F35 := fun_mk (st := s_l_some_ring) l35 c35 k35
 have F36 := fun_mk (st := s_l_name) l36 c36 k36
 have F37 := fun_mk (st := s_l_done) l37 c37 k37
 have F38 := fun_mk (st := s_l_new_name) l38 c38 k38
 have F39 := fun_mk (st := s_l_made_good) l39 c39 k39
 have F40 := fun_mk (st := s_law) l40 c40 k40
 refine ⟨W.fnOf "law" "law" (defArgs s_law) (defBody s_law) (defScope s_law) .none kV40 dc40 pm40 an40 cd40 ct40, fun s v => .of_eq rfl, fun base _ _ => ?_⟩
 have D0 := dn_mk X G l.prog w base F0 (ok_l_names F0 T ) a0 (by walk_at "bs")
 have D1 := dn_mk X G l.prog w base F1 (ok_l_cell_at F1 T ) a1 (by walk_at "bs")
 have D2 : MakeXOk l.prog w K mg base cs.Clash 1 ["self", "first", "second", "divisor"] (sp_Clash_init K cs) := ⟨_, _, ⟨T.xc_Clash, a2, i2, s4_Clash⟩, ok_Clash_init F2 T , F2.binds (fun _ _ _ _ _ _ us hl => match us, hl with | [_, _, _, _], _ => rfl)⟩
 have D3 : DnH l.prog w K mg base "_law_fields" 1 ["_law_e"] (sp_l_fields K cs) := ⟨_, _, ok_l_fields F3 T , F3.binds (fun _ _ _ _ _ _ us hl => match us, hl with | [_], _ => rfl), W.mg_of X G a3, k3⟩
 have D4 : DnH l.prog w K mg base "_law_kinds" 1 ["_law_e"] (sp_l_kinds K cs) := ⟨_, _, ok_l_kinds F4 T , F4.binds (fun _ _ _ _ _ _ us hl => match us, hl with | [_], _ => rfl), W.mg_of X G a4, k4⟩
 have D5 := dn_mk X G l.prog w base F5 (ok_l_only F5 T ) a5 (by walk_at "bs")
 have D6 := dn_mk X G l.prog w base F6 (ok_l_clash_made F6 T D2 D3 D4 D5) a6 (by walk_at "bs")
 have D7 : MakeOk l.prog w K mg base cs.Tower 1 ["self"] (sp_Tower_init K cs) := ⟨_, _, ⟨s5_Tower, a7, i7, s6_Tower⟩, ok_Tower_init F7 T , F7.binds (fun _ _ _ _ _ _ us hl => match us, hl with | [_], _ => rfl)⟩
 have D8 : MethOk l.prog w K mg base CX0 cs.Tower "bells" 1 ["self"] (sp_Tower_bells K cs) := ⟨⟨_, _, ⟨a8, i8, k8⟩, ok_Tower_bells F8 T , F8.binds (fun _ _ _ _ _ _ us hl => match us, hl with | [_], _ => rfl)⟩, T.cl_Tower⟩
 have D9 := dn_mk X G l.prog w base F9 (ok_l_whole F9 T ) a9 (by walk_at "bs")
 have D10 := dn_mk X G l.prog w base F10 (ok_l_is_beat F10 T D9) a10 (by walk_at "bs")
 have D11 := dn_mk X G l.prog w base F11 (ok_l_bells F11 T D8 D10) a11 (by walk_at "bs")
 have D12 : MethOk l.prog w K mg base (CX1 l.prog w) cs.Tower "take" 1 ["self", "name"] (sp_Tower_take K cs) := ⟨⟨_, _, ⟨a12, i12, k12⟩, ok_Tower_take F12 T , F12.binds (fun _ _ _ _ _ _ us hl => match us, hl with | [_, _], _ => rfl)⟩, T.cl_Tower⟩
 have D13 := dn_mk X G l.prog w base F13 (ok_l_take F13 T D12 D10 D4 D5) a13 (by walk_at "bs")
 have D14 := dn_mk X G l.prog w base F14 (ok_l_gap F14 T ) a14 (by walk_at "bs")
 have D15 := dnX_mk X G l.prog w base F15 (ok_beat F15 T ) a15 (by walk_at "bs")
 have D16 : MethD l.prog w K mg base (CX1 l.prog w) cs.Tower "hang" 2 ["self", "name", "first", "gap"] [.int 24] "gap" (sp_Tower_hang K cs) := ⟨⟨_, _, _, ⟨a16, i16, k16⟩, ok_Tower_hang F16 T D15, F16.binds (fun _ _ _ _ _ _ us hl => match us, hl with | [_, _, _, _], _ => ⟨_, rfl, rfl⟩), F16.bindsD rfl (fun _ _ _ _ _ _ us hl => match us, hl with | [_, _, _], _ => ⟨_, rfl, rfl⟩), .cons ⟨_, rfl⟩ .nil, F16.bindsK (fun z => nomatch z) (fun _ _ _ _ _ _ us _ hl => match us, hl with | [_, _, _], _ => ⟨_, rfl, rfl⟩)⟩, T.cl_Tower⟩
 have D17 := dn_mk X G l.prog w base F17 (ok_l_hang F17 T D16 D4 D5) a17 (by walk_at "bs")
 have D18 := dn_mk X G l.prog w base F18 (ok_l_divisor F18 T ) a18 (by walk_at "bs")
 have D19 := dn_mk X G l.prog w base F19 (ok_l_trouble F19 T D18) a19 (by walk_at "bs")
 have D20 := dn_mk X G l.prog w base F20 (ok_next_from F20 T ) a20 (by walk_at "bs")
 have D21 := dn_mk X G l.prog w base F21 (ok_rings F21 T ) a21 (by walk_at "bs")
 have D22 : MethD l.prog w K mg base (CX1 l.prog w) cs.Tower "next_any" 2 ["self", "moment"] [.int 0] "moment" (sp_Tower_next_any K cs) := ⟨⟨_, _, _, ⟨a22, i22, k22⟩, ok_Tower_next_any F22 T D20 D21, F22.binds (fun _ _ _ _ _ _ us hl => match us, hl with | [_, _], _ => ⟨_, rfl, rfl⟩), F22.bindsD rfl (fun _ _ _ _ _ _ us hl => match us, hl with | [_], _ => ⟨_, rfl, rfl⟩), .cons ⟨_, rfl⟩ .nil, F22.bindsK (fun z => nomatch z) (fun _ _ _ _ _ _ us _ hl => match us, hl with | [_], _ => ⟨_, rfl, rfl⟩)⟩, T.cl_Tower⟩
 have D23 := dn_mk X G l.prog w base F23 (ok_less_times F23 T ) a23 (by walk_at "bs")
 have D24 := dn_mk X G l.prog w base F24 (ok_weights F24 T D23) a24 (by walk_at "bs")
 have D25 := dn_mk X G l.prog w base F25 (ok_least_multiple F25 T D24) a25 (by walk_at "bs")
 have D26 := dn_mk X G l.prog w base F26 (ok_met F26 T D24 D15 D25) a26 (by walk_at "bs")
 have D27 := dn_mk X G l.prog w base F27 (ok_with_first F27 T ) a27 (by walk_at "bs")
 have D28 := dn_mk X G l.prog w base F28 (ok_weights_of_shares F28 T D27 D24) a28 (by walk_at "bs")
 have D29 := dn_mk X G l.prog w base F29 (ok_clash F29 T D24) a29 (by walk_at "bs")
 have D30 := dn_mk X G l.prog w base F30 (ok_told_clash F30 T D29) a30 (by walk_at "bs")
 have D31 := dn_mk X G l.prog w base F31 (ok_together F31 T D26 D28 D30) a31 (by walk_at "bs")
 have D32 : MethD l.prog w K mg base (CX1 l.prog w) cs.Tower "next_together" 6 ["self", "moment"] [.int 0] "moment" (sp_Tower_next_together K cs) := ⟨⟨_, _, _, ⟨a32, i32, k32⟩, ok_Tower_next_together F32 T D31 D20 D2, F32.binds (fun _ _ _ _ _ _ us hl => match us, hl with | [_, _], _ => ⟨_, rfl, rfl⟩), F32.bindsD rfl (fun _ _ _ _ _ _ us hl => match us, hl with | [_], _ => ⟨_, rfl, rfl⟩), .cons ⟨_, rfl⟩ .nil, F32.bindsK (fun z => nomatch z) (fun _ _ _ _ _ _ us _ hl => match us, hl with | [_], _ => ⟨_, rfl, rfl⟩)⟩, T.cl_Tower⟩
 have D33 := dnX_mk X G l.prog w base F33 (ok_l_asked F33 T D22 D32) a33 (by walk_at "bs")
 have D34 := dn_mk X G l.prog w base F34 (ok_l_all_ring F34 T D19 D33 D4 D3 D9 D5 D18) a34 (by walk_at "bs")
 have D35 := dn_mk X G l.prog w base F35 (ok_l_some_ring F35 T D33 D4 D9 D5) a35 (by walk_at "bs")
 have D36 := dn_mk X G l.prog w base F36 (ok_l_name F36 T ) a36 (by walk_at "bs")
 have D37 := dn_mk X G l.prog w base F37 (ok_l_done F37 T D11 D13 D14 D17 D34 D35 D36 D1) a37 (by walk_at "bs")
 have D38 := dn_mk X G l.prog w base F38 (ok_l_new_name F38 T ) a38 (by walk_at "bs")
 have D39 := dn_mk X G l.prog w base F39 (ok_l_made_good F39 T D38 D11 D19 D34 D13 D17 D35) a39 (by walk_at "bs")
 exact ok_law F40 T D0 D1 D6 D7 D37 D39
theorem walk {l : W.OpenLaw} {q : Program} {loose : List Str} {XP : (Str → Option Value) → Heap → Prop} {YP : World → Heap → Prop} {d : DefRec} {K : Params → W.Frag} (hn : l.most = some 63) (hdf : d.params.defaults = [])
  (hY : ∀ (w : World) (h : Heap), YP w h → (K w.params).In h)
  (F : ∀ (w : World) (mg : Str → Option Value) (fa : Addr) (h : Heap), (K w.params).In h → h.Ns mainGlobals mg → mg d.name = some (.ref fa) →
   ∃ fd : FuncData, (∀ (s : Shared) (u : Value), BindsTo s fd ⟨[u], []⟩ [("_law_script", u)]) ∧ ∀ base : Heap, (K w.params).In base → base.Ns mainGlobals mg → FnOk l.prog w (K w.params) mg base CX0 10 fa fd ["_law_script"] (sp_law (K w.params))) :
  W.WalkO q loose XP YP l.row.toRowW d [] (fun f vs => PySem.call f vs) :=
 L2.walk_of (n := 63) (k := 10) (x := "_law_script") (CX := fun _ => CX0) (sp := fun w => sp_law (K w.params)) hn (by decide) hdf ⟨rfl, by decide, by decide⟩ hY F (fun _ _ a ns hl _ hS => ⟨a, ns, rfl, hS, hl, fun _ => rfl⟩) fun _ _ _ _ _ z => z
end Kn
open PySem PySem.W PyProof.Rows
set_option maxRecDepth 100000 in
set_option maxHeartbeats 0 in
theorem PySem.Challenge.cw_knell_k10_whole_tower_holds : PySem.Challenge.rw_knell_k10_whole_tower.Holds := by
 w_on; o_law; k_head; (case hw => w_witness2)
 k_fill
 refine Kn.walk (l := PySem.Challenge.rw_knell_k10_whole_tower) rfl rfl (fun w h Y => PySem.W.kIn_of Y) ?F
 case F =>
  intro w mg fa h KX G hmg
  refine' Kn.all_mk KX G hmg ?y_Clash ?y_KnellError ?y_NoBeat ?y_NoBell ?y_NoName ?y_TooMany ?y_Tower ?y_Twice ?a0 ?l0 ?c0 ?k0 ?a1 ?l1 ?c1 ?k1 ?a2 ?i2 ?l2 ?c2 ?k2 ?a3 ?l3 ?c3 ?k3 ?a4 ?l4 ?c4 ?k4 ?a5 ?l5 ?c5 ?k5 ?a6 ?l6 ?c6 ?k6 ?a7 ?i7 ?l7 ?c7 ?k7 ?a8 ?i8 ?l8 ?c8 ?k8 ?a9 ?l9 ?c9 ?k9 ?a10 ?l10 ?c10 ?k10 ?a11 ?l11 ?c11 ?k11 ?a12 ?i12 ?l12 ?c12 ?k12 ?a13 ?l13 ?c13 ?k13 ?a14 ?l14 ?c14 ?k14 ?a15 ?l15 ?c15 ?k15 ?a16 ?i16 ?l16 ?c16 ?k16 ?dd16 ?a17 ?l17 ?c17 ?k17 ?a18 ?l18 ?c18 ?k18 ?a19 ?l19 ?c19 ?k19 ?a20 ?l20 ?c20 ?k20 ?a21 ?l21 ?c21 ?k21 ?a22 ?i22 ?l22 ?c22 ?k22 ?dd22 ?a23 ?l23 ?c23 ?k23 ?a24 ?l24 ?c24 ?k24 ?a25 ?l25 ?c25 ?k25 ?a26 ?l26 ?c26 ?k26 ?a27 ?l27 ?c27 ?k27 ?a28 ?l28 ?c28 ?k28 ?a29 ?l29 ?c29 ?k29 ?a30 ?l30 ?c30 ?k30 ?a31 ?l31 ?c31 ?k31 ?a32 ?i32 ?l32 ?c32 ?k32 ?dd32 ?a33 ?l33 ?c33 ?k33 ?a34 ?l34 ?c34 ?k34 ?a35 ?l35 ?c35 ?k35 ?a36 ?l36 ?c36 ?k36 ?a37 ?l37 ?c37 ?k37 ?a38 ?l38 ?c38 ?k38 ?a39 ?l39 ?c39 ?k39 ?a40 ?l40 ?c40 ?k40 ?z_ValueError ?z_bool ?z_enumerate ?z_int ?z_isinstance ?z_len ?z_list ?z_min ?z_range ?z_str ?z_sum ?z_tuple ?z_zip ?x1_Clash ?x2_Clash ?x3_Clash ?x5_Clash ?x6_Clash ?x7_Clash ?x8_Clash ?x9_Clash ?x0_Clash ?x1_NoBeat ?x2_NoBeat ?x3_NoBeat ?x4_NoBeat ?x1_NoBell ?x2_NoBell ?x3_NoBell ?x4_NoBell ?x1_NoName ?x2_NoName ?x3_NoName ?x4_NoName ?x1_Twice ?x2_Twice ?x3_Twice ?x4_Twice ?s1_Clash ?s2_Clash ?s3_Clash ?s4_Clash ?s1_Tower ?s2_Tower ?s3_Tower ?s4_Tower ?s5_Tower ?s6_Tower ?na_Clash_divisor ?na_Clash_first ?na_Clash_second ?na_Tower_hung ?w_Clash_Clash ?w_Clash_NoBeat ?w_Clash_NoBell ?w_Clash_NoName ?w_Clash_TooMany ?w_Clash_Twice ?w_Clash_ValueError ?w_NoBeat_Clash ?w_NoBeat_NoBeat ?w_NoBeat_NoBell ?w_NoBeat_NoName ?w_NoBeat_TooMany ?w_NoBeat_Twice ?w_NoBeat_ValueError ?w_NoBell_Clash ?w_NoBell_NoBeat ?w_NoBell_NoBell ?w_NoBell_NoName ?w_NoBell_TooMany ?w_NoBell_Twice ?w_NoBell_ValueError ?w_NoName_Clash ?w_NoName_NoBeat ?w_NoName_NoBell ?w_NoName_NoName ?w_NoName_TooMany ?w_NoName_Twice ?w_NoName_ValueError ?w_Twice_Clash ?w_Twice_NoBeat ?w_Twice_NoBell ?w_Twice_NoName ?w_Twice_TooMany ?w_Twice_Twice ?w_Twice_ValueError ?v_Clash_KnellError ?v_NoBeat_KnellError ?v_NoBell_KnellError ?v_NoName_KnellError ?v_Twice_KnellError
  (case y_Clash => k_is); (case y_KnellError => k_is); (case y_NoBeat => k_is); (case y_NoBell => k_is)
  (case y_NoName => k_is); (case y_TooMany => k_is); (case y_Tower => k_is); (case y_Twice => k_is)
  (case a0 => k_is); (case l0 => k_is); (case c0 => k_is); (case k0 => k_is)
  (case a1 => k_is); (case l1 => k_is); (case c1 => k_is); (case k1 => k_is)
  (case a2 => k_is); (case i2 => k_is); (case l2 => k_is); (case c2 => k_is)
  (case k2 => k_is); (case a3 => k_is); (case l3 => k_is); (case c3 => k_is)
  (case k3 => k_is); (case a4 => k_is); (case l4 => k_is); (case c4 => k_is)
  (case k4 => k_is); (case a5 => k_is); (case l5 => k_is); (case c5 => k_is)
  (case k5 => k_is); (case a6 => k_is); (case l6 => k_is); (case c6 => k_is)
  (case k6 => k_is); (case a7 => k_is); (case i7 => k_is); (case l7 => k_is)
  (case c7 => k_is); (case k7 => k_is); (case a8 => k_is); (case i8 => k_is)
  (case l8 => k_is); (case c8 => k_is); (case k8 => k_is); (case a9 => k_is)
  (case l9 => k_is); (case c9 => k_is); (case k9 => k_is); (case a10 => k_is)
  (case l10 => k_is); (case c10 => k_is); (case k10 => k_is); (case a11 => k_is)
  (case l11 => k_is); (case c11 => k_is); (case k11 => k_is); (case a12 => k_is)
  (case i12 => k_is); (case l12 => k_is); (case c12 => k_is); (case k12 => k_is)
  (case a13 => k_is); (case l13 => k_is); (case c13 => k_is); (case k13 => k_is)
  (case a14 => k_is); (case l14 => k_is); (case c14 => k_is); (case k14 => k_is)
  (case a15 => k_is); (case l15 => k_is); (case c15 => k_is); (case k15 => k_is)
  (case a16 => k_is); (case i16 => k_is); (case l16 => k_is); (case c16 => k_is)
  (case k16 => k_is); (case dd16 => k_is); (case a17 => k_is); (case l17 => k_is)
  (case c17 => k_is); (case k17 => k_is); (case a18 => k_is); (case l18 => k_is)
  (case c18 => k_is); (case k18 => k_is); (case a19 => k_is); (case l19 => k_is)
  (case c19 => k_is); (case k19 => k_is); (case a20 => k_is); (case l20 => k_is)
  (case c20 => k_is); (case k20 => k_is); (case a21 => k_is); (case l21 => k_is)
  (case c21 => k_is); (case k21 => k_is); (case a22 => k_is); (case i22 => k_is)
  (case l22 => k_is); (case c22 => k_is); (case k22 => k_is); (case dd22 => k_is)
  (case a23 => k_is); (case l23 => k_is); (case c23 => k_is); (case k23 => k_is)
  (case a24 => k_is); (case l24 => k_is); (case c24 => k_is); (case k24 => k_is)
  (case a25 => k_is); (case l25 => k_is); (case c25 => k_is); (case k25 => k_is)
  (case a26 => k_is); (case l26 => k_is); (case c26 => k_is); (case k26 => k_is)
  (case a27 => k_is); (case l27 => k_is); (case c27 => k_is); (case k27 => k_is)
  (case a28 => k_is); (case l28 => k_is); (case c28 => k_is); (case k28 => k_is)
  (case a29 => k_is); (case l29 => k_is); (case c29 => k_is); (case k29 => k_is)
  (case a30 => k_is); (case l30 => k_is); (case c30 => k_is); (case k30 => k_is)
  (case a31 => k_is); (case l31 => k_is); (case c31 => k_is); (case k31 => k_is)
  (case a32 => k_is); (case i32 => k_is); (case l32 => k_is); (case c32 => k_is)
  (case k32 => k_is); (case dd32 => k_is); (case a33 => k_is); (case l33 => k_is)
  (case c33 => k_is); (case k33 => k_is); (case a34 => k_is); (case l34 => k_is)
  (case c34 => k_is); (case k34 => k_is); (case a35 => k_is); (case l35 => k_is)
  (case c35 => k_is); (case k35 => k_is); (case a36 => k_is); (case l36 => k_is)
  (case c36 => k_is); (case k36 => k_is); (case a37 => k_is); (case l37 => k_is)
  (case c37 => k_is); (case k37 => k_is); (case a38 => k_is); (case l38 => k_is)
  (case c38 => k_is); (case k38 => k_is); (case a39 => k_is); (case l39 => k_is)
  (case c39 => k_is); (case k39 => k_is); (case a40 => k_is); (case l40 => k_is)
  (case c40 => k_is); (case k40 => k_is); (case z_ValueError => k_is); (case z_bool => k_is)
  (case z_enumerate => k_is); (case z_int => k_is); (case z_isinstance => k_is); (case z_len => k_is)
  (case z_list => k_is); (case z_min => k_is); (case z_range => k_is); (case z_str => k_is)
  (case z_sum => k_is); (case z_tuple => k_is); (case z_zip => k_is); (case x1_Clash => k_is)
  (case x2_Clash => k_is); (case x3_Clash => k_is); (case x5_Clash => k_is); (case x6_Clash => exact rfl)
  (case x7_Clash => k_is); (case x8_Clash => exact rfl); (case x9_Clash => exact rfl); (case x0_Clash => exact rfl)
  (case x1_NoBeat => k_is); (case x2_NoBeat => k_is); (case x3_NoBeat => k_is); (case x4_NoBeat => k_exc)
  (case x1_NoBell => k_is); (case x2_NoBell => k_is); (case x3_NoBell => k_is); (case x4_NoBell => k_exc)
  (case x1_NoName => k_is); (case x2_NoName => k_is); (case x3_NoName => k_is); (case x4_NoName => k_exc)
  (case x1_Twice => k_is); (case x2_Twice => k_is); (case x3_Twice => k_is); (case x4_Twice => k_exc)
  (case s1_Clash => k_is); (case s2_Clash => k_is); (case s3_Clash => k_is); (case s4_Clash => k_is)
  (case s1_Tower => k_is); (case s2_Tower => k_is); (case s3_Tower => k_is); (case s4_Tower => k_is)
  (case s5_Tower => k_is); (case s6_Tower => k_is); (case na_Clash_divisor => k_is); (case na_Clash_first => k_is)
  (case na_Clash_second => k_is); (case na_Tower_hung => k_is); (case w_Clash_Clash => kit_is); (case w_Clash_NoBeat => kit_is)
  (case w_Clash_NoBell => kit_is); (case w_Clash_NoName => kit_is); (case w_Clash_TooMany => kit_is); (case w_Clash_Twice => kit_is)
  (case w_Clash_ValueError => kit_is); (case w_NoBeat_Clash => kit_is); (case w_NoBeat_NoBeat => kit_is); (case w_NoBeat_NoBell => kit_is)
  (case w_NoBeat_NoName => kit_is); (case w_NoBeat_TooMany => kit_is); (case w_NoBeat_Twice => kit_is); (case w_NoBeat_ValueError => kit_is)
  (case w_NoBell_Clash => kit_is); (case w_NoBell_NoBeat => kit_is); (case w_NoBell_NoBell => kit_is); (case w_NoBell_NoName => kit_is)
  (case w_NoBell_TooMany => kit_is); (case w_NoBell_Twice => kit_is); (case w_NoBell_ValueError => kit_is); (case w_NoName_Clash => kit_is)
  (case w_NoName_NoBeat => kit_is); (case w_NoName_NoBell => kit_is); (case w_NoName_NoName => kit_is); (case w_NoName_TooMany => kit_is)
  (case w_NoName_Twice => kit_is); (case w_NoName_ValueError => kit_is); (case w_Twice_Clash => kit_is); (case w_Twice_NoBeat => kit_is)
  (case w_Twice_NoBell => kit_is); (case w_Twice_NoName => kit_is); (case w_Twice_TooMany => kit_is); (case w_Twice_Twice => kit_is)
  (case w_Twice_ValueError => kit_is); (case v_Clash_KnellError => kts_exm); (case v_NoBeat_KnellError => kts_exm); (case v_NoBell_KnellError => kts_exm)
  (case v_NoName_KnellError => kts_exm); (case v_Twice_KnellError => kts_exm)
