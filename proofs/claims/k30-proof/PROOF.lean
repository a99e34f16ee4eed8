import PyProof.Rows.All
import Wide.All
import OpenK.AllK
import Wide.FinOn
import Lean
import PyProof.EqAt
import PyProof.EqKinds
import PyProof.TupleCall
import PySem.Challenge.RW_switchhall_k30_refusals_stand_apart
set_option Elab.async false
set_option linter.all false
set_option maxRecDepth 100000
namespace L2
open PySem PySem.Spec PyProof.Rows
abbrev Key := Sum Int Str
def keyIs : Key → Value → Bool
  | .inl k, v => Value.isInt k v
  | .inr x, v => Value.isStrOf x v
def keyH (w : World) : Key → Int
  | .inl k => hashInt k
  | .inr x => hashStr w x
theorem keyIs_shape : ∀ {k : Key} {v : Value}, keyIs k v = true → (∃ i t, k = Sum.inl i ∧ v = Value.int i t) ∨ (∃ x t, k = Sum.inr x ∧ v = Value.str x t)
  | .inl i, v, h => by
    obtain ⟨t, e⟩ := Value.isInt_shape (k := i) (v := v) h
    exact .inl ⟨i, t, rfl, e⟩
  | .inr x, v, h => by
    obtain ⟨t, e⟩ := Value.isStrOf_shape (x := x) (v := v) h
    exact .inr ⟨x, t, rfl, e⟩
theorem keyIs_int (i : Int) (t : Tok) : keyIs (.inl i) (.int i t) = true := by simp [keyIs, Value.isInt]
theorem keyIs_str (x : Str) (t : Tok) : keyIs (.inr x) (.str x t) = true := by simp [keyIs, Value.isStrOf]
theorem key_ll (a b : Int) : decide ((Sum.inl a : Key) = Sum.inl b) = (a == b) := by
  by_cases e : a = b
  · subst e; simp
  · have h : ¬ (Sum.inl a : Key) = Sum.inl b := fun q => e (Sum.inl.inj q)
    rw [decide_eq_false h]
    exact (beq_eq_false_iff_ne.mpr e).symm
theorem key_rr (a b : Str) : decide ((Sum.inr a : Key) = Sum.inr b) = decide (a = b) := by
  by_cases e : a = b
  · subst e; simp
  · have h : ¬ (Sum.inr a : Key) = Sum.inr b := fun q => e (Sum.inr.inj q)
    rw [decide_eq_false h, decide_eq_false e]
theorem key_lr (a : Int) (b : Str) : decide ((Sum.inl a : Key) = Sum.inr b) = false := decide_eq_false (fun q => nomatch q)
theorem key_rl (a : Str) (b : Int) : decide ((Sum.inr a : Key) = Sum.inl b) = false := decide_eq_false (fun q => nomatch q)
def mixKind (prog : Program) (w : World) : PySem.KeyKind prog w Key where
  is := keyIs
  hash := keyH w
  inj := fun v a b ha hb => by
    rcases keyIs_shape ha with ⟨i, t, rfl, rfl⟩ | ⟨x, t, rfl, rfl⟩
    · rcases keyIs_shape hb with ⟨j, u, rfl, e⟩ | ⟨y, u, rfl, e⟩
      · injection e with e1 _; rw [e1]
      · exact nomatch e
    · rcases keyIs_shape hb with ⟨j, u, rfl, e⟩ | ⟨y, u, rfl, e⟩
      · exact nomatch e
      · injection e with e1 _; rw [e1]
  byValue := fun k v h => by
    rcases keyIs_shape h with ⟨i, t, rfl, rfl⟩ | ⟨x, t, rfl, rfl⟩ <;> rfl
  pyHash := fun hv h => by
    rcases keyIs_shape hv with ⟨i, t, rfl, rfl⟩ | ⟨x, t, rfl, rfl⟩
    · exact wpAny_pyHash_int h
    · exact wpAny_pyHash_str h
  eqBool := fun hu hv h => by
    rcases keyIs_shape hu with ⟨i, t, rfl, rfl⟩ | ⟨x, t, rfl, rfl⟩
    · rcases keyIs_shape hv with ⟨j, u, rfl, rfl⟩ | ⟨y, u, rfl, rfl⟩
      · rw [key_ll] at h; exact wpAny_eqBool_int h
      · rw [key_lr] at h; exact SeqAt.EqAt.int_str i t y u _ _ _ _ h
    · rcases keyIs_shape hv with ⟨j, u, rfl, rfl⟩ | ⟨y, u, rfl, rfl⟩
      · rw [key_rl] at h; exact SeqAt.EqAt.str_int x t j u _ _ _ _ h
      · rw [key_rr] at h; exact wpAny_eqBool_str h
  «strs» := fun k x t v h => by
    rcases keyIs_shape h with ⟨i, u, rfl, e⟩ | ⟨y, u, rfl, e⟩
    · exact nomatch e
    · injection e with e1 _
      subst e1
      cases v <;> rfl
theorem mixKind_int (prog : Program) (w : World) (i : Int) (t : Tok) : (mixKind prog w).is (.inl i) (.int i t) = true := keyIs_int i t
theorem mixKind_str (prog : Program) (w : World) (x : Str) (t : Tok) : (mixKind prog w).is (.inr x) (.str x t) = true := keyIs_str x t
end L2
namespace L2
open PySem PySem.Spec PyProof.Rows
inductive V where
  | non | bl (b : Bool) | int (i : Int) | str (x : Str) | byt (b : Array UInt8) | flt (b : UInt64) | ref (a : Addr) | ty (n : String)
  deriving DecidableEq
def RelV : V → Value → Prop
  | .non, u => u = Value.none
  | .bl b, u => u = Value.bool b
  | .int i, u => ∃ t, u = Value.int i t
  | .str x, u => ∃ t, u = Value.str x t
  | .byt b, u => ∃ t, u = Value.bytes b t
  | .flt b, u => ∃ t, u = Value.float b t
  | .ref a, u => u = Value.ref a
  | .ty n, u => u = Value.type n
abbrev Vals : List V → List Value → Prop := Paired RelV
theorem Vals.length {xs : List V} {us : List Value} (r : Vals xs us) : xs.length = us.length := Paired.length r
theorem Vals.get : ∀ {xs : List V} {us : List Value} {i : Nat} {x : V}, Vals xs us → xs[i]? = some x → ∃ u, us[i]? = some u ∧ RelV x u
  | _, _, _, _, .nil, e => by simp at e
  | _, _, 0, _, .cons r _, e => by simp at e; subst e; exact ⟨_, rfl, r⟩
  | _, _, i + 1, x, .cons _ t, e => by
    obtain ⟨u, h1, h2⟩ := Vals.get (i := i) (x := x) t (by simpa using e)
    exact ⟨u, by simpa using h1, h2⟩
theorem Vals.set {x : V} {u : Value} (r : RelV x u) : ∀ {xs : List V} {us : List Value} (i : Nat), Vals xs us → Vals (xs.set i x) (us.set i u)
  | _, _, _, .nil => .nil
  | _, _, 0, .cons _ t => .cons r t
  | _, _, i + 1, .cons q t => .cons q (Vals.set r i t)
theorem Vals.append {xs ys : List V} {us ws : List Value} (h : Vals xs us) (s : Vals ys ws) : Vals (xs ++ ys) (us ++ ws) := by
  induction h with
  | nil => exact s
  | cons r _ ih => exact .cons r ih
def RelO : Option V → Option Value → Prop
  | some v, some u => RelV v u
  | none, none => True
  | _, _ => False
def KV {κ : Type} : List (κ × V) → List (κ × Value) → Prop := Paired fun (p : κ × V) (q : κ × Value) => p.1 = q.1 ∧ RelV p.2 q.2
def kV : Key → V
  | .inl i => .int i
  | .inr x => .str x
inductive HO where
  /-- a list -/
  | lst (xs : List V)
  /-- a tuple (never changes) -/
  | tup (xs : List V)
  /-- a dict whose keys are ints and texts; one whose keys are tuples of ints and texts (the empty one is both) -/
  | dK (kvs : List (Key × V)) | dT (kvs : List (List Key × V))
  /-- a set of ints: its members, its size -/
  | set (S : Int → Bool) (n : Nat)
  /-- an instance of the class at C, its dict at dx, its attributes -/
  | ins (C dx : Addr) (fs : List (Str × V))
  /-- the dict of the instance at x -/
  | own (x : Addr)
  /-- the dict of an exception -/
  | xd (fs : List (Str × V))
  /-- a bound method, f of x -/
  | met (f x : Addr)
  /-- a range object lo, lo + 1, .. below hi -/
  | rng (lo hi : Int)
  /-- a thing that is known to the object (the script; a dict while a loop walks it): read, never written while it is so -/
  | frz (o : Obj) (u : HO)
  /-- a code object's table -/
  | tbl (ps : Array Value)
  /-- any other thing, by what is true of its one object (a def of one's own: SetO a S n := HO.ext fun h => ..) -/
  | ext (φ : Heap → Prop)
abbrev Hp := Addr → Option HO
def upd (H : Hp) (a : Addr) (o : HO) : Hp := fun b => if b = a then some o else H b
theorem upd_same {H : Hp} {a : Addr} {o : HO} : upd H a o a = some o := by unfold upd; rw [if_pos rfl]
theorem upd_ne {H : Hp} {a b : Addr} {o : HO} (h : b ≠ a) : upd H a o b = H b := by unfold upd; rw [if_neg h]
theorem ne_of {H : Hp} {a b : Addr} {o u : HO} (h : H a = some o) (h' : H b = some u) (d : o ≠ u) : a ≠ b := by
  intro e; subst e; rw [h] at h'; exact d (Option.some.inj h')
theorem ne_of_none {H : Hp} {a b : Addr} {o : HO} (h : H a = some o) (h' : H b = none) : a ≠ b := by
  intro e; subst e; rw [h] at h'; cases h'
section
variable (P : Program) (w : World)
def ObjOk (H : Hp) (h : Heap) (a : Addr) : HO → Prop
  | .lst xs => xs.length ≤ sizeLine ∧ ∃ (its : List Value) (n : Nat), Vals xs its ∧ h.get? a = some { cls := .type "list", data := .seq its.toArray n }
  | .tup xs => xs.length ≤ sizeLine ∧ ∃ its : List Value, Vals xs its ∧ IsTup h a its.toArray
  | .dK kvs => kvs.length ≤ sizeLine ∧ (a == sysModules) = false ∧ ∃ vs, KV kvs vs ∧ h.DictOf (mixKind P w) a vs
  | .dT kvs => kvs.length ≤ sizeLine ∧ (a == sysModules) = false ∧ ∃ xs : List (List Key × Addr × Value),
      Paired (fun (p : List Key × V) (q : List Key × Addr × Value) => p.1 = q.1 ∧ H q.2.1 = some (.tup (p.1.map kV)) ∧ RelV p.2 q.2.2) kvs xs ∧
      ∃ o es ep, h.get? a = some o ∧ o.ExactDict ∧ o.data = .dict es ep ∧ es.toList = xs.map (entryOfKey (tupleKind (mixKind P w))) ∧ (xs.map (·.1)).Nodup
  | .set S n => h.SetOf (intKind P w) a S n
  | .ins C dx fs => H dx = some (.own a) ∧ fs.length ≤ 1000 ∧ dx ≠ a ∧ h.get? a = some (PySem.W.instObj C dx) ∧
      ∃ mA, h.Ns1 dx mA ∧ (∀ f, RelO (fs.lookup f) (mA f)) ∧ PySem.Within mA (fs.map (·.1))
  | .own _ => ∃ o, h.get? a = some o
  | .xd fs => ∃ mA, h.Ns1 a mA ∧ ∀ f, RelO (fs.lookup f) (mA f)
  | .rng lo hi => ∃ t u v, h.get? a = some { cls := .type "range", data := .fields #[.int lo t, .int hi u, .int 1 v] }
  | .frz o u => h.get? a = some o ∧ ObjOk H h a u
  | .tbl ps => h.get? a = some { cls := .none, data := .fields ps }
  | .met f x => h.get? a = some (PySem.W.methodObj (.ref f) (.ref x))
  | .ext φ => φ h ∧ (∃ o, h.get? a = some o) ∧ ∀ h1 h2 : Heap, φ h1 → (∀ o, h1.get? a = some o → h2.get? a = some o) → φ h2
def HOk (H : Hp) (h : Heap) : Prop := ∀ a o, H a = some o → ObjOk P w H h a o
end
section
variable {P : Program} {w : World} {H H' : Hp} {h h' : Heap} {a : Addr} {o : HO}
theorem ObjOk.lt (x : ObjOk P w H h a o) : a < h.objs.size := by
  cases o with
  | lst xs => obtain ⟨_, _, _, _, e⟩ := x; exact Heap.lt_size e
  | tup xs => obtain ⟨_, _, _, p⟩ := x; exact p.lt
  | dK kvs => obtain ⟨_, _, _, _, o, _, _, e, _⟩ := x; exact Heap.lt_size e
  | dT kvs => obtain ⟨_, _, _, _, o, _, _, e, _⟩ := x; exact Heap.lt_size e
  | set S n => obtain ⟨o, _, _, _, e, _⟩ := x; exact Heap.lt_size e
  | ins C dx fs => obtain ⟨_, _, _, e, _⟩ := x; exact Heap.lt_size e
  | own y => obtain ⟨_, e⟩ := x; exact Heap.lt_size e
  | xd fs => obtain ⟨_, ⟨_, _, _, e, _⟩, _⟩ := x; exact Heap.lt_size e
  | rng lo hi => obtain ⟨_, _, _, e⟩ := x; exact Heap.lt_size e
  | frz ob u => obtain ⟨e, _⟩ := x; exact Heap.lt_size e
  | tbl ps => exact Heap.lt_size (show h.get? a = some _ from x)
  | met f y => exact Heap.lt_size (show h.get? a = some _ from x)
  | ext φ => obtain ⟨_, ⟨_, e⟩, _⟩ := x; exact Heap.lt_size e
theorem Paired.mapP {α β : Type} {F G : α → β → Prop} {l₁ : List α} {l₂ : List β} (h : Paired F l₁ l₂) (f : ∀ a b, F a b → G a b) : Paired G l₁ l₂ := by
  induction h with
  | nil => exact .nil
  | cons r _ ih => exact .cons (f _ _ r) ih
theorem ObjOk.stay (x : ObjOk P w H h a o) (k : ∀ b u, (b = a ∨ H b = some (.own a)) → h.get? b = some u → h'.get? b = some u)
    (ho : ∀ b, H b = some (.own a) → H' b = some (.own a)) (ht : ∀ b xs, H b = some (.tup xs) → H' b = some (.tup xs)) : ObjOk P w H' h' a o := by
  induction o with
  | lst xs => obtain ⟨z, its, n, r, e⟩ := x; exact ⟨z, its, n, r, k _ _ (.inl rfl) e⟩
  | tup xs => obtain ⟨z, its, r, ob, e, c⟩ := x; exact ⟨z, its, r, ob, k _ _ (.inl rfl) e, c⟩
  | dK kvs => obtain ⟨z, y, vs, r, ob, es, ep, e, c⟩ := x; exact ⟨z, y, vs, r, ob, es, ep, k _ _ (.inl rfl) e, c⟩
  | dT kvs =>
    obtain ⟨z, y, xs, r, ob, es, ep, e, c⟩ := x
    exact ⟨z, y, xs, Paired.mapP r fun p q z => ⟨z.1, ht _ _ z.2.1, z.2.2⟩, ob, es, ep, k _ _ (.inl rfl) e, c⟩
  | set S n => obtain ⟨ob, es, ep, t, e, c⟩ := x; exact ⟨ob, es, ep, t, k _ _ (.inl rfl) e, c⟩
  | ins C dx fs =>
    obtain ⟨d, z, ne, e, mA, ⟨od, es, ep, e2, c⟩, r⟩ := x
    exact ⟨ho _ d, z, ne, k _ _ (.inl rfl) e, mA, ⟨od, es, ep, k _ _ (.inr d) e2, c⟩, r⟩
  | own y => obtain ⟨ob, e⟩ := x; exact ⟨ob, k _ _ (.inl rfl) e⟩
  | xd fs => obtain ⟨mA, ⟨od, es, ep, e, c⟩, r⟩ := x; exact ⟨mA, ⟨od, es, ep, k _ _ (.inl rfl) e, c⟩, r⟩
  | rng lo hi => obtain ⟨t, u, v, e⟩ := x; exact ⟨t, u, v, k _ _ (.inl rfl) e⟩
  | frz ob u ih => obtain ⟨e, q⟩ := x; exact ⟨k _ _ (.inl rfl) e, ih q⟩
  | tbl ps =>
    have e : h.get? a = some { cls := .none, data := .fields ps } := x
    show h'.get? a = some { cls := .none, data := .fields ps }
    exact k a _ (.inl rfl) e
  | met f y =>
    have e : h.get? a = some (PySem.W.methodObj (.ref f) (.ref y)) := x
    show h'.get? a = some (PySem.W.methodObj (.ref f) (.ref y))
    exact k a _ (.inl rfl) e
  | ext φ => obtain ⟨p, ⟨o, e⟩, st⟩ := x; exact ⟨st _ _ p fun o q => k _ _ (.inl rfl) q, ⟨o, k _ _ (.inl rfl) e⟩, st⟩
theorem HOk.lt (x : HOk P w H h) (e : H a = some o) : a < h.objs.size := (x a o e).lt
theorem HOk.fresh (x : HOk P w H h) (e : h.objs.size ≤ a) : H a = none := by
  cases q : H a with
  | none => rfl
  | some u => exact absurd (Nat.lt_of_lt_of_le (x.lt q) e) (Nat.lt_irrefl _)
theorem HOk.kept (x : HOk P w H h) (k : ∀ b u, h.get? b = some u → h'.get? b = some u) : HOk P w H h' := fun a o e =>
  (x a o e).stay (fun b u _ q => k b u q) (fun _ q => q) fun _ _ q => q
theorem HOk.laid (x : HOk P w H h) (k : ∀ b u, h.get? b = some u → h'.get? b = some u) (hp : h.objs.size ≤ a) (new : ObjOk P w (upd H a o) h' a o) : HOk P w (upd H a o) h' := fun b u e => by
  have hn := x.fresh hp
  by_cases hb : b = a
  · subst hb; rw [upd_same] at e; cases e; exact new
  · rw [upd_ne hb] at e
    exact (x b u e).stay (fun c v _ q => k c v q) (fun c q => by rw [upd_ne (ne_of_none q hn)]; exact q) fun c xs q => by rw [upd_ne (ne_of_none q hn)]; exact q
end
def Rd (H : Hp) (a : Addr) (u : HO) : Prop := H a = some u ∨ ∃ o, H a = some (.frz o u)
theorem Rd.ok {P : Program} {w : World} {H : Hp} {h : Heap} {a : Addr} {u : HO} (r : Rd H a u) (x : HOk P w H h) : ObjOk P w H h a u := by
  rcases r with r | ⟨o, r⟩
  · exact x a u r
  · obtain ⟨_, q⟩ := x a _ r
    exact q
def Mut : Option HO → Prop
  | some (.lst _) => True
  | some (.dK _) => True
  | some (.dT _) => True
  | some (.set _ _) => True
  | some (.ins _ _ _) => True
  | some (.ext _) => True
  | _ => False
section
variable {P : Program} {w : World} {H : Hp} {h h' : Heap} {x e : Addr} {o' : HO}
theorem HOk.write (ok : HOk P w H h) (mu : Mut (H x)) (he : e = x ∨ H e = some (.own x)) (k : ∀ b u, b ≠ e → h.get? b = some u → h'.get? b = some u) (heo : ∃ u, h'.get? e = some u)
    (new : ObjOk P w (upd H x o') h' x o') : HOk P w (upd H x o') h' := fun b u q => by
  have nown : ∀ c y, H c = some (.own y) → c ≠ x := fun c y r z => by subst z; rw [r] at mu; exact mu
  have ntup : ∀ c xs, H c = some (.tup xs) → c ≠ x := fun c xs r z => by subst z; rw [r] at mu; exact mu
  by_cases hb : b = x
  · subst hb; rw [upd_same] at q; cases q; exact new
  · rw [upd_ne hb] at q
    by_cases hbe : b = e
    · have q' : H b = some (.own x) := by
        rcases he with z | z
        · exact absurd (hbe.trans z) hb
        · rw [hbe]; exact z
      rw [q] at q'; cases q'
      obtain ⟨v, hv⟩ := heo
      exact ⟨v, by rw [hbe]; exact hv⟩
    · refine (ok b u q).stay (fun c v hc r => k c v ?_ r) (fun c r => by rw [upd_ne (nown c b r)]; exact r) fun c xs r => by rw [upd_ne (ntup c xs r)]; exact r
      rcases hc with rfl | hc
      · exact hbe
      · rintro rfl
        rcases he with z | z
        · exact nown c b hc z
        · rw [hc] at z; cases z; exact hb rfl
end
structure Un (fs ex : List Addr) (H H' : Hp) (h h' : Heap) : Prop where
  keep : ∀ b o, h.get? b = some o → H b = none → b ∉ fs → b ∉ ex → h'.get? b = some o
  slot : ∀ b o, h.get? b = some o → H b = none → b ∈ fs → b ∉ ex → ∃ sl, h'.get? b = some { o with slots := sl }
  free : ∀ b o, h.get? b = some o → H b = none → b ∉ ex → H' b = none
  there : ∀ b o, h.get? b = some o → b ∉ ex → ∃ o', h'.get? b = some o'
  tups : ∀ b xs, H b = some (.tup xs) → H' b = some (.tup xs)
  frzs : ∀ b o u, H b = some (.frz o u) → H' b = some (.frz o u)
  tbls : ∀ b ps, H b = some (.tbl ps) → ∃ more, H' b = some (.tbl (ps ++ more))
section
variable {fs fs' ex ex' : List Addr} {H H1 H2 : Hp} {h h1 h2 h' : Heap} {a x e : Addr} {o : HO}
theorem Un.any (u : Un fs ex H H1 h h1) {b : Addr} {ob : Obj} (q : h.get? b = some ob) (n : H b = none) (hx : b ∉ ex) : ∃ sl, h1.get? b = some { ob with slots := sl } := by
  by_cases hb : b ∈ fs
  · exact u.slot b ob q n hb hx
  · exact ⟨ob.slots, u.keep b ob q n hb hx⟩
theorem Un.kept (k : ∀ b u, h.get? b = some u → h'.get? b = some u) : Un fs ex H H h h' :=
  ⟨fun b ob q _ _ _ => k b ob q, fun b ob q _ _ _ => ⟨ob.slots, k b ob q⟩, fun _ _ _ n _ => n, fun b ob q _ => ⟨ob, k b ob q⟩, fun _ _ q => q, fun _ _ _ q => q, fun _ ps q => ⟨#[], by rw [q]; simp⟩⟩
theorem Un.refl : Un fs ex H H h h := Un.kept fun _ _ q => q
theorem Un.laid (k : ∀ b u, h.get? b = some u → h'.get? b = some u) (hp : h.objs.size ≤ a) (hn : H a = none) : Un fs ex H (upd H a o) h h' where
  keep := fun b u q _ _ _ => k b u q
  slot := fun b u q _ _ _ => ⟨u.slots, k b u q⟩
  free := fun b u q n _ => by rw [upd_ne (Nat.ne_of_lt (Nat.lt_of_lt_of_le (Heap.lt_size q) hp))]; exact n
  there := fun b u q _ => ⟨u, k b u q⟩
  tups := fun b xs q => by rw [upd_ne (ne_of_none q hn)]; exact q
  frzs := fun b u xs q => by rw [upd_ne (ne_of_none q hn)]; exact q
  tbls := fun b ps q => ⟨#[], by rw [upd_ne (ne_of_none q hn), q]; simp⟩
theorem Un.write (mu : Mut (H x)) (he : e = x ∨ H e = some (.own x)) (k : ∀ b u, b ≠ e → h.get? b = some u → h'.get? b = some u) (heo : ∃ u, h'.get? e = some u) : Un fs ex H (upd H x o) h h' := by
  have hx : ∀ b, H b = none → b ≠ x := fun b n z => by subst z; rw [n] at mu; exact mu
  have hb : ∀ b, H b = none → b ≠ e := fun b n z => by
    subst z
    rcases he with r | r
    · exact hx b n r
    · rw [n] at r; cases r
  have hm : ∀ b u, H b = some u → ¬ Mut (some u) → b ≠ x := fun b u q nm z => by subst z; rw [q] at mu; exact nm mu
  refine ⟨fun b u q n _ _ => k b u (hb b n) q, fun b u q n _ _ => ⟨u.slots, k b u (hb b n) q⟩, fun b u q n _ => by rw [upd_ne (hx b n)]; exact n, fun b u q _ => ?_,
    fun b xs q => by rw [upd_ne (hm b _ q fun z => z)]; exact q, fun b u xs q => by rw [upd_ne (hm b _ q fun z => z)]; exact q, fun b ps q => ⟨#[], by rw [upd_ne (hm b _ q fun z => z), q]; simp⟩⟩
  by_cases hbe : b = e
  · subst hbe; exact heo
  · exact ⟨u, k b u hbe q⟩
end
def trk (h : Heap) (H : Hp) : List Addr := (List.range h.objs.size).filter fun a => (H a).isSome
def hidT (h : Heap) (H : Hp) : Heap := PySem.W.hideAll h (trk h H)
theorem hidT_size (h : Heap) (H : Hp) : (hidT h H).objs.size = h.objs.size := PySem.W.hideAll_size _ _
theorem hidT_get {h : Heap} {H : Hp} {b : Addr} {o : Obj} (e : h.get? b = some o) (n : H b = none) : (hidT h H).get? b = some o :=
  PySem.W.hideAll_get _ e fun hm => by
    have q : (H b).isSome = true := (List.mem_filter.mp hm).2
    rw [n] at q; simp at q
theorem of_hidT {h : Heap} {H : Hp} {b : Addr} {o : Obj} (e : (hidT h H).get? b = some o) : h.get? b = some o ∧ H b = none := by
  have e' : h.get? b = some o := PySem.W.of_hideAll (trk h H) e
  refine ⟨e', ?_⟩
  cases q : H b with
  | none => rfl
  | some x =>
    have hm : b ∈ trk h H := List.mem_filter.mpr ⟨List.mem_range.mpr (Heap.lt_size e'), by simp [q]⟩
    have z : (hidT h H).get? b = none := PySem.W.hideAll_none (trk h H) hm
    rw [z] at e; cases e
def allNews (g h : Heap) (L : Addr) : List (Addr × Obj) := (List.range h.objs.size).filterMap fun a => if a = L ∨ (g.get? a).isSome = true then none else (h.get? a).map fun o => (a, o)
def rest (g h : Heap) (L d : Addr) : List (Addr × Obj) := (allNews g h L).filter fun p => decide (p.1 ≠ d)
end L2
namespace L2
open PySem PySem.Spec PyProof.Rows
structure Mod (K : PySem.W.Frag) (mg : Str → Option Value) (base : Heap) : Prop where
  kin : K.In base
  glob : base.Ns mainGlobals mg
  blt : ∃ mb, base.Ns builtinsNs mb ∧ ∀ x : Str, x ≠ "__name__" → mb x = bootBuiltins x
  nolimit : base.NoLimit
/-- the context: a def's body (or a comprehension's block) running. base: fixed through the whole law; s₀, H₀: the entry; outer: the frames whose slots others may change (a def's callers); stack: all frames that run;
   ex: iterators that were made ahead of the entry and are walked here (a comprehension's); fn: the names whose cells were made at the entry (a def: all; a comprehension's block: its own); calm: not within an except suite; pn: pins that every state bears; xe: what is wanted of an exception that leaves the code -/
structure Cx where
  prog : Program
  w : World
  K : PySem.W.Frag
  mg : Str → Option Value
  base : Heap
  A : Around
  N : List Str
  s₀ : Shared
  H₀ : Hp
  env : Env
  outer : List Env
  stack : List Env
  ex : List Addr
  fn : Str → Bool
  calm : Bool
  pn : List (Addr × Obj)
  xe : Value → Shared → Prop
def frs (l : List Env) : List Addr := l.filterMap (·.frame)
abbrev Cx.fs (X : Cx) : List Addr := frs X.outer
def Vis (sc : Scope) (x : Str) : Prop := sc.names.lookup x = some .local ∨ sc.names.lookup x = some .cell ∨ sc.names.lookup x = some .free
def Loc (sc : Scope) (x : Str) : Prop := sc.names.lookup x = some .local ∨ sc.names.lookup x = some .cell
def Look (env : Env) (h : Heap) (m : Str → Option Value) (x : Str) (u : Value) : Prop :=
  (env.kindOf x = some .local ∧ m x = some u) ∨ ((env.kindOf x = some .cell ∨ env.kindOf x = some .free) ∧ ∃ c, env.cells.lookup x = some c ∧ h.IsCell c (some u))
structure Cx.Ok (X : Cx) : Prop where
  mod : Mod X.K X.mg X.base
  kind : X.env.scope.kind = .function
  glob : X.env.globals = mainGlobals
  blt : X.env.builtins = builtinsNs
  above : X.s₀.heap.objs.size ≤ X.env.locals
  inj : ∀ x y c, X.env.cells.lookup x = some c → X.env.cells.lookup y = some c → x = y
  has : ∀ x, (X.env.kindOf x = some .cell ∨ X.env.kindOf x = some .free) → ∃ c, X.env.cells.lookup x = some c
  cab : ∀ x c, X.fn x = true → X.env.cells.lookup x = some c → X.s₀.heap.objs.size ≤ c
  hd : X.calm = true → X.A.handled = none
  frames : X.A.frames = some X.stack
  stk : X.stack = X.outer ∨ (X.stack = X.env :: X.outer ∧ X.env.frame = some X.env.locals)
  exf : ∀ b ∈ X.ex, b ≠ X.env.locals ∧ ∀ x c, X.env.cells.lookup x = some c → c ≠ b
  bs : ∀ b o, X.base.get? b = some o → X.s₀.heap.get? b = some o ∧ X.H₀ b = none
  bsz : X.base.objs.size ≤ X.s₀.heap.objs.size
  noex : ∀ b o, X.base.get? b = some o → b ∉ X.ex
  exfs : ∀ b ∈ X.ex, b ∉ X.fs
  funs : X.s₀.heap.FunFrames X.base X.outer
  frf : ∀ b ∈ X.fs, X.H₀ b = none
structure Inv (X : Cx) (pins : List (Addr × Obj)) (σ : List (Option V)) (H : Hp) (s : Shared) : Prop where
  ok : X.Ok
  os : s.os = X.s₀.os
  bare : AllBare s.gens
  base : Un X.fs X.ex X.H₀ H X.s₀.heap s.heap
  loc : ∃ m, s.heap.Ns X.env.locals m ∧ ∀ (i : Nat) (x : Str) (v : V), X.N[i]? = some x → σ[i]? = some (some v) → Vis X.env.scope x → ∃ u, RelV v u ∧ Look X.env s.heap m x u
  cell : ∀ x c, X.env.cells.lookup x = some c → ∃ v, s.heap.IsCell c v
  free : H X.env.locals = none
  freeC : ∀ x c, X.env.cells.lookup x = some c → H c = none
  pin : ∀ p ∈ X.pn ++ pins, s.heap.get? p.1 = some p.2 ∧ H p.1 = none ∧ p.1 ≠ X.env.locals ∧ p.1 ∉ X.fs ∧ ∀ v, p.2.data ≠ .cell v
  hok : HOk X.prog X.w H s.heap
  len : σ.length = X.N.length
section
variable {X : Cx} {pins : List (Addr × Obj)} {σ : List (Option V)} {H H' : Hp} {s : Shared} {h' : Heap}
theorem Cx.Ok.nofr (ok : X.Ok) {b : Addr} {o : Obj} (e : X.base.get? b = some o) : b ∉ X.fs := fun hb => by
  have := (ok.funs.mem hb).1
  rw [e] at this; cases this
theorem Inv.bs (I : Inv X pins σ H s) : ∀ b o, X.base.get? b = some o → s.heap.get? b = some o ∧ H b = none := fun b o e =>
  ⟨I.base.keep b o (I.ok.bs b o e).1 (I.ok.bs b o e).2 (I.ok.nofr e) (I.ok.noex b o e), I.base.free b o (I.ok.bs b o e).1 (I.ok.bs b o e).2 (I.ok.noex b o e)⟩
theorem Inv.bk (I : Inv X pins σ H s) : ∀ b o, X.base.get? b = some o → s.heap.get? b = some o := fun b o e => (I.bs b o e).1
theorem Inv.mod (I : Inv X pins σ H s) : Mod X.K X.mg X.base := I.ok.mod
theorem Inv.kIn (I : Inv X pins σ H s) : X.K.In s.heap := I.ok.mod.kin.keeps I.bk
theorem Inv.lt (I : Inv X pins σ H s) : X.env.locals < s.heap.objs.size := let ⟨_, hn, _⟩ := I.loc; hn.lt
theorem Inv.sz (I : Inv X pins σ H s) : X.s₀.heap.objs.size ≤ s.heap.objs.size := Nat.le_trans I.ok.above (Nat.le_of_lt I.lt)
theorem Inv.nofs (I : Inv X pins σ H s) {a : Addr} (h : s.heap.objs.size ≤ a) : a ∉ X.fs := fun hb => by
  obtain ⟨_, o, ho, _⟩ := I.ok.funs.mem hb
  exact absurd (Nat.lt_of_lt_of_le (Heap.lt_size ho) (Nat.le_trans I.sz h)) (Nat.lt_irrefl _)
theorem Inv.cne (I : Inv X pins σ H s) : ∀ x c, X.env.cells.lookup x = some c → c ≠ X.env.locals := fun x c e z => by
  obtain ⟨v, o, ho, hd⟩ := I.cell x c e
  obtain ⟨m, ⟨o', es, ep, ho', hd', _⟩, _⟩ := I.loc
  rw [z, ho'] at ho; cases ho; rw [hd'] at hd; cases hd
theorem Inv.funs (I : Inv X pins σ H s) : s.heap.FunFrames X.base X.outer := by
  have all : ∀ (l : List Env), (∀ b ∈ frs l, b ∈ X.fs) → X.s₀.heap.FunFrames X.base l → s.heap.FunFrames X.base l := by
    intro l
    induction l with
    | nil => intro _ _; trivial
    | cons env r ih =>
      intro hs hl
      obtain ⟨hk, ⟨L, o, hf, hn, ho, hd⟩, hr⟩ := hl
      have hL : L ∈ X.fs := hs L (by unfold frs; rw [List.filterMap_cons, hf]; exact List.mem_cons_self)
      obtain ⟨sl, e⟩ := I.base.slot L o ho (I.ok.frf L hL) hL fun z => I.ok.exfs L z hL
      exact ⟨hk, ⟨L, _, hf, hn, e, hd⟩, ih (fun b hb => hs b (by unfold frs; rw [List.filterMap_cons, hf]; exact List.mem_cons_of_mem _ hb)) hr⟩
  exact all X.outer (fun _ hb => hb) I.ok.funs
theorem Inv.stack (I : Inv X pins σ H s) : s.heap.FunFrames X.base X.stack := by
  rcases I.ok.stk with e | ⟨e, hf⟩
  · rw [e]; exact I.funs
  · rw [e]
    obtain ⟨m, hn, _⟩ := I.loc
    refine .cons (by rw [I.ok.kind]; decide) hf hn ?_ I.funs
    exact Heap.get?_none_of_le (Nat.le_trans I.ok.bsz I.ok.above)
theorem Inv.stkSub (I : Inv X pins σ H s) : ∀ b ∈ frs X.stack, b ∈ X.env.locals :: X.fs := fun b hb => by
  rcases I.ok.stk with e | ⟨e, hf⟩
  · rw [e] at hb; exact List.mem_cons_of_mem _ hb
  · rw [e] at hb
    unfold frs at hb
    rw [List.filterMap_cons, hf] at hb
    exact hb
theorem Inv.stkFree (I : Inv X pins σ H s) : ∀ b ∈ frs X.stack, H b = none := fun b hb => by
  rcases List.mem_cons.mp (I.stkSub b hb) with e | hb
  · rw [e]; exact I.free
  · obtain ⟨_, o, ho, _⟩ := I.ok.funs.mem hb
    exact I.base.free b o ho (I.ok.frf b hb) fun z => I.ok.exfs b z hb
theorem Inv.step {g' : Array GenState} {t' : Nat} {d' : Drawn} {ch : List Addr} (I : Inv X pins σ H s)
    (hch : ∀ b ∈ ch, (b ∈ X.ex ∨ X.s₀.heap.objs.size ≤ b) ∧ b ≠ X.env.locals ∧ (∀ x c, X.env.cells.lookup x = some c → c ≠ b) ∧ ∀ p ∈ X.pn ++ pins, p.1 ≠ b)
    (keep : ∀ b o, b ≠ X.env.locals → b ∉ X.fs → b ∉ ch → s.heap.get? b = some o → H b = none → h'.get? b = some o)
    (slot : ∀ b o, b ≠ X.env.locals → b ∈ X.fs → b ∉ ch → s.heap.get? b = some o → H b = none → ∃ sl, h'.get? b = some { o with slots := sl }) (free : ∀ b o, b ∉ ch → s.heap.get? b = some o → H b = none → H' b = none)
    (there : ∀ b o, b ∉ ch → s.heap.get? b = some o → ∃ o', h'.get? b = some o')
    (tups : ∀ b xs, H b = some (.tup xs) → H' b = some (.tup xs)) (frzs : ∀ b o u, H b = some (.frz o u) → H' b = some (.frz o u)) (tbls : ∀ b ps, H b = some (.tbl ps) → ∃ more, H' b = some (.tbl (ps ++ more)))
    (ns : ∀ m, s.heap.Ns X.env.locals m → h'.Ns X.env.locals m) (hok : HOk X.prog X.w H' h') (hg : AllBare g') :
    Inv X pins σ H' { s with heap := h', gens := g', drawn := d', toks := t' } := by
  have neL : ∀ b o, X.s₀.heap.get? b = some o → b ≠ X.env.locals := fun b o e => Nat.ne_of_lt (Nat.lt_of_lt_of_le (Heap.lt_size e) I.ok.above)
  have neC : ∀ b o, X.s₀.heap.get? b = some o → b ∉ X.ex → b ∉ ch := fun b o e hx hb => by
    rcases (hch b hb).1 with z | z
    · exact hx z
    · exact absurd (Nat.lt_of_lt_of_le (Heap.lt_size e) z) (Nat.lt_irrefl _)
  have cellK : ∀ x c, X.env.cells.lookup x = some c → ∀ v, s.heap.IsCell c v → h'.IsCell c v := fun x c e v zz1 => by
    obtain ⟨o, ho, hd⟩ := zz1
    have nch : c ∉ ch := fun z => (hch c z).2.2.1 x c e rfl
    by_cases hc : c ∈ X.fs
    · obtain ⟨sl, q⟩ := slot c o (I.cne x c e) hc nch ho (I.freeC x c e)
      exact ⟨_, q, hd⟩
    · exact ⟨o, keep c o (I.cne x c e) hc nch ho (I.freeC x c e), hd⟩
  refine ⟨I.ok, I.os, hg, ⟨fun b o e n hb hx => ?_, fun b o e n hb hx => ?_, fun b o e n hx => ?_, fun b o e hx => ?_, fun b xs e => tups b xs (I.base.tups b xs e), fun b o xs e => frzs b o xs (I.base.frzs b o xs e), fun b ps e => ?_⟩, ?_, fun x c e => ?_, ?_, fun x c e => ?_, fun p hp => ?_, hok, I.len⟩
  · exact keep b o (neL b o e) hb (neC b o e hx) (I.base.keep b o e n hb hx) (I.base.free b o e n hx)
  · obtain ⟨sl, e1⟩ := I.base.slot b o e n hb hx
    obtain ⟨sl', e2⟩ := slot b _ (neL b o e) hb (neC b o e hx) e1 (I.base.free b o e n hx)
    exact ⟨sl', e2⟩
  · obtain ⟨o', e1⟩ := I.base.there b o e hx
    exact free b o' (neC b o e hx) e1 (I.base.free b o e n hx)
  · obtain ⟨o', e1⟩ := I.base.there b o e hx
    exact there b o' (neC b o e hx) e1
  · obtain ⟨m1, e1⟩ := I.base.tbls b ps e
    obtain ⟨m2, e2⟩ := tbls b _ e1
    exact ⟨m1 ++ m2, by rw [e2, Array.append_assoc]⟩
  · obtain ⟨m, hn, hl⟩ := I.loc
    refine ⟨m, ns m hn, fun i x v e1 e2 e3 => ?_⟩
    obtain ⟨u, r, l⟩ := hl i x v e1 e2 e3
    refine ⟨u, r, ?_⟩
    rcases l with l | ⟨k, c, e, z⟩
    · exact .inl l
    · exact .inr ⟨k, c, e, cellK x c e _ z⟩
  · obtain ⟨v, z⟩ := I.cell x c e
    exact ⟨v, cellK x c e v z⟩
  · obtain ⟨m, ⟨o, _, _, ho, _⟩, _⟩ := I.loc
    exact free _ o (fun z => (hch _ z).2.1 rfl) ho I.free
  · obtain ⟨v, o, ho, hd⟩ := I.cell x c e
    exact free c o (fun z => (hch c z).2.2.1 x c e rfl) ho (I.freeC x c e)
  · obtain ⟨e, n, ne, nf, d⟩ := I.pin p hp
    have nch : p.1 ∉ ch := fun z => (hch p.1 z).2.2.2 p hp rfl
    exact ⟨keep p.1 p.2 ne nf nch e n, free p.1 p.2 nch e n, ne, nf, d⟩
theorem Inv.un {t' : Nat} (I : Inv X pins σ H s) (u : Un X.fs [] H H' s.heap h') (hok : HOk X.prog X.w H' h') : Inv X pins σ H' { s with heap := h', toks := t' } := by
  obtain ⟨m, ⟨o, es, ep, ho, r⟩, _⟩ := id I.loc
  obtain ⟨sl, hL⟩ := u.any ho I.free (by simp)
  exact I.step (g' := s.gens) (d' := s.drawn) (ch := []) (fun _ z => nomatch z) (fun b o _ hb _ e n => u.keep b o e n hb (by simp)) (fun b o _ hb _ e n => u.slot b o e n hb (by simp)) (fun b o _ e n => u.free b o e n (by simp)) (fun b o _ e => u.there b o e (by simp)) u.tups u.frzs u.tbls (fun m' hm => by
    obtain ⟨o', es', ep', ho', r'⟩ := hm
    rw [ho] at ho'; cases ho'
    exact ⟨_, es', ep', hL, r'⟩) hok I.bare
theorem Inv.call {g' : Array GenState} {t' : Nat} {d' : Drawn} {ch : List Addr} (I : Inv X pins σ H s) (u : Un (frs X.stack) ch H H' s.heap h') (hok : HOk X.prog X.w H' h') (hg : AllBare g')
    (hch : ∀ b ∈ ch, (b ∈ X.ex ∨ X.s₀.heap.objs.size ≤ b) ∧ b ≠ X.env.locals ∧ (∀ x c, X.env.cells.lookup x = some c → c ≠ b) ∧ ∀ p ∈ X.pn ++ pins, p.1 ≠ b) :
    Inv X pins σ H' { s with heap := h', gens := g', drawn := d', toks := t' } := by
  obtain ⟨m, ⟨o, es, ep, ho, r⟩, _⟩ := id I.loc
  obtain ⟨sl, hL⟩ := u.any ho I.free fun z => (hch _ z).2.1 rfl
  exact I.step (ch := ch) hch (fun b o hL hb hc e n => u.keep b o e n (fun z => (List.mem_cons.mp (I.stkSub b z)).elim hL hb) hc) (fun b o _ _ hc e n => u.any e n hc) (fun b o hc e n => u.free b o e n hc) (fun b o hc e => u.there b o e hc) u.tups u.frzs u.tbls (fun m' hm => by
    obtain ⟨o', es', ep', ho', r'⟩ := hm
    rw [ho] at ho'; cases ho'
    exact ⟨_, es', ep', hL, r'⟩) hok hg
theorem Inv.turned {t' : Nat} {it : Addr} (I : Inv X pins σ H s) (k : ∀ b o, b ≠ it → s.heap.get? b = some o → h'.get? b = some o) (hn : H it = none) (hL : it ≠ X.env.locals)
    (h1 : it ∈ X.ex ∨ X.s₀.heap.objs.size ≤ it) (h2 : ∀ x c, X.env.cells.lookup x = some c → c ≠ it) (h3 : ∀ p ∈ X.pn ++ pins, p.1 ≠ it) : Inv X pins σ H { s with heap := h', toks := t' } := by
  have nit : ∀ b u, H b = some u → b ≠ it := fun b u e z => by rw [z, hn] at e; cases e
  refine I.step (g' := s.gens) (d' := s.drawn) (ch := [it]) (fun b hb => ?_) (fun b o _ _ hc e _ => k b o (fun z => hc (by simp [z])) e) (fun b o _ _ hc e _ => ⟨o.slots, k b o (fun z => hc (by simp [z])) e⟩) (fun _ _ _ _ n => n)
    (fun b o hc e => ⟨o, k b o (fun z => hc (by simp [z])) e⟩) (fun _ _ e => e) (fun _ _ _ e => e) (fun b ps e => ⟨#[], by rw [e]; simp⟩) (fun m hm => ?_) (fun b u e => ?_) I.bare
  · have e : b = it := by simpa using hb
    subst e
    exact ⟨h1, hL, h2, h3⟩
  · obtain ⟨o, es, ep, ho, r⟩ := hm
    exact ⟨o, es, ep, k _ o (Ne.symm hL) ho, r⟩
  · refine (I.hok b u e).stay (fun c v hc q => k c v ?_ q) (fun _ q => q) fun _ _ q => q
    rcases hc with z | z
    · rw [z]; exact nit b u e
    · exact nit c _ z
theorem Inv.tok (I : Inv X pins σ H s) (t : Nat) : Inv X pins σ H { s with toks := t } := I.un (h' := s.heap) (t' := t) Un.refl I.hok
theorem Inv.kept {t' : Nat} (I : Inv X pins σ H s) (k : ∀ b u, s.heap.get? b = some u → h'.get? b = some u) : Inv X pins σ H { s with heap := h', toks := t' } := I.un (Un.kept k) (I.hok.kept k)
theorem Inv.laid {a : Addr} {o : HO} {t' : Nat} (I : Inv X pins σ H s) (k : ∀ b u, s.heap.get? b = some u → h'.get? b = some u) (hp : s.heap.objs.size ≤ a) (new : ObjOk X.prog X.w (upd H a o) h' a o) :
    Inv X pins σ (upd H a o) { s with heap := h', toks := t' } := I.un (Un.laid k hp (I.hok.fresh hp)) (I.hok.laid k hp new)
theorem Inv.write {x e : Addr} {o : HO} {t' : Nat} (I : Inv X pins σ H s) (mu : Mut (H x)) (he : e = x ∨ H e = some (.own x)) (k : ∀ b u, b ≠ e → s.heap.get? b = some u → h'.get? b = some u) (heo : ∃ u, h'.get? e = some u)
    (new : ObjOk X.prog X.w (upd H x o) h' x o) : Inv X pins σ (upd H x o) { s with heap := h', toks := t' } := I.un (Un.write mu he k heo) (I.hok.write mu he k heo new)
theorem Inv.weak {σ' : List (Option V)} (I : Inv X pins σ H s) (hl : σ'.length = σ.length) (w : ∀ (i : Nat) v, σ'[i]? = some (some v) → σ[i]? = some (some v)) : Inv X pins σ' H s :=
  ⟨I.ok, I.os, I.bare, I.base, let ⟨m, hn, hl'⟩ := I.loc; ⟨m, hn, fun i x v e1 e2 e3 => hl' i x v e1 (w i v e2) e3⟩, I.cell, I.free, I.freeC, I.pin, I.hok, hl.trans I.len⟩
theorem Inv.pins_of {pins' : List (Addr × Obj)} (I : Inv X pins σ H s) (h : ∀ p ∈ pins', s.heap.get? p.1 = some p.2 ∧ H p.1 = none ∧ p.1 ≠ X.env.locals ∧ p.1 ∉ X.fs ∧ ∀ v, p.2.data ≠ .cell v) : Inv X pins' σ H s :=
  ⟨I.ok, I.os, I.bare, I.base, I.loc, I.cell, I.free, I.freeC, fun p hp => (List.mem_append.mp hp).elim (fun z => I.pin p (List.mem_append_left _ z)) (h p), I.hok, I.len⟩
theorem nodup_ix {N : List Str} (hN : N.Nodup) {i j : Nat} {x : Str} (a : N[i]? = some x) (b : N[j]? = some x) : i = j := by
  obtain ⟨h1, e1⟩ := List.getElem?_eq_some_iff.mp a
  obtain ⟨h2, e2⟩ := List.getElem?_eq_some_iff.mp b
  exact (List.getElem_inj hN).mp (e1.trans e2.symm)
theorem store_ok2 {M : Model} {A : Around} {E : Value → Shared → Prop} {i : Nat} {x : Str} {v : V} {u : Value} {Q : Unit → Shared → Prop} (I : Inv X pins σ H s) (hN : X.N.Nodup) (hi : X.N[i]? = some x) (hx : Loc X.env.scope x) (r : RelV v u)
    (h : ∀ s', Inv X pins (σ.set i (some v)) H s' → (∃ a, Heap.SameBut a s.heap s'.heap ∧ (a = X.env.locals ∨ X.env.cells.lookup x = some a)) → Q () s') (hf : X.fn x = true ∨ X.env.scope.names.lookup x = some .local := by first | exact .inl rfl | exact .inr rfl | assumption) : wpAny M A (storeName X.env x u) Q E s := by
  obtain ⟨m, hn, hl⟩ := id I.loc
  have hcls : (X.env.scope.kind == .class || (X.env.scope.kind == .module && X.env.locals != X.env.globals)) = false := by rw [I.ok.kind]; rfl
  have hiσ : i < σ.length := by rw [I.len]; exact (List.getElem?_eq_some_iff.mp hi).1
  have cne := I.cne
  have tracked : ∀ {a : Addr} {h' : Heap}, (∃ o, s.heap.get? a = some o ∧ H a = none) → Heap.SameBut a s.heap h' → HOk X.prog X.w H h' := fun {a h'} ha hs b ob e => by
    obtain ⟨_, _, hfree⟩ := ha
    refine (I.hok b ob e).stay (fun c w' hc q => (hs.2 c ?_).trans q) (fun _ q => q) fun _ _ q => q
    rintro rfl
    rcases hc with rfl | hc
    · rw [hfree] at e; cases e
    · rw [hfree] at hc; cases hc
  rcases hx with hk | hk
  · refine wpAny_storeName_local hk hn (fun h' hn' hs => ?_) hcls
    obtain ⟨oL, _, _, hoL, _⟩ := id hn
    refine h _ ⟨I.ok, I.os, I.bare, ⟨fun b o e n hb hx => ?_, fun b o e n hb hx => ?_, I.base.free, fun b o e hx => ?_, I.base.tups, I.base.frzs, I.base.tbls⟩, ⟨_, hn', fun j y v' e1 e2 e3 => ?_⟩, fun y c e => ?_, I.free, I.freeC, fun p hp => ?_, tracked ⟨oL, hoL, I.free⟩ hs, by simpa using I.len⟩ ⟨_, hs, .inl rfl⟩
    · exact (hs.2 b (Nat.ne_of_lt (Nat.lt_of_lt_of_le (Heap.lt_size e) I.ok.above))).trans (I.base.keep b o e n hb hx)
    · obtain ⟨sl, e1⟩ := I.base.slot b o e n hb hx
      exact ⟨sl, (hs.2 b (Nat.ne_of_lt (Nat.lt_of_lt_of_le (Heap.lt_size e) I.ok.above))).trans e1⟩
    · obtain ⟨o', e1⟩ := I.base.there b o e hx
      exact ⟨o', (hs.2 b (Nat.ne_of_lt (Nat.lt_of_lt_of_le (Heap.lt_size e) I.ok.above))).trans e1⟩
    · by_cases hj : j = i
      · subst hj
        rw [hi] at e1; cases e1
        rw [List.getElem?_set_self hiσ] at e2
        cases e2
        exact ⟨u, r, .inl ⟨hk, by simp⟩⟩
      · rw [List.getElem?_set_ne (Ne.symm hj)] at e2
        obtain ⟨u', r', q⟩ := hl j y v' e1 e2 e3
        refine ⟨u', r', ?_⟩
        rcases q with ⟨k, e⟩ | ⟨k, c, e, z⟩
        · refine .inl ⟨k, ?_⟩
          have : y ≠ x := fun e => hj (nodup_ix hN e1 (e ▸ hi))
          simp [this, e]
        · exact .inr ⟨k, c, e, z.sameBut hs (cne y c e)⟩
    · obtain ⟨w', z⟩ := I.cell y c e
      exact ⟨w', z.sameBut hs (cne y c e)⟩
    · obtain ⟨e, n, ne, nf, d⟩ := I.pin p hp
      exact ⟨(hs.2 p.1 ne).trans e, n, ne, nf, d⟩
  · have hfn : X.fn x = true := by
      rcases hf with z | z
      · exact z
      · rw [z] at hk; cases hk
    obtain ⟨c, hc⟩ := I.ok.has x (.inl hk)
    obtain ⟨w', z⟩ := I.cell x c hc
    refine wpAny_storeName_cell I.ok.kind hk hc z (fun h' hc' hs => ?_)
    obtain ⟨oc, hoc, hocd⟩ := id z
    refine h { s with heap := h' } ⟨I.ok, I.os, I.bare, ⟨fun b o e n hb hx => ?_, fun b o e n hb hx => ?_, I.base.free, fun b o e hx => ?_, I.base.tups, I.base.frzs, I.base.tbls⟩, ⟨m, hn.sameBut hs (Ne.symm (cne x c hc)), fun j y v' e1 e2 e3 => ?_⟩, fun y c' e => ?_, I.free, I.freeC, fun p hp => ?_, tracked ⟨oc, hoc, I.freeC x c hc⟩ hs, by simpa using I.len⟩ ⟨c, hs, .inr hc⟩
    · exact (hs.2 b (Nat.ne_of_lt (Nat.lt_of_lt_of_le (Heap.lt_size e) (I.ok.cab x c hfn hc)))).trans (I.base.keep b o e n hb hx)
    · obtain ⟨sl, e1⟩ := I.base.slot b o e n hb hx
      exact ⟨sl, (hs.2 b (Nat.ne_of_lt (Nat.lt_of_lt_of_le (Heap.lt_size e) (I.ok.cab x c hfn hc)))).trans e1⟩
    · obtain ⟨o', e1⟩ := I.base.there b o e hx
      exact ⟨o', (hs.2 b (Nat.ne_of_lt (Nat.lt_of_lt_of_le (Heap.lt_size e) (I.ok.cab x c hfn hc)))).trans e1⟩
    · by_cases hj : j = i
      · subst hj
        rw [hi] at e1; cases e1
        rw [List.getElem?_set_self hiσ] at e2
        cases e2
        exact ⟨u, r, .inr ⟨.inl hk, c, hc, hc'⟩⟩
      · rw [List.getElem?_set_ne (Ne.symm hj)] at e2
        obtain ⟨u', r', q⟩ := hl j y v' e1 e2 e3
        refine ⟨u', r', ?_⟩
        rcases q with q | ⟨k, c', e, z'⟩
        · exact .inl q
        · refine .inr ⟨k, c', e, z'.sameBut hs ?_⟩
          rintro rfl
          exact hj (nodup_ix hN e1 (I.ok.inj _ _ _ e hc ▸ hi))
    · by_cases hcc : c' = c
      · subst hcc; exact ⟨_, hc'⟩
      · obtain ⟨w2, z2⟩ := I.cell y c' e
        exact ⟨w2, z2.sameBut hs hcc⟩
    · obtain ⟨e, n, ne, nf, d⟩ := I.pin p hp
      refine ⟨(hs.2 p.1 ?_).trans e, n, ne, nf, d⟩
      intro q
      rw [q, hoc] at e
      have q' : oc = p.2 := Option.some.inj e
      exact d w' (by rw [← q']; exact hocd)
theorem store_ok {M : Model} {A : Around} {E : Value → Shared → Prop} {i : Nat} {x : Str} {v : V} {u : Value} {Q : Unit → Shared → Prop} (I : Inv X pins σ H s) (hN : X.N.Nodup) (hi : X.N[i]? = some x) (hx : Loc X.env.scope x) (r : RelV v u)
    (h : ∀ s', Inv X pins (σ.set i (some v)) H s' → Q () s') (hf : X.fn x = true ∨ X.env.scope.names.lookup x = some .local := by first | exact .inl rfl | exact .inr rfl | assumption) : wpAny M A (storeName X.env x u) Q E s :=
  store_ok2 I hN hi hx r (fun s' I' _ => h s' I') hf
theorem Inv.call' {s' : Shared} {ch : List Addr} (I : Inv X pins σ H s) (ho : s'.os = s.os) (u : Un (frs X.stack) ch H H' s.heap s'.heap) (hok : HOk X.prog X.w H' s'.heap) (hg : AllBare s'.gens)
    (hch : ∀ b ∈ ch, (b ∈ X.ex ∨ X.s₀.heap.objs.size ≤ b) ∧ b ≠ X.env.locals ∧ (∀ x c, X.env.cells.lookup x = some c → c ≠ b) ∧ ∀ p ∈ X.pn ++ pins, p.1 ≠ b) : Inv X pins σ H' s' := by
  obtain ⟨h', g', d', t', o'⟩ := s'
  have e : o' = s.os := ho
  subst e
  exact I.call (g' := g') (t' := t') (d' := d') u hok hg hch
end
abbrev XK := Value → Option Addr → Hp → Prop
abbrev St := List (Option V)
abbrev VK := V → Hp → Prop
abbrev TE := St → Hp → VK → Prop
abbrev TT := St → Hp → (Bool → Hp → Prop) → Prop
abbrev TA := St → Hp → (List V → Hp → Prop) → Prop
structure Ends where
  nx : St → Hp → Prop
  rt : VK
  bk : St → Hp → Prop := fun _ _ => False
  ct : St → Hp → Prop := fun _ _ => False
abbrev TS := Ends → St → Hp → Prop
def EP (X : Cx) (pins : List (Addr × Obj)) (σ : St) (Q : VK) (u : Value) (s' : Shared) : Prop := ∃ v H', Inv X pins σ H' s' ∧ RelV v u ∧ Q v H'
def TP (X : Cx) (pins : List (Addr × Obj)) (σ : St) (Q : Bool → Hp → Prop) (b : Bool) (s' : Shared) : Prop := ∃ H', Inv X pins σ H' s' ∧ Q b H'
def AP (X : Cx) (pins : List (Addr × Obj)) (σ : St) (Q : List V → Hp → Prop) (us : List Value) (s' : Shared) : Prop := ∃ vs H', Inv X pins σ H' s' ∧ Vals vs us ∧ Q vs H'
def SP (X : Cx) (pins : List (Addr × Obj)) (D : Ends) (f : Flow) (s' : Shared) : Prop :=
  match f with
  | .next => ∃ σ' H', Inv X pins σ' H' s' ∧ D.nx σ' H'
  | .brk => ∃ σ' H', Inv X pins σ' H' s' ∧ D.bk σ' H'
  | .cont => ∃ σ' H', Inv X pins σ' H' s' ∧ D.ct σ' H'
  | .ret u => ∃ v σ' H', Inv X pins σ' H' s' ∧ RelV v u ∧ D.rt v H'
def PE (X : Cx) (e : Expr) (t : TE) : Prop :=
  ∀ (pins : List (Addr × Obj)) (s : Shared) (σ : St) (H : Hp) (Q : VK), Inv X pins σ H s → t σ H Q → wpAny (model X.prog X.w) X.A (eval e X.env) (EP X pins σ Q) X.xe s
def PT (X : Cx) (e : Expr) (t : TT) : Prop :=
  ∀ (pins : List (Addr × Obj)) (s : Shared) (σ : St) (H : Hp) (Q : Bool → Hp → Prop), Inv X pins σ H s → t σ H Q → wpAny (model X.prog X.w) X.A (isTrue e X.env (eval e X.env)) (TP X pins σ Q) X.xe s
def PW (X : Cx) (e : Expr) (t : TT) : Prop :=
  ∀ (whole : Sem Value) (pins : List (Addr × Obj)) (s : Shared) (σ : St) (H : Hp) (Q : Bool → Hp → Prop), Inv X pins σ H s → t σ H Q → wpAny (model X.prog X.w) X.A (isTrue e X.env whole) (TP X pins σ Q) X.xe s
theorem PW.pt {X : Cx} {e : Expr} {t : TT} (h : PW X e t) : PT X e t := h _
def PA (X : Cx) (es : List Expr) (t : TA) : Prop :=
  ∀ (pos : Pos) (pins : List (Addr × Obj)) (s : Shared) (σ : St) (H : Hp) (Q : List V → Hp → Prop), Inv X pins σ H s → t σ H Q → wpAny (model X.prog X.w) X.A (spliced (backTo pos (starEach es X.env))) (AP X pins σ Q) X.xe s
def PS (X : Cx) (st : Stmt) (t : TS) : Prop :=
  ∀ (pins : List (Addr × Obj)) (s : Shared) (σ : St) (H : Hp) (D : Ends), Inv X pins σ H s → t D σ H → wpAny (model X.prog X.w) X.A (exec st X.env) (SP X pins D) X.xe s
def PSs (X : Cx) (st : List Stmt) (t : TS) : Prop :=
  ∀ (pins : List (Addr × Obj)) (s : Shared) (σ : St) (H : Hp) (D : Ends), Inv X pins σ H s → t D σ H → wpAny (model X.prog X.w) X.A (execs st X.env) (SP X pins D) X.xe s
theorem thn {α : Type} {t : Sem α} {Q Q' : α → Shared → Prop} {M : Model} {A : Around} {E : Value → Shared → Prop} {s : Shared} (h : wpAny M A t Q E s) (hQ : ∀ a s, Q a s → Q' a s) : wpAny M A t Q' E s := wpAny_mono h hQ fun _ _ x => x
end L2
namespace L2
open PySem PySem.Spec PyProof.Rows
section
variable {X : Cx}
def tVar (i : Nat) : TE := fun σ H Q => ∃ v, σ[i]? = some (some v) ∧ Q v H
def tC (v : V) : TE := fun _ H Q => Q v H
theorem pe_var {i : Nat} {x : Str} {pos : Pos} (hN : X.N[i]? = some x) (hv : Vis X.env.scope x) (hd : (x == ("__debug__" : Str)) = false := by decide) (hcd : (x == ("__classdict__" : Str)) = false := by decide) : PE X (.Name x pos) (tVar i) := by
  intro pins s σ H Q I h
  obtain ⟨v, e, h⟩ := h
  obtain ⟨m, hn, hl⟩ := I.loc
  obtain ⟨u, r, l⟩ := hl i x v hN e hv
  have fin : EP X pins σ Q u s := ⟨v, H, I, r, h⟩
  rcases l with ⟨hk, hm⟩ | ⟨hk, c, hc, hcell⟩
  · exact wpAny_Name (wpAny_loadName_local I.ok.kind hk hn hm fin) hd
  · rcases hk with hk | hk
    · exact wpAny_Name (wpAny_loadName_cell I.ok.kind hk hc hcell fin) hd
    · exact wpAny_Name (wpAny_loadName_free I.ok.kind hk hc hcell fin hcd) hd
theorem pe_int {i j pos} : PE X (.Constant (.int i) j pos) (tC (.int i)) := fun _ _ _ H _ I h => wpAny_Constant_int ⟨.int i, H, I.tok _, ⟨_, rfl⟩, h⟩
theorem pe_non {j pos} : PE X (.Constant .none j pos) (tC .non) := fun _ _ _ H _ I h => Constant_none ⟨.non, H, I, rfl, h⟩
theorem pe_str {x j pos} : PE X (.Constant (.str x) j pos) (tC (.str x)) := fun _ _ _ H _ I h => Calls.Constant_str ⟨.str x, H, I.tok _, ⟨_, rfl⟩, h⟩
def Gl (X : Cx) (x : Str) : Prop := X.env.kindOf x = some .globalImplicit
theorem ld_glob {E : Value → Shared → Prop} {pins : List (Addr × Obj)} {s : Shared} {σ : St} {H : Hp} {x : Str} {u : Value} {pos : Pos} {Q : Value → Shared → Prop} (I : Inv X pins σ H s) (hg : Gl X x) (hm : X.mg x = some u) (h : Q u s)
    (hd : (x == ("__debug__" : Str)) = false := by decide) : wpAny (model X.prog X.w) X.A (eval (.Name x pos) X.env) Q E s :=
  Calls.Name_function_global I.ok.kind hg (Calls.loadGlobal_global (by rw [I.ok.glob]; exact I.mod.glob.keeps I.bk) hm h) hd
theorem ld_blt {E : Value → Shared → Prop} {pins : List (Addr × Obj)} {s : Shared} {σ : St} {H : Hp} {x : Str} {u : Value} {pos : Pos} {Q : Value → Shared → Prop} (I : Inv X pins σ H s) (hg : Gl X x) (hm : X.mg x = none) (hv : bootBuiltins x = some u) (h : Q u s)
    (hn : x ≠ "__name__" := by decide) (hd : (x == ("__debug__" : Str)) = false := by decide) : wpAny (model X.prog X.w) X.A (eval (.Name x pos) X.env) Q E s := by
  obtain ⟨mb, h1, h2⟩ := I.mod.blt
  exact Calls.Name_function_global I.ok.kind hg (Calls.loadGlobal_builtin (by rw [I.ok.glob]; exact I.mod.glob.keeps I.bk) hm (by rw [I.ok.blt]; exact h1.keeps I.bk) ((h2 x hn).trans hv) h) hd
theorem pe_glob {x : Str} {v : V} {u : Value} {pos : Pos} (hg : Gl X x) (hm : X.mg x = some u) (r : RelV v u) (hd : (x == ("__debug__" : Str)) = false := by decide) : PE X (.Name x pos) (tC v) :=
  fun _ _ _ H _ I h => ld_glob I hg hm ⟨v, H, I, r, h⟩ hd
theorem pe_bltn {x : Str} {v : V} {u : Value} {pos : Pos} (hg : Gl X x) (hm : X.mg x = none) (hv : bootBuiltins x = some u) (r : RelV v u) (hn : x ≠ "__name__" := by decide) (hd : (x == ("__debug__" : Str)) = false := by decide) : PE X (.Name x pos) (tC v) :=
  fun _ _ _ H _ I h => ld_blt I hg hm hv ⟨v, H, I, r, h⟩ hn hd
def t2I (ta tb : TE) (k : Int → Int → Hp → Prop) : St → Hp → Prop := fun σ H => ta σ H fun x H1 => tb σ H1 fun y H2 => ∃ i j, x = .int i ∧ y = .int j ∧ k i j H2
variable {a b : Expr} {ta tb : TE} {pos : Pos}
def PC (X : Cx) (op : CmpOp) (a b : Expr) (t : TE) : Prop :=
  ∀ (pins : List (Addr × Obj)) (s : Shared) (σ : St) (H : Hp) (Q : VK), Inv X pins σ H s → t σ H Q →
    wpAny (model X.prog X.w) X.A (eval a X.env) (fun v s₁ => wpAny (model X.prog X.w) X.A (eval b X.env) (fun u s₂ => wpAny (model X.prog X.w) X.A (compareOp op v u) (EP X pins σ Q) X.xe s₂) X.xe s₁) X.xe s
def tCmp (p : Int → Int → Bool) (ta tb : TE) : TE := fun σ H Q => t2I ta tb (fun i j H2 => Q (.bl (p i j)) H2) σ H
abbrev tLt : TE → TE → TE := tCmp fun i j => decide (i < j)
abbrev tLe : TE → TE → TE := tCmp fun i j => decide (i ≤ j)
abbrev tGt : TE → TE → TE := tCmp fun i j => decide (j < i)
abbrev tGe : TE → TE → TE := tCmp fun i j => decide (j ≤ i)
abbrev tEqI : TE → TE → TE := tCmp fun i j => decide (i = j)
abbrev tNeI : TE → TE → TE := tCmp fun i j => !decide (i = j)
def tB (t : TE) : TT := fun σ H Q => t σ H fun x H1 => ∃ c, x = .bl c ∧ Q c H1
theorem pt_cmp {op : CmpOp} {t : TE} (h : PC X op a b t) (h1 : behindInMarks op b = false := by first | exact nobehind _ (by decide) (by decide) | rfl) : PT X (.Compare a [op] [b] pos) (tB t) := by
  intro pins s σ H Q I hw
  refine wpAny_isTrue_Compare1 (thn (h pins s σ H _ I hw) fun v s1 h1 => thn h1 fun u s2 h2 => thn h2 fun c s3 zx1 => ?_) h1
  obtain ⟨x, H1, I1, r1, q1⟩ := zx1
  obtain ⟨d, rfl, q⟩ := q1
  cases r1
  exact wpAny_truthy_bool ⟨H1, I1, q⟩
theorem pt_val {e : Expr} {t : TE} (h : PE X e t) (he : ∀ whole, isTrue e X.env whole = (do let v ← whole; standAt e.pos; holding [v] (truthy v)) := by exact fun _ => rfl) : PT X e (tB t) := by
  intro pins s σ H Q I hw
  refine isTrue_plain (thn (h pins s σ H _ I hw) fun v s1 zx2 => ?_) (he _)
  obtain ⟨x, H1, I1, r1, q1⟩ := zx2
  obtain ⟨d, rfl, q⟩ := q1
  cases r1
  exact wpAny_truthy_bool ⟨H1, I1, q⟩
variable {tA tB' : TT} {rest : List Expr}
def tAnd (t u : TT) : TT := fun σ H Q => t σ H fun c H1 => if c = true then u σ H1 Q else Q false H1
def tOr (t u : TT) : TT := fun σ H Q => t σ H fun c H1 => if c = true then Q true H1 else u σ H1 Q
def tNot (t : TT) : TT := fun σ H Q => t σ H fun c H1 => Q (!c) H1
theorem pw_and1 (ha : PT X a tA) : PW X (.BoolOp .And [a] pos) tA := by
  intro wh pins s σ H Q I h
  refine isTrue_and (thn (ha pins s σ H Q I h) fun c s1 e => ?_)
  cases c with
  | true => exact isTrue_and_nil e
  | false => exact e
theorem pw_or1 (ha : PT X a tA) : PW X (.BoolOp .Or [a] pos) tA := by
  intro wh pins s σ H Q I h
  refine isTrue_or (thn (ha pins s σ H Q I h) fun c s1 e => ?_)
  cases c with
  | false => exact isTrue_or_nil e
  | true => exact e
theorem pw_and (ha : PT X a tA) (hb : PW X (.BoolOp .And (b :: rest) pos) tB') : PW X (.BoolOp .And (a :: b :: rest) pos) (tAnd tA tB') := by
  intro wh pins s σ H Q I h
  refine isTrue_and (thn (ha pins s σ H _ I h) fun c s1 zx3 => ?_)
  obtain ⟨H1, I1, q1⟩ := zx3
  cases c with
  | true => exact hb wh pins s1 σ H1 Q I1 q1
  | false => exact ⟨H1, I1, q1⟩
theorem pw_or (ha : PT X a tA) (hb : PW X (.BoolOp .Or (b :: rest) pos) tB') : PW X (.BoolOp .Or (a :: b :: rest) pos) (tOr tA tB') := by
  intro wh pins s σ H Q I h
  refine isTrue_or (thn (ha pins s σ H _ I h) fun c s1 zx4 => ?_)
  obtain ⟨H1, I1, q1⟩ := zx4
  cases c with
  | true => exact ⟨H1, I1, q1⟩
  | false => exact hb wh pins s1 σ H1 Q I1 q1
theorem pt_not (ha : PT X a tA) : PT X (.UnaryOp .Not a pos) (tNot tA) := by
  intro pins s σ H Q I h
  exact isTrue_not (ha pins s σ H (fun c H1 => Q (!c) H1) I h)
def tAndV (ta tb : TE) : TE := fun σ H Q => ta σ H fun x H1 => ∃ c, x = .bl c ∧ if c = true then tb σ H1 Q else Q (.bl false) H1
def tNotV (ta : TE) : TE := fun σ H Q => ta σ H fun x H1 => ∃ c, x = .bl c ∧ Q (.bl (!c)) H1
theorem pe_one {op} {t : TE} (h : PE X a t) : PE X (.BoolOp op [a] pos) t := fun pins s σ H Q I hw => BoolOp_one (h pins s σ H Q I hw)
theorem pe_and (ha : PE X a ta) (hb : PE X (.BoolOp .And (b :: rest) pos) tb) : PE X (.BoolOp .And (a :: b :: rest) pos) (tAndV ta tb) := by
  intro pins s σ H Q I h
  refine BoolOp_and (thn (ha pins s σ H _ I h) fun v s1 zx5 => ?_)
  obtain ⟨x, H1, I1, r1, q1⟩ := zx5
  obtain ⟨c, rfl, q1⟩ := q1
  cases r1
  refine wpAny_truthy_bool ?_
  cases c with
  | true => exact hb pins s1 σ H1 Q I1 q1
  | false => exact ⟨.bl false, H1, I1, rfl, q1⟩
theorem pe_not (ha : PE X a ta) : PE X (.UnaryOp .Not a pos) (tNotV ta) := by
  intro pins s σ H Q I h
  refine UnaryOp_ (thn (ha pins s σ H _ I h) fun v s1 zx6 => ?_)
  obtain ⟨x, H1, I1, r1, q1⟩ := zx6
  obtain ⟨c, rfl, q1⟩ := q1
  cases r1
  exact not_of (wpAny_truthy_bool ⟨.bl (!c), H1, I1, rfl, q1⟩)
end
end L2
namespace L2
open PySem PySem.Spec PyProof.Rows
def SqL (K : PySem.W.Frag) (H : Hp) (a : Addr) (xs : List V) : Prop :=
  Rd H a (.lst xs) ∨
    ∃ (o : Obj) (its : Array Value) (n : Nat), K.lookup a = some o ∧ o.cls = .type "list" ∧ o.dict = none ∧ o.data = .seq its n ∧ its.size ≤ sizeLine ∧ Vals xs its.toList
def SqT (K : PySem.W.Frag) (H : Hp) (a : Addr) (xs : List V) : Prop :=
  Rd H a (.tup xs) ∨
    ∃ (o : Obj) (its : Array Value) (n : Nat), K.lookup a = some o ∧ o.cls = .type "tuple" ∧ o.data = .seq its n ∧ its.size ≤ sizeLine ∧ Vals xs its.toList
def absV : Value → Option V
  | .none => some .non
  | .bool b => some (.bl b)
  | .int i _ => some (.int i)
  | .str x _ => some (.str x)
  | .bytes b _ => some (.byt b)
  | .float b _ => some (.flt b)
  | .ref a => some (.ref a)
  | .type n => some (.ty n)
  | _ => none
theorem RelV.abs {x : V} {u : Value} (r : RelV x u) : absV u = some x := by
  cases x with
  | non => cases r; rfl
  | bl _ => cases r; rfl
  | int _ => obtain ⟨t, rfl⟩ := r; rfl
  | str _ => obtain ⟨t, rfl⟩ := r; rfl
  | byt _ => obtain ⟨t, rfl⟩ := r; rfl
  | flt _ => obtain ⟨t, rfl⟩ := r; rfl
  | ref _ => cases r; rfl
  | ty _ => cases r; rfl
theorem RelV.inj {x y : V} {u : Value} (r : RelV x u) (q : RelV y u) : x = y := Option.some.inj (r.abs.symm.trans q.abs)
theorem Vals.inj {xs ys : List V} {us : List Value} (h : Vals xs us) (h' : Vals ys us) : xs = ys := by
  induction h generalizing ys with
  | nil => cases h'; rfl
  | cons r t ih =>
    cases h' with
    | cons r' t' => rw [r.inj r', ih t']
section
variable {X : Cx} {pins : List (Addr × Obj)} {σ : St} {H : Hp} {s : Shared} {a : Addr} {xs ys : List V}
theorem SqL.of {K : PySem.W.Frag} (h : H a = some (.lst xs)) : SqL K H a xs := .inl (.inl h)
theorem Inv.list (I : Inv X pins σ H s) (h : SqL X.K H a xs) : ∃ its : List Value, Vals xs its ∧ PlainL s.heap a its.toArray ∧ xs.length ≤ sizeLine := by
  rcases h with h | ⟨o, its, n, hk, hc, hd, hs, hz, r⟩
  · obtain ⟨z, its, n, r, e⟩ := h.ok I.hok
    exact ⟨its, r, ⟨_, n, e, rfl, rfl, rfl⟩, z⟩
  · refine ⟨its.toList, r, ⟨o, n, I.kIn a o hk, hc, hd, by simpa using hs⟩, ?_⟩
    have e := r.length
    simp only [Array.length_toList] at e
    omega
theorem Inv.tuple (I : Inv X pins σ H s) (h : SqT X.K H a xs) : ∃ its : List Value, Vals xs its ∧ IsTup s.heap a its.toArray ∧ xs.length ≤ sizeLine := by
  rcases h with h | ⟨o, its, n, hk, hc, hs, hz, r⟩
  · obtain ⟨z, its, r, p⟩ := h.ok I.hok
    exact ⟨its, r, p, z⟩
  · refine ⟨its.toList, r, ⟨o, I.kIn a o hk, hc, n, by simpa using hs⟩, ?_⟩
    have e := r.length
    simp only [Array.length_toList] at e
    omega
theorem Inv.list_inj (I : Inv X pins σ H s) (h : SqL X.K H a xs) (h' : SqL X.K H a ys) : xs = ys := by
  obtain ⟨its, r, ⟨o, n, e, _, _, d⟩, _⟩ := I.list h
  obtain ⟨its', r', ⟨o', n', e', _, _, d'⟩, _⟩ := I.list h'
  rw [e] at e'; cases e'
  rw [d] at d'
  injection d' with d1 _
  have : its = its' := by simpa using congrArg Array.toList d1
  subst this
  exact r.inj r'
end
abbrev Cx.wish (X : Cx) (E : Value → Shared → Prop) : Cx := { X with xe := E }
abbrev Cx.nox (X : Cx) : Cx := X.wish fun _ _ => False
theorem Cx.Ok.wish {X : Cx} (ok : X.Ok) (E : Value → Shared → Prop) : (X.wish E).Ok :=
  ⟨ok.mod, ok.kind, ok.glob, ok.blt, ok.above, ok.inj, ok.has, ok.cab, ok.hd, ok.frames, ok.stk, ok.exf, ok.bs, ok.bsz, ok.noex, ok.exfs, ok.funs, ok.frf⟩
theorem Cx.Ok.unwish {X : Cx} {E : Value → Shared → Prop} (ok : (X.wish E).Ok) : X.Ok :=
  ⟨ok.mod, ok.kind, ok.glob, ok.blt, ok.above, ok.inj, ok.has, ok.cab, ok.hd, ok.frames, ok.stk, ok.exf, ok.bs, ok.bsz, ok.noex, ok.exfs, ok.funs, ok.frf⟩
section
variable {X : Cx} {pins : List (Addr × Obj)} {σ : St} {H : Hp} {s : Shared} {E : Value → Shared → Prop}
theorem Inv.wish (I : Inv X pins σ H s) (E : Value → Shared → Prop) : Inv (X.wish E) pins σ H s := ⟨I.ok.wish E, I.os, I.bare, I.base, I.loc, I.cell, I.free, I.freeC, I.pin, I.hok, I.len⟩
theorem Inv.unwish (I : Inv (X.wish E) pins σ H s) : Inv X pins σ H s := ⟨I.ok.unwish, I.os, I.bare, I.base, I.loc, I.cell, I.free, I.freeC, I.pin, I.hok, I.len⟩
theorem SP.unwish {D : Ends} {f : Flow} {s' : Shared} (h : SP (X.wish E) pins D f s') : SP X pins D f s' := by
  cases f with
  | next => obtain ⟨σ', H', I, q⟩ := h; exact ⟨σ', H', I.unwish, q⟩
  | brk => obtain ⟨σ', H', I, q⟩ := h; exact ⟨σ', H', I.unwish, q⟩
  | cont => obtain ⟨σ', H', I, q⟩ := h; exact ⟨σ', H', I.unwish, q⟩
  | ret u => obtain ⟨v, σ', H', I, r, q⟩ := h; exact ⟨v, σ', H', I.unwish, r, q⟩
theorem PSs.nox {st : List Stmt} {t : TS} (h : PSs X.nox st t) : PSs X st t := fun pins s σ H D I hw =>
  wpAny_mono (h pins s σ H D (I.wish _) hw) (fun _ _ q => q.unwish) fun _ _ z => False.elim z
end
section
variable {X : Cx} {st : Stmt} {rest : List Stmt} {t u : TS} {e : Expr} {te : TE} {pos : Pos}
def tNext : TS := fun D σ H => D.nx σ H
def tSeq (t u : TS) : TS := fun D σ H => t { D with nx := u D } σ H
theorem pss_nil : PSs X [] tNext := fun _ _ σ H _ I h => wpAny_execs_nil ⟨σ, H, I, h⟩
theorem pss_cons (h1 : PS X st t) (h2 : PSs X rest u) : PSs X (st :: rest) (tSeq t u) := by
  intro pins s σ H D I h
  refine wpAny_execs_cons (thn (h1 pins s σ H { D with nx := u D } I h) fun f s1 q => ?_)
  cases f with
  | next =>
    obtain ⟨σ', H', I', q⟩ := q
    exact h2 pins s1 σ' H' D I' q
  | ret v => exact q
  | brk => exact q
  | cont => exact q
theorem pss_one (h1 : PS X st t) : PSs X [st] t := by
  intro pins s σ H D I h
  refine wpAny_execs_cons (thn (h1 pins s σ H D I h) fun f s1 q => ?_)
  cases f with
  | next => exact wpAny_execs_nil q
  | ret v => exact q
  | brk => exact q
  | cont => exact q
theorem Inv.quiet {pins : List (Addr × Obj)} {σ : St} {H : Hp} {s : Shared} (I : Inv X pins σ H s) : interactive X.env = false := by simp [interactive, I.ok.kind]
def tDrop (te : TE) : TS := fun D σ H => te σ H fun _ H1 => D.nx σ H1
theorem ps_expr (he : PE X e te) (hs : swapsWith e none pos.line X.env = pure false := by rfl) : PS X (.Expr e pos) (tDrop te) := by
  intro pins s σ H D I h
  exact wpAny_Expr_any (thn (he pins s σ H _ I h) fun v s1 zy1 => (by obtain ⟨x, H1, I1, r1, q1⟩ := zy1; exact ⟨σ, H1, I1, q1⟩)) I.quiet hs
def tRet (te : TE) : TS := fun D σ H => te σ H D.rt
theorem ps_ret (he : PE X e te) : PS X (.Return (some e) pos) (tRet te) := by
  intro pins s σ H D I h
  exact wpAny_Return_some (thn (he pins s σ H _ I h) fun v s1 zy2 => (by obtain ⟨x, H1, I1, r1, q1⟩ := zy2; exact ⟨x, σ, H1, I1, r1, q1⟩))
def tIfS (c : TT) (t u : TS) : TS := fun D σ H => c σ H fun b H1 => if b = true then t D σ H1 else u D σ H1
theorem ps_if {c : Expr} {a b : List Stmt} {tc : TT} (hc : PT X c tc) (ha : PSs X a t) (hb : PSs X b u) : PS X (.If c a b pos) (tIfS tc t u) := by
  intro pins s σ H D I h
  refine wpAny_If (thn (hc pins s σ H _ I h) fun d s1 zx7 => ?_)
  obtain ⟨H1, I1, q1⟩ := zx7
  cases d with
  | true => exact ha pins s1 σ H1 D I1 q1
  | false => exact hb pins s1 σ H1 D I1 q1
def tNever : TS := fun _ _ _ => False
theorem pss_never {sts : List Stmt} : PSs X sts tNever := fun _ _ _ _ _ _ h => h.elim
end
abbrev TG := V → St → Hp → (St → Hp → Prop) → Prop
abbrev TGs := List V → St → Hp → (St → Hp → Prop) → Prop
def PG (X : Cx) (target : Expr) (t : TG) : Prop :=
  ∀ (pins : List (Addr × Obj)) (s : Shared) (σ : St) (H : Hp) (v : V) (u : Value) (Q : St → Hp → Prop), Inv X pins σ H s → RelV v u → t v σ H Q →
    wpAny (model X.prog X.w) X.A (assign target X.env u) (fun _ s' => ∃ σ' H', Inv X pins σ' H' s' ∧ Q σ' H') X.xe s
abbrev TSet := V → V → V → Hp → (Hp → Prop) → Prop
def PSet (X : Cx) (t : TSet) : Prop :=
  ∀ (pins : List (Addr × Obj)) (s : Shared) (σ : St) (H : Hp) (o i v : V) (ov iv u : Value) (Q : Hp → Prop), Inv X pins σ H s → RelV o ov → RelV i iv → RelV v u → t o i v H Q →
    wpAny (model X.prog X.w) X.A (setItem ov iv u) (fun _ s' => ∃ H', Inv X pins σ H' s' ∧ Q H') X.xe s
abbrev TIp := V → V → Hp → VK → Prop
section
variable {X : Cx} {pos : Pos}
def gName (i : Nat) : TG := fun v σ H Q => Q (σ.set i (some v)) H
theorem pg_name {i : Nat} {x : Str} (hN : X.N.Nodup) (hi : X.N[i]? = some x) (hx : Loc X.env.scope x) (hf : X.fn x = true ∨ X.env.scope.names.lookup x = some .local := by first | exact .inl rfl | exact .inr rfl | assumption) : PG X (.Name x pos) (gName i) := by
  intro pins s σ H v u Q I r h
  exact wpAny_assign_Name (store_ok I hN hi hx r (fun s' I' => ⟨_, H, I', h⟩) hf)
def gSub (to ti : TE) (t : TSet) : TG := fun v σ H Q => to σ H fun o H1 => ti σ H1 fun i H2 => t o i v H2 fun H3 => Q σ H3
theorem pg_sub {o i : Expr} {to ti : TE} {t : TSet} (ho : PE X o to) (hi : PE X i ti) (hs : PSet X t)
    (ha : ∀ v, assign (.Subscript o i pos) X.env v = (do
      let ov ← holding [v] (eval o X.env)
      let iv ← holding [v, ov] (eval i X.env)
      standAt pos
      holding [v, ov, iv] (setItem ov iv v)
      release [v, ov, iv] []) := by exact fun _ => rfl) : PG X (.Subscript o i pos) (gSub to ti t) := by
  intro pins s σ H v u Q I r h
  rw [ha]
  refine wpAny_bind (wpAny_holding (thn (ho pins s σ H _ I h) fun ov s1 zx8 => ?_))
  obtain ⟨x, H1, I1, r1, q1⟩ := zx8
  refine wpAny_bind (wpAny_holding (thn (hi pins s1 σ H1 _ I1 q1) fun iv s2 zx9 => ?_))
  obtain ⟨y, H2, I2, r2, q2⟩ := zx9
  refine wpAny_bind (wpAny_standAt (wpAny_bind (wpAny_holding (thn (hs pins s2 σ H2 x y v ov iv u _ I2 r1 r2 r q2) fun _ s3 zx10 => ?_))))
  obtain ⟨H3, I3, q3⟩ := zx10
  exact wpAny_release ⟨σ, H3, I3, q3⟩
def tAsg (te : TE) (g : TG) : TS := fun D σ H => te σ H fun x H1 => g x σ H1 D.nx
theorem ps_asg {tg e : Expr} {te : TE} {g : TG} (he : PE X e te) (hg : PG X tg g) (hs : swapsWithSole [tg] e pos.line X.env = pure false := by rfl) (hw : swappedStores [tg] e X.env = pure none := by rfl)
    (h1 : (assignEach [tg] X.env).map (·.2) = [assign tg X.env] := by rfl) : PS X (.Assign [tg] e pos) (tAsg te g) := by
  intro pins s σ H D I h
  refine wpAny_Assign_stores (thn (he pins s σ H _ I h) fun v s1 zx11 => ?_) hs hw
  obtain ⟨x, H1, I1, r1, q1⟩ := zx11
  rw [h1]
  exact thn (hg pins s1 σ H1 x v _ I1 r1 q1) fun _ s2 q => q
theorem ps_set {i : Nat} {x : Str} {e : Expr} {te : TE} {pos' : Pos} (hN : X.N.Nodup) (hi : X.N[i]? = some x) (hx : Loc X.env.scope x) (he : PE X e te) (hs : swapsWith e (some (.Name x pos')) pos.line X.env = pure false := by rfl) (hf : X.fn x = true ∨ X.env.scope.names.lookup x = some .local := by first | exact .inl rfl | exact .inr rfl | assumption) :
    PS X (.Assign [.Name x pos'] e pos) (tAsg te (gName i)) := by
  intro pins s σ H D I h
  refine wpAny_Assign_Name (thn (he pins s σ H _ I h) fun v s1 zx12 => ?_) hs
  obtain ⟨y, H1, I1, r1, q1⟩ := zx12
  exact store_ok I1 hN hi hx r1 (fun s2 I2 => ⟨_, H1, I2, q1⟩) hf
end
section
variable {X : Cx} {pos : Pos}
end
structure It where
  go : Nat → Hp → Prop
  yld : Nat → Hp → V → Hp → Prop
  stop : Nat → Hp → Prop
def FpOk (X : Cx) (pins : List (Addr × Obj)) (H : Hp) (b : Addr) : Prop :=
  H b = none ∧ b ≠ X.env.locals ∧ b ∉ X.fs ∧ (b ∈ X.ex ∨ X.s₀.heap.objs.size ≤ b) ∧ (∀ x c, X.env.cells.lookup x = some c → c ≠ b) ∧ ∀ p ∈ X.pn ++ pins, p.1 ≠ b
theorem Inv.fpOk {X : Cx} {pins : List (Addr × Obj)} {σ : St} {H H' : Hp} {s : Shared} {b : Addr} (I : Inv X pins σ H s) (hb : s.heap.objs.size ≤ b) (hn : H' b = none) : FpOk X pins H' b := by
  refine ⟨hn, Nat.ne_of_gt (Nat.lt_of_lt_of_le I.lt hb), I.nofs hb, .inr (Nat.le_trans I.sz hb), fun x c e z => ?_, fun p hp z => ?_⟩
  · obtain ⟨v, q⟩ := I.cell x c e
    exact absurd (Nat.lt_of_lt_of_le q.lt (by rw [z]; exact hb)) (Nat.lt_irrefl _)
  · exact absurd (Nat.lt_of_lt_of_le (Heap.lt_size (I.pin p hp).1) (by rw [z]; exact hb)) (Nat.lt_irrefl _)
structure Turn (P : Program) (w : World) (K : PySem.W.Frag) (tg : Expr) (J : It) (fp : List Addr) (it : Addr) (tn : Nat → Heap → Prop) : Prop where
  mem : it ∈ fp
  obj : ∀ i h, tn i h → ∀ b ∈ fp, ∃ o, h.get? b = some o ∧ ∀ v, o.data ≠ .cell v
  keep : ∀ i h h', tn i h → (∀ b ∈ fp, ∀ o, h.get? b = some o → h'.get? b = some o) → tn i h'
  item : ∀ (X : Cx), X.prog = P → X.w = w → X.K = K → X.calm = true → ∀ (i : Nat) (pins : List (Addr × Obj)) (s : Shared) (σ : St) (H : Hp) (E : Value → Shared → Prop), Inv X pins σ H s → (∀ b ∈ fp, FpOk X pins H b) → tn i s.heap → J.go i H →
    wpAny (model P w) X.A (pyNext (.ref it)) (fun r s1 => ∃ u, r = some u ∧
      wpAny (model P w) X.A (letOwnedTupleGo tg (.ref it) u) (fun _ s2 => ∃ x H', Inv X pins σ H' s2 ∧ RelV x u ∧ J.yld i H x H' ∧ tn (i + 1) s2.heap ∧ ∀ b ∈ fp, H' b = none) E s1) E s
  done : ∀ (X : Cx), X.prog = P → X.w = w → X.K = K → X.calm = true → ∀ (i : Nat) (pins : List (Addr × Obj)) (s : Shared) (σ : St) (H : Hp) (E : Value → Shared → Prop), Inv X pins σ H s → (∀ b ∈ fp, FpOk X pins H b) → tn i s.heap → J.stop i H →
    wpAny (model P w) X.A (pyNext (.ref it)) (fun r s1 => r = none ∧ Inv X pins σ H s1) E s
  self : ∀ (A : Around) (i : Nat) (s : Shared) (Q : Value → Shared → Prop) (E : Value → Shared → Prop), tn i s.heap → Q (.ref it) s → wpAny (model P w) A (pyIter (.ref it)) Q E s
abbrev TI := St → Hp → (It → Hp → Prop) → Prop
def PIE (X : Cx) (pins : List (Addr × Obj)) (σ : St) (tg : Expr) (R : It → Hp → Prop) (itv : Value) (s2 : Shared) : Prop :=
  ∃ (it : Addr) (fp : List Addr) (tn : Nat → Heap → Prop) (J : It) (H' : Hp), itv = .ref it ∧ Inv X pins σ H' s2 ∧ Turn X.prog X.w X.K tg J fp it tn ∧ tn 0 s2.heap ∧ (∀ b ∈ fp, FpOk X pins H' b) ∧ R J H'
def PI (X : Cx) (tg iter : Expr) (wi : TI) : Prop :=
  ∀ (pins : List (Addr × Obj)) (s : Shared) (σ : St) (H : Hp) (R : It → Hp → Prop), Inv X pins σ H s → wi σ H R →
    wpAny (model X.prog X.w) X.A (eval iter X.env) (fun v s1 => wpAny (model X.prog X.w) X.A (pyIter v) (PIE X pins σ tg R) X.xe s1) X.xe s
theorem go_of {M : Model} {A : Around} {E : Value → Shared → Prop} {s : Shared} {tg : Expr} {it : Addr} {u : Value} {o : Obj} {n : String} {vs : Array Value} {Q : Unit → Shared → Prop} (ho : s.heap.get? it = some o) (hc : o.cls = .type n) (hd : o.data = .fields vs)
    (hn : ["enumerate", "zip", "dict_itemiterator", "dict_reverseitemiterator", "odict_iterator", "itertools.zip_longest", "itertools.pairwise"].contains n = false) (hQ : Q () s) : wpAny M A (letOwnedTupleGo tg (.ref it) u) Q E s := by
  unfold letOwnedTupleGo
  cases tg <;> first
    | exact wpAny_pure hQ
    | (cases u <;> first
        | exact wpAny_pure hQ
        | (refine wpAny_bind (wpAny_load ho ?_)
           rw [hc, hd]
           show wpAny M A (if (["enumerate", "zip", "dict_itemiterator", "dict_reverseitemiterator", "odict_iterator", "itertools.zip_longest", "itertools.pairwise"].contains n && vs[0]? == some (rawInt _)) = true then _ else _) Q E s
           rw [if_neg (by intro h; rw [hn, Bool.false_and] at h; cases h)]
           exact wpAny_pure hQ))
def Itl (K : PySem.W.Frag) (a : Addr) : It :=
  ⟨fun i H => ∃ xs x, SqL K H a xs ∧ xs[i]? = some x, fun i H x H' => H' = H ∧ ∀ xs, SqL K H a xs → xs[i]? = some x, fun i H => ∃ xs, SqL K H a xs ∧ xs.length ≤ i⟩
def Itr (lo : Int) (n : Nat) : It := ⟨fun i _ => i < n, fun i H x H' => H' = H ∧ x = .int (lo + i), fun i _ => n ≤ i⟩
theorem turn_list {P : Program} {w : World} {K : PySem.W.Frag} {tg : Expr} (a it : Addr) : Turn P w K tg (Itl K a) [it] it (fun i h => h.IsListIter it a i) where
  mem := by simp
  obj := fun i h st b hb => by
    have e : b = it := by simpa using hb
    subst e
    obtain ⟨o, e, c, d⟩ := st
    exact ⟨o, e, fun v z => by rw [d] at z; cases z⟩
  keep := fun i h h' st k => st.at fun o e => k it (by simp) o e
  item := by
    intro X hP hw hK hc i pins s σ H E I hf st hg
    subst hP hw hK
    obtain ⟨xs, x, hq, hx⟩ := hg
    obtain ⟨its, rv, p, hz⟩ := I.list hq
    obtain ⟨u, hu, ru⟩ := rv.get hx
    obtain ⟨f0, f1, f2, f3, f4, f5⟩ := hf it (by simp)
    refine wpAny_pyNext_list_item st p.isList (x := u) (by simpa using hu) fun h' st' sb => ?_
    have I1 : Inv X pins σ H { s with heap := h' } := I.turned (t' := s.toks) (fun b o hb e => (sb.2 b hb).trans e) f0 f1 f3 f4 f5
    obtain ⟨o, e, c, d⟩ := id st'
    exact ⟨u, rfl, go_of (s := { s with heap := h' }) e c d (by decide) ⟨x, H, I1, ru, ⟨rfl, fun ys hy => by rw [I.list_inj hy hq]; exact hx⟩, st', fun b hb => (hf b hb).1⟩⟩
  done := by
    intro X hP hw hK hc i pins s σ H E I hf st hg
    subst hP hw hK
    obtain ⟨xs, hq, hx⟩ := hg
    obtain ⟨its, rv, p, hz⟩ := I.list hq
    obtain ⟨f0, f1, f2, f3, f4, f5⟩ := hf it (by simp)
    have hl := rv.length
    exact wpAny_pyNext_list_end (I.ok.hd hc) st p.isList (by simp; omega) fun h' eb => ⟨rfl, I.turned (t' := s.toks) (fun b o hb e => eb b o hb e) f0 f1 f3 f4 f5⟩
  self := fun _ _ _ _ _ st h => wpAny_pyIter_listiter st h
theorem turn_range {P : Program} {w : World} {K : PySem.W.Frag} {tg : Expr} (it : Addr) (lo : Int) (n : Nat) : Turn P w K tg (Itr lo n) [it] it (fun i h => IsRangeIter h it (lo + (i : Nat) * 1) ((n : Int) - (i : Nat)) 1) where
  mem := by simp
  obj := fun i h st b hb => by
    have e : b = it := by simpa using hb
    subst e
    exact ⟨_, st, fun v z => by
      have z' : Data.fields _ = Data.cell v := z
      cases z'⟩
  keep := fun i h h' st k => k it (by simp) _ st
  item := by
    intro X hP hw hK hc i pins s σ H E I hf st hg
    subst hP hw hK
    obtain ⟨f0, f1, f2, f3, f4, f5⟩ := hf it (by simp)
    have W := Walks.range (prog := X.prog) (w := X.w) (I.ok.hd hc) it lo 1 n
    refine W.item i s _ _ hg st fun v h' tk hv st' kk => ?_
    obtain ⟨t, rfl⟩ := hv
    have I1 : Inv X pins σ H { s with heap := h', toks := tk } := I.turned (fun b o hb e => kk b o (by simpa using hb) e) f0 f1 f3 f4 f5
    refine ⟨_, rfl, go_of (s := { s with heap := h', toks := tk }) (n := "range_iterator") st' rfl rfl (by decide) ⟨.int (lo + i), H, I1, ⟨t, ?_⟩, ⟨rfl, rfl⟩, st', fun b hb => (hf b hb).1⟩⟩
    rw [Int.mul_one]
  done := by
    intro X hP hw hK hc i pins s σ H E I hf st hg
    subst hP hw hK
    obtain ⟨f0, f1, f2, f3, f4, f5⟩ := hf it (by simp)
    exact wpAny_pyNext_range_end (I.ok.hd hc) st (by have : n ≤ i := hg; omega) fun h' eb => ⟨rfl, I.turned (t' := s.toks) (fun b o hb e => eb b o hb e) f0 f1 f3 f4 f5⟩
  self := fun _ _ _ _ _ st h => wpAny_pyIter_rangeiter st h
end L2
namespace L2
open PySem PySem.Spec PyProof.Rows
section
variable {X : Cx} {tg : Expr}
def iList (K : PySem.W.Frag) (tl : TE) : TI := fun σ H R => tl σ H fun x H1 => ∃ a, x = .ref a ∧ (∃ xs, SqL K H1 a xs) ∧ R (Itl K a) H1
theorem pi_list {l : Expr} {tl : TE} (hl : PE X l tl) : PI X tg l (iList X.K tl) := by
  intro pins s σ H R I h
  refine thn (hl pins s σ H _ I h) fun v s1 zx13 => ?_
  obtain ⟨x, H1, I1, r1, q1⟩ := zx13
  obtain ⟨a, e, ⟨xs, hq⟩, q⟩ := q1
  subst e
  cases r1
  obtain ⟨its, rv, p, hz⟩ := I1.list hq
  refine wpAny_pyIter_list p.isList ?_
  refine ⟨s1.heap.objs.size, [s1.heap.objs.size], _, _, H1, rfl, I1.kept (t' := s1.toks) fun b o e => Heap.get?_push_of_some _ e, turn_list a _, ⟨_, Heap.get?_push_size _ rfl, rfl, rfl⟩, fun b hb => ?_, q⟩
  have e : b = s1.heap.objs.size := by simpa using hb
  subst e
  exact I1.fpOk (Nat.le_refl _) (I1.hok.fresh (Nat.le_refl _))
theorem range_it {pins : List (Addr × Obj)} {σ : St} {H : Hp} {s : Shared} {R : It → Hp → Prop} {E : Value → Shared → Prop} {lo hi : Int} {t u v : Tok} {tk : Nat} (I : Inv X pins σ H s) (h1 : -(2 ^ 62) ≤ lo) (h2 : lo < 2 ^ 62) (h3 : -(2 ^ 62) ≤ hi) (h4 : hi < 2 ^ 62)
    (q : R (Itr lo (hi - lo).toNat) H) : wpAny (model X.prog X.w) X.A (pyIter (.ref s.heap.objs.size)) (PIE X pins σ tg R) E { s with heap := s.heap.push { cls := .type "range", data := .fields #[.int lo t, .int hi u, .int 1 v] }, toks := tk } := by
  refine wpAny_pyIter_range (IsRange.new ..) (small_one h1 h2 h3 h4) ?_
  have I1 : Inv X pins σ H { s with heap := s.heap.push { cls := .type "range", data := .fields #[.int lo t, .int hi u, .int 1 v] }, toks := tk } := I.kept fun b o e => Heap.get?_push_of_some _ e
  refine ⟨(s.heap.push { cls := .type "range", data := .fields #[.int lo t, .int hi u, .int 1 v] }).objs.size, [(s.heap.push { cls := .type "range", data := .fields #[.int lo t, .int hi u, .int 1 v] }).objs.size], _, _, H, rfl,
    I1.kept (t' := tk) fun b o e => Heap.get?_push_of_some _ e, turn_range _ lo (hi - lo).toNat, ?_, fun b hb => ?_, q⟩
  · have e1 : lo + ((0 : Nat) : Int) * 1 = lo := by simp
    have e2 : (((hi - lo).toNat : Nat) : Int) - ((0 : Nat) : Int) = Builtin.Range.rangeSize lo hi 1 := by rw [rangeSize_one]; split <;> omega
    show IsRangeIter _ _ (lo + ((0 : Nat) : Int) * 1) ((((hi - lo).toNat : Nat) : Int) - ((0 : Nat) : Int)) 1
    rw [e1, e2]
    exact Heap.get?_push_size _ rfl
  · have e : b = (s.heap.push { cls := .type "range", data := .fields #[.int lo t, .int hi u, .int 1 v] }).objs.size := by simpa using hb
    subst e
    exact I1.fpOk (Nat.le_refl _) (I1.hok.fresh (Nat.le_refl _))
def iRng1 (ta : TA) : TI := fun σ H R => ta σ H fun vs H1 => ∃ j : Int, vs = [.int j] ∧ -(2 ^ 62) ≤ j ∧ j < 2 ^ 62 ∧ R (Itr 0 j.toNat) H1
theorem pi_range1 {a : Expr} {ta : TA} {p pos : Pos} (hg : Gl X "range") (hm : X.mg "range" = none) (ha : PA X [a] ta) (hs : starEach [a] X.env = [(false, eval a X.env)] := by rfl) : PI X tg (.Call (.Name "range" p) [a] [] pos) (iRng1 ta) := by
  intro pins s σ H R I h
  refine Call_ (ld_blt I hg hm boot_range (PyProof.Rows.callWith_type1 (thn (ha pos pins s σ H _ I h) fun us s1 zx14 => ?_) hs rfl))
  obtain ⟨vs, H1, I1, r1, q1⟩ := zx14
  obtain ⟨j, e, q1, q2, q⟩ := q1
  subst e
  cases r1 with
  | cons r rr =>
    cases rr
    obtain ⟨t, rfl⟩ := r
    exact call_range_1 (range_it I1 (by omega) (by omega) q1 q2 (by simpa using q))
def tFor (wi : TI) (g : TG) (tb : TS) : TS := fun D σ H => wi σ H fun J H1 => ∃ W : Nat → Nat → St → Hp → Prop, (∃ m, W 0 m σ H1) ∧ ∀ i m σ H, W i m σ H →
  (J.stop i H ∧ D.nx σ H) ∨ (J.go i H ∧ ∃ N : St → Hp → Prop, (∀ σ' H', N σ' H' → ∃ m', m' < m ∧ W (i + 1) m' σ' H') ∧ ∀ x H', J.yld i H x H' → g x σ H' fun σ2 H2 => tb { D with nx := N, ct := N, bk := D.nx } σ2 H2)
def pinsAt (fp : List Addr) (h : Heap) : List (Addr × Obj) := fp.filterMap fun b => (h.get? b).map fun o => (b, o)
theorem mem_pinsAt {fp : List Addr} {h : Heap} {b : Addr} {o : Obj} (hb : b ∈ fp) (e : h.get? b = some o) : (b, o) ∈ pinsAt fp h := List.mem_filterMap.mpr ⟨b, hb, by rw [e]; rfl⟩
theorem of_pinsAt {fp : List Addr} {h : Heap} {p : Addr × Obj} (hp : p ∈ pinsAt fp h) : p.1 ∈ fp ∧ h.get? p.1 = some p.2 := by
  obtain ⟨b, hb, e⟩ := List.mem_filterMap.mp hp
  cases q : h.get? b with
  | none => rw [q] at e; cases e
  | some o =>
    rw [q] at e
    have e' : (b, o) = p := Option.some.inj e
    subst e'
    exact ⟨hb, q⟩
theorem Inv.pinned {pins : List (Addr × Obj)} {σ : St} {H : Hp} {s : Shared} {fp : List Addr} (I : Inv X pins σ H s) (hf : ∀ b ∈ fp, FpOk X pins H b) (ho : ∀ b ∈ fp, ∃ o, s.heap.get? b = some o ∧ ∀ v, o.data ≠ .cell v) : Inv X (pins ++ pinsAt fp s.heap) σ H s :=
  I.pins_of fun p hp => (List.mem_append.mp hp).elim (fun z => I.pin p (List.mem_append_right _ z)) fun z => by
    obtain ⟨hb, e⟩ := of_pinsAt z
    obtain ⟨f0, f1, f2, _⟩ := hf p.1 hb
    obtain ⟨o, e', d⟩ := ho p.1 hb
    rw [e] at e'; cases e'
    exact ⟨e, f0, f1, f2, d⟩
theorem Inv.unpinned {pins pl : List (Addr × Obj)} {σ : St} {H : Hp} {s : Shared} (I : Inv X (pins ++ pl) σ H s) : Inv X pins σ H s := I.pins_of fun p hp => I.pin p (List.mem_append_right _ (List.mem_append_left _ hp))
theorem ps_for {iter : Expr} {body : List Stmt} {wi : TI} {g : TG} {tb : TS} {pos : Pos} (hp : PassesOwn (model X.prog X.w) X.A X.env X.xe) (hc : X.calm = true) (hi : PI X tg iter wi) (hg : PG X tg g) (hb : PSs X body tb)
    (hs : ∀ x, foldedSetIterable iter X.env x = pure x := by exact fun _ => rfl) : PS X (.For tg iter body [] pos) (tFor wi g tb) := by
  intro pins s σ H D I h
  refine wpAny_For (thn (hi pins s σ H _ I h) fun v s1 h1 => thn h1 fun itv s2 h2 => ?_) hs
  obtain ⟨it, fp, tn, J, H2, e, I2, T, st2, f2, W, ⟨m0, w0⟩, turn⟩ := h2
  subst e
  -- what stays true of the iterator's objects through the loop
  have stat : ∀ {H' : Hp}, (∀ b ∈ fp, H' b = none) → ∀ b ∈ fp, FpOk X pins H' b := fun hn b hb => ⟨hn b hb, (f2 b hb).2⟩
  refine codeAny_forLoop_any (fun n s' => ∃ i σ' H', Inv X pins σ' H' s' ∧ tn i s'.heap ∧ (∀ b ∈ fp, H' b = none) ∧ W i n σ' H') ?_ m0 ⟨0, σ, H2, I2, st2, fun b hb => (f2 b hb).1, w0⟩
  rintro n s3 ⟨i, σ3, H3, I3, st3, fr3, w3⟩
  rcases turn i n σ3 H3 w3 with ⟨stop, qn⟩ | ⟨go, N, hN, step⟩
  · refine wpAny_passesOwn hp (thn (T.done X rfl rfl rfl hc i pins s3 σ3 H3 X.xe I3 (stat fr3) st3 stop) fun r s4 zx15 => ?_)
    obtain ⟨hr, I4⟩ := zx15
    subst hr
    exact wpAny_execs_nil ⟨σ3, H3, I4, qn⟩
  · refine wpAny_passesOwn hp (thn (T.item X rfl rfl rfl hc i pins s3 σ3 H3 X.xe I3 (stat fr3) st3 go) fun r s4 zx16 => ?_)
    obtain ⟨u, hr, h4⟩ := zx16
    subst hr
    refine wpAny_passesOwn hp (thn h4 fun _ s5 zx17 => ?_)
    obtain ⟨x, H5, I5, r5, y5, st5, fr5⟩ := zx17
    have I5' := I5.pinned (stat fr5) (T.obj _ _ st5)
    refine wpAny_passesOwn hp (thn (hg _ s5 σ3 H5 x u _ I5' r5 (step x H5 y5)) fun _ s6 zx18 => ?_)
    obtain ⟨σ6, H6, I6, q6⟩ := zx18
    refine wpAny_passesOwn hp (thn (hb _ s6 σ6 H6 _ I6 q6) fun f s7 q7 => ?_)
    have again : ∀ {σ7 : St} {H7 : Hp}, Inv X (pins ++ pinsAt fp s5.heap) σ7 H7 s7 → N σ7 H7 → ∃ m, m < n ∧ ∃ i σ' H', Inv X pins σ' H' s7 ∧ tn i s7.heap ∧ (∀ b ∈ fp, H' b = none) ∧ W i m σ' H' := fun {σ7 H7} I7 n7 => by
      obtain ⟨m', hm, w7⟩ := hN σ7 H7 n7
      refine ⟨m', hm, i + 1, σ7, H7, I7.unpinned, T.keep _ _ _ st5 fun b hb o e => (I7.pin (b, o) (List.mem_append_right _ (List.mem_append_right _ (mem_pinsAt hb e)))).1, fun b hb => ?_, w7⟩
      obtain ⟨o, e, d⟩ := T.obj _ _ st5 b hb
      exact (I7.pin (b, o) (List.mem_append_right _ (List.mem_append_right _ (mem_pinsAt hb e)))).2.1
    cases f with
    | next => obtain ⟨σ7, H7, I7, n7⟩ := q7; exact again I7 n7
    | cont => obtain ⟨σ7, H7, I7, n7⟩ := q7; exact again I7 n7
    | brk => obtain ⟨σ7, H7, I7, q7⟩ := q7; exact ⟨σ7, H7, I7.unpinned, q7⟩
    | ret v => obtain ⟨x7, σ7, H7, I7, r7, q7⟩ := q7; exact ⟨x7, σ7, H7, I7.unpinned, r7, q7⟩
end
theorem for_list {K : PySem.W.Frag} {a : Addr} {xs : List V} {g : TG} {tb : TS} {D : Ends} {σ : St} {H : Hp} (Pv : Nat → St → Hp → Prop) (h0 : Pv 0 σ H) (hl : ∀ i σ H, i ≤ xs.length → Pv i σ H → SqL K H a xs)
    (hs : ∀ i x σ H, xs[i]? = some x → Pv i σ H → g x σ H fun σ2 H2 => tb { D with nx := Pv (i + 1), ct := Pv (i + 1), bk := D.nx } σ2 H2) (hd : ∀ σ H, Pv xs.length σ H → D.nx σ H) :
    ∃ W : Nat → Nat → St → Hp → Prop, (∃ m, W 0 m σ H) ∧ ∀ i m σ H, W i m σ H →
      ((Itl K a).stop i H ∧ D.nx σ H) ∨ ((Itl K a).go i H ∧ ∃ N : St → Hp → Prop, (∀ σ' H', N σ' H' → ∃ m', m' < m ∧ W (i + 1) m' σ' H') ∧ ∀ x H', (Itl K a).yld i H x H' → g x σ H' fun σ2 H2 => tb { D with nx := N, ct := N, bk := D.nx } σ2 H2) := by
  refine ⟨fun i m σ H => m = xs.length - i ∧ i ≤ xs.length ∧ Pv i σ H, ⟨xs.length, by simp, Nat.zero_le _, h0⟩, ?_⟩
  rintro i m σ H ⟨rfl, hi, p⟩
  have q := hl i σ H hi p
  by_cases hlt : i < xs.length
  · refine .inr ⟨⟨xs, xs[i], q, by simp [hlt]⟩, Pv (i + 1), fun σ' H' p' => ⟨xs.length - (i + 1), by omega, rfl, hlt, p'⟩, fun x H' y => ?_⟩
    obtain ⟨e, y⟩ := y
    subst e
    exact hs i x σ _ (y xs q) p
  · have e : i = xs.length := by omega
    subst e
    exact .inl ⟨⟨xs, q, Nat.le_refl _⟩, hd σ H p⟩
theorem for_range {lo : Int} {n : Nat} {g : TG} {tb : TS} {D : Ends} {σ : St} {H : Hp} (Pv : Nat → St → Hp → Prop) (h0 : Pv 0 σ H)
    (hs : ∀ i σ H, i < n → Pv i σ H → g (.int (lo + i)) σ H fun σ2 H2 => tb { D with nx := Pv (i + 1), ct := Pv (i + 1), bk := D.nx } σ2 H2) (hd : ∀ σ H, Pv n σ H → D.nx σ H) :
    ∃ W : Nat → Nat → St → Hp → Prop, (∃ m, W 0 m σ H) ∧ ∀ i m σ H, W i m σ H →
      ((Itr lo n).stop i H ∧ D.nx σ H) ∨ ((Itr lo n).go i H ∧ ∃ N : St → Hp → Prop, (∀ σ' H', N σ' H' → ∃ m', m' < m ∧ W (i + 1) m' σ' H') ∧ ∀ x H', (Itr lo n).yld i H x H' → g x σ H' fun σ2 H2 => tb { D with nx := N, ct := N, bk := D.nx } σ2 H2) := by
  refine ⟨fun i m σ H => m = n - i ∧ i ≤ n ∧ Pv i σ H, ⟨n, by simp, Nat.zero_le _, h0⟩, ?_⟩
  rintro i m σ H ⟨rfl, hi, p⟩
  by_cases hlt : i < n
  · refine .inr ⟨hlt, Pv (i + 1), fun σ' H' p' => ⟨n - (i + 1), by omega, rfl, hlt, p'⟩, fun x H' y => ?_⟩
    obtain ⟨e, y⟩ := y
    subst e y
    exact hs i σ _ hlt p
  · have e : i = n := by omega
    subst e
    exact .inl ⟨Nat.le_refl _, hd σ H p⟩
end L2
namespace L2
open PySem PySem.Spec PyProof.Rows
theorem el5 {α β : Type _} {A1 A2 A3 : α → β → Prop} {P : Prop} (h : ∃ a b, A1 a b ∧ A2 a b ∧ A3 a b) (k : ∀ a b, A1 a b → A2 a b → A3 a b → P) : P := by
  obtain ⟨a, b, h1, h2, h3⟩ := h
  exact k a b h1 h2 h3
abbrev R2 := V → V → Hp → VK → Prop
def OpR (X : Cx) (f : Value → Value → Sem Value) (r : R2) : Prop :=
  ∀ (pins : List (Addr × Obj)) (s : Shared) (σ : St) (H : Hp) (x y : V) (v u : Value) (Q : VK), Inv X pins σ H s → RelV x v → RelV y u → r x y H Q →
    wpAny (model X.prog X.w) X.A (f v u) (EP X pins σ Q) X.xe s
def CallR (X : Cx) (f : Value) (r : List V → Hp → VK → Prop) : Prop :=
  ∀ (pins : List (Addr × Obj)) (s : Shared) (σ : St) (H : Hp) (xs : List V) (us : List Value) (Q : VK), Inv X pins σ H s → Vals xs us → r xs H Q →
    wpAny (model X.prog X.w) X.A (call f us) (EP X pins σ Q) X.xe s
def tOp (r : R2) (ta tb : TE) : TE := fun σ H Q => ta σ H fun x H1 => tb σ H1 fun y H2 => r x y H2 Q
def rI (C : Int → Int → Prop) (g : Int → Int → V) : R2 := fun x y H Q => ∃ i j, x = .int i ∧ y = .int j ∧ C i j ∧ Q (g i j) H
def rI0 (g : Int → Int → V) : R2 := fun x y H Q => ∃ i j, x = .int i ∧ y = .int j ∧ Q (g i j) H
section
variable {X : Cx} {a b c : Expr} {ta tb tc : TE} {pos : Pos}
theorem binT (ha : PE X a ta) (hb : PE X b tb) {pins : List (Addr × Obj)} {s : Shared} {σ : St} {H : Hp} {R : V → V → Hp → Prop} (I : Inv X pins σ H s)
    (h : ta σ H fun x H1 => tb σ H1 fun y H2 => R x y H2) {Q : Value → Shared → Prop} {f : Value → Value → Sem Value}
    (hf : ∀ v u s2 x y H2, Inv X pins σ H2 s2 → RelV x v → RelV y u → R x y H2 → wpAny (model X.prog X.w) X.A (f v u) Q X.xe s2) :
    wpAny (model X.prog X.w) X.A (eval a X.env) (fun v s₁ => wpAny (model X.prog X.w) X.A (eval b X.env) (fun u s₂ => wpAny (model X.prog X.w) X.A (f v u) Q X.xe s₂) X.xe s₁) X.xe s := by
  refine thn (ha pins s σ H _ I h) fun v s1 zx19 => ?_
  obtain ⟨x, H1, I1, r1, q1⟩ := zx19
  refine thn (hb pins s1 σ H1 _ I1 q1) fun u s2 zx20 => ?_
  obtain ⟨y, H2, I2, r2, q2⟩ := zx20
  exact hf v u s2 x y H2 I2 r1 r2 q2
theorem pe_op {op : Operator} {r : R2} (ho : OpR X (binaryOp op) r) (ha : PE X a ta) (hb : PE X b tb) : PE X (.BinOp a op b pos) (tOp r ta tb) := by
  intro pins s σ H Q I h
  exact wpAny_BinOp (binT ha hb I h fun v u s2 x y H2 I2 rx ry q => ho pins s2 σ H2 x y v u Q I2 rx ry q)
theorem opI {f : Value → Value → Sem Value} {C : Int → Int → Prop} {g : Int → Int → Int}
    (rule : ∀ (i j : Int) (t u : Tok) (s : Shared) (Q : Value → Shared → Prop) (E : Value → Shared → Prop), C i j → Q (.int (g i j) s.toks) { s with toks := s.toks + 1 } → wpAny (model X.prog X.w) X.A (f (.int i t) (.int j u)) Q E s) :
    OpR X f (rI C fun i j => .int (g i j)) := by
  intro pins s σ H x y v u Q I rx ry h
  obtain ⟨i, j, rfl, rfl, hc, q⟩ := h
  obtain ⟨t, rfl⟩ := rx
  obtain ⟨t', rfl⟩ := ry
  exact rule i j t t' s _ _ hc ⟨.int (g i j), H, I.tok _, ⟨_, rfl⟩, q⟩
theorem opI0 {f : Value → Value → Sem Value} {g : Int → Int → Int}
    (rule : ∀ (i j : Int) (t u : Tok) (s : Shared) (Q : Value → Shared → Prop) (E : Value → Shared → Prop), Q (.int (g i j) s.toks) { s with toks := s.toks + 1 } → wpAny (model X.prog X.w) X.A (f (.int i t) (.int j u)) Q E s) :
    OpR X f (rI0 fun i j => .int (g i j)) := by
  intro pins s σ H x y v u Q I rx ry h
  obtain ⟨i, j, rfl, rfl, q⟩ := h
  obtain ⟨t, rfl⟩ := rx
  obtain ⟨t', rfl⟩ := ry
  exact rule i j t t' s _ _ ⟨.int (g i j), H, I.tok _, ⟨_, rfl⟩, q⟩
theorem opB0 {f : Value → Value → Sem Value} {g : Int → Int → Bool}
    (rule : ∀ (i j : Int) (t u : Tok) (s : Shared) (Q : Value → Shared → Prop) (E : Value → Shared → Prop), Q (.bool (g i j)) s → wpAny (model X.prog X.w) X.A (f (.int i t) (.int j u)) Q E s) :
    OpR X f (rI0 fun i j => .bl (g i j)) := by
  intro pins s σ H x y v u Q I rx ry h
  obtain ⟨i, j, rfl, rfl, q⟩ := h
  obtain ⟨t, rfl⟩ := rx
  obtain ⟨t', rfl⟩ := ry
  exact rule i j t t' s _ _ ⟨.bl (g i j), H, I, rfl, q⟩
theorem op_add : OpR X (binaryOp .Add) (rI0 fun i j => .int (i + j)) := opI0 fun _ _ _ _ _ _ _ q => add_int q
theorem op_sub : OpR X (binaryOp .Sub) (rI0 fun i j => .int (i - j)) := opI0 fun _ _ _ _ _ _ _ q => sub_int q
theorem op_mod : OpR X (binaryOp .Mod) (rI (fun _ j => 0 < j) fun i j => .int (i % j)) := opI fun i j _ _ _ _ _ hc q => by
  have h1 : (0 : Int) < j := hc
  exact mod_int' (by omega) (by rw [Int.fmod_eq_emod_of_nonneg i (by omega)]; exact q)
end
def scal : V → V → Bool
  | .int _, .int _ => true | .str _, .str _ => true
  | _, _ => false
def rEq : R2 := fun x y H Q => scal x y = true ∧ Q (.bl (decide (x = y))) H
def rNe : R2 := fun x y H Q => scal x y = true ∧ Q (.bl (!decide (x = y))) H
theorem dec_int {i j : Int} : decide (V.int i = V.int j) = (i == j) := by
  rw [Bool.eq_iff_iff]
  simp
theorem dec_bl {i j : Bool} : decide (V.bl i = V.bl j) = (i == j) := by
  rw [Bool.eq_iff_iff]
  simp
theorem dec_str {i j : Str} : decide (V.str i = V.str j) = (i == j) := by
  rw [Bool.eq_iff_iff]
  simp
theorem dec_byt {i j : Array UInt8} : decide (V.byt i = V.byt j) = (i.toList == j.toList) := by
  rw [Bool.eq_iff_iff]
  cases i
  cases j
  simp
section
variable {X : Cx} {a b c : Expr} {ta tb tc : TE} {pos : Pos}
theorem fin_bl {pins : List (Addr × Obj)} {σ : St} {H : Hp} {s : Shared} {Q : VK} {k k' : Bool} (I : Inv X pins σ H s) (q : Q (.bl k) H) (e : k = k') : EP X pins σ Q (.bool k') s := by
  subst e
  exact ⟨.bl k, H, I, rfl, q⟩
theorem op_eq : OpR X (compareOp .Eq) rEq := by
  intro pins s σ H x y v u Q I rx ry h
  obtain ⟨hs, q⟩ := h
  cases x with
  | int i =>
    obtain ⟨t, rfl⟩ := rx
    cases y with
    | int j => obtain ⟨t', rfl⟩ := ry; exact eq_int (fin_bl I q dec_int)
    | _ => exact absurd (show false = true from hs) Bool.false_ne_true
  | str i =>
    obtain ⟨t, rfl⟩ := rx
    cases y with
    | str j => obtain ⟨t', rfl⟩ := ry; exact eq_str (fin_bl I q dec_str)
    | _ => exact absurd (show false = true from hs) Bool.false_ne_true
  | _ => exact absurd (show false = true by cases y <;> exact hs) Bool.false_ne_true
theorem op_ne : OpR X (compareOp .NotEq) rNe := by
  intro pins s σ H x y v u Q I rx ry h
  obtain ⟨hs, q⟩ := h
  cases x with
  | int i =>
    obtain ⟨t, rfl⟩ := rx
    cases y with
    | int j => obtain ⟨t', rfl⟩ := ry; exact ne_int (fin_bl I q (congrArg not dec_int))
    | _ => exact absurd (show false = true from hs) Bool.false_ne_true
  | str i =>
    obtain ⟨t, rfl⟩ := rx
    cases y with
    | str j => obtain ⟨t', rfl⟩ := ry; exact ne_str (fin_bl I q (congrArg not dec_str))
    | _ => exact absurd (show false = true from hs) Bool.false_ne_true
  | _ => exact absurd (show false = true by cases y <;> exact hs) Bool.false_ne_true
theorem op_lt : OpR X (compareOp .Lt) (rI0 fun i j => .bl (decide (i < j))) := opB0 fun _ _ _ _ _ _ _ q => lt_int q
theorem op_le : OpR X (compareOp .LtE) (rI0 fun i j => .bl (decide (i ≤ j))) := opB0 fun _ _ _ _ _ _ _ q => le_int q
theorem op_isN : OpR X (compareOp .Is) (fun x y H Q => y = .non ∧ Q (.bl (decide (x = .non))) H) := by
  intro pins s σ H x y v u Q I rx ry h
  obtain ⟨rfl, q⟩ := h
  cases ry
  refine is_none_gen (fin_bl I q ?_)
  cases x <;> first
    | (cases rx; rfl)
    | (obtain ⟨t, rfl⟩ := rx; rfl)
theorem op_notN : OpR X (compareOp .IsNot) (fun x y H Q => y = .non ∧ Q (.bl (!decide (x = .non))) H) := by
  intro pins s σ H x y v u Q I rx ry h
  obtain ⟨rfl, q⟩ := h
  cases ry
  refine isnot_none_gen (fin_bl I q ?_)
  cases x <;> first
    | (cases rx; rfl)
    | (obtain ⟨t, rfl⟩ := rx; rfl)
theorem nomark (b : Expr) {op : CmpOp} (h : op ≠ .In := by decide) (h2 : op ≠ .NotIn := by decide) : behindInMarks op b = false := by
  have e1 : (op == CmpOp.In) = false := by cases op <;> first | rfl | exact absurd rfl h
  have e2 : (op == CmpOp.NotIn) = false := by cases op <;> first | rfl | exact absurd rfl h2
  cases b <;> simp [behindInMarks, e1, e2]
theorem pe_cmpR {op : CmpOp} {r : R2} (ho : OpR X (compareOp op) r) (ha : PE X a ta) (hb : PE X b tb) (hm : behindInMarks op b = false) : PE X (.Compare a [op] [b] pos) (tOp r ta tb) := by
  intro pins s σ H Q I h
  exact wpAny_Compare1 (binT ha hb I h fun v u s2 x y H2 I2 rx ry q => ho pins s2 σ H2 x y v u Q I2 rx ry q) hm
def tTest (t : TE) : TT := fun σ H Q => t σ H fun x H' => ∃ k, x = .bl k ∧ Q k H'
theorem pt_cmpR {op : CmpOp} {r : R2} (ho : OpR X (compareOp op) r) (ha : PE X a ta) (hb : PE X b tb) (hm : behindInMarks op b = false) : PT X (.Compare a [op] [b] pos) (tTest (tOp r ta tb)) := by
  intro pins s σ H Q I h
  refine wpAny_isTrue_Compare1 (thn (ha pins s σ H _ I h) fun v s1 zv1 => el5 zv1 fun x H1 I1 r1 q1 => thn (hb pins s1 σ H1 _ I1 q1) fun u s2 zv2 => el5 zv2 fun y H2 I2 r2 q2 =>
    thn (ho pins s2 σ H2 x y v u _ I2 r1 r2 q2) fun c s3 ⟨z, H3, I3, r3, k, e, q3⟩ => ?_) hm
  subst e
  cases r3
  exact wpAny_truthy_bool ⟨H3, I3, q3⟩
def tChain (r r' : R2) (ta tb tc : TE) : TE := fun σ H Q => ta σ H fun x H1 => tb σ H1 fun y H2 => r x y H2 fun z H3 => ∃ k, z = .bl k ∧
  (if k = true then tc σ H3 fun w' H4 => r' y w' H4 Q else Q (.bl false) H3)
theorem pe_chain {op op' : CmpOp} {r r' : R2} (ho : OpR X (compareOp op) r) (ho' : OpR X (compareOp op') r') (ha : PE X a ta) (hb : PE X b tb) (hc : PE X c tc)
    (hm : lastMarks [op, op'] [b, c] = false := by with_unfolding_all rfl) : PE X (.Compare a [op, op'] [b, c] pos) (tChain r r' ta tb tc) := by
  intro pins s σ H Q I h
  refine Compare_chain (thn (ha pins s σ H _ I h) fun v s1 zv3 => el5 zv3 fun x H1 I1 r1 q1 => chain_link (thn (hb pins s1 σ H1 _ I1 q1) fun u s2 zv4 => el5 zv4 fun y H2 I2 r2 q2 =>
    thn (ho pins s2 σ H2 x y v u _ I2 r1 r2 q2) fun d s3 ⟨z, H3, I3, r3, k, e, q3⟩ => ?_)) hm
  subst e
  cases r3
  refine wpAny_truthy_bool ?_
  cases k with
  | false => exact ite_ff ⟨.bl false, H3, I3, rfl, q3⟩
  | true => exact ite_tt (chain_last (thn (hc pins s3 σ H3 _ I3 q3) fun w' s4 zy3 => (by obtain ⟨z', H4, I4, r4, q4⟩ := zy3; exact ho' pins s4 σ H4 y z' u w' Q I4 r2 r4 q4)))
theorem line63 : (sizeLine : Nat) < 2 ^ 63 := by rw [sizeLine_eq]; decide
theorem vals1 {x : V} {us : List Value} (r : Vals [x] us) : ∃ u, us = [u] ∧ RelV x u := by
  cases r with
  | cons r1 r2 => cases r2; exact ⟨_, rfl, r1⟩
theorem vals2 {x y : V} {us : List Value} (r : Vals [x, y] us) : ∃ u w', us = [u, w'] ∧ RelV x u ∧ RelV y w' := by
  cases r with
  | cons r1 r2 =>
    cases r2 with
    | cons r3 r4 => cases r4; exact ⟨_, _, rfl, r1, r3⟩
end
end L2
namespace L2
open PySem PySem.Spec PyProof.Rows
structure ObjM (h : Heap) (x dx C : Addr) (mA : Str → Option Value) : Prop where
  obj : h.get? x = some (PySem.W.instObj C dx)
  ns : h.Ns1 dx mA
  ne : dx ≠ x
theorem lookIn_ns {h : Heap} {dx : Addr} {mA : Str → Option Value} (n : h.Ns1 dx mA) : ∃ od, h.get? dx = some od ∧ ∀ name, PySem.W.lookIn name od = some (mA name) := by
  obtain ⟨o, es, ep, ho, hd, hk, _, hm⟩ := n
  refine ⟨o, ho, fun name => ?_⟩
  have e := hm name
  unfold nsFind findBy at e
  rw [← Array.find?_toList] at e
  unfold PySem.W.lookIn
  rw [hd]
  dsimp only
  split
  · rename_i y q
    rw [q] at e
    exact congrArg some e
  · rename_i q
    rw [q] at e
    have a : es.toList.any (·.refKey) = false := by
      rw [List.any_eq_false]
      intro y hy
      obtain ⟨z, t, hkey⟩ := hk y (Array.mem_toList_iff.mp hy)
      simp [DictEntry.refKey, hkey]
    have a' : ¬ es.toList.any (·.refKey) = true := by rw [a]; exact Bool.false_ne_true
    rw [if_neg a']
    exact congrArg some e
theorem ObjM.look {h : Heap} {x dx C : Addr} {mA : Str → Option Value} (I : ObjM h x dx C mA) : ∃ od, PySem.W.InstAt h x (PySem.W.instObj C dx) C (some od) ∧ ∀ name, PySem.W.lookIn name od = some (mA name) :=
  let ⟨od, ho, hl⟩ := lookIn_ns I.ns
  ⟨od, ⟨I.obj, rfl, rfl, ho⟩, hl⟩
section
variable {prog : Program} {w : World} {A : Around} {E : Value → Shared → Prop} {s : Shared} {K : PySem.W.Frag} {x dx C f : Addr} {mA : Str → Option Value} {name : Str} {v : Value}
theorem get_map {expr : Bool} {Q : Value → Shared → Prop} (X : K.In s.heap) (I : ObjM s.heap x dx C mA) (hg : PySem.W.plainGet K C name = true) (hh : PySem.W.hasDictIn K C = true)
    (ha : PySem.W.findIn K (.ref C) name = some none) (hv : mA name = some v) (hv' : PySem.W.handedIn v = true) (h : Q v { s with toks := s.toks + 1 }) :
    wpAny (model prog w) A (getAttr (.ref x) name expr) Q E s := by
  obtain ⟨od, J, hl⟩ := I.look
  exact PySem.W.get_value X J (PySem.W.plainGet_of hg).1 (PySem.W.findObj_own hh ha rfl (by rw [hl, hv])) hv' h
theorem get_meth {pl : Sem Bool} {Q : Value × List Value → Shared → Prop} (X : K.In s.heap) (I : ObjM s.heap x dx C mA) (hg : PySem.W.plainGet K C name = true)
    (hf : PySem.W.findIn K (.ref C) name = some (some (.ref f))) (ht : PySem.W.isFn K (.ref f) = true) (hv : mA name = none) (h : Q (.ref f, [.ref x]) s) :
    wpAny (model prog w) A (getMethod (.ref x) name pl) Q E s := by
  obtain ⟨od, J, hl⟩ := I.look
  exact PySem.W.method_fn X J (PySem.W.plainGet_of hg).1 (PySem.W.plainGet_of hg).2 hf (beq_iff_eq.mp ht) (by show (PySem.W.lookIn name od).map (·.isSome) = some false; rw [hl, hv]; rfl) h
theorem set_map {ns : List Str} {Q : Unit → Shared → Prop} (X : K.In s.heap) (I : ObjM s.heap x dx C mA)
    (hs : PySem.W.findIn K (.ref C) "__setattr__" = some (some (.builtin "object.__setattr__"))) (hp : PySem.W.plainOver K C = true) (ht : PySem.W.takerIn K C name = some none) (hh : PySem.W.hasDictIn K C = true)
    (hw : PySem.Within mA ns) (hsz : ns.length ≤ sizeLine)
    (h : ∀ h', ObjM h' x dx C (fun y => if y = name then some v else mA y) → Heap.SameBut dx s.heap h' → Q () { s with heap := h', toks := s.toks + 2 }) :
    wpAny (model prog w) A (setAttr (.ref x) name v) Q E s := by
  obtain ⟨od, J, hl⟩ := I.look
  refine PySem.W.set_plain X J hs (PySem.W.osa_open (s := { s with toks := s.toks + 1 }) (r := none) X J hp ht fun b => ?_)
  obtain ⟨cd, hc, hd'⟩ := PySem.W.any_some hh
  have hx : s.heap.get? x = some ⟨.ref C, some dx, .plain, #[]⟩ := I.obj
  refine wpAny_bind (wpAny_pure (wpAny_bind (wpAny_bind (wpAny_loadPart hx (wpAny_bind (PySem.W.Looks.here (s := { s with toks := s.toks + 1 }) (PySem.W.looks_clsIn X hc) ?_))))))
  rw [hd']
  refine wpAny_pure (a := some dx) (wpAny_bind (wpAny_pure (wpAny_bind ?_)))
  refine wpAny_nsSet1 (s := { s with toks := s.toks + 1 }) I.ns fun h' hn2 hs2 => ?_
  obtain ⟨oD, esD, epD, hoD, hdD, hcD⟩ := hn2.count (PySem.Within.cons name v hw)
  refine wpAny_bind (wpAny_lookBehind hoD (by rw [hdD]; exact pastItsLine_dict (Nat.le_trans hcD (by rw [List.length_cons]; omega))) ?_)
  exact wpAny_pure (h _ ⟨(hs2.2 _ (Ne.symm I.ne)).trans I.obj, hn2, I.ne⟩ hs2)
theorem make_map {R : Result → Shared → Prop} {vs : List Value} {kw : List (Str × Value)} (X : K.In s.heap) (hm : PySem.W.makesIn K C = true)
    (hi : PySem.W.findIn K (.ref C) "__init__" = some (some (.ref f))) (hf : PySem.W.typeIn K (.ref f) = some (.type "function"))
    (h : codeAny (model prog w) (A.under (.builtin "type.__call__" ⟨.ref C :: vs, kw⟩)) (.call (.ref f) ⟨.ref (s.heap.objs.size + 1) :: vs, kw⟩) (PySem.W.InitBack (s.heap.objs.size + 1) R)
      { s with heap := (s.heap.push PySem.W.emptyDict).push (PySem.W.instObj C s.heap.objs.size) }) :
    codeAny (model prog w) A (.call (.ref C) ⟨vs, kw⟩) R s := by
  obtain ⟨hh, g, d, t, os⟩ := s
  exact PySem.W.make_core (PySem.W.makes_of X hm) (PySem.W.looks_findIn X hi) (fun self => PySem.W.bind_fn X self hf) (.inl rfl) h
end
def putF (f : Str) (v : V) : List (Str × V) → List (Str × V)
  | [] => [(f, v)]
  | (g, x) :: r => if g = f then (g, v) :: r else (g, x) :: putF f v r
theorem lookup_putF (f g : Str) (v : V) : ∀ fs : List (Str × V), (putF f v fs).lookup g = if g = f then some v else fs.lookup g
  | [] => by
    show List.lookup g [(f, v)] = _
    by_cases h : g = f
    · have hb : (g == f) = true := beq_iff_eq.mpr h
      simp only [List.lookup, hb, if_pos h]
    · have hb : (g == f) = false := beq_eq_false_iff_ne.mpr h
      simp only [List.lookup, hb, if_neg h]
  | (k, x) :: r => by
    have ih := lookup_putF f g v r
    rw [show putF f v ((k, x) :: r) = (if k = f then (k, v) :: r else (k, x) :: putF f v r) from rfl]
    by_cases hk : k = f
    · rw [if_pos hk]
      by_cases h : g = k
      · have hb : (g == k) = true := beq_iff_eq.mpr h
        simp only [List.lookup, hb, if_pos (h.trans hk)]
      · have hb : (g == k) = false := beq_eq_false_iff_ne.mpr h
        simp only [List.lookup, hb, if_neg (fun e : g = f => h (e.trans hk.symm))]
    · rw [if_neg hk]
      by_cases h : g = k
      · have hb : (g == k) = true := beq_iff_eq.mpr h
        simp only [List.lookup, hb, if_neg (fun e : g = f => hk (h.symm.trans e))]
      · have hb : (g == k) = false := beq_eq_false_iff_ne.mpr h
        simp only [List.lookup, hb]
        exact ih
theorem keys_putF (f : Str) (v : V) : ∀ fs : List (Str × V), f ∈ (putF f v fs).map (·.1) ∧ ∀ g, g ∈ fs.map (·.1) → g ∈ (putF f v fs).map (·.1)
  | [] => ⟨by simp [putF], fun g h => by simp at h⟩
  | (k, x) :: r => by
    obtain ⟨i1, i2⟩ := keys_putF f v r
    rw [show putF f v ((k, x) :: r) = (if k = f then (k, v) :: r else (k, x) :: putF f v r) from rfl]
    by_cases hk : k = f
    · rw [if_pos hk]
      subst hk
      exact ⟨by simp, fun g h => by simpa using h⟩
    · rw [if_neg hk]
      refine ⟨?_, fun g h => ?_⟩
      · rw [List.map_cons]
        exact List.mem_cons_of_mem _ i1
      · rw [List.map_cons] at h ⊢
        rcases List.mem_cons.mp h with e | e
        · exact List.mem_cons.mpr (.inl e)
        · exact List.mem_cons_of_mem _ (i2 g e)
theorem length_putF (f : Str) (v : V) : ∀ fs : List (Str × V), (putF f v fs).length ≤ fs.length + 1
  | [] => by simp [putF]
  | (k, x) :: r => by
    have ih := length_putF f v r
    rw [show putF f v ((k, x) :: r) = (if k = f then (k, v) :: r else (k, x) :: putF f v r) from rfl]
    by_cases hk : k = f
    · rw [if_pos hk, List.length_cons, List.length_cons]; omega
    · rw [if_neg hk, List.length_cons, List.length_cons]; omega
theorem RelO.some_of {v : V} {o : Option Value} (r : RelO (some v) o) : ∃ u, o = some u ∧ RelV v u := by
  cases o with
  | none => exact (show False from r).elim
  | some u => exact ⟨u, rfl, r⟩
theorem RelO.none_of {o : Option Value} (r : RelO none o) : o = none := by
  cases o with
  | none => rfl
  | some u => exact (show False from r).elim
theorem handed_of {v : V} {u : Value} (r : RelV v u) : PySem.W.handedIn u = true := by
  cases v with
  | non => cases (show u = Value.none from r); rfl
  | bl b => cases (show u = Value.bool b from r); rfl
  | int i => obtain ⟨t, e⟩ := (show ∃ t, u = Value.int i t from r); cases e; rfl
  | str x => obtain ⟨t, e⟩ := (show ∃ t, u = Value.str x t from r); cases e; rfl
  | byt b => obtain ⟨t, e⟩ := (show ∃ t, u = Value.bytes b t from r); cases e; rfl
  | flt b => obtain ⟨t, e⟩ := (show ∃ t, u = Value.float b t from r); cases e; rfl
  | ref a => cases (show u = Value.ref a from r); rfl
  | ty n => cases (show u = Value.type n from r); rfl
section
variable {P : Program} {w : World} {H H' : Hp} {h h' : Heap} {a C dx : Addr} {fs fs' : List (Str × V)}
theorem ins_get (hok : HOk P w H h) (e : H a = some (.ins C dx fs)) : ∃ mA, ObjM h a dx C mA ∧ (∀ f, RelO (fs.lookup f) (mA f)) ∧ PySem.Within mA (fs.map (·.1)) ∧ fs.length ≤ 1000 ∧ H dx = some (.own a) := by
  obtain ⟨d, z, ne, ob, mA, n, r, q⟩ := (show ObjOk P w H h a (.ins C dx fs) from hok a _ e)
  exact ⟨mA, ⟨ob, n, ne⟩, r, q, z, d⟩
end
structure Cls (K : PySem.W.Frag) (C : Addr) : Prop where
  pg : PySem.W.plainGet K C Str.empty = true
  hd : PySem.W.hasDictIn K C = true
  po : PySem.W.plainOver K C = true
  sa : PySem.W.findIn K (.ref C) "__setattr__" = some (some (.builtin "object.__setattr__"))
theorem Cls.get {K : PySem.W.Frag} {C : Addr} (c : Cls K C) (f : Str) : PySem.W.plainGet K C f = true := c.pg
def NoAttr (K : PySem.W.Frag) (C : Addr) (f : Str) : Prop := PySem.W.findIn K (.ref C) f = some none
theorem NoAttr.taker {K : PySem.W.Frag} {C : Addr} {f : Str} (n : NoAttr K C f) : PySem.W.takerIn K C f = some none := by
  unfold PySem.W.takerIn
  rw [show PySem.W.findIn K (.ref C) f = some none from n]
  rfl
structure Con (K : PySem.W.Frag) (C : Addr) (f : Str) (v : V) (u : Value) : Prop where
  at_ : PySem.W.findIn K (.ref C) f = some (some u)
  rel : RelV v u
  get : PySem.W.specialIn K u "__get__" = some none
  cp : PySem.W.copiedNames.contains f = false
structure Meth (K : PySem.W.Frag) (C : Addr) (m : Str) (f : Addr) : Prop where
  at_ : PySem.W.findIn K (.ref C) m = some (some (.ref f))
  fn : PySem.W.isFn K (.ref f) = true
  kp : PySem.W.keepIn K (.ref f) = true
section
variable {X : Cx} {pins : List (Addr × Obj)} {σ : St} {H : Hp} {s : Shared} {a C dx : Addr} {fs : List (Str × V)} {f : Str} {v : V} {A : Around} {E : Value → Shared → Prop}
theorem getattr_ok {b : Bool} {Q : Value → Shared → Prop} (I : Inv X pins σ H s) (e : H a = some (.ins C dx fs)) (c : Cls X.K C) (n : NoAttr X.K C f) (l : fs.lookup f = some v)
    (h : ∀ u s', Inv X pins σ H s' → RelV v u → Q u s') : wpAny (model X.prog X.w) A (getAttr (.ref a) f b) Q E s := by
  obtain ⟨mA, O, r, _, _, _⟩ := ins_get I.hok e
  obtain ⟨u, hu, ru⟩ := RelO.some_of (v := v) (o := mA f) (by rw [← l]; exact r f)
  exact get_map I.kIn O (c.get f) c.hd n hu (handed_of ru) (h u _ (I.tok _) ru)
theorem getmeth_ok {m : Str} {g : Addr} {pl : Sem Bool} {Q : Value × List Value → Shared → Prop} (I : Inv X pins σ H s) (e : H a = some (.ins C dx fs)) (c : Cls X.K C) (k : Meth X.K C m g) (l : fs.lookup m = none)
    (h : Q (.ref g, [.ref a]) s) : wpAny (model X.prog X.w) A (getMethod (.ref a) m pl) Q E s := by
  obtain ⟨mA, O, r, _, _, _⟩ := ins_get I.hok e
  have hn : mA m = none := RelO.none_of (by rw [← l]; exact r m)
  exact get_meth I.kIn O (c.get m) k.at_ k.fn hn h
theorem setattr_ok {y : V} {u : Value} {Q : Unit → Shared → Prop} (I : Inv X pins σ H s) (e : H a = some (.ins C dx fs)) (c : Cls X.K C) (n : NoAttr X.K C f) (hl : fs.length < 1000) (ry : RelV y u)
    (h : ∀ s', Inv X pins σ (upd H a (.ins C dx (putF f y fs))) s' → Q () s') : wpAny (model X.prog X.w) A (setAttr (.ref a) f u) Q E s := by
  obtain ⟨mA, O, r, wi, _, ho⟩ := ins_get I.hok e
  have hz : (fs.map (·.1)).length ≤ sizeLine := by rw [List.length_map, sizeLine_eq]; omega
  refine set_map I.kIn O c.sa c.po n.taker c.hd wi hz fun h' O' sb => h _ ?_
  have hd : ∃ o, h'.get? dx = some o := let ⟨o, _, _, e', _⟩ := O'.ns; ⟨o, e'⟩
  refine I.write (x := a) (e := dx) (by rw [e]; exact True.intro) (.inr ho) (fun b q hb z => (sb.2 b hb).trans z) hd ?_
  refine ⟨by rw [upd_ne O.ne]; exact ho, ?_, O.ne, O'.obj, _, O'.ns, fun g => ?_, fun g hg => ?_⟩
  · have := length_putF f y fs; omega
  · show RelO ((putF f y fs).lookup g) (if g = f then some u else mA g)
    rw [lookup_putF]
    by_cases q : g = f
    · rw [if_pos q, if_pos q]; exact ry
    · rw [if_neg q, if_neg q]; exact r g
  · by_cases q : g = f
    · rw [q]; exact (keys_putF f y fs).1
    · refine (keys_putF f y fs).2 g (wi g fun z => hg ?_)
      show (if g = f then some u else mA g) = none
      rw [if_neg q]; exact z
theorem Inv.made (I : Inv X pins σ H s) : Inv X pins σ (upd (upd H s.heap.objs.size (.own (s.heap.objs.size + 1))) (s.heap.objs.size + 1) (.ins C s.heap.objs.size []))
    { s with heap := (s.heap.push PySem.W.emptyDict).push (PySem.W.instObj C s.heap.objs.size) } := by
  have e1 : (s.heap.push PySem.W.emptyDict).get? s.heap.objs.size = some PySem.W.emptyDict := Heap.get?_push_size s.heap rfl
  have e2 : ((s.heap.push PySem.W.emptyDict).push (PySem.W.instObj C s.heap.objs.size)).get? (s.heap.objs.size + 1) = some (PySem.W.instObj C s.heap.objs.size) := by
    have := Heap.get?_push_size (s.heap.push PySem.W.emptyDict) (o := PySem.W.instObj C s.heap.objs.size) rfl
    rwa [Heap.size_push] at this
  have e3 : (s.heap.push PySem.W.emptyDict).Ns s.heap.objs.size (fun _ => none) := ⟨PySem.W.emptyDict, #[], _, e1, rfl, (fun e he => absurd he (by simp)), fun _ => rfl⟩
  have I1 := I.laid (a := s.heap.objs.size) (o := .own (s.heap.objs.size + 1)) (h' := s.heap.push PySem.W.emptyDict) (t' := s.toks) (fun b u q => Heap.get?_push_of_some _ q) (Nat.le_refl _) ⟨_, e1⟩
  refine I1.laid (a := s.heap.objs.size + 1) (o := .ins C s.heap.objs.size []) (t' := s.toks) (fun b u q => Heap.get?_push_of_some _ q) (Nat.le_of_eq (Heap.size_push _ _)) ?_
  have ne : s.heap.objs.size ≠ s.heap.objs.size + 1 := Nat.ne_of_lt (Nat.lt_succ_self _)
  refine ⟨by rw [upd_ne ne, upd_same], Nat.zero_le _, ne, e2, fun _ => none, (Heap.Ns1.of_empty e3).at fun o q => Heap.get?_push_of_some _ q, fun _ => True.intro, fun y hy => absurd rfl hy⟩
theorem attr_of {prog : Program} {w : World} {env : Env} {e : Expr} {f : Str} {pos : Pos} {s : Shared} {Q : Value → Shared → Prop} (hb : attributeBase e f env (eval e env) = eval e env)
    (h : wpAny (model prog w) A (eval e env) (fun o s₁ => wpAny (model prog w) A (getAttr o f true) Q E s₁) E s) : wpAny (model prog w) A (eval (.Attribute e f pos) env) Q E s :=
  Attribute_any_ h (by rw [arm_eval_Attribute, hb])
end
def tFld (K : PySem.W.Frag) (ta : TE) (f : Str) : TE := fun σ H Q => ta σ H fun x H1 => ∃ a C dx fs v, x = .ref a ∧ H1 a = some (.ins C dx fs) ∧ Cls K C ∧ NoAttr K C f ∧ fs.lookup f = some v ∧ Q v H1
def sFld (K : PySem.W.Frag) (ta tv : TE) (f : Str) : TS := fun D σ H => tv σ H fun y H1 => ta σ H1 fun x H2 => ∃ a C dx fs, x = .ref a ∧ H2 a = some (.ins C dx fs) ∧ Cls K C ∧ NoAttr K C f ∧ fs.length < 1000 ∧
  D.nx σ (upd H2 a (.ins C dx (putF f y fs)))
section
variable {X : Cx} {o e value : Expr} {f : Str} {pos pos' tpos : Pos} {ta tv : TE}
theorem pe_fld (he : PE X e ta) (hb : attributeBase e f X.env (eval e X.env) = eval e X.env) : PE X (.Attribute e f pos) (tFld X.K ta f) := by
  intro pins s σ H Q I h
  refine attr_of hb (thn (he pins s σ H _ I h) fun u s1 zx21 => ?_)
  obtain ⟨x, H1, I1, rx, a, C, dx, fs, v, ex, ea, c, n, l, q⟩ := zx21
  subst ex
  obtain rfl : u = Value.ref a := rx
  exact getattr_ok I1 ea c n l fun u' s2 I2 ru => ⟨v, H1, I2, ru, q⟩
theorem ps_fld (ha : PE X o ta) (hv : PE X value tv) (hs : swapsWith value (some (.Attribute o f pos')) pos.line X.env = pure false) : PS X (.Assign [.Attribute o f pos'] value pos) (sFld X.K ta tv f) := by
  intro pins s σ H D I h
  refine plainObj_wpAny_Assign_Attribute (thn (hv pins s σ H _ I h) fun u s1 zv5 => el5 zv5 fun y H1 I1 ry q => thn (ha pins s1 σ H1 _ I1 q) fun ov s2 zx22 => ?_) hs
  obtain ⟨x, H2, I2, rx, a, C, dx, fs, ex, ea, c, n, l, q2⟩ := zx22
  subst ex
  obtain rfl : ov = Value.ref a := rx
  exact setattr_ok I2 ea c n l ry fun s3 I3 => ⟨σ, _, I3, q2⟩
end
section
variable {X : Cx} {pins : List (Addr × Obj)} {σ : St} {H : Hp} {s : Shared} {A : Around} {E : Value → Shared → Prop} {Q : Value → Shared → Prop} {c : Value} {b : Bool}
inductive TyOf (K : PySem.W.Frag) (H : Hp) : V → Value → Prop where
  | non : TyOf K H .non (.type "NoneType")
  | bl (x : Bool) : TyOf K H (.bl x) (.type "bool")
  | int (i : Int) : TyOf K H (.int i) (.type "int")
  | str (x : Str) : TyOf K H (.str x) (.type "str")
  | flt (x : UInt64) : TyOf K H (.flt x) (.type "float")
  | lst {a : Addr} {xs : List V} (e : H a = some (.lst xs)) : TyOf K H (.ref a) (.type "list")
  | frz {a : Addr} {o : Obj} {xs : List V} (e : H a = some (.frz o (.lst xs))) : TyOf K H (.ref a) (.type "list")
  | tup {a : Addr} {xs : List V} (e : H a = some (.tup xs)) : TyOf K H (.ref a) (.type "tuple")
  | dK {a : Addr} {kvs : List (Key × V)} (e : H a = some (.dK kvs)) : TyOf K H (.ref a) (.type "dict")
  | dT {a : Addr} {kvs : List (List Key × V)} (e : H a = some (.dT kvs)) : TyOf K H (.ref a) (.type "dict")
  | ins {a C dx : Addr} {fs : List (Str × V)} (e : H a = some (.ins C dx fs)) (cl : Cls K C) (ha : PySem.W.findIn K (.ref C) "__class__" = some (some (.builtin "object.__class__")))
      (hn : PySem.W.specialIn K (.builtin "object.__class__") "__get__" = some (some (.builtin "getset_descriptor.__get__"))) (htk : PySem.W.takesIn K (.builtin "object.__class__") = some true)
      (hm : PySem.W.mroIn K C (.type "object") = some true) : TyOf K H (.ref a) (.ref C)
theorem isinst_ok {x : V} {u t : Value} (I : Inv X pins σ H s) (rx : RelV x u) (ty : TyOf X.K H x t) (e : PySem.W.kitOne X.K t c = some b) (h : ∀ tk, Q (.bool b) { s with toks := tk }) :
    wpAny (model X.prog X.w) A (call (.builtin "isinstance") [u, c]) Q E s := by
  cases ty with
  | non => cases (show u = Value.none from rx); exact PySem.W.kia_one PySem.W.kitx_none I.kIn True.intro e (fun z => nomatch z) h
  | bl y => cases (show u = Value.bool y from rx); exact PySem.W.kia_one PySem.W.kitx_bool I.kIn True.intro e (fun z => nomatch z) h
  | int i => obtain ⟨t, q⟩ := (show ∃ t, u = Value.int i t from rx); cases q; exact PySem.W.kia_one PySem.W.kitx_int I.kIn True.intro e (fun z => nomatch z) h
  | str y => obtain ⟨t, q⟩ := (show ∃ t, u = Value.str y t from rx); cases q; exact PySem.W.kia_one PySem.W.kitx_str I.kIn True.intro e (fun z => nomatch z) h
  | flt y => obtain ⟨t, q⟩ := (show ∃ t, u = Value.float y t from rx); cases q; exact PySem.W.kia_one PySem.W.kitx_float I.kIn True.intro e (fun z => nomatch z) h
  | @lst a xs ea =>
    cases (show u = Value.ref a from rx)
    obtain ⟨_, _, n, _, h1⟩ := (show ObjOk X.prog X.w H s.heap a (.lst xs) from I.hok a _ ea)
    exact PySem.W.kia_one PySem.W.kitx_list I.kIn ⟨_, h1, rfl⟩ e (fun z => nomatch z) h
  | @frz a ob xs ea =>
    cases (show u = Value.ref a from rx)
    obtain ⟨_, _, _, n, _, h1⟩ := (show ObjOk X.prog X.w H s.heap a (.frz ob (.lst xs)) from I.hok a _ ea)
    exact PySem.W.kia_one PySem.W.kitx_list I.kIn ⟨_, h1, rfl⟩ e (fun z => nomatch z) h
  | @tup a xs ea =>
    cases (show u = Value.ref a from rx)
    obtain ⟨_, _, _, p⟩ := (show ObjOk X.prog X.w H s.heap a (.tup xs) from I.hok a _ ea)
    obtain ⟨o, h1, h2, _⟩ := p
    exact PySem.W.kia_one PySem.W.kitx_tuple I.kIn ⟨o, h1, h2⟩ e (fun z => nomatch z) h
  | @dK a kvs ea =>
    cases (show u = Value.ref a from rx)
    obtain ⟨_, _, vs, _, p⟩ := (show ObjOk X.prog X.w H s.heap a (.dK kvs) from I.hok a _ ea)
    obtain ⟨o, es, ep, h1, h2, _⟩ := p
    exact PySem.W.kia_one PySem.W.kitx_dict I.kIn ⟨o, h1, h2.1⟩ e (fun z => nomatch z) h
  | @dT a kvs ea =>
    cases (show u = Value.ref a from rx)
    obtain ⟨_, _, xs, _, o, es, ep, h1, h2, _⟩ := (show ObjOk X.prog X.w H s.heap a (.dT kvs) from I.hok a _ ea)
    exact PySem.W.kia_one PySem.W.kitx_dict I.kIn ⟨o, h1, h2.1⟩ e (fun z => nomatch z) h
  | @ins a C dx fs ea cl ha hn htk hm =>
    cases (show u = Value.ref a from rx)
    obtain ⟨mA, O, _⟩ := ins_get I.hok ea
    obtain ⟨od, J, _⟩ := O.look
    exact PySem.W.kia_one (PySem.W.kitx_own (cl.get _) cl.hd ha hn htk hm) I.kIn J e (fun z => nomatch z) h
end
end L2
namespace L2
open PySem PySem.Spec PyProof.Rows
structure Room (k : Nat) (A : Around) : Prop where
  hd : A.handled = none
  dp : A.depth + 3 * k + 5 < recursionLimit
  un : A.units + 16 * k + 200 < cLine
theorem Room.mono {j k : Nat} {A : Around} (r : Room k A) (h : j ≤ k) : Room j A := ⟨r.hd, by have := r.dp; omega, by have := r.un; omega⟩
theorem Room.deeper {k : Nat} {A : Around} (r : Room (k + 1) A) (env : Env) : Room k (A.deeper env) :=
  ⟨r.hd, by have := r.dp; show A.depth + 1 + 3 * k + 5 < _; omega, by have := r.un; show A.units + 3 + 16 * k + 200 < _; omega⟩
theorem make_depth {A : Around} {C : Addr} {us : List Value} {kw : List (Str × Value)} : (A.under (.builtin "type.__call__" ⟨.ref C :: us, kw⟩)).depth = A.depth + 1 := by
  first | rfl | simp [Around.under, Code.weight, Code.isCreation, Code.isGuard, Code.isCaller, Code.frames, Code.isFrame, guardIds]
theorem make_units {A : Around} {C : Addr} {us : List Value} {kw : List (Str × Value)} : (A.under (.builtin "type.__call__" ⟨.ref C :: us, kw⟩)).units = A.units + 1 := by
  first | rfl | simp [Around.under, Code.cUnits, Code.frames, Code.isFrame]
theorem Room.make {k : Nat} {A : Around} (r : Room (k + 1) A) (C : Addr) (us : List Value) (kw : List (Str × Value)) : Room k (A.under (.builtin "type.__call__" ⟨.ref C :: us, kw⟩)) :=
  ⟨r.hd, by have := r.dp; rw [make_depth]; omega, by have := r.un; rw [make_units]; omega⟩
theorem Room.depth {k : Nat} {A : Around} (r : Room k A) : A.depth < recursionLimit := by have := r.dp; omega
theorem Room.units {k : Nat} {A : Around} (r : Room k A) : A.units + 64 < cLine := by have := r.un; omega
def tNil : TA := fun _ H Q => Q [] H
def tCons (ta : TE) (tr : TA) : TA := fun σ H Q => ta σ H fun x H1 => tr σ H1 fun xs H2 => Q (x :: xs) H2
section
variable {X : Cx} {e : Expr} {es : List Expr} {te : TE} {t : TA} {pos : Pos}
theorem pa_nil : PA X [] tNil := fun _ _ _ _ H Q I h => Calls.spliced_nil ⟨[], H, I, .nil, h⟩
theorem pa_cons (ha : PE X e te) (hr : PA X es t) (hs : starEach (e :: es) X.env = (false, eval e X.env) :: starEach es X.env := by rfl) : PA X (e :: es) (tCons te t) := by
  intro pos pins s σ H Q I h
  rw [hs]
  show wpAny _ _ (spliced ((false, eval e X.env) :: backTo pos (starEach es X.env))) _ _ s
  refine Calls.spliced_cons (thn (ha pins s σ H _ I h) fun u s1 zx23 => ?_)
  obtain ⟨x, H1, I1, r1, q1⟩ := zx23
  exact thn (hr pos pins s1 σ H1 _ I1 q1) fun us s2 zv6 => el5 zv6 fun xs H2 I2 r2 q2 => ⟨x :: xs, H2, I2, .cons r1 r2, q2⟩
def tTup (t : TA) : TE := fun σ H Q => t σ H fun xs H1 => xs.length ≤ sizeLine ∧ ∀ p, H1 p = none → Q (.ref p) (upd H1 p (.tup xs))
def tLst (t : TA) : TE := fun σ H Q => t σ H fun xs H1 => xs.length ≤ sizeLine ∧ ∀ p, H1 p = none → Q (.ref p) (upd H1 p (.lst xs))
theorem pe_tup {x1} (h : PA X es t) : PE X (.Tuple es x1 pos) (tTup t) := by
  intro pins s σ H Q I hq
  refine wpAny_Tuple_spliced (thn (h pos pins s σ H _ I hq) fun us s1 ⟨xs, H1, I1, r, z, q⟩ => ⟨by rw [← r.length]; exact z, ?_⟩)
  have hf : H1 s1.heap.objs.size = none := I1.hok.fresh (Nat.le_refl _)
  refine ⟨.ref s1.heap.objs.size, upd H1 s1.heap.objs.size (.tup xs), I1.laid (t' := s1.toks) (fun b u e => Heap.get?_push_of_some _ e) (Nat.le_refl _) ?_, rfl, q _ hf⟩
  exact ⟨z, us, r, ⟨_, Heap.get?_push_size _ rfl, rfl, _, rfl⟩⟩
theorem pe_lst (h : PA X es t) : PE X (.List es pos) (tLst t) := by
  intro pins s σ H Q I hq
  refine wpAny_List_spliced (thn (h pos pins s σ H _ I hq) fun us s1 ⟨xs, H1, I1, r, z, q⟩ => ⟨by rw [← r.length]; exact z, ?_⟩)
  have hf : H1 s1.heap.objs.size = none := I1.hok.fresh (Nat.le_refl _)
  refine ⟨.ref s1.heap.objs.size, upd H1 s1.heap.objs.size (.lst xs), I1.laid (t' := s1.toks) (fun b u e => Heap.get?_push_of_some _ e) (Nat.le_refl _) ?_, rfl, q _ hf⟩
  exact ⟨z, us, 0, r, Heap.get?_push_size _ rfl⟩
end
abbrev Sp := List V → Hp → VK → XK → Prop
abbrev CXT := List Env → Hp → Shared → XK → Value → Shared → Prop
structure Env0 (P : Program) (w : World) (K : PySem.W.Frag) (mg : Str → Option Value) (base : Heap) (A : Around) (outer : List Env) (s : Shared) (H : Hp) : Prop where
  frames : A.frames = some outer
  mod : Mod K mg base
  bs : ∀ b o, base.get? b = some o → s.heap.get? b = some o ∧ H b = none
  bsz : base.objs.size ≤ s.heap.objs.size
  funs : s.heap.FunFrames base outer
  frf : ∀ b ∈ frs outer, H b = none
  hok : HOk P w H s.heap
  bare : AllBare s.gens
def CE (outer : List Env) (P : Program) (w : World) (H : Hp) (s : Shared) (Q : VK) (u : Value) (s' : Shared) : Prop :=
  ∃ v H', s'.os = s.os ∧ AllBare s'.gens ∧ Un (frs outer) [] H H' s.heap s'.heap ∧ HOk P w H' s'.heap ∧ RelV v u ∧ Q v H'
def CR (CX : CXT) (outer : List Env) (P : Program) (w : World) (H : Hp) (s : Shared) (Q : VK) (E : XK) (r : Result) (s' : Shared) : Prop :=
  match r with
  | .ok (.ret u) => CE outer P w H s Q u s'
  | .ok _ => False
  | .error e => CX outer H s E e s'
structure FnOk (P : Program) (w : World) (K : PySem.W.Frag) (mg : Str → Option Value) (base : Heap) (CX : CXT) (k : Nat) (f : Addr) (fd : FuncData) (ps : List Str) (sp : Sp) : Prop where
  len : ∀ vs H Q E, sp vs H Q E → vs.length = ps.length
  run : ∀ (A : Around) (outer : List Env) (s : Shared) (H : Hp) (args : Args) (us : List Value) (vs : List V) (Q : VK) (E : XK), Room k A → Env0 P w K mg base A outer s H → BindsTo s fd args (ps.zip us) → Vals vs us → sp vs H Q E →
    codeAny (model P w) A (.call (.ref f) args) (CR CX outer P w H s Q E) s
theorem Env0.make {P : Program} {w : World} {K : PySem.W.Frag} {mg : Str → Option Value} {base : Heap} {A : Around} {outer : List Env} {s : Shared} {H : Hp} (e : Env0 P w K mg base A outer s H) (C : Addr) (us : List Value) (kw : List (Str × Value)) :
    Env0 P w K mg base (A.under (.builtin "type.__call__" ⟨.ref C :: us, kw⟩)) outer s H := ⟨by first | exact e.frames | (simpa [Around.under, Code.envs, Code.isFrame, pushEnvs] using e.frames), e.mod, e.bs, e.bsz, e.funs, e.frf, e.hok, e.bare⟩
section
variable {X : Cx} {pins : List (Addr × Obj)} {σ : St} {H : Hp} {s s' : Shared}
theorem Inv.env0 (I : Inv X pins σ H s) : Env0 X.prog X.w X.K X.mg X.base X.A X.stack s H :=
  ⟨I.ok.frames, I.ok.mod, I.bs, Nat.le_trans I.ok.bsz I.sz, I.stack, I.stkFree, I.hok, I.bare⟩
theorem Inv.after {Q : VK} {u : Value} (I : Inv X pins σ H s) (h : CE X.stack X.prog X.w H s Q u s') : EP X pins σ Q u s' := by
  obtain ⟨v, H', os, bare, un, hok, r, q⟩ := h
  obtain ⟨hh, g, d, t, os'⟩ := s'
  obtain rfl : os' = s.os := os
  exact ⟨v, H', I.call (h' := hh) (g' := g) (d' := d) (t' := t) (ch := []) un hok bare (fun b z => absurd z (by simp)), r, q⟩
end
def tCall (sp : Sp) (dvs : List V) (E : XK) (t : TA) : TE := fun σ H Q => t σ H fun vs H1 => sp (vs ++ dvs) H1 Q E
def tMeth (C : Addr) (m : Str) (sp : Sp) (dvs : List V) (E : XK) (ta : TE) (t : TA) : TE := fun σ H Q => ta σ H fun x H1 => ∃ a dx fs, x = .ref a ∧ H1 a = some (.ins C dx fs) ∧ fs.lookup m = none ∧
  t σ H1 fun vs H2 => sp (x :: (vs ++ dvs)) H2 Q E
def tMake (C : Addr) (sp : Sp) (dvs : List V) (E : XK) (t : TA) : TE := fun σ H Q => t σ H fun vs H1 => ∀ x dx, H1 x = none → H1 dx = none → dx ≠ x →
  sp (.ref x :: (vs ++ dvs)) (upd (upd H1 dx (.own x)) x (.ins C dx [])) (fun v H2 => v = .non ∧ Q (.ref x) H2) E
def Binds (K : PySem.W.Frag) (fd : FuncData) (ps : List Str) (ds : List Value) : Prop :=
  ∀ (s : Shared) (us : List Value), K.In s.heap → (us ++ ds).length = ps.length → BindsTo s fd ⟨us, []⟩ (ps.zip (us ++ ds))
theorem Binds.all {K : PySem.W.Frag} {fd : FuncData} {ps : List Str} (h : ∀ us : List Value, us.length = ps.length → bindArgs fd ⟨us, []⟩ = pure (ps.zip us)) : Binds K fd ps [] := fun s us _ hl => by
  rw [List.append_nil] at hl ⊢
  exact .of_eq (h us hl)
def Passes (CX : CXT) (X : Cx) (E : XK) : Prop := ∀ (pins : List (Addr × Obj)) (σ : St) (H : Hp) (s : Shared) (e : Value) (s' : Shared), Inv X pins σ H s → CX X.stack H s E e s' → X.xe e s'
section
variable {X : Cx} {CX : CXT} {k : Nat} {f C : Addr} {fd : FuncData} {ps : List Str} {sp : Sp} {dvs : List V} {ds : List Value} {E : XK} {x m : Str} {p pos apos : Pos} {e o : Expr} {es : List Expr} {ta : TE} {t : TA}
theorem run_fn {pins : List (Addr × Obj)} {σ : St} {H : Hp} {s : Shared} {Q : VK} {us : List Value} {vs : List V} (F : FnOk X.prog X.w X.K X.mg X.base CX k f fd ps sp) (hr : Room k X.A) (hb : Binds X.K fd ps ds) (hd : Vals dvs ds) (hx : Passes CX X E)
    (I : Inv X pins σ H s) (r : Vals vs us) (h : sp (vs ++ dvs) H Q E) : wpAny (model X.prog X.w) X.A (call (.ref f) us) (EP X pins σ Q) X.xe s := by
  have r2 : Vals (vs ++ dvs) (us ++ ds) := r.append hd
  have hl : (us ++ ds).length = ps.length := by rw [← r2.length]; exact F.len _ _ _ _ h
  refine wpAny_call (codeAny_mono (F.run X.A X.stack s H ⟨us, []⟩ (us ++ ds) (vs ++ dvs) Q E hr I.env0 (hb s us I.kIn hl) r2 h) fun r s' hq => ?_)
  cases r with
  | error e => exact hx pins σ H s e s' I hq
  | ok fl =>
    cases fl with
    | ret u => exact I.after hq
    | next => exact False.elim hq
    | brk => exact False.elim hq
    | cont => exact False.elim hq
theorem pe_call (F : FnOk X.prog X.w X.K X.mg X.base CX k f fd ps sp) (hr : Room k X.A) (hg : Gl X x) (hm : X.mg x = some (.ref f)) (hk : PySem.W.keepIn X.K (.ref f) = true) (hb : Binds X.K fd ps ds) (hd : Vals dvs ds) (hx : Passes CX X E)
    (ha : PA X (e :: es) t) (hdb : (x == ("__debug__" : Str)) = false := by decide) (he : starEach (e :: es) X.env = (false, eval e X.env) :: starEach es X.env := by rfl) (hpl : (backTo pos (starEach es X.env)).any (·.1) = false := by rfl) :
    PE X (.Call (.Name x p) (e :: es) [] pos) (tCall sp dvs E t) := by
  intro pins s σ H Q I h
  refine wpAny_Call_Name_kw (ld_glob I hg hm ?_ hdb)
  refine PySem.W.callWith_K (h₀ := X.base) I.ok.mod.kin hk (thn (ha pos pins s σ H _ I h) fun us s1 zv7 => el5 zv7 fun vs H1 I1 r q => ⟨I1.kIn, ?_⟩) he hpl
  exact run_fn F hr hb hd hx I1 r q
theorem pe_meth {pl : Sem Bool} (he : PE X o ta) (c : Cls X.K C) (hm : Meth X.K C m f) (F : FnOk X.prog X.w X.K X.mg X.base CX k f fd ps sp) (hr : Room k X.A) (hb : Binds X.K fd ps ds) (hd : Vals dvs ds) (hx : Passes CX X E) (ha : PA X (e :: es) t)
    (hst : starEach (e :: es) X.env = (false, eval e X.env) :: starEach es X.env := by rfl) (hpl : (backTo pos (starEach es X.env)).any (·.1) = false := by rfl)
    (ht : eval (.Call (.Attribute o m apos) (e :: es) [] pos) X.env = (do
      let ov ← eval o X.env
      standAt apos.atName
      let (f, first) ← holding [ov] (getMethod ov m pl)
      callWith pos f first (backTo pos (starEach (e :: es) X.env)) (backToKw pos (keywordEach [] X.env))) := by rfl) :
    PE X (.Call (.Attribute o m apos) (e :: es) [] pos) (tMeth C m sp dvs E ta t) := by
  intro pins s σ H Q I h
  refine PySem.W.methodCall_KW (pl := pl) (thn (he pins s σ H _ I h) fun u s1 zx24 => ?_) ht
  obtain ⟨x, H1, I1, rx, a, dx, fs, ex, ea, l, q⟩ := zx24
  subst ex
  obtain rfl : u = Value.ref a := rx
  refine getmeth_ok I1 ea c hm l ?_
  refine PySem.W.callWith_K (first := [.ref a]) (h₀ := X.base) I.ok.mod.kin hm.kp (thn (ha pos pins s1 σ H1 _ I1 q) fun us s2 zv8 => el5 zv8 fun vs H2 I2 r q2 => ⟨I2.kIn, ?_⟩) hst hpl
  exact run_fn (us := .ref a :: us) (vs := .ref a :: vs) F hr hb hd hx I2 (.cons rfl r) q2
structure Mk (K : PySem.W.Frag) (C f : Addr) : Prop where
  makes : PySem.W.makesIn K C = true
  init : PySem.W.findIn K (.ref C) "__init__" = some (some (.ref f))
  fn : PySem.W.isFn K (.ref f) = true
  kp : PySem.W.keepIn K (.ref C) = true
theorem run_make {pins : List (Addr × Obj)} {σ : St} {H : Hp} {s : Shared} {Q : VK} {us : List Value} {vs : List V} (M : Mk X.K C f) (F : FnOk X.prog X.w X.K X.mg X.base CX k f fd ps sp) (hr : Room (k + 1) X.A) (hb : Binds X.K fd ps ds) (hd : Vals dvs ds)
    (hx : Passes CX X E) (I : Inv X pins σ H s) (r : Vals vs us)
    (h : ∀ x dx, H x = none → H dx = none → dx ≠ x → sp (.ref x :: (vs ++ dvs)) (upd (upd H dx (.own x)) x (.ins C dx [])) (fun v H2 => v = .non ∧ Q (.ref x) H2) E) :
    wpAny (model X.prog X.w) X.A (call (.ref C) us) (EP X pins σ Q) X.xe s := by
  have hq := h (s.heap.objs.size + 1) s.heap.objs.size (I.hok.fresh (Nat.le_succ _)) (I.hok.fresh (Nat.le_refl _)) (Nat.ne_of_lt (Nat.lt_succ_self _))
  have I2 := Inv.made (C := C) I
  have r2 : Vals (V.ref (s.heap.objs.size + 1) :: (vs ++ dvs)) (Value.ref (s.heap.objs.size + 1) :: (us ++ ds)) := .cons rfl (r.append hd)
  have hl : (Value.ref (s.heap.objs.size + 1) :: us ++ ds).length = ps.length := by
    have e := r2.length
    rw [F.len _ _ _ _ hq] at e
    exact e.symm
  refine wpAny_call (make_map (f := f) I.kIn M.makes M.init (beq_iff_eq.mp M.fn) (codeAny_mono (F.run _ X.stack _ _ ⟨Value.ref (s.heap.objs.size + 1) :: us, []⟩ (Value.ref (s.heap.objs.size + 1) :: (us ++ ds)) _ _ E (hr.make C us [])
    (I2.env0.make C us []) (hb _ (Value.ref (s.heap.objs.size + 1) :: us) I2.kIn hl) r2 hq) fun r s' hq' => ?_))
  cases r with
  | error e => exact hx pins σ _ _ e s' I2 hq'
  | ok fl =>
    cases fl with
    | ret u =>
      obtain ⟨v, H', I3, rv, ev, q3⟩ := I2.after hq'
      subst ev
      exact ⟨rv, ⟨V.ref (s.heap.objs.size + 1), H', I3, rfl, q3⟩⟩
    | next => exact False.elim hq'
    | brk => exact False.elim hq'
    | cont => exact False.elim hq'
theorem pe_make (M : Mk X.K C f) (F : FnOk X.prog X.w X.K X.mg X.base CX k f fd ps sp) (hr : Room (k + 1) X.A) (hg : Gl X x) (hm : X.mg x = some (.ref C)) (hb : Binds X.K fd ps ds) (hd : Vals dvs ds) (hx : Passes CX X E)
    (ha : PA X (e :: es) t) (hdb : (x == ("__debug__" : Str)) = false := by decide) (he : starEach (e :: es) X.env = (false, eval e X.env) :: starEach es X.env := by rfl) (hpl : (backTo pos (starEach es X.env)).any (·.1) = false := by rfl) :
    PE X (.Call (.Name x p) (e :: es) [] pos) (tMake C sp dvs E t) := by
  intro pins s σ H Q I h
  refine wpAny_Call_Name_kw (ld_glob I hg hm ?_ hdb)
  refine PySem.W.callWith_K (h₀ := X.base) I.ok.mod.kin M.kp (thn (ha pos pins s σ H _ I h) fun us s1 zv9 => el5 zv9 fun vs H1 I1 r q => ⟨I1.kIn, ?_⟩) he hpl
  exact run_make M F hr hb hd hx I1 r q
end
section
variable {X : Cx} {CX : CXT} {k : Nat} {f C : Addr} {fd : FuncData} {ps ks : List Str} {sp : Sp} {E : XK} {x m : Str} {p pos apos kpos : Pos} {e o : Expr} {es : List Expr} {kws : List Keyword} {te ta : TE} {t tk : TA} {nm : Option Str}
structure KBinds (K : PySem.W.Frag) (fd : FuncData) (ps ks : List Str) (g : List Value → List Value → List Value) (gV : List V → List V → List V) : Prop where
  to : ∀ (s : Shared) (us ws : List Value), K.In s.heap → (g us ws).length = ps.length → BindsTo s fd ⟨us, ks.zip ws⟩ (ps.zip (g us ws))
  rel : ∀ {vs : List V} {us : List Value} {zs : List V} {ws : List Value}, Vals vs us → Vals zs ws → Vals (gV vs zs) (g us ws)
variable {g : List Value → List Value → List Value} {gV : List V → List V → List V}
end
structure FnScope (N P : List Str) (sc : Scope) : Prop where
  kind : sc.kind = .function
  co : sc.isCoroutine = false
  gen : sc.isGenerator = false
  nd : N.Nodup
  pre : N.take P.length = P
  par : ∀ x ∈ P, sc.names.lookup x = some .local ∨ sc.names.lookup x = some .cell
  nofree : ∀ y ∈ sc.names, y.2 ≠ .free
theorem bindL_out {kindOf : Str → Option NameKind} {x : Str} : ∀ {binds : List (Str × Value)} {m : Str → Option Value}, (∀ v, (x, v) ∉ binds) → bindL kindOf binds m x = m x
  | [], _, _ => rfl
  | (n, v) :: r, m, h => by
    unfold bindL
    rw [bindL_out fun w hw => h w (List.mem_cons_of_mem _ hw)]
    split
    · have : x ≠ n := by rintro rfl; exact h v List.mem_cons_self
      simp [this]
    · rfl
theorem bindC_out {kindOf : Str → Option NameKind} {x : Str} : ∀ {binds : List (Str × Value)} {m : Str → Option Value}, (∀ v, (x, v) ∉ binds) → bindC kindOf binds m x = m x
  | [], _, _ => rfl
  | (n, v) :: r, m, h => by
    unfold bindC
    rw [bindC_out fun w hw => h w (List.mem_cons_of_mem _ hw)]
    split
    · rfl
    · have : x ≠ n := by rintro rfl; exact h v List.mem_cons_self
      simp [this]
theorem bindL_get {kindOf : Str → Option NameKind} {x : Str} {v : Value} : ∀ {P : List Str} {vs : List Value} {i : Nat} {m : Str → Option Value}, P.Nodup → P[i]? = some x → vs[i]? = some v → kindOf x = some .local →
    bindL kindOf (P.zip vs) m x = some v
  | [], _, _, _, _, h, _, _ => by simp at h
  | _ :: _, [], _, _, _, _, h, _ => by simp at h
  | p :: P, w :: vs, 0, m, nd, h1, h2, hk => by
    simp at h1 h2; subst h1; subst h2
    show bindL kindOf ((p, w) :: P.zip vs) m p = _
    unfold bindL
    rw [bindL_out fun v hv => (List.nodup_cons.mp nd).1 (List.of_mem_zip hv).1, if_pos hk]
    simp
  | p :: P, w :: vs, i + 1, m, nd, h1, h2, hk => by
    show bindL kindOf ((p, w) :: P.zip vs) m x = _
    unfold bindL
    exact bindL_get (i := i) (List.nodup_cons.mp nd).2 (by simpa using h1) (by simpa using h2) hk
theorem bindC_get {kindOf : Str → Option NameKind} {x : Str} {v : Value} : ∀ {P : List Str} {vs : List Value} {i : Nat} {m : Str → Option Value}, P.Nodup → P[i]? = some x → vs[i]? = some v → kindOf x ≠ some .local →
    bindC kindOf (P.zip vs) m x = some v
  | [], _, _, _, _, h, _, _ => by simp at h
  | _ :: _, [], _, _, _, _, h, _ => by simp at h
  | p :: P, w :: vs, 0, m, nd, h1, h2, hk => by
    simp at h1 h2; subst h1; subst h2
    show bindC kindOf ((p, w) :: P.zip vs) m p = _
    unfold bindC
    rw [bindC_out fun v hv => (List.nodup_cons.mp nd).1 (List.of_mem_zip hv).1, if_neg hk]
    simp
  | p :: P, w :: vs, i + 1, m, nd, h1, h2, hk => by
    show bindC kindOf ((p, w) :: P.zip vs) m x = _
    unfold bindC
    exact bindC_get (i := i) (List.nodup_cons.mp nd).2 (by simpa using h1) (by simpa using h2) hk
def start (N : List Str) (vs : List V) : St := vs.map some ++ List.replicate (N.length - vs.length) none
def cxOf (CX : CXT) (P : Program) (w : World) (K : PySem.W.Frag) (mg : Str → Option Value) (base : Heap) (N : List Str) (qual : Str) (scope : Scope) (f : Addr) (cd : Value) (A : Around) (outer : List Env) (s : Shared) (H : Hp) (E : XK) : Cx where
  prog := P
  w := w
  K := K
  mg := mg
  base := base
  A := A.deeper (envOfC qual scope s.heap.objs.size f cd)
  N := N
  s₀ := s
  H₀ := H
  env := envOfC qual scope s.heap.objs.size f cd
  outer := outer
  stack := envOfC qual scope s.heap.objs.size f cd :: outer
  ex := []
  calm := true
  fn := fun _ => true
  pn := []
  xe := fun e s' => wpAny (model P w) (A.deeper (envOfC qual scope s.heap.objs.size f cd)) (leaving (envOfC qual scope s.heap.objs.size f cd) e) (fun _ s'' => CX outer H s E e s'') (fun e' s'' => CX outer H s E e' s'') s'
theorem cell_has {sc : Scope} {n : Nat} {x : Str} (h : sc.names.lookup x = some .cell) : ∃ c, (cellsFrom n sc.names []).lookup x = some c := by
  have q := PySem.W.cellsFrom_some sc.names n [] (.inl h)
  exact Option.isSome_iff_exists.mp q
theorem inv_start {CX : CXT} {P : Program} {w : World} {K : PySem.W.Frag} {mg : Str → Option Value} {base : Heap} {N ps : List Str} {qual : Str} {scope : Scope} {f : Addr} {cd : Value} {A : Around} {outer : List Env} {s s1 : Shared} {H : Hp} {E : XK} {us : List Value} {vs : List V}
    (S : FnScope N ps scope) (hd : A.handled = none) (e0 : Env0 P w K mg base A outer s H) (hl : vs.length = ps.length) (r : Vals vs us)
    (x : InCallC s s.heap.objs.size (bindL (envOfC qual scope s.heap.objs.size f cd).kindOf (ps.zip us) fun _ => none) (cellsFrom (s.heap.objs.size + 1) scope.names []) (bindC (envOfC qual scope s.heap.objs.size f cd).kindOf (ps.zip us) fun _ => none) s1) :
    Inv (cxOf CX P w K mg base N qual scope f cd A outer s H E) [] (start N vs) H s1 := by
  have hpl : ps.length ≤ N.length := by have := congrArg List.length S.pre; rw [List.length_take] at this; omega
  obtain ⟨h1, tk, rfl, hk⟩ := x.done
  have noA : ∀ b : Addr, b ∉ (cxOf CX P w K mg base N qual scope f cd A outer s H E).ex := fun b z => absurd (show b ∈ ([] : List Addr) from z) (by simp)
  refine ⟨⟨e0.mod, S.kind, rfl, rfl, Nat.le_refl _, fun y z c h1 h2 => ?_, fun y hy => ?_, fun y c _ h => ?_, fun _ => hd, Around.frames_deeper e0.frames, .inr ⟨rfl, rfl⟩, fun b z => absurd z (noA b), e0.bs, e0.bsz, fun b _ _ => noA b, fun b z => absurd z (noA b), e0.funs, e0.frf⟩,
    rfl, e0.bare, Un.kept hk, ⟨_, x.toInCall.ns, fun i y v h1 h2 h3 => ?_⟩, fun y c h => ⟨_, x.cell y c h⟩, e0.hok.fresh (Nat.le_refl _), fun y c h => ?_, fun p hp => absurd (show p ∈ ([] : List (Addr × Obj)) from hp) (by simp), e0.hok.kept hk, ?_⟩
  · exact name_of_addr x.apart (PySem.mem_of_lookup h1) (PySem.mem_of_lookup h2)
  · have hy : scope.names.lookup y = some .cell ∨ scope.names.lookup y = some .free := hy
    rcases hy with hy | hy
    · exact cell_has hy
    · exact absurd rfl (S.nofree _ (PySem.mem_of_lookup hy))
  · exact Nat.le_of_lt (x.above y c (PySem.mem_of_lookup h))
  · have hi : i < vs.length := by
      unfold start at h2
      by_cases hi : i < vs.length
      · exact hi
      · rw [List.getElem?_append_right (by simpa using hi)] at h2
        rw [List.getElem?_replicate] at h2
        split at h2 <;> cases h2
    have ha : vs[i]? = some v := by
      unfold start at h2
      rw [List.getElem?_append_left (by simpa using hi), List.getElem?_map] at h2
      cases e : vs[i]? with
      | none => rw [e] at h2; cases h2
      | some a => rw [e] at h2; cases h2; rfl
    obtain ⟨u, hu, rv⟩ := r.get ha
    have hp : ps[i]? = some y := by
      rw [← S.pre, List.getElem?_take_of_lt (by omega)]; exact h1
    have ndP : ps.Nodup := by rw [← S.pre]; exact S.nd.sublist (List.take_sublist _ _)
    refine ⟨u, rv, ?_⟩
    rcases S.par y (List.mem_of_getElem? hp) with k | k
    · exact .inl ⟨k, bindL_get ndP hp hu k⟩
    · obtain ⟨c, e⟩ := cell_has (n := s.heap.objs.size + 1) k
      refine .inr ⟨.inl k, c, e, ?_⟩
      have q := x.cell y c e
      rw [bindC_get ndP hp hu (by show scope.names.lookup y ≠ _; rw [k]; decide)] at q
      exact q
  · exact e0.hok.fresh (Nat.le_of_lt (x.above y c (PySem.mem_of_lookup h)))
  · unfold start
    show _ = N.length
    rw [List.length_append, List.length_map, List.length_replicate]
    omega
theorem fn_of {CX : CXT} {P : Program} {w : World} {K : PySem.W.Frag} {mg : Str → Option Value} {base : Heap} {k : Nat} {f : Addr} {name qual : Str} {params : Arguments} {body : List Stmt} {scope : Scope} {dV kV doc pm cdv ct oc : Value} {an od : Option Addr}
    {osl : Array (Option Value)} {N ps : List Str} {sp : Sp} (lk : K.lookup f = some ⟨oc, od, .func (PySem.W.fnOf name qual params body scope dV kV doc pm an cdv ct), osl⟩) (hcd : PySem.W.codeIn K cdv qual = true) (S : FnScope N ps scope)
    (len : ∀ vs H Q E, sp vs H Q E → vs.length = ps.length)
    (hbody : ∀ (A : Around) (outer : List Env) (s : Shared) (H : Hp) (vs : List V) (Q : VK) (E : XK), Room k (A.deeper (envOfC qual scope s.heap.objs.size f cdv)) → sp vs H Q E →
      ∃ t, PSs (cxOf CX P w K mg base N qual scope f cdv A outer s H E) body t ∧ t { nx := fun _ H' => Q .non H', rt := Q } (start N vs) H) :
    FnOk P w K mg base CX (k + 1) f (PySem.W.fnOf name qual params body scope dV kV doc pm an cdv ct) ps sp := by
  refine ⟨len, fun A outer s H args us vs Q E hr e0 hb r hsp => ?_⟩
  have hl := len _ _ _ _ hsp
  have KX : K.In s.heap := e0.mod.kin.keeps fun b o e => (e0.bs b o e).1
  have lim : s.heap.NoLimit := e0.mod.nolimit.keeps fun b o e => (e0.bs b o e).1
  have hkind : ∀ y ∈ ps.zip us, scope.names.lookup y.1 = some .local ∨ (scope.names.lookup y.1 = some .cell ∧ ((cellsFrom (s.heap.objs.size + 1) scope.names []).lookup y.1).isSome = true) := fun ⟨n, v⟩ hy => by
    rcases S.par n (List.of_mem_zip hy).1 with q | q
    · exact .inl q
    · exact .inr ⟨q, PySem.W.cellsFrom_some _ _ _ (.inl q)⟩
  refine codeAny_call_function hr.depth (KX _ _ lk) rfl S.co S.gen rfl (PySem.W.codeRec_of KX hcd) (hb _ _ _ _ ?_)
  refine wpAny_newFunctionEnv_cells S.kind hkind fun env he s1 x => ?_
  subst he
  refine ⟨lim.keeps x.toInCall.keep, codeAny_func ?_⟩
  obtain ⟨t, ht, hq⟩ := hbody A outer s H vs Q E (hr.deeper _) hsp
  have I : Inv (cxOf CX P w K mg base N qual scope f cdv A outer s H E) [] (start N vs) H s1 := inv_start S hr.hd e0 hl r x
  refine wpAny_mono (ht [] s1 (start N vs) H _ I hq) (fun fl s' hs => ?_) fun e s' hs => hs
  have fin : ∀ {σ' : St} {H' : Hp} {v : V} {u : Value}, Inv (cxOf CX P w K mg base N qual scope f cdv A outer s H E) [] σ' H' s' → RelV v u → Q v H' → CE outer P w H s Q u s' :=
    fun {σ' H' v u} J rv q => ⟨v, H', J.os, J.bare, J.base, J.hok, rv, q⟩
  cases fl with
  | ret u =>
    obtain ⟨v, σ', H', J, rv, q⟩ := hs
    exact fin J rv q
  | next =>
    obtain ⟨σ', H', J, q⟩ := hs
    exact fin (v := V.non) (u := Value.none) J rfl q
  | brk =>
    obtain ⟨_, _, _, q⟩ := hs
    exact False.elim q
  | cont =>
    obtain ⟨_, _, _, q⟩ := hs
    exact False.elim q
end L2
namespace L2
open PySem PySem.Spec PyProof.Rows
section
variable {X : Cx} {x : Str} {p pos : Pos} {e : Expr} {es : List Expr} {t : TA} {id T : String} {r : List V → Hp → VK → Prop}
def tCB (r : List V → Hp → VK → Prop) (t : TA) : TE := fun σ H Q => t σ H fun vs H1 => r vs H1 Q
theorem pe_callB (hc : CallR X (.builtin id) r) (hg : Gl X x) (hm : X.mg x = none) (hv : bootBuiltins x = some (.builtin id)) (ha : PA X (e :: es) t) (hn : x ≠ "__name__" := by decide) (hdb : (x == ("__debug__" : Str)) = false := by decide)
    (he : starEach (e :: es) X.env = (false, eval e X.env) :: starEach es X.env := by rfl) (hpl : (backTo pos (starEach es X.env)).any (·.1) = false := by rfl) : PE X (.Call (.Name x p) (e :: es) [] pos) (tCB r t) := by
  intro pins s σ H Q I h
  refine wpAny_Call_Name_kw (ld_blt I hg hm hv ?_ hn hdb)
  exact PyProof.Rows.callWith_builtin1 (thn (ha pos pins s σ H _ I h) fun us s1 zy4 => (by obtain ⟨vs, H1, I1, r1, q1⟩ := zy4; exact hc pins s1 σ H1 vs us Q I1 r1 q1)) he hpl
theorem pe_callTy (hc : CallR X (.type T) r) (hg : Gl X x) (hm : X.mg x = none) (hv : bootBuiltins x = some (.type T)) (ha : PA X (e :: es) t) (hn : x ≠ "__name__" := by decide) (hdb : (x == ("__debug__" : Str)) = false := by decide)
    (he : starEach (e :: es) X.env = (false, eval e X.env) :: starEach es X.env := by rfl) (hpl : (backTo pos (starEach es X.env)).any (·.1) = false := by rfl) : PE X (.Call (.Name x p) (e :: es) [] pos) (tCB r t) := by
  intro pins s σ H Q I h
  refine wpAny_Call_Name_kw (ld_blt I hg hm hv ?_ hn hdb)
  exact PyProof.Rows.callWith_type1 (thn (ha pos pins s σ H _ I h) fun us s1 zy5 => (by obtain ⟨vs, H1, I1, r1, q1⟩ := zy5; exact hc pins s1 σ H1 vs us Q I1 r1 q1)) he hpl
end
end L2
namespace HT
open PySem PyProof.Rows
section
open PySem.SeqAt
open PySem.AutoSeq1 (wpAny_loadPart')
open PySem.MeetsSeq PySem.MeetsSeq2 PySem.MeetsSeq3
end
section
variable {prog : Program} {w : World} {A : Around} {E : Value → Shared → Prop} {s : Shared}
end
end HT
namespace L2
open PySem PySem.Spec PyProof.Rows
abbrev TO := St → Hp → (Option Int → Hp → Prop) → Prop
theorem intsAre_of {ns : List Int} : ∀ {us : List Value}, Vals (ns.map V.int) us → IntsAre us ns := by
  induction ns with
  | nil => intro us r; rw [List.map_nil] at r; cases r; exact .nil
  | cons n ns ih =>
    intro us r
    rw [List.map_cons] at r
    cases r with
    | cons r1 r2 =>
      obtain ⟨t, e⟩ := r1
      subst e
      exact .cons n t (ih r2)
section
variable {X : Cx} {e : Expr} {te : TE} {lo hi : Option Expr} {tl th : TO} {pos p2 : Pos}
end
end L2
namespace L2
open PySem PySem.Spec PyProof.Rows
def ixN (n : Nat) (i : Int) : Option Nat := if 0 ≤ i then (if i < n then some i.toNat else none) else if -(n : Int) ≤ i then some (i + n).toNat else none
def atI {α : Type} (xs : List α) (i : Int) : Option α := (ixN xs.length i).bind fun j => xs[j]?
theorem ixN_seq {n : Nat} {i : Int} {j : Nat} (h : ixN n i = some j) : seqIndex? i n = some j ∧ j < n ∧ -(n : Int) ≤ i ∧ i < n := by
  unfold ixN at h
  by_cases h0 : 0 ≤ i
  · rw [if_pos h0] at h
    by_cases h1 : i < n
    · rw [if_pos h1] at h
      have e : i.toNat = j := Option.some.inj h
      exact ⟨by rw [seqIndex_of h0 h1, e], by omega, by omega, h1⟩
    · rw [if_neg h1] at h; cases h
  · rw [if_neg h0] at h
    by_cases h1 : -(n : Int) ≤ i
    · rw [if_pos h1] at h
      have e : (i + n).toNat = j := Option.some.inj h
      exact ⟨by rw [seqIndex_neg (by omega) h1, e], by omega, h1, by omega⟩
    · rw [if_neg h1] at h; cases h
theorem atI_get {α : Type} {xs : List α} {i : Int} {v : α} (h : atI xs i = some v) : ∃ j, seqIndex? i xs.length = some j ∧ xs[j]? = some v ∧ j < xs.length ∧ -(xs.length : Int) ≤ i ∧ i < xs.length := by
  unfold atI at h
  cases e : ixN xs.length i with
  | none => rw [e] at h; cases h
  | some j =>
    rw [e] at h
    obtain ⟨h1, h2, h3, h4⟩ := ixN_seq e
    exact ⟨j, h1, h, h2, h3, h4⟩
theorem atI_nat {α : Type} {xs : List α} {j : Nat} {v : α} (h : xs[j]? = some v) : atI xs (j : Int) = some v := by
  have hj : j < xs.length := (List.getElem?_eq_some_iff.mp h).1
  have e : ixN xs.length (j : Int) = some j := by
    unfold ixN
    rw [if_pos (by omega), if_pos (by omega)]; simp
  unfold atI; rw [e]; exact h
def PlainIx (b : Expr) : Prop := ∀ o i, subscripted b false o i = operate [o, i] (getItem o i)
def IxR (X : Cx) (r : R2) : Prop :=
  ∀ (value slice : Expr) (pins : List (Addr × Obj)) (s : Shared) (σ : St) (H : Hp) (x y : V) (v u : Value) (Q : VK), Inv X pins σ H s → RelV x v → RelV y u → r x y H Q →
    subscripted slice false v u = operate [v, u] (getItem v u) → wpAny (model X.prog X.w) X.A (subscriptTail value slice v u) (EP X pins σ Q) X.xe s
def MtR (X : Cx) (id : String) (r : V → List V → Hp → VK → Prop) : Prop :=
  ∀ (pins : List (Addr × Obj)) (s : Shared) (σ : St) (H : Hp) (x : V) (xs : List V) (v : Value) (us : List Value) (Q : VK), Inv X pins σ H s → RelV x v → Vals xs us → r x xs H Q →
    wpAny (model X.prog X.w) X.A (call (.builtin id) (v :: us)) (EP X pins σ Q) X.xe s
section
variable {X : Cx} {a b : Expr} {ta tb : TE} {pos : Pos}
theorem pe_ix {r : R2} (hr : IxR X r) (ha : PE X a ta) (hb : PE X b tb) (hs : PlainIx b) : PE X (.Subscript a b pos) (tOp r ta tb) := by
  intro pins s σ H Q I h
  exact Subscript_ (binT ha hb I h fun v u s2 x y H2 I2 rx ry q => hr a b pins s2 σ H2 x y v u Q I2 rx ry q (hs _ _))
def rIxL (K : PySem.W.Frag) : R2 := fun x y H Q => ∃ p xs i v, x = .ref p ∧ y = .int i ∧ SqL K H p xs ∧ atI xs i = some v ∧ Q v H
theorem ix_list : IxR X (rIxL X.K) := by
  intro value slice pins s σ H x y v u Q I rx ry h hs
  obtain ⟨p, xs, i, z, rfl, rfl, hq, he, q⟩ := h
  cases rx
  obtain ⟨t, rfl⟩ := ry
  obtain ⟨its, r, pl, hz⟩ := I.list hq
  obtain ⟨j, h1, h2, h3, h4, h5⟩ := atI_get he
  obtain ⟨w, ew, rw'⟩ := r.get h2
  have hl := r.length
  have hn := line63
  have fin : EP X pins σ Q w s := ⟨z, H, I, rw', q⟩
  by_cases h0 : 0 ≤ i
  · have hj : i.toNat = j := by
      rw [seqIndex_of h0 h5] at h1
      exact Option.some.inj h1
    exact item_listR pl.isList h0 (by omega) (by rw [hj]; simpa using ew) fin hs
  · have hj : (i + (its.toArray.size : Int)).toNat = j := by
      rw [seqIndex_neg (by omega) h4] at h1
      rw [List.size_toArray, ← hl]
      exact Option.some.inj h1
    exact subscriptTail_builtinR (x := w) pl.isList.typeIs slot_list_getitem.lookup
      (wpAny_getItem_list_neg (Q := fun r s' => r = w ∧ EP X pins σ Q r s') pl.isList (by omega) (by rw [List.size_toArray] <;> omega) (by omega) (by rw [hj]; simpa using ew) ⟨rfl, fin⟩) hs
theorem mapSeq_set (its : List Value) (n j : Nat) (u : Value) : Obj.mapSeq (·.setIfInBounds j u) { cls := .type "list", data := .seq its.toArray n } = { cls := .type "list", data := .seq (its.set j u).toArray n } := by
  simp [Obj.mapSeq]
theorem Inv.lst {pins : List (Addr × Obj)} {σ : St} {H : Hp} {s : Shared} {p : Addr} {xs : List V} (I : Inv X pins σ H s) (h : H p = some (.lst xs)) :
    ∃ (its : List Value) (n : Nat), Vals xs its ∧ s.heap.get? p = some { cls := .type "list", data := .seq its.toArray n } ∧ xs.length ≤ sizeLine := by
  obtain ⟨z, its, n, r, e⟩ := I.hok p _ h
  exact ⟨its, n, r, e, z⟩
theorem Inv.lstUpd {pins : List (Addr × Obj)} {σ : St} {H : Hp} {s : Shared} {p : Addr} {xs ys : List V} {its its' : List Value} {n n' : Nat} {f : Obj → Obj} (I : Inv X pins σ H s) (h : H p = some (.lst xs))
    (ho : s.heap.get? p = some { cls := .type "list", data := .seq its.toArray n }) (hf : f { cls := .type "list", data := .seq its.toArray n } = { cls := .type "list", data := .seq its'.toArray n' }) (r : Vals ys its') (hz : ys.length ≤ sizeLine) (t : Nat) :
    Inv X pins σ (upd H p (.lst ys)) { s with heap := s.heap.update p f, toks := t } := by
  have e : (s.heap.update p f).get? p = some { cls := .type "list", data := .seq its'.toArray n' } := by
    rw [Heap.get?_update_self f ho (by rw [hf] <;> rfl), hf]
  refine I.write (x := p) (e := p) (by rw [h]; trivial) (.inl rfl) (fun b u hb q => (Heap.get?_update_other _ _ (Ne.symm hb)).trans q) ⟨_, e⟩ ?_
  exact ⟨hz, its', n', r, e⟩
def rSetL : V → V → V → Hp → (Hp → Prop) → Prop := fun o i v H Q => ∃ p xs k j, o = .ref p ∧ i = .int k ∧ H p = some (.lst xs) ∧ ixN xs.length k = some j ∧ Q (upd H p (.lst (xs.set j v)))
theorem set_list : PSet X rSetL := by
  intro pins s σ H o i v ov iv u Q I ro ri rv h
  obtain ⟨p, xs, k, j, rfl, rfl, hp, hj, q⟩ := h
  cases ro
  obtain ⟨t, rfl⟩ := ri
  obtain ⟨its, n, r, ho, hz⟩ := I.lst hp
  obtain ⟨h1, h2, h3, h4⟩ := ixN_seq hj
  have hl := r.length
  have hn := line63
  have I' : Inv X pins σ (upd H p (.lst (xs.set j v))) { s with heap := s.heap.update p (Obj.mapSeq (·.setIfInBounds j u)) } :=
    I.lstUpd hp ho (mapSeq_set its n j u) (r.set rv j) (by rw [List.length_set]; exact hz) s.toks
  by_cases h0 : 0 ≤ k
  · have hk : k.toNat = j := by
      rw [seqIndex_of h0 h4] at h1
      exact Option.some.inj h1
    exact PySem.W.ki_setAt ho h0 (by omega) (by rw [List.size_toArray, ← hl]; exact h4) (by rw [hk]; exact ⟨_, I', q⟩)
  · have hk : (k + (its.toArray.size : Int)).toNat = j := by
      rw [seqIndex_neg (by omega) h3] at h1
      rw [List.size_toArray, ← hl]
      exact Option.some.inj h1
    exact PySem.W.ki_setBack ho (by omega) (by rw [List.size_toArray, ← hl]; exact h3) (by omega) (by rw [hk]; exact ⟨_, I', q⟩)
def flatV : V → Bool
  | .non => true
  | .bl _ => true
  | .int _ => true
  | .str _ => true
  | _ => false
def eqV : V → V → Bool
  | .non, .non => true
  | .bl a, .bl b => a == b
  | .bl a, .int b => (if a then 1 else 0) == b
  | .int a, .bl b => a == (if b then 1 else 0)
  | .int a, .int b => a == b
  | .str a, .str b => a == b
  | _, _ => false
theorem eqAt_V {A : Around} {s : Shared} {y x : V} {u v : Value} (ry : RelV y u) (rx : RelV x v) (fy : flatV y = true) (fx : flatV x = true) : SeqAt.EqAt A s u v (eqV y x) := by
  cases y with
  | non =>
    cases ry
    cases x with
    | non => cases rx; exact SeqAt.EqAt.same _
    | bl b => cases rx; exact SeqAt.EqAt.none_bool b
    | int b => obtain ⟨t, rfl⟩ := rx; exact SeqAt.EqAt.none_int b t
    | str b => obtain ⟨t, rfl⟩ := rx; exact SeqAt.EqAt.none_str b t
    | _ => exact absurd (show false = true from fx) Bool.false_ne_true
  | bl a =>
    cases ry
    cases x with
    | non => cases rx; exact SeqAt.EqAt.bool_none a
    | bl b => cases rx; exact SeqAt.EqAt.bool_bool a b
    | int b => obtain ⟨t, rfl⟩ := rx; exact SeqAt.EqAt.bool_int a b t
    | str b => obtain ⟨t, rfl⟩ := rx; exact SeqAt.EqAt.bool_str a b t
    | _ => exact absurd (show false = true from fx) Bool.false_ne_true
  | int a =>
    obtain ⟨t', rfl⟩ := ry
    cases x with
    | non => cases rx; exact SeqAt.EqAt.int_none a t'
    | bl b => cases rx; exact SeqAt.EqAt.int_bool a t' b
    | int b => obtain ⟨t, rfl⟩ := rx; exact SeqAt.EqAt.int_int a t' b t
    | str b => obtain ⟨t, rfl⟩ := rx; exact SeqAt.EqAt.int_str a t' b t
    | _ => exact absurd (show false = true from fx) Bool.false_ne_true
  | str a =>
    obtain ⟨t', rfl⟩ := ry
    cases x with
    | non => cases rx; exact SeqAt.EqAt.str_none a t'
    | bl b => cases rx; exact SeqAt.EqAt.str_bool a t' b
    | int b => obtain ⟨t, rfl⟩ := rx; exact SeqAt.EqAt.str_int a t' b t
    | str b => obtain ⟨t, rfl⟩ := rx; exact SeqAt.EqAt.str_str a t' b t
    | _ => exact absurd (show false = true from fx) Bool.false_ne_true
  | _ => exact absurd (show false = true from fy) Bool.false_ne_true
def eqU (x : V) (u : Value) : Bool := match u with
  | .none => eqV .non x
  | .bool b => eqV (.bl b) x
  | .int i _ => eqV (.int i) x
  | .str z _ => eqV (.str z) x
  | _ => false
theorem eqU_of {x y : V} {u : Value} (r : RelV y u) (f : flatV y = true) : eqU x u = eqV y x := by
  cases y with
  | non => cases r; rfl
  | bl b => cases r; rfl
  | int i => obtain ⟨t, rfl⟩ := r; rfl
  | str z => obtain ⟨t, rfl⟩ := r; rfl
  | _ => exact absurd (show false = true from f) Bool.false_ne_true
theorem any_eqU {x : V} {xs : List V} {us : List Value} (h : Vals xs us) (f : xs.all flatV = true) : us.any (eqU x) = xs.any fun y => eqV y x := by
  induction h with
  | nil => rfl
  | cons r t ih =>
    rw [List.all_cons, Bool.and_eq_true] at f
    rw [List.any_cons, List.any_cons, eqU_of r f.1, ih f.2]
theorem mem_eqAt {A : Around} {s : Shared} {x : V} {v : Value} (rx : RelV x v) (fx : flatV x = true) {xs : List V} {us : List Value} (h : Vals xs us) (f : xs.all flatV = true) : ∀ u ∈ us, SeqAt.EqAt A s u v (eqU x u) := by
  induction h with
  | nil => intro u hu; cases hu
  | cons r t ih =>
    intro u' hu
    rw [List.all_cons, Bool.and_eq_true] at f
    rcases List.mem_cons.mp hu with rfl | hu
    · rw [eqU_of r f.1]; exact eqAt_V r rx f.1 fx
    · exact ih f.2 u' hu
def inV (x : V) (xs : List V) : Bool := xs.any fun y => eqV y x
def rIn (K : PySem.W.Frag) (neg : Bool) : R2 := fun x y H Q => ∃ p xs, y = .ref p ∧ (SqL K H p xs ∨ SqT K H p xs) ∧ flatV x = true ∧ xs.all flatV = true ∧ Q (.bl (if neg then !inV x xs else inV x xs)) H
theorem op_notIn_seq : OpR X (compareOp .NotIn) (rIn X.K true) := by
  intro pins s σ H x y v u Q I rx ry h
  obtain ⟨p, xs, rfl, hq, fx, fs, q⟩ := h
  cases ry
  rcases hq with hq | hq
  · obtain ⟨its, r, pl, hz⟩ := I.list hq
    refine SeqAt.notIn_listAt (eqU x) pl.isList (fun w hw => mem_eqAt rx fx r fs w (by simpa using hw)) ⟨.bl _, H, I, rfl, ?_⟩
    rw [show its.toArray.any (eqU x) = its.any (eqU x) by simp, any_eqU r fs]
    exact q
  · obtain ⟨its, r, pl, hz⟩ := I.tuple hq
    refine SeqAt.notIn_tupleAt (eqU x) pl (fun w hw => mem_eqAt rx fx r fs w (by simpa using hw)) ⟨.bl _, H, I, rfl, ?_⟩
    rw [show its.toArray.any (eqU x) = its.any (eqU x) by simp, any_eqU r fs]
    exact q
theorem call_len_seq : CallR X (.builtin "len") (fun xs H Q => ∃ p ys, xs = [.ref p] ∧ (SqL X.K H p ys ∨ SqT X.K H p ys) ∧ Q (.int ys.length) H) := by
  intro pins s σ H xs us Q I r h
  obtain ⟨p, ys, rfl, hq, q⟩ := h
  obtain ⟨u, rfl, rx⟩ := vals1 r
  cases rx
  have hn := line63
  rcases hq with hq | hq
  · obtain ⟨its, r', pl, hz⟩ := I.list hq
    have hlen := r'.length
    exact Calls.call_len_list pl.isList (by simp only [List.size_toArray] <;> omega) ⟨.int ys.length, H, I.tok _, ⟨s.toks + 1, by rw [List.size_toArray, hlen]⟩, q⟩
  · obtain ⟨its, r', pl, hz⟩ := I.tuple hq
    have hlen := r'.length
    exact len_tuple pl (by simp only [List.size_toArray] <;> omega) ⟨.int ys.length, H, I.tok _, ⟨s.toks + 1, by rw [List.size_toArray, hlen]⟩, q⟩
theorem call_len_str : CallR X (.builtin "len") (fun xs H Q => ∃ z, xs = [.str z] ∧ z.length ≤ sizeLine ∧ Q (.int z.length) H) := by
  intro pins s σ H xs us Q I r h
  obtain ⟨z, rfl, hz, q⟩ := h
  obtain ⟨u, rfl, t, rfl⟩ := vals1 r
  have hn := line63
  exact len_str (by omega) ⟨.int z.length, H, I.tok _, ⟨_, rfl⟩, q⟩
theorem call_list_of : CallR X (.type "list") (fun xs H Q => ∃ p ys, xs = [.ref p] ∧ (SqL X.K H p ys ∨ SqT X.K H p ys) ∧ ∀ l, H l = none → Q (.ref l) (upd H l (.lst ys))) := by
  intro pins s σ H xs us Q I r h
  obtain ⟨p, ys, rfl, hq, q⟩ := h
  obtain ⟨u, rfl, rx⟩ := vals1 r
  cases rx
  have fin : ∀ (its : List Value), Vals ys its → ys.length ≤ sizeLine → ∀ (h' : Heap) (c' : Nat), (∀ b o', s.heap.get? b = some o' → h'.get? b = some o') →
      h'.get? s.heap.objs.size = some { cls := .type "list", dict := none, data := .seq its.toArray c', slots := #[] } → EP X pins σ Q (.ref s.heap.objs.size) { s with heap := h' } := fun its r' hz h' c' kp e =>
    ⟨.ref s.heap.objs.size, _, I.laid (t' := s.toks) kp (Nat.le_refl _) (show ObjOk X.prog X.w _ h' _ (.lst ys) from ⟨hz, its, c', r', e⟩), rfl, q _ (I.hok.fresh (Nat.le_refl _))⟩
  rcases hq with hq | hq
  · obtain ⟨its, r', pl, hz⟩ := I.list hq
    have hlen := r'.length
    obtain ⟨o, ho, hc, n, hd⟩ := pl.isList
    exact call_list_seq p (.inl rfl) ho hc hd (fun h' c' kp e => fin its r' hz h' c' kp e) (by simp only [List.size_toArray] <;> omega)
  · obtain ⟨its, r', pl, hz⟩ := I.tuple hq
    have hlen := r'.length
    obtain ⟨o, ho, hc, n, hd⟩ := pl
    exact call_list_seq p (.inr rfl) ho hc hd (fun h' c' kp e => fin its r' hz h' c' kp e) (by simp only [List.size_toArray] <;> omega)
def tyV (K : PySem.W.Frag) (T : String) (x : V) (H : Hp) : Prop := match x with
  | .str _ => T = "str"
  | .int _ => T = "int"
  | .ref p => (T = "list" ∧ ∃ xs, SqL K H p xs) ∨ (T = "tuple" ∧ ∃ o, K.lookup p = some o ∧ o.cls = .type "tuple" ∧ o.dict = none) ∨
      (T = "dict" ∧ ((∃ kvs, H p = some (.dK kvs)) ∨ ∃ kvs, H p = some (.dT kvs))) ∨ (T = "set" ∧ ∃ S n, H p = some (.set S n))
  | _ => False
theorem tyV_is {pins : List (Addr × Obj)} {σ : St} {H : Hp} {s : Shared} {T : String} {x : V} {v : Value} (I : Inv X pins σ H s) (r : RelV x v) (ty : tyV X.K T x H) :
    s.TypeIs v T ∧ ∀ a, v = .ref a → ∃ ob, s.heap.get? a = some ob ∧ ob.dict = none := by
  cases x with
  | str z =>
    obtain ⟨t, rfl⟩ := r
    cases (show T = "str" from ty)
    exact ⟨typeIs_str s z t, fun _ e => nomatch e⟩
  | int i =>
    obtain ⟨t, rfl⟩ := r
    cases (show T = "int" from ty)
    exact ⟨typeIs_int s i t, fun _ e => nomatch e⟩
  | ref p =>
    cases r
    rcases ty with ⟨rfl, xs, hq⟩ | ⟨rfl, o, hk, hc, hd⟩ | ⟨rfl, hk⟩ | ⟨rfl, S, n, hk⟩
    · obtain ⟨its, _, pl, _⟩ := I.list hq
      refine ⟨pl.isList.typeIs, fun a e => ?_⟩
      cases e
      obtain ⟨o, n, e, c, hd, _⟩ := pl
      exact ⟨o, e, hd⟩
    · refine ⟨⟨o, I.kIn p o hk, hc⟩, fun a e => ?_⟩
      cases e
      exact ⟨o, I.kIn _ o hk, hd⟩
    · have z : ∃ o, s.heap.get? p = some o ∧ o.ExactDict := by
        rcases hk with ⟨kvs, hk⟩ | ⟨kvs, hk⟩
        · obtain ⟨_, _, _, _, o, _, _, e, ex, _⟩ := I.hok p _ hk
          exact ⟨o, e, ex⟩
        · obtain ⟨_, _, _, _, o, _, _, e, ex, _⟩ := I.hok p _ hk
          exact ⟨o, e, ex⟩
      obtain ⟨o, e, ex⟩ := z
      refine ⟨⟨o, e, ex.1⟩, fun a e2 => ?_⟩
      cases e2
      exact ⟨o, e, ex.2.1⟩
    · obtain ⟨o, _, _, _, e, ex, _⟩ := I.hok p _ hk
      refine ⟨⟨o, e, ex.1⟩, fun a e2 => ?_⟩
      cases e2
      exact ⟨o, e, ex.2.1⟩
  | _ => exact False.elim ty
def tBM (K : PySem.W.Frag) (T : String) (r : V → List V → Hp → VK → Prop) (to : TE) (t : TA) : TE := fun σ H Q => to σ H fun x H1 => tyV K T x H1 ∧ t σ H1 fun xs H2 => r x xs H2 Q
variable {o e : Expr} {es : List Expr} {to : TE} {t : TA} {name : Str} {apos cpos : Pos} {T id : String} {r : V → List V → Hp → VK → Prop}
theorem pe_bm (pa : PlainAttrs T) (slot : Slot T name id) (hty : typeOf (.builtin id) = pure (.type "method_descriptor")) (hm : MtR X id r) (ho : PE X o to) (ha : PA X (e :: es) t)
    (hbase : attributeBase o name X.env (eval o X.env) = eval o X.env := by rfl)
    (hfew : ((backTo cpos (starEach (e :: es) X.env)).all (fun x => !x.1) && (backToKw cpos (keywordEach [] X.env)).all (fun x => x.1.isSome)
      && decide ((e :: es).length + ([] : List Keyword).length + (if ([] : List Keyword).isEmpty then 0 else 1) < 30)) = true := by rfl)
    (hline : (apos.endLine == cpos.line) = true := by rfl) (hs : starEach (e :: es) X.env = (false, eval e X.env) :: starEach es X.env := by rfl) (hplain : (backTo cpos (starEach es X.env)).any (·.1) = false := by rfl) :
    PE X (.Call (.Attribute o name apos) (e :: es) [] cpos) (tBM X.K T r to t) := by
  intro pins s σ H Q I h
  refine wpAny_Call_method_late hbase hfew hline rfl (thn (ho pins s σ H _ I h) fun v s1 zx25 => ?_)
  obtain ⟨x, H1, I1, r1, ty, q1⟩ := zx25
  obtain ⟨h1, h2⟩ := tyV_is I1 r1 ty
  refine ⟨T, id, pa, slot, hty, h1, h2, ?_⟩
  have hA := ha cpos pins s1 σ H1 _ I1 q1
  rw [hs] at hA ⊢
  refine Calls.callWith_builtin (by show (false || (backTo cpos (starEach es X.env)).any (·.1)) = false; rw [hplain] <;> rfl) (Calls.evalArgs_plain ?_)
  exact thn hA fun us s2 zv10 => el5 zv10 fun vs H2 I2 r2 q2 => hm pins s2 σ H2 x vs v us Q I2 r1 r2 q2
/- xs.append(e), list.index on a module's tuple .. are MtR facts of 06m -/
end
end L2
namespace L2
open PySem PySem.Spec PyProof.Rows
def MtM (X : Cx) (id : String) (r : V → List V → Hp → VK → Prop) : Prop :=
  ∀ (pins : List (Addr × Obj)) (s : Shared) (σ : St) (H : Hp) (x : V) (xs : List V) (v : Value) (us : List Value) (Q : VK), Inv X pins σ H s → RelV x v → Vals xs us → r x xs H Q →
    wpAny (model X.prog X.w) X.A (call (.builtin id) (v :: us)) (EP X pins σ Q) X.xe s
theorem Vals.one {x : V} {us : List Value} (h : Vals [x] us) : ∃ u, us = [u] ∧ RelV x u := by
  cases h with
  | cons r t => cases t; exact ⟨_, rfl, r⟩
theorem Vals.rep {xs : List V} {us : List Value} (h : Vals xs us) : ∀ k : Nat, Vals (List.replicate k xs).flatten (List.replicate k us).flatten
  | 0 => .nil
  | k + 1 => by
    rw [List.replicate_succ, List.replicate_succ, List.flatten_cons, List.flatten_cons]
    exact Vals.append h (Vals.rep h k)
theorem foldl_rep (its : List Value) : ∀ (k : Nat) (acc : List Value),
    List.foldl (fun x1 x2 => x1 ++ x2) acc.toArray (List.replicate k its.toArray) = (acc ++ (List.replicate k its).flatten).toArray
  | 0, acc => by simp
  | k + 1, acc => by
    have e : acc.toArray ++ its.toArray = (acc ++ its).toArray := by simp
    have e2 : (acc ++ its) ++ (List.replicate k its).flatten = acc ++ (List.replicate (k + 1) its).flatten := by
      rw [List.replicate_succ, List.flatten_cons, List.append_assoc]
    rw [← e2, ← foldl_rep its k (acc ++ its), ← e, List.replicate_succ, List.foldl_cons]
section
variable {X : Cx} {pins : List (Addr × Obj)} {σ : St} {H : Hp} {s : Shared} {l b : Addr} {xs ys zs : List V}
theorem Inv.lset {its its' : List Value} {n : Nat} {f : Array Value → Array Value} {t' : Nat} (I : Inv X pins σ H s) (hH : H l = some (.lst xs))
    (e : s.heap.get? l = some { cls := .type "list", data := .seq its.toArray n }) (hf : f its.toArray = its'.toArray) (hv : Vals ys its') (hz : ys.length ≤ sizeLine) :
    Inv X pins σ (upd H l (.lst ys)) { s with heap := s.heap.update l (Obj.mapSeq f), toks := t' } := by
  have q := PySem.IsL.update e f
  rw [hf] at q
  refine I.write (x := l) (e := l) (by rw [hH]; exact trivial) (.inl rfl) (fun b' u hb hu => (Heap.get?_update_other s.heap (Obj.mapSeq f) (Ne.symm hb)).trans hu) ⟨_, q⟩ ?_
  exact ⟨hz, its', _, hv, q⟩
theorem Inv.lnew {its : List Value} {t' : Nat} (I : Inv X pins σ H s) (hv : Vals ys its) (hz : ys.length ≤ sizeLine) :
    Inv X pins σ (upd H s.heap.objs.size (.lst ys)) { s with heap := s.heap.push { cls := .type "list", data := .seq its.toArray }, toks := t' } :=
  I.laid (fun _ _ q => Heap.get?_push_of_some _ q) (Nat.le_refl _) ⟨hz, its, 0, hv, Heap.get?_push_size _ rfl⟩
theorem Inv.fresh (I : Inv X pins σ H s) : H s.heap.objs.size = none := I.hok.fresh (Nat.le_refl _)
theorem Inv.lstM (I : Inv X pins σ H s) (hH : H l = some (.lst xs)) : xs.length ≤ sizeLine ∧ ∃ (its : List Value) (n : Nat), Vals xs its ∧ xs.length = its.length ∧ s.heap.get? l = some { cls := .type "list", data := .seq its.toArray n } := by
  obtain ⟨z, its, n, r, e⟩ := I.hok l _ hH
  exact ⟨z, its, n, r, r.length, e⟩
theorem notLongL {n : Nat} (h : n ≤ sizeLine) : Builtin.List.listTooLong n = false := by
  unfold Builtin.List.listTooLong
  exact decide_eq_false (by omega)
end
section
variable {X : Cx}
def rAppend : V → List V → Hp → VK → Prop := fun x vs H Q => ∃ l xs y, x = .ref l ∧ vs = [y] ∧ H l = some (.lst xs) ∧ xs.length < sizeLine ∧ Q .non (upd H l (.lst (xs ++ [y])))
theorem mt_append : MtM X "list.append" rAppend := by
  intro pins s σ H x vs v us Q I rx rv h
  obtain ⟨l, xs, y, rfl, rfl, hH, hz, q⟩ := h
  cases rx
  obtain ⟨u, rfl, ru⟩ := rv.one
  obtain ⟨z, its, n, r, hl, e⟩ := I.lstM hH
  refine call_meets F.slot_list_append ⟨_, e, rfl⟩ F.entry_list_append (F.args_list_append_2 _ _) (PySem.list_append l its.toArray n u (by rw [List.size_toArray]; omega)) ⟨e, ?_⟩
  refine ⟨.non, _, I.lset (its' := its ++ [u]) hH e (by simp) (r.append (.cons ru .nil)) ?_, rfl, q⟩
  rw [List.length_append, List.length_singleton]
  omega
def rCat : R2 := fun x y H Q => ∃ l b xs zs, x = .ref l ∧ y = .ref b ∧ H l = some (.lst xs) ∧ H b = some (.lst zs) ∧ xs.length + zs.length ≤ sizeLine ∧ ∀ p, H p = none → Q (.ref p) (upd H p (.lst (xs ++ zs)))
theorem op_cat : OpR X (binaryOp .Add) rCat := by
  intro pins s σ H x y v u Q I rx ry h
  obtain ⟨l, b, xs, zs, rfl, rfl, hH, hB, hz, q⟩ := h
  cases rx
  cases ry
  obtain ⟨z, its, n, r, hl, e⟩ := I.lstM hH
  obtain ⟨z2, its2, n2, r2, hl2, e2⟩ := I.lstM hB
  refine PySem.P.add_list e e2 ?_ (by rw [List.size_toArray, List.size_toArray]; omega)
  have ea : its.toArray ++ its2.toArray = (its ++ its2).toArray := by simp
  rw [ea]
  exact ⟨.ref _, _, I.lnew (t' := s.toks) (r.append r2) (by rw [List.length_append]; omega), rfl, q _ I.fresh⟩
def rRep : R2 := fun x y H Q => ∃ l k xs, x = .ref l ∧ y = .int k ∧ H l = some (.lst xs) ∧ -(2 ^ 63) ≤ k ∧ k < 2 ^ 63 ∧ xs.length * k.toNat ≤ sizeLine ∧
  ∀ p, H p = none → Q (.ref p) (upd H p (.lst (List.replicate k.toNat xs).flatten))
theorem len_rep {α : Type} (xs : List α) (k : Nat) : (List.replicate k xs).flatten.length = k * xs.length := by
  induction k with
  | zero => simp
  | succ k ih => rw [List.replicate_succ, List.flatten_cons, List.length_append, ih, Nat.succ_mul, Nat.add_comm]
theorem op_rep : OpR X (binaryOp .Mult) rRep := by
  intro pins s σ H x y v u Q I rx ry h
  obtain ⟨l, k, xs, rfl, rfl, hH, h1, h2, hz, q⟩ := h
  cases rx
  obtain ⟨t, rfl⟩ := ry
  obtain ⟨z, its, n, r, hl, e⟩ := I.lstM hH
  have hlen : its.toArray.size * k.toNat ≤ sizeLine := by rw [List.size_toArray, ← hl]; exact hz
  have hcap : ¬ its.toArray.size * k.toNat > (2 ^ 63 - 1) / 8 := by
    have : (sizeLine : Nat) ≤ (2 ^ 63 - 1) / 8 := by decide
    omega
  have hfit : ¬ (!Builtin.List.listFitsIndex k) = true := by
    rw [fitsIndex_both h1 h2]
    exact Bool.false_ne_true
  have hlong : ¬ Builtin.List.listTooLong (its.toArray.size * k.toNat) = true := by
    rw [notLongL hlen]
    exact Bool.false_ne_true
  have hnew : List.foldl (fun x1 x2 => x1 ++ x2) #[] (List.replicate (if its.toArray.isEmpty = true then 0 else k.toNat) its.toArray) = (List.replicate k.toNat its).flatten.toArray := by
    have f0 : ∀ m : Nat, List.foldl (fun x1 x2 => x1 ++ x2) #[] (List.replicate m its.toArray) = (List.replicate m its).flatten.toArray := fun m => by
      have := foldl_rep its m []
      rw [List.nil_append] at this
      exact this
    rw [f0]
    cases its with
    | nil => simp
    | cons a r' => rw [if_neg (by simp)]
  refine wpAny_binaryOp_repeat_ref (T := "list") (U := "int") (by decide) ⟨_, e, rfl⟩ (fun s' => typeIs_int s' k t) noFill_list_mul F.fills_int_mul F.slot_int_rmul repeat_list F.slot_int_index.lookup
    (call_meets F.slot_int_rmul (typeIs_int s k t) F.entry_int_rmul (F.args_int_rmul_2 _ _) (int___rmul___int_list k t l its.toArray n)
      ⟨e, rfl, ⟨_, e, rfl⟩, call_meets F.slot_list_mul ⟨_, e, rfl⟩ F.entry_list_mul (F.args_list_mul_2 _ _) (AutoListH.list___mul___list_int_3 l its.toArray n k t hfit hcap hlong) ⟨e, ?_⟩⟩)
  rw [hnew]
  exact ⟨.ref _, _, I.lnew (t' := s.toks) (r.rep k.toNat) (by rw [len_rep, Nat.mul_comm]; exact hz), rfl, q _ I.fresh⟩
end
section
variable {prog : Program} {w : World} {A : Around} {E : Value → Shared → Prop} {s : Shared}
end
section
variable {X : Cx}
end
end L2
namespace L2
open PySem PySem.Spec PyProof.Rows
section
variable {κ : Type} [DecidableEq κ]
def valV (kvs : List (κ × V)) (k : κ) : Option V := (kvs.find? fun kv => decide (kv.1 = k)).map (·.2)
def putK (kvs : List (κ × V)) (k : κ) (v : V) : List (κ × V) :=
  if (kvs.any fun kv => decide (kv.1 = k)) = true then kvs.map (fun kv => if kv.1 = k then (kv.1, v) else kv) else kvs ++ [(k, v)]
theorem valV_pos {p : κ × V} {r : List (κ × V)} {k : κ} (e : p.1 = k) : valV (p :: r) k = some p.2 := by simp [valV, List.find?_cons, e]
theorem valV_neg {p : κ × V} {r : List (κ × V)} {k : κ} (e : ¬ p.1 = k) : valV (p :: r) k = valV r k := by simp [valV, List.find?_cons, e]
theorem valV_any (k : κ) : ∀ kvs : List (κ × V), (kvs.any fun kv => decide (kv.1 = k)) = (valV kvs k).isSome
  | [] => rfl
  | p :: r => by
    rw [List.any_cons]
    by_cases e : p.1 = k
    · simp only [valV_pos e, decide_eq_true e, Bool.true_or, Option.isSome_some]
    · rw [valV_neg e, decide_eq_false e, Bool.false_or]; exact valV_any k r
theorem length_putK (kvs : List (κ × V)) (k : κ) (v : V) : (putK kvs k v).length ≤ kvs.length + 1 := by
  unfold putK
  split
  · rw [List.length_map]; omega
  · rw [List.length_append, List.length_cons, List.length_nil]; omega
theorem RelO.isSome_eq {o : Option V} {u : Option Value} (r : RelO o u) : o.isSome = u.isSome := by
  cases o with
  | none => cases u with
    | none => rfl
    | some _ => exact (show False from r).elim
  | some _ => cases u with
    | none => exact (show False from r).elim
    | some _ => rfl
theorem KV.val {kvs : List (κ × V)} {vs : List (κ × Value)} (r : KV kvs vs) (k : κ) : RelO (valV kvs k) (valueAt vs k) := by
  unfold KV at r
  induction r with
  | nil => exact True.intro
  | @cons p q ps qs h t ih =>
    obtain ⟨h1, h2⟩ := h
    by_cases e : p.1 = k
    · have e' : q.1 = k := h1.symm.trans e
      have b : valueAt (q :: qs) k = some q.2 := by simp [valueAt, List.find?_cons, e']
      rw [valV_pos e, b]; exact h2
    · have e' : ¬ q.1 = k := fun z => e (h1.trans z)
      have b : valueAt (q :: qs) k = valueAt qs k := by simp [valueAt, List.find?_cons, e']
      rw [valV_neg e, b]; exact ih
theorem KV.any {kvs : List (κ × V)} {vs : List (κ × Value)} (r : KV kvs vs) (k : κ) : (kvs.any fun kv => decide (kv.1 = k)) = vs.any fun kv => decide (kv.1 = k) := by
  unfold KV at r
  induction r with
  | nil => rfl
  | cons h t ih => rw [List.any_cons, List.any_cons, ih, h.1]
theorem KV.repl {kvs : List (κ × V)} {vs : List (κ × Value)} (r : KV kvs vs) (k : κ) {y : V} {u : Value} (ry : RelV y u) :
    KV (kvs.map fun kv => if kv.1 = k then (kv.1, y) else kv) (vs.map fun kv => if kv.1 = k then (kv.1, u) else kv) := by
  unfold KV at r ⊢
  induction r with
  | nil => exact .nil
  | @cons p q ps qs h t ih =>
    rw [List.map_cons, List.map_cons]
    refine .cons ?_ ih
    obtain ⟨h1, h2⟩ := h
    by_cases e : p.1 = k
    · rw [if_pos e, if_pos (h1.symm.trans e)]; exact ⟨h1, ry⟩
    · rw [if_neg e, if_neg (fun z => e (h1.trans z))]; exact ⟨h1, h2⟩
theorem KV.put {kvs : List (κ × V)} {vs : List (κ × Value)} (r : KV kvs vs) (k : κ) {y : V} {u : Value} (ry : RelV y u) : KV (putK kvs k y) (stored vs k u) := by
  unfold putK stored
  rw [r.any k]
  by_cases e : (vs.any fun kv => decide (kv.1 = k)) = true
  · rw [if_pos e, if_pos e]; exact r.repl k ry
  · rw [if_neg e, if_neg e]; exact Paired.snoc r ⟨rfl, ry⟩
theorem KV.length {kvs : List (κ × V)} {vs : List (κ × Value)} (r : KV kvs vs) : kvs.length = vs.length := Paired.length r
end
theorem kV_is {P : Program} {w : World} {k : Key} {u : Value} (r : RelV (kV k) u) : (mixKind P w).is k u = true := by
  cases k with
  | inl i => obtain ⟨t, e⟩ := (show ∃ t, u = Value.int i t from r); subst e; exact mixKind_int P w i t
  | inr x => obtain ⟨t, e⟩ := (show ∃ t, u = Value.str x t from r); subst e; exact mixKind_str P w x t
theorem items_are {P : Program} {w : World} : ∀ {ks : List Key} {us : List Value}, Vals (ks.map kV) us → ItemsAre (mixKind P w) ks us
  | [], _, r => by rw [List.map_nil] at r; cases r; exact .nil
  | k :: ks, _, r => by
    rw [List.map_cons] at r
    cases r with
    | cons h t => exact .cons (kV_is h) (items_are t)
abbrev KT (H : Hp) : List (List Key × V) → List (List Key × Addr × Value) → Prop := Paired fun p q => p.1 = q.1 ∧ H q.2.1 = some (.tup (p.1.map kV)) ∧ RelV p.2 q.2.2
theorem KT.val {H : Hp} {kvs : List (List Key × V)} {xs : List (List Key × Addr × Value)} (r : KT H kvs xs) (k : List Key) : RelO (valV kvs k) ((atKey xs k).map (·.2)) := by
  induction r with
  | nil => exact True.intro
  | @cons p q ps qs h t ih =>
    obtain ⟨h1, _, h2⟩ := h
    by_cases e : p.1 = k
    · have e' : q.1 = k := h1.symm.trans e
      have b : atKey (q :: qs) k = some q.2 := by simp [atKey, List.find?_cons, e']
      rw [valV_pos e, b]; exact h2
    · have e' : ¬ q.1 = k := fun z => e (h1.trans z)
      have b : atKey (q :: qs) k = atKey qs k := by simp [atKey, List.find?_cons, e']
      rw [valV_neg e, b]; exact ih
theorem KT.repl {H : Hp} {kvs : List (List Key × V)} {xs : List (List Key × Addr × Value)} (r : KT H kvs xs) (k : List Key) {y : V} {u : Value} (ry : RelV y u) :
    KT H (kvs.map fun kv => if kv.1 = k then (kv.1, y) else kv) (xs.map (putAt k u)) := by
  induction r with
  | nil => exact .nil
  | @cons p q ps qs h t ih =>
    rw [List.map_cons, List.map_cons]
    refine .cons ?_ ih
    obtain ⟨h1, h2, h3⟩ := h
    unfold putAt
    by_cases e : p.1 = k
    · rw [if_pos e, if_pos (h1.symm.trans e)]; exact ⟨h1, h2, ry⟩
    · rw [if_neg e, if_neg (fun z => e (h1.trans z))]; exact ⟨h1, h2, h3⟩
theorem KT.put {H : Hp} {kvs : List (List Key × V)} {xs : List (List Key × Addr × Value)} (r : KT H kvs xs) (k : List Key) {b : Addr} {y : V} {u : Value} (hb : H b = some (.tup (k.map kV))) (ry : RelV y u) :
    KT H (putK kvs k y) (storedH xs k b u) := by
  have e : (kvs.any fun kv => decide (kv.1 = k)) = (atKey xs k).isSome := by
    rw [valV_any, (r.val k).isSome_eq, Option.isSome_map]
  unfold putK storedH
  rw [e]
  by_cases q : (atKey xs k).isSome = true
  · rw [if_pos q, if_pos q]; exact r.repl k ry
  · rw [if_neg q, if_neg q]; exact Paired.snoc r ⟨rfl, hb, ry⟩
theorem KT.keeps {H H' : Hp} {kvs : List (List Key × V)} {xs : List (List Key × Addr × Value)} (r : KT H kvs xs) (ht : ∀ b ys, H b = some (.tup ys) → H' b = some (.tup ys)) : KT H' kvs xs :=
  Paired.mapP r fun _ _ z => ⟨z.1, ht _ _ z.2.1, z.2.2⟩
section
variable {P : Program} {w : World} {H : Hp} {h : Heap} {a : Addr}
theorem rd_of {u : HO} (ok : HOk P w H h) (e : Rd H a u) : ObjOk P w H h a u := e.ok ok
theorem dk_rd {kvs : List (Key × V)} (ok : HOk P w H h) (e : Rd H a (.dK kvs)) : kvs.length ≤ sizeLine ∧ (a == sysModules) = false ∧ ∃ vs, KV kvs vs ∧ h.DictOf (mixKind P w) a vs :=
  show ObjOk P w H h a (.dK kvs) from rd_of ok e
theorem dk_of {kvs : List (Key × V)} (ok : HOk P w H h) (e : H a = some (.dK kvs)) : kvs.length ≤ sizeLine ∧ (a == sysModules) = false ∧ ∃ vs, KV kvs vs ∧ h.DictOf (mixKind P w) a vs := dk_rd ok (.inl e)
theorem key_of {ks : List Key} (ok : HOk P w H h) (e : H a = some (.tup (ks.map kV))) : (tupleKind (mixKind P w)).is h ks a := by
  obtain ⟨_, its, r, o, h1, h2, n, h3⟩ := (show ObjOk P w H h a (.tup (ks.map kV)) from ok a _ e)
  exact ⟨o, its.toArray, n, h1, h2, h3, by simpa using items_are r⟩
theorem dt_rd {kvs : List (List Key × V)} (ok : HOk P w H h) (e : Rd H a (.dT kvs)) : kvs.length ≤ sizeLine ∧ (a == sysModules) = false ∧
    ∃ xs, KT H kvs xs ∧ h.DictOfH (tupleKind (mixKind P w)) a xs := by
  obtain ⟨z, y, xs, r, o, es, ep, h1, h2, h3, h4, h5⟩ := (show ObjOk P w H h a (.dT kvs) from rd_of ok e)
  refine ⟨z, y, xs, r, o, es, ep, h1, h2, h3, h4, fun x hx => ?_, h5⟩
  have all : ∀ {l : List (List Key × V)} {m : List (List Key × Addr × Value)}, KT H l m → ∀ x ∈ m, (tupleKind (mixKind P w)).is h x.1 x.2.1 := by
    intro l m q
    induction q with
    | nil => intro x hx; exact nomatch hx
    | @cons p q ps qs hq t ih =>
      intro x hx
      rcases List.mem_cons.mp hx with e | hx
      · subst e
        exact key_of ok (by rw [← hq.1]; exact hq.2.1)
      · exact ih x hx
  exact all r x hx
theorem dt_of {kvs : List (List Key × V)} (ok : HOk P w H h) (e : H a = some (.dT kvs)) : kvs.length ≤ sizeLine ∧ (a == sysModules) = false ∧
    ∃ xs, KT H kvs xs ∧ h.DictOfH (tupleKind (mixKind P w)) a xs := dt_rd ok (.inl e)
end
def DGet (H : Hp) (a : Addr) (y : V) (r : Option V) : Prop :=
  (∃ kvs k, Rd H a (.dK kvs) ∧ y = kV k ∧ r = valV kvs k) ∨ ∃ kvs k b, Rd H a (.dT kvs) ∧ y = .ref b ∧ H b = some (.tup (k.map kV)) ∧ r = valV kvs k
def DPut (H : Hp) (a : Addr) (y v : V) (H' : Hp) : Prop :=
  (∃ kvs k, H a = some (.dK kvs) ∧ y = kV k ∧ kvs.length < sizeLine ∧ H' = upd H a (.dK (putK kvs k v))) ∨
  ∃ kvs k b, H a = some (.dT kvs) ∧ y = .ref b ∧ H b = some (.tup (k.map kV)) ∧ kvs.length < sizeLine ∧ H' = upd H a (.dT (putK kvs k v))
theorem DGet.k {H : Hp} {a : Addr} {kvs : List (Key × V)} {k : Key} (e : H a = some (.dK kvs)) : DGet H a (kV k) (valV kvs k) := .inl ⟨kvs, k, .inl e, rfl, rfl⟩
theorem DPut.k {H : Hp} {a : Addr} {kvs : List (Key × V)} {k : Key} {v : V} (e : H a = some (.dK kvs)) (hl : kvs.length < sizeLine) : DPut H a (kV k) v (upd H a (.dK (putK kvs k v))) := .inl ⟨kvs, k, e, rfl, hl, rfl⟩
section
variable {X : Cx} {pins : List (Addr × Obj)} {σ : St} {H : Hp} {s : Shared} {a : Addr} {y v : V} {u r : Value} {o : Option V} {A : Around} {E : Value → Shared → Prop}
theorem Inv.big (I : Inv X pins σ H s) : sysModules < s.heap.objs.size := by
  have h : mainGlobals < s.heap.objs.size := (I.mod.glob.keeps I.bk).lt
  exact Nat.lt_trans (by decide) h
theorem d_notIn {Q : Value → Shared → Prop} (hu : A.units + 1 < cLine) (I : Inv X pins σ H s) (g : DGet H a y o) (ry : RelV y u) (h : ∀ s', Inv X pins σ H s' → Q (.bool (!o.isSome)) s') :
    wpAny (model X.prog X.w) A (compareOp .NotIn u (.ref a)) Q E s := by
  rcases g with ⟨kvs, k, e, ey, l⟩ | ⟨kvs, k, b, e, ey, eb, l⟩
  · subst ey
    obtain ⟨z, hd, vs, rel, dd⟩ := dk_rd I.hok e
    refine wpAny_notIn_of (kV_is ry) hd dd.mapOf ?_
    rw [← (rel.val k).isSome_eq, ← l]
    exact h _ (I.tok _)
  · subst ey
    cases (show u = Value.ref b from ry)
    obtain ⟨z, hd, xs, rel, dd⟩ := dt_rd I.hok e
    refine wpAny_notIn_heap (tupleKind_room_in1 hu) (key_of I.hok eb) hd dd ?_
    have q := (rel.val k).isSome_eq
    rw [Option.isSome_map] at q
    rw [← q, ← l]
    exact h _ (I.tok _)
theorem d_write {h' : Heap} {t' : Nat} {ob : HO} (I : Inv X pins σ H s) (mu : Mut (H a)) (hs : Heap.SameBut a s.heap h') (he : ∃ q, h'.get? a = some q) (new : ObjOk X.prog X.w (upd H a ob) h' a ob) :
    Inv X pins σ (upd H a ob) { s with heap := h', toks := t' } :=
  I.write (x := a) (e := a) mu (.inl rfl) (fun b q hb z => (hs.2 b hb).trans z) he new
theorem dk_new {P : Program} {w : World} {H' : Hp} {h' : Heap} {kvs : List (Key × V)} {vs : List (Key × Value)} (z : kvs.length ≤ sizeLine) (hd : (a == sysModules) = false) (rel : KV kvs vs) (dd : h'.DictOf (mixKind P w) a vs) :
    ObjOk P w H' h' a (.dK kvs) := ⟨z, hd, vs, rel, dd⟩
theorem d_setItem {H' : Hp} {Q : Unit → Shared → Prop} (hu : A.units + 1 < cLine) (I : Inv X pins σ H s) (g : DPut H a y v H') (ry : RelV y u) (rv : RelV v r) (h : ∀ s', Inv X pins σ H' s' → Q () s') :
    wpAny (model X.prog X.w) A (setItem (.ref a) u r) Q E s := by
  rcases g with ⟨kvs, k, e, ey, l, eH⟩ | ⟨kvs, k, b, e, ey, eb, l, eH⟩
  · subst ey eH
    obtain ⟨z, hd, vs, rel, dd⟩ := dk_of I.hok e
    have hz : vs.length ≤ sizeLine := by rw [← rel.length]; exact z
    have hl : (putK kvs k v).length ≤ sizeLine := by have := length_putK kvs k v; omega
    refine wpAny_setItem_pairs (hsz := hz) (kV_is ry) dd fun h' dd' hs => h _ ?_
    have he : ∃ q, h'.get? a = some q := let ⟨q, _, _, hq, _⟩ := dd'; ⟨q, hq⟩
    exact d_write I (by rw [e]; exact True.intro) hs he (dk_new hl hd (rel.put k rv) dd')
  · subst ey eH
    cases (show u = Value.ref b from ry)
    obtain ⟨z, hd, xs, rel, dd⟩ := dt_of I.hok e
    have hz : xs.length ≤ sizeLine := by rw [← Paired.length rel]; exact z
    have hl : (putK kvs k v).length ≤ sizeLine := by have := length_putK kvs k v; omega
    refine wpAny_setItem_heap (hsz := hz) (tupleKind_room_in1 hu) (key_of I.hok eb) dd fun h' dd' hs => h _ ?_
    obtain ⟨q, es, ep, hq, h2, h3, h4, _, h5⟩ := dd'
    refine d_write I (by rw [e]; exact True.intro) hs ⟨q, hq⟩ ⟨hl, hd, _, (rel.put k eb rv).keeps fun c ys ec => ?_, q, es, ep, hq, h2, h3, h4, h5⟩
    rw [upd_ne (ne_of ec e (fun z => nomatch z))]
    exact ec
end
section
variable {X : Cx} {pins : List (Addr × Obj)} {σ : St} {H : Hp} {s : Shared} {a : Addr} {kvs : List (Key × V)} {k : Key} {u : Value} {A : Around} {E : Value → Shared → Prop}
end
def tDNotIn (ty td : TE) : TE := fun σ H Q => ty σ H fun y H1 => td σ H1 fun x H2 => ∃ a o, x = .ref a ∧ DGet H2 a y o ∧ Q (.bl (!o.isSome)) H2
def sDPut (td ty tv : TE) : TS := fun D σ H => tv σ H fun v H1 => td σ H1 fun x H2 => ty σ H2 fun y H3 => ∃ a H4, x = .ref a ∧ DPut H3 a y v H4 ∧ D.nx σ H4
section
variable {X : Cx} {o i e value : Expr} {pos pos' tpos : Pos} {td ty tv : TE}
theorem pc_dnotin (hu : X.A.units + 1 < cLine) (hi : PE X i ty) (ho : PE X o td) : PC X .NotIn i o (tDNotIn ty td) := by
  intro pins s σ H Q I h
  refine thn (hi pins s σ H _ I h) fun iv s1 zv11 => el5 zv11 fun y H1 I1 ry q1 => thn (ho pins s1 σ H1 _ I1 q1) fun u s2 zx26 => ?_
  obtain ⟨x, H2, I2, rx, a, ov, ex, g, q2⟩ := zx26
  subst ex
  obtain rfl : u = Value.ref a := rx
  exact d_notIn hu I2 g ry fun s3 I3 => ⟨.bl (!ov.isSome), H2, I3, rfl, q2⟩
theorem ps_dput (hu : X.A.units + 1 < cLine) (ho : PE X o td) (hi : PE X i ty) (hv : PE X value tv) (hs : swapsWith value (some (.Subscript o i pos')) pos.line X.env = pure false) :
    PS X (.Assign [.Subscript o i pos'] value pos) (sDPut td ty tv) := by
  intro pins s σ H D I h
  refine wpAny_Assign_Subscript (thn (hv pins s σ H _ I h) fun r s1 zv12 => el5 zv12 fun v H1 I1 rv q1 => thn (ho pins s1 σ H1 _ I1 q1) fun u s2 zv13 => el5 zv13 fun x H2 I2 rx q2 => thn (hi pins s2 σ H2 _ I2 q2) fun iv s3 zx27 => ?_) hs
  obtain ⟨y, H3, I3, ry, a, H4, ex, g, q3⟩ := zx27
  subst ex
  obtain rfl : u = Value.ref a := rx
  exact d_setItem hu I3 g ry rv fun s4 I4 => ⟨σ, H4, I4, q3⟩
end
theorem dk_empty {P : Program} {w : World} {H : Hp} (h : Heap) (hb : sysModules < h.objs.size) : ObjOk P w H (h.push { cls := .type "dict", data := .dict #[] }) h.objs.size (.dK []) :=
  ⟨Nat.zero_le _, beq_eq_false_iff_ne.mpr (Ne.symm (Nat.ne_of_lt hb)), [], .nil, Heap.DictOf.new h⟩
def tDNewK : TE := fun _ H Q => ∀ p, H p = none → Q (.ref p) (upd H p (.dK []))
section
variable {X : Cx} {pos : Pos}
theorem pe_dnewK : PE X (.Dict [] [] pos) tDNewK := fun pins s σ H Q I h =>
  wpAny_Dict_empty ⟨.ref s.heap.objs.size, _, I.laid (a := s.heap.objs.size) (o := .dK []) (t' := s.toks) (fun _ _ q => Heap.get?_push_of_some _ q) (Nat.le_refl _) (dk_empty s.heap I.big), rfl, h _ (I.hok.fresh (Nat.le_refl _))⟩
end
abbrev VV : List (V × V) → List (Value × Value) → Prop := Paired fun p q => RelV p.1 q.1 ∧ RelV p.2 q.2
structure M1 (X : Cx) (o : Expr) (m : Str) (apos : Pos) (e : Expr) (cpos : Pos) : Prop where
  base : attributeBase o m X.env (eval o X.env) = eval o X.env
  few : ((backTo cpos (starEach [e] X.env)).all (fun x => !x.1) && (backToKw cpos (keywordEach [] X.env)).all (fun x => x.1.isSome)
    && decide (([e] : List Expr).length + ([] : List Keyword).length + (if ([] : List Keyword).isEmpty then 0 else 1) < 30)) = true
  line : (apos.endLine == cpos.line) = true
  trees : backTo cpos (starEach [e] X.env) = [(false, eval e X.env)]
structure M2 (X : Cx) (o : Expr) (m : Str) (apos : Pos) (e f : Expr) (cpos : Pos) : Prop where
  base : attributeBase o m X.env (eval o X.env) = eval o X.env
  few : ((backTo cpos (starEach [e, f] X.env)).all (fun x => !x.1) && (backToKw cpos (keywordEach [] X.env)).all (fun x => x.1.isSome)
    && decide (([e, f] : List Expr).length + ([] : List Keyword).length + (if ([] : List Keyword).isEmpty then 0 else 1) < 30)) = true
  line : (apos.endLine == cpos.line) = true
  trees : backTo cpos (starEach [e, f] X.env) = [(false, eval e X.env), (false, eval f X.env)]
section
variable {X : Cx} {pins : List (Addr × Obj)} {σ : St} {H : Hp} {s : Shared} {a : Addr} {y d : V} {u r : Value} {o : Option V} {A : Around} {E : Value → Shared → Prop}
end
section
variable {X : Cx} {o e f : Expr} {apos cpos : Pos} {td ty tx : TE}
end
section
variable {X : Cx} {pins : List (Addr × Obj)} {σ : St} {H : Hp} {s : Shared} {a : Addr} {kvs : List (Key × V)} {A : Around} {E : Value → Shared → Prop}
end
section
variable {X : Cx} {pins : List (Addr × Obj)} {σ : St} {H : Hp} {s : Shared} {a : Addr} {y : V} {u : Value} {A : Around} {E : Value → Shared → Prop}
end
end L2
namespace Att
open PySem PySem.W PySem.Calls PyProof.Rows
theorem ints_of_wellAll {P : Params} {h : Heap} : ∀ (ns : List Int) (vs : List Value), WellAll P h vs (ns.map WData.int) → IntsAre vs ns := by
  intro ns
  induction ns with
  | nil =>
    intro vs w
    rw [List.map_nil] at w
    cases w
    exact .nil
  | cons n ns ih =>
    intro vs w
    rw [List.map_cons] at w
    cases w with
    | cons a b =>
      cases a
      exact .cons _ _ (ih _ b)
theorem script_of {l : OpenLaw} {n : Nat} (hn : l.most = some n) {P : Params} {h : Heap} {args : List WData} {vals : List Value}
    (hpre : l.row.toRowW.claim.pre args = true) (hwl : WellAll P h vals args) :
    ∃ a vs ns, vals = [Value.ref a] ∧ args = [WData.list (ns.map WData.int)] ∧ h.get? a = some { cls := .type "list", data := .seq vs.toArray } ∧ IntsAre vs ns ∧ ns.length ≤ n := by
  have hsh : WShape.hasAll [] args [.list .int] = true := (pre_splitW hpre).1
  have hc : l.pre.holds [] { args := args } = true := (pre_splitW hpre).2
  obtain ⟨d, r, rfl, h1, h2⟩ := hasAllW_cons hsh
  obtain rfl := hasAllW_nil h2
  obtain ⟨xs, rfl, h3⟩ := hasW_list h1
  obtain ⟨ns, rfl⟩ := items_int h3
  have hlen : ns.length ≤ n := by
    unfold OpenLaw.pre at hc
    have h4 : (WTm.not (.lt (.lit (.int (n : Int))) (.len (.arg 0)))).holds [] { args := [.list (ns.map .int)] } = true := by
      have h4 := (holds_andW hc).1
      rw [hn] at h4
      exact h4
    have h5 := condW_of h4 (w_not (w_lt w_lit (w_len_list (w_arg rfl))))
    rw [List.length_map] at h5
    refine Nat.le_of_not_lt fun q => ?_
    have q' : (n : Int) < ((ns.length : Nat) : Int) := by omega
    first
      | (rw [decide_eq_true q'] at h5; exact absurd h5 (by decide))
      | (simp at h5; omega)
  cases hwl with
  | cons w1 w2 =>
    cases w2
    cases w1 with
    | list ho hall => exact ⟨_, _, ns, rfl, rfl, ho, ints_of_wellAll ns _ hall, hlen⟩
theorem post_true (l : OpenLaw) (args : List WData) : l.row.toRowW.claim.post args (.bool true) args = true :=
  postW_of (r := l.row.toRowW) (X := (true == true))
    (show WShape.has [] (.bool true) .bool = true by first | rfl | decide | simp [WShape.has, WShape.arms, WShape.armsAll])
    (show (WTm.eq .res (.lit (.bool true))).value [] { args := args, res := some (.bool true), after := args } = some (.bool (true == true)) from w_eq_bool (w_res rfl) w_lit) rfl
theorem attach_call {l : OpenLaw} {n : Nat} {q : Program} {loose : List Str} {XP : (Str → Option Value) → Heap → Prop} {YP : World → Heap → Prop} {d : DefRec}
    (hn : l.most = some n) (hdf : d.params.defaults = [])
    (call : ∀ (w : World) (s₀ s₁ : Shared) (mg mb : Str → Option Value) (fa : Addr) (o : Obj) (pm cd doc : Value) (a : Addr) (vs : List Value) (ns : List Int),
      Ground q loose [] XP w s₀ mg mb s₁.heap → YP w s₁.heap →
      s₁.heap.get? fa = some o → o.data = .func (docDef d.name d.params d.body d.scope pm cd doc) → s₁.heap.CodeRec cd d.name → mg d.name = some (.ref fa) →
      s₁.heap.get? a = some { cls := .type "list", data := .seq vs.toArray } → IntsAre vs ns → ns.length ≤ n → s₁.gens = #[] →
      codeAny (model l.prog w) callerA (.call (.ref fa) ⟨[.ref a], []⟩) (fun r s' => r = .ok (.ret (.bool true)) ∧ OldK s₁.heap s'.heap ∧ s'.os = s₁.os ∧ AllBare s'.gens) s₁) :
    WalkO q loose XP YP l.row.toRowW d [] (fun f vs => PySem.call f vs) := by
  intro w s₀ s₁ mg mb G Y fa o pm cd doc dV kV ho hd hcd hD hmg hg args vals as hpre hlay hrd hwl hlo
  obtain rfl : dV = .none := Dflts.none hD hdf
  obtain rfl : kV = .none := Dflts.noKw hD
  obtain ⟨a, vs, ns, rfl, rfl, hobj, hints, hlen⟩ := script_of hn hpre hwl
  refine enter_call (codeAny_mono (call w s₀ s₁ mg mb fa o pm cd doc a vs ns G Y ho (fd_plain hd) hcd hmg hobj hints hlen hg) fun r s' hq => ?_)
  obtain ⟨rfl, h2, h3, h4⟩ := hq
  exact ⟨.inl ⟨.bool true, .bool true, [], rfl, fun _ => rfl, .bool true, post_true l _, fun _ => ⟨List.Pairwise.nil, fun _ hm => (nomatch hm)⟩⟩, h2, h3, h4⟩
section
variable {prog : Program} {w : World} {A : Around} {E : Value → Shared → Prop} {s : Shared} {K : Frag}
def ledger (h : Heap) (L d : Addr) : List (Addr × Obj) := (List.range h.objs.size).filterMap fun a => if a = L ∨ a = d then none else (h.get? a).map fun o => (a, o)
end
end Att
namespace L2
open PySem PySem.Spec PyProof.Rows
theorem vals_ints {vs : List Value} {ns : List Int} (h : IntsAre vs ns) : Vals (ns.map V.int) vs := by
  induction h with
  | nil => exact .nil
  | cons n t _ ih => exact .cons ⟨t, rfl⟩ ih
def Only (H : Hp) : Prop := ∀ b, H b = none ∨ ∃ o xs, H b = some (.frz o (.lst xs))
theorem law_call {P : Program} {w : World} {K : PySem.W.Frag} {mg mb : Str → Option Value} {CX : CXT} {k : Nat} {fa a : Addr} {fd : FuncData} {x : Str} {sp : Sp} {s₁ : Shared} {vs : List Value} {ns : List Int}
    (KX : K.In s₁.heap) (hns : s₁.heap.Ns mainGlobals mg) (hb : s₁.heap.Ns builtinsNs mb) (hbb : ∀ x : Str, x ≠ "__name__" → mb x = bootBuiltins x) (hlim : s₁.heap.NoLimit) (hg : s₁.gens = #[])
    (ha : s₁.heap.get? a = some { cls := .type "list", data := .seq vs.toArray }) (hi : IntsAre vs ns) (hl : ns.length ≤ sizeLine) (hr : Room k callerA)
    (F : ∀ base : Heap, K.In base → base.Ns mainGlobals mg → FnOk P w K mg base CX k fa fd [x] sp) (hbind : ∀ (s : Shared) (u : Value), BindsTo s fd ⟨[u], []⟩ [(x, u)])
    (hsp : ∀ H : Hp, Only H → SqL K H a (ns.map V.int) → sp [.ref a] H (fun v _ => v = .bl true) fun _ _ _ => False)
    (hCX : ∀ H e s', CX [] H s₁ (fun _ _ _ => False) e s' → False) :
    codeAny (model P w) callerA (.call (.ref fa) ⟨[.ref a], []⟩) (fun r s' => r = .ok (.ret (.bool true)) ∧ OldK s₁.heap s'.heap ∧ s'.os = s₁.os ∧ AllBare s'.gens) s₁ := by
  have rv := vals_ints hi
  have lenV := hi.length
  -- from an abstract heap in which nothing but the script may be tracked
  have core : ∀ H : Hp, Only H → SqL K H a (ns.map V.int) → HOk P w H s₁.heap → (∀ b, H b ≠ none → b = a) → (H a ≠ none → K.lookup a = none) →
      codeAny (model P w) callerA (.call (.ref fa) ⟨[.ref a], []⟩) (fun r s' => r = .ok (.ret (.bool true)) ∧ OldK s₁.heap s'.heap ∧ s'.os = s₁.os ∧ AllBare s'.gens) s₁ := by
    intro H hO hS hok hA hK
    have base_of : ∀ {b : Addr} {o : Obj}, s₁.heap.get? b = some o → H b = none → (hidT s₁.heap H).get? b = some o := fun e n => hidT_get e n
    have noA : ∀ {b : Addr} {o : Obj} {es : Array DictEntry} {ep : Nat}, s₁.heap.get? b = some o → o.data = .dict es ep → H b = none := fun {b o es ep} e d => by
      cases q : H b with
      | none => rfl
      | some u =>
        have e' : b = a := hA b (by rw [q]; simp)
        subst e'
        rw [ha] at e; cases e
        have d' : Data.seq vs.toArray _ = Data.dict es ep := d
        cases d'
    have nsK : ∀ {b : Addr} {m : Str → Option Value}, s₁.heap.Ns b m → (hidT s₁.heap H).Ns b m := fun {b m} ⟨o, es, ep, e, d, r⟩ => ⟨o, es, ep, base_of e (noA e d), d, r⟩
    have hKb : K.In (hidT s₁.heap H) := fun b o e => base_of (KX b o e) (by
      cases q : H b with
      | none => rfl
      | some u =>
        have e' : b = a := hA b (by rw [q]; simp)
        subst e'
        rw [hK (by rw [q]; simp)] at e; cases e)
    have hM : Mod K mg (hidT s₁.heap H) := ⟨hKb, nsK hns, ⟨mb, nsK hb, hbb⟩, let ⟨mc, h1, h2⟩ := hlim; ⟨mc, nsK h1, h2⟩⟩
    have e0 : Env0 P w K mg (hidT s₁.heap H) callerA [] s₁ H := ⟨rfl, hM, fun b o e => of_hidT e, Nat.le_of_eq (hidT_size _ _), trivial, fun b hb => absurd (show b ∈ ([] : List Addr) from hb) (by simp), hok, .of_eq hg⟩
    refine codeAny_mono ((F _ hKb (nsK hns)).run callerA [] s₁ H ⟨[.ref a], []⟩ [.ref a] [.ref a] _ _ hr e0 (hbind s₁ (.ref a)) (.cons rfl .nil) (hsp H hO hS)) fun r s' h => ?_
    cases r with
    | error e => exact (hCX H e s' h).elim
    | ok fl =>
      cases fl with
      | next => exact False.elim h
      | brk => exact False.elim h
      | cont => exact False.elim h
      | ret u =>
        obtain ⟨v, H', os, bare, un, hok', r', q⟩ := h
        have q' : v = .bl true := q
        subst q'
        obtain rfl : u = Value.bool true := r'
        refine ⟨rfl, OldK.of_keep fun b o e => ?_, os, bare⟩
        cases q : H b with
        | none => exact un.keep b o e q (by intro z; exact absurd (show b ∈ ([] : List Addr) from z) (by simp)) (by simp)
        | some u =>
          rcases hO b with z | ⟨ob, xs, z⟩
          · rw [q] at z; cases z
          · have z2 := un.frzs b ob _ z
            obtain ⟨e1, _⟩ := hok b _ z
            obtain ⟨e2, _⟩ := hok' b _ z2
            rw [e] at e1; cases e1
            exact e2
  cases hk : K.lookup a with
  | some o =>
    -- the script is one of the module's own objects
    have e := KX a o hk
    rw [ha] at e
    cases e
    refine core (fun _ => none) (fun _ => .inl rfl) (.inr ⟨_, vs.toArray, _, hk, rfl, rfl, rfl, by rw [List.size_toArray, lenV]; exact hl, by simpa using rv⟩) (fun b u z => by have z' : (none : Option HO) = some u := z; cases z') (fun b z => absurd rfl z) fun z => absurd rfl z
  | none =>
    refine core (fun b => if b = a then some (.frz { cls := .type "list", data := .seq vs.toArray } (.lst (ns.map V.int))) else none) (fun b => ?_) (.inl (.inr ⟨{ cls := .type "list", data := .seq vs.toArray }, if_pos rfl⟩)) (fun b u z => ?_) (fun b z => ?_) fun _ => hk
    · by_cases hb : b = a
      · exact .inr ⟨_, _, if_pos hb⟩
      · exact .inl (if_neg hb)
    · by_cases hb : b = a
      · have z' := (if_pos hb).symm.trans z
        cases z'
        subst hb
        exact ⟨ha, by rw [List.length_map]; exact hl, vs, _, rv, ha⟩
      · have z' := (if_neg hb).symm.trans z
        cases z'
    · by_cases hb : b = a
      · exact hb
      · exact absurd (if_neg hb) z
end L2
namespace L2
open PySem PySem.Spec PyProof.Rows
abbrev KOf {K : PySem.W.Frag} {h : Heap} (_ : K.In h) : PySem.W.Frag := K
theorem walk_of {l : PySem.W.OpenLaw} {n k : Nat} {q : Program} {loose : List Str} {XP : (Str → Option Value) → Heap → Prop} {YP : World → Heap → Prop} {d : DefRec} {K : Params → PySem.W.Frag} {CX : World → CXT} {sp : World → Sp} {x : Str}
    (hn : l.most = some n) (hn2 : n ≤ sizeLine) (hdf : d.params.defaults = []) (hr : Room k callerA)
    (hY : ∀ (w : World) (h : Heap), YP w h → (K w.params).In h)
    (F : ∀ (w : World) (mg : Str → Option Value) (fa : Addr) (h : Heap), (K w.params).In h → h.Ns mainGlobals mg → mg d.name = some (.ref fa) →
      ∃ fd : FuncData, (∀ (s : Shared) (u : Value), BindsTo s fd ⟨[u], []⟩ [(x, u)]) ∧
        ∀ base : Heap, (K w.params).In base → base.Ns mainGlobals mg → FnOk l.prog w (K w.params) mg base (CX w) k fa fd [x] (sp w))
    (hsp : ∀ (w : World) (H : Hp) (a : Addr) (ns : List Int), ns.length ≤ n → Only H → SqL (K w.params) H a (ns.map V.int) → sp w [.ref a] H (fun v _ => v = .bl true) fun _ _ _ => False)
    (hCX : ∀ (w : World) (H : Hp) (s : Shared) (e : Value) (s' : Shared), CX w [] H s (fun _ _ _ => False) e s' → False) :
    PySem.W.WalkO q loose XP YP l.row.toRowW d [] (fun f vs => PySem.call f vs) := by
  refine Att.attach_call hn hdf fun w s₀ s₁ mg mb fa o pm cd doc a vs ns G Y ho hd hcd hmg hobj hints hlen hg => ?_
  have KX := hY w _ Y
  obtain ⟨fd, hb, hF⟩ := F w mg fa _ KX G.T.g hmg
  exact law_call KX G.T.g G.T.b G.T.builtins G.T.nolimit hg hobj hints (Nat.le_trans hlen hn2) hr hF hb (fun H hO hS => hsp w H a ns hlen hO hS) fun H e s' => hCX w H s₁ e s'
end L2
namespace L2
open PySem PySem.Spec PyProof.Rows
def inClass (s : Stmt) (j : Nat) : Stmt := match s with
  | .ClassDef _ _ _ body _ _ _ _ _ _ _ => body.getD j (.Pass ⟨0, 0, 0, 0⟩)
  | _ => .Pass ⟨0, 0, 0, 0⟩
def defArgs (s : Stmt) : Arguments := match s with
  | .FunctionDef _ a _ _ _ _ _ _ _ _ => a
  | _ => { posonlyargs := [], args := [], vararg := none, kwonlyargs := [], kw_defaults := [], kwarg := none, defaults := [] }
def defBody (s : Stmt) : List Stmt := match s with
  | .FunctionDef _ _ b _ _ _ _ _ _ _ => b
  | _ => []
def defScope (s : Stmt) : Scope := match s with
  | .FunctionDef _ _ _ _ _ _ sc _ _ _ => sc
  | _ => { kind := .function, names := [], isGenerator := false, isCoroutine := false }
abbrev CX0 : CXT := fun _ _ _ _ _ _ => False
abbrev E0 : XK := fun _ _ _ => False
structure Fun (K : PySem.W.Frag) (x qual : Str) (st : Stmt) (f : Addr) (fd : FuncData) : Prop where
  ex : ∃ (oc : Value) (od : Option Addr) (kV doc pm : Value) (an : Option Addr) (cdv ct : Value) (osl : Array (Option Value)),
    fd = PySem.W.fnOf x qual (defArgs st) (defBody st) (defScope st) .none kV doc pm an cdv ct ∧ K.lookup f = some ⟨oc, od, .func fd, osl⟩ ∧ PySem.W.codeIn K cdv qual = true
  kp : PySem.W.keepIn K (.ref f) = true
section
variable {P : Program} {w : World} {K : PySem.W.Frag} {mg : Str → Option Value} {base : Heap}
theorem Fun.binds {x qual : Str} {st : Stmt} {f : Addr} {fd : FuncData} {ps : List Str} (F : Fun K x qual st f fd)
    (h : ∀ (kV doc pm : Value) (an : Option Addr) (cdv ct : Value) (us : List Value), us.length = ps.length → bindArgs (PySem.W.fnOf x qual (defArgs st) (defBody st) (defScope st) .none kV doc pm an cdv ct) ⟨us, []⟩ = pure (ps.zip us)) : Binds K fd ps [] := by
  obtain ⟨oc, od, kV, doc, pm, an, cdv, ct, osl, rfl, lk, hcd⟩ := F.ex
  exact .all (h kV doc pm an cdv ct)
theorem fun_mk {x qual : Str} {st : Stmt} {f : Addr} {oc : Value} {od an : Option Addr} {osl : Array (Option Value)} {kV doc pm cdv ct : Value} (l : K.lookup f = some ⟨oc, od, .func (PySem.W.fnOf x qual (defArgs st) (defBody st) (defScope st) .none kV doc pm an cdv ct), osl⟩)
    (c : PySem.W.codeIn K cdv qual = true) (k : PySem.W.keepIn K (.ref f) = true) : Fun K x qual st f (PySem.W.fnOf x qual (defArgs st) (defBody st) (defScope st) .none kV doc pm an cdv ct) := ⟨⟨oc, od, kV, doc, pm, an, cdv, ct, osl, rfl, l, c⟩, k⟩
end
theorem hu_of {A : Around} {k : Nat} (hr : Room k A) : A.units + 1 < cLine := Nat.lt_of_le_of_lt (Nat.add_le_add_left (by decide : 1 ≤ 64) _) hr.units
section
variable {X : Cx}
theorem pv (i : Nat) {x : Str} {pos : Pos} (hN : X.N[i]? = some x := by rfl) (hv : Vis X.env.scope x := by first | exact Or.inl rfl | exact Or.inr (Or.inl rfl) | exact Or.inr (Or.inr rfl)) (hd : (x == ("__debug__" : Str)) = false := by decide)
    (hcd : (x == ("__classdict__" : Str)) = false := by decide) : PE X (.Name x pos) (tVar i) := pe_var hN hv hd hcd
end
theorem iteT {A B : Prop} (h : A) : if true = true then A else B := by
  rw [if_pos rfl]
  exact h
theorem ite2 {c A B : Prop} [Decidable c] (h1 : c → A) (h2 : ¬ c → B) : if c then A else B := by
  by_cases h : c
  · rw [if_pos h]
    exact h1 h
  · rw [if_neg h]
    exact h2 h
def Same (H H' : Hp) : Prop := ∀ b o, H b = some o → H' b = some o
theorem Same.refl (H : Hp) : Same H H := fun _ _ h => h
theorem Same.trans {H H1 H2 : Hp} (a : Same H H1) (b : Same H1 H2) : Same H H2 := fun c o h => b c o (a c o h)
theorem Same.free {H H' : Hp} (e : Same H H') {l : Addr} (h : H' l = Option.none) : H l = Option.none := by
  cases q : H l with
  | none => rfl
  | some o =>
    rw [e l o q] at h
    cases h
end L2
namespace L2
open PySem PySem.Spec PyProof.Rows
section
variable {X : Cx}
end
end L2
namespace L2
open PySem PySem.Spec PyProof.Rows
section
variable {κ : Type} [DecidableEq κ]
theorem nd_snoc : ∀ {l : List κ} {k : κ}, l.Nodup → ¬ k ∈ l → (l ++ [k]).Nodup
  | [], k, _, _ => by simp
  | a :: r, k, h, hk => by
    obtain ⟨h1, h2⟩ := List.nodup_cons.mp h
    show (a :: (r ++ [k])).Nodup
    refine List.nodup_cons.mpr ⟨fun m => ?_, nd_snoc h2 fun m => hk (List.mem_cons.mpr (Or.inr m))⟩
    rcases List.mem_append.mp m with q | q
    · exact h1 q
    · exact hk (List.mem_cons.mpr (Or.inl (List.mem_singleton.mp q).symm))
end
end L2
namespace L2
open PySem PySem.Spec PyProof.Rows
theorem ObjOk.there {P : Program} {w : World} {H : Hp} {h : Heap} {a : Addr} {o : HO} (x : ObjOk P w H h a o) : ∃ ob, h.get? a = some ob := by
  cases o with
  | lst xs => obtain ⟨_, _, _, _, e⟩ := x; exact ⟨_, e⟩
  | tup xs => obtain ⟨_, _, _, ob, e, _⟩ := x; exact ⟨ob, e⟩
  | dK kvs => obtain ⟨_, _, _, _, ob, _, _, e, _⟩ := x; exact ⟨ob, e⟩
  | dT kvs => obtain ⟨_, _, _, _, ob, _, _, e, _⟩ := x; exact ⟨ob, e⟩
  | set S n => obtain ⟨ob, _, _, _, e, _⟩ := x; exact ⟨ob, e⟩
  | ins C dx fs => obtain ⟨_, _, _, e, _⟩ := x; exact ⟨_, e⟩
  | own y => obtain ⟨ob, e⟩ := x; exact ⟨ob, e⟩
  | xd fs => obtain ⟨_, ⟨ob, _, _, e, _⟩, _⟩ := x; exact ⟨ob, e⟩
  | rng lo hi => obtain ⟨_, _, _, e⟩ := x; exact ⟨_, e⟩
  | frz ob u => obtain ⟨e, _⟩ := x; exact ⟨ob, e⟩
  | tbl ps => exact ⟨_, (show h.get? a = some _ from x)⟩
  | met f y => exact ⟨_, (show h.get? a = some _ from x)⟩
  | ext φ => obtain ⟨_, q, _⟩ := x; exact q
theorem HOk.keptT {P : Program} {w : World} {H : Hp} {h h' : Heap} (x : HOk P w H h) (k : ∀ b u, H b ≠ none → h.get? b = some u → h'.get? b = some u) : HOk P w H h' := fun a o e =>
  (x a o e).stay (fun b u hb q => k b u (by
    rcases hb with z | z
    · rw [z, e]; exact fun y => nomatch y
    · rw [z]; exact fun y => nomatch y) q) (fun _ q => q) fun _ _ q => q
def CXx (P : Program) (w : World) : CXT := fun outer H s E e s' =>
  ∃ (ea : Addr) (C : Value) (B : Heap) (a0 : Value) (H' : Hp), e = .ref ea ∧ s'.os = s.os ∧ AllBare s'.gens ∧ Un (frs outer) [] H H' s.heap s'.heap ∧ HOk P w H' s'.heap ∧
    Heap.FlyingW B outer ea C a0 s'.heap ∧ (∀ b, H' b ≠ none → ∃ o, B.get? b = some o) ∧ (∀ b o, s.heap.get? b = some o → b ∉ frs outer → ∃ o', B.get? b = some o') ∧ E C none H'
structure Body (X : Cx) (E : XK) : Prop where
  ex : X.ex = []
  stk : X.stack = X.env :: X.outer
  fr : X.env.frame = some X.env.locals
  xe : ∀ e s', wpAny (model X.prog X.w) X.A (leaving X.env e) (fun _ s'' => CXx X.prog X.w X.outer X.H₀ X.s₀ E e s'') (fun e' s'' => CXx X.prog X.w X.outer X.H₀ X.s₀ E e' s'') s' → X.xe e s'
section
variable {X : Cx} {E : XK} {pins : List (Addr × Obj)} {σ : St} {H : Hp} {s : Shared}
theorem Body.frs (b : Body X E) : frs X.stack = X.env.locals :: X.fs := by
  show L2.frs X.stack = _
  unfold L2.frs
  rw [b.stk, List.filterMap_cons, b.fr]
  rfl
theorem Body.old (b : Body X E) (I : Inv X pins σ H s) {c : Addr} {o : Obj} (q : X.s₀.heap.get? c = some o) (n : c ∉ X.fs) : c ∉ L2.frs X.stack := by
  rw [b.frs]
  intro m
  rcases List.mem_cons.mp m with z | z
  · exact absurd (Nat.lt_of_lt_of_le (Heap.lt_size q) I.ok.above) (by rw [z]; exact Nat.lt_irrefl _)
  · exact n z
theorem Body.out {H' : Hp} {s' : Shared} {h2 B : Heap} {ea : Addr} {C a0 : Value} (b : Body X E) (I : Inv X pins σ H' s')
    (fl : Heap.FlyingW B X.outer ea C a0 h2) (us : ∀ c ∈ L2.frs X.stack, ∀ o, s'.heap.get? c = some o → (∀ vs, o.data ≠ .fields vs) → ∃ sl, h2.get? c = some { o with slots := sl })
    (kB : ∀ c o, s'.heap.get? c = some o → (∃ o', B.get? c = some o') → h2.get? c = some o)
    (trk : ∀ c, H' c ≠ none → ∃ o, B.get? c = some o) (old : ∀ c o, X.s₀.heap.get? c = some o → c ∉ L2.frs X.stack → ∃ o', B.get? c = some o') (h : E C none H') :
    CXx X.prog X.w X.outer X.H₀ X.s₀ E (.ref ea) { s' with heap := h2 } := by
  have noex : ∀ c : Addr, c ∉ X.ex := fun c z => by rw [b.ex] at z; exact absurd z (by simp)
  refine ⟨ea, C, B, a0, H', rfl, I.os, I.bare, ⟨fun c o q n hc _ => ?_, fun c o q n hc _ => ?_, fun c o q n _ => I.base.free c o q n (noex c), fun c o q _ => ?_, I.base.tups, I.base.frzs, I.base.tbls⟩,
    I.hok.keptT fun c u n q => kB c u q (trk c n), fl, trk, fun c o q n => old c o q (b.old I q n), h⟩
  · exact kB c o (I.base.keep c o q n hc (noex c)) (old c o q (b.old I q hc))
  · obtain ⟨sl, e1⟩ := I.base.slot c o q n hc (noex c)
    obtain ⟨_, o', ho', nf⟩ := I.funs.mem hc
    rw [e1] at ho'
    have ho' := Option.some.inj ho'
    obtain ⟨sl', e2⟩ := us c (by rw [b.frs]; exact List.mem_cons_of_mem _ hc) _ e1 (by rw [ho']; exact nf)
    exact ⟨sl', e2⟩
  · obtain ⟨o', e1⟩ := I.base.there c o q (noex c)
    by_cases hm : c ∈ L2.frs X.stack
    · obtain ⟨_, o2, ho2, nf⟩ := I.stack.mem hm
      rw [e1] at ho2
      have ho2 := Option.some.inj ho2
      obtain ⟨sl', e2⟩ := us c hm _ e1 (by rw [ho2]; exact nf)
      exact ⟨_, e2⟩
    · exact ⟨o', kB c o' e1 (old c o q hm)⟩
theorem Body.raised {e : Addr} {C : Value} {args : List Value} {h' : Heap} (b : Body X E) (I : Inv X pins σ H s) (hx : Heap.MadeExcOf s.heap h' e C args) (h : E C none H) : X.xe (.ref e) { s with heap := h' } := by
  refine b.xe _ _ ?_
  have hF := PySem.W.funFrames_hide (as := L2.frs X.stack) I.stack fun env he a ha => List.mem_filterMap.mpr ⟨env, he, ha⟩
  rw [b.stk] at hF
  have kB : ∀ c o, s.heap.get? c = some o → c ∉ L2.frs X.stack → (PySem.W.hideAll s.heap (L2.frs X.stack)).get? c = some o := fun c o q n => PySem.W.hideAll_get _ q n
  refine wpAny_leaves_madeW (h := s.heap) (I.ok.frames.trans (congrArg some b.stk)) b.fr (fun c o q => PySem.W.of_hideAll (L2.frs X.stack) q) (by rw [b.stk]; exact hF) hx fun h2 t fl _ _ us => ?_
  refine b.out (s' := s) I fl (fun c _ o q nf => us c o (hx.keeps c o q) nf) (fun c o q z => ?_) (fun c n => ?_) (fun c o q n => ?_) h
  · obtain ⟨o', z⟩ := z
    have e1 := PySem.W.of_hideAll (L2.frs X.stack) z
    rw [q] at e1
    cases e1
    exact fl.1 c o z
  · cases q : H c with
    | none => exact absurd q n
    | some u =>
      obtain ⟨o, e1⟩ := (I.hok c u q).there
      exact ⟨o, kB c o e1 fun m => n (I.stkFree c m)⟩
  · obtain ⟨o', e1⟩ := I.base.there c o q (by rw [b.ex]; simp)
    exact ⟨o', kB c o' e1 n⟩
theorem Body.pass {E' : XK} (b : Body X E) (hE : ∀ C d H, E' C d H → E C d H) : Passes (CXx X.prog X.w) X E' := by
  intro pins σ H s e s' I h
  obtain ⟨ea, C, B, a0, H', rfl, os, bare, un, hok, fl, trk, old, q⟩ := h
  have I' : Inv X pins σ H' s' := I.call' (ch := []) os un hok bare (fun b z => absurd z (by simp))
  refine b.xe _ _ ?_
  rw [b.stk] at fl
  refine wpAny_leaves_onW (I.ok.frames.trans (congrArg some b.stk)) b.fr fl fun h2 fl2 us => ?_
  refine b.out I' fl2 (fun c _ o q nf => us c o q nf) (fun c o q z => ?_) trk (fun c o q n => ?_) (hE _ _ _ q)
  · obtain ⟨o', z⟩ := z
    have e1 := fl.1 c o' z
    rw [q] at e1
    cases e1
    exact fl2.1 c o z
  · obtain ⟨o', e1⟩ := I.base.there c o q (by rw [b.ex]; simp)
    exact old c o' e1 n
theorem Body.pass_ (b : Body X E) : Passes (CXx X.prog X.w) X E := b.pass fun _ _ _ h => h
end
theorem pass0x {X : Cx} {P : Program} {w : World} : Passes (CXx P w) X E0 := fun _ _ _ _ _ _ _ h => by
  obtain ⟨_, _, _, _, _, _, _, _, _, _, _, _, _, q⟩ := h
  exact q.elim
section
variable {P : Program} {w : World} {K : PySem.W.Frag} {mg : Str → Option Value} {base : Heap}
theorem body_of {N : List Str} {qual : Str} {scope : Scope} {f : Addr} {cd : Value} {A : Around} {outer : List Env} {s : Shared} {H : Hp} {E : XK} :
    Body (cxOf (CXx P w) P w K mg base N qual scope f cd A outer s H E) E := ⟨rfl, rfl, rfl, fun _ _ h => h⟩
theorem Fun.okX {x qual : Str} {st : Stmt} {f : Addr} {fd : FuncData} {N ps : List Str} {k : Nat} {sp : Sp} (F : Fun K x qual st f fd) (S : FnScope N ps (defScope st)) (len : ∀ vs H Q E, sp vs H Q E → vs.length = ps.length)
    (hbody : ∀ (X : Cx) (cdv : Value) (A : Around) (outer : List Env) (s : Shared) (H : Hp) (vs : List V) (Q : VK) (E : XK), X = cxOf (CXx P w) P w K mg base N qual (defScope st) f cdv A outer s H E → Body X E → Room k X.A → sp vs H Q E →
      ∃ t, PSs X (defBody st) t ∧ t { nx := fun _ H' => Q .non H', rt := Q } (start N vs) H) : FnOk P w K mg base (CXx P w) (k + 1) f fd ps sp := by
  obtain ⟨oc, od, kV, doc, pm, an, cdv, ct, osl, rfl, lk, hcd⟩ := F.ex
  exact fn_of lk hcd S len fun A outer s H vs Q E hr hsp => hbody _ cdv A outer s H vs Q E rfl body_of hr hsp
theorem Fun.okN {x qual : Str} {st : Stmt} {f : Addr} {fd : FuncData} {N ps : List Str} {k : Nat} {sp : Sp} (F : Fun K x qual st f fd) (S : FnScope N ps (defScope st)) (len : ∀ vs H Q E, sp vs H Q E → vs.length = ps.length)
    (hbody : ∀ (cdv : Value) (A : Around) (outer : List Env) (s : Shared) (H : Hp) (vs : List V) (Q : VK) (E : XK), Room k (A.deeper (envOfC qual (defScope st) s.heap.objs.size f cdv)) → sp vs H Q E →
      ∃ t, PSs (cxOf (CXx P w) P w K mg base N qual (defScope st) f cdv A outer s H E).nox (defBody st) t ∧ t { nx := fun _ H' => Q .non H', rt := Q } (start N vs) H) : FnOk P w K mg base (CXx P w) (k + 1) f fd ps sp := by
  obtain ⟨oc, od, kV, doc, pm, an, cdv, ct, osl, rfl, lk, hcd⟩ := F.ex
  refine fn_of lk hcd S len fun A outer s H vs Q E hr hsp => ?_
  obtain ⟨t, h, q⟩ := hbody cdv A outer s H vs Q E hr hsp
  exact ⟨t, h.nox, q⟩
end
end L2
namespace L2
open PySem PySem.Spec PyProof.Rows
set_option genInjectivity false in
set_option genSizeOf false in
structure ExcD where
  (bm : List Value) (N : Addr) (nm qn : Str) (bs : List Value) (hdct : Bool) (sn : List Str) (sub : List Value) (ab : Bool) (col : Option Bool) (dd : Option Addr) (k0 k1 k2 k3 k5 : Option Value)
def bmB : List Value := [.type "ValueError", .type "Exception", .type "BaseException", .type "object"]
structure Exc (K : PySem.W.Frag) (C : Addr) : Prop where
  is : ∃ e : ExcD, K.lookup C = some (excClassObj e.nm e.qn C e.N e.bs e.bm e.hdct e.sn e.sub e.ab e.col e.dd e.k0 e.k1 e.k2 e.k3 e.k5 "ValueError.__new__") ∧ PySem.W.tailIn K bmB e.bm = true ∧ PySem.W.nsOkIn K e.N = true ∧ PySem.W.nsIn K e.N "__init__" = some none
theorem exc_obj {K : PySem.W.Frag} {h : Heap} {C : Addr} (X : K.In h) (q : Exc K C) :
    ∃ e : ExcD, ∃ mN, h.get? C = some (excClassObj e.nm e.qn C e.N e.bs e.bm e.hdct e.sn e.sub e.ab e.col e.dd e.k0 e.k1 e.k2 e.k3 e.k5 "ValueError.__new__") ∧ h.Ns e.N mN ∧ mN "__init__" = none ∧ OwnTail h bmB e.bm := by
  obtain ⟨e, hl, z4, z5, z6⟩ := q.is
  exact ⟨e, h.nsMap e.N, X _ _ hl, .of_isNs (PySem.W.isNs_of_in X z5), PySem.W.nsMap_none_of_in X z5 z6, PySem.W.tail_of_in X z4⟩
def tRaise (C : Addr) (E : XK) (t : TA) : TS := fun _ σ H => t σ H fun vs H1 => vs.length ≤ sizeLine ∧ E (.ref C) none H1
theorem ps_raise {X : Cx} {E : XK} {x : Str} {np cpos pos : Pos} {e₀ : Expr} {es : List Expr} {t : TA} {C : Addr} (b : Body X E) (hc : X.calm = true) (hg : Gl X x) (hm : X.mg x = some (.ref C)) (hx : Exc X.K C) (ha : PA X (e₀ :: es) t)
    (hdb : (x == ("__debug__" : Str)) = false := by decide) (he : starEach (e₀ :: es) X.env = (false, eval e₀ X.env) :: starEach es X.env := by rfl) (hpl : (backTo cpos (starEach es X.env)).any (·.1) = false := by rfl) :
    PS X (.Raise (some (.Call (.Name x np) (e₀ :: es) [] cpos)) none pos) (tRaise C E t) := by
  intro pins s σ H D I h
  obtain ⟨⟨bm, N, nm, qn, bs, hdct, sn, sub, ab, col, dd, k0, k1, k2, k3, k5⟩, mN, hC, hN, hni, T⟩ := exc_obj I.ok.mod.kin hx
  have hA := ha cpos pins s σ H _ I h
  have hp : (backTo cpos (starEach (e₀ :: es) X.env)).any (·.1) = false := by
    rw [he]
    exact hpl
  refine wpAny_Raise_call_subT (C := C) (nm := nm) (q := qn) (N := N) (bs := bs) (bm := bm) (hdct := hdct) (sn := sn) (sub := sub) (ab := ab) (col := col) (dd := dd) (k0 := k0) (k1 := k1) (k2 := k2) (k3 := k3) (k5 := k5)
    PySem.F.excBase_ValueError (mN := mN) (T.hasType PySem.F.excBase_ValueError.hasBase) (I.ok.hd hc) hp hni (ld_glob I hg hm ⟨rfl, ?_⟩ hdb)
  rw [he] at hA ⊢
  refine Calls.evalArgs_plain (thn hA fun us s2 zx28 => ?_)
  obtain ⟨vs, H1, I1, r, z, q⟩ := zx28
  exact ⟨rfl, by rw [← r.length]; exact z, I1.bk _ _ hC, hN.keeps I1.bk, T.keeps I1.bk, fun h' e hx => b.raised I1 hx q⟩
structure Aloft (X : Cx) (pins : List (Addr × Obj)) (H : Hp) (B : Heap) : Prop where
  trk : ∀ b, H b ≠ none → ∃ o, B.get? b = some o
  pin : ∀ p ∈ X.pn ++ pins, ∃ o, B.get? p.1 = some o
  old : ∀ b o, X.s₀.heap.get? b = some o → b ∉ L2.frs X.stack → ∃ o', B.get? b = some o'
theorem Inv.upto {X : Cx} {E : XK} {pins : List (Addr × Obj)} {σ : St} {H : Hp} {s : Shared} {B h2 : Heap} {t' : Nat} (b : Body X E) (I : Inv X pins σ H s) (al : Aloft X pins H B) (st : B.StaysIn s.heap) (st2 : B.StaysIn h2) (us : s.heap.UpToSlots h2) :
    Inv X pins σ H { s with heap := h2, toks := t' } := by
  have noex : ∀ c : Addr, c ∉ X.ex := fun c z => by rw [b.ex] at z; exact absurd z (by simp)
  have kB : ∀ c o, s.heap.get? c = some o → (∃ o', B.get? c = some o') → h2.get? c = some o := fun c o q zz2 => by
    obtain ⟨o', z⟩ := zz2
    have e1 := st c o' z
    rw [q] at e1
    cases e1
    exact st2 c o z
  have cl : ∀ c v, s.heap.IsCell c v → h2.IsCell c v := fun c v zz3 => by
    obtain ⟨o, ho, hd⟩ := zz3
    obtain ⟨sl, e⟩ := us c o ho fun vs z => by rw [hd] at z; cases z
    exact ⟨_, e, hd⟩
  refine ⟨I.ok, I.os, I.bare, ⟨fun c o q n hc hx => ?_, fun c o q n hc hx => ?_, I.base.free, fun c o q hx => ?_, I.base.tups, I.base.frzs, I.base.tbls⟩, ?_, fun x c e => ?_, I.free, I.freeC, fun p hp => ?_, I.hok.keptT fun c u n q => kB c u q (al.trk c n), I.len⟩
  · exact kB c o (I.base.keep c o q n hc hx) (al.old c o q (b.old I q hc))
  · obtain ⟨sl, e1⟩ := I.base.slot c o q n hc hx
    obtain ⟨_, o', ho', nf⟩ := I.funs.mem hc
    rw [e1] at ho'
    have ho' := Option.some.inj ho'
    obtain ⟨sl', e2⟩ := us c _ e1 (by rw [ho']; exact nf)
    exact ⟨sl', e2⟩
  · obtain ⟨o', e1⟩ := I.base.there c o q hx
    by_cases hm : c ∈ L2.frs X.stack
    · obtain ⟨_, o2, ho2, nf⟩ := I.stack.mem hm
      rw [e1] at ho2
      have ho2 := Option.some.inj ho2
      obtain ⟨sl', e2⟩ := us c _ e1 (by rw [ho2]; exact nf)
      exact ⟨_, e2⟩
    · exact ⟨o', kB c o' e1 (al.old c o q hm)⟩
  · obtain ⟨m, hn, hl⟩ := I.loc
    refine ⟨m, us.ns hn, fun i x v e1 e2 e3 => ?_⟩
    obtain ⟨u, r, l⟩ := hl i x v e1 e2 e3
    refine ⟨u, r, ?_⟩
    rcases l with l | ⟨k, c, e, z⟩
    · exact .inl l
    · exact .inr ⟨k, c, e, cl c _ z⟩
  · obtain ⟨v, z⟩ := I.cell x c e
    exact ⟨v, cl c v z⟩
  · obtain ⟨e, n, ne, nf, d⟩ := I.pin p hp
    exact ⟨kB p.1 p.2 e (al.pin p hp), n, ne, nf, d⟩
def tryCx (X : Cx) (pins : List (Addr × Obj)) (EB : XK) : Cx :=
  { X with pn := X.pn ++ pins, xe := fun e s' => ∃ (ea : Addr) (C : Value) (B : Heap) (a0 : Value) (H' : Hp) (σ' : St), e = .ref ea ∧ Inv X pins σ' H' s' ∧ Heap.FlyingW B X.stack ea C a0 s'.heap ∧ Aloft X pins H' B ∧ EB C none H' }
def markCx (X : Cx) (e : Value) : Cx := { X with A := X.A.mark (some e), calm := false, xe := fun _ _ => False }
section
variable {X : Cx} {E EB : XK} {pins ps : List (Addr × Obj)} {σ : St} {H : Hp} {s : Shared} {e : Value}
theorem tryOk (ok : X.Ok) : (tryCx X pins EB).Ok :=
  ⟨ok.mod, ok.kind, ok.glob, ok.blt, ok.above, ok.inj, ok.has, ok.cab, ok.hd, ok.frames, ok.stk, ok.exf, ok.bs, ok.bsz, ok.noex, ok.exfs, ok.funs, ok.frf⟩
theorem tryOk' (ok : (tryCx X pins EB).Ok) : X.Ok :=
  ⟨ok.mod, ok.kind, ok.glob, ok.blt, ok.above, ok.inj, ok.has, ok.cab, ok.hd, ok.frames, ok.stk, ok.exf, ok.bs, ok.bsz, ok.noex, ok.exfs, ok.funs, ok.frf⟩
theorem tryIn (I : Inv X pins σ H s) : Inv (tryCx X pins EB) [] σ H s := ⟨tryOk I.ok, I.os, I.bare, I.base, I.loc, I.cell, I.free, I.freeC, fun p hp => I.pin p (by
  rw [List.append_nil] at hp
  exact hp), I.hok, I.len⟩
theorem tryBack (I : Inv (tryCx X pins EB) ps σ H s) : Inv X pins σ H s := ⟨tryOk' I.ok, I.os, I.bare, I.base, I.loc, I.cell, I.free, I.freeC, fun p hp => I.pin p (List.mem_append_left _ hp), I.hok, I.len⟩
theorem trySP {D : Ends} {f : Flow} (h : SP (tryCx X pins EB) ps D f s) : SP X pins D f s := by
  cases f with
  | next => obtain ⟨σ', H', I, q⟩ := h; exact ⟨σ', H', tryBack I, q⟩
  | brk => obtain ⟨σ', H', I, q⟩ := h; exact ⟨σ', H', tryBack I, q⟩
  | cont => obtain ⟨σ', H', I, q⟩ := h; exact ⟨σ', H', tryBack I, q⟩
  | ret u => obtain ⟨v, σ', H', I, r, q⟩ := h; exact ⟨v, σ', H', tryBack I, r, q⟩
theorem try_pass {E' : XK} (b : Body X E) (hE : ∀ C d H, E' C d H → EB C d H) : Passes (CXx X.prog X.w) (tryCx X pins EB) E' := by
  intro ps σ H s e s' I h
  obtain ⟨ea, C, B, a0, H', rfl, os, bare, un, hok, fl, trk, old, q⟩ := h
  have I' : Inv (tryCx X pins EB) ps σ H' s' := I.call' (ch := []) os un hok bare (fun b z => absurd z (by simp))
  refine ⟨ea, C, B, a0, H', σ, rfl, tryBack I', fl, ⟨trk, fun p hp => ?_, fun c o z n => ?_⟩, hE _ _ _ q⟩
  · obtain ⟨e1, _, ne, nf, _⟩ := (tryBack I).pin p hp
    refine old p.1 p.2 e1 fun m => ?_
    have m' : p.1 ∈ L2.frs X.stack := m
    rw [b.frs] at m'
    rcases List.mem_cons.mp m' with y | y
    · exact ne y
    · exact nf y
  · obtain ⟨o', e1⟩ := (tryBack I).base.there c o z (by rw [b.ex]; simp)
    exact old c o' e1 n
theorem markOk (ok : X.Ok) : (markCx X e).Ok :=
  ⟨ok.mod, ok.kind, ok.glob, ok.blt, ok.above, ok.inj, ok.has, ok.cab, (fun z => nomatch z), ok.frames, ok.stk, ok.exf, ok.bs, ok.bsz, ok.noex, ok.exfs, ok.funs, ok.frf⟩
theorem markIn (I : Inv X pins σ H s) : Inv (markCx X e) pins σ H s := ⟨markOk I.ok, I.os, I.bare, I.base, I.loc, I.cell, I.free, I.freeC, I.pin, I.hok, I.len⟩
theorem markBack (ok : X.Ok) (I : Inv (markCx X e) pins σ H s) : Inv X pins σ H s := ⟨ok, I.os, I.bare, I.base, I.loc, I.cell, I.free, I.freeC, I.pin, I.hok, I.len⟩
theorem Inv.blank (I : Inv X pins σ H s) : Inv X pins (List.replicate X.N.length none) H s :=
  I.weak (by rw [List.length_replicate]; exact I.len.symm) fun i v e => by
    rw [List.getElem?_replicate] at e
    split at e <;> cases e
end
def ExcO (ea : Addr) (C : Value) : HO := .ext fun h => ∃ o ws, h.get? ea = some o ∧ o.cls = C ∧ o.data = .fields ws
section
variable {X : Cx} {E : XK} {pins : List (Addr × Obj)} {σ : St} {H : Hp} {s : Shared}
theorem HOk.adopt {P : Program} {w : World} {H : Hp} {h : Heap} {a : Addr} {o : HO} (x : HOk P w H h) (hn : H a = none) (new : ObjOk P w (upd H a o) h a o) : HOk P w (upd H a o) h := fun b u e => by
  by_cases hb : b = a
  · subst hb
    rw [upd_same] at e
    cases e
    exact new
  · rw [upd_ne hb] at e
    exact (x b u e).stay (fun _ _ _ q => q) (fun c q => by rw [upd_ne (ne_of_none q hn)]; exact q) fun c xs q => by rw [upd_ne (ne_of_none q hn)]; exact q
theorem Inv.adopt {B : Heap} {ea : Addr} {C a0 : Value} (b : Body X E) (I : Inv X pins σ H s) (al : Aloft X pins H B) (fl : Heap.FlyingW B X.stack ea C a0 s.heap) : Inv X pins σ (upd H ea (ExcO ea C)) s := by
  obtain ⟨oe, ws, he, hcl, hd, _⟩ := fl.first
  have nB : B.get? ea = none := fl.2.1
  have inB : ∀ c, (∃ o, B.get? c = some o) → c ≠ ea := fun c ⟨o, z⟩ y => by rw [y, nB] at z; cases z
  have hn : H ea = none := by
    cases q : H ea with
    | none => rfl
    | some u => exact absurd rfl (inB ea (al.trk ea (by rw [q]; exact fun y => nomatch y)))
  have nfr : ∀ c ∈ L2.frs X.stack, c ≠ ea := fun c m z => by
    obtain ⟨_, o2, ho2, nf⟩ := I.stack.mem m
    rw [z, he] at ho2
    have ho2 := Option.some.inj ho2
    rw [← ho2] at nf
    exact nf ws hd
  have nL : X.env.locals ≠ ea := nfr _ (by rw [b.frs]; exact List.mem_cons_self)
  refine ⟨I.ok, I.os, I.bare, ⟨I.base.keep, I.base.slot, fun c o q n hx => ?_, I.base.there, fun c xs q => ?_, fun c o u q => ?_, fun c qs q => ?_⟩, I.loc, I.cell, ?_, fun x c e => ?_, fun p hp => ?_, I.hok.adopt hn ?_, I.len⟩
  · have ne : c ≠ ea := by
      by_cases m : c ∈ L2.frs X.stack
      · exact nfr c m
      · exact inB c (al.old c o q m)
    rw [upd_ne ne]
    exact I.base.free c o q n hx
  · have z := I.base.tups c xs q
    rw [upd_ne (ne_of_none z hn)]
    exact z
  · have z := I.base.frzs c o u q
    rw [upd_ne (ne_of_none z hn)]
    exact z
  · obtain ⟨more, z⟩ := I.base.tbls c qs q
    exact ⟨more, by rw [upd_ne (ne_of_none z hn)]; exact z⟩
  · rw [upd_ne nL]
    exact I.free
  · have ne : c ≠ ea := fun z => by
      obtain ⟨v, o, ho, hdc⟩ := I.cell x c e
      rw [z, he] at ho
      have ho := Option.some.inj ho
      rw [← ho, hd] at hdc
      cases hdc
    rw [upd_ne ne]
    exact I.freeC x c e
  · obtain ⟨e, n, ne, nf, d⟩ := I.pin p hp
    refine ⟨e, ?_, ne, nf, d⟩
    rw [upd_ne (inB p.1 (al.pin p hp))]
    exact n
  · refine ⟨⟨oe, ws, he, hcl, hd⟩, ⟨oe, he⟩, fun h1 h2 ⟨o, ws, e1, r⟩ k => ⟨o, ws, k o e1, r⟩⟩
end
end L2
namespace L2
open PySem PySem.Spec PyProof.Rows
theorem comp_loop {prog : Program} {w : World} {A : Around} {R : Result → Shared → Prop} {s : Shared} {elt target iter : Expr} {ifs : List Expr} {scope : Scope} {pos : Pos} {it acc : Value} {env : Env} (I : Nat → Shared → Prop)
    (turn : ∀ n s, I n s → wpAny (model prog w) A (pyNext it) (fun r s₁ => match r with
      | none => R (.ok .next) s₁
      | some v => wpAny (model prog w) A (letOwnedTupleGo target it v) (fun _ s₂ => wpAny (model prog w) A (assign target env v) (fun _ s₃ =>
          wpAny (model prog w) A (forIn ifs true fun c r => if r = true then do let ok ← isTrue c env (eval c env); pure (ForInStep.yield ok) else pure (ForInStep.yield r)) (fun ok s₄ =>
            if ok = true then wpAny (model prog w) A (eval elt env) (fun x s₅ => wpAny (model prog w) A (call (.builtin "list.append") [acc, x]) (fun _ s₆ => ∃ m, m < n ∧ I m s₆) (fun _ _ => False) s₅) (fun _ _ => False) s₄
            else ∃ m, m < n ∧ I m s₄) (fun _ _ => False) s₃) (fun _ _ => False) s₂) (fun _ _ => False) s₁) (fun _ _ => False) s)
    (n : Nat) (h : I n s) : codeAny (model prog w) A (.compLoop (.ListComp elt [⟨target, iter, ifs, 0⟩] scope pos) 0 it acc env) R s := by
  refine codeAny_loop rfl I (fun n s hI => ?_) n h
  show wpAny _ A ((compTurn (.ListComp elt [⟨target, iter, ifs, 0⟩] scope pos) 0 it acc env).onRaise (fun x => do noteFrame x env; theTreesLotGoes x)) _ _ s
  refine wpAny_noted (wpAny_noRaise ?_)
  rw [compTurn_list]
  refine wpAny_bind (wpAny_standAt (wpAny_bind (thn (turn n s hI) fun r s₁ h₁ => ?_)))
  cases r with
  | none => exact wpAny_pure h₁
  | some v =>
    refine wpAny_bind (thn h₁ fun _ s₂ h₂ => wpAny_bind (thn h₂ fun _ s₃ h₃ => wpAny_bind (thn h₃ fun ok s₄ h₄ => ?_)))
    cases ok with
    | false => exact wpAny_pure ⟨rfl, h₄⟩
    | true => exact wpAny_bind (wpAny_bind (thn h₄ fun x s₅ h₅ => wpAny_bind (thn h₅ fun _ s₆ h₆ => wpAny_pure (wpAny_pure ⟨rfl, h₆⟩))))
def PIfs (X : Cx) (ifs : List Expr) (t : TT) : Prop :=
  ∀ (pins : List (Addr × Obj)) (s : Shared) (σ : St) (H : Hp) (Q : Bool → Hp → Prop), Inv X pins σ H s → t σ H Q →
    wpAny (model X.prog X.w) X.A (forIn ifs true fun c r => if r = true then do let ok ← isTrue c X.env (eval c X.env); pure (ForInStep.yield ok) else pure (ForInStep.yield r)) (TP X pins σ Q) X.xe s
def tYes : TT := fun _ H Q => Q true H
theorem pifs_nil {X : Cx} : PIfs X [] tYes := fun pins s σ H Q I h => wpAny_tests_nil ⟨H, I, h⟩
def compCx (X : Cx) (scope : Scope) (cl : List (Str × Addr)) (Nc : List Str) (C : Addr) (fp : List Addr) (pins : List (Addr × Obj)) (s3 : Shared) (H3 : Hp) : Cx :=
  { X with N := Nc, s₀ := s3, H₀ := H3, env := compEnvC scope cl C X.env, outer := X.stack, ex := fp, fn := fun x => !(cl.lookup x).isSome, pn := X.pn ++ pins, xe := fun _ _ => False }
structure CompOk (X : Cx) (scope : Scope) (cl : List (Str × Addr)) (x : Str) (fn : List Str) (fv : List Nat) : Prop where
  kind : scope.kind = .function
  ncell : ∀ y ∈ scope.names, y.2 ≠ .cell
  names : ∀ y ∈ scope.names, y.2 = .local → scope.names.lookup y.1 = some .local
  tgt : scope.names.lookup x = some .local
  clos : closureFor scope X.env = pure cl
  cells : ∀ y c, cl.lookup y = some c → X.env.cells.lookup y = some c
  free : ∀ y, ((relabel scope X.env).names.lookup y = some .cell ∨ (relabel scope X.env).names.lookup y = some .free) → ∃ c, cl.lookup y = some c
  slots : ∀ (j : Nat) (y : Str), fn[j]? = some y → ∃ k, fv[j]? = some k ∧ X.N[k]? = some y ∧ Vis X.env.scope y ∧ X.env.kindOf y = some .cell ∧ (relabel scope X.env).names.lookup y = some .cell
  nd : (x :: fn).Nodup
  len : fv.length = fn.length
def CompG (J : It) (fv : List (Option V)) (tt : TT) (te : TE) (Q : VK) (H1 : Hp) (D : Addr) : Prop := ∃ W : Nat → Nat → Hp → Prop, (∃ m, W 0 m (upd H1 D (.lst []))) ∧ ∀ i m H, W i m H →
  (J.stop i H ∧ Q (.ref D) H) ∨ (J.go i H ∧ ∃ N : Hp → Prop, (∀ H', N H' → ∃ m', m' < m ∧ W (i + 1) m' H') ∧ ∀ x H', J.yld i H x H' →
    tt (some x :: fv) H' fun ok H2 => if ok = true then te (some x :: fv) H2 fun y H3 => ∃ ys, H3 D = some (.lst ys) ∧ ys.length < sizeLine ∧ N (upd H3 D (.lst (ys ++ [y]))) else N H2)
def tComp (wi : TI) (fv : List Nat) (tt : TT) (te : TE) : TE := fun σ H Q => wi σ H fun J H1 => ∀ D, H1 D = none → CompG J (fv.map fun j => (σ[j]?).join) tt te Q H1 D
section
variable {X : Cx} {elt iter : Expr} {x : Str} {px pos : Pos} {ifs : List Expr} {scope : Scope} {cl : List (Str × Addr)} {fn : List Str} {fv : List Nat} {wi : TI} {tt : TT} {te : TE} {pins : List (Addr × Obj)} {σ : St} {H : Hp} {s : Shared}
theorem compIn {s3 s4 : Shared} {H3 : Hp} {C : Addr} {fp : List Addr} {m : Str → Option Value} (S : CompOk X scope cl x fn fv) (I3 : Inv X pins σ H3 s3) (hC : C = s3.heap.objs.size) (hfp : ∀ b ∈ fp, FpOk X pins H3 b ∧ b < s3.heap.objs.size)
    (h4 : s4.os = s3.os ∧ s4.gens = s3.gens) (hns : s4.heap.Ns C m) (old : ∀ b o, s3.heap.get? b = some o → s4.heap.get? b = some o) :
    Inv (compCx X scope cl (x :: fn) C fp pins s3 H3) [] (none :: fv.map fun j => (σ[j]?).join) H3 s4 := by
  have hCf : H3 C = none := by rw [hC]; exact I3.hok.fresh (Nat.le_refl _)
  have ltC : ∀ b o, s3.heap.get? b = some o → b ≠ C := fun b o e => by rw [hC]; exact Nat.ne_of_lt (Heap.lt_size e)
  refine ⟨⟨I3.ok.mod, ?_, I3.ok.glob, I3.ok.blt, Nat.le_of_eq hC.symm, fun y z c h1 h2 => I3.ok.inj y z c (S.cells y c h1) (S.cells z c h2), fun y hy => S.free y hy, fun y c h1 h2 => ?_, I3.ok.hd, I3.ok.frames, .inl rfl, fun b hb => ?_, I3.bs, Nat.le_trans I3.ok.bsz I3.sz, fun b o e hb => ?_, fun b hb => ?_, I3.stack, I3.stkFree⟩,
    h4.1, by rw [h4.2]; exact I3.bare, Un.kept old, ⟨m, hns, fun i y v e1 e2 e3 => ?_⟩, fun y c e => ?_, hCf, fun y c e => I3.freeC y c (S.cells y c e), fun p hp => ?_, I3.hok.kept old, ?_⟩
  · show (relabel scope X.env).kind = .function
    exact S.kind
  · have z : (!(cl.lookup y).isSome) = true := h1
    have e : cl.lookup y = some c := h2
    rw [e] at z
    cases z
  · obtain ⟨⟨_, _, _, _, f4, _⟩, lt⟩ := hfp b hb
    exact ⟨by show b ≠ C; rw [hC]; exact Nat.ne_of_lt lt, fun y c e => f4 y c (S.cells y c e)⟩
  · obtain ⟨⟨_, _, _, f3, _⟩, _⟩ := hfp b hb
    rcases f3 with z | z
    · exact I3.ok.noex b o e z
    · exact absurd (Nat.lt_of_lt_of_le (Heap.lt_size (I3.ok.bs b o e).1) z) (Nat.lt_irrefl _)
  · obtain ⟨⟨_, f1, f2, _⟩, _⟩ := hfp b hb
    intro mm
    rcases List.mem_cons.mp (I3.stkSub b mm) with z | z
    · exact f1 z
    · exact f2 z
  · cases i with
    | zero =>
      have e2 : some (none : Option V) = some (some v) := e2
      cases Option.some.inj e2
    | succ j =>
      have e1 : fn[j]? = some y := e1
      have e2 : (fv.map fun j => (σ[j]?).join)[j]? = some (some v) := e2
      obtain ⟨k, f1, f2, f3, f4, f5⟩ := S.slots j y e1
      rw [List.getElem?_map, f1] at e2
      have e2 : (σ[k]?).join = some v := Option.some.inj e2
      have e2 : σ[k]? = some (some v) := by
        cases q : σ[k]? with
        | none => rw [q] at e2; cases e2
        | some o => rw [q] at e2; have e2 : o = some v := e2; rw [e2]
      obtain ⟨m3, hn3, hl3⟩ := I3.loc
      obtain ⟨u, ru, l⟩ := hl3 k y v f2 e2 f3
      refine ⟨u, ru, .inr ⟨.inl f5, ?_⟩⟩
      rcases l with ⟨kk, _⟩ | ⟨_, c, hc, z⟩
      · rw [f4] at kk
        cases kk
      · obtain ⟨c', e'⟩ := S.free y (.inl f5)
        have e'' := S.cells y c' e'
        rw [hc] at e''
        cases e''
        obtain ⟨o, ho, hd⟩ := z
        exact ⟨c, e', o, old c o ho, hd⟩
  · obtain ⟨v, o, ho, hd⟩ := I3.cell y c (S.cells y c e)
    exact ⟨v, o, old c o ho, hd⟩
  · rw [List.append_nil] at hp
    obtain ⟨e, n, ne, nf, d⟩ := I3.pin p hp
    refine ⟨old _ _ e, n, ltC _ _ e, fun mm => ?_, d⟩
    rcases List.mem_cons.mp (I3.stkSub p.1 mm) with z | z
    · exact ne z
    · exact nf z
  · show (fv.map fun j => (σ[j]?).join).length + 1 = fn.length + 1
    rw [List.length_map, S.len]
theorem lookup_relabel_tgt (S : CompOk X scope cl x fn fv) : (relabel scope X.env).names.lookup x = some .local := lookup_relabel_local S.tgt
theorem comp_core {Q0 : VK} {RR : Value → Addr → Result → Shared → Prop} (hc : X.calm = true) (hi : PI X (.Name x px) iter wi) (S : CompOk X scope cl x fn fv)
    (ht : ∀ C fp ps s3 H3, PIfs (compCx X scope cl (x :: fn) C fp ps s3 H3) ifs tt) (he : ∀ C fp ps s3 H3, PE (compCx X scope cl (x :: fn) C fp ps s3 H3) elt te)
    (I : Inv X pins σ H s) (h : tComp wi fv tt te σ H Q0)
    (fin : ∀ (D C : Addr) (H' : Hp) (s' : Shared) (m : Str → Option Value), s'.heap.Ns C m → FpOk X pins H' C → Inv X pins σ H' s' → Q0 (.ref D) H' → RR (.ref D) C (.ok .next) s') :
    wpAny (model X.prog X.w) X.A (eval iter X.env) (fun xv s₁ => wpAny (model X.prog X.w) X.A (pyIter xv) (fun it s₂ => wpAny (model X.prog X.w) X.A (newList []) (fun acc s₃ =>
      wpAny (model X.prog X.w) X.A (newFunctionEnv scope X.env.globals cl [] X.env.qual none .none (some X.env)) (fun cenv s₄ =>
        codeAny (model X.prog X.w) X.A (.compStart (.ListComp elt [⟨.Name x px, iter, ifs, 0⟩] scope pos) 0 it acc { cenv with scope := relabel scope X.env }) (RR acc cenv.locals) s₄) X.xe s₃) X.xe s₂) X.xe s₁) X.xe s := by
  refine thn (hi pins s σ H _ I h) fun xv s1 h1 => thn h1 fun itv s2 h2 => ?_
  obtain ⟨it, fp, tn, J, H2, e, I2, T, st2, f2, q⟩ := h2
  subst e
  have hD : H2 s2.heap.objs.size = none := I2.hok.fresh (Nat.le_refl _)
  obtain ⟨W, ⟨m0, w0⟩, turnW⟩ := q _ hD
  refine wpAny_newObj_type (wpAny_newFunctionEnv S.ncell (by intro y hy; simp at hy) (fun h₁ hns₁ hsb₁ => ?_) S.kind)
  have I3 : Inv X pins σ (upd H2 s2.heap.objs.size (.lst [])) { s2 with heap := s2.heap.push { cls := .type "list", data := .seq ([] : List Value).toArray }, toks := s2.toks } := I2.lnew (its := []) .nil (Nat.zero_le _)
  have obj2 : ∀ b ∈ fp, ∃ o, s2.heap.get? b = some o := fun b hb => let ⟨o, e, _⟩ := T.obj 0 _ st2 b hb; ⟨o, e⟩
  have ltf : ∀ b ∈ fp, b < s2.heap.objs.size := fun b hb => let ⟨o, e⟩ := obj2 b hb; Heap.lt_size e
  have size3 : (s2.heap.push { cls := .type "list", data := .seq ([] : List Value).toArray }).objs.size = s2.heap.objs.size + 1 := Heap.size_push _ _
  have hfp3 : ∀ b ∈ fp, FpOk X pins (upd H2 s2.heap.objs.size (.lst [])) b ∧ b < (s2.heap.push { cls := .type "list", data := .seq ([] : List Value).toArray }).objs.size := fun b hb =>
    ⟨⟨by rw [upd_ne (Nat.ne_of_lt (ltf b hb))]; exact (f2 b hb).1, (f2 b hb).2⟩, by rw [size3]; exact Nat.lt_succ_of_lt (ltf b hb)⟩
  have old : ∀ b o, (s2.heap.push { cls := .type "list", data := .seq ([] : List Value).toArray }).get? b = some o → h₁.get? b = some o := fun b o e =>
    (hsb₁.2 b (Nat.ne_of_lt (Heap.lt_size e))).trans (Heap.get?_push_of_some _ e)
  have I4 := compIn (s4 := { s2 with heap := h₁, toks := s2.toks + ([] : List (Str × Value)).length }) (fp := fp) S I3 rfl hfp3 ⟨rfl, rfl⟩ hns₁ old
  have st4 : tn 0 h₁ := T.keep 0 _ _ st2 fun b hb o e => old b o (Heap.get?_push_of_some _ e)
  have stat : ∀ {ps : List (Addr × Obj)} {H' : Hp}, ps = [] → (∀ b ∈ fp, H' b = none) → ∀ b ∈ fp, FpOk (compCx X scope cl (x :: fn) (s2.heap.push { cls := .type "list", data := .seq ([] : List Value).toArray }).objs.size fp pins
      { s2 with heap := s2.heap.push { cls := .type "list", data := .seq ([] : List Value).toArray }, toks := s2.toks } (upd H2 s2.heap.objs.size (.lst []))) ps H' b := fun {ps H'} e hn b hb => by
    subst e
    obtain ⟨⟨_, f1, f2', f3, f4, f5⟩, lt⟩ := hfp3 b hb
    refine ⟨hn b hb, Nat.ne_of_lt lt, fun mm => ?_, .inl hb, fun y c e => f4 y c (S.cells y c e), fun p hp => ?_⟩
    · rcases List.mem_cons.mp (I3.stkSub b mm) with z | z
      · exact f1 z
      · exact f2' z
    · rw [List.append_nil] at hp
      exact f5 p hp
  have loop : codeAny (model X.prog X.w) X.A (.compLoop (.ListComp elt [⟨.Name x px, iter, ifs, 0⟩] scope pos) 0 (.ref it) (.ref s2.heap.objs.size)
      (compEnvC scope cl (s2.heap.push { cls := .type "list", data := .seq ([] : List Value).toArray }).objs.size X.env)) (RR (.ref s2.heap.objs.size) (s2.heap.push { cls := .type "list", data := .seq ([] : List Value).toArray }).objs.size)
      { s2 with heap := h₁, toks := s2.toks + ([] : List (Str × Value)).length } := by
    refine comp_loop (fun n s' => ∃ i t H', Inv (compCx X scope cl (x :: fn) (s2.heap.push { cls := .type "list", data := .seq ([] : List Value).toArray }).objs.size fp pins
      { s2 with heap := s2.heap.push { cls := .type "list", data := .seq ([] : List Value).toArray }, toks := s2.toks } (upd H2 s2.heap.objs.size (.lst []))) [] (t :: fv.map fun j => (σ[j]?).join) H' s' ∧ tn i s'.heap ∧ (∀ b ∈ fp, H' b = none) ∧ W i n H') ?_ m0
      ⟨0, none, _, I4, st4, fun b hb => (hfp3 b hb).1.1, w0⟩
    rintro n s' ⟨i, t, H', I', st', fr', w'⟩
    rcases turnW i n H' w' with ⟨stop, qn⟩ | ⟨go, N, hN, step⟩
    · refine thn (T.done (compCx X scope cl (x :: fn) (s2.heap.push { cls := .type "list", data := .seq ([] : List Value).toArray }).objs.size fp pins
          { s2 with heap := s2.heap.push { cls := .type "list", data := .seq ([] : List Value).toArray }, toks := s2.toks } (upd H2 s2.heap.objs.size (.lst []))) rfl rfl rfl hc i [] s' _ H' _ I' (stat rfl fr') st' stop) fun r s5 ⟨hr, I5⟩ => ?_
      subst hr
      obtain ⟨m5, hn5, _⟩ := id I5.loc
      have J5 : Inv X pins σ H' s5 := I3.call' (ch := fp) I5.os I5.base I5.hok I5.bare fun b hb => let ⟨⟨_, f1, _, f3, f4, f5⟩, _⟩ := hfp3 b hb; ⟨f3, f1, f4, f5⟩
      exact fin _ _ H' s5 m5 hn5 (I3.fpOk (Nat.le_refl _) I5.free) J5 qn
    · refine thn (T.item (compCx X scope cl (x :: fn) (s2.heap.push { cls := .type "list", data := .seq ([] : List Value).toArray }).objs.size fp pins
          { s2 with heap := s2.heap.push { cls := .type "list", data := .seq ([] : List Value).toArray }, toks := s2.toks } (upd H2 s2.heap.objs.size (.lst []))) rfl rfl rfl hc i [] s' _ H' _ I' (stat rfl fr') st' go) fun r s5 ⟨u, hr, h5⟩ => ?_
      subst hr
      refine thn h5 fun _ s6 zx29 => ?_
      obtain ⟨y, H6, I6, r6, y6, st6, fr6⟩ := zx29
      have I6' := I6.pinned (stat rfl fr6) (T.obj _ _ st6)
      have again : ∀ {s7 : Shared} {H7 : Hp} {t7 : Option V}, Inv (compCx X scope cl (x :: fn) (s2.heap.push { cls := .type "list", data := .seq ([] : List Value).toArray }).objs.size fp pins
          { s2 with heap := s2.heap.push { cls := .type "list", data := .seq ([] : List Value).toArray }, toks := s2.toks } (upd H2 s2.heap.objs.size (.lst []))) ([] ++ pinsAt fp s6.heap) (t7 :: fv.map fun j => (σ[j]?).join) H7 s7 → N H7 →
          ∃ m, m < n ∧ ∃ i t H', Inv (compCx X scope cl (x :: fn) (s2.heap.push { cls := .type "list", data := .seq ([] : List Value).toArray }).objs.size fp pins
            { s2 with heap := s2.heap.push { cls := .type "list", data := .seq ([] : List Value).toArray }, toks := s2.toks } (upd H2 s2.heap.objs.size (.lst []))) [] (t :: fv.map fun j => (σ[j]?).join) H' s7 ∧ tn i s7.heap ∧ (∀ b ∈ fp, H' b = none) ∧ W i m H' := fun {s7 H7 t7} I7 n7 => by
        obtain ⟨m', hm, w7⟩ := hN H7 n7
        refine ⟨m', hm, i + 1, t7, H7, I7.unpinned, T.keep _ _ _ st6 fun b hb o e => (I7.pin (b, o) (List.mem_append_right _ (List.mem_append_right _ (mem_pinsAt hb e)))).1, fun b hb => ?_, w7⟩
        obtain ⟨o, e, _⟩ := T.obj _ _ st6 b hb
        exact (I7.pin (b, o) (List.mem_append_right _ (List.mem_append_right _ (mem_pinsAt hb e)))).2.1
      refine wpAny_assign_Name (store_ok (i := 0) I6' S.nd rfl (.inl (lookup_relabel_tgt S)) r6 (fun s7 I7 => ?_) (.inr (lookup_relabel_tgt S)))
      refine thn (ht _ _ _ _ _ _ s7 _ H6 _ I7 (step y H6 y6)) fun ok s8 zx30 => ?_
      obtain ⟨H8, I8, q8⟩ := zx30
      cases ok with
      | false =>
        rw [if_neg Bool.false_ne_true] at q8 ⊢
        exact again I8 q8
      | true =>
        rw [if_pos rfl] at q8 ⊢
        refine thn (he _ _ _ _ _ _ s8 _ H8 _ I8 q8) fun z s9 zx31 => ?_
        obtain ⟨yv, H9, I9, r9, ys, hDl, hz, q9⟩ := zx31
        refine thn (mt_append _ s9 _ H9 (.ref s2.heap.objs.size) [yv] (.ref s2.heap.objs.size) [z] (fun _ H10 => N H10) I9 rfl (.cons r9 .nil) ⟨_, ys, yv, rfl, rfl, hDl, hz, q9⟩) fun _ s10 zx32 => ?_
        obtain ⟨v10, H10, I10, _, q10⟩ := zx32
        exact again I10 q10
  exact codeAny_compStart_list loop (T.self _ 0 _ _ _ st4 loop)
theorem pe_comp (hc : X.calm = true) (hi : PI X (.Name x px) iter wi) (S : CompOk X scope cl x fn fv)
    (ht : ∀ C fp ps s3 H3, PIfs (compCx X scope cl (x :: fn) C fp ps s3 H3) ifs tt) (he : ∀ C fp ps s3 H3, PE (compCx X scope cl (x :: fn) C fp ps s3 H3) elt te)
    (hs : ∀ y, foldedSetIterable iter X.env y = pure y := by exact fun _ => rfl) : PE X (.ListComp elt [⟨.Name x px, iter, ifs, 0⟩] scope pos) (tComp wi fv tt te) := by
  intro pins s σ H Q I h
  rw [eval_ListComp]
  refine wpAny_comprehension_free (use := none) rfl hs S.clos S.kind S.names ?_
  refine comp_core (RR := fun acc C => compPost (model X.prog X.w) X.A X.xe none (EP X pins σ Q) acc C) hc hi S ht he I h fun D C H' s' m hns fo J q => ?_
  obtain ⟨f0, f1, _, f3, f4, f5⟩ := fo
  exact ⟨m, hns, fun h' hs' => ⟨.ref D, H', J.turned (t' := s'.toks) (fun b o hb e => (hs'.2 b hb).trans e) f0 f1 f3 f4 f5, rfl, q⟩⟩
end
end L2
namespace L2
open PySem PySem.Spec PyProof.Rows
theorem countP_eqU {x : V} {xs : List V} {us : List Value} (h : Vals xs us) (f : xs.all flatV = true) : us.countP (eqU x) = xs.countP fun y => eqV y x := by
  induction h with
  | nil => rfl
  | cons r t ih =>
    rw [List.all_cons, Bool.and_eq_true] at f
    rw [List.countP_cons, List.countP_cons, eqU_of r f.1, ih f.2]
theorem Vals.getE {xs : List V} {us : List Value} (r : Vals xs us) {m : Nat} (hm : m < us.length) : ∃ y, xs[m]? = some y ∧ RelV y us[m] := by
  have hl := r.length
  cases e : xs[m]? with
  | none => exact absurd (List.getElem?_eq_none_iff.mp e) (by omega)
  | some y =>
    obtain ⟨u, hu, ru⟩ := r.get e
    rw [List.getElem?_eq_getElem hm] at hu
    cases hu
    exact ⟨y, rfl, ru⟩
section
variable {X : Cx}
theorem Inv.lobj {pins : List (Addr × Obj)} {σ : St} {H : Hp} {s : Shared} {a : Addr} {xs : List V} (I : Inv X pins σ H s) (h : SqL X.K H a xs) :
    ∃ (its : List Value) (n : Nat) (sl : Array (Option Value)), Vals xs its ∧ s.heap.get? a = some { cls := .type "list", dict := none, data := .seq its.toArray n, slots := sl } ∧ xs.length ≤ sizeLine := by
  obtain ⟨its, r, ⟨o, n, e, c, d, q⟩, hz⟩ := I.list h
  obtain ⟨oc, od, dt, sl⟩ := o
  have c : oc = _ := c
  have d : od = none := d
  have q : dt = _ := q
  subst c d q
  exact ⟨its, n, sl, r, e, hz⟩
def rCount (K : PySem.W.Frag) : V → List V → Hp → VK → Prop := fun x vs H Q => ∃ l xs y, x = .ref l ∧ vs = [y] ∧ SqL K H l xs ∧ flatV y = true ∧ xs.all flatV = true ∧ Q (.int ((xs.countP fun z => eqV z y : Nat) : Int)) H
theorem mt_count : MtR X "list.count" (rCount X.K) := by
  intro pins s σ H x vs v us Q I rx rv h
  obtain ⟨l, xs, y, rfl, rfl, hq, fy, fx, q⟩ := h
  cases rx
  obtain ⟨u, rfl, ru⟩ := rv.one
  obtain ⟨its, n, sl, r, e, hz⟩ := I.lobj hq
  refine call_meets F.slot_list_count ⟨_, e, rfl⟩ F.entry_list_count (F.args_list_count_2 _ _) (SeqAt.list_countAt l its.toArray n none sl u (eqU y)) ⟨e, fun w hw => mem_eqAt ru fy r fx w (by simpa using hw), ?_⟩
  refine ⟨.int _, H, I.tok _, ⟨s.toks, ?_⟩, q⟩
  rw [show its.toArray.toList = its by simp, countP_eqU r fx]
def kitPure (T U : String) : Option Bool := if (Value.type T == Value.type U) = true then some true else if PySem.W.kitMeta U = true then (fastBuiltinMro T).map (·.contains (.type U)) else none
theorem kit_pure {K : PySem.W.Frag} {T U : String} {b : Bool} (h : kitPure T U = some b) : PySem.W.kitOne K (.type T) (.type U) = some b := h
def clsV : V → Option Value
  | .ty T => some (.type T)
  | .ref D => some (.ref D)
  | _ => none
theorem clsV_rel {c : V} {u cv : Value} (r : RelV c u) (h : clsV c = some cv) : u = cv := by
  cases c with
  | ty T => cases (show u = Value.type T from r); exact Option.some.inj h
  | ref D => cases (show u = Value.ref D from r); exact Option.some.inj h
  | _ => cases h
theorem call_isinst : CallR X (.builtin "isinstance") (fun xs H Q => ∃ x c t cv b, xs = [x, c] ∧ TyOf X.K H x t ∧ clsV c = some cv ∧ PySem.W.kitOne X.K t cv = some b ∧ Q (.bl b) H) := by
  intro pins s σ H xs us Q I r h
  obtain ⟨x, c, t, cv, b, rfl, ty, hc, hk, q⟩ := h
  obtain ⟨u, w', rfl, rx, rc⟩ := vals2 r
  cases clsV_rel rc hc
  exact isinst_ok I rx ty hk fun tk => ⟨.bl b, H, I.tok tk, rfl, q⟩
end
end L2
namespace L2
open PySem PySem.Spec PyProof.Rows
def EqV (X : Cx) (A : Around) (H : Hp) (x y : V) (b : Bool) : Prop := ∀ (pins : List (Addr × Obj)) (σ : St) (s : Shared) (u v : Value), Inv X pins σ H s → RelV x u → RelV y v → SeqAt.EqAt A s u v b
theorem EqV.flat {X : Cx} {A : Around} {H : Hp} {x y : V} (fx : flatV x = true) (fy : flatV y = true) : EqV X A H x y (eqV x y) := fun _ _ _ _ _ _ rx ry => eqAt_V rx ry fx fy
section
variable {X : Cx} {A : Around} {H : Hp} {a b : Addr} {xs ys : List V} {e : Nat → Bool}
theorem RcV.lst {pins : List (Addr × Obj)} {σ : St} {s : Shared} (I : Inv X pins σ H s) (hu : A.units < cLine) (ha : SqL X.K H a xs) (hb : SqL X.K H b ys) (he : xs.length = ys.length → ∀ (j : Nat) x y, xs[j]? = some x → ys[j]? = some y → EqV X A.in1 H x y (e j)) :
    SeqAt.RcAt A s (.ref a) (.ref b) (xs.length == ys.length && (List.range xs.length).all e) := by
  obtain ⟨its, r1, p1, _⟩ := I.list ha
  obtain ⟨its2, r2, p2, _⟩ := I.list hb
  have l1 := r1.length
  have l2 := r2.length
  by_cases hl : xs.length = ys.length
  · have z := SeqAt.RcAt.lists (e := e) p1.isList p2.isList (by rw [List.size_toArray, List.size_toArray]; omega) hu fun j h1 h2 => by
      have m1 : j < its.length := by simpa using h1
      have m2 : j < its2.length := by simpa using h2
      obtain ⟨x, hx, rx⟩ := r1.getE m1
      obtain ⟨y, hy, ry⟩ := r2.getE m2
      rw [show its.toArray[j] = its[j] by simp, show its2.toArray[j] = its2[j] by simp]
      exact he hl j x y hx hy pins σ s _ _ I rx ry
    rw [List.size_toArray, ← l1] at z
    rw [show (xs.length == ys.length) = true by simp [hl], Bool.true_and]
    exact z
  · rw [show (xs.length == ys.length) = false by simp [hl], Bool.false_and]
    exact SeqAt.RcAt.lists_lengths p1.isList p2.isList (by rw [List.size_toArray, List.size_toArray, ← l1, ← l2]; simp [hl]) hu
def rEqL (X : Cx) (neg : Bool) : R2 := fun x y H Q => ∃ a b xs ys e, x = .ref a ∧ y = .ref b ∧ SqL X.K H a xs ∧ SqL X.K H b ys ∧ (xs.length = ys.length → ∀ (j : Nat) x y, xs[j]? = some x → ys[j]? = some y → EqV X X.A.in1 H x y (e j)) ∧
  Q (.bl (if neg then !(xs.length == ys.length && (List.range xs.length).all e) else (xs.length == ys.length && (List.range xs.length).all e))) H
theorem op_eq_list (hu : X.A.units < cLine) : OpR X (compareOp .Eq) (rEqL X false) := by
  intro pins s σ H x y v u Q I rx ry h
  obtain ⟨a, b, xs, ys, e, rfl, rfl, ha, hb, he, q⟩ := h
  cases rx
  cases ry
  exact RcV.lst I hu ha hb he X.prog X.w X.xe _ ⟨.bl _, H, I, rfl, q⟩
end
def eqVs (xs ys : List V) : Bool := xs.length == ys.length && (List.range xs.length).all fun j => eqV (xs.getD j .non) (ys.getD j .non)
theorem getD_of {xs : List V} {j : Nat} {x : V} (h : xs[j]? = some x) : xs.getD j .non = x := by
  rw [List.getD_eq_getElem?_getD, h]
  rfl
theorem flat_items {X : Cx} {A : Around} {H : Hp} {xs ys : List V} (fx : xs.all flatV = true) (fy : ys.all flatV = true) (j : Nat) (x y : V) (hx : xs[j]? = some x) (hy : ys[j]? = some y) : EqV X A H x y (eqV (xs.getD j .non) (ys.getD j .non)) := by
  rw [getD_of hx, getD_of hy]
  exact EqV.flat (List.all_eq_true.mp fx _ (List.mem_of_getElem? hx)) (List.all_eq_true.mp fy _ (List.mem_of_getElem? hy))
theorem eqVs_ints (ns ms : List Int) : eqVs (ns.map V.int) (ms.map V.int) = decide (ns = ms) := by
  unfold eqVs
  rw [List.length_map, List.length_map, Bool.eq_iff_iff, Bool.and_eq_true, decide_eq_true_iff, beq_iff_eq, List.all_eq_true]
  constructor
  · rintro ⟨hl, h⟩
    refine List.ext_getElem hl fun j h1 h2 => ?_
    have z := h j (List.mem_range.mpr h1)
    rw [getD_of (x := V.int ns[j]) (by simp [h1]), getD_of (x := V.int ms[j]) (by simp [h2])] at z
    exact eq_of_beq z
  · rintro rfl
    refine ⟨rfl, fun j hj => ?_⟩
    have h1 := List.mem_range.mp hj
    rw [getD_of (x := V.int ns[j]) (by simp [h1])]
    exact beq_self_eq_true _
def srt (ns : List Int) : List Int := ns.mergeSort fun a b => decide (a ≤ b)
theorem srt_perm (ns : List Int) : (srt ns).Perm ns := List.mergeSort_perm _ _
theorem srt_rising (ns : List Int) : (srt ns).Pairwise (· ≤ ·) := by
  have h := List.pairwise_mergeSort (le := fun a b : Int => decide (a ≤ b)) (fun a b c h1 h2 => by simp at *; omega) (fun a b => by simp; omega) ns
  exact h.imp fun h => by simpa using h
theorem srt_of {ns ms : List Int} (hp : ms.Perm ns) (hs : ms.Pairwise (· ≤ ·)) : ms = srt ns := PySem.W.ksm_same (hp.trans (srt_perm ns).symm) hs (srt_rising ns)
theorem srt_length (ns : List Int) : (srt ns).length = ns.length := (srt_perm ns).length_eq
section
variable {X : Cx}
theorem call_sortedL : CallR X (.builtin "sorted") (fun xs H Q => ∃ p ns, xs = [.ref p] ∧ SqL X.K H p (ns.map V.int) ∧ ns.length < 64 ∧ ∀ l, H l = none → Q (.ref l) (upd H l (.lst ((srt ns).map V.int)))) := by
  intro pins s σ H xs us Q I r h
  obtain ⟨p, ns, rfl, hq, h64, q⟩ := h
  obtain ⟨u, rfl, ru⟩ := vals1 r
  cases ru
  obtain ⟨its, rv, pl, hz⟩ := I.list hq
  have hl := rv.length
  rw [List.length_map] at hl
  refine sorted_ints pl.isList (intsAre_of rv) (by omega) fun out ns' a1 a2 a3 => ?_
  obtain ⟨e, he⟩ := sortedAll_at s.heap its out
  have es := srt_of a2 a3
  subst es
  have hn : H (s.heap.objs.size + 1) = none := I.hok.fresh (Nat.le_succ _)
  refine ⟨.ref (s.heap.objs.size + 1), _, I.laid (t' := s.toks) (fun b o z => sortedAll_old z) (Nat.le_succ _) ?_, rfl, q _ hn⟩
  refine ⟨by rw [List.length_map, srt_length]; have := sizeLine_eq; omega, out.toList, e, vals_ints a1, ?_⟩
  exact he.trans (by simp [seqObj])
end
end L2
namespace L2
open PySem PySem.Spec PyProof.Rows
section
variable {X : Cx} {pins : List (Addr × Obj)} {σ : St} {H : Hp} {s : Shared} {h' : Heap}
end
section
variable {X : Cx}
end
end L2
namespace L2
open PySem PySem.Spec PyProof.Rows
def AllFree (cl : List (Str × Addr)) : List (Str × NameKind) → Prop
  | [] => True
  | p :: r => (p.2 = .free → ∃ c, cl.lookup p.1 = some c) ∧ AllFree cl r
theorem AllFree.get {cl : List (Str × Addr)} : ∀ {l : List (Str × NameKind)}, AllFree cl l → ∀ p ∈ l, p.2 = .free → ∃ c, cl.lookup p.1 = some c
  | [], _, _, h, _ => nomatch h
  | p :: r, ⟨h1, h2⟩, q, hq, e => by
    rcases List.mem_cons.mp hq with z | z
    · rw [z] at e ⊢; exact h1 e
    · exact AllFree.get h2 q z e
theorem relabel_free {scope : Scope} {env : Env} {cl : List (Str × Addr)} (hc : ∀ y ∈ scope.names, y.2 ≠ .cell) (h : AllFree cl scope.names) (y : Str)
    (q : (relabel scope env).names.lookup y = some .cell ∨ (relabel scope env).names.lookup y = some .free) : ∃ c, cl.lookup y = some c := by
  have go : ∀ k, (k = NameKind.cell ∨ k = .free) → (relabel scope env).names.lookup y = some k → ∃ c, cl.lookup y = some c := fun k hk e => by
    have m := PySem.mem_of_lookup e
    obtain ⟨⟨n, k'⟩, hm, he⟩ := List.mem_map.mp m
    dsimp only at he
    split at he
    · rename_i z
      cases he
      rw [Bool.and_eq_true, Bool.and_eq_true] at z
      exact h.get (y, k') hm (beq_iff_eq.mp z.1.1)
    · cases he
      rcases hk with z | z
      · exact absurd z (hc _ hm)
      · exact h.get _ hm z
  rcases q with q | q
  · exact go _ (.inl rfl) q
  · exact go _ (.inr rfl) q
theorem comp0 {X : Cx} {scope : Scope} {x : Str} (kind : scope.kind = .function) (ncell : ∀ y ∈ scope.names, y.2 ≠ .cell) (names : ∀ y ∈ scope.names, y.2 = .local → scope.names.lookup y.1 = some .local) (tgt : scope.names.lookup x = some .local)
    (clos : closureFor scope X.env = pure []) (free : AllFree [] scope.names) : CompOk X scope [] x [] [] :=
  ⟨kind, ncell, names, tgt, clos, (fun _ _ h => nomatch h), relabel_free ncell free, (fun j y h => by simp at h), by simp, rfl⟩
theorem comp1 {X : Cx} {scope : Scope} {x y : Str} {c : Addr} {k : Nat} (kind : scope.kind = .function) (ncell : ∀ y ∈ scope.names, y.2 ≠ .cell) (names : ∀ y ∈ scope.names, y.2 = .local → scope.names.lookup y.1 = some .local) (tgt : scope.names.lookup x = some .local)
    (clos : closureFor scope X.env = pure [(y, c)]) (cell : X.env.cells.lookup y = some c) (free : AllFree [(y, c)] scope.names) (hN : X.N[k]? = some y) (hv : Vis X.env.scope y) (hk : X.env.kindOf y = some .cell)
    (hr : (relabel scope X.env).names.lookup y = some .cell) (hne : ¬ x = y) : CompOk X scope [(y, c)] x [y] [k] := by
  refine ⟨kind, ncell, names, tgt, clos, fun z d h => ?_, relabel_free ncell free, fun j z h => ?_, by simp [hne], rfl⟩
  · rw [List.lookup_cons] at h
    split at h
    · rename_i e
      rw [beq_iff_eq.mp e]
      cases h
      exact cell
    · cases h
  · cases j with
    | zero =>
      cases (show some y = some z from h)
      exact ⟨k, rfl, hN, hv, hk, hr⟩
    | succ j => simp at h
theorem yes {σ : St} {H : Hp} {Q : Bool → Hp → Prop} (h : Q true H) : tYes σ H Q := h
theorem comp_range {lo : Int} {n : Nat} {fv : List (Option V)} {tt : TT} {te : TE} {Q : VK} {H : Hp} {D : Addr} (Pv : Nat → Hp → Prop) (h0 : Pv 0 (upd H D (.lst [])))
    (hs : ∀ i H, i < n → Pv i H → tt (some (.int (lo + i)) :: fv) H fun ok H2 => if ok = true then te (some (.int (lo + i)) :: fv) H2 fun y H3 => ∃ ys, H3 D = some (.lst ys) ∧ ys.length < sizeLine ∧ Pv (i + 1) (upd H3 D (.lst (ys ++ [y]))) else Pv (i + 1) H2)
    (hd : ∀ H, Pv n H → Q (.ref D) H) : CompG (Itr lo n) fv tt te Q H D := by
  refine ⟨fun i m H => m = n - i ∧ i ≤ n ∧ Pv i H, ⟨n, by simp, Nat.zero_le _, h0⟩, ?_⟩
  rintro i m H ⟨rfl, hi, p⟩
  by_cases hlt : i < n
  · refine .inr ⟨hlt, Pv (i + 1), fun H' p' => ⟨n - (i + 1), by omega, rfl, hlt, p'⟩, fun x H' y => ?_⟩
    obtain ⟨e, y⟩ := y
    subst e y
    exact hs i _ hlt p
  · have e : i = n := by omega
    subst e
    exact .inl ⟨Nat.le_refl _, hd H p⟩
theorem comp_list {K : PySem.W.Frag} {a : Addr} {xs : List V} {fv : List (Option V)} {tt : TT} {te : TE} {Q : VK} {H : Hp} {D : Addr} (Pv : Nat → Hp → Prop) (h0 : Pv 0 (upd H D (.lst []))) (hl : ∀ i H, i ≤ xs.length → Pv i H → SqL K H a xs)
    (hs : ∀ i x H, xs[i]? = some x → Pv i H → tt (some x :: fv) H fun ok H2 => if ok = true then te (some x :: fv) H2 fun y H3 => ∃ ys, H3 D = some (.lst ys) ∧ ys.length < sizeLine ∧ Pv (i + 1) (upd H3 D (.lst (ys ++ [y]))) else Pv (i + 1) H2)
    (hd : ∀ H, Pv xs.length H → Q (.ref D) H) : CompG (Itl K a) fv tt te Q H D := by
  refine ⟨fun i m H => m = xs.length - i ∧ i ≤ xs.length ∧ Pv i H, ⟨xs.length, by simp, Nat.zero_le _, h0⟩, ?_⟩
  rintro i m H ⟨rfl, hi, p⟩
  have q := hl i H hi p
  by_cases hlt : i < xs.length
  · refine .inr ⟨⟨xs, xs[i], q, by simp [hlt]⟩, Pv (i + 1), fun H' p' => ⟨xs.length - (i + 1), by omega, rfl, hlt, p'⟩, fun x H' y => ?_⟩
    obtain ⟨e, y⟩ := y
    subst e
    exact hs i x _ (y xs q) p
  · have e : i = xs.length := by omega
    subst e
    exact .inl ⟨⟨xs, q, Nat.le_refl _⟩, hd H p⟩
end L2
namespace L2
open PySem PySem.Spec PyProof.Rows
section
variable {X : Cx} {pins : List (Addr × Obj)} {σ : St} {H : Hp} {s : Shared} {h' : Heap}
end
section
variable {X : Cx} {elts : List Expr} {x1 : Nat} {tpos : Pos}
end
end L2
namespace L2
open PySem PySem.Spec PyProof.Rows
structure ExcA (K : PySem.W.Frag) (C : Addr) : Prop where
  ga : PySem.W.findIn K (.ref C) "__getattribute__" = some (some (.builtin "BaseException.__getattribute__"))
  gn : PySem.W.findIn K (.ref C) "__getattr__" = some none
  cl : PySem.W.findIn K (.ref C) "__class__" = some (some (.builtin "object.__class__"))
  sg : PySem.W.specialIn K (.builtin "object.__class__") "__get__" = some (some (.builtin "getset_descriptor.__get__"))
  tk : PySem.W.takesIn K (.builtin "object.__class__") = some true
  mo : PySem.W.mroIn K C (.type "object") = some true
  mb : PySem.W.mroIn K C (.type "BaseException") = some true
section
open PySem.Builtin PySem.Builtin.ObjectAttr PySem.Builtin.Getset_descriptor
variable {prog : Program} {w : World} {A : Around} {E : Value → Shared → Prop} {s : Shared} {K : PySem.W.Frag} {ea C : Addr} {o : Obj}
theorem exc_ty {M : Model} {h : Heap} (he : h.get? ea = some o) (hc : o.cls = .ref C) : PySem.W.Looks M h (typeOf (.ref ea)) (.ref C) := hc ▸ (PySem.W.Looks.ld he).andThen .now
theorem exc_cget {R : Result → Shared → Prop} {tp : Value} (X : K.In s.heap) (he : s.heap.get? ea = some o) (hc : o.cls = .ref C) (mo : PySem.W.mroIn K C (.type "object") = some true) (h : R (.ok (.ret (.ref C))) s) :
    codeAny (model prog w) A (.call (.builtin "getset_descriptor.__get__") ⟨[.builtin "object.__class__", .ref ea, tp], []⟩) R s := by
  obtain ⟨hh, g, dr, t, os⟩ := s
  have T0 := exc_ty (M := model prog w) he hc
  have T1 := PySem.W.looks_mroIn (M := model prog w) X mo
  refine codeAny_call_builtin PySem.W.KF.slot_gs.plain PySem.W.KF.entry_gs (PySem.W.KF.slot_gs.check _ _ _ _ _ _ _ _ PySem.W.KF.type_class (PySem.W.KF.args_gs _ _ _) ?_)
  unfold Builtin.«getset_descriptor.__get__» descrGet; rw [PySem.W.dga_obj]; refine wpAny_bind (wpAny_pure ?_)
  unfold descrGetter descrCheckInstance descrNameAndClass isInstance; simp only [PySem.W.KF.owner_class]; repeat lk
  refine ⟨Code.quiet_builtin _ (by decide +kernel), codeAny_builtin PySem.W.KF.entry_class ?_⟩
  unfold Builtin.«object.__class__» shownTypeOf; repeat lk
  exact h
theorem exc_find {M : Model} {h : Heap} (X : K.In h) (a : ExcA K C) : PySem.W.Looks M h (find (.ref ea) (.ref C) "__class__") (.bind (.builtin "getset_descriptor.__get__") (.builtin "object.__class__")) := by
  have F1 := PySem.W.looks_findIn (M := M) X a.cl
  have F2 := PySem.W.looks_specialIn (M := M) X a.sg
  have F3 := PySem.W.looks_takesIn (M := M) X a.tk
  have F4 : PySem.W.Looks M h (dataDescriptor? (some (.builtin "object.__class__")) (some (.builtin "getset_descriptor.__get__"))) (some (.builtin "getset_descriptor.__get__", .builtin "object.__class__")) := F3.andThen .now
  exact F1.andThen (PySem.W.Looks.andThen (show PySem.W.Looks M h (getOf (some (.builtin "object.__class__"))) _ from F2) (F4.andThen (PySem.W.Looks.tag .now)))
theorem exc_entry {Q : Fin → Shared → Prop} {tk : Tok} (X : K.In s.heap) (he : s.heap.get? ea = some o) (hc : o.cls = .ref C) (a : ExcA K C) (h : Q (.done (.ret (.ref C))) s) :
    wpAny (model prog w) A (Builtin.«object.__getattribute__» ⟨[.ref ea, .str "__class__" tk], []⟩) Q E s := by
  obtain ⟨hh, g, dr, t, os⟩ := s
  have T0 := exc_ty (M := model prog w) he hc
  have T1 := exc_find (M := model prog w) (ea := ea) X a
  unfold Builtin.«object.__getattribute__» slotArgs attrName
  repeat (first | with_reducible refine wpAny_call ?_ | lk)
  refine exc_cget X he hc a.mo ?_
  first | exact wpAny_pure h | (repeat lk; exact h)
theorem exc_check {M : Model} {v : Value} {Q : Unit → Shared → Prop} (X : K.In s.heap) (he : s.heap.get? ea = some o) (hc : o.cls = .ref C) (a : ExcA K C) (h : Q () s) : wpAny M A (checkBuiltinCall "BaseException.__getattribute__" ⟨[.ref ea, v], []⟩) Q E s := by
  obtain ⟨hh, g, dr, t, os⟩ := s
  have T0 := exc_ty (M := M) he hc
  have T1 := PySem.W.looks_mroIn (M := M) X a.mb
  have B1 : builtinKind "BaseException.__getattribute__" = some .slot := (by decide +kernel)
  have B2 : splitId "BaseException.__getattribute__" = some ("BaseException", "__getattribute__") := (by decide +kernel)
  have B3 := F.args_bexc_ga (.ref ea) v
  simp only [checkBuiltinCall, B1, B2]; unfold isInstance
  refine wpAny_bind (wpAny_bind (T0.at (T1.at ?_)))
  rw [if_neg (by decide)]
  unfold argsOk at B3
  have B4 : ∀ r : Sem Unit, r = pure () → wpAny M A r Q E ⟨hh, g, dr, t, os⟩ := fun r e => by rw [e]; exact wpAny_pure h
  refine B4 _ ?_
  revert B3
  cases Manifest.signature? "BaseException.__getattribute__" with
  | none => exact fun _ => rfl
  | some sg => exact fun z => z
theorem exc_class {Q : Option Value → Shared → Prop} (X : K.In s.heap) (he : s.heap.get? ea = some o) (hc : o.cls = .ref C) (a : ExcA K C) (h : Q (some (.ref C)) { s with toks := s.toks + 1 }) :
    wpAny (model prog w) A (getAttr? (.ref ea) "__class__") Q E s := by
  obtain ⟨hh, g, dr, t, os⟩ := s
  have T0 := exc_ty (M := model prog w) he hc
  have T1 := PySem.W.looks_findIn (M := model prog w) X a.ga
  have T2 := PySem.W.looks_findIn (M := model prog w) X a.gn
  have B0 := F.excAttr_ValueError.ga
  unfold getAttr? getAttrBy? getAttrBy
  refine wpAny_bind (wpAny_mkText (wpAny_bind (wpAny_attempt (wpAny_holding (wpAny_bind (T0.at (wpAny_bind (T1.at ?_))))))))
  show wpAny _ _ (getAttrByItsOwn _ _ _ _ _ _) _ _ _
  unfold getAttrByItsOwn hookBefore callGetattribute boundAndCalled
  refine wpAny_bind ?_
  rw [if_pos (show onTheHeap (Value.ref C) = true from rfl)]
  refine T2.at (wpAny_bind (wpAny_attempt (wpAny_holding ?_)))
  rw [if_neg (by decide)]
  refine wpAny_bind ?_
  rw [B0.bind (.ref ea)]
  refine wpAny_pure (wpAny_call (codeAny_call_builtin B0.plain F.entry_bexc_ga (exc_check X he hc a (exc_entry X he hc a ?_))))
  exact PySem.W.handed_on rfl (wpAny_pure h)
theorem exc_kit (a : ExcA K C) : PySem.W.KitX K (.ref ea) (.ref C) (fun h => ∃ o, h.get? ea = some o ∧ o.cls = .ref C) := by
  have cls : ∃ cd, PySem.W.clsIn K C = some cd := by
    have z := a.mo
    unfold PySem.W.mroIn at z
    obtain ⟨cd, q, _⟩ := Option.bind_eq_some_iff.mp z
    exact ⟨cd, q⟩
  obtain ⟨cd, hcd⟩ := cls
  refine ⟨fun M h _ zy6 => (by obtain ⟨o, he, hc⟩ := zy6; exact exc_ty he hc), fun M h X _ => ?_, fun h tp dd its n sl X htp => ?_, fun X ⟨o, he, hc⟩ k => exc_class X he hc a k⟩
  · unfold PySem.W.clsIn at hcd
    split at hcd
    · rename_i ho
      intro A' Q' E' s' k q
      unfold isType loadHead; exact wpAny_bind (wpAny_loadPart (k _ _ (X _ _ ho)) (wpAny_pure q))
    · cases hcd
  · refine Bool.eq_false_iff.mpr fun q => ?_
    have e : C = tp := Value.ref.inj (beq_iff_eq.mp q)
    subst e
    unfold PySem.W.clsIn at hcd
    split at hcd
    · rename_i ho
      have z := (X _ _ ho).symm.trans htp
      cases z
    · cases hcd
end
def rInstX (K : PySem.W.Frag) : List V → Hp → VK → Prop := fun xs H Q => ∃ ea C c cv b, xs = [.ref ea, c] ∧ H ea = some (ExcO ea (.ref C)) ∧ clsV c = some cv ∧ ExcA K C ∧ PySem.W.kitOne K (.ref C) cv = some b ∧ Q (.bl b) H
theorem call_isinstX {X : Cx} : CallR X (.builtin "isinstance") (rInstX X.K) := by
  intro pins s σ H xs us Q I r h
  obtain ⟨ea, C, c, cv, b, rfl, hH, hc, ha, hk, q⟩ := h
  obtain ⟨u, w', rfl, rx, rc⟩ := vals2 r
  cases rx
  cases clsV_rel rc hc
  obtain ⟨⟨o, ws, e1, e2, _⟩, _⟩ := I.hok ea _ hH
  exact PySem.W.kia_one (exc_kit ha) I.kIn ⟨o, e1, e2⟩ hk (fun z => nomatch z) fun tk => ⟨.bl b, H, I.kept (t' := tk) (fun _ _ e => e), rfl, q⟩
end L2
namespace L2
open PySem PySem.Spec PyProof.Rows
section
variable {X : Cx} {E : XK} {pins : List (Addr × Obj)} {σ : St} {H : Hp} {s : Shared}
theorem Inv.goesOne {h' : Heap} {m : Str → Option Value} {v : Option Value} {t' : Nat} {i : Nat} {n : Str} (I : Inv X pins σ H s) (hN : X.N.Nodup) (hi : X.N[i]? = some n) (hm : s.heap.Ns X.env.locals m)
    (hn' : h'.Ns X.env.locals (fun x => if x = n then v else m x)) (hs : Heap.SameBut X.env.locals s.heap h') : Inv X pins (σ.set i none) H { s with heap := h', toks := t' } := by
  have other : ∀ c, c ≠ X.env.locals → ∀ o, s.heap.get? c = some o → h'.get? c = some o := fun c hc o e => (hs.2 c hc).trans e
  have old : ∀ c o, X.s₀.heap.get? c = some o → c ≠ X.env.locals := fun c o e => Nat.ne_of_lt (Nat.lt_of_lt_of_le (Heap.lt_size e) I.ok.above)
  have hiσ : i < σ.length := by rw [I.len]; exact (List.getElem?_eq_some_iff.mp hi).1
  refine ⟨I.ok, I.os, I.bare, ⟨fun c o q n hc hx => other c (old c o q) o (I.base.keep c o q n hc hx), fun c o q n hc hx => ?_, I.base.free, fun c o q hx => ?_, I.base.tups, I.base.frzs, I.base.tbls⟩, ⟨_, hn', fun j y v' e1 e2 e3 => ?_⟩, fun x c e => ?_, I.free, I.freeC,
    fun p hp => ?_, I.hok.keptT fun c u n q => other c (fun z => n (by rw [z]; exact I.free)) u q, by rw [List.length_set]; exact I.len⟩
  · obtain ⟨sl, e1⟩ := I.base.slot c o q n hc hx
    exact ⟨sl, other c (old c o q) _ e1⟩
  · obtain ⟨o', e1⟩ := I.base.there c o q hx
    exact ⟨o', other c (old c o q) _ e1⟩
  · have hj : j ≠ i := fun z => by
      subst z
      rw [List.getElem?_set_self hiσ] at e2
      cases e2
    rw [List.getElem?_set_ne (Ne.symm hj)] at e2
    obtain ⟨m0, hn0, hl⟩ := id I.loc
    have em : m0 = m := by
      obtain ⟨o1, es1, ep1, g1, d1, _, f1⟩ := hn0
      obtain ⟨o2, es2, ep2, g2, d2, _, f2⟩ := hm
      rw [g1] at g2
      cases g2
      rw [d1] at d2
      cases d2
      exact funext fun x => (f1 x).symm.trans (f2 x)
    subst em
    obtain ⟨u', r', q⟩ := hl j y v' e1 e2 e3
    refine ⟨u', r', ?_⟩
    rcases q with ⟨k, e⟩ | ⟨k, c, e, z⟩
    · refine .inl ⟨k, ?_⟩
      have : y ≠ n := fun e => hj (nodup_ix hN e1 (e ▸ hi))
      show (if y = n then v else m0 y) = _
      rw [if_neg this]
      exact e
    · exact .inr ⟨k, c, e, z.sameBut hs (I.cne y c e)⟩
  · obtain ⟨v, z⟩ := I.cell x c e
    exact ⟨v, z.sameBut hs (I.cne x c e)⟩
  · obtain ⟨e, n, ne, nf, d⟩ := I.pin p hp
    exact ⟨other p.1 ne p.2 e, n, ne, nf, d⟩
end
def tTryK (K : PySem.W.Frag) (c : Value) (n i : Nat) (tb : XK → TS) (th : TS) : TS := fun D σ H => tb (fun C _ H' => PySem.W.exmOne K C c = some true ∧ ∀ ea, H' ea = none →
  th { nx := fun σ1 H1 => D.nx (σ1.set i none) H1, rt := D.rt, bk := fun σ1 H1 => D.bk (σ1.set i none) H1, ct := fun σ1 H1 => D.ct (σ1.set i none) H1 } ((List.replicate n none).set i (some (.ref ea))) (upd H' ea (ExcO ea C))) D σ H
theorem ps_tryK {X : Cx} {E : XK} {body suite : List Stmt} {b₀ : Stmt} {x n : Str} {i : Nat} {np hpos pos : Pos} {c : Value} {tb : XK → TS} {th : TS} (b : Body X E) (hN : X.N.Nodup) (hi : X.N[i]? = some n) (hl : X.env.scope.names.lookup n = some .local)
    (hg : Gl X x) (hm : X.mg x = some c) (hb : ∀ pins EB, PSs (tryCx X pins EB) body (tb EB)) (hs : ∀ e, PSs (markCx X e) (b₀ :: suite) th) (hdb : (x == ("__debug__" : Str)) = false := by decide) :
    PS X (.Try body [.ExceptHandler (some (.Name x np)) (some n) (b₀ :: suite) hpos] [] [] pos) (tTryK X.K c X.N.length i tb th) := by
  intro pins s σ H D I h
  refine wpAny_Try_except (wpAny_mono (hb pins _ [] s σ H D (tryIn I) h) (fun f s1 q => ?_) fun e s1 q => ?_)
  · have q := trySP q
    cases f with
    | next => exact wpAny_execs_nil q
    | brk => exact q
    | cont => exact q
    | ret u => exact q
  · obtain ⟨ea, C, B, a0, H', σ', rfl, I1, fl, al, hx, hth⟩ := q
    have hfr : X.A.frames = some (X.env :: X.outer) := I.ok.frames.trans (congrArg some b.stk)
    rw [b.stk] at fl
    refine wpAny_looks_onW hfr b.fr fl fun h4 held4 us4 => wpAny_landsW held4 fun h5 fl5 us5 => ?_
    have I5 : Inv X pins σ' H' { s1 with heap := h5 } := I1.upto (t' := s1.toks) b al fl.1 fl5.1 (us4.trans us5)
    obtain ⟨ob, hob, hoc⟩ := fl5.there
    have LT : PySem.W.Looks (model X.prog X.w) h5 (typeOf (.ref ea)) C := by
      subst hoc
      exact (PySem.W.Looks.ld hob).andThen .now
    refine wpAny_handleBy_cons (codeAny_handlers_test (ld_glob (X := markCx X (.ref ea)) (markIn I5) hg hm ?_ hdb)) (fun z => nomatch z)
    refine (PySem.W.exm_one (M := model X.prog X.w) I5.kIn LT hx).here ?_
    refine codeAny_handlers_suite_as (lands_againW fl5 fun h6 fl6 us6 => ?_)
    have I6 : Inv X pins σ' H' { s1 with heap := h6 } := Inv.upto (s := { s1 with heap := h5 }) (t' := s1.toks) b I5 al fl5.1 fl6.1 us6
    rw [← b.stk] at fl6
    have I7 := (I6.blank).adopt b al fl6
    have hn : H' ea = none := by
      cases q : H' ea with
      | none => rfl
      | some u =>
        obtain ⟨o, z⟩ := al.trk ea (by rw [q]; exact fun y => nomatch y)
        rw [fl6.2.1] at z
        cases z
    refine store_ok (X := markCx X (.ref ea)) (markIn I7) hN hi (.inl hl) (v := .ref ea) rfl (fun s8 I8 => ?_) (.inr hl)
    refine wpAny_mono (hs (.ref ea) pins s8 _ _ _ I8 (hth ea hn)) (fun f s9 q => ?_) fun _ _ z => z.elim
    have go : ∀ {σ9 : St} {H9 : Hp} {R : Flow → Shared → Prop}, Inv (markCx X (.ref ea)) pins σ9 H9 s9 → (∀ s10, Inv X pins (σ9.set i none) H9 s10 → R f s10) →
        wpAny (model X.prog X.w) X.A (do bindName X.env n .none; unbindBehindTheSuite X.env n hpos) (fun _ s10 => R f s10) X.xe s9 := fun {σ9 H9 R} I9 k => by
      have I9 := markBack I.ok I9
      obtain ⟨m, hm9, _⟩ := id I9.loc
      exact wpAny_nameGoes_keeps hl hm9 (by rw [I.ok.kind]; rfl) fun h10 v10 hn10 hs10 => k _ (I9.goesOne hN hi hm9 hn10 hs10)
    cases f with
    | next => obtain ⟨σ9, H9, I9, q⟩ := q; exact go I9 fun s10 I10 => ⟨_, H9, I10, q⟩
    | brk => obtain ⟨σ9, H9, I9, q⟩ := q; exact go I9 fun s10 I10 => ⟨_, H9, I10, q⟩
    | cont => obtain ⟨σ9, H9, I9, q⟩ := q; exact go I9 fun s10 I10 => ⟨_, H9, I10, q⟩
    | ret u => obtain ⟨v, σ9, H9, I9, r, q⟩ := q; exact go I9 fun s10 I10 => ⟨v, _, H9, I10, r, q⟩
end L2
set_option maxHeartbeats 4000000
namespace Ka30
open PySem L2
def top (i : Nat) : Stmt := PySem.Challenge.pw_switchhall_k30_refusals_stand_apart.main.body.getD i (.Pass ⟨0, 0, 0, 0⟩)
abbrev sWhole : Stmt := top 13
abbrev sWithin : Stmt := top 14
abbrev s_dlist : Stmt := top 15
abbrev s_chk : Stmt := top 18
abbrev sCheck : Stmt := top 23
abbrev sFree : Stmt := top 24
abbrev sEnd : Stmt := top 25
abbrev sLoad : Stmt := top 26
abbrev sFull : Stmt := top 27
abbrev sBoth : Stmt := top 29
abbrev s_chs : Stmt := top 35
abbrev s_done : Stmt := top 36
abbrev s_nao : Stmt := top 37
abbrev s_first : Stmt := top 38
abbrev s_lean : Stmt := top 39
abbrev s_mfig : Stmt := top 43
abbrev s_chkx : Stmt := top 44
abbrev s_read : Stmt := top 45
abbrev s_ctab : Stmt := top 51
abbrev s_cell : Stmt := top 53
abbrev s_ptw : Stmt := top 54
abbrev s_deed : Stmt := top 55
abbrev s_kinds : Stmt := top 56
abbrev s_law : Stmt := top 57
abbrev sInit : Stmt := inClass (top 30) 0
abbrev sPut : Stmt := inClass (top 30) 1
abbrev sDrop : Stmt := inClass (top 30) 2
abbrev sLoadIn : Stmt := inClass (top 30) 4
abbrev sLay : Stmt := inClass (top 30) 6
def isB : V → Bool
  | .bl _ => true
  | _ => false
def isI : V → Bool
  | .int _ => true
  | _ => false
def inB (v : V) (lo hi : Int) : Bool := match v with
  | .int i => decide (lo ≤ i) && decide (i ≤ hi)
  | _ => false
theorem ty_int {K : PySem.W.Frag} {H : Hp} {v : V} {T : String} (h : TyOf K H v (.type T)) : kitPure T "int" = some (isI v || isB v) ∧ kitPure T "bool" = some (isB v) := by
  cases h <;> exact ⟨by first | (show kitPure _ _ = some true; decide +kernel) | (show kitPure _ _ = some false; decide +kernel), by first | (show kitPure _ _ = some true; decide +kernel) | (show kitPure _ _ = some false; decide +kernel)⟩
theorem bt_isinstance : bootBuiltins "isinstance" = some (.builtin "isinstance") := by decide +kernel
theorem bt_int : bootBuiltins "int" = some (.type "int") := by decide +kernel
theorem bt_bool : bootBuiltins "bool" = some (.type "bool") := by decide +kernel
theorem bt_sorted : bootBuiltins "sorted" = some (.builtin "sorted") := by decide +kernel
theorem bt_list : bootBuiltins "list" = some (.type "list") := by decide +kernel
set_option genInjectivity false in
set_option genSizeOf false in
structure Ad where
  (whole within dlist chk check free endAt load isFull both chs done nao first lean mfig chkx read ctab cell ptw deed kinds law hall init put drop lin lay btab bord btxt bsor uns sw bad noEnd busy noCall sizes : Addr)
set_option genInjectivity false in
set_option genSizeOf false in
structure Fd where
  (whole within dlist chk check free endAt load isFull both chs done nao first lean mfig chkx read ctab cell ptw deed kinds law init put drop lin lay : FuncData)
def nine (a : Ad) : List Addr := [a.bad, a.noEnd, a.busy, a.noCall, a.btab, a.bord, a.btxt, a.bsor, a.uns]
def Row9 (K : PySem.W.Frag) (a : Ad) (k : Nat) (C : Addr) : Prop := ExcA K C ∧ PySem.W.exmOne K (.ref C) (.ref a.sw) = some true ∧ ∀ (j : Nat) (D : Addr), (nine a)[j]? = some D → PySem.W.kitOne K (.ref C) (.ref D) = some (decide (((j : Nat) : Int) = ((k : Nat) : Int)))
structure Txt (K : PySem.W.Frag) (mg : Str → Option Value) (a : Ad) (d : Fd) : Prop where
  bool_ : mg "bool" = none
  int_ : mg "int" = none
  isi : mg "isinstance" = none
  len : mg "len" = none
  list_ : mg "list" = none
  range : mg "range" = none
  sorted_ : mg "sorted" = none
  str_ : mg "str" = none
  lines : ∃ t, mg "MOST_LINES" = some (.int 16 t)
  places : ∃ t, mg "MOST_PLACES" = some (.int 8 t)
  most : ∃ t, mg "MOST_SORTERS" = some (.int 64 t)
  tends : ∃ t, mg "MOST_ENDS_times" = some (.int 6 t)
  ends : ∃ t, mg "MOST_ENDS_halls" = some (.int 12 t)
  frames : ∃ t, mg "MOST_FRAMES" = some (.int 8 t)
  g_sizes : mg "NET_SIZES" = some (.ref a.sizes)
  sizes : ∀ F, SqT K F a.sizes [.int 2, .int 4, .int 8, .int 16]
  g_whole : mg "is_whole" = some (.ref a.whole)
  g_within : mg "is_whole_within" = some (.ref a.within)
  g_dlist : mg "is_list_within" = some (.ref a.dlist)
  g_chk : mg "checked_order" = some (.ref a.chk)
  g_check : mg "check_sizes" = some (.ref a.check)
  g_free : mg "free_ends" = some (.ref a.free)
  g_endAt : mg "end_at" = some (.ref a.endAt)
  g_load : mg "load_of" = some (.ref a.load)
  g_isFull : mg "is_full" = some (.ref a.isFull)
  g_both : mg "least_free_at_both" = some (.ref a.both)
  g_chs : mg "checked_sorters" = some (.ref a.chs)
  g_done : mg "done" = some (.ref a.done)
  g_nao : mg "noughts_and_ones" = some (.ref a.nao)
  g_first : mg "first_unsorted" = some (.ref a.first)
  g_lean : mg "lean" = some (.ref a.lean)
  g_mfig : mg "many_figures" = some (.ref a.mfig)
  g_chkx : mg "check_text" = some (.ref a.chkx)
  g_read : mg "read" = some (.ref a.read)
  g_ctab : mg "checked_table" = some (.ref a.ctab)
  g_cell : mg "_law_cell" = some (.ref a.cell)
  g_ptw : mg "_law_put_twice" = some (.ref a.ptw)
  g_deed : mg "_law_deed" = some (.ref a.deed)
  g_kinds : mg "_law_kinds_of" = some (.ref a.kinds)
  g_hall : mg "Hall" = some (.ref a.hall)
  g_btab : mg "BadTable" = some (.ref a.btab)
  g_bord : mg "BadOrder" = some (.ref a.bord)
  g_btxt : mg "BadText" = some (.ref a.btxt)
  g_bsor : mg "BadSorters" = some (.ref a.bsor)
  g_uns : mg "Unsound" = some (.ref a.uns)
  g_sw : mg "SwitchError" = some (.ref a.sw)
  g_bad : mg "BadHall" = some (.ref a.bad)
  g_noEnd : mg "NoEnd" = some (.ref a.noEnd)
  g_busy : mg "Busy" = some (.ref a.busy)
  g_noCall : mg "NoCall" = some (.ref a.noCall)
  f_whole : Fun K "is_whole" "is_whole" sWhole a.whole d.whole
  b_whole : Binds K d.whole ["value"] []
  f_within : Fun K "is_whole_within" "is_whole_within" sWithin a.within d.within
  b_within : Binds K d.within ["value", "least", "most"] []
  f_dlist : Fun K "is_list_within" "is_list_within" s_dlist a.dlist d.dlist
  b_dlist : Binds K d.dlist ["value", "least", "most"] []
  f_chk : Fun K "checked_order" "checked_order" s_chk a.chk d.chk
  b_chk : Binds K d.chk ["order"] []
  f_check : Fun K "check_sizes" "check_sizes" sCheck a.check d.check
  b_check : Binds K d.check ["inlets", "outlets", "frames"] []
  f_free : Fun K "free_ends" "free_ends" sFree a.free d.free
  b_free : Binds K d.free ["many", "frames"] []
  f_endAt : Fun K "end_at" "end_at" sEnd a.endAt d.endAt
  b_endAt : Binds K d.endAt ["ends", "place"] []
  f_load : Fun K "load_of" "load_of" sLoad a.load d.load
  b_load : Binds K d.load ["end"] []
  f_isFull : Fun K "is_full" "is_full" sFull a.isFull d.isFull
  b_isFull : Binds K d.isFull ["end"] []
  f_both : Fun K "least_free_at_both" "least_free_at_both" sBoth a.both d.both
  b_both : Binds K d.both ["one", "other"] []
  f_chs : Fun K "checked_sorters" "checked_sorters" s_chs a.chs d.chs
  b_chs : Binds K d.chs ["sorters", "many"] []
  f_done : Fun K "done" "done" s_done a.done d.done
  b_done : Binds K d.done ["sorters", "row"] []
  f_nao : Fun K "noughts_and_ones" "noughts_and_ones" s_nao a.nao d.nao
  b_nao : Binds K d.nao ["many"] []
  f_first : Fun K "first_unsorted" "first_unsorted" s_first a.first d.first
  b_first : Binds K d.first ["sorters", "many"] []
  f_lean : Fun K "lean" "lean" s_lean a.lean d.lean
  b_lean : Binds K d.lean ["sorters", "many"] []
  f_mfig : Fun K "many_figures" "many_figures" s_mfig a.mfig d.mfig
  b_mfig : Binds K d.mfig ["many"] []
  f_chkx : Fun K "check_text" "check_text" s_chkx a.chkx d.chkx
  b_chkx : Binds K d.chkx ["text", "many"] []
  f_read : Fun K "read" "read" s_read a.read d.read
  b_read : Binds K d.read ["text", "many"] []
  f_ctab : Fun K "checked_table" "checked_table" s_ctab a.ctab d.ctab
  b_ctab : Binds K d.ctab ["table"] []
  f_cell : Fun K "_law_cell" "_law_cell" s_cell a.cell d.cell
  b_cell : Binds K d.cell ["_law_script", "_law_k"] []
  f_ptw : Fun K "_law_put_twice" "_law_put_twice" s_ptw a.ptw d.ptw
  b_ptw : Binds K d.ptw ["_law_hall"] []
  f_deed : Fun K "_law_deed" "_law_deed" s_deed a.deed d.deed
  b_deed : Binds K d.deed ["_law_way"] []
  f_kinds : Fun K "_law_kinds_of" "_law_kinds_of" s_kinds a.kinds d.kinds
  b_kinds : Binds K d.kinds ["_law_way"] []
  f_law : Fun K "law" "law" s_law a.law d.law
  b_law : Binds K d.law ["_law_script"] []
  f_init : Fun K "__init__" "Hall.__init__" sInit a.init d.init
  b_init : Binds K d.init ["self", "inlets", "outlets", "frames"] []
  f_put : Fun K "put" "Hall.put" sPut a.put d.put
  b_put : Binds K d.put ["self", "inlet", "outlet"] []
  f_drop : Fun K "drop" "Hall.drop" sDrop a.drop d.drop
  b_drop : Binds K d.drop ["self", "number"] []
  f_lin : Fun K "load_in" "Hall.load_in" sLoadIn a.lin d.lin
  b_lin : Binds K d.lin ["self", "inlet"] []
  f_lay : Fun K "lay" "Hall.lay" sLay a.lay d.lay
  b_lay : Binds K d.lay ["self", "number", "inlet", "outlet", "frame"] []
  cls : Cls K a.hall
  nI : NoAttr K a.hall "inlet_ends"
  nO : NoAttr K a.hall "outlet_ends"
  nS : NoAttr K a.hall "standing"
  nN : NoAttr K a.hall "next_number"
  mkH : Mk K a.hall a.init
  m_put : Meth K a.hall "put" a.put
  m_drop : Meth K a.hall "drop" a.drop
  m_lin : Meth K a.hall "load_in" a.lin
  m_lay : Meth K a.hall "lay" a.lay
  x_btab : Exc K a.btab
  x_bord : Exc K a.bord
  x_btxt : Exc K a.btxt
  x_bsor : Exc K a.bsor
  x_uns : Exc K a.uns
  x_bad : Exc K a.bad
  x_noEnd : Exc K a.noEnd
  x_busy : Exc K a.busy
  x_noCall : Exc K a.noCall
  r : ∀ (k : Nat) (C : Addr), (nine a)[k]? = some C → Row9 K a k C
section
variable {P : Program} {w : World} {K : PySem.W.Frag} {mg : Str → Option Value} {base : Heap} {a : Ad} {d : Fd}
def spWhole (K : PySem.W.Frag) : Sp := fun vs H Q _ => ∃ v T, vs = [v] ∧ TyOf K H v (.type T) ∧ Q (.bl (isI v)) H
theorem scWhole : FnScope ["value"] ["value"] (defScope sWhole) := ⟨rfl, rfl, rfl, by decide +kernel, rfl, by decide +kernel, by decide +kernel⟩
theorem ok_whole (T : Txt K mg a d) : FnOk P w K mg base (CXx P w) 1 a.whole d.whole ["value"] (spWhole K) := by
  refine T.f_whole.okN scWhole (fun vs H Q E h => ?_) (fun cdv A outer s H vs Q E hr h => ?_)
  · obtain ⟨v, Tn, rfl, _⟩ := h
    rfl
  · obtain ⟨v, Tn, rfl, ty, q⟩ := h
    obtain ⟨k1, k2⟩ := ty_int ty
    refine ⟨_, pss_one (ps_ret (pe_and (pe_callB call_isinst rfl T.isi bt_isinstance (pa_cons (pv 0) (pa_cons (pe_bltn (v := .ty "int") rfl T.int_ bt_int rfl) pa_nil)))
      (pe_one (pe_not (pe_callB call_isinst rfl T.isi bt_isinstance (pa_cons (pv 0) (pa_cons (pe_bltn (v := .ty "bool") rfl T.bool_ bt_bool rfl) pa_nil))))))), ?_⟩
    refine ⟨_, rfl, _, _, _, _, _, rfl, ty, rfl, kit_pure k1, _, rfl, ?_⟩
    refine ite2 (fun z => ?_) (fun z => ?_)
    · refine ⟨_, rfl, _, _, _, _, _, rfl, ty, rfl, kit_pure k2, _, rfl, ?_⟩
      cases v <;> first | exact q | exact absurd (show false = true from z) Bool.false_ne_true
    · cases v <;> first | exact q | exact absurd rfl z
def spWithin (K : PySem.W.Frag) : Sp := fun vs H Q _ => ∃ v T lo hi, vs = [v, .int lo, .int hi] ∧ TyOf K H v (.type T) ∧ Q (.bl (inB v lo hi)) H
theorem scWithin : FnScope ["value", "least", "most"] ["value", "least", "most"] (defScope sWithin) := ⟨rfl, rfl, rfl, by decide +kernel, rfl, by decide +kernel, by decide +kernel⟩
theorem ok_within (T : Txt K mg a d) : FnOk P w K mg base (CXx P w) 2 a.within d.within ["value", "least", "most"] (spWithin K) := by
  have GW : FnOk P w K mg base (CXx P w) 1 a.whole d.whole ["value"] (spWhole K) := ok_whole T
  refine T.f_within.okN scWithin (fun vs H Q E h => ?_) (fun cdv A outer s H vs Q E hr h => ?_)
  · obtain ⟨v, Tn, lo, hi, rfl, _⟩ := h
    rfl
  · obtain ⟨v, Tn, lo, hi, rfl, ty, q⟩ := h
    refine ⟨_, pss_one (ps_ret (pe_and (pe_call GW hr rfl T.g_whole T.f_whole.kp T.b_whole .nil pass0x (pa_cons (pv 0) pa_nil)) (pe_one (pe_chain op_le op_le (pv 1) (pv 0) (pv 2))))), ?_⟩
    refine ⟨_, rfl, v, Tn, rfl, ty, _, rfl, ?_⟩
    refine ite2 (fun z => ?_) (fun z => ?_)
    · cases v with
      | int i =>
        refine ⟨_, rfl, _, rfl, _, _, rfl, rfl, _, rfl, ?_⟩
        refine ite2 (fun y => ?_) (fun y => ?_)
        · refine ⟨_, rfl, _, _, rfl, rfl, ?_⟩
          have e : inB (.int i) lo hi = decide (i ≤ hi) := by
            show (decide (lo ≤ i) && decide (i ≤ hi)) = _
            rw [y, Bool.true_and]
          rw [e] at q
          exact q
        · have e : inB (.int i) lo hi = false := by
            show (decide (lo ≤ i) && decide (i ≤ hi)) = _
            rw [Bool.eq_false_iff.mpr y, Bool.false_and]
          rw [e] at q
          exact q
      | _ => exact absurd (show false = true from z) Bool.false_ne_true
    · cases v <;> first | exact q | exact absurd rfl z
end
end Ka30
namespace Ka30
open PySem L2
section
variable {P : Program} {w : World} {K : PySem.W.Frag} {mg : Str → Option Value} {base : Heap} {a : Ad} {d : Fd}
def okS (x y z : V) : Bool := inB x 1 12 && inB y 1 12 && inB z 1 8
def spCheck (K : PySem.W.Frag) (bad : Addr) : Sp := fun vs H Q E => ∃ x y z Tx Ty Tz, vs = [x, y, z] ∧ TyOf K H x (.type Tx) ∧ TyOf K H y (.type Ty) ∧ TyOf K H z (.type Tz) ∧ (okS x y z = true → Q .non H) ∧ (okS x y z = false → E (.ref bad) none H)
theorem scCheck : FnScope ["inlets", "outlets", "frames"] ["inlets", "outlets", "frames"] (defScope sCheck) := ⟨rfl, rfl, rfl, by decide +kernel, rfl, by decide +kernel, by decide +kernel⟩
theorem one_line : 1 ≤ sizeLine := by decide
theorem ok_check (T : Txt K mg a d) : FnOk P w K mg base (CXx P w) 3 a.check d.check ["inlets", "outlets", "frames"] (spCheck K a.bad) := by
  have GI : FnOk P w K mg base (CXx P w) 2 a.within d.within ["value", "least", "most"] (spWithin K) := ok_within T
  obtain ⟨t1, e1⟩ := T.ends
  obtain ⟨t2, e2⟩ := T.frames
  refine T.f_check.okX scCheck (fun vs H Q E h => ?_) (fun X cdv A outer s H vs Q E hX b hr h => ?_)
  · obtain ⟨x, y, z, _, _, _, rfl, _⟩ := h
    rfl
  · subst hX
    obtain ⟨x, y, z, Tx, Ty, Tz, rfl, tx, ty, tz, qg, qb⟩ := h
    refine ⟨_, pss_cons (ps_if (pt_not (pt_val (pe_call GI hr rfl T.g_within T.f_within.kp T.b_within .nil pass0x (pa_cons (pv 0) (pa_cons pe_int (pa_cons (pe_glob (v := .int 12) rfl e1 ⟨t1, rfl⟩) pa_nil))))))
        (pss_one (ps_raise b rfl rfl T.g_bad T.x_bad (pa_cons pe_str pa_nil))) pss_nil)
      (pss_cons (ps_if (pt_not (pt_val (pe_call GI hr rfl T.g_within T.f_within.kp T.b_within .nil pass0x (pa_cons (pv 1) (pa_cons pe_int (pa_cons (pe_glob (v := .int 12) rfl e1 ⟨t1, rfl⟩) pa_nil))))))
        (pss_one (ps_raise b rfl rfl T.g_bad T.x_bad (pa_cons pe_str pa_nil))) pss_nil)
      (pss_one (ps_if (pt_not (pt_val (pe_call GI hr rfl T.g_within T.f_within.kp T.b_within .nil pass0x (pa_cons (pv 2) (pa_cons pe_int (pa_cons (pe_glob (v := .int 8) rfl e2 ⟨t2, rfl⟩) pa_nil))))))
        (pss_one (ps_raise b rfl rfl T.g_bad T.x_bad (pa_cons pe_str pa_nil))) pss_nil))), ?_⟩
    refine ⟨_, rfl, x, Tx, 1, 12, rfl, tx, _, rfl, ?_⟩
    refine ite2 (fun h => ⟨one_line, qb ?_⟩) (fun h1 => ?_)
    · have h' : inB x 1 12 = false := by simpa using h
      show (inB x 1 12 && inB y 1 12 && inB z 1 8) = false
      rw [h']
      rfl
    · refine ⟨_, rfl, y, Ty, 1, 12, rfl, ty, _, rfl, ?_⟩
      refine ite2 (fun h => ⟨one_line, qb ?_⟩) (fun h2 => ?_)
      · have h' : inB y 1 12 = false := by simpa using h
        show (inB x 1 12 && inB y 1 12 && inB z 1 8) = false
        rw [h', Bool.and_false]
        rfl
      · refine ⟨_, rfl, z, Tz, 1, 8, rfl, tz, _, rfl, ?_⟩
        refine ite2 (fun h => ⟨one_line, qb ?_⟩) (fun h3 => qg ?_)
        · have h' : inB z 1 8 = false := by simpa using h
          show (inB x 1 12 && inB y 1 12 && inB z 1 8) = false
          rw [h', Bool.and_false]
        · have g1 : inB x 1 12 = true := by simpa using h1
          have g2 : inB y 1 12 = true := by simpa using h2
          have g3 : inB z 1 8 = true := by simpa using h3
          show (inB x 1 12 && inB y 1 12 && inB z 1 8) = true
          rw [g1, g2, g3]
          rfl
def spFree : Sp := fun vs H Q _ => ∃ n f : Nat, vs = [.int n, .int f] ∧ n ≤ 100 ∧ f ≤ 100 ∧ ∀ (D : Addr) (as : List Addr) (H' : Hp), as.length = n → H' D = some (.lst (as.map V.ref)) → (∀ x ∈ as, H' x = some (.lst (List.replicate f .non))) →
  (D :: as).Nodup → (∀ x ∈ D :: as, H x = none) → Same H H' → Q (.ref D) H'
theorem scFree : FnScope ["many", "frames"] ["many", "frames"] (defScope sFree) := ⟨rfl, rfl, rfl, by decide +kernel, rfl, by decide +kernel, by decide +kernel⟩
theorem rep_one (f : Nat) : (List.replicate f [V.non]).flatten = List.replicate f V.non := by
  induction f with
  | zero => rfl
  | succ f ih => rw [List.replicate_succ, List.flatten_cons, ih, List.replicate_succ]; rfl
theorem ok_free (T : Txt K mg a d) : FnOk P w K mg base (CXx P w) 1 a.free d.free ["many", "frames"] spFree := by
  refine T.f_free.okN scFree (fun vs H Q E h => ?_) (fun cdv A outer s H vs Q E hr h => ?_)
  · obtain ⟨n, f, rfl, _⟩ := h
    rfl
  · obtain ⟨n, f, rfl, hn, hf, q⟩ := h
    have hsl : sizeLine = 16777216 := sizeLine_eq
    refine ⟨_, pss_one (ps_ret (pe_comp rfl (pi_range1 rfl T.range (pa_cons (pv 0) pa_nil))
      (comp1 (k := 1) rfl (by decide +kernel) (by decide +kernel) rfl rfl rfl ⟨(fun z => nomatch z), ⟨(fun z => nomatch z), ⟨(fun _ => ⟨_, rfl⟩), trivial⟩⟩⟩ rfl (.inr (.inl rfl)) rfl rfl (by decide +kernel))
      (fun _ _ _ _ _ => pifs_nil) (fun _ _ _ _ _ => pe_op op_rep (pe_lst (pa_cons pe_non pa_nil)) (pv 1)))), ?_⟩
    refine ⟨_, rfl, _, rfl, by omega, by omega, fun D hD => ?_⟩
    refine comp_range (lo := 0) (n := n) (fun i H' => ∃ as : List Addr, as.length = i ∧ H' D = some (.lst (as.map V.ref)) ∧ (∀ x ∈ as, H' x = some (.lst (List.replicate f .non))) ∧ (D :: as).Nodup ∧ (∀ x ∈ D :: as, H x = none) ∧ Same H H') ?_ ?_ ?_
    · refine ⟨[], rfl, upd_same, fun x hx => (nomatch hx), by simp, fun x hx => ?_, fun b o e => ?_⟩
      · rw [List.mem_singleton.mp hx]
        exact hD
      · rw [upd_ne (ne_of_none e hD)]
        exact e
    · rintro i H' hi ⟨as, hl, hDl, hx, nd, fr, sm⟩
      refine yes ?_
      refine iteT ?_
      refine ⟨one_line, fun q1 hq1 => ⟨_, rfl, q1, (f : Int), [.non], rfl, rfl, upd_same, by omega, by omega, ?_, fun r hr1 => ⟨as.map V.ref, ?_, ?_, as ++ [r], ?_, ?_, ?_, ?_, ?_, ?_⟩⟩⟩
      · show 1 * ((f : Int)).toNat ≤ sizeLine
        omega
      all_goals
        have nr : r ≠ q1 := fun z => by rw [z, upd_same] at hr1; cases hr1
        have hr' : H' r = none := by rw [upd_ne nr] at hr1; exact hr1
        have nDq : D ≠ q1 := ne_of_none hDl hq1
        have nDr : D ≠ r := ne_of_none hDl hr'
      · rw [upd_ne nDr, upd_ne nDq]
        exact hDl
      · rw [List.length_map, hl]
        omega
      · rw [List.length_append, hl]
        rfl
      · rw [upd_same, List.map_append]
        rfl
      · intro x hxa
        rcases List.mem_append.mp hxa with z | z
        · have e := hx x z
          have nxD : x ≠ D := fun y => (List.nodup_cons.mp nd).1 (y ▸ z)
          rw [upd_ne nxD, upd_ne (ne_of_none e hr'), upd_ne (ne_of_none e hq1)]
          exact e
        · rw [List.mem_singleton.mp z, upd_ne (Ne.symm nDr), upd_same]
          show some (HO.lst (List.replicate ((f : Int)).toNat [V.non]).flatten) = _
          rw [Int.toNat_natCast, rep_one]
      · show (D :: (as ++ [r])).Nodup
        have hra : ¬ r ∈ as := fun m => by have e := hx r m; rw [hr'] at e; cases e
        obtain ⟨n1, n2⟩ := List.nodup_cons.mp nd
        refine List.nodup_cons.mpr ⟨fun m => ?_, nd_snoc n2 hra⟩
        rcases List.mem_append.mp m with z | z
        · exact n1 z
        · exact nDr (List.mem_singleton.mp z)
      · intro x hxa
        rcases List.mem_cons.mp hxa with z | z
        · exact fr x (List.mem_cons.mpr (.inl z))
        · rcases List.mem_append.mp z with y | y
          · exact fr x (List.mem_cons_of_mem _ y)
          · rw [List.mem_singleton.mp y]
            exact sm.free hr'
      · intro b o e
        have e' := sm b o e
        have nbD : b ≠ D := ne_of_none e hD
        rw [upd_ne nbD, upd_ne (ne_of_none e' hr'), upd_ne (ne_of_none e' hq1)]
        exact e'
    · rintro H' ⟨as, hl, hDl, hx, nd, fr, sm⟩
      exact q D as H' hl hDl hx nd fr sm
end
end Ka30
namespace Ka30
open PySem L2
def flds (I O S : Addr) (n : Int) : List (Str × V) := [("inlet_ends", .ref I), ("outlet_ends", .ref O), ("standing", .ref S), ("next_number", .int n)]
theorem flds_I (I O S : Addr) (n : Int) : (flds I O S n).lookup ("inlet_ends" : Str) = some (.ref I) := by rfl
theorem flds_O (I O S : Addr) (n : Int) : (flds I O S n).lookup ("outlet_ends" : Str) = some (.ref O) := by rfl
theorem flds_S (I O S : Addr) (n : Int) : (flds I O S n).lookup ("standing" : Str) = some (.ref S) := by rfl
theorem flds_N (I O S : Addr) (n : Int) : (flds I O S n).lookup ("next_number" : Str) = some (.int n) := by rfl
theorem flds_loadIn (I O S : Addr) (n : Int) : (flds I O S n).lookup ("load_in" : Str) = none := by rfl
def Rows (H : Hp) (xs : List Addr) (rs : List (List V)) : Prop := xs.length = rs.length ∧ ∀ (j : Nat) x r, xs[j]? = some x → rs[j]? = some r → H x = some (.lst r)
structure HallAt (C : Addr) (H : Hp) (p I O S : Addr) (ia oa : List Addr) (ri ro : List (List V)) (kvs : List (Key × V)) (nx : Int) : Prop where
  ob : ∃ dx, H p = some (.ins C dx (flds I O S nx))
  li : H I = some (.lst (ia.map V.ref))
  lo : H O = some (.lst (oa.map V.ref))
  ri : Rows H ia ri
  ro : Rows H oa ro
  st : H S = some (.dK kvs)
  nd : (I :: O :: (ia ++ oa)).Nodup
section
variable {P : Program} {w : World} {K : PySem.W.Frag} {mg : Str → Option Value} {base : Heap} {a : Ad} {d : Fd}
def spEnd (K : PySem.W.Frag) (no : Addr) : Sp := fun vs H Q E => ∃ l xs v T, vs = [.ref l, v] ∧ SqL K H l xs ∧ TyOf K H v (.type T) ∧ (∀ (i : Nat) y, v = .int i → xs[i]? = some y → Q y H) ∧ (inB v 0 ((xs.length : Int) - 1) = false → E (.ref no) none H)
theorem scEnd : FnScope ["ends", "place"] ["ends", "place"] (defScope sEnd) := ⟨rfl, rfl, rfl, by decide +kernel, rfl, by decide +kernel, by decide +kernel⟩
theorem ok_end (T : Txt K mg a d) : FnOk P w K mg base (CXx P w) 3 a.endAt d.endAt ["ends", "place"] (spEnd K a.noEnd) := by
  have GI : FnOk P w K mg base (CXx P w) 2 a.within d.within ["value", "least", "most"] (spWithin K) := ok_within T
  refine T.f_endAt.okX scEnd (fun vs H Q E h => ?_) (fun X cdv A outer s H vs Q E hX b hr h => ?_)
  · obtain ⟨l, xs, v, _, rfl, _⟩ := h
    rfl
  · subst hX
    obtain ⟨l, xs, v, Tv, rfl, hS, tv, qg, qb⟩ := h
    refine ⟨_, pss_cons (ps_if (pt_not (pt_val (pe_call GI hr rfl T.g_within T.f_within.kp T.b_within .nil pass0x (pa_cons (pv 1) (pa_cons pe_int (pa_cons (pe_op op_sub (pe_callB call_len_seq rfl T.len PySem.boot_len (pa_cons (pv 0) pa_nil)) pe_int) pa_nil))))))
        (pss_one (ps_raise b rfl rfl T.g_noEnd T.x_noEnd (pa_cons pe_str pa_nil))) pss_nil)
      (pss_one (ps_ret (pe_ix ix_list (pv 0) (pv 1) (fun _ _ => rfl)))), ?_⟩
    refine ⟨_, rfl, _, rfl, l, xs, rfl, .inl hS, _, _, rfl, rfl, v, Tv, 0, (xs.length : Int) - 1, rfl, tv, _, rfl, ?_⟩
    refine ite2 (fun h => ⟨one_line, qb (by simpa using h)⟩) (fun h1 => ?_)
    have g : inB v 0 ((xs.length : Int) - 1) = true := by simpa using h1
    cases v with
    | int i =>
      have g : (decide (0 ≤ i) && decide (i ≤ (xs.length : Int) - 1)) = true := g
      rw [Bool.and_eq_true, decide_eq_true_iff, decide_eq_true_iff] at g
      obtain ⟨k, rfl⟩ := Int.eq_ofNat_of_zero_le g.1
      have hk : k < xs.length := by omega
      have e : xs[k]? = some xs[k] := List.getElem?_eq_getElem hk
      exact ⟨_, rfl, _, rfl, l, xs, (k : Int), xs[k], rfl, rfl, hS, atI_nat e, qg k _ rfl e⟩
    | _ => exact absurd (show false = true from g) Bool.false_ne_true
def loadV (r : List V) : Int := (r.length : Int) - ((r.countP fun z => eqV z .non : Nat) : Int)
def spLoad (K : PySem.W.Frag) : Sp := fun vs H Q _ => ∃ l xs, vs = [.ref l] ∧ SqL K H l xs ∧ xs.all flatV = true ∧ Q (.int (loadV xs)) H
theorem scLoad : FnScope ["end"] ["end"] (defScope sLoad) := ⟨rfl, rfl, rfl, by decide +kernel, rfl, by decide +kernel, by decide +kernel⟩
theorem ok_load (T : Txt K mg a d) : FnOk P w K mg base (CXx P w) 1 a.load d.load ["end"] (spLoad K) := by
  refine T.f_load.okN scLoad (fun vs H Q E h => ?_) (fun cdv A outer s H vs Q E hr h => ?_)
  · obtain ⟨l, xs, rfl, _⟩ := h
    rfl
  · obtain ⟨l, xs, rfl, hS, fx, q⟩ := h
    refine ⟨_, pss_one (ps_ret (pe_op op_sub (pe_callB call_len_seq rfl T.len PySem.boot_len (pa_cons (pv 0) pa_nil)) (pe_bm PySem.F.plainAttrs_list PySem.F.slot_list_count PySem.F.type_list_count mt_count (pv 0) (pa_cons pe_non pa_nil)))), ?_⟩
    exact ⟨_, rfl, l, xs, rfl, .inl hS, _, rfl, .inl ⟨rfl, xs, hS⟩, l, xs, .non, rfl, rfl, hS, rfl, fx, _, _, rfl, rfl, q⟩
def spInit (K : PySem.W.Frag) (a : Ad) : Sp := fun vs H Q E => ∃ p dx x y z Tx Ty Tz, vs = [.ref p, x, y, z] ∧ H p = some (.ins a.hall dx []) ∧ TyOf K H x (.type Tx) ∧ TyOf K H y (.type Ty) ∧ TyOf K H z (.type Tz) ∧
  (okS x y z = false → E (.ref a.bad) none H) ∧ (∀ n m f : Nat, x = .int n → y = .int m → z = .int f → okS x y z = true → ∀ I O S ia oa H',
    HallAt a.hall H' p I O S ia oa (List.replicate n (List.replicate f .non)) (List.replicate m (List.replicate f .non)) [] 0 → (∀ b o, H b = some o → b ≠ p → H' b = some o) → (∀ b ∈ I :: O :: S :: (ia ++ oa), H b = none) → Q .non H')
theorem scInit : FnScope ["self", "inlets", "outlets", "frames"] ["self", "inlets", "outlets", "frames"] (defScope sInit) := ⟨rfl, rfl, rfl, by decide +kernel, rfl, by decide +kernel, by decide +kernel⟩
theorem okS_nat {x y z : V} (h : okS x y z = true) : ∃ n m f : Nat, x = .int n ∧ y = .int m ∧ z = .int f ∧ 1 ≤ n ∧ n ≤ 12 ∧ 1 ≤ m ∧ m ≤ 12 ∧ 1 ≤ f ∧ f ≤ 8 := by
  have h : (inB x 1 12 && inB y 1 12 && inB z 1 8) = true := h
  rw [Bool.and_eq_true, Bool.and_eq_true] at h
  obtain ⟨⟨h1, h2⟩, h3⟩ := h
  have nat : ∀ {v : V} {hi : Int}, inB v 1 hi = true → ∃ n : Nat, v = .int n ∧ 1 ≤ n ∧ (n : Int) ≤ hi := fun {v hi} h => by
    cases v with
    | int i =>
      have h : (decide (1 ≤ i) && decide (i ≤ hi)) = true := h
      rw [Bool.and_eq_true, decide_eq_true_iff, decide_eq_true_iff] at h
      obtain ⟨k, rfl⟩ := Int.eq_ofNat_of_zero_le (show 0 ≤ i by omega)
      exact ⟨k, rfl, by omega, h.2⟩
    | _ => exact absurd (show false = true from h) Bool.false_ne_true
  obtain ⟨n, e1, a1, b1⟩ := nat h1
  obtain ⟨m, e2, a2, b2⟩ := nat h2
  obtain ⟨f, e3, a3, b3⟩ := nat h3
  exact ⟨n, m, f, e1, e2, e3, a1, by omega, a2, by omega, a3, by omega⟩
theorem rows_rep {H : Hp} {xs : List Addr} {n : Nat} {r : List V} (hl : xs.length = n) (h : ∀ x ∈ xs, H x = some (.lst r)) : Rows H xs (List.replicate n r) := by
  refine ⟨by rw [List.length_replicate]; exact hl, fun j x r' e1 e2 => ?_⟩
  rw [List.getElem?_replicate] at e2
  split at e2
  · cases e2
    exact h x (List.mem_of_getElem? e1)
  · cases e2
theorem ok_init (T : Txt K mg a d) : FnOk P w K mg base (CXx P w) 4 a.init d.init ["self", "inlets", "outlets", "frames"] (spInit K a) := by
  have GC : FnOk P w K mg base (CXx P w) 3 a.check d.check ["inlets", "outlets", "frames"] (spCheck K a.bad) := ok_check T
  have GF : FnOk P w K mg base (CXx P w) 1 a.free d.free ["many", "frames"] spFree := ok_free T
  refine T.f_init.okX scInit (fun vs H Q E h => ?_) (fun X cdv A outer s H vs Q E hX b hr h => ?_)
  · obtain ⟨p, dx, x, y, z, _, _, _, rfl, _⟩ := h
    rfl
  · subst hX
    obtain ⟨p, dx, x, y, z, Tx, Ty, Tz, rfl, hp, tx, ty, tz, qb, qg⟩ := h
    have hr1 : Room 1 _ := hr.mono (by decide)
    refine ⟨_, pss_cons (ps_expr (pe_call GC hr rfl T.g_check T.f_check.kp T.b_check .nil b.pass_ (pa_cons (pv 1) (pa_cons (pv 2) (pa_cons (pv 3) pa_nil)))))
      (pss_cons (ps_fld (pv 0) (pe_call GF hr1 rfl T.g_free T.f_free.kp T.b_free .nil pass0x (pa_cons (pv 1) (pa_cons (pv 3) pa_nil))) rfl)
      (pss_cons (ps_fld (pv 0) (pe_call GF hr1 rfl T.g_free T.f_free.kp T.b_free .nil pass0x (pa_cons (pv 2) (pa_cons (pv 3) pa_nil))) rfl)
      (pss_cons (ps_fld (pv 0) pe_dnewK rfl) (pss_one (ps_fld (pv 0) pe_int rfl))))), ?_⟩
    refine ⟨_, rfl, _, rfl, _, rfl, x, y, z, Tx, Ty, Tz, rfl, tx, ty, tz, fun ok => ?_, qb⟩
    obtain ⟨n, m, f, rfl, rfl, rfl, n1, n2, m1, m2, f1, f2⟩ := okS_nat ok
    -- self.inlet_ends = free_ends(inlets, frames)
    refine ⟨_, rfl, _, rfl, n, f, rfl, by omega, by omega, fun I ia H1 l1 hI hia ndI frI sm1 => ?_⟩
    have p1 := sm1 _ _ hp
    refine ⟨_, rfl, p, a.hall, dx, [], rfl, p1, T.cls, T.nI, by show 0 < 1000; decide, ?_⟩
    have npI : ∀ c ∈ I :: ia, c ≠ p := fun c hc z => by rw [← z, frI c hc] at hp; cases hp
    -- self.outlet_ends = free_ends(outlets, frames)
    refine ⟨_, rfl, _, rfl, m, f, rfl, by omega, by omega, fun O oa H2 l2 hO hoa ndO frO sm2 => ?_⟩
    have p2 := sm2 p _ upd_same
    refine ⟨_, rfl, p, a.hall, dx, _, rfl, p2, T.cls, T.nO, by show 1 < 1000; decide, ?_⟩
    have npO : ∀ c ∈ O :: oa, c ≠ p := fun c hc z => by have e := frO c hc; rw [z, upd_same] at e; cases e
    have inI : ∀ c ∈ I :: ia, ∃ o, H1 c = some o := fun c hc => by
      rcases List.mem_cons.mp hc with z | z
      · rw [z]; exact ⟨_, hI⟩
      · exact ⟨_, hia c z⟩
    have frO1 : ∀ c ∈ O :: oa, H1 c = none := fun c hc => by have e := frO c hc; rw [upd_ne (npO c hc)] at e; exact e
    have nIO : ∀ c ∈ O :: oa, c ∉ I :: ia := fun c hc m => by
      obtain ⟨o, e⟩ := inI c m
      rw [frO1 c hc] at e
      cases e
    -- self.standing = {}; self.next_number = 0
    intro S hS
    have hS2 : H2 S = none := by
      have nSp : S ≠ p := fun z => by rw [z, upd_same] at hS; cases hS
      rw [upd_ne nSp] at hS
      exact hS
    have nSp : S ≠ p := fun z => by rw [z, upd_same] at hS; cases hS
    refine ⟨_, rfl, p, a.hall, dx, _, rfl, by rw [upd_ne (Ne.symm nSp)]; exact upd_same, T.cls, T.nS, by show 2 < 1000; decide, ?_⟩
    refine ⟨_, rfl, p, a.hall, dx, _, rfl, upd_same, T.cls, T.nN, by show 3 < 1000; decide, ?_⟩
    -- what stands
    have at1 : ∀ c o, H1 c = some o → c ≠ p → H2 c = some o := fun c o e n => sm2 c o (by rw [upd_ne n]; exact e)
    have at2 : ∀ c o, H2 c = some o → c ≠ p → upd (upd (upd (upd H2 p (.ins a.hall dx (putF "outlet_ends" (.ref O) (putF "inlet_ends" (.ref I) [])))) S (.dK [])) p (.ins a.hall dx (putF "standing" (.ref S) (putF "outlet_ends" (.ref O) (putF "inlet_ends" (.ref I) []))))) p (.ins a.hall dx (flds I O S 0)) c = some o := fun c o e n => by
      rw [upd_ne n, upd_ne n, upd_ne (ne_of_none e hS2), upd_ne n]
      exact e
    refine qg n m f rfl rfl rfl ok I O S ia oa _ ⟨⟨dx, upd_same⟩, at2 _ _ (at1 _ _ hI (npI _ List.mem_cons_self)) (npI _ List.mem_cons_self), at2 _ _ hO (npO _ List.mem_cons_self),
      rows_rep l1 fun c hc => at2 _ _ (at1 _ _ (hia c hc) (npI c (List.mem_cons_of_mem _ hc))) (npI c (List.mem_cons_of_mem _ hc)), rows_rep l2 fun c hc => at2 _ _ (hoa c hc) (npO c (List.mem_cons_of_mem _ hc)), ?_, ?_⟩ (fun c o e n => ?_) (fun c hc => ?_)
    · rw [upd_ne nSp, upd_ne nSp, upd_same]
    · obtain ⟨i1, i2⟩ := List.nodup_cons.mp ndI
      obtain ⟨o1, o2⟩ := List.nodup_cons.mp ndO
      refine List.nodup_cons.mpr ⟨fun mm => ?_, List.nodup_cons.mpr ⟨fun mm => ?_, List.nodup_append.mpr ⟨i2, o2, fun c hc c' hc' z => ?_⟩⟩⟩
      · rcases List.mem_cons.mp mm with z | z
        · exact nIO O List.mem_cons_self (by rw [← z]; exact List.mem_cons_self)
        · rcases List.mem_append.mp z with y | y
          · exact i1 y
          · exact nIO I (List.mem_cons_of_mem _ y) List.mem_cons_self
      · rcases List.mem_append.mp mm with y | y
        · exact nIO O List.mem_cons_self (List.mem_cons_of_mem _ y)
        · exact o1 y
      · exact nIO c' (List.mem_cons_of_mem _ hc') (by rw [← z]; exact List.mem_cons_of_mem _ hc)
    · exact at2 c o (at1 c o (sm1 c o e) n) n
    · have frH1 : ∀ c, H1 c = none → H c = none := fun c e => sm1.free e
      have frH2 : ∀ c, c ≠ p → H2 c = none → H1 c = none := fun c n e => by
        cases q : H1 c with
        | none => rfl
        | some o => rw [at1 c o q n] at e; cases e
      rcases List.mem_cons.mp hc with z | z
      · rw [z]; exact frI I List.mem_cons_self
      · rcases List.mem_cons.mp z with z | z
        · rw [z]; exact frH1 _ (frO1 O List.mem_cons_self)
        · rcases List.mem_cons.mp z with z | z
          · rw [z]; exact frH1 _ (frH2 S nSp hS2)
          · rcases List.mem_append.mp z with y | y
            · exact frI c (List.mem_cons_of_mem _ y)
            · exact frH1 _ (frO1 c (List.mem_cons_of_mem _ y))
end
end Ka30
namespace Ka30
open PySem L2
section
variable {P : Program} {w : World} {K : PySem.W.Frag} {mg : Str → Option Value} {base : Heap} {a : Ad} {d : Fd}
def spFull (K : PySem.W.Frag) : Sp := fun vs H Q _ => ∃ l xs, vs = [.ref l] ∧ SqL K H l xs ∧ xs.all flatV = true ∧ Q (.bl (decide (loadV xs = (xs.length : Int)))) H
theorem scFull : FnScope ["end"] ["end"] (defScope sFull) := ⟨rfl, rfl, rfl, by decide +kernel, rfl, by decide +kernel, by decide +kernel⟩
theorem ok_full (T : Txt K mg a d) : FnOk P w K mg base (CXx P w) 2 a.isFull d.isFull ["end"] (spFull K) := by
  have GL : FnOk P w K mg base (CXx P w) 1 a.load d.load ["end"] (spLoad K) := ok_load T
  refine T.f_isFull.okN scFull (fun vs H Q E h => ?_) (fun cdv A outer s H vs Q E hr h => ?_)
  · obtain ⟨l, xs, rfl, _⟩ := h
    rfl
  · obtain ⟨l, xs, rfl, hS, fx, q⟩ := h
    refine ⟨_, pss_one (ps_ret (pe_cmpR op_eq (pe_call GL hr rfl T.g_load T.f_load.kp T.b_load .nil pass0x (pa_cons (pv 0) pa_nil)) (pe_callB call_len_seq rfl T.len PySem.boot_len (pa_cons (pv 0) pa_nil)) (nomark _))), ?_⟩
    refine ⟨_, rfl, l, xs, rfl, hS, fx, _, rfl, l, xs, rfl, .inl hS, rfl, ?_⟩
    have e : decide (V.int (loadV xs) = V.int (xs.length : Int)) = decide (loadV xs = (xs.length : Int)) := decide_eq_decide.mpr ⟨fun z => V.int.inj z, fun z => by rw [z]⟩
    rw [← e] at q
    exact q
def spBoth (K : PySem.W.Frag) : Sp := fun vs H Q _ => ∃ l l' xs ys, vs = [.ref l, .ref l'] ∧ SqL K H l xs ∧ SqL K H l' ys ∧ xs.length = ys.length ∧ xs.length ≤ 100 ∧
  (∀ j : Nat, xs[j]? = some .non → ys[j]? = some .non → (∀ m, m < j → xs[m]? = some .non → ys[m]? = some .non → False) → Q (.int (j : Nat)) H) ∧ ((∀ m : Nat, xs[m]? = some .non → ys[m]? = some .non → False) → Q .non H)
theorem scBoth : FnScope ["one", "other", "frame"] ["one", "other"] (defScope sBoth) := ⟨rfl, rfl, rfl, by decide +kernel, rfl, by decide +kernel, by decide +kernel⟩
theorem ok_both (T : Txt K mg a d) : FnOk P w K mg base (CXx P w) 1 a.both d.both ["one", "other"] (spBoth K) := by
  refine T.f_both.okN scBoth (fun vs H Q E h => ?_) (fun cdv A outer s H vs Q E hr h => ?_)
  · obtain ⟨l, l', xs, ys, rfl, _⟩ := h
    rfl
  · obtain ⟨l, l', xs, ys, rfl, hS, hS', hl, h100, q1, q2⟩ := h
    refine ⟨_, pss_cons (ps_for PassesOwn.never rfl (pi_range1 rfl T.range (pa_cons (pe_callB call_len_seq rfl T.len PySem.boot_len (pa_cons (pv 0) pa_nil)) pa_nil)) (pg_name (i := 2) scBoth.nd rfl (Or.inl rfl))
        (pss_one (ps_if (PW.pt (pw_and (pt_cmpR op_isN (pe_ix ix_list (pv 0) (pv 2) (fun _ _ => rfl)) pe_non (nomark _)) (pw_and1 (pt_cmpR op_isN (pe_ix ix_list (pv 1) (pv 2) (fun _ _ => rfl)) pe_non (nomark _))))) (pss_one (ps_ret (pv 2))) pss_nil)))
      (pss_one (ps_ret pe_non)), ?_⟩
    refine ⟨_, rfl, l, xs, rfl, .inl hS, (xs.length : Int), rfl, by omega, by omega, ?_⟩
    refine for_range (lo := 0) (n := ((xs.length : Int)).toNat) (fun i σ H' => H' = H ∧ (∃ v, σ = [some (.ref l), some (.ref l'), v]) ∧ ∀ m, m < i → xs[m]? = some .non → ys[m]? = some .non → False) ⟨rfl, ⟨none, rfl⟩, fun m hm => absurd hm (Nat.not_lt_zero _)⟩ ?_ ?_
    · rintro i σ H' hi ⟨rfl, ⟨v, rfl⟩, hno⟩
      have hi' : i < xs.length := by rw [Int.toNat_natCast] at hi; exact hi
      have e1 : xs[i]? = some xs[i] := List.getElem?_eq_getElem hi'
      have e2 : ys[i]? = some (ys[i]'(hl ▸ hi')) := List.getElem?_eq_getElem (hl ▸ hi')
      have z0 : (0 : Int) + (i : Int) = (i : Int) := by omega
      refine ⟨_, rfl, _, rfl, l, xs, (i : Int), _, rfl, congrArg V.int z0, hS, atI_nat e1, rfl, _, rfl, ?_⟩
      have next : (¬ (xs[i]? = some .non ∧ ys[i]? = some .non)) → ∀ m, m < i + 1 → xs[m]? = some .non → ys[m]? = some .non → False := fun hne m hm z1 z2 => by
        by_cases h : m < i
        · exact hno m h z1 z2
        · have : m = i := by omega
          subst this
          exact hne ⟨z1, z2⟩
      refine ite2 (fun y => ?_) (fun y => ?_)
      · refine ⟨_, rfl, _, rfl, l', ys, (i : Int), _, rfl, congrArg V.int z0, hS', atI_nat e2, rfl, _, rfl, ?_⟩
        have y1 : xs[i] = .non := of_decide_eq_true y
        refine ite2 (fun y' => ?_) (fun y' => ?_)
        · have y2 : ys[i]'(hl ▸ hi') = .non := of_decide_eq_true y'
          have q := q1 i (by rw [e1, y1]) (by rw [e2, y2]) hno
          refine ⟨_, rfl, ?_⟩
          have z1 : V.int (0 + (i : Int)) = V.int (i : Nat) := congrArg V.int z0
          rw [z1]
          exact q
        · refine ⟨rfl, ⟨_, rfl⟩, next fun z => y' ?_⟩
          rw [e2] at z
          exact decide_eq_true (Option.some.inj z.2)
      · refine ⟨rfl, ⟨_, rfl⟩, next fun z => y ?_⟩
        rw [e1] at z
        exact decide_eq_true (Option.some.inj z.1)
    · rintro σ H' ⟨rfl, ⟨v, rfl⟩, hno⟩
      refine q2 fun m z1 z2 => hno m ?_ z1 z2
      rw [Int.toNat_natCast]
      exact (List.getElem?_eq_some_iff.mp z1).1
end
end Ka30
set_option maxHeartbeats 4000000
namespace L2
open PySem
section
variable {X : Cx}
theorem op_ne_list (hu : X.A.units < cLine) : OpR X (compareOp .NotEq) (rEqL X true) := by
  intro pins s σ H x y v u Q I rx ry h
  obtain ⟨a, b, xs, ys, e, rfl, rfl, ha, hb, he, q⟩ := h
  cases rx
  cases ry
  obtain ⟨its, r1, p1, _⟩ := I.list ha
  obtain ⟨its2, r2, p2, _⟩ := I.list hb
  have l1 := r1.length
  have l2 := r2.length
  have z : SeqAt.RcNeAt X.A s (.ref a) (.ref b) (!(xs.length == ys.length && (List.range xs.length).all e)) := by
    by_cases hl : xs.length = ys.length
    · have z := SeqAt.RcNeAt.lists (e := e) p1.isList p2.isList (by rw [List.size_toArray, List.size_toArray]; omega) hu fun j h1 h2 => by
        have m1 : j < its.length := by simpa using h1
        have m2 : j < its2.length := by simpa using h2
        obtain ⟨x, hx, rx⟩ := r1.getE m1
        obtain ⟨y, hy, ry⟩ := r2.getE m2
        rw [show its.toArray[j] = its[j] by simp, show its2.toArray[j] = its2[j] by simp]
        exact he hl j x y hx hy pins σ s _ _ I rx ry
      rw [List.size_toArray, ← l1] at z
      rw [show (xs.length == ys.length) = true by simp [hl], Bool.true_and]
      exact z
    · rw [show (xs.length == ys.length) = false by simp [hl], Bool.false_and]
      exact SeqAt.RcNeAt.lists_lengths p1.isList p2.isList (by rw [List.size_toArray, List.size_toArray, ← l1, ← l2]; simp [hl]) hu
  exact z X.prog X.w X.xe _ ⟨.bl _, H, I, rfl, q⟩
def tgNever : TG := fun _ _ _ _ => False
theorem pg_never {tg : Expr} : PG X tg tgNever := fun _ _ _ _ _ _ _ _ _ h => h.elim
end
end L2
namespace Ka30
open PySem L2
section
variable {P : Program} {w : World} {K : PySem.W.Frag} {mg : Str → Option Value} {base : Heap} {a : Ad} {d : Fd}
theorem same_new {H : Hp} {x : Addr} {o : HO} (h : H x = none) : Same H (upd H x o) := fun b u q => by
  rw [upd_ne (ne_of_none q h)]
  exact q
theorem bt_str : bootBuiltins "str" = some (.type "str") := by decide +kernel
def spList (K : PySem.W.Frag) : Sp := fun vs H Q _ => ∃ v lo hi, vs = [v, .int lo, .int hi] ∧ ((v = .non ∧ Q (.bl false) H) ∨ ∃ p xs, v = .ref p ∧ H p = some (.lst xs) ∧ Q (.bl (decide (lo ≤ (xs.length : Int)) && decide ((xs.length : Int) ≤ hi))) H)
theorem S_dlist : FnScope ["value", "least", "most"] ["value", "least", "most"] (defScope s_dlist) := ⟨rfl, rfl, rfl, by decide +kernel, rfl, by decide +kernel, by decide +kernel⟩
theorem ok_dlist (T : Txt K mg a d) : FnOk P w K mg base (CXx P w) 1 a.dlist d.dlist ["value", "least", "most"] (spList K) := by
  refine T.f_dlist.okN S_dlist (fun vs H Q E h => ?_) (fun cdv A outer s H vs Q E hr h => ?_)
  · obtain ⟨v, lo, hi, rfl, _⟩ := h
    rfl
  · obtain ⟨v, lo, hi, rfl, q⟩ := h
    refine ⟨_, pss_one (ps_ret (pe_and (pe_callB call_isinst rfl T.isi bt_isinstance (pa_cons (pv 0) (pa_cons (pe_bltn (v := .ty "list") rfl T.list_ bt_list rfl) pa_nil))) (pe_one (pe_chain op_le op_le (pv 1) (pe_callB call_len_seq rfl T.len PySem.boot_len (pa_cons (pv 0) pa_nil)) (pv 2))))), ?_⟩
    rcases q with ⟨rfl, q⟩ | ⟨p, xs, rfl, hp, q⟩
    · refine ⟨_, rfl, _, _, _, _, _, rfl, .non, rfl, kit_pure (b := false) (by decide +kernel), ?_⟩
      exact ⟨_, rfl, q⟩
    · refine ⟨_, rfl, _, _, _, _, _, rfl, .lst hp, rfl, kit_pure (b := true) (by decide +kernel), _, rfl, ?_⟩
      refine ⟨_, rfl, _, rfl, p, xs, rfl, .inl (SqL.of hp), _, _, rfl, rfl, _, rfl, ?_⟩
      refine ite2 (fun y => ?_) (fun y => ?_)
      · refine ⟨_, rfl, _, _, rfl, rfl, ?_⟩
        rw [y, Bool.true_and] at q
        exact q
      · rw [Bool.eq_false_iff.mpr y, Bool.false_and] at q
        exact q
def spNo (x : Addr) : Sp := fun vs H _ E => ∃ p, vs = [.ref p] ∧ H p = some (.lst []) ∧ E (.ref x) none H
theorem S_ctab : FnScope ["table", "row"] ["table"] (defScope s_ctab) := ⟨rfl, rfl, rfl, by decide +kernel, rfl, by decide +kernel, by decide +kernel⟩
theorem ok_ctab (T : Txt K mg a d) : FnOk P w K mg base (CXx P w) 2 a.ctab d.ctab ["table"] (spNo a.btab) := by
  have GL : FnOk P w K mg base (CXx P w) 1 a.dlist d.dlist ["value", "least", "most"] (spList K) := ok_dlist T
  obtain ⟨t1, e1⟩ := T.tends
  refine T.f_ctab.okX S_ctab (fun vs H Q E h => ?_) (fun X cdv A outer s H vs Q E hX b hr h => ?_)
  · obtain ⟨p, rfl, _⟩ := h
    rfl
  · subst hX
    obtain ⟨p, rfl, hp, q⟩ := h
    refine ⟨_, pss_cons (ps_if (pt_not (pt_val (pe_call GL hr rfl T.g_dlist T.f_dlist.kp T.b_dlist .nil pass0x (pa_cons (pv 0) (pa_cons pe_int (pa_cons (pe_glob (v := .int 6) rfl e1 ⟨t1, rfl⟩) pa_nil))))))
        (pss_one (ps_raise b rfl rfl T.g_btab T.x_btab (pa_cons pe_str pa_nil))) pss_nil) pss_never, ?_⟩
    exact ⟨_, rfl, _, 1, 6, rfl, .inr ⟨p, [], rfl, hp, _, rfl, one_line, q⟩⟩
theorem S_chk : FnScope ["order", "place"] ["order"] (defScope s_chk) := ⟨rfl, rfl, rfl, by decide +kernel, rfl, by decide +kernel, by decide +kernel⟩
theorem ok_chk (T : Txt K mg a d) : FnOk P w K mg base (CXx P w) 2 a.chk d.chk ["order"] (spNo a.bord) := by
  have GL : FnOk P w K mg base (CXx P w) 1 a.dlist d.dlist ["value", "least", "most"] (spList K) := ok_dlist T
  obtain ⟨t1, e1⟩ := T.lines
  refine T.f_chk.okX S_chk (fun vs H Q E h => ?_) (fun X cdv A outer s H vs Q E hX b hr h => ?_)
  · obtain ⟨p, rfl, _⟩ := h
    rfl
  · subst hX
    obtain ⟨p, rfl, hp, q⟩ := h
    refine ⟨_, pss_cons (ps_if (pt_not (pt_val (pe_call GL hr rfl T.g_dlist T.f_dlist.kp T.b_dlist .nil pass0x (pa_cons (pv 0) (pa_cons pe_int (pa_cons (pe_glob (v := .int 16) rfl e1 ⟨t1, rfl⟩) pa_nil))))))
        (pss_one (ps_raise b rfl rfl T.g_bord T.x_bord (pa_cons pe_str pa_nil))) pss_nil) pss_never, ?_⟩
    exact ⟨_, rfl, _, 1, 16, rfl, .inr ⟨p, [], rfl, hp, _, rfl, one_line, q⟩⟩
def spMf : Sp := fun vs H Q _ => vs = [.int 2] ∧ Q (.int 1) H
theorem S_mfig : FnScope ["many"] ["many"] (defScope s_mfig) := ⟨rfl, rfl, rfl, by decide +kernel, rfl, by decide +kernel, by decide +kernel⟩
theorem ok_mfig (T : Txt K mg a d) : FnOk P w K mg base (CXx P w) 1 a.mfig d.mfig ["many"] spMf := by
  refine T.f_mfig.okN S_mfig (fun vs H Q E h => ?_) (fun cdv A outer s H vs Q E hr h => ?_)
  · obtain ⟨rfl, _⟩ := h
    rfl
  · obtain ⟨rfl, q⟩ := h
    refine ⟨_, pss_cons (ps_if (pt_cmpR op_eq (pv 0) pe_int (nomark _)) (pss_one (ps_ret pe_int)) pss_nil) pss_never, ?_⟩
    exact ⟨_, rfl, rfl, _, rfl, q⟩
def spTx (x : Addr) : Sp := fun vs H _ E => vs = [.str (Str.ofString ""), .int 2] ∧ E (.ref x) none H
theorem S_chkx : FnScope ["text", "many", "sign"] ["text", "many"] (defScope s_chkx) := ⟨rfl, rfl, rfl, by decide +kernel, rfl, by decide +kernel, by decide +kernel⟩
theorem ok_chkx (T : Txt K mg a d) : FnOk P w K mg base (CXx P w) 2 a.chkx d.chkx ["text", "many"] (spTx a.btxt) := by
  have GW : FnOk P w K mg base (CXx P w) 1 a.whole d.whole ["value"] (spWhole K) := ok_whole T
  have GM : FnOk P w K mg base (CXx P w) 1 a.mfig d.mfig ["many"] spMf := ok_mfig T
  refine T.f_chkx.okX S_chkx (fun vs H Q E h => ?_) (fun X cdv A outer s H vs Q E hX b hr h => ?_)
  · obtain ⟨rfl, _⟩ := h
    rfl
  · subst hX
    obtain ⟨rfl, q⟩ := h
    have hsl : sizeLine = 16777216 := sizeLine_eq
    refine ⟨_, pss_cons (ps_if (PW.pt (pw_or (pt_not (pt_val (pe_call GW hr rfl T.g_whole T.f_whole.kp T.b_whole .nil pass0x (pa_cons (pv 1) pa_nil)))) (pw_or1 (pt_cmpR op_notIn_seq (pv 1) (pe_glob (v := .ref a.sizes) rfl T.g_sizes rfl) rfl)))) pss_never pss_nil)
      (pss_cons (ps_if (PW.pt (pw_or (pt_not (pt_val (pe_callB call_isinst rfl T.isi bt_isinstance (pa_cons (pv 0) (pa_cons (pe_bltn (v := .ty "str") rfl T.str_ bt_str rfl) pa_nil))))) (pw_or1 (pt_cmpR op_ne (pe_callB call_len_str rfl T.len PySem.boot_len (pa_cons (pv 0) pa_nil)) (pe_call GM hr rfl T.g_mfig T.f_mfig.kp T.b_mfig .nil pass0x (pa_cons (pv 1) pa_nil)) (nomark _)))))
        (pss_one (ps_raise b rfl rfl T.g_btxt T.x_btxt (pa_cons pe_str pa_nil))) pss_nil) pss_never), ?_⟩
    refine ⟨_, rfl, _, _, rfl, .int _, _, rfl, ?_⟩
    refine ⟨_, rfl, a.sizes, [.int 2, .int 4, .int 8, .int 16], rfl, .inr (T.sizes _), rfl, rfl, _, rfl, ?_⟩
    refine ⟨_, rfl, _, _, _, _, _, rfl, .str _, rfl, kit_pure (b := true) (by decide +kernel), _, rfl, ?_⟩
    exact ⟨_, rfl, _, rfl, by show 0 ≤ sizeLine; omega, _, rfl, rfl, rfl, _, rfl, one_line, q⟩
theorem S_read : FnScope ["text", "many"] ["text", "many"] (defScope s_read) := ⟨rfl, rfl, rfl, by decide +kernel, rfl, by decide +kernel, by decide +kernel⟩
theorem ok_read (T : Txt K mg a d) : FnOk P w K mg base (CXx P w) 3 a.read d.read ["text", "many"] (spTx a.btxt) := by
  have GC : FnOk P w K mg base (CXx P w) 2 a.chkx d.chkx ["text", "many"] (spTx a.btxt) := ok_chkx T
  refine T.f_read.okX S_read (fun vs H Q E h => ?_) (fun X cdv A outer s H vs Q E hX b hr h => ?_)
  · obtain ⟨rfl, _⟩ := h
    rfl
  · subst hX
    obtain ⟨rfl, q⟩ := h
    exact ⟨_, pss_cons (ps_expr (pe_call GC hr rfl T.g_chkx T.f_chkx.kp T.b_chkx .nil b.pass_ (pa_cons (pv 0) (pa_cons (pv 1) pa_nil)))) pss_never, _, rfl, _, rfl, rfl, q⟩
def spChN (x : Addr) : Sp := fun vs H _ E => vs = [.non, .int 2] ∧ E (.ref x) none H
def spChY : Sp := fun vs H Q _ => ∃ p, vs = [.ref p, .int 2] ∧ H p = some (.lst []) ∧ ∀ l, H l = none → Q (.ref l) (upd H l (.lst []))
theorem S_chs : FnScope ["sorters", "many", "sorter"] ["sorters", "many"] (defScope s_chs) := ⟨rfl, rfl, rfl, by decide +kernel, rfl, by decide +kernel, by decide +kernel⟩
theorem ok_chN (T : Txt K mg a d) : FnOk P w K mg base (CXx P w) 3 a.chs d.chs ["sorters", "many"] (spChN a.bsor) := by
  have GL : FnOk P w K mg base (CXx P w) 1 a.dlist d.dlist ["value", "least", "most"] (spList K) := ok_dlist T
  have GI : FnOk P w K mg base (CXx P w) 2 a.within d.within ["value", "least", "most"] (spWithin K) := ok_within T
  obtain ⟨t1, e1⟩ := T.places
  obtain ⟨t2, e2⟩ := T.most
  refine T.f_chs.okX S_chs (fun vs H Q E h => ?_) (fun X cdv A outer s H vs Q E hX b hr h => ?_)
  · obtain ⟨rfl, _⟩ := h
    rfl
  · subst hX
    obtain ⟨rfl, q⟩ := h
    have hr1 : Room 1 _ := hr.mono (by decide)
    refine ⟨_, pss_cons (ps_if (pt_not (pt_val (pe_call GI hr rfl T.g_within T.f_within.kp T.b_within .nil pass0x (pa_cons (pv 1) (pa_cons pe_int (pa_cons (pe_glob (v := .int 8) rfl e1 ⟨t1, rfl⟩) pa_nil)))))) pss_never pss_nil)
      (pss_cons (ps_if (pt_not (pt_val (pe_call GL hr1 rfl T.g_dlist T.f_dlist.kp T.b_dlist .nil pass0x (pa_cons (pv 0) (pa_cons pe_int (pa_cons (pe_glob (v := .int 64) rfl e2 ⟨t2, rfl⟩) pa_nil))))))
        (pss_one (ps_raise b rfl rfl T.g_bsor T.x_bsor (pa_cons pe_str pa_nil))) pss_nil) pss_never), ?_⟩
    exact ⟨_, rfl, _, _, 1, 8, rfl, .int _, _, rfl, _, rfl, _, 0, 64, rfl, .inl ⟨rfl, _, rfl, one_line, q⟩⟩
theorem ok_chY (T : Txt K mg a d) : FnOk P w K mg base (CXx P w) 3 a.chs d.chs ["sorters", "many"] spChY := by
  have GL : FnOk P w K mg base (CXx P w) 1 a.dlist d.dlist ["value", "least", "most"] (spList K) := ok_dlist T
  have GI : FnOk P w K mg base (CXx P w) 2 a.within d.within ["value", "least", "most"] (spWithin K) := ok_within T
  obtain ⟨t1, e1⟩ := T.places
  obtain ⟨t2, e2⟩ := T.most
  refine T.f_chs.okN S_chs (fun vs H Q E h => ?_) (fun cdv A outer s H vs Q E hr h => ?_)
  · obtain ⟨p, rfl, _⟩ := h
    rfl
  · obtain ⟨p, rfl, hp, q⟩ := h
    have hr1 : Room 1 _ := hr.mono (by decide)
    refine ⟨_, pss_cons (ps_if (pt_not (pt_val (pe_call GI hr rfl T.g_within T.f_within.kp T.b_within .nil pass0x (pa_cons (pv 1) (pa_cons pe_int (pa_cons (pe_glob (v := .int 8) rfl e1 ⟨t1, rfl⟩) pa_nil)))))) pss_never pss_nil)
      (pss_cons (ps_if (pt_not (pt_val (pe_call GL hr1 rfl T.g_dlist T.f_dlist.kp T.b_dlist .nil pass0x (pa_cons (pv 0) (pa_cons pe_int (pa_cons (pe_glob (v := .int 64) rfl e2 ⟨t2, rfl⟩) pa_nil)))))) pss_never pss_nil)
      (pss_cons (ps_for PassesOwn.never rfl (pi_list (pv 0)) pg_never pss_never)
      (pss_one (ps_ret (pe_callTy call_list_of rfl T.list_ bt_list (pa_cons (pv 0) pa_nil)))))), ?_⟩
    refine ⟨_, rfl, _, _, 1, 8, rfl, .int _, _, rfl, _, rfl, _, 0, 64, rfl, .inr ⟨p, [], rfl, hp, _, rfl, ?_⟩⟩
    refine ⟨_, rfl, p, rfl, ⟨_, SqL.of hp⟩, for_list (K := K) (a := p) (xs := []) (fun _ σ' H' => σ' = start ["sorters", "many", "sorter"] [.ref p, .int 2] ∧ H' = H) ⟨rfl, rfl⟩ (fun i σ' H' _ e => by rw [e.2]; exact SqL.of hp) (fun i x σ' H' e => by simp at e) (fun σ' H' e => ?_)⟩
    rw [e.1, e.2]
    exact ⟨_, rfl, p, [], rfl, .inl (SqL.of hp), q⟩
def spDone : Sp := fun vs H Q _ => ∃ p r xs, vs = [.ref p, .ref r] ∧ H p = some (.lst []) ∧ H r = some (.lst xs) ∧ ∀ l, H l = none → Q (.ref l) (upd H l (.lst xs))
theorem S_done : FnScope ["sorters", "row", "behind", "low", "high"] ["sorters", "row"] (defScope s_done) := ⟨rfl, rfl, rfl, by decide +kernel, rfl, by decide +kernel, by decide +kernel⟩
theorem ok_done (T : Txt K mg a d) : FnOk P w K mg base (CXx P w) 1 a.done d.done ["sorters", "row"] spDone := by
  refine T.f_done.okN S_done (fun vs H Q E h => ?_) (fun cdv A outer s H vs Q E hr h => ?_)
  · obtain ⟨p, r, xs, rfl, _⟩ := h
    rfl
  · obtain ⟨p, r, xs, rfl, hp, hx, q⟩ := h
    refine ⟨_, pss_cons (ps_set (i := 2) S_done.nd rfl (Or.inl rfl) (pe_callTy call_list_of rfl T.list_ bt_list (pa_cons (pv 1) pa_nil)))
      (pss_cons (ps_for PassesOwn.never rfl (pi_list (pv 0)) pg_never pss_never) (pss_one (ps_ret (pv 2)))), ?_⟩
    refine ⟨_, rfl, r, xs, rfl, .inl (SqL.of hx), fun l hl => ?_⟩
    have hp' := same_new (o := .lst xs) hl _ _ hp
    refine ⟨_, rfl, p, rfl, ⟨_, SqL.of hp'⟩, for_list (K := K) (a := p) (xs := []) (fun _ σ' H' => σ' = [some (.ref p), some (.ref r), some (.ref l), none, none] ∧ H' = upd H l (.lst xs)) ⟨rfl, rfl⟩ (fun i σ' H' _ e => by rw [e.2]; exact SqL.of hp') (fun i x σ' H' e => by simp at e) (fun σ' H' e => ?_)⟩
    rw [e.1, e.2]
    exact ⟨_, rfl, q l hl⟩
end
end Ka30
set_option maxHeartbeats 4000000
namespace Ka30
open PySem L2
section
variable {P : Program} {w : World} {K : PySem.W.Frag} {mg : Str → Option Value} {base : Heap} {a : Ad} {d : Fd}
theorem rows_at {H : Hp} {as : List Addr} {rs : List (List V)} (h : Rows H as rs) {i : Nat} {x : V} (e : (as.map V.ref)[i]? = some x) : ∃ y r, x = .ref y ∧ rs[i]? = some r ∧ H y = some (.lst r) := by
  rw [List.getElem?_map] at e
  cases q : as[i]? with
  | none => rw [q] at e; cases e
  | some y =>
    rw [q] at e
    cases Option.some.inj e
    cases q' : rs[i]? with
    | none =>
      have h1 := (List.getElem?_eq_some_iff.mp q).1
      have h2 := List.getElem?_eq_none_iff.mp q'
      rw [h.1] at h1
      omega
    | some r => exact ⟨y, r, rfl, rfl, h.2 i y r q q'⟩
theorem rows_app {H : Hp} {as bs : List Addr} {rs qs : List (List V)} (h : Rows H as rs) (k : Rows H bs qs) : Rows H (as ++ bs) (rs ++ qs) := by
  refine ⟨by rw [List.length_append, List.length_append, h.1, k.1], fun j x r e1 e2 => ?_⟩
  by_cases hj : j < as.length
  · rw [List.getElem?_append_left hj] at e1
    rw [List.getElem?_append_left (by rw [← h.1]; exact hj)] at e2
    exact h.2 j x r e1 e2
  · rw [List.getElem?_append_right (by omega)] at e1
    rw [List.getElem?_append_right (by rw [← h.1]; omega), ← h.1] at e2
    exact k.2 _ x r e1 e2
theorem rows_same {H H' : Hp} {as : List Addr} {rs : List (List V)} (h : Rows H as rs) (s : Same H H') : Rows H' as rs := ⟨h.1, fun j x r e1 e2 => s _ _ (h.2 j x r e1 e2)⟩
theorem comp_pre {R D : Addr} {as : List Addr} {rs : List (List V)} {c : V} {fv : List (Option V)} {tt : TT} {te : TE} {Q : VK} {H : Hp} (h : H R = some (.lst (as.map V.ref))) (hr : Rows H as rs) (h100 : rs.length ≤ 100) (hD : H D = none)
    (ht : ∀ σ H' Q', Q' true H' → tt σ H' Q') (hte : ∀ x r H' Q', H' x = some (.lst r) → r ∈ rs → (∀ l H2, Same H' H2 → H' l = none → H2 l = some (.lst (c :: r)) → Q' (.ref l) H2) → te (some (.ref x) :: fv) H' Q')
    (q : ∀ bs H', H' D = some (.lst (bs.map V.ref)) → Rows H' bs (rs.map (c :: ·)) → Same H H' → Q (.ref D) H') : CompG (Itl K R) fv tt te Q H D := by
  have hsl : sizeLine = 16777216 := sizeLine_eq
  refine comp_list (K := K) (a := R) (xs := as.map V.ref) (fun i H' => ∃ bs : List Addr, bs.length = i ∧ i ≤ rs.length ∧ H' D = some (.lst (bs.map V.ref)) ∧ Rows H' bs ((rs.map (c :: ·)).take i) ∧ Same H H' ∧ D ∉ bs) ?_ ?_ ?_ ?_
  · exact ⟨[], rfl, Nat.zero_le _, upd_same, ⟨rfl, fun j x r e => by simp at e⟩, same_new hD, List.not_mem_nil⟩
  · rintro i H' _ ⟨bs, _, _, _, _, sm, _⟩
    exact SqL.of (sm _ _ h)
  · rintro i x H' hi ⟨bs, hl, hil, hD', hb, sm, nD⟩
    obtain ⟨y, r, rfl, er, hy⟩ := rows_at hr hi
    have hlt := (List.getElem?_eq_some_iff.mp er).1
    refine ht _ _ _ ?_
    rw [if_pos rfl]
    refine hte y r H' _ (sm _ _ hy) (List.mem_of_getElem? er) fun l H2 s2 hl0 hl2 => ⟨bs.map V.ref, s2 _ _ hD', by rw [List.length_map, hl]; omega, bs ++ [l], by rw [List.length_append, hl]; rfl, hlt, ?_, ?_, ?_, ?_⟩
    all_goals
      have nDl : D ≠ l := fun z => by rw [← z, hD'] at hl0; cases hl0
    · rw [upd_same, List.map_append]
      rfl
    · have e2 : (rs.map (c :: ·)).take (i + 1) = (rs.map (c :: ·)).take i ++ [c :: r] := by
        rw [List.take_add_one, List.getElem?_map, er]
        rfl
      rw [e2]
      refine ⟨by rw [List.length_append, List.length_append, hb.1]; rfl, fun j z u e1 e3 => ?_⟩
      by_cases hj : j < bs.length
      · rw [List.getElem?_append_left hj] at e1
        rw [List.getElem?_append_left (by rw [← hb.1]; exact hj)] at e3
        rw [upd_ne (fun (y : z = D) => nD (by rw [← y]; exact List.mem_of_getElem? e1))]
        exact s2 _ _ (hb.2 j z u e1 e3)
      · have hj' : j = bs.length := by
          have z := (List.getElem?_eq_some_iff.mp e1).1
          rw [List.length_append, List.length_singleton] at z
          omega
        subst hj'
        rw [List.getElem?_append_right (Nat.le_refl _), Nat.sub_self] at e1
        rw [hb.1, List.getElem?_append_right (Nat.le_refl _), Nat.sub_self] at e3
        cases e1
        cases e3
        rw [upd_ne (Ne.symm nDl)]
        exact hl2
    · intro b o e
      rw [upd_ne (ne_of_none e hD)]
      exact s2 _ _ (sm _ _ e)
    · intro m
      rcases List.mem_append.mp m with m | m
      · exact nD m
      · exact nDl (List.mem_singleton.mp m)
  · rintro H' ⟨bs, hl, hil, hD', hb, sm, nD⟩
    have e : (as.map V.ref).length = (rs.map (c :: ·)).length := by rw [List.length_map, List.length_map, hr.1]
    rw [e, List.take_length] at hb
    exact q bs H' hD' hb sm
def tbl : Nat → List (List V)
  | 0 => [[]]
  | n + 1 => (tbl n).map (V.int 0 :: ·) ++ (tbl n).map (V.int 1 :: ·)
def spNao : Sp := fun vs H Q _ => vs = [.int 2] ∧ ∀ R as H', Same H H' → H' R = some (.lst (as.map V.ref)) → Rows H' as (tbl 2) → Q (.ref R) H'
theorem S_nao : FnScope ["many", "rows", "place"] ["many"] (defScope s_nao) := ⟨rfl, rfl, rfl, by decide +kernel, rfl, by decide +kernel, by decide +kernel⟩
theorem tbl_le {i : Nat} (h : i < 2) : (tbl i).length ≤ 2 ∧ ∀ r ∈ tbl i, r.length ≤ 1 := by
  match i, h with
  | 0, _ => exact ⟨by decide, fun r m => by rw [List.mem_singleton.mp m]; decide⟩
  | 1, _ => exact ⟨by decide, fun r m => by
      rcases List.mem_cons.mp m with z | m
      · rw [z]; decide
      · rw [List.mem_singleton.mp m]; decide⟩
theorem ok_nao (T : Txt K mg a d) : FnOk P w K mg base (CXx P w) 1 a.nao d.nao ["many"] spNao := by
  refine T.f_nao.okN S_nao (fun vs H Q E h => ?_) (fun cdv A outer s H vs Q E hr h => ?_)
  · obtain ⟨rfl, _⟩ := h
    rfl
  · obtain ⟨rfl, q⟩ := h
    have hsl : sizeLine = 16777216 := sizeLine_eq
    refine ⟨_, pss_cons (ps_set (i := 1) S_nao.nd rfl (Or.inl rfl) (pe_lst (pa_cons (pe_lst pa_nil) pa_nil)))
      (pss_cons (ps_for PassesOwn.never rfl (pi_range1 rfl T.range (pa_cons (pv 0) pa_nil)) (pg_name (i := 2) S_nao.nd rfl (Or.inl rfl))
        (pss_one (ps_set (i := 1) S_nao.nd rfl (Or.inl rfl) (pe_op op_cat
          (pe_comp rfl (pi_list (pv 1)) (comp0 rfl (by decide +kernel) (by decide +kernel) rfl rfl ⟨(fun z => nomatch z), ⟨(fun z => nomatch z), trivial⟩⟩) (fun _ _ _ _ _ => pifs_nil) (fun _ _ _ _ _ => pe_op op_cat (pe_lst (pa_cons pe_int pa_nil)) (pv 0)))
          (pe_comp rfl (pi_list (pv 1)) (comp0 rfl (by decide +kernel) (by decide +kernel) rfl rfl ⟨(fun z => nomatch z), ⟨(fun z => nomatch z), trivial⟩⟩) (fun _ _ _ _ _ => pifs_nil) (fun _ _ _ _ _ => pe_op op_cat (pe_lst (pa_cons pe_int pa_nil)) (pv 0)))))))
      (pss_one (ps_ret (pv 1)))), ?_⟩
    refine ⟨Nat.zero_le _, fun p0 h0 => ⟨by show 1 ≤ sizeLine; omega, fun R0 hR0 => ?_⟩⟩
    refine ⟨_, rfl, 2, rfl, by decide, by decide, ?_⟩
    refine for_range (lo := 0) (n := 2) (fun i σ H' => ∃ R as v, σ = [some (.int 2), some (.ref R), v] ∧ Same H H' ∧ H' R = some (.lst (as.map V.ref)) ∧ Rows H' as (tbl i)) ?_ ?_ ?_
    · refine ⟨R0, [p0], none, rfl, (same_new h0).trans (same_new hR0), upd_same, rfl, fun j x r e1 e2 => ?_⟩
      match j with
      | 0 =>
        cases e1
        cases e2
        exact same_new hR0 _ _ upd_same
      | j + 1 => cases e1
    · rintro i σ H1 hi ⟨R, as, v, rfl, sm, hR, hrw⟩
      obtain ⟨b1, b2⟩ := tbl_le hi
      have body : ∀ (c : Int) (x : Addr) (r : List V) (H' : Hp) (Q' : VK), H' x = some (.lst r) → r ∈ tbl i → (∀ l H2, Same H' H2 → H' l = none → H2 l = some (.lst (.int c :: r)) → Q' (.ref l) H2) → tOp rCat (tLst (tCons (tC (V.int c)) tNil)) (tVar 0) (some (.ref x) :: []) H' Q' := fun c x r H' Q' hx hr q' => by
        refine ⟨by show 1 ≤ sizeLine; omega, fun p hp => ⟨_, rfl, p, x, _, r, rfl, rfl, upd_same, same_new hp _ _ hx, ?_, fun l hl => ?_⟩⟩
        · have := b2 r hr
          show 1 + r.length ≤ sizeLine
          omega
        · exact q' l _ ((same_new hp).trans (same_new hl)) ((same_new hp).free hl) upd_same
      refine ⟨_, rfl, R, rfl, ⟨_, SqL.of hR⟩, fun D1 hD1 => ?_⟩
      refine comp_pre (c := .int 0) hR hrw (by omega) hD1 (fun _ _ _ h => h) (body 0) fun bs H2 hD2 hb2 s2 => ?_
      refine ⟨_, rfl, R, rfl, ⟨_, SqL.of (s2 _ _ hR)⟩, fun D2 hD2' => ?_⟩
      refine comp_pre (c := .int 1) (s2 _ _ hR) (rows_same hrw s2) (by omega) hD2' (fun _ _ _ h => h) (body 1) fun cs H3 hD3 hb3 s3 => ?_
      have l2 := hb2.1
      have l3 := hb3.1
      rw [List.length_map] at l2 l3
      refine ⟨D1, D2, _, _, rfl, rfl, s3 _ _ hD2, hD3, by rw [List.length_map, List.length_map]; omega, fun R' hR' => ?_⟩
      refine ⟨R', bs ++ cs, _, rfl, ((sm.trans s2).trans s3).trans (same_new hR'), ?_, rows_same (rows_app (rows_same hb2 s3) hb3) (same_new hR')⟩
      rw [upd_same, List.map_append]
    · rintro σ H1 ⟨R, as, v, rfl, sm, hR, hrw⟩
      exact ⟨_, rfl, q R as H1 sm hR hrw⟩
theorem ints_flat (ns : List Int) : (ns.map V.int).all flatV = true := by
  rw [List.all_map, List.all_eq_true]
  exact fun _ _ => rfl
def spFirst : Sp := fun vs H Q _ => ∃ p, vs = [.ref p, .int 2] ∧ H p = some (.lst []) ∧ ∀ r H', Same H H' → Q (.ref r) H'
theorem S_first : FnScope ["sorters", "many", "row"] ["sorters", "many"] (defScope s_first) := ⟨rfl, rfl, rfl, by decide +kernel, rfl, by decide +kernel, by decide +kernel⟩
theorem tbl2 {i : Nat} {r : List V} (hi : i ≤ 2) (h : (tbl 2)[i]? = some r) : ∃ x y : Int, r = [.int x, .int y] ∧ (decide (srt [x, y] = [x, y]) = true ↔ i < 2) := by
  have up : ∀ x y : Int, x ≤ y → srt [x, y] = [x, y] := fun x y h => (srt_of (List.Perm.refl _) (List.pairwise_cons.mpr ⟨fun z m => by rw [List.mem_singleton.mp m]; exact h, List.pairwise_singleton _ _⟩)).symm
  match i, hi with
  | 0, _ => cases h; exact ⟨0, 0, rfl, by rw [up 0 0 (by decide)]; decide⟩
  | 1, _ => cases h; exact ⟨0, 1, rfl, by rw [up 0 1 (by decide)]; decide⟩
  | 2, _ =>
    cases h
    refine ⟨1, 0, rfl, fun z => ?_, fun z => absurd z (by decide)⟩
    have z := of_decide_eq_true z
    have r := srt_rising ([1, 0] : List Int)
    rw [z] at r
    have := (List.pairwise_cons.mp r).1 0 (List.mem_cons_self)
    omega
theorem ok_first (T : Txt K mg a d) : FnOk P w K mg base (CXx P w) 2 a.first d.first ["sorters", "many"] spFirst := by
  have GN : FnOk P w K mg base (CXx P w) 1 a.nao d.nao ["many"] spNao := ok_nao T
  have GD : FnOk P w K mg base (CXx P w) 1 a.done d.done ["sorters", "row"] spDone := ok_done T
  refine T.f_first.okN S_first (fun vs H Q E h => ?_) (fun cdv A outer s H vs Q E hr h => ?_)
  · obtain ⟨p, rfl, _⟩ := h
    rfl
  · obtain ⟨p, rfl, hp, q⟩ := h
    have hsl : sizeLine = 16777216 := sizeLine_eq
    have hu := hu_of hr
    refine ⟨_, pss_cons (ps_for PassesOwn.never rfl (pi_list (pe_call GN hr rfl T.g_nao T.f_nao.kp T.b_nao .nil pass0x (pa_cons (pv 1) pa_nil))) (pg_name (i := 2) S_first.nd rfl (Or.inl rfl))
        (pss_one (ps_if (pt_cmpR (op_ne_list (Nat.lt_of_le_of_lt (Nat.le_succ _) hu)) (pe_call GD hr rfl T.g_done T.f_done.kp T.b_done .nil pass0x (pa_cons (pv 0) (pa_cons (pv 2) pa_nil))) (pe_callB call_sortedL rfl T.sorted_ bt_sorted (pa_cons (pv 2) pa_nil)) (nomark _)) (pss_one (ps_ret (pv 2))) pss_nil))) pss_never, ?_⟩
    refine ⟨_, rfl, rfl, fun R as H1 s1 hR hrw => ⟨R, rfl, ⟨_, SqL.of hR⟩, ?_⟩⟩
    refine for_list (K := K) (a := R) (xs := as.map V.ref) (fun i σ H' => ∃ v, σ = [some (.ref p), some (.int 2), v] ∧ i ≤ 2 ∧ Same H1 H') ⟨none, rfl, by decide, Same.refl _⟩ (fun i σ H' _ hh => ?_) ?_ ?_
    · obtain ⟨_, _, _, sm⟩ := hh
      exact SqL.of (sm _ _ hR)
    · rintro i x σ H2 hi ⟨v, rfl, hi2, sm⟩
      obtain ⟨y, r, rfl, er, hy⟩ := rows_at hrw hi
      obtain ⟨m, n, rfl, iff2⟩ := tbl2 hi2 er
      have sA := s1.trans sm
      refine ⟨_, rfl, _, rfl, p, y, _, rfl, sA _ _ hp, sm _ _ hy, fun l hl => ?_⟩
      have s3 := same_new (o := .lst [.int m, .int n]) hl
      refine ⟨_, rfl, y, [m, n], rfl, SqL.of (s3 _ _ (sm _ _ hy)), by show 2 < 64; decide, fun l' hl' => ?_⟩
      have s4 := same_new (o := .lst ((srt [m, n]).map V.int)) hl'
      refine ⟨l, l', [m, n].map V.int, (srt [m, n]).map V.int, fun j => eqV (([m, n].map V.int).getD j .non) (((srt [m, n]).map V.int).getD j .non), rfl, rfl, SqL.of (s4 _ _ upd_same), SqL.of upd_same, fun _ j x y hx hy => flat_items (ints_flat _) (ints_flat _) j x y hx hy, _, rfl, ?_⟩
      have e := eqVs_ints [m, n] (srt [m, n])
      unfold eqVs at e
      rw [if_pos rfl, e]
      have ee : decide ([m, n] = srt [m, n]) = decide (srt [m, n] = [m, n]) := decide_eq_decide.mpr ⟨Eq.symm, Eq.symm⟩
      rw [ee]
      refine ite2 (fun z => ?_) (fun z => ?_)
      · exact ⟨_, rfl, q y _ (((sA.trans s3).trans s4))⟩
      · have z : decide (srt [m, n] = [m, n]) = true := by
          cases qq : decide (srt [m, n] = [m, n]) with
          | true => rfl
          | false => rw [qq] at z; exact absurd rfl z
        exact ⟨_, rfl, iff2.mp z, (sm.trans s3).trans s4⟩
    · rintro σ H2 ⟨v, rfl, hi2, sm⟩
      have : (as.map V.ref).length = 4 := by rw [List.length_map, hrw.1]; rfl
      omega
def spLean (x : Addr) : Sp := fun vs H _ E => ∃ p, vs = [.ref p, .int 2] ∧ H p = some (.lst []) ∧ ∀ H', Same H H' → E (.ref x) none H'
theorem S_lean : FnScope ["sorters", "many", "left", "place", "without"] ["sorters", "many"] (defScope s_lean) := ⟨rfl, rfl, rfl, by decide +kernel, rfl, by decide +kernel, by decide +kernel⟩
theorem ok_lean (T : Txt K mg a d) : FnOk P w K mg base (CXx P w) 4 a.lean d.lean ["sorters", "many"] (spLean a.uns) := by
  have GC : FnOk P w K mg base (CXx P w) 3 a.chs d.chs ["sorters", "many"] spChY := ok_chY T
  have GF : FnOk P w K mg base (CXx P w) 2 a.first d.first ["sorters", "many"] spFirst := ok_first T
  refine T.f_lean.okX S_lean (fun vs H Q E h => ?_) (fun X cdv A outer s H vs Q E hX b hr h => ?_)
  · obtain ⟨p, rfl, _⟩ := h
    rfl
  · subst hX
    obtain ⟨p, rfl, hp, q⟩ := h
    have hr2 : Room 2 _ := hr.mono (by decide)
    refine ⟨_, pss_cons (ps_set (i := 2) S_lean.nd rfl (Or.inl rfl) (pe_call GC hr rfl T.g_chs T.f_chs.kp T.b_chs .nil pass0x (pa_cons (pv 0) (pa_cons (pv 1) pa_nil))))
      (pss_cons (ps_if (pt_cmpR op_notN (pe_call GF hr2 rfl T.g_first T.f_first.kp T.b_first .nil pass0x (pa_cons (pv 2) (pa_cons (pv 1) pa_nil))) pe_non (nomark _))
        (pss_one (ps_raise b rfl rfl T.g_uns T.x_uns (pa_cons pe_str pa_nil))) pss_nil) pss_never), ?_⟩
    refine ⟨_, rfl, _, rfl, p, rfl, hp, fun l hl => ?_⟩
    refine ⟨_, rfl, _, rfl, l, rfl, upd_same, fun r H' s' => ⟨rfl, _, rfl, ?_⟩⟩
    exact ⟨one_line, q _ ((same_new hl).trans s')⟩
end
end Ka30
set_option maxHeartbeats 4000000
namespace Ka30
open PySem L2
theorem flds_put (I O S : Addr) (n : Int) : (flds I O S n).lookup ("put" : Str) = none := by rfl
theorem flds_drop (I O S : Addr) (n : Int) : (flds I O S n).lookup ("drop" : Str) = none := by rfl
theorem flds_lay (I O S : Addr) (n : Int) : (flds I O S n).lookup ("lay" : Str) = none := by rfl
structure One (C : Addr) (H : Hp) (p I O S x y : Addr) (v : V) (kvs : List (Key × V)) (nx : Int) : Prop where
  ob : ∃ dx, H p = some (.ins C dx (flds I O S nx))
  li : H I = some (.lst [.ref x])
  lo : H O = some (.lst [.ref y])
  hx : H x = some (.lst [v])
  hy : H y = some (.lst [v])
  st : H S = some (.dK kvs)
  ne : x ≠ y
def Kp (p S x y : Addr) (H H' : Hp) : Prop := ∀ b o, H b = some o → b ∉ [p, S, x, y] → H' b = some o
section
variable {P : Program} {w : World} {K : PySem.W.Frag} {mg : Str → Option Value} {base : Heap} {a : Ad} {d : Fd}
theorem One.same {C : Addr} {H H' : Hp} {p I O S x y : Addr} {v : V} {kvs : List (Key × V)} {nx : Int} (h : One C H p I O S x y v kvs nx) (s : Same H H') : One C H' p I O S x y v kvs nx := by
  obtain ⟨dx, ob⟩ := h.ob
  exact ⟨⟨dx, s _ _ ob⟩, s _ _ h.li, s _ _ h.lo, s _ _ h.hx, s _ _ h.hy, s _ _ h.st, h.ne⟩
def spLay (C : Addr) : Sp := fun vs H Q _ => ∃ p I O S x y, vs = [.ref p, .int 0, .int 0, .int 0, .int 0] ∧ One C H p I O S x y .non [] 1 ∧ ∀ kvs H', One C H' p I O S x y (.int 0) kvs 1 → Kp p S x y H H' → Q .non H'
theorem scLay : FnScope ["self", "number", "inlet", "outlet", "frame"] ["self", "number", "inlet", "outlet", "frame"] (defScope sLay) := ⟨rfl, rfl, rfl, by decide +kernel, rfl, by decide +kernel, by decide +kernel⟩
theorem ok_lay (T : Txt K mg a d) : FnOk P w K mg base (CXx P w) 1 a.lay d.lay ["self", "number", "inlet", "outlet", "frame"] (spLay a.hall) := by
  refine T.f_lay.okN scLay (fun vs H Q E h => ?_) (fun cdv A outer s H vs Q E hr h => ?_)
  · obtain ⟨p, I, O, S, x, y, rfl, _⟩ := h
    rfl
  · obtain ⟨p, I, O, S, x, y, rfl, h1, q⟩ := h
    have hu := hu_of hr
    have hsl : sizeLine = 16777216 := sizeLine_eq
    obtain ⟨dx, ob⟩ := h1.ob
    refine ⟨_, pss_cons (ps_dput hu (pe_fld (pv 0) rfl) (pv 1) (pe_tup (pa_cons (pv 2) (pa_cons (pv 3) (pa_cons (pv 4) pa_nil)))) rfl)
      (pss_cons (ps_asg (pv 1) (pg_sub (pe_ix ix_list (pe_fld (pv 0) rfl) (pv 2) (fun _ _ => rfl)) (pv 4) set_list))
      (pss_one (ps_asg (pv 1) (pg_sub (pe_ix ix_list (pe_fld (pv 0) rfl) (pv 3) (fun _ _ => rfl)) (pv 4) set_list)))), ?_⟩
    refine ⟨_, rfl, _, rfl, _, rfl, by show 3 ≤ sizeLine; omega, fun t ht => ?_⟩
    have s1 : Same H (upd H t (.tup [.int 0, .int 0, .int 0])) := same_new ht
    have g1 := h1.same s1
    refine ⟨_, rfl, p, a.hall, dx, _, _, rfl, s1 _ _ ob, T.cls, T.nS, flds_S _ _ _ _, _, rfl, S, _, rfl, DPut.k (k := Sum.inl (0 : Int)) g1.st (by decide), ?_⟩
    obtain ⟨dx1, ob1⟩ := g1.ob
    have npS : p ≠ S := ne_of ob1 g1.st (by simp)
    have nIS : I ≠ S := ne_of g1.li g1.st (by simp)
    have nOS : O ≠ S := ne_of g1.lo g1.st (by simp)
    have nxS : x ≠ S := ne_of g1.hx g1.st (by simp)
    have nyS : y ≠ S := ne_of g1.hy g1.st (by simp)
    have npx : p ≠ x := ne_of ob1 g1.hx (by simp)
    have nIx : I ≠ x := ne_of g1.li g1.hx (by simp)
    have nOx : O ≠ x := ne_of g1.lo g1.hx (by simp)
    have npy : p ≠ y := ne_of ob1 g1.hy (by simp)
    have nIy : I ≠ y := ne_of g1.li g1.hy (by simp)
    have nOy : O ≠ y := ne_of g1.lo g1.hy (by simp)
    refine ⟨_, rfl, _, rfl, p, a.hall, dx1, _, _, rfl, by rw [upd_ne npS]; exact ob1, T.cls, T.nI, flds_I _ _ _ _, _, rfl, I, _, ((0 : Nat) : Int), .ref x, rfl, rfl, SqL.of (by rw [upd_ne nIS]; exact g1.li), atI_nat rfl, _, rfl, x, [.non], ((0 : Nat) : Int), 0, rfl, rfl, by rw [upd_ne nxS]; exact g1.hx, rfl, ?_⟩
    refine ⟨_, rfl, _, rfl, p, a.hall, dx1, _, _, rfl, by rw [upd_ne npx, upd_ne npS]; exact ob1, T.cls, T.nO, flds_O _ _ _ _, _, rfl, O, _, ((0 : Nat) : Int), .ref y, rfl, rfl, SqL.of (by rw [upd_ne nOx, upd_ne nOS]; exact g1.lo), atI_nat rfl, _, rfl, y, [.non], ((0 : Nat) : Int), 0, rfl, rfl, by rw [upd_ne (Ne.symm h1.ne), upd_ne nyS]; exact g1.hy, rfl, ?_⟩
    refine q _ _ ⟨⟨dx1, by rw [upd_ne npy, upd_ne npx, upd_ne npS]; exact ob1⟩, by rw [upd_ne nIy, upd_ne nIx, upd_ne nIS]; exact g1.li, by rw [upd_ne nOy, upd_ne nOx, upd_ne nOS]; exact g1.lo, by rw [upd_ne h1.ne, upd_same]; rfl, by rw [upd_same]; rfl, by rw [upd_ne (Ne.symm nyS), upd_ne (Ne.symm nxS), upd_same], h1.ne⟩ (fun b o e n => ?_)
    rw [upd_ne (fun z => n (by rw [z]; simp)), upd_ne (fun z => n (by rw [z]; simp)), upd_ne (fun z => n (by rw [z]; simp))]
    exact s1 _ _ e
theorem scPut : FnScope ["self", "inlet", "outlet", "inlet_end", "outlet_end", "moved", "frame", "number"] ["self", "inlet", "outlet"] (defScope sPut) := ⟨rfl, rfl, rfl, by decide +kernel, rfl, by decide +kernel, by decide +kernel⟩
def spPut1 (C : Addr) : Sp := fun vs H Q _ => ∃ p I O S x y, vs = [.ref p, .int 0, .int 0] ∧ One C H p I O S x y .non [] 0 ∧ ∀ kvs H' v, One C H' p I O S x y (.int 0) kvs 1 → Kp p S x y H H' → Q v H'
theorem ok_put1 (T : Txt K mg a d) : FnOk P w K mg base (CXx P w) 4 a.put d.put ["self", "inlet", "outlet"] (spPut1 a.hall) := by
  have GE : FnOk P w K mg base (CXx P w) 3 a.endAt d.endAt ["ends", "place"] (spEnd K a.noEnd) := ok_end T
  have GF : FnOk P w K mg base (CXx P w) 2 a.isFull d.isFull ["end"] (spFull K) := ok_full T
  have GB : FnOk P w K mg base (CXx P w) 1 a.both d.both ["one", "other"] (spBoth K) := ok_both T
  have GY : FnOk P w K mg base (CXx P w) 1 a.lay d.lay ["self", "number", "inlet", "outlet", "frame"] (spLay a.hall) := ok_lay T
  refine T.f_put.okX scPut (fun vs H Q E h => ?_) (fun X cdv A outer s H vs Q E hX b hr h => ?_)
  · obtain ⟨p, I, O, S, x, y, rfl, _⟩ := h
    rfl
  · subst hX
    obtain ⟨p, I, O, S, x, y, rfl, h1, q⟩ := h
    have hr1 : Room 1 _ := hr.mono (by decide)
    have hr2 : Room 2 _ := hr.mono (by decide)
    have hsl : sizeLine = 16777216 := sizeLine_eq
    obtain ⟨dx, ob⟩ := h1.ob
    refine ⟨_, pss_cons (ps_set (i := 3) scPut.nd rfl (Or.inl rfl) (pe_call GE hr rfl T.g_endAt T.f_endAt.kp T.b_endAt .nil b.pass_ (pa_cons (pe_fld (pv 0) rfl) (pa_cons (pv 1) pa_nil))))
      (pss_cons (ps_set (i := 4) scPut.nd rfl (Or.inl rfl) (pe_call GE hr rfl T.g_endAt T.f_endAt.kp T.b_endAt .nil b.pass_ (pa_cons (pe_fld (pv 0) rfl) (pa_cons (pv 2) pa_nil))))
      (pss_cons (ps_if (PW.pt (pw_or (pt_val (pe_call GF hr2 rfl T.g_isFull T.f_isFull.kp T.b_isFull .nil pass0x (pa_cons (pv 3) pa_nil))) (pw_or1 (pt_val (pe_call GF hr2 rfl T.g_isFull T.f_isFull.kp T.b_isFull .nil pass0x (pa_cons (pv 4) pa_nil)))))) pss_never pss_nil)
      (pss_cons (ps_set (i := 5) scPut.nd rfl (Or.inl rfl) (pe_lst pa_nil))
      (pss_cons (ps_set (i := 6) scPut.nd rfl (Or.inl rfl) (pe_call GB hr1 rfl T.g_both T.f_both.kp T.b_both .nil pass0x (pa_cons (pv 3) (pa_cons (pv 4) pa_nil))))
      (pss_cons (ps_if (pt_cmpR op_isN (pv 6) pe_non (nomark _)) pss_never pss_nil)
      (pss_cons (ps_set (i := 7) scPut.nd rfl (Or.inl rfl) (pe_fld (pv 0) rfl))
      (pss_cons (ps_fld (pv 0) (pe_op op_add (pv 7) pe_int) rfl)
      (pss_cons (ps_expr (pe_meth (pv 0) T.cls T.m_lay GY hr1 T.b_lay .nil pass0x (pa_cons (pv 7) (pa_cons (pv 1) (pa_cons (pv 2) (pa_cons (pv 6) pa_nil))))))
      (pss_one (ps_ret (pe_tup (pa_cons (pv 7) (pa_cons (pv 6) (pa_cons (pv 5) pa_nil)))))))))))))), ?_⟩
    refine ⟨_, rfl, p, a.hall, dx, _, _, rfl, ob, T.cls, T.nI, flds_I _ _ _ _, _, rfl, I, _, .int 0, _, rfl, SqL.of h1.li, .int _, fun i yi ei ey => ?_, fun hb => absurd (show (true : Bool) = false from hb) (by decide)⟩
    have ei : i = 0 := by injection ei with ei; omega
    subst ei
    cases ey
    refine ⟨_, rfl, p, a.hall, dx, _, _, rfl, ob, T.cls, T.nO, flds_O _ _ _ _, _, rfl, O, _, .int 0, _, rfl, SqL.of h1.lo, .int _, fun o yo eo eyo => ?_, fun hb => absurd (show (true : Bool) = false from hb) (by decide)⟩
    have eo : o = 0 := by injection eo with eo; omega
    subst eo
    cases eyo
    refine ⟨_, rfl, x, _, rfl, SqL.of h1.hx, rfl, _, rfl, ?_⟩
    refine ⟨_, rfl, y, _, rfl, SqL.of h1.hy, rfl, _, rfl, ?_⟩
    refine ⟨Nat.zero_le _, fun L0 hL0 => ?_⟩
    have s1 : Same H (upd H L0 (.lst [])) := same_new hL0
    have g1 := h1.same s1
    refine ⟨_, rfl, _, rfl, x, y, _, _, rfl, SqL.of g1.hx, SqL.of g1.hy, rfl, by decide, fun j j1 j2 jm => ?_, fun none => (none 0 rfl rfl).elim⟩
    have ej : j = 0 := by
      have z := (List.getElem?_eq_some_iff.mp j1).1
      have z : j < 1 := z
      omega
    subst ej
    obtain ⟨d1, o1⟩ := g1.ob
    refine ⟨_, rfl, rfl, _, rfl, ?_⟩
    refine ⟨_, rfl, p, a.hall, d1, _, _, rfl, o1, T.cls, T.nN, flds_N _ _ _ _, _, rfl, _, _, rfl, rfl, _, rfl, p, a.hall, d1, _, rfl, o1, T.cls, T.nN, by show 4 < 1000; decide, ?_⟩
    have npI : I ≠ p := ne_of g1.li o1 (by simp)
    have npO : O ≠ p := ne_of g1.lo o1 (by simp)
    have npx : x ≠ p := ne_of g1.hx o1 (by simp)
    have npy : y ≠ p := ne_of g1.hy o1 (by simp)
    have npS : S ≠ p := ne_of g1.st o1 (by simp)
    have g2 : One a.hall (upd (upd H L0 (.lst [])) p (.ins a.hall d1 (flds I O S 1))) p I O S x y .non [] 1 := ⟨⟨d1, upd_same⟩, by rw [upd_ne npI]; exact g1.li, by rw [upd_ne npO]; exact g1.lo, by rw [upd_ne npx]; exact g1.hx, by rw [upd_ne npy]; exact g1.hy, by rw [upd_ne npS]; exact g1.st, h1.ne⟩
    refine ⟨_, rfl, p, d1, _, rfl, upd_same, flds_lay _ _ _ _, _, rfl, _, rfl, _, rfl, _, rfl, p, I, O, S, x, y, rfl, g2, fun kvs H3 g3 kp3 => ?_⟩
    refine ⟨_, rfl, _, rfl, _, rfl, by show 3 ≤ sizeLine; omega, fun t ht => q kvs _ _ (g3.same (same_new ht)) fun b o e n => ?_⟩
    refine same_new ht _ _ (kp3 _ _ ?_ n)
    rw [upd_ne (fun z => n (by rw [z]; simp))]
    exact s1 _ _ e
def spPutN (C busy : Addr) : Sp := fun vs H _ E => ∃ p I O S x y kvs, vs = [.ref p, .int 0, .int 0] ∧ One C H p I O S x y (.int 0) kvs 1 ∧ E (.ref busy) none H
theorem ok_putN (T : Txt K mg a d) : FnOk P w K mg base (CXx P w) 4 a.put d.put ["self", "inlet", "outlet"] (spPutN a.hall a.busy) := by
  have GE : FnOk P w K mg base (CXx P w) 3 a.endAt d.endAt ["ends", "place"] (spEnd K a.noEnd) := ok_end T
  have GF : FnOk P w K mg base (CXx P w) 2 a.isFull d.isFull ["end"] (spFull K) := ok_full T
  refine T.f_put.okX scPut (fun vs H Q E h => ?_) (fun X cdv A outer s H vs Q E hX b hr h => ?_)
  · obtain ⟨p, I, O, S, x, y, kvs, rfl, _⟩ := h
    rfl
  · subst hX
    obtain ⟨p, I, O, S, x, y, kvs, rfl, h1, q⟩ := h
    have hr2 : Room 2 _ := hr.mono (by decide)
    obtain ⟨dx, ob⟩ := h1.ob
    refine ⟨_, pss_cons (ps_set (i := 3) scPut.nd rfl (Or.inl rfl) (pe_call GE hr rfl T.g_endAt T.f_endAt.kp T.b_endAt .nil b.pass_ (pa_cons (pe_fld (pv 0) rfl) (pa_cons (pv 1) pa_nil))))
      (pss_cons (ps_set (i := 4) scPut.nd rfl (Or.inl rfl) (pe_call GE hr rfl T.g_endAt T.f_endAt.kp T.b_endAt .nil b.pass_ (pa_cons (pe_fld (pv 0) rfl) (pa_cons (pv 2) pa_nil))))
      (pss_cons (ps_if (PW.pt (pw_or (pt_val (pe_call GF hr2 rfl T.g_isFull T.f_isFull.kp T.b_isFull .nil pass0x (pa_cons (pv 3) pa_nil))) (pw_or1 (pt_val (pe_call GF hr2 rfl T.g_isFull T.f_isFull.kp T.b_isFull .nil pass0x (pa_cons (pv 4) pa_nil))))))
        (pss_one (ps_raise b rfl rfl T.g_busy T.x_busy (pa_cons pe_str pa_nil))) pss_nil) pss_never)), ?_⟩
    refine ⟨_, rfl, p, a.hall, dx, _, _, rfl, ob, T.cls, T.nI, flds_I _ _ _ _, _, rfl, I, _, .int 0, _, rfl, SqL.of h1.li, .int _, fun i yi ei ey => ?_, fun hb => absurd (show (true : Bool) = false from hb) (by decide)⟩
    have ei : i = 0 := by injection ei with ei; omega
    subst ei
    cases ey
    refine ⟨_, rfl, p, a.hall, dx, _, _, rfl, ob, T.cls, T.nO, flds_O _ _ _ _, _, rfl, O, _, .int 0, _, rfl, SqL.of h1.lo, .int _, fun o yo eo eyo => ?_, fun hb => absurd (show (true : Bool) = false from hb) (by decide)⟩
    exact ⟨_, rfl, x, _, rfl, SqL.of h1.hx, rfl, _, rfl, one_line, q⟩
def spPut2 (C busy : Addr) : Sp := fun vs H _ E => ∃ p I O S x y, vs = [.ref p] ∧ One C H p I O S x y .non [] 0 ∧ ∀ H', Kp p S x y H H' → E (.ref busy) none H'
theorem S_ptw : FnScope ["_law_hall"] ["_law_hall"] (defScope s_ptw) := ⟨rfl, rfl, rfl, by decide +kernel, rfl, by decide +kernel, by decide +kernel⟩
theorem ok_ptw (T : Txt K mg a d) : FnOk P w K mg base (CXx P w) 5 a.ptw d.ptw ["_law_hall"] (spPut2 a.hall a.busy) := by
  have G1 : FnOk P w K mg base (CXx P w) 4 a.put d.put ["self", "inlet", "outlet"] (spPut1 a.hall) := ok_put1 T
  have G2 : FnOk P w K mg base (CXx P w) 4 a.put d.put ["self", "inlet", "outlet"] (spPutN a.hall a.busy) := ok_putN T
  refine T.f_ptw.okX S_ptw (fun vs H Q E h => ?_) (fun X cdv A outer s H vs Q E hX b hr h => ?_)
  · obtain ⟨p, I, O, S, x, y, rfl, _⟩ := h
    rfl
  · subst hX
    obtain ⟨p, I, O, S, x, y, rfl, h1, q⟩ := h
    obtain ⟨dx, ob⟩ := h1.ob
    refine ⟨_, pss_cons (ps_expr (pe_meth (pv 0) T.cls T.m_put G1 hr T.b_put .nil b.pass_ (pa_cons pe_int (pa_cons pe_int pa_nil)))) (pss_one (ps_ret (pe_meth (pv 0) T.cls T.m_put G2 hr T.b_put .nil b.pass_ (pa_cons pe_int (pa_cons pe_int pa_nil))))), ?_⟩
    refine ⟨_, rfl, p, dx, _, rfl, ob, flds_put _ _ _ _, p, I, O, S, x, y, rfl, h1, fun kvs H' v h2 kp => ?_⟩
    obtain ⟨dx', ob'⟩ := h2.ob
    exact ⟨_, rfl, p, dx', _, rfl, ob', flds_put _ _ _ _, p, I, O, S, x, y, kvs, rfl, h2, q H' kp⟩
def spOne (C no : Addr) (n : Int) : Sp := fun vs H _ E => ∃ p I O S x y, vs = [.ref p, .int n] ∧ One C H p I O S x y .non [] 0 ∧ E (.ref no) none H
theorem scLin : FnScope ["self", "inlet"] ["self", "inlet"] (defScope sLoadIn) := ⟨rfl, rfl, rfl, by decide +kernel, rfl, by decide +kernel, by decide +kernel⟩
theorem ok_lin (T : Txt K mg a d) : FnOk P w K mg base (CXx P w) 4 a.lin d.lin ["self", "inlet"] (spOne a.hall a.noEnd 1) := by
  have GE : FnOk P w K mg base (CXx P w) 3 a.endAt d.endAt ["ends", "place"] (spEnd K a.noEnd) := ok_end T
  have GL : FnOk P w K mg base (CXx P w) 1 a.load d.load ["end"] (spLoad K) := ok_load T
  refine T.f_lin.okX scLin (fun vs H Q E h => ?_) (fun X cdv A outer s H vs Q E hX b hr h => ?_)
  · obtain ⟨p, I, O, S, x, y, rfl, _⟩ := h
    rfl
  · subst hX
    obtain ⟨p, I, O, S, x, y, rfl, h1, q⟩ := h
    have hr1 : Room 1 _ := hr.mono (by decide)
    obtain ⟨dx, ob⟩ := h1.ob
    refine ⟨_, pss_one (ps_ret (pe_call GL hr1 rfl T.g_load T.f_load.kp T.b_load .nil pass0x (pa_cons (pe_call GE hr rfl T.g_endAt T.f_endAt.kp T.b_endAt .nil b.pass_ (pa_cons (pe_fld (pv 0) rfl) (pa_cons (pv 1) pa_nil))) pa_nil))), ?_⟩
    refine ⟨_, rfl, p, a.hall, dx, _, _, rfl, ob, T.cls, T.nI, flds_I _ _ _ _, _, rfl, I, _, .int 1, _, rfl, SqL.of h1.li, .int _, fun i y hv hy => ?_, fun _ => q⟩
    have ei : i = 1 := by injection hv with ei; omega
    subst ei
    cases hy
theorem scDrop : FnScope ["self", "number"] ["self", "number"] (defScope sDrop) := ⟨rfl, rfl, rfl, by decide +kernel, rfl, by decide +kernel, by decide +kernel⟩
theorem ok_drop (T : Txt K mg a d) : FnOk P w K mg base (CXx P w) 2 a.drop d.drop ["self", "number"] (spOne a.hall a.noCall 0) := by
  have GW : FnOk P w K mg base (CXx P w) 1 a.whole d.whole ["value"] (spWhole K) := ok_whole T
  refine T.f_drop.okX scDrop (fun vs H Q E h => ?_) (fun X cdv A outer s H vs Q E hX b hr h => ?_)
  · obtain ⟨p, I, O, S, x, y, rfl, _⟩ := h
    rfl
  · subst hX
    obtain ⟨p, I, O, S, x, y, rfl, h1, q⟩ := h
    have hu := hu_of hr
    obtain ⟨dx, ob⟩ := h1.ob
    refine ⟨_, pss_cons (ps_if (PW.pt (pw_or (pt_not (pt_val (pe_call GW hr rfl T.g_whole T.f_whole.kp T.b_whole .nil pass0x (pa_cons (pv 1) pa_nil)))) (pw_or1 (pt_cmp (pc_dnotin hu (pv 1) (pe_fld (pv 0) rfl)) rfl))))
        (pss_one (ps_raise b rfl rfl T.g_noCall T.x_noCall (pa_cons pe_str pa_nil))) pss_nil) pss_never, ?_⟩
    refine ⟨_, rfl, .int 0, _, rfl, .int _, _, rfl, ?_⟩
    refine ⟨_, rfl, _, rfl, p, a.hall, dx, _, _, rfl, ob, T.cls, T.nS, flds_S _ _ _ _, S, _, rfl, DGet.k (k := Sum.inl (0 : Int)) h1.st, _, rfl, ?_⟩
    exact ⟨one_line, q⟩
theorem make_one {E : XK} {σ : St} {H : Hp} {Q : VK} (q : ∀ p I O S x y H3, One a.hall H3 p I O S x y .non [] 0 → Same H H3 → (∀ b ∈ [p, S, x, y], H b = none) → Q (.ref p) H3) : tMake a.hall (spInit K a) [] E (tCons (tC (.int 1)) (tCons (tC (.int 1)) (tCons (tC (.int 1)) tNil))) σ H Q := by
  show ∀ pp dx, H pp = none → H dx = none → dx ≠ pp → _
  intro pp dx hpp hdx hne
  refine ⟨pp, dx, _, _, _, _, _, _, rfl, upd_same, .int _, .int _, .int _, (fun hb => absurd hb (by decide)), fun n' m' f' en' em ef _ I O S ia oa H3 hA kp frN => ⟨rfl, ?_⟩⟩
  have e1 : n' = 1 := by injection en' with z; omega
  have e2 : m' = 1 := by injection em with z; omega
  have e3 : f' = 1 := by injection ef with z; omega
  subst e1 e2 e3
  obtain ⟨x, rfl⟩ : ∃ x, ia = [x] := List.length_eq_one_iff.mp hA.ri.1
  obtain ⟨y, rfl⟩ : ∃ y, oa = [y] := List.length_eq_one_iff.mp hA.ro.1
  have ne : x ≠ y := fun z => by
    have nd := (List.nodup_cons.mp (List.nodup_cons.mp hA.nd).2).2
    have nd : [x, y].Nodup := nd
    rw [z] at nd
    simp at nd
  have frH : ∀ b, b ∈ I :: O :: S :: ([x] ++ [y]) → H b = none := fun b m => by
    have z := frN b m
    cases q : H b with
    | none => rfl
    | some u =>
      have nb : b ≠ pp := ne_of_none q hpp
      rw [upd_ne nb, upd_ne (ne_of_none q hdx), q] at z
      cases z
  refine q pp I O S x y H3 ⟨hA.ob, hA.li, hA.lo, hA.ri.2 0 _ _ rfl rfl, hA.ro.2 0 _ _ rfl rfl, hA.st, ne⟩ (fun b o z => ?_) fun b m => ?_
  · have nb : b ≠ pp := ne_of_none z hpp
    refine kp b o ?_ nb
    rw [upd_ne nb, upd_ne (ne_of_none z hdx)]
    exact z
  · rcases List.mem_cons.mp m with z | m
    · rw [z]; exact hpp
    · exact frH b (List.mem_cons_of_mem _ (List.mem_cons_of_mem _ m))
end
end Ka30
set_option maxHeartbeats 4000000
namespace Ka30
open PySem L2
section
variable {P : Program} {w : World} {K : PySem.W.Frag} {mg : Str → Option Value} {base : Heap} {a : Ad} {d : Fd}
theorem S_deed : FnScope ["_law_way"] ["_law_way"] (defScope s_deed) := ⟨rfl, rfl, rfl, by decide +kernel, rfl, by decide +kernel, by decide +kernel⟩
def spDeed (a : Ad) : Sp := fun vs H _ E => ∃ (k : Nat) (C : Addr), vs = [.int (k : Nat)] ∧ (nine a)[k]? = some C ∧ ∀ H', Same H H' → E (.ref C) none H'
theorem ok_deed (T : Txt K mg a d) : FnOk P w K mg base (CXx P w) 6 a.deed d.deed ["_law_way"] (spDeed a) := by
  have GM : FnOk P w K mg base (CXx P w) 4 a.init d.init ["self", "inlets", "outlets", "frames"] (spInit K a) := ok_init T
  have GI : FnOk P w K mg base (CXx P w) 4 a.lin d.lin ["self", "inlet"] (spOne a.hall a.noEnd 1) := ok_lin T
  have GT : FnOk P w K mg base (CXx P w) 5 a.ptw d.ptw ["_law_hall"] (spPut2 a.hall a.busy) := ok_ptw T
  have GD : FnOk P w K mg base (CXx P w) 2 a.drop d.drop ["self", "number"] (spOne a.hall a.noCall 0) := ok_drop T
  have G4 : FnOk P w K mg base (CXx P w) 2 a.ctab d.ctab ["table"] (spNo a.btab) := ok_ctab T
  have G5 : FnOk P w K mg base (CXx P w) 2 a.chk d.chk ["order"] (spNo a.bord) := ok_chk T
  have G6 : FnOk P w K mg base (CXx P w) 3 a.read d.read ["text", "many"] (spTx a.btxt) := ok_read T
  have G7 : FnOk P w K mg base (CXx P w) 3 a.chs d.chs ["sorters", "many"] (spChN a.bsor) := ok_chN T
  have G8 : FnOk P w K mg base (CXx P w) 4 a.lean d.lean ["sorters", "many"] (spLean a.uns) := ok_lean T
  refine T.f_deed.okX S_deed (fun vs H Q E h => ?_) (fun X cdv A outer s H vs Q E hX b hr h => ?_)
  · obtain ⟨k, C, rfl, _⟩ := h
    rfl
  · subst hX
    obtain ⟨k, C, rfl, hC, q⟩ := h
    have hsl : sizeLine = 16777216 := sizeLine_eq
    have r3 : Room 3 _ := hr.mono (by decide)
    have r4 : Room 4 _ := hr.mono (by decide)
    have r2 : Room 2 _ := hr.mono (by decide)
    refine ⟨_, pss_cons (ps_if (pt_cmpR op_eq (pv 0) pe_int (nomark _)) (pss_one (ps_ret (pe_make T.mkH GM hr rfl T.g_hall T.b_init .nil b.pass_ (pa_cons pe_int (pa_cons pe_int (pa_cons pe_int pa_nil)))))) pss_nil)
      (pss_cons (ps_if (pt_cmpR op_eq (pv 0) pe_int (nomark _)) (pss_one (ps_ret (pe_meth (pe_make T.mkH GM hr rfl T.g_hall T.b_init .nil b.pass_ (pa_cons pe_int (pa_cons pe_int (pa_cons pe_int pa_nil)))) T.cls T.m_lin GI r4 T.b_lin .nil b.pass_ (pa_cons pe_int pa_nil)))) pss_nil)
      (pss_cons (ps_if (pt_cmpR op_eq (pv 0) pe_int (nomark _)) (pss_one (ps_ret (pe_call GT hr rfl T.g_ptw T.f_ptw.kp T.b_ptw .nil b.pass_ (pa_cons (pe_make T.mkH GM hr rfl T.g_hall T.b_init .nil b.pass_ (pa_cons pe_int (pa_cons pe_int (pa_cons pe_int pa_nil)))) pa_nil)))) pss_nil)
      (pss_cons (ps_if (pt_cmpR op_eq (pv 0) pe_int (nomark _)) (pss_one (ps_ret (pe_meth (pe_make T.mkH GM hr rfl T.g_hall T.b_init .nil b.pass_ (pa_cons pe_int (pa_cons pe_int (pa_cons pe_int pa_nil)))) T.cls T.m_drop GD r2 T.b_drop .nil b.pass_ (pa_cons pe_int pa_nil)))) pss_nil)
      (pss_cons (ps_if (pt_cmpR op_eq (pv 0) pe_int (nomark _)) (pss_one (ps_ret (pe_call G4 r2 rfl T.g_ctab T.f_ctab.kp T.b_ctab .nil b.pass_ (pa_cons (pe_lst pa_nil) pa_nil)))) pss_nil)
      (pss_cons (ps_if (pt_cmpR op_eq (pv 0) pe_int (nomark _)) (pss_one (ps_ret (pe_call G5 r2 rfl T.g_chk T.f_chk.kp T.b_chk .nil b.pass_ (pa_cons (pe_lst pa_nil) pa_nil)))) pss_nil)
      (pss_cons (ps_if (pt_cmpR op_eq (pv 0) pe_int (nomark _)) (pss_one (ps_ret (pe_call G6 r3 rfl T.g_read T.f_read.kp T.b_read .nil b.pass_ (pa_cons pe_str (pa_cons pe_int pa_nil))))) pss_nil)
      (pss_cons (ps_if (pt_cmpR op_eq (pv 0) pe_int (nomark _)) (pss_one (ps_ret (pe_call G7 r3 rfl T.g_chs T.f_chs.kp T.b_chs .nil b.pass_ (pa_cons pe_non (pa_cons pe_int pa_nil))))) pss_nil)
      (pss_one (ps_ret (pe_call G8 r4 rfl T.g_lean T.f_lean.kp T.b_lean .nil b.pass_ (pa_cons (pe_lst pa_nil) (pa_cons pe_int pa_nil)))))))))))), ?_⟩
    have yes : ∀ {A B : Prop} (i : Int), A → (if decide (V.int i = V.int i) = true then A else B) := fun i h => by rw [if_pos (decide_eq_true rfl)]; exact h
    have no : ∀ {A B : Prop} (i j : Int), i ≠ j → B → (if decide (V.int i = V.int j) = true then A else B) := fun i j n h => by rw [if_neg (fun z => n (by injection of_decide_eq_true z))]; exact h
    have same1 : ∀ {p : Addr} {o : HO}, H p = none → Same H (upd H p o) := fun {p o} hp b u e => by rw [upd_ne (ne_of_none e hp)]; exact e
    match k, hC with
    | 0, hC =>
      cases hC
      refine ⟨_, rfl, rfl, _, rfl, yes 0 fun pp dx hpp hdx hne => ⟨pp, dx, _, _, _, _, _, _, rfl, upd_same, .int _, .int _, .int _, fun _ => q _ fun b o e => ?_, fun n m f _ _ _ z => absurd z (by decide)⟩⟩
      rw [upd_ne (ne_of_none e hpp), upd_ne (ne_of_none e hdx)]
      exact e
    | 1, hC =>
      cases hC
      refine ⟨_, rfl, rfl, _, rfl, no 1 0 (by decide) ⟨_, rfl, rfl, _, rfl, yes 1 ?_⟩⟩
      unfold tRet tMeth
      refine make_one fun p I O S x y H3 h1 sm fr => ?_
      obtain ⟨dx, ob⟩ := h1.ob
      exact ⟨p, dx, _, rfl, ob, flds_loadIn _ _ _ _, p, I, O, S, x, y, rfl, h1, q _ sm⟩
    | 2, hC =>
      cases hC
      refine ⟨_, rfl, rfl, _, rfl, no 2 0 (by decide) ⟨_, rfl, rfl, _, rfl, no 2 1 (by decide) ⟨_, rfl, rfl, _, rfl, yes 2 ?_⟩⟩⟩
      unfold tRet tCall tCons
      refine make_one fun p I O S x y H3 h1 sm fr => ⟨p, I, O, S, x, y, rfl, h1, fun H' kp => q H' fun b o e => kp b o (sm b o e) fun m => ?_⟩
      rw [fr b m] at e
      cases e
    | 3, hC =>
      cases hC
      refine ⟨_, rfl, rfl, _, rfl, no 3 0 (by decide) ⟨_, rfl, rfl, _, rfl, no 3 1 (by decide) ⟨_, rfl, rfl, _, rfl, no 3 2 (by decide) ⟨_, rfl, rfl, _, rfl, yes 3 ?_⟩⟩⟩⟩
      unfold tRet tMeth
      refine make_one fun p I O S x y H3 h1 sm fr => ?_
      obtain ⟨dx, ob⟩ := h1.ob
      exact ⟨p, dx, _, rfl, ob, flds_drop _ _ _ _, p, I, O, S, x, y, rfl, h1, q _ sm⟩
    | 4, hC =>
      cases hC
      exact ⟨_, rfl, rfl, _, rfl, no 4 0 (by decide) ⟨_, rfl, rfl, _, rfl, no 4 1 (by decide) ⟨_, rfl, rfl, _, rfl, no 4 2 (by decide) ⟨_, rfl, rfl, _, rfl, no 4 3 (by decide) ⟨_, rfl, rfl, _, rfl, yes 4 ⟨by show 0 ≤ sizeLine; omega, fun p hp => ⟨p, rfl, upd_same, q _ (same1 hp)⟩⟩⟩⟩⟩⟩⟩
    | 5, hC =>
      cases hC
      exact ⟨_, rfl, rfl, _, rfl, no 5 0 (by decide) ⟨_, rfl, rfl, _, rfl, no 5 1 (by decide) ⟨_, rfl, rfl, _, rfl, no 5 2 (by decide) ⟨_, rfl, rfl, _, rfl, no 5 3 (by decide) ⟨_, rfl, rfl, _, rfl, no 5 4 (by decide) ⟨_, rfl, rfl, _, rfl, yes 5 ⟨by show 0 ≤ sizeLine; omega, fun p hp => ⟨p, rfl, upd_same, q _ (same1 hp)⟩⟩⟩⟩⟩⟩⟩⟩
    | 6, hC =>
      cases hC
      exact ⟨_, rfl, rfl, _, rfl, no 6 0 (by decide) ⟨_, rfl, rfl, _, rfl, no 6 1 (by decide) ⟨_, rfl, rfl, _, rfl, no 6 2 (by decide) ⟨_, rfl, rfl, _, rfl, no 6 3 (by decide) ⟨_, rfl, rfl, _, rfl, no 6 4 (by decide) ⟨_, rfl, rfl, _, rfl, no 6 5 (by decide) ⟨_, rfl, rfl, _, rfl, yes 6 ⟨rfl, q _ (Same.refl _)⟩⟩⟩⟩⟩⟩⟩⟩
    | 7, hC =>
      cases hC
      exact ⟨_, rfl, rfl, _, rfl, no 7 0 (by decide) ⟨_, rfl, rfl, _, rfl, no 7 1 (by decide) ⟨_, rfl, rfl, _, rfl, no 7 2 (by decide) ⟨_, rfl, rfl, _, rfl, no 7 3 (by decide) ⟨_, rfl, rfl, _, rfl, no 7 4 (by decide) ⟨_, rfl, rfl, _, rfl, no 7 5 (by decide) ⟨_, rfl, rfl, _, rfl, no 7 6 (by decide) ⟨_, rfl, rfl, _, rfl, yes 7 ⟨rfl, q _ (Same.refl _)⟩⟩⟩⟩⟩⟩⟩⟩⟩
    | 8, hC =>
      cases hC
      exact ⟨_, rfl, rfl, _, rfl, no 8 0 (by decide) ⟨_, rfl, rfl, _, rfl, no 8 1 (by decide) ⟨_, rfl, rfl, _, rfl, no 8 2 (by decide) ⟨_, rfl, rfl, _, rfl, no 8 3 (by decide) ⟨_, rfl, rfl, _, rfl, no 8 4 (by decide) ⟨_, rfl, rfl, _, rfl, no 8 5 (by decide) ⟨_, rfl, rfl, _, rfl, no 8 6 (by decide) ⟨_, rfl, rfl, _, rfl, no 8 7 (by decide) ⟨by show 0 ≤ sizeLine; omega, fun p hp => ⟨p, rfl, upd_same, fun H' s' => q _ ((same1 hp).trans s')⟩⟩⟩⟩⟩⟩⟩⟩⟩⟩
    | k + 9, hC => cases hC
def row9 (k : Nat) : List V := [.bl (decide ((0 : Int) = ((k : Nat) : Int))), .bl (decide ((1 : Int) = ((k : Nat) : Int))), .bl (decide ((2 : Int) = ((k : Nat) : Int))), .bl (decide ((3 : Int) = ((k : Nat) : Int))), .bl (decide ((4 : Int) = ((k : Nat) : Int))), .bl (decide ((5 : Int) = ((k : Nat) : Int))), .bl (decide ((6 : Int) = ((k : Nat) : Int))), .bl (decide ((7 : Int) = ((k : Nat) : Int))), .bl (decide ((8 : Int) = ((k : Nat) : Int)))]
def spKinds : Sp := fun vs H Q _ => ∃ k : Nat, vs = [.int (k : Nat)] ∧ k < 9 ∧ ∀ R H', H' R = some (.lst (row9 k)) → Q (.ref R) H'
theorem kp {H : Hp} {p x : Addr} {o u : HO} (hp : H p = none) (h : H x = some u) : (upd H p o) x = some u := by
  rw [upd_ne (ne_of_none h hp)]
  exact h
theorem SK_kinds : FnScope ["_law_way", "_law_some", "e"] ["_law_way"] (defScope s_kinds) := ⟨rfl, rfl, rfl, by decide +kernel, rfl, by decide +kernel, by decide +kernel⟩
theorem ok_kinds (T : Txt K mg a d) : FnOk P w K mg base (CXx P w) 7 a.kinds d.kinds ["_law_way"] spKinds := by
  have GD : FnOk P w K mg base (CXx P w) 6 a.deed d.deed ["_law_way"] (spDeed a) := ok_deed T
  have S := SK_kinds
  refine T.f_kinds.okX SK_kinds (fun vs H Q E h => ?_) (fun X cdv A outer s H vs Q E hX b hr h => ?_)
  · obtain ⟨k, rfl, _⟩ := h
    rfl
  · subst hX
    obtain ⟨k, rfl, k9, q⟩ := h
    have hsl : sizeLine = 16777216 := sizeLine_eq
    obtain ⟨C, hC⟩ : ∃ C, (nine a)[k]? = some C := ⟨_, List.getElem?_eq_getElem (show k < (nine a).length from k9)⟩
    obtain ⟨hA, hX, kk⟩ := T.r k C hC
    have k0 := kk 0 _ rfl
    have k1 := kk 1 _ rfl
    have k2 := kk 2 _ rfl
    have k3 := kk 3 _ rfl
    have k4 := kk 4 _ rfl
    have k5 := kk 5 _ rfl
    have k6 := kk 6 _ rfl
    have k7 := kk 7 _ rfl
    have k8 := kk 8 _ rfl
    refine ⟨_, pss_cons (ps_set (i := 1) S.nd rfl (Or.inl rfl) (pe_lst pa_nil)) (pss_cons (ps_tryK (i := 2) b S.nd rfl rfl rfl T.g_sw (fun pins EB => pss_one (ps_expr (pe_call GD hr rfl T.g_deed T.f_deed.kp T.b_deed .nil (try_pass b (fun _ _ _ h => h)) (pa_cons (pv 0) pa_nil))))
      (fun e => pss_cons (ps_set (i := 1) S.nd rfl (Or.inl rfl) (pe_lst (pa_cons (pe_callB (r := rInstX K) call_isinstX rfl T.isi bt_isinstance (pa_cons (pv 2) (pa_cons (pe_glob (v := .ref a.bad) rfl T.g_bad rfl) pa_nil))) (pa_cons (pe_callB (r := rInstX K) call_isinstX rfl T.isi bt_isinstance (pa_cons (pv 2) (pa_cons (pe_glob (v := .ref a.noEnd) rfl T.g_noEnd rfl) pa_nil))) (pa_cons (pe_callB (r := rInstX K) call_isinstX rfl T.isi bt_isinstance (pa_cons (pv 2) (pa_cons (pe_glob (v := .ref a.busy) rfl T.g_busy rfl) pa_nil))) (pa_cons (pe_callB (r := rInstX K) call_isinstX rfl T.isi bt_isinstance (pa_cons (pv 2) (pa_cons (pe_glob (v := .ref a.noCall) rfl T.g_noCall rfl) pa_nil))) pa_nil)))))) (pss_cons (ps_set (i := 1) S.nd rfl (Or.inl rfl) (pe_op op_cat (pv 1) (pe_lst (pa_cons (pe_callB (r := rInstX K) call_isinstX rfl T.isi bt_isinstance (pa_cons (pv 2) (pa_cons (pe_glob (v := .ref a.btab) rfl T.g_btab rfl) pa_nil))) (pa_cons (pe_callB (r := rInstX K) call_isinstX rfl T.isi bt_isinstance (pa_cons (pv 2) (pa_cons (pe_glob (v := .ref a.bord) rfl T.g_bord rfl) pa_nil))) (pa_cons (pe_callB (r := rInstX K) call_isinstX rfl T.isi bt_isinstance (pa_cons (pv 2) (pa_cons (pe_glob (v := .ref a.btxt) rfl T.g_btxt rfl) pa_nil))) pa_nil)))))) (pss_one (ps_set (i := 1) S.nd rfl (Or.inl rfl) (pe_op op_cat (pv 1) (pe_lst (pa_cons (pe_callB (r := rInstX K) call_isinstX rfl T.isi bt_isinstance (pa_cons (pv 2) (pa_cons (pe_glob (v := .ref a.bsor) rfl T.g_bsor rfl) pa_nil))) (pa_cons (pe_callB (r := rInstX K) call_isinstX rfl T.isi bt_isinstance (pa_cons (pv 2) (pa_cons (pe_glob (v := .ref a.uns) rfl T.g_uns rfl) pa_nil))) pa_nil))))))))) (pss_one (ps_ret (pv 1)))), ?_⟩
    refine ⟨by show 0 ≤ sizeLine; omega, fun p0 h0 => ?_⟩
    refine ⟨_, rfl, k, C, rfl, hC, fun H1 s1 => ⟨hX, fun ea hea => ?_⟩⟩
    have g1 : (upd H1 ea (ExcO ea (.ref C))) ea = some (ExcO ea (.ref C)) := upd_same
    refine ⟨_, rfl, ea, C, _, _, _, rfl, g1, rfl, hA, k0, _, rfl, ea, C, _, _, _, rfl, g1, rfl, hA, k1, _, rfl, ea, C, _, _, _, rfl, g1, rfl, hA, k2, _, rfl, ea, C, _, _, _, rfl, g1, rfl, hA, k3, by show 4 ≤ sizeLine; omega, fun p1 h1 => ?_⟩
    have g2 := kp (o := .lst [.bl (decide ((0 : Int) = ((k : Nat) : Int))), .bl (decide ((1 : Int) = ((k : Nat) : Int))), .bl (decide ((2 : Int) = ((k : Nat) : Int))), .bl (decide ((3 : Int) = ((k : Nat) : Int)))]) h1 g1
    refine ⟨_, rfl, _, rfl, ea, C, _, _, _, rfl, g2, rfl, hA, k4, _, rfl, ea, C, _, _, _, rfl, g2, rfl, hA, k5, _, rfl, ea, C, _, _, _, rfl, g2, rfl, hA, k6, by show 3 ≤ sizeLine; omega, fun p2 h2 => ⟨p1, p2, _, _, rfl, rfl, kp h2 upd_same, upd_same, by show 4 + 3 ≤ sizeLine; omega, fun p3 h3 => ?_⟩⟩
    have g3 := kp (o := .lst [.bl (decide ((0 : Int) = ((k : Nat) : Int))), .bl (decide ((1 : Int) = ((k : Nat) : Int))), .bl (decide ((2 : Int) = ((k : Nat) : Int))), .bl (decide ((3 : Int) = ((k : Nat) : Int))), .bl (decide ((4 : Int) = ((k : Nat) : Int))), .bl (decide ((5 : Int) = ((k : Nat) : Int))), .bl (decide ((6 : Int) = ((k : Nat) : Int)))]) h3 (kp (o := .lst [.bl (decide ((4 : Int) = ((k : Nat) : Int))), .bl (decide ((5 : Int) = ((k : Nat) : Int))), .bl (decide ((6 : Int) = ((k : Nat) : Int)))]) h2 g2)
    refine ⟨_, rfl, _, rfl, ea, C, _, _, _, rfl, g3, rfl, hA, k7, _, rfl, ea, C, _, _, _, rfl, g3, rfl, hA, k8, by show 2 ≤ sizeLine; omega, fun p4 h4 => ⟨p3, p4, _, _, rfl, rfl, kp h4 upd_same, upd_same, by show 7 + 2 ≤ sizeLine; omega, fun p5 h5 => ?_⟩⟩
    refine ⟨_, rfl, ?_⟩
    exact q p5 _ upd_same
def spCell (K : PySem.W.Frag) : Sp := fun vs H Q _ => ∃ (s : Addr) (ns : List Int), vs = [.ref s, .int 0] ∧ SqL K H s (ns.map V.int) ∧ ∀ c : Int, Q (.int c) H
theorem S_cell : FnScope ["_law_script", "_law_k"] ["_law_script", "_law_k"] (defScope s_cell) := ⟨rfl, rfl, rfl, by decide +kernel, rfl, by decide +kernel, by decide +kernel⟩
theorem ok_cell (T : Txt K mg a d) : FnOk P w K mg base (CXx P w) 1 a.cell d.cell ["_law_script", "_law_k"] (spCell K) := by
  refine T.f_cell.okN S_cell (fun vs H Q E h => ?_) (fun cdv A outer s H vs Q E hr h => ?_)
  · obtain ⟨s', ns, rfl, _⟩ := h
    rfl
  · obtain ⟨s', ns, rfl, hS, q⟩ := h
    refine ⟨_, pss_cons (ps_if (pt_cmpR op_lt (pv 1) (pe_callB call_len_seq rfl T.len PySem.boot_len (pa_cons (pv 0) pa_nil)) (nomark _)) (pss_one (ps_ret (pe_ix ix_list (pv 0) (pv 1) (fun _ _ => rfl)))) pss_nil) (pss_one (ps_ret pe_int)), ?_⟩
    refine ⟨_, rfl, _, rfl, s', _, rfl, .inl hS, _, _, rfl, rfl, _, rfl, ?_⟩
    refine ite2 (fun z => ?_) (fun z => q 0)
    have z := of_decide_eq_true z
    rw [List.length_map] at z
    have hlt : 0 < ns.length := by omega
    refine ⟨_, rfl, _, rfl, s', _, ((0 : Nat) : Int), .int ns[0], rfl, rfl, hS, atI_nat (by rw [List.getElem?_map, List.getElem?_eq_getElem hlt]; rfl), q _⟩
theorem row_get {k i : Nat} (h : i < 9) : (row9 k)[i]? = some (.bl (decide (((i : Nat) : Int) = ((k : Nat) : Int)))) := by
  match i, h with
  | 0, _ => rfl
  | 1, _ => rfl
  | 2, _ => rfl
  | 3, _ => rfl
  | 4, _ => rfl
  | 5, _ => rfl
  | 6, _ => rfl
  | 7, _ => rfl
  | 8, _ => rfl
  | i + 9, h => exact absurd h (by omega)
theorem row_flat (k : Nat) : (row9 k).all flatV = true := rfl
theorem row_eq (k : Nat) : eqVs (row9 k) (row9 k) = true := by
  have e : ∀ b, eqV (.bl b) (.bl b) = true := fun b => by cases b <;> rfl
  unfold eqVs
  rw [beq_self_eq_true, Bool.true_and, List.all_eq_true]
  intro j hj
  have hj : j < 9 := List.mem_range.mp hj
  rw [getD_of (row_get hj)]
  exact e _
def spLaw (K : PySem.W.Frag) : Sp := fun vs H Q _ => ∃ (s : Addr) (ns : List Int), vs = [.ref s] ∧ SqL K H s (ns.map V.int) ∧ ns.length ≤ 63 ∧ ∀ H', Q (.bl true) H'
theorem S_law : FnScope ["_law_script", "_law_way"] ["_law_script"] (defScope s_law) := ⟨rfl, rfl, rfl, by decide +kernel, rfl, by decide +kernel, by decide +kernel⟩
theorem ok_law (T : Txt K mg a d) : FnOk P w K mg base (CXx P w) 8 a.law d.law ["_law_script"] (spLaw K) := by
  have GC : FnOk P w K mg base (CXx P w) 1 a.cell d.cell ["_law_script", "_law_k"] (spCell K) := ok_cell T
  have GK : FnOk P w K mg base (CXx P w) 7 a.kinds d.kinds ["_law_way"] spKinds := ok_kinds T
  refine T.f_law.okN S_law (fun vs H Q E h => ?_) (fun cdv A outer s H vs Q E hr h => ?_)
  · obtain ⟨s', ns, rfl, _⟩ := h
    rfl
  · obtain ⟨s', ns, rfl, hS, _, q⟩ := h
    have hsl : sizeLine = 16777216 := sizeLine_eq
    have hr1 : Room 1 _ := hr.mono (by decide)
    have hu := hu_of hr
    refine ⟨_, pss_cons (ps_set (i := 1) S_law.nd rfl (Or.inr rfl) (pe_op op_mod (pe_call GC hr1 rfl T.g_cell T.f_cell.kp T.b_cell .nil pass0x (pa_cons (pv 0) (pa_cons pe_int pa_nil))) pe_int))
      (pss_one (ps_ret (pe_cmpR (op_eq_list (Nat.lt_of_le_of_lt (Nat.le_succ _) hu)) (pe_call GK hr rfl T.g_kinds T.f_kinds.kp T.b_kinds .nil pass0x (pa_cons (pv 1) pa_nil))
        (pe_comp rfl (pi_range1 rfl T.range (pa_cons pe_int pa_nil))
          (comp1 (k := 1) rfl (by decide +kernel) (by decide +kernel) rfl rfl rfl ⟨(fun z => nomatch z), ⟨(fun z => nomatch z), ⟨(fun _ => ⟨_, rfl⟩), trivial⟩⟩⟩ rfl (.inr (.inl rfl)) rfl rfl (by decide +kernel))
          (fun _ _ _ _ _ => pifs_nil) (fun _ _ _ _ _ => pe_cmpR op_eq (pv 0) (pv 1) (nomark _))) (nomark _)))), ?_⟩
    refine ⟨_, rfl, s', ns, rfl, hS, fun c => ⟨c, 9, rfl, rfl, by show (0 : Int) < 9; decide, ?_⟩⟩
    obtain ⟨k, hk⟩ : ∃ k : Nat, c % 9 = (k : Nat) := Int.eq_ofNat_of_zero_le (Int.emod_nonneg c (by decide))
    have k9 : k < 9 := by
      have := Int.emod_lt_of_pos c (show (0 : Int) < 9 by decide)
      omega
    have ev : (fun i j : Int => V.int (i % j)) c 9 = V.int (k : Nat) := congrArg V.int hk
    rw [ev]
    refine ⟨_, rfl, k, rfl, k9, fun R H1 hR => ?_⟩
    refine ⟨9, rfl, by decide, by decide, fun D hD => ?_⟩
    refine comp_range (lo := 0) (n := 9) (fun i H' => H' D = some (.lst ((row9 k).take i)) ∧ H' R = some (.lst (row9 k))) ⟨upd_same, same_new hD _ _ hR⟩ ?_ ?_
    · rintro i H2 hi ⟨h1, h2⟩
      refine yes ?_
      refine iteT ?_
      refine ⟨_, rfl, _, rfl, rfl, (row9 k).take i, h1, ?_, ?_, ?_⟩
      · rw [List.length_take]
        omega
      · rw [upd_same, List.take_add_one, row_get hi]
        have ed : decide (V.int (0 + ((i : Nat) : Int)) = V.int ((k : Nat) : Int)) = decide (((i : Nat) : Int) = ((k : Nat) : Int)) := decide_eq_decide.mpr ⟨fun z => by injection z with z; omega, fun z => by rw [← z, Int.zero_add]⟩
        show some (HO.lst ((row9 k).take i ++ [V.bl (decide (V.int (0 + ((i : Nat) : Int)) = V.int ((k : Nat) : Int)))])) = _
        rw [ed]
        rfl
      · rw [upd_ne (ne_of_none hR hD)]
        exact h2
    · rintro H2 ⟨h1, h2⟩
      rw [show (row9 k).take 9 = row9 k from rfl] at h1
      refine ⟨R, D, row9 k, row9 k, fun j => eqV ((row9 k).getD j .non) ((row9 k).getD j .non), rfl, rfl, SqL.of h2, SqL.of h1, fun _ j x y hx hy => flat_items (row_flat k) (row_flat k) j x y hx hy, ?_⟩
      have e := row_eq k
      unfold eqVs at e
      rw [if_neg Bool.false_ne_true, e]
      exact q _
end
end Ka30
namespace Ka30
open PySem L2
def sealed {p : Prop} (_ : p) (v : Value) : Value := v
set_option maxRecDepth 100000 in
def K30 : PySem.Params → PySem.W.Frag := fun P =>
  (nat_lit 2, (Obj.mk Value.none none (Data.dict (List.toArray []) 0) (List.toArray []))) ::
  (nat_lit 3, (Obj.mk (sealed (show Str.ofString "k" = Str.mk (Array.mk [nat_lit 107]) from rfl) (Value.type "dict")) none (Data.dict (List.toArray ((DictEntry.mk (PyData.keyHash P (Str.ofString "__name__")) (Value.str (Str.ofString "__name__") 165) (Value.str (Str.ofString "law_switchhall_k30_refusals_stand_apart") 706)) :: (DictEntry.mk (PyData.keyHash P (Str.ofString "__doc__")) (Value.str (Str.ofString "__doc__") 166) Value.none) :: (DictEntry.mk (PyData.keyHash P (Str.ofString "__package__")) (Value.str (Str.ofString "__package__") 167) Value.none) :: (DictEntry.mk (PyData.keyHash P (Str.ofString "__loader__")) (Value.str (Str.ofString "__loader__") 168) (Value.builtin "__main__.__loader__#opaque")) :: (DictEntry.mk (PyData.keyHash P (Str.ofString "__spec__")) (Value.str (Str.ofString "__spec__") 169) Value.none) :: (DictEntry.mk (PyData.keyHash P (Str.ofString "__annotations__")) (Value.str (Str.ofString "__annotations__") 170) (Value.ref 6)) :: (DictEntry.mk (PyData.keyHash P (Str.ofString "__builtins__")) (Value.str (Str.ofString "__builtins__") 171) (Value.ref 4)) :: (DictEntry.mk (PyData.keyHash P (Str.ofString "__file__")) (Value.str (Str.ofString "__file__") 173) (Value.str (Str.ofString "/claim/cut.py") 172)) :: (DictEntry.mk (PyData.keyHash P (Str.ofString "__cached__")) (Value.str (Str.ofString "__cached__") 174) Value.none) :: (DictEntry.mk (PyData.keyHash P (Str.ofString "_wall")) (Value.str (Str.ofString "_wall") 193) (Value.ref 21)) :: (DictEntry.mk (PyData.keyHash P (Str.ofString "SwitchError")) (Value.str (Str.ofString "SwitchError") 213) (Value.ref 31)) :: (DictEntry.mk (PyData.keyHash P (Str.ofString "BadHall")) (Value.str (Str.ofString "BadHall") 229) (Value.ref 44)) :: (DictEntry.mk (PyData.keyHash P (Str.ofString "NoEnd")) (Value.str (Str.ofString "NoEnd") 245) (Value.ref 56)) :: (DictEntry.mk (PyData.keyHash P (Str.ofString "Busy")) (Value.str (Str.ofString "Busy") 261) (Value.ref 68)) :: (DictEntry.mk (PyData.keyHash P (Str.ofString "NoCall")) (Value.str (Str.ofString "NoCall") 277) (Value.ref 80)) :: (DictEntry.mk (PyData.keyHash P (Str.ofString "BadTable")) (Value.str (Str.ofString "BadTable") 293) (Value.ref 92)) :: (DictEntry.mk (PyData.keyHash P (Str.ofString "BadOrder")) (Value.str (Str.ofString "BadOrder") 309) (Value.ref 104)) :: (DictEntry.mk (PyData.keyHash P (Str.ofString "BadText")) (Value.str (Str.ofString "BadText") 325) (Value.ref 116)) :: (DictEntry.mk (PyData.keyHash P (Str.ofString "BadSorters")) (Value.str (Str.ofString "BadSorters") 341) (Value.ref 128)) :: (DictEntry.mk (PyData.keyHash P (Str.ofString "Unsound")) (Value.str (Str.ofString "Unsound") 357) (Value.ref 140)) :: (DictEntry.mk (PyData.keyHash P (Str.ofString "is_whole")) (Value.str (Str.ofString "is_whole") 366) (Value.ref 149)) :: (DictEntry.mk (PyData.keyHash P (Str.ofString "is_whole_within")) (Value.str (Str.ofString "is_whole_within") 375) (Value.ref 156)) :: (DictEntry.mk (PyData.keyHash P (Str.ofString "is_list_within")) (Value.str (Str.ofString "is_list_within") 384) (Value.ref 163)) :: (DictEntry.mk (PyData.keyHash P (Str.ofString "MOST_LINES")) (Value.str (Str.ofString "MOST_LINES") 388) (Value.int (16 : Int) 387)) :: (DictEntry.mk (PyData.keyHash P (Str.ofString "checked_order")) (Value.str (Str.ofString "checked_order") 396) (Value.ref 170)) :: (DictEntry.mk (PyData.keyHash P (Str.ofString "exchange")) (Value.str (Str.ofString "exchange") 406) (Value.ref 177)) :: (DictEntry.mk (PyData.keyHash P (Str.ofString "MOST_ENDS_halls")) (Value.str (Str.ofString "MOST_ENDS_halls") 410) (Value.int (12 : Int) 409)) :: (DictEntry.mk (PyData.keyHash P (Str.ofString "MOST_FRAMES")) (Value.str (Str.ofString "MOST_FRAMES") 412) (Value.int (8 : Int) 411)) :: (DictEntry.mk (PyData.keyHash P (Str.ofString "check_sizes")) (Value.str (Str.ofString "check_sizes") 421) (Value.ref 184)) :: (DictEntry.mk (PyData.keyHash P (Str.ofString "free_ends")) (Value.str (Str.ofString "free_ends") 427) (Value.ref 189)) :: (DictEntry.mk (PyData.keyHash P (Str.ofString "end_at")) (Value.str (Str.ofString "end_at") 435) (Value.ref 196)) :: (DictEntry.mk (PyData.keyHash P (Str.ofString "load_of")) (Value.str (Str.ofString "load_of") 442) (Value.ref 203)) :: (DictEntry.mk (PyData.keyHash P (Str.ofString "is_full")) (Value.str (Str.ofString "is_full") 449) (Value.ref 210)) :: (DictEntry.mk (PyData.keyHash P (Str.ofString "least_free")) (Value.str (Str.ofString "least_free") 456) (Value.ref 217)) :: (DictEntry.mk (PyData.keyHash P (Str.ofString "least_free_at_both")) (Value.str (Str.ofString "least_free_at_both") 465) (Value.ref 224)) :: (DictEntry.mk (PyData.keyHash P (Str.ofString "Hall")) (Value.str (Str.ofString "Hall") 583) (Value.ref 302)) :: (DictEntry.mk (PyData.keyHash P (Str.ofString "MOST_PLACES")) (Value.str (Str.ofString "MOST_PLACES") 587) (Value.int (8 : Int) 586)) :: (DictEntry.mk (PyData.keyHash P (Str.ofString "MOST_SORTERS")) (Value.str (Str.ofString "MOST_SORTERS") 589) (Value.int (64 : Int) 588)) :: (DictEntry.mk (PyData.keyHash P (Str.ofString "is_sorter")) (Value.str (Str.ofString "is_sorter") 597) (Value.ref 313)) :: (DictEntry.mk (PyData.keyHash P (Str.ofString "checked_sorters")) (Value.str (Str.ofString "checked_sorters") 606) (Value.ref 320)) :: (DictEntry.mk (PyData.keyHash P (Str.ofString "done")) (Value.str (Str.ofString "done") 617) (Value.ref 327)) :: (DictEntry.mk (PyData.keyHash P (Str.ofString "noughts_and_ones")) (Value.str (Str.ofString "noughts_and_ones") 623) (Value.ref 332)) :: (DictEntry.mk (PyData.keyHash P (Str.ofString "first_unsorted")) (Value.str (Str.ofString "first_unsorted") 632) (Value.ref 339)) :: (DictEntry.mk (PyData.keyHash P (Str.ofString "lean")) (Value.str (Str.ofString "lean") 643) (Value.ref 346)) :: (DictEntry.mk (PyData.keyHash P (Str.ofString "NET_SIZES")) (Value.str (Str.ofString "NET_SIZES") 648) (Value.ref 347)) :: (DictEntry.mk (PyData.keyHash P (Str.ofString "FIGURES")) (Value.str (Str.ofString "FIGURES") 652) (Value.str (Str.ofString "01") 651)) :: (DictEntry.mk (PyData.keyHash P (Str.ofString "many_figures")) (Value.str (Str.ofString "many_figures") 659) (Value.ref 354)) :: (DictEntry.mk (PyData.keyHash P (Str.ofString "check_text")) (Value.str (Str.ofString "check_text") 668) (Value.ref 361)) :: (DictEntry.mk (PyData.keyHash P (Str.ofString "read")) (Value.str (Str.ofString "read") 674) (Value.ref 366)) :: (DictEntry.mk (PyData.keyHash P (Str.ofString "net_of")) (Value.str (Str.ofString "net_of") 685) (Value.ref 373)) :: (DictEntry.mk (PyData.keyHash P (Str.ofString "MOST_ENDS_times")) (Value.str (Str.ofString "MOST_ENDS_times") 689) (Value.int (6 : Int) 688)) :: (DictEntry.mk (PyData.keyHash P (Str.ofString "MOST_NUMBER")) (Value.str (Str.ofString "MOST_NUMBER") 691) (Value.int (99 : Int) 690)) :: (DictEntry.mk (PyData.keyHash P (Str.ofString "check_row")) (Value.str (Str.ofString "check_row") 699) (Value.ref 380)) :: (DictEntry.mk (PyData.keyHash P (Str.ofString "checked_table")) (Value.str (Str.ofString "checked_table") 705) (Value.ref 385)) :: (DictEntry.mk (PyData.keyHash P (Str.ofString "_law_cell")) (Value.str (Str.ofString "_law_cell") 715) (Value.ref 392)) :: (DictEntry.mk (PyData.keyHash P (Str.ofString "_law_put_twice")) (Value.str (Str.ofString "_law_put_twice") 722) (Value.ref 399)) :: (DictEntry.mk (PyData.keyHash P (Str.ofString "_law_deed")) (Value.str (Str.ofString "_law_deed") 729) (Value.ref 406)) :: (DictEntry.mk (PyData.keyHash P (Str.ofString "_law_kinds_of")) (Value.str (Str.ofString "_law_kinds_of") 738) (Value.ref 413)) :: (DictEntry.mk (PyData.keyHash P (Str.ofString "law")) (Value.str (Str.ofString "law") 744) (Value.ref 418)) :: [])) 59) (List.toArray []))) ::
  (nat_lit 30, (Obj.mk (Value.type "dict") none (Data.dict (List.toArray [(DictEntry.mk (PyData.keyHash P (Str.ofString "__module__")) (Value.str (Str.ofString "__module__") 203) (Value.str (Str.ofString "switchhall.errors") 194)), (DictEntry.mk (PyData.keyHash P (Str.ofString "__firstlineno__")) (Value.str (Str.ofString "__firstlineno__") 207) (Value.int (5 : Int) 206)), (DictEntry.mk (PyData.keyHash P (Str.ofString "__static_attributes__")) (Value.str (Str.ofString "__static_attributes__") 208) (Value.ref 29)), (DictEntry.mk (PyData.keyHash P (Str.ofString "__weakref__")) (Value.str (Str.ofString "__weakref__") 210) (Value.ref 32)), (DictEntry.mk (PyData.keyHash P (Str.ofString "__doc__")) (Value.str (Str.ofString "__doc__") 211) Value.none)]) 3) (List.toArray []))) ::
  (nat_lit 31, (Obj.mk (Value.type "type") none (Data.cls (ClassData.mk (Str.ofString "SwitchError") [(Value.type "ValueError")] [(Value.ref 31), (Value.type "ValueError"), (Value.type "Exception"), (Value.type "BaseException"), (Value.type "object")] 30 (Str.ofString "SwitchError") true [] [(Value.ref 44), (Value.ref 56), (Value.ref 68), (Value.ref 80), (Value.ref 92), (Value.ref 104), (Value.ref 116), (Value.ref 128), (Value.ref 140)] false none false)) (List.toArray [(some (Value.ref 22)), none, (some (Value.str (Str.ofString "SwitchError") 196)), (some (Value.str (Str.ofString "SwitchError") 204)), (some (Value.builtin "ValueError.__new__")), (some (Value.bool true))]))) ::
  (nat_lit 32, (Obj.mk (Value.type "getset_descriptor") none (Data.fields (List.toArray [(Value.str (Str.ofString "__weakref__") 209), (Value.ref 31), (Value.builtin "ExceptionGroup.__weakref__"), Value.none])) (List.toArray []))) ::
  (nat_lit 43, (Obj.mk (Value.type "dict") none (Data.dict (List.toArray [(DictEntry.mk (PyData.keyHash P (Str.ofString "__module__")) (Value.str (Str.ofString "__module__") 221) (Value.str (Str.ofString "switchhall.errors") 194)), (DictEntry.mk (PyData.keyHash P (Str.ofString "__firstlineno__")) (Value.str (Str.ofString "__firstlineno__") 225) (Value.int (7 : Int) 224)), (DictEntry.mk (PyData.keyHash P (Str.ofString "__static_attributes__")) (Value.str (Str.ofString "__static_attributes__") 226) (Value.ref 42)), (DictEntry.mk (PyData.keyHash P (Str.ofString "__doc__")) (Value.str (Str.ofString "__doc__") 227) Value.none)]) 2) (List.toArray []))) ::
  (nat_lit 44, (Obj.mk (Value.type "type") none (Data.cls (ClassData.mk (Str.ofString "BadHall") [(Value.ref 31)] [(Value.ref 44), (Value.ref 31), (Value.type "ValueError"), (Value.type "Exception"), (Value.type "BaseException"), (Value.type "object")] 43 (Str.ofString "BadHall") true [] [] false none false)) (List.toArray [(some (Value.ref 35)), none, (some (Value.str (Str.ofString "BadHall") 214)), (some (Value.str (Str.ofString "BadHall") 222)), (some (Value.builtin "ValueError.__new__")), (some (Value.bool true))]))) ::
  (nat_lit 55, (Obj.mk (Value.type "dict") none (Data.dict (List.toArray [(DictEntry.mk (PyData.keyHash P (Str.ofString "__module__")) (Value.str (Str.ofString "__module__") 237) (Value.str (Str.ofString "switchhall.errors") 194)), (DictEntry.mk (PyData.keyHash P (Str.ofString "__firstlineno__")) (Value.str (Str.ofString "__firstlineno__") 241) (Value.int (9 : Int) 240)), (DictEntry.mk (PyData.keyHash P (Str.ofString "__static_attributes__")) (Value.str (Str.ofString "__static_attributes__") 242) (Value.ref 54)), (DictEntry.mk (PyData.keyHash P (Str.ofString "__doc__")) (Value.str (Str.ofString "__doc__") 243) Value.none)]) 2) (List.toArray []))) ::
  (nat_lit 56, (Obj.mk (Value.type "type") none (Data.cls (ClassData.mk (Str.ofString "NoEnd") [(Value.ref 31)] [(Value.ref 56), (Value.ref 31), (Value.type "ValueError"), (Value.type "Exception"), (Value.type "BaseException"), (Value.type "object")] 55 (Str.ofString "NoEnd") true [] [] false none false)) (List.toArray [(some (Value.ref 47)), none, (some (Value.str (Str.ofString "NoEnd") 230)), (some (Value.str (Str.ofString "NoEnd") 238)), (some (Value.builtin "ValueError.__new__")), (some (Value.bool true))]))) ::
  (nat_lit 67, (Obj.mk (Value.type "dict") none (Data.dict (List.toArray [(DictEntry.mk (PyData.keyHash P (Str.ofString "__module__")) (Value.str (Str.ofString "__module__") 253) (Value.str (Str.ofString "switchhall.errors") 194)), (DictEntry.mk (PyData.keyHash P (Str.ofString "__firstlineno__")) (Value.str (Str.ofString "__firstlineno__") 257) (Value.int (11 : Int) 256)), (DictEntry.mk (PyData.keyHash P (Str.ofString "__static_attributes__")) (Value.str (Str.ofString "__static_attributes__") 258) (Value.ref 66)), (DictEntry.mk (PyData.keyHash P (Str.ofString "__doc__")) (Value.str (Str.ofString "__doc__") 259) Value.none)]) 2) (List.toArray []))) ::
  (nat_lit 68, (Obj.mk (Value.type "type") none (Data.cls (ClassData.mk (Str.ofString "Busy") [(Value.ref 31)] [(Value.ref 68), (Value.ref 31), (Value.type "ValueError"), (Value.type "Exception"), (Value.type "BaseException"), (Value.type "object")] 67 (Str.ofString "Busy") true [] [] false none false)) (List.toArray [(some (Value.ref 59)), none, (some (Value.str (Str.ofString "Busy") 246)), (some (Value.str (Str.ofString "Busy") 254)), (some (Value.builtin "ValueError.__new__")), (some (Value.bool true))]))) ::
  (nat_lit 79, (Obj.mk (Value.type "dict") none (Data.dict (List.toArray [(DictEntry.mk (PyData.keyHash P (Str.ofString "__module__")) (Value.str (Str.ofString "__module__") 269) (Value.str (Str.ofString "switchhall.errors") 194)), (DictEntry.mk (PyData.keyHash P (Str.ofString "__firstlineno__")) (Value.str (Str.ofString "__firstlineno__") 273) (Value.int (13 : Int) 272)), (DictEntry.mk (PyData.keyHash P (Str.ofString "__static_attributes__")) (Value.str (Str.ofString "__static_attributes__") 274) (Value.ref 78)), (DictEntry.mk (PyData.keyHash P (Str.ofString "__doc__")) (Value.str (Str.ofString "__doc__") 275) Value.none)]) 2) (List.toArray []))) ::
  (nat_lit 80, (Obj.mk (Value.type "type") none (Data.cls (ClassData.mk (Str.ofString "NoCall") [(Value.ref 31)] [(Value.ref 80), (Value.ref 31), (Value.type "ValueError"), (Value.type "Exception"), (Value.type "BaseException"), (Value.type "object")] 79 (Str.ofString "NoCall") true [] [] false none false)) (List.toArray [(some (Value.ref 71)), none, (some (Value.str (Str.ofString "NoCall") 262)), (some (Value.str (Str.ofString "NoCall") 270)), (some (Value.builtin "ValueError.__new__")), (some (Value.bool true))]))) ::
  (nat_lit 91, (Obj.mk (Value.type "dict") none (Data.dict (List.toArray [(DictEntry.mk (PyData.keyHash P (Str.ofString "__module__")) (Value.str (Str.ofString "__module__") 285) (Value.str (Str.ofString "switchhall.errors") 194)), (DictEntry.mk (PyData.keyHash P (Str.ofString "__firstlineno__")) (Value.str (Str.ofString "__firstlineno__") 289) (Value.int (15 : Int) 288)), (DictEntry.mk (PyData.keyHash P (Str.ofString "__static_attributes__")) (Value.str (Str.ofString "__static_attributes__") 290) (Value.ref 90)), (DictEntry.mk (PyData.keyHash P (Str.ofString "__doc__")) (Value.str (Str.ofString "__doc__") 291) Value.none)]) 2) (List.toArray []))) ::
  (nat_lit 92, (Obj.mk (Value.type "type") none (Data.cls (ClassData.mk (Str.ofString "BadTable") [(Value.ref 31)] [(Value.ref 92), (Value.ref 31), (Value.type "ValueError"), (Value.type "Exception"), (Value.type "BaseException"), (Value.type "object")] 91 (Str.ofString "BadTable") true [] [] false none false)) (List.toArray [(some (Value.ref 83)), none, (some (Value.str (Str.ofString "BadTable") 278)), (some (Value.str (Str.ofString "BadTable") 286)), (some (Value.builtin "ValueError.__new__")), (some (Value.bool true))]))) ::
  (nat_lit 103, (Obj.mk (Value.type "dict") none (Data.dict (List.toArray [(DictEntry.mk (PyData.keyHash P (Str.ofString "__module__")) (Value.str (Str.ofString "__module__") 301) (Value.str (Str.ofString "switchhall.errors") 194)), (DictEntry.mk (PyData.keyHash P (Str.ofString "__firstlineno__")) (Value.str (Str.ofString "__firstlineno__") 305) (Value.int (17 : Int) 304)), (DictEntry.mk (PyData.keyHash P (Str.ofString "__static_attributes__")) (Value.str (Str.ofString "__static_attributes__") 306) (Value.ref 102)), (DictEntry.mk (PyData.keyHash P (Str.ofString "__doc__")) (Value.str (Str.ofString "__doc__") 307) Value.none)]) 2) (List.toArray []))) ::
  (nat_lit 104, (Obj.mk (Value.type "type") none (Data.cls (ClassData.mk (Str.ofString "BadOrder") [(Value.ref 31)] [(Value.ref 104), (Value.ref 31), (Value.type "ValueError"), (Value.type "Exception"), (Value.type "BaseException"), (Value.type "object")] 103 (Str.ofString "BadOrder") true [] [] false none false)) (List.toArray [(some (Value.ref 95)), none, (some (Value.str (Str.ofString "BadOrder") 294)), (some (Value.str (Str.ofString "BadOrder") 302)), (some (Value.builtin "ValueError.__new__")), (some (Value.bool true))]))) ::
  (nat_lit 115, (Obj.mk (Value.type "dict") none (Data.dict (List.toArray [(DictEntry.mk (PyData.keyHash P (Str.ofString "__module__")) (Value.str (Str.ofString "__module__") 317) (Value.str (Str.ofString "switchhall.errors") 194)), (DictEntry.mk (PyData.keyHash P (Str.ofString "__firstlineno__")) (Value.str (Str.ofString "__firstlineno__") 321) (Value.int (19 : Int) 320)), (DictEntry.mk (PyData.keyHash P (Str.ofString "__static_attributes__")) (Value.str (Str.ofString "__static_attributes__") 322) (Value.ref 114)), (DictEntry.mk (PyData.keyHash P (Str.ofString "__doc__")) (Value.str (Str.ofString "__doc__") 323) Value.none)]) 2) (List.toArray []))) ::
  (nat_lit 116, (Obj.mk (Value.type "type") none (Data.cls (ClassData.mk (Str.ofString "BadText") [(Value.ref 31)] [(Value.ref 116), (Value.ref 31), (Value.type "ValueError"), (Value.type "Exception"), (Value.type "BaseException"), (Value.type "object")] 115 (Str.ofString "BadText") true [] [] false none false)) (List.toArray [(some (Value.ref 107)), none, (some (Value.str (Str.ofString "BadText") 310)), (some (Value.str (Str.ofString "BadText") 318)), (some (Value.builtin "ValueError.__new__")), (some (Value.bool true))]))) ::
  (nat_lit 127, (Obj.mk (Value.type "dict") none (Data.dict (List.toArray [(DictEntry.mk (PyData.keyHash P (Str.ofString "__module__")) (Value.str (Str.ofString "__module__") 333) (Value.str (Str.ofString "switchhall.errors") 194)), (DictEntry.mk (PyData.keyHash P (Str.ofString "__firstlineno__")) (Value.str (Str.ofString "__firstlineno__") 337) (Value.int (21 : Int) 336)), (DictEntry.mk (PyData.keyHash P (Str.ofString "__static_attributes__")) (Value.str (Str.ofString "__static_attributes__") 338) (Value.ref 126)), (DictEntry.mk (PyData.keyHash P (Str.ofString "__doc__")) (Value.str (Str.ofString "__doc__") 339) Value.none)]) 2) (List.toArray []))) ::
  (nat_lit 128, (Obj.mk (Value.type "type") none (Data.cls (ClassData.mk (Str.ofString "BadSorters") [(Value.ref 31)] [(Value.ref 128), (Value.ref 31), (Value.type "ValueError"), (Value.type "Exception"), (Value.type "BaseException"), (Value.type "object")] 127 (Str.ofString "BadSorters") true [] [] false none false)) (List.toArray [(some (Value.ref 119)), none, (some (Value.str (Str.ofString "BadSorters") 326)), (some (Value.str (Str.ofString "BadSorters") 334)), (some (Value.builtin "ValueError.__new__")), (some (Value.bool true))]))) ::
  (nat_lit 139, (Obj.mk (Value.type "dict") none (Data.dict (List.toArray [(DictEntry.mk (PyData.keyHash P (Str.ofString "__module__")) (Value.str (Str.ofString "__module__") 349) (Value.str (Str.ofString "switchhall.errors") 194)), (DictEntry.mk (PyData.keyHash P (Str.ofString "__firstlineno__")) (Value.str (Str.ofString "__firstlineno__") 353) (Value.int (23 : Int) 352)), (DictEntry.mk (PyData.keyHash P (Str.ofString "__static_attributes__")) (Value.str (Str.ofString "__static_attributes__") 354) (Value.ref 138)), (DictEntry.mk (PyData.keyHash P (Str.ofString "__doc__")) (Value.str (Str.ofString "__doc__") 355) Value.none)]) 2) (List.toArray []))) ::
  (nat_lit 140, (Obj.mk (Value.type "type") none (Data.cls (ClassData.mk (Str.ofString "Unsound") [(Value.ref 31)] [(Value.ref 140), (Value.ref 31), (Value.type "ValueError"), (Value.type "Exception"), (Value.type "BaseException"), (Value.type "object")] 139 (Str.ofString "Unsound") true [] [] false none false)) (List.toArray [(some (Value.ref 131)), none, (some (Value.str (Str.ofString "Unsound") 342)), (some (Value.str (Str.ofString "Unsound") 350)), (some (Value.builtin "ValueError.__new__")), (some (Value.bool true))]))) ::
  (nat_lit 148, (Obj.mk (Value.type "code") none (Data.fields (List.toArray [(Value.str (Str.ofString "is_whole") 360), (Value.str (Str.ofString "is_whole") 361), (Value.str (Str.ofString "/claim/cut.py") 362), (Value.int (26 : Int) 0), (Value.int (1 : Int) 0), (Value.int (0 : Int) 0), (Value.int (0 : Int) 0), (Value.int (3 : Int) 0), (Value.ref 143), (Value.bool true), (Value.int (181 : Int) 0), (Value.ref 144), Value.none, (Value.ref 145), (Value.ref 146), (Value.ref 147), (Value.int (364 : Int) 0), (Value.int (26 : Int) 0), (Value.str (Str.ofString "/claim/cut.py") 365)])) (List.toArray []))) ::
  (nat_lit 149, Obj.mk (Value.type "function") none (Data.func (PySem.W.fnOf "is_whole" "is_whole" (defArgs sWhole) (defBody sWhole) (defScope sWhole) Value.none Value.none Value.none (Value.str (Str.ofString "switchhall.kinds") 358) none (Value.ref 148) Value.none)) (List.toArray [])) ::
  (nat_lit 155, (Obj.mk (Value.type "code") none (Data.fields (List.toArray [(Value.str (Str.ofString "is_whole_within") 367), (Value.str (Str.ofString "is_whole_within") 368), (Value.str (Str.ofString "/claim/cut.py") 369), (Value.int (28 : Int) 0), (Value.int (3 : Int) 0), (Value.int (0 : Int) 0), (Value.int (0 : Int) 0), (Value.int (3 : Int) 0), (Value.ref 150), (Value.bool true), (Value.int (181 : Int) 0), (Value.ref 151), Value.none, (Value.ref 152), (Value.ref 153), (Value.ref 154), (Value.int (373 : Int) 0), (Value.int (28 : Int) 0), (Value.str (Str.ofString "/claim/cut.py") 374)])) (List.toArray []))) ::
  (nat_lit 156, Obj.mk (Value.type "function") none (Data.func (PySem.W.fnOf "is_whole_within" "is_whole_within" (defArgs sWithin) (defBody sWithin) (defScope sWithin) Value.none Value.none Value.none (Value.str (Str.ofString "switchhall.kinds") 358) none (Value.ref 155) Value.none)) (List.toArray [])) ::
  (nat_lit 162, (Obj.mk (Value.type "code") none (Data.fields (List.toArray [(Value.str (Str.ofString "is_list_within") 376), (Value.str (Str.ofString "is_list_within") 377), (Value.str (Str.ofString "/claim/cut.py") 378), (Value.int (30 : Int) 0), (Value.int (3 : Int) 0), (Value.int (0 : Int) 0), (Value.int (0 : Int) 0), (Value.int (3 : Int) 0), (Value.ref 157), (Value.bool true), (Value.int (181 : Int) 0), (Value.ref 158), Value.none, (Value.ref 159), (Value.ref 160), (Value.ref 161), (Value.int (382 : Int) 0), (Value.int (30 : Int) 0), (Value.str (Str.ofString "/claim/cut.py") 383)])) (List.toArray []))) ::
  (nat_lit 163, Obj.mk (Value.type "function") none (Data.func (PySem.W.fnOf "is_list_within" "is_list_within" (defArgs s_dlist) (defBody s_dlist) (defScope s_dlist) Value.none Value.none Value.none (Value.str (Str.ofString "switchhall.kinds") 358) none (Value.ref 162) Value.none)) (List.toArray [])) ::
  (nat_lit 169, (Obj.mk (Value.type "code") none (Data.fields (List.toArray [(Value.str (Str.ofString "checked_order") 389), (Value.str (Str.ofString "checked_order") 390), (Value.str (Str.ofString "/claim/cut.py") 391), (Value.int (34 : Int) 0), (Value.int (1 : Int) 0), (Value.int (0 : Int) 0), (Value.int (0 : Int) 0), (Value.int (3 : Int) 0), (Value.ref 164), (Value.bool true), (Value.int (181 : Int) 0), (Value.ref 165), Value.none, (Value.ref 166), (Value.ref 167), (Value.ref 168), (Value.int (394 : Int) 0), (Value.int (34 : Int) 0), (Value.str (Str.ofString "/claim/cut.py") 395)])) (List.toArray []))) ::
  (nat_lit 170, Obj.mk (Value.type "function") none (Data.func (PySem.W.fnOf "checked_order" "checked_order" (defArgs s_chk) (defBody s_chk) (defScope s_chk) Value.none Value.none Value.none (Value.str (Str.ofString "switchhall.orders") 385) none (Value.ref 169) Value.none)) (List.toArray [])) ::
  (nat_lit 183, (Obj.mk (Value.type "code") none (Data.fields (List.toArray [(Value.str (Str.ofString "check_sizes") 413), (Value.str (Str.ofString "check_sizes") 414), (Value.str (Str.ofString "/claim/cut.py") 415), (Value.int (50 : Int) 0), (Value.int (3 : Int) 0), (Value.int (0 : Int) 0), (Value.int (0 : Int) 0), (Value.int (3 : Int) 0), (Value.ref 178), (Value.bool true), (Value.int (181 : Int) 0), (Value.ref 179), Value.none, (Value.ref 180), (Value.ref 181), (Value.ref 182), (Value.int (419 : Int) 0), (Value.int (50 : Int) 0), (Value.str (Str.ofString "/claim/cut.py") 420)])) (List.toArray []))) ::
  (nat_lit 184, Obj.mk (Value.type "function") none (Data.func (PySem.W.fnOf "check_sizes" "check_sizes" (defArgs sCheck) (defBody sCheck) (defScope sCheck) Value.none Value.none Value.none (Value.str (Str.ofString "switchhall.halls") 407) none (Value.ref 183) Value.none)) (List.toArray [])) ::
  (nat_lit 188, (Obj.mk (Value.type "code") none (Data.fields (List.toArray [(Value.str (Str.ofString "free_ends") 422), (Value.str (Str.ofString "free_ends") 423), (Value.str (Str.ofString "/claim/cut.py") 424), (Value.int (57 : Int) 0), (Value.int (2 : Int) 0), (Value.int (0 : Int) 0), (Value.int (0 : Int) 0), (Value.int (3 : Int) 0), (Value.ref 185), (Value.bool true), (Value.int (181 : Int) 0), (Value.ref 186), Value.none, Value.none, Value.none, (Value.ref 187), (Value.int (425 : Int) 0), (Value.int (57 : Int) 0), (Value.str (Str.ofString "/claim/cut.py") 426)])) (List.toArray []))) ::
  (nat_lit 189, Obj.mk (Value.type "function") none (Data.func (PySem.W.fnOf "free_ends" "free_ends" (defArgs sFree) (defBody sFree) (defScope sFree) Value.none Value.none Value.none (Value.str (Str.ofString "switchhall.halls") 407) none (Value.ref 188) Value.none)) (List.toArray [])) ::
  (nat_lit 195, (Obj.mk (Value.type "code") none (Data.fields (List.toArray [(Value.str (Str.ofString "end_at") 428), (Value.str (Str.ofString "end_at") 429), (Value.str (Str.ofString "/claim/cut.py") 430), (Value.int (59 : Int) 0), (Value.int (2 : Int) 0), (Value.int (0 : Int) 0), (Value.int (0 : Int) 0), (Value.int (3 : Int) 0), (Value.ref 190), (Value.bool true), (Value.int (181 : Int) 0), (Value.ref 191), Value.none, (Value.ref 192), (Value.ref 193), (Value.ref 194), (Value.int (433 : Int) 0), (Value.int (59 : Int) 0), (Value.str (Str.ofString "/claim/cut.py") 434)])) (List.toArray []))) ::
  (nat_lit 196, Obj.mk (Value.type "function") none (Data.func (PySem.W.fnOf "end_at" "end_at" (defArgs sEnd) (defBody sEnd) (defScope sEnd) Value.none Value.none Value.none (Value.str (Str.ofString "switchhall.halls") 407) none (Value.ref 195) Value.none)) (List.toArray [])) ::
  (nat_lit 202, (Obj.mk (Value.type "code") none (Data.fields (List.toArray [(Value.str (Str.ofString "load_of") 436), (Value.str (Str.ofString "load_of") 437), (Value.str (Str.ofString "/claim/cut.py") 438), (Value.int (63 : Int) 0), (Value.int (1 : Int) 0), (Value.int (0 : Int) 0), (Value.int (0 : Int) 0), (Value.int (3 : Int) 0), (Value.ref 197), (Value.bool true), (Value.int (181 : Int) 0), (Value.ref 198), Value.none, (Value.ref 199), (Value.ref 200), (Value.ref 201), (Value.int (440 : Int) 0), (Value.int (63 : Int) 0), (Value.str (Str.ofString "/claim/cut.py") 441)])) (List.toArray []))) ::
  (nat_lit 203, Obj.mk (Value.type "function") none (Data.func (PySem.W.fnOf "load_of" "load_of" (defArgs sLoad) (defBody sLoad) (defScope sLoad) Value.none Value.none Value.none (Value.str (Str.ofString "switchhall.halls") 407) none (Value.ref 202) Value.none)) (List.toArray [])) ::
  (nat_lit 209, (Obj.mk (Value.type "code") none (Data.fields (List.toArray [(Value.str (Str.ofString "is_full") 443), (Value.str (Str.ofString "is_full") 444), (Value.str (Str.ofString "/claim/cut.py") 445), (Value.int (65 : Int) 0), (Value.int (1 : Int) 0), (Value.int (0 : Int) 0), (Value.int (0 : Int) 0), (Value.int (3 : Int) 0), (Value.ref 204), (Value.bool true), (Value.int (181 : Int) 0), (Value.ref 205), Value.none, (Value.ref 206), (Value.ref 207), (Value.ref 208), (Value.int (447 : Int) 0), (Value.int (65 : Int) 0), (Value.str (Str.ofString "/claim/cut.py") 448)])) (List.toArray []))) ::
  (nat_lit 210, Obj.mk (Value.type "function") none (Data.func (PySem.W.fnOf "is_full" "is_full" (defArgs sFull) (defBody sFull) (defScope sFull) Value.none Value.none Value.none (Value.str (Str.ofString "switchhall.halls") 407) none (Value.ref 209) Value.none)) (List.toArray [])) ::
  (nat_lit 223, (Obj.mk (Value.type "code") none (Data.fields (List.toArray [(Value.str (Str.ofString "least_free_at_both") 457), (Value.str (Str.ofString "least_free_at_both") 458), (Value.str (Str.ofString "/claim/cut.py") 459), (Value.int (69 : Int) 0), (Value.int (2 : Int) 0), (Value.int (0 : Int) 0), (Value.int (0 : Int) 0), (Value.int (3 : Int) 0), (Value.ref 218), (Value.bool true), (Value.int (181 : Int) 0), (Value.ref 219), Value.none, (Value.ref 220), (Value.ref 221), (Value.ref 222), (Value.int (463 : Int) 0), (Value.int (69 : Int) 0), (Value.str (Str.ofString "/claim/cut.py") 464)])) (List.toArray []))) ::
  (nat_lit 224, Obj.mk (Value.type "function") none (Data.func (PySem.W.fnOf "least_free_at_both" "least_free_at_both" (defArgs sBoth) (defBody sBoth) (defScope sBoth) Value.none Value.none Value.none (Value.str (Str.ofString "switchhall.halls") 407) none (Value.ref 223) Value.none)) (List.toArray [])) ::
  (nat_lit 237, (Obj.mk (Value.type "code") none (Data.fields (List.toArray [(Value.str (Str.ofString "__init__") 478), (Value.str (Str.ofString "Hall.__init__") 479), (Value.str (Str.ofString "/claim/cut.py") 480), (Value.int (76 : Int) 0), (Value.int (4 : Int) 0), (Value.int (0 : Int) 0), (Value.int (0 : Int) 0), (Value.int (3 : Int) 0), (Value.ref 232), (Value.bool true), (Value.int (181 : Int) 0), (Value.ref 233), Value.none, (Value.ref 234), (Value.ref 235), (Value.ref 236), (Value.int (485 : Int) 0), (Value.int (76 : Int) 0), (Value.str (Str.ofString "/claim/cut.py") 486)])) (List.toArray []))) ::
  (nat_lit 238, Obj.mk (Value.type "function") none (Data.func (PySem.W.fnOf "__init__" "Hall.__init__" (defArgs sInit) (defBody sInit) (defScope sInit) Value.none Value.none Value.none (Value.str (Str.ofString "switchhall.halls") 407) none (Value.ref 237) Value.none)) (List.toArray [])) ::
  (nat_lit 244, (Obj.mk (Value.type "code") none (Data.fields (List.toArray [(Value.str (Str.ofString "put") 488), (Value.str (Str.ofString "Hall.put") 489), (Value.str (Str.ofString "/claim/cut.py") 490), (Value.int (83 : Int) 0), (Value.int (3 : Int) 0), (Value.int (0 : Int) 0), (Value.int (0 : Int) 0), (Value.int (3 : Int) 0), (Value.ref 239), (Value.bool true), (Value.int (181 : Int) 0), (Value.ref 240), Value.none, (Value.ref 241), (Value.ref 242), (Value.ref 243), (Value.int (499 : Int) 0), (Value.int (83 : Int) 0), (Value.str (Str.ofString "/claim/cut.py") 500)])) (List.toArray []))) ::
  (nat_lit 245, Obj.mk (Value.type "function") none (Data.func (PySem.W.fnOf "put" "Hall.put" (defArgs sPut) (defBody sPut) (defScope sPut) Value.none Value.none Value.none (Value.str (Str.ofString "switchhall.halls") 407) none (Value.ref 244) Value.none)) (List.toArray [])) ::
  (nat_lit 251, (Obj.mk (Value.type "code") none (Data.fields (List.toArray [(Value.str (Str.ofString "drop") 502), (Value.str (Str.ofString "Hall.drop") 503), (Value.str (Str.ofString "/claim/cut.py") 504), (Value.int (98 : Int) 0), (Value.int (2 : Int) 0), (Value.int (0 : Int) 0), (Value.int (0 : Int) 0), (Value.int (3 : Int) 0), (Value.ref 246), (Value.bool true), (Value.int (181 : Int) 0), (Value.ref 247), Value.none, (Value.ref 248), (Value.ref 249), (Value.ref 250), (Value.int (507 : Int) 0), (Value.int (98 : Int) 0), (Value.str (Str.ofString "/claim/cut.py") 508)])) (List.toArray []))) ::
  (nat_lit 252, Obj.mk (Value.type "function") none (Data.func (PySem.W.fnOf "drop" "Hall.drop" (defArgs sDrop) (defBody sDrop) (defScope sDrop) Value.none Value.none Value.none (Value.str (Str.ofString "switchhall.halls") 407) none (Value.ref 251) Value.none)) (List.toArray [])) ::
  (nat_lit 265, (Obj.mk (Value.type "code") none (Data.fields (List.toArray [(Value.str (Str.ofString "load_in") 517), (Value.str (Str.ofString "Hall.load_in") 518), (Value.str (Str.ofString "/claim/cut.py") 519), (Value.int (106 : Int) 0), (Value.int (2 : Int) 0), (Value.int (0 : Int) 0), (Value.int (0 : Int) 0), (Value.int (3 : Int) 0), (Value.ref 260), (Value.bool true), (Value.int (181 : Int) 0), (Value.ref 261), Value.none, (Value.ref 262), (Value.ref 263), (Value.ref 264), (Value.int (522 : Int) 0), (Value.int (106 : Int) 0), (Value.str (Str.ofString "/claim/cut.py") 523)])) (List.toArray []))) ::
  (nat_lit 266, Obj.mk (Value.type "function") none (Data.func (PySem.W.fnOf "load_in" "Hall.load_in" (defArgs sLoadIn) (defBody sLoadIn) (defScope sLoadIn) Value.none Value.none Value.none (Value.str (Str.ofString "switchhall.halls") 407) none (Value.ref 265) Value.none)) (List.toArray [])) ::
  (nat_lit 279, (Obj.mk (Value.type "code") none (Data.fields (List.toArray [(Value.str (Str.ofString "lay") 533), (Value.str (Str.ofString "Hall.lay") 534), (Value.str (Str.ofString "/claim/cut.py") 535), (Value.int (112 : Int) 0), (Value.int (5 : Int) 0), (Value.int (0 : Int) 0), (Value.int (0 : Int) 0), (Value.int (3 : Int) 0), (Value.ref 274), (Value.bool true), (Value.int (181 : Int) 0), (Value.ref 275), Value.none, (Value.ref 276), (Value.ref 277), (Value.ref 278), (Value.int (541 : Int) 0), (Value.int (112 : Int) 0), (Value.str (Str.ofString "/claim/cut.py") 542)])) (List.toArray []))) ::
  (nat_lit 280, Obj.mk (Value.type "function") none (Data.func (PySem.W.fnOf "lay" "Hall.lay" (defArgs sLay) (defBody sLay) (defScope sLay) Value.none Value.none Value.none (Value.str (Str.ofString "switchhall.halls") 407) none (Value.ref 279) Value.none)) (List.toArray [])) ::
  (nat_lit 301, (Obj.mk (Value.type "dict") none (Data.dict (List.toArray [(DictEntry.mk (PyData.keyHash P (Str.ofString "__module__")) (Value.str (Str.ofString "__module__") 473) (Value.str (Str.ofString "switchhall.halls") 407)), (DictEntry.mk (PyData.keyHash P (Str.ofString "__firstlineno__")) (Value.str (Str.ofString "__firstlineno__") 477) (Value.int (74 : Int) 476)), (DictEntry.mk (PyData.keyHash P (Str.ofString "__init__")) (Value.str (Str.ofString "__init__") 487) (Value.ref 238)), (DictEntry.mk (PyData.keyHash P (Str.ofString "put")) (Value.str (Str.ofString "put") 501) (Value.ref 245)), (DictEntry.mk (PyData.keyHash P (Str.ofString "drop")) (Value.str (Str.ofString "drop") 509) (Value.ref 252)), (DictEntry.mk (PyData.keyHash P (Str.ofString "calls")) (Value.str (Str.ofString "calls") 516) (Value.ref 259)), (DictEntry.mk (PyData.keyHash P (Str.ofString "load_in")) (Value.str (Str.ofString "load_in") 524) (Value.ref 266)), (DictEntry.mk (PyData.keyHash P (Str.ofString "load_out")) (Value.str (Str.ofString "load_out") 532) (Value.ref 273)), (DictEntry.mk (PyData.keyHash P (Str.ofString "lay")) (Value.str (Str.ofString "lay") 543) (Value.ref 280)), (DictEntry.mk (PyData.keyHash P (Str.ofString "lift")) (Value.str (Str.ofString "lift") 552) (Value.ref 287)), (DictEntry.mk (PyData.keyHash P (Str.ofString "make_room")) (Value.str (Str.ofString "make_room") 558) (Value.ref 292)), (DictEntry.mk (PyData.keyHash P (Str.ofString "way_from")) (Value.str (Str.ofString "way_from") 571) (Value.ref 299)), (DictEntry.mk (PyData.keyHash P (Str.ofString "__static_attributes__")) (Value.str (Str.ofString "__static_attributes__") 576) (Value.ref 300)), (DictEntry.mk (PyData.keyHash P (Str.ofString "__dict__")) (Value.str (Str.ofString "__dict__") 578) (Value.ref 303)), (DictEntry.mk (PyData.keyHash P (Str.ofString "__weakref__")) (Value.str (Str.ofString "__weakref__") 580) (Value.ref 304)), (DictEntry.mk (PyData.keyHash P (Str.ofString "__doc__")) (Value.str (Str.ofString "__doc__") 581) Value.none)]) 4) (List.toArray []))) ::
  (nat_lit 302, (Obj.mk (Value.type "type") none (Data.cls (ClassData.mk (Str.ofString "Hall") [(Value.type "object")] [(Value.ref 302), (Value.type "object")] 301 (Str.ofString "Hall") true [] [] false none false)) (List.toArray [none, none, (some (Value.str (Str.ofString "Hall") 466)), (some (Value.str (Str.ofString "Hall") 474)), (some (Value.builtin "object.__new__")), (some (Value.bool true))]))) ::
  (nat_lit 303, (Obj.mk (Value.type "getset_descriptor") none (Data.fields (List.toArray [(Value.str (Str.ofString "__dict__") 577), (Value.ref 302), (Value.builtin "function.__dict__"), (Value.builtin "function.__dict__#set")])) (List.toArray []))) ::
  (nat_lit 304, (Obj.mk (Value.type "getset_descriptor") none (Data.fields (List.toArray [(Value.str (Str.ofString "__weakref__") 579), (Value.ref 302), (Value.builtin "ExceptionGroup.__weakref__"), Value.none])) (List.toArray []))) ::
  (nat_lit 319, (Obj.mk (Value.type "code") none (Data.fields (List.toArray [(Value.str (Str.ofString "checked_sorters") 598), (Value.str (Str.ofString "checked_sorters") 599), (Value.str (Str.ofString "/claim/cut.py") 600), (Value.int (148 : Int) 0), (Value.int (2 : Int) 0), (Value.int (0 : Int) 0), (Value.int (0 : Int) 0), (Value.int (3 : Int) 0), (Value.ref 314), (Value.bool true), (Value.int (181 : Int) 0), (Value.ref 315), Value.none, (Value.ref 316), (Value.ref 317), (Value.ref 318), (Value.int (604 : Int) 0), (Value.int (148 : Int) 0), (Value.str (Str.ofString "/claim/cut.py") 605)])) (List.toArray []))) ::
  (nat_lit 320, Obj.mk (Value.type "function") none (Data.func (PySem.W.fnOf "checked_sorters" "checked_sorters" (defArgs s_chs) (defBody s_chs) (defScope s_chs) Value.none Value.none Value.none (Value.str (Str.ofString "switchhall.sorters") 584) none (Value.ref 319) Value.none)) (List.toArray [])) ::
  (nat_lit 326, (Obj.mk (Value.type "code") none (Data.fields (List.toArray [(Value.str (Str.ofString "done") 607), (Value.str (Str.ofString "done") 608), (Value.str (Str.ofString "/claim/cut.py") 609), (Value.int (157 : Int) 0), (Value.int (2 : Int) 0), (Value.int (0 : Int) 0), (Value.int (0 : Int) 0), (Value.int (3 : Int) 0), (Value.ref 321), (Value.bool true), (Value.int (181 : Int) 0), (Value.ref 322), Value.none, (Value.ref 323), (Value.ref 324), (Value.ref 325), (Value.int (615 : Int) 0), (Value.int (157 : Int) 0), (Value.str (Str.ofString "/claim/cut.py") 616)])) (List.toArray []))) ::
  (nat_lit 327, Obj.mk (Value.type "function") none (Data.func (PySem.W.fnOf "done" "done" (defArgs s_done) (defBody s_done) (defScope s_done) Value.none Value.none Value.none (Value.str (Str.ofString "switchhall.sorters") 584) none (Value.ref 326) Value.none)) (List.toArray [])) ::
  (nat_lit 331, (Obj.mk (Value.type "code") none (Data.fields (List.toArray [(Value.str (Str.ofString "noughts_and_ones") 618), (Value.str (Str.ofString "noughts_and_ones") 619), (Value.str (Str.ofString "/claim/cut.py") 620), (Value.int (163 : Int) 0), (Value.int (1 : Int) 0), (Value.int (0 : Int) 0), (Value.int (0 : Int) 0), (Value.int (3 : Int) 0), (Value.ref 328), (Value.bool true), (Value.int (181 : Int) 0), (Value.ref 329), Value.none, Value.none, Value.none, (Value.ref 330), (Value.int (621 : Int) 0), (Value.int (163 : Int) 0), (Value.str (Str.ofString "/claim/cut.py") 622)])) (List.toArray []))) ::
  (nat_lit 332, Obj.mk (Value.type "function") none (Data.func (PySem.W.fnOf "noughts_and_ones" "noughts_and_ones" (defArgs s_nao) (defBody s_nao) (defScope s_nao) Value.none Value.none Value.none (Value.str (Str.ofString "switchhall.sorters") 584) none (Value.ref 331) Value.none)) (List.toArray [])) ::
  (nat_lit 338, (Obj.mk (Value.type "code") none (Data.fields (List.toArray [(Value.str (Str.ofString "first_unsorted") 624), (Value.str (Str.ofString "first_unsorted") 625), (Value.str (Str.ofString "/claim/cut.py") 626), (Value.int (168 : Int) 0), (Value.int (2 : Int) 0), (Value.int (0 : Int) 0), (Value.int (0 : Int) 0), (Value.int (3 : Int) 0), (Value.ref 333), (Value.bool true), (Value.int (181 : Int) 0), (Value.ref 334), Value.none, (Value.ref 335), (Value.ref 336), (Value.ref 337), (Value.int (630 : Int) 0), (Value.int (168 : Int) 0), (Value.str (Str.ofString "/claim/cut.py") 631)])) (List.toArray []))) ::
  (nat_lit 339, Obj.mk (Value.type "function") none (Data.func (PySem.W.fnOf "first_unsorted" "first_unsorted" (defArgs s_first) (defBody s_first) (defScope s_first) Value.none Value.none Value.none (Value.str (Str.ofString "switchhall.sorters") 584) none (Value.ref 338) Value.none)) (List.toArray [])) ::
  (nat_lit 345, (Obj.mk (Value.type "code") none (Data.fields (List.toArray [(Value.str (Str.ofString "lean") 633), (Value.str (Str.ofString "lean") 634), (Value.str (Str.ofString "/claim/cut.py") 635), (Value.int (173 : Int) 0), (Value.int (2 : Int) 0), (Value.int (0 : Int) 0), (Value.int (0 : Int) 0), (Value.int (3 : Int) 0), (Value.ref 340), (Value.bool true), (Value.int (181 : Int) 0), (Value.ref 341), Value.none, (Value.ref 342), (Value.ref 343), (Value.ref 344), (Value.int (641 : Int) 0), (Value.int (173 : Int) 0), (Value.str (Str.ofString "/claim/cut.py") 642)])) (List.toArray []))) ::
  (nat_lit 346, Obj.mk (Value.type "function") none (Data.func (PySem.W.fnOf "lean" "lean" (defArgs s_lean) (defBody s_lean) (defScope s_lean) Value.none Value.none Value.none (Value.str (Str.ofString "switchhall.sorters") 584) none (Value.ref 345) Value.none)) (List.toArray [])) ::
  (nat_lit 347, (Obj.mk (Value.type "tuple") none (Data.seq (List.toArray [(Value.int (2 : Int) 644), (Value.int (4 : Int) 645), (Value.int (8 : Int) 646), (Value.int (16 : Int) 647)]) 0) (List.toArray []))) ::
  (nat_lit 353, (Obj.mk (Value.type "code") none (Data.fields (List.toArray [(Value.str (Str.ofString "many_figures") 653), (Value.str (Str.ofString "many_figures") 654), (Value.str (Str.ofString "/claim/cut.py") 655), (Value.int (185 : Int) 0), (Value.int (1 : Int) 0), (Value.int (0 : Int) 0), (Value.int (0 : Int) 0), (Value.int (3 : Int) 0), (Value.ref 348), (Value.bool true), (Value.int (181 : Int) 0), (Value.ref 349), Value.none, (Value.ref 350), (Value.ref 351), (Value.ref 352), (Value.int (657 : Int) 0), (Value.int (185 : Int) 0), (Value.str (Str.ofString "/claim/cut.py") 658)])) (List.toArray []))) ::
  (nat_lit 354, Obj.mk (Value.type "function") none (Data.func (PySem.W.fnOf "many_figures" "many_figures" (defArgs s_mfig) (defBody s_mfig) (defScope s_mfig) Value.none Value.none Value.none (Value.str (Str.ofString "switchhall.texts") 649) none (Value.ref 353) Value.none)) (List.toArray [])) ::
  (nat_lit 360, (Obj.mk (Value.type "code") none (Data.fields (List.toArray [(Value.str (Str.ofString "check_text") 660), (Value.str (Str.ofString "check_text") 661), (Value.str (Str.ofString "/claim/cut.py") 662), (Value.int (189 : Int) 0), (Value.int (2 : Int) 0), (Value.int (0 : Int) 0), (Value.int (0 : Int) 0), (Value.int (3 : Int) 0), (Value.ref 355), (Value.bool true), (Value.int (181 : Int) 0), (Value.ref 356), Value.none, (Value.ref 357), (Value.ref 358), (Value.ref 359), (Value.int (666 : Int) 0), (Value.int (189 : Int) 0), (Value.str (Str.ofString "/claim/cut.py") 667)])) (List.toArray []))) ::
  (nat_lit 361, Obj.mk (Value.type "function") none (Data.func (PySem.W.fnOf "check_text" "check_text" (defArgs s_chkx) (defBody s_chkx) (defScope s_chkx) Value.none Value.none Value.none (Value.str (Str.ofString "switchhall.texts") 649) none (Value.ref 360) Value.none)) (List.toArray [])) ::
  (nat_lit 365, (Obj.mk (Value.type "code") none (Data.fields (List.toArray [(Value.str (Str.ofString "read") 669), (Value.str (Str.ofString "read") 670), (Value.str (Str.ofString "/claim/cut.py") 671), (Value.int (197 : Int) 0), (Value.int (2 : Int) 0), (Value.int (0 : Int) 0), (Value.int (0 : Int) 0), (Value.int (3 : Int) 0), (Value.ref 362), (Value.bool true), (Value.int (181 : Int) 0), (Value.ref 363), Value.none, Value.none, Value.none, (Value.ref 364), (Value.int (672 : Int) 0), (Value.int (197 : Int) 0), (Value.str (Str.ofString "/claim/cut.py") 673)])) (List.toArray []))) ::
  (nat_lit 366, Obj.mk (Value.type "function") none (Data.func (PySem.W.fnOf "read" "read" (defArgs s_read) (defBody s_read) (defScope s_read) Value.none Value.none Value.none (Value.str (Str.ofString "switchhall.texts") 649) none (Value.ref 365) Value.none)) (List.toArray [])) ::
  (nat_lit 384, (Obj.mk (Value.type "code") none (Data.fields (List.toArray [(Value.str (Str.ofString "checked_table") 700), (Value.str (Str.ofString "checked_table") 701), (Value.str (Str.ofString "/claim/cut.py") 702), (Value.int (216 : Int) 0), (Value.int (1 : Int) 0), (Value.int (0 : Int) 0), (Value.int (0 : Int) 0), (Value.int (3 : Int) 0), (Value.ref 381), (Value.bool true), (Value.int (181 : Int) 0), (Value.ref 382), Value.none, Value.none, Value.none, (Value.ref 383), (Value.int (703 : Int) 0), (Value.int (216 : Int) 0), (Value.str (Str.ofString "/claim/cut.py") 704)])) (List.toArray []))) ::
  (nat_lit 385, Obj.mk (Value.type "function") none (Data.func (PySem.W.fnOf "checked_table" "checked_table" (defArgs s_ctab) (defBody s_ctab) (defScope s_ctab) Value.none Value.none Value.none (Value.str (Str.ofString "switchhall.times") 686) none (Value.ref 384) Value.none)) (List.toArray [])) ::
  (nat_lit 391, (Obj.mk (Value.type "code") none (Data.fields (List.toArray [(Value.str (Str.ofString "_law_cell") 708), (Value.str (Str.ofString "_law_cell") 709), (Value.str (Str.ofString "/claim/cut.py") 710), (Value.int (225 : Int) 0), (Value.int (2 : Int) 0), (Value.int (0 : Int) 0), (Value.int (0 : Int) 0), (Value.int (3 : Int) 0), (Value.ref 386), (Value.bool true), (Value.int (181 : Int) 0), (Value.ref 387), Value.none, (Value.ref 388), (Value.ref 389), (Value.ref 390), (Value.int (713 : Int) 0), (Value.int (225 : Int) 0), (Value.str (Str.ofString "/claim/cut.py") 714)])) (List.toArray []))) ::
  (nat_lit 392, Obj.mk (Value.type "function") none (Data.func (PySem.W.fnOf "_law_cell" "_law_cell" (defArgs s_cell) (defBody s_cell) (defScope s_cell) Value.none Value.none Value.none (Value.str (Str.ofString "law_switchhall_k30_refusals_stand_apart") 706) none (Value.ref 391) Value.none)) (List.toArray [])) ::
  (nat_lit 398, (Obj.mk (Value.type "code") none (Data.fields (List.toArray [(Value.str (Str.ofString "_law_put_twice") 716), (Value.str (Str.ofString "_law_put_twice") 717), (Value.str (Str.ofString "/claim/cut.py") 718), (Value.int (229 : Int) 0), (Value.int (1 : Int) 0), (Value.int (0 : Int) 0), (Value.int (0 : Int) 0), (Value.int (3 : Int) 0), (Value.ref 393), (Value.bool true), (Value.int (181 : Int) 0), (Value.ref 394), Value.none, (Value.ref 395), (Value.ref 396), (Value.ref 397), (Value.int (720 : Int) 0), (Value.int (229 : Int) 0), (Value.str (Str.ofString "/claim/cut.py") 721)])) (List.toArray []))) ::
  (nat_lit 399, Obj.mk (Value.type "function") none (Data.func (PySem.W.fnOf "_law_put_twice" "_law_put_twice" (defArgs s_ptw) (defBody s_ptw) (defScope s_ptw) Value.none Value.none Value.none (Value.str (Str.ofString "law_switchhall_k30_refusals_stand_apart") 706) none (Value.ref 398) Value.none)) (List.toArray [])) ::
  (nat_lit 405, (Obj.mk (Value.type "code") none (Data.fields (List.toArray [(Value.str (Str.ofString "_law_deed") 723), (Value.str (Str.ofString "_law_deed") 724), (Value.str (Str.ofString "/claim/cut.py") 725), (Value.int (232 : Int) 0), (Value.int (1 : Int) 0), (Value.int (0 : Int) 0), (Value.int (0 : Int) 0), (Value.int (3 : Int) 0), (Value.ref 400), (Value.bool true), (Value.int (181 : Int) 0), (Value.ref 401), Value.none, (Value.ref 402), (Value.ref 403), (Value.ref 404), (Value.int (727 : Int) 0), (Value.int (232 : Int) 0), (Value.str (Str.ofString "/claim/cut.py") 728)])) (List.toArray []))) ::
  (nat_lit 406, Obj.mk (Value.type "function") none (Data.func (PySem.W.fnOf "_law_deed" "_law_deed" (defArgs s_deed) (defBody s_deed) (defScope s_deed) Value.none Value.none Value.none (Value.str (Str.ofString "law_switchhall_k30_refusals_stand_apart") 706) none (Value.ref 405) Value.none)) (List.toArray [])) ::
  (nat_lit 412, (Obj.mk (Value.type "code") none (Data.fields (List.toArray [(Value.str (Str.ofString "_law_kinds_of") 730), (Value.str (Str.ofString "_law_kinds_of") 731), (Value.str (Str.ofString "/claim/cut.py") 732), (Value.int (250 : Int) 0), (Value.int (1 : Int) 0), (Value.int (0 : Int) 0), (Value.int (0 : Int) 0), (Value.int (3 : Int) 0), (Value.ref 407), (Value.bool true), (Value.int (181 : Int) 0), (Value.ref 408), Value.none, (Value.ref 409), (Value.ref 410), (Value.ref 411), (Value.int (736 : Int) 0), (Value.int (250 : Int) 0), (Value.str (Str.ofString "/claim/cut.py") 737)])) (List.toArray []))) ::
  (nat_lit 413, Obj.mk (Value.type "function") none (Data.func (PySem.W.fnOf "_law_kinds_of" "_law_kinds_of" (defArgs s_kinds) (defBody s_kinds) (defScope s_kinds) Value.none Value.none Value.none (Value.str (Str.ofString "law_switchhall_k30_refusals_stand_apart") 706) none (Value.ref 412) Value.none)) (List.toArray [])) ::
  (nat_lit 417, (Obj.mk (Value.type "code") none (Data.fields (List.toArray [(Value.str (Str.ofString "law") 739), (Value.str (Str.ofString "law") 740), (Value.str (Str.ofString "/claim/cut.py") 741), (Value.int (259 : Int) 0), (Value.int (1 : Int) 0), (Value.int (0 : Int) 0), (Value.int (0 : Int) 0), (Value.int (3 : Int) 0), (Value.ref 414), (Value.bool true), (Value.int (181 : Int) 0), (Value.ref 415), Value.none, Value.none, Value.none, (Value.ref 416), (Value.int (742 : Int) 0), (Value.int (259 : Int) 0), (Value.str (Str.ofString "/claim/cut.py") 743)])) (List.toArray []))) ::
  (nat_lit 418, Obj.mk (Value.type "function") none (Data.func (PySem.W.fnOf "law" "law" (defArgs s_law) (defBody s_law) (defScope s_law) Value.none Value.none Value.none (Value.str (Str.ofString "law_switchhall_k30_refusals_stand_apart") 706) none (Value.ref 417) Value.none)) (List.toArray [])) :: []
def as30 : List Addr := nat_lit 2 :: nat_lit 3 :: nat_lit 30 :: nat_lit 31 :: nat_lit 32 :: nat_lit 43 :: nat_lit 44 :: nat_lit 55 :: nat_lit 56 :: nat_lit 67 :: nat_lit 68 :: nat_lit 79 :: nat_lit 80 :: nat_lit 91 :: nat_lit 92 :: nat_lit 103 :: nat_lit 104 :: nat_lit 115 :: nat_lit 116 :: nat_lit 127 :: nat_lit 128 :: nat_lit 139 :: nat_lit 140 :: nat_lit 148 :: nat_lit 149 :: nat_lit 155 :: nat_lit 156 :: nat_lit 162 :: nat_lit 163 :: nat_lit 169 :: nat_lit 170 :: nat_lit 183 :: nat_lit 184 :: nat_lit 188 :: nat_lit 189 :: nat_lit 195 :: nat_lit 196 :: nat_lit 202 :: nat_lit 203 :: nat_lit 209 :: nat_lit 210 :: nat_lit 223 :: nat_lit 224 :: nat_lit 237 :: nat_lit 238 :: nat_lit 244 :: nat_lit 245 :: nat_lit 251 :: nat_lit 252 :: nat_lit 265 :: nat_lit 266 :: nat_lit 279 :: nat_lit 280 :: nat_lit 301 :: nat_lit 302 :: nat_lit 303 :: nat_lit 304 :: nat_lit 319 :: nat_lit 320 :: nat_lit 326 :: nat_lit 327 :: nat_lit 331 :: nat_lit 332 :: nat_lit 338 :: nat_lit 339 :: nat_lit 345 :: nat_lit 346 :: nat_lit 347 :: nat_lit 353 :: nat_lit 354 :: nat_lit 360 :: nat_lit 361 :: nat_lit 365 :: nat_lit 366 :: nat_lit 384 :: nat_lit 385 :: nat_lit 391 :: nat_lit 392 :: nat_lit 398 :: nat_lit 399 :: nat_lit 405 :: nat_lit 406 :: nat_lit 412 :: nat_lit 413 :: nat_lit 417 :: nat_lit 418 :: []
end Ka30
set_option maxHeartbeats 4000000
namespace Ka30
open PySem L2
theorem usS {us : List Value} {n : Nat} (h : us.length = n + 1) : ∃ x r, us = x :: r ∧ r.length = n := by
  cases us with
  | nil => cases h
  | cons x r => exact ⟨x, r, rfl, Nat.succ.inj h⟩
theorem us1 {us : List Value} (h : us.length = 1) : ∃ x0, us = [x0] := by
  obtain ⟨x, r, e, h2⟩ := usS h
  rw [List.length_eq_zero_iff.mp h2] at e
  exact ⟨x, e⟩
theorem us2 {us : List Value} (h : us.length = 2) : ∃ x0 x1, us = [x0, x1] := by
  obtain ⟨x0, r, e, h2⟩ := usS h
  obtain ⟨x1, e2⟩ := us1 h2
  exact ⟨x0, x1, by rw [e, e2]⟩
theorem us3 {us : List Value} (h : us.length = 3) : ∃ x0 x1 x2, us = [x0, x1, x2] := by
  obtain ⟨x0, r, e, h2⟩ := usS h
  obtain ⟨x1, x2, e2⟩ := us2 h2
  exact ⟨x0, x1, x2, by rw [e, e2]⟩
theorem us4 {us : List Value} (h : us.length = 4) : ∃ x0 x1 x2 x3, us = [x0, x1, x2, x3] := by
  obtain ⟨x0, r, e, h2⟩ := usS h
  obtain ⟨x1, x2, x3, e2⟩ := us3 h2
  exact ⟨x0, x1, x2, x3, by rw [e, e2]⟩
theorem us5 {us : List Value} (h : us.length = 5) : ∃ x0 x1 x2 x3 x4, us = [x0, x1, x2, x3, x4] := by
  obtain ⟨x0, r, e, h2⟩ := usS h
  obtain ⟨x1, x2, x3, x4, e2⟩ := us4 h2
  exact ⟨x0, x1, x2, x3, x4, by rw [e, e2]⟩
def ad30 : Ad := { whole := 149, within := 156, dlist := 163, chk := 170, check := 184, free := 189, endAt := 196, load := 203, isFull := 210, both := 224, chs := 320, done := 327, nao := 332, first := 339, lean := 346, mfig := 354, chkx := 361, read := 366, ctab := 385, cell := 392, ptw := 399, deed := 406, kinds := 413, law := 418, hall := 302, init := 238, put := 245, drop := 252, lin := 266, lay := 280, btab := 92, bord := 104, btxt := 116, bsor := 128, uns := 140, sw := 31, bad := 44, noEnd := 56, busy := 68, noCall := 80, sizes := 347 }
def fd30 : Fd := { whole := PySem.W.fnOf "is_whole" "is_whole" (defArgs sWhole) (defBody sWhole) (defScope sWhole) .none Value.none Value.none (Value.str (Str.ofString "switchhall.kinds") 358) none (Value.ref 148) Value.none, within := PySem.W.fnOf "is_whole_within" "is_whole_within" (defArgs sWithin) (defBody sWithin) (defScope sWithin) .none Value.none Value.none (Value.str (Str.ofString "switchhall.kinds") 358) none (Value.ref 155) Value.none, dlist := PySem.W.fnOf "is_list_within" "is_list_within" (defArgs s_dlist) (defBody s_dlist) (defScope s_dlist) .none Value.none Value.none (Value.str (Str.ofString "switchhall.kinds") 358) none (Value.ref 162) Value.none, chk := PySem.W.fnOf "checked_order" "checked_order" (defArgs s_chk) (defBody s_chk) (defScope s_chk) .none Value.none Value.none (Value.str (Str.ofString "switchhall.orders") 385) none (Value.ref 169) Value.none, check := PySem.W.fnOf "check_sizes" "check_sizes" (defArgs sCheck) (defBody sCheck) (defScope sCheck) .none Value.none Value.none (Value.str (Str.ofString "switchhall.halls") 407) none (Value.ref 183) Value.none, free := PySem.W.fnOf "free_ends" "free_ends" (defArgs sFree) (defBody sFree) (defScope sFree) .none Value.none Value.none (Value.str (Str.ofString "switchhall.halls") 407) none (Value.ref 188) Value.none, endAt := PySem.W.fnOf "end_at" "end_at" (defArgs sEnd) (defBody sEnd) (defScope sEnd) .none Value.none Value.none (Value.str (Str.ofString "switchhall.halls") 407) none (Value.ref 195) Value.none, load := PySem.W.fnOf "load_of" "load_of" (defArgs sLoad) (defBody sLoad) (defScope sLoad) .none Value.none Value.none (Value.str (Str.ofString "switchhall.halls") 407) none (Value.ref 202) Value.none, isFull := PySem.W.fnOf "is_full" "is_full" (defArgs sFull) (defBody sFull) (defScope sFull) .none Value.none Value.none (Value.str (Str.ofString "switchhall.halls") 407) none (Value.ref 209) Value.none, both := PySem.W.fnOf "least_free_at_both" "least_free_at_both" (defArgs sBoth) (defBody sBoth) (defScope sBoth) .none Value.none Value.none (Value.str (Str.ofString "switchhall.halls") 407) none (Value.ref 223) Value.none, chs := PySem.W.fnOf "checked_sorters" "checked_sorters" (defArgs s_chs) (defBody s_chs) (defScope s_chs) .none Value.none Value.none (Value.str (Str.ofString "switchhall.sorters") 584) none (Value.ref 319) Value.none, done := PySem.W.fnOf "done" "done" (defArgs s_done) (defBody s_done) (defScope s_done) .none Value.none Value.none (Value.str (Str.ofString "switchhall.sorters") 584) none (Value.ref 326) Value.none, nao := PySem.W.fnOf "noughts_and_ones" "noughts_and_ones" (defArgs s_nao) (defBody s_nao) (defScope s_nao) .none Value.none Value.none (Value.str (Str.ofString "switchhall.sorters") 584) none (Value.ref 331) Value.none, first := PySem.W.fnOf "first_unsorted" "first_unsorted" (defArgs s_first) (defBody s_first) (defScope s_first) .none Value.none Value.none (Value.str (Str.ofString "switchhall.sorters") 584) none (Value.ref 338) Value.none, lean := PySem.W.fnOf "lean" "lean" (defArgs s_lean) (defBody s_lean) (defScope s_lean) .none Value.none Value.none (Value.str (Str.ofString "switchhall.sorters") 584) none (Value.ref 345) Value.none, mfig := PySem.W.fnOf "many_figures" "many_figures" (defArgs s_mfig) (defBody s_mfig) (defScope s_mfig) .none Value.none Value.none (Value.str (Str.ofString "switchhall.texts") 649) none (Value.ref 353) Value.none, chkx := PySem.W.fnOf "check_text" "check_text" (defArgs s_chkx) (defBody s_chkx) (defScope s_chkx) .none Value.none Value.none (Value.str (Str.ofString "switchhall.texts") 649) none (Value.ref 360) Value.none, read := PySem.W.fnOf "read" "read" (defArgs s_read) (defBody s_read) (defScope s_read) .none Value.none Value.none (Value.str (Str.ofString "switchhall.texts") 649) none (Value.ref 365) Value.none, ctab := PySem.W.fnOf "checked_table" "checked_table" (defArgs s_ctab) (defBody s_ctab) (defScope s_ctab) .none Value.none Value.none (Value.str (Str.ofString "switchhall.times") 686) none (Value.ref 384) Value.none, cell := PySem.W.fnOf "_law_cell" "_law_cell" (defArgs s_cell) (defBody s_cell) (defScope s_cell) .none Value.none Value.none (Value.str (Str.ofString "law_switchhall_k30_refusals_stand_apart") 706) none (Value.ref 391) Value.none, ptw := PySem.W.fnOf "_law_put_twice" "_law_put_twice" (defArgs s_ptw) (defBody s_ptw) (defScope s_ptw) .none Value.none Value.none (Value.str (Str.ofString "law_switchhall_k30_refusals_stand_apart") 706) none (Value.ref 398) Value.none, deed := PySem.W.fnOf "_law_deed" "_law_deed" (defArgs s_deed) (defBody s_deed) (defScope s_deed) .none Value.none Value.none (Value.str (Str.ofString "law_switchhall_k30_refusals_stand_apart") 706) none (Value.ref 405) Value.none, kinds := PySem.W.fnOf "_law_kinds_of" "_law_kinds_of" (defArgs s_kinds) (defBody s_kinds) (defScope s_kinds) .none Value.none Value.none (Value.str (Str.ofString "law_switchhall_k30_refusals_stand_apart") 706) none (Value.ref 412) Value.none, law := PySem.W.fnOf "law" "law" (defArgs s_law) (defBody s_law) (defScope s_law) .none Value.none Value.none (Value.str (Str.ofString "law_switchhall_k30_refusals_stand_apart") 706) none (Value.ref 417) Value.none, init := PySem.W.fnOf "__init__" "Hall.__init__" (defArgs sInit) (defBody sInit) (defScope sInit) .none Value.none Value.none (Value.str (Str.ofString "switchhall.halls") 407) none (Value.ref 237) Value.none, put := PySem.W.fnOf "put" "Hall.put" (defArgs sPut) (defBody sPut) (defScope sPut) .none Value.none Value.none (Value.str (Str.ofString "switchhall.halls") 407) none (Value.ref 244) Value.none, drop := PySem.W.fnOf "drop" "Hall.drop" (defArgs sDrop) (defBody sDrop) (defScope sDrop) .none Value.none Value.none (Value.str (Str.ofString "switchhall.halls") 407) none (Value.ref 251) Value.none, lin := PySem.W.fnOf "load_in" "Hall.load_in" (defArgs sLoadIn) (defBody sLoadIn) (defScope sLoadIn) .none Value.none Value.none (Value.str (Str.ofString "switchhall.halls") 407) none (Value.ref 265) Value.none, lay := PySem.W.fnOf "lay" "Hall.lay" (defArgs sLay) (defBody sLay) (defScope sLay) .none Value.none Value.none (Value.str (Str.ofString "switchhall.halls") 407) none (Value.ref 279) Value.none }
def nine30 : List Addr := [44, 56, 68, 80, 92, 104, 116, 128, 140]
theorem all9 {p : Addr → Bool} (h : nine30.all p = true) {k : Nat} {C : Addr} (e : (nine ad30)[k]? = some C) : p C = true := List.all_eq_true.mp h C (List.mem_of_getElem? (show nine30[k]? = some C from e))
theorem row30 (P : Params) (k : Nat) (C : Addr) (h : (nine ad30)[k]? = some C) : Row9 (K30 P) ad30 k C := by
  have ga : (nine30.all fun C => PySem.W.findIn (K30 P) (.ref C) "__getattribute__" == some (some (.builtin "BaseException.__getattribute__"))) = true := by kernel_rfl
  have gn : (nine30.all fun C => PySem.W.findIn (K30 P) (.ref C) "__getattr__" == some none) = true := by kernel_rfl
  have cl : (nine30.all fun C => PySem.W.findIn (K30 P) (.ref C) "__class__" == some (some (.builtin "object.__class__"))) = true := by kernel_rfl
  have mo : (nine30.all fun C => PySem.W.mroIn (K30 P) C (.type "object") == some true) = true := by kernel_rfl
  have mb : (nine30.all fun C => PySem.W.mroIn (K30 P) C (.type "BaseException") == some true) = true := by kernel_rfl
  have ex : (nine30.all fun C => PySem.W.exmOne (K30 P) (.ref C) (.ref 31) == some true) = true := by kernel_rfl
  have kt : ((List.range 9).all fun k => (List.range 9).all fun j => PySem.W.kitOne (K30 P) (.ref (nine30.getD k 0)) (.ref (nine30.getD j 0)) == some (decide (((j : Nat) : Int) = ((k : Nat) : Int)))) = true := by kernel_rfl
  refine ⟨⟨beq_iff_eq.mp (all9 ga h), beq_iff_eq.mp (all9 gn h), beq_iff_eq.mp (all9 cl h), by kernel_rfl, by kernel_rfl, beq_iff_eq.mp (all9 mo h), beq_iff_eq.mp (all9 mb h)⟩, beq_iff_eq.mp (all9 ex h), fun j D e => ?_⟩
  have at_ : ∀ {k : Nat} {C : Addr}, (nine ad30)[k]? = some C → k < 9 ∧ nine30.getD k 0 = C := fun {k C} h => by
    have h : nine30[k]? = some C := h
    have l := (List.getElem?_eq_some_iff.mp h).1
    exact ⟨l, by rw [List.getD_eq_getElem?_getD, h]; rfl⟩
  have z := beq_iff_eq.mp (List.all_eq_true.mp (List.all_eq_true.mp kt k (List.mem_range.mpr (at_ h).1)) j (List.mem_range.mpr (at_ e).1))
  rw [(at_ h).2, (at_ e).2] at z
  exact z
theorem top30 {l : PySem.W.OpenLaw} {w : World} {h : Heap} {mg : Str → Option Value} {fa : Addr} (X : (K30 w.params).In h) (G : h.Ns mainGlobals mg) (hfa : mg "law" = some (.ref fa))
    : ∃ fd : FuncData, (∀ (s : Shared) (v : Value), BindsTo s fd ⟨[v], []⟩ [("_law_script", v)]) ∧ ∀ base : Heap, (K30 w.params).In base → base.Ns mainGlobals mg → FnOk l.prog w (K30 w.params) mg base (CXx l.prog w) 8 fa fd ["_law_script"] (spLaw (K30 w.params)) := by
  have a_whole : PySem.W.nsIn (K30 w.params) mainGlobals "is_whole" = some (some (.ref 149)) := by kernel_rfl
  have l_whole : (K30 w.params).lookup 149 = some ⟨(Value.type "function"), none, .func (PySem.W.fnOf "is_whole" "is_whole" (defArgs sWhole) (defBody sWhole) (defScope sWhole) .none Value.none Value.none (Value.str (Str.ofString "switchhall.kinds") 358) none (Value.ref 148) Value.none), (List.toArray [])⟩ := by kernel_rfl
  have c_whole : PySem.W.codeIn (K30 w.params) (Value.ref 148) "is_whole" = true := by kernel_rfl
  have k_whole : PySem.W.keepIn (K30 w.params) (.ref 149) = true := by kernel_rfl
  have a_within : PySem.W.nsIn (K30 w.params) mainGlobals "is_whole_within" = some (some (.ref 156)) := by kernel_rfl
  have l_within : (K30 w.params).lookup 156 = some ⟨(Value.type "function"), none, .func (PySem.W.fnOf "is_whole_within" "is_whole_within" (defArgs sWithin) (defBody sWithin) (defScope sWithin) .none Value.none Value.none (Value.str (Str.ofString "switchhall.kinds") 358) none (Value.ref 155) Value.none), (List.toArray [])⟩ := by kernel_rfl
  have c_within : PySem.W.codeIn (K30 w.params) (Value.ref 155) "is_whole_within" = true := by kernel_rfl
  have k_within : PySem.W.keepIn (K30 w.params) (.ref 156) = true := by kernel_rfl
  have a_dlist : PySem.W.nsIn (K30 w.params) mainGlobals "is_list_within" = some (some (.ref 163)) := by kernel_rfl
  have l_dlist : (K30 w.params).lookup 163 = some ⟨(Value.type "function"), none, .func (PySem.W.fnOf "is_list_within" "is_list_within" (defArgs s_dlist) (defBody s_dlist) (defScope s_dlist) .none Value.none Value.none (Value.str (Str.ofString "switchhall.kinds") 358) none (Value.ref 162) Value.none), (List.toArray [])⟩ := by kernel_rfl
  have c_dlist : PySem.W.codeIn (K30 w.params) (Value.ref 162) "is_list_within" = true := by kernel_rfl
  have k_dlist : PySem.W.keepIn (K30 w.params) (.ref 163) = true := by kernel_rfl
  have a_chk : PySem.W.nsIn (K30 w.params) mainGlobals "checked_order" = some (some (.ref 170)) := by kernel_rfl
  have l_chk : (K30 w.params).lookup 170 = some ⟨(Value.type "function"), none, .func (PySem.W.fnOf "checked_order" "checked_order" (defArgs s_chk) (defBody s_chk) (defScope s_chk) .none Value.none Value.none (Value.str (Str.ofString "switchhall.orders") 385) none (Value.ref 169) Value.none), (List.toArray [])⟩ := by kernel_rfl
  have c_chk : PySem.W.codeIn (K30 w.params) (Value.ref 169) "checked_order" = true := by kernel_rfl
  have k_chk : PySem.W.keepIn (K30 w.params) (.ref 170) = true := by kernel_rfl
  have a_check : PySem.W.nsIn (K30 w.params) mainGlobals "check_sizes" = some (some (.ref 184)) := by kernel_rfl
  have l_check : (K30 w.params).lookup 184 = some ⟨(Value.type "function"), none, .func (PySem.W.fnOf "check_sizes" "check_sizes" (defArgs sCheck) (defBody sCheck) (defScope sCheck) .none Value.none Value.none (Value.str (Str.ofString "switchhall.halls") 407) none (Value.ref 183) Value.none), (List.toArray [])⟩ := by kernel_rfl
  have c_check : PySem.W.codeIn (K30 w.params) (Value.ref 183) "check_sizes" = true := by kernel_rfl
  have k_check : PySem.W.keepIn (K30 w.params) (.ref 184) = true := by kernel_rfl
  have a_free : PySem.W.nsIn (K30 w.params) mainGlobals "free_ends" = some (some (.ref 189)) := by kernel_rfl
  have l_free : (K30 w.params).lookup 189 = some ⟨(Value.type "function"), none, .func (PySem.W.fnOf "free_ends" "free_ends" (defArgs sFree) (defBody sFree) (defScope sFree) .none Value.none Value.none (Value.str (Str.ofString "switchhall.halls") 407) none (Value.ref 188) Value.none), (List.toArray [])⟩ := by kernel_rfl
  have c_free : PySem.W.codeIn (K30 w.params) (Value.ref 188) "free_ends" = true := by kernel_rfl
  have k_free : PySem.W.keepIn (K30 w.params) (.ref 189) = true := by kernel_rfl
  have a_endAt : PySem.W.nsIn (K30 w.params) mainGlobals "end_at" = some (some (.ref 196)) := by kernel_rfl
  have l_endAt : (K30 w.params).lookup 196 = some ⟨(Value.type "function"), none, .func (PySem.W.fnOf "end_at" "end_at" (defArgs sEnd) (defBody sEnd) (defScope sEnd) .none Value.none Value.none (Value.str (Str.ofString "switchhall.halls") 407) none (Value.ref 195) Value.none), (List.toArray [])⟩ := by kernel_rfl
  have c_endAt : PySem.W.codeIn (K30 w.params) (Value.ref 195) "end_at" = true := by kernel_rfl
  have k_endAt : PySem.W.keepIn (K30 w.params) (.ref 196) = true := by kernel_rfl
  have a_load : PySem.W.nsIn (K30 w.params) mainGlobals "load_of" = some (some (.ref 203)) := by kernel_rfl
  have l_load : (K30 w.params).lookup 203 = some ⟨(Value.type "function"), none, .func (PySem.W.fnOf "load_of" "load_of" (defArgs sLoad) (defBody sLoad) (defScope sLoad) .none Value.none Value.none (Value.str (Str.ofString "switchhall.halls") 407) none (Value.ref 202) Value.none), (List.toArray [])⟩ := by kernel_rfl
  have c_load : PySem.W.codeIn (K30 w.params) (Value.ref 202) "load_of" = true := by kernel_rfl
  have k_load : PySem.W.keepIn (K30 w.params) (.ref 203) = true := by kernel_rfl
  have a_isFull : PySem.W.nsIn (K30 w.params) mainGlobals "is_full" = some (some (.ref 210)) := by kernel_rfl
  have l_isFull : (K30 w.params).lookup 210 = some ⟨(Value.type "function"), none, .func (PySem.W.fnOf "is_full" "is_full" (defArgs sFull) (defBody sFull) (defScope sFull) .none Value.none Value.none (Value.str (Str.ofString "switchhall.halls") 407) none (Value.ref 209) Value.none), (List.toArray [])⟩ := by kernel_rfl
  have c_isFull : PySem.W.codeIn (K30 w.params) (Value.ref 209) "is_full" = true := by kernel_rfl
  have k_isFull : PySem.W.keepIn (K30 w.params) (.ref 210) = true := by kernel_rfl
  have a_both : PySem.W.nsIn (K30 w.params) mainGlobals "least_free_at_both" = some (some (.ref 224)) := by kernel_rfl
  have l_both : (K30 w.params).lookup 224 = some ⟨(Value.type "function"), none, .func (PySem.W.fnOf "least_free_at_both" "least_free_at_both" (defArgs sBoth) (defBody sBoth) (defScope sBoth) .none Value.none Value.none (Value.str (Str.ofString "switchhall.halls") 407) none (Value.ref 223) Value.none), (List.toArray [])⟩ := by kernel_rfl
  have c_both : PySem.W.codeIn (K30 w.params) (Value.ref 223) "least_free_at_both" = true := by kernel_rfl
  have k_both : PySem.W.keepIn (K30 w.params) (.ref 224) = true := by kernel_rfl
  have a_chs : PySem.W.nsIn (K30 w.params) mainGlobals "checked_sorters" = some (some (.ref 320)) := by kernel_rfl
  have l_chs : (K30 w.params).lookup 320 = some ⟨(Value.type "function"), none, .func (PySem.W.fnOf "checked_sorters" "checked_sorters" (defArgs s_chs) (defBody s_chs) (defScope s_chs) .none Value.none Value.none (Value.str (Str.ofString "switchhall.sorters") 584) none (Value.ref 319) Value.none), (List.toArray [])⟩ := by kernel_rfl
  have c_chs : PySem.W.codeIn (K30 w.params) (Value.ref 319) "checked_sorters" = true := by kernel_rfl
  have k_chs : PySem.W.keepIn (K30 w.params) (.ref 320) = true := by kernel_rfl
  have a_done : PySem.W.nsIn (K30 w.params) mainGlobals "done" = some (some (.ref 327)) := by kernel_rfl
  have l_done : (K30 w.params).lookup 327 = some ⟨(Value.type "function"), none, .func (PySem.W.fnOf "done" "done" (defArgs s_done) (defBody s_done) (defScope s_done) .none Value.none Value.none (Value.str (Str.ofString "switchhall.sorters") 584) none (Value.ref 326) Value.none), (List.toArray [])⟩ := by kernel_rfl
  have c_done : PySem.W.codeIn (K30 w.params) (Value.ref 326) "done" = true := by kernel_rfl
  have k_done : PySem.W.keepIn (K30 w.params) (.ref 327) = true := by kernel_rfl
  have a_nao : PySem.W.nsIn (K30 w.params) mainGlobals "noughts_and_ones" = some (some (.ref 332)) := by kernel_rfl
  have l_nao : (K30 w.params).lookup 332 = some ⟨(Value.type "function"), none, .func (PySem.W.fnOf "noughts_and_ones" "noughts_and_ones" (defArgs s_nao) (defBody s_nao) (defScope s_nao) .none Value.none Value.none (Value.str (Str.ofString "switchhall.sorters") 584) none (Value.ref 331) Value.none), (List.toArray [])⟩ := by kernel_rfl
  have c_nao : PySem.W.codeIn (K30 w.params) (Value.ref 331) "noughts_and_ones" = true := by kernel_rfl
  have k_nao : PySem.W.keepIn (K30 w.params) (.ref 332) = true := by kernel_rfl
  have a_first : PySem.W.nsIn (K30 w.params) mainGlobals "first_unsorted" = some (some (.ref 339)) := by kernel_rfl
  have l_first : (K30 w.params).lookup 339 = some ⟨(Value.type "function"), none, .func (PySem.W.fnOf "first_unsorted" "first_unsorted" (defArgs s_first) (defBody s_first) (defScope s_first) .none Value.none Value.none (Value.str (Str.ofString "switchhall.sorters") 584) none (Value.ref 338) Value.none), (List.toArray [])⟩ := by kernel_rfl
  have c_first : PySem.W.codeIn (K30 w.params) (Value.ref 338) "first_unsorted" = true := by kernel_rfl
  have k_first : PySem.W.keepIn (K30 w.params) (.ref 339) = true := by kernel_rfl
  have a_lean : PySem.W.nsIn (K30 w.params) mainGlobals "lean" = some (some (.ref 346)) := by kernel_rfl
  have l_lean : (K30 w.params).lookup 346 = some ⟨(Value.type "function"), none, .func (PySem.W.fnOf "lean" "lean" (defArgs s_lean) (defBody s_lean) (defScope s_lean) .none Value.none Value.none (Value.str (Str.ofString "switchhall.sorters") 584) none (Value.ref 345) Value.none), (List.toArray [])⟩ := by kernel_rfl
  have c_lean : PySem.W.codeIn (K30 w.params) (Value.ref 345) "lean" = true := by kernel_rfl
  have k_lean : PySem.W.keepIn (K30 w.params) (.ref 346) = true := by kernel_rfl
  have a_mfig : PySem.W.nsIn (K30 w.params) mainGlobals "many_figures" = some (some (.ref 354)) := by kernel_rfl
  have l_mfig : (K30 w.params).lookup 354 = some ⟨(Value.type "function"), none, .func (PySem.W.fnOf "many_figures" "many_figures" (defArgs s_mfig) (defBody s_mfig) (defScope s_mfig) .none Value.none Value.none (Value.str (Str.ofString "switchhall.texts") 649) none (Value.ref 353) Value.none), (List.toArray [])⟩ := by kernel_rfl
  have c_mfig : PySem.W.codeIn (K30 w.params) (Value.ref 353) "many_figures" = true := by kernel_rfl
  have k_mfig : PySem.W.keepIn (K30 w.params) (.ref 354) = true := by kernel_rfl
  have a_chkx : PySem.W.nsIn (K30 w.params) mainGlobals "check_text" = some (some (.ref 361)) := by kernel_rfl
  have l_chkx : (K30 w.params).lookup 361 = some ⟨(Value.type "function"), none, .func (PySem.W.fnOf "check_text" "check_text" (defArgs s_chkx) (defBody s_chkx) (defScope s_chkx) .none Value.none Value.none (Value.str (Str.ofString "switchhall.texts") 649) none (Value.ref 360) Value.none), (List.toArray [])⟩ := by kernel_rfl
  have c_chkx : PySem.W.codeIn (K30 w.params) (Value.ref 360) "check_text" = true := by kernel_rfl
  have k_chkx : PySem.W.keepIn (K30 w.params) (.ref 361) = true := by kernel_rfl
  have a_read : PySem.W.nsIn (K30 w.params) mainGlobals "read" = some (some (.ref 366)) := by kernel_rfl
  have l_read : (K30 w.params).lookup 366 = some ⟨(Value.type "function"), none, .func (PySem.W.fnOf "read" "read" (defArgs s_read) (defBody s_read) (defScope s_read) .none Value.none Value.none (Value.str (Str.ofString "switchhall.texts") 649) none (Value.ref 365) Value.none), (List.toArray [])⟩ := by kernel_rfl
  have c_read : PySem.W.codeIn (K30 w.params) (Value.ref 365) "read" = true := by kernel_rfl
  have k_read : PySem.W.keepIn (K30 w.params) (.ref 366) = true := by kernel_rfl
  have a_ctab : PySem.W.nsIn (K30 w.params) mainGlobals "checked_table" = some (some (.ref 385)) := by kernel_rfl
  have l_ctab : (K30 w.params).lookup 385 = some ⟨(Value.type "function"), none, .func (PySem.W.fnOf "checked_table" "checked_table" (defArgs s_ctab) (defBody s_ctab) (defScope s_ctab) .none Value.none Value.none (Value.str (Str.ofString "switchhall.times") 686) none (Value.ref 384) Value.none), (List.toArray [])⟩ := by kernel_rfl
  have c_ctab : PySem.W.codeIn (K30 w.params) (Value.ref 384) "checked_table" = true := by kernel_rfl
  have k_ctab : PySem.W.keepIn (K30 w.params) (.ref 385) = true := by kernel_rfl
  have a_cell : PySem.W.nsIn (K30 w.params) mainGlobals "_law_cell" = some (some (.ref 392)) := by kernel_rfl
  have l_cell : (K30 w.params).lookup 392 = some ⟨(Value.type "function"), none, .func (PySem.W.fnOf "_law_cell" "_law_cell" (defArgs s_cell) (defBody s_cell) (defScope s_cell) .none Value.none Value.none (Value.str (Str.ofString "law_switchhall_k30_refusals_stand_apart") 706) none (Value.ref 391) Value.none), (List.toArray [])⟩ := by kernel_rfl
  have c_cell : PySem.W.codeIn (K30 w.params) (Value.ref 391) "_law_cell" = true := by kernel_rfl
  have k_cell : PySem.W.keepIn (K30 w.params) (.ref 392) = true := by kernel_rfl
  have a_ptw : PySem.W.nsIn (K30 w.params) mainGlobals "_law_put_twice" = some (some (.ref 399)) := by kernel_rfl
  have l_ptw : (K30 w.params).lookup 399 = some ⟨(Value.type "function"), none, .func (PySem.W.fnOf "_law_put_twice" "_law_put_twice" (defArgs s_ptw) (defBody s_ptw) (defScope s_ptw) .none Value.none Value.none (Value.str (Str.ofString "law_switchhall_k30_refusals_stand_apart") 706) none (Value.ref 398) Value.none), (List.toArray [])⟩ := by kernel_rfl
  have c_ptw : PySem.W.codeIn (K30 w.params) (Value.ref 398) "_law_put_twice" = true := by kernel_rfl
  have k_ptw : PySem.W.keepIn (K30 w.params) (.ref 399) = true := by kernel_rfl
  have a_deed : PySem.W.nsIn (K30 w.params) mainGlobals "_law_deed" = some (some (.ref 406)) := by kernel_rfl
  have l_deed : (K30 w.params).lookup 406 = some ⟨(Value.type "function"), none, .func (PySem.W.fnOf "_law_deed" "_law_deed" (defArgs s_deed) (defBody s_deed) (defScope s_deed) .none Value.none Value.none (Value.str (Str.ofString "law_switchhall_k30_refusals_stand_apart") 706) none (Value.ref 405) Value.none), (List.toArray [])⟩ := by kernel_rfl
  have c_deed : PySem.W.codeIn (K30 w.params) (Value.ref 405) "_law_deed" = true := by kernel_rfl
  have k_deed : PySem.W.keepIn (K30 w.params) (.ref 406) = true := by kernel_rfl
  have a_kinds : PySem.W.nsIn (K30 w.params) mainGlobals "_law_kinds_of" = some (some (.ref 413)) := by kernel_rfl
  have l_kinds : (K30 w.params).lookup 413 = some ⟨(Value.type "function"), none, .func (PySem.W.fnOf "_law_kinds_of" "_law_kinds_of" (defArgs s_kinds) (defBody s_kinds) (defScope s_kinds) .none Value.none Value.none (Value.str (Str.ofString "law_switchhall_k30_refusals_stand_apart") 706) none (Value.ref 412) Value.none), (List.toArray [])⟩ := by kernel_rfl
  have c_kinds : PySem.W.codeIn (K30 w.params) (Value.ref 412) "_law_kinds_of" = true := by kernel_rfl
  have k_kinds : PySem.W.keepIn (K30 w.params) (.ref 413) = true := by kernel_rfl
  have a_law : PySem.W.nsIn (K30 w.params) mainGlobals "law" = some (some (.ref 418)) := by kernel_rfl
  have l_law : (K30 w.params).lookup 418 = some ⟨(Value.type "function"), none, .func (PySem.W.fnOf "law" "law" (defArgs s_law) (defBody s_law) (defScope s_law) .none Value.none Value.none (Value.str (Str.ofString "law_switchhall_k30_refusals_stand_apart") 706) none (Value.ref 417) Value.none), (List.toArray [])⟩ := by kernel_rfl
  have c_law : PySem.W.codeIn (K30 w.params) (Value.ref 417) "law" = true := by kernel_rfl
  have k_law : PySem.W.keepIn (K30 w.params) (.ref 418) = true := by kernel_rfl
  have a_hall : PySem.W.nsIn (K30 w.params) mainGlobals "Hall" = some (some (.ref 302)) := by kernel_rfl
  have a_init : PySem.W.findIn (K30 w.params) (.ref 302) "__init__" = some (some (.ref 238)) := by kernel_rfl
  have i_init : PySem.W.isFn (K30 w.params) (.ref 238) = true := by kernel_rfl
  have l_init : (K30 w.params).lookup 238 = some ⟨(Value.type "function"), none, .func (PySem.W.fnOf "__init__" "Hall.__init__" (defArgs sInit) (defBody sInit) (defScope sInit) .none Value.none Value.none (Value.str (Str.ofString "switchhall.halls") 407) none (Value.ref 237) Value.none), (List.toArray [])⟩ := by kernel_rfl
  have c_init : PySem.W.codeIn (K30 w.params) (Value.ref 237) "Hall.__init__" = true := by kernel_rfl
  have k_init : PySem.W.keepIn (K30 w.params) (.ref 238) = true := by kernel_rfl
  have a_put : PySem.W.findIn (K30 w.params) (.ref 302) "put" = some (some (.ref 245)) := by kernel_rfl
  have i_put : PySem.W.isFn (K30 w.params) (.ref 245) = true := by kernel_rfl
  have l_put : (K30 w.params).lookup 245 = some ⟨(Value.type "function"), none, .func (PySem.W.fnOf "put" "Hall.put" (defArgs sPut) (defBody sPut) (defScope sPut) .none Value.none Value.none (Value.str (Str.ofString "switchhall.halls") 407) none (Value.ref 244) Value.none), (List.toArray [])⟩ := by kernel_rfl
  have c_put : PySem.W.codeIn (K30 w.params) (Value.ref 244) "Hall.put" = true := by kernel_rfl
  have k_put : PySem.W.keepIn (K30 w.params) (.ref 245) = true := by kernel_rfl
  have a_drop : PySem.W.findIn (K30 w.params) (.ref 302) "drop" = some (some (.ref 252)) := by kernel_rfl
  have i_drop : PySem.W.isFn (K30 w.params) (.ref 252) = true := by kernel_rfl
  have l_drop : (K30 w.params).lookup 252 = some ⟨(Value.type "function"), none, .func (PySem.W.fnOf "drop" "Hall.drop" (defArgs sDrop) (defBody sDrop) (defScope sDrop) .none Value.none Value.none (Value.str (Str.ofString "switchhall.halls") 407) none (Value.ref 251) Value.none), (List.toArray [])⟩ := by kernel_rfl
  have c_drop : PySem.W.codeIn (K30 w.params) (Value.ref 251) "Hall.drop" = true := by kernel_rfl
  have k_drop : PySem.W.keepIn (K30 w.params) (.ref 252) = true := by kernel_rfl
  have a_lin : PySem.W.findIn (K30 w.params) (.ref 302) "load_in" = some (some (.ref 266)) := by kernel_rfl
  have i_lin : PySem.W.isFn (K30 w.params) (.ref 266) = true := by kernel_rfl
  have l_lin : (K30 w.params).lookup 266 = some ⟨(Value.type "function"), none, .func (PySem.W.fnOf "load_in" "Hall.load_in" (defArgs sLoadIn) (defBody sLoadIn) (defScope sLoadIn) .none Value.none Value.none (Value.str (Str.ofString "switchhall.halls") 407) none (Value.ref 265) Value.none), (List.toArray [])⟩ := by kernel_rfl
  have c_lin : PySem.W.codeIn (K30 w.params) (Value.ref 265) "Hall.load_in" = true := by kernel_rfl
  have k_lin : PySem.W.keepIn (K30 w.params) (.ref 266) = true := by kernel_rfl
  have a_lay : PySem.W.findIn (K30 w.params) (.ref 302) "lay" = some (some (.ref 280)) := by kernel_rfl
  have i_lay : PySem.W.isFn (K30 w.params) (.ref 280) = true := by kernel_rfl
  have l_lay : (K30 w.params).lookup 280 = some ⟨(Value.type "function"), none, .func (PySem.W.fnOf "lay" "Hall.lay" (defArgs sLay) (defBody sLay) (defScope sLay) .none Value.none Value.none (Value.str (Str.ofString "switchhall.halls") 407) none (Value.ref 279) Value.none), (List.toArray [])⟩ := by kernel_rfl
  have c_lay : PySem.W.codeIn (K30 w.params) (Value.ref 279) "Hall.lay" = true := by kernel_rfl
  have k_lay : PySem.W.keepIn (K30 w.params) (.ref 280) = true := by kernel_rfl
  have pg : PySem.W.plainGet (K30 w.params) 302 Str.empty = true := by kernel_rfl
  have hdd : PySem.W.hasDictIn (K30 w.params) 302 = true := by kernel_rfl
  have po : PySem.W.plainOver (K30 w.params) 302 = true := by kernel_rfl
  have sa : PySem.W.findIn (K30 w.params) (.ref 302) "__setattr__" = some (some (.builtin "object.__setattr__")) := by kernel_rfl
  have mkk : PySem.W.makesIn (K30 w.params) 302 = true := by kernel_rfl
  have kcc : PySem.W.keepIn (K30 w.params) (.ref 302) = true := by kernel_rfl
  have n_nI : PySem.W.findIn (K30 w.params) (.ref 302) "inlet_ends" = some none := by kernel_rfl
  have n_nO : PySem.W.findIn (K30 w.params) (.ref 302) "outlet_ends" = some none := by kernel_rfl
  have n_nS : PySem.W.findIn (K30 w.params) (.ref 302) "standing" = some none := by kernel_rfl
  have n_nN : PySem.W.findIn (K30 w.params) (.ref 302) "next_number" = some none := by kernel_rfl
  have a_btab : PySem.W.nsIn (K30 w.params) mainGlobals "BadTable" = some (some (.ref 92)) := by kernel_rfl
  have x_btab : Exc (K30 w.params) 92 := ⟨⟨⟨[(Value.ref 31), (Value.type "ValueError"), (Value.type "Exception"), (Value.type "BaseException"), (Value.type "object")], 91, (Str.ofString "BadTable"), (Str.ofString "BadTable"), [(Value.ref 31)], true, [], [], false, none, none, (some (Value.ref 83)), none, (some (Value.str (Str.ofString "BadTable") 278)), (some (Value.str (Str.ofString "BadTable") 286)), (some (Value.bool true))⟩, by kernel_rfl, by kernel_rfl, by kernel_rfl, by kernel_rfl⟩⟩
  have a_bord : PySem.W.nsIn (K30 w.params) mainGlobals "BadOrder" = some (some (.ref 104)) := by kernel_rfl
  have x_bord : Exc (K30 w.params) 104 := ⟨⟨⟨[(Value.ref 31), (Value.type "ValueError"), (Value.type "Exception"), (Value.type "BaseException"), (Value.type "object")], 103, (Str.ofString "BadOrder"), (Str.ofString "BadOrder"), [(Value.ref 31)], true, [], [], false, none, none, (some (Value.ref 95)), none, (some (Value.str (Str.ofString "BadOrder") 294)), (some (Value.str (Str.ofString "BadOrder") 302)), (some (Value.bool true))⟩, by kernel_rfl, by kernel_rfl, by kernel_rfl, by kernel_rfl⟩⟩
  have a_btxt : PySem.W.nsIn (K30 w.params) mainGlobals "BadText" = some (some (.ref 116)) := by kernel_rfl
  have x_btxt : Exc (K30 w.params) 116 := ⟨⟨⟨[(Value.ref 31), (Value.type "ValueError"), (Value.type "Exception"), (Value.type "BaseException"), (Value.type "object")], 115, (Str.ofString "BadText"), (Str.ofString "BadText"), [(Value.ref 31)], true, [], [], false, none, none, (some (Value.ref 107)), none, (some (Value.str (Str.ofString "BadText") 310)), (some (Value.str (Str.ofString "BadText") 318)), (some (Value.bool true))⟩, by kernel_rfl, by kernel_rfl, by kernel_rfl, by kernel_rfl⟩⟩
  have a_bsor : PySem.W.nsIn (K30 w.params) mainGlobals "BadSorters" = some (some (.ref 128)) := by kernel_rfl
  have x_bsor : Exc (K30 w.params) 128 := ⟨⟨⟨[(Value.ref 31), (Value.type "ValueError"), (Value.type "Exception"), (Value.type "BaseException"), (Value.type "object")], 127, (Str.ofString "BadSorters"), (Str.ofString "BadSorters"), [(Value.ref 31)], true, [], [], false, none, none, (some (Value.ref 119)), none, (some (Value.str (Str.ofString "BadSorters") 326)), (some (Value.str (Str.ofString "BadSorters") 334)), (some (Value.bool true))⟩, by kernel_rfl, by kernel_rfl, by kernel_rfl, by kernel_rfl⟩⟩
  have a_uns : PySem.W.nsIn (K30 w.params) mainGlobals "Unsound" = some (some (.ref 140)) := by kernel_rfl
  have x_uns : Exc (K30 w.params) 140 := ⟨⟨⟨[(Value.ref 31), (Value.type "ValueError"), (Value.type "Exception"), (Value.type "BaseException"), (Value.type "object")], 139, (Str.ofString "Unsound"), (Str.ofString "Unsound"), [(Value.ref 31)], true, [], [], false, none, none, (some (Value.ref 131)), none, (some (Value.str (Str.ofString "Unsound") 342)), (some (Value.str (Str.ofString "Unsound") 350)), (some (Value.bool true))⟩, by kernel_rfl, by kernel_rfl, by kernel_rfl, by kernel_rfl⟩⟩
  have a_sw : PySem.W.nsIn (K30 w.params) mainGlobals "SwitchError" = some (some (.ref 31)) := by kernel_rfl
  have a_bad : PySem.W.nsIn (K30 w.params) mainGlobals "BadHall" = some (some (.ref 44)) := by kernel_rfl
  have x_bad : Exc (K30 w.params) 44 := ⟨⟨⟨[(Value.ref 31), (Value.type "ValueError"), (Value.type "Exception"), (Value.type "BaseException"), (Value.type "object")], 43, (Str.ofString "BadHall"), (Str.ofString "BadHall"), [(Value.ref 31)], true, [], [], false, none, none, (some (Value.ref 35)), none, (some (Value.str (Str.ofString "BadHall") 214)), (some (Value.str (Str.ofString "BadHall") 222)), (some (Value.bool true))⟩, by kernel_rfl, by kernel_rfl, by kernel_rfl, by kernel_rfl⟩⟩
  have a_noEnd : PySem.W.nsIn (K30 w.params) mainGlobals "NoEnd" = some (some (.ref 56)) := by kernel_rfl
  have x_noEnd : Exc (K30 w.params) 56 := ⟨⟨⟨[(Value.ref 31), (Value.type "ValueError"), (Value.type "Exception"), (Value.type "BaseException"), (Value.type "object")], 55, (Str.ofString "NoEnd"), (Str.ofString "NoEnd"), [(Value.ref 31)], true, [], [], false, none, none, (some (Value.ref 47)), none, (some (Value.str (Str.ofString "NoEnd") 230)), (some (Value.str (Str.ofString "NoEnd") 238)), (some (Value.bool true))⟩, by kernel_rfl, by kernel_rfl, by kernel_rfl, by kernel_rfl⟩⟩
  have a_busy : PySem.W.nsIn (K30 w.params) mainGlobals "Busy" = some (some (.ref 68)) := by kernel_rfl
  have x_busy : Exc (K30 w.params) 68 := ⟨⟨⟨[(Value.ref 31), (Value.type "ValueError"), (Value.type "Exception"), (Value.type "BaseException"), (Value.type "object")], 67, (Str.ofString "Busy"), (Str.ofString "Busy"), [(Value.ref 31)], true, [], [], false, none, none, (some (Value.ref 59)), none, (some (Value.str (Str.ofString "Busy") 246)), (some (Value.str (Str.ofString "Busy") 254)), (some (Value.bool true))⟩, by kernel_rfl, by kernel_rfl, by kernel_rfl, by kernel_rfl⟩⟩
  have a_noCall : PySem.W.nsIn (K30 w.params) mainGlobals "NoCall" = some (some (.ref 80)) := by kernel_rfl
  have x_noCall : Exc (K30 w.params) 80 := ⟨⟨⟨[(Value.ref 31), (Value.type "ValueError"), (Value.type "Exception"), (Value.type "BaseException"), (Value.type "object")], 79, (Str.ofString "NoCall"), (Str.ofString "NoCall"), [(Value.ref 31)], true, [], [], false, none, none, (some (Value.ref 71)), none, (some (Value.str (Str.ofString "NoCall") 262)), (some (Value.str (Str.ofString "NoCall") 270)), (some (Value.bool true))⟩, by kernel_rfl, by kernel_rfl, by kernel_rfl, by kernel_rfl⟩⟩
  have a_sizes : PySem.W.nsIn (K30 w.params) mainGlobals "NET_SIZES" = some (some (.ref 347)) := by kernel_rfl
  have l_sizes : (K30 w.params).lookup 347 = some ⟨.type "tuple", none, .seq #[.int 2 644, .int 4 645, .int 8 646, .int 16 647] 0, (List.toArray [])⟩ := by kernel_rfl
  have v_lines : PySem.W.nsIn (K30 w.params) mainGlobals "MOST_LINES" = some (some (.int 16 387)) := by kernel_rfl
  have v_places : PySem.W.nsIn (K30 w.params) mainGlobals "MOST_PLACES" = some (some (.int 8 586)) := by kernel_rfl
  have v_most : PySem.W.nsIn (K30 w.params) mainGlobals "MOST_SORTERS" = some (some (.int 64 588)) := by kernel_rfl
  have v_tends : PySem.W.nsIn (K30 w.params) mainGlobals "MOST_ENDS_times" = some (some (.int 6 688)) := by kernel_rfl
  have v_ends : PySem.W.nsIn (K30 w.params) mainGlobals "MOST_ENDS_halls" = some (some (.int 12 409)) := by kernel_rfl
  have v_frames : PySem.W.nsIn (K30 w.params) mainGlobals "MOST_FRAMES" = some (some (.int 8 411)) := by kernel_rfl
  have z_bool_ : PySem.W.nsIn (K30 w.params) mainGlobals "bool" = some none := by kernel_rfl
  have z_int_ : PySem.W.nsIn (K30 w.params) mainGlobals "int" = some none := by kernel_rfl
  have z_isi : PySem.W.nsIn (K30 w.params) mainGlobals "isinstance" = some none := by kernel_rfl
  have z_len : PySem.W.nsIn (K30 w.params) mainGlobals "len" = some none := by kernel_rfl
  have z_list_ : PySem.W.nsIn (K30 w.params) mainGlobals "list" = some none := by kernel_rfl
  have z_range : PySem.W.nsIn (K30 w.params) mainGlobals "range" = some none := by kernel_rfl
  have z_sorted_ : PySem.W.nsIn (K30 w.params) mainGlobals "sorted" = some none := by kernel_rfl
  have z_str_ : PySem.W.nsIn (K30 w.params) mainGlobals "str" = some none := by kernel_rfl
  have e := hfa.symm.trans (PySem.W.mg_of X G a_law)
  rw [Value.ref.inj (Option.some.inj e)]
  have F_whole := fun_mk (st := sWhole) l_whole c_whole k_whole
  have b_whole := F_whole.binds (ps := ["value"]) fun _ _ _ _ _ _ us hl => (by obtain ⟨_, rfl⟩ := us1 hl; rfl)
  have F_within := fun_mk (st := sWithin) l_within c_within k_within
  have b_within := F_within.binds (ps := ["value", "least", "most"]) fun _ _ _ _ _ _ us hl => (by obtain ⟨_, _, _, rfl⟩ := us3 hl; rfl)
  have F_dlist := fun_mk (st := s_dlist) l_dlist c_dlist k_dlist
  have b_dlist := F_dlist.binds (ps := ["value", "least", "most"]) fun _ _ _ _ _ _ us hl => (by obtain ⟨_, _, _, rfl⟩ := us3 hl; rfl)
  have F_chk := fun_mk (st := s_chk) l_chk c_chk k_chk
  have b_chk := F_chk.binds (ps := ["order"]) fun _ _ _ _ _ _ us hl => (by obtain ⟨_, rfl⟩ := us1 hl; rfl)
  have F_check := fun_mk (st := sCheck) l_check c_check k_check
  have b_check := F_check.binds (ps := ["inlets", "outlets", "frames"]) fun _ _ _ _ _ _ us hl => (by obtain ⟨_, _, _, rfl⟩ := us3 hl; rfl)
  have F_free := fun_mk (st := sFree) l_free c_free k_free
  have b_free := F_free.binds (ps := ["many", "frames"]) fun _ _ _ _ _ _ us hl => (by obtain ⟨_, _, rfl⟩ := us2 hl; rfl)
  have F_endAt := fun_mk (st := sEnd) l_endAt c_endAt k_endAt
  have b_endAt := F_endAt.binds (ps := ["ends", "place"]) fun _ _ _ _ _ _ us hl => (by obtain ⟨_, _, rfl⟩ := us2 hl; rfl)
  have F_load := fun_mk (st := sLoad) l_load c_load k_load
  have b_load := F_load.binds (ps := ["end"]) fun _ _ _ _ _ _ us hl => (by obtain ⟨_, rfl⟩ := us1 hl; rfl)
  have F_isFull := fun_mk (st := sFull) l_isFull c_isFull k_isFull
  have b_isFull := F_isFull.binds (ps := ["end"]) fun _ _ _ _ _ _ us hl => (by obtain ⟨_, rfl⟩ := us1 hl; rfl)
  have F_both := fun_mk (st := sBoth) l_both c_both k_both
  have b_both := F_both.binds (ps := ["one", "other"]) fun _ _ _ _ _ _ us hl => (by obtain ⟨_, _, rfl⟩ := us2 hl; rfl)
  have F_chs := fun_mk (st := s_chs) l_chs c_chs k_chs
  have b_chs := F_chs.binds (ps := ["sorters", "many"]) fun _ _ _ _ _ _ us hl => (by obtain ⟨_, _, rfl⟩ := us2 hl; rfl)
  have F_done := fun_mk (st := s_done) l_done c_done k_done
  have b_done := F_done.binds (ps := ["sorters", "row"]) fun _ _ _ _ _ _ us hl => (by obtain ⟨_, _, rfl⟩ := us2 hl; rfl)
  have F_nao := fun_mk (st := s_nao) l_nao c_nao k_nao
  have b_nao := F_nao.binds (ps := ["many"]) fun _ _ _ _ _ _ us hl => (by obtain ⟨_, rfl⟩ := us1 hl; rfl)
  have F_first := fun_mk (st := s_first) l_first c_first k_first
  have b_first := F_first.binds (ps := ["sorters", "many"]) fun _ _ _ _ _ _ us hl => (by obtain ⟨_, _, rfl⟩ := us2 hl; rfl)
  have F_lean := fun_mk (st := s_lean) l_lean c_lean k_lean
  have b_lean := F_lean.binds (ps := ["sorters", "many"]) fun _ _ _ _ _ _ us hl => (by obtain ⟨_, _, rfl⟩ := us2 hl; rfl)
  have F_mfig := fun_mk (st := s_mfig) l_mfig c_mfig k_mfig
  have b_mfig := F_mfig.binds (ps := ["many"]) fun _ _ _ _ _ _ us hl => (by obtain ⟨_, rfl⟩ := us1 hl; rfl)
  have F_chkx := fun_mk (st := s_chkx) l_chkx c_chkx k_chkx
  have b_chkx := F_chkx.binds (ps := ["text", "many"]) fun _ _ _ _ _ _ us hl => (by obtain ⟨_, _, rfl⟩ := us2 hl; rfl)
  have F_read := fun_mk (st := s_read) l_read c_read k_read
  have b_read := F_read.binds (ps := ["text", "many"]) fun _ _ _ _ _ _ us hl => (by obtain ⟨_, _, rfl⟩ := us2 hl; rfl)
  have F_ctab := fun_mk (st := s_ctab) l_ctab c_ctab k_ctab
  have b_ctab := F_ctab.binds (ps := ["table"]) fun _ _ _ _ _ _ us hl => (by obtain ⟨_, rfl⟩ := us1 hl; rfl)
  have F_cell := fun_mk (st := s_cell) l_cell c_cell k_cell
  have b_cell := F_cell.binds (ps := ["_law_script", "_law_k"]) fun _ _ _ _ _ _ us hl => (by obtain ⟨_, _, rfl⟩ := us2 hl; rfl)
  have F_ptw := fun_mk (st := s_ptw) l_ptw c_ptw k_ptw
  have b_ptw := F_ptw.binds (ps := ["_law_hall"]) fun _ _ _ _ _ _ us hl => (by obtain ⟨_, rfl⟩ := us1 hl; rfl)
  have F_deed := fun_mk (st := s_deed) l_deed c_deed k_deed
  have b_deed := F_deed.binds (ps := ["_law_way"]) fun _ _ _ _ _ _ us hl => (by obtain ⟨_, rfl⟩ := us1 hl; rfl)
  have F_kinds := fun_mk (st := s_kinds) l_kinds c_kinds k_kinds
  have b_kinds := F_kinds.binds (ps := ["_law_way"]) fun _ _ _ _ _ _ us hl => (by obtain ⟨_, rfl⟩ := us1 hl; rfl)
  have F_law := fun_mk (st := s_law) l_law c_law k_law
  have b_law := F_law.binds (ps := ["_law_script"]) fun _ _ _ _ _ _ us hl => (by obtain ⟨_, rfl⟩ := us1 hl; rfl)
  have F_init := fun_mk (st := sInit) l_init c_init k_init
  have b_init := F_init.binds (ps := ["self", "inlets", "outlets", "frames"]) fun _ _ _ _ _ _ us hl => (by obtain ⟨_, _, _, _, rfl⟩ := us4 hl; rfl)
  have F_put := fun_mk (st := sPut) l_put c_put k_put
  have b_put := F_put.binds (ps := ["self", "inlet", "outlet"]) fun _ _ _ _ _ _ us hl => (by obtain ⟨_, _, _, rfl⟩ := us3 hl; rfl)
  have F_drop := fun_mk (st := sDrop) l_drop c_drop k_drop
  have b_drop := F_drop.binds (ps := ["self", "number"]) fun _ _ _ _ _ _ us hl => (by obtain ⟨_, _, rfl⟩ := us2 hl; rfl)
  have F_lin := fun_mk (st := sLoadIn) l_lin c_lin k_lin
  have b_lin := F_lin.binds (ps := ["self", "inlet"]) fun _ _ _ _ _ _ us hl => (by obtain ⟨_, _, rfl⟩ := us2 hl; rfl)
  have F_lay := fun_mk (st := sLay) l_lay c_lay k_lay
  have b_lay := F_lay.binds (ps := ["self", "number", "inlet", "outlet", "frame"]) fun _ _ _ _ _ _ us hl => (by obtain ⟨_, _, _, _, _, rfl⟩ := us5 hl; rfl)
  have T : Txt (K30 w.params) mg ad30 fd30 := { bool_ := PySem.W.mg_none_of X G z_bool_, int_ := PySem.W.mg_none_of X G z_int_, isi := PySem.W.mg_none_of X G z_isi, len := PySem.W.mg_none_of X G z_len, list_ := PySem.W.mg_none_of X G z_list_, range := PySem.W.mg_none_of X G z_range, sorted_ := PySem.W.mg_none_of X G z_sorted_, str_ := PySem.W.mg_none_of X G z_str_, lines := ⟨_, PySem.W.mg_of X G v_lines⟩, places := ⟨_, PySem.W.mg_of X G v_places⟩, most := ⟨_, PySem.W.mg_of X G v_most⟩, tends := ⟨_, PySem.W.mg_of X G v_tends⟩, ends := ⟨_, PySem.W.mg_of X G v_ends⟩, frames := ⟨_, PySem.W.mg_of X G v_frames⟩, g_whole := PySem.W.mg_of X G a_whole, g_within := PySem.W.mg_of X G a_within, g_dlist := PySem.W.mg_of X G a_dlist, g_chk := PySem.W.mg_of X G a_chk, g_check := PySem.W.mg_of X G a_check, g_free := PySem.W.mg_of X G a_free, g_endAt := PySem.W.mg_of X G a_endAt, g_load := PySem.W.mg_of X G a_load, g_isFull := PySem.W.mg_of X G a_isFull, g_both := PySem.W.mg_of X G a_both, g_chs := PySem.W.mg_of X G a_chs, g_done := PySem.W.mg_of X G a_done, g_nao := PySem.W.mg_of X G a_nao, g_first := PySem.W.mg_of X G a_first, g_lean := PySem.W.mg_of X G a_lean, g_mfig := PySem.W.mg_of X G a_mfig, g_chkx := PySem.W.mg_of X G a_chkx, g_read := PySem.W.mg_of X G a_read, g_ctab := PySem.W.mg_of X G a_ctab, g_cell := PySem.W.mg_of X G a_cell, g_ptw := PySem.W.mg_of X G a_ptw, g_deed := PySem.W.mg_of X G a_deed, g_kinds := PySem.W.mg_of X G a_kinds, g_hall := PySem.W.mg_of X G a_hall, g_btab := PySem.W.mg_of X G a_btab, g_bord := PySem.W.mg_of X G a_bord, g_btxt := PySem.W.mg_of X G a_btxt, g_bsor := PySem.W.mg_of X G a_bsor, g_uns := PySem.W.mg_of X G a_uns, g_sw := PySem.W.mg_of X G a_sw, g_bad := PySem.W.mg_of X G a_bad, g_noEnd := PySem.W.mg_of X G a_noEnd, g_busy := PySem.W.mg_of X G a_busy, g_noCall := PySem.W.mg_of X G a_noCall, f_whole := F_whole, f_within := F_within, f_dlist := F_dlist, f_chk := F_chk, f_check := F_check, f_free := F_free, f_endAt := F_endAt, f_load := F_load, f_isFull := F_isFull, f_both := F_both, f_chs := F_chs, f_done := F_done, f_nao := F_nao, f_first := F_first, f_lean := F_lean, f_mfig := F_mfig, f_chkx := F_chkx, f_read := F_read, f_ctab := F_ctab, f_cell := F_cell, f_ptw := F_ptw, f_deed := F_deed, f_kinds := F_kinds, f_law := F_law, f_init := F_init, f_put := F_put, f_drop := F_drop, f_lin := F_lin, f_lay := F_lay, b_whole := b_whole, b_within := b_within, b_dlist := b_dlist, b_chk := b_chk, b_check := b_check, b_free := b_free, b_endAt := b_endAt, b_load := b_load, b_isFull := b_isFull, b_both := b_both, b_chs := b_chs, b_done := b_done, b_nao := b_nao, b_first := b_first, b_lean := b_lean, b_mfig := b_mfig, b_chkx := b_chkx, b_read := b_read, b_ctab := b_ctab, b_cell := b_cell, b_ptw := b_ptw, b_deed := b_deed, b_kinds := b_kinds, b_law := b_law, b_init := b_init, b_put := b_put, b_drop := b_drop, b_lin := b_lin, b_lay := b_lay, cls := ⟨pg, hdd, po, sa⟩, nI := n_nI, nO := n_nO, nS := n_nS, nN := n_nN, mkH := ⟨mkk, a_init, i_init, kcc⟩, m_put := ⟨a_put, i_put, k_put⟩, m_drop := ⟨a_drop, i_drop, k_drop⟩, m_lin := ⟨a_lin, i_lin, k_lin⟩, m_lay := ⟨a_lay, i_lay, k_lay⟩, x_btab := x_btab, x_bord := x_bord, x_btxt := x_btxt, x_bsor := x_bsor, x_uns := x_uns, x_bad := x_bad, x_noEnd := x_noEnd, x_busy := x_busy, x_noCall := x_noCall, g_sizes := PySem.W.mg_of X G a_sizes, sizes := fun F => .inr ⟨_, _, _, l_sizes, rfl, rfl, (by show 4 ≤ sizeLine; decide), (.cons ⟨_, rfl⟩ (.cons ⟨_, rfl⟩ (.cons ⟨_, rfl⟩ (.cons ⟨_, rfl⟩ .nil))))⟩, r := row30 _ }
  exact ⟨_, fun s v => .of_eq rfl, fun base _ _ => ok_law T⟩
theorem walk {l : PySem.W.OpenLaw} {q : Program} {loose : List Str} {XP : (Str → Option Value) → Heap → Prop} {YP : World → Heap → Prop} {d : DefRec} {K : Params → PySem.W.Frag} (hn : l.most = some 63) (hdf : d.params.defaults = [])
    (hY : ∀ (w : World) (h : Heap), YP w h → (K w.params).In h)
    (F : ∀ (w : World) (mg : Str → Option Value) (fa : Addr) (h : Heap), (K w.params).In h → h.Ns mainGlobals mg → mg d.name = some (.ref fa) →
      ∃ fd : FuncData, (∀ (s : Shared) (u : Value), BindsTo s fd ⟨[u], []⟩ [("_law_script", u)]) ∧ ∀ base : Heap, (K w.params).In base → base.Ns mainGlobals mg → FnOk l.prog w (K w.params) mg base (CXx l.prog w) 8 fa fd ["_law_script"] (spLaw (K w.params))) :
    PySem.W.WalkO q loose XP YP l.row.toRowW d [] (fun f vs => PySem.call f vs) :=
  L2.walk_of (n := 63) (k := 8) (x := "_law_script") (CX := fun w => CXx l.prog w) (sp := fun w => spLaw (K w.params)) hn (by decide) hdf ⟨rfl, by decide, by decide⟩ hY F (fun _ _ a ns hl _ hS => ⟨a, ns, rfl, hS, hl, fun _ => rfl⟩) fun _ _ _ _ _ z => (by
    obtain ⟨_, _, _, _, _, _, _, _, _, _, _, _, _, q⟩ := z
    exact q)
end Ka30
open PySem PySem.W PyProof.Rows
set_option maxRecDepth 100000 in
set_option maxHeartbeats 0 in
theorem PySem.Challenge.cw_switchhall_k30_refusals_stand_apart_holds : PySem.Challenge.rw_switchhall_k30_refusals_stand_apart.Holds := by
  w_on; o_law; o_head (PySem.W.kHook Ka30.K30 Ka30.as30 (fun _ => by kernel_rfl)); (case hw => w_witness2)
  exact Ka30.walk (l := PySem.Challenge.rw_switchhall_k30_refusals_stand_apart) rfl rfl (fun w h Y => PySem.W.kIn_of Y) (fun w mg fa h KX G hmg => Ka30.top30 KX G hmg)
