import PyProof.Rows.All
import Wide.All
import OpenK.AllK
import Wide.FinOn
import Lean
import PyProof.EqAt
import PyProof.EqKinds
import PyProof.TupleCall
import PySem.Challenge.RW_switchhall_k02_whole_calls_are_put_throu
set_option Elab.async false
set_option linter.all false
set_option maxRecDepth 100000
namespace L2
open PySem PySem.Spec PyProof.Rows
abbrev Key := Sum Int Str
def keyIs : Key → Value → Bool
  | .inl k, v => Value.isInt k v
  | .inr x, v => Value.isStrOf x v
def keyH (w : World) : Key → Int
  | .inl k => hashInt k
  | .inr x => hashStr w x
theorem keyIs_shape : ∀ {k : Key} {v : Value}, keyIs k v = true → (∃ i t, k = Sum.inl i ∧ v = Value.int i t) ∨ (∃ x t, k = Sum.inr x ∧ v = Value.str x t)
  | .inl i, v, h => by
    obtain ⟨t, e⟩ := Value.isInt_shape (k := i) (v := v) h
    exact .inl ⟨i, t, rfl, e⟩
  | .inr x, v, h => by
    obtain ⟨t, e⟩ := Value.isStrOf_shape (x := x) (v := v) h
    exact .inr ⟨x, t, rfl, e⟩
theorem keyIs_int (i : Int) (t : Tok) : keyIs (.inl i) (.int i t) = true := by simp [keyIs, Value.isInt]
theorem keyIs_str (x : Str) (t : Tok) : keyIs (.inr x) (.str x t) = true := by simp [keyIs, Value.isStrOf]
theorem key_ll (a b : Int) : decide ((Sum.inl a : Key) = Sum.inl b) = (a == b) := by
  by_cases e : a = b
  · subst e; simp
  · have h : ¬ (Sum.inl a : Key) = Sum.inl b := fun q => e (Sum.inl.inj q)
    rw [decide_eq_false h]
    exact (beq_eq_false_iff_ne.mpr e).symm
theorem key_rr (a b : Str) : decide ((Sum.inr a : Key) = Sum.inr b) = decide (a = b) := by
  by_cases e : a = b
  · subst e; simp
  · have h : ¬ (Sum.inr a : Key) = Sum.inr b := fun q => e (Sum.inr.inj q)
    rw [decide_eq_false h, decide_eq_false e]
theorem key_lr (a : Int) (b : Str) : decide ((Sum.inl a : Key) = Sum.inr b) = false := decide_eq_false (fun q => nomatch q)
theorem key_rl (a : Str) (b : Int) : decide ((Sum.inr a : Key) = Sum.inl b) = false := decide_eq_false (fun q => nomatch q)
def mixKind (prog : Program) (w : World) : PySem.KeyKind prog w Key where
  is := keyIs
  hash := keyH w
  inj := fun v a b ha hb => by
    rcases keyIs_shape ha with ⟨i, t, rfl, rfl⟩ | ⟨x, t, rfl, rfl⟩
    · rcases keyIs_shape hb with ⟨j, u, rfl, e⟩ | ⟨y, u, rfl, e⟩
      · injection e with e1 _; rw [e1]
      · exact nomatch e
    · rcases keyIs_shape hb with ⟨j, u, rfl, e⟩ | ⟨y, u, rfl, e⟩
      · exact nomatch e
      · injection e with e1 _; rw [e1]
  byValue := fun k v h => by
    rcases keyIs_shape h with ⟨i, t, rfl, rfl⟩ | ⟨x, t, rfl, rfl⟩ <;> rfl
  pyHash := fun hv h => by
    rcases keyIs_shape hv with ⟨i, t, rfl, rfl⟩ | ⟨x, t, rfl, rfl⟩
    · exact wpAny_pyHash_int h
    · exact wpAny_pyHash_str h
  eqBool := fun hu hv h => by
    rcases keyIs_shape hu with ⟨i, t, rfl, rfl⟩ | ⟨x, t, rfl, rfl⟩
    · rcases keyIs_shape hv with ⟨j, u, rfl, rfl⟩ | ⟨y, u, rfl, rfl⟩
      · rw [key_ll] at h; exact wpAny_eqBool_int h
      · rw [key_lr] at h; exact SeqAt.EqAt.int_str i t y u _ _ _ _ h
    · rcases keyIs_shape hv with ⟨j, u, rfl, rfl⟩ | ⟨y, u, rfl, rfl⟩
      · rw [key_rl] at h; exact SeqAt.EqAt.str_int x t j u _ _ _ _ h
      · rw [key_rr] at h; exact wpAny_eqBool_str h
  «strs» := fun k x t v h => by
    rcases keyIs_shape h with ⟨i, u, rfl, e⟩ | ⟨y, u, rfl, e⟩
    · exact nomatch e
    · injection e with e1 _
      subst e1
      cases v <;> rfl
theorem mixKind_int (prog : Program) (w : World) (i : Int) (t : Tok) : (mixKind prog w).is (.inl i) (.int i t) = true := keyIs_int i t
theorem mixKind_str (prog : Program) (w : World) (x : Str) (t : Tok) : (mixKind prog w).is (.inr x) (.str x t) = true := keyIs_str x t
end L2
namespace L2
open PySem PySem.Spec PyProof.Rows
inductive V where
  | non | bl (b : Bool) | int (i : Int) | str (x : Str) | byt (b : Array UInt8) | flt (b : UInt64) | ref (a : Addr) | ty (n : String)
  deriving DecidableEq
def RelV : V → Value → Prop
  | .non, u => u = Value.none
  | .bl b, u => u = Value.bool b
  | .int i, u => ∃ t, u = Value.int i t
  | .str x, u => ∃ t, u = Value.str x t
  | .byt b, u => ∃ t, u = Value.bytes b t
  | .flt b, u => ∃ t, u = Value.float b t
  | .ref a, u => u = Value.ref a
  | .ty n, u => u = Value.type n
abbrev Vals : List V → List Value → Prop := Paired RelV
theorem Vals.length {xs : List V} {us : List Value} (r : Vals xs us) : xs.length = us.length := Paired.length r
theorem Vals.get : ∀ {xs : List V} {us : List Value} {i : Nat} {x : V}, Vals xs us → xs[i]? = some x → ∃ u, us[i]? = some u ∧ RelV x u
  | _, _, _, _, .nil, e => by simp at e
  | _, _, 0, _, .cons r _, e => by simp at e; subst e; exact ⟨_, rfl, r⟩
  | _, _, i + 1, x, .cons _ t, e => by
    obtain ⟨u, h1, h2⟩ := Vals.get (i := i) (x := x) t (by simpa using e)
    exact ⟨u, by simpa using h1, h2⟩
theorem Vals.set {x : V} {u : Value} (r : RelV x u) : ∀ {xs : List V} {us : List Value} (i : Nat), Vals xs us → Vals (xs.set i x) (us.set i u)
  | _, _, _, .nil => .nil
  | _, _, 0, .cons _ t => .cons r t
  | _, _, i + 1, .cons q t => .cons q (Vals.set r i t)
theorem Vals.append : ∀ {xs ys : List V} {us ws : List Value}, Vals xs us → Vals ys ws → Vals (xs ++ ys) (us ++ ws)
  | _, _, _, _, .nil, s => s
  | _, _, _, _, .cons r t, s => .cons r (Vals.append t s)
theorem Vals.take : ∀ {xs : List V} {us : List Value} (n : Nat), Vals xs us → Vals (xs.take n) (us.take n)
  | _, _, 0, _ => .nil
  | _, _, _ + 1, .nil => .nil
  | _, _, n + 1, .cons r t => .cons r (Vals.take n t)
theorem Vals.drop : ∀ {xs : List V} {us : List Value} (n : Nat), Vals xs us → Vals (xs.drop n) (us.drop n)
  | _, _, 0, r => r
  | _, _, _ + 1, .nil => .nil
  | _, _, n + 1, .cons _ t => Vals.drop n t
def RelO : Option V → Option Value → Prop
  | some v, some u => RelV v u
  | none, none => True
  | _, _ => False
def KV {κ : Type} : List (κ × V) → List (κ × Value) → Prop := Paired fun (p : κ × V) (q : κ × Value) => p.1 = q.1 ∧ RelV p.2 q.2
def kV : Key → V
  | .inl i => .int i
  | .inr x => .str x
inductive HO where
  /-- a list -/
  | lst (xs : List V)
  /-- a tuple (never changes) -/
  | tup (xs : List V)
  /-- a dict whose keys are ints and texts; one whose keys are tuples of ints and texts (the empty one is both) -/
  | dK (kvs : List (Key × V)) | dT (kvs : List (List Key × V))
  /-- a set of ints: its members, its size -/
  | set (S : Int → Bool) (n : Nat)
  /-- an instance of the class at C, its dict at dx, its attributes -/
  | ins (C dx : Addr) (fs : List (Str × V))
  /-- the dict of the instance at x -/
  | own (x : Addr)
  /-- the dict of an exception -/
  | xd (fs : List (Str × V))
  /-- a bound method, f of x -/
  | met (f x : Addr)
  /-- a range object lo, lo + 1, .. below hi -/
  | rng (lo hi : Int)
  /-- a thing that is known to the object (the script; a dict while a loop walks it): read, never written while it is so -/
  | frz (o : Obj) (u : HO)
  /-- a code object's table -/
  | tbl (ps : Array Value)
  /-- any other thing, by what is true of its one object (a def of one's own: SetO a S n := HO.ext fun h => ..) -/
  | ext (φ : Heap → Prop)
abbrev Hp := Addr → Option HO
def upd (H : Hp) (a : Addr) (o : HO) : Hp := fun b => if b = a then some o else H b
theorem upd_same {H : Hp} {a : Addr} {o : HO} : upd H a o a = some o := by unfold upd; rw [if_pos rfl]
theorem upd_ne {H : Hp} {a b : Addr} {o : HO} (h : b ≠ a) : upd H a o b = H b := by unfold upd; rw [if_neg h]
theorem ne_of {H : Hp} {a b : Addr} {o u : HO} (h : H a = some o) (h' : H b = some u) (d : o ≠ u) : a ≠ b := by
  intro e; subst e; rw [h] at h'; exact d (Option.some.inj h')
theorem ne_of_none {H : Hp} {a b : Addr} {o : HO} (h : H a = some o) (h' : H b = none) : a ≠ b := by
  intro e; subst e; rw [h] at h'; cases h'
section
variable (P : Program) (w : World)
def ObjOk (H : Hp) (h : Heap) (a : Addr) : HO → Prop
  | .lst xs => xs.length ≤ sizeLine ∧ ∃ (its : List Value) (n : Nat), Vals xs its ∧ h.get? a = some { cls := .type "list", data := .seq its.toArray n }
  | .tup xs => xs.length ≤ sizeLine ∧ ∃ its : List Value, Vals xs its ∧ IsTup h a its.toArray
  | .dK kvs => kvs.length ≤ sizeLine ∧ (a == sysModules) = false ∧ ∃ vs, KV kvs vs ∧ h.DictOf (mixKind P w) a vs
  | .dT kvs => kvs.length ≤ sizeLine ∧ (a == sysModules) = false ∧ ∃ xs : List (List Key × Addr × Value),
      Paired (fun (p : List Key × V) (q : List Key × Addr × Value) => p.1 = q.1 ∧ H q.2.1 = some (.tup (p.1.map kV)) ∧ RelV p.2 q.2.2) kvs xs ∧
      ∃ o es ep, h.get? a = some o ∧ o.ExactDict ∧ o.data = .dict es ep ∧ es.toList = xs.map (entryOfKey (tupleKind (mixKind P w))) ∧ (xs.map (·.1)).Nodup
  | .set S n => h.SetOf (intKind P w) a S n
  | .ins C dx fs => H dx = some (.own a) ∧ fs.length ≤ 1000 ∧ dx ≠ a ∧ h.get? a = some (PySem.W.instObj C dx) ∧
      ∃ mA, h.Ns1 dx mA ∧ (∀ f, RelO (fs.lookup f) (mA f)) ∧ PySem.Within mA (fs.map (·.1))
  | .own _ => ∃ o, h.get? a = some o
  | .xd fs => ∃ mA, h.Ns1 a mA ∧ ∀ f, RelO (fs.lookup f) (mA f)
  | .rng lo hi => ∃ t u v, h.get? a = some { cls := .type "range", data := .fields #[.int lo t, .int hi u, .int 1 v] }
  | .frz o u => h.get? a = some o ∧ ObjOk H h a u
  | .tbl ps => h.get? a = some { cls := .none, data := .fields ps }
  | .met f x => h.get? a = some (PySem.W.methodObj (.ref f) (.ref x))
  | .ext φ => φ h ∧ (∃ o, h.get? a = some o) ∧ ∀ h1 h2 : Heap, φ h1 → (∀ o, h1.get? a = some o → h2.get? a = some o) → φ h2
def HOk (H : Hp) (h : Heap) : Prop := ∀ a o, H a = some o → ObjOk P w H h a o
end
section
variable {P : Program} {w : World} {H H' : Hp} {h h' : Heap} {a : Addr} {o : HO}
theorem ObjOk.lt (x : ObjOk P w H h a o) : a < h.objs.size := by
  cases o with
  | lst xs => obtain ⟨_, _, _, _, e⟩ := x; exact Heap.lt_size e
  | tup xs => obtain ⟨_, _, _, p⟩ := x; exact p.lt
  | dK kvs => obtain ⟨_, _, _, _, o, _, _, e, _⟩ := x; exact Heap.lt_size e
  | dT kvs => obtain ⟨_, _, _, _, o, _, _, e, _⟩ := x; exact Heap.lt_size e
  | set S n => obtain ⟨o, _, _, _, e, _⟩ := x; exact Heap.lt_size e
  | ins C dx fs => obtain ⟨_, _, _, e, _⟩ := x; exact Heap.lt_size e
  | own y => obtain ⟨_, e⟩ := x; exact Heap.lt_size e
  | xd fs => obtain ⟨_, ⟨_, _, _, e, _⟩, _⟩ := x; exact Heap.lt_size e
  | rng lo hi => obtain ⟨_, _, _, e⟩ := x; exact Heap.lt_size e
  | frz ob u => obtain ⟨e, _⟩ := x; exact Heap.lt_size e
  | tbl ps => exact Heap.lt_size (show h.get? a = some _ from x)
  | met f y => exact Heap.lt_size (show h.get? a = some _ from x)
  | ext φ => obtain ⟨_, ⟨_, e⟩, _⟩ := x; exact Heap.lt_size e
theorem Paired.mapP {α β : Type} {F G : α → β → Prop} : ∀ {l₁ : List α} {l₂ : List β}, Paired F l₁ l₂ → (∀ a b, F a b → G a b) → Paired G l₁ l₂
  | _, _, .nil, _ => .nil
  | _, _, .cons r t, f => .cons (f _ _ r) (Paired.mapP t f)
theorem ObjOk.stay (x : ObjOk P w H h a o) (k : ∀ b u, (b = a ∨ H b = some (.own a)) → h.get? b = some u → h'.get? b = some u)
    (ho : ∀ b, H b = some (.own a) → H' b = some (.own a)) (ht : ∀ b xs, H b = some (.tup xs) → H' b = some (.tup xs)) : ObjOk P w H' h' a o := by
  induction o with
  | lst xs => obtain ⟨z, its, n, r, e⟩ := x; exact ⟨z, its, n, r, k _ _ (.inl rfl) e⟩
  | tup xs => obtain ⟨z, its, r, ob, e, c⟩ := x; exact ⟨z, its, r, ob, k _ _ (.inl rfl) e, c⟩
  | dK kvs => obtain ⟨z, y, vs, r, ob, es, ep, e, c⟩ := x; exact ⟨z, y, vs, r, ob, es, ep, k _ _ (.inl rfl) e, c⟩
  | dT kvs =>
    obtain ⟨z, y, xs, r, ob, es, ep, e, c⟩ := x
    exact ⟨z, y, xs, Paired.mapP r fun p q z => ⟨z.1, ht _ _ z.2.1, z.2.2⟩, ob, es, ep, k _ _ (.inl rfl) e, c⟩
  | set S n => obtain ⟨ob, es, ep, t, e, c⟩ := x; exact ⟨ob, es, ep, t, k _ _ (.inl rfl) e, c⟩
  | ins C dx fs =>
    obtain ⟨d, z, ne, e, mA, ⟨od, es, ep, e2, c⟩, r⟩ := x
    exact ⟨ho _ d, z, ne, k _ _ (.inl rfl) e, mA, ⟨od, es, ep, k _ _ (.inr d) e2, c⟩, r⟩
  | own y => obtain ⟨ob, e⟩ := x; exact ⟨ob, k _ _ (.inl rfl) e⟩
  | xd fs => obtain ⟨mA, ⟨od, es, ep, e, c⟩, r⟩ := x; exact ⟨mA, ⟨od, es, ep, k _ _ (.inl rfl) e, c⟩, r⟩
  | rng lo hi => obtain ⟨t, u, v, e⟩ := x; exact ⟨t, u, v, k _ _ (.inl rfl) e⟩
  | frz ob u ih => obtain ⟨e, q⟩ := x; exact ⟨k _ _ (.inl rfl) e, ih q⟩
  | tbl ps =>
    have e : h.get? a = some { cls := .none, data := .fields ps } := x
    show h'.get? a = some { cls := .none, data := .fields ps }
    exact k a _ (.inl rfl) e
  | met f y =>
    have e : h.get? a = some (PySem.W.methodObj (.ref f) (.ref y)) := x
    show h'.get? a = some (PySem.W.methodObj (.ref f) (.ref y))
    exact k a _ (.inl rfl) e
  | ext φ => obtain ⟨p, ⟨o, e⟩, st⟩ := x; exact ⟨st _ _ p fun o q => k _ _ (.inl rfl) q, ⟨o, k _ _ (.inl rfl) e⟩, st⟩
theorem HOk.lt (x : HOk P w H h) (e : H a = some o) : a < h.objs.size := (x a o e).lt
theorem HOk.fresh (x : HOk P w H h) (e : h.objs.size ≤ a) : H a = none := by
  cases q : H a with
  | none => rfl
  | some u => exact absurd (Nat.lt_of_lt_of_le (x.lt q) e) (Nat.lt_irrefl _)
theorem HOk.kept (x : HOk P w H h) (k : ∀ b u, h.get? b = some u → h'.get? b = some u) : HOk P w H h' := fun a o e =>
  (x a o e).stay (fun b u _ q => k b u q) (fun _ q => q) fun _ _ q => q
theorem HOk.laid (x : HOk P w H h) (k : ∀ b u, h.get? b = some u → h'.get? b = some u) (hp : h.objs.size ≤ a) (new : ObjOk P w (upd H a o) h' a o) : HOk P w (upd H a o) h' := fun b u e => by
  have hn := x.fresh hp
  by_cases hb : b = a
  · subst hb; rw [upd_same] at e; cases e; exact new
  · rw [upd_ne hb] at e
    exact (x b u e).stay (fun c v _ q => k c v q) (fun c q => by rw [upd_ne (ne_of_none q hn)]; exact q) fun c xs q => by rw [upd_ne (ne_of_none q hn)]; exact q
end
def Rd (H : Hp) (a : Addr) (u : HO) : Prop := H a = some u ∨ ∃ o, H a = some (.frz o u)
theorem Rd.ok {P : Program} {w : World} {H : Hp} {h : Heap} {a : Addr} {u : HO} (r : Rd H a u) (x : HOk P w H h) : ObjOk P w H h a u := by
  rcases r with r | ⟨o, r⟩
  · exact x a u r
  · obtain ⟨_, q⟩ := x a _ r
    exact q
def Mut : Option HO → Prop
  | some (.lst _) => True
  | some (.dK _) => True
  | some (.dT _) => True
  | some (.set _ _) => True
  | some (.ins _ _ _) => True
  | some (.ext _) => True
  | _ => False
section
variable {P : Program} {w : World} {H : Hp} {h h' : Heap} {x e : Addr} {o' : HO}
theorem HOk.write (ok : HOk P w H h) (mu : Mut (H x)) (he : e = x ∨ H e = some (.own x)) (k : ∀ b u, b ≠ e → h.get? b = some u → h'.get? b = some u) (heo : ∃ u, h'.get? e = some u)
    (new : ObjOk P w (upd H x o') h' x o') : HOk P w (upd H x o') h' := fun b u q => by
  have nown : ∀ c y, H c = some (.own y) → c ≠ x := fun c y r z => by subst z; rw [r] at mu; exact mu
  have ntup : ∀ c xs, H c = some (.tup xs) → c ≠ x := fun c xs r z => by subst z; rw [r] at mu; exact mu
  by_cases hb : b = x
  · subst hb; rw [upd_same] at q; cases q; exact new
  · rw [upd_ne hb] at q
    by_cases hbe : b = e
    · have q' : H b = some (.own x) := by
        rcases he with z | z
        · exact absurd (hbe.trans z) hb
        · rw [hbe]; exact z
      rw [q] at q'; cases q'
      obtain ⟨v, hv⟩ := heo
      exact ⟨v, by rw [hbe]; exact hv⟩
    · refine (ok b u q).stay (fun c v hc r => k c v ?_ r) (fun c r => by rw [upd_ne (nown c b r)]; exact r) fun c xs r => by rw [upd_ne (ntup c xs r)]; exact r
      rcases hc with rfl | hc
      · exact hbe
      · rintro rfl
        rcases he with z | z
        · exact nown c b hc z
        · rw [hc] at z; cases z; exact hb rfl
end
structure Un (fs ex : List Addr) (H H' : Hp) (h h' : Heap) : Prop where
  keep : ∀ b o, h.get? b = some o → H b = none → b ∉ fs → b ∉ ex → h'.get? b = some o
  slot : ∀ b o, h.get? b = some o → H b = none → b ∈ fs → b ∉ ex → ∃ sl, h'.get? b = some { o with slots := sl }
  free : ∀ b o, h.get? b = some o → H b = none → b ∉ ex → H' b = none
  there : ∀ b o, h.get? b = some o → b ∉ ex → ∃ o', h'.get? b = some o'
  tups : ∀ b xs, H b = some (.tup xs) → H' b = some (.tup xs)
  frzs : ∀ b o u, H b = some (.frz o u) → H' b = some (.frz o u)
  tbls : ∀ b ps, H b = some (.tbl ps) → ∃ more, H' b = some (.tbl (ps ++ more))
section
variable {fs fs' ex ex' : List Addr} {H H1 H2 : Hp} {h h1 h2 h' : Heap} {a x e : Addr} {o : HO}
theorem Un.any (u : Un fs ex H H1 h h1) {b : Addr} {ob : Obj} (q : h.get? b = some ob) (n : H b = none) (hx : b ∉ ex) : ∃ sl, h1.get? b = some { ob with slots := sl } := by
  by_cases hb : b ∈ fs
  · exact u.slot b ob q n hb hx
  · exact ⟨ob.slots, u.keep b ob q n hb hx⟩
theorem Un.kept (k : ∀ b u, h.get? b = some u → h'.get? b = some u) : Un fs ex H H h h' :=
  ⟨fun b ob q _ _ _ => k b ob q, fun b ob q _ _ _ => ⟨ob.slots, k b ob q⟩, fun _ _ _ n _ => n, fun b ob q _ => ⟨ob, k b ob q⟩, fun _ _ q => q, fun _ _ _ q => q, fun _ ps q => ⟨#[], by rw [q]; simp⟩⟩
theorem Un.refl : Un fs ex H H h h := Un.kept fun _ _ q => q
theorem Un.laid (k : ∀ b u, h.get? b = some u → h'.get? b = some u) (hp : h.objs.size ≤ a) (hn : H a = none) : Un fs ex H (upd H a o) h h' where
  keep := fun b u q _ _ _ => k b u q
  slot := fun b u q _ _ _ => ⟨u.slots, k b u q⟩
  free := fun b u q n _ => by rw [upd_ne (Nat.ne_of_lt (Nat.lt_of_lt_of_le (Heap.lt_size q) hp))]; exact n
  there := fun b u q _ => ⟨u, k b u q⟩
  tups := fun b xs q => by rw [upd_ne (ne_of_none q hn)]; exact q
  frzs := fun b u xs q => by rw [upd_ne (ne_of_none q hn)]; exact q
  tbls := fun b ps q => ⟨#[], by rw [upd_ne (ne_of_none q hn), q]; simp⟩
theorem Un.write (mu : Mut (H x)) (he : e = x ∨ H e = some (.own x)) (k : ∀ b u, b ≠ e → h.get? b = some u → h'.get? b = some u) (heo : ∃ u, h'.get? e = some u) : Un fs ex H (upd H x o) h h' := by
  have hx : ∀ b, H b = none → b ≠ x := fun b n z => by subst z; rw [n] at mu; exact mu
  have hb : ∀ b, H b = none → b ≠ e := fun b n z => by
    subst z
    rcases he with r | r
    · exact hx b n r
    · rw [n] at r; cases r
  have hm : ∀ b u, H b = some u → ¬ Mut (some u) → b ≠ x := fun b u q nm z => by subst z; rw [q] at mu; exact nm mu
  refine ⟨fun b u q n _ _ => k b u (hb b n) q, fun b u q n _ _ => ⟨u.slots, k b u (hb b n) q⟩, fun b u q n _ => by rw [upd_ne (hx b n)]; exact n, fun b u q _ => ?_,
    fun b xs q => by rw [upd_ne (hm b _ q fun z => z)]; exact q, fun b u xs q => by rw [upd_ne (hm b _ q fun z => z)]; exact q, fun b ps q => ⟨#[], by rw [upd_ne (hm b _ q fun z => z), q]; simp⟩⟩
  by_cases hbe : b = e
  · subst hbe; exact heo
  · exact ⟨u, k b u hbe q⟩
end
def trk (h : Heap) (H : Hp) : List Addr := (List.range h.objs.size).filter fun a => (H a).isSome
def hidT (h : Heap) (H : Hp) : Heap := PySem.W.hideAll h (trk h H)
theorem hidT_size (h : Heap) (H : Hp) : (hidT h H).objs.size = h.objs.size := PySem.W.hideAll_size _ _
theorem hidT_get {h : Heap} {H : Hp} {b : Addr} {o : Obj} (e : h.get? b = some o) (n : H b = none) : (hidT h H).get? b = some o :=
  PySem.W.hideAll_get _ e fun hm => by
    have q : (H b).isSome = true := (List.mem_filter.mp hm).2
    rw [n] at q; simp at q
theorem of_hidT {h : Heap} {H : Hp} {b : Addr} {o : Obj} (e : (hidT h H).get? b = some o) : h.get? b = some o ∧ H b = none := by
  have e' : h.get? b = some o := PySem.W.of_hideAll (trk h H) e
  refine ⟨e', ?_⟩
  cases q : H b with
  | none => rfl
  | some x =>
    have hm : b ∈ trk h H := List.mem_filter.mpr ⟨List.mem_range.mpr (Heap.lt_size e'), by simp [q]⟩
    have z : (hidT h H).get? b = none := PySem.W.hideAll_none (trk h H) hm
    rw [z] at e; cases e
def allNews (g h : Heap) (L : Addr) : List (Addr × Obj) := (List.range h.objs.size).filterMap fun a => if a = L ∨ (g.get? a).isSome = true then none else (h.get? a).map fun o => (a, o)
def rest (g h : Heap) (L d : Addr) : List (Addr × Obj) := (allNews g h L).filter fun p => decide (p.1 ≠ d)
end L2
namespace L2
open PySem PySem.Spec PyProof.Rows
structure Mod (K : PySem.W.Frag) (mg : Str → Option Value) (base : Heap) : Prop where
  kin : K.In base
  glob : base.Ns mainGlobals mg
  blt : ∃ mb, base.Ns builtinsNs mb ∧ ∀ x : Str, x ≠ "__name__" → mb x = bootBuiltins x
  nolimit : base.NoLimit
/-- the context: a def's body (or a comprehension's block) running. base: fixed through the whole law; s₀, H₀: the entry; outer: the frames whose slots others may change (a def's callers); stack: all frames that run;
   ex: iterators that were made ahead of the entry and are walked here (a comprehension's); fn: the names whose cells were made at the entry (a def: all; a comprehension's block: its own); calm: not within an except suite; pn: pins that every state bears; xe: what is wanted of an exception that leaves the code -/
structure Cx where
  prog : Program
  w : World
  K : PySem.W.Frag
  mg : Str → Option Value
  base : Heap
  A : Around
  N : List Str
  s₀ : Shared
  H₀ : Hp
  env : Env
  outer : List Env
  stack : List Env
  ex : List Addr
  fn : Str → Bool
  calm : Bool
  pn : List (Addr × Obj)
  xe : Value → Shared → Prop
def frs (l : List Env) : List Addr := l.filterMap (·.frame)
abbrev Cx.fs (X : Cx) : List Addr := frs X.outer
def Vis (sc : Scope) (x : Str) : Prop := sc.names.lookup x = some .local ∨ sc.names.lookup x = some .cell ∨ sc.names.lookup x = some .free
def Loc (sc : Scope) (x : Str) : Prop := sc.names.lookup x = some .local ∨ sc.names.lookup x = some .cell
def Look (env : Env) (h : Heap) (m : Str → Option Value) (x : Str) (u : Value) : Prop :=
  (env.kindOf x = some .local ∧ m x = some u) ∨ ((env.kindOf x = some .cell ∨ env.kindOf x = some .free) ∧ ∃ c, env.cells.lookup x = some c ∧ h.IsCell c (some u))
structure Cx.Ok (X : Cx) : Prop where
  mod : Mod X.K X.mg X.base
  kind : X.env.scope.kind = .function
  glob : X.env.globals = mainGlobals
  blt : X.env.builtins = builtinsNs
  above : X.s₀.heap.objs.size ≤ X.env.locals
  inj : ∀ x y c, X.env.cells.lookup x = some c → X.env.cells.lookup y = some c → x = y
  has : ∀ x, (X.env.kindOf x = some .cell ∨ X.env.kindOf x = some .free) → ∃ c, X.env.cells.lookup x = some c
  cab : ∀ x c, X.fn x = true → X.env.cells.lookup x = some c → X.s₀.heap.objs.size ≤ c
  hd : X.calm = true → X.A.handled = none
  frames : X.A.frames = some X.stack
  stk : X.stack = X.outer ∨ (X.stack = X.env :: X.outer ∧ X.env.frame = some X.env.locals)
  exf : ∀ b ∈ X.ex, b ≠ X.env.locals ∧ ∀ x c, X.env.cells.lookup x = some c → c ≠ b
  bs : ∀ b o, X.base.get? b = some o → X.s₀.heap.get? b = some o ∧ X.H₀ b = none
  bsz : X.base.objs.size ≤ X.s₀.heap.objs.size
  noex : ∀ b o, X.base.get? b = some o → b ∉ X.ex
  exfs : ∀ b ∈ X.ex, b ∉ X.fs
  funs : X.s₀.heap.FunFrames X.base X.outer
  frf : ∀ b ∈ X.fs, X.H₀ b = none
structure Inv (X : Cx) (pins : List (Addr × Obj)) (σ : List (Option V)) (H : Hp) (s : Shared) : Prop where
  ok : X.Ok
  os : s.os = X.s₀.os
  bare : AllBare s.gens
  base : Un X.fs X.ex X.H₀ H X.s₀.heap s.heap
  loc : ∃ m, s.heap.Ns X.env.locals m ∧ ∀ (i : Nat) (x : Str) (v : V), X.N[i]? = some x → σ[i]? = some (some v) → Vis X.env.scope x → ∃ u, RelV v u ∧ Look X.env s.heap m x u
  cell : ∀ x c, X.env.cells.lookup x = some c → ∃ v, s.heap.IsCell c v
  free : H X.env.locals = none
  freeC : ∀ x c, X.env.cells.lookup x = some c → H c = none
  pin : ∀ p ∈ X.pn ++ pins, s.heap.get? p.1 = some p.2 ∧ H p.1 = none ∧ p.1 ≠ X.env.locals ∧ p.1 ∉ X.fs ∧ ∀ v, p.2.data ≠ .cell v
  hok : HOk X.prog X.w H s.heap
  len : σ.length = X.N.length
section
variable {X : Cx} {pins : List (Addr × Obj)} {σ : List (Option V)} {H H' : Hp} {s : Shared} {h' : Heap}
theorem Cx.Ok.nofr (ok : X.Ok) {b : Addr} {o : Obj} (e : X.base.get? b = some o) : b ∉ X.fs := fun hb => by
  have := (ok.funs.mem hb).1
  rw [e] at this; cases this
theorem Inv.bs (I : Inv X pins σ H s) : ∀ b o, X.base.get? b = some o → s.heap.get? b = some o ∧ H b = none := fun b o e =>
  ⟨I.base.keep b o (I.ok.bs b o e).1 (I.ok.bs b o e).2 (I.ok.nofr e) (I.ok.noex b o e), I.base.free b o (I.ok.bs b o e).1 (I.ok.bs b o e).2 (I.ok.noex b o e)⟩
theorem Inv.bk (I : Inv X pins σ H s) : ∀ b o, X.base.get? b = some o → s.heap.get? b = some o := fun b o e => (I.bs b o e).1
theorem Inv.mod (I : Inv X pins σ H s) : Mod X.K X.mg X.base := I.ok.mod
theorem Inv.kIn (I : Inv X pins σ H s) : X.K.In s.heap := I.ok.mod.kin.keeps I.bk
theorem Inv.lt (I : Inv X pins σ H s) : X.env.locals < s.heap.objs.size := let ⟨_, hn, _⟩ := I.loc; hn.lt
theorem Inv.sz (I : Inv X pins σ H s) : X.s₀.heap.objs.size ≤ s.heap.objs.size := Nat.le_trans I.ok.above (Nat.le_of_lt I.lt)
theorem Inv.nofs (I : Inv X pins σ H s) {a : Addr} (h : s.heap.objs.size ≤ a) : a ∉ X.fs := fun hb => by
  obtain ⟨_, o, ho, _⟩ := I.ok.funs.mem hb
  exact absurd (Nat.lt_of_lt_of_le (Heap.lt_size ho) (Nat.le_trans I.sz h)) (Nat.lt_irrefl _)
theorem Inv.cne (I : Inv X pins σ H s) : ∀ x c, X.env.cells.lookup x = some c → c ≠ X.env.locals := fun x c e z => by
  obtain ⟨v, o, ho, hd⟩ := I.cell x c e
  obtain ⟨m, ⟨o', es, ep, ho', hd', _⟩, _⟩ := I.loc
  rw [z, ho'] at ho; cases ho; rw [hd'] at hd; cases hd
theorem Inv.funs (I : Inv X pins σ H s) : s.heap.FunFrames X.base X.outer := by
  have all : ∀ (l : List Env), (∀ b ∈ frs l, b ∈ X.fs) → X.s₀.heap.FunFrames X.base l → s.heap.FunFrames X.base l := by
    intro l
    induction l with
    | nil => intro _ _; trivial
    | cons env r ih =>
      intro hs hl
      obtain ⟨hk, ⟨L, o, hf, hn, ho, hd⟩, hr⟩ := hl
      have hL : L ∈ X.fs := hs L (by unfold frs; rw [List.filterMap_cons, hf]; exact List.mem_cons_self)
      obtain ⟨sl, e⟩ := I.base.slot L o ho (I.ok.frf L hL) hL fun z => I.ok.exfs L z hL
      exact ⟨hk, ⟨L, _, hf, hn, e, hd⟩, ih (fun b hb => hs b (by unfold frs; rw [List.filterMap_cons, hf]; exact List.mem_cons_of_mem _ hb)) hr⟩
  exact all X.outer (fun _ hb => hb) I.ok.funs
theorem Inv.stack (I : Inv X pins σ H s) : s.heap.FunFrames X.base X.stack := by
  rcases I.ok.stk with e | ⟨e, hf⟩
  · rw [e]; exact I.funs
  · rw [e]
    obtain ⟨m, hn, _⟩ := I.loc
    refine .cons (by rw [I.ok.kind]; decide) hf hn ?_ I.funs
    exact Heap.get?_none_of_le (Nat.le_trans I.ok.bsz I.ok.above)
theorem Inv.stkSub (I : Inv X pins σ H s) : ∀ b ∈ frs X.stack, b ∈ X.env.locals :: X.fs := fun b hb => by
  rcases I.ok.stk with e | ⟨e, hf⟩
  · rw [e] at hb; exact List.mem_cons_of_mem _ hb
  · rw [e] at hb
    unfold frs at hb
    rw [List.filterMap_cons, hf] at hb
    exact hb
theorem Inv.stkFree (I : Inv X pins σ H s) : ∀ b ∈ frs X.stack, H b = none := fun b hb => by
  rcases List.mem_cons.mp (I.stkSub b hb) with e | hb
  · rw [e]; exact I.free
  · obtain ⟨_, o, ho, _⟩ := I.ok.funs.mem hb
    exact I.base.free b o ho (I.ok.frf b hb) fun z => I.ok.exfs b z hb
theorem Inv.step {g' : Array GenState} {t' : Nat} {d' : Drawn} {ch : List Addr} (I : Inv X pins σ H s)
    (hch : ∀ b ∈ ch, (b ∈ X.ex ∨ X.s₀.heap.objs.size ≤ b) ∧ b ≠ X.env.locals ∧ (∀ x c, X.env.cells.lookup x = some c → c ≠ b) ∧ ∀ p ∈ X.pn ++ pins, p.1 ≠ b)
    (keep : ∀ b o, b ≠ X.env.locals → b ∉ X.fs → b ∉ ch → s.heap.get? b = some o → H b = none → h'.get? b = some o)
    (slot : ∀ b o, b ≠ X.env.locals → b ∈ X.fs → b ∉ ch → s.heap.get? b = some o → H b = none → ∃ sl, h'.get? b = some { o with slots := sl }) (free : ∀ b o, b ∉ ch → s.heap.get? b = some o → H b = none → H' b = none)
    (there : ∀ b o, b ∉ ch → s.heap.get? b = some o → ∃ o', h'.get? b = some o')
    (tups : ∀ b xs, H b = some (.tup xs) → H' b = some (.tup xs)) (frzs : ∀ b o u, H b = some (.frz o u) → H' b = some (.frz o u)) (tbls : ∀ b ps, H b = some (.tbl ps) → ∃ more, H' b = some (.tbl (ps ++ more)))
    (ns : ∀ m, s.heap.Ns X.env.locals m → h'.Ns X.env.locals m) (hok : HOk X.prog X.w H' h') (hg : AllBare g') :
    Inv X pins σ H' { s with heap := h', gens := g', drawn := d', toks := t' } := by
  have neL : ∀ b o, X.s₀.heap.get? b = some o → b ≠ X.env.locals := fun b o e => Nat.ne_of_lt (Nat.lt_of_lt_of_le (Heap.lt_size e) I.ok.above)
  have neC : ∀ b o, X.s₀.heap.get? b = some o → b ∉ X.ex → b ∉ ch := fun b o e hx hb => by
    rcases (hch b hb).1 with z | z
    · exact hx z
    · exact absurd (Nat.lt_of_lt_of_le (Heap.lt_size e) z) (Nat.lt_irrefl _)
  have cellK : ∀ x c, X.env.cells.lookup x = some c → ∀ v, s.heap.IsCell c v → h'.IsCell c v := fun x c e v zz1 => by
    obtain ⟨o, ho, hd⟩ := zz1
    have nch : c ∉ ch := fun z => (hch c z).2.2.1 x c e rfl
    by_cases hc : c ∈ X.fs
    · obtain ⟨sl, q⟩ := slot c o (I.cne x c e) hc nch ho (I.freeC x c e)
      exact ⟨_, q, hd⟩
    · exact ⟨o, keep c o (I.cne x c e) hc nch ho (I.freeC x c e), hd⟩
  refine ⟨I.ok, I.os, hg, ⟨fun b o e n hb hx => ?_, fun b o e n hb hx => ?_, fun b o e n hx => ?_, fun b o e hx => ?_, fun b xs e => tups b xs (I.base.tups b xs e), fun b o xs e => frzs b o xs (I.base.frzs b o xs e), fun b ps e => ?_⟩, ?_, fun x c e => ?_, ?_, fun x c e => ?_, fun p hp => ?_, hok, I.len⟩
  · exact keep b o (neL b o e) hb (neC b o e hx) (I.base.keep b o e n hb hx) (I.base.free b o e n hx)
  · obtain ⟨sl, e1⟩ := I.base.slot b o e n hb hx
    obtain ⟨sl', e2⟩ := slot b _ (neL b o e) hb (neC b o e hx) e1 (I.base.free b o e n hx)
    exact ⟨sl', e2⟩
  · obtain ⟨o', e1⟩ := I.base.there b o e hx
    exact free b o' (neC b o e hx) e1 (I.base.free b o e n hx)
  · obtain ⟨o', e1⟩ := I.base.there b o e hx
    exact there b o' (neC b o e hx) e1
  · obtain ⟨m1, e1⟩ := I.base.tbls b ps e
    obtain ⟨m2, e2⟩ := tbls b _ e1
    exact ⟨m1 ++ m2, by rw [e2, Array.append_assoc]⟩
  · obtain ⟨m, hn, hl⟩ := I.loc
    refine ⟨m, ns m hn, fun i x v e1 e2 e3 => ?_⟩
    obtain ⟨u, r, l⟩ := hl i x v e1 e2 e3
    refine ⟨u, r, ?_⟩
    rcases l with l | ⟨k, c, e, z⟩
    · exact .inl l
    · exact .inr ⟨k, c, e, cellK x c e _ z⟩
  · obtain ⟨v, z⟩ := I.cell x c e
    exact ⟨v, cellK x c e v z⟩
  · obtain ⟨m, ⟨o, _, _, ho, _⟩, _⟩ := I.loc
    exact free _ o (fun z => (hch _ z).2.1 rfl) ho I.free
  · obtain ⟨v, o, ho, hd⟩ := I.cell x c e
    exact free c o (fun z => (hch c z).2.2.1 x c e rfl) ho (I.freeC x c e)
  · obtain ⟨e, n, ne, nf, d⟩ := I.pin p hp
    have nch : p.1 ∉ ch := fun z => (hch p.1 z).2.2.2 p hp rfl
    exact ⟨keep p.1 p.2 ne nf nch e n, free p.1 p.2 nch e n, ne, nf, d⟩
theorem Inv.un {t' : Nat} (I : Inv X pins σ H s) (u : Un X.fs [] H H' s.heap h') (hok : HOk X.prog X.w H' h') : Inv X pins σ H' { s with heap := h', toks := t' } := by
  obtain ⟨m, ⟨o, es, ep, ho, r⟩, _⟩ := id I.loc
  obtain ⟨sl, hL⟩ := u.any ho I.free (by simp)
  exact I.step (g' := s.gens) (d' := s.drawn) (ch := []) (fun _ z => nomatch z) (fun b o _ hb _ e n => u.keep b o e n hb (by simp)) (fun b o _ hb _ e n => u.slot b o e n hb (by simp)) (fun b o _ e n => u.free b o e n (by simp)) (fun b o _ e => u.there b o e (by simp)) u.tups u.frzs u.tbls (fun m' hm => by
    obtain ⟨o', es', ep', ho', r'⟩ := hm
    rw [ho] at ho'; cases ho'
    exact ⟨_, es', ep', hL, r'⟩) hok I.bare
theorem Inv.call {g' : Array GenState} {t' : Nat} {d' : Drawn} {ch : List Addr} (I : Inv X pins σ H s) (u : Un (frs X.stack) ch H H' s.heap h') (hok : HOk X.prog X.w H' h') (hg : AllBare g')
    (hch : ∀ b ∈ ch, (b ∈ X.ex ∨ X.s₀.heap.objs.size ≤ b) ∧ b ≠ X.env.locals ∧ (∀ x c, X.env.cells.lookup x = some c → c ≠ b) ∧ ∀ p ∈ X.pn ++ pins, p.1 ≠ b) :
    Inv X pins σ H' { s with heap := h', gens := g', drawn := d', toks := t' } := by
  obtain ⟨m, ⟨o, es, ep, ho, r⟩, _⟩ := id I.loc
  obtain ⟨sl, hL⟩ := u.any ho I.free fun z => (hch _ z).2.1 rfl
  exact I.step (ch := ch) hch (fun b o hL hb hc e n => u.keep b o e n (fun z => (List.mem_cons.mp (I.stkSub b z)).elim hL hb) hc) (fun b o _ _ hc e n => u.any e n hc) (fun b o hc e n => u.free b o e n hc) (fun b o hc e => u.there b o e hc) u.tups u.frzs u.tbls (fun m' hm => by
    obtain ⟨o', es', ep', ho', r'⟩ := hm
    rw [ho] at ho'; cases ho'
    exact ⟨_, es', ep', hL, r'⟩) hok hg
theorem Inv.turned {t' : Nat} {it : Addr} (I : Inv X pins σ H s) (k : ∀ b o, b ≠ it → s.heap.get? b = some o → h'.get? b = some o) (hn : H it = none) (hL : it ≠ X.env.locals)
    (h1 : it ∈ X.ex ∨ X.s₀.heap.objs.size ≤ it) (h2 : ∀ x c, X.env.cells.lookup x = some c → c ≠ it) (h3 : ∀ p ∈ X.pn ++ pins, p.1 ≠ it) : Inv X pins σ H { s with heap := h', toks := t' } := by
  have nit : ∀ b u, H b = some u → b ≠ it := fun b u e z => by rw [z, hn] at e; cases e
  refine I.step (g' := s.gens) (d' := s.drawn) (ch := [it]) (fun b hb => ?_) (fun b o _ _ hc e _ => k b o (fun z => hc (by simp [z])) e) (fun b o _ _ hc e _ => ⟨o.slots, k b o (fun z => hc (by simp [z])) e⟩) (fun _ _ _ _ n => n)
    (fun b o hc e => ⟨o, k b o (fun z => hc (by simp [z])) e⟩) (fun _ _ e => e) (fun _ _ _ e => e) (fun b ps e => ⟨#[], by rw [e]; simp⟩) (fun m hm => ?_) (fun b u e => ?_) I.bare
  · have e : b = it := by simpa using hb
    subst e
    exact ⟨h1, hL, h2, h3⟩
  · obtain ⟨o, es, ep, ho, r⟩ := hm
    exact ⟨o, es, ep, k _ o (Ne.symm hL) ho, r⟩
  · refine (I.hok b u e).stay (fun c v hc q => k c v ?_ q) (fun _ q => q) fun _ _ q => q
    rcases hc with z | z
    · rw [z]; exact nit b u e
    · exact nit c _ z
theorem Inv.tok (I : Inv X pins σ H s) (t : Nat) : Inv X pins σ H { s with toks := t } := I.un (h' := s.heap) (t' := t) Un.refl I.hok
theorem Inv.kept {t' : Nat} (I : Inv X pins σ H s) (k : ∀ b u, s.heap.get? b = some u → h'.get? b = some u) : Inv X pins σ H { s with heap := h', toks := t' } := I.un (Un.kept k) (I.hok.kept k)
theorem Inv.laid {a : Addr} {o : HO} {t' : Nat} (I : Inv X pins σ H s) (k : ∀ b u, s.heap.get? b = some u → h'.get? b = some u) (hp : s.heap.objs.size ≤ a) (new : ObjOk X.prog X.w (upd H a o) h' a o) :
    Inv X pins σ (upd H a o) { s with heap := h', toks := t' } := I.un (Un.laid k hp (I.hok.fresh hp)) (I.hok.laid k hp new)
theorem Inv.write {x e : Addr} {o : HO} {t' : Nat} (I : Inv X pins σ H s) (mu : Mut (H x)) (he : e = x ∨ H e = some (.own x)) (k : ∀ b u, b ≠ e → s.heap.get? b = some u → h'.get? b = some u) (heo : ∃ u, h'.get? e = some u)
    (new : ObjOk X.prog X.w (upd H x o) h' x o) : Inv X pins σ (upd H x o) { s with heap := h', toks := t' } := I.un (Un.write mu he k heo) (I.hok.write mu he k heo new)
theorem Inv.weak {σ' : List (Option V)} (I : Inv X pins σ H s) (hl : σ'.length = σ.length) (w : ∀ (i : Nat) v, σ'[i]? = some (some v) → σ[i]? = some (some v)) : Inv X pins σ' H s :=
  ⟨I.ok, I.os, I.bare, I.base, let ⟨m, hn, hl'⟩ := I.loc; ⟨m, hn, fun i x v e1 e2 e3 => hl' i x v e1 (w i v e2) e3⟩, I.cell, I.free, I.freeC, I.pin, I.hok, hl.trans I.len⟩
theorem Inv.pins_of {pins' : List (Addr × Obj)} (I : Inv X pins σ H s) (h : ∀ p ∈ pins', s.heap.get? p.1 = some p.2 ∧ H p.1 = none ∧ p.1 ≠ X.env.locals ∧ p.1 ∉ X.fs ∧ ∀ v, p.2.data ≠ .cell v) : Inv X pins' σ H s :=
  ⟨I.ok, I.os, I.bare, I.base, I.loc, I.cell, I.free, I.freeC, fun p hp => (List.mem_append.mp hp).elim (fun z => I.pin p (List.mem_append_left _ z)) (h p), I.hok, I.len⟩
theorem nodup_ix {N : List Str} (hN : N.Nodup) {i j : Nat} {x : Str} (a : N[i]? = some x) (b : N[j]? = some x) : i = j := by
  obtain ⟨h1, e1⟩ := List.getElem?_eq_some_iff.mp a
  obtain ⟨h2, e2⟩ := List.getElem?_eq_some_iff.mp b
  exact (List.getElem_inj hN).mp (e1.trans e2.symm)
theorem store_ok2 {M : Model} {A : Around} {E : Value → Shared → Prop} {i : Nat} {x : Str} {v : V} {u : Value} {Q : Unit → Shared → Prop} (I : Inv X pins σ H s) (hN : X.N.Nodup) (hi : X.N[i]? = some x) (hx : Loc X.env.scope x) (r : RelV v u)
    (h : ∀ s', Inv X pins (σ.set i (some v)) H s' → (∃ a, Heap.SameBut a s.heap s'.heap ∧ (a = X.env.locals ∨ X.env.cells.lookup x = some a)) → Q () s') (hf : X.fn x = true ∨ X.env.scope.names.lookup x = some .local := by first | exact .inl rfl | exact .inr rfl | assumption) : wpAny M A (storeName X.env x u) Q E s := by
  obtain ⟨m, hn, hl⟩ := id I.loc
  have hcls : (X.env.scope.kind == .class || (X.env.scope.kind == .module && X.env.locals != X.env.globals)) = false := by rw [I.ok.kind]; rfl
  have hiσ : i < σ.length := by rw [I.len]; exact (List.getElem?_eq_some_iff.mp hi).1
  have cne := I.cne
  have tracked : ∀ {a : Addr} {h' : Heap}, (∃ o, s.heap.get? a = some o ∧ H a = none) → Heap.SameBut a s.heap h' → HOk X.prog X.w H h' := fun {a h'} ha hs b ob e => by
    obtain ⟨_, _, hfree⟩ := ha
    refine (I.hok b ob e).stay (fun c w' hc q => (hs.2 c ?_).trans q) (fun _ q => q) fun _ _ q => q
    rintro rfl
    rcases hc with rfl | hc
    · rw [hfree] at e; cases e
    · rw [hfree] at hc; cases hc
  rcases hx with hk | hk
  · refine wpAny_storeName_local hk hn (fun h' hn' hs => ?_) hcls
    obtain ⟨oL, _, _, hoL, _⟩ := id hn
    refine h _ ⟨I.ok, I.os, I.bare, ⟨fun b o e n hb hx => ?_, fun b o e n hb hx => ?_, I.base.free, fun b o e hx => ?_, I.base.tups, I.base.frzs, I.base.tbls⟩, ⟨_, hn', fun j y v' e1 e2 e3 => ?_⟩, fun y c e => ?_, I.free, I.freeC, fun p hp => ?_, tracked ⟨oL, hoL, I.free⟩ hs, by simpa using I.len⟩ ⟨_, hs, .inl rfl⟩
    · exact (hs.2 b (Nat.ne_of_lt (Nat.lt_of_lt_of_le (Heap.lt_size e) I.ok.above))).trans (I.base.keep b o e n hb hx)
    · obtain ⟨sl, e1⟩ := I.base.slot b o e n hb hx
      exact ⟨sl, (hs.2 b (Nat.ne_of_lt (Nat.lt_of_lt_of_le (Heap.lt_size e) I.ok.above))).trans e1⟩
    · obtain ⟨o', e1⟩ := I.base.there b o e hx
      exact ⟨o', (hs.2 b (Nat.ne_of_lt (Nat.lt_of_lt_of_le (Heap.lt_size e) I.ok.above))).trans e1⟩
    · by_cases hj : j = i
      · subst hj
        rw [hi] at e1; cases e1
        rw [List.getElem?_set_self hiσ] at e2
        cases e2
        exact ⟨u, r, .inl ⟨hk, by simp⟩⟩
      · rw [List.getElem?_set_ne (Ne.symm hj)] at e2
        obtain ⟨u', r', q⟩ := hl j y v' e1 e2 e3
        refine ⟨u', r', ?_⟩
        rcases q with ⟨k, e⟩ | ⟨k, c, e, z⟩
        · refine .inl ⟨k, ?_⟩
          have : y ≠ x := fun e => hj (nodup_ix hN e1 (e ▸ hi))
          simp [this, e]
        · exact .inr ⟨k, c, e, z.sameBut hs (cne y c e)⟩
    · obtain ⟨w', z⟩ := I.cell y c e
      exact ⟨w', z.sameBut hs (cne y c e)⟩
    · obtain ⟨e, n, ne, nf, d⟩ := I.pin p hp
      exact ⟨(hs.2 p.1 ne).trans e, n, ne, nf, d⟩
  · have hfn : X.fn x = true := by
      rcases hf with z | z
      · exact z
      · rw [z] at hk; cases hk
    obtain ⟨c, hc⟩ := I.ok.has x (.inl hk)
    obtain ⟨w', z⟩ := I.cell x c hc
    refine wpAny_storeName_cell I.ok.kind hk hc z (fun h' hc' hs => ?_)
    obtain ⟨oc, hoc, hocd⟩ := id z
    refine h { s with heap := h' } ⟨I.ok, I.os, I.bare, ⟨fun b o e n hb hx => ?_, fun b o e n hb hx => ?_, I.base.free, fun b o e hx => ?_, I.base.tups, I.base.frzs, I.base.tbls⟩, ⟨m, hn.sameBut hs (Ne.symm (cne x c hc)), fun j y v' e1 e2 e3 => ?_⟩, fun y c' e => ?_, I.free, I.freeC, fun p hp => ?_, tracked ⟨oc, hoc, I.freeC x c hc⟩ hs, by simpa using I.len⟩ ⟨c, hs, .inr hc⟩
    · exact (hs.2 b (Nat.ne_of_lt (Nat.lt_of_lt_of_le (Heap.lt_size e) (I.ok.cab x c hfn hc)))).trans (I.base.keep b o e n hb hx)
    · obtain ⟨sl, e1⟩ := I.base.slot b o e n hb hx
      exact ⟨sl, (hs.2 b (Nat.ne_of_lt (Nat.lt_of_lt_of_le (Heap.lt_size e) (I.ok.cab x c hfn hc)))).trans e1⟩
    · obtain ⟨o', e1⟩ := I.base.there b o e hx
      exact ⟨o', (hs.2 b (Nat.ne_of_lt (Nat.lt_of_lt_of_le (Heap.lt_size e) (I.ok.cab x c hfn hc)))).trans e1⟩
    · by_cases hj : j = i
      · subst hj
        rw [hi] at e1; cases e1
        rw [List.getElem?_set_self hiσ] at e2
        cases e2
        exact ⟨u, r, .inr ⟨.inl hk, c, hc, hc'⟩⟩
      · rw [List.getElem?_set_ne (Ne.symm hj)] at e2
        obtain ⟨u', r', q⟩ := hl j y v' e1 e2 e3
        refine ⟨u', r', ?_⟩
        rcases q with q | ⟨k, c', e, z'⟩
        · exact .inl q
        · refine .inr ⟨k, c', e, z'.sameBut hs ?_⟩
          rintro rfl
          exact hj (nodup_ix hN e1 (I.ok.inj _ _ _ e hc ▸ hi))
    · by_cases hcc : c' = c
      · subst hcc; exact ⟨_, hc'⟩
      · obtain ⟨w2, z2⟩ := I.cell y c' e
        exact ⟨w2, z2.sameBut hs hcc⟩
    · obtain ⟨e, n, ne, nf, d⟩ := I.pin p hp
      refine ⟨(hs.2 p.1 ?_).trans e, n, ne, nf, d⟩
      intro q
      rw [q, hoc] at e
      have q' : oc = p.2 := Option.some.inj e
      exact d w' (by rw [← q']; exact hocd)
theorem store_ok {M : Model} {A : Around} {E : Value → Shared → Prop} {i : Nat} {x : Str} {v : V} {u : Value} {Q : Unit → Shared → Prop} (I : Inv X pins σ H s) (hN : X.N.Nodup) (hi : X.N[i]? = some x) (hx : Loc X.env.scope x) (r : RelV v u)
    (h : ∀ s', Inv X pins (σ.set i (some v)) H s' → Q () s') (hf : X.fn x = true ∨ X.env.scope.names.lookup x = some .local := by first | exact .inl rfl | exact .inr rfl | assumption) : wpAny M A (storeName X.env x u) Q E s :=
  store_ok2 I hN hi hx r (fun s' I' _ => h s' I') hf
theorem Inv.call' {s' : Shared} {ch : List Addr} (I : Inv X pins σ H s) (ho : s'.os = s.os) (u : Un (frs X.stack) ch H H' s.heap s'.heap) (hok : HOk X.prog X.w H' s'.heap) (hg : AllBare s'.gens)
    (hch : ∀ b ∈ ch, (b ∈ X.ex ∨ X.s₀.heap.objs.size ≤ b) ∧ b ≠ X.env.locals ∧ (∀ x c, X.env.cells.lookup x = some c → c ≠ b) ∧ ∀ p ∈ X.pn ++ pins, p.1 ≠ b) : Inv X pins σ H' s' := by
  obtain ⟨h', g', d', t', o'⟩ := s'
  have e : o' = s.os := ho
  subst e
  exact I.call (g' := g') (t' := t') (d' := d') u hok hg hch
end
abbrev XK := Value → Option Addr → Hp → Prop
abbrev St := List (Option V)
abbrev VK := V → Hp → Prop
abbrev TE := St → Hp → VK → Prop
abbrev TT := St → Hp → (Bool → Hp → Prop) → Prop
abbrev TA := St → Hp → (List V → Hp → Prop) → Prop
set_option genInjectivity false in
set_option genSizeOf false in
structure Ends where
  nx : St → Hp → Prop
  rt : VK
  bk : St → Hp → Prop := fun _ _ => False
  ct : St → Hp → Prop := fun _ _ => False
abbrev TS := Ends → St → Hp → Prop
def EP (X : Cx) (pins : List (Addr × Obj)) (σ : St) (Q : VK) (u : Value) (s' : Shared) : Prop := ∃ v H', Inv X pins σ H' s' ∧ RelV v u ∧ Q v H'
def TP (X : Cx) (pins : List (Addr × Obj)) (σ : St) (Q : Bool → Hp → Prop) (b : Bool) (s' : Shared) : Prop := ∃ H', Inv X pins σ H' s' ∧ Q b H'
def AP (X : Cx) (pins : List (Addr × Obj)) (σ : St) (Q : List V → Hp → Prop) (us : List Value) (s' : Shared) : Prop := ∃ vs H', Inv X pins σ H' s' ∧ Vals vs us ∧ Q vs H'
def SP (X : Cx) (pins : List (Addr × Obj)) (D : Ends) (f : Flow) (s' : Shared) : Prop :=
  match f with
  | .next => ∃ σ' H', Inv X pins σ' H' s' ∧ D.nx σ' H'
  | .brk => ∃ σ' H', Inv X pins σ' H' s' ∧ D.bk σ' H'
  | .cont => ∃ σ' H', Inv X pins σ' H' s' ∧ D.ct σ' H'
  | .ret u => ∃ v σ' H', Inv X pins σ' H' s' ∧ RelV v u ∧ D.rt v H'
def PE (X : Cx) (e : Expr) (t : TE) : Prop :=
  ∀ (pins : List (Addr × Obj)) (s : Shared) (σ : St) (H : Hp) (Q : VK), Inv X pins σ H s → t σ H Q → wpAny (model X.prog X.w) X.A (eval e X.env) (EP X pins σ Q) X.xe s
def PT (X : Cx) (e : Expr) (t : TT) : Prop :=
  ∀ (pins : List (Addr × Obj)) (s : Shared) (σ : St) (H : Hp) (Q : Bool → Hp → Prop), Inv X pins σ H s → t σ H Q → wpAny (model X.prog X.w) X.A (isTrue e X.env (eval e X.env)) (TP X pins σ Q) X.xe s
def PW (X : Cx) (e : Expr) (t : TT) : Prop :=
  ∀ (whole : Sem Value) (pins : List (Addr × Obj)) (s : Shared) (σ : St) (H : Hp) (Q : Bool → Hp → Prop), Inv X pins σ H s → t σ H Q → wpAny (model X.prog X.w) X.A (isTrue e X.env whole) (TP X pins σ Q) X.xe s
theorem PW.pt {X : Cx} {e : Expr} {t : TT} (h : PW X e t) : PT X e t := h _
def PA (X : Cx) (es : List Expr) (t : TA) : Prop :=
  ∀ (pos : Pos) (pins : List (Addr × Obj)) (s : Shared) (σ : St) (H : Hp) (Q : List V → Hp → Prop), Inv X pins σ H s → t σ H Q → wpAny (model X.prog X.w) X.A (spliced (backTo pos (starEach es X.env))) (AP X pins σ Q) X.xe s
def PS (X : Cx) (st : Stmt) (t : TS) : Prop :=
  ∀ (pins : List (Addr × Obj)) (s : Shared) (σ : St) (H : Hp) (D : Ends), Inv X pins σ H s → t D σ H → wpAny (model X.prog X.w) X.A (exec st X.env) (SP X pins D) X.xe s
def PSs (X : Cx) (st : List Stmt) (t : TS) : Prop :=
  ∀ (pins : List (Addr × Obj)) (s : Shared) (σ : St) (H : Hp) (D : Ends), Inv X pins σ H s → t D σ H → wpAny (model X.prog X.w) X.A (execs st X.env) (SP X pins D) X.xe s
theorem thn {α : Type} {t : Sem α} {Q Q' : α → Shared → Prop} {M : Model} {A : Around} {E : Value → Shared → Prop} {s : Shared} (h : wpAny M A t Q E s) (hQ : ∀ a s, Q a s → Q' a s) : wpAny M A t Q' E s := wpAny_mono h hQ fun _ _ x => x
end L2
namespace L2
open PySem PySem.Spec PyProof.Rows
section
variable {X : Cx}
def tVar (i : Nat) : TE := fun σ H Q => ∃ v, σ[i]? = some (some v) ∧ Q v H
def tC (v : V) : TE := fun _ H Q => Q v H
theorem pe_var {i : Nat} {x : Str} {pos : Pos} (hN : X.N[i]? = some x) (hv : Vis X.env.scope x) (hd : (x == ("__debug__" : Str)) = false := by decide) (hcd : (x == ("__classdict__" : Str)) = false := by decide) : PE X (.Name x pos) (tVar i) := by
  intro pins s σ H Q I h
  obtain ⟨v, e, h⟩ := h
  obtain ⟨m, hn, hl⟩ := I.loc
  obtain ⟨u, r, l⟩ := hl i x v hN e hv
  have fin : EP X pins σ Q u s := ⟨v, H, I, r, h⟩
  rcases l with ⟨hk, hm⟩ | ⟨hk, c, hc, hcell⟩
  · exact wpAny_Name (wpAny_loadName_local I.ok.kind hk hn hm fin) hd
  · rcases hk with hk | hk
    · exact wpAny_Name (wpAny_loadName_cell I.ok.kind hk hc hcell fin) hd
    · exact wpAny_Name (wpAny_loadName_free I.ok.kind hk hc hcell fin hcd) hd
theorem pe_int {i j pos} : PE X (.Constant (.int i) j pos) (tC (.int i)) := fun _ _ _ H _ I h => wpAny_Constant_int ⟨.int i, H, I.tok _, ⟨_, rfl⟩, h⟩
theorem pe_bl {b j pos} : PE X (.Constant (.bool b) j pos) (tC (.bl b)) := fun _ _ _ H _ I h => Constant_bool ⟨.bl b, H, I, rfl, h⟩
theorem pe_non {j pos} : PE X (.Constant .none j pos) (tC .non) := fun _ _ _ H _ I h => Constant_none ⟨.non, H, I, rfl, h⟩
theorem pe_str {x j pos} : PE X (.Constant (.str x) j pos) (tC (.str x)) := fun _ _ _ H _ I h => Calls.Constant_str ⟨.str x, H, I.tok _, ⟨_, rfl⟩, h⟩
def Gl (X : Cx) (x : Str) : Prop := X.env.kindOf x = some .globalImplicit
theorem ld_glob {E : Value → Shared → Prop} {pins : List (Addr × Obj)} {s : Shared} {σ : St} {H : Hp} {x : Str} {u : Value} {pos : Pos} {Q : Value → Shared → Prop} (I : Inv X pins σ H s) (hg : Gl X x) (hm : X.mg x = some u) (h : Q u s)
    (hd : (x == ("__debug__" : Str)) = false := by decide) : wpAny (model X.prog X.w) X.A (eval (.Name x pos) X.env) Q E s :=
  Calls.Name_function_global I.ok.kind hg (Calls.loadGlobal_global (by rw [I.ok.glob]; exact I.mod.glob.keeps I.bk) hm h) hd
theorem ld_blt {E : Value → Shared → Prop} {pins : List (Addr × Obj)} {s : Shared} {σ : St} {H : Hp} {x : Str} {u : Value} {pos : Pos} {Q : Value → Shared → Prop} (I : Inv X pins σ H s) (hg : Gl X x) (hm : X.mg x = none) (hv : bootBuiltins x = some u) (h : Q u s)
    (hn : x ≠ "__name__" := by decide) (hd : (x == ("__debug__" : Str)) = false := by decide) : wpAny (model X.prog X.w) X.A (eval (.Name x pos) X.env) Q E s := by
  obtain ⟨mb, h1, h2⟩ := I.mod.blt
  exact Calls.Name_function_global I.ok.kind hg (Calls.loadGlobal_builtin (by rw [I.ok.glob]; exact I.mod.glob.keeps I.bk) hm (by rw [I.ok.blt]; exact h1.keeps I.bk) ((h2 x hn).trans hv) h) hd
theorem pe_glob {x : Str} {v : V} {u : Value} {pos : Pos} (hg : Gl X x) (hm : X.mg x = some u) (r : RelV v u) (hd : (x == ("__debug__" : Str)) = false := by decide) : PE X (.Name x pos) (tC v) :=
  fun _ _ _ H _ I h => ld_glob I hg hm ⟨v, H, I, r, h⟩ hd
theorem pe_bltn {x : Str} {v : V} {u : Value} {pos : Pos} (hg : Gl X x) (hm : X.mg x = none) (hv : bootBuiltins x = some u) (r : RelV v u) (hn : x ≠ "__name__" := by decide) (hd : (x == ("__debug__" : Str)) = false := by decide) : PE X (.Name x pos) (tC v) :=
  fun _ _ _ H _ I h => ld_blt I hg hm hv ⟨v, H, I, r, h⟩ hn hd
variable {a b : Expr} {ta tb : TE} {pos : Pos}
def PC (X : Cx) (op : CmpOp) (a b : Expr) (t : TE) : Prop :=
  ∀ (pins : List (Addr × Obj)) (s : Shared) (σ : St) (H : Hp) (Q : VK), Inv X pins σ H s → t σ H Q →
    wpAny (model X.prog X.w) X.A (eval a X.env) (fun v s₁ => wpAny (model X.prog X.w) X.A (eval b X.env) (fun u s₂ => wpAny (model X.prog X.w) X.A (compareOp op v u) (EP X pins σ Q) X.xe s₂) X.xe s₁) X.xe s
def tB (t : TE) : TT := fun σ H Q => t σ H fun x H1 => ∃ c, x = .bl c ∧ Q c H1
theorem pt_cmp {op : CmpOp} {t : TE} (h : PC X op a b t) (h1 : behindInMarks op b = false := by first | exact nobehind _ (by decide) (by decide) | rfl) : PT X (.Compare a [op] [b] pos) (tB t) := by
  intro pins s σ H Q I hw
  refine wpAny_isTrue_Compare1 (thn (h pins s σ H _ I hw) fun v s1 h1 => thn h1 fun u s2 h2 => thn h2 fun c s3 zx1 => ?_) h1
  obtain ⟨x, H1, I1, r1, q1⟩ := zx1
  obtain ⟨d, rfl, q⟩ := q1
  cases r1
  exact wpAny_truthy_bool ⟨H1, I1, q⟩
theorem pt_val {e : Expr} {t : TE} (h : PE X e t) (he : ∀ whole, isTrue e X.env whole = (do let v ← whole; standAt e.pos; holding [v] (truthy v)) := by intro _; rfl) : PT X e (tB t) := by
  intro pins s σ H Q I hw
  refine isTrue_plain (thn (h pins s σ H _ I hw) fun v s1 zx2 => ?_) (he _)
  obtain ⟨x, H1, I1, r1, q1⟩ := zx2
  obtain ⟨d, rfl, q⟩ := q1
  cases r1
  exact wpAny_truthy_bool ⟨H1, I1, q⟩
variable {tA tB' : TT} {rest : List Expr}
def tAnd (t u : TT) : TT := fun σ H Q => t σ H fun c H1 => if c = true then u σ H1 Q else Q false H1
def tOr (t u : TT) : TT := fun σ H Q => t σ H fun c H1 => if c = true then Q true H1 else u σ H1 Q
def tNot (t : TT) : TT := fun σ H Q => t σ H fun c H1 => Q (!c) H1
theorem pw_and1 (ha : PT X a tA) : PW X (.BoolOp .And [a] pos) tA := by
  intro wh pins s σ H Q I h
  refine isTrue_and (thn (ha pins s σ H Q I h) fun c s1 e => ?_)
  cases c with
  | true => exact isTrue_and_nil e
  | false => exact e
theorem pw_or1 (ha : PT X a tA) : PW X (.BoolOp .Or [a] pos) tA := by
  intro wh pins s σ H Q I h
  refine isTrue_or (thn (ha pins s σ H Q I h) fun c s1 e => ?_)
  cases c with
  | false => exact isTrue_or_nil e
  | true => exact e
theorem pw_and (ha : PT X a tA) (hb : PW X (.BoolOp .And (b :: rest) pos) tB') : PW X (.BoolOp .And (a :: b :: rest) pos) (tAnd tA tB') := by
  intro wh pins s σ H Q I h
  refine isTrue_and (thn (ha pins s σ H _ I h) fun c s1 zx3 => ?_)
  obtain ⟨H1, I1, q1⟩ := zx3
  cases c with
  | true => exact hb wh pins s1 σ H1 Q I1 q1
  | false => exact ⟨H1, I1, q1⟩
theorem pw_or (ha : PT X a tA) (hb : PW X (.BoolOp .Or (b :: rest) pos) tB') : PW X (.BoolOp .Or (a :: b :: rest) pos) (tOr tA tB') := by
  intro wh pins s σ H Q I h
  refine isTrue_or (thn (ha pins s σ H _ I h) fun c s1 zx4 => ?_)
  obtain ⟨H1, I1, q1⟩ := zx4
  cases c with
  | true => exact ⟨H1, I1, q1⟩
  | false => exact hb wh pins s1 σ H1 Q I1 q1
theorem pt_not (ha : PT X a tA) : PT X (.UnaryOp .Not a pos) (tNot tA) := by
  intro pins s σ H Q I h
  exact isTrue_not (ha pins s σ H (fun c H1 => Q (!c) H1) I h)
def tAndV (ta tb : TE) : TE := fun σ H Q => ta σ H fun x H1 => ∃ c, x = .bl c ∧ if c = true then tb σ H1 Q else Q (.bl false) H1
def tNotV (ta : TE) : TE := fun σ H Q => ta σ H fun x H1 => ∃ c, x = .bl c ∧ Q (.bl (!c)) H1
theorem pe_one {op} {t : TE} (h : PE X a t) : PE X (.BoolOp op [a] pos) t := fun pins s σ H Q I hw => BoolOp_one (h pins s σ H Q I hw)
theorem pe_and (ha : PE X a ta) (hb : PE X (.BoolOp .And (b :: rest) pos) tb) : PE X (.BoolOp .And (a :: b :: rest) pos) (tAndV ta tb) := by
  intro pins s σ H Q I h
  refine BoolOp_and (thn (ha pins s σ H _ I h) fun v s1 zx5 => ?_)
  obtain ⟨x, H1, I1, r1, q1⟩ := zx5
  obtain ⟨c, rfl, q1⟩ := q1
  cases r1
  refine wpAny_truthy_bool ?_
  cases c with
  | true => exact hb pins s1 σ H1 Q I1 q1
  | false => exact ⟨.bl false, H1, I1, rfl, q1⟩
theorem pe_not (ha : PE X a ta) : PE X (.UnaryOp .Not a pos) (tNotV ta) := by
  intro pins s σ H Q I h
  refine UnaryOp_ (thn (ha pins s σ H _ I h) fun v s1 zx6 => ?_)
  obtain ⟨x, H1, I1, r1, q1⟩ := zx6
  obtain ⟨c, rfl, q1⟩ := q1
  cases r1
  exact not_of (wpAny_truthy_bool ⟨.bl (!c), H1, I1, rfl, q1⟩)
def tIf (t : TT) (ta tb : TE) : TE := fun σ H Q => t σ H fun c H1 => if c = true then ta σ H1 Q else tb σ H1 Q
theorem pe_ifExp {c : Expr} (hc : PT X c tA) (ha : PE X a ta) (hb : PE X b tb) : PE X (.IfExp c a b pos) (tIf tA ta tb) := by
  intro pins s σ H Q I h
  refine wpAny_IfExp (thn (hc pins s σ H _ I h) fun d s1 zx7 => ?_)
  obtain ⟨H1, I1, q1⟩ := zx7
  cases d with
  | true => exact ha pins s1 σ H1 Q I1 q1
  | false => exact hb pins s1 σ H1 Q I1 q1
end
end L2
namespace L2
open PySem PySem.Spec PyProof.Rows
def SqL (K : PySem.W.Frag) (H : Hp) (a : Addr) (xs : List V) : Prop :=
  Rd H a (.lst xs) ∨
    ∃ (o : Obj) (its : Array Value) (n : Nat), K.lookup a = some o ∧ o.cls = .type "list" ∧ o.dict = none ∧ o.data = .seq its n ∧ its.size ≤ sizeLine ∧ Vals xs its.toList
def SqT (K : PySem.W.Frag) (H : Hp) (a : Addr) (xs : List V) : Prop :=
  Rd H a (.tup xs) ∨
    ∃ (o : Obj) (its : Array Value) (n : Nat), K.lookup a = some o ∧ o.cls = .type "tuple" ∧ o.data = .seq its n ∧ its.size ≤ sizeLine ∧ Vals xs its.toList
def absV : Value → Option V
  | .none => some .non
  | .bool b => some (.bl b)
  | .int i _ => some (.int i)
  | .str x _ => some (.str x)
  | .bytes b _ => some (.byt b)
  | .float b _ => some (.flt b)
  | .ref a => some (.ref a)
  | .type n => some (.ty n)
  | _ => none
theorem RelV.abs {x : V} {u : Value} (r : RelV x u) : absV u = some x := by
  cases x with
  | non => cases r; rfl
  | bl _ => cases r; rfl
  | int _ => obtain ⟨t, rfl⟩ := r; rfl
  | str _ => obtain ⟨t, rfl⟩ := r; rfl
  | byt _ => obtain ⟨t, rfl⟩ := r; rfl
  | flt _ => obtain ⟨t, rfl⟩ := r; rfl
  | ref _ => cases r; rfl
  | ty _ => cases r; rfl
theorem RelV.inj {x y : V} {u : Value} (r : RelV x u) (q : RelV y u) : x = y := Option.some.inj (r.abs.symm.trans q.abs)
theorem Vals.inj : ∀ {xs ys : List V} {us : List Value}, Vals xs us → Vals ys us → xs = ys
  | _, _, _, .nil, .nil => rfl
  | _, _, _, .cons r t, .cons r' t' => by rw [r.inj r', Vals.inj t t']
section
variable {X : Cx} {pins : List (Addr × Obj)} {σ : St} {H : Hp} {s : Shared} {a : Addr} {xs ys : List V}
theorem SqL.of {K : PySem.W.Frag} (h : H a = some (.lst xs)) : SqL K H a xs := .inl (.inl h)
theorem SqT.of {K : PySem.W.Frag} (h : H a = some (.tup xs)) : SqT K H a xs := .inl (.inl h)
theorem Inv.list (I : Inv X pins σ H s) (h : SqL X.K H a xs) : ∃ its : List Value, Vals xs its ∧ PlainL s.heap a its.toArray ∧ xs.length ≤ sizeLine := by
  rcases h with h | ⟨o, its, n, hk, hc, hd, hs, hz, r⟩
  · obtain ⟨z, its, n, r, e⟩ := h.ok I.hok
    exact ⟨its, r, ⟨_, n, e, rfl, rfl, rfl⟩, z⟩
  · refine ⟨its.toList, r, ⟨o, n, I.kIn a o hk, hc, hd, by simpa using hs⟩, ?_⟩
    have e := r.length
    simp only [Array.length_toList] at e
    omega
theorem Inv.tuple (I : Inv X pins σ H s) (h : SqT X.K H a xs) : ∃ its : List Value, Vals xs its ∧ IsTup s.heap a its.toArray ∧ xs.length ≤ sizeLine := by
  rcases h with h | ⟨o, its, n, hk, hc, hs, hz, r⟩
  · obtain ⟨z, its, r, p⟩ := h.ok I.hok
    exact ⟨its, r, p, z⟩
  · refine ⟨its.toList, r, ⟨o, I.kIn a o hk, hc, n, by simpa using hs⟩, ?_⟩
    have e := r.length
    simp only [Array.length_toList] at e
    omega
theorem Inv.list_inj (I : Inv X pins σ H s) (h : SqL X.K H a xs) (h' : SqL X.K H a ys) : xs = ys := by
  obtain ⟨its, r, ⟨o, n, e, _, _, d⟩, _⟩ := I.list h
  obtain ⟨its', r', ⟨o', n', e', _, _, d'⟩, _⟩ := I.list h'
  rw [e] at e'; cases e'
  rw [d] at d'
  injection d' with d1 _
  have : its = its' := by simpa using congrArg Array.toList d1
  subst this
  exact r.inj r'
end
abbrev Cx.wish (X : Cx) (E : Value → Shared → Prop) : Cx := { X with xe := E }
abbrev Cx.nox (X : Cx) : Cx := X.wish fun _ _ => False
theorem Cx.Ok.wish {X : Cx} (ok : X.Ok) (E : Value → Shared → Prop) : (X.wish E).Ok :=
  ⟨ok.mod, ok.kind, ok.glob, ok.blt, ok.above, ok.inj, ok.has, ok.cab, ok.hd, ok.frames, ok.stk, ok.exf, ok.bs, ok.bsz, ok.noex, ok.exfs, ok.funs, ok.frf⟩
theorem Cx.Ok.unwish {X : Cx} {E : Value → Shared → Prop} (ok : (X.wish E).Ok) : X.Ok :=
  ⟨ok.mod, ok.kind, ok.glob, ok.blt, ok.above, ok.inj, ok.has, ok.cab, ok.hd, ok.frames, ok.stk, ok.exf, ok.bs, ok.bsz, ok.noex, ok.exfs, ok.funs, ok.frf⟩
section
variable {X : Cx} {pins : List (Addr × Obj)} {σ : St} {H : Hp} {s : Shared} {E : Value → Shared → Prop}
theorem Inv.wish (I : Inv X pins σ H s) (E : Value → Shared → Prop) : Inv (X.wish E) pins σ H s := ⟨I.ok.wish E, I.os, I.bare, I.base, I.loc, I.cell, I.free, I.freeC, I.pin, I.hok, I.len⟩
theorem Inv.unwish (I : Inv (X.wish E) pins σ H s) : Inv X pins σ H s := ⟨I.ok.unwish, I.os, I.bare, I.base, I.loc, I.cell, I.free, I.freeC, I.pin, I.hok, I.len⟩
theorem SP.unwish {D : Ends} {f : Flow} {s' : Shared} (h : SP (X.wish E) pins D f s') : SP X pins D f s' := by
  cases f with
  | next => obtain ⟨σ', H', I, q⟩ := h; exact ⟨σ', H', I.unwish, q⟩
  | brk => obtain ⟨σ', H', I, q⟩ := h; exact ⟨σ', H', I.unwish, q⟩
  | cont => obtain ⟨σ', H', I, q⟩ := h; exact ⟨σ', H', I.unwish, q⟩
  | ret u => obtain ⟨v, σ', H', I, r, q⟩ := h; exact ⟨v, σ', H', I.unwish, r, q⟩
theorem PSs.nox {st : List Stmt} {t : TS} (h : PSs X.nox st t) : PSs X st t := fun pins s σ H D I hw =>
  wpAny_mono (h pins s σ H D (I.wish _) hw) (fun _ _ q => q.unwish) fun _ _ z => False.elim z
end
section
variable {X : Cx} {st : Stmt} {rest : List Stmt} {t u : TS} {e : Expr} {te : TE} {pos : Pos}
def tNext : TS := fun D σ H => D.nx σ H
def tSeq (t u : TS) : TS := fun D σ H => t { D with nx := u D } σ H
theorem pss_nil : PSs X [] tNext := fun _ _ σ H _ I h => wpAny_execs_nil ⟨σ, H, I, h⟩
theorem pss_cons (h1 : PS X st t) (h2 : PSs X rest u) : PSs X (st :: rest) (tSeq t u) := by
  intro pins s σ H D I h
  refine wpAny_execs_cons (thn (h1 pins s σ H { D with nx := u D } I h) fun f s1 q => ?_)
  cases f with
  | next =>
    obtain ⟨σ', H', I', q⟩ := q
    exact h2 pins s1 σ' H' D I' q
  | ret v => exact q
  | brk => exact q
  | cont => exact q
theorem pss_one (h1 : PS X st t) : PSs X [st] t := by
  intro pins s σ H D I h
  refine wpAny_execs_cons (thn (h1 pins s σ H D I h) fun f s1 q => ?_)
  cases f with
  | next => exact wpAny_execs_nil q
  | ret v => exact q
  | brk => exact q
  | cont => exact q
theorem Inv.quiet {pins : List (Addr × Obj)} {σ : St} {H : Hp} {s : Shared} (I : Inv X pins σ H s) : interactive X.env = false := by simp [interactive, I.ok.kind]
def tDrop (te : TE) : TS := fun D σ H => te σ H fun _ H1 => D.nx σ H1
theorem ps_expr (he : PE X e te) (hs : swapsWith e none pos.line X.env = pure false := by rfl) : PS X (.Expr e pos) (tDrop te) := by
  intro pins s σ H D I h
  exact wpAny_Expr_any (thn (he pins s σ H _ I h) fun v s1 zy1 => (by obtain ⟨x, H1, I1, r1, q1⟩ := zy1; exact ⟨σ, H1, I1, q1⟩)) I.quiet hs
def tRet (te : TE) : TS := fun D σ H => te σ H D.rt
theorem ps_ret (he : PE X e te) : PS X (.Return (some e) pos) (tRet te) := by
  intro pins s σ H D I h
  exact wpAny_Return_some (thn (he pins s σ H _ I h) fun v s1 zy2 => (by obtain ⟨x, H1, I1, r1, q1⟩ := zy2; exact ⟨x, σ, H1, I1, r1, q1⟩))
def tIfS (c : TT) (t u : TS) : TS := fun D σ H => c σ H fun b H1 => if b = true then t D σ H1 else u D σ H1
theorem ps_if {c : Expr} {a b : List Stmt} {tc : TT} (hc : PT X c tc) (ha : PSs X a t) (hb : PSs X b u) : PS X (.If c a b pos) (tIfS tc t u) := by
  intro pins s σ H D I h
  refine wpAny_If (thn (hc pins s σ H _ I h) fun d s1 zx8 => ?_)
  obtain ⟨H1, I1, q1⟩ := zx8
  cases d with
  | true => exact ha pins s1 σ H1 D I1 q1
  | false => exact hb pins s1 σ H1 D I1 q1
end
abbrev TG := V → St → Hp → (St → Hp → Prop) → Prop
abbrev TGs := List V → St → Hp → (St → Hp → Prop) → Prop
def PG (X : Cx) (target : Expr) (t : TG) : Prop :=
  ∀ (pins : List (Addr × Obj)) (s : Shared) (σ : St) (H : Hp) (v : V) (u : Value) (Q : St → Hp → Prop), Inv X pins σ H s → RelV v u → t v σ H Q →
    wpAny (model X.prog X.w) X.A (assign target X.env u) (fun _ s' => ∃ σ' H', Inv X pins σ' H' s' ∧ Q σ' H') X.xe s
def PGs (X : Cx) (ts : List Expr) (t : TGs) : Prop :=
  ∀ (pins : List (Addr × Obj)) (s : Shared) (σ : St) (H : Hp) (vs : List V) (us : List Value) (Q : St → Hp → Prop), Inv X pins σ H s → Vals vs us → t vs σ H Q →
    wpAny (model X.prog X.w) X.A (assignInOrder ((assignEach ts X.env).map (·.2)) us) (fun _ s' => ∃ σ' H', Inv X pins σ' H' s' ∧ Q σ' H') X.xe s
abbrev TSet := V → V → V → Hp → (Hp → Prop) → Prop
def PSet (X : Cx) (t : TSet) : Prop :=
  ∀ (pins : List (Addr × Obj)) (s : Shared) (σ : St) (H : Hp) (o i v : V) (ov iv u : Value) (Q : Hp → Prop), Inv X pins σ H s → RelV o ov → RelV i iv → RelV v u → t o i v H Q →
    wpAny (model X.prog X.w) X.A (setItem ov iv u) (fun _ s' => ∃ H', Inv X pins σ H' s' ∧ Q H') X.xe s
section
variable {X : Cx} {pos : Pos}
def gName (i : Nat) : TG := fun v σ H Q => Q (σ.set i (some v)) H
theorem pg_name {i : Nat} {x : Str} (hN : X.N.Nodup) (hi : X.N[i]? = some x) (hx : Loc X.env.scope x) (hf : X.fn x = true ∨ X.env.scope.names.lookup x = some .local := by first | exact .inl rfl | exact .inr rfl | assumption) : PG X (.Name x pos) (gName i) := by
  intro pins s σ H v u Q I r h
  exact wpAny_assign_Name (store_ok I hN hi hx r (fun s' I' => ⟨_, H, I', h⟩) hf)
def gNil : TGs := fun vs σ H Q => vs = [] ∧ Q σ H
def gCons (t : TG) (u : TGs) : TGs := fun vs σ H Q => ∃ v r, vs = v :: r ∧ t v σ H fun σ' H' => u r σ' H' Q
theorem pgs_nil : PGs X [] gNil := by
  intro pins s σ H vs us Q I r h
  obtain ⟨e, h⟩ := h
  subst e
  cases r
  exact assignInOrder_nil ⟨σ, H, I, h⟩
theorem pgs_cons {e : Expr} {es : List Expr} {t : TG} {u : TGs} (h1 : PG X e t) (h2 : PGs X es u)
    (hs : (assignEach (e :: es) X.env).map (·.2) = assign e X.env :: (assignEach es X.env).map (·.2) := by rfl) : PGs X (e :: es) (gCons t u) := by
  intro pins s σ H vs us Q I r h
  obtain ⟨v, vr, e1, h⟩ := h
  subst e1
  cases r with
  | cons r rr =>
    rw [hs]
    refine assignInOrder_cons (thn (h1 pins s σ H _ _ _ I r h) fun _ s1 zx9 => ?_)
    obtain ⟨σ1, H1, I1, q1⟩ := zx9
    exact h2 pins s1 σ1 H1 _ _ Q I1 rr q1
def gTup (K : PySem.W.Frag) (n : Nat) (t : TGs) : TG := fun v σ H Q => ∃ a xs, v = .ref a ∧ SqT K H a xs ∧ xs.length = n ∧ t xs σ H Q
theorem pg_tup {es : List Expr} {k : Nat} {t : TGs} {n : Nat} (hc : X.calm = true) (h : PGs X es t)
    (hn : (assignEach es X.env).length = n := by rfl) (hst : (assignEach es X.env).findIdx? (·.1) = none := by rfl) : PG X (.Tuple es k pos) (gTup X.K n t) := by
  intro pins s σ H v u Q I r hw
  obtain ⟨a, xs, e1, hq, hl, hw⟩ := hw
  subst e1
  cases r
  obtain ⟨its, rv, ht, hz⟩ := I.tuple hq
  refine assign_Tuple_tuple (I.ok.hd hc) ht (by simp [hn, ← hl, rv.length]) hst fun h' hx => ?_
  have I1 : Inv X pins σ H { s with heap := h' } := I.kept (t' := s.toks) fun b o e => hx b o (Nat.ne_of_lt (Heap.lt_size e)) e
  exact h pins _ σ H xs _ Q I1 (by simpa using rv) hw
def gSub (to ti : TE) (t : TSet) : TG := fun v σ H Q => to σ H fun o H1 => ti σ H1 fun i H2 => t o i v H2 fun H3 => Q σ H3
theorem pg_sub {o i : Expr} {to ti : TE} {t : TSet} (ho : PE X o to) (hi : PE X i ti) (hs : PSet X t)
    (ha : ∀ v, assign (.Subscript o i pos) X.env v = (do
      let ov ← holding [v] (eval o X.env)
      let iv ← holding [v, ov] (eval i X.env)
      standAt pos
      holding [v, ov, iv] (setItem ov iv v)
      release [v, ov, iv] []) := by intro _; rfl) : PG X (.Subscript o i pos) (gSub to ti t) := by
  intro pins s σ H v u Q I r h
  rw [ha]
  refine wpAny_bind (wpAny_holding (thn (ho pins s σ H _ I h) fun ov s1 zx10 => ?_))
  obtain ⟨x, H1, I1, r1, q1⟩ := zx10
  refine wpAny_bind (wpAny_holding (thn (hi pins s1 σ H1 _ I1 q1) fun iv s2 zx11 => ?_))
  obtain ⟨y, H2, I2, r2, q2⟩ := zx11
  refine wpAny_bind (wpAny_standAt (wpAny_bind (wpAny_holding (thn (hs pins s2 σ H2 x y v ov iv u _ I2 r1 r2 r q2) fun _ s3 zx12 => ?_))))
  obtain ⟨H3, I3, q3⟩ := zx12
  exact wpAny_release ⟨σ, H3, I3, q3⟩
def tAsg (te : TE) (g : TG) : TS := fun D σ H => te σ H fun x H1 => g x σ H1 D.nx
theorem ps_asg {tg e : Expr} {te : TE} {g : TG} (he : PE X e te) (hg : PG X tg g) (hs : swapsWithSole [tg] e pos.line X.env = pure false := by rfl) (hw : swappedStores [tg] e X.env = pure none := by rfl)
    (h1 : (assignEach [tg] X.env).map (·.2) = [assign tg X.env] := by rfl) : PS X (.Assign [tg] e pos) (tAsg te g) := by
  intro pins s σ H D I h
  refine wpAny_Assign_stores (thn (he pins s σ H _ I h) fun v s1 zx13 => ?_) hs hw
  obtain ⟨x, H1, I1, r1, q1⟩ := zx13
  rw [h1]
  exact thn (hg pins s1 σ H1 x v _ I1 r1 q1) fun _ s2 q => q
theorem ps_set {i : Nat} {x : Str} {e : Expr} {te : TE} {pos' : Pos} (hN : X.N.Nodup) (hi : X.N[i]? = some x) (hx : Loc X.env.scope x) (he : PE X e te) (hs : swapsWith e (some (.Name x pos')) pos.line X.env = pure false := by rfl) (hf : X.fn x = true ∨ X.env.scope.names.lookup x = some .local := by first | exact .inl rfl | exact .inr rfl | assumption) :
    PS X (.Assign [.Name x pos'] e pos) (tAsg te (gName i)) := by
  intro pins s σ H D I h
  refine wpAny_Assign_Name (thn (he pins s σ H _ I h) fun v s1 zx14 => ?_) hs
  obtain ⟨y, H1, I1, r1, q1⟩ := zx14
  exact store_ok I1 hN hi hx r1 (fun s2 I2 => ⟨_, H1, I2, q1⟩) hf
end
section
variable {X : Cx} {pos : Pos}
def tWhile (c : TT) (tb : TS) : TS := fun D σ H => ∃ W : Nat → St → Hp → Prop, (∃ m, W m σ H) ∧ ∀ m σ H, W m σ H →
  c σ H fun b H1 => if b = true then ∃ N : St → Hp → Prop, (∀ σ' H', N σ' H' → ∃ m', m' < m ∧ W m' σ' H') ∧ tb { D with nx := N, ct := N, bk := D.nx } σ H1 else D.nx σ H1
theorem ps_while {c : Expr} {body : List Stmt} {tc : TT} {tb : TS} (hp : PassesOwn (model X.prog X.w) X.A X.env X.xe) (hc : PT X c tc) (hb : PSs X body tb) : PS X (.While c body [] pos) (tWhile tc tb) := by
  intro pins s σ H D I h
  obtain ⟨W, ⟨m0, w0⟩, turn⟩ := h
  refine wpAny_While (codeAny_whileLoop (fun n s' => ∃ σ' H', Inv X pins σ' H' s' ∧ W n σ' H') ?_ m0 ⟨σ, H, I, w0⟩)
  rintro n s1 ⟨σ1, H1, I1, w1⟩
  refine wpAny_passesOwn hp (thn (hc pins s1 σ1 H1 _ I1 (turn n σ1 H1 w1)) fun b s2 zx15 => ?_)
  obtain ⟨H2, I2, q2⟩ := zx15
  cases b with
  | true =>
    obtain ⟨N, hN, q2⟩ := q2
    rw [if_pos rfl]
    refine wpAny_passesOwn hp (thn (hb pins s2 σ1 H2 _ I2 q2) fun f s3 q3 => ?_)
    cases f with
    | next =>
      obtain ⟨σ3, H3, I3, n3⟩ := q3
      obtain ⟨m', hm, w3⟩ := hN σ3 H3 n3
      exact ⟨m', hm, σ3, H3, I3, w3⟩
    | cont =>
      obtain ⟨σ3, H3, I3, n3⟩ := q3
      obtain ⟨m', hm, w3⟩ := hN σ3 H3 n3
      exact ⟨m', hm, σ3, H3, I3, w3⟩
    | brk => exact q3
    | ret v => exact q3
  | false =>
    rw [if_neg Bool.false_ne_true]
    exact wpAny_execs_nil ⟨σ1, H2, I2, q2⟩
end
set_option genInjectivity false in
set_option genSizeOf false in
structure It where
  go : Nat → Hp → Prop
  yld : Nat → Hp → V → Hp → Prop
  stop : Nat → Hp → Prop
def FpOk (X : Cx) (pins : List (Addr × Obj)) (H : Hp) (b : Addr) : Prop :=
  H b = none ∧ b ≠ X.env.locals ∧ b ∉ X.fs ∧ (b ∈ X.ex ∨ X.s₀.heap.objs.size ≤ b) ∧ (∀ x c, X.env.cells.lookup x = some c → c ≠ b) ∧ ∀ p ∈ X.pn ++ pins, p.1 ≠ b
theorem Inv.fpOk {X : Cx} {pins : List (Addr × Obj)} {σ : St} {H H' : Hp} {s : Shared} {b : Addr} (I : Inv X pins σ H s) (hb : s.heap.objs.size ≤ b) (hn : H' b = none) : FpOk X pins H' b := by
  refine ⟨hn, Nat.ne_of_gt (Nat.lt_of_lt_of_le I.lt hb), I.nofs hb, .inr (Nat.le_trans I.sz hb), fun x c e z => ?_, fun p hp z => ?_⟩
  · obtain ⟨v, q⟩ := I.cell x c e
    exact absurd (Nat.lt_of_lt_of_le q.lt (by rw [z]; exact hb)) (Nat.lt_irrefl _)
  · exact absurd (Nat.lt_of_lt_of_le (Heap.lt_size (I.pin p hp).1) (by rw [z]; exact hb)) (Nat.lt_irrefl _)
structure Turn (P : Program) (w : World) (K : PySem.W.Frag) (tg : Expr) (J : It) (fp : List Addr) (it : Addr) (tn : Nat → Heap → Prop) : Prop where
  mem : it ∈ fp
  obj : ∀ i h, tn i h → ∀ b ∈ fp, ∃ o, h.get? b = some o ∧ ∀ v, o.data ≠ .cell v
  keep : ∀ i h h', tn i h → (∀ b ∈ fp, ∀ o, h.get? b = some o → h'.get? b = some o) → tn i h'
  item : ∀ (X : Cx), X.prog = P → X.w = w → X.K = K → X.calm = true → ∀ (i : Nat) (pins : List (Addr × Obj)) (s : Shared) (σ : St) (H : Hp) (E : Value → Shared → Prop), Inv X pins σ H s → (∀ b ∈ fp, FpOk X pins H b) → tn i s.heap → J.go i H →
    wpAny (model P w) X.A (pyNext (.ref it)) (fun r s1 => ∃ u, r = some u ∧
      wpAny (model P w) X.A (letOwnedTupleGo tg (.ref it) u) (fun _ s2 => ∃ x H', Inv X pins σ H' s2 ∧ RelV x u ∧ J.yld i H x H' ∧ tn (i + 1) s2.heap ∧ ∀ b ∈ fp, H' b = none) E s1) E s
  done : ∀ (X : Cx), X.prog = P → X.w = w → X.K = K → X.calm = true → ∀ (i : Nat) (pins : List (Addr × Obj)) (s : Shared) (σ : St) (H : Hp) (E : Value → Shared → Prop), Inv X pins σ H s → (∀ b ∈ fp, FpOk X pins H b) → tn i s.heap → J.stop i H →
    wpAny (model P w) X.A (pyNext (.ref it)) (fun r s1 => r = none ∧ Inv X pins σ H s1) E s
  self : ∀ (A : Around) (i : Nat) (s : Shared) (Q : Value → Shared → Prop) (E : Value → Shared → Prop), tn i s.heap → Q (.ref it) s → wpAny (model P w) A (pyIter (.ref it)) Q E s
abbrev TI := St → Hp → (It → Hp → Prop) → Prop
def PIE (X : Cx) (pins : List (Addr × Obj)) (σ : St) (tg : Expr) (R : It → Hp → Prop) (itv : Value) (s2 : Shared) : Prop :=
  ∃ (it : Addr) (fp : List Addr) (tn : Nat → Heap → Prop) (J : It) (H' : Hp), itv = .ref it ∧ Inv X pins σ H' s2 ∧ Turn X.prog X.w X.K tg J fp it tn ∧ tn 0 s2.heap ∧ (∀ b ∈ fp, FpOk X pins H' b) ∧ R J H'
def PI (X : Cx) (tg iter : Expr) (wi : TI) : Prop :=
  ∀ (pins : List (Addr × Obj)) (s : Shared) (σ : St) (H : Hp) (R : It → Hp → Prop), Inv X pins σ H s → wi σ H R →
    wpAny (model X.prog X.w) X.A (eval iter X.env) (fun v s1 => wpAny (model X.prog X.w) X.A (pyIter v) (PIE X pins σ tg R) X.xe s1) X.xe s
theorem go_of {M : Model} {A : Around} {E : Value → Shared → Prop} {s : Shared} {tg : Expr} {it : Addr} {u : Value} {o : Obj} {n : String} {vs : Array Value} {Q : Unit → Shared → Prop} (ho : s.heap.get? it = some o) (hc : o.cls = .type n) (hd : o.data = .fields vs)
    (hn : ["enumerate", "zip", "dict_itemiterator", "dict_reverseitemiterator", "odict_iterator", "itertools.zip_longest", "itertools.pairwise"].contains n = false) (hQ : Q () s) : wpAny M A (letOwnedTupleGo tg (.ref it) u) Q E s := by
  unfold letOwnedTupleGo
  cases tg <;> first
    | exact wpAny_pure hQ
    | (cases u <;> first
        | exact wpAny_pure hQ
        | (refine wpAny_bind (wpAny_load ho ?_)
           rw [hc, hd]
           show wpAny M A (if (["enumerate", "zip", "dict_itemiterator", "dict_reverseitemiterator", "odict_iterator", "itertools.zip_longest", "itertools.pairwise"].contains n && vs[0]? == some (rawInt _)) = true then _ else _) Q E s
           rw [if_neg (by intro h; rw [hn, Bool.false_and] at h; cases h)]
           exact wpAny_pure hQ))
def Itl (K : PySem.W.Frag) (a : Addr) : It :=
  ⟨fun i H => ∃ xs x, SqL K H a xs ∧ xs[i]? = some x, fun i H x H' => H' = H ∧ ∀ xs, SqL K H a xs → xs[i]? = some x, fun i H => ∃ xs, SqL K H a xs ∧ xs.length ≤ i⟩
def Itr (lo : Int) (n : Nat) : It := ⟨fun i _ => i < n, fun i H x H' => H' = H ∧ x = .int (lo + i), fun i _ => n ≤ i⟩
theorem turn_list {P : Program} {w : World} {K : PySem.W.Frag} {tg : Expr} (a it : Addr) : Turn P w K tg (Itl K a) [it] it (fun i h => h.IsListIter it a i) where
  mem := by simp
  obj := fun i h st b hb => by
    have e : b = it := by simpa using hb
    subst e
    obtain ⟨o, e, c, d⟩ := st
    exact ⟨o, e, fun v z => by rw [d] at z; cases z⟩
  keep := fun i h h' st k => st.at fun o e => k it (by simp) o e
  item := by
    intro X hP hw hK hc i pins s σ H E I hf st hg
    subst hP hw hK
    obtain ⟨xs, x, hq, hx⟩ := hg
    obtain ⟨its, rv, p, hz⟩ := I.list hq
    obtain ⟨u, hu, ru⟩ := rv.get hx
    obtain ⟨f0, f1, f2, f3, f4, f5⟩ := hf it (by simp)
    refine wpAny_pyNext_list_item st p.isList (x := u) (by simpa using hu) fun h' st' sb => ?_
    have I1 : Inv X pins σ H { s with heap := h' } := I.turned (t' := s.toks) (fun b o hb e => (sb.2 b hb).trans e) f0 f1 f3 f4 f5
    obtain ⟨o, e, c, d⟩ := id st'
    exact ⟨u, rfl, go_of (s := { s with heap := h' }) e c d (by decide) ⟨x, H, I1, ru, ⟨rfl, fun ys hy => by rw [I.list_inj hy hq]; exact hx⟩, st', fun b hb => (hf b hb).1⟩⟩
  done := by
    intro X hP hw hK hc i pins s σ H E I hf st hg
    subst hP hw hK
    obtain ⟨xs, hq, hx⟩ := hg
    obtain ⟨its, rv, p, hz⟩ := I.list hq
    obtain ⟨f0, f1, f2, f3, f4, f5⟩ := hf it (by simp)
    have hl := rv.length
    exact wpAny_pyNext_list_end (I.ok.hd hc) st p.isList (by simp; omega) fun h' eb => ⟨rfl, I.turned (t' := s.toks) (fun b o hb e => eb b o hb e) f0 f1 f3 f4 f5⟩
  self := fun _ _ _ _ _ st h => wpAny_pyIter_listiter st h
theorem turn_range {P : Program} {w : World} {K : PySem.W.Frag} {tg : Expr} (it : Addr) (lo : Int) (n : Nat) : Turn P w K tg (Itr lo n) [it] it (fun i h => IsRangeIter h it (lo + (i : Nat) * 1) ((n : Int) - (i : Nat)) 1) where
  mem := by simp
  obj := fun i h st b hb => by
    have e : b = it := by simpa using hb
    subst e
    exact ⟨_, st, fun v z => by
      have z' : Data.fields _ = Data.cell v := z
      cases z'⟩
  keep := fun i h h' st k => k it (by simp) _ st
  item := by
    intro X hP hw hK hc i pins s σ H E I hf st hg
    subst hP hw hK
    obtain ⟨f0, f1, f2, f3, f4, f5⟩ := hf it (by simp)
    have W := Walks.range (prog := X.prog) (w := X.w) (I.ok.hd hc) it lo 1 n
    refine W.item i s _ _ hg st fun v h' tk hv st' kk => ?_
    obtain ⟨t, rfl⟩ := hv
    have I1 : Inv X pins σ H { s with heap := h', toks := tk } := I.turned (fun b o hb e => kk b o (by simpa using hb) e) f0 f1 f3 f4 f5
    refine ⟨_, rfl, go_of (s := { s with heap := h', toks := tk }) (n := "range_iterator") st' rfl rfl (by decide) ⟨.int (lo + i), H, I1, ⟨t, ?_⟩, ⟨rfl, rfl⟩, st', fun b hb => (hf b hb).1⟩⟩
    rw [Int.mul_one]
  done := by
    intro X hP hw hK hc i pins s σ H E I hf st hg
    subst hP hw hK
    obtain ⟨f0, f1, f2, f3, f4, f5⟩ := hf it (by simp)
    exact wpAny_pyNext_range_end (I.ok.hd hc) st (by have : n ≤ i := hg; omega) fun h' eb => ⟨rfl, I.turned (t' := s.toks) (fun b o hb e => eb b o hb e) f0 f1 f3 f4 f5⟩
  self := fun _ _ _ _ _ st h => wpAny_pyIter_rangeiter st h
end L2
namespace L2
open PySem PySem.Spec PyProof.Rows
section
variable {X : Cx} {tg : Expr}
def iList (K : PySem.W.Frag) (tl : TE) : TI := fun σ H R => tl σ H fun x H1 => ∃ a, x = .ref a ∧ (∃ xs, SqL K H1 a xs) ∧ R (Itl K a) H1
theorem pi_list {l : Expr} {tl : TE} (hl : PE X l tl) : PI X tg l (iList X.K tl) := by
  intro pins s σ H R I h
  refine thn (hl pins s σ H _ I h) fun v s1 zx16 => ?_
  obtain ⟨x, H1, I1, r1, q1⟩ := zx16
  obtain ⟨a, e, ⟨xs, hq⟩, q⟩ := q1
  subst e
  cases r1
  obtain ⟨its, rv, p, hz⟩ := I1.list hq
  refine wpAny_pyIter_list p.isList ?_
  refine ⟨s1.heap.objs.size, [s1.heap.objs.size], _, _, H1, rfl, I1.kept (t' := s1.toks) fun b o e => Heap.get?_push_of_some _ e, turn_list a _, ⟨_, Heap.get?_push_size _ rfl, rfl, rfl⟩, fun b hb => ?_, q⟩
  have e : b = s1.heap.objs.size := by simpa using hb
  subst e
  exact I1.fpOk (Nat.le_refl _) (I1.hok.fresh (Nat.le_refl _))
theorem range_it {pins : List (Addr × Obj)} {σ : St} {H : Hp} {s : Shared} {R : It → Hp → Prop} {E : Value → Shared → Prop} {lo hi : Int} {t u v : Tok} {tk : Nat} (I : Inv X pins σ H s) (h1 : -(2 ^ 62) ≤ lo) (h2 : lo < 2 ^ 62) (h3 : -(2 ^ 62) ≤ hi) (h4 : hi < 2 ^ 62)
    (q : R (Itr lo (hi - lo).toNat) H) : wpAny (model X.prog X.w) X.A (pyIter (.ref s.heap.objs.size)) (PIE X pins σ tg R) E { s with heap := s.heap.push { cls := .type "range", data := .fields #[.int lo t, .int hi u, .int 1 v] }, toks := tk } := by
  refine wpAny_pyIter_range (IsRange.new ..) (small_one h1 h2 h3 h4) ?_
  have I1 : Inv X pins σ H { s with heap := s.heap.push { cls := .type "range", data := .fields #[.int lo t, .int hi u, .int 1 v] }, toks := tk } := I.kept fun b o e => Heap.get?_push_of_some _ e
  refine ⟨(s.heap.push { cls := .type "range", data := .fields #[.int lo t, .int hi u, .int 1 v] }).objs.size, [(s.heap.push { cls := .type "range", data := .fields #[.int lo t, .int hi u, .int 1 v] }).objs.size], _, _, H, rfl,
    I1.kept (t' := tk) fun b o e => Heap.get?_push_of_some _ e, turn_range _ lo (hi - lo).toNat, ?_, fun b hb => ?_, q⟩
  · have e1 : lo + ((0 : Nat) : Int) * 1 = lo := by simp
    have e2 : (((hi - lo).toNat : Nat) : Int) - ((0 : Nat) : Int) = Builtin.Range.rangeSize lo hi 1 := by rw [rangeSize_one]; split <;> omega
    show IsRangeIter _ _ (lo + ((0 : Nat) : Int) * 1) ((((hi - lo).toNat : Nat) : Int) - ((0 : Nat) : Int)) 1
    rw [e1, e2]
    exact Heap.get?_push_size _ rfl
  · have e : b = (s.heap.push { cls := .type "range", data := .fields #[.int lo t, .int hi u, .int 1 v] }).objs.size := by simpa using hb
    subst e
    exact I1.fpOk (Nat.le_refl _) (I1.hok.fresh (Nat.le_refl _))
def iRng1 (ta : TA) : TI := fun σ H R => ta σ H fun vs H1 => ∃ j : Int, vs = [.int j] ∧ -(2 ^ 62) ≤ j ∧ j < 2 ^ 62 ∧ R (Itr 0 j.toNat) H1
theorem pi_range1 {a : Expr} {ta : TA} {p pos : Pos} (hg : Gl X "range") (hm : X.mg "range" = none) (ha : PA X [a] ta) (hs : starEach [a] X.env = [(false, eval a X.env)] := by rfl) : PI X tg (.Call (.Name "range" p) [a] [] pos) (iRng1 ta) := by
  intro pins s σ H R I h
  refine Call_ (ld_blt I hg hm boot_range (PyProof.Rows.callWith_type1 (thn (ha pos pins s σ H _ I h) fun us s1 zx17 => ?_) hs rfl))
  obtain ⟨vs, H1, I1, r1, q1⟩ := zx17
  obtain ⟨j, e, q1, q2, q⟩ := q1
  subst e
  cases r1 with
  | cons r rr =>
    cases rr
    obtain ⟨t, rfl⟩ := r
    exact call_range_1 (range_it I1 (by omega) (by omega) q1 q2 (by simpa using q))
def tFor (wi : TI) (g : TG) (tb : TS) : TS := fun D σ H => wi σ H fun J H1 => ∃ W : Nat → Nat → St → Hp → Prop, (∃ m, W 0 m σ H1) ∧ ∀ i m σ H, W i m σ H →
  (J.stop i H ∧ D.nx σ H) ∨ (J.go i H ∧ ∃ N : St → Hp → Prop, (∀ σ' H', N σ' H' → ∃ m', m' < m ∧ W (i + 1) m' σ' H') ∧ ∀ x H', J.yld i H x H' → g x σ H' fun σ2 H2 => tb { D with nx := N, ct := N, bk := D.nx } σ2 H2)
def pinsAt (fp : List Addr) (h : Heap) : List (Addr × Obj) := fp.filterMap fun b => (h.get? b).map fun o => (b, o)
theorem mem_pinsAt {fp : List Addr} {h : Heap} {b : Addr} {o : Obj} (hb : b ∈ fp) (e : h.get? b = some o) : (b, o) ∈ pinsAt fp h := List.mem_filterMap.mpr ⟨b, hb, by rw [e]; rfl⟩
theorem of_pinsAt {fp : List Addr} {h : Heap} {p : Addr × Obj} (hp : p ∈ pinsAt fp h) : p.1 ∈ fp ∧ h.get? p.1 = some p.2 := by
  obtain ⟨b, hb, e⟩ := List.mem_filterMap.mp hp
  cases q : h.get? b with
  | none => rw [q] at e; cases e
  | some o =>
    rw [q] at e
    have e' : (b, o) = p := Option.some.inj e
    subst e'
    exact ⟨hb, q⟩
theorem Inv.pinned {pins : List (Addr × Obj)} {σ : St} {H : Hp} {s : Shared} {fp : List Addr} (I : Inv X pins σ H s) (hf : ∀ b ∈ fp, FpOk X pins H b) (ho : ∀ b ∈ fp, ∃ o, s.heap.get? b = some o ∧ ∀ v, o.data ≠ .cell v) : Inv X (pins ++ pinsAt fp s.heap) σ H s :=
  I.pins_of fun p hp => (List.mem_append.mp hp).elim (fun z => I.pin p (List.mem_append_right _ z)) fun z => by
    obtain ⟨hb, e⟩ := of_pinsAt z
    obtain ⟨f0, f1, f2, _⟩ := hf p.1 hb
    obtain ⟨o, e', d⟩ := ho p.1 hb
    rw [e] at e'; cases e'
    exact ⟨e, f0, f1, f2, d⟩
theorem Inv.unpinned {pins pl : List (Addr × Obj)} {σ : St} {H : Hp} {s : Shared} (I : Inv X (pins ++ pl) σ H s) : Inv X pins σ H s := I.pins_of fun p hp => I.pin p (List.mem_append_right _ (List.mem_append_left _ hp))
theorem ps_for {iter : Expr} {body : List Stmt} {wi : TI} {g : TG} {tb : TS} {pos : Pos} (hp : PassesOwn (model X.prog X.w) X.A X.env X.xe) (hc : X.calm = true) (hi : PI X tg iter wi) (hg : PG X tg g) (hb : PSs X body tb)
    (hs : ∀ x, foldedSetIterable iter X.env x = pure x := by intro _; rfl) : PS X (.For tg iter body [] pos) (tFor wi g tb) := by
  intro pins s σ H D I h
  refine wpAny_For (thn (hi pins s σ H _ I h) fun v s1 h1 => thn h1 fun itv s2 h2 => ?_) hs
  obtain ⟨it, fp, tn, J, H2, e, I2, T, st2, f2, W, ⟨m0, w0⟩, turn⟩ := h2
  subst e
  -- what stays true of the iterator's objects through the loop
  have stat : ∀ {H' : Hp}, (∀ b ∈ fp, H' b = none) → ∀ b ∈ fp, FpOk X pins H' b := fun hn b hb => ⟨hn b hb, (f2 b hb).2⟩
  refine codeAny_forLoop_any (fun n s' => ∃ i σ' H', Inv X pins σ' H' s' ∧ tn i s'.heap ∧ (∀ b ∈ fp, H' b = none) ∧ W i n σ' H') ?_ m0 ⟨0, σ, H2, I2, st2, fun b hb => (f2 b hb).1, w0⟩
  rintro n s3 ⟨i, σ3, H3, I3, st3, fr3, w3⟩
  rcases turn i n σ3 H3 w3 with ⟨stop, qn⟩ | ⟨go, N, hN, step⟩
  · refine wpAny_passesOwn hp (thn (T.done X rfl rfl rfl hc i pins s3 σ3 H3 X.xe I3 (stat fr3) st3 stop) fun r s4 zx18 => ?_)
    obtain ⟨hr, I4⟩ := zx18
    subst hr
    exact wpAny_execs_nil ⟨σ3, H3, I4, qn⟩
  · refine wpAny_passesOwn hp (thn (T.item X rfl rfl rfl hc i pins s3 σ3 H3 X.xe I3 (stat fr3) st3 go) fun r s4 zx19 => ?_)
    obtain ⟨u, hr, h4⟩ := zx19
    subst hr
    refine wpAny_passesOwn hp (thn h4 fun _ s5 zx20 => ?_)
    obtain ⟨x, H5, I5, r5, y5, st5, fr5⟩ := zx20
    have I5' := I5.pinned (stat fr5) (T.obj _ _ st5)
    refine wpAny_passesOwn hp (thn (hg _ s5 σ3 H5 x u _ I5' r5 (step x H5 y5)) fun _ s6 zx21 => ?_)
    obtain ⟨σ6, H6, I6, q6⟩ := zx21
    refine wpAny_passesOwn hp (thn (hb _ s6 σ6 H6 _ I6 q6) fun f s7 q7 => ?_)
    have again : ∀ {σ7 : St} {H7 : Hp}, Inv X (pins ++ pinsAt fp s5.heap) σ7 H7 s7 → N σ7 H7 → ∃ m, m < n ∧ ∃ i σ' H', Inv X pins σ' H' s7 ∧ tn i s7.heap ∧ (∀ b ∈ fp, H' b = none) ∧ W i m σ' H' := fun {σ7 H7} I7 n7 => by
      obtain ⟨m', hm, w7⟩ := hN σ7 H7 n7
      refine ⟨m', hm, i + 1, σ7, H7, I7.unpinned, T.keep _ _ _ st5 fun b hb o e => (I7.pin (b, o) (List.mem_append_right _ (List.mem_append_right _ (mem_pinsAt hb e)))).1, fun b hb => ?_, w7⟩
      obtain ⟨o, e, d⟩ := T.obj _ _ st5 b hb
      exact (I7.pin (b, o) (List.mem_append_right _ (List.mem_append_right _ (mem_pinsAt hb e)))).2.1
    cases f with
    | next => obtain ⟨σ7, H7, I7, n7⟩ := q7; exact again I7 n7
    | cont => obtain ⟨σ7, H7, I7, n7⟩ := q7; exact again I7 n7
    | brk => obtain ⟨σ7, H7, I7, q7⟩ := q7; exact ⟨σ7, H7, I7.unpinned, q7⟩
    | ret v => obtain ⟨x7, σ7, H7, I7, r7, q7⟩ := q7; exact ⟨x7, σ7, H7, I7.unpinned, r7, q7⟩
end
theorem for_list {K : PySem.W.Frag} {a : Addr} {xs : List V} {g : TG} {tb : TS} {D : Ends} {σ : St} {H : Hp} (Pv : Nat → St → Hp → Prop) (h0 : Pv 0 σ H) (hl : ∀ i σ H, i ≤ xs.length → Pv i σ H → SqL K H a xs)
    (hs : ∀ i x σ H, xs[i]? = some x → Pv i σ H → g x σ H fun σ2 H2 => tb { D with nx := Pv (i + 1), ct := Pv (i + 1), bk := D.nx } σ2 H2) (hd : ∀ σ H, Pv xs.length σ H → D.nx σ H) :
    ∃ W : Nat → Nat → St → Hp → Prop, (∃ m, W 0 m σ H) ∧ ∀ i m σ H, W i m σ H →
      ((Itl K a).stop i H ∧ D.nx σ H) ∨ ((Itl K a).go i H ∧ ∃ N : St → Hp → Prop, (∀ σ' H', N σ' H' → ∃ m', m' < m ∧ W (i + 1) m' σ' H') ∧ ∀ x H', (Itl K a).yld i H x H' → g x σ H' fun σ2 H2 => tb { D with nx := N, ct := N, bk := D.nx } σ2 H2) := by
  refine ⟨fun i m σ H => m = xs.length - i ∧ i ≤ xs.length ∧ Pv i σ H, ⟨xs.length, by simp, Nat.zero_le _, h0⟩, ?_⟩
  rintro i m σ H ⟨rfl, hi, p⟩
  have q := hl i σ H hi p
  by_cases hlt : i < xs.length
  · refine .inr ⟨⟨xs, xs[i], q, by simp [hlt]⟩, Pv (i + 1), fun σ' H' p' => ⟨xs.length - (i + 1), by omega, rfl, hlt, p'⟩, fun x H' y => ?_⟩
    obtain ⟨e, y⟩ := y
    subst e
    exact hs i x σ _ (y xs q) p
  · have e : i = xs.length := by omega
    subst e
    exact .inl ⟨⟨xs, q, Nat.le_refl _⟩, hd σ H p⟩
theorem for_range {lo : Int} {n : Nat} {g : TG} {tb : TS} {D : Ends} {σ : St} {H : Hp} (Pv : Nat → St → Hp → Prop) (h0 : Pv 0 σ H)
    (hs : ∀ i σ H, i < n → Pv i σ H → g (.int (lo + i)) σ H fun σ2 H2 => tb { D with nx := Pv (i + 1), ct := Pv (i + 1), bk := D.nx } σ2 H2) (hd : ∀ σ H, Pv n σ H → D.nx σ H) :
    ∃ W : Nat → Nat → St → Hp → Prop, (∃ m, W 0 m σ H) ∧ ∀ i m σ H, W i m σ H →
      ((Itr lo n).stop i H ∧ D.nx σ H) ∨ ((Itr lo n).go i H ∧ ∃ N : St → Hp → Prop, (∀ σ' H', N σ' H' → ∃ m', m' < m ∧ W (i + 1) m' σ' H') ∧ ∀ x H', (Itr lo n).yld i H x H' → g x σ H' fun σ2 H2 => tb { D with nx := N, ct := N, bk := D.nx } σ2 H2) := by
  refine ⟨fun i m σ H => m = n - i ∧ i ≤ n ∧ Pv i σ H, ⟨n, by simp, Nat.zero_le _, h0⟩, ?_⟩
  rintro i m σ H ⟨rfl, hi, p⟩
  by_cases hlt : i < n
  · refine .inr ⟨hlt, Pv (i + 1), fun σ' H' p' => ⟨n - (i + 1), by omega, rfl, hlt, p'⟩, fun x H' y => ?_⟩
    obtain ⟨e, y⟩ := y
    subst e y
    exact hs i σ _ hlt p
  · have e : i = n := by omega
    subst e
    exact .inl ⟨Nat.le_refl _, hd σ H p⟩
end L2
namespace L2
open PySem PySem.Spec PyProof.Rows
abbrev R2 := V → V → Hp → VK → Prop
def OpR (X : Cx) (f : Value → Value → Sem Value) (r : R2) : Prop :=
  ∀ (pins : List (Addr × Obj)) (s : Shared) (σ : St) (H : Hp) (x y : V) (v u : Value) (Q : VK), Inv X pins σ H s → RelV x v → RelV y u → r x y H Q →
    wpAny (model X.prog X.w) X.A (f v u) (EP X pins σ Q) X.xe s
def UnR (X : Cx) (f : Value → Sem Value) (r : V → Hp → VK → Prop) : Prop :=
  ∀ (pins : List (Addr × Obj)) (s : Shared) (σ : St) (H : Hp) (x : V) (v : Value) (Q : VK), Inv X pins σ H s → RelV x v → r x H Q →
    wpAny (model X.prog X.w) X.A (f v) (EP X pins σ Q) X.xe s
def CallR (X : Cx) (f : Value) (r : List V → Hp → VK → Prop) : Prop :=
  ∀ (pins : List (Addr × Obj)) (s : Shared) (σ : St) (H : Hp) (xs : List V) (us : List Value) (Q : VK), Inv X pins σ H s → Vals xs us → r xs H Q →
    wpAny (model X.prog X.w) X.A (call f us) (EP X pins σ Q) X.xe s
def TruR (X : Cx) (r : V → Hp → (Bool → Hp → Prop) → Prop) : Prop :=
  ∀ (pins : List (Addr × Obj)) (s : Shared) (σ : St) (H : Hp) (x : V) (v : Value) (Q : Bool → Hp → Prop), Inv X pins σ H s → RelV x v → r x H Q →
    wpAny (model X.prog X.w) X.A (truthy v) (TP X pins σ Q) X.xe s
def tOp (r : R2) (ta tb : TE) : TE := fun σ H Q => ta σ H fun x H1 => tb σ H1 fun y H2 => r x y H2 Q
def tUn (r : V → Hp → VK → Prop) (ta : TE) : TE := fun σ H Q => ta σ H fun x H1 => r x H1 Q
def rI (C : Int → Int → Prop) (g : Int → Int → V) : R2 := fun x y H Q => ∃ i j, x = .int i ∧ y = .int j ∧ C i j ∧ Q (g i j) H
def rI0 (g : Int → Int → V) : R2 := fun x y H Q => ∃ i j, x = .int i ∧ y = .int j ∧ Q (g i j) H
def rU (g : Int → V) : V → Hp → VK → Prop := fun x H Q => ∃ i, x = .int i ∧ Q (g i) H
section
variable {X : Cx} {a b c : Expr} {ta tb tc : TE} {pos : Pos}
theorem binT (ha : PE X a ta) (hb : PE X b tb) {pins : List (Addr × Obj)} {s : Shared} {σ : St} {H : Hp} {R : V → V → Hp → Prop} (I : Inv X pins σ H s)
    (h : ta σ H fun x H1 => tb σ H1 fun y H2 => R x y H2) {Q : Value → Shared → Prop} {f : Value → Value → Sem Value}
    (hf : ∀ v u s2 x y H2, Inv X pins σ H2 s2 → RelV x v → RelV y u → R x y H2 → wpAny (model X.prog X.w) X.A (f v u) Q X.xe s2) :
    wpAny (model X.prog X.w) X.A (eval a X.env) (fun v s₁ => wpAny (model X.prog X.w) X.A (eval b X.env) (fun u s₂ => wpAny (model X.prog X.w) X.A (f v u) Q X.xe s₂) X.xe s₁) X.xe s := by
  refine thn (ha pins s σ H _ I h) fun v s1 zx22 => ?_
  obtain ⟨x, H1, I1, r1, q1⟩ := zx22
  refine thn (hb pins s1 σ H1 _ I1 q1) fun u s2 zx23 => ?_
  obtain ⟨y, H2, I2, r2, q2⟩ := zx23
  exact hf v u s2 x y H2 I2 r1 r2 q2
theorem pe_op {op : Operator} {r : R2} (ho : OpR X (binaryOp op) r) (ha : PE X a ta) (hb : PE X b tb) : PE X (.BinOp a op b pos) (tOp r ta tb) := by
  intro pins s σ H Q I h
  exact wpAny_BinOp (binT ha hb I h fun v u s2 x y H2 I2 rx ry q => ho pins s2 σ H2 x y v u Q I2 rx ry q)
theorem pe_un {op : UnaryOp} {r : V → Hp → VK → Prop} (ho : UnR X (unaryOp op) r) (ha : PE X a ta) : PE X (.UnaryOp op a pos) (tUn r ta) := by
  intro pins s σ H Q I h
  exact UnaryOp_ (thn (ha pins s σ H _ I h) fun v s1 zy3 => (by obtain ⟨x, H1, I1, r1, q1⟩ := zy3; exact ho pins s1 σ H1 x v Q I1 r1 q1))
theorem opI {f : Value → Value → Sem Value} {C : Int → Int → Prop} {g : Int → Int → Int}
    (rule : ∀ (i j : Int) (t u : Tok) (s : Shared) (Q : Value → Shared → Prop) (E : Value → Shared → Prop), C i j → Q (.int (g i j) s.toks) { s with toks := s.toks + 1 } → wpAny (model X.prog X.w) X.A (f (.int i t) (.int j u)) Q E s) :
    OpR X f (rI C fun i j => .int (g i j)) := by
  intro pins s σ H x y v u Q I rx ry h
  obtain ⟨i, j, rfl, rfl, hc, q⟩ := h
  obtain ⟨t, rfl⟩ := rx
  obtain ⟨t', rfl⟩ := ry
  exact rule i j t t' s _ _ hc ⟨.int (g i j), H, I.tok _, ⟨_, rfl⟩, q⟩
theorem opI0 {f : Value → Value → Sem Value} {g : Int → Int → Int}
    (rule : ∀ (i j : Int) (t u : Tok) (s : Shared) (Q : Value → Shared → Prop) (E : Value → Shared → Prop), Q (.int (g i j) s.toks) { s with toks := s.toks + 1 } → wpAny (model X.prog X.w) X.A (f (.int i t) (.int j u)) Q E s) :
    OpR X f (rI0 fun i j => .int (g i j)) := by
  intro pins s σ H x y v u Q I rx ry h
  obtain ⟨i, j, rfl, rfl, q⟩ := h
  obtain ⟨t, rfl⟩ := rx
  obtain ⟨t', rfl⟩ := ry
  exact rule i j t t' s _ _ ⟨.int (g i j), H, I.tok _, ⟨_, rfl⟩, q⟩
theorem opB0 {f : Value → Value → Sem Value} {g : Int → Int → Bool}
    (rule : ∀ (i j : Int) (t u : Tok) (s : Shared) (Q : Value → Shared → Prop) (E : Value → Shared → Prop), Q (.bool (g i j)) s → wpAny (model X.prog X.w) X.A (f (.int i t) (.int j u)) Q E s) :
    OpR X f (rI0 fun i j => .bl (g i j)) := by
  intro pins s σ H x y v u Q I rx ry h
  obtain ⟨i, j, rfl, rfl, q⟩ := h
  obtain ⟨t, rfl⟩ := rx
  obtain ⟨t', rfl⟩ := ry
  exact rule i j t t' s _ _ ⟨.bl (g i j), H, I, rfl, q⟩
def CMul (i j : Int) : Prop := (-(2 ^ 64) < i ∧ i < 2 ^ 64) ∨ (-(2 ^ 64) < j ∧ j < 2 ^ 64)
theorem CMul.ok {i j : Int} (h : CMul i j) : IntMulOk i j := by
  rcases h with ⟨h1, h2⟩ | ⟨h1, h2⟩
  · exact .of_left (intBits_le_64 h1 h2)
  · exact .of_right (intBits_le_64 h1 h2)
theorem op_add : OpR X (binaryOp .Add) (rI0 fun i j => .int (i + j)) := opI0 fun _ _ _ _ _ _ _ q => add_int q
theorem op_sub : OpR X (binaryOp .Sub) (rI0 fun i j => .int (i - j)) := opI0 fun _ _ _ _ _ _ _ q => sub_int q
theorem op_mul : OpR X (binaryOp .Mult) (rI CMul fun i j => .int (i * j)) := opI fun _ _ _ _ _ _ _ hc q => mul_int q hc.ok
theorem op_mod : OpR X (binaryOp .Mod) (rI (fun _ j => 0 < j) fun i j => .int (i % j)) := opI fun i j _ _ _ _ _ hc q => by
  have h1 : (0 : Int) < j := hc
  exact mod_int' (by omega) (by rw [Int.fmod_eq_emod_of_nonneg i (by omega)]; exact q)
theorem unI {f : Value → Sem Value} {g : Int → Int}
    (rule : ∀ (i : Int) (t : Tok) (s : Shared) (Q : Value → Shared → Prop) (E : Value → Shared → Prop), Q (.int (g i) s.toks) { s with toks := s.toks + 1 } → wpAny (model X.prog X.w) X.A (f (.int i t)) Q E s) :
    UnR X f (rU fun i => .int (g i)) := by
  intro pins s σ H x v Q I rx h
  obtain ⟨i, rfl, q⟩ := h
  obtain ⟨t, rfl⟩ := rx
  exact rule i t s _ _ ⟨.int (g i), H, I.tok _, ⟨_, rfl⟩, q⟩
theorem un_neg : UnR X (unaryOp .USub) (rU fun i => .int (-i)) := unI fun _ _ _ _ _ q => neg_int q
end
def scal : V → V → Bool
  | .non, .non => true | .non, .int _ => true | .int _, .non => true | .non, .bl _ => true | .bl _, .non => true | .non, .str _ => true | .str _, .non => true
  | .int _, .int _ => true | .bl _, .bl _ => true | .str _, .str _ => true | .byt _, .byt _ => true
  | .int _, .str _ => true | .str _, .int _ => true | .bl _, .str _ => true | .str _, .bl _ => true
  | _, _ => false
def rEq : R2 := fun x y H Q => scal x y = true ∧ Q (.bl (decide (x = y))) H
def rNe : R2 := fun x y H Q => scal x y = true ∧ Q (.bl (!decide (x = y))) H
theorem dec_int {i j : Int} : decide (V.int i = V.int j) = (i == j) := by
  rw [Bool.eq_iff_iff]
  simp
theorem dec_bl {i j : Bool} : decide (V.bl i = V.bl j) = (i == j) := by
  rw [Bool.eq_iff_iff]
  simp
theorem dec_str {i j : Str} : decide (V.str i = V.str j) = (i == j) := by
  rw [Bool.eq_iff_iff]
  simp
theorem dec_byt {i j : Array UInt8} : decide (V.byt i = V.byt j) = (i.toList == j.toList) := by
  rw [Bool.eq_iff_iff]
  cases i
  cases j
  simp
section
variable {X : Cx} {a b c : Expr} {ta tb tc : TE} {pos : Pos}
theorem fin_bl {pins : List (Addr × Obj)} {σ : St} {H : Hp} {s : Shared} {Q : VK} {k k' : Bool} (I : Inv X pins σ H s) (q : Q (.bl k) H) (e : k = k') : EP X pins σ Q (.bool k') s := by
  subst e
  exact ⟨.bl k, H, I, rfl, q⟩
theorem op_eq : OpR X (compareOp .Eq) rEq := by
  intro pins s σ H x y v u Q I rx ry h
  obtain ⟨hs, q⟩ := h
  cases x with
  | non =>
    cases rx
    cases y with
    | non => cases ry; exact PySem.EqNone.eq_none_none (fin_bl I q (by simp))
    | bl j => cases ry; exact PySem.EqNone.eq_none_bool (fin_bl I q (by simp))
    | int j => obtain ⟨t', rfl⟩ := ry; exact PySem.EqNone.eq_none_int (fin_bl I q (by simp))
    | str j => obtain ⟨t', rfl⟩ := ry; exact PySem.EqNone.eq_none_str (fin_bl I q (by simp))
    | _ => exact absurd (show false = true from hs) Bool.false_ne_true
  | bl i =>
    cases rx
    cases y with
    | non => cases ry; exact PySem.EqNone.eq_bool_none (fin_bl I q (by simp))
    | bl j => cases ry; exact eq_bool (fin_bl I q dec_bl)
    | str j => obtain ⟨t', rfl⟩ := ry; exact PySem.EqMixed.eq_bool_str (fin_bl I q (by simp))
    | _ => exact absurd (show false = true from hs) Bool.false_ne_true
  | int i =>
    obtain ⟨t, rfl⟩ := rx
    cases y with
    | non => cases ry; exact PySem.EqNone.eq_int_none (fin_bl I q (by simp))
    | int j => obtain ⟨t', rfl⟩ := ry; exact eq_int (fin_bl I q dec_int)
    | str j => obtain ⟨t', rfl⟩ := ry; exact PySem.EqMixed.eq_int_str (fin_bl I q (by simp))
    | _ => exact absurd (show false = true from hs) Bool.false_ne_true
  | str i =>
    obtain ⟨t, rfl⟩ := rx
    cases y with
    | non => cases ry; exact PySem.EqNone.eq_str_none (fin_bl I q (by simp))
    | bl j => cases ry; exact PySem.EqMixed.eq_str_bool (fin_bl I q (by simp))
    | int j => obtain ⟨t', rfl⟩ := ry; exact PySem.EqMixed.eq_str_int (fin_bl I q (by simp))
    | str j => obtain ⟨t', rfl⟩ := ry; exact eq_str (fin_bl I q dec_str)
    | _ => exact absurd (show false = true from hs) Bool.false_ne_true
  | byt i =>
    obtain ⟨t, rfl⟩ := rx
    cases y with
    | byt j => obtain ⟨t', rfl⟩ := ry; exact PySem.W.eq_bytes (fin_bl I q dec_byt)
    | _ => exact absurd (show false = true from hs) Bool.false_ne_true
  | _ => cases y <;> exact absurd (show false = true from hs) Bool.false_ne_true
theorem op_ne : OpR X (compareOp .NotEq) rNe := by
  intro pins s σ H x y v u Q I rx ry h
  obtain ⟨hs, q⟩ := h
  cases x with
  | non =>
    cases rx
    cases y with
    | non => cases ry; exact PySem.EqNone.ne_none_none (fin_bl I q (by simp))
    | bl j => cases ry; exact PySem.EqNone.ne_none_bool (fin_bl I q (by simp))
    | int j => obtain ⟨t', rfl⟩ := ry; exact PySem.EqNone.ne_none_int (fin_bl I q (by simp))
    | str j => obtain ⟨t', rfl⟩ := ry; exact PySem.EqNone.ne_none_str (fin_bl I q (by simp))
    | _ => exact absurd (show false = true from hs) Bool.false_ne_true
  | bl i =>
    cases rx
    cases y with
    | non => cases ry; exact PySem.EqNone.ne_bool_none (fin_bl I q (by simp))
    | bl j => cases ry; exact ne_bool (fin_bl I q (congrArg not dec_bl))
    | str j => obtain ⟨t', rfl⟩ := ry; exact PySem.EqMixed.ne_bool_str (fin_bl I q (by simp))
    | _ => exact absurd (show false = true from hs) Bool.false_ne_true
  | int i =>
    obtain ⟨t, rfl⟩ := rx
    cases y with
    | non => cases ry; exact PySem.EqNone.ne_int_none (fin_bl I q (by simp))
    | int j => obtain ⟨t', rfl⟩ := ry; exact ne_int (fin_bl I q (congrArg not dec_int))
    | str j => obtain ⟨t', rfl⟩ := ry; exact PySem.EqMixed.ne_int_str (fin_bl I q (by simp))
    | _ => exact absurd (show false = true from hs) Bool.false_ne_true
  | str i =>
    obtain ⟨t, rfl⟩ := rx
    cases y with
    | non => cases ry; exact PySem.EqNone.ne_str_none (fin_bl I q (by simp))
    | bl j => cases ry; exact PySem.EqMixed.ne_str_bool (fin_bl I q (by simp))
    | int j => obtain ⟨t', rfl⟩ := ry; exact PySem.EqMixed.ne_str_int (fin_bl I q (by simp))
    | str j => obtain ⟨t', rfl⟩ := ry; exact ne_str (fin_bl I q (congrArg not dec_str))
    | _ => exact absurd (show false = true from hs) Bool.false_ne_true
  | byt i =>
    obtain ⟨t, rfl⟩ := rx
    cases y with
    | byt j => obtain ⟨t', rfl⟩ := ry; exact PySem.W.ne_bytes (fin_bl I q (congrArg not dec_byt))
    | _ => exact absurd (show false = true from hs) Bool.false_ne_true
  | _ => cases y <;> exact absurd (show false = true from hs) Bool.false_ne_true
theorem op_lt : OpR X (compareOp .Lt) (rI0 fun i j => .bl (decide (i < j))) := opB0 fun _ _ _ _ _ _ _ q => lt_int q
theorem op_le : OpR X (compareOp .LtE) (rI0 fun i j => .bl (decide (i ≤ j))) := opB0 fun _ _ _ _ _ _ _ q => le_int q
theorem op_gt : OpR X (compareOp .Gt) (rI0 fun i j => .bl (decide (j < i))) := opB0 fun _ _ _ _ _ _ _ q => gt_int q
theorem op_isN : OpR X (compareOp .Is) (fun x y H Q => y = .non ∧ Q (.bl (decide (x = .non))) H) := by
  intro pins s σ H x y v u Q I rx ry h
  obtain ⟨rfl, q⟩ := h
  cases ry
  refine is_none_gen (fin_bl I q ?_)
  cases x <;> first
    | (cases rx; rfl)
    | (obtain ⟨t, rfl⟩ := rx; rfl)
theorem op_notN : OpR X (compareOp .IsNot) (fun x y H Q => y = .non ∧ Q (.bl (!decide (x = .non))) H) := by
  intro pins s σ H x y v u Q I rx ry h
  obtain ⟨rfl, q⟩ := h
  cases ry
  refine isnot_none_gen (fin_bl I q ?_)
  cases x <;> first
    | (cases rx; rfl)
    | (obtain ⟨t, rfl⟩ := rx; rfl)
theorem OpR.or {f : Value → Value → Sem Value} {r r' : R2} (h : OpR X f r) (h' : OpR X f r') : OpR X f (fun x y H Q => r x y H Q ∨ r' x y H Q) := by
  intro pins s σ H x y v u Q I rx ry q
  rcases q with q | q
  · exact h pins s σ H x y v u Q I rx ry q
  · exact h' pins s σ H x y v u Q I rx ry q
theorem nomark (b : Expr) {op : CmpOp} (h : op ≠ .In := by decide) (h2 : op ≠ .NotIn := by decide) : behindInMarks op b = false := by
  have e1 : (op == CmpOp.In) = false := by cases op <;> first | rfl | exact absurd rfl h
  have e2 : (op == CmpOp.NotIn) = false := by cases op <;> first | rfl | exact absurd rfl h2
  cases b <;> simp [behindInMarks, e1, e2]
theorem pe_cmpR {op : CmpOp} {r : R2} (ho : OpR X (compareOp op) r) (ha : PE X a ta) (hb : PE X b tb) (hm : behindInMarks op b = false) : PE X (.Compare a [op] [b] pos) (tOp r ta tb) := by
  intro pins s σ H Q I h
  exact wpAny_Compare1 (binT ha hb I h fun v u s2 x y H2 I2 rx ry q => ho pins s2 σ H2 x y v u Q I2 rx ry q) hm
def tTest (t : TE) : TT := fun σ H Q => t σ H fun x H' => ∃ k, x = .bl k ∧ Q k H'
theorem pt_cmpR {op : CmpOp} {r : R2} (ho : OpR X (compareOp op) r) (ha : PE X a ta) (hb : PE X b tb) (hm : behindInMarks op b = false) : PT X (.Compare a [op] [b] pos) (tTest (tOp r ta tb)) := by
  intro pins s σ H Q I h
  refine wpAny_isTrue_Compare1 (thn (ha pins s σ H _ I h) fun v s1 ⟨x, H1, I1, r1, q1⟩ => thn (hb pins s1 σ H1 _ I1 q1) fun u s2 ⟨y, H2, I2, r2, q2⟩ =>
    thn (ho pins s2 σ H2 x y v u _ I2 r1 r2 q2) fun c s3 ⟨z, H3, I3, r3, k, e, q3⟩ => ?_) hm
  subst e
  cases r3
  exact wpAny_truthy_bool ⟨H3, I3, q3⟩
def tChain (r r' : R2) (ta tb tc : TE) : TE := fun σ H Q => ta σ H fun x H1 => tb σ H1 fun y H2 => r x y H2 fun z H3 => ∃ k, z = .bl k ∧
  (if k = true then tc σ H3 fun w' H4 => r' y w' H4 Q else Q (.bl false) H3)
theorem pe_chain {op op' : CmpOp} {r r' : R2} (ho : OpR X (compareOp op) r) (ho' : OpR X (compareOp op') r') (ha : PE X a ta) (hb : PE X b tb) (hc : PE X c tc)
    (hm : lastMarks [op, op'] [b, c] = false := by with_unfolding_all rfl) : PE X (.Compare a [op, op'] [b, c] pos) (tChain r r' ta tb tc) := by
  intro pins s σ H Q I h
  refine Compare_chain (thn (ha pins s σ H _ I h) fun v s1 ⟨x, H1, I1, r1, q1⟩ => chain_link (thn (hb pins s1 σ H1 _ I1 q1) fun u s2 ⟨y, H2, I2, r2, q2⟩ =>
    thn (ho pins s2 σ H2 x y v u _ I2 r1 r2 q2) fun d s3 ⟨z, H3, I3, r3, k, e, q3⟩ => ?_)) hm
  subst e
  cases r3
  refine wpAny_truthy_bool ?_
  cases k with
  | false => exact ite_ff ⟨.bl false, H3, I3, rfl, q3⟩
  | true => exact ite_tt (chain_last (thn (hc pins s3 σ H3 _ I3 q3) fun w' s4 zy4 => (by obtain ⟨z', H4, I4, r4, q4⟩ := zy4; exact ho' pins s4 σ H4 y z' u w' Q I4 r2 r4 q4)))
theorem pt_chain {op op' : CmpOp} {r r' : R2} (ho : OpR X (compareOp op) r) (ho' : OpR X (compareOp op') r') (ha : PE X a ta) (hb : PE X b tb) (hc : PE X c tc)
    (hm : lastMarks [op, op'] [b, c] = false := by with_unfolding_all rfl) : PT X (.Compare a [op, op'] [b, c] pos) (tTest (tChain r r' ta tb tc)) := by
  intro pins s σ H Q I h
  refine isTrue_chain (thn (ha pins s σ H _ I h) fun v s1 ⟨x, H1, I1, r1, q1⟩ => test_link (thn (hb pins s1 σ H1 _ I1 q1) fun u s2 ⟨y, H2, I2, r2, q2⟩ =>
    thn (ho pins s2 σ H2 x y v u _ I2 r1 r2 q2) fun d s3 ⟨z, H3, I3, r3, k, e, q3⟩ => ?_)) hm
  subst e
  cases r3
  refine wpAny_truthy_bool ?_
  cases k with
  | false =>
    obtain ⟨k', e', q'⟩ := q3
    cases e'
    exact ite_ff ⟨H3, I3, q'⟩
  | true =>
    refine ite_tt (test_last (thn (hc pins s3 σ H3 _ I3 q3) fun w' s4 ⟨z', H4, I4, r4, q4⟩ => thn (ho' pins s4 σ H4 y z' u w' _ I4 r2 r4 q4) fun d' s5 zx24 => ?_))
    obtain ⟨z2, H5, I5, r5, k2, e2, q5⟩ := zx24
    subst e2
    cases r5
    exact wpAny_truthy_bool ⟨H5, I5, q5⟩
def TruV (K : PySem.W.Frag) (x : V) (H : Hp) (k : Bool) : Prop :=
  match x with
  | .non => k = false
  | .bl b => k = b
  | .int i => k = (i != 0)
  | .str y => y.length ≤ sizeLine ∧ k = ((y.length : Int) != 0)
  | .byt y => y.size ≤ sizeLine ∧ k = ((y.size : Int) != 0)
  | .ref p => (∃ xs, SqL K H p xs ∧ k = !xs.isEmpty) ∨ (∃ xs, SqT K H p xs ∧ k = !xs.isEmpty) ∨ ∃ kvs, H p = some (.dK kvs) ∧ k = !kvs.isEmpty
  | _ => False
theorem isEmpty_kv {κ : Type} {kvs : List (κ × V)} {vs : List (κ × Value)} (r : KV kvs vs) : (!vs.isEmpty) = !kvs.isEmpty := by
  cases r <;> rfl
theorem isEmpty_of {xs : List V} {its : List Value} (r : Vals xs its) : (!its.toArray.isEmpty) = !xs.isEmpty := by
  cases r <;> simp
theorem line63 : (sizeLine : Nat) < 2 ^ 63 := by rw [sizeLine_eq]; decide
theorem tru_ok : TruR X (fun x H Q => ∃ k, TruV X.K x H k ∧ Q k H) := by
  intro pins s σ H x v Q I rx h
  obtain ⟨k, e, q⟩ := h
  have hl := line63
  have hs : sizeLine = 16777216 := sizeLine_eq
  cases x with
  | non =>
    cases rx
    have e' : k = false := e
    subst e'
    exact truthy_none ⟨H, I, q⟩
  | bl b =>
    cases rx
    have e' : k = b := e
    subst e'
    exact wpAny_truthy_bool ⟨H, I, q⟩
  | int i =>
    obtain ⟨t, rfl⟩ := rx
    have e' : k = (i != 0) := e
    subst e'
    exact PySem.P.truthy_int ⟨H, I, q⟩
  | str y =>
    obtain ⟨t, rfl⟩ := rx
    obtain ⟨hy, e'⟩ : y.length ≤ sizeLine ∧ k = ((y.length : Int) != 0) := e
    subst e'
    exact PySem.P.truthy_str (by omega) ⟨H, I.tok _, q⟩
  | byt y =>
    obtain ⟨t, rfl⟩ := rx
    obtain ⟨hy, e'⟩ : y.size ≤ sizeLine ∧ k = ((y.size : Int) != 0) := e
    subst e'
    exact PySem.W.truthy_bytes (by omega) ⟨H, I.tok _, q⟩
  | ref p =>
    cases rx
    have e' : (∃ xs, SqL X.K H p xs ∧ k = !xs.isEmpty) ∨ (∃ xs, SqT X.K H p xs ∧ k = !xs.isEmpty) ∨ ∃ kvs, H p = some (.dK kvs) ∧ k = !kvs.isEmpty := e
    rcases e' with ⟨xs, hx, e'⟩ | ⟨xs, hx, e'⟩ | ⟨kvs, hx, e'⟩
    · subst e'
      obtain ⟨its, r, pl, hz⟩ := I.list hx
      have hlen := r.length
      exact wpAny_truthy_list pl.isList (by simp only [List.size_toArray]; omega) ⟨H, I.tok _, by rw [isEmpty_of r]; exact q⟩
    · subst e'
      obtain ⟨its, r, pl, hz⟩ := I.tuple hx
      have hlen := r.length
      exact truthy_tuple pl (by simp only [List.size_toArray]; omega) ⟨H, I.tok _, by rw [isEmpty_of r]; exact q⟩
    · subst e'
      obtain ⟨hz, hS, vs, r, m⟩ : kvs.length ≤ sizeLine ∧ (p == sysModules) = false ∧ ∃ vs, KV kvs vs ∧ s.heap.DictOf (mixKind X.prog X.w) p vs := I.hok p _ hx
      have hlen : kvs.length = vs.length := Paired.length r
      exact wpAny_truthy_dict hS m (by omega) ⟨H, I.tok _, by rw [isEmpty_kv r]; exact q⟩
  | _ => exact (show False from e).elim
theorem pt_truth (ha : PE X a ta) (he : ∀ whole, isTrue a X.env whole = (do let v ← whole; standAt a.pos; holding [v] (truthy v))) :
    PT X a (fun σ H Q => ta σ H fun x H' => ∃ k, TruV X.K x H' k ∧ Q k H') := by
  intro pins s σ H Q I h
  exact isTrue_plain (thn (ha pins s σ H _ I h) fun v s1 zy5 => (by obtain ⟨x, H1, I1, r1, q1⟩ := zy5; exact tru_ok pins s1 σ H1 x v Q I1 r1 q1)) (he _)
theorem vals1 {x : V} {us : List Value} (r : Vals [x] us) : ∃ u, us = [u] ∧ RelV x u := by
  cases r with
  | cons r1 r2 => cases r2; exact ⟨_, rfl, r1⟩
theorem vals2 {x y : V} {us : List Value} (r : Vals [x, y] us) : ∃ u w', us = [u, w'] ∧ RelV x u ∧ RelV y w' := by
  cases r with
  | cons r1 r2 =>
    cases r2 with
    | cons r3 r4 => cases r4; exact ⟨_, _, rfl, r1, r3⟩
def LenV (K : PySem.W.Frag) (x : V) (H : Hp) (n : Nat) : Prop :=
  match x with
  | .str y => y.length ≤ sizeLine ∧ n = y.length
  | .byt y => y.size ≤ sizeLine ∧ n = y.size
  | .ref p => (∃ xs, SqL K H p xs ∧ n = xs.length) ∨ ∃ xs, SqT K H p xs ∧ n = xs.length
  | _ => False
theorem call_len : CallR X (.builtin "len") (fun xs H Q => ∃ x n, xs = [x] ∧ LenV X.K x H n ∧ Q (.int n) H) := by
  intro pins s σ H xs us Q I r h
  obtain ⟨x, n, rfl, e, q⟩ := h
  obtain ⟨u, rfl, rx⟩ := vals1 r
  have hl := line63
  have hs : sizeLine = 16777216 := sizeLine_eq
  cases x with
  | str y =>
    obtain ⟨t, rfl⟩ := rx
    obtain ⟨hy, e'⟩ : y.length ≤ sizeLine ∧ n = y.length := e
    subst e'
    exact len_str (by omega) ⟨.int _, H, I.tok _, ⟨_, rfl⟩, q⟩
  | byt y =>
    obtain ⟨t, rfl⟩ := rx
    obtain ⟨hy, e'⟩ : y.size ≤ sizeLine ∧ n = y.size := e
    subst e'
    exact PySem.W.len_bytes (by omega) ⟨.int _, H, I.tok _, ⟨_, rfl⟩, q⟩
  | ref p =>
    cases rx
    have e' : (∃ xs, SqL X.K H p xs ∧ n = xs.length) ∨ ∃ xs, SqT X.K H p xs ∧ n = xs.length := e
    rcases e' with ⟨xs, hx, e'⟩ | ⟨xs, hx, e'⟩
    · subst e'
      obtain ⟨its, r', pl, hz⟩ := I.list hx
      have hlen := r'.length
      exact Calls.call_len_list pl.isList (by simp only [List.size_toArray]; omega) ⟨.int xs.length, H, I.tok _, ⟨_, by simp only [List.size_toArray]; rw [hlen]⟩, q⟩
    · subst e'
      obtain ⟨its, r', pl, hz⟩ := I.tuple hx
      have hlen := r'.length
      exact len_tuple pl (by simp only [List.size_toArray]; omega) ⟨.int xs.length, H, I.tok _, ⟨_, by simp only [List.size_toArray]; rw [hlen]⟩, q⟩
  | _ => exact (show False from e).elim
end
end L2
namespace L2
open PySem PySem.Spec PyProof.Rows
structure ObjM (h : Heap) (x dx C : Addr) (mA : Str → Option Value) : Prop where
  obj : h.get? x = some (PySem.W.instObj C dx)
  ns : h.Ns1 dx mA
  ne : dx ≠ x
theorem lookIn_ns {h : Heap} {dx : Addr} {mA : Str → Option Value} (n : h.Ns1 dx mA) : ∃ od, h.get? dx = some od ∧ ∀ name, PySem.W.lookIn name od = some (mA name) := by
  obtain ⟨o, es, ep, ho, hd, hk, _, hm⟩ := n
  refine ⟨o, ho, fun name => ?_⟩
  have e := hm name
  unfold nsFind findBy at e
  rw [← Array.find?_toList] at e
  unfold PySem.W.lookIn
  rw [hd]
  dsimp only
  split
  · rename_i y q
    rw [q] at e
    exact congrArg some e
  · rename_i q
    rw [q] at e
    have a : es.toList.any (·.refKey) = false := by
      rw [List.any_eq_false]
      intro y hy
      obtain ⟨z, t, hkey⟩ := hk y (Array.mem_toList_iff.mp hy)
      simp [DictEntry.refKey, hkey]
    have a' : ¬ es.toList.any (·.refKey) = true := by rw [a]; exact Bool.false_ne_true
    rw [if_neg a']
    exact congrArg some e
theorem ObjM.look {h : Heap} {x dx C : Addr} {mA : Str → Option Value} (I : ObjM h x dx C mA) : ∃ od, PySem.W.InstAt h x (PySem.W.instObj C dx) C (some od) ∧ ∀ name, PySem.W.lookIn name od = some (mA name) :=
  let ⟨od, ho, hl⟩ := lookIn_ns I.ns
  ⟨od, ⟨I.obj, rfl, rfl, ho⟩, hl⟩
section
variable {prog : Program} {w : World} {A : Around} {E : Value → Shared → Prop} {s : Shared} {K : PySem.W.Frag} {x dx C f : Addr} {mA : Str → Option Value} {name : Str} {v : Value}
theorem get_map {expr : Bool} {Q : Value → Shared → Prop} (X : K.In s.heap) (I : ObjM s.heap x dx C mA) (hg : PySem.W.plainGet K C name = true) (hh : PySem.W.hasDictIn K C = true)
    (ha : PySem.W.findIn K (.ref C) name = some none) (hv : mA name = some v) (hv' : PySem.W.handedIn v = true) (h : Q v { s with toks := s.toks + 1 }) :
    wpAny (model prog w) A (getAttr (.ref x) name expr) Q E s := by
  obtain ⟨od, J, hl⟩ := I.look
  exact PySem.W.get_value X J (PySem.W.plainGet_of hg).1 (PySem.W.findObj_own hh ha rfl (by rw [hl, hv])) hv' h
theorem get_meth {pl : Sem Bool} {Q : Value × List Value → Shared → Prop} (X : K.In s.heap) (I : ObjM s.heap x dx C mA) (hg : PySem.W.plainGet K C name = true)
    (hf : PySem.W.findIn K (.ref C) name = some (some (.ref f))) (ht : PySem.W.isFn K (.ref f) = true) (hv : mA name = none) (h : Q (.ref f, [.ref x]) s) :
    wpAny (model prog w) A (getMethod (.ref x) name pl) Q E s := by
  obtain ⟨od, J, hl⟩ := I.look
  exact PySem.W.method_fn X J (PySem.W.plainGet_of hg).1 (PySem.W.plainGet_of hg).2 hf (beq_iff_eq.mp ht) (by show (PySem.W.lookIn name od).map (·.isSome) = some false; rw [hl, hv]; rfl) h
theorem set_map {ns : List Str} {Q : Unit → Shared → Prop} (X : K.In s.heap) (I : ObjM s.heap x dx C mA)
    (hs : PySem.W.findIn K (.ref C) "__setattr__" = some (some (.builtin "object.__setattr__"))) (hp : PySem.W.plainOver K C = true) (ht : PySem.W.takerIn K C name = some none) (hh : PySem.W.hasDictIn K C = true)
    (hw : PySem.Within mA ns) (hsz : ns.length ≤ sizeLine)
    (h : ∀ h', ObjM h' x dx C (fun y => if y = name then some v else mA y) → Heap.SameBut dx s.heap h' → Q () { s with heap := h', toks := s.toks + 2 }) :
    wpAny (model prog w) A (setAttr (.ref x) name v) Q E s := by
  obtain ⟨od, J, hl⟩ := I.look
  refine PySem.W.set_plain X J hs (PySem.W.osa_open (s := { s with toks := s.toks + 1 }) (r := none) X J hp ht fun b => ?_)
  obtain ⟨cd, hc, hd'⟩ := PySem.W.any_some hh
  have hx : s.heap.get? x = some ⟨.ref C, some dx, .plain, #[]⟩ := I.obj
  refine wpAny_bind (wpAny_pure (wpAny_bind (wpAny_bind (wpAny_loadPart hx (wpAny_bind (PySem.W.Looks.here (s := { s with toks := s.toks + 1 }) (PySem.W.looks_clsIn X hc) ?_))))))
  rw [hd']
  refine wpAny_pure (a := some dx) (wpAny_bind (wpAny_pure (wpAny_bind ?_)))
  refine wpAny_nsSet1 (s := { s with toks := s.toks + 1 }) I.ns fun h' hn2 hs2 => ?_
  obtain ⟨oD, esD, epD, hoD, hdD, hcD⟩ := hn2.count (PySem.Within.cons name v hw)
  refine wpAny_bind (wpAny_lookBehind hoD (by rw [hdD]; exact pastItsLine_dict (Nat.le_trans hcD (by rw [List.length_cons]; omega))) ?_)
  exact wpAny_pure (h _ ⟨(hs2.2 _ (Ne.symm I.ne)).trans I.obj, hn2, I.ne⟩ hs2)
theorem make_map {R : Result → Shared → Prop} {vs : List Value} {kw : List (Str × Value)} (X : K.In s.heap) (hm : PySem.W.makesIn K C = true)
    (hi : PySem.W.findIn K (.ref C) "__init__" = some (some (.ref f))) (hf : PySem.W.typeIn K (.ref f) = some (.type "function"))
    (h : codeAny (model prog w) (A.under (.builtin "type.__call__" ⟨.ref C :: vs, kw⟩)) (.call (.ref f) ⟨.ref (s.heap.objs.size + 1) :: vs, kw⟩) (PySem.W.InitBack (s.heap.objs.size + 1) R)
      { s with heap := (s.heap.push PySem.W.emptyDict).push (PySem.W.instObj C s.heap.objs.size) }) :
    codeAny (model prog w) A (.call (.ref C) ⟨vs, kw⟩) R s := by
  obtain ⟨hh, g, d, t, os⟩ := s
  exact PySem.W.make_core (PySem.W.makes_of X hm) (PySem.W.looks_findIn X hi) (fun self => PySem.W.bind_fn X self hf) (.inl rfl) h
end
def putF (f : Str) (v : V) : List (Str × V) → List (Str × V)
  | [] => [(f, v)]
  | (g, x) :: r => if g = f then (g, v) :: r else (g, x) :: putF f v r
theorem lookup_putF (f g : Str) (v : V) : ∀ fs : List (Str × V), (putF f v fs).lookup g = if g = f then some v else fs.lookup g
  | [] => by
    show List.lookup g [(f, v)] = _
    by_cases h : g = f
    · have hb : (g == f) = true := beq_iff_eq.mpr h
      simp only [List.lookup, hb, if_pos h]
    · have hb : (g == f) = false := beq_eq_false_iff_ne.mpr h
      simp only [List.lookup, hb, if_neg h]
  | (k, x) :: r => by
    have ih := lookup_putF f g v r
    rw [show putF f v ((k, x) :: r) = (if k = f then (k, v) :: r else (k, x) :: putF f v r) from rfl]
    by_cases hk : k = f
    · rw [if_pos hk]
      by_cases h : g = k
      · have hb : (g == k) = true := beq_iff_eq.mpr h
        simp only [List.lookup, hb, if_pos (h.trans hk)]
      · have hb : (g == k) = false := beq_eq_false_iff_ne.mpr h
        simp only [List.lookup, hb, if_neg (fun e : g = f => h (e.trans hk.symm))]
    · rw [if_neg hk]
      by_cases h : g = k
      · have hb : (g == k) = true := beq_iff_eq.mpr h
        simp only [List.lookup, hb, if_neg (fun e : g = f => hk (h.symm.trans e))]
      · have hb : (g == k) = false := beq_eq_false_iff_ne.mpr h
        simp only [List.lookup, hb]
        exact ih
theorem keys_putF (f : Str) (v : V) : ∀ fs : List (Str × V), f ∈ (putF f v fs).map (·.1) ∧ ∀ g, g ∈ fs.map (·.1) → g ∈ (putF f v fs).map (·.1)
  | [] => ⟨by simp [putF], fun g h => by simp at h⟩
  | (k, x) :: r => by
    obtain ⟨i1, i2⟩ := keys_putF f v r
    rw [show putF f v ((k, x) :: r) = (if k = f then (k, v) :: r else (k, x) :: putF f v r) from rfl]
    by_cases hk : k = f
    · rw [if_pos hk]
      subst hk
      exact ⟨by simp, fun g h => by simpa using h⟩
    · rw [if_neg hk]
      refine ⟨?_, fun g h => ?_⟩
      · rw [List.map_cons]
        exact List.mem_cons_of_mem _ i1
      · rw [List.map_cons] at h ⊢
        rcases List.mem_cons.mp h with e | e
        · exact List.mem_cons.mpr (.inl e)
        · exact List.mem_cons_of_mem _ (i2 g e)
theorem length_putF (f : Str) (v : V) : ∀ fs : List (Str × V), (putF f v fs).length ≤ fs.length + 1
  | [] => by simp [putF]
  | (k, x) :: r => by
    have ih := length_putF f v r
    rw [show putF f v ((k, x) :: r) = (if k = f then (k, v) :: r else (k, x) :: putF f v r) from rfl]
    by_cases hk : k = f
    · rw [if_pos hk, List.length_cons, List.length_cons]; omega
    · rw [if_neg hk, List.length_cons, List.length_cons]; omega
theorem RelO.some_of {v : V} {o : Option Value} (r : RelO (some v) o) : ∃ u, o = some u ∧ RelV v u := by
  cases o with
  | none => exact (show False from r).elim
  | some u => exact ⟨u, rfl, r⟩
theorem RelO.none_of {o : Option Value} (r : RelO none o) : o = none := by
  cases o with
  | none => rfl
  | some u => exact (show False from r).elim
theorem handed_of {v : V} {u : Value} (r : RelV v u) : PySem.W.handedIn u = true := by
  cases v with
  | non => cases (show u = Value.none from r); rfl
  | bl b => cases (show u = Value.bool b from r); rfl
  | int i => obtain ⟨t, e⟩ := (show ∃ t, u = Value.int i t from r); cases e; rfl
  | str x => obtain ⟨t, e⟩ := (show ∃ t, u = Value.str x t from r); cases e; rfl
  | byt b => obtain ⟨t, e⟩ := (show ∃ t, u = Value.bytes b t from r); cases e; rfl
  | flt b => obtain ⟨t, e⟩ := (show ∃ t, u = Value.float b t from r); cases e; rfl
  | ref a => cases (show u = Value.ref a from r); rfl
  | ty n => cases (show u = Value.type n from r); rfl
section
variable {P : Program} {w : World} {H H' : Hp} {h h' : Heap} {a C dx : Addr} {fs fs' : List (Str × V)}
theorem ins_get (hok : HOk P w H h) (e : H a = some (.ins C dx fs)) : ∃ mA, ObjM h a dx C mA ∧ (∀ f, RelO (fs.lookup f) (mA f)) ∧ PySem.Within mA (fs.map (·.1)) ∧ fs.length ≤ 1000 ∧ H dx = some (.own a) := by
  obtain ⟨d, z, ne, ob, mA, n, r, q⟩ := (show ObjOk P w H h a (.ins C dx fs) from hok a _ e)
  exact ⟨mA, ⟨ob, n, ne⟩, r, q, z, d⟩
end
structure Cls (K : PySem.W.Frag) (C : Addr) : Prop where
  pg : PySem.W.plainGet K C Str.empty = true
  hd : PySem.W.hasDictIn K C = true
  po : PySem.W.plainOver K C = true
  sa : PySem.W.findIn K (.ref C) "__setattr__" = some (some (.builtin "object.__setattr__"))
theorem Cls.get {K : PySem.W.Frag} {C : Addr} (c : Cls K C) (f : Str) : PySem.W.plainGet K C f = true := c.pg
def NoAttr (K : PySem.W.Frag) (C : Addr) (f : Str) : Prop := PySem.W.findIn K (.ref C) f = some none
theorem NoAttr.taker {K : PySem.W.Frag} {C : Addr} {f : Str} (n : NoAttr K C f) : PySem.W.takerIn K C f = some none := by
  unfold PySem.W.takerIn
  rw [show PySem.W.findIn K (.ref C) f = some none from n]
  rfl
structure Meth (K : PySem.W.Frag) (C : Addr) (m : Str) (f : Addr) : Prop where
  at_ : PySem.W.findIn K (.ref C) m = some (some (.ref f))
  fn : PySem.W.isFn K (.ref f) = true
  kp : PySem.W.keepIn K (.ref f) = true
section
variable {X : Cx} {pins : List (Addr × Obj)} {σ : St} {H : Hp} {s : Shared} {a C dx : Addr} {fs : List (Str × V)} {f : Str} {v : V} {A : Around} {E : Value → Shared → Prop}
theorem getattr_ok {b : Bool} {Q : Value → Shared → Prop} (I : Inv X pins σ H s) (e : H a = some (.ins C dx fs)) (c : Cls X.K C) (n : NoAttr X.K C f) (l : fs.lookup f = some v)
    (h : ∀ u s', Inv X pins σ H s' → RelV v u → Q u s') : wpAny (model X.prog X.w) A (getAttr (.ref a) f b) Q E s := by
  obtain ⟨mA, O, r, _, _, _⟩ := ins_get I.hok e
  obtain ⟨u, hu, ru⟩ := RelO.some_of (v := v) (o := mA f) (by rw [← l]; exact r f)
  exact get_map I.kIn O (c.get f) c.hd n hu (handed_of ru) (h u _ (I.tok _) ru)
theorem getmeth_ok {m : Str} {g : Addr} {pl : Sem Bool} {Q : Value × List Value → Shared → Prop} (I : Inv X pins σ H s) (e : H a = some (.ins C dx fs)) (c : Cls X.K C) (k : Meth X.K C m g) (l : fs.lookup m = none)
    (h : Q (.ref g, [.ref a]) s) : wpAny (model X.prog X.w) A (getMethod (.ref a) m pl) Q E s := by
  obtain ⟨mA, O, r, _, _, _⟩ := ins_get I.hok e
  have hn : mA m = none := RelO.none_of (by rw [← l]; exact r m)
  exact get_meth I.kIn O (c.get m) k.at_ k.fn hn h
theorem setattr_ok {y : V} {u : Value} {Q : Unit → Shared → Prop} (I : Inv X pins σ H s) (e : H a = some (.ins C dx fs)) (c : Cls X.K C) (n : NoAttr X.K C f) (hl : fs.length < 1000) (ry : RelV y u)
    (h : ∀ s', Inv X pins σ (upd H a (.ins C dx (putF f y fs))) s' → Q () s') : wpAny (model X.prog X.w) A (setAttr (.ref a) f u) Q E s := by
  obtain ⟨mA, O, r, wi, _, ho⟩ := ins_get I.hok e
  have hz : (fs.map (·.1)).length ≤ sizeLine := by rw [List.length_map, sizeLine_eq]; omega
  refine set_map I.kIn O c.sa c.po n.taker c.hd wi hz fun h' O' sb => h _ ?_
  have hd : ∃ o, h'.get? dx = some o := let ⟨o, _, _, e', _⟩ := O'.ns; ⟨o, e'⟩
  refine I.write (x := a) (e := dx) (by rw [e]; exact True.intro) (.inr ho) (fun b q hb z => (sb.2 b hb).trans z) hd ?_
  refine ⟨by rw [upd_ne O.ne]; exact ho, ?_, O.ne, O'.obj, _, O'.ns, fun g => ?_, fun g hg => ?_⟩
  · have := length_putF f y fs; omega
  · show RelO ((putF f y fs).lookup g) (if g = f then some u else mA g)
    rw [lookup_putF]
    by_cases q : g = f
    · rw [if_pos q, if_pos q]; exact ry
    · rw [if_neg q, if_neg q]; exact r g
  · by_cases q : g = f
    · rw [q]; exact (keys_putF f y fs).1
    · refine (keys_putF f y fs).2 g (wi g fun z => hg ?_)
      show (if g = f then some u else mA g) = none
      rw [if_neg q]; exact z
theorem Inv.made (I : Inv X pins σ H s) : Inv X pins σ (upd (upd H s.heap.objs.size (.own (s.heap.objs.size + 1))) (s.heap.objs.size + 1) (.ins C s.heap.objs.size []))
    { s with heap := (s.heap.push PySem.W.emptyDict).push (PySem.W.instObj C s.heap.objs.size) } := by
  have e1 : (s.heap.push PySem.W.emptyDict).get? s.heap.objs.size = some PySem.W.emptyDict := Heap.get?_push_size s.heap rfl
  have e2 : ((s.heap.push PySem.W.emptyDict).push (PySem.W.instObj C s.heap.objs.size)).get? (s.heap.objs.size + 1) = some (PySem.W.instObj C s.heap.objs.size) := by
    have := Heap.get?_push_size (s.heap.push PySem.W.emptyDict) (o := PySem.W.instObj C s.heap.objs.size) rfl
    rwa [Heap.size_push] at this
  have e3 : (s.heap.push PySem.W.emptyDict).Ns s.heap.objs.size (fun _ => none) := ⟨PySem.W.emptyDict, #[], _, e1, rfl, (fun e he => absurd he (by simp)), fun _ => rfl⟩
  have I1 := I.laid (a := s.heap.objs.size) (o := .own (s.heap.objs.size + 1)) (h' := s.heap.push PySem.W.emptyDict) (t' := s.toks) (fun b u q => Heap.get?_push_of_some _ q) (Nat.le_refl _) ⟨_, e1⟩
  refine I1.laid (a := s.heap.objs.size + 1) (o := .ins C s.heap.objs.size []) (t' := s.toks) (fun b u q => Heap.get?_push_of_some _ q) (Nat.le_of_eq (Heap.size_push _ _)) ?_
  have ne : s.heap.objs.size ≠ s.heap.objs.size + 1 := Nat.ne_of_lt (Nat.lt_succ_self _)
  refine ⟨by rw [upd_ne ne, upd_same], Nat.zero_le _, ne, e2, fun _ => none, (Heap.Ns1.of_empty e3).at fun o q => Heap.get?_push_of_some _ q, fun _ => True.intro, fun y hy => absurd rfl hy⟩
theorem attr_of {prog : Program} {w : World} {env : Env} {e : Expr} {f : Str} {pos : Pos} {s : Shared} {Q : Value → Shared → Prop} (hb : attributeBase e f env (eval e env) = eval e env)
    (h : wpAny (model prog w) A (eval e env) (fun o s₁ => wpAny (model prog w) A (getAttr o f true) Q E s₁) E s) : wpAny (model prog w) A (eval (.Attribute e f pos) env) Q E s :=
  Attribute_any_ h (by rw [arm_eval_Attribute, hb])
end
def tFld (K : PySem.W.Frag) (ta : TE) (f : Str) : TE := fun σ H Q => ta σ H fun x H1 => ∃ a C dx fs v, x = .ref a ∧ H1 a = some (.ins C dx fs) ∧ Cls K C ∧ NoAttr K C f ∧ fs.lookup f = some v ∧ Q v H1
def sFld (K : PySem.W.Frag) (ta tv : TE) (f : Str) : TS := fun D σ H => tv σ H fun y H1 => ta σ H1 fun x H2 => ∃ a C dx fs, x = .ref a ∧ H2 a = some (.ins C dx fs) ∧ Cls K C ∧ NoAttr K C f ∧ fs.length < 1000 ∧
  D.nx σ (upd H2 a (.ins C dx (putF f y fs)))
section
variable {X : Cx} {o e value : Expr} {f : Str} {pos pos' tpos : Pos} {ta tv : TE}
theorem pe_fld (he : PE X e ta) (hb : attributeBase e f X.env (eval e X.env) = eval e X.env) : PE X (.Attribute e f pos) (tFld X.K ta f) := by
  intro pins s σ H Q I h
  refine attr_of hb (thn (he pins s σ H _ I h) fun u s1 zx25 => ?_)
  obtain ⟨x, H1, I1, rx, a, C, dx, fs, v, ex, ea, c, n, l, q⟩ := zx25
  subst ex
  obtain rfl : u = Value.ref a := rx
  exact getattr_ok I1 ea c n l fun u' s2 I2 ru => ⟨v, H1, I2, ru, q⟩
theorem ps_fld (ha : PE X o ta) (hv : PE X value tv) (hs : swapsWith value (some (.Attribute o f pos')) pos.line X.env = pure false) : PS X (.Assign [.Attribute o f pos'] value pos) (sFld X.K ta tv f) := by
  intro pins s σ H D I h
  refine plainObj_wpAny_Assign_Attribute (thn (hv pins s σ H _ I h) fun u s1 ⟨y, H1, I1, ry, q⟩ => thn (ha pins s1 σ H1 _ I1 q) fun ov s2 zx26 => ?_) hs
  obtain ⟨x, H2, I2, rx, a, C, dx, fs, ex, ea, c, n, l, q2⟩ := zx26
  subst ex
  obtain rfl : ov = Value.ref a := rx
  exact setattr_ok I2 ea c n l ry fun s3 I3 => ⟨σ, _, I3, q2⟩
end
section
variable {X : Cx} {pins : List (Addr × Obj)} {σ : St} {H : Hp} {s : Shared} {A : Around} {E : Value → Shared → Prop} {Q : Value → Shared → Prop} {c : Value} {b : Bool}
inductive TyOf (K : PySem.W.Frag) (H : Hp) : V → Value → Prop where
  | non : TyOf K H .non (.type "NoneType")
  | bl (x : Bool) : TyOf K H (.bl x) (.type "bool")
  | int (i : Int) : TyOf K H (.int i) (.type "int")
  | str (x : Str) : TyOf K H (.str x) (.type "str")
  | flt (x : UInt64) : TyOf K H (.flt x) (.type "float")
  | lst {a : Addr} {xs : List V} (e : H a = some (.lst xs)) : TyOf K H (.ref a) (.type "list")
  | frz {a : Addr} {o : Obj} {xs : List V} (e : H a = some (.frz o (.lst xs))) : TyOf K H (.ref a) (.type "list")
  | tup {a : Addr} {xs : List V} (e : H a = some (.tup xs)) : TyOf K H (.ref a) (.type "tuple")
  | dK {a : Addr} {kvs : List (Key × V)} (e : H a = some (.dK kvs)) : TyOf K H (.ref a) (.type "dict")
  | dT {a : Addr} {kvs : List (List Key × V)} (e : H a = some (.dT kvs)) : TyOf K H (.ref a) (.type "dict")
  | ins {a C dx : Addr} {fs : List (Str × V)} (e : H a = some (.ins C dx fs)) (cl : Cls K C) (ha : PySem.W.findIn K (.ref C) "__class__" = some (some (.builtin "object.__class__")))
      (hn : PySem.W.specialIn K (.builtin "object.__class__") "__get__" = some (some (.builtin "getset_descriptor.__get__"))) (htk : PySem.W.takesIn K (.builtin "object.__class__") = some true)
      (hm : PySem.W.mroIn K C (.type "object") = some true) : TyOf K H (.ref a) (.ref C)
theorem isinst_ok {x : V} {u t : Value} (I : Inv X pins σ H s) (rx : RelV x u) (ty : TyOf X.K H x t) (e : PySem.W.kitOne X.K t c = some b) (h : ∀ tk, Q (.bool b) { s with toks := tk }) :
    wpAny (model X.prog X.w) A (call (.builtin "isinstance") [u, c]) Q E s := by
  cases ty with
  | non => cases (show u = Value.none from rx); exact PySem.W.kia_one PySem.W.kitx_none I.kIn True.intro e (fun z => nomatch z) h
  | bl y => cases (show u = Value.bool y from rx); exact PySem.W.kia_one PySem.W.kitx_bool I.kIn True.intro e (fun z => nomatch z) h
  | int i => obtain ⟨t, q⟩ := (show ∃ t, u = Value.int i t from rx); cases q; exact PySem.W.kia_one PySem.W.kitx_int I.kIn True.intro e (fun z => nomatch z) h
  | str y => obtain ⟨t, q⟩ := (show ∃ t, u = Value.str y t from rx); cases q; exact PySem.W.kia_one PySem.W.kitx_str I.kIn True.intro e (fun z => nomatch z) h
  | flt y => obtain ⟨t, q⟩ := (show ∃ t, u = Value.float y t from rx); cases q; exact PySem.W.kia_one PySem.W.kitx_float I.kIn True.intro e (fun z => nomatch z) h
  | @lst a xs ea =>
    cases (show u = Value.ref a from rx)
    obtain ⟨_, _, n, _, h1⟩ := (show ObjOk X.prog X.w H s.heap a (.lst xs) from I.hok a _ ea)
    exact PySem.W.kia_one PySem.W.kitx_list I.kIn ⟨_, h1, rfl⟩ e (fun z => nomatch z) h
  | @frz a ob xs ea =>
    cases (show u = Value.ref a from rx)
    obtain ⟨_, _, _, n, _, h1⟩ := (show ObjOk X.prog X.w H s.heap a (.frz ob (.lst xs)) from I.hok a _ ea)
    exact PySem.W.kia_one PySem.W.kitx_list I.kIn ⟨_, h1, rfl⟩ e (fun z => nomatch z) h
  | @tup a xs ea =>
    cases (show u = Value.ref a from rx)
    obtain ⟨_, _, _, p⟩ := (show ObjOk X.prog X.w H s.heap a (.tup xs) from I.hok a _ ea)
    obtain ⟨o, h1, h2, _⟩ := p
    exact PySem.W.kia_one PySem.W.kitx_tuple I.kIn ⟨o, h1, h2⟩ e (fun z => nomatch z) h
  | @dK a kvs ea =>
    cases (show u = Value.ref a from rx)
    obtain ⟨_, _, vs, _, p⟩ := (show ObjOk X.prog X.w H s.heap a (.dK kvs) from I.hok a _ ea)
    obtain ⟨o, es, ep, h1, h2, _⟩ := p
    exact PySem.W.kia_one PySem.W.kitx_dict I.kIn ⟨o, h1, h2.1⟩ e (fun z => nomatch z) h
  | @dT a kvs ea =>
    cases (show u = Value.ref a from rx)
    obtain ⟨_, _, xs, _, o, es, ep, h1, h2, _⟩ := (show ObjOk X.prog X.w H s.heap a (.dT kvs) from I.hok a _ ea)
    exact PySem.W.kia_one PySem.W.kitx_dict I.kIn ⟨o, h1, h2.1⟩ e (fun z => nomatch z) h
  | @ins a C dx fs ea cl ha hn htk hm =>
    cases (show u = Value.ref a from rx)
    obtain ⟨mA, O, _⟩ := ins_get I.hok ea
    obtain ⟨od, J, _⟩ := O.look
    exact PySem.W.kia_one (PySem.W.kitx_own (cl.get _) cl.hd ha hn htk hm) I.kIn J e (fun z => nomatch z) h
end
end L2
namespace L2
open PySem PySem.Spec PyProof.Rows
structure Room (k : Nat) (A : Around) : Prop where
  hd : A.handled = none
  dp : A.depth + 3 * k + 5 < recursionLimit
  un : A.units + 16 * k + 200 < cLine
theorem Room.mono {j k : Nat} {A : Around} (r : Room k A) (h : j ≤ k) : Room j A := ⟨r.hd, by have := r.dp; omega, by have := r.un; omega⟩
theorem Room.deeper {k : Nat} {A : Around} (r : Room (k + 1) A) (env : Env) : Room k (A.deeper env) :=
  ⟨r.hd, by have := r.dp; show A.depth + 1 + 3 * k + 5 < _; omega, by have := r.un; show A.units + 3 + 16 * k + 200 < _; omega⟩
theorem make_depth {A : Around} {C : Addr} {us : List Value} {kw : List (Str × Value)} : (A.under (.builtin "type.__call__" ⟨.ref C :: us, kw⟩)).depth = A.depth + 1 := by
  first | rfl | simp [Around.under, Code.weight, Code.isCreation, Code.isGuard, Code.isCaller, Code.frames, Code.isFrame, guardIds]
theorem make_units {A : Around} {C : Addr} {us : List Value} {kw : List (Str × Value)} : (A.under (.builtin "type.__call__" ⟨.ref C :: us, kw⟩)).units = A.units + 1 := by
  first | rfl | simp [Around.under, Code.cUnits, Code.frames, Code.isFrame]
theorem Room.make {k : Nat} {A : Around} (r : Room (k + 1) A) (C : Addr) (us : List Value) (kw : List (Str × Value)) : Room k (A.under (.builtin "type.__call__" ⟨.ref C :: us, kw⟩)) :=
  ⟨r.hd, by have := r.dp; rw [make_depth]; omega, by have := r.un; rw [make_units]; omega⟩
theorem Room.depth {k : Nat} {A : Around} (r : Room k A) : A.depth < recursionLimit := by have := r.dp; omega
theorem Room.units {k : Nat} {A : Around} (r : Room k A) : A.units + 64 < cLine := by have := r.un; omega
def tNil : TA := fun _ H Q => Q [] H
def tCons (ta : TE) (tr : TA) : TA := fun σ H Q => ta σ H fun x H1 => tr σ H1 fun xs H2 => Q (x :: xs) H2
section
variable {X : Cx} {e : Expr} {es : List Expr} {te : TE} {t : TA} {pos : Pos}
theorem pa_nil : PA X [] tNil := fun _ _ _ _ H Q I h => Calls.spliced_nil ⟨[], H, I, .nil, h⟩
theorem pa_cons (ha : PE X e te) (hr : PA X es t) (hs : starEach (e :: es) X.env = (false, eval e X.env) :: starEach es X.env := by rfl) : PA X (e :: es) (tCons te t) := by
  intro pos pins s σ H Q I h
  rw [hs]
  show wpAny _ _ (spliced ((false, eval e X.env) :: backTo pos (starEach es X.env))) _ _ s
  refine Calls.spliced_cons (thn (ha pins s σ H _ I h) fun u s1 zx27 => ?_)
  obtain ⟨x, H1, I1, r1, q1⟩ := zx27
  exact thn (hr pos pins s1 σ H1 _ I1 q1) fun us s2 ⟨xs, H2, I2, r2, q2⟩ => ⟨x :: xs, H2, I2, .cons r1 r2, q2⟩
def tTup (t : TA) : TE := fun σ H Q => t σ H fun xs H1 => xs.length ≤ sizeLine ∧ ∀ p, H1 p = none → Q (.ref p) (upd H1 p (.tup xs))
def tLst (t : TA) : TE := fun σ H Q => t σ H fun xs H1 => xs.length ≤ sizeLine ∧ ∀ p, H1 p = none → Q (.ref p) (upd H1 p (.lst xs))
theorem pe_tup {x1} (h : PA X es t) : PE X (.Tuple es x1 pos) (tTup t) := by
  intro pins s σ H Q I hq
  refine wpAny_Tuple_spliced (thn (h pos pins s σ H _ I hq) fun us s1 ⟨xs, H1, I1, r, z, q⟩ => ⟨by rw [← r.length]; exact z, ?_⟩)
  have hf : H1 s1.heap.objs.size = none := I1.hok.fresh (Nat.le_refl _)
  refine ⟨.ref s1.heap.objs.size, upd H1 s1.heap.objs.size (.tup xs), I1.laid (t' := s1.toks) (fun b u e => Heap.get?_push_of_some _ e) (Nat.le_refl _) ?_, rfl, q _ hf⟩
  exact ⟨z, us, r, ⟨_, Heap.get?_push_size _ rfl, rfl, _, rfl⟩⟩
theorem pe_lst (h : PA X es t) : PE X (.List es pos) (tLst t) := by
  intro pins s σ H Q I hq
  refine wpAny_List_spliced (thn (h pos pins s σ H _ I hq) fun us s1 ⟨xs, H1, I1, r, z, q⟩ => ⟨by rw [← r.length]; exact z, ?_⟩)
  have hf : H1 s1.heap.objs.size = none := I1.hok.fresh (Nat.le_refl _)
  refine ⟨.ref s1.heap.objs.size, upd H1 s1.heap.objs.size (.lst xs), I1.laid (t' := s1.toks) (fun b u e => Heap.get?_push_of_some _ e) (Nat.le_refl _) ?_, rfl, q _ hf⟩
  exact ⟨z, us, 0, r, Heap.get?_push_size _ rfl⟩
end
abbrev Sp := List V → Hp → VK → XK → Prop
abbrev CXT := List Env → Hp → Shared → XK → Value → Shared → Prop
structure Env0 (P : Program) (w : World) (K : PySem.W.Frag) (mg : Str → Option Value) (base : Heap) (A : Around) (outer : List Env) (s : Shared) (H : Hp) : Prop where
  frames : A.frames = some outer
  mod : Mod K mg base
  bs : ∀ b o, base.get? b = some o → s.heap.get? b = some o ∧ H b = none
  bsz : base.objs.size ≤ s.heap.objs.size
  funs : s.heap.FunFrames base outer
  frf : ∀ b ∈ frs outer, H b = none
  hok : HOk P w H s.heap
  bare : AllBare s.gens
def CE (outer : List Env) (P : Program) (w : World) (H : Hp) (s : Shared) (Q : VK) (u : Value) (s' : Shared) : Prop :=
  ∃ v H', s'.os = s.os ∧ AllBare s'.gens ∧ Un (frs outer) [] H H' s.heap s'.heap ∧ HOk P w H' s'.heap ∧ RelV v u ∧ Q v H'
def CR (CX : CXT) (outer : List Env) (P : Program) (w : World) (H : Hp) (s : Shared) (Q : VK) (E : XK) (r : Result) (s' : Shared) : Prop :=
  match r with
  | .ok (.ret u) => CE outer P w H s Q u s'
  | .ok _ => False
  | .error e => CX outer H s E e s'
structure FnOk (P : Program) (w : World) (K : PySem.W.Frag) (mg : Str → Option Value) (base : Heap) (CX : CXT) (k : Nat) (f : Addr) (fd : FuncData) (ps : List Str) (sp : Sp) : Prop where
  len : ∀ vs H Q E, sp vs H Q E → vs.length = ps.length
  run : ∀ (A : Around) (outer : List Env) (s : Shared) (H : Hp) (args : Args) (us : List Value) (vs : List V) (Q : VK) (E : XK), Room k A → Env0 P w K mg base A outer s H → BindsTo s fd args (ps.zip us) → Vals vs us → sp vs H Q E →
    codeAny (model P w) A (.call (.ref f) args) (CR CX outer P w H s Q E) s
theorem FnOk.imp {P : Program} {w : World} {K : PySem.W.Frag} {mg : Str → Option Value} {base : Heap} {CX : CXT} {k : Nat} {f : Addr} {fd : FuncData} {ps : List Str} {sp sp' : Sp} (F : FnOk P w K mg base CX k f fd ps sp)
    (h : ∀ vs H Q E, sp' vs H Q E → sp vs H Q E) : FnOk P w K mg base CX k f fd ps sp' :=
  ⟨fun vs H Q E q => F.len vs H Q E (h _ _ _ _ q), fun A outer s H args us vs Q E hr he hb hv hs => F.run A outer s H args us vs Q E hr he hb hv (h _ _ _ _ hs)⟩
theorem Env0.make {P : Program} {w : World} {K : PySem.W.Frag} {mg : Str → Option Value} {base : Heap} {A : Around} {outer : List Env} {s : Shared} {H : Hp} (e : Env0 P w K mg base A outer s H) (C : Addr) (us : List Value) (kw : List (Str × Value)) :
    Env0 P w K mg base (A.under (.builtin "type.__call__" ⟨.ref C :: us, kw⟩)) outer s H := ⟨by first | exact e.frames | (simpa [Around.under, Code.envs, Code.isFrame, pushEnvs] using e.frames), e.mod, e.bs, e.bsz, e.funs, e.frf, e.hok, e.bare⟩
section
variable {X : Cx} {pins : List (Addr × Obj)} {σ : St} {H : Hp} {s s' : Shared}
theorem Inv.env0 (I : Inv X pins σ H s) : Env0 X.prog X.w X.K X.mg X.base X.A X.stack s H :=
  ⟨I.ok.frames, I.ok.mod, I.bs, Nat.le_trans I.ok.bsz I.sz, I.stack, I.stkFree, I.hok, I.bare⟩
theorem Inv.after {Q : VK} {u : Value} (I : Inv X pins σ H s) (h : CE X.stack X.prog X.w H s Q u s') : EP X pins σ Q u s' := by
  obtain ⟨v, H', os, bare, un, hok, r, q⟩ := h
  obtain ⟨hh, g, d, t, os'⟩ := s'
  obtain rfl : os' = s.os := os
  exact ⟨v, H', I.call (h' := hh) (g' := g) (d' := d) (t' := t) (ch := []) un hok bare (fun b z => absurd z (by simp)), r, q⟩
end
def tCall (sp : Sp) (dvs : List V) (E : XK) (t : TA) : TE := fun σ H Q => t σ H fun vs H1 => sp (vs ++ dvs) H1 Q E
def tMeth (C : Addr) (m : Str) (sp : Sp) (dvs : List V) (E : XK) (ta : TE) (t : TA) : TE := fun σ H Q => ta σ H fun x H1 => ∃ a dx fs, x = .ref a ∧ H1 a = some (.ins C dx fs) ∧ fs.lookup m = none ∧
  t σ H1 fun vs H2 => sp (x :: (vs ++ dvs)) H2 Q E
def tMake (C : Addr) (sp : Sp) (dvs : List V) (E : XK) (t : TA) : TE := fun σ H Q => t σ H fun vs H1 => ∀ x dx, H1 x = none → H1 dx = none → dx ≠ x →
  sp (.ref x :: (vs ++ dvs)) (upd (upd H1 dx (.own x)) x (.ins C dx [])) (fun v H2 => v = .non ∧ Q (.ref x) H2) E
def Binds (K : PySem.W.Frag) (fd : FuncData) (ps : List Str) (ds : List Value) : Prop :=
  ∀ (s : Shared) (us : List Value), K.In s.heap → (us ++ ds).length = ps.length → BindsTo s fd ⟨us, []⟩ (ps.zip (us ++ ds))
theorem Binds.all {K : PySem.W.Frag} {fd : FuncData} {ps : List Str} (h : ∀ us : List Value, us.length = ps.length → bindArgs fd ⟨us, []⟩ = pure (ps.zip us)) : Binds K fd ps [] := fun s us _ hl => by
  rw [List.append_nil] at hl ⊢
  exact .of_eq (h us hl)
def Passes (CX : CXT) (X : Cx) (E : XK) : Prop := ∀ (pins : List (Addr × Obj)) (σ : St) (H : Hp) (s : Shared) (e : Value) (s' : Shared), Inv X pins σ H s → CX X.stack H s E e s' → X.xe e s'
section
variable {X : Cx} {CX : CXT} {k : Nat} {f C : Addr} {fd : FuncData} {ps : List Str} {sp : Sp} {dvs : List V} {ds : List Value} {E : XK} {x m : Str} {p pos apos : Pos} {e o : Expr} {es : List Expr} {ta : TE} {t : TA}
theorem run_fn {pins : List (Addr × Obj)} {σ : St} {H : Hp} {s : Shared} {Q : VK} {us : List Value} {vs : List V} (F : FnOk X.prog X.w X.K X.mg X.base CX k f fd ps sp) (hr : Room k X.A) (hb : Binds X.K fd ps ds) (hd : Vals dvs ds) (hx : Passes CX X E)
    (I : Inv X pins σ H s) (r : Vals vs us) (h : sp (vs ++ dvs) H Q E) : wpAny (model X.prog X.w) X.A (call (.ref f) us) (EP X pins σ Q) X.xe s := by
  have r2 : Vals (vs ++ dvs) (us ++ ds) := r.append hd
  have hl : (us ++ ds).length = ps.length := by rw [← r2.length]; exact F.len _ _ _ _ h
  refine wpAny_call (codeAny_mono (F.run X.A X.stack s H ⟨us, []⟩ (us ++ ds) (vs ++ dvs) Q E hr I.env0 (hb s us I.kIn hl) r2 h) fun r s' hq => ?_)
  cases r with
  | error e => exact hx pins σ H s e s' I hq
  | ok fl =>
    cases fl with
    | ret u => exact I.after hq
    | next => exact False.elim hq
    | brk => exact False.elim hq
    | cont => exact False.elim hq
theorem pe_call (F : FnOk X.prog X.w X.K X.mg X.base CX k f fd ps sp) (hr : Room k X.A) (hg : Gl X x) (hm : X.mg x = some (.ref f)) (hk : PySem.W.keepIn X.K (.ref f) = true) (hb : Binds X.K fd ps ds) (hd : Vals dvs ds) (hx : Passes CX X E)
    (ha : PA X (e :: es) t) (hdb : (x == ("__debug__" : Str)) = false := by decide) (he : starEach (e :: es) X.env = (false, eval e X.env) :: starEach es X.env := by rfl) (hpl : (backTo pos (starEach es X.env)).any (·.1) = false := by rfl) :
    PE X (.Call (.Name x p) (e :: es) [] pos) (tCall sp dvs E t) := by
  intro pins s σ H Q I h
  refine wpAny_Call_Name_kw (ld_glob I hg hm ?_ hdb)
  refine PySem.W.callWith_K (h₀ := X.base) I.ok.mod.kin hk (thn (ha pos pins s σ H _ I h) fun us s1 ⟨vs, H1, I1, r, q⟩ => ⟨I1.kIn, ?_⟩) he hpl
  exact run_fn F hr hb hd hx I1 r q
theorem pe_meth {pl : Sem Bool} (he : PE X o ta) (c : Cls X.K C) (hm : Meth X.K C m f) (F : FnOk X.prog X.w X.K X.mg X.base CX k f fd ps sp) (hr : Room k X.A) (hb : Binds X.K fd ps ds) (hd : Vals dvs ds) (hx : Passes CX X E) (ha : PA X (e :: es) t)
    (hst : starEach (e :: es) X.env = (false, eval e X.env) :: starEach es X.env := by rfl) (hpl : (backTo pos (starEach es X.env)).any (·.1) = false := by rfl)
    (ht : eval (.Call (.Attribute o m apos) (e :: es) [] pos) X.env = (do
      let ov ← eval o X.env
      standAt apos.atName
      let (f, first) ← holding [ov] (getMethod ov m pl)
      callWith pos f first (backTo pos (starEach (e :: es) X.env)) (backToKw pos (keywordEach [] X.env))) := by rfl) :
    PE X (.Call (.Attribute o m apos) (e :: es) [] pos) (tMeth C m sp dvs E ta t) := by
  intro pins s σ H Q I h
  refine PySem.W.methodCall_KW (pl := pl) (thn (he pins s σ H _ I h) fun u s1 zx28 => ?_) ht
  obtain ⟨x, H1, I1, rx, a, dx, fs, ex, ea, l, q⟩ := zx28
  subst ex
  obtain rfl : u = Value.ref a := rx
  refine getmeth_ok I1 ea c hm l ?_
  refine PySem.W.callWith_K (first := [.ref a]) (h₀ := X.base) I.ok.mod.kin hm.kp (thn (ha pos pins s1 σ H1 _ I1 q) fun us s2 ⟨vs, H2, I2, r, q2⟩ => ⟨I2.kIn, ?_⟩) hst hpl
  exact run_fn (us := .ref a :: us) (vs := .ref a :: vs) F hr hb hd hx I2 (.cons rfl r) q2
theorem pe_meth0 {pl : Sem Bool} (he : PE X o ta) (c : Cls X.K C) (hm : Meth X.K C m f) (F : FnOk X.prog X.w X.K X.mg X.base CX k f fd ps sp) (hr : Room k X.A) (hb : Binds X.K fd ps ds) (hd : Vals dvs ds) (hx : Passes CX X E)
    (ht : eval (.Call (.Attribute o m apos) [] [] pos) X.env = (do
      let ov ← eval o X.env
      standAt apos.atName
      let (f, first) ← holding [ov] (getMethod ov m pl)
      callWith pos f first (backTo pos (starEach [] X.env)) (backToKw pos (keywordEach [] X.env))) := by rfl) :
    PE X (.Call (.Attribute o m apos) [] [] pos) (tMeth C m sp dvs E ta tNil) := by
  intro pins s σ H Q I h
  refine PySem.W.methodCall_KW (pl := pl) (thn (he pins s σ H _ I h) fun u s1 zx29 => ?_) ht
  obtain ⟨x, H1, I1, rx, a, dx, fs, ex, ea, l, q⟩ := zx29
  subst ex
  obtain rfl : u = Value.ref a := rx
  refine getmeth_ok I1 ea c hm l ?_
  exact PySem.W.callWith_K0 (first := [.ref a]) I1.kIn hm.kp (run_fn (us := [.ref a]) (vs := [.ref a]) F hr hb hd hx I1 (.cons rfl .nil) q)
structure Mk (K : PySem.W.Frag) (C f : Addr) : Prop where
  makes : PySem.W.makesIn K C = true
  init : PySem.W.findIn K (.ref C) "__init__" = some (some (.ref f))
  fn : PySem.W.isFn K (.ref f) = true
  kp : PySem.W.keepIn K (.ref C) = true
theorem run_make {pins : List (Addr × Obj)} {σ : St} {H : Hp} {s : Shared} {Q : VK} {us : List Value} {vs : List V} (M : Mk X.K C f) (F : FnOk X.prog X.w X.K X.mg X.base CX k f fd ps sp) (hr : Room (k + 1) X.A) (hb : Binds X.K fd ps ds) (hd : Vals dvs ds)
    (hx : Passes CX X E) (I : Inv X pins σ H s) (r : Vals vs us)
    (h : ∀ x dx, H x = none → H dx = none → dx ≠ x → sp (.ref x :: (vs ++ dvs)) (upd (upd H dx (.own x)) x (.ins C dx [])) (fun v H2 => v = .non ∧ Q (.ref x) H2) E) :
    wpAny (model X.prog X.w) X.A (call (.ref C) us) (EP X pins σ Q) X.xe s := by
  have hq := h (s.heap.objs.size + 1) s.heap.objs.size (I.hok.fresh (Nat.le_succ _)) (I.hok.fresh (Nat.le_refl _)) (Nat.ne_of_lt (Nat.lt_succ_self _))
  have I2 := Inv.made (C := C) I
  have r2 : Vals (V.ref (s.heap.objs.size + 1) :: (vs ++ dvs)) (Value.ref (s.heap.objs.size + 1) :: (us ++ ds)) := .cons rfl (r.append hd)
  have hl : (Value.ref (s.heap.objs.size + 1) :: us ++ ds).length = ps.length := by
    have e := r2.length
    rw [F.len _ _ _ _ hq] at e
    exact e.symm
  refine wpAny_call (make_map (f := f) I.kIn M.makes M.init (beq_iff_eq.mp M.fn) (codeAny_mono (F.run _ X.stack _ _ ⟨Value.ref (s.heap.objs.size + 1) :: us, []⟩ (Value.ref (s.heap.objs.size + 1) :: (us ++ ds)) _ _ E (hr.make C us [])
    (I2.env0.make C us []) (hb _ (Value.ref (s.heap.objs.size + 1) :: us) I2.kIn hl) r2 hq) fun r s' hq' => ?_))
  cases r with
  | error e => exact hx pins σ _ _ e s' I2 hq'
  | ok fl =>
    cases fl with
    | ret u =>
      obtain ⟨v, H', I3, rv, ev, q3⟩ := I2.after hq'
      subst ev
      exact ⟨rv, ⟨V.ref (s.heap.objs.size + 1), H', I3, rfl, q3⟩⟩
    | next => exact False.elim hq'
    | brk => exact False.elim hq'
    | cont => exact False.elim hq'
theorem pe_make (M : Mk X.K C f) (F : FnOk X.prog X.w X.K X.mg X.base CX k f fd ps sp) (hr : Room (k + 1) X.A) (hg : Gl X x) (hm : X.mg x = some (.ref C)) (hb : Binds X.K fd ps ds) (hd : Vals dvs ds) (hx : Passes CX X E)
    (ha : PA X (e :: es) t) (hdb : (x == ("__debug__" : Str)) = false := by decide) (he : starEach (e :: es) X.env = (false, eval e X.env) :: starEach es X.env := by rfl) (hpl : (backTo pos (starEach es X.env)).any (·.1) = false := by rfl) :
    PE X (.Call (.Name x p) (e :: es) [] pos) (tMake C sp dvs E t) := by
  intro pins s σ H Q I h
  refine wpAny_Call_Name_kw (ld_glob I hg hm ?_ hdb)
  refine PySem.W.callWith_K (h₀ := X.base) I.ok.mod.kin M.kp (thn (ha pos pins s σ H _ I h) fun us s1 ⟨vs, H1, I1, r, q⟩ => ⟨I1.kIn, ?_⟩) he hpl
  exact run_make M F hr hb hd hx I1 r q
end
section
variable {X : Cx} {CX : CXT} {k : Nat} {f C : Addr} {fd : FuncData} {ps ks : List Str} {sp : Sp} {E : XK} {x m : Str} {p pos apos kpos : Pos} {e o : Expr} {es : List Expr} {kws : List Keyword} {te ta : TE} {t tk : TA} {nm : Option Str}
variable {g : List Value → List Value → List Value} {gV : List V → List V → List V}
end
structure FnScope (N P : List Str) (sc : Scope) : Prop where
  kind : sc.kind = .function
  co : sc.isCoroutine = false
  gen : sc.isGenerator = false
  nd : N.Nodup
  pre : N.take P.length = P
  par : ∀ x ∈ P, sc.names.lookup x = some .local ∨ sc.names.lookup x = some .cell
  nofree : ∀ y ∈ sc.names, y.2 ≠ .free
theorem bindL_out {kindOf : Str → Option NameKind} {x : Str} : ∀ {binds : List (Str × Value)} {m : Str → Option Value}, (∀ v, (x, v) ∉ binds) → bindL kindOf binds m x = m x
  | [], _, _ => rfl
  | (n, v) :: r, m, h => by
    unfold bindL
    rw [bindL_out fun w hw => h w (List.mem_cons_of_mem _ hw)]
    split
    · have : x ≠ n := by rintro rfl; exact h v List.mem_cons_self
      simp [this]
    · rfl
theorem bindC_out {kindOf : Str → Option NameKind} {x : Str} : ∀ {binds : List (Str × Value)} {m : Str → Option Value}, (∀ v, (x, v) ∉ binds) → bindC kindOf binds m x = m x
  | [], _, _ => rfl
  | (n, v) :: r, m, h => by
    unfold bindC
    rw [bindC_out fun w hw => h w (List.mem_cons_of_mem _ hw)]
    split
    · rfl
    · have : x ≠ n := by rintro rfl; exact h v List.mem_cons_self
      simp [this]
theorem bindL_get {kindOf : Str → Option NameKind} {x : Str} {v : Value} : ∀ {P : List Str} {vs : List Value} {i : Nat} {m : Str → Option Value}, P.Nodup → P[i]? = some x → vs[i]? = some v → kindOf x = some .local →
    bindL kindOf (P.zip vs) m x = some v
  | [], _, _, _, _, h, _, _ => by simp at h
  | _ :: _, [], _, _, _, _, h, _ => by simp at h
  | p :: P, w :: vs, 0, m, nd, h1, h2, hk => by
    simp at h1 h2; subst h1; subst h2
    show bindL kindOf ((p, w) :: P.zip vs) m p = _
    unfold bindL
    rw [bindL_out fun v hv => (List.nodup_cons.mp nd).1 (List.of_mem_zip hv).1, if_pos hk]
    simp
  | p :: P, w :: vs, i + 1, m, nd, h1, h2, hk => by
    show bindL kindOf ((p, w) :: P.zip vs) m x = _
    unfold bindL
    exact bindL_get (i := i) (List.nodup_cons.mp nd).2 (by simpa using h1) (by simpa using h2) hk
theorem bindC_get {kindOf : Str → Option NameKind} {x : Str} {v : Value} : ∀ {P : List Str} {vs : List Value} {i : Nat} {m : Str → Option Value}, P.Nodup → P[i]? = some x → vs[i]? = some v → kindOf x ≠ some .local →
    bindC kindOf (P.zip vs) m x = some v
  | [], _, _, _, _, h, _, _ => by simp at h
  | _ :: _, [], _, _, _, _, h, _ => by simp at h
  | p :: P, w :: vs, 0, m, nd, h1, h2, hk => by
    simp at h1 h2; subst h1; subst h2
    show bindC kindOf ((p, w) :: P.zip vs) m p = _
    unfold bindC
    rw [bindC_out fun v hv => (List.nodup_cons.mp nd).1 (List.of_mem_zip hv).1, if_neg hk]
    simp
  | p :: P, w :: vs, i + 1, m, nd, h1, h2, hk => by
    show bindC kindOf ((p, w) :: P.zip vs) m x = _
    unfold bindC
    exact bindC_get (i := i) (List.nodup_cons.mp nd).2 (by simpa using h1) (by simpa using h2) hk
def start (N : List Str) (vs : List V) : St := vs.map some ++ List.replicate (N.length - vs.length) none
def cxOf (CX : CXT) (P : Program) (w : World) (K : PySem.W.Frag) (mg : Str → Option Value) (base : Heap) (N : List Str) (qual : Str) (scope : Scope) (f : Addr) (cd : Value) (A : Around) (outer : List Env) (s : Shared) (H : Hp) (E : XK) : Cx where
  prog := P
  w := w
  K := K
  mg := mg
  base := base
  A := A.deeper (envOfC qual scope s.heap.objs.size f cd)
  N := N
  s₀ := s
  H₀ := H
  env := envOfC qual scope s.heap.objs.size f cd
  outer := outer
  stack := envOfC qual scope s.heap.objs.size f cd :: outer
  ex := []
  calm := true
  fn := fun _ => true
  pn := []
  xe := fun e s' => wpAny (model P w) (A.deeper (envOfC qual scope s.heap.objs.size f cd)) (leaving (envOfC qual scope s.heap.objs.size f cd) e) (fun _ s'' => CX outer H s E e s'') (fun e' s'' => CX outer H s E e' s'') s'
theorem cell_has {sc : Scope} {n : Nat} {x : Str} (h : sc.names.lookup x = some .cell) : ∃ c, (cellsFrom n sc.names []).lookup x = some c := by
  have q := PySem.W.cellsFrom_some sc.names n [] (.inl h)
  exact Option.isSome_iff_exists.mp q
theorem inv_start {CX : CXT} {P : Program} {w : World} {K : PySem.W.Frag} {mg : Str → Option Value} {base : Heap} {N ps : List Str} {qual : Str} {scope : Scope} {f : Addr} {cd : Value} {A : Around} {outer : List Env} {s s1 : Shared} {H : Hp} {E : XK} {us : List Value} {vs : List V}
    (S : FnScope N ps scope) (hd : A.handled = none) (e0 : Env0 P w K mg base A outer s H) (hl : vs.length = ps.length) (r : Vals vs us)
    (x : InCallC s s.heap.objs.size (bindL (envOfC qual scope s.heap.objs.size f cd).kindOf (ps.zip us) fun _ => none) (cellsFrom (s.heap.objs.size + 1) scope.names []) (bindC (envOfC qual scope s.heap.objs.size f cd).kindOf (ps.zip us) fun _ => none) s1) :
    Inv (cxOf CX P w K mg base N qual scope f cd A outer s H E) [] (start N vs) H s1 := by
  have hpl : ps.length ≤ N.length := by have := congrArg List.length S.pre; rw [List.length_take] at this; omega
  obtain ⟨h1, tk, rfl, hk⟩ := x.done
  have noA : ∀ b : Addr, b ∉ (cxOf CX P w K mg base N qual scope f cd A outer s H E).ex := fun b z => absurd (show b ∈ ([] : List Addr) from z) (by simp)
  refine ⟨⟨e0.mod, S.kind, rfl, rfl, Nat.le_refl _, fun y z c h1 h2 => ?_, fun y hy => ?_, fun y c _ h => ?_, fun _ => hd, Around.frames_deeper e0.frames, .inr ⟨rfl, rfl⟩, fun b z => absurd z (noA b), e0.bs, e0.bsz, fun b _ _ => noA b, fun b z => absurd z (noA b), e0.funs, e0.frf⟩,
    rfl, e0.bare, Un.kept hk, ⟨_, x.toInCall.ns, fun i y v h1 h2 h3 => ?_⟩, fun y c h => ⟨_, x.cell y c h⟩, e0.hok.fresh (Nat.le_refl _), fun y c h => ?_, fun p hp => absurd (show p ∈ ([] : List (Addr × Obj)) from hp) (by simp), e0.hok.kept hk, ?_⟩
  · exact name_of_addr x.apart (PySem.mem_of_lookup h1) (PySem.mem_of_lookup h2)
  · have hy : scope.names.lookup y = some .cell ∨ scope.names.lookup y = some .free := hy
    rcases hy with hy | hy
    · exact cell_has hy
    · exact absurd rfl (S.nofree _ (PySem.mem_of_lookup hy))
  · exact Nat.le_of_lt (x.above y c (PySem.mem_of_lookup h))
  · have hi : i < vs.length := by
      unfold start at h2
      by_cases hi : i < vs.length
      · exact hi
      · rw [List.getElem?_append_right (by simpa using hi)] at h2
        rw [List.getElem?_replicate] at h2
        split at h2 <;> cases h2
    have ha : vs[i]? = some v := by
      unfold start at h2
      rw [List.getElem?_append_left (by simpa using hi), List.getElem?_map] at h2
      cases e : vs[i]? with
      | none => rw [e] at h2; cases h2
      | some a => rw [e] at h2; cases h2; rfl
    obtain ⟨u, hu, rv⟩ := r.get ha
    have hp : ps[i]? = some y := by
      rw [← S.pre, List.getElem?_take_of_lt (by omega)]; exact h1
    have ndP : ps.Nodup := by rw [← S.pre]; exact S.nd.sublist (List.take_sublist _ _)
    refine ⟨u, rv, ?_⟩
    rcases S.par y (List.mem_of_getElem? hp) with k | k
    · exact .inl ⟨k, bindL_get ndP hp hu k⟩
    · obtain ⟨c, e⟩ := cell_has (n := s.heap.objs.size + 1) k
      refine .inr ⟨.inl k, c, e, ?_⟩
      have q := x.cell y c e
      rw [bindC_get ndP hp hu (by show scope.names.lookup y ≠ _; rw [k]; decide)] at q
      exact q
  · exact e0.hok.fresh (Nat.le_of_lt (x.above y c (PySem.mem_of_lookup h)))
  · unfold start
    show _ = N.length
    rw [List.length_append, List.length_map, List.length_replicate]
    omega
theorem fn_of {CX : CXT} {P : Program} {w : World} {K : PySem.W.Frag} {mg : Str → Option Value} {base : Heap} {k : Nat} {f : Addr} {name qual : Str} {params : Arguments} {body : List Stmt} {scope : Scope} {dV kV doc pm cdv ct oc : Value} {an od : Option Addr}
    {osl : Array (Option Value)} {N ps : List Str} {sp : Sp} (lk : K.lookup f = some ⟨oc, od, .func (PySem.W.fnOf name qual params body scope dV kV doc pm an cdv ct), osl⟩) (hcd : PySem.W.codeIn K cdv qual = true) (S : FnScope N ps scope)
    (len : ∀ vs H Q E, sp vs H Q E → vs.length = ps.length)
    (hbody : ∀ (A : Around) (outer : List Env) (s : Shared) (H : Hp) (vs : List V) (Q : VK) (E : XK), Room k (A.deeper (envOfC qual scope s.heap.objs.size f cdv)) → sp vs H Q E →
      ∃ t, PSs (cxOf CX P w K mg base N qual scope f cdv A outer s H E) body t ∧ t { nx := fun _ H' => Q .non H', rt := Q } (start N vs) H) :
    FnOk P w K mg base CX (k + 1) f (PySem.W.fnOf name qual params body scope dV kV doc pm an cdv ct) ps sp := by
  refine ⟨len, fun A outer s H args us vs Q E hr e0 hb r hsp => ?_⟩
  have hl := len _ _ _ _ hsp
  have KX : K.In s.heap := e0.mod.kin.keeps fun b o e => (e0.bs b o e).1
  have lim : s.heap.NoLimit := e0.mod.nolimit.keeps fun b o e => (e0.bs b o e).1
  have hkind : ∀ y ∈ ps.zip us, scope.names.lookup y.1 = some .local ∨ (scope.names.lookup y.1 = some .cell ∧ ((cellsFrom (s.heap.objs.size + 1) scope.names []).lookup y.1).isSome = true) := fun ⟨n, v⟩ hy => by
    rcases S.par n (List.of_mem_zip hy).1 with q | q
    · exact .inl q
    · exact .inr ⟨q, PySem.W.cellsFrom_some _ _ _ (.inl q)⟩
  refine codeAny_call_function hr.depth (KX _ _ lk) rfl S.co S.gen rfl (PySem.W.codeRec_of KX hcd) (hb _ _ _ _ ?_)
  refine wpAny_newFunctionEnv_cells S.kind hkind fun env he s1 x => ?_
  subst he
  refine ⟨lim.keeps x.toInCall.keep, codeAny_func ?_⟩
  obtain ⟨t, ht, hq⟩ := hbody A outer s H vs Q E (hr.deeper _) hsp
  have I : Inv (cxOf CX P w K mg base N qual scope f cdv A outer s H E) [] (start N vs) H s1 := inv_start S hr.hd e0 hl r x
  refine wpAny_mono (ht [] s1 (start N vs) H _ I hq) (fun fl s' hs => ?_) fun e s' hs => hs
  have fin : ∀ {σ' : St} {H' : Hp} {v : V} {u : Value}, Inv (cxOf CX P w K mg base N qual scope f cdv A outer s H E) [] σ' H' s' → RelV v u → Q v H' → CE outer P w H s Q u s' :=
    fun {σ' H' v u} J rv q => ⟨v, H', J.os, J.bare, J.base, J.hok, rv, q⟩
  cases fl with
  | ret u =>
    obtain ⟨v, σ', H', J, rv, q⟩ := hs
    exact fin J rv q
  | next =>
    obtain ⟨σ', H', J, q⟩ := hs
    exact fin (v := V.non) (u := Value.none) J rfl q
  | brk =>
    obtain ⟨_, _, _, q⟩ := hs
    exact False.elim q
  | cont =>
    obtain ⟨_, _, _, q⟩ := hs
    exact False.elim q
end L2
namespace L2
open PySem PySem.Spec PyProof.Rows
section
variable {X : Cx} {x : Str} {p pos : Pos} {e : Expr} {es : List Expr} {t : TA} {id T : String} {r : List V → Hp → VK → Prop}
def tCB (r : List V → Hp → VK → Prop) (t : TA) : TE := fun σ H Q => t σ H fun vs H1 => r vs H1 Q
theorem pe_callB (hc : CallR X (.builtin id) r) (hg : Gl X x) (hm : X.mg x = none) (hv : bootBuiltins x = some (.builtin id)) (ha : PA X (e :: es) t) (hn : x ≠ "__name__" := by decide) (hdb : (x == ("__debug__" : Str)) = false := by decide)
    (he : starEach (e :: es) X.env = (false, eval e X.env) :: starEach es X.env := by rfl) (hpl : (backTo pos (starEach es X.env)).any (·.1) = false := by rfl) : PE X (.Call (.Name x p) (e :: es) [] pos) (tCB r t) := by
  intro pins s σ H Q I h
  refine wpAny_Call_Name_kw (ld_blt I hg hm hv ?_ hn hdb)
  exact PyProof.Rows.callWith_builtin1 (thn (ha pos pins s σ H _ I h) fun us s1 zy6 => (by obtain ⟨vs, H1, I1, r1, q1⟩ := zy6; exact hc pins s1 σ H1 vs us Q I1 r1 q1)) he hpl
theorem pe_callTy (hc : CallR X (.type T) r) (hg : Gl X x) (hm : X.mg x = none) (hv : bootBuiltins x = some (.type T)) (ha : PA X (e :: es) t) (hn : x ≠ "__name__" := by decide) (hdb : (x == ("__debug__" : Str)) = false := by decide)
    (he : starEach (e :: es) X.env = (false, eval e X.env) :: starEach es X.env := by rfl) (hpl : (backTo pos (starEach es X.env)).any (·.1) = false := by rfl) : PE X (.Call (.Name x p) (e :: es) [] pos) (tCB r t) := by
  intro pins s σ H Q I h
  refine wpAny_Call_Name_kw (ld_blt I hg hm hv ?_ hn hdb)
  exact PyProof.Rows.callWith_type1 (thn (ha pos pins s σ H _ I h) fun us s1 zy7 => (by obtain ⟨vs, H1, I1, r1, q1⟩ := zy7; exact hc pins s1 σ H1 vs us Q I1 r1 q1)) he hpl
end
end L2
namespace HT
open PySem PyProof.Rows
section
open PySem.SeqAt
open PySem.AutoSeq1 (wpAny_loadPart')
open PySem.MeetsSeq PySem.MeetsSeq2 PySem.MeetsSeq3
end
section
variable {prog : Program} {w : World} {A : Around} {E : Value → Shared → Prop} {s : Shared}
def sIx (n d : Nat) : Option Int → Nat
  | none => d
  | some v => if v < 0 then (v + (n : Int)).toNat else min v.toNat n
theorem sIx_le (n d : Nat) (hd : d ≤ n) (o : Option Int) : sIx n d o ≤ n := by
  cases o with
  | none => exact hd
  | some v =>
    show (if v < 0 then (v + (n : Int)).toNat else min v.toNat n) ≤ n
    by_cases hv : v < 0
    · rw [if_pos hv]; omega
    · rw [if_neg hv]; exact Nat.min_le_right _ _
theorem clip_eq (v : Int) (n d : Nat) : (if v < 0 then max (v + (n : Int)) 0 else min v (n : Int)) = ((sIx n d (some v) : Nat) : Int) := by
  show (if v < 0 then max (v + (n : Int)) 0 else min v (n : Int)) = (((if v < 0 then (v + (n : Int)).toNat else min v.toNat n) : Nat) : Int)
  by_cases hv : v < 0
  · simp only [if_pos hv]; omega
  · simp only [if_neg hv]; omega
theorem adjust_gen (lo hi : Option Int) (n : Nat) : Builtin.Slice.sliceAdjust lo hi 1 (n : Int) = (((sIx n 0 lo : Nat) : Int), ((sIx n n hi : Nat) : Int)) := by
  have h1 : ¬ ((1 : Int) < 0) := by omega
  unfold Builtin.Slice.sliceAdjust
  simp only [h1, if_false]
  refine Prod.ext ?_ ?_
  · cases lo with
    | none => rfl
    | some v => exact clip_eq v n 0
  · cases hi with
    | none => rfl
    | some v => exact clip_eq v n n
theorem places_gen (i j : Nat) : Builtin.Slice.slicePlaces (i : Int) (j : Int) 1 = j - i := by
  unfold Builtin.Slice.slicePlaces
  have h1 : (1 : Int) > 0 := by omega
  simp only [h1, if_true, Int.ediv_one]
  split <;> omega
theorem slicePart_ {v : Value} {o : Option Int} {Q : Option Int → Shared → Prop} (p : IsPart v o) (h : Q o s) : wpAny (model prog w) A (Builtin.Slice.slicePartIndex v) Q E s := by
  cases p with
  | none => exact slicePart_none h
  | int i t => exact slicePart_int h
theorem sliceApplied_gen {sl : Addr} {vl vu : Value} {lo hi : Option Int} {n : Nat} {Q : Int × Int × Nat → Shared → Prop} (hs : s.heap.IsSliceOf sl vl vu .none) (pl : IsPart vl lo) (pu : IsPart vu hi)
    (h : Q (((sIx n 0 lo : Nat) : Int), 1, sIx n n hi - sIx n 0 lo) s) : wpAny (model prog w) A (Builtin.Slice.sliceApplied (.ref sl) (pure (n : Int))) Q E s := by
  obtain ⟨os, hos, hcs, hds⟩ := id hs
  unfold Builtin.Slice.sliceApplied Builtin.Slice.sliceFields
  refine wpAny_bind (wpAny_bind (wpAny_field hos hds (x := vl) rfl (wpAny_bind (wpAny_field hos hds (x := vu) rfl (wpAny_bind (wpAny_field hos hds (x := .none) rfl (wpAny_pure ?_)))))))
  refine wpAny_bind (slicePart_none ?_)
  show wpAny _ _ (if ((1 : Int) == 0) = true then _ else _) _ _ s
  rw [if_neg (by decide)]
  refine wpAny_bind (slicePart_ pl (wpAny_bind (slicePart_ pu (wpAny_bind (wpAny_pure ?_)))))
  show wpAny _ _ (match Builtin.Slice.sliceAdjust lo hi 1 (n : Int) with | (lo, hi) => pure (lo, (1 : Int), Builtin.Slice.slicePlaces lo hi 1)) _ _ s
  rw [adjust_gen lo hi n]
  show wpAny _ _ (pure (((sIx n 0 lo : Nat) : Int), (1 : Int), Builtin.Slice.slicePlaces ((sIx n 0 lo : Nat) : Int) ((sIx n n hi : Nat) : Int) 1)) _ _ s
  rw [places_gen]
  exact wpAny_pure h
theorem pick_gen (xs : Array Value) (i k : Nat) : ((List.range k).filterMap fun (m : Nat) => xs[((i : Int) + (m : Int) * 1).toNat]?).toArray = ((xs.toList.drop i).take k).toArray := by
  have e : (fun (m : Nat) => xs[((i : Int) + (m : Int) * 1).toNat]?) = fun m => xs[i + m]? := by
    funext m
    have : ((i : Int) + (m : Int) * 1).toNat = i + m := by omega
    rw [this]
  rw [e]
  have := pick_run xs i k
  rw [List.filterMap_map] at this
  have e2 : ((fun x => xs[x]?) ∘ fun x => i + x) = fun m => xs[i + m]? := rfl
  rw [e2] at this
  rw [this]
theorem getItem_tuple_cut {t sl : Addr} {items : Array Value} {vl vu : Value} {lo hi : Option Int} {Q : Value → Shared → Prop} (ht : IsTup s.heap t items) (hs : s.heap.IsSliceOf sl vl vu .none) (pl : IsPart vl lo) (pu : IsPart vu hi)
    (hw : ¬ (sIx items.size 0 lo = 0 ∧ sIx items.size items.size hi = items.size))
    (h : Q (.ref s.heap.objs.size) { s with heap := s.heap.push { cls := .type "tuple", data := .seq ((items.toList.drop (sIx items.size 0 lo)).take (sIx items.size items.size hi - sIx items.size 0 lo)).toArray } })
    (hsz : items.size ≤ sizeLine) : wpAny (model prog w) A (getItem (.ref t) (.ref sl)) Q E s := by
  have htake : sizeOk (.seq ((items.toList.drop (sIx items.size 0 lo)).take (sIx items.size items.size hi - sIx items.size 0 lo)).toArray) := by
    show ((items.toList.drop (sIx items.size 0 lo)).take (sIx items.size items.size hi - sIx items.size 0 lo)).toArray.size ≤ sizeLine
    rw [List.size_toArray, List.length_take, List.length_drop, Array.length_toList]
    omega
  have hj : sIx items.size items.size hi ≤ items.size := sIx_le _ _ (Nat.le_refl _) hi
  obtain ⟨os, hos, hcs, hds⟩ := id hs
  have hTs : s.TypeIs (.ref sl) "slice" := ⟨os, hos, hcs⟩
  unfold getItem
  try with_reducible refine wpAny_holding ?_
  first | refine wpAny_bind (wpAny_pure ?_) | skip
  refine wpAny_bind (wpAny_sequenceKey ht.typeIs (by decide) ?_)
  refine wpAny_bind (wpAny_callSpecial?_slot (name := Str.ofString "__getitem__") ht.typeIs PyProof.Rows.slot_tuple_getitem
    (wpAny_call_entry PyProof.Rows.slot_tuple_getitem ht.typeIs entry_tuple_getitem ?_ (args_tuple_getitem _ _)))
  show wpAny _ _ (Builtin.Tuple.tupleItemsOf (.ref t) >>= _) _ _ s
  refine wpAny_bind (tupleItemsOf_ ht ?_)
  refine wpAny_bind (wpAny_typeOf hTs ?_)
  rw [if_pos (by decide)]
  refine wpAny_bind (sliceApplied_gen hs pl pu ?_)
  have hno : ¬ ((((sIx items.size 0 lo : Nat) : Int) == 0 && (1 : Int) == 1 && (sIx items.size items.size hi - sIx items.size 0 lo) == items.size) = true) := by
    intro q
    rw [Bool.and_eq_true, Bool.and_eq_true] at q
    have q1 : ((sIx items.size 0 lo : Nat) : Int) = 0 := eq_of_beq q.1.1
    have q2 : sIx items.size items.size hi - sIx items.size 0 lo = items.size := eq_of_beq q.2
    exact hw ⟨by omega, by omega⟩
  show wpAny _ _ (if (((sIx items.size 0 lo : Nat) : Int) == 0 && (1 : Int) == 1 && (sIx items.size items.size hi - sIx items.size 0 lo) == items.size) = true then _ else _) _ _ s
  rw [if_neg hno, pick_gen]
  first
    | exact wpAny_bind (m := Builtin.Tuple.tupleExact _) (wpAny_newObj_type (wpAny_pure ⟨_, rfl, wpAny_pure h⟩) htake)
    | exact wpAny_bind (m := Builtin.Tuple.tupleExact _) (wpAny_newObj_type (wpAny_bind (wpAny_pure (wpAny_pure ⟨_, rfl, wpAny_pure h⟩))) htake)
    | exact wpAny_bind (wpAny_bind (m := Builtin.Tuple.tupleExact _) (wpAny_newObj_type (wpAny_pure (wpAny_pure ⟨_, rfl, wpAny_pure h⟩)) htake))
    | exact wpAny_bind (wpAny_bind (m := Builtin.Tuple.tupleExact _) (wpAny_newObj_type (wpAny_pure ⟨_, rfl, wpAny_pure h⟩) htake))
end
end HT
namespace L2
open PySem PySem.Spec PyProof.Rows
abbrev TO := St → Hp → (Option Int → Hp → Prop) → Prop
def PO (X : Cx) (e : Option Expr) (t : TO) : Prop :=
  ∀ (pins : List (Addr × Obj)) (s : Shared) (σ : St) (H : Hp) (Q : Option Int → Hp → Prop), Inv X pins σ H s → t σ H Q →
    wpAny (model X.prog X.w) X.A (evalPart e X.env) (fun u s' => ∃ o H', Inv X pins σ H' s' ∧ IsPart u o ∧ Q o H') X.xe s
def tNoPart : TO := fun _ H Q => Q none H
def tPart (t : TE) : TO := fun σ H Q => t σ H fun x H1 => ∃ i, x = .int i ∧ Q (some i) H1
theorem intsAre_of {ns : List Int} : ∀ {us : List Value}, Vals (ns.map V.int) us → IntsAre us ns := by
  induction ns with
  | nil => intro us r; rw [List.map_nil] at r; cases r; exact .nil
  | cons n ns ih =>
    intro us r
    rw [List.map_cons] at r
    cases r with
    | cons r1 r2 =>
      obtain ⟨t, e⟩ := r1
      subst e
      exact .cons n t (ih r2)
section
variable {X : Cx} {e : Expr} {te : TE} {lo hi : Option Expr} {tl th : TO} {pos p2 : Pos}
theorem po_none : PO X none tNoPart := by
  intro pins s σ H Q I h
  rw [evalPart_none]
  exact wpAny_pure ⟨none, H, I, .none, h⟩
theorem po_some (h : PE X e te) : PO X (some e) (tPart te) := by
  intro pins s σ H Q I hw
  rw [evalPart_some]
  refine thn (h pins s σ H _ I hw) fun u s1 zx30 => ?_
  obtain ⟨x, H1, I1, r1, q1⟩ := zx30
  obtain ⟨i, rfl, q⟩ := q1
  obtain ⟨t, rfl⟩ := r1
  exact ⟨some i, H1, I1, .int i t, q⟩
def SlR (X : Cx) (r : V → Option Int → Option Int → Hp → VK → Prop) : Prop :=
  ∀ (pins : List (Addr × Obj)) (s : Shared) (σ : St) (H : Hp) (x : V) (v vl vu : Value) (lo hi : Option Int) (sl : Addr) (Q : VK), Inv X pins σ H s → RelV x v → s.heap.IsSliceOf sl vl vu .none → IsPart vl lo → IsPart vu hi → r x lo hi H Q →
    ∃ T id, typeLookup (.type T) "__getitem__" = pure (some (.builtin id)) ∧ s.TypeIs v T ∧ wpAny (model X.prog X.w) X.A (getItem v (.ref sl)) (EP X pins σ Q) X.xe s
def tSl (r : V → Option Int → Option Int → Hp → VK → Prop) (te : TE) (tl th : TO) : TE := fun σ H Q => te σ H fun x H1 => tl σ H1 fun l H2 => th σ H2 fun u H3 => r x l u H3 Q
theorem pe_slice {r : V → Option Int → Option Int → Hp → VK → Prop} (hr : SlR X r) (he : PE X e te) (hl : PO X lo tl) (hu : PO X hi th) : PE X (.Subscript e (.Slice lo hi none p2) pos) (tSl r te tl th) := by
  intro pins s σ H Q I h
  refine Subscript_ (thn (he pins s σ H _ I h) fun v s1 zx31 => ?_)
  obtain ⟨x, H1, I1, r1, q1⟩ := zx31
  refine wpAny_Slice (thn (hl pins s1 σ H1 _ I1 q1) fun vl s2 ⟨l, H2, I2, pl, q2⟩ => thn (hu pins s2 σ H2 _ I2 q2) fun vu s3 zx32 => ?_)
  obtain ⟨u, H3, I3, pu, q3⟩ := zx32
  rw [evalPart_none]
  refine wpAny_pure ?_
  have I4 : Inv X pins σ H3 { s3 with heap := s3.heap.push { cls := .type "slice", data := .fields #[vl, vu, .none] } } := I3.kept (t' := s3.toks) fun b ob q => Heap.get?_push_of_some _ q
  obtain ⟨T, id, hT, ht, hg⟩ := hr pins { s3 with heap := s3.heap.push { cls := .type "slice", data := .fields #[vl, vu, .none] } } σ H3 x v vl vu l u s3.heap.objs.size Q I4 r1 (Heap.IsSliceOf.new ..) pl pu q3
  show wpAny (model X.prog X.w) X.A (subscriptTail e (.Slice lo hi none p2) v (.ref s3.heap.objs.size)) (EP X pins σ Q) X.xe { s3 with heap := s3.heap.push { cls := .type "slice", data := .fields #[vl, vu, .none] } }
  exact tail_any (ops := [.ref s3.heap.objs.size, v]) ht hT hg (by with_unfolding_all rfl)
def cutV (xs : List V) (lo hi : Option Int) : List V := (xs.drop (HT.sIx xs.length 0 lo)).take (HT.sIx xs.length xs.length hi - HT.sIx xs.length 0 lo)
theorem cutV_length (xs : List V) (lo hi : Option Int) : (cutV xs lo hi).length ≤ xs.length := by
  unfold cutV
  rw [List.length_take, List.length_drop]
  omega
def rSlT (K : PySem.W.Frag) : V → Option Int → Option Int → Hp → VK → Prop := fun x lo hi H Q => ∃ a xs, x = .ref a ∧ SqT K H a xs ∧
  ¬ (HT.sIx xs.length 0 lo = 0 ∧ HT.sIx xs.length xs.length hi = xs.length) ∧ ∀ p, H p = none → Q (.ref p) (upd H p (.tup (cutV xs lo hi)))
theorem sl_tup : SlR X (rSlT X.K) := by
  intro pins s σ H x v vl vu lo hi sl Q I rx hs pl pu h
  obtain ⟨a, xs, rfl, hx, hw, q⟩ := h
  cases rx
  obtain ⟨its, r, ht, hz⟩ := I.tuple hx
  have hlen : its.toArray.size = xs.length := by rw [List.size_toArray]; exact r.length.symm
  refine ⟨"tuple", _, PyProof.Rows.slot_tuple_getitem.lookup, ht.typeIs, ?_⟩
  refine HT.getItem_tuple_cut ht hs pl pu (by rw [hlen]; exact hw) ?_ (by rw [hlen]; exact hz)
  rw [hlen]
  refine ⟨.ref s.heap.objs.size, _, I.laid (t' := s.toks) (o := .tup (cutV xs lo hi)) (fun b ob q => Heap.get?_push_of_some _ q) (Nat.le_refl _) ?_, rfl, q _ (I.hok.fresh (Nat.le_refl _))⟩
  exact ⟨Nat.le_trans (cutV_length xs lo hi) hz, _, (r.drop (HT.sIx xs.length 0 lo)).take (HT.sIx xs.length xs.length hi - HT.sIx xs.length 0 lo), IsTup.new _ _⟩
end
end L2
namespace L2
open PySem PySem.Spec PyProof.Rows
def ixN (n : Nat) (i : Int) : Option Nat := if 0 ≤ i then (if i < n then some i.toNat else none) else if -(n : Int) ≤ i then some (i + n).toNat else none
def atI {α : Type} (xs : List α) (i : Int) : Option α := (ixN xs.length i).bind fun j => xs[j]?
theorem ixN_seq {n : Nat} {i : Int} {j : Nat} (h : ixN n i = some j) : seqIndex? i n = some j ∧ j < n ∧ -(n : Int) ≤ i ∧ i < n := by
  unfold ixN at h
  by_cases h0 : 0 ≤ i
  · rw [if_pos h0] at h
    by_cases h1 : i < n
    · rw [if_pos h1] at h
      have e : i.toNat = j := Option.some.inj h
      exact ⟨by rw [seqIndex_of h0 h1, e], by omega, by omega, h1⟩
    · rw [if_neg h1] at h; cases h
  · rw [if_neg h0] at h
    by_cases h1 : -(n : Int) ≤ i
    · rw [if_pos h1] at h
      have e : (i + n).toNat = j := Option.some.inj h
      exact ⟨by rw [seqIndex_neg (by omega) h1, e], by omega, h1, by omega⟩
    · rw [if_neg h1] at h; cases h
theorem atI_get {α : Type} {xs : List α} {i : Int} {v : α} (h : atI xs i = some v) : ∃ j, seqIndex? i xs.length = some j ∧ xs[j]? = some v ∧ j < xs.length ∧ -(xs.length : Int) ≤ i ∧ i < xs.length := by
  unfold atI at h
  cases e : ixN xs.length i with
  | none => rw [e] at h; cases h
  | some j =>
    rw [e] at h
    obtain ⟨h1, h2, h3, h4⟩ := ixN_seq e
    exact ⟨j, h1, h, h2, h3, h4⟩
theorem atI_nat {α : Type} {xs : List α} {j : Nat} {v : α} (h : xs[j]? = some v) : atI xs (j : Int) = some v := by
  have hj : j < xs.length := (List.getElem?_eq_some_iff.mp h).1
  have e : ixN xs.length (j : Int) = some j := by
    unfold ixN
    rw [if_pos (by omega), if_pos (by omega)]; simp
  unfold atI; rw [e]; exact h
theorem atI_last {α : Type} (xs : List α) (v : α) : atI (xs ++ [v]) (-1) = some v := by
  have hl : (xs ++ [v]).length = xs.length + 1 := by simp
  have e : ixN (xs ++ [v]).length (-1) = some xs.length := by
    unfold ixN
    rw [hl, if_neg (by decide), if_pos (by omega)]
    congr 1
    omega
  unfold atI
  rw [e]
  show (xs ++ [v])[xs.length]? = some v
  simp
def PlainIx (b : Expr) : Prop := ∀ o i, subscripted b false o i = operate [o, i] (getItem o i)
def IxR (X : Cx) (r : R2) : Prop :=
  ∀ (value slice : Expr) (pins : List (Addr × Obj)) (s : Shared) (σ : St) (H : Hp) (x y : V) (v u : Value) (Q : VK), Inv X pins σ H s → RelV x v → RelV y u → r x y H Q →
    subscripted slice false v u = operate [v, u] (getItem v u) → wpAny (model X.prog X.w) X.A (subscriptTail value slice v u) (EP X pins σ Q) X.xe s
def MtR (X : Cx) (id : String) (r : V → List V → Hp → VK → Prop) : Prop :=
  ∀ (pins : List (Addr × Obj)) (s : Shared) (σ : St) (H : Hp) (x : V) (xs : List V) (v : Value) (us : List Value) (Q : VK), Inv X pins σ H s → RelV x v → Vals xs us → r x xs H Q →
    wpAny (model X.prog X.w) X.A (call (.builtin id) (v :: us)) (EP X pins σ Q) X.xe s
section
variable {X : Cx} {a b : Expr} {ta tb : TE} {pos : Pos}
theorem IxR.or {r r' : R2} (h : IxR X r) (h' : IxR X r') : IxR X (fun x y H Q => r x y H Q ∨ r' x y H Q) := by
  intro value slice pins s σ H x y v u Q I rx ry q hs
  rcases q with q | q
  · exact h value slice pins s σ H x y v u Q I rx ry q hs
  · exact h' value slice pins s σ H x y v u Q I rx ry q hs
theorem pe_ix {r : R2} (hr : IxR X r) (ha : PE X a ta) (hb : PE X b tb) (hs : PlainIx b) : PE X (.Subscript a b pos) (tOp r ta tb) := by
  intro pins s σ H Q I h
  exact Subscript_ (binT ha hb I h fun v u s2 x y H2 I2 rx ry q => hr a b pins s2 σ H2 x y v u Q I2 rx ry q (hs _ _))
def rIxL (K : PySem.W.Frag) : R2 := fun x y H Q => ∃ p xs i v, x = .ref p ∧ y = .int i ∧ SqL K H p xs ∧ atI xs i = some v ∧ Q v H
def rIxT (K : PySem.W.Frag) : R2 := fun x y H Q => ∃ p xs i v, x = .ref p ∧ y = .int i ∧ SqT K H p xs ∧ atI xs i = some v ∧ Q v H
def rIxS : R2 := fun x y H Q => ∃ z i c, x = .str z ∧ y = .int i ∧ z.length ≤ sizeLine ∧ atI z.cps.toList i = some c ∧ Q (.str ⟨#[c]⟩) H
theorem ix_list : IxR X (rIxL X.K) := by
  intro value slice pins s σ H x y v u Q I rx ry h hs
  obtain ⟨p, xs, i, z, rfl, rfl, hq, he, q⟩ := h
  cases rx
  obtain ⟨t, rfl⟩ := ry
  obtain ⟨its, r, pl, hz⟩ := I.list hq
  obtain ⟨j, h1, h2, h3, h4, h5⟩ := atI_get he
  obtain ⟨w, ew, rw'⟩ := r.get h2
  have hl := r.length
  have hn := line63
  have fin : EP X pins σ Q w s := ⟨z, H, I, rw', q⟩
  by_cases h0 : 0 ≤ i
  · have hj : i.toNat = j := by
      rw [seqIndex_of h0 h5] at h1
      exact Option.some.inj h1
    exact item_listR pl.isList h0 (by omega) (by rw [hj]; simpa using ew) fin hs
  · have hj : (i + (its.toArray.size : Int)).toNat = j := by
      rw [seqIndex_neg (by omega) h4] at h1
      rw [List.size_toArray, ← hl]
      exact Option.some.inj h1
    exact subscriptTail_builtinR (x := w) pl.isList.typeIs slot_list_getitem.lookup
      (wpAny_getItem_list_neg (Q := fun r s' => r = w ∧ EP X pins σ Q r s') pl.isList (by omega) (by rw [List.size_toArray] <;> omega) (by omega) (by rw [hj]; simpa using ew) ⟨rfl, fin⟩) hs
theorem ix_tup : IxR X (rIxT X.K) := by
  intro value slice pins s σ H x y v u Q I rx ry h hs
  obtain ⟨p, xs, i, z, rfl, rfl, hq, he, q⟩ := h
  cases rx
  obtain ⟨t, rfl⟩ := ry
  obtain ⟨its, r, pl, hz⟩ := I.tuple hq
  obtain ⟨j, h1, h2, h3, h4, h5⟩ := atI_get he
  obtain ⟨w, ew, rw'⟩ := r.get h2
  have hl := r.length
  have hn := line63
  have fin : EP X pins σ Q w s := ⟨z, H, I, rw', q⟩
  exact subscriptTail_builtinR (x := w) pl.typeIs slot_tuple_getitem.lookup
    (getItem_tuple (j := j) (Q := fun r s' => r = w ∧ EP X pins σ Q r s') pl (by omega) (by omega) (by rw [List.size_toArray, ← hl]; exact h1) (by simpa using ew) ⟨rfl, fin⟩) hs
theorem ix_str : IxR X rIxS := by
  intro value slice pins s σ H x y v u Q I rx ry h hs
  obtain ⟨z, i, c, rfl, rfl, hz, he, q⟩ := h
  obtain ⟨t, rfl⟩ := rx
  obtain ⟨t', rfl⟩ := ry
  obtain ⟨j, h1, h2, h3, h4, h5⟩ := atI_get he
  have hl : z.cps.toList.length = z.length := by simp [Str.length]
  rw [hl] at h1 h4 h5
  have hn := line63
  exact tail_any (typeIs_str s z t) slot_str_getitem.lookup (getItem_str (c := c) (by
    have e1 : decide (i < -(2 ^ 63 : Int)) = false := decide_eq_false (by omega)
    have e2 : decide (i ≥ 2 ^ 63) = false := decide_eq_false (by omega)
    rw [e1, e2, Bool.or_false]) (by rw [h1]; simpa using h2) ⟨.str ⟨#[c]⟩, H, I.tok _, ⟨_, rfl⟩, q⟩) hs
def rIx (K : PySem.W.Frag) : R2 := fun x y H Q => rIxL K x y H Q ∨ rIxT K x y H Q ∨ rIxS x y H Q
theorem ix_seq : IxR X (rIx X.K) := ix_list.or (ix_tup.or ix_str)
theorem mapSeq_set (its : List Value) (n j : Nat) (u : Value) : Obj.mapSeq (·.setIfInBounds j u) { cls := .type "list", data := .seq its.toArray n } = { cls := .type "list", data := .seq (its.set j u).toArray n } := by
  simp [Obj.mapSeq]
theorem Inv.lst {pins : List (Addr × Obj)} {σ : St} {H : Hp} {s : Shared} {p : Addr} {xs : List V} (I : Inv X pins σ H s) (h : H p = some (.lst xs)) :
    ∃ (its : List Value) (n : Nat), Vals xs its ∧ s.heap.get? p = some { cls := .type "list", data := .seq its.toArray n } ∧ xs.length ≤ sizeLine := by
  obtain ⟨z, its, n, r, e⟩ := I.hok p _ h
  exact ⟨its, n, r, e, z⟩
theorem Inv.lstUpd {pins : List (Addr × Obj)} {σ : St} {H : Hp} {s : Shared} {p : Addr} {xs ys : List V} {its its' : List Value} {n n' : Nat} {f : Obj → Obj} (I : Inv X pins σ H s) (h : H p = some (.lst xs))
    (ho : s.heap.get? p = some { cls := .type "list", data := .seq its.toArray n }) (hf : f { cls := .type "list", data := .seq its.toArray n } = { cls := .type "list", data := .seq its'.toArray n' }) (r : Vals ys its') (hz : ys.length ≤ sizeLine) (t : Nat) :
    Inv X pins σ (upd H p (.lst ys)) { s with heap := s.heap.update p f, toks := t } := by
  have e : (s.heap.update p f).get? p = some { cls := .type "list", data := .seq its'.toArray n' } := by
    rw [Heap.get?_update_self f ho (by rw [hf] <;> rfl), hf]
  refine I.write (x := p) (e := p) (by rw [h]; trivial) (.inl rfl) (fun b u hb q => (Heap.get?_update_other _ _ (Ne.symm hb)).trans q) ⟨_, e⟩ ?_
  exact ⟨hz, its', n', r, e⟩
def rSetL : V → V → V → Hp → (Hp → Prop) → Prop := fun o i v H Q => ∃ p xs k j, o = .ref p ∧ i = .int k ∧ H p = some (.lst xs) ∧ ixN xs.length k = some j ∧ Q (upd H p (.lst (xs.set j v)))
theorem set_list : PSet X rSetL := by
  intro pins s σ H o i v ov iv u Q I ro ri rv h
  obtain ⟨p, xs, k, j, rfl, rfl, hp, hj, q⟩ := h
  cases ro
  obtain ⟨t, rfl⟩ := ri
  obtain ⟨its, n, r, ho, hz⟩ := I.lst hp
  obtain ⟨h1, h2, h3, h4⟩ := ixN_seq hj
  have hl := r.length
  have hn := line63
  have I' : Inv X pins σ (upd H p (.lst (xs.set j v))) { s with heap := s.heap.update p (Obj.mapSeq (·.setIfInBounds j u)) } :=
    I.lstUpd hp ho (mapSeq_set its n j u) (r.set rv j) (by rw [List.length_set]; exact hz) s.toks
  by_cases h0 : 0 ≤ k
  · have hk : k.toNat = j := by
      rw [seqIndex_of h0 h4] at h1
      exact Option.some.inj h1
    exact PySem.W.ki_setAt ho h0 (by omega) (by rw [List.size_toArray, ← hl]; exact h4) (by rw [hk]; exact ⟨_, I', q⟩)
  · have hk : (k + (its.toArray.size : Int)).toNat = j := by
      rw [seqIndex_neg (by omega) h3] at h1
      rw [List.size_toArray, ← hl]
      exact Option.some.inj h1
    exact PySem.W.ki_setBack ho (by omega) (by rw [List.size_toArray, ← hl]; exact h3) (by omega) (by rw [hk]; exact ⟨_, I', q⟩)
theorem slice_bounds (lo hi : Option Int) (n : Nat) : (sliceBounds lo hi none n).1 = ((HT.sIx n 0 lo : Nat) : Int) ∧ (sliceBounds lo hi none n).2.1 = ((HT.sIx n n hi : Nat) : Int) ∧ (sliceBounds lo hi none n).2.2 = 1 := by
  refine ⟨?_, ?_, rfl⟩
  · cases lo with
    | none => simp [sliceBounds, HT.sIx]
    | some i =>
      simp only [sliceBounds, HT.sIx, Option.getD_none, show (1 : Int) > 0 by decide, if_true]
      by_cases h : i < 0
      · simp only [h, if_true] <;> omega
      · simp only [h, if_false] <;> omega
  · cases hi with
    | none => simp [sliceBounds, HT.sIx]
    | some i =>
      simp only [sliceBounds, HT.sIx, Option.getD_none, show (1 : Int) > 0 by decide, if_true]
      by_cases h : i < 0
      · simp only [h, if_true] <;> omega
      · simp only [h, if_false] <;> omega
theorem slicePick_cut (its : List Value) (lo hi : Option Int) : slicePick its.toArray lo hi none = ((its.drop (HT.sIx its.length 0 lo)).take (HT.sIx its.length its.length hi - HT.sIx its.length 0 lo)).toArray := by
  obtain ⟨h1, h2, h3⟩ := slice_bounds lo hi its.toArray.size
  unfold slicePick
  rw [h1, h2, h3]
  simp only [sliceRange_one, pick_run, List.size_toArray] <;> rfl
def rSlL (K : PySem.W.Frag) : V → Option Int → Option Int → Hp → VK → Prop := fun x lo hi H Q => ∃ a xs, x = .ref a ∧ SqL K H a xs ∧ ∀ p, H p = none → Q (.ref p) (upd H p (.lst (cutV xs lo hi)))
theorem sl_list : SlR X (rSlL X.K) := by
  intro pins s σ H x v vl vu lo hi sl Q I rx hs pl pu h
  obtain ⟨a, xs, rfl, hx, q⟩ := h
  cases rx
  obtain ⟨its, r, ht, hz⟩ := I.list hx
  have hlen := r.length
  refine ⟨"list", _, slot_list_getitem.lookup, ht.isList.typeIs, ?_⟩
  refine wpAny_getItem_list_slice ht.isList hs pl pu .none (by simp) ?_ (by rw [List.size_toArray] <;> omega)
  rw [slicePick_cut, ← hlen]
  refine ⟨.ref s.heap.objs.size, _, I.laid (t' := s.toks) (o := .lst (cutV xs lo hi)) (fun b ob q => Heap.get?_push_of_some _ q) (Nat.le_refl _) ?_, rfl, q _ (I.hok.fresh (Nat.le_refl _))⟩
  exact ⟨Nat.le_trans (cutV_length xs lo hi) hz, _, 0, (r.drop (HT.sIx xs.length 0 lo)).take (HT.sIx xs.length xs.length hi - HT.sIx xs.length 0 lo), Heap.get?_push_size _ rfl⟩
def flatV : V → Bool
  | .non => true
  | .bl _ => true
  | .int _ => true
  | .str _ => true
  | _ => false
def eqV : V → V → Bool
  | .non, .non => true
  | .bl a, .bl b => a == b
  | .bl a, .int b => (if a then 1 else 0) == b
  | .int a, .bl b => a == (if b then 1 else 0)
  | .int a, .int b => a == b
  | .str a, .str b => a == b
  | _, _ => false
theorem eqAt_V {A : Around} {s : Shared} {y x : V} {u v : Value} (ry : RelV y u) (rx : RelV x v) (fy : flatV y = true) (fx : flatV x = true) : SeqAt.EqAt A s u v (eqV y x) := by
  cases y with
  | non =>
    cases ry
    cases x with
    | non => cases rx; exact SeqAt.EqAt.same _
    | bl b => cases rx; exact SeqAt.EqAt.none_bool b
    | int b => obtain ⟨t, rfl⟩ := rx; exact SeqAt.EqAt.none_int b t
    | str b => obtain ⟨t, rfl⟩ := rx; exact SeqAt.EqAt.none_str b t
    | _ => exact absurd (show false = true from fx) Bool.false_ne_true
  | bl a =>
    cases ry
    cases x with
    | non => cases rx; exact SeqAt.EqAt.bool_none a
    | bl b => cases rx; exact SeqAt.EqAt.bool_bool a b
    | int b => obtain ⟨t, rfl⟩ := rx; exact SeqAt.EqAt.bool_int a b t
    | str b => obtain ⟨t, rfl⟩ := rx; exact SeqAt.EqAt.bool_str a b t
    | _ => exact absurd (show false = true from fx) Bool.false_ne_true
  | int a =>
    obtain ⟨t', rfl⟩ := ry
    cases x with
    | non => cases rx; exact SeqAt.EqAt.int_none a t'
    | bl b => cases rx; exact SeqAt.EqAt.int_bool a t' b
    | int b => obtain ⟨t, rfl⟩ := rx; exact SeqAt.EqAt.int_int a t' b t
    | str b => obtain ⟨t, rfl⟩ := rx; exact SeqAt.EqAt.int_str a t' b t
    | _ => exact absurd (show false = true from fx) Bool.false_ne_true
  | str a =>
    obtain ⟨t', rfl⟩ := ry
    cases x with
    | non => cases rx; exact SeqAt.EqAt.str_none a t'
    | bl b => cases rx; exact SeqAt.EqAt.str_bool a t' b
    | int b => obtain ⟨t, rfl⟩ := rx; exact SeqAt.EqAt.str_int a t' b t
    | str b => obtain ⟨t, rfl⟩ := rx; exact SeqAt.EqAt.str_str a t' b t
    | _ => exact absurd (show false = true from fx) Bool.false_ne_true
  | _ => exact absurd (show false = true from fy) Bool.false_ne_true
def eqU (x : V) (u : Value) : Bool := match u with
  | .none => eqV .non x
  | .bool b => eqV (.bl b) x
  | .int i _ => eqV (.int i) x
  | .str z _ => eqV (.str z) x
  | _ => false
theorem eqU_of {x y : V} {u : Value} (r : RelV y u) (f : flatV y = true) : eqU x u = eqV y x := by
  cases y with
  | non => cases r; rfl
  | bl b => cases r; rfl
  | int i => obtain ⟨t, rfl⟩ := r; rfl
  | str z => obtain ⟨t, rfl⟩ := r; rfl
  | _ => exact absurd (show false = true from f) Bool.false_ne_true
theorem any_eqU {x : V} : ∀ {xs : List V} {us : List Value}, Vals xs us → xs.all flatV = true → us.any (eqU x) = xs.any fun y => eqV y x
  | _, _, .nil, _ => rfl
  | y :: xs, u :: us, .cons r t, f => by
    rw [List.all_cons, Bool.and_eq_true] at f
    rw [List.any_cons, List.any_cons, eqU_of r f.1, any_eqU t f.2]
theorem mem_eqAt {A : Around} {s : Shared} {x : V} {v : Value} (rx : RelV x v) (fx : flatV x = true) : ∀ {xs : List V} {us : List Value}, Vals xs us → xs.all flatV = true → ∀ u ∈ us, SeqAt.EqAt A s u v (eqU x u)
  | _, _, .nil, _ => fun u hu => by cases hu
  | y :: xs, u :: us, .cons r t, f => fun u' hu => by
    rw [List.all_cons, Bool.and_eq_true] at f
    rcases List.mem_cons.mp hu with rfl | hu
    · rw [eqU_of r f.1]; exact eqAt_V r rx f.1 fx
    · exact mem_eqAt rx fx t f.2 u' hu
def inV (x : V) (xs : List V) : Bool := xs.any fun y => eqV y x
def rIn (K : PySem.W.Frag) (neg : Bool) : R2 := fun x y H Q => ∃ p xs, y = .ref p ∧ (SqL K H p xs ∨ SqT K H p xs) ∧ flatV x = true ∧ xs.all flatV = true ∧ Q (.bl (if neg then !inV x xs else inV x xs)) H
theorem op_in_seq : OpR X (compareOp .In) (rIn X.K false) := by
  intro pins s σ H x y v u Q I rx ry h
  obtain ⟨p, xs, rfl, hq, fx, fs, q⟩ := h
  cases ry
  rcases hq with hq | hq
  · obtain ⟨its, r, pl, hz⟩ := I.list hq
    refine SeqAt.in_listAt (eqU x) pl.isList (fun w hw => mem_eqAt rx fx r fs w (by simpa using hw)) ⟨.bl _, H, I, rfl, ?_⟩
    rw [show its.toArray.any (eqU x) = its.any (eqU x) by simp, any_eqU r fs]
    exact q
  · obtain ⟨its, r, pl, hz⟩ := I.tuple hq
    refine SeqAt.in_tupleAt (eqU x) pl (fun w hw => mem_eqAt rx fx r fs w (by simpa using hw)) ⟨.bl _, H, I, rfl, ?_⟩
    rw [show its.toArray.any (eqU x) = its.any (eqU x) by simp, any_eqU r fs]
    exact q
theorem call_len_seq : CallR X (.builtin "len") (fun xs H Q => ∃ p ys, xs = [.ref p] ∧ (SqL X.K H p ys ∨ SqT X.K H p ys) ∧ Q (.int ys.length) H) := by
  intro pins s σ H xs us Q I r h
  obtain ⟨p, ys, rfl, hq, q⟩ := h
  obtain ⟨u, rfl, rx⟩ := vals1 r
  cases rx
  have hn := line63
  rcases hq with hq | hq
  · obtain ⟨its, r', pl, hz⟩ := I.list hq
    have hlen := r'.length
    exact Calls.call_len_list pl.isList (by simp only [List.size_toArray] <;> omega) ⟨.int ys.length, H, I.tok _, ⟨s.toks + 1, by rw [List.size_toArray, hlen]⟩, q⟩
  · obtain ⟨its, r', pl, hz⟩ := I.tuple hq
    have hlen := r'.length
    exact len_tuple pl (by simp only [List.size_toArray] <;> omega) ⟨.int ys.length, H, I.tok _, ⟨s.toks + 1, by rw [List.size_toArray, hlen]⟩, q⟩
def tyV (K : PySem.W.Frag) (T : String) (x : V) (H : Hp) : Prop := match x with
  | .str _ => T = "str"
  | .int _ => T = "int"
  | .ref p => (T = "list" ∧ ∃ xs, SqL K H p xs) ∨ (T = "tuple" ∧ ∃ o, K.lookup p = some o ∧ o.cls = .type "tuple" ∧ o.dict = none) ∨
      (T = "dict" ∧ ((∃ kvs, H p = some (.dK kvs)) ∨ ∃ kvs, H p = some (.dT kvs))) ∨ (T = "set" ∧ ∃ S n, H p = some (.set S n))
  | _ => False
theorem tyV_is {pins : List (Addr × Obj)} {σ : St} {H : Hp} {s : Shared} {T : String} {x : V} {v : Value} (I : Inv X pins σ H s) (r : RelV x v) (ty : tyV X.K T x H) :
    s.TypeIs v T ∧ ∀ a, v = .ref a → ∃ ob, s.heap.get? a = some ob ∧ ob.dict = none := by
  cases x with
  | str z =>
    obtain ⟨t, rfl⟩ := r
    cases (show T = "str" from ty)
    exact ⟨typeIs_str s z t, fun _ e => nomatch e⟩
  | int i =>
    obtain ⟨t, rfl⟩ := r
    cases (show T = "int" from ty)
    exact ⟨typeIs_int s i t, fun _ e => nomatch e⟩
  | ref p =>
    cases r
    rcases ty with ⟨rfl, xs, hq⟩ | ⟨rfl, o, hk, hc, hd⟩ | ⟨rfl, hk⟩ | ⟨rfl, S, n, hk⟩
    · obtain ⟨its, _, pl, _⟩ := I.list hq
      refine ⟨pl.isList.typeIs, fun a e => ?_⟩
      cases e
      obtain ⟨o, n, e, c, hd, _⟩ := pl
      exact ⟨o, e, hd⟩
    · refine ⟨⟨o, I.kIn p o hk, hc⟩, fun a e => ?_⟩
      cases e
      exact ⟨o, I.kIn _ o hk, hd⟩
    · have z : ∃ o, s.heap.get? p = some o ∧ o.ExactDict := by
        rcases hk with ⟨kvs, hk⟩ | ⟨kvs, hk⟩
        · obtain ⟨_, _, _, _, o, _, _, e, ex, _⟩ := I.hok p _ hk
          exact ⟨o, e, ex⟩
        · obtain ⟨_, _, _, _, o, _, _, e, ex, _⟩ := I.hok p _ hk
          exact ⟨o, e, ex⟩
      obtain ⟨o, e, ex⟩ := z
      refine ⟨⟨o, e, ex.1⟩, fun a e2 => ?_⟩
      cases e2
      exact ⟨o, e, ex.2.1⟩
    · obtain ⟨o, _, _, _, e, ex, _⟩ := I.hok p _ hk
      refine ⟨⟨o, e, ex.1⟩, fun a e2 => ?_⟩
      cases e2
      exact ⟨o, e, ex.2.1⟩
  | _ => exact False.elim ty
def tBM (K : PySem.W.Frag) (T : String) (r : V → List V → Hp → VK → Prop) (to : TE) (t : TA) : TE := fun σ H Q => to σ H fun x H1 => tyV K T x H1 ∧ t σ H1 fun xs H2 => r x xs H2 Q
variable {o e : Expr} {es : List Expr} {to : TE} {t : TA} {name : Str} {apos cpos : Pos} {T id : String} {r : V → List V → Hp → VK → Prop}
theorem pe_bm (pa : PlainAttrs T) (slot : Slot T name id) (hty : typeOf (.builtin id) = pure (.type "method_descriptor")) (hm : MtR X id r) (ho : PE X o to) (ha : PA X (e :: es) t)
    (hbase : attributeBase o name X.env (eval o X.env) = eval o X.env := by rfl)
    (hfew : ((backTo cpos (starEach (e :: es) X.env)).all (fun x => !x.1) && (backToKw cpos (keywordEach [] X.env)).all (fun x => x.1.isSome)
      && decide ((e :: es).length + ([] : List Keyword).length + (if ([] : List Keyword).isEmpty then 0 else 1) < 30)) = true := by rfl)
    (hline : (apos.endLine == cpos.line) = true := by rfl) (hs : starEach (e :: es) X.env = (false, eval e X.env) :: starEach es X.env := by rfl) (hplain : (backTo cpos (starEach es X.env)).any (·.1) = false := by rfl) :
    PE X (.Call (.Attribute o name apos) (e :: es) [] cpos) (tBM X.K T r to t) := by
  intro pins s σ H Q I h
  refine wpAny_Call_method_late hbase hfew hline rfl (thn (ho pins s σ H _ I h) fun v s1 zx33 => ?_)
  obtain ⟨x, H1, I1, r1, ty, q1⟩ := zx33
  obtain ⟨h1, h2⟩ := tyV_is I1 r1 ty
  refine ⟨T, id, pa, slot, hty, h1, h2, ?_⟩
  have hA := ha cpos pins s1 σ H1 _ I1 q1
  rw [hs] at hA ⊢
  refine Calls.callWith_builtin (by show (false || (backTo cpos (starEach es X.env)).any (·.1)) = false; rw [hplain] <;> rfl) (Calls.evalArgs_plain ?_)
  exact thn hA fun us s2 ⟨vs, H2, I2, r2, q2⟩ => hm pins s2 σ H2 x vs v us Q I2 r1 r2 q2
/- xs.append(e), list.index on a module's tuple .. are MtR facts of 06m -/
end
end L2
namespace L2
open PySem PySem.Spec PyProof.Rows
def MtM (X : Cx) (id : String) (r : V → List V → Hp → VK → Prop) : Prop :=
  ∀ (pins : List (Addr × Obj)) (s : Shared) (σ : St) (H : Hp) (x : V) (xs : List V) (v : Value) (us : List Value) (Q : VK), Inv X pins σ H s → RelV x v → Vals xs us → r x xs H Q →
    wpAny (model X.prog X.w) X.A (call (.builtin id) (v :: us)) (EP X pins σ Q) X.xe s
theorem Vals.one : ∀ {x : V} {us : List Value}, Vals [x] us → ∃ u, us = [u] ∧ RelV x u
  | _, _, .cons r .nil => ⟨_, rfl, r⟩
theorem Vals.rep {xs : List V} {us : List Value} (h : Vals xs us) : ∀ k : Nat, Vals (List.replicate k xs).flatten (List.replicate k us).flatten
  | 0 => .nil
  | k + 1 => by
    rw [List.replicate_succ, List.replicate_succ, List.flatten_cons, List.flatten_cons]
    exact Vals.append h (Vals.rep h k)
theorem foldl_rep (its : List Value) : ∀ (k : Nat) (acc : List Value),
    List.foldl (fun x1 x2 => x1 ++ x2) acc.toArray (List.replicate k its.toArray) = (acc ++ (List.replicate k its).flatten).toArray
  | 0, acc => by simp
  | k + 1, acc => by
    have e : acc.toArray ++ its.toArray = (acc ++ its).toArray := by simp
    have e2 : (acc ++ its) ++ (List.replicate k its).flatten = acc ++ (List.replicate (k + 1) its).flatten := by
      rw [List.replicate_succ, List.flatten_cons, List.append_assoc]
    rw [← e2, ← foldl_rep its k (acc ++ its), ← e, List.replicate_succ, List.foldl_cons]
section
variable {X : Cx} {pins : List (Addr × Obj)} {σ : St} {H : Hp} {s : Shared} {l b : Addr} {xs ys zs : List V}
theorem Inv.lset {its its' : List Value} {n : Nat} {f : Array Value → Array Value} {t' : Nat} (I : Inv X pins σ H s) (hH : H l = some (.lst xs))
    (e : s.heap.get? l = some { cls := .type "list", data := .seq its.toArray n }) (hf : f its.toArray = its'.toArray) (hv : Vals ys its') (hz : ys.length ≤ sizeLine) :
    Inv X pins σ (upd H l (.lst ys)) { s with heap := s.heap.update l (Obj.mapSeq f), toks := t' } := by
  have q := PySem.IsL.update e f
  rw [hf] at q
  refine I.write (x := l) (e := l) (by rw [hH]; exact trivial) (.inl rfl) (fun b' u hb hu => (Heap.get?_update_other s.heap (Obj.mapSeq f) (Ne.symm hb)).trans hu) ⟨_, q⟩ ?_
  exact ⟨hz, its', _, hv, q⟩
theorem Inv.lnew {its : List Value} {t' : Nat} (I : Inv X pins σ H s) (hv : Vals ys its) (hz : ys.length ≤ sizeLine) :
    Inv X pins σ (upd H s.heap.objs.size (.lst ys)) { s with heap := s.heap.push { cls := .type "list", data := .seq its.toArray }, toks := t' } :=
  I.laid (fun _ _ q => Heap.get?_push_of_some _ q) (Nat.le_refl _) ⟨hz, its, 0, hv, Heap.get?_push_size _ rfl⟩
theorem Inv.fresh (I : Inv X pins σ H s) : H s.heap.objs.size = none := I.hok.fresh (Nat.le_refl _)
theorem Inv.lstM (I : Inv X pins σ H s) (hH : H l = some (.lst xs)) : xs.length ≤ sizeLine ∧ ∃ (its : List Value) (n : Nat), Vals xs its ∧ xs.length = its.length ∧ s.heap.get? l = some { cls := .type "list", data := .seq its.toArray n } := by
  obtain ⟨z, its, n, r, e⟩ := I.hok l _ hH
  exact ⟨z, its, n, r, r.length, e⟩
theorem notLongL {n : Nat} (h : n ≤ sizeLine) : Builtin.List.listTooLong n = false := by
  unfold Builtin.List.listTooLong
  exact decide_eq_false (by omega)
end
section
variable {X : Cx}
def rAppend : V → List V → Hp → VK → Prop := fun x vs H Q => ∃ l xs y, x = .ref l ∧ vs = [y] ∧ H l = some (.lst xs) ∧ xs.length < sizeLine ∧ Q .non (upd H l (.lst (xs ++ [y])))
theorem mt_append : MtM X "list.append" rAppend := by
  intro pins s σ H x vs v us Q I rx rv h
  obtain ⟨l, xs, y, rfl, rfl, hH, hz, q⟩ := h
  cases rx
  obtain ⟨u, rfl, ru⟩ := rv.one
  obtain ⟨z, its, n, r, hl, e⟩ := I.lstM hH
  refine call_meets F.slot_list_append ⟨_, e, rfl⟩ F.entry_list_append (F.args_list_append_2 _ _) (PySem.list_append l its.toArray n u (by rw [List.size_toArray]; omega)) ⟨e, ?_⟩
  refine ⟨.non, _, I.lset (its' := its ++ [u]) hH e (by simp) (r.append (.cons ru .nil)) ?_, rfl, q⟩
  rw [List.length_append, List.length_singleton]
  omega
def rCat : R2 := fun x y H Q => ∃ l b xs zs, x = .ref l ∧ y = .ref b ∧ H l = some (.lst xs) ∧ H b = some (.lst zs) ∧ xs.length + zs.length ≤ sizeLine ∧ ∀ p, H p = none → Q (.ref p) (upd H p (.lst (xs ++ zs)))
theorem op_cat : OpR X (binaryOp .Add) rCat := by
  intro pins s σ H x y v u Q I rx ry h
  obtain ⟨l, b, xs, zs, rfl, rfl, hH, hB, hz, q⟩ := h
  cases rx
  cases ry
  obtain ⟨z, its, n, r, hl, e⟩ := I.lstM hH
  obtain ⟨z2, its2, n2, r2, hl2, e2⟩ := I.lstM hB
  refine PySem.P.add_list e e2 ?_ (by rw [List.size_toArray, List.size_toArray]; omega)
  have ea : its.toArray ++ its2.toArray = (its ++ its2).toArray := by simp
  rw [ea]
  exact ⟨.ref _, _, I.lnew (t' := s.toks) (r.append r2) (by rw [List.length_append]; omega), rfl, q _ I.fresh⟩
def rRep : R2 := fun x y H Q => ∃ l k xs, x = .ref l ∧ y = .int k ∧ H l = some (.lst xs) ∧ -(2 ^ 63) ≤ k ∧ k < 2 ^ 63 ∧ xs.length * k.toNat ≤ sizeLine ∧
  ∀ p, H p = none → Q (.ref p) (upd H p (.lst (List.replicate k.toNat xs).flatten))
theorem len_rep {α : Type} (xs : List α) (k : Nat) : (List.replicate k xs).flatten.length = k * xs.length := by
  induction k with
  | zero => simp
  | succ k ih => rw [List.replicate_succ, List.flatten_cons, List.length_append, ih, Nat.succ_mul, Nat.add_comm]
theorem op_rep : OpR X (binaryOp .Mult) rRep := by
  intro pins s σ H x y v u Q I rx ry h
  obtain ⟨l, k, xs, rfl, rfl, hH, h1, h2, hz, q⟩ := h
  cases rx
  obtain ⟨t, rfl⟩ := ry
  obtain ⟨z, its, n, r, hl, e⟩ := I.lstM hH
  have hlen : its.toArray.size * k.toNat ≤ sizeLine := by rw [List.size_toArray, ← hl]; exact hz
  have hcap : ¬ its.toArray.size * k.toNat > (2 ^ 63 - 1) / 8 := by
    have : (sizeLine : Nat) ≤ (2 ^ 63 - 1) / 8 := by decide
    omega
  have hfit : ¬ (!Builtin.List.listFitsIndex k) = true := by
    rw [fitsIndex_both h1 h2]
    exact Bool.false_ne_true
  have hlong : ¬ Builtin.List.listTooLong (its.toArray.size * k.toNat) = true := by
    rw [notLongL hlen]
    exact Bool.false_ne_true
  have hnew : List.foldl (fun x1 x2 => x1 ++ x2) #[] (List.replicate (if its.toArray.isEmpty = true then 0 else k.toNat) its.toArray) = (List.replicate k.toNat its).flatten.toArray := by
    have f0 : ∀ m : Nat, List.foldl (fun x1 x2 => x1 ++ x2) #[] (List.replicate m its.toArray) = (List.replicate m its).flatten.toArray := fun m => by
      have := foldl_rep its m []
      rw [List.nil_append] at this
      exact this
    rw [f0]
    cases its with
    | nil => simp
    | cons a r' => rw [if_neg (by simp)]
  refine wpAny_binaryOp_repeat_ref (T := "list") (U := "int") (by decide) ⟨_, e, rfl⟩ (fun s' => typeIs_int s' k t) noFill_list_mul F.fills_int_mul F.slot_int_rmul repeat_list F.slot_int_index.lookup
    (call_meets F.slot_int_rmul (typeIs_int s k t) F.entry_int_rmul (F.args_int_rmul_2 _ _) (int___rmul___int_list k t l its.toArray n)
      ⟨e, rfl, ⟨_, e, rfl⟩, call_meets F.slot_list_mul ⟨_, e, rfl⟩ F.entry_list_mul (F.args_list_mul_2 _ _) (AutoListH.list___mul___list_int_3 l its.toArray n k t hfit hcap hlong) ⟨e, ?_⟩⟩)
  rw [hnew]
  exact ⟨.ref _, _, I.lnew (t' := s.toks) (r.rep k.toNat) (by rw [len_rep, Nat.mul_comm]; exact hz), rfl, q _ I.fresh⟩
end
section
variable {prog : Program} {w : World} {A : Around} {E : Value → Shared → Prop} {s : Shared}
end
section
variable {X : Cx}
end
end L2
namespace L2
open PySem PySem.Spec PyProof.Rows
section
variable {κ : Type} [DecidableEq κ]
def valV (kvs : List (κ × V)) (k : κ) : Option V := (kvs.find? fun kv => decide (kv.1 = k)).map (·.2)
def putK (kvs : List (κ × V)) (k : κ) (v : V) : List (κ × V) :=
  if (kvs.any fun kv => decide (kv.1 = k)) = true then kvs.map (fun kv => if kv.1 = k then (kv.1, v) else kv) else kvs ++ [(k, v)]
def dropK (kvs : List (κ × V)) (k : κ) : List (κ × V) := kvs.filter fun kv => decide (kv.1 ≠ k)
theorem valV_pos {p : κ × V} {r : List (κ × V)} {k : κ} (e : p.1 = k) : valV (p :: r) k = some p.2 := by simp [valV, List.find?_cons, e]
theorem valV_neg {p : κ × V} {r : List (κ × V)} {k : κ} (e : ¬ p.1 = k) : valV (p :: r) k = valV r k := by simp [valV, List.find?_cons, e]
theorem valV_any (k : κ) : ∀ kvs : List (κ × V), (kvs.any fun kv => decide (kv.1 = k)) = (valV kvs k).isSome
  | [] => rfl
  | p :: r => by
    rw [List.any_cons]
    by_cases e : p.1 = k
    · simp only [valV_pos e, decide_eq_true e, Bool.true_or, Option.isSome_some]
    · rw [valV_neg e, decide_eq_false e, Bool.false_or]; exact valV_any k r
theorem length_putK (kvs : List (κ × V)) (k : κ) (v : V) : (putK kvs k v).length ≤ kvs.length + 1 := by
  unfold putK
  split
  · rw [List.length_map]; omega
  · rw [List.length_append, List.length_cons, List.length_nil]; omega
theorem putK_new {kvs : List (κ × V)} {k : κ} (v : V) (h : valV kvs k = none) : putK kvs k v = kvs ++ [(k, v)] := by
  unfold putK
  rw [valV_any, h]
  exact if_neg (by decide)
theorem RelO.isSome_eq {o : Option V} {u : Option Value} (r : RelO o u) : o.isSome = u.isSome := by
  cases o with
  | none => cases u with
    | none => rfl
    | some _ => exact (show False from r).elim
  | some _ => cases u with
    | none => exact (show False from r).elim
    | some _ => rfl
theorem KV.val {kvs : List (κ × V)} {vs : List (κ × Value)} (r : KV kvs vs) (k : κ) : RelO (valV kvs k) (valueAt vs k) := by
  unfold KV at r
  induction r with
  | nil => exact True.intro
  | @cons p q ps qs h t ih =>
    obtain ⟨h1, h2⟩ := h
    by_cases e : p.1 = k
    · have e' : q.1 = k := h1.symm.trans e
      have b : valueAt (q :: qs) k = some q.2 := by simp [valueAt, List.find?_cons, e']
      rw [valV_pos e, b]; exact h2
    · have e' : ¬ q.1 = k := fun z => e (h1.trans z)
      have b : valueAt (q :: qs) k = valueAt qs k := by simp [valueAt, List.find?_cons, e']
      rw [valV_neg e, b]; exact ih
theorem KV.any {kvs : List (κ × V)} {vs : List (κ × Value)} (r : KV kvs vs) (k : κ) : (kvs.any fun kv => decide (kv.1 = k)) = vs.any fun kv => decide (kv.1 = k) := by
  unfold KV at r
  induction r with
  | nil => rfl
  | cons h t ih => rw [List.any_cons, List.any_cons, ih, h.1]
theorem KV.repl {kvs : List (κ × V)} {vs : List (κ × Value)} (r : KV kvs vs) (k : κ) {y : V} {u : Value} (ry : RelV y u) :
    KV (kvs.map fun kv => if kv.1 = k then (kv.1, y) else kv) (vs.map fun kv => if kv.1 = k then (kv.1, u) else kv) := by
  unfold KV at r ⊢
  induction r with
  | nil => exact .nil
  | @cons p q ps qs h t ih =>
    rw [List.map_cons, List.map_cons]
    refine .cons ?_ ih
    obtain ⟨h1, h2⟩ := h
    by_cases e : p.1 = k
    · rw [if_pos e, if_pos (h1.symm.trans e)]; exact ⟨h1, ry⟩
    · rw [if_neg e, if_neg (fun z => e (h1.trans z))]; exact ⟨h1, h2⟩
theorem KV.put {kvs : List (κ × V)} {vs : List (κ × Value)} (r : KV kvs vs) (k : κ) {y : V} {u : Value} (ry : RelV y u) : KV (putK kvs k y) (stored vs k u) := by
  unfold putK stored
  rw [r.any k]
  by_cases e : (vs.any fun kv => decide (kv.1 = k)) = true
  · rw [if_pos e, if_pos e]; exact r.repl k ry
  · rw [if_neg e, if_neg e]; exact Paired.snoc r ⟨rfl, ry⟩
theorem KV.drop {kvs : List (κ × V)} {vs : List (κ × Value)} (r : KV kvs vs) (k : κ) : KV (dropK kvs k) (without vs k) := by
  unfold KV at r ⊢
  unfold dropK without
  induction r with
  | nil => exact .nil
  | @cons p q ps qs h t ih =>
    obtain ⟨h1, h2⟩ := h
    rw [List.filter_cons, List.filter_cons]
    by_cases e : p.1 = k
    · have a : ¬ decide (p.1 ≠ k) = true := by simp [e]
      have b : ¬ decide (q.1 ≠ k) = true := by simp [h1.symm.trans e]
      rw [if_neg a, if_neg b]; exact ih
    · have e' : ¬ q.1 = k := fun z => e (h1.trans z)
      have a : decide (p.1 ≠ k) = true := by simp [e]
      have b : decide (q.1 ≠ k) = true := by simp [e']
      rw [if_pos a, if_pos b]; exact .cons ⟨h1, h2⟩ ih
theorem KV.keys {kvs : List (κ × V)} {vs : List (κ × Value)} (r : KV kvs vs) : kvs.map (·.1) = vs.map (·.1) := by
  unfold KV at r
  induction r with
  | nil => rfl
  | cons h t ih => rw [List.map_cons, List.map_cons, ih, h.1]
theorem KV.length {kvs : List (κ × V)} {vs : List (κ × Value)} (r : KV kvs vs) : kvs.length = vs.length := Paired.length r
theorem dropK_le (kvs : List (κ × V)) (k : κ) : (dropK kvs k).length ≤ kvs.length := List.length_filter_le _ _
end
theorem kV_is {P : Program} {w : World} {k : Key} {u : Value} (r : RelV (kV k) u) : (mixKind P w).is k u = true := by
  cases k with
  | inl i => obtain ⟨t, e⟩ := (show ∃ t, u = Value.int i t from r); subst e; exact mixKind_int P w i t
  | inr x => obtain ⟨t, e⟩ := (show ∃ t, u = Value.str x t from r); subst e; exact mixKind_str P w x t
theorem items_are {P : Program} {w : World} : ∀ {ks : List Key} {us : List Value}, Vals (ks.map kV) us → ItemsAre (mixKind P w) ks us
  | [], _, r => by rw [List.map_nil] at r; cases r; exact .nil
  | k :: ks, _, r => by
    rw [List.map_cons] at r
    cases r with
    | cons h t => exact .cons (kV_is h) (items_are t)
abbrev KT (H : Hp) : List (List Key × V) → List (List Key × Addr × Value) → Prop := Paired fun p q => p.1 = q.1 ∧ H q.2.1 = some (.tup (p.1.map kV)) ∧ RelV p.2 q.2.2
theorem KT.val {H : Hp} {kvs : List (List Key × V)} {xs : List (List Key × Addr × Value)} (r : KT H kvs xs) (k : List Key) : RelO (valV kvs k) ((atKey xs k).map (·.2)) := by
  induction r with
  | nil => exact True.intro
  | @cons p q ps qs h t ih =>
    obtain ⟨h1, _, h2⟩ := h
    by_cases e : p.1 = k
    · have e' : q.1 = k := h1.symm.trans e
      have b : atKey (q :: qs) k = some q.2 := by simp [atKey, List.find?_cons, e']
      rw [valV_pos e, b]; exact h2
    · have e' : ¬ q.1 = k := fun z => e (h1.trans z)
      have b : atKey (q :: qs) k = atKey qs k := by simp [atKey, List.find?_cons, e']
      rw [valV_neg e, b]; exact ih
theorem KT.repl {H : Hp} {kvs : List (List Key × V)} {xs : List (List Key × Addr × Value)} (r : KT H kvs xs) (k : List Key) {y : V} {u : Value} (ry : RelV y u) :
    KT H (kvs.map fun kv => if kv.1 = k then (kv.1, y) else kv) (xs.map (putAt k u)) := by
  induction r with
  | nil => exact .nil
  | @cons p q ps qs h t ih =>
    rw [List.map_cons, List.map_cons]
    refine .cons ?_ ih
    obtain ⟨h1, h2, h3⟩ := h
    unfold putAt
    by_cases e : p.1 = k
    · rw [if_pos e, if_pos (h1.symm.trans e)]; exact ⟨h1, h2, ry⟩
    · rw [if_neg e, if_neg (fun z => e (h1.trans z))]; exact ⟨h1, h2, h3⟩
theorem KT.put {H : Hp} {kvs : List (List Key × V)} {xs : List (List Key × Addr × Value)} (r : KT H kvs xs) (k : List Key) {b : Addr} {y : V} {u : Value} (hb : H b = some (.tup (k.map kV))) (ry : RelV y u) :
    KT H (putK kvs k y) (storedH xs k b u) := by
  have e : (kvs.any fun kv => decide (kv.1 = k)) = (atKey xs k).isSome := by
    rw [valV_any, (r.val k).isSome_eq, Option.isSome_map]
  unfold putK storedH
  rw [e]
  by_cases q : (atKey xs k).isSome = true
  · rw [if_pos q, if_pos q]; exact r.repl k ry
  · rw [if_neg q, if_neg q]; exact Paired.snoc r ⟨rfl, hb, ry⟩
theorem KT.keeps {H H' : Hp} {kvs : List (List Key × V)} {xs : List (List Key × Addr × Value)} (r : KT H kvs xs) (ht : ∀ b ys, H b = some (.tup ys) → H' b = some (.tup ys)) : KT H' kvs xs :=
  Paired.mapP r fun _ _ z => ⟨z.1, ht _ _ z.2.1, z.2.2⟩
section
variable {P : Program} {w : World} {H : Hp} {h : Heap} {a : Addr}
theorem rd_of {u : HO} (ok : HOk P w H h) (e : Rd H a u) : ObjOk P w H h a u := e.ok ok
theorem dk_rd {kvs : List (Key × V)} (ok : HOk P w H h) (e : Rd H a (.dK kvs)) : kvs.length ≤ sizeLine ∧ (a == sysModules) = false ∧ ∃ vs, KV kvs vs ∧ h.DictOf (mixKind P w) a vs :=
  show ObjOk P w H h a (.dK kvs) from rd_of ok e
theorem dk_of {kvs : List (Key × V)} (ok : HOk P w H h) (e : H a = some (.dK kvs)) : kvs.length ≤ sizeLine ∧ (a == sysModules) = false ∧ ∃ vs, KV kvs vs ∧ h.DictOf (mixKind P w) a vs := dk_rd ok (.inl e)
theorem key_of {ks : List Key} (ok : HOk P w H h) (e : H a = some (.tup (ks.map kV))) : (tupleKind (mixKind P w)).is h ks a := by
  obtain ⟨_, its, r, o, h1, h2, n, h3⟩ := (show ObjOk P w H h a (.tup (ks.map kV)) from ok a _ e)
  exact ⟨o, its.toArray, n, h1, h2, h3, by simpa using items_are r⟩
theorem dt_rd {kvs : List (List Key × V)} (ok : HOk P w H h) (e : Rd H a (.dT kvs)) : kvs.length ≤ sizeLine ∧ (a == sysModules) = false ∧
    ∃ xs, KT H kvs xs ∧ h.DictOfH (tupleKind (mixKind P w)) a xs := by
  obtain ⟨z, y, xs, r, o, es, ep, h1, h2, h3, h4, h5⟩ := (show ObjOk P w H h a (.dT kvs) from rd_of ok e)
  refine ⟨z, y, xs, r, o, es, ep, h1, h2, h3, h4, fun x hx => ?_, h5⟩
  have all : ∀ {l : List (List Key × V)} {m : List (List Key × Addr × Value)}, KT H l m → ∀ x ∈ m, (tupleKind (mixKind P w)).is h x.1 x.2.1 := by
    intro l m q
    induction q with
    | nil => intro x hx; exact nomatch hx
    | @cons p q ps qs hq t ih =>
      intro x hx
      rcases List.mem_cons.mp hx with e | hx
      · subst e
        exact key_of ok (by rw [← hq.1]; exact hq.2.1)
      · exact ih x hx
  exact all r x hx
theorem dt_of {kvs : List (List Key × V)} (ok : HOk P w H h) (e : H a = some (.dT kvs)) : kvs.length ≤ sizeLine ∧ (a == sysModules) = false ∧
    ∃ xs, KT H kvs xs ∧ h.DictOfH (tupleKind (mixKind P w)) a xs := dt_rd ok (.inl e)
end
def DGet (H : Hp) (a : Addr) (y : V) (r : Option V) : Prop :=
  (∃ kvs k, Rd H a (.dK kvs) ∧ y = kV k ∧ r = valV kvs k) ∨ ∃ kvs k b, Rd H a (.dT kvs) ∧ y = .ref b ∧ H b = some (.tup (k.map kV)) ∧ r = valV kvs k
def DPut (H : Hp) (a : Addr) (y v : V) (H' : Hp) : Prop :=
  (∃ kvs k, H a = some (.dK kvs) ∧ y = kV k ∧ kvs.length < sizeLine ∧ H' = upd H a (.dK (putK kvs k v))) ∨
  ∃ kvs k b, H a = some (.dT kvs) ∧ y = .ref b ∧ H b = some (.tup (k.map kV)) ∧ kvs.length < sizeLine ∧ H' = upd H a (.dT (putK kvs k v))
theorem DGet.k {H : Hp} {a : Addr} {kvs : List (Key × V)} {k : Key} (e : H a = some (.dK kvs)) : DGet H a (kV k) (valV kvs k) := .inl ⟨kvs, k, .inl e, rfl, rfl⟩
theorem DPut.k {H : Hp} {a : Addr} {kvs : List (Key × V)} {k : Key} {v : V} (e : H a = some (.dK kvs)) (hl : kvs.length < sizeLine) : DPut H a (kV k) v (upd H a (.dK (putK kvs k v))) := .inl ⟨kvs, k, e, rfl, hl, rfl⟩
section
variable {X : Cx} {pins : List (Addr × Obj)} {σ : St} {H : Hp} {s : Shared} {a : Addr} {y v : V} {u r : Value} {o : Option V} {A : Around} {E : Value → Shared → Prop}
theorem Inv.big (I : Inv X pins σ H s) : sysModules < s.heap.objs.size := by
  have h : mainGlobals < s.heap.objs.size := (I.mod.glob.keeps I.bk).lt
  exact Nat.lt_trans (by decide) h
theorem d_getItem {Q : Value → Shared → Prop} (hu : A.units + 1 < cLine) (I : Inv X pins σ H s) (g : DGet H a y (some v)) (ry : RelV y u) (h : ∀ w' s', Inv X pins σ H s' → RelV v w' → Q w' s') :
    wpAny (model X.prog X.w) A (getItem (.ref a) u) Q E s := by
  rcases g with ⟨kvs, k, e, ey, l⟩ | ⟨kvs, k, b, e, ey, eb, l⟩
  · subst ey
    obtain ⟨z, hd, vs, rel, dd⟩ := dk_rd I.hok e
    obtain ⟨w', hw, rw'⟩ := RelO.some_of (v := v) (o := valueAt vs k) (by rw [l]; exact rel.val k)
    exact wpAny_getItem_of (kV_is ry) dd.mapOf hw (h w' _ (I.tok _) rw')
  · subst ey
    cases (show u = Value.ref b from ry)
    obtain ⟨z, hd, xs, rel, dd⟩ := dt_rd I.hok e
    obtain ⟨w', hw, rw'⟩ := RelO.some_of (v := v) (o := (atKey xs k).map (·.2)) (by rw [l]; exact rel.val k)
    obtain ⟨p, hp, hp2⟩ := Option.map_eq_some_iff.mp hw
    refine wpAny_getItem_heap (tupleKind_room_in1 hu) (key_of I.hok eb) dd hp ?_
    rw [hp2]
    exact h w' _ (I.tok _) rw'
theorem d_notIn {Q : Value → Shared → Prop} (hu : A.units + 1 < cLine) (I : Inv X pins σ H s) (g : DGet H a y o) (ry : RelV y u) (h : ∀ s', Inv X pins σ H s' → Q (.bool (!o.isSome)) s') :
    wpAny (model X.prog X.w) A (compareOp .NotIn u (.ref a)) Q E s := by
  rcases g with ⟨kvs, k, e, ey, l⟩ | ⟨kvs, k, b, e, ey, eb, l⟩
  · subst ey
    obtain ⟨z, hd, vs, rel, dd⟩ := dk_rd I.hok e
    refine wpAny_notIn_of (kV_is ry) hd dd.mapOf ?_
    rw [← (rel.val k).isSome_eq, ← l]
    exact h _ (I.tok _)
  · subst ey
    cases (show u = Value.ref b from ry)
    obtain ⟨z, hd, xs, rel, dd⟩ := dt_rd I.hok e
    refine wpAny_notIn_heap (tupleKind_room_in1 hu) (key_of I.hok eb) hd dd ?_
    have q := (rel.val k).isSome_eq
    rw [Option.isSome_map] at q
    rw [← q, ← l]
    exact h _ (I.tok _)
theorem d_write {h' : Heap} {t' : Nat} {ob : HO} (I : Inv X pins σ H s) (mu : Mut (H a)) (hs : Heap.SameBut a s.heap h') (he : ∃ q, h'.get? a = some q) (new : ObjOk X.prog X.w (upd H a ob) h' a ob) :
    Inv X pins σ (upd H a ob) { s with heap := h', toks := t' } :=
  I.write (x := a) (e := a) mu (.inl rfl) (fun b q hb z => (hs.2 b hb).trans z) he new
theorem dk_new {P : Program} {w : World} {H' : Hp} {h' : Heap} {kvs : List (Key × V)} {vs : List (Key × Value)} (z : kvs.length ≤ sizeLine) (hd : (a == sysModules) = false) (rel : KV kvs vs) (dd : h'.DictOf (mixKind P w) a vs) :
    ObjOk P w H' h' a (.dK kvs) := ⟨z, hd, vs, rel, dd⟩
theorem d_setItem {H' : Hp} {Q : Unit → Shared → Prop} (hu : A.units + 1 < cLine) (I : Inv X pins σ H s) (g : DPut H a y v H') (ry : RelV y u) (rv : RelV v r) (h : ∀ s', Inv X pins σ H' s' → Q () s') :
    wpAny (model X.prog X.w) A (setItem (.ref a) u r) Q E s := by
  rcases g with ⟨kvs, k, e, ey, l, eH⟩ | ⟨kvs, k, b, e, ey, eb, l, eH⟩
  · subst ey eH
    obtain ⟨z, hd, vs, rel, dd⟩ := dk_of I.hok e
    have hz : vs.length ≤ sizeLine := by rw [← rel.length]; exact z
    have hl : (putK kvs k v).length ≤ sizeLine := by have := length_putK kvs k v; omega
    refine wpAny_setItem_pairs (hsz := hz) (kV_is ry) dd fun h' dd' hs => h _ ?_
    have he : ∃ q, h'.get? a = some q := let ⟨q, _, _, hq, _⟩ := dd'; ⟨q, hq⟩
    exact d_write I (by rw [e]; exact True.intro) hs he (dk_new hl hd (rel.put k rv) dd')
  · subst ey eH
    cases (show u = Value.ref b from ry)
    obtain ⟨z, hd, xs, rel, dd⟩ := dt_of I.hok e
    have hz : xs.length ≤ sizeLine := by rw [← Paired.length rel]; exact z
    have hl : (putK kvs k v).length ≤ sizeLine := by have := length_putK kvs k v; omega
    refine wpAny_setItem_heap (hsz := hz) (tupleKind_room_in1 hu) (key_of I.hok eb) dd fun h' dd' hs => h _ ?_
    obtain ⟨q, es, ep, hq, h2, h3, h4, _, h5⟩ := dd'
    refine d_write I (by rw [e]; exact True.intro) hs ⟨q, hq⟩ ⟨hl, hd, _, (rel.put k eb rv).keeps fun c ys ec => ?_, q, es, ep, hq, h2, h3, h4, h5⟩
    rw [upd_ne (ne_of ec e (fun z => nomatch z))]
    exact ec
end
section
variable {X : Cx} {pins : List (Addr × Obj)} {σ : St} {H : Hp} {s : Shared} {a : Addr} {kvs : List (Key × V)} {k : Key} {u : Value} {A : Around} {E : Value → Shared → Prop}
theorem d_pop {v : V} {more : List Value} {Q : Value → Shared → Prop} (I : Inv X pins σ H s) (e : H a = some (.dK kvs)) (ry : RelV (kV k) u) (l : valV kvs k = some v) (hm : more = [] ∨ ∃ x, more = [x])
    (h : ∀ w' s', Inv X pins σ (upd H a (.dK (dropK kvs k))) s' → RelV v w' → Q w' s') : wpAny (model X.prog X.w) A (call (.builtin "dict.pop") (.ref a :: u :: more)) Q E s := by
  obtain ⟨z, hd, vs, rel, dd⟩ := dk_of I.hok e
  obtain ⟨w', hw, rw'⟩ := RelO.some_of (v := v) (o := valueAt vs k) (by rw [← l]; exact rel.val k)
  have hp : (keyPart u).isSome = true := by
    cases k with
    | inl i => obtain ⟨t, q⟩ := (show ∃ t, u = Value.int i t from ry); subst q; rfl
    | inr x => obtain ⟨t, q⟩ := (show ∃ t, u = Value.str x t from ry); subst q; rfl
  have ha : argsOk "dict.pop" ⟨.ref a :: u :: more, []⟩ := by
    rcases hm with q | ⟨x, q⟩
    · subst q; exact PySem.F.args_dict_pop_2 _ _
    · subst q; exact PySem.F.args_dict_pop_3 _ _ _
  refine call_meetsIn PySem.F.slot_dict_pop dd.typeIs PySem.F.entry_dict_pop ha (meets_dict_pop_there (mixKind X.prog X.w) a (kV_is ry) more hm hp)
    ⟨vs, w', dd, by rw [← rel.length]; exact z, hw, fun h' dd' hs => h w' _ ?_ rw'⟩
  have he : ∃ q, h'.get? a = some q := let ⟨q, _, _, hq, _⟩ := dd'; ⟨q, hq⟩
  exact d_write I (by rw [e]; exact True.intro) hs he (dk_new (Nat.le_trans (dropK_le kvs k) z) hd (rel.drop k) dd')
end
def NoSl (i : Expr) : Prop := ∀ ov iv, subscripted i false ov iv = operate [ov, iv] (getItem ov iv)
theorem subD_of {prog : Program} {w : World} {A : Around} {E : Value → Shared → Prop} {s : Shared} {env : Env} {value slice : Expr} {pos : Pos} {T id : String} {Q : Value → Shared → Prop}
    (hl : typeLookup (.type T) "__getitem__" = pure (some (.builtin id))) (hs : NoSl slice)
    (h : wpAny (model prog w) A (eval value env) (fun o s₁ => wpAny (model prog w) A (eval slice env) (fun i s₂ => s₂.TypeIs o T ∧ wpAny (model prog w) A (getItem o i) Q E s₂) E s₁) E s) :
    wpAny (model prog w) A (eval (.Subscript value slice pos) env) Q E s := by
  refine Subscript_ (wpAny_mono h (fun o s₁ h₁ => wpAny_mono h₁ (fun i s₂ h₂ => ?_) fun _ _ x => x) fun _ _ x => x)
  obtain ⟨hT, h₂⟩ := h₂
  unfold subscriptTail
  refine wpAny_bind ?_
  rw [getitemInPython_of_ne hT.not_modules]
  refine wpAny_bind (wpAny_specialOf hT hl ?_)
  have fin : wpAny (model prog w) A (subscripted slice false o i) (fun r s₃ => wpAny (model prog w) A (letTemporaryGo value o r >>= fun _ => pure r) Q E s₃) E s₂ := by
    rw [hs o i]
    exact wpAny_operating (wpAny_mono h₂ (fun r s₃ h₃ => wpAny_bind (wpAny_letTemporaryGo (wpAny_pure h₃))) fun _ _ x => x)
  first
    | exact wpAny_pure (wpAny_bind fin)
    | exact wpAny_bind (wpAny_pure (wpAny_bind fin))
    | exact wpAny_bind fin
theorem dict_typeIs {X : Cx} {pins : List (Addr × Obj)} {σ : St} {H : Hp} {s : Shared} {a : Addr} {y : V} {o : Option V} (I : Inv X pins σ H s) (g : DGet H a y o) : s.TypeIs (.ref a) "dict" := by
  rcases g with ⟨kvs, k, e, _, _⟩ | ⟨kvs, k, b, e, _, _, _⟩
  · obtain ⟨_, _, vs, _, dd⟩ := dk_rd I.hok e
    exact dd.typeIs
  · obtain ⟨_, _, xs, _, dd⟩ := dt_rd I.hok e
    exact dd.typeIs
def tDGet (td ty : TE) : TE := fun σ H Q => td σ H fun x H1 => ty σ H1 fun y H2 => ∃ a v, x = .ref a ∧ DGet H2 a y (some v) ∧ Q v H2
def tDNotIn (ty td : TE) : TE := fun σ H Q => ty σ H fun y H1 => td σ H1 fun x H2 => ∃ a o, x = .ref a ∧ DGet H2 a y o ∧ Q (.bl (!o.isSome)) H2
def sDPut (td ty tv : TE) : TS := fun D σ H => tv σ H fun v H1 => td σ H1 fun x H2 => ty σ H2 fun y H3 => ∃ a H4, x = .ref a ∧ DPut H3 a y v H4 ∧ D.nx σ H4
section
variable {X : Cx} {o i e value : Expr} {pos pos' tpos : Pos} {td ty tv : TE}
theorem pe_dget (hu : X.A.units + 1 < cLine) (ho : PE X o td) (hi : PE X i ty) (hs : NoSl i) : PE X (.Subscript o i pos) (tDGet td ty) := by
  intro pins s σ H Q I h
  refine subD_of PySem.F.slot_dict_getitem.lookup hs (thn (ho pins s σ H _ I h) fun u s1 ⟨x, H1, I1, rx, q1⟩ => thn (hi pins s1 σ H1 _ I1 q1) fun iv s2 zx34 => ?_)
  obtain ⟨y, H2, I2, ry, a, v, ex, g, q2⟩ := zx34
  subst ex
  obtain rfl : u = Value.ref a := rx
  exact ⟨dict_typeIs I2 g, d_getItem hu I2 g ry fun w' s3 I3 rw' => ⟨v, H2, I3, rw', q2⟩⟩
theorem pc_dnotin (hu : X.A.units + 1 < cLine) (hi : PE X i ty) (ho : PE X o td) : PC X .NotIn i o (tDNotIn ty td) := by
  intro pins s σ H Q I h
  refine thn (hi pins s σ H _ I h) fun iv s1 ⟨y, H1, I1, ry, q1⟩ => thn (ho pins s1 σ H1 _ I1 q1) fun u s2 zx35 => ?_
  obtain ⟨x, H2, I2, rx, a, ov, ex, g, q2⟩ := zx35
  subst ex
  obtain rfl : u = Value.ref a := rx
  exact d_notIn hu I2 g ry fun s3 I3 => ⟨.bl (!ov.isSome), H2, I3, rfl, q2⟩
theorem ps_dput (hu : X.A.units + 1 < cLine) (ho : PE X o td) (hi : PE X i ty) (hv : PE X value tv) (hs : swapsWith value (some (.Subscript o i pos')) pos.line X.env = pure false) :
    PS X (.Assign [.Subscript o i pos'] value pos) (sDPut td ty tv) := by
  intro pins s σ H D I h
  refine wpAny_Assign_Subscript (thn (hv pins s σ H _ I h) fun r s1 ⟨v, H1, I1, rv, q1⟩ => thn (ho pins s1 σ H1 _ I1 q1) fun u s2 ⟨x, H2, I2, rx, q2⟩ => thn (hi pins s2 σ H2 _ I2 q2) fun iv s3 zx36 => ?_) hs
  obtain ⟨y, H3, I3, ry, a, H4, ex, g, q3⟩ := zx36
  subst ex
  obtain rfl : u = Value.ref a := rx
  exact d_setItem hu I3 g ry rv fun s4 I4 => ⟨σ, H4, I4, q3⟩
end
theorem dk_empty {P : Program} {w : World} {H : Hp} (h : Heap) (hb : sysModules < h.objs.size) : ObjOk P w H (h.push { cls := .type "dict", data := .dict #[] }) h.objs.size (.dK []) :=
  ⟨Nat.zero_le _, beq_eq_false_iff_ne.mpr (Ne.symm (Nat.ne_of_lt hb)), [], .nil, Heap.DictOf.new h⟩
def tDNewK : TE := fun _ H Q => ∀ p, H p = none → Q (.ref p) (upd H p (.dK []))
section
variable {X : Cx} {pos : Pos}
theorem pe_dnewK : PE X (.Dict [] [] pos) tDNewK := fun pins s σ H Q I h =>
  wpAny_Dict_empty ⟨.ref s.heap.objs.size, _, I.laid (a := s.heap.objs.size) (o := .dK []) (t' := s.toks) (fun _ _ q => Heap.get?_push_of_some _ q) (Nat.le_refl _) (dk_empty s.heap I.big), rfl, h _ (I.hok.fresh (Nat.le_refl _))⟩
end
structure M1 (X : Cx) (o : Expr) (m : Str) (apos : Pos) (e : Expr) (cpos : Pos) : Prop where
  base : attributeBase o m X.env (eval o X.env) = eval o X.env
  few : ((backTo cpos (starEach [e] X.env)).all (fun x => !x.1) && (backToKw cpos (keywordEach [] X.env)).all (fun x => x.1.isSome)
    && decide (([e] : List Expr).length + ([] : List Keyword).length + (if ([] : List Keyword).isEmpty then 0 else 1) < 30)) = true
  line : (apos.endLine == cpos.line) = true
  trees : backTo cpos (starEach [e] X.env) = [(false, eval e X.env)]
def IsD (H : Hp) (a : Addr) : Prop := (∃ kvs, Rd H a (.dK kvs)) ∨ ∃ kvs, Rd H a (.dT kvs)
theorem isD_at {X : Cx} {pins : List (Addr × Obj)} {σ : St} {H : Hp} {s : Shared} {a : Addr} (I : Inv X pins σ H s) (d : IsD H a) :
    s.TypeIs (.ref a) "dict" ∧ (∀ b, Value.ref a = .ref b → ∃ ob, s.heap.get? b = some ob ∧ ob.dict = none) ∧ (a == sysModules) = false := by
  rcases d with ⟨kvs, e⟩ | ⟨kvs, e⟩
  · obtain ⟨_, hd, vs, _, dd⟩ := dk_rd I.hok e
    refine ⟨dd.typeIs, fun b q => ?_, hd⟩
    cases q
    obtain ⟨ob, _, _, h1, h2, _⟩ := dd
    exact ⟨ob, h1, h2.2.1⟩
  · obtain ⟨_, hd, xs, _, dd⟩ := dt_rd I.hok e
    refine ⟨dd.typeIs, fun b q => ?_, hd⟩
    cases q
    obtain ⟨ob, _, _, h1, h2, _⟩ := dd
    exact ⟨ob, h1, h2.2.1⟩
section
variable {X : Cx} {pins : List (Addr × Obj)} {σ : St} {H : Hp} {s : Shared} {a : Addr} {y d : V} {u r : Value} {o : Option V} {A : Around} {E : Value → Shared → Prop}
end
def tDPop1 (td ty : TE) : TE := fun σ H Q => td σ H fun x H1 => ∃ a, x = .ref a ∧ IsD H1 a ∧ ty σ H1 fun y H2 => ∃ kvs k v, H2 a = some (.dK kvs) ∧ y = kV k ∧ valV kvs k = some v ∧ Q v (upd H2 a (.dK (dropK kvs k)))
section
variable {X : Cx} {o e f : Expr} {apos cpos : Pos} {td ty tx : TE}
theorem pe_dpop1 (ho : PE X o td) (he : PE X e ty) (m : M1 X o "pop" apos e cpos) : PE X (.Call (.Attribute o "pop" apos) [e] [] cpos) (tDPop1 td ty) := by
  intro pins s σ H Q I h
  refine wpAny_Call_method m.base m.few m.line PySem.F.plainAttrs_dict PySem.F.slot_dict_pop PySem.F.type_dict_pop (thn (ho pins s σ H _ I h) fun u s1 zx37 => ?_)
  obtain ⟨x, H1, I1, rx, a, ex, d, q1⟩ := zx37
  subst ex
  obtain rfl : u = Value.ref a := rx
  obtain ⟨t1, t2, _⟩ := isD_at I1 d
  refine ⟨t1, t2, ?_⟩
  rw [m.trees]
  refine Calls.callWith_builtin rfl (Calls.evalArgs_plain (Calls.spliced_cons (thn (he pins s1 σ H1 _ I1 q1) fun iv s2 ⟨y, H2, I2, ry, kvs, k, v, ea, ey, l, q2⟩ => Calls.spliced_nil ?_)))
  subst ey
  exact d_pop I2 ea ry l (.inl rfl) fun w' s3 I3 rw' => ⟨v, _, I3, rw', q2⟩
end
section
variable {X : Cx} {pins : List (Addr × Obj)} {σ : St} {H : Hp} {s : Shared} {a : Addr} {kvs : List (Key × V)} {A : Around} {E : Value → Shared → Prop}
end
section
variable {X : Cx} {pins : List (Addr × Obj)} {σ : St} {H : Hp} {s : Shared} {a : Addr} {y : V} {u : Value} {A : Around} {E : Value → Shared → Prop}
end
end L2
namespace Att
open PySem PySem.W PySem.Calls PyProof.Rows
theorem ints_of_wellAll {P : Params} {h : Heap} : ∀ (ns : List Int) (vs : List Value), WellAll P h vs (ns.map WData.int) → IntsAre vs ns := by
  intro ns
  induction ns with
  | nil =>
    intro vs w
    rw [List.map_nil] at w
    cases w
    exact .nil
  | cons n ns ih =>
    intro vs w
    rw [List.map_cons] at w
    cases w with
    | cons a b =>
      cases a
      exact .cons _ _ (ih _ b)
theorem script_of {l : OpenLaw} {n : Nat} (hn : l.most = some n) {P : Params} {h : Heap} {args : List WData} {vals : List Value}
    (hpre : l.row.toRowW.claim.pre args = true) (hwl : WellAll P h vals args) :
    ∃ a vs ns, vals = [Value.ref a] ∧ args = [WData.list (ns.map WData.int)] ∧ h.get? a = some { cls := .type "list", data := .seq vs.toArray } ∧ IntsAre vs ns ∧ ns.length ≤ n := by
  have hsh : WShape.hasAll [] args [.list .int] = true := (pre_splitW hpre).1
  have hc : l.pre.holds [] { args := args } = true := (pre_splitW hpre).2
  obtain ⟨d, r, rfl, h1, h2⟩ := hasAllW_cons hsh
  obtain rfl := hasAllW_nil h2
  obtain ⟨xs, rfl, h3⟩ := hasW_list h1
  obtain ⟨ns, rfl⟩ := items_int h3
  have hlen : ns.length ≤ n := by
    unfold OpenLaw.pre at hc
    have h4 : (WTm.not (.lt (.lit (.int (n : Int))) (.len (.arg 0)))).holds [] { args := [.list (ns.map .int)] } = true := by
      have h4 := (holds_andW hc).1
      rw [hn] at h4
      exact h4
    have h5 := condW_of h4 (w_not (w_lt w_lit (w_len_list (w_arg rfl))))
    rw [List.length_map] at h5
    refine Nat.le_of_not_lt fun q => ?_
    have q' : (n : Int) < ((ns.length : Nat) : Int) := by omega
    first
      | (rw [decide_eq_true q'] at h5; exact absurd h5 (by decide))
      | (simp at h5; omega)
  cases hwl with
  | cons w1 w2 =>
    cases w2
    cases w1 with
    | list ho hall => exact ⟨_, _, ns, rfl, rfl, ho, ints_of_wellAll ns _ hall, hlen⟩
theorem post_true (l : OpenLaw) (args : List WData) : l.row.toRowW.claim.post args (.bool true) args = true :=
  postW_of (r := l.row.toRowW) (X := (true == true))
    (show WShape.has [] (.bool true) .bool = true by first | rfl | decide | simp [WShape.has, WShape.arms, WShape.armsAll])
    (show (WTm.eq .res (.lit (.bool true))).value [] { args := args, res := some (.bool true), after := args } = some (.bool (true == true)) from w_eq_bool (w_res rfl) w_lit) rfl
theorem attach_call {l : OpenLaw} {n : Nat} {q : Program} {loose : List Str} {XP : (Str → Option Value) → Heap → Prop} {YP : World → Heap → Prop} {d : DefRec}
    (hn : l.most = some n) (hdf : d.params.defaults = [])
    (call : ∀ (w : World) (s₀ s₁ : Shared) (mg mb : Str → Option Value) (fa : Addr) (o : Obj) (pm cd doc : Value) (a : Addr) (vs : List Value) (ns : List Int),
      Ground q loose [] XP w s₀ mg mb s₁.heap → YP w s₁.heap →
      s₁.heap.get? fa = some o → o.data = .func (docDef d.name d.params d.body d.scope pm cd doc) → s₁.heap.CodeRec cd d.name → mg d.name = some (.ref fa) →
      s₁.heap.get? a = some { cls := .type "list", data := .seq vs.toArray } → IntsAre vs ns → ns.length ≤ n → s₁.gens = #[] →
      codeAny (model l.prog w) callerA (.call (.ref fa) ⟨[.ref a], []⟩) (fun r s' => r = .ok (.ret (.bool true)) ∧ OldK s₁.heap s'.heap ∧ s'.os = s₁.os ∧ AllBare s'.gens) s₁) :
    WalkO q loose XP YP l.row.toRowW d [] (fun f vs => PySem.call f vs) := by
  intro w s₀ s₁ mg mb G Y fa o pm cd doc dV kV ho hd hcd hD hmg hg args vals as hpre hlay hrd hwl hlo
  obtain rfl : dV = .none := Dflts.none hD hdf
  obtain rfl : kV = .none := Dflts.noKw hD
  obtain ⟨a, vs, ns, rfl, rfl, hobj, hints, hlen⟩ := script_of hn hpre hwl
  refine enter_call (codeAny_mono (call w s₀ s₁ mg mb fa o pm cd doc a vs ns G Y ho (fd_plain hd) hcd hmg hobj hints hlen hg) fun r s' hq => ?_)
  obtain ⟨rfl, h2, h3, h4⟩ := hq
  exact ⟨.inl ⟨.bool true, .bool true, [], rfl, fun _ => rfl, .bool true, post_true l _, fun _ => ⟨List.Pairwise.nil, fun _ hm => (nomatch hm)⟩⟩, h2, h3, h4⟩
section
variable {prog : Program} {w : World} {A : Around} {E : Value → Shared → Prop} {s : Shared} {K : Frag}
end
end Att
namespace L2
open PySem PySem.Spec PyProof.Rows
theorem vals_ints : ∀ {vs : List Value} {ns : List Int}, IntsAre vs ns → Vals (ns.map V.int) vs
  | _, _, .nil => .nil
  | _, _, .cons n t h => .cons ⟨t, rfl⟩ (vals_ints h)
def Only (H : Hp) : Prop := ∀ b, H b = none ∨ ∃ o xs, H b = some (.frz o (.lst xs))
theorem law_call {P : Program} {w : World} {K : PySem.W.Frag} {mg mb : Str → Option Value} {CX : CXT} {k : Nat} {fa a : Addr} {fd : FuncData} {x : Str} {sp : Sp} {s₁ : Shared} {vs : List Value} {ns : List Int}
    (KX : K.In s₁.heap) (hns : s₁.heap.Ns mainGlobals mg) (hb : s₁.heap.Ns builtinsNs mb) (hbb : ∀ x : Str, x ≠ "__name__" → mb x = bootBuiltins x) (hlim : s₁.heap.NoLimit) (hg : s₁.gens = #[])
    (ha : s₁.heap.get? a = some { cls := .type "list", data := .seq vs.toArray }) (hi : IntsAre vs ns) (hl : ns.length ≤ sizeLine) (hr : Room k callerA)
    (F : ∀ base : Heap, K.In base → base.Ns mainGlobals mg → FnOk P w K mg base CX k fa fd [x] sp) (hbind : ∀ (s : Shared) (u : Value), BindsTo s fd ⟨[u], []⟩ [(x, u)])
    (hsp : ∀ H : Hp, Only H → SqL K H a (ns.map V.int) → sp [.ref a] H (fun v _ => v = .bl true) fun _ _ _ => False)
    (hCX : ∀ H e s', CX [] H s₁ (fun _ _ _ => False) e s' → False) :
    codeAny (model P w) callerA (.call (.ref fa) ⟨[.ref a], []⟩) (fun r s' => r = .ok (.ret (.bool true)) ∧ OldK s₁.heap s'.heap ∧ s'.os = s₁.os ∧ AllBare s'.gens) s₁ := by
  have rv := vals_ints hi
  have lenV := hi.length
  -- from an abstract heap in which nothing but the script may be tracked
  have core : ∀ H : Hp, Only H → SqL K H a (ns.map V.int) → HOk P w H s₁.heap → (∀ b, H b ≠ none → b = a) → (H a ≠ none → K.lookup a = none) →
      codeAny (model P w) callerA (.call (.ref fa) ⟨[.ref a], []⟩) (fun r s' => r = .ok (.ret (.bool true)) ∧ OldK s₁.heap s'.heap ∧ s'.os = s₁.os ∧ AllBare s'.gens) s₁ := by
    intro H hO hS hok hA hK
    have base_of : ∀ {b : Addr} {o : Obj}, s₁.heap.get? b = some o → H b = none → (hidT s₁.heap H).get? b = some o := fun e n => hidT_get e n
    have noA : ∀ {b : Addr} {o : Obj} {es : Array DictEntry} {ep : Nat}, s₁.heap.get? b = some o → o.data = .dict es ep → H b = none := fun {b o es ep} e d => by
      cases q : H b with
      | none => rfl
      | some u =>
        have e' : b = a := hA b (by rw [q]; simp)
        subst e'
        rw [ha] at e; cases e
        have d' : Data.seq vs.toArray _ = Data.dict es ep := d
        cases d'
    have nsK : ∀ {b : Addr} {m : Str → Option Value}, s₁.heap.Ns b m → (hidT s₁.heap H).Ns b m := fun {b m} ⟨o, es, ep, e, d, r⟩ => ⟨o, es, ep, base_of e (noA e d), d, r⟩
    have hKb : K.In (hidT s₁.heap H) := fun b o e => base_of (KX b o e) (by
      cases q : H b with
      | none => rfl
      | some u =>
        have e' : b = a := hA b (by rw [q]; simp)
        subst e'
        rw [hK (by rw [q]; simp)] at e; cases e)
    have hM : Mod K mg (hidT s₁.heap H) := ⟨hKb, nsK hns, ⟨mb, nsK hb, hbb⟩, let ⟨mc, h1, h2⟩ := hlim; ⟨mc, nsK h1, h2⟩⟩
    have e0 : Env0 P w K mg (hidT s₁.heap H) callerA [] s₁ H := ⟨rfl, hM, fun b o e => of_hidT e, Nat.le_of_eq (hidT_size _ _), trivial, fun b hb => absurd (show b ∈ ([] : List Addr) from hb) (by simp), hok, .of_eq hg⟩
    refine codeAny_mono ((F _ hKb (nsK hns)).run callerA [] s₁ H ⟨[.ref a], []⟩ [.ref a] [.ref a] _ _ hr e0 (hbind s₁ (.ref a)) (.cons rfl .nil) (hsp H hO hS)) fun r s' h => ?_
    cases r with
    | error e => exact (hCX H e s' h).elim
    | ok fl =>
      cases fl with
      | next => exact False.elim h
      | brk => exact False.elim h
      | cont => exact False.elim h
      | ret u =>
        obtain ⟨v, H', os, bare, un, hok', r', q⟩ := h
        have q' : v = .bl true := q
        subst q'
        obtain rfl : u = Value.bool true := r'
        refine ⟨rfl, OldK.of_keep fun b o e => ?_, os, bare⟩
        cases q : H b with
        | none => exact un.keep b o e q (by intro z; exact absurd (show b ∈ ([] : List Addr) from z) (by simp)) (by simp)
        | some u =>
          rcases hO b with z | ⟨ob, xs, z⟩
          · rw [q] at z; cases z
          · have z2 := un.frzs b ob _ z
            obtain ⟨e1, _⟩ := hok b _ z
            obtain ⟨e2, _⟩ := hok' b _ z2
            rw [e] at e1; cases e1
            exact e2
  cases hk : K.lookup a with
  | some o =>
    -- the script is one of the module's own objects
    have e := KX a o hk
    rw [ha] at e
    cases e
    refine core (fun _ => none) (fun _ => .inl rfl) (.inr ⟨_, vs.toArray, _, hk, rfl, rfl, rfl, by rw [List.size_toArray, lenV]; exact hl, by simpa using rv⟩) (fun b u z => by have z' : (none : Option HO) = some u := z; cases z') (fun b z => absurd rfl z) fun z => absurd rfl z
  | none =>
    refine core (fun b => if b = a then some (.frz { cls := .type "list", data := .seq vs.toArray } (.lst (ns.map V.int))) else none) (fun b => ?_) (.inl (.inr ⟨{ cls := .type "list", data := .seq vs.toArray }, if_pos rfl⟩)) (fun b u z => ?_) (fun b z => ?_) fun _ => hk
    · by_cases hb : b = a
      · exact .inr ⟨_, _, if_pos hb⟩
      · exact .inl (if_neg hb)
    · by_cases hb : b = a
      · have z' := (if_pos hb).symm.trans z
        cases z'
        subst hb
        exact ⟨ha, by rw [List.length_map]; exact hl, vs, _, rv, ha⟩
      · have z' := (if_neg hb).symm.trans z
        cases z'
    · by_cases hb : b = a
      · exact hb
      · exact absurd (if_neg hb) z
end L2
namespace L2
open PySem PySem.Spec PyProof.Rows
theorem walk_of {l : PySem.W.OpenLaw} {n k : Nat} {q : Program} {loose : List Str} {XP : (Str → Option Value) → Heap → Prop} {YP : World → Heap → Prop} {d : DefRec} {K : Params → PySem.W.Frag} {CX : World → CXT} {sp : World → Sp} {x : Str}
    (hn : l.most = some n) (hn2 : n ≤ sizeLine) (hdf : d.params.defaults = []) (hr : Room k callerA)
    (hY : ∀ (w : World) (h : Heap), YP w h → (K w.params).In h)
    (F : ∀ (w : World) (mg : Str → Option Value) (fa : Addr) (h : Heap), (K w.params).In h → h.Ns mainGlobals mg → mg d.name = some (.ref fa) →
      ∃ fd : FuncData, (∀ (s : Shared) (u : Value), BindsTo s fd ⟨[u], []⟩ [(x, u)]) ∧
        ∀ base : Heap, (K w.params).In base → base.Ns mainGlobals mg → FnOk l.prog w (K w.params) mg base (CX w) k fa fd [x] (sp w))
    (hsp : ∀ (w : World) (H : Hp) (a : Addr) (ns : List Int), ns.length ≤ n → Only H → SqL (K w.params) H a (ns.map V.int) → sp w [.ref a] H (fun v _ => v = .bl true) fun _ _ _ => False)
    (hCX : ∀ (w : World) (H : Hp) (s : Shared) (e : Value) (s' : Shared), CX w [] H s (fun _ _ _ => False) e s' → False) :
    PySem.W.WalkO q loose XP YP l.row.toRowW d [] (fun f vs => PySem.call f vs) := by
  refine Att.attach_call hn hdf fun w s₀ s₁ mg mb fa o pm cd doc a vs ns G Y ho hd hcd hmg hobj hints hlen hg => ?_
  have KX := hY w _ Y
  obtain ⟨fd, hb, hF⟩ := F w mg fa _ KX G.T.g hmg
  exact law_call KX G.T.g G.T.b G.T.builtins G.T.nolimit hg hobj hints (Nat.le_trans hlen hn2) hr hF hb (fun H hO hS => hsp w H a ns hlen hO hS) fun H e s' => hCX w H s₁ e s'
end L2
namespace L2
open PySem PySem.Spec PyProof.Rows
def inClass (s : Stmt) (j : Nat) : Stmt := match s with
  | .ClassDef _ _ _ body _ _ _ _ _ _ _ => body.getD j (.Pass ⟨0, 0, 0, 0⟩)
  | _ => .Pass ⟨0, 0, 0, 0⟩
def defArgs (s : Stmt) : Arguments := match s with
  | .FunctionDef _ a _ _ _ _ _ _ _ _ => a
  | _ => { posonlyargs := [], args := [], vararg := none, kwonlyargs := [], kw_defaults := [], kwarg := none, defaults := [] }
def defBody (s : Stmt) : List Stmt := match s with
  | .FunctionDef _ _ b _ _ _ _ _ _ _ => b
  | _ => []
def defScope (s : Stmt) : Scope := match s with
  | .FunctionDef _ _ _ _ _ _ sc _ _ _ => sc
  | _ => { kind := .function, names := [], isGenerator := false, isCoroutine := false }
abbrev E0 : XK := fun _ _ _ => False
structure Fun (K : PySem.W.Frag) (x qual : Str) (st : Stmt) (f : Addr) (fd : FuncData) : Prop where
  ex : ∃ (oc : Value) (od : Option Addr) (kV doc pm : Value) (an : Option Addr) (cdv ct : Value) (osl : Array (Option Value)),
    fd = PySem.W.fnOf x qual (defArgs st) (defBody st) (defScope st) .none kV doc pm an cdv ct ∧ K.lookup f = some ⟨oc, od, .func fd, osl⟩ ∧ PySem.W.codeIn K cdv qual = true
  kp : PySem.W.keepIn K (.ref f) = true
section
variable {P : Program} {w : World} {K : PySem.W.Frag} {mg : Str → Option Value} {base : Heap}
theorem Fun.binds {x qual : Str} {st : Stmt} {f : Addr} {fd : FuncData} {ps : List Str} (F : Fun K x qual st f fd)
    (h : ∀ (kV doc pm : Value) (an : Option Addr) (cdv ct : Value) (us : List Value), us.length = ps.length → bindArgs (PySem.W.fnOf x qual (defArgs st) (defBody st) (defScope st) .none kV doc pm an cdv ct) ⟨us, []⟩ = pure (ps.zip us)) : Binds K fd ps [] := by
  obtain ⟨oc, od, kV, doc, pm, an, cdv, ct, osl, rfl, lk, hcd⟩ := F.ex
  exact .all (h kV doc pm an cdv ct)
theorem fun_mk {x qual : Str} {st : Stmt} {f : Addr} {oc : Value} {od an : Option Addr} {osl : Array (Option Value)} {kV doc pm cdv ct : Value} (l : K.lookup f = some ⟨oc, od, .func (PySem.W.fnOf x qual (defArgs st) (defBody st) (defScope st) .none kV doc pm an cdv ct), osl⟩)
    (c : PySem.W.codeIn K cdv qual = true) (k : PySem.W.keepIn K (.ref f) = true) : Fun K x qual st f (PySem.W.fnOf x qual (defArgs st) (defBody st) (defScope st) .none kV doc pm an cdv ct) := ⟨⟨oc, od, kV, doc, pm, an, cdv, ct, osl, rfl, l, c⟩, k⟩
end
theorem hu_of {A : Around} {k : Nat} (hr : Room k A) : A.units + 1 < cLine := Nat.lt_of_le_of_lt (Nat.add_le_add_left (by decide : 1 ≤ 64) _) hr.units
section
variable {X : Cx}
theorem pv (i : Nat) {x : Str} {pos : Pos} (hN : X.N[i]? = some x := by rfl) (hv : Vis X.env.scope x := by first | exact Or.inl rfl | exact Or.inr (Or.inl rfl) | exact Or.inr (Or.inr rfl)) (hd : (x == ("__debug__" : Str)) = false := by decide)
    (hcd : (x == ("__classdict__" : Str)) = false := by decide) : PE X (.Name x pos) (tVar i) := pe_var hN hv hd hcd
end
theorem iteT {A B : Prop} (h : A) : if true = true then A else B := by
  rw [if_pos rfl]
  exact h
theorem ite2 {c A B : Prop} [Decidable c] (h1 : c → A) (h2 : ¬ c → B) : if c then A else B := by
  by_cases h : c
  · rw [if_pos h]
    exact h1 h
  · rw [if_neg h]
    exact h2 h
def Same (H H' : Hp) : Prop := ∀ b o, H b = some o → H' b = some o
theorem Same.refl (H : Hp) : Same H H := fun _ _ h => h
theorem Same.trans {H H1 H2 : Hp} (a : Same H H1) (b : Same H1 H2) : Same H H2 := fun c o h => b c o (a c o h)
theorem Same.free {H H' : Hp} (e : Same H H') {l : Addr} (h : H' l = Option.none) : H l = Option.none := by
  cases q : H l with
  | none => rfl
  | some o =>
    rw [e l o q] at h
    cases h
theorem Same.seq {K : PySem.W.Frag} {H H' : Hp} {a : Addr} {xs : List V} (e : Same H H') (h : SqL K H a xs) : SqL K H' a xs := by
  rcases h with (h | ⟨o, h⟩) | h
  · exact .inl (.inl (e _ _ h))
  · exact .inl (.inr ⟨o, e _ _ h⟩)
  · exact .inr h
end L2
namespace L2
open PySem PySem.Spec PyProof.Rows
section
variable {X : Cx}
end
end L2
namespace L2
open PySem PySem.Spec PyProof.Rows
section
variable {κ : Type} [DecidableEq κ]
theorem nd_snoc : ∀ {l : List κ} {k : κ}, l.Nodup → ¬ k ∈ l → (l ++ [k]).Nodup
  | [], k, _, _ => by simp
  | a :: r, k, h, hk => by
    obtain ⟨h1, h2⟩ := List.nodup_cons.mp h
    show (a :: (r ++ [k])).Nodup
    refine List.nodup_cons.mpr ⟨fun m => ?_, nd_snoc h2 fun m => hk (List.mem_cons.mpr (Or.inr m))⟩
    rcases List.mem_append.mp m with q | q
    · exact h1 q
    · exact hk (List.mem_cons.mpr (Or.inl (List.mem_singleton.mp q).symm))
end
end L2
namespace L2
open PySem PySem.Spec PyProof.Rows
theorem ObjOk.there {P : Program} {w : World} {H : Hp} {h : Heap} {a : Addr} {o : HO} (x : ObjOk P w H h a o) : ∃ ob, h.get? a = some ob := by
  cases o with
  | lst xs => obtain ⟨_, _, _, _, e⟩ := x; exact ⟨_, e⟩
  | tup xs => obtain ⟨_, _, _, ob, e, _⟩ := x; exact ⟨ob, e⟩
  | dK kvs => obtain ⟨_, _, _, _, ob, _, _, e, _⟩ := x; exact ⟨ob, e⟩
  | dT kvs => obtain ⟨_, _, _, _, ob, _, _, e, _⟩ := x; exact ⟨ob, e⟩
  | set S n => obtain ⟨ob, _, _, _, e, _⟩ := x; exact ⟨ob, e⟩
  | ins C dx fs => obtain ⟨_, _, _, e, _⟩ := x; exact ⟨_, e⟩
  | own y => obtain ⟨ob, e⟩ := x; exact ⟨ob, e⟩
  | xd fs => obtain ⟨_, ⟨ob, _, _, e, _⟩, _⟩ := x; exact ⟨ob, e⟩
  | rng lo hi => obtain ⟨_, _, _, e⟩ := x; exact ⟨_, e⟩
  | frz ob u => obtain ⟨e, _⟩ := x; exact ⟨ob, e⟩
  | tbl ps => exact ⟨_, (show h.get? a = some _ from x)⟩
  | met f y => exact ⟨_, (show h.get? a = some _ from x)⟩
  | ext φ => obtain ⟨_, q, _⟩ := x; exact q
theorem HOk.keptT {P : Program} {w : World} {H : Hp} {h h' : Heap} (x : HOk P w H h) (k : ∀ b u, H b ≠ none → h.get? b = some u → h'.get? b = some u) : HOk P w H h' := fun a o e =>
  (x a o e).stay (fun b u hb q => k b u (by
    rcases hb with z | z
    · rw [z, e]; exact fun y => nomatch y
    · rw [z]; exact fun y => nomatch y) q) (fun _ q => q) fun _ _ q => q
def CXx (P : Program) (w : World) : CXT := fun outer H s E e s' =>
  ∃ (ea : Addr) (C : Value) (B : Heap) (a0 : Value) (H' : Hp), e = .ref ea ∧ s'.os = s.os ∧ AllBare s'.gens ∧ Un (frs outer) [] H H' s.heap s'.heap ∧ HOk P w H' s'.heap ∧
    Heap.FlyingW B outer ea C a0 s'.heap ∧ (∀ b, H' b ≠ none → ∃ o, B.get? b = some o) ∧ (∀ b o, s.heap.get? b = some o → b ∉ frs outer → ∃ o', B.get? b = some o') ∧ E C none H'
structure Body (X : Cx) (E : XK) : Prop where
  ex : X.ex = []
  stk : X.stack = X.env :: X.outer
  fr : X.env.frame = some X.env.locals
  xe : ∀ e s', wpAny (model X.prog X.w) X.A (leaving X.env e) (fun _ s'' => CXx X.prog X.w X.outer X.H₀ X.s₀ E e s'') (fun e' s'' => CXx X.prog X.w X.outer X.H₀ X.s₀ E e' s'') s' → X.xe e s'
section
variable {X : Cx} {E : XK} {pins : List (Addr × Obj)} {σ : St} {H : Hp} {s : Shared}
theorem Body.frs (b : Body X E) : frs X.stack = X.env.locals :: X.fs := by
  show L2.frs X.stack = _
  unfold L2.frs
  rw [b.stk, List.filterMap_cons, b.fr]
  rfl
theorem Body.old (b : Body X E) (I : Inv X pins σ H s) {c : Addr} {o : Obj} (q : X.s₀.heap.get? c = some o) (n : c ∉ X.fs) : c ∉ L2.frs X.stack := by
  rw [b.frs]
  intro m
  rcases List.mem_cons.mp m with z | z
  · exact absurd (Nat.lt_of_lt_of_le (Heap.lt_size q) I.ok.above) (by rw [z]; exact Nat.lt_irrefl _)
  · exact n z
theorem Body.out {H' : Hp} {s' : Shared} {h2 B : Heap} {ea : Addr} {C a0 : Value} (b : Body X E) (I : Inv X pins σ H' s')
    (fl : Heap.FlyingW B X.outer ea C a0 h2) (us : ∀ c ∈ L2.frs X.stack, ∀ o, s'.heap.get? c = some o → (∀ vs, o.data ≠ .fields vs) → ∃ sl, h2.get? c = some { o with slots := sl })
    (kB : ∀ c o, s'.heap.get? c = some o → (∃ o', B.get? c = some o') → h2.get? c = some o)
    (trk : ∀ c, H' c ≠ none → ∃ o, B.get? c = some o) (old : ∀ c o, X.s₀.heap.get? c = some o → c ∉ L2.frs X.stack → ∃ o', B.get? c = some o') (h : E C none H') :
    CXx X.prog X.w X.outer X.H₀ X.s₀ E (.ref ea) { s' with heap := h2 } := by
  have noex : ∀ c : Addr, c ∉ X.ex := fun c z => by rw [b.ex] at z; exact absurd z (by simp)
  refine ⟨ea, C, B, a0, H', rfl, I.os, I.bare, ⟨fun c o q n hc _ => ?_, fun c o q n hc _ => ?_, fun c o q n _ => I.base.free c o q n (noex c), fun c o q _ => ?_, I.base.tups, I.base.frzs, I.base.tbls⟩,
    I.hok.keptT fun c u n q => kB c u q (trk c n), fl, trk, fun c o q n => old c o q (b.old I q n), h⟩
  · exact kB c o (I.base.keep c o q n hc (noex c)) (old c o q (b.old I q hc))
  · obtain ⟨sl, e1⟩ := I.base.slot c o q n hc (noex c)
    obtain ⟨_, o', ho', nf⟩ := I.funs.mem hc
    rw [e1] at ho'
    have ho' := Option.some.inj ho'
    obtain ⟨sl', e2⟩ := us c (by rw [b.frs]; exact List.mem_cons_of_mem _ hc) _ e1 (by rw [ho']; exact nf)
    exact ⟨sl', e2⟩
  · obtain ⟨o', e1⟩ := I.base.there c o q (noex c)
    by_cases hm : c ∈ L2.frs X.stack
    · obtain ⟨_, o2, ho2, nf⟩ := I.stack.mem hm
      rw [e1] at ho2
      have ho2 := Option.some.inj ho2
      obtain ⟨sl', e2⟩ := us c hm _ e1 (by rw [ho2]; exact nf)
      exact ⟨_, e2⟩
    · exact ⟨o', kB c o' e1 (old c o q hm)⟩
theorem Body.raised {e : Addr} {C : Value} {args : List Value} {h' : Heap} (b : Body X E) (I : Inv X pins σ H s) (hx : Heap.MadeExcOf s.heap h' e C args) (h : E C none H) : X.xe (.ref e) { s with heap := h' } := by
  refine b.xe _ _ ?_
  have hF := PySem.W.funFrames_hide (as := L2.frs X.stack) I.stack fun env he a ha => List.mem_filterMap.mpr ⟨env, he, ha⟩
  rw [b.stk] at hF
  have kB : ∀ c o, s.heap.get? c = some o → c ∉ L2.frs X.stack → (PySem.W.hideAll s.heap (L2.frs X.stack)).get? c = some o := fun c o q n => PySem.W.hideAll_get _ q n
  refine wpAny_leaves_madeW (h := s.heap) (I.ok.frames.trans (congrArg some b.stk)) b.fr (fun c o q => PySem.W.of_hideAll (L2.frs X.stack) q) (by rw [b.stk]; exact hF) hx fun h2 t fl _ _ us => ?_
  refine b.out (s' := s) I fl (fun c _ o q nf => us c o (hx.keeps c o q) nf) (fun c o q z => ?_) (fun c n => ?_) (fun c o q n => ?_) h
  · obtain ⟨o', z⟩ := z
    have e1 := PySem.W.of_hideAll (L2.frs X.stack) z
    rw [q] at e1
    cases e1
    exact fl.1 c o z
  · cases q : H c with
    | none => exact absurd q n
    | some u =>
      obtain ⟨o, e1⟩ := (I.hok c u q).there
      exact ⟨o, kB c o e1 fun m => n (I.stkFree c m)⟩
  · obtain ⟨o', e1⟩ := I.base.there c o q (by rw [b.ex]; simp)
    exact ⟨o', kB c o' e1 n⟩
theorem Body.pass {E' : XK} (b : Body X E) (hE : ∀ C d H, E' C d H → E C d H) : Passes (CXx X.prog X.w) X E' := by
  intro pins σ H s e s' I h
  obtain ⟨ea, C, B, a0, H', rfl, os, bare, un, hok, fl, trk, old, q⟩ := h
  have I' : Inv X pins σ H' s' := I.call' (ch := []) os un hok bare (fun b z => absurd z (by simp))
  refine b.xe _ _ ?_
  rw [b.stk] at fl
  refine wpAny_leaves_onW (I.ok.frames.trans (congrArg some b.stk)) b.fr fl fun h2 fl2 us => ?_
  refine b.out I' fl2 (fun c _ o q nf => us c o q nf) (fun c o q z => ?_) trk (fun c o q n => ?_) (hE _ _ _ q)
  · obtain ⟨o', z⟩ := z
    have e1 := fl.1 c o' z
    rw [q] at e1
    cases e1
    exact fl2.1 c o z
  · obtain ⟨o', e1⟩ := I.base.there c o q (by rw [b.ex]; simp)
    exact old c o' e1 n
theorem Body.pass_ (b : Body X E) : Passes (CXx X.prog X.w) X E := b.pass fun _ _ _ h => h
end
theorem pass0x {X : Cx} {P : Program} {w : World} : Passes (CXx P w) X E0 := fun _ _ _ _ _ _ _ h => by
  obtain ⟨_, _, _, _, _, _, _, _, _, _, _, _, _, q⟩ := h
  exact q.elim
section
variable {P : Program} {w : World} {K : PySem.W.Frag} {mg : Str → Option Value} {base : Heap}
theorem body_of {N : List Str} {qual : Str} {scope : Scope} {f : Addr} {cd : Value} {A : Around} {outer : List Env} {s : Shared} {H : Hp} {E : XK} :
    Body (cxOf (CXx P w) P w K mg base N qual scope f cd A outer s H E) E := ⟨rfl, rfl, rfl, fun _ _ h => h⟩
theorem Fun.okX {x qual : Str} {st : Stmt} {f : Addr} {fd : FuncData} {N ps : List Str} {k : Nat} {sp : Sp} (F : Fun K x qual st f fd) (S : FnScope N ps (defScope st)) (len : ∀ vs H Q E, sp vs H Q E → vs.length = ps.length)
    (hbody : ∀ (X : Cx) (cdv : Value) (A : Around) (outer : List Env) (s : Shared) (H : Hp) (vs : List V) (Q : VK) (E : XK), X = cxOf (CXx P w) P w K mg base N qual (defScope st) f cdv A outer s H E → Body X E → Room k X.A → sp vs H Q E →
      ∃ t, PSs X (defBody st) t ∧ t { nx := fun _ H' => Q .non H', rt := Q } (start N vs) H) : FnOk P w K mg base (CXx P w) (k + 1) f fd ps sp := by
  obtain ⟨oc, od, kV, doc, pm, an, cdv, ct, osl, rfl, lk, hcd⟩ := F.ex
  exact fn_of lk hcd S len fun A outer s H vs Q E hr hsp => hbody _ cdv A outer s H vs Q E rfl body_of hr hsp
theorem Fun.okN {x qual : Str} {st : Stmt} {f : Addr} {fd : FuncData} {N ps : List Str} {k : Nat} {sp : Sp} (F : Fun K x qual st f fd) (S : FnScope N ps (defScope st)) (len : ∀ vs H Q E, sp vs H Q E → vs.length = ps.length)
    (hbody : ∀ (cdv : Value) (A : Around) (outer : List Env) (s : Shared) (H : Hp) (vs : List V) (Q : VK) (E : XK), Room k (A.deeper (envOfC qual (defScope st) s.heap.objs.size f cdv)) → sp vs H Q E →
      ∃ t, PSs (cxOf (CXx P w) P w K mg base N qual (defScope st) f cdv A outer s H E).nox (defBody st) t ∧ t { nx := fun _ H' => Q .non H', rt := Q } (start N vs) H) : FnOk P w K mg base (CXx P w) (k + 1) f fd ps sp := by
  obtain ⟨oc, od, kV, doc, pm, an, cdv, ct, osl, rfl, lk, hcd⟩ := F.ex
  refine fn_of lk hcd S len fun A outer s H vs Q E hr hsp => ?_
  obtain ⟨t, h, q⟩ := hbody cdv A outer s H vs Q E hr hsp
  exact ⟨t, h.nox, q⟩
end
end L2
namespace L2
open PySem PySem.Spec PyProof.Rows
structure Exc (K : PySem.W.Frag) (C : Addr) : Prop where
  is : PySem.W.excIn K C [.type "ValueError", .type "Exception", .type "BaseException", .type "object"] "ValueError.__new__" = true
theorem exc_obj {K : PySem.W.Frag} {h : Heap} {C : Addr} {bmB : List Value} {newId : String} (X : K.In h) (q : PySem.W.excIn K C bmB newId = true) :
    ∃ bm N nm qn bs hdct sn sub ab col dd k0 k1 k2 k3 k5 mN, h.get? C = some (excClassObj nm qn C N bs bm hdct sn sub ab col dd k0 k1 k2 k3 k5 newId) ∧ h.Ns N mN ∧ mN "__init__" = none ∧ OwnTail h bmB bm := by
  unfold PySem.W.excIn at q
  split at q
  case h_2 => cases q
  case h_1 dd cd sl ho =>
    split at q
    case h_2 => cases q
    case h_1 C1 bm k0 k1 k2 k3 n1 k5 hm hs =>
      rw [Bool.and_eq_true, Bool.and_eq_true, Bool.and_eq_true, Bool.and_eq_true, Bool.and_eq_true] at q
      obtain ⟨⟨⟨⟨⟨z1, z2⟩, z3⟩, z4⟩, z5⟩, z6⟩ := q
      have z1 := beq_iff_eq.mp z1
      have z2 := beq_iff_eq.mp z2
      have z6 := beq_iff_eq.mp z6
      subst z1 z2
      obtain ⟨nm, bs, mro, ns, qn, hd, sn, sub, ab, col, del⟩ := cd
      have hm' : mro = .ref C1 :: bm := hm
      have z3' : del = false := by
        have y : (!del) = true := z3
        cases del
        · rfl
        · cases y
      clear hm z3
      subst hm'
      subst z3'
      obtain ⟨l⟩ := sl
      have hs : l = _ := hs
      subst hs
      refine ⟨bm, ns, nm, qn, bs, hd, sn, sub, ab, col, dd, k0, k1, k2, k3, k5, h.nsMap ns, X _ _ ho, .of_isNs (PySem.W.isNs_of_in X z5), PySem.W.nsMap_none_of_in X z5 z6, PySem.W.tail_of_in X z4⟩
def tRaise (C : Addr) (E : XK) (t : TA) : TS := fun _ σ H => t σ H fun vs H1 => vs.length ≤ sizeLine ∧ E (.ref C) none H1
theorem ps_raise {X : Cx} {E : XK} {x : Str} {np cpos pos : Pos} {e₀ : Expr} {es : List Expr} {t : TA} {C : Addr} (b : Body X E) (hc : X.calm = true) (hg : Gl X x) (hm : X.mg x = some (.ref C)) (hx : Exc X.K C) (ha : PA X (e₀ :: es) t)
    (hdb : (x == ("__debug__" : Str)) = false := by decide) (he : starEach (e₀ :: es) X.env = (false, eval e₀ X.env) :: starEach es X.env := by rfl) (hpl : (backTo cpos (starEach es X.env)).any (·.1) = false := by rfl) :
    PS X (.Raise (some (.Call (.Name x np) (e₀ :: es) [] cpos)) none pos) (tRaise C E t) := by
  intro pins s σ H D I h
  obtain ⟨bm, N, nm, qn, bs, hdct, sn, sub, ab, col, dd, k0, k1, k2, k3, k5, mN, hC, hN, hni, T⟩ := exc_obj I.ok.mod.kin hx.is
  have hA := ha cpos pins s σ H _ I h
  have hp : (backTo cpos (starEach (e₀ :: es) X.env)).any (·.1) = false := by
    rw [he]
    exact hpl
  refine wpAny_Raise_call_subT (C := C) (nm := nm) (q := qn) (N := N) (bs := bs) (bm := bm) (hdct := hdct) (sn := sn) (sub := sub) (ab := ab) (col := col) (dd := dd) (k0 := k0) (k1 := k1) (k2 := k2) (k3 := k3) (k5 := k5)
    PySem.F.excBase_ValueError (mN := mN) (T.hasType PySem.F.excBase_ValueError.hasBase) (I.ok.hd hc) hp hni (ld_glob I hg hm ⟨rfl, ?_⟩ hdb)
  rw [he] at hA ⊢
  refine Calls.evalArgs_plain (thn hA fun us s2 zx38 => ?_)
  obtain ⟨vs, H1, I1, r, z, q⟩ := zx38
  exact ⟨rfl, by rw [← r.length]; exact z, I1.bk _ _ hC, hN.keeps I1.bk, T.keeps I1.bk, fun h' e hx => b.raised I1 hx q⟩
structure Aloft (X : Cx) (pins : List (Addr × Obj)) (H : Hp) (B : Heap) : Prop where
  trk : ∀ b, H b ≠ none → ∃ o, B.get? b = some o
  pin : ∀ p ∈ X.pn ++ pins, ∃ o, B.get? p.1 = some o
  old : ∀ b o, X.s₀.heap.get? b = some o → b ∉ L2.frs X.stack → ∃ o', B.get? b = some o'
theorem Inv.upto {X : Cx} {E : XK} {pins : List (Addr × Obj)} {σ : St} {H : Hp} {s : Shared} {B h2 : Heap} {t' : Nat} (b : Body X E) (I : Inv X pins σ H s) (al : Aloft X pins H B) (st : B.StaysIn s.heap) (st2 : B.StaysIn h2) (us : s.heap.UpToSlots h2) :
    Inv X pins σ H { s with heap := h2, toks := t' } := by
  have noex : ∀ c : Addr, c ∉ X.ex := fun c z => by rw [b.ex] at z; exact absurd z (by simp)
  have kB : ∀ c o, s.heap.get? c = some o → (∃ o', B.get? c = some o') → h2.get? c = some o := fun c o q zz2 => by
    obtain ⟨o', z⟩ := zz2
    have e1 := st c o' z
    rw [q] at e1
    cases e1
    exact st2 c o z
  have cl : ∀ c v, s.heap.IsCell c v → h2.IsCell c v := fun c v zz3 => by
    obtain ⟨o, ho, hd⟩ := zz3
    obtain ⟨sl, e⟩ := us c o ho fun vs z => by rw [hd] at z; cases z
    exact ⟨_, e, hd⟩
  refine ⟨I.ok, I.os, I.bare, ⟨fun c o q n hc hx => ?_, fun c o q n hc hx => ?_, I.base.free, fun c o q hx => ?_, I.base.tups, I.base.frzs, I.base.tbls⟩, ?_, fun x c e => ?_, I.free, I.freeC, fun p hp => ?_, I.hok.keptT fun c u n q => kB c u q (al.trk c n), I.len⟩
  · exact kB c o (I.base.keep c o q n hc hx) (al.old c o q (b.old I q hc))
  · obtain ⟨sl, e1⟩ := I.base.slot c o q n hc hx
    obtain ⟨_, o', ho', nf⟩ := I.funs.mem hc
    rw [e1] at ho'
    have ho' := Option.some.inj ho'
    obtain ⟨sl', e2⟩ := us c _ e1 (by rw [ho']; exact nf)
    exact ⟨sl', e2⟩
  · obtain ⟨o', e1⟩ := I.base.there c o q hx
    by_cases hm : c ∈ L2.frs X.stack
    · obtain ⟨_, o2, ho2, nf⟩ := I.stack.mem hm
      rw [e1] at ho2
      have ho2 := Option.some.inj ho2
      obtain ⟨sl', e2⟩ := us c _ e1 (by rw [ho2]; exact nf)
      exact ⟨_, e2⟩
    · exact ⟨o', kB c o' e1 (al.old c o q hm)⟩
  · obtain ⟨m, hn, hl⟩ := I.loc
    refine ⟨m, us.ns hn, fun i x v e1 e2 e3 => ?_⟩
    obtain ⟨u, r, l⟩ := hl i x v e1 e2 e3
    refine ⟨u, r, ?_⟩
    rcases l with l | ⟨k, c, e, z⟩
    · exact .inl l
    · exact .inr ⟨k, c, e, cl c _ z⟩
  · obtain ⟨v, z⟩ := I.cell x c e
    exact ⟨v, cl c v z⟩
  · obtain ⟨e, n, ne, nf, d⟩ := I.pin p hp
    exact ⟨kB p.1 p.2 e (al.pin p hp), n, ne, nf, d⟩
def tryCx (X : Cx) (pins : List (Addr × Obj)) (EB : XK) : Cx :=
  { X with pn := X.pn ++ pins, xe := fun e s' => ∃ (ea : Addr) (C : Value) (B : Heap) (a0 : Value) (H' : Hp) (σ' : St), e = .ref ea ∧ Inv X pins σ' H' s' ∧ Heap.FlyingW B X.stack ea C a0 s'.heap ∧ Aloft X pins H' B ∧ EB C none H' }
def markCx (X : Cx) (e : Value) : Cx := { X with A := X.A.mark (some e), calm := false, xe := fun _ _ => False }
section
variable {X : Cx} {E EB : XK} {pins ps : List (Addr × Obj)} {σ : St} {H : Hp} {s : Shared} {e : Value}
theorem tryOk (ok : X.Ok) : (tryCx X pins EB).Ok :=
  ⟨ok.mod, ok.kind, ok.glob, ok.blt, ok.above, ok.inj, ok.has, ok.cab, ok.hd, ok.frames, ok.stk, ok.exf, ok.bs, ok.bsz, ok.noex, ok.exfs, ok.funs, ok.frf⟩
theorem tryOk' (ok : (tryCx X pins EB).Ok) : X.Ok :=
  ⟨ok.mod, ok.kind, ok.glob, ok.blt, ok.above, ok.inj, ok.has, ok.cab, ok.hd, ok.frames, ok.stk, ok.exf, ok.bs, ok.bsz, ok.noex, ok.exfs, ok.funs, ok.frf⟩
theorem tryIn (I : Inv X pins σ H s) : Inv (tryCx X pins EB) [] σ H s := ⟨tryOk I.ok, I.os, I.bare, I.base, I.loc, I.cell, I.free, I.freeC, fun p hp => I.pin p (by
  rw [List.append_nil] at hp
  exact hp), I.hok, I.len⟩
theorem tryBack (I : Inv (tryCx X pins EB) ps σ H s) : Inv X pins σ H s := ⟨tryOk' I.ok, I.os, I.bare, I.base, I.loc, I.cell, I.free, I.freeC, fun p hp => I.pin p (List.mem_append_left _ hp), I.hok, I.len⟩
theorem trySP {D : Ends} {f : Flow} (h : SP (tryCx X pins EB) ps D f s) : SP X pins D f s := by
  cases f with
  | next => obtain ⟨σ', H', I, q⟩ := h; exact ⟨σ', H', tryBack I, q⟩
  | brk => obtain ⟨σ', H', I, q⟩ := h; exact ⟨σ', H', tryBack I, q⟩
  | cont => obtain ⟨σ', H', I, q⟩ := h; exact ⟨σ', H', tryBack I, q⟩
  | ret u => obtain ⟨v, σ', H', I, r, q⟩ := h; exact ⟨v, σ', H', tryBack I, r, q⟩
theorem try_pass {E' : XK} (b : Body X E) (hE : ∀ C d H, E' C d H → EB C d H) : Passes (CXx X.prog X.w) (tryCx X pins EB) E' := by
  intro ps σ H s e s' I h
  obtain ⟨ea, C, B, a0, H', rfl, os, bare, un, hok, fl, trk, old, q⟩ := h
  have I' : Inv (tryCx X pins EB) ps σ H' s' := I.call' (ch := []) os un hok bare (fun b z => absurd z (by simp))
  refine ⟨ea, C, B, a0, H', σ, rfl, tryBack I', fl, ⟨trk, fun p hp => ?_, fun c o z n => ?_⟩, hE _ _ _ q⟩
  · obtain ⟨e1, _, ne, nf, _⟩ := (tryBack I).pin p hp
    refine old p.1 p.2 e1 fun m => ?_
    have m' : p.1 ∈ L2.frs X.stack := m
    rw [b.frs] at m'
    rcases List.mem_cons.mp m' with y | y
    · exact ne y
    · exact nf y
  · obtain ⟨o', e1⟩ := (tryBack I).base.there c o z (by rw [b.ex]; simp)
    exact old c o' e1 n
theorem markOk (ok : X.Ok) : (markCx X e).Ok :=
  ⟨ok.mod, ok.kind, ok.glob, ok.blt, ok.above, ok.inj, ok.has, ok.cab, (fun z => nomatch z), ok.frames, ok.stk, ok.exf, ok.bs, ok.bsz, ok.noex, ok.exfs, ok.funs, ok.frf⟩
theorem markIn (I : Inv X pins σ H s) : Inv (markCx X e) pins σ H s := ⟨markOk I.ok, I.os, I.bare, I.base, I.loc, I.cell, I.free, I.freeC, I.pin, I.hok, I.len⟩
theorem markBack (ok : X.Ok) (I : Inv (markCx X e) pins σ H s) : Inv X pins σ H s := ⟨ok, I.os, I.bare, I.base, I.loc, I.cell, I.free, I.freeC, I.pin, I.hok, I.len⟩
theorem markSP {D : Ends} {f : Flow} (ok : X.Ok) (h : SP (markCx X e) pins D f s) : SP X pins D f s := by
  cases f with
  | next => obtain ⟨σ', H', I, q⟩ := h; exact ⟨σ', H', markBack ok I, q⟩
  | brk => obtain ⟨σ', H', I, q⟩ := h; exact ⟨σ', H', markBack ok I, q⟩
  | cont => obtain ⟨σ', H', I, q⟩ := h; exact ⟨σ', H', markBack ok I, q⟩
  | ret u => obtain ⟨v, σ', H', I, r, q⟩ := h; exact ⟨v, σ', H', markBack ok I, r, q⟩
theorem Inv.blank (I : Inv X pins σ H s) : Inv X pins (List.replicate X.N.length none) H s :=
  I.weak (by rw [List.length_replicate]; exact I.len.symm) fun i v e => by
    rw [List.getElem?_replicate] at e
    split at e <;> cases e
end
def tTry0 (K : PySem.W.Frag) (c : Value) (n : Nat) (tb : XK → TS) (th : TS) : TS := fun D σ H => tb (fun C _ H' => PySem.W.exmOne K C c = some true ∧ th D (List.replicate n none) H') D σ H
theorem ps_try0 {X : Cx} {E : XK} {body suite : List Stmt} {b₀ : Stmt} {x : Str} {np hpos pos : Pos} {c : Value} {tb : XK → TS} {th : TS} (b : Body X E) (hg : Gl X x) (hm : X.mg x = some c)
    (hb : ∀ pins EB, PSs (tryCx X pins EB) body (tb EB)) (hs : ∀ e, PSs (markCx X e) (b₀ :: suite) th) (hE : ∀ e : Value, PassesOwnAt (model X.prog X.w) (X.A.mark (some e)) X.A X.env (fun _ _ => False) := fun _ => PassesOwnAt.never)
    (hdb : (x == ("__debug__" : Str)) = false := by decide) :
    PS X (.Try body [.ExceptHandler (some (.Name x np)) none (b₀ :: suite) hpos] [] [] pos) (tTry0 X.K c X.N.length tb th) := by
  intro pins s σ H D I h
  refine wpAny_Try_except (wpAny_mono (hb pins _ [] s σ H D (tryIn I) h) (fun f s1 q => ?_) fun e s1 q => ?_)
  · have q := trySP q
    cases f with
    | next => exact wpAny_execs_nil q
    | brk => exact q
    | cont => exact q
    | ret u => exact q
  · obtain ⟨ea, C, B, a0, H', σ', rfl, I1, fl, al, hx, hth⟩ := q
    have hfr : X.A.frames = some (X.env :: X.outer) := I.ok.frames.trans (congrArg some b.stk)
    rw [b.stk] at fl
    refine wpAny_looks_onW hfr b.fr fl fun h4 held4 us4 => wpAny_landsW held4 fun h5 fl5 us5 => ?_
    have I5 : Inv X pins σ' H' { s1 with heap := h5 } := I1.upto (t' := s1.toks) b al fl.1 fl5.1 (us4.trans us5)
    obtain ⟨ob, hob, hoc⟩ := fl5.there
    have LT : PySem.W.Looks (model X.prog X.w) h5 (typeOf (.ref ea)) C := by
      subst hoc
      exact (PySem.W.Looks.ld hob).andThen .now
    refine wpAny_handleBy_cons (codeAny_handlers_test (ld_glob (X := markCx X (.ref ea)) (markIn I5) hg hm ?_ hdb)) (fun z => nomatch z)
    refine (PySem.W.exm_one (M := model X.prog X.w) I5.kIn LT hx).here ?_
    refine codeAny_handlers_suite (lands_againW fl5 fun h6 fl6 us6 => ?_)
    have I6 : Inv X pins σ' H' { s1 with heap := h6 } := Inv.upto (s := { s1 with heap := h5 }) (t' := s1.toks) b I5 al fl5.1 fl6.1 us6
    exact wpAny_mono (hs (.ref ea) pins _ _ H' D (markIn I6.blank) hth) (fun f s7 q => markSP I.ok q) fun _ _ z => z.elim
section
variable {X : Cx} {E : XK} {pins : List (Addr × Obj)} {σ : St} {H : Hp} {s : Shared}
theorem HOk.adopt {P : Program} {w : World} {H : Hp} {h : Heap} {a : Addr} {o : HO} (x : HOk P w H h) (hn : H a = none) (new : ObjOk P w (upd H a o) h a o) : HOk P w (upd H a o) h := fun b u e => by
  by_cases hb : b = a
  · subst hb
    rw [upd_same] at e
    cases e
    exact new
  · rw [upd_ne hb] at e
    exact (x b u e).stay (fun _ _ _ q => q) (fun c q => by rw [upd_ne (ne_of_none q hn)]; exact q) fun c xs q => by rw [upd_ne (ne_of_none q hn)]; exact q
end
end L2
namespace L2
open PySem PySem.Spec PyProof.Rows
theorem comp_loop {prog : Program} {w : World} {A : Around} {R : Result → Shared → Prop} {s : Shared} {elt target iter : Expr} {ifs : List Expr} {scope : Scope} {pos : Pos} {it acc : Value} {env : Env} (I : Nat → Shared → Prop)
    (turn : ∀ n s, I n s → wpAny (model prog w) A (pyNext it) (fun r s₁ => match r with
      | none => R (.ok .next) s₁
      | some v => wpAny (model prog w) A (letOwnedTupleGo target it v) (fun _ s₂ => wpAny (model prog w) A (assign target env v) (fun _ s₃ =>
          wpAny (model prog w) A (forIn ifs true fun c r => if r = true then do let ok ← isTrue c env (eval c env); pure (ForInStep.yield ok) else pure (ForInStep.yield r)) (fun ok s₄ =>
            if ok = true then wpAny (model prog w) A (eval elt env) (fun x s₅ => wpAny (model prog w) A (call (.builtin "list.append") [acc, x]) (fun _ s₆ => ∃ m, m < n ∧ I m s₆) (fun _ _ => False) s₅) (fun _ _ => False) s₄
            else ∃ m, m < n ∧ I m s₄) (fun _ _ => False) s₃) (fun _ _ => False) s₂) (fun _ _ => False) s₁) (fun _ _ => False) s)
    (n : Nat) (h : I n s) : codeAny (model prog w) A (.compLoop (.ListComp elt [⟨target, iter, ifs, 0⟩] scope pos) 0 it acc env) R s := by
  refine codeAny_loop rfl I (fun n s hI => ?_) n h
  show wpAny _ A ((compTurn (.ListComp elt [⟨target, iter, ifs, 0⟩] scope pos) 0 it acc env).onRaise (fun x => do noteFrame x env; theTreesLotGoes x)) _ _ s
  refine wpAny_noted (wpAny_noRaise ?_)
  rw [compTurn_list]
  refine wpAny_bind (wpAny_standAt (wpAny_bind (thn (turn n s hI) fun r s₁ h₁ => ?_)))
  cases r with
  | none => exact wpAny_pure h₁
  | some v =>
    refine wpAny_bind (thn h₁ fun _ s₂ h₂ => wpAny_bind (thn h₂ fun _ s₃ h₃ => wpAny_bind (thn h₃ fun ok s₄ h₄ => ?_)))
    cases ok with
    | false => exact wpAny_pure ⟨rfl, h₄⟩
    | true => exact wpAny_bind (wpAny_bind (thn h₄ fun x s₅ h₅ => wpAny_bind (thn h₅ fun _ s₆ h₆ => wpAny_pure (wpAny_pure ⟨rfl, h₆⟩))))
def PIfs (X : Cx) (ifs : List Expr) (t : TT) : Prop :=
  ∀ (pins : List (Addr × Obj)) (s : Shared) (σ : St) (H : Hp) (Q : Bool → Hp → Prop), Inv X pins σ H s → t σ H Q →
    wpAny (model X.prog X.w) X.A (forIn ifs true fun c r => if r = true then do let ok ← isTrue c X.env (eval c X.env); pure (ForInStep.yield ok) else pure (ForInStep.yield r)) (TP X pins σ Q) X.xe s
def tYes : TT := fun _ H Q => Q true H
theorem pifs_nil {X : Cx} : PIfs X [] tYes := fun pins s σ H Q I h => wpAny_tests_nil ⟨H, I, h⟩
theorem pifs_one {X : Cx} {c : Expr} {t : TT} (h : PT X c t) : PIfs X [c] t := fun pins s σ H Q I hw => wpAny_tests_one (h pins s σ H Q I hw)
def compCx (X : Cx) (scope : Scope) (cl : List (Str × Addr)) (Nc : List Str) (C : Addr) (fp : List Addr) (pins : List (Addr × Obj)) (s3 : Shared) (H3 : Hp) : Cx :=
  { X with N := Nc, s₀ := s3, H₀ := H3, env := compEnvC scope cl C X.env, outer := X.stack, ex := fp, fn := fun x => !(cl.lookup x).isSome, pn := X.pn ++ pins, xe := fun _ _ => False }
structure CompOk (X : Cx) (scope : Scope) (cl : List (Str × Addr)) (x : Str) (fn : List Str) (fv : List Nat) : Prop where
  kind : scope.kind = .function
  ncell : ∀ y ∈ scope.names, y.2 ≠ .cell
  names : ∀ y ∈ scope.names, y.2 = .local → scope.names.lookup y.1 = some .local
  tgt : scope.names.lookup x = some .local
  clos : closureFor scope X.env = pure cl
  cells : ∀ y c, cl.lookup y = some c → X.env.cells.lookup y = some c
  free : ∀ y, ((relabel scope X.env).names.lookup y = some .cell ∨ (relabel scope X.env).names.lookup y = some .free) → ∃ c, cl.lookup y = some c
  slots : ∀ (j : Nat) (y : Str), fn[j]? = some y → ∃ k, fv[j]? = some k ∧ X.N[k]? = some y ∧ Vis X.env.scope y ∧ X.env.kindOf y = some .cell ∧ (relabel scope X.env).names.lookup y = some .cell
  nd : (x :: fn).Nodup
  len : fv.length = fn.length
def CompG (J : It) (fv : List (Option V)) (tt : TT) (te : TE) (Q : VK) (H1 : Hp) (D : Addr) : Prop := ∃ W : Nat → Nat → Hp → Prop, (∃ m, W 0 m (upd H1 D (.lst []))) ∧ ∀ i m H, W i m H →
  (J.stop i H ∧ Q (.ref D) H) ∨ (J.go i H ∧ ∃ N : Hp → Prop, (∀ H', N H' → ∃ m', m' < m ∧ W (i + 1) m' H') ∧ ∀ x H', J.yld i H x H' →
    tt (some x :: fv) H' fun ok H2 => if ok = true then te (some x :: fv) H2 fun y H3 => ∃ ys, H3 D = some (.lst ys) ∧ ys.length < sizeLine ∧ N (upd H3 D (.lst (ys ++ [y]))) else N H2)
def tComp (wi : TI) (fv : List Nat) (tt : TT) (te : TE) : TE := fun σ H Q => wi σ H fun J H1 => ∀ D, H1 D = none → CompG J (fv.map fun j => (σ[j]?).join) tt te Q H1 D
section
variable {X : Cx} {elt iter : Expr} {x : Str} {px pos : Pos} {ifs : List Expr} {scope : Scope} {cl : List (Str × Addr)} {fn : List Str} {fv : List Nat} {wi : TI} {tt : TT} {te : TE} {pins : List (Addr × Obj)} {σ : St} {H : Hp} {s : Shared}
theorem lookup_relabel_tgt (S : CompOk X scope cl x fn fv) : (relabel scope X.env).names.lookup x = some .local := lookup_relabel_local S.tgt
end
end L2
namespace L2
open PySem PySem.Spec PyProof.Rows
theorem countP_eqU {x : V} : ∀ {xs : List V} {us : List Value}, Vals xs us → xs.all flatV = true → us.countP (eqU x) = xs.countP fun y => eqV y x
  | _, _, .nil, _ => rfl
  | y :: xs, u :: us, .cons r t, f => by
    rw [List.all_cons, Bool.and_eq_true] at f
    rw [List.countP_cons, List.countP_cons, eqU_of r f.1, countP_eqU t f.2]
theorem Vals.getE {xs : List V} {us : List Value} (r : Vals xs us) {m : Nat} (hm : m < us.length) : ∃ y, xs[m]? = some y ∧ RelV y us[m] := by
  have hl := r.length
  cases e : xs[m]? with
  | none => exact absurd (List.getElem?_eq_none_iff.mp e) (by omega)
  | some y =>
    obtain ⟨u, hu, ru⟩ := r.get e
    rw [List.getElem?_eq_getElem hm] at hu
    cases hu
    exact ⟨y, rfl, ru⟩
section
variable {X : Cx}
theorem Inv.lobj {pins : List (Addr × Obj)} {σ : St} {H : Hp} {s : Shared} {a : Addr} {xs : List V} (I : Inv X pins σ H s) (h : SqL X.K H a xs) :
    ∃ (its : List Value) (n : Nat) (sl : Array (Option Value)), Vals xs its ∧ s.heap.get? a = some { cls := .type "list", dict := none, data := .seq its.toArray n, slots := sl } ∧ xs.length ≤ sizeLine := by
  obtain ⟨its, r, ⟨o, n, e, c, d, q⟩, hz⟩ := I.list h
  obtain ⟨oc, od, dt, sl⟩ := o
  have c : oc = _ := c
  have d : od = none := d
  have q : dt = _ := q
  subst c d q
  exact ⟨its, n, sl, r, e, hz⟩
def rCount (K : PySem.W.Frag) : V → List V → Hp → VK → Prop := fun x vs H Q => ∃ l xs y, x = .ref l ∧ vs = [y] ∧ SqL K H l xs ∧ flatV y = true ∧ xs.all flatV = true ∧ Q (.int ((xs.countP fun z => eqV z y : Nat) : Int)) H
theorem mt_count : MtR X "list.count" (rCount X.K) := by
  intro pins s σ H x vs v us Q I rx rv h
  obtain ⟨l, xs, y, rfl, rfl, hq, fy, fx, q⟩ := h
  cases rx
  obtain ⟨u, rfl, ru⟩ := rv.one
  obtain ⟨its, n, sl, r, e, hz⟩ := I.lobj hq
  refine call_meets F.slot_list_count ⟨_, e, rfl⟩ F.entry_list_count (F.args_list_count_2 _ _) (SeqAt.list_countAt l its.toArray n none sl u (eqU y)) ⟨e, fun w hw => mem_eqAt ru fy r fx w (by simpa using hw), ?_⟩
  refine ⟨.int _, H, I.tok _, ⟨s.toks, ?_⟩, q⟩
  rw [show its.toArray.toList = its by simp, countP_eqU r fx]
def rIndex (K : PySem.W.Frag) : V → List V → Hp → VK → Prop := fun x vs H Q => ∃ l xs y j z, x = .ref l ∧ vs = [y] ∧ SqL K H l xs ∧ flatV y = true ∧ xs.all flatV = true ∧
  xs[j]? = some z ∧ eqV z y = true ∧ (∀ m u, m < j → xs[m]? = some u → eqV u y = false) ∧ Q (.int (j : Nat)) H
theorem mt_index : MtR X "list.index" (rIndex X.K) := by
  intro pins s σ H x vs v us Q I rx rv h
  obtain ⟨l, xs, y, j, z, rfl, rfl, hq, fy, fx, hj, hit, hno, q⟩ := h
  cases rx
  obtain ⟨u, rfl, ru⟩ := rv.one
  obtain ⟨its, n, sl, r, e, hz⟩ := I.lobj hq
  have hl := r.length
  have hlt : j < xs.length := (List.getElem?_eq_some_iff.mp hj).1
  have hs : sizeLine = 16777216 := sizeLine_eq
  have flat : ∀ {m : Nat} {y' : V}, xs[m]? = some y' → flatV y' = true := fun {m y'} hm => List.all_eq_true.mp fx _ (List.mem_of_getElem? hm)
  have at_ : ∀ m (hm : m < its.toArray.size), ∃ y', xs[m]? = some y' ∧ eqU y its.toArray[m] = eqV y' y := fun m hm => by
    obtain ⟨y', h1, h2⟩ := r.getE (m := m) (by simpa using hm)
    refine ⟨y', h1, ?_⟩
    rw [show its.toArray[m] = its[m]'(by simpa using hm) by simp]
    exact eqU_of h2 (flat h1)
  have hja : j < its.toArray.size := by rw [List.size_toArray]; omega
  refine call_meets F.slot_list_index ⟨_, e, rfl⟩ F.entry_list_index (F.args_list_index_2 _ _) (SeqAt.list_indexAt l its.toArray n none sl u (eqU y) j hja (by omega) ?_ fun m hm hmj => ?_) ⟨e, fun w hw => mem_eqAt ru fy r fx w (by simpa using hw), ?_⟩
  · obtain ⟨y', h1, h2⟩ := at_ j hja
    rw [hj] at h1
    cases h1
    rw [h2]
    exact hit
  · obtain ⟨y', h1, h2⟩ := at_ m hm
    rw [h2]
    exact hno m y' hmj h1
  · exact ⟨.int (j : Nat), H, I.tok _, ⟨s.toks, rfl⟩, q⟩
def kitPure (T U : String) : Option Bool := if (Value.type T == Value.type U) = true then some true else if PySem.W.kitMeta U = true then (fastBuiltinMro T).map (·.contains (.type U)) else none
theorem kit_pure {K : PySem.W.Frag} {T U : String} {b : Bool} (h : kitPure T U = some b) : PySem.W.kitOne K (.type T) (.type U) = some b := h
def clsV : V → Option Value
  | .ty T => some (.type T)
  | .ref D => some (.ref D)
  | _ => none
theorem clsV_rel {c : V} {u cv : Value} (r : RelV c u) (h : clsV c = some cv) : u = cv := by
  cases c with
  | ty T => cases (show u = Value.type T from r); exact Option.some.inj h
  | ref D => cases (show u = Value.ref D from r); exact Option.some.inj h
  | _ => cases h
theorem call_isinst : CallR X (.builtin "isinstance") (fun xs H Q => ∃ x c t cv b, xs = [x, c] ∧ TyOf X.K H x t ∧ clsV c = some cv ∧ PySem.W.kitOne X.K t cv = some b ∧ Q (.bl b) H) := by
  intro pins s σ H xs us Q I r h
  obtain ⟨x, c, t, cv, b, rfl, ty, hc, hk, q⟩ := h
  obtain ⟨u, w', rfl, rx, rc⟩ := vals2 r
  cases clsV_rel rc hc
  exact isinst_ok I rx ty hk fun tk => ⟨.bl b, H, I.tok tk, rfl, q⟩
end
end L2
namespace L2
open PySem PySem.Spec PyProof.Rows
def EqV (X : Cx) (A : Around) (H : Hp) (x y : V) (b : Bool) : Prop := ∀ (pins : List (Addr × Obj)) (σ : St) (s : Shared) (u v : Value), Inv X pins σ H s → RelV x u → RelV y v → SeqAt.EqAt A s u v b
theorem EqV.flat {X : Cx} {A : Around} {H : Hp} {x y : V} (fx : flatV x = true) (fy : flatV y = true) : EqV X A H x y (eqV x y) := fun _ _ _ _ _ _ rx ry => eqAt_V rx ry fx fy
section
variable {X : Cx} {A : Around} {H : Hp} {a b : Addr} {xs ys : List V} {e : Nat → Bool}
theorem EqV.tup (hu : A.units < cLine) (ha : SqT X.K H a xs) (hb : SqT X.K H b ys) (he : ∀ (j : Nat) x y, xs[j]? = some x → ys[j]? = some y → EqV X A.in1 H x y (e j))
    (hr : a = b → ((List.range (min xs.length ys.length)).all e && xs.length == ys.length) = true) : EqV X A H (.ref a) (.ref b) ((List.range (min xs.length ys.length)).all e && xs.length == ys.length) := by
  intro pins σ s u v I rx ry
  cases rx
  cases ry
  by_cases ab : a = b
  · rw [hr ab, ab]
    exact SeqAt.EqAt.same _
  · obtain ⟨its, r1, p1, _⟩ := I.tuple ha
    obtain ⟨its2, r2, p2, _⟩ := I.tuple hb
    refine SeqAt.EqAt.of_refs ab ?_
    have z := SeqAt.RcAt.tuples (e := e) p1 p2 hu fun j h1 h2 => by
      have l1 : j < its.length := by simpa using h1
      have l2 : j < its2.length := by simpa using h2
      obtain ⟨x, hx, rx⟩ := r1.getE l1
      obtain ⟨y, hy, ry⟩ := r2.getE l2
      rw [show its.toArray[j] = its[j] by simp, show its2.toArray[j] = its2[j] by simp]
      exact he j x y hx hy pins σ s _ _ I rx ry
    rw [List.size_toArray, List.size_toArray, ← r1.length, ← r2.length] at z
    exact z
theorem RcV.lst {pins : List (Addr × Obj)} {σ : St} {s : Shared} (I : Inv X pins σ H s) (hu : A.units < cLine) (ha : SqL X.K H a xs) (hb : SqL X.K H b ys) (he : xs.length = ys.length → ∀ (j : Nat) x y, xs[j]? = some x → ys[j]? = some y → EqV X A.in1 H x y (e j)) :
    SeqAt.RcAt A s (.ref a) (.ref b) (xs.length == ys.length && (List.range xs.length).all e) := by
  obtain ⟨its, r1, p1, _⟩ := I.list ha
  obtain ⟨its2, r2, p2, _⟩ := I.list hb
  have l1 := r1.length
  have l2 := r2.length
  by_cases hl : xs.length = ys.length
  · have z := SeqAt.RcAt.lists (e := e) p1.isList p2.isList (by rw [List.size_toArray, List.size_toArray]; omega) hu fun j h1 h2 => by
      have m1 : j < its.length := by simpa using h1
      have m2 : j < its2.length := by simpa using h2
      obtain ⟨x, hx, rx⟩ := r1.getE m1
      obtain ⟨y, hy, ry⟩ := r2.getE m2
      rw [show its.toArray[j] = its[j] by simp, show its2.toArray[j] = its2[j] by simp]
      exact he hl j x y hx hy pins σ s _ _ I rx ry
    rw [List.size_toArray, ← l1] at z
    rw [show (xs.length == ys.length) = true by simp [hl], Bool.true_and]
    exact z
  · rw [show (xs.length == ys.length) = false by simp [hl], Bool.false_and]
    exact SeqAt.RcAt.lists_lengths p1.isList p2.isList (by rw [List.size_toArray, List.size_toArray, ← l1, ← l2]; simp [hl]) hu
theorem EqV.lst (hu : A.units < cLine) (ha : SqL X.K H a xs) (hb : SqL X.K H b ys) (he : xs.length = ys.length → ∀ (j : Nat) x y, xs[j]? = some x → ys[j]? = some y → EqV X A.in1 H x y (e j))
    (hr : a = b → (xs.length == ys.length && (List.range xs.length).all e) = true) : EqV X A H (.ref a) (.ref b) (xs.length == ys.length && (List.range xs.length).all e) := by
  intro pins σ s u v I rx ry
  cases rx
  cases ry
  by_cases ab : a = b
  · rw [hr ab, ab]
    exact SeqAt.EqAt.same _
  · exact SeqAt.EqAt.of_refs ab (RcV.lst I hu ha hb he)
end
def srt (ns : List Int) : List Int := ns.mergeSort fun a b => decide (a ≤ b)
theorem srt_perm (ns : List Int) : (srt ns).Perm ns := List.mergeSort_perm _ _
theorem srt_rising (ns : List Int) : (srt ns).Pairwise (· ≤ ·) := by
  have h := List.pairwise_mergeSort (le := fun a b : Int => decide (a ≤ b)) (fun a b c h1 h2 => by simp at *; omega) (fun a b => by simp; omega) ns
  exact h.imp fun h => by simpa using h
theorem srt_of {ns ms : List Int} (hp : ms.Perm ns) (hs : ms.Pairwise (· ≤ ·)) : ms = srt ns := PySem.W.ksm_same (hp.trans (srt_perm ns).symm) hs (srt_rising ns)
theorem srt_length (ns : List Int) : (srt ns).length = ns.length := (srt_perm ns).length_eq
section
variable {X : Cx}
theorem call_sortedL : CallR X (.builtin "sorted") (fun xs H Q => ∃ p ns, xs = [.ref p] ∧ SqL X.K H p (ns.map V.int) ∧ ns.length < 64 ∧ ∀ l, H l = none → Q (.ref l) (upd H l (.lst ((srt ns).map V.int)))) := by
  intro pins s σ H xs us Q I r h
  obtain ⟨p, ns, rfl, hq, h64, q⟩ := h
  obtain ⟨u, rfl, ru⟩ := vals1 r
  cases ru
  obtain ⟨its, rv, pl, hz⟩ := I.list hq
  have hl := rv.length
  rw [List.length_map] at hl
  refine sorted_ints pl.isList (intsAre_of rv) (by omega) fun out ns' a1 a2 a3 => ?_
  obtain ⟨e, he⟩ := sortedAll_at s.heap its out
  have es := srt_of a2 a3
  subst es
  have hn : H (s.heap.objs.size + 1) = none := I.hok.fresh (Nat.le_succ _)
  refine ⟨.ref (s.heap.objs.size + 1), _, I.laid (t' := s.toks) (fun b o z => sortedAll_old z) (Nat.le_succ _) ?_, rfl, q _ hn⟩
  refine ⟨by rw [List.length_map, srt_length]; have := sizeLine_eq; omega, out.toList, e, vals_ints a1, ?_⟩
  exact he.trans (by simp [seqObj])
end
end L2
namespace L2
open PySem PySem.Spec PyProof.Rows
section
variable {X : Cx} {pins : List (Addr × Obj)} {σ : St} {H : Hp} {s : Shared} {h' : Heap}
theorem Inv.laidN {a : Addr} {o : HO} {t' : Nat} (I : Inv X pins σ H s) (k : ∀ b u, s.heap.get? b = some u → h'.get? b = some u) (ha : s.heap.get? a = none) (new : ObjOk X.prog X.w (upd H a o) h' a o) : Inv X pins σ (upd H a o) { s with heap := h', toks := t' } := by
  have hn : H a = none := by
    cases q : H a with
    | none => rfl
    | some u =>
      obtain ⟨ob, e⟩ := (I.hok a u q).there
      rw [ha] at e
      cases e
  have ne : ∀ b u, s.heap.get? b = some u → b ≠ a := fun b u e z => by rw [z, ha] at e; cases e
  refine I.un ⟨fun b u q _ _ _ => k b u q, fun b u q _ _ _ => ⟨u.slots, k b u q⟩, fun b u q n _ => ?_, fun b u q _ => ⟨u, k b u q⟩, fun b xs q => ?_, fun b u xs q => ?_, fun b ps q => ⟨#[], ?_⟩⟩ ?_
  · rw [upd_ne (ne b u q)]
    exact n
  · rw [upd_ne (ne_of_none q hn)]
    exact q
  · rw [upd_ne (ne_of_none q hn)]
    exact q
  · rw [upd_ne (ne_of_none q hn), q]
    simp
  · exact (I.hok.kept k).adopt hn new
end
section
variable {X : Cx}
theorem call_sortedD (hc : X.calm = true) : CallR X (.builtin "sorted") (fun xs H Q => ∃ d kvs ns, xs = [.ref d] ∧ H d = some (.dK kvs) ∧ kvs.map (·.1) = ns.map Sum.inl ∧ ns.length < 64 ∧ ∀ l, H l = none → Q (.ref l) (upd H l (.lst ((srt ns).map V.int)))) := by
  intro pins s σ H xs us Q I r h
  obtain ⟨d, kvs, ns, rfl, hd, hk, h64, q⟩ := h
  obtain ⟨u, rfl, ru⟩ := vals1 r
  cases ru
  obtain ⟨z, lo, vs, rel, dd⟩ := dk_of I.hok hd
  obtain ⟨ep, hat⟩ := dd.dictAt
  have hkeys : vs.map (·.1) = ns.map Sum.inl := by rw [← rel.keys]; exact hk
  have hlen : vs.length = ns.length := by
    have e := congrArg List.length hkeys
    rwa [List.length_map, List.length_map] at e
  have hsl : sizeLine = 16777216 := sizeLine_eq
  refine Calls.call_function_entry kind_sorted plain_sorted entry_sorted (args_sorted1 _) ?_
  unfold Builtin.«sorted»
  refine wpAny_bind (m := checkCount "sorted" 1 1 _) (wpAny_pure ?_)
  refine wpAny_bind (PySem.W.kdu_collect (A := X.A.in1) (PySem.W.kdl_dict (knd := mixKind X.prog X.w) (kvs := vs) (ep := ep) lo) (I.ok.hd hc) hat (by omega) fun h1 tk acc k1 items => ?_)
  obtain ⟨i1, i2⟩ := items
  have la : acc.toList.length = ns.length := by rw [Array.length_toList, i1, hlen]
  have areInts : ∀ (l : List Value) (ms : List Int), l.length = ms.length → (∀ (j : Nat) v, l[j]? = some v → ∃ m t, ms[j]? = some m ∧ v = Value.int m t) → IntsAre l ms := by
    intro l
    induction l with
    | nil =>
      intro ms hl _
      cases ms with
      | nil => exact .nil
      | cons m ms => cases hl
    | cons a l ih =>
      intro ms hl hv
      cases ms with
      | nil => cases hl
      | cons m ms =>
        obtain ⟨m', t, e1, e2⟩ := hv 0 a rfl
        cases Option.some.inj e1
        subst e2
        exact .cons m t (ih ms (by simpa using hl) fun j v e => hv (j + 1) v (by simpa using e))
  have hI : IntsAre acc.toList ns := areInts _ _ la fun j v e => by
    obtain ⟨k, x, e1, e2⟩ := i2 j v (by rw [← Array.getElem?_toList]; exact e)
    have e3 : (vs.map (·.1))[j]? = some k := by rw [List.getElem?_map, e1]; rfl
    rw [hkeys, List.getElem?_map] at e3
    cases q : ns[j]? with
    | none => rw [q] at e3; cases e3
    | some m =>
      rw [q] at e3
      have e3 : Sum.inl m = k := Option.some.inj e3
      subst e3
      rcases keyIs_shape (k := Sum.inl m) (v := v) e2 with ⟨i, t, y1, y2⟩ | ⟨y, t, y1, _⟩
      · cases y1
        exact ⟨m, t, rfl, y2⟩
      · cases y1
  refine wpAny_bind (wpAny_newList ?_ (by rw [la]; omega))
  have ho : (h1.push (seqObj "list" acc.toList.toArray 0)).get? h1.objs.size = some (seqObj "list" acc.toList.toArray 0) := Heap.get?_push_size _ rfl
  have none1 : s.heap.get? h1.objs.size = none := by
    cases q : s.heap.get? h1.objs.size with
    | none => rfl
    | some o => exact absurd (Heap.lt_size (k1 _ _ q)) (Nat.lt_irrefl _)
  refine wpAny_bind (wpAny_holding (wpAny_call_entry slot_list_sort ⟨_, ho, rfl⟩ entry_list_sort (list_sort_tree (s := { s with heap := h1.push (seqObj "list" acc.toList.toArray 0), toks := tk }) ho hI (by rw [la]; exact h64) fun out ns' a1 a2 a3 => ⟨_, rfl, ?_⟩) (args_list_sort _)))
  obtain ⟨e, he⟩ := sortedHeap_at (out := out) ho
  have es := srt_of a2 a3
  subst es
  have hn : H h1.objs.size = none := by
    cases q : H h1.objs.size with
    | none => rfl
    | some u =>
      obtain ⟨ob, e⟩ := (I.hok _ u q).there
      rw [none1] at e
      cases e
  refine wpAny_pure ⟨_, rfl, .ref h1.objs.size, _, I.laidN (a := h1.objs.size) (o := .lst ((srt ns).map V.int)) (t' := tk) (fun b o z => ?_) none1 ?_, rfl, q _ hn⟩
  · have lt := Heap.lt_size (k1 b o z)
    rw [sortedHeap_old (Nat.ne_of_lt lt) (by rw [Heap.size_push]; exact Nat.lt_succ_of_lt lt)]
    exact Heap.get?_push_of_some _ (k1 b o z)
  · refine ⟨by rw [List.length_map, srt_length]; omega, out.toList, e, vals_ints a1, ?_⟩
    exact he.trans (by simp [seqObj])
end
end L2
namespace L2
open PySem PySem.Spec PyProof.Rows
def AllFree (cl : List (Str × Addr)) : List (Str × NameKind) → Prop
  | [] => True
  | p :: r => (p.2 = .free → ∃ c, cl.lookup p.1 = some c) ∧ AllFree cl r
theorem AllFree.get {cl : List (Str × Addr)} : ∀ {l : List (Str × NameKind)}, AllFree cl l → ∀ p ∈ l, p.2 = .free → ∃ c, cl.lookup p.1 = some c
  | [], _, _, h, _ => nomatch h
  | p :: r, ⟨h1, h2⟩, q, hq, e => by
    rcases List.mem_cons.mp hq with z | z
    · rw [z] at e ⊢; exact h1 e
    · exact AllFree.get h2 q z e
theorem relabel_free {scope : Scope} {env : Env} {cl : List (Str × Addr)} (hc : ∀ y ∈ scope.names, y.2 ≠ .cell) (h : AllFree cl scope.names) (y : Str)
    (q : (relabel scope env).names.lookup y = some .cell ∨ (relabel scope env).names.lookup y = some .free) : ∃ c, cl.lookup y = some c := by
  have go : ∀ k, (k = NameKind.cell ∨ k = .free) → (relabel scope env).names.lookup y = some k → ∃ c, cl.lookup y = some c := fun k hk e => by
    have m := PySem.mem_of_lookup e
    obtain ⟨⟨n, k'⟩, hm, he⟩ := List.mem_map.mp m
    dsimp only at he
    split at he
    · rename_i z
      cases he
      rw [Bool.and_eq_true, Bool.and_eq_true] at z
      exact h.get (y, k') hm (beq_iff_eq.mp z.1.1)
    · cases he
      rcases hk with z | z
      · exact absurd z (hc _ hm)
      · exact h.get _ hm z
  rcases q with q | q
  · exact go _ (.inl rfl) q
  · exact go _ (.inr rfl) q
theorem comp1 {X : Cx} {scope : Scope} {x y : Str} {c : Addr} {k : Nat} (kind : scope.kind = .function) (ncell : ∀ y ∈ scope.names, y.2 ≠ .cell) (names : ∀ y ∈ scope.names, y.2 = .local → scope.names.lookup y.1 = some .local) (tgt : scope.names.lookup x = some .local)
    (clos : closureFor scope X.env = pure [(y, c)]) (cell : X.env.cells.lookup y = some c) (free : AllFree [(y, c)] scope.names) (hN : X.N[k]? = some y) (hv : Vis X.env.scope y) (hk : X.env.kindOf y = some .cell)
    (hr : (relabel scope X.env).names.lookup y = some .cell) (hne : ¬ x = y) : CompOk X scope [(y, c)] x [y] [k] := by
  refine ⟨kind, ncell, names, tgt, clos, fun z d h => ?_, relabel_free ncell free, fun j z h => ?_, by simp [hne], rfl⟩
  · rw [List.lookup_cons] at h
    split at h
    · rename_i e
      rw [beq_iff_eq.mp e]
      cases h
      exact cell
    · cases h
  · cases j with
    | zero =>
      cases (show some y = some z from h)
      exact ⟨k, rfl, hN, hv, hk, hr⟩
    | succ j => simp at h
theorem yes {σ : St} {H : Hp} {Q : Bool → Hp → Prop} (h : Q true H) : tYes σ H Q := h
theorem comp_range {lo : Int} {n : Nat} {fv : List (Option V)} {tt : TT} {te : TE} {Q : VK} {H : Hp} {D : Addr} (Pv : Nat → Hp → Prop) (h0 : Pv 0 (upd H D (.lst [])))
    (hs : ∀ i H, i < n → Pv i H → tt (some (.int (lo + i)) :: fv) H fun ok H2 => if ok = true then te (some (.int (lo + i)) :: fv) H2 fun y H3 => ∃ ys, H3 D = some (.lst ys) ∧ ys.length < sizeLine ∧ Pv (i + 1) (upd H3 D (.lst (ys ++ [y]))) else Pv (i + 1) H2)
    (hd : ∀ H, Pv n H → Q (.ref D) H) : CompG (Itr lo n) fv tt te Q H D := by
  refine ⟨fun i m H => m = n - i ∧ i ≤ n ∧ Pv i H, ⟨n, by simp, Nat.zero_le _, h0⟩, ?_⟩
  rintro i m H ⟨rfl, hi, p⟩
  by_cases hlt : i < n
  · refine .inr ⟨hlt, Pv (i + 1), fun H' p' => ⟨n - (i + 1), by omega, rfl, hlt, p'⟩, fun x H' y => ?_⟩
    obtain ⟨e, y⟩ := y
    subst e y
    exact hs i _ hlt p
  · have e : i = n := by omega
    subst e
    exact .inl ⟨Nat.le_refl _, hd H p⟩
theorem comp_list {K : PySem.W.Frag} {a : Addr} {xs : List V} {fv : List (Option V)} {tt : TT} {te : TE} {Q : VK} {H : Hp} {D : Addr} (Pv : Nat → Hp → Prop) (h0 : Pv 0 (upd H D (.lst []))) (hl : ∀ i H, i ≤ xs.length → Pv i H → SqL K H a xs)
    (hs : ∀ i x H, xs[i]? = some x → Pv i H → tt (some x :: fv) H fun ok H2 => if ok = true then te (some x :: fv) H2 fun y H3 => ∃ ys, H3 D = some (.lst ys) ∧ ys.length < sizeLine ∧ Pv (i + 1) (upd H3 D (.lst (ys ++ [y]))) else Pv (i + 1) H2)
    (hd : ∀ H, Pv xs.length H → Q (.ref D) H) : CompG (Itl K a) fv tt te Q H D := by
  refine ⟨fun i m H => m = xs.length - i ∧ i ≤ xs.length ∧ Pv i H, ⟨xs.length, by simp, Nat.zero_le _, h0⟩, ?_⟩
  rintro i m H ⟨rfl, hi, p⟩
  have q := hl i H hi p
  by_cases hlt : i < xs.length
  · refine .inr ⟨⟨xs, xs[i], q, by simp [hlt]⟩, Pv (i + 1), fun H' p' => ⟨xs.length - (i + 1), by omega, rfl, hlt, p'⟩, fun x H' y => ?_⟩
    obtain ⟨e, y⟩ := y
    subst e
    exact hs i x _ (y xs q) p
  · have e : i = xs.length := by omega
    subst e
    exact .inl ⟨⟨xs, q, Nat.le_refl _⟩, hd H p⟩
end L2
namespace L2
open PySem PySem.Spec PyProof.Rows
section
variable {X : Cx} {pins : List (Addr × Obj)} {σ : St} {H : Hp} {s : Shared} {h' : Heap}
theorem Inv.turnedL {t' : Nat} {fp : List Addr} {T : Addr} {o : HO} (I : Inv X pins σ H s) (k : ∀ b u, b ∉ fp → s.heap.get? b = some u → h'.get? b = some u) (hf : ∀ b ∈ fp, FpOk X pins H b)
    (hT : s.heap.get? T = none) (new : ObjOk X.prog X.w (upd H T o) h' T o) : Inv X pins σ (upd H T o) { s with heap := h', toks := t' } := by
  have nit : ∀ b u, H b = some u → b ∉ fp := fun b u e z => by rw [(hf b z).1] at e; cases e
  have hn : H T = none := by
    cases q : H T with
    | none => rfl
    | some u =>
      obtain ⟨ob, e⟩ := (I.hok T u q).there
      rw [hT] at e
      cases e
  have ne : ∀ b u, s.heap.get? b = some u → b ≠ T := fun b u e z => by rw [z, hT] at e; cases e
  have ok1 : HOk X.prog X.w H h' := fun b u e => (I.hok b u e).stay (fun c v hc q => k c v (by
    rcases hc with z | z
    · rw [z]; exact nit b u e
    · exact nit c _ z) q) (fun _ q => q) fun _ _ q => q
  refine I.step (g' := s.gens) (d' := s.drawn) (ch := fp) (fun b hb => ?_) (fun b o _ _ hc e _ => k b o hc e) (fun b o _ _ hc e _ => ⟨o.slots, k b o hc e⟩) (fun b u _ e n => ?_)
    (fun b o hc e => ⟨o, k b o hc e⟩) (fun b xs e => ?_) (fun b u xs e => ?_) (fun b ps e => ⟨#[], ?_⟩) (fun m hm => ?_) (ok1.adopt hn new) I.bare
  · obtain ⟨f0, f1, f2, f3, f4, f5⟩ := hf b hb
    exact ⟨f3, f1, f4, f5⟩
  · rw [upd_ne (ne b u e)]
    exact n
  · rw [upd_ne (ne_of_none e hn)]
    exact e
  · rw [upd_ne (ne_of_none e hn)]
    exact e
  · rw [upd_ne (ne_of_none e hn), e]
    simp
  · obtain ⟨o, es, ep, ho, r⟩ := hm
    exact ⟨o, es, ep, k _ o (fun z => (hf _ z).2.1 rfl) ho, r⟩
theorem Inv.turnedN {t' : Nat} {fp : List Addr} (I : Inv X pins σ H s) (k : ∀ b u, b ∉ fp → s.heap.get? b = some u → h'.get? b = some u) (hf : ∀ b ∈ fp, FpOk X pins H b) : Inv X pins σ H { s with heap := h', toks := t' } := by
  have nit : ∀ b u, H b = some u → b ∉ fp := fun b u e z => by rw [(hf b z).1] at e; cases e
  refine I.step (g' := s.gens) (d' := s.drawn) (ch := fp) (fun b hb => ?_) (fun b o _ _ hc e _ => k b o hc e) (fun b o _ _ hc e _ => ⟨o.slots, k b o hc e⟩) (fun _ _ _ _ n => n)
    (fun b o hc e => ⟨o, k b o hc e⟩) (fun _ _ e => e) (fun _ _ _ e => e) (fun b ps e => ⟨#[], by rw [e]; simp⟩) (fun m hm => ?_) (fun b u e => ?_) I.bare
  · obtain ⟨f0, f1, f2, f3, f4, f5⟩ := hf b hb
    exact ⟨f3, f1, f4, f5⟩
  · obtain ⟨o, es, ep, ho, r⟩ := hm
    exact ⟨o, es, ep, k _ o (fun z => (hf _ z).2.1 rfl) ho, r⟩
  · refine (I.hok b u e).stay (fun c v hc q => k c v ?_ q) (fun _ q => q) fun _ _ q => q
    rcases hc with z | z
    · rw [z]; exact nit b u e
    · exact nit c _ z
end
def Itz (K : PySem.W.Frag) (l1 l2 : Addr) : It :=
  ⟨fun i H => ∃ xs ys x y, SqL K H l1 xs ∧ SqL K H l2 ys ∧ xs[i]? = some x ∧ ys[i]? = some y,
   fun i H v H' => ∃ T x y, v = .ref T ∧ H T = none ∧ H' = upd H T (.tup [x, y]) ∧ (∀ xs, SqL K H l1 xs → xs[i]? = some x) ∧ ∀ ys, SqL K H l2 ys → ys[i]? = some y,
   fun i H => ∃ xs ys, SqL K H l1 xs ∧ SqL K H l2 ys ∧ (xs.length ≤ i ∨ ys.length ≤ i)⟩
theorem turn_zip {P : Program} {w : World} {K : PySem.W.Frag} {elts : List Expr} {x1 : Nat} {pos : Pos} (z TI TO i1 i2 l1 l2 : Addr) (D : ZipApart z TI TO i1 i2 l1 l2) :
    Turn P w K (.Tuple elts x1 pos) (Itz K l1 l2) [z, TI, TO, i1, i2] z (fun i h => IsZip h z TI TO .none ∧ IsPair h TI (.ref i1) (.ref i2) ∧ (∃ a b, IsPair h TO a b) ∧ h.IsListIter i1 l1 i ∧ h.IsListIter i2 l2 i) where
  mem := by simp
  obj := fun i h st b hb => by
    obtain ⟨h1, h2, ⟨a, c, h3⟩, ⟨o4, e4, c4, d4⟩, ⟨o5, e5, c5, d5⟩⟩ := st
    simp only [List.mem_cons, List.not_mem_nil, or_false] at hb
    rcases hb with rfl | rfl | rfl | rfl | rfl
    · exact ⟨_, h1, fun v q => by cases q⟩
    · exact ⟨_, h2, fun v q => by cases q⟩
    · exact ⟨_, h3, fun v q => by cases q⟩
    · exact ⟨_, e4, fun v q => by rw [d4] at q; cases q⟩
    · exact ⟨_, e5, fun v q => by rw [d5] at q; cases q⟩
  keep := fun i h h' st k => by
    obtain ⟨h1, h2, ⟨a, c, h3⟩, h4, h5⟩ := st
    exact ⟨k z (by simp) _ h1, k TI (by simp) _ h2, ⟨a, c, k TO (by simp) _ h3⟩, h4.at fun o e => k i1 (by simp) o e, h5.at fun o e => k i2 (by simp) o e⟩
  item := by
    intro X hP hw hK hc i pins s σ H E I hf st hg
    subst hP hw hK
    obtain ⟨xs, ys, x, y, hq1, hq2, hx, hy⟩ := hg
    obtain ⟨its1, rv1, p1, hz1⟩ := I.list hq1
    obtain ⟨its2, rv2, p2, hz2⟩ := I.list hq2
    obtain ⟨u, hu, ru⟩ := rv1.get hx
    obtain ⟨v, hv, rv⟩ := rv2.get hy
    obtain ⟨s1, s2, ⟨a, c, s3⟩, s4, s5⟩ := st
    refine wpAny_pyNext_zip_item D s1 s2 s3 s4 s5 p1.isList p2.isList (x := u) (y := v) (by simpa using hu) (by simpa using hv) fun h' a1 a2 a3 a4 a5 a6 hk => ⟨_, rfl, ?_⟩
    have lt : ∀ {c o}, s.heap.get? c = some o → s.heap.objs.size ≠ c := fun e => Nat.ne_of_gt (Heap.lt_size e)
    refine wpAny_letOwnedTupleGo_zip (s := { s with heap := h' }) a1 fun h2 hz' hs' => ?_
    have T2 : IsPair h2 s.heap.objs.size u v := hs'.extBut _ _ (lt s1) a5
    have k2 : ∀ b o, b ∉ [z, TI, TO, i1, i2] → s.heap.get? b = some o → h2.get? b = some o := fun b o hb e => by
      simp only [List.mem_cons, List.not_mem_nil, or_false, not_or] at hb
      exact hs'.extBut _ _ hb.1 (hk b o hb.1 hb.2.2.1 hb.2.2.2.1 hb.2.2.2.2 e)
    have hn : H s.heap.objs.size = none := I.hok.fresh (Nat.le_refl _)
    refine ⟨.ref s.heap.objs.size, upd H s.heap.objs.size (.tup [x, y]), I.turnedL (t' := s.toks) k2 hf (Heap.get?_none_of_le (Nat.le_refl _)) ⟨by show 2 ≤ sizeLine; rw [sizeLine_eq]; decide, [u, v], .cons ru (.cons rv .nil), ⟨_, T2, rfl, _, rfl⟩⟩, rfl, ⟨_, x, y, rfl, hn, rfl, fun zs hzs => by rw [I.list_inj hzs hq1]; exact hx, fun zs hzs => by rw [I.list_inj hzs hq2]; exact hy⟩, ?_, fun b hb => ?_⟩
    · exact ⟨hz', hs'.extBut _ _ D.TIz (hk _ _ D.TIz D.TITO D.TIi1 D.TIi2 s2), ⟨_, _, hs'.extBut _ _ D.TOz a2⟩, a3.extBut hs'.extBut D.i1z, a4.extBut hs'.extBut D.i2z⟩
    · have ne : b ≠ s.heap.objs.size := fun q => by
        have q2 := (hf b hb).1
        simp only [List.mem_cons, List.not_mem_nil, or_false] at hb
        obtain ⟨o4, e4, _⟩ := s4
        obtain ⟨o5, e5, _⟩ := s5
        rcases hb with rfl | rfl | rfl | rfl | rfl
        · exact lt s1 q.symm
        · exact lt s2 q.symm
        · exact lt s3 q.symm
        · exact lt e4 q.symm
        · exact lt e5 q.symm
      rw [upd_ne ne]
      exact (hf b hb).1
  done := by
    intro X hP hw hK hc i pins s σ H E I hf st hg
    subst hP hw hK
    obtain ⟨xs, ys, hq1, hq2, hx⟩ := hg
    obtain ⟨its1, rv1, p1, hz1⟩ := I.list hq1
    obtain ⟨its2, rv2, p2, hz2⟩ := I.list hq2
    have l1' := rv1.length
    have l2' := rv2.length
    obtain ⟨s1, s2, ⟨a, c, s3⟩, s4, s5⟩ := st
    refine wpAny_pyNext_zip_end (I.ok.hd hc) D s1 s2 s3 s4 s5 p1.isList p2.isList (by
      rcases hx with q | q
      · exact .inl (by simp; omega)
      · exact .inr (by simp; omega)) fun h' hk => ⟨rfl, I.turnedN (t' := s.toks) (fun b o hb e => ?_) hf⟩
    simp only [List.mem_cons, List.not_mem_nil, or_false, not_or] at hb
    exact hk b o hb.1 hb.2.2.1 hb.2.2.2.1 hb.2.2.2.2 e
  self := fun _ _ _ _ _ st h => wpAny_pyIter_zip st.1 h
theorem zip_apart (I l1 l2 : Nat) (h1 : l1 < I) (h2 : l2 < I) : ZipApart (I + 4) (I + 2) (I + 3) I (I + 1) l1 l2 := by
  have up : ∀ j k : Nat, j ≠ k → I + j ≠ I + k := fun j k h e => h (by omega)
  have nl : ∀ l k : Nat, l < I → l ≠ I + k := fun l k h e => by omega
  exact ⟨up 2 4 (by decide), up 3 4 (by decide), up 0 4 (by decide), up 1 4 (by decide), up 2 3 (by decide), up 2 0 (by decide), up 2 1 (by decide), up 3 0 (by decide), up 3 1 (by decide), up 0 1 (by decide), nl _ 4 h1, nl _ 3 h1, nl _ 0 h1, nl _ 1 h1, nl _ 4 h2, nl _ 3 h2, nl _ 0 h2, nl _ 1 h2⟩
theorem bt_zip : bootBuiltins "zip" = some (.type "zip") := by decide +kernel
section
variable {X : Cx} {elts : List Expr} {x1 : Nat} {tpos : Pos}
def iZip (K : PySem.W.Frag) (ta : TA) : TI := fun σ H R => ta σ H fun vs H1 => ∃ l1 l2 xs ys, vs = [.ref l1, .ref l2] ∧ SqL K H1 l1 xs ∧ SqL K H1 l2 ys ∧ R (Itz K l1 l2) H1
theorem pi_zip {a b : Expr} {ta : TA} {p pos : Pos} (hg : Gl X "zip") (hm : X.mg "zip" = none) (ha : PA X [a, b] ta) (hs : starEach [a, b] X.env = [(false, eval a X.env), (false, eval b X.env)] := by rfl) (hs2 : starEach [b] X.env = [(false, eval b X.env)] := by rfl) :
    PI X (.Tuple elts x1 tpos) (.Call (.Name "zip" p) [a, b] [] pos) (iZip X.K ta) := by
  intro pins s σ H R I h
  refine Call_ (ld_blt I hg hm bt_zip (PyProof.Rows.callWith_type1 (thn (ha pos pins s σ H _ I h) fun us s1 zx39 => ?_) (by rw [hs, hs2]) (by rw [hs2]; rfl)))
  obtain ⟨vs, H1, I1, r1, q1⟩ := zx39
  obtain ⟨l1, l2, xs, ys, e, hq1, hq2, q⟩ := q1
  subst e
  cases r1 with
  | cons r rr =>
    cases rr with
    | cons r' rr =>
      cases rr
      cases r
      cases r'
      obtain ⟨its1, rv1, p1, hz1⟩ := I1.list hq1
      obtain ⟨its2, rv2, p2, hz2⟩ := I1.list hq2
      have lt1 : l1 < s1.heap.objs.size := by obtain ⟨o, e, _⟩ := p1.isList; exact Heap.lt_size e
      have lt2 : l2 < s1.heap.objs.size := by obtain ⟨o, e, _⟩ := p2.isList; exact Heap.lt_size e
      refine call_zip_2 p1.isList p2.isList fun h' hz hTI hTO hi1 hi2 hsz hk => wpAny_pyIter_zip hz ?_
      have I2 : Inv X pins σ H1 { s1 with heap := h' } := I1.kept (t' := s1.toks) hk
      have D := zip_apart s1.heap.objs.size l1 l2 lt1 lt2
      refine ⟨_, _, _, _, H1, rfl, I2, turn_zip _ _ _ _ _ l1 l2 D, ⟨hz, hTI, ⟨_, _, hTO⟩, hi1, hi2⟩, fun b hb => ?_, q⟩
      have le : s1.heap.objs.size ≤ b := by
        simp only [List.mem_cons, List.not_mem_nil, or_false] at hb
        rcases hb with rfl | rfl | rfl | rfl | rfl
        all_goals first | exact Nat.le_refl _ | exact Nat.le_add_right _ _
      exact I1.fpOk le (I1.hok.fresh le)
end
theorem for_zip {K : PySem.W.Frag} {l1 l2 : Addr} {xs ys : List V} {g : TG} {tb : TS} {D : Ends} {σ : St} {H : Hp} (hxy : xs.length = ys.length) (Pv : Nat → St → Hp → Prop) (h0 : Pv 0 σ H) (hl : ∀ i σ H, i ≤ xs.length → Pv i σ H → SqL K H l1 xs ∧ SqL K H l2 ys)
    (hs : ∀ i x y σ H T, xs[i]? = some x → ys[i]? = some y → Pv i σ H → H T = none → g (.ref T) σ (upd H T (.tup [x, y])) fun σ2 H2 => tb { D with nx := Pv (i + 1), ct := Pv (i + 1), bk := D.nx } σ2 H2) (hd : ∀ σ H, Pv xs.length σ H → D.nx σ H) :
    ∃ W : Nat → Nat → St → Hp → Prop, (∃ m, W 0 m σ H) ∧ ∀ i m σ H, W i m σ H →
      ((Itz K l1 l2).stop i H ∧ D.nx σ H) ∨ ((Itz K l1 l2).go i H ∧ ∃ N : St → Hp → Prop, (∀ σ' H', N σ' H' → ∃ m', m' < m ∧ W (i + 1) m' σ' H') ∧ ∀ x H', (Itz K l1 l2).yld i H x H' → g x σ H' fun σ2 H2 => tb { D with nx := N, ct := N, bk := D.nx } σ2 H2) := by
  refine ⟨fun i m σ H => m = xs.length - i ∧ i ≤ xs.length ∧ Pv i σ H, ⟨xs.length, by simp, Nat.zero_le _, h0⟩, ?_⟩
  rintro i m σ H ⟨rfl, hi, p⟩
  obtain ⟨q1, q2⟩ := hl i σ H hi p
  by_cases hlt : i < xs.length
  · refine .inr ⟨⟨xs, ys, xs[i], ys[i], q1, q2, by simp [hlt], by simp [hxy ▸ hlt]⟩, Pv (i + 1), fun σ' H' p' => ⟨xs.length - (i + 1), by omega, rfl, hlt, p'⟩, fun x H' y => ?_⟩
    obtain ⟨T, x', y', rfl, hT, rfl, e1, e2⟩ := y
    exact hs i x' y' σ _ T (e1 xs q1) (e2 ys q2) p hT
  · have e : i = xs.length := by omega
    subst e
    exact .inl ⟨⟨xs, ys, q1, q2, .inl (Nat.le_refl _)⟩, hd σ H p⟩
end L2
namespace L2
open PySem PySem.Spec PyProof.Rows
section
variable {X : Cx} {elts : List Expr} {x1 : Nat} {tpos : Pos}
end
section
variable {X : Cx}
end
end L2
namespace L2
open PySem PySem.Spec PyProof.Rows
section
variable {n : Nat} {s : Shared} {cmp : Nat → Nat → (Bool → Shared → Prop) → Shared → Prop}
end
end L2
namespace L2
open PySem PySem.Spec PyProof.Rows
section
variable {prog : Program} {w : World} {A : Around} {E : Value → Shared → Prop} {s : Shared}
end
section
variable {X : Cx}
end
end L2
namespace L2
open PySem PySem.Spec PyProof.Rows
structure CompOkT (X : Cx) (scope : Scope) (cl : List (Str × Addr)) (tn fn : List Str) (fv : List Nat) : Prop where
  kind : scope.kind = .function
  ncell : ∀ y ∈ scope.names, y.2 ≠ .cell
  names : ∀ y ∈ scope.names, y.2 = .local → scope.names.lookup y.1 = some .local
  clos : closureFor scope X.env = pure cl
  cells : ∀ y c, cl.lookup y = some c → X.env.cells.lookup y = some c
  free : ∀ y, ((relabel scope X.env).names.lookup y = some .cell ∨ (relabel scope X.env).names.lookup y = some .free) → ∃ c, cl.lookup y = some c
  slots : ∀ (j : Nat) (y : Str), fn[j]? = some y → ∃ k, fv[j]? = some k ∧ X.N[k]? = some y ∧ Vis X.env.scope y ∧ X.env.kindOf y = some .cell ∧ (relabel scope X.env).names.lookup y = some .cell
  len : fv.length = fn.length
def CompGT (J : It) (fv : List (Option V)) (nt : Nat) (g : TG) (tt : TT) (te : TE) (Q : VK) (H1 : Hp) (D : Addr) : Prop := ∃ W : Nat → Nat → Hp → Prop, (∃ m, W 0 m (upd H1 D (.lst []))) ∧ ∀ i m H, W i m H →
  (J.stop i H ∧ Q (.ref D) H) ∨ (J.go i H ∧ ∃ N : Hp → Prop, (∀ H', N H' → ∃ m', m' < m ∧ W (i + 1) m' H') ∧ ∀ x H' (ts : List (Option V)), ts.length = nt → J.yld i H x H' →
    g x (ts ++ fv) H' fun σ2 H2 => (∃ ts' : List (Option V), ts'.length = nt ∧ σ2 = ts' ++ fv) ∧ tt σ2 H2 fun ok H3 => if ok = true then te σ2 H3 fun y H4 => ∃ ys, H4 D = some (.lst ys) ∧ ys.length < sizeLine ∧ N (upd H4 D (.lst (ys ++ [y]))) else N H3)
def tCompT (wi : TI) (fv : List Nat) (nt : Nat) (g : TG) (tt : TT) (te : TE) : TE := fun σ H Q => wi σ H fun J H1 => ∀ D, H1 D = none → CompGT J (fv.map fun j => (σ[j]?).join) nt g tt te Q H1 D
section
variable {X : Cx} {elt iter target : Expr} {pos : Pos} {ifs : List Expr} {scope : Scope} {cl : List (Str × Addr)} {tn fn : List Str} {fv : List Nat} {wi : TI} {g : TG} {tt : TT} {te : TE} {pins : List (Addr × Obj)} {σ : St} {H : Hp} {s : Shared}
theorem compInT {s3 s4 : Shared} {H3 : Hp} {C : Addr} {fp : List Addr} {m : Str → Option Value} (S : CompOkT X scope cl tn fn fv) (I3 : Inv X pins σ H3 s3) (hC : C = s3.heap.objs.size) (hfp : ∀ b ∈ fp, FpOk X pins H3 b ∧ b < s3.heap.objs.size)
    (h4 : s4.os = s3.os ∧ s4.gens = s3.gens) (hns : s4.heap.Ns C m) (old : ∀ b o, s3.heap.get? b = some o → s4.heap.get? b = some o) :
    Inv (compCx X scope cl (tn ++ fn) C fp pins s3 H3) [] (List.replicate tn.length none ++ fv.map fun j => (σ[j]?).join) H3 s4 := by
  have hCf : H3 C = none := by rw [hC]; exact I3.hok.fresh (Nat.le_refl _)
  have ltC : ∀ b o, s3.heap.get? b = some o → b ≠ C := fun b o e => by rw [hC]; exact Nat.ne_of_lt (Heap.lt_size e)
  refine ⟨⟨I3.ok.mod, ?_, I3.ok.glob, I3.ok.blt, Nat.le_of_eq hC.symm, fun y z c h1 h2 => I3.ok.inj y z c (S.cells y c h1) (S.cells z c h2), fun y hy => S.free y hy, fun y c h1 h2 => ?_, I3.ok.hd, I3.ok.frames, .inl rfl, fun b hb => ?_, I3.bs, Nat.le_trans I3.ok.bsz I3.sz, fun b o e hb => ?_, fun b hb => ?_, I3.stack, I3.stkFree⟩,
    h4.1, by rw [h4.2]; exact I3.bare, Un.kept old, ⟨m, hns, fun i y v e1 e2 e3 => ?_⟩, fun y c e => ?_, hCf, fun y c e => I3.freeC y c (S.cells y c e), fun p hp => ?_, I3.hok.kept old, ?_⟩
  · show (relabel scope X.env).kind = .function
    exact S.kind
  · have z : (!(cl.lookup y).isSome) = true := h1
    have e : cl.lookup y = some c := h2
    rw [e] at z
    cases z
  · obtain ⟨⟨_, _, _, _, f4, _⟩, lt⟩ := hfp b hb
    exact ⟨by show b ≠ C; rw [hC]; exact Nat.ne_of_lt lt, fun y c e => f4 y c (S.cells y c e)⟩
  · obtain ⟨⟨_, _, _, f3, _⟩, _⟩ := hfp b hb
    rcases f3 with z | z
    · exact I3.ok.noex b o e z
    · exact absurd (Nat.lt_of_lt_of_le (Heap.lt_size (I3.ok.bs b o e).1) z) (Nat.lt_irrefl _)
  · obtain ⟨⟨_, f1, f2, _⟩, _⟩ := hfp b hb
    intro mm
    rcases List.mem_cons.mp (I3.stkSub b mm) with z | z
    · exact f1 z
    · exact f2 z
  · have e1 : (tn ++ fn)[i]? = some y := e1
    by_cases hi : i < tn.length
    · rw [List.getElem?_append_left (by rw [List.length_replicate]; exact hi), List.getElem?_replicate, if_pos hi] at e2
      cases Option.some.inj e2
    · rw [List.getElem?_append_right (by omega)] at e1
      rw [List.getElem?_append_right (by rw [List.length_replicate]; omega), List.length_replicate] at e2
      obtain ⟨k, f1, f2, f3, f4, f5⟩ := S.slots _ y e1
      rw [List.getElem?_map, f1] at e2
      have e2 : (σ[k]?).join = some v := Option.some.inj e2
      have e2 : σ[k]? = some (some v) := by
        cases q : σ[k]? with
        | none => rw [q] at e2; cases e2
        | some o => rw [q] at e2; have e2 : o = some v := e2; rw [e2]
      obtain ⟨m3, hn3, hl3⟩ := I3.loc
      obtain ⟨u, ru, l⟩ := hl3 k y v f2 e2 f3
      refine ⟨u, ru, .inr ⟨.inl f5, ?_⟩⟩
      rcases l with ⟨kk, _⟩ | ⟨_, c, hc, z⟩
      · rw [f4] at kk
        cases kk
      · obtain ⟨c', e'⟩ := S.free y (.inl f5)
        have e'' := S.cells y c' e'
        rw [hc] at e''
        cases e''
        obtain ⟨o, ho, hd⟩ := z
        exact ⟨c, e', o, old c o ho, hd⟩
  · obtain ⟨v, o, ho, hd⟩ := I3.cell y c (S.cells y c e)
    exact ⟨v, o, old c o ho, hd⟩
  · rw [List.append_nil] at hp
    obtain ⟨e, n, ne, nf, d⟩ := I3.pin p hp
    refine ⟨old _ _ e, n, ltC _ _ e, fun mm => ?_, d⟩
    rcases List.mem_cons.mp (I3.stkSub p.1 mm) with z | z
    · exact ne z
    · exact nf z
  · show (List.replicate tn.length none ++ fv.map fun j => (σ[j]?).join).length = (tn ++ fn).length
    rw [List.length_append, List.length_append, List.length_replicate, List.length_map, S.len]
theorem comp_coreT {Q0 : VK} {RR : Value → Addr → Result → Shared → Prop} (hc : X.calm = true) (hi : PI X target iter wi) (S : CompOkT X scope cl tn fn fv)
    (hg : ∀ C fp ps s3 H3, PG (compCx X scope cl (tn ++ fn) C fp ps s3 H3) target g)
    (ht : ∀ C fp ps s3 H3, PIfs (compCx X scope cl (tn ++ fn) C fp ps s3 H3) ifs tt) (he : ∀ C fp ps s3 H3, PE (compCx X scope cl (tn ++ fn) C fp ps s3 H3) elt te)
    (I : Inv X pins σ H s) (h : tCompT wi fv tn.length g tt te σ H Q0)
    (fin : ∀ (D C : Addr) (H' : Hp) (s' : Shared) (m : Str → Option Value), s'.heap.Ns C m → FpOk X pins H' C → Inv X pins σ H' s' → Q0 (.ref D) H' → RR (.ref D) C (.ok .next) s') :
    wpAny (model X.prog X.w) X.A (eval iter X.env) (fun xv s₁ => wpAny (model X.prog X.w) X.A (pyIter xv) (fun it s₂ => wpAny (model X.prog X.w) X.A (newList []) (fun acc s₃ =>
      wpAny (model X.prog X.w) X.A (newFunctionEnv scope X.env.globals cl [] X.env.qual none .none (some X.env)) (fun cenv s₄ =>
        codeAny (model X.prog X.w) X.A (.compStart (.ListComp elt [⟨target, iter, ifs, 0⟩] scope pos) 0 it acc { cenv with scope := relabel scope X.env }) (RR acc cenv.locals) s₄) X.xe s₃) X.xe s₂) X.xe s₁) X.xe s := by
  refine thn (hi pins s σ H _ I h) fun xv s1 h1 => thn h1 fun itv s2 h2 => ?_
  obtain ⟨it, fp, tnn, J, H2, e, I2, T, st2, f2, q⟩ := h2
  subst e
  have hD : H2 s2.heap.objs.size = none := I2.hok.fresh (Nat.le_refl _)
  obtain ⟨W, ⟨m0, w0⟩, turnW⟩ := q _ hD
  refine wpAny_newObj_type (wpAny_newFunctionEnv S.ncell (by intro y hy; simp at hy) (fun h₁ hns₁ hsb₁ => ?_) S.kind)
  have I3 : Inv X pins σ (upd H2 s2.heap.objs.size (.lst [])) { s2 with heap := s2.heap.push { cls := .type "list", data := .seq ([] : List Value).toArray }, toks := s2.toks } := I2.lnew (its := []) .nil (Nat.zero_le _)
  have obj2 : ∀ b ∈ fp, ∃ o, s2.heap.get? b = some o := fun b hb => let ⟨o, e, _⟩ := T.obj 0 _ st2 b hb; ⟨o, e⟩
  have ltf : ∀ b ∈ fp, b < s2.heap.objs.size := fun b hb => let ⟨o, e⟩ := obj2 b hb; Heap.lt_size e
  have size3 : (s2.heap.push { cls := .type "list", data := .seq ([] : List Value).toArray }).objs.size = s2.heap.objs.size + 1 := Heap.size_push _ _
  have hfp3 : ∀ b ∈ fp, FpOk X pins (upd H2 s2.heap.objs.size (.lst [])) b ∧ b < (s2.heap.push { cls := .type "list", data := .seq ([] : List Value).toArray }).objs.size := fun b hb =>
    ⟨⟨by rw [upd_ne (Nat.ne_of_lt (ltf b hb))]; exact (f2 b hb).1, (f2 b hb).2⟩, by rw [size3]; exact Nat.lt_succ_of_lt (ltf b hb)⟩
  have old : ∀ b o, (s2.heap.push { cls := .type "list", data := .seq ([] : List Value).toArray }).get? b = some o → h₁.get? b = some o := fun b o e =>
    (hsb₁.2 b (Nat.ne_of_lt (Heap.lt_size e))).trans (Heap.get?_push_of_some _ e)
  have I4 := compInT (s4 := { s2 with heap := h₁, toks := s2.toks + ([] : List (Str × Value)).length }) (fp := fp) S I3 rfl hfp3 ⟨rfl, rfl⟩ hns₁ old
  have st4 : tnn 0 h₁ := T.keep 0 _ _ st2 fun b hb o e => old b o (Heap.get?_push_of_some _ e)
  have stat : ∀ {ps : List (Addr × Obj)} {H' : Hp}, ps = [] → (∀ b ∈ fp, H' b = none) → ∀ b ∈ fp, FpOk (compCx X scope cl (tn ++ fn) (s2.heap.push { cls := .type "list", data := .seq ([] : List Value).toArray }).objs.size fp pins
      { s2 with heap := s2.heap.push { cls := .type "list", data := .seq ([] : List Value).toArray }, toks := s2.toks } (upd H2 s2.heap.objs.size (.lst []))) ps H' b := fun {ps H'} e hn b hb => by
    subst e
    obtain ⟨⟨_, f1, f2', f3, f4, f5⟩, lt⟩ := hfp3 b hb
    refine ⟨hn b hb, Nat.ne_of_lt lt, fun mm => ?_, .inl hb, fun y c e => f4 y c (S.cells y c e), fun p hp => ?_⟩
    · rcases List.mem_cons.mp (I3.stkSub b mm) with z | z
      · exact f1 z
      · exact f2' z
    · rw [List.append_nil] at hp
      exact f5 p hp
  have loop : codeAny (model X.prog X.w) X.A (.compLoop (.ListComp elt [⟨target, iter, ifs, 0⟩] scope pos) 0 (.ref it) (.ref s2.heap.objs.size)
      (compEnvC scope cl (s2.heap.push { cls := .type "list", data := .seq ([] : List Value).toArray }).objs.size X.env)) (RR (.ref s2.heap.objs.size) (s2.heap.push { cls := .type "list", data := .seq ([] : List Value).toArray }).objs.size)
      { s2 with heap := h₁, toks := s2.toks + ([] : List (Str × Value)).length } := by
    refine comp_loop (fun n s' => ∃ i ts H', ts.length = tn.length ∧ Inv (compCx X scope cl (tn ++ fn) (s2.heap.push { cls := .type "list", data := .seq ([] : List Value).toArray }).objs.size fp pins
      { s2 with heap := s2.heap.push { cls := .type "list", data := .seq ([] : List Value).toArray }, toks := s2.toks } (upd H2 s2.heap.objs.size (.lst []))) [] (ts ++ fv.map fun j => (σ[j]?).join) H' s' ∧ tnn i s'.heap ∧ (∀ b ∈ fp, H' b = none) ∧ W i n H') ?_ m0
      ⟨0, _, _, List.length_replicate, I4, st4, fun b hb => (hfp3 b hb).1.1, w0⟩
    rintro n s' ⟨i, ts, H', hts, I', st', fr', w'⟩
    rcases turnW i n H' w' with ⟨stop, qn⟩ | ⟨go, N, hN, step⟩
    · refine thn (T.done (compCx X scope cl (tn ++ fn) (s2.heap.push { cls := .type "list", data := .seq ([] : List Value).toArray }).objs.size fp pins
          { s2 with heap := s2.heap.push { cls := .type "list", data := .seq ([] : List Value).toArray }, toks := s2.toks } (upd H2 s2.heap.objs.size (.lst []))) rfl rfl rfl hc i [] s' _ H' _ I' (stat rfl fr') st' stop) fun r s5 ⟨hr, I5⟩ => ?_
      subst hr
      obtain ⟨m5, hn5, _⟩ := id I5.loc
      have J5 : Inv X pins σ H' s5 := I3.call' (ch := fp) I5.os I5.base I5.hok I5.bare fun b hb => let ⟨⟨_, f1, _, f3, f4, f5⟩, _⟩ := hfp3 b hb; ⟨f3, f1, f4, f5⟩
      exact fin _ _ H' s5 m5 hn5 (I3.fpOk (Nat.le_refl _) I5.free) J5 qn
    · refine thn (T.item (compCx X scope cl (tn ++ fn) (s2.heap.push { cls := .type "list", data := .seq ([] : List Value).toArray }).objs.size fp pins
          { s2 with heap := s2.heap.push { cls := .type "list", data := .seq ([] : List Value).toArray }, toks := s2.toks } (upd H2 s2.heap.objs.size (.lst []))) rfl rfl rfl hc i [] s' _ H' _ I' (stat rfl fr') st' go) fun r s5 ⟨u, hr, h5⟩ => ?_
      subst hr
      refine thn h5 fun _ s6 zx40 => ?_
      obtain ⟨y, H6, I6, r6, y6, st6, fr6⟩ := zx40
      have I6' := I6.pinned (stat rfl fr6) (T.obj _ _ st6)
      have again : ∀ {s7 : Shared} {H7 : Hp} {ts7 : List (Option V)}, ts7.length = tn.length → Inv (compCx X scope cl (tn ++ fn) (s2.heap.push { cls := .type "list", data := .seq ([] : List Value).toArray }).objs.size fp pins
          { s2 with heap := s2.heap.push { cls := .type "list", data := .seq ([] : List Value).toArray }, toks := s2.toks } (upd H2 s2.heap.objs.size (.lst []))) ([] ++ pinsAt fp s6.heap) (ts7 ++ fv.map fun j => (σ[j]?).join) H7 s7 → N H7 →
          ∃ m, m < n ∧ ∃ i ts H', ts.length = tn.length ∧ Inv (compCx X scope cl (tn ++ fn) (s2.heap.push { cls := .type "list", data := .seq ([] : List Value).toArray }).objs.size fp pins
            { s2 with heap := s2.heap.push { cls := .type "list", data := .seq ([] : List Value).toArray }, toks := s2.toks } (upd H2 s2.heap.objs.size (.lst []))) [] (ts ++ fv.map fun j => (σ[j]?).join) H' s7 ∧ tnn i s7.heap ∧ (∀ b ∈ fp, H' b = none) ∧ W i m H' := fun {s7 H7 ts7} hl7 I7 n7 => by
        obtain ⟨m', hm, w7⟩ := hN H7 n7
        refine ⟨m', hm, i + 1, ts7, H7, hl7, I7.unpinned, T.keep _ _ _ st6 fun b hb o e => (I7.pin (b, o) (List.mem_append_right _ (List.mem_append_right _ (mem_pinsAt hb e)))).1, fun b hb => ?_, w7⟩
        obtain ⟨o, e, _⟩ := T.obj _ _ st6 b hb
        exact (I7.pin (b, o) (List.mem_append_right _ (List.mem_append_right _ (mem_pinsAt hb e)))).2.1
      refine thn (hg _ _ _ _ _ _ s6 _ H6 y u _ I6' r6 (step y H6 ts hts y6)) fun _ s7 ⟨σ7, H7, I7, ⟨ts7, hl7, e7⟩, q7⟩ => ?_
      subst e7
      refine thn (ht _ _ _ _ _ _ s7 _ H7 _ I7 q7) fun ok s8 zx41 => ?_
      obtain ⟨H8, I8, q8⟩ := zx41
      cases ok with
      | false =>
        rw [if_neg Bool.false_ne_true] at q8 ⊢
        exact again hl7 I8 q8
      | true =>
        rw [if_pos rfl] at q8 ⊢
        refine thn (he _ _ _ _ _ _ s8 _ H8 _ I8 q8) fun z s9 zx42 => ?_
        obtain ⟨yv, H9, I9, r9, ys, hDl, hz, q9⟩ := zx42
        refine thn (mt_append _ s9 _ H9 (.ref s2.heap.objs.size) [yv] (.ref s2.heap.objs.size) [z] (fun _ H10 => N H10) I9 rfl (.cons r9 .nil) ⟨_, ys, yv, rfl, rfl, hDl, hz, q9⟩) fun _ s10 zx43 => ?_
        obtain ⟨v10, H10, I10, _, q10⟩ := zx43
        exact again hl7 I10 q10
  exact codeAny_compStart_list loop (T.self _ 0 _ _ _ st4 loop)
theorem pe_compT (hc : X.calm = true) (hi : PI X target iter wi) (S : CompOkT X scope cl tn fn fv) (hg : ∀ C fp ps s3 H3, PG (compCx X scope cl (tn ++ fn) C fp ps s3 H3) target g)
    (ht : ∀ C fp ps s3 H3, PIfs (compCx X scope cl (tn ++ fn) C fp ps s3 H3) ifs tt) (he : ∀ C fp ps s3 H3, PE (compCx X scope cl (tn ++ fn) C fp ps s3 H3) elt te)
    (hs : ∀ y, foldedSetIterable iter X.env y = pure y := by intro _; rfl) : PE X (.ListComp elt [⟨target, iter, ifs, 0⟩] scope pos) (tCompT wi fv tn.length g tt te) := by
  intro pins s σ H Q I h
  rw [eval_ListComp]
  refine wpAny_comprehension_free (use := none) rfl hs S.clos S.kind S.names ?_
  refine comp_coreT (RR := fun acc C => compPost (model X.prog X.w) X.A X.xe none (EP X pins σ Q) acc C) hc hi S hg ht he I h fun D C H' s' m hns fo J q => ?_
  obtain ⟨f0, f1, _, f3, f4, f5⟩ := fo
  exact ⟨m, hns, fun h' hs' => ⟨.ref D, H', J.turned (t' := s'.toks) (fun b o hb e => (hs'.2 b hb).trans e) f0 f1 f3 f4 f5, rfl, q⟩⟩
theorem ps_setCT {i : Nat} {y : Str} {py spos : Pos} (hN : X.N.Nodup) (hj : X.N[i]? = some y) (hy : Loc X.env.scope y) (hc : X.calm = true) (hi : PI X target iter wi) (S : CompOkT X scope cl tn fn fv) (hg : ∀ C fp ps s3 H3, PG (compCx X scope cl (tn ++ fn) C fp ps s3 H3) target g)
    (ht : ∀ C fp ps s3 H3, PIfs (compCx X scope cl (tn ++ fn) C fp ps s3 H3) ifs tt) (he : ∀ C fp ps s3 H3, PE (compCx X scope cl (tn ++ fn) C fp ps s3 H3) elt te)
    (hsw : swapsWith (.ListComp elt [⟨target, iter, ifs, 0⟩] scope pos) (some (.Name y py)) spos.line X.env = pure true := by rfl) (hs : ∀ y, foldedSetIterable iter X.env y = pure y := by intro _; rfl)
    (hf : X.fn y = true ∨ X.env.scope.names.lookup y = some .local := by first | exact .inl rfl | exact .inr rfl | assumption) :
    PS X (.Assign [.Name y py] (.ListComp elt [⟨target, iter, ifs, 0⟩] scope pos) spos) (tAsg (tCompT wi fv tn.length g tt te) (gName i)) := by
  intro pins s σ H D I h
  rw [exec_Assign_Name_used _ _ _ _ hsw]
  refine wpAny_bind (wpAny_standAt (wpAny_bind ?_))
  show wpAny _ X.A (do let _ ← comprehension (.ListComp elt [⟨target, iter, ifs, 0⟩] scope pos) scope X.env _ (newList []) false (eval iter X.env) (some (assign (.Name y py) X.env))) _ _ s
  refine wpAny_bind (thn (wpAny_comprehension_free (use := some (assign (.Name y py) X.env)) (Q := fun _ s' => SP X pins D .next s') rfl hs S.clos S.kind S.names ?_) fun _ s' hq => wpAny_pure (wpAny_pure hq))
  refine comp_coreT (RR := fun acc C => compPost (model X.prog X.w) X.A X.xe (some (assign (.Name y py) X.env)) (fun _ s' => SP X pins D .next s') acc C) hc hi S hg ht he I h fun D' C H' s' m hns fo J q => ?_
  obtain ⟨f0, f1, _, f3, f4, f5⟩ := fo
  show wpAny _ X.A (assign (.Name y py) X.env (.ref D')) _ _ _
  refine wpAny_assign_Name (store_ok2 J hN hj hy (v := .ref D') rfl (fun s2 J2 zx44 => ?_) hf)
  obtain ⟨a, hs2, ha⟩ := zx44
  have ne : a ≠ C := by
    rcases ha with z | z
    · rw [z]; exact Ne.symm f1
    · exact f4 y a z
  refine ⟨m, hns.sameBut hs2 (Ne.symm ne), fun h' hs' => ⟨_, H', J2.turned (t' := s2.toks) (fun b o hb e => (hs'.2 b hb).trans e) f0 f1 f3 f4 f5, q⟩⟩
end
inductive Freed (X : Cx) (scope : Scope) : List (Str × Addr) → List Str → List Nat → Prop where
  | nil : Freed X scope [] [] []
  | cons {cl : List (Str × Addr)} {fn : List Str} {fv : List Nat} {y : Str} {c : Addr} {k : Nat} (r : Freed X scope cl fn fv) (cell : X.env.cells.lookup y = some c) (hN : X.N[k]? = some y) (hv : Vis X.env.scope y) (hk : X.env.kindOf y = some .cell)
      (hr : (relabel scope X.env).names.lookup y = some .cell) : Freed X scope ((y, c) :: cl) (y :: fn) (k :: fv)
theorem Freed.cells {X : Cx} {scope : Scope} {cl : List (Str × Addr)} {fn : List Str} {fv : List Nat} (h : Freed X scope cl fn fv) : ∀ y c, cl.lookup y = some c → X.env.cells.lookup y = some c := by
  induction h with
  | nil => intro y c h; cases h
  | cons r cell hN hv hk hr ih =>
    intro z d h
    rw [List.lookup_cons] at h
    split at h
    · rename_i e
      rw [beq_iff_eq.mp e]
      cases h
      exact cell
    · exact ih z d h
theorem Freed.slots {X : Cx} {scope : Scope} {cl : List (Str × Addr)} {fn : List Str} {fv : List Nat} (h : Freed X scope cl fn fv) : ∀ (j : Nat) (y : Str), fn[j]? = some y → ∃ k, fv[j]? = some k ∧ X.N[k]? = some y ∧ Vis X.env.scope y ∧ X.env.kindOf y = some .cell ∧ (relabel scope X.env).names.lookup y = some .cell := by
  induction h with
  | nil => intro j y h; cases h
  | cons r cell hN hv hk hr ih =>
    intro j y h
    cases j with
    | zero => cases Option.some.inj h; exact ⟨_, rfl, hN, hv, hk, hr⟩
    | succ j => exact ih j y h
theorem Freed.len {X : Cx} {scope : Scope} {cl : List (Str × Addr)} {fn : List Str} {fv : List Nat} (h : Freed X scope cl fn fv) : fv.length = fn.length := by
  induction h with
  | nil => rfl
  | cons _ _ _ _ _ _ ih => simp [ih]
theorem compT {X : Cx} {scope : Scope} {cl : List (Str × Addr)} {tn fn : List Str} {fv : List Nat} (kind : scope.kind = .function) (ncell : ∀ y ∈ scope.names, y.2 ≠ .cell) (names : ∀ y ∈ scope.names, y.2 = .local → scope.names.lookup y.1 = some .local)
    (clos : closureFor scope X.env = pure cl) (free : AllFree cl scope.names) (h : Freed X scope cl fn fv) : CompOkT X scope cl tn fn fv :=
  ⟨kind, ncell, names, clos, h.cells, relabel_free ncell free, h.slots, h.len⟩
end L2
namespace L2
open PySem PySem.Spec PyProof.Rows
section
variable {M : Model} {A : Around} {E : Value → Shared → Prop} {s : Shared}
theorem setFlight_held {base : Heap} {l : List Env} {e L : Addr} {cls a0 : Value} {Q : Unit → Shared → Prop} (R : Heap.HeldW base l e cls a0 L s.heap)
    (h : ∀ h', Heap.HeldW base l e cls a0 L h' → s.heap.UpToSlots h' → Q () { s with heap := h' }) : wpAny M A (setFlight (.ref e) (some L)) Q E s := by
  obtain ⟨hkb, hen, hl, oe, vs, T, oT, ts, he, hcls, hd, h1, hnT, hTe, hT, hdT, h3⟩ := R
  have hsz3 : 3 < ts.size := (Array.getElem?_eq_some_iff.mp h3).1
  have other : ∀ b, b ≠ T → (s.heap.update T (Obj.mapFields (·.setIfInBounds 3 ((some L).elim Value.none fun f => rawInt f)))).get? b = s.heap.get? b :=
    fun b hb => Heap.get?_update_other _ _ (Ne.symm hb)
  have noRecord : ∀ b o, s.heap.get? b = some o → (∀ vs, o.data ≠ .fields vs) → b ≠ T := fun b o hb hnf q => by
    rw [q, hT] at hb; injection hb with hb; subst hb; exact hnf ts hdT
  unfold setFlight
  refine wpAny_bind (wpAny_field he hd h1 ?_)
  rw [if_pos (show (Value.ref T != Value.none) = true from by simp)]
  refine wpAny_setField hT hdT hsz3 (h _ ⟨fun b o hbo => (other b fun q => by rw [q, hnT] at hbo; cases hbo).trans (hkb b o hbo), hen,
    hl.of_keeps fun b o hb hnf => ⟨o, (other b (noRecord b o hb hnf)).trans hb, rfl⟩, ?_⟩ fun b o hb hnf => ⟨o.slots, (other b (noRecord b o hb hnf)).trans hb⟩)
  exact ⟨oe, vs, T, _, _, (other e (Ne.symm hTe)).trans he, hcls, hd, h1, hnT, hTe, Heap.get?_update_self _ hT (Obj.isFreed_of_fields (Obj.data_mapFields hdT _)), Obj.data_mapFields hdT _, by simp [hsz3]⟩
end
def HeldP (X : Cx) (E : XK) (e : Value) (s' : Shared) : Prop := ∃ (pins : List (Addr × Obj)) (ea : Addr) (C : Value) (B : Heap) (a0 : Value) (H' : Hp) (σ' : St),
  e = .ref ea ∧ Inv X pins σ' H' s' ∧ Heap.HeldW B X.stack ea C a0 X.env.locals s'.heap ∧ Aloft X pins H' B ∧ E C none H'
def xeL (X : Cx) (E : XK) : Value → Shared → Prop := fun e s' => wpAny (model X.prog X.w) X.A (noteFrame e X.env) (fun _ s'' => HeldP X E e s'') (fun _ _ => False) s'
def loopCx (X : Cx) (E : XK) : Cx := X.wish (xeL X E)
section
variable {X : Cx} {E : XK}
theorem loop_passes (b : Body X E) : PassesOwn (model X.prog X.w) X.A X.env (xeL X E) := by
  intro e s' h
  refine wpAny_mono h (fun _ s1 hp => ?_) fun _ _ z => z.elim
  obtain ⟨pins, ea, C, B, a0, H', σ', rfl, I, hh, al, q⟩ := hp
  obtain ⟨_, _, _, oe, vs, T, oT, ts, he, hcls, hd, h1, _⟩ := id hh
  unfold cameBackBy
  refine wpAny_bind (wpAny_field he hd h1 ?_)
  rw [if_neg (show ¬ ((Value.ref T == Value.none) = true) from by simp)]
  have key : wpAny (model X.prog X.w) X.A (setFlight (.ref ea) X.env.frame) (fun _ s2 => xeL X E (.ref ea) s2) (xeL X E) s1 := by
    rw [b.fr]
    refine setFlight_held hh fun h2 hh2 us => ?_
    have I2 : Inv X pins σ' H' { s1 with heap := h2 } := I.upto (t' := s1.toks) b al hh.1 hh2.1 us
    exact wpAny_noteFrame_againW b.fr hh2.2.2.2 ⟨pins, ea, C, B, a0, H', σ', rfl, I2, hh2, al, q⟩
  first
    | exact wpAny_bind (wpAny_pure key)
    | exact key
theorem loop_leave (b : Body X E) {e : Value} {s' : Shared} (h : xeL X E e s') : X.xe e s' := by
  refine b.xe _ _ ?_
  unfold leaving
  refine wpAny_bind (wpAny_mono h (fun _ s1 hp => ?_) fun _ _ z => z.elim)
  obtain ⟨pins, ea, C, B, a0, H', σ', rfl, I, hh, al, q⟩ := hp
  refine wpAny_landsW hh fun h2 fl us => ?_
  have fl2 : Heap.FlyingW B X.outer ea C a0 h2 := by
    rw [b.stk] at fl
    obtain ⟨k1, k2, ⟨_, _, k3⟩, k4⟩ := fl
    exact ⟨k1, k2, k3, k4⟩
  refine b.out I fl2 (fun c _ o z nf => us c o z nf) (fun c o z w => ?_) al.trk al.old q
  obtain ⟨o', w⟩ := w
  have e1 := hh.1 c o' w
  rw [z] at e1
  cases e1
  exact fl2.1 c o w
theorem loop_pass (b : Body X E) : Passes (CXx X.prog X.w) (loopCx X E) E := by
  intro ps σ H s e s' I h
  obtain ⟨ea, C, B, a0, H', rfl, os, bare, un, hok, fl, trk, old, q⟩ := h
  have I1 : Inv X ps σ H s := I.unwish
  have I' : Inv X ps σ H' s' := I1.call' (ch := []) os un hok bare (fun b z => absurd z (by simp))
  have al : Aloft X ps H' B := by
    refine ⟨trk, fun p hp => ?_, fun c o z n => ?_⟩
    · obtain ⟨e1, _, ne, nf, _⟩ := I1.pin p hp
      refine old p.1 p.2 e1 fun m => ?_
      have m' : p.1 ∈ L2.frs X.stack := m
      rw [b.frs] at m'
      rcases List.mem_cons.mp m' with y | y
      · exact ne y
      · exact nf y
    · obtain ⟨o', e1⟩ := I1.base.there c o z (by rw [b.ex]; simp)
      exact old c o' e1 n
  have fl : Heap.FlyingW B X.stack ea C a0 s'.heap := fl
  have fl' := fl
  rw [b.stk] at fl'
  refine wpAny_looks_onW (I1.ok.frames.trans (congrArg some b.stk)) b.fr fl' fun h2 hh us => ?_
  rw [← b.stk] at hh
  exact ⟨ps, ea, C, B, a0, H', σ, rfl, I'.upto (t' := s'.toks) b al fl.1 hh.1 us, hh, al, q⟩
theorem ps_loop {st : Stmt} {t : TS} (b : Body X E) (h : PS (loopCx X E) st t) : PS X st t := fun pins s σ H D I hw =>
  wpAny_mono (h pins s σ H D (I.wish _) hw) (fun _ _ q => SP.unwish q) fun _ _ q => loop_leave b q
end
end L2
namespace L2
open PySem PySem.Spec PyProof.Rows
inductive D where
  | non | bl (b : Bool) | int (i : Int) | str (x : Str) | lst (ds : List D) | tup (ds : List D) | scr (ns : List Int) | kt (xs : List V) | dtt (ks : List (List Int)) (ds : List D)
mutual
def Rep (K : PySem.W.Frag) (F : Hp) : D → V → Prop
  | .non, v => v = .non
  | .bl b, v => v = .bl b
  | .int i, v => v = .int i
  | .str x, v => v = .str x
  | .lst ds, v => ∃ a xs, v = .ref a ∧ F a = some (.lst xs) ∧ Reps K F ds xs
  | .tup ds, v => ∃ a xs, v = .ref a ∧ F a = some (.tup xs) ∧ Reps K F ds xs
  | .scr ns, v => ∃ a, v = .ref a ∧ SqL K F a (ns.map V.int)
  | .kt xs, v => ∃ a, v = .ref a ∧ SqT K F a xs
  | .dtt ks ds, v => ∃ (a : Addr) (kvs : List (List Key × V)), v = .ref a ∧ F a = some (.dT kvs) ∧ kvs.map (·.1) = ks.map (·.map Sum.inl) ∧ Reps K F ds (kvs.map (·.2))
def Reps (K : PySem.W.Frag) (F : Hp) : List D → List V → Prop
  | [], xs => xs = []
  | d :: ds, xs => ∃ x r, xs = x :: r ∧ Rep K F d x ∧ Reps K F ds r
end
theorem Same.seqT {K : PySem.W.Frag} {H H' : Hp} {a : Addr} {xs : List V} (e : Same H H') (h : SqT K H a xs) : SqT K H' a xs := by
  rcases h with (h | ⟨o, h⟩) | h
  · exact .inl (.inl (e _ _ h))
  · exact .inl (.inr ⟨o, e _ _ h⟩)
  · exact .inr h
mutual
theorem Rep.mono {K : PySem.W.Frag} {F F' : Hp} (s : Same F F') : ∀ (d : D) {v : V}, Rep K F d v → Rep K F' d v
  | .non, _, h => h
  | .bl _, _, h => h
  | .int _, _, h => h
  | .str _, _, h => h
  | .lst ds, _, ⟨a, xs, e, h, r⟩ => ⟨a, xs, e, s a _ h, Reps.mono s ds r⟩
  | .tup ds, _, ⟨a, xs, e, h, r⟩ => ⟨a, xs, e, s a _ h, Reps.mono s ds r⟩
  | .scr _, _, ⟨a, e, h⟩ => ⟨a, e, s.seq h⟩
  | .kt _, _, ⟨a, e, h⟩ => ⟨a, e, s.seqT h⟩
  | .dtt ks ds, _, ⟨a, kvs, e, h, hk, r⟩ => ⟨a, kvs, e, s a _ h, hk, Reps.mono s ds r⟩
theorem Reps.mono {K : PySem.W.Frag} {F F' : Hp} (s : Same F F') : ∀ (ds : List D) {xs : List V}, Reps K F ds xs → Reps K F' ds xs
  | [], _, h => h
  | d :: ds, _, ⟨x, r, e, h, t⟩ => ⟨x, r, e, Rep.mono s d h, Reps.mono s ds t⟩
end
section
variable {K : PySem.W.Frag} {F : Hp}
theorem Reps.nil : Reps K F [] [] := rfl
theorem Reps.cons {d : D} {ds : List D} {x : V} {xs : List V} (h : Rep K F d x) (t : Reps K F ds xs) : Reps K F (d :: ds) (x :: xs) := ⟨x, xs, rfl, h, t⟩
theorem Reps.length : ∀ {ds : List D} {xs : List V}, Reps K F ds xs → xs.length = ds.length
  | [], _, h => by rw [show _ = [] from h]; rfl
  | d :: ds, _, ⟨x, r, e, _, t⟩ => by rw [e, List.length_cons, List.length_cons, Reps.length t]
theorem Reps.get : ∀ {ds : List D} {xs : List V} {i : Nat} {d : D}, Reps K F ds xs → ds[i]? = some d → ∃ x, xs[i]? = some x ∧ Rep K F d x
  | [], _, i, d, _, e => by simp at e
  | d :: ds, _, 0, d', ⟨x, r, e, h, t⟩, q => by cases Option.some.inj q; rw [e]; exact ⟨x, rfl, h⟩
  | d :: ds, _, i + 1, d', ⟨x, r, e, h, t⟩, q => by
    obtain ⟨y, h1, h2⟩ := Reps.get (ds := ds) t (show ds[i]? = some d' from q)
    rw [e]
    exact ⟨y, h1, h2⟩
theorem Reps.get' : ∀ {ds : List D} {xs : List V} {i : Nat} {x : V}, Reps K F ds xs → xs[i]? = some x → ∃ d, ds[i]? = some d ∧ Rep K F d x
  | [], _, i, x, h, e => by rw [show _ = [] from h] at e; simp at e
  | d :: ds, _, 0, x', ⟨x, r, e, h, t⟩, q => by rw [e] at q; cases Option.some.inj q; exact ⟨d, rfl, h⟩
  | d :: ds, _, i + 1, x', ⟨x, r, e, h, t⟩, q => by rw [e] at q; exact Reps.get' (ds := ds) t (show r[i]? = some x' from q)
theorem Reps.append : ∀ {ds es : List D} {xs ys : List V}, Reps K F ds xs → Reps K F es ys → Reps K F (ds ++ es) (xs ++ ys)
  | [], _, _, _, h, t => by rw [show _ = [] from h]; exact t
  | d :: ds, _, _, _, ⟨x, r, e, h, q⟩, t => by rw [e]; exact ⟨x, _, rfl, h, Reps.append q t⟩
theorem Reps.of : ∀ {ds : List D} {xs : List V}, xs.length = ds.length → (∀ (i : Nat) d x, ds[i]? = some d → xs[i]? = some x → Rep K F d x) → Reps K F ds xs
  | [], [], _, _ => rfl
  | [], _ :: _, l, _ => by simp at l
  | d :: ds, [], l, _ => by simp at l
  | d :: ds, x :: xs, l, h => ⟨x, xs, rfl, h 0 d x rfl rfl, Reps.of (by simpa using l) fun i d' x' e1 e2 => h (i + 1) d' x' e1 e2⟩
theorem Reps.ints : ∀ (ns : List Int), Reps K F (ns.map D.int) (ns.map V.int)
  | [] => rfl
  | n :: ns => ⟨_, _, rfl, rfl, Reps.ints ns⟩
end
structure Grow (F H F' H' : Hp) : Prop where
  hh : Same H H'
  ff : Same F F'
  sub : Same F' H'
  new : ∀ a, F a = none → F' a ≠ none → H a = none ∨ ∃ xs, H a = some (.tup xs)
theorem Grow.refl {F H : Hp} (s : Same F H) : Grow F H F H := ⟨Same.refl _, Same.refl _, s, fun _ e n => absurd e n⟩
theorem Grow.trans {F H F1 H1 F2 H2 : Hp} (a : Grow F H F1 H1) (b : Grow F1 H1 F2 H2) : Grow F H F2 H2 := by
  refine ⟨a.hh.trans b.hh, a.ff.trans b.ff, b.sub, fun x e n => ?_⟩
  by_cases h : F1 x = none
  · rcases b.new x h n with z | ⟨xs, z⟩
    · exact .inl (a.hh.free z)
    · cases q : H x with
      | none => exact .inl rfl
      | some o =>
        have w := a.hh x o q
        rw [z] at w
        exact .inr ⟨xs, w.symm⟩
  · exact a.new x e h
theorem Grow.lay {F H : Hp} {a : Addr} {o : HO} (s : Same F H) (h : H a = none) : Grow F H (upd F a o) (upd H a o) := by
  refine ⟨fun b u e => ?_, fun b u e => ?_, fun b u e => ?_, fun b e n => ?_⟩
  · rw [upd_ne (ne_of_none e h)]; exact e
  · rw [upd_ne (ne_of_none (s _ _ e) h)]; exact e
  · by_cases hb : b = a
    · subst hb; rw [upd_same] at e ⊢; exact e
    · rw [upd_ne hb] at e ⊢; exact s _ _ e
  · by_cases hb : b = a
    · rw [hb]; exact .inl h
    · rw [upd_ne hb] at n; exact absurd e n
theorem Grow.keep {F H : Hp} {a : Addr} {o : HO} (s : Same F H) (h : H a = none) : Grow F H F (upd H a o) := by
  refine ⟨fun b u e => ?_, Same.refl _, fun b u e => ?_, fun b e n => absurd e n⟩
  · rw [upd_ne (ne_of_none e h)]; exact e
  · rw [upd_ne (ne_of_none (s _ _ e) h)]; exact s _ _ e
inductive DS where
  | un | sh (d : D) | own (ds : List D) | dic (kvs : List (Key × D)) | dct (ks : List (List Int)) (ds : List D) | obj (v : V) (fp : List Addr) (R : Hp → Prop)
def Local (fp : List Addr) (R : Hp → Prop) : Prop := ∀ H1 H2 : Hp, (∀ a ∈ fp, H2 a = H1 a) → (∀ a xs, H1 a = some (.tup xs) → H2 a = some (.tup xs)) → R H1 → R H2
def RepKV (K : PySem.W.Frag) (F : Hp) (kds : List (Key × D)) (kvs : List (Key × V)) : Prop := kvs.map (·.1) = kds.map (·.1) ∧ Reps K F (kds.map (·.2)) (kvs.map (·.2))
def SlotOk (K : PySem.W.Frag) (F H : Hp) : DS → Option V → Prop
  | .un, _ => True
  | .sh d, o => ∃ v, o = some v ∧ Rep K F d v
  | .own ds, o => ∃ a xs, o = some (.ref a) ∧ F a = none ∧ H a = some (.lst xs) ∧ Reps K F ds xs
  | .dic kds, o => ∃ a kvs, o = some (.ref a) ∧ F a = none ∧ H a = some (.dK kvs) ∧ RepKV K F kds kvs
  | .dct ks ds, o => ∃ (a : Addr) (kvs : List (List Key × V)), o = some (.ref a) ∧ F a = none ∧ H a = some (.dT kvs) ∧ kvs.map (·.1) = ks.map (·.map Sum.inl) ∧ Reps K F ds (kvs.map (·.2))
  | .obj v fp R, o => o = some v ∧ (∀ a ∈ fp, F a = none ∧ ∃ u, H a = some u ∧ ∀ xs, u ≠ .tup xs) ∧ Local fp R ∧ R H
def isOwn : DS → Bool
  | .own _ => true
  | .dic _ => true
  | .dct _ _ => true
  | .obj _ _ _ => true
  | _ => false
def isPl : DS → Bool
  | .own _ => true
  | .dic _ => true
  | .dct _ _ => true
  | _ => false
def has (s : DS) (o : Option V) (a : Addr) : Prop := match s with
  | .obj _ fp _ => a ∈ fp
  | _ => o = some (.ref a)
theorem pl_own {s : DS} (h : isPl s = true) : isOwn s = true := by cases s <;> first | rfl | cases h
theorem pl_has {s : DS} {o : Option V} {a : Addr} (h : isPl s = true) : has s o a ↔ o = some (.ref a) := by cases s <;> first | exact Iff.rfl | cases h
abbrev DEnv := List DS
structure Slots (K : PySem.W.Frag) (F H : Hp) (σ : St) (env : DEnv) : Prop where
  len : env.length = σ.length
  ok : ∀ (i : Nat) s, env[i]? = some s → SlotOk K F H s (σ[i]?).join
  apart : ∀ (i j : Nat) s t a, env[i]? = some s → env[j]? = some t → isOwn s = true → isOwn t = true → has s (σ[i]?).join a → has t (σ[j]?).join a → i = j
theorem SlotOk.grow {K : PySem.W.Frag} {F H F' H' : Hp} {s : DS} {o : Option V} (h : SlotOk K F H s o) (g : Grow F H F' H') : SlotOk K F' H' s o := by
  have free : ∀ a u, F a = none → H a = some u → (∀ xs, u ≠ .tup xs) → F' a = none := fun a u e1 e2 nt => by
    cases q : F' a with
    | none => rfl
    | some _ =>
      rcases g.new a e1 (by rw [q]; exact fun z => nomatch z) with z | ⟨xs, z⟩
      · rw [z] at e2
        cases e2
      · rw [z] at e2
        cases e2
        exact absurd rfl (nt xs)
  cases s with
  | un => trivial
  | sh d => obtain ⟨v, e, r⟩ := h; exact ⟨v, e, Rep.mono g.ff _ r⟩
  | own ds => obtain ⟨a, xs, e, f, q, r⟩ := h; exact ⟨a, xs, e, free a _ f q (fun _ z => nomatch z), g.hh _ _ q, Reps.mono g.ff _ r⟩
  | dic kds => obtain ⟨a, xs, e, f, q, r1, r2⟩ := h; exact ⟨a, xs, e, free a _ f q (fun _ z => nomatch z), g.hh _ _ q, r1, Reps.mono g.ff _ r2⟩
  | dct ks ds => obtain ⟨a, xs, e, f, q, r1, r2⟩ := h; exact ⟨a, xs, e, free a _ f q (fun _ z => nomatch z), g.hh _ _ q, r1, Reps.mono g.ff _ r2⟩
  | obj v fp R =>
    obtain ⟨e, f, lc, r⟩ := h
    refine ⟨e, fun a m => ?_, lc, lc _ _ (fun a m => ?_) (fun a xs q => g.hh _ _ q) r⟩
    · obtain ⟨f1, u, f2, f3⟩ := f a m
      exact ⟨free a u f1 f2 f3, u, g.hh _ _ f2, f3⟩
    · obtain ⟨f1, u, f2, f3⟩ := f a m
      rw [f2, g.hh _ _ f2]
theorem SlotOk.off {K : PySem.W.Frag} {F H : Hp} {t : DS} {o : Option V} {a : Addr} {u : HO} (z : SlotOk K F H t o) (ne : isOwn t = true → ∀ b, has t o b → b ≠ a) (nt : ∀ xs, H a ≠ some (.tup xs)) : SlotOk K F (upd H a u) t o := by
  cases t with
  | un => trivial
  | sh d => exact z
  | own ds => obtain ⟨b, xs, e1, f, l, r⟩ := z; exact ⟨b, xs, e1, f, by rw [upd_ne (ne rfl b e1)]; exact l, r⟩
  | dic ds => obtain ⟨b, xs, e1, f, l, r⟩ := z; exact ⟨b, xs, e1, f, by rw [upd_ne (ne rfl b e1)]; exact l, r⟩
  | dct ks ds => obtain ⟨b, xs, e1, f, l, r⟩ := z; exact ⟨b, xs, e1, f, by rw [upd_ne (ne rfl b e1)]; exact l, r⟩
  | obj v fp R =>
    obtain ⟨e, f, lc, r⟩ := z
    refine ⟨e, fun b m => ?_, lc, lc _ _ (fun b m => upd_ne (ne rfl b m)) (fun b xs q => ?_) r⟩
    · rw [upd_ne (ne rfl b m)]
      exact f b m
    · have hb : b ≠ a := fun z => nt xs (z ▸ q)
      rw [upd_ne hb]
      exact q
theorem SlotOk.frz {K : PySem.W.Frag} {F H : Hp} {t : DS} {o : Option V} {a : Addr} {u : HO} (z : SlotOk K F H t o) (f0 : F a = none) (ne : isOwn t = true → ∀ b, has t o b → b ≠ a) : SlotOk K (upd F a u) H t o := by
  have ff : Same F (upd F a u) := fun b o z => by rw [upd_ne (ne_of_none z f0)]; exact z
  cases t with
  | un => trivial
  | sh d => obtain ⟨v, y1, y2⟩ := z; exact ⟨v, y1, Rep.mono ff _ y2⟩
  | own es => obtain ⟨b, ys, y1, y2, y3, y4⟩ := z; exact ⟨b, ys, y1, by rw [upd_ne (ne rfl b y1)]; exact y2, y3, Reps.mono ff _ y4⟩
  | dic es => obtain ⟨b, ys, y1, y2, y3, y4, y5⟩ := z; exact ⟨b, ys, y1, by rw [upd_ne (ne rfl b y1)]; exact y2, y3, y4, Reps.mono ff _ y5⟩
  | dct ks es => obtain ⟨b, ys, y1, y2, y3, y4, y5⟩ := z; exact ⟨b, ys, y1, by rw [upd_ne (ne rfl b y1)]; exact y2, y3, y4, Reps.mono ff _ y5⟩
  | obj v fp R =>
    obtain ⟨e, f, lc, r⟩ := z
    refine ⟨e, fun b m => ?_, lc, r⟩
    rw [upd_ne (ne rfl b m)]
    exact f b m
theorem SlotOk.there {K : PySem.W.Frag} {F H : Hp} {t : DS} {o : Option V} {a : Addr} (z : SlotOk K F H t o) (ow : isOwn t = true) (h : has t o a) : F a = none ∧ ∃ u, H a = some u ∧ ∀ xs, u ≠ .tup xs := by
  cases t with
  | un => cases ow
  | sh d => cases ow
  | own ds => obtain ⟨b, xs, e1, f, l, r⟩ := z; rw [show o = _ from h] at e1; cases e1; exact ⟨f, _, l, fun _ y => nomatch y⟩
  | dic ds => obtain ⟨b, xs, e1, f, l, r⟩ := z; rw [show o = _ from h] at e1; cases e1; exact ⟨f, _, l, fun _ y => nomatch y⟩
  | dct ks ds => obtain ⟨b, xs, e1, f, l, r⟩ := z; rw [show o = _ from h] at e1; cases e1; exact ⟨f, _, l, fun _ y => nomatch y⟩
  | obj v fp R => obtain ⟨e, f, lc, r⟩ := z; exact f a h
theorem Slots.grow {K : PySem.W.Frag} {F H F' H' : Hp} {σ : St} {env : DEnv} (h : Slots K F H σ env) (g : Grow F H F' H') : Slots K F' H' σ env :=
  ⟨h.len, fun i s e => (h.ok i s e).grow g, h.apart⟩
def Fresh (H0 : Hp) (σ : St) (env : DEnv) : Prop := ∀ (i : Nat) s a, env[i]? = some s → isOwn s = true → has s (σ[i]?).join a → H0 a = none
abbrev Exs := Addr → Prop
abbrev GE := DEnv → Exs → (D → Prop) → Prop
abbrev GT := DEnv → Exs → (Bool → Prop) → Prop
abbrev GA := DEnv → Exs → (List D → Prop) → Prop
def ExOk (E : XK) (Ex : Exs) (H : Hp) : Prop := ∀ C, Ex C → ∀ H', Same H H' → E (.ref C) none H'
theorem ExOk.step {E : XK} {Ex : Exs} {H H' : Hp} (h : ExOk E Ex H) (s : Same H H') : ExOk E Ex H' := fun C e H'' s' => h C e H'' (s.trans s')
def Fin1 (K : PySem.W.Frag) (F H : Hp) (Qd : D → Prop) (Q : VK) : Prop := ∀ d v F' H', Qd d → Grow F H F' H' → Rep K F' d v → Q v H'
theorem Fin1.step {K : PySem.W.Frag} {F H F' H' : Hp} {Qd : D → Prop} {Q : VK} (h : Fin1 K F H Qd Q) (g : Grow F H F' H') : Fin1 K F' H' Qd Q := fun d v F2 H2 q g2 r => h d v F2 H2 q (g.trans g2) r
theorem Fin1.now {K : PySem.W.Frag} {F H : Hp} {Qd : D → Prop} {Q : VK} {d : D} {v : V} (h : Fin1 K F H Qd Q) (s : Same F H) (q : Qd d) (r : Rep K F d v) : Q v H := h d v F H q (Grow.refl s) r
def DTE (K : PySem.W.Frag) (E : XK) (g : GE) : TE := fun σ H Q => ∃ F env Ex Qd, Same F H ∧ Slots K F H σ env ∧ ExOk E Ex H ∧ g env Ex Qd ∧ Fin1 K F H Qd Q
def DTT (K : PySem.W.Frag) (E : XK) (g : GT) : TT := fun σ H Q => ∃ F env Ex Qd, Same F H ∧ Slots K F H σ env ∧ ExOk E Ex H ∧ g env Ex Qd ∧ ∀ b F' H', Qd b → Grow F H F' H' → Q b H'
def DTA (K : PySem.W.Frag) (E : XK) (g : GA) : TA := fun σ H Q => ∃ F env Ex Qd, Same F H ∧ Slots K F H σ env ∧ ExOk E Ex H ∧ g env Ex Qd ∧ ∀ ds vs F' H', Qd ds → Grow F H F' H' → Reps K F' ds vs → Q vs H'
structure DE (X : Cx) (E : XK) (e : Expr) (g : GE) : Prop where
  h : PE X e (DTE X.K E g)
structure DT (X : Cx) (E : XK) (e : Expr) (g : GT) : Prop where
  h : PT X e (DTT X.K E g)
structure DW (X : Cx) (E : XK) (e : Expr) (g : GT) : Prop where
  h : PW X e (DTT X.K E g)
structure DA (X : Cx) (E : XK) (es : List Expr) (g : GA) : Prop where
  h : PA X es (DTA X.K E g)
def DTF (K : PySem.W.Frag) (E : XK) (g : GA) : TE := fun σ H Q => ∃ F env Ex Qd, Same F H ∧ Slots K F H σ env ∧ ExOk E Ex H ∧ g env Ex Qd ∧
  ∀ ds a xs F' H', Qd ds → Grow F H F' H' → F' a = none → H a = none → H' a = some (.lst xs) → Reps K F' ds xs → Q (.ref a) H'
structure DF (X : Cx) (E : XK) (e : Expr) (g : GA) : Prop where
  h : PE X e (DTF X.K E g)
theorem el9 {α β γ δ : Type _} {A1 A2 A3 A4 A5 : α → β → γ → δ → Prop} {P : Prop} (h : ∃ a b c d, A1 a b c d ∧ A2 a b c d ∧ A3 a b c d ∧ A4 a b c d ∧ A5 a b c d) (k : ∀ a b c d, A1 a b c d → A2 a b c d → A3 a b c d → A4 a b c d → A5 a b c d → P) : P := by
  obtain ⟨a, b, c, d, h1, h2, h3, h4, h5⟩ := h
  exact k a b c d h1 h2 h3 h4 h5
theorem el10 {α β γ δ : Type _} {A1 A2 A3 A4 A5 A6 : α → β → γ → δ → Prop} {P : Prop} (h : ∃ a b c d, A1 a b c d ∧ A2 a b c d ∧ A3 a b c d ∧ A4 a b c d ∧ A5 a b c d ∧ A6 a b c d) (k : ∀ a b c d, A1 a b c d → A2 a b c d → A3 a b c d → A4 a b c d → A5 a b c d → A6 a b c d → P) : P := by
  obtain ⟨a, b, c, d, h1, h2, h3, h4, h5, h6⟩ := h
  exact k a b c d h1 h2 h3 h4 h5 h6
theorem PE.weak {X : Cx} {e : Expr} {t t' : TE} (h : PE X e t) (w : ∀ σ H Q, t' σ H Q → t σ H Q) : PE X e t' := fun pins s σ H Q I q => h pins s σ H Q I (w σ H Q q)
theorem PT.weak {X : Cx} {e : Expr} {t t' : TT} (h : PT X e t) (w : ∀ σ H Q, t' σ H Q → t σ H Q) : PT X e t' := fun pins s σ H Q I q => h pins s σ H Q I (w σ H Q q)
theorem PW.weak {X : Cx} {e : Expr} {t t' : TT} (h : PW X e t) (w : ∀ σ H Q, t' σ H Q → t σ H Q) : PW X e t' := fun wh pins s σ H Q I q => h wh pins s σ H Q I (w σ H Q q)
theorem PA.weak {X : Cx} {e : List Expr} {t t' : TA} (h : PA X e t) (w : ∀ σ H Q, t' σ H Q → t σ H Q) : PA X e t' := fun pos pins s σ H Q I q => h pos pins s σ H Q I (w σ H Q q)
theorem PS.weak {X : Cx} {st : Stmt} {t t' : TS} (h : PS X st t) (w : ∀ Dd σ H, t' Dd σ H → t Dd σ H) : PS X st t' := fun pins s σ H Dd I q => h pins s σ H Dd I (w Dd σ H q)
theorem PSs.weak {X : Cx} {st : List Stmt} {t t' : TS} (h : PSs X st t) (w : ∀ Dd σ H, t' Dd σ H → t Dd σ H) : PSs X st t' := fun pins s σ H Dd I q => h pins s σ H Dd I (w Dd σ H q)
section
variable {X : Cx} {elt iter : Expr} {x : Str} {px pos : Pos} {ifs : List Expr} {scope : Scope} {cl : List (Str × Addr)} {fn : List Str} {fv : List Nat} {wi : TI} {tt : TT} {te : TE}
def wMono (wi : TI) : TI := fun σ H R => ∃ R0 : It → Hp → Prop, wi σ H R0 ∧ ∀ J H1, R0 J H1 → R J H1
theorem pi_mono {tg : Expr} (hi : PI X tg iter wi) : PI X tg iter (wMono wi) := fun pins s σ H R I q => by
  obtain ⟨R0, q, m⟩ := q
  refine thn (hi pins s σ H R0 I q) fun v s1 q1 => thn q1 fun r s2 q2 => ?_
  obtain ⟨it, fp, tn, J, H', a1, a2, a3, a4, a5, a6⟩ := q2
  exact ⟨it, fp, tn, J, H', a1, a2, a3, a4, a5, m J H' a6⟩
theorem CompOk.t (S : CompOk X scope cl x fn fv) : CompOkT X scope cl [x] fn fv := ⟨S.kind, S.ncell, S.names, S.clos, S.cells, S.free, S.slots, S.len⟩
theorem comp_conv {σ : St} {H : Hp} {Q : VK} (h : tComp wi fv tt te σ H Q) : tCompT (wMono wi) fv 1 (gName 0) tt te σ H Q := ⟨_, h, fun J H1 c D hD => by
  obtain ⟨W, w0, step⟩ := c D hD
  refine ⟨W, w0, fun i m H hw => ?_⟩
  rcases step i m H hw with z | ⟨go, N, n1, n2⟩
  · exact .inl z
  · refine .inr ⟨go, N, n1, fun v H' ts hts y => ?_⟩
    cases ts with
    | nil => cases hts
    | cons t r =>
      have er : r = [] := List.eq_nil_of_length_eq_zero (Nat.succ.inj hts)
      subst er
      exact ⟨⟨[some v], rfl, rfl⟩, n2 v H' y⟩⟩
theorem pe_comp (hc : X.calm = true) (hi : PI X (.Name x px) iter wi) (S : CompOk X scope cl x fn fv)
    (ht : ∀ C fp ps s3 H3, PIfs (compCx X scope cl (x :: fn) C fp ps s3 H3) ifs tt) (he : ∀ C fp ps s3 H3, PE (compCx X scope cl (x :: fn) C fp ps s3 H3) elt te)
    (hs : ∀ y, foldedSetIterable iter X.env y = pure y := by intro _; rfl) : PE X (.ListComp elt [⟨.Name x px, iter, ifs, 0⟩] scope pos) (tComp wi fv tt te) := PE.weak (pe_compT hc (pi_mono hi) S.t (fun _ _ _ _ _ => pg_name (i := 0) S.nd rfl (.inl (lookup_relabel_tgt S)) (.inr (lookup_relabel_tgt S))) ht he hs) fun σ H Q h => comp_conv h
theorem ps_setC {i : Nat} {y : Str} {py spos : Pos} (hN : X.N.Nodup) (hj : X.N[i]? = some y) (hy : Loc X.env.scope y) (hc : X.calm = true) (hi : PI X (.Name x px) iter wi) (S : CompOk X scope cl x fn fv)
    (ht : ∀ C fp ps s3 H3, PIfs (compCx X scope cl (x :: fn) C fp ps s3 H3) ifs tt) (he : ∀ C fp ps s3 H3, PE (compCx X scope cl (x :: fn) C fp ps s3 H3) elt te)
    (hsw : swapsWith (.ListComp elt [⟨.Name x px, iter, ifs, 0⟩] scope pos) (some (.Name y py)) spos.line X.env = pure true := by rfl) (hs : ∀ y, foldedSetIterable iter X.env y = pure y := by intro _; rfl)
    (hf : X.fn y = true ∨ X.env.scope.names.lookup y = some .local := by first | exact .inl rfl | exact .inr rfl | assumption) :
    PS X (.Assign [.Name y py] (.ListComp elt [⟨.Name x px, iter, ifs, 0⟩] scope pos) spos) (tAsg (tComp wi fv tt te) (gName i)) := PS.weak (ps_setCT hN hj hy hc (pi_mono hi) S.t (fun _ _ _ _ _ => pg_name (i := 0) S.nd rfl (.inl (lookup_relabel_tgt S)) (.inr (lookup_relabel_tgt S))) ht he hsw hs hf) fun D σ H h => comp_conv h
end
set_option genInjectivity false in
set_option genSizeOf false in
structure DEnds where
  nx : DEnv → Prop
  rt : D → Prop
  bk : DEnv → Prop := fun _ => False
  ct : DEnv → Prop := fun _ => False
  rf : List D → Prop := fun _ => False
  ro : DS → Prop := fun _ => False
abbrev GS := DEnds → Exs → DEnv → Prop
def To (K : PySem.W.Frag) (F0 H0 : Hp) (p : DEnv → Prop) (q : St → Hp → Prop) : Prop := ∀ env σ F H, p env → Grow F0 H0 F H → Slots K F H σ env → Fresh H0 σ env → q σ H
structure EndsOk (K : PySem.W.Frag) (F0 H0 : Hp) (Dd : DEnds) (Dn : Ends) : Prop where
  nx : To K F0 H0 Dd.nx Dn.nx
  rt : ∀ d v F H, Dd.rt d → Grow F0 H0 F H → Rep K F d v → Dn.rt v H
  bk : To K F0 H0 Dd.bk Dn.bk
  ct : To K F0 H0 Dd.ct Dn.ct
  rf : ∀ ds a xs F H, Dd.rf ds → Grow F0 H0 F H → F a = none → H0 a = none → H a = some (.lst xs) → Reps K F ds xs → Dn.rt (.ref a) H
  ro : ∀ s v F H, Dd.ro s → Grow F0 H0 F H → SlotOk K F H s (some v) → isOwn s = true → (∀ a, has s (some v) a → H0 a = none) → Dn.rt v H
def DTS (K : PySem.W.Frag) (E : XK) (F0 H0 : Hp) (g : GS) : TS := fun Dn σ H => ∃ F env Ex Dd, Grow F0 H0 F H ∧ Slots K F H σ env ∧ Fresh H0 σ env ∧ ExOk E Ex H0 ∧ g Dd Ex env ∧ EndsOk K F0 H0 Dd Dn
structure DSt (X : Cx) (E : XK) (st : Stmt) (g : GS) : Prop where
  h : ∀ F0 H0, Same F0 H0 → PS X st (DTS X.K E F0 H0 g)
structure DSs (X : Cx) (E : XK) (sts : List Stmt) (g : GS) : Prop where
  h : ∀ F0 H0, Same F0 H0 → PSs X sts (DTS X.K E F0 H0 g)
abbrev DSp := List D → Exs → (D → Prop) → Prop
def dSp (K : PySem.W.Frag) (n : Nat) (f : DSp) : Sp := fun vs H Q E => ∃ F ds Ex Qd, ds.length = n ∧ Same F H ∧ Reps K F ds vs ∧ ExOk E Ex H ∧ f ds Ex Qd ∧ Fin1 K F H Qd Q
def startD (N : List Str) (ds : List D) : DEnv := ds.map DS.sh ++ List.replicate (N.length - ds.length) DS.un
def retEnds (Q : D → Prop) : DEnds := { nx := fun _ => Q .non, rt := Q }
theorem start_slots {K : PySem.W.Frag} {F H : Hp} {N : List Str} {ds : List D} {vs : List V} (r : Reps K F ds vs) : Slots K F H (start N vs) (startD N ds) := by
  have hl := r.length
  have noOwn : ∀ (i : Nat) s, (startD N ds)[i]? = some s → isOwn s = false := fun i s e => by
    unfold startD at e
    rw [List.getElem?_append] at e
    split at e
    · rw [List.getElem?_map] at e
      cases q : ds[i]? with
      | none => rw [q] at e; cases e
      | some d => rw [q] at e; cases e; rfl
    · rw [List.getElem?_replicate] at e
      split at e
      · cases e; rfl
      · cases e
  refine ⟨?_, fun i s e => ?_, fun i j s t a e1 e2 o1 o2 _ _ => ?_⟩
  · unfold startD start
    simp [hl]
  · unfold startD at e
    unfold start
    rw [List.getElem?_append] at e ⊢
    rw [List.length_map] at e ⊢
    by_cases hi : i < ds.length
    · rw [if_pos (by omega), List.getElem?_map] at e
      rw [if_pos (by omega), List.getElem?_map]
      cases q : ds[i]? with
      | none => rw [q] at e; cases e
      | some d =>
        rw [q] at e
        cases e
        obtain ⟨x, hx, rx⟩ := r.get q
        rw [hx]
        exact ⟨x, rfl, rx⟩
    · rw [if_neg (by omega), List.getElem?_replicate] at e
      split at e
      · cases e; trivial
      · cases e
  · rw [noOwn i s e1] at o1
    cases o1
theorem start_fresh {H : Hp} {N : List Str} {ds : List D} {σ : St} : Fresh H σ (startD N ds) := fun i s a e o _ => by
  unfold startD at e
  rw [List.getElem?_append] at e
  split at e
  · rw [List.getElem?_map] at e
    cases q : ds[i]? with
    | none => rw [q] at e; cases e
    | some d => rw [q] at e; cases e; cases o
  · rw [List.getElem?_replicate] at e
    split at e
    · cases e; cases o
    · cases e
section
variable {P : Program} {w : World} {K : PySem.W.Frag} {mg : Str → Option Value} {base : Heap}
theorem dfn {x qual : Str} {st : Stmt} {f : Addr} {fd : FuncData} {N ps : List Str} {k : Nat} {sp : DSp} (F : Fun K x qual st f fd) (S : FnScope N ps (defScope st))
    (h : ∀ (cdv : Value) (A : Around) (outer : List Env) (s : Shared) (H : Hp) (E : XK), Body (cxOf (CXx P w) P w K mg base N qual (defScope st) f cdv A outer s H E) E → Room k (cxOf (CXx P w) P w K mg base N qual (defScope st) f cdv A outer s H E).A →
      ∃ g, DSs (cxOf (CXx P w) P w K mg base N qual (defScope st) f cdv A outer s H E) E (defBody st) g ∧ ∀ ds Ex Q, ds.length = ps.length → sp ds Ex Q → g (retEnds Q) Ex (startD N ds)) :
    FnOk P w K mg base (CXx P w) (k + 1) f fd ps (dSp K ps.length sp) := by
  refine F.okX S (fun vs H Q E hs => ?_) (fun X cdv A outer s H vs Q E hX b hr hs => ?_)
  · obtain ⟨F, ds, Ex, Qd, hl, _, r, _⟩ := hs
    rw [r.length, hl]
  · subst hX
    obtain ⟨F, ds, Ex, Qd, hl, sm, r, ex, hf, fin⟩ := hs
    obtain ⟨g, hg, q⟩ := h cdv A outer s H E b hr
    refine ⟨_, hg.h F H sm, F, startD N ds, Ex, retEnds Qd, Grow.refl sm, start_slots r, start_fresh, ex, q ds Ex Qd hl hf, ⟨fun env σ F' H' p gr _ _ => ?_, fun d v F' H' p gr rp => fin d v F' H' p gr rp, fun _ _ _ _ p => p.elim, fun _ _ _ _ p => p.elim, fun _ _ _ _ _ p => p.elim, fun _ _ _ _ p => p.elim⟩⟩
    exact fin .non .non F' H' p gr rfl
end
end L2
namespace L2
open PySem PySem.Spec PyProof.Rows
def gC (d : D) : GE := fun _ _ Q => Q d
def gVar (i : Nat) : GE := fun env _ Q => match env[i]? with
  | some (.sh d) => Q d
  | _ => False
section
variable {X : Cx} {E : XK} {pos : Pos} {a b c e : Expr} {es : List Expr}
theorem de_const {t : V} {d : D} (h : PE X e (tC t)) (r : ∀ F, Rep X.K F d t) : DE X E e (gC d) := ⟨h.weak fun σ H Q zw1 => el9 zw1 fun F env Ex Qd s _ _ g fin => fin.now s g (r F)⟩
theorem de_int {i j pos} : DE X E (.Constant (.int i) j pos) (gC (.int i)) := de_const pe_int fun _ => rfl
theorem de_bl {b j pos} : DE X E (.Constant (.bool b) j pos) (gC (.bl b)) := de_const pe_bl fun _ => rfl
theorem de_str {x j pos} : DE X E (.Constant (.str x) j pos) (gC (.str x)) := de_const pe_str fun _ => rfl
theorem dv (i : Nat) {x : Str} {pos : Pos} (hN : X.N[i]? = some x := by rfl) (hv : Vis X.env.scope x := by first | exact Or.inl rfl | exact Or.inr (Or.inl rfl) | exact Or.inr (Or.inr rfl)) (hd : (x == ("__debug__" : Str)) = false := by decide) (hcd : (x == ("__classdict__" : Str)) = false := by decide) :
    DE X E (.Name x pos) (gVar i) := ⟨by
  refine (pe_var hN hv hd hcd).weak fun σ H Q zw2 => el9 zw2 fun F env Ex Qd s sl _ g fin => ?_
  unfold gVar at g
  split at g
  · rename_i d e
    obtain ⟨v, hv, r⟩ := sl.ok i _ e
    refine ⟨v, ?_, fin.now s g r⟩
    cases q : σ[i]? with
    | none => rw [q] at hv; cases hv
    | some o => rw [q] at hv; have hv : o = some v := hv; rw [hv]
  · exact g.elim⟩
def gaNil : GA := fun _ _ Q => Q []
def gaCons (g : GE) (ga : GA) : GA := fun env Ex Q => g env Ex fun d => ga env Ex fun ds => Q (d :: ds)
theorem da_nil : DA X E [] gaNil := ⟨PA.weak pa_nil fun σ H Q zw3 => el9 zw3 fun F env Ex Qd s _ _ g fin => fin [] [] F H g (Grow.refl s) rfl⟩
theorem da_cons {g : GE} {ga : GA} (h : DE X E e g) (hr : DA X E es ga) (hs : starEach (e :: es) X.env = (false, eval e X.env) :: starEach es X.env := by rfl) : DA X E (e :: es) (gaCons g ga) := ⟨
  (pa_cons h.h hr.h hs).weak fun σ H Q zw4 => el9 zw4 fun F env Ex Qd s sl ex q fin =>
    ⟨F, env, Ex, _, s, sl, ex, q, fun d v F1 H1 q1 g1 r1 => ⟨F1, env, Ex, _, g1.sub, sl.grow g1, ex.step g1.hh, q1, fun ds vs F2 H2 q2 g2 r2 => fin _ _ F2 H2 q2 (g1.trans g2) ⟨v, vs, rfl, Rep.mono g2.ff _ r1, r2⟩⟩⟩⟩
def OpD (K : PySem.W.Frag) (r : R2) (h : D → D → (D → Prop) → Prop) : Prop := ∀ F H x y dx dy Qd Q, Same F H → Rep K F dx x → Rep K F dy y → h dx dy Qd → Fin1 K F H Qd Q → r x y H Q
def gOp (h : D → D → (D → Prop) → Prop) (ga gb : GE) : GE := fun env Ex Q => ga env Ex fun x => gb env Ex fun y => h x y Q
theorem lift2 {r : R2} {h : D → D → (D → Prop) → Prop} {ga gb : GE} (o : OpD X.K r h) : ∀ σ H Q, DTE X.K E (gOp h ga gb) σ H Q → tOp r (DTE X.K E ga) (DTE X.K E gb) σ H Q :=
  fun σ H Q zw5 => el9 zw5 fun F env Ex Qd s sl ex q fin => ⟨F, env, Ex, _, s, sl, ex, q, fun d v F1 H1 q1 g1 r1 => ⟨F1, env, Ex, _, g1.sub, sl.grow g1, ex.step g1.hh, q1,
    fun d2 v2 F2 H2 q2 g2 r2 => o F2 H2 v v2 d d2 Qd Q g2.sub (Rep.mono g2.ff _ r1) r2 q2 (fin.step (g1.trans g2))⟩⟩
theorem de_op {op : Operator} {r : R2} {h : D → D → (D → Prop) → Prop} {ga gb : GE} (ho : OpR X (binaryOp op) r) (o : OpD X.K r h) (ha : DE X E a ga) (hb : DE X E b gb) : DE X E (.BinOp a op b pos) (gOp h ga gb) := ⟨(pe_op ho ha.h hb.h).weak (lift2 o)⟩
theorem de_cmp {op : CmpOp} {r : R2} {h : D → D → (D → Prop) → Prop} {ga gb : GE} (ho : OpR X (compareOp op) r) (o : OpD X.K r h) (ha : DE X E a ga) (hb : DE X E b gb) (hm : behindInMarks op b = false := by first | exact nomark _ | rfl) : DE X E (.Compare a [op] [b] pos) (gOp h ga gb) := ⟨
  (pe_cmpR ho ha.h hb.h hm).weak (lift2 o)⟩
theorem de_ix {r : R2} {h : D → D → (D → Prop) → Prop} {ga gb : GE} (ho : IxR X r) (o : OpD X.K r h) (ha : DE X E a ga) (hb : DE X E b gb) (hs : PlainIx b := by exact fun _ _ => rfl) : DE X E (.Subscript a b pos) (gOp h ga gb) := ⟨(pe_ix ho ha.h hb.h hs).weak (lift2 o)⟩
def gTest (g : GE) : GT := fun env Ex Q => g env Ex fun d => match d with
  | .bl k => Q k
  | _ => False
theorem bl_of {K : PySem.W.Frag} {F : Hp} {d : D} {v : V} {Q : Bool → Prop} (q : (match d with | .bl k => Q k | _ => False : Prop)) (r : Rep K F d v) : ∃ k, v = .bl k ∧ Q k := by
  cases d with
  | bl k => exact ⟨k, r, q⟩
  | _ => exact q.elim
theorem dt_cmp {op : CmpOp} {r : R2} {h : D → D → (D → Prop) → Prop} {ga gb : GE} (ho : OpR X (compareOp op) r) (o : OpD X.K r h) (ha : DE X E a ga) (hb : DE X E b gb) (hm : behindInMarks op b = false := by first | exact nomark _ | rfl) : DT X E (.Compare a [op] [b] pos) (gTest (gOp h ga gb)) := ⟨
  (pt_cmpR ho ha.h hb.h hm).weak fun σ H Q zw6 => el9 zw6 fun F env Ex Qd s sl ex q fin => lift2 o σ H _ ⟨F, env, Ex, _, s, sl, ex, q, fun d v F1 H1 q1 g1 r1 => by
    obtain ⟨k, rfl, q2⟩ := bl_of q1 r1
    exact ⟨k, rfl, fin k F1 H1 q2 g1⟩⟩⟩
theorem dt_val {g : GE} (h : DE X E e g) (he : ∀ whole, isTrue e X.env whole = (do let v ← whole; standAt e.pos; holding [v] (truthy v)) := by intro _; rfl) : DT X E e (gTest g) := ⟨
  (pt_val h.h he).weak fun σ H Q zw7 => el9 zw7 fun F env Ex Qd s sl ex q fin => ⟨F, env, Ex, _, s, sl, ex, q, fun d v F1 H1 q1 g1 r1 => by
    obtain ⟨k, rfl, q2⟩ := bl_of q1 r1
    exact ⟨k, rfl, fin k F1 H1 q2 g1⟩⟩⟩
def gAnd (g u : GT) : GT := fun env Ex Q => g env Ex fun c => if c = true then u env Ex Q else Q false
def gOr (g u : GT) : GT := fun env Ex Q => g env Ex fun c => if c = true then Q true else u env Ex Q
def gNot (g : GT) : GT := fun env Ex Q => g env Ex fun c => Q (!c)
theorem dw_and1 {g : GT} (h : DT X E a g) : DW X E (.BoolOp .And [a] pos) g := ⟨pw_and1 h.h⟩
theorem dw_or1 {g : GT} (h : DT X E a g) : DW X E (.BoolOp .Or [a] pos) g := ⟨pw_or1 h.h⟩
theorem dw_and {g u : GT} (ha : DT X E a g) (hb : DW X E (.BoolOp .And (b :: es) pos) u) : DW X E (.BoolOp .And (a :: b :: es) pos) (gAnd g u) := ⟨
  (pw_and ha.h hb.h).weak fun σ H Q zw8 => el9 zw8 fun F env Ex Qd s sl ex q fin => ⟨F, env, Ex, _, s, sl, ex, q, fun c F1 H1 q1 g1 => by
    cases c with
    | true => rw [if_pos rfl] at q1 ⊢; exact ⟨F1, env, Ex, Qd, g1.sub, sl.grow g1, ex.step g1.hh, q1, fun b F2 H2 q2 g2 => fin b F2 H2 q2 (g1.trans g2)⟩
    | false => rw [if_neg Bool.false_ne_true] at q1 ⊢; exact fin false F1 H1 q1 g1⟩⟩
theorem dw_or {g u : GT} (ha : DT X E a g) (hb : DW X E (.BoolOp .Or (b :: es) pos) u) : DW X E (.BoolOp .Or (a :: b :: es) pos) (gOr g u) := ⟨
  (pw_or ha.h hb.h).weak fun σ H Q zw9 => el9 zw9 fun F env Ex Qd s sl ex q fin => ⟨F, env, Ex, _, s, sl, ex, q, fun c F1 H1 q1 g1 => by
    cases c with
    | true => rw [if_pos rfl] at q1 ⊢; exact fin true F1 H1 q1 g1
    | false => rw [if_neg Bool.false_ne_true] at q1 ⊢; exact ⟨F1, env, Ex, Qd, g1.sub, sl.grow g1, ex.step g1.hh, q1, fun b F2 H2 q2 g2 => fin b F2 H2 q2 (g1.trans g2)⟩⟩⟩
theorem DW.dt {g : GT} (h : DW X E a g) : DT X E a g := ⟨PW.pt h.h⟩
theorem dt_not {g : GT} (h : DT X E a g) : DT X E (.UnaryOp .Not a pos) (gNot g) := ⟨
  (pt_not h.h).weak fun σ H Q zw10 => el9 zw10 fun F env Ex Qd s sl ex q fin => ⟨F, env, Ex, _, s, sl, ex, q, fun c F1 H1 q1 g1 => fin _ F1 H1 q1 g1⟩⟩
def gAndV (g u : GE) : GE := fun env Ex Q => g env Ex fun d => match d with
  | .bl c => if c = true then u env Ex Q else Q (.bl false)
  | _ => False
def gNotV (g : GE) : GE := fun env Ex Q => g env Ex fun d => match d with
  | .bl c => Q (.bl (!c))
  | _ => False
theorem de_one {op} {g : GE} (h : DE X E a g) : DE X E (.BoolOp op [a] pos) g := ⟨pe_one h.h⟩
theorem de_and {g u : GE} (ha : DE X E a g) (hb : DE X E (.BoolOp .And (b :: es) pos) u) : DE X E (.BoolOp .And (a :: b :: es) pos) (gAndV g u) := ⟨
  (pe_and ha.h hb.h).weak fun σ H Q zw11 => el9 zw11 fun F env Ex Qd s sl ex q fin => ⟨F, env, Ex, _, s, sl, ex, q, fun d v F1 H1 q1 g1 r1 => by
    cases d with
    | bl c =>
      refine ⟨c, r1, ?_⟩
      cases c with
      | true => dsimp only at q1; rw [if_pos rfl] at q1 ⊢; exact ⟨F1, env, Ex, Qd, g1.sub, sl.grow g1, ex.step g1.hh, q1, fin.step g1⟩
      | false => dsimp only at q1; rw [if_neg Bool.false_ne_true] at q1 ⊢; exact fin _ _ F1 H1 q1 g1 rfl
    | _ => exact (show False from q1).elim⟩⟩
theorem de_not {g : GE} (ha : DE X E a g) : DE X E (.UnaryOp .Not a pos) (gNotV g) := ⟨
  (pe_not ha.h).weak fun σ H Q zw12 => el9 zw12 fun F env Ex Qd s sl ex q fin => ⟨F, env, Ex, _, s, sl, ex, q, fun d v F1 H1 q1 g1 r1 => by
    cases d with
    | bl c => exact ⟨c, r1, fin _ _ F1 H1 q1 g1 rfl⟩
    | _ => exact (show False from q1).elim⟩⟩
def gChain (h h' : D → D → (D → Prop) → Prop) (ga gb gc : GE) : GE := fun env Ex Q => ga env Ex fun x => gb env Ex fun y => h x y fun z => match z with
  | .bl k => if k = true then gc env Ex fun w => h' y w Q else Q (.bl false)
  | _ => False
def hNeg (d : D) (Q : D → Prop) : Prop := match d with
  | .int i => Q (.int (-i))
  | _ => False
def gUn (h : D → (D → Prop) → Prop) (g : GE) : GE := fun env Ex Q => g env Ex fun d => h d Q
theorem de_neg {g : GE} (ha : DE X E a g) : DE X E (.UnaryOp .USub a pos) (gUn hNeg g) := ⟨
  (pe_un un_neg ha.h).weak fun σ H Q zw13 => el9 zw13 fun F env Ex Qd s sl ex q fin => ⟨F, env, Ex, _, s, sl, ex, q, fun d v F1 H1 q1 g1 r1 => by
    cases d with
    | int i => exact ⟨i, r1, fin _ _ F1 H1 q1 g1 rfl⟩
    | _ => exact (show False from q1).elim⟩⟩
def gTupD (ga : GA) : GE := fun env Ex Q => ga env Ex fun ds => ds.length ≤ sizeLine ∧ Q (.tup ds)
def gLst (ga : GA) : GA := fun env Ex Q => ga env Ex fun ds => ds.length ≤ sizeLine ∧ Q ds
theorem de_tup {x1} {ga : GA} (h : DA X E es ga) : DE X E (.Tuple es x1 pos) (gTupD ga) := ⟨
  (pe_tup h.h).weak fun σ H Q zw14 => el9 zw14 fun F env Ex Qd s sl ex q fin => ⟨F, env, Ex, _, s, sl, ex, q, fun ds vs F1 H1 q1 g1 r1 => ⟨by rw [r1.length]; exact q1.1, fun p hp =>
    fin _ _ (upd F1 p (.tup vs)) _ q1.2 (g1.trans (Grow.lay g1.sub hp)) ⟨p, vs, rfl, upd_same, Reps.mono (Grow.lay (o := .tup vs) g1.sub hp).ff _ r1⟩⟩⟩⟩
theorem df_lst {ga : GA} (h : DA X E es ga) : DF X E (.List es pos) (gLst ga) := ⟨
  (pe_lst h.h).weak fun σ H Q zw15 => el9 zw15 fun F env Ex Qd s sl ex q fin => ⟨F, env, Ex, _, s, sl, ex, q, fun ds vs F1 H1 q1 g1 r1 => ⟨by rw [r1.length]; exact q1.1, fun p hp =>
    fin ds p vs F1 _ q1.2 (g1.trans (Grow.keep g1.sub hp)) (g1.sub.free hp) (g1.hh.free hp) upd_same r1⟩⟩⟩
def gFr (g : GA) : GE := fun env Ex Q => g env Ex fun ds => Q (.lst ds)
theorem DF.de {g : GA} (h : DF X E e g) : DE X E e (gFr g) := ⟨PE.weak h.h fun σ H Q zw16 => el9 zw16 fun F env Ex Qd s sl ex q fin => ⟨F, env, Ex, _, s, sl, ex, q, fun ds a xs F1 H1 q1 g1 f1 n1 l1 r1 => by
  have ff : Same F1 (upd F1 a (.lst xs)) := fun b u e => by rw [upd_ne (ne_of_none e f1)]; exact e
  have gr : Grow F H (upd F1 a (.lst xs)) H1 := by
    refine ⟨g1.hh, g1.ff.trans ff, fun b u e => ?_, fun b e n => ?_⟩
    · by_cases hb : b = a
      · subst hb; rw [upd_same] at e; rw [l1, ← e]
      · rw [upd_ne hb] at e; exact g1.sub _ _ e
    · by_cases hb : b = a
      · subst hb; exact .inl n1
      · rw [upd_ne hb] at n; exact g1.new b e n
  exact fin _ _ _ H1 q1 gr ⟨a, xs, rfl, upd_same, Reps.mono ff _ r1⟩⟩⟩
end
end L2
namespace L2
open PySem PySem.Spec PyProof.Rows
def hII (f : Int → Int → D) (a b : D) (Q : D → Prop) : Prop := match a, b with
  | .int i, .int j => Q (f i j)
  | _, _ => False
def hIIc (C : Int → Int → Prop) (f : Int → Int → D) (a b : D) (Q : D → Prop) : Prop := match a, b with
  | .int i, .int j => C i j ∧ Q (f i j)
  | _, _ => False
theorem hII_of {f : Int → Int → D} {a b : D} {Q : D → Prop} (h : hII f a b Q) : ∃ i j, a = .int i ∧ b = .int j ∧ Q (f i j) := by
  unfold hII at h
  split at h
  · exact ⟨_, _, rfl, rfl, h⟩
  · exact h.elim
theorem hIIc_of {C : Int → Int → Prop} {f : Int → Int → D} {a b : D} {Q : D → Prop} (h : hIIc C f a b Q) : ∃ i j, a = .int i ∧ b = .int j ∧ C i j ∧ Q (f i j) := by
  unfold hIIc at h
  split at h
  · exact ⟨_, _, rfl, rfl, h.1, h.2⟩
  · exact h.elim
theorem od_ii {K : PySem.W.Frag} {g : Int → Int → V} {f : Int → Int → D} (r : ∀ F i j, Rep K F (f i j) (g i j)) : OpD K (rI0 g) (hII f) := fun F H x y dx dy Qd Q s rx ry h fin => by
  obtain ⟨i, j, rfl, rfl, q⟩ := hII_of h
  exact ⟨i, j, rx, ry, fin.now s q (r F i j)⟩
theorem od_iic {K : PySem.W.Frag} {C : Int → Int → Prop} {g : Int → Int → V} {f : Int → Int → D} (r : ∀ F i j, Rep K F (f i j) (g i j)) : OpD K (rI C g) (hIIc C f) := fun F H x y dx dy Qd Q s rx ry h fin => by
  obtain ⟨i, j, rfl, rfl, c, q⟩ := hIIc_of h
  exact ⟨i, j, rx, ry, c, fin.now s q (r F i j)⟩
section
variable {K : PySem.W.Frag} {X : Cx} {E : XK} {pos p : Pos} {a b c e : Expr} {es : List Expr} {ga gb gc g : GE}
abbrev hAdd := hII fun i j => .int (i + j)
abbrev hSub := hII fun i j => .int (i - j)
abbrev hMul := hIIc CMul fun i j => .int (i * j)
abbrev hMod := hIIc (fun _ j => 0 < j) fun i j => .int (i % j)
abbrev hLt := hII fun i j => .bl (decide (i < j))
abbrev hLe := hII fun i j => .bl (decide (i ≤ j))
abbrev hGt := hII fun i j => .bl (decide (j < i))
theorem de_add (ha : DE X E a ga) (hb : DE X E b gb) : DE X E (.BinOp a .Add b pos) (gOp hAdd ga gb) := de_op op_add (od_ii fun _ _ _ => rfl) ha hb
theorem de_sub (ha : DE X E a ga) (hb : DE X E b gb) : DE X E (.BinOp a .Sub b pos) (gOp hSub ga gb) := de_op op_sub (od_ii fun _ _ _ => rfl) ha hb
theorem de_mul (ha : DE X E a ga) (hb : DE X E b gb) : DE X E (.BinOp a .Mult b pos) (gOp hMul ga gb) := de_op op_mul (od_iic fun _ _ _ => rfl) ha hb
theorem de_mod (ha : DE X E a ga) (hb : DE X E b gb) : DE X E (.BinOp a .Mod b pos) (gOp hMod ga gb) := de_op op_mod (od_iic fun _ _ _ => rfl) ha hb
theorem dt_lt (ha : DE X E a ga) (hb : DE X E b gb) : DT X E (.Compare a [.Lt] [b] pos) (gTest (gOp hLt ga gb)) := dt_cmp op_lt (od_ii fun _ _ _ => rfl) ha hb (nomark _)
theorem dt_gt (ha : DE X E a ga) (hb : DE X E b gb) : DT X E (.Compare a [.Gt] [b] pos) (gTest (gOp hGt ga gb)) := dt_cmp op_gt (od_ii fun _ _ _ => rfl) ha hb (nomark _)
mutual
def eqD : D → D → Bool
  | .lst as, d => match d with
    | .lst bs => eqDs as bs
    | _ => false
  | .tup as, d => match d with
    | .tup bs => eqDs as bs
    | _ => false
  | .non, d => match d with
    | .non => true
    | _ => false
  | .bl a, d => match d with
    | .bl b => a == b
    | .int b => (if a then 1 else 0) == b
    | _ => false
  | .int a, d => match d with
    | .bl b => a == (if b then 1 else 0)
    | .int b => a == b
    | _ => false
  | .str a, d => match d with
    | .str b => a == b
    | _ => false
  | _, _ => false
def eqDs : List D → List D → Bool
  | [], bs => match bs with
    | [] => true
    | _ => false
  | a :: as, bs => match bs with
    | [] => false
    | b :: bs => eqD a b && eqDs as bs
end
mutual
def okD : D → Bool
  | .lst as => okDs as
  | .tup as => okDs as
  | .scr _ => false
  | .kt _ => false
  | .dtt _ _ => false
  | _ => true
def okDs : List D → Bool
  | [] => true
  | a :: as => okD a && okDs as
end
mutual
def hiD : D → Nat
  | .lst as => hiDs as + 1
  | .tup as => hiDs as + 1
  | _ => 0
def hiDs : List D → Nat
  | [] => 0
  | a :: as => max (hiD a) (hiDs as)
end
theorem eqDs_all : ∀ (as bs : List D), eqDs as bs = (as.length == bs.length && (List.range as.length).all fun j => eqD (as.getD j .non) (bs.getD j .non))
  | [], [] => rfl
  | [], _ :: _ => rfl
  | _ :: _, [] => rfl
  | a :: as, b :: bs => by
    rw [show eqDs (a :: as) (b :: bs) = (eqD a b && eqDs as bs) from rfl, eqDs_all as bs, List.length_cons, List.length_cons, List.range_succ_eq_map, List.all_cons, List.all_map, Bool.eq_iff_iff]
    simp only [Bool.and_eq_true, beq_iff_eq, Nat.add_right_cancel_iff, List.all_eq_true, Function.comp]
    constructor
    · rintro ⟨h1, h2, h3⟩
      exact ⟨h2, h1, h3⟩
    · rintro ⟨h2, h1, h3⟩
      exact ⟨h1, h2, h3⟩
theorem okDs_get : ∀ {as : List D} {j : Nat} {d : D}, okDs as = true → as[j]? = some d → okD d = true
  | [], j, d, _, e => by simp at e
  | a :: as, 0, d, h, e => by
    cases Option.some.inj e
    rw [show okDs (a :: as) = (okD a && okDs as) from rfl, Bool.and_eq_true] at h
    exact h.1
  | a :: as, j + 1, d, h, e => by
    rw [show okDs (a :: as) = (okD a && okDs as) from rfl, Bool.and_eq_true] at h
    exact okDs_get h.2 e
theorem hiDs_get : ∀ {as : List D} {j : Nat} {d : D}, as[j]? = some d → hiD d ≤ hiDs as
  | [], j, d, e => by simp at e
  | a :: as, 0, d, e => by
    cases Option.some.inj e
    exact Nat.le_max_left _ _
  | a :: as, j + 1, d, e => Nat.le_trans (hiDs_get (as := as) (j := j) e) (Nat.le_max_right _ _)
mutual
theorem eqD_refl : ∀ (d : D), okD d = true → eqD d d = true
  | .non, _ => rfl
  | .bl b, _ => by cases b <;> rfl
  | .int i, _ => by show (i == i) = true; simp
  | .str x, _ => by show (x == x) = true; simp
  | .lst as, h => eqDs_refl as h
  | .tup as, h => eqDs_refl as h
theorem eqDs_refl : ∀ (as : List D), okDs as = true → eqDs as as = true
  | [], _ => rfl
  | a :: as, h => by
    rw [show okDs (a :: as) = (okD a && okDs as) from rfl, Bool.and_eq_true] at h
    show (eqD a a && eqDs as as) = true
    rw [eqD_refl a h.1, eqDs_refl as h.2]
    rfl
end
mutual
theorem Rep.inj {F : Hp} : ∀ (d d' : D) {v : V}, okD d = true → okD d' = true → Rep K F d v → Rep K F d' v → d = d'
  | .non, d', v, _, o, h, h' => by
    cases (show v = .non from h)
    cases d' <;> first | rfl | (cases h' ; done) | (obtain ⟨_, _, e, _⟩ := h'; cases e) | cases o
  | .bl b, d', v, _, o, h, h' => by
    cases (show v = .bl b from h)
    cases d' <;> first | (cases h'; rfl) | (cases h' ; done) | (obtain ⟨_, _, e, _⟩ := h'; cases e) | cases o
  | .int i, d', v, _, o, h, h' => by
    cases (show v = .int i from h)
    cases d' <;> first | (cases h'; rfl) | (cases h' ; done) | (obtain ⟨_, _, e, _⟩ := h'; cases e) | cases o
  | .str x, d', v, _, o, h, h' => by
    cases (show v = .str x from h)
    cases d' <;> first | (cases h'; rfl) | (cases h' ; done) | (obtain ⟨_, _, e, _⟩ := h'; cases e) | cases o
  | .lst ds, d', v, k, o, ⟨a, xs, e, hF, r⟩, h' => by
    subst e
    cases d' with
    | lst es =>
      obtain ⟨a', xs', e', hF', r'⟩ := h'
      cases e'
      rw [hF] at hF'
      cases hF'
      rw [Reps.inj ds es k o r r']
    | tup es =>
      obtain ⟨a', xs', e', hF', r'⟩ := h'
      cases e'
      rw [hF] at hF'
      cases hF'
    | _ => first | exact absurd (show false = true from o) Bool.false_ne_true | (cases h'; done)
  | .tup ds, d', v, k, o, ⟨a, xs, e, hF, r⟩, h' => by
    subst e
    cases d' with
    | tup es =>
      obtain ⟨a', xs', e', hF', r'⟩ := h'
      cases e'
      rw [hF] at hF'
      cases hF'
      rw [Reps.inj ds es k o r r']
    | lst es =>
      obtain ⟨a', xs', e', hF', r'⟩ := h'
      cases e'
      rw [hF] at hF'
      cases hF'
    | _ => first | exact absurd (show false = true from o) Bool.false_ne_true | (cases h'; done)
theorem Reps.inj {F : Hp} : ∀ (ds es : List D) {xs : List V}, okDs ds = true → okDs es = true → Reps K F ds xs → Reps K F es xs → ds = es
  | [], es, xs, _, _, h, h' => by
    rw [show xs = [] from h] at h'
    cases es with
    | nil => rfl
    | cons e es => obtain ⟨_, _, z, _⟩ := h'; cases z
  | d :: ds, es, xs, k, o, ⟨x, r, e, h1, h2⟩, h' => by
    subst e
    rw [show okDs (d :: ds) = (okD d && okDs ds) from rfl, Bool.and_eq_true] at k
    cases es with
    | nil => cases h'
    | cons e es =>
      obtain ⟨y, r', z, h3, h4⟩ := h'
      cases z
      rw [show okDs (e :: es) = (okD e && okDs es) from rfl, Bool.and_eq_true] at o
      rw [Rep.inj d e k.1 o.1 h1 h3, Reps.inj ds es k.2 o.2 h2 h4]
end
end
end L2
namespace L2
open PySem PySem.Spec PyProof.Rows
mutual
def cmpD : D → D → Bool
  | .lst as, d => match d with
    | .lst bs => as.length != bs.length || cmpDs as bs
    | _ => false
  | .tup as, d => match d with
    | .tup bs => cmpDs as bs
    | _ => false
  | .scr _, _ => false
  | .kt _, _ => false
  | .dtt _ _, _ => false
  | _, d => match d with
    | .lst _ => false
    | .tup _ => false
    | .scr _ => false
    | .kt _ => false
    | .dtt _ _ => false
    | _ => true
def cmpDs : List D → List D → Bool
  | [], _ => true
  | a :: as, bs => match bs with
    | [] => true
    | b :: bs => cmpD a b && cmpDs as bs
end
theorem cmpDs_get : ∀ {as bs : List D} {j : Nat} {a b : D}, cmpDs as bs = true → as[j]? = some a → bs[j]? = some b → cmpD a b = true
  | [], _, j, a, b, _, e, _ => by simp at e
  | _ :: _, [], j, a, b, _, _, e => by simp at e
  | x :: as, y :: bs, 0, a, b, h, e1, e2 => by
    cases Option.some.inj e1
    cases Option.some.inj e2
    rw [show cmpDs (x :: as) (y :: bs) = (cmpD x y && cmpDs as bs) from rfl, Bool.and_eq_true] at h
    exact h.1
  | x :: as, y :: bs, j + 1, a, b, h, e1, e2 => by
    rw [show cmpDs (x :: as) (y :: bs) = (cmpD x y && cmpDs as bs) from rfl, Bool.and_eq_true] at h
    exact cmpDs_get h.2 e1 e2
def flatD : D → Bool
  | .lst _ => false
  | .tup _ => false
  | .scr _ => false
  | .kt _ => false
  | .dtt _ _ => false
  | _ => true
theorem flat_eq {K : PySem.W.Frag} {F : Hp} {d d' : D} {x y : V} (f : flatD d = true) (f' : flatD d' = true) (r : Rep K F d x) (r' : Rep K F d' y) : flatV x = true ∧ flatV y = true ∧ eqV x y = eqD d d' := by
  cases d <;> first | exact absurd (show false = true from f) Bool.false_ne_true | (cases (show x = _ from r); cases d' <;> first | exact absurd (show false = true from f') Bool.false_ne_true | (cases (show y = _ from r'); exact ⟨rfl, rfl, rfl⟩))
theorem all_min (as bs : List D) : eqDs as bs = ((List.range (min as.length bs.length)).all (fun j => eqD (as.getD j .non) (bs.getD j .non)) && as.length == bs.length) := by
  rw [eqDs_all, Bool.and_comm, Bool.eq_iff_iff]
  simp only [Bool.and_eq_true, beq_iff_eq]
  constructor
  · rintro ⟨h1, h2⟩
    rw [← h2, Nat.min_self]
    exact ⟨h1, rfl⟩
  · rintro ⟨h1, h2⟩
    rw [← h2, Nat.min_self] at h1
    exact ⟨h1, h2⟩
section
variable {X : Cx} {F H : Hp}
theorem getD_some {as : List D} {j : Nat} {d : D} (h : as[j]? = some d) : as.getD j .non = d := by
  rw [List.getD_eq_getElem?_getD, h]
  rfl
theorem eqV_D (sm : Same F H) : ∀ (n : Nat) (A : Around) (d d' : D) (x y : V), hiD d ≤ n → A.units + n < cLine → okD d = true → okD d' = true → cmpD d d' = true → Rep X.K F d x → Rep X.K F d' y → EqV X A H x y (eqD d d')
  | n, A, .lst as, d', x, y, hn, hu, o, o', c, r, r' => by
    cases d' with
    | lst bs =>
      obtain ⟨a, xs, rfl, hF, rs⟩ := r
      obtain ⟨b, ys, rfl, hF', rs'⟩ := r'
      have l1 := rs.length
      have l2 := rs'.length
      have hn' : hiDs as + 1 ≤ n := hn
      have e := EqV.lst (X := X) (A := A) (H := H) (a := a) (b := b) (xs := xs) (ys := ys) (e := fun j => eqD (as.getD j .non) (bs.getD j .non)) (by omega) (SqL.of (sm _ _ hF)) (SqL.of (sm _ _ hF')) (fun hl j u v hu1 hv1 => ?_) (fun ab => ?_)
      · rw [show eqD (.lst as) (.lst bs) = eqDs as bs from rfl, eqDs_all, ← l1, ← l2]
        exact e
      · obtain ⟨du, e1, ru⟩ := rs.get' hu1
        obtain ⟨dv, e2, rv⟩ := rs'.get' hv1
        rw [getD_some e1, getD_some e2]
        have c' : (as.length != bs.length || cmpDs as bs) = true := c
        rw [show (as.length != bs.length) = false by simp; omega, Bool.false_or] at c'
        have hd := hiDs_get e1
        exact eqV_D sm (n - 1) A.in1 du dv u v (by omega) (by show _ + 1 + _ < _; omega) (okDs_get o e1) (okDs_get o' e2) (cmpDs_get c' e1 e2) ru rv
      · subst ab
        rw [hF] at hF'
        cases hF'
        have z := Reps.inj as bs o o' rs rs'
        subst z
        have w := eqDs_refl as o
        rw [eqDs_all, ← l1] at w
        exact w
    | _ => cases c
  | n, A, .tup as, d', x, y, hn, hu, o, o', c, r, r' => by
    cases d' with
    | tup bs =>
      obtain ⟨a, xs, rfl, hF, rs⟩ := r
      obtain ⟨b, ys, rfl, hF', rs'⟩ := r'
      have l1 := rs.length
      have l2 := rs'.length
      have hn' : hiDs as + 1 ≤ n := hn
      have e := EqV.tup (X := X) (A := A) (H := H) (a := a) (b := b) (xs := xs) (ys := ys) (e := fun j => eqD (as.getD j .non) (bs.getD j .non)) (by omega) (SqT.of (sm _ _ hF)) (SqT.of (sm _ _ hF')) (fun j u v hu1 hv1 => ?_) (fun ab => ?_)
      · rw [show eqD (.tup as) (.tup bs) = eqDs as bs from rfl, all_min, ← l1, ← l2]
        exact e
      · obtain ⟨du, e1, ru⟩ := rs.get' hu1
        obtain ⟨dv, e2, rv⟩ := rs'.get' hv1
        rw [getD_some e1, getD_some e2]
        have hd := hiDs_get e1
        exact eqV_D sm (n - 1) A.in1 du dv u v (by omega) (by show _ + 1 + _ < _; omega) (okDs_get o e1) (okDs_get o' e2) (cmpDs_get c e1 e2) ru rv
      · subst ab
        rw [hF] at hF'
        cases hF'
        have z := Reps.inj as bs o o' rs rs'
        subst z
        have w := eqDs_refl as o
        rw [all_min, ← l1] at w
        exact w
    | _ => cases c
  | n, A, .non, d', x, y, hn, hu, o, o', c, r, r' => by
    obtain ⟨f1, f2, e⟩ := flat_eq (d := .non) (d' := d') rfl (by cases d' <;> first | rfl | cases c) r r'
    rw [← e]
    exact EqV.flat f1 f2
  | n, A, .bl k, d', x, y, hn, hu, o, o', c, r, r' => by
    obtain ⟨f1, f2, e⟩ := flat_eq (d := .bl k) (d' := d') rfl (by cases d' <;> first | rfl | cases c) r r'
    rw [← e]
    exact EqV.flat f1 f2
  | n, A, .int k, d', x, y, hn, hu, o, o', c, r, r' => by
    obtain ⟨f1, f2, e⟩ := flat_eq (d := .int k) (d' := d') rfl (by cases d' <;> first | rfl | cases c) r r'
    rw [← e]
    exact EqV.flat f1 f2
  | n, A, .str k, d', x, y, hn, hu, o, o', c, r, r' => by
    obtain ⟨f1, f2, e⟩ := flat_eq (d := .str k) (d' := d') rfl (by cases d' <;> first | rfl | cases c) r r'
    rw [← e]
    exact EqV.flat f1 f2
  termination_by n => n
  decreasing_by all_goals simp_wf; omega
def rEqD (K : PySem.W.Frag) (neg : Bool) : R2 := fun x y H Q => ∃ F as bs, ∃ t : Bool, Same F H ∧ okDs as = true ∧ okDs bs = true ∧ hiDs as ≤ 40 ∧
  (if t then cmpD (.tup as) (.tup bs) = true ∧ Rep K F (.tup as) x ∧ Rep K F (.tup bs) y else cmpD (.lst as) (.lst bs) = true ∧ Rep K F (.lst as) x ∧ Rep K F (.lst bs) y) ∧ Q (.bl (if neg then !eqDs as bs else eqDs as bs)) H
theorem op_eqD (hu : X.A.units + 64 < cLine) : OpR X (compareOp .Eq) (rEqD X.K false) := by
  intro pins s σ H x y v u Q I rx ry h
  obtain ⟨F, as, bs, t, sm, o1, o2, hi, h, q⟩ := h
  cases t with
  | true =>
    rw [if_pos rfl] at h
    obtain ⟨c, ⟨a, xs, rfl, hF, rs⟩, ⟨b, ys, rfl, hF', rs'⟩⟩ := h
    cases rx
    cases ry
    have l1 := rs.length
    have l2 := rs'.length
    obtain ⟨its, r1, p1, _⟩ := I.tuple (SqT.of (sm _ _ hF))
    obtain ⟨its2, r2, p2, _⟩ := I.tuple (SqT.of (sm _ _ hF'))
    have z := SeqAt.RcAt.tuples (A := X.A) (e := fun j => eqD (as.getD j .non) (bs.getD j .non)) p1 p2 (by omega) fun j h1 h2 => by
      have m1 : j < its.length := by simpa using h1
      have m2 : j < its2.length := by simpa using h2
      obtain ⟨x, hx, rx⟩ := r1.getE m1
      obtain ⟨y, hy, ry⟩ := r2.getE m2
      rw [show its.toArray[j] = its[j] by simp, show its2.toArray[j] = its2[j] by simp]
      obtain ⟨du, e1, ru⟩ := rs.get' hx
      obtain ⟨dv, e2, rv⟩ := rs'.get' hy
      rw [getD_some e1, getD_some e2]
      exact eqV_D sm 40 X.A.in1 du dv x y (Nat.le_trans (hiDs_get e1) hi) (by show _ + 1 + _ < _; omega) (okDs_get o1 e1) (okDs_get o2 e2) (cmpDs_get c e1 e2) ru rv pins σ s _ _ I rx ry
    rw [List.size_toArray, List.size_toArray, ← r1.length, ← r2.length, l1, l2, ← all_min] at z
    exact z X.prog X.w X.xe _ ⟨.bl _, H, I, rfl, q⟩
  | false =>
    rw [if_neg Bool.false_ne_true] at h
    obtain ⟨c, ⟨a, xs, rfl, hF, rs⟩, ⟨b, ys, rfl, hF', rs'⟩⟩ := h
    cases rx
    cases ry
    have l1 := rs.length
    have l2 := rs'.length
    have z := RcV.lst (A := X.A) (e := fun j => eqD (as.getD j .non) (bs.getD j .non)) I (by omega) (SqL.of (sm _ _ hF)) (SqL.of (sm _ _ hF')) fun hl j x y hx hy => by
      obtain ⟨du, e1, ru⟩ := rs.get' hx
      obtain ⟨dv, e2, rv⟩ := rs'.get' hy
      rw [getD_some e1, getD_some e2]
      have c' : (as.length != bs.length || cmpDs as bs) = true := c
      rw [show (as.length != bs.length) = false by simp; omega, Bool.false_or] at c'
      exact eqV_D sm 40 X.A.in1 du dv x y (Nat.le_trans (hiDs_get e1) hi) (by show _ + 1 + _ < _; omega) (okDs_get o1 e1) (okDs_get o2 e2) (cmpDs_get c' e1 e2) ru rv
    rw [l1, l2, ← eqDs_all] at z
    exact z X.prog X.w X.xe _ ⟨.bl _, H, I, rfl, q⟩
theorem op_neD (hu : X.A.units + 64 < cLine) : OpR X (compareOp .NotEq) (rEqD X.K true) := by
  intro pins s σ H x y v u Q I rx ry h
  obtain ⟨F, as, bs, t, sm, o1, o2, hi, h, q⟩ := h
  cases t with
  | true =>
    rw [if_pos rfl] at h
    obtain ⟨c, ⟨a, xs, rfl, hF, rs⟩, ⟨b, ys, rfl, hF', rs'⟩⟩ := h
    cases rx
    cases ry
    have l1 := rs.length
    have l2 := rs'.length
    obtain ⟨its, r1, p1, _⟩ := I.tuple (SqT.of (sm _ _ hF))
    obtain ⟨its2, r2, p2, _⟩ := I.tuple (SqT.of (sm _ _ hF'))
    have z := SeqAt.RcNeAt.tuples (A := X.A) (e := fun j => eqD (as.getD j .non) (bs.getD j .non)) p1 p2 (by omega) fun j h1 h2 => by
      have m1 : j < its.length := by simpa using h1
      have m2 : j < its2.length := by simpa using h2
      obtain ⟨x, hx, rx⟩ := r1.getE m1
      obtain ⟨y, hy, ry⟩ := r2.getE m2
      rw [show its.toArray[j] = its[j] by simp, show its2.toArray[j] = its2[j] by simp]
      obtain ⟨du, e1, ru⟩ := rs.get' hx
      obtain ⟨dv, e2, rv⟩ := rs'.get' hy
      rw [getD_some e1, getD_some e2]
      exact eqV_D sm 40 X.A.in1 du dv x y (Nat.le_trans (hiDs_get e1) hi) (by show _ + 1 + _ < _; omega) (okDs_get o1 e1) (okDs_get o2 e2) (cmpDs_get c e1 e2) ru rv pins σ s _ _ I rx ry
    rw [List.size_toArray, List.size_toArray, ← r1.length, ← r2.length, l1, l2, ← all_min] at z
    exact z X.prog X.w X.xe _ ⟨.bl _, H, I, rfl, q⟩
  | false =>
    rw [if_neg Bool.false_ne_true] at h
    obtain ⟨c, ⟨a, xs, rfl, hF, rs⟩, ⟨b, ys, rfl, hF', rs'⟩⟩ := h
    cases rx
    cases ry
    have l1 := rs.length
    have l2 := rs'.length
    obtain ⟨its, r1, p1, _⟩ := I.list (SqL.of (sm _ _ hF))
    obtain ⟨its2, r2, p2, _⟩ := I.list (SqL.of (sm _ _ hF'))
    have m1 := r1.length
    have m2 := r2.length
    by_cases hl : xs.length = ys.length
    · have z := SeqAt.RcNeAt.lists (A := X.A) (e := fun j => eqD (as.getD j .non) (bs.getD j .non)) p1.isList p2.isList (by rw [List.size_toArray, List.size_toArray]; omega) (by omega) fun j h1 h2 => by
        have m1 : j < its.length := by simpa using h1
        have m2 : j < its2.length := by simpa using h2
        obtain ⟨x, hx, rx⟩ := r1.getE m1
        obtain ⟨y, hy, ry⟩ := r2.getE m2
        rw [show its.toArray[j] = its[j] by simp, show its2.toArray[j] = its2[j] by simp]
        obtain ⟨du, e1, ru⟩ := rs.get' hx
        obtain ⟨dv, e2, rv⟩ := rs'.get' hy
        rw [getD_some e1, getD_some e2]
        have c' : (as.length != bs.length || cmpDs as bs) = true := c
        rw [show (as.length != bs.length) = false by simp; omega, Bool.false_or] at c'
        exact eqV_D sm 40 X.A.in1 du dv x y (Nat.le_trans (hiDs_get e1) hi) (by show _ + 1 + _ < _; omega) (okDs_get o1 e1) (okDs_get o2 e2) (cmpDs_get c' e1 e2) ru rv pins σ s _ _ I rx ry
      have e : ((List.range its.toArray.size).all fun j => eqD (as.getD j .non) (bs.getD j .non)) = eqDs as bs := by
        rw [eqDs_all, List.size_toArray, ← m1, l1, show (as.length == bs.length) = true by simp; omega, Bool.true_and]
      rw [e] at z
      exact z X.prog X.w X.xe _ ⟨.bl _, H, I, rfl, q⟩
    · have e : eqDs as bs = false := by
        rw [eqDs_all, show (as.length == bs.length) = false by simp; omega, Bool.false_and]
      have z := SeqAt.RcNeAt.lists_lengths (A := X.A) p1.isList p2.isList (by rw [List.size_toArray, List.size_toArray, ← m1, ← m2]; simp [hl]) (by omega)
      refine z X.prog X.w X.xe _ ⟨.bl true, H, I, rfl, ?_⟩
      rw [e] at q
      exact q
def hEq (neg : Bool) (a b : D) (Q : D → Prop) : Prop := match a, b with
  | .int i, .int j => Q (.bl (if neg then !decide (i = j) else decide (i = j)))
  | .bl i, .bl j => Q (.bl (if neg then !decide (i = j) else decide (i = j)))
  | .str i, .str j => Q (.bl (if neg then !decide (i = j) else decide (i = j)))
  | .lst as, .lst bs => okDs as = true ∧ okDs bs = true ∧ hiDs as ≤ 40 ∧ cmpD (.lst as) (.lst bs) = true ∧ Q (.bl (if neg then !eqDs as bs else eqDs as bs))
  | .tup as, .tup bs => okDs as = true ∧ okDs bs = true ∧ hiDs as ≤ 40 ∧ cmpD (.tup as) (.tup bs) = true ∧ Q (.bl (if neg then !eqDs as bs else eqDs as bs))
  | _, _ => False
theorem dec_i {i j : Int} : decide (V.int i = V.int j) = decide (i = j) := by
  rw [Bool.eq_iff_iff, decide_eq_true_iff, decide_eq_true_iff]; exact ⟨fun h => V.int.inj h, fun h => by rw [h]⟩
theorem dec_b {i j : Bool} : decide (V.bl i = V.bl j) = decide (i = j) := by
  rw [Bool.eq_iff_iff, decide_eq_true_iff, decide_eq_true_iff]; exact ⟨fun h => V.bl.inj h, fun h => by rw [h]⟩
theorem dec_s {i j : Str} : decide (V.str i = V.str j) = decide (i = j) := by
  rw [Bool.eq_iff_iff, decide_eq_true_iff, decide_eq_true_iff]; exact ⟨fun h => V.str.inj h, fun h => by rw [h]⟩
theorem od_eq {K : PySem.W.Frag} : OpD K (fun x y H Q => rEq x y H Q ∨ rEqD K false x y H Q) (hEq false) := fun F H x y dx dy Qd Q s rx ry h fin => by
  unfold hEq at h
  split at h
  · cases (show x = _ from rx); cases (show y = _ from ry)
    exact .inl ⟨rfl, by rw [dec_i]; exact fin.now s h rfl⟩
  · cases (show x = _ from rx); cases (show y = _ from ry)
    exact .inl ⟨rfl, by rw [dec_b]; exact fin.now s h rfl⟩
  · cases (show x = _ from rx); cases (show y = _ from ry)
    exact .inl ⟨rfl, by rw [dec_s]; exact fin.now s h rfl⟩
  · obtain ⟨o1, o2, hi, c, q⟩ := h
    exact .inr ⟨F, _, _, false, s, o1, o2, hi, by rw [if_neg Bool.false_ne_true]; exact ⟨c, rx, ry⟩, fin.now s q rfl⟩
  · obtain ⟨o1, o2, hi, c, q⟩ := h
    exact .inr ⟨F, _, _, true, s, o1, o2, hi, by rw [if_pos rfl]; exact ⟨c, rx, ry⟩, fin.now s q rfl⟩
  · exact h.elim
theorem od_ne {K : PySem.W.Frag} : OpD K (fun x y H Q => rNe x y H Q ∨ rEqD K true x y H Q) (hEq true) := fun F H x y dx dy Qd Q s rx ry h fin => by
  unfold hEq at h
  split at h
  · cases (show x = _ from rx); cases (show y = _ from ry)
    exact .inl ⟨rfl, by rw [dec_i]; exact fin.now s h rfl⟩
  · cases (show x = _ from rx); cases (show y = _ from ry)
    exact .inl ⟨rfl, by rw [dec_b]; exact fin.now s h rfl⟩
  · cases (show x = _ from rx); cases (show y = _ from ry)
    exact .inl ⟨rfl, by rw [dec_s]; exact fin.now s h rfl⟩
  · obtain ⟨o1, o2, hi, c, q⟩ := h
    exact .inr ⟨F, _, _, false, s, o1, o2, hi, by rw [if_neg Bool.false_ne_true]; exact ⟨c, rx, ry⟩, fin.now s q rfl⟩
  · obtain ⟨o1, o2, hi, c, q⟩ := h
    exact .inr ⟨F, _, _, true, s, o1, o2, hi, by rw [if_pos rfl]; exact ⟨c, rx, ry⟩, fin.now s q rfl⟩
  · exact h.elim
variable {E : XK} {pos p : Pos} {a b c e : Expr} {es : List Expr} {ga gb gc g : GE}
theorem de_eq (hu : X.A.units + 64 < cLine) (ha : DE X E a ga) (hb : DE X E b gb) : DE X E (.Compare a [.Eq] [b] pos) (gOp (hEq false) ga gb) := de_cmp (op_eq.or (op_eqD hu)) od_eq ha hb (nomark _)
theorem dt_eq (hu : X.A.units + 64 < cLine) (ha : DE X E a ga) (hb : DE X E b gb) : DT X E (.Compare a [.Eq] [b] pos) (gTest (gOp (hEq false) ga gb)) := dt_cmp (op_eq.or (op_eqD hu)) od_eq ha hb (nomark _)
theorem dt_ne (hu : X.A.units + 64 < cLine) (ha : DE X E a ga) (hb : DE X E b gb) : DT X E (.Compare a [.NotEq] [b] pos) (gTest (gOp (hEq true) ga gb)) := dt_cmp (op_ne.or (op_neD hu)) od_ne ha hb (nomark _)
end
end L2
namespace L2
open PySem PySem.Spec PyProof.Rows
theorem atI_rep {K : PySem.W.Frag} {F : Hp} {ds : List D} {xs : List V} {i : Int} {d : D} (r : Reps K F ds xs) (h : atI ds i = some d) : ∃ x, atI xs i = some x ∧ Rep K F d x := by
  unfold atI at h ⊢
  rw [r.length]
  cases q : ixN ds.length i with
  | none => rw [q] at h; cases h
  | some j =>
    rw [q] at h
    have h : ds[j]? = some d := h
    obtain ⟨x, hx, rx⟩ := r.get h
    exact ⟨x, hx, rx⟩
def hIx (a b : D) (Q : D → Prop) : Prop := match a, b with
  | .lst ds, .int i => ∃ d, atI ds i = some d ∧ Q d
  | .tup ds, .int i => ∃ d, atI ds i = some d ∧ Q d
  | .scr ns, .int i => ∃ n, atI ns i = some n ∧ Q (.int n)
  | _, _ => False
theorem atI_map {α β : Type} {f : α → β} {xs : List α} {i : Int} {x : α} (h : atI xs i = some x) : atI (xs.map f) i = some (f x) := by
  unfold atI at h ⊢
  rw [List.length_map]
  cases q : ixN xs.length i with
  | none => rw [q] at h; cases h
  | some j =>
    rw [q] at h
    have h : xs[j]? = some x := h
    show (xs.map f)[j]? = some (f x)
    rw [List.getElem?_map, h]
    rfl
theorem od_ix {K : PySem.W.Frag} : OpD K (rIx K) hIx := fun F H x y dx dy Qd Q s rx ry h fin => by
  unfold hIx at h
  split at h
  · obtain ⟨d, hd, q⟩ := h
    obtain ⟨a, xs, rfl, hF, r⟩ := rx
    obtain ⟨v, hv, rv⟩ := atI_rep r hd
    exact .inl ⟨a, xs, _, v, rfl, ry, SqL.of (s _ _ hF), hv, fin.now s q rv⟩
  · obtain ⟨d, hd, q⟩ := h
    obtain ⟨a, xs, rfl, hF, r⟩ := rx
    obtain ⟨v, hv, rv⟩ := atI_rep r hd
    exact .inr (.inl ⟨a, xs, _, v, rfl, ry, SqT.of (s _ _ hF), hv, fin.now s q rv⟩)
  · obtain ⟨n, hn, q⟩ := h
    obtain ⟨a, rfl, hq⟩ := rx
    exact .inl ⟨a, _, _, .int n, rfl, ry, s.seq hq, atI_map hn, fin.now s q rfl⟩
  · exact h.elim
section
variable {X : Cx} {E : XK} {pos p : Pos} {a b c e : Expr} {es : List Expr} {ga gb gc g : GE}
theorem de_at (ha : DE X E a ga) (hb : DE X E b gb) (hs : PlainIx b := by exact fun _ _ => rfl) : DE X E (.Subscript a b pos) (gOp hIx ga gb) := de_ix ix_seq od_ix ha hb hs
def CallD (K : PySem.W.Frag) (r : List V → Hp → VK → Prop) (h : List D → (D → Prop) → Prop) : Prop := ∀ F H vs ds Qd Q, Same F H → Reps K F ds vs → h ds Qd → Fin1 K F H Qd Q → r vs H Q
def gCB (h : List D → (D → Prop) → Prop) (ga : GA) : GE := fun env Ex Q => ga env Ex fun ds => h ds Q
theorem liftC {r : List V → Hp → VK → Prop} {h : List D → (D → Prop) → Prop} {ga : GA} (o : CallD X.K r h) : ∀ σ H Q, DTE X.K E (gCB h ga) σ H Q → tCB r (DTA X.K E ga) σ H Q :=
  fun σ H Q zw17 => el9 zw17 fun F env Ex Qd s sl ex q fin => ⟨F, env, Ex, _, s, sl, ex, q, fun ds vs F1 H1 q1 g1 r1 => o F1 H1 vs ds Qd Q g1.sub r1 q1 (fin.step g1)⟩
theorem de_callB {id : String} {x : Str} {r : List V → Hp → VK → Prop} {h : List D → (D → Prop) → Prop} {ga : GA} (hc : CallR X (.builtin id) r) (o : CallD X.K r h) (hg : Gl X x) (hm : X.mg x = none) (hv : bootBuiltins x = some (.builtin id)) (ha : DA X E (e :: es) ga)
    (hn : x ≠ "__name__" := by decide) (hdb : (x == ("__debug__" : Str)) = false := by decide) (he : starEach (e :: es) X.env = (false, eval e X.env) :: starEach es X.env := by rfl) (hpl : (backTo pos (starEach es X.env)).any (·.1) = false := by rfl) :
    DE X E (.Call (.Name x p) (e :: es) [] pos) (gCB h ga) := ⟨PE.weak (pe_callB hc hg hm hv ha.h hn hdb he hpl) (liftC o)⟩
def FinF (K : PySem.W.Frag) (F H : Hp) (Qd : List D → Prop) (Q : VK) : Prop := ∀ ds a xs F' H', Qd ds → Grow F H F' H' → F' a = none → H a = none → H' a = some (.lst xs) → Reps K F' ds xs → Q (.ref a) H'
theorem FinF.step {K : PySem.W.Frag} {F H F' H' : Hp} {Qd : List D → Prop} {Q : VK} (h : FinF K F H Qd Q) (g : Grow F H F' H') : FinF K F' H' Qd Q := fun ds a xs F2 H2 q g2 f n l r => h ds a xs F2 H2 q (g.trans g2) f (g.hh.free n) l r
theorem FinF.now {K : PySem.W.Frag} {F H : Hp} {Qd : List D → Prop} {Q : VK} {ds : List D} {xs : List V} (h : FinF K F H Qd Q) (s : Same F H) (q : Qd ds) (r : Reps K F ds xs) : ∀ l, H l = none → Q (.ref l) (upd H l (.lst xs)) :=
  fun l hl => h ds l xs F _ q (Grow.keep s hl) (s.free hl) hl upd_same r
def hLen (ds : List D) (Q : D → Prop) : Prop := match ds with
  | [.lst xs] => Q (.int (xs.length : Nat))
  | [.tup xs] => Q (.int (xs.length : Nat))
  | [.scr xs] => Q (.int (xs.length : Nat))
  | [.str x] => x.length ≤ sizeLine ∧ Q (.int (x.length : Nat))
  | _ => False
theorem cd_len {K : PySem.W.Frag} : CallD K (fun xs H Q => ∃ x n, xs = [x] ∧ LenV K x H n ∧ Q (.int (n : Nat)) H) hLen := fun F H vs ds Qd Q s r h fin => by
  unfold hLen at h
  split at h
  · obtain ⟨x, _, rfl, ⟨a, ys, rfl, hF, rs⟩, e⟩ := r
    cases (show _ = [] from e)
    refine ⟨_, _, rfl, .inl ⟨ys, SqL.of (s _ _ hF), rfl⟩, ?_⟩
    rw [rs.length]
    exact fin.now s h rfl
  · obtain ⟨x, _, rfl, ⟨a, ys, rfl, hF, rs⟩, e⟩ := r
    cases (show _ = [] from e)
    refine ⟨_, _, rfl, .inr ⟨ys, SqT.of (s _ _ hF), rfl⟩, ?_⟩
    rw [rs.length]
    exact fin.now s h rfl
  · obtain ⟨x, _, rfl, ⟨a, rfl, hq⟩, e⟩ := r
    cases (show _ = [] from e)
    refine ⟨_, _, rfl, .inl ⟨_, s.seq hq, rfl⟩, ?_⟩
    rw [List.length_map]
    exact fin.now s h rfl
  · obtain ⟨x, _, rfl, e1, e⟩ := r
    cases (show _ = [] from e)
    cases (show x = _ from e1)
    exact ⟨_, _, rfl, ⟨h.1, rfl⟩, fin.now s h.2 rfl⟩
  · exact h.elim
theorem de_len {ga : GA} (hg : Gl X "len") (hm : X.mg "len" = none) (ha : DA X E [e] ga) (he : starEach [e] X.env = [(false, eval e X.env)] := by rfl) : DE X E (.Call (.Name "len" p) [e] [] pos) (gCB hLen ga) := de_callB call_len cd_len hg hm PySem.boot_len ha (by decide) (by decide) he rfl
theorem bt_isiB : bootBuiltins "isinstance" = some (.builtin "isinstance") := by decide +kernel
inductive Ki where
  | int | bool | list | tuple | str
def Ki.nm : Ki → String
  | .int => "int" | .bool => "bool" | .list => "list" | .tuple => "tuple" | .str => "str"
def isiD (t : Ki) (d : D) : Bool := match t, d with
  | .int, .int _ => true
  | .int, .bl _ => true
  | .bool, .bl _ => true
  | .list, .lst _ => true
  | .tuple, .tup _ => true
  | .str, .str _ => true
  | _, _ => false
def hIsi (t : Ki) (d : D) (Q : D → Prop) : Prop := match d with
  | .scr _ => False
  | .kt _ => False
  | .dtt _ _ => False
  | d => Q (.bl (isiD t d))
theorem kit_ki (t : Ki) : kitPure "NoneType" t.nm = some false ∧ kitPure "bool" t.nm = some (isiD t (.bl true)) ∧ kitPure "int" t.nm = some (isiD t (.int 0)) ∧ kitPure "str" t.nm = some (isiD t (.str Str.empty)) ∧ kitPure "list" t.nm = some (isiD t (.lst [])) ∧ kitPure "tuple" t.nm = some (isiD t (.tup [])) := by
  cases t <;> exact ⟨by decide +kernel, by decide +kernel, by decide +kernel, by decide +kernel, by decide +kernel, by decide +kernel⟩
theorem bt_ki (t : Ki) : bootBuiltins (Str.ofString t.nm) = some (.type t.nm) := by cases t <;> decide +kernel
theorem de_isi (t : Ki) {q : Pos} {y : Str} (hy : y = Str.ofString t.nm) (hg : Gl X "isinstance") (hm : X.mg "isinstance" = none) (hg2 : Gl X y) (hm2 : X.mg y = none) (ha : DE X E a ga) (hn : y ≠ "__name__" := by decide) (hd : (y == ("__debug__" : Str)) = false := by decide)
    (hs : starEach [a, .Name y q] X.env = [(false, eval a X.env), (false, eval (.Name y q) X.env)] := by rfl) (hs2 : starEach [.Name y q] X.env = [(false, eval (.Name y q) X.env)] := by rfl) :
    DE X E (.Call (.Name "isinstance" p) [a, .Name y q] [] pos) (gUn (hIsi t) ga) := ⟨by
  subst hy
  refine PE.weak (pe_callB (r := fun xs H Q => ∃ x c t cv b, xs = [x, c] ∧ TyOf X.K H x t ∧ clsV c = some cv ∧ PySem.W.kitOne X.K t cv = some b ∧ Q (.bl b) H) call_isinst hg hm bt_isiB
    (pa_cons ha.h (pa_cons (pe_bltn (v := .ty t.nm) hg2 hm2 (bt_ki t) rfl hn hd) pa_nil hs2) (by rw [hs, hs2])) (by decide) (by decide) (by rw [hs, hs2]) (by rw [hs2]; rfl))
    fun σ H Q zw18 => el9 zw18 fun F env Ex Qd s sl ex q fin => ⟨F, env, Ex, _, s, sl, ex, q, fun d v F1 H1 q1 g1 r1 => ?_⟩
  obtain ⟨k1, k2, k3, k4, k5, k6⟩ := kit_ki t
  cases d with
  | non => cases (show v = _ from r1); exact ⟨_, _, _, _, _, rfl, .non, rfl, kit_pure k1, fin (.bl false) _ F1 H1 (by cases t <;> exact q1) g1 rfl⟩
  | bl b => cases (show v = _ from r1); exact ⟨_, _, _, _, _, rfl, .bl b, rfl, kit_pure k2, fin (.bl (isiD t (.bl true))) _ F1 H1 (by cases t <;> exact q1) g1 rfl⟩
  | int b => cases (show v = _ from r1); exact ⟨_, _, _, _, _, rfl, .int b, rfl, kit_pure k3, fin (.bl (isiD t (.int 0))) _ F1 H1 (by cases t <;> exact q1) g1 rfl⟩
  | str b => cases (show v = _ from r1); exact ⟨_, _, _, _, _, rfl, .str b, rfl, kit_pure k4, fin (.bl (isiD t (.str Str.empty))) _ F1 H1 (by cases t <;> exact q1) g1 rfl⟩
  | lst ds => obtain ⟨b, xs, rfl, hF, _⟩ := r1; exact ⟨_, _, _, _, _, rfl, .lst (g1.sub _ _ hF), rfl, kit_pure k5, fin (.bl (isiD t (.lst []))) _ F1 H1 (by cases t <;> exact q1) g1 rfl⟩
  | tup ds => obtain ⟨b, xs, rfl, hF, _⟩ := r1; exact ⟨_, _, _, _, _, rfl, .tup (g1.sub _ _ hF), rfl, kit_pure k6, fin (.bl (isiD t (.tup []))) _ F1 H1 (by cases t <;> exact q1) g1 rfl⟩
  | scr ds => exact (show False from q1).elim
  | kt ds => exact (show False from q1).elim
  | dtt ks ds => exact (show False from q1).elim⟩
def gCall (f : DSp) (ga : GA) : GE := fun env Ex Q => ga env Ex fun ds => f ds Ex Q
theorem de_call {k n : Nat} {f : Addr} {fd : FuncData} {ps : List Str} {sp : DSp} {x : Str} {ga : GA} (G : FnOk X.prog X.w X.K X.mg X.base (CXx X.prog X.w) k f fd ps (dSp X.K n sp)) (hr : Room k X.A) (hg : Gl X x) (hm : X.mg x = some (.ref f)) (hk : PySem.W.keepIn X.K (.ref f) = true)
    (hb : Binds X.K fd ps []) (hx : Passes (CXx X.prog X.w) X E) (ha : DA X E (e :: es) ga) (hn : (e :: es).length = n := by rfl) (hdb : (x == ("__debug__" : Str)) = false := by decide) (he : starEach (e :: es) X.env = (false, eval e X.env) :: starEach es X.env := by rfl)
    (hpl : (backTo pos (starEach es X.env)).any (·.1) = false := by rfl) : DE X E (.Call (.Name x p) (e :: es) [] pos) (gCall (fun ds Ex Q => ds.length = n ∧ sp ds Ex Q) ga) := ⟨
  PE.weak (pe_call (dvs := []) (E := E) G hr hg hm hk hb .nil hx ha.h hdb he hpl) fun σ H Q zw19 => el9 zw19 fun F env Ex Qd s sl ex q fin => ⟨F, env, Ex, _, s, sl, ex, q, fun ds vs F1 H1 q1 g1 r1 =>
    ⟨F1, ds, Ex, Qd, q1.1, g1.sub, by rw [List.append_nil]; exact r1, ex.step g1.hh, q1.2, fin.step g1⟩⟩⟩
def OpF (K : PySem.W.Frag) (r : R2) (h : D → D → (List D → Prop) → Prop) : Prop := ∀ F H x y dx dy Qd Q, Same F H → Rep K F dx x → Rep K F dy y → h dx dy Qd → FinF K F H Qd Q → r x y H Q
def gOpF (h : D → D → (List D → Prop) → Prop) (ga gb : GE) : GA := fun env Ex Q => ga env Ex fun x => gb env Ex fun y => h x y Q
theorem lift2F {r : R2} {h : D → D → (List D → Prop) → Prop} (o : OpF X.K r h) : ∀ σ H Q, DTF X.K E (gOpF h ga gb) σ H Q → tOp r (DTE X.K E ga) (DTE X.K E gb) σ H Q :=
  fun σ H Q zw20 => el9 zw20 fun F env Ex Qd s sl ex q fin => ⟨F, env, Ex, _, s, sl, ex, q, fun d v F1 H1 q1 g1 r1 => ⟨F1, env, Ex, _, g1.sub, sl.grow g1, ex.step g1.hh, q1,
    fun d2 v2 F2 H2 q2 g2 r2 => o F2 H2 v v2 d d2 Qd Q g2.sub (Rep.mono g2.ff _ r1) r2 q2 (FinF.step fin (g1.trans g2))⟩⟩
def hCat (a b : D) (Q : List D → Prop) : Prop := match a, b with
  | .lst as, .lst bs => as.length + bs.length ≤ sizeLine ∧ Q (as ++ bs)
  | _, _ => False
theorem of_cat {K : PySem.W.Frag} : OpF K rCat hCat := fun F H x y dx dy Qd Q s rx ry h fin => by
  unfold hCat at h
  split at h
  · obtain ⟨a, xs, rfl, hF, r⟩ := rx
    obtain ⟨b, ys, rfl, hF', r'⟩ := ry
    exact ⟨a, b, xs, ys, rfl, rfl, s _ _ hF, s _ _ hF', by rw [r.length, r'.length]; exact h.1, FinF.now fin s h.2 (r.append r')⟩
  · exact h.elim
theorem df_cat (ha : DE X E a ga) (hb : DE X E b gb) : DF X E (.BinOp a .Add b pos) (gOpF hCat ga gb) := ⟨PE.weak (pe_op op_cat ha.h hb.h) (lift2F of_cat)⟩
def vOf : D → V
  | .bl b => .bl b
  | .int i => .int i
  | .str x => .str x
  | _ => .non
theorem flat_v {K : PySem.W.Frag} {F : Hp} {d : D} {x : V} (f : flatD d = true) (r : Rep K F d x) : x = vOf d ∧ flatV x = true := by
  cases d <;> first | exact absurd (show false = true from f) Bool.false_ne_true | (cases (show x = _ from r); exact ⟨rfl, rfl⟩)
theorem in_flat {K : PySem.W.Frag} {F : Hp} {d : D} {x : V} (f : flatD d = true) (r : Rep K F d x) : ∀ {bs : List D} {ys : List V}, bs.all flatD = true → Reps K F bs ys → ys.all flatV = true ∧ inV x ys = bs.any fun y => eqD y d
  | [], _, _, h => by rw [show _ = [] from h]; exact ⟨rfl, rfl⟩
  | b :: bs, _, fb, ⟨y, rs, e, hy, ht⟩ => by
    rw [List.all_cons, Bool.and_eq_true] at fb
    obtain ⟨i1, i2⟩ := in_flat f r fb.2 ht
    obtain ⟨f1, f2, f3⟩ := flat_eq fb.1 f hy r
    subst e
    refine ⟨by rw [List.all_cons, f1, i1]; rfl, ?_⟩
    unfold inV at i2 ⊢
    rw [List.any_cons, List.any_cons, i2, f3]
def truD (d : D) (Q : Bool → Prop) : Prop := match d with
  | .non => Q false
  | .bl b => Q b
  | .int i => Q (i != 0)
  | .lst ds => Q (!ds.isEmpty)
  | .tup ds => Q (!ds.isEmpty)
  | _ => False
def gTru (g : GE) : GT := fun env Ex Q => g env Ex fun d => truD d Q
theorem rep_empty {K : PySem.W.Frag} {F : Hp} {ds : List D} {xs : List V} (r : Reps K F ds xs) : xs.isEmpty = ds.isEmpty := by
  cases ds with
  | nil => rw [show xs = [] from r]; rfl
  | cons d ds => obtain ⟨_, _, rfl, _⟩ := r; rfl
theorem dt_truth (h : DE X E e g) (he : ∀ whole, isTrue e X.env whole = (do let v ← whole; standAt e.pos; holding [v] (truthy v)) := by intro _; rfl) : DT X E e (gTru g) := ⟨
  PT.weak (pt_truth h.h he) fun σ H Q zw21 => el9 zw21 fun F env Ex Qd s sl ex q fin => ⟨F, env, Ex, _, s, sl, ex, q, fun d v F1 H1 q1 g1 r1 => by
    cases d with
    | non => cases (show v = _ from r1); exact ⟨_, rfl, fin _ F1 H1 q1 g1⟩
    | bl b => cases (show v = _ from r1); exact ⟨_, rfl, fin _ F1 H1 q1 g1⟩
    | int b => cases (show v = _ from r1); exact ⟨_, rfl, fin _ F1 H1 q1 g1⟩
    | lst ds => obtain ⟨b, xs, rfl, hF, rs⟩ := r1; exact ⟨_, .inl ⟨xs, SqL.of (g1.sub _ _ hF), by rw [rep_empty rs]⟩, fin _ F1 H1 q1 g1⟩
    | tup ds => obtain ⟨b, xs, rfl, hF, rs⟩ := r1; exact ⟨_, .inr (.inl ⟨xs, SqT.of (g1.sub _ _ hF), by rw [rep_empty rs]⟩), fin _ F1 H1 q1 g1⟩
    | _ => exact (show False from q1).elim⟩⟩
end
end L2
namespace L2
open PySem PySem.Spec PyProof.Rows
theorem Grow.mut {F0 H0 F H : Hp} {a : Addr} {o : HO} (g : Grow F0 H0 F H) (hf : F a = none) (h0 : H0 a = none) : Grow F0 H0 F (upd H a o) := by
  refine ⟨fun b u e => ?_, g.ff, fun b u e => ?_, g.new⟩
  · rw [upd_ne (ne_of_none e h0)]; exact g.hh _ _ e
  · rw [upd_ne (ne_of_none e hf)]; exact g.sub _ _ e
theorem join_some {σ : St} {i : Nat} {v : V} (h : (σ[i]?).join = some v) : σ[i]? = some (some v) := by
  cases q : σ[i]? with
  | none => rw [q] at h; cases h
  | some o => rw [q] at h; have h : o = some v := h; rw [h]
section
variable {K : PySem.W.Frag} {F H : Hp} {σ : St} {env : DEnv}
theorem Slots.set {i : Nat} {s : DS} {v : V} (h : Slots K F H σ env) (ok : SlotOk K F H s (some v)) (ap : isOwn s = true → ∀ (j : Nat) t a, j ≠ i → env[j]? = some t → isOwn t = true → has t (σ[j]?).join a → ¬ has s (some v) a) : Slots K F H (σ.set i (some v)) (env.set i s) := by
  have hl := h.len
  have get : ∀ (j : Nat), j ≠ i → ((σ.set i (some v))[j]?).join = (σ[j]?).join := fun j hj => by rw [List.getElem?_set_ne (Ne.symm hj)]
  have geti : ∀ {t : DS}, (env.set i s)[i]? = some t → t = s ∧ ((σ.set i (some v))[i]?).join = some v := fun {t} e => by
    have lt : i < env.length := by
      have := (List.getElem?_eq_some_iff.mp e).1
      rwa [List.length_set] at this
    rw [List.getElem?_set_self lt] at e
    cases e
    exact ⟨rfl, by rw [List.getElem?_set_self (by omega)]; rfl⟩
  refine ⟨by rw [List.length_set, List.length_set, hl], fun j t e => ?_, fun j k s1 t1 a e1 e2 o1 o2 h1 h2 => ?_⟩
  · by_cases hj : j = i
    · subst hj
      obtain ⟨rfl, e'⟩ := geti e
      rw [e']
      exact ok
    · rw [List.getElem?_set_ne (Ne.symm hj)] at e
      rw [get j hj]
      exact h.ok j t e
  · by_cases hj : j = i
    · by_cases hk : k = i
      · rw [hj, hk]
      · exfalso
        subst hj
        obtain ⟨rfl, e'⟩ := geti e1
        rw [e'] at h1
        rw [List.getElem?_set_ne (Ne.symm hk)] at e2
        rw [get k hk] at h2
        exact ap o1 k t1 a hk e2 o2 h2 h1
    · by_cases hk : k = i
      · exfalso
        subst hk
        obtain ⟨rfl, e'⟩ := geti e2
        rw [e'] at h2
        rw [List.getElem?_set_ne (Ne.symm hj)] at e1
        rw [get j hj] at h1
        exact ap o2 j s1 a hj e1 o1 h1 h2
      · rw [List.getElem?_set_ne (Ne.symm hj)] at e1
        rw [List.getElem?_set_ne (Ne.symm hk)] at e2
        rw [get j hj] at h1
        rw [get k hk] at h2
        exact h.apart j k s1 t1 a e1 e2 o1 o2 h1 h2
theorem Slots.setSh {i : Nat} {d : D} {v : V} (h : Slots K F H σ env) (r : Rep K F d v) : Slots K F H (σ.set i (some v)) (env.set i (.sh d)) := h.set ⟨v, rfl, r⟩ fun z => nomatch z
theorem Fresh.set {H0 : Hp} {i : Nat} {s : DS} {v : V} (h : Fresh H0 σ env) (hl : env.length = σ.length) (ok : isOwn s = true → ∀ a, has s (some v) a → H0 a = none) : Fresh H0 (σ.set i (some v)) (env.set i s) := fun j t a e o q => by
  by_cases hj : j = i
  · subst hj
    have lt : j < env.length := by
      have := (List.getElem?_eq_some_iff.mp e).1
      rwa [List.length_set] at this
    rw [List.getElem?_set_self lt] at e
    cases e
    rw [List.getElem?_set_self (by omega)] at q
    exact ok o a q
  · rw [List.getElem?_set_ne (Ne.symm hj)] at e q
    exact h j t a e o q
theorem Slots.mut {i : Nat} {s s' : DS} {a : Addr} {o : HO} (h : Slots K F H σ env) (e : env[i]? = some s) (ow : isPl s = true) (ow' : isPl s' = true) (ha : (σ[i]?).join = some (.ref a)) (ok : SlotOk K F (upd H a o) s' (some (.ref a))) : Slots K F (upd H a o) σ (env.set i s') := by
  refine ⟨by rw [List.length_set, h.len], fun j t q => ?_, fun j k s1 t1 b e1 e2 o1 o2 h1 h2 => ?_⟩
  · by_cases hj : j = i
    · subst hj
      have lt : j < env.length := (List.getElem?_eq_some_iff.mp e).1
      rw [List.getElem?_set_self lt] at q
      cases q
      rw [ha]
      exact ok
    · rw [List.getElem?_set_ne (Ne.symm hj)] at q
      have z := h.ok j t q
      obtain ⟨_, u, hu, nt⟩ := (h.ok i s e).there (pl_own ow) ((pl_has ow).mpr ha)
      exact z.off (fun ot b hb hba => hj (h.apart j i t s a q e ot (pl_own ow) (hba ▸ hb) ((pl_has ow).mpr ha))) fun xs y => nt xs (Option.some.inj (hu.symm.trans y))
  · have back : ∀ {j : Nat} {t : DS} {b : Addr}, (env.set i s')[j]? = some t → isOwn t = true → has t (σ[j]?).join b → ∃ t', env[j]? = some t' ∧ isOwn t' = true ∧ has t' (σ[j]?).join b := fun {j t b} q ot hb => by
      by_cases hj : j = i
      · subst hj
        rw [List.getElem?_set_self (List.getElem?_eq_some_iff.mp e).1] at q
        cases q
        exact ⟨s, e, pl_own ow, (pl_has ow).mpr ((pl_has ow').mp hb)⟩
      · rw [List.getElem?_set_ne (Ne.symm hj)] at q
        exact ⟨t, q, ot, hb⟩
    obtain ⟨t1', q1, ot1, y1⟩ := back e1 o1 h1
    obtain ⟨t2', q2, ot2, y2⟩ := back e2 o2 h2
    exact h.apart j k t1' t2' b q1 q2 ot1 ot2 y1 y2
theorem Fresh.mut {H0 : Hp} {i : Nat} {s s' : DS} (h : Fresh H0 σ env) (e : env[i]? = some s) (ow : isPl s = true) (ow' : isPl s' = true := by rfl) : Fresh H0 σ (env.set i s') := fun j t a q ot hj => by
  by_cases z : j = i
  · subst z
    rw [List.getElem?_set_self (List.getElem?_eq_some_iff.mp e).1] at q
    cases q
    exact h j s a e (pl_own ow) ((pl_has ow).mpr ((pl_has ow').mp hj))
  · rw [List.getElem?_set_ne (Ne.symm z)] at q
    exact h j t a q ot hj
end
def gNx : GS := fun Dd _ env => Dd.nx env
def gSeq (t u : GS) : GS := fun Dd Ex env => t { Dd with nx := u Dd Ex } Ex env
def gRet (g : GE) : GS := fun Dd Ex env => g env Ex Dd.rt
def gIf (c : GT) (t u : GS) : GS := fun Dd Ex env => c env Ex fun b => if b = true then t Dd Ex env else u Dd Ex env
def gSet (i : Nat) (g : GE) : GS := fun Dd Ex env => g env Ex fun d => Dd.nx (env.set i (.sh d))
def gOwn (i : Nat) (g : GA) : GS := fun Dd Ex env => g env Ex fun ds => Dd.nx (env.set i (.own ds))
section
variable {X : Cx} {E : XK} {pos p : Pos} {a b c e : Expr} {es : List Expr} {ga gb gc g : GE} {st : Stmt} {rest : List Stmt} {t u : GS}
theorem dss_nil : DSs X E [] gNx := ⟨fun F0 H0 s0 => PSs.weak pss_nil fun Dn σ H zw22 => el10 zw22 fun F env Ex Dd gr sl fr ex q en => en.nx env σ F H q gr sl fr⟩
theorem dss_cons (h1 : DSt X E st t) (h2 : DSs X E rest u) : DSs X E (st :: rest) (gSeq t u) := ⟨fun F0 H0 s0 => PSs.weak (pss_cons (h1.h F0 H0 s0) (h2.h F0 H0 s0)) fun Dn σ H zw23 => el10 zw23 fun F env Ex Dd gr sl fr ex q en =>
  ⟨F, env, Ex, { Dd with nx := u Dd Ex }, gr, sl, fr, ex, q, ⟨fun env' σ' F' H' p g' sl' fr' => ⟨F', env', Ex, Dd, g', sl', fr', ex, p, en⟩, en.rt, en.bk, en.ct, en.rf, en.ro⟩⟩⟩
theorem dss_one (h1 : DSt X E st t) : DSs X E [st] t := ⟨fun F0 H0 s0 => pss_one (h1.h F0 H0 s0)⟩
theorem ds_ret (h : DE X E e g) : DSt X E (.Return (some e) pos) (gRet g) := ⟨fun F0 H0 s0 => PS.weak (ps_ret h.h) fun Dn σ H zw24 => el10 zw24 fun F env Ex Dd gr sl fr ex q en =>
  ⟨F, env, Ex, Dd.rt, gr.sub, sl, ex.step gr.hh, q, fun d v F' H' p g' r => en.rt d v F' H' p (gr.trans g') r⟩⟩
theorem ds_if {gt : GT} {bs cs : List Stmt} (hc : DT X E c gt) (ha : DSs X E bs t) (hb : DSs X E cs u) : DSt X E (.If c bs cs pos) (gIf gt t u) := ⟨fun F0 H0 s0 => PS.weak (ps_if hc.h (ha.h F0 H0 s0) (hb.h F0 H0 s0)) fun Dn σ H zw25 => el10 zw25 fun F env Ex Dd gr sl fr ex q en =>
  ⟨F, env, Ex, _, gr.sub, sl, ex.step gr.hh, q, fun k F' H' p g' => by
    cases k with
    | true => rw [if_pos rfl] at p ⊢; exact ⟨F', env, Ex, Dd, gr.trans g', sl.grow g', fr, ex, p, en⟩
    | false => rw [if_neg Bool.false_ne_true] at p ⊢; exact ⟨F', env, Ex, Dd, gr.trans g', sl.grow g', fr, ex, p, en⟩⟩⟩
theorem ds_set {i : Nat} {x : Str} {pos' : Pos} (hN : X.N.Nodup) (hi : X.N[i]? = some x) (hx : Loc X.env.scope x) (he : DE X E e g) (hs : swapsWith e (some (.Name x pos')) pos.line X.env = pure false := by rfl) (hf : X.fn x = true ∨ X.env.scope.names.lookup x = some .local := by first | exact .inl rfl | exact .inr rfl | assumption) :
    DSt X E (.Assign [.Name x pos'] e pos) (gSet i g) := ⟨fun F0 H0 s0 => PS.weak (ps_set (i := i) hN hi hx he.h hs hf) fun Dn σ H zw26 => el10 zw26 fun F env Ex Dd gr sl fr ex q en =>
  ⟨F, env, Ex, _, gr.sub, sl, ex.step gr.hh, q, fun d v F' H' p g' r => en.nx _ _ F' H' p (gr.trans g') ((sl.grow g').setSh r) (fr.set sl.len fun z => nomatch z)⟩⟩
theorem own_in {F0 H0 F H F' H' : Hp} {σ : St} {env : DEnv} {i : Nat} {a : Addr} {xs : List V} {ds : List D} {Dd : DEnds} {Dn : Ends} (gr : Grow F0 H0 F H) (sl : Slots X.K F H σ env) (fr : Fresh H0 σ env) (en : EndsOk X.K F0 H0 Dd Dn) (p : Dd.nx (env.set i (.own ds)))
    (g' : Grow F H F' H') (f1 : F' a = none) (n1 : H a = none) (l1 : H' a = some (.lst xs)) (r : Reps X.K F' ds xs) : Dn.nx (σ.set i (some (.ref a))) H' := by
  refine en.nx _ _ F' H' p (gr.trans g') ((sl.grow g').set ⟨a, xs, rfl, f1, l1, r⟩ fun _ j t c _ e o hj z => ?_) (fr.set sl.len fun _ c z => by cases z; exact gr.hh.free n1)
  cases z
  obtain ⟨_, u, hu, _⟩ := (sl.ok j t e).there o hj
  rw [n1] at hu
  cases hu
theorem ds_own {i : Nat} {x : Str} {pos' : Pos} {gf : GA} (hN : X.N.Nodup) (hi : X.N[i]? = some x) (hx : Loc X.env.scope x) (he : DF X E e gf) (hs : swapsWith e (some (.Name x pos')) pos.line X.env = pure false := by rfl) (hf : X.fn x = true ∨ X.env.scope.names.lookup x = some .local := by first | exact .inl rfl | exact .inr rfl | assumption) :
    DSt X E (.Assign [.Name x pos'] e pos) (gOwn i gf) := ⟨fun F0 H0 s0 => PS.weak (ps_set (i := i) hN hi hx he.h hs hf) fun Dn σ H zw27 => el10 zw27 fun F env Ex Dd gr sl fr ex q en =>
  ⟨F, env, Ex, _, gr.sub, sl, ex.step gr.hh, q, fun ds a xs F' H' p g' f1 n1 l1 r => own_in gr sl fr en p g' f1 n1 l1 r⟩⟩
def gFreeze (i : Nat) (g : GS) : GS := fun Dd Ex env => match env[i]? with
  | some (.own ds) => g Dd Ex (env.set i (.sh (.lst ds)))
  | _ => False
theorem dss_freeze (i : Nat) (h : DSs X E rest t) : DSs X E rest (gFreeze i t) := ⟨fun F0 H0 s0 => PSs.weak (h.h F0 H0 s0) fun Dn σ H zw28 => el10 zw28 fun F env Ex Dd gr sl fr ex q en => by
  unfold gFreeze at q
  split at q
  · rename_i ds e
    obtain ⟨a, xs, e1, f, l, r⟩ := sl.ok i _ e
    have ff : Same F (upd F a (.lst xs)) := fun b o z => by rw [upd_ne (ne_of_none z f)]; exact z
    have h0 : H0 a = none := fr i _ a e rfl e1
    have gr' : Grow F0 H0 (upd F a (.lst xs)) H := by
      refine ⟨gr.hh, gr.ff.trans ff, fun b o z => ?_, fun b z n => ?_⟩
      · by_cases hb : b = a
        · subst hb; rw [upd_same] at z; rw [l, ← z]
        · rw [upd_ne hb] at z; exact gr.sub _ _ z
      · by_cases hb : b = a
        · rw [hb]; exact .inl h0
        · rw [upd_ne hb] at n; exact gr.new b z n
    have es : σ.set i (some (.ref a)) = σ := by
      have z := join_some e1
      have lt := (List.getElem?_eq_some_iff.mp z).1
      have z' := (List.getElem?_eq_some_iff.mp z).2
      rw [← z']
      exact List.set_getElem_self lt
    have sl1 : Slots X.K (upd F a (.lst xs)) H σ (env.set i (.sh (.lst ds))) := by
      refine ⟨by rw [List.length_set, sl.len], fun j t' q' => ?_, fun j k s1 t1 b z1 z2 o1 o2 h1 h2 => ?_⟩
      · by_cases hj : j = i
        · subst hj
          rw [List.getElem?_set_self (List.getElem?_eq_some_iff.mp e).1] at q'
          cases q'
          rw [e1]
          exact ⟨.ref a, rfl, a, xs, rfl, upd_same, Reps.mono ff _ r⟩
        · rw [List.getElem?_set_ne (Ne.symm hj)] at q'
          have z := sl.ok j t' q'
          exact z.frz f fun ot b hb hba => hj (sl.apart j i t' _ a q' e ot rfl (hba ▸ hb) e1)
      · have back : ∀ {j : Nat} {t' : DS}, (env.set i (.sh (.lst ds)))[j]? = some t' → isOwn t' = true → env[j]? = some t' := fun {j t'} q' ot => by
          by_cases hj : j = i
          · subst hj
            rw [List.getElem?_set_self (List.getElem?_eq_some_iff.mp e).1] at q'
            cases q'
            cases ot
          · rwa [List.getElem?_set_ne (Ne.symm hj)] at q'
        exact sl.apart j k s1 t1 b (back z1 o1) (back z2 o2) o1 o2 h1 h2
    have fr1 : Fresh H0 σ (env.set i (.sh (.lst ds))) := fun j t' b q' ot hb => by
      by_cases hj : j = i
      · subst hj
        rw [List.getElem?_set_self (List.getElem?_eq_some_iff.mp e).1] at q'
        cases q'
        cases ot
      · rw [List.getElem?_set_ne (Ne.symm hj)] at q'
        exact fr j t' b q' ot hb
    exact ⟨upd F a (.lst xs), _, Ex, Dd, gr', sl1, fr1, ex, q, en⟩
  · exact q.elim⟩
def gLenO (i : Nat) : GE := fun env _ Q => match env[i]? with
  | some (.own ds) => Q (.int (ds.length : Nat))
  | _ => False
theorem de_lenO {i : Nat} {x : Str} {np : Pos} (hg : Gl X "len") (hm : X.mg "len" = none) (hN : X.N[i]? = some x) (hv : Vis X.env.scope x) (hd : (x == ("__debug__" : Str)) = false := by decide) (hcd : (x == ("__classdict__" : Str)) = false := by decide)
    (hs : starEach [.Name x np] X.env = [(false, eval (.Name x np) X.env)] := by rfl) : DE X E (.Call (.Name "len" p) [.Name x np] [] pos) (gLenO i) := ⟨
  PE.weak (pe_callB call_len hg hm PySem.boot_len (pa_cons (pe_var hN hv hd hcd) pa_nil hs)) fun σ H Q zw29 => el9 zw29 fun F env Ex Qd s sl ex q fin => by
    unfold gLenO at q
    split at q
    · rename_i ds e0
      obtain ⟨l, xs, e1, f, hl, r⟩ := sl.ok i _ e0
      refine ⟨.ref l, join_some e1, .ref l, xs.length, rfl, .inl ⟨xs, SqL.of hl, rfl⟩, ?_⟩
      rw [r.length]
      exact fin.now s q rfl
    · exact q.elim⟩
theorem ds_loop (bd : Body X E) (h : DSt (loopCx X E) E st t) : DSt X E st t := ⟨fun F0 H0 s0 => ps_loop bd (h.h F0 H0 s0)⟩
def blank (n : Nat) : DEnv := List.replicate n .un
theorem Grow.still {F0 H0 H' : Hp} (s : Same F0 H0) (h : Same H0 H') : Grow F0 H0 F0 H' := ⟨h, Same.refl _, s.trans h, fun _ e n => absurd e n⟩
end
end L2
namespace L2
open PySem PySem.Spec PyProof.Rows
def JRep (K : PySem.W.Frag) (J : It) (F : Hp) (ds : List D) : Prop := ∀ F1 H1, Same F F1 → Same F1 H1 → ∀ i, (∀ d, ds[i]? = some d → J.go i H1 ∧ ∀ x H2, J.yld i H1 x H2 → ∃ F2, Grow F1 H1 F2 H2 ∧ Rep K F2 d x) ∧ (ds.length ≤ i → J.stop i H1)
def DTI (K : PySem.W.Frag) (E : XK) (gi : GA) : TI := fun σ H R => ∃ F env Ex Qd, Same F H ∧ Slots K F H σ env ∧ ExOk E Ex H ∧ gi env Ex Qd ∧ ∀ ds J F' H', Qd ds → Grow F H F' H' → JRep K J F' ds → R J H'
structure DI (X : Cx) (E : XK) (tg iter : Expr) (gi : GA) : Prop where
  h : PI X tg iter (DTI X.K E gi)
theorem PI.weak {X : Cx} {tg iter : Expr} {t t' : TI} (h : PI X tg iter t) (w : ∀ σ H R, t' σ H R → t σ H R) : PI X tg iter t' := fun pins s σ H R I q => h pins s σ H R I (w σ H R q)
theorem jrep_list {K : PySem.W.Frag} {F : Hp} {a : Addr} {xs : List V} {ds : List D} (hF : F a = some (.lst xs)) (r : Reps K F ds xs) : JRep K (Itl K a) F ds := fun F1 H1 s1 s2 i => by
  have hl := r.length
  have h1 : SqL K H1 a xs := SqL.of (s2 _ _ (s1 _ _ hF))
  refine ⟨fun d hd => ?_, fun hi => ⟨xs, h1, by omega⟩⟩
  obtain ⟨x, hx, rx⟩ := r.get hd
  refine ⟨⟨xs, x, h1, hx⟩, fun y H2 hy => ?_⟩
  obtain ⟨rfl, hy⟩ := hy
  have z := hy xs h1
  rw [hx] at z
  cases z
  exact ⟨F1, Grow.refl s2, Rep.mono s1 _ rx⟩
def giList (g : GE) : GA := fun env Ex Q => g env Ex fun d => match d with
  | .lst ds => Q ds
  | _ => False
section
variable {X : Cx} {E : XK} {pos p q : Pos} {tg a b c e : Expr} {es : List Expr} {ga gb gc g : GE} {st : Stmt} {rest : List Stmt} {t u : GS} {gf : GA}
theorem di_list (h : DE X E e g) : DI X E tg e (giList g) := ⟨PI.weak (pi_list h.h) fun σ H R zw30 => el9 zw30 fun F env Ex Qd s sl ex q fin => ⟨F, env, Ex, _, s, sl, ex, q, fun d v F1 H1 q1 g1 r1 => by
  cases d with
  | lst ds => obtain ⟨l, xs, rfl, hF, r⟩ := r1; exact ⟨l, rfl, ⟨xs, SqL.of (g1.sub _ _ hF)⟩, fin ds _ F1 H1 q1 g1 (jrep_list hF r)⟩
  | _ => exact (show False from q1).elim⟩⟩
abbrev GG := D → DEnv → (DEnv → Prop) → Prop
structure DG (X : Cx) (tg : Expr) (g : GG) : Prop where
  h : PG X tg (fun v σ H Q => ∃ F env d Qd, Same F H ∧ Slots X.K F H σ env ∧ Rep X.K F d v ∧ g d env Qd ∧ ∀ env' σ', Qd env' → Slots X.K F H σ' env' → (∀ H0, Fresh H0 σ env → Fresh H0 σ' env') → Q σ' H)
theorem PG.weak {X : Cx} {tg : Expr} {t t' : TG} (h : PG X tg t) (w : ∀ v σ H Q, t' v σ H Q → t v σ H Q) : PG X tg t' := fun pins s σ H v u Q I r q => h pins s σ H v u Q I r (w v σ H Q q)
def ggName (i : Nat) : GG := fun d env Q => Q (env.set i (.sh d))
theorem dg_name {i : Nat} {x : Str} (hN : X.N.Nodup) (hi : X.N[i]? = some x) (hx : Loc X.env.scope x) (hf : X.fn x = true ∨ X.env.scope.names.lookup x = some .local := by first | exact .inl rfl | exact .inr rfl | assumption) : DG X (.Name x pos) (ggName i) := ⟨
  PG.weak (pg_name hN hi hx hf) fun v σ H Q zw31 => el9 zw31 fun F env d Qd s sl r q fin => fin _ _ q (sl.setSh r) fun H0 fr => fr.set sl.len fun z => nomatch z⟩
def gFor (gi : GA) (gg : GG) (tb : GS) : GS := fun Dd Ex env => gi env Ex fun ds => ∃ Pv : Nat → DEnv → Prop, Pv 0 env ∧
  (∀ k d env', ds[k]? = some d → Pv k env' → gg d env' fun env2 => tb { Dd with nx := Pv (k + 1), ct := Pv (k + 1), bk := Dd.nx } Ex env2) ∧ ∀ env', Pv ds.length env' → Dd.nx env'
def over (F H : Hp) : Hp := fun b => match F b with
  | some o => some o
  | none => H b
theorem over_same {F H H1 : Hp} (a : Same F H1) (b : Same H H1) : Same F (over F H) ∧ Same H (over F H) ∧ Same (over F H) H1 := by
  refine ⟨fun c o e => ?_, fun c o e => ?_, fun c o e => ?_⟩
  · unfold over; rw [e]
  · unfold over
    cases q : F c with
    | none => exact e
    | some o' =>
      have z1 := a c o' q
      have z2 := b c o e
      rw [z1] at z2
      exact z2
  · unfold over at e
    cases q : F c with
    | none => rw [q] at e; exact b c o e
    | some o' => rw [q] at e; cases e; exact a c _ q
theorem over_none {F H : Hp} {a : Addr} (h : over F H a = none) : F a = none ∧ H a = none := by
  unfold over at h
  cases q : F a with
  | none => rw [q] at h; exact ⟨rfl, h⟩
  | some o => rw [q] at h; cases h
theorem none_over {F H : Hp} {a : Addr} (h : F a = none) (h' : H a = none) : over F H a = none := by
  unfold over
  rw [h]
  exact h'
theorem Grow.over {F0 H0 F1 H1 F H : Hp} (g1 : Grow F0 H0 F1 H1) (g : Grow F1 (over F1 H0) F H) : Grow F0 H0 F H := by
  obtain ⟨o1, o2, o3⟩ := over_same g1.sub g1.hh
  refine ⟨o2.trans g.hh, g1.ff.trans g.ff, g.sub, fun a e n => ?_⟩
  by_cases h : F1 a = none
  · have w : L2.over F1 H0 a = H0 a := by
      unfold L2.over
      rw [h]
    have y := g.new a h n
    rw [w] at y
    exact y
  · exact g1.new a e h
theorem EndsOk.over {K : PySem.W.Frag} {F0 H0 F1 H1 : Hp} {Dd : DEnds} {Dn : Ends} (g1 : Grow F0 H0 F1 H1) (en : EndsOk K F0 H0 Dd Dn) : EndsOk K F1 (over F1 H0) Dd Dn := by
  have fr : ∀ {σ : St} {env : DEnv}, Fresh (L2.over F1 H0) σ env → Fresh H0 σ env := fun h i s a e o q => (over_none (h i s a e o q)).2
  exact ⟨fun env σ F H p g sl f => en.nx env σ F H p (g1.over g) sl (fr f), fun d v F H p g r => en.rt d v F H p (g1.over g) r, fun env σ F H p g sl f => en.bk env σ F H p (g1.over g) sl (fr f), fun env σ F H p g sl f => en.ct env σ F H p (g1.over g) sl (fr f), fun ds a xs F H p g f h l r => en.rf ds a xs F H p (g1.over g) f (over_none h).2 l r, fun s v F H p g so ow h => en.ro s v F H p (g1.over g) so ow fun a ha => (over_none (h a ha)).2⟩
theorem dss_any (h : DSs X E rest t) : PSs X rest (fun Dn σ H => ∃ F0 H0, Same F0 H0 ∧ DTS X.K E F0 H0 t Dn σ H) := fun pins s σ H Dn I ⟨F0, H0, s0, q⟩ => h.h F0 H0 s0 pins s σ H Dn I q
theorem ds_for {iter : Expr} {gi : GA} {gg : GG} (hp : PassesOwn (model X.prog X.w) X.A X.env X.xe) (hc : X.calm = true) (hi : DI X E tg iter gi) (hg : DG X tg gg) (hb : DSs X E rest t) (hs : ∀ x, foldedSetIterable iter X.env x = pure x := by intro _; rfl) :
    DSt X E (.For tg iter rest [] pos) (gFor gi gg t) := ⟨fun F0 H0 s0 => PS.weak (ps_for hp hc hi.h hg.h (dss_any hb) hs) fun Dn σ H zw32 => el10 zw32 fun F env Ex Dd gr sl fr ex q en =>
  ⟨F, env, Ex, _, gr.sub, sl, ex.step gr.hh, q, fun ds J F1 H1 q1 g1 jr => by
    obtain ⟨Pv, p0, pt, pe⟩ := q1
    have G1 := gr.trans g1
    obtain ⟨o1, o2, o3⟩ := over_same G1.sub G1.hh
    have fr1 : Fresh (over F1 H0) σ env := fun i s a e o h => by
      have w := (sl.grow g1).ok i s e
      refine none_over ?_ (fr i s a e o h)
      exact (w.there o h).1
    refine ⟨fun i m σ H => m = ds.length - i ∧ i ≤ ds.length ∧ ∃ F env, Grow F1 (over F1 H0) F H ∧ Slots X.K F H σ env ∧ Fresh (over F1 H0) σ env ∧ Pv i env,
      ⟨ds.length, by simp, Nat.zero_le _, F1, env, ⟨o3, Same.refl _, G1.sub, fun _ e n => absurd e n⟩, sl.grow g1, fr1, p0⟩, ?_⟩
    rintro i m σ2 H2 ⟨rfl, hi.h, F2, env2, g2, sl2, fr2, p2⟩
    obtain ⟨jgo, jstop⟩ := jr F2 H2 g2.ff g2.sub i
    by_cases hlt : i < ds.length
    · have hd : ds[i]? = some ds[i] := by simp [hlt]
      obtain ⟨go, yl⟩ := jgo ds[i] hd
      refine .inr ⟨go, fun σ' H' => ∃ F env, Grow F1 (over F1 H0) F H' ∧ Slots X.K F H' σ' env ∧ Fresh (over F1 H0) σ' env ∧ Pv (i + 1) env, fun σ' H' n => ⟨ds.length - (i + 1), by omega, rfl, hlt, n⟩, fun x H3 y => ?_⟩
      obtain ⟨F3, g3, r3⟩ := yl x H3 y
      refine ⟨F3, env2, ds[i], _, g3.sub, sl2.grow g3, r3, pt i ds[i] env2 hd p2, fun env4 σ4 q4 sl4 fr4 => ?_⟩
      exact ⟨F1, over F1 H0, o1, F3, env4, Ex, { Dd with nx := Pv (i + 1), ct := Pv (i + 1), bk := Dd.nx }, g2.trans g3, sl4, fr4 _ fr2, ex.step o2, q4,
        ⟨fun env' σ' F' H' p g sl f => ⟨F', env', g, sl, f, p⟩, (en.over G1).rt, (en.over G1).nx, fun env' σ' F' H' p g sl f => ⟨F', env', g, sl, f, p⟩, (en.over G1).rf, (en.over G1).ro⟩⟩
    · have e : i = ds.length := by omega
      exact .inl ⟨jstop (by omega), (en.over G1).nx env2 σ2 F2 H2 (pe env2 (e ▸ p2)) g2 sl2 fr2⟩⟩⟩
end
end L2
namespace L2
open PySem PySem.Spec PyProof.Rows
def slotV (env : DEnv) (j : Nat) : DS := match env[j]? with
  | some (.sh d) => .sh d
  | _ => .un
theorem slotV_no (env : DEnv) (j : Nat) : isOwn (slotV env j) = false := by
  unfold slotV
  split <;> rfl
theorem block_slots {K : PySem.W.Frag} {F H F3 H3 : Hp} {σ : St} {env : DEnv} {ts : List D} {vs : List V} (fv : List Nat) (sl : Slots K F H σ env) (gr : Grow F H F3 H3) (r : Reps K F3 ts vs) :
    Slots K F3 H3 (vs.map some ++ fv.map fun j => (σ[j]?).join) (ts.map DS.sh ++ fv.map (slotV env)) := by
  have hl := r.length
  have no : ∀ (i : Nat) s, (ts.map DS.sh ++ fv.map (slotV env))[i]? = some s → isOwn s = false := fun i s e => by
    have m := List.mem_of_getElem? e
    rcases List.mem_append.mp m with z | z
    · obtain ⟨d, _, rfl⟩ := List.mem_map.mp z; rfl
    · obtain ⟨j, _, rfl⟩ := List.mem_map.mp z; exact slotV_no env j
  refine ⟨by simp [hl], fun i s e => ?_, fun i j s t a e1 _ o1 => ?_⟩
  · rw [List.getElem?_append, List.length_map] at e ⊢
    by_cases hi : i < ts.length
    · rw [if_pos hi, List.getElem?_map] at e
      rw [if_pos (by omega), List.getElem?_map]
      cases q : ts[i]? with
      | none => rw [q] at e; cases e
      | some d =>
        rw [q] at e
        cases e
        obtain ⟨x, hx, rx⟩ := r.get q
        rw [hx]
        exact ⟨x, rfl, rx⟩
    · rw [if_neg hi, List.getElem?_map] at e
      rw [if_neg (by omega), List.getElem?_map, hl]
      cases q : fv[i - ts.length]? with
      | none => rw [q] at e; cases e
      | some j =>
        rw [q] at e
        have e : slotV env j = s := Option.some.inj e
        subst e
        show SlotOk K F3 H3 (slotV env j) (σ[j]?).join
        unfold slotV
        split
        · rename_i d e0
          obtain ⟨v, e1, rv⟩ := sl.ok j _ e0
          exact ⟨v, e1, Rep.mono gr.ff _ rv⟩
        · trivial
  · rw [no i s e1] at o1
    cases o1
def UB (K : PySem.W.Frag) (g : TG) (u : D → Option (List D)) (nt : Nat) : Prop := ∀ (d : D) (ts : List D) (v : V) (σf : St) (ts0 : List (Option V)) (F H : Hp) (Q : St → Hp → Prop), Same F H → u d = some ts → Rep K F d v → ts0.length = nt →
  (∀ vs, Reps K F ts vs → vs.length = nt → Q (vs.map some ++ σf) H) → g v (ts0 ++ σf) H Q
def u1 (d : D) : Option (List D) := some [d]
theorem ub_name {K : PySem.W.Frag} : UB K (gName 0) u1 1 := fun d ts v σf ts0 F H Q s e r hl h => by
  cases e
  obtain ⟨t, rfl⟩ : ∃ t, ts0 = [t] := by
    match ts0, hl with
    | [t], _ => exact ⟨t, rfl⟩
  exact h [v] ⟨v, [], rfl, r, rfl⟩ rfl
structure DIfs (X : Cx) (E : XK) (ifs : List Expr) (g : GT) : Prop where
  h : PIfs X ifs (DTT X.K E g)
def gYes : GT := fun _ _ Q => Q true
theorem difs_nil {X : Cx} {E : XK} : DIfs X E [] gYes := ⟨fun pins s σ H Q I zw33 => el9 zw33 fun F env Ex Qd sm sl ex q fin => pifs_nil pins s σ H Q I (fin true F H q (Grow.refl sm))⟩
theorem difs_one {X : Cx} {E : XK} {c : Expr} {g : GT} (h : DT X E c g) : DIfs X E [c] g := ⟨pifs_one h.h⟩
def gComp (gi : GA) (fv : List Nat) (u : D → Option (List D)) (gt : GT) (ge : GE) : GA := fun env Ex Q => gi env Ex fun ds => ds.length ≤ sizeLine ∧ ∃ (pr : D → Bool) (f : D → D),
  (∀ d ∈ ds, ∃ ts, u d = some ts ∧ gt (ts.map DS.sh ++ fv.map (slotV env)) (fun _ => False) fun b => b = pr d ∧ (b = true → ge (ts.map DS.sh ++ fv.map (slotV env)) (fun _ => False) fun y => y = f d)) ∧ Q ((ds.filter pr).map f)
def gCompM (gi : GA) (fv : List Nat) (u : D → Option (List D)) (ge : GE) : GA := fun env Ex Q => gi env Ex fun ds => ds.length ≤ sizeLine ∧ ∃ f : D → D, (∀ d ∈ ds, ∃ ts, u d = some ts ∧ ge (ts.map DS.sh ++ fv.map (slotV env)) (fun _ => False) fun y => y = f d) ∧ Q (ds.map f)
theorem Grow.off {F H F' H' : Hp} {a : Addr} {o : HO} (g : Grow F H F' H') (f : F a = none) (h : H a = some o) (nt : ∀ xs, o ≠ .tup xs := by intro xs z; cases z) : F' a = none := by
  cases q : F' a with
  | none => rfl
  | some _ =>
    rcases g.new a f (by rw [q]; exact fun z => nomatch z) with z | ⟨xs, z⟩
    · rw [z] at h
      cases h
    · rw [z] at h
      cases h
      exact absurd rfl (nt xs)
theorem take_next {ds : List D} {i : Nat} {d : D} (h : ds[i]? = some d) : ds.take (i + 1) = ds.take i ++ [d] := by
  rw [List.take_succ, h]
  rfl
section
variable {X : Cx} {E : XK} {elt iter target : Expr} {pos : Pos} {ifs : List Expr} {scope : Scope} {cl : List (Str × Addr)} {tn fn : List Str} {fv : List Nat} {gi : GA} {g : TG} {u : D → Option (List D)} {gt : GT} {ge : GE}
theorem comp_step (ub : UB X.K g u tn.length) {σ : St} {H : Hp} {Q : VK} {F : Hp} {env : DEnv} {Qd : List D → Prop} {ds : List D} {J : It} {F1 H1 : Hp} {Dl : Addr} (sl : Slots X.K F H σ env) (fin : FinF X.K F H Qd Q) (hlen : ds.length ≤ sizeLine) (pr : D → Bool) (f : D → D)
    (hf : ∀ d ∈ ds, ∃ ts, u d = some ts ∧ gt (ts.map DS.sh ++ fv.map (slotV env)) (fun _ => False) fun b => b = pr d ∧ (b = true → ge (ts.map DS.sh ++ fv.map (slotV env)) (fun _ => False) fun y => y = f d)) (qd : Qd ((ds.filter pr).map f))
    (g1 : Grow F H F1 H1) (jr : JRep X.K J F1 ds) (hD : H1 Dl = none) : CompGT J (fv.map fun j => (σ[j]?).join) tn.length g (DTT X.K E0 gt) (DTE X.K E0 ge) Q H1 Dl := by
  refine ⟨fun i m H => m = ds.length - i ∧ i ≤ ds.length ∧ ∃ F2 ys, Grow F1 H1 F2 H ∧ F2 Dl = none ∧ H Dl = some (.lst ys) ∧ Reps X.K F2 (((ds.take i).filter pr).map f) ys,
    ⟨ds.length, by simp, Nat.zero_le _, F1, [], Grow.keep g1.sub hD, g1.sub.free hD, upd_same, by rw [List.take_zero]; exact Reps.nil⟩, ?_⟩
  rintro i m H2 ⟨rfl, hi, F2, ys, g2, f2, l2, r2⟩
  obtain ⟨jgo, jstop⟩ := jr F2 H2 g2.ff g2.sub i
  have hys : ys.length ≤ i := by
    rw [r2.length, List.length_map]
    refine Nat.le_trans (List.length_filter_le _ _) ?_
    rw [List.length_take]
    omega
  by_cases hlt : i < ds.length
  · have hd : ds[i]? = some ds[i] := by simp [hlt]
    obtain ⟨go, yl⟩ := jgo ds[i] hd
    refine .inr ⟨go, fun H' => ∃ F2 ys, Grow F1 H1 F2 H' ∧ F2 Dl = none ∧ H' Dl = some (.lst ys) ∧ Reps X.K F2 (((ds.take (i + 1)).filter pr).map f) ys, fun H' n => ⟨ds.length - (i + 1), by omega, rfl, hlt, n⟩, fun x H3 ts0 hts y => ?_⟩
    obtain ⟨F3, g3, r3⟩ := yl x H3 y
    obtain ⟨ts, hu, hgt⟩ := hf ds[i] (List.getElem_mem hlt)
    refine ub ds[i] ts x _ ts0 F3 H3 _ g3.sub hu r3 hts fun vs rvs hvs => ⟨⟨vs.map some, by simp [hvs], rfl⟩, ?_⟩
    have bsl := block_slots fv sl ((g1.trans g2).trans g3) rvs
    refine ⟨F3, _, fun _ => False, _, g3.sub, bsl, fun _ z => z.elim, hgt, fun b F4 H4 q4 g4 => ?_⟩
    obtain ⟨eb, q4⟩ := q4
    have f3 := g3.off f2 l2
    have l3 := g3.hh _ _ l2
    have f4 := g4.off f3 l3
    have l4 := g4.hh _ _ l3
    have hsl := hlen
    cases b with
    | true =>
      rw [if_pos rfl]
      refine ⟨F4, _, fun _ => False, _, g4.sub, bsl.grow g4, fun _ z => z.elim, q4 rfl, fun y v F5 H5 q5 g5 r5 => ?_⟩
      subst q5
      have f5 := g5.off f4 l4
      have l5 := g5.hh _ _ l4
      refine ⟨ys, l5, by omega, F5, ys ++ [v], (((g2.trans g3).trans g4).trans g5).mut f5 hD, f5, upd_same, ?_⟩
      rw [take_next hd, List.filter_append, List.map_append]
      refine (Reps.mono ((g3.ff.trans g4.ff).trans g5.ff) _ r2).append ?_
      rw [List.filter_cons, ← eb, if_pos rfl]
      exact Reps.cons r5 Reps.nil
    | false =>
      rw [if_neg Bool.false_ne_true]
      refine ⟨F4, ys, (g2.trans g3).trans g4, f4, l4, ?_⟩
      rw [take_next hd, List.filter_append, List.map_append, List.filter_cons, ← eb, if_neg Bool.false_ne_true]
      simp only [List.filter_nil, List.map_nil, List.append_nil]
      exact Reps.mono (g3.ff.trans g4.ff) _ r2
  · have e : i = ds.length := by omega
    refine .inl ⟨jstop (by omega), fin _ Dl ys F2 H2 qd (g1.trans g2) f2 (g1.hh.free hD) l2 ?_⟩
    rw [e, List.take_length] at r2
    exact r2
theorem comp_weak (ub : UB X.K g u tn.length) : ∀ σ H Q, DTF X.K E (gComp gi fv u gt ge) σ H Q → tCompT (DTI X.K E gi) fv tn.length g (DTT X.K E0 gt) (DTE X.K E0 ge) σ H Q :=
  fun σ H Q zw34 => el9 zw34 fun F env Ex Qd s sl ex q fin => ⟨F, env, Ex, _, s, sl, ex, q, fun ds J F1 H1 q1 g1 jr => fun Dl hD => by
    obtain ⟨hlen, pr, f, hf, qd⟩ := q1
    exact comp_step ub sl fin hlen pr f hf qd g1 jr hD⟩
theorem comp_weakM (ub : UB X.K g u tn.length) : ∀ σ H Q, DTF X.K E (gCompM gi fv u ge) σ H Q → tCompT (DTI X.K E gi) fv tn.length g (DTT X.K E0 gYes) (DTE X.K E0 ge) σ H Q :=
  fun σ H Q zw35 => el9 zw35 fun F env Ex Qd s sl ex q fin => ⟨F, env, Ex, _, s, sl, ex, q, fun ds J F1 H1 q1 g1 jr => fun Dl hD => by
    obtain ⟨hlen, f, hf, qd⟩ := q1
    refine comp_step ub sl fin hlen (fun _ => true) f (fun d hd => ?_) ?_ g1 jr hD
    · obtain ⟨ts, e, z⟩ := hf d hd
      exact ⟨ts, e, rfl, fun _ => z⟩
    · rw [List.filter_eq_self.mpr (fun _ _ => rfl)]
      exact qd⟩
theorem df_comp (hc : X.calm = true) (hi : DI X E target iter gi) (S : CompOkT X scope cl tn fn fv) (hg : ∀ C fp ps s3 H3, PG (compCx X scope cl (tn ++ fn) C fp ps s3 H3) target g) (ub : UB X.K g u tn.length)
    (ht : ∀ C fp ps s3 H3, DIfs (compCx X scope cl (tn ++ fn) C fp ps s3 H3) E0 ifs gt) (he : ∀ C fp ps s3 H3, DE (compCx X scope cl (tn ++ fn) C fp ps s3 H3) E0 elt ge)
    (hs : ∀ y, foldedSetIterable iter X.env y = pure y := by intro _; rfl) : DF X E (.ListComp elt [⟨target, iter, ifs, 0⟩] scope pos) (gComp gi fv u gt ge) := ⟨PE.weak (pe_compT (tt := DTT X.K E0 gt) (te := DTE X.K E0 ge) hc hi.h S hg (fun C fp ps s3 H3 => (ht C fp ps s3 H3).h) (fun C fp ps s3 H3 => (he C fp ps s3 H3).h) hs) (comp_weak ub)⟩
theorem df_compM (hc : X.calm = true) (hi : DI X E target iter gi) (S : CompOkT X scope cl tn fn fv) (hg : ∀ C fp ps s3 H3, PG (compCx X scope cl (tn ++ fn) C fp ps s3 H3) target g) (ub : UB X.K g u tn.length)
    (he : ∀ C fp ps s3 H3, DE (compCx X scope cl (tn ++ fn) C fp ps s3 H3) E0 elt ge)
    (hs : ∀ y, foldedSetIterable iter X.env y = pure y := by intro _; rfl) : DF X E (.ListComp elt [⟨target, iter, [], 0⟩] scope pos) (gCompM gi fv u ge) := ⟨PE.weak (pe_compT (tt := DTT X.K E0 gYes) (te := DTE X.K E0 ge) hc hi.h S hg (fun _ _ _ _ _ => DIfs.h difs_nil) (fun C fp ps s3 H3 => (he C fp ps s3 H3).h) hs) (comp_weakM ub)⟩
end
end L2
namespace L2
open PySem PySem.Spec PyProof.Rows
section
variable {X : Cx} {E : XK} {pos : Pos} {st : Stmt}
end
def isInt : D → Bool
  | .int _ => true
  | _ => false
def nsc : D → Bool
  | .scr _ => false
  | .kt _ => false
  | .dtt _ _ => false
  | _ => true
def fWhole : DSp := fun ds _ Q => ∃ d, ds = [d] ∧ nsc d = true ∧ Q (.bl (isInt d))
def cellAt (ns : List Int) (k : Int) : Int := if k < (ns.length : Nat) then ns.getD k.toNat 0 else 0
def fCell : DSp := fun ds _ Q => ∃ ns k, ds = [.scr ns, .int k] ∧ 0 ≤ k ∧ Q (.int (cellAt ns k))
def fMix : DSp := fun ds _ Q => ∃ c p m, ds = [.int c, .int p, .int m] ∧ 0 < p ∧ 0 < m ∧ Q (.int (c * 48271 % p % m))
def fLaw : DSp := fun ds _ Q => ∃ ns, ds = [.scr ns] ∧ ns.length ≤ 63 ∧ Q (.bl true)
end L2
namespace L2
open PySem PySem.Spec PyProof.Rows
def at0 (ns : List Int) (k : Int) : Int := ns.getD k.toNat 0
def comp (os ps : List Int) : List Int := os.map fun k => at0 ps k
section
variable {n : Nat} {os ps qs bs : List Int}
end
end L2
namespace L2
open PySem PySem.Spec PyProof.Rows
section
variable {X : Cx}
variable {E : XK} {e : Expr} {p pos : Pos}
end
end L2
namespace L2
open PySem PySem.Spec PyProof.Rows
end L2
namespace L2
open PySem PySem.Spec PyProof.Rows
section
variable {X : Cx} {e : Expr} {te : TE} {lo hi : Option Expr} {tl th ts : TO} {pos p2 : Pos}
end
section
variable {X : Cx}
end
end L2
namespace L2
open PySem PySem.Spec PyProof.Rows
def cutL {α : Type} (xs : List α) (lo hi : Option Int) : List α := (xs.drop (HT.sIx xs.length 0 lo)).take (HT.sIx xs.length xs.length hi - HT.sIx xs.length 0 lo)
theorem cutL_map {α β : Type} (f : α → β) (xs : List α) (lo hi : Option Int) : cutL (xs.map f) lo hi = (cutL xs lo hi).map f := by
  unfold cutL
  rw [List.length_map, List.map_take, List.map_drop]
theorem Reps.take {K : PySem.W.Frag} {F : Hp} : ∀ {ds : List D} {xs : List V} (n : Nat), Reps K F ds xs → Reps K F (ds.take n) (xs.take n)
  | [], _, n, h => by rw [show _ = [] from h]; simp; rfl
  | d :: ds, _, 0, h => rfl
  | d :: ds, _, n + 1, ⟨x, r, e, h, t⟩ => by rw [e]; exact ⟨x, _, rfl, h, Reps.take n t⟩
theorem Reps.drop {K : PySem.W.Frag} {F : Hp} : ∀ {ds : List D} {xs : List V} (n : Nat), Reps K F ds xs → Reps K F (ds.drop n) (xs.drop n)
  | [], _, n, h => by rw [show _ = [] from h]; simp; rfl
  | d :: ds, _, 0, h => h
  | d :: ds, _, n + 1, ⟨x, r, e, h, t⟩ => by rw [e]; exact Reps.drop n t
theorem Reps.cut {K : PySem.W.Frag} {F : Hp} {ds : List D} {xs : List V} (h : Reps K F ds xs) (lo hi : Option Int) : Reps K F (cutL ds lo hi) (cutV xs lo hi) := by
  unfold cutL cutV
  rw [h.length]
  exact (h.drop _).take _
abbrev GP := DEnv → Exs → (Option Int → Prop) → Prop
def DTP (K : PySem.W.Frag) (E : XK) (g : GP) : TO := fun σ H Q => ∃ F env Ex Qd, Same F H ∧ Slots K F H σ env ∧ ExOk E Ex H ∧ g env Ex Qd ∧ ∀ o F' H', Qd o → Grow F H F' H' → Q o H'
structure DP (X : Cx) (E : XK) (e : Option Expr) (g : GP) : Prop where
  h : PO X e (DTP X.K E g)
theorem PO.weak {X : Cx} {e : Option Expr} {t t' : TO} (h : PO X e t) (w : ∀ σ H Q, t' σ H Q → t σ H Q) : PO X e t' := fun pins s σ H Q I q => h pins s σ H Q I (w σ H Q q)
def gpNo : GP := fun _ _ Q => Q none
def gpAt (g : GE) : GP := fun env Ex Q => g env Ex fun d => match d with
  | .int i => Q (some i)
  | _ => False
def hCut (x : D) (lo hi : Option Int) (Q : List D → Prop) : Prop := match x with
  | .lst ds => Q (cutL ds lo hi)
  | .scr ns => Q ((cutL ns lo hi).map D.int)
  | _ => False
def gCut (g : GE) (gl gh : GP) : GA := fun env Ex Q => g env Ex fun x => gl env Ex fun l => gh env Ex fun u => hCut x l u Q
section
variable {X : Cx} {E : XK} {pos p p2 : Pos} {a b c e : Expr} {lo hi : Option Expr} {g : GE} {gl gh gs : GP}
theorem dp_none : DP X E none gpNo := ⟨PO.weak po_none fun σ H Q zw36 => el9 zw36 fun F env Ex Qd s sl ex q fin => fin none F H q (Grow.refl s)⟩
theorem dp_some (h : DE X E e g) : DP X E (some e) (gpAt g) := ⟨PO.weak (po_some h.h) fun σ H Q zw37 => el9 zw37 fun F env Ex Qd s sl ex q fin => ⟨F, env, Ex, _, s, sl, ex, q, fun d v F1 H1 q1 g1 r1 => by
  cases d with
  | int i => exact ⟨i, r1, fin _ F1 H1 q1 g1⟩
  | _ => exact (show False from q1).elim⟩⟩
theorem df_cut (he : DE X E e g) (hl : DP X E lo gl) (hh : DP X E hi gh) : DF X E (.Subscript e (.Slice lo hi none p2) pos) (gCut g gl gh) := ⟨PE.weak (pe_slice sl_list he.h hl.h hh.h) fun σ H Q zw38 => el9 zw38 fun F env Ex Qd s sl ex q fin =>
  ⟨F, env, Ex, _, s, sl, ex, q, fun d v F1 H1 q1 g1 r1 => ⟨F1, env, Ex, _, g1.sub, sl.grow g1, ex.step g1.hh, q1, fun l F2 H2 q2 g2 => ⟨F2, env, Ex, _, g2.sub, (sl.grow g1).grow g2, (ex.step g1.hh).step g2.hh, q2, fun u F3 H3 q3 g3 => by
    have gg := (g1.trans g2).trans g3
    cases d with
    | lst ds =>
      obtain ⟨a, xs, rfl, hF, r⟩ := r1
      have hF3 : F3 a = some (.lst xs) := g3.ff _ _ (g2.ff _ _ hF)
      refine ⟨a, xs, rfl, SqL.of (g3.sub _ _ hF3), fun p hp => fin _ p _ F3 _ q3 (gg.trans (Grow.keep g3.sub hp)) (g3.sub.free hp) (gg.hh.free hp) upd_same ?_⟩
      exact (Reps.mono (g2.ff.trans g3.ff) _ r).cut l u
    | scr ns =>
      obtain ⟨a, rfl, hq⟩ := r1
      have hq3 : SqL X.K H3 a (ns.map V.int) := (g1.sub.trans (g2.hh.trans g3.hh)).seq hq
      refine ⟨a, _, rfl, hq3, fun p hp => fin _ p _ F3 _ q3 (gg.trans (Grow.keep g3.sub hp)) (g3.sub.free hp) (gg.hh.free hp) upd_same ?_⟩
      rw [show cutV (ns.map V.int) l u = (cutL ns l u).map V.int from cutL_map _ _ _ _]
      exact Reps.ints _
    | _ => exact (show False from q3).elim⟩⟩⟩⟩
end
end L2
namespace L2
open PySem PySem.Spec PyProof.Rows
section
variable {prog : Program} {w : World} {A : Around} {E : Value → Shared → Prop} {s : Shared}
end
section
variable {X : Cx} {E : XK} {x : Str} {tpos p pos : Pos} {a b : Expr}
end
end L2
namespace L2
open PySem PySem.Spec PyProof.Rows
abbrev GK := DEnv → Exs → (List (Key × D) → Prop) → Prop
section
variable {X : Cx} {E : XK} {pos p : Pos} {a b c e : Expr} {keys : List (Option Expr)} {values : List Expr} {ga gb : GE} {gr : GK}
end
end L2
namespace L2
open PySem
def bits (f : List Int) : Prop := ∀ b ∈ f, b = 0 ∨ b = 1
inductive Net where
  | sw (b : Int) | node (f : List Int) (u l : Net) (g : List Int)
def Net.D : Net → L2.D
  | .sw b => .int b
  | .node f u l g => .tup [.lst (f.map .int), u.D, l.D, .lst (g.map .int)]
def ln : Nat → Nat
  | 0 => 2
  | j + 1 => 2 * ln j
def Net.Ok : Nat → Net → Prop
  | 0, .sw b => b = 0 ∨ b = 1
  | j + 1, .node f u l g => f.length = ln j ∧ g.length = ln j ∧ bits f ∧ bits g ∧ u.Ok j ∧ l.Ok j
  | _, _ => False
end L2
namespace L2
open PySem
section
variable {m : Nat} {os bs : List Int} {fs ls : List (Option Int)}
end
section
variable {m : Nat} {os f g : List Int}
end
def oD : Option Int → D
  | none => .non
  | some i => .int i
end L2
namespace L2
open PySem PySem.Spec PyProof.Rows
section
variable {X : Cx} {E : XK} {e : Expr} {p pos : Pos}
end
end L2
namespace L2
open PySem PySem.Spec PyProof.Rows
section
variable {X : Cx} {tg : Expr}
end
end L2
namespace L2
open PySem PySem.Spec PyProof.Rows
section
variable {X : Cx} {E : XK} {pos p : Pos} {e : Expr} {es : List Expr} {g : GA} {ge : GE}
end
section
variable {X : Cx} {E : XK} {pos p : Pos} {e : Expr} {g : GE}
end
end L2
namespace HT
open PySem PyProof.Rows
section
open PySem.SeqAt
open PySem.AutoSeq1 (wpAny_loadPart')
open PySem.MeetsSeq PySem.MeetsSeq2 PySem.MeetsSeq3
end
end HT
namespace L2
open PySem PySem.Spec PyProof.Rows
section
variable {X : Cx}
def CDivB (i j : Int) : Prop := 0 < j ∧ j < 2 ^ 64
theorem op_fdivB : OpR X (binaryOp .FloorDiv) (rI CDivB fun i j => .int (i / j)) := opI fun i j _ _ _ _ _ hc q => by
  have h1 : (0 : Int) < j := hc.1
  have h2 : j < 2 ^ 64 := hc.2
  have h3 : j.natAbs.log2 < 9000 := by
    have : j.natAbs.log2 < 64 := (Nat.log2_lt (by omega)).mpr (by omega)
    omega
  exact floordiv_int (by omega) (by rw [Int.fdiv_eq_ediv_of_nonneg i (by omega)]; exact q) (.inl (PyProof.noPylong_of_log2 h3))
end
end L2
namespace L2
open PySem PySem.Spec PyProof.Rows
section
variable {X : Cx} {E : XK} {pos p : Pos} {a b e : Expr} {ga gb : GE}
abbrev hDivB := hIIc CDivB fun i j => .int (i / j)
theorem de_fdivB (ha : DE X E a ga) (hb : DE X E b gb) : DE X E (.BinOp a .FloorDiv b pos) (gOp hDivB ga gb) := de_op op_fdivB (od_iic fun _ _ _ => rfl) ha hb
end
end L2
namespace L2
open PySem PySem.Spec PyProof.Rows
theorem Slots.freeze {K : PySem.W.Frag} {F H : Hp} {σ : St} {env : DEnv} {i : Nat} {ds : List D} {a : Addr} {xs : List V} (sl : Slots K F H σ env) (e : env[i]? = some (.own ds)) (e1 : (σ[i]?).join = some (.ref a)) (f : F a = none) (r : Reps K F ds xs) : Slots K (upd F a (.lst xs)) H σ (env.set i (.sh (.lst ds))) := by
  have ff : Same F (upd F a (.lst xs)) := fun b o z => by rw [upd_ne (ne_of_none z f)]; exact z
  refine ⟨by rw [List.length_set, sl.len], fun j t' q' => ?_, fun j k s1 t1 b z1 z2 o1 o2 h1 h2 => ?_⟩
  · by_cases hj : j = i
    · subst hj
      rw [List.getElem?_set_self (List.getElem?_eq_some_iff.mp e).1] at q'
      cases q'
      rw [e1]
      exact ⟨.ref a, rfl, a, xs, rfl, upd_same, Reps.mono ff _ r⟩
    · rw [List.getElem?_set_ne (Ne.symm hj)] at q'
      have z := sl.ok j t' q'
      exact z.frz f fun ot b hb hba => hj (sl.apart j i t' _ a q' e ot rfl (hba ▸ hb) e1)
  · have back : ∀ {j : Nat} {t' : DS}, (env.set i (.sh (.lst ds)))[j]? = some t' → isOwn t' = true → env[j]? = some t' := fun {j t'} q' ot => by
      by_cases hj : j = i
      · subst hj
        rw [List.getElem?_set_self (List.getElem?_eq_some_iff.mp e).1] at q'
        cases q'
        cases ot
      · rwa [List.getElem?_set_ne (Ne.symm hj)] at q'
    exact sl.apart j k s1 t1 b (back z1 o1) (back z2 o2) o1 o2 h1 h2
def gLend (i : Nat) (g : GT) : GT := fun env Ex Q => match env[i]? with
  | some (.own ds) => g (env.set i (.sh (.lst ds))) Ex Q
  | _ => False
section
variable {X : Cx} {E : XK} {pos p p2 : Pos} {e : Expr} {lo hi : Option Expr} {g : GT} {gl gh : GP}
theorem dt_lend (i : Nat) (h : DT X E e g) : DT X E e (gLend i g) := ⟨PT.weak h.h fun σ H Q zw39 => el9 zw39 fun F env Ex Qd s sl ex q fin => by
  unfold gLend at q
  split at q
  · rename_i ds e0
    obtain ⟨a, xs, e1, f, hl, r⟩ := sl.ok i _ e0
    have s1 : Same (upd F a (.lst xs)) H := fun b o z => by
      by_cases hb : b = a
      · subst hb; rw [upd_same] at z; rw [hl, ← z]
      · rw [upd_ne hb] at z; exact s _ _ z
    exact ⟨upd F a (.lst xs), _, Ex, Qd, s1, sl.freeze e0 e1 f r, ex, q, fun b F' H' p g' => fin b F H' p (Grow.still s g'.hh)⟩
  · exact q.elim⟩
end
end L2
namespace L2
open PySem PySem.Spec PyProof.Rows
section
variable {X : Cx} {E : XK} {pos p : Pos} {e : Expr} {es : List Expr}
end
end L2
namespace L2
open PySem PySem.Spec PyProof.Rows
def rows : Nat → List (List Int)
  | 0 => [[]]
  | n + 1 => (rows n).map (0 :: ·) ++ (rows n).map (1 :: ·)
def okS (n : Nat) (ss : List (Nat × Nat)) : Prop := ∀ s ∈ ss, s.1 < s.2 ∧ s.2 < n
def fLarge : DSp := fun ds _ Q => ∃ ns, ds = [.scr ns] ∧ ∀ b, Q (.bl b)
end L2
namespace L2
open PySem PySem.Spec PyProof.Rows
def cnt (x : Int) (t : List Int) : Nat := (t.filter fun z => decide (z < x)).length
end L2
namespace L2
open PySem PySem.Spec PyProof.Rows
def pre (i : Int) (d : D) : D := match d with
  | .lst r => .lst (.int i :: r)
  | d => d
theorem modN {c : Int} {m : Nat} (k : Nat) (h : 0 < m) : ∃ n : Nat, (k : Int) + c % (m : Nat) = ((n : Nat) : Int) ∧ k ≤ n ∧ n < k + m := by
  have h1 := Int.emod_nonneg c (show ((m : Nat) : Int) ≠ 0 by omega)
  have h2 := Int.emod_lt_of_pos c (show (0 : Int) < (m : Nat) by omega)
  exact ⟨((k : Int) + c % (m : Nat)).toNat, by omega, by omega, by omega⟩
theorem seq_key {t u : GS} {Dd : DEnds} {Ex : Exs} {env : DEnv} (P : DEnv → Prop) (h2 : ∀ e, P e → u Dd Ex e) (h1 : (∀ e, P e → u Dd Ex e) → t { Dd with nx := u Dd Ex } Ex env) : gSeq t u Dd Ex env := h1 h2
theorem mod0 {c : Int} {m : Int} (h : 0 < m) : ∃ a : Nat, c % m = ((a : Nat) : Int) ∧ ((a : Nat) : Int) < m := by
  have h1 := Int.emod_nonneg c (show m ≠ 0 by omega)
  have h2 := Int.emod_lt_of_pos c h
  exact ⟨(c % m).toNat, by omega, by omega⟩
end L2
namespace L2
open PySem PySem.Spec PyProof.Rows
section
variable {P : Program} {w : World} {K : PySem.W.Frag} {mg : Str → Option Value} {base : Heap}
end
section
variable {X : Cx} {E : XK} {pos p : Pos} {es : List Expr}
end
end L2
namespace L2
open PySem PySem.Spec PyProof.Rows
end L2
namespace L2
open PySem PySem.Spec PyProof.Rows
end L2
namespace L2
open PySem PySem.Spec PyProof.Rows
section
variable {X : Cx} {tg : Expr}
end
end L2
namespace L2
open PySem PySem.Spec PyProof.Rows
section
variable {X : Cx} {E : XK} {pos p : Pos} {a b e : Expr} {ga gb g : GE}
end
end L2
namespace L2
open PySem PySem.Spec PyProof.Rows
end L2
namespace L2
open PySem PySem.Spec PyProof.Rows
section
variable {X : Cx}
end
end L2
namespace L2
open PySem PySem.Spec PyProof.Rows
section
variable {X : Cx} {E : XK} {pos p p2 : Pos} {a b e : Expr} {lo hi : Option Expr} {g gb : GE} {gl gh : GP} {keys : List (Option Expr)} {values : List Expr} {gr : GK}
end
end L2
namespace L2
open PySem PySem.Spec PyProof.Rows
end L2
namespace L2
open PySem PySem.Spec PyProof.Rows
section
variable {X : Cx} {elt iter target : Expr} {pos : Pos} {ifs : List Expr} {scope : Scope} {cl : List (Str × Addr)} {x : Str} {tn fn : List Str} {fv : List Nat} {wi : TI} {g : TG} {tt : TT} {te : TE} {pins : List (Addr × Obj)} {σ : St} {H : Hp} {s : Shared}
end
end L2
namespace L2
open PySem PySem.Spec PyProof.Rows
section
variable {X : Cx} {E : XK} {elt iter target : Expr} {pos : Pos} {scope : Scope} {cl : List (Str × Addr)} {x : Str} {tn fn : List Str} {fv : List Nat} {gi : GA} {g : TG} {u : D → Option (List D)} {ge : GE}
end
section
variable {X : Cx} {E : XK} {a b c : Expr} {ga gb gc : GE} {pos : Pos}
theorem chain_w {r r' : R2} {h h' : D → D → (D → Prop) → Prop} (o : OpD X.K r h) (o' : OpD X.K r' h') : ∀ σ H Q, DTE X.K E (gChain h h' ga gb gc) σ H Q → tChain r r' (DTE X.K E ga) (DTE X.K E gb) (DTE X.K E gc) σ H Q :=
  fun σ H Q zw40 => el9 zw40 fun F env Ex Qd s sl ex q fin => ⟨F, env, Ex, _, s, sl, ex, q, fun d v F1 H1 q1 g1 r1 => ⟨F1, env, Ex, _, g1.sub, sl.grow g1, ex.step g1.hh, q1,
    fun d2 v2 F2 H2 q2 g2 r2 => o F2 H2 v v2 d d2 _ _ g2.sub (Rep.mono g2.ff _ r1) r2 q2 fun d3 v3 F3 H3 q3 g3 r3 => by
      cases d3 with
      | bl k =>
        refine ⟨k, r3, ?_⟩
        cases k with
        | true =>
          dsimp only at q3; rw [if_pos rfl] at q3 ⊢
          exact ⟨F3, env, Ex, _, g3.sub, ((sl.grow g1).grow g2).grow g3, ((ex.step g1.hh).step g2.hh).step g3.hh, q3, fun d4 v4 F4 H4 q4 g4 r4 => o' F4 H4 v2 v4 d2 d4 Qd Q g4.sub (Rep.mono (g3.ff.trans g4.ff) _ r2) r4 q4 (fin.step (((g1.trans g2).trans g3).trans g4))⟩
        | false => dsimp only at q3; rw [if_neg Bool.false_ne_true] at q3 ⊢; exact fin _ _ F3 H3 q3 ((g1.trans g2).trans g3) rfl
      | _ => exact (show False from q3).elim⟩⟩
theorem dt_lelt (ha : DE X E a ga) (hb : DE X E b gb) (hc : DE X E c gc) (hm : lastMarks [.LtE, .Lt] [b, c] = false := by rfl) : DT X E (.Compare a [.LtE, .Lt] [b, c] pos) (gTest (gChain hLe hLt ga gb gc)) := ⟨
  PT.weak (pt_chain op_le op_lt ha.h hb.h hc.h hm) fun σ H Q zw41 => el9 zw41 fun F env Ex Qd s sl ex q fin => chain_w (h := hLe) (h' := hLt) (od_ii (g := fun i j => .bl (decide (i ≤ j))) fun _ _ _ => rfl) (od_ii (g := fun i j => .bl (decide (i < j))) fun _ _ _ => rfl) σ H _ ⟨F, env, Ex, _, s, sl, ex, q, fun d v F' H' p g' r => by
    obtain ⟨k, rfl, pk⟩ := bl_of p r
    exact ⟨k, rfl, fin k F' H' pk g'⟩⟩⟩
end
end L2
namespace L2
open PySem PySem.Spec PyProof.Rows
theorem cut_len {α : Type} (xs : List α) (lo hi : Option Int) : (cutL xs lo hi).length ≤ xs.length := by
  unfold cutL
  rw [List.length_take, List.length_drop]
  omega
end L2
namespace L2
open PySem PySem.Spec PyProof.Rows
section
variable {M : Model} {A : Around} {E : Value → Shared → Prop} {s : Shared}
end
section
variable {X : Cx} {E : XK}
end
section
variable {X : Cx} {elt iter target : Expr} {pos : Pos} {ifs : List Expr} {scope : Scope} {cl : List (Str × Addr)} {tn fn : List Str} {fv : List Nat} {wi : TI} {g : TG} {tt : TT} {te : TE} {pins : List (Addr × Obj)} {σ : St} {H : Hp} {s : Shared}
end
end L2
namespace L2
open PySem PySem.Spec PyProof.Rows
section
variable {X : Cx} {E : XK} {elt iter target : Expr} {pos : Pos} {ifs : List Expr} {scope : Scope} {cl : List (Str × Addr)} {tn fn : List Str} {fv : List Nat} {gi : GA} {g : TG} {u : D → Option (List D)} {ge : GE}
end
end L2
namespace L2
open PySem PySem.Spec PyProof.Rows
end L2
namespace L2
open PySem PySem.Spec PyProof.Rows
end L2
namespace L2
open PySem PySem.Spec PyProof.Rows
section
variable {K : PySem.W.Frag} {F : Hp}
end
section
variable {X : Cx} {E : XK} {pos p : Pos} {a b c e : Expr} {ga gb : GE} {rest : List Stmt} {t : GS}
end
end L2
namespace L2
open PySem PySem.Spec PyProof.Rows
section
variable {X : Cx} {E : XK} {pos p : Pos} {a b c e o : Expr} {ga gb : GE} {rest : List Stmt} {t : GS}
end
end L2
namespace L2
open PySem PySem.Spec PyProof.Rows
section
variable {prog : Program} {w : World} {A : Around} {E : Value → Shared → Prop} {s : Shared} {d it : Addr} {es : Array DictEntry} {i ep : Nat}
end
section
variable {X : Cx}
end
end L2
namespace L2
open PySem PySem.Spec PyProof.Rows
section
variable {X : Cx} {E : XK} {pos p : Pos} {e : Expr}
end
end L2
namespace HT
open PySem PyProof.Rows
section
open PySem.SeqAt
open PySem.AutoSeq1 (wpAny_loadPart')
open PySem.MeetsSeq PySem.MeetsSeq2 PySem.MeetsSeq3
end
end HT
namespace L2
open PySem PySem.Spec PyProof.Rows
section
variable {X : Cx}
end
end L2
namespace L2
open PySem PySem.Spec PyProof.Rows
section
variable {X : Cx} {E : XK} {pos : Pos} {a b : Expr} {ga gb : GE}
end
end L2
namespace L2
open PySem PySem.Spec PyProof.Rows
end L2
namespace L2
open PySem PySem.Spec PyProof.Rows
end L2
namespace L2
open PySem PySem.Spec PyProof.Rows
section
variable {os : List (List Int)} {m : Nat}
end
end L2
namespace L2
open PySem PySem.Spec PyProof.Rows
end L2
namespace L2
open PySem PySem.Spec PyProof.Rows
section
variable {os : List (List Int)} {m : Nat}
end
end L2
namespace L2
open PySem PySem.Spec PyProof.Rows
def lays (F H : Hp) (as : List Addr) : Hp := fun b => if b ∈ as then H b else F b
theorem lays_in {F H : Hp} {as : List Addr} {b : Addr} (h : b ∈ as) : lays F H as b = H b := if_pos h
theorem lays_out {F H : Hp} {as : List Addr} {b : Addr} (h : b ∉ as) : lays F H as b = F b := if_neg h
theorem lays_ff {F H : Hp} {as : List Addr} (h : ∀ a ∈ as, F a = none) : Same F (lays F H as) := fun b o e => by
  have hb : b ∉ as := fun m => by rw [h b m] at e; cases e
  rw [lays_out hb]
  exact e
theorem lays_sub {F H : Hp} {as : List Addr} (s : Same F H) : Same (lays F H as) H := fun b o e => by
  by_cases hb : b ∈ as
  · rwa [lays_in hb] at e
  · rw [lays_out hb] at e
    exact s _ _ e
theorem Grow.lays {F0 H0 F H : Hp} {as : List Addr} (g : Grow F0 H0 F H) (h : ∀ a ∈ as, F a = none) (h0 : ∀ a ∈ as, H0 a = none) : Grow F0 H0 (lays F H as) H :=
  ⟨g.hh, g.ff.trans (lays_ff h), lays_sub g.sub, fun b e n => by
    by_cases hb : b ∈ as
    · exact .inl (h0 b hb)
    · rw [lays_out hb] at n
      exact g.new b e n⟩
theorem Slots.offT {K : PySem.W.Frag} {F H : Hp} {σ : St} {env : DEnv} {i j : Nat} {s t : DS} {b : Addr} (sl : Slots K F H σ env) (e : env[i]? = some s) (os : isOwn s = true) (hj : j ≠ i) (q : env[j]? = some t) (ot : isOwn t = true) (hb : has t (σ[j]?).join b) : ¬ has s (σ[i]?).join b := fun z => hj (sl.apart j i t s b q e ot os hb z)
section
variable {X : Cx} {E : XK} {pos p p2 : Pos} {e : Expr} {rest : List Stmt} {t : GS} {g : GE}
end
end L2
namespace L2
open PySem PySem.Spec PyProof.Rows
theorem Slots.chg {K : PySem.W.Frag} {F F' H H' : Hp} {σ : St} {env : DEnv} {i : Nat} {s s' : DS} (sl : Slots K F H σ env) (e : env[i]? = some s) (oth : ∀ (j : Nat) t, j ≠ i → env[j]? = some t → SlotOk K F' H' t (σ[j]?).join)
    (ap : ∀ (j : Nat) t b, j ≠ i → env[j]? = some t → isOwn t = true → has t (σ[j]?).join b → isOwn s' = true → ¬ has s' (σ[i]?).join b) (ok : SlotOk K F' H' s' (σ[i]?).join) : Slots K F' H' σ (env.set i s') := by
  have get : ∀ {j : Nat} {t : DS}, (env.set i s')[j]? = some t → (j = i ∧ t = s') ∨ (j ≠ i ∧ env[j]? = some t) := fun {j t} q => by
    by_cases hj : j = i
    · subst hj
      rw [List.getElem?_set_self (List.getElem?_eq_some_iff.mp e).1] at q
      cases q
      exact .inl ⟨rfl, rfl⟩
    · rw [List.getElem?_set_ne (Ne.symm hj)] at q
      exact .inr ⟨hj, q⟩
  refine ⟨by rw [List.length_set, sl.len], fun j t q => ?_, fun j k s1 t1 b z1 z2 o1 o2 h1 h2 => ?_⟩
  · rcases get q with ⟨rfl, rfl⟩ | ⟨hj, q⟩
    · exact ok
    · exact oth j t hj q
  · rcases get z1 with ⟨rfl, rfl⟩ | ⟨hj, q1⟩
    · rcases get z2 with ⟨rfl, rfl⟩ | ⟨hk, q2⟩
      · rfl
      · exact (ap k t1 b hk q2 o2 h2 o1 h1).elim
    · rcases get z2 with ⟨rfl, rfl⟩ | ⟨hk, q2⟩
      · exact (ap j s1 b hj q1 o1 h1 o2 h2).elim
      · exact sl.apart j k s1 t1 b q1 q2 o1 o2 h1 h2
theorem Fresh.chg {H0 : Hp} {σ : St} {env : DEnv} {i : Nat} {s s' : DS} (fr : Fresh H0 σ env) (e : env[i]? = some s) (h : isOwn s' = true → ∀ b, has s' (σ[i]?).join b → H0 b = none) : Fresh H0 σ (env.set i s') := fun j t b q ot hb => by
  by_cases hj : j = i
  · subst hj
    rw [List.getElem?_set_self (List.getElem?_eq_some_iff.mp e).1] at q
    cases q
    exact h ot b hb
  · rw [List.getElem?_set_ne (Ne.symm hj)] at q
    exact fr j t b q ot hb
section
variable {X : Cx} {E : XK} {pos p p2 : Pos} {e : Expr} {rest : List Stmt} {t : GS} {g ge gk gl : GE}
end
section
variable {P : Program} {w : World} {K : PySem.W.Frag} {mg : Str → Option Value} {base : Heap}
end
section
variable {X : Cx} {E : XK} {pos p : Pos} {e : Expr} {es : List Expr}
end
end L2
namespace L2
open PySem PySem.Spec PyProof.Rows
section
variable {X : Cx} {E : XK} {pos : Pos} {elt iter target : Expr} {scope : Scope} {cl : List (Str × Addr)} {tn fn : List Str} {fv : List Nat} {gi : GA} {g : TG} {u : D → Option (List D)} {gf : GA}
end
section
variable {P : Program} {w : World} {K : PySem.W.Frag} {mg : Str → Option Value} {base : Heap}
end
section
variable {X : Cx} {E : XK} {pos p : Pos} {es : List Expr}
end
end L2
namespace L2
open PySem PySem.Spec PyProof.Rows
section
variable {X : Cx} {E : XK} {pos : Pos} {a b : Expr} {ga gb : GE}
end
end L2
namespace L2
open PySem PySem.Spec PyProof.Rows
section
open PySem.Builtin PySem.Builtin.ObjectAttr PySem.Builtin.Getset_descriptor
variable {prog : Program} {w : World} {A : Around} {E : Value → Shared → Prop} {s : Shared} {K : PySem.W.Frag} {ea C : Addr} {o : Obj}
end
end L2
namespace Tb
open PySem PySem.SetTable
def f5 (m i : Nat) : Nat := (i * 5 + 1) % (m + 1)
def it5 (m : Nat) : Nat → Nat → Nat
  | 0, i => i
  | n + 1, i => it5 m n (f5 m i)
theorem it5_add (m : Nat) : ∀ a b i, it5 m (a + b) i = it5 m b (it5 m a i)
  | 0, b, i => by rw [Nat.zero_add]; rfl
  | a + 1, b, i => by rw [Nat.succ_add]; exact it5_add m a b (f5 m i)
def way (m : Nat) : Nat → Nat → List Nat
  | 0, _ => []
  | n + 1, i => i :: way m n (f5 m i)
theorem way_mem (m : Nat) : ∀ n i j, j ∈ way m n i → ∃ k, k < n ∧ it5 m k i = j
  | 0, _, _, h => by simp [way] at h
  | n + 1, i, j, h => by
    rcases List.mem_cons.mp h with rfl | h
    · exact ⟨0, Nat.succ_pos _, rfl⟩
    · obtain ⟨k, hk, e⟩ := way_mem m n _ j h
      exact ⟨k + 1, Nat.succ_lt_succ hk, e⟩
def okM (m : Nat) : Bool := (List.range (m + 1)).all (fun j => (way m (m + 1) 0).contains j) && it5 m (m + 1) 0 == 0
def Msk (m : Nat) : Prop := m ∈ [7, 15, 31, 63, 127, 255, 511]
theorem okM_all : ([7, 15, 31, 63, 127, 255, 511] : List Nat).all okM = true := by decide +kernel
theorem cyc {m : Nat} (h : Msk m) (i j : Nat) (hi : i ≤ m) (hj : j ≤ m) : ∃ n, n ≤ m ∧ it5 m n i = j := by
  have ok := List.all_eq_true.mp okM_all m h
  unfold okM at ok
  rw [Bool.and_eq_true, beq_iff_eq, List.all_eq_true] at ok
  obtain ⟨all, z⟩ := ok
  obtain ⟨a, ha, ea⟩ := way_mem m _ 0 i (List.contains_iff_mem.mp (all i (List.mem_range.mpr (Nat.lt_succ_of_le hi))))
  obtain ⟨b, hb, eb⟩ := way_mem m _ 0 j (List.contains_iff_mem.mp (all j (List.mem_range.mpr (Nat.lt_succ_of_le hj))))
  by_cases c : a ≤ b
  · refine ⟨b - a, by omega, ?_⟩
    rw [← ea, ← it5_add, Nat.add_sub_cancel' c, eb]
  · refine ⟨m + 1 - a + b, by omega, ?_⟩
    rw [← ea, ← it5_add, show a + (m + 1 - a + b) = (m + 1) + b by omega, it5_add, z, eb]
theorem Msk.le {m : Nat} (h : Msk m) : 7 ≤ m ∧ m ≤ 511 ∧ m % 2 = 1 := by
  unfold Msk at h; simp only [List.mem_cons, List.not_mem_nil, or_false] at h; omega
def lp (m : Nat) : Nat → Nat × Nat → Nat × Nat
  | 0, s => s
  | n + 1, s => lp m n (leap m s.1 s.2)
theorem lp_add (m : Nat) : ∀ a b s, lp m (a + b) s = lp m b (lp m a s)
  | 0, b, s => by rw [Nat.zero_add]; rfl
  | a + 1, b, s => by rw [Nat.succ_add]; exact lp_add m a b _
theorem lp_snd (m : Nat) : ∀ n s, (lp m n s).2 = s.2 / 32 ^ n
  | 0, s => by simp [lp]
  | n + 1, s => by
    show (lp m n (leap m s.1 s.2)).2 = _
    rw [lp_snd m n]
    show s.2 / 32 / 32 ^ n = _
    rw [Nat.div_div_eq_div_mul, Nat.pow_succ, Nat.mul_comm]
theorem lp_zero (m : Nat) : ∀ n i, lp m n (i, 0) = (it5 m n i, 0)
  | 0, i => rfl
  | n + 1, i => by
    show lp m n (leap m i 0) = _
    have : leap m i 0 = (f5 m i, 0) := by simp [leap, f5]
    rw [this]; exact lp_zero m n _
theorem lp_le (m : Nat) : ∀ n s, s.1 ≤ m → (lp m n s).1 ≤ m
  | 0, s, h => h
  | n + 1, s, h => lp_le m n _ (by show (s.1 * 5 + 1 + s.2 / 32) % (m + 1) ≤ m; exact Nat.le_of_lt_succ (Nat.mod_lt _ (Nat.succ_pos _)))
theorem lp_reach {m : Nat} (h : Msk m) (i p j : Nat) (hi : i ≤ m) (hp : p < 2 ^ 64) (hj : j ≤ m) : ∃ n, 1 ≤ n ∧ n ≤ m + 13 ∧ (lp m n (i, p)).1 = j := by
  have e2 : (lp m 13 (i, p)).2 = 0 := by
    rw [lp_snd]
    exact Nat.div_eq_of_lt (Nat.lt_of_lt_of_le hp (by decide))
  obtain ⟨n, hn, e⟩ := cyc h (lp m 13 (i, p)).1 j (lp_le m 13 _ hi) hj
  refine ⟨13 + n, by omega, by omega, ?_⟩
  rw [lp_add, show lp m 13 (i, p) = ((lp m 13 (i, p)).1, 0) from by rw [← e2], lp_zero]
  exact e
def adv (t : SetTable) : Nat → Probe → Probe
  | 0, p => p
  | n + 1, p => adv t n (t.advance p)
theorem adv_add (t : SetTable) : ∀ a b p, adv t (a + b) p = adv t b (adv t a p)
  | 0, b, p => by rw [Nat.zero_add]; rfl
  | a + 1, b, p => by rw [Nat.succ_add]; exact adv_add t a b _
structure Pok (t : SetTable) (p : Probe) : Prop where
  i : p.i ≤ t.mask
  pt : p.perturb < 2 ^ 64
  more : p.more ≤ 9
  dm : p.dummy = none
theorem runEnd_le (m i : Nat) : runEnd m i - i ≤ 9 := by unfold runEnd; split <;> omega
theorem bits_lt (h : Int) : bits h < 2 ^ 64 := by
  unfold bits
  have h1 := Int.emod_nonneg h (show (2 ^ 64 : Int) ≠ 0 by decide)
  have h2 := Int.emod_lt_of_pos h (show (0 : Int) < 2 ^ 64 by decide)
  omega
theorem Pok.start (t : SetTable) (h : Int) : Pok t (t.probeStart h) :=
  ⟨Nat.le_of_lt_succ (Nat.mod_lt _ (Nat.succ_pos _)), bits_lt h, runEnd_le _ _, rfl⟩
theorem Pok.adv {t : SetTable} {p : Probe} (h : Pok t p) : Pok t (t.advance p) := by
  unfold advance
  split
  · exact ⟨h.i, h.pt, by show p.more - 1 ≤ 9; have := h.more; omega, h.dm⟩
  · exact ⟨Nat.le_of_lt_succ (Nat.mod_lt _ (Nat.succ_pos _)), Nat.lt_of_le_of_lt (Nat.div_le_self _ _) h.pt, runEnd_le _ _, h.dm⟩
theorem adv_run (t : SetTable) : ∀ (n : Nat) (p : Probe), p.more = n →
    (adv t (n + 1) p).i = (leap t.mask p.i p.perturb).1 ∧ (adv t (n + 1) p).perturb = (leap t.mask p.i p.perturb).2 ∧ (adv t (n + 1) p).j = (leap t.mask p.i p.perturb).1 ∧ (adv t (n + 1) p).more ≤ 9
  | 0, p, h => by
    have e : t.advance p = { p with j := (leap t.mask p.i p.perturb).1, more := runEnd t.mask (leap t.mask p.i p.perturb).1 - (leap t.mask p.i p.perturb).1, i := (leap t.mask p.i p.perturb).1, perturb := (leap t.mask p.i p.perturb).2 } := by
      unfold advance; rw [if_neg (by omega)]
    show (t.advance p).i = _ ∧ (t.advance p).perturb = _ ∧ (t.advance p).j = _ ∧ (t.advance p).more ≤ 9
    rw [e]
    exact ⟨rfl, rfl, rfl, runEnd_le _ _⟩
  | n + 1, p, h => by
    have e : t.advance p = { p with j := p.j + 1, more := p.more - 1 } := by unfold advance; rw [if_pos (by omega)]
    have e2 : adv t (n + 1 + 1) p = adv t (n + 1) (t.advance p) := rfl
    have := adv_run t n (t.advance p) (by rw [e]; show p.more - 1 = n; omega)
    rw [e2]
    rw [e] at this ⊢
    exact this
theorem adv_lp (t : SetTable) : ∀ (n : Nat) (p : Probe), p.more ≤ 9 → ∃ k, k ≤ 10 * (n + 1) ∧ (adv t k p).j = (lp t.mask (n + 1) (p.i, p.perturb)).1
  | 0, p, h => by
    obtain ⟨_, _, c, _⟩ := adv_run t p.more p rfl
    exact ⟨p.more + 1, by omega, c⟩
  | n + 1, p, h => by
    obtain ⟨a, b, _, d⟩ := adv_run t p.more p rfl
    obtain ⟨k, hk, e⟩ := adv_lp t n (adv t (p.more + 1) p) d
    refine ⟨p.more + 1 + k, by omega, ?_⟩
    rw [adv_add, e, a, b]; rfl
def Emp (t : SetTable) (n : Nat) (p : Probe) : Prop := t.slot (adv t n p).j = .empty
theorem emp_of {t : SetTable} (h : Msk t.mask) {p : Probe} (hp : Pok t p) {j : Nat} (hj : j ≤ t.mask) (he : t.slot j = .empty) : ∃ n, n < 10 * turns t.mask ∧ Emp t n p := by
  obtain ⟨n, n1, n2, e⟩ := lp_reach h p.i p.perturb j hp.i hp.pt hj
  obtain ⟨k, hk, ek⟩ := adv_lp t (n - 1) p hp.more
  refine ⟨k, by unfold turns; omega, ?_⟩
  unfold Emp
  rw [ek, Nat.sub_add_cancel n1, e, he]
theorem slot_nd {t : SetTable} (hd : t.dummies = #[]) (j : Nat) : t.slot j ≠ .dummy := by
  unfold slot
  rw [hd]
  simp only [has]
  split
  · exact fun e => nomatch e
  · simp
theorem slot_live {t : SetTable} {j i : Nat} (h : t.slot j = .live i) : i < t.place.size := by
  unfold slot at h
  dsimp only at h
  split at h
  · rename_i c
    injection h with h
    subst h
    rw [beq_iff_eq] at c
    exact (Array.getElem?_eq_some_iff.mp c).1
  · split at h <;> exact nomatch h
theorem slot_empty {t : SetTable} (hd : t.dummies = #[]) {j : Nat} (h : j ∉ t.place) : t.slot j = .empty := by
  unfold slot
  rw [hd]
  dsimp only
  rw [if_neg (fun c => h (Array.mem_of_getElem? (beq_iff_eq.mp c)))]
  simp [has]
theorem all_in : ∀ (N : Nat) (l : List Nat), (∀ j, j < N → j ∈ l) → N ≤ l.length
  | 0, _, _ => Nat.zero_le _
  | N + 1, l, h => by
    have h1 := h N (Nat.lt_succ_self _)
    have h2 := all_in N (l.erase N) fun j hj => (List.mem_erase_of_ne (by omega)).mpr (h j (by omega))
    rw [List.length_erase_of_mem h1] at h2
    have := List.length_pos_of_mem h1
    omega
theorem has_empty {t : SetTable} (hd : t.dummies = #[]) (hs : t.place.size ≤ t.mask) : ∃ j, j ≤ t.mask ∧ t.slot j = .empty := by
  by_cases h : ∀ j, j < t.mask + 1 → j ∈ t.place.toList
  · have := all_in _ _ h
    rw [Array.length_toList] at this
    omega
  · obtain ⟨j, hj⟩ := Classical.not_forall.mp h
    obtain ⟨h1, h2⟩ := Classical.not_imp.mp hj
    exact ⟨j, by omega, slot_empty hd fun c => h2 (Array.mem_toList_iff.mpr c)⟩
inductive Meets (t : SetTable) (n : Nat) : Option Met → Prop
  | emp {j : Nat} : t.slot j = .empty → Meets t n (some (.empty j none))
  | cand {j i n' : Nat} {next : Probe} : t.slot j = .live i → n' < n → Emp t n' next → Pok t next → Meets t n (some (.candidate j i next))
theorem Meets.mono {t : SetTable} {n m : Nat} {r : Option Met} (x : Meets t n r) (c : n ≤ m) : Meets t m r := by
  cases x with
  | emp a => exact .emp a
  | cand a d e f => exact .cand a (Nat.lt_of_lt_of_le d c) e f
theorem Meets.some {t : SetTable} {n : Nat} {r : Option Met} (x : Meets t n r) : ∃ met, r = some met := by
  cases x <;> exact ⟨_, rfl⟩
theorem go_meets {t : SetTable} (hd : t.dummies = #[]) (hashAt : Nat → Int) (h : Int) : ∀ (n fuel : Nat) (p : Probe), Pok t p → Emp t n p → n < fuel → Meets t n (probe.go t hashAt h fuel p)
  | 0, fuel + 1, p, hp, he, _ => by
    have he' : t.slot p.j = .empty := he
    unfold probe.go
    rw [he']
    dsimp only
    rw [hp.dm]
    exact .emp he'
  | n + 1, fuel + 1, p, hp, he, hf => by
    unfold probe.go
    cases c : t.slot p.j with
    | empty => dsimp only; rw [hp.dm]; exact .emp c
    | dummy => exact absurd c (slot_nd hd _)
    | live i =>
      dsimp only
      split
      · exact .cand c (Nat.lt_succ_self n) he hp.adv
      · exact (go_meets hd hashAt h n fuel (t.advance p) hp.adv he (by omega)).mono (Nat.le_succ n)
def cnt (o : Array (Option Nat)) (N : Nat) : Nat := ((List.range N).filter fun j => (o.getD j none).isSome).length
theorem filt_set (P P' : Nat → Bool) (j0 : Nat) (h0 : P j0 = false) (h1 : P' j0 = true) (hs : ∀ j, j ≠ j0 → P' j = P j) :
    ∀ N, ((List.range N).filter P').length = ((List.range N).filter P).length + if j0 < N then 1 else 0
  | 0 => by simp
  | N + 1 => by
    have ih := filt_set P P' j0 h0 h1 hs N
    rw [List.range_succ, List.filter_append, List.filter_append, List.length_append, List.length_append, ih]
    by_cases c : N = j0
    · subst c
      simp [h0, h1]
    · rw [show ([N].filter P') = [N].filter P from by simp [List.filter_cons, hs N c]]
      by_cases d : j0 < N
      · rw [if_pos d, if_pos (by omega)]; omega
      · rw [if_neg d, if_neg (by omega)]; omega
theorem cnt_free {o : Array (Option Nat)} {N : Nat} (h : cnt o N < N) : ∃ j, j < N ∧ o.getD j none = none := by
  by_cases c : ∀ j, j < N → (o.getD j none).isSome = true
  · have : (List.range N).filter (fun j => (o.getD j none).isSome) = List.range N := List.filter_eq_self.mpr fun j hj => c j (List.mem_range.mp hj)
    unfold cnt at h
    rw [this, List.length_range] at h
    omega
  · obtain ⟨j, hj⟩ := Classical.not_forall.mp c
    obtain ⟨h1, h2⟩ := Classical.not_imp.mp hj
    refine ⟨j, h1, ?_⟩
    cases q : o.getD j none with
    | none => rfl
    | some v => rw [q] at h2; exact absurd rfl h2
theorem free_ok (m : Nat) (o : Array (Option Nat)) : ∀ (n fuel i p : Nat), (o.getD (lp m n (i, p)).1 (some 0)).isNone = true → n < fuel → ∃ j, layClean.free m o fuel i p = some j ∧ (o.getD j (some 0)).isNone = true
  | n, fuel + 1, i, p, h, hf => by
    unfold layClean.free
    cases c : (List.range (runEnd m i + 1 - i)).find? fun k => (o.getD (i + k) (some 0)).isNone with
    | some k => exact ⟨i + k, rfl, List.find?_some (p := fun k => (o.getD (i + k) (some 0)).isNone) c⟩
    | none =>
      dsimp only
      cases n with
      | zero =>
        have h0 : 0 ∈ List.range (runEnd m i + 1 - i) := List.mem_range.mpr (by unfold runEnd; split <;> omega)
        have := List.find?_eq_none.mp c 0 h0
        exact absurd h this
      | succ n => exact free_ok m o n fuel _ _ h (by omega)
structure Lay (m : Nat) (o : Array (Option Nat)) (k : Nat) : Prop where
  size : o.size = m + 1
  cnt : cnt o (m + 1) = k
  lt : ∀ j v, o.getD j none = some v → v < k
theorem Lay.nil (m : Nat) : Lay m (Array.replicate (m + 1) none) 0 := by
  refine ⟨by simp, ?_, fun j v h => ?_⟩
  · unfold Tb.cnt
    rw [List.filter_eq_nil_iff.mpr]
    · rfl
    · intro j hj
      simp [Array.getD_eq_getD_getElem?, Array.getElem?_replicate]
      split <;> simp
  · simp [Array.getD_eq_getD_getElem?, Array.getElem?_replicate] at h
    split at h <;> simp at h
theorem Lay.step {m : Nat} (hm : Msk m) {o : Array (Option Nat)} {k : Nat} (L : Lay m o k) (hk : k < m + 1) (h : Int) :
    ∃ j, layClean.free m o (turns m) (bits h % (m + 1)) (bits h) = some j ∧ Lay m (o.setIfInBounds j (some k)) (k + 1) := by
  obtain ⟨j0, h1, h2⟩ := cnt_free (N := m + 1) (by rw [L.cnt]; exact hk)
  obtain ⟨n, n1, n2, e⟩ := lp_reach hm (bits h % (m + 1)) (bits h) j0 (Nat.le_of_lt_succ (Nat.mod_lt _ (Nat.succ_pos _))) (bits_lt h) (by omega)
  have hn : (o.getD j0 (some 0)).isNone = true := by
    have hs : j0 < o.size := by rw [L.size]; exact h1
    rw [Array.getD_eq_getD_getElem?, Array.getElem?_eq_getElem hs] at h2 ⊢
    simp at h2 ⊢; exact h2
  obtain ⟨j, f1, f2⟩ := free_ok m o n (turns m) _ _ (by rw [e]; exact hn) (by unfold turns; omega)
  have hj : j < o.size := by
    rcases Nat.lt_or_ge j o.size with c | c
    · exact c
    · rw [Array.getD_eq_getD_getElem?, Array.getElem?_eq_none c] at f2; simp at f2
  have hjn : o.getD j none = none := by
    rw [Array.getD_eq_getD_getElem?, Array.getElem?_eq_getElem hj] at f2 ⊢
    simp at f2 ⊢; exact f2
  have other : ∀ i, i ≠ j → (o.setIfInBounds j (some k)).getD i none = o.getD i none := fun i hi => by
    rw [Array.getD_eq_getD_getElem?, Array.getD_eq_getD_getElem?, Array.getElem?_setIfInBounds_ne (Ne.symm hi)]
  have self : (o.setIfInBounds j (some k)).getD j none = some k := by
    rw [Array.getD_eq_getD_getElem?, Array.getElem?_setIfInBounds_self_of_lt hj]; rfl
  refine ⟨j, f1, by rw [Array.size_setIfInBounds]; exact L.size, ?_, fun i v hv => ?_⟩
  · have := filt_set (fun i => (o.getD i none).isSome) (fun i => ((o.setIfInBounds j (some k)).getD i none).isSome) j (by rw [hjn]; rfl) (by rw [self]; rfl) (fun i hi => by rw [other i hi]) (m + 1)
    unfold Tb.cnt
    rw [this, if_pos (by rw [← L.size]; exact hj)]
    exact congrArg (· + 1) L.cnt
  · by_cases c : i = j
    · subst c; rw [self] at hv; injection hv with hv; omega
    · rw [other i c] at hv; exact Nat.lt_succ_of_lt (L.lt i v hv)
theorem lay_go {m : Nat} (hm : Msk m) : ∀ (hs : List Int) (o : Array (Option Nat)) (k : Nat), Lay m o k → k + hs.length ≤ m + 1 →
    ∃ o', hs.foldl (fun acc h => acc.bind fun p => (layClean.free m p.1 (turns m) (bits h % (m + 1)) (bits h)).bind fun j => some (p.1.setIfInBounds j (some p.2), p.2 + 1)) (some (o, k)) = some (o', k + hs.length) ∧ Lay m o' (k + hs.length)
  | [], o, k, L, _ => ⟨o, rfl, L⟩
  | h :: hs, o, k, L, hb => by
    rw [List.length_cons] at hb
    obtain ⟨j, e, L'⟩ := L.step hm (by omega) h
    obtain ⟨o', e', L''⟩ := lay_go hm hs _ _ L' (by omega)
    refine ⟨o', ?_, by rw [List.length_cons, show k + (hs.length + 1) = k + 1 + hs.length by omega]; exact L''⟩
    rw [List.foldl_cons]
    show List.foldl _ ((layClean.free m o (turns m) (bits h % (m + 1)) (bits h)).bind _) hs = _
    rw [e]
    rw [List.length_cons, show k + (hs.length + 1) = k + 1 + hs.length by omega]
    exact e'
theorem layClean_ok {m : Nat} (hm : Msk m) (hs : Array Int) (hb : hs.size ≤ m + 1) : ∃ o, layClean m hs = some o ∧ Lay m o hs.size := by
  obtain ⟨o, e, L⟩ := lay_go hm hs.toList _ 0 (Lay.nil m) (by rw [Array.length_toList]; omega)
  rw [Nat.zero_add, Array.length_toList] at L e
  refine ⟨o, ?_, L⟩
  unfold layClean
  rw [← Array.foldl_toList]
  exact congrArg (Option.map (·.1)) e
theorem laid_ok {m : Nat} (hm : Msk m) (hs : Array Int) (hb : hs.size ≤ m) (fg mv : Nat) (led pl : Bool) :
    ∃ t od, laid m fg mv led pl hs = some (t, od) ∧ t.mask = m ∧ t.dummies = #[] ∧ t.place.size = hs.size ∧ od.size = hs.size ∧ ∀ k ∈ od, k < hs.size := by
  obtain ⟨o, e, L⟩ := layClean_ok hm hs (by omega)
  have hl : ((List.range (m + 1)).filterMap fun j => (o.getD j none).map (j, ·)).length = hs.size := by
    rw [List.length_filterMap_eq_countP, List.countP_eq_length_filter, ← L.cnt]
    unfold Tb.cnt
    congr 1
    refine List.filter_congr fun j _ => ?_
    rw [Option.isSome_map]
  refine ⟨_, _, by unfold laid; rw [e]; rfl, rfl, rfl, ?_, ?_, ?_⟩
  · simp only [List.size_toArray, List.length_map]; exact hl
  · simp only [List.size_toArray, List.length_map]; exact hl
  · intro k hk
    obtain ⟨x, hx, rfl⟩ := List.mem_map.mp (List.mem_toArray.mp hk)
    obtain ⟨j, _, hj⟩ := List.mem_filterMap.mp hx
    cases q : o.getD j none with
    | none => rw [q] at hj; exact nomatch hj
    | some v => rw [q] at hj; injection hj with hj; subst hj; exact L.lt j v q
theorem size_msk : ∀ n, n ≤ 126 → Msk (sizeAbove (grown n) - 1) ∧ n ≤ sizeAbove (grown n) - 1 ∧ (n * 5 < (sizeAbove (grown n) - 1) * 3) ∧ ¬ sizeAbove (grown n) > 512 := by
  have h : (List.range 127).all (fun n => [7, 15, 31, 63, 127, 255, 511].contains (sizeAbove (grown n) - 1) && decide (n ≤ sizeAbove (grown n) - 1) && decide (n * 5 < (sizeAbove (grown n) - 1) * 3) && !decide (sizeAbove (grown n) > 512)) = true := by decide +kernel
  intro n hn
  have := List.all_eq_true.mp h n (List.mem_range.mpr (by omega))
  simp only [Bool.and_eq_true, decide_eq_true_eq, Bool.not_eq_true', decide_eq_false_iff_not] at this
  exact ⟨List.contains_iff_mem.mp this.1.1.1, this.1.1.2, this.1.2, this.2⟩
theorem insertAt_size {α : Type} (xs : Array α) (p : Nat) (x : α) : (insertAt xs p x).size = xs.size + 1 := by
  rw [← Array.length_toList]
  simp [insertAt, List.extract_eq_take_drop, List.take_of_length_le]
  omega
theorem insertAt_mem {α : Type} (xs : Array α) (p : Nat) (x y : α) (h : y ∈ insertAt xs p x) : y = x ∨ y ∈ xs := by
  rw [← Array.mem_toList_iff] at h
  simp [insertAt, List.extract_eq_take_drop, List.take_of_length_le] at h
  rcases h with h | rfl | h
  · exact .inr (Array.mem_toList_iff.mp (List.mem_of_mem_take h))
  · exact .inl rfl
  · exact .inr (Array.mem_toList_iff.mp (List.mem_of_mem_drop h))
end Tb
namespace L2
open PySem PySem.Spec PyProof.Rows
section
variable {prog : Program} {w : World} {A : Around} {E : Value → Shared → Prop} {s : Shared}
abbrev tkd (prog : Program) (w : World) := tupleKind (mixKind prog w)
theorem key_byVal {k : Key} {v : Value} (h : keyIs k v = true) (n : Nat) : (∃ b, hashByValue n v = pure b) ∧ ofAClassStatement n v = pure false := by
  rcases keyIs_shape h with ⟨i, t, rfl, rfl⟩ | ⟨x, t, rfl, rfl⟩
  · exact ⟨⟨true, by cases n <;> rfl⟩, by cases n <;> rfl⟩
  · exact ⟨⟨false, by cases n <;> rfl⟩, by cases n <;> rfl⟩
theorem items_byVal {ks : List Key} {vs : List Value} (h : ItemsAre (mixKind prog w) ks vs) : ∀ v ∈ vs, ∃ k, keyIs k v = true := by
  induction h with
  | nil => intro v hv; simp at hv
  | cons h1 _ ih =>
    intro v hv
    rcases List.mem_cons.mp hv with rfl | hv
    · exact ⟨_, h1⟩
    · exact ih v hv
theorem wp_class {ks : List Key} {a : Addr} {Q : Bool → Shared → Prop} (hk : IsTupleKey (mixKind prog w) s.heap ks a) (h : Q false s) : wpAny (model prog w) A (ofAClassStatement 8 (.ref a)) Q E s := by
  have hT := hk.typeIs
  obtain ⟨o, items, n, ho, hc, hd, hi⟩ := hk
  unfold ofAClassStatement
  refine wpAny_bind (wpAny_typeOf hT ?_)
  dsimp only
  rw [if_pos (by decide)]
  refine wpAny_bind (wpAny_pure ?_)
  simp only [Bool.not_true, Bool.false_eq_true, if_false]
  refine wpAny_bind (wpAny_seqItems ho hd ?_)
  dsimp only
  refine wpAny_bind ?_
  rw [← Array.forIn_toList]
  refine wpAny_forIn_list _ (fun rest r s' => r.1 = none ∧ s' = s ∧ ∀ v ∈ rest, ∃ k, keyIs k v = true) _ ?_ ?_ _ _ ⟨rfl, rfl, items_byVal hi⟩
  · rintro v rest r s' ⟨hr, rfl, hall⟩
    obtain ⟨k, hk⟩ := hall v List.mem_cons_self
    rw [(key_byVal hk _).2]
    refine wpAny_bind (wpAny_pure ?_)
    simp only [Bool.false_eq_true, if_false]
    exact wpAny_pure ⟨rfl, rfl, fun u hu' => hall u (List.mem_cons_of_mem _ hu')⟩
  · rintro ⟨r1, r2⟩ s' ⟨hr, rfl, _⟩
    simp only at hr
    subst hr
    exact wpAny_pure h
theorem wp_byVal {ks : List Key} {a : Addr} {Q : Bool → Shared → Prop} (hk : IsTupleKey (mixKind prog w) s.heap ks a) (h : ∀ b, Q b s) : wpAny (model prog w) A (hashByValue 8 (.ref a)) Q E s := by
  have hT := hk.typeIs
  obtain ⟨o, items, n, ho, hc, hd, hi⟩ := hk
  unfold hashByValue
  refine wpAny_bind (wpAny_specialOf hT F.slot_tuple_hash.lookup ?_)
  dsimp only
  refine wpAny_bind (wpAny_seqItems ho hd ?_)
  dsimp only [Option.getD]
  refine wpAny_bind ?_
  rw [← Array.forIn_toList]
  refine wpAny_forIn_list _ (fun rest r s' => r.1 = none ∧ s' = s ∧ ∀ v ∈ rest, ∃ k, keyIs k v = true) _ ?_ ?_ _ _ ⟨rfl, rfl, items_byVal hi⟩
  · rintro v rest r s' ⟨hr, rfl, hall⟩
    obtain ⟨k, hk⟩ := hall v List.mem_cons_self
    obtain ⟨b, e⟩ := (key_byVal hk 7).1
    rw [e]
    refine wpAny_bind (wpAny_pure ?_)
    cases b
    · exact wpAny_pure (wpAny_pure (h _))
    · exact wpAny_pure ⟨rfl, rfl, fun u hu' => hall u (List.mem_cons_of_mem _ hu')⟩
  · rintro ⟨r1, r2⟩ s' ⟨hr, rfl, _⟩
    simp only at hr
    subst hr
    exact wpAny_pure (h _)
theorem wp_seen {ks : List Key} {a : Addr} {Q : Bool → Shared → Prop} (hk : IsTupleKey (mixKind prog w) s.heap ks a) (ys : List Value) (hy : ∀ y ∈ ys, ∃ k b, y = .ref b ∧ IsTupleKey (mixKind prog w) s.heap k b) (h : Q false s) :
    wpAny (model prog w) A (searchCouldBeSeen (.ref a) ys) Q E s := by
  unfold searchCouldBeSeen
  refine wpAny_bind ?_
  refine wpAny_forIn_list _ (fun rest r s' => r.1 = none ∧ s' = s ∧ ∀ y ∈ rest, ∃ k b, y = .ref b ∧ IsTupleKey (mixKind prog w) s.heap k b) _ ?_ ?_ _ _ ⟨rfl, rfl, hy⟩
  · rintro v rest r s' ⟨hr, rfl, hall⟩
    obtain ⟨k, b, rfl, hb⟩ := hall v List.mem_cons_self
    dsimp only
    split
    · exact wpAny_pure ⟨rfl, rfl, fun u hu' => hall u (List.mem_cons_of_mem _ hu')⟩
    · refine wpAny_bind (wpAny_eqIsQuiet_tuple hk ?_)
      simp only [Bool.not_true, Bool.false_eq_true, if_false]
      refine wpAny_bind (wpAny_eqIsQuiet_tuple hb ?_)
      simp only [Bool.not_true, Bool.false_eq_true, if_false]
      refine wpAny_bind (wp_class hk ?_)
      simp only [Bool.false_eq_true, if_false]
      refine wpAny_bind (wp_class hb ?_)
      simp only [Bool.false_eq_true, if_false]
      exact wpAny_pure ⟨rfl, rfl, fun u hu' => hall u (List.mem_cons_of_mem _ hu')⟩
  · rintro ⟨r1, r2⟩ s' ⟨hr, rfl, _⟩
    simp only at hr
    subst hr
    exact wpAny_pure h
structure SetAt (prog : Program) (w : World) (h : Heap) (a : Addr) (S : List Key → Prop) (n : Nat) (o : Obj) (es : Array (Int × Value)) (ep : Nat) (t : SetTable) : Prop where
  get : h.get? a = some o
  ex : o.ExactSet
  dat : o.data = .set es ep t
  el : ∀ e ∈ es, ∃ k b, S k ∧ e = ((tkd prog w).hash k, Value.ref b) ∧ IsTupleKey (mixKind prog w) h k b
  size : es.size = n
  pl : t.place.size = n
  dm : t.dummies = #[]
  msk : Tb.Msk t.mask
  few : n * 5 < t.mask * 3
def SetH (prog : Program) (w : World) (h : Heap) (a : Addr) (S : List Key → Prop) (n : Nat) : Prop := ∃ o es ep t, SetAt prog w h a S n o es ep t
theorem SetAt.fits {h : Heap} {a : Addr} {S : List Key → Prop} {n : Nat} {o : Obj} {es : Array (Int × Value)} {ep : Nat} {t : SetTable} (X : SetAt prog w h a S n o es ep t) : t.fits es.size = true := by
  unfold SetTable.fits SetTable.fill
  rw [X.pl, X.size, X.dm]
  have := X.few
  simp
  omega
theorem wp_search {a x : Addr} {k : List Key} {S : List Key → Prop} {n : Nat} {o : Obj} {es : Array (Int × Value)} {ep : Nat} {t : SetTable} (hu : A.units < cLine) (X : SetAt prog w s.heap a S n o es ep t)
    (hk : IsTupleKey (mixKind prog w) s.heap k x) (hn : ¬ S k) (hs : Int) {Q : SetFound → Shared → Prop} (h : ∀ j, t.slot j = .empty → Q (.free j false) s) :
    ∀ (fuel m : Nat) (st : Option SetTable.Probe), Tb.Emp t m (st.getD (t.probeStart hs)) → Tb.Pok t (st.getD (t.probeStart hs)) → m < fuel → m < 10 * SetTable.turns t.mask →
      wpAny (model prog w) A (setSearchFrom a (.ref x) hs true fuel st) Q E s := by
  intro fuel
  induction fuel with
  | zero => intro m st _ _ c; omega
  | succ fuel ih =>
    intro m st he hp hf ht
    have hm : ∀ f, Tb.Meets t m (t.probe f hs (st.getD (t.probeStart hs))) := fun f => Tb.go_meets X.dm f hs m _ _ hp he ht
    unfold setSearchFrom
    refine wpAny_bind (wpAny_setState_of X.get X.dat X.fits ?_)
    dsimp only
    rw [if_neg (by have := X.msk.le.2.2; unfold SetTable.gaveWay; rw [this]; decide)]
    split
    · rename_i met heq
      have q : Tb.Meets t m (some met) := by rw [← heq]; exact hm _
      clear heq
      cases q with
      | emp hj => exact wpAny_pure (h _ hj)
      | @cand j i n' next hj lt he' hp' =>
        have hi : i < es.size := by rw [X.size, ← X.pl]; exact Tb.slot_live hj
        obtain ⟨k', b, sk, e, hb⟩ := X.el _ (Array.getElem_mem hi)
        have hes : es[i]? = some ((tkd prog w).hash k', Value.ref b) := by rw [Array.getElem?_eq_getElem hi, e]
        have ne : ¬ k' = k := fun c => hn (c ▸ sk)
        dsimp only
        rw [hes]
        dsimp only
        split
        case' isTrue =>
          refine wpAny_bind (wp_seen hk _ (fun y hy => ?_) ?_)
          · obtain ⟨e, he, rfl⟩ := List.mem_map.mp hy
            rw [Array.toList_filter] at he
            obtain ⟨k2, b2, _, e2, hb2⟩ := X.el e (Array.mem_toList_iff.mp (List.mem_filter.mp he).1)
            exact ⟨k2, b2, by rw [e2], hb2⟩
          rw [if_neg (by decide)]
        all_goals
          refine wpAny_bind (wpAny_holding (wpAny_eqBool_tuple hu hb hk ?_))
          rw [decide_eq_false ne]
          refine wpAny_bind (wpAny_setState_of X.get X.dat X.fits ?_)
          dsimp only
          rw [if_neg (by decide), show t.sameMemory t.moves t.mask = some true from by unfold SetTable.sameMemory; rw [if_pos (beq_self_eq_true _)]]
          dsimp only
          rw [if_pos rfl, hj]
          dsimp only
          rw [hes]
          dsimp only
          refine wpAny_bind (wpAny_isSame_ref_self (wpAny_bind (wpAny_pure ?_)))
          rw [if_pos rfl]
          dsimp only
          rw [if_neg (by decide)]
          exact ih n' (some next) he' hp' (by omega) (by omega)
    · rename_i hx
      obtain ⟨met, e⟩ := (hm _).some
      exact (hx met e).elim
theorem tkey_keeps {h h' : Heap} {ks : List Key} {b a : Addr} {o : Obj} {es ep t} (x : IsTupleKey (mixKind prog w) h ks b) (ho : h.get? a = some o) (hd : o.data = .set es ep t) (hs : Heap.SameBut a h h') : IsTupleKey (mixKind prog w) h' ks b := by
  obtain ⟨o', items, n, ho', hc, hd', hi⟩ := x
  have hne : b ≠ a := by
    rintro rfl
    obtain rfl : o' = o := Option.some.inj (ho'.symm.trans ho)
    rw [hd] at hd'; exact nomatch hd'
  exact ⟨o', items, n, (hs.2 b hne).trans ho', hc, hd', hi⟩
theorem wp_relay {a : Addr} {S : List Key → Prop} {n : Nat} {o : Obj} {es : Array (Int × Value)} {ep : Nat} {t : SetTable} (hg : s.heap.get? a = some o) (hex : o.ExactSet) (hd : o.data = .set es ep t) (hf : t.fits es.size = true)
    (hel : ∀ e ∈ es, ∃ k b, S k ∧ e = ((tkd prog w).hash k, Value.ref b) ∧ IsTupleKey (mixKind prog w) s.heap k b) (hsz : es.size = n) (hb : n ≤ 126) {Q : Unit → Shared → Prop}
    (h : ∀ h', Heap.SameBut a s.heap h' → SetH prog w h' a S n → Q () { s with heap := h' }) : wpAny (model prog w) A (setRelay a (SetTable.grown n)) Q E s := by
  obtain ⟨m1, m2, m3, m4⟩ := Tb.size_msk n hb
  obtain ⟨t3, od, e3, k1, k2, k3, k4, k5⟩ := Tb.laid_ok m1 (es.map (·.1)) (by rw [Array.size_map, hsz]; exact m2) t.finger (t.movedTo (SetTable.sizeAbove (SetTable.grown n) - 1)) t.led t.plain
  rw [Array.size_map, hsz] at k3 k4 k5
  unfold setRelay
  refine wpAny_bind (wpAny_setState_of hg hd hf ?_)
  dsimp only
  rw [if_neg (by rw [sizeLine_eq]; omega)]
  have er : t.relaid (es.map (·.1)) (SetTable.grown n) = some (t3, od) := e3
  have hz : (od.filterMap (es[·]?)).size = n := by
    rw [← Array.length_toList, Array.toList_filterMap, List.length_filterMap_eq_countP, List.countP_eq_length.mpr, Array.length_toList, k4]
    intro k hk
    have := k5 k (Array.mem_toList_iff.mp hk)
    rw [Array.getElem?_eq_getElem (by omega)]
    rfl
  rw [er]
  refine wpAny_bind ?_
  show wpAny _ _ (if ((od.filterMap (es[·]?)).size != es.size) = true then _ else pure (od.filterMap (es[·]?), t3)) _ _ _
  rw [if_neg (by rw [hz, hsz]; simp)]
  refine wpAny_pure ?_
  dsimp only
  refine wpAny_storeSet_of hg hd ?_ (by rw [hz, sizeLine_eq]; omega)
  have hg' : (s.heap.update a (Obj.putSet (od.filterMap (es[·]?)) t3)).get? a = some { o with data := .set (od.filterMap (es[·]?)) (ep + 1) t3 } := by
    have := Heap.get?_update_self (Obj.putSet (od.filterMap (es[·]?)) t3) hg (by rw [putSet_of _ t3 hd]; rfl)
    rw [putSet_of _ t3 hd] at this; exact this
  have hsb := Heap.SameBut.update s.heap a (Obj.putSet (od.filterMap (es[·]?)) t3)
  refine h _ hsb ⟨_, _, _, _, hg', hex, rfl, fun e he => ?_, hz, k3, k2, by rw [k1]; exact m1, by rw [k1]; exact m3⟩
  obtain ⟨i, _, hi⟩ := Array.mem_filterMap.mp he
  obtain ⟨k, b, q1, q2, q3⟩ := hel e (Array.mem_of_getElem? hi)
  exact ⟨k, b, q1, q2, tkey_keeps q3 hg hd hsb⟩
theorem wp_add {a x : Addr} {k : List Key} {S : List Key → Prop} {n : Nat} (hu : A.units < cLine) (X : SetH prog w s.heap a S n) (hk : IsTupleKey (mixKind prog w) s.heap k x) (hn : ¬ S k) (hb : n < 126) {Q : Bool → Shared → Prop}
    (h : ∀ h', Heap.SameBut a s.heap h' → SetH prog w h' a (fun k' => S k' ∨ k' = k) (n + 1) → Q true { s with heap := h', toks := s.toks + (k.length + 1) }) :
    wpAny (model prog w) A (setAdd a (.ref x)) Q E s := by
  obtain ⟨o, es, ep, t, X⟩ := X
  unfold setAdd
  refine wpAny_holding (wpAny_bind ((tkd prog w).pyHash hu hk ?_))
  generalize hhs : (tkd prog w).hash k = hs
  generalize hs0 : ({ s with toks := s.toks + (tkd prog w).draws k } : Shared) = s0
  have eh : s0.heap = s.heap := by rw [← hs0]
  have X : SetAt prog w s0.heap a S n o es ep t := by rw [eh]; exact X
  have hk : IsTupleKey (mixKind prog w) s0.heap k x := by rw [eh]; exact hk
  have hfin : ∀ h', Heap.SameBut a s0.heap h' → SetH prog w h' a (fun k' => S k' ∨ k' = k) (n + 1) → Q true { s0 with heap := h' } := by
    intro h' q1 q2
    rw [eh] at q1
    have := h h' q1 q2
    rw [← hs0]
    exact this
  clear h hs0
  unfold setAddHashed setAddHashedIn
  refine wpAny_holding (wpAny_bind (wpAny_setState_of X.get X.dat X.fits ?_))
  dsimp only
  rw [if_neg (by simp [byScan, Value.scannable])]
  have hle : t.place.size ≤ t.mask := by rw [X.pl]; have := X.few; omega
  obtain ⟨j0, hj0, e0⟩ := Tb.has_empty X.dm hle
  obtain ⟨m, hm, hem⟩ := Tb.emp_of X.msk (Tb.Pok.start t hs) hj0 e0
  unfold setSearch
  refine wpAny_bind (wp_search hu X hk hn hs (fun j hj => ?_) 100000 m none hem (Tb.Pok.start t hs) (by have := X.msk.le; unfold SetTable.turns at hm; omega) hm)
  dsimp only
  refine wpAny_bind (wpAny_setState_of X.get X.dat X.fits ?_)
  dsimp only
  have rest : ∀ t2 : SetTable, t2.mask = t.mask → t2.place.size = n + 1 → t2.dummies = #[] → wpAny (model prog w) A (do
      storeSet a (SetTable.insertAt es (t.put j).snd (hs, Value.ref x)) t2
      if (!false && t2.tooFull) = true then do
        setRelay a (SetTable.grown (es.size + 1))
        pure true
      else pure true) Q E s0 := by
    intro t2 h1 h2 h3
    have hz : (SetTable.insertAt es (t.put j).snd (hs, Value.ref x)).size = n + 1 := by rw [Tb.insertAt_size, X.size]
    refine wpAny_bind (wpAny_storeSet_of X.get X.dat ?_ (by rw [hz, sizeLine_eq]; omega))
    have hg : (s0.heap.update a (Obj.putSet (SetTable.insertAt es (t.put j).snd (hs, Value.ref x)) t2)).get? a = some { o with data := .set (SetTable.insertAt es (t.put j).snd (hs, Value.ref x)) (ep + 1) t2 } := by
      have := Heap.get?_update_self (Obj.putSet (SetTable.insertAt es (t.put j).snd (hs, Value.ref x)) t2) X.get (by rw [putSet_of _ t2 X.dat]; rfl)
      rw [putSet_of _ t2 X.dat] at this; exact this
    have hsb := Heap.SameBut.update s0.heap a (Obj.putSet (SetTable.insertAt es (t.put j).snd (hs, Value.ref x)) t2)
    generalize s0.heap.update a (Obj.putSet (SetTable.insertAt es (t.put j).snd (hs, Value.ref x)) t2) = h1' at hg hsb ⊢
    have hel : ∀ e ∈ SetTable.insertAt es (t.put j).snd (hs, Value.ref x), ∃ k' b, (S k' ∨ k' = k) ∧ e = ((tkd prog w).hash k', Value.ref b) ∧ IsTupleKey (mixKind prog w) h1' k' b := by
      intro e he
      rcases Tb.insertAt_mem _ _ _ _ he with rfl | he
      · exact ⟨k, x, .inr rfl, by rw [hhs], tkey_keeps hk X.get X.dat hsb⟩
      · obtain ⟨k', b, q1, q2, q3⟩ := X.el e he
        exact ⟨k', b, .inl q1, q2, tkey_keeps q3 X.get X.dat hsb⟩
    have few := X.few
    have msk := X.msk.le
    split
    · rw [X.size]
      refine wpAny_bind (wp_relay (s := { s0 with heap := h1' }) hg X.ex rfl ?_ hel hz (by omega) fun h' q1 q2 => wpAny_pure (hfin h' (hsb.trans q1) q2))
      unfold SetTable.fits SetTable.fill
      rw [h2, h3, h1, hz]
      simp
      omega
    · rename_i nf
      refine wpAny_pure (hfin h1' hsb ⟨_, _, _, _, hg, X.ex, rfl, hel, hz, h2, h3, by rw [h1]; exact X.msk, ?_⟩)
      rw [h1]
      simp only [Bool.not_false, Bool.true_and, SetTable.tooFull, SetTable.fill, h1, h2, h3, decide_eq_true_eq] at nf
      simp at nf
      omega
  have p1 : (t.put j).1.mask = t.mask := rfl
  have p2 : (t.put j).1.place.size = n + 1 := by
    show (SetTable.insertAt t.place _ j).size = _
    rw [Tb.insertAt_size, X.pl]
  have p3 : (t.put j).1.dummies = #[] := by
    show (if SetTable.has t.dummies j then _ else t.dummies) = _
    rw [X.dm]
    simp [SetTable.has]
  split
  · refine wpAny_bind (wp_byVal hk fun b => ?_)
    cases b
    · exact rest _ p1 p2 p3
    · exact rest _ p1 p2 p3
  · exact wpAny_bind (wpAny_pure (rest _ p1 p2 p3))
end
end L2
namespace L2
open PySem PySem.Spec PyProof.Rows
section
variable {prog : Program} {w : World} {A : Around} {R : Result → Shared → Prop} {I : Addr} {fp wr : List Addr} {G : Array GenState → Array GenState → Prop} {n : Nat} {P : Nat → Value → Prop} {St : Nat → Shared → Prop}
theorem tk_movd {h h' : Heap} {ks : List Key} {b : Addr} (x : IsTupleKey (mixKind prog w) h ks b) (k : ∀ o, h.get? b = some o → h'.get? b = some o) : IsTupleKey (mixKind prog w) h' ks b := by
  obtain ⟨o, its, n, e, r⟩ := x
  exact ⟨o, its, n, k o e, r⟩
theorem SetH.movd {h h' : Heap} {a : Addr} {S : List Key → Prop} {n : Nat} (x : SetH prog w h a S n) (k : ∀ o, h.get? a = some o → h'.get? a = some o) (kt : ∀ b ks, IsTupleKey (mixKind prog w) h ks b → IsTupleKey (mixKind prog w) h' ks b) : SetH prog w h' a S n := by
  obtain ⟨o, es, ep, t, X⟩ := x
  refine ⟨o, es, ep, t, k o X.get, X.ex, X.dat, fun e he => ?_, X.size, X.pl, X.dm, X.msk, X.few⟩
  obtain ⟨k', b, q1, q2, q3⟩ := X.el e he
  exact ⟨k', b, q1, q2, kt b k' q3⟩
theorem loopT (W : WalksS prog w A.in1 I fp wr G n P St) (S : Addr) (hSf : S ∉ fp) (key : Nat → List Key) (ad : Nat → Addr) (hv : ∀ i v, i < n → P i v → v = .ref (ad i))
    (hwt : ∀ (s : Shared) i, St i s → ∀ b ks, IsTupleKey (mixKind prog w) s.heap ks b → b ∉ wr) (hnd : ∀ i j, i < n → j < n → key i = key j → i = j) (hb : n ≤ 126) (hu : A.in1.units < cLine) :
    ∀ (k i : Nat) (s : Shared), n - i = k → i ≤ n → St i s → (∀ j, j < n → IsTupleKey (mixKind prog w) s.heap (key j) (ad j)) → SetH prog w s.heap S (fun q => ∃ j, j < i ∧ q = key j) i →
      (∀ s', Moved (S :: wr) G s s' → SetH prog w s'.heap S (fun q => ∃ j, j < n ∧ q = key j) n → R (.ok (.ret .none)) s') →
      codeAny (model prog w) A (.builtin "set.update.loop" ⟨[.ref S, .ref I], []⟩) R s := by
  have nS : S ∉ wr := fun c => hSf (W.sub _ c)
  have sub : ∀ b ∈ wr, b ∈ S :: wr := fun b c => .tail _ c
  intro k
  induction k with
  | zero =>
    intro i s hk hi st ht hS fin
    obtain rfl : i = n := by omega
    refine codeAny_builtin PyProof.Rows.F.entry_set_update_loop ?_
    rw [Around.under_plainId PyProof.Rows.F.plain_set_update_loop _]
    show wpAny _ A.in1 (pyNext (.ref I) >>= _) _ _ s
    refine wpAny_bind (W.done s _ _ st fun s1 mv => ?_)
    exact wpAny_pure (fin s1 (mv.mono sub) (hS.movd (fun o e => mv.heap S o nS e) fun b ks x => tk_movd x fun o e => mv.heap b o (hwt s i st b ks x) e))
  | succ k ih =>
    intro i s hk hi st ht hS fin
    have lt : i < n := by omega
    refine codeAny_builtin PyProof.Rows.F.entry_set_update_loop ?_
    rw [Around.under_plainId PyProof.Rows.F.plain_set_update_loop _]
    show wpAny _ A.in1 (pyNext (.ref I) >>= _) _ _ s
    refine wpAny_bind (W.item i s _ _ lt st fun v s1 hP st1 mv => ?_)
    obtain rfl := hv i v lt hP
    have kt : ∀ b ks, IsTupleKey (mixKind prog w) s.heap ks b → IsTupleKey (mixKind prog w) s1.heap ks b := fun b ks x => tk_movd x fun o e => mv.heap b o (hwt s i st b ks x) e
    have hS1 := hS.movd (h' := s1.heap) (fun o e => mv.heap S o nS e) kt
    show wpAny _ A.in1 (holding [Value.ref (ad i)] (setAdd S (.ref (ad i))) >>= _) _ _ s1
    refine wpAny_bind (wpAny_holding (wp_add hu hS1 (kt _ _ (ht i lt)) (fun ⟨j, hj, e⟩ => by have := hnd i j lt (by omega) e; omega) (by omega) fun h' sb hS2 => ?_))
    obtain ⟨oS, eS, pS, tS, XS⟩ := hS1
    refine wpAny_pure ⟨plainId_quiet PyProof.Rows.F.plain_set_update_loop _, ih (i + 1) _ (by omega) lt (W.frame _ s1 _ _ st1 (Nat.le_add_right _ _) fun b c o e => ?_) (fun j hj => tkey_keeps (kt _ _ (ht j hj)) XS.get XS.dat sb) ?_ fun s2 mv2 hS3 => ?_⟩
    · rw [sb.2 b (fun z : b = S => hSf (by rw [← z]; exact c))]; exact e
    · obtain ⟨o, es, ep, t, X⟩ := hS2
      refine ⟨o, es, ep, t, X.get, X.ex, X.dat, fun e he => ?_, X.size, X.pl, X.dm, X.msk, X.few⟩
      obtain ⟨k', b, q1, q2, q3⟩ := X.el e he
      refine ⟨k', b, ?_, q2, q3⟩
      rcases q1 with ⟨j, hj, e⟩ | e
      · exact ⟨j, by omega, e⟩
      · exact ⟨i, by omega, e⟩
    · refine fin s2 (Moved.trans W.gtrans ((mv.mono sub).then_heap (Nat.le_add_right _ _) fun b o c e => ?_) mv2) hS3
      rw [sb.2 b (fun z : b = S => c (by rw [z]; exact .head _))]; exact e
end
section
variable {prog : Program} {w : World} {A : Around} {E : Value → Shared → Prop} {s : Shared}
abbrev emS (led : Bool) : Obj := { cls := .type "set", dict := none, data := .set #[] 0 (.fresh 0 0 led) }
set_option maxHeartbeats 3200000 in
theorem call_setTup {l : Addr} {items : Array Value} {Q : Value → Shared → Prop} (hh : A.handled = none) (hu : A.units + 5 < cLine) (hl : s.heap.IsList l items) (key : Nat → List Key) (ad : Nat → Addr)
    (hv : ∀ (i : Nat) v, items[i]? = some v → v = .ref (ad i)) (ht : ∀ i, i < items.size → IsTupleKey (mixKind prog w) s.heap (key i) (ad i)) (hnd : ∀ i j, i < items.size → j < items.size → key i = key j → i = j) (hb : items.size ≤ 126)
    (h : ∀ (h' : Heap) (tk : Nat), SetH prog w h' s.heap.objs.size (fun q => ∃ j, j < items.size ∧ q = key j) items.size → (∀ b o, s.heap.get? b = some o → h'.get? b = some o) → s.toks ≤ tk → Q (.ref s.heap.objs.size) { s with heap := h', toks := tk }) :
    wpAny (model prog w) A (call (.type "set") [.ref l]) Q E s := by
  obtain ⟨cc, tll, mroS⟩ := F.called_set.mro
  have madeS := F.called_set.made; have subS := F.called_set.sub; have ntS := F.called_set.notType; have ccS := F.called_set.canCreate; have ctS := F.typeCall_set_1 (.ref l)
  refine wpAny_call (codeAny_of_tree ?_)
  show wpAny _ _ (callAny (.type "set") _) _ _ _
  refine wpAny_pure ⟨Code.quiet_builtin _ (by decide +kernel), codeAny_builtin F.entry_type_call ?_⟩
  rw [Around.under_plain (weight_type_call_type "set" [.ref l] []) rfl]
  repeat (any_goals (first | assumption | wp_step))
  refine codeAny_mono (code_set_new_1 (.ref l) (E := E) (Q₁ := fun ob s1 => ∃ led : Bool, ob = .ref s.heap.objs.size ∧ s1 = { s with heap := s.heap.push { cls := .type "set", dict := none, data := .set #[] 0 (.fresh 0 0 led) } }) fun led => ⟨led, rfl, rfl⟩) fun r s1 hr => ?_
  cases r with
  | error e => exact hr
  | ok fl =>
    cases fl with
    | ret ob =>
      obtain ⟨led, rfl, rfl⟩ := hr
      have hS : (s.heap.push (emS led)).get? s.heap.objs.size = some (emS led) := Heap.get?_push_size _ rfl
      have hT : Shared.TypeIs { s with heap := s.heap.push (emS led) } (.ref s.heap.objs.size) "set" := ⟨_, hS, rfl⟩
      have liS := F.called_set.init.lookup
      have biS := F.called_set.init.bind (.ref s.heap.objs.size)
      repeat (any_goals (first | assumption | wp_step))
      refine codeAny_mono (codeAny_call_builtin (R := wants (fun r s2 => r = .none ∧ ∃ h' tk, s2 = { s with heap := h', toks := tk } ∧ s.toks ≤ tk ∧ SetH prog w h' s.heap.objs.size (fun q => ∃ j, j < items.size ∧ q = key j) items.size ∧ (∀ b o, s.heap.get? b = some o → h'.get? b = some o)) E) F.called_set.init.plain F.entry_set_init (check_set_init_1 hT ?_)) fun r2 s2 hr2 => ?_
      · obtain ⟨ol, hol, hcl, nl, hdl⟩ := hl
        obtain ⟨ocl, odi, oda, osl⟩ := ol
        simp only at hcl hdl
        subst hcl; subst hdl
        have hol1 : (s.heap.push (emS led)).get? l = some { cls := .type "list", dict := odi, data := .seq items nl, slots := osl } := Heap.get?_push_of_some _ hol
        have h1S := F.sub_list_set; have h2S := F.sub_list_frozenset; have neD : (Value.type "list" == Value.type "dict") = false := by decide
        have hl1 : (s.heap.push (emS led)).IsList l items := ⟨_, hol1, rfl, nl, rfl⟩
        unfold Builtin.«set.__init__» noKeywords Builtin.Frozenset.updateFrom
        generalize ePI : pyIter = PI
        wp_walk
        subst ePI
        refine wpAny_pyIter_list hl1 ?_
        refine wpAny_bind (wpAny_runValue ?_)
        have lS : l < s.heap.objs.size := Heap.lt_size hol
        have neI : l ≠ (s.heap.push (emS led)).objs.size := by rw [Heap.size_push]; exact Nat.ne_of_lt (Nat.lt_succ_of_lt lS)
        have fS : s.heap.objs.size ∉ [(s.heap.push (emS led)).objs.size, l] := by
          rw [Heap.size_push]
          intro c
          rcases List.mem_cons.mp c with c | c
          · exact absurd c (Nat.ne_of_lt (Nat.lt_succ_self _))
          · exact absurd (List.mem_singleton.mp c) (Nat.ne_of_gt lS)
        have h3 : A.in1.in1.in1.handled = none := by simp [hh]
        refine loopT ((Walks.list h3 _ l neI items).toS) s.heap.objs.size fS key ad (fun i v _ e => hv i v e) (fun s1 i st b ks x => ?hwt) hnd hb ?hu (items.size - 0) 0 _ (by omega) (Nat.zero_le _)
          ⟨⟨_, Heap.get?_push_size _ rfl, rfl, rfl⟩, (hl1.push _)⟩ (fun j hj => tk_movd (ht j hj) fun o e => Heap.get?_push_of_some _ (Heap.get?_push_of_some _ e)) ?hS0 ?hR
        case hwt =>
          intro c
          obtain rfl := List.mem_singleton.mp c
          obtain ⟨o1, _, _, e1, c1, _⟩ := x
          obtain ⟨o2, e2, c2, _⟩ := st.1
          rw [e1] at e2
          cases e2
          rw [c1] at c2
          exact absurd c2 (by decide)
        case hu => show A.units + 1 + 1 + 1 < cLine; omega
        case hS0 =>
          exact ⟨emS led, #[], 0, .fresh 0 0 led, Heap.get?_push_of_some _ hS, ⟨rfl, rfl, rfl⟩, rfl, fun e he => absurd he (Array.not_mem_empty e), rfl, rfl, rfl, by show Tb.Msk 7; unfold Tb.Msk; decide, by show 0 * 5 < 7 * 3; decide⟩
        case hR =>
          intro s' mv hS'
          obtain ⟨h', g', d', tk', os'⟩ := s'
          obtain rfl : g' = s.gens := mv.gens
          obtain rfl : d' = s.drawn := mv.drawn
          obtain rfl : os' = s.os := mv.os
          refine wpAny_pure (wpAny_pure ⟨rfl, h', tk', rfl, mv.toks, hS', fun b o e => ?_⟩)
          have hb1 := Heap.lt_size e
          refine mv.heap b o (fun c => ?_) (Heap.get?_push_of_some _ (Heap.get?_push_of_some _ e))
          rcases List.mem_cons.mp c with c | c
          · exact absurd c (Nat.ne_of_lt hb1)
          · exact absurd (List.mem_singleton.mp c) (by rw [Heap.size_push]; exact Nat.ne_of_lt (Nat.lt_succ_of_lt hb1))
      · cases r2 with
        | error e => exact hr2
        | ok fl2 =>
          cases fl2 with
          | ret r =>
            obtain ⟨rfl, h', tk, rfl, htk, hS', hk'⟩ := hr2
            repeat (any_goals (first | assumption | wp_step))
            exact h _ _ hS' hk' htk
          | _ => exact hr2.elim
    | _ => exact hr.elim
end
def setO (a : Addr) (n : Nat) : HO := .ext fun h => ∃ o es ep t, h.get? a = some o ∧ o.ExactSet ∧ o.data = .set es ep t ∧ t.fits es.size = true ∧ es.size = n
section
variable {X : Cx}
theorem call_setT (hc : X.calm = true) (hu : X.A.units + 5 < cLine) : CallR X (.type "set") (fun xs H Q => ∃ (p : Addr) (ts : List (Addr × List Key)), xs = [.ref p] ∧ SqL X.K H p (ts.map fun t => V.ref t.1) ∧ (∀ t ∈ ts, H t.1 = some (.tup (t.2.map kV))) ∧
    (ts.map (·.2)).Nodup ∧ ts.length ≤ 126 ∧ ∀ a, H a = none → Q (.ref a) (upd H a (setO a ts.length))) := by
  intro pins s σ H xs us Q I r h
  obtain ⟨p, ts, rfl, hq, ht, hn, hb, q⟩ := h
  obtain ⟨u, rfl, ru⟩ := vals1 r
  cases ru
  obtain ⟨its, rv, pl, hz⟩ := I.list hq
  have hlen : ts.length = its.length := by rw [← rv.length, List.length_map]
  have hsz : its.toArray.size = ts.length := by rw [List.size_toArray, hlen]
  refine call_setTup (I.ok.hd hc) hu pl.isList (fun i => (ts.getD i (0, [])).2) (fun i => (ts.getD i (0, [])).1) (fun i v e => ?_) (fun i hi => ?_) (fun i j hi hj e => ?_) (by rw [hsz]; exact hb) fun h' tk hS hk ht' => ?_
  · rw [List.getElem?_toArray] at e
    have hi : i < ts.length := by rw [hlen]; exact (List.getElem?_eq_some_iff.mp e).1
    obtain ⟨u, e1, r1⟩ := rv.get (i := i) (x := V.ref (ts[i]).1) (by rw [List.getElem?_map, List.getElem?_eq_getElem hi]; rfl)
    rw [e] at e1
    cases e1
    have r1 : v = Value.ref (ts[i]).1 := r1
    rw [r1, List.getD_eq_getElem?_getD, List.getElem?_eq_getElem hi]
    rfl
  · have hi : i < ts.length := by rw [← hsz]; exact hi
    have e : ts.getD i (0, []) = ts[i] := by rw [List.getD_eq_getElem?_getD, List.getElem?_eq_getElem hi]; rfl
    show IsTupleKey _ _ (ts.getD i (0, [])).2 (ts.getD i (0, [])).1
    rw [e]
    exact key_of I.hok (ht _ (List.getElem_mem hi))
  · have hi : i < ts.length := by rw [← hsz]; exact hi
    have hj : j < ts.length := by rw [← hsz]; exact hj
    have e : (ts.getD i (0, [])).2 = (ts.getD j (0, [])).2 := e
    rw [List.getD_eq_getElem?_getD, List.getD_eq_getElem?_getD, List.getElem?_eq_getElem hi, List.getElem?_eq_getElem hj] at e
    refine (List.getElem?_inj (by rw [List.length_map]; exact hi) hn).mp ?_
    rw [List.getElem?_map, List.getElem?_map, List.getElem?_eq_getElem hi, List.getElem?_eq_getElem hj]
    exact congrArg some e
  · rw [hsz] at hS
    obtain ⟨o, es, ep, t, Y⟩ := hS
    refine ⟨.ref s.heap.objs.size, _, I.laid (a := s.heap.objs.size) (o := setO s.heap.objs.size ts.length) (h' := h') (t' := tk) hk (Nat.le_refl _) ⟨⟨o, es, ep, t, Y.get, Y.ex, Y.dat, Y.fits, Y.size⟩, ⟨o, Y.get⟩, fun h1 h2 ⟨o, es, ep, t, e, r⟩ k => ⟨o, es, ep, t, k o e, r⟩⟩, rfl, q _ (I.hok.fresh (Nat.le_refl _))⟩
theorem call_lenT : CallR X (.builtin "len") (fun xs H Q => ∃ a n, xs = [V.ref a] ∧ n ≤ 126 ∧ H a = some (setO a n) ∧ Q (.int n) H) := by
  intro pins s σ H xs us Q I r h
  obtain ⟨a, n, rfl, hb, e, q⟩ := h
  obtain ⟨u, rfl, ru⟩ := vals1 r
  cases ru
  obtain ⟨⟨o, es, ep, t, h1, h2, h3, h4, h5⟩, _, _⟩ := I.hok a _ e
  subst h5
  exact call_len_set h1 h2 h3 h4 (by omega) ⟨.int _, H, I.tok _, ⟨_, rfl⟩, q⟩
end
end L2
namespace L2
open PySem PySem.Spec PyProof.Rows
abbrev Tri := Str × Int × Int
def triKey (k : Tri) : List Key := [.inr k.1, .inl k.2.1, .inl k.2.2]
def triTup (k : Tri) : D := .tup [.str k.1, .int k.2.1, .int k.2.2]
def hLenSet (ds : List D) (Q : D → Prop) : Prop := ∃ ks : List Tri, ds = [.lst (ks.map triTup)] ∧ ks.Nodup ∧ ks.length ≤ 126 ∧ Q (.int (ks.length : Nat))
theorem bt_setT : bootBuiltins "set" = some (.type "set") := by decide +kernel
theorem tri_refs {K : PySem.W.Frag} {F : Hp} : ∀ {ks : List Tri} {xs : List V}, Reps K F (ks.map triTup) xs → ∃ ts : List (Addr × List Key), xs = ts.map (fun t => V.ref t.1) ∧ ts.map (·.2) = ks.map triKey ∧ ∀ t ∈ ts, F t.1 = some (.tup (t.2.map kV))
  | [], _, h => ⟨[], h, rfl, fun _ m => nomatch m⟩
  | k :: ks, _, ⟨x, r, e, ⟨a, ys, ex, hF, rs⟩, t⟩ => by
    obtain ⟨ts, e1, e2, e3⟩ := tri_refs t
    obtain ⟨_, _, rfl, r1, _, _, rfl, r2, _, _, rfl, r3, r4⟩ := rs
    cases (show _ = [] from r4)
    cases (show _ = _ from r1)
    cases (show _ = _ from r2)
    cases (show _ = _ from r3)
    refine ⟨(a, triKey k) :: ts, by rw [e, ex, e1]; rfl, by rw [List.map_cons, e2]; rfl, fun t m => ?_⟩
    rcases List.mem_cons.mp m with rfl | m
    · exact hF
    · exact e3 t m
theorem triKey_inj {k k' : Tri} (h : triKey k = triKey k') : k = k' := by
  obtain ⟨x, i, j⟩ := k
  obtain ⟨x', i', j'⟩ := k'
  unfold triKey at h
  injection h with h1 h
  injection h with h2 h
  injection h with h3 _
  have h1 : x = x' := Sum.inr.inj h1
  have h2 : i = i' := Sum.inl.inj h2
  have h3 : j = j' := Sum.inl.inj h3
  rw [h1, h2, h3]
theorem nodup_key {ks : List Tri} (h : ks.Nodup) : (ks.map triKey).Nodup := by
  rw [List.nodup_iff_pairwise_ne, List.pairwise_map]
  exact (List.nodup_iff_pairwise_ne.mp h).imp fun ne e => ne (triKey_inj e)
section
variable {X : Cx} {E : XK} {e : Expr} {p p2 pos pos2 : Pos}
theorem de_lenSet {ga : GA} (hc : X.calm = true) (hu : X.A.units + 64 < cLine) (hg : Gl X "len") (hm : X.mg "len" = none) (hg2 : Gl X "set") (hm2 : X.mg "set" = none) (ha : DA X E [e] ga) (he : starEach [e] X.env = [(false, eval e X.env)] := by rfl)
    (he2 : starEach [.Call (.Name "set" p2) [e] [] pos2] X.env = [(false, eval (.Call (.Name "set" p2) [e] [] pos2) X.env)] := by rfl) : DE X E (.Call (.Name "len" p) [.Call (.Name "set" p2) [e] [] pos2] [] pos) (gCB hLenSet ga) := ⟨
  PE.weak (pe_callB call_lenT hg hm PySem.boot_len (pa_cons (pe_callTy (call_setT hc (by omega)) hg2 hm2 bt_setT ha.h (by decide) (by decide) he rfl) pa_nil he2) (by decide) (by decide) he2 rfl) fun σ H Q zw42 => el9 zw42 fun F env Ex Qd s sl ex q fin =>
  ⟨F, env, Ex, _, s, sl, ex, q, fun ds vs F1 H1 q1 g1 r1 => by
    obtain ⟨ks, rfl, nd, le, q1⟩ := q1
    obtain ⟨x, _, rfl, ⟨l, ys, rfl, hF, rs⟩, e0⟩ := r1
    cases (show _ = [] from e0)
    obtain ⟨ts, e1, e2, e3⟩ := tri_refs rs
    subst e1
    have hl : ts.length = ks.length := by have := congrArg List.length e2; rwa [List.length_map, List.length_map] at this
    refine ⟨l, ts, rfl, SqL.of (g1.sub _ _ hF), fun t m => g1.sub _ _ (e3 t m), by rw [e2]; exact nodup_key nd, by omega, fun a ha => ⟨a, ts.length, rfl, by omega, upd_same, ?_⟩⟩
    rw [hl]
    exact fin _ _ F1 _ q1 (g1.trans (Grow.still g1.sub (fun b o z => by rw [upd_ne (ne_of_none z ha)]; exact z))) rfl⟩⟩
end
def shal : D → Bool
  | .tup ds => ds.all flatD
  | d => flatD d
theorem flat_any {K : PySem.W.Frag} {F F' : Hp} {d : D} {v : V} (f : flatD d = true) (r : Rep K F d v) : Rep K F' d v := by
  cases d with
  | non => exact r
  | bl b => exact r
  | int i => exact r
  | str x => exact r
  | _ => cases f
theorem flats_any {K : PySem.W.Frag} {F F' : Hp} : ∀ {ds : List D} {xs : List V}, ds.all flatD = true → Reps K F ds xs → Reps K F' ds xs
  | [], _, _, h => h
  | d :: ds, _, f, ⟨x, r, e, h, t⟩ => by
    rw [List.all_cons, Bool.and_eq_true] at f
    exact ⟨x, r, e, flat_any f.1 h, flats_any f.2 t⟩
def wout (F : Hp) (a : Addr) : Hp := fun b => if b = a then none else F b
theorem wout_ne {F : Hp} {a b : Addr} (h : b ≠ a) : wout F a b = F b := by unfold wout; rw [if_neg h]
theorem wout_self {F : Hp} {a : Addr} : wout F a a = none := by unfold wout; rw [if_pos rfl]
theorem shal_out {K : PySem.W.Frag} {F : Hp} {a : Addr} {xs : List V} {d : D} {v : V} (f : shal d = true) (ha : F a = some (.lst xs)) (r : Rep K F d v) : Rep K (wout F a) d v := by
  cases d with
  | tup ds =>
    obtain ⟨t, ys, e, ht, rs⟩ := r
    exact ⟨t, ys, e, by rw [wout_ne (ne_of ht ha (by simp))]; exact ht, flats_any f rs⟩
  | non => exact r
  | bl b => exact r
  | int i => exact r
  | str x => exact r
  | _ => cases f
theorem shals_out {K : PySem.W.Frag} {F : Hp} {a : Addr} {ys : List V} (ha : F a = some (.lst ys)) : ∀ {ds : List D} {xs : List V}, ds.all shal = true → Reps K F ds xs → Reps K (wout F a) ds xs
  | [], _, _, h => h
  | d :: ds, _, f, ⟨x, r, e, h, t⟩ => by
    rw [List.all_cons, Bool.and_eq_true] at f
    exact ⟨x, r, e, shal_out f.1 ha h, shals_out ha f.2 t⟩
theorem Grow.wout {F H F1 H1 : Hp} {a : Addr} {xs : List V} (s : Same F H) (f : F a = none) (g : Grow (upd F a (.lst xs)) H F1 H1) : Grow F H (wout F1 a) H1 ∧ F1 a = some (.lst xs) := by
  have ea : F1 a = some (.lst xs) := g.ff _ _ upd_same
  refine ⟨⟨g.hh, fun b o z => ?_, fun b o z => ?_, fun b z n => ?_⟩, ea⟩
  · have nb : b ≠ a := ne_of_none z f
    rw [wout_ne nb]
    exact g.ff _ _ (by rw [upd_ne nb]; exact z)
  · by_cases nb : b = a
    · subst nb; rw [wout_self] at z; cases z
    · rw [wout_ne nb] at z; exact g.sub _ _ z
  · by_cases nb : b = a
    · subst nb; rw [wout_self] at n; exact absurd rfl n
    · rw [wout_ne nb] at n
      exact g.new b (by rw [upd_ne nb]; exact z) n
section
variable {X : Cx} {E : XK} {e : Expr}
def gLendS (i : Nat) (g : GE) : GE := fun env Ex Q => ∃ ds, env[i]? = some (.own ds) ∧ g (env.set i (.sh (.lst ds))) Ex fun d => shal d = true ∧ Q d
theorem de_lendS {g : GE} (i : Nat) (h : DE X E e g) : DE X E e (gLendS i g) := ⟨PE.weak h.h fun σ H Q zw43 => el9 zw43 fun F env Ex Qd s sl ex q fin => by
  obtain ⟨ds, e0, q⟩ := q
  obtain ⟨a, xs, e1, f, hl, r⟩ := sl.ok i _ e0
  have s1 : Same (upd F a (.lst xs)) H := fun b o z => by
    by_cases hb : b = a
    · subst hb; rw [upd_same] at z; rw [hl, ← z]
    · rw [upd_ne hb] at z; exact s _ _ z
  refine ⟨upd F a (.lst xs), _, Ex, _, s1, sl.freeze e0 e1 f r, ex, q, fun d v F1 H1 p g' rv => ?_⟩
  obtain ⟨gw, ea⟩ := Grow.wout s f g'
  exact fin d v _ H1 p.2 gw (shal_out p.1 ea rv)⟩
def gLendF (i : Nat) (g : GA) : GA := fun env Ex Q => ∃ ds, env[i]? = some (.own ds) ∧ g (env.set i (.sh (.lst ds))) Ex fun es => es.all shal = true ∧ Q es
theorem lendF_weak {K : PySem.W.Frag} {g : GA} (i : Nat) (σ : St) (H : Hp) (Q : VK) : DTF K E (gLendF i g) σ H Q → DTF K E g σ H Q := fun zw44 => el9 zw44 fun F env Ex Qd s sl ex q fin => by
  obtain ⟨ds, e0, q⟩ := q
  obtain ⟨a, xs, e1, f, hl, r⟩ := sl.ok i _ e0
  have s1 : Same (upd F a (.lst xs)) H := fun b o z => by
    by_cases hb : b = a
    · subst hb; rw [upd_same] at z; rw [hl, ← z]
    · rw [upd_ne hb] at z; exact s _ _ z
  refine ⟨upd F a (.lst xs), _, Ex, _, s1, sl.freeze e0 e1 f r, ex, q, fun es l ys F1 H1 p g' fl hl0 hl1 rv => ?_⟩
  obtain ⟨gw, ea⟩ := Grow.wout s f g'
  exact fin es l ys _ H1 p.2 gw (by unfold wout; split <;> first | rfl | exact fl) hl0 hl1 (shals_out ea p.1 rv)
end
section
variable {X : Cx} {E : XK} {target elt iter : Expr} {ifs : List Expr} {scope : Scope} {cl : List (Str × Addr)} {tn fn : List Str} {fv : List Nat} {pos : Pos} {g : TG} {u : D → Option (List D)} {gi : GA} {gt : GT} {ge : GE}
theorem ds_ownCL (l : Nat) {i : Nat} {y : Str} {py spos : Pos} (hN : X.N.Nodup) (hj : X.N[i]? = some y) (hy : Loc X.env.scope y) (hc : X.calm = true) (hi : DI X E target iter gi) (S : CompOkT X scope cl tn fn fv)
    (hg : ∀ C fp ps s3 H3, PG (compCx X scope cl (tn ++ fn) C fp ps s3 H3) target g) (ub : UB X.K g u tn.length)
    (ht : ∀ C fp ps s3 H3, DIfs (compCx X scope cl (tn ++ fn) C fp ps s3 H3) E0 ifs gt) (he : ∀ C fp ps s3 H3, DE (compCx X scope cl (tn ++ fn) C fp ps s3 H3) E0 elt ge)
    (hsw : swapsWith (.ListComp elt [⟨target, iter, ifs, 0⟩] scope pos) (some (.Name y py)) spos.line X.env = pure true := by rfl) (hs : ∀ y, foldedSetIterable iter X.env y = pure y := by intro _; rfl)
    (hf : X.fn y = true ∨ X.env.scope.names.lookup y = some .local := by first | exact .inl rfl | exact .inr rfl | assumption) :
    DSt X E (.Assign [.Name y py] (.ListComp elt [⟨target, iter, ifs, 0⟩] scope pos) spos) (gOwn i (gLendF l (gComp gi fv u gt ge))) := ⟨fun F0 H0 s0 =>
  PS.weak (ps_setCT (tt := DTT X.K E0 gt) (te := DTE X.K E0 ge) hN hj hy hc hi.h S hg (fun C fp ps s3 H3 => (ht C fp ps s3 H3).h) (fun C fp ps s3 H3 => (he C fp ps s3 H3).h) hsw hs hf) fun Dn σ H zw45 => el10 zw45 fun F env Ex Dd gr sl fr ex q en => comp_weak ub σ H _ (lendF_weak l σ H _ ⟨F, env, Ex, _, gr.sub, sl, ex.step gr.hh, q, fun ds a xs F' H' p g' f1 n1 l1 r => own_in gr sl fr en p g' f1 n1 l1 r⟩)⟩
end
end L2
namespace Hl
structure Call where
  (n i o f : Nat)
  deriving DecidableEq
structure Good (N M F : Nat) (cs : List Call) : Prop where
  nd : (cs.map (·.n)).Nodup
  bi : ∀ c ∈ cs, c.i < N
  bo : ∀ c ∈ cs, c.o < M
  bf : ∀ c ∈ cs, c.f < F
  ui : ∀ c ∈ cs, ∀ d ∈ cs, c.i = d.i → c.f = d.f → c = d
  uo : ∀ c ∈ cs, ∀ d ∈ cs, c.o = d.o → c.f = d.f → c = d
theorem nd_un {cs : List Call} (nd : (cs.map (·.n)).Nodup) {c d : Call} (hc : c ∈ cs) (hd : d ∈ cs) (e : c.n = d.n) : c = d := by
  induction cs with
  | nil => exact nomatch hc
  | cons x r ih =>
    have nd : (x.n :: r.map (·.n)).Nodup := nd
    obtain ⟨n1, n2⟩ := List.nodup_cons.mp nd
    rcases List.mem_cons.mp hc with q | hc'
    · rcases List.mem_cons.mp hd with q' | hd'
      · exact q.trans q'.symm
      · exact absurd (List.mem_map.mpr ⟨d, hd', e.symm.trans (congrArg Call.n q)⟩) n1
    · rcases List.mem_cons.mp hd with q' | hd'
      · exact absurd (List.mem_map.mpr ⟨c, hc', e.trans (congrArg Call.n q')⟩) n1
      · exact ih n2 hc' hd'
theorem Good.sub {N M F : Nat} {cs ds : List Call} (g : Good N M F cs) (nd : (ds.map (·.n)).Nodup) (h : ∀ d ∈ ds, d ∈ cs) : Good N M F ds :=
  ⟨nd, fun c hc => g.bi c (h c hc), fun c hc => g.bo c (h c hc), fun c hc => g.bf c (h c hc), fun c hc d hd => g.ui c (h c hc) d (h d hd), fun c hc d hd => g.uo c (h c hc) d (h d hd)⟩
theorem Good.perm {N M F : Nat} {cs ds : List Call} (g : Good N M F cs) (p : ds.Perm cs) : Good N M F ds := g.sub ((p.map _).nodup_iff.mpr g.nd) fun d hd => p.mem_iff.mp hd
theorem Good.nodup {N M F : Nat} {cs : List Call} (g : Good N M F cs) : cs.Nodup := by
  have nd := g.nd
  clear g
  induction cs with
  | nil => exact List.nodup_nil
  | cons x r ih =>
    have nd : (x.n :: r.map (·.n)).Nodup := nd
    obtain ⟨n1, n2⟩ := List.nodup_cons.mp nd
    exact List.nodup_cons.mpr ⟨fun h => n1 (List.mem_map.mpr ⟨x, h, rfl⟩), ih n2⟩
theorem Good.cons {N M F : Nat} {cs : List Call} {c : Call} (g : Good N M F cs) (hn : c.n ∉ cs.map (·.n)) (b1 : c.i < N) (b2 : c.o < M) (b3 : c.f < F)
    (fi : ∀ d ∈ cs, d.i = c.i → d.f = c.f → False) (fo : ∀ d ∈ cs, d.o = c.o → d.f = c.f → False) : Good N M F (c :: cs) := by
  refine ⟨List.nodup_cons.mpr ⟨hn, g.nd⟩, fun d hd => ?_, fun d hd => ?_, fun d hd => ?_, fun d hd e he q1 q2 => ?_, fun d hd e he q1 q2 => ?_⟩
  · rcases List.mem_cons.mp hd with rfl | hd
    · exact b1
    · exact g.bi d hd
  · rcases List.mem_cons.mp hd with rfl | hd
    · exact b2
    · exact g.bo d hd
  · rcases List.mem_cons.mp hd with rfl | hd
    · exact b3
    · exact g.bf d hd
  · rcases List.mem_cons.mp hd with z | hd'
    · rcases List.mem_cons.mp he with z' | he'
      · exact z.trans z'.symm
      · exact (fi e he' (by rw [← q1, z]) (by rw [← q2, z])).elim
    · rcases List.mem_cons.mp he with z' | he'
      · exact (fi d hd' (by rw [q1, z']) (by rw [q2, z'])).elim
      · exact g.ui d hd' e he' q1 q2
  · rcases List.mem_cons.mp hd with z | hd'
    · rcases List.mem_cons.mp he with z' | he'
      · exact z.trans z'.symm
      · exact (fo e he' (by rw [← q1, z]) (by rw [← q2, z])).elim
    · rcases List.mem_cons.mp he with z' | he'
      · exact (fo d hd' (by rw [q1, z']) (by rw [q2, z'])).elim
      · exact g.uo d hd' e he' q1 q2
inductive Chn (cs : List Call) (a b o : Nat) : List Call → Bool → Nat → Prop
  | nil : Chn cs a b o [] true o
  | out {l : List Call} {e : Nat} {c : Call} : Chn cs a b o l true e → c ∈ cs → c.o = e → c.f = a → Chn cs a b o (l ++ [c]) false c.i
  | inn {l : List Call} {e : Nat} {c : Call} : Chn cs a b o l false e → c ∈ cs → c.i = e → c.f = b → Chn cs a b o (l ++ [c]) true c.o
def Fin (cs : List Call) (a b : Nat) (s : Bool) (e : Nat) : Prop := match s with
  | true => ∀ c ∈ cs, c.o = e → c.f = a → False
  | false => ∀ c ∈ cs, c.i = e → c.f = b → False
section
variable {cs : List Call} {a b o : Nat} {l : List Call} {s : Bool} {e : Nat}
theorem mem_snoc {α : Type} {l : List α} {x c : α} (h : x ∈ l ++ [c]) : x ∈ l ∨ x = c := by
  rcases List.mem_append.mp h with z | z
  · exact .inl z
  · exact .inr (List.mem_singleton.mp z)
theorem Chn.sub (h : Chn cs a b o l s e) : ∀ c ∈ l, c ∈ cs := by
  induction h with
  | nil => exact fun c h => nomatch h
  | out _ hc _ _ ih => exact fun c h => (mem_snoc h).elim (ih c) fun z => z ▸ hc
  | inn _ hc _ _ ih => exact fun c h => (mem_snoc h).elim (ih c) fun z => z ▸ hc
theorem Chn.fr (h : Chn cs a b o l s e) : ∀ c ∈ l, c.f = a ∨ c.f = b := by
  induction h with
  | nil => exact fun c h => nomatch h
  | out _ _ _ hf ih => exact fun c h => (mem_snoc h).elim (ih c) fun z => .inl (z ▸ hf)
  | inn _ _ _ hf ih => exact fun c h => (mem_snoc h).elim (ih c) fun z => .inr (z ▸ hf)
theorem Chn.cur (h : Chn cs a b o l s e) : (l = [] ∧ s = true ∧ e = o) ∨ (s = true ∧ ∃ d ∈ l, d.f = b ∧ d.o = e) ∨ (s = false ∧ ∃ d ∈ l, d.f = a ∧ d.i = e) := by
  cases h with
  | nil => exact .inl ⟨rfl, rfl, rfl⟩
  | out _ _ _ hf => exact .inr (.inr ⟨rfl, _, List.mem_append_right _ List.mem_cons_self, hf, rfl⟩)
  | inn _ _ _ hf => exact .inr (.inl ⟨rfl, _, List.mem_append_right _ List.mem_cons_self, hf, rfl⟩)
theorem Chn.hd (h : Chn cs a b o l s e) (hl : l ≠ []) : ∃ d ∈ l, d.o = o ∧ d.f = a := by
  induction h with
  | nil => exact absurd rfl hl
  | @out l e c h hc ho hf ih =>
    cases l with
    | nil =>
      rcases h.cur with ⟨_, _, z⟩ | ⟨_, d, hd, _⟩ | ⟨_, d, hd, _⟩
      · exact ⟨c, List.mem_cons_self, ho.trans z, hf⟩
      · exact nomatch hd
      · exact nomatch hd
    | cons x r =>
      obtain ⟨d, hd, z⟩ := ih (fun y => nomatch y)
      exact ⟨d, List.mem_append_left _ hd, z⟩
  | @inn l e c h hc ho hf ih =>
    cases l with
    | nil =>
      rcases h.cur with ⟨_, z, _⟩ | ⟨_, d, hd, _⟩ | ⟨_, d, hd, _⟩
      · cases z
      · exact nomatch hd
      · exact nomatch hd
    | cons x r =>
      obtain ⟨d, hd, z⟩ := ih (fun y => nomatch y)
      exact ⟨d, List.mem_append_left _ hd, z⟩
theorem Chn.pred (h : Chn cs a b o l s e) : ∀ c ∈ l, (c.f = a ∧ (c.o = o ∨ ∃ d ∈ l, d.f = b ∧ d.o = c.o)) ∨ (c.f = b ∧ ∃ d ∈ l, d.f = a ∧ d.i = c.i) := by
  have wk : ∀ {l : List Call} {x c : Call}, ((c.f = a ∧ (c.o = o ∨ ∃ d ∈ l, d.f = b ∧ d.o = c.o)) ∨ (c.f = b ∧ ∃ d ∈ l, d.f = a ∧ d.i = c.i)) →
      (c.f = a ∧ (c.o = o ∨ ∃ d ∈ l ++ [x], d.f = b ∧ d.o = c.o)) ∨ (c.f = b ∧ ∃ d ∈ l ++ [x], d.f = a ∧ d.i = c.i) := by
    intro l x c h
    rcases h with ⟨h1, h2 | ⟨d, hd, h2⟩⟩ | ⟨h1, d, hd, h2⟩
    · exact .inl ⟨h1, .inl h2⟩
    · exact .inl ⟨h1, .inr ⟨d, List.mem_append_left _ hd, h2⟩⟩
    · exact .inr ⟨h1, d, List.mem_append_left _ hd, h2⟩
  induction h with
  | nil => exact fun c h => nomatch h
  | @out l e c h hc ho hf ih =>
    intro x hx
    rcases mem_snoc hx with hx | rfl
    · exact wk (ih x hx)
    · rcases h.cur with ⟨_, _, z⟩ | ⟨_, d, hd, q1, q2⟩ | ⟨z, _⟩
      · exact .inl ⟨hf, .inl (ho.trans z)⟩
      · exact .inl ⟨hf, .inr ⟨d, List.mem_append_left _ hd, q1, q2.trans ho.symm⟩⟩
      · cases z
  | @inn l e c h hc ho hf ih =>
    intro x hx
    rcases mem_snoc hx with hx | rfl
    · exact wk (ih x hx)
    · rcases h.cur with ⟨_, z, _⟩ | ⟨z, _⟩ | ⟨_, d, hd, q1, q2⟩
      · cases z
      · cases z
      · exact .inr ⟨hf, d, List.mem_append_left _ hd, q1, q2.trans ho.symm⟩
theorem Chn.succ (h : Chn cs a b o l s e) : ∀ c ∈ l, (c.f = a ∧ ((s = false ∧ e = c.i) ∨ ∃ d ∈ l, d.f = b ∧ d.i = c.i)) ∨ (c.f = b ∧ ((s = true ∧ e = c.o) ∨ ∃ d ∈ l, d.f = a ∧ d.o = c.o)) := by
  induction h with
  | nil => exact fun c h => nomatch h
  | @out l e c h hc ho hf ih =>
    intro x hx
    rcases mem_snoc hx with hx | rfl
    · rcases ih x hx with ⟨h1, ⟨z, _⟩ | ⟨d, hd, q⟩⟩ | ⟨h1, ⟨_, z⟩ | ⟨d, hd, q⟩⟩
      · cases z
      · exact .inl ⟨h1, .inr ⟨d, List.mem_append_left _ hd, q⟩⟩
      · exact .inr ⟨h1, .inr ⟨c, List.mem_append_right _ List.mem_cons_self, hf, ho.trans z⟩⟩
      · exact .inr ⟨h1, .inr ⟨d, List.mem_append_left _ hd, q⟩⟩
    · exact .inl ⟨hf, .inl ⟨rfl, rfl⟩⟩
  | @inn l e c h hc ho hf ih =>
    intro x hx
    rcases mem_snoc hx with hx | rfl
    · rcases ih x hx with ⟨h1, ⟨_, z⟩ | ⟨d, hd, q⟩⟩ | ⟨h1, ⟨z, _⟩ | ⟨d, hd, q⟩⟩
      · exact .inl ⟨h1, .inr ⟨c, List.mem_append_right _ List.mem_cons_self, hf, ho.trans z⟩⟩
      · exact .inl ⟨h1, .inr ⟨d, List.mem_append_left _ hd, q⟩⟩
      · cases z
      · exact .inr ⟨h1, .inr ⟨d, List.mem_append_left _ hd, q⟩⟩
    · exact .inr ⟨hf, .inl ⟨rfl, rfl⟩⟩
theorem nd_snoc' {α : Type} {l : List α} {x : α} (h : l.Nodup) (hx : x ∉ l) : (l ++ [x]).Nodup := by
  refine List.nodup_append.mpr ⟨h, List.nodup_cons.mpr ⟨(fun z => nomatch z), List.nodup_nil⟩, fun y hy z hz e => hx ?_⟩
  rw [← List.mem_singleton.mp hz, ← e]
  exact hy
theorem Chn.once {N M F : Nat} (g : Good N M F cs) (hab : a ≠ b) (hb : ∀ c ∈ cs, c.o = o → c.f = b → False) (h : Chn cs a b o l s e) :
    l.Nodup ∧ ∀ c ∈ cs, (s = true → c.o = e → c.f = a → c ∉ l) ∧ (s = false → c.i = e → c.f = b → c ∉ l) := by
  induction h with
  | nil => exact ⟨List.nodup_nil, fun c _ => ⟨fun _ _ _ h => (nomatch h), fun _ _ _ h => (nomatch h)⟩⟩
  | @out l e c h hc ho hf ih =>
    have hcl := (ih.2 c hc).1 rfl ho hf
    refine ⟨nd_snoc' ih.1 hcl, fun d hd => ⟨(fun z => nomatch z), fun _ q1 q2 m => ?_⟩⟩
    rcases mem_snoc m with m | m
    · rcases h.pred d m with ⟨z, _⟩ | ⟨_, d', m', z1, z2⟩
      · exact hab (z.symm.trans q2)
      · exact hcl (g.ui d' (h.sub d' m') c hc (z2.trans q1) (z1.trans hf.symm) ▸ m')
    · exact hab ((hf.symm.trans (m ▸ rfl)).trans q2)
  | @inn l e c h hc ho hf ih =>
    have hcl := (ih.2 c hc).2 rfl ho hf
    refine ⟨nd_snoc' ih.1 hcl, fun d hd => ⟨fun _ q1 q2 m => ?_, fun z => nomatch z⟩⟩
    rcases mem_snoc m with m | m
    · rcases h.pred d m with ⟨_, z | ⟨d', m', z1, z2⟩⟩ | ⟨z, _⟩
      · exact hb c hc (q1.symm.trans z) hf
      · exact hcl (g.uo d' (h.sub d' m') c hc (z2.trans q1) (z1.trans hf.symm) ▸ m')
      · exact hab (q2.symm.trans z)
    · exact hab (q2.symm.trans ((m ▸ rfl : d.f = c.f).trans hf))
theorem Chn.closed {N M F : Nat} (g : Good N M F cs) (hb : ∀ c ∈ cs, c.o = o → c.f = b → False) (h : Chn cs a b o l s e) (fin : Fin cs a b s e) {c d : Call} (hc : c ∈ l) (hd : d ∈ cs) (hio : d.i = c.i ∨ d.o = c.o)
    (hf : (c.f = a ∧ d.f = b) ∨ (c.f = b ∧ d.f = a)) (hab : a ≠ b) : d ∈ l := by
  have same : ∀ d' ∈ l, (d'.i = d.i ∨ d'.o = d.o) → d'.f = d.f → d ∈ l := fun d' m q1 q2 => by
    rcases q1 with q1 | q1
    · exact g.ui d' (h.sub d' m) d hd q1 q2 ▸ m
    · exact g.uo d' (h.sub d' m) d hd q1 q2 ▸ m
  rcases hf with ⟨fc, fd⟩ | ⟨fc, fd⟩
  · rcases hio with q | q
    · rcases h.succ c hc with ⟨_, ⟨z1, z2⟩ | ⟨d', m, z1, z2⟩⟩ | ⟨z, _⟩
      · subst z1
        exact (fin d hd (q.trans z2.symm) fd).elim
      · exact same d' m (.inl (z2.trans q.symm)) (z1.trans fd.symm)
      · exact absurd (fc.symm.trans z) hab
    · rcases h.pred c hc with ⟨_, z | ⟨d', m, z1, z2⟩⟩ | ⟨z, _⟩
      · exact (hb d hd (q.trans z) fd).elim
      · exact same d' m (.inr (z2.trans q.symm)) (z1.trans fd.symm)
      · exact absurd (fc.symm.trans z) hab
  · rcases hio with q | q
    · rcases h.pred c hc with ⟨z, _⟩ | ⟨_, d', m, z1, z2⟩
      · exact absurd (z.symm.trans fc) hab
      · exact same d' m (.inl (z2.trans q.symm)) (z1.trans fd.symm)
    · rcases h.succ c hc with ⟨z, _⟩ | ⟨_, ⟨z1, z2⟩ | ⟨d', m, z1, z2⟩⟩
      · exact absurd (z.symm.trans fc) hab
      · subst z1
        exact (fin d hd (q.trans z2.symm) fd).elim
      · exact same d' m (.inr (z2.trans q.symm)) (z1.trans fd.symm)
theorem Chn.head {N M F : Nat} (g : Good N M F cs) (h : Chn cs a b o l s e) (fin : Fin cs a b s e) {c : Call} (hc : c ∈ cs) (ho : c.o = o) (hf : c.f = a) : c ∈ l := by
  by_cases hl : l = []
  · rcases h.cur with ⟨_, z1, z2⟩ | ⟨_, d, hd, _⟩ | ⟨_, d, hd, _⟩
    · subst z1
      exact (fin c hc (ho.trans z2.symm) hf).elim
    · rw [hl] at hd; exact nomatch hd
    · rw [hl] at hd; exact nomatch hd
  · obtain ⟨d, hd, q1, q2⟩ := h.hd hl
    exact g.uo d (h.sub d hd) c hc (q1.trans ho.symm) (q2.trans hf.symm) ▸ hd
theorem Chn.apart (h : Chn cs a b o l s e) (hab : a ≠ b) {i : Nat} (hi : ∀ c ∈ cs, c.i = i → c.f = a → False) {c : Call} (hc : c ∈ l) (q : c.i = i) : c.f ≠ b := fun z => by
  rcases h.pred c hc with ⟨y, _⟩ | ⟨_, d, m, z1, z2⟩
  · exact hab (y.symm.trans z)
  · exact hi d (h.sub d m) (z2.trans q) z1
def onC (a b : Nat) (s : Bool) (e : Nat) (c : Call) : Prop := match s with
  | true => c.o = e ∧ c.f = a
  | false => c.i = e ∧ c.f = b
end
def swc (a b : Nat) (c : Call) : Call := { c with f := if c.f = a then b else a }
def sw (a b : Nat) (W : List Call) (c : Call) : Call := if c ∈ W then swc a b c else c
theorem sw_n {a b : Nat} {W : List Call} {c : Call} : (sw a b W c).n = c.n := by unfold sw; split <;> rfl
theorem sw_i {a b : Nat} {W : List Call} {c : Call} : (sw a b W c).i = c.i := by unfold sw; split <;> rfl
theorem sw_o {a b : Nat} {W : List Call} {c : Call} : (sw a b W c).o = c.o := by unfold sw; split <;> rfl
theorem sw_nums {a b : Nat} {W cs : List Call} : (cs.map (sw a b W)).map (·.n) = cs.map (·.n) := by
  rw [List.map_map]
  exact List.map_congr_left fun c _ => sw_n
theorem sw_good {N M F : Nat} {cs : List Call} {a b o : Nat} {l : List Call} {s : Bool} {e : Nat} (g : Good N M F cs) (hab : a ≠ b) (ha : a < F) (hbF : b < F) (hb : ∀ c ∈ cs, c.o = o → c.f = b → False)
    (h : Chn cs a b o l s e) (fin : Fin cs a b s e) : Good N M F (cs.map (sw a b l)) := by
  have key : ∀ c ∈ cs, ∀ d ∈ cs, (c.i = d.i ∨ c.o = d.o) → c ∈ l → d ∉ l → (swc a b c).f = d.f → False := fun c hc d hd q m m' z => by
    have z : (if c.f = a then b else a) = d.f := z
    rcases h.fr c m with fc | fc
    · rw [if_pos fc] at z
      exact m' (h.closed g hb fin m hd (q.imp Eq.symm Eq.symm) (.inl ⟨fc, z.symm⟩) hab)
    · rw [if_neg (fun y => hab (y.symm.trans fc))] at z
      exact m' (h.closed g hb fin m hd (q.imp Eq.symm Eq.symm) (.inr ⟨fc, z.symm⟩) hab)
  have inj : ∀ c ∈ l, ∀ d ∈ l, (swc a b c).f = (swc a b d).f → c.f = d.f := fun c mc d md z => by
    have z : (if c.f = a then b else a) = (if d.f = a then b else a) := z
    rcases h.fr c mc with fc | fc <;> rcases h.fr d md with fd | fd
    · exact fc.trans fd.symm
    · rw [if_pos fc, if_neg (fun y => hab (y.symm.trans fd))] at z
      exact absurd z.symm hab
    · rw [if_neg (fun y => hab (y.symm.trans fc)), if_pos fd] at z
      exact absurd z hab
    · exact fc.trans fd.symm
  have un : ∀ c ∈ cs, ∀ d ∈ cs, (c.i = d.i ∨ c.o = d.o) → (sw a b l c).f = (sw a b l d).f → c = d := fun c hc d hd q z => by
    have eqs : c.f = d.f → c = d := fun y => q.elim (fun q => g.ui c hc d hd q y) fun q => g.uo c hc d hd q y
    unfold sw at z
    by_cases mc : c ∈ l <;> by_cases md : d ∈ l
    · rw [if_pos mc, if_pos md] at z
      exact eqs (inj c mc d md z)
    · rw [if_pos mc, if_neg md] at z
      exact (key c hc d hd q mc md z).elim
    · rw [if_neg mc, if_pos md] at z
      exact (key d hd c hc (q.imp Eq.symm Eq.symm) md mc z.symm).elim
    · rw [if_neg mc, if_neg md] at z
      exact eqs z
  refine ⟨?_, fun x hx => ?_, fun x hx => ?_, fun x hx => ?_, fun x hx y hy q1 q2 => ?_, fun x hx y hy q1 q2 => ?_⟩
  · rw [sw_nums]; exact g.nd
  · obtain ⟨c, hc, rfl⟩ := List.mem_map.mp hx
    rw [sw_i]; exact g.bi c hc
  · obtain ⟨c, hc, rfl⟩ := List.mem_map.mp hx
    rw [sw_o]; exact g.bo c hc
  · obtain ⟨c, hc, rfl⟩ := List.mem_map.mp hx
    unfold sw
    split
    · show (if c.f = a then b else a) < F
      split
      · exact hbF
      · exact ha
    · exact g.bf c hc
  · obtain ⟨c, hc, rfl⟩ := List.mem_map.mp hx
    obtain ⟨d, hd, rfl⟩ := List.mem_map.mp hy
    rw [sw_i, sw_i] at q1
    rw [un c hc d hd (.inl q1) q2]
  · obtain ⟨c, hc, rfl⟩ := List.mem_map.mp hx
    obtain ⟨d, hd, rfl⟩ := List.mem_map.mp hy
    rw [sw_o, sw_o] at q1
    rw [un c hc d hd (.inr q1) q2]
theorem sw_free_i {cs : List Call} {a b o i : Nat} {l : List Call} {s : Bool} {e : Nat} (hab : a ≠ b) (h : Chn cs a b o l s e) (hi : ∀ c ∈ cs, c.i = i → c.f = a → False) : ∀ c ∈ cs.map (sw a b l), c.i = i → c.f = a → False := by
  intro x hx q1 q2
  obtain ⟨c, hc, rfl⟩ := List.mem_map.mp hx
  rw [sw_i] at q1
  unfold sw at q2
  by_cases m : c ∈ l
  · rw [if_pos m] at q2
    have q2 : (if c.f = a then b else a) = a := q2
    rcases h.fr c m with z | z
    · rw [if_pos z] at q2
      exact hab q2.symm
    · exact h.apart hab hi m q1 z
  · rw [if_neg m] at q2
    exact hi c hc q1 q2
theorem sw_free_o {N M F : Nat} {cs : List Call} {a b o : Nat} {l : List Call} {s : Bool} {e : Nat} (g : Good N M F cs) (hab : a ≠ b) (h : Chn cs a b o l s e) (fin : Fin cs a b s e) (hb : ∀ c ∈ cs, c.o = o → c.f = b → False) :
    ∀ c ∈ cs.map (sw a b l), c.o = o → c.f = a → False := by
  intro x hx q1 q2
  obtain ⟨c, hc, rfl⟩ := List.mem_map.mp hx
  rw [sw_o] at q1
  unfold sw at q2
  by_cases m : c ∈ l
  · rw [if_pos m] at q2
    have q2 : (if c.f = a then b else a) = a := q2
    rcases h.fr c m with z | z
    · rw [if_pos z] at q2
      exact hab q2.symm
    · exact hb c hc q1 z
  · rw [if_neg m] at q2
    exact m (h.head g fin hc q1 q2)
end Hl
namespace Hl
theorem perm_map_ex {α β : Type} {f : α → β} {M N : List β} (h : M.Perm N) : ∀ {l : List α}, N = l.map f → ∃ l' : List α, l'.Perm l ∧ l'.map f = M := by
  induction h with
  | nil => intro l e; exact ⟨l, .refl _, e.symm⟩
  | cons x _ ih =>
    intro l e
    cases l with
    | nil => cases e
    | cons c l =>
      have e1 : x = f c := (List.cons.inj e).1
      obtain ⟨l', p, q⟩ := ih (List.cons.inj e).2
      exact ⟨c :: l', p.cons _, by rw [List.map_cons, q, e1]⟩
  | swap x y t =>
    intro l e
    cases l with
    | nil => cases e
    | cons c l =>
      cases l with
      | nil => cases (List.cons.inj e).2
      | cons c' l =>
        obtain ⟨e1, e2⟩ := List.cons.inj e
        obtain ⟨e3, e4⟩ := List.cons.inj e2
        exact ⟨c' :: c :: l, .swap _ _ _, by rw [List.map_cons, List.map_cons, ← e1, ← e3, ← e4]⟩
  | trans _ _ ih1 ih2 =>
    intro l e
    obtain ⟨l2, p2, q2⟩ := ih2 e
    obtain ⟨l1, p1, q1⟩ := ih1 q2.symm
    exact ⟨l1, p1.trans p2, q1⟩
theorem nd_map {l : List Call} (nd : l.Nodup) (inj : ∀ c ∈ l, ∀ d ∈ l, c.n = d.n → c = d) : (l.map (·.n)).Nodup := by
  induction l with
  | nil => exact List.nodup_nil
  | cons c l ih =>
    obtain ⟨n1, n2⟩ := List.nodup_cons.mp nd
    refine List.nodup_cons.mpr ⟨fun m => ?_, ih n2 fun x hx y hy => inj x (List.mem_cons_of_mem _ hx) y (List.mem_cons_of_mem _ hy)⟩
    obtain ⟨x, hx, e⟩ := List.mem_map.mp m
    exact n1 (inj x (List.mem_cons_of_mem _ hx) c List.mem_cons_self e ▸ hx)
def remN (cs : List Call) (ns : List Nat) : List Call := cs.filter fun d => decide (d.n ∉ ns)
theorem mem_remN {cs : List Call} {ns : List Nat} {d : Call} : d ∈ remN cs ns ↔ d ∈ cs ∧ d.n ∉ ns := by
  unfold remN
  rw [List.mem_filter, decide_eq_true_iff]
theorem remN_nil (cs : List Call) : remN cs [] = cs := List.filter_eq_self.mpr fun d _ => by simp
theorem remN_snoc (cs : List Call) (ns : List Nat) (n : Nat) : (remN cs ns).filter (fun d => decide (d.n ≠ n)) = remN cs (ns ++ [n]) := by
  unfold remN
  rw [List.filter_filter]
  refine List.filter_congr fun d _ => ?_
  by_cases h1 : d.n = n <;> by_cases h2 : d.n ∈ ns <;> simp [h1, h2]
theorem sw_perm {N M F : Nat} {cs l lc : List Call} {a b : Nat} (g : Good N M F cs) (nd : l.Nodup) (sub : ∀ c ∈ l, c ∈ cs) (p : lc.Perm l) : (lc.map (swc a b) ++ remN cs (lc.map (·.n))).Perm (cs.map (sw a b l)) := by
  have h1 : (cs.filter (fun c => decide (c ∈ l)) ++ cs.filter (fun c => !decide (c ∈ l))).Perm cs := List.filter_append_perm _ cs
  have h2 : (cs.filter fun c => decide (c ∈ l)).Perm lc := by
    refine (List.perm_ext_iff_of_nodup (g.nodup.sublist List.filter_sublist) (p.nodup_iff.mpr nd)).mpr fun c => ?_
    rw [List.mem_filter, decide_eq_true_iff, p.mem_iff]
    exact ⟨fun z => z.2, fun z => ⟨sub c z, z⟩⟩
  have h3 : (cs.filter fun c => !decide (c ∈ l)) = remN cs (lc.map (·.n)) := by
    unfold remN
    refine List.filter_congr fun c hc => ?_
    have : c ∈ l ↔ c.n ∈ lc.map (·.n) := ⟨fun z => List.mem_map.mpr ⟨c, p.mem_iff.mpr z, rfl⟩, fun z => by
      obtain ⟨d, hd, e⟩ := List.mem_map.mp z
      have hd := p.mem_iff.mp hd
      exact nd_un g.nd (sub d hd) hc e ▸ hd⟩
    by_cases h : c ∈ l
    · rw [decide_eq_true h, decide_eq_false (fun z => z (this.mp h))]; rfl
    · rw [decide_eq_false h, decide_eq_true (show ¬ c.n ∈ lc.map (·.n) from fun z => h (this.mpr z))]; rfl
  have h4 := (h1.map (sw a b l)).symm
  rw [List.map_append] at h4
  refine List.Perm.trans ?_ h4.symm
  refine List.Perm.append ?_ ?_
  · refine List.Perm.trans ?_ ((h2.map (sw a b l)).symm)
    have e : lc.map (swc a b) = lc.map (sw a b l) := List.map_congr_left fun c hc => by
      unfold sw
      rw [if_pos (p.mem_iff.mp hc)]
    rw [e]
  · rw [h3]
    have e : (remN cs (lc.map (·.n))).map (sw a b l) = (remN cs (lc.map (·.n))).map id := List.map_congr_left fun c hc => by
      have : c ∉ l := fun z => (mem_remN.mp hc).2 (List.mem_map.mpr ⟨c, p.mem_iff.mpr z, rfl⟩)
      unfold sw
      rw [if_neg this]
      rfl
    rw [e, List.map_id]
end Hl
namespace Hl
open PySem L2
def top (i : Nat) : Stmt := PySem.Challenge.pw_switchhall_k02_whole_calls_are_put_throu.main.body.getD (i + 0) (.Pass ⟨0, 0, 0, 0⟩)
abbrev sWhole : Stmt := top 7
abbrev sWithin : Stmt := top 8
abbrev sCheck : Stmt := top 12
abbrev sFree : Stmt := top 13
abbrev sEnd : Stmt := top 14
abbrev sLoad : Stmt := top 15
abbrev sFull : Stmt := top 16
abbrev sLeast : Stmt := top 17
abbrev sBoth : Stmt := top 18
abbrev sInit : Stmt := inClass (top 19) 0
abbrev sPut : Stmt := inClass (top 19) 1
abbrev sDrop : Stmt := inClass (top 19) 2
abbrev sCalls : Stmt := inClass (top 19) 3
abbrev sLoadIn : Stmt := inClass (top 19) 4
abbrev sLoadOut : Stmt := inClass (top 19) 5
abbrev sLay : Stmt := inClass (top 19) 6
abbrev sLift : Stmt := inClass (top 19) 7
abbrev sRoom : Stmt := inClass (top 19) 8
abbrev sWay : Stmt := inClass (top 19) 9
def isB : V → Bool
  | .bl _ => true
  | _ => false
def isI : V → Bool
  | .int _ => true
  | _ => false
def inB (v : V) (lo hi : Int) : Bool := match v with
  | .int i => decide (lo ≤ i) && decide (i ≤ hi)
  | _ => false
theorem ty_int {K : PySem.W.Frag} {H : Hp} {v : V} {T : String} (h : TyOf K H v (.type T)) : kitPure T "int" = some (isI v || isB v) ∧ kitPure T "bool" = some (isB v) := by
  cases h <;> exact ⟨by first | (show kitPure _ _ = some true; decide +kernel) | (show kitPure _ _ = some false; decide +kernel), by first | (show kitPure _ _ = some true; decide +kernel) | (show kitPure _ _ = some false; decide +kernel)⟩
theorem bt_isinstance : bootBuiltins "isinstance" = some (.builtin "isinstance") := by decide +kernel
theorem bt_int : bootBuiltins "int" = some (.type "int") := by decide +kernel
theorem bt_bool : bootBuiltins "bool" = some (.type "bool") := by decide +kernel
theorem bt_sorted : bootBuiltins "sorted" = some (.builtin "sorted") := by decide +kernel
structure Ad where
  (whole within check free endAt load isFull least both init put drop calls lay lift room way hall bad noEnd busy noCall : Addr)
structure Fd where
  (whole within check free endAt load isFull least both init put drop calls lay lift room way : FuncData)
structure HTxt (K : PySem.W.Frag) (mg : Str → Option Value) (a : Ad) (d : Fd) : Prop where
  isi : mg "isinstance" = none
  int_ : mg "int" = none
  bool_ : mg "bool" = none
  len : mg "len" = none
  range : mg "range" = none
  sorted_ : mg "sorted" = none
  zip_ : mg "zip" = none
  ends : ∃ t, mg "MOST_ENDS" = some (.int 12 t)
  frames : ∃ t, mg "MOST_FRAMES" = some (.int 8 t)
  g_whole : mg "is_whole" = some (.ref a.whole)
  g_within : mg "is_whole_within" = some (.ref a.within)
  g_check : mg "check_sizes" = some (.ref a.check)
  g_free : mg "free_ends" = some (.ref a.free)
  g_endAt : mg "end_at" = some (.ref a.endAt)
  g_load : mg "load_of" = some (.ref a.load)
  g_isFull : mg "is_full" = some (.ref a.isFull)
  g_least : mg "least_free" = some (.ref a.least)
  g_both : mg "least_free_at_both" = some (.ref a.both)
  g_hall : mg "Hall" = some (.ref a.hall)
  g_bad : mg "BadHall" = some (.ref a.bad)
  g_noEnd : mg "NoEnd" = some (.ref a.noEnd)
  g_busy : mg "Busy" = some (.ref a.busy)
  g_noCall : mg "NoCall" = some (.ref a.noCall)
  f_whole : Fun K "is_whole" "is_whole" sWhole a.whole d.whole
  f_within : Fun K "is_whole_within" "is_whole_within" sWithin a.within d.within
  f_check : Fun K "check_sizes" "check_sizes" sCheck a.check d.check
  f_free : Fun K "free_ends" "free_ends" sFree a.free d.free
  f_endAt : Fun K "end_at" "end_at" sEnd a.endAt d.endAt
  f_load : Fun K "load_of" "load_of" sLoad a.load d.load
  f_isFull : Fun K "is_full" "is_full" sFull a.isFull d.isFull
  f_least : Fun K "least_free" "least_free" sLeast a.least d.least
  f_both : Fun K "least_free_at_both" "least_free_at_both" sBoth a.both d.both
  f_init : Fun K "__init__" "Hall.__init__" sInit a.init d.init
  f_put : Fun K "put" "Hall.put" sPut a.put d.put
  f_drop : Fun K "drop" "Hall.drop" sDrop a.drop d.drop
  f_calls : Fun K "calls" "Hall.calls" sCalls a.calls d.calls
  f_lay : Fun K "lay" "Hall.lay" sLay a.lay d.lay
  f_lift : Fun K "lift" "Hall.lift" sLift a.lift d.lift
  f_room : Fun K "make_room" "Hall.make_room" sRoom a.room d.room
  f_way : Fun K "way_from" "Hall.way_from" sWay a.way d.way
  b_whole : Binds K d.whole ["value"] []
  b_within : Binds K d.within ["value", "least", "most"] []
  b_check : Binds K d.check ["inlets", "outlets", "frames"] []
  b_free : Binds K d.free ["many", "frames"] []
  b_endAt : Binds K d.endAt ["ends", "place"] []
  b_load : Binds K d.load ["end"] []
  b_isFull : Binds K d.isFull ["end"] []
  b_least : Binds K d.least ["end"] []
  b_both : Binds K d.both ["one", "other"] []
  b_init : Binds K d.init ["self", "inlets", "outlets", "frames"] []
  b_put : Binds K d.put ["self", "inlet", "outlet"] []
  b_drop : Binds K d.drop ["self", "number"] []
  b_calls : Binds K d.calls ["self"] []
  b_lay : Binds K d.lay ["self", "number", "inlet", "outlet", "frame"] []
  b_lift : Binds K d.lift ["self", "number"] []
  b_room : Binds K d.room ["self", "outlet", "frame", "spare"] []
  b_way : Binds K d.way ["self", "outlet", "frame", "spare"] []
  cls : Cls K a.hall
  nI : NoAttr K a.hall "inlet_ends"
  nO : NoAttr K a.hall "outlet_ends"
  nS : NoAttr K a.hall "standing"
  nN : NoAttr K a.hall "next_number"
  mkH : Mk K a.hall a.init
  m_put : Meth K a.hall "put" a.put
  m_drop : Meth K a.hall "drop" a.drop
  m_calls : Meth K a.hall "calls" a.calls
  m_lay : Meth K a.hall "lay" a.lay
  m_lift : Meth K a.hall "lift" a.lift
  m_room : Meth K a.hall "make_room" a.room
  m_way : Meth K a.hall "way_from" a.way
  x_bad : Exc K a.bad
  x_noEnd : Exc K a.noEnd
  x_busy : Exc K a.busy
  x_noCall : Exc K a.noCall
section
variable {P : Program} {w : World} {K : PySem.W.Frag} {mg : Str → Option Value} {base : Heap} {a : Ad} {d : Fd}
def spWhole (K : PySem.W.Frag) : Sp := fun vs H Q _ => ∃ v T, vs = [v] ∧ TyOf K H v (.type T) ∧ Q (.bl (isI v)) H
theorem scWhole : FnScope ["value"] ["value"] (defScope sWhole) := ⟨rfl, rfl, rfl, by decide +kernel, rfl, by decide +kernel, by decide +kernel⟩
theorem ok_whole (T : HTxt K mg a d) : FnOk P w K mg base (CXx P w) 1 a.whole d.whole ["value"] (spWhole K) := by
  refine T.f_whole.okN scWhole (fun vs H Q E h => ?_) (fun cdv A outer s H vs Q E hr h => ?_)
  · obtain ⟨v, Tn, rfl, _⟩ := h
    rfl
  · obtain ⟨v, Tn, rfl, ty, q⟩ := h
    obtain ⟨k1, k2⟩ := ty_int ty
    refine ⟨_, pss_one (ps_ret (pe_and (pe_callB call_isinst rfl T.isi bt_isinstance (pa_cons (pv 0) (pa_cons (pe_bltn (v := .ty "int") rfl T.int_ bt_int rfl) pa_nil)))
      (pe_one (pe_not (pe_callB call_isinst rfl T.isi bt_isinstance (pa_cons (pv 0) (pa_cons (pe_bltn (v := .ty "bool") rfl T.bool_ bt_bool rfl) pa_nil))))))), ?_⟩
    refine ⟨_, rfl, _, _, _, _, _, rfl, ty, rfl, kit_pure k1, _, rfl, ?_⟩
    refine ite2 (fun z => ?_) (fun z => ?_)
    · refine ⟨_, rfl, _, _, _, _, _, rfl, ty, rfl, kit_pure k2, _, rfl, ?_⟩
      cases v <;> first | exact q | exact absurd (show false = true from z) Bool.false_ne_true
    · cases v <;> first | exact q | exact absurd rfl z
def spWithin (K : PySem.W.Frag) : Sp := fun vs H Q _ => ∃ v T lo hi, vs = [v, .int lo, .int hi] ∧ TyOf K H v (.type T) ∧ Q (.bl (inB v lo hi)) H
theorem scWithin : FnScope ["value", "least", "most"] ["value", "least", "most"] (defScope sWithin) := ⟨rfl, rfl, rfl, by decide +kernel, rfl, by decide +kernel, by decide +kernel⟩
theorem ok_within (T : HTxt K mg a d) : FnOk P w K mg base (CXx P w) 2 a.within d.within ["value", "least", "most"] (spWithin K) := by
  have GW : FnOk P w K mg base (CXx P w) 1 a.whole d.whole ["value"] (spWhole K) := ok_whole T
  refine T.f_within.okN scWithin (fun vs H Q E h => ?_) (fun cdv A outer s H vs Q E hr h => ?_)
  · obtain ⟨v, Tn, lo, hi, rfl, _⟩ := h
    rfl
  · obtain ⟨v, Tn, lo, hi, rfl, ty, q⟩ := h
    refine ⟨_, pss_one (ps_ret (pe_and (pe_call GW hr rfl T.g_whole T.f_whole.kp T.b_whole .nil pass0x (pa_cons (pv 0) pa_nil)) (pe_one (pe_chain op_le op_le (pv 1) (pv 0) (pv 2))))), ?_⟩
    refine ⟨_, rfl, v, Tn, rfl, ty, _, rfl, ?_⟩
    refine ite2 (fun z => ?_) (fun z => ?_)
    · cases v with
      | int i =>
        refine ⟨_, rfl, _, rfl, _, _, rfl, rfl, _, rfl, ?_⟩
        refine ite2 (fun y => ?_) (fun y => ?_)
        · refine ⟨_, rfl, _, _, rfl, rfl, ?_⟩
          have e : inB (.int i) lo hi = decide (i ≤ hi) := by
            show (decide (lo ≤ i) && decide (i ≤ hi)) = _
            rw [y, Bool.true_and]
          rw [e] at q
          exact q
        · have e : inB (.int i) lo hi = false := by
            show (decide (lo ≤ i) && decide (i ≤ hi)) = _
            rw [Bool.eq_false_iff.mpr y, Bool.false_and]
          rw [e] at q
          exact q
      | _ => exact absurd (show false = true from z) Bool.false_ne_true
    · cases v <;> first | exact q | exact absurd rfl z
end
end Hl
namespace Hl
open PySem L2
section
variable {P : Program} {w : World} {K : PySem.W.Frag} {mg : Str → Option Value} {base : Heap} {a : Ad} {d : Fd}
def okS (x y z : V) : Bool := inB x 1 12 && inB y 1 12 && inB z 1 8
def spCheck (K : PySem.W.Frag) (bad : Addr) : Sp := fun vs H Q E => ∃ x y z Tx Ty Tz, vs = [x, y, z] ∧ TyOf K H x (.type Tx) ∧ TyOf K H y (.type Ty) ∧ TyOf K H z (.type Tz) ∧ (okS x y z = true → Q .non H) ∧ (okS x y z = false → E (.ref bad) none H)
theorem scCheck : FnScope ["inlets", "outlets", "frames"] ["inlets", "outlets", "frames"] (defScope sCheck) := ⟨rfl, rfl, rfl, by decide +kernel, rfl, by decide +kernel, by decide +kernel⟩
theorem one_line : 1 ≤ sizeLine := by decide
theorem ok_check (T : HTxt K mg a d) : FnOk P w K mg base (CXx P w) 3 a.check d.check ["inlets", "outlets", "frames"] (spCheck K a.bad) := by
  have GI : FnOk P w K mg base (CXx P w) 2 a.within d.within ["value", "least", "most"] (spWithin K) := ok_within T
  obtain ⟨t1, e1⟩ := T.ends
  obtain ⟨t2, e2⟩ := T.frames
  refine T.f_check.okX scCheck (fun vs H Q E h => ?_) (fun X cdv A outer s H vs Q E hX b hr h => ?_)
  · obtain ⟨x, y, z, _, _, _, rfl, _⟩ := h
    rfl
  · subst hX
    obtain ⟨x, y, z, Tx, Ty, Tz, rfl, tx, ty, tz, qg, qb⟩ := h
    refine ⟨_, pss_cons (ps_if (pt_not (pt_val (pe_call GI hr rfl T.g_within T.f_within.kp T.b_within .nil pass0x (pa_cons (pv 0) (pa_cons pe_int (pa_cons (pe_glob (v := .int 12) rfl e1 ⟨t1, rfl⟩) pa_nil))))))
        (pss_one (ps_raise b rfl rfl T.g_bad T.x_bad (pa_cons pe_str pa_nil))) pss_nil)
      (pss_cons (ps_if (pt_not (pt_val (pe_call GI hr rfl T.g_within T.f_within.kp T.b_within .nil pass0x (pa_cons (pv 1) (pa_cons pe_int (pa_cons (pe_glob (v := .int 12) rfl e1 ⟨t1, rfl⟩) pa_nil))))))
        (pss_one (ps_raise b rfl rfl T.g_bad T.x_bad (pa_cons pe_str pa_nil))) pss_nil)
      (pss_one (ps_if (pt_not (pt_val (pe_call GI hr rfl T.g_within T.f_within.kp T.b_within .nil pass0x (pa_cons (pv 2) (pa_cons pe_int (pa_cons (pe_glob (v := .int 8) rfl e2 ⟨t2, rfl⟩) pa_nil))))))
        (pss_one (ps_raise b rfl rfl T.g_bad T.x_bad (pa_cons pe_str pa_nil))) pss_nil))), ?_⟩
    refine ⟨_, rfl, x, Tx, 1, 12, rfl, tx, _, rfl, ?_⟩
    refine ite2 (fun h => ⟨one_line, qb ?_⟩) (fun h1 => ?_)
    · have h' : inB x 1 12 = false := by simpa using h
      show (inB x 1 12 && inB y 1 12 && inB z 1 8) = false
      rw [h']
      rfl
    · refine ⟨_, rfl, y, Ty, 1, 12, rfl, ty, _, rfl, ?_⟩
      refine ite2 (fun h => ⟨one_line, qb ?_⟩) (fun h2 => ?_)
      · have h' : inB y 1 12 = false := by simpa using h
        show (inB x 1 12 && inB y 1 12 && inB z 1 8) = false
        rw [h', Bool.and_false]
        rfl
      · refine ⟨_, rfl, z, Tz, 1, 8, rfl, tz, _, rfl, ?_⟩
        refine ite2 (fun h => ⟨one_line, qb ?_⟩) (fun h3 => qg ?_)
        · have h' : inB z 1 8 = false := by simpa using h
          show (inB x 1 12 && inB y 1 12 && inB z 1 8) = false
          rw [h', Bool.and_false]
        · have g1 : inB x 1 12 = true := by simpa using h1
          have g2 : inB y 1 12 = true := by simpa using h2
          have g3 : inB z 1 8 = true := by simpa using h3
          show (inB x 1 12 && inB y 1 12 && inB z 1 8) = true
          rw [g1, g2, g3]
          rfl
def spFree : Sp := fun vs H Q _ => ∃ n f : Nat, vs = [.int n, .int f] ∧ n ≤ 100 ∧ f ≤ 100 ∧ ∀ (D : Addr) (as : List Addr) (H' : Hp), as.length = n → H' D = some (.lst (as.map V.ref)) → (∀ x ∈ as, H' x = some (.lst (List.replicate f .non))) →
  (D :: as).Nodup → (∀ x ∈ D :: as, H x = none) → Same H H' → Q (.ref D) H'
theorem scFree : FnScope ["many", "frames"] ["many", "frames"] (defScope sFree) := ⟨rfl, rfl, rfl, by decide +kernel, rfl, by decide +kernel, by decide +kernel⟩
theorem rep_one (f : Nat) : (List.replicate f [V.non]).flatten = List.replicate f V.non := by
  induction f with
  | zero => rfl
  | succ f ih => rw [List.replicate_succ, List.flatten_cons, ih, List.replicate_succ]; rfl
theorem ok_free (T : HTxt K mg a d) : FnOk P w K mg base (CXx P w) 1 a.free d.free ["many", "frames"] spFree := by
  refine T.f_free.okN scFree (fun vs H Q E h => ?_) (fun cdv A outer s H vs Q E hr h => ?_)
  · obtain ⟨n, f, rfl, _⟩ := h
    rfl
  · obtain ⟨n, f, rfl, hn, hf, q⟩ := h
    have hsl : sizeLine = 16777216 := sizeLine_eq
    refine ⟨_, pss_one (ps_ret (pe_comp rfl (pi_range1 rfl T.range (pa_cons (pv 0) pa_nil))
      (comp1 (k := 1) rfl (by decide +kernel) (by decide +kernel) rfl rfl rfl ⟨(fun z => nomatch z), ⟨(fun z => nomatch z), ⟨(fun _ => ⟨_, rfl⟩), trivial⟩⟩⟩ rfl (.inr (.inl rfl)) rfl rfl (by decide +kernel))
      (fun _ _ _ _ _ => pifs_nil) (fun _ _ _ _ _ => pe_op op_rep (pe_lst (pa_cons pe_non pa_nil)) (pv 1)))), ?_⟩
    refine ⟨_, rfl, _, rfl, by omega, by omega, fun D hD => ?_⟩
    refine comp_range (lo := 0) (n := n) (fun i H' => ∃ as : List Addr, as.length = i ∧ H' D = some (.lst (as.map V.ref)) ∧ (∀ x ∈ as, H' x = some (.lst (List.replicate f .non))) ∧ (D :: as).Nodup ∧ (∀ x ∈ D :: as, H x = none) ∧ Same H H') ?_ ?_ ?_
    · refine ⟨[], rfl, upd_same, fun x hx => (nomatch hx), by simp, fun x hx => ?_, fun b o e => ?_⟩
      · rw [List.mem_singleton.mp hx]
        exact hD
      · rw [upd_ne (ne_of_none e hD)]
        exact e
    · rintro i H' hi ⟨as, hl, hDl, hx, nd, fr, sm⟩
      refine yes ?_
      refine iteT ?_
      refine ⟨one_line, fun q1 hq1 => ⟨_, rfl, q1, (f : Int), [.non], rfl, rfl, upd_same, by omega, by omega, ?_, fun r hr1 => ⟨as.map V.ref, ?_, ?_, as ++ [r], ?_, ?_, ?_, ?_, ?_, ?_⟩⟩⟩
      · show 1 * ((f : Int)).toNat ≤ sizeLine
        omega
      all_goals
        have nr : r ≠ q1 := fun z => by rw [z, upd_same] at hr1; cases hr1
        have hr' : H' r = none := by rw [upd_ne nr] at hr1; exact hr1
        have nDq : D ≠ q1 := ne_of_none hDl hq1
        have nDr : D ≠ r := ne_of_none hDl hr'
      · rw [upd_ne nDr, upd_ne nDq]
        exact hDl
      · rw [List.length_map, hl]
        omega
      · rw [List.length_append, hl]
        rfl
      · rw [upd_same, List.map_append]
        rfl
      · intro x hxa
        rcases List.mem_append.mp hxa with z | z
        · have e := hx x z
          have nxD : x ≠ D := fun y => (List.nodup_cons.mp nd).1 (y ▸ z)
          rw [upd_ne nxD, upd_ne (ne_of_none e hr'), upd_ne (ne_of_none e hq1)]
          exact e
        · rw [List.mem_singleton.mp z, upd_ne (Ne.symm nDr), upd_same]
          show some (HO.lst (List.replicate ((f : Int)).toNat [V.non]).flatten) = _
          rw [Int.toNat_natCast, rep_one]
      · show (D :: (as ++ [r])).Nodup
        have hra : ¬ r ∈ as := fun m => by have e := hx r m; rw [hr'] at e; cases e
        obtain ⟨n1, n2⟩ := List.nodup_cons.mp nd
        refine List.nodup_cons.mpr ⟨fun m => ?_, nd_snoc n2 hra⟩
        rcases List.mem_append.mp m with z | z
        · exact n1 z
        · exact nDr (List.mem_singleton.mp z)
      · intro x hxa
        rcases List.mem_cons.mp hxa with z | z
        · exact fr x (List.mem_cons.mpr (.inl z))
        · rcases List.mem_append.mp z with y | y
          · exact fr x (List.mem_cons_of_mem _ y)
          · rw [List.mem_singleton.mp y]
            exact sm.free hr'
      · intro b o e
        have e' := sm b o e
        have nbD : b ≠ D := ne_of_none e hD
        rw [upd_ne nbD, upd_ne (ne_of_none e' hr'), upd_ne (ne_of_none e' hq1)]
        exact e'
    · rintro H' ⟨as, hl, hDl, hx, nd, fr, sm⟩
      exact q D as H' hl hDl hx nd fr sm
end
end Hl
namespace Hl
open PySem L2
def flds (I O S : Addr) (n : Int) : List (Str × V) := [("inlet_ends", .ref I), ("outlet_ends", .ref O), ("standing", .ref S), ("next_number", .int n)]
theorem flds_I (I O S : Addr) (n : Int) : (flds I O S n).lookup ("inlet_ends" : Str) = some (.ref I) := by rfl
theorem flds_O (I O S : Addr) (n : Int) : (flds I O S n).lookup ("outlet_ends" : Str) = some (.ref O) := by rfl
theorem flds_S (I O S : Addr) (n : Int) : (flds I O S n).lookup ("standing" : Str) = some (.ref S) := by rfl
theorem flds_N (I O S : Addr) (n : Int) : (flds I O S n).lookup ("next_number" : Str) = some (.int n) := by rfl
theorem flds_calls (I O S : Addr) (n : Int) : (flds I O S n).lookup ("calls" : Str) = none := by rfl
theorem flds_loadIn (I O S : Addr) (n : Int) : (flds I O S n).lookup ("load_in" : Str) = none := by rfl
theorem flds_loadOut (I O S : Addr) (n : Int) : (flds I O S n).lookup ("load_out" : Str) = none := by rfl
def Rows (H : Hp) (xs : List Addr) (rs : List (List V)) : Prop := xs.length = rs.length ∧ ∀ (j : Nat) x r, xs[j]? = some x → rs[j]? = some r → H x = some (.lst r)
structure HallAt (C : Addr) (H : Hp) (p I O S : Addr) (ia oa : List Addr) (ri ro : List (List V)) (kvs : List (Key × V)) (nx : Int) : Prop where
  ob : ∃ dx, H p = some (.ins C dx (flds I O S nx))
  li : H I = some (.lst (ia.map V.ref))
  lo : H O = some (.lst (oa.map V.ref))
  ri : Rows H ia ri
  ro : Rows H oa ro
  st : H S = some (.dK kvs)
  nd : (I :: O :: (ia ++ oa)).Nodup
section
variable {P : Program} {w : World} {K : PySem.W.Frag} {mg : Str → Option Value} {base : Heap} {a : Ad} {d : Fd}
def spEnd (K : PySem.W.Frag) (no : Addr) : Sp := fun vs H Q E => ∃ l xs v T, vs = [.ref l, v] ∧ SqL K H l xs ∧ TyOf K H v (.type T) ∧ (∀ (i : Nat) y, v = .int i → xs[i]? = some y → Q y H) ∧ (inB v 0 ((xs.length : Int) - 1) = false → E (.ref no) none H)
theorem scEnd : FnScope ["ends", "place"] ["ends", "place"] (defScope sEnd) := ⟨rfl, rfl, rfl, by decide +kernel, rfl, by decide +kernel, by decide +kernel⟩
theorem ok_end (T : HTxt K mg a d) : FnOk P w K mg base (CXx P w) 3 a.endAt d.endAt ["ends", "place"] (spEnd K a.noEnd) := by
  have GI : FnOk P w K mg base (CXx P w) 2 a.within d.within ["value", "least", "most"] (spWithin K) := ok_within T
  refine T.f_endAt.okX scEnd (fun vs H Q E h => ?_) (fun X cdv A outer s H vs Q E hX b hr h => ?_)
  · obtain ⟨l, xs, v, _, rfl, _⟩ := h
    rfl
  · subst hX
    obtain ⟨l, xs, v, Tv, rfl, hS, tv, qg, qb⟩ := h
    refine ⟨_, pss_cons (ps_if (pt_not (pt_val (pe_call GI hr rfl T.g_within T.f_within.kp T.b_within .nil pass0x (pa_cons (pv 1) (pa_cons pe_int (pa_cons (pe_op op_sub (pe_callB call_len_seq rfl T.len PySem.boot_len (pa_cons (pv 0) pa_nil)) pe_int) pa_nil))))))
        (pss_one (ps_raise b rfl rfl T.g_noEnd T.x_noEnd (pa_cons pe_str pa_nil))) pss_nil)
      (pss_one (ps_ret (pe_ix ix_list (pv 0) (pv 1) (fun _ _ => rfl)))), ?_⟩
    refine ⟨_, rfl, _, rfl, l, xs, rfl, .inl hS, _, _, rfl, rfl, v, Tv, 0, (xs.length : Int) - 1, rfl, tv, _, rfl, ?_⟩
    refine ite2 (fun h => ⟨one_line, qb (by simpa using h)⟩) (fun h1 => ?_)
    have g : inB v 0 ((xs.length : Int) - 1) = true := by simpa using h1
    cases v with
    | int i =>
      have g : (decide (0 ≤ i) && decide (i ≤ (xs.length : Int) - 1)) = true := g
      rw [Bool.and_eq_true, decide_eq_true_iff, decide_eq_true_iff] at g
      obtain ⟨k, rfl⟩ := Int.eq_ofNat_of_zero_le g.1
      have hk : k < xs.length := by omega
      have e : xs[k]? = some xs[k] := List.getElem?_eq_getElem hk
      exact ⟨_, rfl, _, rfl, l, xs, (k : Int), xs[k], rfl, rfl, hS, atI_nat e, qg k _ rfl e⟩
    | _ => exact absurd (show false = true from g) Bool.false_ne_true
def loadV (r : List V) : Int := (r.length : Int) - ((r.countP fun z => eqV z .non : Nat) : Int)
def spLoad (K : PySem.W.Frag) : Sp := fun vs H Q _ => ∃ l xs, vs = [.ref l] ∧ SqL K H l xs ∧ xs.all flatV = true ∧ Q (.int (loadV xs)) H
theorem scLoad : FnScope ["end"] ["end"] (defScope sLoad) := ⟨rfl, rfl, rfl, by decide +kernel, rfl, by decide +kernel, by decide +kernel⟩
theorem ok_load (T : HTxt K mg a d) : FnOk P w K mg base (CXx P w) 1 a.load d.load ["end"] (spLoad K) := by
  refine T.f_load.okN scLoad (fun vs H Q E h => ?_) (fun cdv A outer s H vs Q E hr h => ?_)
  · obtain ⟨l, xs, rfl, _⟩ := h
    rfl
  · obtain ⟨l, xs, rfl, hS, fx, q⟩ := h
    refine ⟨_, pss_one (ps_ret (pe_op op_sub (pe_callB call_len_seq rfl T.len PySem.boot_len (pa_cons (pv 0) pa_nil)) (pe_bm PySem.F.plainAttrs_list PySem.F.slot_list_count PySem.F.type_list_count mt_count (pv 0) (pa_cons pe_non pa_nil)))), ?_⟩
    exact ⟨_, rfl, l, xs, rfl, .inl hS, _, rfl, .inl ⟨rfl, xs, hS⟩, l, xs, .non, rfl, rfl, hS, rfl, fx, _, _, rfl, rfl, q⟩
def spInit (K : PySem.W.Frag) (a : Ad) : Sp := fun vs H Q E => ∃ p dx x y z Tx Ty Tz, vs = [.ref p, x, y, z] ∧ H p = some (.ins a.hall dx []) ∧ TyOf K H x (.type Tx) ∧ TyOf K H y (.type Ty) ∧ TyOf K H z (.type Tz) ∧
  (okS x y z = false → E (.ref a.bad) none H) ∧ (∀ n m f : Nat, x = .int n → y = .int m → z = .int f → okS x y z = true → ∀ I O S ia oa H',
    HallAt a.hall H' p I O S ia oa (List.replicate n (List.replicate f .non)) (List.replicate m (List.replicate f .non)) [] 0 → (∀ b o, H b = some o → b ≠ p → H' b = some o) → (∀ b ∈ I :: O :: S :: (ia ++ oa), H b = none) → Q .non H')
theorem scInit : FnScope ["self", "inlets", "outlets", "frames"] ["self", "inlets", "outlets", "frames"] (defScope sInit) := ⟨rfl, rfl, rfl, by decide +kernel, rfl, by decide +kernel, by decide +kernel⟩
theorem okS_nat {x y z : V} (h : okS x y z = true) : ∃ n m f : Nat, x = .int n ∧ y = .int m ∧ z = .int f ∧ 1 ≤ n ∧ n ≤ 12 ∧ 1 ≤ m ∧ m ≤ 12 ∧ 1 ≤ f ∧ f ≤ 8 := by
  have h : (inB x 1 12 && inB y 1 12 && inB z 1 8) = true := h
  rw [Bool.and_eq_true, Bool.and_eq_true] at h
  obtain ⟨⟨h1, h2⟩, h3⟩ := h
  have nat : ∀ {v : V} {hi : Int}, inB v 1 hi = true → ∃ n : Nat, v = .int n ∧ 1 ≤ n ∧ (n : Int) ≤ hi := fun {v hi} h => by
    cases v with
    | int i =>
      have h : (decide (1 ≤ i) && decide (i ≤ hi)) = true := h
      rw [Bool.and_eq_true, decide_eq_true_iff, decide_eq_true_iff] at h
      obtain ⟨k, rfl⟩ := Int.eq_ofNat_of_zero_le (show 0 ≤ i by omega)
      exact ⟨k, rfl, by omega, h.2⟩
    | _ => exact absurd (show false = true from h) Bool.false_ne_true
  obtain ⟨n, e1, a1, b1⟩ := nat h1
  obtain ⟨m, e2, a2, b2⟩ := nat h2
  obtain ⟨f, e3, a3, b3⟩ := nat h3
  exact ⟨n, m, f, e1, e2, e3, a1, by omega, a2, by omega, a3, by omega⟩
theorem rows_rep {H : Hp} {xs : List Addr} {n : Nat} {r : List V} (hl : xs.length = n) (h : ∀ x ∈ xs, H x = some (.lst r)) : Rows H xs (List.replicate n r) := by
  refine ⟨by rw [List.length_replicate]; exact hl, fun j x r' e1 e2 => ?_⟩
  rw [List.getElem?_replicate] at e2
  split at e2
  · cases e2
    exact h x (List.mem_of_getElem? e1)
  · cases e2
theorem ok_init (T : HTxt K mg a d) : FnOk P w K mg base (CXx P w) 4 a.init d.init ["self", "inlets", "outlets", "frames"] (spInit K a) := by
  have GC : FnOk P w K mg base (CXx P w) 3 a.check d.check ["inlets", "outlets", "frames"] (spCheck K a.bad) := ok_check T
  have GF : FnOk P w K mg base (CXx P w) 1 a.free d.free ["many", "frames"] spFree := ok_free T
  refine T.f_init.okX scInit (fun vs H Q E h => ?_) (fun X cdv A outer s H vs Q E hX b hr h => ?_)
  · obtain ⟨p, dx, x, y, z, _, _, _, rfl, _⟩ := h
    rfl
  · subst hX
    obtain ⟨p, dx, x, y, z, Tx, Ty, Tz, rfl, hp, tx, ty, tz, qb, qg⟩ := h
    have hr1 : Room 1 _ := hr.mono (by decide)
    refine ⟨_, pss_cons (ps_expr (pe_call GC hr rfl T.g_check T.f_check.kp T.b_check .nil b.pass_ (pa_cons (pv 1) (pa_cons (pv 2) (pa_cons (pv 3) pa_nil)))))
      (pss_cons (ps_fld (pv 0) (pe_call GF hr1 rfl T.g_free T.f_free.kp T.b_free .nil pass0x (pa_cons (pv 1) (pa_cons (pv 3) pa_nil))) rfl)
      (pss_cons (ps_fld (pv 0) (pe_call GF hr1 rfl T.g_free T.f_free.kp T.b_free .nil pass0x (pa_cons (pv 2) (pa_cons (pv 3) pa_nil))) rfl)
      (pss_cons (ps_fld (pv 0) pe_dnewK rfl) (pss_one (ps_fld (pv 0) pe_int rfl))))), ?_⟩
    refine ⟨_, rfl, _, rfl, _, rfl, x, y, z, Tx, Ty, Tz, rfl, tx, ty, tz, fun ok => ?_, qb⟩
    obtain ⟨n, m, f, rfl, rfl, rfl, n1, n2, m1, m2, f1, f2⟩ := okS_nat ok
    -- self.inlet_ends = free_ends(inlets, frames)
    refine ⟨_, rfl, _, rfl, n, f, rfl, by omega, by omega, fun I ia H1 l1 hI hia ndI frI sm1 => ?_⟩
    have p1 := sm1 _ _ hp
    refine ⟨_, rfl, p, a.hall, dx, [], rfl, p1, T.cls, T.nI, by show 0 < 1000; decide, ?_⟩
    have npI : ∀ c ∈ I :: ia, c ≠ p := fun c hc z => by rw [← z, frI c hc] at hp; cases hp
    -- self.outlet_ends = free_ends(outlets, frames)
    refine ⟨_, rfl, _, rfl, m, f, rfl, by omega, by omega, fun O oa H2 l2 hO hoa ndO frO sm2 => ?_⟩
    have p2 := sm2 p _ upd_same
    refine ⟨_, rfl, p, a.hall, dx, _, rfl, p2, T.cls, T.nO, by show 1 < 1000; decide, ?_⟩
    have npO : ∀ c ∈ O :: oa, c ≠ p := fun c hc z => by have e := frO c hc; rw [z, upd_same] at e; cases e
    have inI : ∀ c ∈ I :: ia, ∃ o, H1 c = some o := fun c hc => by
      rcases List.mem_cons.mp hc with z | z
      · rw [z]; exact ⟨_, hI⟩
      · exact ⟨_, hia c z⟩
    have frO1 : ∀ c ∈ O :: oa, H1 c = none := fun c hc => by have e := frO c hc; rw [upd_ne (npO c hc)] at e; exact e
    have nIO : ∀ c ∈ O :: oa, c ∉ I :: ia := fun c hc m => by
      obtain ⟨o, e⟩ := inI c m
      rw [frO1 c hc] at e
      cases e
    -- self.standing = {}; self.next_number = 0
    intro S hS
    have hS2 : H2 S = none := by
      have nSp : S ≠ p := fun z => by rw [z, upd_same] at hS; cases hS
      rw [upd_ne nSp] at hS
      exact hS
    have nSp : S ≠ p := fun z => by rw [z, upd_same] at hS; cases hS
    refine ⟨_, rfl, p, a.hall, dx, _, rfl, by rw [upd_ne (Ne.symm nSp)]; exact upd_same, T.cls, T.nS, by show 2 < 1000; decide, ?_⟩
    refine ⟨_, rfl, p, a.hall, dx, _, rfl, upd_same, T.cls, T.nN, by show 3 < 1000; decide, ?_⟩
    -- what stands
    have at1 : ∀ c o, H1 c = some o → c ≠ p → H2 c = some o := fun c o e n => sm2 c o (by rw [upd_ne n]; exact e)
    have at2 : ∀ c o, H2 c = some o → c ≠ p → upd (upd (upd (upd H2 p (.ins a.hall dx (putF "outlet_ends" (.ref O) (putF "inlet_ends" (.ref I) [])))) S (.dK [])) p (.ins a.hall dx (putF "standing" (.ref S) (putF "outlet_ends" (.ref O) (putF "inlet_ends" (.ref I) []))))) p (.ins a.hall dx (flds I O S 0)) c = some o := fun c o e n => by
      rw [upd_ne n, upd_ne n, upd_ne (ne_of_none e hS2), upd_ne n]
      exact e
    refine qg n m f rfl rfl rfl ok I O S ia oa _ ⟨⟨dx, upd_same⟩, at2 _ _ (at1 _ _ hI (npI _ List.mem_cons_self)) (npI _ List.mem_cons_self), at2 _ _ hO (npO _ List.mem_cons_self),
      rows_rep l1 fun c hc => at2 _ _ (at1 _ _ (hia c hc) (npI c (List.mem_cons_of_mem _ hc))) (npI c (List.mem_cons_of_mem _ hc)), rows_rep l2 fun c hc => at2 _ _ (hoa c hc) (npO c (List.mem_cons_of_mem _ hc)), ?_, ?_⟩ (fun c o e n => ?_) (fun c hc => ?_)
    · rw [upd_ne nSp, upd_ne nSp, upd_same]
    · obtain ⟨i1, i2⟩ := List.nodup_cons.mp ndI
      obtain ⟨o1, o2⟩ := List.nodup_cons.mp ndO
      refine List.nodup_cons.mpr ⟨fun mm => ?_, List.nodup_cons.mpr ⟨fun mm => ?_, List.nodup_append.mpr ⟨i2, o2, fun c hc c' hc' z => ?_⟩⟩⟩
      · rcases List.mem_cons.mp mm with z | z
        · exact nIO O List.mem_cons_self (by rw [← z]; exact List.mem_cons_self)
        · rcases List.mem_append.mp z with y | y
          · exact i1 y
          · exact nIO I (List.mem_cons_of_mem _ y) List.mem_cons_self
      · rcases List.mem_append.mp mm with y | y
        · exact nIO O List.mem_cons_self (List.mem_cons_of_mem _ y)
        · exact o1 y
      · exact nIO c' (List.mem_cons_of_mem _ hc') (by rw [← z]; exact List.mem_cons_of_mem _ hc)
    · exact at2 c o (at1 c o (sm1 c o e) n) n
    · have frH1 : ∀ c, H1 c = none → H c = none := fun c e => sm1.free e
      have frH2 : ∀ c, c ≠ p → H2 c = none → H1 c = none := fun c n e => by
        cases q : H1 c with
        | none => rfl
        | some o => rw [at1 c o q n] at e; cases e
      rcases List.mem_cons.mp hc with z | z
      · rw [z]; exact frI I List.mem_cons_self
      · rcases List.mem_cons.mp z with z | z
        · rw [z]; exact frH1 _ (frO1 O List.mem_cons_self)
        · rcases List.mem_cons.mp z with z | z
          · rw [z]; exact frH1 _ (frH2 S nSp hS2)
          · rcases List.mem_append.mp z with y | y
            · exact frI c (List.mem_cons_of_mem _ y)
            · exact frH1 _ (frO1 c (List.mem_cons_of_mem _ y))
end
end Hl
namespace Hl
open PySem L2
section
variable {P : Program} {w : World} {K : PySem.W.Frag} {mg : Str → Option Value} {base : Heap} {a : Ad} {d : Fd}
theorem rows_get {H : Hp} {xs : List Addr} {rs : List (List V)} (h : Rows H xs rs) {i : Nat} {x : Addr} (e : xs[i]? = some x) : ∃ r, rs[i]? = some r ∧ H x = some (.lst r) := by
  cases q : rs[i]? with
  | none =>
    have h1 := (List.getElem?_eq_some_iff.mp e).1
    have h2 := List.getElem?_eq_none_iff.mp q
    rw [h.1] at h1
    omega
  | some r => exact ⟨r, rfl, h.2 i x r e q⟩
set_option genInjectivity false in
set_option genSizeOf false in
structure Ent where
  (n : Int) (t : Addr) (x y z : V)
def entK (es : List Ent) : List (Key × V) := es.map fun e => (Sum.inl e.n, .ref e.t)
def EntAt (H : Hp) (es : List Ent) : Prop := (∀ e ∈ es, H e.t = some (.tup [e.x, e.y, e.z])) ∧ (es.map (·.n)).Nodup
theorem ent_val {H : Hp} {es : List Ent} (h : EntAt H es) {e : Ent} (he : e ∈ es) : valV (entK es) (Sum.inl e.n : Key) = some (.ref e.t) := by
  have nd := h.2
  clear h
  induction es with
  | nil => exact nomatch he
  | cons f r ih =>
    have nd : (f.n :: r.map (·.n)).Nodup := nd
    obtain ⟨n1, n2⟩ := List.nodup_cons.mp nd
    show valV ((Sum.inl f.n, V.ref f.t) :: entK r) (Sum.inl e.n : Key) = _
    rcases List.mem_cons.mp he with z | z
    · rw [z]
      exact valV_pos rfl
    · have ne : ¬ (Sum.inl f.n : Key) = Sum.inl e.n := fun q => n1 (by
        have q : f.n = e.n := Sum.inl.inj q
        rw [q]
        exact List.mem_map.mpr ⟨e, z, rfl⟩)
      rw [valV_neg (p := (Sum.inl f.n, V.ref f.t)) ne]
      exact ih z n2
theorem ent_keys (es : List Ent) : (entK es).map (·.1) = (es.map (·.n)).map Sum.inl := by
  unfold entK
  rw [List.map_map, List.map_map]
  rfl
def spCalls (a : Ad) : Sp := fun vs H Q _ => ∃ p I O S ia oa ri ro es nx, vs = [.ref p] ∧ HallAt a.hall H p I O S ia oa ri ro (entK es) nx ∧ EntAt H es ∧ es.length < 64 ∧
  ∀ (L : Addr) (ts : List Addr) (H' : Hp), Same H H' → H L = none → H' L = some (.lst (ts.map V.ref)) → ts.length = es.length →
    (∀ (j : Nat) t n, ts[j]? = some t → (srt (es.map (·.n)))[j]? = some n → ∃ e ∈ es, e.n = n ∧ H' t = some (.tup [.int n, e.x, e.y, e.z])) → (L :: ts).Nodup → (∀ t ∈ ts, H t = none) → Q (.ref L) H'
theorem scCalls : FnScope ["self", "told", "number", "call"] ["self"] (defScope sCalls) := ⟨rfl, rfl, rfl, by decide +kernel, rfl, by decide +kernel, by decide +kernel⟩
theorem ok_calls (T : HTxt K mg a d) : FnOk P w K mg base (CXx P w) 1 a.calls d.calls ["self"] (spCalls a) := by
  refine T.f_calls.okN scCalls (fun vs H Q E h => ?_) (fun cdv A outer s H vs Q E hr h => ?_)
  · obtain ⟨p, I, O, S, ia, oa, ri, ro, es, nx, rfl, _⟩ := h
    rfl
  · obtain ⟨p, I, O, S, ia, oa, ri, ro, es, nx, rfl, hA, hE, h64, q⟩ := h
    have hu := hu_of hr
    have hsl : sizeLine = 16777216 := sizeLine_eq
    obtain ⟨dx, ob⟩ := hA.ob
    refine ⟨_, pss_cons (ps_set (i := 1) scCalls.nd rfl (Or.inl rfl) (pe_lst pa_nil))
      (pss_cons (ps_for PassesOwn.never rfl (pi_list (pe_callB (call_sortedD rfl) rfl T.sorted_ bt_sorted (pa_cons (pe_fld (pv 0) rfl) pa_nil))) (pg_name (i := 2) scCalls.nd rfl (Or.inl rfl))
        (pss_cons (ps_set (i := 3) scCalls.nd rfl (Or.inl rfl) (pe_dget hu (pe_fld (pv 0) rfl) (pv 2) (fun _ _ => rfl)))
        (pss_one (ps_expr (pe_bm PySem.F.plainAttrs_list PySem.F.slot_list_append PySem.F.type_list_append mt_append (pv 1)
          (pa_cons (pe_tup (pa_cons (pv 2) (pa_cons (pe_ix ix_tup (pv 3) pe_int (fun _ _ => rfl)) (pa_cons (pe_ix ix_tup (pv 3) pe_int (fun _ _ => rfl)) (pa_cons (pe_ix ix_tup (pv 3) pe_int (fun _ _ => rfl)) pa_nil))))) pa_nil))))))
      (pss_one (ps_ret (pv 1)))), ?_⟩
    -- told = []
    refine ⟨Nat.zero_le _, fun L hL => ?_⟩
    have same1 : Same H (upd H L (.lst [])) := fun b o e => by rw [upd_ne (ne_of_none e hL)]; exact e
    -- sorted(self.standing)
    refine ⟨_, rfl, p, a.hall, dx, _, _, rfl, same1 _ _ ob, T.cls, T.nS, flds_S _ _ _ _, S, entK es, es.map (·.n), rfl, same1 _ _ hA.st, ent_keys es, by rw [List.length_map]; exact h64, fun R hR => ?_⟩
    have nLR : L ≠ R := fun z => by rw [← z, upd_same] at hR; cases hR
    have hR0 : H R = none := by rw [upd_ne (Ne.symm nLR)] at hR; exact hR
    refine ⟨R, rfl, ⟨_, SqL.of upd_same⟩, for_list (K := K) (a := R) (xs := (srt (es.map (·.n))).map V.int) (fun i σ H' => ∃ (ts : List Addr) (v1 v2 : Option V), σ = [some (.ref p), some (.ref L), v1, v2] ∧ Same H H' ∧ H' R = some (.lst ((srt (es.map (·.n))).map V.int)) ∧
      H' L = some (.lst (ts.map V.ref)) ∧ ts.length = i ∧ (∀ (j : Nat) t n, ts[j]? = some t → (srt (es.map (·.n)))[j]? = some n → ∃ e ∈ es, e.n = n ∧ H' t = some (.tup [.int n, e.x, e.y, e.z])) ∧ (L :: ts).Nodup ∧ (∀ t ∈ ts, H t = none)) ?_ (fun i σ H' _ hh => ?_) ?_ ?_⟩
    · refine ⟨[], none, none, rfl, fun b o e => ?_, upd_same, ?_, rfl, fun j t n e => ?_, by simp, fun t ht => nomatch ht⟩
      · rw [upd_ne (ne_of_none e hR0)]
        exact same1 b o e
      · rw [upd_ne nLR, upd_same]
        rfl
      · simp at e
    · obtain ⟨_, _, _, _, _, h1, _⟩ := hh
      exact SqL.of h1
    · rintro i y σ H' hi ⟨ts, v1, v2, rfl, sm, hR', hL', hl, hts, nd, fr⟩
      rw [List.getElem?_map] at hi
      cases e1 : (srt (es.map (·.n)))[i]? with
      | none => rw [e1] at hi; cases hi
      | some n =>
        rw [e1] at hi
        cases Option.some.inj hi
        have hlen : i < es.length := by
          have z := (List.getElem?_eq_some_iff.mp e1).1
          rw [srt_length, List.length_map] at z
          exact z
        obtain ⟨e, he, hn⟩ := List.mem_map.mp ((srt_perm (es.map (·.n))).mem_iff.mp (List.mem_of_getElem? e1))
        have hn : e.n = n := hn
        subst hn
        have ht := sm _ _ (hE.1 e he)
        -- call = self.standing[number]
        refine ⟨_, rfl, p, a.hall, dx, _, _, rfl, sm _ _ ob, T.cls, T.nS, flds_S _ _ _ _, _, rfl, S, .ref e.t, rfl, (by rw [← ent_val hE he]; exact DGet.k (k := Sum.inl e.n) (sm _ _ hA.st)), ?_⟩
        -- told.append((number, call[0], call[1], call[2]))
        refine ⟨_, rfl, .inl ⟨rfl, _, SqL.of hL'⟩, _, rfl, _, rfl, e.t, _, (0 : Nat), e.x, rfl, rfl, SqT.of ht, atI_nat rfl, _, rfl, e.t, _, (1 : Nat), e.y, rfl, rfl, SqT.of ht, atI_nat rfl, _, rfl, e.t, _, (2 : Nat), e.z, rfl, rfl, SqT.of ht, atI_nat rfl,
          by show 4 ≤ sizeLine; omega, fun tp htp => ⟨L, ts.map V.ref, .ref tp, rfl, rfl, ?_, ?_, ?_⟩⟩
        all_goals
          have nLt : L ≠ tp := ne_of_none hL' htp
          have nRt : R ≠ tp := ne_of_none hR' htp
        · rw [upd_ne nLt]
          exact hL'
        · rw [List.length_map, hl]
          omega
        · have ntp : ¬ tp ∈ ts := fun m => by
            obtain ⟨j, hj⟩ := List.getElem?_of_mem m
            have hjl : j < es.length := by have z := (List.getElem?_eq_some_iff.mp hj).1; omega
            obtain ⟨e', _, _, z⟩ := hts j tp _ hj (List.getElem?_eq_getElem (by rw [srt_length, List.length_map]; exact hjl))
            rw [htp] at z
            cases z
          refine ⟨ts ++ [tp], _, _, rfl, fun b o z => ?_, ?_, ?_, ?_, fun j t n z1 z2 => ?_, ?_, fun t m => ?_⟩
          · have z' := sm b o z
            rw [upd_ne (ne_of_none z hL), upd_ne (ne_of_none z' htp)]
            exact z'
          · rw [upd_ne (Ne.symm nLR), upd_ne nRt]
            exact hR'
          · rw [upd_same, List.map_append]
            rfl
          · rw [List.length_append, hl]
            rfl
          · by_cases hj : j < ts.length
            · rw [List.getElem?_append_left hj] at z1
              obtain ⟨e', m', q1, q2⟩ := hts j t n z1 z2
              have ntL : t ≠ L := fun y => (List.nodup_cons.mp nd).1 (y ▸ List.mem_of_getElem? z1)
              refine ⟨e', m', q1, ?_⟩
              rw [upd_ne ntL, upd_ne (ne_of_none q2 htp)]
              exact q2
            · have hj' : j = ts.length := by
                have z := (List.getElem?_eq_some_iff.mp z1).1
                rw [List.length_append, List.length_singleton] at z
                omega
              subst hj'
              rw [List.getElem?_append_right (Nat.le_refl _), Nat.sub_self] at z1
              cases (show some tp = some t from z1)
              rw [hl, e1] at z2
              cases z2
              exact ⟨e, he, rfl, by rw [upd_ne (Ne.symm nLt), upd_same]⟩
          · obtain ⟨n1, n2⟩ := List.nodup_cons.mp nd
            refine List.nodup_cons.mpr ⟨fun m => ?_, nd_snoc n2 ntp⟩
            rcases List.mem_append.mp m with z | z
            · exact n1 z
            · exact nLt (List.mem_singleton.mp z)
          · rcases List.mem_append.mp m with z | z
            · exact fr t z
            · rw [List.mem_singleton.mp z]
              exact sm.free htp
    · rintro σ H' ⟨ts, v1, v2, rfl, sm, hR', hL', hl, hts, nd, fr⟩
      refine ⟨_, rfl, q L ts H' sm hL hL' ?_ hts nd fr⟩
      rw [hl, List.length_map, srt_length, List.length_map]
end
end Hl
namespace Hl
open PySem L2
theorem Rows.same {H H' : Hp} {xs : List Addr} {rs : List (List V)} (h : Rows H xs rs) (s : Same H H') : Rows H' xs rs := ⟨h.1, fun j x r e1 e2 => s _ _ (h.2 j x r e1 e2)⟩
theorem HallAt.same {C : Addr} {H H' : Hp} {p I O S : Addr} {ia oa : List Addr} {ri ro : List (List V)} {kvs : List (Key × V)} {nx : Int} (h : HallAt C H p I O S ia oa ri ro kvs nx) (s : Same H H') : HallAt C H' p I O S ia oa ri ro kvs nx :=
  ⟨let ⟨dx, e⟩ := h.ob; ⟨dx, s _ _ e⟩, s _ _ h.li, s _ _ h.lo, h.ri.same s, h.ro.same s, s _ _ h.st, h.nd⟩
def Row (F : Nat) (cs : List Call) (sel : Call → Nat) (e : Nat) (r : List V) : Prop :=
  r.length = F ∧ ∀ (f : Nat) v, r[f]? = some v → (v = .non ∧ ∀ c ∈ cs, sel c = e → c.f = f → False) ∨ ∃ c ∈ cs, sel c = e ∧ c.f = f ∧ v = .int c.n
section
variable {F : Nat} {cs ds : List Call} {sel : Call → Nat} {e : Nat} {r : List V}
theorem Row.congr (h : Row F cs sel e r) (m : ∀ c, c ∈ cs ↔ c ∈ ds) : Row F ds sel e r :=
  ⟨h.1, fun f v q => (h.2 f v q).imp (fun zy8 => (by obtain ⟨z1, z2⟩ := zy8; exact ⟨z1, fun c hc => z2 c ((m c).mpr hc)⟩)) fun zy9 => (by obtain ⟨c, hc, z⟩ := zy9; exact ⟨c, (m c).mp hc, z⟩)⟩
theorem Row.flat (h : Row F cs sel e r) : r.all flatV = true := by
  rw [List.all_eq_true]
  intro x hx
  obtain ⟨f, hf⟩ := List.getElem?_of_mem hx
  rcases h.2 f x hf with ⟨rfl, _⟩ | ⟨c, _, _, _, rfl⟩
  · rfl
  · rfl
theorem Row.at_ (h : Row F cs sel e r) {c : Call} (un : ∀ d ∈ cs, sel d = sel c → d.f = c.f → d = c) (hc : c ∈ cs) (q : sel c = e) (hf : c.f < F) : r[c.f]? = some (.int c.n) := by
  have hl : c.f < r.length := by rw [h.1]; exact hf
  have z : r[c.f]? = some r[c.f] := List.getElem?_eq_getElem hl
  rcases h.2 _ _ z with ⟨_, y⟩ | ⟨d, hd, y1, y2, y3⟩
  · exact (y c hc q rfl).elim
  · rw [un d hd (y1.trans q.symm) y2] at y3
    rw [z, y3]
theorem Row.none_ (h : Row F cs sel e r) {f : Nat} (hf : f < F) (hn : ∀ c ∈ cs, sel c = e → c.f = f → False) : r[f]? = some .non := by
  have hl : f < r.length := by rw [h.1]; exact hf
  have z : r[f]? = some r[f] := List.getElem?_eq_getElem hl
  rcases h.2 _ _ z with ⟨y, _⟩ | ⟨d, hd, y1, y2, y3⟩
  · rw [z, y]
  · exact (hn d hd y1 y2).elim
theorem Row.free (h : Row F cs sel e r) {f : Nat} (q : r[f]? = some .non) : f < F ∧ ∀ c ∈ cs, sel c = e → c.f = f → False := by
  refine ⟨by rw [← h.1]; exact (List.getElem?_eq_some_iff.mp q).1, ?_⟩
  rcases h.2 _ _ q with ⟨_, y⟩ | ⟨d, _, _, _, y3⟩
  · exact y
  · cases y3
theorem Row.put (h : Row F cs sel e r) {c : Call} (q : sel c = e) (hn : ∀ d ∈ cs, sel d = e → d.f = c.f → False) : Row F (c :: cs) sel e (r.set c.f (.int c.n)) := by
  refine ⟨by rw [List.length_set]; exact h.1, fun f v z => ?_⟩
  rw [List.getElem?_set] at z
  by_cases hf : c.f = f
  · rw [if_pos hf] at z
    split at z
    · cases z
      exact .inr ⟨c, List.mem_cons_self, q, hf, rfl⟩
    · cases z
  · rw [if_neg hf] at z
    rcases h.2 f v z with ⟨y1, y2⟩ | ⟨d, hd, y⟩
    · refine .inl ⟨y1, fun d hd q1 q2 => ?_⟩
      rcases List.mem_cons.mp hd with rfl | hd
      · exact hf q2
      · exact y2 d hd q1 q2
    · exact .inr ⟨d, List.mem_cons_of_mem _ hd, y⟩
theorem Row.aside (h : Row F cs sel e r) {c : Call} (q : sel c ≠ e) : Row F (c :: cs) sel e r := by
  refine ⟨h.1, fun f v z => ?_⟩
  rcases h.2 f v z with ⟨y1, y2⟩ | ⟨d, hd, y⟩
  · refine .inl ⟨y1, fun d hd q1 q2 => ?_⟩
    rcases List.mem_cons.mp hd with rfl | hd
    · exact q q1
    · exact y2 d hd q1 q2
  · exact .inr ⟨d, List.mem_cons_of_mem _ hd, y⟩
def less (cs : List Call) (n : Nat) : List Call := cs.filter fun d => decide (d.n ≠ n)
theorem mem_less {n : Nat} {d : Call} : d ∈ less cs n ↔ d ∈ cs ∧ d.n ≠ n := by
  unfold less
  rw [List.mem_filter, decide_eq_true_iff]
theorem Row.take (h : Row F cs sel e r) (nd : (cs.map (·.n)).Nodup) {c : Call} (hc : c ∈ cs) (q : sel c = e) (un : ∀ d ∈ cs, sel d = sel c → d.f = c.f → d = c) : Row F (less cs c.n) sel e (r.set c.f .non) := by
  refine ⟨by rw [List.length_set]; exact h.1, fun f v z => ?_⟩
  rw [List.getElem?_set] at z
  by_cases hf : c.f = f
  · rw [if_pos hf] at z
    split at z
    · cases z
      refine .inl ⟨rfl, fun d hd q1 q2 => ?_⟩
      obtain ⟨hd, hn⟩ := mem_less.mp hd
      exact hn (congrArg Call.n (un d hd (q1.trans q.symm) (q2.trans hf.symm)))
    · cases z
  · rw [if_neg hf] at z
    rcases h.2 f v z with ⟨y1, y2⟩ | ⟨d, hd, y1, y2, y3⟩
    · exact .inl ⟨y1, fun d hd => y2 d (mem_less.mp hd).1⟩
    · refine .inr ⟨d, mem_less.mpr ⟨hd, fun z => hf ?_⟩, y1, y2, y3⟩
      rw [← y2, nd_un nd hd hc z]
theorem Row.leave (h : Row F cs sel e r) (nd : (cs.map (·.n)).Nodup) {c : Call} (hc : c ∈ cs) (q : sel c ≠ e) : Row F (less cs c.n) sel e r := by
  refine ⟨h.1, fun f v z => ?_⟩
  rcases h.2 f v z with ⟨y1, y2⟩ | ⟨d, hd, y1, y2, y3⟩
  · exact .inl ⟨y1, fun d hd => y2 d (mem_less.mp hd).1⟩
  · refine .inr ⟨d, mem_less.mpr ⟨hd, fun z => q ?_⟩, y1, y2, y3⟩
    rw [← nd_un nd hd hc z]
    exact y1
end
set_option genInjectivity false in
set_option genSizeOf false in
structure Geo where
  (p I O S : Addr) (ia oa : List Addr) (N M F : Nat)
def Geo.own (g : Geo) : List Addr := g.p :: g.S :: (g.ia ++ g.oa)
def Keeps (g : Geo) (H H' : Hp) : Prop := ∀ b o, H b = some o → b ∉ g.own → H' b = some o
theorem Keeps.trans {g : Geo} {H H1 H2 : Hp} (a : Keeps g H H1) (b : Keeps g H1 H2) : Keeps g H H2 := fun c o h n => b c o (a c o h n) n
theorem Keeps.same {g : Geo} {H H' : Hp} (h : Same H H') : Keeps g H H' := fun b o q _ => h b o q
def mkE (e : Call × Addr) : Ent := ⟨e.1.n, e.2, .int e.1.i, .int e.1.o, .int e.1.f⟩
def Core (C : Addr) (H : Hp) (g : Geo) (cs : List Call) (nx : Nat) : Prop := ∃ (ri ro : List (List V)) (es : List (Call × Addr)),
  HallAt C H g.p g.I g.O g.S g.ia g.oa ri ro (entK (es.map mkE)) nx ∧ (∀ e ∈ es, H e.2 = some (.tup [.int e.1.i, .int e.1.o, .int e.1.f])) ∧ (es.map (·.1)).Perm cs ∧ ri.length = g.N ∧ ro.length = g.M ∧
  (∀ (j : Nat) r, ri[j]? = some r → Row g.F cs Call.i j r) ∧ ∀ (j : Nat) r, ro[j]? = some r → Row g.F cs Call.o j r
structure HallG (C : Addr) (H : Hp) (g : Geo) (cs : List Call) (nx : Nat) : Prop where
  good : Good g.N g.M g.F cs
  lt : ∀ c ∈ cs, c.n < nx
  le : g.N ≤ 12 ∧ g.M ≤ 12 ∧ g.F ≤ 8
  core : Core C H g cs nx
section
variable {C : Addr} {H H' : Hp} {p I O S : Addr} {ia oa : List Addr} {ri ro : List (List V)} {kvs : List (Key × V)} {nx : Int}
theorem HallAt.nei (h : HallAt C H p I O S ia oa ri ro kvs nx) {i : Nat} {x : Addr} (e : ia[i]? = some x) : x ≠ p ∧ x ≠ I ∧ x ≠ O ∧ x ≠ S ∧ x ∉ oa ∧ ∃ r, ri[i]? = some r ∧ H x = some (.lst r) := by
  obtain ⟨r, hr, hx⟩ := rows_get h.ri e
  obtain ⟨dx, hp⟩ := h.ob
  have m := List.mem_of_getElem? e
  obtain ⟨n1, n2⟩ := List.nodup_cons.mp h.nd
  obtain ⟨n3, n4⟩ := List.nodup_cons.mp n2
  refine ⟨ne_of hx hp (by simp), fun z => n1 ?_, fun z => n3 ?_, ne_of hx h.st (by simp), fun z => (List.nodup_append.mp n4).2.2 x m x z rfl, r, hr, hx⟩
  · rw [← z]; exact List.mem_cons_of_mem _ (List.mem_append_left _ m)
  · rw [← z]; exact List.mem_append_left _ m
theorem HallAt.neo (h : HallAt C H p I O S ia oa ri ro kvs nx) {i : Nat} {x : Addr} (e : oa[i]? = some x) : x ≠ p ∧ x ≠ I ∧ x ≠ O ∧ x ≠ S ∧ x ∉ ia ∧ ∃ r, ro[i]? = some r ∧ H x = some (.lst r) := by
  obtain ⟨r, hr, hx⟩ := rows_get h.ro e
  obtain ⟨dx, hp⟩ := h.ob
  have m := List.mem_of_getElem? e
  obtain ⟨n1, n2⟩ := List.nodup_cons.mp h.nd
  obtain ⟨n3, n4⟩ := List.nodup_cons.mp n2
  refine ⟨ne_of hx hp (by simp), fun z => n1 ?_, fun z => n3 ?_, ne_of hx h.st (by simp), fun z => (List.nodup_append.mp n4).2.2 x z x m rfl, r, hr, hx⟩
  · rw [← z]; exact List.mem_cons_of_mem _ (List.mem_append_right _ m)
  · rw [← z]; exact List.mem_append_right _ m
theorem rows_upd {xs : List Addr} {rs : List (List V)} (h : Rows H xs rs) (nd : xs.Nodup) {i : Nat} {x : Addr} (e : xs[i]? = some x) (r : List V) : Rows (upd H x (.lst r)) xs (rs.set i r) := by
  refine ⟨by rw [List.length_set]; exact h.1, fun j y q e1 e2 => ?_⟩
  rw [List.getElem?_set] at e2
  by_cases hj : i = j
  · subst hj
    rw [if_pos rfl] at e2
    split at e2
    · cases e2
      rw [e] at e1
      cases e1
      exact upd_same
    · cases e2
  · rw [if_neg hj] at e2
    have ne : y ≠ x := fun z => by
      subst z
      obtain ⟨h1, e1'⟩ := List.getElem?_eq_some_iff.mp e1
      obtain ⟨h2, e2'⟩ := List.getElem?_eq_some_iff.mp e
      exact hj ((List.getElem_inj nd).mp (e2'.trans e1'.symm))
    rw [upd_ne ne]
    exact h.2 j y q e1 e2
theorem rows_off {xs : List Addr} {rs : List (List V)} (h : Rows H xs rs) {x : Addr} {o : HO} (e : x ∉ xs) : Rows (upd H x o) xs rs :=
  ⟨h.1, fun j y q e1 e2 => by
    have ne : y ≠ x := fun z => e (by rw [← z]; exact List.mem_of_getElem? e1)
    rw [upd_ne ne]
    exact h.2 j y q e1 e2⟩
theorem HallAt.setI (h : HallAt C H p I O S ia oa ri ro kvs nx) {i : Nat} {x : Addr} (e : ia[i]? = some x) (r : List V) : HallAt C (upd H x (.lst r)) p I O S ia oa (ri.set i r) ro kvs nx := by
  obtain ⟨n1, n2, n3, n4, n5, _⟩ := h.nei e
  obtain ⟨dx, hp⟩ := h.ob
  refine ⟨⟨dx, by rw [upd_ne (Ne.symm n1)]; exact hp⟩, by rw [upd_ne (Ne.symm n2)]; exact h.li, by rw [upd_ne (Ne.symm n3)]; exact h.lo, rows_upd h.ri ?_ e r, rows_off h.ro n5, by rw [upd_ne (Ne.symm n4)]; exact h.st, h.nd⟩
  exact (List.nodup_append.mp (List.nodup_cons.mp (List.nodup_cons.mp h.nd).2).2).1
theorem HallAt.setO (h : HallAt C H p I O S ia oa ri ro kvs nx) {i : Nat} {x : Addr} (e : oa[i]? = some x) (r : List V) : HallAt C (upd H x (.lst r)) p I O S ia oa ri (ro.set i r) kvs nx := by
  obtain ⟨n1, n2, n3, n4, n5, _⟩ := h.neo e
  obtain ⟨dx, hp⟩ := h.ob
  refine ⟨⟨dx, by rw [upd_ne (Ne.symm n1)]; exact hp⟩, by rw [upd_ne (Ne.symm n2)]; exact h.li, by rw [upd_ne (Ne.symm n3)]; exact h.lo, rows_off h.ri n5, rows_upd h.ro ?_ e r, by rw [upd_ne (Ne.symm n4)]; exact h.st, h.nd⟩
  exact (List.nodup_append.mp (List.nodup_cons.mp (List.nodup_cons.mp h.nd).2).2).2.1
theorem rows_mem {xs : List Addr} {rs : List (List V)} (h : Rows H xs rs) {x : Addr} (m : x ∈ xs) : ∃ r, H x = some (.lst r) := by
  obtain ⟨i, e⟩ := List.getElem?_of_mem m
  obtain ⟨r, _, q⟩ := rows_get h e
  exact ⟨r, q⟩
theorem HallAt.setS (h : HallAt C H p I O S ia oa ri ro kvs nx) (kvs' : List (Key × V)) : HallAt C (upd H S (.dK kvs')) p I O S ia oa ri ro kvs' nx := by
  obtain ⟨dx, hp⟩ := h.ob
  refine ⟨⟨dx, by rw [upd_ne (ne_of hp h.st (by simp))]; exact hp⟩, by rw [upd_ne (ne_of h.li h.st (by simp))]; exact h.li, by rw [upd_ne (ne_of h.lo h.st (by simp))]; exact h.lo, rows_off h.ri fun m => ?_, rows_off h.ro fun m => ?_, upd_same, h.nd⟩
  · obtain ⟨r, q⟩ := rows_mem h.ri m
    rw [h.st] at q; cases q
  · obtain ⟨r, q⟩ := rows_mem h.ro m
    rw [h.st] at q; cases q
theorem HallAt.setN (h : HallAt C H p I O S ia oa ri ro kvs nx) {dx : Addr} (ny : Int) : HallAt C (upd H p (.ins C dx (flds I O S ny))) p I O S ia oa ri ro kvs ny := by
  obtain ⟨dx, hp⟩ := h.ob
  refine ⟨⟨_, upd_same⟩, by rw [upd_ne (ne_of h.li hp (by simp))]; exact h.li, by rw [upd_ne (ne_of h.lo hp (by simp))]; exact h.lo, rows_off h.ri fun m => ?_, rows_off h.ro fun m => ?_, by rw [upd_ne (ne_of h.st hp (by simp))]; exact h.st, h.nd⟩
  · obtain ⟨r, q⟩ := rows_mem h.ri m
    rw [hp] at q; cases q
  · obtain ⟨r, q⟩ := rows_mem h.ro m
    rw [hp] at q; cases q
end
section
variable {C : Addr} {H H' : Hp} {g : Geo} {cs ds : List Call} {nx : Nat}
theorem HallG.perm (h : HallG C H g cs nx) (q : ds.Perm cs) : HallG C H g ds nx := by
  obtain ⟨ri, ro, es, h1, h2, h3, h4, h5, h6, h7⟩ := h.core
  exact ⟨h.good.perm q, fun c hc => h.lt c (q.mem_iff.mp hc), h.le, ri, ro, es, h1, h2, h3.trans q.symm, h4, h5, fun j r e => (h6 j r e).congr fun c => q.symm.mem_iff, fun j r e => (h7 j r e).congr fun c => q.symm.mem_iff⟩
theorem Core.same (h : Core C H g cs nx) (s : Same H H') : Core C H' g cs nx := by
  obtain ⟨ri, ro, es, h1, h2, h3⟩ := h
  exact ⟨ri, ro, es, h1.same s, fun e he => s _ _ (h2 e he), h3⟩
theorem HallG.same (h : HallG C H g cs nx) (s : Same H H') : HallG C H' g cs nx := ⟨h.good, h.lt, h.le, h.core.same s⟩
theorem ent_not {es : List (Call × Addr)} {n : Nat} (h : n ∉ (es.map (·.1)).map (·.n)) : valV (entK (es.map mkE)) (Sum.inl (n : Int) : Key) = none := by
  induction es with
  | nil => rfl
  | cons e r ih =>
    have h : n ∉ e.1.n :: (r.map (·.1)).map (·.n) := h
    rw [List.mem_cons, not_or] at h
    show valV ((Sum.inl (e.1.n : Int), V.ref e.2) :: entK (r.map mkE)) (Sum.inl (n : Int) : Key) = none
    rw [valV_neg (p := (Sum.inl (e.1.n : Int), V.ref e.2)) (fun z => h.1 (by have z : ((e.1.n : Int)) = n := Sum.inl.inj z; omega))]
    exact ih h.2
theorem ent_snoc (es : List (Call × Addr)) (c : Call) (t : Addr) : entK (es.map mkE) ++ [(Sum.inl (c.n : Int), V.ref t)] = entK ((es ++ [(c, t)]).map mkE) := by
  unfold entK
  rw [List.map_append, List.map_append]
  rfl
theorem nums_of {es : List (Call × Addr)} (h : (es.map (·.1)).Perm cs) {n : Nat} : n ∈ (es.map (·.1)).map (·.n) ↔ n ∈ cs.map (·.n) := (h.map _).mem_iff
theorem entAt_of {es : List (Call × Addr)} (h2 : ∀ e ∈ es, H e.2 = some (.tup [.int e.1.i, .int e.1.o, .int e.1.f])) (nd : ((es.map (·.1)).map (·.n)).Nodup) : EntAt H (es.map mkE) := by
  refine ⟨fun e he => ?_, ?_⟩
  · obtain ⟨x, hx, rfl⟩ := List.mem_map.mp he
    exact h2 x hx
  · rw [List.map_map]
    have e : (fun x : Call × Addr => ((mkE x).n)) = fun x : Call × Addr => ((x.1.n : Nat) : Int) := rfl
    show (es.map fun x : Call × Addr => ((x.1.n : Nat) : Int)).Nodup
    have z : (es.map fun x : Call × Addr => ((x.1.n : Nat) : Int)) = ((es.map (·.1)).map (·.n)).map fun n : Nat => (n : Int) := by rw [List.map_map, List.map_map]; rfl
    rw [z]
    refine List.Pairwise.map _ ?_ nd
    intro a b hab z
    exact hab (by omega)
theorem drop_ent {es : List (Call × Addr)} {n : Nat} : dropK (entK (es.map mkE)) (Sum.inl (n : Int) : Key) = entK ((es.filter fun e => decide (e.1.n ≠ n)).map mkE) := by
  unfold dropK entK
  rw [List.map_map, List.map_map, List.filter_map]
  congr 1
  refine List.filter_congr fun e _ => ?_
  show decide (¬ (Sum.inl (e.1.n : Int) : Key) = Sum.inl (n : Int)) = decide (¬ e.1.n = n)
  refine decide_eq_decide.mpr (not_congr ⟨fun z => ?_, fun z => by rw [z]⟩)
  have z : ((e.1.n : Int)) = n := Sum.inl.inj z
  omega
end
end Hl
namespace Hl
open PySem L2
theorem nodup_le {α : Type} [DecidableEq α] : ∀ {l m : List α}, l.Nodup → (∀ x ∈ l, x ∈ m) → l.length ≤ m.length
  | [], _, _, _ => Nat.zero_le _
  | x :: r, m, nd, h => by
    obtain ⟨n1, n2⟩ := List.nodup_cons.mp nd
    have hx := h x List.mem_cons_self
    have ih := nodup_le (l := r) (m := m.erase x) n2 fun y hy => (List.mem_erase_of_ne (show y ≠ x from fun z => n1 (by rw [← z]; exact hy))).mpr (h y (List.mem_cons_of_mem _ hy))
    rw [List.length_erase_of_mem hx] at ih
    have := List.length_pos_of_mem hx
    rw [List.length_cons]
    omega
theorem HallG.len {C : Addr} {H : Hp} {g : Geo} {cs : List Call} {nx : Nat} (h : HallG C H g cs nx) : cs.length ≤ nx := by
  have z := nodup_le (m := List.range nx) h.good.nd fun n hn => by
    obtain ⟨c, hc, rfl⟩ := List.mem_map.mp hn
    exact List.mem_range.mpr (h.lt c hc)
  rw [List.length_map, List.length_range] at z
  exact z
theorem HallG.tup {C : Addr} {H : Hp} {g : Geo} {cs : List Call} {nx : Nat} (h : HallG C H g cs nx) {t : Addr} {xs : List V} (q : H t = some (.tup xs)) : t ∉ g.own := fun m => by
  obtain ⟨ri, ro, es, hA, _⟩ := h.core
  obtain ⟨dx, hp⟩ := hA.ob
  rcases List.mem_cons.mp m with z | m
  · rw [z, hp] at q; cases q
  · rcases List.mem_cons.mp m with z | m
    · rw [z, hA.st] at q; cases q
    · rcases List.mem_append.mp m with m | m
      · obtain ⟨r, z⟩ := rows_mem hA.ri m
        rw [z] at q; cases q
      · obtain ⟨r, z⟩ := rows_mem hA.ro m
        rw [z] at q; cases q
theorem at_lt {α : Type} {xs : List α} {n i : Nat} (hl : xs.length = n) (hi : i < n) : ∃ x, xs[i]? = some x := ⟨_, List.getElem?_eq_getElem (by rw [hl]; exact hi)⟩
section
variable {P : Program} {w : World} {K : PySem.W.Frag} {mg : Str → Option Value} {base : Heap} {a : Ad} {d : Fd}
def spFull (K : PySem.W.Frag) : Sp := fun vs H Q _ => ∃ l xs, vs = [.ref l] ∧ SqL K H l xs ∧ xs.all flatV = true ∧ Q (.bl (decide (loadV xs = (xs.length : Int)))) H
theorem scFull : FnScope ["end"] ["end"] (defScope sFull) := ⟨rfl, rfl, rfl, by decide +kernel, rfl, by decide +kernel, by decide +kernel⟩
theorem ok_full (T : HTxt K mg a d) : FnOk P w K mg base (CXx P w) 2 a.isFull d.isFull ["end"] (spFull K) := by
  have GL : FnOk P w K mg base (CXx P w) 1 a.load d.load ["end"] (spLoad K) := ok_load T
  refine T.f_isFull.okN scFull (fun vs H Q E h => ?_) (fun cdv A outer s H vs Q E hr h => ?_)
  · obtain ⟨l, xs, rfl, _⟩ := h
    rfl
  · obtain ⟨l, xs, rfl, hS, fx, q⟩ := h
    refine ⟨_, pss_one (ps_ret (pe_cmpR op_eq (pe_call GL hr rfl T.g_load T.f_load.kp T.b_load .nil pass0x (pa_cons (pv 0) pa_nil)) (pe_callB call_len_seq rfl T.len PySem.boot_len (pa_cons (pv 0) pa_nil)) (nomark _))), ?_⟩
    refine ⟨_, rfl, l, xs, rfl, hS, fx, _, rfl, l, xs, rfl, .inl hS, rfl, ?_⟩
    have e : decide (V.int (loadV xs) = V.int (xs.length : Int)) = decide (loadV xs = (xs.length : Int)) := decide_eq_decide.mpr ⟨fun z => V.int.inj z, fun z => by rw [z]⟩
    rw [← e] at q
    exact q
def spLeast (K : PySem.W.Frag) : Sp := fun vs H Q _ => ∃ l xs j, vs = [.ref l] ∧ SqL K H l xs ∧ xs.all flatV = true ∧ xs[j]? = some .non ∧ (∀ m, m < j → xs[m]? ≠ some .non) ∧ Q (.int (j : Nat)) H
theorem scLeast : FnScope ["end"] ["end"] (defScope sLeast) := ⟨rfl, rfl, rfl, by decide +kernel, rfl, by decide +kernel, by decide +kernel⟩
theorem eqV_non {v : V} : eqV v .non = true ↔ v = .non := by
  cases v <;> first | exact ⟨fun _ => rfl, fun _ => rfl⟩ | exact ⟨fun h => absurd (show false = true from h) Bool.false_ne_true, fun h => by cases h⟩
theorem ok_least (T : HTxt K mg a d) : FnOk P w K mg base (CXx P w) 1 a.least d.least ["end"] (spLeast K) := by
  refine T.f_least.okN scLeast (fun vs H Q E h => ?_) (fun cdv A outer s H vs Q E hr h => ?_)
  · obtain ⟨l, xs, j, rfl, _⟩ := h
    rfl
  · obtain ⟨l, xs, j, rfl, hS, fx, hj, hm, q⟩ := h
    refine ⟨_, pss_one (ps_ret (pe_bm PySem.F.plainAttrs_list PySem.F.slot_list_index PySem.F.type_list_index mt_index (pv 0) (pa_cons pe_non pa_nil))), ?_⟩
    refine ⟨_, rfl, .inl ⟨rfl, xs, hS⟩, l, xs, .non, j, .non, rfl, rfl, hS, rfl, fx, hj, rfl, fun m u hmj hu => ?_, q⟩
    cases e : eqV u .non with
    | false => rfl
    | true =>
      rw [eqV_non.mp e] at hu
      exact absurd hu (hm m hmj)
def spBoth (K : PySem.W.Frag) : Sp := fun vs H Q _ => ∃ l l' xs ys, vs = [.ref l, .ref l'] ∧ SqL K H l xs ∧ SqL K H l' ys ∧ xs.length = ys.length ∧ xs.length ≤ 100 ∧
  (∀ j : Nat, xs[j]? = some .non → ys[j]? = some .non → (∀ m, m < j → xs[m]? = some .non → ys[m]? = some .non → False) → Q (.int (j : Nat)) H) ∧ ((∀ m : Nat, xs[m]? = some .non → ys[m]? = some .non → False) → Q .non H)
theorem scBoth : FnScope ["one", "other", "frame"] ["one", "other"] (defScope sBoth) := ⟨rfl, rfl, rfl, by decide +kernel, rfl, by decide +kernel, by decide +kernel⟩
theorem ok_both (T : HTxt K mg a d) : FnOk P w K mg base (CXx P w) 1 a.both d.both ["one", "other"] (spBoth K) := by
  refine T.f_both.okN scBoth (fun vs H Q E h => ?_) (fun cdv A outer s H vs Q E hr h => ?_)
  · obtain ⟨l, l', xs, ys, rfl, _⟩ := h
    rfl
  · obtain ⟨l, l', xs, ys, rfl, hS, hS', hl, h100, q1, q2⟩ := h
    refine ⟨_, pss_cons (ps_for PassesOwn.never rfl (pi_range1 rfl T.range (pa_cons (pe_callB call_len_seq rfl T.len PySem.boot_len (pa_cons (pv 0) pa_nil)) pa_nil)) (pg_name (i := 2) scBoth.nd rfl (Or.inl rfl))
        (pss_one (ps_if (PW.pt (pw_and (pt_cmpR op_isN (pe_ix ix_list (pv 0) (pv 2) (fun _ _ => rfl)) pe_non (nomark _)) (pw_and1 (pt_cmpR op_isN (pe_ix ix_list (pv 1) (pv 2) (fun _ _ => rfl)) pe_non (nomark _))))) (pss_one (ps_ret (pv 2))) pss_nil)))
      (pss_one (ps_ret pe_non)), ?_⟩
    refine ⟨_, rfl, l, xs, rfl, .inl hS, (xs.length : Int), rfl, by omega, by omega, ?_⟩
    refine for_range (lo := 0) (n := ((xs.length : Int)).toNat) (fun i σ H' => H' = H ∧ (∃ v, σ = [some (.ref l), some (.ref l'), v]) ∧ ∀ m, m < i → xs[m]? = some .non → ys[m]? = some .non → False) ⟨rfl, ⟨none, rfl⟩, fun m hm => absurd hm (Nat.not_lt_zero _)⟩ ?_ ?_
    · rintro i σ H' hi ⟨rfl, ⟨v, rfl⟩, hno⟩
      have hi' : i < xs.length := by rw [Int.toNat_natCast] at hi; exact hi
      have e1 : xs[i]? = some xs[i] := List.getElem?_eq_getElem hi'
      have e2 : ys[i]? = some (ys[i]'(hl ▸ hi')) := List.getElem?_eq_getElem (hl ▸ hi')
      have z0 : (0 : Int) + (i : Int) = (i : Int) := by omega
      refine ⟨_, rfl, _, rfl, l, xs, (i : Int), _, rfl, congrArg V.int z0, hS, atI_nat e1, rfl, _, rfl, ?_⟩
      have next : (¬ (xs[i]? = some .non ∧ ys[i]? = some .non)) → ∀ m, m < i + 1 → xs[m]? = some .non → ys[m]? = some .non → False := fun hne m hm z1 z2 => by
        by_cases h : m < i
        · exact hno m h z1 z2
        · have : m = i := by omega
          subst this
          exact hne ⟨z1, z2⟩
      refine ite2 (fun y => ?_) (fun y => ?_)
      · refine ⟨_, rfl, _, rfl, l', ys, (i : Int), _, rfl, congrArg V.int z0, hS', atI_nat e2, rfl, _, rfl, ?_⟩
        have y1 : xs[i] = .non := of_decide_eq_true y
        refine ite2 (fun y' => ?_) (fun y' => ?_)
        · have y2 : ys[i]'(hl ▸ hi') = .non := of_decide_eq_true y'
          have q := q1 i (by rw [e1, y1]) (by rw [e2, y2]) hno
          refine ⟨_, rfl, ?_⟩
          have z1 : V.int (0 + (i : Int)) = V.int (i : Nat) := congrArg V.int z0
          rw [z1]
          exact q
        · refine ⟨rfl, ⟨_, rfl⟩, next fun z => y' ?_⟩
          rw [e2] at z
          exact decide_eq_true (Option.some.inj z.2)
      · refine ⟨rfl, ⟨_, rfl⟩, next fun z => y ?_⟩
        rw [e1] at z
        exact decide_eq_true (Option.some.inj z.1)
    · rintro σ H' ⟨rfl, ⟨v, rfl⟩, hno⟩
      refine q2 fun m z1 z2 => hno m ?_ z1 z2
      rw [Int.toNat_natCast]
      exact (List.getElem?_eq_some_iff.mp z1).1
end
end Hl
namespace Hl
open PySem L2
section
variable {P : Program} {w : World} {K : PySem.W.Frag} {mg : Str → Option Value} {base : Heap} {a : Ad} {d : Fd}
theorem flds_lay (I O S : Addr) (n : Int) : (flds I O S n).lookup ("lay" : Str) = none := by rfl
theorem flds_lift (I O S : Addr) (n : Int) : (flds I O S n).lookup ("lift" : Str) = none := by rfl
theorem flds_way (I O S : Addr) (n : Int) : (flds I O S n).lookup ("way_from" : Str) = none := by rfl
theorem flds_room (I O S : Addr) (n : Int) : (flds I O S n).lookup ("make_room" : Str) = none := by rfl
theorem flds_put (I O S : Addr) (n : Int) : (flds I O S n).lookup ("put" : Str) = none := by rfl
theorem flds_drop (I O S : Addr) (n : Int) : (flds I O S n).lookup ("drop" : Str) = none := by rfl
theorem ixN_nat {n j : Nat} (h : j < n) : ixN n (j : Int) = some j := by
  unfold ixN
  rw [if_pos (by omega), if_pos (by omega)]
  simp
theorem own_S {g : Geo} : g.S ∈ g.own := List.mem_cons_of_mem _ List.mem_cons_self
theorem own_p {g : Geo} : g.p ∈ g.own := List.mem_cons_self
theorem own_i {g : Geo} {i : Nat} {x : Addr} (h : g.ia[i]? = some x) : x ∈ g.own := List.mem_cons_of_mem _ (List.mem_cons_of_mem _ (List.mem_append_left _ (List.mem_of_getElem? h)))
theorem own_o {g : Geo} {i : Nat} {x : Addr} (h : g.oa[i]? = some x) : x ∈ g.own := List.mem_cons_of_mem _ (List.mem_cons_of_mem _ (List.mem_append_right _ (List.mem_of_getElem? h)))
theorem keep_upd {g : Geo} {H : Hp} {x : Addr} {o : HO} (h : x ∈ g.own) : Keeps g H (upd H x o) := fun b u q n => by
  have ne : b ≠ x := fun z => n (by rw [z]; exact h)
  rw [upd_ne ne]
  exact q
theorem same_new {H : Hp} {x : Addr} {o : HO} (h : H x = none) : Same H (upd H x o) := fun b u q => by
  rw [upd_ne (ne_of_none q h)]
  exact q
def spLay (a : Ad) : Sp := fun vs H Q _ => ∃ g cs nx c, vs = [.ref g.p, .int (c.n : Nat), .int (c.i : Nat), .int (c.o : Nat), .int (c.f : Nat)] ∧ HallG a.hall H g cs nx ∧ nx ≤ 1000 ∧ c.n ∉ cs.map (·.n) ∧ c.n < nx ∧ c.i < g.N ∧ c.o < g.M ∧ c.f < g.F ∧
  (∀ d ∈ cs, d.i = c.i → d.f = c.f → False) ∧ (∀ d ∈ cs, d.o = c.o → d.f = c.f → False) ∧ ∀ H', HallG a.hall H' g (c :: cs) nx → Keeps g H H' → Q .non H'
theorem scLay : FnScope ["self", "number", "inlet", "outlet", "frame"] ["self", "number", "inlet", "outlet", "frame"] (defScope sLay) := ⟨rfl, rfl, rfl, by decide +kernel, rfl, by decide +kernel, by decide +kernel⟩
theorem ok_lay (T : HTxt K mg a d) : FnOk P w K mg base (CXx P w) 1 a.lay d.lay ["self", "number", "inlet", "outlet", "frame"] (spLay a) := by
  refine T.f_lay.okN scLay (fun vs H Q E h => ?_) (fun cdv A outer s H vs Q E hr h => ?_)
  · obtain ⟨g, cs, nx, c, rfl, _⟩ := h
    rfl
  · obtain ⟨g, cs, nx, c, rfl, hG, h1000, hn, hlt, bi, bo, bf, fi, fo, q⟩ := h
    have hu := hu_of hr
    have hsl : sizeLine = 16777216 := sizeLine_eq
    have hlen := hG.len
    obtain ⟨ri, ro, es, hA, hE, hP, lI, lO, hI, hO⟩ := hG.core
    obtain ⟨dx, ob⟩ := hA.ob
    obtain ⟨x, ex⟩ := at_lt (hA.ri.1.trans lI) bi
    obtain ⟨y, ey⟩ := at_lt (hA.ro.1.trans lO) bo
    obtain ⟨x1, x2, x3, x4, x5, r, er, hx⟩ := hA.nei ex
    obtain ⟨y1, y2, y3, y4, y5, r', er', hy⟩ := hA.neo ey
    have rowx := hI c.i r er
    have rowy := hO c.o r' er'
    refine ⟨_, pss_cons (ps_dput hu (pe_fld (pv 0) rfl) (pv 1) (pe_tup (pa_cons (pv 2) (pa_cons (pv 3) (pa_cons (pv 4) pa_nil)))) rfl)
      (pss_cons (ps_asg (pv 1) (pg_sub (pe_ix ix_list (pe_fld (pv 0) rfl) (pv 2) (fun _ _ => rfl)) (pv 4) set_list))
      (pss_one (ps_asg (pv 1) (pg_sub (pe_ix ix_list (pe_fld (pv 0) rfl) (pv 3) (fun _ _ => rfl)) (pv 4) set_list)))), ?_⟩
    -- self.standing[number] = (inlet, outlet, frame)
    refine ⟨_, rfl, _, rfl, _, rfl, by show 3 ≤ sizeLine; omega, fun t ht => ?_⟩
    have s1 : Same H (upd H t (.tup [.int (c.i : Nat), .int (c.o : Nat), .int (c.f : Nat)])) := same_new ht
    have A1 := hA.same s1
    have hv : valV (entK (es.map mkE)) (Sum.inl (c.n : Int) : Key) = none := ent_not fun z => hn ((nums_of hP).mp z)
    have hel : es.length = cs.length := by have z := hP.length_eq; rw [List.length_map] at z; exact z
    refine ⟨_, rfl, g.p, a.hall, dx, _, _, rfl, s1 _ _ ob, T.cls, T.nS, flds_S _ _ _ _, _, rfl, g.S, _, rfl, DPut.k (k := Sum.inl (c.n : Int)) A1.st ?_, ?_⟩
    · unfold entK
      rw [List.length_map, List.length_map]
      omega
    rw [putK_new (.ref t) hv, ent_snoc]
    have A2 := A1.setS (entK ((es ++ [(c, t)]).map mkE))
    obtain ⟨dx2, ob2⟩ := A2.ob
    have hx2 : upd (upd H t (.tup [.int (c.i : Nat), .int (c.o : Nat), .int (c.f : Nat)])) g.S (.dK (entK ((es ++ [(c, t)]).map mkE))) x = some (.lst r) := by
      rw [upd_ne x4]
      exact s1 _ _ hx
    -- self.inlet_ends[inlet][frame] = number
    refine ⟨_, rfl, _, rfl, g.p, a.hall, dx2, _, _, rfl, ob2, T.cls, T.nI, flds_I _ _ _ _, _, rfl, g.I, _, (c.i : Int), .ref x, rfl, rfl, SqL.of A2.li, atI_nat (by rw [List.getElem?_map, ex]; rfl), _, rfl, x, r, (c.f : Int), c.f, rfl, rfl, hx2, ixN_nat (by rw [rowx.1]; exact bf), ?_⟩
    have A3 := A2.setI ex (r.set c.f (.int (c.n : Nat)))
    obtain ⟨dx3, ob3⟩ := A3.ob
    -- self.outlet_ends[outlet][frame] = number
    have nyx : y ≠ x := fun z => x5 (by rw [← z]; exact List.mem_of_getElem? ey)
    refine ⟨_, rfl, _, rfl, g.p, a.hall, dx3, _, _, rfl, ob3, T.cls, T.nO, flds_O _ _ _ _, _, rfl, g.O, _, (c.o : Int), .ref y, rfl, rfl, SqL.of A3.lo, atI_nat (by rw [List.getElem?_map, ey]; rfl), _, rfl, y, r', (c.f : Int), c.f, rfl, rfl, ?_, ixN_nat (by rw [rowy.1]; exact bf), ?_⟩
    · rw [upd_ne nyx, upd_ne y4]
      exact s1 _ _ hy
    have A4 := A3.setO ey (r'.set c.f (.int (c.n : Nat)))
    refine q _ ⟨hG.good.cons hn bi bo bf fi fo, fun e he => ?_, hG.le, _, _, _, A4, fun e he => ?_, ?_, by rw [List.length_set]; exact lI, by rw [List.length_set]; exact lO, fun j rr ej => ?_, fun j rr ej => ?_⟩ ?_
    · rcases List.mem_cons.mp he with rfl | he
      · exact hlt
      · exact hG.lt e he
    · have far : ∀ (t' : Addr) (zs : List V), upd H t (.tup [.int (c.i : Nat), .int (c.o : Nat), .int (c.f : Nat)]) t' = some (.tup zs) → upd (upd (upd (upd H t (.tup [.int (c.i : Nat), .int (c.o : Nat), .int (c.f : Nat)])) g.S (.dK (entK ((es ++ [(c, t)]).map mkE)))) x (.lst (r.set c.f (.int (c.n : Nat))))) y (.lst (r'.set c.f (.int (c.n : Nat)))) t' = some (.tup zs) := fun t' zs z => by
        rw [upd_ne (ne_of z (s1 _ _ hy) (by simp)), upd_ne (ne_of z (s1 _ _ hx) (by simp)), upd_ne (ne_of z A1.st (by simp))]
        exact z
      rcases List.mem_append.mp he with he | he
      · exact far _ _ (s1 _ _ (hE e he))
      · rw [List.mem_singleton.mp he]
        exact far _ _ upd_same
    · rw [List.map_append]
      show (es.map (·.1) ++ [c]).Perm (c :: cs)
      refine List.perm_append_comm.trans ?_
      show (c :: es.map (·.1)).Perm (c :: cs)
      exact List.Perm.cons c hP
    · rw [List.getElem?_set] at ej
      by_cases hj : c.i = j
      · subst hj
        rw [if_pos rfl] at ej
        split at ej
        · cases ej
          exact rowx.put rfl fi
        · cases ej
      · rw [if_neg hj] at ej
        exact (hI j rr ej).aside hj
    · rw [List.getElem?_set] at ej
      by_cases hj : c.o = j
      · subst hj
        rw [if_pos rfl] at ej
        split at ej
        · cases ej
          exact rowy.put rfl fo
        · cases ej
      · rw [if_neg hj] at ej
        exact (hO j rr ej).aside hj
    · exact (((Keeps.same s1).trans (keep_upd own_S)).trans (keep_upd (own_i ex))).trans (keep_upd (own_o ey))
def spLift (a : Ad) : Sp := fun vs H Q _ => ∃ g cs nx c, vs = [.ref g.p, .int (c.n : Nat)] ∧ HallG a.hall H g cs nx ∧ c ∈ cs ∧
  ∀ H' t, H t = some (.tup [.int (c.i : Nat), .int (c.o : Nat), .int (c.f : Nat)]) → HallG a.hall H' g (less cs c.n) nx → Keeps g H H' → Q (.ref t) H'
theorem scLift : FnScope ["self", "number", "call"] ["self", "number"] (defScope sLift) := ⟨rfl, rfl, rfl, by decide +kernel, rfl, by decide +kernel, by decide +kernel⟩
theorem ok_lift (T : HTxt K mg a d) : FnOk P w K mg base (CXx P w) 1 a.lift d.lift ["self", "number"] (spLift a) := by
  refine T.f_lift.okN scLift (fun vs H Q E h => ?_) (fun cdv A outer s H vs Q E hr h => ?_)
  · obtain ⟨g, cs, nx, c, rfl, _⟩ := h
    rfl
  · obtain ⟨g, cs, nx, c, rfl, hG, hc, q⟩ := h
    have hu := hu_of hr
    obtain ⟨ri, ro, es, hA, hE, hP, lI, lO, hI, hO⟩ := hG.core
    obtain ⟨dx, ob⟩ := hA.ob
    have bi := hG.good.bi c hc
    have bo := hG.good.bo c hc
    have bf := hG.good.bf c hc
    obtain ⟨x, ex⟩ := at_lt (hA.ri.1.trans lI) bi
    obtain ⟨y, ey⟩ := at_lt (hA.ro.1.trans lO) bo
    obtain ⟨x1, x2, x3, x4, x5, r, er, hx⟩ := hA.nei ex
    obtain ⟨y1, y2, y3, y4, y5, r', er', hy⟩ := hA.neo ey
    have rowx := hI c.i r er
    have rowy := hO c.o r' er'
    obtain ⟨⟨c', t⟩, het, hct⟩ := List.mem_map.mp (hP.mem_iff.mpr hc)
    have hct : c' = c := hct
    subst hct
    have ht := hE _ het
    have ndE : ((es.map (·.1)).map (·.n)).Nodup := (hP.map _).nodup_iff.mpr hG.good.nd
    have hval : valV (entK (es.map mkE)) (Sum.inl (c'.n : Int) : Key) = some (.ref t) := ent_val (entAt_of hE ndE) (e := mkE (c', t)) (List.mem_map.mpr ⟨_, het, rfl⟩)
    refine ⟨_, pss_cons (ps_set (i := 2) scLift.nd rfl (Or.inl rfl) (pe_dpop1 (pe_fld (pv 0) rfl) (pv 1) ⟨rfl, rfl, rfl, rfl⟩))
      (pss_cons (ps_asg pe_non (pg_sub (pe_ix ix_list (pe_fld (pv 0) rfl) (pe_ix ix_tup (pv 2) pe_int (fun _ _ => rfl)) (fun _ _ => rfl)) (pe_ix ix_tup (pv 2) pe_int (fun _ _ => rfl)) set_list))
      (pss_cons (ps_asg pe_non (pg_sub (pe_ix ix_list (pe_fld (pv 0) rfl) (pe_ix ix_tup (pv 2) pe_int (fun _ _ => rfl)) (fun _ _ => rfl)) (pe_ix ix_tup (pv 2) pe_int (fun _ _ => rfl)) set_list))
      (pss_one (ps_ret (pv 2))))), ?_⟩
    -- call = self.standing.pop(number)
    refine ⟨_, rfl, g.p, a.hall, dx, _, _, rfl, ob, T.cls, T.nS, flds_S _ _ _ _, g.S, rfl, .inl ⟨_, .inl hA.st⟩, _, rfl, _, Sum.inl (c'.n : Int), .ref t, hA.st, rfl, hval, ?_⟩
    rw [drop_ent]
    have A1 := hA.setS (entK ((es.filter fun e => decide (e.1.n ≠ c'.n)).map mkE))
    obtain ⟨dx1, ob1⟩ := A1.ob
    have ht1 : upd H g.S (.dK (entK ((es.filter fun e => decide (e.1.n ≠ c'.n)).map mkE))) t = some (.tup [.int (c'.i : Nat), .int (c'.o : Nat), .int (c'.f : Nat)]) := by
      rw [upd_ne (ne_of ht hA.st (by simp))]
      exact ht
    have hx1 : upd H g.S (.dK (entK ((es.filter fun e => decide (e.1.n ≠ c'.n)).map mkE))) x = some (.lst r) := by
      rw [upd_ne x4]
      exact hx
    -- self.inlet_ends[call[0]][call[2]] = None
    refine ⟨_, rfl, g.p, a.hall, dx1, _, _, rfl, ob1, T.cls, T.nI, flds_I _ _ _ _, _, rfl, t, _, ((0 : Nat) : Int), .int (c'.i : Nat), rfl, rfl, SqT.of ht1, atI_nat rfl, g.I, _, (c'.i : Int), .ref x, rfl, rfl, SqL.of A1.li, atI_nat (by rw [List.getElem?_map, ex]; rfl),
      _, rfl, t, _, ((2 : Nat) : Int), .int (c'.f : Nat), rfl, rfl, SqT.of ht1, atI_nat rfl, x, r, (c'.f : Int), c'.f, rfl, rfl, hx1, ixN_nat (by rw [rowx.1]; exact bf), ?_⟩
    have A2 := A1.setI ex (r.set c'.f .non)
    obtain ⟨dx2, ob2⟩ := A2.ob
    have ht2 : upd (upd H g.S (.dK (entK ((es.filter fun e => decide (e.1.n ≠ c'.n)).map mkE)))) x (.lst (r.set c'.f .non)) t = some (.tup [.int (c'.i : Nat), .int (c'.o : Nat), .int (c'.f : Nat)]) := by
      rw [upd_ne (ne_of ht1 hx1 (by simp))]
      exact ht1
    have nyx : y ≠ x := fun z => x5 (by rw [← z]; exact List.mem_of_getElem? ey)
    have hy2 : upd (upd H g.S (.dK (entK ((es.filter fun e => decide (e.1.n ≠ c'.n)).map mkE)))) x (.lst (r.set c'.f .non)) y = some (.lst r') := by
      rw [upd_ne nyx, upd_ne y4]
      exact hy
    refine ⟨_, rfl, g.p, a.hall, dx2, _, _, rfl, ob2, T.cls, T.nO, flds_O _ _ _ _, _, rfl, t, _, ((1 : Nat) : Int), .int (c'.o : Nat), rfl, rfl, SqT.of ht2, atI_nat rfl, g.O, _, (c'.o : Int), .ref y, rfl, rfl, SqL.of A2.lo, atI_nat (by rw [List.getElem?_map, ey]; rfl),
      _, rfl, t, _, ((2 : Nat) : Int), .int (c'.f : Nat), rfl, rfl, SqT.of ht2, atI_nat rfl, y, r', (c'.f : Int), c'.f, rfl, rfl, hy2, ixN_nat (by rw [rowy.1]; exact bf), ?_⟩
    have A3 := A2.setO ey (r'.set c'.f .non)
    refine ⟨_, rfl, q _ t ht ⟨hG.good.sub ?_ fun e he => (mem_less.mp he).1, fun e he => hG.lt e (mem_less.mp he).1, hG.le, _, _, _, A3, fun e he => ?_, ?_, by rw [List.length_set]; exact lI, by rw [List.length_set]; exact lO, fun j rr ej => ?_, fun j rr ej => ?_⟩ ?_⟩
    · exact List.Nodup.sublist ((List.filter_sublist).map _) hG.good.nd
    · have z := hE e (List.mem_filter.mp he).1
      rw [upd_ne (ne_of (by rw [upd_ne (ne_of (by rw [upd_ne (ne_of z hA.st (by simp))]; exact z) hx1 (by simp)), upd_ne (ne_of z hA.st (by simp))]; exact z) hy2 (by simp)), upd_ne (ne_of (by rw [upd_ne (ne_of z hA.st (by simp))]; exact z) hx1 (by simp)), upd_ne (ne_of z hA.st (by simp))]
      exact z
    · have z : (es.filter fun e => decide (e.1.n ≠ c'.n)).map (·.1) = (es.map (·.1)).filter fun e => decide (e.n ≠ c'.n) := by
        rw [List.filter_map]
        rfl
      rw [z]
      exact hP.filter _
    · rw [List.getElem?_set] at ej
      by_cases hj : c'.i = j
      · subst hj
        rw [if_pos rfl] at ej
        split at ej
        · cases ej
          exact rowx.take hG.good.nd hc rfl fun d hd z1 z2 => hG.good.ui d hd c' hc z1 z2
        · cases ej
      · rw [if_neg hj] at ej
        exact (hI j rr ej).leave hG.good.nd hc hj
    · rw [List.getElem?_set] at ej
      by_cases hj : c'.o = j
      · subst hj
        rw [if_pos rfl] at ej
        split at ej
        · cases ej
          exact rowy.take hG.good.nd hc rfl fun d hd z1 z2 => hG.good.uo d hd c' hc z1 z2
        · cases ej
      · rw [if_neg hj] at ej
        exact (hO j rr ej).leave hG.good.nd hc hj
    · exact ((keep_upd own_S).trans (keep_upd (own_i ex))).trans (keep_upd (own_o ey))
end
end Hl
namespace Hl
open PySem L2
section
variable {P : Program} {w : World} {K : PySem.W.Frag} {mg : Str → Option Value} {base : Heap} {a : Ad} {d : Fd}
def Nxt (cs : List Call) (fa fb : Nat) (s : Bool) (e : Nat) (v : V) : Prop := (v = .non ∧ Fin cs fa fb s e) ∨ ∃ c ∈ cs, v = .int (c.n : Nat) ∧ onC fa fb s e c
theorem nxt_o {F : Nat} {cs : List Call} {fa fb e : Nat} {r : List V} {v : V} (h : Row F cs Call.o e r) (q : r[fa]? = some v) : Nxt cs fa fb true e v := by
  rcases h.2 fa v q with ⟨rfl, z⟩ | ⟨c, hc, z1, z2, rfl⟩
  · exact .inl ⟨rfl, z⟩
  · exact .inr ⟨c, hc, rfl, z1, z2⟩
theorem nxt_i {F : Nat} {cs : List Call} {fa fb e : Nat} {r : List V} {v : V} (h : Row F cs Call.i e r) (q : r[fb]? = some v) : Nxt cs fa fb false e v := by
  rcases h.2 fb v q with ⟨rfl, z⟩ | ⟨c, hc, z1, z2, rfl⟩
  · exact .inl ⟨rfl, z⟩
  · exact .inr ⟨c, hc, rfl, z1, z2⟩
def spWay (a : Ad) : Sp := fun vs H Q _ => ∃ g cs nx o fa fb, vs = [.ref g.p, .int (o : Nat), .int (fa : Nat), .int (fb : Nat)] ∧ HallG a.hall H g cs nx ∧ nx ≤ 1000 ∧ o < g.M ∧ fa < g.F ∧ fb < g.F ∧ fa ≠ fb ∧ (∀ c ∈ cs, c.o = o → c.f = fb → False) ∧
  ∀ L l s e H', Chn cs fa fb o l s e → Fin cs fa fb s e → Same H H' → H L = none → H' L = some (.lst (l.map fun c => V.int (c.n : Nat))) → Q (.ref L) H'
theorem scWay : FnScope ["self", "outlet", "frame", "spare", "way", "number", "call"] ["self", "outlet", "frame", "spare"] (defScope sWay) := ⟨rfl, rfl, rfl, by decide +kernel, rfl, by decide +kernel, by decide +kernel⟩
theorem ok_way (T : HTxt K mg a d) : FnOk P w K mg base (CXx P w) 1 a.way d.way ["self", "outlet", "frame", "spare"] (spWay a) := by
  refine T.f_way.okN scWay (fun vs H Q E h => ?_) (fun cdv A outer s H vs Q E hr h => ?_)
  · obtain ⟨g, cs, nx, o, fa, fb, rfl, _⟩ := h
    rfl
  · obtain ⟨g, cs, nx, o, fa, fb, rfl, hG, h1000, ho, hfa, hfb, hab, hb, q⟩ := h
    have hu := hu_of hr
    have hsl : sizeLine = 16777216 := sizeLine_eq
    have hlen := hG.len
    obtain ⟨ri, ro, es, hA, hE, hP, lI, lO, hI, hO⟩ := hG.core
    obtain ⟨dx, ob⟩ := hA.ob
    have ndE : ((es.map (·.1)).map (·.n)).Nodup := (hP.map _).nodup_iff.mpr hG.good.nd
    refine ⟨_, pss_cons (ps_set (i := 4) scWay.nd rfl (Or.inl rfl) (pe_lst pa_nil))
      (pss_cons (ps_set (i := 5) scWay.nd rfl (Or.inl rfl) (pe_ix ix_list (pe_ix ix_list (pe_fld (pv 0) rfl) (pv 1) (fun _ _ => rfl)) (pv 2) (fun _ _ => rfl)))
      (pss_cons (ps_while PassesOwn.never (pt_cmpR op_notN (pv 5) pe_non (nomark _))
        (pss_cons (ps_expr (pe_bm PySem.F.plainAttrs_list PySem.F.slot_list_append PySem.F.type_list_append mt_append (pv 4) (pa_cons (pv 5) pa_nil)))
        (pss_cons (ps_set (i := 6) scWay.nd rfl (Or.inl rfl) (pe_dget hu (pe_fld (pv 0) rfl) (pv 5) (fun _ _ => rfl)))
        (pss_one (ps_if (pt_cmpR op_eq (pe_ix ix_tup (pv 6) pe_int (fun _ _ => rfl)) (pv 2) (nomark _))
          (pss_one (ps_set (i := 5) scWay.nd rfl (Or.inl rfl) (pe_ix ix_list (pe_ix ix_list (pe_fld (pv 0) rfl) (pe_ix ix_tup (pv 6) pe_int (fun _ _ => rfl)) (fun _ _ => rfl)) (pv 3) (fun _ _ => rfl))))
          (pss_one (ps_set (i := 5) scWay.nd rfl (Or.inl rfl) (pe_ix ix_list (pe_ix ix_list (pe_fld (pv 0) rfl) (pe_ix ix_tup (pv 6) pe_int (fun _ _ => rfl)) (fun _ _ => rfl)) (pv 2) (fun _ _ => rfl)))))))))
      (pss_one (ps_ret (pv 4))))), ?_⟩
    -- way = []
    refine ⟨Nat.zero_le _, fun L hL => ?_⟩
    have s1 : Same H (upd H L (.lst [])) := same_new hL
    -- the rows at hand, in any heap beyond H
    have atO : ∀ H', Same H H' → ∀ e f, e < g.M → f < g.F → ∃ x r v, SqL K H' g.O (g.oa.map V.ref) ∧ atI (g.oa.map V.ref) (e : Nat) = some (.ref x) ∧ SqL K H' x r ∧ atI r (f : Nat) = some v ∧ r[f]? = some v ∧ Row g.F cs Call.o e r := fun H' sm e f he hf => by
      obtain ⟨x, ex⟩ := at_lt (hA.ro.1.trans lO) he
      obtain ⟨_, _, _, _, _, r, er, hx⟩ := hA.neo ex
      have row := hO e r er
      have hfr : f < r.length := by rw [row.1]; exact hf
      exact ⟨x, r, r[f], SqL.of (sm _ _ hA.lo), atI_nat (by rw [List.getElem?_map, ex]; rfl), SqL.of (sm _ _ hx), atI_nat (List.getElem?_eq_getElem hfr), List.getElem?_eq_getElem hfr, row⟩
    have atI' : ∀ H', Same H H' → ∀ e f, e < g.N → f < g.F → ∃ x r v, SqL K H' g.I (g.ia.map V.ref) ∧ atI (g.ia.map V.ref) (e : Nat) = some (.ref x) ∧ SqL K H' x r ∧ atI r (f : Nat) = some v ∧ r[f]? = some v ∧ Row g.F cs Call.i e r := fun H' sm e f he hf => by
      obtain ⟨x, ex⟩ := at_lt (hA.ri.1.trans lI) he
      obtain ⟨_, _, _, _, _, r, er, hx⟩ := hA.nei ex
      have row := hI e r er
      have hfr : f < r.length := by rw [row.1]; exact hf
      exact ⟨x, r, r[f], SqL.of (sm _ _ hA.li), atI_nat (by rw [List.getElem?_map, ex]; rfl), SqL.of (sm _ _ hx), atI_nat (List.getElem?_eq_getElem hfr), List.getElem?_eq_getElem hfr, row⟩
    -- number = self.outlet_ends[outlet][frame]
    obtain ⟨x, r, v, z1, z2, z3, z4, z5, z6⟩ := atO _ s1 o fa ho hfa
    refine ⟨_, rfl, g.p, a.hall, dx, _, _, rfl, s1 _ _ ob, T.cls, T.nO, flds_O _ _ _ _, _, rfl, g.O, _, (o : Int), .ref x, rfl, rfl, z1, z2, _, rfl, x, r, (fa : Int), v, rfl, rfl, z3, z4, ?_⟩
    refine ⟨fun m σ H' => ∃ l st e v v6, σ = [some (.ref g.p), some (.int (o : Nat)), some (.int (fa : Nat)), some (.int (fb : Nat)), some (.ref L), some v, v6] ∧ Same H H' ∧ H' L = some (.lst (l.map fun c => V.int (c.n : Nat))) ∧ Chn cs fa fb o l st e ∧ Nxt cs fa fb st e v ∧ m = cs.length - l.length,
      ⟨_, [], true, o, v, none, rfl, s1, upd_same, .nil, nxt_o z6 z5, rfl⟩, ?_⟩
    rintro m σ H' ⟨l, st, e, v, v6, rfl, sm, hL', ch, nx', rfl⟩
    refine ⟨_, rfl, rfl, _, rfl, ?_⟩
    rcases nx' with ⟨rfl, fin⟩ | ⟨c, hc, rfl, on⟩
    · -- no more
      rw [if_neg (by decide)]
      exact ⟨_, rfl, q L l st e H' ch fin sm hL hL'⟩
    · rw [if_pos (show (!decide (V.int (c.n : Nat) = .non)) = true from rfl)]
      have on' : ∃ st' e', Chn cs fa fb o (l ++ [c]) st' e' ∧ ((c.f = fa ∧ st' = false ∧ e' = c.i) ∨ (c.f ≠ fa ∧ st' = true ∧ e' = c.o)) := by
        cases st with
        | true => exact ⟨false, c.i, .out ch hc on.1 on.2, .inl ⟨on.2, rfl, rfl⟩⟩
        | false => exact ⟨true, c.o, .inn ch hc on.1 on.2, .inr ⟨fun z => hab (z.symm.trans on.2), rfl, rfl⟩⟩
      obtain ⟨st', e', ch', cas⟩ := on'
      have hl' := nodup_le (ch'.once hG.good hab hb).1 ch'.sub
      rw [List.length_append, List.length_singleton] at hl'
      obtain ⟨⟨c', t⟩, het, hct⟩ := List.mem_map.mp (hP.mem_iff.mpr hc)
      have hct : c' = c := hct
      subst hct
      have ht := hE _ het
      have hval : valV (entK (es.map mkE)) (Sum.inl (c'.n : Int) : Key) = some (.ref t) := ent_val (entAt_of hE ndE) (e := mkE (c', t)) (List.mem_map.mpr ⟨_, het, rfl⟩)
      refine ⟨fun σ' H2 => ∃ m', m' < cs.length - l.length ∧ ∃ l st e v v6, σ' = [some (.ref g.p), some (.int (o : Nat)), some (.int (fa : Nat)), some (.int (fb : Nat)), some (.ref L), some v, v6] ∧ Same H H2 ∧ H2 L = some (.lst (l.map fun c => V.int (c.n : Nat))) ∧ Chn cs fa fb o l st e ∧ Nxt cs fa fb st e v ∧ m' = cs.length - l.length, fun σ' H2 z => z, ?_⟩
      -- way.append(number)
      refine ⟨_, rfl, .inl ⟨rfl, _, SqL.of hL'⟩, _, rfl, L, _, .int (c'.n : Nat), rfl, rfl, hL', by rw [List.length_map]; omega, ?_⟩
      have sm2 : Same H (upd H' L (.lst ((l.map fun c => V.int (c.n : Nat)) ++ [.int (c'.n : Nat)]))) := fun b u z => by
        rw [upd_ne (ne_of_none z hL)]
        exact sm _ _ z
      -- call = self.standing[number]
      refine ⟨_, rfl, g.p, a.hall, dx, _, _, rfl, sm2 _ _ ob, T.cls, T.nS, flds_S _ _ _ _, _, rfl, g.S, .ref t, rfl, (by rw [← hval]; exact DGet.k (k := Sum.inl (c'.n : Int)) (sm2 _ _ hA.st)), ?_⟩
      have ht2 := sm2 _ _ ht
      -- if call[2] == frame
      refine ⟨_, rfl, t, _, ((2 : Nat) : Int), .int (c'.f : Nat), rfl, rfl, SqT.of ht2, atI_nat rfl, _, rfl, rfl, _, rfl, ?_⟩
      obtain ⟨H3, eH3⟩ : ∃ H3, H3 = upd H' L (.lst ((l.map fun c => V.int (c.n : Nat)) ++ [.int (c'.n : Nat)])) := ⟨_, rfl⟩
      rw [← eH3] at sm2 ht2 ⊢
      have hL3 : H3 L = some (.lst ((l ++ [c']).map fun c => V.int (c.n : Nat))) := by
        rw [eH3, upd_same, List.map_append]
        rfl
      have step : ∀ st e v v6, Chn cs fa fb o (l ++ [c']) st e → Nxt cs fa fb st e v → ∃ m', m' < cs.length - l.length ∧ ∃ l st e v' v6', [some (.ref g.p), some (.int (o : Nat)), some (.int (fa : Nat)), some (.int (fb : Nat)), some (.ref L), some v, v6] = [some (.ref g.p), some (.int (o : Nat)), some (.int (fa : Nat)), some (.int (fb : Nat)), some (.ref L), some v', v6'] ∧ Same H H3 ∧ H3 L = some (.lst (l.map fun c => V.int (c.n : Nat))) ∧ Chn cs fa fb o l st e ∧ Nxt cs fa fb st e v' ∧ m' = cs.length - l.length := fun st e v v6 h1 h2 =>
        ⟨cs.length - (l ++ [c']).length, by rw [List.length_append, List.length_singleton]; omega, l ++ [c'], st, e, v, v6, rfl, sm2, hL3, h1, h2, rfl⟩
      rcases cas with ⟨hf, rfl, rfl⟩ | ⟨hf, rfl, rfl⟩
      · rw [if_pos (by rw [hf]; exact decide_eq_true rfl)]
        obtain ⟨x, r, v, z1, z2, z3, z4, z5, z6⟩ := atI' _ sm2 c'.i fb (hG.good.bi c' hc) hfb
        refine ⟨_, rfl, g.p, a.hall, dx, _, _, rfl, sm2 _ _ ob, T.cls, T.nI, flds_I _ _ _ _, _, rfl, t, _, ((0 : Nat) : Int), .int (c'.i : Nat), rfl, rfl, SqT.of ht2, atI_nat rfl, g.I, _, (c'.i : Int), .ref x, rfl, rfl, z1, z2, _, rfl, x, r, (fb : Int), v, rfl, rfl, z3, z4, ?_⟩
        exact step _ _ _ _ ch' (nxt_i z6 z5)
      · rw [if_neg (by rw [decide_eq_true_iff]; intro z; exact hf (by injection z with z; omega))]
        obtain ⟨x, r, v, z1, z2, z3, z4, z5, z6⟩ := atO _ sm2 c'.o fa (hG.good.bo c' hc) hfa
        refine ⟨_, rfl, g.p, a.hall, dx, _, _, rfl, sm2 _ _ ob, T.cls, T.nO, flds_O _ _ _ _, _, rfl, t, _, ((1 : Nat) : Int), .int (c'.o : Nat), rfl, rfl, SqT.of ht2, atI_nat rfl, g.O, _, (c'.o : Int), .ref x, rfl, rfl, z1, z2, _, rfl, x, r, (fa : Int), v, rfl, rfl, z3, z4, ?_⟩
        exact step _ _ _ _ ch' (nxt_o z6 z5)
end
end Hl
namespace Hl
open PySem L2
section
variable {P : Program} {w : World} {K : PySem.W.Frag} {mg : Str → Option Value} {base : Heap} {a : Ad} {d : Fd}
def Geo.all (g : Geo) : List Addr := g.p :: g.I :: g.O :: g.S :: (g.ia ++ g.oa)
theorem own_all {g : Geo} {b : Addr} (h : b ∈ g.own) : b ∈ g.all := by
  rcases List.mem_cons.mp h with z | h
  · exact z ▸ List.mem_cons_self
  · rcases List.mem_cons.mp h with z | h
    · exact z ▸ List.mem_cons_of_mem _ (List.mem_cons_of_mem _ (List.mem_cons_of_mem _ List.mem_cons_self))
    · exact List.mem_cons_of_mem _ (List.mem_cons_of_mem _ (List.mem_cons_of_mem _ (List.mem_cons_of_mem _ h)))
theorem all_p {g : Geo} : g.p ∈ g.all := List.mem_cons_self
theorem all_I {g : Geo} : g.I ∈ g.all := List.mem_cons_of_mem _ List.mem_cons_self
theorem all_O {g : Geo} : g.O ∈ g.all := List.mem_cons_of_mem _ (List.mem_cons_of_mem _ List.mem_cons_self)
theorem all_S {g : Geo} : g.S ∈ g.all := own_all own_S
theorem HallG.cong {C : Addr} {H H' : Hp} {g : Geo} {cs : List Call} {nx : Nat} (h : HallG C H g cs nx) (e : ∀ b ∈ g.all, H' b = H b) (tp : ∀ b xs, H b = some (.tup xs) → H' b = some (.tup xs)) : HallG C H' g cs nx := by
  obtain ⟨ri, ro, es, hA, hE, hr⟩ := h.core
  refine ⟨h.good, h.lt, h.le, ri, ro, es, ⟨?_, ?_, ?_, ⟨hA.ri.1, fun j x r e1 e2 => ?_⟩, ⟨hA.ro.1, fun j x r e1 e2 => ?_⟩, ?_, hA.nd⟩, fun x hx => tp _ _ (hE x hx), hr⟩
  · obtain ⟨dx, ob⟩ := hA.ob
    exact ⟨dx, by rw [e _ all_p]; exact ob⟩
  · rw [e _ all_I]; exact hA.li
  · rw [e _ all_O]; exact hA.lo
  · rw [e x (own_all (own_i e1))]; exact hA.ri.2 j x r e1 e2
  · rw [e x (own_all (own_o e1))]; exact hA.ro.2 j x r e1 e2
  · rw [e _ all_S]; exact hA.st
theorem HallG.off {C : Addr} {H : Hp} {g : Geo} {cs : List Call} {nx : Nat} {D : Addr} {o : HO} (h : HallG C H g cs nx) (n : D ∉ g.all) (nt : ∀ xs, H D ≠ some (.tup xs)) : HallG C (upd H D o) g cs nx :=
  h.cong (fun b hb => upd_ne fun z => n (z ▸ hb)) fun b xs q => by
    have hb : b ≠ D := fun z => nt xs (z ▸ q)
    rw [upd_ne hb]
    exact q
theorem HallG.there {C : Addr} {H : Hp} {g : Geo} {cs : List Call} {nx : Nat} (h : HallG C H g cs nx) : ∀ b ∈ g.all, ∃ u, H b = some u ∧ ∀ xs, u ≠ .tup xs := fun b m => by
  obtain ⟨ri, ro, es, hA, _⟩ := h.core
  obtain ⟨dx, hp⟩ := hA.ob
  rcases List.mem_cons.mp m with rfl | m
  · exact ⟨_, hp, fun _ z => nomatch z⟩
  rcases List.mem_cons.mp m with rfl | m
  · exact ⟨_, hA.li, fun _ z => nomatch z⟩
  rcases List.mem_cons.mp m with rfl | m
  · exact ⟨_, hA.lo, fun _ z => nomatch z⟩
  rcases List.mem_cons.mp m with rfl | m
  · exact ⟨_, hA.st, fun _ z => nomatch z⟩
  rcases List.mem_append.mp m with m | m
  · obtain ⟨r, z⟩ := rows_mem hA.ri m
    exact ⟨_, z, fun _ z => nomatch z⟩
  · obtain ⟨r, z⟩ := rows_mem hA.ro m
    exact ⟨_, z, fun _ z => nomatch z⟩
theorem HallG.newA {C : Addr} {H : Hp} {g : Geo} {cs : List Call} {nx : Nat} (h : HallG C H g cs nx) {t : Addr} (q : H t = none) : t ∉ g.all := fun m => by
  obtain ⟨u, hu, _⟩ := h.there t m
  rw [q] at hu
  cases hu
theorem HallG.ob {C : Addr} {H : Hp} {g : Geo} {cs : List Call} {nx : Nat} (h : HallG C H g cs nx) : ∃ dx, H g.p = some (.ins C dx (flds g.I g.O g.S nx)) := by
  obtain ⟨ri, ro, es, hA, _⟩ := h.core
  exact hA.ob
theorem ints_of_calls (l : List Call) : (l.map fun c => (c.n : Int)).map V.int = l.map fun c => V.int (c.n : Nat) := by
  rw [List.map_map]
  rfl
def spRoom (a : Ad) : Sp := fun vs H Q _ => ∃ g cs nx o fa fb, vs = [.ref g.p, .int (o : Nat), .int (fa : Nat), .int (fb : Nat)] ∧ HallG a.hall H g cs nx ∧ nx < 64 ∧ o < g.M ∧ fa < g.F ∧ fb < g.F ∧ fa ≠ fb ∧ (∀ c ∈ cs, c.o = o → c.f = fb → False) ∧
  ∀ L l s e H', Chn cs fa fb o l s e → Fin cs fa fb s e → HallG a.hall H' g (cs.map (sw fa fb l)) nx → Keeps g H H' → H L = none → H' L = some (.lst ((srt (l.map fun c => (c.n : Int))).map V.int)) → Q (.ref L) H'
theorem scRoom : FnScope ["self", "outlet", "frame", "spare", "moved", "lifted", "number", "call"] ["self", "outlet", "frame", "spare"] (defScope sRoom) := ⟨rfl, rfl, rfl, by decide +kernel, rfl, by decide +kernel, by decide +kernel⟩
theorem ok_room (T : HTxt K mg a d) : FnOk P w K mg base (CXx P w) 2 a.room d.room ["self", "outlet", "frame", "spare"] (spRoom a) := by
  have GW : FnOk P w K mg base (CXx P w) 1 a.way d.way ["self", "outlet", "frame", "spare"] (spWay a) := ok_way T
  have GL : FnOk P w K mg base (CXx P w) 1 a.lift d.lift ["self", "number"] (spLift a) := ok_lift T
  have GY : FnOk P w K mg base (CXx P w) 1 a.lay d.lay ["self", "number", "inlet", "outlet", "frame"] (spLay a) := ok_lay T
  refine T.f_room.okN scRoom (fun vs H Q E h => ?_) (fun cdv A outer s H vs Q E hr h => ?_)
  · obtain ⟨g, cs, nx, o, fa, fb, rfl, _⟩ := h
    rfl
  · obtain ⟨g, cs, nx, o, fa, fb, rfl, hG, h64, ho, hfa, hfb, hab, hb, q⟩ := h
    have hu := hu_of hr
    have hsl : sizeLine = 16777216 := sizeLine_eq
    have hlen := hG.len
    refine ⟨_, pss_cons (ps_set (i := 4) scRoom.nd rfl (Or.inl rfl) (pe_callB call_sortedL rfl T.sorted_ bt_sorted (pa_cons (pe_meth (pv 0) T.cls T.m_way GW hr T.b_way .nil pass0x (pa_cons (pv 1) (pa_cons (pv 2) (pa_cons (pv 3) pa_nil)))) pa_nil)))
      (pss_cons (ps_setC (i := 5) scRoom.nd rfl (Or.inl rfl) rfl (pi_list (pv 4))
        (comp1 (k := 0) rfl (by decide +kernel) (by decide +kernel) rfl rfl rfl ⟨(fun z => nomatch z), ⟨(fun z => nomatch z), ⟨(fun _ => ⟨_, rfl⟩), trivial⟩⟩⟩ rfl (.inr (.inl rfl)) rfl rfl (by decide +kernel))
        (fun _ _ _ _ _ => pifs_nil) (fun _ _ _ _ _ => pe_meth (pv 1) T.cls T.m_lift GL hr T.b_lift .nil pass0x (pa_cons (pv 0) pa_nil)))
      (pss_cons (ps_for PassesOwn.never rfl (pi_zip rfl T.zip_ (pa_cons (pv 4) (pa_cons (pv 5) pa_nil))) (pg_tup (n := 2) rfl (pgs_cons (pg_name (i := 6) scRoom.nd rfl (Or.inl rfl)) (pgs_cons (pg_name (i := 7) scRoom.nd rfl (Or.inl rfl)) pgs_nil)))
        (pss_one (ps_expr (pe_meth (pv 0) T.cls T.m_lay GY hr T.b_lay .nil pass0x (pa_cons (pv 6) (pa_cons (pe_ix ix_tup (pv 7) pe_int (fun _ _ => rfl)) (pa_cons (pe_ix ix_tup (pv 7) pe_int (fun _ _ => rfl)) (pa_cons (pe_ifExp (pt_cmpR op_eq (pe_ix ix_tup (pv 7) pe_int (fun _ _ => rfl)) (pv 2) (nomark _)) (pv 3) (pv 2)) pa_nil))))))))
      (pss_one (ps_ret (pv 4))))), ?_⟩
    -- moved = sorted(self.way_from(..))
    obtain ⟨dx, ob⟩ := hG.ob
    refine ⟨_, rfl, g.p, dx, _, rfl, ob, flds_way _ _ _ _, _, rfl, _, rfl, _, rfl, g, cs, nx, o, fa, fb, rfl, hG, by omega, ho, hfa, hfb, hab, hb, fun L0 l st e H1 ch fin sm1 hL0 hl0 => ?_⟩
    have once := ch.once hG.good hab hb
    have ll := nodup_le once.1 ch.sub
    refine ⟨L0, l.map (fun c => (c.n : Int)), rfl, SqL.of (by rw [ints_of_calls]; exact hl0), by rw [List.length_map]; omega, fun L hL => ?_⟩
    obtain ⟨lc, plc, elc⟩ := perm_map_ex (srt_perm (l.map fun c => (c.n : Int))) rfl
    have hM : (srt (l.map fun c => (c.n : Int))).map V.int = lc.map fun c => V.int (c.n : Nat) := by rw [← elc, ints_of_calls]
    have llc : lc.length = l.length := plc.length_eq
    have lsub : ∀ c ∈ lc, c ∈ cs := fun c hc => ch.sub c (plc.mem_iff.mp hc)
    have ndn : (lc.map (·.n)).Nodup := nd_map (plc.nodup_iff.mpr once.1) fun c hc d hd z => nd_un hG.good.nd (lsub c hc) (lsub d hd) z
    rw [hM]
    obtain ⟨H2, eH2⟩ : ∃ H2, H2 = upd H1 L (.lst (lc.map fun c => V.int (c.n : Nat))) := ⟨_, rfl⟩
    rw [← eH2]
    have sm2 : Same H H2 := by rw [eH2]; exact sm1.trans (same_new hL)
    have hL0' : H L = none := sm1.free hL
    have hL2 : H2 L = some (.lst (lc.map fun c => V.int (c.n : Nat))) := by rw [eH2, upd_same]
    have nL : L ∉ g.all := hG.newA hL0'
    have hG2 := hG.same sm2
    -- lifted = [..]
    refine ⟨_, rfl, L, rfl, ⟨_, SqL.of hL2⟩, fun D hD => ?_⟩
    have nD : D ∉ g.all := hG2.newA hD
    have nDL : D ≠ L := fun z => by rw [z, hL2] at hD; cases hD
    refine comp_list (K := K) (a := L) (xs := lc.map fun c => V.int (c.n : Nat)) (fun i H' => ∃ ts : List Addr, ts.length = i ∧ HallG a.hall H' g (remN cs ((lc.take i).map (·.n))) nx ∧ Keeps g H H' ∧ H' L = some (.lst (lc.map fun c => V.int (c.n : Nat))) ∧ H' D = some (.lst (ts.map V.ref)) ∧ ∀ (j : Nat) t c, ts[j]? = some t → lc[j]? = some c → H' t = some (.tup [.int (c.i : Nat), .int (c.o : Nat), .int (c.f : Nat)])) ?_ ?_ ?_ ?_
    · refine ⟨[], rfl, ?_, ?_, ?_, upd_same, fun j t c e => by simp at e⟩
      · show HallG a.hall _ g (remN cs []) nx
        rw [remN_nil]
        exact hG2.same (same_new hD)
      · exact Keeps.same (sm2.trans (same_new hD))
      · exact same_new hD _ _ hL2
    · rintro i H' _ ⟨ts, _, _, _, h4, _⟩
      exact SqL.of h4
    · rintro i x H' hx ⟨ts, hts, hGi, kp, hLi, hDi, hti⟩
      rw [List.getElem?_map] at hx
      cases hc : lc[i]? with
      | none => rw [hc] at hx; cases hx
      | some c =>
        rw [hc] at hx
        cases Option.some.inj hx
        have ilt := (List.getElem?_eq_some_iff.mp hc).1
        have mc := List.mem_of_getElem? hc
        have cmem : c ∈ remN cs ((lc.take i).map (·.n)) := mem_remN.mpr ⟨lsub c mc, fun z => by
          obtain ⟨c', hc', e⟩ := List.mem_map.mp z
          obtain ⟨j, hj, ej⟩ := List.getElem_of_mem hc'
          rw [List.length_take] at hj
          rw [List.getElem_take] at ej
          have h1 := List.pairwise_iff_getElem.mp ndn j i (by rw [List.length_map]; omega) (by rw [List.length_map]; omega) (by omega)
          rw [List.getElem_map, List.getElem_map] at h1
          have e2 : lc[i] = c := Option.some.inj ((List.getElem?_eq_getElem ilt).symm.trans hc)
          rw [ej, e2] at h1
          exact h1 e⟩
        refine yes (iteT ?_)
        obtain ⟨dxi, obi⟩ := hGi.ob
        refine ⟨_, rfl, g.p, dxi, _, rfl, obi, flds_lift _ _ _ _, _, rfl, g, _, nx, c, rfl, hGi, cmem, fun H3 t ht hG3 kp3 => ?_⟩
        have oL : L ∉ g.own := fun z => nL (own_all z)
        have oD : D ∉ g.own := fun z => nD (own_all z)
        have hL3 := kp3 _ _ hLi oL
        have hD3 := kp3 _ _ hDi oD
        have ht3 : H3 t = some (.tup [.int (c.i : Nat), .int (c.o : Nat), .int (c.f : Nat)]) := kp3 _ _ ht (hGi.tup ht)
        have ntD : ∀ xs, H3 D ≠ some (.tup xs) := fun xs z => by rw [hD3] at z; cases z
        refine ⟨_, hD3, by rw [List.length_map]; omega, ts ++ [t], by rw [List.length_append, hts]; rfl, ?_, ?_, ?_, ?_, fun j t' c' e1 e2 => ?_⟩
        · have eq : less (remN cs ((lc.take i).map (·.n))) c.n = remN cs ((lc.take (i + 1)).map (·.n)) := by
            rw [List.take_add_one, hc, List.map_append]
            exact remN_snoc cs _ c.n
          rw [← eq]
          exact hG3.off nD ntD
        · intro b u z nb
          have z3 := kp3 _ _ (kp b u z nb) nb
          have nb' : b ≠ D := fun y => by rw [y, (sm2.free hD)] at z; cases z
          rw [upd_ne nb']
          exact z3
        · rw [upd_ne (Ne.symm nDL)]
          exact hL3
        · rw [upd_same, List.map_append]
          rfl
        · have far : ∀ (t' : Addr) (zs : List V), H3 t' = some (.tup zs) → upd H3 D (.lst (ts.map V.ref ++ [.ref t])) t' = some (.tup zs) := fun t' zs z => by
            have : t' ≠ D := fun y => ntD zs (y ▸ z)
            rw [upd_ne this]
            exact z
          by_cases hj : j < ts.length
          · rw [List.getElem?_append_left hj] at e1
            have y := hti j t' c' e1 e2
            exact far _ _ (kp3 _ _ y (hGi.tup y))
          · rw [List.getElem?_append_right (by omega)] at e1
            have lt := (List.getElem?_eq_some_iff.mp e1).1
            have ej : j - ts.length = 0 := by simp at lt; omega
            rw [ej] at e1
            cases Option.some.inj e1
            have : j = i := by omega
            subst this
            rw [hc] at e2
            cases e2
            exact far _ _ ht3
    · rintro H' ⟨ts, hts, hGn, kp, hLn, hDn, htn⟩
      rw [List.length_map] at hts hGn
      rw [List.take_length] at hGn
      have GS := sw_good hG.good hab hfa hfb hb ch fin
      have swP := sw_perm (a := fa) (b := fb) hG.good once.1 ch.sub plc
      -- for number, call in zip(moved, lifted)
      refine ⟨_, rfl, _, rfl, L, D, _, _, rfl, SqL.of hLn, SqL.of hDn, ?_⟩
      refine for_zip (K := K) (l1 := L) (l2 := D) (xs := lc.map fun c => V.int (c.n : Nat)) (ys := ts.map V.ref) (by rw [List.length_map, List.length_map, hts])
        (fun i σ H' => ∃ (v6 v7 : Option V) (ds : List Call), σ = [some (.ref g.p), some (.int (o : Nat)), some (.int (fa : Nat)), some (.int (fb : Nat)), some (.ref L), some (.ref D), v6, v7] ∧ ds.Perm ((lc.take i).map (swc fa fb) ++ remN cs (lc.map (·.n))) ∧ HallG a.hall H' g ds nx ∧ Keeps g H H' ∧ H' L = some (.lst (lc.map fun c => V.int (c.n : Nat))) ∧ H' D = some (.lst (ts.map V.ref)) ∧ ∀ (j : Nat) t c, ts[j]? = some t → lc[j]? = some c → H' t = some (.tup [.int (c.i : Nat), .int (c.o : Nat), .int (c.f : Nat)])) ?_ ?_ ?_ ?_
      · exact ⟨none, none, _, rfl, by rw [List.take_zero]; exact List.Perm.refl _, hGn, kp, hLn, hDn, htn⟩
      · rintro i σ H' _ ⟨_, _, _, _, _, _, _, h1, h2, _⟩
        exact ⟨SqL.of h1, SqL.of h2⟩
      · rintro i x y σ H' t0 hx hy ⟨v6, v7, ds, rfl, pds, hGi, kpi, hLi, hDi, hti⟩ hT
        rw [List.getElem?_map] at hx hy
        cases hc : lc[i]? with
        | none => rw [hc] at hx; cases hx
        | some c =>
          rw [hc] at hx
          cases Option.some.inj hx
          cases ht : ts[i]? with
          | none => rw [ht] at hy; cases hy
          | some t =>
            rw [ht] at hy
            cases Option.some.inj hy
            have mc := List.mem_of_getElem? hc
            have sT : Same H' (upd H' t0 (.tup [.int (c.n : Nat), .ref t])) := same_new hT
            obtain ⟨H4, eH4⟩ : ∃ H4, H4 = upd H' t0 (.tup [.int (c.n : Nat), .ref t]) := ⟨_, rfl⟩
            have hT4 : H4 t0 = some (.tup [.int (c.n : Nat), .ref t]) := by rw [eH4, upd_same]
            rw [← eH4] at sT ⊢
            have hG4 := hGi.same sT
            have ht4 := sT _ _ (hti i t c ht hc)
            obtain ⟨dxi, obi⟩ := hG4.ob
            refine ⟨t0, _, rfl, SqT.of hT4, rfl, _, _, rfl, _, _, rfl, rfl, ?_⟩
            refine ⟨_, rfl, g.p, dxi, _, rfl, obi, flds_lay _ _ _ _, _, rfl, _, rfl, t, _, ((0 : Nat) : Int), .int (c.i : Nat), rfl, rfl, SqT.of ht4, atI_nat rfl, _, rfl, t, _, ((1 : Nat) : Int), .int (c.o : Nat), rfl, rfl, SqT.of ht4, atI_nat rfl, _, rfl, t, _, ((2 : Nat) : Int), .int (c.f : Nat), rfl, rfl, SqT.of ht4, atI_nat rfl, _, rfl, rfl, _, rfl, ?_⟩
            have swin : ∀ d ∈ ds, d ∈ cs.map (sw fa fb l) := fun d hd => by
              refine swP.mem_iff.mp ?_
              rcases List.mem_append.mp (pds.mem_iff.mp hd) with z | z
              · obtain ⟨x, hx, rfl⟩ := List.mem_map.mp z
                exact List.mem_append_left _ (List.mem_map_of_mem (List.mem_of_mem_take hx))
              · exact List.mem_append_right _ z
            have swc_in : swc fa fb c ∈ cs.map (sw fa fb l) := swP.mem_iff.mp (List.mem_append_left _ (List.mem_map_of_mem mc))
            have ilt := (List.getElem?_eq_some_iff.mp hc).1
            have nin : c.n ∉ ds.map (·.n) := fun z => by
              obtain ⟨d, hd, ed⟩ := List.mem_map.mp z
              rcases List.mem_append.mp (pds.mem_iff.mp hd) with z | z
              · obtain ⟨x, hx, rfl⟩ := List.mem_map.mp z
                obtain ⟨j, hj, ej⟩ := List.getElem_of_mem hx
                rw [List.length_take] at hj
                rw [List.getElem_take] at ej
                have h1 := List.pairwise_iff_getElem.mp ndn j i (by rw [List.length_map]; omega) (by rw [List.length_map]; omega) (by omega)
                rw [List.getElem_map, List.getElem_map] at h1
                have e2 : lc[i] = c := Option.some.inj ((List.getElem?_eq_getElem ilt).symm.trans hc)
                rw [ej, e2] at h1
                exact h1 ed
              · exact (mem_remN.mp z).2 (List.mem_map.mpr ⟨c, mc, ed.symm⟩)
            have apart : ∀ d ∈ ds, d ≠ swc fa fb c := fun d hd z => nin (List.mem_map.mpr ⟨d, hd, by rw [z]; rfl⟩)
            have post : ∀ H5, HallG a.hall H5 g (swc fa fb c :: ds) nx → Keeps g H4 H5 → (swc fa fb c :: ds).Perm ((lc.take (i + 1)).map (swc fa fb) ++ remN cs (lc.map (·.n))) ∧ HallG a.hall H5 g (swc fa fb c :: ds) nx ∧ Keeps g H H5 ∧ H5 L = some (.lst (lc.map fun c => V.int (c.n : Nat))) ∧ H5 D = some (.lst (ts.map V.ref)) ∧ ∀ (j : Nat) t c, ts[j]? = some t → lc[j]? = some c → H5 t = some (.tup [.int (c.i : Nat), .int (c.o : Nat), .int (c.f : Nat)]) := fun H5 hG5 kp5 => by
              refine ⟨?_, hG5, fun b u z nb => kp5 _ _ (sT _ _ (kpi b u z nb)) nb, kp5 _ _ (sT _ _ hLi) fun z => nL (own_all z), kp5 _ _ (sT _ _ hDi) fun z => nD (own_all z), fun j t' c' e1 e2 => ?_⟩
              · rw [List.take_add_one, hc, List.map_append]
                refine (List.Perm.cons _ pds).trans ?_
                show (swc fa fb c :: (List.map (swc fa fb) (List.take i lc) ++ remN cs (lc.map (·.n)))).Perm ((List.map (swc fa fb) (List.take i lc) ++ [swc fa fb c]) ++ remN cs (lc.map (·.n)))
                rw [List.append_assoc]
                exact List.perm_middle.symm
              · have y := sT _ _ (hti j t' c' e1 e2)
                exact kp5 _ _ y (hG4.tup y)
            dsimp only
            by_cases hf : c.f = fa
            · rw [if_pos (by rw [hf]; exact decide_eq_true rfl)]
              have ef : (swc fa fb c).f = fb := by show (if c.f = fa then fb else fa) = fb; rw [if_pos hf]
              exact ⟨_, rfl, g, ds, nx, swc fa fb c, by rw [ef] <;> rfl, hG4, by omega, nin, hG.lt c (lsub c mc), GS.bi _ swc_in, GS.bo _ swc_in, GS.bf _ swc_in, fun d hd z1 z2 => apart d hd (GS.ui d (swin d hd) _ swc_in z1 z2), fun d hd z1 z2 => apart d hd (GS.uo d (swin d hd) _ swc_in z1 z2), fun H5 hG5 kp5 => ⟨_, _, _, rfl, post H5 hG5 kp5⟩⟩
            · rw [if_neg (by rw [decide_eq_true_iff]; intro z; exact hf (by injection z with z; omega))]
              have ef : (swc fa fb c).f = fa := by show (if c.f = fa then fb else fa) = fa; rw [if_neg hf]
              exact ⟨_, rfl, g, ds, nx, swc fa fb c, by rw [ef] <;> rfl, hG4, by omega, nin, hG.lt c (lsub c mc), GS.bi _ swc_in, GS.bo _ swc_in, GS.bf _ swc_in, fun d hd z1 z2 => apart d hd (GS.ui d (swin d hd) _ swc_in z1 z2), fun d hd z1 z2 => apart d hd (GS.uo d (swin d hd) _ swc_in z1 z2), fun H5 hG5 kp5 => ⟨_, _, _, rfl, post H5 hG5 kp5⟩⟩
      · rintro σ H' ⟨v6, v7, ds, rfl, pds, hGi, kpi, hLi, hDi, hti⟩
        rw [List.length_map, List.take_length] at pds
        have hGf := hGi.perm ((pds.trans swP).symm)
        refine ⟨_, rfl, q L l st e H' ch fin hGf kpi hL0' ?_⟩
        rw [hM]
        exact hLi
end
end Hl
namespace Hl
open PySem L2
def ldS (sel : Call → Nat) (cs : List Call) (e : Nat) : Nat := (cs.filter fun c => decide (sel c = e)).length
theorem nd_fr {l : List Call} (nd : l.Nodup) (inj : ∀ c ∈ l, ∀ d ∈ l, c.f = d.f → c = d) : (l.map (·.f)).Nodup := by
  induction l with
  | nil => exact List.nodup_nil
  | cons c l ih =>
    obtain ⟨n1, n2⟩ := List.nodup_cons.mp nd
    refine List.nodup_cons.mpr ⟨fun m => ?_, ih n2 fun x hx y hy => inj x (List.mem_cons_of_mem _ hx) y (List.mem_cons_of_mem _ hy)⟩
    obtain ⟨x, hx, e⟩ := List.mem_map.mp m
    exact n1 (inj x (List.mem_cons_of_mem _ hx) c List.mem_cons_self e ▸ hx)
section
variable {F : Nat} {cs : List Call} {sel : Call → Nat} {e : Nat} {r : List V}
theorem row_range (h : Row F cs sel e r) : r = (List.range F).map fun f => r.getD f .non := by
  apply List.ext_getElem?
  intro j
  rw [List.getElem?_map]
  by_cases hj : j < F
  · rw [List.getElem?_range hj, List.getElem?_eq_getElem (by rw [h.1]; exact hj)]
    show _ = some (r.getD j .non)
    rw [List.getD_eq_getElem?_getD, List.getElem?_eq_getElem (by rw [h.1]; exact hj)]
    rfl
  · rw [List.getElem?_eq_none (by rw [h.1]; omega), List.getElem?_eq_none (by rw [List.length_range]; omega)]
    rfl
theorem row_load (h : Row F cs sel e r) (un : ∀ c ∈ cs, ∀ d ∈ cs, sel c = sel d → c.f = d.f → c = d) (nd : cs.Nodup) (bf : ∀ c ∈ cs, c.f < F) : loadV r = (ldS sel cs e : Nat) := by
  have h1 : r.length = r.countP (fun z => eqV z .non) + r.countP (fun z => !eqV z .non) := by
    rw [List.length_eq_countP_add_countP (fun z => eqV z .non)]
    congr 1
    refine List.countP_congr fun z _ => ?_
    cases eqV z .non <;> simp
  have h2 : r.countP (fun z => !eqV z .non) = ldS sel cs e := by
    have e1 : r.countP (fun z => !eqV z .non) = ((List.range F).filter fun f => !eqV (r.getD f .non) .non).length := by
      conv => lhs; rw [row_range h]
      rw [List.countP_map, List.countP_eq_length_filter]
      rfl
    rw [e1]
    have p : ((List.range F).filter fun f => !eqV (r.getD f .non) .non).Perm ((cs.filter fun c => decide (sel c = e)).map (·.f)) := by
      refine (List.perm_ext_iff_of_nodup (List.nodup_range.sublist List.filter_sublist) (nd_fr (nd.sublist List.filter_sublist) fun c hc d hd z => ?_)).mpr fun f => ?_
      · have hc := List.mem_filter.mp hc
        have hd := List.mem_filter.mp hd
        exact un c hc.1 d hd.1 ((of_decide_eq_true hc.2).trans (of_decide_eq_true hd.2).symm) z
      · rw [List.mem_filter, List.mem_range, List.mem_map]
        constructor
        · rintro ⟨hf, hz⟩
          have hfr : f < r.length := by rw [h.1]; exact hf
          have q : r[f]? = some r[f] := List.getElem?_eq_getElem hfr
          rw [List.getD_eq_getElem?_getD, q] at hz
          rcases h.2 f _ q with ⟨z, _⟩ | ⟨c, hc, z1, z2, z3⟩
          · rw [Option.getD_some, z] at hz
            cases hz
          · exact ⟨c, List.mem_filter.mpr ⟨hc, decide_eq_true z1⟩, z2⟩
        · rintro ⟨c, hc, rfl⟩
          have hc := List.mem_filter.mp hc
          refine ⟨bf c hc.1, ?_⟩
          have z1 : sel c = e := of_decide_eq_true hc.2
          rw [List.getD_eq_getElem?_getD, h.at_ (fun d hd y1 y2 => un d hd c hc.1 y1 y2) hc.1 z1 (bf c hc.1)]
          rfl
    have := p.length_eq
    rw [List.length_map] at this
    exact this
  unfold loadV
  rw [← h2]
  omega
theorem row_full (h : Row F cs sel e r) (un : ∀ c ∈ cs, ∀ d ∈ cs, sel c = sel d → c.f = d.f → c = d) (nd : cs.Nodup) (bf : ∀ c ∈ cs, c.f < F) : ldS sel cs e ≠ F → ∃ f : Nat, r[f]? = some V.non := fun hn => by
  have h0 := row_load h un nd bf
  unfold loadV at h0
  have h1 : 0 < r.countP fun z => eqV z .non := by
    rw [h.1] at h0
    have : r.countP (fun z => eqV z .non) ≤ r.length := List.countP_le_length
    rw [h.1] at this
    omega
  obtain ⟨x, hx, hp⟩ := List.countP_pos_iff.mp h1
  obtain ⟨f, hf⟩ := List.getElem?_of_mem hx
  exact ⟨f, by rw [hf, eqV_non.mp hp]⟩
end
theorem least_of {p : Nat → Prop} (h : ∃ f, p f) : ∃ f, p f ∧ ∀ m, m < f → ¬ p m := by
  obtain ⟨f, hf⟩ := h
  induction f using Nat.strongRecOn with
  | _ f ih =>
    by_cases q : ∃ m, m < f ∧ p m
    · obtain ⟨m, h1, h2⟩ := q
      exact ih m h1 h2
    · exact ⟨f, hf, fun m hm z => q ⟨m, hm, z⟩⟩
def frI (F : Nat) (cs : List Call) (i f : Nat) : Prop := f < F ∧ ∀ c ∈ cs, c.i = i → c.f = f → False
def frO (F : Nat) (cs : List Call) (o f : Nat) : Prop := f < F ∧ ∀ c ∈ cs, c.o = o → c.f = f → False
def PutOk (F : Nat) (cs : List Call) (i o f : Nat) (l cs' : List Call) : Prop :=
  (frI F cs i f ∧ frO F cs o f ∧ (∀ m, m < f → frI F cs i m → frO F cs o m → False) ∧ l = [] ∧ cs' = cs) ∨
  ((∀ m, frI F cs i m → frO F cs o m → False) ∧ frI F cs i f ∧ (∀ m, m < f → ¬ frI F cs i m) ∧ ∃ fb s e, frO F cs o fb ∧ (∀ m, m < fb → ¬ frO F cs o m) ∧ f ≠ fb ∧ Chn cs f fb o l s e ∧ Fin cs f fb s e ∧ cs' = cs.map (sw f fb l))
theorem Row.non_iff {F : Nat} {cs : List Call} {sel : Call → Nat} {e : Nat} {r : List V} (h : Row F cs sel e r) (f : Nat) : r[f]? = some .non ↔ f < F ∧ ∀ c ∈ cs, sel c = e → c.f = f → False := ⟨h.free, fun z => h.none_ z.1 z.2⟩
theorem HallAt.toN {C : Addr} {H : Hp} {g : Geo} {cs : List Call} {nx : Nat} (h : HallG C H g cs nx) {dx : Addr} (ny : Nat) (hle : nx ≤ ny) : HallG C (upd H g.p (.ins C dx (flds g.I g.O g.S ny))) g cs ny := by
  obtain ⟨ri, ro, es, hA, hE, hr⟩ := h.core
  obtain ⟨dx0, ob⟩ := hA.ob
  refine ⟨h.good, fun c hc => Nat.lt_of_lt_of_le (h.lt c hc) hle, h.le, ri, ro, es, hA.setN ny, fun x hx => ?_, hr⟩
  have z := hE x hx
  rw [upd_ne (ne_of z ob (by simp))]
  exact z
end Hl
namespace Hl
open PySem L2
section
variable {P : Program} {w : World} {K : PySem.W.Frag} {mg : Str → Option Value} {base : Heap} {a : Ad} {d : Fd}
theorem HallG.toN {C : Addr} {H : Hp} {g : Geo} {cs : List Call} {nx : Nat} (h : HallG C H g cs nx) {dx : Addr} (ny : Nat) (hle : nx ≤ ny) : HallG C (upd H g.p (.ins C dx (flds g.I g.O g.S ny))) g cs ny := HallAt.toN h ny hle
theorem pss_weak {X : Cx} {st : List Stmt} {t : TS} (t' : TS) (h : PSs X st t) (w : ∀ Dd σ H, t' Dd σ H → t Dd σ H) : PSs X st t' := fun pins s σ H Dd I q => h pins s σ H Dd I (w Dd σ H q)
def tTail (C : Addr) (g : Geo) (nx : Nat) : TS := fun Dn σ H => ∃ (i o f : Nat) (cs : List Call) (L : Addr) (v3 v4 v7 : Option V), σ = [some (.ref g.p), some (.int (i : Nat)), some (.int (o : Nat)), v3, v4, some (.ref L), some (.int (f : Nat)), v7] ∧ HallG C H g cs nx ∧ i < g.N ∧ o < g.M ∧ frI g.F cs i f ∧ frO g.F cs o f ∧
  ∀ t H', HallG C H' g (⟨nx, i, o, f⟩ :: cs) (nx + 1) → Keeps g H H' → H t = none → H' t = some (.tup [.int (nx : Nat), .int (f : Nat), .ref L]) → Dn.rt (.ref t) H'
def spPut (K : PySem.W.Frag) (a : Ad) : Sp := fun vs H Q E => ∃ g cs nx x y Tx Ty, vs = [.ref g.p, x, y] ∧ HallG a.hall H g cs nx ∧ nx < 63 ∧ TyOf K H x (.type Tx) ∧ TyOf K H y (.type Ty) ∧
  (inB x 0 ((g.N : Int) - 1) = false → E (.ref a.noEnd) none H) ∧ (inB y 0 ((g.M : Int) - 1) = false → E (.ref a.noEnd) none H) ∧
  ∀ i o : Nat, x = .int i → y = .int o → i < g.N → o < g.M → (ldS Call.i cs i = g.F ∨ ldS Call.o cs o = g.F → E (.ref a.busy) none H) ∧
    (ldS Call.i cs i ≠ g.F → ldS Call.o cs o ≠ g.F → ∀ f l cs' L t H', PutOk g.F cs i o f l cs' → HallG a.hall H' g (⟨nx, i, o, f⟩ :: cs') (nx + 1) → Keeps g H H' → H L = none → H' L = some (.lst ((srt (l.map fun c => (c.n : Int))).map V.int)) → H t = none → H' t = some (.tup [.int (nx : Nat), .int (f : Nat), .ref L]) → L ≠ t → Q (.ref t) H')
theorem scPut : FnScope ["self", "inlet", "outlet", "inlet_end", "outlet_end", "moved", "frame", "number"] ["self", "inlet", "outlet"] (defScope sPut) := ⟨rfl, rfl, rfl, by decide +kernel, rfl, by decide +kernel, by decide +kernel⟩
theorem ok_put (T : HTxt K mg a d) : FnOk P w K mg base (CXx P w) 4 a.put d.put ["self", "inlet", "outlet"] (spPut K a) := by
  have GE : FnOk P w K mg base (CXx P w) 3 a.endAt d.endAt ["ends", "place"] (spEnd K a.noEnd) := ok_end T
  have GF : FnOk P w K mg base (CXx P w) 2 a.isFull d.isFull ["end"] (spFull K) := ok_full T
  have GB : FnOk P w K mg base (CXx P w) 1 a.both d.both ["one", "other"] (spBoth K) := ok_both T
  have GLe : FnOk P w K mg base (CXx P w) 1 a.least d.least ["end"] (spLeast K) := ok_least T
  have GR : FnOk P w K mg base (CXx P w) 2 a.room d.room ["self", "outlet", "frame", "spare"] (spRoom a) := ok_room T
  have GY : FnOk P w K mg base (CXx P w) 1 a.lay d.lay ["self", "number", "inlet", "outlet", "frame"] (spLay a) := ok_lay T
  refine T.f_put.okX scPut (fun vs H Q E h => ?_) (fun X cdv A outer s H vs Q E hX b hr h => ?_)
  · obtain ⟨g, cs, nx, x, y, Tx, Ty, rfl, _⟩ := h
    rfl
  · subst hX
    obtain ⟨g, cs, nx, x, y, Tx, Ty, rfl, hG, h63, tx, ty, qx, qy, qq⟩ := h
    have hr1 : Room 1 _ := hr.mono (by decide)
    have hr2 : Room 2 _ := hr.mono (by decide)
    have hu := hu_of hr
    have hsl : sizeLine = 16777216 := sizeLine_eq
    obtain ⟨ri, ro, es, hA, hE, hP, lI, lO, hI, hO⟩ := hG.core
    obtain ⟨dx, ob⟩ := hA.ob
    have lia : (g.ia.map V.ref).length = g.N := by rw [List.length_map, hA.ri.1, lI]
    have loa : (g.oa.map V.ref).length = g.M := by rw [List.length_map, hA.ro.1, lO]
    refine ⟨_, pss_cons (ps_set (i := 3) scPut.nd rfl (Or.inl rfl) (pe_call GE hr rfl T.g_endAt T.f_endAt.kp T.b_endAt .nil b.pass_ (pa_cons (pe_fld (pv 0) rfl) (pa_cons (pv 1) pa_nil))))
      (pss_cons (ps_set (i := 4) scPut.nd rfl (Or.inl rfl) (pe_call GE hr rfl T.g_endAt T.f_endAt.kp T.b_endAt .nil b.pass_ (pa_cons (pe_fld (pv 0) rfl) (pa_cons (pv 2) pa_nil))))
      (pss_cons (ps_if (PW.pt (pw_or (pt_val (pe_call GF hr2 rfl T.g_isFull T.f_isFull.kp T.b_isFull .nil pass0x (pa_cons (pv 3) pa_nil))) (pw_or1 (pt_val (pe_call GF hr2 rfl T.g_isFull T.f_isFull.kp T.b_isFull .nil pass0x (pa_cons (pv 4) pa_nil))))))
        (pss_one (ps_raise b rfl rfl T.g_busy T.x_busy (pa_cons pe_str pa_nil))) pss_nil)
      (pss_cons (ps_set (i := 5) scPut.nd rfl (Or.inl rfl) (pe_lst pa_nil))
      (pss_cons (ps_set (i := 6) scPut.nd rfl (Or.inl rfl) (pe_call GB hr1 rfl T.g_both T.f_both.kp T.b_both .nil pass0x (pa_cons (pv 3) (pa_cons (pv 4) pa_nil))))
      (pss_cons (ps_if (pt_cmpR op_isN (pv 6) pe_non (nomark _))
        (pss_cons (ps_set (i := 6) scPut.nd rfl (Or.inl rfl) (pe_call GLe hr1 rfl T.g_least T.f_least.kp T.b_least .nil pass0x (pa_cons (pv 3) pa_nil)))
        (pss_one (ps_set (i := 5) scPut.nd rfl (Or.inl rfl) (pe_meth (pv 0) T.cls T.m_room GR hr2 T.b_room .nil pass0x (pa_cons (pv 2) (pa_cons (pv 6) (pa_cons (pe_call GLe hr1 rfl T.g_least T.f_least.kp T.b_least .nil pass0x (pa_cons (pv 4) pa_nil)) pa_nil))))))) pss_nil)
      (pss_weak (tTail a.hall g nx) (pss_cons (ps_set (i := 7) scPut.nd rfl (Or.inl rfl) (pe_fld (pv 0) rfl))
      (pss_cons (ps_fld (pv 0) (pe_op op_add (pv 7) pe_int) rfl)
      (pss_cons (ps_expr (pe_meth (pv 0) T.cls T.m_lay GY hr1 T.b_lay .nil pass0x (pa_cons (pv 7) (pa_cons (pv 1) (pa_cons (pv 2) (pa_cons (pv 6) pa_nil))))))
      (pss_one (ps_ret (pe_tup (pa_cons (pv 7) (pa_cons (pv 6) (pa_cons (pv 5) pa_nil))))))))) ?_)))))), ?_⟩
    · rintro Dn σ Hm ⟨i, o, f, cm, L, v3, v4, v7, rfl, hGm, bi, bo, fri, fro, qm⟩
      obtain ⟨dm, obm⟩ := hGm.ob
      refine ⟨_, rfl, g.p, a.hall, dm, _, _, rfl, obm, T.cls, T.nN, flds_N _ _ _ _, _, rfl, _, _, rfl, rfl, _, rfl, g.p, a.hall, dm, _, rfl, obm, T.cls, T.nN, by show 4 < 1000; decide, ?_⟩
      have hGn := hGm.toN (dx := dm) (nx + 1) (Nat.le_succ _)
      have ef : putF "next_number" (.int ((nx : Nat) + 1 : Int)) (flds g.I g.O g.S (nx : Nat)) = flds g.I g.O g.S ((nx + 1 : Nat) : Int) := by
        rw [show (((nx + 1 : Nat)) : Int) = ((nx : Nat) : Int) + 1 by omega]
        rfl
      rw [ef]
      obtain ⟨H2, eH2⟩ : ∃ H2, H2 = upd Hm g.p (.ins a.hall dm (flds g.I g.O g.S ((nx + 1 : Nat) : Int))) := ⟨_, rfl⟩
      rw [← eH2] at hGn ⊢
      have kp2 : Keeps g Hm H2 := by rw [eH2]; exact keep_upd own_p
      obtain ⟨d2, ob2⟩ := hGn.ob
      refine ⟨_, rfl, g.p, d2, _, rfl, ob2, flds_lay _ _ _ _, _, rfl, _, rfl, _, rfl, _, rfl, g, cm, nx + 1, ⟨nx, i, o, f⟩, rfl, hGn, by omega, fun z => ?_, Nat.lt_succ_self _, bi, bo, fri.1, fri.2, fro.2, fun H3 hG3 kp3 => ?_⟩
      · obtain ⟨c, hc, ec⟩ := List.mem_map.mp z
        have := hGm.lt c hc
        have ec : c.n = nx := ec
        omega
      · refine ⟨_, rfl, _, rfl, _, rfl, by show 3 ≤ sizeLine; omega, fun t ht => ?_⟩
        have hmt : Hm t = none := by
          cases q : Hm t with
          | none => rfl
          | some u =>
            by_cases m : t ∈ g.own
            · obtain ⟨u', hu', _⟩ := hG3.there t (own_all m)
              rw [ht] at hu'
              cases hu'
            · have := kp3 _ _ (kp2 _ _ q m) m
              rw [ht] at this
              cases this
        exact qm t _ (hG3.same (same_new ht)) (fun b u z n => same_new ht _ _ (kp3 _ _ (kp2 _ _ z n) n)) hmt upd_same
    -- the ends
    refine ⟨_, rfl, g.p, a.hall, dx, _, _, rfl, ob, T.cls, T.nI, flds_I _ _ _ _, _, rfl, g.I, _, x, Tx, rfl, SqL.of hA.li, tx, fun i yi ei ey => ?_, fun hb => qx (by rw [lia] at hb; exact hb)⟩
    subst ei
    rw [List.getElem?_map] at ey
    cases ex : g.ia[i]? with
    | none => rw [ex] at ey; cases ey
    | some xi =>
    rw [ex] at ey
    cases Option.some.inj ey
    have bi : i < g.N := by have z := (List.getElem?_eq_some_iff.mp ex).1; rw [← lia, List.length_map]; exact z
    refine ⟨_, rfl, g.p, a.hall, dx, _, _, rfl, ob, T.cls, T.nO, flds_O _ _ _ _, _, rfl, g.O, _, y, Ty, rfl, SqL.of hA.lo, ty, fun o yo eo eyo => ?_, fun hb => qy (by rw [loa] at hb; exact hb)⟩
    subst eo
    rw [List.getElem?_map] at eyo
    cases exo : g.oa[o]? with
    | none => rw [exo] at eyo; cases eyo
    | some xo =>
    rw [exo] at eyo
    cases Option.some.inj eyo
    have bo : o < g.M := by have z := (List.getElem?_eq_some_iff.mp exo).1; rw [← loa, List.length_map]; exact z
    obtain ⟨qbusy, qput⟩ := qq i o rfl rfl bi bo
    obtain ⟨x1, x2, x3, x4, x5, r, er, hx⟩ := hA.nei ex
    obtain ⟨y1, y2, y3, y4, y5, r', er', hy⟩ := hA.neo exo
    have rowx := hI i r er
    have rowy := hO o r' er'
    have gd := hG.good
    have ldx := row_load rowx gd.ui gd.nodup gd.bf
    have ldy := row_load rowy gd.uo gd.nodup gd.bf
    have fulx : decide (loadV r = (r.length : Int)) = decide (ldS Call.i cs i = g.F) := decide_eq_decide.mpr (by rw [ldx, rowx.1]; omega)
    have fuly : decide (loadV r' = (r'.length : Int)) = decide (ldS Call.o cs o = g.F) := decide_eq_decide.mpr (by rw [ldy, rowy.1]; omega)
    -- full?
    refine ⟨_, rfl, xi, r, rfl, SqL.of hx, rowx.flat, _, rfl, ?_⟩
    rw [fulx]
    refine ite2 (fun z => iteT ⟨one_line, qbusy (.inl (of_decide_eq_true z))⟩) (fun zx => ?_)
    refine ⟨_, rfl, xo, r', rfl, SqL.of hy, rowy.flat, _, rfl, ?_⟩
    rw [fuly]
    refine ite2 (fun z => ⟨one_line, qbusy (.inr (of_decide_eq_true z))⟩) (fun zy => ?_)
    have nx1 : ldS Call.i cs i ≠ g.F := fun z => zx (decide_eq_true z)
    have nx2 : ldS Call.o cs o ≠ g.F := fun z => zy (decide_eq_true z)
    have qput := qput nx1 nx2
    -- moved = []
    refine ⟨Nat.zero_le _, fun L0 hL0 => ?_⟩
    have s1 : Same H (upd H L0 (.lst [])) := same_new hL0
    obtain ⟨H1, eH1⟩ : ∃ H1, H1 = upd H L0 (.lst []) := ⟨_, rfl⟩
    have hL1 : H1 L0 = some (.lst []) := by rw [eH1, upd_same]
    rw [← eH1] at s1 ⊢
    have hG1 := hG.same s1
    have fI : ∀ m, r[m]? = some .non ↔ frI g.F cs i m := fun m => rowx.non_iff m
    have fO : ∀ m, r'[m]? = some .non ↔ frO g.F cs o m := fun m => rowy.non_iff m
    -- frame = least_free_at_both(..)
    refine ⟨_, rfl, _, rfl, xi, xo, r, r', rfl, SqL.of (s1 _ _ hx), SqL.of (s1 _ _ hy), by rw [rowx.1, rowy.1], by rw [rowx.1]; have := hG.le; omega, fun j j1 j2 jm => ?_, fun none => ?_⟩
    · refine ⟨_, rfl, rfl, _, rfl, ?_⟩
      dsimp only
      rw [if_neg (show ¬ decide (V.int (j : Nat) = .non) = true from fun z => by cases z)]
      have p : PutOk g.F cs i o j [] cs := .inl ⟨(fI j).mp j1, (fO j).mp j2, fun m hm z1 z2 => jm m hm ((fI m).mpr z1) ((fO m).mpr z2), rfl, rfl⟩
      refine ⟨i, o, j, cs, L0, _, _, _, rfl, hG1, bi, bo, (fI j).mp j1, (fO j).mp j2, fun t H' hG' kp' ht ht' => ?_⟩
      have nLt : L0 ≠ t := fun z => by rw [z, ht] at hL1; cases hL1
      have e0 : srt (([] : List Call).map fun c => (c.n : Int)) = [] := List.length_eq_zero_iff.mp (by rw [srt_length]; rfl)
      exact qput j [] cs L0 t H' p hG' (fun b u z n => kp' _ _ (s1 _ _ z) n) hL0 (by rw [e0]; exact kp' _ _ hL1 fun m => hG.newA hL0 (own_all m)) (s1.free ht) ht' nLt
    · refine ⟨_, rfl, rfl, _, rfl, ?_⟩
      dsimp only
      rw [if_pos (decide_eq_true rfl)]
      obtain ⟨fa, ha1, ha2⟩ := least_of (row_full rowx gd.ui gd.nodup gd.bf nx1)
      obtain ⟨fb, hb1, hb2⟩ := least_of (row_full rowy gd.uo gd.nodup gd.bf nx2)
      refine ⟨_, rfl, xi, r, fa, rfl, SqL.of (s1 _ _ hx), rowx.flat, ha1, ha2, ?_⟩
      obtain ⟨d1, ob1⟩ := hG1.ob
      have hab : fa ≠ fb := fun z => none fa ha1 (z ▸ hb1)
      refine ⟨_, rfl, g.p, d1, _, rfl, ob1, flds_room _ _ _ _, _, rfl, _, rfl, _, rfl, xo, r', fb, rfl, SqL.of (s1 _ _ hy), rowy.flat, hb1, hb2, ?_⟩
      have fra := (fI fa).mp ha1
      have frb := (fO fb).mp hb1
      refine ⟨g, cs, nx, o, fa, fb, rfl, hG1, by omega, bo, fra.1, frb.1, hab, frb.2, fun L l st e H2 ch fin hG2 kp2 hL hL2 => ?_⟩
      have p : PutOk g.F cs i o fa l (cs.map (sw fa fb l)) := .inr ⟨fun m z1 z2 => none m ((fI m).mpr z1) ((fO m).mpr z2), fra, fun m hm z => ha2 m hm ((fI m).mpr z), fb, st, e, frb, fun m hm z => hb2 m hm ((fO m).mpr z), hab, ch, fin, rfl⟩
      refine ⟨i, o, fa, _, L, _, _, _, rfl, hG2, bi, bo, ⟨fra.1, sw_free_i hab ch fra.2⟩, ⟨fra.1, sw_free_o gd hab ch fin frb.2⟩, fun t H' hG' kp' ht ht' => ?_⟩
      have nLo : L ∉ g.own := fun m => hG1.newA hL (own_all m)
      have nLt : L ≠ t := fun z => by rw [z, ht] at hL2; cases hL2
      have h2t : H t = .none := by
        cases q : H t with
        | none => rfl
        | some u =>
          by_cases m : t ∈ g.own
          · obtain ⟨u', hu', _⟩ := hG2.there t (own_all m)
            rw [ht] at hu'
            cases hu'
          · have := kp2 _ _ (s1 _ _ q) m
            rw [ht] at this
            cases this
      exact qput fa l _ L t H' p hG' (fun b u z n => kp' _ _ (kp2 _ _ (s1 _ _ z) n) n) (s1.free hL) (kp' _ _ hL2 nLo) h2t ht' nLt
end
end Hl
namespace Hl
open PySem L2
section
variable {P : Program} {w : World} {K : PySem.W.Frag} {mg : Str → Option Value} {base : Heap} {a : Ad} {d : Fd}
theorem ent_noI {es : List (Call × Addr)} {n : Int} (h : ∀ x ∈ es, (x.1.n : Int) ≠ n) : valV (entK (es.map mkE)) (Sum.inl n : Key) = none := by
  induction es with
  | nil => rfl
  | cons x es ih =>
    have h1 := ih fun y hy => h y (List.mem_cons_of_mem _ hy)
    have hx := h x List.mem_cons_self
    show valV ((Sum.inl (x.1.n : Int), V.ref x.2) :: entK (es.map mkE)) (Sum.inl n : Key) = none
    rw [valV_neg (p := (Sum.inl (x.1.n : Int), V.ref x.2)) (fun z => hx (Sum.inl.inj z))]
    exact h1
def spDrop (K : PySem.W.Frag) (a : Ad) : Sp := fun vs H Q E => ∃ g cs nx v Tv, vs = [.ref g.p, v] ∧ HallG a.hall H g cs nx ∧ TyOf K H v (.type Tv) ∧ ((¬ ∃ c ∈ cs, v = .int (c.n : Nat)) → E (.ref a.noCall) none H) ∧
  ∀ c ∈ cs, v = .int (c.n : Nat) → ∀ H', HallG a.hall H' g (less cs c.n) nx → Keeps g H H' → Q (.int (c.f : Nat)) H'
theorem scDrop : FnScope ["self", "number"] ["self", "number"] (defScope sDrop) := ⟨rfl, rfl, rfl, by decide +kernel, rfl, by decide +kernel, by decide +kernel⟩
theorem ok_drop (T : HTxt K mg a d) : FnOk P w K mg base (CXx P w) 2 a.drop d.drop ["self", "number"] (spDrop K a) := by
  have GW : FnOk P w K mg base (CXx P w) 1 a.whole d.whole ["value"] (spWhole K) := ok_whole T
  have GL : FnOk P w K mg base (CXx P w) 1 a.lift d.lift ["self", "number"] (spLift a) := ok_lift T
  refine T.f_drop.okX scDrop (fun vs H Q E h => ?_) (fun X cdv A outer s H vs Q E hX b hr h => ?_)
  · obtain ⟨g, cs, nx, v, Tv, rfl, _⟩ := h
    rfl
  · subst hX
    obtain ⟨g, cs, nx, v, Tv, rfl, hG, tv, qn, qy⟩ := h
    have hu := hu_of hr
    have hsl : sizeLine = 16777216 := sizeLine_eq
    obtain ⟨ri, ro, es, hA, hE, hP, lI, lO, hI, hO⟩ := hG.core
    obtain ⟨dx, ob⟩ := hA.ob
    have ndE : ((es.map (·.1)).map (·.n)).Nodup := (hP.map _).nodup_iff.mpr hG.good.nd
    refine ⟨_, pss_cons (ps_if (PW.pt (pw_or (pt_not (pt_val (pe_call GW hr rfl T.g_whole T.f_whole.kp T.b_whole .nil pass0x (pa_cons (pv 1) pa_nil)))) (pw_or1 (pt_cmp (pc_dnotin hu (pv 1) (pe_fld (pv 0) rfl)) rfl))))
        (pss_one (ps_raise b rfl rfl T.g_noCall T.x_noCall (pa_cons pe_str pa_nil))) pss_nil)
      (pss_one (ps_ret (pe_ix ix_tup (pe_meth (pv 0) T.cls T.m_lift GL hr T.b_lift .nil pass0x (pa_cons (pv 1) pa_nil)) pe_int (fun _ _ => rfl)))), ?_⟩
    refine ⟨_, rfl, v, Tv, rfl, tv, _, rfl, ?_⟩
    dsimp only
    refine ite2 (fun z => iteT ⟨one_line, qn fun ⟨c, hc, e⟩ => ?_⟩) (fun z => ?_)
    · subst e
      cases z
    · have z : isI v = true := by
        cases q : isI v with
        | true => rfl
        | false => rw [q] at z; exact absurd rfl z
      cases v with
      | int n =>
        by_cases hc : ∃ c ∈ cs, V.int n = .int (c.n : Nat)
        · obtain ⟨c, hc, e⟩ := hc
          cases e
          obtain ⟨⟨c', t⟩, het, hct⟩ := List.mem_map.mp (hP.mem_iff.mpr hc)
          have hct : c' = c := hct
          subst hct
          have hval : valV (entK (es.map mkE)) (Sum.inl (c'.n : Int) : Key) = some (.ref t) := ent_val (entAt_of hE ndE) (e := mkE (c', t)) (List.mem_map.mpr ⟨_, het, rfl⟩)
          refine ⟨_, rfl, _, rfl, g.p, a.hall, dx, _, _, rfl, ob, T.cls, T.nS, flds_S _ _ _ _, g.S, _, rfl, DGet.k (k := Sum.inl (c'.n : Int)) hA.st, _, rfl, ?_⟩
          rw [hval]
          dsimp only
          rw [if_neg (by exact Bool.false_ne_true)]
          refine ⟨_, rfl, g.p, dx, _, rfl, ob, flds_lift _ _ _ _, _, rfl, g, cs, nx, c', rfl, hG, hc, fun H' t ht hG' kp => ⟨t, _, ((2 : Nat) : Int), .int (c'.f : Nat), rfl, rfl, SqT.of (kp _ _ ht (hG.tup ht)), atI_nat rfl, qy c' hc rfl H' hG' kp⟩⟩
        · have hval : valV (entK (es.map mkE)) (Sum.inl n : Key) = none := ent_noI fun x hx z => hc ⟨x.1, hP.mem_iff.mp (List.mem_map.mpr ⟨x, hx, rfl⟩), by rw [z]⟩
          refine ⟨_, rfl, _, rfl, g.p, a.hall, dx, _, _, rfl, ob, T.cls, T.nS, flds_S _ _ _ _, g.S, _, rfl, DGet.k (k := Sum.inl n) hA.st, _, rfl, ?_⟩
          rw [hval]
          dsimp only
          rw [if_pos (show (!(none : Option V).isSome) = true from rfl)]
          exact ⟨one_line, qn hc⟩
      | _ => cases z
end
end Hl
namespace Hl
open PySem L2
theorem slot_chgH {K : PySem.W.Frag} {F H H' : Hp} {t : DS} {o : Option V} (z : SlotOk K F H t o) (own : isOwn t = true → ∀ b, has t o b → H' b = H b) (tp : ∀ b xs, H b = some (.tup xs) → H' b = some (.tup xs)) : SlotOk K F H' t o := by
  cases t with
  | un => trivial
  | sh d => exact z
  | own ds => obtain ⟨b, xs, e1, f, l, r⟩ := z; exact ⟨b, xs, e1, f, by rw [own rfl b e1]; exact l, r⟩
  | dic ds => obtain ⟨b, xs, e1, f, l, r⟩ := z; exact ⟨b, xs, e1, f, by rw [own rfl b e1]; exact l, r⟩
  | dct ks ds => obtain ⟨b, xs, e1, f, l, r⟩ := z; exact ⟨b, xs, e1, f, by rw [own rfl b e1]; exact l, r⟩
  | obj v fp R =>
    obtain ⟨e, f, lc, r⟩ := z
    refine ⟨e, fun b m => ?_, lc, lc _ _ (fun b m => own rfl b m) tp r⟩
    rw [own rfl b m]
    exact f b m
def hallS (C : Addr) (g : Geo) (cs : List Call) (nx : Nat) : DS := .obj (.ref g.p) g.all (fun H => HallG C H g cs nx)
theorem hall_ok {K : PySem.W.Frag} {F H : Hp} {C : Addr} {g : Geo} {cs : List Call} {nx : Nat} (h : HallG C H g cs nx) (f : ∀ b ∈ g.all, F b = none) : SlotOk K F H (hallS C g cs nx) (some (.ref g.p)) :=
  ⟨rfl, fun b m => ⟨f b m, h.there b m⟩, fun H1 H2 e tp h => h.cong e tp, h⟩
def callD (c : Call) : D := .tup [.int (c.n : Nat), .int (c.i : Nat), .int (c.o : Nat), .int (c.f : Nat)]
theorem row_new (F e : Nat) (sel : Call → Nat) : Row F [] sel e (List.replicate F .non) := ⟨List.length_replicate, fun f v q => by
  rw [List.getElem?_replicate] at q
  split at q
  · cases q; exact .inl ⟨rfl, fun c hc => nomatch hc⟩
  · cases q⟩
section
variable {X : Cx} {E : XK} {pos p : Pos} {e : Expr} {es : List Expr} {a : Ad} {d : Fd}
def gHall (i : Nat) (C : Addr) (ga : GA) : GS := fun Dd Ex env => ga env Ex fun ds => ∃ n m f : Nat, ds = [.int (n : Nat), .int (m : Nat), .int (f : Nat)] ∧ 1 ≤ n ∧ n ≤ 12 ∧ 1 ≤ m ∧ m ≤ 12 ∧ 1 ≤ f ∧ f ≤ 8 ∧ ∀ g : Geo, g.N = n → g.M = m → g.F = f → Dd.nx (env.set i (hallS C g [] 0))
theorem ds_hall {i : Nat} {z : Str} {ga : GA} {pos' cpos : Pos} (T : HTxt X.K X.mg a d) (G : FnOk X.prog X.w X.K X.mg X.base (CXx X.prog X.w) 4 a.init d.init ["self", "inlets", "outlets", "frames"] (spInit X.K a)) (hN : X.N.Nodup) (hi : X.N[i]? = some z) (hx : Loc X.env.scope z) (hr : Room 5 X.A) (hg : Gl X "Hall") (hp : Passes (CXx X.prog X.w) X E) (ha : DA X E (e :: es) ga)
    (hs1 : starEach (e :: es) X.env = (false, eval e X.env) :: starEach es X.env := by rfl) (hpl : (backTo cpos (starEach es X.env)).any (·.1) = false := by rfl)
    (hs : swapsWith (.Call (.Name "Hall" p) (e :: es) [] cpos) (some (.Name z pos')) pos.line X.env = pure false := by rfl) (hf : X.fn z = true ∨ X.env.scope.names.lookup z = some .local := by first | exact .inl rfl | exact .inr rfl | assumption) :
    DSt X E (.Assign [.Name z pos'] (.Call (.Name "Hall" p) (e :: es) [] cpos) pos) (gHall i a.hall ga) := ⟨fun F0 H0 s0 =>
  PS.weak (ps_set (i := i) hN hi hx (pe_make (dvs := []) (E := E) T.mkH G hr hg T.g_hall T.b_init .nil hp ha.h (by decide) hs1 hpl) hs hf) fun Dn σ H zw46 => el10 zw46 fun F env Ex Dd gr sl fr ex q en =>
  ⟨F, env, Ex, _, gr.sub, sl, ex.step gr.hh, q, fun ds vs F1 H1 q1 g1 r1 => fun pp dx hpp hdx hne => by
    obtain ⟨n, m, f, rfl, n1, n2, m1, m2, f1, f2, q1⟩ := q1
    obtain ⟨_, _, rfl, e1, _, _, rfl, e2, _, _, rfl, e3, e4⟩ := r1
    cases (show _ = [] from e4)
    cases (show _ = _ from e1)
    cases (show _ = _ from e2)
    cases (show _ = _ from e3)
    have good : okS (.int (n : Nat)) (.int (m : Nat)) (.int (f : Nat)) = true := by
      show ((decide ((1 : Int) ≤ n) && decide ((n : Int) ≤ 12)) && (decide ((1 : Int) ≤ m) && decide ((m : Int) ≤ 12)) && (decide ((1 : Int) ≤ f) && decide ((f : Int) ≤ 8))) = true
      rw [decide_eq_true (show (1 : Int) ≤ n by omega), decide_eq_true (show (n : Int) ≤ 12 by omega), decide_eq_true (show (1 : Int) ≤ m by omega), decide_eq_true (show (m : Int) ≤ 12 by omega), decide_eq_true (show (1 : Int) ≤ f by omega), decide_eq_true (show (f : Int) ≤ 8 by omega)]
      rfl
    refine ⟨pp, dx, _, _, _, _, _, _, rfl, upd_same, .int _, .int _, .int _, (fun hb => absurd (good.symm.trans hb) (by decide)), fun n' m' f' en' em ef _ I O S ia oa H3 hA kp frN => ⟨rfl, ?_⟩⟩
    have e1 : n = n' := by injection en' with z; omega
    have e2 : m = m' := by injection em with z; omega
    have e3 : f = f' := by injection ef with z; omega
    subst e1 e2 e3
    obtain ⟨g, hg⟩ : ∃ g : Geo, g = ⟨pp, I, O, S, ia, oa, n, m, f⟩ := ⟨_, rfl⟩
    have lia : ia.length = n := by have := hA.ri.1; rwa [List.length_replicate] at this
    have hG : HallG a.hall H3 g [] 0 := by
      subst hg
      refine ⟨⟨List.nodup_nil, (fun c hc => nomatch hc), (fun c hc => nomatch hc), (fun c hc => nomatch hc), (fun c hc => nomatch hc), fun c hc => nomatch hc⟩, (fun c hc => nomatch hc), ⟨n2, m2, f2⟩, _, _, [], hA, (fun x hx => nomatch hx), List.Perm.refl _, List.length_replicate, List.length_replicate, fun j r e => ?_, fun j r e => ?_⟩
      · rw [List.getElem?_replicate] at e
        split at e
        · cases e; exact row_new f j _
        · cases e
      · rw [List.getElem?_replicate] at e
        split at e
        · cases e; exact row_new f j _
        · cases e
    have keep0 : ∀ b o, H1 b = some o → H3 b = some o := fun b o z => by
      have nb : b ≠ pp := ne_of_none z hpp
      refine kp b o ?_ nb
      rw [upd_ne nb, upd_ne (ne_of_none z hdx)]
      exact z
    have new : ∀ b ∈ g.all, H1 b = none := fun b mb => by
      subst hg
      rcases List.mem_cons.mp mb with rfl | mb
      · exact hpp
      · have : b ∈ I :: O :: S :: (ia ++ oa) := mb
        have z := frN b this
        cases q : H1 b with
        | none => rfl
        | some u =>
          have nb : b ≠ pp := ne_of_none q hpp
          rw [upd_ne nb, upd_ne (ne_of_none q hdx), q] at z
          cases z
    have gK : Grow F1 H1 F1 H3 := Grow.still g1.sub keep0
    have gg := g1.trans gK
    have ep : g.p = pp := by rw [hg]
    have h0 : ∀ b ∈ g.all, H b = none := fun b mb => g1.hh.free (new b mb)
    rw [← ep]
    refine en.nx _ _ F1 H3 (q1 g (by rw [hg]) (by rw [hg]) (by rw [hg])) (gr.trans gg) ((sl.grow gg).set (hall_ok hG fun b mb => g1.sub.free (new b mb)) fun _ j t c _ q' ot hc z => ?_) (fr.set sl.len fun _ c z => gr.hh.free (h0 c z))
    obtain ⟨_, u, hu, _⟩ := (sl.ok j t q').there ot hc
    rw [h0 c z] at hu
    cases hu⟩⟩
def gCalls (i : Nat) (C : Addr) : GA := fun env _ Q => ∃ g cs nx, env[i]? = some (hallS C g cs nx) ∧ cs.length < 64 ∧ ∀ lc : List Call, lc.Perm cs → lc.Pairwise (fun x y => x.n < y.n) → Q (lc.map callD)
theorem df_calls {i : Nat} {x : Str} {np apos : Pos} {pl : Sem Bool} (T : HTxt X.K X.mg a d) (G : FnOk X.prog X.w X.K X.mg X.base (CXx X.prog X.w) 1 a.calls d.calls ["self"] (spCalls a)) (hN : X.N[i]? = some x) (hv : Vis X.env.scope x) (hr : Room 1 X.A) (hp : Passes (CXx X.prog X.w) X E) (hd : (x == ("__debug__" : Str)) = false := by decide) (hcd : (x == ("__classdict__" : Str)) = false := by decide)
    (ht : eval (.Call (.Attribute (.Name x np) "calls" apos) [] [] pos) X.env = (do
      let ov ← eval (.Name x np) X.env
      standAt apos.atName
      let (f, first) ← holding [ov] (getMethod ov "calls" pl)
      callWith pos f first (backTo pos (starEach [] X.env)) (backToKw pos (keywordEach [] X.env))) := by rfl) : DF X E (.Call (.Attribute (.Name x np) "calls" apos) [] [] pos) (gCalls i a.hall) := ⟨
  PE.weak (pe_meth0 (dvs := []) (E := E) (pe_var hN hv hd hcd) T.cls T.m_calls G hr T.b_calls .nil hp ht) fun σ H Q zw47 => el9 zw47 fun F env Ex Qd s sl ex q fin => by
    obtain ⟨g, cs, nx, e0, h64, q⟩ := q
    obtain ⟨e1, f, lcl, hG⟩ := sl.ok i _ e0
    obtain ⟨ri, ro, es, hA, hE, hP, lI, lO, hI, hO⟩ := hG.core
    obtain ⟨dx, ob⟩ := hA.ob
    have ndE : ((es.map (·.1)).map (·.n)).Nodup := (hP.map _).nodup_iff.mpr hG.good.nd
    have le : es.length = cs.length := by have z := hP.length_eq; rw [List.length_map] at z; exact z
    refine ⟨.ref g.p, join_some e1, g.p, dx, _, rfl, ob, flds_calls _ _ _ _, g.p, g.I, g.O, g.S, g.ia, g.oa, ri, ro, es.map mkE, nx, rfl, hA, entAt_of hE ndE, by rw [List.length_map]; omega, fun L ts H' sm hL hL' hl hts nd frN => ?_⟩
    have en : (es.map mkE).map (·.n) = (es.map (·.1)).map fun c => (c.n : Int) := by
      rw [List.map_map, List.map_map]
      rfl
    rw [en] at hts
    obtain ⟨lc, plc, elc⟩ := perm_map_ex (srt_perm ((es.map (·.1)).map fun c => (c.n : Int))) rfl
    have pc : lc.Perm cs := plc.trans hP
    have ndc : (lc.map (·.n)).Nodup := ((plc.map _).nodup_iff).mpr ndE
    have rise : lc.Pairwise fun x y => x.n < y.n := by
      have h1 : (lc.map fun c => (c.n : Int)).Pairwise (· ≤ ·) := by rw [elc]; exact srt_rising _
      rw [List.pairwise_map] at h1
      rw [List.nodup_iff_pairwise_ne, List.pairwise_map] at ndc
      refine List.Pairwise.imp ?_ (h1.and ndc)
      rintro x y ⟨z1, z2⟩
      omega
    have fF : ∀ t ∈ ts, F t = none := fun t mt => s.free (frN t mt)
    obtain ⟨nL, _⟩ := List.nodup_cons.mp nd
    have gg : Grow F H (lays F H' ts) H' := (Grow.still s sm).lays fF frN
    refine fin (lc.map callD) L (ts.map V.ref) (lays F H' ts) H' (q lc pc rise) gg (by rw [lays_out nL]; exact s.free hL) hL hL' (Reps.of (by rw [List.length_map, List.length_map, hl, List.length_map, plc.length_eq, List.length_map]) fun j dd x z1 z2 => ?_)
    rw [List.getElem?_map] at z1 z2
    cases q1 : lc[j]? with
    | none => rw [q1] at z1; cases z1
    | some c =>
      rw [q1] at z1
      cases z1
      cases q2 : ts[j]? with
      | none => rw [q2] at z2; cases z2
      | some t =>
        rw [q2] at z2
        cases z2
        have hj : (srt ((es.map (·.1)).map fun c => (c.n : Int)))[j]? = some (c.n : Int) := by rw [← elc, List.getElem?_map, q1]; rfl
        obtain ⟨e', me, en', ht⟩ := hts j t _ q2 hj
        obtain ⟨⟨c', ta⟩, mc', rfl⟩ := List.mem_map.mp me
        have ec : c' = c := nd_un hG.good.nd (hP.mem_iff.mp (List.mem_map.mpr ⟨_, mc', rfl⟩)) (pc.mem_iff.mp (List.mem_of_getElem? q1)) (by have : ((c'.n : Nat) : Int) = (c.n : Int) := en'; omega)
        subst ec
        refine ⟨t, _, rfl, by rw [lays_in (List.mem_of_getElem? q2)]; exact ht, ?_⟩
        exact Reps.cons rfl (Reps.cons rfl (Reps.cons rfl (Reps.cons rfl Reps.nil)))⟩
end
end Hl
namespace Hl
open PySem L2
def Busy (g : Geo) (cs : List Call) (i o : Nat) : Prop := ldS Call.i cs i = g.F ∨ ldS Call.o cs o = g.F
def spPutL (a : Ad) : Sp := fun vs H Q _ => ∃ g cs nx i o, vs = [.ref g.p, .int (i : Nat), .int (o : Nat)] ∧ HallG a.hall H g cs nx ∧ nx < 63 ∧ i < g.N ∧ o < g.M ∧ (Busy g cs i o → ∀ H', Same H H' → Q .non H') ∧
  (¬ Busy g cs i o → ∀ f l cs' L t H', PutOk g.F cs i o f l cs' → HallG a.hall H' g (⟨nx, i, o, f⟩ :: cs') (nx + 1) → Keeps g H H' → H L = none → H' L = some (.lst ((srt (l.map fun c => (c.n : Int))).map V.int)) → H t = none → H' t = some (.tup [.int (nx : Nat), .int (f : Nat), .ref L]) → L ≠ t → Q (.ref t) H')
theorem hall_chg {K : PySem.W.Frag} {F0 H0 F H H' : Hp} {σ : St} {env : DEnv} {j : Nat} {C : Addr} {g : Geo} {cs cs' : List Call} {nx nx' : Nat} (gr : Grow F0 H0 F H) (sl : Slots K F H σ env) (fr : Fresh H0 σ env) (e : env[j]? = some (hallS C g cs nx)) (hG' : HallG C H' g cs' nx') (kp : Keeps g H H') :
    Grow F0 H0 F H' ∧ Slots K F H' σ (env.set j (hallS C g cs' nx')) ∧ Fresh H0 σ (env.set j (hallS C g cs' nx')) := by
  obtain ⟨e1, f, lcl, hG⟩ := sl.ok j _ e
  have fF : ∀ b ∈ g.all, F b = none := fun b m => (f b m).1
  have h0 : ∀ b ∈ g.all, H0 b = none := fun b m => fr j _ b e rfl m
  have no : ∀ b ∈ g.own, H0 b = none := fun b m => h0 b (own_all m)
  have tp : ∀ b xs, H b = some (.tup xs) → H' b = some (.tup xs) := fun b xs q => kp b _ q (hG.tup q)
  refine ⟨⟨fun b o z => kp b o (gr.hh _ _ z) (fun m => (by rw [no b m] at z; cases z)), gr.ff, fun b o z => kp b o (gr.sub _ _ z) (fun m => (by rw [fF b (own_all m)] at z; cases z)), gr.new⟩, sl.chg e (fun k t hk q' => slot_chgH (sl.ok k t q') (fun ot b hb => ?_) tp) (fun k t b hk q' ot hb _ z => sl.offT e rfl hk q' ot hb z) ?_, fr.chg e fun _ b hb => h0 b hb⟩
  · have nb : b ∉ g.own := fun m => sl.offT e rfl hk q' ot hb (own_all m)
    obtain ⟨_, u, hu, _⟩ := (sl.ok k t q').there ot hb
    rw [hu, kp b u hu nb]
  · rw [e1]
    exact hall_ok hG' fF
section
variable {X : Cx} {E : XK} {pos p : Pos} {e : Expr} {es : List Expr} {a : Ad} {d : Fd}
end
end Hl
namespace Hl
open PySem L2
section
variable {X : Cx} {E : XK} {pos p : Pos} {e : Expr} {es : List Expr} {a : Ad} {d : Fd}
def gCutT (g : GE) (gl gh : GP) : GE := fun env Ex Q => g env Ex fun x => gl env Ex fun l => gh env Ex fun u => match x with
  | .tup ds => ¬ (HT.sIx ds.length 0 l = 0 ∧ HT.sIx ds.length ds.length u = ds.length) ∧ Q (.tup (cutL ds l u))
  | _ => False
theorem de_cutT {lo hi : Option Expr} {p2 : Pos} {g : GE} {gl gh : GP} (he : DE X E e g) (hl : DP X E lo gl) (hh : DP X E hi gh) : DE X E (.Subscript e (.Slice lo hi none p2) pos) (gCutT g gl gh) := ⟨PE.weak (pe_slice sl_tup he.h hl.h hh.h) fun σ H Q zw48 => el9 zw48 fun F env Ex Qd s sl ex q fin =>
  ⟨F, env, Ex, _, s, sl, ex, q, fun d v F1 H1 q1 g1 r1 => ⟨F1, env, Ex, _, g1.sub, sl.grow g1, ex.step g1.hh, q1, fun l F2 H2 q2 g2 => ⟨F2, env, Ex, _, g2.sub, (sl.grow g1).grow g2, (ex.step g1.hh).step g2.hh, q2, fun u F3 H3 q3 g3 => by
    have gg := (g1.trans g2).trans g3
    cases d with
    | tup ds =>
      obtain ⟨hn, q3⟩ := q3
      obtain ⟨t, xs, rfl, hF, r⟩ := r1
      have g23 := g2.trans g3
      have r3 := Reps.mono g23.ff _ r
      refine ⟨t, xs, rfl, SqT.of (g3.sub _ _ (g23.ff _ _ hF)), by rw [r3.length]; exact hn, fun pp hpp => ?_⟩
      have gl := Grow.lay (o := .tup (cutV xs l u)) g3.sub hpp
      exact fin _ _ _ _ q3 (gg.trans gl) ⟨pp, _, rfl, upd_same, Reps.mono gl.ff _ (r3.cut l u)⟩
    | _ => exact (show False from q3).elim⟩⟩⟩⟩
def hInT (a b : D) (Q : D → Prop) : Prop := flatD a = true ∧ ∃ bs, b = .tup bs ∧ bs.all flatD = true ∧ Q (.bl (bs.any fun y => eqD y a))
theorem od_inT {K : PySem.W.Frag} : OpD K (rIn K false) hInT := fun F H x y dx dy Qd Q s rx ry h fin => by
  obtain ⟨fa, bs, rfl, fb, q⟩ := h
  obtain ⟨t, xs, rfl, hF, r⟩ := ry
  obtain ⟨z1, z2⟩ := in_flat fa rx fb r
  refine ⟨t, xs, rfl, .inr (SqT.of (s _ _ hF)), (flat_v fa rx).2, z1, ?_⟩
  rw [z2]
  exact fin.now s q rfl
end
end Hl
namespace Hl
open PySem L2
section
variable {X : Cx} {E : XK} {e : Expr}
end
def triD (c : Call) : D := .tup [.int (c.n : Nat), .int (c.i : Nat), .int (c.o : Nat)]
def tri (c : Call) : Nat × Nat × Nat := (c.n, c.i, c.o)
def fSizes : DSp := fun ds _ Q => ∃ ns, ds = [.scr ns] ∧ ∀ n m f : Nat, 1 ≤ n → n ≤ 12 → 1 ≤ m → m ≤ 12 → 1 ≤ f → f ≤ 8 → Q (.tup [.int (n : Nat), .int (m : Nat), .int (f : Nat)])
def fGoes : DSp := fun ds _ Q => ∃ ns, ds = [.scr ns] ∧ ns.length ≤ 63 ∧ ∀ cs : List Int, cs.length ≤ 63 → Q (.lst (cs.map D.int))
def fLoads : DSp := fun ds _ Q => ∃ (bk : List Call) (i o : Nat), ds = [.lst (bk.map triD), .int (i : Nat), .int (o : Nat)] ∧ bk.length ≤ 100 ∧ Q (.tup [.int (ldS Call.i bk i : Nat), .int (ldS Call.o bk o : Nat)])
theorem tri_sorted : ∀ {l m : List Call}, l.Pairwise (fun x y => x.n < y.n) → m.Pairwise (fun x y => x.n < y.n) → (l.map tri).Perm (m.map tri) → l.map tri = m.map tri
  | [], m, _, _, p => by rw [List.map_nil] at p ⊢; exact p.nil_eq
  | c :: l, [], _, _, p => by
    have := p.length_eq
    simp at this
  | c :: l, d :: m, h1, h2, p => by
    obtain ⟨a1, a2⟩ := List.pairwise_cons.mp h1
    obtain ⟨b1, b2⟩ := List.pairwise_cons.mp h2
    have e : tri c = tri d := by
      have m1 : tri c ∈ (d :: m).map tri := p.mem_iff.mp (List.mem_map_of_mem List.mem_cons_self)
      have m2 : tri d ∈ (c :: l).map tri := p.mem_iff.mpr (List.mem_map_of_mem List.mem_cons_self)
      rcases List.mem_cons.mp m1 with z | z
      · exact z
      · rcases List.mem_cons.mp m2 with y | y
        · exact y.symm
        · obtain ⟨x1, hx1, e1⟩ := List.mem_map.mp z
          obtain ⟨x2, hx2, e2⟩ := List.mem_map.mp y
          have n1 := b1 x1 hx1
          have n2 := a1 x2 hx2
          have e1 : x1.n = c.n := congrArg Prod.fst e1
          have e2 : x2.n = d.n := congrArg Prod.fst e2
          omega
    have p' : (l.map tri).Perm (m.map tri) := by
      have p : (tri c :: l.map tri).Perm (tri d :: m.map tri) := p
      rw [e] at p
      exact p.cons_inv
    show tri c :: l.map tri = tri d :: m.map tri
    rw [e, tri_sorted a2 b2 p']
def cut3 (d : D) : D := match d with
  | .tup [x, y, z, _] => .tup [x, y, z]
  | d => d
theorem cut3_calls (l : List Call) : (l.map callD).map cut3 = l.map triD := by
  rw [List.map_map]
  rfl
theorem triD_of {l m : List Call} (h : l.map tri = m.map tri) : l.map triD = m.map triD := by
  have f : ∀ x : Call, triD x = (fun t : Nat × Nat × Nat => D.tup [.int (t.1 : Nat), .int (t.2.1 : Nat), .int (t.2.2 : Nat)]) (tri x) := fun _ => rfl
  have g : ∀ l : List Call, l.map triD = (l.map tri).map fun t : Nat × Nat × Nat => D.tup [.int (t.1 : Nat), .int (t.2.1 : Nat), .int (t.2.2 : Nat)] := fun l => by
    rw [List.map_map]
    exact List.map_congr_left fun x _ => f x
  rw [g, g, h]
theorem sw_tri {a b : Nat} {W cs : List Call} : (cs.map (sw a b W)).map tri = cs.map tri := by
  rw [List.map_map]
  refine List.map_congr_left fun c _ => ?_
  show (_, _, _) = (_, _, _)
  rw [sw_n, sw_i, sw_o]
theorem PutOk.tri {F : Nat} {cs : List Call} {i o f : Nat} {l cs' : List Call} (h : PutOk F cs i o f l cs') : cs'.map Hl.tri = cs.map Hl.tri := by
  rcases h with ⟨_, _, _, _, rfl⟩ | ⟨_, _, _, fb, s, e, _, _, _, _, _, rfl⟩
  · rfl
  · exact sw_tri
theorem ld_tri {sel : Call → Nat} {s3 : Nat × Nat × Nat → Nat} (hs : ∀ c, sel c = s3 (tri c)) {cs mn : List Call} (p : (cs.map tri).Perm (mn.map tri)) (e : Nat) : ldS sel cs e = ldS sel mn e := by
  have g : ∀ l : List Call, ldS sel l e = ((l.map tri).filter fun t => decide (s3 t = e)).length := fun l => by
    unfold ldS
    rw [List.filter_map, List.length_map]
    congr 1
    refine List.filter_congr fun c _ => ?_
    show decide (sel c = e) = decide (s3 (tri c) = e)
    rw [hs]
  rw [g, g]
  exact (p.filter _).length_eq
theorem okDs_tri (f : Call → D) (hf : ∀ c, okD (f c) = true) : ∀ l : List Call, okDs (l.map f) = true
  | [] => rfl
  | c :: l => by
    show (okD (f c) && okDs (l.map f)) = true
    rw [hf, okDs_tri f hf l]
    rfl
theorem hiDs_tri (f : Call → D) (hf : ∀ c, hiD (f c) ≤ 1) : ∀ l : List Call, hiDs (l.map f) ≤ 1
  | [] => Nat.zero_le _
  | c :: l => by
    show max (hiD (f c)) (hiDs (l.map f)) ≤ 1
    exact Nat.max_le.mpr ⟨hf c, hiDs_tri f hf l⟩
theorem cmpDs_self (f : Call → D) (hf : ∀ c, cmpD (f c) (f c) = true) : ∀ l : List Call, cmpDs (l.map f) (l.map f) = true
  | [] => rfl
  | c :: l => by
    show (cmpD (f c) (f c) && cmpDs (l.map f) (l.map f)) = true
    rw [hf, cmpDs_self f hf l]
    rfl
theorem same_tri (l : List Call) : okDs (l.map triD) = true ∧ okDs (l.map triD) = true ∧ hiDs (l.map triD) ≤ 40 ∧ cmpD (.lst (l.map triD)) (.lst (l.map triD)) = true :=
  ⟨okDs_tri _ (fun _ => rfl) l, okDs_tri _ (fun _ => rfl) l, Nat.le_trans (hiDs_tri _ (fun _ => Nat.le_of_eq rfl) l) (by decide), by
    show ((_ != _) || cmpDs _ _) = true
    rw [cmpDs_self _ (fun _ => rfl), Bool.or_true]⟩
end Hl
namespace Hl
open PySem L2
section
variable {X : Cx} {E : XK} {pos p : Pos} {e : Expr} {es : List Expr} {a : Ad} {d : Fd}
def gDropH (j : Nat) (C : Addr) (ge : GE) : GS := fun Dd Ex env => ∃ g cs nx, env[j]? = some (hallS C g cs nx) ∧ ge env Ex fun y => ∃ c ∈ cs, y = .int (c.n : Nat) ∧ Dd.nx (env.set j (hallS C g (less cs c.n) nx))
theorem ds_dropH {j : Nat} {y : Str} {ge : GE} {np apos cpos : Pos} {pl : Sem Bool} (T : HTxt X.K X.mg a d) (G : FnOk X.prog X.w X.K X.mg X.base (CXx X.prog X.w) 2 a.drop d.drop ["self", "number"] (spDrop X.K a)) (hj : X.N[j]? = some y) (hv : Vis X.env.scope y) (hr : Room 2 X.A) (hp : Passes (CXx X.prog X.w) X E) (he : DE X E e ge)
    (hd : (y == ("__debug__" : Str)) = false := by decide) (hcd : (y == ("__classdict__" : Str)) = false := by decide)
    (hst : starEach [e] X.env = (false, eval e X.env) :: starEach [] X.env := by rfl) (hpl : (backTo cpos (starEach [] X.env)).any (·.1) = false := by rfl)
    (ht : eval (.Call (.Attribute (.Name y np) "drop" apos) [e] [] cpos) X.env = (do
      let ov ← eval (.Name y np) X.env
      standAt apos.atName
      let (f, first) ← holding [ov] (getMethod ov "drop" pl)
      callWith cpos f first (backTo cpos (starEach [e] X.env)) (backToKw cpos (keywordEach [] X.env))) := by rfl)
    (hs : swapsWith (.Call (.Attribute (.Name y np) "drop" apos) [e] [] cpos) none pos.line X.env = pure false := by rfl) : DSt X E (.Expr (.Call (.Attribute (.Name y np) "drop" apos) [e] [] cpos) pos) (gDropH j a.hall ge) := ⟨fun F0 H0 s0 =>
  PS.weak (ps_expr (pe_meth (dvs := []) (E := E) (pe_var hj hv hd hcd) T.cls T.m_drop G hr T.b_drop .nil hp (pa_cons he.h pa_nil hst) hst hpl ht) hs) fun Dn σ H zw49 => el10 zw49 fun F env Ex Dd gr sl fr ex q en => by
    obtain ⟨g, cs, nx, e0, q⟩ := q
    obtain ⟨e1, f1, lcl, hG⟩ := sl.ok j _ e0
    obtain ⟨dx, ob⟩ := hG.ob
    refine ⟨.ref g.p, join_some e1, g.p, dx, _, rfl, ob, flds_drop _ _ _ _, F, env, Ex, _, gr.sub, sl, ex.step gr.hh, q, fun dy vy F1 H1 q1 g1 r1 => ?_⟩
    obtain ⟨c, hc, rfl, qn⟩ := q1
    cases (show vy = _ from r1)
    have sl1 := sl.grow g1
    obtain ⟨_, _, _, hG1⟩ := sl1.ok j _ e0
    refine ⟨g, cs, nx, _, _, rfl, hG1, .int _, (fun no => absurd ⟨c, hc, rfl⟩ no), fun c' hc' ec H' hG' kp => ?_⟩
    have ec : c = c' := nd_un hG1.good.nd hc hc' (by injection ec with z; omega)
    subst ec
    obtain ⟨G2, S2, R2⟩ := hall_chg (gr.trans g1) sl1 fr e0 hG' kp
    exact en.nx _ σ F1 H' qn G2 S2 R2⟩
end
def fDeedG : DSp := fun ds _ Q => ∃ (c : Int) (n m f : Nat) (ks : List Nat), ds = [.int c, .tup [.int (n : Nat), .int (m : Nat), .int (f : Nat)], .lst (ks.map fun k => .int (k : Nat))] ∧ 1 ≤ n ∧ 1 ≤ m ∧ (∀ k ∈ ks, Q (.tup [.str "drop", .int (k : Nat)])) ∧ ∀ i o : Nat, i < n → o < m → Q (.tup [.str "put", .int (i : Nat), .int (o : Nat)])
end Hl
namespace Hl
open PySem L2
section
variable {X : Cx} {E : XK} {pos p : Pos} {e : Expr} {es : List Expr} {a : Ad} {d : Fd} {rest : List Stmt} {t : GS}
def gCallsG (i : Nat) (C : Addr) : GA := fun env _ Q => ∃ g cs nx, env[i]? = some (hallS C g cs nx) ∧ cs.length < 64 ∧ (Good g.N g.M g.F cs → (∀ c ∈ cs, c.n < nx) → ∀ lc : List Call, lc.Perm cs → lc.Pairwise (fun x y => x.n < y.n) → Q (lc.map callD))
theorem df_callsG {i : Nat} {x : Str} {np apos : Pos} {pl : Sem Bool} (T : HTxt X.K X.mg a d) (G : FnOk X.prog X.w X.K X.mg X.base (CXx X.prog X.w) 1 a.calls d.calls ["self"] (spCalls a)) (hN : X.N[i]? = some x) (hv : Vis X.env.scope x) (hr : Room 1 X.A) (hp : Passes (CXx X.prog X.w) X E) (hd : (x == ("__debug__" : Str)) = false := by decide) (hcd : (x == ("__classdict__" : Str)) = false := by decide)
    (ht : eval (.Call (.Attribute (.Name x np) "calls" apos) [] [] pos) X.env = (do
      let ov ← eval (.Name x np) X.env
      standAt apos.atName
      let (f, first) ← holding [ov] (getMethod ov "calls" pl)
      callWith pos f first (backTo pos (starEach [] X.env)) (backToKw pos (keywordEach [] X.env))) := by rfl) : DF X E (.Call (.Attribute (.Name x np) "calls" apos) [] [] pos) (gCallsG i a.hall) := ⟨
  PE.weak (df_calls T G hN hv hr hp hd hcd ht).h fun σ H Q zw50 => el9 zw50 fun F env Ex Qd s sl ex q fin => by
    obtain ⟨g, cs, nx, e0, h64, q⟩ := q
    obtain ⟨e1, f, lcl, hG⟩ := sl.ok i _ e0
    exact ⟨F, env, Ex, Qd, s, sl, ex, ⟨g, cs, nx, e0, h64, q hG.good hG.lt⟩, fin⟩⟩
end
end Hl
namespace Hl
open PySem L2
structure Tld (cs mn : List Call) (nx : Nat) : Prop where
  rise : mn.Pairwise fun x y => x.n < y.n
  perm : (cs.map tri).Perm (mn.map tri)
  lt : ∀ c ∈ mn, c.n < nx
theorem Tld.nil : Tld [] [] 0 := ⟨.nil, .refl _, fun c hc => nomatch hc⟩
theorem Tld.calls {cs mn lc : List Call} {nx : Nat} (h : Tld cs mn nx) (p : lc.Perm cs) (r : lc.Pairwise fun x y => x.n < y.n) : lc.map triD = mn.map triD := triD_of (tri_sorted r h.rise ((p.map tri).trans h.perm))
theorem Tld.put {F : Nat} {cs mn : List Call} {nx i o f : Nat} {l cs' : List Call} (h : Tld cs mn nx) (p : PutOk F cs i o f l cs') (f' : Nat) : Tld (⟨nx, i, o, f⟩ :: cs') (mn ++ [⟨nx, i, o, f'⟩]) (nx + 1) := by
  refine ⟨?_, ?_, fun c hc => ?_⟩
  · rw [List.pairwise_append]
    refine ⟨h.rise, List.pairwise_singleton _ _, fun x hx y hy => ?_⟩
    rw [List.mem_singleton.mp hy]
    exact h.lt x hx
  · rw [List.map_cons, p.tri, List.map_append]
    exact (List.Perm.cons _ h.perm).trans (List.perm_append_singleton _ _).symm
  · rcases List.mem_append.mp hc with z | z
    · have := h.lt c z
      omega
    · rw [List.mem_singleton.mp z]
      exact Nat.lt_succ_self _
theorem less_tri (cs : List Call) (k : Nat) : (less cs k).map tri = (cs.map tri).filter fun t => decide (t.1 ≠ k) := by
  unfold less
  rw [List.filter_map]
  rfl
theorem Tld.drop {cs mn : List Call} {nx : Nat} (h : Tld cs mn nx) (k : Nat) : Tld (less cs k) (less mn k) nx :=
  ⟨h.rise.filter _, by rw [less_tri, less_tri]; exact h.perm.filter _, fun c hc => h.lt c (mem_less.mp hc).1⟩
theorem Tld.ldi {cs mn : List Call} {nx : Nat} (h : Tld cs mn nx) (e : Nat) : ldS Call.i cs e = ldS Call.i mn e := ld_tri (s3 := fun t => t.2.1) (fun _ => rfl) h.perm e
theorem Tld.ldo {cs mn : List Call} {nx : Nat} (h : Tld cs mn nx) (e : Nat) : ldS Call.o cs e = ldS Call.o mn e := ld_tri (s3 := fun t => t.2.2) (fun _ => rfl) h.perm e
theorem Tld.clen {cs mn : List Call} {nx : Nat} (h : Tld cs mn nx) : cs.length = mn.length := by
  have := h.perm.length_eq
  rwa [List.length_map, List.length_map] at this
theorem Tld.mem {cs mn : List Call} {nx : Nat} (h : Tld cs mn nx) {c : Call} (hc : c ∈ mn) : ∃ d ∈ cs, tri d = tri c := by
  obtain ⟨d, hd, e⟩ := List.mem_map.mp (h.perm.mem_iff.mpr (List.mem_map_of_mem (f := tri) hc))
  exact ⟨d, hd, e⟩
theorem rise_len : ∀ {mn : List Call} {b nx : Nat}, mn.Pairwise (fun x y => x.n < y.n) → (∀ c ∈ mn, b ≤ c.n ∧ c.n < nx) → mn.length ≤ nx - b
  | [], _, _, _, _ => Nat.zero_le _
  | c :: mn, b, nx, h, l => by
    obtain ⟨a1, a2⟩ := List.pairwise_cons.mp h
    have h1 := l c List.mem_cons_self
    have := rise_len (b := c.n + 1) (nx := nx) a2 fun d hd => ⟨a1 d hd, (l d (List.mem_cons_of_mem _ hd)).2⟩
    rw [List.length_cons]
    omega
theorem Tld.len {cs mn : List Call} {nx : Nat} (h : Tld cs mn nx) : mn.length ≤ nx := by
  have := rise_len (b := 0) h.rise fun c hc => ⟨Nat.zero_le _, h.lt c hc⟩
  omega
def spLd (a : Ad) (sel : Call → Nat) (lim : Geo → Nat) : Sp := fun vs H Q _ => ∃ g cs nx i, vs = [.ref g.p, .int ((i : Nat) : Int)] ∧ HallG a.hall H g cs nx ∧ i < lim g ∧ Q (.int (ldS sel cs i : Nat)) H
def gLoad (sel : Call → Nat) (lim : Geo → Nat) (j : Nat) (C : Addr) (ge : GE) : GE := fun env Ex Q => ∃ g cs nx, env[j]? = some (hallS C g cs nx) ∧ ge env Ex fun y => ∃ i : Nat, y = .int (i : Nat) ∧ i < lim g ∧ Q (.int (ldS sel cs i : Nat))
def spOne (K : PySem.W.Frag) (a : Ad) : Sp := fun vs H Q _ => ∃ (g : Geo) (cs : List Call) (nx i o : Nat) (B : Addr) (xs : List V) (bk : List Call), vs = [.ref g.p, .ref B, .int ((i : Nat) : Int), .int ((o : Nat) : Int), .int (g.F : Nat), .int (nx : Nat)] ∧ HallG a.hall H g cs nx ∧ nx < 63 ∧ i < g.N ∧ o < g.M ∧ B ∉ g.all ∧ H B = some (.lst xs) ∧
  Reps K H (bk.map triD) xs ∧ Tld cs bk nx ∧ (Busy g cs i o → ∀ H', Same H H' → Q (.bl true) H') ∧
  (¬ Busy g cs i o → ∀ f l cs' t H', PutOk g.F cs i o f l cs' → HallG a.hall H' g (⟨nx, i, o, f⟩ :: cs') (nx + 1) → (∀ b u, H b = some u → b ∉ g.own → b ≠ B → H' b = some u) → H t = none → H' t = some (.tup [.int (nx : Nat), .int (i : Nat), .int (o : Nat)]) →
    H' B = some (.lst (xs ++ [.ref t])) → Q (.bl true) H')
def gIfOne (jh jb : Nat) (C : Addr) (ga : GA) : GS := fun Dd Ex env => ∃ (g : Geo) (cs : List Call) (nx : Nat) (bk : List Call), env[jh]? = some (hallS C g cs nx) ∧ env[jb]? = some (.own (bk.map triD)) ∧ jh ≠ jb ∧ nx < 63 ∧ Tld cs bk nx ∧ ga env Ex fun ds => ∃ i o : Nat, ds = [.int (i : Nat), .int (o : Nat), .int (g.F : Nat), .int (nx : Nat)] ∧ i < g.N ∧ o < g.M ∧
  (Busy g cs i o → Dd.nx env) ∧ (¬ Busy g cs i o → ∀ f l cs', PutOk g.F cs i o f l cs' → Dd.nx ((env.set jh (hallS C g (⟨nx, i, o, f⟩ :: cs') (nx + 1))).set jb (.own ((bk ++ [(⟨nx, i, o, f⟩ : Call)]).map triD))))
section
variable {X : Cx} {E : XK} {pos p : Pos} {e : Expr} {es : List Expr} {a : Ad} {d : Fd}
theorem de_load {j k : Nat} {f : Addr} {fd : FuncData} {m y pn : Str} {sel : Call → Nat} {lim : Geo → Nat} {ge : GE} {np apos cpos : Pos} {pl : Sem Bool} (T : HTxt X.K X.mg a d) (hM : Meth X.K a.hall m f) (G : FnOk X.prog X.w X.K X.mg X.base (CXx X.prog X.w) k f fd ["self", pn] (spLd a sel lim)) (hfl : ∀ I O S n, (flds I O S n).lookup m = none) (hbd : Binds X.K fd ["self", pn] [])
    (hj : X.N[j]? = some y) (hv : Vis X.env.scope y) (hr : Room k X.A) (hp : Passes (CXx X.prog X.w) X E) (he : DE X E e ge)
    (hd : (y == ("__debug__" : Str)) = false := by decide) (hcd : (y == ("__classdict__" : Str)) = false := by decide)
    (hst : starEach [e] X.env = (false, eval e X.env) :: starEach [] X.env := by rfl) (hpl : (backTo cpos (starEach [] X.env)).any (·.1) = false := by rfl)
    (ht : eval (.Call (.Attribute (.Name y np) m apos) [e] [] cpos) X.env = (do
      let ov ← eval (.Name y np) X.env
      standAt apos.atName
      let (f, first) ← holding [ov] (getMethod ov m pl)
      callWith cpos f first (backTo cpos (starEach [e] X.env)) (backToKw cpos (keywordEach [] X.env))) := by rfl) : DE X E (.Call (.Attribute (.Name y np) m apos) [e] [] cpos) (gLoad sel lim j a.hall ge) := ⟨
  PE.weak (pe_meth (dvs := []) (E := E) (pe_var hj hv hd hcd) T.cls hM G hr hbd .nil hp (pa_cons he.h pa_nil hst) hst hpl ht) fun σ H Q zw51 => el9 zw51 fun F env Ex Qd s sl ex q fin => by
    obtain ⟨g, cs, nx, e0, q⟩ := q
    obtain ⟨e1, f1, lcl, hG⟩ := sl.ok j _ e0
    obtain ⟨dx, ob⟩ := hG.ob
    refine ⟨.ref g.p, join_some e1, g.p, dx, _, rfl, ob, hfl _ _ _ _, F, env, Ex, _, s, sl, ex, q, fun dy vy F1 H1 q1 g1 r1 => ?_⟩
    obtain ⟨i, rfl, hi, qn⟩ := q1
    cases (show vy = _ from r1)
    obtain ⟨_, _, _, hG1⟩ := (sl.grow g1).ok j _ e0
    exact ⟨g, cs, nx, i, rfl, hG1, hi, fin _ _ F1 H1 qn g1 rfl⟩⟩
theorem ds_ifOne {jh jb k : Nat} {f : Addr} {fd : FuncData} {ps : List Str} {x y z : Str} {ga : GA} {t : GS} {np np2 cpos p1 : Pos} {bs : List Stmt} (hj : X.N[jh]? = some y) (hv : Vis X.env.scope y) (hb : X.N[jb]? = some z) (hvb : Vis X.env.scope z)
    (G : FnOk X.prog X.w X.K X.mg X.base (CXx X.prog X.w) k f fd ps (spOne X.K a)) (hr : Room k X.A) (hg : Gl X x) (hm : X.mg x = some (.ref f)) (hk : PySem.W.keepIn X.K (.ref f) = true) (hbd : Binds X.K fd ps []) (hp : Passes (CXx X.prog X.w) X E) (ha : DA X E es ga) (ht : DSs X E bs t)
    (hd : (y == ("__debug__" : Str)) = false := by decide) (hcd : (y == ("__classdict__" : Str)) = false := by decide) (hd2 : (z == ("__debug__" : Str)) = false := by decide) (hcd2 : (z == ("__classdict__" : Str)) = false := by decide) (hdb : (x == ("__debug__" : Str)) = false := by decide)
    (hs1 : starEach (.Name y np :: .Name z np2 :: es) X.env = (false, eval (.Name y np) X.env) :: starEach (.Name z np2 :: es) X.env := by rfl) (hs2 : starEach (.Name z np2 :: es) X.env = (false, eval (.Name z np2) X.env) :: starEach es X.env := by rfl) (hpl : (backTo cpos (starEach (.Name z np2 :: es) X.env)).any (·.1) = false := by rfl) :
    DSt X E (.If (.UnaryOp .Not (.Call (.Name x p) (.Name y np :: .Name z np2 :: es) [] cpos) p1) bs [] pos) (gIfOne jh jb a.hall ga) := ⟨fun F0 H0 s0 =>
  PS.weak (ps_if (pt_not (pt_val (pe_call (dvs := []) (E := E) G hr hg hm hk hbd .nil hp (pa_cons (pe_var hj hv hd hcd) (pa_cons (pe_var hb hvb hd2 hcd2) ha.h hs2) hs1) hdb hs1 hpl))) (ht.h F0 H0 s0) ((dss_nil (X := X) (E := E)).h F0 H0 s0)) fun Dn σ H zw52 => el10 zw52 fun F env Ex Dd gr sl fr ex q en => by
    obtain ⟨g, cs, nx, bk, eh, eb, hne, h63, tl, q⟩ := q
    obtain ⟨e1, f1, lcl, hG⟩ := sl.ok jh _ eh
    obtain ⟨B, xs, e1b, fB, hB, rB⟩ := sl.ok jb _ eb
    refine ⟨.ref g.p, join_some e1, .ref B, join_some e1b, F, env, Ex, _, gr.sub, sl, ex.step gr.hh, q, fun ds vs F1 H1 q1 g1 r1 => ?_⟩
    obtain ⟨i, o, rfl, hi, ho, qb, qn⟩ := q1
    obtain ⟨_, _, rfl, r1, _, _, rfl, r2, _, _, rfl, r3, _, _, rfl, r4, r5⟩ := r1
    cases (show _ = [] from r5)
    cases (show _ = _ from r1)
    cases (show _ = _ from r2)
    cases (show _ = _ from r3)
    cases (show _ = _ from r4)
    have sl1 := sl.grow g1
    obtain ⟨_, f2, _, hG1⟩ := sl1.ok jh _ eh
    obtain ⟨B2, xs2, e2b, fB2, hB2, rB2⟩ := sl1.ok jb _ eb
    rw [e1b] at e2b
    cases e2b
    have nB : B ∉ g.all := fun m => sl1.offT eh rfl (Ne.symm hne) eb rfl e1b m
    have h0B : H0 B = none := fr jb _ B eb rfl e1b
    refine ⟨g, cs, nx, i, o, B, xs2, bk, rfl, hG1, h63, hi, ho, nB, hB2, Reps.mono g1.sub _ rB2, tl, fun bz H' sm => ?_, fun nbz f' l cs' tt H' po hG' kp htn htt hBn => ?_⟩
    · have gg := g1.trans (Grow.still g1.sub sm)
      exact ⟨_, rfl, F1, env, Ex, Dd, gr.trans gg, sl.grow gg, fr, ex, qb bz, en⟩
    · obtain ⟨Hm, eHm⟩ : ∃ Hm : Hp, Hm = fun b => if b = B then H1 B else H' b := ⟨_, rfl⟩
      have mB : Hm B = some (.lst xs2) := by rw [eHm]; show (if B = B then H1 B else H' B) = _; rw [if_pos rfl, hB2]
      have mN : ∀ b, b ≠ B → Hm b = H' b := fun b nb => by rw [eHm]; show (if b = B then H1 B else H' b) = _; rw [if_neg nb]
      have eU : H' = upd Hm B (.lst (xs2 ++ [.ref tt])) := by
        funext b
        by_cases nb : b = B
        · subst nb; rw [upd_same, hBn]
        · rw [upd_ne nb, mN b nb]
      have hGm : HallG a.hall Hm g (⟨nx, i, o, f'⟩ :: cs') (nx + 1) := hG'.cong (fun b m => mN b fun z => nB (z ▸ m)) fun b ys z => by
        rw [mN b fun w => by rw [w, hBn] at z; cases z]
        exact z
      have kpm : Keeps g H1 Hm := fun b u z n => by
        by_cases nb : b = B
        · subst nb; rw [mB, ← hB2, z]
        · rw [mN b nb]; exact kp b u z n nb
      obtain ⟨G2, S2, R2⟩ := hall_chg (gr.trans g1) sl1 fr eh hGm kpm
      have ntB : tt ≠ B := fun z => by rw [z, hBn] at htt; cases htt
      have htm : Hm tt = some (.tup [.int (nx : Nat), .int (i : Nat), .int (o : Nat)]) := by rw [mN tt ntB]; exact htt
      have fT : F1 tt = none := g1.sub.free htn
      have gT : Grow F1 Hm (lays F1 Hm [tt]) Hm := ⟨Same.refl _, lays_ff (fun b m => by rw [List.mem_singleton.mp m]; exact fT), lays_sub G2.sub, fun b z n => by
        by_cases m : b ∈ [tt]
        · rw [List.mem_singleton.mp m]; exact .inr ⟨_, htm⟩
        · rw [lays_out m] at n; exact absurd z n⟩
      have S3 := S2.grow gT
      have G3 := G2.trans gT
      have eb3 : (env.set jh (hallS a.hall g (⟨nx, i, o, f'⟩ :: cs') (nx + 1)))[jb]? = some (.own (bk.map triD)) := by rw [List.getElem?_set_ne hne]; exact eb
      have fB3 : lays F1 Hm [tt] B = none := by rw [lays_out (by rw [List.mem_singleton]; exact Ne.symm ntB)]; exact fB2
      have rN : Reps X.K (lays F1 Hm [tt]) ((bk ++ [(⟨nx, i, o, f'⟩ : Call)]).map triD) (xs2 ++ [.ref tt]) := by
        rw [List.map_append]
        exact (Reps.mono gT.ff _ rB2).append (Reps.cons ⟨tt, _, rfl, by rw [lays_in List.mem_cons_self]; exact htm, Reps.cons rfl (Reps.cons rfl (Reps.cons rfl Reps.nil))⟩ Reps.nil)
      have S4 := S3.mut (s' := .own ((bk ++ [(⟨nx, i, o, f'⟩ : Call)]).map triD)) (o := .lst (xs2 ++ [.ref tt])) eb3 rfl rfl e1b ⟨B, _, rfl, fB3, upd_same, rN⟩
      have G4 := G3.mut (o := .lst (xs2 ++ [.ref tt])) fB3 h0B
      have R4 := R2.mut (s' := .own ((bk ++ [(⟨nx, i, o, f'⟩ : Call)]).map triD)) eb3 rfl
      rw [← eU] at S4 G4
      exact ⟨_, rfl, _, _, Ex, Dd, G4, S4, R4, ex, qn nbz f' l cs' po, en⟩⟩
end
def ShOk (K : PySem.W.Frag) (F : Hp) : St → DEnv → Prop
  | [], [] => True
  | o :: σ, t :: env => (match t with
    | .un => True
    | .sh d => ∃ v, o = some v ∧ Rep K F d v
    | _ => False) ∧ ShOk K F σ env
  | _, _ => False
theorem sh_len {K : PySem.W.Frag} {F : Hp} : ∀ {σ : St} {env : DEnv}, ShOk K F σ env → σ.length = env.length
  | [], [], _ => rfl
  | o :: σ, t :: env, h => congrArg (· + 1) (sh_len h.2)
  | [], _ :: _, h => h.elim
  | _ :: _, [], h => h.elim
theorem sh_at {K : PySem.W.Frag} {F : Hp} : ∀ {σ : St} {env : DEnv}, ShOk K F σ env → ∀ (j : Nat) t, env[j]? = some t → t = .un ∨ ∃ d v, t = .sh d ∧ (σ[j]?).join = some v ∧ Rep K F d v
  | [], [], _, j, t, e => by simp at e
  | o :: σ, t :: env, h, 0, t', e => by
    cases Option.some.inj e
    have h1 := h.1
    cases t with
    | un => exact .inl rfl
    | sh d => obtain ⟨v, e1, r⟩ := h1; exact .inr ⟨d, v, rfl, by rw [e1]; rfl, r⟩
    | _ => exact h1.elim
  | o :: σ, t :: env, h, j + 1, t', e => sh_at h.2 j t' e
  | [], _ :: _, h, _, _, _ => h.elim
  | _ :: _, [], h, _, _, _ => h.elim
theorem slots_sh {K : PySem.W.Frag} {F H : Hp} {σ : St} {env : DEnv} (h : ShOk K F σ env) : Slots K F H σ env := ⟨(sh_len h).symm, fun j t q => by
    rcases sh_at h j t q with rfl | ⟨d, v, rfl, e, r⟩
    · trivial
    · exact ⟨v, e, r⟩, fun j k s1 t1 b e1 e2 o1 o2 h1 h2 => by
    rcases sh_at h j s1 e1 with rfl | ⟨d, v, rfl, e, r⟩
    · cases o1
    · cases o1⟩
theorem last_new {lc cs : List Call} {c : Call} (p : lc.Perm (c :: cs)) (r : lc.Pairwise fun x y => x.n < y.n) (lt : ∀ d ∈ cs, d.n < c.n) : ∃ pre, lc = pre ++ [c] := by
  have hne : lc ≠ [] := fun e => by rw [e] at p; have := p.length_eq; simp at this
  have hl : lc = lc.dropLast ++ [lc.getLast hne] := (List.dropLast_concat_getLast hne).symm
  have hm : c ∈ lc := p.mem_iff.mpr List.mem_cons_self
  have hx : lc.getLast hne ∈ c :: cs := p.mem_iff.mp (List.getLast_mem hne)
  refine ⟨lc.dropLast, ?_⟩
  rcases List.mem_cons.mp hx with e | e
  · rw [← e]; exact hl
  · have h1 := lt _ e
    rw [hl] at hm r
    rcases List.mem_append.mp hm with z | z
    · have h2 := (List.pairwise_append.mp r).2.2 c z _ List.mem_cons_self
      omega
    · rw [← List.mem_singleton.mp z] at h1
      omega
theorem book_kept {K : PySem.W.Frag} {C : Addr} {H H' : Hp} {g : Geo} {cs : List Call} {nx : Nat} (kp : Keeps g H H') (hG : HallG C H g cs nx) : ∀ {bk : List Call} {xs : List V}, Reps K H (bk.map triD) xs → Reps K H' (bk.map triD) xs
  | [], _, h => h
  | c :: bk, _, ⟨x, r, e, ⟨t, ys, e1, h1, r1⟩, h2⟩ => ⟨x, r, e, ⟨t, ys, e1, kp _ _ h1 (hG.tup h1), flats_any rfl r1⟩, book_kept kp hG h2⟩
def fGood2 : DSp := fun ds _ Q => ∃ (lc bk : List Call) (F : Nat), ds = [.lst (lc.map callD), .lst (bk.map triD), .int (F : Nat)] ∧ lc.map triD = bk.map triD ∧ (∀ c ∈ lc, c.f < F) ∧ (lc.map fun c => (c.i, c.f)).Nodup ∧ (lc.map fun c => (c.o, c.f)).Nodup ∧ lc.length ≤ 63 ∧ Q (.bl true)
def endsOf (c : Call) : List Tri := [(("in" : Str), (c.i : Nat), (c.f : Nat)), (("out" : Str), (c.o : Nat), (c.f : Nat))]
theorem mem_ends {lc : List Call} {x : Tri} : x ∈ lc.flatMap endsOf ↔ ∃ c ∈ lc, x = (("in" : Str), ((c.i : Nat) : Int), ((c.f : Nat) : Int)) ∨ x = (("out" : Str), ((c.o : Nat) : Int), ((c.f : Nat) : Int)) := by
  rw [List.mem_flatMap]
  constructor
  · rintro ⟨c, hc, h⟩
    rcases List.mem_cons.mp h with e | h
    · exact ⟨c, hc, .inl e⟩
    · exact ⟨c, hc, .inr (List.mem_singleton.mp h)⟩
  · rintro ⟨c, hc, e | e⟩
    · exact ⟨c, hc, by rw [e]; exact List.mem_cons_self⟩
    · exact ⟨c, hc, by rw [e]; exact List.mem_cons_of_mem _ List.mem_cons_self⟩
theorem in_ne_out : (("in" : Str) = "out") → False := by decide
theorem ends_nodup : ∀ {lc : List Call}, (lc.map fun c => (c.i, c.f)).Nodup → (lc.map fun c => (c.o, c.f)).Nodup → (lc.flatMap endsOf).Nodup
  | [], _, _ => List.nodup_nil
  | c :: lc, h1, h2 => by
    obtain ⟨a1, a2⟩ := List.nodup_cons.mp h1
    obtain ⟨b1, b2⟩ := List.nodup_cons.mp h2
    have ih := ends_nodup a2 b2
    rw [List.flatMap_cons]
    show ((("in" : Str), ((c.i : Nat) : Int), ((c.f : Nat) : Int)) :: (("out" : Str), ((c.o : Nat) : Int), ((c.f : Nat) : Int)) :: lc.flatMap endsOf).Nodup
    refine List.nodup_cons.mpr ⟨fun m => ?_, List.nodup_cons.mpr ⟨fun m => ?_, ih⟩⟩
    · rcases List.mem_cons.mp m with e | m
      · exact in_ne_out (congrArg (·.1) e)
      · obtain ⟨d, hd, e | e⟩ := mem_ends.mp m
        · have e1 : ((c.i : Nat) : Int) = ((d.i : Nat) : Int) := congrArg (·.2.1) e
          have e2 : ((c.f : Nat) : Int) = ((d.f : Nat) : Int) := congrArg (·.2.2) e
          exact a1 (List.mem_map.mpr ⟨d, hd, by rw [show d.i = c.i by omega, show d.f = c.f by omega]⟩)
        · exact in_ne_out (congrArg (·.1) e)
    · obtain ⟨d, hd, e | e⟩ := mem_ends.mp m
      · exact in_ne_out (congrArg (·.1) e).symm
      · have e1 : ((c.o : Nat) : Int) = ((d.o : Nat) : Int) := congrArg (·.2.1) e
        have e2 : ((c.f : Nat) : Int) = ((d.f : Nat) : Int) := congrArg (·.2.2) e
        exact b1 (List.mem_map.mpr ⟨d, hd, by rw [show d.o = c.o by omega, show d.f = c.f by omega]⟩)
theorem ends_len : ∀ lc : List Call, (lc.flatMap endsOf).length = 2 * lc.length
  | [] => rfl
  | c :: lc => by
    rw [List.flatMap_cons, List.length_append, ends_len lc, List.length_cons]
    show 2 + 2 * lc.length = _
    omega
theorem ends_take {lc : List Call} {k : Nat} {c : Call} (h : lc[k]? = some c) : (lc.take (k + 1)).flatMap endsOf = (lc.take k).flatMap endsOf ++ endsOf c := by
  rw [List.take_add_one, h, List.flatMap_append]
  show _ ++ List.flatMap endsOf [c] = _
  rw [List.flatMap_cons, List.flatMap_nil, List.append_nil]
def num3 (d : D) : D := match d with
  | .tup [x, _, _] => x
  | d => d
theorem num3_tri (l : List Call) : (l.map triD).map num3 = (l.map Call.n).map fun (k : Nat) => D.int (k : Nat) := by
  rw [List.map_map, List.map_map]
  rfl
theorem filt_tri (pr : D → Bool) (k : Nat) : ∀ (bk : List Call), (∀ c ∈ bk, pr (triD c) = !decide (((c.n : Nat) : Int) = ((k : Nat) : Int))) → (bk.map triD).filter pr = (less bk k).map triD
  | [], _ => rfl
  | c :: bk, h => by
    have ih := filt_tri pr k bk fun d hd => h d (List.mem_cons_of_mem _ hd)
    have h1 := h c List.mem_cons_self
    unfold less at ih ⊢
    rw [List.map_cons, List.filter_cons, List.filter_cons, ih, h1]
    by_cases e : c.n = k
    · rw [if_neg (by rw [decide_eq_true (by omega)]; decide), if_neg (fun z => (of_decide_eq_true z) e)]
    · rw [if_pos (by rw [decide_eq_false (by omega)]; rfl), if_pos (decide_eq_true e)]
      rfl
theorem shal_tri (bk : List Call) : (bk.map triD).all shal = true := by
  rw [List.all_eq_true]
  intro d hd
  obtain ⟨c, _, rfl⟩ := List.mem_map.mp hd
  rfl
theorem good_in {N M F : Nat} {cs lc : List Call} (g : Good N M F cs) (p : lc.Perm cs) : (lc.map fun c => (c.i, c.f)).Nodup ∧ (lc.map fun c => (c.o, c.f)).Nodup ∧ ∀ c ∈ lc, c.f < F := by
  have nd : lc.Nodup := p.nodup_iff.mpr g.nodup
  refine ⟨?_, ?_, fun c hc => g.bf c (p.mem_iff.mp hc)⟩
  · rw [List.nodup_iff_pairwise_ne, List.pairwise_map]
    refine List.Pairwise.imp_of_mem (fun {x y} hx hy ne e => ne ?_) (List.nodup_iff_pairwise_ne.mp nd)
    exact g.ui x (p.mem_iff.mp hx) y (p.mem_iff.mp hy) (congrArg Prod.fst e) (congrArg Prod.snd e)
  · rw [List.nodup_iff_pairwise_ne, List.pairwise_map]
    refine List.Pairwise.imp_of_mem (fun {x y} hx hy ne e => ne ?_) (List.nodup_iff_pairwise_ne.mp nd)
    exact g.uo x (p.mem_iff.mp hx) y (p.mem_iff.mp hy) (congrArg Prod.fst e) (congrArg Prod.snd e)
end Hl
set_option maxHeartbeats 4000000
namespace Ka02
open PySem L2
def top (i : Nat) : Stmt := PySem.Challenge.pw_switchhall_k02_whole_calls_are_put_throu.main.body.getD i (.Pass ⟨0, 0, 0, 0⟩)
abbrev s_cell : Stmt := top 21
abbrev s_mix : Stmt := top 22
abbrev s_large : Stmt := top 23
abbrev s_lwhole : Stmt := top 24
abbrev s_sizes : Stmt := top 25
abbrev s_small : Stmt := top 26
abbrev s_goes : Stmt := top 27
abbrev s_deed : Stmt := top 28
abbrev s_lput : Stmt := top 29
abbrev s_loads : Stmt := top 30
abbrev s_good : Stmt := top 31
abbrev s_one : Stmt := top 32
abbrev s_law : Stmt := top 33
set_option genInjectivity false in
set_option genSizeOf false in
structure Ad where
  (cell mix large lwhole sizes small goes deed lput loads good one law whole within check free endAt load isFull least both init put drop calls lay lift room way lin lout hall bad noEnd busy noCall : Addr)
set_option genInjectivity false in
set_option genSizeOf false in
structure Fd where
  (cell mix large lwhole sizes small goes deed lput loads good one law whole within check free endAt load isFull least both init put drop calls lay lift room way lin lout : FuncData)
structure Txt (K : PySem.W.Frag) (mg : Str → Option Value) (a : Ad) (d : Fd) : Prop where
  bool_ : mg "bool" = none
  int_ : mg "int" = none
  isi : mg "isinstance" = none
  len : mg "len" = none
  list_ : mg "list" = none
  set_ : mg "set" = none
  tuple_ : mg "tuple" = none
  g_cell : mg "_law_cell" = some (.ref a.cell)
  g_mix : mg "_law_mix" = some (.ref a.mix)
  g_large : mg "_law_large" = some (.ref a.large)
  g_lwhole : mg "_law_whole" = some (.ref a.lwhole)
  g_sizes : mg "_law_sizes" = some (.ref a.sizes)
  g_small : mg "_law_small" = some (.ref a.small)
  g_goes : mg "_law_goes" = some (.ref a.goes)
  g_deed : mg "_law_deed" = some (.ref a.deed)
  g_lput : mg "_law_put" = some (.ref a.lput)
  g_loads : mg "_law_loads" = some (.ref a.loads)
  g_good : mg "_law_good" = some (.ref a.good)
  g_one : mg "_law_one" = some (.ref a.one)
  f_cell : Fun K "_law_cell" "_law_cell" s_cell a.cell d.cell
  b_cell : Binds K d.cell ["_law_script", "_law_k"] []
  f_mix : Fun K "_law_mix" "_law_mix" s_mix a.mix d.mix
  b_mix : Binds K d.mix ["_law_cell_here", "_law_prime", "_law_many"] []
  f_large : Fun K "_law_large" "_law_large" s_large a.large d.large
  b_large : Binds K d.large ["_law_script"] []
  f_lwhole : Fun K "_law_whole" "_law_whole" s_lwhole a.lwhole d.lwhole
  b_lwhole : Binds K d.lwhole ["_law_found"] []
  f_sizes : Fun K "_law_sizes" "_law_sizes" s_sizes a.sizes d.sizes
  b_sizes : Binds K d.sizes ["_law_script"] []
  f_small : Fun K "_law_small" "_law_small" s_small a.small d.small
  b_small : Binds K d.small ["_law_script"] []
  f_goes : Fun K "_law_goes" "_law_goes" s_goes a.goes d.goes
  b_goes : Binds K d.goes ["_law_script"] []
  f_deed : Fun K "_law_deed" "_law_deed" s_deed a.deed d.deed
  b_deed : Binds K d.deed ["_law_cell_here", "_law_sizes_here", "_law_known"] []
  f_lput : Fun K "_law_put" "_law_put" s_lput a.lput d.lput
  b_lput : Binds K d.lput ["_law_hall", "_law_inlet", "_law_outlet"] []
  f_loads : Fun K "_law_loads" "_law_loads" s_loads a.loads d.loads
  b_loads : Binds K d.loads ["_law_book", "_law_inlet", "_law_outlet"] []
  f_good : Fun K "_law_good" "_law_good" s_good a.good d.good
  b_good : Binds K d.good ["_law_told", "_law_book", "_law_frames"] []
  f_one : Fun K "_law_one" "_law_one" s_one a.one d.one
  b_one : Binds K d.one ["_law_hall", "_law_book", "_law_inlet", "_law_outlet", "_law_frames", "_law_given"] []
  f_law : Fun K "law" "law" s_law a.law d.law
  b_law : Binds K d.law ["_law_script"] []
  eYY : PySem.W.exmOne K (.ref a.busy) (.ref a.busy) = some true
  range : mg "range" = none
  sorted_ : mg "sorted" = none
  zip_ : mg "zip" = none
  ends : ∃ t, mg "MOST_ENDS" = some (.int 12 t)
  frames : ∃ t, mg "MOST_FRAMES" = some (.int 8 t)
  g_whole : mg "is_whole" = some (.ref a.whole)
  g_within : mg "is_whole_within" = some (.ref a.within)
  g_check : mg "check_sizes" = some (.ref a.check)
  g_free : mg "free_ends" = some (.ref a.free)
  g_endAt : mg "end_at" = some (.ref a.endAt)
  g_load : mg "load_of" = some (.ref a.load)
  g_isFull : mg "is_full" = some (.ref a.isFull)
  g_least : mg "least_free" = some (.ref a.least)
  g_both : mg "least_free_at_both" = some (.ref a.both)
  g_hall : mg "Hall" = some (.ref a.hall)
  g_bad : mg "BadHall" = some (.ref a.bad)
  g_noEnd : mg "NoEnd" = some (.ref a.noEnd)
  g_busy : mg "Busy" = some (.ref a.busy)
  g_noCall : mg "NoCall" = some (.ref a.noCall)
  f_whole : Fun K "is_whole" "is_whole" Hl.sWhole a.whole d.whole
  f_within : Fun K "is_whole_within" "is_whole_within" Hl.sWithin a.within d.within
  f_check : Fun K "check_sizes" "check_sizes" Hl.sCheck a.check d.check
  f_free : Fun K "free_ends" "free_ends" Hl.sFree a.free d.free
  f_endAt : Fun K "end_at" "end_at" Hl.sEnd a.endAt d.endAt
  f_load : Fun K "load_of" "load_of" Hl.sLoad a.load d.load
  f_isFull : Fun K "is_full" "is_full" Hl.sFull a.isFull d.isFull
  f_least : Fun K "least_free" "least_free" Hl.sLeast a.least d.least
  f_both : Fun K "least_free_at_both" "least_free_at_both" Hl.sBoth a.both d.both
  f_init : Fun K "__init__" "Hall.__init__" Hl.sInit a.init d.init
  f_put : Fun K "put" "Hall.put" Hl.sPut a.put d.put
  f_drop : Fun K "drop" "Hall.drop" Hl.sDrop a.drop d.drop
  f_calls : Fun K "calls" "Hall.calls" Hl.sCalls a.calls d.calls
  f_lay : Fun K "lay" "Hall.lay" Hl.sLay a.lay d.lay
  f_lift : Fun K "lift" "Hall.lift" Hl.sLift a.lift d.lift
  f_room : Fun K "make_room" "Hall.make_room" Hl.sRoom a.room d.room
  f_way : Fun K "way_from" "Hall.way_from" Hl.sWay a.way d.way
  b_whole : Binds K d.whole ["value"] []
  b_within : Binds K d.within ["value", "least", "most"] []
  b_check : Binds K d.check ["inlets", "outlets", "frames"] []
  b_free : Binds K d.free ["many", "frames"] []
  b_endAt : Binds K d.endAt ["ends", "place"] []
  b_load : Binds K d.load ["end"] []
  b_isFull : Binds K d.isFull ["end"] []
  b_least : Binds K d.least ["end"] []
  b_both : Binds K d.both ["one", "other"] []
  b_init : Binds K d.init ["self", "inlets", "outlets", "frames"] []
  b_put : Binds K d.put ["self", "inlet", "outlet"] []
  b_drop : Binds K d.drop ["self", "number"] []
  b_calls : Binds K d.calls ["self"] []
  b_lay : Binds K d.lay ["self", "number", "inlet", "outlet", "frame"] []
  b_lift : Binds K d.lift ["self", "number"] []
  b_room : Binds K d.room ["self", "outlet", "frame", "spare"] []
  b_way : Binds K d.way ["self", "outlet", "frame", "spare"] []
  cls : Cls K a.hall
  nI : NoAttr K a.hall "inlet_ends"
  nO : NoAttr K a.hall "outlet_ends"
  nS : NoAttr K a.hall "standing"
  nN : NoAttr K a.hall "next_number"
  mkH : Mk K a.hall a.init
  m_put : Meth K a.hall "put" a.put
  m_drop : Meth K a.hall "drop" a.drop
  m_calls : Meth K a.hall "calls" a.calls
  m_lay : Meth K a.hall "lay" a.lay
  m_lift : Meth K a.hall "lift" a.lift
  m_room : Meth K a.hall "make_room" a.room
  m_way : Meth K a.hall "way_from" a.way
  x_bad : Exc K a.bad
  x_noEnd : Exc K a.noEnd
  x_busy : Exc K a.busy
  x_noCall : Exc K a.noCall
  f_lin : Fun K "load_in" "Hall.load_in" Hl.sLoadIn a.lin d.lin
  b_lin : Binds K d.lin ["self", "inlet"] []
  m_lin : Meth K a.hall "load_in" a.lin
  f_lout : Fun K "load_out" "Hall.load_out" Hl.sLoadOut a.lout d.lout
  b_lout : Binds K d.lout ["self", "outlet"] []
  m_lout : Meth K a.hall "load_out" a.lout
def Ad.h (a : Ad) : Hl.Ad := { whole := a.whole, within := a.within, check := a.check, free := a.free, endAt := a.endAt, load := a.load, isFull := a.isFull, least := a.least, both := a.both, init := a.init, put := a.put, drop := a.drop, calls := a.calls, lay := a.lay, lift := a.lift, room := a.room, way := a.way, hall := a.hall, bad := a.bad, noEnd := a.noEnd, busy := a.busy, noCall := a.noCall }
def Fd.h (d : Fd) : Hl.Fd := { whole := d.whole, within := d.within, check := d.check, free := d.free, endAt := d.endAt, load := d.load, isFull := d.isFull, least := d.least, both := d.both, init := d.init, put := d.put, drop := d.drop, calls := d.calls, lay := d.lay, lift := d.lift, room := d.room, way := d.way }
theorem Txt.h {K : PySem.W.Frag} {mg : Str → Option Value} {a : Ad} {d : Fd} (T : Txt K mg a d) : Hl.HTxt K mg a.h d.h := { isi := T.isi, int_ := T.int_, bool_ := T.bool_, len := T.len, range := T.range, sorted_ := T.sorted_, zip_ := T.zip_, ends := T.ends, frames := T.frames, g_whole := T.g_whole, g_within := T.g_within, g_check := T.g_check, g_free := T.g_free, g_endAt := T.g_endAt, g_load := T.g_load, g_isFull := T.g_isFull, g_least := T.g_least, g_both := T.g_both, g_hall := T.g_hall, g_bad := T.g_bad, g_noEnd := T.g_noEnd, g_busy := T.g_busy, g_noCall := T.g_noCall, f_whole := T.f_whole, f_within := T.f_within, f_check := T.f_check, f_free := T.f_free, f_endAt := T.f_endAt, f_load := T.f_load, f_isFull := T.f_isFull, f_least := T.f_least, f_both := T.f_both, f_init := T.f_init, f_put := T.f_put, f_drop := T.f_drop, f_calls := T.f_calls, f_lay := T.f_lay, f_lift := T.f_lift, f_room := T.f_room, f_way := T.f_way, b_whole := T.b_whole, b_within := T.b_within, b_check := T.b_check, b_free := T.b_free, b_endAt := T.b_endAt, b_load := T.b_load, b_isFull := T.b_isFull, b_least := T.b_least, b_both := T.b_both, b_init := T.b_init, b_put := T.b_put, b_drop := T.b_drop, b_calls := T.b_calls, b_lay := T.b_lay, b_lift := T.b_lift, b_room := T.b_room, b_way := T.b_way, cls := T.cls, nI := T.nI, nO := T.nO, nS := T.nS, nN := T.nN, mkH := T.mkH, m_put := T.m_put, m_drop := T.m_drop, m_calls := T.m_calls, m_lay := T.m_lay, m_lift := T.m_lift, m_room := T.m_room, m_way := T.m_way, x_bad := T.x_bad, x_noEnd := T.x_noEnd, x_busy := T.x_busy, x_noCall := T.x_noCall }
section
variable {P : Program} {w : World} {K : PySem.W.Frag} {mg : Str → Option Value} {base : Heap} {a : Ad} {d : Fd}
theorem S_cell : FnScope ["_law_script", "_law_k"] ["_law_script", "_law_k"] (defScope s_cell) := ⟨rfl, rfl, rfl, by decide +kernel, rfl, by decide +kernel, by decide +kernel⟩
theorem ok_cell (T : Txt K mg a d) : FnOk P w K mg base (CXx P w) 1 a.cell d.cell ["_law_script", "_law_k"] (dSp K 2 (fCell)) := by
  refine dfn T.f_cell S_cell (fun cdv A outer s H E b hr => ?_)
  have S := S_cell
  refine ⟨_, (dss_cons (ds_if (dt_lt (dv 1) (de_len rfl T.len (da_cons (dv 0) da_nil))) (dss_one (ds_ret (de_at (dv 0) (dv 1)))) dss_nil) (dss_one (ds_ret de_int))), fun ds Ex Q hl h => ?_⟩
  obtain ⟨ns, k, rfl, hk, q⟩ := h
  show if decide (k < ((ns.length : Nat) : Int)) = true then ∃ n, atI ns k = some n ∧ Q (.int n) else Q (.int 0)
  unfold cellAt at q
  refine ite2 (fun z => ?_) (fun z => ?_)
  · have z := of_decide_eq_true z
    rw [if_pos z] at q
    have hlt : k.toNat < ns.length := by omega
    refine ⟨ns.getD k.toNat 0, ?_, q⟩
    have e := atI_nat (xs := ns) (j := k.toNat) (v := ns.getD k.toNat 0) (by rw [List.getD_eq_getElem?_getD, List.getElem?_eq_getElem hlt]; rfl)
    rw [show ((k.toNat : Nat) : Int) = k by omega] at e
    exact e
  · have z : ¬ k < ((ns.length : Nat) : Int) := fun y => z (decide_eq_true y)
    rw [if_neg z] at q
    exact q
theorem S_mix : FnScope ["_law_cell_here", "_law_prime", "_law_many"] ["_law_cell_here", "_law_prime", "_law_many"] (defScope s_mix) := ⟨rfl, rfl, rfl, by decide +kernel, rfl, by decide +kernel, by decide +kernel⟩
theorem ok_mix (T : Txt K mg a d) : FnOk P w K mg base (CXx P w) 1 a.mix d.mix ["_law_cell_here", "_law_prime", "_law_many"] (dSp K 3 (fMix)) := by
  refine dfn T.f_mix S_mix (fun cdv A outer s H E b hr => ?_)
  have S := S_mix
  refine ⟨_, (dss_one (ds_ret (de_mod (de_mod (de_mul (dv 0) de_int) (dv 1)) (dv 2)))), fun ds Ex Q hl h => ?_⟩
  obtain ⟨c, p, m, rfl, hp, hm, q⟩ := h
  exact ⟨.inr ⟨by decide, by decide⟩, hp, hm, q⟩
theorem S_large : FnScope ["_law_script"] ["_law_script"] (defScope s_large) := ⟨rfl, rfl, rfl, by decide +kernel, rfl, by decide +kernel, by decide +kernel⟩
theorem ok_large (T : Txt K mg a d) : FnOk P w K mg base (CXx P w) 2 a.large d.large ["_law_script"] (dSp K 1 (fLarge)) := by
  have G_mix : FnOk P w K mg base (CXx P w) 1 a.mix d.mix ["_law_cell_here", "_law_prime", "_law_many"] (dSp K 3 (fMix)) := ok_mix T
  have G_cell : FnOk P w K mg base (CXx P w) 1 a.cell d.cell ["_law_script", "_law_k"] (dSp K 2 (fCell)) := ok_cell T
  refine dfn T.f_large S_large (fun cdv A outer s H E b hr => ?_)
  have S := S_large
  refine ⟨_, (dss_one (ds_ret (de_eq hr.units (de_call G_mix (hr.mono (by first | decide | omega)) rfl T.g_mix T.f_mix.kp T.b_mix b.pass_ (da_cons (de_add (de_call G_cell (hr.mono (by first | decide | omega)) rfl T.g_cell T.f_cell.kp T.b_cell b.pass_ (da_cons (dv 0) (da_cons de_int da_nil))) (de_mul de_int (de_len rfl T.len (da_cons (dv 0) da_nil)))) (da_cons de_int (da_cons de_int da_nil)))) de_int))), fun ds Ex Q hl h => ?_⟩
  obtain ⟨ns, rfl, q⟩ := h
  exact ⟨rfl, ns, 0, rfl, by decide, .inl ⟨by decide, by decide⟩, rfl, _, 9871, 8, rfl, by decide, by decide, q _⟩
theorem S_lwhole : FnScope ["_law_found"] ["_law_found"] (defScope s_lwhole) := ⟨rfl, rfl, rfl, by decide +kernel, rfl, by decide +kernel, by decide +kernel⟩
theorem ok_lwhole (T : Txt K mg a d) : FnOk P w K mg base (CXx P w) 1 a.lwhole d.lwhole ["_law_found"] (dSp K 1 (fWhole)) := by
  refine dfn T.f_lwhole S_lwhole (fun cdv A outer s H E b hr => ?_)
  have S := S_lwhole
  refine ⟨_, (dss_one (ds_ret (de_and (de_isi .int rfl rfl T.isi rfl T.int_ (dv 0)) (de_one (de_not (de_isi .bool rfl rfl T.isi rfl T.bool_ (dv 0))))))), fun ds Ex Q hl h => ?_⟩
  obtain ⟨v, rfl, hn, q⟩ := h
  cases v <;> first | exact absurd (show false = true from hn) Bool.false_ne_true | exact q
theorem S_sizes : FnScope ["_law_script"] ["_law_script"] (defScope s_sizes) := ⟨rfl, rfl, rfl, by decide +kernel, rfl, by decide +kernel, by decide +kernel⟩
theorem ok_sizes (T : Txt K mg a d) : FnOk P w K mg base (CXx P w) 2 a.sizes d.sizes ["_law_script"] (dSp K 1 (Hl.fSizes)) := by
  have G_cell : FnOk P w K mg base (CXx P w) 1 a.cell d.cell ["_law_script", "_law_k"] (dSp K 2 (fCell)) := ok_cell T
  refine dfn T.f_sizes S_sizes (fun cdv A outer s H E b hr => ?_)
  have S := S_sizes
  refine ⟨_, (dss_one (ds_ret (de_tup (da_cons (de_add de_int (de_mod (de_call G_cell (hr.mono (by first | decide | omega)) rfl T.g_cell T.f_cell.kp T.b_cell b.pass_ (da_cons (dv 0) (da_cons de_int da_nil))) de_int)) (da_cons (de_add de_int (de_mod (de_call G_cell (hr.mono (by first | decide | omega)) rfl T.g_cell T.f_cell.kp T.b_cell b.pass_ (da_cons (dv 0) (da_cons de_int da_nil))) de_int)) (da_cons (de_add de_int (de_mod (de_call G_cell (hr.mono (by first | decide | omega)) rfl T.g_cell T.f_cell.kp T.b_cell b.pass_ (da_cons (dv 0) (da_cons de_int da_nil))) de_int)) da_nil)))))), fun ds Ex Q hl h => ?_⟩
  obtain ⟨ns, rfl, q⟩ := h
  have hsl : sizeLine = 16777216 := sizeLine_eq
  obtain ⟨n, hn, n1, n2⟩ := modN (c := cellAt ns 0) (m := 12) 1 (by decide)
  have hn : (1 : Int) + cellAt ns 0 % 12 = ((n : Nat) : Int) := hn
  obtain ⟨m, hm, m1, m2⟩ := modN (c := cellAt ns 1) (m := 12) 1 (by decide)
  have hm : (1 : Int) + cellAt ns 1 % 12 = ((m : Nat) : Int) := hm
  obtain ⟨f, hf, f1, f2⟩ := modN (c := cellAt ns 2) (m := 8) 1 (by decide)
  have hf : (1 : Int) + cellAt ns 2 % 8 = ((f : Nat) : Int) := hf
  refine ⟨rfl, ns, 0, rfl, by decide, by show (0 : Int) < 12; decide, rfl, ns, 1, rfl, by decide, by show (0 : Int) < 12; decide, rfl, ns, 2, rfl, by decide, by show (0 : Int) < 8; decide, by show 3 ≤ sizeLine; omega, ?_⟩
  dsimp only [hAdd, hII]
  rw [hn, hm, hf]
  exact q n m f (by omega) (by omega) (by omega) (by omega) (by omega) (by omega)
theorem S_small : FnScope ["_law_script"] ["_law_script"] (defScope s_small) := ⟨rfl, rfl, rfl, by decide +kernel, rfl, by decide +kernel, by decide +kernel⟩
theorem ok_small (T : Txt K mg a d) : FnOk P w K mg base (CXx P w) 3 a.small d.small ["_law_script"] (dSp K 1 (Hl.fSizes)) := by
  have G_sizes : FnOk P w K mg base (CXx P w) 2 a.sizes d.sizes ["_law_script"] (dSp K 1 (Hl.fSizes)) := ok_sizes T
  have G_cell : FnOk P w K mg base (CXx P w) 1 a.cell d.cell ["_law_script", "_law_k"] (dSp K 2 (fCell)) := ok_cell T
  refine dfn T.f_small S_small (fun cdv A outer s H E b hr => ?_)
  have S := S_small
  refine ⟨_, (dss_cons (ds_if (dt_gt (de_mod (de_fdivB (de_call G_cell (hr.mono (by first | decide | omega)) rfl T.g_cell T.f_cell.kp T.b_cell b.pass_ (da_cons (dv 0) (da_cons de_int da_nil))) de_int) de_int) de_int) (dss_one (ds_ret (de_tup (da_cons (de_add de_int (de_mod (de_call G_cell (hr.mono (by first | decide | omega)) rfl T.g_cell T.f_cell.kp T.b_cell b.pass_ (da_cons (dv 0) (da_cons de_int da_nil))) de_int)) (da_cons (de_add de_int (de_mod (de_call G_cell (hr.mono (by first | decide | omega)) rfl T.g_cell T.f_cell.kp T.b_cell b.pass_ (da_cons (dv 0) (da_cons de_int da_nil))) de_int)) (da_cons (de_add de_int (de_mod (de_call G_cell (hr.mono (by first | decide | omega)) rfl T.g_cell T.f_cell.kp T.b_cell b.pass_ (da_cons (dv 0) (da_cons de_int da_nil))) de_int)) da_nil)))))) dss_nil) (dss_one (ds_ret (de_call G_sizes (hr.mono (by first | decide | omega)) rfl T.g_sizes T.f_sizes.kp T.b_sizes b.pass_ (da_cons (dv 0) da_nil))))), fun ds Ex Q hl h => ?_⟩
  obtain ⟨ns, rfl, q⟩ := h
  have hsl : sizeLine = 16777216 := sizeLine_eq
  obtain ⟨n, hn, n1, n2⟩ := modN (c := cellAt ns 0) (m := 4) 1 (by decide)
  have hn : (1 : Int) + cellAt ns 0 % 4 = ((n : Nat) : Int) := hn
  obtain ⟨m, hm, m1, m2⟩ := modN (c := cellAt ns 1) (m := 4) 1 (by decide)
  have hm : (1 : Int) + cellAt ns 1 % 4 = ((m : Nat) : Int) := hm
  obtain ⟨f, hf, f1, f2⟩ := modN (c := cellAt ns 2) (m := 4) 1 (by decide)
  have hf : (1 : Int) + cellAt ns 2 % 4 = ((f : Nat) : Int) := hf
  refine ⟨rfl, ns, 0, rfl, by decide, ⟨by decide, by decide⟩, by show (0 : Int) < 3; decide, ?_⟩
  show if decide (cellAt ns 0 / 12 % 3 > 0) = true then _ else _
  refine ite2 (fun _ => ?_) (fun _ => ?_)
  · refine ⟨rfl, ns, 0, rfl, by decide, by show (0 : Int) < 4; decide, rfl, ns, 1, rfl, by decide, by show (0 : Int) < 4; decide, rfl, ns, 2, rfl, by decide, by show (0 : Int) < 4; decide, by show 3 ≤ sizeLine; omega, ?_⟩
    dsimp only [hAdd, hII]
    rw [hn, hm, hf]
    exact q n m f (by omega) (by omega) (by omega) (by omega) (by omega) (by omega)
  · exact ⟨rfl, ns, rfl, q⟩
theorem S_goes : FnScope ["_law_script", "_law_most"] ["_law_script"] (defScope s_goes) := ⟨rfl, rfl, rfl, by decide +kernel, rfl, by decide +kernel, by decide +kernel⟩
theorem ok_goes (T : Txt K mg a d) : FnOk P w K mg base (CXx P w) 3 a.goes d.goes ["_law_script"] (dSp K 1 (Hl.fGoes)) := by
  have G_large : FnOk P w K mg base (CXx P w) 2 a.large d.large ["_law_script"] (dSp K 1 (fLarge)) := ok_large T
  refine dfn T.f_goes S_goes (fun cdv A outer s H E b hr => ?_)
  have S := S_goes
  refine ⟨_, (dss_cons (ds_set (i := 1) S.nd rfl (Or.inl rfl) de_int) (dss_cons (ds_if (dt_val (de_call G_large (hr.mono (by first | decide | omega)) rfl T.g_large T.f_large.kp T.b_large b.pass_ (da_cons (dv 0) da_nil))) (dss_one (ds_set (i := 1) S.nd rfl (Or.inl rfl) de_int)) dss_nil) (dss_cons (ds_if (dt_gt (de_len rfl T.len (da_cons (dv 0) da_nil)) de_int) (dss_one (ds_set (i := 1) S.nd rfl (Or.inl rfl) de_int)) dss_nil) (dss_one (ds_ret (DF.de (df_cut (dv 0) (dp_some de_int) (dp_some (de_add de_int (dv 1)))))))))), fun ds Ex Q hl h => ?_⟩
  obtain ⟨ns, rfl, hl63, q⟩ := h
  have hsl : sizeLine = 16777216 := sizeLine_eq
  refine seq_key (P := fun e => e = [.sh (.scr ns), .sh (.int 30)]) ?_ ?_
  rotate_left
  · intro key
    exact key _ rfl
  rintro _ rfl
  refine seq_key (P := fun e => ∃ m : Int, e = [.sh (.scr ns), .sh (.int m)]) ?_ ?_
  rotate_left
  · intro key
    refine ⟨rfl, ns, rfl, fun b => ?_⟩
    cases b with
    | false => exact key _ ⟨_, rfl⟩
    | true => exact key _ ⟨_, rfl⟩
  rintro _ ⟨m, rfl⟩
  refine seq_key (P := fun e => ∃ m : Int, e = [.sh (.scr ns), .sh (.int m)]) ?_ ?_
  rotate_left
  · intro key
    show if decide (((ns.length : Nat) : Int) > 63) = true then _ else _
    refine ite2 (fun z => ?_) (fun z => ?_)
    · exact key _ ⟨_, rfl⟩
    · exact key _ ⟨_, rfl⟩
  rintro _ ⟨m', rfl⟩
  exact q _ (Nat.le_trans (cut_len _ _ _) hl63)
theorem S_deed : FnScope ["_law_cell_here", "_law_sizes_here", "_law_known"] ["_law_cell_here", "_law_sizes_here", "_law_known"] (defScope s_deed) := ⟨rfl, rfl, rfl, by decide +kernel, rfl, by decide +kernel, by decide +kernel⟩
theorem ok_deed (T : Txt K mg a d) : FnOk P w K mg base (CXx P w) 2 a.deed d.deed ["_law_cell_here", "_law_sizes_here", "_law_known"] (dSp K 3 (Hl.fDeedG)) := by
  have G_mix : FnOk P w K mg base (CXx P w) 1 a.mix d.mix ["_law_cell_here", "_law_prime", "_law_many"] (dSp K 3 (fMix)) := ok_mix T
  refine dfn T.f_deed S_deed (fun cdv A outer s H E b hr => ?_)
  have S := S_deed
  refine ⟨_, (dss_cons (ds_if (DW.dt (dw_and (dt_truth (dv 2)) (dw_and1 (dt_eq hr.units (de_call G_mix (hr.mono (by first | decide | omega)) rfl T.g_mix T.f_mix.kp T.b_mix b.pass_ (da_cons (dv 0) (da_cons de_int (da_cons de_int da_nil)))) de_int)))) (dss_one (ds_ret (de_tup (da_cons de_str (da_cons (de_at (dv 2) (de_call G_mix (hr.mono (by first | decide | omega)) rfl T.g_mix T.f_mix.kp T.b_mix b.pass_ (da_cons (dv 0) (da_cons de_int (da_cons (de_len rfl T.len (da_cons (dv 2) da_nil)) da_nil))))) da_nil))))) dss_nil) (dss_one (ds_ret (de_tup (da_cons de_str (da_cons (de_call G_mix (hr.mono (by first | decide | omega)) rfl T.g_mix T.f_mix.kp T.b_mix b.pass_ (da_cons (dv 0) (da_cons de_int (da_cons (de_at (dv 1) de_int) da_nil)))) (da_cons (de_call G_mix (hr.mono (by first | decide | omega)) rfl T.g_mix T.f_mix.kp T.b_mix b.pass_ (da_cons (dv 0) (da_cons de_int (da_cons (de_at (dv 1) de_int) da_nil)))) da_nil))))))), fun ds Ex Q hl h => ?_⟩
  obtain ⟨c, n, m, f, ks, rfl, n1, m1, qd, qp⟩ := h
  have hsl : sizeLine = 16777216 := sizeLine_eq
  obtain ⟨i, hi, hi1⟩ := mod0 (c := c * 48271 % 10007) (m := (n : Nat)) (by omega)
  obtain ⟨o, ho, ho1⟩ := mod0 (c := c * 48271 % 9949) (m := (m : Nat)) (by omega)
  have put : (gRet
      (gTupD
        (gaCons (gC (D.str (Str.ofString "put")))
          (gaCons
            (gCall (fun ds Ex Q => ds.length = 3 ∧ fMix ds Ex Q)
              (gaCons (gVar 0) (gaCons (gC (D.int 10007)) (gaCons (gOp hIx (gVar 1) (gC (D.int 0))) gaNil))))
            (gaCons
              (gCall (fun ds Ex Q => ds.length = 3 ∧ fMix ds Ex Q)
                (gaCons (gVar 0) (gaCons (gC (D.int 9949)) (gaCons (gOp hIx (gVar 1) (gC (D.int 1))) gaNil))))
              gaNil)))))
    (retEnds Q) Ex
    (startD [Str.ofString "_law_cell_here", Str.ofString "_law_sizes_here", Str.ofString "_law_known"] [.int c, .tup [.int (n : Nat), .int (m : Nat), .int (f : Nat)], .lst (ks.map fun k => .int (k : Nat))]) := by
    refine ⟨.int (n : Nat), atI_nat (j := 0) rfl, rfl, c, 10007, (n : Nat), rfl, by decide, by omega, .int (m : Nat), atI_nat (j := 1) rfl, rfl, c, 9949, (m : Nat), rfl, by decide, by omega, by show 3 ≤ sizeLine; omega, ?_⟩
    rw [hi, ho]
    exact qp i o (by omega) (by omega)
  show if (!(ks.map fun k => D.int (k : Nat)).isEmpty) = true then _ else _
  refine ite2 (fun z => ?_) (fun z => ?_)
  · have lk : 0 < ks.length := by
      cases ks with
      | nil => cases z
      | cons k ks => exact Nat.succ_pos _
    refine ⟨rfl, c, 9973, 4, rfl, by decide, by decide, ?_⟩
    show if _ = true then _ else _
    refine ite2 (fun _ => ?_) (fun _ => put)
    obtain ⟨j, hj, hj1⟩ := mod0 (c := c * 48271 % 9967) (m := (ks.length : Nat)) (by omega)
    obtain ⟨k, hk⟩ : ∃ k, ks[j]? = some k := ⟨_, List.getElem?_eq_getElem (by omega)⟩
    refine ⟨rfl, c, 9967, (ks.length : Nat), by show [D.int c, D.int 9967, D.int (((ks.map fun k => D.int (k : Nat)).length : Nat) : Int)] = _; rw [List.length_map], by decide, by omega, ?_⟩
    rw [hj]
    exact ⟨_, atI_nat (by rw [List.getElem?_map, hk]; rfl), by show 2 ≤ sizeLine; omega, qd k (List.mem_of_getElem? hk)⟩
  · exact put
theorem S_lput : FnScope ["_law_hall", "_law_inlet", "_law_outlet"] ["_law_hall", "_law_inlet", "_law_outlet"] (defScope s_lput) := ⟨rfl, rfl, rfl, by decide +kernel, rfl, by decide +kernel, by decide +kernel⟩
theorem ok_lput (T : Txt K mg a d) : FnOk P w K mg base (CXx P w) 5 a.lput d.lput ["_law_hall", "_law_inlet", "_law_outlet"] (Hl.spPutL a.h) := by
  have GP : FnOk P w K mg base (CXx P w) 4 a.put d.put ["self", "inlet", "outlet"] (Hl.spPut K a.h) := Hl.ok_put T.h
  refine T.f_lput.okX S_lput (fun vs H Q E h => ?_) (fun X cdv A outer s H vs Q E hX b hr h => ?_)
  · obtain ⟨g, cs, nx, i, o, rfl, _⟩ := h
    rfl
  · subst hX
    obtain ⟨g, cs, nx, i, o, rfl, hG, h63, hi, ho, qb, qn⟩ := h
    obtain ⟨dx, ob⟩ := hG.ob
    refine ⟨_, pss_one (ps_try0 b rfl T.g_busy (fun pins EB => pss_one (ps_ret (pe_meth (pv 0) T.cls T.m_put GP hr T.b_put .nil (try_pass b (fun _ _ _ h => h)) (pa_cons (pv 1) (pa_cons (pv 2) pa_nil))))) (fun e => pss_one (ps_ret pe_non))), ?_⟩
    have inN : ∀ (k n : Nat), k < n → Hl.inB (.int (k : Nat)) 0 ((n : Int) - 1) = true := fun k n h => by
      show (decide ((0 : Int) ≤ (k : Nat)) && decide (((k : Nat) : Int) ≤ (n : Int) - 1)) = true
      rw [decide_eq_true (by omega), decide_eq_true (by omega)]
      rfl
    refine ⟨_, rfl, g.p, dx, _, rfl, ob, Hl.flds_put _ _ _ _, _, rfl, _, rfl, g, cs, nx, .int (i : Nat), .int (o : Nat), _, _, rfl, hG, h63, .int _, .int _, (fun z => by rw [inN i g.N hi] at z; cases z), (fun z => by rw [inN o g.M ho] at z; cases z), fun i' o' ei eo _ _ => ?_⟩
    have ei : i = i' := by injection ei with z; omega
    have eo : o = o' := by injection eo with z; omega
    subst ei eo
    refine ⟨fun bz => ⟨T.eYY, qb bz H (Same.refl _)⟩, fun n1 n2 => qn fun z => z.elim n1 n2⟩
theorem S_loads : FnScope ["_law_book", "_law_inlet", "_law_outlet", "_law_ins"] ["_law_book", "_law_inlet", "_law_outlet"] (defScope s_loads) := ⟨rfl, rfl, rfl, by decide +kernel, rfl, by decide +kernel, by decide +kernel⟩
theorem ok_loads (T : Txt K mg a d) : FnOk P w K mg base (CXx P w) 1 a.loads d.loads ["_law_book", "_law_inlet", "_law_outlet"] (dSp K 3 (Hl.fLoads)) := by
  refine dfn T.f_loads S_loads (fun cdv A outer s H E b hr => ?_)
  have S := S_loads
  refine ⟨_, (dss_cons (ds_set (i := 3) S.nd rfl (Or.inl rfl) (de_len rfl T.len (da_cons (DF.de (df_comp rfl (di_list (dv 0)) (compT (cl := [("_law_inlet", _)]) (tn := ["_law_one_here"]) (fn := ["_law_inlet"]) (fv := [1]) rfl (by decide +kernel) (by decide +kernel) rfl (by repeat' (first | exact trivial | refine ⟨(fun _ => ⟨_, rfl⟩), ?_⟩ | refine ⟨(fun z => by cases z), ?_⟩)) (.cons (y := "_law_inlet") (k := 1) .nil rfl rfl (.inr (.inl rfl)) rfl rfl)) (fun _ _ _ _ _ => pg_name (i := 0) (show (["_law_one_here", "_law_inlet"] : List Str).Nodup by decide +kernel) rfl (Or.inl rfl)) ub_name (fun _ _ _ _ _ => (difs_one (dt_eq hr.units (de_at (dv 0) de_int) (dv 1)))) (fun _ _ _ _ _ => de_int))) da_nil))) (dss_one (ds_ret (de_tup (da_cons (dv 3) (da_cons (de_len rfl T.len (da_cons (DF.de (df_comp rfl (di_list (dv 0)) (compT (cl := [("_law_outlet", _)]) (tn := ["_law_one_here"]) (fn := ["_law_outlet"]) (fv := [2]) rfl (by decide +kernel) (by decide +kernel) rfl (by repeat' (first | exact trivial | refine ⟨(fun _ => ⟨_, rfl⟩), ?_⟩ | refine ⟨(fun z => by cases z), ?_⟩)) (.cons (y := "_law_outlet") (k := 2) .nil rfl rfl (.inr (.inl rfl)) rfl rfl)) (fun _ _ _ _ _ => pg_name (i := 0) (show (["_law_one_here", "_law_outlet"] : List Str).Nodup by decide +kernel) rfl (Or.inl rfl)) ub_name (fun _ _ _ _ _ => (difs_one (dt_eq hr.units (de_at (dv 0) de_int) (dv 1)))) (fun _ _ _ _ _ => de_int))) da_nil)) da_nil)))))), fun ds Ex Q hl h => ?_⟩
  obtain ⟨bk, i, o, rfl, hl, q⟩ := h
  have hsl : sizeLine = 16777216 := sizeLine_eq
  refine ⟨by rw [List.length_map]; omega, (fun d => match d with | .tup [_, .int x, _] => decide (x = ((i : Nat) : Int)) | _ => false), (fun _ => .int 1), fun y hy => ?_, ?_⟩
  · obtain ⟨c, _, rfl⟩ := List.mem_map.mp hy
    exact ⟨_, rfl, .int (c.i : Nat), atI_nat (j := 1) rfl, rfl, fun _ => rfl⟩
  refine ⟨by rw [List.length_map]; omega, (fun d => match d with | .tup [_, _, .int x] => decide (x = ((o : Nat) : Int)) | _ => false), (fun _ => .int 1), fun y hy => ?_, ?_⟩
  · obtain ⟨c, _, rfl⟩ := List.mem_map.mp hy
    exact ⟨_, rfl, .int (c.o : Nat), atI_nat (j := 2) rfl, rfl, fun _ => rfl⟩
  refine ⟨by show 2 ≤ sizeLine; omega, ?_⟩
  rw [List.length_map, List.length_map, List.filter_map, List.filter_map, List.length_map, List.length_map]
  have e1 : (bk.filter ((fun d => match d with | .tup [_, .int x, _] => decide (x = ((i : Nat) : Int)) | _ => false) ∘ Hl.triD)) = bk.filter fun c => decide (c.i = i) := List.filter_congr fun c _ => by
    show decide (((c.i : Nat) : Int) = ((i : Nat) : Int)) = decide (c.i = i)
    exact decide_eq_decide.mpr (by omega)
  have e2 : (bk.filter ((fun d => match d with | .tup [_, _, .int x] => decide (x = ((o : Nat) : Int)) | _ => false) ∘ Hl.triD)) = bk.filter fun c => decide (c.o = o) := List.filter_congr fun c _ => by
    show decide (((c.o : Nat) : Int) = ((o : Nat) : Int)) = decide (c.o = o)
    exact decide_eq_decide.mpr (by omega)
  rw [e1, e2]
  exact q
theorem S_good : FnScope ["_law_told", "_law_book", "_law_frames", "_law_ends", "_law_one_here"] ["_law_told", "_law_book", "_law_frames"] (defScope s_good) := ⟨rfl, rfl, rfl, by decide +kernel, rfl, by decide +kernel, by decide +kernel⟩
theorem ok_good (T : Txt K mg a d) : FnOk P w K mg base (CXx P w) 2 a.good d.good ["_law_told", "_law_book", "_law_frames"] (dSp K 3 (Hl.fGood2)) := by
  have G_lwhole : FnOk P w K mg base (CXx P w) 1 a.lwhole d.lwhole ["_law_found"] (dSp K 1 (fWhole)) := ok_lwhole T
  refine dfn T.f_good S_good (fun cdv A outer s H E b hr => ?_)
  have S := S_good
  refine ⟨_, (dss_cons (ds_if (DW.dt (dw_or (dt_not (dt_val (de_isi .list rfl rfl T.isi rfl T.list_ (dv 0)))) (dw_or1 (dt_ne hr.units (DF.de (df_compM rfl (di_list (dv 0)) (compT (cl := []) (tn := ["_law_one_here"]) (fn := []) (fv := []) rfl (by decide +kernel) (by decide +kernel) rfl (by repeat' (first | exact trivial | refine ⟨(fun _ => ⟨_, rfl⟩), ?_⟩ | refine ⟨(fun z => by cases z), ?_⟩)) .nil) (fun _ _ _ _ _ => pg_name (i := 0) (show (["_law_one_here"] : List Str).Nodup by decide +kernel) rfl (Or.inl rfl)) ub_name (fun _ _ _ _ _ => (Hl.de_cutT (dv 0) dp_none (dp_some de_int))))) (dv 1))))) (dss_one (ds_ret de_bl)) dss_nil) (dss_cons (ds_set (i := 3) S.nd rfl (Or.inl rfl) (DF.de (df_lst da_nil))) (dss_cons (ds_loop b (ds_for (loop_passes b) rfl (di_list (dv 0)) (dg_name (i := 4) S.nd rfl (Or.inl rfl)) (dss_cons (ds_if (DW.dt (dw_or (dt_not (dt_val (de_isi .tuple rfl rfl T.isi rfl T.tuple_ (dv 4)))) (dw_or (dt_ne hr.units (de_len rfl T.len (da_cons (dv 4) da_nil)) de_int) (dw_or (dt_not (dt_val (de_call G_lwhole (hr.mono (by first | decide | omega)) rfl T.g_lwhole T.f_lwhole.kp T.b_lwhole (loop_pass b) (da_cons (de_at (dv 4) de_int) da_nil)))) (dw_or1 (dt_not (dt_lelt de_int (de_at (dv 4) de_int) (dv 2)))))))) (dss_one (ds_ret de_bl)) dss_nil) (dss_one (ds_set (i := 3) S.nd rfl (Or.inl rfl) (DF.de (df_cat (dv 3) (DF.de (df_lst (da_cons (de_tup (da_cons de_str (da_cons (de_at (dv 4) de_int) (da_cons (de_at (dv 4) de_int) da_nil)))) (da_cons (de_tup (da_cons de_str (da_cons (de_at (dv 4) de_int) (da_cons (de_at (dv 4) de_int) da_nil)))) da_nil))))))))))) (dss_one (ds_ret (de_eq hr.units (de_lenSet rfl hr.units rfl T.len rfl T.set_ (da_cons (dv 3) da_nil)) (de_len rfl T.len (da_cons (dv 3) da_nil)))))))), fun ds Ex Q hl h => ?_⟩
  obtain ⟨lc, bk, F, rfl, het, hf, ni, no, h63, q⟩ := h
  have hsl : sizeLine = 16777216 := sizeLine_eq
  refine ⟨by rw [List.length_map]; omega, Hl.cut3, fun y hy => ?_, ?_⟩
  · obtain ⟨c, _, rfl⟩ := List.mem_map.mp hy
    exact ⟨_, rfl, (show ¬ (HT.sIx 4 0 none = 0 ∧ HT.sIx 4 4 (some 3) = 4) by decide), rfl⟩
  rw [Hl.cut3_calls, het]
  have gm := Hl.same_tri bk
  refine ⟨gm.1, gm.2.1, gm.2.2.1, gm.2.2.2, ?_⟩
  rw [eqDs_refl _ gm.1]
  refine ⟨by show 0 ≤ sizeLine; omega, ?_⟩
  refine ⟨fun k env => ∃ s4, env = [.sh (.lst (lc.map Hl.callD)), .sh (.lst (bk.map Hl.triD)), .sh (.int (F : Nat)), .sh (.lst (((lc.take k).flatMap Hl.endsOf).map triTup)), s4], ⟨_, rfl⟩, ?_, ?_⟩
  · rintro k dd env hd ⟨s4, rfl⟩
    rw [List.getElem?_map] at hd
    cases hk : lc[k]? with
    | none => rw [hk] at hd; cases hd
    | some c =>
    rw [hk] at hd
    cases hd
    have cf := hf c (List.mem_of_getElem? hk)
    refine ⟨.int (c.f : Nat), atI_nat (j := 3) rfl, rfl, _, rfl, rfl, .int (c.f : Nat), atI_nat (j := 3) rfl, ?_⟩
    show if (!decide (((c.f : Nat) : Int) < ((F : Nat) : Int))) = true then _ else _
    rw [if_neg (by rw [decide_eq_true (by omega)]; decide)]
    refine ⟨.int (c.i : Nat), atI_nat (j := 1) rfl, .int (c.f : Nat), atI_nat (j := 3) rfl, by show 3 ≤ sizeLine; omega, .int (c.o : Nat), atI_nat (j := 2) rfl, .int (c.f : Nat), atI_nat (j := 3) rfl, by show 3 ≤ sizeLine; omega, by show 2 ≤ sizeLine; omega, ?_, .sh (Hl.callD c), ?_⟩
    · have h1 := Hl.ends_len (lc.take k)
      have h2 : (lc.take k).length ≤ 63 := by rw [List.length_take]; omega
      show (((lc.take k).flatMap Hl.endsOf).map triTup).length + 2 ≤ sizeLine
      rw [List.length_map]
      omega
    · rw [Hl.ends_take hk, List.map_append]
      rfl
  · rintro env ⟨s4, rfl⟩
    rw [List.length_map, List.take_length]
    refine ⟨lc.flatMap Hl.endsOf, rfl, Hl.ends_nodup ni no, by rw [Hl.ends_len]; omega, ?_⟩
    show retEnds Q |>.rt (.bl (decide ((((lc.flatMap Hl.endsOf).length : Nat) : Int) = (((((lc.flatMap Hl.endsOf).map triTup).length : Nat) : Int)))))
    rw [List.length_map, decide_eq_true rfl]
    exact q
theorem ok_lin (T : Txt K mg a d) : FnOk P w K mg base (CXx P w) 4 a.lin d.lin ["self", "inlet"] (Hl.spLd a.h Hl.Call.i Hl.Geo.N) := by
  have GE : FnOk P w K mg base (CXx P w) 3 a.endAt d.endAt ["ends", "place"] (Hl.spEnd K a.noEnd) := Hl.ok_end T.h
  have GL : FnOk P w K mg base (CXx P w) 1 a.load d.load ["end"] (Hl.spLoad K) := Hl.ok_load T.h
  have SL : FnScope ["self", "inlet"] ["self", "inlet"] (defScope Hl.sLoadIn) := ⟨rfl, rfl, rfl, by decide +kernel, rfl, by decide +kernel, by decide +kernel⟩
  refine T.f_lin.okX SL (fun vs H Q E h => ?_) (fun X cdv A outer s H vs Q E hX b hr h => ?_)
  · obtain ⟨g, cs, nx, i, rfl, _⟩ := h
    rfl
  · subst hX
    obtain ⟨g, cs, nx, i, rfl, hG, hi, q⟩ := h
    have hr1 : Room 1 _ := hr.mono (by decide)
    obtain ⟨ri, ro, es, hA, hE, hP, lI, lO, hI, hO⟩ := hG.core
    obtain ⟨dx, ob⟩ := hA.ob
    have lia : (g.ia.map V.ref).length = g.N := by rw [List.length_map, hA.ri.1, lI]
    refine ⟨_, pss_one (ps_ret (pe_call GL hr1 rfl T.g_load T.f_load.kp T.b_load .nil pass0x (pa_cons (pe_call GE hr rfl T.g_endAt T.f_endAt.kp T.b_endAt .nil b.pass_ (pa_cons (pe_fld (pv 0) rfl) (pa_cons (pv 1) pa_nil))) pa_nil))), ?_⟩
    refine ⟨_, rfl, g.p, a.hall, dx, _, _, rfl, ob, T.cls, T.nI, Hl.flds_I _ _ _ _, _, rfl, g.I, _, .int (i : Nat), _, rfl, SqL.of hA.li, .int _, fun i' y hv hy => ?_, fun hb => ?_⟩
    · have ei : i = i' := by injection hv with z; omega
      subst ei
      rw [List.getElem?_map] at hy
      cases ex : g.ia[i]? with
      | none => rw [ex] at hy; cases hy
      | some xi =>
        rw [ex] at hy
        cases Option.some.inj hy
        obtain ⟨_, _, _, _, _, r, er, hx⟩ := hA.nei ex
        have row := hI i r er
        refine ⟨xi, r, rfl, SqL.of hx, row.flat, ?_⟩
        rw [Hl.row_load row hG.good.ui hG.good.nodup hG.good.bf]
        exact q
    · rw [lia] at hb
      have hb : (decide ((0 : Int) ≤ (i : Nat)) && decide (((i : Nat) : Int) ≤ (g.N : Int) - 1)) = false := hb
      have hi : i < g.N := hi
      rw [decide_eq_true (by omega), decide_eq_true (by omega)] at hb
      cases hb
theorem ok_lout (T : Txt K mg a d) : FnOk P w K mg base (CXx P w) 4 a.lout d.lout ["self", "outlet"] (Hl.spLd a.h Hl.Call.o Hl.Geo.M) := by
  have GE : FnOk P w K mg base (CXx P w) 3 a.endAt d.endAt ["ends", "place"] (Hl.spEnd K a.noEnd) := Hl.ok_end T.h
  have GL : FnOk P w K mg base (CXx P w) 1 a.load d.load ["end"] (Hl.spLoad K) := Hl.ok_load T.h
  have SL : FnScope ["self", "outlet"] ["self", "outlet"] (defScope Hl.sLoadOut) := ⟨rfl, rfl, rfl, by decide +kernel, rfl, by decide +kernel, by decide +kernel⟩
  refine T.f_lout.okX SL (fun vs H Q E h => ?_) (fun X cdv A outer s H vs Q E hX b hr h => ?_)
  · obtain ⟨g, cs, nx, i, rfl, _⟩ := h
    rfl
  · subst hX
    obtain ⟨g, cs, nx, i, rfl, hG, hi, q⟩ := h
    have hr1 : Room 1 _ := hr.mono (by decide)
    obtain ⟨ri, ro, es, hA, hE, hP, lI, lO, hI, hO⟩ := hG.core
    obtain ⟨dx, ob⟩ := hA.ob
    have loa : (g.oa.map V.ref).length = g.M := by rw [List.length_map, hA.ro.1, lO]
    refine ⟨_, pss_one (ps_ret (pe_call GL hr1 rfl T.g_load T.f_load.kp T.b_load .nil pass0x (pa_cons (pe_call GE hr rfl T.g_endAt T.f_endAt.kp T.b_endAt .nil b.pass_ (pa_cons (pe_fld (pv 0) rfl) (pa_cons (pv 1) pa_nil))) pa_nil))), ?_⟩
    refine ⟨_, rfl, g.p, a.hall, dx, _, _, rfl, ob, T.cls, T.nO, Hl.flds_O _ _ _ _, _, rfl, g.O, _, .int (i : Nat), _, rfl, SqL.of hA.lo, .int _, fun i' y hv hy => ?_, fun hb => ?_⟩
    · have ei : i = i' := by injection hv with z; omega
      subst ei
      rw [List.getElem?_map] at hy
      cases ex : g.oa[i]? with
      | none => rw [ex] at hy; cases hy
      | some xi =>
        rw [ex] at hy
        cases Option.some.inj hy
        obtain ⟨_, _, _, _, _, r, er, hx⟩ := hA.neo ex
        have row := hO i r er
        refine ⟨xi, r, rfl, SqL.of hx, row.flat, ?_⟩
        rw [Hl.row_load row hG.good.uo hG.good.nodup hG.good.bf]
        exact q
    · rw [loa] at hb
      have hb : (decide ((0 : Int) ≤ (i : Nat)) && decide (((i : Nat) : Int) ≤ (g.M : Int) - 1)) = false := hb
      have hi : i < g.M := hi
      rw [decide_eq_true (by omega), decide_eq_true (by omega)] at hb
      cases hb
theorem SO_one : FnScope ["_law_hall", "_law_book", "_law_inlet", "_law_outlet", "_law_frames", "_law_given", "_law_found"] ["_law_hall", "_law_book", "_law_inlet", "_law_outlet", "_law_frames", "_law_given"] (defScope s_one) := ⟨rfl, rfl, rfl, by decide +kernel, rfl, by decide +kernel, by decide +kernel⟩
theorem ok_one (T : Txt K mg a d) : FnOk P w K mg base (CXx P w) 6 a.one d.one ["_law_hall", "_law_book", "_law_inlet", "_law_outlet", "_law_frames", "_law_given"] (Hl.spOne K a.h) := by
  have G_lput : FnOk P w K mg base (CXx P w) 5 a.lput d.lput ["_law_hall", "_law_inlet", "_law_outlet"] (Hl.spPutL a.h) := ok_lput T
  have G_loads : FnOk P w K mg base (CXx P w) 1 a.loads d.loads ["_law_book", "_law_inlet", "_law_outlet"] (dSp K 3 (Hl.fLoads)) := ok_loads T
  have G_lwhole : FnOk P w K mg base (CXx P w) 1 a.lwhole d.lwhole ["_law_found"] (dSp K 1 (fWhole)) := ok_lwhole T
  have S := SO_one
  refine T.f_one.okX SO_one (fun vs H Q E h => ?_) (fun X cdv A outer s H vs Q E hX b hr h => ?_)
  · obtain ⟨g, cs, nx, i, o, B, xs, bk, rfl, _⟩ := h
    rfl
  · subst hX
    obtain ⟨g, cs, nx, i, o, B, xs, bk, rfl, hG, h63, hi, ho, nB, hB, rB, tl, qb, qn⟩ := h
    have hsl : sizeLine = 16777216 := sizeLine_eq
    refine ⟨_, pss_cons (ps_set (i := 6) S.nd rfl (Or.inl rfl) (pe_call G_lput (hr.mono (by decide)) rfl T.g_lput T.f_lput.kp T.b_lput .nil b.pass_ (pa_cons (pv 0) (pa_cons (pv 2) (pa_cons (pv 3) pa_nil)))))
      (pss_cons (ps_if (DT.h (dt_cmp op_in_seq Hl.od_inT (dv 4) (de_call G_loads (hr.mono (by first | decide | omega)) rfl T.g_loads T.f_loads.kp T.b_loads b.pass_ (da_cons (dv 1) (da_cons (dv 2) (da_cons (dv 3) da_nil)))) rfl)) (pss_one (ps_ret (pe_cmpR op_isN (pv 6) pe_non (nomark _)))) pss_nil)
      (pss_cons (ps_if (DT.h (DW.dt (dw_or (dt_not (dt_val (de_isi .tuple rfl rfl T.isi rfl T.tuple_ (dv 6)))) (dw_or (dt_ne hr.units (de_len rfl T.len (da_cons (dv 6) da_nil)) de_int) (dw_or (dt_not (dt_val (de_call G_lwhole (hr.mono (by first | decide | omega)) rfl T.g_lwhole T.f_lwhole.kp T.b_lwhole b.pass_ (da_cons (de_at (dv 6) de_int) da_nil)))) (dw_or1 (dt_ne hr.units (de_at (dv 6) de_int) (dv 5)))))))) (pss_one (ps_ret (DE.h (E := E) de_bl))) pss_nil)
      (pss_cons (ps_expr (pe_bm PySem.F.plainAttrs_list PySem.F.slot_list_append PySem.F.type_list_append mt_append (pv 1) (pa_cons (pe_tup (pa_cons (pv 5) (pa_cons (pv 2) (pa_cons (pv 3) pa_nil)))) pa_nil)))
      (pss_one (ps_ret (DE.h (de_eq hr.units (de_at (dv 6) de_int) (de_at (de_at (DF.de (Hl.df_callsG (i := 0) T.h (Hl.ok_calls T.h) rfl (Or.inl rfl) (hr.mono (by first | decide | omega)) b.pass_)) (de_neg de_int)) de_int)))))))), ?_⟩
    have bk64 : bk.length ≤ 100 := by have := tl.len; omega
    obtain ⟨Bz, hBz⟩ : ∃ Bz, Bz = ([D.int (Hl.ldS Hl.Call.i bk i : Nat), D.int (Hl.ldS Hl.Call.o bk o : Nat)].any fun y => eqD y (.int (g.F : Nat))) := ⟨_, rfl⟩
    have eB : Bz = (decide (((Hl.ldS Hl.Call.i bk i : Nat) : Int) = ((g.F : Nat) : Int)) || (decide (((Hl.ldS Hl.Call.o bk o : Nat) : Int) = ((g.F : Nat) : Int)) || false)) := hBz
    refine ⟨_, rfl, _, rfl, _, rfl, g, cs, nx, i, o, rfl, hG, h63, hi, ho, fun bz H1 sm => ?_, fun nbz f l cs' L t H1 po hG1 kp hL hL1 ht ht1 nLt => ?_⟩
    · have Bt : Bz = true := by
        rw [eB]
        rcases bz with z | z
        · rw [tl.ldi] at z
          rw [decide_eq_true (by omega)]
          rfl
        · rw [tl.ldo] at z
          rw [decide_eq_true (p := ((Hl.ldS Hl.Call.o bk o : Nat) : Int) = ((g.F : Nat) : Int)) (by omega), Bool.true_or, Bool.or_true]
      refine ⟨H1, [.un, .sh (.lst (bk.map Hl.triD)), .sh (.int (i : Nat)), .sh (.int (o : Nat)), .sh (.int (g.F : Nat)), .sh (.int (nx : Nat)), .sh .non], fun _ => False, fun bb => bb = true, Same.refl _, Hl.slots_sh ⟨trivial, ⟨_, rfl, B, xs, rfl, sm _ _ hB, Reps.mono sm _ rB⟩, ⟨_, rfl, rfl⟩, ⟨_, rfl, rfl⟩, ⟨_, rfl, rfl⟩, ⟨_, rfl, rfl⟩, ⟨_, rfl, rfl⟩, trivial⟩, fun _ z => z.elim, ⟨rfl, bk, i, o, rfl, bk64, rfl, _, rfl, rfl, ?_⟩, fun bb F2 H2 hb g2 => ?_⟩
      · exact hBz.symm.trans Bt
      · subst hb
        rw [if_pos rfl]
        exact ⟨_, rfl, rfl, qb bz H2 (sm.trans g2.hh)⟩
    · obtain ⟨ms, hms⟩ : ∃ ms : List Int, ms = srt (l.map fun c => (c.n : Int)) := ⟨_, rfl⟩
      rw [← hms] at hL1
      have Bf : Bz = false := by
        rw [eB, decide_eq_false fun y => nbz (.inl (by rw [tl.ldi]; omega)), decide_eq_false fun y => nbz (.inr (by rw [tl.ldo]; omega))]
        rfl
      have hB1 : H1 B = some (.lst xs) := kp _ _ hB fun m => nB (Hl.own_all m)
      have rB1 : Reps K H1 (bk.map Hl.triD) xs := Hl.book_kept kp hG rB
      have rT : Rep K H1 (.tup [.int (nx : Nat), .int (f : Nat), .lst (ms.map D.int)]) (.ref t) := ⟨t, _, rfl, ht1, Reps.cons rfl (Reps.cons rfl (Reps.cons ⟨L, _, rfl, hL1, Reps.ints _⟩ Reps.nil))⟩
      refine ⟨H1, [.un, .sh (.lst (bk.map Hl.triD)), .sh (.int (i : Nat)), .sh (.int (o : Nat)), .sh (.int (g.F : Nat)), .sh (.int (nx : Nat)), .sh (.tup [.int (nx : Nat), .int (f : Nat), .lst (ms.map D.int)])], fun _ => False, fun bb => bb = false, Same.refl _, Hl.slots_sh ⟨trivial, ⟨_, rfl, B, xs, rfl, hB1, rB1⟩, ⟨_, rfl, rfl⟩, ⟨_, rfl, rfl⟩, ⟨_, rfl, rfl⟩, ⟨_, rfl, rfl⟩, ⟨_, rfl, rT⟩, trivial⟩, fun _ z => z.elim, ⟨rfl, bk, i, o, rfl, bk64, rfl, _, rfl, rfl, ?_⟩, fun bb F2 H2 hb g2 => ?_⟩
      · exact hBz.symm.trans Bf
      subst hb
      rw [if_neg (by decide)]
      have s2 := g2.hh
      refine ⟨H2, [.un, .un, .un, .un, .un, .sh (.int (nx : Nat)), .sh (.tup [.int (nx : Nat), .int (f : Nat), .lst (ms.map D.int)])], fun _ => False, fun bb => bb = false, Same.refl _, Hl.slots_sh ⟨trivial, trivial, trivial, trivial, trivial, ⟨_, rfl, rfl⟩, ⟨_, rfl, Rep.mono s2 _ rT⟩, trivial⟩, fun _ z => z.elim, ?_, fun bb F3 H3 hb g3 => ?_⟩
      · refine ⟨.int (nx : Nat), atI_nat (j := 0) rfl, rfl, _, rfl, rfl, .int (nx : Nat), atI_nat (j := 0) rfl, ?_⟩
        show (!decide (((nx : Nat) : Int) = ((nx : Nat) : Int))) = false
        rw [decide_eq_true rfl]
        rfl
      subst hb
      rw [if_neg (by decide)]
      have s3 := s2.trans g3.hh
      have hB3 := s3 _ _ hB1
      have bx : xs.length = bk.length := by have := rB.length; rwa [List.length_map] at this
      refine ⟨_, rfl, .inl ⟨rfl, xs, SqL.of hB3⟩, _, rfl, _, rfl, _, rfl, by show 3 ≤ sizeLine; omega, fun tt htt => ?_⟩
      have nBt : B ≠ tt := ne_of_none hB3 htt
      refine ⟨B, xs, .ref tt, rfl, rfl, by rw [upd_ne nBt]; exact hB3, by omega, ?_⟩
      obtain ⟨H5, eH5⟩ : ∃ H5, H5 = upd (upd H3 tt (.tup [.int (nx : Nat), .int (i : Nat), .int (o : Nat)])) B (.lst (xs ++ [.ref tt])) := ⟨_, rfl⟩
      rw [← eH5]
      have k5 : ∀ b u, H3 b = some u → b ≠ B → H5 b = some u := fun b u z n => by
        rw [eH5, upd_ne n, upd_ne (ne_of_none z htt)]
        exact z
      have hG5 : Hl.HallG a.hall H5 g (⟨nx, i, o, f⟩ :: cs') (nx + 1) := by
        rw [eH5]
        exact ((hG1.same s3).same (Hl.same_new htt)).off nB fun ys z => by rw [upd_ne nBt, hB3] at z; cases z
      have nLB : L ≠ B := ne_of_none hB hL |>.symm
      have ntB : t ≠ B := ne_of_none hB ht |>.symm
      have hL5 : H5 L = some (.lst (ms.map V.int)) := k5 _ _ (s3 _ _ hL1) nLB
      have ht5 : H5 t = some (.tup [.int (nx : Nat), .int (f : Nat), .ref L]) := k5 _ _ (s3 _ _ ht1) ntB
      obtain ⟨F5, eF5⟩ : ∃ F5 : Hp, F5 = lays (fun _ => none) H5 [t, L] := ⟨_, rfl⟩
      have sF : Same F5 H5 := by rw [eF5]; exact lays_sub fun b u z => nomatch z
      have rT5 : Rep K F5 (.tup [.int (nx : Nat), .int (f : Nat), .lst (ms.map D.int)]) (.ref t) := ⟨t, _, rfl, by rw [eF5, lays_in List.mem_cons_self]; exact ht5, Reps.cons rfl (Reps.cons rfl (Reps.cons ⟨L, _, rfl, by rw [eF5, lays_in (List.mem_cons_of_mem _ List.mem_cons_self)]; exact hL5, Reps.ints _⟩ Reps.nil))⟩
      have fA : ∀ b ∈ g.all, F5 b = none := fun b m => by
        rw [eF5, lays_out]
        intro z
        rcases List.mem_cons.mp z with rfl | z
        · exact hG.newA ht m
        · rw [List.mem_singleton.mp z] at m; exact hG.newA hL m
      have sl5 : Slots K F5 H5 _ _ := (Hl.slots_sh (K := K) (F := F5) (H := H5) (σ := [some (.ref g.p), some (.ref B), some (.int (i : Nat)), some (.int (o : Nat)), some (.int (g.F : Nat)), some (.int (nx : Nat)), some (.ref t)]) (env := [.un, .un, .un, .un, .un, .un, .sh (.tup [.int (nx : Nat), .int (f : Nat), .lst (ms.map D.int)])]) ⟨trivial, trivial, trivial, trivial, trivial, trivial, ⟨_, rfl, rT5⟩, trivial⟩).set (i := 0) (Hl.hall_ok hG5 fA) fun _ j tt' c nj q' ot hc z => by
        match j, q' with
        | 0, _ => exact nj rfl
        | 1, q' => cases q'; cases ot
        | 2, q' => cases q'; cases ot
        | 3, q' => cases q'; cases ot
        | 4, q' => cases q'; cases ot
        | 5, q' => cases q'; cases ot
        | 6, q' => cases q'; cases ot
        | j + 7, q' => cases q'
      have ltN : ∀ c ∈ cs', c.n < nx := fun c hc => by
        have h1 := hG5.lt c (List.mem_cons_of_mem _ hc)
        have h2 := (List.nodup_cons.mp hG5.good.nd).1
        have h3 : c.n ≠ nx := fun z => h2 (List.mem_map.mpr ⟨c, hc, z⟩)
        omega
      have l5 : (⟨nx, i, o, f⟩ :: cs' : List Hl.Call).length < 64 := by have := hG5.len; omega
      refine ⟨F5, _, fun _ => False, fun dd => dd = .bl true, sF, sl5, fun _ z => z.elim, ⟨.int (f : Nat), atI_nat (j := 1) rfl, g, _, _, rfl, l5, fun _ _ lc pm rs => ?_⟩, fun dd v F6 H6 hd g6 r6 => ?_⟩
      · obtain ⟨pre, rfl⟩ := Hl.last_new pm rs ltN
        refine ⟨Hl.callD ⟨nx, i, o, f⟩, by rw [List.map_append]; exact atI_last _ _, .int (f : Nat), atI_nat (j := 3) rfl, ?_⟩
        show D.bl (decide (((f : Nat) : Int) = ((f : Nat) : Int))) = .bl true
        rw [decide_eq_true rfl]
      · subst hd
        cases (show v = _ from r6)
        have s6 := g6.hh
        refine qn nbz f l cs' tt H6 po (hG5.same s6) (fun b u z n1 n2 => s6 _ _ (k5 _ _ (s3 _ _ (kp _ _ z n1)) n2)) ?_ (s6 _ _ ?_) (s6 _ _ ?_)
        · cases z : H tt with
          | none => rfl
          | some u =>
            by_cases m : tt ∈ g.own
            · obtain ⟨u', hu', _⟩ := (hG1.same s3).there tt (Hl.own_all m)
              rw [htt] at hu'
              cases hu'
            · rw [s3 _ _ (kp _ _ z m)] at htt
              cases htt
        · rw [eH5, upd_ne (Ne.symm nBt), upd_same]
        · rw [eH5, upd_same]
end
end Ka02
set_option maxHeartbeats 4000000
namespace Ka02
open PySem L2
section
variable {P : Program} {w : World} {K : PySem.W.Frag} {mg : Str → Option Value} {base : Heap} {a : Ad} {d : Fd}
theorem S_law : FnScope ["_law_script", "_law_sizes_here", "_law_hall", "_law_book", "_law_given", "_law_cell_here", "_law_deed_here", "_law_many", "_law_one_here"] ["_law_script"] (defScope s_law) := ⟨rfl, rfl, rfl, by decide +kernel, rfl, by decide +kernel, by decide +kernel⟩
theorem ok_law (T : Txt K mg a d) : FnOk P w K mg base (CXx P w) 7 a.law d.law ["_law_script"] (dSp K 1 (fLaw)) := by
  have G_small : FnOk P w K mg base (CXx P w) 3 a.small d.small ["_law_script"] (dSp K 1 (Hl.fSizes)) := ok_small T
  have G_goes : FnOk P w K mg base (CXx P w) 3 a.goes d.goes ["_law_script"] (dSp K 1 (Hl.fGoes)) := ok_goes T
  have G_deed : FnOk P w K mg base (CXx P w) 2 a.deed d.deed ["_law_cell_here", "_law_sizes_here", "_law_known"] (dSp K 3 (Hl.fDeedG)) := ok_deed T
  have G_good : FnOk P w K mg base (CXx P w) 2 a.good d.good ["_law_told", "_law_book", "_law_frames"] (dSp K 3 (Hl.fGood2)) := ok_good T
  have G_loads : FnOk P w K mg base (CXx P w) 1 a.loads d.loads ["_law_book", "_law_inlet", "_law_outlet"] (dSp K 3 (Hl.fLoads)) := ok_loads T
  have G_one : FnOk P w K mg base (CXx P w) 6 a.one d.one ["_law_hall", "_law_book", "_law_inlet", "_law_outlet", "_law_frames", "_law_given"] (Hl.spOne K a.h) := ok_one T
  refine dfn T.f_law S_law (fun cdv A outer s H E b hr => ?_)
  have S := S_law
  refine ⟨_, (dss_cons (ds_set (i := 1) S.nd rfl (Or.inl rfl) (de_call G_small (hr.mono (by first | decide | omega)) rfl T.g_small T.f_small.kp T.b_small b.pass_ (da_cons (dv 0) da_nil))) (dss_cons (Hl.ds_hall (i := 2) T.h (Hl.ok_init T.h) S.nd rfl (Or.inl rfl) (hr.mono (by first | decide | omega)) rfl b.pass_ (da_cons (de_at (dv 1) de_int) (da_cons (de_at (dv 1) de_int) (da_cons (de_at (dv 1) de_int) da_nil)))) (dss_cons (ds_own (i := 3) S.nd rfl (Or.inl rfl) (df_lst da_nil)) (dss_cons (ds_set (i := 4) S.nd rfl (Or.inl rfl) de_int) (dss_cons (ds_loop b (ds_for (loop_passes b) rfl (di_list (de_call G_goes (hr.mono (by first | decide | omega)) rfl T.g_goes T.f_goes.kp T.b_goes (loop_pass b) (da_cons (dv 0) da_nil))) (dg_name (i := 5) S.nd rfl (Or.inl rfl)) (dss_cons (ds_set (i := 6) S.nd rfl (Or.inr rfl) (de_lendS 3 (de_call G_deed (hr.mono (by first | decide | omega)) rfl T.g_deed T.f_deed.kp T.b_deed (loop_pass b) (da_cons (dv 5) (da_cons (dv 1) (da_cons (DF.de (df_compM rfl (di_list (dv 3)) (compT (cl := []) (tn := ["_law_one_here"]) (fn := []) (fv := []) rfl (by decide +kernel) (by decide +kernel) rfl (by repeat' (first | exact trivial | refine ⟨(fun _ => ⟨_, rfl⟩), ?_⟩ | refine ⟨(fun z => by cases z), ?_⟩)) .nil) (fun _ _ _ _ _ => pg_name (i := 0) (show (["_law_one_here"] : List Str).Nodup by decide +kernel) rfl (Or.inl rfl)) ub_name (fun _ _ _ _ _ => (de_at (dv 0) de_int)))) da_nil)))))) (dss_cons (ds_if (dt_eq hr.units (de_at (dv 6) de_int) de_str) (dss_cons (Hl.ds_dropH (j := 2) T.h (Hl.ok_drop T.h) rfl (Or.inl rfl) (hr.mono (by first | decide | omega)) (loop_pass b) (de_at (dv 6) de_int)) (dss_one (ds_ownCL 3 (i := 3) S.nd rfl (Or.inl rfl) rfl (di_list (dv 3)) (compT (cl := [("_law_deed_here", _)]) (tn := ["_law_one_here"]) (fn := ["_law_deed_here"]) (fv := [6]) rfl (by decide +kernel) (by decide +kernel) rfl (by repeat' (first | exact trivial | refine ⟨(fun _ => ⟨_, rfl⟩), ?_⟩ | refine ⟨(fun z => by cases z), ?_⟩)) (.cons (y := "_law_deed_here") (k := 6) .nil rfl rfl (.inr (.inl rfl)) rfl rfl)) (fun _ _ _ _ _ => pg_name (i := 0) (show (["_law_one_here", "_law_deed_here"] : List Str).Nodup by decide +kernel) rfl (Or.inl rfl)) ub_name (fun _ _ _ _ _ => (difs_one (dt_ne hr.units (de_at (dv 0) de_int) (de_at (dv 1) de_int)))) (fun _ _ _ _ _ => (dv 0))))) (dss_cons (ds_set (i := 7) S.nd rfl (Or.inl rfl) (de_lenO (i := 3) rfl T.len rfl (Or.inl rfl))) (dss_cons (Hl.ds_ifOne (jh := 2) (jb := 3) rfl (Or.inl rfl) rfl (Or.inl rfl) G_one (hr.mono (by first | decide | omega)) rfl T.g_one T.f_one.kp T.b_one (loop_pass b) (da_cons (de_at (dv 6) de_int) (da_cons (de_at (dv 6) de_int) (da_cons (de_at (dv 1) de_int) (da_cons (dv 4) da_nil)))) (dss_one (ds_ret de_bl))) (dss_one (ds_set (i := 4) S.nd rfl (Or.inl rfl) (de_sub (de_add (dv 4) (de_lenO (i := 3) rfl T.len rfl (Or.inl rfl))) (dv 7))))))) (dss_one (ds_if (dt_lend 3 (dt_not (dt_val (de_call G_good (hr.mono (by first | decide | omega)) rfl T.g_good T.f_good.kp T.b_good (loop_pass b) (da_cons (DF.de (Hl.df_callsG (i := 2) T.h (Hl.ok_calls T.h) rfl (Or.inl rfl) (hr.mono (by first | decide | omega)) (loop_pass b))) (da_cons (dv 3) (da_cons (de_at (dv 1) de_int) da_nil))))))) (dss_one (ds_ret de_bl)) dss_nil)))))) (dss_freeze 3 (dss_cons (ds_loop b (ds_for (loop_passes b) rfl (di_list (dv 3)) (dg_name (i := 8) S.nd rfl (Or.inl rfl)) (dss_one (ds_if (dt_ne hr.units (de_tup (da_cons (Hl.de_load (j := 2) T.h T.m_lin (ok_lin T) Hl.flds_loadIn T.b_lin rfl (Or.inl rfl) (hr.mono (by first | decide | omega)) (loop_pass b) (de_at (dv 8) de_int)) (da_cons (Hl.de_load (j := 2) T.h T.m_lout (ok_lout T) Hl.flds_loadOut T.b_lout rfl (Or.inl rfl) (hr.mono (by first | decide | omega)) (loop_pass b) (de_at (dv 8) de_int)) da_nil))) (de_call G_loads (hr.mono (by first | decide | omega)) rfl T.g_loads T.f_loads.kp T.b_loads (loop_pass b) (da_cons (dv 3) (da_cons (de_at (dv 8) de_int) (da_cons (de_at (dv 8) de_int) da_nil))))) (dss_one (ds_ret de_bl)) dss_nil)))) (dss_one (ds_ret de_bl))))))))), fun ds Ex Q hl h => ?_⟩
  obtain ⟨ns, rfl, hl63, q⟩ := h
  have hsl : sizeLine = 16777216 := sizeLine_eq
  refine ⟨rfl, ns, rfl, fun n m f n1 n2 m1 m2 f1 f2 => ?_⟩
  refine ⟨.int (n : Nat), atI_nat (j := 0) rfl, .int (m : Nat), atI_nat (j := 1) rfl, .int (f : Nat), atI_nat (j := 2) rfl, n, m, f, rfl, n1, n2, m1, m2, f1, f2, fun g gN gM gF => ?_⟩
  subst gN gM gF
  refine ⟨by show 0 ≤ sizeLine; omega, ?_⟩
  refine ⟨rfl, ns, rfl, hl63, fun cells hcells => ?_⟩
  refine ⟨fun k env => ∃ cs nx bk s5 s6 s7 s8, env = [.sh (.scr ns), .sh (.tup [.int (g.N : Nat), .int (g.M : Nat), .int (g.F : Nat)]), Hl.hallS a.hall g cs nx, .own (bk.map Hl.triD), .sh (.int (nx : Nat)), s5, s6, s7, s8] ∧ Hl.Tld cs bk nx ∧ nx ≤ k ∧ ∀ c ∈ bk, c.i < g.N ∧ c.o < g.M,
    ⟨[], 0, [], _, _, _, _, rfl, Hl.Tld.nil, Nat.le_refl _, fun c hc => nomatch hc⟩, ?_, ?_⟩
  · rintro k dd env hd ⟨cs, nx, bk, s5, s6, s7, s8, rfl, tl, le, bnd⟩
    rw [List.getElem?_map] at hd
    cases hk : cells[k]? with
    | none => rw [hk] at hd; cases hd
    | some c =>
    rw [hk] at hd
    cases hd
    have klt := (List.getElem?_eq_some_iff.mp hk).1
    have blen := tl.len
    have clen := tl.clen
    refine seq_key (P := fun e => ∃ dd, e = [.sh (.scr ns), .sh (.tup [.int (g.N : Nat), .int (g.M : Nat), .int (g.F : Nat)]), Hl.hallS a.hall g cs nx, .own (bk.map Hl.triD), .sh (.int (nx : Nat)), .sh (.int c), .sh dd, s7, s8] ∧ ((∃ kk ∈ bk.map Hl.Call.n, dd = .tup [.str "drop", .int (kk : Nat)]) ∨ ∃ i o : Nat, i < g.N ∧ o < g.M ∧ dd = .tup [.str "put", .int (i : Nat), .int (o : Nat)])) ?_ ?_
    rotate_left
    · intro key
      refine ⟨bk.map Hl.triD, rfl, by rw [List.length_map]; omega, Hl.num3, fun y hy => ?_, ?_⟩
      · obtain ⟨c, _, rfl⟩ := List.mem_map.mp hy
        exact ⟨_, rfl, _, atI_nat (j := 0) rfl, rfl⟩
      rw [Hl.num3_tri]
      exact ⟨rfl, c, g.N, g.M, g.F, bk.map Hl.Call.n, rfl, n1, m1, fun kk hkk => ⟨rfl, key _ ⟨_, rfl, .inl ⟨kk, hkk, rfl⟩⟩⟩, fun i o hi ho => ⟨rfl, key _ ⟨_, rfl, .inr ⟨i, o, hi, ho, rfl⟩⟩⟩⟩
    rintro _ ⟨dd, rfl, hdd⟩
    refine seq_key (P := fun e => ∃ cs' nx' bk' s7', e = [.sh (.scr ns), .sh (.tup [.int (g.N : Nat), .int (g.M : Nat), .int (g.F : Nat)]), Hl.hallS a.hall g cs' nx', .own (bk'.map Hl.triD), .sh (.int (nx' : Nat)), .sh (.int c), .sh dd, s7', s8] ∧ Hl.Tld cs' bk' nx' ∧ nx' ≤ k + 1 ∧ ∀ c ∈ bk', c.i < g.N ∧ c.o < g.M) ?_ ?_
    rotate_left
    · intro key
      rcases hdd with ⟨kk, hkk, rfl⟩ | ⟨i, o, hi, ho, rfl⟩
      · obtain ⟨c0, hc0, rfl⟩ := List.mem_map.mp hkk
        obtain ⟨d0, hd0, ed⟩ := tl.mem hc0
        have ed : d0.n = c0.n := congrArg Prod.fst ed
        refine ⟨.str "drop", atI_nat (j := 0) rfl, ?_⟩
        refine ⟨g, cs, nx, rfl, .int (c0.n : Nat), atI_nat (j := 1) rfl, d0, hd0, by rw [ed], ?_⟩
        rw [ed]
        refine ⟨bk.map Hl.triD, rfl, by rw [List.length_map]; omega, (fun d => !eqD (Hl.num3 d) (.int (c0.n : Nat))), (fun x => x), fun y hy => ?_, ?_⟩
        · obtain ⟨c1, _, rfl⟩ := List.mem_map.mp hy
          refine ⟨_, rfl, .int (c1.n : Nat), atI_nat (j := 0) rfl, .int (c0.n : Nat), atI_nat (j := 1) rfl, ?_⟩
          exact ⟨rfl, fun _ => rfl⟩
        · rw [List.map_id', Hl.filt_tri _ c0.n bk fun c _ => rfl]
          exact ⟨Hl.shal_tri _, key _ ⟨_, nx, _, s7, rfl, tl.drop c0.n, by omega, fun x hx => bnd x (Hl.mem_less.mp hx).1⟩⟩
      · refine ⟨.str "put", atI_nat (j := 0) rfl, ?_⟩
        refine ⟨g, cs, nx, bk, rfl, rfl, by decide, by omega, tl, .int (i : Nat), atI_nat (j := 1) rfl, .int (o : Nat), atI_nat (j := 2) rfl, .int (g.F : Nat), atI_nat (j := 2) rfl, i, o, rfl, hi, ho, fun _ => ?_, fun _ f' l cs' po => ?_⟩
        · refine key [.sh (.scr ns), .sh (.tup [.int (g.N : Nat), .int (g.M : Nat), .int (g.F : Nat)]), Hl.hallS a.hall g cs nx, .own (bk.map Hl.triD), .sh (.int (((nx : Nat) : Int) + (((bk.map Hl.triD).length : Nat) : Int) - (((bk.map Hl.triD).length : Nat) : Int))), .sh (.int c), .sh (.tup [.str "put", .int (i : Nat), .int (o : Nat)]), .sh (.int ((bk.map Hl.triD).length : Nat)), s8] ⟨cs, nx, bk, .sh (.int ((bk.map Hl.triD).length : Nat)), ?_, tl, by omega, bnd⟩
          rw [show ((nx : Nat) : Int) + (((bk.map Hl.triD).length : Nat) : Int) - (((bk.map Hl.triD).length : Nat) : Int) = ((nx : Nat) : Int) by omega]
        · refine key [.sh (.scr ns), .sh (.tup [.int (g.N : Nat), .int (g.M : Nat), .int (g.F : Nat)]), Hl.hallS a.hall g (⟨nx, i, o, f'⟩ :: cs') (nx + 1), .own ((bk ++ [(⟨nx, i, o, f'⟩ : Hl.Call)]).map Hl.triD), .sh (.int (((nx : Nat) : Int) + ((((bk ++ [(⟨nx, i, o, f'⟩ : Hl.Call)]).map Hl.triD).length : Nat) : Int) - (((bk.map Hl.triD).length : Nat) : Int))), .sh (.int c), .sh (.tup [.str "put", .int (i : Nat), .int (o : Nat)]), .sh (.int ((bk.map Hl.triD).length : Nat)), s8] ⟨_, nx + 1, bk ++ [⟨nx, i, o, f'⟩], .sh (.int ((bk.map Hl.triD).length : Nat)), ?_, tl.put po f', by omega, fun x hx => ?_⟩
          · have el : ((nx : Nat) : Int) + ((((bk ++ [(⟨nx, i, o, f'⟩ : Hl.Call)]).map Hl.triD).length : Nat) : Int) - (((bk.map Hl.triD).length : Nat) : Int) = ((nx + 1 : Nat) : Int) := by
              rw [List.length_map, List.length_map, List.length_append]
              show ((nx : Nat) : Int) + ((bk.length + 1 : Nat) : Int) - ((bk.length : Nat) : Int) = _
              omega
            rw [el]
          · rcases List.mem_append.mp hx with z | z
            · exact bnd x z
            · rw [List.mem_singleton.mp z]; exact ⟨hi, ho⟩
    rintro _ ⟨cs', nx', bk', s7', rfl, tl', le', bnd'⟩
    have blen' := tl'.len
    have clen' := tl'.clen
    refine ⟨g, cs', nx', rfl, by omega, fun gd lt lc pm rs => ?_⟩
    obtain ⟨x1, x2, x3⟩ := Hl.good_in gd pm
    exact ⟨.int (g.F : Nat), atI_nat (j := 2) rfl, rfl, lc, bk', g.F, rfl, tl'.calls pm rs, x3, x1, x2, by rw [pm.length_eq]; omega, cs', nx', bk', _, _, _, _, rfl, tl', le', bnd'⟩
  · rintro env ⟨cs, nx, bk, s5, s6, s7, s8, rfl, tl, le, bnd⟩
    have blen := tl.len
    have clen := tl.clen
    rw [List.length_map] at le
    refine ⟨fun k env => ∃ s8, env = [.sh (.scr ns), .sh (.tup [.int (g.N : Nat), .int (g.M : Nat), .int (g.F : Nat)]), Hl.hallS a.hall g cs nx, .sh (.lst (bk.map Hl.triD)), .sh (.int (nx : Nat)), s5, s6, s7, s8], ⟨_, rfl⟩, ?_, ?_⟩
    · rintro k dd env hd ⟨s8, rfl⟩
      rw [List.getElem?_map] at hd
      cases hk : bk[k]? with
      | none => rw [hk] at hd; cases hd
      | some c =>
      rw [hk] at hd
      cases hd
      obtain ⟨hi, ho⟩ := bnd c (List.mem_of_getElem? hk)
      refine ⟨g, cs, nx, rfl, .int (c.i : Nat), atI_nat (j := 1) rfl, c.i, rfl, hi, g, cs, nx, rfl, .int (c.o : Nat), atI_nat (j := 2) rfl, c.o, rfl, ho, by show 2 ≤ sizeLine; omega, .int (c.i : Nat), atI_nat (j := 1) rfl, .int (c.o : Nat), atI_nat (j := 2) rfl, rfl, bk, c.i, c.o, rfl, by omega, ?_⟩
      rw [tl.ldi, tl.ldo]
      refine ⟨rfl, rfl, Nat.le_of_ble_eq_true rfl, rfl, ?_⟩
      rw [eqDs_refl _ rfl]
      exact ⟨_, rfl⟩
    · rintro env ⟨s8, rfl⟩
      exact q
end
def spLaw (K : PySem.W.Frag) : Sp := fun vs H Q _ => ∃ (s : Addr) (ns : List Int), vs = [.ref s] ∧ SqL K H s (ns.map V.int) ∧ ns.length ≤ 63 ∧ ∀ H', Q (.bl true) H'
theorem ok_lawS {P : Program} {w : World} {K : PySem.W.Frag} {mg : Str → Option Value} {base : Heap} {a : Ad} {d : Fd} (T : Txt K mg a d) : FnOk P w K mg base (CXx P w) 7 a.law d.law ["_law_script"] (spLaw K) := (ok_law T).imp fun vs H Q E zz4 => by
  obtain ⟨s, ns, e, hq, hl, q⟩ := zz4
  subst e
  exact ⟨H, [.scr ns], fun _ => False, fun dd => dd = .bl true, rfl, Same.refl _, Reps.cons ⟨s, rfl, hq⟩ Reps.nil, fun _ z => z.elim, ⟨ns, rfl, hl, rfl⟩, fun dd v F' H' e _ r => by subst e; cases (show v = _ from r); exact q H'⟩
end Ka02
set_option maxHeartbeats 4000000
namespace Ka02
open PySem L2
theorem us1 {us : List Value} (h : us.length = 1) : ∃ x0, us = [x0] := match us, h with | [x0], _ => ⟨x0, rfl⟩
theorem us2 {us : List Value} (h : us.length = 2) : ∃ x0 x1, us = [x0, x1] := match us, h with | [x0, x1], _ => ⟨x0, x1, rfl⟩
theorem us3 {us : List Value} (h : us.length = 3) : ∃ x0 x1 x2, us = [x0, x1, x2] := match us, h with | [x0, x1, x2], _ => ⟨x0, x1, x2, rfl⟩
theorem us4 {us : List Value} (h : us.length = 4) : ∃ x0 x1 x2 x3, us = [x0, x1, x2, x3] := match us, h with | [x0, x1, x2, x3], _ => ⟨x0, x1, x2, x3, rfl⟩
theorem us5 {us : List Value} (h : us.length = 5) : ∃ x0 x1 x2 x3 x4, us = [x0, x1, x2, x3, x4] := match us, h with | [x0, x1, x2, x3, x4], _ => ⟨x0, x1, x2, x3, x4, rfl⟩
theorem us6 {us : List Value} (h : us.length = 6) : ∃ x0 x1 x2 x3 x4 x5, us = [x0, x1, x2, x3, x4, x5] := match us, h with | [x0, x1, x2, x3, x4, x5], _ => ⟨x0, x1, x2, x3, x4, x5, rfl⟩
theorem all_mk {l : PySem.W.OpenLaw} {w : World} {K : PySem.W.Frag} {h : Heap} {mg : Str → Option Value} {fa : Addr} {f_whole f_within f_check f_free f_endAt f_load f_isFull f_least f_both f_cell f_mix f_large f_lwhole f_sizes f_small f_goes f_deed f_lput f_loads f_good f_one f_law f_hall f_init f_put f_drop f_calls f_lay f_lift f_room f_way f_lin f_lout f_bad f_noEnd f_busy f_noCall : Addr} (X : K.In h) (G : h.Ns mainGlobals mg) (hfa : mg "law" = some (.ref fa))
    {od1 od2 od3 od4 od5 od6 od7 od8 od9 od10 od11 od12 od13 od14 od15 od16 od17 od18 od19 od20 od21 od22 od23 od24 od25 od26 od27 od28 od29 od30 od31 od32 an1 an2 an3 an4 an5 an6 an7 an8 an9 an10 an11 an12 an13 an14 an15 an16 an17 an18 an19 an20 an21 an22 an23 an24 an25 an26 an27 an28 an29 an30 an31 an32 : Option Addr} {sl1 sl2 sl3 sl4 sl5 sl6 sl7 sl8 sl9 sl10 sl11 sl12 sl13 sl14 sl15 sl16 sl17 sl18 sl19 sl20 sl21 sl22 sl23 sl24 sl25 sl26 sl27 sl28 sl29 sl30 sl31 sl32 : Array (Option Value)} {oc1 oc2 oc3 oc4 oc5 oc6 oc7 oc8 oc9 oc10 oc11 oc12 oc13 oc14 oc15 oc16 oc17 oc18 oc19 oc20 oc21 oc22 oc23 oc24 oc25 oc26 oc27 oc28 oc29 oc30 oc31 oc32 kV1 kV2 kV3 kV4 kV5 kV6 kV7 kV8 kV9 kV10 kV11 kV12 kV13 kV14 kV15 kV16 kV17 kV18 kV19 kV20 kV21 kV22 kV23 kV24 kV25 kV26 kV27 kV28 kV29 kV30 kV31 kV32 dc1 dc2 dc3 dc4 dc5 dc6 dc7 dc8 dc9 dc10 dc11 dc12 dc13 dc14 dc15 dc16 dc17 dc18 dc19 dc20 dc21 dc22 dc23 dc24 dc25 dc26 dc27 dc28 dc29 dc30 dc31 dc32 pm1 pm2 pm3 pm4 pm5 pm6 pm7 pm8 pm9 pm10 pm11 pm12 pm13 pm14 pm15 pm16 pm17 pm18 pm19 pm20 pm21 pm22 pm23 pm24 pm25 pm26 pm27 pm28 pm29 pm30 pm31 pm32 cd1 cd2 cd3 cd4 cd5 cd6 cd7 cd8 cd9 cd10 cd11 cd12 cd13 cd14 cd15 cd16 cd17 cd18 cd19 cd20 cd21 cd22 cd23 cd24 cd25 cd26 cd27 cd28 cd29 cd30 cd31 cd32 ct1 ct2 ct3 ct4 ct5 ct6 ct7 ct8 ct9 ct10 ct11 ct12 ct13 ct14 ct15 ct16 ct17 ct18 ct19 ct20 ct21 ct22 ct23 ct24 ct25 ct26 ct27 ct28 ct29 ct30 ct31 ct32 : Value} {tk_ends tk_frames : Tok}
    (a_whole : PySem.W.nsIn K mainGlobals "is_whole" = some (some (.ref f_whole)))
    (l_whole : K.lookup f_whole = some ⟨oc1, od1, .func (PySem.W.fnOf "is_whole" "is_whole" (defArgs Hl.sWhole) (defBody Hl.sWhole) (defScope Hl.sWhole) .none kV1 dc1 pm1 an1 cd1 ct1), sl1⟩)
    (c_whole : PySem.W.codeIn K cd1 "is_whole" = true)
    (k_whole : PySem.W.keepIn K (.ref f_whole) = true)
    (a_within : PySem.W.nsIn K mainGlobals "is_whole_within" = some (some (.ref f_within)))
    (l_within : K.lookup f_within = some ⟨oc2, od2, .func (PySem.W.fnOf "is_whole_within" "is_whole_within" (defArgs Hl.sWithin) (defBody Hl.sWithin) (defScope Hl.sWithin) .none kV2 dc2 pm2 an2 cd2 ct2), sl2⟩)
    (c_within : PySem.W.codeIn K cd2 "is_whole_within" = true)
    (k_within : PySem.W.keepIn K (.ref f_within) = true)
    (a_check : PySem.W.nsIn K mainGlobals "check_sizes" = some (some (.ref f_check)))
    (l_check : K.lookup f_check = some ⟨oc3, od3, .func (PySem.W.fnOf "check_sizes" "check_sizes" (defArgs Hl.sCheck) (defBody Hl.sCheck) (defScope Hl.sCheck) .none kV3 dc3 pm3 an3 cd3 ct3), sl3⟩)
    (c_check : PySem.W.codeIn K cd3 "check_sizes" = true)
    (k_check : PySem.W.keepIn K (.ref f_check) = true)
    (a_free : PySem.W.nsIn K mainGlobals "free_ends" = some (some (.ref f_free)))
    (l_free : K.lookup f_free = some ⟨oc4, od4, .func (PySem.W.fnOf "free_ends" "free_ends" (defArgs Hl.sFree) (defBody Hl.sFree) (defScope Hl.sFree) .none kV4 dc4 pm4 an4 cd4 ct4), sl4⟩)
    (c_free : PySem.W.codeIn K cd4 "free_ends" = true)
    (k_free : PySem.W.keepIn K (.ref f_free) = true)
    (a_endAt : PySem.W.nsIn K mainGlobals "end_at" = some (some (.ref f_endAt)))
    (l_endAt : K.lookup f_endAt = some ⟨oc5, od5, .func (PySem.W.fnOf "end_at" "end_at" (defArgs Hl.sEnd) (defBody Hl.sEnd) (defScope Hl.sEnd) .none kV5 dc5 pm5 an5 cd5 ct5), sl5⟩)
    (c_endAt : PySem.W.codeIn K cd5 "end_at" = true)
    (k_endAt : PySem.W.keepIn K (.ref f_endAt) = true)
    (a_load : PySem.W.nsIn K mainGlobals "load_of" = some (some (.ref f_load)))
    (l_load : K.lookup f_load = some ⟨oc6, od6, .func (PySem.W.fnOf "load_of" "load_of" (defArgs Hl.sLoad) (defBody Hl.sLoad) (defScope Hl.sLoad) .none kV6 dc6 pm6 an6 cd6 ct6), sl6⟩)
    (c_load : PySem.W.codeIn K cd6 "load_of" = true)
    (k_load : PySem.W.keepIn K (.ref f_load) = true)
    (a_isFull : PySem.W.nsIn K mainGlobals "is_full" = some (some (.ref f_isFull)))
    (l_isFull : K.lookup f_isFull = some ⟨oc7, od7, .func (PySem.W.fnOf "is_full" "is_full" (defArgs Hl.sFull) (defBody Hl.sFull) (defScope Hl.sFull) .none kV7 dc7 pm7 an7 cd7 ct7), sl7⟩)
    (c_isFull : PySem.W.codeIn K cd7 "is_full" = true)
    (k_isFull : PySem.W.keepIn K (.ref f_isFull) = true)
    (a_least : PySem.W.nsIn K mainGlobals "least_free" = some (some (.ref f_least)))
    (l_least : K.lookup f_least = some ⟨oc8, od8, .func (PySem.W.fnOf "least_free" "least_free" (defArgs Hl.sLeast) (defBody Hl.sLeast) (defScope Hl.sLeast) .none kV8 dc8 pm8 an8 cd8 ct8), sl8⟩)
    (c_least : PySem.W.codeIn K cd8 "least_free" = true)
    (k_least : PySem.W.keepIn K (.ref f_least) = true)
    (a_both : PySem.W.nsIn K mainGlobals "least_free_at_both" = some (some (.ref f_both)))
    (l_both : K.lookup f_both = some ⟨oc9, od9, .func (PySem.W.fnOf "least_free_at_both" "least_free_at_both" (defArgs Hl.sBoth) (defBody Hl.sBoth) (defScope Hl.sBoth) .none kV9 dc9 pm9 an9 cd9 ct9), sl9⟩)
    (c_both : PySem.W.codeIn K cd9 "least_free_at_both" = true)
    (k_both : PySem.W.keepIn K (.ref f_both) = true)
    (a_cell : PySem.W.nsIn K mainGlobals "_law_cell" = some (some (.ref f_cell)))
    (l_cell : K.lookup f_cell = some ⟨oc10, od10, .func (PySem.W.fnOf "_law_cell" "_law_cell" (defArgs s_cell) (defBody s_cell) (defScope s_cell) .none kV10 dc10 pm10 an10 cd10 ct10), sl10⟩)
    (c_cell : PySem.W.codeIn K cd10 "_law_cell" = true)
    (k_cell : PySem.W.keepIn K (.ref f_cell) = true)
    (a_mix : PySem.W.nsIn K mainGlobals "_law_mix" = some (some (.ref f_mix)))
    (l_mix : K.lookup f_mix = some ⟨oc11, od11, .func (PySem.W.fnOf "_law_mix" "_law_mix" (defArgs s_mix) (defBody s_mix) (defScope s_mix) .none kV11 dc11 pm11 an11 cd11 ct11), sl11⟩)
    (c_mix : PySem.W.codeIn K cd11 "_law_mix" = true)
    (k_mix : PySem.W.keepIn K (.ref f_mix) = true)
    (a_large : PySem.W.nsIn K mainGlobals "_law_large" = some (some (.ref f_large)))
    (l_large : K.lookup f_large = some ⟨oc12, od12, .func (PySem.W.fnOf "_law_large" "_law_large" (defArgs s_large) (defBody s_large) (defScope s_large) .none kV12 dc12 pm12 an12 cd12 ct12), sl12⟩)
    (c_large : PySem.W.codeIn K cd12 "_law_large" = true)
    (k_large : PySem.W.keepIn K (.ref f_large) = true)
    (a_lwhole : PySem.W.nsIn K mainGlobals "_law_whole" = some (some (.ref f_lwhole)))
    (l_lwhole : K.lookup f_lwhole = some ⟨oc13, od13, .func (PySem.W.fnOf "_law_whole" "_law_whole" (defArgs s_lwhole) (defBody s_lwhole) (defScope s_lwhole) .none kV13 dc13 pm13 an13 cd13 ct13), sl13⟩)
    (c_lwhole : PySem.W.codeIn K cd13 "_law_whole" = true)
    (k_lwhole : PySem.W.keepIn K (.ref f_lwhole) = true)
    (a_sizes : PySem.W.nsIn K mainGlobals "_law_sizes" = some (some (.ref f_sizes)))
    (l_sizes : K.lookup f_sizes = some ⟨oc14, od14, .func (PySem.W.fnOf "_law_sizes" "_law_sizes" (defArgs s_sizes) (defBody s_sizes) (defScope s_sizes) .none kV14 dc14 pm14 an14 cd14 ct14), sl14⟩)
    (c_sizes : PySem.W.codeIn K cd14 "_law_sizes" = true)
    (k_sizes : PySem.W.keepIn K (.ref f_sizes) = true)
    (a_small : PySem.W.nsIn K mainGlobals "_law_small" = some (some (.ref f_small)))
    (l_small : K.lookup f_small = some ⟨oc15, od15, .func (PySem.W.fnOf "_law_small" "_law_small" (defArgs s_small) (defBody s_small) (defScope s_small) .none kV15 dc15 pm15 an15 cd15 ct15), sl15⟩)
    (c_small : PySem.W.codeIn K cd15 "_law_small" = true)
    (k_small : PySem.W.keepIn K (.ref f_small) = true)
    (a_goes : PySem.W.nsIn K mainGlobals "_law_goes" = some (some (.ref f_goes)))
    (l_goes : K.lookup f_goes = some ⟨oc16, od16, .func (PySem.W.fnOf "_law_goes" "_law_goes" (defArgs s_goes) (defBody s_goes) (defScope s_goes) .none kV16 dc16 pm16 an16 cd16 ct16), sl16⟩)
    (c_goes : PySem.W.codeIn K cd16 "_law_goes" = true)
    (k_goes : PySem.W.keepIn K (.ref f_goes) = true)
    (a_deed : PySem.W.nsIn K mainGlobals "_law_deed" = some (some (.ref f_deed)))
    (l_deed : K.lookup f_deed = some ⟨oc17, od17, .func (PySem.W.fnOf "_law_deed" "_law_deed" (defArgs s_deed) (defBody s_deed) (defScope s_deed) .none kV17 dc17 pm17 an17 cd17 ct17), sl17⟩)
    (c_deed : PySem.W.codeIn K cd17 "_law_deed" = true)
    (k_deed : PySem.W.keepIn K (.ref f_deed) = true)
    (a_lput : PySem.W.nsIn K mainGlobals "_law_put" = some (some (.ref f_lput)))
    (l_lput : K.lookup f_lput = some ⟨oc18, od18, .func (PySem.W.fnOf "_law_put" "_law_put" (defArgs s_lput) (defBody s_lput) (defScope s_lput) .none kV18 dc18 pm18 an18 cd18 ct18), sl18⟩)
    (c_lput : PySem.W.codeIn K cd18 "_law_put" = true)
    (k_lput : PySem.W.keepIn K (.ref f_lput) = true)
    (a_loads : PySem.W.nsIn K mainGlobals "_law_loads" = some (some (.ref f_loads)))
    (l_loads : K.lookup f_loads = some ⟨oc19, od19, .func (PySem.W.fnOf "_law_loads" "_law_loads" (defArgs s_loads) (defBody s_loads) (defScope s_loads) .none kV19 dc19 pm19 an19 cd19 ct19), sl19⟩)
    (c_loads : PySem.W.codeIn K cd19 "_law_loads" = true)
    (k_loads : PySem.W.keepIn K (.ref f_loads) = true)
    (a_good : PySem.W.nsIn K mainGlobals "_law_good" = some (some (.ref f_good)))
    (l_good : K.lookup f_good = some ⟨oc20, od20, .func (PySem.W.fnOf "_law_good" "_law_good" (defArgs s_good) (defBody s_good) (defScope s_good) .none kV20 dc20 pm20 an20 cd20 ct20), sl20⟩)
    (c_good : PySem.W.codeIn K cd20 "_law_good" = true)
    (k_good : PySem.W.keepIn K (.ref f_good) = true)
    (a_one : PySem.W.nsIn K mainGlobals "_law_one" = some (some (.ref f_one)))
    (l_one : K.lookup f_one = some ⟨oc21, od21, .func (PySem.W.fnOf "_law_one" "_law_one" (defArgs s_one) (defBody s_one) (defScope s_one) .none kV21 dc21 pm21 an21 cd21 ct21), sl21⟩)
    (c_one : PySem.W.codeIn K cd21 "_law_one" = true)
    (k_one : PySem.W.keepIn K (.ref f_one) = true)
    (a_law : PySem.W.nsIn K mainGlobals "law" = some (some (.ref f_law)))
    (l_law : K.lookup f_law = some ⟨oc22, od22, .func (PySem.W.fnOf "law" "law" (defArgs s_law) (defBody s_law) (defScope s_law) .none kV22 dc22 pm22 an22 cd22 ct22), sl22⟩)
    (c_law : PySem.W.codeIn K cd22 "law" = true)
    (k_law : PySem.W.keepIn K (.ref f_law) = true)
    (a_hall : PySem.W.nsIn K mainGlobals "Hall" = some (some (.ref f_hall)))
    (a_init : PySem.W.findIn K (.ref f_hall) "__init__" = some (some (.ref f_init)))
    (i_init : PySem.W.isFn K (.ref f_init) = true)
    (l_init : K.lookup f_init = some ⟨oc23, od23, .func (PySem.W.fnOf "__init__" "Hall.__init__" (defArgs Hl.sInit) (defBody Hl.sInit) (defScope Hl.sInit) .none kV23 dc23 pm23 an23 cd23 ct23), sl23⟩)
    (c_init : PySem.W.codeIn K cd23 "Hall.__init__" = true)
    (k_init : PySem.W.keepIn K (.ref f_init) = true)
    (a_put : PySem.W.findIn K (.ref f_hall) "put" = some (some (.ref f_put)))
    (i_put : PySem.W.isFn K (.ref f_put) = true)
    (l_put : K.lookup f_put = some ⟨oc24, od24, .func (PySem.W.fnOf "put" "Hall.put" (defArgs Hl.sPut) (defBody Hl.sPut) (defScope Hl.sPut) .none kV24 dc24 pm24 an24 cd24 ct24), sl24⟩)
    (c_put : PySem.W.codeIn K cd24 "Hall.put" = true)
    (k_put : PySem.W.keepIn K (.ref f_put) = true)
    (a_drop : PySem.W.findIn K (.ref f_hall) "drop" = some (some (.ref f_drop)))
    (i_drop : PySem.W.isFn K (.ref f_drop) = true)
    (l_drop : K.lookup f_drop = some ⟨oc25, od25, .func (PySem.W.fnOf "drop" "Hall.drop" (defArgs Hl.sDrop) (defBody Hl.sDrop) (defScope Hl.sDrop) .none kV25 dc25 pm25 an25 cd25 ct25), sl25⟩)
    (c_drop : PySem.W.codeIn K cd25 "Hall.drop" = true)
    (k_drop : PySem.W.keepIn K (.ref f_drop) = true)
    (a_calls : PySem.W.findIn K (.ref f_hall) "calls" = some (some (.ref f_calls)))
    (i_calls : PySem.W.isFn K (.ref f_calls) = true)
    (l_calls : K.lookup f_calls = some ⟨oc26, od26, .func (PySem.W.fnOf "calls" "Hall.calls" (defArgs Hl.sCalls) (defBody Hl.sCalls) (defScope Hl.sCalls) .none kV26 dc26 pm26 an26 cd26 ct26), sl26⟩)
    (c_calls : PySem.W.codeIn K cd26 "Hall.calls" = true)
    (k_calls : PySem.W.keepIn K (.ref f_calls) = true)
    (a_lay : PySem.W.findIn K (.ref f_hall) "lay" = some (some (.ref f_lay)))
    (i_lay : PySem.W.isFn K (.ref f_lay) = true)
    (l_lay : K.lookup f_lay = some ⟨oc27, od27, .func (PySem.W.fnOf "lay" "Hall.lay" (defArgs Hl.sLay) (defBody Hl.sLay) (defScope Hl.sLay) .none kV27 dc27 pm27 an27 cd27 ct27), sl27⟩)
    (c_lay : PySem.W.codeIn K cd27 "Hall.lay" = true)
    (k_lay : PySem.W.keepIn K (.ref f_lay) = true)
    (a_lift : PySem.W.findIn K (.ref f_hall) "lift" = some (some (.ref f_lift)))
    (i_lift : PySem.W.isFn K (.ref f_lift) = true)
    (l_lift : K.lookup f_lift = some ⟨oc28, od28, .func (PySem.W.fnOf "lift" "Hall.lift" (defArgs Hl.sLift) (defBody Hl.sLift) (defScope Hl.sLift) .none kV28 dc28 pm28 an28 cd28 ct28), sl28⟩)
    (c_lift : PySem.W.codeIn K cd28 "Hall.lift" = true)
    (k_lift : PySem.W.keepIn K (.ref f_lift) = true)
    (a_room : PySem.W.findIn K (.ref f_hall) "make_room" = some (some (.ref f_room)))
    (i_room : PySem.W.isFn K (.ref f_room) = true)
    (l_room : K.lookup f_room = some ⟨oc29, od29, .func (PySem.W.fnOf "make_room" "Hall.make_room" (defArgs Hl.sRoom) (defBody Hl.sRoom) (defScope Hl.sRoom) .none kV29 dc29 pm29 an29 cd29 ct29), sl29⟩)
    (c_room : PySem.W.codeIn K cd29 "Hall.make_room" = true)
    (k_room : PySem.W.keepIn K (.ref f_room) = true)
    (a_way : PySem.W.findIn K (.ref f_hall) "way_from" = some (some (.ref f_way)))
    (i_way : PySem.W.isFn K (.ref f_way) = true)
    (l_way : K.lookup f_way = some ⟨oc30, od30, .func (PySem.W.fnOf "way_from" "Hall.way_from" (defArgs Hl.sWay) (defBody Hl.sWay) (defScope Hl.sWay) .none kV30 dc30 pm30 an30 cd30 ct30), sl30⟩)
    (c_way : PySem.W.codeIn K cd30 "Hall.way_from" = true)
    (k_way : PySem.W.keepIn K (.ref f_way) = true)
    (a_lin : PySem.W.findIn K (.ref f_hall) "load_in" = some (some (.ref f_lin)))
    (i_lin : PySem.W.isFn K (.ref f_lin) = true)
    (l_lin : K.lookup f_lin = some ⟨oc31, od31, .func (PySem.W.fnOf "load_in" "Hall.load_in" (defArgs Hl.sLoadIn) (defBody Hl.sLoadIn) (defScope Hl.sLoadIn) .none kV31 dc31 pm31 an31 cd31 ct31), sl31⟩)
    (c_lin : PySem.W.codeIn K cd31 "Hall.load_in" = true)
    (k_lin : PySem.W.keepIn K (.ref f_lin) = true)
    (a_lout : PySem.W.findIn K (.ref f_hall) "load_out" = some (some (.ref f_lout)))
    (i_lout : PySem.W.isFn K (.ref f_lout) = true)
    (l_lout : K.lookup f_lout = some ⟨oc32, od32, .func (PySem.W.fnOf "load_out" "Hall.load_out" (defArgs Hl.sLoadOut) (defBody Hl.sLoadOut) (defScope Hl.sLoadOut) .none kV32 dc32 pm32 an32 cd32 ct32), sl32⟩)
    (c_lout : PySem.W.codeIn K cd32 "Hall.load_out" = true)
    (k_lout : PySem.W.keepIn K (.ref f_lout) = true)
    (pg : PySem.W.plainGet K f_hall Str.empty = true)
    (hdd : PySem.W.hasDictIn K f_hall = true)
    (po : PySem.W.plainOver K f_hall = true)
    (sa : PySem.W.findIn K (.ref f_hall) "__setattr__" = some (some (.builtin "object.__setattr__")))
    (mkk : PySem.W.makesIn K f_hall = true)
    (kcc : PySem.W.keepIn K (.ref f_hall) = true)
    (n_nI : PySem.W.findIn K (.ref f_hall) "inlet_ends" = some none)
    (n_nO : PySem.W.findIn K (.ref f_hall) "outlet_ends" = some none)
    (n_nS : PySem.W.findIn K (.ref f_hall) "standing" = some none)
    (n_nN : PySem.W.findIn K (.ref f_hall) "next_number" = some none)
    (a_bad : PySem.W.nsIn K mainGlobals "BadHall" = some (some (.ref f_bad)))
    (x_bad : PySem.W.excIn K f_bad [.type "ValueError", .type "Exception", .type "BaseException", .type "object"] "ValueError.__new__" = true)
    (a_noEnd : PySem.W.nsIn K mainGlobals "NoEnd" = some (some (.ref f_noEnd)))
    (x_noEnd : PySem.W.excIn K f_noEnd [.type "ValueError", .type "Exception", .type "BaseException", .type "object"] "ValueError.__new__" = true)
    (a_busy : PySem.W.nsIn K mainGlobals "Busy" = some (some (.ref f_busy)))
    (x_busy : PySem.W.excIn K f_busy [.type "ValueError", .type "Exception", .type "BaseException", .type "object"] "ValueError.__new__" = true)
    (a_noCall : PySem.W.nsIn K mainGlobals "NoCall" = some (some (.ref f_noCall)))
    (x_noCall : PySem.W.excIn K f_noCall [.type "ValueError", .type "Exception", .type "BaseException", .type "object"] "ValueError.__new__" = true)
    (v_ends : PySem.W.nsIn K mainGlobals "MOST_ENDS" = some (some (.int 12 tk_ends)))
    (v_frames : PySem.W.nsIn K mainGlobals "MOST_FRAMES" = some (some (.int 8 tk_frames)))
    (z_bool_ : PySem.W.nsIn K mainGlobals "bool" = some none)
    (z_int_ : PySem.W.nsIn K mainGlobals "int" = some none)
    (z_isi : PySem.W.nsIn K mainGlobals "isinstance" = some none)
    (z_len : PySem.W.nsIn K mainGlobals "len" = some none)
    (z_list_ : PySem.W.nsIn K mainGlobals "list" = some none)
    (z_set_ : PySem.W.nsIn K mainGlobals "set" = some none)
    (z_tuple_ : PySem.W.nsIn K mainGlobals "tuple" = some none)
    (z_range : PySem.W.nsIn K mainGlobals "range" = some none)
    (z_sorted_ : PySem.W.nsIn K mainGlobals "sorted" = some none)
    (z_zip_ : PySem.W.nsIn K mainGlobals "zip" = some none)
    (e_eYY : PySem.W.exmOne K (.ref f_busy) (.ref f_busy) = some true)
    : ∃ fd : FuncData, (∀ (s : Shared) (v : Value), BindsTo s fd ⟨[v], []⟩ [("_law_script", v)]) ∧ ∀ base : Heap, K.In base → base.Ns mainGlobals mg → FnOk l.prog w K mg base (CXx l.prog w) 7 fa fd ["_law_script"] (spLaw K) := by
  have e := hfa.symm.trans (PySem.W.mg_of X G a_law)
  rw [Value.ref.inj (Option.some.inj e)]
  have F_whole := fun_mk (st := Hl.sWhole) l_whole c_whole k_whole
  have b_whole := F_whole.binds (ps := ["value"]) fun _ _ _ _ _ _ us hl => (by obtain ⟨_, rfl⟩ := us1 hl; rfl)
  have F_within := fun_mk (st := Hl.sWithin) l_within c_within k_within
  have b_within := F_within.binds (ps := ["value", "least", "most"]) fun _ _ _ _ _ _ us hl => (by obtain ⟨_, _, _, rfl⟩ := us3 hl; rfl)
  have F_check := fun_mk (st := Hl.sCheck) l_check c_check k_check
  have b_check := F_check.binds (ps := ["inlets", "outlets", "frames"]) fun _ _ _ _ _ _ us hl => (by obtain ⟨_, _, _, rfl⟩ := us3 hl; rfl)
  have F_free := fun_mk (st := Hl.sFree) l_free c_free k_free
  have b_free := F_free.binds (ps := ["many", "frames"]) fun _ _ _ _ _ _ us hl => (by obtain ⟨_, _, rfl⟩ := us2 hl; rfl)
  have F_endAt := fun_mk (st := Hl.sEnd) l_endAt c_endAt k_endAt
  have b_endAt := F_endAt.binds (ps := ["ends", "place"]) fun _ _ _ _ _ _ us hl => (by obtain ⟨_, _, rfl⟩ := us2 hl; rfl)
  have F_load := fun_mk (st := Hl.sLoad) l_load c_load k_load
  have b_load := F_load.binds (ps := ["end"]) fun _ _ _ _ _ _ us hl => (by obtain ⟨_, rfl⟩ := us1 hl; rfl)
  have F_isFull := fun_mk (st := Hl.sFull) l_isFull c_isFull k_isFull
  have b_isFull := F_isFull.binds (ps := ["end"]) fun _ _ _ _ _ _ us hl => (by obtain ⟨_, rfl⟩ := us1 hl; rfl)
  have F_least := fun_mk (st := Hl.sLeast) l_least c_least k_least
  have b_least := F_least.binds (ps := ["end"]) fun _ _ _ _ _ _ us hl => (by obtain ⟨_, rfl⟩ := us1 hl; rfl)
  have F_both := fun_mk (st := Hl.sBoth) l_both c_both k_both
  have b_both := F_both.binds (ps := ["one", "other"]) fun _ _ _ _ _ _ us hl => (by obtain ⟨_, _, rfl⟩ := us2 hl; rfl)
  have F_cell := fun_mk (st := s_cell) l_cell c_cell k_cell
  have b_cell := F_cell.binds (ps := ["_law_script", "_law_k"]) fun _ _ _ _ _ _ us hl => (by obtain ⟨_, _, rfl⟩ := us2 hl; rfl)
  have F_mix := fun_mk (st := s_mix) l_mix c_mix k_mix
  have b_mix := F_mix.binds (ps := ["_law_cell_here", "_law_prime", "_law_many"]) fun _ _ _ _ _ _ us hl => (by obtain ⟨_, _, _, rfl⟩ := us3 hl; rfl)
  have F_large := fun_mk (st := s_large) l_large c_large k_large
  have b_large := F_large.binds (ps := ["_law_script"]) fun _ _ _ _ _ _ us hl => (by obtain ⟨_, rfl⟩ := us1 hl; rfl)
  have F_lwhole := fun_mk (st := s_lwhole) l_lwhole c_lwhole k_lwhole
  have b_lwhole := F_lwhole.binds (ps := ["_law_found"]) fun _ _ _ _ _ _ us hl => (by obtain ⟨_, rfl⟩ := us1 hl; rfl)
  have F_sizes := fun_mk (st := s_sizes) l_sizes c_sizes k_sizes
  have b_sizes := F_sizes.binds (ps := ["_law_script"]) fun _ _ _ _ _ _ us hl => (by obtain ⟨_, rfl⟩ := us1 hl; rfl)
  have F_small := fun_mk (st := s_small) l_small c_small k_small
  have b_small := F_small.binds (ps := ["_law_script"]) fun _ _ _ _ _ _ us hl => (by obtain ⟨_, rfl⟩ := us1 hl; rfl)
  have F_goes := fun_mk (st := s_goes) l_goes c_goes k_goes
  have b_goes := F_goes.binds (ps := ["_law_script"]) fun _ _ _ _ _ _ us hl => (by obtain ⟨_, rfl⟩ := us1 hl; rfl)
  have F_deed := fun_mk (st := s_deed) l_deed c_deed k_deed
  have b_deed := F_deed.binds (ps := ["_law_cell_here", "_law_sizes_here", "_law_known"]) fun _ _ _ _ _ _ us hl => (by obtain ⟨_, _, _, rfl⟩ := us3 hl; rfl)
  have F_lput := fun_mk (st := s_lput) l_lput c_lput k_lput
  have b_lput := F_lput.binds (ps := ["_law_hall", "_law_inlet", "_law_outlet"]) fun _ _ _ _ _ _ us hl => (by obtain ⟨_, _, _, rfl⟩ := us3 hl; rfl)
  have F_loads := fun_mk (st := s_loads) l_loads c_loads k_loads
  have b_loads := F_loads.binds (ps := ["_law_book", "_law_inlet", "_law_outlet"]) fun _ _ _ _ _ _ us hl => (by obtain ⟨_, _, _, rfl⟩ := us3 hl; rfl)
  have F_good := fun_mk (st := s_good) l_good c_good k_good
  have b_good := F_good.binds (ps := ["_law_told", "_law_book", "_law_frames"]) fun _ _ _ _ _ _ us hl => (by obtain ⟨_, _, _, rfl⟩ := us3 hl; rfl)
  have F_one := fun_mk (st := s_one) l_one c_one k_one
  have b_one := F_one.binds (ps := ["_law_hall", "_law_book", "_law_inlet", "_law_outlet", "_law_frames", "_law_given"]) fun _ _ _ _ _ _ us hl => (by obtain ⟨_, _, _, _, _, _, rfl⟩ := us6 hl; rfl)
  have F_law := fun_mk (st := s_law) l_law c_law k_law
  have b_law := F_law.binds (ps := ["_law_script"]) fun _ _ _ _ _ _ us hl => (by obtain ⟨_, rfl⟩ := us1 hl; rfl)
  have F_init := fun_mk (st := Hl.sInit) l_init c_init k_init
  have b_init := F_init.binds (ps := ["self", "inlets", "outlets", "frames"]) fun _ _ _ _ _ _ us hl => (by obtain ⟨_, _, _, _, rfl⟩ := us4 hl; rfl)
  have F_put := fun_mk (st := Hl.sPut) l_put c_put k_put
  have b_put := F_put.binds (ps := ["self", "inlet", "outlet"]) fun _ _ _ _ _ _ us hl => (by obtain ⟨_, _, _, rfl⟩ := us3 hl; rfl)
  have F_drop := fun_mk (st := Hl.sDrop) l_drop c_drop k_drop
  have b_drop := F_drop.binds (ps := ["self", "number"]) fun _ _ _ _ _ _ us hl => (by obtain ⟨_, _, rfl⟩ := us2 hl; rfl)
  have F_calls := fun_mk (st := Hl.sCalls) l_calls c_calls k_calls
  have b_calls := F_calls.binds (ps := ["self"]) fun _ _ _ _ _ _ us hl => (by obtain ⟨_, rfl⟩ := us1 hl; rfl)
  have F_lay := fun_mk (st := Hl.sLay) l_lay c_lay k_lay
  have b_lay := F_lay.binds (ps := ["self", "number", "inlet", "outlet", "frame"]) fun _ _ _ _ _ _ us hl => (by obtain ⟨_, _, _, _, _, rfl⟩ := us5 hl; rfl)
  have F_lift := fun_mk (st := Hl.sLift) l_lift c_lift k_lift
  have b_lift := F_lift.binds (ps := ["self", "number"]) fun _ _ _ _ _ _ us hl => (by obtain ⟨_, _, rfl⟩ := us2 hl; rfl)
  have F_room := fun_mk (st := Hl.sRoom) l_room c_room k_room
  have b_room := F_room.binds (ps := ["self", "outlet", "frame", "spare"]) fun _ _ _ _ _ _ us hl => (by obtain ⟨_, _, _, _, rfl⟩ := us4 hl; rfl)
  have F_way := fun_mk (st := Hl.sWay) l_way c_way k_way
  have b_way := F_way.binds (ps := ["self", "outlet", "frame", "spare"]) fun _ _ _ _ _ _ us hl => (by obtain ⟨_, _, _, _, rfl⟩ := us4 hl; rfl)
  have F_lin := fun_mk (st := Hl.sLoadIn) l_lin c_lin k_lin
  have b_lin := F_lin.binds (ps := ["self", "inlet"]) fun _ _ _ _ _ _ us hl => (by obtain ⟨_, _, rfl⟩ := us2 hl; rfl)
  have F_lout := fun_mk (st := Hl.sLoadOut) l_lout c_lout k_lout
  have b_lout := F_lout.binds (ps := ["self", "outlet"]) fun _ _ _ _ _ _ us hl => (by obtain ⟨_, _, rfl⟩ := us2 hl; rfl)
  have T : Txt K mg { whole := f_whole, within := f_within, check := f_check, free := f_free, endAt := f_endAt, load := f_load, isFull := f_isFull, least := f_least, both := f_both, cell := f_cell, mix := f_mix, large := f_large, lwhole := f_lwhole, sizes := f_sizes, small := f_small, goes := f_goes, deed := f_deed, lput := f_lput, loads := f_loads, good := f_good, one := f_one, law := f_law, hall := f_hall, init := f_init, put := f_put, drop := f_drop, calls := f_calls, lay := f_lay, lift := f_lift, room := f_room, way := f_way, lin := f_lin, lout := f_lout, bad := f_bad, noEnd := f_noEnd, busy := f_busy, noCall := f_noCall } { whole := PySem.W.fnOf "is_whole" "is_whole" (defArgs Hl.sWhole) (defBody Hl.sWhole) (defScope Hl.sWhole) .none kV1 dc1 pm1 an1 cd1 ct1, within := PySem.W.fnOf "is_whole_within" "is_whole_within" (defArgs Hl.sWithin) (defBody Hl.sWithin) (defScope Hl.sWithin) .none kV2 dc2 pm2 an2 cd2 ct2, check := PySem.W.fnOf "check_sizes" "check_sizes" (defArgs Hl.sCheck) (defBody Hl.sCheck) (defScope Hl.sCheck) .none kV3 dc3 pm3 an3 cd3 ct3, free := PySem.W.fnOf "free_ends" "free_ends" (defArgs Hl.sFree) (defBody Hl.sFree) (defScope Hl.sFree) .none kV4 dc4 pm4 an4 cd4 ct4, endAt := PySem.W.fnOf "end_at" "end_at" (defArgs Hl.sEnd) (defBody Hl.sEnd) (defScope Hl.sEnd) .none kV5 dc5 pm5 an5 cd5 ct5, load := PySem.W.fnOf "load_of" "load_of" (defArgs Hl.sLoad) (defBody Hl.sLoad) (defScope Hl.sLoad) .none kV6 dc6 pm6 an6 cd6 ct6, isFull := PySem.W.fnOf "is_full" "is_full" (defArgs Hl.sFull) (defBody Hl.sFull) (defScope Hl.sFull) .none kV7 dc7 pm7 an7 cd7 ct7, least := PySem.W.fnOf "least_free" "least_free" (defArgs Hl.sLeast) (defBody Hl.sLeast) (defScope Hl.sLeast) .none kV8 dc8 pm8 an8 cd8 ct8, both := PySem.W.fnOf "least_free_at_both" "least_free_at_both" (defArgs Hl.sBoth) (defBody Hl.sBoth) (defScope Hl.sBoth) .none kV9 dc9 pm9 an9 cd9 ct9, cell := PySem.W.fnOf "_law_cell" "_law_cell" (defArgs s_cell) (defBody s_cell) (defScope s_cell) .none kV10 dc10 pm10 an10 cd10 ct10, mix := PySem.W.fnOf "_law_mix" "_law_mix" (defArgs s_mix) (defBody s_mix) (defScope s_mix) .none kV11 dc11 pm11 an11 cd11 ct11, large := PySem.W.fnOf "_law_large" "_law_large" (defArgs s_large) (defBody s_large) (defScope s_large) .none kV12 dc12 pm12 an12 cd12 ct12, lwhole := PySem.W.fnOf "_law_whole" "_law_whole" (defArgs s_lwhole) (defBody s_lwhole) (defScope s_lwhole) .none kV13 dc13 pm13 an13 cd13 ct13, sizes := PySem.W.fnOf "_law_sizes" "_law_sizes" (defArgs s_sizes) (defBody s_sizes) (defScope s_sizes) .none kV14 dc14 pm14 an14 cd14 ct14, small := PySem.W.fnOf "_law_small" "_law_small" (defArgs s_small) (defBody s_small) (defScope s_small) .none kV15 dc15 pm15 an15 cd15 ct15, goes := PySem.W.fnOf "_law_goes" "_law_goes" (defArgs s_goes) (defBody s_goes) (defScope s_goes) .none kV16 dc16 pm16 an16 cd16 ct16, deed := PySem.W.fnOf "_law_deed" "_law_deed" (defArgs s_deed) (defBody s_deed) (defScope s_deed) .none kV17 dc17 pm17 an17 cd17 ct17, lput := PySem.W.fnOf "_law_put" "_law_put" (defArgs s_lput) (defBody s_lput) (defScope s_lput) .none kV18 dc18 pm18 an18 cd18 ct18, loads := PySem.W.fnOf "_law_loads" "_law_loads" (defArgs s_loads) (defBody s_loads) (defScope s_loads) .none kV19 dc19 pm19 an19 cd19 ct19, good := PySem.W.fnOf "_law_good" "_law_good" (defArgs s_good) (defBody s_good) (defScope s_good) .none kV20 dc20 pm20 an20 cd20 ct20, one := PySem.W.fnOf "_law_one" "_law_one" (defArgs s_one) (defBody s_one) (defScope s_one) .none kV21 dc21 pm21 an21 cd21 ct21, law := PySem.W.fnOf "law" "law" (defArgs s_law) (defBody s_law) (defScope s_law) .none kV22 dc22 pm22 an22 cd22 ct22, init := PySem.W.fnOf "__init__" "Hall.__init__" (defArgs Hl.sInit) (defBody Hl.sInit) (defScope Hl.sInit) .none kV23 dc23 pm23 an23 cd23 ct23, put := PySem.W.fnOf "put" "Hall.put" (defArgs Hl.sPut) (defBody Hl.sPut) (defScope Hl.sPut) .none kV24 dc24 pm24 an24 cd24 ct24, drop := PySem.W.fnOf "drop" "Hall.drop" (defArgs Hl.sDrop) (defBody Hl.sDrop) (defScope Hl.sDrop) .none kV25 dc25 pm25 an25 cd25 ct25, calls := PySem.W.fnOf "calls" "Hall.calls" (defArgs Hl.sCalls) (defBody Hl.sCalls) (defScope Hl.sCalls) .none kV26 dc26 pm26 an26 cd26 ct26, lay := PySem.W.fnOf "lay" "Hall.lay" (defArgs Hl.sLay) (defBody Hl.sLay) (defScope Hl.sLay) .none kV27 dc27 pm27 an27 cd27 ct27, lift := PySem.W.fnOf "lift" "Hall.lift" (defArgs Hl.sLift) (defBody Hl.sLift) (defScope Hl.sLift) .none kV28 dc28 pm28 an28 cd28 ct28, room := PySem.W.fnOf "make_room" "Hall.make_room" (defArgs Hl.sRoom) (defBody Hl.sRoom) (defScope Hl.sRoom) .none kV29 dc29 pm29 an29 cd29 ct29, way := PySem.W.fnOf "way_from" "Hall.way_from" (defArgs Hl.sWay) (defBody Hl.sWay) (defScope Hl.sWay) .none kV30 dc30 pm30 an30 cd30 ct30, lin := PySem.W.fnOf "load_in" "Hall.load_in" (defArgs Hl.sLoadIn) (defBody Hl.sLoadIn) (defScope Hl.sLoadIn) .none kV31 dc31 pm31 an31 cd31 ct31, lout := PySem.W.fnOf "load_out" "Hall.load_out" (defArgs Hl.sLoadOut) (defBody Hl.sLoadOut) (defScope Hl.sLoadOut) .none kV32 dc32 pm32 an32 cd32 ct32 } := { bool_ := PySem.W.mg_none_of X G z_bool_, int_ := PySem.W.mg_none_of X G z_int_, isi := PySem.W.mg_none_of X G z_isi, len := PySem.W.mg_none_of X G z_len, list_ := PySem.W.mg_none_of X G z_list_, set_ := PySem.W.mg_none_of X G z_set_, tuple_ := PySem.W.mg_none_of X G z_tuple_, range := PySem.W.mg_none_of X G z_range, sorted_ := PySem.W.mg_none_of X G z_sorted_, zip_ := PySem.W.mg_none_of X G z_zip_, ends := ⟨_, PySem.W.mg_of X G v_ends⟩, frames := ⟨_, PySem.W.mg_of X G v_frames⟩, g_whole := PySem.W.mg_of X G a_whole, g_within := PySem.W.mg_of X G a_within, g_check := PySem.W.mg_of X G a_check, g_free := PySem.W.mg_of X G a_free, g_endAt := PySem.W.mg_of X G a_endAt, g_load := PySem.W.mg_of X G a_load, g_isFull := PySem.W.mg_of X G a_isFull, g_least := PySem.W.mg_of X G a_least, g_both := PySem.W.mg_of X G a_both, g_cell := PySem.W.mg_of X G a_cell, g_mix := PySem.W.mg_of X G a_mix, g_large := PySem.W.mg_of X G a_large, g_lwhole := PySem.W.mg_of X G a_lwhole, g_sizes := PySem.W.mg_of X G a_sizes, g_small := PySem.W.mg_of X G a_small, g_goes := PySem.W.mg_of X G a_goes, g_deed := PySem.W.mg_of X G a_deed, g_lput := PySem.W.mg_of X G a_lput, g_loads := PySem.W.mg_of X G a_loads, g_good := PySem.W.mg_of X G a_good, g_one := PySem.W.mg_of X G a_one, g_hall := PySem.W.mg_of X G a_hall, g_bad := PySem.W.mg_of X G a_bad, g_noEnd := PySem.W.mg_of X G a_noEnd, g_busy := PySem.W.mg_of X G a_busy, g_noCall := PySem.W.mg_of X G a_noCall, f_whole := F_whole, f_within := F_within, f_check := F_check, f_free := F_free, f_endAt := F_endAt, f_load := F_load, f_isFull := F_isFull, f_least := F_least, f_both := F_both, f_cell := F_cell, f_mix := F_mix, f_large := F_large, f_lwhole := F_lwhole, f_sizes := F_sizes, f_small := F_small, f_goes := F_goes, f_deed := F_deed, f_lput := F_lput, f_loads := F_loads, f_good := F_good, f_one := F_one, f_law := F_law, f_init := F_init, f_put := F_put, f_drop := F_drop, f_calls := F_calls, f_lay := F_lay, f_lift := F_lift, f_room := F_room, f_way := F_way, f_lin := F_lin, f_lout := F_lout, b_whole := b_whole, b_within := b_within, b_check := b_check, b_free := b_free, b_endAt := b_endAt, b_load := b_load, b_isFull := b_isFull, b_least := b_least, b_both := b_both, b_cell := b_cell, b_mix := b_mix, b_large := b_large, b_lwhole := b_lwhole, b_sizes := b_sizes, b_small := b_small, b_goes := b_goes, b_deed := b_deed, b_lput := b_lput, b_loads := b_loads, b_good := b_good, b_one := b_one, b_law := b_law, b_init := b_init, b_put := b_put, b_drop := b_drop, b_calls := b_calls, b_lay := b_lay, b_lift := b_lift, b_room := b_room, b_way := b_way, b_lin := b_lin, b_lout := b_lout, cls := ⟨pg, hdd, po, sa⟩, nI := n_nI, nO := n_nO, nS := n_nS, nN := n_nN, mkH := ⟨mkk, a_init, i_init, kcc⟩, m_put := ⟨a_put, i_put, k_put⟩, m_drop := ⟨a_drop, i_drop, k_drop⟩, m_calls := ⟨a_calls, i_calls, k_calls⟩, m_lay := ⟨a_lay, i_lay, k_lay⟩, m_lift := ⟨a_lift, i_lift, k_lift⟩, m_room := ⟨a_room, i_room, k_room⟩, m_way := ⟨a_way, i_way, k_way⟩, m_lin := ⟨a_lin, i_lin, k_lin⟩, m_lout := ⟨a_lout, i_lout, k_lout⟩, x_bad := ⟨x_bad⟩, x_noEnd := ⟨x_noEnd⟩, x_busy := ⟨x_busy⟩, x_noCall := ⟨x_noCall⟩, eYY := e_eYY }
  exact ⟨_, fun s v => .of_eq rfl, fun base _ _ => ok_lawS T⟩
theorem walk {l : PySem.W.OpenLaw} {q : Program} {loose : List Str} {XP : (Str → Option Value) → Heap → Prop} {YP : World → Heap → Prop} {d : DefRec} {K : Params → PySem.W.Frag} (hn : l.most = some 63) (hdf : d.params.defaults = [])
    (hY : ∀ (w : World) (h : Heap), YP w h → (K w.params).In h)
    (F : ∀ (w : World) (mg : Str → Option Value) (fa : Addr) (h : Heap), (K w.params).In h → h.Ns mainGlobals mg → mg d.name = some (.ref fa) →
      ∃ fd : FuncData, (∀ (s : Shared) (u : Value), BindsTo s fd ⟨[u], []⟩ [("_law_script", u)]) ∧ ∀ base : Heap, (K w.params).In base → base.Ns mainGlobals mg → FnOk l.prog w (K w.params) mg base (CXx l.prog w) 7 fa fd ["_law_script"] (spLaw (K w.params))) :
    PySem.W.WalkO q loose XP YP l.row.toRowW d [] (fun f vs => PySem.call f vs) :=
  L2.walk_of (n := 63) (k := 7) (x := "_law_script") (CX := fun w => CXx l.prog w) (sp := fun w => spLaw (K w.params)) hn (by decide) hdf ⟨rfl, by decide, by decide⟩ hY F (fun _ _ a ns hl _ hS => ⟨a, ns, rfl, hS, hl, fun _ => rfl⟩) fun _ _ _ _ _ z => (by
    obtain ⟨_, _, _, _, _, _, _, _, _, _, _, _, _, q⟩ := z
    exact q)
end Ka02
open PySem PySem.W PyProof.Rows
set_option maxRecDepth 100000 in
set_option maxHeartbeats 0 in
theorem PySem.Challenge.cw_switchhall_k02_whole_calls_are_put_throu_holds : PySem.Challenge.rw_switchhall_k02_whole_calls_are_put_throu.Holds := by
  w_on; o_law; k_head; (case hw => w_witness2)
  k_fill
  refine Ka02.walk (l := PySem.Challenge.rw_switchhall_k02_whole_calls_are_put_throu) rfl rfl (fun w h Y => PySem.W.kIn_of Y) ?F
  case F =>
    intro w mg fa h KX G hmg
    refine' Ka02.all_mk KX G hmg ?a_whole ?l_whole ?c_whole ?k_whole ?a_within ?l_within ?c_within ?k_within ?a_check ?l_check ?c_check ?k_check ?a_free ?l_free ?c_free ?k_free ?a_endAt ?l_endAt ?c_endAt ?k_endAt ?a_load ?l_load ?c_load ?k_load ?a_isFull ?l_isFull ?c_isFull ?k_isFull ?a_least ?l_least ?c_least ?k_least ?a_both ?l_both ?c_both ?k_both ?a_cell ?l_cell ?c_cell ?k_cell ?a_mix ?l_mix ?c_mix ?k_mix ?a_large ?l_large ?c_large ?k_large ?a_lwhole ?l_lwhole ?c_lwhole ?k_lwhole ?a_sizes ?l_sizes ?c_sizes ?k_sizes ?a_small ?l_small ?c_small ?k_small ?a_goes ?l_goes ?c_goes ?k_goes ?a_deed ?l_deed ?c_deed ?k_deed ?a_lput ?l_lput ?c_lput ?k_lput ?a_loads ?l_loads ?c_loads ?k_loads ?a_good ?l_good ?c_good ?k_good ?a_one ?l_one ?c_one ?k_one ?a_law ?l_law ?c_law ?k_law ?a_hall ?a_init ?i_init ?l_init ?c_init ?k_init ?a_put ?i_put ?l_put ?c_put ?k_put ?a_drop ?i_drop ?l_drop ?c_drop ?k_drop ?a_calls ?i_calls ?l_calls ?c_calls ?k_calls ?a_lay ?i_lay ?l_lay ?c_lay ?k_lay ?a_lift ?i_lift ?l_lift ?c_lift ?k_lift ?a_room ?i_room ?l_room ?c_room ?k_room ?a_way ?i_way ?l_way ?c_way ?k_way ?a_lin ?i_lin ?l_lin ?c_lin ?k_lin ?a_lout ?i_lout ?l_lout ?c_lout ?k_lout ?pg ?hdd ?po ?sa ?mkk ?kcc ?n_nI ?n_nO ?n_nS ?n_nN ?a_bad ?x_bad ?a_noEnd ?x_noEnd ?a_busy ?x_busy ?a_noCall ?x_noCall ?v_ends ?v_frames ?z_bool_ ?z_int_ ?z_isi ?z_len ?z_list_ ?z_set_ ?z_tuple_ ?z_range ?z_sorted_ ?z_zip_ ?e_eYY
    (case a_whole => k_is)
    (case l_whole => k_is)
    (case c_whole => k_is)
    (case k_whole => k_is)
    (case a_within => k_is)
    (case l_within => k_is)
    (case c_within => k_is)
    (case k_within => k_is)
    (case a_check => k_is)
    (case l_check => k_is)
    (case c_check => k_is)
    (case k_check => k_is)
    (case a_free => k_is)
    (case l_free => k_is)
    (case c_free => k_is)
    (case k_free => k_is)
    (case a_endAt => k_is)
    (case l_endAt => k_is)
    (case c_endAt => k_is)
    (case k_endAt => k_is)
    (case a_load => k_is)
    (case l_load => k_is)
    (case c_load => k_is)
    (case k_load => k_is)
    (case a_isFull => k_is)
    (case l_isFull => k_is)
    (case c_isFull => k_is)
    (case k_isFull => k_is)
    (case a_least => k_is)
    (case l_least => k_is)
    (case c_least => k_is)
    (case k_least => k_is)
    (case a_both => k_is)
    (case l_both => k_is)
    (case c_both => k_is)
    (case k_both => k_is)
    (case a_cell => k_is)
    (case l_cell => k_is)
    (case c_cell => k_is)
    (case k_cell => k_is)
    (case a_mix => k_is)
    (case l_mix => k_is)
    (case c_mix => k_is)
    (case k_mix => k_is)
    (case a_large => k_is)
    (case l_large => k_is)
    (case c_large => k_is)
    (case k_large => k_is)
    (case a_lwhole => k_is)
    (case l_lwhole => k_is)
    (case c_lwhole => k_is)
    (case k_lwhole => k_is)
    (case a_sizes => k_is)
    (case l_sizes => k_is)
    (case c_sizes => k_is)
    (case k_sizes => k_is)
    (case a_small => k_is)
    (case l_small => k_is)
    (case c_small => k_is)
    (case k_small => k_is)
    (case a_goes => k_is)
    (case l_goes => k_is)
    (case c_goes => k_is)
    (case k_goes => k_is)
    (case a_deed => k_is)
    (case l_deed => k_is)
    (case c_deed => k_is)
    (case k_deed => k_is)
    (case a_lput => k_is)
    (case l_lput => k_is)
    (case c_lput => k_is)
    (case k_lput => k_is)
    (case a_loads => k_is)
    (case l_loads => k_is)
    (case c_loads => k_is)
    (case k_loads => k_is)
    (case a_good => k_is)
    (case l_good => k_is)
    (case c_good => k_is)
    (case k_good => k_is)
    (case a_one => k_is)
    (case l_one => k_is)
    (case c_one => k_is)
    (case k_one => k_is)
    (case a_law => k_is)
    (case l_law => k_is)
    (case c_law => k_is)
    (case k_law => k_is)
    (case a_hall => k_is)
    (case a_init => k_is)
    (case i_init => k_is)
    (case l_init => k_is)
    (case c_init => k_is)
    (case k_init => k_is)
    (case a_put => k_is)
    (case i_put => k_is)
    (case l_put => k_is)
    (case c_put => k_is)
    (case k_put => k_is)
    (case a_drop => k_is)
    (case i_drop => k_is)
    (case l_drop => k_is)
    (case c_drop => k_is)
    (case k_drop => k_is)
    (case a_calls => k_is)
    (case i_calls => k_is)
    (case l_calls => k_is)
    (case c_calls => k_is)
    (case k_calls => k_is)
    (case a_lay => k_is)
    (case i_lay => k_is)
    (case l_lay => k_is)
    (case c_lay => k_is)
    (case k_lay => k_is)
    (case a_lift => k_is)
    (case i_lift => k_is)
    (case l_lift => k_is)
    (case c_lift => k_is)
    (case k_lift => k_is)
    (case a_room => k_is)
    (case i_room => k_is)
    (case l_room => k_is)
    (case c_room => k_is)
    (case k_room => k_is)
    (case a_way => k_is)
    (case i_way => k_is)
    (case l_way => k_is)
    (case c_way => k_is)
    (case k_way => k_is)
    (case a_lin => k_is)
    (case i_lin => k_is)
    (case l_lin => k_is)
    (case c_lin => k_is)
    (case k_lin => k_is)
    (case a_lout => k_is)
    (case i_lout => k_is)
    (case l_lout => k_is)
    (case c_lout => k_is)
    (case k_lout => k_is)
    (case pg => k_is)
    (case hdd => k_is)
    (case po => k_is)
    (case sa => k_is)
    (case mkk => k_is)
    (case kcc => k_is)
    (case n_nI => k_is)
    (case n_nO => k_is)
    (case n_nS => k_is)
    (case n_nN => k_is)
    (case a_bad => k_is)
    (case x_bad => k_exc)
    (case a_noEnd => k_is)
    (case x_noEnd => k_exc)
    (case a_busy => k_is)
    (case x_busy => k_exc)
    (case a_noCall => k_is)
    (case x_noCall => k_exc)
    (case v_ends => k_is)
    (case v_frames => k_is)
    (case z_bool_ => k_is)
    (case z_int_ => k_is)
    (case z_isi => k_is)
    (case z_len => k_is)
    (case z_list_ => k_is)
    (case z_set_ => k_is)
    (case z_tuple_ => k_is)
    (case z_range => k_is)
    (case z_sorted_ => k_is)
    (case z_zip_ => k_is)
    (case e_eYY => kts_exm)
