import PyProof.Rows.All
import Wide.All
import OpenK.AllK
import Wide.FinOn
import Lean
import PyProof.EqAt
import PyProof.EqKinds
import PyProof.TupleCall
import PySem.Challenge.RW_switchhall_k26_whole_all_that_words_make
set_option Elab.async false
set_option linter.all false
set_option maxRecDepth 100000
namespace L2
open PySem PySem.Spec PyProof.Rows
abbrev Key := Sum Int Str
def keyIs : Key → Value → Bool
  | .inl k, v => Value.isInt k v
  | .inr x, v => Value.isStrOf x v
def keyH (w : World) : Key → Int
  | .inl k => hashInt k
  | .inr x => hashStr w x
theorem keyIs_shape : ∀ {k : Key} {v : Value}, keyIs k v = true → (∃ i t, k = Sum.inl i ∧ v = Value.int i t) ∨ (∃ x t, k = Sum.inr x ∧ v = Value.str x t)
  | .inl i, v, h => by
    obtain ⟨t, e⟩ := Value.isInt_shape (k := i) (v := v) h
    exact .inl ⟨i, t, rfl, e⟩
  | .inr x, v, h => by
    obtain ⟨t, e⟩ := Value.isStrOf_shape (x := x) (v := v) h
    exact .inr ⟨x, t, rfl, e⟩
theorem keyIs_int (i : Int) (t : Tok) : keyIs (.inl i) (.int i t) = true := by simp [keyIs, Value.isInt]
theorem keyIs_str (x : Str) (t : Tok) : keyIs (.inr x) (.str x t) = true := by simp [keyIs, Value.isStrOf]
theorem key_ll (a b : Int) : decide ((Sum.inl a : Key) = Sum.inl b) = (a == b) := by
  by_cases e : a = b
  · subst e; simp
  · have h : ¬ (Sum.inl a : Key) = Sum.inl b := fun q => e (Sum.inl.inj q)
    rw [decide_eq_false h]
    exact (beq_eq_false_iff_ne.mpr e).symm
theorem key_rr (a b : Str) : decide ((Sum.inr a : Key) = Sum.inr b) = decide (a = b) := by
  by_cases e : a = b
  · subst e; simp
  · have h : ¬ (Sum.inr a : Key) = Sum.inr b := fun q => e (Sum.inr.inj q)
    rw [decide_eq_false h, decide_eq_false e]
theorem key_lr (a : Int) (b : Str) : decide ((Sum.inl a : Key) = Sum.inr b) = false := decide_eq_false (fun q => nomatch q)
theorem key_rl (a : Str) (b : Int) : decide ((Sum.inr a : Key) = Sum.inl b) = false := decide_eq_false (fun q => nomatch q)
def mixKind (prog : Program) (w : World) : PySem.KeyKind prog w Key where
  is := keyIs
  hash := keyH w
  inj := fun v a b ha hb => by
    rcases keyIs_shape ha with ⟨i, t, rfl, rfl⟩ | ⟨x, t, rfl, rfl⟩
    · rcases keyIs_shape hb with ⟨j, u, rfl, e⟩ | ⟨y, u, rfl, e⟩
      · injection e with e1 _; rw [e1]
      · exact nomatch e
    · rcases keyIs_shape hb with ⟨j, u, rfl, e⟩ | ⟨y, u, rfl, e⟩
      · exact nomatch e
      · injection e with e1 _; rw [e1]
  byValue := fun k v h => by
    rcases keyIs_shape h with ⟨i, t, rfl, rfl⟩ | ⟨x, t, rfl, rfl⟩ <;> rfl
  pyHash := fun hv h => by
    rcases keyIs_shape hv with ⟨i, t, rfl, rfl⟩ | ⟨x, t, rfl, rfl⟩
    · exact wpAny_pyHash_int h
    · exact wpAny_pyHash_str h
  eqBool := fun hu hv h => by
    rcases keyIs_shape hu with ⟨i, t, rfl, rfl⟩ | ⟨x, t, rfl, rfl⟩
    · rcases keyIs_shape hv with ⟨j, u, rfl, rfl⟩ | ⟨y, u, rfl, rfl⟩
      · rw [key_ll] at h; exact wpAny_eqBool_int h
      · rw [key_lr] at h; exact SeqAt.EqAt.int_str i t y u _ _ _ _ h
    · rcases keyIs_shape hv with ⟨j, u, rfl, rfl⟩ | ⟨y, u, rfl, rfl⟩
      · rw [key_rl] at h; exact SeqAt.EqAt.str_int x t j u _ _ _ _ h
      · rw [key_rr] at h; exact wpAny_eqBool_str h
  «strs» := fun k x t v h => by
    rcases keyIs_shape h with ⟨i, u, rfl, e⟩ | ⟨y, u, rfl, e⟩
    · exact nomatch e
    · injection e with e1 _
      subst e1
      cases v <;> rfl
theorem mixKind_int (prog : Program) (w : World) (i : Int) (t : Tok) : (mixKind prog w).is (.inl i) (.int i t) = true := keyIs_int i t
theorem mixKind_str (prog : Program) (w : World) (x : Str) (t : Tok) : (mixKind prog w).is (.inr x) (.str x t) = true := keyIs_str x t
end L2
namespace L2
open PySem PySem.Spec PyProof.Rows
inductive V where
  | non | bl (b : Bool) | int (i : Int) | str (x : Str) | byt (b : Array UInt8) | flt (b : UInt64) | ref (a : Addr) | ty (n : String)
  deriving DecidableEq
def RelV : V → Value → Prop
  | .non, u => u = Value.none
  | .bl b, u => u = Value.bool b
  | .int i, u => ∃ t, u = Value.int i t
  | .str x, u => ∃ t, u = Value.str x t
  | .byt b, u => ∃ t, u = Value.bytes b t
  | .flt b, u => ∃ t, u = Value.float b t
  | .ref a, u => u = Value.ref a
  | .ty n, u => u = Value.type n
abbrev Vals : List V → List Value → Prop := Paired RelV
theorem Vals.length {xs : List V} {us : List Value} (r : Vals xs us) : xs.length = us.length := Paired.length r
theorem Vals.get : ∀ {xs : List V} {us : List Value} {i : Nat} {x : V}, Vals xs us → xs[i]? = some x → ∃ u, us[i]? = some u ∧ RelV x u
  | _, _, _, _, .nil, e => by simp at e
  | _, _, 0, _, .cons r _, e => by simp at e; subst e; exact ⟨_, rfl, r⟩
  | _, _, i + 1, x, .cons _ t, e => by
    obtain ⟨u, h1, h2⟩ := Vals.get (i := i) (x := x) t (by simpa using e)
    exact ⟨u, by simpa using h1, h2⟩
theorem Vals.append : ∀ {xs ys : List V} {us ws : List Value}, Vals xs us → Vals ys ws → Vals (xs ++ ys) (us ++ ws)
  | _, _, _, _, .nil, s => s
  | _, _, _, _, .cons r t, s => .cons r (Vals.append t s)
theorem Vals.take : ∀ {xs : List V} {us : List Value} (n : Nat), Vals xs us → Vals (xs.take n) (us.take n)
  | _, _, 0, _ => .nil
  | _, _, _ + 1, .nil => .nil
  | _, _, n + 1, .cons r t => .cons r (Vals.take n t)
theorem Vals.drop : ∀ {xs : List V} {us : List Value} (n : Nat), Vals xs us → Vals (xs.drop n) (us.drop n)
  | _, _, 0, r => r
  | _, _, _ + 1, .nil => .nil
  | _, _, n + 1, .cons _ t => Vals.drop n t
def RelO : Option V → Option Value → Prop
  | some v, some u => RelV v u
  | none, none => True
  | _, _ => False
def KV {κ : Type} : List (κ × V) → List (κ × Value) → Prop := Paired fun (p : κ × V) (q : κ × Value) => p.1 = q.1 ∧ RelV p.2 q.2
def kV : Key → V
  | .inl i => .int i
  | .inr x => .str x
inductive HO where
  /-- a list -/
  | lst (xs : List V)
  /-- a tuple (never changes) -/
  | tup (xs : List V)
  /-- a dict whose keys are ints and texts; one whose keys are tuples of ints and texts (the empty one is both) -/
  | dK (kvs : List (Key × V)) | dT (kvs : List (List Key × V))
  /-- a set of ints: its members, its size -/
  | set (S : Int → Bool) (n : Nat)
  /-- an instance of the class at C, its dict at dx, its attributes -/
  | ins (C dx : Addr) (fs : List (Str × V))
  /-- the dict of the instance at x -/
  | own (x : Addr)
  /-- the dict of an exception -/
  | xd (fs : List (Str × V))
  /-- a bound method, f of x -/
  | met (f x : Addr)
  /-- a range object lo, lo + 1, .. below hi -/
  | rng (lo hi : Int)
  /-- a thing that is known to the object (the script; a dict while a loop walks it): read, never written while it is so -/
  | frz (o : Obj) (u : HO)
  /-- a code object's table -/
  | tbl (ps : Array Value)
  /-- any other thing, by what is true of its one object (a def of one's own: SetO a S n := HO.ext fun h => ..) -/
  | ext (φ : Heap → Prop)
abbrev Hp := Addr → Option HO
def upd (H : Hp) (a : Addr) (o : HO) : Hp := fun b => if b = a then some o else H b
theorem upd_same {H : Hp} {a : Addr} {o : HO} : upd H a o a = some o := by unfold upd; rw [if_pos rfl]
theorem upd_ne {H : Hp} {a b : Addr} {o : HO} (h : b ≠ a) : upd H a o b = H b := by unfold upd; rw [if_neg h]
theorem ne_of {H : Hp} {a b : Addr} {o u : HO} (h : H a = some o) (h' : H b = some u) (d : o ≠ u) : a ≠ b := by
  intro e; subst e; rw [h] at h'; exact d (Option.some.inj h')
theorem ne_of_none {H : Hp} {a b : Addr} {o : HO} (h : H a = some o) (h' : H b = none) : a ≠ b := by
  intro e; subst e; rw [h] at h'; cases h'
section
variable (P : Program) (w : World)
def ObjOk (H : Hp) (h : Heap) (a : Addr) : HO → Prop
  | .lst xs => xs.length ≤ sizeLine ∧ ∃ (its : List Value) (n : Nat), Vals xs its ∧ h.get? a = some { cls := .type "list", data := .seq its.toArray n }
  | .tup xs => xs.length ≤ sizeLine ∧ ∃ its : List Value, Vals xs its ∧ IsTup h a its.toArray
  | .dK kvs => kvs.length ≤ sizeLine ∧ (a == sysModules) = false ∧ ∃ vs, KV kvs vs ∧ h.DictOf (mixKind P w) a vs
  | .dT kvs => kvs.length ≤ sizeLine ∧ (a == sysModules) = false ∧ ∃ xs : List (List Key × Addr × Value),
      Paired (fun (p : List Key × V) (q : List Key × Addr × Value) => p.1 = q.1 ∧ H q.2.1 = some (.tup (p.1.map kV)) ∧ RelV p.2 q.2.2) kvs xs ∧
      ∃ o es ep, h.get? a = some o ∧ o.ExactDict ∧ o.data = .dict es ep ∧ es.toList = xs.map (entryOfKey (tupleKind (mixKind P w))) ∧ (xs.map (·.1)).Nodup
  | .set S n => h.SetOf (intKind P w) a S n
  | .ins C dx fs => H dx = some (.own a) ∧ fs.length ≤ 1000 ∧ dx ≠ a ∧ h.get? a = some (PySem.W.instObj C dx) ∧
      ∃ mA, h.Ns1 dx mA ∧ (∀ f, RelO (fs.lookup f) (mA f)) ∧ PySem.Within mA (fs.map (·.1))
  | .own _ => ∃ o, h.get? a = some o
  | .xd fs => ∃ mA, h.Ns1 a mA ∧ ∀ f, RelO (fs.lookup f) (mA f)
  | .rng lo hi => ∃ t u v, h.get? a = some { cls := .type "range", data := .fields #[.int lo t, .int hi u, .int 1 v] }
  | .frz o u => h.get? a = some o ∧ ObjOk H h a u
  | .tbl ps => h.get? a = some { cls := .none, data := .fields ps }
  | .met f x => h.get? a = some (PySem.W.methodObj (.ref f) (.ref x))
  | .ext φ => φ h ∧ (∃ o, h.get? a = some o) ∧ ∀ h1 h2 : Heap, φ h1 → (∀ o, h1.get? a = some o → h2.get? a = some o) → φ h2
def HOk (H : Hp) (h : Heap) : Prop := ∀ a o, H a = some o → ObjOk P w H h a o
end
section
variable {P : Program} {w : World} {H H' : Hp} {h h' : Heap} {a : Addr} {o : HO}
theorem ObjOk.lt (x : ObjOk P w H h a o) : a < h.objs.size := by
  cases o with
  | lst xs => obtain ⟨_, _, _, _, e⟩ := x; exact Heap.lt_size e
  | tup xs => obtain ⟨_, _, _, p⟩ := x; exact p.lt
  | dK kvs => obtain ⟨_, _, _, _, o, _, _, e, _⟩ := x; exact Heap.lt_size e
  | dT kvs => obtain ⟨_, _, _, _, o, _, _, e, _⟩ := x; exact Heap.lt_size e
  | set S n => obtain ⟨o, _, _, _, e, _⟩ := x; exact Heap.lt_size e
  | ins C dx fs => obtain ⟨_, _, _, e, _⟩ := x; exact Heap.lt_size e
  | own y => obtain ⟨_, e⟩ := x; exact Heap.lt_size e
  | xd fs => obtain ⟨_, ⟨_, _, _, e, _⟩, _⟩ := x; exact Heap.lt_size e
  | rng lo hi => obtain ⟨_, _, _, e⟩ := x; exact Heap.lt_size e
  | frz ob u => obtain ⟨e, _⟩ := x; exact Heap.lt_size e
  | tbl ps => exact Heap.lt_size (show h.get? a = some _ from x)
  | met f y => exact Heap.lt_size (show h.get? a = some _ from x)
  | ext φ => obtain ⟨_, ⟨_, e⟩, _⟩ := x; exact Heap.lt_size e
theorem Paired.mapP {α β : Type} {F G : α → β → Prop} : ∀ {l₁ : List α} {l₂ : List β}, Paired F l₁ l₂ → (∀ a b, F a b → G a b) → Paired G l₁ l₂
  | _, _, .nil, _ => .nil
  | _, _, .cons r t, f => .cons (f _ _ r) (Paired.mapP t f)
theorem ObjOk.stay (x : ObjOk P w H h a o) (k : ∀ b u, (b = a ∨ H b = some (.own a)) → h.get? b = some u → h'.get? b = some u)
    (ho : ∀ b, H b = some (.own a) → H' b = some (.own a)) (ht : ∀ b xs, H b = some (.tup xs) → H' b = some (.tup xs)) : ObjOk P w H' h' a o := by
  induction o with
  | lst xs => obtain ⟨z, its, n, r, e⟩ := x; exact ⟨z, its, n, r, k _ _ (.inl rfl) e⟩
  | tup xs => obtain ⟨z, its, r, ob, e, c⟩ := x; exact ⟨z, its, r, ob, k _ _ (.inl rfl) e, c⟩
  | dK kvs => obtain ⟨z, y, vs, r, ob, es, ep, e, c⟩ := x; exact ⟨z, y, vs, r, ob, es, ep, k _ _ (.inl rfl) e, c⟩
  | dT kvs =>
    obtain ⟨z, y, xs, r, ob, es, ep, e, c⟩ := x
    exact ⟨z, y, xs, Paired.mapP r fun p q z => ⟨z.1, ht _ _ z.2.1, z.2.2⟩, ob, es, ep, k _ _ (.inl rfl) e, c⟩
  | set S n => obtain ⟨ob, es, ep, t, e, c⟩ := x; exact ⟨ob, es, ep, t, k _ _ (.inl rfl) e, c⟩
  | ins C dx fs =>
    obtain ⟨d, z, ne, e, mA, ⟨od, es, ep, e2, c⟩, r⟩ := x
    exact ⟨ho _ d, z, ne, k _ _ (.inl rfl) e, mA, ⟨od, es, ep, k _ _ (.inr d) e2, c⟩, r⟩
  | own y => obtain ⟨ob, e⟩ := x; exact ⟨ob, k _ _ (.inl rfl) e⟩
  | xd fs => obtain ⟨mA, ⟨od, es, ep, e, c⟩, r⟩ := x; exact ⟨mA, ⟨od, es, ep, k _ _ (.inl rfl) e, c⟩, r⟩
  | rng lo hi => obtain ⟨t, u, v, e⟩ := x; exact ⟨t, u, v, k _ _ (.inl rfl) e⟩
  | frz ob u ih => obtain ⟨e, q⟩ := x; exact ⟨k _ _ (.inl rfl) e, ih q⟩
  | tbl ps =>
    have e : h.get? a = some { cls := .none, data := .fields ps } := x
    show h'.get? a = some { cls := .none, data := .fields ps }
    exact k a _ (.inl rfl) e
  | met f y =>
    have e : h.get? a = some (PySem.W.methodObj (.ref f) (.ref y)) := x
    show h'.get? a = some (PySem.W.methodObj (.ref f) (.ref y))
    exact k a _ (.inl rfl) e
  | ext φ => obtain ⟨p, ⟨o, e⟩, st⟩ := x; exact ⟨st _ _ p fun o q => k _ _ (.inl rfl) q, ⟨o, k _ _ (.inl rfl) e⟩, st⟩
theorem HOk.lt (x : HOk P w H h) (e : H a = some o) : a < h.objs.size := (x a o e).lt
theorem HOk.fresh (x : HOk P w H h) (e : h.objs.size ≤ a) : H a = none := by
  cases q : H a with
  | none => rfl
  | some u => exact absurd (Nat.lt_of_lt_of_le (x.lt q) e) (Nat.lt_irrefl _)
theorem HOk.kept (x : HOk P w H h) (k : ∀ b u, h.get? b = some u → h'.get? b = some u) : HOk P w H h' := fun a o e =>
  (x a o e).stay (fun b u _ q => k b u q) (fun _ q => q) fun _ _ q => q
theorem HOk.laid (x : HOk P w H h) (k : ∀ b u, h.get? b = some u → h'.get? b = some u) (hp : h.objs.size ≤ a) (new : ObjOk P w (upd H a o) h' a o) : HOk P w (upd H a o) h' := fun b u e => by
  have hn := x.fresh hp
  by_cases hb : b = a
  · subst hb; rw [upd_same] at e; cases e; exact new
  · rw [upd_ne hb] at e
    exact (x b u e).stay (fun c v _ q => k c v q) (fun c q => by rw [upd_ne (ne_of_none q hn)]; exact q) fun c xs q => by rw [upd_ne (ne_of_none q hn)]; exact q
end
def Rd (H : Hp) (a : Addr) (u : HO) : Prop := H a = some u ∨ ∃ o, H a = some (.frz o u)
theorem Rd.ok {P : Program} {w : World} {H : Hp} {h : Heap} {a : Addr} {u : HO} (r : Rd H a u) (x : HOk P w H h) : ObjOk P w H h a u := by
  rcases r with r | ⟨o, r⟩
  · exact x a u r
  · obtain ⟨_, q⟩ := x a _ r
    exact q
def Mut : Option HO → Prop
  | some (.lst _) => True
  | some (.dK _) => True
  | some (.dT _) => True
  | some (.set _ _) => True
  | some (.ins _ _ _) => True
  | some (.ext _) => True
  | _ => False
section
variable {P : Program} {w : World} {H : Hp} {h h' : Heap} {x e : Addr} {o' : HO}
theorem HOk.write (ok : HOk P w H h) (mu : Mut (H x)) (he : e = x ∨ H e = some (.own x)) (k : ∀ b u, b ≠ e → h.get? b = some u → h'.get? b = some u) (heo : ∃ u, h'.get? e = some u)
    (new : ObjOk P w (upd H x o') h' x o') : HOk P w (upd H x o') h' := fun b u q => by
  have nown : ∀ c y, H c = some (.own y) → c ≠ x := fun c y r z => by subst z; rw [r] at mu; exact mu
  have ntup : ∀ c xs, H c = some (.tup xs) → c ≠ x := fun c xs r z => by subst z; rw [r] at mu; exact mu
  by_cases hb : b = x
  · subst hb; rw [upd_same] at q; cases q; exact new
  · rw [upd_ne hb] at q
    by_cases hbe : b = e
    · have q' : H b = some (.own x) := by
        rcases he with z | z
        · exact absurd (hbe.trans z) hb
        · rw [hbe]; exact z
      rw [q] at q'; cases q'
      obtain ⟨v, hv⟩ := heo
      exact ⟨v, by rw [hbe]; exact hv⟩
    · refine (ok b u q).stay (fun c v hc r => k c v ?_ r) (fun c r => by rw [upd_ne (nown c b r)]; exact r) fun c xs r => by rw [upd_ne (ntup c xs r)]; exact r
      rcases hc with rfl | hc
      · exact hbe
      · rintro rfl
        rcases he with z | z
        · exact nown c b hc z
        · rw [hc] at z; cases z; exact hb rfl
end
structure Un (fs ex : List Addr) (H H' : Hp) (h h' : Heap) : Prop where
  keep : ∀ b o, h.get? b = some o → H b = none → b ∉ fs → b ∉ ex → h'.get? b = some o
  slot : ∀ b o, h.get? b = some o → H b = none → b ∈ fs → b ∉ ex → ∃ sl, h'.get? b = some { o with slots := sl }
  free : ∀ b o, h.get? b = some o → H b = none → b ∉ ex → H' b = none
  there : ∀ b o, h.get? b = some o → b ∉ ex → ∃ o', h'.get? b = some o'
  tups : ∀ b xs, H b = some (.tup xs) → H' b = some (.tup xs)
  frzs : ∀ b o u, H b = some (.frz o u) → H' b = some (.frz o u)
  tbls : ∀ b ps, H b = some (.tbl ps) → ∃ more, H' b = some (.tbl (ps ++ more))
section
variable {fs fs' ex ex' : List Addr} {H H1 H2 : Hp} {h h1 h2 h' : Heap} {a x e : Addr} {o : HO}
theorem Un.any (u : Un fs ex H H1 h h1) {b : Addr} {ob : Obj} (q : h.get? b = some ob) (n : H b = none) (hx : b ∉ ex) : ∃ sl, h1.get? b = some { ob with slots := sl } := by
  by_cases hb : b ∈ fs
  · exact u.slot b ob q n hb hx
  · exact ⟨ob.slots, u.keep b ob q n hb hx⟩
theorem Un.kept (k : ∀ b u, h.get? b = some u → h'.get? b = some u) : Un fs ex H H h h' :=
  ⟨fun b ob q _ _ _ => k b ob q, fun b ob q _ _ _ => ⟨ob.slots, k b ob q⟩, fun _ _ _ n _ => n, fun b ob q _ => ⟨ob, k b ob q⟩, fun _ _ q => q, fun _ _ _ q => q, fun _ ps q => ⟨#[], by rw [q]; simp⟩⟩
theorem Un.refl : Un fs ex H H h h := Un.kept fun _ _ q => q
theorem Un.laid (k : ∀ b u, h.get? b = some u → h'.get? b = some u) (hp : h.objs.size ≤ a) (hn : H a = none) : Un fs ex H (upd H a o) h h' where
  keep := fun b u q _ _ _ => k b u q
  slot := fun b u q _ _ _ => ⟨u.slots, k b u q⟩
  free := fun b u q n _ => by rw [upd_ne (Nat.ne_of_lt (Nat.lt_of_lt_of_le (Heap.lt_size q) hp))]; exact n
  there := fun b u q _ => ⟨u, k b u q⟩
  tups := fun b xs q => by rw [upd_ne (ne_of_none q hn)]; exact q
  frzs := fun b u xs q => by rw [upd_ne (ne_of_none q hn)]; exact q
  tbls := fun b ps q => ⟨#[], by rw [upd_ne (ne_of_none q hn), q]; simp⟩
theorem Un.write (mu : Mut (H x)) (he : e = x ∨ H e = some (.own x)) (k : ∀ b u, b ≠ e → h.get? b = some u → h'.get? b = some u) (heo : ∃ u, h'.get? e = some u) : Un fs ex H (upd H x o) h h' := by
  have hx : ∀ b, H b = none → b ≠ x := fun b n z => by subst z; rw [n] at mu; exact mu
  have hb : ∀ b, H b = none → b ≠ e := fun b n z => by
    subst z
    rcases he with r | r
    · exact hx b n r
    · rw [n] at r; cases r
  have hm : ∀ b u, H b = some u → ¬ Mut (some u) → b ≠ x := fun b u q nm z => by subst z; rw [q] at mu; exact nm mu
  refine ⟨fun b u q n _ _ => k b u (hb b n) q, fun b u q n _ _ => ⟨u.slots, k b u (hb b n) q⟩, fun b u q n _ => by rw [upd_ne (hx b n)]; exact n, fun b u q _ => ?_,
    fun b xs q => by rw [upd_ne (hm b _ q fun z => z)]; exact q, fun b u xs q => by rw [upd_ne (hm b _ q fun z => z)]; exact q, fun b ps q => ⟨#[], by rw [upd_ne (hm b _ q fun z => z), q]; simp⟩⟩
  by_cases hbe : b = e
  · subst hbe; exact heo
  · exact ⟨u, k b u hbe q⟩
end
def trk (h : Heap) (H : Hp) : List Addr := (List.range h.objs.size).filter fun a => (H a).isSome
def hidT (h : Heap) (H : Hp) : Heap := PySem.W.hideAll h (trk h H)
theorem hidT_size (h : Heap) (H : Hp) : (hidT h H).objs.size = h.objs.size := PySem.W.hideAll_size _ _
theorem hidT_get {h : Heap} {H : Hp} {b : Addr} {o : Obj} (e : h.get? b = some o) (n : H b = none) : (hidT h H).get? b = some o :=
  PySem.W.hideAll_get _ e fun hm => by
    have q : (H b).isSome = true := (List.mem_filter.mp hm).2
    rw [n] at q; simp at q
theorem of_hidT {h : Heap} {H : Hp} {b : Addr} {o : Obj} (e : (hidT h H).get? b = some o) : h.get? b = some o ∧ H b = none := by
  have e' : h.get? b = some o := PySem.W.of_hideAll (trk h H) e
  refine ⟨e', ?_⟩
  cases q : H b with
  | none => rfl
  | some x =>
    have hm : b ∈ trk h H := List.mem_filter.mpr ⟨List.mem_range.mpr (Heap.lt_size e'), by simp [q]⟩
    have z : (hidT h H).get? b = none := PySem.W.hideAll_none (trk h H) hm
    rw [z] at e; cases e
def allNews (g h : Heap) (L : Addr) : List (Addr × Obj) := (List.range h.objs.size).filterMap fun a => if a = L ∨ (g.get? a).isSome = true then none else (h.get? a).map fun o => (a, o)
def rest (g h : Heap) (L d : Addr) : List (Addr × Obj) := (allNews g h L).filter fun p => decide (p.1 ≠ d)
end L2
namespace L2
open PySem PySem.Spec PyProof.Rows
structure Mod (K : PySem.W.Frag) (mg : Str → Option Value) (base : Heap) : Prop where
  kin : K.In base
  glob : base.Ns mainGlobals mg
  blt : ∃ mb, base.Ns builtinsNs mb ∧ ∀ x : Str, x ≠ "__name__" → mb x = bootBuiltins x
  nolimit : base.NoLimit
/-- the context: a def's body (or a comprehension's block) running. base: fixed through the whole law; s₀, H₀: the entry; outer: the frames whose slots others may change (a def's callers); stack: all frames that run;
   ex: iterators that were made ahead of the entry and are walked here (a comprehension's); fn: the names whose cells were made at the entry (a def: all; a comprehension's block: its own); calm: not within an except suite; pn: pins that every state bears; xe: what is wanted of an exception that leaves the code -/
structure Cx where
  prog : Program
  w : World
  K : PySem.W.Frag
  mg : Str → Option Value
  base : Heap
  A : Around
  N : List Str
  s₀ : Shared
  H₀ : Hp
  env : Env
  outer : List Env
  stack : List Env
  ex : List Addr
  fn : Str → Bool
  calm : Bool
  pn : List (Addr × Obj)
  xe : Value → Shared → Prop
def frs (l : List Env) : List Addr := l.filterMap (·.frame)
abbrev Cx.fs (X : Cx) : List Addr := frs X.outer
def Vis (sc : Scope) (x : Str) : Prop := sc.names.lookup x = some .local ∨ sc.names.lookup x = some .cell ∨ sc.names.lookup x = some .free
def Loc (sc : Scope) (x : Str) : Prop := sc.names.lookup x = some .local ∨ sc.names.lookup x = some .cell
def Look (env : Env) (h : Heap) (m : Str → Option Value) (x : Str) (u : Value) : Prop :=
  (env.kindOf x = some .local ∧ m x = some u) ∨ ((env.kindOf x = some .cell ∨ env.kindOf x = some .free) ∧ ∃ c, env.cells.lookup x = some c ∧ h.IsCell c (some u))
structure Cx.Ok (X : Cx) : Prop where
  mod : Mod X.K X.mg X.base
  kind : X.env.scope.kind = .function
  glob : X.env.globals = mainGlobals
  blt : X.env.builtins = builtinsNs
  above : X.s₀.heap.objs.size ≤ X.env.locals
  inj : ∀ x y c, X.env.cells.lookup x = some c → X.env.cells.lookup y = some c → x = y
  has : ∀ x, (X.env.kindOf x = some .cell ∨ X.env.kindOf x = some .free) → ∃ c, X.env.cells.lookup x = some c
  cab : ∀ x c, X.fn x = true → X.env.cells.lookup x = some c → X.s₀.heap.objs.size ≤ c
  hd : X.calm = true → X.A.handled = none
  frames : X.A.frames = some X.stack
  stk : X.stack = X.outer ∨ (X.stack = X.env :: X.outer ∧ X.env.frame = some X.env.locals)
  exf : ∀ b ∈ X.ex, b ≠ X.env.locals ∧ ∀ x c, X.env.cells.lookup x = some c → c ≠ b
  bs : ∀ b o, X.base.get? b = some o → X.s₀.heap.get? b = some o ∧ X.H₀ b = none
  bsz : X.base.objs.size ≤ X.s₀.heap.objs.size
  noex : ∀ b o, X.base.get? b = some o → b ∉ X.ex
  exfs : ∀ b ∈ X.ex, b ∉ X.fs
  funs : X.s₀.heap.FunFrames X.base X.outer
  frf : ∀ b ∈ X.fs, X.H₀ b = none
structure Inv (X : Cx) (pins : List (Addr × Obj)) (σ : List (Option V)) (H : Hp) (s : Shared) : Prop where
  ok : X.Ok
  os : s.os = X.s₀.os
  bare : AllBare s.gens
  base : Un X.fs X.ex X.H₀ H X.s₀.heap s.heap
  loc : ∃ m, s.heap.Ns X.env.locals m ∧ ∀ (i : Nat) (x : Str) (v : V), X.N[i]? = some x → σ[i]? = some (some v) → Vis X.env.scope x → ∃ u, RelV v u ∧ Look X.env s.heap m x u
  cell : ∀ x c, X.env.cells.lookup x = some c → ∃ v, s.heap.IsCell c v
  free : H X.env.locals = none
  freeC : ∀ x c, X.env.cells.lookup x = some c → H c = none
  pin : ∀ p ∈ X.pn ++ pins, s.heap.get? p.1 = some p.2 ∧ H p.1 = none ∧ p.1 ≠ X.env.locals ∧ p.1 ∉ X.fs ∧ ∀ v, p.2.data ≠ .cell v
  hok : HOk X.prog X.w H s.heap
  len : σ.length = X.N.length
section
variable {X : Cx} {pins : List (Addr × Obj)} {σ : List (Option V)} {H H' : Hp} {s : Shared} {h' : Heap}
theorem Cx.Ok.nofr (ok : X.Ok) {b : Addr} {o : Obj} (e : X.base.get? b = some o) : b ∉ X.fs := fun hb => by
  have := (ok.funs.mem hb).1
  rw [e] at this; cases this
theorem Inv.bs (I : Inv X pins σ H s) : ∀ b o, X.base.get? b = some o → s.heap.get? b = some o ∧ H b = none := fun b o e =>
  ⟨I.base.keep b o (I.ok.bs b o e).1 (I.ok.bs b o e).2 (I.ok.nofr e) (I.ok.noex b o e), I.base.free b o (I.ok.bs b o e).1 (I.ok.bs b o e).2 (I.ok.noex b o e)⟩
theorem Inv.bk (I : Inv X pins σ H s) : ∀ b o, X.base.get? b = some o → s.heap.get? b = some o := fun b o e => (I.bs b o e).1
theorem Inv.mod (I : Inv X pins σ H s) : Mod X.K X.mg X.base := I.ok.mod
theorem Inv.kIn (I : Inv X pins σ H s) : X.K.In s.heap := I.ok.mod.kin.keeps I.bk
theorem Inv.lt (I : Inv X pins σ H s) : X.env.locals < s.heap.objs.size := let ⟨_, hn, _⟩ := I.loc; hn.lt
theorem Inv.sz (I : Inv X pins σ H s) : X.s₀.heap.objs.size ≤ s.heap.objs.size := Nat.le_trans I.ok.above (Nat.le_of_lt I.lt)
theorem Inv.nofs (I : Inv X pins σ H s) {a : Addr} (h : s.heap.objs.size ≤ a) : a ∉ X.fs := fun hb => by
  obtain ⟨_, o, ho, _⟩ := I.ok.funs.mem hb
  exact absurd (Nat.lt_of_lt_of_le (Heap.lt_size ho) (Nat.le_trans I.sz h)) (Nat.lt_irrefl _)
theorem Inv.cne (I : Inv X pins σ H s) : ∀ x c, X.env.cells.lookup x = some c → c ≠ X.env.locals := fun x c e z => by
  obtain ⟨v, o, ho, hd⟩ := I.cell x c e
  obtain ⟨m, ⟨o', es, ep, ho', hd', _⟩, _⟩ := I.loc
  rw [z, ho'] at ho; cases ho; rw [hd'] at hd; cases hd
theorem Inv.funs (I : Inv X pins σ H s) : s.heap.FunFrames X.base X.outer := by
  have all : ∀ (l : List Env), (∀ b ∈ frs l, b ∈ X.fs) → X.s₀.heap.FunFrames X.base l → s.heap.FunFrames X.base l := by
    intro l
    induction l with
    | nil => intro _ _; trivial
    | cons env r ih =>
      intro hs hl
      obtain ⟨hk, ⟨L, o, hf, hn, ho, hd⟩, hr⟩ := hl
      have hL : L ∈ X.fs := hs L (by unfold frs; rw [List.filterMap_cons, hf]; exact List.mem_cons_self)
      obtain ⟨sl, e⟩ := I.base.slot L o ho (I.ok.frf L hL) hL fun z => I.ok.exfs L z hL
      exact ⟨hk, ⟨L, _, hf, hn, e, hd⟩, ih (fun b hb => hs b (by unfold frs; rw [List.filterMap_cons, hf]; exact List.mem_cons_of_mem _ hb)) hr⟩
  exact all X.outer (fun _ hb => hb) I.ok.funs
theorem Inv.stack (I : Inv X pins σ H s) : s.heap.FunFrames X.base X.stack := by
  rcases I.ok.stk with e | ⟨e, hf⟩
  · rw [e]; exact I.funs
  · rw [e]
    obtain ⟨m, hn, _⟩ := I.loc
    refine .cons (by rw [I.ok.kind]; decide) hf hn ?_ I.funs
    exact Heap.get?_none_of_le (Nat.le_trans I.ok.bsz I.ok.above)
theorem Inv.stkSub (I : Inv X pins σ H s) : ∀ b ∈ frs X.stack, b ∈ X.env.locals :: X.fs := fun b hb => by
  rcases I.ok.stk with e | ⟨e, hf⟩
  · rw [e] at hb; exact List.mem_cons_of_mem _ hb
  · rw [e] at hb
    unfold frs at hb
    rw [List.filterMap_cons, hf] at hb
    exact hb
theorem Inv.stkFree (I : Inv X pins σ H s) : ∀ b ∈ frs X.stack, H b = none := fun b hb => by
  rcases List.mem_cons.mp (I.stkSub b hb) with e | hb
  · rw [e]; exact I.free
  · obtain ⟨_, o, ho, _⟩ := I.ok.funs.mem hb
    exact I.base.free b o ho (I.ok.frf b hb) fun z => I.ok.exfs b z hb
theorem Inv.step {g' : Array GenState} {t' : Nat} {d' : Drawn} {ch : List Addr} (I : Inv X pins σ H s)
    (hch : ∀ b ∈ ch, (b ∈ X.ex ∨ X.s₀.heap.objs.size ≤ b) ∧ b ≠ X.env.locals ∧ (∀ x c, X.env.cells.lookup x = some c → c ≠ b) ∧ ∀ p ∈ X.pn ++ pins, p.1 ≠ b)
    (keep : ∀ b o, b ≠ X.env.locals → b ∉ X.fs → b ∉ ch → s.heap.get? b = some o → H b = none → h'.get? b = some o)
    (slot : ∀ b o, b ≠ X.env.locals → b ∈ X.fs → b ∉ ch → s.heap.get? b = some o → H b = none → ∃ sl, h'.get? b = some { o with slots := sl }) (free : ∀ b o, b ∉ ch → s.heap.get? b = some o → H b = none → H' b = none)
    (there : ∀ b o, b ∉ ch → s.heap.get? b = some o → ∃ o', h'.get? b = some o')
    (tups : ∀ b xs, H b = some (.tup xs) → H' b = some (.tup xs)) (frzs : ∀ b o u, H b = some (.frz o u) → H' b = some (.frz o u)) (tbls : ∀ b ps, H b = some (.tbl ps) → ∃ more, H' b = some (.tbl (ps ++ more)))
    (ns : ∀ m, s.heap.Ns X.env.locals m → h'.Ns X.env.locals m) (hok : HOk X.prog X.w H' h') (hg : AllBare g') :
    Inv X pins σ H' { s with heap := h', gens := g', drawn := d', toks := t' } := by
  have neL : ∀ b o, X.s₀.heap.get? b = some o → b ≠ X.env.locals := fun b o e => Nat.ne_of_lt (Nat.lt_of_lt_of_le (Heap.lt_size e) I.ok.above)
  have neC : ∀ b o, X.s₀.heap.get? b = some o → b ∉ X.ex → b ∉ ch := fun b o e hx hb => by
    rcases (hch b hb).1 with z | z
    · exact hx z
    · exact absurd (Nat.lt_of_lt_of_le (Heap.lt_size e) z) (Nat.lt_irrefl _)
  have cellK : ∀ x c, X.env.cells.lookup x = some c → ∀ v, s.heap.IsCell c v → h'.IsCell c v := fun x c e v ⟨o, ho, hd⟩ => by
    have nch : c ∉ ch := fun z => (hch c z).2.2.1 x c e rfl
    by_cases hc : c ∈ X.fs
    · obtain ⟨sl, q⟩ := slot c o (I.cne x c e) hc nch ho (I.freeC x c e)
      exact ⟨_, q, hd⟩
    · exact ⟨o, keep c o (I.cne x c e) hc nch ho (I.freeC x c e), hd⟩
  refine ⟨I.ok, I.os, hg, ⟨fun b o e n hb hx => ?_, fun b o e n hb hx => ?_, fun b o e n hx => ?_, fun b o e hx => ?_, fun b xs e => tups b xs (I.base.tups b xs e), fun b o xs e => frzs b o xs (I.base.frzs b o xs e), fun b ps e => ?_⟩, ?_, fun x c e => ?_, ?_, fun x c e => ?_, fun p hp => ?_, hok, I.len⟩
  · exact keep b o (neL b o e) hb (neC b o e hx) (I.base.keep b o e n hb hx) (I.base.free b o e n hx)
  · obtain ⟨sl, e1⟩ := I.base.slot b o e n hb hx
    obtain ⟨sl', e2⟩ := slot b _ (neL b o e) hb (neC b o e hx) e1 (I.base.free b o e n hx)
    exact ⟨sl', e2⟩
  · obtain ⟨o', e1⟩ := I.base.there b o e hx
    exact free b o' (neC b o e hx) e1 (I.base.free b o e n hx)
  · obtain ⟨o', e1⟩ := I.base.there b o e hx
    exact there b o' (neC b o e hx) e1
  · obtain ⟨m1, e1⟩ := I.base.tbls b ps e
    obtain ⟨m2, e2⟩ := tbls b _ e1
    exact ⟨m1 ++ m2, by rw [e2, Array.append_assoc]⟩
  · obtain ⟨m, hn, hl⟩ := I.loc
    refine ⟨m, ns m hn, fun i x v e1 e2 e3 => ?_⟩
    obtain ⟨u, r, l⟩ := hl i x v e1 e2 e3
    refine ⟨u, r, ?_⟩
    rcases l with l | ⟨k, c, e, z⟩
    · exact .inl l
    · exact .inr ⟨k, c, e, cellK x c e _ z⟩
  · obtain ⟨v, z⟩ := I.cell x c e
    exact ⟨v, cellK x c e v z⟩
  · obtain ⟨m, ⟨o, _, _, ho, _⟩, _⟩ := I.loc
    exact free _ o (fun z => (hch _ z).2.1 rfl) ho I.free
  · obtain ⟨v, o, ho, hd⟩ := I.cell x c e
    exact free c o (fun z => (hch c z).2.2.1 x c e rfl) ho (I.freeC x c e)
  · obtain ⟨e, n, ne, nf, d⟩ := I.pin p hp
    have nch : p.1 ∉ ch := fun z => (hch p.1 z).2.2.2 p hp rfl
    exact ⟨keep p.1 p.2 ne nf nch e n, free p.1 p.2 nch e n, ne, nf, d⟩
theorem Inv.un {t' : Nat} (I : Inv X pins σ H s) (u : Un X.fs [] H H' s.heap h') (hok : HOk X.prog X.w H' h') : Inv X pins σ H' { s with heap := h', toks := t' } := by
  obtain ⟨m, ⟨o, es, ep, ho, r⟩, _⟩ := id I.loc
  obtain ⟨sl, hL⟩ := u.any ho I.free (by simp)
  exact I.step (g' := s.gens) (d' := s.drawn) (ch := []) (fun _ z => nomatch z) (fun b o _ hb _ e n => u.keep b o e n hb (by simp)) (fun b o _ hb _ e n => u.slot b o e n hb (by simp)) (fun b o _ e n => u.free b o e n (by simp)) (fun b o _ e => u.there b o e (by simp)) u.tups u.frzs u.tbls (fun m' hm => by
    obtain ⟨o', es', ep', ho', r'⟩ := hm
    rw [ho] at ho'; cases ho'
    exact ⟨_, es', ep', hL, r'⟩) hok I.bare
theorem Inv.call {g' : Array GenState} {t' : Nat} {d' : Drawn} {ch : List Addr} (I : Inv X pins σ H s) (u : Un (frs X.stack) ch H H' s.heap h') (hok : HOk X.prog X.w H' h') (hg : AllBare g')
    (hch : ∀ b ∈ ch, (b ∈ X.ex ∨ X.s₀.heap.objs.size ≤ b) ∧ b ≠ X.env.locals ∧ (∀ x c, X.env.cells.lookup x = some c → c ≠ b) ∧ ∀ p ∈ X.pn ++ pins, p.1 ≠ b) :
    Inv X pins σ H' { s with heap := h', gens := g', drawn := d', toks := t' } := by
  obtain ⟨m, ⟨o, es, ep, ho, r⟩, _⟩ := id I.loc
  obtain ⟨sl, hL⟩ := u.any ho I.free fun z => (hch _ z).2.1 rfl
  exact I.step (ch := ch) hch (fun b o hL hb hc e n => u.keep b o e n (fun z => (List.mem_cons.mp (I.stkSub b z)).elim hL hb) hc) (fun b o _ _ hc e n => u.any e n hc) (fun b o hc e n => u.free b o e n hc) (fun b o hc e => u.there b o e hc) u.tups u.frzs u.tbls (fun m' hm => by
    obtain ⟨o', es', ep', ho', r'⟩ := hm
    rw [ho] at ho'; cases ho'
    exact ⟨_, es', ep', hL, r'⟩) hok hg
theorem Inv.turned {t' : Nat} {it : Addr} (I : Inv X pins σ H s) (k : ∀ b o, b ≠ it → s.heap.get? b = some o → h'.get? b = some o) (hn : H it = none) (hL : it ≠ X.env.locals)
    (h1 : it ∈ X.ex ∨ X.s₀.heap.objs.size ≤ it) (h2 : ∀ x c, X.env.cells.lookup x = some c → c ≠ it) (h3 : ∀ p ∈ X.pn ++ pins, p.1 ≠ it) : Inv X pins σ H { s with heap := h', toks := t' } := by
  have nit : ∀ b u, H b = some u → b ≠ it := fun b u e z => by rw [z, hn] at e; cases e
  refine I.step (g' := s.gens) (d' := s.drawn) (ch := [it]) (fun b hb => ?_) (fun b o _ _ hc e _ => k b o (fun z => hc (by simp [z])) e) (fun b o _ _ hc e _ => ⟨o.slots, k b o (fun z => hc (by simp [z])) e⟩) (fun _ _ _ _ n => n)
    (fun b o hc e => ⟨o, k b o (fun z => hc (by simp [z])) e⟩) (fun _ _ e => e) (fun _ _ _ e => e) (fun b ps e => ⟨#[], by rw [e]; simp⟩) (fun m hm => ?_) (fun b u e => ?_) I.bare
  · have e : b = it := by simpa using hb
    subst e
    exact ⟨h1, hL, h2, h3⟩
  · obtain ⟨o, es, ep, ho, r⟩ := hm
    exact ⟨o, es, ep, k _ o (Ne.symm hL) ho, r⟩
  · refine (I.hok b u e).stay (fun c v hc q => k c v ?_ q) (fun _ q => q) fun _ _ q => q
    rcases hc with z | z
    · rw [z]; exact nit b u e
    · exact nit c _ z
theorem Inv.tok (I : Inv X pins σ H s) (t : Nat) : Inv X pins σ H { s with toks := t } := I.un (h' := s.heap) (t' := t) Un.refl I.hok
theorem Inv.kept {t' : Nat} (I : Inv X pins σ H s) (k : ∀ b u, s.heap.get? b = some u → h'.get? b = some u) : Inv X pins σ H { s with heap := h', toks := t' } := I.un (Un.kept k) (I.hok.kept k)
theorem Inv.laid {a : Addr} {o : HO} {t' : Nat} (I : Inv X pins σ H s) (k : ∀ b u, s.heap.get? b = some u → h'.get? b = some u) (hp : s.heap.objs.size ≤ a) (new : ObjOk X.prog X.w (upd H a o) h' a o) :
    Inv X pins σ (upd H a o) { s with heap := h', toks := t' } := I.un (Un.laid k hp (I.hok.fresh hp)) (I.hok.laid k hp new)
theorem Inv.write {x e : Addr} {o : HO} {t' : Nat} (I : Inv X pins σ H s) (mu : Mut (H x)) (he : e = x ∨ H e = some (.own x)) (k : ∀ b u, b ≠ e → s.heap.get? b = some u → h'.get? b = some u) (heo : ∃ u, h'.get? e = some u)
    (new : ObjOk X.prog X.w (upd H x o) h' x o) : Inv X pins σ (upd H x o) { s with heap := h', toks := t' } := I.un (Un.write mu he k heo) (I.hok.write mu he k heo new)
theorem Inv.pins_of {pins' : List (Addr × Obj)} (I : Inv X pins σ H s) (h : ∀ p ∈ pins', s.heap.get? p.1 = some p.2 ∧ H p.1 = none ∧ p.1 ≠ X.env.locals ∧ p.1 ∉ X.fs ∧ ∀ v, p.2.data ≠ .cell v) : Inv X pins' σ H s :=
  ⟨I.ok, I.os, I.bare, I.base, I.loc, I.cell, I.free, I.freeC, fun p hp => (List.mem_append.mp hp).elim (fun z => I.pin p (List.mem_append_left _ z)) (h p), I.hok, I.len⟩
theorem nodup_ix {N : List Str} (hN : N.Nodup) {i j : Nat} {x : Str} (a : N[i]? = some x) (b : N[j]? = some x) : i = j := by
  obtain ⟨h1, e1⟩ := List.getElem?_eq_some_iff.mp a
  obtain ⟨h2, e2⟩ := List.getElem?_eq_some_iff.mp b
  exact (List.getElem_inj hN).mp (e1.trans e2.symm)
theorem store_ok2 {M : Model} {A : Around} {E : Value → Shared → Prop} {i : Nat} {x : Str} {v : V} {u : Value} {Q : Unit → Shared → Prop} (I : Inv X pins σ H s) (hN : X.N.Nodup) (hi : X.N[i]? = some x) (hx : Loc X.env.scope x) (r : RelV v u)
    (h : ∀ s', Inv X pins (σ.set i (some v)) H s' → (∃ a, Heap.SameBut a s.heap s'.heap ∧ (a = X.env.locals ∨ X.env.cells.lookup x = some a)) → Q () s') (hf : X.fn x = true ∨ X.env.scope.names.lookup x = some .local := by first | exact .inl rfl | exact .inr rfl | assumption) : wpAny M A (storeName X.env x u) Q E s := by
  obtain ⟨m, hn, hl⟩ := id I.loc
  have hcls : (X.env.scope.kind == .class || (X.env.scope.kind == .module && X.env.locals != X.env.globals)) = false := by rw [I.ok.kind]; rfl
  have hiσ : i < σ.length := by rw [I.len]; exact (List.getElem?_eq_some_iff.mp hi).1
  have cne := I.cne
  have tracked : ∀ {a : Addr} {h' : Heap}, (∃ o, s.heap.get? a = some o ∧ H a = none) → Heap.SameBut a s.heap h' → HOk X.prog X.w H h' := fun {a h'} ha hs b ob e => by
    obtain ⟨_, _, hfree⟩ := ha
    refine (I.hok b ob e).stay (fun c w' hc q => (hs.2 c ?_).trans q) (fun _ q => q) fun _ _ q => q
    rintro rfl
    rcases hc with rfl | hc
    · rw [hfree] at e; cases e
    · rw [hfree] at hc; cases hc
  rcases hx with hk | hk
  · refine wpAny_storeName_local hk hn (fun h' hn' hs => ?_) hcls
    obtain ⟨oL, _, _, hoL, _⟩ := id hn
    refine h _ ⟨I.ok, I.os, I.bare, ⟨fun b o e n hb hx => ?_, fun b o e n hb hx => ?_, I.base.free, fun b o e hx => ?_, I.base.tups, I.base.frzs, I.base.tbls⟩, ⟨_, hn', fun j y v' e1 e2 e3 => ?_⟩, fun y c e => ?_, I.free, I.freeC, fun p hp => ?_, tracked ⟨oL, hoL, I.free⟩ hs, by simpa using I.len⟩ ⟨_, hs, .inl rfl⟩
    · exact (hs.2 b (Nat.ne_of_lt (Nat.lt_of_lt_of_le (Heap.lt_size e) I.ok.above))).trans (I.base.keep b o e n hb hx)
    · obtain ⟨sl, e1⟩ := I.base.slot b o e n hb hx
      exact ⟨sl, (hs.2 b (Nat.ne_of_lt (Nat.lt_of_lt_of_le (Heap.lt_size e) I.ok.above))).trans e1⟩
    · obtain ⟨o', e1⟩ := I.base.there b o e hx
      exact ⟨o', (hs.2 b (Nat.ne_of_lt (Nat.lt_of_lt_of_le (Heap.lt_size e) I.ok.above))).trans e1⟩
    · by_cases hj : j = i
      · subst hj
        rw [hi] at e1; cases e1
        rw [List.getElem?_set_self hiσ] at e2
        cases e2
        exact ⟨u, r, .inl ⟨hk, by simp⟩⟩
      · rw [List.getElem?_set_ne (Ne.symm hj)] at e2
        obtain ⟨u', r', q⟩ := hl j y v' e1 e2 e3
        refine ⟨u', r', ?_⟩
        rcases q with ⟨k, e⟩ | ⟨k, c, e, z⟩
        · refine .inl ⟨k, ?_⟩
          have : y ≠ x := fun e => hj (nodup_ix hN e1 (e ▸ hi))
          simp [this, e]
        · exact .inr ⟨k, c, e, z.sameBut hs (cne y c e)⟩
    · obtain ⟨w', z⟩ := I.cell y c e
      exact ⟨w', z.sameBut hs (cne y c e)⟩
    · obtain ⟨e, n, ne, nf, d⟩ := I.pin p hp
      exact ⟨(hs.2 p.1 ne).trans e, n, ne, nf, d⟩
  · have hfn : X.fn x = true := by
      rcases hf with z | z
      · exact z
      · rw [z] at hk; cases hk
    obtain ⟨c, hc⟩ := I.ok.has x (.inl hk)
    obtain ⟨w', z⟩ := I.cell x c hc
    refine wpAny_storeName_cell I.ok.kind hk hc z (fun h' hc' hs => ?_)
    obtain ⟨oc, hoc, hocd⟩ := id z
    refine h { s with heap := h' } ⟨I.ok, I.os, I.bare, ⟨fun b o e n hb hx => ?_, fun b o e n hb hx => ?_, I.base.free, fun b o e hx => ?_, I.base.tups, I.base.frzs, I.base.tbls⟩, ⟨m, hn.sameBut hs (Ne.symm (cne x c hc)), fun j y v' e1 e2 e3 => ?_⟩, fun y c' e => ?_, I.free, I.freeC, fun p hp => ?_, tracked ⟨oc, hoc, I.freeC x c hc⟩ hs, by simpa using I.len⟩ ⟨c, hs, .inr hc⟩
    · exact (hs.2 b (Nat.ne_of_lt (Nat.lt_of_lt_of_le (Heap.lt_size e) (I.ok.cab x c hfn hc)))).trans (I.base.keep b o e n hb hx)
    · obtain ⟨sl, e1⟩ := I.base.slot b o e n hb hx
      exact ⟨sl, (hs.2 b (Nat.ne_of_lt (Nat.lt_of_lt_of_le (Heap.lt_size e) (I.ok.cab x c hfn hc)))).trans e1⟩
    · obtain ⟨o', e1⟩ := I.base.there b o e hx
      exact ⟨o', (hs.2 b (Nat.ne_of_lt (Nat.lt_of_lt_of_le (Heap.lt_size e) (I.ok.cab x c hfn hc)))).trans e1⟩
    · by_cases hj : j = i
      · subst hj
        rw [hi] at e1; cases e1
        rw [List.getElem?_set_self hiσ] at e2
        cases e2
        exact ⟨u, r, .inr ⟨.inl hk, c, hc, hc'⟩⟩
      · rw [List.getElem?_set_ne (Ne.symm hj)] at e2
        obtain ⟨u', r', q⟩ := hl j y v' e1 e2 e3
        refine ⟨u', r', ?_⟩
        rcases q with q | ⟨k, c', e, z'⟩
        · exact .inl q
        · refine .inr ⟨k, c', e, z'.sameBut hs ?_⟩
          rintro rfl
          exact hj (nodup_ix hN e1 (I.ok.inj _ _ _ e hc ▸ hi))
    · by_cases hcc : c' = c
      · subst hcc; exact ⟨_, hc'⟩
      · obtain ⟨w2, z2⟩ := I.cell y c' e
        exact ⟨w2, z2.sameBut hs hcc⟩
    · obtain ⟨e, n, ne, nf, d⟩ := I.pin p hp
      refine ⟨(hs.2 p.1 ?_).trans e, n, ne, nf, d⟩
      intro q
      rw [q, hoc] at e
      have q' : oc = p.2 := Option.some.inj e
      exact d w' (by rw [← q']; exact hocd)
theorem store_ok {M : Model} {A : Around} {E : Value → Shared → Prop} {i : Nat} {x : Str} {v : V} {u : Value} {Q : Unit → Shared → Prop} (I : Inv X pins σ H s) (hN : X.N.Nodup) (hi : X.N[i]? = some x) (hx : Loc X.env.scope x) (r : RelV v u)
    (h : ∀ s', Inv X pins (σ.set i (some v)) H s' → Q () s') (hf : X.fn x = true ∨ X.env.scope.names.lookup x = some .local := by first | exact .inl rfl | exact .inr rfl | assumption) : wpAny M A (storeName X.env x u) Q E s :=
  store_ok2 I hN hi hx r (fun s' I' _ => h s' I') hf
theorem Inv.call' {s' : Shared} {ch : List Addr} (I : Inv X pins σ H s) (ho : s'.os = s.os) (u : Un (frs X.stack) ch H H' s.heap s'.heap) (hok : HOk X.prog X.w H' s'.heap) (hg : AllBare s'.gens)
    (hch : ∀ b ∈ ch, (b ∈ X.ex ∨ X.s₀.heap.objs.size ≤ b) ∧ b ≠ X.env.locals ∧ (∀ x c, X.env.cells.lookup x = some c → c ≠ b) ∧ ∀ p ∈ X.pn ++ pins, p.1 ≠ b) : Inv X pins σ H' s' := by
  obtain ⟨h', g', d', t', o'⟩ := s'
  have e : o' = s.os := ho
  subst e
  exact I.call (g' := g') (t' := t') (d' := d') u hok hg hch
end
abbrev XK := Value → Option Addr → Hp → Prop
abbrev St := List (Option V)
abbrev VK := V → Hp → Prop
abbrev TE := St → Hp → VK → Prop
abbrev TT := St → Hp → (Bool → Hp → Prop) → Prop
abbrev TA := St → Hp → (List V → Hp → Prop) → Prop
structure Ends where
  nx : St → Hp → Prop
  rt : VK
  bk : St → Hp → Prop := fun _ _ => False
  ct : St → Hp → Prop := fun _ _ => False
abbrev TS := Ends → St → Hp → Prop
def EP (X : Cx) (pins : List (Addr × Obj)) (σ : St) (Q : VK) (u : Value) (s' : Shared) : Prop := ∃ v H', Inv X pins σ H' s' ∧ RelV v u ∧ Q v H'
def TP (X : Cx) (pins : List (Addr × Obj)) (σ : St) (Q : Bool → Hp → Prop) (b : Bool) (s' : Shared) : Prop := ∃ H', Inv X pins σ H' s' ∧ Q b H'
def AP (X : Cx) (pins : List (Addr × Obj)) (σ : St) (Q : List V → Hp → Prop) (us : List Value) (s' : Shared) : Prop := ∃ vs H', Inv X pins σ H' s' ∧ Vals vs us ∧ Q vs H'
def SP (X : Cx) (pins : List (Addr × Obj)) (D : Ends) (f : Flow) (s' : Shared) : Prop :=
  match f with
  | .next => ∃ σ' H', Inv X pins σ' H' s' ∧ D.nx σ' H'
  | .brk => ∃ σ' H', Inv X pins σ' H' s' ∧ D.bk σ' H'
  | .cont => ∃ σ' H', Inv X pins σ' H' s' ∧ D.ct σ' H'
  | .ret u => ∃ v σ' H', Inv X pins σ' H' s' ∧ RelV v u ∧ D.rt v H'
def PE (X : Cx) (e : Expr) (t : TE) : Prop :=
  ∀ (pins : List (Addr × Obj)) (s : Shared) (σ : St) (H : Hp) (Q : VK), Inv X pins σ H s → t σ H Q → wpAny (model X.prog X.w) X.A (eval e X.env) (EP X pins σ Q) X.xe s
def PT (X : Cx) (e : Expr) (t : TT) : Prop :=
  ∀ (pins : List (Addr × Obj)) (s : Shared) (σ : St) (H : Hp) (Q : Bool → Hp → Prop), Inv X pins σ H s → t σ H Q → wpAny (model X.prog X.w) X.A (isTrue e X.env (eval e X.env)) (TP X pins σ Q) X.xe s
def PW (X : Cx) (e : Expr) (t : TT) : Prop :=
  ∀ (whole : Sem Value) (pins : List (Addr × Obj)) (s : Shared) (σ : St) (H : Hp) (Q : Bool → Hp → Prop), Inv X pins σ H s → t σ H Q → wpAny (model X.prog X.w) X.A (isTrue e X.env whole) (TP X pins σ Q) X.xe s
theorem PW.pt {X : Cx} {e : Expr} {t : TT} (h : PW X e t) : PT X e t := h _
def PA (X : Cx) (es : List Expr) (t : TA) : Prop :=
  ∀ (pos : Pos) (pins : List (Addr × Obj)) (s : Shared) (σ : St) (H : Hp) (Q : List V → Hp → Prop), Inv X pins σ H s → t σ H Q → wpAny (model X.prog X.w) X.A (spliced (backTo pos (starEach es X.env))) (AP X pins σ Q) X.xe s
def PS (X : Cx) (st : Stmt) (t : TS) : Prop :=
  ∀ (pins : List (Addr × Obj)) (s : Shared) (σ : St) (H : Hp) (D : Ends), Inv X pins σ H s → t D σ H → wpAny (model X.prog X.w) X.A (exec st X.env) (SP X pins D) X.xe s
def PSs (X : Cx) (st : List Stmt) (t : TS) : Prop :=
  ∀ (pins : List (Addr × Obj)) (s : Shared) (σ : St) (H : Hp) (D : Ends), Inv X pins σ H s → t D σ H → wpAny (model X.prog X.w) X.A (execs st X.env) (SP X pins D) X.xe s
theorem thn {α : Type} {t : Sem α} {Q Q' : α → Shared → Prop} {M : Model} {A : Around} {E : Value → Shared → Prop} {s : Shared} (h : wpAny M A t Q E s) (hQ : ∀ a s, Q a s → Q' a s) : wpAny M A t Q' E s := wpAny_mono h hQ fun _ _ x => x
end L2
namespace L2
open PySem PySem.Spec PyProof.Rows
section
variable {X : Cx}
def tVar (i : Nat) : TE := fun σ H Q => ∃ v, σ[i]? = some (some v) ∧ Q v H
def tC (v : V) : TE := fun _ H Q => Q v H
theorem pe_var {i : Nat} {x : Str} {pos : Pos} (hN : X.N[i]? = some x) (hv : Vis X.env.scope x) (hd : (x == ("__debug__" : Str)) = false := by decide) (hcd : (x == ("__classdict__" : Str)) = false := by decide) : PE X (.Name x pos) (tVar i) := by
  intro pins s σ H Q I h
  obtain ⟨v, e, h⟩ := h
  obtain ⟨m, hn, hl⟩ := I.loc
  obtain ⟨u, r, l⟩ := hl i x v hN e hv
  have fin : EP X pins σ Q u s := ⟨v, H, I, r, h⟩
  rcases l with ⟨hk, hm⟩ | ⟨hk, c, hc, hcell⟩
  · exact wpAny_Name (wpAny_loadName_local I.ok.kind hk hn hm fin) hd
  · rcases hk with hk | hk
    · exact wpAny_Name (wpAny_loadName_cell I.ok.kind hk hc hcell fin) hd
    · exact wpAny_Name (wpAny_loadName_free I.ok.kind hk hc hcell fin hcd) hd
theorem pe_int {i j pos} : PE X (.Constant (.int i) j pos) (tC (.int i)) := fun _ _ _ H _ I h => wpAny_Constant_int ⟨.int i, H, I.tok _, ⟨_, rfl⟩, h⟩
theorem pe_bl {b j pos} : PE X (.Constant (.bool b) j pos) (tC (.bl b)) := fun _ _ _ H _ I h => Constant_bool ⟨.bl b, H, I, rfl, h⟩
theorem pe_str {x j pos} : PE X (.Constant (.str x) j pos) (tC (.str x)) := fun _ _ _ H _ I h => Calls.Constant_str ⟨.str x, H, I.tok _, ⟨_, rfl⟩, h⟩
def Gl (X : Cx) (x : Str) : Prop := X.env.kindOf x = some .globalImplicit
theorem ld_glob {E : Value → Shared → Prop} {pins : List (Addr × Obj)} {s : Shared} {σ : St} {H : Hp} {x : Str} {u : Value} {pos : Pos} {Q : Value → Shared → Prop} (I : Inv X pins σ H s) (hg : Gl X x) (hm : X.mg x = some u) (h : Q u s)
    (hd : (x == ("__debug__" : Str)) = false := by decide) : wpAny (model X.prog X.w) X.A (eval (.Name x pos) X.env) Q E s :=
  Calls.Name_function_global I.ok.kind hg (Calls.loadGlobal_global (by rw [I.ok.glob]; exact I.mod.glob.keeps I.bk) hm h) hd
theorem ld_blt {E : Value → Shared → Prop} {pins : List (Addr × Obj)} {s : Shared} {σ : St} {H : Hp} {x : Str} {u : Value} {pos : Pos} {Q : Value → Shared → Prop} (I : Inv X pins σ H s) (hg : Gl X x) (hm : X.mg x = none) (hv : bootBuiltins x = some u) (h : Q u s)
    (hn : x ≠ "__name__" := by decide) (hd : (x == ("__debug__" : Str)) = false := by decide) : wpAny (model X.prog X.w) X.A (eval (.Name x pos) X.env) Q E s := by
  obtain ⟨mb, h1, h2⟩ := I.mod.blt
  exact Calls.Name_function_global I.ok.kind hg (Calls.loadGlobal_builtin (by rw [I.ok.glob]; exact I.mod.glob.keeps I.bk) hm (by rw [I.ok.blt]; exact h1.keeps I.bk) ((h2 x hn).trans hv) h) hd
theorem pe_glob {x : Str} {v : V} {u : Value} {pos : Pos} (hg : Gl X x) (hm : X.mg x = some u) (r : RelV v u) (hd : (x == ("__debug__" : Str)) = false := by decide) : PE X (.Name x pos) (tC v) :=
  fun _ _ _ H _ I h => ld_glob I hg hm ⟨v, H, I, r, h⟩ hd
theorem pe_bltn {x : Str} {v : V} {u : Value} {pos : Pos} (hg : Gl X x) (hm : X.mg x = none) (hv : bootBuiltins x = some u) (r : RelV v u) (hn : x ≠ "__name__" := by decide) (hd : (x == ("__debug__" : Str)) = false := by decide) : PE X (.Name x pos) (tC v) :=
  fun _ _ _ H _ I h => ld_blt I hg hm hv ⟨v, H, I, r, h⟩ hn hd
def t2I (ta tb : TE) (k : Int → Int → Hp → Prop) : St → Hp → Prop := fun σ H => ta σ H fun x H1 => tb σ H1 fun y H2 => ∃ i j, x = .int i ∧ y = .int j ∧ k i j H2
variable {a b : Expr} {ta tb : TE} {pos : Pos}
def PC (X : Cx) (op : CmpOp) (a b : Expr) (t : TE) : Prop :=
  ∀ (pins : List (Addr × Obj)) (s : Shared) (σ : St) (H : Hp) (Q : VK), Inv X pins σ H s → t σ H Q →
    wpAny (model X.prog X.w) X.A (eval a X.env) (fun v s₁ => wpAny (model X.prog X.w) X.A (eval b X.env) (fun u s₂ => wpAny (model X.prog X.w) X.A (compareOp op v u) (EP X pins σ Q) X.xe s₂) X.xe s₁) X.xe s
def tCmp (p : Int → Int → Bool) (ta tb : TE) : TE := fun σ H Q => t2I ta tb (fun i j H2 => Q (.bl (p i j)) H2) σ H
abbrev tLt : TE → TE → TE := tCmp fun i j => decide (i < j)
abbrev tLe : TE → TE → TE := tCmp fun i j => decide (i ≤ j)
abbrev tGt : TE → TE → TE := tCmp fun i j => decide (j < i)
abbrev tGe : TE → TE → TE := tCmp fun i j => decide (j ≤ i)
abbrev tEqI : TE → TE → TE := tCmp fun i j => decide (i = j)
abbrev tNeI : TE → TE → TE := tCmp fun i j => !decide (i = j)
def tB (t : TE) : TT := fun σ H Q => t σ H fun x H1 => ∃ c, x = .bl c ∧ Q c H1
theorem pt_cmp {op : CmpOp} {t : TE} (h : PC X op a b t) (h1 : behindInMarks op b = false := by first | exact nobehind _ (by decide) (by decide) | rfl) : PT X (.Compare a [op] [b] pos) (tB t) := by
  intro pins s σ H Q I hw
  refine wpAny_isTrue_Compare1 (thn (h pins s σ H _ I hw) fun v s1 h1 => thn h1 fun u s2 h2 => thn h2 fun c s3 ⟨x, H1, I1, r1, q1⟩ => ?_) h1
  obtain ⟨d, rfl, q⟩ := q1
  cases r1
  exact wpAny_truthy_bool ⟨H1, I1, q⟩
theorem pt_val {e : Expr} {t : TE} (h : PE X e t) (he : ∀ whole, isTrue e X.env whole = (do let v ← whole; standAt e.pos; holding [v] (truthy v)) := by intro _; rfl) : PT X e (tB t) := by
  intro pins s σ H Q I hw
  refine isTrue_plain (thn (h pins s σ H _ I hw) fun v s1 ⟨x, H1, I1, r1, q1⟩ => ?_) (he _)
  obtain ⟨d, rfl, q⟩ := q1
  cases r1
  exact wpAny_truthy_bool ⟨H1, I1, q⟩
variable {tA tB' : TT} {rest : List Expr}
def tAnd (t u : TT) : TT := fun σ H Q => t σ H fun c H1 => if c = true then u σ H1 Q else Q false H1
def tOr (t u : TT) : TT := fun σ H Q => t σ H fun c H1 => if c = true then Q true H1 else u σ H1 Q
def tNot (t : TT) : TT := fun σ H Q => t σ H fun c H1 => Q (!c) H1
theorem pw_and1 (ha : PT X a tA) : PW X (.BoolOp .And [a] pos) tA := by
  intro wh pins s σ H Q I h
  refine isTrue_and (thn (ha pins s σ H Q I h) fun c s1 e => ?_)
  cases c with
  | true => exact isTrue_and_nil e
  | false => exact e
theorem pw_or1 (ha : PT X a tA) : PW X (.BoolOp .Or [a] pos) tA := by
  intro wh pins s σ H Q I h
  refine isTrue_or (thn (ha pins s σ H Q I h) fun c s1 e => ?_)
  cases c with
  | false => exact isTrue_or_nil e
  | true => exact e
theorem pw_and (ha : PT X a tA) (hb : PW X (.BoolOp .And (b :: rest) pos) tB') : PW X (.BoolOp .And (a :: b :: rest) pos) (tAnd tA tB') := by
  intro wh pins s σ H Q I h
  refine isTrue_and (thn (ha pins s σ H _ I h) fun c s1 ⟨H1, I1, q1⟩ => ?_)
  cases c with
  | true => exact hb wh pins s1 σ H1 Q I1 q1
  | false => exact ⟨H1, I1, q1⟩
theorem pw_or (ha : PT X a tA) (hb : PW X (.BoolOp .Or (b :: rest) pos) tB') : PW X (.BoolOp .Or (a :: b :: rest) pos) (tOr tA tB') := by
  intro wh pins s σ H Q I h
  refine isTrue_or (thn (ha pins s σ H _ I h) fun c s1 ⟨H1, I1, q1⟩ => ?_)
  cases c with
  | true => exact ⟨H1, I1, q1⟩
  | false => exact hb wh pins s1 σ H1 Q I1 q1
theorem pt_not (ha : PT X a tA) : PT X (.UnaryOp .Not a pos) (tNot tA) := by
  intro pins s σ H Q I h
  exact isTrue_not (ha pins s σ H (fun c H1 => Q (!c) H1) I h)
def tAndV (ta tb : TE) : TE := fun σ H Q => ta σ H fun x H1 => ∃ c, x = .bl c ∧ if c = true then tb σ H1 Q else Q (.bl false) H1
def tNotV (ta : TE) : TE := fun σ H Q => ta σ H fun x H1 => ∃ c, x = .bl c ∧ Q (.bl (!c)) H1
theorem pe_one {op} {t : TE} (h : PE X a t) : PE X (.BoolOp op [a] pos) t := fun pins s σ H Q I hw => BoolOp_one (h pins s σ H Q I hw)
theorem pe_and (ha : PE X a ta) (hb : PE X (.BoolOp .And (b :: rest) pos) tb) : PE X (.BoolOp .And (a :: b :: rest) pos) (tAndV ta tb) := by
  intro pins s σ H Q I h
  refine BoolOp_and (thn (ha pins s σ H _ I h) fun v s1 ⟨x, H1, I1, r1, q1⟩ => ?_)
  obtain ⟨c, rfl, q1⟩ := q1
  cases r1
  refine wpAny_truthy_bool ?_
  cases c with
  | true => exact hb pins s1 σ H1 Q I1 q1
  | false => exact ⟨.bl false, H1, I1, rfl, q1⟩
theorem pe_not (ha : PE X a ta) : PE X (.UnaryOp .Not a pos) (tNotV ta) := by
  intro pins s σ H Q I h
  refine UnaryOp_ (thn (ha pins s σ H _ I h) fun v s1 ⟨x, H1, I1, r1, q1⟩ => ?_)
  obtain ⟨c, rfl, q1⟩ := q1
  cases r1
  exact not_of (wpAny_truthy_bool ⟨.bl (!c), H1, I1, rfl, q1⟩)
end
end L2
namespace L2
open PySem PySem.Spec PyProof.Rows
def SqL (K : PySem.W.Frag) (H : Hp) (a : Addr) (xs : List V) : Prop :=
  Rd H a (.lst xs) ∨
    ∃ (o : Obj) (its : Array Value) (n : Nat), K.lookup a = some o ∧ o.cls = .type "list" ∧ o.dict = none ∧ o.data = .seq its n ∧ its.size ≤ sizeLine ∧ Vals xs its.toList
def SqT (K : PySem.W.Frag) (H : Hp) (a : Addr) (xs : List V) : Prop :=
  Rd H a (.tup xs) ∨
    ∃ (o : Obj) (its : Array Value) (n : Nat), K.lookup a = some o ∧ o.cls = .type "tuple" ∧ o.data = .seq its n ∧ its.size ≤ sizeLine ∧ Vals xs its.toList
def absV : Value → Option V
  | .none => some .non
  | .bool b => some (.bl b)
  | .int i _ => some (.int i)
  | .str x _ => some (.str x)
  | .bytes b _ => some (.byt b)
  | .float b _ => some (.flt b)
  | .ref a => some (.ref a)
  | .type n => some (.ty n)
  | _ => none
theorem RelV.abs {x : V} {u : Value} (r : RelV x u) : absV u = some x := by
  cases x with
  | non => cases r; rfl
  | bl _ => cases r; rfl
  | int _ => obtain ⟨t, rfl⟩ := r; rfl
  | str _ => obtain ⟨t, rfl⟩ := r; rfl
  | byt _ => obtain ⟨t, rfl⟩ := r; rfl
  | flt _ => obtain ⟨t, rfl⟩ := r; rfl
  | ref _ => cases r; rfl
  | ty _ => cases r; rfl
theorem RelV.inj {x y : V} {u : Value} (r : RelV x u) (q : RelV y u) : x = y := Option.some.inj (r.abs.symm.trans q.abs)
theorem Vals.inj : ∀ {xs ys : List V} {us : List Value}, Vals xs us → Vals ys us → xs = ys
  | _, _, _, .nil, .nil => rfl
  | _, _, _, .cons r t, .cons r' t' => by rw [r.inj r', Vals.inj t t']
section
variable {X : Cx} {pins : List (Addr × Obj)} {σ : St} {H : Hp} {s : Shared} {a : Addr} {xs ys : List V}
theorem SqL.of {K : PySem.W.Frag} (h : H a = some (.lst xs)) : SqL K H a xs := .inl (.inl h)
theorem SqT.of {K : PySem.W.Frag} (h : H a = some (.tup xs)) : SqT K H a xs := .inl (.inl h)
theorem Inv.list (I : Inv X pins σ H s) (h : SqL X.K H a xs) : ∃ its : List Value, Vals xs its ∧ PlainL s.heap a its.toArray ∧ xs.length ≤ sizeLine := by
  rcases h with h | ⟨o, its, n, hk, hc, hd, hs, hz, r⟩
  · obtain ⟨z, its, n, r, e⟩ := h.ok I.hok
    exact ⟨its, r, ⟨_, n, e, rfl, rfl, rfl⟩, z⟩
  · refine ⟨its.toList, r, ⟨o, n, I.kIn a o hk, hc, hd, by simpa using hs⟩, ?_⟩
    have e := r.length
    simp only [Array.length_toList] at e
    omega
theorem Inv.tuple (I : Inv X pins σ H s) (h : SqT X.K H a xs) : ∃ its : List Value, Vals xs its ∧ IsTup s.heap a its.toArray ∧ xs.length ≤ sizeLine := by
  rcases h with h | ⟨o, its, n, hk, hc, hs, hz, r⟩
  · obtain ⟨z, its, r, p⟩ := h.ok I.hok
    exact ⟨its, r, p, z⟩
  · refine ⟨its.toList, r, ⟨o, I.kIn a o hk, hc, n, by simpa using hs⟩, ?_⟩
    have e := r.length
    simp only [Array.length_toList] at e
    omega
theorem Inv.list_inj (I : Inv X pins σ H s) (h : SqL X.K H a xs) (h' : SqL X.K H a ys) : xs = ys := by
  obtain ⟨its, r, ⟨o, n, e, _, _, d⟩, _⟩ := I.list h
  obtain ⟨its', r', ⟨o', n', e', _, _, d'⟩, _⟩ := I.list h'
  rw [e] at e'; cases e'
  rw [d] at d'
  injection d' with d1 _
  have : its = its' := by simpa using congrArg Array.toList d1
  subst this
  exact r.inj r'
end
abbrev Cx.wish (X : Cx) (E : Value → Shared → Prop) : Cx := { X with xe := E }
abbrev Cx.nox (X : Cx) : Cx := X.wish fun _ _ => False
theorem Cx.Ok.wish {X : Cx} (ok : X.Ok) (E : Value → Shared → Prop) : (X.wish E).Ok :=
  ⟨ok.mod, ok.kind, ok.glob, ok.blt, ok.above, ok.inj, ok.has, ok.cab, ok.hd, ok.frames, ok.stk, ok.exf, ok.bs, ok.bsz, ok.noex, ok.exfs, ok.funs, ok.frf⟩
theorem Cx.Ok.unwish {X : Cx} {E : Value → Shared → Prop} (ok : (X.wish E).Ok) : X.Ok :=
  ⟨ok.mod, ok.kind, ok.glob, ok.blt, ok.above, ok.inj, ok.has, ok.cab, ok.hd, ok.frames, ok.stk, ok.exf, ok.bs, ok.bsz, ok.noex, ok.exfs, ok.funs, ok.frf⟩
section
variable {X : Cx} {pins : List (Addr × Obj)} {σ : St} {H : Hp} {s : Shared} {E : Value → Shared → Prop}
theorem Inv.wish (I : Inv X pins σ H s) (E : Value → Shared → Prop) : Inv (X.wish E) pins σ H s := ⟨I.ok.wish E, I.os, I.bare, I.base, I.loc, I.cell, I.free, I.freeC, I.pin, I.hok, I.len⟩
theorem Inv.unwish (I : Inv (X.wish E) pins σ H s) : Inv X pins σ H s := ⟨I.ok.unwish, I.os, I.bare, I.base, I.loc, I.cell, I.free, I.freeC, I.pin, I.hok, I.len⟩
theorem SP.unwish {D : Ends} {f : Flow} {s' : Shared} (h : SP (X.wish E) pins D f s') : SP X pins D f s' := by
  cases f with
  | next => obtain ⟨σ', H', I, q⟩ := h; exact ⟨σ', H', I.unwish, q⟩
  | brk => obtain ⟨σ', H', I, q⟩ := h; exact ⟨σ', H', I.unwish, q⟩
  | cont => obtain ⟨σ', H', I, q⟩ := h; exact ⟨σ', H', I.unwish, q⟩
  | ret u => obtain ⟨v, σ', H', I, r, q⟩ := h; exact ⟨v, σ', H', I.unwish, r, q⟩
end
section
variable {X : Cx} {st : Stmt} {rest : List Stmt} {t u : TS} {e : Expr} {te : TE} {pos : Pos}
def tNext : TS := fun D σ H => D.nx σ H
def tSeq (t u : TS) : TS := fun D σ H => t { D with nx := u D } σ H
theorem pss_nil : PSs X [] tNext := fun _ _ σ H _ I h => wpAny_execs_nil ⟨σ, H, I, h⟩
theorem pss_cons (h1 : PS X st t) (h2 : PSs X rest u) : PSs X (st :: rest) (tSeq t u) := by
  intro pins s σ H D I h
  refine wpAny_execs_cons (thn (h1 pins s σ H { D with nx := u D } I h) fun f s1 q => ?_)
  cases f with
  | next =>
    obtain ⟨σ', H', I', q⟩ := q
    exact h2 pins s1 σ' H' D I' q
  | ret v => exact q
  | brk => exact q
  | cont => exact q
theorem pss_one (h1 : PS X st t) : PSs X [st] t := by
  intro pins s σ H D I h
  refine wpAny_execs_cons (thn (h1 pins s σ H D I h) fun f s1 q => ?_)
  cases f with
  | next => exact wpAny_execs_nil q
  | ret v => exact q
  | brk => exact q
  | cont => exact q
theorem Inv.quiet {pins : List (Addr × Obj)} {σ : St} {H : Hp} {s : Shared} (I : Inv X pins σ H s) : interactive X.env = false := by simp [interactive, I.ok.kind]
def tDrop (te : TE) : TS := fun D σ H => te σ H fun _ H1 => D.nx σ H1
theorem ps_expr (he : PE X e te) (hs : swapsWith e none pos.line X.env = pure false := by rfl) : PS X (.Expr e pos) (tDrop te) := by
  intro pins s σ H D I h
  exact wpAny_Expr_any (thn (he pins s σ H _ I h) fun v s1 ⟨x, H1, I1, r1, q1⟩ => ⟨σ, H1, I1, q1⟩) I.quiet hs
def tRet (te : TE) : TS := fun D σ H => te σ H D.rt
theorem ps_ret (he : PE X e te) : PS X (.Return (some e) pos) (tRet te) := by
  intro pins s σ H D I h
  exact wpAny_Return_some (thn (he pins s σ H _ I h) fun v s1 ⟨x, H1, I1, r1, q1⟩ => ⟨x, σ, H1, I1, r1, q1⟩)
def tIfS (c : TT) (t u : TS) : TS := fun D σ H => c σ H fun b H1 => if b = true then t D σ H1 else u D σ H1
theorem ps_if {c : Expr} {a b : List Stmt} {tc : TT} (hc : PT X c tc) (ha : PSs X a t) (hb : PSs X b u) : PS X (.If c a b pos) (tIfS tc t u) := by
  intro pins s σ H D I h
  refine wpAny_If (thn (hc pins s σ H _ I h) fun d s1 ⟨H1, I1, q1⟩ => ?_)
  cases d with
  | true => exact ha pins s1 σ H1 D I1 q1
  | false => exact hb pins s1 σ H1 D I1 q1
end
abbrev TG := V → St → Hp → (St → Hp → Prop) → Prop
abbrev TGs := List V → St → Hp → (St → Hp → Prop) → Prop
def PG (X : Cx) (target : Expr) (t : TG) : Prop :=
  ∀ (pins : List (Addr × Obj)) (s : Shared) (σ : St) (H : Hp) (v : V) (u : Value) (Q : St → Hp → Prop), Inv X pins σ H s → RelV v u → t v σ H Q →
    wpAny (model X.prog X.w) X.A (assign target X.env u) (fun _ s' => ∃ σ' H', Inv X pins σ' H' s' ∧ Q σ' H') X.xe s
def PGs (X : Cx) (ts : List Expr) (t : TGs) : Prop :=
  ∀ (pins : List (Addr × Obj)) (s : Shared) (σ : St) (H : Hp) (vs : List V) (us : List Value) (Q : St → Hp → Prop), Inv X pins σ H s → Vals vs us → t vs σ H Q →
    wpAny (model X.prog X.w) X.A (assignInOrder ((assignEach ts X.env).map (·.2)) us) (fun _ s' => ∃ σ' H', Inv X pins σ' H' s' ∧ Q σ' H') X.xe s
abbrev TSet := V → V → V → Hp → (Hp → Prop) → Prop
abbrev TIp := V → V → Hp → VK → Prop
section
variable {X : Cx} {pos : Pos}
def gName (i : Nat) : TG := fun v σ H Q => Q (σ.set i (some v)) H
theorem pg_name {i : Nat} {x : Str} (hN : X.N.Nodup) (hi : X.N[i]? = some x) (hx : Loc X.env.scope x) (hf : X.fn x = true ∨ X.env.scope.names.lookup x = some .local := by first | exact .inl rfl | exact .inr rfl | assumption) : PG X (.Name x pos) (gName i) := by
  intro pins s σ H v u Q I r h
  exact wpAny_assign_Name (store_ok I hN hi hx r (fun s' I' => ⟨_, H, I', h⟩) hf)
def gNil : TGs := fun vs σ H Q => vs = [] ∧ Q σ H
def gCons (t : TG) (u : TGs) : TGs := fun vs σ H Q => ∃ v r, vs = v :: r ∧ t v σ H fun σ' H' => u r σ' H' Q
theorem pgs_nil : PGs X [] gNil := by
  intro pins s σ H vs us Q I r h
  obtain ⟨e, h⟩ := h
  subst e
  cases r
  exact assignInOrder_nil ⟨σ, H, I, h⟩
theorem pgs_cons {e : Expr} {es : List Expr} {t : TG} {u : TGs} (h1 : PG X e t) (h2 : PGs X es u)
    (hs : (assignEach (e :: es) X.env).map (·.2) = assign e X.env :: (assignEach es X.env).map (·.2) := by rfl) : PGs X (e :: es) (gCons t u) := by
  intro pins s σ H vs us Q I r h
  obtain ⟨v, vr, e1, h⟩ := h
  subst e1
  cases r with
  | cons r rr =>
    rw [hs]
    refine assignInOrder_cons (thn (h1 pins s σ H _ _ _ I r h) fun _ s1 ⟨σ1, H1, I1, q1⟩ => ?_)
    exact h2 pins s1 σ1 H1 _ _ Q I1 rr q1
def gTup (K : PySem.W.Frag) (n : Nat) (t : TGs) : TG := fun v σ H Q => ∃ a xs, v = .ref a ∧ SqT K H a xs ∧ xs.length = n ∧ t xs σ H Q
theorem pg_tup {es : List Expr} {k : Nat} {t : TGs} {n : Nat} (hc : X.calm = true) (h : PGs X es t)
    (hn : (assignEach es X.env).length = n := by rfl) (hst : (assignEach es X.env).findIdx? (·.1) = none := by rfl) : PG X (.Tuple es k pos) (gTup X.K n t) := by
  intro pins s σ H v u Q I r hw
  obtain ⟨a, xs, e1, hq, hl, hw⟩ := hw
  subst e1
  cases r
  obtain ⟨its, rv, ht, hz⟩ := I.tuple hq
  refine assign_Tuple_tuple (I.ok.hd hc) ht (by simp [hn, ← hl, rv.length]) hst fun h' hx => ?_
  have I1 : Inv X pins σ H { s with heap := h' } := I.kept (t' := s.toks) fun b o e => hx b o (Nat.ne_of_lt (Heap.lt_size e)) e
  exact h pins _ σ H xs _ Q I1 (by simpa using rv) hw
def tAsg (te : TE) (g : TG) : TS := fun D σ H => te σ H fun x H1 => g x σ H1 D.nx
theorem ps_set {i : Nat} {x : Str} {e : Expr} {te : TE} {pos' : Pos} (hN : X.N.Nodup) (hi : X.N[i]? = some x) (hx : Loc X.env.scope x) (he : PE X e te) (hs : swapsWith e (some (.Name x pos')) pos.line X.env = pure false := by rfl) (hf : X.fn x = true ∨ X.env.scope.names.lookup x = some .local := by first | exact .inl rfl | exact .inr rfl | assumption) :
    PS X (.Assign [.Name x pos'] e pos) (tAsg te (gName i)) := by
  intro pins s σ H D I h
  refine wpAny_Assign_Name (thn (he pins s σ H _ I h) fun v s1 ⟨y, H1, I1, r1, q1⟩ => ?_) hs
  exact store_ok I1 hN hi hx r1 (fun s2 I2 => ⟨_, H1, I2, q1⟩) hf
end
section
variable {X : Cx} {pos : Pos}
def tWhile (c : TT) (tb : TS) : TS := fun D σ H => ∃ W : Nat → St → Hp → Prop, (∃ m, W m σ H) ∧ ∀ m σ H, W m σ H →
  c σ H fun b H1 => if b = true then ∃ N : St → Hp → Prop, (∀ σ' H', N σ' H' → ∃ m', m' < m ∧ W m' σ' H') ∧ tb { D with nx := N, ct := N, bk := D.nx } σ H1 else D.nx σ H1
theorem ps_while {c : Expr} {body : List Stmt} {tc : TT} {tb : TS} (hp : PassesOwn (model X.prog X.w) X.A X.env X.xe) (hc : PT X c tc) (hb : PSs X body tb) : PS X (.While c body [] pos) (tWhile tc tb) := by
  intro pins s σ H D I h
  obtain ⟨W, ⟨m0, w0⟩, turn⟩ := h
  refine wpAny_While (codeAny_whileLoop (fun n s' => ∃ σ' H', Inv X pins σ' H' s' ∧ W n σ' H') ?_ m0 ⟨σ, H, I, w0⟩)
  rintro n s1 ⟨σ1, H1, I1, w1⟩
  refine wpAny_passesOwn hp (thn (hc pins s1 σ1 H1 _ I1 (turn n σ1 H1 w1)) fun b s2 ⟨H2, I2, q2⟩ => ?_)
  cases b with
  | true =>
    obtain ⟨N, hN, q2⟩ := q2
    rw [if_pos rfl]
    refine wpAny_passesOwn hp (thn (hb pins s2 σ1 H2 _ I2 q2) fun f s3 q3 => ?_)
    cases f with
    | next =>
      obtain ⟨σ3, H3, I3, n3⟩ := q3
      obtain ⟨m', hm, w3⟩ := hN σ3 H3 n3
      exact ⟨m', hm, σ3, H3, I3, w3⟩
    | cont =>
      obtain ⟨σ3, H3, I3, n3⟩ := q3
      obtain ⟨m', hm, w3⟩ := hN σ3 H3 n3
      exact ⟨m', hm, σ3, H3, I3, w3⟩
    | brk => exact q3
    | ret v => exact q3
  | false =>
    rw [if_neg Bool.false_ne_true]
    exact wpAny_execs_nil ⟨σ1, H2, I2, q2⟩
end
structure It where
  go : Nat → Hp → Prop
  yld : Nat → Hp → V → Hp → Prop
  stop : Nat → Hp → Prop
def FpOk (X : Cx) (pins : List (Addr × Obj)) (H : Hp) (b : Addr) : Prop :=
  H b = none ∧ b ≠ X.env.locals ∧ b ∉ X.fs ∧ (b ∈ X.ex ∨ X.s₀.heap.objs.size ≤ b) ∧ (∀ x c, X.env.cells.lookup x = some c → c ≠ b) ∧ ∀ p ∈ X.pn ++ pins, p.1 ≠ b
theorem Inv.fpOk {X : Cx} {pins : List (Addr × Obj)} {σ : St} {H H' : Hp} {s : Shared} {b : Addr} (I : Inv X pins σ H s) (hb : s.heap.objs.size ≤ b) (hn : H' b = none) : FpOk X pins H' b := by
  refine ⟨hn, Nat.ne_of_gt (Nat.lt_of_lt_of_le I.lt hb), I.nofs hb, .inr (Nat.le_trans I.sz hb), fun x c e z => ?_, fun p hp z => ?_⟩
  · obtain ⟨v, q⟩ := I.cell x c e
    exact absurd (Nat.lt_of_lt_of_le q.lt (by rw [z]; exact hb)) (Nat.lt_irrefl _)
  · exact absurd (Nat.lt_of_lt_of_le (Heap.lt_size (I.pin p hp).1) (by rw [z]; exact hb)) (Nat.lt_irrefl _)
structure Turn (P : Program) (w : World) (K : PySem.W.Frag) (tg : Expr) (J : It) (fp : List Addr) (it : Addr) (tn : Nat → Heap → Prop) : Prop where
  mem : it ∈ fp
  obj : ∀ i h, tn i h → ∀ b ∈ fp, ∃ o, h.get? b = some o ∧ ∀ v, o.data ≠ .cell v
  keep : ∀ i h h', tn i h → (∀ b ∈ fp, ∀ o, h.get? b = some o → h'.get? b = some o) → tn i h'
  item : ∀ (X : Cx), X.prog = P → X.w = w → X.K = K → X.calm = true → ∀ (i : Nat) (pins : List (Addr × Obj)) (s : Shared) (σ : St) (H : Hp) (E : Value → Shared → Prop), Inv X pins σ H s → (∀ b ∈ fp, FpOk X pins H b) → tn i s.heap → J.go i H →
    wpAny (model P w) X.A (pyNext (.ref it)) (fun r s1 => ∃ u, r = some u ∧
      wpAny (model P w) X.A (letOwnedTupleGo tg (.ref it) u) (fun _ s2 => ∃ x H', Inv X pins σ H' s2 ∧ RelV x u ∧ J.yld i H x H' ∧ tn (i + 1) s2.heap ∧ ∀ b ∈ fp, H' b = none) E s1) E s
  done : ∀ (X : Cx), X.prog = P → X.w = w → X.K = K → X.calm = true → ∀ (i : Nat) (pins : List (Addr × Obj)) (s : Shared) (σ : St) (H : Hp) (E : Value → Shared → Prop), Inv X pins σ H s → (∀ b ∈ fp, FpOk X pins H b) → tn i s.heap → J.stop i H →
    wpAny (model P w) X.A (pyNext (.ref it)) (fun r s1 => r = none ∧ Inv X pins σ H s1) E s
  self : ∀ (A : Around) (i : Nat) (s : Shared) (Q : Value → Shared → Prop) (E : Value → Shared → Prop), tn i s.heap → Q (.ref it) s → wpAny (model P w) A (pyIter (.ref it)) Q E s
abbrev TI := St → Hp → (It → Hp → Prop) → Prop
def PIE (X : Cx) (pins : List (Addr × Obj)) (σ : St) (tg : Expr) (R : It → Hp → Prop) (itv : Value) (s2 : Shared) : Prop :=
  ∃ (it : Addr) (fp : List Addr) (tn : Nat → Heap → Prop) (J : It) (H' : Hp), itv = .ref it ∧ Inv X pins σ H' s2 ∧ Turn X.prog X.w X.K tg J fp it tn ∧ tn 0 s2.heap ∧ (∀ b ∈ fp, FpOk X pins H' b) ∧ R J H'
def PI (X : Cx) (tg iter : Expr) (wi : TI) : Prop :=
  ∀ (pins : List (Addr × Obj)) (s : Shared) (σ : St) (H : Hp) (R : It → Hp → Prop), Inv X pins σ H s → wi σ H R →
    wpAny (model X.prog X.w) X.A (eval iter X.env) (fun v s1 => wpAny (model X.prog X.w) X.A (pyIter v) (PIE X pins σ tg R) X.xe s1) X.xe s
theorem go_of {M : Model} {A : Around} {E : Value → Shared → Prop} {s : Shared} {tg : Expr} {it : Addr} {u : Value} {o : Obj} {n : String} {vs : Array Value} {Q : Unit → Shared → Prop} (ho : s.heap.get? it = some o) (hc : o.cls = .type n) (hd : o.data = .fields vs)
    (hn : ["enumerate", "zip", "dict_itemiterator", "dict_reverseitemiterator", "odict_iterator", "itertools.zip_longest", "itertools.pairwise"].contains n = false) (hQ : Q () s) : wpAny M A (letOwnedTupleGo tg (.ref it) u) Q E s := by
  unfold letOwnedTupleGo
  cases tg <;> first
    | exact wpAny_pure hQ
    | (cases u <;> first
        | exact wpAny_pure hQ
        | (refine wpAny_bind (wpAny_load ho ?_)
           rw [hc, hd]
           show wpAny M A (if (["enumerate", "zip", "dict_itemiterator", "dict_reverseitemiterator", "odict_iterator", "itertools.zip_longest", "itertools.pairwise"].contains n && vs[0]? == some (rawInt _)) = true then _ else _) Q E s
           rw [if_neg (by intro h; rw [hn, Bool.false_and] at h; cases h)]
           exact wpAny_pure hQ))
def Itl (K : PySem.W.Frag) (a : Addr) : It :=
  ⟨fun i H => ∃ xs x, SqL K H a xs ∧ xs[i]? = some x, fun i H x H' => H' = H ∧ ∀ xs, SqL K H a xs → xs[i]? = some x, fun i H => ∃ xs, SqL K H a xs ∧ xs.length ≤ i⟩
def Itr (lo : Int) (n : Nat) : It := ⟨fun i _ => i < n, fun i H x H' => H' = H ∧ x = .int (lo + i), fun i _ => n ≤ i⟩
theorem turn_list {P : Program} {w : World} {K : PySem.W.Frag} {tg : Expr} (a it : Addr) : Turn P w K tg (Itl K a) [it] it (fun i h => h.IsListIter it a i) where
  mem := by simp
  obj := fun i h st b hb => by
    have e : b = it := by simpa using hb
    subst e
    obtain ⟨o, e, c, d⟩ := st
    exact ⟨o, e, fun v z => by rw [d] at z; cases z⟩
  keep := fun i h h' st k => st.at fun o e => k it (by simp) o e
  item := by
    intro X hP hw hK hc i pins s σ H E I hf st hg
    subst hP hw hK
    obtain ⟨xs, x, hq, hx⟩ := hg
    obtain ⟨its, rv, p, hz⟩ := I.list hq
    obtain ⟨u, hu, ru⟩ := rv.get hx
    obtain ⟨f0, f1, f2, f3, f4, f5⟩ := hf it (by simp)
    refine wpAny_pyNext_list_item st p.isList (x := u) (by simpa using hu) fun h' st' sb => ?_
    have I1 : Inv X pins σ H { s with heap := h' } := I.turned (t' := s.toks) (fun b o hb e => (sb.2 b hb).trans e) f0 f1 f3 f4 f5
    obtain ⟨o, e, c, d⟩ := id st'
    exact ⟨u, rfl, go_of (s := { s with heap := h' }) e c d (by decide) ⟨x, H, I1, ru, ⟨rfl, fun ys hy => by rw [I.list_inj hy hq]; exact hx⟩, st', fun b hb => (hf b hb).1⟩⟩
  done := by
    intro X hP hw hK hc i pins s σ H E I hf st hg
    subst hP hw hK
    obtain ⟨xs, hq, hx⟩ := hg
    obtain ⟨its, rv, p, hz⟩ := I.list hq
    obtain ⟨f0, f1, f2, f3, f4, f5⟩ := hf it (by simp)
    have hl := rv.length
    exact wpAny_pyNext_list_end (I.ok.hd hc) st p.isList (by simp; omega) fun h' eb => ⟨rfl, I.turned (t' := s.toks) (fun b o hb e => eb b o hb e) f0 f1 f3 f4 f5⟩
  self := fun _ _ _ _ _ st h => wpAny_pyIter_listiter st h
theorem turn_range {P : Program} {w : World} {K : PySem.W.Frag} {tg : Expr} (it : Addr) (lo : Int) (n : Nat) : Turn P w K tg (Itr lo n) [it] it (fun i h => IsRangeIter h it (lo + (i : Nat) * 1) ((n : Int) - (i : Nat)) 1) where
  mem := by simp
  obj := fun i h st b hb => by
    have e : b = it := by simpa using hb
    subst e
    exact ⟨_, st, fun v z => by
      have z' : Data.fields _ = Data.cell v := z
      cases z'⟩
  keep := fun i h h' st k => k it (by simp) _ st
  item := by
    intro X hP hw hK hc i pins s σ H E I hf st hg
    subst hP hw hK
    obtain ⟨f0, f1, f2, f3, f4, f5⟩ := hf it (by simp)
    have W := Walks.range (prog := X.prog) (w := X.w) (I.ok.hd hc) it lo 1 n
    refine W.item i s _ _ hg st fun v h' tk hv st' kk => ?_
    obtain ⟨t, rfl⟩ := hv
    have I1 : Inv X pins σ H { s with heap := h', toks := tk } := I.turned (fun b o hb e => kk b o (by simpa using hb) e) f0 f1 f3 f4 f5
    refine ⟨_, rfl, go_of (s := { s with heap := h', toks := tk }) (n := "range_iterator") st' rfl rfl (by decide) ⟨.int (lo + i), H, I1, ⟨t, ?_⟩, ⟨rfl, rfl⟩, st', fun b hb => (hf b hb).1⟩⟩
    rw [Int.mul_one]
  done := by
    intro X hP hw hK hc i pins s σ H E I hf st hg
    subst hP hw hK
    obtain ⟨f0, f1, f2, f3, f4, f5⟩ := hf it (by simp)
    exact wpAny_pyNext_range_end (I.ok.hd hc) st (by have : n ≤ i := hg; omega) fun h' eb => ⟨rfl, I.turned (t' := s.toks) (fun b o hb e => eb b o hb e) f0 f1 f3 f4 f5⟩
  self := fun _ _ _ _ _ st h => wpAny_pyIter_rangeiter st h
end L2
namespace L2
open PySem PySem.Spec PyProof.Rows
section
variable {X : Cx} {tg : Expr}
def iList (K : PySem.W.Frag) (tl : TE) : TI := fun σ H R => tl σ H fun x H1 => ∃ a, x = .ref a ∧ (∃ xs, SqL K H1 a xs) ∧ R (Itl K a) H1
theorem pi_list {l : Expr} {tl : TE} (hl : PE X l tl) : PI X tg l (iList X.K tl) := by
  intro pins s σ H R I h
  refine thn (hl pins s σ H _ I h) fun v s1 ⟨x, H1, I1, r1, q1⟩ => ?_
  obtain ⟨a, e, ⟨xs, hq⟩, q⟩ := q1
  subst e
  cases r1
  obtain ⟨its, rv, p, hz⟩ := I1.list hq
  refine wpAny_pyIter_list p.isList ?_
  refine ⟨s1.heap.objs.size, [s1.heap.objs.size], _, _, H1, rfl, I1.kept (t' := s1.toks) fun b o e => Heap.get?_push_of_some _ e, turn_list a _, ⟨_, Heap.get?_push_size _ rfl, rfl, rfl⟩, fun b hb => ?_, q⟩
  have e : b = s1.heap.objs.size := by simpa using hb
  subst e
  exact I1.fpOk (Nat.le_refl _) (I1.hok.fresh (Nat.le_refl _))
theorem range_it {pins : List (Addr × Obj)} {σ : St} {H : Hp} {s : Shared} {R : It → Hp → Prop} {E : Value → Shared → Prop} {lo hi : Int} {t u v : Tok} {tk : Nat} (I : Inv X pins σ H s) (h1 : -(2 ^ 62) ≤ lo) (h2 : lo < 2 ^ 62) (h3 : -(2 ^ 62) ≤ hi) (h4 : hi < 2 ^ 62)
    (q : R (Itr lo (hi - lo).toNat) H) : wpAny (model X.prog X.w) X.A (pyIter (.ref s.heap.objs.size)) (PIE X pins σ tg R) E { s with heap := s.heap.push { cls := .type "range", data := .fields #[.int lo t, .int hi u, .int 1 v] }, toks := tk } := by
  refine wpAny_pyIter_range (IsRange.new ..) (small_one h1 h2 h3 h4) ?_
  have I1 : Inv X pins σ H { s with heap := s.heap.push { cls := .type "range", data := .fields #[.int lo t, .int hi u, .int 1 v] }, toks := tk } := I.kept fun b o e => Heap.get?_push_of_some _ e
  refine ⟨(s.heap.push { cls := .type "range", data := .fields #[.int lo t, .int hi u, .int 1 v] }).objs.size, [(s.heap.push { cls := .type "range", data := .fields #[.int lo t, .int hi u, .int 1 v] }).objs.size], _, _, H, rfl,
    I1.kept (t' := tk) fun b o e => Heap.get?_push_of_some _ e, turn_range _ lo (hi - lo).toNat, ?_, fun b hb => ?_, q⟩
  · have e1 : lo + ((0 : Nat) : Int) * 1 = lo := by simp
    have e2 : (((hi - lo).toNat : Nat) : Int) - ((0 : Nat) : Int) = Builtin.Range.rangeSize lo hi 1 := by rw [rangeSize_one]; split <;> omega
    show IsRangeIter _ _ (lo + ((0 : Nat) : Int) * 1) ((((hi - lo).toNat : Nat) : Int) - ((0 : Nat) : Int)) 1
    rw [e1, e2]
    exact Heap.get?_push_size _ rfl
  · have e : b = (s.heap.push { cls := .type "range", data := .fields #[.int lo t, .int hi u, .int 1 v] }).objs.size := by simpa using hb
    subst e
    exact I1.fpOk (Nat.le_refl _) (I1.hok.fresh (Nat.le_refl _))
def iRng1 (ta : TA) : TI := fun σ H R => ta σ H fun vs H1 => ∃ j : Int, vs = [.int j] ∧ -(2 ^ 62) ≤ j ∧ j < 2 ^ 62 ∧ R (Itr 0 j.toNat) H1
theorem pi_range1 {a : Expr} {ta : TA} {p pos : Pos} (hg : Gl X "range") (hm : X.mg "range" = none) (ha : PA X [a] ta) (hs : starEach [a] X.env = [(false, eval a X.env)] := by rfl) : PI X tg (.Call (.Name "range" p) [a] [] pos) (iRng1 ta) := by
  intro pins s σ H R I h
  refine Call_ (ld_blt I hg hm boot_range (PyProof.Rows.callWith_type1 (thn (ha pos pins s σ H _ I h) fun us s1 ⟨vs, H1, I1, r1, q1⟩ => ?_) hs rfl))
  obtain ⟨j, e, q1, q2, q⟩ := q1
  subst e
  cases r1 with
  | cons r rr =>
    cases rr
    obtain ⟨t, rfl⟩ := r
    exact call_range_1 (range_it I1 (by omega) (by omega) q1 q2 (by simpa using q))
def tFor (wi : TI) (g : TG) (tb : TS) : TS := fun D σ H => wi σ H fun J H1 => ∃ W : Nat → Nat → St → Hp → Prop, (∃ m, W 0 m σ H1) ∧ ∀ i m σ H, W i m σ H →
  (J.stop i H ∧ D.nx σ H) ∨ (J.go i H ∧ ∃ N : St → Hp → Prop, (∀ σ' H', N σ' H' → ∃ m', m' < m ∧ W (i + 1) m' σ' H') ∧ ∀ x H', J.yld i H x H' → g x σ H' fun σ2 H2 => tb { D with nx := N, ct := N, bk := D.nx } σ2 H2)
def pinsAt (fp : List Addr) (h : Heap) : List (Addr × Obj) := fp.filterMap fun b => (h.get? b).map fun o => (b, o)
theorem mem_pinsAt {fp : List Addr} {h : Heap} {b : Addr} {o : Obj} (hb : b ∈ fp) (e : h.get? b = some o) : (b, o) ∈ pinsAt fp h := List.mem_filterMap.mpr ⟨b, hb, by rw [e]; rfl⟩
theorem of_pinsAt {fp : List Addr} {h : Heap} {p : Addr × Obj} (hp : p ∈ pinsAt fp h) : p.1 ∈ fp ∧ h.get? p.1 = some p.2 := by
  obtain ⟨b, hb, e⟩ := List.mem_filterMap.mp hp
  cases q : h.get? b with
  | none => rw [q] at e; cases e
  | some o =>
    rw [q] at e
    have e' : (b, o) = p := Option.some.inj e
    subst e'
    exact ⟨hb, q⟩
theorem Inv.pinned {pins : List (Addr × Obj)} {σ : St} {H : Hp} {s : Shared} {fp : List Addr} (I : Inv X pins σ H s) (hf : ∀ b ∈ fp, FpOk X pins H b) (ho : ∀ b ∈ fp, ∃ o, s.heap.get? b = some o ∧ ∀ v, o.data ≠ .cell v) : Inv X (pins ++ pinsAt fp s.heap) σ H s :=
  I.pins_of fun p hp => (List.mem_append.mp hp).elim (fun z => I.pin p (List.mem_append_right _ z)) fun z => by
    obtain ⟨hb, e⟩ := of_pinsAt z
    obtain ⟨f0, f1, f2, _⟩ := hf p.1 hb
    obtain ⟨o, e', d⟩ := ho p.1 hb
    rw [e] at e'; cases e'
    exact ⟨e, f0, f1, f2, d⟩
theorem Inv.unpinned {pins pl : List (Addr × Obj)} {σ : St} {H : Hp} {s : Shared} (I : Inv X (pins ++ pl) σ H s) : Inv X pins σ H s := I.pins_of fun p hp => I.pin p (List.mem_append_right _ (List.mem_append_left _ hp))
theorem ps_for {iter : Expr} {body : List Stmt} {wi : TI} {g : TG} {tb : TS} {pos : Pos} (hp : PassesOwn (model X.prog X.w) X.A X.env X.xe) (hc : X.calm = true) (hi : PI X tg iter wi) (hg : PG X tg g) (hb : PSs X body tb)
    (hs : ∀ x, foldedSetIterable iter X.env x = pure x := by intro _; rfl) : PS X (.For tg iter body [] pos) (tFor wi g tb) := by
  intro pins s σ H D I h
  refine wpAny_For (thn (hi pins s σ H _ I h) fun v s1 h1 => thn h1 fun itv s2 h2 => ?_) hs
  obtain ⟨it, fp, tn, J, H2, e, I2, T, st2, f2, W, ⟨m0, w0⟩, turn⟩ := h2
  subst e
  -- what stays true of the iterator's objects through the loop
  have stat : ∀ {H' : Hp}, (∀ b ∈ fp, H' b = none) → ∀ b ∈ fp, FpOk X pins H' b := fun hn b hb => ⟨hn b hb, (f2 b hb).2⟩
  refine codeAny_forLoop_any (fun n s' => ∃ i σ' H', Inv X pins σ' H' s' ∧ tn i s'.heap ∧ (∀ b ∈ fp, H' b = none) ∧ W i n σ' H') ?_ m0 ⟨0, σ, H2, I2, st2, fun b hb => (f2 b hb).1, w0⟩
  rintro n s3 ⟨i, σ3, H3, I3, st3, fr3, w3⟩
  rcases turn i n σ3 H3 w3 with ⟨stop, qn⟩ | ⟨go, N, hN, step⟩
  · refine wpAny_passesOwn hp (thn (T.done X rfl rfl rfl hc i pins s3 σ3 H3 X.xe I3 (stat fr3) st3 stop) fun r s4 ⟨hr, I4⟩ => ?_)
    subst hr
    exact wpAny_execs_nil ⟨σ3, H3, I4, qn⟩
  · refine wpAny_passesOwn hp (thn (T.item X rfl rfl rfl hc i pins s3 σ3 H3 X.xe I3 (stat fr3) st3 go) fun r s4 ⟨u, hr, h4⟩ => ?_)
    subst hr
    refine wpAny_passesOwn hp (thn h4 fun _ s5 ⟨x, H5, I5, r5, y5, st5, fr5⟩ => ?_)
    have I5' := I5.pinned (stat fr5) (T.obj _ _ st5)
    refine wpAny_passesOwn hp (thn (hg _ s5 σ3 H5 x u _ I5' r5 (step x H5 y5)) fun _ s6 ⟨σ6, H6, I6, q6⟩ => ?_)
    refine wpAny_passesOwn hp (thn (hb _ s6 σ6 H6 _ I6 q6) fun f s7 q7 => ?_)
    have again : ∀ {σ7 : St} {H7 : Hp}, Inv X (pins ++ pinsAt fp s5.heap) σ7 H7 s7 → N σ7 H7 → ∃ m, m < n ∧ ∃ i σ' H', Inv X pins σ' H' s7 ∧ tn i s7.heap ∧ (∀ b ∈ fp, H' b = none) ∧ W i m σ' H' := fun {σ7 H7} I7 n7 => by
      obtain ⟨m', hm, w7⟩ := hN σ7 H7 n7
      refine ⟨m', hm, i + 1, σ7, H7, I7.unpinned, T.keep _ _ _ st5 fun b hb o e => (I7.pin (b, o) (List.mem_append_right _ (List.mem_append_right _ (mem_pinsAt hb e)))).1, fun b hb => ?_, w7⟩
      obtain ⟨o, e, d⟩ := T.obj _ _ st5 b hb
      exact (I7.pin (b, o) (List.mem_append_right _ (List.mem_append_right _ (mem_pinsAt hb e)))).2.1
    cases f with
    | next => obtain ⟨σ7, H7, I7, n7⟩ := q7; exact again I7 n7
    | cont => obtain ⟨σ7, H7, I7, n7⟩ := q7; exact again I7 n7
    | brk => obtain ⟨σ7, H7, I7, q7⟩ := q7; exact ⟨σ7, H7, I7.unpinned, q7⟩
    | ret v => obtain ⟨x7, σ7, H7, I7, r7, q7⟩ := q7; exact ⟨x7, σ7, H7, I7.unpinned, r7, q7⟩
end
end L2
namespace L2
open PySem PySem.Spec PyProof.Rows
abbrev R2 := V → V → Hp → VK → Prop
def OpR (X : Cx) (f : Value → Value → Sem Value) (r : R2) : Prop :=
  ∀ (pins : List (Addr × Obj)) (s : Shared) (σ : St) (H : Hp) (x y : V) (v u : Value) (Q : VK), Inv X pins σ H s → RelV x v → RelV y u → r x y H Q →
    wpAny (model X.prog X.w) X.A (f v u) (EP X pins σ Q) X.xe s
def CallR (X : Cx) (f : Value) (r : List V → Hp → VK → Prop) : Prop :=
  ∀ (pins : List (Addr × Obj)) (s : Shared) (σ : St) (H : Hp) (xs : List V) (us : List Value) (Q : VK), Inv X pins σ H s → Vals xs us → r xs H Q →
    wpAny (model X.prog X.w) X.A (call f us) (EP X pins σ Q) X.xe s
def TruR (X : Cx) (r : V → Hp → (Bool → Hp → Prop) → Prop) : Prop :=
  ∀ (pins : List (Addr × Obj)) (s : Shared) (σ : St) (H : Hp) (x : V) (v : Value) (Q : Bool → Hp → Prop), Inv X pins σ H s → RelV x v → r x H Q →
    wpAny (model X.prog X.w) X.A (truthy v) (TP X pins σ Q) X.xe s
def tOp (r : R2) (ta tb : TE) : TE := fun σ H Q => ta σ H fun x H1 => tb σ H1 fun y H2 => r x y H2 Q
def rI (C : Int → Int → Prop) (g : Int → Int → V) : R2 := fun x y H Q => ∃ i j, x = .int i ∧ y = .int j ∧ C i j ∧ Q (g i j) H
def rI0 (g : Int → Int → V) : R2 := fun x y H Q => ∃ i j, x = .int i ∧ y = .int j ∧ Q (g i j) H
section
variable {X : Cx} {a b c : Expr} {ta tb tc : TE} {pos : Pos}
theorem binT (ha : PE X a ta) (hb : PE X b tb) {pins : List (Addr × Obj)} {s : Shared} {σ : St} {H : Hp} {R : V → V → Hp → Prop} (I : Inv X pins σ H s)
    (h : ta σ H fun x H1 => tb σ H1 fun y H2 => R x y H2) {Q : Value → Shared → Prop} {f : Value → Value → Sem Value}
    (hf : ∀ v u s2 x y H2, Inv X pins σ H2 s2 → RelV x v → RelV y u → R x y H2 → wpAny (model X.prog X.w) X.A (f v u) Q X.xe s2) :
    wpAny (model X.prog X.w) X.A (eval a X.env) (fun v s₁ => wpAny (model X.prog X.w) X.A (eval b X.env) (fun u s₂ => wpAny (model X.prog X.w) X.A (f v u) Q X.xe s₂) X.xe s₁) X.xe s := by
  refine thn (ha pins s σ H _ I h) fun v s1 ⟨x, H1, I1, r1, q1⟩ => ?_
  refine thn (hb pins s1 σ H1 _ I1 q1) fun u s2 ⟨y, H2, I2, r2, q2⟩ => ?_
  exact hf v u s2 x y H2 I2 r1 r2 q2
theorem pe_op {op : Operator} {r : R2} (ho : OpR X (binaryOp op) r) (ha : PE X a ta) (hb : PE X b tb) : PE X (.BinOp a op b pos) (tOp r ta tb) := by
  intro pins s σ H Q I h
  exact wpAny_BinOp (binT ha hb I h fun v u s2 x y H2 I2 rx ry q => ho pins s2 σ H2 x y v u Q I2 rx ry q)
theorem opI {f : Value → Value → Sem Value} {C : Int → Int → Prop} {g : Int → Int → Int}
    (rule : ∀ (i j : Int) (t u : Tok) (s : Shared) (Q : Value → Shared → Prop) (E : Value → Shared → Prop), C i j → Q (.int (g i j) s.toks) { s with toks := s.toks + 1 } → wpAny (model X.prog X.w) X.A (f (.int i t) (.int j u)) Q E s) :
    OpR X f (rI C fun i j => .int (g i j)) := by
  intro pins s σ H x y v u Q I rx ry h
  obtain ⟨i, j, rfl, rfl, hc, q⟩ := h
  obtain ⟨t, rfl⟩ := rx
  obtain ⟨t', rfl⟩ := ry
  exact rule i j t t' s _ _ hc ⟨.int (g i j), H, I.tok _, ⟨_, rfl⟩, q⟩
theorem opI0 {f : Value → Value → Sem Value} {g : Int → Int → Int}
    (rule : ∀ (i j : Int) (t u : Tok) (s : Shared) (Q : Value → Shared → Prop) (E : Value → Shared → Prop), Q (.int (g i j) s.toks) { s with toks := s.toks + 1 } → wpAny (model X.prog X.w) X.A (f (.int i t) (.int j u)) Q E s) :
    OpR X f (rI0 fun i j => .int (g i j)) := by
  intro pins s σ H x y v u Q I rx ry h
  obtain ⟨i, j, rfl, rfl, q⟩ := h
  obtain ⟨t, rfl⟩ := rx
  obtain ⟨t', rfl⟩ := ry
  exact rule i j t t' s _ _ ⟨.int (g i j), H, I.tok _, ⟨_, rfl⟩, q⟩
theorem opB0 {f : Value → Value → Sem Value} {g : Int → Int → Bool}
    (rule : ∀ (i j : Int) (t u : Tok) (s : Shared) (Q : Value → Shared → Prop) (E : Value → Shared → Prop), Q (.bool (g i j)) s → wpAny (model X.prog X.w) X.A (f (.int i t) (.int j u)) Q E s) :
    OpR X f (rI0 fun i j => .bl (g i j)) := by
  intro pins s σ H x y v u Q I rx ry h
  obtain ⟨i, j, rfl, rfl, q⟩ := h
  obtain ⟨t, rfl⟩ := rx
  obtain ⟨t', rfl⟩ := ry
  exact rule i j t t' s _ _ ⟨.bl (g i j), H, I, rfl, q⟩
def CDiv (i j : Int) : Prop := 0 < j ∧ j < 1073741824
def CPow (i j : Int) : Prop := 0 ≤ j ∧ j ≤ 1000000 ∧ i.natAbs < 2 ^ 64
def CMul (i j : Int) : Prop := (-(2 ^ 64) < i ∧ i < 2 ^ 64) ∨ (-(2 ^ 64) < j ∧ j < 2 ^ 64)
theorem CMul.ok {i j : Int} (h : CMul i j) : IntMulOk i j := by
  rcases h with ⟨h1, h2⟩ | ⟨h1, h2⟩
  · exact .of_left (intBits_le_64 h1 h2)
  · exact .of_right (intBits_le_64 h1 h2)
theorem op_add : OpR X (binaryOp .Add) (rI0 fun i j => .int (i + j)) := opI0 fun _ _ _ _ _ _ _ q => add_int q
theorem op_sub : OpR X (binaryOp .Sub) (rI0 fun i j => .int (i - j)) := opI0 fun _ _ _ _ _ _ _ q => sub_int q
theorem op_mul : OpR X (binaryOp .Mult) (rI CMul fun i j => .int (i * j)) := opI fun _ _ _ _ _ _ _ hc q => mul_int q hc.ok
theorem op_mod : OpR X (binaryOp .Mod) (rI (fun _ j => 0 < j) fun i j => .int (i % j)) := opI fun i j _ _ _ _ _ hc q => by
  have h1 : (0 : Int) < j := hc
  exact mod_int' (by omega) (by rw [Int.fmod_eq_emod_of_nonneg i (by omega)]; exact q)
end
def scal : V → V → Bool
  | .non, .non => true | .non, .int _ => true | .int _, .non => true | .non, .bl _ => true | .bl _, .non => true | .non, .str _ => true | .str _, .non => true
  | .int _, .int _ => true | .bl _, .bl _ => true | .str _, .str _ => true | .byt _, .byt _ => true
  | .int _, .str _ => true | .str _, .int _ => true | .bl _, .str _ => true | .str _, .bl _ => true
  | _, _ => false
def rEq : R2 := fun x y H Q => scal x y = true ∧ Q (.bl (decide (x = y))) H
def rNe : R2 := fun x y H Q => scal x y = true ∧ Q (.bl (!decide (x = y))) H
theorem dec_int {i j : Int} : decide (V.int i = V.int j) = (i == j) := by
  rw [Bool.eq_iff_iff]
  simp
theorem dec_bl {i j : Bool} : decide (V.bl i = V.bl j) = (i == j) := by
  rw [Bool.eq_iff_iff]
  simp
theorem dec_str {i j : Str} : decide (V.str i = V.str j) = (i == j) := by
  rw [Bool.eq_iff_iff]
  simp
theorem dec_byt {i j : Array UInt8} : decide (V.byt i = V.byt j) = (i.toList == j.toList) := by
  rw [Bool.eq_iff_iff]
  cases i
  cases j
  simp
section
variable {X : Cx} {a b c : Expr} {ta tb tc : TE} {pos : Pos}
theorem fin_bl {pins : List (Addr × Obj)} {σ : St} {H : Hp} {s : Shared} {Q : VK} {k k' : Bool} (I : Inv X pins σ H s) (q : Q (.bl k) H) (e : k = k') : EP X pins σ Q (.bool k') s := by
  subst e
  exact ⟨.bl k, H, I, rfl, q⟩
theorem op_eq : OpR X (compareOp .Eq) rEq := by
  intro pins s σ H x y v u Q I rx ry h
  obtain ⟨hs, q⟩ := h
  cases x with
  | non =>
    cases rx
    cases y with
    | non => cases ry; exact PySem.EqNone.eq_none_none (fin_bl I q (by simp))
    | bl j => cases ry; exact PySem.EqNone.eq_none_bool (fin_bl I q (by simp))
    | int j => obtain ⟨t', rfl⟩ := ry; exact PySem.EqNone.eq_none_int (fin_bl I q (by simp))
    | str j => obtain ⟨t', rfl⟩ := ry; exact PySem.EqNone.eq_none_str (fin_bl I q (by simp))
    | _ => exact absurd (show false = true from hs) Bool.false_ne_true
  | bl i =>
    cases rx
    cases y with
    | non => cases ry; exact PySem.EqNone.eq_bool_none (fin_bl I q (by simp))
    | bl j => cases ry; exact eq_bool (fin_bl I q dec_bl)
    | str j => obtain ⟨t', rfl⟩ := ry; exact PySem.EqMixed.eq_bool_str (fin_bl I q (by simp))
    | _ => exact absurd (show false = true from hs) Bool.false_ne_true
  | int i =>
    obtain ⟨t, rfl⟩ := rx
    cases y with
    | non => cases ry; exact PySem.EqNone.eq_int_none (fin_bl I q (by simp))
    | int j => obtain ⟨t', rfl⟩ := ry; exact eq_int (fin_bl I q dec_int)
    | str j => obtain ⟨t', rfl⟩ := ry; exact PySem.EqMixed.eq_int_str (fin_bl I q (by simp))
    | _ => exact absurd (show false = true from hs) Bool.false_ne_true
  | str i =>
    obtain ⟨t, rfl⟩ := rx
    cases y with
    | non => cases ry; exact PySem.EqNone.eq_str_none (fin_bl I q (by simp))
    | bl j => cases ry; exact PySem.EqMixed.eq_str_bool (fin_bl I q (by simp))
    | int j => obtain ⟨t', rfl⟩ := ry; exact PySem.EqMixed.eq_str_int (fin_bl I q (by simp))
    | str j => obtain ⟨t', rfl⟩ := ry; exact eq_str (fin_bl I q dec_str)
    | _ => exact absurd (show false = true from hs) Bool.false_ne_true
  | byt i =>
    obtain ⟨t, rfl⟩ := rx
    cases y with
    | byt j => obtain ⟨t', rfl⟩ := ry; exact PySem.W.eq_bytes (fin_bl I q dec_byt)
    | _ => exact absurd (show false = true from hs) Bool.false_ne_true
  | _ => cases y <;> exact absurd (show false = true from hs) Bool.false_ne_true
theorem op_ne : OpR X (compareOp .NotEq) rNe := by
  intro pins s σ H x y v u Q I rx ry h
  obtain ⟨hs, q⟩ := h
  cases x with
  | non =>
    cases rx
    cases y with
    | non => cases ry; exact PySem.EqNone.ne_none_none (fin_bl I q (by simp))
    | bl j => cases ry; exact PySem.EqNone.ne_none_bool (fin_bl I q (by simp))
    | int j => obtain ⟨t', rfl⟩ := ry; exact PySem.EqNone.ne_none_int (fin_bl I q (by simp))
    | str j => obtain ⟨t', rfl⟩ := ry; exact PySem.EqNone.ne_none_str (fin_bl I q (by simp))
    | _ => exact absurd (show false = true from hs) Bool.false_ne_true
  | bl i =>
    cases rx
    cases y with
    | non => cases ry; exact PySem.EqNone.ne_bool_none (fin_bl I q (by simp))
    | bl j => cases ry; exact ne_bool (fin_bl I q (congrArg not dec_bl))
    | str j => obtain ⟨t', rfl⟩ := ry; exact PySem.EqMixed.ne_bool_str (fin_bl I q (by simp))
    | _ => exact absurd (show false = true from hs) Bool.false_ne_true
  | int i =>
    obtain ⟨t, rfl⟩ := rx
    cases y with
    | non => cases ry; exact PySem.EqNone.ne_int_none (fin_bl I q (by simp))
    | int j => obtain ⟨t', rfl⟩ := ry; exact ne_int (fin_bl I q (congrArg not dec_int))
    | str j => obtain ⟨t', rfl⟩ := ry; exact PySem.EqMixed.ne_int_str (fin_bl I q (by simp))
    | _ => exact absurd (show false = true from hs) Bool.false_ne_true
  | str i =>
    obtain ⟨t, rfl⟩ := rx
    cases y with
    | non => cases ry; exact PySem.EqNone.ne_str_none (fin_bl I q (by simp))
    | bl j => cases ry; exact PySem.EqMixed.ne_str_bool (fin_bl I q (by simp))
    | int j => obtain ⟨t', rfl⟩ := ry; exact PySem.EqMixed.ne_str_int (fin_bl I q (by simp))
    | str j => obtain ⟨t', rfl⟩ := ry; exact ne_str (fin_bl I q (congrArg not dec_str))
    | _ => exact absurd (show false = true from hs) Bool.false_ne_true
  | byt i =>
    obtain ⟨t, rfl⟩ := rx
    cases y with
    | byt j => obtain ⟨t', rfl⟩ := ry; exact PySem.W.ne_bytes (fin_bl I q (congrArg not dec_byt))
    | _ => exact absurd (show false = true from hs) Bool.false_ne_true
  | _ => cases y <;> exact absurd (show false = true from hs) Bool.false_ne_true
theorem op_lt : OpR X (compareOp .Lt) (rI0 fun i j => .bl (decide (i < j))) := opB0 fun _ _ _ _ _ _ _ q => lt_int q
theorem op_le : OpR X (compareOp .LtE) (rI0 fun i j => .bl (decide (i ≤ j))) := opB0 fun _ _ _ _ _ _ _ q => le_int q
theorem op_gt : OpR X (compareOp .Gt) (rI0 fun i j => .bl (decide (j < i))) := opB0 fun _ _ _ _ _ _ _ q => gt_int q
theorem OpR.or {f : Value → Value → Sem Value} {r r' : R2} (h : OpR X f r) (h' : OpR X f r') : OpR X f (fun x y H Q => r x y H Q ∨ r' x y H Q) := by
  intro pins s σ H x y v u Q I rx ry q
  rcases q with q | q
  · exact h pins s σ H x y v u Q I rx ry q
  · exact h' pins s σ H x y v u Q I rx ry q
theorem nomark (b : Expr) {op : CmpOp} (h : op ≠ .In := by decide) (h2 : op ≠ .NotIn := by decide) : behindInMarks op b = false := by
  have e1 : (op == CmpOp.In) = false := by cases op <;> first | rfl | exact absurd rfl h
  have e2 : (op == CmpOp.NotIn) = false := by cases op <;> first | rfl | exact absurd rfl h2
  cases b <;> simp [behindInMarks, e1, e2]
theorem pe_cmpR {op : CmpOp} {r : R2} (ho : OpR X (compareOp op) r) (ha : PE X a ta) (hb : PE X b tb) (hm : behindInMarks op b = false) : PE X (.Compare a [op] [b] pos) (tOp r ta tb) := by
  intro pins s σ H Q I h
  exact wpAny_Compare1 (binT ha hb I h fun v u s2 x y H2 I2 rx ry q => ho pins s2 σ H2 x y v u Q I2 rx ry q) hm
def tTest (t : TE) : TT := fun σ H Q => t σ H fun x H' => ∃ k, x = .bl k ∧ Q k H'
theorem pt_cmpR {op : CmpOp} {r : R2} (ho : OpR X (compareOp op) r) (ha : PE X a ta) (hb : PE X b tb) (hm : behindInMarks op b = false) : PT X (.Compare a [op] [b] pos) (tTest (tOp r ta tb)) := by
  intro pins s σ H Q I h
  refine wpAny_isTrue_Compare1 (thn (ha pins s σ H _ I h) fun v s1 ⟨x, H1, I1, r1, q1⟩ => thn (hb pins s1 σ H1 _ I1 q1) fun u s2 ⟨y, H2, I2, r2, q2⟩ =>
    thn (ho pins s2 σ H2 x y v u _ I2 r1 r2 q2) fun c s3 ⟨z, H3, I3, r3, k, e, q3⟩ => ?_) hm
  subst e
  cases r3
  exact wpAny_truthy_bool ⟨H3, I3, q3⟩
def tChain (r r' : R2) (ta tb tc : TE) : TE := fun σ H Q => ta σ H fun x H1 => tb σ H1 fun y H2 => r x y H2 fun z H3 => ∃ k, z = .bl k ∧
  (if k = true then tc σ H3 fun w' H4 => r' y w' H4 Q else Q (.bl false) H3)
theorem pe_chain {op op' : CmpOp} {r r' : R2} (ho : OpR X (compareOp op) r) (ho' : OpR X (compareOp op') r') (ha : PE X a ta) (hb : PE X b tb) (hc : PE X c tc)
    (hm : lastMarks [op, op'] [b, c] = false := by with_unfolding_all rfl) : PE X (.Compare a [op, op'] [b, c] pos) (tChain r r' ta tb tc) := by
  intro pins s σ H Q I h
  refine Compare_chain (thn (ha pins s σ H _ I h) fun v s1 ⟨x, H1, I1, r1, q1⟩ => chain_link (thn (hb pins s1 σ H1 _ I1 q1) fun u s2 ⟨y, H2, I2, r2, q2⟩ =>
    thn (ho pins s2 σ H2 x y v u _ I2 r1 r2 q2) fun d s3 ⟨z, H3, I3, r3, k, e, q3⟩ => ?_)) hm
  subst e
  cases r3
  refine wpAny_truthy_bool ?_
  cases k with
  | false => exact ite_ff ⟨.bl false, H3, I3, rfl, q3⟩
  | true => exact ite_tt (chain_last (thn (hc pins s3 σ H3 _ I3 q3) fun w' s4 ⟨z', H4, I4, r4, q4⟩ => ho' pins s4 σ H4 y z' u w' Q I4 r2 r4 q4))
def TruV (K : PySem.W.Frag) (x : V) (H : Hp) (k : Bool) : Prop :=
  match x with
  | .non => k = false
  | .bl b => k = b
  | .int i => k = (i != 0)
  | .str y => y.length ≤ sizeLine ∧ k = ((y.length : Int) != 0)
  | .byt y => y.size ≤ sizeLine ∧ k = ((y.size : Int) != 0)
  | .ref p => (∃ xs, SqL K H p xs ∧ k = !xs.isEmpty) ∨ (∃ xs, SqT K H p xs ∧ k = !xs.isEmpty) ∨ ∃ kvs, H p = some (.dK kvs) ∧ k = !kvs.isEmpty
  | _ => False
theorem isEmpty_kv {κ : Type} {kvs : List (κ × V)} {vs : List (κ × Value)} (r : KV kvs vs) : (!vs.isEmpty) = !kvs.isEmpty := by
  cases r <;> rfl
theorem isEmpty_of {xs : List V} {its : List Value} (r : Vals xs its) : (!its.toArray.isEmpty) = !xs.isEmpty := by
  cases r <;> simp
theorem line63 : (sizeLine : Nat) < 2 ^ 63 := by rw [sizeLine_eq]; decide
theorem tru_ok : TruR X (fun x H Q => ∃ k, TruV X.K x H k ∧ Q k H) := by
  intro pins s σ H x v Q I rx h
  obtain ⟨k, e, q⟩ := h
  have hl := line63
  have hs : sizeLine = 16777216 := sizeLine_eq
  cases x with
  | non =>
    cases rx
    have e' : k = false := e
    subst e'
    exact truthy_none ⟨H, I, q⟩
  | bl b =>
    cases rx
    have e' : k = b := e
    subst e'
    exact wpAny_truthy_bool ⟨H, I, q⟩
  | int i =>
    obtain ⟨t, rfl⟩ := rx
    have e' : k = (i != 0) := e
    subst e'
    exact PySem.P.truthy_int ⟨H, I, q⟩
  | str y =>
    obtain ⟨t, rfl⟩ := rx
    obtain ⟨hy, e'⟩ : y.length ≤ sizeLine ∧ k = ((y.length : Int) != 0) := e
    subst e'
    exact PySem.P.truthy_str (by omega) ⟨H, I.tok _, q⟩
  | byt y =>
    obtain ⟨t, rfl⟩ := rx
    obtain ⟨hy, e'⟩ : y.size ≤ sizeLine ∧ k = ((y.size : Int) != 0) := e
    subst e'
    exact PySem.W.truthy_bytes (by omega) ⟨H, I.tok _, q⟩
  | ref p =>
    cases rx
    have e' : (∃ xs, SqL X.K H p xs ∧ k = !xs.isEmpty) ∨ (∃ xs, SqT X.K H p xs ∧ k = !xs.isEmpty) ∨ ∃ kvs, H p = some (.dK kvs) ∧ k = !kvs.isEmpty := e
    rcases e' with ⟨xs, hx, e'⟩ | ⟨xs, hx, e'⟩ | ⟨kvs, hx, e'⟩
    · subst e'
      obtain ⟨its, r, pl, hz⟩ := I.list hx
      have hlen := r.length
      exact wpAny_truthy_list pl.isList (by simp only [List.size_toArray]; omega) ⟨H, I.tok _, by rw [isEmpty_of r]; exact q⟩
    · subst e'
      obtain ⟨its, r, pl, hz⟩ := I.tuple hx
      have hlen := r.length
      exact truthy_tuple pl (by simp only [List.size_toArray]; omega) ⟨H, I.tok _, by rw [isEmpty_of r]; exact q⟩
    · subst e'
      obtain ⟨hz, hS, vs, r, m⟩ : kvs.length ≤ sizeLine ∧ (p == sysModules) = false ∧ ∃ vs, KV kvs vs ∧ s.heap.DictOf (mixKind X.prog X.w) p vs := I.hok p _ hx
      have hlen : kvs.length = vs.length := Paired.length r
      exact wpAny_truthy_dict hS m (by omega) ⟨H, I.tok _, by rw [isEmpty_kv r]; exact q⟩
  | _ => exact (show False from e).elim
theorem pt_truth (ha : PE X a ta) (he : ∀ whole, isTrue a X.env whole = (do let v ← whole; standAt a.pos; holding [v] (truthy v))) :
    PT X a (fun σ H Q => ta σ H fun x H' => ∃ k, TruV X.K x H' k ∧ Q k H') := by
  intro pins s σ H Q I h
  exact isTrue_plain (thn (ha pins s σ H _ I h) fun v s1 ⟨x, H1, I1, r1, q1⟩ => tru_ok pins s1 σ H1 x v Q I1 r1 q1) (he _)
theorem vals1 {x : V} {us : List Value} (r : Vals [x] us) : ∃ u, us = [u] ∧ RelV x u := by
  cases r with
  | cons r1 r2 => cases r2; exact ⟨_, rfl, r1⟩
theorem vals2 {x y : V} {us : List Value} (r : Vals [x, y] us) : ∃ u w', us = [u, w'] ∧ RelV x u ∧ RelV y w' := by
  cases r with
  | cons r1 r2 =>
    cases r2 with
    | cons r3 r4 => cases r4; exact ⟨_, _, rfl, r1, r3⟩
def LenV (K : PySem.W.Frag) (x : V) (H : Hp) (n : Nat) : Prop :=
  match x with
  | .str y => y.length ≤ sizeLine ∧ n = y.length
  | .byt y => y.size ≤ sizeLine ∧ n = y.size
  | .ref p => (∃ xs, SqL K H p xs ∧ n = xs.length) ∨ ∃ xs, SqT K H p xs ∧ n = xs.length
  | _ => False
theorem call_len : CallR X (.builtin "len") (fun xs H Q => ∃ x n, xs = [x] ∧ LenV X.K x H n ∧ Q (.int n) H) := by
  intro pins s σ H xs us Q I r h
  obtain ⟨x, n, rfl, e, q⟩ := h
  obtain ⟨u, rfl, rx⟩ := vals1 r
  have hl := line63
  have hs : sizeLine = 16777216 := sizeLine_eq
  cases x with
  | str y =>
    obtain ⟨t, rfl⟩ := rx
    obtain ⟨hy, e'⟩ : y.length ≤ sizeLine ∧ n = y.length := e
    subst e'
    exact len_str (by omega) ⟨.int _, H, I.tok _, ⟨_, rfl⟩, q⟩
  | byt y =>
    obtain ⟨t, rfl⟩ := rx
    obtain ⟨hy, e'⟩ : y.size ≤ sizeLine ∧ n = y.size := e
    subst e'
    exact PySem.W.len_bytes (by omega) ⟨.int _, H, I.tok _, ⟨_, rfl⟩, q⟩
  | ref p =>
    cases rx
    have e' : (∃ xs, SqL X.K H p xs ∧ n = xs.length) ∨ ∃ xs, SqT X.K H p xs ∧ n = xs.length := e
    rcases e' with ⟨xs, hx, e'⟩ | ⟨xs, hx, e'⟩
    · subst e'
      obtain ⟨its, r', pl, hz⟩ := I.list hx
      have hlen := r'.length
      exact Calls.call_len_list pl.isList (by simp only [List.size_toArray]; omega) ⟨.int xs.length, H, I.tok _, ⟨_, by simp only [List.size_toArray]; rw [hlen]⟩, q⟩
    · subst e'
      obtain ⟨its, r', pl, hz⟩ := I.tuple hx
      have hlen := r'.length
      exact len_tuple pl (by simp only [List.size_toArray]; omega) ⟨.int xs.length, H, I.tok _, ⟨_, by simp only [List.size_toArray]; rw [hlen]⟩, q⟩
  | _ => exact (show False from e).elim
end
end L2
namespace L2
open PySem PySem.Spec PyProof.Rows
structure ObjM (h : Heap) (x dx C : Addr) (mA : Str → Option Value) : Prop where
  obj : h.get? x = some (PySem.W.instObj C dx)
  ns : h.Ns1 dx mA
  ne : dx ≠ x
theorem lookIn_ns {h : Heap} {dx : Addr} {mA : Str → Option Value} (n : h.Ns1 dx mA) : ∃ od, h.get? dx = some od ∧ ∀ name, PySem.W.lookIn name od = some (mA name) := by
  obtain ⟨o, es, ep, ho, hd, hk, _, hm⟩ := n
  refine ⟨o, ho, fun name => ?_⟩
  have e := hm name
  unfold nsFind findBy at e
  rw [← Array.find?_toList] at e
  unfold PySem.W.lookIn
  rw [hd]
  dsimp only
  split
  · rename_i y q
    rw [q] at e
    exact congrArg some e
  · rename_i q
    rw [q] at e
    have a : es.toList.any (·.refKey) = false := by
      rw [List.any_eq_false]
      intro y hy
      obtain ⟨z, t, hkey⟩ := hk y (Array.mem_toList_iff.mp hy)
      simp [DictEntry.refKey, hkey]
    have a' : ¬ es.toList.any (·.refKey) = true := by rw [a]; exact Bool.false_ne_true
    rw [if_neg a']
    exact congrArg some e
theorem ObjM.look {h : Heap} {x dx C : Addr} {mA : Str → Option Value} (I : ObjM h x dx C mA) : ∃ od, PySem.W.InstAt h x (PySem.W.instObj C dx) C (some od) ∧ ∀ name, PySem.W.lookIn name od = some (mA name) :=
  let ⟨od, ho, hl⟩ := lookIn_ns I.ns
  ⟨od, ⟨I.obj, rfl, rfl, ho⟩, hl⟩
section
variable {prog : Program} {w : World} {A : Around} {E : Value → Shared → Prop} {s : Shared} {K : PySem.W.Frag} {x dx C f : Addr} {mA : Str → Option Value} {name : Str} {v : Value}
end
theorem RelO.some_of {v : V} {o : Option Value} (r : RelO (some v) o) : ∃ u, o = some u ∧ RelV v u := by
  cases o with
  | none => exact (show False from r).elim
  | some u => exact ⟨u, rfl, r⟩
section
variable {P : Program} {w : World} {H H' : Hp} {h h' : Heap} {a C dx : Addr} {fs fs' : List (Str × V)}
theorem ins_get (hok : HOk P w H h) (e : H a = some (.ins C dx fs)) : ∃ mA, ObjM h a dx C mA ∧ (∀ f, RelO (fs.lookup f) (mA f)) ∧ PySem.Within mA (fs.map (·.1)) ∧ fs.length ≤ 1000 ∧ H dx = some (.own a) := by
  obtain ⟨d, z, ne, ob, mA, n, r, q⟩ := (show ObjOk P w H h a (.ins C dx fs) from hok a _ e)
  exact ⟨mA, ⟨ob, n, ne⟩, r, q, z, d⟩
end
structure Cls (K : PySem.W.Frag) (C : Addr) : Prop where
  pg : PySem.W.plainGet K C Str.empty = true
  hd : PySem.W.hasDictIn K C = true
  po : PySem.W.plainOver K C = true
  sa : PySem.W.findIn K (.ref C) "__setattr__" = some (some (.builtin "object.__setattr__"))
theorem Cls.get {K : PySem.W.Frag} {C : Addr} (c : Cls K C) (f : Str) : PySem.W.plainGet K C f = true := c.pg
structure Con (K : PySem.W.Frag) (C : Addr) (f : Str) (v : V) (u : Value) : Prop where
  at_ : PySem.W.findIn K (.ref C) f = some (some u)
  rel : RelV v u
  get : PySem.W.specialIn K u "__get__" = some none
  cp : PySem.W.copiedNames.contains f = false
structure Meth (K : PySem.W.Frag) (C : Addr) (m : Str) (f : Addr) : Prop where
  at_ : PySem.W.findIn K (.ref C) m = some (some (.ref f))
  fn : PySem.W.isFn K (.ref f) = true
  kp : PySem.W.keepIn K (.ref f) = true
section
variable {X : Cx} {pins : List (Addr × Obj)} {σ : St} {H : Hp} {s : Shared} {a C dx : Addr} {fs : List (Str × V)} {f : Str} {v : V} {A : Around} {E : Value → Shared → Prop}
end
section
variable {X : Cx} {o e value : Expr} {f : Str} {pos pos' tpos : Pos} {ta tv : TE}
end
section
variable {X : Cx} {pins : List (Addr × Obj)} {σ : St} {H : Hp} {s : Shared} {A : Around} {E : Value → Shared → Prop} {Q : Value → Shared → Prop} {c : Value} {b : Bool}
inductive TyOf (K : PySem.W.Frag) (H : Hp) : V → Value → Prop where
  | non : TyOf K H .non (.type "NoneType")
  | bl (x : Bool) : TyOf K H (.bl x) (.type "bool")
  | int (i : Int) : TyOf K H (.int i) (.type "int")
  | str (x : Str) : TyOf K H (.str x) (.type "str")
  | flt (x : UInt64) : TyOf K H (.flt x) (.type "float")
  | lst {a : Addr} {xs : List V} (e : H a = some (.lst xs)) : TyOf K H (.ref a) (.type "list")
  | frz {a : Addr} {o : Obj} {xs : List V} (e : H a = some (.frz o (.lst xs))) : TyOf K H (.ref a) (.type "list")
  | tup {a : Addr} {xs : List V} (e : H a = some (.tup xs)) : TyOf K H (.ref a) (.type "tuple")
  | dK {a : Addr} {kvs : List (Key × V)} (e : H a = some (.dK kvs)) : TyOf K H (.ref a) (.type "dict")
  | dT {a : Addr} {kvs : List (List Key × V)} (e : H a = some (.dT kvs)) : TyOf K H (.ref a) (.type "dict")
  | ins {a C dx : Addr} {fs : List (Str × V)} (e : H a = some (.ins C dx fs)) (cl : Cls K C) (ha : PySem.W.findIn K (.ref C) "__class__" = some (some (.builtin "object.__class__")))
      (hn : PySem.W.specialIn K (.builtin "object.__class__") "__get__" = some (some (.builtin "getset_descriptor.__get__"))) (htk : PySem.W.takesIn K (.builtin "object.__class__") = some true)
      (hm : PySem.W.mroIn K C (.type "object") = some true) : TyOf K H (.ref a) (.ref C)
theorem isinst_ok {x : V} {u t : Value} (I : Inv X pins σ H s) (rx : RelV x u) (ty : TyOf X.K H x t) (e : PySem.W.kitOne X.K t c = some b) (h : ∀ tk, Q (.bool b) { s with toks := tk }) :
    wpAny (model X.prog X.w) A (call (.builtin "isinstance") [u, c]) Q E s := by
  cases ty with
  | non => cases (show u = Value.none from rx); exact PySem.W.kia_one PySem.W.kitx_none I.kIn True.intro e (fun z => nomatch z) h
  | bl y => cases (show u = Value.bool y from rx); exact PySem.W.kia_one PySem.W.kitx_bool I.kIn True.intro e (fun z => nomatch z) h
  | int i => obtain ⟨t, q⟩ := (show ∃ t, u = Value.int i t from rx); cases q; exact PySem.W.kia_one PySem.W.kitx_int I.kIn True.intro e (fun z => nomatch z) h
  | str y => obtain ⟨t, q⟩ := (show ∃ t, u = Value.str y t from rx); cases q; exact PySem.W.kia_one PySem.W.kitx_str I.kIn True.intro e (fun z => nomatch z) h
  | flt y => obtain ⟨t, q⟩ := (show ∃ t, u = Value.float y t from rx); cases q; exact PySem.W.kia_one PySem.W.kitx_float I.kIn True.intro e (fun z => nomatch z) h
  | @lst a xs ea =>
    cases (show u = Value.ref a from rx)
    obtain ⟨_, _, n, _, h1⟩ := (show ObjOk X.prog X.w H s.heap a (.lst xs) from I.hok a _ ea)
    exact PySem.W.kia_one PySem.W.kitx_list I.kIn ⟨_, h1, rfl⟩ e (fun z => nomatch z) h
  | @frz a ob xs ea =>
    cases (show u = Value.ref a from rx)
    obtain ⟨_, _, _, n, _, h1⟩ := (show ObjOk X.prog X.w H s.heap a (.frz ob (.lst xs)) from I.hok a _ ea)
    exact PySem.W.kia_one PySem.W.kitx_list I.kIn ⟨_, h1, rfl⟩ e (fun z => nomatch z) h
  | @tup a xs ea =>
    cases (show u = Value.ref a from rx)
    obtain ⟨_, _, _, p⟩ := (show ObjOk X.prog X.w H s.heap a (.tup xs) from I.hok a _ ea)
    obtain ⟨o, h1, h2, _⟩ := p
    exact PySem.W.kia_one PySem.W.kitx_tuple I.kIn ⟨o, h1, h2⟩ e (fun z => nomatch z) h
  | @dK a kvs ea =>
    cases (show u = Value.ref a from rx)
    obtain ⟨_, _, vs, _, p⟩ := (show ObjOk X.prog X.w H s.heap a (.dK kvs) from I.hok a _ ea)
    obtain ⟨o, es, ep, h1, h2, _⟩ := p
    exact PySem.W.kia_one PySem.W.kitx_dict I.kIn ⟨o, h1, h2.1⟩ e (fun z => nomatch z) h
  | @dT a kvs ea =>
    cases (show u = Value.ref a from rx)
    obtain ⟨_, _, xs, _, o, es, ep, h1, h2, _⟩ := (show ObjOk X.prog X.w H s.heap a (.dT kvs) from I.hok a _ ea)
    exact PySem.W.kia_one PySem.W.kitx_dict I.kIn ⟨o, h1, h2.1⟩ e (fun z => nomatch z) h
  | @ins a C dx fs ea cl ha hn htk hm =>
    cases (show u = Value.ref a from rx)
    obtain ⟨mA, O, _⟩ := ins_get I.hok ea
    obtain ⟨od, J, _⟩ := O.look
    exact PySem.W.kia_one (PySem.W.kitx_own (cl.get _) cl.hd ha hn htk hm) I.kIn J e (fun z => nomatch z) h
end
end L2
namespace L2
open PySem PySem.Spec PyProof.Rows
structure Room (k : Nat) (A : Around) : Prop where
  hd : A.handled = none
  dp : A.depth + 3 * k + 5 < recursionLimit
  un : A.units + 16 * k + 200 < cLine
theorem Room.mono {j k : Nat} {A : Around} (r : Room k A) (h : j ≤ k) : Room j A := ⟨r.hd, by have := r.dp; omega, by have := r.un; omega⟩
theorem Room.deeper {k : Nat} {A : Around} (r : Room (k + 1) A) (env : Env) : Room k (A.deeper env) :=
  ⟨r.hd, by have := r.dp; show A.depth + 1 + 3 * k + 5 < _; omega, by have := r.un; show A.units + 3 + 16 * k + 200 < _; omega⟩
theorem Room.depth {k : Nat} {A : Around} (r : Room k A) : A.depth < recursionLimit := by have := r.dp; omega
theorem Room.units {k : Nat} {A : Around} (r : Room k A) : A.units + 64 < cLine := by have := r.un; omega
def tNil : TA := fun _ H Q => Q [] H
def tCons (ta : TE) (tr : TA) : TA := fun σ H Q => ta σ H fun x H1 => tr σ H1 fun xs H2 => Q (x :: xs) H2
section
variable {X : Cx} {e : Expr} {es : List Expr} {te : TE} {t : TA} {pos : Pos}
theorem pa_nil : PA X [] tNil := fun _ _ _ _ H Q I h => Calls.spliced_nil ⟨[], H, I, .nil, h⟩
theorem pa_cons (ha : PE X e te) (hr : PA X es t) (hs : starEach (e :: es) X.env = (false, eval e X.env) :: starEach es X.env := by rfl) : PA X (e :: es) (tCons te t) := by
  intro pos pins s σ H Q I h
  rw [hs]
  show wpAny _ _ (spliced ((false, eval e X.env) :: backTo pos (starEach es X.env))) _ _ s
  refine Calls.spliced_cons (thn (ha pins s σ H _ I h) fun u s1 ⟨x, H1, I1, r1, q1⟩ => ?_)
  exact thn (hr pos pins s1 σ H1 _ I1 q1) fun us s2 ⟨xs, H2, I2, r2, q2⟩ => ⟨x :: xs, H2, I2, .cons r1 r2, q2⟩
def tTup (t : TA) : TE := fun σ H Q => t σ H fun xs H1 => xs.length ≤ sizeLine ∧ ∀ p, H1 p = none → Q (.ref p) (upd H1 p (.tup xs))
def tLst (t : TA) : TE := fun σ H Q => t σ H fun xs H1 => xs.length ≤ sizeLine ∧ ∀ p, H1 p = none → Q (.ref p) (upd H1 p (.lst xs))
theorem pe_tup {x1} (h : PA X es t) : PE X (.Tuple es x1 pos) (tTup t) := by
  intro pins s σ H Q I hq
  refine wpAny_Tuple_spliced (thn (h pos pins s σ H _ I hq) fun us s1 ⟨xs, H1, I1, r, z, q⟩ => ⟨by rw [← r.length]; exact z, ?_⟩)
  have hf : H1 s1.heap.objs.size = none := I1.hok.fresh (Nat.le_refl _)
  refine ⟨.ref s1.heap.objs.size, upd H1 s1.heap.objs.size (.tup xs), I1.laid (t' := s1.toks) (fun b u e => Heap.get?_push_of_some _ e) (Nat.le_refl _) ?_, rfl, q _ hf⟩
  exact ⟨z, us, r, ⟨_, Heap.get?_push_size _ rfl, rfl, _, rfl⟩⟩
theorem pe_lst (h : PA X es t) : PE X (.List es pos) (tLst t) := by
  intro pins s σ H Q I hq
  refine wpAny_List_spliced (thn (h pos pins s σ H _ I hq) fun us s1 ⟨xs, H1, I1, r, z, q⟩ => ⟨by rw [← r.length]; exact z, ?_⟩)
  have hf : H1 s1.heap.objs.size = none := I1.hok.fresh (Nat.le_refl _)
  refine ⟨.ref s1.heap.objs.size, upd H1 s1.heap.objs.size (.lst xs), I1.laid (t' := s1.toks) (fun b u e => Heap.get?_push_of_some _ e) (Nat.le_refl _) ?_, rfl, q _ hf⟩
  exact ⟨z, us, 0, r, Heap.get?_push_size _ rfl⟩
end
abbrev Sp := List V → Hp → VK → XK → Prop
abbrev CXT := List Env → Hp → Shared → XK → Value → Shared → Prop
structure Env0 (P : Program) (w : World) (K : PySem.W.Frag) (mg : Str → Option Value) (base : Heap) (A : Around) (outer : List Env) (s : Shared) (H : Hp) : Prop where
  frames : A.frames = some outer
  mod : Mod K mg base
  bs : ∀ b o, base.get? b = some o → s.heap.get? b = some o ∧ H b = none
  bsz : base.objs.size ≤ s.heap.objs.size
  funs : s.heap.FunFrames base outer
  frf : ∀ b ∈ frs outer, H b = none
  hok : HOk P w H s.heap
  bare : AllBare s.gens
def CE (outer : List Env) (P : Program) (w : World) (H : Hp) (s : Shared) (Q : VK) (u : Value) (s' : Shared) : Prop :=
  ∃ v H', s'.os = s.os ∧ AllBare s'.gens ∧ Un (frs outer) [] H H' s.heap s'.heap ∧ HOk P w H' s'.heap ∧ RelV v u ∧ Q v H'
def CR (CX : CXT) (outer : List Env) (P : Program) (w : World) (H : Hp) (s : Shared) (Q : VK) (E : XK) (r : Result) (s' : Shared) : Prop :=
  match r with
  | .ok (.ret u) => CE outer P w H s Q u s'
  | .ok _ => False
  | .error e => CX outer H s E e s'
structure FnOk (P : Program) (w : World) (K : PySem.W.Frag) (mg : Str → Option Value) (base : Heap) (CX : CXT) (k : Nat) (f : Addr) (fd : FuncData) (ps : List Str) (sp : Sp) : Prop where
  len : ∀ vs H Q E, sp vs H Q E → vs.length = ps.length
  run : ∀ (A : Around) (outer : List Env) (s : Shared) (H : Hp) (args : Args) (us : List Value) (vs : List V) (Q : VK) (E : XK), Room k A → Env0 P w K mg base A outer s H → BindsTo s fd args (ps.zip us) → Vals vs us → sp vs H Q E →
    codeAny (model P w) A (.call (.ref f) args) (CR CX outer P w H s Q E) s
theorem FnOk.imp {P : Program} {w : World} {K : PySem.W.Frag} {mg : Str → Option Value} {base : Heap} {CX : CXT} {k : Nat} {f : Addr} {fd : FuncData} {ps : List Str} {sp sp' : Sp} (F : FnOk P w K mg base CX k f fd ps sp)
    (h : ∀ vs H Q E, sp' vs H Q E → sp vs H Q E) : FnOk P w K mg base CX k f fd ps sp' :=
  ⟨fun vs H Q E q => F.len vs H Q E (h _ _ _ _ q), fun A outer s H args us vs Q E hr he hb hv hs => F.run A outer s H args us vs Q E hr he hb hv (h _ _ _ _ hs)⟩
section
variable {X : Cx} {pins : List (Addr × Obj)} {σ : St} {H : Hp} {s s' : Shared}
theorem Inv.env0 (I : Inv X pins σ H s) : Env0 X.prog X.w X.K X.mg X.base X.A X.stack s H :=
  ⟨I.ok.frames, I.ok.mod, I.bs, Nat.le_trans I.ok.bsz I.sz, I.stack, I.stkFree, I.hok, I.bare⟩
theorem Inv.after {Q : VK} {u : Value} (I : Inv X pins σ H s) (h : CE X.stack X.prog X.w H s Q u s') : EP X pins σ Q u s' := by
  obtain ⟨v, H', os, bare, un, hok, r, q⟩ := h
  obtain ⟨hh, g, d, t, os'⟩ := s'
  obtain rfl : os' = s.os := os
  exact ⟨v, H', I.call (h' := hh) (g' := g) (d' := d) (t' := t) (ch := []) un hok bare (fun b z => absurd z (by simp)), r, q⟩
end
def tCall (sp : Sp) (dvs : List V) (E : XK) (t : TA) : TE := fun σ H Q => t σ H fun vs H1 => sp (vs ++ dvs) H1 Q E
def Binds (K : PySem.W.Frag) (fd : FuncData) (ps : List Str) (ds : List Value) : Prop :=
  ∀ (s : Shared) (us : List Value), K.In s.heap → (us ++ ds).length = ps.length → BindsTo s fd ⟨us, []⟩ (ps.zip (us ++ ds))
theorem Binds.all {K : PySem.W.Frag} {fd : FuncData} {ps : List Str} (h : ∀ us : List Value, us.length = ps.length → bindArgs fd ⟨us, []⟩ = pure (ps.zip us)) : Binds K fd ps [] := fun s us _ hl => by
  rw [List.append_nil] at hl ⊢
  exact .of_eq (h us hl)
def Passes (CX : CXT) (X : Cx) (E : XK) : Prop := ∀ (pins : List (Addr × Obj)) (σ : St) (H : Hp) (s : Shared) (e : Value) (s' : Shared), Inv X pins σ H s → CX X.stack H s E e s' → X.xe e s'
section
variable {X : Cx} {CX : CXT} {k : Nat} {f C : Addr} {fd : FuncData} {ps : List Str} {sp : Sp} {dvs : List V} {ds : List Value} {E : XK} {x m : Str} {p pos apos : Pos} {e o : Expr} {es : List Expr} {ta : TE} {t : TA}
theorem run_fn {pins : List (Addr × Obj)} {σ : St} {H : Hp} {s : Shared} {Q : VK} {us : List Value} {vs : List V} (F : FnOk X.prog X.w X.K X.mg X.base CX k f fd ps sp) (hr : Room k X.A) (hb : Binds X.K fd ps ds) (hd : Vals dvs ds) (hx : Passes CX X E)
    (I : Inv X pins σ H s) (r : Vals vs us) (h : sp (vs ++ dvs) H Q E) : wpAny (model X.prog X.w) X.A (call (.ref f) us) (EP X pins σ Q) X.xe s := by
  have r2 : Vals (vs ++ dvs) (us ++ ds) := r.append hd
  have hl : (us ++ ds).length = ps.length := by rw [← r2.length]; exact F.len _ _ _ _ h
  refine wpAny_call (codeAny_mono (F.run X.A X.stack s H ⟨us, []⟩ (us ++ ds) (vs ++ dvs) Q E hr I.env0 (hb s us I.kIn hl) r2 h) fun r s' hq => ?_)
  cases r with
  | error e => exact hx pins σ H s e s' I hq
  | ok fl =>
    cases fl with
    | ret u => exact I.after hq
    | next => exact False.elim hq
    | brk => exact False.elim hq
    | cont => exact False.elim hq
theorem pe_call (F : FnOk X.prog X.w X.K X.mg X.base CX k f fd ps sp) (hr : Room k X.A) (hg : Gl X x) (hm : X.mg x = some (.ref f)) (hk : PySem.W.keepIn X.K (.ref f) = true) (hb : Binds X.K fd ps ds) (hd : Vals dvs ds) (hx : Passes CX X E)
    (ha : PA X (e :: es) t) (hdb : (x == ("__debug__" : Str)) = false := by decide) (he : starEach (e :: es) X.env = (false, eval e X.env) :: starEach es X.env := by rfl) (hpl : (backTo pos (starEach es X.env)).any (·.1) = false := by rfl) :
    PE X (.Call (.Name x p) (e :: es) [] pos) (tCall sp dvs E t) := by
  intro pins s σ H Q I h
  refine wpAny_Call_Name_kw (ld_glob I hg hm ?_ hdb)
  refine PySem.W.callWith_K (h₀ := X.base) I.ok.mod.kin hk (thn (ha pos pins s σ H _ I h) fun us s1 ⟨vs, H1, I1, r, q⟩ => ⟨I1.kIn, ?_⟩) he hpl
  exact run_fn F hr hb hd hx I1 r q
structure Mk (K : PySem.W.Frag) (C f : Addr) : Prop where
  makes : PySem.W.makesIn K C = true
  init : PySem.W.findIn K (.ref C) "__init__" = some (some (.ref f))
  fn : PySem.W.isFn K (.ref f) = true
  kp : PySem.W.keepIn K (.ref C) = true
end
section
variable {X : Cx} {CX : CXT} {k : Nat} {f C : Addr} {fd : FuncData} {ps ks : List Str} {sp : Sp} {E : XK} {x m : Str} {p pos apos kpos : Pos} {e o : Expr} {es : List Expr} {kws : List Keyword} {te ta : TE} {t tk : TA} {nm : Option Str}
structure KBinds (K : PySem.W.Frag) (fd : FuncData) (ps ks : List Str) (g : List Value → List Value → List Value) (gV : List V → List V → List V) : Prop where
  to : ∀ (s : Shared) (us ws : List Value), K.In s.heap → (g us ws).length = ps.length → BindsTo s fd ⟨us, ks.zip ws⟩ (ps.zip (g us ws))
  rel : ∀ {vs : List V} {us : List Value} {zs : List V} {ws : List Value}, Vals vs us → Vals zs ws → Vals (gV vs zs) (g us ws)
variable {g : List Value → List Value → List Value} {gV : List V → List V → List V}
end
structure FnScope (N P : List Str) (sc : Scope) : Prop where
  kind : sc.kind = .function
  co : sc.isCoroutine = false
  gen : sc.isGenerator = false
  nd : N.Nodup
  pre : N.take P.length = P
  par : ∀ x ∈ P, sc.names.lookup x = some .local ∨ sc.names.lookup x = some .cell
  nofree : ∀ y ∈ sc.names, y.2 ≠ .free
theorem bindL_out {kindOf : Str → Option NameKind} {x : Str} : ∀ {binds : List (Str × Value)} {m : Str → Option Value}, (∀ v, (x, v) ∉ binds) → bindL kindOf binds m x = m x
  | [], _, _ => rfl
  | (n, v) :: r, m, h => by
    unfold bindL
    rw [bindL_out fun w hw => h w (List.mem_cons_of_mem _ hw)]
    split
    · have : x ≠ n := by rintro rfl; exact h v List.mem_cons_self
      simp [this]
    · rfl
theorem bindC_out {kindOf : Str → Option NameKind} {x : Str} : ∀ {binds : List (Str × Value)} {m : Str → Option Value}, (∀ v, (x, v) ∉ binds) → bindC kindOf binds m x = m x
  | [], _, _ => rfl
  | (n, v) :: r, m, h => by
    unfold bindC
    rw [bindC_out fun w hw => h w (List.mem_cons_of_mem _ hw)]
    split
    · rfl
    · have : x ≠ n := by rintro rfl; exact h v List.mem_cons_self
      simp [this]
theorem bindL_get {kindOf : Str → Option NameKind} {x : Str} {v : Value} : ∀ {P : List Str} {vs : List Value} {i : Nat} {m : Str → Option Value}, P.Nodup → P[i]? = some x → vs[i]? = some v → kindOf x = some .local →
    bindL kindOf (P.zip vs) m x = some v
  | [], _, _, _, _, h, _, _ => by simp at h
  | _ :: _, [], _, _, _, _, h, _ => by simp at h
  | p :: P, w :: vs, 0, m, nd, h1, h2, hk => by
    simp at h1 h2; subst h1; subst h2
    show bindL kindOf ((p, w) :: P.zip vs) m p = _
    unfold bindL
    rw [bindL_out fun v hv => (List.nodup_cons.mp nd).1 (List.of_mem_zip hv).1, if_pos hk]
    simp
  | p :: P, w :: vs, i + 1, m, nd, h1, h2, hk => by
    show bindL kindOf ((p, w) :: P.zip vs) m x = _
    unfold bindL
    exact bindL_get (i := i) (List.nodup_cons.mp nd).2 (by simpa using h1) (by simpa using h2) hk
theorem bindC_get {kindOf : Str → Option NameKind} {x : Str} {v : Value} : ∀ {P : List Str} {vs : List Value} {i : Nat} {m : Str → Option Value}, P.Nodup → P[i]? = some x → vs[i]? = some v → kindOf x ≠ some .local →
    bindC kindOf (P.zip vs) m x = some v
  | [], _, _, _, _, h, _, _ => by simp at h
  | _ :: _, [], _, _, _, _, h, _ => by simp at h
  | p :: P, w :: vs, 0, m, nd, h1, h2, hk => by
    simp at h1 h2; subst h1; subst h2
    show bindC kindOf ((p, w) :: P.zip vs) m p = _
    unfold bindC
    rw [bindC_out fun v hv => (List.nodup_cons.mp nd).1 (List.of_mem_zip hv).1, if_neg hk]
    simp
  | p :: P, w :: vs, i + 1, m, nd, h1, h2, hk => by
    show bindC kindOf ((p, w) :: P.zip vs) m x = _
    unfold bindC
    exact bindC_get (i := i) (List.nodup_cons.mp nd).2 (by simpa using h1) (by simpa using h2) hk
def start (N : List Str) (vs : List V) : St := vs.map some ++ List.replicate (N.length - vs.length) none
def cxOf (CX : CXT) (P : Program) (w : World) (K : PySem.W.Frag) (mg : Str → Option Value) (base : Heap) (N : List Str) (qual : Str) (scope : Scope) (f : Addr) (cd : Value) (A : Around) (outer : List Env) (s : Shared) (H : Hp) (E : XK) : Cx where
  prog := P
  w := w
  K := K
  mg := mg
  base := base
  A := A.deeper (envOfC qual scope s.heap.objs.size f cd)
  N := N
  s₀ := s
  H₀ := H
  env := envOfC qual scope s.heap.objs.size f cd
  outer := outer
  stack := envOfC qual scope s.heap.objs.size f cd :: outer
  ex := []
  calm := true
  fn := fun _ => true
  pn := []
  xe := fun e s' => wpAny (model P w) (A.deeper (envOfC qual scope s.heap.objs.size f cd)) (leaving (envOfC qual scope s.heap.objs.size f cd) e) (fun _ s'' => CX outer H s E e s'') (fun e' s'' => CX outer H s E e' s'') s'
theorem cell_has {sc : Scope} {n : Nat} {x : Str} (h : sc.names.lookup x = some .cell) : ∃ c, (cellsFrom n sc.names []).lookup x = some c := by
  have q := PySem.W.cellsFrom_some sc.names n [] (.inl h)
  exact Option.isSome_iff_exists.mp q
theorem inv_start {CX : CXT} {P : Program} {w : World} {K : PySem.W.Frag} {mg : Str → Option Value} {base : Heap} {N ps : List Str} {qual : Str} {scope : Scope} {f : Addr} {cd : Value} {A : Around} {outer : List Env} {s s1 : Shared} {H : Hp} {E : XK} {us : List Value} {vs : List V}
    (S : FnScope N ps scope) (hd : A.handled = none) (e0 : Env0 P w K mg base A outer s H) (hl : vs.length = ps.length) (r : Vals vs us)
    (x : InCallC s s.heap.objs.size (bindL (envOfC qual scope s.heap.objs.size f cd).kindOf (ps.zip us) fun _ => none) (cellsFrom (s.heap.objs.size + 1) scope.names []) (bindC (envOfC qual scope s.heap.objs.size f cd).kindOf (ps.zip us) fun _ => none) s1) :
    Inv (cxOf CX P w K mg base N qual scope f cd A outer s H E) [] (start N vs) H s1 := by
  have hpl : ps.length ≤ N.length := by have := congrArg List.length S.pre; rw [List.length_take] at this; omega
  obtain ⟨h1, tk, rfl, hk⟩ := x.done
  have noA : ∀ b : Addr, b ∉ (cxOf CX P w K mg base N qual scope f cd A outer s H E).ex := fun b z => absurd (show b ∈ ([] : List Addr) from z) (by simp)
  refine ⟨⟨e0.mod, S.kind, rfl, rfl, Nat.le_refl _, fun y z c h1 h2 => ?_, fun y hy => ?_, fun y c _ h => ?_, fun _ => hd, Around.frames_deeper e0.frames, .inr ⟨rfl, rfl⟩, fun b z => absurd z (noA b), e0.bs, e0.bsz, fun b _ _ => noA b, fun b z => absurd z (noA b), e0.funs, e0.frf⟩,
    rfl, e0.bare, Un.kept hk, ⟨_, x.toInCall.ns, fun i y v h1 h2 h3 => ?_⟩, fun y c h => ⟨_, x.cell y c h⟩, e0.hok.fresh (Nat.le_refl _), fun y c h => ?_, fun p hp => absurd (show p ∈ ([] : List (Addr × Obj)) from hp) (by simp), e0.hok.kept hk, ?_⟩
  · exact name_of_addr x.apart (PySem.mem_of_lookup h1) (PySem.mem_of_lookup h2)
  · have hy : scope.names.lookup y = some .cell ∨ scope.names.lookup y = some .free := hy
    rcases hy with hy | hy
    · exact cell_has hy
    · exact absurd rfl (S.nofree _ (PySem.mem_of_lookup hy))
  · exact Nat.le_of_lt (x.above y c (PySem.mem_of_lookup h))
  · have hi : i < vs.length := by
      unfold start at h2
      by_cases hi : i < vs.length
      · exact hi
      · rw [List.getElem?_append_right (by simpa using hi)] at h2
        rw [List.getElem?_replicate] at h2
        split at h2 <;> cases h2
    have ha : vs[i]? = some v := by
      unfold start at h2
      rw [List.getElem?_append_left (by simpa using hi), List.getElem?_map] at h2
      cases e : vs[i]? with
      | none => rw [e] at h2; cases h2
      | some a => rw [e] at h2; cases h2; rfl
    obtain ⟨u, hu, rv⟩ := r.get ha
    have hp : ps[i]? = some y := by
      rw [← S.pre, List.getElem?_take_of_lt (by omega)]; exact h1
    have ndP : ps.Nodup := by rw [← S.pre]; exact S.nd.sublist (List.take_sublist _ _)
    refine ⟨u, rv, ?_⟩
    rcases S.par y (List.mem_of_getElem? hp) with k | k
    · exact .inl ⟨k, bindL_get ndP hp hu k⟩
    · obtain ⟨c, e⟩ := cell_has (n := s.heap.objs.size + 1) k
      refine .inr ⟨.inl k, c, e, ?_⟩
      have q := x.cell y c e
      rw [bindC_get ndP hp hu (by show scope.names.lookup y ≠ _; rw [k]; decide)] at q
      exact q
  · exact e0.hok.fresh (Nat.le_of_lt (x.above y c (PySem.mem_of_lookup h)))
  · unfold start
    show _ = N.length
    rw [List.length_append, List.length_map, List.length_replicate]
    omega
theorem fn_of {CX : CXT} {P : Program} {w : World} {K : PySem.W.Frag} {mg : Str → Option Value} {base : Heap} {k : Nat} {f : Addr} {name qual : Str} {params : Arguments} {body : List Stmt} {scope : Scope} {dV kV doc pm cdv ct oc : Value} {an od : Option Addr}
    {osl : Array (Option Value)} {N ps : List Str} {sp : Sp} (lk : K.lookup f = some ⟨oc, od, .func (PySem.W.fnOf name qual params body scope dV kV doc pm an cdv ct), osl⟩) (hcd : PySem.W.codeIn K cdv qual = true) (S : FnScope N ps scope)
    (len : ∀ vs H Q E, sp vs H Q E → vs.length = ps.length)
    (hbody : ∀ (A : Around) (outer : List Env) (s : Shared) (H : Hp) (vs : List V) (Q : VK) (E : XK), Room k (A.deeper (envOfC qual scope s.heap.objs.size f cdv)) → sp vs H Q E →
      ∃ t, PSs (cxOf CX P w K mg base N qual scope f cdv A outer s H E) body t ∧ t { nx := fun _ H' => Q .non H', rt := Q } (start N vs) H) :
    FnOk P w K mg base CX (k + 1) f (PySem.W.fnOf name qual params body scope dV kV doc pm an cdv ct) ps sp := by
  refine ⟨len, fun A outer s H args us vs Q E hr e0 hb r hsp => ?_⟩
  have hl := len _ _ _ _ hsp
  have KX : K.In s.heap := e0.mod.kin.keeps fun b o e => (e0.bs b o e).1
  have lim : s.heap.NoLimit := e0.mod.nolimit.keeps fun b o e => (e0.bs b o e).1
  have hkind : ∀ y ∈ ps.zip us, scope.names.lookup y.1 = some .local ∨ (scope.names.lookup y.1 = some .cell ∧ ((cellsFrom (s.heap.objs.size + 1) scope.names []).lookup y.1).isSome = true) := fun ⟨n, v⟩ hy => by
    rcases S.par n (List.of_mem_zip hy).1 with q | q
    · exact .inl q
    · exact .inr ⟨q, PySem.W.cellsFrom_some _ _ _ (.inl q)⟩
  refine codeAny_call_function hr.depth (KX _ _ lk) rfl S.co S.gen rfl (PySem.W.codeRec_of KX hcd) (hb _ _ _ _ ?_)
  refine wpAny_newFunctionEnv_cells S.kind hkind fun env he s1 x => ?_
  subst he
  refine ⟨lim.keeps x.toInCall.keep, codeAny_func ?_⟩
  obtain ⟨t, ht, hq⟩ := hbody A outer s H vs Q E (hr.deeper _) hsp
  have I : Inv (cxOf CX P w K mg base N qual scope f cdv A outer s H E) [] (start N vs) H s1 := inv_start S hr.hd e0 hl r x
  refine wpAny_mono (ht [] s1 (start N vs) H _ I hq) (fun fl s' hs => ?_) fun e s' hs => hs
  have fin : ∀ {σ' : St} {H' : Hp} {v : V} {u : Value}, Inv (cxOf CX P w K mg base N qual scope f cdv A outer s H E) [] σ' H' s' → RelV v u → Q v H' → CE outer P w H s Q u s' :=
    fun {σ' H' v u} J rv q => ⟨v, H', J.os, J.bare, J.base, J.hok, rv, q⟩
  cases fl with
  | ret u =>
    obtain ⟨v, σ', H', J, rv, q⟩ := hs
    exact fin J rv q
  | next =>
    obtain ⟨σ', H', J, q⟩ := hs
    exact fin (v := V.non) (u := Value.none) J rfl q
  | brk =>
    obtain ⟨_, _, _, q⟩ := hs
    exact False.elim q
  | cont =>
    obtain ⟨_, _, _, q⟩ := hs
    exact False.elim q
end L2
namespace L2
open PySem PySem.Spec PyProof.Rows
section
variable {X : Cx} {x : Str} {p pos : Pos} {e : Expr} {es : List Expr} {t : TA} {id T : String} {r : List V → Hp → VK → Prop}
def tCB (r : List V → Hp → VK → Prop) (t : TA) : TE := fun σ H Q => t σ H fun vs H1 => r vs H1 Q
theorem pe_callB (hc : CallR X (.builtin id) r) (hg : Gl X x) (hm : X.mg x = none) (hv : bootBuiltins x = some (.builtin id)) (ha : PA X (e :: es) t) (hn : x ≠ "__name__" := by decide) (hdb : (x == ("__debug__" : Str)) = false := by decide)
    (he : starEach (e :: es) X.env = (false, eval e X.env) :: starEach es X.env := by rfl) (hpl : (backTo pos (starEach es X.env)).any (·.1) = false := by rfl) : PE X (.Call (.Name x p) (e :: es) [] pos) (tCB r t) := by
  intro pins s σ H Q I h
  refine wpAny_Call_Name_kw (ld_blt I hg hm hv ?_ hn hdb)
  exact PyProof.Rows.callWith_builtin1 (thn (ha pos pins s σ H _ I h) fun us s1 ⟨vs, H1, I1, r1, q1⟩ => hc pins s1 σ H1 vs us Q I1 r1 q1) he hpl
theorem pe_callTy (hc : CallR X (.type T) r) (hg : Gl X x) (hm : X.mg x = none) (hv : bootBuiltins x = some (.type T)) (ha : PA X (e :: es) t) (hn : x ≠ "__name__" := by decide) (hdb : (x == ("__debug__" : Str)) = false := by decide)
    (he : starEach (e :: es) X.env = (false, eval e X.env) :: starEach es X.env := by rfl) (hpl : (backTo pos (starEach es X.env)).any (·.1) = false := by rfl) : PE X (.Call (.Name x p) (e :: es) [] pos) (tCB r t) := by
  intro pins s σ H Q I h
  refine wpAny_Call_Name_kw (ld_blt I hg hm hv ?_ hn hdb)
  exact PyProof.Rows.callWith_type1 (thn (ha pos pins s σ H _ I h) fun us s1 ⟨vs, H1, I1, r1, q1⟩ => hc pins s1 σ H1 vs us Q I1 r1 q1) he hpl
end
end L2
namespace HT
open PySem PyProof.Rows
theorem eqAt_int (A : Around) (s : Shared) (a : Int) (t : Tok) (c : Int) (u : Tok) : ∃ e, SeqAt.EqAt A s (.int a t) (.int c u) e ∧ (e = true ↔ a = c) :=
  ⟨(a == c), SeqAt.EqAt.int_int a t c u, by simp⟩
section
open PySem.SeqAt
open PySem.AutoSeq1 (wpAny_loadPart')
open PySem.MeetsSeq PySem.MeetsSeq2 PySem.MeetsSeq3
end
section
variable {prog : Program} {w : World} {A : Around} {E : Value → Shared → Prop} {s : Shared}
def sIx (n d : Nat) : Option Int → Nat
  | none => d
  | some v => if v < 0 then (v + (n : Int)).toNat else min v.toNat n
end
end HT
namespace L2
open PySem PySem.Spec PyProof.Rows
abbrev TO := St → Hp → (Option Int → Hp → Prop) → Prop
def PO (X : Cx) (e : Option Expr) (t : TO) : Prop :=
  ∀ (pins : List (Addr × Obj)) (s : Shared) (σ : St) (H : Hp) (Q : Option Int → Hp → Prop), Inv X pins σ H s → t σ H Q →
    wpAny (model X.prog X.w) X.A (evalPart e X.env) (fun u s' => ∃ o H', Inv X pins σ H' s' ∧ IsPart u o ∧ Q o H') X.xe s
def tPart (t : TE) : TO := fun σ H Q => t σ H fun x H1 => ∃ i, x = .int i ∧ Q (some i) H1
theorem intsAre_of {ns : List Int} : ∀ {us : List Value}, Vals (ns.map V.int) us → IntsAre us ns := by
  induction ns with
  | nil => intro us r; rw [List.map_nil] at r; cases r; exact .nil
  | cons n ns ih =>
    intro us r
    rw [List.map_cons] at r
    cases r with
    | cons r1 r2 =>
      obtain ⟨t, e⟩ := r1
      subst e
      exact .cons n t (ih r2)
section
variable {X : Cx} {e : Expr} {te : TE} {lo hi : Option Expr} {tl th : TO} {pos p2 : Pos}
theorem po_some (h : PE X e te) : PO X (some e) (tPart te) := by
  intro pins s σ H Q I hw
  rw [evalPart_some]
  refine thn (h pins s σ H _ I hw) fun u s1 ⟨x, H1, I1, r1, q1⟩ => ?_
  obtain ⟨i, rfl, q⟩ := q1
  obtain ⟨t, rfl⟩ := r1
  exact ⟨some i, H1, I1, .int i t, q⟩
def SlR (X : Cx) (r : V → Option Int → Option Int → Hp → VK → Prop) : Prop :=
  ∀ (pins : List (Addr × Obj)) (s : Shared) (σ : St) (H : Hp) (x : V) (v vl vu : Value) (lo hi : Option Int) (sl : Addr) (Q : VK), Inv X pins σ H s → RelV x v → s.heap.IsSliceOf sl vl vu .none → IsPart vl lo → IsPart vu hi → r x lo hi H Q →
    ∃ T id, typeLookup (.type T) "__getitem__" = pure (some (.builtin id)) ∧ s.TypeIs v T ∧ wpAny (model X.prog X.w) X.A (getItem v (.ref sl)) (EP X pins σ Q) X.xe s
def tSl (r : V → Option Int → Option Int → Hp → VK → Prop) (te : TE) (tl th : TO) : TE := fun σ H Q => te σ H fun x H1 => tl σ H1 fun l H2 => th σ H2 fun u H3 => r x l u H3 Q
theorem pe_slice {r : V → Option Int → Option Int → Hp → VK → Prop} (hr : SlR X r) (he : PE X e te) (hl : PO X lo tl) (hu : PO X hi th) : PE X (.Subscript e (.Slice lo hi none p2) pos) (tSl r te tl th) := by
  intro pins s σ H Q I h
  refine Subscript_ (thn (he pins s σ H _ I h) fun v s1 ⟨x, H1, I1, r1, q1⟩ => ?_)
  refine wpAny_Slice (thn (hl pins s1 σ H1 _ I1 q1) fun vl s2 ⟨l, H2, I2, pl, q2⟩ => thn (hu pins s2 σ H2 _ I2 q2) fun vu s3 ⟨u, H3, I3, pu, q3⟩ => ?_)
  rw [evalPart_none]
  refine wpAny_pure ?_
  have I4 : Inv X pins σ H3 { s3 with heap := s3.heap.push { cls := .type "slice", data := .fields #[vl, vu, .none] } } := I3.kept (t' := s3.toks) fun b ob q => Heap.get?_push_of_some _ q
  obtain ⟨T, id, hT, ht, hg⟩ := hr pins { s3 with heap := s3.heap.push { cls := .type "slice", data := .fields #[vl, vu, .none] } } σ H3 x v vl vu l u s3.heap.objs.size Q I4 r1 (Heap.IsSliceOf.new ..) pl pu q3
  show wpAny (model X.prog X.w) X.A (subscriptTail e (.Slice lo hi none p2) v (.ref s3.heap.objs.size)) (EP X pins σ Q) X.xe { s3 with heap := s3.heap.push { cls := .type "slice", data := .fields #[vl, vu, .none] } }
  exact tail_any (ops := [.ref s3.heap.objs.size, v]) ht hT hg (by with_unfolding_all rfl)
def cutV (xs : List V) (lo hi : Option Int) : List V := (xs.drop (HT.sIx xs.length 0 lo)).take (HT.sIx xs.length xs.length hi - HT.sIx xs.length 0 lo)
theorem cutV_length (xs : List V) (lo hi : Option Int) : (cutV xs lo hi).length ≤ xs.length := by
  unfold cutV
  rw [List.length_take, List.length_drop]
  omega
end
end L2
namespace L2
open PySem PySem.Spec PyProof.Rows
def ixN (n : Nat) (i : Int) : Option Nat := if 0 ≤ i then (if i < n then some i.toNat else none) else if -(n : Int) ≤ i then some (i + n).toNat else none
def atI {α : Type} (xs : List α) (i : Int) : Option α := (ixN xs.length i).bind fun j => xs[j]?
theorem ixN_seq {n : Nat} {i : Int} {j : Nat} (h : ixN n i = some j) : seqIndex? i n = some j ∧ j < n ∧ -(n : Int) ≤ i ∧ i < n := by
  unfold ixN at h
  by_cases h0 : 0 ≤ i
  · rw [if_pos h0] at h
    by_cases h1 : i < n
    · rw [if_pos h1] at h
      have e : i.toNat = j := Option.some.inj h
      exact ⟨by rw [seqIndex_of h0 h1, e], by omega, by omega, h1⟩
    · rw [if_neg h1] at h; cases h
  · rw [if_neg h0] at h
    by_cases h1 : -(n : Int) ≤ i
    · rw [if_pos h1] at h
      have e : (i + n).toNat = j := Option.some.inj h
      exact ⟨by rw [seqIndex_neg (by omega) h1, e], by omega, h1, by omega⟩
    · rw [if_neg h1] at h; cases h
theorem atI_get {α : Type} {xs : List α} {i : Int} {v : α} (h : atI xs i = some v) : ∃ j, seqIndex? i xs.length = some j ∧ xs[j]? = some v ∧ j < xs.length ∧ -(xs.length : Int) ≤ i ∧ i < xs.length := by
  unfold atI at h
  cases e : ixN xs.length i with
  | none => rw [e] at h; cases h
  | some j =>
    rw [e] at h
    obtain ⟨h1, h2, h3, h4⟩ := ixN_seq e
    exact ⟨j, h1, h, h2, h3, h4⟩
theorem atI_nat {α : Type} {xs : List α} {j : Nat} {v : α} (h : xs[j]? = some v) : atI xs (j : Int) = some v := by
  have hj : j < xs.length := (List.getElem?_eq_some_iff.mp h).1
  have e : ixN xs.length (j : Int) = some j := by
    unfold ixN
    rw [if_pos (by omega), if_pos (by omega)]; simp
  unfold atI; rw [e]; exact h
def PlainIx (b : Expr) : Prop := ∀ o i, subscripted b false o i = operate [o, i] (getItem o i)
def IxR (X : Cx) (r : R2) : Prop :=
  ∀ (value slice : Expr) (pins : List (Addr × Obj)) (s : Shared) (σ : St) (H : Hp) (x y : V) (v u : Value) (Q : VK), Inv X pins σ H s → RelV x v → RelV y u → r x y H Q →
    subscripted slice false v u = operate [v, u] (getItem v u) → wpAny (model X.prog X.w) X.A (subscriptTail value slice v u) (EP X pins σ Q) X.xe s
def MtR (X : Cx) (id : String) (r : V → List V → Hp → VK → Prop) : Prop :=
  ∀ (pins : List (Addr × Obj)) (s : Shared) (σ : St) (H : Hp) (x : V) (xs : List V) (v : Value) (us : List Value) (Q : VK), Inv X pins σ H s → RelV x v → Vals xs us → r x xs H Q →
    wpAny (model X.prog X.w) X.A (call (.builtin id) (v :: us)) (EP X pins σ Q) X.xe s
section
variable {X : Cx} {a b : Expr} {ta tb : TE} {pos : Pos}
theorem IxR.or {r r' : R2} (h : IxR X r) (h' : IxR X r') : IxR X (fun x y H Q => r x y H Q ∨ r' x y H Q) := by
  intro value slice pins s σ H x y v u Q I rx ry q hs
  rcases q with q | q
  · exact h value slice pins s σ H x y v u Q I rx ry q hs
  · exact h' value slice pins s σ H x y v u Q I rx ry q hs
theorem pe_ix {r : R2} (hr : IxR X r) (ha : PE X a ta) (hb : PE X b tb) (hs : PlainIx b) : PE X (.Subscript a b pos) (tOp r ta tb) := by
  intro pins s σ H Q I h
  exact Subscript_ (binT ha hb I h fun v u s2 x y H2 I2 rx ry q => hr a b pins s2 σ H2 x y v u Q I2 rx ry q (hs _ _))
def rIxL (K : PySem.W.Frag) : R2 := fun x y H Q => ∃ p xs i v, x = .ref p ∧ y = .int i ∧ SqL K H p xs ∧ atI xs i = some v ∧ Q v H
def rIxT (K : PySem.W.Frag) : R2 := fun x y H Q => ∃ p xs i v, x = .ref p ∧ y = .int i ∧ SqT K H p xs ∧ atI xs i = some v ∧ Q v H
def rIxS : R2 := fun x y H Q => ∃ z i c, x = .str z ∧ y = .int i ∧ z.length ≤ sizeLine ∧ atI z.cps.toList i = some c ∧ Q (.str ⟨#[c]⟩) H
theorem ix_list : IxR X (rIxL X.K) := by
  intro value slice pins s σ H x y v u Q I rx ry h hs
  obtain ⟨p, xs, i, z, rfl, rfl, hq, he, q⟩ := h
  cases rx
  obtain ⟨t, rfl⟩ := ry
  obtain ⟨its, r, pl, hz⟩ := I.list hq
  obtain ⟨j, h1, h2, h3, h4, h5⟩ := atI_get he
  obtain ⟨w, ew, rw'⟩ := r.get h2
  have hl := r.length
  have hn := line63
  have fin : EP X pins σ Q w s := ⟨z, H, I, rw', q⟩
  by_cases h0 : 0 ≤ i
  · have hj : i.toNat = j := by
      rw [seqIndex_of h0 h5] at h1
      exact Option.some.inj h1
    exact item_listR pl.isList h0 (by omega) (by rw [hj]; simpa using ew) fin hs
  · have hj : (i + (its.toArray.size : Int)).toNat = j := by
      rw [seqIndex_neg (by omega) h4] at h1
      rw [List.size_toArray, ← hl]
      exact Option.some.inj h1
    exact subscriptTail_builtinR (x := w) pl.isList.typeIs slot_list_getitem.lookup
      (wpAny_getItem_list_neg (Q := fun r s' => r = w ∧ EP X pins σ Q r s') pl.isList (by omega) (by rw [List.size_toArray] <;> omega) (by omega) (by rw [hj]; simpa using ew) ⟨rfl, fin⟩) hs
theorem ix_tup : IxR X (rIxT X.K) := by
  intro value slice pins s σ H x y v u Q I rx ry h hs
  obtain ⟨p, xs, i, z, rfl, rfl, hq, he, q⟩ := h
  cases rx
  obtain ⟨t, rfl⟩ := ry
  obtain ⟨its, r, pl, hz⟩ := I.tuple hq
  obtain ⟨j, h1, h2, h3, h4, h5⟩ := atI_get he
  obtain ⟨w, ew, rw'⟩ := r.get h2
  have hl := r.length
  have hn := line63
  have fin : EP X pins σ Q w s := ⟨z, H, I, rw', q⟩
  exact subscriptTail_builtinR (x := w) pl.typeIs slot_tuple_getitem.lookup
    (getItem_tuple (j := j) (Q := fun r s' => r = w ∧ EP X pins σ Q r s') pl (by omega) (by omega) (by rw [List.size_toArray, ← hl]; exact h1) (by simpa using ew) ⟨rfl, fin⟩) hs
theorem ix_str : IxR X rIxS := by
  intro value slice pins s σ H x y v u Q I rx ry h hs
  obtain ⟨z, i, c, rfl, rfl, hz, he, q⟩ := h
  obtain ⟨t, rfl⟩ := rx
  obtain ⟨t', rfl⟩ := ry
  obtain ⟨j, h1, h2, h3, h4, h5⟩ := atI_get he
  have hl : z.cps.toList.length = z.length := by simp [Str.length]
  rw [hl] at h1 h4 h5
  have hn := line63
  exact tail_any (typeIs_str s z t) slot_str_getitem.lookup (getItem_str (c := c) (by
    have e1 : decide (i < -(2 ^ 63 : Int)) = false := decide_eq_false (by omega)
    have e2 : decide (i ≥ 2 ^ 63) = false := decide_eq_false (by omega)
    rw [e1, e2, Bool.or_false]) (by rw [h1]; simpa using h2) ⟨.str ⟨#[c]⟩, H, I.tok _, ⟨_, rfl⟩, q⟩) hs
def rIx (K : PySem.W.Frag) : R2 := fun x y H Q => rIxL K x y H Q ∨ rIxT K x y H Q ∨ rIxS x y H Q
theorem ix_seq : IxR X (rIx X.K) := ix_list.or (ix_tup.or ix_str)
theorem slice_bounds (lo hi : Option Int) (n : Nat) : (sliceBounds lo hi none n).1 = ((HT.sIx n 0 lo : Nat) : Int) ∧ (sliceBounds lo hi none n).2.1 = ((HT.sIx n n hi : Nat) : Int) ∧ (sliceBounds lo hi none n).2.2 = 1 := by
  refine ⟨?_, ?_, rfl⟩
  · cases lo with
    | none => simp [sliceBounds, HT.sIx]
    | some i =>
      simp only [sliceBounds, HT.sIx, Option.getD_none, show (1 : Int) > 0 by decide, if_true]
      by_cases h : i < 0
      · simp only [h, if_true] <;> omega
      · simp only [h, if_false] <;> omega
  · cases hi with
    | none => simp [sliceBounds, HT.sIx]
    | some i =>
      simp only [sliceBounds, HT.sIx, Option.getD_none, show (1 : Int) > 0 by decide, if_true]
      by_cases h : i < 0
      · simp only [h, if_true] <;> omega
      · simp only [h, if_false] <;> omega
theorem slicePick_cut (its : List Value) (lo hi : Option Int) : slicePick its.toArray lo hi none = ((its.drop (HT.sIx its.length 0 lo)).take (HT.sIx its.length its.length hi - HT.sIx its.length 0 lo)).toArray := by
  obtain ⟨h1, h2, h3⟩ := slice_bounds lo hi its.toArray.size
  unfold slicePick
  rw [h1, h2, h3]
  simp only [sliceRange_one, pick_run, List.size_toArray] <;> rfl
def rSlL (K : PySem.W.Frag) : V → Option Int → Option Int → Hp → VK → Prop := fun x lo hi H Q => ∃ a xs, x = .ref a ∧ SqL K H a xs ∧ ∀ p, H p = none → Q (.ref p) (upd H p (.lst (cutV xs lo hi)))
theorem sl_list : SlR X (rSlL X.K) := by
  intro pins s σ H x v vl vu lo hi sl Q I rx hs pl pu h
  obtain ⟨a, xs, rfl, hx, q⟩ := h
  cases rx
  obtain ⟨its, r, ht, hz⟩ := I.list hx
  have hlen := r.length
  refine ⟨"list", _, slot_list_getitem.lookup, ht.isList.typeIs, ?_⟩
  refine wpAny_getItem_list_slice ht.isList hs pl pu .none (by simp) ?_ (by rw [List.size_toArray] <;> omega)
  rw [slicePick_cut, ← hlen]
  refine ⟨.ref s.heap.objs.size, _, I.laid (t' := s.toks) (o := .lst (cutV xs lo hi)) (fun b ob q => Heap.get?_push_of_some _ q) (Nat.le_refl _) ?_, rfl, q _ (I.hok.fresh (Nat.le_refl _))⟩
  exact ⟨Nat.le_trans (cutV_length xs lo hi) hz, _, 0, (r.drop (HT.sIx xs.length 0 lo)).take (HT.sIx xs.length xs.length hi - HT.sIx xs.length 0 lo), Heap.get?_push_size _ rfl⟩
def flatV : V → Bool
  | .non => true
  | .bl _ => true
  | .int _ => true
  | .str _ => true
  | _ => false
def eqV : V → V → Bool
  | .non, .non => true
  | .bl a, .bl b => a == b
  | .bl a, .int b => (if a then 1 else 0) == b
  | .int a, .bl b => a == (if b then 1 else 0)
  | .int a, .int b => a == b
  | .str a, .str b => a == b
  | _, _ => false
theorem eqAt_V {A : Around} {s : Shared} {y x : V} {u v : Value} (ry : RelV y u) (rx : RelV x v) (fy : flatV y = true) (fx : flatV x = true) : SeqAt.EqAt A s u v (eqV y x) := by
  cases y with
  | non =>
    cases ry
    cases x with
    | non => cases rx; exact SeqAt.EqAt.same _
    | bl b => cases rx; exact SeqAt.EqAt.none_bool b
    | int b => obtain ⟨t, rfl⟩ := rx; exact SeqAt.EqAt.none_int b t
    | str b => obtain ⟨t, rfl⟩ := rx; exact SeqAt.EqAt.none_str b t
    | _ => exact absurd (show false = true from fx) Bool.false_ne_true
  | bl a =>
    cases ry
    cases x with
    | non => cases rx; exact SeqAt.EqAt.bool_none a
    | bl b => cases rx; exact SeqAt.EqAt.bool_bool a b
    | int b => obtain ⟨t, rfl⟩ := rx; exact SeqAt.EqAt.bool_int a b t
    | str b => obtain ⟨t, rfl⟩ := rx; exact SeqAt.EqAt.bool_str a b t
    | _ => exact absurd (show false = true from fx) Bool.false_ne_true
  | int a =>
    obtain ⟨t', rfl⟩ := ry
    cases x with
    | non => cases rx; exact SeqAt.EqAt.int_none a t'
    | bl b => cases rx; exact SeqAt.EqAt.int_bool a t' b
    | int b => obtain ⟨t, rfl⟩ := rx; exact SeqAt.EqAt.int_int a t' b t
    | str b => obtain ⟨t, rfl⟩ := rx; exact SeqAt.EqAt.int_str a t' b t
    | _ => exact absurd (show false = true from fx) Bool.false_ne_true
  | str a =>
    obtain ⟨t', rfl⟩ := ry
    cases x with
    | non => cases rx; exact SeqAt.EqAt.str_none a t'
    | bl b => cases rx; exact SeqAt.EqAt.str_bool a t' b
    | int b => obtain ⟨t, rfl⟩ := rx; exact SeqAt.EqAt.str_int a t' b t
    | str b => obtain ⟨t, rfl⟩ := rx; exact SeqAt.EqAt.str_str a t' b t
    | _ => exact absurd (show false = true from fx) Bool.false_ne_true
  | _ => exact absurd (show false = true from fy) Bool.false_ne_true
theorem call_list_of : CallR X (.type "list") (fun xs H Q => ∃ p ys, xs = [.ref p] ∧ (SqL X.K H p ys ∨ SqT X.K H p ys) ∧ ∀ l, H l = none → Q (.ref l) (upd H l (.lst ys))) := by
  intro pins s σ H xs us Q I r h
  obtain ⟨p, ys, rfl, hq, q⟩ := h
  obtain ⟨u, rfl, rx⟩ := vals1 r
  cases rx
  have fin : ∀ (its : List Value), Vals ys its → ys.length ≤ sizeLine → ∀ (h' : Heap) (c' : Nat), (∀ b o', s.heap.get? b = some o' → h'.get? b = some o') →
      h'.get? s.heap.objs.size = some { cls := .type "list", dict := none, data := .seq its.toArray c', slots := #[] } → EP X pins σ Q (.ref s.heap.objs.size) { s with heap := h' } := fun its r' hz h' c' kp e =>
    ⟨.ref s.heap.objs.size, _, I.laid (t' := s.toks) kp (Nat.le_refl _) (show ObjOk X.prog X.w _ h' _ (.lst ys) from ⟨hz, its, c', r', e⟩), rfl, q _ (I.hok.fresh (Nat.le_refl _))⟩
  rcases hq with hq | hq
  · obtain ⟨its, r', pl, hz⟩ := I.list hq
    have hlen := r'.length
    obtain ⟨o, ho, hc, n, hd⟩ := pl.isList
    exact call_list_seq p (.inl rfl) ho hc hd (fun h' c' kp e => fin its r' hz h' c' kp e) (by simp only [List.size_toArray] <;> omega)
  · obtain ⟨its, r', pl, hz⟩ := I.tuple hq
    have hlen := r'.length
    obtain ⟨o, ho, hc, n, hd⟩ := pl
    exact call_list_seq p (.inr rfl) ho hc hd (fun h' c' kp e => fin its r' hz h' c' kp e) (by simp only [List.size_toArray] <;> omega)
theorem call_tuple_of : CallR X (.type "tuple") (fun xs H Q => ∃ p ys, xs = [.ref p] ∧ ((SqL X.K H p ys ∧ ∀ l, H l = none → Q (.ref l) (upd H l (.tup ys))) ∨ (SqT X.K H p ys ∧ Q (.ref p) H))) := by
  intro pins s σ H xs us Q I r h
  obtain ⟨p, ys, rfl, h⟩ := h
  obtain ⟨u, rfl, rx⟩ := vals1 r
  cases rx
  rcases h with ⟨hq, q⟩ | ⟨hq, q⟩
  · obtain ⟨its, r', pl, hz⟩ := I.list hq
    have hlen := r'.length
    refine call_tuple_list pl.isList (fun h' kp => ?_) (by simp only [List.size_toArray] <;> omega)
    have I1 : Inv X pins σ H { s with heap := h' } := I.kept (t' := s.toks) kp
    have I2 : Inv X pins σ (upd H h'.objs.size (.tup ys)) { s with heap := h'.push { cls := .type "tuple", data := .seq its.toArray } } :=
      I1.laid (t' := s.toks) (fun b o e => Heap.get?_push_of_some _ e) (Nat.le_refl _) (show ObjOk X.prog X.w _ _ _ (.tup ys) from ⟨hz, its, r', IsTup.new _ _⟩)
    exact ⟨.ref h'.objs.size, _, I2, rfl, q _ (I1.hok.fresh (Nat.le_refl _))⟩
  · obtain ⟨its, r', pl, hz⟩ := I.tuple hq
    exact call_tuple_same pl ⟨.ref p, H, I, rfl, q⟩
def tyV (K : PySem.W.Frag) (T : String) (x : V) (H : Hp) : Prop := match x with
  | .str _ => T = "str"
  | .int _ => T = "int"
  | .ref p => (T = "list" ∧ ∃ xs, SqL K H p xs) ∨ (T = "tuple" ∧ ∃ o, K.lookup p = some o ∧ o.cls = .type "tuple" ∧ o.dict = none) ∨
      (T = "dict" ∧ ((∃ kvs, H p = some (.dK kvs)) ∨ ∃ kvs, H p = some (.dT kvs))) ∨ (T = "set" ∧ ∃ S n, H p = some (.set S n))
  | _ => False
theorem tyV_is {pins : List (Addr × Obj)} {σ : St} {H : Hp} {s : Shared} {T : String} {x : V} {v : Value} (I : Inv X pins σ H s) (r : RelV x v) (ty : tyV X.K T x H) :
    s.TypeIs v T ∧ ∀ a, v = .ref a → ∃ ob, s.heap.get? a = some ob ∧ ob.dict = none := by
  cases x with
  | str z =>
    obtain ⟨t, rfl⟩ := r
    cases (show T = "str" from ty)
    exact ⟨typeIs_str s z t, fun _ e => nomatch e⟩
  | int i =>
    obtain ⟨t, rfl⟩ := r
    cases (show T = "int" from ty)
    exact ⟨typeIs_int s i t, fun _ e => nomatch e⟩
  | ref p =>
    cases r
    rcases ty with ⟨rfl, xs, hq⟩ | ⟨rfl, o, hk, hc, hd⟩ | ⟨rfl, hk⟩ | ⟨rfl, S, n, hk⟩
    · obtain ⟨its, _, pl, _⟩ := I.list hq
      refine ⟨pl.isList.typeIs, fun a e => ?_⟩
      cases e
      obtain ⟨o, n, e, c, hd, _⟩ := pl
      exact ⟨o, e, hd⟩
    · refine ⟨⟨o, I.kIn p o hk, hc⟩, fun a e => ?_⟩
      cases e
      exact ⟨o, I.kIn _ o hk, hd⟩
    · have z : ∃ o, s.heap.get? p = some o ∧ o.ExactDict := by
        rcases hk with ⟨kvs, hk⟩ | ⟨kvs, hk⟩
        · obtain ⟨_, _, _, _, o, _, _, e, ex, _⟩ := I.hok p _ hk
          exact ⟨o, e, ex⟩
        · obtain ⟨_, _, _, _, o, _, _, e, ex, _⟩ := I.hok p _ hk
          exact ⟨o, e, ex⟩
      obtain ⟨o, e, ex⟩ := z
      refine ⟨⟨o, e, ex.1⟩, fun a e2 => ?_⟩
      cases e2
      exact ⟨o, e, ex.2.1⟩
    · obtain ⟨o, _, _, _, e, ex, _⟩ := I.hok p _ hk
      refine ⟨⟨o, e, ex.1⟩, fun a e2 => ?_⟩
      cases e2
      exact ⟨o, e, ex.2.1⟩
  | _ => exact False.elim ty
def tBM (K : PySem.W.Frag) (T : String) (r : V → List V → Hp → VK → Prop) (to : TE) (t : TA) : TE := fun σ H Q => to σ H fun x H1 => tyV K T x H1 ∧ t σ H1 fun xs H2 => r x xs H2 Q
variable {o e : Expr} {es : List Expr} {to : TE} {t : TA} {name : Str} {apos cpos : Pos} {T id : String} {r : V → List V → Hp → VK → Prop}
theorem pe_bm (pa : PlainAttrs T) (slot : Slot T name id) (hty : typeOf (.builtin id) = pure (.type "method_descriptor")) (hm : MtR X id r) (ho : PE X o to) (ha : PA X (e :: es) t)
    (hbase : attributeBase o name X.env (eval o X.env) = eval o X.env := by rfl)
    (hfew : ((backTo cpos (starEach (e :: es) X.env)).all (fun x => !x.1) && (backToKw cpos (keywordEach [] X.env)).all (fun x => x.1.isSome)
      && decide ((e :: es).length + ([] : List Keyword).length + (if ([] : List Keyword).isEmpty then 0 else 1) < 30)) = true := by rfl)
    (hline : (apos.endLine == cpos.line) = true := by rfl) (hs : starEach (e :: es) X.env = (false, eval e X.env) :: starEach es X.env := by rfl) (hplain : (backTo cpos (starEach es X.env)).any (·.1) = false := by rfl) :
    PE X (.Call (.Attribute o name apos) (e :: es) [] cpos) (tBM X.K T r to t) := by
  intro pins s σ H Q I h
  refine wpAny_Call_method_late hbase hfew hline rfl (thn (ho pins s σ H _ I h) fun v s1 ⟨x, H1, I1, r1, ty, q1⟩ => ?_)
  obtain ⟨h1, h2⟩ := tyV_is I1 r1 ty
  refine ⟨T, id, pa, slot, hty, h1, h2, ?_⟩
  have hA := ha cpos pins s1 σ H1 _ I1 q1
  rw [hs] at hA ⊢
  refine Calls.callWith_builtin (by show (false || (backTo cpos (starEach es X.env)).any (·.1)) = false; rw [hplain] <;> rfl) (Calls.evalArgs_plain ?_)
  exact thn hA fun us s2 ⟨vs, H2, I2, r2, q2⟩ => hm pins s2 σ H2 x vs v us Q I2 r1 r2 q2
/- xs.append(e), list.index on a module's tuple .. are MtR facts of 06m -/
end
end L2
namespace L2
open PySem PySem.Spec PyProof.Rows
def MtM (X : Cx) (id : String) (r : V → List V → Hp → VK → Prop) : Prop :=
  ∀ (pins : List (Addr × Obj)) (s : Shared) (σ : St) (H : Hp) (x : V) (xs : List V) (v : Value) (us : List Value) (Q : VK), Inv X pins σ H s → RelV x v → Vals xs us → r x xs H Q →
    wpAny (model X.prog X.w) X.A (call (.builtin id) (v :: us)) (EP X pins σ Q) X.xe s
theorem Vals.one : ∀ {x : V} {us : List Value}, Vals [x] us → ∃ u, us = [u] ∧ RelV x u
  | _, _, .cons r .nil => ⟨_, rfl, r⟩
theorem Vals.eraseIdx : ∀ {xs : List V} {us : List Value} (i : Nat), Vals xs us → Vals (xs.eraseIdx i) (us.eraseIdx i)
  | _, _, _, .nil => .nil
  | _, _, 0, .cons _ t => t
  | _, _, i + 1, .cons r t => .cons r (Vals.eraseIdx i t)
theorem len_erase {α : Type} : ∀ (l : List α) (i : Nat), (l.eraseIdx i).length ≤ l.length
  | [], _ => Nat.le_refl _
  | _ :: _, 0 => Nat.le_succ _
  | _ :: r, i + 1 => Nat.succ_le_succ (len_erase r i)
section
variable {X : Cx} {pins : List (Addr × Obj)} {σ : St} {H : Hp} {s : Shared} {l b : Addr} {xs ys zs : List V}
theorem Inv.lset {its its' : List Value} {n : Nat} {f : Array Value → Array Value} {t' : Nat} (I : Inv X pins σ H s) (hH : H l = some (.lst xs))
    (e : s.heap.get? l = some { cls := .type "list", data := .seq its.toArray n }) (hf : f its.toArray = its'.toArray) (hv : Vals ys its') (hz : ys.length ≤ sizeLine) :
    Inv X pins σ (upd H l (.lst ys)) { s with heap := s.heap.update l (Obj.mapSeq f), toks := t' } := by
  have q := PySem.IsL.update e f
  rw [hf] at q
  refine I.write (x := l) (e := l) (by rw [hH]; exact trivial) (.inl rfl) (fun b' u hb hu => (Heap.get?_update_other s.heap (Obj.mapSeq f) (Ne.symm hb)).trans hu) ⟨_, q⟩ ?_
  exact ⟨hz, its', _, hv, q⟩
theorem Inv.lnew {its : List Value} {t' : Nat} (I : Inv X pins σ H s) (hv : Vals ys its) (hz : ys.length ≤ sizeLine) :
    Inv X pins σ (upd H s.heap.objs.size (.lst ys)) { s with heap := s.heap.push { cls := .type "list", data := .seq its.toArray }, toks := t' } :=
  I.laid (fun _ _ q => Heap.get?_push_of_some _ q) (Nat.le_refl _) ⟨hz, its, 0, hv, Heap.get?_push_size _ rfl⟩
theorem Inv.fresh (I : Inv X pins σ H s) : H s.heap.objs.size = none := I.hok.fresh (Nat.le_refl _)
theorem Inv.lstM (I : Inv X pins σ H s) (hH : H l = some (.lst xs)) : xs.length ≤ sizeLine ∧ ∃ (its : List Value) (n : Nat), Vals xs its ∧ xs.length = its.length ∧ s.heap.get? l = some { cls := .type "list", data := .seq its.toArray n } := by
  obtain ⟨z, its, n, r, e⟩ := I.hok l _ hH
  exact ⟨z, its, n, r, r.length, e⟩
end
section
variable {X : Cx}
def rAppend : V → List V → Hp → VK → Prop := fun x vs H Q => ∃ l xs y, x = .ref l ∧ vs = [y] ∧ H l = some (.lst xs) ∧ xs.length < sizeLine ∧ Q .non (upd H l (.lst (xs ++ [y])))
theorem mt_append : MtM X "list.append" rAppend := by
  intro pins s σ H x vs v us Q I rx rv h
  obtain ⟨l, xs, y, rfl, rfl, hH, hz, q⟩ := h
  cases rx
  obtain ⟨u, rfl, ru⟩ := rv.one
  obtain ⟨z, its, n, r, hl, e⟩ := I.lstM hH
  refine call_meets F.slot_list_append ⟨_, e, rfl⟩ F.entry_list_append (F.args_list_append_2 _ _) (PySem.list_append l its.toArray n u (by rw [List.size_toArray]; omega)) ⟨e, ?_⟩
  refine ⟨.non, _, I.lset (its' := its ++ [u]) hH e (by simp) (r.append (.cons ru .nil)) ?_, rfl, q⟩
  rw [List.length_append, List.length_singleton]
  omega
def rPopAt : V → List V → Hp → VK → Prop := fun x vs H Q => ∃ l xs i k y, x = .ref l ∧ vs = [.int i] ∧ H l = some (.lst xs) ∧ -(2 ^ 63) ≤ i ∧ i < 2 ^ 63 ∧ seqIndex? i xs.length = some k ∧ xs[k]? = some y ∧ Q y (upd H l (.lst (xs.eraseIdx k)))
theorem mt_popAt : MtM X "list.pop" rPopAt := by
  intro pins s σ H x vs v us Q I rx rv h
  obtain ⟨l, xs, i, k, y, rfl, rfl, hH, h1, h2, hk, hy, q⟩ := h
  cases rx
  obtain ⟨u, rfl, ru⟩ := rv.one
  obtain ⟨t, rfl⟩ := ru
  obtain ⟨z, its, n, r, hl, e⟩ := I.lstM hH
  obtain ⟨w, hw, rw'⟩ := r.get hy
  refine call_meets F.slot_list_pop ⟨_, e, rfl⟩ F.entry_list_pop (F.args_list_pop_2 _ _)
    (MeetsSeq.list_pop_at l its.toArray n i t k w (fitsIndex_both h1 h2) (by rw [List.size_toArray, ← hl]; exact hk) (by rw [← Array.getElem?_toList]; exact hw) (by rw [List.size_toArray]; omega)) ⟨e, ?_⟩
  refine ⟨y, _, I.lset (its' := its.eraseIdx k) hH e ?_ (r.eraseIdx k) ?_, rw', q⟩
  · show its.toArray.eraseIdxIfInBounds k = (its.eraseIdx k).toArray
    rw [List.eraseIdxIfInBounds_toArray]
  · have := len_erase xs k
    omega
def rCat : R2 := fun x y H Q => ∃ l b xs zs, x = .ref l ∧ y = .ref b ∧ H l = some (.lst xs) ∧ H b = some (.lst zs) ∧ xs.length + zs.length ≤ sizeLine ∧ ∀ p, H p = none → Q (.ref p) (upd H p (.lst (xs ++ zs)))
theorem op_cat : OpR X (binaryOp .Add) rCat := by
  intro pins s σ H x y v u Q I rx ry h
  obtain ⟨l, b, xs, zs, rfl, rfl, hH, hB, hz, q⟩ := h
  cases rx
  cases ry
  obtain ⟨z, its, n, r, hl, e⟩ := I.lstM hH
  obtain ⟨z2, its2, n2, r2, hl2, e2⟩ := I.lstM hB
  refine PySem.P.add_list e e2 ?_ (by rw [List.size_toArray, List.size_toArray]; omega)
  have ea : its.toArray ++ its2.toArray = (its ++ its2).toArray := by simp
  rw [ea]
  exact ⟨.ref _, _, I.lnew (t' := s.toks) (r.append r2) (by rw [List.length_append]; omega), rfl, q _ I.fresh⟩
end
section
variable {prog : Program} {w : World} {A : Around} {E : Value → Shared → Prop} {s : Shared}
end
section
variable {X : Cx}
end
end L2
namespace L2
open PySem PySem.Spec PyProof.Rows
section
variable {κ : Type} [DecidableEq κ]
def valV (kvs : List (κ × V)) (k : κ) : Option V := (kvs.find? fun kv => decide (kv.1 = k)).map (·.2)
def putK (kvs : List (κ × V)) (k : κ) (v : V) : List (κ × V) :=
  if (kvs.any fun kv => decide (kv.1 = k)) = true then kvs.map (fun kv => if kv.1 = k then (kv.1, v) else kv) else kvs ++ [(k, v)]
theorem valV_pos {p : κ × V} {r : List (κ × V)} {k : κ} (e : p.1 = k) : valV (p :: r) k = some p.2 := by simp [valV, List.find?_cons, e]
theorem valV_neg {p : κ × V} {r : List (κ × V)} {k : κ} (e : ¬ p.1 = k) : valV (p :: r) k = valV r k := by simp [valV, List.find?_cons, e]
theorem valV_any (k : κ) : ∀ kvs : List (κ × V), (kvs.any fun kv => decide (kv.1 = k)) = (valV kvs k).isSome
  | [] => rfl
  | p :: r => by
    rw [List.any_cons]
    by_cases e : p.1 = k
    · simp only [valV_pos e, decide_eq_true e, Bool.true_or, Option.isSome_some]
    · rw [valV_neg e, decide_eq_false e, Bool.false_or]; exact valV_any k r
theorem length_putK (kvs : List (κ × V)) (k : κ) (v : V) : (putK kvs k v).length ≤ kvs.length + 1 := by
  unfold putK
  split
  · rw [List.length_map]; omega
  · rw [List.length_append, List.length_cons, List.length_nil]; omega
theorem RelO.isSome_eq {o : Option V} {u : Option Value} (r : RelO o u) : o.isSome = u.isSome := by
  cases o with
  | none => cases u with
    | none => rfl
    | some _ => exact (show False from r).elim
  | some _ => cases u with
    | none => exact (show False from r).elim
    | some _ => rfl
theorem RelO.getD {o : Option V} {u : Option Value} {d : V} {d' : Value} (r : RelO o u) (rd : RelV d d') : RelV (o.getD d) (u.getD d') := by
  cases o with
  | none => cases u with
    | none => exact rd
    | some _ => exact (show False from r).elim
  | some _ => cases u with
    | none => exact (show False from r).elim
    | some _ => exact r
theorem KV.val {kvs : List (κ × V)} {vs : List (κ × Value)} (r : KV kvs vs) (k : κ) : RelO (valV kvs k) (valueAt vs k) := by
  unfold KV at r
  induction r with
  | nil => exact True.intro
  | @cons p q ps qs h t ih =>
    obtain ⟨h1, h2⟩ := h
    by_cases e : p.1 = k
    · have e' : q.1 = k := h1.symm.trans e
      have b : valueAt (q :: qs) k = some q.2 := by simp [valueAt, List.find?_cons, e']
      rw [valV_pos e, b]; exact h2
    · have e' : ¬ q.1 = k := fun z => e (h1.trans z)
      have b : valueAt (q :: qs) k = valueAt qs k := by simp [valueAt, List.find?_cons, e']
      rw [valV_neg e, b]; exact ih
theorem KV.any {kvs : List (κ × V)} {vs : List (κ × Value)} (r : KV kvs vs) (k : κ) : (kvs.any fun kv => decide (kv.1 = k)) = vs.any fun kv => decide (kv.1 = k) := by
  unfold KV at r
  induction r with
  | nil => rfl
  | cons h t ih => rw [List.any_cons, List.any_cons, ih, h.1]
theorem KV.repl {kvs : List (κ × V)} {vs : List (κ × Value)} (r : KV kvs vs) (k : κ) {y : V} {u : Value} (ry : RelV y u) :
    KV (kvs.map fun kv => if kv.1 = k then (kv.1, y) else kv) (vs.map fun kv => if kv.1 = k then (kv.1, u) else kv) := by
  unfold KV at r ⊢
  induction r with
  | nil => exact .nil
  | @cons p q ps qs h t ih =>
    rw [List.map_cons, List.map_cons]
    refine .cons ?_ ih
    obtain ⟨h1, h2⟩ := h
    by_cases e : p.1 = k
    · rw [if_pos e, if_pos (h1.symm.trans e)]; exact ⟨h1, ry⟩
    · rw [if_neg e, if_neg (fun z => e (h1.trans z))]; exact ⟨h1, h2⟩
theorem KV.put {kvs : List (κ × V)} {vs : List (κ × Value)} (r : KV kvs vs) (k : κ) {y : V} {u : Value} (ry : RelV y u) : KV (putK kvs k y) (stored vs k u) := by
  unfold putK stored
  rw [r.any k]
  by_cases e : (vs.any fun kv => decide (kv.1 = k)) = true
  · rw [if_pos e, if_pos e]; exact r.repl k ry
  · rw [if_neg e, if_neg e]; exact Paired.snoc r ⟨rfl, ry⟩
theorem KV.length {kvs : List (κ × V)} {vs : List (κ × Value)} (r : KV kvs vs) : kvs.length = vs.length := Paired.length r
end
theorem kV_is {P : Program} {w : World} {k : Key} {u : Value} (r : RelV (kV k) u) : (mixKind P w).is k u = true := by
  cases k with
  | inl i => obtain ⟨t, e⟩ := (show ∃ t, u = Value.int i t from r); subst e; exact mixKind_int P w i t
  | inr x => obtain ⟨t, e⟩ := (show ∃ t, u = Value.str x t from r); subst e; exact mixKind_str P w x t
theorem items_are {P : Program} {w : World} : ∀ {ks : List Key} {us : List Value}, Vals (ks.map kV) us → ItemsAre (mixKind P w) ks us
  | [], _, r => by rw [List.map_nil] at r; cases r; exact .nil
  | k :: ks, _, r => by
    rw [List.map_cons] at r
    cases r with
    | cons h t => exact .cons (kV_is h) (items_are t)
abbrev KT (H : Hp) : List (List Key × V) → List (List Key × Addr × Value) → Prop := Paired fun p q => p.1 = q.1 ∧ H q.2.1 = some (.tup (p.1.map kV)) ∧ RelV p.2 q.2.2
theorem KT.val {H : Hp} {kvs : List (List Key × V)} {xs : List (List Key × Addr × Value)} (r : KT H kvs xs) (k : List Key) : RelO (valV kvs k) ((atKey xs k).map (·.2)) := by
  induction r with
  | nil => exact True.intro
  | @cons p q ps qs h t ih =>
    obtain ⟨h1, _, h2⟩ := h
    by_cases e : p.1 = k
    · have e' : q.1 = k := h1.symm.trans e
      have b : atKey (q :: qs) k = some q.2 := by simp [atKey, List.find?_cons, e']
      rw [valV_pos e, b]; exact h2
    · have e' : ¬ q.1 = k := fun z => e (h1.trans z)
      have b : atKey (q :: qs) k = atKey qs k := by simp [atKey, List.find?_cons, e']
      rw [valV_neg e, b]; exact ih
theorem KT.repl {H : Hp} {kvs : List (List Key × V)} {xs : List (List Key × Addr × Value)} (r : KT H kvs xs) (k : List Key) {y : V} {u : Value} (ry : RelV y u) :
    KT H (kvs.map fun kv => if kv.1 = k then (kv.1, y) else kv) (xs.map (putAt k u)) := by
  induction r with
  | nil => exact .nil
  | @cons p q ps qs h t ih =>
    rw [List.map_cons, List.map_cons]
    refine .cons ?_ ih
    obtain ⟨h1, h2, h3⟩ := h
    unfold putAt
    by_cases e : p.1 = k
    · rw [if_pos e, if_pos (h1.symm.trans e)]; exact ⟨h1, h2, ry⟩
    · rw [if_neg e, if_neg (fun z => e (h1.trans z))]; exact ⟨h1, h2, h3⟩
theorem KT.put {H : Hp} {kvs : List (List Key × V)} {xs : List (List Key × Addr × Value)} (r : KT H kvs xs) (k : List Key) {b : Addr} {y : V} {u : Value} (hb : H b = some (.tup (k.map kV))) (ry : RelV y u) :
    KT H (putK kvs k y) (storedH xs k b u) := by
  have e : (kvs.any fun kv => decide (kv.1 = k)) = (atKey xs k).isSome := by
    rw [valV_any, (r.val k).isSome_eq, Option.isSome_map]
  unfold putK storedH
  rw [e]
  by_cases q : (atKey xs k).isSome = true
  · rw [if_pos q, if_pos q]; exact r.repl k ry
  · rw [if_neg q, if_neg q]; exact Paired.snoc r ⟨rfl, hb, ry⟩
theorem KT.keeps {H H' : Hp} {kvs : List (List Key × V)} {xs : List (List Key × Addr × Value)} (r : KT H kvs xs) (ht : ∀ b ys, H b = some (.tup ys) → H' b = some (.tup ys)) : KT H' kvs xs :=
  Paired.mapP r fun _ _ z => ⟨z.1, ht _ _ z.2.1, z.2.2⟩
section
variable {P : Program} {w : World} {H : Hp} {h : Heap} {a : Addr}
theorem rd_of {u : HO} (ok : HOk P w H h) (e : Rd H a u) : ObjOk P w H h a u := e.ok ok
theorem dk_rd {kvs : List (Key × V)} (ok : HOk P w H h) (e : Rd H a (.dK kvs)) : kvs.length ≤ sizeLine ∧ (a == sysModules) = false ∧ ∃ vs, KV kvs vs ∧ h.DictOf (mixKind P w) a vs :=
  show ObjOk P w H h a (.dK kvs) from rd_of ok e
theorem dk_of {kvs : List (Key × V)} (ok : HOk P w H h) (e : H a = some (.dK kvs)) : kvs.length ≤ sizeLine ∧ (a == sysModules) = false ∧ ∃ vs, KV kvs vs ∧ h.DictOf (mixKind P w) a vs := dk_rd ok (.inl e)
theorem key_of {ks : List Key} (ok : HOk P w H h) (e : H a = some (.tup (ks.map kV))) : (tupleKind (mixKind P w)).is h ks a := by
  obtain ⟨_, its, r, o, h1, h2, n, h3⟩ := (show ObjOk P w H h a (.tup (ks.map kV)) from ok a _ e)
  exact ⟨o, its.toArray, n, h1, h2, h3, by simpa using items_are r⟩
theorem dt_rd {kvs : List (List Key × V)} (ok : HOk P w H h) (e : Rd H a (.dT kvs)) : kvs.length ≤ sizeLine ∧ (a == sysModules) = false ∧
    ∃ xs, KT H kvs xs ∧ h.DictOfH (tupleKind (mixKind P w)) a xs := by
  obtain ⟨z, y, xs, r, o, es, ep, h1, h2, h3, h4, h5⟩ := (show ObjOk P w H h a (.dT kvs) from rd_of ok e)
  refine ⟨z, y, xs, r, o, es, ep, h1, h2, h3, h4, fun x hx => ?_, h5⟩
  have all : ∀ {l : List (List Key × V)} {m : List (List Key × Addr × Value)}, KT H l m → ∀ x ∈ m, (tupleKind (mixKind P w)).is h x.1 x.2.1 := by
    intro l m q
    induction q with
    | nil => intro x hx; exact nomatch hx
    | @cons p q ps qs hq t ih =>
      intro x hx
      rcases List.mem_cons.mp hx with e | hx
      · subst e
        exact key_of ok (by rw [← hq.1]; exact hq.2.1)
      · exact ih x hx
  exact all r x hx
theorem dt_of {kvs : List (List Key × V)} (ok : HOk P w H h) (e : H a = some (.dT kvs)) : kvs.length ≤ sizeLine ∧ (a == sysModules) = false ∧
    ∃ xs, KT H kvs xs ∧ h.DictOfH (tupleKind (mixKind P w)) a xs := dt_rd ok (.inl e)
end
def DGet (H : Hp) (a : Addr) (y : V) (r : Option V) : Prop :=
  (∃ kvs k, Rd H a (.dK kvs) ∧ y = kV k ∧ r = valV kvs k) ∨ ∃ kvs k b, Rd H a (.dT kvs) ∧ y = .ref b ∧ H b = some (.tup (k.map kV)) ∧ r = valV kvs k
def DPut (H : Hp) (a : Addr) (y v : V) (H' : Hp) : Prop :=
  (∃ kvs k, H a = some (.dK kvs) ∧ y = kV k ∧ kvs.length < sizeLine ∧ H' = upd H a (.dK (putK kvs k v))) ∨
  ∃ kvs k b, H a = some (.dT kvs) ∧ y = .ref b ∧ H b = some (.tup (k.map kV)) ∧ kvs.length < sizeLine ∧ H' = upd H a (.dT (putK kvs k v))
theorem DGet.t {H : Hp} {a b : Addr} {kvs : List (List Key × V)} {k : List Key} (e : H a = some (.dT kvs)) (eb : H b = some (.tup (k.map kV))) : DGet H a (.ref b) (valV kvs k) := .inr ⟨kvs, k, b, .inl e, rfl, eb, rfl⟩
theorem DPut.t {H : Hp} {a b : Addr} {kvs : List (List Key × V)} {k : List Key} {v : V} (e : H a = some (.dT kvs)) (eb : H b = some (.tup (k.map kV))) (hl : kvs.length < sizeLine) :
    DPut H a (.ref b) v (upd H a (.dT (putK kvs k v))) := .inr ⟨kvs, k, b, e, rfl, eb, hl, rfl⟩
section
variable {X : Cx} {pins : List (Addr × Obj)} {σ : St} {H : Hp} {s : Shared} {a : Addr} {y v : V} {u r : Value} {o : Option V} {A : Around} {E : Value → Shared → Prop}
theorem Inv.big (I : Inv X pins σ H s) : sysModules < s.heap.objs.size := by
  have h : mainGlobals < s.heap.objs.size := (I.mod.glob.keeps I.bk).lt
  exact Nat.lt_trans (by decide) h
theorem d_getItem {Q : Value → Shared → Prop} (hu : A.units + 1 < cLine) (I : Inv X pins σ H s) (g : DGet H a y (some v)) (ry : RelV y u) (h : ∀ w' s', Inv X pins σ H s' → RelV v w' → Q w' s') :
    wpAny (model X.prog X.w) A (getItem (.ref a) u) Q E s := by
  rcases g with ⟨kvs, k, e, ey, l⟩ | ⟨kvs, k, b, e, ey, eb, l⟩
  · subst ey
    obtain ⟨z, hd, vs, rel, dd⟩ := dk_rd I.hok e
    obtain ⟨w', hw, rw'⟩ := RelO.some_of (v := v) (o := valueAt vs k) (by rw [l]; exact rel.val k)
    exact wpAny_getItem_of (kV_is ry) dd.mapOf hw (h w' _ (I.tok _) rw')
  · subst ey
    cases (show u = Value.ref b from ry)
    obtain ⟨z, hd, xs, rel, dd⟩ := dt_rd I.hok e
    obtain ⟨w', hw, rw'⟩ := RelO.some_of (v := v) (o := (atKey xs k).map (·.2)) (by rw [l]; exact rel.val k)
    obtain ⟨p, hp, hp2⟩ := Option.map_eq_some_iff.mp hw
    refine wpAny_getItem_heap (tupleKind_room_in1 hu) (key_of I.hok eb) dd hp ?_
    rw [hp2]
    exact h w' _ (I.tok _) rw'
theorem d_notIn {Q : Value → Shared → Prop} (hu : A.units + 1 < cLine) (I : Inv X pins σ H s) (g : DGet H a y o) (ry : RelV y u) (h : ∀ s', Inv X pins σ H s' → Q (.bool (!o.isSome)) s') :
    wpAny (model X.prog X.w) A (compareOp .NotIn u (.ref a)) Q E s := by
  rcases g with ⟨kvs, k, e, ey, l⟩ | ⟨kvs, k, b, e, ey, eb, l⟩
  · subst ey
    obtain ⟨z, hd, vs, rel, dd⟩ := dk_rd I.hok e
    refine wpAny_notIn_of (kV_is ry) hd dd.mapOf ?_
    rw [← (rel.val k).isSome_eq, ← l]
    exact h _ (I.tok _)
  · subst ey
    cases (show u = Value.ref b from ry)
    obtain ⟨z, hd, xs, rel, dd⟩ := dt_rd I.hok e
    refine wpAny_notIn_heap (tupleKind_room_in1 hu) (key_of I.hok eb) hd dd ?_
    have q := (rel.val k).isSome_eq
    rw [Option.isSome_map] at q
    rw [← q, ← l]
    exact h _ (I.tok _)
theorem d_write {h' : Heap} {t' : Nat} {ob : HO} (I : Inv X pins σ H s) (mu : Mut (H a)) (hs : Heap.SameBut a s.heap h') (he : ∃ q, h'.get? a = some q) (new : ObjOk X.prog X.w (upd H a ob) h' a ob) :
    Inv X pins σ (upd H a ob) { s with heap := h', toks := t' } :=
  I.write (x := a) (e := a) mu (.inl rfl) (fun b q hb z => (hs.2 b hb).trans z) he new
theorem dk_new {P : Program} {w : World} {H' : Hp} {h' : Heap} {kvs : List (Key × V)} {vs : List (Key × Value)} (z : kvs.length ≤ sizeLine) (hd : (a == sysModules) = false) (rel : KV kvs vs) (dd : h'.DictOf (mixKind P w) a vs) :
    ObjOk P w H' h' a (.dK kvs) := ⟨z, hd, vs, rel, dd⟩
theorem d_setItem {H' : Hp} {Q : Unit → Shared → Prop} (hu : A.units + 1 < cLine) (I : Inv X pins σ H s) (g : DPut H a y v H') (ry : RelV y u) (rv : RelV v r) (h : ∀ s', Inv X pins σ H' s' → Q () s') :
    wpAny (model X.prog X.w) A (setItem (.ref a) u r) Q E s := by
  rcases g with ⟨kvs, k, e, ey, l, eH⟩ | ⟨kvs, k, b, e, ey, eb, l, eH⟩
  · subst ey eH
    obtain ⟨z, hd, vs, rel, dd⟩ := dk_of I.hok e
    have hz : vs.length ≤ sizeLine := by rw [← rel.length]; exact z
    have hl : (putK kvs k v).length ≤ sizeLine := by have := length_putK kvs k v; omega
    refine wpAny_setItem_pairs (hsz := hz) (kV_is ry) dd fun h' dd' hs => h _ ?_
    have he : ∃ q, h'.get? a = some q := let ⟨q, _, _, hq, _⟩ := dd'; ⟨q, hq⟩
    exact d_write I (by rw [e]; exact True.intro) hs he (dk_new hl hd (rel.put k rv) dd')
  · subst ey eH
    cases (show u = Value.ref b from ry)
    obtain ⟨z, hd, xs, rel, dd⟩ := dt_of I.hok e
    have hz : xs.length ≤ sizeLine := by rw [← Paired.length rel]; exact z
    have hl : (putK kvs k v).length ≤ sizeLine := by have := length_putK kvs k v; omega
    refine wpAny_setItem_heap (hsz := hz) (tupleKind_room_in1 hu) (key_of I.hok eb) dd fun h' dd' hs => h _ ?_
    obtain ⟨q, es, ep, hq, h2, h3, h4, _, h5⟩ := dd'
    refine d_write I (by rw [e]; exact True.intro) hs ⟨q, hq⟩ ⟨hl, hd, _, (rel.put k eb rv).keeps fun c ys ec => ?_, q, es, ep, hq, h2, h3, h4, h5⟩
    rw [upd_ne (ne_of ec e (fun z => nomatch z))]
    exact ec
end
section
variable {X : Cx} {pins : List (Addr × Obj)} {σ : St} {H : Hp} {s : Shared} {a : Addr} {kvs : List (Key × V)} {k : Key} {u : Value} {A : Around} {E : Value → Shared → Prop}
end
def NoSl (i : Expr) : Prop := ∀ ov iv, subscripted i false ov iv = operate [ov, iv] (getItem ov iv)
theorem subD_of {prog : Program} {w : World} {A : Around} {E : Value → Shared → Prop} {s : Shared} {env : Env} {value slice : Expr} {pos : Pos} {T id : String} {Q : Value → Shared → Prop}
    (hl : typeLookup (.type T) "__getitem__" = pure (some (.builtin id))) (hs : NoSl slice)
    (h : wpAny (model prog w) A (eval value env) (fun o s₁ => wpAny (model prog w) A (eval slice env) (fun i s₂ => s₂.TypeIs o T ∧ wpAny (model prog w) A (getItem o i) Q E s₂) E s₁) E s) :
    wpAny (model prog w) A (eval (.Subscript value slice pos) env) Q E s := by
  refine Subscript_ (wpAny_mono h (fun o s₁ h₁ => wpAny_mono h₁ (fun i s₂ h₂ => ?_) fun _ _ x => x) fun _ _ x => x)
  obtain ⟨hT, h₂⟩ := h₂
  unfold subscriptTail
  refine wpAny_bind ?_
  rw [getitemInPython_of_ne hT.not_modules]
  refine wpAny_bind (wpAny_specialOf hT hl ?_)
  have fin : wpAny (model prog w) A (subscripted slice false o i) (fun r s₃ => wpAny (model prog w) A (letTemporaryGo value o r >>= fun _ => pure r) Q E s₃) E s₂ := by
    rw [hs o i]
    exact wpAny_operating (wpAny_mono h₂ (fun r s₃ h₃ => wpAny_bind (wpAny_letTemporaryGo (wpAny_pure h₃))) fun _ _ x => x)
  first
    | exact wpAny_pure (wpAny_bind fin)
    | exact wpAny_bind (wpAny_pure (wpAny_bind fin))
    | exact wpAny_bind fin
theorem dict_typeIs {X : Cx} {pins : List (Addr × Obj)} {σ : St} {H : Hp} {s : Shared} {a : Addr} {y : V} {o : Option V} (I : Inv X pins σ H s) (g : DGet H a y o) : s.TypeIs (.ref a) "dict" := by
  rcases g with ⟨kvs, k, e, _, _⟩ | ⟨kvs, k, b, e, _, _, _⟩
  · obtain ⟨_, _, vs, _, dd⟩ := dk_rd I.hok e
    exact dd.typeIs
  · obtain ⟨_, _, xs, _, dd⟩ := dt_rd I.hok e
    exact dd.typeIs
def tDGet (td ty : TE) : TE := fun σ H Q => td σ H fun x H1 => ty σ H1 fun y H2 => ∃ a v, x = .ref a ∧ DGet H2 a y (some v) ∧ Q v H2
def tDNotIn (ty td : TE) : TE := fun σ H Q => ty σ H fun y H1 => td σ H1 fun x H2 => ∃ a o, x = .ref a ∧ DGet H2 a y o ∧ Q (.bl (!o.isSome)) H2
def sDPut (td ty tv : TE) : TS := fun D σ H => tv σ H fun v H1 => td σ H1 fun x H2 => ty σ H2 fun y H3 => ∃ a H4, x = .ref a ∧ DPut H3 a y v H4 ∧ D.nx σ H4
section
variable {X : Cx} {o i e value : Expr} {pos pos' tpos : Pos} {td ty tv : TE}
theorem pe_dget (hu : X.A.units + 1 < cLine) (ho : PE X o td) (hi : PE X i ty) (hs : NoSl i) : PE X (.Subscript o i pos) (tDGet td ty) := by
  intro pins s σ H Q I h
  refine subD_of PySem.F.slot_dict_getitem.lookup hs (thn (ho pins s σ H _ I h) fun u s1 ⟨x, H1, I1, rx, q1⟩ => thn (hi pins s1 σ H1 _ I1 q1) fun iv s2 ⟨y, H2, I2, ry, a, v, ex, g, q2⟩ => ?_)
  subst ex
  obtain rfl : u = Value.ref a := rx
  exact ⟨dict_typeIs I2 g, d_getItem hu I2 g ry fun w' s3 I3 rw' => ⟨v, H2, I3, rw', q2⟩⟩
theorem pc_dnotin (hu : X.A.units + 1 < cLine) (hi : PE X i ty) (ho : PE X o td) : PC X .NotIn i o (tDNotIn ty td) := by
  intro pins s σ H Q I h
  refine thn (hi pins s σ H _ I h) fun iv s1 ⟨y, H1, I1, ry, q1⟩ => thn (ho pins s1 σ H1 _ I1 q1) fun u s2 ⟨x, H2, I2, rx, a, ov, ex, g, q2⟩ => ?_
  subst ex
  obtain rfl : u = Value.ref a := rx
  exact d_notIn hu I2 g ry fun s3 I3 => ⟨.bl (!ov.isSome), H2, I3, rfl, q2⟩
theorem ps_dput (hu : X.A.units + 1 < cLine) (ho : PE X o td) (hi : PE X i ty) (hv : PE X value tv) (hs : swapsWith value (some (.Subscript o i pos')) pos.line X.env = pure false) :
    PS X (.Assign [.Subscript o i pos'] value pos) (sDPut td ty tv) := by
  intro pins s σ H D I h
  refine wpAny_Assign_Subscript (thn (hv pins s σ H _ I h) fun r s1 ⟨v, H1, I1, rv, q1⟩ => thn (ho pins s1 σ H1 _ I1 q1) fun u s2 ⟨x, H2, I2, rx, q2⟩ => thn (hi pins s2 σ H2 _ I2 q2) fun iv s3 ⟨y, H3, I3, ry, a, H4, ex, g, q3⟩ => ?_) hs
  subst ex
  obtain rfl : u = Value.ref a := rx
  exact d_setItem hu I3 g ry rv fun s4 I4 => ⟨σ, H4, I4, q3⟩
end
theorem dt_empty {P : Program} {w : World} {H : Hp} (h : Heap) (hb : sysModules < h.objs.size) : ObjOk P w H (h.push { cls := .type "dict", data := .dict #[] }) h.objs.size (.dT []) :=
  ⟨Nat.zero_le _, beq_eq_false_iff_ne.mpr (Ne.symm (Nat.ne_of_lt hb)), [], .nil, _, #[], 0, Heap.get?_push_size _ rfl, ⟨rfl, rfl, rfl⟩, rfl, rfl, List.nodup_nil⟩
section
variable {X : Cx} {pos : Pos}
end
def tPairs : List (TE × TE) → St → Hp → (List (V × V) → Hp → Prop) → Prop
  | [], _, H, Q => Q [] H
  | (tk, tv) :: r, σ, H, Q => tk σ H fun x H1 => tv σ H1 fun y H2 => tPairs r σ H2 fun ps H3 => Q ((x, y) :: ps) H3
abbrev VV : List (V × V) → List (Value × Value) → Prop := Paired fun p q => RelV p.1 q.1 ∧ RelV p.2 q.2
def PPs (X : Cx) (pos : Pos) (keys : List (Option Expr)) (values : List Expr) (trs : List (TE × TE)) : Prop :=
  ∀ (pins : List (Addr × Obj)) (s : Shared) (σ : St) (H : Hp) (Q : List (V × V) → Hp → Prop), Inv X pins σ H s → tPairs trs σ H Q →
    wpAny (model X.prog X.w) X.A (evalPairs (pairTrees keys values X.env pos)) (fun vs s' => ∃ ps H', Inv X pins σ H' s' ∧ VV ps vs ∧ Q ps H') X.xe s
theorem pps_nil {X : Cx} {pos : Pos} : PPs X pos [] [] [] := fun pins s σ H Q I h => pairTrees_nil_walk ⟨[], H, I, .nil, h⟩
theorem pps_cons {X : Cx} {pos : Pos} {k v : Expr} {ks : List (Option Expr)} {vs : List Expr} {tk tv : TE} {trs : List (TE × TE)} (hk : PE X k tk) (hv : PE X v tv) (hr : PPs X pos ks vs trs) :
    PPs X pos (some k :: ks) (v :: vs) ((tk, tv) :: trs) := fun pins s σ H Q I h =>
  pairTrees_cons_walk (thn (hk pins s σ H _ I h) fun u s1 ⟨x, H1, I1, rx, q1⟩ => thn (hv pins s1 σ H1 _ I1 q1) fun w2 s2 ⟨y, H2, I2, ry, q2⟩ =>
    thn (hr pins s2 σ H2 _ I2 q2) fun ws s3 ⟨ps, H3, I3, rel, q3⟩ => ⟨(x, y) :: ps, H3, I3, .cons ⟨rx, ry⟩ rel, q3⟩)
structure M1 (X : Cx) (o : Expr) (m : Str) (apos : Pos) (e : Expr) (cpos : Pos) : Prop where
  base : attributeBase o m X.env (eval o X.env) = eval o X.env
  few : ((backTo cpos (starEach [e] X.env)).all (fun x => !x.1) && (backToKw cpos (keywordEach [] X.env)).all (fun x => x.1.isSome)
    && decide (([e] : List Expr).length + ([] : List Keyword).length + (if ([] : List Keyword).isEmpty then 0 else 1) < 30)) = true
  line : (apos.endLine == cpos.line) = true
  trees : backTo cpos (starEach [e] X.env) = [(false, eval e X.env)]
structure M2 (X : Cx) (o : Expr) (m : Str) (apos : Pos) (e f : Expr) (cpos : Pos) : Prop where
  base : attributeBase o m X.env (eval o X.env) = eval o X.env
  few : ((backTo cpos (starEach [e, f] X.env)).all (fun x => !x.1) && (backToKw cpos (keywordEach [] X.env)).all (fun x => x.1.isSome)
    && decide (([e, f] : List Expr).length + ([] : List Keyword).length + (if ([] : List Keyword).isEmpty then 0 else 1) < 30)) = true
  line : (apos.endLine == cpos.line) = true
  trees : backTo cpos (starEach [e, f] X.env) = [(false, eval e X.env), (false, eval f X.env)]
def IsD (H : Hp) (a : Addr) : Prop := (∃ kvs, Rd H a (.dK kvs)) ∨ ∃ kvs, Rd H a (.dT kvs)
theorem isD_at {X : Cx} {pins : List (Addr × Obj)} {σ : St} {H : Hp} {s : Shared} {a : Addr} (I : Inv X pins σ H s) (d : IsD H a) :
    s.TypeIs (.ref a) "dict" ∧ (∀ b, Value.ref a = .ref b → ∃ ob, s.heap.get? b = some ob ∧ ob.dict = none) ∧ (a == sysModules) = false := by
  rcases d with ⟨kvs, e⟩ | ⟨kvs, e⟩
  · obtain ⟨_, hd, vs, _, dd⟩ := dk_rd I.hok e
    refine ⟨dd.typeIs, fun b q => ?_, hd⟩
    cases q
    obtain ⟨ob, _, _, h1, h2, _⟩ := dd
    exact ⟨ob, h1, h2.2.1⟩
  · obtain ⟨_, hd, xs, _, dd⟩ := dt_rd I.hok e
    refine ⟨dd.typeIs, fun b q => ?_, hd⟩
    cases q
    obtain ⟨ob, _, _, h1, h2, _⟩ := dd
    exact ⟨ob, h1, h2.2.1⟩
section
variable {X : Cx} {pins : List (Addr × Obj)} {σ : St} {H : Hp} {s : Shared} {a : Addr} {y d : V} {u r : Value} {o : Option V} {A : Around} {E : Value → Shared → Prop}
theorem d_get1 {Q : Value → Shared → Prop} (hu : A.units + 1 < cLine) (I : Inv X pins σ H s) (g : DGet H a y o) (ry : RelV y u) (h : ∀ w' s', Inv X pins σ H s' → RelV (o.getD .non) w' → Q w' s') :
    wpAny (model X.prog X.w) A (call (.builtin "dict.get") [.ref a, u]) Q E s := by
  rcases g with ⟨kvs, k, e, ey, l⟩ | ⟨kvs, k, b, e, ey, eb, l⟩
  · subst ey
    obtain ⟨z, hd, vs, rel, dd⟩ := dk_rd I.hok e
    refine call_meetsIn PySem.F.slot_dict_get dd.typeIs PySem.F.entry_dict_get (PySem.F.args_dict_get_2 _ _) (meets_dict_get (mixKind X.prog X.w) a (kV_is ry) hd) ⟨_, dd.mapOf, h _ _ (I.tok _) ?_⟩
    rw [l]
    exact (rel.val k).getD rfl
  · subst ey
    cases (show u = Value.ref b from ry)
    obtain ⟨z, hd, xs, rel, dd⟩ := dt_rd I.hok e
    refine call_meetsIn PySem.F.slot_dict_get dd.typeIs PySem.F.entry_dict_get (PySem.F.args_dict_get_2 _ _) (meetsH_dict_get (tupleKind (mixKind X.prog X.w)) a b hd) ⟨tupleKind_room_in1 hu, k, xs, key_of I.hok eb, dd, h _ _ (I.tok _) ?_⟩
    rw [l]
    exact (rel.val k).getD rfl
end
def tDGet1 (td ty : TE) : TE := fun σ H Q => td σ H fun x H1 => ∃ a, x = .ref a ∧ IsD H1 a ∧ ty σ H1 fun y H2 => ∃ o, DGet H2 a y o ∧ Q (o.getD .non) H2
section
variable {X : Cx} {o e f : Expr} {apos cpos : Pos} {td ty tx : TE}
theorem pe_dget1 (hu : X.A.units + 1 < cLine) (ho : PE X o td) (he : PE X e ty) (m : M1 X o "get" apos e cpos) : PE X (.Call (.Attribute o "get" apos) [e] [] cpos) (tDGet1 td ty) := by
  intro pins s σ H Q I h
  refine wpAny_Call_method m.base m.few m.line PySem.F.plainAttrs_dict PySem.F.slot_dict_get PySem.F.type_dict_get (thn (ho pins s σ H _ I h) fun u s1 ⟨x, H1, I1, rx, a, ex, d, q1⟩ => ?_)
  subst ex
  obtain rfl : u = Value.ref a := rx
  obtain ⟨t1, t2, _⟩ := isD_at I1 d
  refine ⟨t1, t2, ?_⟩
  rw [m.trees]
  refine Calls.callWith_builtin rfl (Calls.evalArgs_plain (Calls.spliced_cons (thn (he pins s1 σ H1 _ I1 q1) fun iv s2 ⟨y, H2, I2, ry, ov, g, q2⟩ => Calls.spliced_nil ?_)))
  exact d_get1 hu I2 g ry fun w' s3 I3 rw' => ⟨_, H2, I3, rw', q2⟩
end
section
variable {X : Cx} {pins : List (Addr × Obj)} {σ : St} {H : Hp} {s : Shared} {a : Addr} {kvs : List (Key × V)} {A : Around} {E : Value → Shared → Prop}
end
section
variable {X : Cx} {pins : List (Addr × Obj)} {σ : St} {H : Hp} {s : Shared} {a : Addr} {y : V} {u : Value} {A : Around} {E : Value → Shared → Prop}
end
end L2
namespace Att
open PySem PySem.W PySem.Calls PyProof.Rows
theorem ints_of_wellAll {P : Params} {h : Heap} : ∀ (ns : List Int) (vs : List Value), WellAll P h vs (ns.map WData.int) → IntsAre vs ns := by
  intro ns
  induction ns with
  | nil =>
    intro vs w
    rw [List.map_nil] at w
    cases w
    exact .nil
  | cons n ns ih =>
    intro vs w
    rw [List.map_cons] at w
    cases w with
    | cons a b =>
      cases a
      exact .cons _ _ (ih _ b)
theorem script_of {l : OpenLaw} {n : Nat} (hn : l.most = some n) {P : Params} {h : Heap} {args : List WData} {vals : List Value}
    (hpre : l.row.toRowW.claim.pre args = true) (hwl : WellAll P h vals args) :
    ∃ a vs ns, vals = [Value.ref a] ∧ args = [WData.list (ns.map WData.int)] ∧ h.get? a = some { cls := .type "list", data := .seq vs.toArray } ∧ IntsAre vs ns ∧ ns.length ≤ n := by
  have hsh : WShape.hasAll [] args [.list .int] = true := (pre_splitW hpre).1
  have hc : l.pre.holds [] { args := args } = true := (pre_splitW hpre).2
  obtain ⟨d, r, rfl, h1, h2⟩ := hasAllW_cons hsh
  obtain rfl := hasAllW_nil h2
  obtain ⟨xs, rfl, h3⟩ := hasW_list h1
  obtain ⟨ns, rfl⟩ := items_int h3
  have hlen : ns.length ≤ n := by
    unfold OpenLaw.pre at hc
    have h4 : (WTm.not (.lt (.lit (.int (n : Int))) (.len (.arg 0)))).holds [] { args := [.list (ns.map .int)] } = true := by
      have h4 := (holds_andW hc).1
      rw [hn] at h4
      exact h4
    have h5 := condW_of h4 (w_not (w_lt w_lit (w_len_list (w_arg rfl))))
    rw [List.length_map] at h5
    refine Nat.le_of_not_lt fun q => ?_
    have q' : (n : Int) < ((ns.length : Nat) : Int) := by omega
    first
      | (rw [decide_eq_true q'] at h5; exact absurd h5 (by decide))
      | (simp at h5; omega)
  cases hwl with
  | cons w1 w2 =>
    cases w2
    cases w1 with
    | list ho hall => exact ⟨_, _, ns, rfl, rfl, ho, ints_of_wellAll ns _ hall, hlen⟩
theorem post_true (l : OpenLaw) (args : List WData) : l.row.toRowW.claim.post args (.bool true) args = true :=
  postW_of (r := l.row.toRowW) (X := (true == true))
    (show WShape.has [] (.bool true) .bool = true by first | rfl | decide | simp [WShape.has, WShape.arms, WShape.armsAll])
    (show (WTm.eq .res (.lit (.bool true))).value [] { args := args, res := some (.bool true), after := args } = some (.bool (true == true)) from w_eq_bool (w_res rfl) w_lit) rfl
theorem attach_call {l : OpenLaw} {n : Nat} {q : Program} {loose : List Str} {XP : (Str → Option Value) → Heap → Prop} {YP : World → Heap → Prop} {d : DefRec}
    (hn : l.most = some n) (hdf : d.params.defaults = [])
    (call : ∀ (w : World) (s₀ s₁ : Shared) (mg mb : Str → Option Value) (fa : Addr) (o : Obj) (pm cd doc : Value) (a : Addr) (vs : List Value) (ns : List Int),
      Ground q loose [] XP w s₀ mg mb s₁.heap → YP w s₁.heap →
      s₁.heap.get? fa = some o → o.data = .func (docDef d.name d.params d.body d.scope pm cd doc) → s₁.heap.CodeRec cd d.name → mg d.name = some (.ref fa) →
      s₁.heap.get? a = some { cls := .type "list", data := .seq vs.toArray } → IntsAre vs ns → ns.length ≤ n → s₁.gens = #[] →
      codeAny (model l.prog w) callerA (.call (.ref fa) ⟨[.ref a], []⟩) (fun r s' => r = .ok (.ret (.bool true)) ∧ OldK s₁.heap s'.heap ∧ s'.os = s₁.os ∧ AllBare s'.gens) s₁) :
    WalkO q loose XP YP l.row.toRowW d [] (fun f vs => PySem.call f vs) := by
  intro w s₀ s₁ mg mb G Y fa o pm cd doc dV kV ho hd hcd hD hmg hg args vals as hpre hlay hrd hwl hlo
  obtain rfl : dV = .none := Dflts.none hD hdf
  obtain rfl : kV = .none := Dflts.noKw hD
  obtain ⟨a, vs, ns, rfl, rfl, hobj, hints, hlen⟩ := script_of hn hpre hwl
  refine enter_call (codeAny_mono (call w s₀ s₁ mg mb fa o pm cd doc a vs ns G Y ho (fd_plain hd) hcd hmg hobj hints hlen hg) fun r s' hq => ?_)
  obtain ⟨rfl, h2, h3, h4⟩ := hq
  exact ⟨.inl ⟨.bool true, .bool true, [], rfl, fun _ => rfl, .bool true, post_true l _, fun _ => ⟨List.Pairwise.nil, fun _ hm => (nomatch hm)⟩⟩, h2, h3, h4⟩
section
variable {prog : Program} {w : World} {A : Around} {E : Value → Shared → Prop} {s : Shared} {K : Frag}
def ledger (h : Heap) (L d : Addr) : List (Addr × Obj) := (List.range h.objs.size).filterMap fun a => if a = L ∨ a = d then none else (h.get? a).map fun o => (a, o)
end
end Att
namespace L2
open PySem PySem.Spec PyProof.Rows
theorem vals_ints : ∀ {vs : List Value} {ns : List Int}, IntsAre vs ns → Vals (ns.map V.int) vs
  | _, _, .nil => .nil
  | _, _, .cons n t h => .cons ⟨t, rfl⟩ (vals_ints h)
def Only (H : Hp) : Prop := ∀ b, H b = none ∨ ∃ o xs, H b = some (.frz o (.lst xs))
theorem law_call {P : Program} {w : World} {K : PySem.W.Frag} {mg mb : Str → Option Value} {CX : CXT} {k : Nat} {fa a : Addr} {fd : FuncData} {x : Str} {sp : Sp} {s₁ : Shared} {vs : List Value} {ns : List Int}
    (KX : K.In s₁.heap) (hns : s₁.heap.Ns mainGlobals mg) (hb : s₁.heap.Ns builtinsNs mb) (hbb : ∀ x : Str, x ≠ "__name__" → mb x = bootBuiltins x) (hlim : s₁.heap.NoLimit) (hg : s₁.gens = #[])
    (ha : s₁.heap.get? a = some { cls := .type "list", data := .seq vs.toArray }) (hi : IntsAre vs ns) (hl : ns.length ≤ sizeLine) (hr : Room k callerA)
    (F : ∀ base : Heap, K.In base → base.Ns mainGlobals mg → FnOk P w K mg base CX k fa fd [x] sp) (hbind : ∀ (s : Shared) (u : Value), BindsTo s fd ⟨[u], []⟩ [(x, u)])
    (hsp : ∀ H : Hp, Only H → SqL K H a (ns.map V.int) → sp [.ref a] H (fun v _ => v = .bl true) fun _ _ _ => False)
    (hCX : ∀ H e s', CX [] H s₁ (fun _ _ _ => False) e s' → False) :
    codeAny (model P w) callerA (.call (.ref fa) ⟨[.ref a], []⟩) (fun r s' => r = .ok (.ret (.bool true)) ∧ OldK s₁.heap s'.heap ∧ s'.os = s₁.os ∧ AllBare s'.gens) s₁ := by
  have rv := vals_ints hi
  have lenV := hi.length
  -- from an abstract heap in which nothing but the script may be tracked
  have core : ∀ H : Hp, Only H → SqL K H a (ns.map V.int) → HOk P w H s₁.heap → (∀ b, H b ≠ none → b = a) → (H a ≠ none → K.lookup a = none) →
      codeAny (model P w) callerA (.call (.ref fa) ⟨[.ref a], []⟩) (fun r s' => r = .ok (.ret (.bool true)) ∧ OldK s₁.heap s'.heap ∧ s'.os = s₁.os ∧ AllBare s'.gens) s₁ := by
    intro H hO hS hok hA hK
    have base_of : ∀ {b : Addr} {o : Obj}, s₁.heap.get? b = some o → H b = none → (hidT s₁.heap H).get? b = some o := fun e n => hidT_get e n
    have noA : ∀ {b : Addr} {o : Obj} {es : Array DictEntry} {ep : Nat}, s₁.heap.get? b = some o → o.data = .dict es ep → H b = none := fun {b o es ep} e d => by
      cases q : H b with
      | none => rfl
      | some u =>
        have e' : b = a := hA b (by rw [q]; simp)
        subst e'
        rw [ha] at e; cases e
        have d' : Data.seq vs.toArray _ = Data.dict es ep := d
        cases d'
    have nsK : ∀ {b : Addr} {m : Str → Option Value}, s₁.heap.Ns b m → (hidT s₁.heap H).Ns b m := fun {b m} ⟨o, es, ep, e, d, r⟩ => ⟨o, es, ep, base_of e (noA e d), d, r⟩
    have hKb : K.In (hidT s₁.heap H) := fun b o e => base_of (KX b o e) (by
      cases q : H b with
      | none => rfl
      | some u =>
        have e' : b = a := hA b (by rw [q]; simp)
        subst e'
        rw [hK (by rw [q]; simp)] at e; cases e)
    have hM : Mod K mg (hidT s₁.heap H) := ⟨hKb, nsK hns, ⟨mb, nsK hb, hbb⟩, let ⟨mc, h1, h2⟩ := hlim; ⟨mc, nsK h1, h2⟩⟩
    have e0 : Env0 P w K mg (hidT s₁.heap H) callerA [] s₁ H := ⟨rfl, hM, fun b o e => of_hidT e, Nat.le_of_eq (hidT_size _ _), trivial, fun b hb => absurd (show b ∈ ([] : List Addr) from hb) (by simp), hok, .of_eq hg⟩
    refine codeAny_mono ((F _ hKb (nsK hns)).run callerA [] s₁ H ⟨[.ref a], []⟩ [.ref a] [.ref a] _ _ hr e0 (hbind s₁ (.ref a)) (.cons rfl .nil) (hsp H hO hS)) fun r s' h => ?_
    cases r with
    | error e => exact (hCX H e s' h).elim
    | ok fl =>
      cases fl with
      | next => exact False.elim h
      | brk => exact False.elim h
      | cont => exact False.elim h
      | ret u =>
        obtain ⟨v, H', os, bare, un, hok', r', q⟩ := h
        have q' : v = .bl true := q
        subst q'
        obtain rfl : u = Value.bool true := r'
        refine ⟨rfl, OldK.of_keep fun b o e => ?_, os, bare⟩
        cases q : H b with
        | none => exact un.keep b o e q (by intro z; exact absurd (show b ∈ ([] : List Addr) from z) (by simp)) (by simp)
        | some u =>
          rcases hO b with z | ⟨ob, xs, z⟩
          · rw [q] at z; cases z
          · have z2 := un.frzs b ob _ z
            obtain ⟨e1, _⟩ := hok b _ z
            obtain ⟨e2, _⟩ := hok' b _ z2
            rw [e] at e1; cases e1
            exact e2
  cases hk : K.lookup a with
  | some o =>
    -- the script is one of the module's own objects
    have e := KX a o hk
    rw [ha] at e
    cases e
    refine core (fun _ => none) (fun _ => .inl rfl) (.inr ⟨_, vs.toArray, _, hk, rfl, rfl, rfl, by rw [List.size_toArray, lenV]; exact hl, by simpa using rv⟩) (fun b u z => by have z' : (none : Option HO) = some u := z; cases z') (fun b z => absurd rfl z) fun z => absurd rfl z
  | none =>
    refine core (fun b => if b = a then some (.frz { cls := .type "list", data := .seq vs.toArray } (.lst (ns.map V.int))) else none) (fun b => ?_) (.inl (.inr ⟨{ cls := .type "list", data := .seq vs.toArray }, if_pos rfl⟩)) (fun b u z => ?_) (fun b z => ?_) fun _ => hk
    · by_cases hb : b = a
      · exact .inr ⟨_, _, if_pos hb⟩
      · exact .inl (if_neg hb)
    · by_cases hb : b = a
      · have z' := (if_pos hb).symm.trans z
        cases z'
        subst hb
        exact ⟨ha, by rw [List.length_map]; exact hl, vs, _, rv, ha⟩
      · have z' := (if_neg hb).symm.trans z
        cases z'
    · by_cases hb : b = a
      · exact hb
      · exact absurd (if_neg hb) z
end L2
namespace L2
open PySem PySem.Spec PyProof.Rows
abbrev KOf {K : PySem.W.Frag} {h : Heap} (_ : K.In h) : PySem.W.Frag := K
theorem walk_of {l : PySem.W.OpenLaw} {n k : Nat} {q : Program} {loose : List Str} {XP : (Str → Option Value) → Heap → Prop} {YP : World → Heap → Prop} {d : DefRec} {K : Params → PySem.W.Frag} {CX : World → CXT} {sp : World → Sp} {x : Str}
    (hn : l.most = some n) (hn2 : n ≤ sizeLine) (hdf : d.params.defaults = []) (hr : Room k callerA)
    (hY : ∀ (w : World) (h : Heap), YP w h → (K w.params).In h)
    (F : ∀ (w : World) (mg : Str → Option Value) (fa : Addr) (h : Heap), (K w.params).In h → h.Ns mainGlobals mg → mg d.name = some (.ref fa) →
      ∃ fd : FuncData, (∀ (s : Shared) (u : Value), BindsTo s fd ⟨[u], []⟩ [(x, u)]) ∧
        ∀ base : Heap, (K w.params).In base → base.Ns mainGlobals mg → FnOk l.prog w (K w.params) mg base (CX w) k fa fd [x] (sp w))
    (hsp : ∀ (w : World) (H : Hp) (a : Addr) (ns : List Int), ns.length ≤ n → Only H → SqL (K w.params) H a (ns.map V.int) → sp w [.ref a] H (fun v _ => v = .bl true) fun _ _ _ => False)
    (hCX : ∀ (w : World) (H : Hp) (s : Shared) (e : Value) (s' : Shared), CX w [] H s (fun _ _ _ => False) e s' → False) :
    PySem.W.WalkO q loose XP YP l.row.toRowW d [] (fun f vs => PySem.call f vs) := by
  refine Att.attach_call hn hdf fun w s₀ s₁ mg mb fa o pm cd doc a vs ns G Y ho hd hcd hmg hobj hints hlen hg => ?_
  have KX := hY w _ Y
  obtain ⟨fd, hb, hF⟩ := F w mg fa _ KX G.T.g hmg
  exact law_call KX G.T.g G.T.b G.T.builtins G.T.nolimit hg hobj hints (Nat.le_trans hlen hn2) hr hF hb (fun H hO hS => hsp w H a ns hlen hO hS) fun H e s' => hCX w H s₁ e s'
end L2
namespace L2
open PySem PySem.Spec PyProof.Rows
def defArgs (s : Stmt) : Arguments := match s with
  | .FunctionDef _ a _ _ _ _ _ _ _ _ => a
  | _ => { posonlyargs := [], args := [], vararg := none, kwonlyargs := [], kw_defaults := [], kwarg := none, defaults := [] }
def defBody (s : Stmt) : List Stmt := match s with
  | .FunctionDef _ _ b _ _ _ _ _ _ _ => b
  | _ => []
def defScope (s : Stmt) : Scope := match s with
  | .FunctionDef _ _ _ _ _ _ sc _ _ _ => sc
  | _ => { kind := .function, names := [], isGenerator := false, isCoroutine := false }
abbrev CX0 : CXT := fun _ _ _ _ _ _ => False
abbrev E0 : XK := fun _ _ _ => False
structure Fun (K : PySem.W.Frag) (x qual : Str) (st : Stmt) (f : Addr) (fd : FuncData) : Prop where
  ex : ∃ (oc : Value) (od : Option Addr) (kV doc pm : Value) (an : Option Addr) (cdv ct : Value) (osl : Array (Option Value)),
    fd = PySem.W.fnOf x qual (defArgs st) (defBody st) (defScope st) .none kV doc pm an cdv ct ∧ K.lookup f = some ⟨oc, od, .func fd, osl⟩ ∧ PySem.W.codeIn K cdv qual = true
  kp : PySem.W.keepIn K (.ref f) = true
section
variable {P : Program} {w : World} {K : PySem.W.Frag} {mg : Str → Option Value} {base : Heap}
theorem Fun.binds {x qual : Str} {st : Stmt} {f : Addr} {fd : FuncData} {ps : List Str} (F : Fun K x qual st f fd)
    (h : ∀ (kV doc pm : Value) (an : Option Addr) (cdv ct : Value) (us : List Value), us.length = ps.length → bindArgs (PySem.W.fnOf x qual (defArgs st) (defBody st) (defScope st) .none kV doc pm an cdv ct) ⟨us, []⟩ = pure (ps.zip us)) : Binds K fd ps [] := by
  obtain ⟨oc, od, kV, doc, pm, an, cdv, ct, osl, rfl, lk, hcd⟩ := F.ex
  exact .all (h kV doc pm an cdv ct)
theorem fun_mk {x qual : Str} {st : Stmt} {f : Addr} {oc : Value} {od an : Option Addr} {osl : Array (Option Value)} {kV doc pm cdv ct : Value} (l : K.lookup f = some ⟨oc, od, .func (PySem.W.fnOf x qual (defArgs st) (defBody st) (defScope st) .none kV doc pm an cdv ct), osl⟩)
    (c : PySem.W.codeIn K cdv qual = true) (k : PySem.W.keepIn K (.ref f) = true) : Fun K x qual st f (PySem.W.fnOf x qual (defArgs st) (defBody st) (defScope st) .none kV doc pm an cdv ct) := ⟨⟨oc, od, kV, doc, pm, an, cdv, ct, osl, rfl, l, c⟩, k⟩
end
section
variable {X : Cx}
end
theorem ite2 {c A B : Prop} [Decidable c] (h1 : c → A) (h2 : ¬ c → B) : if c then A else B := by
  by_cases h : c
  · rw [if_pos h]
    exact h1 h
  · rw [if_neg h]
    exact h2 h
def Same (H H' : Hp) : Prop := ∀ b o, H b = some o → H' b = some o
theorem Same.refl (H : Hp) : Same H H := fun _ _ h => h
theorem Same.trans {H H1 H2 : Hp} (a : Same H H1) (b : Same H1 H2) : Same H H2 := fun c o h => b c o (a c o h)
theorem Same.free {H H' : Hp} (e : Same H H') {l : Addr} (h : H' l = Option.none) : H l = Option.none := by
  cases q : H l with
  | none => rfl
  | some o =>
    rw [e l o q] at h
    cases h
theorem Same.seq {K : PySem.W.Frag} {H H' : Hp} {a : Addr} {xs : List V} (e : Same H H') (h : SqL K H a xs) : SqL K H' a xs := by
  rcases h with (h | ⟨o, h⟩) | h
  · exact .inl (.inl (e _ _ h))
  · exact .inl (.inr ⟨o, e _ _ h⟩)
  · exact .inr h
end L2
namespace L2
open PySem PySem.Spec PyProof.Rows
section
variable {X : Cx}
end
end L2
namespace L2
open PySem PySem.Spec PyProof.Rows
section
variable {κ : Type} [DecidableEq κ]
end
end L2
namespace L2
open PySem PySem.Spec PyProof.Rows
theorem ObjOk.there {P : Program} {w : World} {H : Hp} {h : Heap} {a : Addr} {o : HO} (x : ObjOk P w H h a o) : ∃ ob, h.get? a = some ob := by
  cases o with
  | lst xs => obtain ⟨_, _, _, _, e⟩ := x; exact ⟨_, e⟩
  | tup xs => obtain ⟨_, _, _, ob, e, _⟩ := x; exact ⟨ob, e⟩
  | dK kvs => obtain ⟨_, _, _, _, ob, _, _, e, _⟩ := x; exact ⟨ob, e⟩
  | dT kvs => obtain ⟨_, _, _, _, ob, _, _, e, _⟩ := x; exact ⟨ob, e⟩
  | set S n => obtain ⟨ob, _, _, _, e, _⟩ := x; exact ⟨ob, e⟩
  | ins C dx fs => obtain ⟨_, _, _, e, _⟩ := x; exact ⟨_, e⟩
  | own y => obtain ⟨ob, e⟩ := x; exact ⟨ob, e⟩
  | xd fs => obtain ⟨_, ⟨ob, _, _, e, _⟩, _⟩ := x; exact ⟨ob, e⟩
  | rng lo hi => obtain ⟨_, _, _, e⟩ := x; exact ⟨_, e⟩
  | frz ob u => obtain ⟨e, _⟩ := x; exact ⟨ob, e⟩
  | tbl ps => exact ⟨_, (show h.get? a = some _ from x)⟩
  | met f y => exact ⟨_, (show h.get? a = some _ from x)⟩
  | ext φ => obtain ⟨_, q, _⟩ := x; exact q
theorem HOk.keptT {P : Program} {w : World} {H : Hp} {h h' : Heap} (x : HOk P w H h) (k : ∀ b u, H b ≠ none → h.get? b = some u → h'.get? b = some u) : HOk P w H h' := fun a o e =>
  (x a o e).stay (fun b u hb q => k b u (by
    rcases hb with z | z
    · rw [z, e]; exact fun y => nomatch y
    · rw [z]; exact fun y => nomatch y) q) (fun _ q => q) fun _ _ q => q
def CXx (P : Program) (w : World) : CXT := fun outer H s E e s' =>
  ∃ (ea : Addr) (C : Value) (B : Heap) (a0 : Value) (H' : Hp), e = .ref ea ∧ s'.os = s.os ∧ AllBare s'.gens ∧ Un (frs outer) [] H H' s.heap s'.heap ∧ HOk P w H' s'.heap ∧
    Heap.FlyingW B outer ea C a0 s'.heap ∧ (∀ b, H' b ≠ none → ∃ o, B.get? b = some o) ∧ (∀ b o, s.heap.get? b = some o → b ∉ frs outer → ∃ o', B.get? b = some o') ∧ E C none H'
structure Body (X : Cx) (E : XK) : Prop where
  ex : X.ex = []
  stk : X.stack = X.env :: X.outer
  fr : X.env.frame = some X.env.locals
  xe : ∀ e s', wpAny (model X.prog X.w) X.A (leaving X.env e) (fun _ s'' => CXx X.prog X.w X.outer X.H₀ X.s₀ E e s'') (fun e' s'' => CXx X.prog X.w X.outer X.H₀ X.s₀ E e' s'') s' → X.xe e s'
section
variable {X : Cx} {E : XK} {pins : List (Addr × Obj)} {σ : St} {H : Hp} {s : Shared}
theorem Body.frs (b : Body X E) : frs X.stack = X.env.locals :: X.fs := by
  show L2.frs X.stack = _
  unfold L2.frs
  rw [b.stk, List.filterMap_cons, b.fr]
  rfl
theorem Body.old (b : Body X E) (I : Inv X pins σ H s) {c : Addr} {o : Obj} (q : X.s₀.heap.get? c = some o) (n : c ∉ X.fs) : c ∉ L2.frs X.stack := by
  rw [b.frs]
  intro m
  rcases List.mem_cons.mp m with z | z
  · exact absurd (Nat.lt_of_lt_of_le (Heap.lt_size q) I.ok.above) (by rw [z]; exact Nat.lt_irrefl _)
  · exact n z
theorem Body.out {H' : Hp} {s' : Shared} {h2 B : Heap} {ea : Addr} {C a0 : Value} (b : Body X E) (I : Inv X pins σ H' s')
    (fl : Heap.FlyingW B X.outer ea C a0 h2) (us : ∀ c ∈ L2.frs X.stack, ∀ o, s'.heap.get? c = some o → (∀ vs, o.data ≠ .fields vs) → ∃ sl, h2.get? c = some { o with slots := sl })
    (kB : ∀ c o, s'.heap.get? c = some o → (∃ o', B.get? c = some o') → h2.get? c = some o)
    (trk : ∀ c, H' c ≠ none → ∃ o, B.get? c = some o) (old : ∀ c o, X.s₀.heap.get? c = some o → c ∉ L2.frs X.stack → ∃ o', B.get? c = some o') (h : E C none H') :
    CXx X.prog X.w X.outer X.H₀ X.s₀ E (.ref ea) { s' with heap := h2 } := by
  have noex : ∀ c : Addr, c ∉ X.ex := fun c z => by rw [b.ex] at z; exact absurd z (by simp)
  refine ⟨ea, C, B, a0, H', rfl, I.os, I.bare, ⟨fun c o q n hc _ => ?_, fun c o q n hc _ => ?_, fun c o q n _ => I.base.free c o q n (noex c), fun c o q _ => ?_, I.base.tups, I.base.frzs, I.base.tbls⟩,
    I.hok.keptT fun c u n q => kB c u q (trk c n), fl, trk, fun c o q n => old c o q (b.old I q n), h⟩
  · exact kB c o (I.base.keep c o q n hc (noex c)) (old c o q (b.old I q hc))
  · obtain ⟨sl, e1⟩ := I.base.slot c o q n hc (noex c)
    obtain ⟨_, o', ho', nf⟩ := I.funs.mem hc
    rw [e1] at ho'
    have ho' := Option.some.inj ho'
    obtain ⟨sl', e2⟩ := us c (by rw [b.frs]; exact List.mem_cons_of_mem _ hc) _ e1 (by rw [ho']; exact nf)
    exact ⟨sl', e2⟩
  · obtain ⟨o', e1⟩ := I.base.there c o q (noex c)
    by_cases hm : c ∈ L2.frs X.stack
    · obtain ⟨_, o2, ho2, nf⟩ := I.stack.mem hm
      rw [e1] at ho2
      have ho2 := Option.some.inj ho2
      obtain ⟨sl', e2⟩ := us c hm _ e1 (by rw [ho2]; exact nf)
      exact ⟨_, e2⟩
    · exact ⟨o', kB c o' e1 (old c o q hm)⟩
theorem Body.raised {e : Addr} {C : Value} {args : List Value} {h' : Heap} (b : Body X E) (I : Inv X pins σ H s) (hx : Heap.MadeExcOf s.heap h' e C args) (h : E C none H) : X.xe (.ref e) { s with heap := h' } := by
  refine b.xe _ _ ?_
  have hF := PySem.W.funFrames_hide (as := L2.frs X.stack) I.stack fun env he a ha => List.mem_filterMap.mpr ⟨env, he, ha⟩
  rw [b.stk] at hF
  have kB : ∀ c o, s.heap.get? c = some o → c ∉ L2.frs X.stack → (PySem.W.hideAll s.heap (L2.frs X.stack)).get? c = some o := fun c o q n => PySem.W.hideAll_get _ q n
  refine wpAny_leaves_madeW (h := s.heap) (I.ok.frames.trans (congrArg some b.stk)) b.fr (fun c o q => PySem.W.of_hideAll (L2.frs X.stack) q) (by rw [b.stk]; exact hF) hx fun h2 t fl _ _ us => ?_
  refine b.out (s' := s) I fl (fun c _ o q nf => us c o (hx.keeps c o q) nf) (fun c o q z => ?_) (fun c n => ?_) (fun c o q n => ?_) h
  · obtain ⟨o', z⟩ := z
    have e1 := PySem.W.of_hideAll (L2.frs X.stack) z
    rw [q] at e1
    cases e1
    exact fl.1 c o z
  · cases q : H c with
    | none => exact absurd q n
    | some u =>
      obtain ⟨o, e1⟩ := (I.hok c u q).there
      exact ⟨o, kB c o e1 fun m => n (I.stkFree c m)⟩
  · obtain ⟨o', e1⟩ := I.base.there c o q (by rw [b.ex]; simp)
    exact ⟨o', kB c o' e1 n⟩
theorem Body.pass {E' : XK} (b : Body X E) (hE : ∀ C d H, E' C d H → E C d H) : Passes (CXx X.prog X.w) X E' := by
  intro pins σ H s e s' I h
  obtain ⟨ea, C, B, a0, H', rfl, os, bare, un, hok, fl, trk, old, q⟩ := h
  have I' : Inv X pins σ H' s' := I.call' (ch := []) os un hok bare (fun b z => absurd z (by simp))
  refine b.xe _ _ ?_
  rw [b.stk] at fl
  refine wpAny_leaves_onW (I.ok.frames.trans (congrArg some b.stk)) b.fr fl fun h2 fl2 us => ?_
  refine b.out I' fl2 (fun c _ o q nf => us c o q nf) (fun c o q z => ?_) trk (fun c o q n => ?_) (hE _ _ _ q)
  · obtain ⟨o', z⟩ := z
    have e1 := fl.1 c o' z
    rw [q] at e1
    cases e1
    exact fl2.1 c o z
  · obtain ⟨o', e1⟩ := I.base.there c o q (by rw [b.ex]; simp)
    exact old c o' e1 n
theorem Body.pass_ (b : Body X E) : Passes (CXx X.prog X.w) X E := b.pass fun _ _ _ h => h
end
theorem pass0x {X : Cx} {P : Program} {w : World} : Passes (CXx P w) X E0 := fun _ _ _ _ _ _ _ h => by
  obtain ⟨_, _, _, _, _, _, _, _, _, _, _, _, _, q⟩ := h
  exact q.elim
section
variable {P : Program} {w : World} {K : PySem.W.Frag} {mg : Str → Option Value} {base : Heap}
theorem body_of {N : List Str} {qual : Str} {scope : Scope} {f : Addr} {cd : Value} {A : Around} {outer : List Env} {s : Shared} {H : Hp} {E : XK} :
    Body (cxOf (CXx P w) P w K mg base N qual scope f cd A outer s H E) E := ⟨rfl, rfl, rfl, fun _ _ h => h⟩
theorem Fun.okX {x qual : Str} {st : Stmt} {f : Addr} {fd : FuncData} {N ps : List Str} {k : Nat} {sp : Sp} (F : Fun K x qual st f fd) (S : FnScope N ps (defScope st)) (len : ∀ vs H Q E, sp vs H Q E → vs.length = ps.length)
    (hbody : ∀ (X : Cx) (cdv : Value) (A : Around) (outer : List Env) (s : Shared) (H : Hp) (vs : List V) (Q : VK) (E : XK), X = cxOf (CXx P w) P w K mg base N qual (defScope st) f cdv A outer s H E → Body X E → Room k X.A → sp vs H Q E →
      ∃ t, PSs X (defBody st) t ∧ t { nx := fun _ H' => Q .non H', rt := Q } (start N vs) H) : FnOk P w K mg base (CXx P w) (k + 1) f fd ps sp := by
  obtain ⟨oc, od, kV, doc, pm, an, cdv, ct, osl, rfl, lk, hcd⟩ := F.ex
  exact fn_of lk hcd S len fun A outer s H vs Q E hr hsp => hbody _ cdv A outer s H vs Q E rfl body_of hr hsp
end
end L2
namespace L2
open PySem PySem.Spec PyProof.Rows
structure Exc (K : PySem.W.Frag) (C : Addr) : Prop where
  is : PySem.W.excIn K C [.type "ValueError", .type "Exception", .type "BaseException", .type "object"] "ValueError.__new__" = true
theorem exc_obj {K : PySem.W.Frag} {h : Heap} {C : Addr} {bmB : List Value} {newId : String} (X : K.In h) (q : PySem.W.excIn K C bmB newId = true) :
    ∃ bm N nm qn bs hdct sn sub ab col dd k0 k1 k2 k3 k5 mN, h.get? C = some (excClassObj nm qn C N bs bm hdct sn sub ab col dd k0 k1 k2 k3 k5 newId) ∧ h.Ns N mN ∧ mN "__init__" = none ∧ OwnTail h bmB bm := by
  unfold PySem.W.excIn at q
  split at q
  case h_2 => cases q
  case h_1 dd cd sl ho =>
    split at q
    case h_2 => cases q
    case h_1 C1 bm k0 k1 k2 k3 n1 k5 hm hs =>
      rw [Bool.and_eq_true, Bool.and_eq_true, Bool.and_eq_true, Bool.and_eq_true, Bool.and_eq_true] at q
      obtain ⟨⟨⟨⟨⟨z1, z2⟩, z3⟩, z4⟩, z5⟩, z6⟩ := q
      have z1 := beq_iff_eq.mp z1
      have z2 := beq_iff_eq.mp z2
      have z6 := beq_iff_eq.mp z6
      subst z1 z2
      obtain ⟨nm, bs, mro, ns, qn, hd, sn, sub, ab, col, del⟩ := cd
      have hm' : mro = .ref C1 :: bm := hm
      have z3' : del = false := by
        have y : (!del) = true := z3
        cases del
        · rfl
        · cases y
      clear hm z3
      subst hm'
      subst z3'
      obtain ⟨l⟩ := sl
      have hs : l = _ := hs
      subst hs
      refine ⟨bm, ns, nm, qn, bs, hd, sn, sub, ab, col, dd, k0, k1, k2, k3, k5, h.nsMap ns, X _ _ ho, .of_isNs (PySem.W.isNs_of_in X z5), PySem.W.nsMap_none_of_in X z5 z6, PySem.W.tail_of_in X z4⟩
def tRaise (C : Addr) (E : XK) (t : TA) : TS := fun _ σ H => t σ H fun vs H1 => vs.length ≤ sizeLine ∧ E (.ref C) none H1
theorem ps_raise {X : Cx} {E : XK} {x : Str} {np cpos pos : Pos} {e₀ : Expr} {es : List Expr} {t : TA} {C : Addr} (b : Body X E) (hc : X.calm = true) (hg : Gl X x) (hm : X.mg x = some (.ref C)) (hx : Exc X.K C) (ha : PA X (e₀ :: es) t)
    (hdb : (x == ("__debug__" : Str)) = false := by decide) (he : starEach (e₀ :: es) X.env = (false, eval e₀ X.env) :: starEach es X.env := by rfl) (hpl : (backTo cpos (starEach es X.env)).any (·.1) = false := by rfl) :
    PS X (.Raise (some (.Call (.Name x np) (e₀ :: es) [] cpos)) none pos) (tRaise C E t) := by
  intro pins s σ H D I h
  obtain ⟨bm, N, nm, qn, bs, hdct, sn, sub, ab, col, dd, k0, k1, k2, k3, k5, mN, hC, hN, hni, T⟩ := exc_obj I.ok.mod.kin hx.is
  have hA := ha cpos pins s σ H _ I h
  have hp : (backTo cpos (starEach (e₀ :: es) X.env)).any (·.1) = false := by
    rw [he]
    exact hpl
  refine wpAny_Raise_call_subT (C := C) (nm := nm) (q := qn) (N := N) (bs := bs) (bm := bm) (hdct := hdct) (sn := sn) (sub := sub) (ab := ab) (col := col) (dd := dd) (k0 := k0) (k1 := k1) (k2 := k2) (k3 := k3) (k5 := k5)
    PySem.F.excBase_ValueError (mN := mN) (T.hasType PySem.F.excBase_ValueError.hasBase) (I.ok.hd hc) hp hni (ld_glob I hg hm ⟨rfl, ?_⟩ hdb)
  rw [he] at hA ⊢
  refine Calls.evalArgs_plain (thn hA fun us s2 ⟨vs, H1, I1, r, z, q⟩ => ?_)
  exact ⟨rfl, by rw [← r.length]; exact z, I1.bk _ _ hC, hN.keeps I1.bk, T.keeps I1.bk, fun h' e hx => b.raised I1 hx q⟩
structure Aloft (X : Cx) (pins : List (Addr × Obj)) (H : Hp) (B : Heap) : Prop where
  trk : ∀ b, H b ≠ none → ∃ o, B.get? b = some o
  pin : ∀ p ∈ X.pn ++ pins, ∃ o, B.get? p.1 = some o
  old : ∀ b o, X.s₀.heap.get? b = some o → b ∉ L2.frs X.stack → ∃ o', B.get? b = some o'
theorem Inv.upto {X : Cx} {E : XK} {pins : List (Addr × Obj)} {σ : St} {H : Hp} {s : Shared} {B h2 : Heap} {t' : Nat} (b : Body X E) (I : Inv X pins σ H s) (al : Aloft X pins H B) (st : B.StaysIn s.heap) (st2 : B.StaysIn h2) (us : s.heap.UpToSlots h2) :
    Inv X pins σ H { s with heap := h2, toks := t' } := by
  have noex : ∀ c : Addr, c ∉ X.ex := fun c z => by rw [b.ex] at z; exact absurd z (by simp)
  have kB : ∀ c o, s.heap.get? c = some o → (∃ o', B.get? c = some o') → h2.get? c = some o := fun c o q ⟨o', z⟩ => by
    have e1 := st c o' z
    rw [q] at e1
    cases e1
    exact st2 c o z
  have cl : ∀ c v, s.heap.IsCell c v → h2.IsCell c v := fun c v ⟨o, ho, hd⟩ => by
    obtain ⟨sl, e⟩ := us c o ho fun vs z => by rw [hd] at z; cases z
    exact ⟨_, e, hd⟩
  refine ⟨I.ok, I.os, I.bare, ⟨fun c o q n hc hx => ?_, fun c o q n hc hx => ?_, I.base.free, fun c o q hx => ?_, I.base.tups, I.base.frzs, I.base.tbls⟩, ?_, fun x c e => ?_, I.free, I.freeC, fun p hp => ?_, I.hok.keptT fun c u n q => kB c u q (al.trk c n), I.len⟩
  · exact kB c o (I.base.keep c o q n hc hx) (al.old c o q (b.old I q hc))
  · obtain ⟨sl, e1⟩ := I.base.slot c o q n hc hx
    obtain ⟨_, o', ho', nf⟩ := I.funs.mem hc
    rw [e1] at ho'
    have ho' := Option.some.inj ho'
    obtain ⟨sl', e2⟩ := us c _ e1 (by rw [ho']; exact nf)
    exact ⟨sl', e2⟩
  · obtain ⟨o', e1⟩ := I.base.there c o q hx
    by_cases hm : c ∈ L2.frs X.stack
    · obtain ⟨_, o2, ho2, nf⟩ := I.stack.mem hm
      rw [e1] at ho2
      have ho2 := Option.some.inj ho2
      obtain ⟨sl', e2⟩ := us c _ e1 (by rw [ho2]; exact nf)
      exact ⟨_, e2⟩
    · exact ⟨o', kB c o' e1 (al.old c o q hm)⟩
  · obtain ⟨m, hn, hl⟩ := I.loc
    refine ⟨m, us.ns hn, fun i x v e1 e2 e3 => ?_⟩
    obtain ⟨u, r, l⟩ := hl i x v e1 e2 e3
    refine ⟨u, r, ?_⟩
    rcases l with l | ⟨k, c, e, z⟩
    · exact .inl l
    · exact .inr ⟨k, c, e, cl c _ z⟩
  · obtain ⟨v, z⟩ := I.cell x c e
    exact ⟨v, cl c v z⟩
  · obtain ⟨e, n, ne, nf, d⟩ := I.pin p hp
    exact ⟨kB p.1 p.2 e (al.pin p hp), n, ne, nf, d⟩
section
variable {X : Cx} {E EB : XK} {pins ps : List (Addr × Obj)} {σ : St} {H : Hp} {s : Shared} {e : Value}
end
section
variable {X : Cx} {E : XK} {pins : List (Addr × Obj)} {σ : St} {H : Hp} {s : Shared}
theorem HOk.adopt {P : Program} {w : World} {H : Hp} {h : Heap} {a : Addr} {o : HO} (x : HOk P w H h) (hn : H a = none) (new : ObjOk P w (upd H a o) h a o) : HOk P w (upd H a o) h := fun b u e => by
  by_cases hb : b = a
  · subst hb
    rw [upd_same] at e
    cases e
    exact new
  · rw [upd_ne hb] at e
    exact (x b u e).stay (fun _ _ _ q => q) (fun c q => by rw [upd_ne (ne_of_none q hn)]; exact q) fun c xs q => by rw [upd_ne (ne_of_none q hn)]; exact q
end
end L2
namespace L2
open PySem PySem.Spec PyProof.Rows
theorem comp_loop {prog : Program} {w : World} {A : Around} {R : Result → Shared → Prop} {s : Shared} {elt target iter : Expr} {ifs : List Expr} {scope : Scope} {pos : Pos} {it acc : Value} {env : Env} (I : Nat → Shared → Prop)
    (turn : ∀ n s, I n s → wpAny (model prog w) A (pyNext it) (fun r s₁ => match r with
      | none => R (.ok .next) s₁
      | some v => wpAny (model prog w) A (letOwnedTupleGo target it v) (fun _ s₂ => wpAny (model prog w) A (assign target env v) (fun _ s₃ =>
          wpAny (model prog w) A (forIn ifs true fun c r => if r = true then do let ok ← isTrue c env (eval c env); pure (ForInStep.yield ok) else pure (ForInStep.yield r)) (fun ok s₄ =>
            if ok = true then wpAny (model prog w) A (eval elt env) (fun x s₅ => wpAny (model prog w) A (call (.builtin "list.append") [acc, x]) (fun _ s₆ => ∃ m, m < n ∧ I m s₆) (fun _ _ => False) s₅) (fun _ _ => False) s₄
            else ∃ m, m < n ∧ I m s₄) (fun _ _ => False) s₃) (fun _ _ => False) s₂) (fun _ _ => False) s₁) (fun _ _ => False) s)
    (n : Nat) (h : I n s) : codeAny (model prog w) A (.compLoop (.ListComp elt [⟨target, iter, ifs, 0⟩] scope pos) 0 it acc env) R s := by
  refine codeAny_loop rfl I (fun n s hI => ?_) n h
  show wpAny _ A ((compTurn (.ListComp elt [⟨target, iter, ifs, 0⟩] scope pos) 0 it acc env).onRaise (fun x => do noteFrame x env; theTreesLotGoes x)) _ _ s
  refine wpAny_noted (wpAny_noRaise ?_)
  rw [compTurn_list]
  refine wpAny_bind (wpAny_standAt (wpAny_bind (thn (turn n s hI) fun r s₁ h₁ => ?_)))
  cases r with
  | none => exact wpAny_pure h₁
  | some v =>
    refine wpAny_bind (thn h₁ fun _ s₂ h₂ => wpAny_bind (thn h₂ fun _ s₃ h₃ => wpAny_bind (thn h₃ fun ok s₄ h₄ => ?_)))
    cases ok with
    | false => exact wpAny_pure ⟨rfl, h₄⟩
    | true => exact wpAny_bind (wpAny_bind (thn h₄ fun x s₅ h₅ => wpAny_bind (thn h₅ fun _ s₆ h₆ => wpAny_pure (wpAny_pure ⟨rfl, h₆⟩))))
def PIfs (X : Cx) (ifs : List Expr) (t : TT) : Prop :=
  ∀ (pins : List (Addr × Obj)) (s : Shared) (σ : St) (H : Hp) (Q : Bool → Hp → Prop), Inv X pins σ H s → t σ H Q →
    wpAny (model X.prog X.w) X.A (forIn ifs true fun c r => if r = true then do let ok ← isTrue c X.env (eval c X.env); pure (ForInStep.yield ok) else pure (ForInStep.yield r)) (TP X pins σ Q) X.xe s
def tYes : TT := fun _ H Q => Q true H
theorem pifs_nil {X : Cx} : PIfs X [] tYes := fun pins s σ H Q I h => wpAny_tests_nil ⟨H, I, h⟩
def compCx (X : Cx) (scope : Scope) (cl : List (Str × Addr)) (Nc : List Str) (C : Addr) (fp : List Addr) (pins : List (Addr × Obj)) (s3 : Shared) (H3 : Hp) : Cx :=
  { X with N := Nc, s₀ := s3, H₀ := H3, env := compEnvC scope cl C X.env, outer := X.stack, ex := fp, fn := fun x => !(cl.lookup x).isSome, pn := X.pn ++ pins, xe := fun _ _ => False }
structure CompOk (X : Cx) (scope : Scope) (cl : List (Str × Addr)) (x : Str) (fn : List Str) (fv : List Nat) : Prop where
  kind : scope.kind = .function
  ncell : ∀ y ∈ scope.names, y.2 ≠ .cell
  names : ∀ y ∈ scope.names, y.2 = .local → scope.names.lookup y.1 = some .local
  tgt : scope.names.lookup x = some .local
  clos : closureFor scope X.env = pure cl
  cells : ∀ y c, cl.lookup y = some c → X.env.cells.lookup y = some c
  free : ∀ y, ((relabel scope X.env).names.lookup y = some .cell ∨ (relabel scope X.env).names.lookup y = some .free) → ∃ c, cl.lookup y = some c
  slots : ∀ (j : Nat) (y : Str), fn[j]? = some y → ∃ k, fv[j]? = some k ∧ X.N[k]? = some y ∧ Vis X.env.scope y ∧ X.env.kindOf y = some .cell ∧ (relabel scope X.env).names.lookup y = some .cell
  nd : (x :: fn).Nodup
  len : fv.length = fn.length
section
variable {X : Cx} {elt iter : Expr} {x : Str} {px pos : Pos} {ifs : List Expr} {scope : Scope} {cl : List (Str × Addr)} {fn : List Str} {fv : List Nat} {wi : TI} {tt : TT} {te : TE} {pins : List (Addr × Obj)} {σ : St} {H : Hp} {s : Shared}
end
end L2
namespace L2
open PySem PySem.Spec PyProof.Rows
theorem Vals.getE {xs : List V} {us : List Value} (r : Vals xs us) {m : Nat} (hm : m < us.length) : ∃ y, xs[m]? = some y ∧ RelV y us[m] := by
  have hl := r.length
  cases e : xs[m]? with
  | none => exact absurd (List.getElem?_eq_none_iff.mp e) (by omega)
  | some y =>
    obtain ⟨u, hu, ru⟩ := r.get e
    rw [List.getElem?_eq_getElem hm] at hu
    cases hu
    exact ⟨y, rfl, ru⟩
section
variable {X : Cx}
def kitPure (T U : String) : Option Bool := if (Value.type T == Value.type U) = true then some true else if PySem.W.kitMeta U = true then (fastBuiltinMro T).map (·.contains (.type U)) else none
theorem kit_pure {K : PySem.W.Frag} {T U : String} {b : Bool} (h : kitPure T U = some b) : PySem.W.kitOne K (.type T) (.type U) = some b := h
def clsV : V → Option Value
  | .ty T => some (.type T)
  | .ref D => some (.ref D)
  | _ => none
theorem clsV_rel {c : V} {u cv : Value} (r : RelV c u) (h : clsV c = some cv) : u = cv := by
  cases c with
  | ty T => cases (show u = Value.type T from r); exact Option.some.inj h
  | ref D => cases (show u = Value.ref D from r); exact Option.some.inj h
  | _ => cases h
theorem call_isinst : CallR X (.builtin "isinstance") (fun xs H Q => ∃ x c t cv b, xs = [x, c] ∧ TyOf X.K H x t ∧ clsV c = some cv ∧ PySem.W.kitOne X.K t cv = some b ∧ Q (.bl b) H) := by
  intro pins s σ H xs us Q I r h
  obtain ⟨x, c, t, cv, b, rfl, ty, hc, hk, q⟩ := h
  obtain ⟨u, w', rfl, rx, rc⟩ := vals2 r
  cases clsV_rel rc hc
  exact isinst_ok I rx ty hk fun tk => ⟨.bl b, H, I.tok tk, rfl, q⟩
end
end L2
namespace L2
open PySem PySem.Spec PyProof.Rows
def EqV (X : Cx) (A : Around) (H : Hp) (x y : V) (b : Bool) : Prop := ∀ (pins : List (Addr × Obj)) (σ : St) (s : Shared) (u v : Value), Inv X pins σ H s → RelV x u → RelV y v → SeqAt.EqAt A s u v b
theorem EqV.flat {X : Cx} {A : Around} {H : Hp} {x y : V} (fx : flatV x = true) (fy : flatV y = true) : EqV X A H x y (eqV x y) := fun _ _ _ _ _ _ rx ry => eqAt_V rx ry fx fy
section
variable {X : Cx} {A : Around} {H : Hp} {a b : Addr} {xs ys : List V} {e : Nat → Bool}
theorem EqV.tup (hu : A.units < cLine) (ha : SqT X.K H a xs) (hb : SqT X.K H b ys) (he : ∀ (j : Nat) x y, xs[j]? = some x → ys[j]? = some y → EqV X A.in1 H x y (e j))
    (hr : a = b → ((List.range (min xs.length ys.length)).all e && xs.length == ys.length) = true) : EqV X A H (.ref a) (.ref b) ((List.range (min xs.length ys.length)).all e && xs.length == ys.length) := by
  intro pins σ s u v I rx ry
  cases rx
  cases ry
  by_cases ab : a = b
  · rw [hr ab, ab]
    exact SeqAt.EqAt.same _
  · obtain ⟨its, r1, p1, _⟩ := I.tuple ha
    obtain ⟨its2, r2, p2, _⟩ := I.tuple hb
    refine SeqAt.EqAt.of_refs ab ?_
    have z := SeqAt.RcAt.tuples (e := e) p1 p2 hu fun j h1 h2 => by
      have l1 : j < its.length := by simpa using h1
      have l2 : j < its2.length := by simpa using h2
      obtain ⟨x, hx, rx⟩ := r1.getE l1
      obtain ⟨y, hy, ry⟩ := r2.getE l2
      rw [show its.toArray[j] = its[j] by simp, show its2.toArray[j] = its2[j] by simp]
      exact he j x y hx hy pins σ s _ _ I rx ry
    rw [List.size_toArray, List.size_toArray, ← r1.length, ← r2.length] at z
    exact z
theorem RcV.lst {pins : List (Addr × Obj)} {σ : St} {s : Shared} (I : Inv X pins σ H s) (hu : A.units < cLine) (ha : SqL X.K H a xs) (hb : SqL X.K H b ys) (he : xs.length = ys.length → ∀ (j : Nat) x y, xs[j]? = some x → ys[j]? = some y → EqV X A.in1 H x y (e j)) :
    SeqAt.RcAt A s (.ref a) (.ref b) (xs.length == ys.length && (List.range xs.length).all e) := by
  obtain ⟨its, r1, p1, _⟩ := I.list ha
  obtain ⟨its2, r2, p2, _⟩ := I.list hb
  have l1 := r1.length
  have l2 := r2.length
  by_cases hl : xs.length = ys.length
  · have z := SeqAt.RcAt.lists (e := e) p1.isList p2.isList (by rw [List.size_toArray, List.size_toArray]; omega) hu fun j h1 h2 => by
      have m1 : j < its.length := by simpa using h1
      have m2 : j < its2.length := by simpa using h2
      obtain ⟨x, hx, rx⟩ := r1.getE m1
      obtain ⟨y, hy, ry⟩ := r2.getE m2
      rw [show its.toArray[j] = its[j] by simp, show its2.toArray[j] = its2[j] by simp]
      exact he hl j x y hx hy pins σ s _ _ I rx ry
    rw [List.size_toArray, ← l1] at z
    rw [show (xs.length == ys.length) = true by simp [hl], Bool.true_and]
    exact z
  · rw [show (xs.length == ys.length) = false by simp [hl], Bool.false_and]
    exact SeqAt.RcAt.lists_lengths p1.isList p2.isList (by rw [List.size_toArray, List.size_toArray, ← l1, ← l2]; simp [hl]) hu
theorem EqV.lst (hu : A.units < cLine) (ha : SqL X.K H a xs) (hb : SqL X.K H b ys) (he : xs.length = ys.length → ∀ (j : Nat) x y, xs[j]? = some x → ys[j]? = some y → EqV X A.in1 H x y (e j))
    (hr : a = b → (xs.length == ys.length && (List.range xs.length).all e) = true) : EqV X A H (.ref a) (.ref b) (xs.length == ys.length && (List.range xs.length).all e) := by
  intro pins σ s u v I rx ry
  cases rx
  cases ry
  by_cases ab : a = b
  · rw [hr ab, ab]
    exact SeqAt.EqAt.same _
  · exact SeqAt.EqAt.of_refs ab (RcV.lst I hu ha hb he)
end
def srt (ns : List Int) : List Int := ns.mergeSort fun a b => decide (a ≤ b)
theorem srt_perm (ns : List Int) : (srt ns).Perm ns := List.mergeSort_perm _ _
theorem srt_rising (ns : List Int) : (srt ns).Pairwise (· ≤ ·) := by
  have h := List.pairwise_mergeSort (le := fun a b : Int => decide (a ≤ b)) (fun a b c h1 h2 => by simp at *; omega) (fun a b => by simp; omega) ns
  exact h.imp fun h => by simpa using h
theorem srt_of {ns ms : List Int} (hp : ms.Perm ns) (hs : ms.Pairwise (· ≤ ·)) : ms = srt ns := PySem.W.ksm_same (hp.trans (srt_perm ns).symm) hs (srt_rising ns)
theorem srt_length (ns : List Int) : (srt ns).length = ns.length := (srt_perm ns).length_eq
section
variable {X : Cx}
theorem call_sortedL : CallR X (.builtin "sorted") (fun xs H Q => ∃ p ns, xs = [.ref p] ∧ SqL X.K H p (ns.map V.int) ∧ ns.length < 64 ∧ ∀ l, H l = none → Q (.ref l) (upd H l (.lst ((srt ns).map V.int)))) := by
  intro pins s σ H xs us Q I r h
  obtain ⟨p, ns, rfl, hq, h64, q⟩ := h
  obtain ⟨u, rfl, ru⟩ := vals1 r
  cases ru
  obtain ⟨its, rv, pl, hz⟩ := I.list hq
  have hl := rv.length
  rw [List.length_map] at hl
  refine sorted_ints pl.isList (intsAre_of rv) (by omega) fun out ns' a1 a2 a3 => ?_
  obtain ⟨e, he⟩ := sortedAll_at s.heap its out
  have es := srt_of a2 a3
  subst es
  have hn : H (s.heap.objs.size + 1) = none := I.hok.fresh (Nat.le_succ _)
  refine ⟨.ref (s.heap.objs.size + 1), _, I.laid (t' := s.toks) (fun b o z => sortedAll_old z) (Nat.le_succ _) ?_, rfl, q _ hn⟩
  refine ⟨by rw [List.length_map, srt_length]; have := sizeLine_eq; omega, out.toList, e, vals_ints a1, ?_⟩
  exact he.trans (by simp [seqObj])
end
end L2
namespace L2
open PySem PySem.Spec PyProof.Rows
section
variable {X : Cx} {pins : List (Addr × Obj)} {σ : St} {H : Hp} {s : Shared} {h' : Heap}
theorem Inv.laidN {a : Addr} {o : HO} {t' : Nat} (I : Inv X pins σ H s) (k : ∀ b u, s.heap.get? b = some u → h'.get? b = some u) (ha : s.heap.get? a = none) (new : ObjOk X.prog X.w (upd H a o) h' a o) : Inv X pins σ (upd H a o) { s with heap := h', toks := t' } := by
  have hn : H a = none := by
    cases q : H a with
    | none => rfl
    | some u =>
      obtain ⟨ob, e⟩ := (I.hok a u q).there
      rw [ha] at e
      cases e
  have ne : ∀ b u, s.heap.get? b = some u → b ≠ a := fun b u e z => by rw [z, ha] at e; cases e
  refine I.un ⟨fun b u q _ _ _ => k b u q, fun b u q _ _ _ => ⟨u.slots, k b u q⟩, fun b u q n _ => ?_, fun b u q _ => ⟨u, k b u q⟩, fun b xs q => ?_, fun b u xs q => ?_, fun b ps q => ⟨#[], ?_⟩⟩ ?_
  · rw [upd_ne (ne b u q)]
    exact n
  · rw [upd_ne (ne_of_none q hn)]
    exact q
  · rw [upd_ne (ne_of_none q hn)]
    exact q
  · rw [upd_ne (ne_of_none q hn), q]
    simp
  · exact (I.hok.kept k).adopt hn new
end
section
variable {X : Cx}
end
end L2
namespace L2
open PySem PySem.Spec PyProof.Rows
def AllFree (cl : List (Str × Addr)) : List (Str × NameKind) → Prop
  | [] => True
  | p :: r => (p.2 = .free → ∃ c, cl.lookup p.1 = some c) ∧ AllFree cl r
theorem AllFree.get {cl : List (Str × Addr)} : ∀ {l : List (Str × NameKind)}, AllFree cl l → ∀ p ∈ l, p.2 = .free → ∃ c, cl.lookup p.1 = some c
  | [], _, _, h, _ => nomatch h
  | p :: r, ⟨h1, h2⟩, q, hq, e => by
    rcases List.mem_cons.mp hq with z | z
    · rw [z] at e ⊢; exact h1 e
    · exact AllFree.get h2 q z e
theorem relabel_free {scope : Scope} {env : Env} {cl : List (Str × Addr)} (hc : ∀ y ∈ scope.names, y.2 ≠ .cell) (h : AllFree cl scope.names) (y : Str)
    (q : (relabel scope env).names.lookup y = some .cell ∨ (relabel scope env).names.lookup y = some .free) : ∃ c, cl.lookup y = some c := by
  have go : ∀ k, (k = NameKind.cell ∨ k = .free) → (relabel scope env).names.lookup y = some k → ∃ c, cl.lookup y = some c := fun k hk e => by
    have m := PySem.mem_of_lookup e
    obtain ⟨⟨n, k'⟩, hm, he⟩ := List.mem_map.mp m
    dsimp only at he
    split at he
    · rename_i z
      cases he
      rw [Bool.and_eq_true, Bool.and_eq_true] at z
      exact h.get (y, k') hm (beq_iff_eq.mp z.1.1)
    · cases he
      rcases hk with z | z
      · exact absurd z (hc _ hm)
      · exact h.get _ hm z
  rcases q with q | q
  · exact go _ (.inl rfl) q
  · exact go _ (.inr rfl) q
end L2
namespace L2
open PySem PySem.Spec PyProof.Rows
section
variable {X : Cx} {pins : List (Addr × Obj)} {σ : St} {H : Hp} {s : Shared} {h' : Heap}
theorem Inv.turnedL {t' : Nat} {fp : List Addr} {T : Addr} {o : HO} (I : Inv X pins σ H s) (k : ∀ b u, b ∉ fp → s.heap.get? b = some u → h'.get? b = some u) (hf : ∀ b ∈ fp, FpOk X pins H b)
    (hT : s.heap.get? T = none) (new : ObjOk X.prog X.w (upd H T o) h' T o) : Inv X pins σ (upd H T o) { s with heap := h', toks := t' } := by
  have nit : ∀ b u, H b = some u → b ∉ fp := fun b u e z => by rw [(hf b z).1] at e; cases e
  have hn : H T = none := by
    cases q : H T with
    | none => rfl
    | some u =>
      obtain ⟨ob, e⟩ := (I.hok T u q).there
      rw [hT] at e
      cases e
  have ne : ∀ b u, s.heap.get? b = some u → b ≠ T := fun b u e z => by rw [z, hT] at e; cases e
  have ok1 : HOk X.prog X.w H h' := fun b u e => (I.hok b u e).stay (fun c v hc q => k c v (by
    rcases hc with z | z
    · rw [z]; exact nit b u e
    · exact nit c _ z) q) (fun _ q => q) fun _ _ q => q
  refine I.step (g' := s.gens) (d' := s.drawn) (ch := fp) (fun b hb => ?_) (fun b o _ _ hc e _ => k b o hc e) (fun b o _ _ hc e _ => ⟨o.slots, k b o hc e⟩) (fun b u _ e n => ?_)
    (fun b o hc e => ⟨o, k b o hc e⟩) (fun b xs e => ?_) (fun b u xs e => ?_) (fun b ps e => ⟨#[], ?_⟩) (fun m hm => ?_) (ok1.adopt hn new) I.bare
  · obtain ⟨f0, f1, f2, f3, f4, f5⟩ := hf b hb
    exact ⟨f3, f1, f4, f5⟩
  · rw [upd_ne (ne b u e)]
    exact n
  · rw [upd_ne (ne_of_none e hn)]
    exact e
  · rw [upd_ne (ne_of_none e hn)]
    exact e
  · rw [upd_ne (ne_of_none e hn), e]
    simp
  · obtain ⟨o, es, ep, ho, r⟩ := hm
    exact ⟨o, es, ep, k _ o (fun z => (hf _ z).2.1 rfl) ho, r⟩
theorem Inv.turnedN {t' : Nat} {fp : List Addr} (I : Inv X pins σ H s) (k : ∀ b u, b ∉ fp → s.heap.get? b = some u → h'.get? b = some u) (hf : ∀ b ∈ fp, FpOk X pins H b) : Inv X pins σ H { s with heap := h', toks := t' } := by
  have nit : ∀ b u, H b = some u → b ∉ fp := fun b u e z => by rw [(hf b z).1] at e; cases e
  refine I.step (g' := s.gens) (d' := s.drawn) (ch := fp) (fun b hb => ?_) (fun b o _ _ hc e _ => k b o hc e) (fun b o _ _ hc e _ => ⟨o.slots, k b o hc e⟩) (fun _ _ _ _ n => n)
    (fun b o hc e => ⟨o, k b o hc e⟩) (fun _ _ e => e) (fun _ _ _ e => e) (fun b ps e => ⟨#[], by rw [e]; simp⟩) (fun m hm => ?_) (fun b u e => ?_) I.bare
  · obtain ⟨f0, f1, f2, f3, f4, f5⟩ := hf b hb
    exact ⟨f3, f1, f4, f5⟩
  · obtain ⟨o, es, ep, ho, r⟩ := hm
    exact ⟨o, es, ep, k _ o (fun z => (hf _ z).2.1 rfl) ho, r⟩
  · refine (I.hok b u e).stay (fun c v hc q => k c v ?_ q) (fun _ q => q) fun _ _ q => q
    rcases hc with z | z
    · rw [z]; exact nit b u e
    · exact nit c _ z
end
section
variable {X : Cx} {elts : List Expr} {x1 : Nat} {tpos : Pos}
end
end L2
namespace L2
open PySem PySem.Spec PyProof.Rows
def Ite (K : PySem.W.Frag) (l : Addr) : It :=
  ⟨fun i H => ∃ xs x, SqL K H l xs ∧ xs[i]? = some x,
   fun i H v H' => ∃ T x, v = .ref T ∧ H T = none ∧ H' = upd H T (.tup [.int (i : Nat), x]) ∧ ∀ xs, SqL K H l xs → xs[i]? = some x,
   fun i H => ∃ xs, SqL K H l xs ∧ xs.length ≤ i⟩
theorem turn_enum {P : Program} {w : World} {K : PySem.W.Frag} {elts : List Expr} {x1 : Nat} {pos : Pos} (e it l : Addr) (hei : e ≠ it) :
    Turn P w K (.Tuple elts x1 pos) (Ite K l) [e, it] e (fun i h => (∃ old, IsEnum h e it ((i : Nat) : Int) old) ∧ h.IsListIter it l i) where
  mem := by simp
  obj := fun i h st b hb => by
    obtain ⟨⟨old, h1⟩, ⟨o2, e2, c2, d2⟩⟩ := st
    simp only [List.mem_cons, List.not_mem_nil, or_false] at hb
    rcases hb with rfl | rfl
    · exact ⟨_, h1, fun v q => by cases q⟩
    · exact ⟨_, e2, fun v q => by rw [d2] at q; cases q⟩
  keep := fun i h h' st k => by
    obtain ⟨⟨old, h1⟩, h2⟩ := st
    exact ⟨⟨old, k e (by simp) _ h1⟩, h2.at fun o q => k it (by simp) o q⟩
  item := by
    intro X hP hw hK hc i pins s σ H E I hf st hg
    subst hP hw hK
    obtain ⟨xs, x, hq, hx⟩ := hg
    obtain ⟨its, rv, p, hz⟩ := I.list hq
    obtain ⟨u, hu, ru⟩ := rv.get hx
    obtain ⟨⟨old, s1⟩, s2⟩ := st
    refine wpAny_pyNext_enum_item s1 s2 p.isList (x := u) (by simpa using hu) hei fun h' a1 a2 a3 a4 hk => ⟨_, rfl, ?_⟩
    have lt : ∀ {c o}, s.heap.get? c = some o → s.heap.objs.size ≠ c := fun q => Nat.ne_of_gt (Heap.lt_size q)
    refine wpAny_letOwnedTupleGo_enum (s := { s with heap := h', toks := s.toks + 1 }) a1 fun h2 he' hs' => ?_
    have T2 : h2.get? s.heap.objs.size = some { cls := .type "tuple", data := .seq #[.int i s.toks, u] } := hs'.extBut _ _ (lt s1) a3
    have k2 : ∀ b o, b ∉ [e, it] → s.heap.get? b = some o → h2.get? b = some o := fun b o hb q => by
      simp only [List.mem_cons, List.not_mem_nil, or_false, not_or] at hb
      exact hs'.extBut _ _ hb.1 (hk b o hb.1 hb.2 q)
    have hn : H s.heap.objs.size = none := I.hok.fresh (Nat.le_refl _)
    refine ⟨.ref s.heap.objs.size, upd H s.heap.objs.size (.tup [.int (i : Nat), x]), I.turnedL (t' := s.toks + 1) k2 hf (Heap.get?_none_of_le (Nat.le_refl _))
      ⟨by show 2 ≤ sizeLine; rw [sizeLine_eq]; decide, [.int i s.toks, u], .cons ⟨_, rfl⟩ (.cons ru .nil), ⟨_, T2, rfl, _, rfl⟩⟩, rfl, ⟨_, x, rfl, hn, rfl, fun zs hzs => by rw [I.list_inj hzs hq]; exact hx⟩, ?_, fun b hb => ?_⟩
    · refine ⟨⟨u, ?_⟩, a2.extBut hs'.extBut (Ne.symm hei)⟩
      have ec : (((i + 1 : Nat)) : Int) = (i : Int) + 1 := by omega
      rw [ec]
      exact he'
    · have ne : b ≠ s.heap.objs.size := fun q => by
        simp only [List.mem_cons, List.not_mem_nil, or_false] at hb
        obtain ⟨o2, e2, _⟩ := s2
        rcases hb with rfl | rfl
        · exact lt s1 q.symm
        · exact lt e2 q.symm
      rw [upd_ne ne]
      exact (hf b hb).1
  done := by
    intro X hP hw hK hc i pins s σ H E I hf st hg
    subst hP hw hK
    obtain ⟨xs, hq, hx⟩ := hg
    obtain ⟨its, rv, p, hz⟩ := I.list hq
    have l' := rv.length
    obtain ⟨⟨old, s1⟩, s2⟩ := st
    refine wpAny_pyNext_enum_end (I.ok.hd hc) s1 s2 p.isList (by simp; omega) fun h' hk => ⟨rfl, I.turnedN (t' := s.toks) (fun b o hb q => ?_) hf⟩
    simp only [List.mem_cons, List.not_mem_nil, or_false, not_or] at hb
    exact hk b o hb.2 q
  self := fun _ _ _ _ _ st h => wpAny_pyIter_enum st.1.choose_spec h
theorem bt_enum : bootBuiltins "enumerate" = some (.type "enumerate") := by decide +kernel
section
variable {X : Cx} {elts : List Expr} {x1 : Nat} {tpos : Pos}
def iEnum (K : PySem.W.Frag) (ta : TA) : TI := fun σ H R => ta σ H fun vs H1 => ∃ l xs, vs = [.ref l] ∧ SqL K H1 l xs ∧ R (Ite K l) H1
theorem pi_enum {a : Expr} {ta : TA} {p pos : Pos} (hg : Gl X "enumerate") (hm : X.mg "enumerate" = none) (ha : PA X [a] ta) (hs : starEach [a] X.env = [(false, eval a X.env)] := by rfl) :
    PI X (.Tuple elts x1 tpos) (.Call (.Name "enumerate" p) [a] [] pos) (iEnum X.K ta) := by
  intro pins s σ H R I h
  refine Call_ (ld_blt I hg hm bt_enum (PyProof.Rows.callWith_type1 (thn (ha pos pins s σ H _ I h) fun us s1 ⟨vs, H1, I1, r1, q1⟩ => ?_) hs rfl))
  obtain ⟨l, xs, e, hq, q⟩ := q1
  subst e
  cases r1 with
  | cons r rr =>
    cases rr
    cases r
    obtain ⟨its, rv, p, hz⟩ := I1.list hq
    refine call_enumerate_list p.isList fun h' he hi hsz hk => wpAny_pyIter_enum he ?_
    have I2 : Inv X pins σ H1 { s1 with heap := h' } := I1.kept (t' := s1.toks) hk
    refine ⟨_, _, _, _, H1, rfl, I2, turn_enum (s1.heap.objs.size + 1) s1.heap.objs.size l (Nat.succ_ne_self _), ⟨⟨_, he⟩, hi⟩, fun b hb => ?_, q⟩
    have le : s1.heap.objs.size ≤ b := by
      simp only [List.mem_cons, List.not_mem_nil, or_false] at hb
      rcases hb with rfl | rfl
      · exact Nat.le_succ _
      · exact Nat.le_refl _
    exact I1.fpOk le (I1.hok.fresh le)
end
section
variable {X : Cx}
def rngL (n : Nat) : List V := (List.range n).map fun (k : Nat) => V.int ((k : Nat) : Int)
theorem call_rangeV : CallR X (.type "range") (fun xs H Q => ∃ j : Int, xs = [.int j] ∧ ∀ r, H r = none → Q (.ref r) (upd H r (.rng 0 j))) := by
  intro pins s σ H xs us Q I r h
  obtain ⟨j, rfl, q⟩ := h
  obtain ⟨u, rfl, ru⟩ := vals1 r
  obtain ⟨t, rfl⟩ := ru
  refine call_range_1 ?_
  refine ⟨.ref s.heap.objs.size, _, I.laid (fun b o e => Heap.get?_push_of_some _ e) (Nat.le_refl _) ?_, rfl, q _ I.fresh⟩
  exact ⟨_, _, _, Heap.get?_push_size _ rfl⟩
theorem call_list_rng (hc : X.calm = true) : CallR X (.type "list") (fun xs H Q => ∃ (r : Addr) (n : Nat), xs = [.ref r] ∧ H r = some (.rng 0 (n : Nat)) ∧ n ≤ 2 ^ 20 ∧ ∀ l, H l = none → Q (.ref l) (upd H l (.lst (rngL n)))) := by
  intro pins s σ H xs us Q I r h
  obtain ⟨a, n, rfl, hr, hn, q⟩ := h
  obtain ⟨u, rfl, ru⟩ := vals1 r
  cases ru
  obtain ⟨t, u, v, e⟩ := I.hok a _ hr
  have hsz : Builtin.Range.rangeSize 0 (n : Nat) 1 = ((n : Nat) : Int) := by rw [rangeSize_one]; split <;> omega
  refine call_list_range (n := n) (I.ok.hd hc) e (small_one (by omega) (by omega) (by omega) (by omega)) hsz (by omega) fun h' tk acc c hk hS hI => ?_
  have hsl : sizeLine = 16777216 := sizeLine_eq
  refine ⟨.ref s.heap.objs.size, _, I.laid (t' := tk) hk (Nat.le_refl _) (o := .lst (rngL n)) ?_, rfl, q _ I.fresh⟩
  refine ⟨by simp [rngL]; omega, acc.toList, c, ?_, by simpa using hS⟩
  obtain ⟨i1, i2⟩ := hI
  have areInts : ∀ (l : List Value) (ms : List V), l.length = ms.length → (∀ (j : Nat) v, l[j]? = some v → ∃ y, ms[j]? = some y ∧ RelV y v) → Vals ms l := by
    intro l
    induction l with
    | nil =>
      intro ms hl _
      cases ms with
      | nil => exact .nil
      | cons m ms => cases hl
    | cons b l ih =>
      intro ms hl hv
      cases ms with
      | nil => cases hl
      | cons m ms =>
        obtain ⟨m', e1, e2⟩ := hv 0 b rfl
        cases Option.some.inj e1
        exact .cons e2 (ih ms (by simpa using hl) fun j v e => hv (j + 1) v (by simpa using e))
  refine areInts _ _ (by simp [rngL, i1]) fun j v hv => ?_
  have hv' : acc[j]? = some v := by simpa using hv
  obtain ⟨tk', rfl⟩ := i2 j v hv'
  have hj : j < n := by
    have := (Array.getElem?_eq_some_iff.mp hv').1
    rw [i1] at this
    exact this
  refine ⟨.int (j : Nat), by simp [rngL, hj], tk', ?_⟩
  congr 1
  omega
end
end L2
namespace L2
open PySem PySem.Spec PyProof.Rows
theorem kas_asks {α : Type} {n : Nat} {s : Shared} {cmp : Nat → Nat → (Bool → Shared → Prop) → Shared → Prop} (hc : ∀ i j C, i < n → j < n → (∀ b, C b s) → cmp i j C s) {Q : α → Shared → Prop}
    {i j : Nat} {k : Bool → PySem.W.KasT α} (hi : i < n) (hj : j < n) (h : ∀ b, (k b).kasWp cmp Q s) : (PySem.W.KasT.ask i j k).kasWp cmp Q s := hc i j _ hi hj h
section
variable {n : Nat} {s : Shared} {cmp : Nat → Nat → (Bool → Shared → Prop) → Shared → Prop}
def IsP (n : Nat) (p : Array Nat) : Prop := p.toList.Perm (List.range n)
theorem IsP.getD {p : Array Nat} (h : IsP n p) (hn : 0 < n) (i : Nat) : p.getD i 0 < n := by
  unfold Array.getD
  split
  · rename_i hi
    have m : p[i] ∈ p.toList := by simp
    exact List.mem_range.mp (h.mem_iff.mp m)
  · exact hn
theorem IsP.rev {p : Array Nat} (h : IsP n p) (i j : Nat) : IsP n (PySem.W.kas_rev p i j) := (mirror_perm p i j _).toList.trans h
theorem IsP.bub {p : Array Nat} (h : IsP n p) (i j : Nat) : IsP n (bubble p i j) := (bubble_perm p i j).toList.trans h
theorem kas_asc_any (hc : ∀ i j C, i < n → j < n → (∀ b, C b s) → cmp i j C s) (hn : 0 < n) {p : Array Nat} (hp : IsP n p) {Q : Nat → Shared → Prop} (hQ : ∀ m, Q m s) : ∀ f m, (PySem.W.kas_asc p f m).kasWp cmp Q s
  | 0, m => hQ m
  | f + 1, m => kas_asks hc (hp.getD hn _) (hp.getD hn _) fun b => by
    cases b
    · rw [if_neg Bool.false_ne_true]; exact kas_asc_any hc hn hp hQ f (m + 1)
    · rw [if_pos rfl]; exact hQ m
theorem kas_desc_any (hc : ∀ i j C, i < n → j < n → (∀ b, C b s) → cmp i j C s) (hn : 0 < n) {Q : Array Nat × Nat × Nat → Shared → Prop} (hQ : ∀ p m q, IsP n p → Q (p, m, q) s) : ∀ f p m q, IsP n p → (PySem.W.kas_desc f p m q).kasWp cmp Q s
  | 0, p, m, q, hp => hQ p m q hp
  | f + 1, p, m, q, hp => kas_asks hc (hp.getD hn _) (hp.getD hn _) fun b => by
    cases b
    · rw [if_neg Bool.false_ne_true]
      refine kas_asks hc (hp.getD hn _) (hp.getD hn _) fun d => ?_
      cases d
      · rw [if_neg Bool.false_ne_true]; exact kas_desc_any hc hn hQ f p (m + 1) (q + 1) hp
      · rw [if_pos rfl]; exact hQ p m q hp
    · rw [if_pos rfl]
      split
      · exact kas_desc_any hc hn hQ f _ (m + 1) 0 (hp.rev _ _)
      · exact kas_desc_any hc hn hQ f p (m + 1) 0 hp
theorem kas_tail_any (hc : ∀ i j C, i < n → j < n → (∀ b, C b s) → cmp i j C s) (hn : 0 < n) {Q : Nat × Array Nat → Shared → Prop} (hQ : ∀ m p, IsP n p → Q (m, p) s) {a r : Nat} {p : Array Nat} (hp : IsP n p) : (PySem.W.kas_tail3 a r p).kasWp cmp Q s := by
  unfold PySem.W.kas_tail3
  rw [PySem.W.KasT.kasWp_bind]
  exact kas_asc_any hc hn (hp.rev _ _) (fun m => hQ m _ (hp.rev _ _)) _ _
theorem kas_part_any (hc : ∀ i j C, i < n → j < n → (∀ b, C b s) → cmp i j C s) (hn : 0 < n) {Q : Nat × Array Nat → Shared → Prop} (hQ : ∀ m p, IsP n p → Q (m, p) s) {a r : Nat} {p : Array Nat} (hp : IsP n p) : (PySem.W.kas_descPart a r p).kasWp cmp Q s := by
  unfold PySem.W.kas_descPart
  rw [PySem.W.KasT.kasWp_bind]
  refine kas_desc_any hc hn (fun p m q hp => ?_) _ _ _ _ hp
  dsimp only
  split
  · exact kas_tail_any hc hn hQ (hp.rev _ _)
  · exact kas_tail_any hc hn hQ hp
theorem kas_count_any (hc : ∀ i j C, i < n → j < n → (∀ b, C b s) → cmp i j C s) (hn : 0 < n) {Q : Nat × Array Nat → Shared → Prop} (hQ : ∀ m p, IsP n p → Q (m, p) s) {r : Nat} {p : Array Nat} (hp : IsP n p) : (PySem.W.kas_count r p).kasWp cmp Q s := by
  unfold PySem.W.kas_count
  rw [PySem.W.KasT.kasWp_bind]
  refine kas_asc_any hc hn hp (fun m => ?_) _ _
  split
  · exact hQ m p hp
  · split
    · refine kas_asks hc (hp.getD hn _) (hp.getD hn _) fun b => ?_
      cases b
      · rw [if_neg Bool.false_ne_true]; exact kas_part_any hc hn hQ (hp.rev _ _)
      · rw [if_pos rfl]; exact hQ m p hp
    · exact kas_part_any hc hn hQ hp
theorem kas_place_any (hc : ∀ i j C, i < n → j < n → (∀ b, C b s) → cmp i j C s) (hn : 0 < n) {p : Array Nat} (hp : IsP n p) {k : Nat} {Q : Nat → Shared → Prop} (hQ : ∀ m, Q m s) : ∀ f l r, (PySem.W.kas_place p k f l r).kasWp cmp Q s
  | 0, l, _ => hQ l
  | f + 1, l, r => by
    unfold PySem.W.kas_place
    split
    · exact hQ l
    · refine kas_asks hc (hp.getD hn _) (hp.getD hn _) fun b => ?_
      cases b
      · rw [if_neg Bool.false_ne_true]; exact kas_place_any hc hn hp hQ f _ _
      · rw [if_pos rfl]; exact kas_place_any hc hn hp hQ f _ _
theorem kas_bin_any (hc : ∀ i j C, i < n → j < n → (∀ b, C b s) → cmp i j C s) (hn : 0 < n) {Q : Array Nat → Shared → Prop} (hQ : ∀ p, IsP n p → Q p s) : ∀ f p k, IsP n p → (PySem.W.kas_bin f p k).kasWp cmp Q s
  | 0, p, _, hp => hQ p hp
  | f + 1, p, k, hp => by
    unfold PySem.W.kas_bin
    rw [PySem.W.KasT.kasWp_bind]
    exact kas_place_any hc hn hp (fun l => kas_bin_any hc hn hQ f _ (k + 1) (hp.bub _ _)) _ _ _
theorem kas_sort_any (hc : ∀ i j C, i < n → j < n → (∀ b, C b s) → cmp i j C s) (hn : 0 < n) {Q : Array Nat → Shared → Prop} (hQ : ∀ p, IsP n p → Q p s) : (PySem.W.kas_sort n).kasWp cmp Q s := by
  unfold PySem.W.kas_sort
  rw [PySem.W.KasT.kasWp_bind]
  refine kas_count_any hc hn (fun m p hp => ?_) (show IsP n (List.toArray (List.range n)) by unfold IsP; simp)
  dsimp only
  split
  · exact kas_bin_any hc hn hQ _ _ _ hp
  · exact hQ p hp
end
end L2
namespace L2
open PySem PySem.Spec PyProof.Rows
def IntTup (h : Heap) (v : Value) : Prop := ∃ a o xs n i t, v = .ref a ∧ h.get? a = some o ∧ o.cls = .type "tuple" ∧ o.data = .seq xs n ∧ xs[0]? = some (.int i t) ∧ ∀ u ∈ xs.toList, ∃ j t', u = Value.int j t'
theorem IntTup.at {h h' : Heap} {v : Value} (x : IntTup h v) (k : ∀ a o, v = .ref a → h.get? a = some o → o.cls = .type "tuple" → h'.get? a = some o) : IntTup h' v := by
  obtain ⟨a, o, xs, n, i, t, e, ho, hc, r⟩ := x
  exact ⟨a, o, xs, n, i, t, e, k a o e ho hc, hc, r⟩
section
variable {prog : Program} {w : World} {A : Around} {E : Value → Shared → Prop} {s : Shared}
theorem katLex_ints {b fin : Bool} {C : Bool → Shared → Prop} (hC : ∀ b, C b s) : ∀ (l : List (Value × Value)) (i : Nat), (∀ p ∈ l, (∃ j t, p.1 = Value.int j t) ∧ ∃ j t, p.2 = Value.int j t) → PySem.W.KatLex prog w A b fin C l i s
  | [], i, _ => hC fin
  | (p, q) :: r, i, h => by
    obtain ⟨⟨j, t, e1⟩, k, u, e2⟩ := h (p, q) List.mem_cons_self
    dsimp only at e1 e2
    subst e1 e2
    refine PySem.W.kat_cons (wpAny_eqBool_int ?_)
    refine PySem.W.kat_go (fun _ => PySem.W.kat_yes (katLex_ints hC r (i + 1) fun p hp => h p (List.mem_cons_of_mem _ hp))) (fun _ => PySem.W.kat_no ?_)
    by_cases hb : (b && i == 0) = true
    · rw [hb]
      exact oneLt_int (hC _)
    · rw [Bool.eq_false_iff.mpr hb]
      exact PySem.W.kat_one _ _ (lt_int (hC _))
theorem tups_kat {h : Heap} : ∀ (vs : List Value), (∀ v ∈ vs, IntTup h v) → ∃ fs, PySem.W.KatTups h vs fs ∧ fs.length = vs.length ∧ ∀ f ∈ fs, ∃ i t, f = Value.int i t
  | [], _ => ⟨[], trivial, rfl, by simp⟩
  | v :: vs, hv => by
    obtain ⟨fs, k, l, f⟩ := tups_kat vs fun u hu => hv u (List.mem_cons_of_mem _ hu)
    obtain ⟨a, o, xs, n, i, t, rfl, ho, hc, hd, h0, _⟩ := hv v List.mem_cons_self
    refine ⟨.int i t :: fs, PySem.W.KatTups.cons ho hc hd h0 k, by simp [l], fun g hg => ?_⟩
    rcases List.mem_cons.mp hg with rfl | hg
    · exact ⟨i, t, rfl⟩
    · exact f g hg
theorem zip_snd {α : Type} : ∀ (vs : List α), (vs.zip vs).map (·.2) = vs
  | [] => rfl
  | v :: vs => by rw [List.zip_cons_cons, List.map_cons, zip_snd vs]
theorem perm_getD {vs : List Value} {p : Array Nat} (hp : IsP vs.length p) : (p.toList.map fun i => vs.getD i Value.none).Perm vs := by
  have e : vs = (List.range vs.length).map fun i => vs.getD i Value.none := by
    apply List.ext_getElem
    · simp
    · intro i h1 h2
      simp [h1]
  have q := hp.map fun i => vs.getD i Value.none
  rw [← e] at q
  exact q
theorem list_sort_tups {a : Addr} {vs : List Value} {n : Nat} {P : PySem.Fin → Shared → Prop} (ho : s.heap.get? a = some (seqObj "list" vs.toArray n)) (ht : ∀ v ∈ vs, IntTup s.heap v) (h64 : vs.length < 64)
    (h : ∀ out : Array Value, out.toList.Perm vs → P (.done (.ret .none)) { s with heap := sortedHeap s.heap a vs out }) :
    wpAny (model prog w) A (Builtin.«list.sort» ⟨[.ref a], []⟩) P E s := by
  rw [list_sort_plain]
  have ha : a < s.heap.objs.size := Heap.lt_size ho
  refine wpAny_bind (listItems_at ho rfl ?_)
  refine wpAny_bind (listUpdate_at ho rfl ?_ (by rw [List.size_toArray, sizeLine_eq]; omega) (Nat.zero_le _))
  obtain ⟨e1, ho1⟩ : ∃ e1, (s.heap.update a (Obj.mapSeq fun _ => #[])).get? a = some (seqObj "list" #[] e1) := ⟨_, get?_update_seq ho (fun _ => #[])⟩
  refine wpAny_bind (seqEpoch_at ho1 rfl ?_)
  refine wpAny_bind (wpAny_newTuple ?_ (by show vs.length ≤ _; rw [sizeLine_eq]; omega))
  refine wpAny_bind (wpAny_newList ?_ (Nat.zero_le _))
  refine wpAny_holding ?_
  have old6 : ∀ b o, b ≠ a → s.heap.get? b = some o → (((s.heap.update a (Obj.mapSeq fun _ => (#[] : Array Value))).push (seqObj "tuple" vs.toArray 0)).push (seqObj "list" #[] 0)).get? b = some o := fun b o hb q => by
    refine Heap.get?_push_of_some _ (Heap.get?_push_of_some _ ?_)
    rw [Heap.get?_update_ne _ _ _ _ hb]
    exact q
  have ho6 : (((s.heap.update a (Obj.mapSeq fun _ => #[])).push (seqObj "tuple" vs.toArray 0)).push (seqObj "list" #[] 0)).get? a = some (seqObj "list" #[] e1) := Heap.get?_push_of_some _ (Heap.get?_push_of_some _ ho1)
  show wpAny (model prog w) A _ P E { s with heap := ((s.heap.update a (Obj.mapSeq fun _ => #[])).push (seqObj "tuple" vs.toArray 0)).push (seqObj "list" #[] 0) }
  dsimp only
  have hsz : vs.toArray.size = vs.length := by simp
  by_cases h2 : vs.toArray.size < 2
  · rw [if_pos h2, if_pos h2]
    refine wpAny_bind (wpAny_pure ?_)
    rw [StateT.run_pure]
    refine wpAny_bind (wpAny_pure ?_)
    dsimp only
    refine wpAny_bind (seqEpoch_at ho6 rfl ?_)
    have es : ((arrOf (SortSt.mk' general' (vs.toArray.zip vs.toArray) #[] 7 none)).map (·.2)).toList.Perm vs := by
      show ((vs.toArray.zip vs.toArray).map (·.2)).toList.Perm vs
      rw [Array.toList_map]
      have e := pairsOf_toList vs
      unfold pairsOf at e
      rw [e, zip_snd]
    have el : ((arrOf (SortSt.mk' general' (vs.toArray.zip vs.toArray) #[] 7 none)).map (·.2)).size ≤ sizeLine + 1 := by
      have := es.length_eq
      rw [Array.length_toList] at this
      rw [this, sizeLine_eq]
      omega
    refine wpAny_bind (listUpdate_at ho6 rfl ?_ (Nat.zero_le _) el)
    simp only [bne_self_eq_false, Bool.false_eq_true, if_false]
    exact wpAny_pure (h _ es)
  · rw [if_neg h2, if_neg h2]
    have h2' : 2 ≤ vs.length := by omega
    have ht6 : ∀ v ∈ vs, IntTup (((s.heap.update a (Obj.mapSeq fun _ => (#[] : Array Value))).push (seqObj "tuple" vs.toArray 0)).push (seqObj "list" #[] 0)) v := fun v hv => (ht v hv).at fun b o _ q c => old6 b o (fun z => by
      rw [z, ho] at q
      cases q
      exact absurd (Value.type.inj (show Value.type "list" = Value.type "tuple" from c)) (by decide)) q
    obtain ⟨fs, kt, hl, hf⟩ := tups_kat vs ht6
    refine wpAny_bind (PySem.W.kat_kind (s := { s with heap := ((s.heap.update a (Obj.mapSeq fun _ => #[])).push (seqObj "tuple" vs.toArray 0)).push (seqObj "list" #[] 0) }) (T := .type "int") kt (by omega) (fun v hv => ?_) (by decide) ?_)
    · obtain ⟨i, t, rfl⟩ := hf v hv
      exact .now
    refine wpAny_bind (wpAny_mono (PySem.W.kat_run (ks := vs) (Q := fun st' s' => s' = { s with heap := ((s.heap.update a (Obj.mapSeq fun _ => #[])).push (seqObj "tuple" vs.toArray 0)).push (seqObj "list" #[] 0) } ∧
        failedOf st' = none ∧ ((arrOf st').map (·.2)).toList.Perm vs)
      (G := fun p s' => s' = { s with heap := ((s.heap.update a (Obj.mapSeq fun _ => #[])).push (seqObj "tuple" vs.toArray 0)).push (seqObj "list" #[] 0) } ∧ IsP vs.length p) rfl h2' h64 (fun p st' s' a1 a2 a3 a4 => ⟨a4.1, a3, ?_⟩) ?_) ?_ fun _ _ e => e)
    · rw [PySem.W.kat_snds rfl a2]
      exact perm_getD a4.2
    · refine kas_sort_any (fun i j C hi hj hC => ?_) (by omega) fun p hp => ⟨rfl, hp⟩
      have mem : ∀ i, i < vs.length → vs.getD i Value.none ∈ vs := fun i hi => by
        rw [List.getD_eq_getElem?_getD, List.getElem?_eq_getElem hi]
        exact List.getElem_mem hi
      obtain ⟨x, ox, xs, nx, _, _, ex, hx, cx, dx, _, fx⟩ := ht6 _ (mem i hi)
      obtain ⟨y, oy, ys, ny, _, _, ey, hy, cy, dy, _, fy⟩ := ht6 _ (mem j hj)
      unfold PySem.W.kas_ask
      rw [ex, ey]
      refine PySem.W.kat_lt hx dx hy dy (katLex_ints hC _ _ fun p hp => ?_)
      have z := List.of_mem_zip hp
      exact ⟨fx _ z.1, fy _ z.2⟩
    · rintro ⟨⟨⟩, st'⟩ s' ⟨rfl, hf', hpm⟩
      dsimp only
      have el : ((arrOf st').map (·.2)).size ≤ sizeLine + 1 := by
        have := hpm.length_eq
        rw [Array.length_toList] at this
        rw [this, sizeLine_eq]
        omega
      refine wpAny_bind (seqEpoch_at ho6 rfl ?_)
      refine wpAny_bind (listUpdate_at ho6 rfl ?_ (Nat.zero_le _) el)
      rw [hf']
      simp only [bne_self_eq_false, Bool.false_eq_true, if_false]
      exact wpAny_pure (h _ hpm)
theorem sorted_tups {l : Addr} {vs : List Value} {Q : Value → Shared → Prop} (hl : s.heap.IsList l vs.toArray) (ht : ∀ v ∈ vs, IntTup s.heap v) (h64 : vs.length < 64)
    (h : ∀ out : Array Value, out.toList.Perm vs → Q (.ref (s.heap.objs.size + 1)) { s with heap := sortedAll s.heap vs out }) : wpAny (model prog w) A (call (.builtin "sorted") [.ref l]) Q E s := by
  refine Calls.call_function_entry kind_sorted plain_sorted entry_sorted (args_sorted1 _) ?_
  unfold Builtin.«sorted»
  refine wpAny_bind (m := checkCount "sorted" 1 1 _) (wpAny_pure ?_)
  refine wpAny_bind (collect_list hl ?_ (by rw [sizeLine_eq]; omega))
  refine wpAny_bind (wpAny_newList ?_ (by rw [sizeLine_eq]; omega))
  have hsz : ((s.heap.push (seqObj "list" #[] 0)).update s.heap.objs.size (Obj.mapSeq (· ++ vs.toArray))).objs.size = s.heap.objs.size + 1 := by
    rw [Heap.size_update, size_push']
  have hoL : (((s.heap.push (seqObj "list" #[] 0)).update s.heap.objs.size (Obj.mapSeq (· ++ vs.toArray))).push (seqObj "list" vs.toArray 0)).get? (s.heap.objs.size + 1) = some (seqObj "list" vs.toArray 0) := by
    rw [← hsz]; exact Heap.get?_push_size _ rfl
  have keep : ∀ b o, s.heap.get? b = some o → (((s.heap.push (seqObj "list" #[] 0)).update s.heap.objs.size (Obj.mapSeq (· ++ vs.toArray))).push (seqObj "list" vs.toArray 0)).get? b = some o := fun b o q => by
    have hlt : b < s.heap.objs.size := Heap.lt_size q
    rw [Heap.get?_push_ne _ _ _ (by rw [hsz]; exact Nat.ne_of_lt (Nat.lt_succ_of_lt hlt)), Heap.get?_update_ne _ _ _ _ (Nat.ne_of_lt hlt), Heap.get?_push_ne _ _ _ (Nat.ne_of_lt hlt)]
    exact q
  show wpAny _ _ _ _ _ { s with heap := ((s.heap.push (seqObj "list" #[] 0)).update s.heap.objs.size (Obj.mapSeq (· ++ vs.toArray))).push (seqObj "list" vs.toArray 0) }
  rw [hsz]
  refine wpAny_bind (wpAny_holding (wpAny_call_entry slot_list_sort ⟨_, hoL, rfl⟩ entry_list_sort (list_sort_tups (s := { s with heap := ((s.heap.push (seqObj "list" #[] 0)).update s.heap.objs.size (Obj.mapSeq (· ++ vs.toArray))).push (seqObj "list" vs.toArray 0) }) hoL (fun v hv => (ht v hv).at fun b o _ q _ => keep b o q) h64 fun out a1 => ⟨_, rfl, ?_⟩) (args_list_sort _)))
  exact wpAny_pure ⟨_, rfl, h out a1⟩
end
section
variable {X : Cx}
theorem call_sortedT : CallR X (.builtin "sorted") (fun xs H Q => ∃ p ts, xs = [.ref p] ∧ SqL X.K H p ts ∧ ts.length < 64 ∧ (∀ t ∈ ts, ∃ a i, ∃ ns : List Int, t = .ref a ∧ SqT X.K H a (V.int i :: ns.map V.int)) ∧
    ∀ l out, H l = none → out.Perm ts → Q (.ref l) (upd H l (.lst out))) := by
  intro pins s σ H xs us Q I r h
  obtain ⟨p, ts, rfl, hq, h64, ht, q⟩ := h
  obtain ⟨u, rfl, ru⟩ := vals1 r
  cases ru
  obtain ⟨its, rv, pl, hz⟩ := I.list hq
  have hl := rv.length
  refine sorted_tups pl.isList (fun v hv => ?_) (by omega) fun out ho => ?_
  · obtain ⟨j, hj, rfl⟩ := List.getElem_of_mem hv
    obtain ⟨y, hy, ry⟩ := rv.getE hj
    obtain ⟨a, i, ns, rfl, hT⟩ := ht y (List.mem_of_getElem? hy)
    have ry : its[j] = Value.ref a := ry
    rw [ry]
    obtain ⟨its2, rv2, ⟨o, e, c, n, d⟩, _⟩ := I.tuple hT
    cases rv2 with
    | cons r0 rr =>
      obtain ⟨t, rfl⟩ := r0
      rename_i us'
      refine ⟨a, o, _, n, i, t, rfl, e, c, d, by simp, fun u hu => ?_⟩
      rw [List.toList_toArray] at hu
      rcases List.mem_cons.mp hu with rfl | hu
      · exact ⟨i, t, rfl⟩
      · exact (intsAre_of rr).all u hu
  · -- the values of the out list
    obtain ⟨e, he⟩ := sortedAll_at s.heap its out
    have hn : H (s.heap.objs.size + 1) = none := I.hok.fresh (Nat.le_succ _)
    obtain ⟨os, hos, hperm⟩ : ∃ os, Vals os out.toList ∧ os.Perm ts := by
      have key : ∀ {l l' : List Value}, l.Perm l' → ∀ {ms : List V}, Vals ms l' → ∃ os, Vals os l ∧ os.Perm ms := by
        intro l l' hp
        induction hp with
        | nil => intro ms hm; exact ⟨ms, hm, .refl _⟩
        | cons x _ ih =>
          intro ms hm
          cases hm with
          | cons r0 rr =>
            obtain ⟨os, h1, h2⟩ := ih rr
            exact ⟨_ :: os, .cons r0 h1, h2.cons _⟩
        | swap x y l =>
          intro ms hm
          cases hm with
          | cons r0 rr =>
            cases rr with
            | cons r1 rr => exact ⟨_ :: _ :: _, .cons r1 (.cons r0 rr), .swap _ _ _⟩
        | trans _ _ ih1 ih2 =>
          intro ms hm
          obtain ⟨os, h1, h2⟩ := ih2 hm
          obtain ⟨os', h3, h4⟩ := ih1 h1
          exact ⟨os', h3, h4.trans h2⟩
      exact key ho rv
    refine ⟨.ref (s.heap.objs.size + 1), _, I.laid (t' := s.toks) (fun b o z => sortedAll_old z) (Nat.le_succ _) (o := .lst os) ?_, rfl, q _ os hn hperm⟩
    refine ⟨by rw [hperm.length_eq]; have := sizeLine_eq; omega, out.toList, e, hos, ?_⟩
    exact he.trans (by simp [seqObj])
end
end L2
namespace L2
open PySem PySem.Spec PyProof.Rows
structure CompOkT (X : Cx) (scope : Scope) (cl : List (Str × Addr)) (tn fn : List Str) (fv : List Nat) : Prop where
  kind : scope.kind = .function
  ncell : ∀ y ∈ scope.names, y.2 ≠ .cell
  names : ∀ y ∈ scope.names, y.2 = .local → scope.names.lookup y.1 = some .local
  clos : closureFor scope X.env = pure cl
  cells : ∀ y c, cl.lookup y = some c → X.env.cells.lookup y = some c
  free : ∀ y, ((relabel scope X.env).names.lookup y = some .cell ∨ (relabel scope X.env).names.lookup y = some .free) → ∃ c, cl.lookup y = some c
  slots : ∀ (j : Nat) (y : Str), fn[j]? = some y → ∃ k, fv[j]? = some k ∧ X.N[k]? = some y ∧ Vis X.env.scope y ∧ X.env.kindOf y = some .cell ∧ (relabel scope X.env).names.lookup y = some .cell
  len : fv.length = fn.length
def CompGT (J : It) (fv : List (Option V)) (nt : Nat) (g : TG) (tt : TT) (te : TE) (Q : VK) (H1 : Hp) (D : Addr) : Prop := ∃ W : Nat → Nat → Hp → Prop, (∃ m, W 0 m (upd H1 D (.lst []))) ∧ ∀ i m H, W i m H →
  (J.stop i H ∧ Q (.ref D) H) ∨ (J.go i H ∧ ∃ N : Hp → Prop, (∀ H', N H' → ∃ m', m' < m ∧ W (i + 1) m' H') ∧ ∀ x H' (ts : List (Option V)), ts.length = nt → J.yld i H x H' →
    g x (ts ++ fv) H' fun σ2 H2 => (∃ ts' : List (Option V), ts'.length = nt ∧ σ2 = ts' ++ fv) ∧ tt σ2 H2 fun ok H3 => if ok = true then te σ2 H3 fun y H4 => ∃ ys, H4 D = some (.lst ys) ∧ ys.length < sizeLine ∧ N (upd H4 D (.lst (ys ++ [y]))) else N H3)
def tCompT (wi : TI) (fv : List Nat) (nt : Nat) (g : TG) (tt : TT) (te : TE) : TE := fun σ H Q => wi σ H fun J H1 => ∀ D, H1 D = none → CompGT J (fv.map fun j => (σ[j]?).join) nt g tt te Q H1 D
section
variable {X : Cx} {elt iter target : Expr} {pos : Pos} {ifs : List Expr} {scope : Scope} {cl : List (Str × Addr)} {tn fn : List Str} {fv : List Nat} {wi : TI} {g : TG} {tt : TT} {te : TE} {pins : List (Addr × Obj)} {σ : St} {H : Hp} {s : Shared}
theorem compInT {s3 s4 : Shared} {H3 : Hp} {C : Addr} {fp : List Addr} {m : Str → Option Value} (S : CompOkT X scope cl tn fn fv) (I3 : Inv X pins σ H3 s3) (hC : C = s3.heap.objs.size) (hfp : ∀ b ∈ fp, FpOk X pins H3 b ∧ b < s3.heap.objs.size)
    (h4 : s4.os = s3.os ∧ s4.gens = s3.gens) (hns : s4.heap.Ns C m) (old : ∀ b o, s3.heap.get? b = some o → s4.heap.get? b = some o) :
    Inv (compCx X scope cl (tn ++ fn) C fp pins s3 H3) [] (List.replicate tn.length none ++ fv.map fun j => (σ[j]?).join) H3 s4 := by
  have hCf : H3 C = none := by rw [hC]; exact I3.hok.fresh (Nat.le_refl _)
  have ltC : ∀ b o, s3.heap.get? b = some o → b ≠ C := fun b o e => by rw [hC]; exact Nat.ne_of_lt (Heap.lt_size e)
  refine ⟨⟨I3.ok.mod, ?_, I3.ok.glob, I3.ok.blt, Nat.le_of_eq hC.symm, fun y z c h1 h2 => I3.ok.inj y z c (S.cells y c h1) (S.cells z c h2), fun y hy => S.free y hy, fun y c h1 h2 => ?_, I3.ok.hd, I3.ok.frames, .inl rfl, fun b hb => ?_, I3.bs, Nat.le_trans I3.ok.bsz I3.sz, fun b o e hb => ?_, fun b hb => ?_, I3.stack, I3.stkFree⟩,
    h4.1, by rw [h4.2]; exact I3.bare, Un.kept old, ⟨m, hns, fun i y v e1 e2 e3 => ?_⟩, fun y c e => ?_, hCf, fun y c e => I3.freeC y c (S.cells y c e), fun p hp => ?_, I3.hok.kept old, ?_⟩
  · show (relabel scope X.env).kind = .function
    exact S.kind
  · have z : (!(cl.lookup y).isSome) = true := h1
    have e : cl.lookup y = some c := h2
    rw [e] at z
    cases z
  · obtain ⟨⟨_, _, _, _, f4, _⟩, lt⟩ := hfp b hb
    exact ⟨by show b ≠ C; rw [hC]; exact Nat.ne_of_lt lt, fun y c e => f4 y c (S.cells y c e)⟩
  · obtain ⟨⟨_, _, _, f3, _⟩, _⟩ := hfp b hb
    rcases f3 with z | z
    · exact I3.ok.noex b o e z
    · exact absurd (Nat.lt_of_lt_of_le (Heap.lt_size (I3.ok.bs b o e).1) z) (Nat.lt_irrefl _)
  · obtain ⟨⟨_, f1, f2, _⟩, _⟩ := hfp b hb
    intro mm
    rcases List.mem_cons.mp (I3.stkSub b mm) with z | z
    · exact f1 z
    · exact f2 z
  · have e1 : (tn ++ fn)[i]? = some y := e1
    by_cases hi : i < tn.length
    · rw [List.getElem?_append_left (by rw [List.length_replicate]; exact hi), List.getElem?_replicate, if_pos hi] at e2
      cases Option.some.inj e2
    · rw [List.getElem?_append_right (by omega)] at e1
      rw [List.getElem?_append_right (by rw [List.length_replicate]; omega), List.length_replicate] at e2
      obtain ⟨k, f1, f2, f3, f4, f5⟩ := S.slots _ y e1
      rw [List.getElem?_map, f1] at e2
      have e2 : (σ[k]?).join = some v := Option.some.inj e2
      have e2 : σ[k]? = some (some v) := by
        cases q : σ[k]? with
        | none => rw [q] at e2; cases e2
        | some o => rw [q] at e2; have e2 : o = some v := e2; rw [e2]
      obtain ⟨m3, hn3, hl3⟩ := I3.loc
      obtain ⟨u, ru, l⟩ := hl3 k y v f2 e2 f3
      refine ⟨u, ru, .inr ⟨.inl f5, ?_⟩⟩
      rcases l with ⟨kk, _⟩ | ⟨_, c, hc, z⟩
      · rw [f4] at kk
        cases kk
      · obtain ⟨c', e'⟩ := S.free y (.inl f5)
        have e'' := S.cells y c' e'
        rw [hc] at e''
        cases e''
        obtain ⟨o, ho, hd⟩ := z
        exact ⟨c, e', o, old c o ho, hd⟩
  · obtain ⟨v, o, ho, hd⟩ := I3.cell y c (S.cells y c e)
    exact ⟨v, o, old c o ho, hd⟩
  · rw [List.append_nil] at hp
    obtain ⟨e, n, ne, nf, d⟩ := I3.pin p hp
    refine ⟨old _ _ e, n, ltC _ _ e, fun mm => ?_, d⟩
    rcases List.mem_cons.mp (I3.stkSub p.1 mm) with z | z
    · exact ne z
    · exact nf z
  · show (List.replicate tn.length none ++ fv.map fun j => (σ[j]?).join).length = (tn ++ fn).length
    rw [List.length_append, List.length_append, List.length_replicate, List.length_map, S.len]
theorem comp_coreT {Q0 : VK} {RR : Value → Addr → Result → Shared → Prop} (hc : X.calm = true) (hi : PI X target iter wi) (S : CompOkT X scope cl tn fn fv)
    (hg : ∀ C fp ps s3 H3, PG (compCx X scope cl (tn ++ fn) C fp ps s3 H3) target g)
    (ht : ∀ C fp ps s3 H3, PIfs (compCx X scope cl (tn ++ fn) C fp ps s3 H3) ifs tt) (he : ∀ C fp ps s3 H3, PE (compCx X scope cl (tn ++ fn) C fp ps s3 H3) elt te)
    (I : Inv X pins σ H s) (h : tCompT wi fv tn.length g tt te σ H Q0)
    (fin : ∀ (D C : Addr) (H' : Hp) (s' : Shared) (m : Str → Option Value), s'.heap.Ns C m → FpOk X pins H' C → Inv X pins σ H' s' → Q0 (.ref D) H' → RR (.ref D) C (.ok .next) s') :
    wpAny (model X.prog X.w) X.A (eval iter X.env) (fun xv s₁ => wpAny (model X.prog X.w) X.A (pyIter xv) (fun it s₂ => wpAny (model X.prog X.w) X.A (newList []) (fun acc s₃ =>
      wpAny (model X.prog X.w) X.A (newFunctionEnv scope X.env.globals cl [] X.env.qual none .none (some X.env)) (fun cenv s₄ =>
        codeAny (model X.prog X.w) X.A (.compStart (.ListComp elt [⟨target, iter, ifs, 0⟩] scope pos) 0 it acc { cenv with scope := relabel scope X.env }) (RR acc cenv.locals) s₄) X.xe s₃) X.xe s₂) X.xe s₁) X.xe s := by
  refine thn (hi pins s σ H _ I h) fun xv s1 h1 => thn h1 fun itv s2 h2 => ?_
  obtain ⟨it, fp, tnn, J, H2, e, I2, T, st2, f2, q⟩ := h2
  subst e
  have hD : H2 s2.heap.objs.size = none := I2.hok.fresh (Nat.le_refl _)
  obtain ⟨W, ⟨m0, w0⟩, turnW⟩ := q _ hD
  refine wpAny_newObj_type (wpAny_newFunctionEnv S.ncell (by intro y hy; simp at hy) (fun h₁ hns₁ hsb₁ => ?_) S.kind)
  have I3 : Inv X pins σ (upd H2 s2.heap.objs.size (.lst [])) { s2 with heap := s2.heap.push { cls := .type "list", data := .seq ([] : List Value).toArray }, toks := s2.toks } := I2.lnew (its := []) .nil (Nat.zero_le _)
  have obj2 : ∀ b ∈ fp, ∃ o, s2.heap.get? b = some o := fun b hb => let ⟨o, e, _⟩ := T.obj 0 _ st2 b hb; ⟨o, e⟩
  have ltf : ∀ b ∈ fp, b < s2.heap.objs.size := fun b hb => let ⟨o, e⟩ := obj2 b hb; Heap.lt_size e
  have size3 : (s2.heap.push { cls := .type "list", data := .seq ([] : List Value).toArray }).objs.size = s2.heap.objs.size + 1 := Heap.size_push _ _
  have hfp3 : ∀ b ∈ fp, FpOk X pins (upd H2 s2.heap.objs.size (.lst [])) b ∧ b < (s2.heap.push { cls := .type "list", data := .seq ([] : List Value).toArray }).objs.size := fun b hb =>
    ⟨⟨by rw [upd_ne (Nat.ne_of_lt (ltf b hb))]; exact (f2 b hb).1, (f2 b hb).2⟩, by rw [size3]; exact Nat.lt_succ_of_lt (ltf b hb)⟩
  have old : ∀ b o, (s2.heap.push { cls := .type "list", data := .seq ([] : List Value).toArray }).get? b = some o → h₁.get? b = some o := fun b o e =>
    (hsb₁.2 b (Nat.ne_of_lt (Heap.lt_size e))).trans (Heap.get?_push_of_some _ e)
  have I4 := compInT (s4 := { s2 with heap := h₁, toks := s2.toks + ([] : List (Str × Value)).length }) (fp := fp) S I3 rfl hfp3 ⟨rfl, rfl⟩ hns₁ old
  have st4 : tnn 0 h₁ := T.keep 0 _ _ st2 fun b hb o e => old b o (Heap.get?_push_of_some _ e)
  have stat : ∀ {ps : List (Addr × Obj)} {H' : Hp}, ps = [] → (∀ b ∈ fp, H' b = none) → ∀ b ∈ fp, FpOk (compCx X scope cl (tn ++ fn) (s2.heap.push { cls := .type "list", data := .seq ([] : List Value).toArray }).objs.size fp pins
      { s2 with heap := s2.heap.push { cls := .type "list", data := .seq ([] : List Value).toArray }, toks := s2.toks } (upd H2 s2.heap.objs.size (.lst []))) ps H' b := fun {ps H'} e hn b hb => by
    subst e
    obtain ⟨⟨_, f1, f2', f3, f4, f5⟩, lt⟩ := hfp3 b hb
    refine ⟨hn b hb, Nat.ne_of_lt lt, fun mm => ?_, .inl hb, fun y c e => f4 y c (S.cells y c e), fun p hp => ?_⟩
    · rcases List.mem_cons.mp (I3.stkSub b mm) with z | z
      · exact f1 z
      · exact f2' z
    · rw [List.append_nil] at hp
      exact f5 p hp
  have loop : codeAny (model X.prog X.w) X.A (.compLoop (.ListComp elt [⟨target, iter, ifs, 0⟩] scope pos) 0 (.ref it) (.ref s2.heap.objs.size)
      (compEnvC scope cl (s2.heap.push { cls := .type "list", data := .seq ([] : List Value).toArray }).objs.size X.env)) (RR (.ref s2.heap.objs.size) (s2.heap.push { cls := .type "list", data := .seq ([] : List Value).toArray }).objs.size)
      { s2 with heap := h₁, toks := s2.toks + ([] : List (Str × Value)).length } := by
    refine comp_loop (fun n s' => ∃ i ts H', ts.length = tn.length ∧ Inv (compCx X scope cl (tn ++ fn) (s2.heap.push { cls := .type "list", data := .seq ([] : List Value).toArray }).objs.size fp pins
      { s2 with heap := s2.heap.push { cls := .type "list", data := .seq ([] : List Value).toArray }, toks := s2.toks } (upd H2 s2.heap.objs.size (.lst []))) [] (ts ++ fv.map fun j => (σ[j]?).join) H' s' ∧ tnn i s'.heap ∧ (∀ b ∈ fp, H' b = none) ∧ W i n H') ?_ m0
      ⟨0, _, _, List.length_replicate, I4, st4, fun b hb => (hfp3 b hb).1.1, w0⟩
    rintro n s' ⟨i, ts, H', hts, I', st', fr', w'⟩
    rcases turnW i n H' w' with ⟨stop, qn⟩ | ⟨go, N, hN, step⟩
    · refine thn (T.done (compCx X scope cl (tn ++ fn) (s2.heap.push { cls := .type "list", data := .seq ([] : List Value).toArray }).objs.size fp pins
          { s2 with heap := s2.heap.push { cls := .type "list", data := .seq ([] : List Value).toArray }, toks := s2.toks } (upd H2 s2.heap.objs.size (.lst []))) rfl rfl rfl hc i [] s' _ H' _ I' (stat rfl fr') st' stop) fun r s5 ⟨hr, I5⟩ => ?_
      subst hr
      obtain ⟨m5, hn5, _⟩ := id I5.loc
      have J5 : Inv X pins σ H' s5 := I3.call' (ch := fp) I5.os I5.base I5.hok I5.bare fun b hb => let ⟨⟨_, f1, _, f3, f4, f5⟩, _⟩ := hfp3 b hb; ⟨f3, f1, f4, f5⟩
      exact fin _ _ H' s5 m5 hn5 (I3.fpOk (Nat.le_refl _) I5.free) J5 qn
    · refine thn (T.item (compCx X scope cl (tn ++ fn) (s2.heap.push { cls := .type "list", data := .seq ([] : List Value).toArray }).objs.size fp pins
          { s2 with heap := s2.heap.push { cls := .type "list", data := .seq ([] : List Value).toArray }, toks := s2.toks } (upd H2 s2.heap.objs.size (.lst []))) rfl rfl rfl hc i [] s' _ H' _ I' (stat rfl fr') st' go) fun r s5 ⟨u, hr, h5⟩ => ?_
      subst hr
      refine thn h5 fun _ s6 ⟨y, H6, I6, r6, y6, st6, fr6⟩ => ?_
      have I6' := I6.pinned (stat rfl fr6) (T.obj _ _ st6)
      have again : ∀ {s7 : Shared} {H7 : Hp} {ts7 : List (Option V)}, ts7.length = tn.length → Inv (compCx X scope cl (tn ++ fn) (s2.heap.push { cls := .type "list", data := .seq ([] : List Value).toArray }).objs.size fp pins
          { s2 with heap := s2.heap.push { cls := .type "list", data := .seq ([] : List Value).toArray }, toks := s2.toks } (upd H2 s2.heap.objs.size (.lst []))) ([] ++ pinsAt fp s6.heap) (ts7 ++ fv.map fun j => (σ[j]?).join) H7 s7 → N H7 →
          ∃ m, m < n ∧ ∃ i ts H', ts.length = tn.length ∧ Inv (compCx X scope cl (tn ++ fn) (s2.heap.push { cls := .type "list", data := .seq ([] : List Value).toArray }).objs.size fp pins
            { s2 with heap := s2.heap.push { cls := .type "list", data := .seq ([] : List Value).toArray }, toks := s2.toks } (upd H2 s2.heap.objs.size (.lst []))) [] (ts ++ fv.map fun j => (σ[j]?).join) H' s7 ∧ tnn i s7.heap ∧ (∀ b ∈ fp, H' b = none) ∧ W i m H' := fun {s7 H7 ts7} hl7 I7 n7 => by
        obtain ⟨m', hm, w7⟩ := hN H7 n7
        refine ⟨m', hm, i + 1, ts7, H7, hl7, I7.unpinned, T.keep _ _ _ st6 fun b hb o e => (I7.pin (b, o) (List.mem_append_right _ (List.mem_append_right _ (mem_pinsAt hb e)))).1, fun b hb => ?_, w7⟩
        obtain ⟨o, e, _⟩ := T.obj _ _ st6 b hb
        exact (I7.pin (b, o) (List.mem_append_right _ (List.mem_append_right _ (mem_pinsAt hb e)))).2.1
      refine thn (hg _ _ _ _ _ _ s6 _ H6 y u _ I6' r6 (step y H6 ts hts y6)) fun _ s7 ⟨σ7, H7, I7, ⟨ts7, hl7, e7⟩, q7⟩ => ?_
      subst e7
      refine thn (ht _ _ _ _ _ _ s7 _ H7 _ I7 q7) fun ok s8 ⟨H8, I8, q8⟩ => ?_
      cases ok with
      | false =>
        rw [if_neg Bool.false_ne_true] at q8 ⊢
        exact again hl7 I8 q8
      | true =>
        rw [if_pos rfl] at q8 ⊢
        refine thn (he _ _ _ _ _ _ s8 _ H8 _ I8 q8) fun z s9 ⟨yv, H9, I9, r9, ys, hDl, hz, q9⟩ => ?_
        refine thn (mt_append _ s9 _ H9 (.ref s2.heap.objs.size) [yv] (.ref s2.heap.objs.size) [z] (fun _ H10 => N H10) I9 rfl (.cons r9 .nil) ⟨_, ys, yv, rfl, rfl, hDl, hz, q9⟩) fun _ s10 ⟨v10, H10, I10, _, q10⟩ => ?_
        exact again hl7 I10 q10
  exact codeAny_compStart_list loop (T.self _ 0 _ _ _ st4 loop)
theorem pe_compT (hc : X.calm = true) (hi : PI X target iter wi) (S : CompOkT X scope cl tn fn fv) (hg : ∀ C fp ps s3 H3, PG (compCx X scope cl (tn ++ fn) C fp ps s3 H3) target g)
    (ht : ∀ C fp ps s3 H3, PIfs (compCx X scope cl (tn ++ fn) C fp ps s3 H3) ifs tt) (he : ∀ C fp ps s3 H3, PE (compCx X scope cl (tn ++ fn) C fp ps s3 H3) elt te)
    (hs : ∀ y, foldedSetIterable iter X.env y = pure y := by intro _; rfl) : PE X (.ListComp elt [⟨target, iter, ifs, 0⟩] scope pos) (tCompT wi fv tn.length g tt te) := by
  intro pins s σ H Q I h
  rw [eval_ListComp]
  refine wpAny_comprehension_free (use := none) rfl hs S.clos S.kind S.names ?_
  refine comp_coreT (RR := fun acc C => compPost (model X.prog X.w) X.A X.xe none (EP X pins σ Q) acc C) hc hi S hg ht he I h fun D C H' s' m hns fo J q => ?_
  obtain ⟨f0, f1, _, f3, f4, f5⟩ := fo
  exact ⟨m, hns, fun h' hs' => ⟨.ref D, H', J.turned (t' := s'.toks) (fun b o hb e => (hs'.2 b hb).trans e) f0 f1 f3 f4 f5, rfl, q⟩⟩
theorem ps_setCT {i : Nat} {y : Str} {py spos : Pos} (hN : X.N.Nodup) (hj : X.N[i]? = some y) (hy : Loc X.env.scope y) (hc : X.calm = true) (hi : PI X target iter wi) (S : CompOkT X scope cl tn fn fv) (hg : ∀ C fp ps s3 H3, PG (compCx X scope cl (tn ++ fn) C fp ps s3 H3) target g)
    (ht : ∀ C fp ps s3 H3, PIfs (compCx X scope cl (tn ++ fn) C fp ps s3 H3) ifs tt) (he : ∀ C fp ps s3 H3, PE (compCx X scope cl (tn ++ fn) C fp ps s3 H3) elt te)
    (hsw : swapsWith (.ListComp elt [⟨target, iter, ifs, 0⟩] scope pos) (some (.Name y py)) spos.line X.env = pure true := by rfl) (hs : ∀ y, foldedSetIterable iter X.env y = pure y := by intro _; rfl)
    (hf : X.fn y = true ∨ X.env.scope.names.lookup y = some .local := by first | exact .inl rfl | exact .inr rfl | assumption) :
    PS X (.Assign [.Name y py] (.ListComp elt [⟨target, iter, ifs, 0⟩] scope pos) spos) (tAsg (tCompT wi fv tn.length g tt te) (gName i)) := by
  intro pins s σ H D I h
  rw [exec_Assign_Name_used _ _ _ _ hsw]
  refine wpAny_bind (wpAny_standAt (wpAny_bind ?_))
  show wpAny _ X.A (do let _ ← comprehension (.ListComp elt [⟨target, iter, ifs, 0⟩] scope pos) scope X.env _ (newList []) false (eval iter X.env) (some (assign (.Name y py) X.env))) _ _ s
  refine wpAny_bind (thn (wpAny_comprehension_free (use := some (assign (.Name y py) X.env)) (Q := fun _ s' => SP X pins D .next s') rfl hs S.clos S.kind S.names ?_) fun _ s' hq => wpAny_pure (wpAny_pure hq))
  refine comp_coreT (RR := fun acc C => compPost (model X.prog X.w) X.A X.xe (some (assign (.Name y py) X.env)) (fun _ s' => SP X pins D .next s') acc C) hc hi S hg ht he I h fun D' C H' s' m hns fo J q => ?_
  obtain ⟨f0, f1, _, f3, f4, f5⟩ := fo
  show wpAny _ X.A (assign (.Name y py) X.env (.ref D')) _ _ _
  refine wpAny_assign_Name (store_ok2 J hN hj hy (v := .ref D') rfl (fun s2 J2 ⟨a, hs2, ha⟩ => ?_) hf)
  have ne : a ≠ C := by
    rcases ha with z | z
    · rw [z]; exact Ne.symm f1
    · exact f4 y a z
  refine ⟨m, hns.sameBut hs2 (Ne.symm ne), fun h' hs' => ⟨_, H', J2.turned (t' := s2.toks) (fun b o hb e => (hs'.2 b hb).trans e) f0 f1 f3 f4 f5, q⟩⟩
end
inductive Freed (X : Cx) (scope : Scope) : List (Str × Addr) → List Str → List Nat → Prop where
  | nil : Freed X scope [] [] []
  | cons {cl : List (Str × Addr)} {fn : List Str} {fv : List Nat} {y : Str} {c : Addr} {k : Nat} (r : Freed X scope cl fn fv) (cell : X.env.cells.lookup y = some c) (hN : X.N[k]? = some y) (hv : Vis X.env.scope y) (hk : X.env.kindOf y = some .cell)
      (hr : (relabel scope X.env).names.lookup y = some .cell) : Freed X scope ((y, c) :: cl) (y :: fn) (k :: fv)
theorem Freed.cells {X : Cx} {scope : Scope} {cl : List (Str × Addr)} {fn : List Str} {fv : List Nat} (h : Freed X scope cl fn fv) : ∀ y c, cl.lookup y = some c → X.env.cells.lookup y = some c := by
  induction h with
  | nil => intro y c h; cases h
  | cons r cell hN hv hk hr ih =>
    intro z d h
    rw [List.lookup_cons] at h
    split at h
    · rename_i e
      rw [beq_iff_eq.mp e]
      cases h
      exact cell
    · exact ih z d h
theorem Freed.slots {X : Cx} {scope : Scope} {cl : List (Str × Addr)} {fn : List Str} {fv : List Nat} (h : Freed X scope cl fn fv) : ∀ (j : Nat) (y : Str), fn[j]? = some y → ∃ k, fv[j]? = some k ∧ X.N[k]? = some y ∧ Vis X.env.scope y ∧ X.env.kindOf y = some .cell ∧ (relabel scope X.env).names.lookup y = some .cell := by
  induction h with
  | nil => intro j y h; cases h
  | cons r cell hN hv hk hr ih =>
    intro j y h
    cases j with
    | zero => cases Option.some.inj h; exact ⟨_, rfl, hN, hv, hk, hr⟩
    | succ j => exact ih j y h
theorem Freed.len {X : Cx} {scope : Scope} {cl : List (Str × Addr)} {fn : List Str} {fv : List Nat} (h : Freed X scope cl fn fv) : fv.length = fn.length := by
  induction h with
  | nil => rfl
  | cons _ _ _ _ _ _ ih => simp [ih]
theorem compT {X : Cx} {scope : Scope} {cl : List (Str × Addr)} {tn fn : List Str} {fv : List Nat} (kind : scope.kind = .function) (ncell : ∀ y ∈ scope.names, y.2 ≠ .cell) (names : ∀ y ∈ scope.names, y.2 = .local → scope.names.lookup y.1 = some .local)
    (clos : closureFor scope X.env = pure cl) (free : AllFree cl scope.names) (h : Freed X scope cl fn fv) : CompOkT X scope cl tn fn fv :=
  ⟨kind, ncell, names, clos, h.cells, relabel_free ncell free, h.slots, h.len⟩
end L2
namespace L2
open PySem PySem.Spec PyProof.Rows
section
variable {M : Model} {A : Around} {E : Value → Shared → Prop} {s : Shared}
theorem setFlight_held {base : Heap} {l : List Env} {e L : Addr} {cls a0 : Value} {Q : Unit → Shared → Prop} (R : Heap.HeldW base l e cls a0 L s.heap)
    (h : ∀ h', Heap.HeldW base l e cls a0 L h' → s.heap.UpToSlots h' → Q () { s with heap := h' }) : wpAny M A (setFlight (.ref e) (some L)) Q E s := by
  obtain ⟨hkb, hen, hl, oe, vs, T, oT, ts, he, hcls, hd, h1, hnT, hTe, hT, hdT, h3⟩ := R
  have hsz3 : 3 < ts.size := (Array.getElem?_eq_some_iff.mp h3).1
  have other : ∀ b, b ≠ T → (s.heap.update T (Obj.mapFields (·.setIfInBounds 3 ((some L).elim Value.none fun f => rawInt f)))).get? b = s.heap.get? b :=
    fun b hb => Heap.get?_update_other _ _ (Ne.symm hb)
  have noRecord : ∀ b o, s.heap.get? b = some o → (∀ vs, o.data ≠ .fields vs) → b ≠ T := fun b o hb hnf q => by
    rw [q, hT] at hb; injection hb with hb; subst hb; exact hnf ts hdT
  unfold setFlight
  refine wpAny_bind (wpAny_field he hd h1 ?_)
  rw [if_pos (show (Value.ref T != Value.none) = true from by simp)]
  refine wpAny_setField hT hdT hsz3 (h _ ⟨fun b o hbo => (other b fun q => by rw [q, hnT] at hbo; cases hbo).trans (hkb b o hbo), hen,
    hl.of_keeps fun b o hb hnf => ⟨o, (other b (noRecord b o hb hnf)).trans hb, rfl⟩, ?_⟩ fun b o hb hnf => ⟨o.slots, (other b (noRecord b o hb hnf)).trans hb⟩)
  exact ⟨oe, vs, T, _, _, (other e (Ne.symm hTe)).trans he, hcls, hd, h1, hnT, hTe, Heap.get?_update_self _ hT (Obj.isFreed_of_fields (Obj.data_mapFields hdT _)), Obj.data_mapFields hdT _, by simp [hsz3]⟩
end
def HeldP (X : Cx) (E : XK) (e : Value) (s' : Shared) : Prop := ∃ (pins : List (Addr × Obj)) (ea : Addr) (C : Value) (B : Heap) (a0 : Value) (H' : Hp) (σ' : St),
  e = .ref ea ∧ Inv X pins σ' H' s' ∧ Heap.HeldW B X.stack ea C a0 X.env.locals s'.heap ∧ Aloft X pins H' B ∧ E C none H'
def xeL (X : Cx) (E : XK) : Value → Shared → Prop := fun e s' => wpAny (model X.prog X.w) X.A (noteFrame e X.env) (fun _ s'' => HeldP X E e s'') (fun _ _ => False) s'
def loopCx (X : Cx) (E : XK) : Cx := X.wish (xeL X E)
section
variable {X : Cx} {E : XK}
theorem loop_passes (b : Body X E) : PassesOwn (model X.prog X.w) X.A X.env (xeL X E) := by
  intro e s' h
  refine wpAny_mono h (fun _ s1 hp => ?_) fun _ _ z => z.elim
  obtain ⟨pins, ea, C, B, a0, H', σ', rfl, I, hh, al, q⟩ := hp
  obtain ⟨_, _, _, oe, vs, T, oT, ts, he, hcls, hd, h1, _⟩ := id hh
  unfold cameBackBy
  refine wpAny_bind (wpAny_field he hd h1 ?_)
  rw [if_neg (show ¬ ((Value.ref T == Value.none) = true) from by simp)]
  have key : wpAny (model X.prog X.w) X.A (setFlight (.ref ea) X.env.frame) (fun _ s2 => xeL X E (.ref ea) s2) (xeL X E) s1 := by
    rw [b.fr]
    refine setFlight_held hh fun h2 hh2 us => ?_
    have I2 : Inv X pins σ' H' { s1 with heap := h2 } := I.upto (t' := s1.toks) b al hh.1 hh2.1 us
    exact wpAny_noteFrame_againW b.fr hh2.2.2.2 ⟨pins, ea, C, B, a0, H', σ', rfl, I2, hh2, al, q⟩
  first
    | exact wpAny_bind (wpAny_pure key)
    | exact key
theorem loop_leave (b : Body X E) {e : Value} {s' : Shared} (h : xeL X E e s') : X.xe e s' := by
  refine b.xe _ _ ?_
  unfold leaving
  refine wpAny_bind (wpAny_mono h (fun _ s1 hp => ?_) fun _ _ z => z.elim)
  obtain ⟨pins, ea, C, B, a0, H', σ', rfl, I, hh, al, q⟩ := hp
  refine wpAny_landsW hh fun h2 fl us => ?_
  have fl2 : Heap.FlyingW B X.outer ea C a0 h2 := by
    rw [b.stk] at fl
    obtain ⟨k1, k2, ⟨_, _, k3⟩, k4⟩ := fl
    exact ⟨k1, k2, k3, k4⟩
  refine b.out I fl2 (fun c _ o z nf => us c o z nf) (fun c o z w => ?_) al.trk al.old q
  obtain ⟨o', w⟩ := w
  have e1 := hh.1 c o' w
  rw [z] at e1
  cases e1
  exact fl2.1 c o w
theorem loop_pass (b : Body X E) : Passes (CXx X.prog X.w) (loopCx X E) E := by
  intro ps σ H s e s' I h
  obtain ⟨ea, C, B, a0, H', rfl, os, bare, un, hok, fl, trk, old, q⟩ := h
  have I1 : Inv X ps σ H s := I.unwish
  have I' : Inv X ps σ H' s' := I1.call' (ch := []) os un hok bare (fun b z => absurd z (by simp))
  have al : Aloft X ps H' B := by
    refine ⟨trk, fun p hp => ?_, fun c o z n => ?_⟩
    · obtain ⟨e1, _, ne, nf, _⟩ := I1.pin p hp
      refine old p.1 p.2 e1 fun m => ?_
      have m' : p.1 ∈ L2.frs X.stack := m
      rw [b.frs] at m'
      rcases List.mem_cons.mp m' with y | y
      · exact ne y
      · exact nf y
    · obtain ⟨o', e1⟩ := I1.base.there c o z (by rw [b.ex]; simp)
      exact old c o' e1 n
  have fl : Heap.FlyingW B X.stack ea C a0 s'.heap := fl
  have fl' := fl
  rw [b.stk] at fl'
  refine wpAny_looks_onW (I1.ok.frames.trans (congrArg some b.stk)) b.fr fl' fun h2 hh us => ?_
  rw [← b.stk] at hh
  exact ⟨ps, ea, C, B, a0, H', σ, rfl, I'.upto (t' := s'.toks) b al fl.1 hh.1 us, hh, al, q⟩
theorem loop_made {pins : List (Addr × Obj)} {σ : St} {H : Hp} {s : Shared} {e : Addr} {C : Value} {args : List Value} {h' : Heap} (b : Body X E) (I : Inv X pins σ H s) (hx : Heap.MadeExcOf s.heap h' e C args) (h : E C none H) :
    xeL X E (.ref e) { s with heap := h' } := by
  have hF := PySem.W.funFrames_hide (as := L2.frs X.stack) I.stack fun env he a ha => List.mem_filterMap.mpr ⟨env, he, ha⟩
  have kB : ∀ c o, s.heap.get? c = some o → c ∉ L2.frs X.stack → (PySem.W.hideAll s.heap (L2.frs X.stack)).get? c = some o := fun c o q n => PySem.W.hideAll_get _ q n
  have hkb : (PySem.W.hideAll s.heap (L2.frs X.stack)).StaysIn s.heap := fun c o q => PySem.W.of_hideAll (L2.frs X.stack) q
  obtain ⟨t, he, htn, ht⟩ := hx.there
  have fresh : ∀ c, s.heap.get? c = none → (PySem.W.hideAll s.heap (L2.frs X.stack)).get? c = none := fun c hc => by
    cases hq : (PySem.W.hideAll s.heap (L2.frs X.stack)).get? c with
    | none => rfl
    | some o' => have := hkb c o' hq; rw [hc] at this; cases this
  have al : Aloft X pins H (PySem.W.hideAll s.heap (L2.frs X.stack)) := by
    refine ⟨fun c n => ?_, fun p hp => ?_, fun c o q n => ?_⟩
    · cases q : H c with
      | none => exact absurd q n
      | some u =>
        obtain ⟨o, e1⟩ := (I.hok c u q).there
        exact ⟨o, kB c o e1 fun m => n (I.stkFree c m)⟩
    · obtain ⟨e1, _, ne, nf, _⟩ := I.pin p hp
      refine ⟨p.2, kB p.1 p.2 e1 fun m => ?_⟩
      rw [b.frs] at m
      rcases List.mem_cons.mp m with y | y
      · exact ne y
      · exact nf y
    · obtain ⟨o', e1⟩ := I.base.there c o q (by rw [b.ex]; simp)
      exact ⟨o', kB c o' e1 n⟩
  have hfr : X.A.frames = some (X.env :: X.outer) := I.ok.frames.trans (congrArg some b.stk)
  have hF' : s.heap.FunFrames (PySem.W.hideAll s.heap (L2.frs X.stack)) (X.env :: X.outer) := by
    have z := hF
    generalize PySem.W.hideAll s.heap (L2.frs X.stack) = B at z ⊢
    rw [b.stk] at z
    exact z
  unfold xeL noteFrame
  simp only [b.fr]
  refine wpAny_bind (wpAny_field (s := { s with heap := h' }) he rfl (x := .none) rfl ?_)
  rw [if_neg (by decide)]
  refine wpAny_entryW (base := PySem.W.hideAll s.heap (L2.frs X.stack)) (a0 := .ref t) hfr (hF'.of_keeps fun c o hb _ => ⟨o, hx.keeps c o hb, rfl⟩) b.fr he (fun c o hb => hx.keeps c o (hkb c o hb)) (fresh e hx.new) rfl (by show 1 < 6; decide) rfl fun h2 hN => ?_
  obtain ⟨x1, x2, x3, x4⟩ := hN
  rw [← b.stk] at x2
  refine ⟨pins, e, C, _, .ref t, H, σ, rfl, Inv.upto (s := s) (h2 := h2) (t' := s.toks) b I al hkb x1 (fun c o q nf => x4 c o (hx.keeps c o q) nf), ⟨x1, fresh e hx.new, x2, x3⟩, al, h⟩
theorem ps_loop {st : Stmt} {t : TS} (b : Body X E) (h : PS (loopCx X E) st t) : PS X st t := fun pins s σ H D I hw =>
  wpAny_mono (h pins s σ H D (I.wish _) hw) (fun _ _ q => SP.unwish q) fun _ _ q => loop_leave b q
theorem ps_raiseL {x : Str} {np cpos pos : Pos} {e₀ : Expr} {es : List Expr} {t : TA} {C : Addr} (b : Body X E) (hc : X.calm = true) (hg : Gl (loopCx X E) x) (hm : X.mg x = some (.ref C)) (hx : Exc X.K C) (ha : PA (loopCx X E) (e₀ :: es) t)
    (hdb : (x == ("__debug__" : Str)) = false := by decide) (he : starEach (e₀ :: es) X.env = (false, eval e₀ X.env) :: starEach es X.env := by rfl) (hpl : (backTo cpos (starEach es X.env)).any (·.1) = false := by rfl) :
    PS (loopCx X E) (.Raise (some (.Call (.Name x np) (e₀ :: es) [] cpos)) none pos) (tRaise C E t) := by
  intro pins s σ H D I h
  obtain ⟨bm, N, nm, qn, bs, hdct, sn, sub, ab, col, dd, k0, k1, k2, k3, k5, mN, hC, hN, hni, T⟩ := exc_obj I.ok.mod.kin hx.is
  have hA := ha cpos pins s σ H _ I h
  have hp : (backTo cpos (starEach (e₀ :: es) X.env)).any (·.1) = false := by
    rw [he]
    exact hpl
  refine wpAny_Raise_call_subT (C := C) (nm := nm) (q := qn) (N := N) (bs := bs) (bm := bm) (hdct := hdct) (sn := sn) (sub := sub) (ab := ab) (col := col) (dd := dd) (k0 := k0) (k1 := k1) (k2 := k2) (k3 := k3) (k5 := k5)
    PySem.F.excBase_ValueError (mN := mN) (T.hasType PySem.F.excBase_ValueError.hasBase) (I.ok.hd hc) hp hni (ld_glob I hg hm ⟨rfl, ?_⟩ hdb)
  have he' : starEach (e₀ :: es) (loopCx X E).env = (false, eval e₀ (loopCx X E).env) :: starEach es (loopCx X E).env := he
  rw [he'] at hA ⊢
  refine Calls.evalArgs_plain (thn hA fun us s2 ⟨vs, H1, I1, r, z, q⟩ => ?_)
  exact ⟨rfl, by rw [← r.length]; exact z, I1.bk _ _ hC, hN.keeps I1.bk, T.keeps I1.bk, fun h' e hx => loop_made b I1.unwish hx q⟩
end
end L2
namespace L2
open PySem PySem.Spec PyProof.Rows
inductive D where
  | non | bl (b : Bool) | int (i : Int) | str (x : Str) | lst (ds : List D) | tup (ds : List D) | scr (ns : List Int) | kt (xs : List V) | dtt (ks : List (List Int)) (ds : List D)
mutual
def Rep (K : PySem.W.Frag) (F : Hp) : D → V → Prop
  | .non, v => v = .non
  | .bl b, v => v = .bl b
  | .int i, v => v = .int i
  | .str x, v => v = .str x
  | .lst ds, v => ∃ a xs, v = .ref a ∧ F a = some (.lst xs) ∧ Reps K F ds xs
  | .tup ds, v => ∃ a xs, v = .ref a ∧ F a = some (.tup xs) ∧ Reps K F ds xs
  | .scr ns, v => ∃ a, v = .ref a ∧ SqL K F a (ns.map V.int)
  | .kt xs, v => ∃ a, v = .ref a ∧ SqT K F a xs
  | .dtt ks ds, v => ∃ (a : Addr) (kvs : List (List Key × V)), v = .ref a ∧ F a = some (.dT kvs) ∧ kvs.map (·.1) = ks.map (·.map Sum.inl) ∧ Reps K F ds (kvs.map (·.2))
def Reps (K : PySem.W.Frag) (F : Hp) : List D → List V → Prop
  | [], xs => xs = []
  | d :: ds, xs => ∃ x r, xs = x :: r ∧ Rep K F d x ∧ Reps K F ds r
end
theorem Same.seqT {K : PySem.W.Frag} {H H' : Hp} {a : Addr} {xs : List V} (e : Same H H') (h : SqT K H a xs) : SqT K H' a xs := by
  rcases h with (h | ⟨o, h⟩) | h
  · exact .inl (.inl (e _ _ h))
  · exact .inl (.inr ⟨o, e _ _ h⟩)
  · exact .inr h
mutual
theorem Rep.mono {K : PySem.W.Frag} {F F' : Hp} (s : Same F F') : ∀ (d : D) {v : V}, Rep K F d v → Rep K F' d v
  | .non, _, h => h
  | .bl _, _, h => h
  | .int _, _, h => h
  | .str _, _, h => h
  | .lst ds, _, ⟨a, xs, e, h, r⟩ => ⟨a, xs, e, s a _ h, Reps.mono s ds r⟩
  | .tup ds, _, ⟨a, xs, e, h, r⟩ => ⟨a, xs, e, s a _ h, Reps.mono s ds r⟩
  | .scr _, _, ⟨a, e, h⟩ => ⟨a, e, s.seq h⟩
  | .kt _, _, ⟨a, e, h⟩ => ⟨a, e, s.seqT h⟩
  | .dtt ks ds, _, ⟨a, kvs, e, h, hk, r⟩ => ⟨a, kvs, e, s a _ h, hk, Reps.mono s ds r⟩
theorem Reps.mono {K : PySem.W.Frag} {F F' : Hp} (s : Same F F') : ∀ (ds : List D) {xs : List V}, Reps K F ds xs → Reps K F' ds xs
  | [], _, h => h
  | d :: ds, _, ⟨x, r, e, h, t⟩ => ⟨x, r, e, Rep.mono s d h, Reps.mono s ds t⟩
end
section
variable {K : PySem.W.Frag} {F : Hp}
theorem Reps.nil : Reps K F [] [] := rfl
theorem Reps.cons {d : D} {ds : List D} {x : V} {xs : List V} (h : Rep K F d x) (t : Reps K F ds xs) : Reps K F (d :: ds) (x :: xs) := ⟨x, xs, rfl, h, t⟩
theorem Reps.length : ∀ {ds : List D} {xs : List V}, Reps K F ds xs → xs.length = ds.length
  | [], _, h => by rw [show _ = [] from h]; rfl
  | d :: ds, _, ⟨x, r, e, _, t⟩ => by rw [e, List.length_cons, List.length_cons, Reps.length t]
theorem Reps.get : ∀ {ds : List D} {xs : List V} {i : Nat} {d : D}, Reps K F ds xs → ds[i]? = some d → ∃ x, xs[i]? = some x ∧ Rep K F d x
  | [], _, i, d, _, e => by simp at e
  | d :: ds, _, 0, d', ⟨x, r, e, h, t⟩, q => by cases Option.some.inj q; rw [e]; exact ⟨x, rfl, h⟩
  | d :: ds, _, i + 1, d', ⟨x, r, e, h, t⟩, q => by
    obtain ⟨y, h1, h2⟩ := Reps.get (ds := ds) t (show ds[i]? = some d' from q)
    rw [e]
    exact ⟨y, h1, h2⟩
theorem Reps.get' : ∀ {ds : List D} {xs : List V} {i : Nat} {x : V}, Reps K F ds xs → xs[i]? = some x → ∃ d, ds[i]? = some d ∧ Rep K F d x
  | [], _, i, x, h, e => by rw [show _ = [] from h] at e; simp at e
  | d :: ds, _, 0, x', ⟨x, r, e, h, t⟩, q => by rw [e] at q; cases Option.some.inj q; exact ⟨d, rfl, h⟩
  | d :: ds, _, i + 1, x', ⟨x, r, e, h, t⟩, q => by rw [e] at q; exact Reps.get' (ds := ds) t (show r[i]? = some x' from q)
theorem Reps.append : ∀ {ds es : List D} {xs ys : List V}, Reps K F ds xs → Reps K F es ys → Reps K F (ds ++ es) (xs ++ ys)
  | [], _, _, _, h, t => by rw [show _ = [] from h]; exact t
  | d :: ds, _, _, _, ⟨x, r, e, h, q⟩, t => by rw [e]; exact ⟨x, _, rfl, h, Reps.append q t⟩
theorem Reps.of : ∀ {ds : List D} {xs : List V}, xs.length = ds.length → (∀ (i : Nat) d x, ds[i]? = some d → xs[i]? = some x → Rep K F d x) → Reps K F ds xs
  | [], [], _, _ => rfl
  | [], _ :: _, l, _ => by simp at l
  | d :: ds, [], l, _ => by simp at l
  | d :: ds, x :: xs, l, h => ⟨x, xs, rfl, h 0 d x rfl rfl, Reps.of (by simpa using l) fun i d' x' e1 e2 => h (i + 1) d' x' e1 e2⟩
theorem Reps.ints : ∀ (ns : List Int), Reps K F (ns.map D.int) (ns.map V.int)
  | [] => rfl
  | n :: ns => ⟨_, _, rfl, rfl, Reps.ints ns⟩
theorem Reps.ints_eq : ∀ {ns : List Int} {xs : List V}, Reps K F (ns.map D.int) xs → xs = ns.map V.int
  | [], _, h => h
  | n :: ns, _, ⟨x, r, e, h, t⟩ => by rw [e, show x = V.int n from h, Reps.ints_eq t]; rfl
theorem Reps.perm : ∀ {xs ys : List V}, ys.Perm xs → ∀ {ds : List D}, Reps K F ds xs → ∃ es, es.Perm ds ∧ Reps K F es ys := by
  intro xs ys hp
  induction hp with
  | nil => intro ds h; exact ⟨ds, .refl _, h⟩
  | cons x _ ih =>
    intro ds h
    cases ds with
    | nil => cases h
    | cons d ds =>
      obtain ⟨y, r, e, h1, h2⟩ := h
      cases e
      obtain ⟨es, p, q⟩ := ih h2
      exact ⟨d :: es, p.cons _, _, _, rfl, h1, q⟩
  | swap x y l =>
    intro ds h
    cases ds with
    | nil => cases h
    | cons d ds =>
      obtain ⟨_, _, e, h1, h2⟩ := h
      cases e
      cases ds with
      | nil => cases h2
      | cons d' ds =>
        obtain ⟨_, _, e, h3, h4⟩ := h2
        cases e
        exact ⟨d' :: d :: ds, .swap _ _ _, _, _, rfl, h3, _, _, rfl, h1, h4⟩
  | trans _ _ ih1 ih2 =>
    intro ds h
    obtain ⟨es, p, q⟩ := ih2 h
    obtain ⟨fs, p', q'⟩ := ih1 q
    exact ⟨fs, p'.trans p, q'⟩
end
structure Grow (F H F' H' : Hp) : Prop where
  hh : Same H H'
  ff : Same F F'
  sub : Same F' H'
  new : ∀ a, F a = none → F' a ≠ none → H a = none ∨ ∃ xs, H a = some (.tup xs)
theorem Grow.refl {F H : Hp} (s : Same F H) : Grow F H F H := ⟨Same.refl _, Same.refl _, s, fun _ e n => absurd e n⟩
theorem Grow.trans {F H F1 H1 F2 H2 : Hp} (a : Grow F H F1 H1) (b : Grow F1 H1 F2 H2) : Grow F H F2 H2 := by
  refine ⟨a.hh.trans b.hh, a.ff.trans b.ff, b.sub, fun x e n => ?_⟩
  by_cases h : F1 x = none
  · rcases b.new x h n with z | ⟨xs, z⟩
    · exact .inl (a.hh.free z)
    · cases q : H x with
      | none => exact .inl rfl
      | some o =>
        have w := a.hh x o q
        rw [z] at w
        exact .inr ⟨xs, w.symm⟩
  · exact a.new x e h
theorem Grow.lay {F H : Hp} {a : Addr} {o : HO} (s : Same F H) (h : H a = none) : Grow F H (upd F a o) (upd H a o) := by
  refine ⟨fun b u e => ?_, fun b u e => ?_, fun b u e => ?_, fun b e n => ?_⟩
  · rw [upd_ne (ne_of_none e h)]; exact e
  · rw [upd_ne (ne_of_none (s _ _ e) h)]; exact e
  · by_cases hb : b = a
    · subst hb; rw [upd_same] at e ⊢; exact e
    · rw [upd_ne hb] at e ⊢; exact s _ _ e
  · by_cases hb : b = a
    · rw [hb]; exact .inl h
    · rw [upd_ne hb] at n; exact absurd e n
theorem Grow.keep {F H : Hp} {a : Addr} {o : HO} (s : Same F H) (h : H a = none) : Grow F H F (upd H a o) := by
  refine ⟨fun b u e => ?_, Same.refl _, fun b u e => ?_, fun b e n => absurd e n⟩
  · rw [upd_ne (ne_of_none e h)]; exact e
  · rw [upd_ne (ne_of_none (s _ _ e) h)]; exact s _ _ e
inductive DS where
  | un | sh (d : D) | own (ds : List D) | dic (kvs : List (Key × D)) | dct (ks : List (List Int)) (ds : List D) | obj (v : V) (fp : List Addr) (R : Hp → Prop)
def Local (fp : List Addr) (R : Hp → Prop) : Prop := ∀ H1 H2 : Hp, (∀ a ∈ fp, H2 a = H1 a) → (∀ a xs, H1 a = some (.tup xs) → H2 a = some (.tup xs)) → R H1 → R H2
def RepKV (K : PySem.W.Frag) (F : Hp) (kds : List (Key × D)) (kvs : List (Key × V)) : Prop := kvs.map (·.1) = kds.map (·.1) ∧ Reps K F (kds.map (·.2)) (kvs.map (·.2))
def SlotOk (K : PySem.W.Frag) (F H : Hp) : DS → Option V → Prop
  | .un, _ => True
  | .sh d, o => ∃ v, o = some v ∧ Rep K F d v
  | .own ds, o => ∃ a xs, o = some (.ref a) ∧ F a = none ∧ H a = some (.lst xs) ∧ Reps K F ds xs
  | .dic kds, o => ∃ a kvs, o = some (.ref a) ∧ F a = none ∧ H a = some (.dK kvs) ∧ RepKV K F kds kvs
  | .dct ks ds, o => ∃ (a : Addr) (kvs : List (List Key × V)), o = some (.ref a) ∧ F a = none ∧ H a = some (.dT kvs) ∧ kvs.map (·.1) = ks.map (·.map Sum.inl) ∧ Reps K F ds (kvs.map (·.2))
  | .obj v fp R, o => o = some v ∧ (∀ a ∈ fp, F a = none ∧ ∃ u, H a = some u ∧ ∀ xs, u ≠ .tup xs) ∧ Local fp R ∧ R H
def isOwn : DS → Bool
  | .own _ => true
  | .dic _ => true
  | .dct _ _ => true
  | .obj _ _ _ => true
  | _ => false
def isPl : DS → Bool
  | .own _ => true
  | .dic _ => true
  | .dct _ _ => true
  | _ => false
def has (s : DS) (o : Option V) (a : Addr) : Prop := match s with
  | .obj _ fp _ => a ∈ fp
  | _ => o = some (.ref a)
theorem pl_own {s : DS} (h : isPl s = true) : isOwn s = true := by cases s <;> first | rfl | cases h
theorem pl_has {s : DS} {o : Option V} {a : Addr} (h : isPl s = true) : has s o a ↔ o = some (.ref a) := by cases s <;> first | exact Iff.rfl | cases h
abbrev DEnv := List DS
structure Slots (K : PySem.W.Frag) (F H : Hp) (σ : St) (env : DEnv) : Prop where
  len : env.length = σ.length
  ok : ∀ (i : Nat) s, env[i]? = some s → SlotOk K F H s (σ[i]?).join
  apart : ∀ (i j : Nat) s t a, env[i]? = some s → env[j]? = some t → isOwn s = true → isOwn t = true → has s (σ[i]?).join a → has t (σ[j]?).join a → i = j
theorem SlotOk.grow {K : PySem.W.Frag} {F H F' H' : Hp} {s : DS} {o : Option V} (h : SlotOk K F H s o) (g : Grow F H F' H') : SlotOk K F' H' s o := by
  have free : ∀ a u, F a = none → H a = some u → (∀ xs, u ≠ .tup xs) → F' a = none := fun a u e1 e2 nt => by
    cases q : F' a with
    | none => rfl
    | some _ =>
      rcases g.new a e1 (by rw [q]; exact fun z => nomatch z) with z | ⟨xs, z⟩
      · rw [z] at e2
        cases e2
      · rw [z] at e2
        cases e2
        exact absurd rfl (nt xs)
  cases s with
  | un => trivial
  | sh d => obtain ⟨v, e, r⟩ := h; exact ⟨v, e, Rep.mono g.ff _ r⟩
  | own ds => obtain ⟨a, xs, e, f, q, r⟩ := h; exact ⟨a, xs, e, free a _ f q (fun _ z => nomatch z), g.hh _ _ q, Reps.mono g.ff _ r⟩
  | dic kds => obtain ⟨a, xs, e, f, q, r1, r2⟩ := h; exact ⟨a, xs, e, free a _ f q (fun _ z => nomatch z), g.hh _ _ q, r1, Reps.mono g.ff _ r2⟩
  | dct ks ds => obtain ⟨a, xs, e, f, q, r1, r2⟩ := h; exact ⟨a, xs, e, free a _ f q (fun _ z => nomatch z), g.hh _ _ q, r1, Reps.mono g.ff _ r2⟩
  | obj v fp R =>
    obtain ⟨e, f, lc, r⟩ := h
    refine ⟨e, fun a m => ?_, lc, lc _ _ (fun a m => ?_) (fun a xs q => g.hh _ _ q) r⟩
    · obtain ⟨f1, u, f2, f3⟩ := f a m
      exact ⟨free a u f1 f2 f3, u, g.hh _ _ f2, f3⟩
    · obtain ⟨f1, u, f2, f3⟩ := f a m
      rw [f2, g.hh _ _ f2]
theorem SlotOk.off {K : PySem.W.Frag} {F H : Hp} {t : DS} {o : Option V} {a : Addr} {u : HO} (z : SlotOk K F H t o) (ne : isOwn t = true → ∀ b, has t o b → b ≠ a) (nt : ∀ xs, H a ≠ some (.tup xs)) : SlotOk K F (upd H a u) t o := by
  cases t with
  | un => trivial
  | sh d => exact z
  | own ds => obtain ⟨b, xs, e1, f, l, r⟩ := z; exact ⟨b, xs, e1, f, by rw [upd_ne (ne rfl b e1)]; exact l, r⟩
  | dic ds => obtain ⟨b, xs, e1, f, l, r⟩ := z; exact ⟨b, xs, e1, f, by rw [upd_ne (ne rfl b e1)]; exact l, r⟩
  | dct ks ds => obtain ⟨b, xs, e1, f, l, r⟩ := z; exact ⟨b, xs, e1, f, by rw [upd_ne (ne rfl b e1)]; exact l, r⟩
  | obj v fp R =>
    obtain ⟨e, f, lc, r⟩ := z
    refine ⟨e, fun b m => ?_, lc, lc _ _ (fun b m => upd_ne (ne rfl b m)) (fun b xs q => ?_) r⟩
    · rw [upd_ne (ne rfl b m)]
      exact f b m
    · have hb : b ≠ a := fun z => nt xs (z ▸ q)
      rw [upd_ne hb]
      exact q
theorem SlotOk.frz {K : PySem.W.Frag} {F H : Hp} {t : DS} {o : Option V} {a : Addr} {u : HO} (z : SlotOk K F H t o) (f0 : F a = none) (ne : isOwn t = true → ∀ b, has t o b → b ≠ a) : SlotOk K (upd F a u) H t o := by
  have ff : Same F (upd F a u) := fun b o z => by rw [upd_ne (ne_of_none z f0)]; exact z
  cases t with
  | un => trivial
  | sh d => obtain ⟨v, y1, y2⟩ := z; exact ⟨v, y1, Rep.mono ff _ y2⟩
  | own es => obtain ⟨b, ys, y1, y2, y3, y4⟩ := z; exact ⟨b, ys, y1, by rw [upd_ne (ne rfl b y1)]; exact y2, y3, Reps.mono ff _ y4⟩
  | dic es => obtain ⟨b, ys, y1, y2, y3, y4, y5⟩ := z; exact ⟨b, ys, y1, by rw [upd_ne (ne rfl b y1)]; exact y2, y3, y4, Reps.mono ff _ y5⟩
  | dct ks es => obtain ⟨b, ys, y1, y2, y3, y4, y5⟩ := z; exact ⟨b, ys, y1, by rw [upd_ne (ne rfl b y1)]; exact y2, y3, y4, Reps.mono ff _ y5⟩
  | obj v fp R =>
    obtain ⟨e, f, lc, r⟩ := z
    refine ⟨e, fun b m => ?_, lc, r⟩
    rw [upd_ne (ne rfl b m)]
    exact f b m
theorem SlotOk.there {K : PySem.W.Frag} {F H : Hp} {t : DS} {o : Option V} {a : Addr} (z : SlotOk K F H t o) (ow : isOwn t = true) (h : has t o a) : F a = none ∧ ∃ u, H a = some u ∧ ∀ xs, u ≠ .tup xs := by
  cases t with
  | un => cases ow
  | sh d => cases ow
  | own ds => obtain ⟨b, xs, e1, f, l, r⟩ := z; rw [show o = _ from h] at e1; cases e1; exact ⟨f, _, l, fun _ y => nomatch y⟩
  | dic ds => obtain ⟨b, xs, e1, f, l, r⟩ := z; rw [show o = _ from h] at e1; cases e1; exact ⟨f, _, l, fun _ y => nomatch y⟩
  | dct ks ds => obtain ⟨b, xs, e1, f, l, r⟩ := z; rw [show o = _ from h] at e1; cases e1; exact ⟨f, _, l, fun _ y => nomatch y⟩
  | obj v fp R => obtain ⟨e, f, lc, r⟩ := z; exact f a h
theorem Slots.grow {K : PySem.W.Frag} {F H F' H' : Hp} {σ : St} {env : DEnv} (h : Slots K F H σ env) (g : Grow F H F' H') : Slots K F' H' σ env :=
  ⟨h.len, fun i s e => (h.ok i s e).grow g, h.apart⟩
def Fresh (H0 : Hp) (σ : St) (env : DEnv) : Prop := ∀ (i : Nat) s a, env[i]? = some s → isOwn s = true → has s (σ[i]?).join a → H0 a = none
abbrev Exs := Addr → Prop
abbrev GE := DEnv → Exs → (D → Prop) → Prop
abbrev GT := DEnv → Exs → (Bool → Prop) → Prop
abbrev GA := DEnv → Exs → (List D → Prop) → Prop
def ExOk (E : XK) (Ex : Exs) (H : Hp) : Prop := ∀ C, Ex C → ∀ H', Same H H' → E (.ref C) none H'
theorem ExOk.step {E : XK} {Ex : Exs} {H H' : Hp} (h : ExOk E Ex H) (s : Same H H') : ExOk E Ex H' := fun C e H'' s' => h C e H'' (s.trans s')
def Fin1 (K : PySem.W.Frag) (F H : Hp) (Qd : D → Prop) (Q : VK) : Prop := ∀ d v F' H', Qd d → Grow F H F' H' → Rep K F' d v → Q v H'
theorem Fin1.step {K : PySem.W.Frag} {F H F' H' : Hp} {Qd : D → Prop} {Q : VK} (h : Fin1 K F H Qd Q) (g : Grow F H F' H') : Fin1 K F' H' Qd Q := fun d v F2 H2 q g2 r => h d v F2 H2 q (g.trans g2) r
theorem Fin1.now {K : PySem.W.Frag} {F H : Hp} {Qd : D → Prop} {Q : VK} {d : D} {v : V} (h : Fin1 K F H Qd Q) (s : Same F H) (q : Qd d) (r : Rep K F d v) : Q v H := h d v F H q (Grow.refl s) r
def DTE (K : PySem.W.Frag) (E : XK) (g : GE) : TE := fun σ H Q => ∃ F env Ex Qd, Same F H ∧ Slots K F H σ env ∧ ExOk E Ex H ∧ g env Ex Qd ∧ Fin1 K F H Qd Q
def DTT (K : PySem.W.Frag) (E : XK) (g : GT) : TT := fun σ H Q => ∃ F env Ex Qd, Same F H ∧ Slots K F H σ env ∧ ExOk E Ex H ∧ g env Ex Qd ∧ ∀ b F' H', Qd b → Grow F H F' H' → Q b H'
def DTA (K : PySem.W.Frag) (E : XK) (g : GA) : TA := fun σ H Q => ∃ F env Ex Qd, Same F H ∧ Slots K F H σ env ∧ ExOk E Ex H ∧ g env Ex Qd ∧ ∀ ds vs F' H', Qd ds → Grow F H F' H' → Reps K F' ds vs → Q vs H'
structure DE (X : Cx) (E : XK) (e : Expr) (g : GE) : Prop where
  h : PE X e (DTE X.K E g)
structure DT (X : Cx) (E : XK) (e : Expr) (g : GT) : Prop where
  h : PT X e (DTT X.K E g)
structure DW (X : Cx) (E : XK) (e : Expr) (g : GT) : Prop where
  h : PW X e (DTT X.K E g)
structure DA (X : Cx) (E : XK) (es : List Expr) (g : GA) : Prop where
  h : PA X es (DTA X.K E g)
def DTF (K : PySem.W.Frag) (E : XK) (g : GA) : TE := fun σ H Q => ∃ F env Ex Qd, Same F H ∧ Slots K F H σ env ∧ ExOk E Ex H ∧ g env Ex Qd ∧
  ∀ ds a xs F' H', Qd ds → Grow F H F' H' → F' a = none → H a = none → H' a = some (.lst xs) → Reps K F' ds xs → Q (.ref a) H'
structure DF (X : Cx) (E : XK) (e : Expr) (g : GA) : Prop where
  h : PE X e (DTF X.K E g)
theorem PE.weak {X : Cx} {e : Expr} {t t' : TE} (h : PE X e t) (w : ∀ σ H Q, t' σ H Q → t σ H Q) : PE X e t' := fun pins s σ H Q I q => h pins s σ H Q I (w σ H Q q)
theorem PT.weak {X : Cx} {e : Expr} {t t' : TT} (h : PT X e t) (w : ∀ σ H Q, t' σ H Q → t σ H Q) : PT X e t' := fun pins s σ H Q I q => h pins s σ H Q I (w σ H Q q)
theorem PW.weak {X : Cx} {e : Expr} {t t' : TT} (h : PW X e t) (w : ∀ σ H Q, t' σ H Q → t σ H Q) : PW X e t' := fun wh pins s σ H Q I q => h wh pins s σ H Q I (w σ H Q q)
theorem PA.weak {X : Cx} {e : List Expr} {t t' : TA} (h : PA X e t) (w : ∀ σ H Q, t' σ H Q → t σ H Q) : PA X e t' := fun pos pins s σ H Q I q => h pos pins s σ H Q I (w σ H Q q)
theorem PS.weak {X : Cx} {st : Stmt} {t t' : TS} (h : PS X st t) (w : ∀ Dd σ H, t' Dd σ H → t Dd σ H) : PS X st t' := fun pins s σ H Dd I q => h pins s σ H Dd I (w Dd σ H q)
theorem PSs.weak {X : Cx} {st : List Stmt} {t t' : TS} (h : PSs X st t) (w : ∀ Dd σ H, t' Dd σ H → t Dd σ H) : PSs X st t' := fun pins s σ H Dd I q => h pins s σ H Dd I (w Dd σ H q)
structure DEnds where
  nx : DEnv → Prop
  rt : D → Prop
  bk : DEnv → Prop := fun _ => False
  ct : DEnv → Prop := fun _ => False
  rf : List D → Prop := fun _ => False
  ro : DS → Prop := fun _ => False
abbrev GS := DEnds → Exs → DEnv → Prop
def To (K : PySem.W.Frag) (F0 H0 : Hp) (p : DEnv → Prop) (q : St → Hp → Prop) : Prop := ∀ env σ F H, p env → Grow F0 H0 F H → Slots K F H σ env → Fresh H0 σ env → q σ H
structure EndsOk (K : PySem.W.Frag) (F0 H0 : Hp) (Dd : DEnds) (Dn : Ends) : Prop where
  nx : To K F0 H0 Dd.nx Dn.nx
  rt : ∀ d v F H, Dd.rt d → Grow F0 H0 F H → Rep K F d v → Dn.rt v H
  bk : To K F0 H0 Dd.bk Dn.bk
  ct : To K F0 H0 Dd.ct Dn.ct
  rf : ∀ ds a xs F H, Dd.rf ds → Grow F0 H0 F H → F a = none → H0 a = none → H a = some (.lst xs) → Reps K F ds xs → Dn.rt (.ref a) H
  ro : ∀ s v F H, Dd.ro s → Grow F0 H0 F H → SlotOk K F H s (some v) → isOwn s = true → (∀ a, has s (some v) a → H0 a = none) → Dn.rt v H
def DTS (K : PySem.W.Frag) (E : XK) (F0 H0 : Hp) (g : GS) : TS := fun Dn σ H => ∃ F env Ex Dd, Grow F0 H0 F H ∧ Slots K F H σ env ∧ Fresh H0 σ env ∧ ExOk E Ex H0 ∧ g Dd Ex env ∧ EndsOk K F0 H0 Dd Dn
structure DSt (X : Cx) (E : XK) (st : Stmt) (g : GS) : Prop where
  h : ∀ F0 H0, Same F0 H0 → PS X st (DTS X.K E F0 H0 g)
structure DSs (X : Cx) (E : XK) (sts : List Stmt) (g : GS) : Prop where
  h : ∀ F0 H0, Same F0 H0 → PSs X sts (DTS X.K E F0 H0 g)
abbrev DSp := List D → Exs → (D → Prop) → Prop
def dSp (K : PySem.W.Frag) (n : Nat) (f : DSp) : Sp := fun vs H Q E => ∃ F ds Ex Qd, ds.length = n ∧ Same F H ∧ Reps K F ds vs ∧ ExOk E Ex H ∧ f ds Ex Qd ∧ Fin1 K F H Qd Q
def startD (N : List Str) (ds : List D) : DEnv := ds.map DS.sh ++ List.replicate (N.length - ds.length) DS.un
def retEnds (Q : D → Prop) : DEnds := { nx := fun _ => Q .non, rt := Q }
theorem start_slots {K : PySem.W.Frag} {F H : Hp} {N : List Str} {ds : List D} {vs : List V} (r : Reps K F ds vs) : Slots K F H (start N vs) (startD N ds) := by
  have hl := r.length
  have noOwn : ∀ (i : Nat) s, (startD N ds)[i]? = some s → isOwn s = false := fun i s e => by
    unfold startD at e
    rw [List.getElem?_append] at e
    split at e
    · rw [List.getElem?_map] at e
      cases q : ds[i]? with
      | none => rw [q] at e; cases e
      | some d => rw [q] at e; cases e; rfl
    · rw [List.getElem?_replicate] at e
      split at e
      · cases e; rfl
      · cases e
  refine ⟨?_, fun i s e => ?_, fun i j s t a e1 e2 o1 o2 _ _ => ?_⟩
  · unfold startD start
    simp [hl]
  · unfold startD at e
    unfold start
    rw [List.getElem?_append] at e ⊢
    rw [List.length_map] at e ⊢
    by_cases hi : i < ds.length
    · rw [if_pos (by omega), List.getElem?_map] at e
      rw [if_pos (by omega), List.getElem?_map]
      cases q : ds[i]? with
      | none => rw [q] at e; cases e
      | some d =>
        rw [q] at e
        cases e
        obtain ⟨x, hx, rx⟩ := r.get q
        rw [hx]
        exact ⟨x, rfl, rx⟩
    · rw [if_neg (by omega), List.getElem?_replicate] at e
      split at e
      · cases e; trivial
      · cases e
  · rw [noOwn i s e1] at o1
    cases o1
theorem start_fresh {H : Hp} {N : List Str} {ds : List D} {σ : St} : Fresh H σ (startD N ds) := fun i s a e o _ => by
  unfold startD at e
  rw [List.getElem?_append] at e
  split at e
  · rw [List.getElem?_map] at e
    cases q : ds[i]? with
    | none => rw [q] at e; cases e
    | some d => rw [q] at e; cases e; cases o
  · rw [List.getElem?_replicate] at e
    split at e
    · cases e; cases o
    · cases e
section
variable {P : Program} {w : World} {K : PySem.W.Frag} {mg : Str → Option Value} {base : Heap}
theorem dfn {x qual : Str} {st : Stmt} {f : Addr} {fd : FuncData} {N ps : List Str} {k : Nat} {sp : DSp} (F : Fun K x qual st f fd) (S : FnScope N ps (defScope st))
    (h : ∀ (cdv : Value) (A : Around) (outer : List Env) (s : Shared) (H : Hp) (E : XK), Body (cxOf (CXx P w) P w K mg base N qual (defScope st) f cdv A outer s H E) E → Room k (cxOf (CXx P w) P w K mg base N qual (defScope st) f cdv A outer s H E).A →
      ∃ g, DSs (cxOf (CXx P w) P w K mg base N qual (defScope st) f cdv A outer s H E) E (defBody st) g ∧ ∀ ds Ex Q, ds.length = ps.length → sp ds Ex Q → g (retEnds Q) Ex (startD N ds)) :
    FnOk P w K mg base (CXx P w) (k + 1) f fd ps (dSp K ps.length sp) := by
  refine F.okX S (fun vs H Q E hs => ?_) (fun X cdv A outer s H vs Q E hX b hr hs => ?_)
  · obtain ⟨F, ds, Ex, Qd, hl, _, r, _⟩ := hs
    rw [r.length, hl]
  · subst hX
    obtain ⟨F, ds, Ex, Qd, hl, sm, r, ex, hf, fin⟩ := hs
    obtain ⟨g, hg, q⟩ := h cdv A outer s H E b hr
    refine ⟨_, hg.h F H sm, F, startD N ds, Ex, retEnds Qd, Grow.refl sm, start_slots r, start_fresh, ex, q ds Ex Qd hl hf, ⟨fun env σ F' H' p gr _ _ => ?_, fun d v F' H' p gr rp => fin d v F' H' p gr rp, fun _ _ _ _ p => p.elim, fun _ _ _ _ p => p.elim, fun _ _ _ _ _ p => p.elim, fun _ _ _ _ p => p.elim⟩⟩
    exact fin .non .non F' H' p gr rfl
abbrev DSo := List D → Exs → (List D → Prop) → Prop
end
end L2
namespace L2
open PySem PySem.Spec PyProof.Rows
def gC (d : D) : GE := fun _ _ Q => Q d
def gVar (i : Nat) : GE := fun env _ Q => match env[i]? with
  | some (.sh d) => Q d
  | _ => False
section
variable {X : Cx} {E : XK} {pos : Pos} {a b c e : Expr} {es : List Expr}
theorem de_const {t : V} {d : D} (h : PE X e (tC t)) (r : ∀ F, Rep X.K F d t) : DE X E e (gC d) := ⟨h.weak fun σ H Q ⟨F, env, Ex, Qd, s, _, _, g, fin⟩ => fin.now s g (r F)⟩
theorem de_int {i j pos} : DE X E (.Constant (.int i) j pos) (gC (.int i)) := de_const pe_int fun _ => rfl
theorem de_bl {b j pos} : DE X E (.Constant (.bool b) j pos) (gC (.bl b)) := de_const pe_bl fun _ => rfl
theorem de_str {x j pos} : DE X E (.Constant (.str x) j pos) (gC (.str x)) := de_const pe_str fun _ => rfl
theorem de_gint {x : Str} {i : Int} {pos : Pos} (hg : Gl X x) (hm : ∃ t, X.mg x = some (.int i t)) (hd : (x == ("__debug__" : Str)) = false := by decide) : DE X E (.Name x pos) (gC (.int i)) := by
  obtain ⟨t, hm⟩ := hm
  exact de_const (pe_glob (v := .int i) hg hm ⟨t, rfl⟩ hd) fun _ => rfl
theorem dv (i : Nat) {x : Str} {pos : Pos} (hN : X.N[i]? = some x := by rfl) (hv : Vis X.env.scope x := by first | exact Or.inl rfl | exact Or.inr (Or.inl rfl) | exact Or.inr (Or.inr rfl)) (hd : (x == ("__debug__" : Str)) = false := by decide) (hcd : (x == ("__classdict__" : Str)) = false := by decide) :
    DE X E (.Name x pos) (gVar i) := ⟨by
  refine (pe_var hN hv hd hcd).weak fun σ H Q ⟨F, env, Ex, Qd, s, sl, _, g, fin⟩ => ?_
  unfold gVar at g
  split at g
  · rename_i d e
    obtain ⟨v, hv, r⟩ := sl.ok i _ e
    refine ⟨v, ?_, fin.now s g r⟩
    cases q : σ[i]? with
    | none => rw [q] at hv; cases hv
    | some o => rw [q] at hv; have hv : o = some v := hv; rw [hv]
  · exact g.elim⟩
def gaNil : GA := fun _ _ Q => Q []
def gaCons (g : GE) (ga : GA) : GA := fun env Ex Q => g env Ex fun d => ga env Ex fun ds => Q (d :: ds)
theorem da_nil : DA X E [] gaNil := ⟨PA.weak pa_nil fun σ H Q ⟨F, env, Ex, Qd, s, _, _, g, fin⟩ => fin [] [] F H g (Grow.refl s) rfl⟩
theorem da_cons {g : GE} {ga : GA} (h : DE X E e g) (hr : DA X E es ga) (hs : starEach (e :: es) X.env = (false, eval e X.env) :: starEach es X.env := by rfl) : DA X E (e :: es) (gaCons g ga) := ⟨
  (pa_cons h.h hr.h hs).weak fun σ H Q ⟨F, env, Ex, Qd, s, sl, ex, q, fin⟩ =>
    ⟨F, env, Ex, _, s, sl, ex, q, fun d v F1 H1 q1 g1 r1 => ⟨F1, env, Ex, _, g1.sub, sl.grow g1, ex.step g1.hh, q1, fun ds vs F2 H2 q2 g2 r2 => fin _ _ F2 H2 q2 (g1.trans g2) ⟨v, vs, rfl, Rep.mono g2.ff _ r1, r2⟩⟩⟩⟩
def OpD (K : PySem.W.Frag) (r : R2) (h : D → D → (D → Prop) → Prop) : Prop := ∀ F H x y dx dy Qd Q, Same F H → Rep K F dx x → Rep K F dy y → h dx dy Qd → Fin1 K F H Qd Q → r x y H Q
def gOp (h : D → D → (D → Prop) → Prop) (ga gb : GE) : GE := fun env Ex Q => ga env Ex fun x => gb env Ex fun y => h x y Q
theorem lift2 {r : R2} {h : D → D → (D → Prop) → Prop} {ga gb : GE} (o : OpD X.K r h) : ∀ σ H Q, DTE X.K E (gOp h ga gb) σ H Q → tOp r (DTE X.K E ga) (DTE X.K E gb) σ H Q :=
  fun σ H Q ⟨F, env, Ex, Qd, s, sl, ex, q, fin⟩ => ⟨F, env, Ex, _, s, sl, ex, q, fun d v F1 H1 q1 g1 r1 => ⟨F1, env, Ex, _, g1.sub, sl.grow g1, ex.step g1.hh, q1,
    fun d2 v2 F2 H2 q2 g2 r2 => o F2 H2 v v2 d d2 Qd Q g2.sub (Rep.mono g2.ff _ r1) r2 q2 (fin.step (g1.trans g2))⟩⟩
theorem de_op {op : Operator} {r : R2} {h : D → D → (D → Prop) → Prop} {ga gb : GE} (ho : OpR X (binaryOp op) r) (o : OpD X.K r h) (ha : DE X E a ga) (hb : DE X E b gb) : DE X E (.BinOp a op b pos) (gOp h ga gb) := ⟨(pe_op ho ha.h hb.h).weak (lift2 o)⟩
theorem de_cmp {op : CmpOp} {r : R2} {h : D → D → (D → Prop) → Prop} {ga gb : GE} (ho : OpR X (compareOp op) r) (o : OpD X.K r h) (ha : DE X E a ga) (hb : DE X E b gb) (hm : behindInMarks op b = false := by first | exact nomark _ | rfl) : DE X E (.Compare a [op] [b] pos) (gOp h ga gb) := ⟨
  (pe_cmpR ho ha.h hb.h hm).weak (lift2 o)⟩
theorem de_ix {r : R2} {h : D → D → (D → Prop) → Prop} {ga gb : GE} (ho : IxR X r) (o : OpD X.K r h) (ha : DE X E a ga) (hb : DE X E b gb) (hs : PlainIx b := by exact fun _ _ => rfl) : DE X E (.Subscript a b pos) (gOp h ga gb) := ⟨(pe_ix ho ha.h hb.h hs).weak (lift2 o)⟩
def gTest (g : GE) : GT := fun env Ex Q => g env Ex fun d => match d with
  | .bl k => Q k
  | _ => False
theorem bl_of {K : PySem.W.Frag} {F : Hp} {d : D} {v : V} {Q : Bool → Prop} (q : (match d with | .bl k => Q k | _ => False : Prop)) (r : Rep K F d v) : ∃ k, v = .bl k ∧ Q k := by
  cases d with
  | bl k => exact ⟨k, r, q⟩
  | _ => exact q.elim
theorem dt_cmp {op : CmpOp} {r : R2} {h : D → D → (D → Prop) → Prop} {ga gb : GE} (ho : OpR X (compareOp op) r) (o : OpD X.K r h) (ha : DE X E a ga) (hb : DE X E b gb) (hm : behindInMarks op b = false := by first | exact nomark _ | rfl) : DT X E (.Compare a [op] [b] pos) (gTest (gOp h ga gb)) := ⟨
  (pt_cmpR ho ha.h hb.h hm).weak fun σ H Q ⟨F, env, Ex, Qd, s, sl, ex, q, fin⟩ => lift2 o σ H _ ⟨F, env, Ex, _, s, sl, ex, q, fun d v F1 H1 q1 g1 r1 => by
    obtain ⟨k, rfl, q2⟩ := bl_of q1 r1
    exact ⟨k, rfl, fin k F1 H1 q2 g1⟩⟩⟩
theorem dt_val {g : GE} (h : DE X E e g) (he : ∀ whole, isTrue e X.env whole = (do let v ← whole; standAt e.pos; holding [v] (truthy v)) := by intro _; rfl) : DT X E e (gTest g) := ⟨
  (pt_val h.h he).weak fun σ H Q ⟨F, env, Ex, Qd, s, sl, ex, q, fin⟩ => ⟨F, env, Ex, _, s, sl, ex, q, fun d v F1 H1 q1 g1 r1 => by
    obtain ⟨k, rfl, q2⟩ := bl_of q1 r1
    exact ⟨k, rfl, fin k F1 H1 q2 g1⟩⟩⟩
def gAnd (g u : GT) : GT := fun env Ex Q => g env Ex fun c => if c = true then u env Ex Q else Q false
def gOr (g u : GT) : GT := fun env Ex Q => g env Ex fun c => if c = true then Q true else u env Ex Q
def gNot (g : GT) : GT := fun env Ex Q => g env Ex fun c => Q (!c)
theorem dw_and1 {g : GT} (h : DT X E a g) : DW X E (.BoolOp .And [a] pos) g := ⟨pw_and1 h.h⟩
theorem dw_or1 {g : GT} (h : DT X E a g) : DW X E (.BoolOp .Or [a] pos) g := ⟨pw_or1 h.h⟩
theorem dw_and {g u : GT} (ha : DT X E a g) (hb : DW X E (.BoolOp .And (b :: es) pos) u) : DW X E (.BoolOp .And (a :: b :: es) pos) (gAnd g u) := ⟨
  (pw_and ha.h hb.h).weak fun σ H Q ⟨F, env, Ex, Qd, s, sl, ex, q, fin⟩ => ⟨F, env, Ex, _, s, sl, ex, q, fun c F1 H1 q1 g1 => by
    cases c with
    | true => rw [if_pos rfl] at q1 ⊢; exact ⟨F1, env, Ex, Qd, g1.sub, sl.grow g1, ex.step g1.hh, q1, fun b F2 H2 q2 g2 => fin b F2 H2 q2 (g1.trans g2)⟩
    | false => rw [if_neg Bool.false_ne_true] at q1 ⊢; exact fin false F1 H1 q1 g1⟩⟩
theorem dw_or {g u : GT} (ha : DT X E a g) (hb : DW X E (.BoolOp .Or (b :: es) pos) u) : DW X E (.BoolOp .Or (a :: b :: es) pos) (gOr g u) := ⟨
  (pw_or ha.h hb.h).weak fun σ H Q ⟨F, env, Ex, Qd, s, sl, ex, q, fin⟩ => ⟨F, env, Ex, _, s, sl, ex, q, fun c F1 H1 q1 g1 => by
    cases c with
    | true => rw [if_pos rfl] at q1 ⊢; exact fin true F1 H1 q1 g1
    | false => rw [if_neg Bool.false_ne_true] at q1 ⊢; exact ⟨F1, env, Ex, Qd, g1.sub, sl.grow g1, ex.step g1.hh, q1, fun b F2 H2 q2 g2 => fin b F2 H2 q2 (g1.trans g2)⟩⟩⟩
theorem DW.dt {g : GT} (h : DW X E a g) : DT X E a g := ⟨PW.pt h.h⟩
theorem dt_not {g : GT} (h : DT X E a g) : DT X E (.UnaryOp .Not a pos) (gNot g) := ⟨
  (pt_not h.h).weak fun σ H Q ⟨F, env, Ex, Qd, s, sl, ex, q, fin⟩ => ⟨F, env, Ex, _, s, sl, ex, q, fun c F1 H1 q1 g1 => fin _ F1 H1 q1 g1⟩⟩
def gAndV (g u : GE) : GE := fun env Ex Q => g env Ex fun d => match d with
  | .bl c => if c = true then u env Ex Q else Q (.bl false)
  | _ => False
def gNotV (g : GE) : GE := fun env Ex Q => g env Ex fun d => match d with
  | .bl c => Q (.bl (!c))
  | _ => False
theorem de_one {op} {g : GE} (h : DE X E a g) : DE X E (.BoolOp op [a] pos) g := ⟨pe_one h.h⟩
theorem de_and {g u : GE} (ha : DE X E a g) (hb : DE X E (.BoolOp .And (b :: es) pos) u) : DE X E (.BoolOp .And (a :: b :: es) pos) (gAndV g u) := ⟨
  (pe_and ha.h hb.h).weak fun σ H Q ⟨F, env, Ex, Qd, s, sl, ex, q, fin⟩ => ⟨F, env, Ex, _, s, sl, ex, q, fun d v F1 H1 q1 g1 r1 => by
    cases d with
    | bl c =>
      refine ⟨c, r1, ?_⟩
      cases c with
      | true => dsimp only at q1; rw [if_pos rfl] at q1 ⊢; exact ⟨F1, env, Ex, Qd, g1.sub, sl.grow g1, ex.step g1.hh, q1, fin.step g1⟩
      | false => dsimp only at q1; rw [if_neg Bool.false_ne_true] at q1 ⊢; exact fin _ _ F1 H1 q1 g1 rfl
    | _ => exact (show False from q1).elim⟩⟩
theorem de_not {g : GE} (ha : DE X E a g) : DE X E (.UnaryOp .Not a pos) (gNotV g) := ⟨
  (pe_not ha.h).weak fun σ H Q ⟨F, env, Ex, Qd, s, sl, ex, q, fin⟩ => ⟨F, env, Ex, _, s, sl, ex, q, fun d v F1 H1 q1 g1 r1 => by
    cases d with
    | bl c => exact ⟨c, r1, fin _ _ F1 H1 q1 g1 rfl⟩
    | _ => exact (show False from q1).elim⟩⟩
def gChain (h h' : D → D → (D → Prop) → Prop) (ga gb gc : GE) : GE := fun env Ex Q => ga env Ex fun x => gb env Ex fun y => h x y fun z => match z with
  | .bl k => if k = true then gc env Ex fun w => h' y w Q else Q (.bl false)
  | _ => False
theorem de_chain {op op' : CmpOp} {r r' : R2} {h h' : D → D → (D → Prop) → Prop} {ga gb gc : GE} (ho : OpR X (compareOp op) r) (o : OpD X.K r h) (ho' : OpR X (compareOp op') r') (o' : OpD X.K r' h') (ha : DE X E a ga) (hb : DE X E b gb) (hc : DE X E c gc) (hm : lastMarks [op, op'] [b, c] = false) :
    DE X E (.Compare a [op, op'] [b, c] pos) (gChain h h' ga gb gc) := ⟨
  (pe_chain ho ho' ha.h hb.h hc.h hm).weak fun σ H Q ⟨F, env, Ex, Qd, s, sl, ex, q, fin⟩ => ⟨F, env, Ex, _, s, sl, ex, q, fun d v F1 H1 q1 g1 r1 => ⟨F1, env, Ex, _, g1.sub, sl.grow g1, ex.step g1.hh, q1,
    fun d2 v2 F2 H2 q2 g2 r2 => o F2 H2 v v2 d d2 _ _ g2.sub (Rep.mono g2.ff _ r1) r2 q2 fun d3 v3 F3 H3 q3 g3 r3 => by
      cases d3 with
      | bl k =>
        refine ⟨k, r3, ?_⟩
        cases k with
        | true =>
          dsimp only at q3; rw [if_pos rfl] at q3 ⊢
          exact ⟨F3, env, Ex, _, g3.sub, ((sl.grow g1).grow g2).grow g3, ((ex.step g1.hh).step g2.hh).step g3.hh, q3, fun d4 v4 F4 H4 q4 g4 r4 => o' F4 H4 v2 v4 d2 d4 Qd Q g4.sub (Rep.mono (g3.ff.trans g4.ff) _ r2) r4 q4 (fin.step (((g1.trans g2).trans g3).trans g4))⟩
        | false => dsimp only at q3; rw [if_neg Bool.false_ne_true] at q3 ⊢; exact fin _ _ F3 H3 q3 ((g1.trans g2).trans g3) rfl
      | _ => exact (show False from q3).elim⟩⟩⟩
def gUn (h : D → (D → Prop) → Prop) (g : GE) : GE := fun env Ex Q => g env Ex fun d => h d Q
def gTupD (ga : GA) : GE := fun env Ex Q => ga env Ex fun ds => ds.length ≤ sizeLine ∧ Q (.tup ds)
def gLst (ga : GA) : GA := fun env Ex Q => ga env Ex fun ds => ds.length ≤ sizeLine ∧ Q ds
theorem de_tup {x1} {ga : GA} (h : DA X E es ga) : DE X E (.Tuple es x1 pos) (gTupD ga) := ⟨
  (pe_tup h.h).weak fun σ H Q ⟨F, env, Ex, Qd, s, sl, ex, q, fin⟩ => ⟨F, env, Ex, _, s, sl, ex, q, fun ds vs F1 H1 q1 g1 r1 => ⟨by rw [r1.length]; exact q1.1, fun p hp =>
    fin _ _ (upd F1 p (.tup vs)) _ q1.2 (g1.trans (Grow.lay g1.sub hp)) ⟨p, vs, rfl, upd_same, Reps.mono (Grow.lay (o := .tup vs) g1.sub hp).ff _ r1⟩⟩⟩⟩
theorem df_lst {ga : GA} (h : DA X E es ga) : DF X E (.List es pos) (gLst ga) := ⟨
  (pe_lst h.h).weak fun σ H Q ⟨F, env, Ex, Qd, s, sl, ex, q, fin⟩ => ⟨F, env, Ex, _, s, sl, ex, q, fun ds vs F1 H1 q1 g1 r1 => ⟨by rw [r1.length]; exact q1.1, fun p hp =>
    fin ds p vs F1 _ q1.2 (g1.trans (Grow.keep g1.sub hp)) (g1.sub.free hp) (g1.hh.free hp) upd_same r1⟩⟩⟩
def gFr (g : GA) : GE := fun env Ex Q => g env Ex fun ds => Q (.lst ds)
theorem DF.de {g : GA} (h : DF X E e g) : DE X E e (gFr g) := ⟨PE.weak h.h fun σ H Q ⟨F, env, Ex, Qd, s, sl, ex, q, fin⟩ => ⟨F, env, Ex, _, s, sl, ex, q, fun ds a xs F1 H1 q1 g1 f1 n1 l1 r1 => by
  have ff : Same F1 (upd F1 a (.lst xs)) := fun b u e => by rw [upd_ne (ne_of_none e f1)]; exact e
  have gr : Grow F H (upd F1 a (.lst xs)) H1 := by
    refine ⟨g1.hh, g1.ff.trans ff, fun b u e => ?_, fun b e n => ?_⟩
    · by_cases hb : b = a
      · subst hb; rw [upd_same] at e; rw [l1, ← e]
      · rw [upd_ne hb] at e; exact g1.sub _ _ e
    · by_cases hb : b = a
      · subst hb; exact .inl n1
      · rw [upd_ne hb] at n; exact g1.new b e n
  exact fin _ _ _ H1 q1 gr ⟨a, xs, rfl, upd_same, Reps.mono ff _ r1⟩⟩⟩
end
end L2
namespace L2
open PySem PySem.Spec PyProof.Rows
def hII (f : Int → Int → D) (a b : D) (Q : D → Prop) : Prop := match a, b with
  | .int i, .int j => Q (f i j)
  | _, _ => False
def hIIc (C : Int → Int → Prop) (f : Int → Int → D) (a b : D) (Q : D → Prop) : Prop := match a, b with
  | .int i, .int j => C i j ∧ Q (f i j)
  | _, _ => False
theorem hII_of {f : Int → Int → D} {a b : D} {Q : D → Prop} (h : hII f a b Q) : ∃ i j, a = .int i ∧ b = .int j ∧ Q (f i j) := by
  unfold hII at h
  split at h
  · exact ⟨_, _, rfl, rfl, h⟩
  · exact h.elim
theorem hIIc_of {C : Int → Int → Prop} {f : Int → Int → D} {a b : D} {Q : D → Prop} (h : hIIc C f a b Q) : ∃ i j, a = .int i ∧ b = .int j ∧ C i j ∧ Q (f i j) := by
  unfold hIIc at h
  split at h
  · exact ⟨_, _, rfl, rfl, h.1, h.2⟩
  · exact h.elim
theorem od_ii {K : PySem.W.Frag} {g : Int → Int → V} {f : Int → Int → D} (r : ∀ F i j, Rep K F (f i j) (g i j)) : OpD K (rI0 g) (hII f) := fun F H x y dx dy Qd Q s rx ry h fin => by
  obtain ⟨i, j, rfl, rfl, q⟩ := hII_of h
  exact ⟨i, j, rx, ry, fin.now s q (r F i j)⟩
theorem od_iic {K : PySem.W.Frag} {C : Int → Int → Prop} {g : Int → Int → V} {f : Int → Int → D} (r : ∀ F i j, Rep K F (f i j) (g i j)) : OpD K (rI C g) (hIIc C f) := fun F H x y dx dy Qd Q s rx ry h fin => by
  obtain ⟨i, j, rfl, rfl, c, q⟩ := hIIc_of h
  exact ⟨i, j, rx, ry, c, fin.now s q (r F i j)⟩
section
variable {K : PySem.W.Frag} {X : Cx} {E : XK} {pos p : Pos} {a b c e : Expr} {es : List Expr} {ga gb gc g : GE}
abbrev hAdd := hII fun i j => .int (i + j)
abbrev hSub := hII fun i j => .int (i - j)
abbrev hMul := hIIc CMul fun i j => .int (i * j)
abbrev hDiv := hIIc CDiv fun i j => .int (i / j)
abbrev hMod := hIIc (fun _ j => 0 < j) fun i j => .int (i % j)
abbrev hPow := hIIc CPow fun i j => .int (i ^ j.toNat)
abbrev hXor := hII fun i j => .int (Builtin.bitXor i j)
abbrev hLt := hII fun i j => .bl (decide (i < j))
abbrev hLe := hII fun i j => .bl (decide (i ≤ j))
abbrev hGt := hII fun i j => .bl (decide (j < i))
abbrev hGe := hII fun i j => .bl (decide (j ≤ i))
theorem de_add (ha : DE X E a ga) (hb : DE X E b gb) : DE X E (.BinOp a .Add b pos) (gOp hAdd ga gb) := de_op op_add (od_ii fun _ _ _ => rfl) ha hb
theorem de_sub (ha : DE X E a ga) (hb : DE X E b gb) : DE X E (.BinOp a .Sub b pos) (gOp hSub ga gb) := de_op op_sub (od_ii fun _ _ _ => rfl) ha hb
theorem de_mul (ha : DE X E a ga) (hb : DE X E b gb) : DE X E (.BinOp a .Mult b pos) (gOp hMul ga gb) := de_op op_mul (od_iic fun _ _ _ => rfl) ha hb
theorem de_mod (ha : DE X E a ga) (hb : DE X E b gb) : DE X E (.BinOp a .Mod b pos) (gOp hMod ga gb) := de_op op_mod (od_iic fun _ _ _ => rfl) ha hb
theorem dt_lt (ha : DE X E a ga) (hb : DE X E b gb) : DT X E (.Compare a [.Lt] [b] pos) (gTest (gOp hLt ga gb)) := dt_cmp op_lt (od_ii fun _ _ _ => rfl) ha hb (nomark _)
theorem dt_gt (ha : DE X E a ga) (hb : DE X E b gb) : DT X E (.Compare a [.Gt] [b] pos) (gTest (gOp hGt ga gb)) := dt_cmp op_gt (od_ii fun _ _ _ => rfl) ha hb (nomark _)
theorem de_lele (ha : DE X E a ga) (hb : DE X E b gb) (hc : DE X E c gc) (hm : lastMarks [.LtE, .LtE] [b, c] = false := by rfl) : DE X E (.Compare a [.LtE, .LtE] [b, c] pos) (gChain hLe hLe ga gb gc) := de_chain op_le (od_ii fun _ _ _ => rfl) op_le (od_ii fun _ _ _ => rfl) ha hb hc hm
mutual
def eqD : D → D → Bool
  | .lst as, d => match d with
    | .lst bs => eqDs as bs
    | _ => false
  | .tup as, d => match d with
    | .tup bs => eqDs as bs
    | _ => false
  | .non, d => match d with
    | .non => true
    | _ => false
  | .bl a, d => match d with
    | .bl b => a == b
    | .int b => (if a then 1 else 0) == b
    | _ => false
  | .int a, d => match d with
    | .bl b => a == (if b then 1 else 0)
    | .int b => a == b
    | _ => false
  | .str a, d => match d with
    | .str b => a == b
    | _ => false
  | _, _ => false
def eqDs : List D → List D → Bool
  | [], bs => match bs with
    | [] => true
    | _ => false
  | a :: as, bs => match bs with
    | [] => false
    | b :: bs => eqD a b && eqDs as bs
end
mutual
def okD : D → Bool
  | .lst as => okDs as
  | .tup as => okDs as
  | .scr _ => false
  | .kt _ => false
  | .dtt _ _ => false
  | _ => true
def okDs : List D → Bool
  | [] => true
  | a :: as => okD a && okDs as
end
mutual
def hiD : D → Nat
  | .lst as => hiDs as + 1
  | .tup as => hiDs as + 1
  | _ => 0
def hiDs : List D → Nat
  | [] => 0
  | a :: as => max (hiD a) (hiDs as)
end
theorem eqDs_all : ∀ (as bs : List D), eqDs as bs = (as.length == bs.length && (List.range as.length).all fun j => eqD (as.getD j .non) (bs.getD j .non))
  | [], [] => rfl
  | [], _ :: _ => rfl
  | _ :: _, [] => rfl
  | a :: as, b :: bs => by
    rw [show eqDs (a :: as) (b :: bs) = (eqD a b && eqDs as bs) from rfl, eqDs_all as bs, List.length_cons, List.length_cons, List.range_succ_eq_map, List.all_cons, List.all_map, Bool.eq_iff_iff]
    simp only [Bool.and_eq_true, beq_iff_eq, Nat.add_right_cancel_iff, List.all_eq_true, Function.comp]
    constructor
    · rintro ⟨h1, h2, h3⟩
      exact ⟨h2, h1, h3⟩
    · rintro ⟨h2, h1, h3⟩
      exact ⟨h1, h2, h3⟩
theorem okDs_get : ∀ {as : List D} {j : Nat} {d : D}, okDs as = true → as[j]? = some d → okD d = true
  | [], j, d, _, e => by simp at e
  | a :: as, 0, d, h, e => by
    cases Option.some.inj e
    rw [show okDs (a :: as) = (okD a && okDs as) from rfl, Bool.and_eq_true] at h
    exact h.1
  | a :: as, j + 1, d, h, e => by
    rw [show okDs (a :: as) = (okD a && okDs as) from rfl, Bool.and_eq_true] at h
    exact okDs_get h.2 e
theorem hiDs_get : ∀ {as : List D} {j : Nat} {d : D}, as[j]? = some d → hiD d ≤ hiDs as
  | [], j, d, e => by simp at e
  | a :: as, 0, d, e => by
    cases Option.some.inj e
    exact Nat.le_max_left _ _
  | a :: as, j + 1, d, e => Nat.le_trans (hiDs_get (as := as) (j := j) e) (Nat.le_max_right _ _)
mutual
theorem eqD_refl : ∀ (d : D), okD d = true → eqD d d = true
  | .non, _ => rfl
  | .bl b, _ => by cases b <;> rfl
  | .int i, _ => by show (i == i) = true; simp
  | .str x, _ => by show (x == x) = true; simp
  | .lst as, h => eqDs_refl as h
  | .tup as, h => eqDs_refl as h
theorem eqDs_refl : ∀ (as : List D), okDs as = true → eqDs as as = true
  | [], _ => rfl
  | a :: as, h => by
    rw [show okDs (a :: as) = (okD a && okDs as) from rfl, Bool.and_eq_true] at h
    show (eqD a a && eqDs as as) = true
    rw [eqD_refl a h.1, eqDs_refl as h.2]
    rfl
end
theorem eqDs_ints : ∀ (ns ms : List Int), eqDs (ns.map D.int) (ms.map D.int) = decide (ns = ms)
  | [], [] => rfl
  | [], _ :: _ => rfl
  | _ :: _, [] => rfl
  | n :: ns, m :: ms => by
    show ((n == m) && eqDs (ns.map D.int) (ms.map D.int)) = _
    rw [eqDs_ints ns ms, Bool.eq_iff_iff]
    simp
theorem okDs_ints : ∀ (ns : List Int), okDs (ns.map D.int) = true
  | [] => rfl
  | n :: ns => okDs_ints ns
theorem hiDs_ints : ∀ (ns : List Int), hiDs (ns.map D.int) = 0
  | [] => rfl
  | n :: ns => by show max 0 (hiDs (ns.map D.int)) = 0; rw [hiDs_ints ns]; rfl
mutual
theorem Rep.inj {F : Hp} : ∀ (d d' : D) {v : V}, okD d = true → okD d' = true → Rep K F d v → Rep K F d' v → d = d'
  | .non, d', v, _, o, h, h' => by
    cases (show v = .non from h)
    cases d' <;> first | rfl | (cases h' ; done) | (obtain ⟨_, _, e, _⟩ := h'; cases e) | cases o
  | .bl b, d', v, _, o, h, h' => by
    cases (show v = .bl b from h)
    cases d' <;> first | (cases h'; rfl) | (cases h' ; done) | (obtain ⟨_, _, e, _⟩ := h'; cases e) | cases o
  | .int i, d', v, _, o, h, h' => by
    cases (show v = .int i from h)
    cases d' <;> first | (cases h'; rfl) | (cases h' ; done) | (obtain ⟨_, _, e, _⟩ := h'; cases e) | cases o
  | .str x, d', v, _, o, h, h' => by
    cases (show v = .str x from h)
    cases d' <;> first | (cases h'; rfl) | (cases h' ; done) | (obtain ⟨_, _, e, _⟩ := h'; cases e) | cases o
  | .lst ds, d', v, k, o, ⟨a, xs, e, hF, r⟩, h' => by
    subst e
    cases d' with
    | lst es =>
      obtain ⟨a', xs', e', hF', r'⟩ := h'
      cases e'
      rw [hF] at hF'
      cases hF'
      rw [Reps.inj ds es k o r r']
    | tup es =>
      obtain ⟨a', xs', e', hF', r'⟩ := h'
      cases e'
      rw [hF] at hF'
      cases hF'
    | _ => first | exact absurd (show false = true from o) Bool.false_ne_true | (cases h'; done)
  | .tup ds, d', v, k, o, ⟨a, xs, e, hF, r⟩, h' => by
    subst e
    cases d' with
    | tup es =>
      obtain ⟨a', xs', e', hF', r'⟩ := h'
      cases e'
      rw [hF] at hF'
      cases hF'
      rw [Reps.inj ds es k o r r']
    | lst es =>
      obtain ⟨a', xs', e', hF', r'⟩ := h'
      cases e'
      rw [hF] at hF'
      cases hF'
    | _ => first | exact absurd (show false = true from o) Bool.false_ne_true | (cases h'; done)
theorem Reps.inj {F : Hp} : ∀ (ds es : List D) {xs : List V}, okDs ds = true → okDs es = true → Reps K F ds xs → Reps K F es xs → ds = es
  | [], es, xs, _, _, h, h' => by
    rw [show xs = [] from h] at h'
    cases es with
    | nil => rfl
    | cons e es => obtain ⟨_, _, z, _⟩ := h'; cases z
  | d :: ds, es, xs, k, o, ⟨x, r, e, h1, h2⟩, h' => by
    subst e
    rw [show okDs (d :: ds) = (okD d && okDs ds) from rfl, Bool.and_eq_true] at k
    cases es with
    | nil => cases h'
    | cons e es =>
      obtain ⟨y, r', z, h3, h4⟩ := h'
      cases z
      rw [show okDs (e :: es) = (okD e && okDs es) from rfl, Bool.and_eq_true] at o
      rw [Rep.inj d e k.1 o.1 h1 h3, Reps.inj ds es k.2 o.2 h2 h4]
end
end
end L2
namespace L2
open PySem PySem.Spec PyProof.Rows
mutual
def cmpD : D → D → Bool
  | .lst as, d => match d with
    | .lst bs => as.length != bs.length || cmpDs as bs
    | _ => false
  | .tup as, d => match d with
    | .tup bs => cmpDs as bs
    | _ => false
  | .scr _, _ => false
  | .kt _, _ => false
  | .dtt _ _, _ => false
  | _, d => match d with
    | .lst _ => false
    | .tup _ => false
    | .scr _ => false
    | .kt _ => false
    | .dtt _ _ => false
    | _ => true
def cmpDs : List D → List D → Bool
  | [], _ => true
  | a :: as, bs => match bs with
    | [] => true
    | b :: bs => cmpD a b && cmpDs as bs
end
theorem cmpDs_get : ∀ {as bs : List D} {j : Nat} {a b : D}, cmpDs as bs = true → as[j]? = some a → bs[j]? = some b → cmpD a b = true
  | [], _, j, a, b, _, e, _ => by simp at e
  | _ :: _, [], j, a, b, _, _, e => by simp at e
  | x :: as, y :: bs, 0, a, b, h, e1, e2 => by
    cases Option.some.inj e1
    cases Option.some.inj e2
    rw [show cmpDs (x :: as) (y :: bs) = (cmpD x y && cmpDs as bs) from rfl, Bool.and_eq_true] at h
    exact h.1
  | x :: as, y :: bs, j + 1, a, b, h, e1, e2 => by
    rw [show cmpDs (x :: as) (y :: bs) = (cmpD x y && cmpDs as bs) from rfl, Bool.and_eq_true] at h
    exact cmpDs_get h.2 e1 e2
theorem cmpDs_ints : ∀ (ns ms : List Int), cmpDs (ns.map D.int) (ms.map D.int) = true
  | [], _ => rfl
  | _ :: _, [] => rfl
  | n :: ns, m :: ms => by show (true && cmpDs (ns.map D.int) (ms.map D.int)) = true; rw [cmpDs_ints ns ms]; rfl
def flatD : D → Bool
  | .lst _ => false
  | .tup _ => false
  | .scr _ => false
  | .kt _ => false
  | .dtt _ _ => false
  | _ => true
theorem flat_eq {K : PySem.W.Frag} {F : Hp} {d d' : D} {x y : V} (f : flatD d = true) (f' : flatD d' = true) (r : Rep K F d x) (r' : Rep K F d' y) : flatV x = true ∧ flatV y = true ∧ eqV x y = eqD d d' := by
  cases d <;> first | exact absurd (show false = true from f) Bool.false_ne_true | (cases (show x = _ from r); cases d' <;> first | exact absurd (show false = true from f') Bool.false_ne_true | (cases (show y = _ from r'); exact ⟨rfl, rfl, rfl⟩))
theorem all_min (as bs : List D) : eqDs as bs = ((List.range (min as.length bs.length)).all (fun j => eqD (as.getD j .non) (bs.getD j .non)) && as.length == bs.length) := by
  rw [eqDs_all, Bool.and_comm, Bool.eq_iff_iff]
  simp only [Bool.and_eq_true, beq_iff_eq]
  constructor
  · rintro ⟨h1, h2⟩
    rw [← h2, Nat.min_self]
    exact ⟨h1, rfl⟩
  · rintro ⟨h1, h2⟩
    rw [← h2, Nat.min_self] at h1
    exact ⟨h1, h2⟩
section
variable {X : Cx} {F H : Hp}
theorem getD_some {as : List D} {j : Nat} {d : D} (h : as[j]? = some d) : as.getD j .non = d := by
  rw [List.getD_eq_getElem?_getD, h]
  rfl
theorem eqV_D (sm : Same F H) : ∀ (n : Nat) (A : Around) (d d' : D) (x y : V), hiD d ≤ n → A.units + n < cLine → okD d = true → okD d' = true → cmpD d d' = true → Rep X.K F d x → Rep X.K F d' y → EqV X A H x y (eqD d d')
  | n, A, .lst as, d', x, y, hn, hu, o, o', c, r, r' => by
    cases d' with
    | lst bs =>
      obtain ⟨a, xs, rfl, hF, rs⟩ := r
      obtain ⟨b, ys, rfl, hF', rs'⟩ := r'
      have l1 := rs.length
      have l2 := rs'.length
      have hn' : hiDs as + 1 ≤ n := hn
      have e := EqV.lst (X := X) (A := A) (H := H) (a := a) (b := b) (xs := xs) (ys := ys) (e := fun j => eqD (as.getD j .non) (bs.getD j .non)) (by omega) (SqL.of (sm _ _ hF)) (SqL.of (sm _ _ hF')) (fun hl j u v hu1 hv1 => ?_) (fun ab => ?_)
      · rw [show eqD (.lst as) (.lst bs) = eqDs as bs from rfl, eqDs_all, ← l1, ← l2]
        exact e
      · obtain ⟨du, e1, ru⟩ := rs.get' hu1
        obtain ⟨dv, e2, rv⟩ := rs'.get' hv1
        rw [getD_some e1, getD_some e2]
        have c' : (as.length != bs.length || cmpDs as bs) = true := c
        rw [show (as.length != bs.length) = false by simp; omega, Bool.false_or] at c'
        have hd := hiDs_get e1
        exact eqV_D sm (n - 1) A.in1 du dv u v (by omega) (by show _ + 1 + _ < _; omega) (okDs_get o e1) (okDs_get o' e2) (cmpDs_get c' e1 e2) ru rv
      · subst ab
        rw [hF] at hF'
        cases hF'
        have z := Reps.inj as bs o o' rs rs'
        subst z
        have w := eqDs_refl as o
        rw [eqDs_all, ← l1] at w
        exact w
    | _ => cases c
  | n, A, .tup as, d', x, y, hn, hu, o, o', c, r, r' => by
    cases d' with
    | tup bs =>
      obtain ⟨a, xs, rfl, hF, rs⟩ := r
      obtain ⟨b, ys, rfl, hF', rs'⟩ := r'
      have l1 := rs.length
      have l2 := rs'.length
      have hn' : hiDs as + 1 ≤ n := hn
      have e := EqV.tup (X := X) (A := A) (H := H) (a := a) (b := b) (xs := xs) (ys := ys) (e := fun j => eqD (as.getD j .non) (bs.getD j .non)) (by omega) (SqT.of (sm _ _ hF)) (SqT.of (sm _ _ hF')) (fun j u v hu1 hv1 => ?_) (fun ab => ?_)
      · rw [show eqD (.tup as) (.tup bs) = eqDs as bs from rfl, all_min, ← l1, ← l2]
        exact e
      · obtain ⟨du, e1, ru⟩ := rs.get' hu1
        obtain ⟨dv, e2, rv⟩ := rs'.get' hv1
        rw [getD_some e1, getD_some e2]
        have hd := hiDs_get e1
        exact eqV_D sm (n - 1) A.in1 du dv u v (by omega) (by show _ + 1 + _ < _; omega) (okDs_get o e1) (okDs_get o' e2) (cmpDs_get c e1 e2) ru rv
      · subst ab
        rw [hF] at hF'
        cases hF'
        have z := Reps.inj as bs o o' rs rs'
        subst z
        have w := eqDs_refl as o
        rw [all_min, ← l1] at w
        exact w
    | _ => cases c
  | n, A, .non, d', x, y, hn, hu, o, o', c, r, r' => by
    obtain ⟨f1, f2, e⟩ := flat_eq (d := .non) (d' := d') rfl (by cases d' <;> first | rfl | cases c) r r'
    rw [← e]
    exact EqV.flat f1 f2
  | n, A, .bl k, d', x, y, hn, hu, o, o', c, r, r' => by
    obtain ⟨f1, f2, e⟩ := flat_eq (d := .bl k) (d' := d') rfl (by cases d' <;> first | rfl | cases c) r r'
    rw [← e]
    exact EqV.flat f1 f2
  | n, A, .int k, d', x, y, hn, hu, o, o', c, r, r' => by
    obtain ⟨f1, f2, e⟩ := flat_eq (d := .int k) (d' := d') rfl (by cases d' <;> first | rfl | cases c) r r'
    rw [← e]
    exact EqV.flat f1 f2
  | n, A, .str k, d', x, y, hn, hu, o, o', c, r, r' => by
    obtain ⟨f1, f2, e⟩ := flat_eq (d := .str k) (d' := d') rfl (by cases d' <;> first | rfl | cases c) r r'
    rw [← e]
    exact EqV.flat f1 f2
  termination_by n => n
  decreasing_by all_goals simp_wf; omega
def rEqD (K : PySem.W.Frag) (neg : Bool) : R2 := fun x y H Q => ∃ F as bs, ∃ t : Bool, Same F H ∧ okDs as = true ∧ okDs bs = true ∧ hiDs as ≤ 40 ∧
  (if t then cmpD (.tup as) (.tup bs) = true ∧ Rep K F (.tup as) x ∧ Rep K F (.tup bs) y else cmpD (.lst as) (.lst bs) = true ∧ Rep K F (.lst as) x ∧ Rep K F (.lst bs) y) ∧ Q (.bl (if neg then !eqDs as bs else eqDs as bs)) H
theorem op_eqD (hu : X.A.units + 64 < cLine) : OpR X (compareOp .Eq) (rEqD X.K false) := by
  intro pins s σ H x y v u Q I rx ry h
  obtain ⟨F, as, bs, t, sm, o1, o2, hi, h, q⟩ := h
  cases t with
  | true =>
    rw [if_pos rfl] at h
    obtain ⟨c, ⟨a, xs, rfl, hF, rs⟩, ⟨b, ys, rfl, hF', rs'⟩⟩ := h
    cases rx
    cases ry
    have l1 := rs.length
    have l2 := rs'.length
    obtain ⟨its, r1, p1, _⟩ := I.tuple (SqT.of (sm _ _ hF))
    obtain ⟨its2, r2, p2, _⟩ := I.tuple (SqT.of (sm _ _ hF'))
    have z := SeqAt.RcAt.tuples (A := X.A) (e := fun j => eqD (as.getD j .non) (bs.getD j .non)) p1 p2 (by omega) fun j h1 h2 => by
      have m1 : j < its.length := by simpa using h1
      have m2 : j < its2.length := by simpa using h2
      obtain ⟨x, hx, rx⟩ := r1.getE m1
      obtain ⟨y, hy, ry⟩ := r2.getE m2
      rw [show its.toArray[j] = its[j] by simp, show its2.toArray[j] = its2[j] by simp]
      obtain ⟨du, e1, ru⟩ := rs.get' hx
      obtain ⟨dv, e2, rv⟩ := rs'.get' hy
      rw [getD_some e1, getD_some e2]
      exact eqV_D sm 40 X.A.in1 du dv x y (Nat.le_trans (hiDs_get e1) hi) (by show _ + 1 + _ < _; omega) (okDs_get o1 e1) (okDs_get o2 e2) (cmpDs_get c e1 e2) ru rv pins σ s _ _ I rx ry
    rw [List.size_toArray, List.size_toArray, ← r1.length, ← r2.length, l1, l2, ← all_min] at z
    exact z X.prog X.w X.xe _ ⟨.bl _, H, I, rfl, q⟩
  | false =>
    rw [if_neg Bool.false_ne_true] at h
    obtain ⟨c, ⟨a, xs, rfl, hF, rs⟩, ⟨b, ys, rfl, hF', rs'⟩⟩ := h
    cases rx
    cases ry
    have l1 := rs.length
    have l2 := rs'.length
    have z := RcV.lst (A := X.A) (e := fun j => eqD (as.getD j .non) (bs.getD j .non)) I (by omega) (SqL.of (sm _ _ hF)) (SqL.of (sm _ _ hF')) fun hl j x y hx hy => by
      obtain ⟨du, e1, ru⟩ := rs.get' hx
      obtain ⟨dv, e2, rv⟩ := rs'.get' hy
      rw [getD_some e1, getD_some e2]
      have c' : (as.length != bs.length || cmpDs as bs) = true := c
      rw [show (as.length != bs.length) = false by simp; omega, Bool.false_or] at c'
      exact eqV_D sm 40 X.A.in1 du dv x y (Nat.le_trans (hiDs_get e1) hi) (by show _ + 1 + _ < _; omega) (okDs_get o1 e1) (okDs_get o2 e2) (cmpDs_get c' e1 e2) ru rv
    rw [l1, l2, ← eqDs_all] at z
    exact z X.prog X.w X.xe _ ⟨.bl _, H, I, rfl, q⟩
theorem op_neD (hu : X.A.units + 64 < cLine) : OpR X (compareOp .NotEq) (rEqD X.K true) := by
  intro pins s σ H x y v u Q I rx ry h
  obtain ⟨F, as, bs, t, sm, o1, o2, hi, h, q⟩ := h
  cases t with
  | true =>
    rw [if_pos rfl] at h
    obtain ⟨c, ⟨a, xs, rfl, hF, rs⟩, ⟨b, ys, rfl, hF', rs'⟩⟩ := h
    cases rx
    cases ry
    have l1 := rs.length
    have l2 := rs'.length
    obtain ⟨its, r1, p1, _⟩ := I.tuple (SqT.of (sm _ _ hF))
    obtain ⟨its2, r2, p2, _⟩ := I.tuple (SqT.of (sm _ _ hF'))
    have z := SeqAt.RcNeAt.tuples (A := X.A) (e := fun j => eqD (as.getD j .non) (bs.getD j .non)) p1 p2 (by omega) fun j h1 h2 => by
      have m1 : j < its.length := by simpa using h1
      have m2 : j < its2.length := by simpa using h2
      obtain ⟨x, hx, rx⟩ := r1.getE m1
      obtain ⟨y, hy, ry⟩ := r2.getE m2
      rw [show its.toArray[j] = its[j] by simp, show its2.toArray[j] = its2[j] by simp]
      obtain ⟨du, e1, ru⟩ := rs.get' hx
      obtain ⟨dv, e2, rv⟩ := rs'.get' hy
      rw [getD_some e1, getD_some e2]
      exact eqV_D sm 40 X.A.in1 du dv x y (Nat.le_trans (hiDs_get e1) hi) (by show _ + 1 + _ < _; omega) (okDs_get o1 e1) (okDs_get o2 e2) (cmpDs_get c e1 e2) ru rv pins σ s _ _ I rx ry
    rw [List.size_toArray, List.size_toArray, ← r1.length, ← r2.length, l1, l2, ← all_min] at z
    exact z X.prog X.w X.xe _ ⟨.bl _, H, I, rfl, q⟩
  | false =>
    rw [if_neg Bool.false_ne_true] at h
    obtain ⟨c, ⟨a, xs, rfl, hF, rs⟩, ⟨b, ys, rfl, hF', rs'⟩⟩ := h
    cases rx
    cases ry
    have l1 := rs.length
    have l2 := rs'.length
    obtain ⟨its, r1, p1, _⟩ := I.list (SqL.of (sm _ _ hF))
    obtain ⟨its2, r2, p2, _⟩ := I.list (SqL.of (sm _ _ hF'))
    have m1 := r1.length
    have m2 := r2.length
    by_cases hl : xs.length = ys.length
    · have z := SeqAt.RcNeAt.lists (A := X.A) (e := fun j => eqD (as.getD j .non) (bs.getD j .non)) p1.isList p2.isList (by rw [List.size_toArray, List.size_toArray]; omega) (by omega) fun j h1 h2 => by
        have m1 : j < its.length := by simpa using h1
        have m2 : j < its2.length := by simpa using h2
        obtain ⟨x, hx, rx⟩ := r1.getE m1
        obtain ⟨y, hy, ry⟩ := r2.getE m2
        rw [show its.toArray[j] = its[j] by simp, show its2.toArray[j] = its2[j] by simp]
        obtain ⟨du, e1, ru⟩ := rs.get' hx
        obtain ⟨dv, e2, rv⟩ := rs'.get' hy
        rw [getD_some e1, getD_some e2]
        have c' : (as.length != bs.length || cmpDs as bs) = true := c
        rw [show (as.length != bs.length) = false by simp; omega, Bool.false_or] at c'
        exact eqV_D sm 40 X.A.in1 du dv x y (Nat.le_trans (hiDs_get e1) hi) (by show _ + 1 + _ < _; omega) (okDs_get o1 e1) (okDs_get o2 e2) (cmpDs_get c' e1 e2) ru rv pins σ s _ _ I rx ry
      have e : ((List.range its.toArray.size).all fun j => eqD (as.getD j .non) (bs.getD j .non)) = eqDs as bs := by
        rw [eqDs_all, List.size_toArray, ← m1, l1, show (as.length == bs.length) = true by simp; omega, Bool.true_and]
      rw [e] at z
      exact z X.prog X.w X.xe _ ⟨.bl _, H, I, rfl, q⟩
    · have e : eqDs as bs = false := by
        rw [eqDs_all, show (as.length == bs.length) = false by simp; omega, Bool.false_and]
      have z := SeqAt.RcNeAt.lists_lengths (A := X.A) p1.isList p2.isList (by rw [List.size_toArray, List.size_toArray, ← m1, ← m2]; simp [hl]) (by omega)
      refine z X.prog X.w X.xe _ ⟨.bl true, H, I, rfl, ?_⟩
      rw [e] at q
      exact q
def hEq (neg : Bool) (a b : D) (Q : D → Prop) : Prop := match a, b with
  | .int i, .int j => Q (.bl (if neg then !decide (i = j) else decide (i = j)))
  | .bl i, .bl j => Q (.bl (if neg then !decide (i = j) else decide (i = j)))
  | .str i, .str j => Q (.bl (if neg then !decide (i = j) else decide (i = j)))
  | .lst as, .lst bs => okDs as = true ∧ okDs bs = true ∧ hiDs as ≤ 40 ∧ cmpD (.lst as) (.lst bs) = true ∧ Q (.bl (if neg then !eqDs as bs else eqDs as bs))
  | .tup as, .tup bs => okDs as = true ∧ okDs bs = true ∧ hiDs as ≤ 40 ∧ cmpD (.tup as) (.tup bs) = true ∧ Q (.bl (if neg then !eqDs as bs else eqDs as bs))
  | _, _ => False
theorem dec_i {i j : Int} : decide (V.int i = V.int j) = decide (i = j) := by
  rw [Bool.eq_iff_iff, decide_eq_true_iff, decide_eq_true_iff]; exact ⟨fun h => V.int.inj h, fun h => by rw [h]⟩
theorem dec_b {i j : Bool} : decide (V.bl i = V.bl j) = decide (i = j) := by
  rw [Bool.eq_iff_iff, decide_eq_true_iff, decide_eq_true_iff]; exact ⟨fun h => V.bl.inj h, fun h => by rw [h]⟩
theorem dec_s {i j : Str} : decide (V.str i = V.str j) = decide (i = j) := by
  rw [Bool.eq_iff_iff, decide_eq_true_iff, decide_eq_true_iff]; exact ⟨fun h => V.str.inj h, fun h => by rw [h]⟩
theorem od_eq {K : PySem.W.Frag} : OpD K (fun x y H Q => rEq x y H Q ∨ rEqD K false x y H Q) (hEq false) := fun F H x y dx dy Qd Q s rx ry h fin => by
  unfold hEq at h
  split at h
  · cases (show x = _ from rx); cases (show y = _ from ry)
    exact .inl ⟨rfl, by rw [dec_i]; exact fin.now s h rfl⟩
  · cases (show x = _ from rx); cases (show y = _ from ry)
    exact .inl ⟨rfl, by rw [dec_b]; exact fin.now s h rfl⟩
  · cases (show x = _ from rx); cases (show y = _ from ry)
    exact .inl ⟨rfl, by rw [dec_s]; exact fin.now s h rfl⟩
  · obtain ⟨o1, o2, hi, c, q⟩ := h
    exact .inr ⟨F, _, _, false, s, o1, o2, hi, by rw [if_neg Bool.false_ne_true]; exact ⟨c, rx, ry⟩, fin.now s q rfl⟩
  · obtain ⟨o1, o2, hi, c, q⟩ := h
    exact .inr ⟨F, _, _, true, s, o1, o2, hi, by rw [if_pos rfl]; exact ⟨c, rx, ry⟩, fin.now s q rfl⟩
  · exact h.elim
theorem od_ne {K : PySem.W.Frag} : OpD K (fun x y H Q => rNe x y H Q ∨ rEqD K true x y H Q) (hEq true) := fun F H x y dx dy Qd Q s rx ry h fin => by
  unfold hEq at h
  split at h
  · cases (show x = _ from rx); cases (show y = _ from ry)
    exact .inl ⟨rfl, by rw [dec_i]; exact fin.now s h rfl⟩
  · cases (show x = _ from rx); cases (show y = _ from ry)
    exact .inl ⟨rfl, by rw [dec_b]; exact fin.now s h rfl⟩
  · cases (show x = _ from rx); cases (show y = _ from ry)
    exact .inl ⟨rfl, by rw [dec_s]; exact fin.now s h rfl⟩
  · obtain ⟨o1, o2, hi, c, q⟩ := h
    exact .inr ⟨F, _, _, false, s, o1, o2, hi, by rw [if_neg Bool.false_ne_true]; exact ⟨c, rx, ry⟩, fin.now s q rfl⟩
  · obtain ⟨o1, o2, hi, c, q⟩ := h
    exact .inr ⟨F, _, _, true, s, o1, o2, hi, by rw [if_pos rfl]; exact ⟨c, rx, ry⟩, fin.now s q rfl⟩
  · exact h.elim
variable {E : XK} {pos p : Pos} {a b c e : Expr} {es : List Expr} {ga gb gc g : GE}
theorem de_eq (hu : X.A.units + 64 < cLine) (ha : DE X E a ga) (hb : DE X E b gb) : DE X E (.Compare a [.Eq] [b] pos) (gOp (hEq false) ga gb) := de_cmp (op_eq.or (op_eqD hu)) od_eq ha hb (nomark _)
theorem dt_ne (hu : X.A.units + 64 < cLine) (ha : DE X E a ga) (hb : DE X E b gb) : DT X E (.Compare a [.NotEq] [b] pos) (gTest (gOp (hEq true) ga gb)) := dt_cmp (op_ne.or (op_neD hu)) od_ne ha hb (nomark _)
end
end L2
namespace L2
open PySem PySem.Spec PyProof.Rows
theorem atI_rep {K : PySem.W.Frag} {F : Hp} {ds : List D} {xs : List V} {i : Int} {d : D} (r : Reps K F ds xs) (h : atI ds i = some d) : ∃ x, atI xs i = some x ∧ Rep K F d x := by
  unfold atI at h ⊢
  rw [r.length]
  cases q : ixN ds.length i with
  | none => rw [q] at h; cases h
  | some j =>
    rw [q] at h
    have h : ds[j]? = some d := h
    obtain ⟨x, hx, rx⟩ := r.get h
    exact ⟨x, hx, rx⟩
def hIx (a b : D) (Q : D → Prop) : Prop := match a, b with
  | .lst ds, .int i => ∃ d, atI ds i = some d ∧ Q d
  | .tup ds, .int i => ∃ d, atI ds i = some d ∧ Q d
  | .scr ns, .int i => ∃ n, atI ns i = some n ∧ Q (.int n)
  | _, _ => False
theorem atI_map {α β : Type} {f : α → β} {xs : List α} {i : Int} {x : α} (h : atI xs i = some x) : atI (xs.map f) i = some (f x) := by
  unfold atI at h ⊢
  rw [List.length_map]
  cases q : ixN xs.length i with
  | none => rw [q] at h; cases h
  | some j =>
    rw [q] at h
    have h : xs[j]? = some x := h
    show (xs.map f)[j]? = some (f x)
    rw [List.getElem?_map, h]
    rfl
theorem od_ix {K : PySem.W.Frag} : OpD K (rIx K) hIx := fun F H x y dx dy Qd Q s rx ry h fin => by
  unfold hIx at h
  split at h
  · obtain ⟨d, hd, q⟩ := h
    obtain ⟨a, xs, rfl, hF, r⟩ := rx
    obtain ⟨v, hv, rv⟩ := atI_rep r hd
    exact .inl ⟨a, xs, _, v, rfl, ry, SqL.of (s _ _ hF), hv, fin.now s q rv⟩
  · obtain ⟨d, hd, q⟩ := h
    obtain ⟨a, xs, rfl, hF, r⟩ := rx
    obtain ⟨v, hv, rv⟩ := atI_rep r hd
    exact .inr (.inl ⟨a, xs, _, v, rfl, ry, SqT.of (s _ _ hF), hv, fin.now s q rv⟩)
  · obtain ⟨n, hn, q⟩ := h
    obtain ⟨a, rfl, hq⟩ := rx
    exact .inl ⟨a, _, _, .int n, rfl, ry, s.seq hq, atI_map hn, fin.now s q rfl⟩
  · exact h.elim
section
variable {X : Cx} {E : XK} {pos p : Pos} {a b c e : Expr} {es : List Expr} {ga gb gc g : GE}
theorem de_at (ha : DE X E a ga) (hb : DE X E b gb) (hs : PlainIx b := by exact fun _ _ => rfl) : DE X E (.Subscript a b pos) (gOp hIx ga gb) := de_ix ix_seq od_ix ha hb hs
def CallD (K : PySem.W.Frag) (r : List V → Hp → VK → Prop) (h : List D → (D → Prop) → Prop) : Prop := ∀ F H vs ds Qd Q, Same F H → Reps K F ds vs → h ds Qd → Fin1 K F H Qd Q → r vs H Q
def gCB (h : List D → (D → Prop) → Prop) (ga : GA) : GE := fun env Ex Q => ga env Ex fun ds => h ds Q
theorem liftC {r : List V → Hp → VK → Prop} {h : List D → (D → Prop) → Prop} {ga : GA} (o : CallD X.K r h) : ∀ σ H Q, DTE X.K E (gCB h ga) σ H Q → tCB r (DTA X.K E ga) σ H Q :=
  fun σ H Q ⟨F, env, Ex, Qd, s, sl, ex, q, fin⟩ => ⟨F, env, Ex, _, s, sl, ex, q, fun ds vs F1 H1 q1 g1 r1 => o F1 H1 vs ds Qd Q g1.sub r1 q1 (fin.step g1)⟩
theorem de_callB {id : String} {x : Str} {r : List V → Hp → VK → Prop} {h : List D → (D → Prop) → Prop} {ga : GA} (hc : CallR X (.builtin id) r) (o : CallD X.K r h) (hg : Gl X x) (hm : X.mg x = none) (hv : bootBuiltins x = some (.builtin id)) (ha : DA X E (e :: es) ga)
    (hn : x ≠ "__name__" := by decide) (hdb : (x == ("__debug__" : Str)) = false := by decide) (he : starEach (e :: es) X.env = (false, eval e X.env) :: starEach es X.env := by rfl) (hpl : (backTo pos (starEach es X.env)).any (·.1) = false := by rfl) :
    DE X E (.Call (.Name x p) (e :: es) [] pos) (gCB h ga) := ⟨PE.weak (pe_callB hc hg hm hv ha.h hn hdb he hpl) (liftC o)⟩
def FinF (K : PySem.W.Frag) (F H : Hp) (Qd : List D → Prop) (Q : VK) : Prop := ∀ ds a xs F' H', Qd ds → Grow F H F' H' → F' a = none → H a = none → H' a = some (.lst xs) → Reps K F' ds xs → Q (.ref a) H'
theorem FinF.step {K : PySem.W.Frag} {F H F' H' : Hp} {Qd : List D → Prop} {Q : VK} (h : FinF K F H Qd Q) (g : Grow F H F' H') : FinF K F' H' Qd Q := fun ds a xs F2 H2 q g2 f n l r => h ds a xs F2 H2 q (g.trans g2) f (g.hh.free n) l r
theorem FinF.now {K : PySem.W.Frag} {F H : Hp} {Qd : List D → Prop} {Q : VK} {ds : List D} {xs : List V} (h : FinF K F H Qd Q) (s : Same F H) (q : Qd ds) (r : Reps K F ds xs) : ∀ l, H l = none → Q (.ref l) (upd H l (.lst xs)) :=
  fun l hl => h ds l xs F _ q (Grow.keep s hl) (s.free hl) hl upd_same r
def CallF (K : PySem.W.Frag) (r : List V → Hp → VK → Prop) (h : List D → (List D → Prop) → Prop) : Prop := ∀ F H vs ds Qd Q, Same F H → Reps K F ds vs → h ds Qd → FinF K F H Qd Q → r vs H Q
def gCF (h : List D → (List D → Prop) → Prop) (ga : GA) : GA := fun env Ex Q => ga env Ex fun ds => h ds Q
theorem liftCF {r : List V → Hp → VK → Prop} {h : List D → (List D → Prop) → Prop} {ga : GA} (o : CallF X.K r h) : ∀ σ H Q, DTF X.K E (gCF h ga) σ H Q → tCB r (DTA X.K E ga) σ H Q :=
  fun σ H Q ⟨F, env, Ex, Qd, s, sl, ex, q, fin⟩ => ⟨F, env, Ex, _, s, sl, ex, q, fun ds vs F1 H1 q1 g1 r1 => o F1 H1 vs ds Qd Q g1.sub r1 q1 (FinF.step fin g1)⟩
theorem df_callB {id : String} {x : Str} {r : List V → Hp → VK → Prop} {h : List D → (List D → Prop) → Prop} {ga : GA} (hc : CallR X (.builtin id) r) (o : CallF X.K r h) (hg : Gl X x) (hm : X.mg x = none) (hv : bootBuiltins x = some (.builtin id)) (ha : DA X E (e :: es) ga)
    (hn : x ≠ "__name__" := by decide) (hdb : (x == ("__debug__" : Str)) = false := by decide) (he : starEach (e :: es) X.env = (false, eval e X.env) :: starEach es X.env := by rfl) (hpl : (backTo pos (starEach es X.env)).any (·.1) = false := by rfl) :
    DF X E (.Call (.Name x p) (e :: es) [] pos) (gCF h ga) := ⟨PE.weak (pe_callB hc hg hm hv ha.h hn hdb he hpl) (liftCF o)⟩
theorem df_callT {id : String} {x : Str} {r : List V → Hp → VK → Prop} {h : List D → (List D → Prop) → Prop} {ga : GA} (hc : CallR X (.type id) r) (o : CallF X.K r h) (hg : Gl X x) (hm : X.mg x = none) (hv : bootBuiltins x = some (.type id)) (ha : DA X E (e :: es) ga)
    (hn : x ≠ "__name__" := by decide) (hdb : (x == ("__debug__" : Str)) = false := by decide) (he : starEach (e :: es) X.env = (false, eval e X.env) :: starEach es X.env := by rfl) (hpl : (backTo pos (starEach es X.env)).any (·.1) = false := by rfl) :
    DF X E (.Call (.Name x p) (e :: es) [] pos) (gCF h ga) := ⟨PE.weak (pe_callTy hc hg hm hv ha.h hn hdb he hpl) (liftCF o)⟩
def hLen (ds : List D) (Q : D → Prop) : Prop := match ds with
  | [.lst xs] => Q (.int (xs.length : Nat))
  | [.tup xs] => Q (.int (xs.length : Nat))
  | [.scr xs] => Q (.int (xs.length : Nat))
  | [.str x] => x.length ≤ sizeLine ∧ Q (.int (x.length : Nat))
  | _ => False
theorem cd_len {K : PySem.W.Frag} : CallD K (fun xs H Q => ∃ x n, xs = [x] ∧ LenV K x H n ∧ Q (.int (n : Nat)) H) hLen := fun F H vs ds Qd Q s r h fin => by
  unfold hLen at h
  split at h
  · obtain ⟨x, _, rfl, ⟨a, ys, rfl, hF, rs⟩, e⟩ := r
    cases (show _ = [] from e)
    refine ⟨_, _, rfl, .inl ⟨ys, SqL.of (s _ _ hF), rfl⟩, ?_⟩
    rw [rs.length]
    exact fin.now s h rfl
  · obtain ⟨x, _, rfl, ⟨a, ys, rfl, hF, rs⟩, e⟩ := r
    cases (show _ = [] from e)
    refine ⟨_, _, rfl, .inr ⟨ys, SqT.of (s _ _ hF), rfl⟩, ?_⟩
    rw [rs.length]
    exact fin.now s h rfl
  · obtain ⟨x, _, rfl, ⟨a, rfl, hq⟩, e⟩ := r
    cases (show _ = [] from e)
    refine ⟨_, _, rfl, .inl ⟨_, s.seq hq, rfl⟩, ?_⟩
    rw [List.length_map]
    exact fin.now s h rfl
  · obtain ⟨x, _, rfl, e1, e⟩ := r
    cases (show _ = [] from e)
    cases (show x = _ from e1)
    exact ⟨_, _, rfl, ⟨h.1, rfl⟩, fin.now s h.2 rfl⟩
  · exact h.elim
theorem de_len {ga : GA} (hg : Gl X "len") (hm : X.mg "len" = none) (ha : DA X E [e] ga) (he : starEach [e] X.env = [(false, eval e X.env)] := by rfl) : DE X E (.Call (.Name "len" p) [e] [] pos) (gCB hLen ga) := de_callB call_len cd_len hg hm PySem.boot_len ha (by decide) (by decide) he rfl
def hListOf (ds : List D) (Q : List D → Prop) : Prop := match ds with
  | [.lst xs] => Q xs
  | [.tup xs] => Q xs
  | _ => False
theorem cf_list {K : PySem.W.Frag} : CallF K (fun xs H Q => ∃ p ys, xs = [.ref p] ∧ (SqL K H p ys ∨ SqT K H p ys) ∧ ∀ l, H l = none → Q (.ref l) (upd H l (.lst ys))) hListOf := fun F H vs ds Qd Q s r h fin => by
  unfold hListOf at h
  split at h
  · obtain ⟨x, _, rfl, ⟨a, ys, rfl, hF, rs⟩, e⟩ := r
    cases (show _ = [] from e)
    exact ⟨a, ys, rfl, .inl (SqL.of (s _ _ hF)), FinF.now fin s h rs⟩
  · obtain ⟨x, _, rfl, ⟨a, ys, rfl, hF, rs⟩, e⟩ := r
    cases (show _ = [] from e)
    exact ⟨a, ys, rfl, .inr (SqT.of (s _ _ hF)), FinF.now fin s h rs⟩
  · exact h.elim
theorem bt_listT : bootBuiltins "list" = some (.type "list") := by decide +kernel
theorem bt_rangeT : bootBuiltins "range" = some (.type "range") := by decide +kernel
theorem bt_sortedB : bootBuiltins "sorted" = some (.builtin "sorted") := by decide +kernel
theorem bt_isiB : bootBuiltins "isinstance" = some (.builtin "isinstance") := by decide +kernel
theorem df_list {ga : GA} (hg : Gl X "list") (hm : X.mg "list" = none) (ha : DA X E [e] ga) (he : starEach [e] X.env = [(false, eval e X.env)] := by rfl) : DF X E (.Call (.Name "list" p) [e] [] pos) (gCF hListOf ga) := df_callT call_list_of cf_list hg hm bt_listT ha (by decide) (by decide) he rfl
def intsTo (n : Nat) : List D := (List.range n).map fun (k : Nat) => D.int ((k : Nat) : Int)
def gRange (ga : GA) : GA := fun env Ex Q => ga env Ex fun ds => match ds with
  | [.int j] => j ≤ 2 ^ 20 ∧ Q (intsTo j.toNat)
  | _ => False
theorem reps_range {K : PySem.W.Frag} {F : Hp} (n : Nat) : Reps K F (intsTo n) (rngL n) := by
  refine Reps.of (by simp [intsTo, rngL]) fun i d x e1 e2 => ?_
  unfold intsTo at e1
  unfold rngL at e2
  rw [List.getElem?_map] at e1 e2
  cases q : (List.range n)[i]? with
  | none => rw [q] at e1; cases e1
  | some k => rw [q] at e1 e2; cases e1; cases e2; rfl
theorem call_list_rng' (hc : X.calm = true) : CallR X (.type "list") (fun xs H Q => ∃ (r : Addr) (j : Int), xs = [.ref r] ∧ H r = some (.rng 0 j) ∧ 0 ≤ j ∧ j ≤ 2 ^ 20 ∧ ∀ l, H l = none → Q (.ref l) (upd H l (.lst (rngL j.toNat)))) := by
  intro pins s σ H xs us Q I r h
  obtain ⟨a, j, rfl, hr, h0, hn, q⟩ := h
  refine call_list_rng hc pins s σ H _ us Q I r ⟨a, j.toNat, rfl, ?_, by omega, q⟩
  rw [show ((j.toNat : Nat) : Int) = j by omega]
  exact hr
theorem df_listRange {q : Pos} {qos : Pos} {ga : GA} (hc : X.calm = true) (hg : Gl X "list") (hm : X.mg "list" = none) (hg2 : Gl X "range") (hm2 : X.mg "range" = none) (ha : DA X E [e] ga) (he : starEach [e] X.env = [(false, eval e X.env)] := by rfl)
    (he2 : starEach [Expr.Call (.Name "range" q) [e] [] qos] X.env = [(false, eval (Expr.Call (.Name "range" q) [e] [] qos) X.env)] := by rfl) :
    DF X E (.Call (.Name "list" p) [.Call (.Name "range" q) [e] [] qos] [] pos) (gRange (fun env Ex Q => ga env Ex fun ds => (∀ j, ds = [.int j] → 0 ≤ j) ∧ Q ds)) := ⟨
  PE.weak (pe_callTy (call_list_rng' hc) hg hm bt_listT (pa_cons (pe_callTy call_rangeV hg2 hm2 bt_rangeT ha.h (by decide) (by decide) he rfl) pa_nil he2) (by decide) (by decide) he2 rfl) fun σ H Q ⟨F, env, Ex, Qd, s, sl, ex, q, fin⟩ => ⟨F, env, Ex, _, s, sl, ex, q, fun ds vs F1 H1 q1 g1 r1 => by
    obtain ⟨nn, q1⟩ := q1
    split at q1
    · rename_i j
      obtain ⟨x, _, rfl, e1, e2⟩ := r1
      cases (show _ = [] from e2)
      cases (show x = _ from e1)
      refine ⟨j, rfl, fun r hr => ⟨r, j, rfl, upd_same, nn j rfl, q1.1, fun l hl => ?_⟩⟩
      have n1 : H1 l = none := by
        by_cases h : l = r
        · rw [h, upd_same] at hl; cases hl
        · rw [upd_ne h] at hl; exact hl
      refine fin _ l _ F1 _ q1.2 (g1.trans ((Grow.keep g1.sub hr).trans (Grow.keep (Grow.keep g1.sub hr).sub hl))) (g1.sub.free n1) (g1.hh.free n1) upd_same (reps_range _)
    · exact q1.elim⟩⟩
def hSortI (ds : List D) (Q : List D → Prop) : Prop := ∃ ns, ds = [.lst (ns.map D.int)] ∧ ns.length < 64 ∧ Q ((srt ns).map D.int)
theorem cf_sortI {K : PySem.W.Frag} : CallF K (fun xs H Q => ∃ p ns, xs = [.ref p] ∧ SqL K H p (ns.map V.int) ∧ ns.length < 64 ∧ ∀ l, H l = none → Q (.ref l) (upd H l (.lst ((srt ns).map V.int)))) hSortI := fun F H vs ds Qd Q s r h fin => by
  obtain ⟨ns, rfl, hl, q⟩ := h
  obtain ⟨x, _, rfl, ⟨a, ys, rfl, hF, rs⟩, e⟩ := r
  cases (show _ = [] from e)
  rw [Reps.ints_eq rs] at hF
  exact ⟨a, ns, rfl, SqL.of (s _ _ hF), hl, FinF.now fin s q (Reps.ints _)⟩
theorem df_sortI {ga : GA} (hg : Gl X "sorted") (hm : X.mg "sorted" = none) (ha : DA X E [e] ga) (he : starEach [e] X.env = [(false, eval e X.env)] := by rfl) : DF X E (.Call (.Name "sorted" p) [e] [] pos) (gCF hSortI ga) := df_callB call_sortedL cf_sortI hg hm bt_sortedB ha (by decide) (by decide) he rfl
def hSortT (ds : List D) (Q : List D → Prop) : Prop := ∃ ts : List D, ds = [.lst ts] ∧ ts.length < 64 ∧ (∀ t ∈ ts, ∃ i, ∃ ns : List Int, t = .tup (D.int i :: ns.map D.int)) ∧ ∀ out, out.Perm ts → Q out
theorem cf_sortT {K : PySem.W.Frag} : CallF K (fun xs H Q => ∃ p ts, xs = [.ref p] ∧ SqL K H p ts ∧ ts.length < 64 ∧ (∀ t ∈ ts, ∃ a i, ∃ ns : List Int, t = .ref a ∧ SqT K H a (V.int i :: ns.map V.int)) ∧
    ∀ l out, H l = none → out.Perm ts → Q (.ref l) (upd H l (.lst out))) hSortT := fun F H vs ds Qd Q s r h fin => by
  obtain ⟨ts, rfl, hl, ht, q⟩ := h
  obtain ⟨x, _, rfl, ⟨a, ys, rfl, hF, rs⟩, e⟩ := r
  cases (show _ = [] from e)
  refine ⟨a, ys, rfl, SqL.of (s _ _ hF), by rw [rs.length]; exact hl, fun t m => ?_, fun l out hn hp => ?_⟩
  · obtain ⟨j, hj, rfl⟩ := List.getElem_of_mem m
    obtain ⟨d, hd, rd⟩ := rs.get' (List.getElem?_eq_getElem hj)
    obtain ⟨i, ns, rfl⟩ := ht d (List.mem_of_getElem? hd)
    obtain ⟨b, zs, e1, hb, rz⟩ := rd
    refine ⟨b, i, ns, e1, ?_⟩
    have z := Reps.ints_eq (ns := i :: ns) rz
    rw [z] at hb
    exact SqT.of (s _ _ hb)
  · obtain ⟨os, po, ro⟩ := Reps.perm hp rs
    exact FinF.now fin s (q os po) ro l hn
theorem df_sortT {ga : GA} (hg : Gl X "sorted") (hm : X.mg "sorted" = none) (ha : DA X E [e] ga) (he : starEach [e] X.env = [(false, eval e X.env)] := by rfl) : DF X E (.Call (.Name "sorted" p) [e] [] pos) (gCF hSortT ga) := df_callB call_sortedT cf_sortT hg hm bt_sortedB ha (by decide) (by decide) he rfl
inductive Ki where
  | int | bool | list | tuple | str
def Ki.nm : Ki → String
  | .int => "int" | .bool => "bool" | .list => "list" | .tuple => "tuple" | .str => "str"
def isiD (t : Ki) (d : D) : Bool := match t, d with
  | .int, .int _ => true
  | .int, .bl _ => true
  | .bool, .bl _ => true
  | .list, .lst _ => true
  | .tuple, .tup _ => true
  | .str, .str _ => true
  | _, _ => false
def hIsi (t : Ki) (d : D) (Q : D → Prop) : Prop := match d with
  | .scr _ => False
  | .kt _ => False
  | .dtt _ _ => False
  | d => Q (.bl (isiD t d))
theorem kit_ki (t : Ki) : kitPure "NoneType" t.nm = some false ∧ kitPure "bool" t.nm = some (isiD t (.bl true)) ∧ kitPure "int" t.nm = some (isiD t (.int 0)) ∧ kitPure "str" t.nm = some (isiD t (.str Str.empty)) ∧ kitPure "list" t.nm = some (isiD t (.lst [])) ∧ kitPure "tuple" t.nm = some (isiD t (.tup [])) := by
  cases t <;> exact ⟨by decide +kernel, by decide +kernel, by decide +kernel, by decide +kernel, by decide +kernel, by decide +kernel⟩
theorem bt_ki (t : Ki) : bootBuiltins (Str.ofString t.nm) = some (.type t.nm) := by cases t <;> decide +kernel
theorem de_isi (t : Ki) {q : Pos} {y : Str} (hy : y = Str.ofString t.nm) (hg : Gl X "isinstance") (hm : X.mg "isinstance" = none) (hg2 : Gl X y) (hm2 : X.mg y = none) (ha : DE X E a ga) (hn : y ≠ "__name__" := by decide) (hd : (y == ("__debug__" : Str)) = false := by decide)
    (hs : starEach [a, .Name y q] X.env = [(false, eval a X.env), (false, eval (.Name y q) X.env)] := by rfl) (hs2 : starEach [.Name y q] X.env = [(false, eval (.Name y q) X.env)] := by rfl) :
    DE X E (.Call (.Name "isinstance" p) [a, .Name y q] [] pos) (gUn (hIsi t) ga) := ⟨by
  subst hy
  refine PE.weak (pe_callB (r := fun xs H Q => ∃ x c t cv b, xs = [x, c] ∧ TyOf X.K H x t ∧ clsV c = some cv ∧ PySem.W.kitOne X.K t cv = some b ∧ Q (.bl b) H) call_isinst hg hm bt_isiB
    (pa_cons ha.h (pa_cons (pe_bltn (v := .ty t.nm) hg2 hm2 (bt_ki t) rfl hn hd) pa_nil hs2) (by rw [hs, hs2])) (by decide) (by decide) (by rw [hs, hs2]) (by rw [hs2]; rfl))
    fun σ H Q ⟨F, env, Ex, Qd, s, sl, ex, q, fin⟩ => ⟨F, env, Ex, _, s, sl, ex, q, fun d v F1 H1 q1 g1 r1 => ?_⟩
  obtain ⟨k1, k2, k3, k4, k5, k6⟩ := kit_ki t
  cases d with
  | non => cases (show v = _ from r1); exact ⟨_, _, _, _, _, rfl, .non, rfl, kit_pure k1, fin (.bl false) _ F1 H1 (by cases t <;> exact q1) g1 rfl⟩
  | bl b => cases (show v = _ from r1); exact ⟨_, _, _, _, _, rfl, .bl b, rfl, kit_pure k2, fin (.bl (isiD t (.bl true))) _ F1 H1 (by cases t <;> exact q1) g1 rfl⟩
  | int b => cases (show v = _ from r1); exact ⟨_, _, _, _, _, rfl, .int b, rfl, kit_pure k3, fin (.bl (isiD t (.int 0))) _ F1 H1 (by cases t <;> exact q1) g1 rfl⟩
  | str b => cases (show v = _ from r1); exact ⟨_, _, _, _, _, rfl, .str b, rfl, kit_pure k4, fin (.bl (isiD t (.str Str.empty))) _ F1 H1 (by cases t <;> exact q1) g1 rfl⟩
  | lst ds => obtain ⟨b, xs, rfl, hF, _⟩ := r1; exact ⟨_, _, _, _, _, rfl, .lst (g1.sub _ _ hF), rfl, kit_pure k5, fin (.bl (isiD t (.lst []))) _ F1 H1 (by cases t <;> exact q1) g1 rfl⟩
  | tup ds => obtain ⟨b, xs, rfl, hF, _⟩ := r1; exact ⟨_, _, _, _, _, rfl, .tup (g1.sub _ _ hF), rfl, kit_pure k6, fin (.bl (isiD t (.tup []))) _ F1 H1 (by cases t <;> exact q1) g1 rfl⟩
  | scr ds => exact (show False from q1).elim
  | kt ds => exact (show False from q1).elim
  | dtt ks ds => exact (show False from q1).elim⟩
def gCall (f : DSp) (ga : GA) : GE := fun env Ex Q => ga env Ex fun ds => f ds Ex Q
theorem de_call {k n : Nat} {f : Addr} {fd : FuncData} {ps : List Str} {sp : DSp} {x : Str} {ga : GA} (G : FnOk X.prog X.w X.K X.mg X.base (CXx X.prog X.w) k f fd ps (dSp X.K n sp)) (hr : Room k X.A) (hg : Gl X x) (hm : X.mg x = some (.ref f)) (hk : PySem.W.keepIn X.K (.ref f) = true)
    (hb : Binds X.K fd ps []) (hx : Passes (CXx X.prog X.w) X E) (ha : DA X E (e :: es) ga) (hn : (e :: es).length = n := by rfl) (hdb : (x == ("__debug__" : Str)) = false := by decide) (he : starEach (e :: es) X.env = (false, eval e X.env) :: starEach es X.env := by rfl)
    (hpl : (backTo pos (starEach es X.env)).any (·.1) = false := by rfl) : DE X E (.Call (.Name x p) (e :: es) [] pos) (gCall (fun ds Ex Q => ds.length = n ∧ sp ds Ex Q) ga) := ⟨
  PE.weak (pe_call (dvs := []) (E := E) G hr hg hm hk hb .nil hx ha.h hdb he hpl) fun σ H Q ⟨F, env, Ex, Qd, s, sl, ex, q, fin⟩ => ⟨F, env, Ex, _, s, sl, ex, q, fun ds vs F1 H1 q1 g1 r1 =>
    ⟨F1, ds, Ex, Qd, q1.1, g1.sub, by rw [List.append_nil]; exact r1, ex.step g1.hh, q1.2, fin.step g1⟩⟩⟩
def OpF (K : PySem.W.Frag) (r : R2) (h : D → D → (List D → Prop) → Prop) : Prop := ∀ F H x y dx dy Qd Q, Same F H → Rep K F dx x → Rep K F dy y → h dx dy Qd → FinF K F H Qd Q → r x y H Q
def gOpF (h : D → D → (List D → Prop) → Prop) (ga gb : GE) : GA := fun env Ex Q => ga env Ex fun x => gb env Ex fun y => h x y Q
theorem lift2F {r : R2} {h : D → D → (List D → Prop) → Prop} (o : OpF X.K r h) : ∀ σ H Q, DTF X.K E (gOpF h ga gb) σ H Q → tOp r (DTE X.K E ga) (DTE X.K E gb) σ H Q :=
  fun σ H Q ⟨F, env, Ex, Qd, s, sl, ex, q, fin⟩ => ⟨F, env, Ex, _, s, sl, ex, q, fun d v F1 H1 q1 g1 r1 => ⟨F1, env, Ex, _, g1.sub, sl.grow g1, ex.step g1.hh, q1,
    fun d2 v2 F2 H2 q2 g2 r2 => o F2 H2 v v2 d d2 Qd Q g2.sub (Rep.mono g2.ff _ r1) r2 q2 (FinF.step fin (g1.trans g2))⟩⟩
def hCat (a b : D) (Q : List D → Prop) : Prop := match a, b with
  | .lst as, .lst bs => as.length + bs.length ≤ sizeLine ∧ Q (as ++ bs)
  | _, _ => False
theorem of_cat {K : PySem.W.Frag} : OpF K rCat hCat := fun F H x y dx dy Qd Q s rx ry h fin => by
  unfold hCat at h
  split at h
  · obtain ⟨a, xs, rfl, hF, r⟩ := rx
    obtain ⟨b, ys, rfl, hF', r'⟩ := ry
    exact ⟨a, b, xs, ys, rfl, rfl, s _ _ hF, s _ _ hF', by rw [r.length, r'.length]; exact h.1, FinF.now fin s h.2 (r.append r')⟩
  · exact h.elim
theorem df_cat (ha : DE X E a ga) (hb : DE X E b gb) : DF X E (.BinOp a .Add b pos) (gOpF hCat ga gb) := ⟨PE.weak (pe_op op_cat ha.h hb.h) (lift2F of_cat)⟩
theorem rep_empty {K : PySem.W.Frag} {F : Hp} {ds : List D} {xs : List V} (r : Reps K F ds xs) : xs.isEmpty = ds.isEmpty := by
  cases ds with
  | nil => rw [show xs = [] from r]; rfl
  | cons d ds => obtain ⟨_, _, rfl, _⟩ := r; rfl
end
end L2
namespace L2
open PySem PySem.Spec PyProof.Rows
theorem Grow.mut {F0 H0 F H : Hp} {a : Addr} {o : HO} (g : Grow F0 H0 F H) (hf : F a = none) (h0 : H0 a = none) : Grow F0 H0 F (upd H a o) := by
  refine ⟨fun b u e => ?_, g.ff, fun b u e => ?_, g.new⟩
  · rw [upd_ne (ne_of_none e h0)]; exact g.hh _ _ e
  · rw [upd_ne (ne_of_none e hf)]; exact g.sub _ _ e
theorem join_some {σ : St} {i : Nat} {v : V} (h : (σ[i]?).join = some v) : σ[i]? = some (some v) := by
  cases q : σ[i]? with
  | none => rw [q] at h; cases h
  | some o => rw [q] at h; have h : o = some v := h; rw [h]
section
variable {K : PySem.W.Frag} {F H : Hp} {σ : St} {env : DEnv}
theorem Slots.set {i : Nat} {s : DS} {v : V} (h : Slots K F H σ env) (ok : SlotOk K F H s (some v)) (ap : isOwn s = true → ∀ (j : Nat) t a, j ≠ i → env[j]? = some t → isOwn t = true → has t (σ[j]?).join a → ¬ has s (some v) a) : Slots K F H (σ.set i (some v)) (env.set i s) := by
  have hl := h.len
  have get : ∀ (j : Nat), j ≠ i → ((σ.set i (some v))[j]?).join = (σ[j]?).join := fun j hj => by rw [List.getElem?_set_ne (Ne.symm hj)]
  have geti : ∀ {t : DS}, (env.set i s)[i]? = some t → t = s ∧ ((σ.set i (some v))[i]?).join = some v := fun {t} e => by
    have lt : i < env.length := by
      have := (List.getElem?_eq_some_iff.mp e).1
      rwa [List.length_set] at this
    rw [List.getElem?_set_self lt] at e
    cases e
    exact ⟨rfl, by rw [List.getElem?_set_self (by omega)]; rfl⟩
  refine ⟨by rw [List.length_set, List.length_set, hl], fun j t e => ?_, fun j k s1 t1 a e1 e2 o1 o2 h1 h2 => ?_⟩
  · by_cases hj : j = i
    · subst hj
      obtain ⟨rfl, e'⟩ := geti e
      rw [e']
      exact ok
    · rw [List.getElem?_set_ne (Ne.symm hj)] at e
      rw [get j hj]
      exact h.ok j t e
  · by_cases hj : j = i
    · by_cases hk : k = i
      · rw [hj, hk]
      · exfalso
        subst hj
        obtain ⟨rfl, e'⟩ := geti e1
        rw [e'] at h1
        rw [List.getElem?_set_ne (Ne.symm hk)] at e2
        rw [get k hk] at h2
        exact ap o1 k t1 a hk e2 o2 h2 h1
    · by_cases hk : k = i
      · exfalso
        subst hk
        obtain ⟨rfl, e'⟩ := geti e2
        rw [e'] at h2
        rw [List.getElem?_set_ne (Ne.symm hj)] at e1
        rw [get j hj] at h1
        exact ap o2 j s1 a hj e1 o1 h1 h2
      · rw [List.getElem?_set_ne (Ne.symm hj)] at e1
        rw [List.getElem?_set_ne (Ne.symm hk)] at e2
        rw [get j hj] at h1
        rw [get k hk] at h2
        exact h.apart j k s1 t1 a e1 e2 o1 o2 h1 h2
theorem Slots.setSh {i : Nat} {d : D} {v : V} (h : Slots K F H σ env) (r : Rep K F d v) : Slots K F H (σ.set i (some v)) (env.set i (.sh d)) := h.set ⟨v, rfl, r⟩ fun z => nomatch z
theorem Fresh.set {H0 : Hp} {i : Nat} {s : DS} {v : V} (h : Fresh H0 σ env) (hl : env.length = σ.length) (ok : isOwn s = true → ∀ a, has s (some v) a → H0 a = none) : Fresh H0 (σ.set i (some v)) (env.set i s) := fun j t a e o q => by
  by_cases hj : j = i
  · subst hj
    have lt : j < env.length := by
      have := (List.getElem?_eq_some_iff.mp e).1
      rwa [List.length_set] at this
    rw [List.getElem?_set_self lt] at e
    cases e
    rw [List.getElem?_set_self (by omega)] at q
    exact ok o a q
  · rw [List.getElem?_set_ne (Ne.symm hj)] at e q
    exact h j t a e o q
theorem Slots.mut {i : Nat} {s s' : DS} {a : Addr} {o : HO} (h : Slots K F H σ env) (e : env[i]? = some s) (ow : isPl s = true) (ow' : isPl s' = true) (ha : (σ[i]?).join = some (.ref a)) (ok : SlotOk K F (upd H a o) s' (some (.ref a))) : Slots K F (upd H a o) σ (env.set i s') := by
  refine ⟨by rw [List.length_set, h.len], fun j t q => ?_, fun j k s1 t1 b e1 e2 o1 o2 h1 h2 => ?_⟩
  · by_cases hj : j = i
    · subst hj
      have lt : j < env.length := (List.getElem?_eq_some_iff.mp e).1
      rw [List.getElem?_set_self lt] at q
      cases q
      rw [ha]
      exact ok
    · rw [List.getElem?_set_ne (Ne.symm hj)] at q
      have z := h.ok j t q
      obtain ⟨_, u, hu, nt⟩ := (h.ok i s e).there (pl_own ow) ((pl_has ow).mpr ha)
      exact z.off (fun ot b hb hba => hj (h.apart j i t s a q e ot (pl_own ow) (hba ▸ hb) ((pl_has ow).mpr ha))) fun xs y => nt xs (Option.some.inj (hu.symm.trans y))
  · have back : ∀ {j : Nat} {t : DS} {b : Addr}, (env.set i s')[j]? = some t → isOwn t = true → has t (σ[j]?).join b → ∃ t', env[j]? = some t' ∧ isOwn t' = true ∧ has t' (σ[j]?).join b := fun {j t b} q ot hb => by
      by_cases hj : j = i
      · subst hj
        rw [List.getElem?_set_self (List.getElem?_eq_some_iff.mp e).1] at q
        cases q
        exact ⟨s, e, pl_own ow, (pl_has ow).mpr ((pl_has ow').mp hb)⟩
      · rw [List.getElem?_set_ne (Ne.symm hj)] at q
        exact ⟨t, q, ot, hb⟩
    obtain ⟨t1', q1, ot1, y1⟩ := back e1 o1 h1
    obtain ⟨t2', q2, ot2, y2⟩ := back e2 o2 h2
    exact h.apart j k t1' t2' b q1 q2 ot1 ot2 y1 y2
theorem Fresh.mut {H0 : Hp} {i : Nat} {s s' : DS} (h : Fresh H0 σ env) (e : env[i]? = some s) (ow : isPl s = true) (ow' : isPl s' = true := by rfl) : Fresh H0 σ (env.set i s') := fun j t a q ot hj => by
  by_cases z : j = i
  · subst z
    rw [List.getElem?_set_self (List.getElem?_eq_some_iff.mp e).1] at q
    cases q
    exact h j s a e (pl_own ow) ((pl_has ow).mpr ((pl_has ow').mp hj))
  · rw [List.getElem?_set_ne (Ne.symm z)] at q
    exact h j t a q ot hj
end
def gNx : GS := fun Dd _ env => Dd.nx env
def gSeq (t u : GS) : GS := fun Dd Ex env => t { Dd with nx := u Dd Ex } Ex env
def gRet (g : GE) : GS := fun Dd Ex env => g env Ex Dd.rt
def gDrop (g : GE) : GS := fun Dd Ex env => g env Ex fun _ => Dd.nx env
def gIf (c : GT) (t u : GS) : GS := fun Dd Ex env => c env Ex fun b => if b = true then t Dd Ex env else u Dd Ex env
def gSet (i : Nat) (g : GE) : GS := fun Dd Ex env => g env Ex fun d => Dd.nx (env.set i (.sh d))
def gOwn (i : Nat) (g : GA) : GS := fun Dd Ex env => g env Ex fun ds => Dd.nx (env.set i (.own ds))
def gRaise (C : Addr) (ga : GA) : GS := fun _ Ex env => ga env Ex fun ds => ds.length ≤ sizeLine ∧ Ex C
section
variable {X : Cx} {E : XK} {pos p : Pos} {a b c e : Expr} {es : List Expr} {ga gb gc g : GE} {st : Stmt} {rest : List Stmt} {t u : GS}
theorem dss_nil : DSs X E [] gNx := ⟨fun F0 H0 s0 => PSs.weak pss_nil fun Dn σ H ⟨F, env, Ex, Dd, gr, sl, fr, ex, q, en⟩ => en.nx env σ F H q gr sl fr⟩
theorem dss_cons (h1 : DSt X E st t) (h2 : DSs X E rest u) : DSs X E (st :: rest) (gSeq t u) := ⟨fun F0 H0 s0 => PSs.weak (pss_cons (h1.h F0 H0 s0) (h2.h F0 H0 s0)) fun Dn σ H ⟨F, env, Ex, Dd, gr, sl, fr, ex, q, en⟩ =>
  ⟨F, env, Ex, { Dd with nx := u Dd Ex }, gr, sl, fr, ex, q, ⟨fun env' σ' F' H' p g' sl' fr' => ⟨F', env', Ex, Dd, g', sl', fr', ex, p, en⟩, en.rt, en.bk, en.ct, en.rf, en.ro⟩⟩⟩
theorem dss_one (h1 : DSt X E st t) : DSs X E [st] t := ⟨fun F0 H0 s0 => pss_one (h1.h F0 H0 s0)⟩
theorem ds_ret (h : DE X E e g) : DSt X E (.Return (some e) pos) (gRet g) := ⟨fun F0 H0 s0 => PS.weak (ps_ret h.h) fun Dn σ H ⟨F, env, Ex, Dd, gr, sl, fr, ex, q, en⟩ =>
  ⟨F, env, Ex, Dd.rt, gr.sub, sl, ex.step gr.hh, q, fun d v F' H' p g' r => en.rt d v F' H' p (gr.trans g') r⟩⟩
theorem ds_expr (h : DE X E e g) (hs : swapsWith e none pos.line X.env = pure false := by rfl) : DSt X E (.Expr e pos) (gDrop g) := ⟨fun F0 H0 s0 => PS.weak (ps_expr h.h hs) fun Dn σ H ⟨F, env, Ex, Dd, gr, sl, fr, ex, q, en⟩ =>
  ⟨F, env, Ex, _, gr.sub, sl, ex.step gr.hh, q, fun d v F' H' p g' r => en.nx env σ F' H' p (gr.trans g') (sl.grow g') fr⟩⟩
theorem ds_if {gt : GT} {bs cs : List Stmt} (hc : DT X E c gt) (ha : DSs X E bs t) (hb : DSs X E cs u) : DSt X E (.If c bs cs pos) (gIf gt t u) := ⟨fun F0 H0 s0 => PS.weak (ps_if hc.h (ha.h F0 H0 s0) (hb.h F0 H0 s0)) fun Dn σ H ⟨F, env, Ex, Dd, gr, sl, fr, ex, q, en⟩ =>
  ⟨F, env, Ex, _, gr.sub, sl, ex.step gr.hh, q, fun k F' H' p g' => by
    cases k with
    | true => rw [if_pos rfl] at p ⊢; exact ⟨F', env, Ex, Dd, gr.trans g', sl.grow g', fr, ex, p, en⟩
    | false => rw [if_neg Bool.false_ne_true] at p ⊢; exact ⟨F', env, Ex, Dd, gr.trans g', sl.grow g', fr, ex, p, en⟩⟩⟩
theorem ds_set {i : Nat} {x : Str} {pos' : Pos} (hN : X.N.Nodup) (hi : X.N[i]? = some x) (hx : Loc X.env.scope x) (he : DE X E e g) (hs : swapsWith e (some (.Name x pos')) pos.line X.env = pure false := by rfl) (hf : X.fn x = true ∨ X.env.scope.names.lookup x = some .local := by first | exact .inl rfl | exact .inr rfl | assumption) :
    DSt X E (.Assign [.Name x pos'] e pos) (gSet i g) := ⟨fun F0 H0 s0 => PS.weak (ps_set (i := i) hN hi hx he.h hs hf) fun Dn σ H ⟨F, env, Ex, Dd, gr, sl, fr, ex, q, en⟩ =>
  ⟨F, env, Ex, _, gr.sub, sl, ex.step gr.hh, q, fun d v F' H' p g' r => en.nx _ _ F' H' p (gr.trans g') ((sl.grow g').setSh r) (fr.set sl.len fun z => nomatch z)⟩⟩
theorem own_in {F0 H0 F H F' H' : Hp} {σ : St} {env : DEnv} {i : Nat} {a : Addr} {xs : List V} {ds : List D} {Dd : DEnds} {Dn : Ends} (gr : Grow F0 H0 F H) (sl : Slots X.K F H σ env) (fr : Fresh H0 σ env) (en : EndsOk X.K F0 H0 Dd Dn) (p : Dd.nx (env.set i (.own ds)))
    (g' : Grow F H F' H') (f1 : F' a = none) (n1 : H a = none) (l1 : H' a = some (.lst xs)) (r : Reps X.K F' ds xs) : Dn.nx (σ.set i (some (.ref a))) H' := by
  refine en.nx _ _ F' H' p (gr.trans g') ((sl.grow g').set ⟨a, xs, rfl, f1, l1, r⟩ fun _ j t c _ e o hj z => ?_) (fr.set sl.len fun _ c z => by cases z; exact gr.hh.free n1)
  cases z
  obtain ⟨_, u, hu, _⟩ := (sl.ok j t e).there o hj
  rw [n1] at hu
  cases hu
theorem ds_own {i : Nat} {x : Str} {pos' : Pos} {gf : GA} (hN : X.N.Nodup) (hi : X.N[i]? = some x) (hx : Loc X.env.scope x) (he : DF X E e gf) (hs : swapsWith e (some (.Name x pos')) pos.line X.env = pure false := by rfl) (hf : X.fn x = true ∨ X.env.scope.names.lookup x = some .local := by first | exact .inl rfl | exact .inr rfl | assumption) :
    DSt X E (.Assign [.Name x pos'] e pos) (gOwn i gf) := ⟨fun F0 H0 s0 => PS.weak (ps_set (i := i) hN hi hx he.h hs hf) fun Dn σ H ⟨F, env, Ex, Dd, gr, sl, fr, ex, q, en⟩ =>
  ⟨F, env, Ex, _, gr.sub, sl, ex.step gr.hh, q, fun ds a xs F' H' p g' f1 n1 l1 r => own_in gr sl fr en p g' f1 n1 l1 r⟩⟩
def gFreeze (i : Nat) (g : GS) : GS := fun Dd Ex env => match env[i]? with
  | some (.own ds) => g Dd Ex (env.set i (.sh (.lst ds)))
  | _ => False
theorem dss_freeze (i : Nat) (h : DSs X E rest t) : DSs X E rest (gFreeze i t) := ⟨fun F0 H0 s0 => PSs.weak (h.h F0 H0 s0) fun Dn σ H ⟨F, env, Ex, Dd, gr, sl, fr, ex, q, en⟩ => by
  unfold gFreeze at q
  split at q
  · rename_i ds e
    obtain ⟨a, xs, e1, f, l, r⟩ := sl.ok i _ e
    have ff : Same F (upd F a (.lst xs)) := fun b o z => by rw [upd_ne (ne_of_none z f)]; exact z
    have h0 : H0 a = none := fr i _ a e rfl e1
    have gr' : Grow F0 H0 (upd F a (.lst xs)) H := by
      refine ⟨gr.hh, gr.ff.trans ff, fun b o z => ?_, fun b z n => ?_⟩
      · by_cases hb : b = a
        · subst hb; rw [upd_same] at z; rw [l, ← z]
        · rw [upd_ne hb] at z; exact gr.sub _ _ z
      · by_cases hb : b = a
        · rw [hb]; exact .inl h0
        · rw [upd_ne hb] at n; exact gr.new b z n
    have es : σ.set i (some (.ref a)) = σ := by
      have z := join_some e1
      have lt := (List.getElem?_eq_some_iff.mp z).1
      have z' := (List.getElem?_eq_some_iff.mp z).2
      rw [← z']
      exact List.set_getElem_self lt
    have sl1 : Slots X.K (upd F a (.lst xs)) H σ (env.set i (.sh (.lst ds))) := by
      refine ⟨by rw [List.length_set, sl.len], fun j t' q' => ?_, fun j k s1 t1 b z1 z2 o1 o2 h1 h2 => ?_⟩
      · by_cases hj : j = i
        · subst hj
          rw [List.getElem?_set_self (List.getElem?_eq_some_iff.mp e).1] at q'
          cases q'
          rw [e1]
          exact ⟨.ref a, rfl, a, xs, rfl, upd_same, Reps.mono ff _ r⟩
        · rw [List.getElem?_set_ne (Ne.symm hj)] at q'
          have z := sl.ok j t' q'
          exact z.frz f fun ot b hb hba => hj (sl.apart j i t' _ a q' e ot rfl (hba ▸ hb) e1)
      · have back : ∀ {j : Nat} {t' : DS}, (env.set i (.sh (.lst ds)))[j]? = some t' → isOwn t' = true → env[j]? = some t' := fun {j t'} q' ot => by
          by_cases hj : j = i
          · subst hj
            rw [List.getElem?_set_self (List.getElem?_eq_some_iff.mp e).1] at q'
            cases q'
            cases ot
          · rwa [List.getElem?_set_ne (Ne.symm hj)] at q'
        exact sl.apart j k s1 t1 b (back z1 o1) (back z2 o2) o1 o2 h1 h2
    have fr1 : Fresh H0 σ (env.set i (.sh (.lst ds))) := fun j t' b q' ot hb => by
      by_cases hj : j = i
      · subst hj
        rw [List.getElem?_set_self (List.getElem?_eq_some_iff.mp e).1] at q'
        cases q'
        cases ot
      · rw [List.getElem?_set_ne (Ne.symm hj)] at q'
        exact fr j t' b q' ot hb
    exact ⟨upd F a (.lst xs), _, Ex, Dd, gr', sl1, fr1, ex, q, en⟩
  · exact q.elim⟩
def gApp (i : Nat) (g : GE) : GS := fun Dd Ex env => match env[i]? with
  | some (.own ds) => g env Ex fun d => ds.length < sizeLine ∧ Dd.nx (env.set i (.own (ds ++ [d])))
  | _ => False
theorem ds_append {i : Nat} {x : Str} {np apos cpos : Pos} (hN : X.N[i]? = some x) (hv : Vis X.env.scope x) (he : DE X E e g) (hd : (x == ("__debug__" : Str)) = false := by decide) (hcd : (x == ("__classdict__" : Str)) = false := by decide)
    (hs1 : starEach [e] X.env = [(false, eval e X.env)] := by rfl)
    (hfew : ((backTo cpos (starEach [e] X.env)).all (fun x => !x.1) && (backToKw cpos (keywordEach [] X.env)).all (fun x => x.1.isSome)
      && decide ([e].length + ([] : List Keyword).length + (if ([] : List Keyword).isEmpty then 0 else 1) < 30)) = true := by rfl)
    (hbase : attributeBase (.Name x np) "append" X.env (eval (.Name x np) X.env) = eval (.Name x np) X.env := by rfl) (hline : (apos.endLine == cpos.line) = true := by rfl)
    (hs : swapsWith (.Call (.Attribute (.Name x np) "append" apos) [e] [] cpos) none pos.line X.env = pure false := by rfl) : DSt X E (.Expr (.Call (.Attribute (.Name x np) "append" apos) [e] [] cpos) pos) (gApp i g) := ⟨fun F0 H0 s0 =>
  PS.weak (ps_expr (pe_bm PySem.F.plainAttrs_list PySem.F.slot_list_append PySem.F.type_list_append mt_append (pe_var hN hv hd hcd) (pa_cons he.h pa_nil hs1) hbase hfew hline hs1 rfl) hs) fun Dn σ H ⟨F, env, Ex, Dd, gr, sl, fr, ex, q, en⟩ => by
    unfold gApp at q
    split at q
    · rename_i ds e
      obtain ⟨l, xs, e1, f, hl, r⟩ := sl.ok i _ e
      refine ⟨.ref l, join_some e1, .inl ⟨rfl, xs, SqL.of hl⟩, F, env, Ex, _, gr.sub, sl, ex.step gr.hh, q, fun d v F' H' p g' rv => ?_⟩
      have sl' := sl.grow g'
      obtain ⟨l2, xs2, e2, f2, hl2, r2⟩ := sl'.ok i _ e
      rw [e1] at e2
      cases e2
      have h0 := fr i _ l e rfl e1
      refine ⟨l, xs2, v, rfl, rfl, hl2, by rw [r2.length]; exact p.1, en.nx _ σ F' _ p.2 ((gr.trans g').mut f2 h0) (sl'.mut e rfl rfl e1 ⟨l, _, rfl, f2, upd_same, r2.append (Reps.cons rv Reps.nil)⟩) (fr.mut e rfl)⟩
    · exact q.elim⟩
def gTruO (i : Nat) : GT := fun env _ Q => match env[i]? with
  | some (.own ds) => Q (!ds.isEmpty)
  | _ => False
theorem dt_truO {i : Nat} {x : Str} {np : Pos} (hN : X.N[i]? = some x) (hv : Vis X.env.scope x) (hd : (x == ("__debug__" : Str)) = false := by decide) (hcd : (x == ("__classdict__" : Str)) = false := by decide)
    (he : ∀ whole, isTrue (.Name x np) X.env whole = (do let v ← whole; standAt (Expr.Name x np).pos; holding [v] (truthy v)) := by intro _; rfl) : DT X E (.Name x np) (gTruO i) := ⟨
  PT.weak (pt_truth (pe_var hN hv hd hcd) he) fun σ H Q ⟨F, env, Ex, Qd, s, sl, ex, q, fin⟩ => by
    unfold gTruO at q
    split at q
    · rename_i ds e0
      obtain ⟨l, xs, e1, f, hl, r⟩ := sl.ok i _ e0
      exact ⟨.ref l, join_some e1, _, .inl ⟨xs, SqL.of hl, by rw [rep_empty r]⟩, fin _ F H q (Grow.refl s)⟩
    · exact q.elim⟩
theorem ds_raise {x : Str} {np cpos : Pos} {C : Addr} {gf : GA} (bd : Body X E) (hc : X.calm = true) (hg : Gl X x) (hm : X.mg x = some (.ref C)) (hx : Exc X.K C) (ha : DA X E (e :: es) gf)
    (hdb : (x == ("__debug__" : Str)) = false := by decide) (he : starEach (e :: es) X.env = (false, eval e X.env) :: starEach es X.env := by rfl) (hpl : (backTo cpos (starEach es X.env)).any (·.1) = false := by rfl) :
    DSt X E (.Raise (some (.Call (.Name x np) (e :: es) [] cpos)) none pos) (gRaise C gf) := ⟨fun F0 H0 s0 => PS.weak (ps_raise bd hc hg hm hx ha.h hdb he hpl) fun Dn σ H ⟨F, env, Ex, Dd, gr, sl, fr, ex, q, en⟩ =>
  ⟨F, env, Ex, _, gr.sub, sl, ex.step gr.hh, q, fun ds vs F' H' p g' r => ⟨by rw [r.length]; exact p.1, ex C p.2 H' (gr.hh.trans g'.hh)⟩⟩⟩
theorem ds_raiseL {x : Str} {np cpos : Pos} {C : Addr} {gf : GA} (bd : Body X E) (hc : X.calm = true) (hg : Gl (loopCx X E) x) (hm : X.mg x = some (.ref C)) (hx : Exc X.K C) (ha : DA (loopCx X E) E (e :: es) gf)
    (hdb : (x == ("__debug__" : Str)) = false := by decide) (he : starEach (e :: es) X.env = (false, eval e X.env) :: starEach es X.env := by rfl) (hpl : (backTo cpos (starEach es X.env)).any (·.1) = false := by rfl) :
    DSt (loopCx X E) E (.Raise (some (.Call (.Name x np) (e :: es) [] cpos)) none pos) (gRaise C gf) := ⟨fun F0 H0 s0 => PS.weak (ps_raiseL bd hc hg hm hx ha.h hdb he hpl) fun Dn σ H ⟨F, env, Ex, Dd, gr, sl, fr, ex, q, en⟩ =>
  ⟨F, env, Ex, _, gr.sub, sl, ex.step gr.hh, q, fun ds vs F' H' p g' r => ⟨by rw [r.length]; exact p.1, ex C p.2 H' (gr.hh.trans g'.hh)⟩⟩⟩
theorem ds_loop (bd : Body X E) (h : DSt (loopCx X E) E st t) : DSt X E st t := ⟨fun F0 H0 s0 => ps_loop bd (h.h F0 H0 s0)⟩
end
end L2
namespace L2
open PySem PySem.Spec PyProof.Rows
def JRep (K : PySem.W.Frag) (J : It) (F : Hp) (ds : List D) : Prop := ∀ F1 H1, Same F F1 → Same F1 H1 → ∀ i, (∀ d, ds[i]? = some d → J.go i H1 ∧ ∀ x H2, J.yld i H1 x H2 → ∃ F2, Grow F1 H1 F2 H2 ∧ Rep K F2 d x) ∧ (ds.length ≤ i → J.stop i H1)
def DTI (K : PySem.W.Frag) (E : XK) (gi : GA) : TI := fun σ H R => ∃ F env Ex Qd, Same F H ∧ Slots K F H σ env ∧ ExOk E Ex H ∧ gi env Ex Qd ∧ ∀ ds J F' H', Qd ds → Grow F H F' H' → JRep K J F' ds → R J H'
structure DI (X : Cx) (E : XK) (tg iter : Expr) (gi : GA) : Prop where
  h : PI X tg iter (DTI X.K E gi)
theorem PI.weak {X : Cx} {tg iter : Expr} {t t' : TI} (h : PI X tg iter t) (w : ∀ σ H R, t' σ H R → t σ H R) : PI X tg iter t' := fun pins s σ H R I q => h pins s σ H R I (w σ H R q)
theorem jrep_list {K : PySem.W.Frag} {F : Hp} {a : Addr} {xs : List V} {ds : List D} (hF : F a = some (.lst xs)) (r : Reps K F ds xs) : JRep K (Itl K a) F ds := fun F1 H1 s1 s2 i => by
  have hl := r.length
  have h1 : SqL K H1 a xs := SqL.of (s2 _ _ (s1 _ _ hF))
  refine ⟨fun d hd => ?_, fun hi => ⟨xs, h1, by omega⟩⟩
  obtain ⟨x, hx, rx⟩ := r.get hd
  refine ⟨⟨xs, x, h1, hx⟩, fun y H2 hy => ?_⟩
  obtain ⟨rfl, hy⟩ := hy
  have z := hy xs h1
  rw [hx] at z
  cases z
  exact ⟨F1, Grow.refl s2, Rep.mono s1 _ rx⟩
theorem jrep_range {K : PySem.W.Frag} {F : Hp} {lo : Int} {n : Nat} : JRep K (Itr lo n) F ((List.range n).map fun (k : Nat) => D.int (lo + (k : Nat))) := fun F1 H1 s1 s2 i => by
  refine ⟨fun d hd => ?_, fun hi => (by rw [List.length_map, List.length_range] at hi; exact hi)⟩
  rw [List.getElem?_map] at hd
  cases q : (List.range n)[i]? with
  | none => rw [q] at hd; cases hd
  | some k =>
    rw [q] at hd
    cases hd
    have hk : i < n ∧ k = i := by
      have z := List.getElem?_eq_some_iff.mp q
      obtain ⟨z1, z2⟩ := z
      rw [List.length_range] at z1
      rw [List.getElem_range] at z2
      exact ⟨z1, z2.symm⟩
    obtain ⟨h1, rfl⟩ := hk
    refine ⟨h1, fun y H2 hy => ?_⟩
    obtain ⟨rfl, rfl⟩ := hy
    exact ⟨F1, Grow.refl s2, rfl⟩
def pairI : Nat → List D → List D
  | _, [] => []
  | k, d :: ds => .tup [.int (k : Nat), d] :: pairI (k + 1) ds
theorem pairI_get : ∀ (ds : List D) (k i : Nat), (pairI k ds)[i]? = (ds[i]?).map fun d => D.tup [.int ((k + i : Nat)), d]
  | [], k, i => by simp [pairI]
  | d :: ds, k, 0 => by simp [pairI]
  | d :: ds, k, i + 1 => by
    have e := pairI_get ds (k + 1) i
    rw [show (pairI k (d :: ds))[i + 1]? = (pairI (k + 1) ds)[i]? from rfl, e, show k + 1 + i = k + (i + 1) by omega]
    rfl
theorem pairI_length : ∀ (ds : List D) (k : Nat), (pairI k ds).length = ds.length
  | [], k => rfl
  | d :: ds, k => by simp [pairI, pairI_length ds]
theorem jrep_enum {K : PySem.W.Frag} {F : Hp} {a : Addr} {xs : List V} {ds : List D} (hF : F a = some (.lst xs)) (r : Reps K F ds xs) : JRep K (Ite K a) F (pairI 0 ds) := fun F1 H1 s1 s2 i => by
  have hl := r.length
  have h1 : SqL K H1 a xs := SqL.of (s2 _ _ (s1 _ _ hF))
  refine ⟨fun d hd => ?_, fun hi => ⟨xs, h1, by rw [pairI_length] at hi; omega⟩⟩
  rw [pairI_get, Nat.zero_add] at hd
  cases q : ds[i]? with
  | none => rw [q] at hd; cases hd
  | some d' =>
    rw [q] at hd
    cases hd
    obtain ⟨x, hx, rx⟩ := r.get q
    refine ⟨⟨xs, x, h1, hx⟩, fun y H2 hy => ?_⟩
    obtain ⟨T, x', rfl, hT, rfl, hy⟩ := hy
    have z := hy xs h1
    rw [hx] at z
    cases z
    refine ⟨upd F1 T (.tup [.int (i : Nat), x]), Grow.lay s2 hT, T, _, rfl, upd_same, Reps.cons rfl (Reps.cons ?_ Reps.nil)⟩
    exact Rep.mono (s1.trans (Grow.lay (o := .tup [.int (i : Nat), x]) s2 hT).ff) _ rx
def giList (g : GE) : GA := fun env Ex Q => g env Ex fun d => match d with
  | .lst ds => Q ds
  | _ => False
def giRange (ga : GA) : GA := fun env Ex Q => ga env Ex fun ds => match ds with
  | [.int j] => -(2 ^ 62) ≤ j ∧ j < 2 ^ 62 ∧ Q (intsTo j.toNat)
  | _ => False
def giEnum (ga : GA) : GA := fun env Ex Q => ga env Ex fun ds => match ds with
  | [.lst xs] => Q (pairI 0 xs)
  | _ => False
section
variable {X : Cx} {E : XK} {pos p q : Pos} {tg a b c e : Expr} {es : List Expr} {ga gb gc g : GE} {st : Stmt} {rest : List Stmt} {t u : GS} {gf : GA}
theorem di_list (h : DE X E e g) : DI X E tg e (giList g) := ⟨PI.weak (pi_list h.h) fun σ H R ⟨F, env, Ex, Qd, s, sl, ex, q, fin⟩ => ⟨F, env, Ex, _, s, sl, ex, q, fun d v F1 H1 q1 g1 r1 => by
  cases d with
  | lst ds => obtain ⟨l, xs, rfl, hF, r⟩ := r1; exact ⟨l, rfl, ⟨xs, SqL.of (g1.sub _ _ hF)⟩, fin ds _ F1 H1 q1 g1 (jrep_list hF r)⟩
  | _ => exact (show False from q1).elim⟩⟩
theorem di_range (hg : Gl X "range") (hm : X.mg "range" = none) (ha : DA X E [e] gf) (hs : starEach [e] X.env = [(false, eval e X.env)] := by rfl) : DI X E tg (.Call (.Name "range" p) [e] [] pos) (giRange gf) := ⟨
  PI.weak (pi_range1 hg hm ha.h hs) fun σ H R ⟨F, env, Ex, Qd, s, sl, ex, q, fin⟩ => ⟨F, env, Ex, _, s, sl, ex, q, fun ds vs F1 H1 q1 g1 r1 => by
    split at q1
    · rename_i j
      obtain ⟨x, _, rfl, e1, e2⟩ := r1
      cases (show _ = [] from e2)
      cases (show x = _ from e1)
      obtain ⟨h1, h2, q1⟩ := q1
      have jr := jrep_range (K := X.K) (F := F1) (lo := 0) (n := j.toNat)
      simp only [Int.zero_add] at jr
      exact ⟨j, rfl, h1, h2, fin _ _ F1 H1 q1 g1 jr⟩
    · exact q1.elim⟩⟩
theorem di_enum {elts : List Expr} {x1 : Nat} {tpos : Pos} (hg : Gl X "enumerate") (hm : X.mg "enumerate" = none) (ha : DA X E [e] gf) (hs : starEach [e] X.env = [(false, eval e X.env)] := by rfl) : DI X E (.Tuple elts x1 tpos) (.Call (.Name "enumerate" p) [e] [] pos) (giEnum gf) := ⟨
  PI.weak (pi_enum hg hm ha.h hs) fun σ H R ⟨F, env, Ex, Qd, s, sl, ex, q, fin⟩ => ⟨F, env, Ex, _, s, sl, ex, q, fun ds vs F1 H1 q1 g1 r1 => by
    split at q1
    · obtain ⟨x, _, rfl, ⟨l, xs, rfl, hF, r⟩, e2⟩ := r1
      cases (show _ = [] from e2)
      exact ⟨l, xs, rfl, SqL.of (g1.sub _ _ hF), fin _ _ F1 H1 q1 g1 (jrep_enum hF r)⟩
    · exact q1.elim⟩⟩
abbrev GG := D → DEnv → (DEnv → Prop) → Prop
structure DG (X : Cx) (tg : Expr) (g : GG) : Prop where
  h : PG X tg (fun v σ H Q => ∃ F env d Qd, Same F H ∧ Slots X.K F H σ env ∧ Rep X.K F d v ∧ g d env Qd ∧ ∀ env' σ', Qd env' → Slots X.K F H σ' env' → (∀ H0, Fresh H0 σ env → Fresh H0 σ' env') → Q σ' H)
theorem PG.weak {X : Cx} {tg : Expr} {t t' : TG} (h : PG X tg t) (w : ∀ v σ H Q, t' v σ H Q → t v σ H Q) : PG X tg t' := fun pins s σ H v u Q I r q => h pins s σ H v u Q I r (w v σ H Q q)
def ggName (i : Nat) : GG := fun d env Q => Q (env.set i (.sh d))
theorem dg_name {i : Nat} {x : Str} (hN : X.N.Nodup) (hi : X.N[i]? = some x) (hx : Loc X.env.scope x) (hf : X.fn x = true ∨ X.env.scope.names.lookup x = some .local := by first | exact .inl rfl | exact .inr rfl | assumption) : DG X (.Name x pos) (ggName i) := ⟨
  PG.weak (pg_name hN hi hx hf) fun v σ H Q ⟨F, env, d, Qd, s, sl, r, q, fin⟩ => fin _ _ q (sl.setSh r) fun H0 fr => fr.set sl.len fun z => nomatch z⟩
def ggPair (i j : Nat) : GG := fun d env Q => match d with
  | .tup [x, y] => Q ((env.set i (.sh x)).set j (.sh y))
  | _ => False
theorem dg_pair {i j : Nat} {x y : Str} {k : Nat} {px py : Pos} (hc : X.calm = true) (hN : X.N.Nodup) (hi : X.N[i]? = some x) (hj : X.N[j]? = some y) (hx : Loc X.env.scope x) (hy : Loc X.env.scope y)
    (hf : X.fn x = true ∨ X.env.scope.names.lookup x = some .local := by first | exact .inl rfl | exact .inr rfl | assumption) (hf' : X.fn y = true ∨ X.env.scope.names.lookup y = some .local := by first | exact .inl rfl | exact .inr rfl | assumption)
    (h1 : (assignEach [.Name x px, .Name y py] X.env).length = 2 := by rfl) (h2 : (assignEach [.Name x px, .Name y py] X.env).findIdx? (·.1) = none := by rfl)
    (h3 : (assignEach [.Name x px, .Name y py] X.env).map (·.2) = assign (.Name x px) X.env :: (assignEach [.Name y py] X.env).map (·.2) := by rfl) (h4 : (assignEach [.Name y py] X.env).map (·.2) = assign (.Name y py) X.env :: (assignEach [] X.env).map (·.2) := by rfl) :
    DG X (.Tuple [.Name x px, .Name y py] k pos) (ggPair i j) := ⟨
  PG.weak (pg_tup (n := 2) hc (pgs_cons (pg_name hN hi hx hf) (pgs_cons (pg_name hN hj hy hf') pgs_nil h4) h3) h1 h2) fun v σ H Q ⟨F, env, d, Qd, s, sl, r, q, fin⟩ => by
    unfold ggPair at q
    split at q
    · rename_i dx dy
      obtain ⟨T, xs, rfl, hT, x1, _, rfl, r1, y1, _, rfl, r2, e⟩ := r
      cases (show _ = [] from e)
      refine ⟨T, _, rfl, SqT.of (s _ _ hT), rfl, x1, _, rfl, y1, _, rfl, rfl, fin _ _ q ((sl.setSh r1).setSh r2) fun H0 fr => Fresh.set (Fresh.set fr sl.len fun z => nomatch z) (by rw [List.length_set, List.length_set, sl.len]) fun z => nomatch z⟩
    · exact q.elim⟩
def gFor (gi : GA) (gg : GG) (tb : GS) : GS := fun Dd Ex env => gi env Ex fun ds => ∃ Pv : Nat → DEnv → Prop, Pv 0 env ∧
  (∀ k d env', ds[k]? = some d → Pv k env' → gg d env' fun env2 => tb { Dd with nx := Pv (k + 1), ct := Pv (k + 1), bk := Dd.nx } Ex env2) ∧ ∀ env', Pv ds.length env' → Dd.nx env'
def over (F H : Hp) : Hp := fun b => match F b with
  | some o => some o
  | none => H b
theorem over_same {F H H1 : Hp} (a : Same F H1) (b : Same H H1) : Same F (over F H) ∧ Same H (over F H) ∧ Same (over F H) H1 := by
  refine ⟨fun c o e => ?_, fun c o e => ?_, fun c o e => ?_⟩
  · unfold over; rw [e]
  · unfold over
    cases q : F c with
    | none => exact e
    | some o' =>
      have z1 := a c o' q
      have z2 := b c o e
      rw [z1] at z2
      exact z2
  · unfold over at e
    cases q : F c with
    | none => rw [q] at e; exact b c o e
    | some o' => rw [q] at e; cases e; exact a c _ q
theorem over_none {F H : Hp} {a : Addr} (h : over F H a = none) : F a = none ∧ H a = none := by
  unfold over at h
  cases q : F a with
  | none => rw [q] at h; exact ⟨rfl, h⟩
  | some o => rw [q] at h; cases h
theorem none_over {F H : Hp} {a : Addr} (h : F a = none) (h' : H a = none) : over F H a = none := by
  unfold over
  rw [h]
  exact h'
theorem Grow.over {F0 H0 F1 H1 F H : Hp} (g1 : Grow F0 H0 F1 H1) (g : Grow F1 (over F1 H0) F H) : Grow F0 H0 F H := by
  obtain ⟨o1, o2, o3⟩ := over_same g1.sub g1.hh
  refine ⟨o2.trans g.hh, g1.ff.trans g.ff, g.sub, fun a e n => ?_⟩
  by_cases h : F1 a = none
  · have w : L2.over F1 H0 a = H0 a := by
      unfold L2.over
      rw [h]
    have y := g.new a h n
    rw [w] at y
    exact y
  · exact g1.new a e h
theorem EndsOk.over {K : PySem.W.Frag} {F0 H0 F1 H1 : Hp} {Dd : DEnds} {Dn : Ends} (g1 : Grow F0 H0 F1 H1) (en : EndsOk K F0 H0 Dd Dn) : EndsOk K F1 (over F1 H0) Dd Dn := by
  have fr : ∀ {σ : St} {env : DEnv}, Fresh (L2.over F1 H0) σ env → Fresh H0 σ env := fun h i s a e o q => (over_none (h i s a e o q)).2
  exact ⟨fun env σ F H p g sl f => en.nx env σ F H p (g1.over g) sl (fr f), fun d v F H p g r => en.rt d v F H p (g1.over g) r, fun env σ F H p g sl f => en.bk env σ F H p (g1.over g) sl (fr f), fun env σ F H p g sl f => en.ct env σ F H p (g1.over g) sl (fr f), fun ds a xs F H p g f h l r => en.rf ds a xs F H p (g1.over g) f (over_none h).2 l r, fun s v F H p g so ow h => en.ro s v F H p (g1.over g) so ow fun a ha => (over_none (h a ha)).2⟩
theorem dss_any (h : DSs X E rest t) : PSs X rest (fun Dn σ H => ∃ F0 H0, Same F0 H0 ∧ DTS X.K E F0 H0 t Dn σ H) := fun pins s σ H Dn I ⟨F0, H0, s0, q⟩ => h.h F0 H0 s0 pins s σ H Dn I q
theorem ds_for {iter : Expr} {gi : GA} {gg : GG} (hp : PassesOwn (model X.prog X.w) X.A X.env X.xe) (hc : X.calm = true) (hi : DI X E tg iter gi) (hg : DG X tg gg) (hb : DSs X E rest t) (hs : ∀ x, foldedSetIterable iter X.env x = pure x := by intro _; rfl) :
    DSt X E (.For tg iter rest [] pos) (gFor gi gg t) := ⟨fun F0 H0 s0 => PS.weak (ps_for hp hc hi.h hg.h (dss_any hb) hs) fun Dn σ H ⟨F, env, Ex, Dd, gr, sl, fr, ex, q, en⟩ =>
  ⟨F, env, Ex, _, gr.sub, sl, ex.step gr.hh, q, fun ds J F1 H1 q1 g1 jr => by
    obtain ⟨Pv, p0, pt, pe⟩ := q1
    have G1 := gr.trans g1
    obtain ⟨o1, o2, o3⟩ := over_same G1.sub G1.hh
    have fr1 : Fresh (over F1 H0) σ env := fun i s a e o h => by
      have w := (sl.grow g1).ok i s e
      refine none_over ?_ (fr i s a e o h)
      exact (w.there o h).1
    refine ⟨fun i m σ H => m = ds.length - i ∧ i ≤ ds.length ∧ ∃ F env, Grow F1 (over F1 H0) F H ∧ Slots X.K F H σ env ∧ Fresh (over F1 H0) σ env ∧ Pv i env,
      ⟨ds.length, by simp, Nat.zero_le _, F1, env, ⟨o3, Same.refl _, G1.sub, fun _ e n => absurd e n⟩, sl.grow g1, fr1, p0⟩, ?_⟩
    rintro i m σ2 H2 ⟨rfl, hi.h, F2, env2, g2, sl2, fr2, p2⟩
    obtain ⟨jgo, jstop⟩ := jr F2 H2 g2.ff g2.sub i
    by_cases hlt : i < ds.length
    · have hd : ds[i]? = some ds[i] := by simp [hlt]
      obtain ⟨go, yl⟩ := jgo ds[i] hd
      refine .inr ⟨go, fun σ' H' => ∃ F env, Grow F1 (over F1 H0) F H' ∧ Slots X.K F H' σ' env ∧ Fresh (over F1 H0) σ' env ∧ Pv (i + 1) env, fun σ' H' n => ⟨ds.length - (i + 1), by omega, rfl, hlt, n⟩, fun x H3 y => ?_⟩
      obtain ⟨F3, g3, r3⟩ := yl x H3 y
      refine ⟨F3, env2, ds[i], _, g3.sub, sl2.grow g3, r3, pt i ds[i] env2 hd p2, fun env4 σ4 q4 sl4 fr4 => ?_⟩
      exact ⟨F1, over F1 H0, o1, F3, env4, Ex, { Dd with nx := Pv (i + 1), ct := Pv (i + 1), bk := Dd.nx }, g2.trans g3, sl4, fr4 _ fr2, ex.step o2, q4,
        ⟨fun env' σ' F' H' p g sl f => ⟨F', env', g, sl, f, p⟩, (en.over G1).rt, (en.over G1).nx, fun env' σ' F' H' p g sl f => ⟨F', env', g, sl, f, p⟩, (en.over G1).rf, (en.over G1).ro⟩⟩
    · have e : i = ds.length := by omega
      exact .inl ⟨jstop (by omega), (en.over G1).nx env2 σ2 F2 H2 (pe env2 (e ▸ p2)) g2 sl2 fr2⟩⟩⟩
def gWhile (c : GT) (tb : GS) : GS := fun Dd Ex env => ∃ W : Nat → DEnv → Prop, (∃ m, W m env) ∧ ∀ m env, W m env →
  c env Ex fun b => if b = true then tb { Dd with nx := fun e' => ∃ m', m' < m ∧ W m' e', ct := fun e' => ∃ m', m' < m ∧ W m' e', bk := Dd.nx } Ex env else Dd.nx env
theorem ds_while {gt : GT} (hp : PassesOwn (model X.prog X.w) X.A X.env X.xe) (hc : DT X E c gt) (hb : DSs X E rest t) : DSt X E (.While c rest [] pos) (gWhile gt t) := ⟨fun F0 H0 s0 =>
  PS.weak (ps_while hp hc.h (hb.h F0 H0 s0)) fun Dn σ H ⟨F, env, Ex, Dd, gr, sl, fr, ex, q, en⟩ => by
    obtain ⟨W, ⟨m0, w0⟩, turn⟩ := q
    refine ⟨fun m σ H => ∃ F env, Grow F0 H0 F H ∧ Slots X.K F H σ env ∧ Fresh H0 σ env ∧ W m env, ⟨m0, F, env, gr, sl, fr, w0⟩, ?_⟩
    rintro m σ1 H1 ⟨F1, env1, g1, sl1, fr1, w1⟩
    refine ⟨F1, env1, Ex, _, g1.sub, sl1, ex.step g1.hh, turn m env1 w1, fun b F2 H2 q2 g2 => ?_⟩
    cases b with
    | true =>
      rw [if_pos rfl] at q2 ⊢
      refine ⟨fun σ' H' => ∃ m', m' < m ∧ ∃ F env, Grow F0 H0 F H' ∧ Slots X.K F H' σ' env ∧ Fresh H0 σ' env ∧ W m' env, fun σ' H' n => n, F2, env1, Ex, _, g1.trans g2, sl1.grow g2, fr1, ex, q2,
        ⟨fun env' σ' F' H' p g sl f => ?_, en.rt, en.nx, fun env' σ' F' H' p g sl f => ?_, en.rf, en.ro⟩⟩
      · obtain ⟨m', hm, w⟩ := p
        exact ⟨m', hm, F', env', g, sl, f, w⟩
      · obtain ⟨m', hm, w⟩ := p
        exact ⟨m', hm, F', env', g, sl, f, w⟩
    | false =>
      rw [if_neg Bool.false_ne_true] at q2 ⊢
      exact en.nx env1 σ1 F2 H2 q2 (g1.trans g2) (sl1.grow g2) fr1⟩
end
end L2
namespace L2
open PySem PySem.Spec PyProof.Rows
def slotV (env : DEnv) (j : Nat) : DS := match env[j]? with
  | some (.sh d) => .sh d
  | _ => .un
theorem slotV_no (env : DEnv) (j : Nat) : isOwn (slotV env j) = false := by
  unfold slotV
  split <;> rfl
theorem block_slots {K : PySem.W.Frag} {F H F3 H3 : Hp} {σ : St} {env : DEnv} {ts : List D} {vs : List V} (fv : List Nat) (sl : Slots K F H σ env) (gr : Grow F H F3 H3) (r : Reps K F3 ts vs) :
    Slots K F3 H3 (vs.map some ++ fv.map fun j => (σ[j]?).join) (ts.map DS.sh ++ fv.map (slotV env)) := by
  have hl := r.length
  have no : ∀ (i : Nat) s, (ts.map DS.sh ++ fv.map (slotV env))[i]? = some s → isOwn s = false := fun i s e => by
    have m := List.mem_of_getElem? e
    rcases List.mem_append.mp m with z | z
    · obtain ⟨d, _, rfl⟩ := List.mem_map.mp z; rfl
    · obtain ⟨j, _, rfl⟩ := List.mem_map.mp z; exact slotV_no env j
  refine ⟨by simp [hl], fun i s e => ?_, fun i j s t a e1 _ o1 => ?_⟩
  · rw [List.getElem?_append, List.length_map] at e ⊢
    by_cases hi : i < ts.length
    · rw [if_pos hi, List.getElem?_map] at e
      rw [if_pos (by omega), List.getElem?_map]
      cases q : ts[i]? with
      | none => rw [q] at e; cases e
      | some d =>
        rw [q] at e
        cases e
        obtain ⟨x, hx, rx⟩ := r.get q
        rw [hx]
        exact ⟨x, rfl, rx⟩
    · rw [if_neg hi, List.getElem?_map] at e
      rw [if_neg (by omega), List.getElem?_map, hl]
      cases q : fv[i - ts.length]? with
      | none => rw [q] at e; cases e
      | some j =>
        rw [q] at e
        have e : slotV env j = s := Option.some.inj e
        subst e
        show SlotOk K F3 H3 (slotV env j) (σ[j]?).join
        unfold slotV
        split
        · rename_i d e0
          obtain ⟨v, e1, rv⟩ := sl.ok j _ e0
          exact ⟨v, e1, Rep.mono gr.ff _ rv⟩
        · trivial
  · rw [no i s e1] at o1
    cases o1
def UB (K : PySem.W.Frag) (g : TG) (u : D → Option (List D)) (nt : Nat) : Prop := ∀ (d : D) (ts : List D) (v : V) (σf : St) (ts0 : List (Option V)) (F H : Hp) (Q : St → Hp → Prop), Same F H → u d = some ts → Rep K F d v → ts0.length = nt →
  (∀ vs, Reps K F ts vs → vs.length = nt → Q (vs.map some ++ σf) H) → g v (ts0 ++ σf) H Q
def u1 (d : D) : Option (List D) := some [d]
def u2 (d : D) : Option (List D) := match d with
  | .tup [a, b] => some [a, b]
  | _ => none
theorem ub_name {K : PySem.W.Frag} : UB K (gName 0) u1 1 := fun d ts v σf ts0 F H Q s e r hl h => by
  cases e
  obtain ⟨t, rfl⟩ : ∃ t, ts0 = [t] := by
    match ts0, hl with
    | [t], _ => exact ⟨t, rfl⟩
  exact h [v] ⟨v, [], rfl, r, rfl⟩ rfl
structure DIfs (X : Cx) (E : XK) (ifs : List Expr) (g : GT) : Prop where
  h : PIfs X ifs (DTT X.K E g)
def gYes : GT := fun _ _ Q => Q true
theorem difs_nil {X : Cx} {E : XK} : DIfs X E [] gYes := ⟨fun pins s σ H Q I ⟨F, env, Ex, Qd, sm, sl, ex, q, fin⟩ => pifs_nil pins s σ H Q I (fin true F H q (Grow.refl sm))⟩
def gCompM (gi : GA) (fv : List Nat) (u : D → Option (List D)) (ge : GE) : GA := fun env Ex Q => gi env Ex fun ds => ds.length ≤ sizeLine ∧ ∃ f : D → D, (∀ d ∈ ds, ∃ ts, u d = some ts ∧ ge (ts.map DS.sh ++ fv.map (slotV env)) (fun _ => False) fun y => y = f d) ∧ Q (ds.map f)
theorem Grow.off {F H F' H' : Hp} {a : Addr} {o : HO} (g : Grow F H F' H') (f : F a = none) (h : H a = some o) (nt : ∀ xs, o ≠ .tup xs := by intro xs z; cases z) : F' a = none := by
  cases q : F' a with
  | none => rfl
  | some _ =>
    rcases g.new a f (by rw [q]; exact fun z => nomatch z) with z | ⟨xs, z⟩
    · rw [z] at h
      cases h
    · rw [z] at h
      cases h
      exact absurd rfl (nt xs)
theorem take_next {ds : List D} {i : Nat} {d : D} (h : ds[i]? = some d) : ds.take (i + 1) = ds.take i ++ [d] := by
  rw [List.take_succ, h]
  rfl
section
variable {X : Cx} {E : XK} {elt iter target : Expr} {pos : Pos} {ifs : List Expr} {scope : Scope} {cl : List (Str × Addr)} {tn fn : List Str} {fv : List Nat} {gi : GA} {g : TG} {u : D → Option (List D)} {gt : GT} {ge : GE}
theorem comp_step (ub : UB X.K g u tn.length) {σ : St} {H : Hp} {Q : VK} {F : Hp} {env : DEnv} {Qd : List D → Prop} {ds : List D} {J : It} {F1 H1 : Hp} {Dl : Addr} (sl : Slots X.K F H σ env) (fin : FinF X.K F H Qd Q) (hlen : ds.length ≤ sizeLine) (pr : D → Bool) (f : D → D)
    (hf : ∀ d ∈ ds, ∃ ts, u d = some ts ∧ gt (ts.map DS.sh ++ fv.map (slotV env)) (fun _ => False) fun b => b = pr d ∧ (b = true → ge (ts.map DS.sh ++ fv.map (slotV env)) (fun _ => False) fun y => y = f d)) (qd : Qd ((ds.filter pr).map f))
    (g1 : Grow F H F1 H1) (jr : JRep X.K J F1 ds) (hD : H1 Dl = none) : CompGT J (fv.map fun j => (σ[j]?).join) tn.length g (DTT X.K E0 gt) (DTE X.K E0 ge) Q H1 Dl := by
  refine ⟨fun i m H => m = ds.length - i ∧ i ≤ ds.length ∧ ∃ F2 ys, Grow F1 H1 F2 H ∧ F2 Dl = none ∧ H Dl = some (.lst ys) ∧ Reps X.K F2 (((ds.take i).filter pr).map f) ys,
    ⟨ds.length, by simp, Nat.zero_le _, F1, [], Grow.keep g1.sub hD, g1.sub.free hD, upd_same, by rw [List.take_zero]; exact Reps.nil⟩, ?_⟩
  rintro i m H2 ⟨rfl, hi, F2, ys, g2, f2, l2, r2⟩
  obtain ⟨jgo, jstop⟩ := jr F2 H2 g2.ff g2.sub i
  have hys : ys.length ≤ i := by
    rw [r2.length, List.length_map]
    refine Nat.le_trans (List.length_filter_le _ _) ?_
    rw [List.length_take]
    omega
  by_cases hlt : i < ds.length
  · have hd : ds[i]? = some ds[i] := by simp [hlt]
    obtain ⟨go, yl⟩ := jgo ds[i] hd
    refine .inr ⟨go, fun H' => ∃ F2 ys, Grow F1 H1 F2 H' ∧ F2 Dl = none ∧ H' Dl = some (.lst ys) ∧ Reps X.K F2 (((ds.take (i + 1)).filter pr).map f) ys, fun H' n => ⟨ds.length - (i + 1), by omega, rfl, hlt, n⟩, fun x H3 ts0 hts y => ?_⟩
    obtain ⟨F3, g3, r3⟩ := yl x H3 y
    obtain ⟨ts, hu, hgt⟩ := hf ds[i] (List.getElem_mem hlt)
    refine ub ds[i] ts x _ ts0 F3 H3 _ g3.sub hu r3 hts fun vs rvs hvs => ⟨⟨vs.map some, by simp [hvs], rfl⟩, ?_⟩
    have bsl := block_slots fv sl ((g1.trans g2).trans g3) rvs
    refine ⟨F3, _, fun _ => False, _, g3.sub, bsl, fun _ z => z.elim, hgt, fun b F4 H4 q4 g4 => ?_⟩
    obtain ⟨eb, q4⟩ := q4
    have f3 := g3.off f2 l2
    have l3 := g3.hh _ _ l2
    have f4 := g4.off f3 l3
    have l4 := g4.hh _ _ l3
    have hsl := hlen
    cases b with
    | true =>
      rw [if_pos rfl]
      refine ⟨F4, _, fun _ => False, _, g4.sub, bsl.grow g4, fun _ z => z.elim, q4 rfl, fun y v F5 H5 q5 g5 r5 => ?_⟩
      subst q5
      have f5 := g5.off f4 l4
      have l5 := g5.hh _ _ l4
      refine ⟨ys, l5, by omega, F5, ys ++ [v], (((g2.trans g3).trans g4).trans g5).mut f5 hD, f5, upd_same, ?_⟩
      rw [take_next hd, List.filter_append, List.map_append]
      refine (Reps.mono ((g3.ff.trans g4.ff).trans g5.ff) _ r2).append ?_
      rw [List.filter_cons, ← eb, if_pos rfl]
      exact Reps.cons r5 Reps.nil
    | false =>
      rw [if_neg Bool.false_ne_true]
      refine ⟨F4, ys, (g2.trans g3).trans g4, f4, l4, ?_⟩
      rw [take_next hd, List.filter_append, List.map_append, List.filter_cons, ← eb, if_neg Bool.false_ne_true]
      simp only [List.filter_nil, List.map_nil, List.append_nil]
      exact Reps.mono (g3.ff.trans g4.ff) _ r2
  · have e : i = ds.length := by omega
    refine .inl ⟨jstop (by omega), fin _ Dl ys F2 H2 qd (g1.trans g2) f2 (g1.hh.free hD) l2 ?_⟩
    rw [e, List.take_length] at r2
    exact r2
theorem comp_weakM (ub : UB X.K g u tn.length) : ∀ σ H Q, DTF X.K E (gCompM gi fv u ge) σ H Q → tCompT (DTI X.K E gi) fv tn.length g (DTT X.K E0 gYes) (DTE X.K E0 ge) σ H Q :=
  fun σ H Q ⟨F, env, Ex, Qd, s, sl, ex, q, fin⟩ => ⟨F, env, Ex, _, s, sl, ex, q, fun ds J F1 H1 q1 g1 jr => fun Dl hD => by
    obtain ⟨hlen, f, hf, qd⟩ := q1
    refine comp_step ub sl fin hlen (fun _ => true) f (fun d hd => ?_) ?_ g1 jr hD
    · obtain ⟨ts, e, z⟩ := hf d hd
      exact ⟨ts, e, rfl, fun _ => z⟩
    · rw [List.filter_eq_self.mpr (fun _ _ => rfl)]
      exact qd⟩
theorem df_compM (hc : X.calm = true) (hi : DI X E target iter gi) (S : CompOkT X scope cl tn fn fv) (hg : ∀ C fp ps s3 H3, PG (compCx X scope cl (tn ++ fn) C fp ps s3 H3) target g) (ub : UB X.K g u tn.length)
    (he : ∀ C fp ps s3 H3, DE (compCx X scope cl (tn ++ fn) C fp ps s3 H3) E0 elt ge)
    (hs : ∀ y, foldedSetIterable iter X.env y = pure y := by intro _; rfl) : DF X E (.ListComp elt [⟨target, iter, [], 0⟩] scope pos) (gCompM gi fv u ge) := ⟨PE.weak (pe_compT (tt := DTT X.K E0 gYes) (te := DTE X.K E0 ge) hc hi.h S hg (fun _ _ _ _ _ => DIfs.h difs_nil) (fun C fp ps s3 H3 => (he C fp ps s3 H3).h) hs) (comp_weakM ub)⟩
theorem ds_ownCM {i : Nat} {y : Str} {py spos : Pos} (hN : X.N.Nodup) (hj : X.N[i]? = some y) (hy : Loc X.env.scope y) (hc : X.calm = true) (hi : DI X E target iter gi) (S : CompOkT X scope cl tn fn fv)
    (hg : ∀ C fp ps s3 H3, PG (compCx X scope cl (tn ++ fn) C fp ps s3 H3) target g) (ub : UB X.K g u tn.length)
    (he : ∀ C fp ps s3 H3, DE (compCx X scope cl (tn ++ fn) C fp ps s3 H3) E0 elt ge)
    (hsw : swapsWith (.ListComp elt [⟨target, iter, [], 0⟩] scope pos) (some (.Name y py)) spos.line X.env = pure true := by rfl) (hs : ∀ y, foldedSetIterable iter X.env y = pure y := by intro _; rfl)
    (hf : X.fn y = true ∨ X.env.scope.names.lookup y = some .local := by first | exact .inl rfl | exact .inr rfl | assumption) :
    DSt X E (.Assign [.Name y py] (.ListComp elt [⟨target, iter, [], 0⟩] scope pos) spos) (gOwn i (gCompM gi fv u ge)) := ⟨fun F0 H0 s0 =>
  PS.weak (ps_setCT (tt := DTT X.K E0 gYes) (te := DTE X.K E0 ge) hN hj hy hc hi.h S hg (fun _ _ _ _ _ => DIfs.h difs_nil) (fun C fp ps s3 H3 => (he C fp ps s3 H3).h) hsw hs hf) fun Dn σ H ⟨F, env, Ex, Dd, gr, sl, fr, ex, q, en⟩ => comp_weakM ub σ H _ ⟨F, env, Ex, _, gr.sub, sl, ex.step gr.hh, q, fun ds a xs F' H' p g' f1 n1 l1 r => own_in gr sl fr en p g' f1 n1 l1 r⟩⟩
end
end L2
namespace L2
open PySem PySem.Spec PyProof.Rows
section
variable {X : Cx} {E : XK} {pos : Pos} {st : Stmt}
end
def isInt : D → Bool
  | .int _ => true
  | _ => false
def nsc : D → Bool
  | .scr _ => false
  | .kt _ => false
  | .dtt _ _ => false
  | _ => true
def fWhole : DSp := fun ds _ Q => ∃ d, ds = [d] ∧ nsc d = true ∧ Q (.bl (isInt d))
def lstIn (d : D) (lo hi : Int) : Bool := match d with
  | .lst xs => decide (lo ≤ (xs.length : Nat)) && decide (((xs.length : Nat) : Int) ≤ hi)
  | _ => false
def fListW : DSp := fun ds _ Q => ∃ d lo hi, ds = [d, .int lo, .int hi] ∧ nsc d = true ∧ Q (.bl (lstIn d lo hi))
def uptoL (n : Nat) : List Int := (List.range n).map fun (k : Nat) => ((k : Nat) : Int)
def IsOrd (ns : List Int) : Prop := 1 ≤ ns.length ∧ ns.length ≤ 16 ∧ ns.Perm (uptoL ns.length)
theorem uptoL_length (n : Nat) : (uptoL n).length = n := by simp [uptoL]
theorem intsTo_eq (n : Nat) : intsTo n = (uptoL n).map D.int := by simp [intsTo, uptoL]
theorem uptoL_rising (n : Nat) : (uptoL n).Pairwise (· ≤ ·) := by
  unfold uptoL
  rw [List.pairwise_map]
  exact (List.pairwise_lt_range).imp fun h => by omega
theorem uptoL_get {n i : Nat} (h : i < n) : (uptoL n)[i]? = some ((i : Nat) : Int) := by simp [uptoL, h]
theorem mem_uptoL {n : Nat} {i : Int} : i ∈ uptoL n ↔ 0 ≤ i ∧ i < n := by
  unfold uptoL
  rw [List.mem_map]
  constructor
  · rintro ⟨k, hk, rfl⟩
    have := List.mem_range.mp hk
    omega
  · rintro ⟨h1, h2⟩
    exact ⟨i.toNat, List.mem_range.mpr (by omega), by omega⟩
theorem srt_uptoL {ns : List Int} {n : Nat} (h : ns.Perm (uptoL n)) : srt ns = uptoL n := (srt_of h.symm (uptoL_rising n)).symm
theorem perm_of_srt {ns : List Int} {n : Nat} (h : srt ns = uptoL n) : ns.Perm (uptoL n) := by rw [← h]; exact (srt_perm ns).symm
def allNsc (d : D) : Bool := nsc d && match d with
  | .lst xs => xs.all nsc
  | _ => true
def fChk (C : Addr) : DSp := fun ds Ex Q => ∃ d, ds = [d] ∧ allNsc d = true ∧ (∀ ns, d = .lst (ns.map D.int) → IsOrd ns → Q d) ∧ ((¬ ∃ ns, d = .lst (ns.map D.int) ∧ IsOrd ns) → Ex C)
theorem ints_of : ∀ {xs : List D}, (∀ d ∈ xs, isInt d = true) → ∃ ns : List Int, xs = ns.map D.int
  | [], _ => ⟨[], rfl⟩
  | d :: xs, h => by
    obtain ⟨ns, e⟩ := ints_of fun x hx => h x (List.mem_cons_of_mem _ hx)
    have hd := h d List.mem_cons_self
    cases d with
    | int i => exact ⟨i :: ns, by rw [e]; rfl⟩
    | _ => exact absurd (show false = true from hd) Bool.false_ne_true
theorem map_int_inj : ∀ {ns ms : List Int}, ns.map D.int = ms.map D.int → ns = ms
  | [], [], _ => rfl
  | [], _ :: _, h => by cases h
  | _ :: _, [], h => by cases h
  | n :: ns, m :: ms, h => by
    rw [List.map_cons, List.map_cons] at h
    have h1 := (List.cons.inj h).1
    have h2 := (List.cons.inj h).2
    rw [D.int.inj h1, map_int_inj h2]
theorem perm_ints {ns : List Int} : ∀ {l : List D}, l.Perm (ns.map D.int) → ∃ os : List Int, os.Perm ns ∧ l = os.map D.int := by
  intro l hp
  have hi : ∀ d ∈ l, isInt d = true := fun d hd => by
    obtain ⟨n, _, rfl⟩ := List.mem_map.mp (hp.mem_iff.mp hd)
    rfl
  obtain ⟨os, rfl⟩ := ints_of hi
  have q := hp.map fun d => match d with | D.int i => i | _ => 0
  rw [List.map_map, List.map_map] at q
  have e : ∀ ms : List Int, ms.map ((fun d => match d with | D.int i => i | _ => 0) ∘ D.int) = ms := fun ms => by
    have : ms.map ((fun d => match d with | D.int i => i | _ => 0) ∘ D.int) = ms.map id := List.map_congr_left fun _ _ => rfl
    rw [this, List.map_id]
  rw [e, e] at q
  exact ⟨os, q, rfl⟩
def cellAt (ns : List Int) (k : Int) : Int := if k < (ns.length : Nat) then ns.getD k.toNat 0 else 0
def fCell : DSp := fun ds _ Q => ∃ ns k, ds = [.scr ns, .int k] ∧ 0 ≤ k ∧ Q (.int (cellAt ns k))
def fMix : DSp := fun ds _ Q => ∃ c p m, ds = [.int c, .int p, .int m] ∧ 0 < p ∧ 0 < m ∧ Q (.int (c * 48271 % p % m))
def fOrder : DSp := fun ds _ Q => ∃ ns at' m, ds = [.scr ns, .int at', .int m] ∧ 0 ≤ at' ∧ 1 ≤ m ∧ m ≤ 16 ∧ ∀ os : List Int, os.Perm (uptoL m.toNat) → Q (.lst (os.map D.int))
def fLaw : DSp := fun ds _ Q => ∃ ns, ds = [.scr ns] ∧ ns.length ≤ 63 ∧ Q (.bl true)
end L2
namespace L2
open PySem PySem.Spec PyProof.Rows
def at0 (ns : List Int) (k : Int) : Int := ns.getD k.toNat 0
def comp (os ps : List Int) : List Int := os.map fun k => at0 ps k
theorem at0_nat (ns : List Int) (j : Nat) : at0 ns ((j : Nat) : Int) = ns.getD j 0 := by
  unfold at0
  rw [Int.toNat_natCast]
theorem getD_get {ns : List Int} {j : Nat} (h : j < ns.length) : ns[j]? = some (ns.getD j 0) := by
  rw [List.getD_eq_getElem?_getD, List.getElem?_eq_getElem h]
  rfl
theorem ext_at {ns ms : List Int} (hl : ns.length = ms.length) (h : ∀ j, j < ns.length → ns.getD j 0 = ms.getD j 0) : ns = ms := by
  refine List.ext_getElem hl fun j h1 h2 => ?_
  have z := h j h1
  rw [List.getD_eq_getElem?_getD, List.getD_eq_getElem?_getD, List.getElem?_eq_getElem h1, List.getElem?_eq_getElem h2] at z
  exact z
section
variable {n : Nat} {os ps qs bs : List Int}
theorem ord_len (h : os.Perm (uptoL n)) : os.length = n := by rw [h.length_eq, uptoL_length]
theorem ord_mem (h : os.Perm (uptoL n)) {j : Nat} (hj : j < n) : 0 ≤ os.getD j 0 ∧ os.getD j 0 < n := by
  have hl := ord_len h
  have m : os.getD j 0 ∈ os := List.mem_of_getElem? (getD_get (by omega))
  exact mem_uptoL.mp (h.mem_iff.mp m)
theorem comp_len : (comp os ps).length = os.length := by simp [comp]
theorem comp_get {j : Nat} (hj : j < os.length) : (comp os ps).getD j 0 = at0 ps (os.getD j 0) := by
  unfold comp
  rw [List.getD_eq_getElem?_getD, List.getElem?_map, getD_get hj]
  rfl
theorem map_at (hl : ps.length = n) : (uptoL n).map (fun k => at0 ps k) = ps := by
  refine ext_at (by simp [uptoL, hl]) fun j hj => ?_
  have hj : j < n := by simpa [uptoL] using hj
  rw [List.getD_eq_getElem?_getD, List.getElem?_map, uptoL_get hj]
  show at0 ps ((j : Nat) : Int) = _
  rw [at0_nat]
theorem comp_perm (ho : os.Perm (uptoL n)) (hp : ps.Perm (uptoL n)) : (comp os ps).Perm (uptoL n) := by
  have q := ho.map fun k => at0 ps k
  rw [map_at (ord_len hp)] at q
  exact q.trans hp
theorem comp_comp (ho : os.Perm (uptoL n)) (hp : ps.Perm (uptoL n)) {ts : List Int} : comp (comp os ps) ts = comp os (comp ps ts) := by
  have hl := ord_len ho
  have hl2 := ord_len hp
  refine ext_at (by simp [comp]) fun j hj => ?_
  rw [comp_len, comp_len] at hj
  obtain ⟨m1, m2⟩ := ord_mem ho (j := j) (by omega)
  rw [comp_get (by rw [comp_len]; exact hj), comp_get hj, comp_get hj]
  show _ = (comp ps ts).getD (os.getD j 0).toNat 0
  rw [comp_get (by omega)]
  rfl
end
def okTwo (d1 d2 : D) : Prop := ∃ os ps, d1 = .lst (os.map D.int) ∧ d2 = .lst (ps.map D.int) ∧ IsOrd os ∧ IsOrd ps ∧ os.length = ps.length
def fAfter (C : Addr) : DSp := fun ds Ex Q => ∃ d1 d2, ds = [d1, d2] ∧ allNsc d1 = true ∧ allNsc d2 = true ∧ (∀ os ps, d1 = .lst (os.map D.int) → d2 = .lst (ps.map D.int) → IsOrd os → IsOrd ps → os.length = ps.length → Q (.lst ((comp os ps).map D.int))) ∧ (¬ okTwo d1 d2 → Ex C)
theorem atI_ints {ns : List Int} {k : Int} (h0 : 0 ≤ k) (h1 : k < (ns.length : Nat)) : atI (ns.map D.int) k = some (.int (at0 ns k)) := by
  have e := atI_nat (xs := ns.map D.int) (j := k.toNat) (v := .int (at0 ns k)) (by
    rw [List.getElem?_map, getD_get (by omega)]
    rfl)
  rw [show ((k.toNat : Nat) : Int) = k by omega] at e
  exact e
end L2
namespace L2
open PySem PySem.Spec PyProof.Rows
section
variable {X : Cx}
variable {E : XK} {e : Expr} {p pos : Pos}
end
end L2
namespace L2
open PySem PySem.Spec PyProof.Rows
structure Chain (os : List Int) (k : Int) (rs : List Int) : Prop where
  ne : 0 < rs.length
  hd : rs.getD 0 0 = k
  nd : rs.Nodup
  inr : ∀ x ∈ rs, 0 ≤ x ∧ x < (os.length : Nat)
  step : ∀ j, j + 1 < rs.length → rs.getD (j + 1) 0 = at0 os (rs.getD j 0)
structure Orbit (os : List Int) (k : Int) (rs : List Int) : Prop extends Chain os k rs where
  last : at0 os (rs.getD (rs.length - 1) 0) = k
structure RoundsTo (os : List Int) (k : Nat) (rss : List (List Int)) : Prop where
  orb : ∀ rs ∈ rss, ∃ l, Orbit os l rs ∧ l < (k : Nat) ∧ ∀ x ∈ rs, l ≤ x
  up : (rss.map fun rs => rs.getD 0 0).Pairwise (· < ·)
  nd : rss.flatten.Nodup
  all : ∀ j : Nat, j < k → ((j : Nat) : Int) ∈ rss.flatten
end L2
namespace L2
open PySem PySem.Spec PyProof.Rows
section
variable {X : Cx} {e : Expr} {te : TE} {lo hi : Option Expr} {tl th ts : TO} {pos p2 : Pos}
end
section
variable {X : Cx}
end
end L2
namespace L2
open PySem PySem.Spec PyProof.Rows
def cutL {α : Type} (xs : List α) (lo hi : Option Int) : List α := (xs.drop (HT.sIx xs.length 0 lo)).take (HT.sIx xs.length xs.length hi - HT.sIx xs.length 0 lo)
theorem cutL_map {α β : Type} (f : α → β) (xs : List α) (lo hi : Option Int) : cutL (xs.map f) lo hi = (cutL xs lo hi).map f := by
  unfold cutL
  rw [List.length_map, List.map_take, List.map_drop]
theorem Reps.take {K : PySem.W.Frag} {F : Hp} : ∀ {ds : List D} {xs : List V} (n : Nat), Reps K F ds xs → Reps K F (ds.take n) (xs.take n)
  | [], _, n, h => by rw [show _ = [] from h]; simp; rfl
  | d :: ds, _, 0, h => rfl
  | d :: ds, _, n + 1, ⟨x, r, e, h, t⟩ => by rw [e]; exact ⟨x, _, rfl, h, Reps.take n t⟩
theorem Reps.drop {K : PySem.W.Frag} {F : Hp} : ∀ {ds : List D} {xs : List V} (n : Nat), Reps K F ds xs → Reps K F (ds.drop n) (xs.drop n)
  | [], _, n, h => by rw [show _ = [] from h]; simp; rfl
  | d :: ds, _, 0, h => h
  | d :: ds, _, n + 1, ⟨x, r, e, h, t⟩ => by rw [e]; exact Reps.drop n t
theorem Reps.cut {K : PySem.W.Frag} {F : Hp} {ds : List D} {xs : List V} (h : Reps K F ds xs) (lo hi : Option Int) : Reps K F (cutL ds lo hi) (cutV xs lo hi) := by
  unfold cutL cutV
  rw [h.length]
  exact (h.drop _).take _
abbrev GP := DEnv → Exs → (Option Int → Prop) → Prop
def DTP (K : PySem.W.Frag) (E : XK) (g : GP) : TO := fun σ H Q => ∃ F env Ex Qd, Same F H ∧ Slots K F H σ env ∧ ExOk E Ex H ∧ g env Ex Qd ∧ ∀ o F' H', Qd o → Grow F H F' H' → Q o H'
structure DP (X : Cx) (E : XK) (e : Option Expr) (g : GP) : Prop where
  h : PO X e (DTP X.K E g)
theorem PO.weak {X : Cx} {e : Option Expr} {t t' : TO} (h : PO X e t) (w : ∀ σ H Q, t' σ H Q → t σ H Q) : PO X e t' := fun pins s σ H Q I q => h pins s σ H Q I (w σ H Q q)
def gpAt (g : GE) : GP := fun env Ex Q => g env Ex fun d => match d with
  | .int i => Q (some i)
  | _ => False
def hCut (x : D) (lo hi : Option Int) (Q : List D → Prop) : Prop := match x with
  | .lst ds => Q (cutL ds lo hi)
  | .scr ns => Q ((cutL ns lo hi).map D.int)
  | _ => False
def gCut (g : GE) (gl gh : GP) : GA := fun env Ex Q => g env Ex fun x => gl env Ex fun l => gh env Ex fun u => hCut x l u Q
section
variable {X : Cx} {E : XK} {pos p p2 : Pos} {a b c e : Expr} {lo hi : Option Expr} {g : GE} {gl gh gs : GP}
theorem dp_some (h : DE X E e g) : DP X E (some e) (gpAt g) := ⟨PO.weak (po_some h.h) fun σ H Q ⟨F, env, Ex, Qd, s, sl, ex, q, fin⟩ => ⟨F, env, Ex, _, s, sl, ex, q, fun d v F1 H1 q1 g1 r1 => by
  cases d with
  | int i => exact ⟨i, r1, fin _ F1 H1 q1 g1⟩
  | _ => exact (show False from q1).elim⟩⟩
theorem df_cut (he : DE X E e g) (hl : DP X E lo gl) (hh : DP X E hi gh) : DF X E (.Subscript e (.Slice lo hi none p2) pos) (gCut g gl gh) := ⟨PE.weak (pe_slice sl_list he.h hl.h hh.h) fun σ H Q ⟨F, env, Ex, Qd, s, sl, ex, q, fin⟩ =>
  ⟨F, env, Ex, _, s, sl, ex, q, fun d v F1 H1 q1 g1 r1 => ⟨F1, env, Ex, _, g1.sub, sl.grow g1, ex.step g1.hh, q1, fun l F2 H2 q2 g2 => ⟨F2, env, Ex, _, g2.sub, (sl.grow g1).grow g2, (ex.step g1.hh).step g2.hh, q2, fun u F3 H3 q3 g3 => by
    have gg := (g1.trans g2).trans g3
    cases d with
    | lst ds =>
      obtain ⟨a, xs, rfl, hF, r⟩ := r1
      have hF3 : F3 a = some (.lst xs) := g3.ff _ _ (g2.ff _ _ hF)
      refine ⟨a, xs, rfl, SqL.of (g3.sub _ _ hF3), fun p hp => fin _ p _ F3 _ q3 (gg.trans (Grow.keep g3.sub hp)) (g3.sub.free hp) (gg.hh.free hp) upd_same ?_⟩
      exact (Reps.mono (g2.ff.trans g3.ff) _ r).cut l u
    | scr ns =>
      obtain ⟨a, rfl, hq⟩ := r1
      have hq3 : SqL X.K H3 a (ns.map V.int) := (g1.sub.trans (g2.hh.trans g3.hh)).seq hq
      refine ⟨a, _, rfl, hq3, fun p hp => fin _ p _ F3 _ q3 (gg.trans (Grow.keep g3.sub hp)) (g3.sub.free hp) (gg.hh.free hp) upd_same ?_⟩
      rw [show cutV (ns.map V.int) l u = (cutL ns l u).map V.int from cutL_map _ _ _ _]
      exact Reps.ints _
    | _ => exact (show False from q3).elim⟩⟩⟩⟩
end
end L2
namespace L2
open PySem PySem.Spec PyProof.Rows
abbrev ZipR (h : Heap) (z TI TO : Addr) (f0 f1 : Value) : Prop :=
  h.get? z = some { cls := .type "zip", dict := none, data := .fields #[f0, f1, .bool false, .ref TI, .ref TO], slots := #[] }
section
variable {prog : Program} {w : World} {A : Around} {E : Value → Shared → Prop} {s : Shared}
end
section
variable {X : Cx} {E : XK} {x : Str} {tpos p pos : Pos} {a b : Expr}
end
end L2
namespace L2
open PySem PySem.Spec PyProof.Rows
theorem Slots.beside {K : PySem.W.Frag} {F H : Hp} {σ : St} {env : DEnv} {p : Addr} {o : HO} (h : Slots K F H σ env) (ap : ∀ (j : Nat) t a, env[j]? = some t → isOwn t = true → has t (σ[j]?).join a → a ≠ p) (nt : ∀ xs, H p ≠ some (.tup xs)) : Slots K F (upd H p o) σ env :=
  ⟨h.len, fun j t e => (h.ok j t e).off (fun ot b hb => ap j t b e ot hb) nt, h.apart⟩
theorem Slots.old {K : PySem.W.Frag} {F H : Hp} {σ : St} {env : DEnv} {p : Addr} (h : Slots K F H σ env) (hp : H p = none) : ∀ (j : Nat) t a, env[j]? = some t → isOwn t = true → has t (σ[j]?).join a → a ≠ p := fun j t a e o hj z => by
  subst z
  obtain ⟨_, u, hu, _⟩ := (h.ok j t e).there o hj
  rw [hp] at hu
  cases hu
abbrev GK := DEnv → Exs → (List (Key × D) → Prop) → Prop
def DTK (K : PySem.W.Frag) (E : XK) (g : GK) (σ : St) (H : Hp) (Q : List (V × V) → Hp → Prop) : Prop := ∃ F env Ex Qd, Same F H ∧ Slots K F H σ env ∧ ExOk E Ex H ∧ g env Ex Qd ∧ ∀ ps kvs F' H', Qd ps → Grow F H F' H' → RepKV K F' ps kvs → Q (kvs.map fun kv => (kV kv.1, kv.2)) H'
structure DKs (X : Cx) (E : XK) (pos : Pos) (keys : List (Option Expr)) (values : List Expr) (g : GK) : Prop where
  h : ∃ trs, PPs X pos keys values trs ∧ ∀ σ H Q, DTK X.K E g σ H Q → tPairs trs σ H Q
section
variable {X : Cx} {E : XK} {pos p : Pos} {a b c e : Expr} {keys : List (Option Expr)} {values : List Expr} {ga gb : GE} {gr : GK}
end
end L2
namespace L2
open PySem
def bits (f : List Int) : Prop := ∀ b ∈ f, b = 0 ∨ b = 1
def thr : List Int → List Int → List Int
  | b :: bs, x :: y :: r => (if b = 1 then y else x) :: (if b = 1 then x else y) :: thr bs r
  | _, _ => []
inductive Net where
  | sw (b : Int) | node (f : List Int) (u l : Net) (g : List Int)
def Net.D : Net → L2.D
  | .sw b => .int b
  | .node f u l g => .tup [.lst (f.map .int), u.D, l.D, .lst (g.map .int)]
def ln : Nat → Nat
  | 0 => 2
  | j + 1 => 2 * ln j
def Net.Ok : Nat → Net → Prop
  | 0, .sw b => b = 0 ∨ b = 1
  | j + 1, .node f u l g => f.length = ln j ∧ g.length = ln j ∧ bits f ∧ bits g ∧ u.Ok j ∧ l.Ok j
  | _, _ => False
end L2
namespace L2
open PySem
def bes (i : Int) : Int := if i % 2 = 0 then i + 1 else i - 1
def oat (ls : List (Option Int)) (i : Int) : Option Int := ls.getD i.toNat none
def Up (ls : List (Option Int)) (p : Int) : Prop := oat ls (p / 2) = some (p % 2)
def nxt (os bs : List Int) (p : Int) : Int := bes (at0 os (bes (at0 bs p)))
structure Half (m : Nat) (os bs : List Int) (fs ls : List (Option Int)) (now : Int → Prop) : Prop where
  fl : fs.length = m
  ll : ls.length = m
  lb : ∀ q t : Int, oat ls q = some t → t = 0 ∨ t = 1
  nx : ∀ p : Int, 0 ≤ p → p < 2 * (m : Nat) → Up ls p → Up ls (nxt os bs p) ∨ now (nxt os bs p)
  ft : ∀ p : Int, 0 ≤ p → p < 2 * (m : Nat) → Up ls p → oat fs (at0 bs p / 2) = some (at0 bs p % 2)
section
variable {m : Nat} {os bs : List Int} {fs ls : List (Option Int)}
structure EndsOK (m : Nat) (os : List Int) (f g : List Int) : Prop where
  fl : f.length = m
  gl : g.length = m
  fb : bits f
  gb : bits g
  g0 : g.getD 0 0 = 0
  up : ∀ c : Nat, c < m → at0 g (at0 os (2 * (c : Nat) + f.getD c 0) / 2) = at0 os (2 * (c : Nat) + f.getD c 0) % 2
  lo : ∀ c : Nat, c < m → at0 g (at0 os (2 * (c : Nat) + 1 - f.getD c 0) / 2) = 1 - at0 os (2 * (c : Nat) + 1 - f.getD c 0) % 2
end
section
variable {m : Nat} {os f g : List Int}
end
end L2
namespace L2
open PySem PySem.Spec PyProof.Rows
section
variable {X : Cx} {E : XK} {e : Expr} {p pos : Pos}
end
end L2
namespace L2
open PySem PySem.Spec PyProof.Rows
section
variable {X : Cx} {tg : Expr}
end
end L2
namespace L2
open PySem PySem.Spec PyProof.Rows
section
variable {X : Cx} {E : XK} {pos p : Pos} {e : Expr} {es : List Expr} {g : GA} {ge : GE}
end
section
variable {X : Cx} {E : XK} {pos p : Pos} {e : Expr} {g : GE}
end
end L2
namespace HT
open PySem PyProof.Rows
section
open PySem.SeqAt
open PySem.AutoSeq1 (wpAny_loadPart')
open PySem.MeetsSeq PySem.MeetsSeq2 PySem.MeetsSeq3
theorem ints_at {vs : List Value} {ns : List Int} (h : IntsAre vs ns) : ∀ {i : Nat}, i < vs.length → ∃ a t, vs[i]? = some (.int a t) ∧ ns.drop i = a :: ns.drop (i + 1) := by
  induction h with
  | nil => intro i hi; simp at hi
  | cons a t _ ih =>
    intro i hi
    cases i with
    | zero => exact ⟨a, t, rfl, rfl⟩
    | succ i => exact ih (by simpa using hi)
end
end HT
namespace L2
open PySem PySem.Spec PyProof.Rows
section
variable {X : Cx}
def CDivB (i j : Int) : Prop := 0 < j ∧ j < 2 ^ 64
end
end L2
namespace L2
open PySem PySem.Spec PyProof.Rows
theorem seqIx_nat {k n : Nat} (h : k < n) : seqIndex? ((k : Nat) : Int) n = some k := by
  unfold seqIndex?
  simp
  omega
section
variable {X : Cx} {E : XK} {pos p : Pos} {a b e : Expr} {ga gb : GE}
abbrev hDivB := hIIc CDivB fun i j => .int (i / j)
theorem Reps.eraseIdx {K : PySem.W.Frag} {F : Hp} : ∀ {ds : List D} {xs : List V} (n : Nat), Reps K F ds xs → Reps K F (ds.eraseIdx n) (xs.eraseIdx n)
  | [], _, n, h => by rw [show _ = [] from h]; rfl
  | d :: ds, _, 0, ⟨x, r, e, h, t⟩ => by rw [e]; exact t
  | d :: ds, _, n + 1, ⟨x, r, e, h, t⟩ => by rw [e]; exact ⟨x, _, rfl, h, Reps.eraseIdx n t⟩
end
end L2
namespace L2
open PySem PySem.Spec PyProof.Rows
section
variable {X : Cx} {E : XK} {pos p p2 : Pos} {e : Expr} {lo hi : Option Expr} {g : GT} {gl gh : GP}
end
end L2
namespace L2
open PySem PySem.Spec PyProof.Rows
section
variable {X : Cx} {E : XK} {pos p : Pos} {e : Expr} {es : List Expr}
theorem de_callT {id : String} {x : Str} {r : List V → Hp → VK → Prop} {h : List D → (D → Prop) → Prop} {ga : GA} (hc : CallR X (.type id) r) (o : CallD X.K r h) (hg : Gl X x) (hm : X.mg x = none) (hv : bootBuiltins x = some (.type id)) (ha : DA X E (e :: es) ga)
    (hn : x ≠ "__name__" := by decide) (hdb : (x == ("__debug__" : Str)) = false := by decide) (he : starEach (e :: es) X.env = (false, eval e X.env) :: starEach es X.env := by rfl) (hpl : (backTo pos (starEach es X.env)).any (·.1) = false := by rfl) :
    DE X E (.Call (.Name x p) (e :: es) [] pos) (gCB h ga) := ⟨PE.weak (pe_callTy hc hg hm hv ha.h hn hdb he hpl) (liftC o)⟩
def hTupOf (ds : List D) (Q : D → Prop) : Prop := match ds with
  | [.lst xs] => Q (.tup xs)
  | [.tup xs] => Q (.tup xs)
  | _ => False
theorem cd_tuple {K : PySem.W.Frag} : CallD K (fun xs H Q => ∃ p ys, xs = [.ref p] ∧ ((SqL K H p ys ∧ ∀ l, H l = none → Q (.ref l) (upd H l (.tup ys))) ∨ (SqT K H p ys ∧ Q (.ref p) H))) hTupOf := fun F H vs ds Qd Q s r h fin => by
  unfold hTupOf at h
  split at h
  · obtain ⟨x, _, rfl, ⟨a, ys, rfl, hF, rs⟩, e⟩ := r
    cases (show _ = [] from e)
    refine ⟨a, ys, rfl, .inl ⟨SqL.of (s _ _ hF), fun l hl => ?_⟩⟩
    have g : Grow F H (upd F l (.tup ys)) (upd H l (.tup ys)) := Grow.lay s hl
    exact fin _ _ _ _ h g ⟨l, ys, rfl, upd_same, Reps.mono g.ff _ rs⟩
  · obtain ⟨x, _, rfl, ⟨a, ys, rfl, hF, rs⟩, e⟩ := r
    cases (show _ = [] from e)
    exact ⟨a, ys, rfl, .inr ⟨SqT.of (s _ _ hF), fin.now s h ⟨a, ys, rfl, hF, rs⟩⟩⟩
  · exact h.elim
theorem bt_tupleT : bootBuiltins "tuple" = some (.type "tuple") := by decide +kernel
theorem de_tuple {ga : GA} (hg : Gl X "tuple") (hm : X.mg "tuple" = none) (ha : DA X E [e] ga) (he : starEach [e] X.env = [(false, eval e X.env)] := by rfl) : DE X E (.Call (.Name "tuple" p) [e] [] pos) (gCB hTupOf ga) := de_callT call_tuple_of cd_tuple hg hm bt_tupleT ha (by decide) (by decide) he rfl
end
end L2
namespace L2
open PySem PySem.Spec PyProof.Rows
def rows : Nat → List (List Int)
  | 0 => [[]]
  | n + 1 => (rows n).map (0 :: ·) ++ (rows n).map (1 :: ·)
def whIn (d : D) (lo hi : Int) : Bool := match d with
  | .int i => decide (lo ≤ i) && decide (i ≤ hi)
  | _ => false
def fWIn : DSp := fun ds _ Q => ∃ d lo hi, ds = [d, .int lo, .int hi] ∧ nsc d = true ∧ Q (.bl (whIn d lo hi))
def fLarge : DSp := fun ds _ Q => ∃ ns, ds = [.scr ns] ∧ ∀ b, Q (.bl b)
end L2
namespace L2
open PySem PySem.Spec PyProof.Rows
def fac : Nat → Nat
  | 0 => 1
  | n + 1 => (n + 1) * fac n
def cnt (x : Int) (t : List Int) : Nat := (t.filter fun z => decide (z < x)).length
theorem cnt_le (x : Int) (t : List Int) : cnt x t ≤ t.length := List.length_filter_le _ _
theorem cnt_perm {x : Int} {t u : List Int} (h : t.Perm u) : cnt x t = cnt x u := (h.filter _).length_eq
theorem cnt_self (x : Int) (t : List Int) : cnt x (x :: t) = cnt x t := by
  unfold cnt
  rw [List.filter_cons, if_neg (by simp)]
theorem cnt_cons {x y : Int} (t : List Int) (h : y < x) : cnt x (y :: t) = cnt x t + 1 := by
  unfold cnt
  rw [List.filter_cons, if_pos (by simpa using h)]
  rfl
theorem cnt_skip {x y : Int} (t : List Int) (h : ¬ y < x) : cnt x (y :: t) = cnt x t := by
  unfold cnt
  rw [List.filter_cons, if_neg (by simpa using h)]
theorem cnt_mono {x y : Int} (h : x ≤ y) : ∀ t, cnt x t ≤ cnt y t
  | [] => Nat.le_refl _
  | z :: t => by
    have ih := cnt_mono h t
    by_cases h1 : z < x
    · rw [cnt_cons t h1, cnt_cons t (by omega)]; omega
    · rw [cnt_skip t h1]
      by_cases h2 : z < y
      · rw [cnt_cons t h2]; omega
      · rw [cnt_skip t h2]; exact ih
theorem cnt_lt {x y : Int} (h : x < y) : ∀ {t : List Int}, x ∈ t → cnt x t < cnt y t
  | z :: t, hm => by
    rcases List.mem_cons.mp hm with rfl | hm
    · rw [cnt_self, cnt_cons t h]
      have := cnt_mono (Int.le_of_lt h) t
      omega
    · have ih := cnt_lt h hm
      by_cases h1 : z < x
      · rw [cnt_cons t h1, cnt_cons t (by omega)]; omega
      · rw [cnt_skip t h1]
        by_cases h2 : z < y
        · rw [cnt_cons t h2]; omega
        · rw [cnt_skip t h2]; exact ih
def rk : List Int → Nat
  | [] => 0
  | x :: t => cnt x t * fac t.length + rk t
theorem rk_lt : ∀ os : List Int, rk os < fac os.length
  | [] => Nat.one_pos
  | x :: t => by
    have ih := rk_lt t
    have hc := cnt_le x t
    show cnt x t * fac t.length + rk t < (t.length + 1) * fac t.length
    have := Nat.mul_le_mul_right (fac t.length) hc
    rw [Nat.add_mul, Nat.one_mul]
    omega
def lexB : List Int → List Int → Bool
  | [], [] => false
  | [], _ :: _ => true
  | _ :: _, [] => false
  | x :: t, y :: u => if x = y then lexB t u else decide (x < y)
theorem rk_head {x y : Int} {t u : List Int} (hp : (x :: t).Perm (y :: u)) (h : x < y) : rk (x :: t) < rk (y :: u) := by
  have hl : t.length = u.length := by simpa using hp.length_eq
  have c : cnt x t < cnt y u := by
    rw [← cnt_self y u, ← cnt_perm hp, ← cnt_self x t]
    exact cnt_lt h List.mem_cons_self
  have r := rk_lt t
  show cnt x t * fac t.length + rk t < cnt y u * fac u.length + rk u
  rw [← hl]
  have := Nat.mul_le_mul_right (fac t.length) (show cnt x t + 1 ≤ cnt y u from c)
  rw [Nat.add_mul, Nat.one_mul] at this
  omega
theorem rk_lex : ∀ {os ps : List Int}, os.Perm ps → decide (rk os < rk ps) = lexB os ps
  | [], [], _ => rfl
  | [], _ :: _, h => by have := h.length_eq; simp at this
  | _ :: _, [], h => by have := h.length_eq; simp at this
  | x :: t, y :: u, h => by
    unfold lexB
    by_cases e : x = y
    · subst e
      rw [if_pos rfl]
      have ht : t.Perm u := (List.perm_cons x).mp h
      rw [← rk_lex ht]
      have hl := ht.length_eq
      have : rk (x :: t) < rk (x :: u) ↔ rk t < rk u := by
        show cnt x t * fac t.length + rk t < cnt x u * fac u.length + rk u ↔ _
        rw [cnt_perm ht, hl]
        omega
      exact decide_eq_decide.mpr this
    · rw [if_neg e]
      by_cases hlt : x < y
      · rw [decide_eq_true hlt]
        exact decide_eq_true (rk_head h hlt)
      · rw [decide_eq_false hlt]
        have := rk_head h.symm (show y < x by omega)
        exact decide_eq_false (by omega)
theorem rk_inj : ∀ {os ps : List Int}, os.Perm ps → rk os = rk ps → os = ps
  | [], [], _, _ => rfl
  | [], _ :: _, h, _ => by have := h.length_eq; simp at this
  | _ :: _, [], h, _ => by have := h.length_eq; simp at this
  | x :: t, y :: u, h, e => by
    have hxy : x = y := by
      apply Classical.byContradiction
      intro ne
      rcases Int.lt_or_gt_of_ne ne with z | z
      · have := rk_head h z; omega
      · have := rk_head h.symm z; omega
    subst hxy
    have ht : t.Perm u := (List.perm_cons x).mp h
    have e2 : rk t = rk u := by
      have : cnt x t * fac t.length + rk t = cnt x u * fac u.length + rk u := e
      rw [cnt_perm ht, ht.length_eq] at this
      omega
    rw [rk_inj ht e2]
end L2
namespace L2
open PySem PySem.Spec PyProof.Rows
def pre (i : Int) (d : D) : D := match d with
  | .lst r => .lst (.int i :: r)
  | d => d
theorem modN {c : Int} {m : Nat} (k : Nat) (h : 0 < m) : ∃ n : Nat, (k : Int) + c % (m : Nat) = ((n : Nat) : Int) ∧ k ≤ n ∧ n < k + m := by
  have h1 := Int.emod_nonneg c (show ((m : Nat) : Int) ≠ 0 by omega)
  have h2 := Int.emod_lt_of_pos c (show (0 : Int) < (m : Nat) by omega)
  exact ⟨((k : Int) + c % (m : Nat)).toNat, by omega, by omega, by omega⟩
theorem seq_key {t u : GS} {Dd : DEnds} {Ex : Exs} {env : DEnv} (P : DEnv → Prop) (h2 : ∀ e, P e → u Dd Ex e) (h1 : (∀ e, P e → u Dd Ex e) → t { Dd with nx := u Dd Ex } Ex env) : gSeq t u Dd Ex env := h1 h2
end L2
namespace L2
open PySem PySem.Spec PyProof.Rows
abbrev DSt' := List D → List D → (D → Prop) → Prop
section
variable {P : Program} {w : World} {K : PySem.W.Frag} {mg : Str → Option Value} {base : Heap}
end
section
variable {X : Cx} {E : XK} {pos p : Pos} {es : List Expr}
end
end L2
namespace L2
open PySem PySem.Spec PyProof.Rows
end L2
namespace L2
open PySem PySem.Spec PyProof.Rows
end L2
namespace L2
open PySem PySem.Spec PyProof.Rows
section
variable {X : Cx} {tg : Expr}
end
end L2
namespace L2
open PySem PySem.Spec PyProof.Rows
section
variable {X : Cx} {E : XK} {pos p : Pos} {a b e : Expr} {ga gb g : GE}
end
end L2
namespace L2
open PySem PySem.Spec PyProof.Rows
end L2
namespace L2
open PySem PySem.Spec PyProof.Rows
section
variable {X : Cx}
end
end L2
namespace L2
open PySem PySem.Spec PyProof.Rows
section
variable {X : Cx} {E : XK} {pos p p2 : Pos} {a b e : Expr} {lo hi : Option Expr} {g gb : GE} {gl gh : GP} {keys : List (Option Expr)} {values : List Expr} {gr : GK}
end
end L2
namespace L2
open PySem PySem.Spec PyProof.Rows
end L2
namespace L2
open PySem PySem.Spec PyProof.Rows
structure CompOk1 (X : Cx) (scope : Scope) (cl : List (Str × Addr)) (x : Str) (tn fn : List Str) (fv : List Nat) : Prop where
  kind : scope.kind = .function
  lay : ∀ n, cellsFrom n scope.names cl = (x, n) :: cl
  push : ∀ h, pushCells h scope.names = h.push { cls := .type "cell", data := .cell none }
  names : ∀ y ∈ scope.names, y.2 = .local → scope.names.lookup y.1 = some .local
  clos : closureFor scope X.env = pure cl
  cells : ∀ y c, cl.lookup y = some c → X.env.cells.lookup y = some c
  free : ∀ y (n : Addr), ((relabel scope X.env).names.lookup y = some .cell ∨ (relabel scope X.env).names.lookup y = some .free) → ∃ c, ((x, n) :: cl).lookup y = some c
  slots : ∀ (j : Nat) (y : Str), fn[j]? = some y → ∃ k, fv[j]? = some k ∧ X.N[k]? = some y ∧ Vis X.env.scope y ∧ X.env.kindOf y = some .cell ∧ (relabel scope X.env).names.lookup y = some .cell
  nx : x ∉ fn
  len : fv.length = fn.length
section
variable {X : Cx} {elt iter target : Expr} {pos : Pos} {ifs : List Expr} {scope : Scope} {cl : List (Str × Addr)} {x : Str} {tn fn : List Str} {fv : List Nat} {wi : TI} {g : TG} {tt : TT} {te : TE} {pins : List (Addr × Obj)} {σ : St} {H : Hp} {s : Shared}
end
end L2
namespace L2
open PySem PySem.Spec PyProof.Rows
section
variable {X : Cx} {E : XK} {elt iter target : Expr} {pos : Pos} {scope : Scope} {cl : List (Str × Addr)} {x : Str} {tn fn : List Str} {fv : List Nat} {gi : GA} {g : TG} {u : D → Option (List D)} {ge : GE}
end
section
variable {X : Cx} {E : XK} {a b c : Expr} {ga gb gc : GE} {pos : Pos}
end
end L2
namespace L2
open PySem PySem.Spec PyProof.Rows
def swpN : Nat → List Int → List Int
  | 0, xs => match xs with
    | x :: y :: t => y :: x :: t
    | xs => xs
  | p + 1, xs => match xs with
    | [] => []
    | x :: t => x :: swpN p t
abbrev swp (xs : List Int) (p : Nat) : List Int := swpN p xs
def inv : List Int → Nat
  | [] => 0
  | x :: t => cnt x t + inv t
def swps (xs : List Int) (ps : List Nat) : List Int := ps.foldl swp xs
structure SwSt (os g : List Int) (ps : List Nat) : Prop where
  to : swps os ps = g
  cnt : inv g + ps.length = inv os
  inr : ∀ p ∈ ps, p + 1 < os.length
theorem cut_len {α : Type} (xs : List α) (lo hi : Option Int) : (cutL xs lo hi).length ≤ xs.length := by
  unfold cutL
  rw [List.length_take, List.length_drop]
  omega
end L2
namespace L2
open PySem PySem.Spec PyProof.Rows
theorem hide_none {B : Heap} {l : List Addr} {c : Addr} (h : B.get? c = none) : (PySem.W.hideAll B l).get? c = none := by
  cases q : (PySem.W.hideAll B l).get? c with
  | none => rfl
  | some o =>
    have := PySem.W.of_hideAll l q
    rw [h] at this
    cases this
theorem funFrames_less {B B' h : Heap} (k : ∀ c, B.get? c = none → B'.get? c = none) : ∀ {l : List Env}, h.FunFrames B l → h.FunFrames B' l
  | [], _ => trivial
  | env :: _, ⟨hk, ⟨L, o, hf, hn, ho, hd⟩, hr⟩ => ⟨hk, ⟨L, o, hf, k L hn, ho, hd⟩, funFrames_less k hr⟩
theorem funFrames_but {B h h' : Heap} {C : Addr} (k : ∀ b o, b ≠ C → h.get? b = some o → h'.get? b = some o) : ∀ {l : List Env}, h.FunFrames B l → C ∉ frs l → h'.FunFrames B l
  | [], _, _ => trivial
  | env :: l, ⟨hk, ⟨L, o, hf, hn, ho, hd⟩, hr⟩, ne => by
    have e : frs (env :: l) = L :: frs l := by
      unfold frs
      rw [List.filterMap_cons, hf]
    rw [e] at ne
    exact ⟨hk, ⟨L, o, hf, hn, k L o (fun z => ne (by rw [z]; exact List.mem_cons_self)) ho, hd⟩, funFrames_but k hr fun z => ne (List.mem_cons_of_mem _ z)⟩
theorem held_hide {B h : Heap} {l : List Env} {e L C : Addr} {cls a0 : Value} (x : Heap.HeldW B l e cls a0 L h) : Heap.HeldW (PySem.W.hideAll B [C]) l e cls a0 L h := by
  obtain ⟨k1, k2, k3, oe, vs, T, oT, ts, he, hcls, hd, h1, hnT, r⟩ := x
  exact ⟨fun b o q => k1 b o (PySem.W.of_hideAll [C] q), hide_none k2, funFrames_less (fun c => hide_none) k3, oe, vs, T, oT, ts, he, hcls, hd, h1, hide_none hnT, r⟩
theorem held_but {B h h' : Heap} {l : List Env} {e L C : Addr} {cls a0 : Value} {m : Str → Option Value} (x : Heap.HeldW B l e cls a0 L h) (hB : B.get? C = none) (hn : h.Ns C m) (ne : C ∉ frs l) (k : ∀ b o, b ≠ C → h.get? b = some o → h'.get? b = some o) :
    Heap.HeldW B l e cls a0 L h' := by
  obtain ⟨k1, k2, k3, oe, vs, T, oT, ts, he, hcls, hd, h1, hnT, hTe, hT, hdT, h3⟩ := x
  obtain ⟨o, es, ep, ho, hdo, _⟩ := hn
  have no : ∀ {b : Addr} {u : Obj} {ws : Array Value}, h.get? b = some u → u.data = .fields ws → b ≠ C := fun {b u ws} q d z => by
    rw [z, ho] at q
    cases q
    rw [hdo] at d
    cases d
  exact ⟨fun b u q => k b u (fun z => by rw [z, hB] at q; cases q) (k1 b u q), k2, funFrames_but k k3 ne, oe, vs, T, oT, ts, k e oe (no he hd) he, hcls, hd, h1, hnT, hTe, k T oT (no hT hdT) hT, hdT, h3⟩
section
variable {M : Model} {A : Around} {E : Value → Shared → Prop} {s : Shared}
theorem setFlight_any {base : Heap} {l : List Env} {e L : Addr} {fr : Option Addr} {cls a0 : Value} {Q : Unit → Shared → Prop} (R : Heap.HeldW base l e cls a0 L s.heap)
    (h : ∀ h', base.StaysIn h' → h'.FunFrames base l → h'.TracedAtW base e cls a0 (fr.elim Value.none fun f => rawInt f) → s.heap.UpToSlots h' → Q () { s with heap := h' }) : wpAny M A (setFlight (.ref e) fr) Q E s := by
  obtain ⟨hkb, hen, hl, oe, vs, T, oT, ts, he, hcls, hd, h1, hnT, hTe, hT, hdT, h3⟩ := R
  have hsz3 : 3 < ts.size := (Array.getElem?_eq_some_iff.mp h3).1
  have other : ∀ b, b ≠ T → (s.heap.update T (Obj.mapFields (·.setIfInBounds 3 (fr.elim Value.none fun f => rawInt f)))).get? b = s.heap.get? b :=
    fun b hb => Heap.get?_update_other _ _ (Ne.symm hb)
  have noRecord : ∀ b o, s.heap.get? b = some o → (∀ vs, o.data ≠ .fields vs) → b ≠ T := fun b o hb hnf q => by
    rw [q, hT] at hb; injection hb with hb; subst hb; exact hnf ts hdT
  unfold setFlight
  refine wpAny_bind (wpAny_field he hd h1 ?_)
  rw [if_pos (show (Value.ref T != Value.none) = true from by simp)]
  refine wpAny_setField hT hdT hsz3 (h _ (fun b o hbo => (other b fun q => by rw [q, hnT] at hbo; cases hbo).trans (hkb b o hbo))
    (hl.of_keeps fun b o hb hnf => ⟨o, (other b (noRecord b o hb hnf)).trans hb, rfl⟩) ?_ fun b o hb hnf => ⟨o.slots, (other b (noRecord b o hb hnf)).trans hb⟩)
  exact ⟨oe, vs, T, _, _, (other e (Ne.symm hTe)).trans he, hcls, hd, h1, hnT, hTe, Heap.get?_update_self _ hT (Obj.isFreed_of_fields (Obj.data_mapFields hdT _)), Obj.data_mapFields hdT _, by simp [hsz3]⟩
theorem noteFrame_any {base : Heap} {env : Env} {outer : List Env} {L e : Addr} {cls a0 fl : Value} {Q : Unit → Shared → Prop}
    (hfr : A.frames = some (env :: outer)) (hf : env.frame = some L) (hkb : base.StaysIn s.heap) (hen : base.get? e = none) (hl : s.heap.FunFrames base (env :: outer)) (ht : s.heap.TracedAtW base e cls a0 fl)
    (h : ∀ h', Heap.HeldW base (env :: outer) e cls a0 L h' → s.heap.UpToSlots h' → Q () { s with heap := h' }) : wpAny M A (noteFrame (.ref e) env) Q E s := by
  by_cases hfl : fl = rawInt L
  · subst hfl
    exact wpAny_noteFrame_againW hf ht (h s.heap ⟨hkb, hen, hl, ht⟩ (Heap.UpToSlots.refl _))
  · obtain ⟨oe, vs, T, oT, ts, he, ⟨hcls, h0⟩, hd, h1, hnT, hTe, hT, hdT, h3⟩ := ht
    subst hcls
    unfold noteFrame
    simp only [hf]
    refine wpAny_bind (wpAny_field he hd h1 ?_)
    rw [if_pos (show (Value.ref T != Value.none) = true from by simp)]
    refine wpAny_bind (wpAny_field hT hdT h3 ?_)
    rw [if_neg (show ¬ ((fl == rawInt L) = true) from fun z => hfl (eq_of_beq z))]
    refine wpAny_bind (wpAny_setField hT hdT (Array.getElem?_eq_some_iff.mp h3).1 ?_)
    have other : ∀ b, b ≠ T → (s.heap.update T (Obj.mapFields (·.setIfInBounds 3 Value.none))).get? b = s.heap.get? b := fun b hb => Heap.get?_update_other _ _ (Ne.symm hb)
    have noRecord : ∀ b o, s.heap.get? b = some o → (∀ vs, o.data ≠ .fields vs) → b ≠ T := fun b o hb hnf q => by
      rw [q, hT] at hb; injection hb with hb; subst hb; exact hnf ts hdT
    refine wpAny_entryW hfr (hl.of_keeps fun b o hb hnf => ⟨o, (other b (noRecord b o hb hnf)).trans hb, rfl⟩) hf ((other e (Ne.symm hTe)).trans he)
      (fun b o hbo => (other b fun q => by rw [q, hnT] at hbo; cases hbo).trans (hkb b o hbo)) hen hd (Array.getElem?_eq_some_iff.mp h1).1 h0
      fun h' ⟨x1, x2, x3, x4⟩ => h h' ⟨x1, hen, x2, x3⟩ fun b o hb hnf => x4 b o ((other b (noRecord b o hb hnf)).trans hb) hnf
end
theorem comp_loopX {prog : Program} {w : World} {A : Around} {R : Result → Shared → Prop} {s : Shared} {elt target iter : Expr} {ifs : List Expr} {scope : Scope} {pos : Pos} {it acc : Value} {env : Env} {Ee : Value → Shared → Prop}
    (hE : ∀ e s', Ee e s' → wpAny (model prog w) A (noteFrame e env) (fun _ s'' => R (.error e) s'') (fun _ _ => False) s') (I : Nat → Shared → Prop)
    (turn : ∀ n s, I n s → wpAny (model prog w) A (pyNext it) (fun r s₁ => match r with
      | none => R (.ok .next) s₁
      | some v => wpAny (model prog w) A (letOwnedTupleGo target it v) (fun _ s₂ => wpAny (model prog w) A (assign target env v) (fun _ s₃ =>
          wpAny (model prog w) A (forIn ifs true fun c r => if r = true then do let ok ← isTrue c env (eval c env); pure (ForInStep.yield ok) else pure (ForInStep.yield r)) (fun ok s₄ =>
            if ok = true then wpAny (model prog w) A (eval elt env) (fun x s₅ => wpAny (model prog w) A (call (.builtin "list.append") [acc, x]) (fun _ s₆ => ∃ m, m < n ∧ I m s₆) Ee s₅) Ee s₄
            else ∃ m, m < n ∧ I m s₄) Ee s₃) Ee s₂) Ee s₁) Ee s)
    (n : Nat) (h : I n s) : codeAny (model prog w) A (.compLoop (.ListComp elt [⟨target, iter, ifs, 0⟩] scope pos) 0 it acc env) R s := by
  refine codeAny_loop rfl I (fun n s hI => ?_) n h
  show wpAny _ A ((compTurn (.ListComp elt [⟨target, iter, ifs, 0⟩] scope pos) 0 it acc env).onRaise (fun x => do noteFrame x env; theTreesLotGoes x)) _ _ s
  refine wpAny_noted (wpAny_mono (E := Ee) ?_ (fun _ _ q => q) fun e s' he => wpAny_mono (hE e s' he) (fun _ _ q => q) fun _ _ z => z.elim)
  rw [compTurn_list]
  refine wpAny_bind (wpAny_standAt (wpAny_bind (thn (turn n s hI) fun r s₁ h₁ => ?_)))
  cases r with
  | none => exact wpAny_pure h₁
  | some v =>
    refine wpAny_bind (thn h₁ fun _ s₂ h₂ => wpAny_bind (thn h₂ fun _ s₃ h₃ => wpAny_bind (thn h₃ fun ok s₄ h₄ => ?_)))
    cases ok with
    | false => exact wpAny_pure ⟨rfl, h₄⟩
    | true => exact wpAny_bind (wpAny_bind (thn h₄ fun x s₅ h₅ => wpAny_bind (thn h₅ fun _ s₆ h₆ => wpAny_pure (wpAny_pure ⟨rfl, h₆⟩))))
def HeldC (X : Cx) (E : XK) (C : Addr) (pins : List (Addr × Obj)) (σ : St) (e : Value) (s' : Shared) : Prop := ∃ (ea : Addr) (Cv : Value) (B : Heap) (a0 : Value) (H' : Hp) (m : Str → Option Value),
  e = .ref ea ∧ Inv X pins σ H' s' ∧ Heap.HeldW B X.stack ea Cv a0 X.env.locals s'.heap ∧ Aloft X pins H' B ∧ E Cv none H' ∧ s'.heap.Ns C m ∧ FpOk X pins H' C ∧ B.get? C = none
def xeC (X : Cx) (E : XK) (C : Addr) (fp : List Addr) (pins : List (Addr × Obj)) (s3 : Shared) (H3 : Hp) : Value → Shared → Prop := fun e s' =>
  ∀ σ : St, Inv X pins σ H3 s3 → C = s3.heap.objs.size → (∀ b ∈ fp, FpOk X pins H3 b ∧ b < s3.heap.objs.size) → wpAny (model X.prog X.w) X.A (noteFrame e X.env) (fun _ s'' => HeldC X E C pins σ e s'') (fun _ _ => False) s'
def compCxE (X : Cx) (E : XK) (scope : Scope) (cl : List (Str × Addr)) (Nc : List Str) (C : Addr) (fp : List Addr) (pins : List (Addr × Obj)) (s3 : Shared) (H3 : Hp) : Cx :=
  (compCx X scope cl Nc C fp pins s3 H3).wish (xeC X E C fp pins s3 H3)
theorem Aloft.hide {X : Cx} {E : XK} {pins : List (Addr × Obj)} {H : Hp} {B : Heap} {C : Addr} (b : Body X E) (al : Aloft X pins H B) (fo : FpOk X pins H C) : Aloft X pins H (PySem.W.hideAll B [C]) := by
  obtain ⟨f0, f1, f2, f3, f4, f5⟩ := fo
  refine ⟨fun c n => ?_, fun p hp => ?_, fun c o z n => ?_⟩
  · obtain ⟨o, e⟩ := al.trk c n
    exact ⟨o, PySem.W.hideAll_get _ e fun m => n (by rw [List.mem_singleton.mp m]; exact f0)⟩
  · obtain ⟨o, e⟩ := al.pin p hp
    exact ⟨o, PySem.W.hideAll_get _ e fun m => f5 p hp (List.mem_singleton.mp m)⟩
  · obtain ⟨o', e⟩ := al.old c o z n
    refine ⟨o', PySem.W.hideAll_get _ e fun m => ?_⟩
    have mm := List.mem_singleton.mp m
    rcases f3 with y | y
    · rw [b.ex] at y; cases y
    · rw [← mm] at y
      exact absurd (Nat.lt_of_lt_of_le (Heap.lt_size z) y) (Nat.lt_irrefl _)
section
variable {X : Cx} {E : XK}
theorem comp_pass (b : Body X E) {scope : Scope} {cl : List (Str × Addr)} {Nc : List Str} {C : Addr} {fp : List Addr} {ps : List (Addr × Obj)} {s3 : Shared} {H3 : Hp} : Passes (CXx X.prog X.w) (compCxE X E scope cl Nc C fp ps s3 H3) E := by
  intro qs τ H s e s' I h σ I3 hC hfp
  obtain ⟨ea, Cv, B, a0, H', rfl, os, bare, un, hok, fl, trk, old, q⟩ := h
  have I' : Inv (compCxE X E scope cl Nc C fp ps s3 H3) qs τ H' s' := I.call' (ch := []) os un hok bare (fun b z => absurd z (by simp))
  have J : Inv X ps σ H' s' := I3.call' (ch := fp) I'.os I'.base I'.hok I'.bare fun b hb => let ⟨⟨_, f1, _, f3, f4, f5⟩, _⟩ := hfp b hb; ⟨f3, f1, f4, f5⟩
  have al : Aloft X ps H' B := by
    refine ⟨trk, fun p hp => ?_, fun c o z n => ?_⟩
    · obtain ⟨e1, _, _, nf, _⟩ := I.pin p (List.mem_append_left _ hp)
      exact old p.1 p.2 e1 nf
    · obtain ⟨o1, e1⟩ := I3.base.there c o z (by rw [b.ex]; simp)
      obtain ⟨o2, e2⟩ := I.base.there c o1 e1 fun m => by
        obtain ⟨⟨_, _, _, f3, _⟩, _⟩ := hfp c m
        rcases f3 with y | y
        · rw [b.ex] at y; cases y
        · exact absurd (Nat.lt_of_lt_of_le (Heap.lt_size z) y) (Nat.lt_irrefl _)
      exact old c o2 e2 n
  have fl : Heap.FlyingW B X.stack ea Cv a0 s'.heap := fl
  have fo : FpOk X ps H' C := I3.fpOk (Nat.le_of_eq hC.symm) I'.free
  obtain ⟨m, hn, _⟩ := id I'.loc
  have fl' := fl
  rw [b.stk] at fl'
  refine wpAny_looks_onW (I3.ok.frames.trans (congrArg some b.stk)) b.fr fl' fun h2 hh us => ?_
  rw [← b.stk] at hh
  exact ⟨ea, Cv, PySem.W.hideAll B [C], a0, H', m, rfl, J.upto (t' := s'.toks) b al fl.1 hh.1 us, held_hide hh, al.hide b fo, q, us.ns hn, fo, PySem.W.hideAll_none _ List.mem_cons_self⟩
theorem comp_end (b : Body X E) {pins : List (Addr × Obj)} {σ : St} {C : Addr} {e : Value} {s' : Shared} (hh : HeldC X E C pins σ e s') :
    ∃ m, s'.heap.Ns C m ∧ ∀ h', Heap.SameBut C s'.heap h' → ∀ cenv : Env, cenv.locals = C → wpAny (model X.prog X.w) X.A (passOn "comprehension.variables-let-go" e cenv : Sem Value) (fun _ _ => False) X.xe { s' with heap := h' } := by
  obtain ⟨ea, Cv, B, a0, H', m, rfl, I, hh, al, q, hns, fo, hB⟩ := hh
  refine ⟨m, hns, fun h' hs' cenv _ => ?_⟩
  have kp : ∀ c o, c ≠ C → s'.heap.get? c = some o → h'.get? c = some o := fun c o n z => (hs'.2 c n).trans z
  obtain ⟨f0, f1, f2, f3, f4, f5⟩ := fo
  have I1 : Inv X pins σ H' { s' with heap := h' } := I.turned (t' := s'.toks) kp f0 f1 f3 f4 f5
  have hh1 : Heap.HeldW B X.stack ea Cv a0 X.env.locals h' := held_but hh hB hns (by
    rw [b.frs]
    intro z
    rcases List.mem_cons.mp z with z | z
    · exact f1 z
    · exact f2 z) kp
  obtain ⟨_, _, _, oe, vs, T, oT, ts, he, hcls, hd, h1, _⟩ := id hh1
  unfold PySem.passOn
  refine wpAny_bind (wpAny_field (s := { s' with heap := h' }) he hd h1 ?_)
  rw [if_neg (show ¬ ((Value.ref T == Value.none) = true) from by simp)]
  have key : wpAny (model X.prog X.w) X.A (setFlight (.ref ea) cenv.frame >>= fun _ => (throw (.ref ea) : Sem Value)) (fun _ _ => False) X.xe { s' with heap := h' } := by
    refine wpAny_bind (setFlight_any (s := { s' with heap := h' }) hh1 fun h2 k1 k2 k3 us => wpAny_throw (loop_leave b ?_))
    have I2 : Inv X pins σ H' { s' with heap := h2 } := Inv.upto (s := { s' with heap := h' }) (h2 := h2) (t' := s'.toks) b I1 al hh1.1 k1 us
    have k2' := k2
    rw [b.stk] at k2'
    refine noteFrame_any (s := { s' with heap := h2 }) (I.ok.frames.trans (congrArg some b.stk)) b.fr k1 hh1.2.1 k2' k3 fun h3 hh3 us3 => ?_
    rw [← b.stk] at hh3
    exact ⟨pins, ea, Cv, B, a0, H', σ, rfl, Inv.upto (s := { s' with heap := h2 }) (h2 := h3) (t' := s'.toks) b I2 al k1 hh3.1 us3, hh3, al, q⟩
  first
    | exact wpAny_bind (wpAny_pure key)
    | exact key
end
section
variable {X : Cx} {elt iter target : Expr} {pos : Pos} {ifs : List Expr} {scope : Scope} {cl : List (Str × Addr)} {tn fn : List Str} {fv : List Nat} {wi : TI} {g : TG} {tt : TT} {te : TE} {pins : List (Addr × Obj)} {σ : St} {H : Hp} {s : Shared}
theorem comp_coreX {E : XK} {Q0 : VK} {RR : Value → Addr → Result → Shared → Prop} (hc : X.calm = true) (hi : PI X target iter wi) (S : CompOkT X scope cl tn fn fv)
    (hg : ∀ C fp ps s3 H3, PG (compCxE X E scope cl (tn ++ fn) C fp ps s3 H3) target g)
    (ht : ∀ C fp ps s3 H3, PIfs (compCxE X E scope cl (tn ++ fn) C fp ps s3 H3) ifs tt) (he : ∀ C fp ps s3 H3, PE (compCxE X E scope cl (tn ++ fn) C fp ps s3 H3) elt te)
    (I : Inv X pins σ H s) (h : tCompT wi fv tn.length g tt te σ H Q0)
    (fin : ∀ (D C : Addr) (H' : Hp) (s' : Shared) (m : Str → Option Value), s'.heap.Ns C m → FpOk X pins H' C → Inv X pins σ H' s' → Q0 (.ref D) H' → RR (.ref D) C (.ok .next) s')
    (finE : ∀ (acc : Value) (C : Addr) (e : Value) (s' : Shared), HeldC X E C pins σ e s' → RR acc C (.error e) s') :
    wpAny (model X.prog X.w) X.A (eval iter X.env) (fun xv s₁ => wpAny (model X.prog X.w) X.A (pyIter xv) (fun it s₂ => wpAny (model X.prog X.w) X.A (newList []) (fun acc s₃ =>
      wpAny (model X.prog X.w) X.A (newFunctionEnv scope X.env.globals cl [] X.env.qual none .none (some X.env)) (fun cenv s₄ =>
        codeAny (model X.prog X.w) X.A (.compStart (.ListComp elt [⟨target, iter, ifs, 0⟩] scope pos) 0 it acc { cenv with scope := relabel scope X.env }) (RR acc cenv.locals) s₄) X.xe s₃) X.xe s₂) X.xe s₁) X.xe s := by
  refine thn (hi pins s σ H _ I h) fun xv s1 h1 => thn h1 fun itv s2 h2 => ?_
  obtain ⟨it, fp, tnn, J, H2, e, I2, T, st2, f2, q⟩ := h2
  subst e
  have hD : H2 s2.heap.objs.size = none := I2.hok.fresh (Nat.le_refl _)
  obtain ⟨W, ⟨m0, w0⟩, turnW⟩ := q _ hD
  refine wpAny_newObj_type (wpAny_newFunctionEnv S.ncell (by intro y hy; simp at hy) (fun h₁ hns₁ hsb₁ => ?_) S.kind)
  have I3 : Inv X pins σ (upd H2 s2.heap.objs.size (.lst [])) { s2 with heap := s2.heap.push { cls := .type "list", data := .seq ([] : List Value).toArray }, toks := s2.toks } := I2.lnew (its := []) .nil (Nat.zero_le _)
  have obj2 : ∀ b ∈ fp, ∃ o, s2.heap.get? b = some o := fun b hb => let ⟨o, e, _⟩ := T.obj 0 _ st2 b hb; ⟨o, e⟩
  have ltf : ∀ b ∈ fp, b < s2.heap.objs.size := fun b hb => let ⟨o, e⟩ := obj2 b hb; Heap.lt_size e
  have size3 : (s2.heap.push { cls := .type "list", data := .seq ([] : List Value).toArray }).objs.size = s2.heap.objs.size + 1 := Heap.size_push _ _
  have hfp3 : ∀ b ∈ fp, FpOk X pins (upd H2 s2.heap.objs.size (.lst [])) b ∧ b < (s2.heap.push { cls := .type "list", data := .seq ([] : List Value).toArray }).objs.size := fun b hb =>
    ⟨⟨by rw [upd_ne (Nat.ne_of_lt (ltf b hb))]; exact (f2 b hb).1, (f2 b hb).2⟩, by rw [size3]; exact Nat.lt_succ_of_lt (ltf b hb)⟩
  have old : ∀ b o, (s2.heap.push { cls := .type "list", data := .seq ([] : List Value).toArray }).get? b = some o → h₁.get? b = some o := fun b o e =>
    (hsb₁.2 b (Nat.ne_of_lt (Heap.lt_size e))).trans (Heap.get?_push_of_some _ e)
  have I4 := (compInT (s4 := { s2 with heap := h₁, toks := s2.toks + ([] : List (Str × Value)).length }) (fp := fp) S I3 rfl hfp3 ⟨rfl, rfl⟩ hns₁ old).wish (xeC X E (s2.heap.push { cls := .type "list", data := .seq ([] : List Value).toArray }).objs.size fp pins { s2 with heap := s2.heap.push { cls := .type "list", data := .seq ([] : List Value).toArray }, toks := s2.toks } (upd H2 s2.heap.objs.size (.lst [])))
  have st4 : tnn 0 h₁ := T.keep 0 _ _ st2 fun b hb o e => old b o (Heap.get?_push_of_some _ e)
  have stat : ∀ {ps : List (Addr × Obj)} {H' : Hp}, ps = [] → (∀ b ∈ fp, H' b = none) → ∀ b ∈ fp, FpOk (compCxE X E scope cl (tn ++ fn) (s2.heap.push { cls := .type "list", data := .seq ([] : List Value).toArray }).objs.size fp pins
      { s2 with heap := s2.heap.push { cls := .type "list", data := .seq ([] : List Value).toArray }, toks := s2.toks } (upd H2 s2.heap.objs.size (.lst []))) ps H' b := fun {ps H'} e hn b hb => by
    subst e
    obtain ⟨⟨_, f1, f2', f3, f4, f5⟩, lt⟩ := hfp3 b hb
    refine ⟨hn b hb, Nat.ne_of_lt lt, fun mm => ?_, .inl hb, fun y c e => f4 y c (S.cells y c e), fun p hp => ?_⟩
    · rcases List.mem_cons.mp (I3.stkSub b mm) with z | z
      · exact f1 z
      · exact f2' z
    · rw [List.append_nil] at hp
      exact f5 p hp
  have loop : codeAny (model X.prog X.w) X.A (.compLoop (.ListComp elt [⟨target, iter, ifs, 0⟩] scope pos) 0 (.ref it) (.ref s2.heap.objs.size)
      (compEnvC scope cl (s2.heap.push { cls := .type "list", data := .seq ([] : List Value).toArray }).objs.size X.env)) (RR (.ref s2.heap.objs.size) (s2.heap.push { cls := .type "list", data := .seq ([] : List Value).toArray }).objs.size)
      { s2 with heap := h₁, toks := s2.toks + ([] : List (Str × Value)).length } := by
    refine comp_loopX (Ee := xeC X E (s2.heap.push { cls := .type "list", data := .seq ([] : List Value).toArray }).objs.size fp pins { s2 with heap := s2.heap.push { cls := .type "list", data := .seq ([] : List Value).toArray }, toks := s2.toks } (upd H2 s2.heap.objs.size (.lst []))) (fun e s' he => wpAny_mono (he σ I3 rfl hfp3) (fun _ s'' q => finE _ _ e s'' q) fun _ _ z => z) (fun n s' => ∃ i ts H', ts.length = tn.length ∧ Inv (compCxE X E scope cl (tn ++ fn) (s2.heap.push { cls := .type "list", data := .seq ([] : List Value).toArray }).objs.size fp pins
      { s2 with heap := s2.heap.push { cls := .type "list", data := .seq ([] : List Value).toArray }, toks := s2.toks } (upd H2 s2.heap.objs.size (.lst []))) [] (ts ++ fv.map fun j => (σ[j]?).join) H' s' ∧ tnn i s'.heap ∧ (∀ b ∈ fp, H' b = none) ∧ W i n H') ?_ m0
      ⟨0, _, _, List.length_replicate, I4, st4, fun b hb => (hfp3 b hb).1.1, w0⟩
    rintro n s' ⟨i, ts, H', hts, I', st', fr', w'⟩
    rcases turnW i n H' w' with ⟨stop, qn⟩ | ⟨go, N, hN, step⟩
    · refine thn (T.done (compCxE X E scope cl (tn ++ fn) (s2.heap.push { cls := .type "list", data := .seq ([] : List Value).toArray }).objs.size fp pins
          { s2 with heap := s2.heap.push { cls := .type "list", data := .seq ([] : List Value).toArray }, toks := s2.toks } (upd H2 s2.heap.objs.size (.lst []))) rfl rfl rfl hc i [] s' _ H' _ I' (stat rfl fr') st' stop) fun r s5 ⟨hr, I5⟩ => ?_
      subst hr
      obtain ⟨m5, hn5, _⟩ := id I5.loc
      have J5 : Inv X pins σ H' s5 := I3.call' (ch := fp) I5.os I5.base I5.hok I5.bare fun b hb => let ⟨⟨_, f1, _, f3, f4, f5⟩, _⟩ := hfp3 b hb; ⟨f3, f1, f4, f5⟩
      exact fin _ _ H' s5 m5 hn5 (I3.fpOk (Nat.le_refl _) I5.free) J5 qn
    · refine thn (T.item (compCxE X E scope cl (tn ++ fn) (s2.heap.push { cls := .type "list", data := .seq ([] : List Value).toArray }).objs.size fp pins
          { s2 with heap := s2.heap.push { cls := .type "list", data := .seq ([] : List Value).toArray }, toks := s2.toks } (upd H2 s2.heap.objs.size (.lst []))) rfl rfl rfl hc i [] s' _ H' _ I' (stat rfl fr') st' go) fun r s5 ⟨u, hr, h5⟩ => ?_
      subst hr
      refine thn h5 fun _ s6 ⟨y, H6, I6, r6, y6, st6, fr6⟩ => ?_
      have I6' := I6.pinned (stat rfl fr6) (T.obj _ _ st6)
      have again : ∀ {s7 : Shared} {H7 : Hp} {ts7 : List (Option V)}, ts7.length = tn.length → Inv (compCxE X E scope cl (tn ++ fn) (s2.heap.push { cls := .type "list", data := .seq ([] : List Value).toArray }).objs.size fp pins
          { s2 with heap := s2.heap.push { cls := .type "list", data := .seq ([] : List Value).toArray }, toks := s2.toks } (upd H2 s2.heap.objs.size (.lst []))) ([] ++ pinsAt fp s6.heap) (ts7 ++ fv.map fun j => (σ[j]?).join) H7 s7 → N H7 →
          ∃ m, m < n ∧ ∃ i ts H', ts.length = tn.length ∧ Inv (compCxE X E scope cl (tn ++ fn) (s2.heap.push { cls := .type "list", data := .seq ([] : List Value).toArray }).objs.size fp pins
            { s2 with heap := s2.heap.push { cls := .type "list", data := .seq ([] : List Value).toArray }, toks := s2.toks } (upd H2 s2.heap.objs.size (.lst []))) [] (ts ++ fv.map fun j => (σ[j]?).join) H' s7 ∧ tnn i s7.heap ∧ (∀ b ∈ fp, H' b = none) ∧ W i m H' := fun {s7 H7 ts7} hl7 I7 n7 => by
        obtain ⟨m', hm, w7⟩ := hN H7 n7
        refine ⟨m', hm, i + 1, ts7, H7, hl7, I7.unpinned, T.keep _ _ _ st6 fun b hb o e => (I7.pin (b, o) (List.mem_append_right _ (List.mem_append_right _ (mem_pinsAt hb e)))).1, fun b hb => ?_, w7⟩
        obtain ⟨o, e, _⟩ := T.obj _ _ st6 b hb
        exact (I7.pin (b, o) (List.mem_append_right _ (List.mem_append_right _ (mem_pinsAt hb e)))).2.1
      refine thn (hg _ _ _ _ _ _ s6 _ H6 y u _ I6' r6 (step y H6 ts hts y6)) fun _ s7 ⟨σ7, H7, I7, ⟨ts7, hl7, e7⟩, q7⟩ => ?_
      subst e7
      refine thn (ht _ _ _ _ _ _ s7 _ H7 _ I7 q7) fun ok s8 ⟨H8, I8, q8⟩ => ?_
      cases ok with
      | false =>
        rw [if_neg Bool.false_ne_true] at q8 ⊢
        exact again hl7 I8 q8
      | true =>
        rw [if_pos rfl] at q8 ⊢
        refine thn (he _ _ _ _ _ _ s8 _ H8 _ I8 q8) fun z s9 ⟨yv, H9, I9, r9, ys, hDl, hz, q9⟩ => ?_
        refine thn (mt_append _ s9 _ H9 (.ref s2.heap.objs.size) [yv] (.ref s2.heap.objs.size) [z] (fun _ H10 => N H10) I9 rfl (.cons r9 .nil) ⟨_, ys, yv, rfl, rfl, hDl, hz, q9⟩) fun _ s10 ⟨v10, H10, I10, _, q10⟩ => ?_
        exact again hl7 I10 q10
  exact codeAny_compStart_list loop (T.self _ 0 _ _ _ st4 loop)
theorem pe_compX {E : XK} (b : Body X E) (hc : X.calm = true) (hi : PI X target iter wi) (S : CompOkT X scope cl tn fn fv) (hg : ∀ C fp ps s3 H3, PG (compCxE X E scope cl (tn ++ fn) C fp ps s3 H3) target g)
    (ht : ∀ C fp ps s3 H3, PIfs (compCxE X E scope cl (tn ++ fn) C fp ps s3 H3) ifs tt) (he : ∀ C fp ps s3 H3, PE (compCxE X E scope cl (tn ++ fn) C fp ps s3 H3) elt te)
    (hs : ∀ y, foldedSetIterable iter X.env y = pure y := by intro _; rfl) : PE X (.ListComp elt [⟨target, iter, ifs, 0⟩] scope pos) (tCompT wi fv tn.length g tt te) := by
  intro pins s σ H Q I h
  rw [eval_ListComp]
  refine wpAny_comprehension_free (use := none) rfl hs S.clos S.kind S.names ?_
  refine comp_coreX (E := E) (RR := fun acc C => compPost (model X.prog X.w) X.A X.xe none (EP X pins σ Q) acc C) hc hi S hg ht he I h (fun D C H' s' m hns fo J q => ?_) fun acc C e s' hh => comp_end b hh
  obtain ⟨f0, f1, _, f3, f4, f5⟩ := fo
  exact ⟨m, hns, fun h' hs' => ⟨.ref D, H', J.turned (t' := s'.toks) (fun b o hb e => (hs'.2 b hb).trans e) f0 f1 f3 f4 f5, rfl, q⟩⟩
theorem ps_setCX {E : XK} (b : Body X E) {i : Nat} {y : Str} {py spos : Pos} (hN : X.N.Nodup) (hj : X.N[i]? = some y) (hy : Loc X.env.scope y) (hc : X.calm = true) (hi : PI X target iter wi) (S : CompOkT X scope cl tn fn fv) (hg : ∀ C fp ps s3 H3, PG (compCxE X E scope cl (tn ++ fn) C fp ps s3 H3) target g)
    (ht : ∀ C fp ps s3 H3, PIfs (compCxE X E scope cl (tn ++ fn) C fp ps s3 H3) ifs tt) (he : ∀ C fp ps s3 H3, PE (compCxE X E scope cl (tn ++ fn) C fp ps s3 H3) elt te)
    (hsw : swapsWith (.ListComp elt [⟨target, iter, ifs, 0⟩] scope pos) (some (.Name y py)) spos.line X.env = pure true := by rfl) (hs : ∀ y, foldedSetIterable iter X.env y = pure y := by intro _; rfl)
    (hf : X.fn y = true ∨ X.env.scope.names.lookup y = some .local := by first | exact .inl rfl | exact .inr rfl | assumption) :
    PS X (.Assign [.Name y py] (.ListComp elt [⟨target, iter, ifs, 0⟩] scope pos) spos) (tAsg (tCompT wi fv tn.length g tt te) (gName i)) := by
  intro pins s σ H D I h
  rw [exec_Assign_Name_used _ _ _ _ hsw]
  refine wpAny_bind (wpAny_standAt (wpAny_bind ?_))
  show wpAny _ X.A (do let _ ← comprehension (.ListComp elt [⟨target, iter, ifs, 0⟩] scope pos) scope X.env _ (newList []) false (eval iter X.env) (some (assign (.Name y py) X.env))) _ _ s
  refine wpAny_bind (thn (wpAny_comprehension_free (use := some (assign (.Name y py) X.env)) (Q := fun _ s' => SP X pins D .next s') rfl hs S.clos S.kind S.names ?_) fun _ s' hq => wpAny_pure (wpAny_pure hq))
  refine comp_coreX (E := E) (RR := fun acc C => compPost (model X.prog X.w) X.A X.xe (some (assign (.Name y py) X.env)) (fun _ s' => SP X pins D .next s') acc C) hc hi S hg ht he I h (fun D' C H' s' m hns fo J q => ?_) fun acc C e s' hh => comp_end b hh
  obtain ⟨f0, f1, _, f3, f4, f5⟩ := fo
  show wpAny _ X.A (assign (.Name y py) X.env (.ref D')) _ _ _
  refine wpAny_assign_Name (store_ok2 J hN hj hy (v := .ref D') rfl (fun s2 J2 ⟨a, hs2, ha⟩ => ?_) hf)
  have ne : a ≠ C := by
    rcases ha with z | z
    · rw [z]; exact Ne.symm f1
    · exact f4 y a z
  refine ⟨m, hns.sameBut hs2 (Ne.symm ne), fun h' hs' => ⟨_, H', J2.turned (t' := s2.toks) (fun b o hb e => (hs'.2 b hb).trans e) f0 f1 f3 f4 f5, q⟩⟩
end
end L2
namespace L2
open PySem PySem.Spec PyProof.Rows
def RelL (R : D → D → Prop) : List D → List D → Prop
  | [], [] => True
  | d :: ds, y :: ys => R d y ∧ RelL R ds ys
  | _, _ => False
def gCompX (gi : GA) (fv : List Nat) (u : D → Option (List D)) (ge : GE) : GA := fun env Ex Q => gi env Ex fun ds => ds.length ≤ sizeLine ∧ ∃ (R : D → D → Prop) (n : Nat),
  (∀ d ∈ ds.take n, ∃ ts, u d = some ts ∧ ge (ts.map DS.sh ++ fv.map (slotV env)) Ex (R d)) ∧ (∀ d, ds[n]? = some d → ∃ ts, u d = some ts ∧ ge (ts.map DS.sh ++ fv.map (slotV env)) Ex fun _ => False) ∧ (ds.length ≤ n → ∀ ys, RelL R ds ys → Q ys)
theorem RelL.eq {f : D → D} : ∀ {ds ys : List D}, RelL (fun d y => y = f d) ds ys → ys = ds.map f
  | [], [], _ => rfl
  | _ :: _, _ :: _, ⟨h, r⟩ => by rw [h, r.eq]; rfl
theorem RelL.snoc {R : D → D → Prop} {d y : D} (h : R d y) : ∀ {ds ys : List D}, RelL R ds ys → RelL R (ds ++ [d]) (ys ++ [y])
  | [], [], _ => ⟨h, trivial⟩
  | _ :: _, _ :: _, ⟨h', r⟩ => ⟨h', r.snoc h⟩
theorem RelL.len {R : D → D → Prop} : ∀ {ds ys : List D}, RelL R ds ys → ys.length = ds.length
  | [], [], _ => rfl
  | _ :: _, _ :: _, ⟨_, r⟩ => by rw [List.length_cons, List.length_cons, r.len]
theorem RelL.all {R : D → D → Prop} : ∀ {ds ys : List D}, RelL R ds ys → ∀ y ∈ ys, ∃ d ∈ ds, R d y
  | [], [], _, _, m => by cases m
  | d :: _, _ :: _, ⟨h, r⟩, z, m => by
    rcases List.mem_cons.mp m with e | e
    · rw [e]; exact ⟨d, List.mem_cons_self, h⟩
    · obtain ⟨d', m', h'⟩ := r.all z e
      exact ⟨d', List.mem_cons_of_mem _ m', h'⟩
section
variable {X : Cx} {E : XK} {elt iter target : Expr} {pos : Pos} {ifs : List Expr} {scope : Scope} {cl : List (Str × Addr)} {tn fn : List Str} {fv : List Nat} {gi : GA} {g : TG} {u : D → Option (List D)} {ge : GE}
theorem comp_stepX (ub : UB X.K g u tn.length) {σ : St} {H : Hp} {Q : VK} {F : Hp} {env : DEnv} {Ex : Exs} {Qd : List D → Prop} {ds : List D} {J : It} {F1 H1 : Hp} {Dl : Addr} (sl : Slots X.K F H σ env) (ex : ExOk E Ex H) (fin : FinF X.K F H Qd Q) (hlen : ds.length ≤ sizeLine) (R : D → D → Prop) (n : Nat)
    (hf : ∀ d ∈ ds.take n, ∃ ts, u d = some ts ∧ ge (ts.map DS.sh ++ fv.map (slotV env)) Ex (R d)) (hx : ∀ d, ds[n]? = some d → ∃ ts, u d = some ts ∧ ge (ts.map DS.sh ++ fv.map (slotV env)) Ex fun _ => False) (qd : ds.length ≤ n → ∀ ys, RelL R ds ys → Qd ys)
    (g1 : Grow F H F1 H1) (jr : JRep X.K J F1 ds) (hD : H1 Dl = none) : CompGT J (fv.map fun j => (σ[j]?).join) tn.length g (DTT X.K E gYes) (DTE X.K E ge) Q H1 Dl := by
  refine ⟨fun i m H => m = ds.length - i ∧ i ≤ ds.length ∧ i ≤ n ∧ ∃ F2 ys es, Grow F1 H1 F2 H ∧ F2 Dl = none ∧ H Dl = some (.lst ys) ∧ Reps X.K F2 es ys ∧ RelL R (ds.take i) es,
    ⟨ds.length, by simp, Nat.zero_le _, Nat.zero_le _, F1, [], [], Grow.keep g1.sub hD, g1.sub.free hD, upd_same, Reps.nil, by rw [List.take_zero]; trivial⟩, ?_⟩
  rintro i m H2 ⟨rfl, hi, hin, F2, ys, es, g2, f2, l2, r2, rl2⟩
  obtain ⟨jgo, jstop⟩ := jr F2 H2 g2.ff g2.sub i
  have hys : ys.length ≤ i := by
    rw [r2.length, rl2.len, List.length_take]
    omega
  by_cases hlt : i < ds.length
  · have hd : ds[i]? = some ds[i] := by simp [hlt]
    obtain ⟨go, yl⟩ := jgo ds[i] hd
    refine .inr ⟨go, fun H' => i < n ∧ ∃ F2 ys es, Grow F1 H1 F2 H' ∧ F2 Dl = none ∧ H' Dl = some (.lst ys) ∧ Reps X.K F2 es ys ∧ RelL R (ds.take (i + 1)) es, fun H' n => ⟨ds.length - (i + 1), by omega, rfl, hlt, n.1, n.2⟩, fun x H3 ts0 hts y => ?_⟩
    obtain ⟨F3, g3, r3⟩ := yl x H3 y
    have f3 := g3.off f2 l2
    have l3 := g3.hh _ _ l2
    have hsl := hlen
    by_cases hn : i < n
    · obtain ⟨ts, hu, hge⟩ := hf ds[i] (List.mem_of_getElem? (i := i) (by rw [List.getElem?_take_of_lt hn]; exact hd))
      refine ub ds[i] ts x _ ts0 F3 H3 _ g3.sub hu r3 hts fun vs rvs hvs => ⟨⟨vs.map some, by simp [hvs], rfl⟩, ?_⟩
      have bsl := block_slots fv sl ((g1.trans g2).trans g3) rvs
      refine ⟨F3, _, fun _ => False, _, g3.sub, bsl, fun _ z => z.elim, (rfl : (true : Bool) = true), fun b F4 H4 q4 g4 => ?_⟩
      subst q4
      have f4 := g4.off f3 l3
      have l4 := g4.hh _ _ l3
      rw [if_pos rfl]
      refine ⟨F4, _, Ex, _, g4.sub, bsl.grow g4, ex.step (((g1.trans g2).trans g3).trans g4).hh, hge, fun y v F5 H5 q5 g5 r5 => ?_⟩
      have f5 := g5.off f4 l4
      have l5 := g5.hh _ _ l4
      refine ⟨ys, l5, by omega, hn, F5, ys ++ [v], es ++ [y], (((g2.trans g3).trans g4).trans g5).mut f5 hD, f5, upd_same, ?_, by rw [take_next hd]; exact rl2.snoc q5⟩
      exact (Reps.mono ((g3.ff.trans g4.ff).trans g5.ff) _ r2).append (Reps.cons r5 Reps.nil)
    · have e : i = n := by omega
      obtain ⟨ts, hu, hge⟩ := hx ds[i] (by rw [← e]; exact hd)
      refine ub ds[i] ts x _ ts0 F3 H3 _ g3.sub hu r3 hts fun vs rvs hvs => ⟨⟨vs.map some, by simp [hvs], rfl⟩, ?_⟩
      have bsl := block_slots fv sl ((g1.trans g2).trans g3) rvs
      refine ⟨F3, _, fun _ => False, _, g3.sub, bsl, fun _ z => z.elim, (rfl : (true : Bool) = true), fun b F4 H4 q4 g4 => ?_⟩
      subst q4
      rw [if_pos rfl]
      exact ⟨F4, _, Ex, _, g4.sub, bsl.grow g4, ex.step (((g1.trans g2).trans g3).trans g4).hh, hge, fun y v F5 H5 q5 g5 r5 => q5.elim⟩
  · have e : i = ds.length := by omega
    refine .inl ⟨jstop (by omega), fin _ Dl ys F2 H2 (qd (by omega) es (by rw [e, List.take_length] at rl2; exact rl2)) (g1.trans g2) f2 (g1.hh.free hD) l2 r2⟩
theorem comp_weakX (ub : UB X.K g u tn.length) : ∀ σ H Q, DTF X.K E (gCompX gi fv u ge) σ H Q → tCompT (DTI X.K E gi) fv tn.length g (DTT X.K E gYes) (DTE X.K E ge) σ H Q :=
  fun σ H Q ⟨F, env, Ex, Qd, s, sl, ex, q, fin⟩ => ⟨F, env, Ex, _, s, sl, ex, q, fun ds J F1 H1 q1 g1 jr => fun Dl hD => by
    obtain ⟨hlen, R, n, hf, hx, qd⟩ := q1
    exact comp_stepX ub sl ex fin hlen R n hf hx qd g1 jr hD⟩
theorem df_compX (b : Body X E) (hc : X.calm = true) (hi : DI X E target iter gi) (S : CompOkT X scope cl tn fn fv) (hg : ∀ C fp ps s3 H3, PG (compCxE X E scope cl (tn ++ fn) C fp ps s3 H3) target g) (ub : UB X.K g u tn.length)
    (he : ∀ C fp ps s3 H3, DE (compCxE X E scope cl (tn ++ fn) C fp ps s3 H3) E elt ge)
    (hs : ∀ y, foldedSetIterable iter X.env y = pure y := by intro _; rfl) : DF X E (.ListComp elt [⟨target, iter, [], 0⟩] scope pos) (gCompX gi fv u ge) := ⟨PE.weak (pe_compX (tt := DTT X.K E gYes) (te := DTE X.K E ge) b hc hi.h S hg (fun _ _ _ _ _ => DIfs.h difs_nil) (fun C fp ps s3 H3 => (he C fp ps s3 H3).h) hs) (comp_weakX ub)⟩
theorem ds_ownCX (b : Body X E) {i : Nat} {y : Str} {py spos : Pos} (hN : X.N.Nodup) (hj : X.N[i]? = some y) (hy : Loc X.env.scope y) (hc : X.calm = true) (hi : DI X E target iter gi) (S : CompOkT X scope cl tn fn fv)
    (hg : ∀ C fp ps s3 H3, PG (compCxE X E scope cl (tn ++ fn) C fp ps s3 H3) target g) (ub : UB X.K g u tn.length)
    (he : ∀ C fp ps s3 H3, DE (compCxE X E scope cl (tn ++ fn) C fp ps s3 H3) E elt ge)
    (hsw : swapsWith (.ListComp elt [⟨target, iter, [], 0⟩] scope pos) (some (.Name y py)) spos.line X.env = pure true := by rfl) (hs : ∀ y, foldedSetIterable iter X.env y = pure y := by intro _; rfl)
    (hf : X.fn y = true ∨ X.env.scope.names.lookup y = some .local := by first | exact .inl rfl | exact .inr rfl | assumption) :
    DSt X E (.Assign [.Name y py] (.ListComp elt [⟨target, iter, [], 0⟩] scope pos) spos) (gOwn i (gCompX gi fv u ge)) := ⟨fun F0 H0 s0 =>
  PS.weak (ps_setCX (tt := DTT X.K E gYes) (te := DTE X.K E ge) b hN hj hy hc hi.h S hg (fun _ _ _ _ _ => DIfs.h difs_nil) (fun C fp ps s3 H3 => (he C fp ps s3 H3).h) hsw hs hf) fun Dn σ H ⟨F, env, Ex, Dd, gr, sl, fr, ex, q, en⟩ => comp_weakX ub σ H _ ⟨F, env, Ex, _, gr.sub, sl, ex.step gr.hh, q, fun ds a xs F' H' p g' f1 n1 l1 r => own_in gr sl fr en p g' f1 n1 l1 r⟩⟩
end
end L2
namespace L2
open PySem PySem.Spec PyProof.Rows
def ordD (ns : List Int) : D := .lst (ns.map D.int)
def isOrdD (d : D) : Prop := ∃ ns, d = .lst (ns.map D.int) ∧ IsOrd ns
def okOrds (d : D) : Prop := ∃ os : List (List Int), d = .lst (os.map ordD) ∧ 1 ≤ os.length ∧ os.length ≤ 4 ∧ (∀ ns ∈ os, IsOrd ns) ∧ ∃ n, n ≤ 5 ∧ ∀ ns ∈ os, ns.length = n
def allNsc2 (d : D) : Bool := nsc d && match d with
  | .lst xs => xs.all allNsc
  | _ => true
def fChkOs (C : Addr) : DSp := fun ds Ex Q => ∃ d, ds = [d] ∧ allNsc2 d = true ∧ (okOrds d → Q d) ∧ (¬ okOrds d → Ex C)
def fLOrds : DSp := fun ds _ Q => ∃ ns, ds = [.scr ns] ∧ ns.length ≤ 63 ∧ ∀ (os : List (List Int)) (m : Nat), 1 ≤ m → m ≤ 5 → 1 ≤ os.length → os.length ≤ 4 → (∀ o ∈ os, o.Perm (uptoL m)) → Q (.lst (os.map ordD))
theorem first_not (P : D → Prop) : ∀ xs : List D, ∃ n, (∀ d ∈ xs.take n, P d) ∧ (∀ d, xs[n]? = some d → ¬ P d)
  | [] => ⟨0, ⟨fun d m => (by cases m), fun d e => (by cases e)⟩⟩
  | x :: xs => by
    by_cases h : P x
    · obtain ⟨n, h1, h2⟩ := first_not P xs
      refine ⟨n + 1, fun d m => ?_, fun d e => h2 d e⟩
      rw [List.take_succ_cons] at m
      rcases List.mem_cons.mp m with e | e
      · rw [e]; exact h
      · exact h1 d e
    · refine ⟨0, fun d m => ?_, fun d e => ?_⟩
      · cases m
      · cases e
        exact h
theorem ords_of : ∀ {xs : List D}, (∀ d ∈ xs, isOrdD d) → ∃ os : List (List Int), xs = os.map ordD ∧ ∀ ns ∈ os, IsOrd ns
  | [], _ => ⟨[], rfl, fun _ m => by cases m⟩
  | d :: xs, h => by
    obtain ⟨os, e, ho⟩ := ords_of fun x hx => h x (List.mem_cons_of_mem _ hx)
    obtain ⟨ns, rfl, o⟩ := h d List.mem_cons_self
    refine ⟨ns :: os, by rw [e]; rfl, fun ms m => ?_⟩
    rcases List.mem_cons.mp m with z | z
    · rw [z]; exact o
    · exact ho ms z
theorem perms_of {n : Nat} : ∀ {xs : List D}, (∀ y ∈ xs, ∃ os : List Int, os.Perm (uptoL n) ∧ y = ordD os) → ∃ os : List (List Int), xs = os.map ordD ∧ ∀ o ∈ os, o.Perm (uptoL n)
  | [], _ => ⟨[], rfl, fun _ m => by cases m⟩
  | d :: xs, h => by
    obtain ⟨os, e, ho⟩ := perms_of fun x hx => h x (List.mem_cons_of_mem _ hx)
    obtain ⟨ns, o, rfl⟩ := h d List.mem_cons_self
    refine ⟨ns :: os, by rw [e]; rfl, fun ms m => ?_⟩
    rcases List.mem_cons.mp m with z | z
    · rw [z]; exact o
    · exact ho ms z
theorem ordD_inj {a b : List Int} (h : ordD a = ordD b) : a = b := map_int_inj (D.lst.inj h)
theorem okOrds_all {xs : List D} (h : okOrds (.lst xs)) : ∀ d ∈ xs, isOrdD d := fun d m => by
  obtain ⟨os, e, _, _, ho, _⟩ := h
  rw [D.lst.inj e] at m
  obtain ⟨ns, hn, rfl⟩ := List.mem_map.mp m
  exact ⟨ns, rfl, ho ns hn⟩
theorem okOrds_len {xs : List D} (h : okOrds (.lst xs)) {a b : List Int} (ha : ordD a ∈ xs) (hb : ordD b ∈ xs) : a.length = b.length ∧ a.length ≤ 5 := by
  obtain ⟨os, e, _, _, _, n, hn, hl⟩ := h
  rw [D.lst.inj e] at ha hb
  obtain ⟨a', ha', ea⟩ := List.mem_map.mp ha
  obtain ⟨b', hb', eb⟩ := List.mem_map.mp hb
  rw [← ordD_inj ea, ← ordD_inj eb, hl a' ha', hl b' hb']
  exact ⟨rfl, hn⟩
theorem allNsc_ord (ns : List Int) : allNsc (ordD ns) = true := by
  show (true && (ns.map D.int).all nsc) = true
  rw [Bool.true_and, List.all_eq_true]
  intro x hx
  obtain ⟨n, _, rfl⟩ := List.mem_map.mp hx
  rfl
end L2
namespace L2
open PySem PySem.Spec PyProof.Rows
def tDispT (tk tv : TE) : TE := fun σ H Q => ∀ p, H p = none → tk σ (upd H p (.dT [])) fun x H1 => tv σ H1 fun y H2 => H2 p = some (.dT []) ∧ ∃ b key, x = .ref b ∧ H2 b = some (.tup (key.map kV)) ∧ Q (.ref p) (upd H2 p (.dT [(key, y)]))
theorem pe_dispT {X : Cx} {pos : Pos} {k v : Expr} {tk tv : TE} (hu : X.A.units + 1 < cLine) (hk : PE X k tk) (hv : PE X v tv) : PE X (.Dict [some k] [v] pos) (tDispT tk tv) := by
  intro pins s σ H Q I q
  have hn := I.hok.fresh (Nat.le_refl s.heap.objs.size)
  have I1 := I.laid (a := s.heap.objs.size) (o := .dT []) (h' := s.heap.push { cls := .type "dict", data := .dict #[] }) (t' := s.toks) (fun _ _ q => Heap.get?_push_of_some _ q) (Nat.le_refl _) (dt_empty s.heap I.big)
  have hsh := zip_pairTrees [some k] [v] X.env pos rfl rfl
  rw [arm_eval_Dict, hsh, dictDisplay_pairs _ (by intro z; cases z) (by rw [pairTrees_length _ _ _ _ rfl rfl]; show 1 < 17; decide)]
  refine wpAny_bind (wpAny_standAt (wpAny_bind ?_))
  unfold subDict
  refine wpAny_bind (wpAny_alloc ?_)
  refine wpAny_bind (wpAny_holding ?_)
  rw [if_pos (by rw [pairTrees_length _ _ _ _ rfl rfl]; show 1 ≤ 15; decide)]
  refine wpAny_bind (thn ((pps_cons (pos := pos) hk hv pps_nil) pins _ σ _ (fun ps H' => match ps with
    | [(x, y)] => H' s.heap.objs.size = some (.dT []) ∧ ∃ b key, x = .ref b ∧ H' b = some (.tup (key.map kV)) ∧ Q (.ref s.heap.objs.size) (upd H' s.heap.objs.size (.dT [(key, y)]))
    | _ => False) I1 (q _ hn)) fun ws s2 ⟨ps, H2, I2, rel, q2⟩ => ?_)
  split at q2
  · rename_i x y
    obtain ⟨e2, b, key, e3, eb, q2⟩ := q2
    subst e3
    cases rel with
    | @cons p0 w0 ps0 ws0 r0 rr =>
      cases rr
      obtain ⟨w1, w2⟩ := w0
      obtain ⟨rx, ry⟩ := r0
      have rx : w1 = Value.ref b := rx
      subst rx
      have ry : RelV y w2 := ry
      obtain ⟨z, hd, xs, rl, dd⟩ := dt_of I2.hok e2
      cases rl
      refine wpAny_holding (wpAny_bind ?_)
      rw [List.forIn_cons]
      refine wpAny_bind (wpAny_bind (wpAny_dictSet_heap (knd := tupleKind (mixKind X.prog X.w)) (by show X.A.units < cLine; omega) (key_of I2.hok eb) dd (fun h' dd' hs => wpAny_pure ?_) (Nat.zero_le _)))
      dsimp only
      rw [List.forIn_nil]
      refine wpAny_pure (wpAny_pure (wpAny_pure (wpAny_pure ⟨.ref s.heap.objs.size, _, ?_, rfl, q2⟩)))
      obtain ⟨q0, es, ep, hq, h2, h3, h4, _, h5⟩ := dd'
      exact d_write I2 (by rw [e2]; exact True.intro) hs ⟨q0, hq⟩ ⟨by show 1 ≤ sizeLine; rw [sizeLine_eq]; decide, hd, _, ((KT.put (kvs := []) (xs := []) .nil key eb ry)).keeps (fun c ys ec => by
        rw [upd_ne (ne_of ec e2 (fun z => nomatch z))]
        exact ec), q0, es, ep, hq, h2, h3, h4, h5⟩
  · exact q2.elim
end L2
namespace L2
open PySem PySem.Spec PyProof.Rows
def valT (ks : List (List Int)) (ds : List D) (n : List Int) : Option D := match ks, ds with
  | k :: ks, d :: ds => if k = n then some d else valT ks ds n
  | _, _ => none
def kys (n : List Int) : List Key := n.map Sum.inl
theorem kys_inj : ∀ {a b : List Int}, kys a = kys b → a = b
  | [], [], _ => rfl
  | [], _ :: _, h => by cases h
  | _ :: _, [], h => by cases h
  | x :: a, y :: b, h => by
    have h1 := (List.cons.inj h).1
    have h2 := (List.cons.inj h).2
    rw [Sum.inl.inj h1, kys_inj (a := a) (b := b) h2]
theorem kys_kV (n : List Int) : (kys n).map kV = n.map V.int := by
  unfold kys
  rw [List.map_map]
  rfl
theorem key_at {K : PySem.W.Frag} {F H : Hp} {n : List Int} {v : V} (s : Same F H) (r : Rep K F (.tup (n.map D.int)) v) : ∃ b, v = .ref b ∧ H b = some (.tup ((kys n).map kV)) := by
  obtain ⟨b, xs, rfl, hF, rs⟩ := r
  cases Reps.ints_eq rs
  exact ⟨b, rfl, by rw [kys_kV]; exact s _ _ hF⟩
section
variable {K : PySem.W.Frag} {F : Hp}
theorem tv_get {n : List Int} {d : D} : ∀ {ks : List (List Int)} {ds : List D} {kvs : List (List Key × V)}, kvs.map (·.1) = ks.map (·.map Sum.inl) → Reps K F ds (kvs.map (·.2)) → valT ks ds n = some d → ∃ v, valV kvs (kys n) = some v ∧ Rep K F d v
  | [], _, _, _, _, h => by unfold valT at h; cases h
  | _ :: _, [], _, _, _, h => by unfold valT at h; cases h
  | k :: ks, c :: ds, [], e, _, _ => by cases e
  | k :: ks, c :: ds, (j, v) :: kvs, e, ⟨x, r, e2, h1, h2⟩, h => by
    rw [List.map_cons, List.map_cons] at e
    rw [List.map_cons] at e2
    have e1 : j = kys k := (List.cons.inj e).1
    have e3 : v = x := (List.cons.inj e2).1
    have e4 := (List.cons.inj e2).2
    subst e1 e3 e4
    unfold valT at h
    by_cases hk : k = n
    · rw [if_pos hk] at h
      cases h
      exact ⟨v, valV_pos (by rw [hk]), h1⟩
    · rw [if_neg hk] at h
      obtain ⟨u, h3, h4⟩ := tv_get (kvs := kvs) (List.cons.inj e).2 h2 h
      exact ⟨u, by rw [valV_neg (fun z => hk (kys_inj z))]; exact h3, h4⟩
theorem tv_some {n : List Int} : ∀ {ks : List (List Int)} {kvs : List (List Key × V)}, kvs.map (·.1) = ks.map (·.map Sum.inl) → (valV kvs (kys n)).isSome = decide (n ∈ ks)
  | [], [], _ => by simp [valV]
  | [], _ :: _, h => by cases h
  | _ :: _, [], h => by cases h
  | k :: ks, (j, v) :: kvs, e => by
    rw [List.map_cons, List.map_cons] at e
    have e1 : j = kys k := (List.cons.inj e).1
    subst e1
    by_cases hk : k = n
    · rw [valV_pos (show (kys k, v).1 = kys n by rw [hk])]
      rw [hk]
      simp
    · rw [valV_neg (fun z => hk (kys_inj z)), tv_some (List.cons.inj e).2]
      simp [Ne.symm hk]
theorem tv_put {n : List Int} {v : V} {ks : List (List Int)} {kvs : List (List Key × V)} (e : kvs.map (·.1) = ks.map (·.map Sum.inl)) (h : n ∉ ks) : putK kvs (kys n) v = kvs ++ [(kys n, v)] := by
  have z := tv_some (n := n) e
  rw [decide_eq_false h, ← valV_any] at z
  unfold putK
  rw [if_neg (by rw [z]; exact Bool.false_ne_true)]
theorem tv_len {ks : List (List Int)} {kvs : List (List Key × V)} (e : kvs.map (·.1) = ks.map (·.map Sum.inl)) : kvs.length = ks.length := by
  have := congrArg List.length e
  rwa [List.length_map, List.length_map] at this
end
section
variable {X : Cx} {E : XK} {pos p : Pos} {a b c e : Expr} {ga gb : GE} {rest : List Stmt} {t : GS}
def gTLit (i : Nat) (gk gv : GE) : GS := fun Dd Ex env => gk env Ex fun k => ∃ n : List Int, k = .tup (n.map D.int) ∧ gv env Ex fun d => Dd.nx (env.set i (.dct [n] [d]))
theorem ds_tlit {i : Nat} {x : Str} {pos' dpos : Pos} (hu : X.A.units + 64 < cLine) (hN : X.N.Nodup) (hi : X.N[i]? = some x) (hx : Loc X.env.scope x) (hk : DE X E a ga) (hv : DE X E b gb)
    (hs : swapsWith (.Dict [some a] [b] dpos) (some (.Name x pos')) pos.line X.env = pure false := by rfl) (hf : X.fn x = true ∨ X.env.scope.names.lookup x = some .local := by first | exact .inl rfl | exact .inr rfl | assumption) :
    DSt X E (.Assign [.Name x pos'] (.Dict [some a] [b] dpos) pos) (gTLit i ga gb) := ⟨fun F0 H0 s0 =>
  PS.weak (ps_set (i := i) hN hi hx (pe_dispT (by omega) hk.h hv.h) hs hf) fun Dn σ H ⟨F, env, Ex, Dd, gr, sl, fr, ex, q, en⟩ => fun l hn => by
  have kp := Grow.keep (o := .dT []) gr.sub hn
  have fl := gr.sub.free hn
  refine ⟨F, env, Ex, _, kp.sub, sl.grow kp, (ex.step gr.hh).step kp.hh, q, fun k vk F1 H1 q1 g1 r1 => ?_⟩
  obtain ⟨n, rfl, q1⟩ := q1
  refine ⟨F1, env, Ex, _, g1.sub, (sl.grow kp).grow g1, ((ex.step gr.hh).step kp.hh).step g1.hh, q1, fun d v F2 H2 q2 g2 r2 => ?_⟩
  have gg := g1.trans g2
  have l2 : H2 l = some (.dT []) := gg.hh _ _ upd_same
  have f2 : F2 l = none := gg.off fl upd_same
  obtain ⟨bb, rfl, hb⟩ := key_at g2.sub (Rep.mono g2.ff _ r1)
  have h0l := gr.hh.free hn
  have sl2 := (sl.grow kp).grow gg
  have ap := sl.old hn
  refine ⟨l2, bb, kys n, rfl, hb, ?_⟩
  have sl3 := sl2.beside (o := .dT [(kys n, v)]) ap (fun xs y => by rw [l2] at y; cases y)
  exact en.nx _ _ F2 _ q2 (((gr.trans kp).trans gg).mut f2 h0l) (sl3.set ⟨l, _, rfl, f2, upd_same, rfl, Reps.cons r2 Reps.nil⟩ fun _ j t c _ e o hj z => by cases z; exact ap j t l e o hj rfl) (fr.set sl.len fun _ c z => by cases z; exact h0l)⟩
def gTPut (i : Nat) (ge gk : GE) : GS := fun Dd Ex env => match env[i]? with
  | some (.dct ks ds) => ge env Ex fun d => gk env Ex fun k => ∃ n : List Int, k = .tup (n.map D.int) ∧ n ∉ ks ∧ ks.length < sizeLine ∧ Dd.nx (env.set i (.dct (ks ++ [n]) (ds ++ [d])))
  | _ => False
theorem ds_tput {i : Nat} {x : Str} {np tp : Pos} (hu : X.A.units + 64 < cLine) (hN : X.N[i]? = some x) (hv : Vis X.env.scope x) (he : DE X E e ga) (hk : DE X E b gb) (hd : (x == ("__debug__" : Str)) = false := by decide) (hcd : (x == ("__classdict__" : Str)) = false := by decide)
    (hs : swapsWith e (some (.Subscript (.Name x np) b tp)) pos.line X.env = pure false := by rfl) : DSt X E (.Assign [.Subscript (.Name x np) b tp] e pos) (gTPut i ga gb) := ⟨fun F0 H0 s0 =>
  PS.weak (ps_dput (by omega) (pe_var hN hv hd hcd) hk.h he.h hs) fun Dn σ H ⟨F, env, Ex, Dd, gr, sl, fr, ex, q, en⟩ => by
    unfold gTPut at q
    split at q
    · rename_i ks ds e0
      refine ⟨F, env, Ex, _, gr.sub, sl, ex.step gr.hh, q, fun d v F1 H1 q1 g1 r1 => ?_⟩
      obtain ⟨l, xs, e1, f, hl, r⟩ := (sl.grow g1).ok i _ e0
      refine ⟨.ref l, join_some e1, F1, env, Ex, _, g1.sub, sl.grow g1, (ex.step gr.hh).step g1.hh, q1, fun k vk F2 H2 q2 g2 r2 => ?_⟩
      obtain ⟨n, rfl, hnk, hz, q2⟩ := q2
      obtain ⟨bb, rfl, hb⟩ := key_at g2.sub r2
      have sl2 := (sl.grow g1).grow g2
      obtain ⟨l2, xs2, e2, f2, hl2, rk, rr2⟩ := sl2.ok i _ e0
      rw [e1] at e2
      cases e2
      have h0 := fr i _ l e0 rfl e1
      refine ⟨l, _, rfl, DPut.t hl2 hb (by rw [tv_len rk]; exact hz), ?_⟩
      rw [tv_put rk hnk]
      exact en.nx _ σ F2 _ q2 (((gr.trans g1).trans g2).mut f2 h0) (sl2.mut e0 rfl rfl e1 ⟨l, _, rfl, f2, upd_same, by rw [List.map_append, List.map_append, rk]; rfl, by rw [List.map_append]; exact rr2.append (Reps.cons (Rep.mono g2.ff _ r1) Reps.nil)⟩) (fr.mut e0 rfl)
    · exact q.elim⟩
def gTIn (neg : Bool) (i : Nat) (gk : GE) : GT := fun env Ex Q => match env[i]? with
  | some (.dct ks _) => gk env Ex fun k => ∃ n : List Int, k = .tup (n.map D.int) ∧ Q (if neg then !decide (n ∈ ks) else decide (n ∈ ks))
  | _ => False
theorem dt_tnotin {i : Nat} {x : Str} {np : Pos} (hu : X.A.units + 64 < cLine) (hN : X.N[i]? = some x) (hv : Vis X.env.scope x) (hk : DE X E b gb) (hd : (x == ("__debug__" : Str)) = false := by decide) (hcd : (x == ("__classdict__" : Str)) = false := by decide) (hm : behindInMarks .NotIn (.Name x np) = false := by rfl) :
    DT X E (.Compare b [.NotIn] [.Name x np] pos) (gTIn true i gb) := ⟨PT.weak (pt_cmp (pc_dnotin (by omega) hk.h (pe_var hN hv hd hcd)) hm) fun σ H Q ⟨F, env, Ex, Qd, s, sl, ex, q, fin⟩ => by
    unfold gTIn at q
    split at q
    · rename_i ks ds e0
      refine ⟨F, env, Ex, _, s, sl, ex, q, fun k vk F2 H2 q2 g2 r2 => ?_⟩
      obtain ⟨n, rfl, q2⟩ := q2
      obtain ⟨bb, rfl, hb⟩ := key_at g2.sub r2
      obtain ⟨l, xs, e1, f, hl, rk, r⟩ := (sl.grow g2).ok i _ e0
      refine ⟨.ref l, join_some e1, l, _, rfl, DGet.t hl hb, _, rfl, ?_⟩
      rw [tv_some rk]
      exact fin _ F2 H2 q2 g2
    · exact q.elim⟩
def gTAt (i : Nat) (gk : GE) : GE := fun env Ex Q => match env[i]? with
  | some (.dct ks ds) => gk env Ex fun k => ∃ (n : List Int) (d : D), k = .tup (n.map D.int) ∧ valT ks ds n = some d ∧ Q d
  | _ => False
theorem de_tat {i : Nat} {x : Str} {np : Pos} (hu : X.A.units + 64 < cLine) (hN : X.N[i]? = some x) (hv : Vis X.env.scope x) (hk : DE X E b gb) (hd : (x == ("__debug__" : Str)) = false := by decide) (hcd : (x == ("__classdict__" : Str)) = false := by decide) (hs : NoSl b := by exact fun _ _ => rfl) :
    DE X E (.Subscript (.Name x np) b pos) (gTAt i gb) := ⟨PE.weak (pe_dget (by omega) (pe_var hN hv hd hcd) hk.h hs) fun σ H Q ⟨F, env, Ex, Qd, s, sl, ex, q, fin⟩ => by
    unfold gTAt at q
    split at q
    · rename_i ks ds e0
      obtain ⟨l, kvs, e1, f, hl, rk, r⟩ := sl.ok i _ e0
      refine ⟨.ref l, join_some e1, F, env, Ex, _, s, sl, ex, q, fun k vk F2 H2 q2 g2 r2 => ?_⟩
      obtain ⟨n, d, rfl, hd, p⟩ := q2
      obtain ⟨bb, rfl, hb⟩ := key_at g2.sub r2
      obtain ⟨v, hv, rv⟩ := tv_get rk r hd
      exact ⟨l, v, rfl, hv ▸ DGet.t (g2.hh _ _ hl) hb, fin d v F2 H2 p g2 (Rep.mono g2.ff _ rv)⟩
    · exact q.elim⟩
end
end L2
namespace L2
open PySem PySem.Spec PyProof.Rows
section
variable {X : Cx} {E : XK} {pos p : Pos} {a b c e o : Expr} {ga gb : GE} {rest : List Stmt} {t : GS}
def gSetPop (i j : Nat) (g : GE) : GS := fun Dd Ex env => match env[j]? with
  | some (.own es) => g env Ex fun k => match k with
    | .int n => ∃ (m : Nat) (d : D), n = ((m : Nat) : Int) ∧ m < 2 ^ 60 ∧ es[m]? = some d ∧ Dd.nx ((env.set j (.own (es.eraseIdx m))).set i (.sh d))
    | _ => False
  | _ => False
theorem ds_setPop {i j : Nat} {x y : Str} {pos' cpos np2 apos2 : Pos} (hN : X.N.Nodup) (hi : X.N[i]? = some x) (hx : Loc X.env.scope x) (hN2 : X.N[j]? = some y) (hv2 : Vis X.env.scope y) (he : DE X E e ga) (hd2 : (y == ("__debug__" : Str)) = false := by decide) (hcd2 : (y == ("__classdict__" : Str)) = false := by decide)
    (hs0 : starEach [e] X.env = [(false, eval e X.env)] := by rfl)
    (hfew0 : ((backTo cpos (starEach [e] X.env)).all (fun x => !x.1) && (backToKw cpos (keywordEach [] X.env)).all (fun x => x.1.isSome)
      && decide ([e].length + ([] : List Keyword).length + (if ([] : List Keyword).isEmpty then 0 else 1) < 30)) = true := by rfl)
    (hbase0 : attributeBase (.Name y np2) "pop" X.env (eval (.Name y np2) X.env) = eval (.Name y np2) X.env := by rfl) (hline0 : (apos2.endLine == cpos.line) = true := by rfl)
    (hs : swapsWith (.Call (.Attribute (.Name y np2) "pop" apos2) [e] [] cpos) (some (.Name x pos')) pos.line X.env = pure false := by rfl) (hf : X.fn x = true ∨ X.env.scope.names.lookup x = some .local := by first | exact .inl rfl | exact .inr rfl | assumption) :
    DSt X E (.Assign [.Name x pos'] (.Call (.Attribute (.Name y np2) "pop" apos2) [e] [] cpos) pos) (gSetPop i j ga) := ⟨fun F0 H0 s0 =>
  PS.weak (ps_set (i := i) hN hi hx (pe_bm PySem.F.plainAttrs_list PySem.F.slot_list_pop PySem.F.type_list_pop mt_popAt (pe_var hN2 hv2 hd2 hcd2) (pa_cons he.h pa_nil hs0) hbase0 hfew0 hline0 hs0 rfl) hs hf) fun Dn σ H ⟨F, env, Ex, Dd, gr, sl, fr, ex, q, en⟩ => by
    unfold gSetPop at q
    split at q
    · rename_i es ej
      obtain ⟨m, ys, e1', f', hl', r'⟩ := sl.ok j _ ej
      refine ⟨.ref m, join_some e1', .inl ⟨rfl, ys, SqL.of hl'⟩, F, env, Ex, _, gr.sub, sl, ex.step gr.hh, q, fun d v F' H' p g' rv => ?_⟩
      cases d with
      | int n =>
        obtain ⟨k, d, rfl, hk, hd, p⟩ := p
        cases (show v = _ from rv)
        have sl' := sl.grow g'
        obtain ⟨m2, ys2, e2', f2', hl2', r2'⟩ := sl'.ok j _ ej
        rw [e1'] at e2'
        cases e2'
        have h0' := fr j _ m ej rfl e1'
        obtain ⟨y, hy, ry⟩ := r2'.get hd
        have lt : k < ys2.length := (List.getElem?_eq_some_iff.mp hy).1
        have sl2 := sl'.mut (s' := .own (es.eraseIdx k)) ej rfl rfl e1' ⟨m, _, rfl, f2', upd_same, r2'.eraseIdx k⟩
        have fr2 : Fresh H0 σ (env.set j (.own (es.eraseIdx k))) := fr.mut ej rfl
        refine ⟨m, ys2, (k : Nat), k, y, rfl, rfl, hl2', by omega, by omega, seqIx_nat lt, hy, ?_⟩
        exact en.nx _ _ F' _ p ((gr.trans g').mut f2' h0') (sl2.setSh ry) (fr2.set (by rw [List.length_set, sl.len]) fun z => nomatch z)
      | _ => exact (show False from p).elim
    · exact q.elim⟩
def gFreezeT (i : Nat) (g : GS) : GS := fun Dd Ex env => match env[i]? with
  | some (.dct ks ds) => g Dd Ex (env.set i (.sh (.dtt ks ds)))
  | _ => False
theorem dss_freezeT (i : Nat) (h : DSs X E rest t) : DSs X E rest (gFreezeT i t) := ⟨fun F0 H0 s0 => PSs.weak (h.h F0 H0 s0) fun Dn σ H ⟨F, env, Ex, Dd, gr, sl, fr, ex, q, en⟩ => by
  unfold gFreezeT at q
  split at q
  · rename_i ks ds e
    obtain ⟨a, xs, e1, f, l, rk, r⟩ := sl.ok i _ e
    have ff : Same F (upd F a (.dT xs)) := fun b o z => by rw [upd_ne (ne_of_none z f)]; exact z
    have h0 : H0 a = none := fr i _ a e rfl e1
    have gr' : Grow F0 H0 (upd F a (.dT xs)) H := by
      refine ⟨gr.hh, gr.ff.trans ff, fun b o z => ?_, fun b z n => ?_⟩
      · by_cases hb : b = a
        · subst hb; rw [upd_same] at z; rw [l, ← z]
        · rw [upd_ne hb] at z; exact gr.sub _ _ z
      · by_cases hb : b = a
        · rw [hb]; exact .inl h0
        · rw [upd_ne hb] at n; exact gr.new b z n
    have sl1 : Slots X.K (upd F a (.dT xs)) H σ (env.set i (.sh (.dtt ks ds))) := by
      refine ⟨by rw [List.length_set, sl.len], fun j t' q' => ?_, fun j k s1 t1 b z1 z2 o1 o2 h1 h2 => ?_⟩
      · by_cases hj : j = i
        · subst hj
          rw [List.getElem?_set_self (List.getElem?_eq_some_iff.mp e).1] at q'
          cases q'
          rw [e1]
          exact ⟨.ref a, rfl, a, xs, rfl, upd_same, rk, Reps.mono ff _ r⟩
        · rw [List.getElem?_set_ne (Ne.symm hj)] at q'
          have z := sl.ok j t' q'
          exact z.frz f fun ot b hb hba => hj (sl.apart j i t' _ a q' e ot rfl (hba ▸ hb) e1)
      · have back : ∀ {j : Nat} {t' : DS}, (env.set i (.sh (.dtt ks ds)))[j]? = some t' → isOwn t' = true → env[j]? = some t' := fun {j t'} q' ot => by
          by_cases hj : j = i
          · subst hj
            rw [List.getElem?_set_self (List.getElem?_eq_some_iff.mp e).1] at q'
            cases q'
            cases ot
          · rwa [List.getElem?_set_ne (Ne.symm hj)] at q'
        exact sl.apart j k s1 t1 b (back z1 o1) (back z2 o2) o1 o2 h1 h2
    have fr1 : Fresh H0 σ (env.set i (.sh (.dtt ks ds))) := fun j t' b q' ot hb => by
      by_cases hj : j = i
      · subst hj
        rw [List.getElem?_set_self (List.getElem?_eq_some_iff.mp e).1] at q'
        cases q'
        cases ot
      · rw [List.getElem?_set_ne (Ne.symm hj)] at q'
        exact fr j t' b q' ot hb
    exact ⟨upd F a (.dT xs), _, Ex, Dd, gr', sl1, fr1, ex, q, en⟩
  · exact q.elim⟩
theorem tv_none {n : List Int} : ∀ {ks : List (List Int)} {ds : List D}, ds.length = ks.length → valT ks ds n = none → n ∉ ks
  | [], _, _, _ => by simp
  | _ :: _, [], h, _ => by cases h
  | k :: ks, d :: ds, h, e => by
    unfold valT at e
    by_cases hk : k = n
    · rw [if_pos hk] at e; cases e
    · rw [if_neg hk] at e
      intro m
      rcases List.mem_cons.mp m with z | z
      · exact hk z.symm
      · exact tv_none (by simpa using h) e z
def gGetT (go gk : GE) : GE := fun env Ex Q => go env Ex fun x => match x with
  | .dtt ks ds => gk env Ex fun k => ∃ n : List Int, k = .tup (n.map D.int) ∧ Q ((valT ks ds n).getD .non)
  | _ => False
theorem de_getT {apos cpos : Pos} (hu : X.A.units + 64 < cLine) (ho : DE X E o ga) (hk : DE X E e gb) (m : M1 X o "get" apos e cpos := by exact ⟨rfl, rfl, rfl, rfl⟩) : DE X E (.Call (.Attribute o "get" apos) [e] [] cpos) (gGetT ga gb) := ⟨
  PE.weak (pe_dget1 (by omega) ho.h hk.h m) fun σ H Q ⟨F, env, Ex, Qd, s, sl, ex, q, fin⟩ => ⟨F, env, Ex, _, s, sl, ex, q, fun d v F1 H1 q1 g1 r1 => by
    cases d with
    | dtt ks ds =>
      obtain ⟨l, kvs, rfl, hF, rk, r⟩ := r1
      refine ⟨l, rfl, .inr ⟨kvs, .inl (g1.sub _ _ hF)⟩, F1, env, Ex, _, g1.sub, sl.grow g1, ex.step g1.hh, q1, fun k vk F2 H2 q2 g2 r2 => ?_⟩
      obtain ⟨n, rfl, q2⟩ := q2
      obtain ⟨bb, rfl, hb⟩ := key_at g2.sub r2
      have hl2 : H2 l = some (.dT kvs) := g2.sub _ _ (g2.ff _ _ hF)
      refine ⟨_, DGet.t hl2 hb, ?_⟩
      cases hvt : valT ks ds n with
      | some d =>
        obtain ⟨v, hv, rv⟩ := tv_get rk r hvt
        rw [hvt] at q2
        rw [hv]
        exact fin d v F2 H2 q2 (g1.trans g2) (Rep.mono g2.ff _ rv)
      | none =>
        rw [hvt] at q2
        have hl : ds.length = ks.length := by
          have := r.length
          rw [List.length_map, tv_len rk] at this
          omega
        have z := tv_some (n := n) rk
        rw [decide_eq_false (tv_none hl hvt)] at z
        rw [Option.isSome_eq_false_iff, Option.isNone_iff_eq_none] at z
        rw [z]
        exact fin .non .non F2 H2 q2 (g1.trans g2) rfl
    | _ => exact (show False from q1).elim⟩⟩
end
end L2
namespace L2
open PySem PySem.Spec PyProof.Rows
def RawD (h : Heap) (d : Addr) (es : Array DictEntry) (ep : Nat) : Prop := ∃ o, h.get? d = some o ∧ o.ExactDict ∧ o.data = .dict es ep
theorem RawD.at {h h' : Heap} {d : Addr} {es : Array DictEntry} {ep : Nat} (x : RawD h d es ep) (k : ∀ o, h.get? d = some o → h'.get? d = some o) : RawD h' d es ep := let ⟨o, ho, r⟩ := x; ⟨o, k o ho, r⟩
section
variable {prog : Program} {w : World} {A : Around} {E : Value → Shared → Prop} {s : Shared} {d it : Addr} {es : Array DictEntry} {i ep : Nat}
theorem RawD.typeIs (x : RawD s.heap d es ep) : s.TypeIs (.ref d) "dict" := let ⟨o, ho, hc, _⟩ := x; ⟨o, ho, hc.1⟩
theorem raw_iter {Q : Value → Shared → Prop} (hd : (d == sysModules) = false) (hm : RawD s.heap d es ep)
    (hQ : Q (.ref s.heap.objs.size) { s with heap := s.heap.push { cls := .type "dict_keyiterator", data := .fields #[.ref d, .int 0 0, .int es.size 0, .int ep 0] } }) : wpAny (model prog w) A (pyIter (.ref d)) Q E s := by
  obtain ⟨o, ho, hc, hdat⟩ := id hm
  have hT : s.TypeIs (.ref d) "dict" := hm.typeIs
  refine wpAny_pyIter_slot hT PySem.F.slot_dict_iter (wpAny_call_entry PySem.F.slot_dict_iter hT PySem.F.entry_dict_iter ?_ (PySem.F.args_dict_iter_1 _))
  unfold Builtin.«dict.__iter__»
  refine wpAny_bind ?_
  unfold Builtin.Dict.dictSlotNone
  refine wpAny_bind (wpAny_notOrdered_dict hT ?_)
  show wpAny _ _ (pure (Value.ref d)) _ _ s
  refine wpAny_pure ?_
  show wpAny _ _ (Builtin.Dict.showsAll d >>= _) _ _ s
  unfold Builtin.Dict.showsAll
  rw [if_neg (by rw [hd]; exact Bool.false_ne_true)]
  refine wpAny_bind (wpAny_pure ?_)
  refine wpAny_bind (wpAny_dictEntries ho hdat ?_)
  refine wpAny_bind (wpAny_dictEpoch ho hdat ?_)
  refine wpAny_bind (wpAny_newObj_type (wpAny_pure ⟨_, rfl, "dict_keyiterator", _, ⟨_, Heap.get?_push_size _ rfl, rfl⟩, PySem.F.slot_dict_keyiterator_next.lookup, ?_⟩))
  simpa [rawInt] using hQ
theorem raw_item {x : DictEntry} {Q : Option Value → Shared → Prop} (hit : s.heap.IsKeyIter it d i es.size ep) (hm : RawD s.heap d es ep) (hx : es[i]? = some x)
    (hQ : ∀ h', h'.IsKeyIter it d (i + 1) es.size ep → Heap.SameBut it s.heap h' → Q (some x.key) { s with heap := h' }) : wpAny (model prog w) A (pyNext (.ref it)) Q E s := by
  obtain ⟨o, ho, hc, hd⟩ := id hit
  obtain ⟨od, hod, hcd, hdd⟩ := id hm
  unfold pyNext
  refine wpAny_bind (wpAny_attempt (wpAny_callSpecial?_slot (name := Str.ofString "__next__") hit.typeIs PySem.F.slot_dict_keyiterator_next
    (wpAny_call_entry PySem.F.slot_dict_keyiterator_next hit.typeIs PySem.F.entry_dict_keyiterator_next ?_ (PySem.F.args_dict_keyiterator_next_1 _))))
  refine wpAny_bind (wpAny_pure ?_)
  refine wpAny_bind ?_
  refine wpAny_bind ?_
  first | refine wpAny_bind (wpAny_typeNameOfWhole_keyiter hit.typeIs (wpAny_pure ?_)) | refine wpAny_bind (wpAny_typeNameOf_keyiter hit.typeIs (wpAny_pure ?_))
  refine wpAny_bind (wpAny_fieldsOf ho hd ?_)
  have hown : Builtin.Dict_items.ownsTuple "dict_keyiterator" = false := by decide
  simp only [hown, Bool.false_eq_true, if_false]
  show wpAny _ _ (if (Value.ref d == Value.none) = true then _ else _) _ _ s
  rw [if_neg (show ¬ ((Value.ref d == Value.none) = true) from Bool.false_ne_true)]
  refine wpAny_bind (wpAny_pure ?_)
  refine wpAny_bind (wpAny_dictEntries hod hdd ?_)
  rw [if_neg (by simp)]
  refine wpAny_bind (wpAny_pure ?_)
  refine wpAny_bind (wpAny_dictEpoch hod hdd ?_)
  rw [if_neg (by simp)]
  refine wpAny_pure ?_
  simp only [show ¬ ((i : Int) < 0) from by omega, if_false, Int.toNat_natCast, hx]
  refine wpAny_bind ?_
  first | refine wpAny_bind (wpAny_typeNameOfWhole_keyiter hit.typeIs (wpAny_pure ?_)) | refine wpAny_bind (wpAny_typeNameOf_keyiter hit.typeIs (wpAny_pure ?_))
  refine wpAny_bind (wpAny_isOneOf_keyiter hit.typeIs ?_)
  show wpAny _ _ (setField (.ref it) 1 (rawInt ((i : Int) + 1)) >>= _) _ _ s
  refine wpAny_bind (wpAny_setField ho hd (by simp) ?_)
  have hit' : (s.heap.update it (Obj.mapFields (·.setIfInBounds 1 (rawInt ((i : Int) + 1))))).IsKeyIter it d (i + 1) es.size ep :=
    ⟨_, Heap.get?_update_self _ ho (Obj.isFreed_of_fields (Obj.data_mapFields hd _)), (Obj.cls_mapFields ..).trans hc, by rw [Obj.data_mapFields hd]; simp [rawInt]⟩
  refine wpAny_bind (wpAny_holding ?_)
  refine wpAny_bind (wpAny_isOneOf_keyiter (s := { s with heap := s.heap.update it (Obj.mapFields (·.setIfInBounds 1 (rawInt ((i : Int) + 1)))) }) hit'.typeIs ?_)
  show wpAny _ _ (pure x.key) _ _ _
  exact wpAny_pure (wpAny_pure ⟨_, rfl, wpAny_pure (hQ _ hit' (Heap.SameBut.update ..))⟩)
theorem raw_end {Q : Option Value → Shared → Prop} (hh : A.handled = none) (hit : s.heap.IsKeyIter it d i es.size ep) (hm : RawD s.heap d es ep) (hx : es.size ≤ i)
    (hQ : ∀ h', Heap.ExtBut it s.heap h' → Q none { s with heap := h' }) : wpAny (model prog w) A (pyNext (.ref it)) Q E s := by
  obtain ⟨o, ho, hc, hd⟩ := id hit
  obtain ⟨od, hod, hcd, hdd⟩ := id hm
  unfold pyNext
  refine wpAny_bind (wpAny_attempt (wpAny_callSpecial?_slot (name := Str.ofString "__next__") hit.typeIs PySem.F.slot_dict_keyiterator_next
    (wpAny_call_entry PySem.F.slot_dict_keyiterator_next hit.typeIs PySem.F.entry_dict_keyiterator_next ?_ (PySem.F.args_dict_keyiterator_next_1 _))))
  refine wpAny_bind (wpAny_pure ?_)
  refine wpAny_bind ?_
  refine wpAny_bind ?_
  first | refine wpAny_bind (wpAny_typeNameOfWhole_keyiter hit.typeIs (wpAny_pure ?_)) | refine wpAny_bind (wpAny_typeNameOf_keyiter hit.typeIs (wpAny_pure ?_))
  refine wpAny_bind (wpAny_fieldsOf ho hd ?_)
  have hown : Builtin.Dict_items.ownsTuple "dict_keyiterator" = false := by decide
  simp only [hown, Bool.false_eq_true, if_false]
  show wpAny _ _ (if (Value.ref d == Value.none) = true then _ else _) _ _ s
  rw [if_neg (show ¬ ((Value.ref d == Value.none) = true) from Bool.false_ne_true)]
  refine wpAny_bind (wpAny_pure ?_)
  refine wpAny_bind (wpAny_dictEntries hod hdd ?_)
  rw [if_neg (by simp)]
  refine wpAny_bind (wpAny_pure ?_)
  refine wpAny_bind (wpAny_dictEpoch hod hdd ?_)
  rw [if_neg (by simp)]
  refine wpAny_pure ?_
  simp only [show ¬ ((i : Int) < 0) from by omega, if_false, Int.toNat_natCast, Array.getElem?_eq_none hx]
  refine wpAny_bind ?_
  first | refine wpAny_bind (wpAny_typeNameOfWhole_keyiter hit.typeIs (wpAny_pure ?_)) | refine wpAny_bind (wpAny_typeNameOf_keyiter hit.typeIs (wpAny_pure ?_))
  show wpAny _ _ (setField (.ref it) 0 .none >>= _) _ _ s
  refine wpAny_bind (wpAny_setField ho hd (by simp) ?_)
  show wpAny _ _ (newExc (.type "StopIteration") [] >>= _) _ _ _
  refine wpAny_bind ?_
  simp only [newExc, newTuple]
  refine wpAny_bind (wpAny_newObj_type ?_ (by size_fits))
  refine wpAny_bind (m := firstArgMember _ _) (wpAny_of_eq (a := Value.none) (by first | rfl | (simp only [firstArgMember]; rfl)) ?_)
  refine wpAny_newObj_type ?_ (by size_fits)
  simp only [raiseNew]
  refine wpAny_bind (wpAny_handled ?_)
  rw [show A.in1.handled = none from hh]
  refine wpAny_bind (wpAny_pure (wpAny_throw ?_))
  refine wpAny_bind (wpAny_isInstance (T := "StopIteration") (b := true) ⟨_, Heap.get?_push_size _ rfl, rfl⟩ isSubtype_stop ?_)
  exact wpAny_pure (hQ _ (((Heap.SameBut.update ..).extBut.push _).push _))
theorem raw_src (lo : (d == sysModules) = false) (es : Array DictEntry) (ep : Nat) : PySem.W.KdlSrc prog w "dict" d d es.size (fun i v => ∃ x, es[i]? = some x ∧ v = x.key) (fun h => RawD h d es ep) where
  type := fun _ hm => hm.typeIs
  there := fun _ hm => let ⟨_, ho, _⟩ := hm; ⟨Heap.lt_size ho, Heap.lt_size ho⟩
  keep := fun _ _ hm hk => hm.at fun o e => hk d (.inl rfl) o e
  notList := by decide
  notTuple := by decide
  hint := fun _ _ _ _ hm hq => PySem.W.kdl_hint_dict hm.typeIs hq
  iter := fun A s hh hm => ⟨{ cls := .type "dict_keyiterator", data := .fields #[.ref d, .int 0 0, .int es.size 0, .int ep 0] }, (fun i h => h.IsKeyIter s.heap.objs.size d i es.size ep ∧ RawD h d es ep), (fun _ _ hq => raw_iter lo hm hq), (by
    have hne : d ≠ s.heap.objs.size := by
      obtain ⟨_, ho, _⟩ := hm
      exact Nat.ne_of_lt (Heap.lt_size ho)
    exact {
      sub := fun b hb => by simp at hb; simp [hb]
      frame := fun _ _ _ st hk => ⟨st.1.at fun o e => hk _ (by simp) o e, st.2.at fun o e => hk d (by simp) o e⟩
      item := fun i s Q E hi st hQ => by
        obtain ⟨x, hx⟩ : ∃ p, es[i]? = some p := ⟨es[i], by simp [hi]⟩
        refine raw_item st.1 st.2 hx fun h' hit' hs' => ?_
        exact hQ x.key h' s.toks ⟨x, hx, rfl⟩ ⟨hit', st.2.at fun o e => hs'.extBut d o hne e⟩ fun b o hb e => hs'.extBut b o (fun h => hb (by simp [h])) e
      done := fun s Q E st hQ => raw_end hh st.1 st.2 (Nat.le_refl _) fun h' he' => hQ h' s.toks fun b o hb e => he' b o (fun h => hb (by simp [h])) e
      self := fun _ _ _ _ st hQ => wpAny_pyIter_keyiter st.1 hQ }), ⟨⟨_, Heap.get?_push_size _ rfl, rfl, rfl⟩, hm.at fun o e => Heap.get?_push_of_some _ e⟩⟩
end
theorem vals_perm {α : Type} {f : α → V} {l l' : List Value} (hp : l.Perm l') : ∀ {zs : List α}, Vals (zs.map f) l' → ∃ ys : List α, Vals (ys.map f) l ∧ ys.Perm zs := by
  induction hp with
  | nil => intro ms hm; exact ⟨ms, hm, .refl _⟩
  | cons x _ ih =>
    intro ms hm
    cases ms with
    | nil => cases hm
    | cons m ms =>
      rw [List.map_cons] at hm
      cases hm with
      | cons r0 rr =>
        obtain ⟨os, h1, h2⟩ := ih rr
        exact ⟨m :: os, .cons r0 h1, h2.cons _⟩
  | swap x y l =>
    intro ms hm
    cases ms with
    | nil => cases hm
    | cons m ms =>
      rw [List.map_cons] at hm
      cases hm with
      | cons r0 rr =>
        cases ms with
        | nil => cases rr
        | cons m' ms =>
          rw [List.map_cons] at rr
          cases rr with
          | cons r1 rr => exact ⟨m' :: m :: ms, .cons r1 (.cons r0 rr), .swap _ _ _⟩
  | trans _ _ ih1 ih2 =>
    intro ms hm
    obtain ⟨os, h1, h2⟩ := ih2 hm
    obtain ⟨os', h3, h4⟩ := ih1 h1
    exact ⟨os', h3, h4.trans h2⟩
theorem kt_list {H : Hp} : ∀ {kvs : List (List Key × V)} {xs : List (List Key × Addr × Value)} {ns : List (List Int)}, KT H kvs xs → kvs.map (·.1) = ns.map (·.map Sum.inl) →
    ∃ zs : List (List Int × V), zs.map (·.1) = ns ∧ zs.map (·.2) = xs.map (fun x => V.ref x.2.1) ∧ ∀ z ∈ zs, ∃ b, z.2 = .ref b ∧ H b = some (.tup (z.1.map V.int))
  | [], _, [], .nil, _ => ⟨[], rfl, rfl, fun _ m => by cases m⟩
  | [], _, _ :: _, _, e => by cases e
  | _ :: _, _, [], _, e => by cases e
  | p :: kvs, _, n :: ns, r, e => by
    rw [List.map_cons, List.map_cons] at e
    cases r with
    | @cons p q ps qs hq t =>
      obtain ⟨zs, h1, h2, h3⟩ := kt_list t (List.cons.inj e).2
      have e1 : p.1 = n.map Sum.inl := (List.cons.inj e).1
      refine ⟨(n, .ref q.2.1) :: zs, by rw [List.map_cons, h1], by rw [List.map_cons, List.map_cons, h2], fun z m => ?_⟩
      rcases List.mem_cons.mp m with y | y
      · subst y
        refine ⟨_, rfl, ?_⟩
        have w := hq.2.1
        rw [e1, List.map_map] at w
        exact w
      · exact h3 z y
section
variable {X : Cx}
end
end L2
namespace L2
open PySem PySem.Spec PyProof.Rows
theorem keys_in {K : PySem.W.Frag} {F' : Hp} : ∀ (zs : List (List Int × V)), (∀ z ∈ zs, ∃ b, z.2 = .ref b ∧ F' b = some (.tup (z.1.map V.int))) → Reps K F' ((zs.map (·.1)).map fun m => .tup (m.map D.int)) (zs.map (·.2))
  | [], _ => Reps.nil
  | z :: zs, h => by
    obtain ⟨b, e, hb⟩ := h z List.mem_cons_self
    refine Reps.cons ?_ (keys_in zs fun y hy => h y (List.mem_cons_of_mem _ hy))
    show Rep K F' (.tup (z.1.map D.int)) z.2
    rw [e]
    exact ⟨b, _, rfl, hb, Reps.ints _⟩
section
variable {X : Cx} {E : XK} {pos p : Pos} {e : Expr}
end
end L2
namespace HT
open PySem PyProof.Rows
def lexLe : List Int → List Int → Bool
  | [], _ => true
  | _ :: _, [] => false
  | a :: as, c :: cs => if a = c then lexLe as cs else decide (a ≤ c)
theorem lexLe_nil (ms : List Int) : lexLe [] ms = true := by unfold lexLe; rfl
theorem lexLe_cons_nil (a : Int) (as : List Int) : lexLe (a :: as) [] = false := rfl
theorem lexLe_cons (a c : Int) (as cs : List Int) : lexLe (a :: as) (c :: cs) = if a = c then lexLe as cs else decide (a ≤ c) := rfl
theorem rcLe_int (A : Around) (s : Shared) (a : Int) (t : Tok) (c : Int) (u : Tok) (prog : Program) (w : World) (E : Value → Shared → Prop) (Q : Value → Shared → Prop) (h : Q (.bool (decide (a ≤ c))) s) :
    wpAny (model prog w) A (richCompare .LtE (.int a t) (.int c u)) Q E s :=
  (PyProof.Rows.le_int h : wpAny (model prog w) A (compareOp .LtE (.int a t) (.int c u)) Q E s)
section
open PySem.SeqAt
open PySem.AutoSeq1 (wpAny_loadPart')
open PySem.MeetsSeq PySem.MeetsSeq2 PySem.MeetsSeq3
theorem le_loopAt (l b : Addr) (items items2 : Array Value) (n n2 : Nat) (dd dd2 : Option Addr) (sl sl2 : Array (Option Value)) (ns ms : List Int) (hi : IntsAre items.toList ns) (hj : IntsAre items2.toList ms) (k : Nat) :
    ∀ i : Nat, i ≤ items.size → i ≤ items2.size → items.size - i = k → Meets (Builtin.«list.__eq__.loop» ⟨[.ref l, .ref b, rawInt i, rawInt 1], []⟩)
      (fun A R s => s.heap.get? l = some { cls := .type "list", dict := dd, data := .seq items n, slots := sl } ∧ s.heap.get? b = some { cls := .type "list", dict := dd2, data := .seq items2 n2, slots := sl2 } ∧
        R (.ok (.ret (.bool (lexLe (ns.drop i) (ms.drop i))))) s) := by
  have z1 : items.size = ns.length := by rw [← hi.length]; simp
  have z2 : items2.size = ms.length := by rw [← hj.length]; simp
  induction k with
  | zero =>
    intro i hle hle2 hk prog w A R s h
    obtain ⟨hp, g, d, tk, os⟩ := s; obtain ⟨hl, hb, h⟩ := h
    wp_walk using wpAny_loadPart' hl, wpAny_loadPart' hb
    have hi1 : items[((i : Nat) : Int).toNat]? = none := by simp; omega
    have hd : ns.drop i = [] := by simp; omega
    rw [hd] at h
    rw [hi1]
    wp_walk using wpAny_loadPart' hl, wpAny_loadPart' hb
    show R (.ok (.ret (.bool (decide (items.size ≤ items2.size))))) _
    have e : lexLe [] (ms.drop i) = decide (items.size ≤ items2.size) := by
      cases hq : ms.drop i with
      | nil =>
        have : ms.length ≤ i := by simpa using hq
        rw [lexLe_nil]
        exact (decide_eq_true (by omega)).symm
      | cons y t =>
        have : i < ms.length := by
          have := congrArg List.length hq
          simp at this
          omega
        rw [lexLe_nil]
        exact (decide_eq_true (by omega)).symm
    rw [← e]
    exact h
  | succ k ih =>
    intro i hle hle2 hk prog w A R s h
    obtain ⟨hp, g, d, tk, os⟩ := s; obtain ⟨hl, hb, h⟩ := h
    wp_walk using wpAny_loadPart' hl, wpAny_loadPart' hb
    have hlt : i < items.size := by omega
    obtain ⟨a, t, ea, da⟩ := ints_at hi (i := i) (by simpa using hlt)
    have hi1 : items[((i : Nat) : Int).toNat]? = some (.int a t) := by rw [Int.toNat_natCast, ← Array.getElem?_toList]; exact ea
    have hc : ((i : Int) + 1) = ((i + 1 : Nat) : Int) := by push_cast; rfl
    rw [hi1]
    by_cases hlt2 : i < items2.size
    · obtain ⟨c, u, eb, db⟩ := ints_at hj (i := i) (by simpa using hlt2)
      have hi2 : items2[((i : Nat) : Int).toNat]? = some (.int c u) := by rw [Int.toNat_natCast, ← Array.getElem?_toList]; exact eb
      rw [hi2]
      rw [da, db, lexLe_cons] at h
      obtain ⟨e, he, hiff⟩ := eqAt_int A.in1 ⟨hp, g, d, tk, os⟩ a t c u
      refine wpAny_bind (he prog w _ _ ?_)
      cases e with
      | true =>
        rw [if_pos (hiff.mp rfl)] at h
        wp_walk
        rw [hc]
        exact ⟨plainId_quiet plain_eq_loop _, codeAny_builtin entry_eq_loop (by
          rw [Around.under_plainId plain_eq_loop _]
          exact ih (i + 1) (by omega) (by omega) (by omega) prog w A R _ ⟨hl, hb, h⟩)⟩
      | false =>
        rw [if_neg (fun q => absurd (hiff.mpr q) Bool.false_ne_true)] at h
        have hri := rcLe_int A.in1 ⟨hp, g, d, tk, os⟩ a t c u prog w
        wp_walk using wpAny_loadPart' hl, wpAny_loadPart' hb
        rw [hi1, hi2]
        wp_walk using hri
        exact h
    · have hi2 : items2[((i : Nat) : Int).toNat]? = none := by simp; omega
      have db : ms.drop i = [] := by simp; omega
      rw [hi2]
      rw [da, db, lexLe_cons_nil] at h
      wp_walk using wpAny_loadPart' hl, wpAny_loadPart' hb
      show R (.ok (.ret (.bool (decide (items.size ≤ items2.size))))) _
      rw [decide_eq_false (by omega)]
      exact h
theorem list_le_ints (l b : Addr) (items items2 : Array Value) (n n2 : Nat) (dd dd2 : Option Addr) (sl sl2 : Array (Option Value)) (ns ms : List Int) (hi : IntsAre items.toList ns) (hj : IntsAre items2.toList ms) :
    Meets (Builtin.«list.__le__» ⟨[.ref l, .ref b], []⟩)
      (fun A R s => s.heap.get? l = some { cls := .type "list", dict := dd, data := .seq items n, slots := sl } ∧ s.heap.get? b = some { cls := .type "list", dict := dd2, data := .seq items2 n2, slots := sl2 } ∧
        R (.ok (.ret (.bool (lexLe ns ms)))) s) := by
  intro prog w A R s h
  obtain ⟨hp, g, d, tk, os⟩ := s; obtain ⟨hl, hb, h⟩ := h
  have f3 := AutoSeq1.sub_list_list
  wp_walk using wpAny_loadPart' hl, wpAny_loadPart' hb
  exact ⟨plainId_quiet plain_eq_loop _, codeAny_builtin entry_eq_loop (by
    rw [Around.under_plainId plain_eq_loop _]
    exact le_loopAt l b items items2 n n2 dd dd2 sl sl2 ns ms hi hj _ 0 (Nat.zero_le _) (Nat.zero_le _) rfl prog w A R _ ⟨hl, hb, by simpa using h⟩)⟩
end
end HT
namespace L2
open PySem PySem.Spec PyProof.Rows
section
variable {X : Cx}
def rLeL : R2 := fun x y H Q => ∃ a b, ∃ ns ms : List Int, x = .ref a ∧ y = .ref b ∧ H a = some (.lst (ns.map V.int)) ∧ H b = some (.lst (ms.map V.int)) ∧ Q (.bl (HT.lexLe ns ms)) H
theorem op_leL (hu : X.A.units < cLine) : OpR X (compareOp .LtE) rLeL := by
  intro pins s σ H x y v u Q I rx ry h
  obtain ⟨a, b, ns, ms, rfl, rfl, h1, h2, q⟩ := h
  cases rx
  cases ry
  obtain ⟨z, its, n, r, hl, e⟩ := I.lstM h1
  obtain ⟨z2, its2, n2, r2, hl2, e2⟩ := I.lstM h2
  have i1 := intsAre_of r
  have i2 := intsAre_of r2
  exact richCompare_meets_room (op := .LtE) ⟨_, e, rfl⟩ ⟨_, e2, rfl⟩ PySem.F.slot_list_le PySem.F.entry_list_le (PySem.F.args_list_le_2 _ _) (HT.list_le_ints a b its.toArray its2.toArray n n2 none none #[] #[] ns ms i1 i2)
    ⟨e, e2, show Value.bool (HT.lexLe ns ms) ≠ Value.notImplemented ∧ _ from ⟨(fun x => nomatch x), ⟨.bl (HT.lexLe ns ms), H, I, rfl, q⟩⟩⟩ hu
end
end L2
namespace L2
open PySem PySem.Spec PyProof.Rows
def RowsAt (H : Hp) : List V → List (List Int) → Prop
  | [], [] => True
  | v :: vs, m :: ms => (∃ b, v = .ref b ∧ H b = some (.lst (m.map V.int))) ∧ RowsAt H vs ms
  | _, _ => False
def rInL (neg : Bool) : R2 := fun x y H Q => ∃ a l, ∃ n : List Int, ∃ xs, ∃ ms : List (List Int), x = .ref a ∧ y = .ref l ∧ H a = some (.lst (n.map V.int)) ∧ H l = some (.lst xs) ∧ RowsAt H xs ms ∧ Q (.bl (if neg then !decide (n ∈ ms) else decide (n ∈ ms))) H
def rowE (H : Hp) (n : List Int) : Value → Bool
  | .ref b => match H b with
    | some (.lst ys) => decide (ys = n.map V.int)
    | _ => false
  | _ => false
theorem map_V_inj : ∀ {ns ms : List Int}, ns.map V.int = ms.map V.int → ns = ms
  | [], [], _ => rfl
  | [], _ :: _, h => by cases h
  | _ :: _, [], h => by cases h
  | n :: ns, m :: ms, h => by
    rw [List.map_cons, List.map_cons] at h
    rw [V.int.inj (List.cons.inj h).1, map_V_inj (List.cons.inj h).2]
theorem rowE_at {H : Hp} {n m : List Int} {b : Addr} (h : H b = some (.lst (m.map V.int))) : rowE H n (.ref b) = decide (m = n) := by
  unfold rowE
  simp only [h]
  rw [Bool.eq_iff_iff, decide_eq_true_iff, decide_eq_true_iff]
  exact ⟨map_V_inj, fun e => by rw [e]⟩
theorem any_rows {H : Hp} {n : List Int} : ∀ {xs : List V} {ms : List (List Int)} {its : List Value}, RowsAt H xs ms → Vals xs its → its.any (rowE H n) = decide (n ∈ ms)
  | [], [], _, _, .nil => by simp
  | [], _ :: _, _, h, _ => h.elim
  | _ :: _, [], _, h, _ => h.elim
  | _ :: xs, m :: ms, _, ⟨⟨b, e, hb⟩, hr⟩, .cons (b := u) r t => by
    subst e
    have r : u = Value.ref b := r
    subst r
    rw [List.any_cons, rowE_at hb, any_rows hr t]
    by_cases h : m = n
    · simp [h]
    · simp [h, Ne.symm h]
theorem rows_mem {H : Hp} : ∀ {xs : List V} {ms : List (List Int)} {its : List Value}, RowsAt H xs ms → Vals xs its → ∀ u ∈ its, ∃ (b : Addr) (m : List Int), u = Value.ref b ∧ H b = some (.lst (m.map V.int))
  | [], [], _, _, .nil => fun u m => by cases m
  | [], _ :: _, _, h, _ => h.elim
  | _ :: _, [], _, h, _ => h.elim
  | _ :: xs, m :: ms, _, ⟨⟨b, e, hb⟩, hr⟩, .cons (b := u) r t => fun w hw => by
    subst e
    rcases List.mem_cons.mp hw with z | z
    · exact ⟨b, m, by rw [z]; exact r, hb⟩
    · exact rows_mem hr t w z
section
variable {X : Cx} {E : XK} {pos : Pos} {a b : Expr} {ga gb : GE}
theorem rows_eq {H : Hp} {m n : List Int} {b a : Addr} {A : Around} (hu : A.units + 1 < cLine) (hb : H b = some (.lst (m.map V.int))) (ha : H a = some (.lst (n.map V.int))) : EqV X A H (.ref b) (.ref a) (decide (m = n)) := by
  have z := eqV_D (X := X) (F := H) (H := H) (Same.refl _) 1 A (.lst (m.map D.int)) (.lst (n.map D.int)) (.ref b) (.ref a) (by show hiDs _ + 1 ≤ 1; rw [hiDs_ints]; omega) hu (okDs_ints m) (okDs_ints n) (by
    show ((_ != _) || cmpDs _ _) = true
    rw [cmpDs_ints, Bool.or_true]) ⟨b, _, rfl, hb, Reps.ints m⟩ ⟨a, _, rfl, ha, Reps.ints n⟩
  rw [show eqD (.lst (m.map D.int)) (.lst (n.map D.int)) = eqDs (m.map D.int) (n.map D.int) from rfl, eqDs_ints] at z
  exact z
theorem op_notInL (hu : X.A.units + 2 < cLine) : OpR X (compareOp .NotIn) (rInL true) := by
  intro pins s σ H x y v u Q I rx ry h
  obtain ⟨c, l, n, xs, ms, rfl, rfl, hc, hl, hr, q⟩ := h
  cases rx
  cases ry
  obtain ⟨its, r, pl, hz⟩ := I.list (SqL.of hl)
  refine SeqAt.notIn_listAt (rowE H n) pl.isList (fun w hw => ?_) ⟨.bl _, H, I, rfl, ?_⟩
  · obtain ⟨b, m, rfl, hb⟩ := rows_mem hr r w (by simpa using hw)
    rw [rowE_at hb]
    exact rows_eq (A := X.A.in1) (by show X.A.units + 1 + 1 < cLine; omega) hb hc pins σ s _ _ I rfl rfl
  · rw [show its.toArray.any (rowE H n) = its.any (rowE H n) by simp, any_rows hr r]
    exact q
def hInL (neg : Bool) (x y : D) (Q : D → Prop) : Prop := ∃ n : List Int, ∃ ms : List (List Int), x = .lst (n.map D.int) ∧ y = .lst (ms.map fun m => .lst (m.map D.int)) ∧ Q (.bl (if neg then !decide (n ∈ ms) else decide (n ∈ ms)))
theorem rows_of {K : PySem.W.Frag} {F H : Hp} (s : Same F H) : ∀ {ms : List (List Int)} {xs : List V}, Reps K F (ms.map fun m => .lst (m.map D.int)) xs → RowsAt H xs ms
  | [], _, h => by rw [show _ = [] from h]; trivial
  | m :: ms, _, ⟨x, r, e, ⟨b, ys, e2, hF, rs⟩, t⟩ => by
    rw [e]
    cases Reps.ints_eq rs
    exact ⟨⟨b, e2, s _ _ hF⟩, rows_of s t⟩
theorem od_inL {K : PySem.W.Frag} (neg : Bool) : OpD K (rInL neg) (hInL neg) := fun F H x y dx dy Qd Q s rx ry h fin => by
  obtain ⟨n, ms, rfl, rfl, q⟩ := h
  obtain ⟨c, xs, rfl, hF, r⟩ := rx
  obtain ⟨l, ys, rfl, hG, r'⟩ := ry
  cases Reps.ints_eq r
  exact ⟨c, l, n, ys, ms, rfl, rfl, s _ _ hF, s _ _ hG, rows_of s r', fin.now s q rfl⟩
theorem dt_notInL (hu : X.A.units + 64 < cLine) (ha : DE X E a ga) (hb : DE X E b gb) (hm : behindInMarks .NotIn b = false := by rfl) : DT X E (.Compare a [.NotIn] [b] pos) (gTest (gOp (hInL true) ga gb)) := dt_cmp (op_notInL (by omega)) (od_inL true) ha hb hm
def hLeL (a b : D) (Q : D → Prop) : Prop := ∃ ns ms : List Int, a = .lst (ns.map D.int) ∧ b = .lst (ms.map D.int) ∧ Q (.bl (HT.lexLe ns ms))
theorem od_leL {K : PySem.W.Frag} : OpD K rLeL hLeL := fun F H x y dx dy Qd Q s rx ry h fin => by
  obtain ⟨ns, ms, rfl, rfl, q⟩ := h
  obtain ⟨l, xs, rfl, hF, r⟩ := rx
  obtain ⟨m, ys, rfl, hG, r'⟩ := ry
  cases Reps.ints_eq r
  cases Reps.ints_eq r'
  exact ⟨l, m, ns, ms, rfl, rfl, s _ _ hF, s _ _ hG, fin.now s q rfl⟩
theorem dt_leL (hu : X.A.units + 64 < cLine) (ha : DE X E a ga) (hb : DE X E b gb) : DT X E (.Compare a [.LtE] [b] pos) (gTest (gOp hLeL ga gb)) := dt_cmp (op_leL (by omega)) od_leL ha hb (nomark _)
end
end L2
namespace L2
open PySem PySem.Spec PyProof.Rows
theorem lexLe_refl : ∀ u : List Int, HT.lexLe u u = true
  | [] => rfl
  | a :: u => by rw [HT.lexLe_cons, if_pos rfl]; exact lexLe_refl u
theorem lexLe_trans : ∀ {u v w : List Int}, HT.lexLe u v = true → HT.lexLe v w = true → HT.lexLe u w = true
  | [], _, _, _, _ => HT.lexLe_nil _
  | a :: u, [], _, h, _ => by rw [HT.lexLe_cons_nil] at h; cases h
  | a :: u, b :: v, [], _, h => by rw [HT.lexLe_cons_nil] at h; cases h
  | a :: u, b :: v, c :: w, h1, h2 => by
    rw [HT.lexLe_cons] at h1 h2 ⊢
    by_cases e1 : a = b
    · rw [if_pos e1] at h1
      subst e1
      by_cases e2 : a = c
      · rw [if_pos e2] at h2 ⊢
        exact lexLe_trans h1 h2
      · rw [if_neg e2] at h2 ⊢
        exact h2
    · rw [if_neg e1] at h1
      have h1 := of_decide_eq_true h1
      by_cases e2 : b = c
      · subst e2
        rw [if_neg e1]
        exact decide_eq_true h1
      · rw [if_neg e2] at h2
        have h2 := of_decide_eq_true h2
        rw [if_neg (by omega)]
        exact decide_eq_true (by omega)
theorem lexLe_snoc {x y : Int} : ∀ {u v : List Int}, u.length = v.length → HT.lexLe u v = true → (u = v → x ≤ y) → HT.lexLe (u ++ [x]) (v ++ [y]) = true
  | [], [], _, _, h => by
    show HT.lexLe [x] [y] = true
    rw [HT.lexLe_cons]
    split
    · rfl
    · exact decide_eq_true (h rfl)
  | [], _ :: _, e, _, _ => by simp at e
  | _ :: _, [], e, _, _ => by simp at e
  | a :: u, b :: v, e, h, hx => by
    show HT.lexLe (a :: (u ++ [x])) (b :: (v ++ [y])) = true
    rw [HT.lexLe_cons] at h ⊢
    by_cases e1 : a = b
    · rw [if_pos e1] at h ⊢
      exact lexLe_snoc (by simpa using e) h fun q => hx (by rw [e1, q])
    · rw [if_neg e1] at h ⊢
      exact h
def slLe (u v : List Int) : Prop := u.length < v.length ∨ (u.length = v.length ∧ HT.lexLe u v = true)
theorem slLe_refl (u : List Int) : slLe u u := .inr ⟨rfl, lexLe_refl u⟩
theorem slLe_trans {u v w : List Int} (h1 : slLe u v) (h2 : slLe v w) : slLe u w := by
  rcases h1 with h1 | ⟨e1, h1⟩
  · rcases h2 with h2 | ⟨e2, h2⟩
    · exact .inl (by omega)
    · exact .inl (by omega)
  · rcases h2 with h2 | ⟨e2, h2⟩
    · exact .inl (by omega)
    · exact .inr ⟨by omega, lexLe_trans h1 h2⟩
theorem slLe_snoc {u v : List Int} {x y : Int} (h : slLe u v) (hx : u = v → x ≤ y) : slLe (u ++ [x]) (v ++ [y]) := by
  rcases h with h | ⟨e, h⟩
  · exact .inl (by simp; exact h)
  · exact .inr ⟨by simp [e], lexLe_snoc e h hx⟩
def byW (os : List (List Int)) (m : Nat) (w : List Int) : List Int := w.foldl (fun row a => comp row (os.getD a.toNat [])) (uptoL m)
theorem byW_nil (os : List (List Int)) (m : Nat) : byW os m [] = uptoL m := rfl
theorem byW_snoc (os : List (List Int)) (m : Nat) (w : List Int) (a : Int) : byW os m (w ++ [a]) = comp (byW os m w) (os.getD a.toNat []) := by
  unfold byW
  rw [List.foldl_append]
  rfl
def okW (c : Nat) (w : List Int) : Prop := ∀ a ∈ w, 0 ≤ a ∧ a < (c : Nat)
structure Tab (os : List (List Int)) (m i a : Nat) (ks ws : List (List Int)) : Prop where
  len : ws.length = ks.length
  nd : ks.Nodup
  first : ks[0]? = some (uptoL m) ∧ ws[0]? = some []
  make : ∀ (j : Nat) k w, ks[j]? = some k → ws[j]? = some w → byW os m w = k ∧ okW os.length w
  rise : ∀ (j l : Nat) u v, j < l → ws[j]? = some u → ws[l]? = some v → slLe u v ∧ u ≠ v
  below : ∀ u v, u ∈ ws → ws[i]? = some v → slLe u (v ++ [((a : Nat) : Int)])
  clos : ∀ (j b : Nat) k w, (j < i ∨ (j = i ∧ b < a)) → b < os.length → ks[j]? = some k → ws[j]? = some w → ∃ (l : Nat) (v : List Int), ks[l]? = some (comp k (os.getD b [])) ∧ ws[l]? = some v ∧ slLe v (w ++ [((b : Nat) : Int)])
theorem Tab.start (os : List (List Int)) (m : Nat) : Tab os m 0 0 [uptoL m] [[]] := by
  refine ⟨rfl, by simp, ⟨rfl, rfl⟩, fun j k w e1 e2 => ?_, fun j l u v h e1 e2 => ?_, fun u v hu e => ?_, fun j b k w h => ?_⟩
  · cases j with
    | zero => cases e1; cases e2; exact ⟨rfl, fun a m => by cases m⟩
    | succ j => simp at e1
  · cases l with
    | zero => omega
    | succ l => simp at e2
  · cases e
    rw [List.mem_singleton.mp hu]
    exact .inl (by simp)
  · rcases h with h | ⟨_, h⟩ <;> omega
theorem Tab.known {os : List (List Int)} {m i a : Nat} {ks ws : List (List Int)} {k : List Int} (T : Tab os m i a ks ws) (hk : ks[i]? = some k) (h : comp k (os.getD a []) ∈ ks) : Tab os m i (a + 1) ks ws := by
  refine ⟨T.len, T.nd, T.first, T.make, T.rise, fun u v hu e => slLe_trans (T.below u v hu e) (slLe_snoc (slLe_refl v) fun _ => by omega), fun j b k' w hj hb e1 e2 => ?_⟩
  by_cases h1 : j < i ∨ (j = i ∧ b < a)
  · exact T.clos j b k' w h1 hb e1 e2
  · have ej : j = i := by omega
    have eb : b = a := by omega
    subst ej eb
    rw [hk] at e1
    cases e1
    obtain ⟨l, hl, e⟩ := List.getElem_of_mem h
    have hlw : l < ws.length := by rw [T.len]; exact hl
    exact ⟨l, ws[l], by rw [List.getElem?_eq_getElem hl, e], List.getElem?_eq_getElem hlw, T.below _ _ (List.getElem_mem hlw) e2⟩
theorem Tab.more {os : List (List Int)} {m i a : Nat} {ks ws : List (List Int)} {k w : List Int} (T : Tab os m i a ks ws) (ha : a < os.length) (hk : ks[i]? = some k) (hw : ws[i]? = some w) (h : comp k (os.getD a []) ∉ ks) :
    Tab os m i (a + 1) (ks ++ [comp k (os.getD a [])]) (ws ++ [w ++ [((a : Nat) : Int)]]) := by
  have hl := T.len
  have li : i < ws.length := (List.getElem?_eq_some_iff.mp hw).1
  obtain ⟨mk1, mk2⟩ := T.make i k w hk hw
  have mk : byW os m (w ++ [((a : Nat) : Int)]) = comp k (os.getD a []) := by rw [byW_snoc, mk1, Int.toNat_natCast]
  have nw : ∀ u ∈ ws, u ≠ w ++ [((a : Nat) : Int)] := fun u hu e => by
    obtain ⟨l, hl', rfl⟩ := List.getElem_of_mem hu
    have hlk : l < ks.length := by rw [← hl]; exact hl'
    have z := (T.make l ks[l] ws[l] (List.getElem?_eq_getElem hlk) (List.getElem?_eq_getElem hl')).1
    rw [e, mk] at z
    exact h (z ▸ List.getElem_mem hlk)
  have old : ∀ {xs : List (List Int)} {y : List Int} {j : Nat} {z : List Int}, (xs ++ [y])[j]? = some z → (j < xs.length ∧ xs[j]? = some z) ∨ (j = xs.length ∧ z = y) := fun {xs y j z} e => by
    by_cases hj : j < xs.length
    · rw [List.getElem?_append_left hj] at e
      exact .inl ⟨hj, e⟩
    · rw [List.getElem?_append_right (by omega)] at e
      have lt := (List.getElem?_eq_some_iff.mp e).1
      have ej : j = xs.length := by simp at lt; omega
      rw [ej, Nat.sub_self] at e
      cases e
      exact .inr ⟨ej, rfl⟩
  have keep : ∀ {xs : List (List Int)} {y : List Int} {j : Nat} {z : List Int}, xs[j]? = some z → (xs ++ [y])[j]? = some z := fun {xs y j z} e => by
    rw [List.getElem?_append_left (List.getElem?_eq_some_iff.mp e).1]
    exact e
  refine ⟨by simp [hl], ?_, ⟨keep T.first.1, keep T.first.2⟩, fun j k' w' e1 e2 => ?_, fun j l u v hjl e1 e2 => ?_, fun u v hu e => ?_, fun j b k' w' hj hb e1 e2 => ?_⟩
  · rw [List.nodup_append]
    refine ⟨T.nd, by simp, fun x hx y hy => ?_⟩
    rw [List.mem_singleton.mp hy]
    exact fun z => h (z ▸ hx)
  · rcases old e1 with ⟨l1, e1⟩ | ⟨l1, rfl⟩
    · rcases old e2 with ⟨l2, e2⟩ | ⟨l2, rfl⟩
      · exact T.make j k' w' e1 e2
      · omega
    · rcases old e2 with ⟨l2, e2⟩ | ⟨l2, rfl⟩
      · omega
      · refine ⟨mk, fun x hx => ?_⟩
        rcases List.mem_append.mp hx with z | z
        · exact mk2 x z
        · rw [List.mem_singleton.mp z]
          omega
  · rcases old e2 with ⟨l2, e2⟩ | ⟨l2, rfl⟩
    · rcases old e1 with ⟨l1, e1⟩ | ⟨l1, rfl⟩
      · exact T.rise j l u v hjl e1 e2
      · omega
    · rcases old e1 with ⟨l1, e1⟩ | ⟨l1, rfl⟩
      · exact ⟨T.below u w (List.mem_of_getElem? e1) hw, nw u (List.mem_of_getElem? e1)⟩
      · omega
  · have e : ws[i]? = some v := by
      rw [List.getElem?_append_left li] at e
      exact e
    rw [hw] at e
    cases e
    rcases List.mem_append.mp hu with z | z
    · exact slLe_trans (T.below u w z hw) (slLe_snoc (slLe_refl w) fun _ => by omega)
    · rw [List.mem_singleton.mp z]
      exact slLe_snoc (slLe_refl w) fun _ => by omega
  · have lj : j < ws.length := by omega
    have g1 : ks[j]? = some k' := by rw [List.getElem?_append_left (by omega)] at e1; exact e1
    have g2 : ws[j]? = some w' := by rw [List.getElem?_append_left lj] at e2; exact e2
    by_cases h1 : j < i ∨ (j = i ∧ b < a)
    · obtain ⟨l, v, f1, f2, f3⟩ := T.clos j b k' w' h1 hb g1 g2
      exact ⟨l, v, keep f1, keep f2, f3⟩
    · have ej : j = i := by omega
      have eb : b = a := by omega
      subst ej eb
      rw [hk] at g1
      cases g1
      rw [hw] at g2
      cases g2
      exact ⟨ks.length, _, by simp, by rw [← hl]; simp, slLe_refl _⟩
theorem Tab.next {os : List (List Int)} {m i : Nat} {ks ws : List (List Int)} (T : Tab os m i os.length ks ws) : Tab os m (i + 1) 0 ks ws := by
  refine ⟨T.len, T.nd, T.first, T.make, T.rise, fun u v hu e => ?_, fun j b k w hj hb e1 e2 => ?_⟩
  · have l1 := (List.getElem?_eq_some_iff.mp e).1
    have e0 : ws[i]? = some ws[i] := List.getElem?_eq_getElem (by omega)
    obtain ⟨r1, r2⟩ := T.rise i (i + 1) _ v (by omega) e0 e
    exact slLe_trans (T.below u _ hu e0) (slLe_snoc r1 fun z => absurd z r2)
  · exact T.clos j b k w (by omega) hb e1 e2
theorem Tab.whole {os : List (List Int)} {m : Nat} {ks ws : List (List Int)} (T : Tab os m ks.length 0 ks ws) : ∀ (n : Nat) (v : List Int), v.length = n → okW os.length v → ∃ (l : Nat) (u : List Int), ks[l]? = some (byW os m v) ∧ ws[l]? = some u ∧ slLe u v
  | 0, v, hv, _ => by
    have e : v = [] := List.length_eq_zero_iff.mp hv
    subst e
    exact ⟨0, [], T.first.1, T.first.2, slLe_refl _⟩
  | n + 1, v, hv, ok => by
    obtain ⟨v', x, rfl⟩ : ∃ v' x, v = v' ++ [x] := ⟨v.dropLast, v.getLast (by intro z; rw [z] at hv; cases hv), (List.dropLast_concat_getLast _).symm⟩
    have okx := ok x (List.mem_append_right _ List.mem_cons_self)
    obtain ⟨l, u, e1, e2, h⟩ := T.whole n v' (by simpa using hv) fun a m => ok a (List.mem_append_left _ m)
    have ll := (List.getElem?_eq_some_iff.mp e1).1
    obtain ⟨l', u', f1, f2, f3⟩ := T.clos l x.toNat _ u (.inl ll) (by omega) e1 e2
    rw [show ((x.toNat : Nat) : Int) = x by omega] at f3
    exact ⟨l', u', by rw [byW_snoc]; exact f1, f2, slLe_trans f3 (slLe_snoc h fun _ => Int.le_refl _)⟩
end L2
namespace L2
open PySem PySem.Spec PyProof.Rows
theorem nodup_le : ∀ (n : Nat) (l : List Nat), l.Nodup → (∀ x ∈ l, x < n) → l.length ≤ n
  | 0, l, _, h => by
    cases l with
    | nil => exact Nat.le_refl _
    | cons a l => exact absurd (h a List.mem_cons_self) (Nat.not_lt_zero _)
  | n + 1, l, nd, h => by
    have h1 := nodup_le n (l.erase n) (nd.erase n) fun x hx => by
      have h2 := h x (List.mem_of_mem_erase hx)
      have h3 : x ≠ n := fun z => by
        rw [z] at hx
        exact (List.Nodup.not_mem_erase nd) hx
      omega
    have h4 : l.length ≤ (l.erase n).length + 1 := by
      by_cases hm : n ∈ l
      · rw [List.length_erase_of_mem hm]; omega
      · rw [List.erase_of_not_mem hm]; omega
    omega
theorem few {ks : List (List Int)} {m : Nat} (nd : ks.Nodup) (hp : ∀ k ∈ ks, k.Perm (uptoL m)) : ks.length ≤ fac m := by
  have h1 : (ks.map rk).Nodup := by
    rw [List.nodup_iff_pairwise_ne, List.pairwise_map]
    refine List.Pairwise.imp_of_mem ?_ nd
    intro a b ha hb hab z
    exact hab (rk_inj ((hp a ha).trans (hp b hb).symm) z)
  have h2 := nodup_le (fac m) (ks.map rk) h1 fun x hx => by
    obtain ⟨k, hk, rfl⟩ := List.mem_map.mp hx
    have := rk_lt k
    rwa [(hp k hk).length_eq, uptoL_length] at this
  rwa [List.length_map] at h2
theorem fac5 {m : Nat} (h : m ≤ 5) : fac m ≤ 120 := by
  match m, h with
  | 0, _ => decide
  | 1, _ => decide
  | 2, _ => decide
  | 3, _ => decide
  | 4, _ => decide
  | 5, _ => decide
theorem valT_at {k : List Int} {d : D} : ∀ {ks : List (List Int)} {ds : List D} {i : Nat}, ks.Nodup → ks[i]? = some k → ds[i]? = some d → valT ks ds k = some d
  | [], _, i, _, e, _ => by simp at e
  | _ :: _, [], i, _, _, e => by simp at e
  | a :: ks, c :: ds, 0, _, e1, e2 => by
    cases Option.some.inj e1
    cases Option.some.inj e2
    unfold valT
    rw [if_pos rfl]
  | a :: ks, c :: ds, i + 1, nd, e1, e2 => by
    have e1 : ks[i]? = some k := e1
    have e2 : ds[i]? = some d := e2
    rw [List.nodup_cons] at nd
    unfold valT
    rw [if_neg (show ¬ a = k from fun z => nd.1 (by rw [z]; exact List.mem_of_getElem? e1))]
    exact valT_at nd.2 e1 e2
theorem truO_yes {i : Nat} {env : DEnv} {Ex : Exs} {Q : Bool → Prop} {d : D} {ds : List D} (e : env[i]? = some (.own (d :: ds))) (h : Q true) : gTruO i env Ex Q := by
  unfold gTruO
  rw [e]
  exact h
theorem truO_no {i : Nat} {env : DEnv} {Ex : Exs} {Q : Bool → Prop} (e : env[i]? = some (.own [])) (h : Q false) : gTruO i env Ex Q := by
  unfold gTruO
  rw [e]
  exact h
structure OkOs (os : List (List Int)) (m : Nat) : Prop where
  m1 : 1 ≤ m
  m5 : m ≤ 5
  c1 : 1 ≤ os.length
  c4 : os.length ≤ 4
  perm : ∀ o ∈ os, o.Perm (uptoL m)
def fLeav : DSp := fun ds _ Q => ∃ os m, ds = [.lst (os.map ordD)] ∧ OkOs os m ∧ Q (ordD (uptoL m))
def fWbo : DSp := fun ds _ Q => ∃ os m, ds = [.lst (os.map ordD)] ∧ OkOs os m ∧ ∀ ks ws, Tab os m ks.length 0 ks ws → (∀ k ∈ ks, k.Perm (uptoL m)) → Q (.dtt ks (ws.map ordD))
theorem OkOs.ok {os : List (List Int)} {m : Nat} (h : OkOs os m) : okOrds (.lst (os.map ordD)) := by
  have l : ∀ o ∈ os, o.length = m := fun o ho => by
    have := (h.perm o ho).length_eq
    rwa [uptoL_length] at this
  have m1 := h.m1
  have m5 := h.m5
  exact ⟨os, rfl, h.c1, h.c4, fun o ho => ⟨by rw [l o ho]; exact m1, by rw [l o ho]; omega, by rw [l o ho]; exact h.perm o ho⟩, m, m5, l⟩
theorem allNsc2_ords (os : List (List Int)) : allNsc2 (.lst (os.map ordD)) = true := by
  show (true && (os.map ordD).all allNsc) = true
  rw [Bool.true_and, List.all_eq_true]
  intro x hx
  obtain ⟨o, _, rfl⟩ := List.mem_map.mp hx
  exact allNsc_ord o
def fWord : DSp := fun ds _ Q => ∃ os m, ∃ g : List Int, ds = [.lst (os.map ordD), ordD g] ∧ OkOs os m ∧ IsOrd g ∧ ∀ ks ws, Tab os m ks.length 0 ks ws → (∀ k ∈ ks, k.Perm (uptoL m)) → Q ((valT ks (ws.map ordD) g).getD .non)
def fBy : DSp := fun ds _ Q => ∃ os m, ∃ w : List Int, ds = [.lst (os.map ordD), ordD w] ∧ OkOs os m ∧ okW os.length w ∧ w.length ≤ sizeLine ∧ Q (ordD (byW os m w))
end L2
namespace L2
open PySem PySem.Spec PyProof.Rows
theorem comp_one {m : Nat} {k : List Int} (h : k.Perm (uptoL m)) : comp k (uptoL m) = k := by
  unfold comp
  have : k.map (at0 (uptoL m)) = k.map id := List.map_congr_left fun x hx => by
    obtain ⟨h0, h1⟩ := mem_uptoL.mp (h.mem_iff.mp hx)
    unfold at0
    rw [List.getD_eq_getElem?_getD, uptoL_get (by omega)]
    show ((x.toNat : Nat) : Int) = x
    omega
  rw [this, List.map_id]
section
variable {os : List (List Int)} {m : Nat}
theorem byW_perm (ok : OkOs os m) : ∀ (n : Nat) (w : List Int), w.length = n → okW os.length w → (byW os m w).Perm (uptoL m)
  | 0, w, hw, _ => by
    have e : w = [] := List.length_eq_zero_iff.mp hw
    subst e
    exact List.Perm.refl _
  | n + 1, w, hw, h => by
    obtain ⟨v, x, rfl⟩ : ∃ v x, w = v ++ [x] := ⟨w.dropLast, w.getLast (by intro z; rw [z] at hw; cases hw), (List.dropLast_concat_getLast _).symm⟩
    have hx := h x (List.mem_append_right _ List.mem_cons_self)
    rw [byW_snoc]
    refine comp_perm (byW_perm ok n v (by simpa using hw) fun a ha => h a (List.mem_append_left _ ha)) (ok.perm _ ?_)
    rw [List.getD_eq_getElem?_getD, List.getElem?_eq_getElem (by omega)]
    exact List.getElem_mem _
theorem byW_append (ok : OkOs os m) {u : List Int} (hu : okW os.length u) : ∀ (n : Nat) (v : List Int), v.length = n → okW os.length v → byW os m (u ++ v) = comp (byW os m u) (byW os m v)
  | 0, v, hv, _ => by
    have e : v = [] := List.length_eq_zero_iff.mp hv
    subst e
    rw [List.append_nil, byW_nil, comp_one (byW_perm ok _ u rfl hu)]
  | n + 1, w, hw, h => by
    obtain ⟨v, x, rfl⟩ : ∃ v x, w = v ++ [x] := ⟨w.dropLast, w.getLast (by intro z; rw [z] at hw; cases hw), (List.dropLast_concat_getLast _).symm⟩
    have hv : okW os.length v := fun a ha => h a (List.mem_append_left _ ha)
    rw [← List.append_assoc, byW_snoc, byW_snoc, byW_append ok hu n v (by simpa using hw) hv, comp_comp (byW_perm ok _ u rfl hu) (byW_perm ok _ v rfl hv)]
theorem nodup_sub {l n : List (List Int)} : ∀ (_ : l.Nodup) (_ : ∀ x ∈ l, x ∈ n), l.length ≤ n.length := by
  induction l generalizing n with
  | nil => intro _ _; exact Nat.zero_le _
  | cons a l ih =>
    intro nd h
    rw [List.nodup_cons] at nd
    have h1 := ih (n := n.erase a) nd.2 fun x hx => (List.mem_erase_of_ne (show x ≠ a from fun z => nd.1 (by rw [← z]; exact hx))).mpr (h x (List.mem_cons_of_mem _ hx))
    have ha := h a List.mem_cons_self
    rw [List.length_erase_of_mem ha] at h1
    have : 0 < n.length := List.length_pos_of_mem ha
    rw [List.length_cons]
    omega
end
end L2
namespace L2
open PySem PySem.Spec PyProof.Rows
theorem okDs_ords : ∀ os : List (List Int), okDs (os.map ordD) = true
  | [] => rfl
  | o :: os => by
    show (okDs (o.map D.int) && okDs (os.map ordD)) = true
    rw [okDs_ints, okDs_ords os]
    rfl
theorem hiDs_ords : ∀ os : List (List Int), hiDs (os.map ordD) ≤ 1
  | [] => Nat.zero_le _
  | o :: os => by
    show max (hiDs (o.map D.int) + 1) (hiDs (os.map ordD)) ≤ 1
    rw [hiDs_ints]
    exact Nat.max_le.mpr ⟨Nat.le_refl _, hiDs_ords os⟩
theorem cmpDs_ords : ∀ os ps : List (List Int), cmpDs (os.map ordD) (ps.map ordD) = true
  | [], _ => rfl
  | _ :: _, [] => rfl
  | o :: os, p :: ps => by
    show (((o.map D.int).length != (p.map D.int).length || cmpDs (o.map D.int) (p.map D.int)) && cmpDs (os.map ordD) (ps.map ordD)) = true
    rw [cmpDs_ints, cmpDs_ords os ps, Bool.or_true]
    rfl
end L2
namespace L2
open PySem PySem.Spec PyProof.Rows
section
variable {os : List (List Int)} {m : Nat}
theorem okW_take {c : Nat} {w : List Int} (h : okW c w) (i : Nat) : okW c (w.take i) := fun a ha => h a (List.mem_of_mem_take ha)
theorem okW_drop {c : Nat} {w : List Int} (h : okW c w) (i : Nat) : okW c (w.drop i) := fun a ha => h a (List.mem_of_mem_drop ha)
theorem Tab.least {ks ws : List (List Int)} {g w v : List Int} {l : Nat} (T : Tab os m ks.length 0 ks ws) (e1 : ks[l]? = some g) (e2 : ws[l]? = some w) (hv : okW os.length v) (e : byW os m v = g) : slLe w v := by
  obtain ⟨l', u, k1, k2, k3⟩ := T.whole _ v rfl hv
  rw [e] at k1
  have h1 := (List.getElem?_eq_some_iff.mp e1)
  have h2 := (List.getElem?_eq_some_iff.mp k1)
  obtain ⟨h1, h1'⟩ := h1
  obtain ⟨h2, h2'⟩ := h2
  have nd := List.pairwise_iff_getElem.mp T.nd
  have : l' = l := by
    rcases Nat.lt_trichotomy l' l with z | z | z
    · exact absurd (h2'.trans h1'.symm) (nd l' l h2 h1 z)
    · exact z
    · exact absurd (h1'.trans h2'.symm) (nd l l' h1 h2 z)
  subst this
  rw [e2] at k2
  cases k2
  exact k3
theorem Tab.short {ks ws : List (List Int)} {g w : List Int} {l : Nat} (T : Tab os m ks.length 0 ks ws) (ok : OkOs os m) (e1 : ks[l]? = some g) (e2 : ws[l]? = some w) : w.length < ks.length := by
  obtain ⟨mk1, mk2⟩ := T.make l g w e1 e2
  have nd : ((List.range (w.length + 1)).map fun i => byW os m (w.take i)).Nodup := by
    rw [List.nodup_iff_pairwise_ne, List.pairwise_map]
    have h0 : (List.range (w.length + 1)).Pairwise fun a b => a < b := List.pairwise_lt_range
    refine List.Pairwise.imp_of_mem ?_ h0
    intro i j hi hj hij z
    have hj := List.mem_range.mp hj
    have e : byW os m (w.take i ++ w.drop j) = g := by
      rw [byW_append ok (okW_take mk2 i) _ _ rfl (okW_drop mk2 j), z, ← byW_append ok (okW_take mk2 j) _ _ rfl (okW_drop mk2 j), List.take_append_drop]
      exact mk1
    have ho : okW os.length (w.take i ++ w.drop j) := fun a ha => by
      rcases List.mem_append.mp ha with z | z
      · exact okW_take mk2 i a z
      · exact okW_drop mk2 j a z
    have h3 := T.least e1 e2 ho e
    have h4 : (w.take i ++ w.drop j).length < w.length := by
      rw [List.length_append, List.length_take, List.length_drop]
      omega
    rcases h3 with z | ⟨z, _⟩ <;> omega
  have := nodup_sub nd fun x hx => by
    obtain ⟨i, _, rfl⟩ := List.mem_map.mp hx
    obtain ⟨l', u, k1, _⟩ := T.whole _ (w.take i) rfl (okW_take mk2 i)
    exact List.mem_of_getElem? k1
  rw [List.length_map, List.length_range] at this
  omega
end
end L2
namespace Mg
open PySem PyProof.Rows
def gal : Bool → Keyed → Array Keyed → Nat → Nat → Nat → StateT SortSt Sem (Option Nat) := sortPriv% PySem.Builtin.gallop
section
variable {M : Model} {A : Around} {E : Value → Shared → Prop} {s : Shared}
def LtOk (M : Model) (A : Around) (E : Value → Shared → Prop) (s : Shared) (κ : SortKind) (S : Keyed → Prop) (r : Keyed → Nat) : Prop :=
  ∀ x y (st : SortSt) (Q : Option Bool → SortSt → Prop), S x → S y → kindOf st = κ → Q (some (decide (r x < r y))) st → wpS M A E s (lt' x y) Q st
theorem wpS_elem {st : SortSt} {xs : Array Keyed} {i : Nat} {x : Keyed} {Q : Keyed → SortSt → Prop} (h : xs[i]? = some x) (q : Q x st) : wpS M A E s (elem' xs i) Q st := by
  rw [elem'_eq, h]
  exact wpS_pure q
def bey (left : Bool) (key : Keyed) (arr : Array Keyed) (at_ : Nat) : StateT SortSt Sem (Option Bool) := elem' arr at_ >>= fun x => if left = true then lt' x key else lt' key x >>= fun b => pure (b.map (!·))
theorem bey_ok {κ : SortKind} {S : Keyed → Prop} {r : Keyed → Nat} (L : LtOk M A E s κ S r) {left : Bool} {key x : Keyed} {arr : Array Keyed} {i : Nat} {v : Bool} {st : SortSt} {Q : Option Bool → SortSt → Prop} (hk : kindOf st = κ) (sk : S key) (hx : arr[i]? = some x) (sx : S x) (hv : (if left then decide (r x < r key) else !decide (r key < r x)) = v) (q : Q (some v) st) : wpS M A E s (bey left key arr i) Q st := by
  subst hv
  unfold bey
  refine wpS_bind (wpS_elem hx ?_)
  cases left with
  | true => exact L x key st Q sx sk hk q
  | false => exact wpS_bind (L key x st _ sk sx hk (wpS_pure q))
theorem gal_ok {κ : SortKind} {S : Keyed → Prop} {r : Keyed → Nat} (L : LtOk M A E s κ S r) {left : Bool} {key : Keyed} {arr : Array Keyed} {base n hint c : Nat} {st : SortSt} {Q : Option Nat → SortSt → Prop} (hk : kindOf st = κ) (sk : S key) (hn : base + n ≤ arr.size) (sa : ∀ i x, i < n → arr[base + i]? = some x → S x)
    (hh : hint < n) (hc : c ≤ n) (hb : ∀ i x, i < n → arr[base + i]? = some x → (if left then decide (r x < r key) else !decide (r key < r x)) = decide (i < c)) (q : Q (some c) st) : wpS M A E s (gal left key arr base n hint) Q st := by
  have B : ∀ (i : Nat) (Q' : Option Bool → SortSt → Prop), i < n → Q' (some (decide (i < c))) st → wpS M A E s (bey left key arr (base + i)) Q' st := fun i Q' hi q' => by
    obtain ⟨x, hx⟩ : ∃ x, arr[base + i]? = some x := ⟨_, Array.getElem?_eq_getElem (by omega)⟩
    exact bey_ok L hk sk hx (sa i x hi hx) (hb i x hi hx) q'
  have fin : ∀ lo hi, lo ≤ c → c ≤ hi → hi ≤ n → hi - lo ≤ n → wpS M A E s (forIn [:n] ((none : Option (Option Nat)), lo, hi) fun _ z => if z.2.1 ≥ z.2.2 then pure (ForInStep.done (none, z.2.1, z.2.2)) else bey left key arr (base + (z.2.1 + (z.2.2 - z.2.1) / 2)) >>= fun y => match y with
      | some more => if more = true then pure (ForInStep.yield (none, z.2.1 + (z.2.2 - z.2.1) / 2 + 1, z.2.2)) else pure (ForInStep.yield (none, z.2.1, z.2.1 + (z.2.2 - z.2.1) / 2))
      | _ => pure (ForInStep.done (some none, z.2.1, z.2.2))) (fun z st' => (z.1 = none ∧ z.2.2 = c) ∧ st' = st) st := fun lo hi h1 h2 h3 h4 => by
    refine wpS_forRange (I := fun x z st' => st' = st ∧ z.1 = none ∧ z.2.1 ≤ c ∧ c ≤ z.2.2 ∧ z.2.2 ≤ n ∧ z.2.2 - z.2.1 ≤ n - x) ?_ ?_ ⟨rfl, rfl, h1, h2, h3, by omega⟩
    · rintro x ⟨_, lo, hi⟩ st' _ hx ⟨rfl, rfl, h1, h2, h3, h4⟩
      dsimp only at *
      by_cases hlt : lo ≥ hi
      · rw [if_pos hlt]
        exact wpS_pure ⟨⟨rfl, show hi = c by omega⟩, rfl⟩
      · rw [if_neg hlt]
        refine wpS_bind (B _ _ (by omega) ?_)
        by_cases hm : lo + (hi - lo) / 2 < c
        · rw [decide_eq_true hm]
          exact wpS_pure ⟨rfl, rfl, by show _ + 1 ≤ c; omega, h2, h3, by show hi - (_ + 1) ≤ _; omega⟩
        · rw [decide_eq_false hm]
          exact wpS_pure ⟨rfl, rfl, h1, by show c ≤ lo + (hi - lo) / 2; omega, by show lo + (hi - lo) / 2 ≤ n; omega, by show lo + (hi - lo) / 2 - lo ≤ _; omega⟩
    · rintro ⟨_, lo, hi⟩ st' ⟨rfl, rfl, h1, h2, h3, h4⟩
      dsimp only at *
      exact ⟨⟨rfl, by omega⟩, rfl⟩
  refine wpS_bind (B hint _ hh ?_)
  by_cases hr : hint < c
  · rw [decide_eq_true hr]
    refine wpS_bind (wpS_mono (wpS_forRange (I := fun x z st' => st' = st ∧ z.1 = none ∧ hint + z.2.1 < c ∧ z.2.1 < z.2.2 ∧ x + 1 ≤ z.2.2) (Q := fun z st' => st' = st ∧ z.1 = none ∧ hint + z.2.1 < c ∧ (n - hint ≤ z.2.2 ∨ c ≤ hint + z.2.2)) ?_ ?_ ⟨rfl, rfl, hr, by decide, by decide⟩) ?_)
    · rintro x ⟨_, la, ofs⟩ st' _ hx ⟨rfl, rfl, h1, h2, h3⟩
      dsimp only at *
      by_cases hlt : ofs ≥ n - hint
      · rw [if_pos hlt]
        exact wpS_pure ⟨rfl, rfl, h1, .inl hlt⟩
      · rw [if_neg hlt]
        refine wpS_bind (B _ _ (by omega) ?_)
        by_cases hm : hint + ofs < c
        · rw [decide_eq_true hm]
          exact wpS_pure ⟨rfl, rfl, hm, by show ofs < 2 * ofs + 1; omega, by show x + 1 + 1 ≤ 2 * ofs + 1; omega⟩
        · rw [decide_eq_false hm]
          exact wpS_pure ⟨rfl, rfl, h1, .inr (by show c ≤ hint + ofs; omega)⟩
    · rintro ⟨_, la, ofs⟩ st' ⟨rfl, rfl, h1, h2, h3⟩
      dsimp only at *
      exact ⟨rfl, rfl, h1, .inl (by omega)⟩
    · rintro ⟨_, la, ofs⟩ st' ⟨rfl, rfl, h1, h2⟩
      dsimp only at *
      refine wpS_bind (wpS_mono (fin (hint + la + 1) (hint + min ofs (n - hint)) (by omega) (by omega) (by omega) (by omega)) ?_)
      rintro ⟨_, lo, hi⟩ st' ⟨⟨rfl, rfl⟩, rfl⟩
      exact wpS_pure q
  · rw [decide_eq_false hr]
    refine wpS_bind (wpS_mono (wpS_forRange (I := fun x z st' => st' = st ∧ z.1 = none ∧ c + z.2.1 ≤ hint ∧ z.2.1 < z.2.2 ∧ x + 1 ≤ z.2.2) (Q := fun z st' => st' = st ∧ z.1 = none ∧ c + z.2.1 ≤ hint ∧ (hint + 1 ≤ z.2.2 ∨ hint - z.2.2 < c)) ?_ ?_ ⟨rfl, rfl, by show c + 0 ≤ hint; omega, by decide, by decide⟩) ?_)
    · rintro x ⟨_, la, ofs⟩ st' _ hx ⟨rfl, rfl, h1, h2, h3⟩
      dsimp only at *
      by_cases hlt : ofs ≥ hint + 1
      · rw [if_pos hlt]
        exact wpS_pure ⟨rfl, rfl, h1, .inl hlt⟩
      · rw [if_neg hlt]
        refine wpS_bind (B _ _ (by omega) ?_)
        by_cases hm : hint - ofs < c
        · rw [decide_eq_true hm]
          exact wpS_pure ⟨rfl, rfl, h1, .inr hm⟩
        · rw [decide_eq_false hm]
          exact wpS_pure ⟨rfl, rfl, by show c + ofs ≤ hint; omega, by show ofs < 2 * ofs + 1; omega, by show x + 1 + 1 ≤ 2 * ofs + 1; omega⟩
    · rintro ⟨_, la, ofs⟩ st' ⟨rfl, rfl, h1, h2, h3⟩
      dsimp only at *
      exact ⟨rfl, rfl, h1, .inl (by omega)⟩
    · rintro ⟨_, la, ofs⟩ st' ⟨rfl, rfl, h1, h2⟩
      dsimp only at *
      refine wpS_bind (wpS_mono (fin (hint + 1 - min ofs (hint + 1)) (hint - la) (by omega) (by omega) (by omega) (by omega)) ?_)
      rintro ⟨_, lo, hi⟩ st' ⟨⟨rfl, rfl⟩, rfl⟩
      exact wpS_pure q
end
end Mg
namespace Mg
open PySem PyProof.Rows
def Up (r : Keyed → Nat) (l : List Keyed) : Prop := l.Pairwise fun x y => r x ≤ r y
structure Jo (r : Keyed → Nat) (all_ out u v : List Keyed) : Prop where
  perm : (out ++ (u ++ v)).Perm all_
  so : Up r out
  su : Up r u
  sv : Up r v
  ou : ∀ x ∈ out, ∀ y ∈ u, r x ≤ r y
  ov : ∀ x ∈ out, ∀ y ∈ v, r x ≤ r y
theorem Jo.a {r : Keyed → Nat} {al out p u v : List Keyed} (J : Jo r al out (p ++ u) v) (h : ∀ x ∈ p, ∀ y ∈ v, r x ≤ r y) : Jo r al (out ++ p) u v := by
  obtain ⟨j1, j2, j3, j4, j5, j6⟩ := J
  obtain ⟨k1, k2, k3⟩ := List.pairwise_append.mp j3
  refine ⟨by rw [List.append_assoc, ← List.append_assoc p]; exact j1, List.pairwise_append.mpr ⟨j2, k1, fun x hx y hy => j5 x hx y (List.mem_append_left _ hy)⟩, k2, j4, fun x hx y hy => ?_, fun x hx y hy => ?_⟩
  · rcases List.mem_append.mp hx with z | z
    · exact j5 x z y (List.mem_append_right _ hy)
    · exact k3 x z y hy
  · rcases List.mem_append.mp hx with z | z
    · exact j6 x z y hy
    · exact h x z y hy
theorem Jo.swap {r : Keyed → Nat} {al out u v : List Keyed} (J : Jo r al out u v) : Jo r al out v u :=
  ⟨((List.perm_append_comm (l₁ := v) (l₂ := u)).append_left out).trans J.perm, J.so, J.sv, J.su, J.ov, J.ou⟩
theorem Jo.b {r : Keyed → Nat} {al out p u v : List Keyed} (J : Jo r al out u (p ++ v)) (h : ∀ x ∈ p, ∀ y ∈ u, r x ≤ r y) : Jo r al (out ++ p) u v := (J.swap.a h).swap
theorem Jo.done {r : Keyed → Nat} {al out u v : List Keyed} (J : Jo r al out u v) (h : ∀ x ∈ u, ∀ y ∈ v, r x ≤ r y) : (out ++ (u ++ v)).Perm al ∧ Up r (out ++ (u ++ v)) :=
  ⟨J.perm, List.pairwise_append.mpr ⟨J.so, List.pairwise_append.mpr ⟨J.su, J.sv, h⟩, fun x hx y hy => (List.mem_append.mp hy).elim (J.ou x hx y) (J.ov x hx y)⟩⟩
theorem drop_cons {a : Array Keyed} {i : Nat} (h : i < a.size) : a.toList.drop i = a[i] :: a.toList.drop (i + 1) := by
  rw [List.drop_eq_getElem_cons (by rw [Array.length_toList]; exact h)]
  rfl
theorem drop_ext {a : Array Keyed} {i j : Nat} (h : i ≤ j) : a.toList.drop i = (a.extract i j).toList ++ a.toList.drop j := by
  rw [Array.toList_extract, List.extract_eq_take_drop]
  have e : a.toList.drop j = (a.toList.drop i).drop (j - i) := by rw [List.drop_drop]; congr 1; omega
  rw [e, List.take_append_drop]
theorem ext_end (a : Array Keyed) (i : Nat) : (a.extract i a.size).toList = a.toList.drop i := by
  rw [Array.toList_extract, List.extract_eq_take_drop, List.take_of_length_le]
  rw [List.length_drop, Array.length_toList]
  omega
def mLo : Array Keyed → Array Keyed → StateT SortSt Sem (Array Keyed) := sortPriv% PySem.Builtin.mergeLo
section
variable {M : Model} {A : Around} {E : Value → Shared → Prop} {s : Shared}
theorem thr (P : Nat → Bool) : ∀ n : Nat, (∀ i j, i ≤ j → j < n → P j = true → P i = true) → ∃ c, c ≤ n ∧ ∀ i, i < n → P i = decide (i < c)
  | 0, _ => ⟨0, Nat.le_refl _, fun i hi => by omega⟩
  | n + 1, h => by
    obtain ⟨c, hc, e⟩ := thr P n fun i j h1 h2 => h i j h1 (by omega)
    by_cases hn : P n = true
    · refine ⟨n + 1, Nat.le_refl _, fun i hi => ?_⟩
      rw [h i n (by omega) (by omega) hn, decide_eq_true hi]
    · refine ⟨c, by omega, fun i hi => ?_⟩
      by_cases e2 : i = n
      · subst e2
        rw [decide_eq_false (by omega)]
        exact Bool.eq_false_iff.mpr hn
      · exact e i (by omega)
theorem Up.at_ {r : Keyed → Nat} {a : Array Keyed} (u : Up r a.toList) {i j : Nat} {x y : Keyed} (h : i ≤ j) (hx : a[i]? = some x) (hy : a[j]? = some y) : r x ≤ r y := by
  obtain ⟨i1, e1⟩ := Array.getElem?_eq_some_iff.mp hx
  obtain ⟨j1, e2⟩ := Array.getElem?_eq_some_iff.mp hy
  by_cases e : i = j
  · subst e
    rw [← e1, ← e2]
    exact Nat.le_refl _
  · have := List.pairwise_iff_getElem.mp u i j (by rw [Array.length_toList]; exact i1) (by rw [Array.length_toList]; exact j1) (by omega)
    rw [← e1, ← e2]
    exact this
theorem gal_up {κ : SortKind} {S : Keyed → Prop} {r : Keyed → Nat} (L : LtOk M A E s κ S r) {left : Bool} {key : Keyed} {arr : Array Keyed} {base n hint : Nat} {st : SortSt} {Q : Option Nat → SortSt → Prop} (hk : kindOf st = κ) (sk : S key) (hn : base + n ≤ arr.size) (sa : ∀ i x, i < n → arr[base + i]? = some x → S x)
    (up : ∀ i j x y, i ≤ j → j < n → arr[base + i]? = some x → arr[base + j]? = some y → r x ≤ r y) (hh : hint < n) (q : ∀ c, c ≤ n → (∀ i x, i < n → arr[base + i]? = some x → (i < c ↔ if left = true then r x < r key else r x ≤ r key)) → Q (some c) st) : wpS M A E s (gal left key arr base n hint) Q st := by
  have get : ∀ i, i < n → ∃ x, arr[base + i]? = some x := fun i hi => ⟨_, Array.getElem?_eq_getElem (by omega)⟩
  obtain ⟨c, hc, e⟩ := thr (fun i => match arr[base + i]? with
    | some x => if left then decide (r x < r key) else !decide (r key < r x)
    | none => false) n fun i j h1 h2 => by
      obtain ⟨x, hx⟩ := get i (by omega)
      obtain ⟨y, hy⟩ := get j h2
      have := up i j x y h1 h2 hx hy
      rw [hx, hy]
      cases left with
      | true =>
        show decide (r y < r key) = true → decide (r x < r key) = true
        rw [decide_eq_true_iff, decide_eq_true_iff]
        omega
      | false =>
        show (!decide (r key < r y)) = true → (!decide (r key < r x)) = true
        rw [Bool.not_eq_true', Bool.not_eq_true', decide_eq_false_iff_not, decide_eq_false_iff_not]
        omega
  have e' : ∀ i x, i < n → arr[base + i]? = some x → (if left then decide (r x < r key) else !decide (r key < r x)) = decide (i < c) := fun i x hi hx => by
    have := e i hi
    rw [hx] at this
    exact this
  refine gal_ok L hk sk hn sa hh hc e' (q c hc fun i x hi hx => ?_)
  have := e' i x hi hx
  cases left with
  | true =>
    have this : decide (r x < r key) = decide (i < c) := this
    rw [decide_eq_decide] at this
    exact this.symm
  | false =>
    have this : (!decide (r key < r x)) = decide (i < c) := this
    show i < c ↔ r x ≤ r key
    rw [← decide_eq_true_iff (p := i < c), ← this, Bool.not_eq_true', decide_eq_false_iff_not]
    omega
end
end Mg
namespace Mg
open PySem PyProof.Rows
def mkG (κ : SortKind) (st : SortSt) (g : Nat) : SortSt := SortSt.mk' κ (arrOf st) (pendingOf st) g (failedOf st)
def Rm (r : Keyed → Nat) (a b out : Array Keyed) : Prop := out.toList.Perm (a.toList ++ b.toList) ∧ Up r out.toList
abbrev Ja (r : Keyed → Nat) (a b out : Array Keyed) (ia ib : Nat) : Prop := Jo r (a.toList ++ b.toList) out.toList (a.toList.drop ia) (b.toList.drop ib)
theorem Ja.fin1 {r : Keyed → Nat} {a b out : Array Keyed} {ia ib : Nat} (J : Ja r a b out ia ib) (h : ∀ x ∈ a.toList.drop ia, ∀ y ∈ b.toList.drop ib, r x ≤ r y) : Rm r a b (out ++ a.extract ia a.size ++ b.extract ib b.size) := by
  unfold Rm
  rw [Array.toList_append, Array.toList_append, ext_end, ext_end, List.append_assoc]
  exact J.done h
theorem Ja.fin2 {r : Keyed → Nat} {a b out : Array Keyed} {ia ib : Nat} (J : Ja r a b out ia ib) (h : ∀ x ∈ b.toList.drop ib, ∀ y ∈ a.toList.drop ia, r x ≤ r y) : Rm r a b (out ++ b.extract ib b.size ++ a.extract ia a.size) := by
  unfold Rm
  rw [Array.toList_append, Array.toList_append, ext_end, ext_end, List.append_assoc]
  exact Jo.done (Jo.swap J) h
theorem Ja.pb {r : Keyed → Nat} {a b out : Array Keyed} {ia ib : Nat} (J : Ja r a b out ia ib) (hb : ib < b.size) (h : ∀ y ∈ a.toList.drop ia, r b[ib] ≤ r y) : Ja r a b (out.push b[ib]) ia (ib + 1) := by
  unfold Ja at J ⊢
  rw [drop_cons hb] at J
  rw [Array.toList_push]
  exact Jo.b (p := [b[ib]]) J fun x hx y hy => by rw [List.mem_singleton.mp hx]; exact h y hy
theorem Ja.pa {r : Keyed → Nat} {a b out : Array Keyed} {ia ib : Nat} (J : Ja r a b out ia ib) (ha : ia < a.size) (h : ∀ y ∈ b.toList.drop ib, r a[ia] ≤ r y) : Ja r a b (out.push a[ia]) (ia + 1) ib := by
  unfold Ja at J ⊢
  rw [drop_cons ha] at J
  rw [Array.toList_push]
  exact Jo.a (p := [a[ia]]) J fun x hx y hy => by rw [List.mem_singleton.mp hx]; exact h y hy
theorem mem_ext {a : Array Keyed} {i j : Nat} {x : Keyed} (h : x ∈ (a.extract i j).toList) : ∃ k, i ≤ k ∧ k < j ∧ a[k]? = some x := by
  rw [Array.toList_extract, List.extract_eq_take_drop] at h
  obtain ⟨k, hk, e⟩ := List.getElem_of_mem h
  rw [List.length_take, List.length_drop] at hk
  rw [List.getElem_take, List.getElem_drop] at e
  refine ⟨i + k, by omega, by omega, ?_⟩
  rw [Array.getElem?_eq_getElem (by have := Array.length_toList (xs := a); omega), ← e]
  rfl
theorem Ja.ca {r : Keyed → Nat} {a b out : Array Keyed} {ia ib : Nat} (J : Ja r a b out ia ib) (k : Nat) (h : ∀ j x, ia ≤ j → j < ia + k → a[j]? = some x → ∀ y ∈ b.toList.drop ib, r x ≤ r y) : Ja r a b (out ++ a.extract ia (ia + k)) (ia + k) ib := by
  unfold Ja at J ⊢
  rw [drop_ext (Nat.le_add_right ia k)] at J
  rw [Array.toList_append]
  exact Jo.a J fun x hx y hy => by
    obtain ⟨j, h1, h2, h3⟩ := mem_ext hx
    exact h j x h1 h2 h3 y hy
theorem Ja.cb {r : Keyed → Nat} {a b out : Array Keyed} {ia ib : Nat} (J : Ja r a b out ia ib) (k : Nat) (h : ∀ j x, ib ≤ j → j < ib + k → b[j]? = some x → ∀ y ∈ a.toList.drop ia, r x ≤ r y) : Ja r a b (out ++ b.extract ib (ib + k)) ia (ib + k) := by
  unfold Ja at J ⊢
  rw [drop_ext (Nat.le_add_right ib k)] at J
  rw [Array.toList_append]
  exact Jo.b J fun x hx y hy => by
    obtain ⟨j, h1, h2, h3⟩ := mem_ext hx
    exact h j x h1 h2 h3 y hy
theorem mem_drop {a : Array Keyed} {i : Nat} {x : Keyed} (h : x ∈ a.toList.drop i) : ∃ k, i ≤ k ∧ a[k]? = some x := by
  obtain ⟨k, hk, e⟩ := List.getElem_of_mem h
  rw [List.length_drop] at hk
  rw [List.getElem_drop] at e
  refine ⟨i + k, by omega, ?_⟩
  rw [Array.getElem?_eq_getElem (by have := Array.length_toList (xs := a); omega), ← e]
  rfl
section
variable {M : Model} {A : Around} {E : Value → Shared → Prop} {s : Shared}
theorem mLo_ok {κ : SortKind} {S : Keyed → Prop} {r : Keyed → Nat} (L : LtOk M A E s κ S r) {a b : Array Keyed} {st : SortSt} {Q : Array Keyed → SortSt → Prop} (hk : kindOf st = κ) (sa : ∀ x ∈ a.toList, S x) (sb : ∀ x ∈ b.toList, S x) (ha : 0 < a.size) (hb : 0 < b.size) (ua : Up r a.toList) (ub : Up r b.toList)
    (first : ∀ y ∈ a.toList, r b[0] ≤ r y) (last : ∀ y ∈ b.toList, r y ≤ r a[a.size - 1])
    (q : ∀ out g, Rm r a b out → Q out (mkG κ st g)) : wpS M A E s (mLo a b) Q st := by
  subst hk
  have get : ∀ {xs : Array Keyed} {i : Nat} (h : i < xs.size), xs[i]? = some xs[i] := fun h => Array.getElem?_eq_getElem h
  have hdA : ∀ {i : Nat} (h : i < a.size), ∀ y ∈ a.toList.drop i, r a[i] ≤ r y := fun {i} h y hy => by
    obtain ⟨k, h1, h2⟩ := mem_drop hy
    exact ua.at_ h1 (get h) h2
  have hdB : ∀ {i : Nat} (h : i < b.size), ∀ y ∈ b.toList.drop i, r b[i] ≤ r y := fun {i} h y hy => by
    obtain ⟨k, h1, h2⟩ := mem_drop hy
    exact ub.at_ h1 (get h) h2
  have lastA : ∀ {out : Array Keyed} {ia ib : Nat}, Ja r a b out ia ib → ia + 1 = a.size → Rm r a b (out ++ b.extract ib b.size ++ a.extract ia a.size) := fun {out ia ib} J h => J.fin2 fun x hx y hy => by
    obtain ⟨k, h1, h2⟩ := mem_drop hy
    obtain ⟨k1, e⟩ := Array.getElem?_eq_some_iff.mp h2
    have := last x (List.mem_of_mem_drop hx)
    have ek : k = a.size - 1 := by omega
    subst ek
    rw [← e]
    exact this
  have doneB : ∀ {out : Array Keyed} {ia ib : Nat}, Ja r a b out ia ib → ib = b.size → Rm r a b (out ++ a.extract ia a.size ++ b.extract ib b.size) := fun {out ia ib} J h => J.fin1 fun x hx y hy => by
    obtain ⟨k, h1, h2⟩ := mem_drop hy
    obtain ⟨k1, e⟩ := Array.getElem?_eq_some_iff.mp h2
    omega
  have doneA : ∀ {out : Array Keyed} {ia ib : Nat}, Ja r a b out ia ib → ia = a.size → Rm r a b (out ++ a.extract ia a.size ++ b.extract ib b.size) := fun {out ia ib} J h => J.fin1 fun x hx y hy => by
    obtain ⟨k, h1, h2⟩ := mem_drop hx
    obtain ⟨k1, e⟩ := Array.getElem?_eq_some_iff.mp h2
    omega
  have mA : ∀ {i : Nat} (h : i < a.size), S a[i] := fun h => sa _ (Array.getElem_mem_toList h)
  have mB : ∀ {i : Nat} (h : i < b.size), S b[i] := fun h => sb _ (Array.getElem_mem_toList h)
  have mA' : ∀ {i : Nat} {x : Keyed}, a[i]? = some x → S x := fun {i x} h => by
    obtain ⟨h1, rfl⟩ := Array.getElem?_eq_some_iff.mp h
    exact mA h1
  have mB' : ∀ {i : Nat} {x : Keyed}, b[i]? = some x → S x := fun {i x} h => by
    obtain ⟨h1, rfl⟩ := Array.getElem?_eq_some_iff.mp h
    exact mB h1
  refine wpS_bind (wpS_lift (wpAny_rule ⟨rfl, ?_⟩))
  refine wpS_bind (wpS_elem (get hb) ?_)
  dsimp only
  have J0 : Ja r a b #[b[0]] 0 1 := by
    have : Ja r a b #[] 0 0 := ⟨List.Perm.refl _, List.Pairwise.nil, ua, ub, (fun x hx => by cases hx), (fun x hx => by cases hx)⟩
    exact this.pb hb fun y hy => first y (List.mem_of_mem_drop hy)
  by_cases h1 : 1 = b.size
  · rw [if_pos (beq_iff_eq.mpr h1)]
    exact wpS_pure (q _ (gallopOf st) (doneB J0 h1))
  rw [if_neg (fun z => h1 (beq_iff_eq.mp z))]
  by_cases h2 : 0 + 1 = a.size
  · rw [if_pos (beq_iff_eq.mpr h2)]
    exact wpS_pure (q _ (gallopOf st) (lastA J0 h2))
  rw [if_neg (fun z => h2 (beq_iff_eq.mp z))]
  refine wpS_bind (wpS_get ?_)
  refine wpS_bind (wpS_mono (wpS_forRange (I := fun x z st' => z.1 = none ∧ Ja r a b z.2.1 z.2.2.1 z.2.2.2.1 ∧ z.2.2.1 + 1 < a.size ∧ z.2.2.2.1 < b.size ∧ x + 1 ≤ z.2.2.1 + z.2.2.2.1 ∧ ∃ g, st' = mkG (kindOf st) st g) (Q := fun z st' => ∃ o g, z.1 = some o ∧ Rm r a b o ∧ st' = mkG (kindOf st) st g) ?_ ?_ ⟨rfl, J0, by show 0 + 1 < a.size; omega, by show 1 < b.size; omega, Nat.le_refl _, gallopOf st, rfl⟩) ?_)
  · rintro x ⟨_, out, ia, ib, mg⟩ st' _ hx ⟨rfl, J, ia1, ib1, pr, g, rfl⟩
    dsimp only at *
    refine wpS_bind (wpS_mono (wpS_forRange (I := fun y z st' => z.1 = none ∧ Ja r a b z.2.1 z.2.2.1 z.2.2.2.1 ∧ z.2.2.1 + 1 < a.size ∧ z.2.2.2.1 < b.size ∧ ia + ib + y ≤ z.2.2.1 + z.2.2.2.1 ∧ st' = mkG (kindOf st) st g) (Q := fun z st' => st' = mkG (kindOf st) st g ∧ ((∃ o, z.1 = some o ∧ Rm r a b o) ∨ (z.1 = none ∧ Ja r a b z.2.1 z.2.2.1 z.2.2.2.1 ∧ z.2.2.1 + 1 < a.size ∧ z.2.2.2.1 < b.size ∧ ia + ib + 1 ≤ z.2.2.1 + z.2.2.2.1))) ?_ ?_ ⟨rfl, J, ia1, ib1, Nat.le_refl _, rfl⟩) ?_)
    · rintro y ⟨_, out, ja, jb, ac, bc⟩ st' _ hy ⟨rfl, J, ia1, ib1, pr1, rfl⟩
      dsimp only at *
      refine wpS_bind (wpS_elem (get ib1) (wpS_bind (wpS_elem (get (show ja < a.size by omega)) (wpS_bind (L _ _ _ _ (mB ib1) (mA (show ja < a.size by omega)) rfl ?_)))))
      by_cases hw : r b[jb] < r a[ja]
      · rw [decide_eq_true hw]
        refine wpS_bind (wpS_elem (get ib1) ?_)
        have J' := J.pb ib1 fun y hy => by have := hdA (show ja < a.size by omega) y hy; omega
        by_cases he : jb + 1 = b.size
        · rw [if_pos (beq_iff_eq.mpr he)]
          exact wpS_pure ⟨rfl, .inl ⟨_, rfl, doneB J' he⟩⟩
        rw [if_neg (fun z => he (beq_iff_eq.mp z))]
        by_cases hm : bc + 1 ≥ mg
        · rw [if_pos hm]
          exact wpS_pure ⟨rfl, .inr ⟨rfl, J', ia1, by show jb + 1 < b.size; omega, by show _ ≤ ja + (jb + 1); omega⟩⟩
        · rw [if_neg hm]
          exact wpS_pure ⟨rfl, J', ia1, by show jb + 1 < b.size; omega, by show _ ≤ ja + (jb + 1); omega, rfl⟩
      · rw [decide_eq_false hw]
        refine wpS_bind (wpS_elem (get (show ja < a.size by omega)) ?_)
        have J' := J.pa (show ja < a.size by omega) fun y hy => by have := hdB ib1 y hy; omega
        by_cases he : ja + 1 + 1 = a.size
        · rw [if_pos (beq_iff_eq.mpr he)]
          exact wpS_pure ⟨rfl, .inl ⟨_, rfl, lastA J' he⟩⟩
        rw [if_neg (fun z => he (beq_iff_eq.mp z))]
        by_cases hm : ac + 1 ≥ mg
        · rw [if_pos hm]
          exact wpS_pure ⟨rfl, .inr ⟨rfl, J', by show ja + 1 + 1 < a.size; omega, ib1, by show _ ≤ ja + 1 + jb; omega⟩⟩
        · rw [if_neg hm]
          exact wpS_pure ⟨rfl, J', by show ja + 1 + 1 < a.size; omega, ib1, by show _ ≤ ja + 1 + jb; omega, rfl⟩
    · rintro ⟨_, out, ja, jb, ac, bc⟩ st' ⟨rfl, J, ia1, ib1, pr1, rfl⟩
      dsimp only at *
      exact ⟨rfl, .inr ⟨rfl, J, ia1, ib1, by omega⟩⟩
    rintro ⟨o1, out1, ja, jb, ac, bc⟩ st' ⟨rfl, hz⟩
    dsimp only at *
    rcases hz with ⟨o, rfl, ho⟩ | ⟨rfl, J1, ja1, jb1, pr1⟩
    · exact wpS_pure ⟨o, g, rfl, ho, rfl⟩
    refine wpS_bind (wpS_lift (wpAny_rule ⟨rfl, ?_⟩))
    refine wpS_bind (wpS_mono (wpS_forRange (I := fun y z st' => z.1 = none ∧ Ja r a b z.2.1 z.2.2.1 z.2.2.2.1 ∧ z.2.2.1 + 1 < a.size ∧ z.2.2.2.1 < b.size ∧ ia + ib + 1 ≤ z.2.2.1 + z.2.2.2.1 ∧ ∃ g, st' = mkG (kindOf st) st g) (Q := fun z st' => (∃ o g, z.1 = some o ∧ Rm r a b o ∧ st' = mkG (kindOf st) st g) ∨ (z.1 = none ∧ Ja r a b z.2.1 z.2.2.1 z.2.2.2.1 ∧ z.2.2.1 + 1 < a.size ∧ z.2.2.2.1 < b.size ∧ ia + ib + 1 ≤ z.2.2.1 + z.2.2.2.1 ∧ ∃ g, st' = mkG (kindOf st) st g)) ?_ ?_ ⟨rfl, J1, ja1, jb1, pr1, g, rfl⟩) ?_)
    · rintro y ⟨_, out2, ka, kb, mg2, ac2, bc2⟩ st' _ hy ⟨rfl, J2', a1, b1, pr2, g2, rfl⟩
      dsimp only at *
      by_cases hmg : mg2 > 1
      · rw [if_pos hmg]
        refine wpS_bind (wpS_modify ?_)
        refine wpS_bind (wpS_elem (get b1) ?_)
        refine wpS_bind (gal_up L rfl (mB b1) (by omega) (fun i x _ hx => mA' hx) (fun i j x y h1 h2 hx hy => ua.at_ (by omega) hx hy) (by omega) fun k hk hth => ?_)
        dsimp only
        by_cases hk0 : k > 0
        · rw [if_pos hk0]
          have J2 := J2'.ca k (fun j x h1 h2 hx y hy => by
            have hj := (Array.getElem?_eq_some_iff.mp hx).1
            have z : r x ≤ r b[kb] := (hth (j - ka) x (by omega) (by rw [show ka + (j - ka) = j by omega]; exact hx)).mp (by omega)
            have := hdB b1 y hy
            omega)
          by_cases he : ka + k + 1 = a.size
          · rw [if_pos (beq_iff_eq.mpr he)]
            exact wpS_pure (.inl ⟨_, _, rfl, lastA J2 he, rfl⟩)
          rw [if_neg (fun z => he (beq_iff_eq.mp z))]
          by_cases he2 : ka + k = a.size
          · rw [if_pos (beq_iff_eq.mpr he2)]
            exact wpS_pure (.inl ⟨_, _, rfl, doneA J2 he2, rfl⟩)
          rw [if_neg (fun z => he2 (beq_iff_eq.mp z))]
          have a2 : ka + k + 1 < a.size := by omega
          have nx : ¬ r a[ka + k] ≤ r b[kb] := fun z => by
            have := (hth k _ (by omega) (get (show ka + k < a.size by omega))).mpr z
            omega
          refine wpS_bind (wpS_elem (get b1) ?_)
          have J3 := J2.pb b1 (fun y hy => by have := hdA (show ka + k < a.size by omega) y hy; omega)
          by_cases he3 : kb + 1 = b.size
          · rw [if_pos (beq_iff_eq.mpr he3)]
            exact wpS_pure (.inl ⟨_, _, rfl, doneB J3 he3, rfl⟩)
          rw [if_neg (fun z => he3 (beq_iff_eq.mp z))]
          refine wpS_bind (wpS_elem (get (show ka + k < a.size by omega)) ?_)
          refine wpS_bind (gal_up L rfl (mA (show ka + k < a.size by omega)) (by omega) (fun i x _ hx => mB' hx) (fun i j x y h1 h2 hx hy => ub.at_ (by omega) hx hy) (by omega) fun k' hk' hth' => ?_)
          dsimp only
          by_cases hk1 : k' > 0
          · rw [if_pos hk1]
            have J4 := J3.cb k' (fun j x h1 h2 hx y hy => by
              have hj := (Array.getElem?_eq_some_iff.mp hx).1
              have z : r x < r a[ka + k] := (hth' (j - (kb + 1)) x (by omega) (by rw [show kb + 1 + (j - (kb + 1)) = j by omega]; exact hx)).mp (by omega)
              have := hdA (show ka + k < a.size by omega) y hy
              omega)
            by_cases he4 : kb + 1 + k' = b.size
            · rw [if_pos (beq_iff_eq.mpr he4)]
              exact wpS_pure (.inl ⟨_, _, rfl, doneB J4 he4, rfl⟩)
            rw [if_neg (fun z => he4 (beq_iff_eq.mp z))]
            have b2 : kb + 1 + k' < b.size := by omega
            have nx2 : ¬ r b[kb + 1 + k'] < r a[ka + k] := fun z => by
              have := (hth' k' _ (by omega) (get b2)).mpr z
              omega
            refine wpS_bind (wpS_elem (get (show ka + k < a.size by omega)) ?_)
            have J5 := J4.pa (show ka + k < a.size by omega) (fun y hy => by have := hdB b2 y hy; omega)
            by_cases he5 : ka + k + 1 + 1 = a.size
            · rw [if_pos (beq_iff_eq.mpr he5)]
              exact wpS_pure (.inl ⟨_, _, rfl, lastA J5 he5, rfl⟩)
            rw [if_neg (fun z => he5 (beq_iff_eq.mp z))]
            by_cases he6 : (decide (k < 7) && decide (k' < 7)) = true
            · rw [if_pos he6]
              exact wpS_pure (.inr ⟨rfl, J5, by show ka + k + 1 + 1 < a.size; omega, b2, by show _ ≤ ka + k + 1 + (kb + 1 + k'); omega, _, rfl⟩)
            · rw [if_neg he6]
              exact wpS_pure ⟨rfl, J5, by show ka + k + 1 + 1 < a.size; omega, b2, by show _ ≤ ka + k + 1 + (kb + 1 + k'); omega, _, rfl⟩
          · rw [if_neg hk1]
            have J4 := J3
            have b2 : kb + 1 < b.size := by omega
            have nx2 : ¬ r b[kb + 1] < r a[ka + k] := fun z => by
              have := (hth' 0 _ (by omega) (get b2)).mpr z
              omega
            refine wpS_bind (wpS_elem (get (show ka + k < a.size by omega)) ?_)
            have J5 := J4.pa (show ka + k < a.size by omega) (fun y hy => by have := hdB b2 y hy; omega)
            by_cases he5 : ka + k + 1 + 1 = a.size
            · rw [if_pos (beq_iff_eq.mpr he5)]
              exact wpS_pure (.inl ⟨_, _, rfl, lastA J5 he5, rfl⟩)
            rw [if_neg (fun z => he5 (beq_iff_eq.mp z))]
            by_cases he6 : (decide (k < 7) && decide (k' < 7)) = true
            · rw [if_pos he6]
              exact wpS_pure (.inr ⟨rfl, J5, by show ka + k + 1 + 1 < a.size; omega, b2, by show _ ≤ ka + k + 1 + (kb + 1); omega, _, rfl⟩)
            · rw [if_neg he6]
              exact wpS_pure ⟨rfl, J5, by show ka + k + 1 + 1 < a.size; omega, b2, by show _ ≤ ka + k + 1 + (kb + 1); omega, _, rfl⟩
        · rw [if_neg hk0]
          have J2 := J2'
          have nx : ¬ r a[ka] ≤ r b[kb] := fun z => by
            have := (hth 0 _ (by omega) (get (show ka < a.size by omega))).mpr z
            omega
          refine wpS_bind (wpS_elem (get b1) ?_)
          have J3 := J2.pb b1 (fun y hy => by have := hdA (show ka < a.size by omega) y hy; omega)
          by_cases he3 : kb + 1 = b.size
          · rw [if_pos (beq_iff_eq.mpr he3)]
            exact wpS_pure (.inl ⟨_, _, rfl, doneB J3 he3, rfl⟩)
          rw [if_neg (fun z => he3 (beq_iff_eq.mp z))]
          refine wpS_bind (wpS_elem (get (show ka < a.size by omega)) ?_)
          refine wpS_bind (gal_up L rfl (mA (show ka < a.size by omega)) (by omega) (fun i x _ hx => mB' hx) (fun i j x y h1 h2 hx hy => ub.at_ (by omega) hx hy) (by omega) fun k' hk' hth' => ?_)
          dsimp only
          by_cases hk1 : k' > 0
          · rw [if_pos hk1]
            have J4 := J3.cb k' (fun j x h1 h2 hx y hy => by
              have hj := (Array.getElem?_eq_some_iff.mp hx).1
              have z : r x < r a[ka] := (hth' (j - (kb + 1)) x (by omega) (by rw [show kb + 1 + (j - (kb + 1)) = j by omega]; exact hx)).mp (by omega)
              have := hdA (show ka < a.size by omega) y hy
              omega)
            by_cases he4 : kb + 1 + k' = b.size
            · rw [if_pos (beq_iff_eq.mpr he4)]
              exact wpS_pure (.inl ⟨_, _, rfl, doneB J4 he4, rfl⟩)
            rw [if_neg (fun z => he4 (beq_iff_eq.mp z))]
            have b2 : kb + 1 + k' < b.size := by omega
            have nx2 : ¬ r b[kb + 1 + k'] < r a[ka] := fun z => by
              have := (hth' k' _ (by omega) (get b2)).mpr z
              omega
            refine wpS_bind (wpS_elem (get (show ka < a.size by omega)) ?_)
            have J5 := J4.pa (show ka < a.size by omega) (fun y hy => by have := hdB b2 y hy; omega)
            by_cases he5 : ka + 1 + 1 = a.size
            · rw [if_pos (beq_iff_eq.mpr he5)]
              exact wpS_pure (.inl ⟨_, _, rfl, lastA J5 he5, rfl⟩)
            rw [if_neg (fun z => he5 (beq_iff_eq.mp z))]
            by_cases he6 : (decide (k < 7) && decide (k' < 7)) = true
            · rw [if_pos he6]
              exact wpS_pure (.inr ⟨rfl, J5, by show ka + 1 + 1 < a.size; omega, b2, by show _ ≤ ka + 1 + (kb + 1 + k'); omega, _, rfl⟩)
            · rw [if_neg he6]
              exact wpS_pure ⟨rfl, J5, by show ka + 1 + 1 < a.size; omega, b2, by show _ ≤ ka + 1 + (kb + 1 + k'); omega, _, rfl⟩
          · rw [if_neg hk1]
            have J4 := J3
            have b2 : kb + 1 < b.size := by omega
            have nx2 : ¬ r b[kb + 1] < r a[ka] := fun z => by
              have := (hth' 0 _ (by omega) (get b2)).mpr z
              omega
            refine wpS_bind (wpS_elem (get (show ka < a.size by omega)) ?_)
            have J5 := J4.pa (show ka < a.size by omega) (fun y hy => by have := hdB b2 y hy; omega)
            by_cases he5 : ka + 1 + 1 = a.size
            · rw [if_pos (beq_iff_eq.mpr he5)]
              exact wpS_pure (.inl ⟨_, _, rfl, lastA J5 he5, rfl⟩)
            rw [if_neg (fun z => he5 (beq_iff_eq.mp z))]
            by_cases he6 : (decide (k < 7) && decide (k' < 7)) = true
            · rw [if_pos he6]
              exact wpS_pure (.inr ⟨rfl, J5, by show ka + 1 + 1 < a.size; omega, b2, by show _ ≤ ka + 1 + (kb + 1); omega, _, rfl⟩)
            · rw [if_neg he6]
              exact wpS_pure ⟨rfl, J5, by show ka + 1 + 1 < a.size; omega, b2, by show _ ≤ ka + 1 + (kb + 1); omega, _, rfl⟩
      · rw [if_neg hmg]
        refine wpS_bind (wpS_modify ?_)
        refine wpS_bind (wpS_elem (get b1) ?_)
        refine wpS_bind (gal_up L rfl (mB b1) (by omega) (fun i x _ hx => mA' hx) (fun i j x y h1 h2 hx hy => ua.at_ (by omega) hx hy) (by omega) fun k hk hth => ?_)
        dsimp only
        by_cases hk0 : k > 0
        · rw [if_pos hk0]
          have J2 := J2'.ca k (fun j x h1 h2 hx y hy => by
            have hj := (Array.getElem?_eq_some_iff.mp hx).1
            have z : r x ≤ r b[kb] := (hth (j - ka) x (by omega) (by rw [show ka + (j - ka) = j by omega]; exact hx)).mp (by omega)
            have := hdB b1 y hy
            omega)
          by_cases he : ka + k + 1 = a.size
          · rw [if_pos (beq_iff_eq.mpr he)]
            exact wpS_pure (.inl ⟨_, _, rfl, lastA J2 he, rfl⟩)
          rw [if_neg (fun z => he (beq_iff_eq.mp z))]
          by_cases he2 : ka + k = a.size
          · rw [if_pos (beq_iff_eq.mpr he2)]
            exact wpS_pure (.inl ⟨_, _, rfl, doneA J2 he2, rfl⟩)
          rw [if_neg (fun z => he2 (beq_iff_eq.mp z))]
          have a2 : ka + k + 1 < a.size := by omega
          have nx : ¬ r a[ka + k] ≤ r b[kb] := fun z => by
            have := (hth k _ (by omega) (get (show ka + k < a.size by omega))).mpr z
            omega
          refine wpS_bind (wpS_elem (get b1) ?_)
          have J3 := J2.pb b1 (fun y hy => by have := hdA (show ka + k < a.size by omega) y hy; omega)
          by_cases he3 : kb + 1 = b.size
          · rw [if_pos (beq_iff_eq.mpr he3)]
            exact wpS_pure (.inl ⟨_, _, rfl, doneB J3 he3, rfl⟩)
          rw [if_neg (fun z => he3 (beq_iff_eq.mp z))]
          refine wpS_bind (wpS_elem (get (show ka + k < a.size by omega)) ?_)
          refine wpS_bind (gal_up L rfl (mA (show ka + k < a.size by omega)) (by omega) (fun i x _ hx => mB' hx) (fun i j x y h1 h2 hx hy => ub.at_ (by omega) hx hy) (by omega) fun k' hk' hth' => ?_)
          dsimp only
          by_cases hk1 : k' > 0
          · rw [if_pos hk1]
            have J4 := J3.cb k' (fun j x h1 h2 hx y hy => by
              have hj := (Array.getElem?_eq_some_iff.mp hx).1
              have z : r x < r a[ka + k] := (hth' (j - (kb + 1)) x (by omega) (by rw [show kb + 1 + (j - (kb + 1)) = j by omega]; exact hx)).mp (by omega)
              have := hdA (show ka + k < a.size by omega) y hy
              omega)
            by_cases he4 : kb + 1 + k' = b.size
            · rw [if_pos (beq_iff_eq.mpr he4)]
              exact wpS_pure (.inl ⟨_, _, rfl, doneB J4 he4, rfl⟩)
            rw [if_neg (fun z => he4 (beq_iff_eq.mp z))]
            have b2 : kb + 1 + k' < b.size := by omega
            have nx2 : ¬ r b[kb + 1 + k'] < r a[ka + k] := fun z => by
              have := (hth' k' _ (by omega) (get b2)).mpr z
              omega
            refine wpS_bind (wpS_elem (get (show ka + k < a.size by omega)) ?_)
            have J5 := J4.pa (show ka + k < a.size by omega) (fun y hy => by have := hdB b2 y hy; omega)
            by_cases he5 : ka + k + 1 + 1 = a.size
            · rw [if_pos (beq_iff_eq.mpr he5)]
              exact wpS_pure (.inl ⟨_, _, rfl, lastA J5 he5, rfl⟩)
            rw [if_neg (fun z => he5 (beq_iff_eq.mp z))]
            by_cases he6 : (decide (k < 7) && decide (k' < 7)) = true
            · rw [if_pos he6]
              exact wpS_pure (.inr ⟨rfl, J5, by show ka + k + 1 + 1 < a.size; omega, b2, by show _ ≤ ka + k + 1 + (kb + 1 + k'); omega, _, rfl⟩)
            · rw [if_neg he6]
              exact wpS_pure ⟨rfl, J5, by show ka + k + 1 + 1 < a.size; omega, b2, by show _ ≤ ka + k + 1 + (kb + 1 + k'); omega, _, rfl⟩
          · rw [if_neg hk1]
            have J4 := J3
            have b2 : kb + 1 < b.size := by omega
            have nx2 : ¬ r b[kb + 1] < r a[ka + k] := fun z => by
              have := (hth' 0 _ (by omega) (get b2)).mpr z
              omega
            refine wpS_bind (wpS_elem (get (show ka + k < a.size by omega)) ?_)
            have J5 := J4.pa (show ka + k < a.size by omega) (fun y hy => by have := hdB b2 y hy; omega)
            by_cases he5 : ka + k + 1 + 1 = a.size
            · rw [if_pos (beq_iff_eq.mpr he5)]
              exact wpS_pure (.inl ⟨_, _, rfl, lastA J5 he5, rfl⟩)
            rw [if_neg (fun z => he5 (beq_iff_eq.mp z))]
            by_cases he6 : (decide (k < 7) && decide (k' < 7)) = true
            · rw [if_pos he6]
              exact wpS_pure (.inr ⟨rfl, J5, by show ka + k + 1 + 1 < a.size; omega, b2, by show _ ≤ ka + k + 1 + (kb + 1); omega, _, rfl⟩)
            · rw [if_neg he6]
              exact wpS_pure ⟨rfl, J5, by show ka + k + 1 + 1 < a.size; omega, b2, by show _ ≤ ka + k + 1 + (kb + 1); omega, _, rfl⟩
        · rw [if_neg hk0]
          have J2 := J2'
          have nx : ¬ r a[ka] ≤ r b[kb] := fun z => by
            have := (hth 0 _ (by omega) (get (show ka < a.size by omega))).mpr z
            omega
          refine wpS_bind (wpS_elem (get b1) ?_)
          have J3 := J2.pb b1 (fun y hy => by have := hdA (show ka < a.size by omega) y hy; omega)
          by_cases he3 : kb + 1 = b.size
          · rw [if_pos (beq_iff_eq.mpr he3)]
            exact wpS_pure (.inl ⟨_, _, rfl, doneB J3 he3, rfl⟩)
          rw [if_neg (fun z => he3 (beq_iff_eq.mp z))]
          refine wpS_bind (wpS_elem (get (show ka < a.size by omega)) ?_)
          refine wpS_bind (gal_up L rfl (mA (show ka < a.size by omega)) (by omega) (fun i x _ hx => mB' hx) (fun i j x y h1 h2 hx hy => ub.at_ (by omega) hx hy) (by omega) fun k' hk' hth' => ?_)
          dsimp only
          by_cases hk1 : k' > 0
          · rw [if_pos hk1]
            have J4 := J3.cb k' (fun j x h1 h2 hx y hy => by
              have hj := (Array.getElem?_eq_some_iff.mp hx).1
              have z : r x < r a[ka] := (hth' (j - (kb + 1)) x (by omega) (by rw [show kb + 1 + (j - (kb + 1)) = j by omega]; exact hx)).mp (by omega)
              have := hdA (show ka < a.size by omega) y hy
              omega)
            by_cases he4 : kb + 1 + k' = b.size
            · rw [if_pos (beq_iff_eq.mpr he4)]
              exact wpS_pure (.inl ⟨_, _, rfl, doneB J4 he4, rfl⟩)
            rw [if_neg (fun z => he4 (beq_iff_eq.mp z))]
            have b2 : kb + 1 + k' < b.size := by omega
            have nx2 : ¬ r b[kb + 1 + k'] < r a[ka] := fun z => by
              have := (hth' k' _ (by omega) (get b2)).mpr z
              omega
            refine wpS_bind (wpS_elem (get (show ka < a.size by omega)) ?_)
            have J5 := J4.pa (show ka < a.size by omega) (fun y hy => by have := hdB b2 y hy; omega)
            by_cases he5 : ka + 1 + 1 = a.size
            · rw [if_pos (beq_iff_eq.mpr he5)]
              exact wpS_pure (.inl ⟨_, _, rfl, lastA J5 he5, rfl⟩)
            rw [if_neg (fun z => he5 (beq_iff_eq.mp z))]
            by_cases he6 : (decide (k < 7) && decide (k' < 7)) = true
            · rw [if_pos he6]
              exact wpS_pure (.inr ⟨rfl, J5, by show ka + 1 + 1 < a.size; omega, b2, by show _ ≤ ka + 1 + (kb + 1 + k'); omega, _, rfl⟩)
            · rw [if_neg he6]
              exact wpS_pure ⟨rfl, J5, by show ka + 1 + 1 < a.size; omega, b2, by show _ ≤ ka + 1 + (kb + 1 + k'); omega, _, rfl⟩
          · rw [if_neg hk1]
            have J4 := J3
            have b2 : kb + 1 < b.size := by omega
            have nx2 : ¬ r b[kb + 1] < r a[ka] := fun z => by
              have := (hth' 0 _ (by omega) (get b2)).mpr z
              omega
            refine wpS_bind (wpS_elem (get (show ka < a.size by omega)) ?_)
            have J5 := J4.pa (show ka < a.size by omega) (fun y hy => by have := hdB b2 y hy; omega)
            by_cases he5 : ka + 1 + 1 = a.size
            · rw [if_pos (beq_iff_eq.mpr he5)]
              exact wpS_pure (.inl ⟨_, _, rfl, lastA J5 he5, rfl⟩)
            rw [if_neg (fun z => he5 (beq_iff_eq.mp z))]
            by_cases he6 : (decide (k < 7) && decide (k' < 7)) = true
            · rw [if_pos he6]
              exact wpS_pure (.inr ⟨rfl, J5, by show ka + 1 + 1 < a.size; omega, b2, by show _ ≤ ka + 1 + (kb + 1); omega, _, rfl⟩)
            · rw [if_neg he6]
              exact wpS_pure ⟨rfl, J5, by show ka + 1 + 1 < a.size; omega, b2, by show _ ≤ ka + 1 + (kb + 1); omega, _, rfl⟩
    · rintro ⟨_, out2, ka, kb, mg2, ac2, bc2⟩ st' z
      exact .inr z
    rintro ⟨o2, out2, ka, kb, mg2, ac2, bc2⟩ st' hz
    dsimp only at *
    rcases hz with ⟨o, g2, rfl, ho, rfl⟩ | ⟨rfl, J2, a1, b1, pr2, g2, rfl⟩
    · exact wpS_pure ⟨o, g2, rfl, ho, rfl⟩
    · exact wpS_bind (wpS_modify (wpS_pure ⟨rfl, J2, a1, b1, by show x + 1 + 1 ≤ ka + kb; omega, _, rfl⟩))
  · rintro ⟨_, out, ia, ib, mg⟩ st' ⟨rfl, J, ia1, ib1, pr, g, rfl⟩
    dsimp only at *
    omega
  · rintro ⟨_, out, ia, ib, mg⟩ st' ⟨o, g, rfl, ho, rfl⟩
    exact wpS_pure (q o g ho)
end
end Mg
namespace Mg
open PySem PyProof.Rows
structure Ko (r : Keyed → Nat) (all_ t u v : List Keyed) : Prop where
  perm : (u ++ v ++ t).Perm all_
  st : Up r t
  su : Up r u
  sv : Up r v
  ut : ∀ x ∈ u, ∀ y ∈ t, r x ≤ r y
  vt : ∀ x ∈ v, ∀ y ∈ t, r x ≤ r y
theorem Ko.swap {r : Keyed → Nat} {al t u v : List Keyed} (J : Ko r al t u v) : Ko r al t v u :=
  ⟨((List.perm_append_comm (l₁ := v) (l₂ := u)).append_right t).trans J.perm, J.st, J.sv, J.su, J.vt, J.ut⟩
theorem Ko.b {r : Keyed → Nat} {al t p u v : List Keyed} (J : Ko r al t u (v ++ p)) (h : ∀ x ∈ u, ∀ y ∈ p, r x ≤ r y) : Ko r al (p ++ t) u v := by
  obtain ⟨j1, j2, j3, j4, j5, j6⟩ := J
  obtain ⟨k1, k2, k3⟩ := List.pairwise_append.mp j4
  refine ⟨by rw [← List.append_assoc, List.append_assoc u]; exact j1, List.pairwise_append.mpr ⟨k2, j2, fun x hx y hy => j6 x (List.mem_append_right _ hx) y hy⟩, j3, k1, fun x hx y hy => ?_, fun x hx y hy => ?_⟩
  · rcases List.mem_append.mp hy with z | z
    · exact h x hx y z
    · exact j5 x hx y z
  · rcases List.mem_append.mp hy with z | z
    · exact k3 x hx y z
    · exact j6 x (List.mem_append_left _ hx) y z
theorem Ko.a {r : Keyed → Nat} {al t p u v : List Keyed} (J : Ko r al t (u ++ p) v) (h : ∀ x ∈ v, ∀ y ∈ p, r x ≤ r y) : Ko r al (p ++ t) u v := (J.swap.b h).swap
theorem Ko.done {r : Keyed → Nat} {al t u v : List Keyed} (J : Ko r al t u v) (h : ∀ x ∈ u, ∀ y ∈ v, r x ≤ r y) : (u ++ v ++ t).Perm al ∧ Up r (u ++ v ++ t) :=
  ⟨J.perm, List.pairwise_append.mpr ⟨List.pairwise_append.mpr ⟨J.su, J.sv, h⟩, J.st, fun x hx y hy => (List.mem_append.mp hx).elim (fun z => J.ut x z y hy) (fun z => J.vt x z y hy)⟩⟩
abbrev Ka (r : Keyed → Nat) (a b out : Array Keyed) (na nb : Nat) : Prop := Ko r (a.toList ++ b.toList) out.toList.reverse (a.toList.take na) (b.toList.take nb)
theorem take_snoc {a : Array Keyed} {i : Nat} (h : i < a.size) : a.toList.take (i + 1) = a.toList.take i ++ [a[i]] := by
  rw [List.take_add_one, List.getElem?_eq_getElem (by rw [Array.length_toList]; exact h)]
  rfl
theorem take_ext {a : Array Keyed} {i j : Nat} (h : i ≤ j) : a.toList.take j = a.toList.take i ++ (a.extract i j).toList := by
  rw [Array.toList_extract, List.extract_eq_take_drop]
  have := List.take_append_drop i (a.toList.take j)
  rw [List.take_take, Nat.min_eq_left h, List.drop_take] at this
  exact this.symm
theorem ext0 (a : Array Keyed) (i : Nat) : (a.extract 0 i).toList = a.toList.take i := by
  rw [Array.toList_extract, List.extract_eq_take_drop]
  rfl
theorem Ka.fin1 {r : Keyed → Nat} {a b out : Array Keyed} {na nb : Nat} (J : Ka r a b out na nb) (h : ∀ x ∈ a.toList.take na, ∀ y ∈ b.toList.take nb, r x ≤ r y) : Rm r a b (a.extract 0 na ++ b.extract 0 nb ++ out.reverse) := by
  unfold Rm
  rw [Array.toList_append, Array.toList_append, ext0, ext0, Array.toList_reverse]
  exact J.done h
theorem Ka.fin2 {r : Keyed → Nat} {a b out : Array Keyed} {na nb : Nat} (J : Ka r a b out na nb) (h : ∀ x ∈ b.toList.take nb, ∀ y ∈ a.toList.take na, r x ≤ r y) : Rm r a b (b.extract 0 nb ++ a.extract 0 na ++ out.reverse) := by
  unfold Rm
  rw [Array.toList_append, Array.toList_append, ext0, ext0, Array.toList_reverse]
  exact Ko.done (Ko.swap J) h
theorem Ka.pa {r : Keyed → Nat} {a b out : Array Keyed} {na nb : Nat} (J : Ka r a b out (na + 1) nb) (ha : na < a.size) (h : ∀ x ∈ b.toList.take nb, r x ≤ r a[na]) : Ka r a b (out.push a[na]) na nb := by
  unfold Ka at J ⊢
  rw [take_snoc ha] at J
  rw [Array.toList_push, List.reverse_append]
  exact Ko.a (p := [a[na]]) J fun x hx y hy => by rw [List.mem_singleton.mp hy]; exact h x hx
theorem Ka.pb {r : Keyed → Nat} {a b out : Array Keyed} {na nb : Nat} (J : Ka r a b out na (nb + 1)) (hb : nb < b.size) (h : ∀ x ∈ a.toList.take na, r x ≤ r b[nb]) : Ka r a b (out.push b[nb]) na nb := by
  unfold Ka at J ⊢
  rw [take_snoc hb] at J
  rw [Array.toList_push, List.reverse_append]
  exact Ko.b (p := [b[nb]]) J fun x hx y hy => by rw [List.mem_singleton.mp hy]; exact h x hx
theorem Ka.ca {r : Keyed → Nat} {a b out : Array Keyed} {na nb : Nat} (J : Ka r a b out na nb) {k : Nat} (hk : k ≤ na) (h : ∀ j y, k ≤ j → j < na → a[j]? = some y → ∀ x ∈ b.toList.take nb, r x ≤ r y) : Ka r a b (out ++ (a.extract k na).reverse) k nb := by
  unfold Ka at J ⊢
  rw [take_ext hk] at J
  rw [Array.toList_append, List.reverse_append, Array.toList_reverse, List.reverse_reverse]
  exact Ko.a J fun x hx y hy => by
    obtain ⟨j, h1, h2, h3⟩ := mem_ext hy
    exact h j y h1 h2 h3 x hx
theorem Ka.cb {r : Keyed → Nat} {a b out : Array Keyed} {na nb : Nat} (J : Ka r a b out na nb) {k : Nat} (hk : k ≤ nb) (h : ∀ j y, k ≤ j → j < nb → b[j]? = some y → ∀ x ∈ a.toList.take na, r x ≤ r y) : Ka r a b (out ++ (b.extract k nb).reverse) na k := by
  unfold Ka at J ⊢
  rw [take_ext hk] at J
  rw [Array.toList_append, List.reverse_append, Array.toList_reverse, List.reverse_reverse]
  exact Ko.b J fun x hx y hy => by
    obtain ⟨j, h1, h2, h3⟩ := mem_ext hy
    exact h j y h1 h2 h3 x hx
theorem mem_take {a : Array Keyed} {i : Nat} {x : Keyed} (h : x ∈ a.toList.take i) : ∃ k, k < i ∧ a[k]? = some x := by
  obtain ⟨k, hk, e⟩ := List.getElem_of_mem h
  rw [List.length_take] at hk
  rw [List.getElem_take] at e
  refine ⟨k, by omega, ?_⟩
  rw [Array.getElem?_eq_getElem (by have := Array.length_toList (xs := a); omega), ← e]
  rfl
def mHi : Array Keyed → Array Keyed → StateT SortSt Sem (Array Keyed) := sortPriv% PySem.Builtin.mergeHi
end Mg
namespace Mg
open PySem PyProof.Rows
theorem Ka.pa' {r : Keyed → Nat} {a b out : Array Keyed} {na nb : Nat} (J : Ka r a b out na nb) (h0 : 0 < na) (ha : na - 1 < a.size) (h : ∀ x ∈ b.toList.take nb, r x ≤ r a[na - 1]) : Ka r a b (out.push a[na - 1]) (na - 1) nb := by
  have J' : Ka r a b out (na - 1 + 1) nb := by rw [show na - 1 + 1 = na by omega]; exact J
  exact J'.pa ha h
theorem Ka.pb' {r : Keyed → Nat} {a b out : Array Keyed} {na nb : Nat} (J : Ka r a b out na nb) (h0 : 0 < nb) (hb : nb - 1 < b.size) (h : ∀ x ∈ a.toList.take na, r x ≤ r b[nb - 1]) : Ka r a b (out.push b[nb - 1]) na (nb - 1) := by
  have J' : Ka r a b out na (nb - 1 + 1) := by rw [show nb - 1 + 1 = nb by omega]; exact J
  exact J'.pb hb h
section
variable {M : Model} {A : Around} {E : Value → Shared → Prop} {s : Shared}
theorem mHi_ok {κ : SortKind} {S : Keyed → Prop} {r : Keyed → Nat} (L : LtOk M A E s κ S r) {a b : Array Keyed} {st : SortSt} {Q : Array Keyed → SortSt → Prop} (hk : kindOf st = κ) (sa : ∀ x ∈ a.toList, S x) (sb : ∀ x ∈ b.toList, S x) (ha : 0 < a.size) (hb : 0 < b.size) (ua : Up r a.toList) (ub : Up r b.toList)
    (first : ∀ y ∈ a.toList, r b[0] ≤ r y) (last : ∀ y ∈ b.toList, r y ≤ r a[a.size - 1])
    (q : ∀ out g, Rm r a b out → Q out (mkG κ st g)) : wpS M A E s (mHi a b) Q st := by
  subst hk
  have get : ∀ {xs : Array Keyed} {i : Nat} (h : i < xs.size), xs[i]? = some xs[i] := fun h => Array.getElem?_eq_getElem h
  have htA : ∀ {i n : Nat} (h : i < a.size), n ≤ i + 1 → ∀ x ∈ a.toList.take n, r x ≤ r a[i] := fun {i n} h hn x hx => by
    obtain ⟨k, h1, h2⟩ := mem_take hx
    exact ua.at_ (by omega) h2 (get h)
  have htB : ∀ {i n : Nat} (h : i < b.size), n ≤ i + 1 → ∀ x ∈ b.toList.take n, r x ≤ r b[i] := fun {i n} h hn x hx => by
    obtain ⟨k, h1, h2⟩ := mem_take hx
    exact ub.at_ (by omega) h2 (get h)
  have doneA : ∀ {out : Array Keyed} {na nb : Nat}, Ka r a b out na nb → na = 0 → Rm r a b (a.extract 0 na ++ b.extract 0 nb ++ out.reverse) := fun {out na nb} J h => J.fin1 fun x hx y hy => by
    obtain ⟨k, h1, h2⟩ := mem_take hx
    omega
  have doneB : ∀ {out : Array Keyed} {na nb : Nat}, Ka r a b out na nb → nb = 0 → Rm r a b (a.extract 0 na ++ b.extract 0 nb ++ out.reverse) := fun {out na nb} J h => J.fin1 fun x hx y hy => by
    obtain ⟨k, h1, h2⟩ := mem_take hy
    omega
  have firstB : ∀ {out : Array Keyed} {na nb : Nat}, Ka r a b out na nb → nb = 1 → Rm r a b (b.extract 0 nb ++ a.extract 0 na ++ out.reverse) := fun {out na nb} J h => J.fin2 fun x hx y hy => by
    obtain ⟨k, h1, h2⟩ := mem_take hx
    obtain ⟨k1, e⟩ := Array.getElem?_eq_some_iff.mp h2
    have ek : k = 0 := by omega
    subst ek
    rw [← e]
    exact first y (List.mem_of_mem_take hy)
  have mA : ∀ {i : Nat} (h : i < a.size), S a[i] := fun h => sa _ (Array.getElem_mem_toList h)
  have mB : ∀ {i : Nat} (h : i < b.size), S b[i] := fun h => sb _ (Array.getElem_mem_toList h)
  have mA' : ∀ {i : Nat} {x : Keyed}, a[i]? = some x → S x := fun {i x} h => by
    obtain ⟨h1, rfl⟩ := Array.getElem?_eq_some_iff.mp h
    exact mA h1
  have mB' : ∀ {i : Nat} {x : Keyed}, b[i]? = some x → S x := fun {i x} h => by
    obtain ⟨h1, rfl⟩ := Array.getElem?_eq_some_iff.mp h
    exact mB h1
  refine wpS_bind (wpS_lift (wpAny_rule ⟨rfl, ?_⟩))
  refine wpS_bind (wpS_elem (get (show a.size - 1 < a.size by omega)) ?_)
  dsimp only
  have J0 : Ka r a b #[a[a.size - 1]] (a.size - 1) b.size := by
    have : Ka r a b #[] a.size b.size := ⟨by rw [List.take_of_length_le (by rw [Array.length_toList]; omega), List.take_of_length_le (by rw [Array.length_toList]; omega)]; exact (List.append_nil _).symm ▸ List.Perm.refl _, List.Pairwise.nil, by rw [List.take_of_length_le (by rw [Array.length_toList]; omega)]; exact ua, by rw [List.take_of_length_le (by rw [Array.length_toList]; omega)]; exact ub, (fun x _ y hy => by cases hy), (fun x _ y hy => by cases hy)⟩
    exact this.pa' ha (by omega) fun x hx => last x (List.mem_of_mem_take hx)
  by_cases h1 : a.size - 1 = 0
  · rw [if_pos (beq_iff_eq.mpr h1)]
    exact wpS_pure (q _ (gallopOf st) (doneA J0 h1))
  rw [if_neg (fun z => h1 (beq_iff_eq.mp z))]
  by_cases h2 : b.size = 1
  · rw [if_pos (beq_iff_eq.mpr h2)]
    exact wpS_pure (q _ (gallopOf st) (firstB J0 h2))
  rw [if_neg (fun z => h2 (beq_iff_eq.mp z))]
  refine wpS_bind (wpS_get ?_)
  refine wpS_bind (wpS_mono (wpS_forRange (I := fun x z st' => z.1 = none ∧ Ka r a b z.2.2.2.1 z.2.1 z.2.2.1 ∧ 0 < z.2.1 ∧ z.2.1 < a.size ∧ 1 < z.2.2.1 ∧ z.2.2.1 ≤ b.size ∧ x + 1 + z.2.1 + z.2.2.1 ≤ a.size + b.size ∧ ∃ g, st' = mkG (kindOf st) st g) (Q := fun z st' => ∃ o g, z.1 = some o ∧ Rm r a b o ∧ st' = mkG (kindOf st) st g) ?_ ?_ ⟨rfl, J0, by show 0 < a.size - 1; omega, by show a.size - 1 < a.size; omega, by show 1 < b.size; omega, Nat.le_refl _, by show 0 + 1 + (a.size - 1) + b.size ≤ _; omega, gallopOf st, rfl⟩) ?_)
  · rintro x ⟨_, oa, ob, out, mg⟩ st' _ hx ⟨rfl, J, oa0, oa1, ob1, ob2, pr, g, rfl⟩
    dsimp only at *
    refine wpS_bind (wpS_mono (wpS_forRange (I := fun y z st' => z.1 = none ∧ Ka r a b z.2.2.2.1 z.2.1 z.2.2.1 ∧ 0 < z.2.1 ∧ z.2.1 < a.size ∧ 1 < z.2.2.1 ∧ z.2.2.1 ≤ b.size ∧ z.2.1 + z.2.2.1 + y ≤ oa + ob ∧ st' = mkG (kindOf st) st g) (Q := fun z st' => st' = mkG (kindOf st) st g ∧ ((∃ o, z.1 = some o ∧ Rm r a b o) ∨ (z.1 = none ∧ Ka r a b z.2.2.2.1 z.2.1 z.2.2.1 ∧ 0 < z.2.1 ∧ z.2.1 < a.size ∧ 1 < z.2.2.1 ∧ z.2.2.1 ≤ b.size ∧ z.2.1 + z.2.2.1 + 1 ≤ oa + ob))) ?_ ?_ ⟨rfl, J, oa0, oa1, ob1, ob2, Nat.le_refl _, rfl⟩) ?_)
    · rintro y ⟨_, na, nb, out, ac, bc⟩ st' _ hy ⟨rfl, J, a0, a1, b1, b2, pr1, rfl⟩
      dsimp only at *
      refine wpS_bind (wpS_elem (get (show nb - 1 < b.size by omega)) (wpS_bind (wpS_elem (get (show na - 1 < a.size by omega)) (wpS_bind (L _ _ _ _ (mB (show nb - 1 < b.size by omega)) (mA (show na - 1 < a.size by omega)) rfl ?_)))))
      by_cases hw : r b[nb - 1] < r a[na - 1]
      · rw [decide_eq_true hw]
        refine wpS_bind (wpS_elem (get (show na - 1 < a.size by omega)) ?_)
        have J' := J.pa' a0 (show na - 1 < a.size by omega) fun x hx => by have := htB (show nb - 1 < b.size by omega) (show nb ≤ nb - 1 + 1 by omega) x hx; omega
        by_cases he : na - 1 = 0
        · rw [if_pos (beq_iff_eq.mpr he)]
          exact wpS_pure ⟨rfl, .inl ⟨_, rfl, doneA J' he⟩⟩
        rw [if_neg (fun z => he (beq_iff_eq.mp z))]
        by_cases hm : ac + 1 ≥ mg
        · rw [if_pos hm]
          exact wpS_pure ⟨rfl, .inr ⟨rfl, J', by show 0 < na - 1; omega, by show na - 1 < a.size; omega, b1, b2, by show na - 1 + nb + 1 ≤ _; omega⟩⟩
        · rw [if_neg hm]
          exact wpS_pure ⟨rfl, J', by show 0 < na - 1; omega, by show na - 1 < a.size; omega, b1, b2, by show na - 1 + nb + (y + 1) ≤ _; omega, rfl⟩
      · rw [decide_eq_false hw]
        refine wpS_bind (wpS_elem (get (show nb - 1 < b.size by omega)) ?_)
        have J' := J.pb' (show 0 < nb by omega) (show nb - 1 < b.size by omega) fun x hx => by have := htA (show na - 1 < a.size by omega) (show na ≤ na - 1 + 1 by omega) x hx; omega
        by_cases he : nb - 1 = 1
        · rw [if_pos (beq_iff_eq.mpr he)]
          exact wpS_pure ⟨rfl, .inl ⟨_, rfl, firstB J' he⟩⟩
        rw [if_neg (fun z => he (beq_iff_eq.mp z))]
        by_cases hm : bc + 1 ≥ mg
        · rw [if_pos hm]
          exact wpS_pure ⟨rfl, .inr ⟨rfl, J', a0, a1, by show 1 < nb - 1; omega, by show nb - 1 ≤ b.size; omega, by show na + (nb - 1) + 1 ≤ _; omega⟩⟩
        · rw [if_neg hm]
          exact wpS_pure ⟨rfl, J', a0, a1, by show 1 < nb - 1; omega, by show nb - 1 ≤ b.size; omega, by show na + (nb - 1) + (y + 1) ≤ _; omega, rfl⟩
    · rintro ⟨_, na, nb, out, ac, bc⟩ st' ⟨rfl, J, a0, a1, b1, b2, pr1, rfl⟩
      dsimp only at *
      exact ⟨rfl, .inr ⟨rfl, J, a0, a1, b1, b2, by omega⟩⟩
    rintro ⟨o1, ja, jb, out1, ac, bc⟩ st' ⟨rfl, hz⟩
    dsimp only at *
    rcases hz with ⟨o, rfl, ho⟩ | ⟨rfl, J1, ja0, ja1, jb1, jb2, pr1⟩
    · exact wpS_pure ⟨o, g, rfl, ho, rfl⟩
    refine wpS_bind (wpS_lift (wpAny_rule ⟨rfl, ?_⟩))
    refine wpS_bind (wpS_mono (wpS_forRange (I := fun y z st' => z.1 = none ∧ Ka r a b z.2.2.2.1 z.2.1 z.2.2.1 ∧ 0 < z.2.1 ∧ z.2.1 < a.size ∧ 1 < z.2.2.1 ∧ z.2.2.1 ≤ b.size ∧ z.2.1 + z.2.2.1 + 1 ≤ oa + ob ∧ ∃ g, st' = mkG (kindOf st) st g) (Q := fun z st' => (∃ o g, z.1 = some o ∧ Rm r a b o ∧ st' = mkG (kindOf st) st g) ∨ (z.1 = none ∧ Ka r a b z.2.2.2.1 z.2.1 z.2.2.1 ∧ 0 < z.2.1 ∧ z.2.1 < a.size ∧ 1 < z.2.2.1 ∧ z.2.2.1 ≤ b.size ∧ z.2.1 + z.2.2.1 + 1 ≤ oa + ob ∧ ∃ g, st' = mkG (kindOf st) st g)) ?_ ?_ ⟨rfl, J1, ja0, ja1, jb1, jb2, pr1, g, rfl⟩) ?_)
    · rintro y ⟨_, na, nb, out2, mg2, ac2, bc2⟩ st' _ hy ⟨rfl, J2', a0, a1, b1, b2, pr2, g2, rfl⟩
      dsimp only at *
      by_cases hmg : mg2 > 1
      · rw [if_pos hmg]
        refine wpS_bind (wpS_modify ?_)
        refine wpS_bind (wpS_elem (get (show nb - 1 < b.size by omega)) ?_)
        refine wpS_bind (gal_up L rfl (mB (show nb - 1 < b.size by omega)) (by omega) (fun i x _ hx => mA' hx) (fun i j x y h1 h2 hx hy => ua.at_ (by omega) hx hy) (by omega) fun c hc hth => ?_)
        dsimp only
        have lowA : ∀ x ∈ a.toList.take c, r x ≤ r b[nb - 1] := fun x hx => by
          obtain ⟨i, h1, h2⟩ := mem_take hx
          exact (hth i x (by omega) (by rw [Nat.zero_add]; exact h2)).mp h1
        by_cases hk0 : na - c > 0
        · rw [if_pos hk0]
          have J2 := J2'.ca (k := c) (by omega) (fun j y h1 h2 hy x hx => by
            have z : ¬ r y ≤ r b[nb - 1] := fun z => by
              have := (hth j y (by omega) (by rw [Nat.zero_add]; exact hy)).mpr z
              omega
            have := htB (show nb - 1 < b.size by omega) (show nb ≤ nb - 1 + 1 by omega) x hx
            omega)
          by_cases he : c = 0
          · rw [if_pos (beq_iff_eq.mpr he)]
            exact wpS_pure (.inl ⟨_, _, rfl, doneA J2 he, rfl⟩)
          rw [if_neg (fun z => he (beq_iff_eq.mp z))]
          have nA : 0 < c := by omega
          have nx := lowA
          refine wpS_bind (wpS_elem (get (show nb - 1 < b.size by omega)) ?_)
          have J3 := J2.pb' (show 0 < nb by omega) (show nb - 1 < b.size by omega) nx
          by_cases he3 : nb - 1 = 1
          · rw [if_pos (beq_iff_eq.mpr he3)]
            exact wpS_pure (.inl ⟨_, _, rfl, firstB J3 he3, rfl⟩)
          rw [if_neg (fun z => he3 (beq_iff_eq.mp z))]
          refine wpS_bind (wpS_elem (get (show c - 1 < a.size by omega)) ?_)
          refine wpS_bind (gal_up L rfl (mA (show c - 1 < a.size by omega)) (by omega) (fun i x _ hx => mB' hx) (fun i j x y h1 h2 hx hy => ub.at_ (by omega) hx hy) (by omega) fun c' hc' hth' => ?_)
          dsimp only
          have lowB : ∀ x ∈ b.toList.take c', r x ≤ r a[c - 1] := fun x hx => by
            obtain ⟨i, h1, h2⟩ := mem_take hx
            have z : r x < r a[c - 1] := (hth' i x (by omega) (by rw [Nat.zero_add]; exact h2)).mp h1
            omega
          by_cases hk1 : nb - 1 - c' > 0
          · rw [if_pos hk1]
            have J4 := J3.cb (k := c') (by omega) (fun j y h1 h2 hy x hx => by
              have z : ¬ r y < r a[c - 1] := fun z => by
                have := (hth' j y (by omega) (by rw [Nat.zero_add]; exact hy)).mpr z
                omega
              have := htA (show c - 1 < a.size by omega) (show c ≤ c - 1 + 1 by omega) x hx
              omega)
            by_cases he4 : c' = 1
            · rw [if_pos (beq_iff_eq.mpr he4)]
              exact wpS_pure (.inl ⟨_, _, rfl, firstB J4 he4, rfl⟩)
            rw [if_neg (fun z => he4 (beq_iff_eq.mp z))]
            by_cases he7 : c' = 0
            · rw [if_pos (beq_iff_eq.mpr he7)]
              exact wpS_pure (.inl ⟨_, _, rfl, doneB J4 he7, rfl⟩)
            rw [if_neg (fun z => he7 (beq_iff_eq.mp z))]
            have nx2 := lowB
            refine wpS_bind (wpS_elem (get (show c - 1 < a.size by omega)) ?_)
            have J5 := J4.pa' nA (show c - 1 < a.size by omega) nx2
            by_cases he5 : c - 1 = 0
            · rw [if_pos (beq_iff_eq.mpr he5)]
              exact wpS_pure (.inl ⟨_, _, rfl, doneA J5 he5, rfl⟩)
            rw [if_neg (fun z => he5 (beq_iff_eq.mp z))]
            by_cases he6 : (decide (na - c < 7) && decide (nb - 1 - c' < 7)) = true
            · rw [if_pos he6]
              exact wpS_pure (.inr ⟨rfl, J5, by show 0 < c - 1; omega, by show c - 1 < a.size; omega, by show 1 < c'; omega, by show c' ≤ b.size; omega, by show c - 1 + (c') + 1 ≤ _; omega, _, rfl⟩)
            · rw [if_neg he6]
              exact wpS_pure ⟨rfl, J5, by show 0 < c - 1; omega, by show c - 1 < a.size; omega, by show 1 < c'; omega, by show c' ≤ b.size; omega, by show c - 1 + (c') + 1 ≤ _; omega, _, rfl⟩
          · rw [if_neg hk1]
            have J4 := J3
            have ec : c' = nb - 1 := by omega
            have nx2 : ∀ x ∈ b.toList.take (nb - 1), r x ≤ r a[c - 1] := by rw [← ec]; exact lowB
            refine wpS_bind (wpS_elem (get (show c - 1 < a.size by omega)) ?_)
            have J5 := J4.pa' nA (show c - 1 < a.size by omega) nx2
            by_cases he5 : c - 1 = 0
            · rw [if_pos (beq_iff_eq.mpr he5)]
              exact wpS_pure (.inl ⟨_, _, rfl, doneA J5 he5, rfl⟩)
            rw [if_neg (fun z => he5 (beq_iff_eq.mp z))]
            by_cases he6 : (decide (na - c < 7) && decide (nb - 1 - c' < 7)) = true
            · rw [if_pos he6]
              exact wpS_pure (.inr ⟨rfl, J5, by show 0 < c - 1; omega, by show c - 1 < a.size; omega, by show 1 < nb - 1; omega, by show nb - 1 ≤ b.size; omega, by show c - 1 + (nb - 1) + 1 ≤ _; omega, _, rfl⟩)
            · rw [if_neg he6]
              exact wpS_pure ⟨rfl, J5, by show 0 < c - 1; omega, by show c - 1 < a.size; omega, by show 1 < nb - 1; omega, by show nb - 1 ≤ b.size; omega, by show c - 1 + (nb - 1) + 1 ≤ _; omega, _, rfl⟩
        · rw [if_neg hk0]
          have J2 := J2'
          have ec0 : c = na := by omega
          have nA : 0 < na := a0
          have nx : ∀ x ∈ a.toList.take na, r x ≤ r b[nb - 1] := by rw [← ec0]; exact lowA
          refine wpS_bind (wpS_elem (get (show nb - 1 < b.size by omega)) ?_)
          have J3 := J2.pb' (show 0 < nb by omega) (show nb - 1 < b.size by omega) nx
          by_cases he3 : nb - 1 = 1
          · rw [if_pos (beq_iff_eq.mpr he3)]
            exact wpS_pure (.inl ⟨_, _, rfl, firstB J3 he3, rfl⟩)
          rw [if_neg (fun z => he3 (beq_iff_eq.mp z))]
          refine wpS_bind (wpS_elem (get (show na - 1 < a.size by omega)) ?_)
          refine wpS_bind (gal_up L rfl (mA (show na - 1 < a.size by omega)) (by omega) (fun i x _ hx => mB' hx) (fun i j x y h1 h2 hx hy => ub.at_ (by omega) hx hy) (by omega) fun c' hc' hth' => ?_)
          dsimp only
          have lowB : ∀ x ∈ b.toList.take c', r x ≤ r a[na - 1] := fun x hx => by
            obtain ⟨i, h1, h2⟩ := mem_take hx
            have z : r x < r a[na - 1] := (hth' i x (by omega) (by rw [Nat.zero_add]; exact h2)).mp h1
            omega
          by_cases hk1 : nb - 1 - c' > 0
          · rw [if_pos hk1]
            have J4 := J3.cb (k := c') (by omega) (fun j y h1 h2 hy x hx => by
              have z : ¬ r y < r a[na - 1] := fun z => by
                have := (hth' j y (by omega) (by rw [Nat.zero_add]; exact hy)).mpr z
                omega
              have := htA (show na - 1 < a.size by omega) (show na ≤ na - 1 + 1 by omega) x hx
              omega)
            by_cases he4 : c' = 1
            · rw [if_pos (beq_iff_eq.mpr he4)]
              exact wpS_pure (.inl ⟨_, _, rfl, firstB J4 he4, rfl⟩)
            rw [if_neg (fun z => he4 (beq_iff_eq.mp z))]
            by_cases he7 : c' = 0
            · rw [if_pos (beq_iff_eq.mpr he7)]
              exact wpS_pure (.inl ⟨_, _, rfl, doneB J4 he7, rfl⟩)
            rw [if_neg (fun z => he7 (beq_iff_eq.mp z))]
            have nx2 := lowB
            refine wpS_bind (wpS_elem (get (show na - 1 < a.size by omega)) ?_)
            have J5 := J4.pa' nA (show na - 1 < a.size by omega) nx2
            by_cases he5 : na - 1 = 0
            · rw [if_pos (beq_iff_eq.mpr he5)]
              exact wpS_pure (.inl ⟨_, _, rfl, doneA J5 he5, rfl⟩)
            rw [if_neg (fun z => he5 (beq_iff_eq.mp z))]
            by_cases he6 : (decide (na - c < 7) && decide (nb - 1 - c' < 7)) = true
            · rw [if_pos he6]
              exact wpS_pure (.inr ⟨rfl, J5, by show 0 < na - 1; omega, by show na - 1 < a.size; omega, by show 1 < c'; omega, by show c' ≤ b.size; omega, by show na - 1 + (c') + 1 ≤ _; omega, _, rfl⟩)
            · rw [if_neg he6]
              exact wpS_pure ⟨rfl, J5, by show 0 < na - 1; omega, by show na - 1 < a.size; omega, by show 1 < c'; omega, by show c' ≤ b.size; omega, by show na - 1 + (c') + 1 ≤ _; omega, _, rfl⟩
          · rw [if_neg hk1]
            have J4 := J3
            have ec : c' = nb - 1 := by omega
            have nx2 : ∀ x ∈ b.toList.take (nb - 1), r x ≤ r a[na - 1] := by rw [← ec]; exact lowB
            refine wpS_bind (wpS_elem (get (show na - 1 < a.size by omega)) ?_)
            have J5 := J4.pa' nA (show na - 1 < a.size by omega) nx2
            by_cases he5 : na - 1 = 0
            · rw [if_pos (beq_iff_eq.mpr he5)]
              exact wpS_pure (.inl ⟨_, _, rfl, doneA J5 he5, rfl⟩)
            rw [if_neg (fun z => he5 (beq_iff_eq.mp z))]
            by_cases he6 : (decide (na - c < 7) && decide (nb - 1 - c' < 7)) = true
            · rw [if_pos he6]
              exact wpS_pure (.inr ⟨rfl, J5, by show 0 < na - 1; omega, by show na - 1 < a.size; omega, by show 1 < nb - 1; omega, by show nb - 1 ≤ b.size; omega, by show na - 1 + (nb - 1) + 1 ≤ _; omega, _, rfl⟩)
            · rw [if_neg he6]
              exact wpS_pure ⟨rfl, J5, by show 0 < na - 1; omega, by show na - 1 < a.size; omega, by show 1 < nb - 1; omega, by show nb - 1 ≤ b.size; omega, by show na - 1 + (nb - 1) + 1 ≤ _; omega, _, rfl⟩
      · rw [if_neg hmg]
        refine wpS_bind (wpS_modify ?_)
        refine wpS_bind (wpS_elem (get (show nb - 1 < b.size by omega)) ?_)
        refine wpS_bind (gal_up L rfl (mB (show nb - 1 < b.size by omega)) (by omega) (fun i x _ hx => mA' hx) (fun i j x y h1 h2 hx hy => ua.at_ (by omega) hx hy) (by omega) fun c hc hth => ?_)
        dsimp only
        have lowA : ∀ x ∈ a.toList.take c, r x ≤ r b[nb - 1] := fun x hx => by
          obtain ⟨i, h1, h2⟩ := mem_take hx
          exact (hth i x (by omega) (by rw [Nat.zero_add]; exact h2)).mp h1
        by_cases hk0 : na - c > 0
        · rw [if_pos hk0]
          have J2 := J2'.ca (k := c) (by omega) (fun j y h1 h2 hy x hx => by
            have z : ¬ r y ≤ r b[nb - 1] := fun z => by
              have := (hth j y (by omega) (by rw [Nat.zero_add]; exact hy)).mpr z
              omega
            have := htB (show nb - 1 < b.size by omega) (show nb ≤ nb - 1 + 1 by omega) x hx
            omega)
          by_cases he : c = 0
          · rw [if_pos (beq_iff_eq.mpr he)]
            exact wpS_pure (.inl ⟨_, _, rfl, doneA J2 he, rfl⟩)
          rw [if_neg (fun z => he (beq_iff_eq.mp z))]
          have nA : 0 < c := by omega
          have nx := lowA
          refine wpS_bind (wpS_elem (get (show nb - 1 < b.size by omega)) ?_)
          have J3 := J2.pb' (show 0 < nb by omega) (show nb - 1 < b.size by omega) nx
          by_cases he3 : nb - 1 = 1
          · rw [if_pos (beq_iff_eq.mpr he3)]
            exact wpS_pure (.inl ⟨_, _, rfl, firstB J3 he3, rfl⟩)
          rw [if_neg (fun z => he3 (beq_iff_eq.mp z))]
          refine wpS_bind (wpS_elem (get (show c - 1 < a.size by omega)) ?_)
          refine wpS_bind (gal_up L rfl (mA (show c - 1 < a.size by omega)) (by omega) (fun i x _ hx => mB' hx) (fun i j x y h1 h2 hx hy => ub.at_ (by omega) hx hy) (by omega) fun c' hc' hth' => ?_)
          dsimp only
          have lowB : ∀ x ∈ b.toList.take c', r x ≤ r a[c - 1] := fun x hx => by
            obtain ⟨i, h1, h2⟩ := mem_take hx
            have z : r x < r a[c - 1] := (hth' i x (by omega) (by rw [Nat.zero_add]; exact h2)).mp h1
            omega
          by_cases hk1 : nb - 1 - c' > 0
          · rw [if_pos hk1]
            have J4 := J3.cb (k := c') (by omega) (fun j y h1 h2 hy x hx => by
              have z : ¬ r y < r a[c - 1] := fun z => by
                have := (hth' j y (by omega) (by rw [Nat.zero_add]; exact hy)).mpr z
                omega
              have := htA (show c - 1 < a.size by omega) (show c ≤ c - 1 + 1 by omega) x hx
              omega)
            by_cases he4 : c' = 1
            · rw [if_pos (beq_iff_eq.mpr he4)]
              exact wpS_pure (.inl ⟨_, _, rfl, firstB J4 he4, rfl⟩)
            rw [if_neg (fun z => he4 (beq_iff_eq.mp z))]
            by_cases he7 : c' = 0
            · rw [if_pos (beq_iff_eq.mpr he7)]
              exact wpS_pure (.inl ⟨_, _, rfl, doneB J4 he7, rfl⟩)
            rw [if_neg (fun z => he7 (beq_iff_eq.mp z))]
            have nx2 := lowB
            refine wpS_bind (wpS_elem (get (show c - 1 < a.size by omega)) ?_)
            have J5 := J4.pa' nA (show c - 1 < a.size by omega) nx2
            by_cases he5 : c - 1 = 0
            · rw [if_pos (beq_iff_eq.mpr he5)]
              exact wpS_pure (.inl ⟨_, _, rfl, doneA J5 he5, rfl⟩)
            rw [if_neg (fun z => he5 (beq_iff_eq.mp z))]
            by_cases he6 : (decide (na - c < 7) && decide (nb - 1 - c' < 7)) = true
            · rw [if_pos he6]
              exact wpS_pure (.inr ⟨rfl, J5, by show 0 < c - 1; omega, by show c - 1 < a.size; omega, by show 1 < c'; omega, by show c' ≤ b.size; omega, by show c - 1 + (c') + 1 ≤ _; omega, _, rfl⟩)
            · rw [if_neg he6]
              exact wpS_pure ⟨rfl, J5, by show 0 < c - 1; omega, by show c - 1 < a.size; omega, by show 1 < c'; omega, by show c' ≤ b.size; omega, by show c - 1 + (c') + 1 ≤ _; omega, _, rfl⟩
          · rw [if_neg hk1]
            have J4 := J3
            have ec : c' = nb - 1 := by omega
            have nx2 : ∀ x ∈ b.toList.take (nb - 1), r x ≤ r a[c - 1] := by rw [← ec]; exact lowB
            refine wpS_bind (wpS_elem (get (show c - 1 < a.size by omega)) ?_)
            have J5 := J4.pa' nA (show c - 1 < a.size by omega) nx2
            by_cases he5 : c - 1 = 0
            · rw [if_pos (beq_iff_eq.mpr he5)]
              exact wpS_pure (.inl ⟨_, _, rfl, doneA J5 he5, rfl⟩)
            rw [if_neg (fun z => he5 (beq_iff_eq.mp z))]
            by_cases he6 : (decide (na - c < 7) && decide (nb - 1 - c' < 7)) = true
            · rw [if_pos he6]
              exact wpS_pure (.inr ⟨rfl, J5, by show 0 < c - 1; omega, by show c - 1 < a.size; omega, by show 1 < nb - 1; omega, by show nb - 1 ≤ b.size; omega, by show c - 1 + (nb - 1) + 1 ≤ _; omega, _, rfl⟩)
            · rw [if_neg he6]
              exact wpS_pure ⟨rfl, J5, by show 0 < c - 1; omega, by show c - 1 < a.size; omega, by show 1 < nb - 1; omega, by show nb - 1 ≤ b.size; omega, by show c - 1 + (nb - 1) + 1 ≤ _; omega, _, rfl⟩
        · rw [if_neg hk0]
          have J2 := J2'
          have ec0 : c = na := by omega
          have nA : 0 < na := a0
          have nx : ∀ x ∈ a.toList.take na, r x ≤ r b[nb - 1] := by rw [← ec0]; exact lowA
          refine wpS_bind (wpS_elem (get (show nb - 1 < b.size by omega)) ?_)
          have J3 := J2.pb' (show 0 < nb by omega) (show nb - 1 < b.size by omega) nx
          by_cases he3 : nb - 1 = 1
          · rw [if_pos (beq_iff_eq.mpr he3)]
            exact wpS_pure (.inl ⟨_, _, rfl, firstB J3 he3, rfl⟩)
          rw [if_neg (fun z => he3 (beq_iff_eq.mp z))]
          refine wpS_bind (wpS_elem (get (show na - 1 < a.size by omega)) ?_)
          refine wpS_bind (gal_up L rfl (mA (show na - 1 < a.size by omega)) (by omega) (fun i x _ hx => mB' hx) (fun i j x y h1 h2 hx hy => ub.at_ (by omega) hx hy) (by omega) fun c' hc' hth' => ?_)
          dsimp only
          have lowB : ∀ x ∈ b.toList.take c', r x ≤ r a[na - 1] := fun x hx => by
            obtain ⟨i, h1, h2⟩ := mem_take hx
            have z : r x < r a[na - 1] := (hth' i x (by omega) (by rw [Nat.zero_add]; exact h2)).mp h1
            omega
          by_cases hk1 : nb - 1 - c' > 0
          · rw [if_pos hk1]
            have J4 := J3.cb (k := c') (by omega) (fun j y h1 h2 hy x hx => by
              have z : ¬ r y < r a[na - 1] := fun z => by
                have := (hth' j y (by omega) (by rw [Nat.zero_add]; exact hy)).mpr z
                omega
              have := htA (show na - 1 < a.size by omega) (show na ≤ na - 1 + 1 by omega) x hx
              omega)
            by_cases he4 : c' = 1
            · rw [if_pos (beq_iff_eq.mpr he4)]
              exact wpS_pure (.inl ⟨_, _, rfl, firstB J4 he4, rfl⟩)
            rw [if_neg (fun z => he4 (beq_iff_eq.mp z))]
            by_cases he7 : c' = 0
            · rw [if_pos (beq_iff_eq.mpr he7)]
              exact wpS_pure (.inl ⟨_, _, rfl, doneB J4 he7, rfl⟩)
            rw [if_neg (fun z => he7 (beq_iff_eq.mp z))]
            have nx2 := lowB
            refine wpS_bind (wpS_elem (get (show na - 1 < a.size by omega)) ?_)
            have J5 := J4.pa' nA (show na - 1 < a.size by omega) nx2
            by_cases he5 : na - 1 = 0
            · rw [if_pos (beq_iff_eq.mpr he5)]
              exact wpS_pure (.inl ⟨_, _, rfl, doneA J5 he5, rfl⟩)
            rw [if_neg (fun z => he5 (beq_iff_eq.mp z))]
            by_cases he6 : (decide (na - c < 7) && decide (nb - 1 - c' < 7)) = true
            · rw [if_pos he6]
              exact wpS_pure (.inr ⟨rfl, J5, by show 0 < na - 1; omega, by show na - 1 < a.size; omega, by show 1 < c'; omega, by show c' ≤ b.size; omega, by show na - 1 + (c') + 1 ≤ _; omega, _, rfl⟩)
            · rw [if_neg he6]
              exact wpS_pure ⟨rfl, J5, by show 0 < na - 1; omega, by show na - 1 < a.size; omega, by show 1 < c'; omega, by show c' ≤ b.size; omega, by show na - 1 + (c') + 1 ≤ _; omega, _, rfl⟩
          · rw [if_neg hk1]
            have J4 := J3
            have ec : c' = nb - 1 := by omega
            have nx2 : ∀ x ∈ b.toList.take (nb - 1), r x ≤ r a[na - 1] := by rw [← ec]; exact lowB
            refine wpS_bind (wpS_elem (get (show na - 1 < a.size by omega)) ?_)
            have J5 := J4.pa' nA (show na - 1 < a.size by omega) nx2
            by_cases he5 : na - 1 = 0
            · rw [if_pos (beq_iff_eq.mpr he5)]
              exact wpS_pure (.inl ⟨_, _, rfl, doneA J5 he5, rfl⟩)
            rw [if_neg (fun z => he5 (beq_iff_eq.mp z))]
            by_cases he6 : (decide (na - c < 7) && decide (nb - 1 - c' < 7)) = true
            · rw [if_pos he6]
              exact wpS_pure (.inr ⟨rfl, J5, by show 0 < na - 1; omega, by show na - 1 < a.size; omega, by show 1 < nb - 1; omega, by show nb - 1 ≤ b.size; omega, by show na - 1 + (nb - 1) + 1 ≤ _; omega, _, rfl⟩)
            · rw [if_neg he6]
              exact wpS_pure ⟨rfl, J5, by show 0 < na - 1; omega, by show na - 1 < a.size; omega, by show 1 < nb - 1; omega, by show nb - 1 ≤ b.size; omega, by show na - 1 + (nb - 1) + 1 ≤ _; omega, _, rfl⟩
    · rintro ⟨_, na, nb, out2, mg2, ac2, bc2⟩ st' z
      exact .inr z
    rintro ⟨o2, na, nb, out2, mg2, ac2, bc2⟩ st' hz
    dsimp only at *
    rcases hz with ⟨o, g2, rfl, ho, rfl⟩ | ⟨rfl, J2, a0, a1, b1, b2, pr2, g2, rfl⟩
    · exact wpS_pure ⟨o, g2, rfl, ho, rfl⟩
    · exact wpS_bind (wpS_modify (wpS_pure ⟨rfl, J2, a0, a1, b1, b2, by show x + 1 + 1 + na + nb ≤ _; omega, _, rfl⟩))
  · rintro ⟨_, oa, ob, out, mg⟩ st' ⟨rfl, J, oa0, oa1, ob1, ob2, pr, g, rfl⟩
    dsimp only at *
    omega
  · rintro ⟨_, oa, ob, out, mg⟩ st' ⟨o, g, rfl, ho, rfl⟩
    exact wpS_pure (q o g ho)
end
end Mg
namespace Mg
open PySem PyProof.Rows
theorem lay_get (k : Nat) : ∀ (l : List (Keyed × Nat)) (xs : Array Keyed) (n : Nat), (∀ (j : Nat) p, l[j]? = some p → p.2 = n + j) → k + n + l.length ≤ xs.size → ∀ i : Nat, (l.foldl (fun a p => a.setIfInBounds (k + p.2) p.1) xs)[i]? = if k + n ≤ i ∧ i < k + n + l.length then (l[i - (k + n)]?).map (·.1) else xs[i]?
  | [], xs, n, _, _, i => by
    rw [if_neg (by rw [List.length_nil]; omega)]
    rfl
  | p :: l, xs, n, h, hl, i => by
    have h0 : p.2 = n := h 0 p rfl
    rw [List.length_cons] at hl ⊢
    rw [List.foldl_cons, lay_get k l _ (n + 1) (fun j p' e => by have := h (j + 1) p' e; omega) (by rw [Array.size_setIfInBounds]; omega) i, h0]
    by_cases e : i = k + n
    · subst e
      rw [if_neg (by omega), if_pos (by omega), Array.getElem?_setIfInBounds_self_of_lt (by omega), Nat.sub_self]
      rfl
    · by_cases h2 : k + (n + 1) ≤ i ∧ i < k + (n + 1) + l.length
      · rw [if_pos h2, if_pos (by omega), show i - (k + n) = i - (k + (n + 1)) + 1 by omega]
        rfl
      · rw [if_neg h2, if_neg (by omega), Array.getElem?_setIfInBounds_ne (Ne.symm e)]
theorem up_of {r : Keyed → Nat} {xs : Array Keyed} (h : ∀ (i j : Nat) x y, i < j → xs[i]? = some x → xs[j]? = some y → r x ≤ r y) : Up r xs.toList := by
  refine List.pairwise_iff_getElem.mpr fun i j hi hj hij => ?_
  rw [Array.length_toList] at hi hj
  exact h i j _ _ hij (Array.getElem?_eq_getElem hi) (Array.getElem?_eq_getElem hj)
theorem lay_list {xs out : Array Keyed} {k m : Nat} (hm : k + out.size = m) (hs : m ≤ xs.size) : (out.toList.zipIdx.foldl (fun a p => a.setIfInBounds (k + p.2) p.1) xs).toList = xs.toList.take k ++ (out.toList ++ xs.toList.drop m) := by
  refine List.ext_getElem? fun i => ?_
  have lz : out.toList.zipIdx.length = out.size := by rw [List.length_zipIdx, Array.length_toList]
  have e := lay_get k out.toList.zipIdx xs 0 (fun j p e => by
    rw [List.getElem?_zipIdx] at e
    cases e2 : out.toList[j]? with
    | none => rw [e2] at e; cases e
    | some v => rw [e2] at e; cases e; rfl) (by rw [lz]; omega) i
  rw [Array.getElem?_toList, e, lz]
  have lt : (xs.toList.take k).length = k := by rw [List.length_take, Array.length_toList]; omega
  by_cases h1 : i < k
  · rw [if_neg (by omega), List.getElem?_append_left (by omega), List.getElem?_take_of_lt h1, Array.getElem?_toList]
  · rw [List.getElem?_append_right (by omega), lt]
    by_cases h2 : i < m
    · rw [if_pos (by omega), List.getElem?_append_left (by rw [Array.length_toList]; omega), List.getElem?_zipIdx, Option.map_map]
      show Option.map id _ = _
      rw [Option.map_id, Nat.add_zero]
      rfl
    · rw [if_neg (by omega), List.getElem?_append_right (by rw [Array.length_toList]; omega), List.getElem?_drop, Array.length_toList, Array.getElem?_toList]
      congr 1
      omega
section
variable {M : Model} {A : Around} {E : Value → Shared → Prop} {s : Shared}
theorem wpS_set {σ : Type} {x : σ} {Q : PUnit → σ → Prop} {st : σ} (h : Q ⟨⟩ x) : wpS M A E s (set x : StateT σ Sem PUnit) Q st := by
  unfold wpS; rw [StateT.run_set]; exact wpAny_pure ⟨rfl, h⟩
end
end Mg
namespace Mg
open PySem PyProof.Rows
section
variable {M : Model} {A : Around} {E : Value → Shared → Prop} {s : Shared}
theorem mAt_st {α : Type} {m : StateT SortSt Sem α} {κ : SortKind} {xs : Array Keyed} {g : Nat} {p p' : Array (Nat × Nat × Nat)} {Q : α → SortSt → Prop} (e : p = p') (h : wpS M A E s m Q (SortSt.mk' κ xs p' g none)) : wpS M A E s m Q (SortSt.mk' κ xs p g none) := by
  rw [e]
  exact h
theorem mAt_ok {κ : SortKind} {S : Keyed → Prop} {r : Keyed → Nat} (L : LtOk M A E s κ S r) {xs : Array Keyed} {n1 n2 p1 p2 g : Nat} {Q : Bool → SortSt → Prop} (sx : ∀ x ∈ xs.toList, S x) (h1 : 0 < n1) (h2 : 0 < n2) (hn : n1 + n2 = xs.size)
    (u1 : ∀ (i j : Nat) x y, i ≤ j → j < n1 → xs[i]? = some x → xs[j]? = some y → r x ≤ r y) (u2 : ∀ (i j : Nat) x y, n1 ≤ i → i ≤ j → xs[i]? = some x → xs[j]? = some y → r x ≤ r y)
    (q : ∀ ys g', ys.toList.Perm xs.toList → Up r ys.toList → Q true (SortSt.mk' κ ys #[(0, n1 + n2, p1)] g' none)) : wpS M A E s (mergeAt' 0) Q (SortSt.mk' κ xs #[(0, n1, p1), (n1, n2, p2)] g none) := by
  have get : ∀ {i : Nat} (h : i < xs.size), xs[i]? = some xs[i] := fun h => Array.getElem?_eq_getElem h
  have lt_of : ∀ {i : Nat} {x : Keyed}, xs[i]? = some x → i < xs.size := fun h => (Array.getElem?_eq_some_iff.mp h).1
  have mX : ∀ {i : Nat} {x : Keyed}, xs[i]? = some x → S x := fun {i x} h => by
    obtain ⟨h1, rfl⟩ := Array.getElem?_eq_some_iff.mp h
    exact sx _ (Array.getElem_mem_toList h1)
  have pe : ((#[(0, n1, p1), (n1, n2, p2)] : Array (Nat × Nat × Nat)).setIfInBounds 0 (0, n1 + n2, p1)).eraseIdxIfInBounds (0 + 1) = #[(0, n1 + n2, p1)] := by
    simp [Array.setIfInBounds, Array.eraseIdxIfInBounds, Array.eraseIdx]
  refine wpS_bind (wpS_get ?_)
  refine wpS_bind (wpS_set ?_)
  refine mAt_st pe ?_
  refine wpS_bind (wpS_elem (get (show n1 < xs.size by omega)) ?_)
  refine wpS_bind (gal_up L rfl (mX (get (show n1 < xs.size by omega))) (by show 0 + n1 ≤ xs.size; omega) (fun i x _ hx => mX hx) (fun i j x y ha hb hx hy => u1 _ _ x y (by omega) (by omega) hx hy) (by omega) fun k hk hth => ?_)
  have hth : ∀ (i : Nat) x, i < n1 → xs[i]? = some x → (i < k ↔ r x ≤ r xs[n1]) := fun i x hi hx => hth i x hi (by rw [Nat.zero_add]; exact hx)
  dsimp only
  by_cases hk0 : n1 - k = 0
  · rw [if_pos (beq_iff_eq.mpr hk0)]
    refine wpS_pure (q xs g (List.Perm.refl _) (up_of fun i j x y hij hx hy => ?_))
    by_cases hj : j < n1
    · exact u1 i j x y (by omega) hj hx hy
    · by_cases hi : i < n1
      · have z1 := (hth i x hi hx).mp (by omega)
        have z2 := u2 n1 j _ y (Nat.le_refl _) (by omega) (get (show n1 < xs.size by omega)) hy
        omega
      · exact u2 i j x y (by omega) (by omega) hx hy
  rw [if_neg (fun z => hk0 (beq_iff_eq.mp z))]
  refine wpS_bind (wpS_elem (get (show 0 + k + (n1 - k) - 1 < xs.size by omega)) ?_)
  have el : xs[0 + k + (n1 - k) - 1]'(by omega) = xs[n1 - 1]'(by omega) := by congr 1; omega
  rw [el]
  refine wpS_bind (gal_up L rfl (mX (get (show n1 - 1 < xs.size by omega))) (by show n1 + n2 ≤ xs.size; omega) (fun i x _ hx => mX hx) (fun i j x y ha hb hx hy => u2 _ _ x y (by omega) (by omega) hx hy) (by omega) fun c hc hth' => ?_)
  have hth' : ∀ (i : Nat) x, i < n2 → xs[n1 + i]? = some x → (i < c ↔ r x < r xs[n1 - 1]) := hth'
  dsimp only
  have kgt : ¬ r (xs[k]'(by omega)) ≤ r xs[n1] := fun z => by
    have := (hth k _ (by omega) (get (by omega))).mpr z
    omega
  have lge := u1 k (n1 - 1) _ _ (by omega) (by omega) (get (show k < xs.size by omega)) (get (show n1 - 1 < xs.size by omega))
  have c0 : 0 < c := (hth' 0 _ h2 (get (show n1 + 0 < xs.size by omega))).mpr (by show r xs[n1 + 0] < _; simp only [Nat.add_zero]; omega)
  rw [if_neg (fun z => absurd (beq_iff_eq.mp z) (by omega))]
  rw [Nat.zero_add]
  have zX : (xs.extract k n1).size = n1 - k := by rw [Array.size_extract]; omega
  have zY : (xs.extract n1 (n1 + c)).size = c := by rw [Array.size_extract]; omega
  have sX : ∀ x ∈ (xs.extract k n1).toList, S x := fun x hx => by
    obtain ⟨j, _, _, e⟩ := mem_ext hx
    exact mX e
  have sY : ∀ x ∈ (xs.extract n1 (n1 + c)).toList, S x := fun x hx => by
    obtain ⟨j, _, _, e⟩ := mem_ext hx
    exact mX e
  have gX : ∀ {i : Nat} {x : Keyed}, (xs.extract k n1)[i]? = some x → i < n1 - k ∧ xs[k + i]? = some x := fun {i x} h => by
    have hi := (Array.getElem?_eq_some_iff.mp h).1
    rw [zX] at hi
    rw [Array.getElem?_extract, if_pos (by omega)] at h
    exact ⟨hi, h⟩
  have gY : ∀ {i : Nat} {x : Keyed}, (xs.extract n1 (n1 + c))[i]? = some x → i < c ∧ xs[n1 + i]? = some x := fun {i x} h => by
    have hi := (Array.getElem?_eq_some_iff.mp h).1
    rw [zY] at hi
    rw [Array.getElem?_extract, if_pos (by omega)] at h
    exact ⟨hi, h⟩
  have uX : Up r (xs.extract k n1).toList := up_of fun i j x y hij hx hy => u1 _ _ x y (by omega) (by have := (gX hy).1; omega) (gX hx).2 (gX hy).2
  have uY : Up r (xs.extract n1 (n1 + c)).toList := up_of fun i j x y hij hx hy => u2 _ _ x y (by omega) (by omega) (gY hx).2 (gY hy).2
  have fst : ∀ y ∈ (xs.extract k n1).toList, r ((xs.extract n1 (n1 + c))[0]'(by omega)) ≤ r y := fun y hy => by
    obtain ⟨j, j1, j2, e⟩ := mem_ext hy
    have z : ¬ r y ≤ r xs[n1] := fun z => by have := (hth j y (by omega) e).mpr z; omega
    have e0 : (xs.extract n1 (n1 + c))[0]'(by omega) = xs[n1] := by
      have := (gY (Array.getElem?_eq_getElem (show 0 < (xs.extract n1 (n1 + c)).size by omega))).2
      rw [Nat.add_zero, get (show n1 < xs.size by omega)] at this
      exact (Option.some.inj this).symm
    rw [e0]
    omega
  have lst : ∀ y ∈ (xs.extract n1 (n1 + c)).toList, r y ≤ r ((xs.extract k n1)[(xs.extract k n1).size - 1]'(by omega)) := fun y hy => by
    obtain ⟨j, j1, j2, e⟩ := mem_ext hy
    have z := (hth' (j - n1) y (by omega) (by rw [show n1 + (j - n1) = j by omega]; exact e)).mp (by omega)
    have e0 : (xs.extract k n1)[(xs.extract k n1).size - 1]'(by omega) = xs[n1 - 1] := by
      have := (gX (Array.getElem?_eq_getElem (show (xs.extract k n1).size - 1 < (xs.extract k n1).size by omega))).2
      rw [show k + ((xs.extract k n1).size - 1) = n1 - 1 by omega, get (show n1 - 1 < xs.size by omega)] at this
      exact (Option.some.inj this).symm
    rw [e0]
    omega
  have fin : ∀ out g', Rm r (xs.extract k n1) (xs.extract n1 (n1 + c)) out → Q true (SortSt.mk' κ (out.toList.zipIdx.foldl (fun a p => a.setIfInBounds (k + p.2) p.1) xs) #[(0, n1 + n2, p1)] g' none) := fun out g' ho => by
    obtain ⟨pm, up⟩ := ho
    have so : out.size = n1 - k + c := by
      have := pm.length_eq
      rw [List.length_append, Array.length_toList, Array.length_toList, Array.length_toList, zX, zY] at this
      exact this
    have ll := lay_list (xs := xs) (out := out) (k := k) (m := n1 + c) (by omega) (by omega)
    have whole : xs.toList = xs.toList.take k ++ (((xs.extract k n1).toList ++ (xs.extract n1 (n1 + c)).toList) ++ xs.toList.drop (n1 + c)) := by
      rw [List.append_assoc, ← drop_ext (show n1 ≤ n1 + c by omega), ← drop_ext (show k ≤ n1 by omega), List.take_append_drop]
    refine q _ g' ?_ ?_
    · rw [ll]
      conv => rhs; rw [whole]
      exact (pm.append_right _).append_left _
    · rw [ll]
      have inO : ∀ x ∈ out.toList, (∃ j, k ≤ j ∧ j < n1 ∧ xs[j]? = some x) ∨ (∃ j, n1 ≤ j ∧ j < n1 + c ∧ xs[j]? = some x) := fun x hx => (List.mem_append.mp (pm.mem_iff.mp hx)).imp mem_ext mem_ext
      have lowK : ∀ x ∈ xs.toList.take k, r x ≤ r xs[n1] := fun x hx => by
        obtain ⟨j, j1, e⟩ := mem_take hx
        exact (hth j x (by omega) e).mp j1
      have highD : ∀ y ∈ xs.toList.drop (n1 + c), r xs[n1 - 1] ≤ r y ∧ r xs[n1] ≤ r y := fun y hy => by
        obtain ⟨j, j1, e⟩ := mem_drop hy
        have hj := lt_of e
        have z : ¬ r y < r xs[n1 - 1] := fun z => by have := (hth' (j - n1) y (by omega) (by rw [show n1 + (j - n1) = j by omega]; exact e)).mpr z; omega
        exact ⟨by omega, u2 n1 j _ y (Nat.le_refl _) (by omega) (get (show n1 < xs.size by omega)) e⟩
      refine List.pairwise_append.mpr ⟨?_, List.pairwise_append.mpr ⟨up, ?_, fun x hx y hy => ?_⟩, fun x hx y hy => ?_⟩
      · refine List.pairwise_iff_getElem.mpr fun i j hi hj hij => ?_
        rw [List.length_take, Array.length_toList] at hi hj
        rw [List.getElem_take, List.getElem_take]
        exact u1 i j _ _ (by omega) (by omega) (get (by omega)) (get (by omega))
      · refine List.pairwise_iff_getElem.mpr fun i j hi hj hij => ?_
        rw [List.length_drop, Array.length_toList] at hi hj
        rw [List.getElem_drop, List.getElem_drop]
        exact u2 (n1 + c + i) (n1 + c + j) _ _ (by omega) (by omega) (get (by omega)) (get (by omega))
      · have hd := highD y hy
        rcases inO x hx with ⟨j, j1, j2, e⟩ | ⟨j, j1, j2, e⟩
        · have := u1 j (n1 - 1) x _ (by omega) (by omega) e (get (show n1 - 1 < xs.size by omega))
          omega
        · have := (hth' (j - n1) x (by omega) (by rw [show n1 + (j - n1) = j by omega]; exact e)).mp (by omega)
          omega
      · have hl := lowK x hx
        rcases List.mem_append.mp hy with z | z
        · rcases inO y z with ⟨j, j1, j2, e⟩ | ⟨j, j1, j2, e⟩
          · have : ¬ r y ≤ r xs[n1] := fun z => by have := (hth j y (by omega) e).mpr z; omega
            omega
          · have := u2 n1 j _ y (Nat.le_refl _) j1 (get (show n1 < xs.size by omega)) e
            omega
        · have := (highD y z).2
          omega
  by_cases hle : n1 - k ≤ c
  · rw [if_pos hle]
    refine wpS_bind (mLo_ok L rfl sX sY (by omega) (by omega) uX uY fst lst fun out g' ho => ?_)
    exact wpS_bind (wpS_modify (wpS_bind (wpS_get (wpS_pure (fin out g' ho)))))
  · rw [if_neg hle]
    refine wpS_bind (mHi_ok L rfl sX sY (by omega) (by omega) uX uY fst lst fun out g' ho => ?_)
    exact wpS_bind (wpS_modify (wpS_bind (wpS_get (wpS_pure (fin out g' ho)))))
end
end Mg
namespace Mg
open PySem PyProof.Rows
def bin : Nat → Nat → Nat → StateT SortSt Sem Bool := sortPriv% PySem.Builtin.binarySort
def UpIn (r : Keyed → Nat) (xs : Array Keyed) (lo m : Nat) : Prop := ∀ (i j : Nat) x y, lo ≤ i → i ≤ j → j < lo + m → xs[i]? = some x → xs[j]? = some y → r x ≤ r y
section
variable {M : Model} {A : Around} {E : Value → Shared → Prop} {s : Shared}
theorem wpS_at {κ : SortKind} {S : Keyed → Prop} {r : Keyed → Nat} (L : LtOk M A E s κ S r) {st : SortSt} {i j : Nat} {x y : Keyed} {Q : Option Bool → SortSt → Prop} (hk : kindOf st = κ) (hx : (arrOf st)[i]? = some x) (hy : (arrOf st)[j]? = some y) (sx : S x) (sy : S y) (q : Q (some (decide (r x < r y))) st) : wpS M A E s (ltAt' i j) Q st := by
  rw [ltAt'_eq]
  refine wpS_bind (wpS_get ?_)
  exact wpS_bind (wpS_elem hx (wpS_bind (wpS_elem hy (L x y st Q sx sy hk q))))
theorem bin_ok {κ : SortKind} {S : Keyed → Prop} {r : Keyed → Nat} (L : LtOk M A E s κ S r) {xs : Array Keyed} {lo n ok g : Nat} {pd : Array (Nat × Nat × Nat)} {Q : Bool → SortSt → Prop} (sx : ∀ x ∈ xs.toList, S x) (h1 : 1 ≤ ok) (hn : ok ≤ n) (hs : lo + n ≤ xs.size) (up : UpIn r xs lo ok)
    (q : ∀ ys, ys.toList.Perm xs.toList → (∀ i, i < lo ∨ lo + n ≤ i → ys[i]? = xs[i]?) → UpIn r ys lo n → Q true (SortSt.mk' κ ys pd g none)) : wpS M A E s (bin lo n ok) Q (SortSt.mk' κ xs pd g none) := by
  refine wpS_bind (wpS_mono (wpS_forRange (I := fun k z st' => z.1 = none ∧ ∃ ys : Array Keyed, st' = SortSt.mk' κ ys pd g none ∧ ys.toList.Perm xs.toList ∧ (∀ i, i < lo ∨ lo + n ≤ i → ys[i]? = xs[i]?) ∧ UpIn r ys lo k) (Q := fun z st' => z.1 = none ∧ ∃ ys : Array Keyed, st' = SortSt.mk' κ ys pd g none ∧ ys.toList.Perm xs.toList ∧ (∀ i, i < lo ∨ lo + n ≤ i → ys[i]? = xs[i]?) ∧ UpIn r ys lo n) ?_ ?_ ⟨rfl, xs, rfl, List.Perm.refl _, fun _ _ => rfl, by rw [Nat.max_eq_left h1]; exact up⟩) ?_)
  · rintro k ⟨_, z⟩ st' hk1 hk2 ⟨rfl, ys, rfl, pm, out, u⟩
    dsimp only at *
    have sz : ys.size = xs.size := by have := pm.length_eq; rw [Array.length_toList, Array.length_toList] at this; exact this
    have get : ∀ {i : Nat} (h : i < ys.size), ys[i]? = some ys[i] := fun h => Array.getElem?_eq_getElem h
    have mY : ∀ {i : Nat} (h : i < ys.size), S ys[i] := fun h => sx _ (pm.mem_iff.mp (Array.getElem_mem_toList h))
    have kn : lo + k < ys.size := by omega
    refine wpS_bind (wpS_mono (wpS_forRange (I := fun x z st' => st' = SortSt.mk' κ ys pd g none ∧ z.1 = none ∧ z.2.1 ≤ z.2.2 ∧ z.2.2 ≤ k ∧ (∀ i y, i < z.2.1 → ys[lo + i]? = some y → r y ≤ r ys[lo + k]) ∧ (∀ i y, z.2.2 ≤ i → i < k → ys[lo + i]? = some y → r ys[lo + k] ≤ r y) ∧ z.2.2 - z.2.1 ≤ k - x) (Q := fun z st' => st' = SortSt.mk' κ ys pd g none ∧ z.1 = none ∧ z.2.1 ≤ k ∧ (∀ i y, i < z.2.1 → ys[lo + i]? = some y → r y ≤ r ys[lo + k]) ∧ (∀ i y, z.2.1 ≤ i → i < k → ys[lo + i]? = some y → r ys[lo + k] ≤ r y)) ?_ ?_ ⟨rfl, rfl, Nat.zero_le _, Nat.le_refl _, fun i y hi => absurd hi (Nat.not_lt_zero _), fun i y a b => by exact absurd b (by show ¬ i < k; have : k ≤ i := a; omega), by show k - 0 ≤ k - 0; omega⟩) ?_)
    · rintro x ⟨_, l, m⟩ st' _ hx ⟨rfl, rfl, e1, e2, e3, e4, e5⟩
      dsimp only at *
      by_cases hlt : l ≥ m
      · rw [if_pos hlt]
        have em : m = l := by omega
        subst em
        exact wpS_pure ⟨rfl, rfl, e2, e3, e4⟩
      · rw [if_neg hlt]
        have hm : lo + (l + m) / 2 < ys.size := by omega
        refine wpS_bind (wpS_at L rfl (get kn) (get hm) (mY kn) (mY hm) ?_)
        by_cases hw : r ys[lo + k] < r ys[lo + (l + m) / 2]
        · rw [decide_eq_true hw]
          refine wpS_pure ⟨rfl, rfl, by show l ≤ (l + m) / 2; omega, by show (l + m) / 2 ≤ k; omega, e3, fun i y a b hy => ?_, by show (l + m) / 2 - l ≤ _; omega⟩
          have a : (l + m) / 2 ≤ i := a
          have := u (lo + (l + m) / 2) (lo + i) _ y (by omega) (by omega) (by omega) (get hm) hy
          omega
        · rw [decide_eq_false hw]
          refine wpS_pure ⟨rfl, rfl, by show (l + m) / 2 + 1 ≤ m; omega, e2, fun i y a hy => ?_, e4, by show m - ((l + m) / 2 + 1) ≤ _; omega⟩
          have a : i < (l + m) / 2 + 1 := a
          have := u (lo + i) (lo + (l + m) / 2) y _ (by omega) (by omega) (by omega) hy (get hm)
          omega
    · rintro ⟨_, l, m⟩ st' ⟨rfl, rfl, e1, e2, e3, e4, e5⟩
      dsimp only at *
      have em : m = l := by omega
      subst em
      exact ⟨rfl, rfl, e2, e3, e4⟩
    rintro ⟨_, l, m⟩ st' ⟨rfl, rfl, e2, e3, e4⟩
    dsimp only at *
    refine wpS_bind (wpS_modify (wpS_pure ⟨rfl, bubble ys (lo + k) (lo + k - (lo + l)), rfl, ?_, fun i hi => ?_, ?_⟩))
    · exact (Array.perm_iff_toList_perm.mp (bubble_perm ys _ _)).trans pm
    · rw [getElem?_bubble kn _ (by omega), if_neg (by omega), if_neg (by omega)]
      exact out i hi
    · intro i j x y a b c hx hy
      rw [getElem?_bubble kn _ (by omega)] at hx hy
      have idx : lo + k - (lo + k - (lo + l)) = lo + l := by omega
      rw [idx] at hx hy
      have sub : ∀ (p : Nat) w, ys[p]? = some w → lo ≤ p → ys[lo + (p - lo)]? = some w := fun p w e hp => by rw [show lo + (p - lo) = p by omega]; exact e
      by_cases i1 : i = lo + l
      · rw [if_pos i1, get kn] at hx
        cases hx
        by_cases j1 : j = lo + l
        · rw [if_pos j1, get kn] at hy
          cases hy
          exact Nat.le_refl _
        · rw [if_neg j1, if_pos (by omega)] at hy
          exact e4 (j - 1 - lo) y (by omega) (by omega) (sub _ _ hy (by omega))
      · rw [if_neg i1] at hx
        by_cases j1 : j = lo + l
        · rw [if_pos j1, get kn] at hy
          cases hy
          rw [if_neg (by omega)] at hx
          exact e3 (i - lo) x (by omega) (sub _ _ hx (by omega))
        · rw [if_neg j1] at hy
          by_cases i2 : lo + l < i
          · rw [if_pos (by omega)] at hx hy
            exact u (i - 1) (j - 1) x y (by omega) (by omega) (by omega) hx hy
          · rw [if_neg (by omega)] at hx
            by_cases j2 : lo + l < j
            · rw [if_pos (by omega)] at hy
              exact u i (j - 1) x y (by omega) (by omega) (by omega) hx hy
            · rw [if_neg (by omega)] at hy
              exact u i j x y (by omega) (by omega) (by omega) hx hy
  · rintro ⟨_, z⟩ st' ⟨rfl, ys, rfl, pm, out, u⟩
    rw [Nat.max_eq_right (by omega)] at u
    exact ⟨rfl, ys, rfl, pm, out, u⟩
  · rintro ⟨_, z⟩ st' ⟨rfl, ys, rfl, pm, out, u⟩
    exact wpS_pure (q ys pm out u)
end
end Mg
namespace Mg
open PySem PyProof.Rows
theorem up_one {r : Keyed → Nat} {xs : Array Keyed} {lo : Nat} : UpIn r xs lo 1 := fun i j x y a b c hx hy => by
  have : i = j := by omega
  subst this
  rw [hx] at hy
  cases hy
  exact Nat.le_refl _
theorem up_step {r : Keyed → Nat} {xs : Array Keyed} {lo n : Nat} {a b : Keyed} (h1 : 1 ≤ n) (u : UpIn r xs lo n) (hx : xs[lo + n - 1]? = some a) (hy : xs[lo + n]? = some b) (hab : r a ≤ r b) : UpIn r xs lo (n + 1) := fun i j x y hi hij hj ex ey => by
  by_cases hj' : j < lo + n
  · exact u i j x y hi hij hj' ex ey
  · have : j = lo + n := by omega
    subst this
    rw [hy] at ey
    cases ey
    by_cases hi' : i = lo + n
    · subst hi'
      rw [hy] at ex
      cases ex
      exact Nat.le_refl _
    · exact Nat.le_trans (u i (lo + n - 1) x a hi (by omega) (by omega) ex hx) hab
def DnIn (r : Keyed → Nat) (xs : Array Keyed) (lo m : Nat) : Prop := ∀ (i j : Nat) x y, lo ≤ i → i ≤ j → j < lo + m → xs[i]? = some x → xs[j]? = some y → r y ≤ r x
theorem dn_step {r : Keyed → Nat} {xs : Array Keyed} {lo n : Nat} {a b : Keyed} (h1 : 1 ≤ n) (u : DnIn r xs lo n) (hx : xs[lo + n - 1]? = some a) (hy : xs[lo + n]? = some b) (hab : r b ≤ r a) : DnIn r xs lo (n + 1) := fun i j x y hi hij hj ex ey => by
  by_cases hj' : j < lo + n
  · exact u i j x y hi hij hj' ex ey
  · have : j = lo + n := by omega
    subst this
    rw [hy] at ey
    cases ey
    by_cases hi' : i = lo + n
    · subst hi'
      rw [hy] at ex
      cases ex
      exact Nat.le_refl _
    · exact Nat.le_trans hab (u i (lo + n - 1) x a hi (by omega) (by omega) ex hx)
theorem dn_turn {r : Keyed → Nat} {xs : Array Keyed} {lo n : Nat} (hs : lo + n ≤ xs.size) (u : DnIn r xs lo n) : UpIn r (mirror xs lo (lo + n) ((lo + n - lo) / 2)) lo n := fun i j x y hi hij hj ex ey => by
  rw [getElem?_mirror_all hs, if_pos (by omega)] at ex ey
  exact u _ _ y x (by omega) (by omega) (by omega) ey ex
theorem apart {r : Keyed → Nat} {xs : Array Keyed} (d : xs.toList.Pairwise fun x y => r x ≠ r y) {i j : Nat} {x y : Keyed} (hij : i ≠ j) (hx : xs[i]? = some x) (hy : xs[j]? = some y) : r x ≠ r y := by
  obtain ⟨h1, rfl⟩ := Array.getElem?_eq_some_iff.mp hx
  obtain ⟨h2, rfl⟩ := Array.getElem?_eq_some_iff.mp hy
  have d := List.pairwise_iff_getElem.mp d
  rcases Nat.lt_or_gt_of_ne hij with h | h
  · exact d i j h1 h2 h
  · exact fun z => d j i h2 h1 h z.symm
section
variable {M : Model} {A : Around} {E : Value → Shared → Prop} {s : Shared}
theorem cnt_ok {κ : SortKind} {S : Keyed → Prop} {r : Keyed → Nat} (L : LtOk M A E s κ S r) {xs : Array Keyed} {lo nrem g : Nat} {pd : Array (Nat × Nat × Nat)} {Q : Option Nat → SortSt → Prop} (sx : ∀ x ∈ xs.toList, S x) (ds : xs.toList.Pairwise fun x y => r x ≠ r y) (h1 : 1 ≤ nrem) (hs : lo + nrem ≤ xs.size)
    (q : ∀ m (ys : Array Keyed), 1 ≤ m → m ≤ nrem → ys.toList.Perm xs.toList → (∀ i, i < lo ∨ lo + nrem ≤ i → ys[i]? = xs[i]?) → UpIn r ys lo m → Q (some m) (SortSt.mk' κ ys pd g none)) : wpS M A E s (countRun' lo nrem) Q (SortSt.mk' κ xs pd g none) := by
  have get : ∀ {ys : Array Keyed} {i : Nat} (h : i < ys.size), ys[i]? = some ys[i] := fun h => Array.getElem?_eq_getElem h
  have mY : ∀ {ys : Array Keyed}, ys.toList.Perm xs.toList → ∀ {i : Nat} (h : i < ys.size), S ys[i] := fun {ys} pm {i} h => sx _ (pm.mem_iff.mp (Array.getElem_mem_toList h))
  refine wpS_bind (wpS_mono (wpS_forRange (I := fun x z st' => st' = SortSt.mk' κ xs pd g none ∧ z.1 = none ∧ z.2 = x ∧ UpIn r xs lo x) (Q := fun z st' => st' = SortSt.mk' κ xs pd g none ∧ z.1 = none ∧ 1 ≤ z.2 ∧ z.2 ≤ nrem ∧ UpIn r xs lo z.2 ∧ (z.2 = nrem ∨ ∀ x y, xs[lo + z.2]? = some x → xs[lo + z.2 - 1]? = some y → r x < r y)) ?_ ?_ ⟨rfl, rfl, rfl, up_one⟩) ?_)
  · rintro x ⟨_, n⟩ st' hx1 hx2 ⟨rfl, rfl, rfl, u⟩
    dsimp only at *
    refine wpS_bind (wpS_at L rfl (get (show lo + n < xs.size by omega)) (get (show lo + n - 1 < xs.size by omega)) (mY (List.Perm.refl _) _) (mY (List.Perm.refl _) _) ?_)
    by_cases hw : r (xs[lo + n]'(by omega)) < r (xs[lo + n - 1]'(by omega))
    · rw [decide_eq_true hw]
      refine wpS_pure ⟨rfl, rfl, hx1, by show n ≤ nrem; omega, u, .inr fun x y ex ey => ?_⟩
      rw [get (show lo + n < xs.size by omega)] at ex
      rw [get (show lo + n - 1 < xs.size by omega)] at ey
      cases ex
      cases ey
      exact hw
    · rw [decide_eq_false hw]
      exact wpS_pure ⟨rfl, rfl, rfl, up_step hx1 u (get (show lo + n - 1 < xs.size by omega)) (get (show lo + n < xs.size by omega)) (Nat.le_of_not_lt hw)⟩
  · rintro ⟨_, n⟩ st' ⟨rfl, rfl, e, u⟩
    dsimp only at *
    rw [Nat.max_eq_right h1] at e u
    subst e
    exact ⟨rfl, rfl, h1, Nat.le_refl _, u, .inl rfl⟩
  rintro ⟨_, n⟩ st' ⟨rfl, rfl, n1, n2, u, fall⟩
  dsimp only at *
  by_cases hnn : n = nrem
  · rw [if_pos (beq_iff_eq.mpr hnn)]
    exact wpS_pure (q n xs n1 n2 (List.Perm.refl _) (fun _ _ => rfl) u)
  rw [if_neg (fun z => hnn (beq_iff_eq.mp z))]
  have fall := fall.resolve_left hnn
  by_cases hgt : n > 1
  · rw [if_pos hgt]
    refine wpS_bind (wpS_at L rfl (get (show lo < xs.size by omega)) (get (show lo + n - 1 < xs.size by omega)) (mY (List.Perm.refl _) _) (mY (List.Perm.refl _) _) ?_)
    have a1 := u lo (lo + n - 1) _ _ (Nat.le_refl _) (by omega) (by omega) (get (show lo < xs.size by omega)) (get (show lo + n - 1 < xs.size by omega))
    have a2 := apart ds (show lo ≠ lo + n - 1 by omega) (get (show lo < xs.size by omega)) (get (show lo + n - 1 < xs.size by omega))
    rw [decide_eq_true (show r (xs[lo]'(by omega)) < r (xs[lo + n - 1]'(by omega)) by omega)]
    exact wpS_pure (q n xs n1 n2 (List.Perm.refl _) (fun _ _ => rfl) u)
  rw [if_neg hgt]
  have e1 : n = 1 := by omega
  subst e1
  refine wpS_bind (wpS_lift (wpAny_rule ⟨rfl, ?_⟩))
  have dn : DnIn r xs lo (1 + 1) := dn_step (Nat.le_refl _) (fun i j x y a b c hx hy => up_one j i y x (by omega) (by omega) (by omega) hy hx) (get (show lo + 1 - 1 < xs.size by omega)) (get (show lo + 1 < xs.size by omega)) (Nat.le_of_lt (fall _ _ (get _) (get _)))
  refine wpS_bind (wpS_mono (wpS_forRange (I := fun x z st' => st' = SortSt.mk' κ xs pd g none ∧ z.1 = none ∧ z.2.1 = x ∧ z.2.2 = 0 ∧ DnIn r xs lo x) (Q := fun z st' => st' = SortSt.mk' κ xs pd g none ∧ z.1 = none ∧ 2 ≤ z.2.1 ∧ z.2.1 ≤ nrem ∧ z.2.2 = 0 ∧ DnIn r xs lo z.2.1) ?_ ?_ ⟨rfl, rfl, rfl, rfl, dn⟩) ?_)
  · rintro x ⟨_, n, k⟩ st' hx1 hx2 ⟨rfl, rfl, rfl, rfl, d⟩
    dsimp only at *
    refine wpS_bind (wpS_at L rfl (get (show lo + n < xs.size by omega)) (get (show lo + n - 1 < xs.size by omega)) (mY (List.Perm.refl _) _) (mY (List.Perm.refl _) _) ?_)
    by_cases hw : r (xs[lo + n]'(by omega)) < r (xs[lo + n - 1]'(by omega))
    · rw [decide_eq_true hw]
      exact wpS_pure ⟨rfl, rfl, rfl, rfl, dn_step (by omega) d (get (show lo + n - 1 < xs.size by omega)) (get (show lo + n < xs.size by omega)) (Nat.le_of_lt hw)⟩
    · rw [decide_eq_false hw]
      refine wpS_bind (wpS_at L rfl (get (show lo + n - 1 < xs.size by omega)) (get (show lo + n < xs.size by omega)) (mY (List.Perm.refl _) _) (mY (List.Perm.refl _) _) ?_)
      have a2 := apart ds (show lo + n - 1 ≠ lo + n by omega) (get (show lo + n - 1 < xs.size by omega)) (get (show lo + n < xs.size by omega))
      rw [decide_eq_true (show r (xs[lo + n - 1]'(by omega)) < r (xs[lo + n]'(by omega)) by omega)]
      exact wpS_pure ⟨rfl, rfl, by show 2 ≤ n; omega, by show n ≤ nrem; omega, rfl, d⟩
  · rintro ⟨_, n, k⟩ st' ⟨rfl, rfl, e, rfl, d⟩
    dsimp only at *
    rw [Nat.max_eq_right (by omega)] at e d
    subst e
    exact ⟨rfl, rfl, by show 2 ≤ n; omega, Nat.le_refl _, rfl, d⟩
  rintro ⟨_, n, k⟩ st' ⟨rfl, rfl, m1, m2, rfl, d⟩
  dsimp only at *
  rw [if_neg (by omega)]
  refine wpS_bind (wpS_modify ?_)
  have u1 := dn_turn (by omega) d
  obtain ⟨ys, hy⟩ : ∃ ys, ys = mirror xs lo (lo + n) ((lo + n - lo) / 2) := ⟨_, rfl⟩
  have pm : ys.toList.Perm xs.toList := by rw [hy]; exact Array.perm_iff_toList_perm.mp (mirror_perm xs _ _ _)
  have out : ∀ i, i < lo ∨ lo + nrem ≤ i → ys[i]? = xs[i]? := fun i hi => by rw [hy, getElem?_mirror_all (by omega), if_neg (by omega)]
  have sz : ys.size = xs.size := by have := pm.length_eq; rw [Array.length_toList, Array.length_toList] at this; exact this
  rw [← hy] at u1
  show wpS M A E s _ Q (SortSt.mk' κ (mirror xs lo (lo + n) ((lo + n - lo) / 2)) pd g none)
  rw [← hy]
  refine wpS_bind (wpS_mono (wpS_forRange (I := fun x z st' => st' = SortSt.mk' κ ys pd g none ∧ z.1 = none ∧ z.2 = x ∧ UpIn r ys lo x) (Q := fun z st' => st' = SortSt.mk' κ ys pd g none ∧ z.1 = none ∧ 1 ≤ z.2 ∧ z.2 ≤ nrem ∧ UpIn r ys lo z.2) ?_ ?_ ⟨rfl, rfl, rfl, u1⟩) ?_)
  · rintro x ⟨_, n⟩ st' hx1 hx2 ⟨rfl, rfl, rfl, u⟩
    dsimp only at *
    refine wpS_bind (wpS_at L rfl (get (show lo + n < ys.size by omega)) (get (show lo + n - 1 < ys.size by omega)) (mY pm _) (mY pm _) ?_)
    by_cases hw : r (ys[lo + n]'(by omega)) < r (ys[lo + n - 1]'(by omega))
    · rw [decide_eq_true hw]
      exact wpS_pure ⟨rfl, rfl, by show 1 ≤ n; omega, by show n ≤ nrem; omega, u⟩
    · rw [decide_eq_false hw]
      exact wpS_pure ⟨rfl, rfl, rfl, up_step (by omega) u (get (show lo + n - 1 < ys.size by omega)) (get (show lo + n < ys.size by omega)) (Nat.le_of_not_lt hw)⟩
  · rintro ⟨_, n⟩ st' ⟨rfl, rfl, e, u⟩
    dsimp only at *
    rw [Nat.max_eq_right m2] at e u
    subst e
    exact ⟨rfl, rfl, h1, Nat.le_refl _, u⟩
  rintro ⟨_, n⟩ st' ⟨rfl, rfl, k1, k2, u⟩
  exact wpS_pure (q n ys k1 k2 pm out u)
end
end Mg
namespace Mg
open PySem PyProof.Rows
theorem mr_ok {n : Nat} (h2 : 2 ≤ n) (h : n < 128) : minRun' n n 0 ≤ n ∧ n ≤ 2 * minRun' n n 0 ∧ 1 ≤ minRun' n n 0 := by
  obtain ⟨f, hf⟩ : ∃ f, n = f + 1 + 1 := ⟨n - 2, by omega⟩
  have e : minRun' n n 0 = minRun' (f + 1 + 1) n 0 := by rw [← hf]
  rw [e, minRun'_succ]
  by_cases hn : n < 64
  · rw [if_pos hn]
    omega
  · rw [if_neg hn, minRun'_succ, if_pos (by omega)]
    omega
section
variable {M : Model} {A : Around} {E : Value → Shared → Prop} {s : Shared}
theorem runs_ok {κ : SortKind} {S : Keyed → Prop} {r : Keyed → Nat} (L : LtOk M A E s κ S r) {xs : Array Keyed} {g : Nat} {Q : Unit → SortSt → Prop} (sx : ∀ x ∈ xs.toList, S x) (ds : xs.toList.Pairwise fun x y => r x ≠ r y) (h2 : 2 ≤ xs.size) (h128 : xs.size < 128)
    (q : ∀ (ys : Array Keyed) pd g', ys.toList.Perm xs.toList → Up r ys.toList → Q () (SortSt.mk' κ ys pd g' none)) : wpS M A E s sortRuns' Q (SortSt.mk' κ xs #[] g none) := by
  rw [sortRuns'_eq]
  refine wpS_bind (wpS_get ?_)
  obtain ⟨N, hN⟩ : ∃ N, xs.size = N := ⟨_, rfl⟩
  rw [hN] at h2 h128
  obtain ⟨mr1, mr2, mr3⟩ := mr_ok h2 h128
  have eN : (arrOf (SortSt.mk' κ xs #[] g none)).size = N := hN
  dsimp only
  simp only [eN]
  obtain ⟨mr, hmr⟩ : ∃ mr, minRun' N N 0 = mr := ⟨_, rfl⟩
  rw [hmr] at mr1 mr2 mr3
  simp only [hmr]
  have zS : ∀ {ys : Array Keyed}, ys.toList.Perm xs.toList → ys.size = N := fun {ys} pm => by have := pm.length_eq; rw [Array.length_toList, Array.length_toList] at this; exact this.trans hN
  have zX : ∀ {ys : Array Keyed}, ys.toList.Perm xs.toList → ∀ x ∈ ys.toList, S x := fun {ys} pm x hx => sx x (pm.mem_iff.mp hx)
  have zD : ∀ {ys : Array Keyed}, ys.toList.Perm xs.toList → ys.toList.Pairwise fun x y => r x ≠ r y := fun {ys} pm => (pm.pairwise_iff (fun h z => h z.symm)).mpr ds
  refine wpS_bind (wpS_mono (wpS_forRange
    (I := fun x z st' => z.1 = none ∧ ((x = 0 ∧ z.2 = 0 ∧ st' = SortSt.mk' κ xs #[] g none)
      ∨ (x = 1 ∧ mr ≤ z.2 ∧ z.2 ≤ N ∧ ∃ ys : Array Keyed, ys.toList.Perm xs.toList ∧ UpIn r ys 0 z.2 ∧ st' = SortSt.mk' κ ys #[(0, z.2, 0)] g none)
      ∨ (z.2 = N ∧ ∃ (ys : Array Keyed) (n1 n2 p1 : Nat), ys.toList.Perm xs.toList ∧ 0 < n1 ∧ 0 < n2 ∧ n1 + n2 = N ∧ UpIn r ys 0 n1 ∧ UpIn r ys n1 n2 ∧ st' = SortSt.mk' κ ys #[(0, n1, p1), (n1, n2, 0)] g none)))
    (Q := fun z st' => z.1 = none ∧ ((∃ ys : Array Keyed, ys.toList.Perm xs.toList ∧ UpIn r ys 0 N ∧ st' = SortSt.mk' κ ys #[(0, N, 0)] g none)
      ∨ (∃ (ys : Array Keyed) (n1 n2 p1 : Nat), ys.toList.Perm xs.toList ∧ 0 < n1 ∧ 0 < n2 ∧ n1 + n2 = N ∧ UpIn r ys 0 n1 ∧ UpIn r ys n1 n2 ∧ st' = SortSt.mk' κ ys #[(0, n1, p1), (n1, n2, 0)] g none))) ?_ ?_ ⟨rfl, .inl ⟨rfl, rfl, rfl⟩⟩) ?_)
  · rintro x ⟨_, lo⟩ st' _ hx ⟨rfl, ⟨rfl, rfl, rfl⟩ | ⟨rfl, l1, l2, ys, pm, u, rfl⟩ | ⟨e, ys, n1, n2, p1, pm, a1, a2, a3, u1, u2, rfl⟩⟩
    · dsimp only at *
      rw [if_neg (by omega)]
      refine wpS_bind (cnt_ok L sx ds (by omega) (by omega) fun m ys m1 m2 pm out u => ?_)
      dsimp only
      by_cases hlt : m < mr
      · rw [if_pos hlt]
        refine wpS_bind (wpS_lift (wpAny_rule ⟨rfl, ?_⟩))
        have em : min (N - 0) mr = mr := by omega
        simp only [em]
        refine wpS_bind (bin_ok L (zX pm) m1 (Nat.le_of_lt hlt) (by rw [zS pm]; omega) u fun zs pm' out' u' => ?_)
        simp only [Bool.not_true, Bool.false_eq_true, if_false]
        refine wpS_bind (wpS_get ?_)
        refine wpS_bind (wpS_modify (wpS_pure ⟨rfl, .inr (.inl ⟨by first | exact trivial | rfl, by show mr ≤ 0 + mr; omega, by show 0 + mr ≤ N; omega, zs, pm'.trans pm, ?_, ?_⟩)⟩))
        · show UpIn r zs 0 (0 + mr)
          rw [Nat.zero_add]
          exact u'
        · show SortSt.mk' κ zs #[(0, mr, 0)] g none = SortSt.mk' κ zs #[(0, 0 + mr, 0)] g none
          rw [Nat.zero_add]
      · rw [if_neg hlt]
        refine wpS_bind (wpS_get ?_)
        refine wpS_bind (wpS_modify (wpS_pure ⟨rfl, .inr (.inl ⟨rfl, by show mr ≤ 0 + m; omega, by show 0 + m ≤ N; omega, ys, pm, ?_, ?_⟩)⟩))
        · show UpIn r ys 0 (0 + m)
          rw [Nat.zero_add]
          exact u
        · show SortSt.mk' κ ys #[(0, m, 0)] g none = SortSt.mk' κ ys #[(0, 0 + m, 0)] g none
          rw [Nat.zero_add]
    · dsimp only at *
      by_cases hge : lo ≥ N
      · rw [if_pos hge]
        have e : lo = N := by omega
        subst e
        exact wpS_pure ⟨rfl, .inl ⟨ys, pm, u, rfl⟩⟩
      rw [if_neg hge]
      refine wpS_bind (cnt_ok L (zX pm) (zD pm) (by omega) (by rw [zS pm]; omega) fun m zs m1 m2 pm2 out u2 => ?_)
      dsimp only
      have keep : ∀ ws : Array Keyed, (∀ i, i < lo → ws[i]? = ys[i]?) → UpIn r ws 0 lo := fun ws h i j x y a b c ex ey => u i j x y a b c ((h i (by omega)).symm.trans ex) ((h j (by omega)).symm.trans ey)
      by_cases hlt : m < mr
      · rw [if_pos hlt]
        refine wpS_bind (wpS_lift (wpAny_rule ⟨rfl, ?_⟩))
        have em : min (N - lo) mr = N - lo := by omega
        simp only [em]
        refine wpS_bind (bin_ok L (zX (pm2.trans pm)) m1 m2 (by rw [zS (pm2.trans pm)]; omega) u2 fun ws pm' out' u' => ?_)
        simp only [Bool.not_true, Bool.false_eq_true, if_false]
        refine wpS_bind (wpS_get ?_)
        refine wpS_bind (wpS_mono (wpS_forRange (I := fun _ c st'' => st'' = SortSt.mk' κ ws #[(0, lo, 0)] g none ∧ c = (none, ())) (Q := fun c st'' => st'' = SortSt.mk' κ ws #[(0, lo, 0)] g none ∧ c = (none, ())) ?_ (fun _ _ hh => hh) ⟨rfl, rfl⟩) ?_)
        · rintro x c st'' _ _ ⟨rfl, rfl⟩
          refine wpS_bind (wpS_get ?_)
          exact wpS_pure ⟨rfl, rfl⟩
        · rintro c st'' ⟨rfl, rfl⟩
          refine wpS_bind (wpS_modify (wpS_bind (wpS_modify (wpS_pure ⟨rfl, .inr (.inr ⟨by show lo + (N - lo) = N; omega, ws, lo, N - lo, _, pm'.trans (pm2.trans pm), by omega, by omega, by omega, keep _ (fun i hi => (out' i (.inl hi)).trans (out i (.inl hi))), u', rfl⟩)⟩))))
      · rw [if_neg hlt]
        have em : m = N - lo := by omega
        subst em
        refine wpS_bind (wpS_get ?_)
        refine wpS_bind (wpS_mono (wpS_forRange (I := fun _ c st'' => st'' = SortSt.mk' κ zs #[(0, lo, 0)] g none ∧ c = (none, ())) (Q := fun c st'' => st'' = SortSt.mk' κ zs #[(0, lo, 0)] g none ∧ c = (none, ())) ?_ (fun _ _ hh => hh) ⟨rfl, rfl⟩) ?_)
        · rintro x c st'' _ _ ⟨rfl, rfl⟩
          refine wpS_bind (wpS_get ?_)
          exact wpS_pure ⟨rfl, rfl⟩
        · rintro c st'' ⟨rfl, rfl⟩
          refine wpS_bind (wpS_modify (wpS_bind (wpS_modify (wpS_pure ⟨rfl, .inr (.inr ⟨by show lo + (N - lo) = N; omega, zs, lo, N - lo, _, pm2.trans pm, by omega, by omega, by omega, keep _ (fun i hi => out i (.inl hi)), u2, rfl⟩)⟩))))
    · dsimp only at *
      rw [if_pos (by omega)]
      exact wpS_pure ⟨rfl, .inr ⟨ys, n1, n2, p1, pm, a1, a2, a3, u1, u2, rfl⟩⟩
  · rintro ⟨_, lo⟩ st' ⟨rfl, ⟨e, _⟩ | ⟨e, _⟩ | ⟨e, ys, n1, n2, p1, pm, a1, a2, a3, u1, u2, rfl⟩⟩
    · omega
    · omega
    · exact ⟨rfl, .inr ⟨ys, n1, n2, p1, pm, a1, a2, a3, u1, u2, rfl⟩⟩
  rintro ⟨_, lo⟩ st' ⟨rfl, ⟨ys, pm, u, rfl⟩ | ⟨ys, n1, n2, p1, pm, a1, a2, a3, u1, u2, rfl⟩⟩
  · dsimp only
    refine wpS_bind (wpS_mono (wpS_forRange (I := fun _ c st'' => st'' = SortSt.mk' κ ys #[(0, N, 0)] g none ∧ c = (none, ())) (Q := fun c st'' => st'' = SortSt.mk' κ ys #[(0, N, 0)] g none ∧ c = (none, ())) ?_ (fun _ _ hh => hh) ⟨rfl, rfl⟩) ?_)
    · rintro x c st'' _ _ ⟨rfl, rfl⟩
      refine wpS_bind (wpS_get ?_)
      rw [if_pos (by exact Nat.le_refl 1)]
      exact wpS_pure ⟨rfl, rfl⟩
    · rintro c st'' ⟨rfl, rfl⟩
      refine wpS_pure (q ys _ g pm (up_of fun i j x y hij hx hy => u i j x y (by omega) (by omega) ?_ hx hy))
      have := (Array.getElem?_eq_some_iff.mp hy).1
      rw [zS pm] at this
      omega
  · dsimp only
    refine wpS_bind (wpS_mono (wpS_forRange (I := fun x c st'' => c = (none, ()) ∧ ((x = 0 ∧ st'' = SortSt.mk' κ ys #[(0, n1, p1), (n1, n2, 0)] g none) ∨ (∃ (zs : Array Keyed) (g' : Nat), zs.toList.Perm xs.toList ∧ Up r zs.toList ∧ st'' = SortSt.mk' κ zs #[(0, n1 + n2, p1)] g' none))) (Q := fun c st'' => c = (none, ()) ∧ (∃ (zs : Array Keyed) (g' : Nat), zs.toList.Perm xs.toList ∧ Up r zs.toList ∧ st'' = SortSt.mk' κ zs #[(0, n1 + n2, p1)] g' none)) ?_ ?_ ⟨rfl, .inl ⟨rfl, rfl⟩⟩) ?_)
    · rintro x c st'' _ _ ⟨rfl, ⟨rfl, rfl⟩ | ⟨zs, g', pm', up, rfl⟩⟩
      · refine wpS_bind (wpS_get ?_)
        rw [if_neg (by exact (by decide : ¬ 2 ≤ 1))]
        refine wpS_bind (mAt_ok L (zX pm) a1 a2 (by rw [zS pm]; exact a3) (fun i j x y hij hj ex ey => u1 i j x y (Nat.zero_le _) hij (by omega) ex ey) (fun i j x y hi hij ex ey => u2 i j x y hi hij ?_ ex ey) fun zs g' pm' up => ?_)
        · have := (Array.getElem?_eq_some_iff.mp ey).1
          rw [zS pm] at this
          omega
        · exact wpS_pure ⟨rfl, .inr ⟨zs, g', pm'.trans pm, up, rfl⟩⟩
      · refine wpS_bind (wpS_get ?_)
        rw [if_pos (by exact Nat.le_refl 1)]
        exact wpS_pure ⟨rfl, zs, g', pm', up, rfl⟩
    · rintro c st'' ⟨rfl, ⟨e, _⟩ | h⟩
      · omega
      · exact ⟨rfl, h⟩
    · rintro c st'' ⟨rfl, zs, g', pm', up, rfl⟩
      exact wpS_pure (q zs _ g' pm' up)
end
end Mg
namespace L2
open PySem PySem.Spec PyProof.Rows
def tupI (h : Heap) (v : Value) : List Int := match v with
  | .ref a => match h.get? a with
    | some o => match o.data with
      | .seq xs _ => xs.toList.map numOf
      | _ => []
    | none => []
  | _ => []
theorem tupI_at {h : Heap} {a : Addr} {o : Obj} {xs : Array Value} {n : Nat} (ho : h.get? a = some o) (hd : o.data = .seq xs n) : tupI h (.ref a) = xs.toList.map numOf := by
  unfold tupI
  simp only [ho, hd]
theorem tupI_same {h h' : Heap} {v : Value} (x : IntTup h v) (k : ∀ a o, v = .ref a → h.get? a = some o → h'.get? a = some o) : tupI h' v = tupI h v := by
  obtain ⟨a, o, xs, n, i, t, rfl, ho, hc, hd, _⟩ := x
  rw [tupI_at ho hd, tupI_at (k a o rfl ho) hd]
theorem ints_map {l : List Value} (h : ∀ u ∈ l, ∃ j t', u = Value.int j t') : IntsAre l (l.map numOf) := intsAre_map l h
section
variable {prog : Program} {w : World} {A : Around} {E : Value → Shared → Prop} {s : Shared}
theorem katLex_lex {b : Bool} {C : Bool → Shared → Prop} : ∀ {xs ys : List Value} {ns ms : List Int} (i : Nat), IntsAre xs ns → IntsAre ys ms → ns.length = ms.length → C (lexB ns ms) s → PySem.W.KatLex prog w A b false C (xs.zip ys) i s
  | [], [], _, _, i, .nil, .nil, _, h => h
  | [], _ :: _, _, _, i, .nil, .cons _ _ _, e, _ => by simp at e
  | _ :: _, [], _, _, i, .cons _ _ _, .nil, e, _ => by simp at e
  | _ :: xs, _ :: ys, _, _, i, .cons (ns := ns) n t hx, .cons (ns := ms) k u hy, e, h => by
    refine PySem.W.kat_cons (wpAny_eqBool_int ?_)
    have e' : ns.length = ms.length := by simpa using e
    refine PySem.W.kat_go (fun z => PySem.W.kat_yes ?_) (fun z => PySem.W.kat_no ?_)
    · have z : n = k := by simpa using z
      refine katLex_lex (i + 1) hx hy e' ?_
      have q : lexB (n :: ns) (k :: ms) = lexB ns ms := by
        show (if n = k then lexB ns ms else _) = _
        rw [if_pos z]
      rw [q] at h
      exact h
    · have z : ¬ n = k := by simpa using z
      have q : lexB (n :: ns) (k :: ms) = decide (n < k) := by
        show (if n = k then lexB ns ms else _) = _
        rw [if_neg z]
      rw [q] at h
      by_cases hb : (b && i == 0) = true
      · rw [hb]
        exact oneLt_int h
      · rw [Bool.eq_false_iff.mpr hb]
        exact PySem.W.kat_one _ _ (lt_int h)
theorem ltOk_tups {b : Bool} {m : List Int} : Mg.LtOk (model prog w) A E s (tuples' b) (fun k => IntTup s.heap k.1 ∧ (tupI s.heap k.1).Perm m) (fun k => rk (tupI s.heap k.1)) := by
  intro x y st Q sx sy hk q
  obtain ⟨⟨a, ox, xs, nx, _, _, ex, hx, cx, dx, _, fx⟩, px⟩ := sx
  obtain ⟨⟨c, oy, ys, ny, _, _, ey, hy, cy, dy, _, fy⟩, py⟩ := sy
  have pe := px.trans py.symm
  rw [rk_lex pe] at q
  rw [ex, ey, tupI_at hx dx, tupI_at hy dy] at pe q
  rw [lt'_eq]
  refine wpS_bind (wpS_get ?_)
  rw [hk, ex, ey]
  have hl := pe.length_eq
  have hz : decide (xs.size < ys.size) = false := by
    rw [List.length_map, List.length_map, Array.length_toList, Array.length_toList] at hl
    exact decide_eq_false (by omega)
  refine wpS_bind (wpS_lift (wpAny_attempt (PySem.W.kat_lt hx dx hy dy ?_)))
  rw [hz]
  exact katLex_lex 0 (ints_map fx) (ints_map fy) hl ⟨rfl, wpS_pure q⟩
theorem zip_dup {α : Type} : ∀ (vs : List α), vs.zip vs = vs.map fun v => (v, v)
  | [] => rfl
  | v :: vs => by rw [List.zip_cons_cons, List.map_cons, zip_dup vs]
theorem list_sort_tupsR {a : Addr} {vs : List Value} {n : Nat} {m : List Int} {P : PySem.Fin → Shared → Prop} (ho : s.heap.get? a = some (seqObj "list" vs.toArray n)) (ht : ∀ v ∈ vs, IntTup s.heap v) (hp : ∀ v ∈ vs, (tupI s.heap v).Perm m) (nd : vs.Pairwise fun v u => tupI s.heap v ≠ tupI s.heap u) (h128 : vs.length < 128)
    (h : ∀ out : Array Value, out.toList.Perm vs → out.toList.Pairwise (fun v u => rk (tupI s.heap v) ≤ rk (tupI s.heap u)) → P (.done (.ret .none)) { s with heap := sortedHeap s.heap a vs out }) :
    wpAny (model prog w) A (Builtin.«list.sort» ⟨[.ref a], []⟩) P E s := by
  rw [list_sort_plain]
  have ha : a < s.heap.objs.size := Heap.lt_size ho
  refine wpAny_bind (listItems_at ho rfl ?_)
  refine wpAny_bind (listUpdate_at ho rfl ?_ (by rw [List.size_toArray, sizeLine_eq]; omega) (Nat.zero_le _))
  obtain ⟨e1, ho1⟩ : ∃ e1, (s.heap.update a (Obj.mapSeq fun _ => #[])).get? a = some (seqObj "list" #[] e1) := ⟨_, get?_update_seq ho (fun _ => #[])⟩
  refine wpAny_bind (seqEpoch_at ho1 rfl ?_)
  refine wpAny_bind (wpAny_newTuple ?_ (by show vs.length ≤ _; rw [sizeLine_eq]; omega))
  refine wpAny_bind (wpAny_newList ?_ (Nat.zero_le _))
  refine wpAny_holding ?_
  have old6 : ∀ b o, b ≠ a → s.heap.get? b = some o → (((s.heap.update a (Obj.mapSeq fun _ => (#[] : Array Value))).push (seqObj "tuple" vs.toArray 0)).push (seqObj "list" #[] 0)).get? b = some o := fun b o hb q => by
    refine Heap.get?_push_of_some _ (Heap.get?_push_of_some _ ?_)
    rw [Heap.get?_update_ne _ _ _ _ hb]
    exact q
  have ho6 : (((s.heap.update a (Obj.mapSeq fun _ => #[])).push (seqObj "tuple" vs.toArray 0)).push (seqObj "list" #[] 0)).get? a = some (seqObj "list" #[] e1) := Heap.get?_push_of_some _ (Heap.get?_push_of_some _ ho1)
  show wpAny (model prog w) A _ P E { s with heap := ((s.heap.update a (Obj.mapSeq fun _ => #[])).push (seqObj "tuple" vs.toArray 0)).push (seqObj "list" #[] 0) }
  dsimp only
  have hsz : vs.toArray.size = vs.length := by simp
  by_cases h2 : vs.toArray.size < 2
  · rw [if_pos h2, if_pos h2]
    refine wpAny_bind (wpAny_pure ?_)
    rw [StateT.run_pure]
    refine wpAny_bind (wpAny_pure ?_)
    dsimp only
    refine wpAny_bind (seqEpoch_at ho6 rfl ?_)
    have es : ((arrOf (SortSt.mk' general' (vs.toArray.zip vs.toArray) #[] 7 none)).map (·.2)).toList = vs := by
      show ((vs.toArray.zip vs.toArray).map (·.2)).toList = vs
      rw [Array.toList_map]
      have e := pairsOf_toList vs
      unfold pairsOf at e
      rw [e, zip_snd]
    have el : ((arrOf (SortSt.mk' general' (vs.toArray.zip vs.toArray) #[] 7 none)).map (·.2)).size ≤ sizeLine + 1 := by
      have := congrArg List.length es
      rw [Array.length_toList] at this
      rw [this, sizeLine_eq]
      omega
    refine wpAny_bind (listUpdate_at ho6 rfl ?_ (Nat.zero_le _) el)
    simp only [bne_self_eq_false, Bool.false_eq_true, if_false]
    refine wpAny_pure (h _ (by rw [es]) (List.pairwise_iff_getElem.mpr fun i j hi hj hij => ?_))
    rw [es] at hi hj
    omega
  · rw [if_neg h2, if_neg h2]
    have h2' : 2 ≤ vs.length := by omega
    have nota : ∀ v ∈ vs, ∀ b o, v = .ref b → s.heap.get? b = some o → (((s.heap.update a (Obj.mapSeq fun _ => (#[] : Array Value))).push (seqObj "tuple" vs.toArray 0)).push (seqObj "list" #[] 0)).get? b = some o := fun v hv b o ev q => old6 b o (fun z => by
      obtain ⟨b', o', _, _, _, _, ev', ho', c, _⟩ := ht v hv
      rw [ev] at ev'
      cases ev'
      rw [z, ho] at ho'
      cases ho'
      exact absurd (Value.type.inj (show Value.type "list" = Value.type "tuple" from c)) (by decide)) q
    have ht6 : ∀ v ∈ vs, IntTup (((s.heap.update a (Obj.mapSeq fun _ => (#[] : Array Value))).push (seqObj "tuple" vs.toArray 0)).push (seqObj "list" #[] 0)) v := fun v hv => (ht v hv).at fun b o ev q _ => nota v hv b o ev q
    have tI : ∀ v ∈ vs, tupI (((s.heap.update a (Obj.mapSeq fun _ => (#[] : Array Value))).push (seqObj "tuple" vs.toArray 0)).push (seqObj "list" #[] 0)) v = tupI s.heap v := fun v hv => tupI_same (ht v hv) fun b o ev q => nota v hv b o ev q
    obtain ⟨fs, kt, hl, hf⟩ := tups_kat vs ht6
    refine wpAny_bind (PySem.W.kat_kind (s := { s with heap := ((s.heap.update a (Obj.mapSeq fun _ => #[])).push (seqObj "tuple" vs.toArray 0)).push (seqObj "list" #[] 0) }) (T := .type "int") kt (by omega) (fun v hv => ?_) (by decide) ?_)
    · obtain ⟨i, t, rfl⟩ := hf v hv
      exact .now
    have zl : (vs.toArray.zip vs.toArray).toList = vs.map fun v => (v, v) := by
      have e := pairsOf_toList vs
      unfold pairsOf at e
      rw [e, zip_dup]
    have zs : (vs.toArray.zip vs.toArray).size = vs.length := by
      have := congrArg List.length zl
      rw [Array.length_toList, List.length_map] at this
      exact this
    refine wpAny_bind (wpAny_mono (Mg.runs_ok (E := E) (g := 7) (Q := fun _ st' => failedOf st' = none ∧ (arrOf st').toList.Perm (vs.map fun v => (v, v)) ∧ (arrOf st').toList.Pairwise fun (x y : Keyed) => rk (tupI (((s.heap.update a (Obj.mapSeq fun _ => (#[] : Array Value))).push (seqObj "tuple" vs.toArray 0)).push (seqObj "list" #[] 0)) x.1) ≤ rk (tupI (((s.heap.update a (Obj.mapSeq fun _ => (#[] : Array Value))).push (seqObj "tuple" vs.toArray 0)).push (seqObj "list" #[] 0)) y.1))
      (ltOk_tups (s := { s with heap := ((s.heap.update a (Obj.mapSeq fun _ => #[])).push (seqObj "tuple" vs.toArray 0)).push (seqObj "list" #[] 0) }) (m := m)) (xs := vs.toArray.zip vs.toArray) (fun x hx => ?_) ?_ (by rw [zs]; exact h2') (by rw [zs]; exact h128) (fun ys pd g' p u => ⟨rfl, by rw [← zl]; exact p, u⟩)) ?_ fun _ _ e => e)
    · rw [zl] at hx
      obtain ⟨v, hv, rfl⟩ := List.mem_map.mp hx
      exact ⟨ht6 v hv, by rw [tI v hv]; exact hp v hv⟩
    · rw [zl, List.pairwise_map]
      refine List.Pairwise.imp_of_mem (fun {v u} hv hu huv => ?_) nd
      show rk (tupI _ v) ≠ rk (tupI _ u)
      rw [tI v hv, tI u hu]
      exact fun z => huv (rk_inj ((hp v hv).trans (hp u hu).symm) z)
    · rintro ⟨⟨⟩, st'⟩ s' ⟨rfl, hf', hpm, hup⟩
      dsimp only
      have eo : ((arrOf st').map (·.2)).toList = (arrOf st').toList.map (·.2) := Array.toList_map ..
      have pv : ((arrOf st').map (·.2)).toList.Perm vs := by
        rw [eo]
        have := hpm.map fun x : Keyed => x.2
        rw [List.map_map] at this
        have e2 : vs.map ((fun x : Keyed => x.2) ∘ fun v => (v, v)) = vs := by
          show vs.map (fun v => v) = vs
          exact List.map_id' vs
        rw [e2] at this
        exact this
      have el : ((arrOf st').map (·.2)).size ≤ sizeLine + 1 := by
        have := pv.length_eq
        rw [Array.length_toList] at this
        rw [this, sizeLine_eq]
        omega
      refine wpAny_bind (seqEpoch_at ho6 rfl ?_)
      refine wpAny_bind (listUpdate_at ho6 rfl ?_ (Nat.zero_le _) el)
      rw [hf']
      simp only [bne_self_eq_false, Bool.false_eq_true, if_false]
      refine wpAny_pure (h _ pv ?_)
      rw [eo, List.pairwise_map]
      refine List.Pairwise.imp_of_mem (fun {x y} hx hy hxy => ?_) hup
      obtain ⟨v, hv, rfl⟩ := List.mem_map.mp (hpm.mem_iff.mp hx)
      obtain ⟨u, hu, rfl⟩ := List.mem_map.mp (hpm.mem_iff.mp hy)
      have hxy : rk (tupI _ v) ≤ rk (tupI _ u) := hxy
      rw [tI v hv, tI u hu] at hxy
      exact hxy
end
section
variable {X : Cx}
theorem call_sortedDR (hc : X.calm = true) : CallR X (.builtin "sorted") (fun xs H Q => ∃ d kvs, ∃ ns : List (List Int), ∃ m : List Int, xs = [.ref d] ∧ H d = some (.dT kvs) ∧ kvs.map (·.1) = ns.map (·.map Sum.inl) ∧ (∀ n ∈ ns, n ≠ []) ∧ (∀ n ∈ ns, n.Perm m) ∧ ns.Nodup ∧ ns.length < 128 ∧
    ∀ l (zs : List (List Int × V)), H l = none → (zs.map (·.1)).Perm ns → (zs.map (·.1)).Pairwise (fun a b => rk a ≤ rk b) → (∀ z ∈ zs, ∃ b, z.2 = .ref b ∧ H b = some (.tup (z.1.map V.int))) → Q (.ref l) (upd H l (.lst (zs.map (·.2))))) := by
  intro pins s σ H xs us Q I r h
  obtain ⟨d, kvs, ns, m, rfl, hd, hk, hne, hper, hnod, h128, q⟩ := h
  obtain ⟨u, rfl, ru⟩ := vals1 r
  cases ru
  obtain ⟨z, lo, xs', rel, o, es, ep, ho, hc', hdat, he, his, hnd⟩ := dt_of I.hok hd
  obtain ⟨zs, z1, z2, z3⟩ := kt_list rel hk
  have hsl : sizeLine = 16777216 := sizeLine_eq
  have hlz : zs.length = ns.length := by rw [← z1, List.length_map]
  have hlx : xs'.length = ns.length := by
    have := congrArg List.length z2
    rw [List.length_map, List.length_map] at this
    omega
  have hes : es.size = ns.length := by
    have := congrArg List.length he
    rw [Array.length_toList, List.length_map] at this
    omega
  refine Calls.call_function_entry kind_sorted plain_sorted entry_sorted (args_sorted1 _) ?_
  unfold Builtin.«sorted»
  refine wpAny_bind (m := checkCount "sorted" 1 1 _) (wpAny_pure ?_)
  refine wpAny_bind (PySem.W.kdu_collect (A := X.A.in1) (raw_src (prog := X.prog) (w := X.w) lo es ep) (I.ok.hd hc) ⟨o, ho, hc', hdat⟩ (by omega) fun h1 tk acc k1 items => ?_)
  obtain ⟨i1, i2⟩ := items
  have hacc : acc.toList = xs'.map fun x => Value.ref x.2.1 := by
    apply List.ext_getElem?
    intro j
    rw [Array.getElem?_toList, List.getElem?_map]
    cases hj : acc[j]? with
    | none =>
      have : acc.size ≤ j := Array.getElem?_eq_none_iff.mp hj
      rw [List.getElem?_eq_none (by omega)]
      rfl
    | some v =>
      obtain ⟨x, e1, e2⟩ := i2 j v hj
      rw [← Array.getElem?_toList, he, List.getElem?_map] at e1
      cases hx : xs'[j]? with
      | none => rw [hx] at e1; cases e1
      | some y =>
        rw [hx] at e1
        have e1 := Option.some.inj e1
        rw [e2, ← e1]
        rfl
  have hvals : Vals (zs.map (·.2)) acc.toList := by
    rw [hacc, z2]
    have : ∀ l : List (List Key × Addr × Value), Vals (l.map fun x => V.ref x.2.1) (l.map fun x => Value.ref x.2.1) := by
      intro l
      induction l with
      | nil => exact .nil
      | cons a l ih => exact .cons rfl ih
    exact this xs'
  have la : acc.toList.length = ns.length := by rw [Array.length_toList, i1, hes]
  refine wpAny_bind (wpAny_newList ?_ (by rw [la]; omega))
  have hoL : (h1.push (seqObj "list" acc.toList.toArray 0)).get? h1.objs.size = some (seqObj "list" acc.toList.toArray 0) := Heap.get?_push_size _ rfl
  have none1 : s.heap.get? h1.objs.size = none := by
    cases q : s.heap.get? h1.objs.size with
    | none => rfl
    | some o => exact absurd (Heap.lt_size (k1 _ _ q)) (Nat.lt_irrefl _)
  have tup1 : ∀ zz ∈ zs, ∀ v : Value, RelV zz.2 v → IntTup (h1.push (seqObj "list" acc.toList.toArray 0)) v ∧ tupI (h1.push (seqObj "list" acc.toList.toArray 0)) v = zz.1 := fun zz hz v ry => by
    obtain ⟨b, eb, hb⟩ := z3 zz hz
    rw [eb] at ry
    have ry : v = Value.ref b := ry
    rw [ry]
    have hmem : zz.1 ∈ ns := by rw [← z1]; exact List.mem_map_of_mem hz
    obtain ⟨i0, rest, e0⟩ : ∃ i0 rest, zz.1 = i0 :: rest := by
      cases q : zz.1 with
      | nil => exact absurd q (hne _ hmem)
      | cons a l => exact ⟨a, l, rfl⟩
    rw [e0] at hb
    obtain ⟨its2, rv2, ⟨o2, e, c, n, dd⟩, _⟩ := I.tuple (SqT.of hb)
    have hin := intsAre_of (ns := i0 :: rest) rv2
    rw [List.map_cons] at rv2
    cases rv2 with
    | cons r0 rr =>
      obtain ⟨t, rfl⟩ := r0
      refine ⟨⟨b, o2, _, n, i0, t, rfl, Heap.get?_push_of_some _ (k1 _ _ e), c, dd, by simp, fun u hu => ?_⟩, ?_⟩
      · rw [List.toList_toArray] at hu
        exact hin.all u hu
      · rw [tupI_at (Heap.get?_push_of_some _ (k1 _ _ e)) dd, List.toList_toArray, hin.nums, e0]
  have tups : ∀ v ∈ acc.toList, ∃ zz ∈ zs, IntTup (h1.push (seqObj "list" acc.toList.toArray 0)) v ∧ tupI (h1.push (seqObj "list" acc.toList.toArray 0)) v = zz.1 := fun v hv => by
    obtain ⟨j, hj, rfl⟩ := List.getElem_of_mem hv
    obtain ⟨y, hy, ry⟩ := hvals.getE hj
    obtain ⟨zz, hz, rfl⟩ := List.mem_map.mp (List.mem_of_getElem? hy)
    exact ⟨zz, hz, tup1 zz hz _ ry⟩
  have at1 : ∀ (j : Nat) (hj : j < acc.toList.length), tupI (h1.push (seqObj "list" acc.toList.toArray 0)) acc.toList[j] = ns[j]'(by omega) := fun j hj => by
    obtain ⟨y, hy, ry⟩ := hvals.getE hj
    rw [List.getElem?_map] at hy
    have hjz : j < zs.length := by omega
    rw [List.getElem?_eq_getElem hjz] at hy
    have hy : zs[j].2 = y := Option.some.inj hy
    rw [← hy] at ry
    rw [(tup1 zs[j] (List.getElem_mem hjz) _ ry).2]
    have : (zs.map (·.1))[j]? = ns[j]? := by rw [z1]
    rw [List.getElem?_map, List.getElem?_eq_getElem hjz, List.getElem?_eq_getElem (by omega)] at this
    exact Option.some.inj this
  refine wpAny_bind (wpAny_holding (wpAny_call_entry slot_list_sort ⟨_, hoL, rfl⟩ entry_list_sort (list_sort_tupsR (s := { s with heap := h1.push (seqObj "list" acc.toList.toArray 0), toks := tk }) (m := m) hoL (fun v hv => (tups v hv).elim fun zz hz => hz.2.1) (fun v hv => ?_) ?_ (by rw [la]; exact h128) fun out a1 a2 => ⟨_, rfl, ?_⟩) (args_list_sort _)))
  · obtain ⟨zz, hz, _, e⟩ := tups v hv
    show (tupI (h1.push (seqObj "list" acc.toList.toArray 0)) v).Perm m
    rw [e]
    exact hper _ (by rw [← z1]; exact List.mem_map_of_mem hz)
  · refine List.pairwise_iff_getElem.mpr fun i j hi hj hij => ?_
    show tupI (h1.push (seqObj "list" acc.toList.toArray 0)) acc.toList[i] ≠ tupI (h1.push (seqObj "list" acc.toList.toArray 0)) acc.toList[j]
    rw [at1 i hi, at1 j hj]
    exact List.pairwise_iff_getElem.mp hnod i j (by omega) (by omega) hij
  obtain ⟨e, he'⟩ := sortedHeap_at (out := out) hoL
  obtain ⟨ys, hv, hpm⟩ := vals_perm (f := fun z : List Int × V => z.2) a1 hvals
  have hn : H h1.objs.size = none := by
    cases q : H h1.objs.size with
    | none => rfl
    | some u =>
      obtain ⟨ob, e⟩ := (I.hok _ u q).there
      rw [none1] at e
      cases e
  have hlo : out.toList.length = ys.length := by
    have := a1.length_eq
    have := hpm.length_eq
    omega
  have at2 : ∀ (j : Nat) (hj : j < ys.length), tupI (h1.push (seqObj "list" acc.toList.toArray 0)) (out.toList[j]'(by omega)) = ys[j].1 := fun j hj => by
    obtain ⟨y, hy, ry⟩ := hv.getE (show j < out.toList.length by omega)
    rw [List.getElem?_map, List.getElem?_eq_getElem hj] at hy
    have hy : ys[j].2 = y := Option.some.inj hy
    rw [← hy] at ry
    exact (tup1 ys[j] (hpm.mem_iff.mp (List.getElem_mem hj)) _ ry).2
  refine wpAny_pure ⟨_, rfl, .ref h1.objs.size, _, I.laidN (a := h1.objs.size) (o := .lst (ys.map (·.2))) (t' := tk) (fun b o z => ?_) none1 ?_, rfl, q _ ys hn (by rw [← z1]; exact hpm.map _) ?_ fun y hy => z3 y (hpm.mem_iff.mp hy)⟩
  · have lt := Heap.lt_size (k1 b o z)
    rw [sortedHeap_old (Nat.ne_of_lt lt) (by rw [Heap.size_push]; exact Nat.lt_succ_of_lt lt)]
    exact Heap.get?_push_of_some _ (k1 b o z)
  · refine ⟨by rw [List.length_map, hpm.length_eq, hlz]; omega, out.toList, e, hv, ?_⟩
    exact he'.trans (by simp [seqObj])
  · rw [List.pairwise_map]
    refine List.pairwise_iff_getElem.mpr fun i j hi hj hij => ?_
    have := List.pairwise_iff_getElem.mp a2 i j (by omega) (by omega) hij
    rw [← at2 i hi, ← at2 j hj]
    exact this
end
end L2
namespace L2
open PySem PySem.Spec PyProof.Rows
def hSortDR (ds : List D) (Q : List D → Prop) : Prop := match ds with
  | [.dtt ks _] => ∃ m : List Int, (∀ k ∈ ks, k ≠ []) ∧ (∀ k ∈ ks, k.Perm m) ∧ ks.Nodup ∧ ks.length < 128 ∧ ∀ ms : List (List Int), ms.Perm ks → ms.Pairwise (fun a b => rk a ≤ rk b) → Q (ms.map fun m => .tup (m.map D.int))
  | _ => False
open Classical in
theorem cf_sortDR {K : PySem.W.Frag} : CallF K (fun xs H Q => ∃ d kvs, ∃ ns : List (List Int), ∃ m : List Int, xs = [.ref d] ∧ H d = some (.dT kvs) ∧ kvs.map (·.1) = ns.map (·.map Sum.inl) ∧ (∀ n ∈ ns, n ≠ []) ∧ (∀ n ∈ ns, n.Perm m) ∧ ns.Nodup ∧ ns.length < 128 ∧
    ∀ l (zs : List (List Int × V)), H l = none → (zs.map (·.1)).Perm ns → (zs.map (·.1)).Pairwise (fun a b => rk a ≤ rk b) → (∀ z ∈ zs, ∃ b, z.2 = .ref b ∧ H b = some (.tup (z.1.map V.int))) → Q (.ref l) (upd H l (.lst (zs.map (·.2))))) hSortDR := fun F H vs ds Qd Q s r h fin => by
  unfold hSortDR at h
  split at h
  · rename_i ks es
    obtain ⟨x, _, rfl, ⟨a, kvs, rfl, hF, rkk, rs⟩, e⟩ := r
    cases (show _ = [] from e)
    obtain ⟨m, h1, h2, h3, h4, h5⟩ := h
    refine ⟨a, kvs, ks, m, rfl, s _ _ hF, rkk, h1, h2, h3, h4, fun l zs hl hp hr hz => ?_⟩
    obtain ⟨F', hF'⟩ : ∃ F' : Hp, F' = fun b => match F b with
        | some o => some o
        | none => if ∃ z ∈ zs, z.2 = V.ref b then H b else none := ⟨_, rfl⟩
    have f1 : ∀ b o, F b = some o → F' b = some o := fun b o e => by rw [hF']; simp only [e]
    have f2 : ∀ b, F b = none → (∃ z ∈ zs, z.2 = V.ref b) → F' b = H b := fun b e m => by rw [hF']; simp only [e]; rw [if_pos m]
    have f3 : ∀ b, F b = none → ¬ (∃ z ∈ zs, z.2 = V.ref b) → F' b = none := fun b e m => by rw [hF']; simp only [e]; rw [if_neg m]
    have sub : ∀ b o, F' b = some o → H b = some o := fun b o e => by
      cases q : F b with
      | some u =>
        rw [f1 b u q] at e
        cases e
        exact s _ _ q
      | none =>
        by_cases m : ∃ z ∈ zs, z.2 = V.ref b
        · rw [f2 b q m] at e; exact e
        · rw [f3 b q m] at e; cases e
    have g : Grow F H F' (upd H l (.lst (zs.map (·.2)))) := by
      refine ⟨fun b o e => by rw [upd_ne (ne_of_none e hl)]; exact e, f1, fun b o e => by rw [upd_ne (ne_of_none (sub b o e) hl)]; exact sub b o e, fun b e n => ?_⟩
      by_cases m : ∃ z ∈ zs, z.2 = V.ref b
      · obtain ⟨z, hz', ez⟩ := m
        obtain ⟨c, ec, hc⟩ := hz z hz'
        rw [ec] at ez
        cases ez
        exact .inr ⟨_, hc⟩
      · exact absurd (f3 b e m) n
    refine fin _ l _ F' _ (h5 _ hp hr) g ?_ hl upd_same (keys_in zs fun z hz' => ?_)
    · cases q : F' l with
      | none => rfl
      | some o =>
        have := sub l o q
        rw [hl] at this
        cases this
    · obtain ⟨b, eb, hb⟩ := hz z hz'
      refine ⟨b, eb, ?_⟩
      cases q : F b with
      | some u =>
        have w := s _ _ q
        rw [hb] at w
        rw [f1 b u q, ← w]
      | none => rw [f2 b q ⟨z, hz', eb⟩]; exact hb
  · exact h.elim
section
variable {X : Cx} {E : XK} {pos p : Pos} {e : Expr}
theorem df_sortDR {ga : GA} (hc : X.calm = true) (hg : Gl X "sorted") (hm : X.mg "sorted" = none) (ha : DA X E [e] ga) (he : starEach [e] X.env = [(false, eval e X.env)] := by rfl) : DF X E (.Call (.Name "sorted" p) [e] [] pos) (gCF hSortDR ga) := df_callB (call_sortedDR hc) cf_sortDR hg hm bt_sortedB ha (by decide) (by decide) he rfl
end
end L2
namespace L2
open PySem PySem.Spec PyProof.Rows
def fMade6 : DSp := fun ds _ Q => ∃ os m, ds = [.lst (os.map ordD)] ∧ OkOs os m ∧ ∀ ks ws, Tab os m ks.length 0 ks ws → (∀ k ∈ ks, k.Perm (uptoL m)) → ∀ ms : List (List Int), ms.Perm ks → ms.Pairwise (fun a b => rk a ≤ rk b) → Q (.lst (ms.map ordD))
def fMakes6 : DSp := fun ds _ Q => ∃ os m, ∃ w : List Int, ds = [.lst (os.map ordD), ordD w] ∧ OkOs os m ∧ okW os.length w ∧ w.length ≤ 63 ∧ Q (ordD (byW os m w))
def fCkW : DSp := fun ds _ Q => ∃ (os : List (List Int)) (w : List Int), ds = [ordD w, .lst (os.map ordD)] ∧ os.length ≤ 4 ∧ okW os.length w ∧ w.length ≤ 63 ∧ Q .non
theorem lexLe_back : ∀ {a b : List Int}, lexB a b = true → HT.lexLe b a = false
  | [], [], h => by cases h
  | [], _ :: _, _ => rfl
  | _ :: _, [], h => by cases h
  | x :: a, y :: b, h => by
    unfold lexB at h
    rw [HT.lexLe_cons]
    by_cases e : x = y
    · rw [if_pos e] at h
      rw [if_pos e.symm]
      exact lexLe_back h
    · rw [if_neg e] at h
      have h := of_decide_eq_true h
      rw [if_neg (Ne.symm e)]
      exact decide_eq_false (by omega)
theorem rise_at {ks ms : List (List Int)} {m : Nat} (nd : ks.Nodup) (hp : ∀ k ∈ ks, k.Perm (uptoL m)) (hm : ms.Perm ks) (hr : ms.Pairwise fun a b => rk a ≤ rk b) {i j : Nat} {a b : List Int} (hij : i < j) (ha : ms[i]? = some a) (hb : ms[j]? = some b) : HT.lexLe b a = false := by
  have nd' : ms.Nodup := hm.nodup_iff.mpr nd
  obtain ⟨hi, rfl⟩ := List.getElem?_eq_some_iff.mp ha
  obtain ⟨hj, rfl⟩ := List.getElem?_eq_some_iff.mp hb
  have pa := hp _ (hm.mem_iff.mp (List.getElem_mem hi))
  have pb := hp _ (hm.mem_iff.mp (List.getElem_mem hj))
  have h1 := List.pairwise_iff_getElem.mp hr i j hi hj hij
  have h2 := List.pairwise_iff_getElem.mp nd' i j hi hj hij
  have h3 : rk ms[i] ≠ rk ms[j] := fun z => h2 (rk_inj (pa.trans pb.symm) z)
  apply lexLe_back
  rw [← rk_lex (pa.trans pb.symm)]
  exact decide_eq_true (by omega)
theorem Tab.behind {os : List (List Int)} {m : Nat} {ks ws : List (List Int)} (T : Tab os m ks.length 0 ks ws) {k o : List Int} (hk : k ∈ ks) (ho : o ∈ os) : comp k o ∈ ks := by
  obtain ⟨j, hj, rfl⟩ := List.getElem_of_mem hk
  obtain ⟨b, hb, rfl⟩ := List.getElem_of_mem ho
  have hjw : j < ws.length := by rw [T.len]; exact hj
  obtain ⟨l, v, e, _, _⟩ := T.clos j b ks[j] ws[j] (.inl hj) hb (List.getElem?_eq_getElem hj) (List.getElem?_eq_getElem hjw)
  rw [List.getD_eq_getElem?_getD, List.getElem?_eq_getElem hb] at e
  exact List.mem_of_getElem? e
theorem Tab.same {os : List (List Int)} {m : Nat} {ks ws ks' ws' : List (List Int)} (T : Tab os m ks.length 0 ks ws) (T' : Tab os m ks'.length 0 ks' ws') {k : List Int} (hk : k ∈ ks) : k ∈ ks' := by
  obtain ⟨j, hj, rfl⟩ := List.getElem_of_mem hk
  have hjw : j < ws.length := by rw [T.len]; exact hj
  obtain ⟨h1, h2⟩ := T.make j ks[j] ws[j] (List.getElem?_eq_getElem hj) (List.getElem?_eq_getElem hjw)
  obtain ⟨l, _, e, _⟩ := T'.whole _ ws[j] rfl h2
  rw [h1] at e
  exact List.mem_of_getElem? e
end L2
set_option maxHeartbeats 4000000
namespace Ka26
open PySem L2
def top (i : Nat) : Stmt := PySem.Challenge.pw_switchhall_k26_whole_all_that_words_make.main.body.getD i (.Pass ⟨0, 0, 0, 0⟩)
abbrev s_whole : Stmt := top 4
abbrev s_win : Stmt := top 5
abbrev s_within : Stmt := top 6
abbrev s_chk : Stmt := top 9
abbrev s_after : Stmt := top 10
abbrev s_chks : Stmt := top 14
abbrev s_ckw : Stmt := top 15
abbrev s_leav : Stmt := top 16
abbrev s_wbo : Stmt := top 17
abbrev s_made : Stmt := top 18
abbrev s_word : Stmt := top 19
abbrev s_makes : Stmt := top 20
abbrev s_cell : Stmt := top 22
abbrev s_mix : Stmt := top 23
abbrev s_large : Stmt := top 24
abbrev s_order : Stmt := top 25
abbrev s_lords : Stmt := top 26
abbrev s_lby : Stmt := top 27
abbrev s_law : Stmt := top 28
set_option genInjectivity false in
set_option genSizeOf false in
structure Ad where
  (whole win within chk after chks ckw leav wbo made word makes cell mix large order lords lby law bad : Addr)
set_option genInjectivity false in
set_option genSizeOf false in
structure Fd where
  (whole win within chk after chks ckw leav wbo made word makes cell mix large order lords lby law : FuncData)
structure Txt (K : PySem.W.Frag) (mg : Str → Option Value) (a : Ad) (d : Fd) : Prop where
  bool_ : mg "bool" = none
  enum_ : mg "enumerate" = none
  int_ : mg "int" = none
  isi : mg "isinstance" = none
  len : mg "len" = none
  list_ : mg "list" = none
  range : mg "range" = none
  sorted_ : mg "sorted" = none
  tuple_ : mg "tuple" = none
  lines : ∃ t, mg "MOST_LINES" = some (.int 16 t)
  orders : ∃ t, mg "MOST_ORDERS" = some (.int 4 t)
  wlines : ∃ t, mg "MOST_WORD_LINES" = some (.int 5 t)
  g_whole : mg "is_whole" = some (.ref a.whole)
  g_win : mg "is_whole_within" = some (.ref a.win)
  g_within : mg "is_list_within" = some (.ref a.within)
  g_chk : mg "checked_order" = some (.ref a.chk)
  g_after : mg "after" = some (.ref a.after)
  g_chks : mg "checked_orders" = some (.ref a.chks)
  g_ckw : mg "check_word" = some (.ref a.ckw)
  g_leav : mg "leaving" = some (.ref a.leav)
  g_wbo : mg "words_by_order" = some (.ref a.wbo)
  g_made : mg "made" = some (.ref a.made)
  g_word : mg "word" = some (.ref a.word)
  g_makes : mg "makes" = some (.ref a.makes)
  g_cell : mg "_law_cell" = some (.ref a.cell)
  g_mix : mg "_law_mix" = some (.ref a.mix)
  g_large : mg "_law_large" = some (.ref a.large)
  g_order : mg "_law_order" = some (.ref a.order)
  g_lords : mg "_law_orders" = some (.ref a.lords)
  g_lby : mg "_law_by" = some (.ref a.lby)
  g_bad : mg "BadOrder" = some (.ref a.bad)
  f_whole : Fun K "is_whole" "is_whole" s_whole a.whole d.whole
  b_whole : Binds K d.whole ["value"] []
  f_win : Fun K "is_whole_within" "is_whole_within" s_win a.win d.win
  b_win : Binds K d.win ["value", "least", "most"] []
  f_within : Fun K "is_list_within" "is_list_within" s_within a.within d.within
  b_within : Binds K d.within ["value", "least", "most"] []
  f_chk : Fun K "checked_order" "checked_order" s_chk a.chk d.chk
  b_chk : Binds K d.chk ["order"] []
  f_after : Fun K "after" "after" s_after a.after d.after
  b_after : Binds K d.after ["order", "other"] []
  f_chks : Fun K "checked_orders" "checked_orders" s_chks a.chks d.chks
  b_chks : Binds K d.chks ["orders"] []
  f_ckw : Fun K "check_word" "check_word" s_ckw a.ckw d.ckw
  b_ckw : Binds K d.ckw ["some", "orders"] []
  f_leav : Fun K "leaving" "leaving" s_leav a.leav d.leav
  b_leav : Binds K d.leav ["orders"] []
  f_wbo : Fun K "words_by_order" "words_by_order" s_wbo a.wbo d.wbo
  b_wbo : Binds K d.wbo ["orders"] []
  f_made : Fun K "made" "made" s_made a.made d.made
  b_made : Binds K d.made ["orders"] []
  f_word : Fun K "word" "word" s_word a.word d.word
  b_word : Binds K d.word ["orders", "goal"] []
  f_makes : Fun K "makes" "makes" s_makes a.makes d.makes
  b_makes : Binds K d.makes ["orders", "some"] []
  f_cell : Fun K "_law_cell" "_law_cell" s_cell a.cell d.cell
  b_cell : Binds K d.cell ["_law_script", "_law_k"] []
  f_mix : Fun K "_law_mix" "_law_mix" s_mix a.mix d.mix
  b_mix : Binds K d.mix ["_law_cell_here", "_law_prime", "_law_many"] []
  f_large : Fun K "_law_large" "_law_large" s_large a.large d.large
  b_large : Binds K d.large ["_law_script"] []
  f_order : Fun K "_law_order" "_law_order" s_order a.order d.order
  b_order : Binds K d.order ["_law_script", "_law_at", "_law_many"] []
  f_lords : Fun K "_law_orders" "_law_orders" s_lords a.lords d.lords
  b_lords : Binds K d.lords ["_law_script"] []
  f_lby : Fun K "_law_by" "_law_by" s_lby a.lby d.lby
  b_lby : Binds K d.lby ["_law_orders_here", "_law_some"] []
  f_law : Fun K "law" "law" s_law a.law d.law
  b_law : Binds K d.law ["_law_script"] []
  x_bad : Exc K a.bad
section
variable {P : Program} {w : World} {K : PySem.W.Frag} {mg : Str → Option Value} {base : Heap} {a : Ad} {d : Fd}
theorem S_whole : FnScope ["value"] ["value"] (defScope s_whole) := ⟨rfl, rfl, rfl, by decide +kernel, rfl, by decide +kernel, by decide +kernel⟩
theorem ok_whole (T : Txt K mg a d) : FnOk P w K mg base (CXx P w) 1 a.whole d.whole ["value"] (dSp K 1 (fWhole)) := by
  refine dfn T.f_whole S_whole (fun cdv A outer s H E b hr => ?_)
  have S := S_whole
  refine ⟨_, (dss_one (ds_ret (de_and (de_isi .int rfl rfl T.isi rfl T.int_ (dv 0)) (de_one (de_not (de_isi .bool rfl rfl T.isi rfl T.bool_ (dv 0))))))), fun ds Ex Q hl h => ?_⟩
  obtain ⟨v, rfl, hn, q⟩ := h
  cases v <;> first | exact absurd (show false = true from hn) Bool.false_ne_true | exact q
theorem S_win : FnScope ["value", "least", "most"] ["value", "least", "most"] (defScope s_win) := ⟨rfl, rfl, rfl, by decide +kernel, rfl, by decide +kernel, by decide +kernel⟩
theorem ok_win (T : Txt K mg a d) : FnOk P w K mg base (CXx P w) 2 a.win d.win ["value", "least", "most"] (dSp K 3 (fWIn)) := by
  have G_whole : FnOk P w K mg base (CXx P w) 1 a.whole d.whole ["value"] (dSp K 1 (fWhole)) := ok_whole T
  refine dfn T.f_win S_win (fun cdv A outer s H E b hr => ?_)
  have S := S_win
  refine ⟨_, (dss_one (ds_ret (de_and (de_call G_whole (hr.mono (by first | decide | omega)) rfl T.g_whole T.f_whole.kp T.b_whole b.pass_ (da_cons (dv 0) da_nil)) (de_one (de_lele (dv 1) (dv 0) (dv 2)))))), fun ds Ex Q hl h => ?_⟩
  obtain ⟨v, lo, hi, rfl, hn, q⟩ := h
  cases v with
  | int i =>
    refine ⟨rfl, .int i, rfl, rfl, ?_⟩
    show if decide (lo ≤ i) = true then Q (.bl (decide (i ≤ hi))) else Q (.bl false)
    have q : Q (.bl (decide (lo ≤ i) && decide (i ≤ hi))) := q
    refine ite2 (fun z => ?_) (fun z => ?_)
    · rw [z, Bool.true_and] at q
      exact q
    · rw [Bool.eq_false_iff.mpr z, Bool.false_and] at q
      exact q
  | scr _ => exact absurd (show false = true from hn) Bool.false_ne_true
  | kt _ => exact absurd (show false = true from hn) Bool.false_ne_true
  | dtt _ _ => exact absurd (show false = true from hn) Bool.false_ne_true
  | _ => exact ⟨rfl, _, rfl, rfl, q⟩
theorem S_within : FnScope ["value", "least", "most"] ["value", "least", "most"] (defScope s_within) := ⟨rfl, rfl, rfl, by decide +kernel, rfl, by decide +kernel, by decide +kernel⟩
theorem ok_within (T : Txt K mg a d) : FnOk P w K mg base (CXx P w) 1 a.within d.within ["value", "least", "most"] (dSp K 3 (fListW)) := by
  refine dfn T.f_within S_within (fun cdv A outer s H E b hr => ?_)
  have S := S_within
  refine ⟨_, (dss_one (ds_ret (de_and (de_isi .list rfl rfl T.isi rfl T.list_ (dv 0)) (de_one (de_lele (dv 1) (de_len rfl T.len (da_cons (dv 0) da_nil)) (dv 2)))))), fun ds Ex Q hl h => ?_⟩
  obtain ⟨v, lo, hi, rfl, hn, q⟩ := h
  cases v with
  | lst xs =>
    show if decide (lo ≤ ((xs.length : Nat) : Int)) = true then Q (.bl (decide (((xs.length : Nat) : Int) ≤ hi))) else Q (.bl false)
    have q : Q (.bl (decide (lo ≤ ((xs.length : Nat) : Int)) && decide (((xs.length : Nat) : Int) ≤ hi))) := q
    refine ite2 (fun z => ?_) (fun z => ?_)
    · rw [z, Bool.true_and] at q
      exact q
    · rw [Bool.eq_false_iff.mpr z, Bool.false_and] at q
      exact q
  | scr _ => exact absurd (show false = true from hn) Bool.false_ne_true
  | kt _ => exact absurd (show false = true from hn) Bool.false_ne_true
  | dtt _ _ => exact absurd (show false = true from hn) Bool.false_ne_true
  | _ => exact q
theorem S_chk : FnScope ["order", "place"] ["order"] (defScope s_chk) := ⟨rfl, rfl, rfl, by decide +kernel, rfl, by decide +kernel, by decide +kernel⟩
theorem ok_chk (T : Txt K mg a d) : FnOk P w K mg base (CXx P w) 2 a.chk d.chk ["order"] (dSp K 1 (fChk a.bad)) := by
  have G_within : FnOk P w K mg base (CXx P w) 1 a.within d.within ["value", "least", "most"] (dSp K 3 (fListW)) := ok_within T
  have G_whole : FnOk P w K mg base (CXx P w) 1 a.whole d.whole ["value"] (dSp K 1 (fWhole)) := ok_whole T
  refine dfn T.f_chk S_chk (fun cdv A outer s H E b hr => ?_)
  have S := S_chk
  refine ⟨_, (dss_cons (ds_if (dt_not (dt_val (de_call G_within (hr.mono (by first | decide | omega)) rfl T.g_within T.f_within.kp T.b_within b.pass_ (da_cons (dv 0) (da_cons de_int (da_cons (de_gint rfl T.lines) da_nil)))))) (dss_one (ds_raise b rfl rfl T.g_bad T.x_bad (da_cons de_str da_nil))) dss_nil) (dss_cons (ds_loop b (ds_for (loop_passes b) rfl (di_list (dv 0)) (dg_name (i := 1) S.nd rfl (Or.inl rfl)) (dss_one (ds_if (dt_not (dt_val (de_call G_whole (hr.mono (by first | decide | omega)) rfl T.g_whole T.f_whole.kp T.b_whole (loop_pass b) (da_cons (dv 1) da_nil)))) (dss_one (ds_raiseL b rfl rfl T.g_bad T.x_bad (da_cons de_str da_nil))) dss_nil)))) (dss_cons (ds_if (dt_ne hr.units (DF.de (df_sortI rfl T.sorted_ (da_cons (dv 0) da_nil))) (DF.de (df_listRange rfl rfl T.list_ rfl T.range (da_cons (de_len rfl T.len (da_cons (dv 0) da_nil)) da_nil)))) (dss_one (ds_raise b rfl rfl T.g_bad T.x_bad (da_cons de_str da_nil))) dss_nil) (dss_one (ds_ret (DF.de (df_list rfl T.list_ (da_cons (dv 0) da_nil)))))))), fun ds Ex Q hl h => ?_⟩
  obtain ⟨v, rfl, hn, hq, hx⟩ := h
  have hn' := hn
  unfold allNsc at hn'
  rw [Bool.and_eq_true] at hn'
  obtain ⟨n1, n2⟩ := hn'
  have hsl : sizeLine = 16777216 := sizeLine_eq
  refine ⟨rfl, v, 1, 16, rfl, n1, ?_⟩
  show if (!lstIn v 1 16) = true then (1 ≤ sizeLine ∧ Ex a.bad) else _
  refine ite2 (fun z => ⟨by omega, hx ?_⟩) (fun z => ?_)
  · rintro ⟨ns, rfl, o1, o2, _⟩
    have e : lstIn (.lst (ns.map D.int)) 1 16 = true := by
      show (decide ((1 : Int) ≤ (((ns.map D.int).length : Nat) : Int)) && decide ((((ns.map D.int).length : Nat) : Int) ≤ 16)) = true
      rw [List.length_map, decide_eq_true (by omega), decide_eq_true (by omega)]
      rfl
    rw [e] at z
    cases z
  · have z : lstIn v 1 16 = true := by
      cases h : lstIn v 1 16
      · rw [h] at z; exact absurd rfl z
      · rfl
    cases v with
    | lst xs =>
      have z : (decide ((1 : Int) ≤ ((xs.length : Nat) : Int)) && decide (((xs.length : Nat) : Int) ≤ 16)) = true := z
      rw [Bool.and_eq_true, decide_eq_true_iff, decide_eq_true_iff] at z
      obtain ⟨l1, l2⟩ := z
      refine ⟨fun k env => (∃ s, env = [.sh (.lst xs), s]) ∧ ∀ j, j < k → ∀ y, xs[j]? = some y → isInt y = true, ⟨⟨_, rfl⟩, fun j hj => absurd hj (Nat.not_lt_zero _)⟩, ?_, ?_⟩
      · rintro k y env hy ⟨⟨s, rfl⟩, hk⟩
        have hny : nsc y = true := List.all_eq_true.mp n2 _ (List.mem_of_getElem? hy)
        refine ⟨rfl, y, rfl, hny, ?_⟩
        show if (!isInt y) = true then (1 ≤ sizeLine ∧ Ex a.bad) else _
        refine ite2 (fun z => ⟨by omega, hx ?_⟩) (fun z => ?_)
        · rintro ⟨ns, e, _⟩
          have e := D.lst.inj e
          rw [e] at hy
          obtain ⟨m, _, rfl⟩ := List.mem_map.mp (List.mem_of_getElem? hy)
          cases z
        · refine ⟨⟨_, rfl⟩, fun j hj u hu => ?_⟩
          by_cases h : j = k
          · subst h
            rw [hy] at hu
            cases hu
            cases h : isInt y
            · rw [h] at z; exact absurd rfl z
            · rfl
          · exact hk j (by omega) u hu
      · rintro env ⟨⟨s, rfl⟩, hk⟩
        have hall : ∀ y ∈ xs, isInt y = true := fun y hy => by
          obtain ⟨j, hj, rfl⟩ := List.getElem_of_mem hy
          exact hk j hj _ (List.getElem?_eq_getElem hj)
        obtain ⟨ns, rfl⟩ := ints_of hall
        rw [List.length_map] at l1 l2
        refine ⟨ns, rfl, by omega, ?_⟩
        refine ⟨fun j e => ?_, ?_, ?_⟩
        · cases e
          omega
        · show (((ns.map D.int).length : Nat) : Int) ≤ 2 ^ 20
          rw [List.length_map]
          omega
        · have en : (((ns.map D.int).length : Nat) : Int).toNat = ns.length := by rw [List.length_map]; omega
          rw [en, intsTo_eq]
          refine ⟨okDs_ints _, okDs_ints _, by rw [hiDs_ints]; omega, by
            show ((_ != _) || cmpDs _ _) = true
            rw [cmpDs_ints, Bool.or_true], ?_⟩
          show if (!eqDs ((srt ns).map D.int) ((uptoL ns.length).map D.int)) = true then (1 ≤ sizeLine ∧ Ex a.bad) else Q (.lst (ns.map D.int))
          rw [eqDs_ints]
          refine ite2 (fun z => ⟨by omega, hx ?_⟩) (fun z => ?_)
          · rintro ⟨ms, e, o1, o2, o3⟩
            have e := map_int_inj (D.lst.inj e)
            subst e
            rw [srt_uptoL o3, decide_eq_true rfl] at z
            cases z
          · have e : srt ns = uptoL ns.length := by
              by_cases h : srt ns = uptoL ns.length
              · exact h
              · rw [decide_eq_false h] at z; exact absurd rfl z
            exact hq ns rfl ⟨by omega, by omega, perm_of_srt e⟩
    | _ => cases z
theorem S_after : FnScope ["order", "other", "first", "second"] ["order", "other"] (defScope s_after) := ⟨rfl, rfl, rfl, by decide +kernel, rfl, by decide +kernel, by decide +kernel⟩
theorem ok_after (T : Txt K mg a d) : FnOk P w K mg base (CXx P w) 3 a.after d.after ["order", "other"] (dSp K 2 (fAfter a.bad)) := by
  have G_chk : FnOk P w K mg base (CXx P w) 2 a.chk d.chk ["order"] (dSp K 1 (fChk a.bad)) := ok_chk T
  refine dfn T.f_after S_after (fun cdv A outer s H E b hr => ?_)
  have S := S_after
  refine ⟨_, (dss_cons (ds_set (i := 2) S.nd rfl (Or.inl rfl) (de_call G_chk (hr.mono (by first | decide | omega)) rfl T.g_chk T.f_chk.kp T.b_chk b.pass_ (da_cons (dv 0) da_nil))) (dss_cons (ds_set (i := 3) S.nd rfl (Or.inr rfl) (de_call G_chk (hr.mono (by first | decide | omega)) rfl T.g_chk T.f_chk.kp T.b_chk b.pass_ (da_cons (dv 1) da_nil))) (dss_cons (ds_if (dt_ne hr.units (de_len rfl T.len (da_cons (dv 2) da_nil)) (de_len rfl T.len (da_cons (dv 3) da_nil))) (dss_one (ds_raise b rfl rfl T.g_bad T.x_bad (da_cons de_str da_nil))) dss_nil) (dss_one (ds_ret (DF.de (df_compM rfl (di_list (dv 2)) (compT (cl := [("second", _)]) (tn := ["place"]) (fn := ["second"]) (fv := [3]) rfl (by decide +kernel) (by decide +kernel) rfl (by repeat' (first | exact trivial | refine ⟨(fun _ => ⟨_, rfl⟩), ?_⟩ | refine ⟨(fun z => by cases z), ?_⟩)) (.cons (y := "second") (k := 3) .nil rfl rfl (.inr (.inl rfl)) rfl rfl)) (fun _ _ _ _ _ => pg_name (i := 0) (show (["place", "second"] : List Str).Nodup by decide +kernel) rfl (Or.inl rfl)) ub_name (fun _ _ _ _ _ => (de_at (dv 1) (dv 0)))))))))), fun ds Ex Q hl h => ?_⟩
  obtain ⟨d1, d2, rfl, n1, n2, hq, hx⟩ := h
  have hsl : sizeLine = 16777216 := sizeLine_eq
  refine ⟨rfl, d1, rfl, n1, fun os e1 o1 => ?_, fun hno => hx (by rintro ⟨os, ps, rfl, rfl, o, _⟩; exact hno ⟨os, rfl, o⟩)⟩
  subst e1
  refine ⟨rfl, d2, rfl, n2, fun ps e2 o2 => ?_, fun hno => hx (by rintro ⟨os, ps, _, rfl, _, o, _⟩; exact hno ⟨ps, rfl, o⟩)⟩
  subst e2
  show if (!decide ((((os.map D.int).length : Nat) : Int) = (((ps.map D.int).length : Nat) : Int))) = true then (1 ≤ sizeLine ∧ Ex a.bad) else _
  rw [List.length_map, List.length_map]
  refine ite2 (fun z => ⟨by omega, hx ?_⟩) (fun z => ?_)
  · rintro ⟨os', ps', e1, e2, _, _, hl⟩
    have e1 := map_int_inj (D.lst.inj e1)
    have e2 := map_int_inj (D.lst.inj e2)
    subst e1 e2
    rw [decide_eq_true (by omega)] at z
    cases z
  · have hl : os.length = ps.length := by
      by_cases h : ((os.length : Nat) : Int) = ((ps.length : Nat) : Int)
      · omega
      · rw [decide_eq_false h] at z
        exact absurd rfl z
    refine ⟨by rw [List.length_map]; have := o1.2.1; omega, fun x => match x with | .int k => .int (at0 ps k) | x => x, fun x hx => ?_, ?_⟩
    · obtain ⟨k, hk, rfl⟩ := List.mem_map.mp hx
      obtain ⟨k0, k1⟩ := mem_uptoL.mp (o1.2.2.mem_iff.mp hk)
      exact ⟨_, rfl, _, atI_ints k0 (by omega), rfl⟩
    · have e : (os.map D.int).map (fun x => match x with | .int k => .int (at0 ps k) | x => x) = (comp os ps).map D.int := by
        unfold comp
        rw [List.map_map, List.map_map]
        exact List.map_congr_left fun _ _ => rfl
      show Q (.lst ((os.map D.int).map (fun x => match x with | .int k => .int (at0 ps k) | x => x)))
      rw [e]
      exact hq os ps rfl rfl o1 o2 hl
theorem S_chks : FnScope ["orders", "checked", "order"] ["orders"] (defScope s_chks) := ⟨rfl, rfl, rfl, by decide +kernel, rfl, by decide +kernel, by decide +kernel⟩
theorem ok_chks (T : Txt K mg a d) : FnOk P w K mg base (CXx P w) 3 a.chks d.chks ["orders"] (dSp K 1 (fChkOs a.bad)) := by
  have G_within : FnOk P w K mg base (CXx P w) 1 a.within d.within ["value", "least", "most"] (dSp K 3 (fListW)) := ok_within T
  have G_chk : FnOk P w K mg base (CXx P w) 2 a.chk d.chk ["order"] (dSp K 1 (fChk a.bad)) := ok_chk T
  refine dfn T.f_chks S_chks (fun cdv A outer s H E b hr => ?_)
  have S := S_chks
  refine ⟨_, (dss_cons (ds_if (dt_not (dt_val (de_call G_within (hr.mono (by first | decide | omega)) rfl T.g_within T.f_within.kp T.b_within b.pass_ (da_cons (dv 0) (da_cons de_int (da_cons (de_gint rfl T.orders) da_nil)))))) (dss_one (ds_raise b rfl rfl T.g_bad T.x_bad (da_cons de_str da_nil))) dss_nil) (dss_cons (ds_ownCX b (i := 1) S.nd rfl (Or.inl rfl) rfl (di_list (dv 0)) (compT (cl := []) (tn := ["order"]) (fn := []) (fv := []) rfl (by decide +kernel) (by decide +kernel) rfl (by repeat' (first | exact trivial | refine ⟨(fun _ => ⟨_, rfl⟩), ?_⟩ | refine ⟨(fun z => by cases z), ?_⟩)) .nil) (fun _ _ _ _ _ => pg_name (i := 0) (show (["order"] : List Str).Nodup by decide +kernel) rfl (Or.inl rfl)) ub_name (fun _ _ _ _ _ => (de_call G_chk (hr.mono (by first | decide | omega)) rfl T.g_chk T.f_chk.kp T.b_chk (comp_pass b) (da_cons (dv 0) da_nil)))) (dss_freeze 1 (dss_cons (ds_loop b (ds_for (loop_passes b) rfl (di_list (dv 1)) (dg_name (i := 2) S.nd rfl (Or.inl rfl)) (dss_one (ds_if (dt_ne hr.units (de_len rfl T.len (da_cons (dv 2) da_nil)) (de_len rfl T.len (da_cons (de_at (dv 1) de_int) da_nil))) (dss_one (ds_raiseL b rfl rfl T.g_bad T.x_bad (da_cons de_str da_nil))) dss_nil)))) (dss_cons (ds_if (dt_gt (de_len rfl T.len (da_cons (de_at (dv 1) de_int) da_nil)) (de_gint rfl T.wlines)) (dss_one (ds_raise b rfl rfl T.g_bad T.x_bad (da_cons de_str da_nil))) dss_nil) (dss_one (ds_ret (dv 1)))))))), fun ds Ex Q hl h => ?_⟩
  obtain ⟨v, rfl, hn, hq, hx⟩ := h
  have hn' := hn
  unfold allNsc2 at hn'
  rw [Bool.and_eq_true] at hn'
  obtain ⟨n1, n2⟩ := hn'
  have hsl : sizeLine = 16777216 := sizeLine_eq
  refine ⟨rfl, v, 1, 4, rfl, n1, ?_⟩
  show if (!lstIn v 1 4) = true then (1 ≤ sizeLine ∧ Ex a.bad) else _
  refine ite2 (fun z => ⟨by omega, hx ?_⟩) (fun z => ?_)
  · rintro ⟨os, rfl, o1, o2, _⟩
    have e : lstIn (.lst (os.map ordD)) 1 4 = true := by
      show (decide ((1 : Int) ≤ (((os.map ordD).length : Nat) : Int)) && decide ((((os.map ordD).length : Nat) : Int) ≤ 4)) = true
      rw [List.length_map, decide_eq_true (by omega), decide_eq_true (by omega)]
      rfl
    rw [e] at z
    cases z
  · have z : lstIn v 1 4 = true := by
      cases h : lstIn v 1 4
      · rw [h] at z; exact absurd rfl z
      · rfl
    cases v with
    | lst xs =>
      have z : (decide ((1 : Int) ≤ ((xs.length : Nat) : Int)) && decide (((xs.length : Nat) : Int) ≤ 4)) = true := z
      rw [Bool.and_eq_true, decide_eq_true_iff, decide_eq_true_iff] at z
      obtain ⟨l1, l2⟩ := z
      have hnx : ∀ y ∈ xs, allNsc y = true := List.all_eq_true.mp n2
      obtain ⟨n, h1, h2⟩ := first_not isOrdD xs
      refine ⟨by show xs.length ≤ sizeLine; omega, fun x y => y = x, n, fun y hy => ?_, fun y hy => ?_, fun hle ys hr => ?_⟩
      · refine ⟨_, rfl, rfl, y, rfl, hnx y (List.mem_of_mem_take hy), fun ns e o => rfl, fun no => absurd (h1 y hy) no⟩
      · refine ⟨_, rfl, rfl, y, rfl, hnx y (List.mem_of_getElem? hy), fun ns e o => absurd ⟨ns, e, o⟩ (h2 y hy), fun _ => hx fun ok => h2 y hy (okOrds_all ok y (List.mem_of_getElem? hy))⟩
      · have ey : ys = xs := by rw [RelL.eq (f := fun x => x) hr, List.map_id']
        subst ey
        rw [List.take_of_length_le hle] at h1
        obtain ⟨os, rfl, ho⟩ := ords_of h1
        rw [List.length_map] at l1 l2
        obtain ⟨o0, os', rfl⟩ : ∃ o0 os', os = o0 :: os' := by
          cases os with
          | nil => exact absurd l1 (by show ¬ ((1 : Int) ≤ ((0 : Nat) : Int)); omega)
          | cons o os => exact ⟨o, os, rfl⟩
        refine ⟨fun k env => (∃ s, env = [.sh (.lst ((o0 :: os').map ordD)), .sh (.lst ((o0 :: os').map ordD)), s]) ∧ ∀ j, j < k → ∀ y, (o0 :: os')[j]? = some y → y.length = o0.length, ⟨⟨_, rfl⟩, fun j hj => absurd hj (Nat.not_lt_zero _)⟩, ?_, ?_⟩
        · rintro k y env hy ⟨⟨s, rfl⟩, hk⟩
          rw [List.getElem?_map] at hy
          cases hy' : (o0 :: os')[k]? with
          | none => rw [hy'] at hy; cases hy
          | some o =>
            rw [hy'] at hy
            have hy : ordD o = y := Option.some.inj hy
            subst hy
            refine ⟨ordD o0, atI_nat (j := 0) rfl, ?_⟩
            show if (!decide ((((o.map D.int).length : Nat) : Int) = (((o0.map D.int).length : Nat) : Int))) = true then (1 ≤ sizeLine ∧ Ex a.bad) else _
            rw [List.length_map, List.length_map]
            refine ite2 (fun z => ⟨by omega, hx fun ok => ?_⟩) (fun z => ?_)
            · have hl := (okOrds_len ok (a := o) (b := o0) (List.mem_map_of_mem (List.mem_of_getElem? hy')) (List.mem_map_of_mem List.mem_cons_self)).1
              rw [decide_eq_true (by omega)] at z
              cases z
            · have hl : o.length = o0.length := by
                by_cases h : ((o.length : Nat) : Int) = ((o0.length : Nat) : Int)
                · omega
                · rw [decide_eq_false h] at z
                  exact absurd rfl z
              refine ⟨⟨_, rfl⟩, fun j hj u hu => ?_⟩
              by_cases h : j = k
              · subst h
                rw [hy'] at hu
                cases hu
                exact hl
              · exact hk j (by omega) u hu
        · rintro env ⟨⟨s, rfl⟩, hk⟩
          rw [List.length_map] at hk
          refine ⟨ordD o0, atI_nat (j := 0) rfl, ?_⟩
          show if decide ((((o0.map D.int).length : Nat) : Int) > 5) = true then (1 ≤ sizeLine ∧ Ex a.bad) else Q (.lst ((o0 :: os').map ordD))
          rw [List.length_map]
          refine ite2 (fun z => ⟨by omega, hx fun ok => ?_⟩) (fun z => hq ?_)
          · have hl := (okOrds_len ok (a := o0) (b := o0) (List.mem_map_of_mem List.mem_cons_self) (List.mem_map_of_mem List.mem_cons_self)).2
            have := of_decide_eq_true z
            omega
          · have hl : o0.length ≤ 5 := by
              by_cases h : ((o0.length : Nat) : Int) > 5
              · rw [decide_eq_true h] at z
                exact absurd rfl z
              · omega
            refine ⟨o0 :: os', rfl, by simp, by omega, ho, o0.length, hl, fun y hy => ?_⟩
            obtain ⟨j, hj, rfl⟩ := List.getElem_of_mem hy
            exact hk j hj _ (List.getElem?_eq_getElem hj)
    | _ => cases z
theorem S_ckw : FnScope ["some", "orders", "place"] ["some", "orders"] (defScope s_ckw) := ⟨rfl, rfl, rfl, by decide +kernel, rfl, by decide +kernel, by decide +kernel⟩
theorem ok_ckw (T : Txt K mg a d) : FnOk P w K mg base (CXx P w) 3 a.ckw d.ckw ["some", "orders"] (dSp K 2 (fCkW)) := by
  have G_win : FnOk P w K mg base (CXx P w) 2 a.win d.win ["value", "least", "most"] (dSp K 3 (fWIn)) := ok_win T
  refine dfn T.f_ckw S_ckw (fun cdv A outer s H E b hr => ?_)
  have S := S_ckw
  refine ⟨_, (dss_cons (ds_if (dt_not (dt_val (de_isi .list rfl rfl T.isi rfl T.list_ (dv 0)))) (dss_one (ds_raise b rfl rfl T.g_bad T.x_bad (da_cons de_str da_nil))) dss_nil) (dss_one (ds_loop b (ds_for (loop_passes b) rfl (di_list (dv 0)) (dg_name (i := 2) S.nd rfl (Or.inl rfl)) (dss_one (ds_if (dt_not (dt_val (de_call G_win (hr.mono (by first | decide | omega)) rfl T.g_win T.f_win.kp T.b_win (loop_pass b) (da_cons (dv 2) (da_cons de_int (da_cons (de_sub (de_len rfl T.len (da_cons (dv 1) da_nil)) de_int) da_nil)))))) (dss_one (ds_raiseL b rfl rfl T.g_bad T.x_bad (da_cons de_str da_nil))) dss_nil)))))), fun ds Ex Q hl h => ?_⟩
  obtain ⟨os, w, rfl, c4, okw, hz, q⟩ := h
  have lorders : (os.map ordD).length = os.length := List.length_map ..
  refine ⟨fun k env => ∃ s, env = [.sh (ordD w), .sh (.lst (os.map ordD)), s], ⟨_, rfl⟩, ?_, ?_⟩
  · rintro k y env hy ⟨s, rfl⟩
    rw [List.getElem?_map] at hy
    cases hk : w[k]? with
    | none => rw [hk] at hy; cases hy
    | some x =>
      rw [hk] at hy
      have hy : D.int x = y := Option.some.inj hy
      subst hy
      obtain ⟨x0, x1⟩ := okw x (List.mem_of_getElem? hk)
      refine ⟨rfl, .int x, 0, (((os.map ordD).length : Nat) : Int) - 1, rfl, rfl, ?_⟩
      show if (!(decide ((0 : Int) ≤ x) && decide (x ≤ (((os.map ordD).length : Nat) : Int) - 1))) = true then _ else _
      rw [lorders, decide_eq_true x0, decide_eq_true (show x ≤ ((os.length : Nat) : Int) - 1 by omega)]
      exact ⟨_, rfl⟩
  · rintro env ⟨s, rfl⟩
    exact q
theorem S_leav : FnScope ["orders"] ["orders"] (defScope s_leav) := ⟨rfl, rfl, rfl, by decide +kernel, rfl, by decide +kernel, by decide +kernel⟩
theorem ok_leav (T : Txt K mg a d) : FnOk P w K mg base (CXx P w) 1 a.leav d.leav ["orders"] (dSp K 1 (fLeav)) := by
  refine dfn T.f_leav S_leav (fun cdv A outer s H E b hr => ?_)
  have S := S_leav
  refine ⟨_, (dss_one (ds_ret (DF.de (df_listRange rfl rfl T.list_ rfl T.range (da_cons (de_len rfl T.len (da_cons (de_at (dv 0) de_int) da_nil)) da_nil))))), fun ds Ex Q hl h => ?_⟩
  obtain ⟨os, m, rfl, ok, q⟩ := h
  have hsl : sizeLine = 16777216 := sizeLine_eq
  have c1 := ok.c1
  have m5 := ok.m5
  obtain ⟨o0, os', rfl⟩ : ∃ o0 os', os = o0 :: os' := by
    cases os with
    | nil => exact absurd c1 (by simp)
    | cons o os => exact ⟨o, os, rfl⟩
  have l0 : o0.length = m := by
    have := (ok.perm o0 List.mem_cons_self).length_eq
    rwa [uptoL_length] at this
  refine ⟨ordD o0, atI_nat (j := 0) rfl, fun j e => by cases e; omega, by show (((o0.map D.int).length : Nat) : Int) ≤ 2 ^ 20; rw [List.length_map]; omega, ?_⟩
  rw [List.length_map, l0, Int.toNat_natCast, intsTo_eq]
  exact q
theorem S_wbo : FnScope ["orders", "start", "found", "waiting", "here", "place", "order", "there"] ["orders"] (defScope s_wbo) := ⟨rfl, rfl, rfl, by decide +kernel, rfl, by decide +kernel, by decide +kernel⟩
theorem ok_wbo (T : Txt K mg a d) : FnOk P w K mg base (CXx P w) 4 a.wbo d.wbo ["orders"] (dSp K 1 (fWbo)) := by
  have G_leav : FnOk P w K mg base (CXx P w) 1 a.leav d.leav ["orders"] (dSp K 1 (fLeav)) := ok_leav T
  have G_after : FnOk P w K mg base (CXx P w) 3 a.after d.after ["order", "other"] (dSp K 2 (fAfter a.bad)) := ok_after T
  refine dfn T.f_wbo S_wbo (fun cdv A outer s H E b hr => ?_)
  have S := S_wbo
  refine ⟨_, (dss_cons (ds_set (i := 1) S.nd rfl (Or.inl rfl) (de_call G_leav (hr.mono (by first | decide | omega)) rfl T.g_leav T.f_leav.kp T.b_leav b.pass_ (da_cons (dv 0) da_nil))) (dss_cons (ds_tlit (i := 2) hr.units S.nd rfl (Or.inl rfl) (de_tuple rfl T.tuple_ (da_cons (dv 1) da_nil)) (DF.de (df_lst da_nil))) (dss_cons (ds_own (i := 3) S.nd rfl (Or.inl rfl) (df_lst (da_cons (dv 1) da_nil))) (dss_cons (ds_loop b (ds_while (loop_passes b) (dt_truO (i := 3) rfl (Or.inl rfl)) (dss_cons (ds_setPop (i := 4) (j := 3) S.nd rfl (Or.inl rfl) rfl (Or.inl rfl) de_int) (dss_one (ds_for (loop_passes b) rfl (di_enum rfl T.enum_ (da_cons (dv 0) da_nil)) (dg_pair (i := 5) (j := 6) rfl S.nd rfl rfl (Or.inl rfl) (Or.inl rfl)) (dss_cons (ds_set (i := 7) S.nd rfl (Or.inl rfl) (de_call G_after (hr.mono (by first | decide | omega)) rfl T.g_after T.f_after.kp T.b_after (loop_pass b) (da_cons (dv 4) (da_cons (dv 6) da_nil)))) (dss_one (ds_if (dt_tnotin (i := 2) hr.units rfl (Or.inl rfl) (de_tuple rfl T.tuple_ (da_cons (dv 7) da_nil))) (dss_cons (ds_tput (i := 2) hr.units rfl (Or.inl rfl) (DF.de (df_cat (de_tat (i := 2) hr.units rfl (Or.inl rfl) (de_tuple rfl T.tuple_ (da_cons (dv 4) da_nil))) (DF.de (df_lst (da_cons (dv 5) da_nil))))) (de_tuple rfl T.tuple_ (da_cons (dv 7) da_nil))) (dss_one (ds_append (i := 3) rfl (Or.inl rfl) (dv 7)))) dss_nil)))))))) (dss_freezeT 2 (dss_one (ds_ret (dv 2)))))))), fun ds Ex Q hl h => ?_⟩
  obtain ⟨os, m, rfl, ok, q⟩ := h
  have hsl : sizeLine = 16777216 := sizeLine_eq
  have c1 := ok.c1
  have c4 := ok.c4
  have m1 := ok.m1
  have m5 := ok.m5
  have io : ∀ k : List Int, k.Perm (uptoL m) → IsOrd k ∧ k.length = m := fun k hk => by
    have e : k.length = m := by
      have := hk.length_eq
      rwa [uptoL_length] at this
    exact ⟨⟨by omega, by omega, by rw [e]; exact hk⟩, e⟩
  refine ⟨rfl, os, m, rfl, ok, uptoL m, rfl, by show 0 ≤ sizeLine; omega, by show 1 ≤ sizeLine; omega, ?_⟩
  refine ⟨fun n env => ∃ i ks ws s4 s5 s6 s7, n = 120 - i ∧ i ≤ ks.length ∧ Tab os m i 0 ks ws ∧ (∀ k ∈ ks, k.Perm (uptoL m)) ∧ (∀ (j : Nat) w, ws[j]? = some w → w.length ≤ j) ∧ env = [.sh (.lst (os.map ordD)), .sh (ordD (uptoL m)), .dct ks (ws.map ordD), .own ((ks.drop i).map ordD), s4, s5, s6, s7],
    ⟨120, 0, [uptoL m], [[]], _, _, _, _, rfl, Nat.zero_le _, Tab.start os m, (fun k hk => by rw [List.mem_singleton.mp hk]), (fun j w e => by cases j with | zero => cases e; exact Nat.zero_le _ | succ j => simp at e), rfl⟩, ?_⟩
  rintro n env ⟨i, ks, ws, s4, s5, s6, s7, rfl, hi, T0, hp, hsh, rfl⟩
  have h120 : ks.length ≤ 120 := Nat.le_trans (few T0.nd hp) (fac5 m5)
  by_cases hlt : i < ks.length
  · have hd : ks.drop i = ks[i] :: ks.drop (i + 1) := List.drop_eq_getElem_cons hlt
    rw [hd]
    rw [List.map_cons]
    refine truO_yes rfl ?_
    dsimp only
    rw [if_pos rfl]
    refine ⟨0, ordD ks[i], rfl, by decide, rfl, ?_⟩
    obtain ⟨kk, hkk⟩ : ∃ kk, kk = ks[i] := ⟨_, rfl⟩
    have ekk : ks[i]? = some kk := by rw [hkk]; exact List.getElem?_eq_getElem hlt
    rw [← hkk]
    refine ⟨fun a env => ∃ ks' ws' s5 s6 s7, Tab os m i a ks' ws' ∧ (∀ k ∈ ks', k.Perm (uptoL m)) ∧ (∀ (j : Nat) w, ws'[j]? = some w → w.length ≤ j) ∧ ks'[i]? = some kk ∧ env = [.sh (.lst (os.map ordD)), .sh (ordD (uptoL m)), .dct ks' (ws'.map ordD), .own ((ks'.drop (i + 1)).map ordD), .sh (ordD kk), s5, s6, s7],
      ⟨ks, ws, _, _, _, T0, hp, hsh, ekk, rfl⟩, ?_, ?_⟩
    · rintro b y env hy ⟨ks', ws', s5, s6, s7, T, hp', hsh', hk, rfl⟩
      rw [pairI_get, List.getElem?_map] at hy
      cases ho : os[b]? with
      | none => rw [ho] at hy; cases hy
      | some o =>
        rw [ho] at hy
        have hy : D.tup [.int ((0 + b : Nat)), ordD o] = y := Option.some.inj hy
        subst hy
        rw [Nat.zero_add]
        have hb : b < os.length := (List.getElem?_eq_some_iff.mp ho).1
        have eo : os.getD b [] = o := by rw [List.getD_eq_getElem?_getD, ho]; rfl
        have po := ok.perm o (List.mem_of_getElem? ho)
        have pk := hp' kk (List.mem_of_getElem? hk)
        obtain ⟨io1, io2⟩ := io kk pk
        obtain ⟨io3, io4⟩ := io o po
        have hlt' : i < ks'.length := (List.getElem?_eq_some_iff.mp hk).1
        have hlw : i < ws'.length := by rw [T.len]; exact hlt'
        obtain ⟨w, hw⟩ : ∃ w, ws'[i]? = some w := ⟨_, List.getElem?_eq_getElem hlw⟩
        have h120' : ks'.length ≤ 120 := Nat.le_trans (few T.nd hp') (fac5 m5)
        refine ⟨rfl, ordD kk, ordD o, rfl, allNsc_ord _, allNsc_ord _, fun os1 ps1 e1 e2 _ _ _ => ?_, fun no => absurd ⟨kk, o, rfl, rfl, io1, io3, by omega⟩ no⟩
        have e1 := map_int_inj (D.lst.inj e1)
        have e2 := map_int_inj (D.lst.inj e2)
        subst e1 e2
        refine ⟨comp kk o, rfl, ?_⟩
        show if (!decide (comp kk o ∈ ks')) = true then _ else _
        refine ite2 (fun z => ?_) (fun z => ?_)
        · have hn : comp kk o ∉ ks' := fun y => by rw [decide_eq_true y] at z; cases z
          have hvt : valT ks' (ws'.map ordD) kk = some (ordD w) := valT_at T.nd hk (by rw [List.getElem?_map, hw]; rfl)
          have hwl := hsh' i w hw
          refine ⟨kk, ordD w, rfl, hvt, by show 1 ≤ sizeLine; omega, by show (w.map D.int).length + 1 ≤ sizeLine; rw [List.length_map]; omega, comp kk o, rfl, hn, by omega, ?_⟩
          refine ⟨by rw [List.length_map, List.length_drop]; omega, ?_⟩
          have T' := T.more hb hk hw (by rw [eo]; exact hn)
          rw [eo] at T'
          have pc : (comp kk o).Perm (uptoL m) := comp_perm pk po
          refine ⟨ks' ++ [comp kk o], ws' ++ [w ++ [((b : Nat) : Int)]], .sh (.int ((b : Nat) : Int)), .sh (ordD o), .sh (ordD (comp kk o)), T', fun k hk' => ?_, fun j w' e => ?_, ?_, ?_⟩
          · rcases List.mem_append.mp hk' with y | y
            · exact hp' k y
            · rw [List.mem_singleton.mp y]; exact pc
          · by_cases hj : j < ws'.length
            · rw [List.getElem?_append_left hj] at e
              exact hsh' j w' e
            · rw [List.getElem?_append_right (by omega)] at e
              have lt := (List.getElem?_eq_some_iff.mp e).1
              have ej : j = ws'.length := by simp at lt; omega
              rw [ej, Nat.sub_self] at e
              cases e
              rw [List.length_append]
              show w.length + 1 ≤ j
              omega
          · rw [List.getElem?_append_left hlt']
            exact hk
          · have x1 : (ks' ++ [comp kk o]).drop (i + 1) = ks'.drop (i + 1) ++ [comp kk o] := List.drop_append_of_le_length (by omega)
            rw [x1, List.map_append, List.map_append]
            have x2 : ordD (w ++ [((b : Nat) : Int)]) = .lst (w.map D.int ++ [.int ((b : Nat) : Int)]) := by
              unfold ordD
              rw [List.map_append]
              rfl
            rw [List.map_cons, List.map_nil, List.map_cons, List.map_nil, x2]
            rfl
        · have hn : comp kk o ∈ ks' := by
            by_cases y : comp kk o ∈ ks'
            · exact y
            · rw [decide_eq_false y] at z; exact absurd rfl z
          exact ⟨ks', ws', _, _, _, T.known hk (by rw [eo]; exact hn), hp', hsh', hk, rfl⟩
    · rintro env ⟨ks', ws', s5, s6, s7, T, hp', hsh', hk, rfl⟩
      rw [pairI_length, List.length_map] at T
      have hlt' : i < ks'.length := (List.getElem?_eq_some_iff.mp hk).1
      have h120' : ks'.length ≤ 120 := Nat.le_trans (few T.nd hp') (fac5 m5)
      exact ⟨120 - (i + 1), by omega, i + 1, ks', ws', _, _, _, _, rfl, hlt', T.next, hp', hsh', rfl⟩
  · have ei : i = ks.length := by omega
    rw [List.drop_of_length_le (by omega), List.map_nil]
    subst ei
    refine truO_no rfl ?_
    dsimp only
    rw [if_neg Bool.false_ne_true]
    exact q ks ws T0 hp
theorem S_made : FnScope ["orders", "found"] ["orders"] (defScope s_made) := ⟨rfl, rfl, rfl, by decide +kernel, rfl, by decide +kernel, by decide +kernel⟩
theorem ok_made (T : Txt K mg a d) : FnOk P w K mg base (CXx P w) 5 a.made d.made ["orders"] (dSp K 1 (fMade6)) := by
  have G_wbo : FnOk P w K mg base (CXx P w) 4 a.wbo d.wbo ["orders"] (dSp K 1 (fWbo)) := ok_wbo T
  have G_chks : FnOk P w K mg base (CXx P w) 3 a.chks d.chks ["orders"] (dSp K 1 (fChkOs a.bad)) := ok_chks T
  refine dfn T.f_made S_made (fun cdv A outer s H E b hr => ?_)
  have S := S_made
  refine ⟨_, (dss_cons (ds_set (i := 1) S.nd rfl (Or.inl rfl) (de_call G_wbo (hr.mono (by first | decide | omega)) rfl T.g_wbo T.f_wbo.kp T.b_wbo b.pass_ (da_cons (de_call G_chks (hr.mono (by first | decide | omega)) rfl T.g_chks T.f_chks.kp T.b_chks b.pass_ (da_cons (dv 0) da_nil)) da_nil))) (dss_one (ds_ret (DF.de (df_compM rfl (di_list (DF.de (df_sortDR rfl rfl T.sorted_ (da_cons (dv 1) da_nil)))) (compT (cl := []) (tn := ["order"]) (fn := []) (fv := []) rfl (by decide +kernel) (by decide +kernel) rfl (by repeat' (first | exact trivial | refine ⟨(fun _ => ⟨_, rfl⟩), ?_⟩ | refine ⟨(fun z => by cases z), ?_⟩)) .nil) (fun _ _ _ _ _ => pg_name (i := 0) (show (["order"] : List Str).Nodup by decide +kernel) rfl (Or.inl rfl)) ub_name (fun _ _ _ _ _ => (DF.de (df_list rfl T.list_ (da_cons (dv 0) da_nil))))))))), fun ds Ex Q hl h => ?_⟩
  obtain ⟨os, m, rfl, ok, q⟩ := h
  have hsl : sizeLine = 16777216 := sizeLine_eq
  have m1 := ok.m1
  refine ⟨rfl, _, rfl, allNsc2_ords os, fun _ => ?_, fun no => absurd ok.ok no⟩
  refine ⟨rfl, os, m, rfl, ok, fun ks ws T0 hp => ?_⟩
  have h120 := Nat.le_trans (few T0.nd hp) (fac5 ok.m5)
  refine ⟨uptoL m, fun k hk z => ?_, hp, T0.nd, by omega, fun ms hm hr => ?_⟩
  · have := (hp k hk).length_eq
    rw [z, uptoL_length] at this
    have this : 0 = m := this
    omega
  · have hl := hm.length_eq
    refine ⟨by rw [List.length_map]; omega, (fun x => match x with | .tup xs => .lst xs | x => x), (fun x hx => ?_), ?_⟩
    · obtain ⟨k, hk, rfl⟩ := List.mem_map.mp hx
      exact ⟨_, rfl, rfl⟩
    · have e : (ms.map fun m => D.tup (m.map D.int)).map (fun x => match x with | .tup xs => .lst xs | x => x) = ms.map ordD := by
        rw [List.map_map]
        exact List.map_congr_left fun _ _ => rfl
      show Q (.lst ((ms.map fun m => D.tup (m.map D.int)).map (fun x => match x with | .tup xs => .lst xs | x => x)))
      rw [e]
      exact q ks ws T0 hp ms hm hr
theorem S_word : FnScope ["orders", "goal", "checked", "wanted"] ["orders", "goal"] (defScope s_word) := ⟨rfl, rfl, rfl, by decide +kernel, rfl, by decide +kernel, by decide +kernel⟩
theorem ok_word (T : Txt K mg a d) : FnOk P w K mg base (CXx P w) 5 a.word d.word ["orders", "goal"] (dSp K 2 (fWord)) := by
  have G_chks : FnOk P w K mg base (CXx P w) 3 a.chks d.chks ["orders"] (dSp K 1 (fChkOs a.bad)) := ok_chks T
  have G_chk : FnOk P w K mg base (CXx P w) 2 a.chk d.chk ["order"] (dSp K 1 (fChk a.bad)) := ok_chk T
  have G_wbo : FnOk P w K mg base (CXx P w) 4 a.wbo d.wbo ["orders"] (dSp K 1 (fWbo)) := ok_wbo T
  refine dfn T.f_word S_word (fun cdv A outer s H E b hr => ?_)
  have S := S_word
  refine ⟨_, (dss_cons (ds_set (i := 2) S.nd rfl (Or.inl rfl) (de_call G_chks (hr.mono (by first | decide | omega)) rfl T.g_chks T.f_chks.kp T.b_chks b.pass_ (da_cons (dv 0) da_nil))) (dss_cons (ds_set (i := 3) S.nd rfl (Or.inl rfl) (de_call G_chk (hr.mono (by first | decide | omega)) rfl T.g_chk T.f_chk.kp T.b_chk b.pass_ (da_cons (dv 1) da_nil))) (dss_one (ds_ret (de_getT hr.units (de_call G_wbo (hr.mono (by first | decide | omega)) rfl T.g_wbo T.f_wbo.kp T.b_wbo b.pass_ (da_cons (dv 2) da_nil)) (de_tuple rfl T.tuple_ (da_cons (dv 3) da_nil))))))), fun ds Ex Q hl h => ?_⟩
  obtain ⟨os, m, g, rfl, ok, og, q⟩ := h
  refine ⟨rfl, _, rfl, allNsc2_ords os, fun _ => ?_, fun no => absurd ok.ok no⟩
  refine ⟨rfl, ordD g, rfl, allNsc_ord g, fun ns e o => ?_, fun no => absurd ⟨g, rfl, og⟩ no⟩
  refine ⟨rfl, os, m, rfl, ok, fun ks ws T hp => ⟨g, rfl, q ks ws T hp⟩⟩
theorem S_makes : FnScope ["orders", "some", "checked", "order", "place"] ["orders", "some"] (defScope s_makes) := ⟨rfl, rfl, rfl, by decide +kernel, rfl, by decide +kernel, by decide +kernel⟩
theorem ok_makes (T : Txt K mg a d) : FnOk P w K mg base (CXx P w) 4 a.makes d.makes ["orders", "some"] (dSp K 2 (fMakes6)) := by
  have G_chks : FnOk P w K mg base (CXx P w) 3 a.chks d.chks ["orders"] (dSp K 1 (fChkOs a.bad)) := ok_chks T
  have G_ckw : FnOk P w K mg base (CXx P w) 3 a.ckw d.ckw ["some", "orders"] (dSp K 2 (fCkW)) := ok_ckw T
  have G_leav : FnOk P w K mg base (CXx P w) 1 a.leav d.leav ["orders"] (dSp K 1 (fLeav)) := ok_leav T
  have G_after : FnOk P w K mg base (CXx P w) 3 a.after d.after ["order", "other"] (dSp K 2 (fAfter a.bad)) := ok_after T
  refine dfn T.f_makes S_makes (fun cdv A outer s H E b hr => ?_)
  have S := S_makes
  refine ⟨_, (dss_cons (ds_set (i := 2) S.nd rfl (Or.inl rfl) (de_call G_chks (hr.mono (by first | decide | omega)) rfl T.g_chks T.f_chks.kp T.b_chks b.pass_ (da_cons (dv 0) da_nil))) (dss_cons (ds_expr (de_call G_ckw (hr.mono (by first | decide | omega)) rfl T.g_ckw T.f_ckw.kp T.b_ckw b.pass_ (da_cons (dv 1) (da_cons (dv 2) da_nil)))) (dss_cons (ds_set (i := 3) S.nd rfl (Or.inl rfl) (de_call G_leav (hr.mono (by first | decide | omega)) rfl T.g_leav T.f_leav.kp T.b_leav b.pass_ (da_cons (dv 2) da_nil))) (dss_cons (ds_loop b (ds_for (loop_passes b) rfl (di_list (dv 1)) (dg_name (i := 4) S.nd rfl (Or.inl rfl)) (dss_one (ds_set (i := 3) S.nd rfl (Or.inl rfl) (de_call G_after (hr.mono (by first | decide | omega)) rfl T.g_after T.f_after.kp T.b_after (loop_pass b) (da_cons (dv 3) (da_cons (de_at (dv 2) (dv 4)) da_nil))))))) (dss_one (ds_ret (dv 3))))))), fun ds Ex Q hl h => ?_⟩
  obtain ⟨os, m, w, rfl, ok, okw, hz, q⟩ := h
  have hsl : sizeLine = 16777216 := sizeLine_eq
  have m1 := ok.m1
  have m5 := ok.m5
  have io : ∀ k : List Int, k.Perm (uptoL m) → IsOrd k ∧ k.length = m := fun k hk => by
    have e : k.length = m := by
      have := hk.length_eq
      rwa [uptoL_length] at this
    exact ⟨⟨by omega, by omega, by rw [e]; exact hk⟩, e⟩
  refine ⟨rfl, _, rfl, allNsc2_ords os, fun _ => ?_, fun no => absurd ok.ok no⟩
  refine ⟨rfl, os, w, rfl, ok.c4, okw, hz, ?_⟩
  refine ⟨rfl, os, m, rfl, ok, ?_⟩
  refine ⟨fun k env => ∃ s4, env = [.sh (.lst (os.map ordD)), .sh (ordD w), .sh (.lst (os.map ordD)), .sh (ordD (byW os m (w.take k))), s4] ∧ (byW os m (w.take k)).Perm (uptoL m), ⟨_, rfl, by rw [List.take_zero]; exact List.Perm.refl _⟩, ?_, ?_⟩
  · rintro k y env hy ⟨s4, rfl, hp⟩
    rw [List.getElem?_map] at hy
    cases hk : w[k]? with
    | none => rw [hk] at hy; cases hy
    | some x =>
      rw [hk] at hy
      have hy : D.int x = y := Option.some.inj hy
      subst hy
      have okx := okw x (List.mem_of_getElem? hk)
      obtain ⟨o, ho⟩ : ∃ o, os[x.toNat]? = some o := ⟨_, List.getElem?_eq_getElem (by omega)⟩
      have po := ok.perm o (List.mem_of_getElem? ho)
      have eo : os.getD x.toNat [] = o := by rw [List.getD_eq_getElem?_getD, ho]; rfl
      obtain ⟨io1, io2⟩ := io _ hp
      obtain ⟨io3, io4⟩ := io o po
      have et : w.take (k + 1) = w.take k ++ [x] := by rw [List.take_succ, hk]; rfl
      refine ⟨ordD o, ?_, rfl, ordD (byW os m (w.take k)), ordD o, rfl, allNsc_ord _, allNsc_ord _, fun os1 ps1 e1 e2 _ _ _ => ?_, fun no => absurd ⟨_, o, rfl, rfl, io1, io3, by omega⟩ no⟩
      · have := atI_nat (xs := os.map ordD) (j := x.toNat) (v := ordD o) (by rw [List.getElem?_map, ho]; rfl)
        rwa [show ((x.toNat : Nat) : Int) = x by omega] at this
      · have e1 := map_int_inj (D.lst.inj e1)
        have e2 := map_int_inj (D.lst.inj e2)
        subst e1 e2
        refine ⟨.sh (.int x), ?_, by rw [et, byW_snoc, eo]; exact comp_perm hp po⟩
        rw [et, byW_snoc, eo]
        rfl
  · rintro env ⟨s4, rfl, hp⟩
    rw [List.length_map, List.take_length]
    exact q
theorem S_cell : FnScope ["_law_script", "_law_k"] ["_law_script", "_law_k"] (defScope s_cell) := ⟨rfl, rfl, rfl, by decide +kernel, rfl, by decide +kernel, by decide +kernel⟩
theorem ok_cell (T : Txt K mg a d) : FnOk P w K mg base (CXx P w) 1 a.cell d.cell ["_law_script", "_law_k"] (dSp K 2 (fCell)) := by
  refine dfn T.f_cell S_cell (fun cdv A outer s H E b hr => ?_)
  have S := S_cell
  refine ⟨_, (dss_cons (ds_if (dt_lt (dv 1) (de_len rfl T.len (da_cons (dv 0) da_nil))) (dss_one (ds_ret (de_at (dv 0) (dv 1)))) dss_nil) (dss_one (ds_ret de_int))), fun ds Ex Q hl h => ?_⟩
  obtain ⟨ns, k, rfl, hk, q⟩ := h
  show if decide (k < ((ns.length : Nat) : Int)) = true then ∃ n, atI ns k = some n ∧ Q (.int n) else Q (.int 0)
  unfold cellAt at q
  refine ite2 (fun z => ?_) (fun z => ?_)
  · have z := of_decide_eq_true z
    rw [if_pos z] at q
    have hlt : k.toNat < ns.length := by omega
    refine ⟨ns.getD k.toNat 0, ?_, q⟩
    have e := atI_nat (xs := ns) (j := k.toNat) (v := ns.getD k.toNat 0) (by rw [List.getD_eq_getElem?_getD, List.getElem?_eq_getElem hlt]; rfl)
    rw [show ((k.toNat : Nat) : Int) = k by omega] at e
    exact e
  · have z : ¬ k < ((ns.length : Nat) : Int) := fun y => z (decide_eq_true y)
    rw [if_neg z] at q
    exact q
theorem S_mix : FnScope ["_law_cell_here", "_law_prime", "_law_many"] ["_law_cell_here", "_law_prime", "_law_many"] (defScope s_mix) := ⟨rfl, rfl, rfl, by decide +kernel, rfl, by decide +kernel, by decide +kernel⟩
theorem ok_mix (T : Txt K mg a d) : FnOk P w K mg base (CXx P w) 1 a.mix d.mix ["_law_cell_here", "_law_prime", "_law_many"] (dSp K 3 (fMix)) := by
  refine dfn T.f_mix S_mix (fun cdv A outer s H E b hr => ?_)
  have S := S_mix
  refine ⟨_, (dss_one (ds_ret (de_mod (de_mod (de_mul (dv 0) de_int) (dv 1)) (dv 2)))), fun ds Ex Q hl h => ?_⟩
  obtain ⟨c, p, m, rfl, hp, hm, q⟩ := h
  exact ⟨.inr ⟨by decide, by decide⟩, hp, hm, q⟩
theorem S_large : FnScope ["_law_script"] ["_law_script"] (defScope s_large) := ⟨rfl, rfl, rfl, by decide +kernel, rfl, by decide +kernel, by decide +kernel⟩
theorem ok_large (T : Txt K mg a d) : FnOk P w K mg base (CXx P w) 2 a.large d.large ["_law_script"] (dSp K 1 (fLarge)) := by
  have G_mix : FnOk P w K mg base (CXx P w) 1 a.mix d.mix ["_law_cell_here", "_law_prime", "_law_many"] (dSp K 3 (fMix)) := ok_mix T
  have G_cell : FnOk P w K mg base (CXx P w) 1 a.cell d.cell ["_law_script", "_law_k"] (dSp K 2 (fCell)) := ok_cell T
  refine dfn T.f_large S_large (fun cdv A outer s H E b hr => ?_)
  have S := S_large
  refine ⟨_, (dss_one (ds_ret (de_eq hr.units (de_call G_mix (hr.mono (by first | decide | omega)) rfl T.g_mix T.f_mix.kp T.b_mix b.pass_ (da_cons (de_add (de_call G_cell (hr.mono (by first | decide | omega)) rfl T.g_cell T.f_cell.kp T.b_cell b.pass_ (da_cons (dv 0) (da_cons de_int da_nil))) (de_mul de_int (de_len rfl T.len (da_cons (dv 0) da_nil)))) (da_cons de_int (da_cons de_int da_nil)))) de_int))), fun ds Ex Q hl h => ?_⟩
  obtain ⟨ns, rfl, q⟩ := h
  exact ⟨rfl, ns, 0, rfl, by decide, .inl ⟨by decide, by decide⟩, rfl, _, 9871, 8, rfl, by decide, by decide, q _⟩
theorem S_order : FnScope ["_law_script", "_law_at", "_law_many", "_law_keys"] ["_law_script", "_law_at", "_law_many"] (defScope s_order) := ⟨rfl, rfl, rfl, by decide +kernel, rfl, by decide +kernel, by decide +kernel⟩
theorem ok_order (T : Txt K mg a d) : FnOk P w K mg base (CXx P w) 2 a.order d.order ["_law_script", "_law_at", "_law_many"] (dSp K 3 (fOrder)) := by
  have G_mix : FnOk P w K mg base (CXx P w) 1 a.mix d.mix ["_law_cell_here", "_law_prime", "_law_many"] (dSp K 3 (fMix)) := ok_mix T
  have G_cell : FnOk P w K mg base (CXx P w) 1 a.cell d.cell ["_law_script", "_law_k"] (dSp K 2 (fCell)) := ok_cell T
  refine dfn T.f_order S_order (fun cdv A outer s H E b hr => ?_)
  have S := S_order
  refine ⟨_, (dss_cons (ds_ownCM (i := 3) S.nd rfl (Or.inl rfl) rfl (di_range rfl T.range (da_cons (dv 2) da_nil)) (compT (cl := [("_law_script", _), ("_law_at", _)]) (tn := ["_law_k"]) (fn := ["_law_script", "_law_at"]) (fv := [0, 1]) rfl (by decide +kernel) (by decide +kernel) rfl (by repeat' (first | exact trivial | refine ⟨(fun _ => ⟨_, rfl⟩), ?_⟩ | refine ⟨(fun z => by cases z), ?_⟩)) (.cons (y := "_law_script") (k := 0) (.cons (y := "_law_at") (k := 1) .nil rfl rfl (.inr (.inl rfl)) rfl rfl) rfl rfl (.inr (.inl rfl)) rfl rfl)) (fun _ _ _ _ _ => pg_name (i := 0) (show (["_law_k", "_law_script", "_law_at"] : List Str).Nodup by decide +kernel) rfl (Or.inl rfl)) ub_name (fun _ _ _ _ _ => (de_tup (da_cons (de_call G_mix (hr.mono (by first | decide | omega)) rfl T.g_mix T.f_mix.kp T.b_mix pass0x (da_cons (de_add (de_call G_cell (hr.mono (by first | decide | omega)) rfl T.g_cell T.f_cell.kp T.b_cell pass0x (da_cons (dv 1) (da_cons (de_add (dv 2) (dv 0)) da_nil))) (de_mul (de_mul de_int (dv 0)) (dv 0))) (da_cons de_int (da_cons de_int da_nil)))) (da_cons (dv 0) da_nil))))) (dss_freeze 3 (dss_one (ds_ret (DF.de (df_compM rfl (di_list (DF.de (df_sortT rfl T.sorted_ (da_cons (dv 3) da_nil)))) (compT (cl := []) (tn := ["_law_key"]) (fn := []) (fv := []) rfl (by decide +kernel) (by decide +kernel) rfl (by repeat' (first | exact trivial | refine ⟨(fun _ => ⟨_, rfl⟩), ?_⟩ | refine ⟨(fun z => by cases z), ?_⟩)) .nil) (fun _ _ _ _ _ => pg_name (i := 0) (show (["_law_key"] : List Str).Nodup by decide +kernel) rfl (Or.inl rfl)) ub_name (fun _ _ _ _ _ => (de_at (dv 0) de_int)))))))), fun ds Ex Q hl h => ?_⟩
  obtain ⟨ns, at', m, rfl, ha, h1, h2, q⟩ := h
  refine ⟨by omega, by omega, ?_, (fun x => match x with | .int k => .tup [.int ((cellAt ns (at' + k) + 29 * k * k) * 48271 % 9931 % 997), .int k] | x => x), (fun x hx => ?_), ?_⟩
  · rw [intsTo_eq, List.length_map, uptoL_length]
    have := sizeLine_eq
    omega
  · rw [intsTo_eq] at hx
    obtain ⟨k, hk, rfl⟩ := List.mem_map.mp hx
    obtain ⟨k0, k1⟩ := mem_uptoL.mp hk
    refine ⟨_, rfl, ?_⟩
    refine ⟨rfl, ns, at' + k, rfl, by omega, .inl ⟨by decide, by decide⟩, .inl ⟨by omega, by omega⟩, rfl, _, 9931, 997, rfl, by decide, by decide, ?_⟩
    exact ⟨by show 2 ≤ sizeLine; decide, rfl⟩
  · refine ⟨_, rfl, ?_, fun t ht => ?_, fun out hp => ?_⟩
    · rw [List.length_map, intsTo_eq, List.length_map, uptoL_length]
      omega
    · rw [intsTo_eq, List.map_map] at ht
      obtain ⟨k, hk, rfl⟩ := List.mem_map.mp ht
      exact ⟨_, [k], rfl⟩
    · rw [intsTo_eq, List.map_map] at hp
      refine ⟨?_, (fun x => match x with | .tup [_, y] => y | x => x), (fun x hx => ?_), ?_⟩
      · rw [hp.length_eq, List.length_map, uptoL_length]
        have := sizeLine_eq
        omega
      · obtain ⟨k, hk, rfl⟩ := List.mem_map.mp (hp.mem_iff.mp hx)
        exact ⟨_, rfl, _, atI_nat (j := 1) rfl, rfl⟩
      · have hp2 := hp.map (fun x => match x with | .tup [_, y] => y | x => x)
        rw [List.map_map] at hp2
        have e : (uptoL m.toNat).map ((fun x => match x with | D.tup [_, y] => y | x => x) ∘ ((fun x => match x with | D.int k => D.tup [D.int ((cellAt ns (at' + k) + 29 * k * k) * 48271 % 9931 % 997), D.int k] | x => x) ∘ D.int)) = (uptoL m.toNat).map D.int := List.map_congr_left fun k _ => rfl
        rw [e] at hp2
        obtain ⟨os, po, eo⟩ := perm_ints hp2
        rw [eo]
        exact q os po
theorem S_lords : FnScope ["_law_script", "_law_many", "_law_count"] ["_law_script"] (defScope s_lords) := ⟨rfl, rfl, rfl, by decide +kernel, rfl, by decide +kernel, by decide +kernel⟩
theorem ok_lords (T : Txt K mg a d) : FnOk P w K mg base (CXx P w) 3 a.lords d.lords ["_law_script"] (dSp K 1 (fLOrds)) := by
  have G_large : FnOk P w K mg base (CXx P w) 2 a.large d.large ["_law_script"] (dSp K 1 (fLarge)) := ok_large T
  have G_order : FnOk P w K mg base (CXx P w) 2 a.order d.order ["_law_script", "_law_at", "_law_many"] (dSp K 3 (fOrder)) := ok_order T
  have G_cell : FnOk P w K mg base (CXx P w) 1 a.cell d.cell ["_law_script", "_law_k"] (dSp K 2 (fCell)) := ok_cell T
  refine dfn T.f_lords S_lords (fun cdv A outer s H E b hr => ?_)
  have S := S_lords
  refine ⟨_, (dss_cons (ds_set (i := 1) S.nd rfl (Or.inr rfl) (de_add de_int (de_mod (de_call G_cell (hr.mono (by first | decide | omega)) rfl T.g_cell T.f_cell.kp T.b_cell b.pass_ (da_cons (dv 0) (da_cons de_int da_nil))) de_int))) (dss_cons (ds_if (dt_val (de_call G_large (hr.mono (by first | decide | omega)) rfl T.g_large T.f_large.kp T.b_large b.pass_ (da_cons (dv 0) da_nil))) (dss_one (ds_set (i := 1) S.nd rfl (Or.inr rfl) (de_add de_int (de_mod (de_call G_cell (hr.mono (by first | decide | omega)) rfl T.g_cell T.f_cell.kp T.b_cell b.pass_ (da_cons (dv 0) (da_cons de_int da_nil))) de_int)))) dss_nil) (dss_cons (ds_if (dt_gt (de_len rfl T.len (da_cons (dv 0) da_nil)) de_int) (dss_one (ds_set (i := 1) S.nd rfl (Or.inr rfl) (de_add de_int (de_mod (de_call G_cell (hr.mono (by first | decide | omega)) rfl T.g_cell T.f_cell.kp T.b_cell b.pass_ (da_cons (dv 0) (da_cons de_int da_nil))) de_int)))) dss_nil) (dss_cons (ds_set (i := 2) S.nd rfl (Or.inl rfl) (de_add de_int (de_mod (de_call G_cell (hr.mono (by first | decide | omega)) rfl T.g_cell T.f_cell.kp T.b_cell b.pass_ (da_cons (dv 0) (da_cons de_int da_nil))) de_int))) (dss_one (ds_ret (DF.de (df_compX b rfl (di_range rfl T.range (da_cons (dv 2) da_nil)) (compT (cl := [("_law_script", _), ("_law_many", _)]) (tn := ["_law_k"]) (fn := ["_law_script", "_law_many"]) (fv := [0, 1]) rfl (by decide +kernel) (by decide +kernel) rfl (by repeat' (first | exact trivial | refine ⟨(fun _ => ⟨_, rfl⟩), ?_⟩ | refine ⟨(fun z => by cases z), ?_⟩)) (.cons (y := "_law_script") (k := 0) (.cons (y := "_law_many") (k := 1) .nil rfl rfl (.inr (.inl rfl)) rfl rfl) rfl rfl (.inr (.inl rfl)) rfl rfl)) (fun _ _ _ _ _ => pg_name (i := 0) (show (["_law_k", "_law_script", "_law_many"] : List Str).Nodup by decide +kernel) rfl (Or.inl rfl)) ub_name (fun _ _ _ _ _ => (de_call G_order (hr.mono (by first | decide | omega)) rfl T.g_order T.f_order.kp T.b_order (comp_pass b) (da_cons (dv 1) (da_cons (de_add de_int (de_mul de_int (dv 0))) (da_cons (dv 2) da_nil))))))))))))), fun ds Ex Q hl h => ?_⟩
  obtain ⟨ns, rfl, hl63, q⟩ := h
  have hsl : sizeLine = 16777216 := sizeLine_eq
  refine ⟨rfl, ns, 0, rfl, by decide, by show (0 : Int) < 4; decide, ?_⟩
  obtain ⟨n0, hn0, h1, h2⟩ := modN (c := cellAt ns 0) (m := 4) 1 (by decide)
  have hn0 : (1 : Int) + cellAt ns 0 % 4 = ((n0 : Nat) : Int) := hn0
  obtain ⟨n5, hn5, h51, h52⟩ := modN (c := cellAt ns 0) (m := 5) 1 (by decide)
  have hn5 : (1 : Int) + cellAt ns 0 % 5 = ((n5 : Nat) : Int) := hn5
  obtain ⟨nc, hnc, hc1, hc2⟩ := modN (c := cellAt ns 1) (m := 4) 1 (by decide)
  have hnc : (1 : Int) + cellAt ns 1 % 4 = ((nc : Nat) : Int) := hnc
  dsimp only [hAdd, hII]
  rw [hn0]
  refine seq_key (P := fun e => ∃ n : Nat, 1 ≤ n ∧ n ≤ 5 ∧ e = [.sh (.scr ns), .sh (.int (n : Nat)), .un]) ?_ ?_
  rotate_left
  · intro key
    refine ⟨rfl, ns, rfl, fun b => ?_⟩
    cases b with
    | false => exact key _ ⟨n0, by omega, by omega, rfl⟩
    | true =>
      refine ⟨rfl, ns, 0, rfl, by decide, by show (0 : Int) < 5; decide, ?_⟩
      dsimp only [hAdd, hII]
      rw [hn5]
      exact key _ ⟨n5, by omega, by omega, rfl⟩
  rintro _ ⟨n, hn1, hn2, rfl⟩
  show if decide (((ns.length : Nat) : Int) > 63) = true then _ else _
  rw [decide_eq_false (by omega)]
  refine ⟨rfl, ns, 1, rfl, by decide, by show (0 : Int) < 4; decide, ?_⟩
  dsimp only [hAdd, hII]
  rw [hnc]
  refine ⟨by omega, by omega, ?_, fun _ y => ∃ os : List Int, os.Perm (uptoL n) ∧ y = ordD os, nc, fun y hy => ?_, fun y hy => ?_, fun _ ys hr => ?_⟩
  · rw [intsTo_eq, List.length_map, uptoL_length]
    omega
  · rw [intsTo_eq] at hy
    obtain ⟨k, hk, rfl⟩ := List.mem_map.mp (List.mem_of_mem_take hy)
    obtain ⟨k0, k1⟩ := mem_uptoL.mp hk
    exact ⟨_, rfl, .inl ⟨by decide, by decide⟩, rfl, ns, 2 + 4 * k, (n : Nat), rfl, by omega, by omega, by omega, fun os hp => ⟨os, hp, rfl⟩⟩
  · rw [intsTo_eq, List.getElem?_map] at hy
    have : (uptoL ((nc : Nat) : Int).toNat)[nc]? = none := List.getElem?_eq_none (by rw [uptoL_length]; omega)
    rw [this] at hy
    cases hy
  · have hl := hr.len
    rw [intsTo_eq, List.length_map, uptoL_length] at hl
    obtain ⟨os, rfl, ho⟩ := perms_of fun y hy => let ⟨_, _, r⟩ := hr.all y hy; r
    rw [List.length_map] at hl
    exact q os n hn1 hn2 (by omega) (by omega) ho
theorem S_lby : FnScope ["_law_orders_here", "_law_some", "_law_row", "_law_at"] ["_law_orders_here", "_law_some"] (defScope s_lby) := ⟨rfl, rfl, rfl, by decide +kernel, rfl, by decide +kernel, by decide +kernel⟩
theorem ok_lby (T : Txt K mg a d) : FnOk P w K mg base (CXx P w) 1 a.lby d.lby ["_law_orders_here", "_law_some"] (dSp K 2 (fBy)) := by
  refine dfn T.f_lby S_lby (fun cdv A outer s H E b hr => ?_)
  have S := S_lby
  refine ⟨_, (dss_cons (ds_set (i := 2) S.nd rfl (Or.inl rfl) (DF.de (df_listRange rfl rfl T.list_ rfl T.range (da_cons (de_len rfl T.len (da_cons (de_at (dv 0) de_int) da_nil)) da_nil)))) (dss_cons (ds_loop b (ds_for (loop_passes b) rfl (di_list (dv 1)) (dg_name (i := 3) S.nd rfl (Or.inr rfl)) (dss_cons (ds_ownCM (i := 2) S.nd rfl (Or.inl rfl) rfl (di_list (dv 2)) (compT (cl := [("_law_orders_here", _), ("_law_at", _)]) (tn := ["_law_place"]) (fn := ["_law_orders_here", "_law_at"]) (fv := [0, 3]) rfl (by decide +kernel) (by decide +kernel) rfl (by repeat' (first | exact trivial | refine ⟨(fun _ => ⟨_, rfl⟩), ?_⟩ | refine ⟨(fun z => by cases z), ?_⟩)) (.cons (y := "_law_orders_here") (k := 0) (.cons (y := "_law_at") (k := 3) .nil rfl rfl (.inr (.inl rfl)) rfl rfl) rfl rfl (.inr (.inl rfl)) rfl rfl)) (fun _ _ _ _ _ => pg_name (i := 0) (show (["_law_place", "_law_orders_here", "_law_at"] : List Str).Nodup by decide +kernel) rfl (Or.inl rfl)) ub_name (fun _ _ _ _ _ => (de_at (de_at (dv 1) (dv 2)) (dv 0)))) (dss_freeze 2 dss_nil)))) (dss_one (ds_ret (dv 2))))), fun ds Ex Q hl h => ?_⟩
  obtain ⟨os, m, w, rfl, ok, okw, hz, q⟩ := h
  have hsl : sizeLine = 16777216 := sizeLine_eq
  have c1 := ok.c1
  have m5 := ok.m5
  obtain ⟨o0, os', e0⟩ : ∃ o0 os', os = o0 :: os' := by
    cases os with
    | nil => exact absurd c1 (by simp)
    | cons o os => exact ⟨o, os, rfl⟩
  have l0 : o0.length = m := by
    have := (ok.perm o0 (by rw [e0]; exact List.mem_cons_self)).length_eq
    rwa [uptoL_length] at this
  refine ⟨ordD o0, by rw [e0]; exact atI_nat (j := 0) rfl, fun j e => by cases e; omega, by show (((o0.map D.int).length : Nat) : Int) ≤ 2 ^ 20; rw [List.length_map]; omega, ?_⟩
  rw [List.length_map, l0, Int.toNat_natCast, intsTo_eq]
  refine ⟨fun k env => ∃ s3, env = [.sh (.lst (os.map ordD)), .sh (ordD w), .sh (ordD (byW os m (w.take k))), s3] ∧ (byW os m (w.take k)).Perm (uptoL m), ⟨_, rfl, by rw [List.take_zero]; exact List.Perm.refl _⟩, ?_, ?_⟩
  · rintro k y env hy ⟨s3, rfl, hp⟩
    rw [List.getElem?_map] at hy
    cases hk : w[k]? with
    | none => rw [hk] at hy; cases hy
    | some x =>
      rw [hk] at hy
      have hy : D.int x = y := Option.some.inj hy
      subst hy
      have okx := okw x (List.mem_of_getElem? hk)
      obtain ⟨o, ho⟩ : ∃ o, os[x.toNat]? = some o := ⟨_, List.getElem?_eq_getElem (by omega)⟩
      have po := ok.perm o (List.mem_of_getElem? ho)
      have eo : os.getD x.toNat [] = o := by rw [List.getD_eq_getElem?_getD, ho]; rfl
      have lo : o.length = m := by
        have := po.length_eq
        rwa [uptoL_length] at this
      have lr : (byW os m (w.take k)).length = m := by
        have := hp.length_eq
        rwa [uptoL_length] at this
      have et : w.take (k + 1) = w.take k ++ [x] := by rw [List.take_succ, hk]; rfl
      refine ⟨by show ((byW os m (w.take k)).map D.int).length ≤ sizeLine; rw [List.length_map, lr]; omega, (fun d => match d with | .int i => .int (at0 o i) | d => d), (fun d hd => ?_), ?_⟩
      · obtain ⟨i, hi, rfl⟩ := List.mem_map.mp hd
        obtain ⟨i0, i1⟩ := mem_uptoL.mp (hp.mem_iff.mp hi)
        refine ⟨_, rfl, ordD o, ?_, _, atI_ints i0 (by omega), rfl⟩
        have := atI_nat (xs := os.map ordD) (j := x.toNat) (v := ordD o) (by rw [List.getElem?_map, ho]; rfl)
        rwa [show ((x.toNat : Nat) : Int) = x by omega] at this
      · refine ⟨.sh (.int x), ?_, by rw [et, byW_snoc, eo]; exact comp_perm hp po⟩
        rw [et, byW_snoc, eo]
        have e : ((byW os m (w.take k)).map D.int).map (fun d => match d with | .int i => .int (at0 o i) | d => d) = (comp (byW os m (w.take k)) o).map D.int := by
          unfold comp
          rw [List.map_map, List.map_map]
          exact List.map_congr_left fun _ _ => rfl
        unfold ordD
        rw [← e]
        rfl
  · rintro env ⟨s3, rfl, hp⟩
    rw [List.length_map, List.take_length]
    exact q
end
end Ka26
set_option maxHeartbeats 4000000
namespace Ka26
open PySem L2
section
variable {P : Program} {w : World} {K : PySem.W.Frag} {mg : Str → Option Value} {base : Heap} {a : Ad} {d : Fd}
theorem S_law : FnScope ["_law_script", "_law_orders_here", "_law_kept", "_law_found", "_law_k", "_law_order_here", "_law_other", "_law_some", "_law_told", "_law_at", "_law_steps"] ["_law_script"] (defScope s_law) := ⟨rfl, rfl, rfl, by decide +kernel, rfl, by decide +kernel, by decide +kernel⟩
theorem ok_law (T : Txt K mg a d) : FnOk P w K mg base (CXx P w) 6 a.law d.law ["_law_script"] (dSp K 1 (fLaw)) := by
  have G_lords : FnOk P w K mg base (CXx P w) 3 a.lords d.lords ["_law_script"] (dSp K 1 (fLOrds)) := ok_lords T
  have G_made : FnOk P w K mg base (CXx P w) 5 a.made d.made ["orders"] (dSp K 1 (fMade6)) := ok_made T
  have G_makes : FnOk P w K mg base (CXx P w) 4 a.makes d.makes ["orders", "some"] (dSp K 2 (fMakes6)) := ok_makes T
  have G_word : FnOk P w K mg base (CXx P w) 5 a.word d.word ["orders", "goal"] (dSp K 2 (fWord)) := ok_word T
  have G_cell : FnOk P w K mg base (CXx P w) 1 a.cell d.cell ["_law_script", "_law_k"] (dSp K 2 (fCell)) := ok_cell T
  have G_lby : FnOk P w K mg base (CXx P w) 1 a.lby d.lby ["_law_orders_here", "_law_some"] (dSp K 2 (fBy)) := ok_lby T
  refine dfn T.f_law S_law (fun cdv A outer s H E b hr => ?_)
  have S := S_law
  refine ⟨_, (dss_cons (ds_set (i := 1) S.nd rfl (Or.inr rfl) (de_call G_lords (hr.mono (by first | decide | omega)) rfl T.g_lords T.f_lords.kp T.b_lords b.pass_ (da_cons (dv 0) da_nil))) (dss_cons (ds_ownCM (i := 2) S.nd rfl (Or.inl rfl) rfl (di_list (dv 1)) (compT (cl := []) (tn := ["_law_order_here"]) (fn := []) (fv := []) rfl (by decide +kernel) (by decide +kernel) rfl (by repeat' (first | exact trivial | refine ⟨(fun _ => ⟨_, rfl⟩), ?_⟩ | refine ⟨(fun z => by cases z), ?_⟩)) .nil) (fun _ _ _ _ _ => pg_name (i := 0) (show (["_law_order_here"] : List Str).Nodup by decide +kernel) rfl (Or.inl rfl)) ub_name (fun _ _ _ _ _ => (DF.de (df_list rfl T.list_ (da_cons (dv 0) da_nil))))) (dss_freeze 2 (dss_cons (ds_set (i := 3) S.nd rfl (Or.inl rfl) (de_call G_made (hr.mono (by first | decide | omega)) rfl T.g_made T.f_made.kp T.b_made b.pass_ (da_cons (dv 2) da_nil))) (dss_cons (ds_if (DW.dt (dw_or (dt_not (dt_val (de_isi .list rfl rfl T.isi rfl T.list_ (dv 3)))) (dw_or (dt_ne hr.units (dv 2) (dv 1)) (dw_or1 (dt_notInL hr.units (DF.de (df_listRange rfl rfl T.list_ rfl T.range (da_cons (de_len rfl T.len (da_cons (de_at (dv 1) de_int) da_nil)) da_nil))) (dv 3)))))) (dss_one (ds_ret de_bl)) dss_nil) (dss_cons (ds_loop b (ds_for (loop_passes b) rfl (di_enum rfl T.enum_ (da_cons (dv 3) da_nil)) (dg_pair (i := 4) (j := 5) rfl S.nd rfl rfl (Or.inl rfl) (Or.inl rfl)) (dss_cons (ds_if (DW.dt (dw_or (dt_not (dt_val (de_isi .list rfl rfl T.isi rfl T.list_ (dv 5)))) (dw_or1 (DW.dt (dw_and (dt_gt (dv 4) de_int) (dw_and1 (dt_leL hr.units (dv 5) (de_at (dv 3) (de_sub (dv 4) de_int))))))))) (dss_one (ds_ret de_bl)) dss_nil) (dss_one (ds_for (loop_passes b) rfl (di_list (dv 1)) (dg_name (i := 6) S.nd rfl (Or.inr rfl)) (dss_one (ds_if (dt_notInL hr.units (DF.de (df_compM rfl (di_list (dv 5)) (compT (cl := [("_law_other", _)]) (tn := ["_law_place"]) (fn := ["_law_other"]) (fv := [6]) rfl (by decide +kernel) (by decide +kernel) rfl (by repeat' (first | exact trivial | refine ⟨(fun _ => ⟨_, rfl⟩), ?_⟩ | refine ⟨(fun z => by cases z), ?_⟩)) (.cons (y := "_law_other") (k := 6) .nil rfl rfl (.inr (.inl rfl)) rfl rfl)) (fun _ _ _ _ _ => pg_name (i := 0) (show (["_law_place", "_law_other"] : List Str).Nodup by decide +kernel) rfl (Or.inl rfl)) ub_name (fun _ _ _ _ _ => (de_at (dv 1) (dv 0))))) (dv 3)) (dss_one (ds_ret de_bl)) dss_nil))))))) (dss_cons (ds_ownCM (i := 7) S.nd rfl (Or.inl rfl) rfl (di_list (DF.de (df_cut (dv 0) (dp_some de_int) (dp_some de_int)))) (compT (cl := [("_law_orders_here", _)]) (tn := ["_law_cell_here"]) (fn := ["_law_orders_here"]) (fv := [1]) rfl (by decide +kernel) (by decide +kernel) rfl (by repeat' (first | exact trivial | refine ⟨(fun _ => ⟨_, rfl⟩), ?_⟩ | refine ⟨(fun z => by cases z), ?_⟩)) (.cons (y := "_law_orders_here") (k := 1) .nil rfl rfl (.inr (.inl rfl)) rfl rfl)) (fun _ _ _ _ _ => pg_name (i := 0) (show (["_law_cell_here", "_law_orders_here"] : List Str).Nodup by decide +kernel) rfl (Or.inl rfl)) ub_name (fun _ _ _ _ _ => (de_mod (dv 0) (de_len rfl T.len (da_cons (dv 1) da_nil))))) (dss_freeze 7 (dss_cons (ds_set (i := 8) S.nd rfl (Or.inl rfl) (de_call G_makes (hr.mono (by first | decide | omega)) rfl T.g_makes T.f_makes.kp T.b_makes b.pass_ (da_cons (dv 2) (da_cons (DF.de (df_list rfl T.list_ (da_cons (dv 7) da_nil))) da_nil)))) (dss_cons (ds_if (DW.dt (dw_or (dt_not (dt_val (de_isi .list rfl rfl T.isi rfl T.list_ (dv 8)))) (dw_or (dt_ne hr.units (dv 8) (de_call G_lby (hr.mono (by first | decide | omega)) rfl T.g_lby T.f_lby.kp T.b_lby b.pass_ (da_cons (dv 1) (da_cons (dv 7) da_nil)))) (dw_or1 (dt_notInL hr.units (dv 8) (dv 3)))))) (dss_one (ds_ret de_bl)) dss_nil) (dss_cons (ds_set (i := 9) S.nd rfl (Or.inl rfl) (de_mod (de_call G_cell (hr.mono (by first | decide | omega)) rfl T.g_cell T.f_cell.kp T.b_cell b.pass_ (da_cons (dv 0) (da_cons de_int da_nil))) (de_len rfl T.len (da_cons (dv 3) da_nil)))) (dss_cons (ds_set (i := 10) S.nd rfl (Or.inl rfl) (de_call G_word (hr.mono (by first | decide | omega)) rfl T.g_word T.f_word.kp T.b_word b.pass_ (da_cons (dv 2) (da_cons (DF.de (df_list rfl T.list_ (da_cons (de_at (dv 3) (dv 9)) da_nil))) da_nil)))) (dss_one (ds_ret (de_and (de_isi .list rfl rfl T.isi rfl T.list_ (dv 10)) (de_and (de_eq hr.units (dv 2) (dv 1)) (de_one (de_eq hr.units (de_call G_lby (hr.mono (by first | decide | omega)) rfl T.g_lby T.f_lby.kp T.b_lby b.pass_ (da_cons (dv 1) (da_cons (dv 10) da_nil))) (de_at (dv 3) (dv 9)))))))))))))))))))), fun ds Ex Q hl h => ?_⟩
  obtain ⟨ns, rfl, hl63, q⟩ := h
  have hsl : sizeLine = 16777216 := sizeLine_eq
  refine ⟨rfl, ns, rfl, hl63, fun os m m1 m5 c1 c4 hpo => ?_⟩
  have ok : OkOs os m := ⟨m1, m5, c1, c4, hpo⟩
  obtain ⟨o0, os', e0⟩ : ∃ o0 os', os = o0 :: os' := by
    cases os with
    | nil => exact absurd c1 (by simp)
    | cons o os => exact ⟨o, os, rfl⟩
  have l0 : o0.length = m := by
    have := (hpo o0 (by rw [e0]; exact List.mem_cons_self)).length_eq
    rwa [uptoL_length] at this
  have lorders : (os.map ordD).length = os.length := List.length_map ..
  refine ⟨by rw [lorders]; omega, (fun x => x), (fun x hx => ?_), ?_⟩
  · obtain ⟨o, ho, rfl⟩ := List.mem_map.mp hx
    exact ⟨_, rfl, rfl⟩
  rw [List.map_id']
  refine ⟨rfl, os, m, rfl, ok, fun ks ws T0 hp ms hm hr => ?_⟩
  have gg : (okDs (os.map ordD) = true ∧ okDs (os.map ordD) = true ∧ hiDs (os.map ordD) ≤ 40 ∧ cmpD (.lst (os.map ordD)) (.lst (os.map ordD)) = true) := ⟨okDs_ords os, okDs_ords os, Nat.le_trans (hiDs_ords os) (by decide), by
    show ((_ != _) || cmpDs _ _) = true
    rw [cmpDs_ords, Bool.or_true]⟩
  refine ⟨gg.1, gg.2.1, gg.2.2.1, gg.2.2.2, ?_⟩
  rw [eqDs_refl _ (okDs_ords os)]
  dsimp only
  rw [if_neg (by decide)]
  have um : uptoL m ∈ ms := hm.mem_iff.mpr (List.mem_of_getElem? T0.first.1)
  have lms : ms.length ≤ 120 := by rw [hm.length_eq]; exact Nat.le_trans (few T0.nd hp) (fac5 m5)
  refine ⟨ordD o0, by rw [e0]; exact atI_nat (j := 0) rfl, fun j e => by cases e; omega, by show (((o0.map D.int).length : Nat) : Int) ≤ 2 ^ 20; rw [List.length_map]; omega, ?_⟩
  rw [List.length_map, l0, Int.toNat_natCast, intsTo_eq]
  refine ⟨uptoL m, ms, rfl, rfl, ?_⟩
  rw [decide_eq_true um]
  refine ⟨fun k env => ∃ s4 s5 s6, env = [.sh (.scr ns), .sh (.lst (os.map ordD)), .sh (.lst (os.map ordD)), .sh (.lst (ms.map ordD)), s4, s5, s6, .un, .un, .un, .un], ⟨_, _, _, rfl⟩, ?_, ?_⟩
  · rintro k y env hy ⟨s4, s5, s6, rfl⟩
    rw [pairI_get, List.getElem?_map] at hy
    cases hk : ms[k]? with
    | none => rw [hk] at hy; cases hy
    | some g =>
      rw [hk] at hy
      have hy : D.tup [.int ((0 + k : Nat)), ordD g] = y := Option.some.inj hy
      subst hy
      rw [Nat.zero_add]
      have gm : g ∈ ms := List.mem_of_getElem? hk
      have gp := hp g (hm.mem_iff.mp gm)
      have lg : g.length = m := ord_len gp
      dsimp only [ggPair]
      refine seq_key (P := fun e => ∃ s6, e = [.sh (.scr ns), .sh (.lst (os.map ordD)), .sh (.lst (os.map ordD)), .sh (.lst (ms.map ordD)), .sh (.int ((k : Nat) : Int)), .sh (ordD g), s6, .un, .un, .un, .un]) ?_ ?_
      rotate_left
      · intro key
        show if decide (((k : Nat) : Int) > 0) = true then _ else _
        refine ite2 (fun z => ?_) (fun z => ?_)
        · have k0 : 0 < k := by have := of_decide_eq_true z; omega
          obtain ⟨f, hf⟩ : ∃ f, ms[k - 1]? = some f := ⟨_, List.getElem?_eq_getElem (by have := (List.getElem?_eq_some_iff.mp hk).1; omega)⟩
          refine ⟨ordD f, ?_, g, f, rfl, rfl, ?_⟩
          · have := atI_nat (xs := ms.map ordD) (j := k - 1) (v := ordD f) (by rw [List.getElem?_map, hf]; rfl)
            rwa [show ((k - 1 : Nat) : Int) = ((k : Nat) : Int) - 1 by omega] at this
          · rw [rise_at T0.nd hp hm hr (show k - 1 < k by omega) hf hk]
            exact key _ ⟨_, rfl⟩
        · exact key _ ⟨_, rfl⟩
      rintro _ ⟨s6, rfl⟩
      refine ⟨fun j env => ∃ s6, env = [.sh (.scr ns), .sh (.lst (os.map ordD)), .sh (.lst (os.map ordD)), .sh (.lst (ms.map ordD)), .sh (.int ((k : Nat) : Int)), .sh (ordD g), s6, .un, .un, .un, .un], ⟨_, rfl⟩, ?_, ?_⟩
      · rintro j y env hy ⟨s6, rfl⟩
        rw [List.getElem?_map] at hy
        cases ho : os[j]? with
        | none => rw [ho] at hy; cases hy
        | some o =>
          rw [ho] at hy
          have hy : ordD o = y := Option.some.inj hy
          subst hy
          have om := List.mem_of_getElem? ho
          have po := ok.perm o om
          have lo : o.length = m := ord_len po
          refine ⟨by show (g.map D.int).length ≤ sizeLine; rw [List.length_map, lg]; omega, (fun d => match d with | .int i => .int (at0 o i) | d => d), (fun d hd => ?_), ?_⟩
          · obtain ⟨i, hi, rfl⟩ := List.mem_map.mp hd
            obtain ⟨i0, i1⟩ := mem_uptoL.mp (gp.mem_iff.mp hi)
            exact ⟨_, rfl, _, atI_ints i0 (by omega), rfl⟩
          · have e : (g.map D.int).map (fun d => match d with | .int i => .int (at0 o i) | d => d) = (comp g o).map D.int := by
              unfold comp
              rw [List.map_map, List.map_map]
              exact List.map_congr_left fun _ _ => rfl
            have cm : comp g o ∈ ms := hm.mem_iff.mpr (T0.behind (hm.mem_iff.mp gm) om)
            refine ⟨comp g o, ms, congrArg D.lst e, rfl, ?_⟩
            rw [decide_eq_true cm]
            exact ⟨_, rfl⟩
      · rintro env ⟨s6, rfl⟩
        exact ⟨_, _, _, rfl⟩
  rintro env ⟨s4, s5, s6, rfl⟩
  obtain ⟨cs, hcs⟩ : ∃ cs, cs = cutL ns (some 2) (some 14) := ⟨_, rfl⟩
  have lcs : cs.length ≤ 63 := by rw [hcs]; exact Nat.le_trans (cut_len _ _ _) hl63
  obtain ⟨oth, hoth⟩ : ∃ oth : List Int, oth = cs.map fun c => c % ((os.length : Nat) : Int) := ⟨_, rfl⟩
  have okoth : okW os.length oth := fun a ha => by
    rw [hoth] at ha
    obtain ⟨c, _, rfl⟩ := List.mem_map.mp ha
    exact ⟨Int.emod_nonneg _ (by omega), Int.emod_lt_of_pos _ (by omega)⟩
  have loth : oth.length ≤ 63 := by rw [hoth, List.length_map]; exact lcs
  refine ⟨by rw [← hcs, List.length_map]; omega, (fun x => match x with | .int i => .int (i % ((os.length : Nat) : Int)) | x => x), (fun x hx => ?_), ?_⟩
  · obtain ⟨i, hi, rfl⟩ := List.mem_map.mp hx
    refine ⟨_, rfl, by show (0 : Int) < (((os.map ordD).length : Nat) : Int); rw [lorders]; omega, ?_⟩
    rw [lorders]
  have eoth : (((cutL ns (some 2) (some 14)).map D.int).map fun x => match x with | .int i => .int (i % ((os.length : Nat) : Int)) | x => x) = oth.map D.int := by
    rw [hoth, hcs, List.map_map, List.map_map]
    exact List.map_congr_left fun _ _ => rfl
  rw [eoth]
  have eqI : ∀ xs ys : List Int, okDs (xs.map D.int) = true ∧ okDs (ys.map D.int) = true ∧ hiDs (xs.map D.int) ≤ 40 ∧ cmpD (.lst (xs.map D.int)) (.lst (ys.map D.int)) = true := fun xs ys => ⟨okDs_ints _, okDs_ints _, by rw [hiDs_ints]; decide, by
    show ((_ != _) || cmpDs _ _) = true
    rw [cmpDs_ints, Bool.or_true]⟩
  refine ⟨rfl, os, m, oth, rfl, ok, okoth, loth, ?_⟩
  refine ⟨rfl, os, m, oth, rfl, ok, okoth, by omega, ?_⟩
  refine ⟨(eqI (byW os m oth) (byW os m oth)).1, (eqI (byW os m oth) (byW os m oth)).2.1, (eqI (byW os m oth) (byW os m oth)).2.2.1, (eqI (byW os m oth) (byW os m oth)).2.2.2, ?_⟩
  rw [eqDs_ints, decide_eq_true (rfl : byW os m oth = byW os m oth)]
  have bm : byW os m oth ∈ ms := by
    obtain ⟨l, _, e, _⟩ := T0.whole _ oth rfl okoth
    exact hm.mem_iff.mpr (List.mem_of_getElem? e)
  refine ⟨byW os m oth, ms, rfl, rfl, ?_⟩
  rw [decide_eq_true bm]
  have lm0 : 0 < ms.length := List.length_pos_of_mem um
  refine ⟨rfl, ns, 3, rfl, by decide, by show (0 : Int) < (((ms.map ordD).length : Nat) : Int); rw [List.length_map]; omega, ?_⟩
  rw [List.length_map]
  obtain ⟨at_, hat⟩ : ∃ at_ : Int, at_ = cellAt ns 3 % ((ms.length : Nat) : Int) := ⟨_, rfl⟩
  simp only []
  rw [← hat]
  have at0_ : 0 ≤ at_ := by rw [hat]; exact Int.emod_nonneg _ (by omega)
  have at1_ : at_ < ((ms.length : Nat) : Int) := by rw [hat]; exact Int.emod_lt_of_pos _ (by omega)
  obtain ⟨g, hg⟩ : ∃ g, ms[at_.toNat]? = some g := ⟨_, List.getElem?_eq_getElem (by omega)⟩
  have gm : g ∈ ms := List.mem_of_getElem? hg
  have gp := hp g (hm.mem_iff.mp gm)
  have lg : g.length = m := ord_len gp
  have og : IsOrd g := ⟨by omega, by omega, by rw [lg]; exact gp⟩
  have ag : atI (ms.map ordD) at_ = some (ordD g) := by
    have := atI_nat (xs := ms.map ordD) (j := at_.toNat) (v := ordD g) (by rw [List.getElem?_map, hg]; rfl)
    rwa [show ((at_.toNat : Nat) : Int) = at_ by omega] at this
  refine ⟨ordD g, ag, rfl, os, m, g, rfl, ok, og, fun ks' ws' T' hp' => ?_⟩
  have gk' : g ∈ ks' := T0.same T' (hm.mem_iff.mp gm)
  obtain ⟨l, hll, hlg⟩ := List.getElem_of_mem gk'
  have hlw : l < ws'.length := by rw [T'.len]; exact hll
  have e1 : ks'[l]? = some g := by rw [List.getElem?_eq_getElem hll, hlg]
  have e2 : ws'[l]? = some ws'[l] := List.getElem?_eq_getElem hlw
  obtain ⟨w, hw⟩ : ∃ w, w = ws'[l] := ⟨_, rfl⟩
  rw [← hw] at e2
  rw [valT_at T'.nd e1 (show (ws'.map ordD)[l]? = some (ordD w) by rw [List.getElem?_map, e2]; rfl)]
  obtain ⟨mk1, mk2⟩ := T'.make l g w e1 e2
  have lks := few T'.nd hp'
  have l5 := fac5 m5
  have lsh := T'.short ok e1 e2
  have lw : w.length ≤ sizeLine := by omega
  refine ⟨gg.1, gg.2.1, gg.2.2.1, gg.2.2.2, ?_⟩
  rw [eqDs_refl _ (okDs_ords os)]
  refine ⟨rfl, os, m, w, rfl, ok, mk2, lw, ordD g, ag, ?_⟩
  rw [mk1]
  refine ⟨(eqI g g).1, (eqI g g).2.1, (eqI g g).2.2.1, (eqI g g).2.2.2, ?_⟩
  rw [eqDs_ints, decide_eq_true (rfl : g = g)]
  exact q
end
def spLaw (K : PySem.W.Frag) : Sp := fun vs H Q _ => ∃ (s : Addr) (ns : List Int), vs = [.ref s] ∧ SqL K H s (ns.map V.int) ∧ ns.length ≤ 63 ∧ ∀ H', Q (.bl true) H'
theorem ok_lawS {P : Program} {w : World} {K : PySem.W.Frag} {mg : Str → Option Value} {base : Heap} {a : Ad} {d : Fd} (T : Txt K mg a d) : FnOk P w K mg base (CXx P w) 6 a.law d.law ["_law_script"] (spLaw K) := (ok_law T).imp fun vs H Q E ⟨s, ns, e, hq, hl, q⟩ => by
  subst e
  exact ⟨H, [.scr ns], fun _ => False, fun dd => dd = .bl true, rfl, Same.refl _, Reps.cons ⟨s, rfl, hq⟩ Reps.nil, fun _ z => z.elim, ⟨ns, rfl, hl, rfl⟩, fun dd v F' H' e _ r => by subst e; cases (show v = _ from r); exact q H'⟩
end Ka26
namespace Ka26
open PySem L2
theorem usS {us : List Value} {n : Nat} (h : us.length = n + 1) : ∃ x r, us = x :: r ∧ r.length = n := by
  cases us with
  | nil => cases h
  | cons x r => exact ⟨x, r, rfl, Nat.succ.inj h⟩
theorem us1 {us : List Value} (h : us.length = 1) : ∃ x0, us = [x0] := by
  obtain ⟨x, r, e, h2⟩ := usS h
  rw [List.length_eq_zero_iff.mp h2] at e
  exact ⟨x, e⟩
theorem us2 {us : List Value} (h : us.length = 2) : ∃ x0 x1, us = [x0, x1] := by
  obtain ⟨x0, r, e, h2⟩ := usS h
  obtain ⟨x1, e2⟩ := us1 h2
  exact ⟨x0, x1, by rw [e, e2]⟩
theorem us3 {us : List Value} (h : us.length = 3) : ∃ x0 x1 x2, us = [x0, x1, x2] := by
  obtain ⟨x0, r, e, h2⟩ := usS h
  obtain ⟨x1, x2, e2⟩ := us2 h2
  exact ⟨x0, x1, x2, by rw [e, e2]⟩
theorem all_mk {l : PySem.W.OpenLaw} {w : World} {K : PySem.W.Frag} {h : Heap} {mg : Str → Option Value} {fa : Addr} {f_whole f_win f_within f_chk f_after f_chks f_ckw f_leav f_wbo f_made f_word f_makes f_cell f_mix f_large f_order f_lords f_lby f_law f_bad : Addr} (X : K.In h) (G : h.Ns mainGlobals mg) (hfa : mg "law" = some (.ref fa))
    {od1 od2 od3 od4 od5 od6 od7 od8 od9 od10 od11 od12 od13 od14 od15 od16 od17 od18 od19 an1 an2 an3 an4 an5 an6 an7 an8 an9 an10 an11 an12 an13 an14 an15 an16 an17 an18 an19 : Option Addr} {sl1 sl2 sl3 sl4 sl5 sl6 sl7 sl8 sl9 sl10 sl11 sl12 sl13 sl14 sl15 sl16 sl17 sl18 sl19 : Array (Option Value)} {oc1 oc2 oc3 oc4 oc5 oc6 oc7 oc8 oc9 oc10 oc11 oc12 oc13 oc14 oc15 oc16 oc17 oc18 oc19 kV1 kV2 kV3 kV4 kV5 kV6 kV7 kV8 kV9 kV10 kV11 kV12 kV13 kV14 kV15 kV16 kV17 kV18 kV19 dc1 dc2 dc3 dc4 dc5 dc6 dc7 dc8 dc9 dc10 dc11 dc12 dc13 dc14 dc15 dc16 dc17 dc18 dc19 pm1 pm2 pm3 pm4 pm5 pm6 pm7 pm8 pm9 pm10 pm11 pm12 pm13 pm14 pm15 pm16 pm17 pm18 pm19 cd1 cd2 cd3 cd4 cd5 cd6 cd7 cd8 cd9 cd10 cd11 cd12 cd13 cd14 cd15 cd16 cd17 cd18 cd19 ct1 ct2 ct3 ct4 ct5 ct6 ct7 ct8 ct9 ct10 ct11 ct12 ct13 ct14 ct15 ct16 ct17 ct18 ct19 : Value} {tk_lines tk_orders tk_wlines : Tok}
    (a_whole : PySem.W.nsIn K mainGlobals "is_whole" = some (some (.ref f_whole)))
    (l_whole : K.lookup f_whole = some ⟨oc1, od1, .func (PySem.W.fnOf "is_whole" "is_whole" (defArgs s_whole) (defBody s_whole) (defScope s_whole) .none kV1 dc1 pm1 an1 cd1 ct1), sl1⟩)
    (c_whole : PySem.W.codeIn K cd1 "is_whole" = true)
    (k_whole : PySem.W.keepIn K (.ref f_whole) = true)
    (a_win : PySem.W.nsIn K mainGlobals "is_whole_within" = some (some (.ref f_win)))
    (l_win : K.lookup f_win = some ⟨oc2, od2, .func (PySem.W.fnOf "is_whole_within" "is_whole_within" (defArgs s_win) (defBody s_win) (defScope s_win) .none kV2 dc2 pm2 an2 cd2 ct2), sl2⟩)
    (c_win : PySem.W.codeIn K cd2 "is_whole_within" = true)
    (k_win : PySem.W.keepIn K (.ref f_win) = true)
    (a_within : PySem.W.nsIn K mainGlobals "is_list_within" = some (some (.ref f_within)))
    (l_within : K.lookup f_within = some ⟨oc3, od3, .func (PySem.W.fnOf "is_list_within" "is_list_within" (defArgs s_within) (defBody s_within) (defScope s_within) .none kV3 dc3 pm3 an3 cd3 ct3), sl3⟩)
    (c_within : PySem.W.codeIn K cd3 "is_list_within" = true)
    (k_within : PySem.W.keepIn K (.ref f_within) = true)
    (a_chk : PySem.W.nsIn K mainGlobals "checked_order" = some (some (.ref f_chk)))
    (l_chk : K.lookup f_chk = some ⟨oc4, od4, .func (PySem.W.fnOf "checked_order" "checked_order" (defArgs s_chk) (defBody s_chk) (defScope s_chk) .none kV4 dc4 pm4 an4 cd4 ct4), sl4⟩)
    (c_chk : PySem.W.codeIn K cd4 "checked_order" = true)
    (k_chk : PySem.W.keepIn K (.ref f_chk) = true)
    (a_after : PySem.W.nsIn K mainGlobals "after" = some (some (.ref f_after)))
    (l_after : K.lookup f_after = some ⟨oc5, od5, .func (PySem.W.fnOf "after" "after" (defArgs s_after) (defBody s_after) (defScope s_after) .none kV5 dc5 pm5 an5 cd5 ct5), sl5⟩)
    (c_after : PySem.W.codeIn K cd5 "after" = true)
    (k_after : PySem.W.keepIn K (.ref f_after) = true)
    (a_chks : PySem.W.nsIn K mainGlobals "checked_orders" = some (some (.ref f_chks)))
    (l_chks : K.lookup f_chks = some ⟨oc6, od6, .func (PySem.W.fnOf "checked_orders" "checked_orders" (defArgs s_chks) (defBody s_chks) (defScope s_chks) .none kV6 dc6 pm6 an6 cd6 ct6), sl6⟩)
    (c_chks : PySem.W.codeIn K cd6 "checked_orders" = true)
    (k_chks : PySem.W.keepIn K (.ref f_chks) = true)
    (a_ckw : PySem.W.nsIn K mainGlobals "check_word" = some (some (.ref f_ckw)))
    (l_ckw : K.lookup f_ckw = some ⟨oc7, od7, .func (PySem.W.fnOf "check_word" "check_word" (defArgs s_ckw) (defBody s_ckw) (defScope s_ckw) .none kV7 dc7 pm7 an7 cd7 ct7), sl7⟩)
    (c_ckw : PySem.W.codeIn K cd7 "check_word" = true)
    (k_ckw : PySem.W.keepIn K (.ref f_ckw) = true)
    (a_leav : PySem.W.nsIn K mainGlobals "leaving" = some (some (.ref f_leav)))
    (l_leav : K.lookup f_leav = some ⟨oc8, od8, .func (PySem.W.fnOf "leaving" "leaving" (defArgs s_leav) (defBody s_leav) (defScope s_leav) .none kV8 dc8 pm8 an8 cd8 ct8), sl8⟩)
    (c_leav : PySem.W.codeIn K cd8 "leaving" = true)
    (k_leav : PySem.W.keepIn K (.ref f_leav) = true)
    (a_wbo : PySem.W.nsIn K mainGlobals "words_by_order" = some (some (.ref f_wbo)))
    (l_wbo : K.lookup f_wbo = some ⟨oc9, od9, .func (PySem.W.fnOf "words_by_order" "words_by_order" (defArgs s_wbo) (defBody s_wbo) (defScope s_wbo) .none kV9 dc9 pm9 an9 cd9 ct9), sl9⟩)
    (c_wbo : PySem.W.codeIn K cd9 "words_by_order" = true)
    (k_wbo : PySem.W.keepIn K (.ref f_wbo) = true)
    (a_made : PySem.W.nsIn K mainGlobals "made" = some (some (.ref f_made)))
    (l_made : K.lookup f_made = some ⟨oc10, od10, .func (PySem.W.fnOf "made" "made" (defArgs s_made) (defBody s_made) (defScope s_made) .none kV10 dc10 pm10 an10 cd10 ct10), sl10⟩)
    (c_made : PySem.W.codeIn K cd10 "made" = true)
    (k_made : PySem.W.keepIn K (.ref f_made) = true)
    (a_word : PySem.W.nsIn K mainGlobals "word" = some (some (.ref f_word)))
    (l_word : K.lookup f_word = some ⟨oc11, od11, .func (PySem.W.fnOf "word" "word" (defArgs s_word) (defBody s_word) (defScope s_word) .none kV11 dc11 pm11 an11 cd11 ct11), sl11⟩)
    (c_word : PySem.W.codeIn K cd11 "word" = true)
    (k_word : PySem.W.keepIn K (.ref f_word) = true)
    (a_makes : PySem.W.nsIn K mainGlobals "makes" = some (some (.ref f_makes)))
    (l_makes : K.lookup f_makes = some ⟨oc12, od12, .func (PySem.W.fnOf "makes" "makes" (defArgs s_makes) (defBody s_makes) (defScope s_makes) .none kV12 dc12 pm12 an12 cd12 ct12), sl12⟩)
    (c_makes : PySem.W.codeIn K cd12 "makes" = true)
    (k_makes : PySem.W.keepIn K (.ref f_makes) = true)
    (a_cell : PySem.W.nsIn K mainGlobals "_law_cell" = some (some (.ref f_cell)))
    (l_cell : K.lookup f_cell = some ⟨oc13, od13, .func (PySem.W.fnOf "_law_cell" "_law_cell" (defArgs s_cell) (defBody s_cell) (defScope s_cell) .none kV13 dc13 pm13 an13 cd13 ct13), sl13⟩)
    (c_cell : PySem.W.codeIn K cd13 "_law_cell" = true)
    (k_cell : PySem.W.keepIn K (.ref f_cell) = true)
    (a_mix : PySem.W.nsIn K mainGlobals "_law_mix" = some (some (.ref f_mix)))
    (l_mix : K.lookup f_mix = some ⟨oc14, od14, .func (PySem.W.fnOf "_law_mix" "_law_mix" (defArgs s_mix) (defBody s_mix) (defScope s_mix) .none kV14 dc14 pm14 an14 cd14 ct14), sl14⟩)
    (c_mix : PySem.W.codeIn K cd14 "_law_mix" = true)
    (k_mix : PySem.W.keepIn K (.ref f_mix) = true)
    (a_large : PySem.W.nsIn K mainGlobals "_law_large" = some (some (.ref f_large)))
    (l_large : K.lookup f_large = some ⟨oc15, od15, .func (PySem.W.fnOf "_law_large" "_law_large" (defArgs s_large) (defBody s_large) (defScope s_large) .none kV15 dc15 pm15 an15 cd15 ct15), sl15⟩)
    (c_large : PySem.W.codeIn K cd15 "_law_large" = true)
    (k_large : PySem.W.keepIn K (.ref f_large) = true)
    (a_order : PySem.W.nsIn K mainGlobals "_law_order" = some (some (.ref f_order)))
    (l_order : K.lookup f_order = some ⟨oc16, od16, .func (PySem.W.fnOf "_law_order" "_law_order" (defArgs s_order) (defBody s_order) (defScope s_order) .none kV16 dc16 pm16 an16 cd16 ct16), sl16⟩)
    (c_order : PySem.W.codeIn K cd16 "_law_order" = true)
    (k_order : PySem.W.keepIn K (.ref f_order) = true)
    (a_lords : PySem.W.nsIn K mainGlobals "_law_orders" = some (some (.ref f_lords)))
    (l_lords : K.lookup f_lords = some ⟨oc17, od17, .func (PySem.W.fnOf "_law_orders" "_law_orders" (defArgs s_lords) (defBody s_lords) (defScope s_lords) .none kV17 dc17 pm17 an17 cd17 ct17), sl17⟩)
    (c_lords : PySem.W.codeIn K cd17 "_law_orders" = true)
    (k_lords : PySem.W.keepIn K (.ref f_lords) = true)
    (a_lby : PySem.W.nsIn K mainGlobals "_law_by" = some (some (.ref f_lby)))
    (l_lby : K.lookup f_lby = some ⟨oc18, od18, .func (PySem.W.fnOf "_law_by" "_law_by" (defArgs s_lby) (defBody s_lby) (defScope s_lby) .none kV18 dc18 pm18 an18 cd18 ct18), sl18⟩)
    (c_lby : PySem.W.codeIn K cd18 "_law_by" = true)
    (k_lby : PySem.W.keepIn K (.ref f_lby) = true)
    (a_law : PySem.W.nsIn K mainGlobals "law" = some (some (.ref f_law)))
    (l_law : K.lookup f_law = some ⟨oc19, od19, .func (PySem.W.fnOf "law" "law" (defArgs s_law) (defBody s_law) (defScope s_law) .none kV19 dc19 pm19 an19 cd19 ct19), sl19⟩)
    (c_law : PySem.W.codeIn K cd19 "law" = true)
    (k_law : PySem.W.keepIn K (.ref f_law) = true)
    (a_bad : PySem.W.nsIn K mainGlobals "BadOrder" = some (some (.ref f_bad)))
    (x_bad : PySem.W.excIn K f_bad [.type "ValueError", .type "Exception", .type "BaseException", .type "object"] "ValueError.__new__" = true)
    (v_lines : PySem.W.nsIn K mainGlobals "MOST_LINES" = some (some (.int 16 tk_lines)))
    (v_orders : PySem.W.nsIn K mainGlobals "MOST_ORDERS" = some (some (.int 4 tk_orders)))
    (v_wlines : PySem.W.nsIn K mainGlobals "MOST_WORD_LINES" = some (some (.int 5 tk_wlines)))
    (z_bool_ : PySem.W.nsIn K mainGlobals "bool" = some none)
    (z_enum_ : PySem.W.nsIn K mainGlobals "enumerate" = some none)
    (z_int_ : PySem.W.nsIn K mainGlobals "int" = some none)
    (z_isi : PySem.W.nsIn K mainGlobals "isinstance" = some none)
    (z_len : PySem.W.nsIn K mainGlobals "len" = some none)
    (z_list_ : PySem.W.nsIn K mainGlobals "list" = some none)
    (z_range : PySem.W.nsIn K mainGlobals "range" = some none)
    (z_sorted_ : PySem.W.nsIn K mainGlobals "sorted" = some none)
    (z_tuple_ : PySem.W.nsIn K mainGlobals "tuple" = some none)
    : ∃ fd : FuncData, (∀ (s : Shared) (v : Value), BindsTo s fd ⟨[v], []⟩ [("_law_script", v)]) ∧ ∀ base : Heap, K.In base → base.Ns mainGlobals mg → FnOk l.prog w K mg base (CXx l.prog w) 6 fa fd ["_law_script"] (spLaw K) := by
  have e := hfa.symm.trans (PySem.W.mg_of X G a_law)
  rw [Value.ref.inj (Option.some.inj e)]
  have F_whole := fun_mk (st := s_whole) l_whole c_whole k_whole
  have b_whole := F_whole.binds (ps := ["value"]) fun _ _ _ _ _ _ us hl => (by obtain ⟨_, rfl⟩ := us1 hl; rfl)
  have F_win := fun_mk (st := s_win) l_win c_win k_win
  have b_win := F_win.binds (ps := ["value", "least", "most"]) fun _ _ _ _ _ _ us hl => (by obtain ⟨_, _, _, rfl⟩ := us3 hl; rfl)
  have F_within := fun_mk (st := s_within) l_within c_within k_within
  have b_within := F_within.binds (ps := ["value", "least", "most"]) fun _ _ _ _ _ _ us hl => (by obtain ⟨_, _, _, rfl⟩ := us3 hl; rfl)
  have F_chk := fun_mk (st := s_chk) l_chk c_chk k_chk
  have b_chk := F_chk.binds (ps := ["order"]) fun _ _ _ _ _ _ us hl => (by obtain ⟨_, rfl⟩ := us1 hl; rfl)
  have F_after := fun_mk (st := s_after) l_after c_after k_after
  have b_after := F_after.binds (ps := ["order", "other"]) fun _ _ _ _ _ _ us hl => (by obtain ⟨_, _, rfl⟩ := us2 hl; rfl)
  have F_chks := fun_mk (st := s_chks) l_chks c_chks k_chks
  have b_chks := F_chks.binds (ps := ["orders"]) fun _ _ _ _ _ _ us hl => (by obtain ⟨_, rfl⟩ := us1 hl; rfl)
  have F_ckw := fun_mk (st := s_ckw) l_ckw c_ckw k_ckw
  have b_ckw := F_ckw.binds (ps := ["some", "orders"]) fun _ _ _ _ _ _ us hl => (by obtain ⟨_, _, rfl⟩ := us2 hl; rfl)
  have F_leav := fun_mk (st := s_leav) l_leav c_leav k_leav
  have b_leav := F_leav.binds (ps := ["orders"]) fun _ _ _ _ _ _ us hl => (by obtain ⟨_, rfl⟩ := us1 hl; rfl)
  have F_wbo := fun_mk (st := s_wbo) l_wbo c_wbo k_wbo
  have b_wbo := F_wbo.binds (ps := ["orders"]) fun _ _ _ _ _ _ us hl => (by obtain ⟨_, rfl⟩ := us1 hl; rfl)
  have F_made := fun_mk (st := s_made) l_made c_made k_made
  have b_made := F_made.binds (ps := ["orders"]) fun _ _ _ _ _ _ us hl => (by obtain ⟨_, rfl⟩ := us1 hl; rfl)
  have F_word := fun_mk (st := s_word) l_word c_word k_word
  have b_word := F_word.binds (ps := ["orders", "goal"]) fun _ _ _ _ _ _ us hl => (by obtain ⟨_, _, rfl⟩ := us2 hl; rfl)
  have F_makes := fun_mk (st := s_makes) l_makes c_makes k_makes
  have b_makes := F_makes.binds (ps := ["orders", "some"]) fun _ _ _ _ _ _ us hl => (by obtain ⟨_, _, rfl⟩ := us2 hl; rfl)
  have F_cell := fun_mk (st := s_cell) l_cell c_cell k_cell
  have b_cell := F_cell.binds (ps := ["_law_script", "_law_k"]) fun _ _ _ _ _ _ us hl => (by obtain ⟨_, _, rfl⟩ := us2 hl; rfl)
  have F_mix := fun_mk (st := s_mix) l_mix c_mix k_mix
  have b_mix := F_mix.binds (ps := ["_law_cell_here", "_law_prime", "_law_many"]) fun _ _ _ _ _ _ us hl => (by obtain ⟨_, _, _, rfl⟩ := us3 hl; rfl)
  have F_large := fun_mk (st := s_large) l_large c_large k_large
  have b_large := F_large.binds (ps := ["_law_script"]) fun _ _ _ _ _ _ us hl => (by obtain ⟨_, rfl⟩ := us1 hl; rfl)
  have F_order := fun_mk (st := s_order) l_order c_order k_order
  have b_order := F_order.binds (ps := ["_law_script", "_law_at", "_law_many"]) fun _ _ _ _ _ _ us hl => (by obtain ⟨_, _, _, rfl⟩ := us3 hl; rfl)
  have F_lords := fun_mk (st := s_lords) l_lords c_lords k_lords
  have b_lords := F_lords.binds (ps := ["_law_script"]) fun _ _ _ _ _ _ us hl => (by obtain ⟨_, rfl⟩ := us1 hl; rfl)
  have F_lby := fun_mk (st := s_lby) l_lby c_lby k_lby
  have b_lby := F_lby.binds (ps := ["_law_orders_here", "_law_some"]) fun _ _ _ _ _ _ us hl => (by obtain ⟨_, _, rfl⟩ := us2 hl; rfl)
  have F_law := fun_mk (st := s_law) l_law c_law k_law
  have b_law := F_law.binds (ps := ["_law_script"]) fun _ _ _ _ _ _ us hl => (by obtain ⟨_, rfl⟩ := us1 hl; rfl)
  have T : Txt K mg { whole := f_whole, win := f_win, within := f_within, chk := f_chk, after := f_after, chks := f_chks, ckw := f_ckw, leav := f_leav, wbo := f_wbo, made := f_made, word := f_word, makes := f_makes, cell := f_cell, mix := f_mix, large := f_large, order := f_order, lords := f_lords, lby := f_lby, law := f_law, bad := f_bad } { whole := PySem.W.fnOf "is_whole" "is_whole" (defArgs s_whole) (defBody s_whole) (defScope s_whole) .none kV1 dc1 pm1 an1 cd1 ct1, win := PySem.W.fnOf "is_whole_within" "is_whole_within" (defArgs s_win) (defBody s_win) (defScope s_win) .none kV2 dc2 pm2 an2 cd2 ct2, within := PySem.W.fnOf "is_list_within" "is_list_within" (defArgs s_within) (defBody s_within) (defScope s_within) .none kV3 dc3 pm3 an3 cd3 ct3, chk := PySem.W.fnOf "checked_order" "checked_order" (defArgs s_chk) (defBody s_chk) (defScope s_chk) .none kV4 dc4 pm4 an4 cd4 ct4, after := PySem.W.fnOf "after" "after" (defArgs s_after) (defBody s_after) (defScope s_after) .none kV5 dc5 pm5 an5 cd5 ct5, chks := PySem.W.fnOf "checked_orders" "checked_orders" (defArgs s_chks) (defBody s_chks) (defScope s_chks) .none kV6 dc6 pm6 an6 cd6 ct6, ckw := PySem.W.fnOf "check_word" "check_word" (defArgs s_ckw) (defBody s_ckw) (defScope s_ckw) .none kV7 dc7 pm7 an7 cd7 ct7, leav := PySem.W.fnOf "leaving" "leaving" (defArgs s_leav) (defBody s_leav) (defScope s_leav) .none kV8 dc8 pm8 an8 cd8 ct8, wbo := PySem.W.fnOf "words_by_order" "words_by_order" (defArgs s_wbo) (defBody s_wbo) (defScope s_wbo) .none kV9 dc9 pm9 an9 cd9 ct9, made := PySem.W.fnOf "made" "made" (defArgs s_made) (defBody s_made) (defScope s_made) .none kV10 dc10 pm10 an10 cd10 ct10, word := PySem.W.fnOf "word" "word" (defArgs s_word) (defBody s_word) (defScope s_word) .none kV11 dc11 pm11 an11 cd11 ct11, makes := PySem.W.fnOf "makes" "makes" (defArgs s_makes) (defBody s_makes) (defScope s_makes) .none kV12 dc12 pm12 an12 cd12 ct12, cell := PySem.W.fnOf "_law_cell" "_law_cell" (defArgs s_cell) (defBody s_cell) (defScope s_cell) .none kV13 dc13 pm13 an13 cd13 ct13, mix := PySem.W.fnOf "_law_mix" "_law_mix" (defArgs s_mix) (defBody s_mix) (defScope s_mix) .none kV14 dc14 pm14 an14 cd14 ct14, large := PySem.W.fnOf "_law_large" "_law_large" (defArgs s_large) (defBody s_large) (defScope s_large) .none kV15 dc15 pm15 an15 cd15 ct15, order := PySem.W.fnOf "_law_order" "_law_order" (defArgs s_order) (defBody s_order) (defScope s_order) .none kV16 dc16 pm16 an16 cd16 ct16, lords := PySem.W.fnOf "_law_orders" "_law_orders" (defArgs s_lords) (defBody s_lords) (defScope s_lords) .none kV17 dc17 pm17 an17 cd17 ct17, lby := PySem.W.fnOf "_law_by" "_law_by" (defArgs s_lby) (defBody s_lby) (defScope s_lby) .none kV18 dc18 pm18 an18 cd18 ct18, law := PySem.W.fnOf "law" "law" (defArgs s_law) (defBody s_law) (defScope s_law) .none kV19 dc19 pm19 an19 cd19 ct19 } := { bool_ := PySem.W.mg_none_of X G z_bool_, enum_ := PySem.W.mg_none_of X G z_enum_, int_ := PySem.W.mg_none_of X G z_int_, isi := PySem.W.mg_none_of X G z_isi, len := PySem.W.mg_none_of X G z_len, list_ := PySem.W.mg_none_of X G z_list_, range := PySem.W.mg_none_of X G z_range, sorted_ := PySem.W.mg_none_of X G z_sorted_, tuple_ := PySem.W.mg_none_of X G z_tuple_, lines := ⟨_, PySem.W.mg_of X G v_lines⟩, orders := ⟨_, PySem.W.mg_of X G v_orders⟩, wlines := ⟨_, PySem.W.mg_of X G v_wlines⟩, g_whole := PySem.W.mg_of X G a_whole, g_win := PySem.W.mg_of X G a_win, g_within := PySem.W.mg_of X G a_within, g_chk := PySem.W.mg_of X G a_chk, g_after := PySem.W.mg_of X G a_after, g_chks := PySem.W.mg_of X G a_chks, g_ckw := PySem.W.mg_of X G a_ckw, g_leav := PySem.W.mg_of X G a_leav, g_wbo := PySem.W.mg_of X G a_wbo, g_made := PySem.W.mg_of X G a_made, g_word := PySem.W.mg_of X G a_word, g_makes := PySem.W.mg_of X G a_makes, g_cell := PySem.W.mg_of X G a_cell, g_mix := PySem.W.mg_of X G a_mix, g_large := PySem.W.mg_of X G a_large, g_order := PySem.W.mg_of X G a_order, g_lords := PySem.W.mg_of X G a_lords, g_lby := PySem.W.mg_of X G a_lby, g_bad := PySem.W.mg_of X G a_bad, f_whole := F_whole, f_win := F_win, f_within := F_within, f_chk := F_chk, f_after := F_after, f_chks := F_chks, f_ckw := F_ckw, f_leav := F_leav, f_wbo := F_wbo, f_made := F_made, f_word := F_word, f_makes := F_makes, f_cell := F_cell, f_mix := F_mix, f_large := F_large, f_order := F_order, f_lords := F_lords, f_lby := F_lby, f_law := F_law, b_whole := b_whole, b_win := b_win, b_within := b_within, b_chk := b_chk, b_after := b_after, b_chks := b_chks, b_ckw := b_ckw, b_leav := b_leav, b_wbo := b_wbo, b_made := b_made, b_word := b_word, b_makes := b_makes, b_cell := b_cell, b_mix := b_mix, b_large := b_large, b_order := b_order, b_lords := b_lords, b_lby := b_lby, b_law := b_law, x_bad := ⟨x_bad⟩ }
  exact ⟨_, fun s v => .of_eq rfl, fun base _ _ => ok_lawS T⟩
theorem walk {l : PySem.W.OpenLaw} {q : Program} {loose : List Str} {XP : (Str → Option Value) → Heap → Prop} {YP : World → Heap → Prop} {d : DefRec} {K : Params → PySem.W.Frag} (hn : l.most = some 63) (hdf : d.params.defaults = [])
    (hY : ∀ (w : World) (h : Heap), YP w h → (K w.params).In h)
    (F : ∀ (w : World) (mg : Str → Option Value) (fa : Addr) (h : Heap), (K w.params).In h → h.Ns mainGlobals mg → mg d.name = some (.ref fa) →
      ∃ fd : FuncData, (∀ (s : Shared) (u : Value), BindsTo s fd ⟨[u], []⟩ [("_law_script", u)]) ∧ ∀ base : Heap, (K w.params).In base → base.Ns mainGlobals mg → FnOk l.prog w (K w.params) mg base (CXx l.prog w) 6 fa fd ["_law_script"] (spLaw (K w.params))) :
    PySem.W.WalkO q loose XP YP l.row.toRowW d [] (fun f vs => PySem.call f vs) :=
  L2.walk_of (n := 63) (k := 6) (x := "_law_script") (CX := fun w => CXx l.prog w) (sp := fun w => spLaw (K w.params)) hn (by decide) hdf ⟨rfl, by decide, by decide⟩ hY F (fun _ _ a ns hl _ hS => ⟨a, ns, rfl, hS, hl, fun _ => rfl⟩) fun _ _ _ _ _ z => (by
    obtain ⟨_, _, _, _, _, _, _, _, _, _, _, _, _, q⟩ := z
    exact q)
end Ka26
open PySem PySem.W PyProof.Rows
set_option maxRecDepth 100000 in
set_option maxHeartbeats 0 in
theorem PySem.Challenge.cw_switchhall_k26_whole_all_that_words_make_holds : PySem.Challenge.rw_switchhall_k26_whole_all_that_words_make.Holds := by
  w_on; o_law; k_head; (case hw => w_witness2)
  k_fill
  refine Ka26.walk (l := PySem.Challenge.rw_switchhall_k26_whole_all_that_words_make) rfl rfl (fun w h Y => PySem.W.kIn_of Y) ?F
  case F =>
    intro w mg fa h KX G hmg
    refine' Ka26.all_mk KX G hmg ?a_whole ?l_whole ?c_whole ?k_whole ?a_win ?l_win ?c_win ?k_win ?a_within ?l_within ?c_within ?k_within ?a_chk ?l_chk ?c_chk ?k_chk ?a_after ?l_after ?c_after ?k_after ?a_chks ?l_chks ?c_chks ?k_chks ?a_ckw ?l_ckw ?c_ckw ?k_ckw ?a_leav ?l_leav ?c_leav ?k_leav ?a_wbo ?l_wbo ?c_wbo ?k_wbo ?a_made ?l_made ?c_made ?k_made ?a_word ?l_word ?c_word ?k_word ?a_makes ?l_makes ?c_makes ?k_makes ?a_cell ?l_cell ?c_cell ?k_cell ?a_mix ?l_mix ?c_mix ?k_mix ?a_large ?l_large ?c_large ?k_large ?a_order ?l_order ?c_order ?k_order ?a_lords ?l_lords ?c_lords ?k_lords ?a_lby ?l_lby ?c_lby ?k_lby ?a_law ?l_law ?c_law ?k_law ?a_bad ?x_bad ?v_lines ?v_orders ?v_wlines ?z_bool_ ?z_enum_ ?z_int_ ?z_isi ?z_len ?z_list_ ?z_range ?z_sorted_ ?z_tuple_
    (case a_whole => k_is)
    (case l_whole => k_is)
    (case c_whole => k_is)
    (case k_whole => k_is)
    (case a_win => k_is)
    (case l_win => k_is)
    (case c_win => k_is)
    (case k_win => k_is)
    (case a_within => k_is)
    (case l_within => k_is)
    (case c_within => k_is)
    (case k_within => k_is)
    (case a_chk => k_is)
    (case l_chk => k_is)
    (case c_chk => k_is)
    (case k_chk => k_is)
    (case a_after => k_is)
    (case l_after => k_is)
    (case c_after => k_is)
    (case k_after => k_is)
    (case a_chks => k_is)
    (case l_chks => k_is)
    (case c_chks => k_is)
    (case k_chks => k_is)
    (case a_ckw => k_is)
    (case l_ckw => k_is)
    (case c_ckw => k_is)
    (case k_ckw => k_is)
    (case a_leav => k_is)
    (case l_leav => k_is)
    (case c_leav => k_is)
    (case k_leav => k_is)
    (case a_wbo => k_is)
    (case l_wbo => k_is)
    (case c_wbo => k_is)
    (case k_wbo => k_is)
    (case a_made => k_is)
    (case l_made => k_is)
    (case c_made => k_is)
    (case k_made => k_is)
    (case a_word => k_is)
    (case l_word => k_is)
    (case c_word => k_is)
    (case k_word => k_is)
    (case a_makes => k_is)
    (case l_makes => k_is)
    (case c_makes => k_is)
    (case k_makes => k_is)
    (case a_cell => k_is)
    (case l_cell => k_is)
    (case c_cell => k_is)
    (case k_cell => k_is)
    (case a_mix => k_is)
    (case l_mix => k_is)
    (case c_mix => k_is)
    (case k_mix => k_is)
    (case a_large => k_is)
    (case l_large => k_is)
    (case c_large => k_is)
    (case k_large => k_is)
    (case a_order => k_is)
    (case l_order => k_is)
    (case c_order => k_is)
    (case k_order => k_is)
    (case a_lords => k_is)
    (case l_lords => k_is)
    (case c_lords => k_is)
    (case k_lords => k_is)
    (case a_lby => k_is)
    (case l_lby => k_is)
    (case c_lby => k_is)
    (case k_lby => k_is)
    (case a_law => k_is)
    (case l_law => k_is)
    (case c_law => k_is)
    (case k_law => k_is)
    (case a_bad => k_is)
    (case x_bad => k_exc)
    (case v_lines => k_is)
    (case v_orders => k_is)
    (case v_wlines => k_is)
    (case z_bool_ => k_is)
    (case z_enum_ => k_is)
    (case z_int_ => k_is)
    (case z_isi => k_is)
    (case z_len => k_is)
    (case z_list_ => k_is)
    (case z_range => k_is)
    (case z_sorted_ => k_is)
    (case z_tuple_ => k_is)
