import PyProof.Rows.All
import Wide.All
import OpenK.AllK
import Wide.FinOn
import Lean
import PyProof.EqAt
import PyProof.EqKinds
import PyProof.TupleCall
import PySem.Challenge.RW_switchhall_k09_whole_timetables
set_option Elab.async false
set_option linter.all false
set_option maxRecDepth 100000
namespace L2
open PySem PySem.Spec PyProof.Rows
abbrev Key := Sum Int Str
def keyIs : Key → Value → Bool
  | .inl k, v => Value.isInt k v
  | .inr x, v => Value.isStrOf x v
def keyH (w : World) : Key → Int
  | .inl k => hashInt k
  | .inr x => hashStr w x
theorem keyIs_shape : ∀ {k : Key} {v : Value}, keyIs k v = true → (∃ i t, k = Sum.inl i ∧ v = Value.int i t) ∨ (∃ x t, k = Sum.inr x ∧ v = Value.str x t)
  | .inl i, v, h => by
    obtain ⟨t, e⟩ := Value.isInt_shape (k := i) (v := v) h
    exact .inl ⟨i, t, rfl, e⟩
  | .inr x, v, h => by
    obtain ⟨t, e⟩ := Value.isStrOf_shape (x := x) (v := v) h
    exact .inr ⟨x, t, rfl, e⟩
theorem keyIs_int (i : Int) (t : Tok) : keyIs (.inl i) (.int i t) = true := by simp [keyIs, Value.isInt]
theorem keyIs_str (x : Str) (t : Tok) : keyIs (.inr x) (.str x t) = true := by simp [keyIs, Value.isStrOf]
theorem key_ll (a b : Int) : decide ((Sum.inl a : Key) = Sum.inl b) = (a == b) := by
  by_cases e : a = b
  · subst e; simp
  · have h : ¬ (Sum.inl a : Key) = Sum.inl b := fun q => e (Sum.inl.inj q)
    rw [decide_eq_false h]
    exact (beq_eq_false_iff_ne.mpr e).symm
theorem key_rr (a b : Str) : decide ((Sum.inr a : Key) = Sum.inr b) = decide (a = b) := by
  by_cases e : a = b
  · subst e; simp
  · have h : ¬ (Sum.inr a : Key) = Sum.inr b := fun q => e (Sum.inr.inj q)
    rw [decide_eq_false h, decide_eq_false e]
theorem key_lr (a : Int) (b : Str) : decide ((Sum.inl a : Key) = Sum.inr b) = false := decide_eq_false (fun q => nomatch q)
theorem key_rl (a : Str) (b : Int) : decide ((Sum.inr a : Key) = Sum.inl b) = false := decide_eq_false (fun q => nomatch q)
def mixKind (prog : Program) (w : World) : PySem.KeyKind prog w Key where
  is := keyIs
  hash := keyH w
  inj := fun v a b ha hb => by
    rcases keyIs_shape ha with ⟨i, t, rfl, rfl⟩ | ⟨x, t, rfl, rfl⟩
    · rcases keyIs_shape hb with ⟨j, u, rfl, e⟩ | ⟨y, u, rfl, e⟩
      · injection e with e1 _; rw [e1]
      · exact nomatch e
    · rcases keyIs_shape hb with ⟨j, u, rfl, e⟩ | ⟨y, u, rfl, e⟩
      · exact nomatch e
      · injection e with e1 _; rw [e1]
  byValue := fun k v h => by
    rcases keyIs_shape h with ⟨i, t, rfl, rfl⟩ | ⟨x, t, rfl, rfl⟩ <;> rfl
  pyHash := fun hv h => by
    rcases keyIs_shape hv with ⟨i, t, rfl, rfl⟩ | ⟨x, t, rfl, rfl⟩
    · exact wpAny_pyHash_int h
    · exact wpAny_pyHash_str h
  eqBool := fun hu hv h => by
    rcases keyIs_shape hu with ⟨i, t, rfl, rfl⟩ | ⟨x, t, rfl, rfl⟩
    · rcases keyIs_shape hv with ⟨j, u, rfl, rfl⟩ | ⟨y, u, rfl, rfl⟩
      · rw [key_ll] at h; exact wpAny_eqBool_int h
      · rw [key_lr] at h; exact SeqAt.EqAt.int_str i t y u _ _ _ _ h
    · rcases keyIs_shape hv with ⟨j, u, rfl, rfl⟩ | ⟨y, u, rfl, rfl⟩
      · rw [key_rl] at h; exact SeqAt.EqAt.str_int x t j u _ _ _ _ h
      · rw [key_rr] at h; exact wpAny_eqBool_str h
  «strs» := fun k x t v h => by
    rcases keyIs_shape h with ⟨i, u, rfl, e⟩ | ⟨y, u, rfl, e⟩
    · exact nomatch e
    · injection e with e1 _
      subst e1
      cases v <;> rfl
theorem mixKind_int (prog : Program) (w : World) (i : Int) (t : Tok) : (mixKind prog w).is (.inl i) (.int i t) = true := keyIs_int i t
theorem mixKind_str (prog : Program) (w : World) (x : Str) (t : Tok) : (mixKind prog w).is (.inr x) (.str x t) = true := keyIs_str x t
end L2
namespace L2
open PySem PySem.Spec PyProof.Rows
inductive V where
  | non | bl (b : Bool) | int (i : Int) | str (x : Str) | byt (b : Array UInt8) | flt (b : UInt64) | ref (a : Addr) | ty (n : String)
  deriving DecidableEq
def RelV : V → Value → Prop
  | .non, u => u = Value.none
  | .bl b, u => u = Value.bool b
  | .int i, u => ∃ t, u = Value.int i t
  | .str x, u => ∃ t, u = Value.str x t
  | .byt b, u => ∃ t, u = Value.bytes b t
  | .flt b, u => ∃ t, u = Value.float b t
  | .ref a, u => u = Value.ref a
  | .ty n, u => u = Value.type n
abbrev Vals : List V → List Value → Prop := Paired RelV
theorem Vals.length {xs : List V} {us : List Value} (r : Vals xs us) : xs.length = us.length := Paired.length r
theorem Vals.get : ∀ {xs : List V} {us : List Value} {i : Nat} {x : V}, Vals xs us → xs[i]? = some x → ∃ u, us[i]? = some u ∧ RelV x u
  | _, _, _, _, .nil, e => by simp at e
  | _, _, 0, _, .cons r _, e => by simp at e; subst e; exact ⟨_, rfl, r⟩
  | _, _, i + 1, x, .cons _ t, e => by
    obtain ⟨u, h1, h2⟩ := Vals.get (i := i) (x := x) t (by simpa using e)
    exact ⟨u, by simpa using h1, h2⟩
theorem Vals.set {x : V} {u : Value} (r : RelV x u) : ∀ {xs : List V} {us : List Value} (i : Nat), Vals xs us → Vals (xs.set i x) (us.set i u)
  | _, _, _, .nil => .nil
  | _, _, 0, .cons _ t => .cons r t
  | _, _, i + 1, .cons q t => .cons q (Vals.set r i t)
theorem Vals.append : ∀ {xs ys : List V} {us ws : List Value}, Vals xs us → Vals ys ws → Vals (xs ++ ys) (us ++ ws)
  | _, _, _, _, .nil, s => s
  | _, _, _, _, .cons r t, s => .cons r (Vals.append t s)
def RelO : Option V → Option Value → Prop
  | some v, some u => RelV v u
  | none, none => True
  | _, _ => False
def KV {κ : Type} : List (κ × V) → List (κ × Value) → Prop := Paired fun (p : κ × V) (q : κ × Value) => p.1 = q.1 ∧ RelV p.2 q.2
def kV : Key → V
  | .inl i => .int i
  | .inr x => .str x
inductive HO where
  /-- a list -/
  | lst (xs : List V)
  /-- a tuple (never changes) -/
  | tup (xs : List V)
  /-- a dict whose keys are ints and texts; one whose keys are tuples of ints and texts (the empty one is both) -/
  | dK (kvs : List (Key × V)) | dT (kvs : List (List Key × V))
  /-- a set of ints: its members, its size -/
  | set (S : Int → Bool) (n : Nat)
  /-- an instance of the class at C, its dict at dx, its attributes -/
  | ins (C dx : Addr) (fs : List (Str × V))
  /-- the dict of the instance at x -/
  | own (x : Addr)
  /-- the dict of an exception -/
  | xd (fs : List (Str × V))
  /-- a bound method, f of x -/
  | met (f x : Addr)
  /-- a range object lo, lo + 1, .. below hi -/
  | rng (lo hi : Int)
  /-- a thing that is known to the object (the script; a dict while a loop walks it): read, never written while it is so -/
  | frz (o : Obj) (u : HO)
  /-- a code object's table -/
  | tbl (ps : Array Value)
  /-- any other thing, by what is true of its one object (a def of one's own: SetO a S n := HO.ext fun h => ..) -/
  | ext (φ : Heap → Prop)
abbrev Hp := Addr → Option HO
def upd (H : Hp) (a : Addr) (o : HO) : Hp := fun b => if b = a then some o else H b
theorem upd_same {H : Hp} {a : Addr} {o : HO} : upd H a o a = some o := by unfold upd; rw [if_pos rfl]
theorem upd_ne {H : Hp} {a b : Addr} {o : HO} (h : b ≠ a) : upd H a o b = H b := by unfold upd; rw [if_neg h]
theorem ne_of {H : Hp} {a b : Addr} {o u : HO} (h : H a = some o) (h' : H b = some u) (d : o ≠ u) : a ≠ b := by
  intro e; subst e; rw [h] at h'; exact d (Option.some.inj h')
theorem ne_of_none {H : Hp} {a b : Addr} {o : HO} (h : H a = some o) (h' : H b = none) : a ≠ b := by
  intro e; subst e; rw [h] at h'; cases h'
section
variable (P : Program) (w : World)
def ObjOk (H : Hp) (h : Heap) (a : Addr) : HO → Prop
  | .lst xs => xs.length ≤ sizeLine ∧ ∃ (its : List Value) (n : Nat), Vals xs its ∧ h.get? a = some { cls := .type "list", data := .seq its.toArray n }
  | .tup xs => xs.length ≤ sizeLine ∧ ∃ its : List Value, Vals xs its ∧ IsTup h a its.toArray
  | .dK kvs => kvs.length ≤ sizeLine ∧ (a == sysModules) = false ∧ ∃ vs, KV kvs vs ∧ h.DictOf (mixKind P w) a vs
  | .dT kvs => kvs.length ≤ sizeLine ∧ (a == sysModules) = false ∧ ∃ xs : List (List Key × Addr × Value),
      Paired (fun (p : List Key × V) (q : List Key × Addr × Value) => p.1 = q.1 ∧ H q.2.1 = some (.tup (p.1.map kV)) ∧ RelV p.2 q.2.2) kvs xs ∧
      ∃ o es ep, h.get? a = some o ∧ o.ExactDict ∧ o.data = .dict es ep ∧ es.toList = xs.map (entryOfKey (tupleKind (mixKind P w))) ∧ (xs.map (·.1)).Nodup
  | .set S n => h.SetOf (intKind P w) a S n
  | .ins C dx fs => H dx = some (.own a) ∧ fs.length ≤ 1000 ∧ dx ≠ a ∧ h.get? a = some (PySem.W.instObj C dx) ∧
      ∃ mA, h.Ns1 dx mA ∧ (∀ f, RelO (fs.lookup f) (mA f)) ∧ PySem.Within mA (fs.map (·.1))
  | .own _ => ∃ o, h.get? a = some o
  | .xd fs => ∃ mA, h.Ns1 a mA ∧ ∀ f, RelO (fs.lookup f) (mA f)
  | .rng lo hi => ∃ t u v, h.get? a = some { cls := .type "range", data := .fields #[.int lo t, .int hi u, .int 1 v] }
  | .frz o u => h.get? a = some o ∧ ObjOk H h a u
  | .tbl ps => h.get? a = some { cls := .none, data := .fields ps }
  | .met f x => h.get? a = some (PySem.W.methodObj (.ref f) (.ref x))
  | .ext φ => φ h ∧ (∃ o, h.get? a = some o) ∧ ∀ h1 h2 : Heap, φ h1 → (∀ o, h1.get? a = some o → h2.get? a = some o) → φ h2
def HOk (H : Hp) (h : Heap) : Prop := ∀ a o, H a = some o → ObjOk P w H h a o
end
section
variable {P : Program} {w : World} {H H' : Hp} {h h' : Heap} {a : Addr} {o : HO}
theorem ObjOk.lt (x : ObjOk P w H h a o) : a < h.objs.size := by
  cases o with
  | lst xs => obtain ⟨_, _, _, _, e⟩ := x; exact Heap.lt_size e
  | tup xs => obtain ⟨_, _, _, p⟩ := x; exact p.lt
  | dK kvs => obtain ⟨_, _, _, _, o, _, _, e, _⟩ := x; exact Heap.lt_size e
  | dT kvs => obtain ⟨_, _, _, _, o, _, _, e, _⟩ := x; exact Heap.lt_size e
  | set S n => obtain ⟨o, _, _, _, e, _⟩ := x; exact Heap.lt_size e
  | ins C dx fs => obtain ⟨_, _, _, e, _⟩ := x; exact Heap.lt_size e
  | own y => obtain ⟨_, e⟩ := x; exact Heap.lt_size e
  | xd fs => obtain ⟨_, ⟨_, _, _, e, _⟩, _⟩ := x; exact Heap.lt_size e
  | rng lo hi => obtain ⟨_, _, _, e⟩ := x; exact Heap.lt_size e
  | frz ob u => obtain ⟨e, _⟩ := x; exact Heap.lt_size e
  | tbl ps => exact Heap.lt_size (show h.get? a = some _ from x)
  | met f y => exact Heap.lt_size (show h.get? a = some _ from x)
  | ext φ => obtain ⟨_, ⟨_, e⟩, _⟩ := x; exact Heap.lt_size e
theorem Paired.mapP {α β : Type} {F G : α → β → Prop} : ∀ {l₁ : List α} {l₂ : List β}, Paired F l₁ l₂ → (∀ a b, F a b → G a b) → Paired G l₁ l₂
  | _, _, .nil, _ => .nil
  | _, _, .cons r t, f => .cons (f _ _ r) (Paired.mapP t f)
theorem ObjOk.stay (x : ObjOk P w H h a o) (k : ∀ b u, (b = a ∨ H b = some (.own a)) → h.get? b = some u → h'.get? b = some u)
    (ho : ∀ b, H b = some (.own a) → H' b = some (.own a)) (ht : ∀ b xs, H b = some (.tup xs) → H' b = some (.tup xs)) : ObjOk P w H' h' a o := by
  induction o with
  | lst xs => obtain ⟨z, its, n, r, e⟩ := x; exact ⟨z, its, n, r, k _ _ (.inl rfl) e⟩
  | tup xs => obtain ⟨z, its, r, ob, e, c⟩ := x; exact ⟨z, its, r, ob, k _ _ (.inl rfl) e, c⟩
  | dK kvs => obtain ⟨z, y, vs, r, ob, es, ep, e, c⟩ := x; exact ⟨z, y, vs, r, ob, es, ep, k _ _ (.inl rfl) e, c⟩
  | dT kvs =>
    obtain ⟨z, y, xs, r, ob, es, ep, e, c⟩ := x
    exact ⟨z, y, xs, Paired.mapP r fun p q z => ⟨z.1, ht _ _ z.2.1, z.2.2⟩, ob, es, ep, k _ _ (.inl rfl) e, c⟩
  | set S n => obtain ⟨ob, es, ep, t, e, c⟩ := x; exact ⟨ob, es, ep, t, k _ _ (.inl rfl) e, c⟩
  | ins C dx fs =>
    obtain ⟨d, z, ne, e, mA, ⟨od, es, ep, e2, c⟩, r⟩ := x
    exact ⟨ho _ d, z, ne, k _ _ (.inl rfl) e, mA, ⟨od, es, ep, k _ _ (.inr d) e2, c⟩, r⟩
  | own y => obtain ⟨ob, e⟩ := x; exact ⟨ob, k _ _ (.inl rfl) e⟩
  | xd fs => obtain ⟨mA, ⟨od, es, ep, e, c⟩, r⟩ := x; exact ⟨mA, ⟨od, es, ep, k _ _ (.inl rfl) e, c⟩, r⟩
  | rng lo hi => obtain ⟨t, u, v, e⟩ := x; exact ⟨t, u, v, k _ _ (.inl rfl) e⟩
  | frz ob u ih => obtain ⟨e, q⟩ := x; exact ⟨k _ _ (.inl rfl) e, ih q⟩
  | tbl ps =>
    have e : h.get? a = some { cls := .none, data := .fields ps } := x
    show h'.get? a = some { cls := .none, data := .fields ps }
    exact k a _ (.inl rfl) e
  | met f y =>
    have e : h.get? a = some (PySem.W.methodObj (.ref f) (.ref y)) := x
    show h'.get? a = some (PySem.W.methodObj (.ref f) (.ref y))
    exact k a _ (.inl rfl) e
  | ext φ => obtain ⟨p, ⟨o, e⟩, st⟩ := x; exact ⟨st _ _ p fun o q => k _ _ (.inl rfl) q, ⟨o, k _ _ (.inl rfl) e⟩, st⟩
theorem HOk.lt (x : HOk P w H h) (e : H a = some o) : a < h.objs.size := (x a o e).lt
theorem HOk.fresh (x : HOk P w H h) (e : h.objs.size ≤ a) : H a = none := by
  cases q : H a with
  | none => rfl
  | some u => exact absurd (Nat.lt_of_lt_of_le (x.lt q) e) (Nat.lt_irrefl _)
theorem HOk.kept (x : HOk P w H h) (k : ∀ b u, h.get? b = some u → h'.get? b = some u) : HOk P w H h' := fun a o e =>
  (x a o e).stay (fun b u _ q => k b u q) (fun _ q => q) fun _ _ q => q
theorem HOk.laid (x : HOk P w H h) (k : ∀ b u, h.get? b = some u → h'.get? b = some u) (hp : h.objs.size ≤ a) (new : ObjOk P w (upd H a o) h' a o) : HOk P w (upd H a o) h' := fun b u e => by
  have hn := x.fresh hp
  by_cases hb : b = a
  · subst hb; rw [upd_same] at e; cases e; exact new
  · rw [upd_ne hb] at e
    exact (x b u e).stay (fun c v _ q => k c v q) (fun c q => by rw [upd_ne (ne_of_none q hn)]; exact q) fun c xs q => by rw [upd_ne (ne_of_none q hn)]; exact q
end
def Rd (H : Hp) (a : Addr) (u : HO) : Prop := H a = some u ∨ ∃ o, H a = some (.frz o u)
theorem Rd.ok {P : Program} {w : World} {H : Hp} {h : Heap} {a : Addr} {u : HO} (r : Rd H a u) (x : HOk P w H h) : ObjOk P w H h a u := by
  rcases r with r | ⟨o, r⟩
  · exact x a u r
  · obtain ⟨_, q⟩ := x a _ r
    exact q
def Mut : Option HO → Prop
  | some (.lst _) => True
  | some (.dK _) => True
  | some (.dT _) => True
  | some (.set _ _) => True
  | some (.ins _ _ _) => True
  | some (.ext _) => True
  | _ => False
section
variable {P : Program} {w : World} {H : Hp} {h h' : Heap} {x e : Addr} {o' : HO}
theorem HOk.write (ok : HOk P w H h) (mu : Mut (H x)) (he : e = x ∨ H e = some (.own x)) (k : ∀ b u, b ≠ e → h.get? b = some u → h'.get? b = some u) (heo : ∃ u, h'.get? e = some u)
    (new : ObjOk P w (upd H x o') h' x o') : HOk P w (upd H x o') h' := fun b u q => by
  have nown : ∀ c y, H c = some (.own y) → c ≠ x := fun c y r z => by subst z; rw [r] at mu; exact mu
  have ntup : ∀ c xs, H c = some (.tup xs) → c ≠ x := fun c xs r z => by subst z; rw [r] at mu; exact mu
  by_cases hb : b = x
  · subst hb; rw [upd_same] at q; cases q; exact new
  · rw [upd_ne hb] at q
    by_cases hbe : b = e
    · have q' : H b = some (.own x) := by
        rcases he with z | z
        · exact absurd (hbe.trans z) hb
        · rw [hbe]; exact z
      rw [q] at q'; cases q'
      obtain ⟨v, hv⟩ := heo
      exact ⟨v, by rw [hbe]; exact hv⟩
    · refine (ok b u q).stay (fun c v hc r => k c v ?_ r) (fun c r => by rw [upd_ne (nown c b r)]; exact r) fun c xs r => by rw [upd_ne (ntup c xs r)]; exact r
      rcases hc with rfl | hc
      · exact hbe
      · rintro rfl
        rcases he with z | z
        · exact nown c b hc z
        · rw [hc] at z; cases z; exact hb rfl
end
structure Un (fs ex : List Addr) (H H' : Hp) (h h' : Heap) : Prop where
  keep : ∀ b o, h.get? b = some o → H b = none → b ∉ fs → b ∉ ex → h'.get? b = some o
  slot : ∀ b o, h.get? b = some o → H b = none → b ∈ fs → b ∉ ex → ∃ sl, h'.get? b = some { o with slots := sl }
  free : ∀ b o, h.get? b = some o → H b = none → b ∉ ex → H' b = none
  there : ∀ b o, h.get? b = some o → b ∉ ex → ∃ o', h'.get? b = some o'
  tups : ∀ b xs, H b = some (.tup xs) → H' b = some (.tup xs)
  frzs : ∀ b o u, H b = some (.frz o u) → H' b = some (.frz o u)
  tbls : ∀ b ps, H b = some (.tbl ps) → ∃ more, H' b = some (.tbl (ps ++ more))
section
variable {fs fs' ex ex' : List Addr} {H H1 H2 : Hp} {h h1 h2 h' : Heap} {a x e : Addr} {o : HO}
theorem Un.any (u : Un fs ex H H1 h h1) {b : Addr} {ob : Obj} (q : h.get? b = some ob) (n : H b = none) (hx : b ∉ ex) : ∃ sl, h1.get? b = some { ob with slots := sl } := by
  by_cases hb : b ∈ fs
  · exact u.slot b ob q n hb hx
  · exact ⟨ob.slots, u.keep b ob q n hb hx⟩
theorem Un.kept (k : ∀ b u, h.get? b = some u → h'.get? b = some u) : Un fs ex H H h h' :=
  ⟨fun b ob q _ _ _ => k b ob q, fun b ob q _ _ _ => ⟨ob.slots, k b ob q⟩, fun _ _ _ n _ => n, fun b ob q _ => ⟨ob, k b ob q⟩, fun _ _ q => q, fun _ _ _ q => q, fun _ ps q => ⟨#[], by rw [q]; simp⟩⟩
theorem Un.refl : Un fs ex H H h h := Un.kept fun _ _ q => q
theorem Un.laid (k : ∀ b u, h.get? b = some u → h'.get? b = some u) (hp : h.objs.size ≤ a) (hn : H a = none) : Un fs ex H (upd H a o) h h' where
  keep := fun b u q _ _ _ => k b u q
  slot := fun b u q _ _ _ => ⟨u.slots, k b u q⟩
  free := fun b u q n _ => by rw [upd_ne (Nat.ne_of_lt (Nat.lt_of_lt_of_le (Heap.lt_size q) hp))]; exact n
  there := fun b u q _ => ⟨u, k b u q⟩
  tups := fun b xs q => by rw [upd_ne (ne_of_none q hn)]; exact q
  frzs := fun b u xs q => by rw [upd_ne (ne_of_none q hn)]; exact q
  tbls := fun b ps q => ⟨#[], by rw [upd_ne (ne_of_none q hn), q]; simp⟩
theorem Un.write (mu : Mut (H x)) (he : e = x ∨ H e = some (.own x)) (k : ∀ b u, b ≠ e → h.get? b = some u → h'.get? b = some u) (heo : ∃ u, h'.get? e = some u) : Un fs ex H (upd H x o) h h' := by
  have hx : ∀ b, H b = none → b ≠ x := fun b n z => by subst z; rw [n] at mu; exact mu
  have hb : ∀ b, H b = none → b ≠ e := fun b n z => by
    subst z
    rcases he with r | r
    · exact hx b n r
    · rw [n] at r; cases r
  have hm : ∀ b u, H b = some u → ¬ Mut (some u) → b ≠ x := fun b u q nm z => by subst z; rw [q] at mu; exact nm mu
  refine ⟨fun b u q n _ _ => k b u (hb b n) q, fun b u q n _ _ => ⟨u.slots, k b u (hb b n) q⟩, fun b u q n _ => by rw [upd_ne (hx b n)]; exact n, fun b u q _ => ?_,
    fun b xs q => by rw [upd_ne (hm b _ q fun z => z)]; exact q, fun b u xs q => by rw [upd_ne (hm b _ q fun z => z)]; exact q, fun b ps q => ⟨#[], by rw [upd_ne (hm b _ q fun z => z), q]; simp⟩⟩
  by_cases hbe : b = e
  · subst hbe; exact heo
  · exact ⟨u, k b u hbe q⟩
end
def trk (h : Heap) (H : Hp) : List Addr := (List.range h.objs.size).filter fun a => (H a).isSome
def hidT (h : Heap) (H : Hp) : Heap := PySem.W.hideAll h (trk h H)
theorem hidT_size (h : Heap) (H : Hp) : (hidT h H).objs.size = h.objs.size := PySem.W.hideAll_size _ _
theorem hidT_get {h : Heap} {H : Hp} {b : Addr} {o : Obj} (e : h.get? b = some o) (n : H b = none) : (hidT h H).get? b = some o :=
  PySem.W.hideAll_get _ e fun hm => by
    have q : (H b).isSome = true := (List.mem_filter.mp hm).2
    rw [n] at q; simp at q
theorem of_hidT {h : Heap} {H : Hp} {b : Addr} {o : Obj} (e : (hidT h H).get? b = some o) : h.get? b = some o ∧ H b = none := by
  have e' : h.get? b = some o := PySem.W.of_hideAll (trk h H) e
  refine ⟨e', ?_⟩
  cases q : H b with
  | none => rfl
  | some x =>
    have hm : b ∈ trk h H := List.mem_filter.mpr ⟨List.mem_range.mpr (Heap.lt_size e'), by simp [q]⟩
    have z : (hidT h H).get? b = none := PySem.W.hideAll_none (trk h H) hm
    rw [z] at e; cases e
def allNews (g h : Heap) (L : Addr) : List (Addr × Obj) := (List.range h.objs.size).filterMap fun a => if a = L ∨ (g.get? a).isSome = true then none else (h.get? a).map fun o => (a, o)
def rest (g h : Heap) (L d : Addr) : List (Addr × Obj) := (allNews g h L).filter fun p => decide (p.1 ≠ d)
end L2
namespace L2
open PySem PySem.Spec PyProof.Rows
structure Mod (K : PySem.W.Frag) (mg : Str → Option Value) (base : Heap) : Prop where
  kin : K.In base
  glob : base.Ns mainGlobals mg
  blt : ∃ mb, base.Ns builtinsNs mb ∧ ∀ x : Str, x ≠ "__name__" → mb x = bootBuiltins x
  nolimit : base.NoLimit
/-- the context: a def's body (or a comprehension's block) running. base: fixed through the whole law; s₀, H₀: the entry; outer: the frames whose slots others may change (a def's callers); stack: all frames that run;
   ex: iterators that were made ahead of the entry and are walked here (a comprehension's); fn: the names whose cells were made at the entry (a def: all; a comprehension's block: its own); calm: not within an except suite; pn: pins that every state bears; xe: what is wanted of an exception that leaves the code -/
structure Cx where
  prog : Program
  w : World
  K : PySem.W.Frag
  mg : Str → Option Value
  base : Heap
  A : Around
  N : List Str
  s₀ : Shared
  H₀ : Hp
  env : Env
  outer : List Env
  stack : List Env
  ex : List Addr
  fn : Str → Bool
  calm : Bool
  pn : List (Addr × Obj)
  xe : Value → Shared → Prop
def frs (l : List Env) : List Addr := l.filterMap (·.frame)
abbrev Cx.fs (X : Cx) : List Addr := frs X.outer
def Vis (sc : Scope) (x : Str) : Prop := sc.names.lookup x = some .local ∨ sc.names.lookup x = some .cell ∨ sc.names.lookup x = some .free
def Loc (sc : Scope) (x : Str) : Prop := sc.names.lookup x = some .local ∨ sc.names.lookup x = some .cell
def Look (env : Env) (h : Heap) (m : Str → Option Value) (x : Str) (u : Value) : Prop :=
  (env.kindOf x = some .local ∧ m x = some u) ∨ ((env.kindOf x = some .cell ∨ env.kindOf x = some .free) ∧ ∃ c, env.cells.lookup x = some c ∧ h.IsCell c (some u))
structure Cx.Ok (X : Cx) : Prop where
  mod : Mod X.K X.mg X.base
  kind : X.env.scope.kind = .function
  glob : X.env.globals = mainGlobals
  blt : X.env.builtins = builtinsNs
  above : X.s₀.heap.objs.size ≤ X.env.locals
  inj : ∀ x y c, X.env.cells.lookup x = some c → X.env.cells.lookup y = some c → x = y
  has : ∀ x, (X.env.kindOf x = some .cell ∨ X.env.kindOf x = some .free) → ∃ c, X.env.cells.lookup x = some c
  cab : ∀ x c, X.fn x = true → X.env.cells.lookup x = some c → X.s₀.heap.objs.size ≤ c
  hd : X.calm = true → X.A.handled = none
  frames : X.A.frames = some X.stack
  stk : X.stack = X.outer ∨ (X.stack = X.env :: X.outer ∧ X.env.frame = some X.env.locals)
  exf : ∀ b ∈ X.ex, b ≠ X.env.locals ∧ ∀ x c, X.env.cells.lookup x = some c → c ≠ b
  bs : ∀ b o, X.base.get? b = some o → X.s₀.heap.get? b = some o ∧ X.H₀ b = none
  bsz : X.base.objs.size ≤ X.s₀.heap.objs.size
  noex : ∀ b o, X.base.get? b = some o → b ∉ X.ex
  exfs : ∀ b ∈ X.ex, b ∉ X.fs
  funs : X.s₀.heap.FunFrames X.base X.outer
  frf : ∀ b ∈ X.fs, X.H₀ b = none
structure Inv (X : Cx) (pins : List (Addr × Obj)) (σ : List (Option V)) (H : Hp) (s : Shared) : Prop where
  ok : X.Ok
  os : s.os = X.s₀.os
  bare : AllBare s.gens
  base : Un X.fs X.ex X.H₀ H X.s₀.heap s.heap
  loc : ∃ m, s.heap.Ns X.env.locals m ∧ ∀ (i : Nat) (x : Str) (v : V), X.N[i]? = some x → σ[i]? = some (some v) → Vis X.env.scope x → ∃ u, RelV v u ∧ Look X.env s.heap m x u
  cell : ∀ x c, X.env.cells.lookup x = some c → ∃ v, s.heap.IsCell c v
  free : H X.env.locals = none
  freeC : ∀ x c, X.env.cells.lookup x = some c → H c = none
  pin : ∀ p ∈ X.pn ++ pins, s.heap.get? p.1 = some p.2 ∧ H p.1 = none ∧ p.1 ≠ X.env.locals ∧ p.1 ∉ X.fs ∧ ∀ v, p.2.data ≠ .cell v
  hok : HOk X.prog X.w H s.heap
  len : σ.length = X.N.length
section
variable {X : Cx} {pins : List (Addr × Obj)} {σ : List (Option V)} {H H' : Hp} {s : Shared} {h' : Heap}
theorem Cx.Ok.nofr (ok : X.Ok) {b : Addr} {o : Obj} (e : X.base.get? b = some o) : b ∉ X.fs := fun hb => by
  have := (ok.funs.mem hb).1
  rw [e] at this; cases this
theorem Inv.bs (I : Inv X pins σ H s) : ∀ b o, X.base.get? b = some o → s.heap.get? b = some o ∧ H b = none := fun b o e =>
  ⟨I.base.keep b o (I.ok.bs b o e).1 (I.ok.bs b o e).2 (I.ok.nofr e) (I.ok.noex b o e), I.base.free b o (I.ok.bs b o e).1 (I.ok.bs b o e).2 (I.ok.noex b o e)⟩
theorem Inv.bk (I : Inv X pins σ H s) : ∀ b o, X.base.get? b = some o → s.heap.get? b = some o := fun b o e => (I.bs b o e).1
theorem Inv.mod (I : Inv X pins σ H s) : Mod X.K X.mg X.base := I.ok.mod
theorem Inv.kIn (I : Inv X pins σ H s) : X.K.In s.heap := I.ok.mod.kin.keeps I.bk
theorem Inv.lt (I : Inv X pins σ H s) : X.env.locals < s.heap.objs.size := let ⟨_, hn, _⟩ := I.loc; hn.lt
theorem Inv.sz (I : Inv X pins σ H s) : X.s₀.heap.objs.size ≤ s.heap.objs.size := Nat.le_trans I.ok.above (Nat.le_of_lt I.lt)
theorem Inv.nofs (I : Inv X pins σ H s) {a : Addr} (h : s.heap.objs.size ≤ a) : a ∉ X.fs := fun hb => by
  obtain ⟨_, o, ho, _⟩ := I.ok.funs.mem hb
  exact absurd (Nat.lt_of_lt_of_le (Heap.lt_size ho) (Nat.le_trans I.sz h)) (Nat.lt_irrefl _)
theorem Inv.cne (I : Inv X pins σ H s) : ∀ x c, X.env.cells.lookup x = some c → c ≠ X.env.locals := fun x c e z => by
  obtain ⟨v, o, ho, hd⟩ := I.cell x c e
  obtain ⟨m, ⟨o', es, ep, ho', hd', _⟩, _⟩ := I.loc
  rw [z, ho'] at ho; cases ho; rw [hd'] at hd; cases hd
theorem Inv.funs (I : Inv X pins σ H s) : s.heap.FunFrames X.base X.outer := by
  have all : ∀ (l : List Env), (∀ b ∈ frs l, b ∈ X.fs) → X.s₀.heap.FunFrames X.base l → s.heap.FunFrames X.base l := by
    intro l
    induction l with
    | nil => intro _ _; trivial
    | cons env r ih =>
      intro hs hl
      obtain ⟨hk, ⟨L, o, hf, hn, ho, hd⟩, hr⟩ := hl
      have hL : L ∈ X.fs := hs L (by unfold frs; rw [List.filterMap_cons, hf]; exact List.mem_cons_self)
      obtain ⟨sl, e⟩ := I.base.slot L o ho (I.ok.frf L hL) hL fun z => I.ok.exfs L z hL
      exact ⟨hk, ⟨L, _, hf, hn, e, hd⟩, ih (fun b hb => hs b (by unfold frs; rw [List.filterMap_cons, hf]; exact List.mem_cons_of_mem _ hb)) hr⟩
  exact all X.outer (fun _ hb => hb) I.ok.funs
theorem Inv.stack (I : Inv X pins σ H s) : s.heap.FunFrames X.base X.stack := by
  rcases I.ok.stk with e | ⟨e, hf⟩
  · rw [e]; exact I.funs
  · rw [e]
    obtain ⟨m, hn, _⟩ := I.loc
    refine .cons (by rw [I.ok.kind]; decide) hf hn ?_ I.funs
    exact Heap.get?_none_of_le (Nat.le_trans I.ok.bsz I.ok.above)
theorem Inv.stkSub (I : Inv X pins σ H s) : ∀ b ∈ frs X.stack, b ∈ X.env.locals :: X.fs := fun b hb => by
  rcases I.ok.stk with e | ⟨e, hf⟩
  · rw [e] at hb; exact List.mem_cons_of_mem _ hb
  · rw [e] at hb
    unfold frs at hb
    rw [List.filterMap_cons, hf] at hb
    exact hb
theorem Inv.stkFree (I : Inv X pins σ H s) : ∀ b ∈ frs X.stack, H b = none := fun b hb => by
  rcases List.mem_cons.mp (I.stkSub b hb) with e | hb
  · rw [e]; exact I.free
  · obtain ⟨_, o, ho, _⟩ := I.ok.funs.mem hb
    exact I.base.free b o ho (I.ok.frf b hb) fun z => I.ok.exfs b z hb
theorem Inv.step {g' : Array GenState} {t' : Nat} {d' : Drawn} {ch : List Addr} (I : Inv X pins σ H s)
    (hch : ∀ b ∈ ch, (b ∈ X.ex ∨ X.s₀.heap.objs.size ≤ b) ∧ b ≠ X.env.locals ∧ (∀ x c, X.env.cells.lookup x = some c → c ≠ b) ∧ ∀ p ∈ X.pn ++ pins, p.1 ≠ b)
    (keep : ∀ b o, b ≠ X.env.locals → b ∉ X.fs → b ∉ ch → s.heap.get? b = some o → H b = none → h'.get? b = some o)
    (slot : ∀ b o, b ≠ X.env.locals → b ∈ X.fs → b ∉ ch → s.heap.get? b = some o → H b = none → ∃ sl, h'.get? b = some { o with slots := sl }) (free : ∀ b o, b ∉ ch → s.heap.get? b = some o → H b = none → H' b = none)
    (there : ∀ b o, b ∉ ch → s.heap.get? b = some o → ∃ o', h'.get? b = some o')
    (tups : ∀ b xs, H b = some (.tup xs) → H' b = some (.tup xs)) (frzs : ∀ b o u, H b = some (.frz o u) → H' b = some (.frz o u)) (tbls : ∀ b ps, H b = some (.tbl ps) → ∃ more, H' b = some (.tbl (ps ++ more)))
    (ns : ∀ m, s.heap.Ns X.env.locals m → h'.Ns X.env.locals m) (hok : HOk X.prog X.w H' h') (hg : AllBare g') :
    Inv X pins σ H' { s with heap := h', gens := g', drawn := d', toks := t' } := by
  have neL : ∀ b o, X.s₀.heap.get? b = some o → b ≠ X.env.locals := fun b o e => Nat.ne_of_lt (Nat.lt_of_lt_of_le (Heap.lt_size e) I.ok.above)
  have neC : ∀ b o, X.s₀.heap.get? b = some o → b ∉ X.ex → b ∉ ch := fun b o e hx hb => by
    rcases (hch b hb).1 with z | z
    · exact hx z
    · exact absurd (Nat.lt_of_lt_of_le (Heap.lt_size e) z) (Nat.lt_irrefl _)
  have cellK : ∀ x c, X.env.cells.lookup x = some c → ∀ v, s.heap.IsCell c v → h'.IsCell c v := fun x c e v ⟨o, ho, hd⟩ => by
    have nch : c ∉ ch := fun z => (hch c z).2.2.1 x c e rfl
    by_cases hc : c ∈ X.fs
    · obtain ⟨sl, q⟩ := slot c o (I.cne x c e) hc nch ho (I.freeC x c e)
      exact ⟨_, q, hd⟩
    · exact ⟨o, keep c o (I.cne x c e) hc nch ho (I.freeC x c e), hd⟩
  refine ⟨I.ok, I.os, hg, ⟨fun b o e n hb hx => ?_, fun b o e n hb hx => ?_, fun b o e n hx => ?_, fun b o e hx => ?_, fun b xs e => tups b xs (I.base.tups b xs e), fun b o xs e => frzs b o xs (I.base.frzs b o xs e), fun b ps e => ?_⟩, ?_, fun x c e => ?_, ?_, fun x c e => ?_, fun p hp => ?_, hok, I.len⟩
  · exact keep b o (neL b o e) hb (neC b o e hx) (I.base.keep b o e n hb hx) (I.base.free b o e n hx)
  · obtain ⟨sl, e1⟩ := I.base.slot b o e n hb hx
    obtain ⟨sl', e2⟩ := slot b _ (neL b o e) hb (neC b o e hx) e1 (I.base.free b o e n hx)
    exact ⟨sl', e2⟩
  · obtain ⟨o', e1⟩ := I.base.there b o e hx
    exact free b o' (neC b o e hx) e1 (I.base.free b o e n hx)
  · obtain ⟨o', e1⟩ := I.base.there b o e hx
    exact there b o' (neC b o e hx) e1
  · obtain ⟨m1, e1⟩ := I.base.tbls b ps e
    obtain ⟨m2, e2⟩ := tbls b _ e1
    exact ⟨m1 ++ m2, by rw [e2, Array.append_assoc]⟩
  · obtain ⟨m, hn, hl⟩ := I.loc
    refine ⟨m, ns m hn, fun i x v e1 e2 e3 => ?_⟩
    obtain ⟨u, r, l⟩ := hl i x v e1 e2 e3
    refine ⟨u, r, ?_⟩
    rcases l with l | ⟨k, c, e, z⟩
    · exact .inl l
    · exact .inr ⟨k, c, e, cellK x c e _ z⟩
  · obtain ⟨v, z⟩ := I.cell x c e
    exact ⟨v, cellK x c e v z⟩
  · obtain ⟨m, ⟨o, _, _, ho, _⟩, _⟩ := I.loc
    exact free _ o (fun z => (hch _ z).2.1 rfl) ho I.free
  · obtain ⟨v, o, ho, hd⟩ := I.cell x c e
    exact free c o (fun z => (hch c z).2.2.1 x c e rfl) ho (I.freeC x c e)
  · obtain ⟨e, n, ne, nf, d⟩ := I.pin p hp
    have nch : p.1 ∉ ch := fun z => (hch p.1 z).2.2.2 p hp rfl
    exact ⟨keep p.1 p.2 ne nf nch e n, free p.1 p.2 nch e n, ne, nf, d⟩
theorem Inv.un {t' : Nat} (I : Inv X pins σ H s) (u : Un X.fs [] H H' s.heap h') (hok : HOk X.prog X.w H' h') : Inv X pins σ H' { s with heap := h', toks := t' } := by
  obtain ⟨m, ⟨o, es, ep, ho, r⟩, _⟩ := id I.loc
  obtain ⟨sl, hL⟩ := u.any ho I.free (by simp)
  exact I.step (g' := s.gens) (d' := s.drawn) (ch := []) (fun _ z => nomatch z) (fun b o _ hb _ e n => u.keep b o e n hb (by simp)) (fun b o _ hb _ e n => u.slot b o e n hb (by simp)) (fun b o _ e n => u.free b o e n (by simp)) (fun b o _ e => u.there b o e (by simp)) u.tups u.frzs u.tbls (fun m' hm => by
    obtain ⟨o', es', ep', ho', r'⟩ := hm
    rw [ho] at ho'; cases ho'
    exact ⟨_, es', ep', hL, r'⟩) hok I.bare
theorem Inv.call {g' : Array GenState} {t' : Nat} {d' : Drawn} {ch : List Addr} (I : Inv X pins σ H s) (u : Un (frs X.stack) ch H H' s.heap h') (hok : HOk X.prog X.w H' h') (hg : AllBare g')
    (hch : ∀ b ∈ ch, (b ∈ X.ex ∨ X.s₀.heap.objs.size ≤ b) ∧ b ≠ X.env.locals ∧ (∀ x c, X.env.cells.lookup x = some c → c ≠ b) ∧ ∀ p ∈ X.pn ++ pins, p.1 ≠ b) :
    Inv X pins σ H' { s with heap := h', gens := g', drawn := d', toks := t' } := by
  obtain ⟨m, ⟨o, es, ep, ho, r⟩, _⟩ := id I.loc
  obtain ⟨sl, hL⟩ := u.any ho I.free fun z => (hch _ z).2.1 rfl
  exact I.step (ch := ch) hch (fun b o hL hb hc e n => u.keep b o e n (fun z => (List.mem_cons.mp (I.stkSub b z)).elim hL hb) hc) (fun b o _ _ hc e n => u.any e n hc) (fun b o hc e n => u.free b o e n hc) (fun b o hc e => u.there b o e hc) u.tups u.frzs u.tbls (fun m' hm => by
    obtain ⟨o', es', ep', ho', r'⟩ := hm
    rw [ho] at ho'; cases ho'
    exact ⟨_, es', ep', hL, r'⟩) hok hg
theorem Inv.turned {t' : Nat} {it : Addr} (I : Inv X pins σ H s) (k : ∀ b o, b ≠ it → s.heap.get? b = some o → h'.get? b = some o) (hn : H it = none) (hL : it ≠ X.env.locals)
    (h1 : it ∈ X.ex ∨ X.s₀.heap.objs.size ≤ it) (h2 : ∀ x c, X.env.cells.lookup x = some c → c ≠ it) (h3 : ∀ p ∈ X.pn ++ pins, p.1 ≠ it) : Inv X pins σ H { s with heap := h', toks := t' } := by
  have nit : ∀ b u, H b = some u → b ≠ it := fun b u e z => by rw [z, hn] at e; cases e
  refine I.step (g' := s.gens) (d' := s.drawn) (ch := [it]) (fun b hb => ?_) (fun b o _ _ hc e _ => k b o (fun z => hc (by simp [z])) e) (fun b o _ _ hc e _ => ⟨o.slots, k b o (fun z => hc (by simp [z])) e⟩) (fun _ _ _ _ n => n)
    (fun b o hc e => ⟨o, k b o (fun z => hc (by simp [z])) e⟩) (fun _ _ e => e) (fun _ _ _ e => e) (fun b ps e => ⟨#[], by rw [e]; simp⟩) (fun m hm => ?_) (fun b u e => ?_) I.bare
  · have e : b = it := by simpa using hb
    subst e
    exact ⟨h1, hL, h2, h3⟩
  · obtain ⟨o, es, ep, ho, r⟩ := hm
    exact ⟨o, es, ep, k _ o (Ne.symm hL) ho, r⟩
  · refine (I.hok b u e).stay (fun c v hc q => k c v ?_ q) (fun _ q => q) fun _ _ q => q
    rcases hc with z | z
    · rw [z]; exact nit b u e
    · exact nit c _ z
theorem Inv.tok (I : Inv X pins σ H s) (t : Nat) : Inv X pins σ H { s with toks := t } := I.un (h' := s.heap) (t' := t) Un.refl I.hok
theorem Inv.kept {t' : Nat} (I : Inv X pins σ H s) (k : ∀ b u, s.heap.get? b = some u → h'.get? b = some u) : Inv X pins σ H { s with heap := h', toks := t' } := I.un (Un.kept k) (I.hok.kept k)
theorem Inv.laid {a : Addr} {o : HO} {t' : Nat} (I : Inv X pins σ H s) (k : ∀ b u, s.heap.get? b = some u → h'.get? b = some u) (hp : s.heap.objs.size ≤ a) (new : ObjOk X.prog X.w (upd H a o) h' a o) :
    Inv X pins σ (upd H a o) { s with heap := h', toks := t' } := I.un (Un.laid k hp (I.hok.fresh hp)) (I.hok.laid k hp new)
theorem Inv.write {x e : Addr} {o : HO} {t' : Nat} (I : Inv X pins σ H s) (mu : Mut (H x)) (he : e = x ∨ H e = some (.own x)) (k : ∀ b u, b ≠ e → s.heap.get? b = some u → h'.get? b = some u) (heo : ∃ u, h'.get? e = some u)
    (new : ObjOk X.prog X.w (upd H x o) h' x o) : Inv X pins σ (upd H x o) { s with heap := h', toks := t' } := I.un (Un.write mu he k heo) (I.hok.write mu he k heo new)
theorem Inv.pins_of {pins' : List (Addr × Obj)} (I : Inv X pins σ H s) (h : ∀ p ∈ pins', s.heap.get? p.1 = some p.2 ∧ H p.1 = none ∧ p.1 ≠ X.env.locals ∧ p.1 ∉ X.fs ∧ ∀ v, p.2.data ≠ .cell v) : Inv X pins' σ H s :=
  ⟨I.ok, I.os, I.bare, I.base, I.loc, I.cell, I.free, I.freeC, fun p hp => (List.mem_append.mp hp).elim (fun z => I.pin p (List.mem_append_left _ z)) (h p), I.hok, I.len⟩
theorem nodup_ix {N : List Str} (hN : N.Nodup) {i j : Nat} {x : Str} (a : N[i]? = some x) (b : N[j]? = some x) : i = j := by
  obtain ⟨h1, e1⟩ := List.getElem?_eq_some_iff.mp a
  obtain ⟨h2, e2⟩ := List.getElem?_eq_some_iff.mp b
  exact (List.getElem_inj hN).mp (e1.trans e2.symm)
theorem store_ok2 {M : Model} {A : Around} {E : Value → Shared → Prop} {i : Nat} {x : Str} {v : V} {u : Value} {Q : Unit → Shared → Prop} (I : Inv X pins σ H s) (hN : X.N.Nodup) (hi : X.N[i]? = some x) (hx : Loc X.env.scope x) (r : RelV v u)
    (h : ∀ s', Inv X pins (σ.set i (some v)) H s' → (∃ a, Heap.SameBut a s.heap s'.heap ∧ (a = X.env.locals ∨ X.env.cells.lookup x = some a)) → Q () s') (hf : X.fn x = true ∨ X.env.scope.names.lookup x = some .local := by first | exact .inl rfl | exact .inr rfl | assumption) : wpAny M A (storeName X.env x u) Q E s := by
  obtain ⟨m, hn, hl⟩ := id I.loc
  have hcls : (X.env.scope.kind == .class || (X.env.scope.kind == .module && X.env.locals != X.env.globals)) = false := by rw [I.ok.kind]; rfl
  have hiσ : i < σ.length := by rw [I.len]; exact (List.getElem?_eq_some_iff.mp hi).1
  have cne := I.cne
  have tracked : ∀ {a : Addr} {h' : Heap}, (∃ o, s.heap.get? a = some o ∧ H a = none) → Heap.SameBut a s.heap h' → HOk X.prog X.w H h' := fun {a h'} ha hs b ob e => by
    obtain ⟨_, _, hfree⟩ := ha
    refine (I.hok b ob e).stay (fun c w' hc q => (hs.2 c ?_).trans q) (fun _ q => q) fun _ _ q => q
    rintro rfl
    rcases hc with rfl | hc
    · rw [hfree] at e; cases e
    · rw [hfree] at hc; cases hc
  rcases hx with hk | hk
  · refine wpAny_storeName_local hk hn (fun h' hn' hs => ?_) hcls
    obtain ⟨oL, _, _, hoL, _⟩ := id hn
    refine h _ ⟨I.ok, I.os, I.bare, ⟨fun b o e n hb hx => ?_, fun b o e n hb hx => ?_, I.base.free, fun b o e hx => ?_, I.base.tups, I.base.frzs, I.base.tbls⟩, ⟨_, hn', fun j y v' e1 e2 e3 => ?_⟩, fun y c e => ?_, I.free, I.freeC, fun p hp => ?_, tracked ⟨oL, hoL, I.free⟩ hs, by simpa using I.len⟩ ⟨_, hs, .inl rfl⟩
    · exact (hs.2 b (Nat.ne_of_lt (Nat.lt_of_lt_of_le (Heap.lt_size e) I.ok.above))).trans (I.base.keep b o e n hb hx)
    · obtain ⟨sl, e1⟩ := I.base.slot b o e n hb hx
      exact ⟨sl, (hs.2 b (Nat.ne_of_lt (Nat.lt_of_lt_of_le (Heap.lt_size e) I.ok.above))).trans e1⟩
    · obtain ⟨o', e1⟩ := I.base.there b o e hx
      exact ⟨o', (hs.2 b (Nat.ne_of_lt (Nat.lt_of_lt_of_le (Heap.lt_size e) I.ok.above))).trans e1⟩
    · by_cases hj : j = i
      · subst hj
        rw [hi] at e1; cases e1
        rw [List.getElem?_set_self hiσ] at e2
        cases e2
        exact ⟨u, r, .inl ⟨hk, by simp⟩⟩
      · rw [List.getElem?_set_ne (Ne.symm hj)] at e2
        obtain ⟨u', r', q⟩ := hl j y v' e1 e2 e3
        refine ⟨u', r', ?_⟩
        rcases q with ⟨k, e⟩ | ⟨k, c, e, z⟩
        · refine .inl ⟨k, ?_⟩
          have : y ≠ x := fun e => hj (nodup_ix hN e1 (e ▸ hi))
          simp [this, e]
        · exact .inr ⟨k, c, e, z.sameBut hs (cne y c e)⟩
    · obtain ⟨w', z⟩ := I.cell y c e
      exact ⟨w', z.sameBut hs (cne y c e)⟩
    · obtain ⟨e, n, ne, nf, d⟩ := I.pin p hp
      exact ⟨(hs.2 p.1 ne).trans e, n, ne, nf, d⟩
  · have hfn : X.fn x = true := by
      rcases hf with z | z
      · exact z
      · rw [z] at hk; cases hk
    obtain ⟨c, hc⟩ := I.ok.has x (.inl hk)
    obtain ⟨w', z⟩ := I.cell x c hc
    refine wpAny_storeName_cell I.ok.kind hk hc z (fun h' hc' hs => ?_)
    obtain ⟨oc, hoc, hocd⟩ := id z
    refine h { s with heap := h' } ⟨I.ok, I.os, I.bare, ⟨fun b o e n hb hx => ?_, fun b o e n hb hx => ?_, I.base.free, fun b o e hx => ?_, I.base.tups, I.base.frzs, I.base.tbls⟩, ⟨m, hn.sameBut hs (Ne.symm (cne x c hc)), fun j y v' e1 e2 e3 => ?_⟩, fun y c' e => ?_, I.free, I.freeC, fun p hp => ?_, tracked ⟨oc, hoc, I.freeC x c hc⟩ hs, by simpa using I.len⟩ ⟨c, hs, .inr hc⟩
    · exact (hs.2 b (Nat.ne_of_lt (Nat.lt_of_lt_of_le (Heap.lt_size e) (I.ok.cab x c hfn hc)))).trans (I.base.keep b o e n hb hx)
    · obtain ⟨sl, e1⟩ := I.base.slot b o e n hb hx
      exact ⟨sl, (hs.2 b (Nat.ne_of_lt (Nat.lt_of_lt_of_le (Heap.lt_size e) (I.ok.cab x c hfn hc)))).trans e1⟩
    · obtain ⟨o', e1⟩ := I.base.there b o e hx
      exact ⟨o', (hs.2 b (Nat.ne_of_lt (Nat.lt_of_lt_of_le (Heap.lt_size e) (I.ok.cab x c hfn hc)))).trans e1⟩
    · by_cases hj : j = i
      · subst hj
        rw [hi] at e1; cases e1
        rw [List.getElem?_set_self hiσ] at e2
        cases e2
        exact ⟨u, r, .inr ⟨.inl hk, c, hc, hc'⟩⟩
      · rw [List.getElem?_set_ne (Ne.symm hj)] at e2
        obtain ⟨u', r', q⟩ := hl j y v' e1 e2 e3
        refine ⟨u', r', ?_⟩
        rcases q with q | ⟨k, c', e, z'⟩
        · exact .inl q
        · refine .inr ⟨k, c', e, z'.sameBut hs ?_⟩
          rintro rfl
          exact hj (nodup_ix hN e1 (I.ok.inj _ _ _ e hc ▸ hi))
    · by_cases hcc : c' = c
      · subst hcc; exact ⟨_, hc'⟩
      · obtain ⟨w2, z2⟩ := I.cell y c' e
        exact ⟨w2, z2.sameBut hs hcc⟩
    · obtain ⟨e, n, ne, nf, d⟩ := I.pin p hp
      refine ⟨(hs.2 p.1 ?_).trans e, n, ne, nf, d⟩
      intro q
      rw [q, hoc] at e
      have q' : oc = p.2 := Option.some.inj e
      exact d w' (by rw [← q']; exact hocd)
theorem store_ok {M : Model} {A : Around} {E : Value → Shared → Prop} {i : Nat} {x : Str} {v : V} {u : Value} {Q : Unit → Shared → Prop} (I : Inv X pins σ H s) (hN : X.N.Nodup) (hi : X.N[i]? = some x) (hx : Loc X.env.scope x) (r : RelV v u)
    (h : ∀ s', Inv X pins (σ.set i (some v)) H s' → Q () s') (hf : X.fn x = true ∨ X.env.scope.names.lookup x = some .local := by first | exact .inl rfl | exact .inr rfl | assumption) : wpAny M A (storeName X.env x u) Q E s :=
  store_ok2 I hN hi hx r (fun s' I' _ => h s' I') hf
theorem Inv.call' {s' : Shared} {ch : List Addr} (I : Inv X pins σ H s) (ho : s'.os = s.os) (u : Un (frs X.stack) ch H H' s.heap s'.heap) (hok : HOk X.prog X.w H' s'.heap) (hg : AllBare s'.gens)
    (hch : ∀ b ∈ ch, (b ∈ X.ex ∨ X.s₀.heap.objs.size ≤ b) ∧ b ≠ X.env.locals ∧ (∀ x c, X.env.cells.lookup x = some c → c ≠ b) ∧ ∀ p ∈ X.pn ++ pins, p.1 ≠ b) : Inv X pins σ H' s' := by
  obtain ⟨h', g', d', t', o'⟩ := s'
  have e : o' = s.os := ho
  subst e
  exact I.call (g' := g') (t' := t') (d' := d') u hok hg hch
end
abbrev XK := Value → Option Addr → Hp → Prop
abbrev St := List (Option V)
abbrev VK := V → Hp → Prop
abbrev TE := St → Hp → VK → Prop
abbrev TT := St → Hp → (Bool → Hp → Prop) → Prop
abbrev TA := St → Hp → (List V → Hp → Prop) → Prop
structure Ends where
  nx : St → Hp → Prop
  rt : VK
  bk : St → Hp → Prop := fun _ _ => False
  ct : St → Hp → Prop := fun _ _ => False
abbrev TS := Ends → St → Hp → Prop
def EP (X : Cx) (pins : List (Addr × Obj)) (σ : St) (Q : VK) (u : Value) (s' : Shared) : Prop := ∃ v H', Inv X pins σ H' s' ∧ RelV v u ∧ Q v H'
def TP (X : Cx) (pins : List (Addr × Obj)) (σ : St) (Q : Bool → Hp → Prop) (b : Bool) (s' : Shared) : Prop := ∃ H', Inv X pins σ H' s' ∧ Q b H'
def AP (X : Cx) (pins : List (Addr × Obj)) (σ : St) (Q : List V → Hp → Prop) (us : List Value) (s' : Shared) : Prop := ∃ vs H', Inv X pins σ H' s' ∧ Vals vs us ∧ Q vs H'
def SP (X : Cx) (pins : List (Addr × Obj)) (D : Ends) (f : Flow) (s' : Shared) : Prop :=
  match f with
  | .next => ∃ σ' H', Inv X pins σ' H' s' ∧ D.nx σ' H'
  | .brk => ∃ σ' H', Inv X pins σ' H' s' ∧ D.bk σ' H'
  | .cont => ∃ σ' H', Inv X pins σ' H' s' ∧ D.ct σ' H'
  | .ret u => ∃ v σ' H', Inv X pins σ' H' s' ∧ RelV v u ∧ D.rt v H'
def PE (X : Cx) (e : Expr) (t : TE) : Prop :=
  ∀ (pins : List (Addr × Obj)) (s : Shared) (σ : St) (H : Hp) (Q : VK), Inv X pins σ H s → t σ H Q → wpAny (model X.prog X.w) X.A (eval e X.env) (EP X pins σ Q) X.xe s
def PT (X : Cx) (e : Expr) (t : TT) : Prop :=
  ∀ (pins : List (Addr × Obj)) (s : Shared) (σ : St) (H : Hp) (Q : Bool → Hp → Prop), Inv X pins σ H s → t σ H Q → wpAny (model X.prog X.w) X.A (isTrue e X.env (eval e X.env)) (TP X pins σ Q) X.xe s
def PW (X : Cx) (e : Expr) (t : TT) : Prop :=
  ∀ (whole : Sem Value) (pins : List (Addr × Obj)) (s : Shared) (σ : St) (H : Hp) (Q : Bool → Hp → Prop), Inv X pins σ H s → t σ H Q → wpAny (model X.prog X.w) X.A (isTrue e X.env whole) (TP X pins σ Q) X.xe s
theorem PW.pt {X : Cx} {e : Expr} {t : TT} (h : PW X e t) : PT X e t := h _
def PA (X : Cx) (es : List Expr) (t : TA) : Prop :=
  ∀ (pos : Pos) (pins : List (Addr × Obj)) (s : Shared) (σ : St) (H : Hp) (Q : List V → Hp → Prop), Inv X pins σ H s → t σ H Q → wpAny (model X.prog X.w) X.A (spliced (backTo pos (starEach es X.env))) (AP X pins σ Q) X.xe s
def PS (X : Cx) (st : Stmt) (t : TS) : Prop :=
  ∀ (pins : List (Addr × Obj)) (s : Shared) (σ : St) (H : Hp) (D : Ends), Inv X pins σ H s → t D σ H → wpAny (model X.prog X.w) X.A (exec st X.env) (SP X pins D) X.xe s
def PSs (X : Cx) (st : List Stmt) (t : TS) : Prop :=
  ∀ (pins : List (Addr × Obj)) (s : Shared) (σ : St) (H : Hp) (D : Ends), Inv X pins σ H s → t D σ H → wpAny (model X.prog X.w) X.A (execs st X.env) (SP X pins D) X.xe s
theorem thn {α : Type} {t : Sem α} {Q Q' : α → Shared → Prop} {M : Model} {A : Around} {E : Value → Shared → Prop} {s : Shared} (h : wpAny M A t Q E s) (hQ : ∀ a s, Q a s → Q' a s) : wpAny M A t Q' E s := wpAny_mono h hQ fun _ _ x => x
end L2
namespace L2
open PySem PySem.Spec PyProof.Rows
section
variable {X : Cx}
def tVar (i : Nat) : TE := fun σ H Q => ∃ v, σ[i]? = some (some v) ∧ Q v H
def tC (v : V) : TE := fun _ H Q => Q v H
theorem pe_var {i : Nat} {x : Str} {pos : Pos} (hN : X.N[i]? = some x) (hv : Vis X.env.scope x) (hd : (x == ("__debug__" : Str)) = false := by decide) (hcd : (x == ("__classdict__" : Str)) = false := by decide) : PE X (.Name x pos) (tVar i) := by
  intro pins s σ H Q I h
  obtain ⟨v, e, h⟩ := h
  obtain ⟨m, hn, hl⟩ := I.loc
  obtain ⟨u, r, l⟩ := hl i x v hN e hv
  have fin : EP X pins σ Q u s := ⟨v, H, I, r, h⟩
  rcases l with ⟨hk, hm⟩ | ⟨hk, c, hc, hcell⟩
  · exact wpAny_Name (wpAny_loadName_local I.ok.kind hk hn hm fin) hd
  · rcases hk with hk | hk
    · exact wpAny_Name (wpAny_loadName_cell I.ok.kind hk hc hcell fin) hd
    · exact wpAny_Name (wpAny_loadName_free I.ok.kind hk hc hcell fin hcd) hd
theorem pe_int {i j pos} : PE X (.Constant (.int i) j pos) (tC (.int i)) := fun _ _ _ H _ I h => wpAny_Constant_int ⟨.int i, H, I.tok _, ⟨_, rfl⟩, h⟩
theorem pe_bl {b j pos} : PE X (.Constant (.bool b) j pos) (tC (.bl b)) := fun _ _ _ H _ I h => Constant_bool ⟨.bl b, H, I, rfl, h⟩
theorem pe_non {j pos} : PE X (.Constant .none j pos) (tC .non) := fun _ _ _ H _ I h => Constant_none ⟨.non, H, I, rfl, h⟩
theorem pe_str {x j pos} : PE X (.Constant (.str x) j pos) (tC (.str x)) := fun _ _ _ H _ I h => Calls.Constant_str ⟨.str x, H, I.tok _, ⟨_, rfl⟩, h⟩
def Gl (X : Cx) (x : Str) : Prop := X.env.kindOf x = some .globalImplicit
theorem ld_glob {E : Value → Shared → Prop} {pins : List (Addr × Obj)} {s : Shared} {σ : St} {H : Hp} {x : Str} {u : Value} {pos : Pos} {Q : Value → Shared → Prop} (I : Inv X pins σ H s) (hg : Gl X x) (hm : X.mg x = some u) (h : Q u s)
    (hd : (x == ("__debug__" : Str)) = false := by decide) : wpAny (model X.prog X.w) X.A (eval (.Name x pos) X.env) Q E s :=
  Calls.Name_function_global I.ok.kind hg (Calls.loadGlobal_global (by rw [I.ok.glob]; exact I.mod.glob.keeps I.bk) hm h) hd
theorem ld_blt {E : Value → Shared → Prop} {pins : List (Addr × Obj)} {s : Shared} {σ : St} {H : Hp} {x : Str} {u : Value} {pos : Pos} {Q : Value → Shared → Prop} (I : Inv X pins σ H s) (hg : Gl X x) (hm : X.mg x = none) (hv : bootBuiltins x = some u) (h : Q u s)
    (hn : x ≠ "__name__" := by decide) (hd : (x == ("__debug__" : Str)) = false := by decide) : wpAny (model X.prog X.w) X.A (eval (.Name x pos) X.env) Q E s := by
  obtain ⟨mb, h1, h2⟩ := I.mod.blt
  exact Calls.Name_function_global I.ok.kind hg (Calls.loadGlobal_builtin (by rw [I.ok.glob]; exact I.mod.glob.keeps I.bk) hm (by rw [I.ok.blt]; exact h1.keeps I.bk) ((h2 x hn).trans hv) h) hd
theorem pe_glob {x : Str} {v : V} {u : Value} {pos : Pos} (hg : Gl X x) (hm : X.mg x = some u) (r : RelV v u) (hd : (x == ("__debug__" : Str)) = false := by decide) : PE X (.Name x pos) (tC v) :=
  fun _ _ _ H _ I h => ld_glob I hg hm ⟨v, H, I, r, h⟩ hd
theorem pe_bltn {x : Str} {v : V} {u : Value} {pos : Pos} (hg : Gl X x) (hm : X.mg x = none) (hv : bootBuiltins x = some u) (r : RelV v u) (hn : x ≠ "__name__" := by decide) (hd : (x == ("__debug__" : Str)) = false := by decide) : PE X (.Name x pos) (tC v) :=
  fun _ _ _ H _ I h => ld_blt I hg hm hv ⟨v, H, I, r, h⟩ hn hd
def t2I (ta tb : TE) (k : Int → Int → Hp → Prop) : St → Hp → Prop := fun σ H => ta σ H fun x H1 => tb σ H1 fun y H2 => ∃ i j, x = .int i ∧ y = .int j ∧ k i j H2
variable {a b : Expr} {ta tb : TE} {pos : Pos}
def PC (X : Cx) (op : CmpOp) (a b : Expr) (t : TE) : Prop :=
  ∀ (pins : List (Addr × Obj)) (s : Shared) (σ : St) (H : Hp) (Q : VK), Inv X pins σ H s → t σ H Q →
    wpAny (model X.prog X.w) X.A (eval a X.env) (fun v s₁ => wpAny (model X.prog X.w) X.A (eval b X.env) (fun u s₂ => wpAny (model X.prog X.w) X.A (compareOp op v u) (EP X pins σ Q) X.xe s₂) X.xe s₁) X.xe s
def tCmp (p : Int → Int → Bool) (ta tb : TE) : TE := fun σ H Q => t2I ta tb (fun i j H2 => Q (.bl (p i j)) H2) σ H
abbrev tLt : TE → TE → TE := tCmp fun i j => decide (i < j)
abbrev tLe : TE → TE → TE := tCmp fun i j => decide (i ≤ j)
abbrev tGt : TE → TE → TE := tCmp fun i j => decide (j < i)
abbrev tGe : TE → TE → TE := tCmp fun i j => decide (j ≤ i)
abbrev tEqI : TE → TE → TE := tCmp fun i j => decide (i = j)
abbrev tNeI : TE → TE → TE := tCmp fun i j => !decide (i = j)
def tB (t : TE) : TT := fun σ H Q => t σ H fun x H1 => ∃ c, x = .bl c ∧ Q c H1
theorem pt_cmp {op : CmpOp} {t : TE} (h : PC X op a b t) (h1 : behindInMarks op b = false := by first | exact nobehind _ (by decide) (by decide) | rfl) : PT X (.Compare a [op] [b] pos) (tB t) := by
  intro pins s σ H Q I hw
  refine wpAny_isTrue_Compare1 (thn (h pins s σ H _ I hw) fun v s1 h1 => thn h1 fun u s2 h2 => thn h2 fun c s3 ⟨x, H1, I1, r1, q1⟩ => ?_) h1
  obtain ⟨d, rfl, q⟩ := q1
  cases r1
  exact wpAny_truthy_bool ⟨H1, I1, q⟩
theorem pt_val {e : Expr} {t : TE} (h : PE X e t) (he : ∀ whole, isTrue e X.env whole = (do let v ← whole; standAt e.pos; holding [v] (truthy v)) := by intro _; rfl) : PT X e (tB t) := by
  intro pins s σ H Q I hw
  refine isTrue_plain (thn (h pins s σ H _ I hw) fun v s1 ⟨x, H1, I1, r1, q1⟩ => ?_) (he _)
  obtain ⟨d, rfl, q⟩ := q1
  cases r1
  exact wpAny_truthy_bool ⟨H1, I1, q⟩
variable {tA tB' : TT} {rest : List Expr}
def tAnd (t u : TT) : TT := fun σ H Q => t σ H fun c H1 => if c = true then u σ H1 Q else Q false H1
def tOr (t u : TT) : TT := fun σ H Q => t σ H fun c H1 => if c = true then Q true H1 else u σ H1 Q
def tNot (t : TT) : TT := fun σ H Q => t σ H fun c H1 => Q (!c) H1
theorem pw_and1 (ha : PT X a tA) : PW X (.BoolOp .And [a] pos) tA := by
  intro wh pins s σ H Q I h
  refine isTrue_and (thn (ha pins s σ H Q I h) fun c s1 e => ?_)
  cases c with
  | true => exact isTrue_and_nil e
  | false => exact e
theorem pw_or1 (ha : PT X a tA) : PW X (.BoolOp .Or [a] pos) tA := by
  intro wh pins s σ H Q I h
  refine isTrue_or (thn (ha pins s σ H Q I h) fun c s1 e => ?_)
  cases c with
  | false => exact isTrue_or_nil e
  | true => exact e
theorem pw_and (ha : PT X a tA) (hb : PW X (.BoolOp .And (b :: rest) pos) tB') : PW X (.BoolOp .And (a :: b :: rest) pos) (tAnd tA tB') := by
  intro wh pins s σ H Q I h
  refine isTrue_and (thn (ha pins s σ H _ I h) fun c s1 ⟨H1, I1, q1⟩ => ?_)
  cases c with
  | true => exact hb wh pins s1 σ H1 Q I1 q1
  | false => exact ⟨H1, I1, q1⟩
theorem pw_or (ha : PT X a tA) (hb : PW X (.BoolOp .Or (b :: rest) pos) tB') : PW X (.BoolOp .Or (a :: b :: rest) pos) (tOr tA tB') := by
  intro wh pins s σ H Q I h
  refine isTrue_or (thn (ha pins s σ H _ I h) fun c s1 ⟨H1, I1, q1⟩ => ?_)
  cases c with
  | true => exact ⟨H1, I1, q1⟩
  | false => exact hb wh pins s1 σ H1 Q I1 q1
theorem pt_not (ha : PT X a tA) : PT X (.UnaryOp .Not a pos) (tNot tA) := by
  intro pins s σ H Q I h
  exact isTrue_not (ha pins s σ H (fun c H1 => Q (!c) H1) I h)
def tAndV (ta tb : TE) : TE := fun σ H Q => ta σ H fun x H1 => ∃ c, x = .bl c ∧ if c = true then tb σ H1 Q else Q (.bl false) H1
def tNotV (ta : TE) : TE := fun σ H Q => ta σ H fun x H1 => ∃ c, x = .bl c ∧ Q (.bl (!c)) H1
theorem pe_one {op} {t : TE} (h : PE X a t) : PE X (.BoolOp op [a] pos) t := fun pins s σ H Q I hw => BoolOp_one (h pins s σ H Q I hw)
theorem pe_and (ha : PE X a ta) (hb : PE X (.BoolOp .And (b :: rest) pos) tb) : PE X (.BoolOp .And (a :: b :: rest) pos) (tAndV ta tb) := by
  intro pins s σ H Q I h
  refine BoolOp_and (thn (ha pins s σ H _ I h) fun v s1 ⟨x, H1, I1, r1, q1⟩ => ?_)
  obtain ⟨c, rfl, q1⟩ := q1
  cases r1
  refine wpAny_truthy_bool ?_
  cases c with
  | true => exact hb pins s1 σ H1 Q I1 q1
  | false => exact ⟨.bl false, H1, I1, rfl, q1⟩
theorem pe_not (ha : PE X a ta) : PE X (.UnaryOp .Not a pos) (tNotV ta) := by
  intro pins s σ H Q I h
  refine UnaryOp_ (thn (ha pins s σ H _ I h) fun v s1 ⟨x, H1, I1, r1, q1⟩ => ?_)
  obtain ⟨c, rfl, q1⟩ := q1
  cases r1
  exact not_of (wpAny_truthy_bool ⟨.bl (!c), H1, I1, rfl, q1⟩)
def tIf (t : TT) (ta tb : TE) : TE := fun σ H Q => t σ H fun c H1 => if c = true then ta σ H1 Q else tb σ H1 Q
theorem pe_ifExp {c : Expr} (hc : PT X c tA) (ha : PE X a ta) (hb : PE X b tb) : PE X (.IfExp c a b pos) (tIf tA ta tb) := by
  intro pins s σ H Q I h
  refine wpAny_IfExp (thn (hc pins s σ H _ I h) fun d s1 ⟨H1, I1, q1⟩ => ?_)
  cases d with
  | true => exact ha pins s1 σ H1 Q I1 q1
  | false => exact hb pins s1 σ H1 Q I1 q1
end
end L2
namespace L2
open PySem PySem.Spec PyProof.Rows
def SqL (K : PySem.W.Frag) (H : Hp) (a : Addr) (xs : List V) : Prop :=
  Rd H a (.lst xs) ∨
    ∃ (o : Obj) (its : Array Value) (n : Nat), K.lookup a = some o ∧ o.cls = .type "list" ∧ o.dict = none ∧ o.data = .seq its n ∧ its.size ≤ sizeLine ∧ Vals xs its.toList
def SqT (K : PySem.W.Frag) (H : Hp) (a : Addr) (xs : List V) : Prop :=
  Rd H a (.tup xs) ∨
    ∃ (o : Obj) (its : Array Value) (n : Nat), K.lookup a = some o ∧ o.cls = .type "tuple" ∧ o.data = .seq its n ∧ its.size ≤ sizeLine ∧ Vals xs its.toList
def absV : Value → Option V
  | .none => some .non
  | .bool b => some (.bl b)
  | .int i _ => some (.int i)
  | .str x _ => some (.str x)
  | .bytes b _ => some (.byt b)
  | .float b _ => some (.flt b)
  | .ref a => some (.ref a)
  | .type n => some (.ty n)
  | _ => none
theorem RelV.abs {x : V} {u : Value} (r : RelV x u) : absV u = some x := by
  cases x with
  | non => cases r; rfl
  | bl _ => cases r; rfl
  | int _ => obtain ⟨t, rfl⟩ := r; rfl
  | str _ => obtain ⟨t, rfl⟩ := r; rfl
  | byt _ => obtain ⟨t, rfl⟩ := r; rfl
  | flt _ => obtain ⟨t, rfl⟩ := r; rfl
  | ref _ => cases r; rfl
  | ty _ => cases r; rfl
theorem RelV.inj {x y : V} {u : Value} (r : RelV x u) (q : RelV y u) : x = y := Option.some.inj (r.abs.symm.trans q.abs)
theorem Vals.inj : ∀ {xs ys : List V} {us : List Value}, Vals xs us → Vals ys us → xs = ys
  | _, _, _, .nil, .nil => rfl
  | _, _, _, .cons r t, .cons r' t' => by rw [r.inj r', Vals.inj t t']
section
variable {X : Cx} {pins : List (Addr × Obj)} {σ : St} {H : Hp} {s : Shared} {a : Addr} {xs ys : List V}
theorem SqL.of {K : PySem.W.Frag} (h : H a = some (.lst xs)) : SqL K H a xs := .inl (.inl h)
theorem SqT.of {K : PySem.W.Frag} (h : H a = some (.tup xs)) : SqT K H a xs := .inl (.inl h)
theorem Inv.list (I : Inv X pins σ H s) (h : SqL X.K H a xs) : ∃ its : List Value, Vals xs its ∧ PlainL s.heap a its.toArray ∧ xs.length ≤ sizeLine := by
  rcases h with h | ⟨o, its, n, hk, hc, hd, hs, hz, r⟩
  · obtain ⟨z, its, n, r, e⟩ := h.ok I.hok
    exact ⟨its, r, ⟨_, n, e, rfl, rfl, rfl⟩, z⟩
  · refine ⟨its.toList, r, ⟨o, n, I.kIn a o hk, hc, hd, by simpa using hs⟩, ?_⟩
    have e := r.length
    simp only [Array.length_toList] at e
    omega
theorem Inv.tuple (I : Inv X pins σ H s) (h : SqT X.K H a xs) : ∃ its : List Value, Vals xs its ∧ IsTup s.heap a its.toArray ∧ xs.length ≤ sizeLine := by
  rcases h with h | ⟨o, its, n, hk, hc, hs, hz, r⟩
  · obtain ⟨z, its, r, p⟩ := h.ok I.hok
    exact ⟨its, r, p, z⟩
  · refine ⟨its.toList, r, ⟨o, I.kIn a o hk, hc, n, by simpa using hs⟩, ?_⟩
    have e := r.length
    simp only [Array.length_toList] at e
    omega
theorem Inv.list_inj (I : Inv X pins σ H s) (h : SqL X.K H a xs) (h' : SqL X.K H a ys) : xs = ys := by
  obtain ⟨its, r, ⟨o, n, e, _, _, d⟩, _⟩ := I.list h
  obtain ⟨its', r', ⟨o', n', e', _, _, d'⟩, _⟩ := I.list h'
  rw [e] at e'; cases e'
  rw [d] at d'
  injection d' with d1 _
  have : its = its' := by simpa using congrArg Array.toList d1
  subst this
  exact r.inj r'
end
abbrev Cx.wish (X : Cx) (E : Value → Shared → Prop) : Cx := { X with xe := E }
abbrev Cx.nox (X : Cx) : Cx := X.wish fun _ _ => False
theorem Cx.Ok.wish {X : Cx} (ok : X.Ok) (E : Value → Shared → Prop) : (X.wish E).Ok :=
  ⟨ok.mod, ok.kind, ok.glob, ok.blt, ok.above, ok.inj, ok.has, ok.cab, ok.hd, ok.frames, ok.stk, ok.exf, ok.bs, ok.bsz, ok.noex, ok.exfs, ok.funs, ok.frf⟩
theorem Cx.Ok.unwish {X : Cx} {E : Value → Shared → Prop} (ok : (X.wish E).Ok) : X.Ok :=
  ⟨ok.mod, ok.kind, ok.glob, ok.blt, ok.above, ok.inj, ok.has, ok.cab, ok.hd, ok.frames, ok.stk, ok.exf, ok.bs, ok.bsz, ok.noex, ok.exfs, ok.funs, ok.frf⟩
section
variable {X : Cx} {pins : List (Addr × Obj)} {σ : St} {H : Hp} {s : Shared} {E : Value → Shared → Prop}
theorem Inv.wish (I : Inv X pins σ H s) (E : Value → Shared → Prop) : Inv (X.wish E) pins σ H s := ⟨I.ok.wish E, I.os, I.bare, I.base, I.loc, I.cell, I.free, I.freeC, I.pin, I.hok, I.len⟩
theorem Inv.unwish (I : Inv (X.wish E) pins σ H s) : Inv X pins σ H s := ⟨I.ok.unwish, I.os, I.bare, I.base, I.loc, I.cell, I.free, I.freeC, I.pin, I.hok, I.len⟩
theorem SP.unwish {D : Ends} {f : Flow} {s' : Shared} (h : SP (X.wish E) pins D f s') : SP X pins D f s' := by
  cases f with
  | next => obtain ⟨σ', H', I, q⟩ := h; exact ⟨σ', H', I.unwish, q⟩
  | brk => obtain ⟨σ', H', I, q⟩ := h; exact ⟨σ', H', I.unwish, q⟩
  | cont => obtain ⟨σ', H', I, q⟩ := h; exact ⟨σ', H', I.unwish, q⟩
  | ret u => obtain ⟨v, σ', H', I, r, q⟩ := h; exact ⟨v, σ', H', I.unwish, r, q⟩
theorem PSs.nox {st : List Stmt} {t : TS} (h : PSs X.nox st t) : PSs X st t := fun pins s σ H D I hw =>
  wpAny_mono (h pins s σ H D (I.wish _) hw) (fun _ _ q => q.unwish) fun _ _ z => False.elim z
end
section
variable {X : Cx} {st : Stmt} {rest : List Stmt} {t u : TS} {e : Expr} {te : TE} {pos : Pos}
def tNext : TS := fun D σ H => D.nx σ H
def tSeq (t u : TS) : TS := fun D σ H => t { D with nx := u D } σ H
theorem pss_nil : PSs X [] tNext := fun _ _ σ H _ I h => wpAny_execs_nil ⟨σ, H, I, h⟩
theorem pss_cons (h1 : PS X st t) (h2 : PSs X rest u) : PSs X (st :: rest) (tSeq t u) := by
  intro pins s σ H D I h
  refine wpAny_execs_cons (thn (h1 pins s σ H { D with nx := u D } I h) fun f s1 q => ?_)
  cases f with
  | next =>
    obtain ⟨σ', H', I', q⟩ := q
    exact h2 pins s1 σ' H' D I' q
  | ret v => exact q
  | brk => exact q
  | cont => exact q
theorem pss_one (h1 : PS X st t) : PSs X [st] t := by
  intro pins s σ H D I h
  refine wpAny_execs_cons (thn (h1 pins s σ H D I h) fun f s1 q => ?_)
  cases f with
  | next => exact wpAny_execs_nil q
  | ret v => exact q
  | brk => exact q
  | cont => exact q
def tCont : TS := fun D σ H => D.ct σ H
theorem ps_continue : PS X (.Continue pos) tCont := fun _ _ σ H _ I h => wpAny_Continue ⟨σ, H, I, h⟩
theorem Inv.quiet {pins : List (Addr × Obj)} {σ : St} {H : Hp} {s : Shared} (I : Inv X pins σ H s) : interactive X.env = false := by simp [interactive, I.ok.kind]
def tDrop (te : TE) : TS := fun D σ H => te σ H fun _ H1 => D.nx σ H1
theorem ps_expr (he : PE X e te) (hs : swapsWith e none pos.line X.env = pure false := by rfl) : PS X (.Expr e pos) (tDrop te) := by
  intro pins s σ H D I h
  exact wpAny_Expr_any (thn (he pins s σ H _ I h) fun v s1 ⟨x, H1, I1, r1, q1⟩ => ⟨σ, H1, I1, q1⟩) I.quiet hs
def tRet (te : TE) : TS := fun D σ H => te σ H D.rt
theorem ps_ret (he : PE X e te) : PS X (.Return (some e) pos) (tRet te) := by
  intro pins s σ H D I h
  exact wpAny_Return_some (thn (he pins s σ H _ I h) fun v s1 ⟨x, H1, I1, r1, q1⟩ => ⟨x, σ, H1, I1, r1, q1⟩)
def tIfS (c : TT) (t u : TS) : TS := fun D σ H => c σ H fun b H1 => if b = true then t D σ H1 else u D σ H1
theorem ps_if {c : Expr} {a b : List Stmt} {tc : TT} (hc : PT X c tc) (ha : PSs X a t) (hb : PSs X b u) : PS X (.If c a b pos) (tIfS tc t u) := by
  intro pins s σ H D I h
  refine wpAny_If (thn (hc pins s σ H _ I h) fun d s1 ⟨H1, I1, q1⟩ => ?_)
  cases d with
  | true => exact ha pins s1 σ H1 D I1 q1
  | false => exact hb pins s1 σ H1 D I1 q1
end
abbrev TG := V → St → Hp → (St → Hp → Prop) → Prop
abbrev TGs := List V → St → Hp → (St → Hp → Prop) → Prop
def PG (X : Cx) (target : Expr) (t : TG) : Prop :=
  ∀ (pins : List (Addr × Obj)) (s : Shared) (σ : St) (H : Hp) (v : V) (u : Value) (Q : St → Hp → Prop), Inv X pins σ H s → RelV v u → t v σ H Q →
    wpAny (model X.prog X.w) X.A (assign target X.env u) (fun _ s' => ∃ σ' H', Inv X pins σ' H' s' ∧ Q σ' H') X.xe s
def PGs (X : Cx) (ts : List Expr) (t : TGs) : Prop :=
  ∀ (pins : List (Addr × Obj)) (s : Shared) (σ : St) (H : Hp) (vs : List V) (us : List Value) (Q : St → Hp → Prop), Inv X pins σ H s → Vals vs us → t vs σ H Q →
    wpAny (model X.prog X.w) X.A (assignInOrder ((assignEach ts X.env).map (·.2)) us) (fun _ s' => ∃ σ' H', Inv X pins σ' H' s' ∧ Q σ' H') X.xe s
abbrev TSet := V → V → V → Hp → (Hp → Prop) → Prop
def PSet (X : Cx) (t : TSet) : Prop :=
  ∀ (pins : List (Addr × Obj)) (s : Shared) (σ : St) (H : Hp) (o i v : V) (ov iv u : Value) (Q : Hp → Prop), Inv X pins σ H s → RelV o ov → RelV i iv → RelV v u → t o i v H Q →
    wpAny (model X.prog X.w) X.A (setItem ov iv u) (fun _ s' => ∃ H', Inv X pins σ H' s' ∧ Q H') X.xe s
abbrev TIp := V → V → Hp → VK → Prop
def PIp (X : Cx) (op : Operator) (t : TIp) : Prop :=
  ∀ (pins : List (Addr × Obj)) (s : Shared) (σ : St) (H : Hp) (x y : V) (v u : Value) (Q : VK), Inv X pins σ H s → RelV x v → RelV y u → t x y H Q →
    wpAny (model X.prog X.w) X.A (inplaceOp op v u) (EP X pins σ Q) X.xe s
section
variable {X : Cx} {pos : Pos}
def gName (i : Nat) : TG := fun v σ H Q => Q (σ.set i (some v)) H
theorem pg_name {i : Nat} {x : Str} (hN : X.N.Nodup) (hi : X.N[i]? = some x) (hx : Loc X.env.scope x) (hf : X.fn x = true ∨ X.env.scope.names.lookup x = some .local := by first | exact .inl rfl | exact .inr rfl | assumption) : PG X (.Name x pos) (gName i) := by
  intro pins s σ H v u Q I r h
  exact wpAny_assign_Name (store_ok I hN hi hx r (fun s' I' => ⟨_, H, I', h⟩) hf)
def gNil : TGs := fun vs σ H Q => vs = [] ∧ Q σ H
def gCons (t : TG) (u : TGs) : TGs := fun vs σ H Q => ∃ v r, vs = v :: r ∧ t v σ H fun σ' H' => u r σ' H' Q
theorem pgs_nil : PGs X [] gNil := by
  intro pins s σ H vs us Q I r h
  obtain ⟨e, h⟩ := h
  subst e
  cases r
  exact assignInOrder_nil ⟨σ, H, I, h⟩
theorem pgs_cons {e : Expr} {es : List Expr} {t : TG} {u : TGs} (h1 : PG X e t) (h2 : PGs X es u)
    (hs : (assignEach (e :: es) X.env).map (·.2) = assign e X.env :: (assignEach es X.env).map (·.2) := by rfl) : PGs X (e :: es) (gCons t u) := by
  intro pins s σ H vs us Q I r h
  obtain ⟨v, vr, e1, h⟩ := h
  subst e1
  cases r with
  | cons r rr =>
    rw [hs]
    refine assignInOrder_cons (thn (h1 pins s σ H _ _ _ I r h) fun _ s1 ⟨σ1, H1, I1, q1⟩ => ?_)
    exact h2 pins s1 σ1 H1 _ _ Q I1 rr q1
def gTup (K : PySem.W.Frag) (n : Nat) (t : TGs) : TG := fun v σ H Q => ∃ a xs, v = .ref a ∧ SqT K H a xs ∧ xs.length = n ∧ t xs σ H Q
theorem pg_tup {es : List Expr} {k : Nat} {t : TGs} {n : Nat} (hc : X.calm = true) (h : PGs X es t)
    (hn : (assignEach es X.env).length = n := by rfl) (hst : (assignEach es X.env).findIdx? (·.1) = none := by rfl) : PG X (.Tuple es k pos) (gTup X.K n t) := by
  intro pins s σ H v u Q I r hw
  obtain ⟨a, xs, e1, hq, hl, hw⟩ := hw
  subst e1
  cases r
  obtain ⟨its, rv, ht, hz⟩ := I.tuple hq
  refine assign_Tuple_tuple (I.ok.hd hc) ht (by simp [hn, ← hl, rv.length]) hst fun h' hx => ?_
  have I1 : Inv X pins σ H { s with heap := h' } := I.kept (t' := s.toks) fun b o e => hx b o (Nat.ne_of_lt (Heap.lt_size e)) e
  exact h pins _ σ H xs _ Q I1 (by simpa using rv) hw
def gSub (to ti : TE) (t : TSet) : TG := fun v σ H Q => to σ H fun o H1 => ti σ H1 fun i H2 => t o i v H2 fun H3 => Q σ H3
theorem pg_sub {o i : Expr} {to ti : TE} {t : TSet} (ho : PE X o to) (hi : PE X i ti) (hs : PSet X t)
    (ha : ∀ v, assign (.Subscript o i pos) X.env v = (do
      let ov ← holding [v] (eval o X.env)
      let iv ← holding [v, ov] (eval i X.env)
      standAt pos
      holding [v, ov, iv] (setItem ov iv v)
      release [v, ov, iv] []) := by intro _; rfl) : PG X (.Subscript o i pos) (gSub to ti t) := by
  intro pins s σ H v u Q I r h
  rw [ha]
  refine wpAny_bind (wpAny_holding (thn (ho pins s σ H _ I h) fun ov s1 ⟨x, H1, I1, r1, q1⟩ => ?_))
  refine wpAny_bind (wpAny_holding (thn (hi pins s1 σ H1 _ I1 q1) fun iv s2 ⟨y, H2, I2, r2, q2⟩ => ?_))
  refine wpAny_bind (wpAny_standAt (wpAny_bind (wpAny_holding (thn (hs pins s2 σ H2 x y v ov iv u _ I2 r1 r2 r q2) fun _ s3 ⟨H3, I3, q3⟩ => ?_))))
  exact wpAny_release ⟨σ, H3, I3, q3⟩
def tAsg (te : TE) (g : TG) : TS := fun D σ H => te σ H fun x H1 => g x σ H1 D.nx
theorem ps_asg {tg e : Expr} {te : TE} {g : TG} (he : PE X e te) (hg : PG X tg g) (hs : swapsWithSole [tg] e pos.line X.env = pure false := by rfl) (hw : swappedStores [tg] e X.env = pure none := by rfl)
    (h1 : (assignEach [tg] X.env).map (·.2) = [assign tg X.env] := by rfl) : PS X (.Assign [tg] e pos) (tAsg te g) := by
  intro pins s σ H D I h
  refine wpAny_Assign_stores (thn (he pins s σ H _ I h) fun v s1 ⟨x, H1, I1, r1, q1⟩ => ?_) hs hw
  rw [h1]
  exact thn (hg pins s1 σ H1 x v _ I1 r1 q1) fun _ s2 q => q
theorem ps_set {i : Nat} {x : Str} {e : Expr} {te : TE} {pos' : Pos} (hN : X.N.Nodup) (hi : X.N[i]? = some x) (hx : Loc X.env.scope x) (he : PE X e te) (hs : swapsWith e (some (.Name x pos')) pos.line X.env = pure false := by rfl) (hf : X.fn x = true ∨ X.env.scope.names.lookup x = some .local := by first | exact .inl rfl | exact .inr rfl | assumption) :
    PS X (.Assign [.Name x pos'] e pos) (tAsg te (gName i)) := by
  intro pins s σ H D I h
  refine wpAny_Assign_Name (thn (he pins s σ H _ I h) fun v s1 ⟨y, H1, I1, r1, q1⟩ => ?_) hs
  exact store_ok I1 hN hi hx r1 (fun s2 I2 => ⟨_, H1, I2, q1⟩) hf
def tAug (i : Nat) (te : TE) (ti : TIp) : TS := fun D σ H => ∃ x, σ[i]? = some (some x) ∧ te σ H fun y H1 => ti x y H1 fun z H2 => D.nx (σ.set i (some z)) H2
theorem ps_aug {i : Nat} {x : Str} {e : Expr} {te : TE} {op : Operator} {ti : TIp} {pos' : Pos} (hN : X.N.Nodup) (hi : X.N[i]? = some x) (hx : Loc X.env.scope x) (he : PE X e te) (ho : PIp X op ti) (hf : X.fn x = true ∨ X.env.scope.names.lookup x = some .local := by first | exact .inl rfl | exact .inr rfl | assumption) :
    PS X (.AugAssign (.Name x pos') op e pos) (tAug i te ti) := by
  intro pins s σ H D I h
  obtain ⟨v, e1, h⟩ := h
  obtain ⟨m, hn, hl⟩ := I.loc
  have vis : Vis X.env.scope x := by rcases hx with k | k; exact .inl k; exact .inr (.inl k)
  obtain ⟨u, r, l⟩ := hl i x v hi e1 vis
  refine wpAny_AugAssign_Name ?_
  have go : wpAny (model X.prog X.w) X.A (eval e X.env) (fun w s₂ => wpAny (model X.prog X.w) X.A (inplaceOp op u w) (fun r s₃ => wpAny (model X.prog X.w) X.A (storeName X.env x r) (fun _ => SP X pins D .next) X.xe s₃) X.xe s₂) X.xe s := by
    refine thn (he pins s σ H _ I h) fun w s1 ⟨y, H1, I1, r1, q1⟩ => ?_
    refine thn (ho pins s1 σ H1 v y u w _ I1 r r1 q1) fun z s2 ⟨zv, H2, I2, r2, q2⟩ => ?_
    exact store_ok I2 hN hi hx r2 (fun s3 I3 => ⟨_, H2, I3, q2⟩) hf
  rcases l with ⟨hk, hm⟩ | ⟨hk, c, hc, hcell⟩
  · exact wpAny_loadName_local I.ok.kind hk hn hm go
  · rcases hk with hk | hk
    · exact wpAny_loadName_cell I.ok.kind hk hc hcell go
    · rcases hx with k | k
      · have : X.env.scope.names.lookup x = some .free := hk
        rw [k] at this; cases this
      · have : X.env.scope.names.lookup x = some .free := hk
        rw [k] at this; cases this
def tAugS (to ti te : TE) (tget : V → V → Hp → VK → Prop) (tip : TIp) (tset : TSet) : TS := fun D σ H => to σ H fun o H1 => ti σ H1 fun i H2 => tget o i H2 fun x H3 => te σ H3 fun y H4 => tip x y H4 fun z H5 => tset o i z H5 fun H6 => D.nx σ H6
def PGet (X : Cx) (t : V → V → Hp → VK → Prop) : Prop :=
  ∀ (pins : List (Addr × Obj)) (s : Shared) (σ : St) (H : Hp) (o i : V) (ov iv : Value) (Q : VK), Inv X pins σ H s → RelV o ov → RelV i iv → t o i H Q →
    wpAny (model X.prog X.w) X.A (getItem ov iv) (EP X pins σ Q) X.xe s
theorem ps_augS {o i e : Expr} {to ti te : TE} {tget : V → V → Hp → VK → Prop} {tip : TIp} {tset : TSet} {op : Operator} {tpos : Pos} (ho : PE X o to) (hi : PE X i ti) (hg : PGet X tget) (he : PE X e te) (hp : PIp X op tip) (hs : PSet X tset)
    (ha : ∀ ov iv new, augStore i ov iv new = (do holding [new, ov, iv] (setItem ov iv new); release [new, ov, iv] []; pure .next) := by intros; rfl) : PS X (.AugAssign (.Subscript o i tpos) op e pos) (tAugS to ti te tget tip tset) := by
  intro pins s σ H D I h
  refine wpAny_AugAssign_SubscriptAny (thn (ho pins s σ H _ I h) fun ov s1 ⟨x1, H1, I1, r1, q1⟩ => ?_) ha
  refine thn (hi pins s1 σ H1 _ I1 q1) fun iv s2 ⟨x2, H2, I2, r2, q2⟩ => ?_
  refine thn (hg pins s2 σ H2 x1 x2 ov iv _ I2 r1 r2 q2) fun old s3 ⟨x3, H3, I3, r3, q3⟩ => ?_
  refine thn (he pins s3 σ H3 _ I3 q3) fun v s4 ⟨x4, H4, I4, r4, q4⟩ => ?_
  refine thn (hp pins s4 σ H4 x3 x4 old v _ I4 r3 r4 q4) fun new s5 ⟨x5, H5, I5, r5, q5⟩ => ?_
  exact thn (hs pins s5 σ H5 x1 x2 x5 ov iv new _ I5 r1 r2 r5 q5) fun _ s6 ⟨H6, I6, q6⟩ => ⟨σ, H6, I6, q6⟩
def ipI (f : Int → Int → Int) : TIp := fun x y H Q => ∃ i j, x = .int i ∧ y = .int j ∧ Q (.int (f i j)) H
theorem ip_sub : PIp X .Sub (ipI fun i j => i - j) := by
  intro pins s σ H x y v u Q I r1 r2 h
  obtain ⟨i, j, e1, e2, q⟩ := h
  subst e1; subst e2
  obtain ⟨t, rfl⟩ := r1
  obtain ⟨t', rfl⟩ := r2
  exact isub_int ⟨.int _, H, I.tok _, ⟨_, rfl⟩, q⟩
end
section
variable {X : Cx} {pos : Pos}
def tWhile (c : TT) (tb : TS) : TS := fun D σ H => ∃ W : Nat → St → Hp → Prop, (∃ m, W m σ H) ∧ ∀ m σ H, W m σ H →
  c σ H fun b H1 => if b = true then ∃ N : St → Hp → Prop, (∀ σ' H', N σ' H' → ∃ m', m' < m ∧ W m' σ' H') ∧ tb { D with nx := N, ct := N, bk := D.nx } σ H1 else D.nx σ H1
theorem ps_while {c : Expr} {body : List Stmt} {tc : TT} {tb : TS} (hp : PassesOwn (model X.prog X.w) X.A X.env X.xe) (hc : PT X c tc) (hb : PSs X body tb) : PS X (.While c body [] pos) (tWhile tc tb) := by
  intro pins s σ H D I h
  obtain ⟨W, ⟨m0, w0⟩, turn⟩ := h
  refine wpAny_While (codeAny_whileLoop (fun n s' => ∃ σ' H', Inv X pins σ' H' s' ∧ W n σ' H') ?_ m0 ⟨σ, H, I, w0⟩)
  rintro n s1 ⟨σ1, H1, I1, w1⟩
  refine wpAny_passesOwn hp (thn (hc pins s1 σ1 H1 _ I1 (turn n σ1 H1 w1)) fun b s2 ⟨H2, I2, q2⟩ => ?_)
  cases b with
  | true =>
    obtain ⟨N, hN, q2⟩ := q2
    rw [if_pos rfl]
    refine wpAny_passesOwn hp (thn (hb pins s2 σ1 H2 _ I2 q2) fun f s3 q3 => ?_)
    cases f with
    | next =>
      obtain ⟨σ3, H3, I3, n3⟩ := q3
      obtain ⟨m', hm, w3⟩ := hN σ3 H3 n3
      exact ⟨m', hm, σ3, H3, I3, w3⟩
    | cont =>
      obtain ⟨σ3, H3, I3, n3⟩ := q3
      obtain ⟨m', hm, w3⟩ := hN σ3 H3 n3
      exact ⟨m', hm, σ3, H3, I3, w3⟩
    | brk => exact q3
    | ret v => exact q3
  | false =>
    rw [if_neg Bool.false_ne_true]
    exact wpAny_execs_nil ⟨σ1, H2, I2, q2⟩
end
structure It where
  go : Nat → Hp → Prop
  yld : Nat → Hp → V → Hp → Prop
  stop : Nat → Hp → Prop
def FpOk (X : Cx) (pins : List (Addr × Obj)) (H : Hp) (b : Addr) : Prop :=
  H b = none ∧ b ≠ X.env.locals ∧ b ∉ X.fs ∧ (b ∈ X.ex ∨ X.s₀.heap.objs.size ≤ b) ∧ (∀ x c, X.env.cells.lookup x = some c → c ≠ b) ∧ ∀ p ∈ X.pn ++ pins, p.1 ≠ b
theorem Inv.fpOk {X : Cx} {pins : List (Addr × Obj)} {σ : St} {H H' : Hp} {s : Shared} {b : Addr} (I : Inv X pins σ H s) (hb : s.heap.objs.size ≤ b) (hn : H' b = none) : FpOk X pins H' b := by
  refine ⟨hn, Nat.ne_of_gt (Nat.lt_of_lt_of_le I.lt hb), I.nofs hb, .inr (Nat.le_trans I.sz hb), fun x c e z => ?_, fun p hp z => ?_⟩
  · obtain ⟨v, q⟩ := I.cell x c e
    exact absurd (Nat.lt_of_lt_of_le q.lt (by rw [z]; exact hb)) (Nat.lt_irrefl _)
  · exact absurd (Nat.lt_of_lt_of_le (Heap.lt_size (I.pin p hp).1) (by rw [z]; exact hb)) (Nat.lt_irrefl _)
structure Turn (P : Program) (w : World) (K : PySem.W.Frag) (tg : Expr) (J : It) (fp : List Addr) (it : Addr) (tn : Nat → Heap → Prop) : Prop where
  mem : it ∈ fp
  obj : ∀ i h, tn i h → ∀ b ∈ fp, ∃ o, h.get? b = some o ∧ ∀ v, o.data ≠ .cell v
  keep : ∀ i h h', tn i h → (∀ b ∈ fp, ∀ o, h.get? b = some o → h'.get? b = some o) → tn i h'
  item : ∀ (X : Cx), X.prog = P → X.w = w → X.K = K → X.calm = true → ∀ (i : Nat) (pins : List (Addr × Obj)) (s : Shared) (σ : St) (H : Hp) (E : Value → Shared → Prop), Inv X pins σ H s → (∀ b ∈ fp, FpOk X pins H b) → tn i s.heap → J.go i H →
    wpAny (model P w) X.A (pyNext (.ref it)) (fun r s1 => ∃ u, r = some u ∧
      wpAny (model P w) X.A (letOwnedTupleGo tg (.ref it) u) (fun _ s2 => ∃ x H', Inv X pins σ H' s2 ∧ RelV x u ∧ J.yld i H x H' ∧ tn (i + 1) s2.heap ∧ ∀ b ∈ fp, H' b = none) E s1) E s
  done : ∀ (X : Cx), X.prog = P → X.w = w → X.K = K → X.calm = true → ∀ (i : Nat) (pins : List (Addr × Obj)) (s : Shared) (σ : St) (H : Hp) (E : Value → Shared → Prop), Inv X pins σ H s → (∀ b ∈ fp, FpOk X pins H b) → tn i s.heap → J.stop i H →
    wpAny (model P w) X.A (pyNext (.ref it)) (fun r s1 => r = none ∧ Inv X pins σ H s1) E s
  self : ∀ (A : Around) (i : Nat) (s : Shared) (Q : Value → Shared → Prop) (E : Value → Shared → Prop), tn i s.heap → Q (.ref it) s → wpAny (model P w) A (pyIter (.ref it)) Q E s
abbrev TI := St → Hp → (It → Hp → Prop) → Prop
def PIE (X : Cx) (pins : List (Addr × Obj)) (σ : St) (tg : Expr) (R : It → Hp → Prop) (itv : Value) (s2 : Shared) : Prop :=
  ∃ (it : Addr) (fp : List Addr) (tn : Nat → Heap → Prop) (J : It) (H' : Hp), itv = .ref it ∧ Inv X pins σ H' s2 ∧ Turn X.prog X.w X.K tg J fp it tn ∧ tn 0 s2.heap ∧ (∀ b ∈ fp, FpOk X pins H' b) ∧ R J H'
def PI (X : Cx) (tg iter : Expr) (wi : TI) : Prop :=
  ∀ (pins : List (Addr × Obj)) (s : Shared) (σ : St) (H : Hp) (R : It → Hp → Prop), Inv X pins σ H s → wi σ H R →
    wpAny (model X.prog X.w) X.A (eval iter X.env) (fun v s1 => wpAny (model X.prog X.w) X.A (pyIter v) (PIE X pins σ tg R) X.xe s1) X.xe s
theorem go_of {M : Model} {A : Around} {E : Value → Shared → Prop} {s : Shared} {tg : Expr} {it : Addr} {u : Value} {o : Obj} {n : String} {vs : Array Value} {Q : Unit → Shared → Prop} (ho : s.heap.get? it = some o) (hc : o.cls = .type n) (hd : o.data = .fields vs)
    (hn : ["enumerate", "zip", "dict_itemiterator", "dict_reverseitemiterator", "odict_iterator", "itertools.zip_longest", "itertools.pairwise"].contains n = false) (hQ : Q () s) : wpAny M A (letOwnedTupleGo tg (.ref it) u) Q E s := by
  unfold letOwnedTupleGo
  cases tg <;> first
    | exact wpAny_pure hQ
    | (cases u <;> first
        | exact wpAny_pure hQ
        | (refine wpAny_bind (wpAny_load ho ?_)
           rw [hc, hd]
           show wpAny M A (if (["enumerate", "zip", "dict_itemiterator", "dict_reverseitemiterator", "odict_iterator", "itertools.zip_longest", "itertools.pairwise"].contains n && vs[0]? == some (rawInt _)) = true then _ else _) Q E s
           rw [if_neg (by intro h; rw [hn, Bool.false_and] at h; cases h)]
           exact wpAny_pure hQ))
def Itl (K : PySem.W.Frag) (a : Addr) : It :=
  ⟨fun i H => ∃ xs x, SqL K H a xs ∧ xs[i]? = some x, fun i H x H' => H' = H ∧ ∀ xs, SqL K H a xs → xs[i]? = some x, fun i H => ∃ xs, SqL K H a xs ∧ xs.length ≤ i⟩
def Itr (lo : Int) (n : Nat) : It := ⟨fun i _ => i < n, fun i H x H' => H' = H ∧ x = .int (lo + i), fun i _ => n ≤ i⟩
theorem turn_list {P : Program} {w : World} {K : PySem.W.Frag} {tg : Expr} (a it : Addr) : Turn P w K tg (Itl K a) [it] it (fun i h => h.IsListIter it a i) where
  mem := by simp
  obj := fun i h st b hb => by
    have e : b = it := by simpa using hb
    subst e
    obtain ⟨o, e, c, d⟩ := st
    exact ⟨o, e, fun v z => by rw [d] at z; cases z⟩
  keep := fun i h h' st k => st.at fun o e => k it (by simp) o e
  item := by
    intro X hP hw hK hc i pins s σ H E I hf st hg
    subst hP hw hK
    obtain ⟨xs, x, hq, hx⟩ := hg
    obtain ⟨its, rv, p, hz⟩ := I.list hq
    obtain ⟨u, hu, ru⟩ := rv.get hx
    obtain ⟨f0, f1, f2, f3, f4, f5⟩ := hf it (by simp)
    refine wpAny_pyNext_list_item st p.isList (x := u) (by simpa using hu) fun h' st' sb => ?_
    have I1 : Inv X pins σ H { s with heap := h' } := I.turned (t' := s.toks) (fun b o hb e => (sb.2 b hb).trans e) f0 f1 f3 f4 f5
    obtain ⟨o, e, c, d⟩ := id st'
    exact ⟨u, rfl, go_of (s := { s with heap := h' }) e c d (by decide) ⟨x, H, I1, ru, ⟨rfl, fun ys hy => by rw [I.list_inj hy hq]; exact hx⟩, st', fun b hb => (hf b hb).1⟩⟩
  done := by
    intro X hP hw hK hc i pins s σ H E I hf st hg
    subst hP hw hK
    obtain ⟨xs, hq, hx⟩ := hg
    obtain ⟨its, rv, p, hz⟩ := I.list hq
    obtain ⟨f0, f1, f2, f3, f4, f5⟩ := hf it (by simp)
    have hl := rv.length
    exact wpAny_pyNext_list_end (I.ok.hd hc) st p.isList (by simp; omega) fun h' eb => ⟨rfl, I.turned (t' := s.toks) (fun b o hb e => eb b o hb e) f0 f1 f3 f4 f5⟩
  self := fun _ _ _ _ _ st h => wpAny_pyIter_listiter st h
theorem turn_range {P : Program} {w : World} {K : PySem.W.Frag} {tg : Expr} (it : Addr) (lo : Int) (n : Nat) : Turn P w K tg (Itr lo n) [it] it (fun i h => IsRangeIter h it (lo + (i : Nat) * 1) ((n : Int) - (i : Nat)) 1) where
  mem := by simp
  obj := fun i h st b hb => by
    have e : b = it := by simpa using hb
    subst e
    exact ⟨_, st, fun v z => by
      have z' : Data.fields _ = Data.cell v := z
      cases z'⟩
  keep := fun i h h' st k => k it (by simp) _ st
  item := by
    intro X hP hw hK hc i pins s σ H E I hf st hg
    subst hP hw hK
    obtain ⟨f0, f1, f2, f3, f4, f5⟩ := hf it (by simp)
    have W := Walks.range (prog := X.prog) (w := X.w) (I.ok.hd hc) it lo 1 n
    refine W.item i s _ _ hg st fun v h' tk hv st' kk => ?_
    obtain ⟨t, rfl⟩ := hv
    have I1 : Inv X pins σ H { s with heap := h', toks := tk } := I.turned (fun b o hb e => kk b o (by simpa using hb) e) f0 f1 f3 f4 f5
    refine ⟨_, rfl, go_of (s := { s with heap := h', toks := tk }) (n := "range_iterator") st' rfl rfl (by decide) ⟨.int (lo + i), H, I1, ⟨t, ?_⟩, ⟨rfl, rfl⟩, st', fun b hb => (hf b hb).1⟩⟩
    rw [Int.mul_one]
  done := by
    intro X hP hw hK hc i pins s σ H E I hf st hg
    subst hP hw hK
    obtain ⟨f0, f1, f2, f3, f4, f5⟩ := hf it (by simp)
    exact wpAny_pyNext_range_end (I.ok.hd hc) st (by have : n ≤ i := hg; omega) fun h' eb => ⟨rfl, I.turned (t' := s.toks) (fun b o hb e => eb b o hb e) f0 f1 f3 f4 f5⟩
  self := fun _ _ _ _ _ st h => wpAny_pyIter_rangeiter st h
end L2
namespace L2
open PySem PySem.Spec PyProof.Rows
section
variable {X : Cx} {tg : Expr}
def iList (K : PySem.W.Frag) (tl : TE) : TI := fun σ H R => tl σ H fun x H1 => ∃ a, x = .ref a ∧ (∃ xs, SqL K H1 a xs) ∧ R (Itl K a) H1
theorem pi_list {l : Expr} {tl : TE} (hl : PE X l tl) : PI X tg l (iList X.K tl) := by
  intro pins s σ H R I h
  refine thn (hl pins s σ H _ I h) fun v s1 ⟨x, H1, I1, r1, q1⟩ => ?_
  obtain ⟨a, e, ⟨xs, hq⟩, q⟩ := q1
  subst e
  cases r1
  obtain ⟨its, rv, p, hz⟩ := I1.list hq
  refine wpAny_pyIter_list p.isList ?_
  refine ⟨s1.heap.objs.size, [s1.heap.objs.size], _, _, H1, rfl, I1.kept (t' := s1.toks) fun b o e => Heap.get?_push_of_some _ e, turn_list a _, ⟨_, Heap.get?_push_size _ rfl, rfl, rfl⟩, fun b hb => ?_, q⟩
  have e : b = s1.heap.objs.size := by simpa using hb
  subst e
  exact I1.fpOk (Nat.le_refl _) (I1.hok.fresh (Nat.le_refl _))
theorem range_it {pins : List (Addr × Obj)} {σ : St} {H : Hp} {s : Shared} {R : It → Hp → Prop} {E : Value → Shared → Prop} {lo hi : Int} {t u v : Tok} {tk : Nat} (I : Inv X pins σ H s) (h1 : -(2 ^ 62) ≤ lo) (h2 : lo < 2 ^ 62) (h3 : -(2 ^ 62) ≤ hi) (h4 : hi < 2 ^ 62)
    (q : R (Itr lo (hi - lo).toNat) H) : wpAny (model X.prog X.w) X.A (pyIter (.ref s.heap.objs.size)) (PIE X pins σ tg R) E { s with heap := s.heap.push { cls := .type "range", data := .fields #[.int lo t, .int hi u, .int 1 v] }, toks := tk } := by
  refine wpAny_pyIter_range (IsRange.new ..) (small_one h1 h2 h3 h4) ?_
  have I1 : Inv X pins σ H { s with heap := s.heap.push { cls := .type "range", data := .fields #[.int lo t, .int hi u, .int 1 v] }, toks := tk } := I.kept fun b o e => Heap.get?_push_of_some _ e
  refine ⟨(s.heap.push { cls := .type "range", data := .fields #[.int lo t, .int hi u, .int 1 v] }).objs.size, [(s.heap.push { cls := .type "range", data := .fields #[.int lo t, .int hi u, .int 1 v] }).objs.size], _, _, H, rfl,
    I1.kept (t' := tk) fun b o e => Heap.get?_push_of_some _ e, turn_range _ lo (hi - lo).toNat, ?_, fun b hb => ?_, q⟩
  · have e1 : lo + ((0 : Nat) : Int) * 1 = lo := by simp
    have e2 : (((hi - lo).toNat : Nat) : Int) - ((0 : Nat) : Int) = Builtin.Range.rangeSize lo hi 1 := by rw [rangeSize_one]; split <;> omega
    show IsRangeIter _ _ (lo + ((0 : Nat) : Int) * 1) ((((hi - lo).toNat : Nat) : Int) - ((0 : Nat) : Int)) 1
    rw [e1, e2]
    exact Heap.get?_push_size _ rfl
  · have e : b = (s.heap.push { cls := .type "range", data := .fields #[.int lo t, .int hi u, .int 1 v] }).objs.size := by simpa using hb
    subst e
    exact I1.fpOk (Nat.le_refl _) (I1.hok.fresh (Nat.le_refl _))
def iRng1 (ta : TA) : TI := fun σ H R => ta σ H fun vs H1 => ∃ j : Int, vs = [.int j] ∧ -(2 ^ 62) ≤ j ∧ j < 2 ^ 62 ∧ R (Itr 0 j.toNat) H1
theorem pi_range1 {a : Expr} {ta : TA} {p pos : Pos} (hg : Gl X "range") (hm : X.mg "range" = none) (ha : PA X [a] ta) (hs : starEach [a] X.env = [(false, eval a X.env)] := by rfl) : PI X tg (.Call (.Name "range" p) [a] [] pos) (iRng1 ta) := by
  intro pins s σ H R I h
  refine Call_ (ld_blt I hg hm boot_range (PyProof.Rows.callWith_type1 (thn (ha pos pins s σ H _ I h) fun us s1 ⟨vs, H1, I1, r1, q1⟩ => ?_) hs rfl))
  obtain ⟨j, e, q1, q2, q⟩ := q1
  subst e
  cases r1 with
  | cons r rr =>
    cases rr
    obtain ⟨t, rfl⟩ := r
    exact call_range_1 (range_it I1 (by omega) (by omega) q1 q2 (by simpa using q))
def tFor (wi : TI) (g : TG) (tb : TS) : TS := fun D σ H => wi σ H fun J H1 => ∃ W : Nat → Nat → St → Hp → Prop, (∃ m, W 0 m σ H1) ∧ ∀ i m σ H, W i m σ H →
  (J.stop i H ∧ D.nx σ H) ∨ (J.go i H ∧ ∃ N : St → Hp → Prop, (∀ σ' H', N σ' H' → ∃ m', m' < m ∧ W (i + 1) m' σ' H') ∧ ∀ x H', J.yld i H x H' → g x σ H' fun σ2 H2 => tb { D with nx := N, ct := N, bk := D.nx } σ2 H2)
def pinsAt (fp : List Addr) (h : Heap) : List (Addr × Obj) := fp.filterMap fun b => (h.get? b).map fun o => (b, o)
theorem mem_pinsAt {fp : List Addr} {h : Heap} {b : Addr} {o : Obj} (hb : b ∈ fp) (e : h.get? b = some o) : (b, o) ∈ pinsAt fp h := List.mem_filterMap.mpr ⟨b, hb, by rw [e]; rfl⟩
theorem of_pinsAt {fp : List Addr} {h : Heap} {p : Addr × Obj} (hp : p ∈ pinsAt fp h) : p.1 ∈ fp ∧ h.get? p.1 = some p.2 := by
  obtain ⟨b, hb, e⟩ := List.mem_filterMap.mp hp
  cases q : h.get? b with
  | none => rw [q] at e; cases e
  | some o =>
    rw [q] at e
    have e' : (b, o) = p := Option.some.inj e
    subst e'
    exact ⟨hb, q⟩
theorem Inv.pinned {pins : List (Addr × Obj)} {σ : St} {H : Hp} {s : Shared} {fp : List Addr} (I : Inv X pins σ H s) (hf : ∀ b ∈ fp, FpOk X pins H b) (ho : ∀ b ∈ fp, ∃ o, s.heap.get? b = some o ∧ ∀ v, o.data ≠ .cell v) : Inv X (pins ++ pinsAt fp s.heap) σ H s :=
  I.pins_of fun p hp => (List.mem_append.mp hp).elim (fun z => I.pin p (List.mem_append_right _ z)) fun z => by
    obtain ⟨hb, e⟩ := of_pinsAt z
    obtain ⟨f0, f1, f2, _⟩ := hf p.1 hb
    obtain ⟨o, e', d⟩ := ho p.1 hb
    rw [e] at e'; cases e'
    exact ⟨e, f0, f1, f2, d⟩
theorem Inv.unpinned {pins pl : List (Addr × Obj)} {σ : St} {H : Hp} {s : Shared} (I : Inv X (pins ++ pl) σ H s) : Inv X pins σ H s := I.pins_of fun p hp => I.pin p (List.mem_append_right _ (List.mem_append_left _ hp))
theorem ps_for {iter : Expr} {body : List Stmt} {wi : TI} {g : TG} {tb : TS} {pos : Pos} (hp : PassesOwn (model X.prog X.w) X.A X.env X.xe) (hc : X.calm = true) (hi : PI X tg iter wi) (hg : PG X tg g) (hb : PSs X body tb)
    (hs : ∀ x, foldedSetIterable iter X.env x = pure x := by intro _; rfl) : PS X (.For tg iter body [] pos) (tFor wi g tb) := by
  intro pins s σ H D I h
  refine wpAny_For (thn (hi pins s σ H _ I h) fun v s1 h1 => thn h1 fun itv s2 h2 => ?_) hs
  obtain ⟨it, fp, tn, J, H2, e, I2, T, st2, f2, W, ⟨m0, w0⟩, turn⟩ := h2
  subst e
  -- what stays true of the iterator's objects through the loop
  have stat : ∀ {H' : Hp}, (∀ b ∈ fp, H' b = none) → ∀ b ∈ fp, FpOk X pins H' b := fun hn b hb => ⟨hn b hb, (f2 b hb).2⟩
  refine codeAny_forLoop_any (fun n s' => ∃ i σ' H', Inv X pins σ' H' s' ∧ tn i s'.heap ∧ (∀ b ∈ fp, H' b = none) ∧ W i n σ' H') ?_ m0 ⟨0, σ, H2, I2, st2, fun b hb => (f2 b hb).1, w0⟩
  rintro n s3 ⟨i, σ3, H3, I3, st3, fr3, w3⟩
  rcases turn i n σ3 H3 w3 with ⟨stop, qn⟩ | ⟨go, N, hN, step⟩
  · refine wpAny_passesOwn hp (thn (T.done X rfl rfl rfl hc i pins s3 σ3 H3 X.xe I3 (stat fr3) st3 stop) fun r s4 ⟨hr, I4⟩ => ?_)
    subst hr
    exact wpAny_execs_nil ⟨σ3, H3, I4, qn⟩
  · refine wpAny_passesOwn hp (thn (T.item X rfl rfl rfl hc i pins s3 σ3 H3 X.xe I3 (stat fr3) st3 go) fun r s4 ⟨u, hr, h4⟩ => ?_)
    subst hr
    refine wpAny_passesOwn hp (thn h4 fun _ s5 ⟨x, H5, I5, r5, y5, st5, fr5⟩ => ?_)
    have I5' := I5.pinned (stat fr5) (T.obj _ _ st5)
    refine wpAny_passesOwn hp (thn (hg _ s5 σ3 H5 x u _ I5' r5 (step x H5 y5)) fun _ s6 ⟨σ6, H6, I6, q6⟩ => ?_)
    refine wpAny_passesOwn hp (thn (hb _ s6 σ6 H6 _ I6 q6) fun f s7 q7 => ?_)
    have again : ∀ {σ7 : St} {H7 : Hp}, Inv X (pins ++ pinsAt fp s5.heap) σ7 H7 s7 → N σ7 H7 → ∃ m, m < n ∧ ∃ i σ' H', Inv X pins σ' H' s7 ∧ tn i s7.heap ∧ (∀ b ∈ fp, H' b = none) ∧ W i m σ' H' := fun {σ7 H7} I7 n7 => by
      obtain ⟨m', hm, w7⟩ := hN σ7 H7 n7
      refine ⟨m', hm, i + 1, σ7, H7, I7.unpinned, T.keep _ _ _ st5 fun b hb o e => (I7.pin (b, o) (List.mem_append_right _ (List.mem_append_right _ (mem_pinsAt hb e)))).1, fun b hb => ?_, w7⟩
      obtain ⟨o, e, d⟩ := T.obj _ _ st5 b hb
      exact (I7.pin (b, o) (List.mem_append_right _ (List.mem_append_right _ (mem_pinsAt hb e)))).2.1
    cases f with
    | next => obtain ⟨σ7, H7, I7, n7⟩ := q7; exact again I7 n7
    | cont => obtain ⟨σ7, H7, I7, n7⟩ := q7; exact again I7 n7
    | brk => obtain ⟨σ7, H7, I7, q7⟩ := q7; exact ⟨σ7, H7, I7.unpinned, q7⟩
    | ret v => obtain ⟨x7, σ7, H7, I7, r7, q7⟩ := q7; exact ⟨x7, σ7, H7, I7.unpinned, r7, q7⟩
end
theorem for_list {K : PySem.W.Frag} {a : Addr} {xs : List V} {g : TG} {tb : TS} {D : Ends} {σ : St} {H : Hp} (Pv : Nat → St → Hp → Prop) (h0 : Pv 0 σ H) (hl : ∀ i σ H, i ≤ xs.length → Pv i σ H → SqL K H a xs)
    (hs : ∀ i x σ H, xs[i]? = some x → Pv i σ H → g x σ H fun σ2 H2 => tb { D with nx := Pv (i + 1), ct := Pv (i + 1), bk := D.nx } σ2 H2) (hd : ∀ σ H, Pv xs.length σ H → D.nx σ H) :
    ∃ W : Nat → Nat → St → Hp → Prop, (∃ m, W 0 m σ H) ∧ ∀ i m σ H, W i m σ H →
      ((Itl K a).stop i H ∧ D.nx σ H) ∨ ((Itl K a).go i H ∧ ∃ N : St → Hp → Prop, (∀ σ' H', N σ' H' → ∃ m', m' < m ∧ W (i + 1) m' σ' H') ∧ ∀ x H', (Itl K a).yld i H x H' → g x σ H' fun σ2 H2 => tb { D with nx := N, ct := N, bk := D.nx } σ2 H2) := by
  refine ⟨fun i m σ H => m = xs.length - i ∧ i ≤ xs.length ∧ Pv i σ H, ⟨xs.length, by simp, Nat.zero_le _, h0⟩, ?_⟩
  rintro i m σ H ⟨rfl, hi, p⟩
  have q := hl i σ H hi p
  by_cases hlt : i < xs.length
  · refine .inr ⟨⟨xs, xs[i], q, by simp [hlt]⟩, Pv (i + 1), fun σ' H' p' => ⟨xs.length - (i + 1), by omega, rfl, hlt, p'⟩, fun x H' y => ?_⟩
    obtain ⟨e, y⟩ := y
    subst e
    exact hs i x σ _ (y xs q) p
  · have e : i = xs.length := by omega
    subst e
    exact .inl ⟨⟨xs, q, Nat.le_refl _⟩, hd σ H p⟩
end L2
namespace L2
open PySem PySem.Spec PyProof.Rows
abbrev R2 := V → V → Hp → VK → Prop
def OpR (X : Cx) (f : Value → Value → Sem Value) (r : R2) : Prop :=
  ∀ (pins : List (Addr × Obj)) (s : Shared) (σ : St) (H : Hp) (x y : V) (v u : Value) (Q : VK), Inv X pins σ H s → RelV x v → RelV y u → r x y H Q →
    wpAny (model X.prog X.w) X.A (f v u) (EP X pins σ Q) X.xe s
def CallR (X : Cx) (f : Value) (r : List V → Hp → VK → Prop) : Prop :=
  ∀ (pins : List (Addr × Obj)) (s : Shared) (σ : St) (H : Hp) (xs : List V) (us : List Value) (Q : VK), Inv X pins σ H s → Vals xs us → r xs H Q →
    wpAny (model X.prog X.w) X.A (call f us) (EP X pins σ Q) X.xe s
def TruR (X : Cx) (r : V → Hp → (Bool → Hp → Prop) → Prop) : Prop :=
  ∀ (pins : List (Addr × Obj)) (s : Shared) (σ : St) (H : Hp) (x : V) (v : Value) (Q : Bool → Hp → Prop), Inv X pins σ H s → RelV x v → r x H Q →
    wpAny (model X.prog X.w) X.A (truthy v) (TP X pins σ Q) X.xe s
def tOp (r : R2) (ta tb : TE) : TE := fun σ H Q => ta σ H fun x H1 => tb σ H1 fun y H2 => r x y H2 Q
def rI (C : Int → Int → Prop) (g : Int → Int → V) : R2 := fun x y H Q => ∃ i j, x = .int i ∧ y = .int j ∧ C i j ∧ Q (g i j) H
def rI0 (g : Int → Int → V) : R2 := fun x y H Q => ∃ i j, x = .int i ∧ y = .int j ∧ Q (g i j) H
section
variable {X : Cx} {a b c : Expr} {ta tb tc : TE} {pos : Pos}
theorem binT (ha : PE X a ta) (hb : PE X b tb) {pins : List (Addr × Obj)} {s : Shared} {σ : St} {H : Hp} {R : V → V → Hp → Prop} (I : Inv X pins σ H s)
    (h : ta σ H fun x H1 => tb σ H1 fun y H2 => R x y H2) {Q : Value → Shared → Prop} {f : Value → Value → Sem Value}
    (hf : ∀ v u s2 x y H2, Inv X pins σ H2 s2 → RelV x v → RelV y u → R x y H2 → wpAny (model X.prog X.w) X.A (f v u) Q X.xe s2) :
    wpAny (model X.prog X.w) X.A (eval a X.env) (fun v s₁ => wpAny (model X.prog X.w) X.A (eval b X.env) (fun u s₂ => wpAny (model X.prog X.w) X.A (f v u) Q X.xe s₂) X.xe s₁) X.xe s := by
  refine thn (ha pins s σ H _ I h) fun v s1 ⟨x, H1, I1, r1, q1⟩ => ?_
  refine thn (hb pins s1 σ H1 _ I1 q1) fun u s2 ⟨y, H2, I2, r2, q2⟩ => ?_
  exact hf v u s2 x y H2 I2 r1 r2 q2
theorem pe_op {op : Operator} {r : R2} (ho : OpR X (binaryOp op) r) (ha : PE X a ta) (hb : PE X b tb) : PE X (.BinOp a op b pos) (tOp r ta tb) := by
  intro pins s σ H Q I h
  exact wpAny_BinOp (binT ha hb I h fun v u s2 x y H2 I2 rx ry q => ho pins s2 σ H2 x y v u Q I2 rx ry q)
theorem opI {f : Value → Value → Sem Value} {C : Int → Int → Prop} {g : Int → Int → Int}
    (rule : ∀ (i j : Int) (t u : Tok) (s : Shared) (Q : Value → Shared → Prop) (E : Value → Shared → Prop), C i j → Q (.int (g i j) s.toks) { s with toks := s.toks + 1 } → wpAny (model X.prog X.w) X.A (f (.int i t) (.int j u)) Q E s) :
    OpR X f (rI C fun i j => .int (g i j)) := by
  intro pins s σ H x y v u Q I rx ry h
  obtain ⟨i, j, rfl, rfl, hc, q⟩ := h
  obtain ⟨t, rfl⟩ := rx
  obtain ⟨t', rfl⟩ := ry
  exact rule i j t t' s _ _ hc ⟨.int (g i j), H, I.tok _, ⟨_, rfl⟩, q⟩
theorem opI0 {f : Value → Value → Sem Value} {g : Int → Int → Int}
    (rule : ∀ (i j : Int) (t u : Tok) (s : Shared) (Q : Value → Shared → Prop) (E : Value → Shared → Prop), Q (.int (g i j) s.toks) { s with toks := s.toks + 1 } → wpAny (model X.prog X.w) X.A (f (.int i t) (.int j u)) Q E s) :
    OpR X f (rI0 fun i j => .int (g i j)) := by
  intro pins s σ H x y v u Q I rx ry h
  obtain ⟨i, j, rfl, rfl, q⟩ := h
  obtain ⟨t, rfl⟩ := rx
  obtain ⟨t', rfl⟩ := ry
  exact rule i j t t' s _ _ ⟨.int (g i j), H, I.tok _, ⟨_, rfl⟩, q⟩
theorem opB0 {f : Value → Value → Sem Value} {g : Int → Int → Bool}
    (rule : ∀ (i j : Int) (t u : Tok) (s : Shared) (Q : Value → Shared → Prop) (E : Value → Shared → Prop), Q (.bool (g i j)) s → wpAny (model X.prog X.w) X.A (f (.int i t) (.int j u)) Q E s) :
    OpR X f (rI0 fun i j => .bl (g i j)) := by
  intro pins s σ H x y v u Q I rx ry h
  obtain ⟨i, j, rfl, rfl, q⟩ := h
  obtain ⟨t, rfl⟩ := rx
  obtain ⟨t', rfl⟩ := ry
  exact rule i j t t' s _ _ ⟨.bl (g i j), H, I, rfl, q⟩
def CDiv (i j : Int) : Prop := 0 < j ∧ j < 1073741824
def CPow (i j : Int) : Prop := 0 ≤ j ∧ j ≤ 1000000 ∧ i.natAbs < 2 ^ 64
def CMul (i j : Int) : Prop := (-(2 ^ 64) < i ∧ i < 2 ^ 64) ∨ (-(2 ^ 64) < j ∧ j < 2 ^ 64)
theorem CMul.ok {i j : Int} (h : CMul i j) : IntMulOk i j := by
  rcases h with ⟨h1, h2⟩ | ⟨h1, h2⟩
  · exact .of_left (intBits_le_64 h1 h2)
  · exact .of_right (intBits_le_64 h1 h2)
theorem op_add : OpR X (binaryOp .Add) (rI0 fun i j => .int (i + j)) := opI0 fun _ _ _ _ _ _ _ q => add_int q
theorem op_sub : OpR X (binaryOp .Sub) (rI0 fun i j => .int (i - j)) := opI0 fun _ _ _ _ _ _ _ q => sub_int q
theorem op_mul : OpR X (binaryOp .Mult) (rI CMul fun i j => .int (i * j)) := opI fun _ _ _ _ _ _ _ hc q => mul_int q hc.ok
theorem op_mod : OpR X (binaryOp .Mod) (rI (fun _ j => 0 < j) fun i j => .int (i % j)) := opI fun i j _ _ _ _ _ hc q => by
  have h1 : (0 : Int) < j := hc
  exact mod_int' (by omega) (by rw [Int.fmod_eq_emod_of_nonneg i (by omega)]; exact q)
end
def scal : V → V → Bool
  | .non, .non => true | .non, .int _ => true | .int _, .non => true | .non, .bl _ => true | .bl _, .non => true | .non, .str _ => true | .str _, .non => true
  | .int _, .int _ => true | .bl _, .bl _ => true | .str _, .str _ => true | .byt _, .byt _ => true
  | .int _, .str _ => true | .str _, .int _ => true | .bl _, .str _ => true | .str _, .bl _ => true
  | _, _ => false
def rEq : R2 := fun x y H Q => scal x y = true ∧ Q (.bl (decide (x = y))) H
def rNe : R2 := fun x y H Q => scal x y = true ∧ Q (.bl (!decide (x = y))) H
theorem dec_int {i j : Int} : decide (V.int i = V.int j) = (i == j) := by
  rw [Bool.eq_iff_iff]
  simp
theorem dec_bl {i j : Bool} : decide (V.bl i = V.bl j) = (i == j) := by
  rw [Bool.eq_iff_iff]
  simp
theorem dec_str {i j : Str} : decide (V.str i = V.str j) = (i == j) := by
  rw [Bool.eq_iff_iff]
  simp
theorem dec_byt {i j : Array UInt8} : decide (V.byt i = V.byt j) = (i.toList == j.toList) := by
  rw [Bool.eq_iff_iff]
  cases i
  cases j
  simp
section
variable {X : Cx} {a b c : Expr} {ta tb tc : TE} {pos : Pos}
theorem fin_bl {pins : List (Addr × Obj)} {σ : St} {H : Hp} {s : Shared} {Q : VK} {k k' : Bool} (I : Inv X pins σ H s) (q : Q (.bl k) H) (e : k = k') : EP X pins σ Q (.bool k') s := by
  subst e
  exact ⟨.bl k, H, I, rfl, q⟩
theorem op_eq : OpR X (compareOp .Eq) rEq := by
  intro pins s σ H x y v u Q I rx ry h
  obtain ⟨hs, q⟩ := h
  cases x with
  | non =>
    cases rx
    cases y with
    | non => cases ry; exact PySem.EqNone.eq_none_none (fin_bl I q (by simp))
    | bl j => cases ry; exact PySem.EqNone.eq_none_bool (fin_bl I q (by simp))
    | int j => obtain ⟨t', rfl⟩ := ry; exact PySem.EqNone.eq_none_int (fin_bl I q (by simp))
    | str j => obtain ⟨t', rfl⟩ := ry; exact PySem.EqNone.eq_none_str (fin_bl I q (by simp))
    | _ => exact absurd (show false = true from hs) Bool.false_ne_true
  | bl i =>
    cases rx
    cases y with
    | non => cases ry; exact PySem.EqNone.eq_bool_none (fin_bl I q (by simp))
    | bl j => cases ry; exact eq_bool (fin_bl I q dec_bl)
    | str j => obtain ⟨t', rfl⟩ := ry; exact PySem.EqMixed.eq_bool_str (fin_bl I q (by simp))
    | _ => exact absurd (show false = true from hs) Bool.false_ne_true
  | int i =>
    obtain ⟨t, rfl⟩ := rx
    cases y with
    | non => cases ry; exact PySem.EqNone.eq_int_none (fin_bl I q (by simp))
    | int j => obtain ⟨t', rfl⟩ := ry; exact eq_int (fin_bl I q dec_int)
    | str j => obtain ⟨t', rfl⟩ := ry; exact PySem.EqMixed.eq_int_str (fin_bl I q (by simp))
    | _ => exact absurd (show false = true from hs) Bool.false_ne_true
  | str i =>
    obtain ⟨t, rfl⟩ := rx
    cases y with
    | non => cases ry; exact PySem.EqNone.eq_str_none (fin_bl I q (by simp))
    | bl j => cases ry; exact PySem.EqMixed.eq_str_bool (fin_bl I q (by simp))
    | int j => obtain ⟨t', rfl⟩ := ry; exact PySem.EqMixed.eq_str_int (fin_bl I q (by simp))
    | str j => obtain ⟨t', rfl⟩ := ry; exact eq_str (fin_bl I q dec_str)
    | _ => exact absurd (show false = true from hs) Bool.false_ne_true
  | byt i =>
    obtain ⟨t, rfl⟩ := rx
    cases y with
    | byt j => obtain ⟨t', rfl⟩ := ry; exact PySem.W.eq_bytes (fin_bl I q dec_byt)
    | _ => exact absurd (show false = true from hs) Bool.false_ne_true
  | _ => cases y <;> exact absurd (show false = true from hs) Bool.false_ne_true
theorem op_ne : OpR X (compareOp .NotEq) rNe := by
  intro pins s σ H x y v u Q I rx ry h
  obtain ⟨hs, q⟩ := h
  cases x with
  | non =>
    cases rx
    cases y with
    | non => cases ry; exact PySem.EqNone.ne_none_none (fin_bl I q (by simp))
    | bl j => cases ry; exact PySem.EqNone.ne_none_bool (fin_bl I q (by simp))
    | int j => obtain ⟨t', rfl⟩ := ry; exact PySem.EqNone.ne_none_int (fin_bl I q (by simp))
    | str j => obtain ⟨t', rfl⟩ := ry; exact PySem.EqNone.ne_none_str (fin_bl I q (by simp))
    | _ => exact absurd (show false = true from hs) Bool.false_ne_true
  | bl i =>
    cases rx
    cases y with
    | non => cases ry; exact PySem.EqNone.ne_bool_none (fin_bl I q (by simp))
    | bl j => cases ry; exact ne_bool (fin_bl I q (congrArg not dec_bl))
    | str j => obtain ⟨t', rfl⟩ := ry; exact PySem.EqMixed.ne_bool_str (fin_bl I q (by simp))
    | _ => exact absurd (show false = true from hs) Bool.false_ne_true
  | int i =>
    obtain ⟨t, rfl⟩ := rx
    cases y with
    | non => cases ry; exact PySem.EqNone.ne_int_none (fin_bl I q (by simp))
    | int j => obtain ⟨t', rfl⟩ := ry; exact ne_int (fin_bl I q (congrArg not dec_int))
    | str j => obtain ⟨t', rfl⟩ := ry; exact PySem.EqMixed.ne_int_str (fin_bl I q (by simp))
    | _ => exact absurd (show false = true from hs) Bool.false_ne_true
  | str i =>
    obtain ⟨t, rfl⟩ := rx
    cases y with
    | non => cases ry; exact PySem.EqNone.ne_str_none (fin_bl I q (by simp))
    | bl j => cases ry; exact PySem.EqMixed.ne_str_bool (fin_bl I q (by simp))
    | int j => obtain ⟨t', rfl⟩ := ry; exact PySem.EqMixed.ne_str_int (fin_bl I q (by simp))
    | str j => obtain ⟨t', rfl⟩ := ry; exact ne_str (fin_bl I q (congrArg not dec_str))
    | _ => exact absurd (show false = true from hs) Bool.false_ne_true
  | byt i =>
    obtain ⟨t, rfl⟩ := rx
    cases y with
    | byt j => obtain ⟨t', rfl⟩ := ry; exact PySem.W.ne_bytes (fin_bl I q (congrArg not dec_byt))
    | _ => exact absurd (show false = true from hs) Bool.false_ne_true
  | _ => cases y <;> exact absurd (show false = true from hs) Bool.false_ne_true
theorem op_lt : OpR X (compareOp .Lt) (rI0 fun i j => .bl (decide (i < j))) := opB0 fun _ _ _ _ _ _ _ q => lt_int q
theorem op_le : OpR X (compareOp .LtE) (rI0 fun i j => .bl (decide (i ≤ j))) := opB0 fun _ _ _ _ _ _ _ q => le_int q
theorem op_gt : OpR X (compareOp .Gt) (rI0 fun i j => .bl (decide (j < i))) := opB0 fun _ _ _ _ _ _ _ q => gt_int q
theorem op_isN : OpR X (compareOp .Is) (fun x y H Q => y = .non ∧ Q (.bl (decide (x = .non))) H) := by
  intro pins s σ H x y v u Q I rx ry h
  obtain ⟨rfl, q⟩ := h
  cases ry
  refine is_none_gen (fin_bl I q ?_)
  cases x <;> first
    | (cases rx; rfl)
    | (obtain ⟨t, rfl⟩ := rx; rfl)
theorem op_notN : OpR X (compareOp .IsNot) (fun x y H Q => y = .non ∧ Q (.bl (!decide (x = .non))) H) := by
  intro pins s σ H x y v u Q I rx ry h
  obtain ⟨rfl, q⟩ := h
  cases ry
  refine isnot_none_gen (fin_bl I q ?_)
  cases x <;> first
    | (cases rx; rfl)
    | (obtain ⟨t, rfl⟩ := rx; rfl)
theorem OpR.or {f : Value → Value → Sem Value} {r r' : R2} (h : OpR X f r) (h' : OpR X f r') : OpR X f (fun x y H Q => r x y H Q ∨ r' x y H Q) := by
  intro pins s σ H x y v u Q I rx ry q
  rcases q with q | q
  · exact h pins s σ H x y v u Q I rx ry q
  · exact h' pins s σ H x y v u Q I rx ry q
theorem nomark (b : Expr) {op : CmpOp} (h : op ≠ .In := by decide) (h2 : op ≠ .NotIn := by decide) : behindInMarks op b = false := by
  have e1 : (op == CmpOp.In) = false := by cases op <;> first | rfl | exact absurd rfl h
  have e2 : (op == CmpOp.NotIn) = false := by cases op <;> first | rfl | exact absurd rfl h2
  cases b <;> simp [behindInMarks, e1, e2]
theorem pe_cmpR {op : CmpOp} {r : R2} (ho : OpR X (compareOp op) r) (ha : PE X a ta) (hb : PE X b tb) (hm : behindInMarks op b = false) : PE X (.Compare a [op] [b] pos) (tOp r ta tb) := by
  intro pins s σ H Q I h
  exact wpAny_Compare1 (binT ha hb I h fun v u s2 x y H2 I2 rx ry q => ho pins s2 σ H2 x y v u Q I2 rx ry q) hm
def tTest (t : TE) : TT := fun σ H Q => t σ H fun x H' => ∃ k, x = .bl k ∧ Q k H'
theorem pt_cmpR {op : CmpOp} {r : R2} (ho : OpR X (compareOp op) r) (ha : PE X a ta) (hb : PE X b tb) (hm : behindInMarks op b = false) : PT X (.Compare a [op] [b] pos) (tTest (tOp r ta tb)) := by
  intro pins s σ H Q I h
  refine wpAny_isTrue_Compare1 (thn (ha pins s σ H _ I h) fun v s1 ⟨x, H1, I1, r1, q1⟩ => thn (hb pins s1 σ H1 _ I1 q1) fun u s2 ⟨y, H2, I2, r2, q2⟩ =>
    thn (ho pins s2 σ H2 x y v u _ I2 r1 r2 q2) fun c s3 ⟨z, H3, I3, r3, k, e, q3⟩ => ?_) hm
  subst e
  cases r3
  exact wpAny_truthy_bool ⟨H3, I3, q3⟩
def tChain (r r' : R2) (ta tb tc : TE) : TE := fun σ H Q => ta σ H fun x H1 => tb σ H1 fun y H2 => r x y H2 fun z H3 => ∃ k, z = .bl k ∧
  (if k = true then tc σ H3 fun w' H4 => r' y w' H4 Q else Q (.bl false) H3)
theorem pe_chain {op op' : CmpOp} {r r' : R2} (ho : OpR X (compareOp op) r) (ho' : OpR X (compareOp op') r') (ha : PE X a ta) (hb : PE X b tb) (hc : PE X c tc)
    (hm : lastMarks [op, op'] [b, c] = false := by with_unfolding_all rfl) : PE X (.Compare a [op, op'] [b, c] pos) (tChain r r' ta tb tc) := by
  intro pins s σ H Q I h
  refine Compare_chain (thn (ha pins s σ H _ I h) fun v s1 ⟨x, H1, I1, r1, q1⟩ => chain_link (thn (hb pins s1 σ H1 _ I1 q1) fun u s2 ⟨y, H2, I2, r2, q2⟩ =>
    thn (ho pins s2 σ H2 x y v u _ I2 r1 r2 q2) fun d s3 ⟨z, H3, I3, r3, k, e, q3⟩ => ?_)) hm
  subst e
  cases r3
  refine wpAny_truthy_bool ?_
  cases k with
  | false => exact ite_ff ⟨.bl false, H3, I3, rfl, q3⟩
  | true => exact ite_tt (chain_last (thn (hc pins s3 σ H3 _ I3 q3) fun w' s4 ⟨z', H4, I4, r4, q4⟩ => ho' pins s4 σ H4 y z' u w' Q I4 r2 r4 q4))
theorem pt_chain {op op' : CmpOp} {r r' : R2} (ho : OpR X (compareOp op) r) (ho' : OpR X (compareOp op') r') (ha : PE X a ta) (hb : PE X b tb) (hc : PE X c tc)
    (hm : lastMarks [op, op'] [b, c] = false := by with_unfolding_all rfl) : PT X (.Compare a [op, op'] [b, c] pos) (tTest (tChain r r' ta tb tc)) := by
  intro pins s σ H Q I h
  refine isTrue_chain (thn (ha pins s σ H _ I h) fun v s1 ⟨x, H1, I1, r1, q1⟩ => test_link (thn (hb pins s1 σ H1 _ I1 q1) fun u s2 ⟨y, H2, I2, r2, q2⟩ =>
    thn (ho pins s2 σ H2 x y v u _ I2 r1 r2 q2) fun d s3 ⟨z, H3, I3, r3, k, e, q3⟩ => ?_)) hm
  subst e
  cases r3
  refine wpAny_truthy_bool ?_
  cases k with
  | false =>
    obtain ⟨k', e', q'⟩ := q3
    cases e'
    exact ite_ff ⟨H3, I3, q'⟩
  | true =>
    refine ite_tt (test_last (thn (hc pins s3 σ H3 _ I3 q3) fun w' s4 ⟨z', H4, I4, r4, q4⟩ => thn (ho' pins s4 σ H4 y z' u w' _ I4 r2 r4 q4) fun d' s5 ⟨z2, H5, I5, r5, k2, e2, q5⟩ => ?_))
    subst e2
    cases r5
    exact wpAny_truthy_bool ⟨H5, I5, q5⟩
def TruV (K : PySem.W.Frag) (x : V) (H : Hp) (k : Bool) : Prop :=
  match x with
  | .non => k = false
  | .bl b => k = b
  | .int i => k = (i != 0)
  | .str y => y.length ≤ sizeLine ∧ k = ((y.length : Int) != 0)
  | .byt y => y.size ≤ sizeLine ∧ k = ((y.size : Int) != 0)
  | .ref p => (∃ xs, SqL K H p xs ∧ k = !xs.isEmpty) ∨ (∃ xs, SqT K H p xs ∧ k = !xs.isEmpty) ∨ ∃ kvs, H p = some (.dK kvs) ∧ k = !kvs.isEmpty
  | _ => False
theorem isEmpty_kv {κ : Type} {kvs : List (κ × V)} {vs : List (κ × Value)} (r : KV kvs vs) : (!vs.isEmpty) = !kvs.isEmpty := by
  cases r <;> rfl
theorem isEmpty_of {xs : List V} {its : List Value} (r : Vals xs its) : (!its.toArray.isEmpty) = !xs.isEmpty := by
  cases r <;> simp
theorem line63 : (sizeLine : Nat) < 2 ^ 63 := by rw [sizeLine_eq]; decide
theorem tru_ok : TruR X (fun x H Q => ∃ k, TruV X.K x H k ∧ Q k H) := by
  intro pins s σ H x v Q I rx h
  obtain ⟨k, e, q⟩ := h
  have hl := line63
  have hs : sizeLine = 16777216 := sizeLine_eq
  cases x with
  | non =>
    cases rx
    have e' : k = false := e
    subst e'
    exact truthy_none ⟨H, I, q⟩
  | bl b =>
    cases rx
    have e' : k = b := e
    subst e'
    exact wpAny_truthy_bool ⟨H, I, q⟩
  | int i =>
    obtain ⟨t, rfl⟩ := rx
    have e' : k = (i != 0) := e
    subst e'
    exact PySem.P.truthy_int ⟨H, I, q⟩
  | str y =>
    obtain ⟨t, rfl⟩ := rx
    obtain ⟨hy, e'⟩ : y.length ≤ sizeLine ∧ k = ((y.length : Int) != 0) := e
    subst e'
    exact PySem.P.truthy_str (by omega) ⟨H, I.tok _, q⟩
  | byt y =>
    obtain ⟨t, rfl⟩ := rx
    obtain ⟨hy, e'⟩ : y.size ≤ sizeLine ∧ k = ((y.size : Int) != 0) := e
    subst e'
    exact PySem.W.truthy_bytes (by omega) ⟨H, I.tok _, q⟩
  | ref p =>
    cases rx
    have e' : (∃ xs, SqL X.K H p xs ∧ k = !xs.isEmpty) ∨ (∃ xs, SqT X.K H p xs ∧ k = !xs.isEmpty) ∨ ∃ kvs, H p = some (.dK kvs) ∧ k = !kvs.isEmpty := e
    rcases e' with ⟨xs, hx, e'⟩ | ⟨xs, hx, e'⟩ | ⟨kvs, hx, e'⟩
    · subst e'
      obtain ⟨its, r, pl, hz⟩ := I.list hx
      have hlen := r.length
      exact wpAny_truthy_list pl.isList (by simp only [List.size_toArray]; omega) ⟨H, I.tok _, by rw [isEmpty_of r]; exact q⟩
    · subst e'
      obtain ⟨its, r, pl, hz⟩ := I.tuple hx
      have hlen := r.length
      exact truthy_tuple pl (by simp only [List.size_toArray]; omega) ⟨H, I.tok _, by rw [isEmpty_of r]; exact q⟩
    · subst e'
      obtain ⟨hz, hS, vs, r, m⟩ : kvs.length ≤ sizeLine ∧ (p == sysModules) = false ∧ ∃ vs, KV kvs vs ∧ s.heap.DictOf (mixKind X.prog X.w) p vs := I.hok p _ hx
      have hlen : kvs.length = vs.length := Paired.length r
      exact wpAny_truthy_dict hS m (by omega) ⟨H, I.tok _, by rw [isEmpty_kv r]; exact q⟩
  | _ => exact (show False from e).elim
theorem pt_truth (ha : PE X a ta) (he : ∀ whole, isTrue a X.env whole = (do let v ← whole; standAt a.pos; holding [v] (truthy v))) :
    PT X a (fun σ H Q => ta σ H fun x H' => ∃ k, TruV X.K x H' k ∧ Q k H') := by
  intro pins s σ H Q I h
  exact isTrue_plain (thn (ha pins s σ H _ I h) fun v s1 ⟨x, H1, I1, r1, q1⟩ => tru_ok pins s1 σ H1 x v Q I1 r1 q1) (he _)
theorem vals1 {x : V} {us : List Value} (r : Vals [x] us) : ∃ u, us = [u] ∧ RelV x u := by
  cases r with
  | cons r1 r2 => cases r2; exact ⟨_, rfl, r1⟩
theorem vals2 {x y : V} {us : List Value} (r : Vals [x, y] us) : ∃ u w', us = [u, w'] ∧ RelV x u ∧ RelV y w' := by
  cases r with
  | cons r1 r2 =>
    cases r2 with
    | cons r3 r4 => cases r4; exact ⟨_, _, rfl, r1, r3⟩
def LenV (K : PySem.W.Frag) (x : V) (H : Hp) (n : Nat) : Prop :=
  match x with
  | .str y => y.length ≤ sizeLine ∧ n = y.length
  | .byt y => y.size ≤ sizeLine ∧ n = y.size
  | .ref p => (∃ xs, SqL K H p xs ∧ n = xs.length) ∨ ∃ xs, SqT K H p xs ∧ n = xs.length
  | _ => False
theorem call_len : CallR X (.builtin "len") (fun xs H Q => ∃ x n, xs = [x] ∧ LenV X.K x H n ∧ Q (.int n) H) := by
  intro pins s σ H xs us Q I r h
  obtain ⟨x, n, rfl, e, q⟩ := h
  obtain ⟨u, rfl, rx⟩ := vals1 r
  have hl := line63
  have hs : sizeLine = 16777216 := sizeLine_eq
  cases x with
  | str y =>
    obtain ⟨t, rfl⟩ := rx
    obtain ⟨hy, e'⟩ : y.length ≤ sizeLine ∧ n = y.length := e
    subst e'
    exact len_str (by omega) ⟨.int _, H, I.tok _, ⟨_, rfl⟩, q⟩
  | byt y =>
    obtain ⟨t, rfl⟩ := rx
    obtain ⟨hy, e'⟩ : y.size ≤ sizeLine ∧ n = y.size := e
    subst e'
    exact PySem.W.len_bytes (by omega) ⟨.int _, H, I.tok _, ⟨_, rfl⟩, q⟩
  | ref p =>
    cases rx
    have e' : (∃ xs, SqL X.K H p xs ∧ n = xs.length) ∨ ∃ xs, SqT X.K H p xs ∧ n = xs.length := e
    rcases e' with ⟨xs, hx, e'⟩ | ⟨xs, hx, e'⟩
    · subst e'
      obtain ⟨its, r', pl, hz⟩ := I.list hx
      have hlen := r'.length
      exact Calls.call_len_list pl.isList (by simp only [List.size_toArray]; omega) ⟨.int xs.length, H, I.tok _, ⟨_, by simp only [List.size_toArray]; rw [hlen]⟩, q⟩
    · subst e'
      obtain ⟨its, r', pl, hz⟩ := I.tuple hx
      have hlen := r'.length
      exact len_tuple pl (by simp only [List.size_toArray]; omega) ⟨.int xs.length, H, I.tok _, ⟨_, by simp only [List.size_toArray]; rw [hlen]⟩, q⟩
  | _ => exact (show False from e).elim
end
end L2
namespace L2
open PySem PySem.Spec PyProof.Rows
structure ObjM (h : Heap) (x dx C : Addr) (mA : Str → Option Value) : Prop where
  obj : h.get? x = some (PySem.W.instObj C dx)
  ns : h.Ns1 dx mA
  ne : dx ≠ x
theorem lookIn_ns {h : Heap} {dx : Addr} {mA : Str → Option Value} (n : h.Ns1 dx mA) : ∃ od, h.get? dx = some od ∧ ∀ name, PySem.W.lookIn name od = some (mA name) := by
  obtain ⟨o, es, ep, ho, hd, hk, _, hm⟩ := n
  refine ⟨o, ho, fun name => ?_⟩
  have e := hm name
  unfold nsFind findBy at e
  rw [← Array.find?_toList] at e
  unfold PySem.W.lookIn
  rw [hd]
  dsimp only
  split
  · rename_i y q
    rw [q] at e
    exact congrArg some e
  · rename_i q
    rw [q] at e
    have a : es.toList.any (·.refKey) = false := by
      rw [List.any_eq_false]
      intro y hy
      obtain ⟨z, t, hkey⟩ := hk y (Array.mem_toList_iff.mp hy)
      simp [DictEntry.refKey, hkey]
    have a' : ¬ es.toList.any (·.refKey) = true := by rw [a]; exact Bool.false_ne_true
    rw [if_neg a']
    exact congrArg some e
theorem ObjM.look {h : Heap} {x dx C : Addr} {mA : Str → Option Value} (I : ObjM h x dx C mA) : ∃ od, PySem.W.InstAt h x (PySem.W.instObj C dx) C (some od) ∧ ∀ name, PySem.W.lookIn name od = some (mA name) :=
  let ⟨od, ho, hl⟩ := lookIn_ns I.ns
  ⟨od, ⟨I.obj, rfl, rfl, ho⟩, hl⟩
section
variable {prog : Program} {w : World} {A : Around} {E : Value → Shared → Prop} {s : Shared} {K : PySem.W.Frag} {x dx C f : Addr} {mA : Str → Option Value} {name : Str} {v : Value}
theorem get_map {expr : Bool} {Q : Value → Shared → Prop} (X : K.In s.heap) (I : ObjM s.heap x dx C mA) (hg : PySem.W.plainGet K C name = true) (hh : PySem.W.hasDictIn K C = true)
    (ha : PySem.W.findIn K (.ref C) name = some none) (hv : mA name = some v) (hv' : PySem.W.handedIn v = true) (h : Q v { s with toks := s.toks + 1 }) :
    wpAny (model prog w) A (getAttr (.ref x) name expr) Q E s := by
  obtain ⟨od, J, hl⟩ := I.look
  exact PySem.W.get_value X J (PySem.W.plainGet_of hg).1 (PySem.W.findObj_own hh ha rfl (by rw [hl, hv])) hv' h
theorem get_meth {pl : Sem Bool} {Q : Value × List Value → Shared → Prop} (X : K.In s.heap) (I : ObjM s.heap x dx C mA) (hg : PySem.W.plainGet K C name = true)
    (hf : PySem.W.findIn K (.ref C) name = some (some (.ref f))) (ht : PySem.W.isFn K (.ref f) = true) (hv : mA name = none) (h : Q (.ref f, [.ref x]) s) :
    wpAny (model prog w) A (getMethod (.ref x) name pl) Q E s := by
  obtain ⟨od, J, hl⟩ := I.look
  exact PySem.W.method_fn X J (PySem.W.plainGet_of hg).1 (PySem.W.plainGet_of hg).2 hf (beq_iff_eq.mp ht) (by show (PySem.W.lookIn name od).map (·.isSome) = some false; rw [hl, hv]; rfl) h
theorem set_map {ns : List Str} {Q : Unit → Shared → Prop} (X : K.In s.heap) (I : ObjM s.heap x dx C mA)
    (hs : PySem.W.findIn K (.ref C) "__setattr__" = some (some (.builtin "object.__setattr__"))) (hp : PySem.W.plainOver K C = true) (ht : PySem.W.takerIn K C name = some none) (hh : PySem.W.hasDictIn K C = true)
    (hw : PySem.Within mA ns) (hsz : ns.length ≤ sizeLine)
    (h : ∀ h', ObjM h' x dx C (fun y => if y = name then some v else mA y) → Heap.SameBut dx s.heap h' → Q () { s with heap := h', toks := s.toks + 2 }) :
    wpAny (model prog w) A (setAttr (.ref x) name v) Q E s := by
  obtain ⟨od, J, hl⟩ := I.look
  refine PySem.W.set_plain X J hs (PySem.W.osa_open (s := { s with toks := s.toks + 1 }) (r := none) X J hp ht fun b => ?_)
  obtain ⟨cd, hc, hd'⟩ := PySem.W.any_some hh
  have hx : s.heap.get? x = some ⟨.ref C, some dx, .plain, #[]⟩ := I.obj
  refine wpAny_bind (wpAny_pure (wpAny_bind (wpAny_bind (wpAny_loadPart hx (wpAny_bind (PySem.W.Looks.here (s := { s with toks := s.toks + 1 }) (PySem.W.looks_clsIn X hc) ?_))))))
  rw [hd']
  refine wpAny_pure (a := some dx) (wpAny_bind (wpAny_pure (wpAny_bind ?_)))
  refine wpAny_nsSet1 (s := { s with toks := s.toks + 1 }) I.ns fun h' hn2 hs2 => ?_
  obtain ⟨oD, esD, epD, hoD, hdD, hcD⟩ := hn2.count (PySem.Within.cons name v hw)
  refine wpAny_bind (wpAny_lookBehind hoD (by rw [hdD]; exact pastItsLine_dict (Nat.le_trans hcD (by rw [List.length_cons]; omega))) ?_)
  exact wpAny_pure (h _ ⟨(hs2.2 _ (Ne.symm I.ne)).trans I.obj, hn2, I.ne⟩ hs2)
theorem make_map {R : Result → Shared → Prop} {vs : List Value} {kw : List (Str × Value)} (X : K.In s.heap) (hm : PySem.W.makesIn K C = true)
    (hi : PySem.W.findIn K (.ref C) "__init__" = some (some (.ref f))) (hf : PySem.W.typeIn K (.ref f) = some (.type "function"))
    (h : codeAny (model prog w) (A.under (.builtin "type.__call__" ⟨.ref C :: vs, kw⟩)) (.call (.ref f) ⟨.ref (s.heap.objs.size + 1) :: vs, kw⟩) (PySem.W.InitBack (s.heap.objs.size + 1) R)
      { s with heap := (s.heap.push PySem.W.emptyDict).push (PySem.W.instObj C s.heap.objs.size) }) :
    codeAny (model prog w) A (.call (.ref C) ⟨vs, kw⟩) R s := by
  obtain ⟨hh, g, d, t, os⟩ := s
  exact PySem.W.make_core (PySem.W.makes_of X hm) (PySem.W.looks_findIn X hi) (fun self => PySem.W.bind_fn X self hf) (.inl rfl) h
end
def putF (f : Str) (v : V) : List (Str × V) → List (Str × V)
  | [] => [(f, v)]
  | (g, x) :: r => if g = f then (g, v) :: r else (g, x) :: putF f v r
theorem lookup_putF (f g : Str) (v : V) : ∀ fs : List (Str × V), (putF f v fs).lookup g = if g = f then some v else fs.lookup g
  | [] => by
    show List.lookup g [(f, v)] = _
    by_cases h : g = f
    · have hb : (g == f) = true := beq_iff_eq.mpr h
      simp only [List.lookup, hb, if_pos h]
    · have hb : (g == f) = false := beq_eq_false_iff_ne.mpr h
      simp only [List.lookup, hb, if_neg h]
  | (k, x) :: r => by
    have ih := lookup_putF f g v r
    rw [show putF f v ((k, x) :: r) = (if k = f then (k, v) :: r else (k, x) :: putF f v r) from rfl]
    by_cases hk : k = f
    · rw [if_pos hk]
      by_cases h : g = k
      · have hb : (g == k) = true := beq_iff_eq.mpr h
        simp only [List.lookup, hb, if_pos (h.trans hk)]
      · have hb : (g == k) = false := beq_eq_false_iff_ne.mpr h
        simp only [List.lookup, hb, if_neg (fun e : g = f => h (e.trans hk.symm))]
    · rw [if_neg hk]
      by_cases h : g = k
      · have hb : (g == k) = true := beq_iff_eq.mpr h
        simp only [List.lookup, hb, if_neg (fun e : g = f => hk (h.symm.trans e))]
      · have hb : (g == k) = false := beq_eq_false_iff_ne.mpr h
        simp only [List.lookup, hb]
        exact ih
theorem keys_putF (f : Str) (v : V) : ∀ fs : List (Str × V), f ∈ (putF f v fs).map (·.1) ∧ ∀ g, g ∈ fs.map (·.1) → g ∈ (putF f v fs).map (·.1)
  | [] => ⟨by simp [putF], fun g h => by simp at h⟩
  | (k, x) :: r => by
    obtain ⟨i1, i2⟩ := keys_putF f v r
    rw [show putF f v ((k, x) :: r) = (if k = f then (k, v) :: r else (k, x) :: putF f v r) from rfl]
    by_cases hk : k = f
    · rw [if_pos hk]
      subst hk
      exact ⟨by simp, fun g h => by simpa using h⟩
    · rw [if_neg hk]
      refine ⟨?_, fun g h => ?_⟩
      · rw [List.map_cons]
        exact List.mem_cons_of_mem _ i1
      · rw [List.map_cons] at h ⊢
        rcases List.mem_cons.mp h with e | e
        · exact List.mem_cons.mpr (.inl e)
        · exact List.mem_cons_of_mem _ (i2 g e)
theorem length_putF (f : Str) (v : V) : ∀ fs : List (Str × V), (putF f v fs).length ≤ fs.length + 1
  | [] => by simp [putF]
  | (k, x) :: r => by
    have ih := length_putF f v r
    rw [show putF f v ((k, x) :: r) = (if k = f then (k, v) :: r else (k, x) :: putF f v r) from rfl]
    by_cases hk : k = f
    · rw [if_pos hk, List.length_cons, List.length_cons]; omega
    · rw [if_neg hk, List.length_cons, List.length_cons]; omega
theorem RelO.some_of {v : V} {o : Option Value} (r : RelO (some v) o) : ∃ u, o = some u ∧ RelV v u := by
  cases o with
  | none => exact (show False from r).elim
  | some u => exact ⟨u, rfl, r⟩
theorem RelO.none_of {o : Option Value} (r : RelO none o) : o = none := by
  cases o with
  | none => rfl
  | some u => exact (show False from r).elim
theorem handed_of {v : V} {u : Value} (r : RelV v u) : PySem.W.handedIn u = true := by
  cases v with
  | non => cases (show u = Value.none from r); rfl
  | bl b => cases (show u = Value.bool b from r); rfl
  | int i => obtain ⟨t, e⟩ := (show ∃ t, u = Value.int i t from r); cases e; rfl
  | str x => obtain ⟨t, e⟩ := (show ∃ t, u = Value.str x t from r); cases e; rfl
  | byt b => obtain ⟨t, e⟩ := (show ∃ t, u = Value.bytes b t from r); cases e; rfl
  | flt b => obtain ⟨t, e⟩ := (show ∃ t, u = Value.float b t from r); cases e; rfl
  | ref a => cases (show u = Value.ref a from r); rfl
  | ty n => cases (show u = Value.type n from r); rfl
section
variable {P : Program} {w : World} {H H' : Hp} {h h' : Heap} {a C dx : Addr} {fs fs' : List (Str × V)}
theorem ins_get (hok : HOk P w H h) (e : H a = some (.ins C dx fs)) : ∃ mA, ObjM h a dx C mA ∧ (∀ f, RelO (fs.lookup f) (mA f)) ∧ PySem.Within mA (fs.map (·.1)) ∧ fs.length ≤ 1000 ∧ H dx = some (.own a) := by
  obtain ⟨d, z, ne, ob, mA, n, r, q⟩ := (show ObjOk P w H h a (.ins C dx fs) from hok a _ e)
  exact ⟨mA, ⟨ob, n, ne⟩, r, q, z, d⟩
end
structure Cls (K : PySem.W.Frag) (C : Addr) : Prop where
  pg : PySem.W.plainGet K C Str.empty = true
  hd : PySem.W.hasDictIn K C = true
  po : PySem.W.plainOver K C = true
  sa : PySem.W.findIn K (.ref C) "__setattr__" = some (some (.builtin "object.__setattr__"))
theorem Cls.get {K : PySem.W.Frag} {C : Addr} (c : Cls K C) (f : Str) : PySem.W.plainGet K C f = true := c.pg
def NoAttr (K : PySem.W.Frag) (C : Addr) (f : Str) : Prop := PySem.W.findIn K (.ref C) f = some none
theorem NoAttr.taker {K : PySem.W.Frag} {C : Addr} {f : Str} (n : NoAttr K C f) : PySem.W.takerIn K C f = some none := by
  unfold PySem.W.takerIn
  rw [show PySem.W.findIn K (.ref C) f = some none from n]
  rfl
structure Con (K : PySem.W.Frag) (C : Addr) (f : Str) (v : V) (u : Value) : Prop where
  at_ : PySem.W.findIn K (.ref C) f = some (some u)
  rel : RelV v u
  get : PySem.W.specialIn K u "__get__" = some none
  cp : PySem.W.copiedNames.contains f = false
structure Meth (K : PySem.W.Frag) (C : Addr) (m : Str) (f : Addr) : Prop where
  at_ : PySem.W.findIn K (.ref C) m = some (some (.ref f))
  fn : PySem.W.isFn K (.ref f) = true
  kp : PySem.W.keepIn K (.ref f) = true
section
variable {X : Cx} {pins : List (Addr × Obj)} {σ : St} {H : Hp} {s : Shared} {a C dx : Addr} {fs : List (Str × V)} {f : Str} {v : V} {A : Around} {E : Value → Shared → Prop}
theorem getattr_ok {b : Bool} {Q : Value → Shared → Prop} (I : Inv X pins σ H s) (e : H a = some (.ins C dx fs)) (c : Cls X.K C) (n : NoAttr X.K C f) (l : fs.lookup f = some v)
    (h : ∀ u s', Inv X pins σ H s' → RelV v u → Q u s') : wpAny (model X.prog X.w) A (getAttr (.ref a) f b) Q E s := by
  obtain ⟨mA, O, r, _, _, _⟩ := ins_get I.hok e
  obtain ⟨u, hu, ru⟩ := RelO.some_of (v := v) (o := mA f) (by rw [← l]; exact r f)
  exact get_map I.kIn O (c.get f) c.hd n hu (handed_of ru) (h u _ (I.tok _) ru)
theorem getmeth_ok {m : Str} {g : Addr} {pl : Sem Bool} {Q : Value × List Value → Shared → Prop} (I : Inv X pins σ H s) (e : H a = some (.ins C dx fs)) (c : Cls X.K C) (k : Meth X.K C m g) (l : fs.lookup m = none)
    (h : Q (.ref g, [.ref a]) s) : wpAny (model X.prog X.w) A (getMethod (.ref a) m pl) Q E s := by
  obtain ⟨mA, O, r, _, _, _⟩ := ins_get I.hok e
  have hn : mA m = none := RelO.none_of (by rw [← l]; exact r m)
  exact get_meth I.kIn O (c.get m) k.at_ k.fn hn h
theorem setattr_ok {y : V} {u : Value} {Q : Unit → Shared → Prop} (I : Inv X pins σ H s) (e : H a = some (.ins C dx fs)) (c : Cls X.K C) (n : NoAttr X.K C f) (hl : fs.length < 1000) (ry : RelV y u)
    (h : ∀ s', Inv X pins σ (upd H a (.ins C dx (putF f y fs))) s' → Q () s') : wpAny (model X.prog X.w) A (setAttr (.ref a) f u) Q E s := by
  obtain ⟨mA, O, r, wi, _, ho⟩ := ins_get I.hok e
  have hz : (fs.map (·.1)).length ≤ sizeLine := by rw [List.length_map, sizeLine_eq]; omega
  refine set_map I.kIn O c.sa c.po n.taker c.hd wi hz fun h' O' sb => h _ ?_
  have hd : ∃ o, h'.get? dx = some o := let ⟨o, _, _, e', _⟩ := O'.ns; ⟨o, e'⟩
  refine I.write (x := a) (e := dx) (by rw [e]; exact True.intro) (.inr ho) (fun b q hb z => (sb.2 b hb).trans z) hd ?_
  refine ⟨by rw [upd_ne O.ne]; exact ho, ?_, O.ne, O'.obj, _, O'.ns, fun g => ?_, fun g hg => ?_⟩
  · have := length_putF f y fs; omega
  · show RelO ((putF f y fs).lookup g) (if g = f then some u else mA g)
    rw [lookup_putF]
    by_cases q : g = f
    · rw [if_pos q, if_pos q]; exact ry
    · rw [if_neg q, if_neg q]; exact r g
  · by_cases q : g = f
    · rw [q]; exact (keys_putF f y fs).1
    · refine (keys_putF f y fs).2 g (wi g fun z => hg ?_)
      show (if g = f then some u else mA g) = none
      rw [if_neg q]; exact z
theorem Inv.made (I : Inv X pins σ H s) : Inv X pins σ (upd (upd H s.heap.objs.size (.own (s.heap.objs.size + 1))) (s.heap.objs.size + 1) (.ins C s.heap.objs.size []))
    { s with heap := (s.heap.push PySem.W.emptyDict).push (PySem.W.instObj C s.heap.objs.size) } := by
  have e1 : (s.heap.push PySem.W.emptyDict).get? s.heap.objs.size = some PySem.W.emptyDict := Heap.get?_push_size s.heap rfl
  have e2 : ((s.heap.push PySem.W.emptyDict).push (PySem.W.instObj C s.heap.objs.size)).get? (s.heap.objs.size + 1) = some (PySem.W.instObj C s.heap.objs.size) := by
    have := Heap.get?_push_size (s.heap.push PySem.W.emptyDict) (o := PySem.W.instObj C s.heap.objs.size) rfl
    rwa [Heap.size_push] at this
  have e3 : (s.heap.push PySem.W.emptyDict).Ns s.heap.objs.size (fun _ => none) := ⟨PySem.W.emptyDict, #[], _, e1, rfl, (fun e he => absurd he (by simp)), fun _ => rfl⟩
  have I1 := I.laid (a := s.heap.objs.size) (o := .own (s.heap.objs.size + 1)) (h' := s.heap.push PySem.W.emptyDict) (t' := s.toks) (fun b u q => Heap.get?_push_of_some _ q) (Nat.le_refl _) ⟨_, e1⟩
  refine I1.laid (a := s.heap.objs.size + 1) (o := .ins C s.heap.objs.size []) (t' := s.toks) (fun b u q => Heap.get?_push_of_some _ q) (Nat.le_of_eq (Heap.size_push _ _)) ?_
  have ne : s.heap.objs.size ≠ s.heap.objs.size + 1 := Nat.ne_of_lt (Nat.lt_succ_self _)
  refine ⟨by rw [upd_ne ne, upd_same], Nat.zero_le _, ne, e2, fun _ => none, (Heap.Ns1.of_empty e3).at fun o q => Heap.get?_push_of_some _ q, fun _ => True.intro, fun y hy => absurd rfl hy⟩
theorem attr_of {prog : Program} {w : World} {env : Env} {e : Expr} {f : Str} {pos : Pos} {s : Shared} {Q : Value → Shared → Prop} (hb : attributeBase e f env (eval e env) = eval e env)
    (h : wpAny (model prog w) A (eval e env) (fun o s₁ => wpAny (model prog w) A (getAttr o f true) Q E s₁) E s) : wpAny (model prog w) A (eval (.Attribute e f pos) env) Q E s :=
  Attribute_any_ h (by rw [arm_eval_Attribute, hb])
end
def tFld (K : PySem.W.Frag) (ta : TE) (f : Str) : TE := fun σ H Q => ta σ H fun x H1 => ∃ a C dx fs v, x = .ref a ∧ H1 a = some (.ins C dx fs) ∧ Cls K C ∧ NoAttr K C f ∧ fs.lookup f = some v ∧ Q v H1
def sFld (K : PySem.W.Frag) (ta tv : TE) (f : Str) : TS := fun D σ H => tv σ H fun y H1 => ta σ H1 fun x H2 => ∃ a C dx fs, x = .ref a ∧ H2 a = some (.ins C dx fs) ∧ Cls K C ∧ NoAttr K C f ∧ fs.length < 1000 ∧
  D.nx σ (upd H2 a (.ins C dx (putF f y fs)))
section
variable {X : Cx} {o e value : Expr} {f : Str} {pos pos' tpos : Pos} {ta tv : TE}
theorem pe_fld (he : PE X e ta) (hb : attributeBase e f X.env (eval e X.env) = eval e X.env) : PE X (.Attribute e f pos) (tFld X.K ta f) := by
  intro pins s σ H Q I h
  refine attr_of hb (thn (he pins s σ H _ I h) fun u s1 ⟨x, H1, I1, rx, a, C, dx, fs, v, ex, ea, c, n, l, q⟩ => ?_)
  subst ex
  obtain rfl : u = Value.ref a := rx
  exact getattr_ok I1 ea c n l fun u' s2 I2 ru => ⟨v, H1, I2, ru, q⟩
theorem ps_fld (ha : PE X o ta) (hv : PE X value tv) (hs : swapsWith value (some (.Attribute o f pos')) pos.line X.env = pure false) : PS X (.Assign [.Attribute o f pos'] value pos) (sFld X.K ta tv f) := by
  intro pins s σ H D I h
  refine plainObj_wpAny_Assign_Attribute (thn (hv pins s σ H _ I h) fun u s1 ⟨y, H1, I1, ry, q⟩ => thn (ha pins s1 σ H1 _ I1 q) fun ov s2 ⟨x, H2, I2, rx, a, C, dx, fs, ex, ea, c, n, l, q2⟩ => ?_) hs
  subst ex
  obtain rfl : ov = Value.ref a := rx
  exact setattr_ok I2 ea c n l ry fun s3 I3 => ⟨σ, _, I3, q2⟩
end
section
variable {X : Cx} {pins : List (Addr × Obj)} {σ : St} {H : Hp} {s : Shared} {A : Around} {E : Value → Shared → Prop} {Q : Value → Shared → Prop} {c : Value} {b : Bool}
inductive TyOf (K : PySem.W.Frag) (H : Hp) : V → Value → Prop where
  | non : TyOf K H .non (.type "NoneType")
  | bl (x : Bool) : TyOf K H (.bl x) (.type "bool")
  | int (i : Int) : TyOf K H (.int i) (.type "int")
  | str (x : Str) : TyOf K H (.str x) (.type "str")
  | flt (x : UInt64) : TyOf K H (.flt x) (.type "float")
  | lst {a : Addr} {xs : List V} (e : H a = some (.lst xs)) : TyOf K H (.ref a) (.type "list")
  | frz {a : Addr} {o : Obj} {xs : List V} (e : H a = some (.frz o (.lst xs))) : TyOf K H (.ref a) (.type "list")
  | tup {a : Addr} {xs : List V} (e : H a = some (.tup xs)) : TyOf K H (.ref a) (.type "tuple")
  | dK {a : Addr} {kvs : List (Key × V)} (e : H a = some (.dK kvs)) : TyOf K H (.ref a) (.type "dict")
  | dT {a : Addr} {kvs : List (List Key × V)} (e : H a = some (.dT kvs)) : TyOf K H (.ref a) (.type "dict")
  | ins {a C dx : Addr} {fs : List (Str × V)} (e : H a = some (.ins C dx fs)) (cl : Cls K C) (ha : PySem.W.findIn K (.ref C) "__class__" = some (some (.builtin "object.__class__")))
      (hn : PySem.W.specialIn K (.builtin "object.__class__") "__get__" = some (some (.builtin "getset_descriptor.__get__"))) (htk : PySem.W.takesIn K (.builtin "object.__class__") = some true)
      (hm : PySem.W.mroIn K C (.type "object") = some true) : TyOf K H (.ref a) (.ref C)
theorem isinst_ok {x : V} {u t : Value} (I : Inv X pins σ H s) (rx : RelV x u) (ty : TyOf X.K H x t) (e : PySem.W.kitOne X.K t c = some b) (h : ∀ tk, Q (.bool b) { s with toks := tk }) :
    wpAny (model X.prog X.w) A (call (.builtin "isinstance") [u, c]) Q E s := by
  cases ty with
  | non => cases (show u = Value.none from rx); exact PySem.W.kia_one PySem.W.kitx_none I.kIn True.intro e (fun z => nomatch z) h
  | bl y => cases (show u = Value.bool y from rx); exact PySem.W.kia_one PySem.W.kitx_bool I.kIn True.intro e (fun z => nomatch z) h
  | int i => obtain ⟨t, q⟩ := (show ∃ t, u = Value.int i t from rx); cases q; exact PySem.W.kia_one PySem.W.kitx_int I.kIn True.intro e (fun z => nomatch z) h
  | str y => obtain ⟨t, q⟩ := (show ∃ t, u = Value.str y t from rx); cases q; exact PySem.W.kia_one PySem.W.kitx_str I.kIn True.intro e (fun z => nomatch z) h
  | flt y => obtain ⟨t, q⟩ := (show ∃ t, u = Value.float y t from rx); cases q; exact PySem.W.kia_one PySem.W.kitx_float I.kIn True.intro e (fun z => nomatch z) h
  | @lst a xs ea =>
    cases (show u = Value.ref a from rx)
    obtain ⟨_, _, n, _, h1⟩ := (show ObjOk X.prog X.w H s.heap a (.lst xs) from I.hok a _ ea)
    exact PySem.W.kia_one PySem.W.kitx_list I.kIn ⟨_, h1, rfl⟩ e (fun z => nomatch z) h
  | @frz a ob xs ea =>
    cases (show u = Value.ref a from rx)
    obtain ⟨_, _, _, n, _, h1⟩ := (show ObjOk X.prog X.w H s.heap a (.frz ob (.lst xs)) from I.hok a _ ea)
    exact PySem.W.kia_one PySem.W.kitx_list I.kIn ⟨_, h1, rfl⟩ e (fun z => nomatch z) h
  | @tup a xs ea =>
    cases (show u = Value.ref a from rx)
    obtain ⟨_, _, _, p⟩ := (show ObjOk X.prog X.w H s.heap a (.tup xs) from I.hok a _ ea)
    obtain ⟨o, h1, h2, _⟩ := p
    exact PySem.W.kia_one PySem.W.kitx_tuple I.kIn ⟨o, h1, h2⟩ e (fun z => nomatch z) h
  | @dK a kvs ea =>
    cases (show u = Value.ref a from rx)
    obtain ⟨_, _, vs, _, p⟩ := (show ObjOk X.prog X.w H s.heap a (.dK kvs) from I.hok a _ ea)
    obtain ⟨o, es, ep, h1, h2, _⟩ := p
    exact PySem.W.kia_one PySem.W.kitx_dict I.kIn ⟨o, h1, h2.1⟩ e (fun z => nomatch z) h
  | @dT a kvs ea =>
    cases (show u = Value.ref a from rx)
    obtain ⟨_, _, xs, _, o, es, ep, h1, h2, _⟩ := (show ObjOk X.prog X.w H s.heap a (.dT kvs) from I.hok a _ ea)
    exact PySem.W.kia_one PySem.W.kitx_dict I.kIn ⟨o, h1, h2.1⟩ e (fun z => nomatch z) h
  | @ins a C dx fs ea cl ha hn htk hm =>
    cases (show u = Value.ref a from rx)
    obtain ⟨mA, O, _⟩ := ins_get I.hok ea
    obtain ⟨od, J, _⟩ := O.look
    exact PySem.W.kia_one (PySem.W.kitx_own (cl.get _) cl.hd ha hn htk hm) I.kIn J e (fun z => nomatch z) h
end
end L2
namespace L2
open PySem PySem.Spec PyProof.Rows
structure Room (k : Nat) (A : Around) : Prop where
  hd : A.handled = none
  dp : A.depth + 3 * k + 5 < recursionLimit
  un : A.units + 16 * k + 200 < cLine
theorem Room.mono {j k : Nat} {A : Around} (r : Room k A) (h : j ≤ k) : Room j A := ⟨r.hd, by have := r.dp; omega, by have := r.un; omega⟩
theorem Room.deeper {k : Nat} {A : Around} (r : Room (k + 1) A) (env : Env) : Room k (A.deeper env) :=
  ⟨r.hd, by have := r.dp; show A.depth + 1 + 3 * k + 5 < _; omega, by have := r.un; show A.units + 3 + 16 * k + 200 < _; omega⟩
theorem make_depth {A : Around} {C : Addr} {us : List Value} {kw : List (Str × Value)} : (A.under (.builtin "type.__call__" ⟨.ref C :: us, kw⟩)).depth = A.depth + 1 := by
  first | rfl | simp [Around.under, Code.weight, Code.isCreation, Code.isGuard, Code.isCaller, Code.frames, Code.isFrame, guardIds]
theorem make_units {A : Around} {C : Addr} {us : List Value} {kw : List (Str × Value)} : (A.under (.builtin "type.__call__" ⟨.ref C :: us, kw⟩)).units = A.units + 1 := by
  first | rfl | simp [Around.under, Code.cUnits, Code.frames, Code.isFrame]
theorem Room.make {k : Nat} {A : Around} (r : Room (k + 1) A) (C : Addr) (us : List Value) (kw : List (Str × Value)) : Room k (A.under (.builtin "type.__call__" ⟨.ref C :: us, kw⟩)) :=
  ⟨r.hd, by have := r.dp; rw [make_depth]; omega, by have := r.un; rw [make_units]; omega⟩
theorem Room.depth {k : Nat} {A : Around} (r : Room k A) : A.depth < recursionLimit := by have := r.dp; omega
theorem Room.units {k : Nat} {A : Around} (r : Room k A) : A.units + 64 < cLine := by have := r.un; omega
def tNil : TA := fun _ H Q => Q [] H
def tCons (ta : TE) (tr : TA) : TA := fun σ H Q => ta σ H fun x H1 => tr σ H1 fun xs H2 => Q (x :: xs) H2
section
variable {X : Cx} {e : Expr} {es : List Expr} {te : TE} {t : TA} {pos : Pos}
theorem pa_nil : PA X [] tNil := fun _ _ _ _ H Q I h => Calls.spliced_nil ⟨[], H, I, .nil, h⟩
theorem pa_cons (ha : PE X e te) (hr : PA X es t) (hs : starEach (e :: es) X.env = (false, eval e X.env) :: starEach es X.env := by rfl) : PA X (e :: es) (tCons te t) := by
  intro pos pins s σ H Q I h
  rw [hs]
  show wpAny _ _ (spliced ((false, eval e X.env) :: backTo pos (starEach es X.env))) _ _ s
  refine Calls.spliced_cons (thn (ha pins s σ H _ I h) fun u s1 ⟨x, H1, I1, r1, q1⟩ => ?_)
  exact thn (hr pos pins s1 σ H1 _ I1 q1) fun us s2 ⟨xs, H2, I2, r2, q2⟩ => ⟨x :: xs, H2, I2, .cons r1 r2, q2⟩
def tTup (t : TA) : TE := fun σ H Q => t σ H fun xs H1 => xs.length ≤ sizeLine ∧ ∀ p, H1 p = none → Q (.ref p) (upd H1 p (.tup xs))
def tLst (t : TA) : TE := fun σ H Q => t σ H fun xs H1 => xs.length ≤ sizeLine ∧ ∀ p, H1 p = none → Q (.ref p) (upd H1 p (.lst xs))
theorem pe_tup {x1} (h : PA X es t) : PE X (.Tuple es x1 pos) (tTup t) := by
  intro pins s σ H Q I hq
  refine wpAny_Tuple_spliced (thn (h pos pins s σ H _ I hq) fun us s1 ⟨xs, H1, I1, r, z, q⟩ => ⟨by rw [← r.length]; exact z, ?_⟩)
  have hf : H1 s1.heap.objs.size = none := I1.hok.fresh (Nat.le_refl _)
  refine ⟨.ref s1.heap.objs.size, upd H1 s1.heap.objs.size (.tup xs), I1.laid (t' := s1.toks) (fun b u e => Heap.get?_push_of_some _ e) (Nat.le_refl _) ?_, rfl, q _ hf⟩
  exact ⟨z, us, r, ⟨_, Heap.get?_push_size _ rfl, rfl, _, rfl⟩⟩
theorem pe_lst (h : PA X es t) : PE X (.List es pos) (tLst t) := by
  intro pins s σ H Q I hq
  refine wpAny_List_spliced (thn (h pos pins s σ H _ I hq) fun us s1 ⟨xs, H1, I1, r, z, q⟩ => ⟨by rw [← r.length]; exact z, ?_⟩)
  have hf : H1 s1.heap.objs.size = none := I1.hok.fresh (Nat.le_refl _)
  refine ⟨.ref s1.heap.objs.size, upd H1 s1.heap.objs.size (.lst xs), I1.laid (t' := s1.toks) (fun b u e => Heap.get?_push_of_some _ e) (Nat.le_refl _) ?_, rfl, q _ hf⟩
  exact ⟨z, us, 0, r, Heap.get?_push_size _ rfl⟩
end
abbrev Sp := List V → Hp → VK → XK → Prop
abbrev CXT := List Env → Hp → Shared → XK → Value → Shared → Prop
structure Env0 (P : Program) (w : World) (K : PySem.W.Frag) (mg : Str → Option Value) (base : Heap) (A : Around) (outer : List Env) (s : Shared) (H : Hp) : Prop where
  frames : A.frames = some outer
  mod : Mod K mg base
  bs : ∀ b o, base.get? b = some o → s.heap.get? b = some o ∧ H b = none
  bsz : base.objs.size ≤ s.heap.objs.size
  funs : s.heap.FunFrames base outer
  frf : ∀ b ∈ frs outer, H b = none
  hok : HOk P w H s.heap
  bare : AllBare s.gens
def CE (outer : List Env) (P : Program) (w : World) (H : Hp) (s : Shared) (Q : VK) (u : Value) (s' : Shared) : Prop :=
  ∃ v H', s'.os = s.os ∧ AllBare s'.gens ∧ Un (frs outer) [] H H' s.heap s'.heap ∧ HOk P w H' s'.heap ∧ RelV v u ∧ Q v H'
def CR (CX : CXT) (outer : List Env) (P : Program) (w : World) (H : Hp) (s : Shared) (Q : VK) (E : XK) (r : Result) (s' : Shared) : Prop :=
  match r with
  | .ok (.ret u) => CE outer P w H s Q u s'
  | .ok _ => False
  | .error e => CX outer H s E e s'
structure FnOk (P : Program) (w : World) (K : PySem.W.Frag) (mg : Str → Option Value) (base : Heap) (CX : CXT) (k : Nat) (f : Addr) (fd : FuncData) (ps : List Str) (sp : Sp) : Prop where
  len : ∀ vs H Q E, sp vs H Q E → vs.length = ps.length
  run : ∀ (A : Around) (outer : List Env) (s : Shared) (H : Hp) (args : Args) (us : List Value) (vs : List V) (Q : VK) (E : XK), Room k A → Env0 P w K mg base A outer s H → BindsTo s fd args (ps.zip us) → Vals vs us → sp vs H Q E →
    codeAny (model P w) A (.call (.ref f) args) (CR CX outer P w H s Q E) s
theorem FnOk.imp {P : Program} {w : World} {K : PySem.W.Frag} {mg : Str → Option Value} {base : Heap} {CX : CXT} {k : Nat} {f : Addr} {fd : FuncData} {ps : List Str} {sp sp' : Sp} (F : FnOk P w K mg base CX k f fd ps sp)
    (h : ∀ vs H Q E, sp' vs H Q E → sp vs H Q E) : FnOk P w K mg base CX k f fd ps sp' :=
  ⟨fun vs H Q E q => F.len vs H Q E (h _ _ _ _ q), fun A outer s H args us vs Q E hr he hb hv hs => F.run A outer s H args us vs Q E hr he hb hv (h _ _ _ _ hs)⟩
theorem Env0.make {P : Program} {w : World} {K : PySem.W.Frag} {mg : Str → Option Value} {base : Heap} {A : Around} {outer : List Env} {s : Shared} {H : Hp} (e : Env0 P w K mg base A outer s H) (C : Addr) (us : List Value) (kw : List (Str × Value)) :
    Env0 P w K mg base (A.under (.builtin "type.__call__" ⟨.ref C :: us, kw⟩)) outer s H := ⟨by first | exact e.frames | (simpa [Around.under, Code.envs, Code.isFrame, pushEnvs] using e.frames), e.mod, e.bs, e.bsz, e.funs, e.frf, e.hok, e.bare⟩
section
variable {X : Cx} {pins : List (Addr × Obj)} {σ : St} {H : Hp} {s s' : Shared}
theorem Inv.env0 (I : Inv X pins σ H s) : Env0 X.prog X.w X.K X.mg X.base X.A X.stack s H :=
  ⟨I.ok.frames, I.ok.mod, I.bs, Nat.le_trans I.ok.bsz I.sz, I.stack, I.stkFree, I.hok, I.bare⟩
theorem Inv.after {Q : VK} {u : Value} (I : Inv X pins σ H s) (h : CE X.stack X.prog X.w H s Q u s') : EP X pins σ Q u s' := by
  obtain ⟨v, H', os, bare, un, hok, r, q⟩ := h
  obtain ⟨hh, g, d, t, os'⟩ := s'
  obtain rfl : os' = s.os := os
  exact ⟨v, H', I.call (h' := hh) (g' := g) (d' := d) (t' := t) (ch := []) un hok bare (fun b z => absurd z (by simp)), r, q⟩
end
def tCall (sp : Sp) (dvs : List V) (E : XK) (t : TA) : TE := fun σ H Q => t σ H fun vs H1 => sp (vs ++ dvs) H1 Q E
def tMeth (C : Addr) (m : Str) (sp : Sp) (dvs : List V) (E : XK) (ta : TE) (t : TA) : TE := fun σ H Q => ta σ H fun x H1 => ∃ a dx fs, x = .ref a ∧ H1 a = some (.ins C dx fs) ∧ fs.lookup m = none ∧
  t σ H1 fun vs H2 => sp (x :: (vs ++ dvs)) H2 Q E
def tMake (C : Addr) (sp : Sp) (dvs : List V) (E : XK) (t : TA) : TE := fun σ H Q => t σ H fun vs H1 => ∀ x dx, H1 x = none → H1 dx = none → dx ≠ x →
  sp (.ref x :: (vs ++ dvs)) (upd (upd H1 dx (.own x)) x (.ins C dx [])) (fun v H2 => v = .non ∧ Q (.ref x) H2) E
def Binds (K : PySem.W.Frag) (fd : FuncData) (ps : List Str) (ds : List Value) : Prop :=
  ∀ (s : Shared) (us : List Value), K.In s.heap → (us ++ ds).length = ps.length → BindsTo s fd ⟨us, []⟩ (ps.zip (us ++ ds))
theorem Binds.all {K : PySem.W.Frag} {fd : FuncData} {ps : List Str} (h : ∀ us : List Value, us.length = ps.length → bindArgs fd ⟨us, []⟩ = pure (ps.zip us)) : Binds K fd ps [] := fun s us _ hl => by
  rw [List.append_nil] at hl ⊢
  exact .of_eq (h us hl)
def Passes (CX : CXT) (X : Cx) (E : XK) : Prop := ∀ (pins : List (Addr × Obj)) (σ : St) (H : Hp) (s : Shared) (e : Value) (s' : Shared), Inv X pins σ H s → CX X.stack H s E e s' → X.xe e s'
section
variable {X : Cx} {CX : CXT} {k : Nat} {f C : Addr} {fd : FuncData} {ps : List Str} {sp : Sp} {dvs : List V} {ds : List Value} {E : XK} {x m : Str} {p pos apos : Pos} {e o : Expr} {es : List Expr} {ta : TE} {t : TA}
theorem run_fn {pins : List (Addr × Obj)} {σ : St} {H : Hp} {s : Shared} {Q : VK} {us : List Value} {vs : List V} (F : FnOk X.prog X.w X.K X.mg X.base CX k f fd ps sp) (hr : Room k X.A) (hb : Binds X.K fd ps ds) (hd : Vals dvs ds) (hx : Passes CX X E)
    (I : Inv X pins σ H s) (r : Vals vs us) (h : sp (vs ++ dvs) H Q E) : wpAny (model X.prog X.w) X.A (call (.ref f) us) (EP X pins σ Q) X.xe s := by
  have r2 : Vals (vs ++ dvs) (us ++ ds) := r.append hd
  have hl : (us ++ ds).length = ps.length := by rw [← r2.length]; exact F.len _ _ _ _ h
  refine wpAny_call (codeAny_mono (F.run X.A X.stack s H ⟨us, []⟩ (us ++ ds) (vs ++ dvs) Q E hr I.env0 (hb s us I.kIn hl) r2 h) fun r s' hq => ?_)
  cases r with
  | error e => exact hx pins σ H s e s' I hq
  | ok fl =>
    cases fl with
    | ret u => exact I.after hq
    | next => exact False.elim hq
    | brk => exact False.elim hq
    | cont => exact False.elim hq
theorem pe_call (F : FnOk X.prog X.w X.K X.mg X.base CX k f fd ps sp) (hr : Room k X.A) (hg : Gl X x) (hm : X.mg x = some (.ref f)) (hk : PySem.W.keepIn X.K (.ref f) = true) (hb : Binds X.K fd ps ds) (hd : Vals dvs ds) (hx : Passes CX X E)
    (ha : PA X (e :: es) t) (hdb : (x == ("__debug__" : Str)) = false := by decide) (he : starEach (e :: es) X.env = (false, eval e X.env) :: starEach es X.env := by rfl) (hpl : (backTo pos (starEach es X.env)).any (·.1) = false := by rfl) :
    PE X (.Call (.Name x p) (e :: es) [] pos) (tCall sp dvs E t) := by
  intro pins s σ H Q I h
  refine wpAny_Call_Name_kw (ld_glob I hg hm ?_ hdb)
  refine PySem.W.callWith_K (h₀ := X.base) I.ok.mod.kin hk (thn (ha pos pins s σ H _ I h) fun us s1 ⟨vs, H1, I1, r, q⟩ => ⟨I1.kIn, ?_⟩) he hpl
  exact run_fn F hr hb hd hx I1 r q
theorem pe_meth {pl : Sem Bool} (he : PE X o ta) (c : Cls X.K C) (hm : Meth X.K C m f) (F : FnOk X.prog X.w X.K X.mg X.base CX k f fd ps sp) (hr : Room k X.A) (hb : Binds X.K fd ps ds) (hd : Vals dvs ds) (hx : Passes CX X E) (ha : PA X (e :: es) t)
    (hst : starEach (e :: es) X.env = (false, eval e X.env) :: starEach es X.env := by rfl) (hpl : (backTo pos (starEach es X.env)).any (·.1) = false := by rfl)
    (ht : eval (.Call (.Attribute o m apos) (e :: es) [] pos) X.env = (do
      let ov ← eval o X.env
      standAt apos.atName
      let (f, first) ← holding [ov] (getMethod ov m pl)
      callWith pos f first (backTo pos (starEach (e :: es) X.env)) (backToKw pos (keywordEach [] X.env))) := by rfl) :
    PE X (.Call (.Attribute o m apos) (e :: es) [] pos) (tMeth C m sp dvs E ta t) := by
  intro pins s σ H Q I h
  refine PySem.W.methodCall_KW (pl := pl) (thn (he pins s σ H _ I h) fun u s1 ⟨x, H1, I1, rx, a, dx, fs, ex, ea, l, q⟩ => ?_) ht
  subst ex
  obtain rfl : u = Value.ref a := rx
  refine getmeth_ok I1 ea c hm l ?_
  refine PySem.W.callWith_K (first := [.ref a]) (h₀ := X.base) I.ok.mod.kin hm.kp (thn (ha pos pins s1 σ H1 _ I1 q) fun us s2 ⟨vs, H2, I2, r, q2⟩ => ⟨I2.kIn, ?_⟩) hst hpl
  exact run_fn (us := .ref a :: us) (vs := .ref a :: vs) F hr hb hd hx I2 (.cons rfl r) q2
structure Mk (K : PySem.W.Frag) (C f : Addr) : Prop where
  makes : PySem.W.makesIn K C = true
  init : PySem.W.findIn K (.ref C) "__init__" = some (some (.ref f))
  fn : PySem.W.isFn K (.ref f) = true
  kp : PySem.W.keepIn K (.ref C) = true
theorem run_make {pins : List (Addr × Obj)} {σ : St} {H : Hp} {s : Shared} {Q : VK} {us : List Value} {vs : List V} (M : Mk X.K C f) (F : FnOk X.prog X.w X.K X.mg X.base CX k f fd ps sp) (hr : Room (k + 1) X.A) (hb : Binds X.K fd ps ds) (hd : Vals dvs ds)
    (hx : Passes CX X E) (I : Inv X pins σ H s) (r : Vals vs us)
    (h : ∀ x dx, H x = none → H dx = none → dx ≠ x → sp (.ref x :: (vs ++ dvs)) (upd (upd H dx (.own x)) x (.ins C dx [])) (fun v H2 => v = .non ∧ Q (.ref x) H2) E) :
    wpAny (model X.prog X.w) X.A (call (.ref C) us) (EP X pins σ Q) X.xe s := by
  have hq := h (s.heap.objs.size + 1) s.heap.objs.size (I.hok.fresh (Nat.le_succ _)) (I.hok.fresh (Nat.le_refl _)) (Nat.ne_of_lt (Nat.lt_succ_self _))
  have I2 := Inv.made (C := C) I
  have r2 : Vals (V.ref (s.heap.objs.size + 1) :: (vs ++ dvs)) (Value.ref (s.heap.objs.size + 1) :: (us ++ ds)) := .cons rfl (r.append hd)
  have hl : (Value.ref (s.heap.objs.size + 1) :: us ++ ds).length = ps.length := by
    have e := r2.length
    rw [F.len _ _ _ _ hq] at e
    exact e.symm
  refine wpAny_call (make_map (f := f) I.kIn M.makes M.init (beq_iff_eq.mp M.fn) (codeAny_mono (F.run _ X.stack _ _ ⟨Value.ref (s.heap.objs.size + 1) :: us, []⟩ (Value.ref (s.heap.objs.size + 1) :: (us ++ ds)) _ _ E (hr.make C us [])
    (I2.env0.make C us []) (hb _ (Value.ref (s.heap.objs.size + 1) :: us) I2.kIn hl) r2 hq) fun r s' hq' => ?_))
  cases r with
  | error e => exact hx pins σ _ _ e s' I2 hq'
  | ok fl =>
    cases fl with
    | ret u =>
      obtain ⟨v, H', I3, rv, ev, q3⟩ := I2.after hq'
      subst ev
      exact ⟨rv, ⟨V.ref (s.heap.objs.size + 1), H', I3, rfl, q3⟩⟩
    | next => exact False.elim hq'
    | brk => exact False.elim hq'
    | cont => exact False.elim hq'
theorem pe_make (M : Mk X.K C f) (F : FnOk X.prog X.w X.K X.mg X.base CX k f fd ps sp) (hr : Room (k + 1) X.A) (hg : Gl X x) (hm : X.mg x = some (.ref C)) (hb : Binds X.K fd ps ds) (hd : Vals dvs ds) (hx : Passes CX X E)
    (ha : PA X (e :: es) t) (hdb : (x == ("__debug__" : Str)) = false := by decide) (he : starEach (e :: es) X.env = (false, eval e X.env) :: starEach es X.env := by rfl) (hpl : (backTo pos (starEach es X.env)).any (·.1) = false := by rfl) :
    PE X (.Call (.Name x p) (e :: es) [] pos) (tMake C sp dvs E t) := by
  intro pins s σ H Q I h
  refine wpAny_Call_Name_kw (ld_glob I hg hm ?_ hdb)
  refine PySem.W.callWith_K (h₀ := X.base) I.ok.mod.kin M.kp (thn (ha pos pins s σ H _ I h) fun us s1 ⟨vs, H1, I1, r, q⟩ => ⟨I1.kIn, ?_⟩) he hpl
  exact run_make M F hr hb hd hx I1 r q
end
section
variable {X : Cx} {CX : CXT} {k : Nat} {f C : Addr} {fd : FuncData} {ps ks : List Str} {sp : Sp} {E : XK} {x m : Str} {p pos apos kpos : Pos} {e o : Expr} {es : List Expr} {kws : List Keyword} {te ta : TE} {t tk : TA} {nm : Option Str}
structure KBinds (K : PySem.W.Frag) (fd : FuncData) (ps ks : List Str) (g : List Value → List Value → List Value) (gV : List V → List V → List V) : Prop where
  to : ∀ (s : Shared) (us ws : List Value), K.In s.heap → (g us ws).length = ps.length → BindsTo s fd ⟨us, ks.zip ws⟩ (ps.zip (g us ws))
  rel : ∀ {vs : List V} {us : List Value} {zs : List V} {ws : List Value}, Vals vs us → Vals zs ws → Vals (gV vs zs) (g us ws)
variable {g : List Value → List Value → List Value} {gV : List V → List V → List V}
end
structure FnScope (N P : List Str) (sc : Scope) : Prop where
  kind : sc.kind = .function
  co : sc.isCoroutine = false
  gen : sc.isGenerator = false
  nd : N.Nodup
  pre : N.take P.length = P
  par : ∀ x ∈ P, sc.names.lookup x = some .local ∨ sc.names.lookup x = some .cell
  nofree : ∀ y ∈ sc.names, y.2 ≠ .free
theorem bindL_out {kindOf : Str → Option NameKind} {x : Str} : ∀ {binds : List (Str × Value)} {m : Str → Option Value}, (∀ v, (x, v) ∉ binds) → bindL kindOf binds m x = m x
  | [], _, _ => rfl
  | (n, v) :: r, m, h => by
    unfold bindL
    rw [bindL_out fun w hw => h w (List.mem_cons_of_mem _ hw)]
    split
    · have : x ≠ n := by rintro rfl; exact h v List.mem_cons_self
      simp [this]
    · rfl
theorem bindC_out {kindOf : Str → Option NameKind} {x : Str} : ∀ {binds : List (Str × Value)} {m : Str → Option Value}, (∀ v, (x, v) ∉ binds) → bindC kindOf binds m x = m x
  | [], _, _ => rfl
  | (n, v) :: r, m, h => by
    unfold bindC
    rw [bindC_out fun w hw => h w (List.mem_cons_of_mem _ hw)]
    split
    · rfl
    · have : x ≠ n := by rintro rfl; exact h v List.mem_cons_self
      simp [this]
theorem bindL_get {kindOf : Str → Option NameKind} {x : Str} {v : Value} : ∀ {P : List Str} {vs : List Value} {i : Nat} {m : Str → Option Value}, P.Nodup → P[i]? = some x → vs[i]? = some v → kindOf x = some .local →
    bindL kindOf (P.zip vs) m x = some v
  | [], _, _, _, _, h, _, _ => by simp at h
  | _ :: _, [], _, _, _, _, h, _ => by simp at h
  | p :: P, w :: vs, 0, m, nd, h1, h2, hk => by
    simp at h1 h2; subst h1; subst h2
    show bindL kindOf ((p, w) :: P.zip vs) m p = _
    unfold bindL
    rw [bindL_out fun v hv => (List.nodup_cons.mp nd).1 (List.of_mem_zip hv).1, if_pos hk]
    simp
  | p :: P, w :: vs, i + 1, m, nd, h1, h2, hk => by
    show bindL kindOf ((p, w) :: P.zip vs) m x = _
    unfold bindL
    exact bindL_get (i := i) (List.nodup_cons.mp nd).2 (by simpa using h1) (by simpa using h2) hk
theorem bindC_get {kindOf : Str → Option NameKind} {x : Str} {v : Value} : ∀ {P : List Str} {vs : List Value} {i : Nat} {m : Str → Option Value}, P.Nodup → P[i]? = some x → vs[i]? = some v → kindOf x ≠ some .local →
    bindC kindOf (P.zip vs) m x = some v
  | [], _, _, _, _, h, _, _ => by simp at h
  | _ :: _, [], _, _, _, _, h, _ => by simp at h
  | p :: P, w :: vs, 0, m, nd, h1, h2, hk => by
    simp at h1 h2; subst h1; subst h2
    show bindC kindOf ((p, w) :: P.zip vs) m p = _
    unfold bindC
    rw [bindC_out fun v hv => (List.nodup_cons.mp nd).1 (List.of_mem_zip hv).1, if_neg hk]
    simp
  | p :: P, w :: vs, i + 1, m, nd, h1, h2, hk => by
    show bindC kindOf ((p, w) :: P.zip vs) m x = _
    unfold bindC
    exact bindC_get (i := i) (List.nodup_cons.mp nd).2 (by simpa using h1) (by simpa using h2) hk
def start (N : List Str) (vs : List V) : St := vs.map some ++ List.replicate (N.length - vs.length) none
def cxOf (CX : CXT) (P : Program) (w : World) (K : PySem.W.Frag) (mg : Str → Option Value) (base : Heap) (N : List Str) (qual : Str) (scope : Scope) (f : Addr) (cd : Value) (A : Around) (outer : List Env) (s : Shared) (H : Hp) (E : XK) : Cx where
  prog := P
  w := w
  K := K
  mg := mg
  base := base
  A := A.deeper (envOfC qual scope s.heap.objs.size f cd)
  N := N
  s₀ := s
  H₀ := H
  env := envOfC qual scope s.heap.objs.size f cd
  outer := outer
  stack := envOfC qual scope s.heap.objs.size f cd :: outer
  ex := []
  calm := true
  fn := fun _ => true
  pn := []
  xe := fun e s' => wpAny (model P w) (A.deeper (envOfC qual scope s.heap.objs.size f cd)) (leaving (envOfC qual scope s.heap.objs.size f cd) e) (fun _ s'' => CX outer H s E e s'') (fun e' s'' => CX outer H s E e' s'') s'
theorem cell_has {sc : Scope} {n : Nat} {x : Str} (h : sc.names.lookup x = some .cell) : ∃ c, (cellsFrom n sc.names []).lookup x = some c := by
  have q := PySem.W.cellsFrom_some sc.names n [] (.inl h)
  exact Option.isSome_iff_exists.mp q
theorem inv_start {CX : CXT} {P : Program} {w : World} {K : PySem.W.Frag} {mg : Str → Option Value} {base : Heap} {N ps : List Str} {qual : Str} {scope : Scope} {f : Addr} {cd : Value} {A : Around} {outer : List Env} {s s1 : Shared} {H : Hp} {E : XK} {us : List Value} {vs : List V}
    (S : FnScope N ps scope) (hd : A.handled = none) (e0 : Env0 P w K mg base A outer s H) (hl : vs.length = ps.length) (r : Vals vs us)
    (x : InCallC s s.heap.objs.size (bindL (envOfC qual scope s.heap.objs.size f cd).kindOf (ps.zip us) fun _ => none) (cellsFrom (s.heap.objs.size + 1) scope.names []) (bindC (envOfC qual scope s.heap.objs.size f cd).kindOf (ps.zip us) fun _ => none) s1) :
    Inv (cxOf CX P w K mg base N qual scope f cd A outer s H E) [] (start N vs) H s1 := by
  have hpl : ps.length ≤ N.length := by have := congrArg List.length S.pre; rw [List.length_take] at this; omega
  obtain ⟨h1, tk, rfl, hk⟩ := x.done
  have noA : ∀ b : Addr, b ∉ (cxOf CX P w K mg base N qual scope f cd A outer s H E).ex := fun b z => absurd (show b ∈ ([] : List Addr) from z) (by simp)
  refine ⟨⟨e0.mod, S.kind, rfl, rfl, Nat.le_refl _, fun y z c h1 h2 => ?_, fun y hy => ?_, fun y c _ h => ?_, fun _ => hd, Around.frames_deeper e0.frames, .inr ⟨rfl, rfl⟩, fun b z => absurd z (noA b), e0.bs, e0.bsz, fun b _ _ => noA b, fun b z => absurd z (noA b), e0.funs, e0.frf⟩,
    rfl, e0.bare, Un.kept hk, ⟨_, x.toInCall.ns, fun i y v h1 h2 h3 => ?_⟩, fun y c h => ⟨_, x.cell y c h⟩, e0.hok.fresh (Nat.le_refl _), fun y c h => ?_, fun p hp => absurd (show p ∈ ([] : List (Addr × Obj)) from hp) (by simp), e0.hok.kept hk, ?_⟩
  · exact name_of_addr x.apart (PySem.mem_of_lookup h1) (PySem.mem_of_lookup h2)
  · have hy : scope.names.lookup y = some .cell ∨ scope.names.lookup y = some .free := hy
    rcases hy with hy | hy
    · exact cell_has hy
    · exact absurd rfl (S.nofree _ (PySem.mem_of_lookup hy))
  · exact Nat.le_of_lt (x.above y c (PySem.mem_of_lookup h))
  · have hi : i < vs.length := by
      unfold start at h2
      by_cases hi : i < vs.length
      · exact hi
      · rw [List.getElem?_append_right (by simpa using hi)] at h2
        rw [List.getElem?_replicate] at h2
        split at h2 <;> cases h2
    have ha : vs[i]? = some v := by
      unfold start at h2
      rw [List.getElem?_append_left (by simpa using hi), List.getElem?_map] at h2
      cases e : vs[i]? with
      | none => rw [e] at h2; cases h2
      | some a => rw [e] at h2; cases h2; rfl
    obtain ⟨u, hu, rv⟩ := r.get ha
    have hp : ps[i]? = some y := by
      rw [← S.pre, List.getElem?_take_of_lt (by omega)]; exact h1
    have ndP : ps.Nodup := by rw [← S.pre]; exact S.nd.sublist (List.take_sublist _ _)
    refine ⟨u, rv, ?_⟩
    rcases S.par y (List.mem_of_getElem? hp) with k | k
    · exact .inl ⟨k, bindL_get ndP hp hu k⟩
    · obtain ⟨c, e⟩ := cell_has (n := s.heap.objs.size + 1) k
      refine .inr ⟨.inl k, c, e, ?_⟩
      have q := x.cell y c e
      rw [bindC_get ndP hp hu (by show scope.names.lookup y ≠ _; rw [k]; decide)] at q
      exact q
  · exact e0.hok.fresh (Nat.le_of_lt (x.above y c (PySem.mem_of_lookup h)))
  · unfold start
    show _ = N.length
    rw [List.length_append, List.length_map, List.length_replicate]
    omega
theorem fn_of {CX : CXT} {P : Program} {w : World} {K : PySem.W.Frag} {mg : Str → Option Value} {base : Heap} {k : Nat} {f : Addr} {name qual : Str} {params : Arguments} {body : List Stmt} {scope : Scope} {dV kV doc pm cdv ct oc : Value} {an od : Option Addr}
    {osl : Array (Option Value)} {N ps : List Str} {sp : Sp} (lk : K.lookup f = some ⟨oc, od, .func (PySem.W.fnOf name qual params body scope dV kV doc pm an cdv ct), osl⟩) (hcd : PySem.W.codeIn K cdv qual = true) (S : FnScope N ps scope)
    (len : ∀ vs H Q E, sp vs H Q E → vs.length = ps.length)
    (hbody : ∀ (A : Around) (outer : List Env) (s : Shared) (H : Hp) (vs : List V) (Q : VK) (E : XK), Room k (A.deeper (envOfC qual scope s.heap.objs.size f cdv)) → sp vs H Q E →
      ∃ t, PSs (cxOf CX P w K mg base N qual scope f cdv A outer s H E) body t ∧ t { nx := fun _ H' => Q .non H', rt := Q } (start N vs) H) :
    FnOk P w K mg base CX (k + 1) f (PySem.W.fnOf name qual params body scope dV kV doc pm an cdv ct) ps sp := by
  refine ⟨len, fun A outer s H args us vs Q E hr e0 hb r hsp => ?_⟩
  have hl := len _ _ _ _ hsp
  have KX : K.In s.heap := e0.mod.kin.keeps fun b o e => (e0.bs b o e).1
  have lim : s.heap.NoLimit := e0.mod.nolimit.keeps fun b o e => (e0.bs b o e).1
  have hkind : ∀ y ∈ ps.zip us, scope.names.lookup y.1 = some .local ∨ (scope.names.lookup y.1 = some .cell ∧ ((cellsFrom (s.heap.objs.size + 1) scope.names []).lookup y.1).isSome = true) := fun ⟨n, v⟩ hy => by
    rcases S.par n (List.of_mem_zip hy).1 with q | q
    · exact .inl q
    · exact .inr ⟨q, PySem.W.cellsFrom_some _ _ _ (.inl q)⟩
  refine codeAny_call_function hr.depth (KX _ _ lk) rfl S.co S.gen rfl (PySem.W.codeRec_of KX hcd) (hb _ _ _ _ ?_)
  refine wpAny_newFunctionEnv_cells S.kind hkind fun env he s1 x => ?_
  subst he
  refine ⟨lim.keeps x.toInCall.keep, codeAny_func ?_⟩
  obtain ⟨t, ht, hq⟩ := hbody A outer s H vs Q E (hr.deeper _) hsp
  have I : Inv (cxOf CX P w K mg base N qual scope f cdv A outer s H E) [] (start N vs) H s1 := inv_start S hr.hd e0 hl r x
  refine wpAny_mono (ht [] s1 (start N vs) H _ I hq) (fun fl s' hs => ?_) fun e s' hs => hs
  have fin : ∀ {σ' : St} {H' : Hp} {v : V} {u : Value}, Inv (cxOf CX P w K mg base N qual scope f cdv A outer s H E) [] σ' H' s' → RelV v u → Q v H' → CE outer P w H s Q u s' :=
    fun {σ' H' v u} J rv q => ⟨v, H', J.os, J.bare, J.base, J.hok, rv, q⟩
  cases fl with
  | ret u =>
    obtain ⟨v, σ', H', J, rv, q⟩ := hs
    exact fin J rv q
  | next =>
    obtain ⟨σ', H', J, q⟩ := hs
    exact fin (v := V.non) (u := Value.none) J rfl q
  | brk =>
    obtain ⟨_, _, _, q⟩ := hs
    exact False.elim q
  | cont =>
    obtain ⟨_, _, _, q⟩ := hs
    exact False.elim q
end L2
namespace L2
open PySem PySem.Spec PyProof.Rows
section
variable {X : Cx} {x : Str} {p pos : Pos} {e : Expr} {es : List Expr} {t : TA} {id T : String} {r : List V → Hp → VK → Prop}
def tCB (r : List V → Hp → VK → Prop) (t : TA) : TE := fun σ H Q => t σ H fun vs H1 => r vs H1 Q
theorem pe_callB (hc : CallR X (.builtin id) r) (hg : Gl X x) (hm : X.mg x = none) (hv : bootBuiltins x = some (.builtin id)) (ha : PA X (e :: es) t) (hn : x ≠ "__name__" := by decide) (hdb : (x == ("__debug__" : Str)) = false := by decide)
    (he : starEach (e :: es) X.env = (false, eval e X.env) :: starEach es X.env := by rfl) (hpl : (backTo pos (starEach es X.env)).any (·.1) = false := by rfl) : PE X (.Call (.Name x p) (e :: es) [] pos) (tCB r t) := by
  intro pins s σ H Q I h
  refine wpAny_Call_Name_kw (ld_blt I hg hm hv ?_ hn hdb)
  exact PyProof.Rows.callWith_builtin1 (thn (ha pos pins s σ H _ I h) fun us s1 ⟨vs, H1, I1, r1, q1⟩ => hc pins s1 σ H1 vs us Q I1 r1 q1) he hpl
theorem pe_callTy (hc : CallR X (.type T) r) (hg : Gl X x) (hm : X.mg x = none) (hv : bootBuiltins x = some (.type T)) (ha : PA X (e :: es) t) (hn : x ≠ "__name__" := by decide) (hdb : (x == ("__debug__" : Str)) = false := by decide)
    (he : starEach (e :: es) X.env = (false, eval e X.env) :: starEach es X.env := by rfl) (hpl : (backTo pos (starEach es X.env)).any (·.1) = false := by rfl) : PE X (.Call (.Name x p) (e :: es) [] pos) (tCB r t) := by
  intro pins s σ H Q I h
  refine wpAny_Call_Name_kw (ld_blt I hg hm hv ?_ hn hdb)
  exact PyProof.Rows.callWith_type1 (thn (ha pos pins s σ H _ I h) fun us s1 ⟨vs, H1, I1, r1, q1⟩ => hc pins s1 σ H1 vs us Q I1 r1 q1) he hpl
end
end L2
namespace HT
open PySem PyProof.Rows
section
open PySem.SeqAt
open PySem.AutoSeq1 (wpAny_loadPart')
open PySem.MeetsSeq PySem.MeetsSeq2 PySem.MeetsSeq3
end
section
variable {prog : Program} {w : World} {A : Around} {E : Value → Shared → Prop} {s : Shared}
end
end HT
namespace L2
open PySem PySem.Spec PyProof.Rows
abbrev TO := St → Hp → (Option Int → Hp → Prop) → Prop
def PO (X : Cx) (e : Option Expr) (t : TO) : Prop :=
  ∀ (pins : List (Addr × Obj)) (s : Shared) (σ : St) (H : Hp) (Q : Option Int → Hp → Prop), Inv X pins σ H s → t σ H Q →
    wpAny (model X.prog X.w) X.A (evalPart e X.env) (fun u s' => ∃ o H', Inv X pins σ H' s' ∧ IsPart u o ∧ Q o H') X.xe s
theorem intsAre_of {ns : List Int} : ∀ {us : List Value}, Vals (ns.map V.int) us → IntsAre us ns := by
  induction ns with
  | nil => intro us r; rw [List.map_nil] at r; cases r; exact .nil
  | cons n ns ih =>
    intro us r
    rw [List.map_cons] at r
    cases r with
    | cons r1 r2 =>
      obtain ⟨t, e⟩ := r1
      subst e
      exact .cons n t (ih r2)
section
variable {X : Cx} {e : Expr} {te : TE} {lo hi : Option Expr} {tl th : TO} {pos p2 : Pos}
end
end L2
namespace L2
open PySem PySem.Spec PyProof.Rows
def ixN (n : Nat) (i : Int) : Option Nat := if 0 ≤ i then (if i < n then some i.toNat else none) else if -(n : Int) ≤ i then some (i + n).toNat else none
def atI {α : Type} (xs : List α) (i : Int) : Option α := (ixN xs.length i).bind fun j => xs[j]?
theorem ixN_seq {n : Nat} {i : Int} {j : Nat} (h : ixN n i = some j) : seqIndex? i n = some j ∧ j < n ∧ -(n : Int) ≤ i ∧ i < n := by
  unfold ixN at h
  by_cases h0 : 0 ≤ i
  · rw [if_pos h0] at h
    by_cases h1 : i < n
    · rw [if_pos h1] at h
      have e : i.toNat = j := Option.some.inj h
      exact ⟨by rw [seqIndex_of h0 h1, e], by omega, by omega, h1⟩
    · rw [if_neg h1] at h; cases h
  · rw [if_neg h0] at h
    by_cases h1 : -(n : Int) ≤ i
    · rw [if_pos h1] at h
      have e : (i + n).toNat = j := Option.some.inj h
      exact ⟨by rw [seqIndex_neg (by omega) h1, e], by omega, h1, by omega⟩
    · rw [if_neg h1] at h; cases h
theorem atI_get {α : Type} {xs : List α} {i : Int} {v : α} (h : atI xs i = some v) : ∃ j, seqIndex? i xs.length = some j ∧ xs[j]? = some v ∧ j < xs.length ∧ -(xs.length : Int) ≤ i ∧ i < xs.length := by
  unfold atI at h
  cases e : ixN xs.length i with
  | none => rw [e] at h; cases h
  | some j =>
    rw [e] at h
    obtain ⟨h1, h2, h3, h4⟩ := ixN_seq e
    exact ⟨j, h1, h, h2, h3, h4⟩
theorem atI_nat {α : Type} {xs : List α} {j : Nat} {v : α} (h : xs[j]? = some v) : atI xs (j : Int) = some v := by
  have hj : j < xs.length := (List.getElem?_eq_some_iff.mp h).1
  have e : ixN xs.length (j : Int) = some j := by
    unfold ixN
    rw [if_pos (by omega), if_pos (by omega)]; simp
  unfold atI; rw [e]; exact h
def PlainIx (b : Expr) : Prop := ∀ o i, subscripted b false o i = operate [o, i] (getItem o i)
def IxR (X : Cx) (r : R2) : Prop :=
  ∀ (value slice : Expr) (pins : List (Addr × Obj)) (s : Shared) (σ : St) (H : Hp) (x y : V) (v u : Value) (Q : VK), Inv X pins σ H s → RelV x v → RelV y u → r x y H Q →
    subscripted slice false v u = operate [v, u] (getItem v u) → wpAny (model X.prog X.w) X.A (subscriptTail value slice v u) (EP X pins σ Q) X.xe s
def MtR (X : Cx) (id : String) (r : V → List V → Hp → VK → Prop) : Prop :=
  ∀ (pins : List (Addr × Obj)) (s : Shared) (σ : St) (H : Hp) (x : V) (xs : List V) (v : Value) (us : List Value) (Q : VK), Inv X pins σ H s → RelV x v → Vals xs us → r x xs H Q →
    wpAny (model X.prog X.w) X.A (call (.builtin id) (v :: us)) (EP X pins σ Q) X.xe s
section
variable {X : Cx} {a b : Expr} {ta tb : TE} {pos : Pos}
theorem IxR.or {r r' : R2} (h : IxR X r) (h' : IxR X r') : IxR X (fun x y H Q => r x y H Q ∨ r' x y H Q) := by
  intro value slice pins s σ H x y v u Q I rx ry q hs
  rcases q with q | q
  · exact h value slice pins s σ H x y v u Q I rx ry q hs
  · exact h' value slice pins s σ H x y v u Q I rx ry q hs
theorem pe_ix {r : R2} (hr : IxR X r) (ha : PE X a ta) (hb : PE X b tb) (hs : PlainIx b) : PE X (.Subscript a b pos) (tOp r ta tb) := by
  intro pins s σ H Q I h
  exact Subscript_ (binT ha hb I h fun v u s2 x y H2 I2 rx ry q => hr a b pins s2 σ H2 x y v u Q I2 rx ry q (hs _ _))
def rIxL (K : PySem.W.Frag) : R2 := fun x y H Q => ∃ p xs i v, x = .ref p ∧ y = .int i ∧ SqL K H p xs ∧ atI xs i = some v ∧ Q v H
def rIxT (K : PySem.W.Frag) : R2 := fun x y H Q => ∃ p xs i v, x = .ref p ∧ y = .int i ∧ SqT K H p xs ∧ atI xs i = some v ∧ Q v H
def rIxS : R2 := fun x y H Q => ∃ z i c, x = .str z ∧ y = .int i ∧ z.length ≤ sizeLine ∧ atI z.cps.toList i = some c ∧ Q (.str ⟨#[c]⟩) H
theorem ix_list : IxR X (rIxL X.K) := by
  intro value slice pins s σ H x y v u Q I rx ry h hs
  obtain ⟨p, xs, i, z, rfl, rfl, hq, he, q⟩ := h
  cases rx
  obtain ⟨t, rfl⟩ := ry
  obtain ⟨its, r, pl, hz⟩ := I.list hq
  obtain ⟨j, h1, h2, h3, h4, h5⟩ := atI_get he
  obtain ⟨w, ew, rw'⟩ := r.get h2
  have hl := r.length
  have hn := line63
  have fin : EP X pins σ Q w s := ⟨z, H, I, rw', q⟩
  by_cases h0 : 0 ≤ i
  · have hj : i.toNat = j := by
      rw [seqIndex_of h0 h5] at h1
      exact Option.some.inj h1
    exact item_listR pl.isList h0 (by omega) (by rw [hj]; simpa using ew) fin hs
  · have hj : (i + (its.toArray.size : Int)).toNat = j := by
      rw [seqIndex_neg (by omega) h4] at h1
      rw [List.size_toArray, ← hl]
      exact Option.some.inj h1
    exact subscriptTail_builtinR (x := w) pl.isList.typeIs slot_list_getitem.lookup
      (wpAny_getItem_list_neg (Q := fun r s' => r = w ∧ EP X pins σ Q r s') pl.isList (by omega) (by rw [List.size_toArray] <;> omega) (by omega) (by rw [hj]; simpa using ew) ⟨rfl, fin⟩) hs
theorem ix_tup : IxR X (rIxT X.K) := by
  intro value slice pins s σ H x y v u Q I rx ry h hs
  obtain ⟨p, xs, i, z, rfl, rfl, hq, he, q⟩ := h
  cases rx
  obtain ⟨t, rfl⟩ := ry
  obtain ⟨its, r, pl, hz⟩ := I.tuple hq
  obtain ⟨j, h1, h2, h3, h4, h5⟩ := atI_get he
  obtain ⟨w, ew, rw'⟩ := r.get h2
  have hl := r.length
  have hn := line63
  have fin : EP X pins σ Q w s := ⟨z, H, I, rw', q⟩
  exact subscriptTail_builtinR (x := w) pl.typeIs slot_tuple_getitem.lookup
    (getItem_tuple (j := j) (Q := fun r s' => r = w ∧ EP X pins σ Q r s') pl (by omega) (by omega) (by rw [List.size_toArray, ← hl]; exact h1) (by simpa using ew) ⟨rfl, fin⟩) hs
theorem ix_str : IxR X rIxS := by
  intro value slice pins s σ H x y v u Q I rx ry h hs
  obtain ⟨z, i, c, rfl, rfl, hz, he, q⟩ := h
  obtain ⟨t, rfl⟩ := rx
  obtain ⟨t', rfl⟩ := ry
  obtain ⟨j, h1, h2, h3, h4, h5⟩ := atI_get he
  have hl : z.cps.toList.length = z.length := by simp [Str.length]
  rw [hl] at h1 h4 h5
  have hn := line63
  exact tail_any (typeIs_str s z t) slot_str_getitem.lookup (getItem_str (c := c) (by
    have e1 : decide (i < -(2 ^ 63 : Int)) = false := decide_eq_false (by omega)
    have e2 : decide (i ≥ 2 ^ 63) = false := decide_eq_false (by omega)
    rw [e1, e2, Bool.or_false]) (by rw [h1]; simpa using h2) ⟨.str ⟨#[c]⟩, H, I.tok _, ⟨_, rfl⟩, q⟩) hs
def rIx (K : PySem.W.Frag) : R2 := fun x y H Q => rIxL K x y H Q ∨ rIxT K x y H Q ∨ rIxS x y H Q
theorem ix_seq : IxR X (rIx X.K) := ix_list.or (ix_tup.or ix_str)
theorem mapSeq_set (its : List Value) (n j : Nat) (u : Value) : Obj.mapSeq (·.setIfInBounds j u) { cls := .type "list", data := .seq its.toArray n } = { cls := .type "list", data := .seq (its.set j u).toArray n } := by
  simp [Obj.mapSeq]
theorem Inv.lst {pins : List (Addr × Obj)} {σ : St} {H : Hp} {s : Shared} {p : Addr} {xs : List V} (I : Inv X pins σ H s) (h : H p = some (.lst xs)) :
    ∃ (its : List Value) (n : Nat), Vals xs its ∧ s.heap.get? p = some { cls := .type "list", data := .seq its.toArray n } ∧ xs.length ≤ sizeLine := by
  obtain ⟨z, its, n, r, e⟩ := I.hok p _ h
  exact ⟨its, n, r, e, z⟩
theorem Inv.lstUpd {pins : List (Addr × Obj)} {σ : St} {H : Hp} {s : Shared} {p : Addr} {xs ys : List V} {its its' : List Value} {n n' : Nat} {f : Obj → Obj} (I : Inv X pins σ H s) (h : H p = some (.lst xs))
    (ho : s.heap.get? p = some { cls := .type "list", data := .seq its.toArray n }) (hf : f { cls := .type "list", data := .seq its.toArray n } = { cls := .type "list", data := .seq its'.toArray n' }) (r : Vals ys its') (hz : ys.length ≤ sizeLine) (t : Nat) :
    Inv X pins σ (upd H p (.lst ys)) { s with heap := s.heap.update p f, toks := t } := by
  have e : (s.heap.update p f).get? p = some { cls := .type "list", data := .seq its'.toArray n' } := by
    rw [Heap.get?_update_self f ho (by rw [hf] <;> rfl), hf]
  refine I.write (x := p) (e := p) (by rw [h]; trivial) (.inl rfl) (fun b u hb q => (Heap.get?_update_other _ _ (Ne.symm hb)).trans q) ⟨_, e⟩ ?_
  exact ⟨hz, its', n', r, e⟩
def rSetL : V → V → V → Hp → (Hp → Prop) → Prop := fun o i v H Q => ∃ p xs k j, o = .ref p ∧ i = .int k ∧ H p = some (.lst xs) ∧ ixN xs.length k = some j ∧ Q (upd H p (.lst (xs.set j v)))
theorem set_list : PSet X rSetL := by
  intro pins s σ H o i v ov iv u Q I ro ri rv h
  obtain ⟨p, xs, k, j, rfl, rfl, hp, hj, q⟩ := h
  cases ro
  obtain ⟨t, rfl⟩ := ri
  obtain ⟨its, n, r, ho, hz⟩ := I.lst hp
  obtain ⟨h1, h2, h3, h4⟩ := ixN_seq hj
  have hl := r.length
  have hn := line63
  have I' : Inv X pins σ (upd H p (.lst (xs.set j v))) { s with heap := s.heap.update p (Obj.mapSeq (·.setIfInBounds j u)) } :=
    I.lstUpd hp ho (mapSeq_set its n j u) (r.set rv j) (by rw [List.length_set]; exact hz) s.toks
  by_cases h0 : 0 ≤ k
  · have hk : k.toNat = j := by
      rw [seqIndex_of h0 h4] at h1
      exact Option.some.inj h1
    exact PySem.W.ki_setAt ho h0 (by omega) (by rw [List.size_toArray, ← hl]; exact h4) (by rw [hk]; exact ⟨_, I', q⟩)
  · have hk : (k + (its.toArray.size : Int)).toNat = j := by
      rw [seqIndex_neg (by omega) h3] at h1
      rw [List.size_toArray, ← hl]
      exact Option.some.inj h1
    exact PySem.W.ki_setBack ho (by omega) (by rw [List.size_toArray, ← hl]; exact h3) (by omega) (by rw [hk]; exact ⟨_, I', q⟩)
def flatV : V → Bool
  | .non => true
  | .bl _ => true
  | .int _ => true
  | .str _ => true
  | _ => false
def eqV : V → V → Bool
  | .non, .non => true
  | .bl a, .bl b => a == b
  | .bl a, .int b => (if a then 1 else 0) == b
  | .int a, .bl b => a == (if b then 1 else 0)
  | .int a, .int b => a == b
  | .str a, .str b => a == b
  | _, _ => false
theorem eqAt_V {A : Around} {s : Shared} {y x : V} {u v : Value} (ry : RelV y u) (rx : RelV x v) (fy : flatV y = true) (fx : flatV x = true) : SeqAt.EqAt A s u v (eqV y x) := by
  cases y with
  | non =>
    cases ry
    cases x with
    | non => cases rx; exact SeqAt.EqAt.same _
    | bl b => cases rx; exact SeqAt.EqAt.none_bool b
    | int b => obtain ⟨t, rfl⟩ := rx; exact SeqAt.EqAt.none_int b t
    | str b => obtain ⟨t, rfl⟩ := rx; exact SeqAt.EqAt.none_str b t
    | _ => exact absurd (show false = true from fx) Bool.false_ne_true
  | bl a =>
    cases ry
    cases x with
    | non => cases rx; exact SeqAt.EqAt.bool_none a
    | bl b => cases rx; exact SeqAt.EqAt.bool_bool a b
    | int b => obtain ⟨t, rfl⟩ := rx; exact SeqAt.EqAt.bool_int a b t
    | str b => obtain ⟨t, rfl⟩ := rx; exact SeqAt.EqAt.bool_str a b t
    | _ => exact absurd (show false = true from fx) Bool.false_ne_true
  | int a =>
    obtain ⟨t', rfl⟩ := ry
    cases x with
    | non => cases rx; exact SeqAt.EqAt.int_none a t'
    | bl b => cases rx; exact SeqAt.EqAt.int_bool a t' b
    | int b => obtain ⟨t, rfl⟩ := rx; exact SeqAt.EqAt.int_int a t' b t
    | str b => obtain ⟨t, rfl⟩ := rx; exact SeqAt.EqAt.int_str a t' b t
    | _ => exact absurd (show false = true from fx) Bool.false_ne_true
  | str a =>
    obtain ⟨t', rfl⟩ := ry
    cases x with
    | non => cases rx; exact SeqAt.EqAt.str_none a t'
    | bl b => cases rx; exact SeqAt.EqAt.str_bool a t' b
    | int b => obtain ⟨t, rfl⟩ := rx; exact SeqAt.EqAt.str_int a t' b t
    | str b => obtain ⟨t, rfl⟩ := rx; exact SeqAt.EqAt.str_str a t' b t
    | _ => exact absurd (show false = true from fx) Bool.false_ne_true
  | _ => exact absurd (show false = true from fy) Bool.false_ne_true
theorem call_len_seq : CallR X (.builtin "len") (fun xs H Q => ∃ p ys, xs = [.ref p] ∧ (SqL X.K H p ys ∨ SqT X.K H p ys) ∧ Q (.int ys.length) H) := by
  intro pins s σ H xs us Q I r h
  obtain ⟨p, ys, rfl, hq, q⟩ := h
  obtain ⟨u, rfl, rx⟩ := vals1 r
  cases rx
  have hn := line63
  rcases hq with hq | hq
  · obtain ⟨its, r', pl, hz⟩ := I.list hq
    have hlen := r'.length
    exact Calls.call_len_list pl.isList (by simp only [List.size_toArray] <;> omega) ⟨.int ys.length, H, I.tok _, ⟨s.toks + 1, by rw [List.size_toArray, hlen]⟩, q⟩
  · obtain ⟨its, r', pl, hz⟩ := I.tuple hq
    have hlen := r'.length
    exact len_tuple pl (by simp only [List.size_toArray] <;> omega) ⟨.int ys.length, H, I.tok _, ⟨s.toks + 1, by rw [List.size_toArray, hlen]⟩, q⟩
theorem call_list_of : CallR X (.type "list") (fun xs H Q => ∃ p ys, xs = [.ref p] ∧ (SqL X.K H p ys ∨ SqT X.K H p ys) ∧ ∀ l, H l = none → Q (.ref l) (upd H l (.lst ys))) := by
  intro pins s σ H xs us Q I r h
  obtain ⟨p, ys, rfl, hq, q⟩ := h
  obtain ⟨u, rfl, rx⟩ := vals1 r
  cases rx
  have fin : ∀ (its : List Value), Vals ys its → ys.length ≤ sizeLine → ∀ (h' : Heap) (c' : Nat), (∀ b o', s.heap.get? b = some o' → h'.get? b = some o') →
      h'.get? s.heap.objs.size = some { cls := .type "list", dict := none, data := .seq its.toArray c', slots := #[] } → EP X pins σ Q (.ref s.heap.objs.size) { s with heap := h' } := fun its r' hz h' c' kp e =>
    ⟨.ref s.heap.objs.size, _, I.laid (t' := s.toks) kp (Nat.le_refl _) (show ObjOk X.prog X.w _ h' _ (.lst ys) from ⟨hz, its, c', r', e⟩), rfl, q _ (I.hok.fresh (Nat.le_refl _))⟩
  rcases hq with hq | hq
  · obtain ⟨its, r', pl, hz⟩ := I.list hq
    have hlen := r'.length
    obtain ⟨o, ho, hc, n, hd⟩ := pl.isList
    exact call_list_seq p (.inl rfl) ho hc hd (fun h' c' kp e => fin its r' hz h' c' kp e) (by simp only [List.size_toArray] <;> omega)
  · obtain ⟨its, r', pl, hz⟩ := I.tuple hq
    have hlen := r'.length
    obtain ⟨o, ho, hc, n, hd⟩ := pl
    exact call_list_seq p (.inr rfl) ho hc hd (fun h' c' kp e => fin its r' hz h' c' kp e) (by simp only [List.size_toArray] <;> omega)
def tyV (K : PySem.W.Frag) (T : String) (x : V) (H : Hp) : Prop := match x with
  | .str _ => T = "str"
  | .int _ => T = "int"
  | .ref p => (T = "list" ∧ ∃ xs, SqL K H p xs) ∨ (T = "tuple" ∧ ∃ o, K.lookup p = some o ∧ o.cls = .type "tuple" ∧ o.dict = none) ∨
      (T = "dict" ∧ ((∃ kvs, H p = some (.dK kvs)) ∨ ∃ kvs, H p = some (.dT kvs))) ∨ (T = "set" ∧ ∃ S n, H p = some (.set S n))
  | _ => False
theorem tyV_is {pins : List (Addr × Obj)} {σ : St} {H : Hp} {s : Shared} {T : String} {x : V} {v : Value} (I : Inv X pins σ H s) (r : RelV x v) (ty : tyV X.K T x H) :
    s.TypeIs v T ∧ ∀ a, v = .ref a → ∃ ob, s.heap.get? a = some ob ∧ ob.dict = none := by
  cases x with
  | str z =>
    obtain ⟨t, rfl⟩ := r
    cases (show T = "str" from ty)
    exact ⟨typeIs_str s z t, fun _ e => nomatch e⟩
  | int i =>
    obtain ⟨t, rfl⟩ := r
    cases (show T = "int" from ty)
    exact ⟨typeIs_int s i t, fun _ e => nomatch e⟩
  | ref p =>
    cases r
    rcases ty with ⟨rfl, xs, hq⟩ | ⟨rfl, o, hk, hc, hd⟩ | ⟨rfl, hk⟩ | ⟨rfl, S, n, hk⟩
    · obtain ⟨its, _, pl, _⟩ := I.list hq
      refine ⟨pl.isList.typeIs, fun a e => ?_⟩
      cases e
      obtain ⟨o, n, e, c, hd, _⟩ := pl
      exact ⟨o, e, hd⟩
    · refine ⟨⟨o, I.kIn p o hk, hc⟩, fun a e => ?_⟩
      cases e
      exact ⟨o, I.kIn _ o hk, hd⟩
    · have z : ∃ o, s.heap.get? p = some o ∧ o.ExactDict := by
        rcases hk with ⟨kvs, hk⟩ | ⟨kvs, hk⟩
        · obtain ⟨_, _, _, _, o, _, _, e, ex, _⟩ := I.hok p _ hk
          exact ⟨o, e, ex⟩
        · obtain ⟨_, _, _, _, o, _, _, e, ex, _⟩ := I.hok p _ hk
          exact ⟨o, e, ex⟩
      obtain ⟨o, e, ex⟩ := z
      refine ⟨⟨o, e, ex.1⟩, fun a e2 => ?_⟩
      cases e2
      exact ⟨o, e, ex.2.1⟩
    · obtain ⟨o, _, _, _, e, ex, _⟩ := I.hok p _ hk
      refine ⟨⟨o, e, ex.1⟩, fun a e2 => ?_⟩
      cases e2
      exact ⟨o, e, ex.2.1⟩
  | _ => exact False.elim ty
def tBM0 (K : PySem.W.Frag) (T : String) (r : V → List V → Hp → VK → Prop) (to : TE) : TE := fun σ H Q => to σ H fun x H1 => tyV K T x H1 ∧ r x [] H1 Q
def tBM (K : PySem.W.Frag) (T : String) (r : V → List V → Hp → VK → Prop) (to : TE) (t : TA) : TE := fun σ H Q => to σ H fun x H1 => tyV K T x H1 ∧ t σ H1 fun xs H2 => r x xs H2 Q
variable {o e : Expr} {es : List Expr} {to : TE} {t : TA} {name : Str} {apos cpos : Pos} {T id : String} {r : V → List V → Hp → VK → Prop}
theorem pe_bm0 (pa : PlainAttrs T) (slot : Slot T name id) (hty : typeOf (.builtin id) = pure (.type "method_descriptor")) (hm : MtR X id r) (ho : PE X o to)
    (hbase : attributeBase o name X.env (eval o X.env) = eval o X.env := by rfl) (hline : (apos.endLine == cpos.line) = true := by rfl) : PE X (.Call (.Attribute o name apos) [] [] cpos) (tBM0 X.K T r to) := by
  intro pins s σ H Q I h
  refine wpAny_Call_method0_late hbase hline (thn (ho pins s σ H _ I h) fun v s1 ⟨x, H1, I1, r1, ty, q1⟩ => ?_)
  obtain ⟨h1, h2⟩ := tyV_is I1 r1 ty
  exact ⟨T, id, pa, slot, hty, h1, h2, Calls.callWith_builtin rfl (PySem.evalArgs_none (hm pins s1 σ H1 x [] v [] Q I1 r1 .nil q1))⟩
theorem pe_bm (pa : PlainAttrs T) (slot : Slot T name id) (hty : typeOf (.builtin id) = pure (.type "method_descriptor")) (hm : MtR X id r) (ho : PE X o to) (ha : PA X (e :: es) t)
    (hbase : attributeBase o name X.env (eval o X.env) = eval o X.env := by rfl)
    (hfew : ((backTo cpos (starEach (e :: es) X.env)).all (fun x => !x.1) && (backToKw cpos (keywordEach [] X.env)).all (fun x => x.1.isSome)
      && decide ((e :: es).length + ([] : List Keyword).length + (if ([] : List Keyword).isEmpty then 0 else 1) < 30)) = true := by rfl)
    (hline : (apos.endLine == cpos.line) = true := by rfl) (hs : starEach (e :: es) X.env = (false, eval e X.env) :: starEach es X.env := by rfl) (hplain : (backTo cpos (starEach es X.env)).any (·.1) = false := by rfl) :
    PE X (.Call (.Attribute o name apos) (e :: es) [] cpos) (tBM X.K T r to t) := by
  intro pins s σ H Q I h
  refine wpAny_Call_method_late hbase hfew hline rfl (thn (ho pins s σ H _ I h) fun v s1 ⟨x, H1, I1, r1, ty, q1⟩ => ?_)
  obtain ⟨h1, h2⟩ := tyV_is I1 r1 ty
  refine ⟨T, id, pa, slot, hty, h1, h2, ?_⟩
  have hA := ha cpos pins s1 σ H1 _ I1 q1
  rw [hs] at hA ⊢
  refine Calls.callWith_builtin (by show (false || (backTo cpos (starEach es X.env)).any (·.1)) = false; rw [hplain] <;> rfl) (Calls.evalArgs_plain ?_)
  exact thn hA fun us s2 ⟨vs, H2, I2, r2, q2⟩ => hm pins s2 σ H2 x vs v us Q I2 r1 r2 q2
/- xs.append(e), list.index on a module's tuple .. are MtR facts of 06m -/
end
end L2
namespace L2
open PySem PySem.Spec PyProof.Rows
def MtM (X : Cx) (id : String) (r : V → List V → Hp → VK → Prop) : Prop :=
  ∀ (pins : List (Addr × Obj)) (s : Shared) (σ : St) (H : Hp) (x : V) (xs : List V) (v : Value) (us : List Value) (Q : VK), Inv X pins σ H s → RelV x v → Vals xs us → r x xs H Q →
    wpAny (model X.prog X.w) X.A (call (.builtin id) (v :: us)) (EP X pins σ Q) X.xe s
theorem Vals.one : ∀ {x : V} {us : List Value}, Vals [x] us → ∃ u, us = [u] ∧ RelV x u
  | _, _, .cons r .nil => ⟨_, rfl, r⟩
theorem Vals.zero : ∀ {us : List Value}, Vals [] us → us = []
  | _, .nil => rfl
theorem Vals.dropLast {xs : List V} {us : List Value} (h : Vals xs us) : Vals xs.dropLast us.dropLast := by
  induction h with
  | nil => exact .nil
  | cons r t ih =>
    cases t with
    | nil => exact .nil
    | cons q t' => exact .cons r ih
theorem Vals.rep {xs : List V} {us : List Value} (h : Vals xs us) : ∀ k : Nat, Vals (List.replicate k xs).flatten (List.replicate k us).flatten
  | 0 => .nil
  | k + 1 => by
    rw [List.replicate_succ, List.replicate_succ, List.flatten_cons, List.flatten_cons]
    exact Vals.append h (Vals.rep h k)
theorem erase_last {α : Type} (l : List α) : l.eraseIdx (l.length - 1) = l.dropLast := by
  induction l with
  | nil => rfl
  | cons a r ih =>
    cases r with
    | nil => rfl
    | cons b r =>
      have e : (a :: b :: r).length - 1 = ((b :: r).length - 1) + 1 := by
        have h1 : (a :: b :: r).length = r.length + 2 := rfl
        have h2 : (b :: r).length = r.length + 1 := rfl
        omega
      rw [e, List.eraseIdx_cons_succ, ih]
      all_goals rfl
theorem foldl_rep (its : List Value) : ∀ (k : Nat) (acc : List Value),
    List.foldl (fun x1 x2 => x1 ++ x2) acc.toArray (List.replicate k its.toArray) = (acc ++ (List.replicate k its).flatten).toArray
  | 0, acc => by simp
  | k + 1, acc => by
    have e : acc.toArray ++ its.toArray = (acc ++ its).toArray := by simp
    have e2 : (acc ++ its) ++ (List.replicate k its).flatten = acc ++ (List.replicate (k + 1) its).flatten := by
      rw [List.replicate_succ, List.flatten_cons, List.append_assoc]
    rw [← e2, ← foldl_rep its k (acc ++ its), ← e, List.replicate_succ, List.foldl_cons]
section
variable {X : Cx} {pins : List (Addr × Obj)} {σ : St} {H : Hp} {s : Shared} {l b : Addr} {xs ys zs : List V}
theorem Inv.lset {its its' : List Value} {n : Nat} {f : Array Value → Array Value} {t' : Nat} (I : Inv X pins σ H s) (hH : H l = some (.lst xs))
    (e : s.heap.get? l = some { cls := .type "list", data := .seq its.toArray n }) (hf : f its.toArray = its'.toArray) (hv : Vals ys its') (hz : ys.length ≤ sizeLine) :
    Inv X pins σ (upd H l (.lst ys)) { s with heap := s.heap.update l (Obj.mapSeq f), toks := t' } := by
  have q := PySem.IsL.update e f
  rw [hf] at q
  refine I.write (x := l) (e := l) (by rw [hH]; exact trivial) (.inl rfl) (fun b' u hb hu => (Heap.get?_update_other s.heap (Obj.mapSeq f) (Ne.symm hb)).trans hu) ⟨_, q⟩ ?_
  exact ⟨hz, its', _, hv, q⟩
theorem Inv.lnew {its : List Value} {t' : Nat} (I : Inv X pins σ H s) (hv : Vals ys its) (hz : ys.length ≤ sizeLine) :
    Inv X pins σ (upd H s.heap.objs.size (.lst ys)) { s with heap := s.heap.push { cls := .type "list", data := .seq its.toArray }, toks := t' } :=
  I.laid (fun _ _ q => Heap.get?_push_of_some _ q) (Nat.le_refl _) ⟨hz, its, 0, hv, Heap.get?_push_size _ rfl⟩
theorem Inv.fresh (I : Inv X pins σ H s) : H s.heap.objs.size = none := I.hok.fresh (Nat.le_refl _)
theorem Inv.lstM (I : Inv X pins σ H s) (hH : H l = some (.lst xs)) : xs.length ≤ sizeLine ∧ ∃ (its : List Value) (n : Nat), Vals xs its ∧ xs.length = its.length ∧ s.heap.get? l = some { cls := .type "list", data := .seq its.toArray n } := by
  obtain ⟨z, its, n, r, e⟩ := I.hok l _ hH
  exact ⟨z, its, n, r, r.length, e⟩
theorem notLongL {n : Nat} (h : n ≤ sizeLine) : Builtin.List.listTooLong n = false := by
  unfold Builtin.List.listTooLong
  exact decide_eq_false (by omega)
end
section
variable {X : Cx}
def rAppend : V → List V → Hp → VK → Prop := fun x vs H Q => ∃ l xs y, x = .ref l ∧ vs = [y] ∧ H l = some (.lst xs) ∧ xs.length < sizeLine ∧ Q .non (upd H l (.lst (xs ++ [y])))
theorem mt_append : MtM X "list.append" rAppend := by
  intro pins s σ H x vs v us Q I rx rv h
  obtain ⟨l, xs, y, rfl, rfl, hH, hz, q⟩ := h
  cases rx
  obtain ⟨u, rfl, ru⟩ := rv.one
  obtain ⟨z, its, n, r, hl, e⟩ := I.lstM hH
  refine call_meets F.slot_list_append ⟨_, e, rfl⟩ F.entry_list_append (F.args_list_append_2 _ _) (PySem.list_append l its.toArray n u (by rw [List.size_toArray]; omega)) ⟨e, ?_⟩
  refine ⟨.non, _, I.lset (its' := its ++ [u]) hH e (by simp) (r.append (.cons ru .nil)) ?_, rfl, q⟩
  rw [List.length_append, List.length_singleton]
  omega
def rExtend : V → List V → Hp → VK → Prop := fun x vs H Q => ∃ l b xs zs, x = .ref l ∧ vs = [.ref b] ∧ H l = some (.lst xs) ∧ H b = some (.lst zs) ∧ xs.length + zs.length ≤ sizeLine ∧ Q .non (upd H l (.lst (xs ++ zs)))
theorem mt_extend : MtM X "list.extend" rExtend := by
  intro pins s σ H x vs v us Q I rx rv h
  obtain ⟨l, b, xs, zs, rfl, rfl, hH, hB, hz, q⟩ := h
  cases rx
  obtain ⟨u, rfl, ru⟩ := rv.one
  cases ru
  obtain ⟨z, its, n, r, hl, e⟩ := I.lstM hH
  obtain ⟨z2, its2, n2, r2, hl2, e2⟩ := I.lstM hB
  have hsz : its.toArray.size + its2.toArray.size ≤ sizeLine := by rw [List.size_toArray, List.size_toArray]; omega
  have hlong : ¬ (!its.toArray.isEmpty && Builtin.List.listTooLong (its.toArray.size + its2.toArray.size)) = true := by
    rw [notLongL hsz, Bool.and_false]
    exact Bool.false_ne_true
  refine call_meets F.slot_list_extend ⟨_, e, rfl⟩ F.entry_list_extend (F.args_list_extend_2 _ _)
    (AutoSeq1.list_extend_list_list_0 l its.toArray n b its2.toArray n2 hlong (by rw [List.size_toArray]; omega) (by omega)) ⟨e, e2, ?_⟩
  refine ⟨.non, _, I.lset (its' := its ++ its2) hH e (by simp) (r.append r2) ?_, rfl, q⟩
  rw [List.length_append]
  omega
def rPop : V → List V → Hp → VK → Prop := fun x vs H Q => ∃ l xs y, x = .ref l ∧ vs = [] ∧ H l = some (.lst xs) ∧ xs[xs.length - 1]? = some y ∧ Q y (upd H l (.lst xs.dropLast))
theorem mt_pop : MtM X "list.pop" rPop := by
  intro pins s σ H x vs v us Q I rx rv h
  obtain ⟨l, xs, y, rfl, rfl, hH, hy, q⟩ := h
  cases rx
  have hus := rv.zero
  subst hus
  obtain ⟨z, its, n, r, hl, e⟩ := I.lstM hH
  obtain ⟨u, hu, ru⟩ := r.get hy
  have hy' : its.toArray[its.toArray.size - 1]? = some u := by
    show its.toArray[its.length - 1]? = some u
    rw [← Array.getElem?_toList, ← hl]
    exact hu
  refine call_meets F.slot_list_pop ⟨_, e, rfl⟩ F.entry_list_pop (F.args_list_pop_1 _) (MeetsSeq.list_pop_last l its.toArray n u hy' (by rw [List.size_toArray]; omega)) ⟨e, ?_⟩
  refine ⟨y, _, I.lset (its' := its.dropLast) hH e ?_ r.dropLast ?_, ru, q⟩
  · show its.toArray.eraseIdxIfInBounds (its.toArray.size - 1) = its.dropLast.toArray
    rw [List.size_toArray, List.eraseIdxIfInBounds_toArray, erase_last]
  · rw [List.length_dropLast]
    omega
def rCat : R2 := fun x y H Q => ∃ l b xs zs, x = .ref l ∧ y = .ref b ∧ H l = some (.lst xs) ∧ H b = some (.lst zs) ∧ xs.length + zs.length ≤ sizeLine ∧ ∀ p, H p = none → Q (.ref p) (upd H p (.lst (xs ++ zs)))
theorem op_cat : OpR X (binaryOp .Add) rCat := by
  intro pins s σ H x y v u Q I rx ry h
  obtain ⟨l, b, xs, zs, rfl, rfl, hH, hB, hz, q⟩ := h
  cases rx
  cases ry
  obtain ⟨z, its, n, r, hl, e⟩ := I.lstM hH
  obtain ⟨z2, its2, n2, r2, hl2, e2⟩ := I.lstM hB
  refine PySem.P.add_list e e2 ?_ (by rw [List.size_toArray, List.size_toArray]; omega)
  have ea : its.toArray ++ its2.toArray = (its ++ its2).toArray := by simp
  rw [ea]
  exact ⟨.ref _, _, I.lnew (t' := s.toks) (r.append r2) (by rw [List.length_append]; omega), rfl, q _ I.fresh⟩
def rRep : R2 := fun x y H Q => ∃ l k xs, x = .ref l ∧ y = .int k ∧ H l = some (.lst xs) ∧ -(2 ^ 63) ≤ k ∧ k < 2 ^ 63 ∧ xs.length * k.toNat ≤ sizeLine ∧
  ∀ p, H p = none → Q (.ref p) (upd H p (.lst (List.replicate k.toNat xs).flatten))
theorem len_rep {α : Type} (xs : List α) (k : Nat) : (List.replicate k xs).flatten.length = k * xs.length := by
  induction k with
  | zero => simp
  | succ k ih => rw [List.replicate_succ, List.flatten_cons, List.length_append, ih, Nat.succ_mul, Nat.add_comm]
theorem op_rep : OpR X (binaryOp .Mult) rRep := by
  intro pins s σ H x y v u Q I rx ry h
  obtain ⟨l, k, xs, rfl, rfl, hH, h1, h2, hz, q⟩ := h
  cases rx
  obtain ⟨t, rfl⟩ := ry
  obtain ⟨z, its, n, r, hl, e⟩ := I.lstM hH
  have hlen : its.toArray.size * k.toNat ≤ sizeLine := by rw [List.size_toArray, ← hl]; exact hz
  have hcap : ¬ its.toArray.size * k.toNat > (2 ^ 63 - 1) / 8 := by
    have : (sizeLine : Nat) ≤ (2 ^ 63 - 1) / 8 := by decide
    omega
  have hfit : ¬ (!Builtin.List.listFitsIndex k) = true := by
    rw [fitsIndex_both h1 h2]
    exact Bool.false_ne_true
  have hlong : ¬ Builtin.List.listTooLong (its.toArray.size * k.toNat) = true := by
    rw [notLongL hlen]
    exact Bool.false_ne_true
  have hnew : List.foldl (fun x1 x2 => x1 ++ x2) #[] (List.replicate (if its.toArray.isEmpty = true then 0 else k.toNat) its.toArray) = (List.replicate k.toNat its).flatten.toArray := by
    have f0 : ∀ m : Nat, List.foldl (fun x1 x2 => x1 ++ x2) #[] (List.replicate m its.toArray) = (List.replicate m its).flatten.toArray := fun m => by
      have := foldl_rep its m []
      rw [List.nil_append] at this
      exact this
    rw [f0]
    cases its with
    | nil => simp
    | cons a r' => rw [if_neg (by simp)]
  refine wpAny_binaryOp_repeat_ref (T := "list") (U := "int") (by decide) ⟨_, e, rfl⟩ (fun s' => typeIs_int s' k t) noFill_list_mul F.fills_int_mul F.slot_int_rmul repeat_list F.slot_int_index.lookup
    (call_meets F.slot_int_rmul (typeIs_int s k t) F.entry_int_rmul (F.args_int_rmul_2 _ _) (int___rmul___int_list k t l its.toArray n)
      ⟨e, rfl, ⟨_, e, rfl⟩, call_meets F.slot_list_mul ⟨_, e, rfl⟩ F.entry_list_mul (F.args_list_mul_2 _ _) (AutoListH.list___mul___list_int_3 l its.toArray n k t hfit hcap hlong) ⟨e, ?_⟩⟩)
  rw [hnew]
  exact ⟨.ref _, _, I.lnew (t' := s.toks) (r.rep k.toNat) (by rw [len_rep, Nat.mul_comm]; exact hz), rfl, q _ I.fresh⟩
end
section
variable {prog : Program} {w : World} {A : Around} {E : Value → Shared → Prop} {s : Shared}
end
section
variable {X : Cx}
end
end L2
namespace L2
open PySem PySem.Spec PyProof.Rows
section
variable {κ : Type} [DecidableEq κ]
def valV (kvs : List (κ × V)) (k : κ) : Option V := (kvs.find? fun kv => decide (kv.1 = k)).map (·.2)
def putK (kvs : List (κ × V)) (k : κ) (v : V) : List (κ × V) :=
  if (kvs.any fun kv => decide (kv.1 = k)) = true then kvs.map (fun kv => if kv.1 = k then (kv.1, v) else kv) else kvs ++ [(k, v)]
theorem valV_pos {p : κ × V} {r : List (κ × V)} {k : κ} (e : p.1 = k) : valV (p :: r) k = some p.2 := by simp [valV, List.find?_cons, e]
theorem valV_neg {p : κ × V} {r : List (κ × V)} {k : κ} (e : ¬ p.1 = k) : valV (p :: r) k = valV r k := by simp [valV, List.find?_cons, e]
theorem valV_any (k : κ) : ∀ kvs : List (κ × V), (kvs.any fun kv => decide (kv.1 = k)) = (valV kvs k).isSome
  | [] => rfl
  | p :: r => by
    rw [List.any_cons]
    by_cases e : p.1 = k
    · simp only [valV_pos e, decide_eq_true e, Bool.true_or, Option.isSome_some]
    · rw [valV_neg e, decide_eq_false e, Bool.false_or]; exact valV_any k r
theorem valV_map (k j : κ) (y : V) : ∀ kvs : List (κ × V), valV (kvs.map fun kv => if kv.1 = k then (kv.1, y) else kv) j = (valV kvs j).map fun x => if j = k then y else x
  | [] => rfl
  | p :: r => by
    have ih := valV_map k j y r
    rw [List.map_cons]
    by_cases h : p.1 = k
    · rw [if_pos h]
      by_cases e : p.1 = j
      · rw [valV_pos (p := (p.1, y)) e, valV_pos e, Option.map_some, if_pos (e.symm.trans h)]
      · rw [valV_neg (p := (p.1, y)) e, valV_neg e, ih]
    · rw [if_neg h]
      by_cases e : p.1 = j
      · rw [valV_pos (p := p) e, valV_pos e, Option.map_some, if_neg (fun z => h (e.trans z))]
      · rw [valV_neg (p := p) e, valV_neg e, ih]
theorem valV_snoc (k j : κ) (y : V) : ∀ kvs : List (κ × V), valV kvs k = none → valV (kvs ++ [(k, y)]) j = if j = k then some y else valV kvs j
  | [], _ => by
    by_cases e : k = j
    · rw [if_pos e.symm]; exact valV_pos (p := (k, y)) e
    · rw [if_neg (fun z => e z.symm)]; exact valV_neg (p := (k, y)) e
  | p :: r, hn => by
    rw [List.cons_append]
    have hk : ¬ p.1 = k := fun z => by rw [valV_pos z] at hn; cases hn
    rw [valV_neg hk] at hn
    have ih := valV_snoc k j y r hn
    by_cases e : p.1 = j
    · rw [valV_pos e, valV_pos e, if_neg (fun z => hk (e.trans z))]
    · rw [valV_neg e, valV_neg e, ih]
theorem valV_put (kvs : List (κ × V)) (k j : κ) (y : V) : valV (putK kvs k y) j = if j = k then some y else valV kvs j := by
  unfold putK
  by_cases a : (kvs.any fun kv => decide (kv.1 = k)) = true
  · rw [if_pos a, valV_map]
    rw [valV_any] at a
    by_cases e : j = k
    · obtain ⟨x, hx⟩ := Option.isSome_iff_exists.mp a
      rw [if_pos e, e, hx, Option.map_some, if_pos rfl]
    · rw [if_neg e]
      cases valV kvs j with
      | none => rfl
      | some x => rw [Option.map_some, if_neg e]
  · rw [if_neg a]
    refine valV_snoc k j y kvs ?_
    rw [valV_any] at a
    cases q : valV kvs k with
    | none => rfl
    | some x => rw [q] at a; exact (a rfl).elim
theorem length_putK (kvs : List (κ × V)) (k : κ) (v : V) : (putK kvs k v).length ≤ kvs.length + 1 := by
  unfold putK
  split
  · rw [List.length_map]; omega
  · rw [List.length_append, List.length_cons, List.length_nil]; omega
theorem putK_new {kvs : List (κ × V)} {k : κ} (v : V) (h : valV kvs k = none) : putK kvs k v = kvs ++ [(k, v)] := by
  unfold putK
  rw [valV_any, h]
  exact if_neg (by decide)
theorem RelO.isSome_eq {o : Option V} {u : Option Value} (r : RelO o u) : o.isSome = u.isSome := by
  cases o with
  | none => cases u with
    | none => rfl
    | some _ => exact (show False from r).elim
  | some _ => cases u with
    | none => exact (show False from r).elim
    | some _ => rfl
theorem RelO.getD {o : Option V} {u : Option Value} {d : V} {d' : Value} (r : RelO o u) (rd : RelV d d') : RelV (o.getD d) (u.getD d') := by
  cases o with
  | none => cases u with
    | none => exact rd
    | some _ => exact (show False from r).elim
  | some _ => cases u with
    | none => exact (show False from r).elim
    | some _ => exact r
theorem KV.val {kvs : List (κ × V)} {vs : List (κ × Value)} (r : KV kvs vs) (k : κ) : RelO (valV kvs k) (valueAt vs k) := by
  unfold KV at r
  induction r with
  | nil => exact True.intro
  | @cons p q ps qs h t ih =>
    obtain ⟨h1, h2⟩ := h
    by_cases e : p.1 = k
    · have e' : q.1 = k := h1.symm.trans e
      have b : valueAt (q :: qs) k = some q.2 := by simp [valueAt, List.find?_cons, e']
      rw [valV_pos e, b]; exact h2
    · have e' : ¬ q.1 = k := fun z => e (h1.trans z)
      have b : valueAt (q :: qs) k = valueAt qs k := by simp [valueAt, List.find?_cons, e']
      rw [valV_neg e, b]; exact ih
theorem KV.any {kvs : List (κ × V)} {vs : List (κ × Value)} (r : KV kvs vs) (k : κ) : (kvs.any fun kv => decide (kv.1 = k)) = vs.any fun kv => decide (kv.1 = k) := by
  unfold KV at r
  induction r with
  | nil => rfl
  | cons h t ih => rw [List.any_cons, List.any_cons, ih, h.1]
theorem KV.repl {kvs : List (κ × V)} {vs : List (κ × Value)} (r : KV kvs vs) (k : κ) {y : V} {u : Value} (ry : RelV y u) :
    KV (kvs.map fun kv => if kv.1 = k then (kv.1, y) else kv) (vs.map fun kv => if kv.1 = k then (kv.1, u) else kv) := by
  unfold KV at r ⊢
  induction r with
  | nil => exact .nil
  | @cons p q ps qs h t ih =>
    rw [List.map_cons, List.map_cons]
    refine .cons ?_ ih
    obtain ⟨h1, h2⟩ := h
    by_cases e : p.1 = k
    · rw [if_pos e, if_pos (h1.symm.trans e)]; exact ⟨h1, ry⟩
    · rw [if_neg e, if_neg (fun z => e (h1.trans z))]; exact ⟨h1, h2⟩
theorem KV.put {kvs : List (κ × V)} {vs : List (κ × Value)} (r : KV kvs vs) (k : κ) {y : V} {u : Value} (ry : RelV y u) : KV (putK kvs k y) (stored vs k u) := by
  unfold putK stored
  rw [r.any k]
  by_cases e : (vs.any fun kv => decide (kv.1 = k)) = true
  · rw [if_pos e, if_pos e]; exact r.repl k ry
  · rw [if_neg e, if_neg e]; exact Paired.snoc r ⟨rfl, ry⟩
theorem KV.length {kvs : List (κ × V)} {vs : List (κ × Value)} (r : KV kvs vs) : kvs.length = vs.length := Paired.length r
end
theorem kV_is {P : Program} {w : World} {k : Key} {u : Value} (r : RelV (kV k) u) : (mixKind P w).is k u = true := by
  cases k with
  | inl i => obtain ⟨t, e⟩ := (show ∃ t, u = Value.int i t from r); subst e; exact mixKind_int P w i t
  | inr x => obtain ⟨t, e⟩ := (show ∃ t, u = Value.str x t from r); subst e; exact mixKind_str P w x t
theorem items_are {P : Program} {w : World} : ∀ {ks : List Key} {us : List Value}, Vals (ks.map kV) us → ItemsAre (mixKind P w) ks us
  | [], _, r => by rw [List.map_nil] at r; cases r; exact .nil
  | k :: ks, _, r => by
    rw [List.map_cons] at r
    cases r with
    | cons h t => exact .cons (kV_is h) (items_are t)
abbrev KT (H : Hp) : List (List Key × V) → List (List Key × Addr × Value) → Prop := Paired fun p q => p.1 = q.1 ∧ H q.2.1 = some (.tup (p.1.map kV)) ∧ RelV p.2 q.2.2
theorem KT.val {H : Hp} {kvs : List (List Key × V)} {xs : List (List Key × Addr × Value)} (r : KT H kvs xs) (k : List Key) : RelO (valV kvs k) ((atKey xs k).map (·.2)) := by
  induction r with
  | nil => exact True.intro
  | @cons p q ps qs h t ih =>
    obtain ⟨h1, _, h2⟩ := h
    by_cases e : p.1 = k
    · have e' : q.1 = k := h1.symm.trans e
      have b : atKey (q :: qs) k = some q.2 := by simp [atKey, List.find?_cons, e']
      rw [valV_pos e, b]; exact h2
    · have e' : ¬ q.1 = k := fun z => e (h1.trans z)
      have b : atKey (q :: qs) k = atKey qs k := by simp [atKey, List.find?_cons, e']
      rw [valV_neg e, b]; exact ih
theorem KT.repl {H : Hp} {kvs : List (List Key × V)} {xs : List (List Key × Addr × Value)} (r : KT H kvs xs) (k : List Key) {y : V} {u : Value} (ry : RelV y u) :
    KT H (kvs.map fun kv => if kv.1 = k then (kv.1, y) else kv) (xs.map (putAt k u)) := by
  induction r with
  | nil => exact .nil
  | @cons p q ps qs h t ih =>
    rw [List.map_cons, List.map_cons]
    refine .cons ?_ ih
    obtain ⟨h1, h2, h3⟩ := h
    unfold putAt
    by_cases e : p.1 = k
    · rw [if_pos e, if_pos (h1.symm.trans e)]; exact ⟨h1, h2, ry⟩
    · rw [if_neg e, if_neg (fun z => e (h1.trans z))]; exact ⟨h1, h2, h3⟩
theorem KT.put {H : Hp} {kvs : List (List Key × V)} {xs : List (List Key × Addr × Value)} (r : KT H kvs xs) (k : List Key) {b : Addr} {y : V} {u : Value} (hb : H b = some (.tup (k.map kV))) (ry : RelV y u) :
    KT H (putK kvs k y) (storedH xs k b u) := by
  have e : (kvs.any fun kv => decide (kv.1 = k)) = (atKey xs k).isSome := by
    rw [valV_any, (r.val k).isSome_eq, Option.isSome_map]
  unfold putK storedH
  rw [e]
  by_cases q : (atKey xs k).isSome = true
  · rw [if_pos q, if_pos q]; exact r.repl k ry
  · rw [if_neg q, if_neg q]; exact Paired.snoc r ⟨rfl, hb, ry⟩
theorem KT.keeps {H H' : Hp} {kvs : List (List Key × V)} {xs : List (List Key × Addr × Value)} (r : KT H kvs xs) (ht : ∀ b ys, H b = some (.tup ys) → H' b = some (.tup ys)) : KT H' kvs xs :=
  Paired.mapP r fun _ _ z => ⟨z.1, ht _ _ z.2.1, z.2.2⟩
section
variable {P : Program} {w : World} {H : Hp} {h : Heap} {a : Addr}
theorem rd_of {u : HO} (ok : HOk P w H h) (e : Rd H a u) : ObjOk P w H h a u := e.ok ok
theorem dk_rd {kvs : List (Key × V)} (ok : HOk P w H h) (e : Rd H a (.dK kvs)) : kvs.length ≤ sizeLine ∧ (a == sysModules) = false ∧ ∃ vs, KV kvs vs ∧ h.DictOf (mixKind P w) a vs :=
  show ObjOk P w H h a (.dK kvs) from rd_of ok e
theorem dk_of {kvs : List (Key × V)} (ok : HOk P w H h) (e : H a = some (.dK kvs)) : kvs.length ≤ sizeLine ∧ (a == sysModules) = false ∧ ∃ vs, KV kvs vs ∧ h.DictOf (mixKind P w) a vs := dk_rd ok (.inl e)
theorem key_of {ks : List Key} (ok : HOk P w H h) (e : H a = some (.tup (ks.map kV))) : (tupleKind (mixKind P w)).is h ks a := by
  obtain ⟨_, its, r, o, h1, h2, n, h3⟩ := (show ObjOk P w H h a (.tup (ks.map kV)) from ok a _ e)
  exact ⟨o, its.toArray, n, h1, h2, h3, by simpa using items_are r⟩
theorem dt_rd {kvs : List (List Key × V)} (ok : HOk P w H h) (e : Rd H a (.dT kvs)) : kvs.length ≤ sizeLine ∧ (a == sysModules) = false ∧
    ∃ xs, KT H kvs xs ∧ h.DictOfH (tupleKind (mixKind P w)) a xs := by
  obtain ⟨z, y, xs, r, o, es, ep, h1, h2, h3, h4, h5⟩ := (show ObjOk P w H h a (.dT kvs) from rd_of ok e)
  refine ⟨z, y, xs, r, o, es, ep, h1, h2, h3, h4, fun x hx => ?_, h5⟩
  have all : ∀ {l : List (List Key × V)} {m : List (List Key × Addr × Value)}, KT H l m → ∀ x ∈ m, (tupleKind (mixKind P w)).is h x.1 x.2.1 := by
    intro l m q
    induction q with
    | nil => intro x hx; exact nomatch hx
    | @cons p q ps qs hq t ih =>
      intro x hx
      rcases List.mem_cons.mp hx with e | hx
      · subst e
        exact key_of ok (by rw [← hq.1]; exact hq.2.1)
      · exact ih x hx
  exact all r x hx
theorem dt_of {kvs : List (List Key × V)} (ok : HOk P w H h) (e : H a = some (.dT kvs)) : kvs.length ≤ sizeLine ∧ (a == sysModules) = false ∧
    ∃ xs, KT H kvs xs ∧ h.DictOfH (tupleKind (mixKind P w)) a xs := dt_rd ok (.inl e)
end
def DGet (H : Hp) (a : Addr) (y : V) (r : Option V) : Prop :=
  (∃ kvs k, Rd H a (.dK kvs) ∧ y = kV k ∧ r = valV kvs k) ∨ ∃ kvs k b, Rd H a (.dT kvs) ∧ y = .ref b ∧ H b = some (.tup (k.map kV)) ∧ r = valV kvs k
def DPut (H : Hp) (a : Addr) (y v : V) (H' : Hp) : Prop :=
  (∃ kvs k, H a = some (.dK kvs) ∧ y = kV k ∧ kvs.length < sizeLine ∧ H' = upd H a (.dK (putK kvs k v))) ∨
  ∃ kvs k b, H a = some (.dT kvs) ∧ y = .ref b ∧ H b = some (.tup (k.map kV)) ∧ kvs.length < sizeLine ∧ H' = upd H a (.dT (putK kvs k v))
theorem DGet.k {H : Hp} {a : Addr} {kvs : List (Key × V)} {k : Key} (e : H a = some (.dK kvs)) : DGet H a (kV k) (valV kvs k) := .inl ⟨kvs, k, .inl e, rfl, rfl⟩
section
variable {X : Cx} {pins : List (Addr × Obj)} {σ : St} {H : Hp} {s : Shared} {a : Addr} {y v : V} {u r : Value} {o : Option V} {A : Around} {E : Value → Shared → Prop}
theorem Inv.big (I : Inv X pins σ H s) : sysModules < s.heap.objs.size := by
  have h : mainGlobals < s.heap.objs.size := (I.mod.glob.keeps I.bk).lt
  exact Nat.lt_trans (by decide) h
theorem d_getItem {Q : Value → Shared → Prop} (hu : A.units + 1 < cLine) (I : Inv X pins σ H s) (g : DGet H a y (some v)) (ry : RelV y u) (h : ∀ w' s', Inv X pins σ H s' → RelV v w' → Q w' s') :
    wpAny (model X.prog X.w) A (getItem (.ref a) u) Q E s := by
  rcases g with ⟨kvs, k, e, ey, l⟩ | ⟨kvs, k, b, e, ey, eb, l⟩
  · subst ey
    obtain ⟨z, hd, vs, rel, dd⟩ := dk_rd I.hok e
    obtain ⟨w', hw, rw'⟩ := RelO.some_of (v := v) (o := valueAt vs k) (by rw [l]; exact rel.val k)
    exact wpAny_getItem_of (kV_is ry) dd.mapOf hw (h w' _ (I.tok _) rw')
  · subst ey
    cases (show u = Value.ref b from ry)
    obtain ⟨z, hd, xs, rel, dd⟩ := dt_rd I.hok e
    obtain ⟨w', hw, rw'⟩ := RelO.some_of (v := v) (o := (atKey xs k).map (·.2)) (by rw [l]; exact rel.val k)
    obtain ⟨p, hp, hp2⟩ := Option.map_eq_some_iff.mp hw
    refine wpAny_getItem_heap (tupleKind_room_in1 hu) (key_of I.hok eb) dd hp ?_
    rw [hp2]
    exact h w' _ (I.tok _) rw'
theorem d_in {Q : Value → Shared → Prop} (hu : A.units + 1 < cLine) (I : Inv X pins σ H s) (g : DGet H a y o) (ry : RelV y u) (h : ∀ s', Inv X pins σ H s' → Q (.bool o.isSome) s') :
    wpAny (model X.prog X.w) A (compareOp .In u (.ref a)) Q E s := by
  rcases g with ⟨kvs, k, e, ey, l⟩ | ⟨kvs, k, b, e, ey, eb, l⟩
  · subst ey
    obtain ⟨z, hd, vs, rel, dd⟩ := dk_rd I.hok e
    refine wpAny_in_of (kV_is ry) hd dd.mapOf ?_
    rw [← (rel.val k).isSome_eq, ← l]
    exact h _ (I.tok _)
  · subst ey
    cases (show u = Value.ref b from ry)
    obtain ⟨z, hd, xs, rel, dd⟩ := dt_rd I.hok e
    refine wpAny_in_heap (tupleKind_room_in1 hu) (key_of I.hok eb) hd dd ?_
    have q := (rel.val k).isSome_eq
    rw [Option.isSome_map] at q
    rw [← q, ← l]
    exact h _ (I.tok _)
theorem d_notIn {Q : Value → Shared → Prop} (hu : A.units + 1 < cLine) (I : Inv X pins σ H s) (g : DGet H a y o) (ry : RelV y u) (h : ∀ s', Inv X pins σ H s' → Q (.bool (!o.isSome)) s') :
    wpAny (model X.prog X.w) A (compareOp .NotIn u (.ref a)) Q E s := by
  rcases g with ⟨kvs, k, e, ey, l⟩ | ⟨kvs, k, b, e, ey, eb, l⟩
  · subst ey
    obtain ⟨z, hd, vs, rel, dd⟩ := dk_rd I.hok e
    refine wpAny_notIn_of (kV_is ry) hd dd.mapOf ?_
    rw [← (rel.val k).isSome_eq, ← l]
    exact h _ (I.tok _)
  · subst ey
    cases (show u = Value.ref b from ry)
    obtain ⟨z, hd, xs, rel, dd⟩ := dt_rd I.hok e
    refine wpAny_notIn_heap (tupleKind_room_in1 hu) (key_of I.hok eb) hd dd ?_
    have q := (rel.val k).isSome_eq
    rw [Option.isSome_map] at q
    rw [← q, ← l]
    exact h _ (I.tok _)
theorem d_write {h' : Heap} {t' : Nat} {ob : HO} (I : Inv X pins σ H s) (mu : Mut (H a)) (hs : Heap.SameBut a s.heap h') (he : ∃ q, h'.get? a = some q) (new : ObjOk X.prog X.w (upd H a ob) h' a ob) :
    Inv X pins σ (upd H a ob) { s with heap := h', toks := t' } :=
  I.write (x := a) (e := a) mu (.inl rfl) (fun b q hb z => (hs.2 b hb).trans z) he new
theorem dk_new {P : Program} {w : World} {H' : Hp} {h' : Heap} {kvs : List (Key × V)} {vs : List (Key × Value)} (z : kvs.length ≤ sizeLine) (hd : (a == sysModules) = false) (rel : KV kvs vs) (dd : h'.DictOf (mixKind P w) a vs) :
    ObjOk P w H' h' a (.dK kvs) := ⟨z, hd, vs, rel, dd⟩
theorem d_setItem {H' : Hp} {Q : Unit → Shared → Prop} (hu : A.units + 1 < cLine) (I : Inv X pins σ H s) (g : DPut H a y v H') (ry : RelV y u) (rv : RelV v r) (h : ∀ s', Inv X pins σ H' s' → Q () s') :
    wpAny (model X.prog X.w) A (setItem (.ref a) u r) Q E s := by
  rcases g with ⟨kvs, k, e, ey, l, eH⟩ | ⟨kvs, k, b, e, ey, eb, l, eH⟩
  · subst ey eH
    obtain ⟨z, hd, vs, rel, dd⟩ := dk_of I.hok e
    have hz : vs.length ≤ sizeLine := by rw [← rel.length]; exact z
    have hl : (putK kvs k v).length ≤ sizeLine := by have := length_putK kvs k v; omega
    refine wpAny_setItem_pairs (hsz := hz) (kV_is ry) dd fun h' dd' hs => h _ ?_
    have he : ∃ q, h'.get? a = some q := let ⟨q, _, _, hq, _⟩ := dd'; ⟨q, hq⟩
    exact d_write I (by rw [e]; exact True.intro) hs he (dk_new hl hd (rel.put k rv) dd')
  · subst ey eH
    cases (show u = Value.ref b from ry)
    obtain ⟨z, hd, xs, rel, dd⟩ := dt_of I.hok e
    have hz : xs.length ≤ sizeLine := by rw [← Paired.length rel]; exact z
    have hl : (putK kvs k v).length ≤ sizeLine := by have := length_putK kvs k v; omega
    refine wpAny_setItem_heap (hsz := hz) (tupleKind_room_in1 hu) (key_of I.hok eb) dd fun h' dd' hs => h _ ?_
    obtain ⟨q, es, ep, hq, h2, h3, h4, _, h5⟩ := dd'
    refine d_write I (by rw [e]; exact True.intro) hs ⟨q, hq⟩ ⟨hl, hd, _, (rel.put k eb rv).keeps fun c ys ec => ?_, q, es, ep, hq, h2, h3, h4, h5⟩
    rw [upd_ne (ne_of ec e (fun z => nomatch z))]
    exact ec
end
section
variable {X : Cx} {pins : List (Addr × Obj)} {σ : St} {H : Hp} {s : Shared} {a : Addr} {kvs : List (Key × V)} {k : Key} {u : Value} {A : Around} {E : Value → Shared → Prop}
end
def NoSl (i : Expr) : Prop := ∀ ov iv, subscripted i false ov iv = operate [ov, iv] (getItem ov iv)
theorem subD_of {prog : Program} {w : World} {A : Around} {E : Value → Shared → Prop} {s : Shared} {env : Env} {value slice : Expr} {pos : Pos} {T id : String} {Q : Value → Shared → Prop}
    (hl : typeLookup (.type T) "__getitem__" = pure (some (.builtin id))) (hs : NoSl slice)
    (h : wpAny (model prog w) A (eval value env) (fun o s₁ => wpAny (model prog w) A (eval slice env) (fun i s₂ => s₂.TypeIs o T ∧ wpAny (model prog w) A (getItem o i) Q E s₂) E s₁) E s) :
    wpAny (model prog w) A (eval (.Subscript value slice pos) env) Q E s := by
  refine Subscript_ (wpAny_mono h (fun o s₁ h₁ => wpAny_mono h₁ (fun i s₂ h₂ => ?_) fun _ _ x => x) fun _ _ x => x)
  obtain ⟨hT, h₂⟩ := h₂
  unfold subscriptTail
  refine wpAny_bind ?_
  rw [getitemInPython_of_ne hT.not_modules]
  refine wpAny_bind (wpAny_specialOf hT hl ?_)
  have fin : wpAny (model prog w) A (subscripted slice false o i) (fun r s₃ => wpAny (model prog w) A (letTemporaryGo value o r >>= fun _ => pure r) Q E s₃) E s₂ := by
    rw [hs o i]
    exact wpAny_operating (wpAny_mono h₂ (fun r s₃ h₃ => wpAny_bind (wpAny_letTemporaryGo (wpAny_pure h₃))) fun _ _ x => x)
  first
    | exact wpAny_pure (wpAny_bind fin)
    | exact wpAny_bind (wpAny_pure (wpAny_bind fin))
    | exact wpAny_bind fin
theorem dict_typeIs {X : Cx} {pins : List (Addr × Obj)} {σ : St} {H : Hp} {s : Shared} {a : Addr} {y : V} {o : Option V} (I : Inv X pins σ H s) (g : DGet H a y o) : s.TypeIs (.ref a) "dict" := by
  rcases g with ⟨kvs, k, e, _, _⟩ | ⟨kvs, k, b, e, _, _, _⟩
  · obtain ⟨_, _, vs, _, dd⟩ := dk_rd I.hok e
    exact dd.typeIs
  · obtain ⟨_, _, xs, _, dd⟩ := dt_rd I.hok e
    exact dd.typeIs
def tDGet (td ty : TE) : TE := fun σ H Q => td σ H fun x H1 => ty σ H1 fun y H2 => ∃ a v, x = .ref a ∧ DGet H2 a y (some v) ∧ Q v H2
def tDIn (ty td : TE) : TE := fun σ H Q => ty σ H fun y H1 => td σ H1 fun x H2 => ∃ a o, x = .ref a ∧ DGet H2 a y o ∧ Q (.bl o.isSome) H2
def tDNotIn (ty td : TE) : TE := fun σ H Q => ty σ H fun y H1 => td σ H1 fun x H2 => ∃ a o, x = .ref a ∧ DGet H2 a y o ∧ Q (.bl (!o.isSome)) H2
def sDPut (td ty tv : TE) : TS := fun D σ H => tv σ H fun v H1 => td σ H1 fun x H2 => ty σ H2 fun y H3 => ∃ a H4, x = .ref a ∧ DPut H3 a y v H4 ∧ D.nx σ H4
section
variable {X : Cx} {o i e value : Expr} {pos pos' tpos : Pos} {td ty tv : TE}
theorem pe_dget (hu : X.A.units + 1 < cLine) (ho : PE X o td) (hi : PE X i ty) (hs : NoSl i) : PE X (.Subscript o i pos) (tDGet td ty) := by
  intro pins s σ H Q I h
  refine subD_of PySem.F.slot_dict_getitem.lookup hs (thn (ho pins s σ H _ I h) fun u s1 ⟨x, H1, I1, rx, q1⟩ => thn (hi pins s1 σ H1 _ I1 q1) fun iv s2 ⟨y, H2, I2, ry, a, v, ex, g, q2⟩ => ?_)
  subst ex
  obtain rfl : u = Value.ref a := rx
  exact ⟨dict_typeIs I2 g, d_getItem hu I2 g ry fun w' s3 I3 rw' => ⟨v, H2, I3, rw', q2⟩⟩
theorem pc_din (hu : X.A.units + 1 < cLine) (hi : PE X i ty) (ho : PE X o td) : PC X .In i o (tDIn ty td) := by
  intro pins s σ H Q I h
  refine thn (hi pins s σ H _ I h) fun iv s1 ⟨y, H1, I1, ry, q1⟩ => thn (ho pins s1 σ H1 _ I1 q1) fun u s2 ⟨x, H2, I2, rx, a, ov, ex, g, q2⟩ => ?_
  subst ex
  obtain rfl : u = Value.ref a := rx
  exact d_in hu I2 g ry fun s3 I3 => ⟨.bl ov.isSome, H2, I3, rfl, q2⟩
theorem pc_dnotin (hu : X.A.units + 1 < cLine) (hi : PE X i ty) (ho : PE X o td) : PC X .NotIn i o (tDNotIn ty td) := by
  intro pins s σ H Q I h
  refine thn (hi pins s σ H _ I h) fun iv s1 ⟨y, H1, I1, ry, q1⟩ => thn (ho pins s1 σ H1 _ I1 q1) fun u s2 ⟨x, H2, I2, rx, a, ov, ex, g, q2⟩ => ?_
  subst ex
  obtain rfl : u = Value.ref a := rx
  exact d_notIn hu I2 g ry fun s3 I3 => ⟨.bl (!ov.isSome), H2, I3, rfl, q2⟩
theorem ps_dput (hu : X.A.units + 1 < cLine) (ho : PE X o td) (hi : PE X i ty) (hv : PE X value tv) (hs : swapsWith value (some (.Subscript o i pos')) pos.line X.env = pure false) :
    PS X (.Assign [.Subscript o i pos'] value pos) (sDPut td ty tv) := by
  intro pins s σ H D I h
  refine wpAny_Assign_Subscript (thn (hv pins s σ H _ I h) fun r s1 ⟨v, H1, I1, rv, q1⟩ => thn (ho pins s1 σ H1 _ I1 q1) fun u s2 ⟨x, H2, I2, rx, q2⟩ => thn (hi pins s2 σ H2 _ I2 q2) fun iv s3 ⟨y, H3, I3, ry, a, H4, ex, g, q3⟩ => ?_) hs
  subst ex
  obtain rfl : u = Value.ref a := rx
  exact d_setItem hu I3 g ry rv fun s4 I4 => ⟨σ, H4, I4, q3⟩
end
theorem dk_empty {P : Program} {w : World} {H : Hp} (h : Heap) (hb : sysModules < h.objs.size) : ObjOk P w H (h.push { cls := .type "dict", data := .dict #[] }) h.objs.size (.dK []) :=
  ⟨Nat.zero_le _, beq_eq_false_iff_ne.mpr (Ne.symm (Nat.ne_of_lt hb)), [], .nil, Heap.DictOf.new h⟩
def tDNewK : TE := fun _ H Q => ∀ p, H p = none → Q (.ref p) (upd H p (.dK []))
section
variable {X : Cx} {pos : Pos}
theorem pe_dnewK : PE X (.Dict [] [] pos) tDNewK := fun pins s σ H Q I h =>
  wpAny_Dict_empty ⟨.ref s.heap.objs.size, _, I.laid (a := s.heap.objs.size) (o := .dK []) (t' := s.toks) (fun _ _ q => Heap.get?_push_of_some _ q) (Nat.le_refl _) (dk_empty s.heap I.big), rfl, h _ (I.hok.fresh (Nat.le_refl _))⟩
end
def tPairs : List (TE × TE) → St → Hp → (List (V × V) → Hp → Prop) → Prop
  | [], _, H, Q => Q [] H
  | (tk, tv) :: r, σ, H, Q => tk σ H fun x H1 => tv σ H1 fun y H2 => tPairs r σ H2 fun ps H3 => Q ((x, y) :: ps) H3
abbrev VV : List (V × V) → List (Value × Value) → Prop := Paired fun p q => RelV p.1 q.1 ∧ RelV p.2 q.2
def PPs (X : Cx) (pos : Pos) (keys : List (Option Expr)) (values : List Expr) (trs : List (TE × TE)) : Prop :=
  ∀ (pins : List (Addr × Obj)) (s : Shared) (σ : St) (H : Hp) (Q : List (V × V) → Hp → Prop), Inv X pins σ H s → tPairs trs σ H Q →
    wpAny (model X.prog X.w) X.A (evalPairs (pairTrees keys values X.env pos)) (fun vs s' => ∃ ps H', Inv X pins σ H' s' ∧ VV ps vs ∧ Q ps H') X.xe s
structure M1 (X : Cx) (o : Expr) (m : Str) (apos : Pos) (e : Expr) (cpos : Pos) : Prop where
  base : attributeBase o m X.env (eval o X.env) = eval o X.env
  few : ((backTo cpos (starEach [e] X.env)).all (fun x => !x.1) && (backToKw cpos (keywordEach [] X.env)).all (fun x => x.1.isSome)
    && decide (([e] : List Expr).length + ([] : List Keyword).length + (if ([] : List Keyword).isEmpty then 0 else 1) < 30)) = true
  line : (apos.endLine == cpos.line) = true
  trees : backTo cpos (starEach [e] X.env) = [(false, eval e X.env)]
structure M2 (X : Cx) (o : Expr) (m : Str) (apos : Pos) (e f : Expr) (cpos : Pos) : Prop where
  base : attributeBase o m X.env (eval o X.env) = eval o X.env
  few : ((backTo cpos (starEach [e, f] X.env)).all (fun x => !x.1) && (backToKw cpos (keywordEach [] X.env)).all (fun x => x.1.isSome)
    && decide (([e, f] : List Expr).length + ([] : List Keyword).length + (if ([] : List Keyword).isEmpty then 0 else 1) < 30)) = true
  line : (apos.endLine == cpos.line) = true
  trees : backTo cpos (starEach [e, f] X.env) = [(false, eval e X.env), (false, eval f X.env)]
def IsD (H : Hp) (a : Addr) : Prop := (∃ kvs, Rd H a (.dK kvs)) ∨ ∃ kvs, Rd H a (.dT kvs)
theorem isD_at {X : Cx} {pins : List (Addr × Obj)} {σ : St} {H : Hp} {s : Shared} {a : Addr} (I : Inv X pins σ H s) (d : IsD H a) :
    s.TypeIs (.ref a) "dict" ∧ (∀ b, Value.ref a = .ref b → ∃ ob, s.heap.get? b = some ob ∧ ob.dict = none) ∧ (a == sysModules) = false := by
  rcases d with ⟨kvs, e⟩ | ⟨kvs, e⟩
  · obtain ⟨_, hd, vs, _, dd⟩ := dk_rd I.hok e
    refine ⟨dd.typeIs, fun b q => ?_, hd⟩
    cases q
    obtain ⟨ob, _, _, h1, h2, _⟩ := dd
    exact ⟨ob, h1, h2.2.1⟩
  · obtain ⟨_, hd, xs, _, dd⟩ := dt_rd I.hok e
    refine ⟨dd.typeIs, fun b q => ?_, hd⟩
    cases q
    obtain ⟨ob, _, _, h1, h2, _⟩ := dd
    exact ⟨ob, h1, h2.2.1⟩
section
variable {X : Cx} {pins : List (Addr × Obj)} {σ : St} {H : Hp} {s : Shared} {a : Addr} {y d : V} {u r : Value} {o : Option V} {A : Around} {E : Value → Shared → Prop}
theorem d_get1 {Q : Value → Shared → Prop} (hu : A.units + 1 < cLine) (I : Inv X pins σ H s) (g : DGet H a y o) (ry : RelV y u) (h : ∀ w' s', Inv X pins σ H s' → RelV (o.getD .non) w' → Q w' s') :
    wpAny (model X.prog X.w) A (call (.builtin "dict.get") [.ref a, u]) Q E s := by
  rcases g with ⟨kvs, k, e, ey, l⟩ | ⟨kvs, k, b, e, ey, eb, l⟩
  · subst ey
    obtain ⟨z, hd, vs, rel, dd⟩ := dk_rd I.hok e
    refine call_meetsIn PySem.F.slot_dict_get dd.typeIs PySem.F.entry_dict_get (PySem.F.args_dict_get_2 _ _) (meets_dict_get (mixKind X.prog X.w) a (kV_is ry) hd) ⟨_, dd.mapOf, h _ _ (I.tok _) ?_⟩
    rw [l]
    exact (rel.val k).getD rfl
  · subst ey
    cases (show u = Value.ref b from ry)
    obtain ⟨z, hd, xs, rel, dd⟩ := dt_rd I.hok e
    refine call_meetsIn PySem.F.slot_dict_get dd.typeIs PySem.F.entry_dict_get (PySem.F.args_dict_get_2 _ _) (meetsH_dict_get (tupleKind (mixKind X.prog X.w)) a b hd) ⟨tupleKind_room_in1 hu, k, xs, key_of I.hok eb, dd, h _ _ (I.tok _) ?_⟩
    rw [l]
    exact (rel.val k).getD rfl
theorem d_get2 {Q : Value → Shared → Prop} (hu : A.units + 1 < cLine) (I : Inv X pins σ H s) (g : DGet H a y o) (ry : RelV y u) (rd : RelV d r) (h : ∀ w' s', Inv X pins σ H s' → RelV (o.getD d) w' → Q w' s') :
    wpAny (model X.prog X.w) A (call (.builtin "dict.get") [.ref a, u, r]) Q E s := by
  rcases g with ⟨kvs, k, e, ey, l⟩ | ⟨kvs, k, b, e, ey, eb, l⟩
  · subst ey
    obtain ⟨z, hd, vs, rel, dd⟩ := dk_rd I.hok e
    refine call_meetsIn PySem.F.slot_dict_get dd.typeIs PySem.F.entry_dict_get (PySem.F.args_dict_get_3 _ _ _) (meets_dict_get_default (mixKind X.prog X.w) a (kV_is ry) hd r) ⟨_, dd.mapOf, h _ _ (I.tok _) ?_⟩
    rw [l]
    exact (rel.val k).getD rd
  · subst ey
    cases (show u = Value.ref b from ry)
    obtain ⟨z, hd, xs, rel, dd⟩ := dt_rd I.hok e
    refine call_meetsIn PySem.F.slot_dict_get dd.typeIs PySem.F.entry_dict_get (PySem.F.args_dict_get_3 _ _ _) (meetsH_dict_get_default (tupleKind (mixKind X.prog X.w)) a b hd r) ⟨tupleKind_room_in1 hu, k, xs, key_of I.hok eb, dd, h _ _ (I.tok _) ?_⟩
    rw [l]
    exact (rel.val k).getD rd
end
def tDGet1 (td ty : TE) : TE := fun σ H Q => td σ H fun x H1 => ∃ a, x = .ref a ∧ IsD H1 a ∧ ty σ H1 fun y H2 => ∃ o, DGet H2 a y o ∧ Q (o.getD .non) H2
def tDGet2 (td ty tx : TE) : TE := fun σ H Q => td σ H fun x H1 => ∃ a, x = .ref a ∧ IsD H1 a ∧ ty σ H1 fun y H2 => tx σ H2 fun z H3 => ∃ o, DGet H3 a y o ∧ Q (o.getD z) H3
section
variable {X : Cx} {o e f : Expr} {apos cpos : Pos} {td ty tx : TE}
theorem pe_dget1 (hu : X.A.units + 1 < cLine) (ho : PE X o td) (he : PE X e ty) (m : M1 X o "get" apos e cpos) : PE X (.Call (.Attribute o "get" apos) [e] [] cpos) (tDGet1 td ty) := by
  intro pins s σ H Q I h
  refine wpAny_Call_method m.base m.few m.line PySem.F.plainAttrs_dict PySem.F.slot_dict_get PySem.F.type_dict_get (thn (ho pins s σ H _ I h) fun u s1 ⟨x, H1, I1, rx, a, ex, d, q1⟩ => ?_)
  subst ex
  obtain rfl : u = Value.ref a := rx
  obtain ⟨t1, t2, _⟩ := isD_at I1 d
  refine ⟨t1, t2, ?_⟩
  rw [m.trees]
  refine Calls.callWith_builtin rfl (Calls.evalArgs_plain (Calls.spliced_cons (thn (he pins s1 σ H1 _ I1 q1) fun iv s2 ⟨y, H2, I2, ry, ov, g, q2⟩ => Calls.spliced_nil ?_)))
  exact d_get1 hu I2 g ry fun w' s3 I3 rw' => ⟨_, H2, I3, rw', q2⟩
theorem pe_dget2 (hu : X.A.units + 1 < cLine) (ho : PE X o td) (he : PE X e ty) (hf : PE X f tx) (m : M2 X o "get" apos e f cpos) : PE X (.Call (.Attribute o "get" apos) [e, f] [] cpos) (tDGet2 td ty tx) := by
  intro pins s σ H Q I h
  refine wpAny_Call_method m.base m.few m.line PySem.F.plainAttrs_dict PySem.F.slot_dict_get PySem.F.type_dict_get (thn (ho pins s σ H _ I h) fun u s1 ⟨x, H1, I1, rx, a, ex, d, q1⟩ => ?_)
  subst ex
  obtain rfl : u = Value.ref a := rx
  obtain ⟨t1, t2, _⟩ := isD_at I1 d
  refine ⟨t1, t2, ?_⟩
  rw [m.trees]
  refine Calls.callWith_builtin rfl (Calls.evalArgs_plain (Calls.spliced_cons (thn (he pins s1 σ H1 _ I1 q1) fun iv s2 ⟨y, H2, I2, ry, q2⟩ =>
    Calls.spliced_cons (thn (hf pins s2 σ H2 _ I2 q2) fun fv s3 ⟨z, H3, I3, rz, ov, g, q3⟩ => Calls.spliced_nil ?_))))
  exact d_get2 hu I3 g ry rz fun w' s4 I4 rw' => ⟨_, H3, I4, rw', q3⟩
end
section
variable {X : Cx} {pins : List (Addr × Obj)} {σ : St} {H : Hp} {s : Shared} {a : Addr} {kvs : List (Key × V)} {A : Around} {E : Value → Shared → Prop}
end
section
variable {X : Cx} {pins : List (Addr × Obj)} {σ : St} {H : Hp} {s : Shared} {a : Addr} {y : V} {u : Value} {A : Around} {E : Value → Shared → Prop}
end
end L2
namespace Att
open PySem PySem.W PySem.Calls PyProof.Rows
theorem ints_of_wellAll {P : Params} {h : Heap} : ∀ (ns : List Int) (vs : List Value), WellAll P h vs (ns.map WData.int) → IntsAre vs ns := by
  intro ns
  induction ns with
  | nil =>
    intro vs w
    rw [List.map_nil] at w
    cases w
    exact .nil
  | cons n ns ih =>
    intro vs w
    rw [List.map_cons] at w
    cases w with
    | cons a b =>
      cases a
      exact .cons _ _ (ih _ b)
theorem script_of {l : OpenLaw} {n : Nat} (hn : l.most = some n) {P : Params} {h : Heap} {args : List WData} {vals : List Value}
    (hpre : l.row.toRowW.claim.pre args = true) (hwl : WellAll P h vals args) :
    ∃ a vs ns, vals = [Value.ref a] ∧ args = [WData.list (ns.map WData.int)] ∧ h.get? a = some { cls := .type "list", data := .seq vs.toArray } ∧ IntsAre vs ns ∧ ns.length ≤ n := by
  have hsh : WShape.hasAll [] args [.list .int] = true := (pre_splitW hpre).1
  have hc : l.pre.holds [] { args := args } = true := (pre_splitW hpre).2
  obtain ⟨d, r, rfl, h1, h2⟩ := hasAllW_cons hsh
  obtain rfl := hasAllW_nil h2
  obtain ⟨xs, rfl, h3⟩ := hasW_list h1
  obtain ⟨ns, rfl⟩ := items_int h3
  have hlen : ns.length ≤ n := by
    unfold OpenLaw.pre at hc
    have h4 : (WTm.not (.lt (.lit (.int (n : Int))) (.len (.arg 0)))).holds [] { args := [.list (ns.map .int)] } = true := by
      have h4 := (holds_andW hc).1
      rw [hn] at h4
      exact h4
    have h5 := condW_of h4 (w_not (w_lt w_lit (w_len_list (w_arg rfl))))
    rw [List.length_map] at h5
    refine Nat.le_of_not_lt fun q => ?_
    have q' : (n : Int) < ((ns.length : Nat) : Int) := by omega
    first
      | (rw [decide_eq_true q'] at h5; exact absurd h5 (by decide))
      | (simp at h5; omega)
  cases hwl with
  | cons w1 w2 =>
    cases w2
    cases w1 with
    | list ho hall => exact ⟨_, _, ns, rfl, rfl, ho, ints_of_wellAll ns _ hall, hlen⟩
theorem post_true (l : OpenLaw) (args : List WData) : l.row.toRowW.claim.post args (.bool true) args = true :=
  postW_of (r := l.row.toRowW) (X := (true == true))
    (show WShape.has [] (.bool true) .bool = true by first | rfl | decide | simp [WShape.has, WShape.arms, WShape.armsAll])
    (show (WTm.eq .res (.lit (.bool true))).value [] { args := args, res := some (.bool true), after := args } = some (.bool (true == true)) from w_eq_bool (w_res rfl) w_lit) rfl
theorem attach_call {l : OpenLaw} {n : Nat} {q : Program} {loose : List Str} {XP : (Str → Option Value) → Heap → Prop} {YP : World → Heap → Prop} {d : DefRec}
    (hn : l.most = some n) (hdf : d.params.defaults = [])
    (call : ∀ (w : World) (s₀ s₁ : Shared) (mg mb : Str → Option Value) (fa : Addr) (o : Obj) (pm cd doc : Value) (a : Addr) (vs : List Value) (ns : List Int),
      Ground q loose [] XP w s₀ mg mb s₁.heap → YP w s₁.heap →
      s₁.heap.get? fa = some o → o.data = .func (docDef d.name d.params d.body d.scope pm cd doc) → s₁.heap.CodeRec cd d.name → mg d.name = some (.ref fa) →
      s₁.heap.get? a = some { cls := .type "list", data := .seq vs.toArray } → IntsAre vs ns → ns.length ≤ n → s₁.gens = #[] →
      codeAny (model l.prog w) callerA (.call (.ref fa) ⟨[.ref a], []⟩) (fun r s' => r = .ok (.ret (.bool true)) ∧ OldK s₁.heap s'.heap ∧ s'.os = s₁.os ∧ AllBare s'.gens) s₁) :
    WalkO q loose XP YP l.row.toRowW d [] (fun f vs => PySem.call f vs) := by
  intro w s₀ s₁ mg mb G Y fa o pm cd doc dV kV ho hd hcd hD hmg hg args vals as hpre hlay hrd hwl hlo
  obtain rfl : dV = .none := Dflts.none hD hdf
  obtain rfl : kV = .none := Dflts.noKw hD
  obtain ⟨a, vs, ns, rfl, rfl, hobj, hints, hlen⟩ := script_of hn hpre hwl
  refine enter_call (codeAny_mono (call w s₀ s₁ mg mb fa o pm cd doc a vs ns G Y ho (fd_plain hd) hcd hmg hobj hints hlen hg) fun r s' hq => ?_)
  obtain ⟨rfl, h2, h3, h4⟩ := hq
  exact ⟨.inl ⟨.bool true, .bool true, [], rfl, fun _ => rfl, .bool true, post_true l _, fun _ => ⟨List.Pairwise.nil, fun _ hm => (nomatch hm)⟩⟩, h2, h3, h4⟩
section
variable {prog : Program} {w : World} {A : Around} {E : Value → Shared → Prop} {s : Shared} {K : Frag}
def ledger (h : Heap) (L d : Addr) : List (Addr × Obj) := (List.range h.objs.size).filterMap fun a => if a = L ∨ a = d then none else (h.get? a).map fun o => (a, o)
end
end Att
namespace L2
open PySem PySem.Spec PyProof.Rows
theorem vals_ints : ∀ {vs : List Value} {ns : List Int}, IntsAre vs ns → Vals (ns.map V.int) vs
  | _, _, .nil => .nil
  | _, _, .cons n t h => .cons ⟨t, rfl⟩ (vals_ints h)
def Only (H : Hp) : Prop := ∀ b, H b = none ∨ ∃ o xs, H b = some (.frz o (.lst xs))
theorem law_call {P : Program} {w : World} {K : PySem.W.Frag} {mg mb : Str → Option Value} {CX : CXT} {k : Nat} {fa a : Addr} {fd : FuncData} {x : Str} {sp : Sp} {s₁ : Shared} {vs : List Value} {ns : List Int}
    (KX : K.In s₁.heap) (hns : s₁.heap.Ns mainGlobals mg) (hb : s₁.heap.Ns builtinsNs mb) (hbb : ∀ x : Str, x ≠ "__name__" → mb x = bootBuiltins x) (hlim : s₁.heap.NoLimit) (hg : s₁.gens = #[])
    (ha : s₁.heap.get? a = some { cls := .type "list", data := .seq vs.toArray }) (hi : IntsAre vs ns) (hl : ns.length ≤ sizeLine) (hr : Room k callerA)
    (F : ∀ base : Heap, K.In base → base.Ns mainGlobals mg → FnOk P w K mg base CX k fa fd [x] sp) (hbind : ∀ (s : Shared) (u : Value), BindsTo s fd ⟨[u], []⟩ [(x, u)])
    (hsp : ∀ H : Hp, Only H → SqL K H a (ns.map V.int) → sp [.ref a] H (fun v _ => v = .bl true) fun _ _ _ => False)
    (hCX : ∀ H e s', CX [] H s₁ (fun _ _ _ => False) e s' → False) :
    codeAny (model P w) callerA (.call (.ref fa) ⟨[.ref a], []⟩) (fun r s' => r = .ok (.ret (.bool true)) ∧ OldK s₁.heap s'.heap ∧ s'.os = s₁.os ∧ AllBare s'.gens) s₁ := by
  have rv := vals_ints hi
  have lenV := hi.length
  -- from an abstract heap in which nothing but the script may be tracked
  have core : ∀ H : Hp, Only H → SqL K H a (ns.map V.int) → HOk P w H s₁.heap → (∀ b, H b ≠ none → b = a) → (H a ≠ none → K.lookup a = none) →
      codeAny (model P w) callerA (.call (.ref fa) ⟨[.ref a], []⟩) (fun r s' => r = .ok (.ret (.bool true)) ∧ OldK s₁.heap s'.heap ∧ s'.os = s₁.os ∧ AllBare s'.gens) s₁ := by
    intro H hO hS hok hA hK
    have base_of : ∀ {b : Addr} {o : Obj}, s₁.heap.get? b = some o → H b = none → (hidT s₁.heap H).get? b = some o := fun e n => hidT_get e n
    have noA : ∀ {b : Addr} {o : Obj} {es : Array DictEntry} {ep : Nat}, s₁.heap.get? b = some o → o.data = .dict es ep → H b = none := fun {b o es ep} e d => by
      cases q : H b with
      | none => rfl
      | some u =>
        have e' : b = a := hA b (by rw [q]; simp)
        subst e'
        rw [ha] at e; cases e
        have d' : Data.seq vs.toArray _ = Data.dict es ep := d
        cases d'
    have nsK : ∀ {b : Addr} {m : Str → Option Value}, s₁.heap.Ns b m → (hidT s₁.heap H).Ns b m := fun {b m} ⟨o, es, ep, e, d, r⟩ => ⟨o, es, ep, base_of e (noA e d), d, r⟩
    have hKb : K.In (hidT s₁.heap H) := fun b o e => base_of (KX b o e) (by
      cases q : H b with
      | none => rfl
      | some u =>
        have e' : b = a := hA b (by rw [q]; simp)
        subst e'
        rw [hK (by rw [q]; simp)] at e; cases e)
    have hM : Mod K mg (hidT s₁.heap H) := ⟨hKb, nsK hns, ⟨mb, nsK hb, hbb⟩, let ⟨mc, h1, h2⟩ := hlim; ⟨mc, nsK h1, h2⟩⟩
    have e0 : Env0 P w K mg (hidT s₁.heap H) callerA [] s₁ H := ⟨rfl, hM, fun b o e => of_hidT e, Nat.le_of_eq (hidT_size _ _), trivial, fun b hb => absurd (show b ∈ ([] : List Addr) from hb) (by simp), hok, .of_eq hg⟩
    refine codeAny_mono ((F _ hKb (nsK hns)).run callerA [] s₁ H ⟨[.ref a], []⟩ [.ref a] [.ref a] _ _ hr e0 (hbind s₁ (.ref a)) (.cons rfl .nil) (hsp H hO hS)) fun r s' h => ?_
    cases r with
    | error e => exact (hCX H e s' h).elim
    | ok fl =>
      cases fl with
      | next => exact False.elim h
      | brk => exact False.elim h
      | cont => exact False.elim h
      | ret u =>
        obtain ⟨v, H', os, bare, un, hok', r', q⟩ := h
        have q' : v = .bl true := q
        subst q'
        obtain rfl : u = Value.bool true := r'
        refine ⟨rfl, OldK.of_keep fun b o e => ?_, os, bare⟩
        cases q : H b with
        | none => exact un.keep b o e q (by intro z; exact absurd (show b ∈ ([] : List Addr) from z) (by simp)) (by simp)
        | some u =>
          rcases hO b with z | ⟨ob, xs, z⟩
          · rw [q] at z; cases z
          · have z2 := un.frzs b ob _ z
            obtain ⟨e1, _⟩ := hok b _ z
            obtain ⟨e2, _⟩ := hok' b _ z2
            rw [e] at e1; cases e1
            exact e2
  cases hk : K.lookup a with
  | some o =>
    -- the script is one of the module's own objects
    have e := KX a o hk
    rw [ha] at e
    cases e
    refine core (fun _ => none) (fun _ => .inl rfl) (.inr ⟨_, vs.toArray, _, hk, rfl, rfl, rfl, by rw [List.size_toArray, lenV]; exact hl, by simpa using rv⟩) (fun b u z => by have z' : (none : Option HO) = some u := z; cases z') (fun b z => absurd rfl z) fun z => absurd rfl z
  | none =>
    refine core (fun b => if b = a then some (.frz { cls := .type "list", data := .seq vs.toArray } (.lst (ns.map V.int))) else none) (fun b => ?_) (.inl (.inr ⟨{ cls := .type "list", data := .seq vs.toArray }, if_pos rfl⟩)) (fun b u z => ?_) (fun b z => ?_) fun _ => hk
    · by_cases hb : b = a
      · exact .inr ⟨_, _, if_pos hb⟩
      · exact .inl (if_neg hb)
    · by_cases hb : b = a
      · have z' := (if_pos hb).symm.trans z
        cases z'
        subst hb
        exact ⟨ha, by rw [List.length_map]; exact hl, vs, _, rv, ha⟩
      · have z' := (if_neg hb).symm.trans z
        cases z'
    · by_cases hb : b = a
      · exact hb
      · exact absurd (if_neg hb) z
end L2
namespace L2
open PySem PySem.Spec PyProof.Rows
abbrev KOf {K : PySem.W.Frag} {h : Heap} (_ : K.In h) : PySem.W.Frag := K
theorem walk_of {l : PySem.W.OpenLaw} {n k : Nat} {q : Program} {loose : List Str} {XP : (Str → Option Value) → Heap → Prop} {YP : World → Heap → Prop} {d : DefRec} {K : Params → PySem.W.Frag} {CX : World → CXT} {sp : World → Sp} {x : Str}
    (hn : l.most = some n) (hn2 : n ≤ sizeLine) (hdf : d.params.defaults = []) (hr : Room k callerA)
    (hY : ∀ (w : World) (h : Heap), YP w h → (K w.params).In h)
    (F : ∀ (w : World) (mg : Str → Option Value) (fa : Addr) (h : Heap), (K w.params).In h → h.Ns mainGlobals mg → mg d.name = some (.ref fa) →
      ∃ fd : FuncData, (∀ (s : Shared) (u : Value), BindsTo s fd ⟨[u], []⟩ [(x, u)]) ∧
        ∀ base : Heap, (K w.params).In base → base.Ns mainGlobals mg → FnOk l.prog w (K w.params) mg base (CX w) k fa fd [x] (sp w))
    (hsp : ∀ (w : World) (H : Hp) (a : Addr) (ns : List Int), ns.length ≤ n → Only H → SqL (K w.params) H a (ns.map V.int) → sp w [.ref a] H (fun v _ => v = .bl true) fun _ _ _ => False)
    (hCX : ∀ (w : World) (H : Hp) (s : Shared) (e : Value) (s' : Shared), CX w [] H s (fun _ _ _ => False) e s' → False) :
    PySem.W.WalkO q loose XP YP l.row.toRowW d [] (fun f vs => PySem.call f vs) := by
  refine Att.attach_call hn hdf fun w s₀ s₁ mg mb fa o pm cd doc a vs ns G Y ho hd hcd hmg hobj hints hlen hg => ?_
  have KX := hY w _ Y
  obtain ⟨fd, hb, hF⟩ := F w mg fa _ KX G.T.g hmg
  exact law_call KX G.T.g G.T.b G.T.builtins G.T.nolimit hg hobj hints (Nat.le_trans hlen hn2) hr hF hb (fun H hO hS => hsp w H a ns hlen hO hS) fun H e s' => hCX w H s₁ e s'
end L2
namespace L2
open PySem PySem.Spec PyProof.Rows
def inClass (s : Stmt) (j : Nat) : Stmt := match s with
  | .ClassDef _ _ _ body _ _ _ _ _ _ _ => body.getD j (.Pass ⟨0, 0, 0, 0⟩)
  | _ => .Pass ⟨0, 0, 0, 0⟩
def defArgs (s : Stmt) : Arguments := match s with
  | .FunctionDef _ a _ _ _ _ _ _ _ _ => a
  | _ => { posonlyargs := [], args := [], vararg := none, kwonlyargs := [], kw_defaults := [], kwarg := none, defaults := [] }
def defBody (s : Stmt) : List Stmt := match s with
  | .FunctionDef _ _ b _ _ _ _ _ _ _ => b
  | _ => []
def defScope (s : Stmt) : Scope := match s with
  | .FunctionDef _ _ _ _ _ _ sc _ _ _ => sc
  | _ => { kind := .function, names := [], isGenerator := false, isCoroutine := false }
abbrev CX0 : CXT := fun _ _ _ _ _ _ => False
abbrev E0 : XK := fun _ _ _ => False
structure Fun (K : PySem.W.Frag) (x qual : Str) (st : Stmt) (f : Addr) (fd : FuncData) : Prop where
  ex : ∃ (oc : Value) (od : Option Addr) (kV doc pm : Value) (an : Option Addr) (cdv ct : Value) (osl : Array (Option Value)),
    fd = PySem.W.fnOf x qual (defArgs st) (defBody st) (defScope st) .none kV doc pm an cdv ct ∧ K.lookup f = some ⟨oc, od, .func fd, osl⟩ ∧ PySem.W.codeIn K cdv qual = true
  kp : PySem.W.keepIn K (.ref f) = true
section
variable {P : Program} {w : World} {K : PySem.W.Frag} {mg : Str → Option Value} {base : Heap}
theorem Fun.binds {x qual : Str} {st : Stmt} {f : Addr} {fd : FuncData} {ps : List Str} (F : Fun K x qual st f fd)
    (h : ∀ (kV doc pm : Value) (an : Option Addr) (cdv ct : Value) (us : List Value), us.length = ps.length → bindArgs (PySem.W.fnOf x qual (defArgs st) (defBody st) (defScope st) .none kV doc pm an cdv ct) ⟨us, []⟩ = pure (ps.zip us)) : Binds K fd ps [] := by
  obtain ⟨oc, od, kV, doc, pm, an, cdv, ct, osl, rfl, lk, hcd⟩ := F.ex
  exact .all (h kV doc pm an cdv ct)
theorem fun_mk {x qual : Str} {st : Stmt} {f : Addr} {oc : Value} {od an : Option Addr} {osl : Array (Option Value)} {kV doc pm cdv ct : Value} (l : K.lookup f = some ⟨oc, od, .func (PySem.W.fnOf x qual (defArgs st) (defBody st) (defScope st) .none kV doc pm an cdv ct), osl⟩)
    (c : PySem.W.codeIn K cdv qual = true) (k : PySem.W.keepIn K (.ref f) = true) : Fun K x qual st f (PySem.W.fnOf x qual (defArgs st) (defBody st) (defScope st) .none kV doc pm an cdv ct) := ⟨⟨oc, od, kV, doc, pm, an, cdv, ct, osl, rfl, l, c⟩, k⟩
end
theorem hu_of {A : Around} {k : Nat} (hr : Room k A) : A.units + 1 < cLine := Nat.lt_of_le_of_lt (Nat.add_le_add_left (by decide : 1 ≤ 64) _) hr.units
section
variable {X : Cx}
theorem pv (i : Nat) {x : Str} {pos : Pos} (hN : X.N[i]? = some x := by rfl) (hv : Vis X.env.scope x := by first | exact Or.inl rfl | exact Or.inr (Or.inl rfl) | exact Or.inr (Or.inr rfl)) (hd : (x == ("__debug__" : Str)) = false := by decide)
    (hcd : (x == ("__classdict__" : Str)) = false := by decide) : PE X (.Name x pos) (tVar i) := pe_var hN hv hd hcd
end
theorem iteT {A B : Prop} (h : A) : if true = true then A else B := by
  rw [if_pos rfl]
  exact h
theorem ite2 {c A B : Prop} [Decidable c] (h1 : c → A) (h2 : ¬ c → B) : if c then A else B := by
  by_cases h : c
  · rw [if_pos h]
    exact h1 h
  · rw [if_neg h]
    exact h2 h
def Same (H H' : Hp) : Prop := ∀ b o, H b = some o → H' b = some o
theorem Same.refl (H : Hp) : Same H H := fun _ _ h => h
theorem Same.trans {H H1 H2 : Hp} (a : Same H H1) (b : Same H1 H2) : Same H H2 := fun c o h => b c o (a c o h)
theorem Same.free {H H' : Hp} (e : Same H H') {l : Addr} (h : H' l = Option.none) : H l = Option.none := by
  cases q : H l with
  | none => rfl
  | some o =>
    rw [e l o q] at h
    cases h
theorem Same.seq {K : PySem.W.Frag} {H H' : Hp} {a : Addr} {xs : List V} (e : Same H H') (h : SqL K H a xs) : SqL K H' a xs := by
  rcases h with (h | ⟨o, h⟩) | h
  · exact .inl (.inl (e _ _ h))
  · exact .inl (.inr ⟨o, e _ _ h⟩)
  · exact .inr h
end L2
namespace L2
open PySem PySem.Spec PyProof.Rows
section
variable {X : Cx}
end
end L2
namespace L2
open PySem PySem.Spec PyProof.Rows
section
variable {κ : Type} [DecidableEq κ]
end
end L2
namespace L2
open PySem PySem.Spec PyProof.Rows
theorem ObjOk.there {P : Program} {w : World} {H : Hp} {h : Heap} {a : Addr} {o : HO} (x : ObjOk P w H h a o) : ∃ ob, h.get? a = some ob := by
  cases o with
  | lst xs => obtain ⟨_, _, _, _, e⟩ := x; exact ⟨_, e⟩
  | tup xs => obtain ⟨_, _, _, ob, e, _⟩ := x; exact ⟨ob, e⟩
  | dK kvs => obtain ⟨_, _, _, _, ob, _, _, e, _⟩ := x; exact ⟨ob, e⟩
  | dT kvs => obtain ⟨_, _, _, _, ob, _, _, e, _⟩ := x; exact ⟨ob, e⟩
  | set S n => obtain ⟨ob, _, _, _, e, _⟩ := x; exact ⟨ob, e⟩
  | ins C dx fs => obtain ⟨_, _, _, e, _⟩ := x; exact ⟨_, e⟩
  | own y => obtain ⟨ob, e⟩ := x; exact ⟨ob, e⟩
  | xd fs => obtain ⟨_, ⟨ob, _, _, e, _⟩, _⟩ := x; exact ⟨ob, e⟩
  | rng lo hi => obtain ⟨_, _, _, e⟩ := x; exact ⟨_, e⟩
  | frz ob u => obtain ⟨e, _⟩ := x; exact ⟨ob, e⟩
  | tbl ps => exact ⟨_, (show h.get? a = some _ from x)⟩
  | met f y => exact ⟨_, (show h.get? a = some _ from x)⟩
  | ext φ => obtain ⟨_, q, _⟩ := x; exact q
theorem HOk.keptT {P : Program} {w : World} {H : Hp} {h h' : Heap} (x : HOk P w H h) (k : ∀ b u, H b ≠ none → h.get? b = some u → h'.get? b = some u) : HOk P w H h' := fun a o e =>
  (x a o e).stay (fun b u hb q => k b u (by
    rcases hb with z | z
    · rw [z, e]; exact fun y => nomatch y
    · rw [z]; exact fun y => nomatch y) q) (fun _ q => q) fun _ _ q => q
def CXx (P : Program) (w : World) : CXT := fun outer H s E e s' =>
  ∃ (ea : Addr) (C : Value) (B : Heap) (a0 : Value) (H' : Hp), e = .ref ea ∧ s'.os = s.os ∧ AllBare s'.gens ∧ Un (frs outer) [] H H' s.heap s'.heap ∧ HOk P w H' s'.heap ∧
    Heap.FlyingW B outer ea C a0 s'.heap ∧ (∀ b, H' b ≠ none → ∃ o, B.get? b = some o) ∧ (∀ b o, s.heap.get? b = some o → b ∉ frs outer → ∃ o', B.get? b = some o') ∧ E C none H'
structure Body (X : Cx) (E : XK) : Prop where
  ex : X.ex = []
  stk : X.stack = X.env :: X.outer
  fr : X.env.frame = some X.env.locals
  xe : ∀ e s', wpAny (model X.prog X.w) X.A (leaving X.env e) (fun _ s'' => CXx X.prog X.w X.outer X.H₀ X.s₀ E e s'') (fun e' s'' => CXx X.prog X.w X.outer X.H₀ X.s₀ E e' s'') s' → X.xe e s'
section
variable {X : Cx} {E : XK} {pins : List (Addr × Obj)} {σ : St} {H : Hp} {s : Shared}
theorem Body.frs (b : Body X E) : frs X.stack = X.env.locals :: X.fs := by
  show L2.frs X.stack = _
  unfold L2.frs
  rw [b.stk, List.filterMap_cons, b.fr]
  rfl
theorem Body.old (b : Body X E) (I : Inv X pins σ H s) {c : Addr} {o : Obj} (q : X.s₀.heap.get? c = some o) (n : c ∉ X.fs) : c ∉ L2.frs X.stack := by
  rw [b.frs]
  intro m
  rcases List.mem_cons.mp m with z | z
  · exact absurd (Nat.lt_of_lt_of_le (Heap.lt_size q) I.ok.above) (by rw [z]; exact Nat.lt_irrefl _)
  · exact n z
theorem Body.out {H' : Hp} {s' : Shared} {h2 B : Heap} {ea : Addr} {C a0 : Value} (b : Body X E) (I : Inv X pins σ H' s')
    (fl : Heap.FlyingW B X.outer ea C a0 h2) (us : ∀ c ∈ L2.frs X.stack, ∀ o, s'.heap.get? c = some o → (∀ vs, o.data ≠ .fields vs) → ∃ sl, h2.get? c = some { o with slots := sl })
    (kB : ∀ c o, s'.heap.get? c = some o → (∃ o', B.get? c = some o') → h2.get? c = some o)
    (trk : ∀ c, H' c ≠ none → ∃ o, B.get? c = some o) (old : ∀ c o, X.s₀.heap.get? c = some o → c ∉ L2.frs X.stack → ∃ o', B.get? c = some o') (h : E C none H') :
    CXx X.prog X.w X.outer X.H₀ X.s₀ E (.ref ea) { s' with heap := h2 } := by
  have noex : ∀ c : Addr, c ∉ X.ex := fun c z => by rw [b.ex] at z; exact absurd z (by simp)
  refine ⟨ea, C, B, a0, H', rfl, I.os, I.bare, ⟨fun c o q n hc _ => ?_, fun c o q n hc _ => ?_, fun c o q n _ => I.base.free c o q n (noex c), fun c o q _ => ?_, I.base.tups, I.base.frzs, I.base.tbls⟩,
    I.hok.keptT fun c u n q => kB c u q (trk c n), fl, trk, fun c o q n => old c o q (b.old I q n), h⟩
  · exact kB c o (I.base.keep c o q n hc (noex c)) (old c o q (b.old I q hc))
  · obtain ⟨sl, e1⟩ := I.base.slot c o q n hc (noex c)
    obtain ⟨_, o', ho', nf⟩ := I.funs.mem hc
    rw [e1] at ho'
    have ho' := Option.some.inj ho'
    obtain ⟨sl', e2⟩ := us c (by rw [b.frs]; exact List.mem_cons_of_mem _ hc) _ e1 (by rw [ho']; exact nf)
    exact ⟨sl', e2⟩
  · obtain ⟨o', e1⟩ := I.base.there c o q (noex c)
    by_cases hm : c ∈ L2.frs X.stack
    · obtain ⟨_, o2, ho2, nf⟩ := I.stack.mem hm
      rw [e1] at ho2
      have ho2 := Option.some.inj ho2
      obtain ⟨sl', e2⟩ := us c hm _ e1 (by rw [ho2]; exact nf)
      exact ⟨_, e2⟩
    · exact ⟨o', kB c o' e1 (old c o q hm)⟩
theorem Body.raised {e : Addr} {C : Value} {args : List Value} {h' : Heap} (b : Body X E) (I : Inv X pins σ H s) (hx : Heap.MadeExcOf s.heap h' e C args) (h : E C none H) : X.xe (.ref e) { s with heap := h' } := by
  refine b.xe _ _ ?_
  have hF := PySem.W.funFrames_hide (as := L2.frs X.stack) I.stack fun env he a ha => List.mem_filterMap.mpr ⟨env, he, ha⟩
  rw [b.stk] at hF
  have kB : ∀ c o, s.heap.get? c = some o → c ∉ L2.frs X.stack → (PySem.W.hideAll s.heap (L2.frs X.stack)).get? c = some o := fun c o q n => PySem.W.hideAll_get _ q n
  refine wpAny_leaves_madeW (h := s.heap) (I.ok.frames.trans (congrArg some b.stk)) b.fr (fun c o q => PySem.W.of_hideAll (L2.frs X.stack) q) (by rw [b.stk]; exact hF) hx fun h2 t fl _ _ us => ?_
  refine b.out (s' := s) I fl (fun c _ o q nf => us c o (hx.keeps c o q) nf) (fun c o q z => ?_) (fun c n => ?_) (fun c o q n => ?_) h
  · obtain ⟨o', z⟩ := z
    have e1 := PySem.W.of_hideAll (L2.frs X.stack) z
    rw [q] at e1
    cases e1
    exact fl.1 c o z
  · cases q : H c with
    | none => exact absurd q n
    | some u =>
      obtain ⟨o, e1⟩ := (I.hok c u q).there
      exact ⟨o, kB c o e1 fun m => n (I.stkFree c m)⟩
  · obtain ⟨o', e1⟩ := I.base.there c o q (by rw [b.ex]; simp)
    exact ⟨o', kB c o' e1 n⟩
theorem Body.pass {E' : XK} (b : Body X E) (hE : ∀ C d H, E' C d H → E C d H) : Passes (CXx X.prog X.w) X E' := by
  intro pins σ H s e s' I h
  obtain ⟨ea, C, B, a0, H', rfl, os, bare, un, hok, fl, trk, old, q⟩ := h
  have I' : Inv X pins σ H' s' := I.call' (ch := []) os un hok bare (fun b z => absurd z (by simp))
  refine b.xe _ _ ?_
  rw [b.stk] at fl
  refine wpAny_leaves_onW (I.ok.frames.trans (congrArg some b.stk)) b.fr fl fun h2 fl2 us => ?_
  refine b.out I' fl2 (fun c _ o q nf => us c o q nf) (fun c o q z => ?_) trk (fun c o q n => ?_) (hE _ _ _ q)
  · obtain ⟨o', z⟩ := z
    have e1 := fl.1 c o' z
    rw [q] at e1
    cases e1
    exact fl2.1 c o z
  · obtain ⟨o', e1⟩ := I.base.there c o q (by rw [b.ex]; simp)
    exact old c o' e1 n
theorem Body.pass_ (b : Body X E) : Passes (CXx X.prog X.w) X E := b.pass fun _ _ _ h => h
end
theorem pass0x {X : Cx} {P : Program} {w : World} : Passes (CXx P w) X E0 := fun _ _ _ _ _ _ _ h => by
  obtain ⟨_, _, _, _, _, _, _, _, _, _, _, _, _, q⟩ := h
  exact q.elim
section
variable {P : Program} {w : World} {K : PySem.W.Frag} {mg : Str → Option Value} {base : Heap}
theorem body_of {N : List Str} {qual : Str} {scope : Scope} {f : Addr} {cd : Value} {A : Around} {outer : List Env} {s : Shared} {H : Hp} {E : XK} :
    Body (cxOf (CXx P w) P w K mg base N qual scope f cd A outer s H E) E := ⟨rfl, rfl, rfl, fun _ _ h => h⟩
theorem Fun.okX {x qual : Str} {st : Stmt} {f : Addr} {fd : FuncData} {N ps : List Str} {k : Nat} {sp : Sp} (F : Fun K x qual st f fd) (S : FnScope N ps (defScope st)) (len : ∀ vs H Q E, sp vs H Q E → vs.length = ps.length)
    (hbody : ∀ (X : Cx) (cdv : Value) (A : Around) (outer : List Env) (s : Shared) (H : Hp) (vs : List V) (Q : VK) (E : XK), X = cxOf (CXx P w) P w K mg base N qual (defScope st) f cdv A outer s H E → Body X E → Room k X.A → sp vs H Q E →
      ∃ t, PSs X (defBody st) t ∧ t { nx := fun _ H' => Q .non H', rt := Q } (start N vs) H) : FnOk P w K mg base (CXx P w) (k + 1) f fd ps sp := by
  obtain ⟨oc, od, kV, doc, pm, an, cdv, ct, osl, rfl, lk, hcd⟩ := F.ex
  exact fn_of lk hcd S len fun A outer s H vs Q E hr hsp => hbody _ cdv A outer s H vs Q E rfl body_of hr hsp
theorem Fun.okN {x qual : Str} {st : Stmt} {f : Addr} {fd : FuncData} {N ps : List Str} {k : Nat} {sp : Sp} (F : Fun K x qual st f fd) (S : FnScope N ps (defScope st)) (len : ∀ vs H Q E, sp vs H Q E → vs.length = ps.length)
    (hbody : ∀ (cdv : Value) (A : Around) (outer : List Env) (s : Shared) (H : Hp) (vs : List V) (Q : VK) (E : XK), Room k (A.deeper (envOfC qual (defScope st) s.heap.objs.size f cdv)) → sp vs H Q E →
      ∃ t, PSs (cxOf (CXx P w) P w K mg base N qual (defScope st) f cdv A outer s H E).nox (defBody st) t ∧ t { nx := fun _ H' => Q .non H', rt := Q } (start N vs) H) : FnOk P w K mg base (CXx P w) (k + 1) f fd ps sp := by
  obtain ⟨oc, od, kV, doc, pm, an, cdv, ct, osl, rfl, lk, hcd⟩ := F.ex
  refine fn_of lk hcd S len fun A outer s H vs Q E hr hsp => ?_
  obtain ⟨t, h, q⟩ := hbody cdv A outer s H vs Q E hr hsp
  exact ⟨t, h.nox, q⟩
end
end L2
namespace L2
open PySem PySem.Spec PyProof.Rows
structure Exc (K : PySem.W.Frag) (C : Addr) : Prop where
  is : PySem.W.excIn K C [.type "ValueError", .type "Exception", .type "BaseException", .type "object"] "ValueError.__new__" = true
theorem exc_obj {K : PySem.W.Frag} {h : Heap} {C : Addr} {bmB : List Value} {newId : String} (X : K.In h) (q : PySem.W.excIn K C bmB newId = true) :
    ∃ bm N nm qn bs hdct sn sub ab col dd k0 k1 k2 k3 k5 mN, h.get? C = some (excClassObj nm qn C N bs bm hdct sn sub ab col dd k0 k1 k2 k3 k5 newId) ∧ h.Ns N mN ∧ mN "__init__" = none ∧ OwnTail h bmB bm := by
  unfold PySem.W.excIn at q
  split at q
  case h_2 => cases q
  case h_1 dd cd sl ho =>
    split at q
    case h_2 => cases q
    case h_1 C1 bm k0 k1 k2 k3 n1 k5 hm hs =>
      rw [Bool.and_eq_true, Bool.and_eq_true, Bool.and_eq_true, Bool.and_eq_true, Bool.and_eq_true] at q
      obtain ⟨⟨⟨⟨⟨z1, z2⟩, z3⟩, z4⟩, z5⟩, z6⟩ := q
      have z1 := beq_iff_eq.mp z1
      have z2 := beq_iff_eq.mp z2
      have z6 := beq_iff_eq.mp z6
      subst z1 z2
      obtain ⟨nm, bs, mro, ns, qn, hd, sn, sub, ab, col, del⟩ := cd
      have hm' : mro = .ref C1 :: bm := hm
      have z3' : del = false := by
        have y : (!del) = true := z3
        cases del
        · rfl
        · cases y
      clear hm z3
      subst hm'
      subst z3'
      obtain ⟨l⟩ := sl
      have hs : l = _ := hs
      subst hs
      refine ⟨bm, ns, nm, qn, bs, hd, sn, sub, ab, col, dd, k0, k1, k2, k3, k5, h.nsMap ns, X _ _ ho, .of_isNs (PySem.W.isNs_of_in X z5), PySem.W.nsMap_none_of_in X z5 z6, PySem.W.tail_of_in X z4⟩
def tRaise (C : Addr) (E : XK) (t : TA) : TS := fun _ σ H => t σ H fun vs H1 => vs.length ≤ sizeLine ∧ E (.ref C) none H1
theorem ps_raise {X : Cx} {E : XK} {x : Str} {np cpos pos : Pos} {e₀ : Expr} {es : List Expr} {t : TA} {C : Addr} (b : Body X E) (hc : X.calm = true) (hg : Gl X x) (hm : X.mg x = some (.ref C)) (hx : Exc X.K C) (ha : PA X (e₀ :: es) t)
    (hdb : (x == ("__debug__" : Str)) = false := by decide) (he : starEach (e₀ :: es) X.env = (false, eval e₀ X.env) :: starEach es X.env := by rfl) (hpl : (backTo cpos (starEach es X.env)).any (·.1) = false := by rfl) :
    PS X (.Raise (some (.Call (.Name x np) (e₀ :: es) [] cpos)) none pos) (tRaise C E t) := by
  intro pins s σ H D I h
  obtain ⟨bm, N, nm, qn, bs, hdct, sn, sub, ab, col, dd, k0, k1, k2, k3, k5, mN, hC, hN, hni, T⟩ := exc_obj I.ok.mod.kin hx.is
  have hA := ha cpos pins s σ H _ I h
  have hp : (backTo cpos (starEach (e₀ :: es) X.env)).any (·.1) = false := by
    rw [he]
    exact hpl
  refine wpAny_Raise_call_subT (C := C) (nm := nm) (q := qn) (N := N) (bs := bs) (bm := bm) (hdct := hdct) (sn := sn) (sub := sub) (ab := ab) (col := col) (dd := dd) (k0 := k0) (k1 := k1) (k2 := k2) (k3 := k3) (k5 := k5)
    PySem.F.excBase_ValueError (mN := mN) (T.hasType PySem.F.excBase_ValueError.hasBase) (I.ok.hd hc) hp hni (ld_glob I hg hm ⟨rfl, ?_⟩ hdb)
  rw [he] at hA ⊢
  refine Calls.evalArgs_plain (thn hA fun us s2 ⟨vs, H1, I1, r, z, q⟩ => ?_)
  exact ⟨rfl, by rw [← r.length]; exact z, I1.bk _ _ hC, hN.keeps I1.bk, T.keeps I1.bk, fun h' e hx => b.raised I1 hx q⟩
structure Aloft (X : Cx) (pins : List (Addr × Obj)) (H : Hp) (B : Heap) : Prop where
  trk : ∀ b, H b ≠ none → ∃ o, B.get? b = some o
  pin : ∀ p ∈ X.pn ++ pins, ∃ o, B.get? p.1 = some o
  old : ∀ b o, X.s₀.heap.get? b = some o → b ∉ L2.frs X.stack → ∃ o', B.get? b = some o'
theorem Inv.upto {X : Cx} {E : XK} {pins : List (Addr × Obj)} {σ : St} {H : Hp} {s : Shared} {B h2 : Heap} {t' : Nat} (b : Body X E) (I : Inv X pins σ H s) (al : Aloft X pins H B) (st : B.StaysIn s.heap) (st2 : B.StaysIn h2) (us : s.heap.UpToSlots h2) :
    Inv X pins σ H { s with heap := h2, toks := t' } := by
  have noex : ∀ c : Addr, c ∉ X.ex := fun c z => by rw [b.ex] at z; exact absurd z (by simp)
  have kB : ∀ c o, s.heap.get? c = some o → (∃ o', B.get? c = some o') → h2.get? c = some o := fun c o q ⟨o', z⟩ => by
    have e1 := st c o' z
    rw [q] at e1
    cases e1
    exact st2 c o z
  have cl : ∀ c v, s.heap.IsCell c v → h2.IsCell c v := fun c v ⟨o, ho, hd⟩ => by
    obtain ⟨sl, e⟩ := us c o ho fun vs z => by rw [hd] at z; cases z
    exact ⟨_, e, hd⟩
  refine ⟨I.ok, I.os, I.bare, ⟨fun c o q n hc hx => ?_, fun c o q n hc hx => ?_, I.base.free, fun c o q hx => ?_, I.base.tups, I.base.frzs, I.base.tbls⟩, ?_, fun x c e => ?_, I.free, I.freeC, fun p hp => ?_, I.hok.keptT fun c u n q => kB c u q (al.trk c n), I.len⟩
  · exact kB c o (I.base.keep c o q n hc hx) (al.old c o q (b.old I q hc))
  · obtain ⟨sl, e1⟩ := I.base.slot c o q n hc hx
    obtain ⟨_, o', ho', nf⟩ := I.funs.mem hc
    rw [e1] at ho'
    have ho' := Option.some.inj ho'
    obtain ⟨sl', e2⟩ := us c _ e1 (by rw [ho']; exact nf)
    exact ⟨sl', e2⟩
  · obtain ⟨o', e1⟩ := I.base.there c o q hx
    by_cases hm : c ∈ L2.frs X.stack
    · obtain ⟨_, o2, ho2, nf⟩ := I.stack.mem hm
      rw [e1] at ho2
      have ho2 := Option.some.inj ho2
      obtain ⟨sl', e2⟩ := us c _ e1 (by rw [ho2]; exact nf)
      exact ⟨_, e2⟩
    · exact ⟨o', kB c o' e1 (al.old c o q hm)⟩
  · obtain ⟨m, hn, hl⟩ := I.loc
    refine ⟨m, us.ns hn, fun i x v e1 e2 e3 => ?_⟩
    obtain ⟨u, r, l⟩ := hl i x v e1 e2 e3
    refine ⟨u, r, ?_⟩
    rcases l with l | ⟨k, c, e, z⟩
    · exact .inl l
    · exact .inr ⟨k, c, e, cl c _ z⟩
  · obtain ⟨v, z⟩ := I.cell x c e
    exact ⟨v, cl c v z⟩
  · obtain ⟨e, n, ne, nf, d⟩ := I.pin p hp
    exact ⟨kB p.1 p.2 e (al.pin p hp), n, ne, nf, d⟩
section
variable {X : Cx} {E EB : XK} {pins ps : List (Addr × Obj)} {σ : St} {H : Hp} {s : Shared} {e : Value}
end
section
variable {X : Cx} {E : XK} {pins : List (Addr × Obj)} {σ : St} {H : Hp} {s : Shared}
theorem HOk.adopt {P : Program} {w : World} {H : Hp} {h : Heap} {a : Addr} {o : HO} (x : HOk P w H h) (hn : H a = none) (new : ObjOk P w (upd H a o) h a o) : HOk P w (upd H a o) h := fun b u e => by
  by_cases hb : b = a
  · subst hb
    rw [upd_same] at e
    cases e
    exact new
  · rw [upd_ne hb] at e
    exact (x b u e).stay (fun _ _ _ q => q) (fun c q => by rw [upd_ne (ne_of_none q hn)]; exact q) fun c xs q => by rw [upd_ne (ne_of_none q hn)]; exact q
end
end L2
namespace L2
open PySem PySem.Spec PyProof.Rows
theorem comp_loop {prog : Program} {w : World} {A : Around} {R : Result → Shared → Prop} {s : Shared} {elt target iter : Expr} {ifs : List Expr} {scope : Scope} {pos : Pos} {it acc : Value} {env : Env} (I : Nat → Shared → Prop)
    (turn : ∀ n s, I n s → wpAny (model prog w) A (pyNext it) (fun r s₁ => match r with
      | none => R (.ok .next) s₁
      | some v => wpAny (model prog w) A (letOwnedTupleGo target it v) (fun _ s₂ => wpAny (model prog w) A (assign target env v) (fun _ s₃ =>
          wpAny (model prog w) A (forIn ifs true fun c r => if r = true then do let ok ← isTrue c env (eval c env); pure (ForInStep.yield ok) else pure (ForInStep.yield r)) (fun ok s₄ =>
            if ok = true then wpAny (model prog w) A (eval elt env) (fun x s₅ => wpAny (model prog w) A (call (.builtin "list.append") [acc, x]) (fun _ s₆ => ∃ m, m < n ∧ I m s₆) (fun _ _ => False) s₅) (fun _ _ => False) s₄
            else ∃ m, m < n ∧ I m s₄) (fun _ _ => False) s₃) (fun _ _ => False) s₂) (fun _ _ => False) s₁) (fun _ _ => False) s)
    (n : Nat) (h : I n s) : codeAny (model prog w) A (.compLoop (.ListComp elt [⟨target, iter, ifs, 0⟩] scope pos) 0 it acc env) R s := by
  refine codeAny_loop rfl I (fun n s hI => ?_) n h
  show wpAny _ A ((compTurn (.ListComp elt [⟨target, iter, ifs, 0⟩] scope pos) 0 it acc env).onRaise (fun x => do noteFrame x env; theTreesLotGoes x)) _ _ s
  refine wpAny_noted (wpAny_noRaise ?_)
  rw [compTurn_list]
  refine wpAny_bind (wpAny_standAt (wpAny_bind (thn (turn n s hI) fun r s₁ h₁ => ?_)))
  cases r with
  | none => exact wpAny_pure h₁
  | some v =>
    refine wpAny_bind (thn h₁ fun _ s₂ h₂ => wpAny_bind (thn h₂ fun _ s₃ h₃ => wpAny_bind (thn h₃ fun ok s₄ h₄ => ?_)))
    cases ok with
    | false => exact wpAny_pure ⟨rfl, h₄⟩
    | true => exact wpAny_bind (wpAny_bind (thn h₄ fun x s₅ h₅ => wpAny_bind (thn h₅ fun _ s₆ h₆ => wpAny_pure (wpAny_pure ⟨rfl, h₆⟩))))
def PIfs (X : Cx) (ifs : List Expr) (t : TT) : Prop :=
  ∀ (pins : List (Addr × Obj)) (s : Shared) (σ : St) (H : Hp) (Q : Bool → Hp → Prop), Inv X pins σ H s → t σ H Q →
    wpAny (model X.prog X.w) X.A (forIn ifs true fun c r => if r = true then do let ok ← isTrue c X.env (eval c X.env); pure (ForInStep.yield ok) else pure (ForInStep.yield r)) (TP X pins σ Q) X.xe s
def tYes : TT := fun _ H Q => Q true H
theorem pifs_nil {X : Cx} : PIfs X [] tYes := fun pins s σ H Q I h => wpAny_tests_nil ⟨H, I, h⟩
theorem pifs_one {X : Cx} {c : Expr} {t : TT} (h : PT X c t) : PIfs X [c] t := fun pins s σ H Q I hw => wpAny_tests_one (h pins s σ H Q I hw)
def compCx (X : Cx) (scope : Scope) (cl : List (Str × Addr)) (Nc : List Str) (C : Addr) (fp : List Addr) (pins : List (Addr × Obj)) (s3 : Shared) (H3 : Hp) : Cx :=
  { X with N := Nc, s₀ := s3, H₀ := H3, env := compEnvC scope cl C X.env, outer := X.stack, ex := fp, fn := fun x => !(cl.lookup x).isSome, pn := X.pn ++ pins, xe := fun _ _ => False }
structure CompOk (X : Cx) (scope : Scope) (cl : List (Str × Addr)) (x : Str) (fn : List Str) (fv : List Nat) : Prop where
  kind : scope.kind = .function
  ncell : ∀ y ∈ scope.names, y.2 ≠ .cell
  names : ∀ y ∈ scope.names, y.2 = .local → scope.names.lookup y.1 = some .local
  tgt : scope.names.lookup x = some .local
  clos : closureFor scope X.env = pure cl
  cells : ∀ y c, cl.lookup y = some c → X.env.cells.lookup y = some c
  free : ∀ y, ((relabel scope X.env).names.lookup y = some .cell ∨ (relabel scope X.env).names.lookup y = some .free) → ∃ c, cl.lookup y = some c
  slots : ∀ (j : Nat) (y : Str), fn[j]? = some y → ∃ k, fv[j]? = some k ∧ X.N[k]? = some y ∧ Vis X.env.scope y ∧ X.env.kindOf y = some .cell ∧ (relabel scope X.env).names.lookup y = some .cell
  nd : (x :: fn).Nodup
  len : fv.length = fn.length
def CompG (J : It) (fv : List (Option V)) (tt : TT) (te : TE) (Q : VK) (H1 : Hp) (D : Addr) : Prop := ∃ W : Nat → Nat → Hp → Prop, (∃ m, W 0 m (upd H1 D (.lst []))) ∧ ∀ i m H, W i m H →
  (J.stop i H ∧ Q (.ref D) H) ∨ (J.go i H ∧ ∃ N : Hp → Prop, (∀ H', N H' → ∃ m', m' < m ∧ W (i + 1) m' H') ∧ ∀ x H', J.yld i H x H' →
    tt (some x :: fv) H' fun ok H2 => if ok = true then te (some x :: fv) H2 fun y H3 => ∃ ys, H3 D = some (.lst ys) ∧ ys.length < sizeLine ∧ N (upd H3 D (.lst (ys ++ [y]))) else N H2)
def tComp (wi : TI) (fv : List Nat) (tt : TT) (te : TE) : TE := fun σ H Q => wi σ H fun J H1 => ∀ D, H1 D = none → CompG J (fv.map fun j => (σ[j]?).join) tt te Q H1 D
section
variable {X : Cx} {elt iter : Expr} {x : Str} {px pos : Pos} {ifs : List Expr} {scope : Scope} {cl : List (Str × Addr)} {fn : List Str} {fv : List Nat} {wi : TI} {tt : TT} {te : TE} {pins : List (Addr × Obj)} {σ : St} {H : Hp} {s : Shared}
theorem compIn {s3 s4 : Shared} {H3 : Hp} {C : Addr} {fp : List Addr} {m : Str → Option Value} (S : CompOk X scope cl x fn fv) (I3 : Inv X pins σ H3 s3) (hC : C = s3.heap.objs.size) (hfp : ∀ b ∈ fp, FpOk X pins H3 b ∧ b < s3.heap.objs.size)
    (h4 : s4.os = s3.os ∧ s4.gens = s3.gens) (hns : s4.heap.Ns C m) (old : ∀ b o, s3.heap.get? b = some o → s4.heap.get? b = some o) :
    Inv (compCx X scope cl (x :: fn) C fp pins s3 H3) [] (none :: fv.map fun j => (σ[j]?).join) H3 s4 := by
  have hCf : H3 C = none := by rw [hC]; exact I3.hok.fresh (Nat.le_refl _)
  have ltC : ∀ b o, s3.heap.get? b = some o → b ≠ C := fun b o e => by rw [hC]; exact Nat.ne_of_lt (Heap.lt_size e)
  refine ⟨⟨I3.ok.mod, ?_, I3.ok.glob, I3.ok.blt, Nat.le_of_eq hC.symm, fun y z c h1 h2 => I3.ok.inj y z c (S.cells y c h1) (S.cells z c h2), fun y hy => S.free y hy, fun y c h1 h2 => ?_, I3.ok.hd, I3.ok.frames, .inl rfl, fun b hb => ?_, I3.bs, Nat.le_trans I3.ok.bsz I3.sz, fun b o e hb => ?_, fun b hb => ?_, I3.stack, I3.stkFree⟩,
    h4.1, by rw [h4.2]; exact I3.bare, Un.kept old, ⟨m, hns, fun i y v e1 e2 e3 => ?_⟩, fun y c e => ?_, hCf, fun y c e => I3.freeC y c (S.cells y c e), fun p hp => ?_, I3.hok.kept old, ?_⟩
  · show (relabel scope X.env).kind = .function
    exact S.kind
  · have z : (!(cl.lookup y).isSome) = true := h1
    have e : cl.lookup y = some c := h2
    rw [e] at z
    cases z
  · obtain ⟨⟨_, _, _, _, f4, _⟩, lt⟩ := hfp b hb
    exact ⟨by show b ≠ C; rw [hC]; exact Nat.ne_of_lt lt, fun y c e => f4 y c (S.cells y c e)⟩
  · obtain ⟨⟨_, _, _, f3, _⟩, _⟩ := hfp b hb
    rcases f3 with z | z
    · exact I3.ok.noex b o e z
    · exact absurd (Nat.lt_of_lt_of_le (Heap.lt_size (I3.ok.bs b o e).1) z) (Nat.lt_irrefl _)
  · obtain ⟨⟨_, f1, f2, _⟩, _⟩ := hfp b hb
    intro mm
    rcases List.mem_cons.mp (I3.stkSub b mm) with z | z
    · exact f1 z
    · exact f2 z
  · cases i with
    | zero =>
      have e2 : some (none : Option V) = some (some v) := e2
      cases Option.some.inj e2
    | succ j =>
      have e1 : fn[j]? = some y := e1
      have e2 : (fv.map fun j => (σ[j]?).join)[j]? = some (some v) := e2
      obtain ⟨k, f1, f2, f3, f4, f5⟩ := S.slots j y e1
      rw [List.getElem?_map, f1] at e2
      have e2 : (σ[k]?).join = some v := Option.some.inj e2
      have e2 : σ[k]? = some (some v) := by
        cases q : σ[k]? with
        | none => rw [q] at e2; cases e2
        | some o => rw [q] at e2; have e2 : o = some v := e2; rw [e2]
      obtain ⟨m3, hn3, hl3⟩ := I3.loc
      obtain ⟨u, ru, l⟩ := hl3 k y v f2 e2 f3
      refine ⟨u, ru, .inr ⟨.inl f5, ?_⟩⟩
      rcases l with ⟨kk, _⟩ | ⟨_, c, hc, z⟩
      · rw [f4] at kk
        cases kk
      · obtain ⟨c', e'⟩ := S.free y (.inl f5)
        have e'' := S.cells y c' e'
        rw [hc] at e''
        cases e''
        obtain ⟨o, ho, hd⟩ := z
        exact ⟨c, e', o, old c o ho, hd⟩
  · obtain ⟨v, o, ho, hd⟩ := I3.cell y c (S.cells y c e)
    exact ⟨v, o, old c o ho, hd⟩
  · rw [List.append_nil] at hp
    obtain ⟨e, n, ne, nf, d⟩ := I3.pin p hp
    refine ⟨old _ _ e, n, ltC _ _ e, fun mm => ?_, d⟩
    rcases List.mem_cons.mp (I3.stkSub p.1 mm) with z | z
    · exact ne z
    · exact nf z
  · show (fv.map fun j => (σ[j]?).join).length + 1 = fn.length + 1
    rw [List.length_map, S.len]
theorem lookup_relabel_tgt (S : CompOk X scope cl x fn fv) : (relabel scope X.env).names.lookup x = some .local := lookup_relabel_local S.tgt
theorem comp_core {Q0 : VK} {RR : Value → Addr → Result → Shared → Prop} (hc : X.calm = true) (hi : PI X (.Name x px) iter wi) (S : CompOk X scope cl x fn fv)
    (ht : ∀ C fp ps s3 H3, PIfs (compCx X scope cl (x :: fn) C fp ps s3 H3) ifs tt) (he : ∀ C fp ps s3 H3, PE (compCx X scope cl (x :: fn) C fp ps s3 H3) elt te)
    (I : Inv X pins σ H s) (h : tComp wi fv tt te σ H Q0)
    (fin : ∀ (D C : Addr) (H' : Hp) (s' : Shared) (m : Str → Option Value), s'.heap.Ns C m → FpOk X pins H' C → Inv X pins σ H' s' → Q0 (.ref D) H' → RR (.ref D) C (.ok .next) s') :
    wpAny (model X.prog X.w) X.A (eval iter X.env) (fun xv s₁ => wpAny (model X.prog X.w) X.A (pyIter xv) (fun it s₂ => wpAny (model X.prog X.w) X.A (newList []) (fun acc s₃ =>
      wpAny (model X.prog X.w) X.A (newFunctionEnv scope X.env.globals cl [] X.env.qual none .none (some X.env)) (fun cenv s₄ =>
        codeAny (model X.prog X.w) X.A (.compStart (.ListComp elt [⟨.Name x px, iter, ifs, 0⟩] scope pos) 0 it acc { cenv with scope := relabel scope X.env }) (RR acc cenv.locals) s₄) X.xe s₃) X.xe s₂) X.xe s₁) X.xe s := by
  refine thn (hi pins s σ H _ I h) fun xv s1 h1 => thn h1 fun itv s2 h2 => ?_
  obtain ⟨it, fp, tn, J, H2, e, I2, T, st2, f2, q⟩ := h2
  subst e
  have hD : H2 s2.heap.objs.size = none := I2.hok.fresh (Nat.le_refl _)
  obtain ⟨W, ⟨m0, w0⟩, turnW⟩ := q _ hD
  refine wpAny_newObj_type (wpAny_newFunctionEnv S.ncell (by intro y hy; simp at hy) (fun h₁ hns₁ hsb₁ => ?_) S.kind)
  have I3 : Inv X pins σ (upd H2 s2.heap.objs.size (.lst [])) { s2 with heap := s2.heap.push { cls := .type "list", data := .seq ([] : List Value).toArray }, toks := s2.toks } := I2.lnew (its := []) .nil (Nat.zero_le _)
  have obj2 : ∀ b ∈ fp, ∃ o, s2.heap.get? b = some o := fun b hb => let ⟨o, e, _⟩ := T.obj 0 _ st2 b hb; ⟨o, e⟩
  have ltf : ∀ b ∈ fp, b < s2.heap.objs.size := fun b hb => let ⟨o, e⟩ := obj2 b hb; Heap.lt_size e
  have size3 : (s2.heap.push { cls := .type "list", data := .seq ([] : List Value).toArray }).objs.size = s2.heap.objs.size + 1 := Heap.size_push _ _
  have hfp3 : ∀ b ∈ fp, FpOk X pins (upd H2 s2.heap.objs.size (.lst [])) b ∧ b < (s2.heap.push { cls := .type "list", data := .seq ([] : List Value).toArray }).objs.size := fun b hb =>
    ⟨⟨by rw [upd_ne (Nat.ne_of_lt (ltf b hb))]; exact (f2 b hb).1, (f2 b hb).2⟩, by rw [size3]; exact Nat.lt_succ_of_lt (ltf b hb)⟩
  have old : ∀ b o, (s2.heap.push { cls := .type "list", data := .seq ([] : List Value).toArray }).get? b = some o → h₁.get? b = some o := fun b o e =>
    (hsb₁.2 b (Nat.ne_of_lt (Heap.lt_size e))).trans (Heap.get?_push_of_some _ e)
  have I4 := compIn (s4 := { s2 with heap := h₁, toks := s2.toks + ([] : List (Str × Value)).length }) (fp := fp) S I3 rfl hfp3 ⟨rfl, rfl⟩ hns₁ old
  have st4 : tn 0 h₁ := T.keep 0 _ _ st2 fun b hb o e => old b o (Heap.get?_push_of_some _ e)
  have stat : ∀ {ps : List (Addr × Obj)} {H' : Hp}, ps = [] → (∀ b ∈ fp, H' b = none) → ∀ b ∈ fp, FpOk (compCx X scope cl (x :: fn) (s2.heap.push { cls := .type "list", data := .seq ([] : List Value).toArray }).objs.size fp pins
      { s2 with heap := s2.heap.push { cls := .type "list", data := .seq ([] : List Value).toArray }, toks := s2.toks } (upd H2 s2.heap.objs.size (.lst []))) ps H' b := fun {ps H'} e hn b hb => by
    subst e
    obtain ⟨⟨_, f1, f2', f3, f4, f5⟩, lt⟩ := hfp3 b hb
    refine ⟨hn b hb, Nat.ne_of_lt lt, fun mm => ?_, .inl hb, fun y c e => f4 y c (S.cells y c e), fun p hp => ?_⟩
    · rcases List.mem_cons.mp (I3.stkSub b mm) with z | z
      · exact f1 z
      · exact f2' z
    · rw [List.append_nil] at hp
      exact f5 p hp
  have loop : codeAny (model X.prog X.w) X.A (.compLoop (.ListComp elt [⟨.Name x px, iter, ifs, 0⟩] scope pos) 0 (.ref it) (.ref s2.heap.objs.size)
      (compEnvC scope cl (s2.heap.push { cls := .type "list", data := .seq ([] : List Value).toArray }).objs.size X.env)) (RR (.ref s2.heap.objs.size) (s2.heap.push { cls := .type "list", data := .seq ([] : List Value).toArray }).objs.size)
      { s2 with heap := h₁, toks := s2.toks + ([] : List (Str × Value)).length } := by
    refine comp_loop (fun n s' => ∃ i t H', Inv (compCx X scope cl (x :: fn) (s2.heap.push { cls := .type "list", data := .seq ([] : List Value).toArray }).objs.size fp pins
      { s2 with heap := s2.heap.push { cls := .type "list", data := .seq ([] : List Value).toArray }, toks := s2.toks } (upd H2 s2.heap.objs.size (.lst []))) [] (t :: fv.map fun j => (σ[j]?).join) H' s' ∧ tn i s'.heap ∧ (∀ b ∈ fp, H' b = none) ∧ W i n H') ?_ m0
      ⟨0, none, _, I4, st4, fun b hb => (hfp3 b hb).1.1, w0⟩
    rintro n s' ⟨i, t, H', I', st', fr', w'⟩
    rcases turnW i n H' w' with ⟨stop, qn⟩ | ⟨go, N, hN, step⟩
    · refine thn (T.done (compCx X scope cl (x :: fn) (s2.heap.push { cls := .type "list", data := .seq ([] : List Value).toArray }).objs.size fp pins
          { s2 with heap := s2.heap.push { cls := .type "list", data := .seq ([] : List Value).toArray }, toks := s2.toks } (upd H2 s2.heap.objs.size (.lst []))) rfl rfl rfl hc i [] s' _ H' _ I' (stat rfl fr') st' stop) fun r s5 ⟨hr, I5⟩ => ?_
      subst hr
      obtain ⟨m5, hn5, _⟩ := id I5.loc
      have J5 : Inv X pins σ H' s5 := I3.call' (ch := fp) I5.os I5.base I5.hok I5.bare fun b hb => let ⟨⟨_, f1, _, f3, f4, f5⟩, _⟩ := hfp3 b hb; ⟨f3, f1, f4, f5⟩
      exact fin _ _ H' s5 m5 hn5 (I3.fpOk (Nat.le_refl _) I5.free) J5 qn
    · refine thn (T.item (compCx X scope cl (x :: fn) (s2.heap.push { cls := .type "list", data := .seq ([] : List Value).toArray }).objs.size fp pins
          { s2 with heap := s2.heap.push { cls := .type "list", data := .seq ([] : List Value).toArray }, toks := s2.toks } (upd H2 s2.heap.objs.size (.lst []))) rfl rfl rfl hc i [] s' _ H' _ I' (stat rfl fr') st' go) fun r s5 ⟨u, hr, h5⟩ => ?_
      subst hr
      refine thn h5 fun _ s6 ⟨y, H6, I6, r6, y6, st6, fr6⟩ => ?_
      have I6' := I6.pinned (stat rfl fr6) (T.obj _ _ st6)
      have again : ∀ {s7 : Shared} {H7 : Hp} {t7 : Option V}, Inv (compCx X scope cl (x :: fn) (s2.heap.push { cls := .type "list", data := .seq ([] : List Value).toArray }).objs.size fp pins
          { s2 with heap := s2.heap.push { cls := .type "list", data := .seq ([] : List Value).toArray }, toks := s2.toks } (upd H2 s2.heap.objs.size (.lst []))) ([] ++ pinsAt fp s6.heap) (t7 :: fv.map fun j => (σ[j]?).join) H7 s7 → N H7 →
          ∃ m, m < n ∧ ∃ i t H', Inv (compCx X scope cl (x :: fn) (s2.heap.push { cls := .type "list", data := .seq ([] : List Value).toArray }).objs.size fp pins
            { s2 with heap := s2.heap.push { cls := .type "list", data := .seq ([] : List Value).toArray }, toks := s2.toks } (upd H2 s2.heap.objs.size (.lst []))) [] (t :: fv.map fun j => (σ[j]?).join) H' s7 ∧ tn i s7.heap ∧ (∀ b ∈ fp, H' b = none) ∧ W i m H' := fun {s7 H7 t7} I7 n7 => by
        obtain ⟨m', hm, w7⟩ := hN H7 n7
        refine ⟨m', hm, i + 1, t7, H7, I7.unpinned, T.keep _ _ _ st6 fun b hb o e => (I7.pin (b, o) (List.mem_append_right _ (List.mem_append_right _ (mem_pinsAt hb e)))).1, fun b hb => ?_, w7⟩
        obtain ⟨o, e, _⟩ := T.obj _ _ st6 b hb
        exact (I7.pin (b, o) (List.mem_append_right _ (List.mem_append_right _ (mem_pinsAt hb e)))).2.1
      refine wpAny_assign_Name (store_ok (i := 0) I6' S.nd rfl (.inl (lookup_relabel_tgt S)) r6 (fun s7 I7 => ?_) (.inr (lookup_relabel_tgt S)))
      refine thn (ht _ _ _ _ _ _ s7 _ H6 _ I7 (step y H6 y6)) fun ok s8 ⟨H8, I8, q8⟩ => ?_
      cases ok with
      | false =>
        rw [if_neg Bool.false_ne_true] at q8 ⊢
        exact again I8 q8
      | true =>
        rw [if_pos rfl] at q8 ⊢
        refine thn (he _ _ _ _ _ _ s8 _ H8 _ I8 q8) fun z s9 ⟨yv, H9, I9, r9, ys, hDl, hz, q9⟩ => ?_
        refine thn (mt_append _ s9 _ H9 (.ref s2.heap.objs.size) [yv] (.ref s2.heap.objs.size) [z] (fun _ H10 => N H10) I9 rfl (.cons r9 .nil) ⟨_, ys, yv, rfl, rfl, hDl, hz, q9⟩) fun _ s10 ⟨v10, H10, I10, _, q10⟩ => ?_
        exact again I10 q10
  exact codeAny_compStart_list loop (T.self _ 0 _ _ _ st4 loop)
theorem pe_comp (hc : X.calm = true) (hi : PI X (.Name x px) iter wi) (S : CompOk X scope cl x fn fv)
    (ht : ∀ C fp ps s3 H3, PIfs (compCx X scope cl (x :: fn) C fp ps s3 H3) ifs tt) (he : ∀ C fp ps s3 H3, PE (compCx X scope cl (x :: fn) C fp ps s3 H3) elt te)
    (hs : ∀ y, foldedSetIterable iter X.env y = pure y := by intro _; rfl) : PE X (.ListComp elt [⟨.Name x px, iter, ifs, 0⟩] scope pos) (tComp wi fv tt te) := by
  intro pins s σ H Q I h
  rw [eval_ListComp]
  refine wpAny_comprehension_free (use := none) rfl hs S.clos S.kind S.names ?_
  refine comp_core (RR := fun acc C => compPost (model X.prog X.w) X.A X.xe none (EP X pins σ Q) acc C) hc hi S ht he I h fun D C H' s' m hns fo J q => ?_
  obtain ⟨f0, f1, _, f3, f4, f5⟩ := fo
  exact ⟨m, hns, fun h' hs' => ⟨.ref D, H', J.turned (t' := s'.toks) (fun b o hb e => (hs'.2 b hb).trans e) f0 f1 f3 f4 f5, rfl, q⟩⟩
end
end L2
namespace L2
open PySem PySem.Spec PyProof.Rows
theorem Vals.getE {xs : List V} {us : List Value} (r : Vals xs us) {m : Nat} (hm : m < us.length) : ∃ y, xs[m]? = some y ∧ RelV y us[m] := by
  have hl := r.length
  cases e : xs[m]? with
  | none => exact absurd (List.getElem?_eq_none_iff.mp e) (by omega)
  | some y =>
    obtain ⟨u, hu, ru⟩ := r.get e
    rw [List.getElem?_eq_getElem hm] at hu
    cases hu
    exact ⟨y, rfl, ru⟩
section
variable {X : Cx}
def kitPure (T U : String) : Option Bool := if (Value.type T == Value.type U) = true then some true else if PySem.W.kitMeta U = true then (fastBuiltinMro T).map (·.contains (.type U)) else none
theorem kit_pure {K : PySem.W.Frag} {T U : String} {b : Bool} (h : kitPure T U = some b) : PySem.W.kitOne K (.type T) (.type U) = some b := h
def clsV : V → Option Value
  | .ty T => some (.type T)
  | .ref D => some (.ref D)
  | _ => none
theorem clsV_rel {c : V} {u cv : Value} (r : RelV c u) (h : clsV c = some cv) : u = cv := by
  cases c with
  | ty T => cases (show u = Value.type T from r); exact Option.some.inj h
  | ref D => cases (show u = Value.ref D from r); exact Option.some.inj h
  | _ => cases h
theorem call_isinst : CallR X (.builtin "isinstance") (fun xs H Q => ∃ x c t cv b, xs = [x, c] ∧ TyOf X.K H x t ∧ clsV c = some cv ∧ PySem.W.kitOne X.K t cv = some b ∧ Q (.bl b) H) := by
  intro pins s σ H xs us Q I r h
  obtain ⟨x, c, t, cv, b, rfl, ty, hc, hk, q⟩ := h
  obtain ⟨u, w', rfl, rx, rc⟩ := vals2 r
  cases clsV_rel rc hc
  exact isinst_ok I rx ty hk fun tk => ⟨.bl b, H, I.tok tk, rfl, q⟩
end
end L2
namespace L2
open PySem PySem.Spec PyProof.Rows
def EqV (X : Cx) (A : Around) (H : Hp) (x y : V) (b : Bool) : Prop := ∀ (pins : List (Addr × Obj)) (σ : St) (s : Shared) (u v : Value), Inv X pins σ H s → RelV x u → RelV y v → SeqAt.EqAt A s u v b
theorem EqV.flat {X : Cx} {A : Around} {H : Hp} {x y : V} (fx : flatV x = true) (fy : flatV y = true) : EqV X A H x y (eqV x y) := fun _ _ _ _ _ _ rx ry => eqAt_V rx ry fx fy
section
variable {X : Cx} {A : Around} {H : Hp} {a b : Addr} {xs ys : List V} {e : Nat → Bool}
theorem EqV.tup (hu : A.units < cLine) (ha : SqT X.K H a xs) (hb : SqT X.K H b ys) (he : ∀ (j : Nat) x y, xs[j]? = some x → ys[j]? = some y → EqV X A.in1 H x y (e j))
    (hr : a = b → ((List.range (min xs.length ys.length)).all e && xs.length == ys.length) = true) : EqV X A H (.ref a) (.ref b) ((List.range (min xs.length ys.length)).all e && xs.length == ys.length) := by
  intro pins σ s u v I rx ry
  cases rx
  cases ry
  by_cases ab : a = b
  · rw [hr ab, ab]
    exact SeqAt.EqAt.same _
  · obtain ⟨its, r1, p1, _⟩ := I.tuple ha
    obtain ⟨its2, r2, p2, _⟩ := I.tuple hb
    refine SeqAt.EqAt.of_refs ab ?_
    have z := SeqAt.RcAt.tuples (e := e) p1 p2 hu fun j h1 h2 => by
      have l1 : j < its.length := by simpa using h1
      have l2 : j < its2.length := by simpa using h2
      obtain ⟨x, hx, rx⟩ := r1.getE l1
      obtain ⟨y, hy, ry⟩ := r2.getE l2
      rw [show its.toArray[j] = its[j] by simp, show its2.toArray[j] = its2[j] by simp]
      exact he j x y hx hy pins σ s _ _ I rx ry
    rw [List.size_toArray, List.size_toArray, ← r1.length, ← r2.length] at z
    exact z
theorem RcV.lst {pins : List (Addr × Obj)} {σ : St} {s : Shared} (I : Inv X pins σ H s) (hu : A.units < cLine) (ha : SqL X.K H a xs) (hb : SqL X.K H b ys) (he : xs.length = ys.length → ∀ (j : Nat) x y, xs[j]? = some x → ys[j]? = some y → EqV X A.in1 H x y (e j)) :
    SeqAt.RcAt A s (.ref a) (.ref b) (xs.length == ys.length && (List.range xs.length).all e) := by
  obtain ⟨its, r1, p1, _⟩ := I.list ha
  obtain ⟨its2, r2, p2, _⟩ := I.list hb
  have l1 := r1.length
  have l2 := r2.length
  by_cases hl : xs.length = ys.length
  · have z := SeqAt.RcAt.lists (e := e) p1.isList p2.isList (by rw [List.size_toArray, List.size_toArray]; omega) hu fun j h1 h2 => by
      have m1 : j < its.length := by simpa using h1
      have m2 : j < its2.length := by simpa using h2
      obtain ⟨x, hx, rx⟩ := r1.getE m1
      obtain ⟨y, hy, ry⟩ := r2.getE m2
      rw [show its.toArray[j] = its[j] by simp, show its2.toArray[j] = its2[j] by simp]
      exact he hl j x y hx hy pins σ s _ _ I rx ry
    rw [List.size_toArray, ← l1] at z
    rw [show (xs.length == ys.length) = true by simp [hl], Bool.true_and]
    exact z
  · rw [show (xs.length == ys.length) = false by simp [hl], Bool.false_and]
    exact SeqAt.RcAt.lists_lengths p1.isList p2.isList (by rw [List.size_toArray, List.size_toArray, ← l1, ← l2]; simp [hl]) hu
theorem EqV.lst (hu : A.units < cLine) (ha : SqL X.K H a xs) (hb : SqL X.K H b ys) (he : xs.length = ys.length → ∀ (j : Nat) x y, xs[j]? = some x → ys[j]? = some y → EqV X A.in1 H x y (e j))
    (hr : a = b → (xs.length == ys.length && (List.range xs.length).all e) = true) : EqV X A H (.ref a) (.ref b) (xs.length == ys.length && (List.range xs.length).all e) := by
  intro pins σ s u v I rx ry
  cases rx
  cases ry
  by_cases ab : a = b
  · rw [hr ab, ab]
    exact SeqAt.EqAt.same _
  · exact SeqAt.EqAt.of_refs ab (RcV.lst I hu ha hb he)
end
def srt (ns : List Int) : List Int := ns.mergeSort fun a b => decide (a ≤ b)
theorem srt_perm (ns : List Int) : (srt ns).Perm ns := List.mergeSort_perm _ _
theorem srt_rising (ns : List Int) : (srt ns).Pairwise (· ≤ ·) := by
  have h := List.pairwise_mergeSort (le := fun a b : Int => decide (a ≤ b)) (fun a b c h1 h2 => by simp at *; omega) (fun a b => by simp; omega) ns
  exact h.imp fun h => by simpa using h
theorem srt_of {ns ms : List Int} (hp : ms.Perm ns) (hs : ms.Pairwise (· ≤ ·)) : ms = srt ns := PySem.W.ksm_same (hp.trans (srt_perm ns).symm) hs (srt_rising ns)
theorem srt_length (ns : List Int) : (srt ns).length = ns.length := (srt_perm ns).length_eq
section
variable {X : Cx}
theorem call_sortedL : CallR X (.builtin "sorted") (fun xs H Q => ∃ p ns, xs = [.ref p] ∧ SqL X.K H p (ns.map V.int) ∧ ns.length < 64 ∧ ∀ l, H l = none → Q (.ref l) (upd H l (.lst ((srt ns).map V.int)))) := by
  intro pins s σ H xs us Q I r h
  obtain ⟨p, ns, rfl, hq, h64, q⟩ := h
  obtain ⟨u, rfl, ru⟩ := vals1 r
  cases ru
  obtain ⟨its, rv, pl, hz⟩ := I.list hq
  have hl := rv.length
  rw [List.length_map] at hl
  refine sorted_ints pl.isList (intsAre_of rv) (by omega) fun out ns' a1 a2 a3 => ?_
  obtain ⟨e, he⟩ := sortedAll_at s.heap its out
  have es := srt_of a2 a3
  subst es
  have hn : H (s.heap.objs.size + 1) = none := I.hok.fresh (Nat.le_succ _)
  refine ⟨.ref (s.heap.objs.size + 1), _, I.laid (t' := s.toks) (fun b o z => sortedAll_old z) (Nat.le_succ _) ?_, rfl, q _ hn⟩
  refine ⟨by rw [List.length_map, srt_length]; have := sizeLine_eq; omega, out.toList, e, vals_ints a1, ?_⟩
  exact he.trans (by simp [seqObj])
end
end L2
namespace L2
open PySem PySem.Spec PyProof.Rows
section
variable {X : Cx} {pins : List (Addr × Obj)} {σ : St} {H : Hp} {s : Shared} {h' : Heap}
end
section
variable {X : Cx}
end
end L2
namespace L2
open PySem PySem.Spec PyProof.Rows
def AllFree (cl : List (Str × Addr)) : List (Str × NameKind) → Prop
  | [] => True
  | p :: r => (p.2 = .free → ∃ c, cl.lookup p.1 = some c) ∧ AllFree cl r
theorem AllFree.get {cl : List (Str × Addr)} : ∀ {l : List (Str × NameKind)}, AllFree cl l → ∀ p ∈ l, p.2 = .free → ∃ c, cl.lookup p.1 = some c
  | [], _, _, h, _ => nomatch h
  | p :: r, ⟨h1, h2⟩, q, hq, e => by
    rcases List.mem_cons.mp hq with z | z
    · rw [z] at e ⊢; exact h1 e
    · exact AllFree.get h2 q z e
theorem relabel_free {scope : Scope} {env : Env} {cl : List (Str × Addr)} (hc : ∀ y ∈ scope.names, y.2 ≠ .cell) (h : AllFree cl scope.names) (y : Str)
    (q : (relabel scope env).names.lookup y = some .cell ∨ (relabel scope env).names.lookup y = some .free) : ∃ c, cl.lookup y = some c := by
  have go : ∀ k, (k = NameKind.cell ∨ k = .free) → (relabel scope env).names.lookup y = some k → ∃ c, cl.lookup y = some c := fun k hk e => by
    have m := PySem.mem_of_lookup e
    obtain ⟨⟨n, k'⟩, hm, he⟩ := List.mem_map.mp m
    dsimp only at he
    split at he
    · rename_i z
      cases he
      rw [Bool.and_eq_true, Bool.and_eq_true] at z
      exact h.get (y, k') hm (beq_iff_eq.mp z.1.1)
    · cases he
      rcases hk with z | z
      · exact absurd z (hc _ hm)
      · exact h.get _ hm z
  rcases q with q | q
  · exact go _ (.inl rfl) q
  · exact go _ (.inr rfl) q
theorem comp1 {X : Cx} {scope : Scope} {x y : Str} {c : Addr} {k : Nat} (kind : scope.kind = .function) (ncell : ∀ y ∈ scope.names, y.2 ≠ .cell) (names : ∀ y ∈ scope.names, y.2 = .local → scope.names.lookup y.1 = some .local) (tgt : scope.names.lookup x = some .local)
    (clos : closureFor scope X.env = pure [(y, c)]) (cell : X.env.cells.lookup y = some c) (free : AllFree [(y, c)] scope.names) (hN : X.N[k]? = some y) (hv : Vis X.env.scope y) (hk : X.env.kindOf y = some .cell)
    (hr : (relabel scope X.env).names.lookup y = some .cell) (hne : ¬ x = y) : CompOk X scope [(y, c)] x [y] [k] := by
  refine ⟨kind, ncell, names, tgt, clos, fun z d h => ?_, relabel_free ncell free, fun j z h => ?_, by simp [hne], rfl⟩
  · rw [List.lookup_cons] at h
    split at h
    · rename_i e
      rw [beq_iff_eq.mp e]
      cases h
      exact cell
    · cases h
  · cases j with
    | zero =>
      cases (show some y = some z from h)
      exact ⟨k, rfl, hN, hv, hk, hr⟩
    | succ j => simp at h
theorem yes {σ : St} {H : Hp} {Q : Bool → Hp → Prop} (h : Q true H) : tYes σ H Q := h
theorem comp_list {K : PySem.W.Frag} {a : Addr} {xs : List V} {fv : List (Option V)} {tt : TT} {te : TE} {Q : VK} {H : Hp} {D : Addr} (Pv : Nat → Hp → Prop) (h0 : Pv 0 (upd H D (.lst []))) (hl : ∀ i H, i ≤ xs.length → Pv i H → SqL K H a xs)
    (hs : ∀ i x H, xs[i]? = some x → Pv i H → tt (some x :: fv) H fun ok H2 => if ok = true then te (some x :: fv) H2 fun y H3 => ∃ ys, H3 D = some (.lst ys) ∧ ys.length < sizeLine ∧ Pv (i + 1) (upd H3 D (.lst (ys ++ [y]))) else Pv (i + 1) H2)
    (hd : ∀ H, Pv xs.length H → Q (.ref D) H) : CompG (Itl K a) fv tt te Q H D := by
  refine ⟨fun i m H => m = xs.length - i ∧ i ≤ xs.length ∧ Pv i H, ⟨xs.length, by simp, Nat.zero_le _, h0⟩, ?_⟩
  rintro i m H ⟨rfl, hi, p⟩
  have q := hl i H hi p
  by_cases hlt : i < xs.length
  · refine .inr ⟨⟨xs, xs[i], q, by simp [hlt]⟩, Pv (i + 1), fun H' p' => ⟨xs.length - (i + 1), by omega, rfl, hlt, p'⟩, fun x H' y => ?_⟩
    obtain ⟨e, y⟩ := y
    subst e
    exact hs i x _ (y xs q) p
  · have e : i = xs.length := by omega
    subst e
    exact .inl ⟨⟨xs, q, Nat.le_refl _⟩, hd H p⟩
end L2
namespace L2
open PySem PySem.Spec PyProof.Rows
section
variable {X : Cx} {pins : List (Addr × Obj)} {σ : St} {H : Hp} {s : Shared} {h' : Heap}
theorem Inv.turnedL {t' : Nat} {fp : List Addr} {T : Addr} {o : HO} (I : Inv X pins σ H s) (k : ∀ b u, b ∉ fp → s.heap.get? b = some u → h'.get? b = some u) (hf : ∀ b ∈ fp, FpOk X pins H b)
    (hT : s.heap.get? T = none) (new : ObjOk X.prog X.w (upd H T o) h' T o) : Inv X pins σ (upd H T o) { s with heap := h', toks := t' } := by
  have nit : ∀ b u, H b = some u → b ∉ fp := fun b u e z => by rw [(hf b z).1] at e; cases e
  have hn : H T = none := by
    cases q : H T with
    | none => rfl
    | some u =>
      obtain ⟨ob, e⟩ := (I.hok T u q).there
      rw [hT] at e
      cases e
  have ne : ∀ b u, s.heap.get? b = some u → b ≠ T := fun b u e z => by rw [z, hT] at e; cases e
  have ok1 : HOk X.prog X.w H h' := fun b u e => (I.hok b u e).stay (fun c v hc q => k c v (by
    rcases hc with z | z
    · rw [z]; exact nit b u e
    · exact nit c _ z) q) (fun _ q => q) fun _ _ q => q
  refine I.step (g' := s.gens) (d' := s.drawn) (ch := fp) (fun b hb => ?_) (fun b o _ _ hc e _ => k b o hc e) (fun b o _ _ hc e _ => ⟨o.slots, k b o hc e⟩) (fun b u _ e n => ?_)
    (fun b o hc e => ⟨o, k b o hc e⟩) (fun b xs e => ?_) (fun b u xs e => ?_) (fun b ps e => ⟨#[], ?_⟩) (fun m hm => ?_) (ok1.adopt hn new) I.bare
  · obtain ⟨f0, f1, f2, f3, f4, f5⟩ := hf b hb
    exact ⟨f3, f1, f4, f5⟩
  · rw [upd_ne (ne b u e)]
    exact n
  · rw [upd_ne (ne_of_none e hn)]
    exact e
  · rw [upd_ne (ne_of_none e hn)]
    exact e
  · rw [upd_ne (ne_of_none e hn), e]
    simp
  · obtain ⟨o, es, ep, ho, r⟩ := hm
    exact ⟨o, es, ep, k _ o (fun z => (hf _ z).2.1 rfl) ho, r⟩
theorem Inv.turnedN {t' : Nat} {fp : List Addr} (I : Inv X pins σ H s) (k : ∀ b u, b ∉ fp → s.heap.get? b = some u → h'.get? b = some u) (hf : ∀ b ∈ fp, FpOk X pins H b) : Inv X pins σ H { s with heap := h', toks := t' } := by
  have nit : ∀ b u, H b = some u → b ∉ fp := fun b u e z => by rw [(hf b z).1] at e; cases e
  refine I.step (g' := s.gens) (d' := s.drawn) (ch := fp) (fun b hb => ?_) (fun b o _ _ hc e _ => k b o hc e) (fun b o _ _ hc e _ => ⟨o.slots, k b o hc e⟩) (fun _ _ _ _ n => n)
    (fun b o hc e => ⟨o, k b o hc e⟩) (fun _ _ e => e) (fun _ _ _ e => e) (fun b ps e => ⟨#[], by rw [e]; simp⟩) (fun m hm => ?_) (fun b u e => ?_) I.bare
  · obtain ⟨f0, f1, f2, f3, f4, f5⟩ := hf b hb
    exact ⟨f3, f1, f4, f5⟩
  · obtain ⟨o, es, ep, ho, r⟩ := hm
    exact ⟨o, es, ep, k _ o (fun z => (hf _ z).2.1 rfl) ho, r⟩
  · refine (I.hok b u e).stay (fun c v hc q => k c v ?_ q) (fun _ q => q) fun _ _ q => q
    rcases hc with z | z
    · rw [z]; exact nit b u e
    · exact nit c _ z
end
section
variable {X : Cx} {elts : List Expr} {x1 : Nat} {tpos : Pos}
end
end L2
namespace L2
open PySem PySem.Spec PyProof.Rows
def Ite (K : PySem.W.Frag) (l : Addr) : It :=
  ⟨fun i H => ∃ xs x, SqL K H l xs ∧ xs[i]? = some x,
   fun i H v H' => ∃ T x, v = .ref T ∧ H T = none ∧ H' = upd H T (.tup [.int (i : Nat), x]) ∧ ∀ xs, SqL K H l xs → xs[i]? = some x,
   fun i H => ∃ xs, SqL K H l xs ∧ xs.length ≤ i⟩
theorem turn_enum {P : Program} {w : World} {K : PySem.W.Frag} {elts : List Expr} {x1 : Nat} {pos : Pos} (e it l : Addr) (hei : e ≠ it) :
    Turn P w K (.Tuple elts x1 pos) (Ite K l) [e, it] e (fun i h => (∃ old, IsEnum h e it ((i : Nat) : Int) old) ∧ h.IsListIter it l i) where
  mem := by simp
  obj := fun i h st b hb => by
    obtain ⟨⟨old, h1⟩, ⟨o2, e2, c2, d2⟩⟩ := st
    simp only [List.mem_cons, List.not_mem_nil, or_false] at hb
    rcases hb with rfl | rfl
    · exact ⟨_, h1, fun v q => by cases q⟩
    · exact ⟨_, e2, fun v q => by rw [d2] at q; cases q⟩
  keep := fun i h h' st k => by
    obtain ⟨⟨old, h1⟩, h2⟩ := st
    exact ⟨⟨old, k e (by simp) _ h1⟩, h2.at fun o q => k it (by simp) o q⟩
  item := by
    intro X hP hw hK hc i pins s σ H E I hf st hg
    subst hP hw hK
    obtain ⟨xs, x, hq, hx⟩ := hg
    obtain ⟨its, rv, p, hz⟩ := I.list hq
    obtain ⟨u, hu, ru⟩ := rv.get hx
    obtain ⟨⟨old, s1⟩, s2⟩ := st
    refine wpAny_pyNext_enum_item s1 s2 p.isList (x := u) (by simpa using hu) hei fun h' a1 a2 a3 a4 hk => ⟨_, rfl, ?_⟩
    have lt : ∀ {c o}, s.heap.get? c = some o → s.heap.objs.size ≠ c := fun q => Nat.ne_of_gt (Heap.lt_size q)
    refine wpAny_letOwnedTupleGo_enum (s := { s with heap := h', toks := s.toks + 1 }) a1 fun h2 he' hs' => ?_
    have T2 : h2.get? s.heap.objs.size = some { cls := .type "tuple", data := .seq #[.int i s.toks, u] } := hs'.extBut _ _ (lt s1) a3
    have k2 : ∀ b o, b ∉ [e, it] → s.heap.get? b = some o → h2.get? b = some o := fun b o hb q => by
      simp only [List.mem_cons, List.not_mem_nil, or_false, not_or] at hb
      exact hs'.extBut _ _ hb.1 (hk b o hb.1 hb.2 q)
    have hn : H s.heap.objs.size = none := I.hok.fresh (Nat.le_refl _)
    refine ⟨.ref s.heap.objs.size, upd H s.heap.objs.size (.tup [.int (i : Nat), x]), I.turnedL (t' := s.toks + 1) k2 hf (Heap.get?_none_of_le (Nat.le_refl _))
      ⟨by show 2 ≤ sizeLine; rw [sizeLine_eq]; decide, [.int i s.toks, u], .cons ⟨_, rfl⟩ (.cons ru .nil), ⟨_, T2, rfl, _, rfl⟩⟩, rfl, ⟨_, x, rfl, hn, rfl, fun zs hzs => by rw [I.list_inj hzs hq]; exact hx⟩, ?_, fun b hb => ?_⟩
    · refine ⟨⟨u, ?_⟩, a2.extBut hs'.extBut (Ne.symm hei)⟩
      have ec : (((i + 1 : Nat)) : Int) = (i : Int) + 1 := by omega
      rw [ec]
      exact he'
    · have ne : b ≠ s.heap.objs.size := fun q => by
        simp only [List.mem_cons, List.not_mem_nil, or_false] at hb
        obtain ⟨o2, e2, _⟩ := s2
        rcases hb with rfl | rfl
        · exact lt s1 q.symm
        · exact lt e2 q.symm
      rw [upd_ne ne]
      exact (hf b hb).1
  done := by
    intro X hP hw hK hc i pins s σ H E I hf st hg
    subst hP hw hK
    obtain ⟨xs, hq, hx⟩ := hg
    obtain ⟨its, rv, p, hz⟩ := I.list hq
    have l' := rv.length
    obtain ⟨⟨old, s1⟩, s2⟩ := st
    refine wpAny_pyNext_enum_end (I.ok.hd hc) s1 s2 p.isList (by simp; omega) fun h' hk => ⟨rfl, I.turnedN (t' := s.toks) (fun b o hb q => ?_) hf⟩
    simp only [List.mem_cons, List.not_mem_nil, or_false, not_or] at hb
    exact hk b o hb.2 q
  self := fun _ _ _ _ _ st h => wpAny_pyIter_enum st.1.choose_spec h
theorem bt_enum : bootBuiltins "enumerate" = some (.type "enumerate") := by decide +kernel
section
variable {X : Cx} {elts : List Expr} {x1 : Nat} {tpos : Pos}
def iEnum (K : PySem.W.Frag) (ta : TA) : TI := fun σ H R => ta σ H fun vs H1 => ∃ l xs, vs = [.ref l] ∧ SqL K H1 l xs ∧ R (Ite K l) H1
theorem pi_enum {a : Expr} {ta : TA} {p pos : Pos} (hg : Gl X "enumerate") (hm : X.mg "enumerate" = none) (ha : PA X [a] ta) (hs : starEach [a] X.env = [(false, eval a X.env)] := by rfl) :
    PI X (.Tuple elts x1 tpos) (.Call (.Name "enumerate" p) [a] [] pos) (iEnum X.K ta) := by
  intro pins s σ H R I h
  refine Call_ (ld_blt I hg hm bt_enum (PyProof.Rows.callWith_type1 (thn (ha pos pins s σ H _ I h) fun us s1 ⟨vs, H1, I1, r1, q1⟩ => ?_) hs rfl))
  obtain ⟨l, xs, e, hq, q⟩ := q1
  subst e
  cases r1 with
  | cons r rr =>
    cases rr
    cases r
    obtain ⟨its, rv, p, hz⟩ := I1.list hq
    refine call_enumerate_list p.isList fun h' he hi hsz hk => wpAny_pyIter_enum he ?_
    have I2 : Inv X pins σ H1 { s1 with heap := h' } := I1.kept (t' := s1.toks) hk
    refine ⟨_, _, _, _, H1, rfl, I2, turn_enum (s1.heap.objs.size + 1) s1.heap.objs.size l (Nat.succ_ne_self _), ⟨⟨_, he⟩, hi⟩, fun b hb => ?_, q⟩
    have le : s1.heap.objs.size ≤ b := by
      simp only [List.mem_cons, List.not_mem_nil, or_false] at hb
      rcases hb with rfl | rfl
      · exact Nat.le_succ _
      · exact Nat.le_refl _
    exact I1.fpOk le (I1.hok.fresh le)
end
section
variable {X : Cx}
def rngL (n : Nat) : List V := (List.range n).map fun (k : Nat) => V.int ((k : Nat) : Int)
theorem call_rangeV : CallR X (.type "range") (fun xs H Q => ∃ j : Int, xs = [.int j] ∧ ∀ r, H r = none → Q (.ref r) (upd H r (.rng 0 j))) := by
  intro pins s σ H xs us Q I r h
  obtain ⟨j, rfl, q⟩ := h
  obtain ⟨u, rfl, ru⟩ := vals1 r
  obtain ⟨t, rfl⟩ := ru
  refine call_range_1 ?_
  refine ⟨.ref s.heap.objs.size, _, I.laid (fun b o e => Heap.get?_push_of_some _ e) (Nat.le_refl _) ?_, rfl, q _ I.fresh⟩
  exact ⟨_, _, _, Heap.get?_push_size _ rfl⟩
theorem call_list_rng (hc : X.calm = true) : CallR X (.type "list") (fun xs H Q => ∃ (r : Addr) (n : Nat), xs = [.ref r] ∧ H r = some (.rng 0 (n : Nat)) ∧ n ≤ 2 ^ 20 ∧ ∀ l, H l = none → Q (.ref l) (upd H l (.lst (rngL n)))) := by
  intro pins s σ H xs us Q I r h
  obtain ⟨a, n, rfl, hr, hn, q⟩ := h
  obtain ⟨u, rfl, ru⟩ := vals1 r
  cases ru
  obtain ⟨t, u, v, e⟩ := I.hok a _ hr
  have hsz : Builtin.Range.rangeSize 0 (n : Nat) 1 = ((n : Nat) : Int) := by rw [rangeSize_one]; split <;> omega
  refine call_list_range (n := n) (I.ok.hd hc) e (small_one (by omega) (by omega) (by omega) (by omega)) hsz (by omega) fun h' tk acc c hk hS hI => ?_
  have hsl : sizeLine = 16777216 := sizeLine_eq
  refine ⟨.ref s.heap.objs.size, _, I.laid (t' := tk) hk (Nat.le_refl _) (o := .lst (rngL n)) ?_, rfl, q _ I.fresh⟩
  refine ⟨by simp [rngL]; omega, acc.toList, c, ?_, by simpa using hS⟩
  obtain ⟨i1, i2⟩ := hI
  have areInts : ∀ (l : List Value) (ms : List V), l.length = ms.length → (∀ (j : Nat) v, l[j]? = some v → ∃ y, ms[j]? = some y ∧ RelV y v) → Vals ms l := by
    intro l
    induction l with
    | nil =>
      intro ms hl _
      cases ms with
      | nil => exact .nil
      | cons m ms => cases hl
    | cons b l ih =>
      intro ms hl hv
      cases ms with
      | nil => cases hl
      | cons m ms =>
        obtain ⟨m', e1, e2⟩ := hv 0 b rfl
        cases Option.some.inj e1
        exact .cons e2 (ih ms (by simpa using hl) fun j v e => hv (j + 1) v (by simpa using e))
  refine areInts _ _ (by simp [rngL, i1]) fun j v hv => ?_
  have hv' : acc[j]? = some v := by simpa using hv
  obtain ⟨tk', rfl⟩ := i2 j v hv'
  have hj : j < n := by
    have := (Array.getElem?_eq_some_iff.mp hv').1
    rw [i1] at this
    exact this
  refine ⟨.int (j : Nat), by simp [rngL, hj], tk', ?_⟩
  congr 1
  omega
end
end L2
namespace L2
open PySem PySem.Spec PyProof.Rows
section
variable {n : Nat} {s : Shared} {cmp : Nat → Nat → (Bool → Shared → Prop) → Shared → Prop}
end
end L2
namespace L2
open PySem PySem.Spec PyProof.Rows
section
variable {prog : Program} {w : World} {A : Around} {E : Value → Shared → Prop} {s : Shared}
end
section
variable {X : Cx}
end
end L2
namespace L2
open PySem PySem.Spec PyProof.Rows
structure CompOkT (X : Cx) (scope : Scope) (cl : List (Str × Addr)) (tn fn : List Str) (fv : List Nat) : Prop where
  kind : scope.kind = .function
  ncell : ∀ y ∈ scope.names, y.2 ≠ .cell
  names : ∀ y ∈ scope.names, y.2 = .local → scope.names.lookup y.1 = some .local
  clos : closureFor scope X.env = pure cl
  cells : ∀ y c, cl.lookup y = some c → X.env.cells.lookup y = some c
  free : ∀ y, ((relabel scope X.env).names.lookup y = some .cell ∨ (relabel scope X.env).names.lookup y = some .free) → ∃ c, cl.lookup y = some c
  slots : ∀ (j : Nat) (y : Str), fn[j]? = some y → ∃ k, fv[j]? = some k ∧ X.N[k]? = some y ∧ Vis X.env.scope y ∧ X.env.kindOf y = some .cell ∧ (relabel scope X.env).names.lookup y = some .cell
  len : fv.length = fn.length
def CompGT (J : It) (fv : List (Option V)) (nt : Nat) (g : TG) (tt : TT) (te : TE) (Q : VK) (H1 : Hp) (D : Addr) : Prop := ∃ W : Nat → Nat → Hp → Prop, (∃ m, W 0 m (upd H1 D (.lst []))) ∧ ∀ i m H, W i m H →
  (J.stop i H ∧ Q (.ref D) H) ∨ (J.go i H ∧ ∃ N : Hp → Prop, (∀ H', N H' → ∃ m', m' < m ∧ W (i + 1) m' H') ∧ ∀ x H' (ts : List (Option V)), ts.length = nt → J.yld i H x H' →
    g x (ts ++ fv) H' fun σ2 H2 => (∃ ts' : List (Option V), ts'.length = nt ∧ σ2 = ts' ++ fv) ∧ tt σ2 H2 fun ok H3 => if ok = true then te σ2 H3 fun y H4 => ∃ ys, H4 D = some (.lst ys) ∧ ys.length < sizeLine ∧ N (upd H4 D (.lst (ys ++ [y]))) else N H3)
def tCompT (wi : TI) (fv : List Nat) (nt : Nat) (g : TG) (tt : TT) (te : TE) : TE := fun σ H Q => wi σ H fun J H1 => ∀ D, H1 D = none → CompGT J (fv.map fun j => (σ[j]?).join) nt g tt te Q H1 D
section
variable {X : Cx} {elt iter target : Expr} {pos : Pos} {ifs : List Expr} {scope : Scope} {cl : List (Str × Addr)} {tn fn : List Str} {fv : List Nat} {wi : TI} {g : TG} {tt : TT} {te : TE} {pins : List (Addr × Obj)} {σ : St} {H : Hp} {s : Shared}
theorem compInT {s3 s4 : Shared} {H3 : Hp} {C : Addr} {fp : List Addr} {m : Str → Option Value} (S : CompOkT X scope cl tn fn fv) (I3 : Inv X pins σ H3 s3) (hC : C = s3.heap.objs.size) (hfp : ∀ b ∈ fp, FpOk X pins H3 b ∧ b < s3.heap.objs.size)
    (h4 : s4.os = s3.os ∧ s4.gens = s3.gens) (hns : s4.heap.Ns C m) (old : ∀ b o, s3.heap.get? b = some o → s4.heap.get? b = some o) :
    Inv (compCx X scope cl (tn ++ fn) C fp pins s3 H3) [] (List.replicate tn.length none ++ fv.map fun j => (σ[j]?).join) H3 s4 := by
  have hCf : H3 C = none := by rw [hC]; exact I3.hok.fresh (Nat.le_refl _)
  have ltC : ∀ b o, s3.heap.get? b = some o → b ≠ C := fun b o e => by rw [hC]; exact Nat.ne_of_lt (Heap.lt_size e)
  refine ⟨⟨I3.ok.mod, ?_, I3.ok.glob, I3.ok.blt, Nat.le_of_eq hC.symm, fun y z c h1 h2 => I3.ok.inj y z c (S.cells y c h1) (S.cells z c h2), fun y hy => S.free y hy, fun y c h1 h2 => ?_, I3.ok.hd, I3.ok.frames, .inl rfl, fun b hb => ?_, I3.bs, Nat.le_trans I3.ok.bsz I3.sz, fun b o e hb => ?_, fun b hb => ?_, I3.stack, I3.stkFree⟩,
    h4.1, by rw [h4.2]; exact I3.bare, Un.kept old, ⟨m, hns, fun i y v e1 e2 e3 => ?_⟩, fun y c e => ?_, hCf, fun y c e => I3.freeC y c (S.cells y c e), fun p hp => ?_, I3.hok.kept old, ?_⟩
  · show (relabel scope X.env).kind = .function
    exact S.kind
  · have z : (!(cl.lookup y).isSome) = true := h1
    have e : cl.lookup y = some c := h2
    rw [e] at z
    cases z
  · obtain ⟨⟨_, _, _, _, f4, _⟩, lt⟩ := hfp b hb
    exact ⟨by show b ≠ C; rw [hC]; exact Nat.ne_of_lt lt, fun y c e => f4 y c (S.cells y c e)⟩
  · obtain ⟨⟨_, _, _, f3, _⟩, _⟩ := hfp b hb
    rcases f3 with z | z
    · exact I3.ok.noex b o e z
    · exact absurd (Nat.lt_of_lt_of_le (Heap.lt_size (I3.ok.bs b o e).1) z) (Nat.lt_irrefl _)
  · obtain ⟨⟨_, f1, f2, _⟩, _⟩ := hfp b hb
    intro mm
    rcases List.mem_cons.mp (I3.stkSub b mm) with z | z
    · exact f1 z
    · exact f2 z
  · have e1 : (tn ++ fn)[i]? = some y := e1
    by_cases hi : i < tn.length
    · rw [List.getElem?_append_left (by rw [List.length_replicate]; exact hi), List.getElem?_replicate, if_pos hi] at e2
      cases Option.some.inj e2
    · rw [List.getElem?_append_right (by omega)] at e1
      rw [List.getElem?_append_right (by rw [List.length_replicate]; omega), List.length_replicate] at e2
      obtain ⟨k, f1, f2, f3, f4, f5⟩ := S.slots _ y e1
      rw [List.getElem?_map, f1] at e2
      have e2 : (σ[k]?).join = some v := Option.some.inj e2
      have e2 : σ[k]? = some (some v) := by
        cases q : σ[k]? with
        | none => rw [q] at e2; cases e2
        | some o => rw [q] at e2; have e2 : o = some v := e2; rw [e2]
      obtain ⟨m3, hn3, hl3⟩ := I3.loc
      obtain ⟨u, ru, l⟩ := hl3 k y v f2 e2 f3
      refine ⟨u, ru, .inr ⟨.inl f5, ?_⟩⟩
      rcases l with ⟨kk, _⟩ | ⟨_, c, hc, z⟩
      · rw [f4] at kk
        cases kk
      · obtain ⟨c', e'⟩ := S.free y (.inl f5)
        have e'' := S.cells y c' e'
        rw [hc] at e''
        cases e''
        obtain ⟨o, ho, hd⟩ := z
        exact ⟨c, e', o, old c o ho, hd⟩
  · obtain ⟨v, o, ho, hd⟩ := I3.cell y c (S.cells y c e)
    exact ⟨v, o, old c o ho, hd⟩
  · rw [List.append_nil] at hp
    obtain ⟨e, n, ne, nf, d⟩ := I3.pin p hp
    refine ⟨old _ _ e, n, ltC _ _ e, fun mm => ?_, d⟩
    rcases List.mem_cons.mp (I3.stkSub p.1 mm) with z | z
    · exact ne z
    · exact nf z
  · show (List.replicate tn.length none ++ fv.map fun j => (σ[j]?).join).length = (tn ++ fn).length
    rw [List.length_append, List.length_append, List.length_replicate, List.length_map, S.len]
theorem comp_coreT {Q0 : VK} {RR : Value → Addr → Result → Shared → Prop} (hc : X.calm = true) (hi : PI X target iter wi) (S : CompOkT X scope cl tn fn fv)
    (hg : ∀ C fp ps s3 H3, PG (compCx X scope cl (tn ++ fn) C fp ps s3 H3) target g)
    (ht : ∀ C fp ps s3 H3, PIfs (compCx X scope cl (tn ++ fn) C fp ps s3 H3) ifs tt) (he : ∀ C fp ps s3 H3, PE (compCx X scope cl (tn ++ fn) C fp ps s3 H3) elt te)
    (I : Inv X pins σ H s) (h : tCompT wi fv tn.length g tt te σ H Q0)
    (fin : ∀ (D C : Addr) (H' : Hp) (s' : Shared) (m : Str → Option Value), s'.heap.Ns C m → FpOk X pins H' C → Inv X pins σ H' s' → Q0 (.ref D) H' → RR (.ref D) C (.ok .next) s') :
    wpAny (model X.prog X.w) X.A (eval iter X.env) (fun xv s₁ => wpAny (model X.prog X.w) X.A (pyIter xv) (fun it s₂ => wpAny (model X.prog X.w) X.A (newList []) (fun acc s₃ =>
      wpAny (model X.prog X.w) X.A (newFunctionEnv scope X.env.globals cl [] X.env.qual none .none (some X.env)) (fun cenv s₄ =>
        codeAny (model X.prog X.w) X.A (.compStart (.ListComp elt [⟨target, iter, ifs, 0⟩] scope pos) 0 it acc { cenv with scope := relabel scope X.env }) (RR acc cenv.locals) s₄) X.xe s₃) X.xe s₂) X.xe s₁) X.xe s := by
  refine thn (hi pins s σ H _ I h) fun xv s1 h1 => thn h1 fun itv s2 h2 => ?_
  obtain ⟨it, fp, tnn, J, H2, e, I2, T, st2, f2, q⟩ := h2
  subst e
  have hD : H2 s2.heap.objs.size = none := I2.hok.fresh (Nat.le_refl _)
  obtain ⟨W, ⟨m0, w0⟩, turnW⟩ := q _ hD
  refine wpAny_newObj_type (wpAny_newFunctionEnv S.ncell (by intro y hy; simp at hy) (fun h₁ hns₁ hsb₁ => ?_) S.kind)
  have I3 : Inv X pins σ (upd H2 s2.heap.objs.size (.lst [])) { s2 with heap := s2.heap.push { cls := .type "list", data := .seq ([] : List Value).toArray }, toks := s2.toks } := I2.lnew (its := []) .nil (Nat.zero_le _)
  have obj2 : ∀ b ∈ fp, ∃ o, s2.heap.get? b = some o := fun b hb => let ⟨o, e, _⟩ := T.obj 0 _ st2 b hb; ⟨o, e⟩
  have ltf : ∀ b ∈ fp, b < s2.heap.objs.size := fun b hb => let ⟨o, e⟩ := obj2 b hb; Heap.lt_size e
  have size3 : (s2.heap.push { cls := .type "list", data := .seq ([] : List Value).toArray }).objs.size = s2.heap.objs.size + 1 := Heap.size_push _ _
  have hfp3 : ∀ b ∈ fp, FpOk X pins (upd H2 s2.heap.objs.size (.lst [])) b ∧ b < (s2.heap.push { cls := .type "list", data := .seq ([] : List Value).toArray }).objs.size := fun b hb =>
    ⟨⟨by rw [upd_ne (Nat.ne_of_lt (ltf b hb))]; exact (f2 b hb).1, (f2 b hb).2⟩, by rw [size3]; exact Nat.lt_succ_of_lt (ltf b hb)⟩
  have old : ∀ b o, (s2.heap.push { cls := .type "list", data := .seq ([] : List Value).toArray }).get? b = some o → h₁.get? b = some o := fun b o e =>
    (hsb₁.2 b (Nat.ne_of_lt (Heap.lt_size e))).trans (Heap.get?_push_of_some _ e)
  have I4 := compInT (s4 := { s2 with heap := h₁, toks := s2.toks + ([] : List (Str × Value)).length }) (fp := fp) S I3 rfl hfp3 ⟨rfl, rfl⟩ hns₁ old
  have st4 : tnn 0 h₁ := T.keep 0 _ _ st2 fun b hb o e => old b o (Heap.get?_push_of_some _ e)
  have stat : ∀ {ps : List (Addr × Obj)} {H' : Hp}, ps = [] → (∀ b ∈ fp, H' b = none) → ∀ b ∈ fp, FpOk (compCx X scope cl (tn ++ fn) (s2.heap.push { cls := .type "list", data := .seq ([] : List Value).toArray }).objs.size fp pins
      { s2 with heap := s2.heap.push { cls := .type "list", data := .seq ([] : List Value).toArray }, toks := s2.toks } (upd H2 s2.heap.objs.size (.lst []))) ps H' b := fun {ps H'} e hn b hb => by
    subst e
    obtain ⟨⟨_, f1, f2', f3, f4, f5⟩, lt⟩ := hfp3 b hb
    refine ⟨hn b hb, Nat.ne_of_lt lt, fun mm => ?_, .inl hb, fun y c e => f4 y c (S.cells y c e), fun p hp => ?_⟩
    · rcases List.mem_cons.mp (I3.stkSub b mm) with z | z
      · exact f1 z
      · exact f2' z
    · rw [List.append_nil] at hp
      exact f5 p hp
  have loop : codeAny (model X.prog X.w) X.A (.compLoop (.ListComp elt [⟨target, iter, ifs, 0⟩] scope pos) 0 (.ref it) (.ref s2.heap.objs.size)
      (compEnvC scope cl (s2.heap.push { cls := .type "list", data := .seq ([] : List Value).toArray }).objs.size X.env)) (RR (.ref s2.heap.objs.size) (s2.heap.push { cls := .type "list", data := .seq ([] : List Value).toArray }).objs.size)
      { s2 with heap := h₁, toks := s2.toks + ([] : List (Str × Value)).length } := by
    refine comp_loop (fun n s' => ∃ i ts H', ts.length = tn.length ∧ Inv (compCx X scope cl (tn ++ fn) (s2.heap.push { cls := .type "list", data := .seq ([] : List Value).toArray }).objs.size fp pins
      { s2 with heap := s2.heap.push { cls := .type "list", data := .seq ([] : List Value).toArray }, toks := s2.toks } (upd H2 s2.heap.objs.size (.lst []))) [] (ts ++ fv.map fun j => (σ[j]?).join) H' s' ∧ tnn i s'.heap ∧ (∀ b ∈ fp, H' b = none) ∧ W i n H') ?_ m0
      ⟨0, _, _, List.length_replicate, I4, st4, fun b hb => (hfp3 b hb).1.1, w0⟩
    rintro n s' ⟨i, ts, H', hts, I', st', fr', w'⟩
    rcases turnW i n H' w' with ⟨stop, qn⟩ | ⟨go, N, hN, step⟩
    · refine thn (T.done (compCx X scope cl (tn ++ fn) (s2.heap.push { cls := .type "list", data := .seq ([] : List Value).toArray }).objs.size fp pins
          { s2 with heap := s2.heap.push { cls := .type "list", data := .seq ([] : List Value).toArray }, toks := s2.toks } (upd H2 s2.heap.objs.size (.lst []))) rfl rfl rfl hc i [] s' _ H' _ I' (stat rfl fr') st' stop) fun r s5 ⟨hr, I5⟩ => ?_
      subst hr
      obtain ⟨m5, hn5, _⟩ := id I5.loc
      have J5 : Inv X pins σ H' s5 := I3.call' (ch := fp) I5.os I5.base I5.hok I5.bare fun b hb => let ⟨⟨_, f1, _, f3, f4, f5⟩, _⟩ := hfp3 b hb; ⟨f3, f1, f4, f5⟩
      exact fin _ _ H' s5 m5 hn5 (I3.fpOk (Nat.le_refl _) I5.free) J5 qn
    · refine thn (T.item (compCx X scope cl (tn ++ fn) (s2.heap.push { cls := .type "list", data := .seq ([] : List Value).toArray }).objs.size fp pins
          { s2 with heap := s2.heap.push { cls := .type "list", data := .seq ([] : List Value).toArray }, toks := s2.toks } (upd H2 s2.heap.objs.size (.lst []))) rfl rfl rfl hc i [] s' _ H' _ I' (stat rfl fr') st' go) fun r s5 ⟨u, hr, h5⟩ => ?_
      subst hr
      refine thn h5 fun _ s6 ⟨y, H6, I6, r6, y6, st6, fr6⟩ => ?_
      have I6' := I6.pinned (stat rfl fr6) (T.obj _ _ st6)
      have again : ∀ {s7 : Shared} {H7 : Hp} {ts7 : List (Option V)}, ts7.length = tn.length → Inv (compCx X scope cl (tn ++ fn) (s2.heap.push { cls := .type "list", data := .seq ([] : List Value).toArray }).objs.size fp pins
          { s2 with heap := s2.heap.push { cls := .type "list", data := .seq ([] : List Value).toArray }, toks := s2.toks } (upd H2 s2.heap.objs.size (.lst []))) ([] ++ pinsAt fp s6.heap) (ts7 ++ fv.map fun j => (σ[j]?).join) H7 s7 → N H7 →
          ∃ m, m < n ∧ ∃ i ts H', ts.length = tn.length ∧ Inv (compCx X scope cl (tn ++ fn) (s2.heap.push { cls := .type "list", data := .seq ([] : List Value).toArray }).objs.size fp pins
            { s2 with heap := s2.heap.push { cls := .type "list", data := .seq ([] : List Value).toArray }, toks := s2.toks } (upd H2 s2.heap.objs.size (.lst []))) [] (ts ++ fv.map fun j => (σ[j]?).join) H' s7 ∧ tnn i s7.heap ∧ (∀ b ∈ fp, H' b = none) ∧ W i m H' := fun {s7 H7 ts7} hl7 I7 n7 => by
        obtain ⟨m', hm, w7⟩ := hN H7 n7
        refine ⟨m', hm, i + 1, ts7, H7, hl7, I7.unpinned, T.keep _ _ _ st6 fun b hb o e => (I7.pin (b, o) (List.mem_append_right _ (List.mem_append_right _ (mem_pinsAt hb e)))).1, fun b hb => ?_, w7⟩
        obtain ⟨o, e, _⟩ := T.obj _ _ st6 b hb
        exact (I7.pin (b, o) (List.mem_append_right _ (List.mem_append_right _ (mem_pinsAt hb e)))).2.1
      refine thn (hg _ _ _ _ _ _ s6 _ H6 y u _ I6' r6 (step y H6 ts hts y6)) fun _ s7 ⟨σ7, H7, I7, ⟨ts7, hl7, e7⟩, q7⟩ => ?_
      subst e7
      refine thn (ht _ _ _ _ _ _ s7 _ H7 _ I7 q7) fun ok s8 ⟨H8, I8, q8⟩ => ?_
      cases ok with
      | false =>
        rw [if_neg Bool.false_ne_true] at q8 ⊢
        exact again hl7 I8 q8
      | true =>
        rw [if_pos rfl] at q8 ⊢
        refine thn (he _ _ _ _ _ _ s8 _ H8 _ I8 q8) fun z s9 ⟨yv, H9, I9, r9, ys, hDl, hz, q9⟩ => ?_
        refine thn (mt_append _ s9 _ H9 (.ref s2.heap.objs.size) [yv] (.ref s2.heap.objs.size) [z] (fun _ H10 => N H10) I9 rfl (.cons r9 .nil) ⟨_, ys, yv, rfl, rfl, hDl, hz, q9⟩) fun _ s10 ⟨v10, H10, I10, _, q10⟩ => ?_
        exact again hl7 I10 q10
  exact codeAny_compStart_list loop (T.self _ 0 _ _ _ st4 loop)
theorem pe_compT (hc : X.calm = true) (hi : PI X target iter wi) (S : CompOkT X scope cl tn fn fv) (hg : ∀ C fp ps s3 H3, PG (compCx X scope cl (tn ++ fn) C fp ps s3 H3) target g)
    (ht : ∀ C fp ps s3 H3, PIfs (compCx X scope cl (tn ++ fn) C fp ps s3 H3) ifs tt) (he : ∀ C fp ps s3 H3, PE (compCx X scope cl (tn ++ fn) C fp ps s3 H3) elt te)
    (hs : ∀ y, foldedSetIterable iter X.env y = pure y := by intro _; rfl) : PE X (.ListComp elt [⟨target, iter, ifs, 0⟩] scope pos) (tCompT wi fv tn.length g tt te) := by
  intro pins s σ H Q I h
  rw [eval_ListComp]
  refine wpAny_comprehension_free (use := none) rfl hs S.clos S.kind S.names ?_
  refine comp_coreT (RR := fun acc C => compPost (model X.prog X.w) X.A X.xe none (EP X pins σ Q) acc C) hc hi S hg ht he I h fun D C H' s' m hns fo J q => ?_
  obtain ⟨f0, f1, _, f3, f4, f5⟩ := fo
  exact ⟨m, hns, fun h' hs' => ⟨.ref D, H', J.turned (t' := s'.toks) (fun b o hb e => (hs'.2 b hb).trans e) f0 f1 f3 f4 f5, rfl, q⟩⟩
theorem ps_setCT {i : Nat} {y : Str} {py spos : Pos} (hN : X.N.Nodup) (hj : X.N[i]? = some y) (hy : Loc X.env.scope y) (hc : X.calm = true) (hi : PI X target iter wi) (S : CompOkT X scope cl tn fn fv) (hg : ∀ C fp ps s3 H3, PG (compCx X scope cl (tn ++ fn) C fp ps s3 H3) target g)
    (ht : ∀ C fp ps s3 H3, PIfs (compCx X scope cl (tn ++ fn) C fp ps s3 H3) ifs tt) (he : ∀ C fp ps s3 H3, PE (compCx X scope cl (tn ++ fn) C fp ps s3 H3) elt te)
    (hsw : swapsWith (.ListComp elt [⟨target, iter, ifs, 0⟩] scope pos) (some (.Name y py)) spos.line X.env = pure true := by rfl) (hs : ∀ y, foldedSetIterable iter X.env y = pure y := by intro _; rfl)
    (hf : X.fn y = true ∨ X.env.scope.names.lookup y = some .local := by first | exact .inl rfl | exact .inr rfl | assumption) :
    PS X (.Assign [.Name y py] (.ListComp elt [⟨target, iter, ifs, 0⟩] scope pos) spos) (tAsg (tCompT wi fv tn.length g tt te) (gName i)) := by
  intro pins s σ H D I h
  rw [exec_Assign_Name_used _ _ _ _ hsw]
  refine wpAny_bind (wpAny_standAt (wpAny_bind ?_))
  show wpAny _ X.A (do let _ ← comprehension (.ListComp elt [⟨target, iter, ifs, 0⟩] scope pos) scope X.env _ (newList []) false (eval iter X.env) (some (assign (.Name y py) X.env))) _ _ s
  refine wpAny_bind (thn (wpAny_comprehension_free (use := some (assign (.Name y py) X.env)) (Q := fun _ s' => SP X pins D .next s') rfl hs S.clos S.kind S.names ?_) fun _ s' hq => wpAny_pure (wpAny_pure hq))
  refine comp_coreT (RR := fun acc C => compPost (model X.prog X.w) X.A X.xe (some (assign (.Name y py) X.env)) (fun _ s' => SP X pins D .next s') acc C) hc hi S hg ht he I h fun D' C H' s' m hns fo J q => ?_
  obtain ⟨f0, f1, _, f3, f4, f5⟩ := fo
  show wpAny _ X.A (assign (.Name y py) X.env (.ref D')) _ _ _
  refine wpAny_assign_Name (store_ok2 J hN hj hy (v := .ref D') rfl (fun s2 J2 ⟨a, hs2, ha⟩ => ?_) hf)
  have ne : a ≠ C := by
    rcases ha with z | z
    · rw [z]; exact Ne.symm f1
    · exact f4 y a z
  refine ⟨m, hns.sameBut hs2 (Ne.symm ne), fun h' hs' => ⟨_, H', J2.turned (t' := s2.toks) (fun b o hb e => (hs'.2 b hb).trans e) f0 f1 f3 f4 f5, q⟩⟩
end
inductive Freed (X : Cx) (scope : Scope) : List (Str × Addr) → List Str → List Nat → Prop where
  | nil : Freed X scope [] [] []
  | cons {cl : List (Str × Addr)} {fn : List Str} {fv : List Nat} {y : Str} {c : Addr} {k : Nat} (r : Freed X scope cl fn fv) (cell : X.env.cells.lookup y = some c) (hN : X.N[k]? = some y) (hv : Vis X.env.scope y) (hk : X.env.kindOf y = some .cell)
      (hr : (relabel scope X.env).names.lookup y = some .cell) : Freed X scope ((y, c) :: cl) (y :: fn) (k :: fv)
theorem Freed.cells {X : Cx} {scope : Scope} {cl : List (Str × Addr)} {fn : List Str} {fv : List Nat} (h : Freed X scope cl fn fv) : ∀ y c, cl.lookup y = some c → X.env.cells.lookup y = some c := by
  induction h with
  | nil => intro y c h; cases h
  | cons r cell hN hv hk hr ih =>
    intro z d h
    rw [List.lookup_cons] at h
    split at h
    · rename_i e
      rw [beq_iff_eq.mp e]
      cases h
      exact cell
    · exact ih z d h
theorem Freed.slots {X : Cx} {scope : Scope} {cl : List (Str × Addr)} {fn : List Str} {fv : List Nat} (h : Freed X scope cl fn fv) : ∀ (j : Nat) (y : Str), fn[j]? = some y → ∃ k, fv[j]? = some k ∧ X.N[k]? = some y ∧ Vis X.env.scope y ∧ X.env.kindOf y = some .cell ∧ (relabel scope X.env).names.lookup y = some .cell := by
  induction h with
  | nil => intro j y h; cases h
  | cons r cell hN hv hk hr ih =>
    intro j y h
    cases j with
    | zero => cases Option.some.inj h; exact ⟨_, rfl, hN, hv, hk, hr⟩
    | succ j => exact ih j y h
theorem Freed.len {X : Cx} {scope : Scope} {cl : List (Str × Addr)} {fn : List Str} {fv : List Nat} (h : Freed X scope cl fn fv) : fv.length = fn.length := by
  induction h with
  | nil => rfl
  | cons _ _ _ _ _ _ ih => simp [ih]
theorem compT {X : Cx} {scope : Scope} {cl : List (Str × Addr)} {tn fn : List Str} {fv : List Nat} (kind : scope.kind = .function) (ncell : ∀ y ∈ scope.names, y.2 ≠ .cell) (names : ∀ y ∈ scope.names, y.2 = .local → scope.names.lookup y.1 = some .local)
    (clos : closureFor scope X.env = pure cl) (free : AllFree cl scope.names) (h : Freed X scope cl fn fv) : CompOkT X scope cl tn fn fv :=
  ⟨kind, ncell, names, clos, h.cells, relabel_free ncell free, h.slots, h.len⟩
end L2
namespace L2
open PySem PySem.Spec PyProof.Rows
section
variable {M : Model} {A : Around} {E : Value → Shared → Prop} {s : Shared}
theorem setFlight_held {base : Heap} {l : List Env} {e L : Addr} {cls a0 : Value} {Q : Unit → Shared → Prop} (R : Heap.HeldW base l e cls a0 L s.heap)
    (h : ∀ h', Heap.HeldW base l e cls a0 L h' → s.heap.UpToSlots h' → Q () { s with heap := h' }) : wpAny M A (setFlight (.ref e) (some L)) Q E s := by
  obtain ⟨hkb, hen, hl, oe, vs, T, oT, ts, he, hcls, hd, h1, hnT, hTe, hT, hdT, h3⟩ := R
  have hsz3 : 3 < ts.size := (Array.getElem?_eq_some_iff.mp h3).1
  have other : ∀ b, b ≠ T → (s.heap.update T (Obj.mapFields (·.setIfInBounds 3 ((some L).elim Value.none fun f => rawInt f)))).get? b = s.heap.get? b :=
    fun b hb => Heap.get?_update_other _ _ (Ne.symm hb)
  have noRecord : ∀ b o, s.heap.get? b = some o → (∀ vs, o.data ≠ .fields vs) → b ≠ T := fun b o hb hnf q => by
    rw [q, hT] at hb; injection hb with hb; subst hb; exact hnf ts hdT
  unfold setFlight
  refine wpAny_bind (wpAny_field he hd h1 ?_)
  rw [if_pos (show (Value.ref T != Value.none) = true from by simp)]
  refine wpAny_setField hT hdT hsz3 (h _ ⟨fun b o hbo => (other b fun q => by rw [q, hnT] at hbo; cases hbo).trans (hkb b o hbo), hen,
    hl.of_keeps fun b o hb hnf => ⟨o, (other b (noRecord b o hb hnf)).trans hb, rfl⟩, ?_⟩ fun b o hb hnf => ⟨o.slots, (other b (noRecord b o hb hnf)).trans hb⟩)
  exact ⟨oe, vs, T, _, _, (other e (Ne.symm hTe)).trans he, hcls, hd, h1, hnT, hTe, Heap.get?_update_self _ hT (Obj.isFreed_of_fields (Obj.data_mapFields hdT _)), Obj.data_mapFields hdT _, by simp [hsz3]⟩
end
def HeldP (X : Cx) (E : XK) (e : Value) (s' : Shared) : Prop := ∃ (pins : List (Addr × Obj)) (ea : Addr) (C : Value) (B : Heap) (a0 : Value) (H' : Hp) (σ' : St),
  e = .ref ea ∧ Inv X pins σ' H' s' ∧ Heap.HeldW B X.stack ea C a0 X.env.locals s'.heap ∧ Aloft X pins H' B ∧ E C none H'
def xeL (X : Cx) (E : XK) : Value → Shared → Prop := fun e s' => wpAny (model X.prog X.w) X.A (noteFrame e X.env) (fun _ s'' => HeldP X E e s'') (fun _ _ => False) s'
def loopCx (X : Cx) (E : XK) : Cx := X.wish (xeL X E)
section
variable {X : Cx} {E : XK}
theorem loop_passes (b : Body X E) : PassesOwn (model X.prog X.w) X.A X.env (xeL X E) := by
  intro e s' h
  refine wpAny_mono h (fun _ s1 hp => ?_) fun _ _ z => z.elim
  obtain ⟨pins, ea, C, B, a0, H', σ', rfl, I, hh, al, q⟩ := hp
  obtain ⟨_, _, _, oe, vs, T, oT, ts, he, hcls, hd, h1, _⟩ := id hh
  unfold cameBackBy
  refine wpAny_bind (wpAny_field he hd h1 ?_)
  rw [if_neg (show ¬ ((Value.ref T == Value.none) = true) from by simp)]
  have key : wpAny (model X.prog X.w) X.A (setFlight (.ref ea) X.env.frame) (fun _ s2 => xeL X E (.ref ea) s2) (xeL X E) s1 := by
    rw [b.fr]
    refine setFlight_held hh fun h2 hh2 us => ?_
    have I2 : Inv X pins σ' H' { s1 with heap := h2 } := I.upto (t' := s1.toks) b al hh.1 hh2.1 us
    exact wpAny_noteFrame_againW b.fr hh2.2.2.2 ⟨pins, ea, C, B, a0, H', σ', rfl, I2, hh2, al, q⟩
  first
    | exact wpAny_bind (wpAny_pure key)
    | exact key
theorem loop_leave (b : Body X E) {e : Value} {s' : Shared} (h : xeL X E e s') : X.xe e s' := by
  refine b.xe _ _ ?_
  unfold leaving
  refine wpAny_bind (wpAny_mono h (fun _ s1 hp => ?_) fun _ _ z => z.elim)
  obtain ⟨pins, ea, C, B, a0, H', σ', rfl, I, hh, al, q⟩ := hp
  refine wpAny_landsW hh fun h2 fl us => ?_
  have fl2 : Heap.FlyingW B X.outer ea C a0 h2 := by
    rw [b.stk] at fl
    obtain ⟨k1, k2, ⟨_, _, k3⟩, k4⟩ := fl
    exact ⟨k1, k2, k3, k4⟩
  refine b.out I fl2 (fun c _ o z nf => us c o z nf) (fun c o z w => ?_) al.trk al.old q
  obtain ⟨o', w⟩ := w
  have e1 := hh.1 c o' w
  rw [z] at e1
  cases e1
  exact fl2.1 c o w
theorem loop_pass (b : Body X E) : Passes (CXx X.prog X.w) (loopCx X E) E := by
  intro ps σ H s e s' I h
  obtain ⟨ea, C, B, a0, H', rfl, os, bare, un, hok, fl, trk, old, q⟩ := h
  have I1 : Inv X ps σ H s := I.unwish
  have I' : Inv X ps σ H' s' := I1.call' (ch := []) os un hok bare (fun b z => absurd z (by simp))
  have al : Aloft X ps H' B := by
    refine ⟨trk, fun p hp => ?_, fun c o z n => ?_⟩
    · obtain ⟨e1, _, ne, nf, _⟩ := I1.pin p hp
      refine old p.1 p.2 e1 fun m => ?_
      have m' : p.1 ∈ L2.frs X.stack := m
      rw [b.frs] at m'
      rcases List.mem_cons.mp m' with y | y
      · exact ne y
      · exact nf y
    · obtain ⟨o', e1⟩ := I1.base.there c o z (by rw [b.ex]; simp)
      exact old c o' e1 n
  have fl : Heap.FlyingW B X.stack ea C a0 s'.heap := fl
  have fl' := fl
  rw [b.stk] at fl'
  refine wpAny_looks_onW (I1.ok.frames.trans (congrArg some b.stk)) b.fr fl' fun h2 hh us => ?_
  rw [← b.stk] at hh
  exact ⟨ps, ea, C, B, a0, H', σ, rfl, I'.upto (t' := s'.toks) b al fl.1 hh.1 us, hh, al, q⟩
theorem loop_made {pins : List (Addr × Obj)} {σ : St} {H : Hp} {s : Shared} {e : Addr} {C : Value} {args : List Value} {h' : Heap} (b : Body X E) (I : Inv X pins σ H s) (hx : Heap.MadeExcOf s.heap h' e C args) (h : E C none H) :
    xeL X E (.ref e) { s with heap := h' } := by
  have hF := PySem.W.funFrames_hide (as := L2.frs X.stack) I.stack fun env he a ha => List.mem_filterMap.mpr ⟨env, he, ha⟩
  have kB : ∀ c o, s.heap.get? c = some o → c ∉ L2.frs X.stack → (PySem.W.hideAll s.heap (L2.frs X.stack)).get? c = some o := fun c o q n => PySem.W.hideAll_get _ q n
  have hkb : (PySem.W.hideAll s.heap (L2.frs X.stack)).StaysIn s.heap := fun c o q => PySem.W.of_hideAll (L2.frs X.stack) q
  obtain ⟨t, he, htn, ht⟩ := hx.there
  have fresh : ∀ c, s.heap.get? c = none → (PySem.W.hideAll s.heap (L2.frs X.stack)).get? c = none := fun c hc => by
    cases hq : (PySem.W.hideAll s.heap (L2.frs X.stack)).get? c with
    | none => rfl
    | some o' => have := hkb c o' hq; rw [hc] at this; cases this
  have al : Aloft X pins H (PySem.W.hideAll s.heap (L2.frs X.stack)) := by
    refine ⟨fun c n => ?_, fun p hp => ?_, fun c o q n => ?_⟩
    · cases q : H c with
      | none => exact absurd q n
      | some u =>
        obtain ⟨o, e1⟩ := (I.hok c u q).there
        exact ⟨o, kB c o e1 fun m => n (I.stkFree c m)⟩
    · obtain ⟨e1, _, ne, nf, _⟩ := I.pin p hp
      refine ⟨p.2, kB p.1 p.2 e1 fun m => ?_⟩
      rw [b.frs] at m
      rcases List.mem_cons.mp m with y | y
      · exact ne y
      · exact nf y
    · obtain ⟨o', e1⟩ := I.base.there c o q (by rw [b.ex]; simp)
      exact ⟨o', kB c o' e1 n⟩
  have hfr : X.A.frames = some (X.env :: X.outer) := I.ok.frames.trans (congrArg some b.stk)
  have hF' : s.heap.FunFrames (PySem.W.hideAll s.heap (L2.frs X.stack)) (X.env :: X.outer) := by
    have z := hF
    generalize PySem.W.hideAll s.heap (L2.frs X.stack) = B at z ⊢
    rw [b.stk] at z
    exact z
  unfold xeL noteFrame
  simp only [b.fr]
  refine wpAny_bind (wpAny_field (s := { s with heap := h' }) he rfl (x := .none) rfl ?_)
  rw [if_neg (by decide)]
  refine wpAny_entryW (base := PySem.W.hideAll s.heap (L2.frs X.stack)) (a0 := .ref t) hfr (hF'.of_keeps fun c o hb _ => ⟨o, hx.keeps c o hb, rfl⟩) b.fr he (fun c o hb => hx.keeps c o (hkb c o hb)) (fresh e hx.new) rfl (by show 1 < 6; decide) rfl fun h2 hN => ?_
  obtain ⟨x1, x2, x3, x4⟩ := hN
  rw [← b.stk] at x2
  refine ⟨pins, e, C, _, .ref t, H, σ, rfl, Inv.upto (s := s) (h2 := h2) (t' := s.toks) b I al hkb x1 (fun c o q nf => x4 c o (hx.keeps c o q) nf), ⟨x1, fresh e hx.new, x2, x3⟩, al, h⟩
theorem ps_loop {st : Stmt} {t : TS} (b : Body X E) (h : PS (loopCx X E) st t) : PS X st t := fun pins s σ H D I hw =>
  wpAny_mono (h pins s σ H D (I.wish _) hw) (fun _ _ q => SP.unwish q) fun _ _ q => loop_leave b q
theorem ps_raiseL {x : Str} {np cpos pos : Pos} {e₀ : Expr} {es : List Expr} {t : TA} {C : Addr} (b : Body X E) (hc : X.calm = true) (hg : Gl (loopCx X E) x) (hm : X.mg x = some (.ref C)) (hx : Exc X.K C) (ha : PA (loopCx X E) (e₀ :: es) t)
    (hdb : (x == ("__debug__" : Str)) = false := by decide) (he : starEach (e₀ :: es) X.env = (false, eval e₀ X.env) :: starEach es X.env := by rfl) (hpl : (backTo cpos (starEach es X.env)).any (·.1) = false := by rfl) :
    PS (loopCx X E) (.Raise (some (.Call (.Name x np) (e₀ :: es) [] cpos)) none pos) (tRaise C E t) := by
  intro pins s σ H D I h
  obtain ⟨bm, N, nm, qn, bs, hdct, sn, sub, ab, col, dd, k0, k1, k2, k3, k5, mN, hC, hN, hni, T⟩ := exc_obj I.ok.mod.kin hx.is
  have hA := ha cpos pins s σ H _ I h
  have hp : (backTo cpos (starEach (e₀ :: es) X.env)).any (·.1) = false := by
    rw [he]
    exact hpl
  refine wpAny_Raise_call_subT (C := C) (nm := nm) (q := qn) (N := N) (bs := bs) (bm := bm) (hdct := hdct) (sn := sn) (sub := sub) (ab := ab) (col := col) (dd := dd) (k0 := k0) (k1 := k1) (k2 := k2) (k3 := k3) (k5 := k5)
    PySem.F.excBase_ValueError (mN := mN) (T.hasType PySem.F.excBase_ValueError.hasBase) (I.ok.hd hc) hp hni (ld_glob I hg hm ⟨rfl, ?_⟩ hdb)
  have he' : starEach (e₀ :: es) (loopCx X E).env = (false, eval e₀ (loopCx X E).env) :: starEach es (loopCx X E).env := he
  rw [he'] at hA ⊢
  refine Calls.evalArgs_plain (thn hA fun us s2 ⟨vs, H1, I1, r, z, q⟩ => ?_)
  exact ⟨rfl, by rw [← r.length]; exact z, I1.bk _ _ hC, hN.keeps I1.bk, T.keeps I1.bk, fun h' e hx => loop_made b I1.unwish hx q⟩
end
end L2
namespace L2
open PySem PySem.Spec PyProof.Rows
inductive D where
  | non | bl (b : Bool) | int (i : Int) | str (x : Str) | lst (ds : List D) | tup (ds : List D) | scr (ns : List Int) | kt (xs : List V) | dtt (ks : List (List Int)) (ds : List D)
mutual
def Rep (K : PySem.W.Frag) (F : Hp) : D → V → Prop
  | .non, v => v = .non
  | .bl b, v => v = .bl b
  | .int i, v => v = .int i
  | .str x, v => v = .str x
  | .lst ds, v => ∃ a xs, v = .ref a ∧ F a = some (.lst xs) ∧ Reps K F ds xs
  | .tup ds, v => ∃ a xs, v = .ref a ∧ F a = some (.tup xs) ∧ Reps K F ds xs
  | .scr ns, v => ∃ a, v = .ref a ∧ SqL K F a (ns.map V.int)
  | .kt xs, v => ∃ a, v = .ref a ∧ SqT K F a xs
  | .dtt ks ds, v => ∃ (a : Addr) (kvs : List (List Key × V)), v = .ref a ∧ F a = some (.dT kvs) ∧ kvs.map (·.1) = ks.map (·.map Sum.inl) ∧ Reps K F ds (kvs.map (·.2))
def Reps (K : PySem.W.Frag) (F : Hp) : List D → List V → Prop
  | [], xs => xs = []
  | d :: ds, xs => ∃ x r, xs = x :: r ∧ Rep K F d x ∧ Reps K F ds r
end
theorem Same.seqT {K : PySem.W.Frag} {H H' : Hp} {a : Addr} {xs : List V} (e : Same H H') (h : SqT K H a xs) : SqT K H' a xs := by
  rcases h with (h | ⟨o, h⟩) | h
  · exact .inl (.inl (e _ _ h))
  · exact .inl (.inr ⟨o, e _ _ h⟩)
  · exact .inr h
mutual
theorem Rep.mono {K : PySem.W.Frag} {F F' : Hp} (s : Same F F') : ∀ (d : D) {v : V}, Rep K F d v → Rep K F' d v
  | .non, _, h => h
  | .bl _, _, h => h
  | .int _, _, h => h
  | .str _, _, h => h
  | .lst ds, _, ⟨a, xs, e, h, r⟩ => ⟨a, xs, e, s a _ h, Reps.mono s ds r⟩
  | .tup ds, _, ⟨a, xs, e, h, r⟩ => ⟨a, xs, e, s a _ h, Reps.mono s ds r⟩
  | .scr _, _, ⟨a, e, h⟩ => ⟨a, e, s.seq h⟩
  | .kt _, _, ⟨a, e, h⟩ => ⟨a, e, s.seqT h⟩
  | .dtt ks ds, _, ⟨a, kvs, e, h, hk, r⟩ => ⟨a, kvs, e, s a _ h, hk, Reps.mono s ds r⟩
theorem Reps.mono {K : PySem.W.Frag} {F F' : Hp} (s : Same F F') : ∀ (ds : List D) {xs : List V}, Reps K F ds xs → Reps K F' ds xs
  | [], _, h => h
  | d :: ds, _, ⟨x, r, e, h, t⟩ => ⟨x, r, e, Rep.mono s d h, Reps.mono s ds t⟩
end
section
variable {K : PySem.W.Frag} {F : Hp}
theorem Reps.nil : Reps K F [] [] := rfl
theorem Reps.cons {d : D} {ds : List D} {x : V} {xs : List V} (h : Rep K F d x) (t : Reps K F ds xs) : Reps K F (d :: ds) (x :: xs) := ⟨x, xs, rfl, h, t⟩
theorem Reps.length : ∀ {ds : List D} {xs : List V}, Reps K F ds xs → xs.length = ds.length
  | [], _, h => by rw [show _ = [] from h]; rfl
  | d :: ds, _, ⟨x, r, e, _, t⟩ => by rw [e, List.length_cons, List.length_cons, Reps.length t]
theorem Reps.get : ∀ {ds : List D} {xs : List V} {i : Nat} {d : D}, Reps K F ds xs → ds[i]? = some d → ∃ x, xs[i]? = some x ∧ Rep K F d x
  | [], _, i, d, _, e => by simp at e
  | d :: ds, _, 0, d', ⟨x, r, e, h, t⟩, q => by cases Option.some.inj q; rw [e]; exact ⟨x, rfl, h⟩
  | d :: ds, _, i + 1, d', ⟨x, r, e, h, t⟩, q => by
    obtain ⟨y, h1, h2⟩ := Reps.get (ds := ds) t (show ds[i]? = some d' from q)
    rw [e]
    exact ⟨y, h1, h2⟩
theorem Reps.get' : ∀ {ds : List D} {xs : List V} {i : Nat} {x : V}, Reps K F ds xs → xs[i]? = some x → ∃ d, ds[i]? = some d ∧ Rep K F d x
  | [], _, i, x, h, e => by rw [show _ = [] from h] at e; simp at e
  | d :: ds, _, 0, x', ⟨x, r, e, h, t⟩, q => by rw [e] at q; cases Option.some.inj q; exact ⟨d, rfl, h⟩
  | d :: ds, _, i + 1, x', ⟨x, r, e, h, t⟩, q => by rw [e] at q; exact Reps.get' (ds := ds) t (show r[i]? = some x' from q)
theorem Reps.append : ∀ {ds es : List D} {xs ys : List V}, Reps K F ds xs → Reps K F es ys → Reps K F (ds ++ es) (xs ++ ys)
  | [], _, _, _, h, t => by rw [show _ = [] from h]; exact t
  | d :: ds, _, _, _, ⟨x, r, e, h, q⟩, t => by rw [e]; exact ⟨x, _, rfl, h, Reps.append q t⟩
theorem Reps.of : ∀ {ds : List D} {xs : List V}, xs.length = ds.length → (∀ (i : Nat) d x, ds[i]? = some d → xs[i]? = some x → Rep K F d x) → Reps K F ds xs
  | [], [], _, _ => rfl
  | [], _ :: _, l, _ => by simp at l
  | d :: ds, [], l, _ => by simp at l
  | d :: ds, x :: xs, l, h => ⟨x, xs, rfl, h 0 d x rfl rfl, Reps.of (by simpa using l) fun i d' x' e1 e2 => h (i + 1) d' x' e1 e2⟩
theorem Reps.ints : ∀ (ns : List Int), Reps K F (ns.map D.int) (ns.map V.int)
  | [] => rfl
  | n :: ns => ⟨_, _, rfl, rfl, Reps.ints ns⟩
theorem Reps.ints_eq : ∀ {ns : List Int} {xs : List V}, Reps K F (ns.map D.int) xs → xs = ns.map V.int
  | [], _, h => h
  | n :: ns, _, ⟨x, r, e, h, t⟩ => by rw [e, show x = V.int n from h, Reps.ints_eq t]; rfl
end
structure Grow (F H F' H' : Hp) : Prop where
  hh : Same H H'
  ff : Same F F'
  sub : Same F' H'
  new : ∀ a, F a = none → F' a ≠ none → H a = none ∨ ∃ xs, H a = some (.tup xs)
theorem Grow.refl {F H : Hp} (s : Same F H) : Grow F H F H := ⟨Same.refl _, Same.refl _, s, fun _ e n => absurd e n⟩
theorem Grow.trans {F H F1 H1 F2 H2 : Hp} (a : Grow F H F1 H1) (b : Grow F1 H1 F2 H2) : Grow F H F2 H2 := by
  refine ⟨a.hh.trans b.hh, a.ff.trans b.ff, b.sub, fun x e n => ?_⟩
  by_cases h : F1 x = none
  · rcases b.new x h n with z | ⟨xs, z⟩
    · exact .inl (a.hh.free z)
    · cases q : H x with
      | none => exact .inl rfl
      | some o =>
        have w := a.hh x o q
        rw [z] at w
        exact .inr ⟨xs, w.symm⟩
  · exact a.new x e h
theorem Grow.lay {F H : Hp} {a : Addr} {o : HO} (s : Same F H) (h : H a = none) : Grow F H (upd F a o) (upd H a o) := by
  refine ⟨fun b u e => ?_, fun b u e => ?_, fun b u e => ?_, fun b e n => ?_⟩
  · rw [upd_ne (ne_of_none e h)]; exact e
  · rw [upd_ne (ne_of_none (s _ _ e) h)]; exact e
  · by_cases hb : b = a
    · subst hb; rw [upd_same] at e ⊢; exact e
    · rw [upd_ne hb] at e ⊢; exact s _ _ e
  · by_cases hb : b = a
    · rw [hb]; exact .inl h
    · rw [upd_ne hb] at n; exact absurd e n
theorem Grow.keep {F H : Hp} {a : Addr} {o : HO} (s : Same F H) (h : H a = none) : Grow F H F (upd H a o) := by
  refine ⟨fun b u e => ?_, Same.refl _, fun b u e => ?_, fun b e n => absurd e n⟩
  · rw [upd_ne (ne_of_none e h)]; exact e
  · rw [upd_ne (ne_of_none (s _ _ e) h)]; exact s _ _ e
inductive DS where
  | un | sh (d : D) | own (ds : List D) | dic (kvs : List (Key × D)) | dct (ks : List (List Int)) (ds : List D) | obj (v : V) (fp : List Addr) (R : Hp → Prop)
def Local (fp : List Addr) (R : Hp → Prop) : Prop := ∀ H1 H2 : Hp, (∀ a ∈ fp, H2 a = H1 a) → (∀ a xs, H1 a = some (.tup xs) → H2 a = some (.tup xs)) → R H1 → R H2
def RepKV (K : PySem.W.Frag) (F : Hp) (kds : List (Key × D)) (kvs : List (Key × V)) : Prop := kvs.map (·.1) = kds.map (·.1) ∧ Reps K F (kds.map (·.2)) (kvs.map (·.2))
def SlotOk (K : PySem.W.Frag) (F H : Hp) : DS → Option V → Prop
  | .un, _ => True
  | .sh d, o => ∃ v, o = some v ∧ Rep K F d v
  | .own ds, o => ∃ a xs, o = some (.ref a) ∧ F a = none ∧ H a = some (.lst xs) ∧ Reps K F ds xs
  | .dic kds, o => ∃ a kvs, o = some (.ref a) ∧ F a = none ∧ H a = some (.dK kvs) ∧ RepKV K F kds kvs
  | .dct ks ds, o => ∃ (a : Addr) (kvs : List (List Key × V)), o = some (.ref a) ∧ F a = none ∧ H a = some (.dT kvs) ∧ kvs.map (·.1) = ks.map (·.map Sum.inl) ∧ Reps K F ds (kvs.map (·.2))
  | .obj v fp R, o => o = some v ∧ (∀ a ∈ fp, F a = none ∧ ∃ u, H a = some u ∧ ∀ xs, u ≠ .tup xs) ∧ Local fp R ∧ R H
def isOwn : DS → Bool
  | .own _ => true
  | .dic _ => true
  | .dct _ _ => true
  | .obj _ _ _ => true
  | _ => false
def isPl : DS → Bool
  | .own _ => true
  | .dic _ => true
  | .dct _ _ => true
  | _ => false
def has (s : DS) (o : Option V) (a : Addr) : Prop := match s with
  | .obj _ fp _ => a ∈ fp
  | _ => o = some (.ref a)
theorem pl_own {s : DS} (h : isPl s = true) : isOwn s = true := by cases s <;> first | rfl | cases h
theorem pl_has {s : DS} {o : Option V} {a : Addr} (h : isPl s = true) : has s o a ↔ o = some (.ref a) := by cases s <;> first | exact Iff.rfl | cases h
abbrev DEnv := List DS
structure Slots (K : PySem.W.Frag) (F H : Hp) (σ : St) (env : DEnv) : Prop where
  len : env.length = σ.length
  ok : ∀ (i : Nat) s, env[i]? = some s → SlotOk K F H s (σ[i]?).join
  apart : ∀ (i j : Nat) s t a, env[i]? = some s → env[j]? = some t → isOwn s = true → isOwn t = true → has s (σ[i]?).join a → has t (σ[j]?).join a → i = j
theorem SlotOk.grow {K : PySem.W.Frag} {F H F' H' : Hp} {s : DS} {o : Option V} (h : SlotOk K F H s o) (g : Grow F H F' H') : SlotOk K F' H' s o := by
  have free : ∀ a u, F a = none → H a = some u → (∀ xs, u ≠ .tup xs) → F' a = none := fun a u e1 e2 nt => by
    cases q : F' a with
    | none => rfl
    | some _ =>
      rcases g.new a e1 (by rw [q]; exact fun z => nomatch z) with z | ⟨xs, z⟩
      · rw [z] at e2
        cases e2
      · rw [z] at e2
        cases e2
        exact absurd rfl (nt xs)
  cases s with
  | un => trivial
  | sh d => obtain ⟨v, e, r⟩ := h; exact ⟨v, e, Rep.mono g.ff _ r⟩
  | own ds => obtain ⟨a, xs, e, f, q, r⟩ := h; exact ⟨a, xs, e, free a _ f q (fun _ z => nomatch z), g.hh _ _ q, Reps.mono g.ff _ r⟩
  | dic kds => obtain ⟨a, xs, e, f, q, r1, r2⟩ := h; exact ⟨a, xs, e, free a _ f q (fun _ z => nomatch z), g.hh _ _ q, r1, Reps.mono g.ff _ r2⟩
  | dct ks ds => obtain ⟨a, xs, e, f, q, r1, r2⟩ := h; exact ⟨a, xs, e, free a _ f q (fun _ z => nomatch z), g.hh _ _ q, r1, Reps.mono g.ff _ r2⟩
  | obj v fp R =>
    obtain ⟨e, f, lc, r⟩ := h
    refine ⟨e, fun a m => ?_, lc, lc _ _ (fun a m => ?_) (fun a xs q => g.hh _ _ q) r⟩
    · obtain ⟨f1, u, f2, f3⟩ := f a m
      exact ⟨free a u f1 f2 f3, u, g.hh _ _ f2, f3⟩
    · obtain ⟨f1, u, f2, f3⟩ := f a m
      rw [f2, g.hh _ _ f2]
theorem SlotOk.off {K : PySem.W.Frag} {F H : Hp} {t : DS} {o : Option V} {a : Addr} {u : HO} (z : SlotOk K F H t o) (ne : isOwn t = true → ∀ b, has t o b → b ≠ a) (nt : ∀ xs, H a ≠ some (.tup xs)) : SlotOk K F (upd H a u) t o := by
  cases t with
  | un => trivial
  | sh d => exact z
  | own ds => obtain ⟨b, xs, e1, f, l, r⟩ := z; exact ⟨b, xs, e1, f, by rw [upd_ne (ne rfl b e1)]; exact l, r⟩
  | dic ds => obtain ⟨b, xs, e1, f, l, r⟩ := z; exact ⟨b, xs, e1, f, by rw [upd_ne (ne rfl b e1)]; exact l, r⟩
  | dct ks ds => obtain ⟨b, xs, e1, f, l, r⟩ := z; exact ⟨b, xs, e1, f, by rw [upd_ne (ne rfl b e1)]; exact l, r⟩
  | obj v fp R =>
    obtain ⟨e, f, lc, r⟩ := z
    refine ⟨e, fun b m => ?_, lc, lc _ _ (fun b m => upd_ne (ne rfl b m)) (fun b xs q => ?_) r⟩
    · rw [upd_ne (ne rfl b m)]
      exact f b m
    · have hb : b ≠ a := fun z => nt xs (z ▸ q)
      rw [upd_ne hb]
      exact q
theorem SlotOk.frz {K : PySem.W.Frag} {F H : Hp} {t : DS} {o : Option V} {a : Addr} {u : HO} (z : SlotOk K F H t o) (f0 : F a = none) (ne : isOwn t = true → ∀ b, has t o b → b ≠ a) : SlotOk K (upd F a u) H t o := by
  have ff : Same F (upd F a u) := fun b o z => by rw [upd_ne (ne_of_none z f0)]; exact z
  cases t with
  | un => trivial
  | sh d => obtain ⟨v, y1, y2⟩ := z; exact ⟨v, y1, Rep.mono ff _ y2⟩
  | own es => obtain ⟨b, ys, y1, y2, y3, y4⟩ := z; exact ⟨b, ys, y1, by rw [upd_ne (ne rfl b y1)]; exact y2, y3, Reps.mono ff _ y4⟩
  | dic es => obtain ⟨b, ys, y1, y2, y3, y4, y5⟩ := z; exact ⟨b, ys, y1, by rw [upd_ne (ne rfl b y1)]; exact y2, y3, y4, Reps.mono ff _ y5⟩
  | dct ks es => obtain ⟨b, ys, y1, y2, y3, y4, y5⟩ := z; exact ⟨b, ys, y1, by rw [upd_ne (ne rfl b y1)]; exact y2, y3, y4, Reps.mono ff _ y5⟩
  | obj v fp R =>
    obtain ⟨e, f, lc, r⟩ := z
    refine ⟨e, fun b m => ?_, lc, r⟩
    rw [upd_ne (ne rfl b m)]
    exact f b m
theorem SlotOk.there {K : PySem.W.Frag} {F H : Hp} {t : DS} {o : Option V} {a : Addr} (z : SlotOk K F H t o) (ow : isOwn t = true) (h : has t o a) : F a = none ∧ ∃ u, H a = some u ∧ ∀ xs, u ≠ .tup xs := by
  cases t with
  | un => cases ow
  | sh d => cases ow
  | own ds => obtain ⟨b, xs, e1, f, l, r⟩ := z; rw [show o = _ from h] at e1; cases e1; exact ⟨f, _, l, fun _ y => nomatch y⟩
  | dic ds => obtain ⟨b, xs, e1, f, l, r⟩ := z; rw [show o = _ from h] at e1; cases e1; exact ⟨f, _, l, fun _ y => nomatch y⟩
  | dct ks ds => obtain ⟨b, xs, e1, f, l, r⟩ := z; rw [show o = _ from h] at e1; cases e1; exact ⟨f, _, l, fun _ y => nomatch y⟩
  | obj v fp R => obtain ⟨e, f, lc, r⟩ := z; exact f a h
theorem Slots.grow {K : PySem.W.Frag} {F H F' H' : Hp} {σ : St} {env : DEnv} (h : Slots K F H σ env) (g : Grow F H F' H') : Slots K F' H' σ env :=
  ⟨h.len, fun i s e => (h.ok i s e).grow g, h.apart⟩
def Fresh (H0 : Hp) (σ : St) (env : DEnv) : Prop := ∀ (i : Nat) s a, env[i]? = some s → isOwn s = true → has s (σ[i]?).join a → H0 a = none
abbrev Exs := Addr → Prop
abbrev GE := DEnv → Exs → (D → Prop) → Prop
abbrev GT := DEnv → Exs → (Bool → Prop) → Prop
abbrev GA := DEnv → Exs → (List D → Prop) → Prop
def ExOk (E : XK) (Ex : Exs) (H : Hp) : Prop := ∀ C, Ex C → ∀ H', Same H H' → E (.ref C) none H'
theorem ExOk.step {E : XK} {Ex : Exs} {H H' : Hp} (h : ExOk E Ex H) (s : Same H H') : ExOk E Ex H' := fun C e H'' s' => h C e H'' (s.trans s')
def Fin1 (K : PySem.W.Frag) (F H : Hp) (Qd : D → Prop) (Q : VK) : Prop := ∀ d v F' H', Qd d → Grow F H F' H' → Rep K F' d v → Q v H'
theorem Fin1.step {K : PySem.W.Frag} {F H F' H' : Hp} {Qd : D → Prop} {Q : VK} (h : Fin1 K F H Qd Q) (g : Grow F H F' H') : Fin1 K F' H' Qd Q := fun d v F2 H2 q g2 r => h d v F2 H2 q (g.trans g2) r
theorem Fin1.now {K : PySem.W.Frag} {F H : Hp} {Qd : D → Prop} {Q : VK} {d : D} {v : V} (h : Fin1 K F H Qd Q) (s : Same F H) (q : Qd d) (r : Rep K F d v) : Q v H := h d v F H q (Grow.refl s) r
def DTE (K : PySem.W.Frag) (E : XK) (g : GE) : TE := fun σ H Q => ∃ F env Ex Qd, Same F H ∧ Slots K F H σ env ∧ ExOk E Ex H ∧ g env Ex Qd ∧ Fin1 K F H Qd Q
def DTT (K : PySem.W.Frag) (E : XK) (g : GT) : TT := fun σ H Q => ∃ F env Ex Qd, Same F H ∧ Slots K F H σ env ∧ ExOk E Ex H ∧ g env Ex Qd ∧ ∀ b F' H', Qd b → Grow F H F' H' → Q b H'
def DTA (K : PySem.W.Frag) (E : XK) (g : GA) : TA := fun σ H Q => ∃ F env Ex Qd, Same F H ∧ Slots K F H σ env ∧ ExOk E Ex H ∧ g env Ex Qd ∧ ∀ ds vs F' H', Qd ds → Grow F H F' H' → Reps K F' ds vs → Q vs H'
structure DE (X : Cx) (E : XK) (e : Expr) (g : GE) : Prop where
  h : PE X e (DTE X.K E g)
structure DT (X : Cx) (E : XK) (e : Expr) (g : GT) : Prop where
  h : PT X e (DTT X.K E g)
structure DW (X : Cx) (E : XK) (e : Expr) (g : GT) : Prop where
  h : PW X e (DTT X.K E g)
structure DA (X : Cx) (E : XK) (es : List Expr) (g : GA) : Prop where
  h : PA X es (DTA X.K E g)
def DTF (K : PySem.W.Frag) (E : XK) (g : GA) : TE := fun σ H Q => ∃ F env Ex Qd, Same F H ∧ Slots K F H σ env ∧ ExOk E Ex H ∧ g env Ex Qd ∧
  ∀ ds a xs F' H', Qd ds → Grow F H F' H' → F' a = none → H a = none → H' a = some (.lst xs) → Reps K F' ds xs → Q (.ref a) H'
structure DF (X : Cx) (E : XK) (e : Expr) (g : GA) : Prop where
  h : PE X e (DTF X.K E g)
theorem PE.weak {X : Cx} {e : Expr} {t t' : TE} (h : PE X e t) (w : ∀ σ H Q, t' σ H Q → t σ H Q) : PE X e t' := fun pins s σ H Q I q => h pins s σ H Q I (w σ H Q q)
theorem PT.weak {X : Cx} {e : Expr} {t t' : TT} (h : PT X e t) (w : ∀ σ H Q, t' σ H Q → t σ H Q) : PT X e t' := fun pins s σ H Q I q => h pins s σ H Q I (w σ H Q q)
theorem PW.weak {X : Cx} {e : Expr} {t t' : TT} (h : PW X e t) (w : ∀ σ H Q, t' σ H Q → t σ H Q) : PW X e t' := fun wh pins s σ H Q I q => h wh pins s σ H Q I (w σ H Q q)
theorem PA.weak {X : Cx} {e : List Expr} {t t' : TA} (h : PA X e t) (w : ∀ σ H Q, t' σ H Q → t σ H Q) : PA X e t' := fun pos pins s σ H Q I q => h pos pins s σ H Q I (w σ H Q q)
theorem PS.weak {X : Cx} {st : Stmt} {t t' : TS} (h : PS X st t) (w : ∀ Dd σ H, t' Dd σ H → t Dd σ H) : PS X st t' := fun pins s σ H Dd I q => h pins s σ H Dd I (w Dd σ H q)
theorem PSs.weak {X : Cx} {st : List Stmt} {t t' : TS} (h : PSs X st t) (w : ∀ Dd σ H, t' Dd σ H → t Dd σ H) : PSs X st t' := fun pins s σ H Dd I q => h pins s σ H Dd I (w Dd σ H q)
structure DEnds where
  nx : DEnv → Prop
  rt : D → Prop
  bk : DEnv → Prop := fun _ => False
  ct : DEnv → Prop := fun _ => False
  rf : List D → Prop := fun _ => False
  ro : DS → Prop := fun _ => False
abbrev GS := DEnds → Exs → DEnv → Prop
def To (K : PySem.W.Frag) (F0 H0 : Hp) (p : DEnv → Prop) (q : St → Hp → Prop) : Prop := ∀ env σ F H, p env → Grow F0 H0 F H → Slots K F H σ env → Fresh H0 σ env → q σ H
structure EndsOk (K : PySem.W.Frag) (F0 H0 : Hp) (Dd : DEnds) (Dn : Ends) : Prop where
  nx : To K F0 H0 Dd.nx Dn.nx
  rt : ∀ d v F H, Dd.rt d → Grow F0 H0 F H → Rep K F d v → Dn.rt v H
  bk : To K F0 H0 Dd.bk Dn.bk
  ct : To K F0 H0 Dd.ct Dn.ct
  rf : ∀ ds a xs F H, Dd.rf ds → Grow F0 H0 F H → F a = none → H0 a = none → H a = some (.lst xs) → Reps K F ds xs → Dn.rt (.ref a) H
  ro : ∀ s v F H, Dd.ro s → Grow F0 H0 F H → SlotOk K F H s (some v) → isOwn s = true → (∀ a, has s (some v) a → H0 a = none) → Dn.rt v H
def DTS (K : PySem.W.Frag) (E : XK) (F0 H0 : Hp) (g : GS) : TS := fun Dn σ H => ∃ F env Ex Dd, Grow F0 H0 F H ∧ Slots K F H σ env ∧ Fresh H0 σ env ∧ ExOk E Ex H0 ∧ g Dd Ex env ∧ EndsOk K F0 H0 Dd Dn
structure DSt (X : Cx) (E : XK) (st : Stmt) (g : GS) : Prop where
  h : ∀ F0 H0, Same F0 H0 → PS X st (DTS X.K E F0 H0 g)
structure DSs (X : Cx) (E : XK) (sts : List Stmt) (g : GS) : Prop where
  h : ∀ F0 H0, Same F0 H0 → PSs X sts (DTS X.K E F0 H0 g)
abbrev DSp := List D → Exs → (D → Prop) → Prop
def dSp (K : PySem.W.Frag) (n : Nat) (f : DSp) : Sp := fun vs H Q E => ∃ F ds Ex Qd, ds.length = n ∧ Same F H ∧ Reps K F ds vs ∧ ExOk E Ex H ∧ f ds Ex Qd ∧ Fin1 K F H Qd Q
def startD (N : List Str) (ds : List D) : DEnv := ds.map DS.sh ++ List.replicate (N.length - ds.length) DS.un
def retEnds (Q : D → Prop) : DEnds := { nx := fun _ => Q .non, rt := Q }
theorem start_slots {K : PySem.W.Frag} {F H : Hp} {N : List Str} {ds : List D} {vs : List V} (r : Reps K F ds vs) : Slots K F H (start N vs) (startD N ds) := by
  have hl := r.length
  have noOwn : ∀ (i : Nat) s, (startD N ds)[i]? = some s → isOwn s = false := fun i s e => by
    unfold startD at e
    rw [List.getElem?_append] at e
    split at e
    · rw [List.getElem?_map] at e
      cases q : ds[i]? with
      | none => rw [q] at e; cases e
      | some d => rw [q] at e; cases e; rfl
    · rw [List.getElem?_replicate] at e
      split at e
      · cases e; rfl
      · cases e
  refine ⟨?_, fun i s e => ?_, fun i j s t a e1 e2 o1 o2 _ _ => ?_⟩
  · unfold startD start
    simp [hl]
  · unfold startD at e
    unfold start
    rw [List.getElem?_append] at e ⊢
    rw [List.length_map] at e ⊢
    by_cases hi : i < ds.length
    · rw [if_pos (by omega), List.getElem?_map] at e
      rw [if_pos (by omega), List.getElem?_map]
      cases q : ds[i]? with
      | none => rw [q] at e; cases e
      | some d =>
        rw [q] at e
        cases e
        obtain ⟨x, hx, rx⟩ := r.get q
        rw [hx]
        exact ⟨x, rfl, rx⟩
    · rw [if_neg (by omega), List.getElem?_replicate] at e
      split at e
      · cases e; trivial
      · cases e
  · rw [noOwn i s e1] at o1
    cases o1
theorem start_fresh {H : Hp} {N : List Str} {ds : List D} {σ : St} : Fresh H σ (startD N ds) := fun i s a e o _ => by
  unfold startD at e
  rw [List.getElem?_append] at e
  split at e
  · rw [List.getElem?_map] at e
    cases q : ds[i]? with
    | none => rw [q] at e; cases e
    | some d => rw [q] at e; cases e; cases o
  · rw [List.getElem?_replicate] at e
    split at e
    · cases e; cases o
    · cases e
section
variable {P : Program} {w : World} {K : PySem.W.Frag} {mg : Str → Option Value} {base : Heap}
theorem dfn {x qual : Str} {st : Stmt} {f : Addr} {fd : FuncData} {N ps : List Str} {k : Nat} {sp : DSp} (F : Fun K x qual st f fd) (S : FnScope N ps (defScope st))
    (h : ∀ (cdv : Value) (A : Around) (outer : List Env) (s : Shared) (H : Hp) (E : XK), Body (cxOf (CXx P w) P w K mg base N qual (defScope st) f cdv A outer s H E) E → Room k (cxOf (CXx P w) P w K mg base N qual (defScope st) f cdv A outer s H E).A →
      ∃ g, DSs (cxOf (CXx P w) P w K mg base N qual (defScope st) f cdv A outer s H E) E (defBody st) g ∧ ∀ ds Ex Q, ds.length = ps.length → sp ds Ex Q → g (retEnds Q) Ex (startD N ds)) :
    FnOk P w K mg base (CXx P w) (k + 1) f fd ps (dSp K ps.length sp) := by
  refine F.okX S (fun vs H Q E hs => ?_) (fun X cdv A outer s H vs Q E hX b hr hs => ?_)
  · obtain ⟨F, ds, Ex, Qd, hl, _, r, _⟩ := hs
    rw [r.length, hl]
  · subst hX
    obtain ⟨F, ds, Ex, Qd, hl, sm, r, ex, hf, fin⟩ := hs
    obtain ⟨g, hg, q⟩ := h cdv A outer s H E b hr
    refine ⟨_, hg.h F H sm, F, startD N ds, Ex, retEnds Qd, Grow.refl sm, start_slots r, start_fresh, ex, q ds Ex Qd hl hf, ⟨fun env σ F' H' p gr _ _ => ?_, fun d v F' H' p gr rp => fin d v F' H' p gr rp, fun _ _ _ _ p => p.elim, fun _ _ _ _ p => p.elim, fun _ _ _ _ _ p => p.elim, fun _ _ _ _ p => p.elim⟩⟩
    exact fin .non .non F' H' p gr rfl
abbrev DSo := List D → Exs → (List D → Prop) → Prop
end
end L2
namespace L2
open PySem PySem.Spec PyProof.Rows
def gC (d : D) : GE := fun _ _ Q => Q d
def gVar (i : Nat) : GE := fun env _ Q => match env[i]? with
  | some (.sh d) => Q d
  | _ => False
section
variable {X : Cx} {E : XK} {pos : Pos} {a b c e : Expr} {es : List Expr}
theorem de_const {t : V} {d : D} (h : PE X e (tC t)) (r : ∀ F, Rep X.K F d t) : DE X E e (gC d) := ⟨h.weak fun σ H Q ⟨F, env, Ex, Qd, s, _, _, g, fin⟩ => fin.now s g (r F)⟩
theorem de_int {i j pos} : DE X E (.Constant (.int i) j pos) (gC (.int i)) := de_const pe_int fun _ => rfl
theorem de_bl {b j pos} : DE X E (.Constant (.bool b) j pos) (gC (.bl b)) := de_const pe_bl fun _ => rfl
theorem de_str {x j pos} : DE X E (.Constant (.str x) j pos) (gC (.str x)) := de_const pe_str fun _ => rfl
theorem de_gint {x : Str} {i : Int} {pos : Pos} (hg : Gl X x) (hm : ∃ t, X.mg x = some (.int i t)) (hd : (x == ("__debug__" : Str)) = false := by decide) : DE X E (.Name x pos) (gC (.int i)) := by
  obtain ⟨t, hm⟩ := hm
  exact de_const (pe_glob (v := .int i) hg hm ⟨t, rfl⟩ hd) fun _ => rfl
theorem dv (i : Nat) {x : Str} {pos : Pos} (hN : X.N[i]? = some x := by rfl) (hv : Vis X.env.scope x := by first | exact Or.inl rfl | exact Or.inr (Or.inl rfl) | exact Or.inr (Or.inr rfl)) (hd : (x == ("__debug__" : Str)) = false := by decide) (hcd : (x == ("__classdict__" : Str)) = false := by decide) :
    DE X E (.Name x pos) (gVar i) := ⟨by
  refine (pe_var hN hv hd hcd).weak fun σ H Q ⟨F, env, Ex, Qd, s, sl, _, g, fin⟩ => ?_
  unfold gVar at g
  split at g
  · rename_i d e
    obtain ⟨v, hv, r⟩ := sl.ok i _ e
    refine ⟨v, ?_, fin.now s g r⟩
    cases q : σ[i]? with
    | none => rw [q] at hv; cases hv
    | some o => rw [q] at hv; have hv : o = some v := hv; rw [hv]
  · exact g.elim⟩
def gaNil : GA := fun _ _ Q => Q []
def gaCons (g : GE) (ga : GA) : GA := fun env Ex Q => g env Ex fun d => ga env Ex fun ds => Q (d :: ds)
theorem da_nil : DA X E [] gaNil := ⟨PA.weak pa_nil fun σ H Q ⟨F, env, Ex, Qd, s, _, _, g, fin⟩ => fin [] [] F H g (Grow.refl s) rfl⟩
theorem da_cons {g : GE} {ga : GA} (h : DE X E e g) (hr : DA X E es ga) (hs : starEach (e :: es) X.env = (false, eval e X.env) :: starEach es X.env := by rfl) : DA X E (e :: es) (gaCons g ga) := ⟨
  (pa_cons h.h hr.h hs).weak fun σ H Q ⟨F, env, Ex, Qd, s, sl, ex, q, fin⟩ =>
    ⟨F, env, Ex, _, s, sl, ex, q, fun d v F1 H1 q1 g1 r1 => ⟨F1, env, Ex, _, g1.sub, sl.grow g1, ex.step g1.hh, q1, fun ds vs F2 H2 q2 g2 r2 => fin _ _ F2 H2 q2 (g1.trans g2) ⟨v, vs, rfl, Rep.mono g2.ff _ r1, r2⟩⟩⟩⟩
def OpD (K : PySem.W.Frag) (r : R2) (h : D → D → (D → Prop) → Prop) : Prop := ∀ F H x y dx dy Qd Q, Same F H → Rep K F dx x → Rep K F dy y → h dx dy Qd → Fin1 K F H Qd Q → r x y H Q
def gOp (h : D → D → (D → Prop) → Prop) (ga gb : GE) : GE := fun env Ex Q => ga env Ex fun x => gb env Ex fun y => h x y Q
theorem lift2 {r : R2} {h : D → D → (D → Prop) → Prop} {ga gb : GE} (o : OpD X.K r h) : ∀ σ H Q, DTE X.K E (gOp h ga gb) σ H Q → tOp r (DTE X.K E ga) (DTE X.K E gb) σ H Q :=
  fun σ H Q ⟨F, env, Ex, Qd, s, sl, ex, q, fin⟩ => ⟨F, env, Ex, _, s, sl, ex, q, fun d v F1 H1 q1 g1 r1 => ⟨F1, env, Ex, _, g1.sub, sl.grow g1, ex.step g1.hh, q1,
    fun d2 v2 F2 H2 q2 g2 r2 => o F2 H2 v v2 d d2 Qd Q g2.sub (Rep.mono g2.ff _ r1) r2 q2 (fin.step (g1.trans g2))⟩⟩
theorem de_op {op : Operator} {r : R2} {h : D → D → (D → Prop) → Prop} {ga gb : GE} (ho : OpR X (binaryOp op) r) (o : OpD X.K r h) (ha : DE X E a ga) (hb : DE X E b gb) : DE X E (.BinOp a op b pos) (gOp h ga gb) := ⟨(pe_op ho ha.h hb.h).weak (lift2 o)⟩
theorem de_cmp {op : CmpOp} {r : R2} {h : D → D → (D → Prop) → Prop} {ga gb : GE} (ho : OpR X (compareOp op) r) (o : OpD X.K r h) (ha : DE X E a ga) (hb : DE X E b gb) (hm : behindInMarks op b = false := by first | exact nomark _ | rfl) : DE X E (.Compare a [op] [b] pos) (gOp h ga gb) := ⟨
  (pe_cmpR ho ha.h hb.h hm).weak (lift2 o)⟩
theorem de_ix {r : R2} {h : D → D → (D → Prop) → Prop} {ga gb : GE} (ho : IxR X r) (o : OpD X.K r h) (ha : DE X E a ga) (hb : DE X E b gb) (hs : PlainIx b := by exact fun _ _ => rfl) : DE X E (.Subscript a b pos) (gOp h ga gb) := ⟨(pe_ix ho ha.h hb.h hs).weak (lift2 o)⟩
def gTest (g : GE) : GT := fun env Ex Q => g env Ex fun d => match d with
  | .bl k => Q k
  | _ => False
theorem bl_of {K : PySem.W.Frag} {F : Hp} {d : D} {v : V} {Q : Bool → Prop} (q : (match d with | .bl k => Q k | _ => False : Prop)) (r : Rep K F d v) : ∃ k, v = .bl k ∧ Q k := by
  cases d with
  | bl k => exact ⟨k, r, q⟩
  | _ => exact q.elim
theorem dt_cmp {op : CmpOp} {r : R2} {h : D → D → (D → Prop) → Prop} {ga gb : GE} (ho : OpR X (compareOp op) r) (o : OpD X.K r h) (ha : DE X E a ga) (hb : DE X E b gb) (hm : behindInMarks op b = false := by first | exact nomark _ | rfl) : DT X E (.Compare a [op] [b] pos) (gTest (gOp h ga gb)) := ⟨
  (pt_cmpR ho ha.h hb.h hm).weak fun σ H Q ⟨F, env, Ex, Qd, s, sl, ex, q, fin⟩ => lift2 o σ H _ ⟨F, env, Ex, _, s, sl, ex, q, fun d v F1 H1 q1 g1 r1 => by
    obtain ⟨k, rfl, q2⟩ := bl_of q1 r1
    exact ⟨k, rfl, fin k F1 H1 q2 g1⟩⟩⟩
theorem dt_val {g : GE} (h : DE X E e g) (he : ∀ whole, isTrue e X.env whole = (do let v ← whole; standAt e.pos; holding [v] (truthy v)) := by intro _; rfl) : DT X E e (gTest g) := ⟨
  (pt_val h.h he).weak fun σ H Q ⟨F, env, Ex, Qd, s, sl, ex, q, fin⟩ => ⟨F, env, Ex, _, s, sl, ex, q, fun d v F1 H1 q1 g1 r1 => by
    obtain ⟨k, rfl, q2⟩ := bl_of q1 r1
    exact ⟨k, rfl, fin k F1 H1 q2 g1⟩⟩⟩
def gAnd (g u : GT) : GT := fun env Ex Q => g env Ex fun c => if c = true then u env Ex Q else Q false
def gOr (g u : GT) : GT := fun env Ex Q => g env Ex fun c => if c = true then Q true else u env Ex Q
def gNot (g : GT) : GT := fun env Ex Q => g env Ex fun c => Q (!c)
theorem dw_and1 {g : GT} (h : DT X E a g) : DW X E (.BoolOp .And [a] pos) g := ⟨pw_and1 h.h⟩
theorem dw_or1 {g : GT} (h : DT X E a g) : DW X E (.BoolOp .Or [a] pos) g := ⟨pw_or1 h.h⟩
theorem dw_and {g u : GT} (ha : DT X E a g) (hb : DW X E (.BoolOp .And (b :: es) pos) u) : DW X E (.BoolOp .And (a :: b :: es) pos) (gAnd g u) := ⟨
  (pw_and ha.h hb.h).weak fun σ H Q ⟨F, env, Ex, Qd, s, sl, ex, q, fin⟩ => ⟨F, env, Ex, _, s, sl, ex, q, fun c F1 H1 q1 g1 => by
    cases c with
    | true => rw [if_pos rfl] at q1 ⊢; exact ⟨F1, env, Ex, Qd, g1.sub, sl.grow g1, ex.step g1.hh, q1, fun b F2 H2 q2 g2 => fin b F2 H2 q2 (g1.trans g2)⟩
    | false => rw [if_neg Bool.false_ne_true] at q1 ⊢; exact fin false F1 H1 q1 g1⟩⟩
theorem dw_or {g u : GT} (ha : DT X E a g) (hb : DW X E (.BoolOp .Or (b :: es) pos) u) : DW X E (.BoolOp .Or (a :: b :: es) pos) (gOr g u) := ⟨
  (pw_or ha.h hb.h).weak fun σ H Q ⟨F, env, Ex, Qd, s, sl, ex, q, fin⟩ => ⟨F, env, Ex, _, s, sl, ex, q, fun c F1 H1 q1 g1 => by
    cases c with
    | true => rw [if_pos rfl] at q1 ⊢; exact fin true F1 H1 q1 g1
    | false => rw [if_neg Bool.false_ne_true] at q1 ⊢; exact ⟨F1, env, Ex, Qd, g1.sub, sl.grow g1, ex.step g1.hh, q1, fun b F2 H2 q2 g2 => fin b F2 H2 q2 (g1.trans g2)⟩⟩⟩
theorem DW.dt {g : GT} (h : DW X E a g) : DT X E a g := ⟨PW.pt h.h⟩
theorem dt_not {g : GT} (h : DT X E a g) : DT X E (.UnaryOp .Not a pos) (gNot g) := ⟨
  (pt_not h.h).weak fun σ H Q ⟨F, env, Ex, Qd, s, sl, ex, q, fin⟩ => ⟨F, env, Ex, _, s, sl, ex, q, fun c F1 H1 q1 g1 => fin _ F1 H1 q1 g1⟩⟩
def gAndV (g u : GE) : GE := fun env Ex Q => g env Ex fun d => match d with
  | .bl c => if c = true then u env Ex Q else Q (.bl false)
  | _ => False
def gNotV (g : GE) : GE := fun env Ex Q => g env Ex fun d => match d with
  | .bl c => Q (.bl (!c))
  | _ => False
theorem de_one {op} {g : GE} (h : DE X E a g) : DE X E (.BoolOp op [a] pos) g := ⟨pe_one h.h⟩
theorem de_and {g u : GE} (ha : DE X E a g) (hb : DE X E (.BoolOp .And (b :: es) pos) u) : DE X E (.BoolOp .And (a :: b :: es) pos) (gAndV g u) := ⟨
  (pe_and ha.h hb.h).weak fun σ H Q ⟨F, env, Ex, Qd, s, sl, ex, q, fin⟩ => ⟨F, env, Ex, _, s, sl, ex, q, fun d v F1 H1 q1 g1 r1 => by
    cases d with
    | bl c =>
      refine ⟨c, r1, ?_⟩
      cases c with
      | true => dsimp only at q1; rw [if_pos rfl] at q1 ⊢; exact ⟨F1, env, Ex, Qd, g1.sub, sl.grow g1, ex.step g1.hh, q1, fin.step g1⟩
      | false => dsimp only at q1; rw [if_neg Bool.false_ne_true] at q1 ⊢; exact fin _ _ F1 H1 q1 g1 rfl
    | _ => exact (show False from q1).elim⟩⟩
theorem de_not {g : GE} (ha : DE X E a g) : DE X E (.UnaryOp .Not a pos) (gNotV g) := ⟨
  (pe_not ha.h).weak fun σ H Q ⟨F, env, Ex, Qd, s, sl, ex, q, fin⟩ => ⟨F, env, Ex, _, s, sl, ex, q, fun d v F1 H1 q1 g1 r1 => by
    cases d with
    | bl c => exact ⟨c, r1, fin _ _ F1 H1 q1 g1 rfl⟩
    | _ => exact (show False from q1).elim⟩⟩
def gChain (h h' : D → D → (D → Prop) → Prop) (ga gb gc : GE) : GE := fun env Ex Q => ga env Ex fun x => gb env Ex fun y => h x y fun z => match z with
  | .bl k => if k = true then gc env Ex fun w => h' y w Q else Q (.bl false)
  | _ => False
theorem de_chain {op op' : CmpOp} {r r' : R2} {h h' : D → D → (D → Prop) → Prop} {ga gb gc : GE} (ho : OpR X (compareOp op) r) (o : OpD X.K r h) (ho' : OpR X (compareOp op') r') (o' : OpD X.K r' h') (ha : DE X E a ga) (hb : DE X E b gb) (hc : DE X E c gc) (hm : lastMarks [op, op'] [b, c] = false) :
    DE X E (.Compare a [op, op'] [b, c] pos) (gChain h h' ga gb gc) := ⟨
  (pe_chain ho ho' ha.h hb.h hc.h hm).weak fun σ H Q ⟨F, env, Ex, Qd, s, sl, ex, q, fin⟩ => ⟨F, env, Ex, _, s, sl, ex, q, fun d v F1 H1 q1 g1 r1 => ⟨F1, env, Ex, _, g1.sub, sl.grow g1, ex.step g1.hh, q1,
    fun d2 v2 F2 H2 q2 g2 r2 => o F2 H2 v v2 d d2 _ _ g2.sub (Rep.mono g2.ff _ r1) r2 q2 fun d3 v3 F3 H3 q3 g3 r3 => by
      cases d3 with
      | bl k =>
        refine ⟨k, r3, ?_⟩
        cases k with
        | true =>
          dsimp only at q3; rw [if_pos rfl] at q3 ⊢
          exact ⟨F3, env, Ex, _, g3.sub, ((sl.grow g1).grow g2).grow g3, ((ex.step g1.hh).step g2.hh).step g3.hh, q3, fun d4 v4 F4 H4 q4 g4 r4 => o' F4 H4 v2 v4 d2 d4 Qd Q g4.sub (Rep.mono (g3.ff.trans g4.ff) _ r2) r4 q4 (fin.step (((g1.trans g2).trans g3).trans g4))⟩
        | false => dsimp only at q3; rw [if_neg Bool.false_ne_true] at q3 ⊢; exact fin _ _ F3 H3 q3 ((g1.trans g2).trans g3) rfl
      | _ => exact (show False from q3).elim⟩⟩⟩
def gIfE (g : GT) (ga gb : GE) : GE := fun env Ex Q => g env Ex fun c => if c = true then ga env Ex Q else gb env Ex Q
theorem de_ifExp {g : GT} {ga gb : GE} (hc : DT X E c g) (ha : DE X E a ga) (hb : DE X E b gb) : DE X E (.IfExp c a b pos) (gIfE g ga gb) := ⟨
  (pe_ifExp hc.h ha.h hb.h).weak fun σ H Q ⟨F, env, Ex, Qd, s, sl, ex, q, fin⟩ => ⟨F, env, Ex, _, s, sl, ex, q, fun k F1 H1 q1 g1 => by
    cases k with
    | true => rw [if_pos rfl] at q1 ⊢; exact ⟨F1, env, Ex, Qd, g1.sub, sl.grow g1, ex.step g1.hh, q1, fin.step g1⟩
    | false => rw [if_neg Bool.false_ne_true] at q1 ⊢; exact ⟨F1, env, Ex, Qd, g1.sub, sl.grow g1, ex.step g1.hh, q1, fin.step g1⟩⟩⟩
def gUn (h : D → (D → Prop) → Prop) (g : GE) : GE := fun env Ex Q => g env Ex fun d => h d Q
def gTupD (ga : GA) : GE := fun env Ex Q => ga env Ex fun ds => ds.length ≤ sizeLine ∧ Q (.tup ds)
def gLst (ga : GA) : GA := fun env Ex Q => ga env Ex fun ds => ds.length ≤ sizeLine ∧ Q ds
theorem de_tup {x1} {ga : GA} (h : DA X E es ga) : DE X E (.Tuple es x1 pos) (gTupD ga) := ⟨
  (pe_tup h.h).weak fun σ H Q ⟨F, env, Ex, Qd, s, sl, ex, q, fin⟩ => ⟨F, env, Ex, _, s, sl, ex, q, fun ds vs F1 H1 q1 g1 r1 => ⟨by rw [r1.length]; exact q1.1, fun p hp =>
    fin _ _ (upd F1 p (.tup vs)) _ q1.2 (g1.trans (Grow.lay g1.sub hp)) ⟨p, vs, rfl, upd_same, Reps.mono (Grow.lay (o := .tup vs) g1.sub hp).ff _ r1⟩⟩⟩⟩
theorem df_lst {ga : GA} (h : DA X E es ga) : DF X E (.List es pos) (gLst ga) := ⟨
  (pe_lst h.h).weak fun σ H Q ⟨F, env, Ex, Qd, s, sl, ex, q, fin⟩ => ⟨F, env, Ex, _, s, sl, ex, q, fun ds vs F1 H1 q1 g1 r1 => ⟨by rw [r1.length]; exact q1.1, fun p hp =>
    fin ds p vs F1 _ q1.2 (g1.trans (Grow.keep g1.sub hp)) (g1.sub.free hp) (g1.hh.free hp) upd_same r1⟩⟩⟩
def gFr (g : GA) : GE := fun env Ex Q => g env Ex fun ds => Q (.lst ds)
theorem DF.de {g : GA} (h : DF X E e g) : DE X E e (gFr g) := ⟨PE.weak h.h fun σ H Q ⟨F, env, Ex, Qd, s, sl, ex, q, fin⟩ => ⟨F, env, Ex, _, s, sl, ex, q, fun ds a xs F1 H1 q1 g1 f1 n1 l1 r1 => by
  have ff : Same F1 (upd F1 a (.lst xs)) := fun b u e => by rw [upd_ne (ne_of_none e f1)]; exact e
  have gr : Grow F H (upd F1 a (.lst xs)) H1 := by
    refine ⟨g1.hh, g1.ff.trans ff, fun b u e => ?_, fun b e n => ?_⟩
    · by_cases hb : b = a
      · subst hb; rw [upd_same] at e; rw [l1, ← e]
      · rw [upd_ne hb] at e; exact g1.sub _ _ e
    · by_cases hb : b = a
      · subst hb; exact .inl n1
      · rw [upd_ne hb] at n; exact g1.new b e n
  exact fin _ _ _ H1 q1 gr ⟨a, xs, rfl, upd_same, Reps.mono ff _ r1⟩⟩⟩
end
end L2
namespace L2
open PySem PySem.Spec PyProof.Rows
def hII (f : Int → Int → D) (a b : D) (Q : D → Prop) : Prop := match a, b with
  | .int i, .int j => Q (f i j)
  | _, _ => False
def hIIc (C : Int → Int → Prop) (f : Int → Int → D) (a b : D) (Q : D → Prop) : Prop := match a, b with
  | .int i, .int j => C i j ∧ Q (f i j)
  | _, _ => False
theorem hII_of {f : Int → Int → D} {a b : D} {Q : D → Prop} (h : hII f a b Q) : ∃ i j, a = .int i ∧ b = .int j ∧ Q (f i j) := by
  unfold hII at h
  split at h
  · exact ⟨_, _, rfl, rfl, h⟩
  · exact h.elim
theorem hIIc_of {C : Int → Int → Prop} {f : Int → Int → D} {a b : D} {Q : D → Prop} (h : hIIc C f a b Q) : ∃ i j, a = .int i ∧ b = .int j ∧ C i j ∧ Q (f i j) := by
  unfold hIIc at h
  split at h
  · exact ⟨_, _, rfl, rfl, h.1, h.2⟩
  · exact h.elim
theorem od_ii {K : PySem.W.Frag} {g : Int → Int → V} {f : Int → Int → D} (r : ∀ F i j, Rep K F (f i j) (g i j)) : OpD K (rI0 g) (hII f) := fun F H x y dx dy Qd Q s rx ry h fin => by
  obtain ⟨i, j, rfl, rfl, q⟩ := hII_of h
  exact ⟨i, j, rx, ry, fin.now s q (r F i j)⟩
theorem od_iic {K : PySem.W.Frag} {C : Int → Int → Prop} {g : Int → Int → V} {f : Int → Int → D} (r : ∀ F i j, Rep K F (f i j) (g i j)) : OpD K (rI C g) (hIIc C f) := fun F H x y dx dy Qd Q s rx ry h fin => by
  obtain ⟨i, j, rfl, rfl, c, q⟩ := hIIc_of h
  exact ⟨i, j, rx, ry, c, fin.now s q (r F i j)⟩
section
variable {K : PySem.W.Frag} {X : Cx} {E : XK} {pos p : Pos} {a b c e : Expr} {es : List Expr} {ga gb gc g : GE}
abbrev hAdd := hII fun i j => .int (i + j)
abbrev hSub := hII fun i j => .int (i - j)
abbrev hMul := hIIc CMul fun i j => .int (i * j)
abbrev hDiv := hIIc CDiv fun i j => .int (i / j)
abbrev hMod := hIIc (fun _ j => 0 < j) fun i j => .int (i % j)
abbrev hPow := hIIc CPow fun i j => .int (i ^ j.toNat)
abbrev hXor := hII fun i j => .int (Builtin.bitXor i j)
abbrev hLt := hII fun i j => .bl (decide (i < j))
abbrev hLe := hII fun i j => .bl (decide (i ≤ j))
abbrev hGt := hII fun i j => .bl (decide (j < i))
abbrev hGe := hII fun i j => .bl (decide (j ≤ i))
theorem de_add (ha : DE X E a ga) (hb : DE X E b gb) : DE X E (.BinOp a .Add b pos) (gOp hAdd ga gb) := de_op op_add (od_ii fun _ _ _ => rfl) ha hb
theorem de_sub (ha : DE X E a ga) (hb : DE X E b gb) : DE X E (.BinOp a .Sub b pos) (gOp hSub ga gb) := de_op op_sub (od_ii fun _ _ _ => rfl) ha hb
theorem de_mul (ha : DE X E a ga) (hb : DE X E b gb) : DE X E (.BinOp a .Mult b pos) (gOp hMul ga gb) := de_op op_mul (od_iic fun _ _ _ => rfl) ha hb
theorem de_mod (ha : DE X E a ga) (hb : DE X E b gb) : DE X E (.BinOp a .Mod b pos) (gOp hMod ga gb) := de_op op_mod (od_iic fun _ _ _ => rfl) ha hb
theorem dt_lt (ha : DE X E a ga) (hb : DE X E b gb) : DT X E (.Compare a [.Lt] [b] pos) (gTest (gOp hLt ga gb)) := dt_cmp op_lt (od_ii fun _ _ _ => rfl) ha hb (nomark _)
theorem dt_gt (ha : DE X E a ga) (hb : DE X E b gb) : DT X E (.Compare a [.Gt] [b] pos) (gTest (gOp hGt ga gb)) := dt_cmp op_gt (od_ii fun _ _ _ => rfl) ha hb (nomark _)
theorem de_lele (ha : DE X E a ga) (hb : DE X E b gb) (hc : DE X E c gc) (hm : lastMarks [.LtE, .LtE] [b, c] = false := by rfl) : DE X E (.Compare a [.LtE, .LtE] [b, c] pos) (gChain hLe hLe ga gb gc) := de_chain op_le (od_ii fun _ _ _ => rfl) op_le (od_ii fun _ _ _ => rfl) ha hb hc hm
mutual
def eqD : D → D → Bool
  | .lst as, d => match d with
    | .lst bs => eqDs as bs
    | _ => false
  | .tup as, d => match d with
    | .tup bs => eqDs as bs
    | _ => false
  | .non, d => match d with
    | .non => true
    | _ => false
  | .bl a, d => match d with
    | .bl b => a == b
    | .int b => (if a then 1 else 0) == b
    | _ => false
  | .int a, d => match d with
    | .bl b => a == (if b then 1 else 0)
    | .int b => a == b
    | _ => false
  | .str a, d => match d with
    | .str b => a == b
    | _ => false
  | _, _ => false
def eqDs : List D → List D → Bool
  | [], bs => match bs with
    | [] => true
    | _ => false
  | a :: as, bs => match bs with
    | [] => false
    | b :: bs => eqD a b && eqDs as bs
end
mutual
def okD : D → Bool
  | .lst as => okDs as
  | .tup as => okDs as
  | .scr _ => false
  | .kt _ => false
  | .dtt _ _ => false
  | _ => true
def okDs : List D → Bool
  | [] => true
  | a :: as => okD a && okDs as
end
mutual
def hiD : D → Nat
  | .lst as => hiDs as + 1
  | .tup as => hiDs as + 1
  | _ => 0
def hiDs : List D → Nat
  | [] => 0
  | a :: as => max (hiD a) (hiDs as)
end
theorem eqDs_all : ∀ (as bs : List D), eqDs as bs = (as.length == bs.length && (List.range as.length).all fun j => eqD (as.getD j .non) (bs.getD j .non))
  | [], [] => rfl
  | [], _ :: _ => rfl
  | _ :: _, [] => rfl
  | a :: as, b :: bs => by
    rw [show eqDs (a :: as) (b :: bs) = (eqD a b && eqDs as bs) from rfl, eqDs_all as bs, List.length_cons, List.length_cons, List.range_succ_eq_map, List.all_cons, List.all_map, Bool.eq_iff_iff]
    simp only [Bool.and_eq_true, beq_iff_eq, Nat.add_right_cancel_iff, List.all_eq_true, Function.comp]
    constructor
    · rintro ⟨h1, h2, h3⟩
      exact ⟨h2, h1, h3⟩
    · rintro ⟨h2, h1, h3⟩
      exact ⟨h1, h2, h3⟩
theorem okDs_get : ∀ {as : List D} {j : Nat} {d : D}, okDs as = true → as[j]? = some d → okD d = true
  | [], j, d, _, e => by simp at e
  | a :: as, 0, d, h, e => by
    cases Option.some.inj e
    rw [show okDs (a :: as) = (okD a && okDs as) from rfl, Bool.and_eq_true] at h
    exact h.1
  | a :: as, j + 1, d, h, e => by
    rw [show okDs (a :: as) = (okD a && okDs as) from rfl, Bool.and_eq_true] at h
    exact okDs_get h.2 e
theorem hiDs_get : ∀ {as : List D} {j : Nat} {d : D}, as[j]? = some d → hiD d ≤ hiDs as
  | [], j, d, e => by simp at e
  | a :: as, 0, d, e => by
    cases Option.some.inj e
    exact Nat.le_max_left _ _
  | a :: as, j + 1, d, e => Nat.le_trans (hiDs_get (as := as) (j := j) e) (Nat.le_max_right _ _)
mutual
theorem eqD_refl : ∀ (d : D), okD d = true → eqD d d = true
  | .non, _ => rfl
  | .bl b, _ => by cases b <;> rfl
  | .int i, _ => by show (i == i) = true; simp
  | .str x, _ => by show (x == x) = true; simp
  | .lst as, h => eqDs_refl as h
  | .tup as, h => eqDs_refl as h
theorem eqDs_refl : ∀ (as : List D), okDs as = true → eqDs as as = true
  | [], _ => rfl
  | a :: as, h => by
    rw [show okDs (a :: as) = (okD a && okDs as) from rfl, Bool.and_eq_true] at h
    show (eqD a a && eqDs as as) = true
    rw [eqD_refl a h.1, eqDs_refl as h.2]
    rfl
end
theorem okDs_ints : ∀ (ns : List Int), okDs (ns.map D.int) = true
  | [] => rfl
  | n :: ns => okDs_ints ns
theorem hiDs_ints : ∀ (ns : List Int), hiDs (ns.map D.int) = 0
  | [] => rfl
  | n :: ns => by show max 0 (hiDs (ns.map D.int)) = 0; rw [hiDs_ints ns]; rfl
mutual
theorem Rep.inj {F : Hp} : ∀ (d d' : D) {v : V}, okD d = true → okD d' = true → Rep K F d v → Rep K F d' v → d = d'
  | .non, d', v, _, o, h, h' => by
    cases (show v = .non from h)
    cases d' <;> first | rfl | (cases h' ; done) | (obtain ⟨_, _, e, _⟩ := h'; cases e) | cases o
  | .bl b, d', v, _, o, h, h' => by
    cases (show v = .bl b from h)
    cases d' <;> first | (cases h'; rfl) | (cases h' ; done) | (obtain ⟨_, _, e, _⟩ := h'; cases e) | cases o
  | .int i, d', v, _, o, h, h' => by
    cases (show v = .int i from h)
    cases d' <;> first | (cases h'; rfl) | (cases h' ; done) | (obtain ⟨_, _, e, _⟩ := h'; cases e) | cases o
  | .str x, d', v, _, o, h, h' => by
    cases (show v = .str x from h)
    cases d' <;> first | (cases h'; rfl) | (cases h' ; done) | (obtain ⟨_, _, e, _⟩ := h'; cases e) | cases o
  | .lst ds, d', v, k, o, ⟨a, xs, e, hF, r⟩, h' => by
    subst e
    cases d' with
    | lst es =>
      obtain ⟨a', xs', e', hF', r'⟩ := h'
      cases e'
      rw [hF] at hF'
      cases hF'
      rw [Reps.inj ds es k o r r']
    | tup es =>
      obtain ⟨a', xs', e', hF', r'⟩ := h'
      cases e'
      rw [hF] at hF'
      cases hF'
    | _ => first | exact absurd (show false = true from o) Bool.false_ne_true | (cases h'; done)
  | .tup ds, d', v, k, o, ⟨a, xs, e, hF, r⟩, h' => by
    subst e
    cases d' with
    | tup es =>
      obtain ⟨a', xs', e', hF', r'⟩ := h'
      cases e'
      rw [hF] at hF'
      cases hF'
      rw [Reps.inj ds es k o r r']
    | lst es =>
      obtain ⟨a', xs', e', hF', r'⟩ := h'
      cases e'
      rw [hF] at hF'
      cases hF'
    | _ => first | exact absurd (show false = true from o) Bool.false_ne_true | (cases h'; done)
theorem Reps.inj {F : Hp} : ∀ (ds es : List D) {xs : List V}, okDs ds = true → okDs es = true → Reps K F ds xs → Reps K F es xs → ds = es
  | [], es, xs, _, _, h, h' => by
    rw [show xs = [] from h] at h'
    cases es with
    | nil => rfl
    | cons e es => obtain ⟨_, _, z, _⟩ := h'; cases z
  | d :: ds, es, xs, k, o, ⟨x, r, e, h1, h2⟩, h' => by
    subst e
    rw [show okDs (d :: ds) = (okD d && okDs ds) from rfl, Bool.and_eq_true] at k
    cases es with
    | nil => cases h'
    | cons e es =>
      obtain ⟨y, r', z, h3, h4⟩ := h'
      cases z
      rw [show okDs (e :: es) = (okD e && okDs es) from rfl, Bool.and_eq_true] at o
      rw [Rep.inj d e k.1 o.1 h1 h3, Reps.inj ds es k.2 o.2 h2 h4]
end
end
end L2
namespace L2
open PySem PySem.Spec PyProof.Rows
mutual
def cmpD : D → D → Bool
  | .lst as, d => match d with
    | .lst bs => as.length != bs.length || cmpDs as bs
    | _ => false
  | .tup as, d => match d with
    | .tup bs => cmpDs as bs
    | _ => false
  | .scr _, _ => false
  | .kt _, _ => false
  | .dtt _ _, _ => false
  | _, d => match d with
    | .lst _ => false
    | .tup _ => false
    | .scr _ => false
    | .kt _ => false
    | .dtt _ _ => false
    | _ => true
def cmpDs : List D → List D → Bool
  | [], _ => true
  | a :: as, bs => match bs with
    | [] => true
    | b :: bs => cmpD a b && cmpDs as bs
end
theorem cmpDs_get : ∀ {as bs : List D} {j : Nat} {a b : D}, cmpDs as bs = true → as[j]? = some a → bs[j]? = some b → cmpD a b = true
  | [], _, j, a, b, _, e, _ => by simp at e
  | _ :: _, [], j, a, b, _, _, e => by simp at e
  | x :: as, y :: bs, 0, a, b, h, e1, e2 => by
    cases Option.some.inj e1
    cases Option.some.inj e2
    rw [show cmpDs (x :: as) (y :: bs) = (cmpD x y && cmpDs as bs) from rfl, Bool.and_eq_true] at h
    exact h.1
  | x :: as, y :: bs, j + 1, a, b, h, e1, e2 => by
    rw [show cmpDs (x :: as) (y :: bs) = (cmpD x y && cmpDs as bs) from rfl, Bool.and_eq_true] at h
    exact cmpDs_get h.2 e1 e2
theorem cmpDs_ints : ∀ (ns ms : List Int), cmpDs (ns.map D.int) (ms.map D.int) = true
  | [], _ => rfl
  | _ :: _, [] => rfl
  | n :: ns, m :: ms => by show (true && cmpDs (ns.map D.int) (ms.map D.int)) = true; rw [cmpDs_ints ns ms]; rfl
def flatD : D → Bool
  | .lst _ => false
  | .tup _ => false
  | .scr _ => false
  | .kt _ => false
  | .dtt _ _ => false
  | _ => true
theorem flat_eq {K : PySem.W.Frag} {F : Hp} {d d' : D} {x y : V} (f : flatD d = true) (f' : flatD d' = true) (r : Rep K F d x) (r' : Rep K F d' y) : flatV x = true ∧ flatV y = true ∧ eqV x y = eqD d d' := by
  cases d <;> first | exact absurd (show false = true from f) Bool.false_ne_true | (cases (show x = _ from r); cases d' <;> first | exact absurd (show false = true from f') Bool.false_ne_true | (cases (show y = _ from r'); exact ⟨rfl, rfl, rfl⟩))
theorem all_min (as bs : List D) : eqDs as bs = ((List.range (min as.length bs.length)).all (fun j => eqD (as.getD j .non) (bs.getD j .non)) && as.length == bs.length) := by
  rw [eqDs_all, Bool.and_comm, Bool.eq_iff_iff]
  simp only [Bool.and_eq_true, beq_iff_eq]
  constructor
  · rintro ⟨h1, h2⟩
    rw [← h2, Nat.min_self]
    exact ⟨h1, rfl⟩
  · rintro ⟨h1, h2⟩
    rw [← h2, Nat.min_self] at h1
    exact ⟨h1, h2⟩
section
variable {X : Cx} {F H : Hp}
theorem getD_some {as : List D} {j : Nat} {d : D} (h : as[j]? = some d) : as.getD j .non = d := by
  rw [List.getD_eq_getElem?_getD, h]
  rfl
theorem eqV_D (sm : Same F H) : ∀ (n : Nat) (A : Around) (d d' : D) (x y : V), hiD d ≤ n → A.units + n < cLine → okD d = true → okD d' = true → cmpD d d' = true → Rep X.K F d x → Rep X.K F d' y → EqV X A H x y (eqD d d')
  | n, A, .lst as, d', x, y, hn, hu, o, o', c, r, r' => by
    cases d' with
    | lst bs =>
      obtain ⟨a, xs, rfl, hF, rs⟩ := r
      obtain ⟨b, ys, rfl, hF', rs'⟩ := r'
      have l1 := rs.length
      have l2 := rs'.length
      have hn' : hiDs as + 1 ≤ n := hn
      have e := EqV.lst (X := X) (A := A) (H := H) (a := a) (b := b) (xs := xs) (ys := ys) (e := fun j => eqD (as.getD j .non) (bs.getD j .non)) (by omega) (SqL.of (sm _ _ hF)) (SqL.of (sm _ _ hF')) (fun hl j u v hu1 hv1 => ?_) (fun ab => ?_)
      · rw [show eqD (.lst as) (.lst bs) = eqDs as bs from rfl, eqDs_all, ← l1, ← l2]
        exact e
      · obtain ⟨du, e1, ru⟩ := rs.get' hu1
        obtain ⟨dv, e2, rv⟩ := rs'.get' hv1
        rw [getD_some e1, getD_some e2]
        have c' : (as.length != bs.length || cmpDs as bs) = true := c
        rw [show (as.length != bs.length) = false by simp; omega, Bool.false_or] at c'
        have hd := hiDs_get e1
        exact eqV_D sm (n - 1) A.in1 du dv u v (by omega) (by show _ + 1 + _ < _; omega) (okDs_get o e1) (okDs_get o' e2) (cmpDs_get c' e1 e2) ru rv
      · subst ab
        rw [hF] at hF'
        cases hF'
        have z := Reps.inj as bs o o' rs rs'
        subst z
        have w := eqDs_refl as o
        rw [eqDs_all, ← l1] at w
        exact w
    | _ => cases c
  | n, A, .tup as, d', x, y, hn, hu, o, o', c, r, r' => by
    cases d' with
    | tup bs =>
      obtain ⟨a, xs, rfl, hF, rs⟩ := r
      obtain ⟨b, ys, rfl, hF', rs'⟩ := r'
      have l1 := rs.length
      have l2 := rs'.length
      have hn' : hiDs as + 1 ≤ n := hn
      have e := EqV.tup (X := X) (A := A) (H := H) (a := a) (b := b) (xs := xs) (ys := ys) (e := fun j => eqD (as.getD j .non) (bs.getD j .non)) (by omega) (SqT.of (sm _ _ hF)) (SqT.of (sm _ _ hF')) (fun j u v hu1 hv1 => ?_) (fun ab => ?_)
      · rw [show eqD (.tup as) (.tup bs) = eqDs as bs from rfl, all_min, ← l1, ← l2]
        exact e
      · obtain ⟨du, e1, ru⟩ := rs.get' hu1
        obtain ⟨dv, e2, rv⟩ := rs'.get' hv1
        rw [getD_some e1, getD_some e2]
        have hd := hiDs_get e1
        exact eqV_D sm (n - 1) A.in1 du dv u v (by omega) (by show _ + 1 + _ < _; omega) (okDs_get o e1) (okDs_get o' e2) (cmpDs_get c e1 e2) ru rv
      · subst ab
        rw [hF] at hF'
        cases hF'
        have z := Reps.inj as bs o o' rs rs'
        subst z
        have w := eqDs_refl as o
        rw [all_min, ← l1] at w
        exact w
    | _ => cases c
  | n, A, .non, d', x, y, hn, hu, o, o', c, r, r' => by
    obtain ⟨f1, f2, e⟩ := flat_eq (d := .non) (d' := d') rfl (by cases d' <;> first | rfl | cases c) r r'
    rw [← e]
    exact EqV.flat f1 f2
  | n, A, .bl k, d', x, y, hn, hu, o, o', c, r, r' => by
    obtain ⟨f1, f2, e⟩ := flat_eq (d := .bl k) (d' := d') rfl (by cases d' <;> first | rfl | cases c) r r'
    rw [← e]
    exact EqV.flat f1 f2
  | n, A, .int k, d', x, y, hn, hu, o, o', c, r, r' => by
    obtain ⟨f1, f2, e⟩ := flat_eq (d := .int k) (d' := d') rfl (by cases d' <;> first | rfl | cases c) r r'
    rw [← e]
    exact EqV.flat f1 f2
  | n, A, .str k, d', x, y, hn, hu, o, o', c, r, r' => by
    obtain ⟨f1, f2, e⟩ := flat_eq (d := .str k) (d' := d') rfl (by cases d' <;> first | rfl | cases c) r r'
    rw [← e]
    exact EqV.flat f1 f2
  termination_by n => n
  decreasing_by all_goals simp_wf; omega
def rEqD (K : PySem.W.Frag) (neg : Bool) : R2 := fun x y H Q => ∃ F as bs, ∃ t : Bool, Same F H ∧ okDs as = true ∧ okDs bs = true ∧ hiDs as ≤ 40 ∧
  (if t then cmpD (.tup as) (.tup bs) = true ∧ Rep K F (.tup as) x ∧ Rep K F (.tup bs) y else cmpD (.lst as) (.lst bs) = true ∧ Rep K F (.lst as) x ∧ Rep K F (.lst bs) y) ∧ Q (.bl (if neg then !eqDs as bs else eqDs as bs)) H
theorem op_eqD (hu : X.A.units + 64 < cLine) : OpR X (compareOp .Eq) (rEqD X.K false) := by
  intro pins s σ H x y v u Q I rx ry h
  obtain ⟨F, as, bs, t, sm, o1, o2, hi, h, q⟩ := h
  cases t with
  | true =>
    rw [if_pos rfl] at h
    obtain ⟨c, ⟨a, xs, rfl, hF, rs⟩, ⟨b, ys, rfl, hF', rs'⟩⟩ := h
    cases rx
    cases ry
    have l1 := rs.length
    have l2 := rs'.length
    obtain ⟨its, r1, p1, _⟩ := I.tuple (SqT.of (sm _ _ hF))
    obtain ⟨its2, r2, p2, _⟩ := I.tuple (SqT.of (sm _ _ hF'))
    have z := SeqAt.RcAt.tuples (A := X.A) (e := fun j => eqD (as.getD j .non) (bs.getD j .non)) p1 p2 (by omega) fun j h1 h2 => by
      have m1 : j < its.length := by simpa using h1
      have m2 : j < its2.length := by simpa using h2
      obtain ⟨x, hx, rx⟩ := r1.getE m1
      obtain ⟨y, hy, ry⟩ := r2.getE m2
      rw [show its.toArray[j] = its[j] by simp, show its2.toArray[j] = its2[j] by simp]
      obtain ⟨du, e1, ru⟩ := rs.get' hx
      obtain ⟨dv, e2, rv⟩ := rs'.get' hy
      rw [getD_some e1, getD_some e2]
      exact eqV_D sm 40 X.A.in1 du dv x y (Nat.le_trans (hiDs_get e1) hi) (by show _ + 1 + _ < _; omega) (okDs_get o1 e1) (okDs_get o2 e2) (cmpDs_get c e1 e2) ru rv pins σ s _ _ I rx ry
    rw [List.size_toArray, List.size_toArray, ← r1.length, ← r2.length, l1, l2, ← all_min] at z
    exact z X.prog X.w X.xe _ ⟨.bl _, H, I, rfl, q⟩
  | false =>
    rw [if_neg Bool.false_ne_true] at h
    obtain ⟨c, ⟨a, xs, rfl, hF, rs⟩, ⟨b, ys, rfl, hF', rs'⟩⟩ := h
    cases rx
    cases ry
    have l1 := rs.length
    have l2 := rs'.length
    have z := RcV.lst (A := X.A) (e := fun j => eqD (as.getD j .non) (bs.getD j .non)) I (by omega) (SqL.of (sm _ _ hF)) (SqL.of (sm _ _ hF')) fun hl j x y hx hy => by
      obtain ⟨du, e1, ru⟩ := rs.get' hx
      obtain ⟨dv, e2, rv⟩ := rs'.get' hy
      rw [getD_some e1, getD_some e2]
      have c' : (as.length != bs.length || cmpDs as bs) = true := c
      rw [show (as.length != bs.length) = false by simp; omega, Bool.false_or] at c'
      exact eqV_D sm 40 X.A.in1 du dv x y (Nat.le_trans (hiDs_get e1) hi) (by show _ + 1 + _ < _; omega) (okDs_get o1 e1) (okDs_get o2 e2) (cmpDs_get c' e1 e2) ru rv
    rw [l1, l2, ← eqDs_all] at z
    exact z X.prog X.w X.xe _ ⟨.bl _, H, I, rfl, q⟩
theorem op_neD (hu : X.A.units + 64 < cLine) : OpR X (compareOp .NotEq) (rEqD X.K true) := by
  intro pins s σ H x y v u Q I rx ry h
  obtain ⟨F, as, bs, t, sm, o1, o2, hi, h, q⟩ := h
  cases t with
  | true =>
    rw [if_pos rfl] at h
    obtain ⟨c, ⟨a, xs, rfl, hF, rs⟩, ⟨b, ys, rfl, hF', rs'⟩⟩ := h
    cases rx
    cases ry
    have l1 := rs.length
    have l2 := rs'.length
    obtain ⟨its, r1, p1, _⟩ := I.tuple (SqT.of (sm _ _ hF))
    obtain ⟨its2, r2, p2, _⟩ := I.tuple (SqT.of (sm _ _ hF'))
    have z := SeqAt.RcNeAt.tuples (A := X.A) (e := fun j => eqD (as.getD j .non) (bs.getD j .non)) p1 p2 (by omega) fun j h1 h2 => by
      have m1 : j < its.length := by simpa using h1
      have m2 : j < its2.length := by simpa using h2
      obtain ⟨x, hx, rx⟩ := r1.getE m1
      obtain ⟨y, hy, ry⟩ := r2.getE m2
      rw [show its.toArray[j] = its[j] by simp, show its2.toArray[j] = its2[j] by simp]
      obtain ⟨du, e1, ru⟩ := rs.get' hx
      obtain ⟨dv, e2, rv⟩ := rs'.get' hy
      rw [getD_some e1, getD_some e2]
      exact eqV_D sm 40 X.A.in1 du dv x y (Nat.le_trans (hiDs_get e1) hi) (by show _ + 1 + _ < _; omega) (okDs_get o1 e1) (okDs_get o2 e2) (cmpDs_get c e1 e2) ru rv pins σ s _ _ I rx ry
    rw [List.size_toArray, List.size_toArray, ← r1.length, ← r2.length, l1, l2, ← all_min] at z
    exact z X.prog X.w X.xe _ ⟨.bl _, H, I, rfl, q⟩
  | false =>
    rw [if_neg Bool.false_ne_true] at h
    obtain ⟨c, ⟨a, xs, rfl, hF, rs⟩, ⟨b, ys, rfl, hF', rs'⟩⟩ := h
    cases rx
    cases ry
    have l1 := rs.length
    have l2 := rs'.length
    obtain ⟨its, r1, p1, _⟩ := I.list (SqL.of (sm _ _ hF))
    obtain ⟨its2, r2, p2, _⟩ := I.list (SqL.of (sm _ _ hF'))
    have m1 := r1.length
    have m2 := r2.length
    by_cases hl : xs.length = ys.length
    · have z := SeqAt.RcNeAt.lists (A := X.A) (e := fun j => eqD (as.getD j .non) (bs.getD j .non)) p1.isList p2.isList (by rw [List.size_toArray, List.size_toArray]; omega) (by omega) fun j h1 h2 => by
        have m1 : j < its.length := by simpa using h1
        have m2 : j < its2.length := by simpa using h2
        obtain ⟨x, hx, rx⟩ := r1.getE m1
        obtain ⟨y, hy, ry⟩ := r2.getE m2
        rw [show its.toArray[j] = its[j] by simp, show its2.toArray[j] = its2[j] by simp]
        obtain ⟨du, e1, ru⟩ := rs.get' hx
        obtain ⟨dv, e2, rv⟩ := rs'.get' hy
        rw [getD_some e1, getD_some e2]
        have c' : (as.length != bs.length || cmpDs as bs) = true := c
        rw [show (as.length != bs.length) = false by simp; omega, Bool.false_or] at c'
        exact eqV_D sm 40 X.A.in1 du dv x y (Nat.le_trans (hiDs_get e1) hi) (by show _ + 1 + _ < _; omega) (okDs_get o1 e1) (okDs_get o2 e2) (cmpDs_get c' e1 e2) ru rv pins σ s _ _ I rx ry
      have e : ((List.range its.toArray.size).all fun j => eqD (as.getD j .non) (bs.getD j .non)) = eqDs as bs := by
        rw [eqDs_all, List.size_toArray, ← m1, l1, show (as.length == bs.length) = true by simp; omega, Bool.true_and]
      rw [e] at z
      exact z X.prog X.w X.xe _ ⟨.bl _, H, I, rfl, q⟩
    · have e : eqDs as bs = false := by
        rw [eqDs_all, show (as.length == bs.length) = false by simp; omega, Bool.false_and]
      have z := SeqAt.RcNeAt.lists_lengths (A := X.A) p1.isList p2.isList (by rw [List.size_toArray, List.size_toArray, ← m1, ← m2]; simp [hl]) (by omega)
      refine z X.prog X.w X.xe _ ⟨.bl true, H, I, rfl, ?_⟩
      rw [e] at q
      exact q
def hEq (neg : Bool) (a b : D) (Q : D → Prop) : Prop := match a, b with
  | .int i, .int j => Q (.bl (if neg then !decide (i = j) else decide (i = j)))
  | .bl i, .bl j => Q (.bl (if neg then !decide (i = j) else decide (i = j)))
  | .str i, .str j => Q (.bl (if neg then !decide (i = j) else decide (i = j)))
  | .lst as, .lst bs => okDs as = true ∧ okDs bs = true ∧ hiDs as ≤ 40 ∧ cmpD (.lst as) (.lst bs) = true ∧ Q (.bl (if neg then !eqDs as bs else eqDs as bs))
  | .tup as, .tup bs => okDs as = true ∧ okDs bs = true ∧ hiDs as ≤ 40 ∧ cmpD (.tup as) (.tup bs) = true ∧ Q (.bl (if neg then !eqDs as bs else eqDs as bs))
  | _, _ => False
theorem dec_i {i j : Int} : decide (V.int i = V.int j) = decide (i = j) := by
  rw [Bool.eq_iff_iff, decide_eq_true_iff, decide_eq_true_iff]; exact ⟨fun h => V.int.inj h, fun h => by rw [h]⟩
theorem dec_b {i j : Bool} : decide (V.bl i = V.bl j) = decide (i = j) := by
  rw [Bool.eq_iff_iff, decide_eq_true_iff, decide_eq_true_iff]; exact ⟨fun h => V.bl.inj h, fun h => by rw [h]⟩
theorem dec_s {i j : Str} : decide (V.str i = V.str j) = decide (i = j) := by
  rw [Bool.eq_iff_iff, decide_eq_true_iff, decide_eq_true_iff]; exact ⟨fun h => V.str.inj h, fun h => by rw [h]⟩
theorem od_eq {K : PySem.W.Frag} : OpD K (fun x y H Q => rEq x y H Q ∨ rEqD K false x y H Q) (hEq false) := fun F H x y dx dy Qd Q s rx ry h fin => by
  unfold hEq at h
  split at h
  · cases (show x = _ from rx); cases (show y = _ from ry)
    exact .inl ⟨rfl, by rw [dec_i]; exact fin.now s h rfl⟩
  · cases (show x = _ from rx); cases (show y = _ from ry)
    exact .inl ⟨rfl, by rw [dec_b]; exact fin.now s h rfl⟩
  · cases (show x = _ from rx); cases (show y = _ from ry)
    exact .inl ⟨rfl, by rw [dec_s]; exact fin.now s h rfl⟩
  · obtain ⟨o1, o2, hi, c, q⟩ := h
    exact .inr ⟨F, _, _, false, s, o1, o2, hi, by rw [if_neg Bool.false_ne_true]; exact ⟨c, rx, ry⟩, fin.now s q rfl⟩
  · obtain ⟨o1, o2, hi, c, q⟩ := h
    exact .inr ⟨F, _, _, true, s, o1, o2, hi, by rw [if_pos rfl]; exact ⟨c, rx, ry⟩, fin.now s q rfl⟩
  · exact h.elim
theorem od_ne {K : PySem.W.Frag} : OpD K (fun x y H Q => rNe x y H Q ∨ rEqD K true x y H Q) (hEq true) := fun F H x y dx dy Qd Q s rx ry h fin => by
  unfold hEq at h
  split at h
  · cases (show x = _ from rx); cases (show y = _ from ry)
    exact .inl ⟨rfl, by rw [dec_i]; exact fin.now s h rfl⟩
  · cases (show x = _ from rx); cases (show y = _ from ry)
    exact .inl ⟨rfl, by rw [dec_b]; exact fin.now s h rfl⟩
  · cases (show x = _ from rx); cases (show y = _ from ry)
    exact .inl ⟨rfl, by rw [dec_s]; exact fin.now s h rfl⟩
  · obtain ⟨o1, o2, hi, c, q⟩ := h
    exact .inr ⟨F, _, _, false, s, o1, o2, hi, by rw [if_neg Bool.false_ne_true]; exact ⟨c, rx, ry⟩, fin.now s q rfl⟩
  · obtain ⟨o1, o2, hi, c, q⟩ := h
    exact .inr ⟨F, _, _, true, s, o1, o2, hi, by rw [if_pos rfl]; exact ⟨c, rx, ry⟩, fin.now s q rfl⟩
  · exact h.elim
variable {E : XK} {pos p : Pos} {a b c e : Expr} {es : List Expr} {ga gb gc g : GE}
theorem de_eq (hu : X.A.units + 64 < cLine) (ha : DE X E a ga) (hb : DE X E b gb) : DE X E (.Compare a [.Eq] [b] pos) (gOp (hEq false) ga gb) := de_cmp (op_eq.or (op_eqD hu)) od_eq ha hb (nomark _)
theorem dt_eq (hu : X.A.units + 64 < cLine) (ha : DE X E a ga) (hb : DE X E b gb) : DT X E (.Compare a [.Eq] [b] pos) (gTest (gOp (hEq false) ga gb)) := dt_cmp (op_eq.or (op_eqD hu)) od_eq ha hb (nomark _)
theorem dt_ne (hu : X.A.units + 64 < cLine) (ha : DE X E a ga) (hb : DE X E b gb) : DT X E (.Compare a [.NotEq] [b] pos) (gTest (gOp (hEq true) ga gb)) := dt_cmp (op_ne.or (op_neD hu)) od_ne ha hb (nomark _)
end
end L2
namespace L2
open PySem PySem.Spec PyProof.Rows
theorem atI_rep {K : PySem.W.Frag} {F : Hp} {ds : List D} {xs : List V} {i : Int} {d : D} (r : Reps K F ds xs) (h : atI ds i = some d) : ∃ x, atI xs i = some x ∧ Rep K F d x := by
  unfold atI at h ⊢
  rw [r.length]
  cases q : ixN ds.length i with
  | none => rw [q] at h; cases h
  | some j =>
    rw [q] at h
    have h : ds[j]? = some d := h
    obtain ⟨x, hx, rx⟩ := r.get h
    exact ⟨x, hx, rx⟩
def hIx (a b : D) (Q : D → Prop) : Prop := match a, b with
  | .lst ds, .int i => ∃ d, atI ds i = some d ∧ Q d
  | .tup ds, .int i => ∃ d, atI ds i = some d ∧ Q d
  | .scr ns, .int i => ∃ n, atI ns i = some n ∧ Q (.int n)
  | _, _ => False
theorem atI_map {α β : Type} {f : α → β} {xs : List α} {i : Int} {x : α} (h : atI xs i = some x) : atI (xs.map f) i = some (f x) := by
  unfold atI at h ⊢
  rw [List.length_map]
  cases q : ixN xs.length i with
  | none => rw [q] at h; cases h
  | some j =>
    rw [q] at h
    have h : xs[j]? = some x := h
    show (xs.map f)[j]? = some (f x)
    rw [List.getElem?_map, h]
    rfl
theorem od_ix {K : PySem.W.Frag} : OpD K (rIx K) hIx := fun F H x y dx dy Qd Q s rx ry h fin => by
  unfold hIx at h
  split at h
  · obtain ⟨d, hd, q⟩ := h
    obtain ⟨a, xs, rfl, hF, r⟩ := rx
    obtain ⟨v, hv, rv⟩ := atI_rep r hd
    exact .inl ⟨a, xs, _, v, rfl, ry, SqL.of (s _ _ hF), hv, fin.now s q rv⟩
  · obtain ⟨d, hd, q⟩ := h
    obtain ⟨a, xs, rfl, hF, r⟩ := rx
    obtain ⟨v, hv, rv⟩ := atI_rep r hd
    exact .inr (.inl ⟨a, xs, _, v, rfl, ry, SqT.of (s _ _ hF), hv, fin.now s q rv⟩)
  · obtain ⟨n, hn, q⟩ := h
    obtain ⟨a, rfl, hq⟩ := rx
    exact .inl ⟨a, _, _, .int n, rfl, ry, s.seq hq, atI_map hn, fin.now s q rfl⟩
  · exact h.elim
section
variable {X : Cx} {E : XK} {pos p : Pos} {a b c e : Expr} {es : List Expr} {ga gb gc g : GE}
theorem de_at (ha : DE X E a ga) (hb : DE X E b gb) (hs : PlainIx b := by exact fun _ _ => rfl) : DE X E (.Subscript a b pos) (gOp hIx ga gb) := de_ix ix_seq od_ix ha hb hs
def CallD (K : PySem.W.Frag) (r : List V → Hp → VK → Prop) (h : List D → (D → Prop) → Prop) : Prop := ∀ F H vs ds Qd Q, Same F H → Reps K F ds vs → h ds Qd → Fin1 K F H Qd Q → r vs H Q
def gCB (h : List D → (D → Prop) → Prop) (ga : GA) : GE := fun env Ex Q => ga env Ex fun ds => h ds Q
theorem liftC {r : List V → Hp → VK → Prop} {h : List D → (D → Prop) → Prop} {ga : GA} (o : CallD X.K r h) : ∀ σ H Q, DTE X.K E (gCB h ga) σ H Q → tCB r (DTA X.K E ga) σ H Q :=
  fun σ H Q ⟨F, env, Ex, Qd, s, sl, ex, q, fin⟩ => ⟨F, env, Ex, _, s, sl, ex, q, fun ds vs F1 H1 q1 g1 r1 => o F1 H1 vs ds Qd Q g1.sub r1 q1 (fin.step g1)⟩
theorem de_callB {id : String} {x : Str} {r : List V → Hp → VK → Prop} {h : List D → (D → Prop) → Prop} {ga : GA} (hc : CallR X (.builtin id) r) (o : CallD X.K r h) (hg : Gl X x) (hm : X.mg x = none) (hv : bootBuiltins x = some (.builtin id)) (ha : DA X E (e :: es) ga)
    (hn : x ≠ "__name__" := by decide) (hdb : (x == ("__debug__" : Str)) = false := by decide) (he : starEach (e :: es) X.env = (false, eval e X.env) :: starEach es X.env := by rfl) (hpl : (backTo pos (starEach es X.env)).any (·.1) = false := by rfl) :
    DE X E (.Call (.Name x p) (e :: es) [] pos) (gCB h ga) := ⟨PE.weak (pe_callB hc hg hm hv ha.h hn hdb he hpl) (liftC o)⟩
def FinF (K : PySem.W.Frag) (F H : Hp) (Qd : List D → Prop) (Q : VK) : Prop := ∀ ds a xs F' H', Qd ds → Grow F H F' H' → F' a = none → H a = none → H' a = some (.lst xs) → Reps K F' ds xs → Q (.ref a) H'
theorem FinF.step {K : PySem.W.Frag} {F H F' H' : Hp} {Qd : List D → Prop} {Q : VK} (h : FinF K F H Qd Q) (g : Grow F H F' H') : FinF K F' H' Qd Q := fun ds a xs F2 H2 q g2 f n l r => h ds a xs F2 H2 q (g.trans g2) f (g.hh.free n) l r
theorem FinF.now {K : PySem.W.Frag} {F H : Hp} {Qd : List D → Prop} {Q : VK} {ds : List D} {xs : List V} (h : FinF K F H Qd Q) (s : Same F H) (q : Qd ds) (r : Reps K F ds xs) : ∀ l, H l = none → Q (.ref l) (upd H l (.lst xs)) :=
  fun l hl => h ds l xs F _ q (Grow.keep s hl) (s.free hl) hl upd_same r
def CallF (K : PySem.W.Frag) (r : List V → Hp → VK → Prop) (h : List D → (List D → Prop) → Prop) : Prop := ∀ F H vs ds Qd Q, Same F H → Reps K F ds vs → h ds Qd → FinF K F H Qd Q → r vs H Q
def gCF (h : List D → (List D → Prop) → Prop) (ga : GA) : GA := fun env Ex Q => ga env Ex fun ds => h ds Q
theorem liftCF {r : List V → Hp → VK → Prop} {h : List D → (List D → Prop) → Prop} {ga : GA} (o : CallF X.K r h) : ∀ σ H Q, DTF X.K E (gCF h ga) σ H Q → tCB r (DTA X.K E ga) σ H Q :=
  fun σ H Q ⟨F, env, Ex, Qd, s, sl, ex, q, fin⟩ => ⟨F, env, Ex, _, s, sl, ex, q, fun ds vs F1 H1 q1 g1 r1 => o F1 H1 vs ds Qd Q g1.sub r1 q1 (FinF.step fin g1)⟩
theorem df_callT {id : String} {x : Str} {r : List V → Hp → VK → Prop} {h : List D → (List D → Prop) → Prop} {ga : GA} (hc : CallR X (.type id) r) (o : CallF X.K r h) (hg : Gl X x) (hm : X.mg x = none) (hv : bootBuiltins x = some (.type id)) (ha : DA X E (e :: es) ga)
    (hn : x ≠ "__name__" := by decide) (hdb : (x == ("__debug__" : Str)) = false := by decide) (he : starEach (e :: es) X.env = (false, eval e X.env) :: starEach es X.env := by rfl) (hpl : (backTo pos (starEach es X.env)).any (·.1) = false := by rfl) :
    DF X E (.Call (.Name x p) (e :: es) [] pos) (gCF h ga) := ⟨PE.weak (pe_callTy hc hg hm hv ha.h hn hdb he hpl) (liftCF o)⟩
def hLen (ds : List D) (Q : D → Prop) : Prop := match ds with
  | [.lst xs] => Q (.int (xs.length : Nat))
  | [.tup xs] => Q (.int (xs.length : Nat))
  | [.scr xs] => Q (.int (xs.length : Nat))
  | [.str x] => x.length ≤ sizeLine ∧ Q (.int (x.length : Nat))
  | _ => False
theorem cd_len {K : PySem.W.Frag} : CallD K (fun xs H Q => ∃ x n, xs = [x] ∧ LenV K x H n ∧ Q (.int (n : Nat)) H) hLen := fun F H vs ds Qd Q s r h fin => by
  unfold hLen at h
  split at h
  · obtain ⟨x, _, rfl, ⟨a, ys, rfl, hF, rs⟩, e⟩ := r
    cases (show _ = [] from e)
    refine ⟨_, _, rfl, .inl ⟨ys, SqL.of (s _ _ hF), rfl⟩, ?_⟩
    rw [rs.length]
    exact fin.now s h rfl
  · obtain ⟨x, _, rfl, ⟨a, ys, rfl, hF, rs⟩, e⟩ := r
    cases (show _ = [] from e)
    refine ⟨_, _, rfl, .inr ⟨ys, SqT.of (s _ _ hF), rfl⟩, ?_⟩
    rw [rs.length]
    exact fin.now s h rfl
  · obtain ⟨x, _, rfl, ⟨a, rfl, hq⟩, e⟩ := r
    cases (show _ = [] from e)
    refine ⟨_, _, rfl, .inl ⟨_, s.seq hq, rfl⟩, ?_⟩
    rw [List.length_map]
    exact fin.now s h rfl
  · obtain ⟨x, _, rfl, e1, e⟩ := r
    cases (show _ = [] from e)
    cases (show x = _ from e1)
    exact ⟨_, _, rfl, ⟨h.1, rfl⟩, fin.now s h.2 rfl⟩
  · exact h.elim
theorem de_len {ga : GA} (hg : Gl X "len") (hm : X.mg "len" = none) (ha : DA X E [e] ga) (he : starEach [e] X.env = [(false, eval e X.env)] := by rfl) : DE X E (.Call (.Name "len" p) [e] [] pos) (gCB hLen ga) := de_callB call_len cd_len hg hm PySem.boot_len ha (by decide) (by decide) he rfl
def hListOf (ds : List D) (Q : List D → Prop) : Prop := match ds with
  | [.lst xs] => Q xs
  | [.tup xs] => Q xs
  | _ => False
theorem cf_list {K : PySem.W.Frag} : CallF K (fun xs H Q => ∃ p ys, xs = [.ref p] ∧ (SqL K H p ys ∨ SqT K H p ys) ∧ ∀ l, H l = none → Q (.ref l) (upd H l (.lst ys))) hListOf := fun F H vs ds Qd Q s r h fin => by
  unfold hListOf at h
  split at h
  · obtain ⟨x, _, rfl, ⟨a, ys, rfl, hF, rs⟩, e⟩ := r
    cases (show _ = [] from e)
    exact ⟨a, ys, rfl, .inl (SqL.of (s _ _ hF)), FinF.now fin s h rs⟩
  · obtain ⟨x, _, rfl, ⟨a, ys, rfl, hF, rs⟩, e⟩ := r
    cases (show _ = [] from e)
    exact ⟨a, ys, rfl, .inr (SqT.of (s _ _ hF)), FinF.now fin s h rs⟩
  · exact h.elim
theorem bt_listT : bootBuiltins "list" = some (.type "list") := by decide +kernel
theorem bt_rangeT : bootBuiltins "range" = some (.type "range") := by decide +kernel
theorem bt_sortedB : bootBuiltins "sorted" = some (.builtin "sorted") := by decide +kernel
theorem bt_isiB : bootBuiltins "isinstance" = some (.builtin "isinstance") := by decide +kernel
theorem df_list {ga : GA} (hg : Gl X "list") (hm : X.mg "list" = none) (ha : DA X E [e] ga) (he : starEach [e] X.env = [(false, eval e X.env)] := by rfl) : DF X E (.Call (.Name "list" p) [e] [] pos) (gCF hListOf ga) := df_callT call_list_of cf_list hg hm bt_listT ha (by decide) (by decide) he rfl
def intsTo (n : Nat) : List D := (List.range n).map fun (k : Nat) => D.int ((k : Nat) : Int)
inductive Ki where
  | int | bool | list | tuple | str
def Ki.nm : Ki → String
  | .int => "int" | .bool => "bool" | .list => "list" | .tuple => "tuple" | .str => "str"
def isiD (t : Ki) (d : D) : Bool := match t, d with
  | .int, .int _ => true
  | .int, .bl _ => true
  | .bool, .bl _ => true
  | .list, .lst _ => true
  | .tuple, .tup _ => true
  | .str, .str _ => true
  | _, _ => false
def hIsi (t : Ki) (d : D) (Q : D → Prop) : Prop := match d with
  | .scr _ => False
  | .kt _ => False
  | .dtt _ _ => False
  | d => Q (.bl (isiD t d))
theorem kit_ki (t : Ki) : kitPure "NoneType" t.nm = some false ∧ kitPure "bool" t.nm = some (isiD t (.bl true)) ∧ kitPure "int" t.nm = some (isiD t (.int 0)) ∧ kitPure "str" t.nm = some (isiD t (.str Str.empty)) ∧ kitPure "list" t.nm = some (isiD t (.lst [])) ∧ kitPure "tuple" t.nm = some (isiD t (.tup [])) := by
  cases t <;> exact ⟨by decide +kernel, by decide +kernel, by decide +kernel, by decide +kernel, by decide +kernel, by decide +kernel⟩
theorem bt_ki (t : Ki) : bootBuiltins (Str.ofString t.nm) = some (.type t.nm) := by cases t <;> decide +kernel
theorem de_isi (t : Ki) {q : Pos} {y : Str} (hy : y = Str.ofString t.nm) (hg : Gl X "isinstance") (hm : X.mg "isinstance" = none) (hg2 : Gl X y) (hm2 : X.mg y = none) (ha : DE X E a ga) (hn : y ≠ "__name__" := by decide) (hd : (y == ("__debug__" : Str)) = false := by decide)
    (hs : starEach [a, .Name y q] X.env = [(false, eval a X.env), (false, eval (.Name y q) X.env)] := by rfl) (hs2 : starEach [.Name y q] X.env = [(false, eval (.Name y q) X.env)] := by rfl) :
    DE X E (.Call (.Name "isinstance" p) [a, .Name y q] [] pos) (gUn (hIsi t) ga) := ⟨by
  subst hy
  refine PE.weak (pe_callB (r := fun xs H Q => ∃ x c t cv b, xs = [x, c] ∧ TyOf X.K H x t ∧ clsV c = some cv ∧ PySem.W.kitOne X.K t cv = some b ∧ Q (.bl b) H) call_isinst hg hm bt_isiB
    (pa_cons ha.h (pa_cons (pe_bltn (v := .ty t.nm) hg2 hm2 (bt_ki t) rfl hn hd) pa_nil hs2) (by rw [hs, hs2])) (by decide) (by decide) (by rw [hs, hs2]) (by rw [hs2]; rfl))
    fun σ H Q ⟨F, env, Ex, Qd, s, sl, ex, q, fin⟩ => ⟨F, env, Ex, _, s, sl, ex, q, fun d v F1 H1 q1 g1 r1 => ?_⟩
  obtain ⟨k1, k2, k3, k4, k5, k6⟩ := kit_ki t
  cases d with
  | non => cases (show v = _ from r1); exact ⟨_, _, _, _, _, rfl, .non, rfl, kit_pure k1, fin (.bl false) _ F1 H1 (by cases t <;> exact q1) g1 rfl⟩
  | bl b => cases (show v = _ from r1); exact ⟨_, _, _, _, _, rfl, .bl b, rfl, kit_pure k2, fin (.bl (isiD t (.bl true))) _ F1 H1 (by cases t <;> exact q1) g1 rfl⟩
  | int b => cases (show v = _ from r1); exact ⟨_, _, _, _, _, rfl, .int b, rfl, kit_pure k3, fin (.bl (isiD t (.int 0))) _ F1 H1 (by cases t <;> exact q1) g1 rfl⟩
  | str b => cases (show v = _ from r1); exact ⟨_, _, _, _, _, rfl, .str b, rfl, kit_pure k4, fin (.bl (isiD t (.str Str.empty))) _ F1 H1 (by cases t <;> exact q1) g1 rfl⟩
  | lst ds => obtain ⟨b, xs, rfl, hF, _⟩ := r1; exact ⟨_, _, _, _, _, rfl, .lst (g1.sub _ _ hF), rfl, kit_pure k5, fin (.bl (isiD t (.lst []))) _ F1 H1 (by cases t <;> exact q1) g1 rfl⟩
  | tup ds => obtain ⟨b, xs, rfl, hF, _⟩ := r1; exact ⟨_, _, _, _, _, rfl, .tup (g1.sub _ _ hF), rfl, kit_pure k6, fin (.bl (isiD t (.tup []))) _ F1 H1 (by cases t <;> exact q1) g1 rfl⟩
  | scr ds => exact (show False from q1).elim
  | kt ds => exact (show False from q1).elim
  | dtt ks ds => exact (show False from q1).elim⟩
def gCall (f : DSp) (ga : GA) : GE := fun env Ex Q => ga env Ex fun ds => f ds Ex Q
theorem de_call {k n : Nat} {f : Addr} {fd : FuncData} {ps : List Str} {sp : DSp} {x : Str} {ga : GA} (G : FnOk X.prog X.w X.K X.mg X.base (CXx X.prog X.w) k f fd ps (dSp X.K n sp)) (hr : Room k X.A) (hg : Gl X x) (hm : X.mg x = some (.ref f)) (hk : PySem.W.keepIn X.K (.ref f) = true)
    (hb : Binds X.K fd ps []) (hx : Passes (CXx X.prog X.w) X E) (ha : DA X E (e :: es) ga) (hn : (e :: es).length = n := by rfl) (hdb : (x == ("__debug__" : Str)) = false := by decide) (he : starEach (e :: es) X.env = (false, eval e X.env) :: starEach es X.env := by rfl)
    (hpl : (backTo pos (starEach es X.env)).any (·.1) = false := by rfl) : DE X E (.Call (.Name x p) (e :: es) [] pos) (gCall (fun ds Ex Q => ds.length = n ∧ sp ds Ex Q) ga) := ⟨
  PE.weak (pe_call (dvs := []) (E := E) G hr hg hm hk hb .nil hx ha.h hdb he hpl) fun σ H Q ⟨F, env, Ex, Qd, s, sl, ex, q, fin⟩ => ⟨F, env, Ex, _, s, sl, ex, q, fun ds vs F1 H1 q1 g1 r1 =>
    ⟨F1, ds, Ex, Qd, q1.1, g1.sub, by rw [List.append_nil]; exact r1, ex.step g1.hh, q1.2, fin.step g1⟩⟩⟩
def OpF (K : PySem.W.Frag) (r : R2) (h : D → D → (List D → Prop) → Prop) : Prop := ∀ F H x y dx dy Qd Q, Same F H → Rep K F dx x → Rep K F dy y → h dx dy Qd → FinF K F H Qd Q → r x y H Q
def gOpF (h : D → D → (List D → Prop) → Prop) (ga gb : GE) : GA := fun env Ex Q => ga env Ex fun x => gb env Ex fun y => h x y Q
theorem lift2F {r : R2} {h : D → D → (List D → Prop) → Prop} (o : OpF X.K r h) : ∀ σ H Q, DTF X.K E (gOpF h ga gb) σ H Q → tOp r (DTE X.K E ga) (DTE X.K E gb) σ H Q :=
  fun σ H Q ⟨F, env, Ex, Qd, s, sl, ex, q, fin⟩ => ⟨F, env, Ex, _, s, sl, ex, q, fun d v F1 H1 q1 g1 r1 => ⟨F1, env, Ex, _, g1.sub, sl.grow g1, ex.step g1.hh, q1,
    fun d2 v2 F2 H2 q2 g2 r2 => o F2 H2 v v2 d d2 Qd Q g2.sub (Rep.mono g2.ff _ r1) r2 q2 (FinF.step fin (g1.trans g2))⟩⟩
def hCat (a b : D) (Q : List D → Prop) : Prop := match a, b with
  | .lst as, .lst bs => as.length + bs.length ≤ sizeLine ∧ Q (as ++ bs)
  | _, _ => False
theorem of_cat {K : PySem.W.Frag} : OpF K rCat hCat := fun F H x y dx dy Qd Q s rx ry h fin => by
  unfold hCat at h
  split at h
  · obtain ⟨a, xs, rfl, hF, r⟩ := rx
    obtain ⟨b, ys, rfl, hF', r'⟩ := ry
    exact ⟨a, b, xs, ys, rfl, rfl, s _ _ hF, s _ _ hF', by rw [r.length, r'.length]; exact h.1, FinF.now fin s h.2 (r.append r')⟩
  · exact h.elim
theorem df_cat (ha : DE X E a ga) (hb : DE X E b gb) : DF X E (.BinOp a .Add b pos) (gOpF hCat ga gb) := ⟨PE.weak (pe_op op_cat ha.h hb.h) (lift2F of_cat)⟩
def hRep (a b : D) (Q : List D → Prop) : Prop := match a, b with
  | .lst as, .int k => -(2 ^ 63) ≤ k ∧ k < 2 ^ 63 ∧ as.length * k.toNat ≤ sizeLine ∧ Q (List.replicate k.toNat as).flatten
  | _, _ => False
theorem reps_rep {K : PySem.W.Frag} {F : Hp} {as : List D} {xs : List V} (r : Reps K F as xs) : ∀ k : Nat, Reps K F (List.replicate k as).flatten (List.replicate k xs).flatten
  | 0 => rfl
  | k + 1 => by rw [List.replicate_succ, List.replicate_succ, List.flatten_cons, List.flatten_cons]; exact r.append (reps_rep r k)
theorem of_rep {K : PySem.W.Frag} : OpF K rRep hRep := fun F H x y dx dy Qd Q s rx ry h fin => by
  unfold hRep at h
  split at h
  · obtain ⟨a, xs, rfl, hF, r⟩ := rx
    obtain ⟨h1, h2, h3, q⟩ := h
    exact ⟨a, _, xs, rfl, ry, s _ _ hF, h1, h2, by rw [r.length]; exact h3, FinF.now fin s q (reps_rep r _)⟩
  · exact h.elim
theorem df_rep (ha : DE X E a ga) (hb : DE X E b gb) : DF X E (.BinOp a .Mult b pos) (gOpF hRep ga gb) := ⟨PE.weak (pe_op op_rep ha.h hb.h) (lift2F of_rep)⟩
end
end L2
namespace L2
open PySem PySem.Spec PyProof.Rows
theorem Grow.mut {F0 H0 F H : Hp} {a : Addr} {o : HO} (g : Grow F0 H0 F H) (hf : F a = none) (h0 : H0 a = none) : Grow F0 H0 F (upd H a o) := by
  refine ⟨fun b u e => ?_, g.ff, fun b u e => ?_, g.new⟩
  · rw [upd_ne (ne_of_none e h0)]; exact g.hh _ _ e
  · rw [upd_ne (ne_of_none e hf)]; exact g.sub _ _ e
theorem join_some {σ : St} {i : Nat} {v : V} (h : (σ[i]?).join = some v) : σ[i]? = some (some v) := by
  cases q : σ[i]? with
  | none => rw [q] at h; cases h
  | some o => rw [q] at h; have h : o = some v := h; rw [h]
section
variable {K : PySem.W.Frag} {F H : Hp} {σ : St} {env : DEnv}
theorem Slots.set {i : Nat} {s : DS} {v : V} (h : Slots K F H σ env) (ok : SlotOk K F H s (some v)) (ap : isOwn s = true → ∀ (j : Nat) t a, j ≠ i → env[j]? = some t → isOwn t = true → has t (σ[j]?).join a → ¬ has s (some v) a) : Slots K F H (σ.set i (some v)) (env.set i s) := by
  have hl := h.len
  have get : ∀ (j : Nat), j ≠ i → ((σ.set i (some v))[j]?).join = (σ[j]?).join := fun j hj => by rw [List.getElem?_set_ne (Ne.symm hj)]
  have geti : ∀ {t : DS}, (env.set i s)[i]? = some t → t = s ∧ ((σ.set i (some v))[i]?).join = some v := fun {t} e => by
    have lt : i < env.length := by
      have := (List.getElem?_eq_some_iff.mp e).1
      rwa [List.length_set] at this
    rw [List.getElem?_set_self lt] at e
    cases e
    exact ⟨rfl, by rw [List.getElem?_set_self (by omega)]; rfl⟩
  refine ⟨by rw [List.length_set, List.length_set, hl], fun j t e => ?_, fun j k s1 t1 a e1 e2 o1 o2 h1 h2 => ?_⟩
  · by_cases hj : j = i
    · subst hj
      obtain ⟨rfl, e'⟩ := geti e
      rw [e']
      exact ok
    · rw [List.getElem?_set_ne (Ne.symm hj)] at e
      rw [get j hj]
      exact h.ok j t e
  · by_cases hj : j = i
    · by_cases hk : k = i
      · rw [hj, hk]
      · exfalso
        subst hj
        obtain ⟨rfl, e'⟩ := geti e1
        rw [e'] at h1
        rw [List.getElem?_set_ne (Ne.symm hk)] at e2
        rw [get k hk] at h2
        exact ap o1 k t1 a hk e2 o2 h2 h1
    · by_cases hk : k = i
      · exfalso
        subst hk
        obtain ⟨rfl, e'⟩ := geti e2
        rw [e'] at h2
        rw [List.getElem?_set_ne (Ne.symm hj)] at e1
        rw [get j hj] at h1
        exact ap o2 j s1 a hj e1 o1 h1 h2
      · rw [List.getElem?_set_ne (Ne.symm hj)] at e1
        rw [List.getElem?_set_ne (Ne.symm hk)] at e2
        rw [get j hj] at h1
        rw [get k hk] at h2
        exact h.apart j k s1 t1 a e1 e2 o1 o2 h1 h2
theorem Slots.setSh {i : Nat} {d : D} {v : V} (h : Slots K F H σ env) (r : Rep K F d v) : Slots K F H (σ.set i (some v)) (env.set i (.sh d)) := h.set ⟨v, rfl, r⟩ fun z => nomatch z
theorem Fresh.set {H0 : Hp} {i : Nat} {s : DS} {v : V} (h : Fresh H0 σ env) (hl : env.length = σ.length) (ok : isOwn s = true → ∀ a, has s (some v) a → H0 a = none) : Fresh H0 (σ.set i (some v)) (env.set i s) := fun j t a e o q => by
  by_cases hj : j = i
  · subst hj
    have lt : j < env.length := by
      have := (List.getElem?_eq_some_iff.mp e).1
      rwa [List.length_set] at this
    rw [List.getElem?_set_self lt] at e
    cases e
    rw [List.getElem?_set_self (by omega)] at q
    exact ok o a q
  · rw [List.getElem?_set_ne (Ne.symm hj)] at e q
    exact h j t a e o q
theorem Slots.mut {i : Nat} {s s' : DS} {a : Addr} {o : HO} (h : Slots K F H σ env) (e : env[i]? = some s) (ow : isPl s = true) (ow' : isPl s' = true) (ha : (σ[i]?).join = some (.ref a)) (ok : SlotOk K F (upd H a o) s' (some (.ref a))) : Slots K F (upd H a o) σ (env.set i s') := by
  refine ⟨by rw [List.length_set, h.len], fun j t q => ?_, fun j k s1 t1 b e1 e2 o1 o2 h1 h2 => ?_⟩
  · by_cases hj : j = i
    · subst hj
      have lt : j < env.length := (List.getElem?_eq_some_iff.mp e).1
      rw [List.getElem?_set_self lt] at q
      cases q
      rw [ha]
      exact ok
    · rw [List.getElem?_set_ne (Ne.symm hj)] at q
      have z := h.ok j t q
      obtain ⟨_, u, hu, nt⟩ := (h.ok i s e).there (pl_own ow) ((pl_has ow).mpr ha)
      exact z.off (fun ot b hb hba => hj (h.apart j i t s a q e ot (pl_own ow) (hba ▸ hb) ((pl_has ow).mpr ha))) fun xs y => nt xs (Option.some.inj (hu.symm.trans y))
  · have back : ∀ {j : Nat} {t : DS} {b : Addr}, (env.set i s')[j]? = some t → isOwn t = true → has t (σ[j]?).join b → ∃ t', env[j]? = some t' ∧ isOwn t' = true ∧ has t' (σ[j]?).join b := fun {j t b} q ot hb => by
      by_cases hj : j = i
      · subst hj
        rw [List.getElem?_set_self (List.getElem?_eq_some_iff.mp e).1] at q
        cases q
        exact ⟨s, e, pl_own ow, (pl_has ow).mpr ((pl_has ow').mp hb)⟩
      · rw [List.getElem?_set_ne (Ne.symm hj)] at q
        exact ⟨t, q, ot, hb⟩
    obtain ⟨t1', q1, ot1, y1⟩ := back e1 o1 h1
    obtain ⟨t2', q2, ot2, y2⟩ := back e2 o2 h2
    exact h.apart j k t1' t2' b q1 q2 ot1 ot2 y1 y2
theorem Fresh.mut {H0 : Hp} {i : Nat} {s s' : DS} (h : Fresh H0 σ env) (e : env[i]? = some s) (ow : isPl s = true) (ow' : isPl s' = true := by rfl) : Fresh H0 σ (env.set i s') := fun j t a q ot hj => by
  by_cases z : j = i
  · subst z
    rw [List.getElem?_set_self (List.getElem?_eq_some_iff.mp e).1] at q
    cases q
    exact h j s a e (pl_own ow) ((pl_has ow).mpr ((pl_has ow').mp hj))
  · rw [List.getElem?_set_ne (Ne.symm z)] at q
    exact h j t a q ot hj
end
def gNx : GS := fun Dd _ env => Dd.nx env
def gSeq (t u : GS) : GS := fun Dd Ex env => t { Dd with nx := u Dd Ex } Ex env
def gRet (g : GE) : GS := fun Dd Ex env => g env Ex Dd.rt
def gDrop (g : GE) : GS := fun Dd Ex env => g env Ex fun _ => Dd.nx env
def gIf (c : GT) (t u : GS) : GS := fun Dd Ex env => c env Ex fun b => if b = true then t Dd Ex env else u Dd Ex env
def gSet (i : Nat) (g : GE) : GS := fun Dd Ex env => g env Ex fun d => Dd.nx (env.set i (.sh d))
def gOwn (i : Nat) (g : GA) : GS := fun Dd Ex env => g env Ex fun ds => Dd.nx (env.set i (.own ds))
def gRaise (C : Addr) (ga : GA) : GS := fun _ Ex env => ga env Ex fun ds => ds.length ≤ sizeLine ∧ Ex C
section
variable {X : Cx} {E : XK} {pos p : Pos} {a b c e : Expr} {es : List Expr} {ga gb gc g : GE} {st : Stmt} {rest : List Stmt} {t u : GS}
theorem dss_nil : DSs X E [] gNx := ⟨fun F0 H0 s0 => PSs.weak pss_nil fun Dn σ H ⟨F, env, Ex, Dd, gr, sl, fr, ex, q, en⟩ => en.nx env σ F H q gr sl fr⟩
theorem dss_cons (h1 : DSt X E st t) (h2 : DSs X E rest u) : DSs X E (st :: rest) (gSeq t u) := ⟨fun F0 H0 s0 => PSs.weak (pss_cons (h1.h F0 H0 s0) (h2.h F0 H0 s0)) fun Dn σ H ⟨F, env, Ex, Dd, gr, sl, fr, ex, q, en⟩ =>
  ⟨F, env, Ex, { Dd with nx := u Dd Ex }, gr, sl, fr, ex, q, ⟨fun env' σ' F' H' p g' sl' fr' => ⟨F', env', Ex, Dd, g', sl', fr', ex, p, en⟩, en.rt, en.bk, en.ct, en.rf, en.ro⟩⟩⟩
theorem dss_one (h1 : DSt X E st t) : DSs X E [st] t := ⟨fun F0 H0 s0 => pss_one (h1.h F0 H0 s0)⟩
theorem ds_ret (h : DE X E e g) : DSt X E (.Return (some e) pos) (gRet g) := ⟨fun F0 H0 s0 => PS.weak (ps_ret h.h) fun Dn σ H ⟨F, env, Ex, Dd, gr, sl, fr, ex, q, en⟩ =>
  ⟨F, env, Ex, Dd.rt, gr.sub, sl, ex.step gr.hh, q, fun d v F' H' p g' r => en.rt d v F' H' p (gr.trans g') r⟩⟩
theorem ds_expr (h : DE X E e g) (hs : swapsWith e none pos.line X.env = pure false := by rfl) : DSt X E (.Expr e pos) (gDrop g) := ⟨fun F0 H0 s0 => PS.weak (ps_expr h.h hs) fun Dn σ H ⟨F, env, Ex, Dd, gr, sl, fr, ex, q, en⟩ =>
  ⟨F, env, Ex, _, gr.sub, sl, ex.step gr.hh, q, fun d v F' H' p g' r => en.nx env σ F' H' p (gr.trans g') (sl.grow g') fr⟩⟩
theorem ds_if {gt : GT} {bs cs : List Stmt} (hc : DT X E c gt) (ha : DSs X E bs t) (hb : DSs X E cs u) : DSt X E (.If c bs cs pos) (gIf gt t u) := ⟨fun F0 H0 s0 => PS.weak (ps_if hc.h (ha.h F0 H0 s0) (hb.h F0 H0 s0)) fun Dn σ H ⟨F, env, Ex, Dd, gr, sl, fr, ex, q, en⟩ =>
  ⟨F, env, Ex, _, gr.sub, sl, ex.step gr.hh, q, fun k F' H' p g' => by
    cases k with
    | true => rw [if_pos rfl] at p ⊢; exact ⟨F', env, Ex, Dd, gr.trans g', sl.grow g', fr, ex, p, en⟩
    | false => rw [if_neg Bool.false_ne_true] at p ⊢; exact ⟨F', env, Ex, Dd, gr.trans g', sl.grow g', fr, ex, p, en⟩⟩⟩
theorem ds_set {i : Nat} {x : Str} {pos' : Pos} (hN : X.N.Nodup) (hi : X.N[i]? = some x) (hx : Loc X.env.scope x) (he : DE X E e g) (hs : swapsWith e (some (.Name x pos')) pos.line X.env = pure false := by rfl) (hf : X.fn x = true ∨ X.env.scope.names.lookup x = some .local := by first | exact .inl rfl | exact .inr rfl | assumption) :
    DSt X E (.Assign [.Name x pos'] e pos) (gSet i g) := ⟨fun F0 H0 s0 => PS.weak (ps_set (i := i) hN hi hx he.h hs hf) fun Dn σ H ⟨F, env, Ex, Dd, gr, sl, fr, ex, q, en⟩ =>
  ⟨F, env, Ex, _, gr.sub, sl, ex.step gr.hh, q, fun d v F' H' p g' r => en.nx _ _ F' H' p (gr.trans g') ((sl.grow g').setSh r) (fr.set sl.len fun z => nomatch z)⟩⟩
theorem own_in {F0 H0 F H F' H' : Hp} {σ : St} {env : DEnv} {i : Nat} {a : Addr} {xs : List V} {ds : List D} {Dd : DEnds} {Dn : Ends} (gr : Grow F0 H0 F H) (sl : Slots X.K F H σ env) (fr : Fresh H0 σ env) (en : EndsOk X.K F0 H0 Dd Dn) (p : Dd.nx (env.set i (.own ds)))
    (g' : Grow F H F' H') (f1 : F' a = none) (n1 : H a = none) (l1 : H' a = some (.lst xs)) (r : Reps X.K F' ds xs) : Dn.nx (σ.set i (some (.ref a))) H' := by
  refine en.nx _ _ F' H' p (gr.trans g') ((sl.grow g').set ⟨a, xs, rfl, f1, l1, r⟩ fun _ j t c _ e o hj z => ?_) (fr.set sl.len fun _ c z => by cases z; exact gr.hh.free n1)
  cases z
  obtain ⟨_, u, hu, _⟩ := (sl.ok j t e).there o hj
  rw [n1] at hu
  cases hu
theorem ds_own {i : Nat} {x : Str} {pos' : Pos} {gf : GA} (hN : X.N.Nodup) (hi : X.N[i]? = some x) (hx : Loc X.env.scope x) (he : DF X E e gf) (hs : swapsWith e (some (.Name x pos')) pos.line X.env = pure false := by rfl) (hf : X.fn x = true ∨ X.env.scope.names.lookup x = some .local := by first | exact .inl rfl | exact .inr rfl | assumption) :
    DSt X E (.Assign [.Name x pos'] e pos) (gOwn i gf) := ⟨fun F0 H0 s0 => PS.weak (ps_set (i := i) hN hi hx he.h hs hf) fun Dn σ H ⟨F, env, Ex, Dd, gr, sl, fr, ex, q, en⟩ =>
  ⟨F, env, Ex, _, gr.sub, sl, ex.step gr.hh, q, fun ds a xs F' H' p g' f1 n1 l1 r => own_in gr sl fr en p g' f1 n1 l1 r⟩⟩
def gFreeze (i : Nat) (g : GS) : GS := fun Dd Ex env => match env[i]? with
  | some (.own ds) => g Dd Ex (env.set i (.sh (.lst ds)))
  | _ => False
theorem dss_freeze (i : Nat) (h : DSs X E rest t) : DSs X E rest (gFreeze i t) := ⟨fun F0 H0 s0 => PSs.weak (h.h F0 H0 s0) fun Dn σ H ⟨F, env, Ex, Dd, gr, sl, fr, ex, q, en⟩ => by
  unfold gFreeze at q
  split at q
  · rename_i ds e
    obtain ⟨a, xs, e1, f, l, r⟩ := sl.ok i _ e
    have ff : Same F (upd F a (.lst xs)) := fun b o z => by rw [upd_ne (ne_of_none z f)]; exact z
    have h0 : H0 a = none := fr i _ a e rfl e1
    have gr' : Grow F0 H0 (upd F a (.lst xs)) H := by
      refine ⟨gr.hh, gr.ff.trans ff, fun b o z => ?_, fun b z n => ?_⟩
      · by_cases hb : b = a
        · subst hb; rw [upd_same] at z; rw [l, ← z]
        · rw [upd_ne hb] at z; exact gr.sub _ _ z
      · by_cases hb : b = a
        · rw [hb]; exact .inl h0
        · rw [upd_ne hb] at n; exact gr.new b z n
    have es : σ.set i (some (.ref a)) = σ := by
      have z := join_some e1
      have lt := (List.getElem?_eq_some_iff.mp z).1
      have z' := (List.getElem?_eq_some_iff.mp z).2
      rw [← z']
      exact List.set_getElem_self lt
    have sl1 : Slots X.K (upd F a (.lst xs)) H σ (env.set i (.sh (.lst ds))) := by
      refine ⟨by rw [List.length_set, sl.len], fun j t' q' => ?_, fun j k s1 t1 b z1 z2 o1 o2 h1 h2 => ?_⟩
      · by_cases hj : j = i
        · subst hj
          rw [List.getElem?_set_self (List.getElem?_eq_some_iff.mp e).1] at q'
          cases q'
          rw [e1]
          exact ⟨.ref a, rfl, a, xs, rfl, upd_same, Reps.mono ff _ r⟩
        · rw [List.getElem?_set_ne (Ne.symm hj)] at q'
          have z := sl.ok j t' q'
          exact z.frz f fun ot b hb hba => hj (sl.apart j i t' _ a q' e ot rfl (hba ▸ hb) e1)
      · have back : ∀ {j : Nat} {t' : DS}, (env.set i (.sh (.lst ds)))[j]? = some t' → isOwn t' = true → env[j]? = some t' := fun {j t'} q' ot => by
          by_cases hj : j = i
          · subst hj
            rw [List.getElem?_set_self (List.getElem?_eq_some_iff.mp e).1] at q'
            cases q'
            cases ot
          · rwa [List.getElem?_set_ne (Ne.symm hj)] at q'
        exact sl.apart j k s1 t1 b (back z1 o1) (back z2 o2) o1 o2 h1 h2
    have fr1 : Fresh H0 σ (env.set i (.sh (.lst ds))) := fun j t' b q' ot hb => by
      by_cases hj : j = i
      · subst hj
        rw [List.getElem?_set_self (List.getElem?_eq_some_iff.mp e).1] at q'
        cases q'
        cases ot
      · rw [List.getElem?_set_ne (Ne.symm hj)] at q'
        exact fr j t' b q' ot hb
    exact ⟨upd F a (.lst xs), _, Ex, Dd, gr', sl1, fr1, ex, q, en⟩
  · exact q.elim⟩
def gApp (i : Nat) (g : GE) : GS := fun Dd Ex env => match env[i]? with
  | some (.own ds) => g env Ex fun d => ds.length < sizeLine ∧ Dd.nx (env.set i (.own (ds ++ [d])))
  | _ => False
theorem ds_append {i : Nat} {x : Str} {np apos cpos : Pos} (hN : X.N[i]? = some x) (hv : Vis X.env.scope x) (he : DE X E e g) (hd : (x == ("__debug__" : Str)) = false := by decide) (hcd : (x == ("__classdict__" : Str)) = false := by decide)
    (hs1 : starEach [e] X.env = [(false, eval e X.env)] := by rfl)
    (hfew : ((backTo cpos (starEach [e] X.env)).all (fun x => !x.1) && (backToKw cpos (keywordEach [] X.env)).all (fun x => x.1.isSome)
      && decide ([e].length + ([] : List Keyword).length + (if ([] : List Keyword).isEmpty then 0 else 1) < 30)) = true := by rfl)
    (hbase : attributeBase (.Name x np) "append" X.env (eval (.Name x np) X.env) = eval (.Name x np) X.env := by rfl) (hline : (apos.endLine == cpos.line) = true := by rfl)
    (hs : swapsWith (.Call (.Attribute (.Name x np) "append" apos) [e] [] cpos) none pos.line X.env = pure false := by rfl) : DSt X E (.Expr (.Call (.Attribute (.Name x np) "append" apos) [e] [] cpos) pos) (gApp i g) := ⟨fun F0 H0 s0 =>
  PS.weak (ps_expr (pe_bm PySem.F.plainAttrs_list PySem.F.slot_list_append PySem.F.type_list_append mt_append (pe_var hN hv hd hcd) (pa_cons he.h pa_nil hs1) hbase hfew hline hs1 rfl) hs) fun Dn σ H ⟨F, env, Ex, Dd, gr, sl, fr, ex, q, en⟩ => by
    unfold gApp at q
    split at q
    · rename_i ds e
      obtain ⟨l, xs, e1, f, hl, r⟩ := sl.ok i _ e
      refine ⟨.ref l, join_some e1, .inl ⟨rfl, xs, SqL.of hl⟩, F, env, Ex, _, gr.sub, sl, ex.step gr.hh, q, fun d v F' H' p g' rv => ?_⟩
      have sl' := sl.grow g'
      obtain ⟨l2, xs2, e2, f2, hl2, r2⟩ := sl'.ok i _ e
      rw [e1] at e2
      cases e2
      have h0 := fr i _ l e rfl e1
      refine ⟨l, xs2, v, rfl, rfl, hl2, by rw [r2.length]; exact p.1, en.nx _ σ F' _ p.2 ((gr.trans g').mut f2 h0) (sl'.mut e rfl rfl e1 ⟨l, _, rfl, f2, upd_same, r2.append (Reps.cons rv Reps.nil)⟩) (fr.mut e rfl)⟩
    · exact q.elim⟩
theorem ds_raise {x : Str} {np cpos : Pos} {C : Addr} {gf : GA} (bd : Body X E) (hc : X.calm = true) (hg : Gl X x) (hm : X.mg x = some (.ref C)) (hx : Exc X.K C) (ha : DA X E (e :: es) gf)
    (hdb : (x == ("__debug__" : Str)) = false := by decide) (he : starEach (e :: es) X.env = (false, eval e X.env) :: starEach es X.env := by rfl) (hpl : (backTo cpos (starEach es X.env)).any (·.1) = false := by rfl) :
    DSt X E (.Raise (some (.Call (.Name x np) (e :: es) [] cpos)) none pos) (gRaise C gf) := ⟨fun F0 H0 s0 => PS.weak (ps_raise bd hc hg hm hx ha.h hdb he hpl) fun Dn σ H ⟨F, env, Ex, Dd, gr, sl, fr, ex, q, en⟩ =>
  ⟨F, env, Ex, _, gr.sub, sl, ex.step gr.hh, q, fun ds vs F' H' p g' r => ⟨by rw [r.length]; exact p.1, ex C p.2 H' (gr.hh.trans g'.hh)⟩⟩⟩
theorem ds_raiseL {x : Str} {np cpos : Pos} {C : Addr} {gf : GA} (bd : Body X E) (hc : X.calm = true) (hg : Gl (loopCx X E) x) (hm : X.mg x = some (.ref C)) (hx : Exc X.K C) (ha : DA (loopCx X E) E (e :: es) gf)
    (hdb : (x == ("__debug__" : Str)) = false := by decide) (he : starEach (e :: es) X.env = (false, eval e X.env) :: starEach es X.env := by rfl) (hpl : (backTo cpos (starEach es X.env)).any (·.1) = false := by rfl) :
    DSt (loopCx X E) E (.Raise (some (.Call (.Name x np) (e :: es) [] cpos)) none pos) (gRaise C gf) := ⟨fun F0 H0 s0 => PS.weak (ps_raiseL bd hc hg hm hx ha.h hdb he hpl) fun Dn σ H ⟨F, env, Ex, Dd, gr, sl, fr, ex, q, en⟩ =>
  ⟨F, env, Ex, _, gr.sub, sl, ex.step gr.hh, q, fun ds vs F' H' p g' r => ⟨by rw [r.length]; exact p.1, ex C p.2 H' (gr.hh.trans g'.hh)⟩⟩⟩
theorem ds_loop (bd : Body X E) (h : DSt (loopCx X E) E st t) : DSt X E st t := ⟨fun F0 H0 s0 => ps_loop bd (h.h F0 H0 s0)⟩
theorem Grow.still {F0 H0 H' : Hp} (s : Same F0 H0) (h : Same H0 H') : Grow F0 H0 F0 H' := ⟨h, Same.refl _, s.trans h, fun _ e n => absurd e n⟩
end
end L2
namespace L2
open PySem PySem.Spec PyProof.Rows
def JRep (K : PySem.W.Frag) (J : It) (F : Hp) (ds : List D) : Prop := ∀ F1 H1, Same F F1 → Same F1 H1 → ∀ i, (∀ d, ds[i]? = some d → J.go i H1 ∧ ∀ x H2, J.yld i H1 x H2 → ∃ F2, Grow F1 H1 F2 H2 ∧ Rep K F2 d x) ∧ (ds.length ≤ i → J.stop i H1)
def DTI (K : PySem.W.Frag) (E : XK) (gi : GA) : TI := fun σ H R => ∃ F env Ex Qd, Same F H ∧ Slots K F H σ env ∧ ExOk E Ex H ∧ gi env Ex Qd ∧ ∀ ds J F' H', Qd ds → Grow F H F' H' → JRep K J F' ds → R J H'
structure DI (X : Cx) (E : XK) (tg iter : Expr) (gi : GA) : Prop where
  h : PI X tg iter (DTI X.K E gi)
theorem PI.weak {X : Cx} {tg iter : Expr} {t t' : TI} (h : PI X tg iter t) (w : ∀ σ H R, t' σ H R → t σ H R) : PI X tg iter t' := fun pins s σ H R I q => h pins s σ H R I (w σ H R q)
theorem jrep_list {K : PySem.W.Frag} {F : Hp} {a : Addr} {xs : List V} {ds : List D} (hF : F a = some (.lst xs)) (r : Reps K F ds xs) : JRep K (Itl K a) F ds := fun F1 H1 s1 s2 i => by
  have hl := r.length
  have h1 : SqL K H1 a xs := SqL.of (s2 _ _ (s1 _ _ hF))
  refine ⟨fun d hd => ?_, fun hi => ⟨xs, h1, by omega⟩⟩
  obtain ⟨x, hx, rx⟩ := r.get hd
  refine ⟨⟨xs, x, h1, hx⟩, fun y H2 hy => ?_⟩
  obtain ⟨rfl, hy⟩ := hy
  have z := hy xs h1
  rw [hx] at z
  cases z
  exact ⟨F1, Grow.refl s2, Rep.mono s1 _ rx⟩
theorem jrep_range {K : PySem.W.Frag} {F : Hp} {lo : Int} {n : Nat} : JRep K (Itr lo n) F ((List.range n).map fun (k : Nat) => D.int (lo + (k : Nat))) := fun F1 H1 s1 s2 i => by
  refine ⟨fun d hd => ?_, fun hi => (by rw [List.length_map, List.length_range] at hi; exact hi)⟩
  rw [List.getElem?_map] at hd
  cases q : (List.range n)[i]? with
  | none => rw [q] at hd; cases hd
  | some k =>
    rw [q] at hd
    cases hd
    have hk : i < n ∧ k = i := by
      have z := List.getElem?_eq_some_iff.mp q
      obtain ⟨z1, z2⟩ := z
      rw [List.length_range] at z1
      rw [List.getElem_range] at z2
      exact ⟨z1, z2.symm⟩
    obtain ⟨h1, rfl⟩ := hk
    refine ⟨h1, fun y H2 hy => ?_⟩
    obtain ⟨rfl, rfl⟩ := hy
    exact ⟨F1, Grow.refl s2, rfl⟩
def pairI : Nat → List D → List D
  | _, [] => []
  | k, d :: ds => .tup [.int (k : Nat), d] :: pairI (k + 1) ds
theorem pairI_get : ∀ (ds : List D) (k i : Nat), (pairI k ds)[i]? = (ds[i]?).map fun d => D.tup [.int ((k + i : Nat)), d]
  | [], k, i => by simp [pairI]
  | d :: ds, k, 0 => by simp [pairI]
  | d :: ds, k, i + 1 => by
    have e := pairI_get ds (k + 1) i
    rw [show (pairI k (d :: ds))[i + 1]? = (pairI (k + 1) ds)[i]? from rfl, e, show k + 1 + i = k + (i + 1) by omega]
    rfl
theorem pairI_length : ∀ (ds : List D) (k : Nat), (pairI k ds).length = ds.length
  | [], k => rfl
  | d :: ds, k => by simp [pairI, pairI_length ds]
theorem jrep_enum {K : PySem.W.Frag} {F : Hp} {a : Addr} {xs : List V} {ds : List D} (hF : F a = some (.lst xs)) (r : Reps K F ds xs) : JRep K (Ite K a) F (pairI 0 ds) := fun F1 H1 s1 s2 i => by
  have hl := r.length
  have h1 : SqL K H1 a xs := SqL.of (s2 _ _ (s1 _ _ hF))
  refine ⟨fun d hd => ?_, fun hi => ⟨xs, h1, by rw [pairI_length] at hi; omega⟩⟩
  rw [pairI_get, Nat.zero_add] at hd
  cases q : ds[i]? with
  | none => rw [q] at hd; cases hd
  | some d' =>
    rw [q] at hd
    cases hd
    obtain ⟨x, hx, rx⟩ := r.get q
    refine ⟨⟨xs, x, h1, hx⟩, fun y H2 hy => ?_⟩
    obtain ⟨T, x', rfl, hT, rfl, hy⟩ := hy
    have z := hy xs h1
    rw [hx] at z
    cases z
    refine ⟨upd F1 T (.tup [.int (i : Nat), x]), Grow.lay s2 hT, T, _, rfl, upd_same, Reps.cons rfl (Reps.cons ?_ Reps.nil)⟩
    exact Rep.mono (s1.trans (Grow.lay (o := .tup [.int (i : Nat), x]) s2 hT).ff) _ rx
def giList (g : GE) : GA := fun env Ex Q => g env Ex fun d => match d with
  | .lst ds => Q ds
  | _ => False
def giRange (ga : GA) : GA := fun env Ex Q => ga env Ex fun ds => match ds with
  | [.int j] => -(2 ^ 62) ≤ j ∧ j < 2 ^ 62 ∧ Q (intsTo j.toNat)
  | _ => False
def giEnum (ga : GA) : GA := fun env Ex Q => ga env Ex fun ds => match ds with
  | [.lst xs] => Q (pairI 0 xs)
  | _ => False
section
variable {X : Cx} {E : XK} {pos p q : Pos} {tg a b c e : Expr} {es : List Expr} {ga gb gc g : GE} {st : Stmt} {rest : List Stmt} {t u : GS} {gf : GA}
theorem di_list (h : DE X E e g) : DI X E tg e (giList g) := ⟨PI.weak (pi_list h.h) fun σ H R ⟨F, env, Ex, Qd, s, sl, ex, q, fin⟩ => ⟨F, env, Ex, _, s, sl, ex, q, fun d v F1 H1 q1 g1 r1 => by
  cases d with
  | lst ds => obtain ⟨l, xs, rfl, hF, r⟩ := r1; exact ⟨l, rfl, ⟨xs, SqL.of (g1.sub _ _ hF)⟩, fin ds _ F1 H1 q1 g1 (jrep_list hF r)⟩
  | _ => exact (show False from q1).elim⟩⟩
theorem di_range (hg : Gl X "range") (hm : X.mg "range" = none) (ha : DA X E [e] gf) (hs : starEach [e] X.env = [(false, eval e X.env)] := by rfl) : DI X E tg (.Call (.Name "range" p) [e] [] pos) (giRange gf) := ⟨
  PI.weak (pi_range1 hg hm ha.h hs) fun σ H R ⟨F, env, Ex, Qd, s, sl, ex, q, fin⟩ => ⟨F, env, Ex, _, s, sl, ex, q, fun ds vs F1 H1 q1 g1 r1 => by
    split at q1
    · rename_i j
      obtain ⟨x, _, rfl, e1, e2⟩ := r1
      cases (show _ = [] from e2)
      cases (show x = _ from e1)
      obtain ⟨h1, h2, q1⟩ := q1
      have jr := jrep_range (K := X.K) (F := F1) (lo := 0) (n := j.toNat)
      simp only [Int.zero_add] at jr
      exact ⟨j, rfl, h1, h2, fin _ _ F1 H1 q1 g1 jr⟩
    · exact q1.elim⟩⟩
theorem di_enum {elts : List Expr} {x1 : Nat} {tpos : Pos} (hg : Gl X "enumerate") (hm : X.mg "enumerate" = none) (ha : DA X E [e] gf) (hs : starEach [e] X.env = [(false, eval e X.env)] := by rfl) : DI X E (.Tuple elts x1 tpos) (.Call (.Name "enumerate" p) [e] [] pos) (giEnum gf) := ⟨
  PI.weak (pi_enum hg hm ha.h hs) fun σ H R ⟨F, env, Ex, Qd, s, sl, ex, q, fin⟩ => ⟨F, env, Ex, _, s, sl, ex, q, fun ds vs F1 H1 q1 g1 r1 => by
    split at q1
    · obtain ⟨x, _, rfl, ⟨l, xs, rfl, hF, r⟩, e2⟩ := r1
      cases (show _ = [] from e2)
      exact ⟨l, xs, rfl, SqL.of (g1.sub _ _ hF), fin _ _ F1 H1 q1 g1 (jrep_enum hF r)⟩
    · exact q1.elim⟩⟩
abbrev GG := D → DEnv → (DEnv → Prop) → Prop
structure DG (X : Cx) (tg : Expr) (g : GG) : Prop where
  h : PG X tg (fun v σ H Q => ∃ F env d Qd, Same F H ∧ Slots X.K F H σ env ∧ Rep X.K F d v ∧ g d env Qd ∧ ∀ env' σ', Qd env' → Slots X.K F H σ' env' → (∀ H0, Fresh H0 σ env → Fresh H0 σ' env') → Q σ' H)
theorem PG.weak {X : Cx} {tg : Expr} {t t' : TG} (h : PG X tg t) (w : ∀ v σ H Q, t' v σ H Q → t v σ H Q) : PG X tg t' := fun pins s σ H v u Q I r q => h pins s σ H v u Q I r (w v σ H Q q)
def ggName (i : Nat) : GG := fun d env Q => Q (env.set i (.sh d))
theorem dg_name {i : Nat} {x : Str} (hN : X.N.Nodup) (hi : X.N[i]? = some x) (hx : Loc X.env.scope x) (hf : X.fn x = true ∨ X.env.scope.names.lookup x = some .local := by first | exact .inl rfl | exact .inr rfl | assumption) : DG X (.Name x pos) (ggName i) := ⟨
  PG.weak (pg_name hN hi hx hf) fun v σ H Q ⟨F, env, d, Qd, s, sl, r, q, fin⟩ => fin _ _ q (sl.setSh r) fun H0 fr => fr.set sl.len fun z => nomatch z⟩
def ggPair (i j : Nat) : GG := fun d env Q => match d with
  | .tup [x, y] => Q ((env.set i (.sh x)).set j (.sh y))
  | _ => False
theorem dg_pair {i j : Nat} {x y : Str} {k : Nat} {px py : Pos} (hc : X.calm = true) (hN : X.N.Nodup) (hi : X.N[i]? = some x) (hj : X.N[j]? = some y) (hx : Loc X.env.scope x) (hy : Loc X.env.scope y)
    (hf : X.fn x = true ∨ X.env.scope.names.lookup x = some .local := by first | exact .inl rfl | exact .inr rfl | assumption) (hf' : X.fn y = true ∨ X.env.scope.names.lookup y = some .local := by first | exact .inl rfl | exact .inr rfl | assumption)
    (h1 : (assignEach [.Name x px, .Name y py] X.env).length = 2 := by rfl) (h2 : (assignEach [.Name x px, .Name y py] X.env).findIdx? (·.1) = none := by rfl)
    (h3 : (assignEach [.Name x px, .Name y py] X.env).map (·.2) = assign (.Name x px) X.env :: (assignEach [.Name y py] X.env).map (·.2) := by rfl) (h4 : (assignEach [.Name y py] X.env).map (·.2) = assign (.Name y py) X.env :: (assignEach [] X.env).map (·.2) := by rfl) :
    DG X (.Tuple [.Name x px, .Name y py] k pos) (ggPair i j) := ⟨
  PG.weak (pg_tup (n := 2) hc (pgs_cons (pg_name hN hi hx hf) (pgs_cons (pg_name hN hj hy hf') pgs_nil h4) h3) h1 h2) fun v σ H Q ⟨F, env, d, Qd, s, sl, r, q, fin⟩ => by
    unfold ggPair at q
    split at q
    · rename_i dx dy
      obtain ⟨T, xs, rfl, hT, x1, _, rfl, r1, y1, _, rfl, r2, e⟩ := r
      cases (show _ = [] from e)
      refine ⟨T, _, rfl, SqT.of (s _ _ hT), rfl, x1, _, rfl, y1, _, rfl, rfl, fin _ _ q ((sl.setSh r1).setSh r2) fun H0 fr => Fresh.set (Fresh.set fr sl.len fun z => nomatch z) (by rw [List.length_set, List.length_set, sl.len]) fun z => nomatch z⟩
    · exact q.elim⟩
def gFor (gi : GA) (gg : GG) (tb : GS) : GS := fun Dd Ex env => gi env Ex fun ds => ∃ Pv : Nat → DEnv → Prop, Pv 0 env ∧
  (∀ k d env', ds[k]? = some d → Pv k env' → gg d env' fun env2 => tb { Dd with nx := Pv (k + 1), ct := Pv (k + 1), bk := Dd.nx } Ex env2) ∧ ∀ env', Pv ds.length env' → Dd.nx env'
def over (F H : Hp) : Hp := fun b => match F b with
  | some o => some o
  | none => H b
theorem over_same {F H H1 : Hp} (a : Same F H1) (b : Same H H1) : Same F (over F H) ∧ Same H (over F H) ∧ Same (over F H) H1 := by
  refine ⟨fun c o e => ?_, fun c o e => ?_, fun c o e => ?_⟩
  · unfold over; rw [e]
  · unfold over
    cases q : F c with
    | none => exact e
    | some o' =>
      have z1 := a c o' q
      have z2 := b c o e
      rw [z1] at z2
      exact z2
  · unfold over at e
    cases q : F c with
    | none => rw [q] at e; exact b c o e
    | some o' => rw [q] at e; cases e; exact a c _ q
theorem over_none {F H : Hp} {a : Addr} (h : over F H a = none) : F a = none ∧ H a = none := by
  unfold over at h
  cases q : F a with
  | none => rw [q] at h; exact ⟨rfl, h⟩
  | some o => rw [q] at h; cases h
theorem none_over {F H : Hp} {a : Addr} (h : F a = none) (h' : H a = none) : over F H a = none := by
  unfold over
  rw [h]
  exact h'
theorem Grow.over {F0 H0 F1 H1 F H : Hp} (g1 : Grow F0 H0 F1 H1) (g : Grow F1 (over F1 H0) F H) : Grow F0 H0 F H := by
  obtain ⟨o1, o2, o3⟩ := over_same g1.sub g1.hh
  refine ⟨o2.trans g.hh, g1.ff.trans g.ff, g.sub, fun a e n => ?_⟩
  by_cases h : F1 a = none
  · have w : L2.over F1 H0 a = H0 a := by
      unfold L2.over
      rw [h]
    have y := g.new a h n
    rw [w] at y
    exact y
  · exact g1.new a e h
theorem EndsOk.over {K : PySem.W.Frag} {F0 H0 F1 H1 : Hp} {Dd : DEnds} {Dn : Ends} (g1 : Grow F0 H0 F1 H1) (en : EndsOk K F0 H0 Dd Dn) : EndsOk K F1 (over F1 H0) Dd Dn := by
  have fr : ∀ {σ : St} {env : DEnv}, Fresh (L2.over F1 H0) σ env → Fresh H0 σ env := fun h i s a e o q => (over_none (h i s a e o q)).2
  exact ⟨fun env σ F H p g sl f => en.nx env σ F H p (g1.over g) sl (fr f), fun d v F H p g r => en.rt d v F H p (g1.over g) r, fun env σ F H p g sl f => en.bk env σ F H p (g1.over g) sl (fr f), fun env σ F H p g sl f => en.ct env σ F H p (g1.over g) sl (fr f), fun ds a xs F H p g f h l r => en.rf ds a xs F H p (g1.over g) f (over_none h).2 l r, fun s v F H p g so ow h => en.ro s v F H p (g1.over g) so ow fun a ha => (over_none (h a ha)).2⟩
theorem dss_any (h : DSs X E rest t) : PSs X rest (fun Dn σ H => ∃ F0 H0, Same F0 H0 ∧ DTS X.K E F0 H0 t Dn σ H) := fun pins s σ H Dn I ⟨F0, H0, s0, q⟩ => h.h F0 H0 s0 pins s σ H Dn I q
theorem ds_for {iter : Expr} {gi : GA} {gg : GG} (hp : PassesOwn (model X.prog X.w) X.A X.env X.xe) (hc : X.calm = true) (hi : DI X E tg iter gi) (hg : DG X tg gg) (hb : DSs X E rest t) (hs : ∀ x, foldedSetIterable iter X.env x = pure x := by intro _; rfl) :
    DSt X E (.For tg iter rest [] pos) (gFor gi gg t) := ⟨fun F0 H0 s0 => PS.weak (ps_for hp hc hi.h hg.h (dss_any hb) hs) fun Dn σ H ⟨F, env, Ex, Dd, gr, sl, fr, ex, q, en⟩ =>
  ⟨F, env, Ex, _, gr.sub, sl, ex.step gr.hh, q, fun ds J F1 H1 q1 g1 jr => by
    obtain ⟨Pv, p0, pt, pe⟩ := q1
    have G1 := gr.trans g1
    obtain ⟨o1, o2, o3⟩ := over_same G1.sub G1.hh
    have fr1 : Fresh (over F1 H0) σ env := fun i s a e o h => by
      have w := (sl.grow g1).ok i s e
      refine none_over ?_ (fr i s a e o h)
      exact (w.there o h).1
    refine ⟨fun i m σ H => m = ds.length - i ∧ i ≤ ds.length ∧ ∃ F env, Grow F1 (over F1 H0) F H ∧ Slots X.K F H σ env ∧ Fresh (over F1 H0) σ env ∧ Pv i env,
      ⟨ds.length, by simp, Nat.zero_le _, F1, env, ⟨o3, Same.refl _, G1.sub, fun _ e n => absurd e n⟩, sl.grow g1, fr1, p0⟩, ?_⟩
    rintro i m σ2 H2 ⟨rfl, hi.h, F2, env2, g2, sl2, fr2, p2⟩
    obtain ⟨jgo, jstop⟩ := jr F2 H2 g2.ff g2.sub i
    by_cases hlt : i < ds.length
    · have hd : ds[i]? = some ds[i] := by simp [hlt]
      obtain ⟨go, yl⟩ := jgo ds[i] hd
      refine .inr ⟨go, fun σ' H' => ∃ F env, Grow F1 (over F1 H0) F H' ∧ Slots X.K F H' σ' env ∧ Fresh (over F1 H0) σ' env ∧ Pv (i + 1) env, fun σ' H' n => ⟨ds.length - (i + 1), by omega, rfl, hlt, n⟩, fun x H3 y => ?_⟩
      obtain ⟨F3, g3, r3⟩ := yl x H3 y
      refine ⟨F3, env2, ds[i], _, g3.sub, sl2.grow g3, r3, pt i ds[i] env2 hd p2, fun env4 σ4 q4 sl4 fr4 => ?_⟩
      exact ⟨F1, over F1 H0, o1, F3, env4, Ex, { Dd with nx := Pv (i + 1), ct := Pv (i + 1), bk := Dd.nx }, g2.trans g3, sl4, fr4 _ fr2, ex.step o2, q4,
        ⟨fun env' σ' F' H' p g sl f => ⟨F', env', g, sl, f, p⟩, (en.over G1).rt, (en.over G1).nx, fun env' σ' F' H' p g sl f => ⟨F', env', g, sl, f, p⟩, (en.over G1).rf, (en.over G1).ro⟩⟩
    · have e : i = ds.length := by omega
      exact .inl ⟨jstop (by omega), (en.over G1).nx env2 σ2 F2 H2 (pe env2 (e ▸ p2)) g2 sl2 fr2⟩⟩⟩
end
end L2
namespace L2
open PySem PySem.Spec PyProof.Rows
def slotV (env : DEnv) (j : Nat) : DS := match env[j]? with
  | some (.sh d) => .sh d
  | _ => .un
theorem slotV_no (env : DEnv) (j : Nat) : isOwn (slotV env j) = false := by
  unfold slotV
  split <;> rfl
theorem block_slots {K : PySem.W.Frag} {F H F3 H3 : Hp} {σ : St} {env : DEnv} {ts : List D} {vs : List V} (fv : List Nat) (sl : Slots K F H σ env) (gr : Grow F H F3 H3) (r : Reps K F3 ts vs) :
    Slots K F3 H3 (vs.map some ++ fv.map fun j => (σ[j]?).join) (ts.map DS.sh ++ fv.map (slotV env)) := by
  have hl := r.length
  have no : ∀ (i : Nat) s, (ts.map DS.sh ++ fv.map (slotV env))[i]? = some s → isOwn s = false := fun i s e => by
    have m := List.mem_of_getElem? e
    rcases List.mem_append.mp m with z | z
    · obtain ⟨d, _, rfl⟩ := List.mem_map.mp z; rfl
    · obtain ⟨j, _, rfl⟩ := List.mem_map.mp z; exact slotV_no env j
  refine ⟨by simp [hl], fun i s e => ?_, fun i j s t a e1 _ o1 => ?_⟩
  · rw [List.getElem?_append, List.length_map] at e ⊢
    by_cases hi : i < ts.length
    · rw [if_pos hi, List.getElem?_map] at e
      rw [if_pos (by omega), List.getElem?_map]
      cases q : ts[i]? with
      | none => rw [q] at e; cases e
      | some d =>
        rw [q] at e
        cases e
        obtain ⟨x, hx, rx⟩ := r.get q
        rw [hx]
        exact ⟨x, rfl, rx⟩
    · rw [if_neg hi, List.getElem?_map] at e
      rw [if_neg (by omega), List.getElem?_map, hl]
      cases q : fv[i - ts.length]? with
      | none => rw [q] at e; cases e
      | some j =>
        rw [q] at e
        have e : slotV env j = s := Option.some.inj e
        subst e
        show SlotOk K F3 H3 (slotV env j) (σ[j]?).join
        unfold slotV
        split
        · rename_i d e0
          obtain ⟨v, e1, rv⟩ := sl.ok j _ e0
          exact ⟨v, e1, Rep.mono gr.ff _ rv⟩
        · trivial
  · rw [no i s e1] at o1
    cases o1
def UB (K : PySem.W.Frag) (g : TG) (u : D → Option (List D)) (nt : Nat) : Prop := ∀ (d : D) (ts : List D) (v : V) (σf : St) (ts0 : List (Option V)) (F H : Hp) (Q : St → Hp → Prop), Same F H → u d = some ts → Rep K F d v → ts0.length = nt →
  (∀ vs, Reps K F ts vs → vs.length = nt → Q (vs.map some ++ σf) H) → g v (ts0 ++ σf) H Q
def u1 (d : D) : Option (List D) := some [d]
def u2 (d : D) : Option (List D) := match d with
  | .tup [a, b] => some [a, b]
  | _ => none
theorem ub_name {K : PySem.W.Frag} : UB K (gName 0) u1 1 := fun d ts v σf ts0 F H Q s e r hl h => by
  cases e
  obtain ⟨t, rfl⟩ : ∃ t, ts0 = [t] := by
    match ts0, hl with
    | [t], _ => exact ⟨t, rfl⟩
  exact h [v] ⟨v, [], rfl, r, rfl⟩ rfl
theorem ub_pair {K : PySem.W.Frag} : UB K (gTup K 2 (gCons (gName 0) (gCons (gName 1) gNil))) u2 2 := fun d ts v σf ts0 F H Q s e r hl h => by
  unfold u2 at e
  split at e
  · cases e
    obtain ⟨T, xs, rfl, hT, x1, _, rfl, r1, y1, _, rfl, r2, e2⟩ := r
    cases (show _ = [] from e2)
    obtain ⟨t, t', rfl⟩ : ∃ t t', ts0 = [t, t'] := by
      match ts0, hl with
      | [t, t'], _ => exact ⟨t, t', rfl⟩
    exact ⟨T, _, rfl, SqT.of (s _ _ hT), rfl, x1, _, rfl, y1, _, rfl, rfl, h [x1, y1] (Reps.cons r1 (Reps.cons r2 Reps.nil)) rfl⟩
  · cases e
structure DIfs (X : Cx) (E : XK) (ifs : List Expr) (g : GT) : Prop where
  h : PIfs X ifs (DTT X.K E g)
def gYes : GT := fun _ _ Q => Q true
theorem difs_nil {X : Cx} {E : XK} : DIfs X E [] gYes := ⟨fun pins s σ H Q I ⟨F, env, Ex, Qd, sm, sl, ex, q, fin⟩ => pifs_nil pins s σ H Q I (fin true F H q (Grow.refl sm))⟩
theorem difs_one {X : Cx} {E : XK} {c : Expr} {g : GT} (h : DT X E c g) : DIfs X E [c] g := ⟨pifs_one h.h⟩
def gComp (gi : GA) (fv : List Nat) (u : D → Option (List D)) (gt : GT) (ge : GE) : GA := fun env Ex Q => gi env Ex fun ds => ds.length ≤ sizeLine ∧ ∃ (pr : D → Bool) (f : D → D),
  (∀ d ∈ ds, ∃ ts, u d = some ts ∧ gt (ts.map DS.sh ++ fv.map (slotV env)) (fun _ => False) fun b => b = pr d ∧ (b = true → ge (ts.map DS.sh ++ fv.map (slotV env)) (fun _ => False) fun y => y = f d)) ∧ Q ((ds.filter pr).map f)
def gCompM (gi : GA) (fv : List Nat) (u : D → Option (List D)) (ge : GE) : GA := fun env Ex Q => gi env Ex fun ds => ds.length ≤ sizeLine ∧ ∃ f : D → D, (∀ d ∈ ds, ∃ ts, u d = some ts ∧ ge (ts.map DS.sh ++ fv.map (slotV env)) (fun _ => False) fun y => y = f d) ∧ Q (ds.map f)
theorem Grow.off {F H F' H' : Hp} {a : Addr} {o : HO} (g : Grow F H F' H') (f : F a = none) (h : H a = some o) (nt : ∀ xs, o ≠ .tup xs := by intro xs z; cases z) : F' a = none := by
  cases q : F' a with
  | none => rfl
  | some _ =>
    rcases g.new a f (by rw [q]; exact fun z => nomatch z) with z | ⟨xs, z⟩
    · rw [z] at h
      cases h
    · rw [z] at h
      cases h
      exact absurd rfl (nt xs)
theorem take_next {ds : List D} {i : Nat} {d : D} (h : ds[i]? = some d) : ds.take (i + 1) = ds.take i ++ [d] := by
  rw [List.take_succ, h]
  rfl
section
variable {X : Cx} {E : XK} {elt iter target : Expr} {pos : Pos} {ifs : List Expr} {scope : Scope} {cl : List (Str × Addr)} {tn fn : List Str} {fv : List Nat} {gi : GA} {g : TG} {u : D → Option (List D)} {gt : GT} {ge : GE}
theorem comp_step (ub : UB X.K g u tn.length) {σ : St} {H : Hp} {Q : VK} {F : Hp} {env : DEnv} {Qd : List D → Prop} {ds : List D} {J : It} {F1 H1 : Hp} {Dl : Addr} (sl : Slots X.K F H σ env) (fin : FinF X.K F H Qd Q) (hlen : ds.length ≤ sizeLine) (pr : D → Bool) (f : D → D)
    (hf : ∀ d ∈ ds, ∃ ts, u d = some ts ∧ gt (ts.map DS.sh ++ fv.map (slotV env)) (fun _ => False) fun b => b = pr d ∧ (b = true → ge (ts.map DS.sh ++ fv.map (slotV env)) (fun _ => False) fun y => y = f d)) (qd : Qd ((ds.filter pr).map f))
    (g1 : Grow F H F1 H1) (jr : JRep X.K J F1 ds) (hD : H1 Dl = none) : CompGT J (fv.map fun j => (σ[j]?).join) tn.length g (DTT X.K E0 gt) (DTE X.K E0 ge) Q H1 Dl := by
  refine ⟨fun i m H => m = ds.length - i ∧ i ≤ ds.length ∧ ∃ F2 ys, Grow F1 H1 F2 H ∧ F2 Dl = none ∧ H Dl = some (.lst ys) ∧ Reps X.K F2 (((ds.take i).filter pr).map f) ys,
    ⟨ds.length, by simp, Nat.zero_le _, F1, [], Grow.keep g1.sub hD, g1.sub.free hD, upd_same, by rw [List.take_zero]; exact Reps.nil⟩, ?_⟩
  rintro i m H2 ⟨rfl, hi, F2, ys, g2, f2, l2, r2⟩
  obtain ⟨jgo, jstop⟩ := jr F2 H2 g2.ff g2.sub i
  have hys : ys.length ≤ i := by
    rw [r2.length, List.length_map]
    refine Nat.le_trans (List.length_filter_le _ _) ?_
    rw [List.length_take]
    omega
  by_cases hlt : i < ds.length
  · have hd : ds[i]? = some ds[i] := by simp [hlt]
    obtain ⟨go, yl⟩ := jgo ds[i] hd
    refine .inr ⟨go, fun H' => ∃ F2 ys, Grow F1 H1 F2 H' ∧ F2 Dl = none ∧ H' Dl = some (.lst ys) ∧ Reps X.K F2 (((ds.take (i + 1)).filter pr).map f) ys, fun H' n => ⟨ds.length - (i + 1), by omega, rfl, hlt, n⟩, fun x H3 ts0 hts y => ?_⟩
    obtain ⟨F3, g3, r3⟩ := yl x H3 y
    obtain ⟨ts, hu, hgt⟩ := hf ds[i] (List.getElem_mem hlt)
    refine ub ds[i] ts x _ ts0 F3 H3 _ g3.sub hu r3 hts fun vs rvs hvs => ⟨⟨vs.map some, by simp [hvs], rfl⟩, ?_⟩
    have bsl := block_slots fv sl ((g1.trans g2).trans g3) rvs
    refine ⟨F3, _, fun _ => False, _, g3.sub, bsl, fun _ z => z.elim, hgt, fun b F4 H4 q4 g4 => ?_⟩
    obtain ⟨eb, q4⟩ := q4
    have f3 := g3.off f2 l2
    have l3 := g3.hh _ _ l2
    have f4 := g4.off f3 l3
    have l4 := g4.hh _ _ l3
    have hsl := hlen
    cases b with
    | true =>
      rw [if_pos rfl]
      refine ⟨F4, _, fun _ => False, _, g4.sub, bsl.grow g4, fun _ z => z.elim, q4 rfl, fun y v F5 H5 q5 g5 r5 => ?_⟩
      subst q5
      have f5 := g5.off f4 l4
      have l5 := g5.hh _ _ l4
      refine ⟨ys, l5, by omega, F5, ys ++ [v], (((g2.trans g3).trans g4).trans g5).mut f5 hD, f5, upd_same, ?_⟩
      rw [take_next hd, List.filter_append, List.map_append]
      refine (Reps.mono ((g3.ff.trans g4.ff).trans g5.ff) _ r2).append ?_
      rw [List.filter_cons, ← eb, if_pos rfl]
      exact Reps.cons r5 Reps.nil
    | false =>
      rw [if_neg Bool.false_ne_true]
      refine ⟨F4, ys, (g2.trans g3).trans g4, f4, l4, ?_⟩
      rw [take_next hd, List.filter_append, List.map_append, List.filter_cons, ← eb, if_neg Bool.false_ne_true]
      simp only [List.filter_nil, List.map_nil, List.append_nil]
      exact Reps.mono (g3.ff.trans g4.ff) _ r2
  · have e : i = ds.length := by omega
    refine .inl ⟨jstop (by omega), fin _ Dl ys F2 H2 qd (g1.trans g2) f2 (g1.hh.free hD) l2 ?_⟩
    rw [e, List.take_length] at r2
    exact r2
theorem comp_weak (ub : UB X.K g u tn.length) : ∀ σ H Q, DTF X.K E (gComp gi fv u gt ge) σ H Q → tCompT (DTI X.K E gi) fv tn.length g (DTT X.K E0 gt) (DTE X.K E0 ge) σ H Q :=
  fun σ H Q ⟨F, env, Ex, Qd, s, sl, ex, q, fin⟩ => ⟨F, env, Ex, _, s, sl, ex, q, fun ds J F1 H1 q1 g1 jr => fun Dl hD => by
    obtain ⟨hlen, pr, f, hf, qd⟩ := q1
    exact comp_step ub sl fin hlen pr f hf qd g1 jr hD⟩
theorem comp_weakM (ub : UB X.K g u tn.length) : ∀ σ H Q, DTF X.K E (gCompM gi fv u ge) σ H Q → tCompT (DTI X.K E gi) fv tn.length g (DTT X.K E0 gYes) (DTE X.K E0 ge) σ H Q :=
  fun σ H Q ⟨F, env, Ex, Qd, s, sl, ex, q, fin⟩ => ⟨F, env, Ex, _, s, sl, ex, q, fun ds J F1 H1 q1 g1 jr => fun Dl hD => by
    obtain ⟨hlen, f, hf, qd⟩ := q1
    refine comp_step ub sl fin hlen (fun _ => true) f (fun d hd => ?_) ?_ g1 jr hD
    · obtain ⟨ts, e, z⟩ := hf d hd
      exact ⟨ts, e, rfl, fun _ => z⟩
    · rw [List.filter_eq_self.mpr (fun _ _ => rfl)]
      exact qd⟩
theorem df_comp (hc : X.calm = true) (hi : DI X E target iter gi) (S : CompOkT X scope cl tn fn fv) (hg : ∀ C fp ps s3 H3, PG (compCx X scope cl (tn ++ fn) C fp ps s3 H3) target g) (ub : UB X.K g u tn.length)
    (ht : ∀ C fp ps s3 H3, DIfs (compCx X scope cl (tn ++ fn) C fp ps s3 H3) E0 ifs gt) (he : ∀ C fp ps s3 H3, DE (compCx X scope cl (tn ++ fn) C fp ps s3 H3) E0 elt ge)
    (hs : ∀ y, foldedSetIterable iter X.env y = pure y := by intro _; rfl) : DF X E (.ListComp elt [⟨target, iter, ifs, 0⟩] scope pos) (gComp gi fv u gt ge) := ⟨PE.weak (pe_compT (tt := DTT X.K E0 gt) (te := DTE X.K E0 ge) hc hi.h S hg (fun C fp ps s3 H3 => (ht C fp ps s3 H3).h) (fun C fp ps s3 H3 => (he C fp ps s3 H3).h) hs) (comp_weak ub)⟩
theorem df_compM (hc : X.calm = true) (hi : DI X E target iter gi) (S : CompOkT X scope cl tn fn fv) (hg : ∀ C fp ps s3 H3, PG (compCx X scope cl (tn ++ fn) C fp ps s3 H3) target g) (ub : UB X.K g u tn.length)
    (he : ∀ C fp ps s3 H3, DE (compCx X scope cl (tn ++ fn) C fp ps s3 H3) E0 elt ge)
    (hs : ∀ y, foldedSetIterable iter X.env y = pure y := by intro _; rfl) : DF X E (.ListComp elt [⟨target, iter, [], 0⟩] scope pos) (gCompM gi fv u ge) := ⟨PE.weak (pe_compT (tt := DTT X.K E0 gYes) (te := DTE X.K E0 ge) hc hi.h S hg (fun _ _ _ _ _ => DIfs.h difs_nil) (fun C fp ps s3 H3 => (he C fp ps s3 H3).h) hs) (comp_weakM ub)⟩
theorem ds_ownCM {i : Nat} {y : Str} {py spos : Pos} (hN : X.N.Nodup) (hj : X.N[i]? = some y) (hy : Loc X.env.scope y) (hc : X.calm = true) (hi : DI X E target iter gi) (S : CompOkT X scope cl tn fn fv)
    (hg : ∀ C fp ps s3 H3, PG (compCx X scope cl (tn ++ fn) C fp ps s3 H3) target g) (ub : UB X.K g u tn.length)
    (he : ∀ C fp ps s3 H3, DE (compCx X scope cl (tn ++ fn) C fp ps s3 H3) E0 elt ge)
    (hsw : swapsWith (.ListComp elt [⟨target, iter, [], 0⟩] scope pos) (some (.Name y py)) spos.line X.env = pure true := by rfl) (hs : ∀ y, foldedSetIterable iter X.env y = pure y := by intro _; rfl)
    (hf : X.fn y = true ∨ X.env.scope.names.lookup y = some .local := by first | exact .inl rfl | exact .inr rfl | assumption) :
    DSt X E (.Assign [.Name y py] (.ListComp elt [⟨target, iter, [], 0⟩] scope pos) spos) (gOwn i (gCompM gi fv u ge)) := ⟨fun F0 H0 s0 =>
  PS.weak (ps_setCT (tt := DTT X.K E0 gYes) (te := DTE X.K E0 ge) hN hj hy hc hi.h S hg (fun _ _ _ _ _ => DIfs.h difs_nil) (fun C fp ps s3 H3 => (he C fp ps s3 H3).h) hsw hs hf) fun Dn σ H ⟨F, env, Ex, Dd, gr, sl, fr, ex, q, en⟩ => comp_weakM ub σ H _ ⟨F, env, Ex, _, gr.sub, sl, ex.step gr.hh, q, fun ds a xs F' H' p g' f1 n1 l1 r => own_in gr sl fr en p g' f1 n1 l1 r⟩⟩
end
end L2
namespace L2
open PySem PySem.Spec PyProof.Rows
section
variable {X : Cx} {E : XK} {pos : Pos} {st : Stmt}
end
def isInt : D → Bool
  | .int _ => true
  | _ => false
def nsc : D → Bool
  | .scr _ => false
  | .kt _ => false
  | .dtt _ _ => false
  | _ => true
def fWhole : DSp := fun ds _ Q => ∃ d, ds = [d] ∧ nsc d = true ∧ Q (.bl (isInt d))
def lstIn (d : D) (lo hi : Int) : Bool := match d with
  | .lst xs => decide (lo ≤ (xs.length : Nat)) && decide (((xs.length : Nat) : Int) ≤ hi)
  | _ => false
def fListW : DSp := fun ds _ Q => ∃ d lo hi, ds = [d, .int lo, .int hi] ∧ nsc d = true ∧ Q (.bl (lstIn d lo hi))
def uptoL (n : Nat) : List Int := (List.range n).map fun (k : Nat) => ((k : Nat) : Int)
theorem uptoL_length (n : Nat) : (uptoL n).length = n := by simp [uptoL]
theorem intsTo_eq (n : Nat) : intsTo n = (uptoL n).map D.int := by simp [intsTo, uptoL]
theorem uptoL_get {n i : Nat} (h : i < n) : (uptoL n)[i]? = some ((i : Nat) : Int) := by simp [uptoL, h]
def allNsc (d : D) : Bool := nsc d && match d with
  | .lst xs => xs.all nsc
  | _ => true
theorem ints_of : ∀ {xs : List D}, (∀ d ∈ xs, isInt d = true) → ∃ ns : List Int, xs = ns.map D.int
  | [], _ => ⟨[], rfl⟩
  | d :: xs, h => by
    obtain ⟨ns, e⟩ := ints_of fun x hx => h x (List.mem_cons_of_mem _ hx)
    have hd := h d List.mem_cons_self
    cases d with
    | int i => exact ⟨i :: ns, by rw [e]; rfl⟩
    | _ => exact absurd (show false = true from hd) Bool.false_ne_true
theorem map_int_inj : ∀ {ns ms : List Int}, ns.map D.int = ms.map D.int → ns = ms
  | [], [], _ => rfl
  | [], _ :: _, h => by cases h
  | _ :: _, [], h => by cases h
  | n :: ns, m :: ms, h => by
    rw [List.map_cons, List.map_cons] at h
    have h1 := (List.cons.inj h).1
    have h2 := (List.cons.inj h).2
    rw [D.int.inj h1, map_int_inj h2]
def cellAt (ns : List Int) (k : Int) : Int := if k < (ns.length : Nat) then ns.getD k.toNat 0 else 0
def fCell : DSp := fun ds _ Q => ∃ ns k, ds = [.scr ns, .int k] ∧ 0 ≤ k ∧ Q (.int (cellAt ns k))
def fMix : DSp := fun ds _ Q => ∃ c p m, ds = [.int c, .int p, .int m] ∧ 0 < p ∧ 0 < m ∧ Q (.int (c * 48271 % p % m))
def fLaw : DSp := fun ds _ Q => ∃ ns, ds = [.scr ns] ∧ ns.length ≤ 63 ∧ Q (.bl true)
end L2
namespace L2
open PySem PySem.Spec PyProof.Rows
def at0 (ns : List Int) (k : Int) : Int := ns.getD k.toNat 0
def comp (os ps : List Int) : List Int := os.map fun k => at0 ps k
section
variable {n : Nat} {os ps qs bs : List Int}
end
theorem intsTo_length (n : Nat) : (intsTo n).length = n := by rw [intsTo_eq, List.length_map, uptoL_length]
end L2
namespace L2
open PySem PySem.Spec PyProof.Rows
section
variable {X : Cx}
theorem call_minL (hc : X.calm = true) : CallR X (.builtin "min") (fun xs H Q => ∃ p, ∃ ns : List Int, xs = [.ref p] ∧ SqL X.K H p (ns.map V.int) ∧ 0 < ns.length ∧ ∀ m, m ∈ ns → (∀ x ∈ ns, m ≤ x) → Q (.int m) H) := by
  intro pins s σ H xs us Q I r h
  obtain ⟨p, ns, rfl, hq, hne, q⟩ := h
  obtain ⟨u, rfl, ru⟩ := vals1 r
  cases ru
  obtain ⟨its, rv, pl, hz⟩ := I.list hq
  have hi := intsAre_of rv
  obtain ⟨xs, e⟩ := hi.allInts.items
  have hns : ns = xs.toList.map (·.1) := by
    rw [← hi.numsOf, ← nums_intItems, ← e]
  have hsz : 0 < xs.size := by
    have h3 := hne
    rw [hns, List.length_map, Array.length_toList] at h3
    exact h3
  have hl := pl.isList
  rw [e] at hl
  refine min_intList (I.ok.hd hc) hl hsz fun v h' tk hv hk => ?_
  obtain ⟨t, rfl⟩ := intItems_at hv
  obtain ⟨h1, h2⟩ := argBest_lt (numAt xs) (xs.size - 1)
  refine ⟨.int _, H, I.kept (t' := tk) hk, ⟨t, rfl⟩, q _ ?_ fun a ha => ?_⟩
  · rw [hns, numAt_eq]
    exact getD_mem (by rw [List.length_map, Array.length_toList]; omega)
  · rw [hns] at ha
    obtain ⟨j, hj, rfl⟩ := mem_getD ha
    rw [List.length_map, Array.length_toList] at hj
    rw [← numAt_eq]
    exact h2 j (by omega)
theorem call_maxL (hc : X.calm = true) : CallR X (.builtin "max") (fun xs H Q => ∃ p, ∃ ns : List Int, xs = [.ref p] ∧ SqL X.K H p (ns.map V.int) ∧ 0 < ns.length ∧ ∀ m, m ∈ ns → (∀ x ∈ ns, x ≤ m) → Q (.int m) H) := by
  intro pins s σ H xs us Q I r h
  obtain ⟨p, ns, rfl, hq, hne, q⟩ := h
  obtain ⟨u, rfl, ru⟩ := vals1 r
  cases ru
  obtain ⟨its, rv, pl, hz⟩ := I.list hq
  have hi := intsAre_of rv
  obtain ⟨xs, e⟩ := hi.allInts.items
  have hns : ns = xs.toList.map (·.1) := by
    rw [← hi.numsOf, ← nums_intItems, ← e]
  have hsz : 0 < xs.size := by
    have h3 := hne
    rw [hns, List.length_map, Array.length_toList] at h3
    exact h3
  have hl := pl.isList
  rw [e] at hl
  refine max_intList (I.ok.hd hc) hl hsz fun v h' tk hv hk => ?_
  obtain ⟨t, rfl⟩ := intItems_at hv
  obtain ⟨h1, h2⟩ := argBest_gt (numAt xs) (xs.size - 1)
  refine ⟨.int _, H, I.kept (t' := tk) hk, ⟨t, rfl⟩, q _ ?_ fun a ha => ?_⟩
  · rw [hns, numAt_eq]
    exact getD_mem (by rw [List.length_map, Array.length_toList]; omega)
  · rw [hns] at ha
    obtain ⟨j, hj, rfl⟩ := mem_getD ha
    rw [List.length_map, Array.length_toList] at hj
    rw [← numAt_eq]
    exact h2 j (by omega)
def hMax (ds : List D) (Q : D → Prop) : Prop := ∃ ns : List Int, ds = [.lst (ns.map D.int)] ∧ 0 < ns.length ∧ ∀ m, m ∈ ns → (∀ x ∈ ns, x ≤ m) → Q (.int m)
variable {E : XK} {e : Expr} {p pos : Pos}
theorem de_max {ga : GA} (hc : X.calm = true) (hg : Gl X "max") (hm : X.mg "max" = none) (ha : DA X E [e] ga) (he : starEach [e] X.env = [(false, eval e X.env)] := by rfl) : DE X E (.Call (.Name "max" p) [e] [] pos) (gCB hMax ga) :=
  de_callB (call_maxL hc) (fun F H vs ds Qd Q s r h fin => by
    obtain ⟨ns, rfl, hl, q⟩ := h
    obtain ⟨x, _, rfl, ⟨a, ys, rfl, hF, rs⟩, e⟩ := r
    cases (show _ = [] from e)
    rw [Reps.ints_eq rs] at hF
    exact ⟨a, ns, rfl, SqL.of (s _ _ hF), hl, fun m m1 m2 => fin.now s (q m m1 m2) rfl⟩) hg hm boot_max ha (by decide) (by decide) he rfl
end
end L2
namespace L2
open PySem PySem.Spec PyProof.Rows
structure Chain (os : List Int) (k : Int) (rs : List Int) : Prop where
  ne : 0 < rs.length
  hd : rs.getD 0 0 = k
  nd : rs.Nodup
  inr : ∀ x ∈ rs, 0 ≤ x ∧ x < (os.length : Nat)
  step : ∀ j, j + 1 < rs.length → rs.getD (j + 1) 0 = at0 os (rs.getD j 0)
structure Orbit (os : List Int) (k : Int) (rs : List Int) : Prop extends Chain os k rs where
  last : at0 os (rs.getD (rs.length - 1) 0) = k
structure RoundsTo (os : List Int) (k : Nat) (rss : List (List Int)) : Prop where
  orb : ∀ rs ∈ rss, ∃ l, Orbit os l rs ∧ l < (k : Nat) ∧ ∀ x ∈ rs, l ≤ x
  up : (rss.map fun rs => rs.getD 0 0).Pairwise (· < ·)
  nd : rss.flatten.Nodup
  all : ∀ j : Nat, j < k → ((j : Nat) : Int) ∈ rss.flatten
end L2
namespace L2
open PySem PySem.Spec PyProof.Rows
section
variable {X : Cx} {e : Expr} {te : TE} {lo hi : Option Expr} {tl th ts : TO} {pos p2 : Pos}
end
section
variable {X : Cx}
end
end L2
namespace L2
open PySem PySem.Spec PyProof.Rows
abbrev GP := DEnv → Exs → (Option Int → Prop) → Prop
def DTP (K : PySem.W.Frag) (E : XK) (g : GP) : TO := fun σ H Q => ∃ F env Ex Qd, Same F H ∧ Slots K F H σ env ∧ ExOk E Ex H ∧ g env Ex Qd ∧ ∀ o F' H', Qd o → Grow F H F' H' → Q o H'
structure DP (X : Cx) (E : XK) (e : Option Expr) (g : GP) : Prop where
  h : PO X e (DTP X.K E g)
section
variable {X : Cx} {E : XK} {pos p p2 : Pos} {a b c e : Expr} {lo hi : Option Expr} {g : GE} {gl gh gs : GP}
end
end L2
namespace L2
open PySem PySem.Spec PyProof.Rows
abbrev ZipR (h : Heap) (z TI TO : Addr) (f0 f1 : Value) : Prop :=
  h.get? z = some { cls := .type "zip", dict := none, data := .fields #[f0, f1, .bool false, .ref TI, .ref TO], slots := #[] }
section
variable {prog : Program} {w : World} {A : Around} {E : Value → Shared → Prop} {s : Shared}
theorem alive_ {M : Model} {a : Addr} {Q : Option Obj → Shared → Prop} (h : Q (s.heap.get? a) s) : wpAny M A (loadIfAlive a) Q E s := fun _ _ _ => h
end
section
variable {X : Cx} {E : XK} {x : Str} {tpos p pos : Pos} {a b : Expr}
end
end L2
namespace L2
open PySem PySem.Spec PyProof.Rows
abbrev GK := DEnv → Exs → (List (Key × D) → Prop) → Prop
def DTK (K : PySem.W.Frag) (E : XK) (g : GK) (σ : St) (H : Hp) (Q : List (V × V) → Hp → Prop) : Prop := ∃ F env Ex Qd, Same F H ∧ Slots K F H σ env ∧ ExOk E Ex H ∧ g env Ex Qd ∧ ∀ ps kvs F' H', Qd ps → Grow F H F' H' → RepKV K F' ps kvs → Q (kvs.map fun kv => (kV kv.1, kv.2)) H'
structure DKs (X : Cx) (E : XK) (pos : Pos) (keys : List (Option Expr)) (values : List Expr) (g : GK) : Prop where
  h : ∃ trs, PPs X pos keys values trs ∧ ∀ σ H Q, DTK X.K E g σ H Q → tPairs trs σ H Q
section
variable {X : Cx} {E : XK} {pos p : Pos} {a b c e : Expr} {keys : List (Option Expr)} {values : List Expr} {ga gb : GE} {gr : GK}
end
end L2
namespace L2
open PySem
def bits (f : List Int) : Prop := ∀ b ∈ f, b = 0 ∨ b = 1
inductive Net where
  | sw (b : Int) | node (f : List Int) (u l : Net) (g : List Int)
def Net.D : Net → L2.D
  | .sw b => .int b
  | .node f u l g => .tup [.lst (f.map .int), u.D, l.D, .lst (g.map .int)]
def ln : Nat → Nat
  | 0 => 2
  | j + 1 => 2 * ln j
def Net.Ok : Nat → Net → Prop
  | 0, .sw b => b = 0 ∨ b = 1
  | j + 1, .node f u l g => f.length = ln j ∧ g.length = ln j ∧ bits f ∧ bits g ∧ u.Ok j ∧ l.Ok j
  | _, _ => False
end L2
namespace L2
open PySem
def bes (i : Int) : Int := if i % 2 = 0 then i + 1 else i - 1
def oat (ls : List (Option Int)) (i : Int) : Option Int := ls.getD i.toNat none
def Up (ls : List (Option Int)) (p : Int) : Prop := oat ls (p / 2) = some (p % 2)
def nxt (os bs : List Int) (p : Int) : Int := bes (at0 os (bes (at0 bs p)))
structure Half (m : Nat) (os bs : List Int) (fs ls : List (Option Int)) (now : Int → Prop) : Prop where
  fl : fs.length = m
  ll : ls.length = m
  lb : ∀ q t : Int, oat ls q = some t → t = 0 ∨ t = 1
  nx : ∀ p : Int, 0 ≤ p → p < 2 * (m : Nat) → Up ls p → Up ls (nxt os bs p) ∨ now (nxt os bs p)
  ft : ∀ p : Int, 0 ≤ p → p < 2 * (m : Nat) → Up ls p → oat fs (at0 bs p / 2) = some (at0 bs p % 2)
section
variable {m : Nat} {os bs : List Int} {fs ls : List (Option Int)}
structure EndsOK (m : Nat) (os : List Int) (f g : List Int) : Prop where
  fl : f.length = m
  gl : g.length = m
  fb : bits f
  gb : bits g
  g0 : g.getD 0 0 = 0
  up : ∀ c : Nat, c < m → at0 g (at0 os (2 * (c : Nat) + f.getD c 0) / 2) = at0 os (2 * (c : Nat) + f.getD c 0) % 2
  lo : ∀ c : Nat, c < m → at0 g (at0 os (2 * (c : Nat) + 1 - f.getD c 0) / 2) = 1 - at0 os (2 * (c : Nat) + 1 - f.getD c 0) % 2
end
section
variable {m : Nat} {os f g : List Int}
end
def oD : Option Int → D
  | none => .non
  | some i => .int i
end L2
namespace L2
open PySem PySem.Spec PyProof.Rows
section
variable {X : Cx} {E : XK} {e : Expr} {p pos : Pos}
theorem call_sumL (hc : X.calm = true) : CallR X (.builtin "sum") (fun xs H Q => ∃ p, ∃ ns : List Int, xs = [.ref p] ∧ SqL X.K H p (ns.map V.int) ∧ Q (.int ns.sum) H) := by
  intro pins s σ H xs us Q I r h
  obtain ⟨p, ns, rfl, hq, q⟩ := h
  obtain ⟨u, rfl, ru⟩ := vals1 r
  cases ru
  obtain ⟨its, rv, pl, hz⟩ := I.list hq
  have hi := intsAre_of rv
  obtain ⟨xs, e⟩ := hi.allInts.items
  have hns : ns = xs.toList.map (·.1) := by
    rw [← hi.numsOf, ← nums_intItems, ← e]
  have hl := pl.isList
  rw [e] at hl
  refine sum_intListG (I.ok.hd hc) hl fun h' tk t hk => ?_
  refine ⟨.int _, H, I.kept (t' := tk) hk, ⟨t, rfl⟩, ?_⟩
  rw [preSum_eq, ← hns, List.take_of_length_le (by rw [hns, List.length_map, Array.length_toList]; exact Nat.le_refl _)]
  exact q
def hSum (ds : List D) (Q : D → Prop) : Prop := ∃ ns : List Int, ds = [.lst (ns.map D.int)] ∧ Q (.int ns.sum)
theorem de_sum {ga : GA} (hc : X.calm = true) (hg : Gl X "sum") (hm : X.mg "sum" = none) (ha : DA X E [e] ga) (he : starEach [e] X.env = [(false, eval e X.env)] := by rfl) : DE X E (.Call (.Name "sum" p) [e] [] pos) (gCB hSum ga) :=
  de_callB (call_sumL hc) (fun F H vs ds Qd Q s r h fin => by
    obtain ⟨ns, rfl, q⟩ := h
    obtain ⟨x, _, rfl, ⟨a, ys, rfl, hF, rs⟩, e⟩ := r
    cases (show _ = [] from e)
    rw [Reps.ints_eq rs] at hF
    exact ⟨a, ns, rfl, SqL.of (s _ _ hF), fin.now s q rfl⟩) hg hm boot_sum ha (by decide) (by decide) he rfl
end
end L2
namespace L2
open PySem PySem.Spec PyProof.Rows
section
variable {X : Cx} {tg : Expr}
end
end L2
namespace L2
open PySem PySem.Spec PyProof.Rows
section
variable {X : Cx} {E : XK} {pos p : Pos} {e : Expr} {es : List Expr} {g : GA} {ge : GE}
end
def gExtL (i : Nat) (g : GE) : GS := fun Dd Ex env => match env[i]? with
  | some (.own ds) => g env Ex fun d => match d with
    | .lst es => ds.length + es.length ≤ sizeLine ∧ Dd.nx (env.set i (.own (ds ++ es)))
    | _ => False
  | _ => False
section
variable {X : Cx} {E : XK} {pos p : Pos} {e : Expr} {g : GE}
theorem ds_extendL {i : Nat} {x : Str} {np apos cpos : Pos} (hN : X.N[i]? = some x) (hv : Vis X.env.scope x) (he : DE X E e g) (hd : (x == ("__debug__" : Str)) = false := by decide) (hcd : (x == ("__classdict__" : Str)) = false := by decide)
    (hs1 : starEach [e] X.env = [(false, eval e X.env)] := by rfl)
    (hfew : ((backTo cpos (starEach [e] X.env)).all (fun x => !x.1) && (backToKw cpos (keywordEach [] X.env)).all (fun x => x.1.isSome)
      && decide ([e].length + ([] : List Keyword).length + (if ([] : List Keyword).isEmpty then 0 else 1) < 30)) = true := by rfl)
    (hbase : attributeBase (.Name x np) "extend" X.env (eval (.Name x np) X.env) = eval (.Name x np) X.env := by rfl) (hline : (apos.endLine == cpos.line) = true := by rfl)
    (hs : swapsWith (.Call (.Attribute (.Name x np) "extend" apos) [e] [] cpos) none pos.line X.env = pure false := by rfl) : DSt X E (.Expr (.Call (.Attribute (.Name x np) "extend" apos) [e] [] cpos) pos) (gExtL i g) := ⟨fun F0 H0 s0 =>
  PS.weak (ps_expr (pe_bm PySem.F.plainAttrs_list PySem.F.slot_list_extend PySem.F.type_list_extend mt_extend (pe_var hN hv hd hcd) (pa_cons he.h pa_nil hs1) hbase hfew hline hs1 rfl) hs) fun Dn σ H ⟨F, env, Ex, Dd, gr, sl, fr, ex, q, en⟩ => by
    unfold gExtL at q
    split at q
    · rename_i ds e
      obtain ⟨l, xs, e1, f, hl, r⟩ := sl.ok i _ e
      refine ⟨.ref l, join_some e1, .inl ⟨rfl, xs, SqL.of hl⟩, F, env, Ex, _, gr.sub, sl, ex.step gr.hh, q, fun d v F' H' p g' rv => ?_⟩
      cases d with
      | lst es =>
        obtain ⟨b, zs, rfl, hb, rz⟩ := rv
        have sl' := sl.grow g'
        obtain ⟨l2, xs2, e2, f2, hl2, r2⟩ := sl'.ok i _ e
        rw [e1] at e2
        cases e2
        have h0 := fr i _ l e rfl e1
        refine ⟨l, b, xs2, zs, rfl, rfl, hl2, g'.sub _ _ hb, by rw [r2.length, rz.length]; exact p.1, en.nx _ σ F' _ p.2 ((gr.trans g').mut f2 h0) (sl'.mut e rfl rfl e1 ⟨l, _, rfl, f2, upd_same, r2.append rz⟩) (fr.mut e rfl)⟩
      | _ => exact (show False from p).elim
    · exact q.elim⟩
end
end L2
namespace HT
open PySem PyProof.Rows
section
open PySem.SeqAt
open PySem.AutoSeq1 (wpAny_loadPart')
open PySem.MeetsSeq PySem.MeetsSeq2 PySem.MeetsSeq3
end
end HT
namespace L2
open PySem PySem.Spec PyProof.Rows
section
variable {X : Cx}
def CDivB (i j : Int) : Prop := 0 < j ∧ j < 2 ^ 64
end
end L2
namespace L2
open PySem PySem.Spec PyProof.Rows
section
variable {X : Cx} {E : XK} {pos p : Pos} {a b e : Expr} {ga gb : GE}
abbrev hDivB := hIIc CDivB fun i j => .int (i / j)
end
end L2
namespace L2
open PySem PySem.Spec PyProof.Rows
section
variable {X : Cx} {E : XK} {pos p p2 : Pos} {e : Expr} {lo hi : Option Expr} {g : GT} {gl gh : GP}
end
end L2
namespace L2
open PySem PySem.Spec PyProof.Rows
section
variable {X : Cx} {E : XK} {pos p : Pos} {e : Expr} {es : List Expr}
end
end L2
namespace L2
open PySem PySem.Spec PyProof.Rows
def rows : Nat → List (List Int)
  | 0 => [[]]
  | n + 1 => (rows n).map (0 :: ·) ++ (rows n).map (1 :: ·)
def whIn (d : D) (lo hi : Int) : Bool := match d with
  | .int i => decide (lo ≤ i) && decide (i ≤ hi)
  | _ => false
def fWIn : DSp := fun ds _ Q => ∃ d lo hi, ds = [d, .int lo, .int hi] ∧ nsc d = true ∧ Q (.bl (whIn d lo hi))
end L2
namespace L2
open PySem PySem.Spec PyProof.Rows
def fac : Nat → Nat
  | 0 => 1
  | n + 1 => (n + 1) * fac n
def cnt (x : Int) (t : List Int) : Nat := (t.filter fun z => decide (z < x)).length
def rk : List Int → Nat
  | [] => 0
  | x :: t => cnt x t * fac t.length + rk t
end L2
namespace L2
open PySem PySem.Spec PyProof.Rows
def pre (i : Int) (d : D) : D := match d with
  | .lst r => .lst (.int i :: r)
  | d => d
theorem intsTo_at {n k : Nat} {d : D} (h : (intsTo n)[k]? = some d) : k < n ∧ d = .int (k : Nat) := by
  have lt : k < n := by
    have := (List.getElem?_eq_some_iff.mp h).1
    rwa [intsTo_length] at this
  rw [intsTo_eq, List.getElem?_map, uptoL_get lt] at h
  cases h
  exact ⟨lt, rfl⟩
theorem modN {c : Int} {m : Nat} (k : Nat) (h : 0 < m) : ∃ n : Nat, (k : Int) + c % (m : Nat) = ((n : Nat) : Int) ∧ k ≤ n ∧ n < k + m := by
  have h1 := Int.emod_nonneg c (show ((m : Nat) : Int) ≠ 0 by omega)
  have h2 := Int.emod_lt_of_pos c (show (0 : Int) < (m : Nat) by omega)
  exact ⟨((k : Int) + c % (m : Nat)).toNat, by omega, by omega, by omega⟩
theorem seq_key {t u : GS} {Dd : DEnds} {Ex : Exs} {env : DEnv} (P : DEnv → Prop) (h2 : ∀ e, P e → u Dd Ex e) (h1 : (∀ e, P e → u Dd Ex e) → t { Dd with nx := u Dd Ex } Ex env) : gSeq t u Dd Ex env := h1 h2
end L2
namespace L2
open PySem PySem.Spec PyProof.Rows
abbrev DSt' := List D → List D → (D → Prop) → Prop
section
variable {P : Program} {w : World} {K : PySem.W.Frag} {mg : Str → Option Value} {base : Heap}
end
section
variable {X : Cx} {E : XK} {pos p : Pos} {es : List Expr}
end
end L2
namespace L2
open PySem PySem.Spec PyProof.Rows
end L2
namespace L2
open PySem PySem.Spec PyProof.Rows
end L2
namespace L2
open PySem PySem.Spec PyProof.Rows
section
variable {X : Cx} {tg : Expr}
end
end L2
namespace L2
open PySem PySem.Spec PyProof.Rows
section
variable {X : Cx} {E : XK} {pos p : Pos} {a b e : Expr} {ga gb g : GE}
end
end L2
namespace L2
open PySem PySem.Spec PyProof.Rows
end L2
namespace L2
open PySem PySem.Spec PyProof.Rows
section
variable {X : Cx}
end
end L2
namespace L2
open PySem PySem.Spec PyProof.Rows
section
variable {X : Cx} {E : XK} {pos p p2 : Pos} {a b e : Expr} {lo hi : Option Expr} {g gb : GE} {gl gh : GP} {keys : List (Option Expr)} {values : List Expr} {gr : GK}
end
end L2
namespace L2
open PySem PySem.Spec PyProof.Rows
end L2
namespace L2
open PySem PySem.Spec PyProof.Rows
theorem lk1 {x y : Str} {n c : Addr} {cl : List (Str × Addr)} (h : ((x, n) :: cl).lookup y = some c) : (y = x ∧ c = n) ∨ cl.lookup y = some c := by
  rw [List.lookup_cons] at h
  split at h
  · rename_i e
    cases h
    exact .inl ⟨beq_iff_eq.mp e, rfl⟩
  · exact .inr h
structure CompOk1 (X : Cx) (scope : Scope) (cl : List (Str × Addr)) (x : Str) (tn fn : List Str) (fv : List Nat) : Prop where
  kind : scope.kind = .function
  lay : ∀ n, cellsFrom n scope.names cl = (x, n) :: cl
  push : ∀ h, pushCells h scope.names = h.push { cls := .type "cell", data := .cell none }
  names : ∀ y ∈ scope.names, y.2 = .local → scope.names.lookup y.1 = some .local
  clos : closureFor scope X.env = pure cl
  cells : ∀ y c, cl.lookup y = some c → X.env.cells.lookup y = some c
  free : ∀ y (n : Addr), ((relabel scope X.env).names.lookup y = some .cell ∨ (relabel scope X.env).names.lookup y = some .free) → ∃ c, ((x, n) :: cl).lookup y = some c
  slots : ∀ (j : Nat) (y : Str), fn[j]? = some y → ∃ k, fv[j]? = some k ∧ X.N[k]? = some y ∧ Vis X.env.scope y ∧ X.env.kindOf y = some .cell ∧ (relabel scope X.env).names.lookup y = some .cell
  nx : x ∉ fn
  len : fv.length = fn.length
def compCx1 (X : Cx) (scope : Scope) (cl : List (Str × Addr)) (x : Str) (Nc : List Str) (C : Addr) (fp : List Addr) (pins : List (Addr × Obj)) (s3 : Shared) (H3 : Hp) : Cx :=
  { X with N := Nc, s₀ := s3, H₀ := H3, env := compEnvC scope ((x, C + 1) :: cl) C X.env, outer := X.stack, ex := fp, fn := fun y => !(cl.lookup y).isSome, pn := X.pn ++ pins, xe := fun _ _ => False }
theorem new_env1 {M : Model} {A : Around} {E : Value → Shared → Prop} {s : Shared} {scope : Scope} {globals : Addr} {cl : List (Str × Addr)} {qual : Str} {outer : Env} {Q : Env → Shared → Prop}
    (hQ : Q (newEnv scope s.heap.objs.size globals (cellsFrom (s.heap.objs.size + 1) scope.names cl) qual none .none (some outer) builtinsNs) { s with heap := pushCells (s.heap.push { cls := .type "dict", data := .dict #[] }) scope.names }) :
    wpAny M A (newFunctionEnv scope globals cl [] qual none .none (some outer)) Q E s := by
  simp only [newFunctionEnv, Option.isSome_some, if_true]
  refine wpAny_bind (wpAny_alloc ?_)
  refine wpAny_bind (wpAny_layCells _ (fun name kind cells => by cases hkc : kind == NameKind.cell <;> simp [hkc]) _ _ _ _ ?_)
  rw [show ({ s with heap := s.heap.push { cls := .type "dict", data := .dict #[] } } : Shared).heap.objs.size = s.heap.objs.size + 1 from Heap.size_push ..]
  rw [List.forIn_nil]
  exact wpAny_bind (wpAny_pure (wpAny_pure hQ))
section
variable {X : Cx} {elt iter target : Expr} {pos : Pos} {ifs : List Expr} {scope : Scope} {cl : List (Str × Addr)} {x : Str} {tn fn : List Str} {fv : List Nat} {wi : TI} {g : TG} {tt : TT} {te : TE} {pins : List (Addr × Obj)} {σ : St} {H : Hp} {s : Shared}
theorem compIn1 {s3 s4 : Shared} {H3 : Hp} {C : Addr} {fp : List Addr} {m : Str → Option Value} (S : CompOk1 X scope cl x tn fn fv) (I3 : Inv X pins σ H3 s3) (hC : C = s3.heap.objs.size) (hfp : ∀ b ∈ fp, FpOk X pins H3 b ∧ b < s3.heap.objs.size)
    (h4 : s4.os = s3.os ∧ s4.gens = s3.gens) (hns : s4.heap.Ns C m) (hcell : s4.heap.get? (C + 1) = some { cls := .type "cell", data := .cell none }) (old : ∀ b o, s3.heap.get? b = some o → s4.heap.get? b = some o) :
    Inv (compCx1 X scope cl x (tn ++ fn) C fp pins s3 H3) [] (List.replicate tn.length none ++ fv.map fun j => (σ[j]?).join) H3 s4 := by
  have lk : ∀ {y : Str} {c : Addr}, ((x, C + 1) :: cl).lookup y = some c → (y = x ∧ c = C + 1) ∨ cl.lookup y = some c := fun {y c} h => lk1 h
  have oldlt : ∀ {y : Str} {c : Addr}, cl.lookup y = some c → c < C := fun {y c} e => by
    obtain ⟨v, o, ho, _⟩ := I3.cell y c (S.cells y c e)
    rw [hC]
    exact Heap.lt_size ho
  have hCf : H3 C = none := by rw [hC]; exact I3.hok.fresh (Nat.le_refl _)
  have ltC : ∀ b o, s3.heap.get? b = some o → b ≠ C := fun b o e => by rw [hC]; exact Nat.ne_of_lt (Heap.lt_size e)
  refine ⟨⟨I3.ok.mod, ?_, I3.ok.glob, I3.ok.blt, Nat.le_of_eq hC.symm, fun y z c h1 h2 => ?inj, fun y hy => S.free y (C + 1) hy, fun y c h1 h2 => ?_, I3.ok.hd, I3.ok.frames, .inl rfl, fun b hb => ?_, I3.bs, Nat.le_trans I3.ok.bsz I3.sz, fun b o e hb => ?_, fun b hb => ?_, I3.stack, I3.stkFree⟩,
    h4.1, by rw [h4.2]; exact I3.bare, Un.kept old, ⟨m, hns, fun i y v e1 e2 e3 => ?_⟩, fun y c e => ?_, hCf, fun y c e => ?frc, fun p hp => ?_, I3.hok.kept old, ?_⟩
  case inj =>
    rcases lk h1 with ⟨e1, f1⟩ | e1
    · rcases lk h2 with ⟨e2, f2⟩ | e2
      · rw [e1, e2]
      · have lt := oldlt e2
        rw [f1] at lt
        exact absurd (Nat.lt_of_succ_lt lt) (Nat.lt_irrefl _)
    · rcases lk h2 with ⟨e2, f2⟩ | e2
      · have lt := oldlt e1
        rw [f2] at lt
        exact absurd (Nat.lt_of_succ_lt lt) (Nat.lt_irrefl _)
      · exact I3.ok.inj y z c (S.cells y c e1) (S.cells z c e2)
  case frc =>
    rcases lk e with ⟨e1, f1⟩ | e1
    · rw [f1, hC]
      exact I3.hok.fresh (Nat.le_succ _)
    · exact I3.freeC y c (S.cells y c e1)
  · show (relabel scope X.env).kind = .function
    exact S.kind
  · have z : (!(cl.lookup y).isSome) = true := h1
    show s3.heap.objs.size ≤ c
    rcases lk h2 with ⟨e1, f1⟩ | e
    · rw [f1, hC]
      exact Nat.le_succ _
    · rw [e] at z
      cases z
  · obtain ⟨⟨_, _, _, _, f4, _⟩, lt⟩ := hfp b hb
    exact ⟨by show b ≠ C; rw [hC]; exact Nat.ne_of_lt lt, fun y c e => by
      rcases lk e with ⟨e1, f1⟩ | e
      · rw [f1, hC]; exact Nat.ne_of_gt (Nat.lt_succ_of_lt lt)
      · exact f4 y c (S.cells y c e)⟩
  · obtain ⟨⟨_, _, _, f3, _⟩, _⟩ := hfp b hb
    rcases f3 with z | z
    · exact I3.ok.noex b o e z
    · exact absurd (Nat.lt_of_lt_of_le (Heap.lt_size (I3.ok.bs b o e).1) z) (Nat.lt_irrefl _)
  · obtain ⟨⟨_, f1, f2, _⟩, _⟩ := hfp b hb
    intro mm
    rcases List.mem_cons.mp (I3.stkSub b mm) with z | z
    · exact f1 z
    · exact f2 z
  · have e1 : (tn ++ fn)[i]? = some y := e1
    by_cases hi : i < tn.length
    · rw [List.getElem?_append_left (by rw [List.length_replicate]; exact hi), List.getElem?_replicate, if_pos hi] at e2
      cases Option.some.inj e2
    · rw [List.getElem?_append_right (by omega)] at e1
      rw [List.getElem?_append_right (by rw [List.length_replicate]; omega), List.length_replicate] at e2
      obtain ⟨k, f1, f2, f3, f4, f5⟩ := S.slots _ y e1
      rw [List.getElem?_map, f1] at e2
      have e2 : (σ[k]?).join = some v := Option.some.inj e2
      have e2 : σ[k]? = some (some v) := by
        cases q : σ[k]? with
        | none => rw [q] at e2; cases e2
        | some o => rw [q] at e2; have e2 : o = some v := e2; rw [e2]
      obtain ⟨m3, hn3, hl3⟩ := I3.loc
      obtain ⟨u, ru, l⟩ := hl3 k y v f2 e2 f3
      refine ⟨u, ru, .inr ⟨.inl f5, ?_⟩⟩
      rcases l with ⟨kk, _⟩ | ⟨_, c, hc, z⟩
      · rw [f4] at kk
        cases kk
      · obtain ⟨c', e'⟩ := S.free y (C + 1) (.inl f5)
        have e'' : X.env.cells.lookup y = some c' := by
          rcases lk e' with ⟨z1, z2⟩ | z
          · exact absurd (z1 ▸ List.mem_of_getElem? e1) S.nx
          · exact S.cells y c' z
        rw [hc] at e''
        cases e''
        obtain ⟨o, ho, hd⟩ := z
        exact ⟨c, e', o, old c o ho, hd⟩
  · rcases lk e with ⟨z1, z2⟩ | e
    · subst z2
      exact ⟨none, _, hcell, rfl⟩
    · obtain ⟨v, o, ho, hd⟩ := I3.cell y c (S.cells y c e)
      exact ⟨v, o, old c o ho, hd⟩
  · rw [List.append_nil] at hp
    obtain ⟨e, n, ne, nf, d⟩ := I3.pin p hp
    refine ⟨old _ _ e, n, ltC _ _ e, fun mm => ?_, d⟩
    rcases List.mem_cons.mp (I3.stkSub p.1 mm) with z | z
    · exact ne z
    · exact nf z
  · show (List.replicate tn.length none ++ fv.map fun j => (σ[j]?).join).length = (tn ++ fn).length
    rw [List.length_append, List.length_append, List.length_replicate, List.length_map, S.len]
theorem comp_core1 {Q0 : VK} {RR : Value → Addr → Result → Shared → Prop} (hc : X.calm = true) (hi : PI X target iter wi) (S : CompOk1 X scope cl x tn fn fv)
    (hg : ∀ C fp ps s3 H3, PG (compCx1 X scope cl x (tn ++ fn) C fp ps s3 H3) target g)
    (ht : ∀ C fp ps s3 H3, PIfs (compCx1 X scope cl x (tn ++ fn) C fp ps s3 H3) ifs tt) (he : ∀ C fp ps s3 H3, PE (compCx1 X scope cl x (tn ++ fn) C fp ps s3 H3) elt te)
    (I : Inv X pins σ H s) (h : tCompT wi fv tn.length g tt te σ H Q0)
    (fin : ∀ (D C : Addr) (H' : Hp) (s' : Shared) (m : Str → Option Value), s'.heap.Ns C m → FpOk X pins H' C → Inv X pins σ H' s' → Q0 (.ref D) H' → RR (.ref D) C (.ok .next) s') :
    wpAny (model X.prog X.w) X.A (eval iter X.env) (fun xv s₁ => wpAny (model X.prog X.w) X.A (pyIter xv) (fun it s₂ => wpAny (model X.prog X.w) X.A (newList []) (fun acc s₃ =>
      wpAny (model X.prog X.w) X.A (newFunctionEnv scope X.env.globals cl [] X.env.qual none .none (some X.env)) (fun cenv s₄ =>
        codeAny (model X.prog X.w) X.A (.compStart (.ListComp elt [⟨target, iter, ifs, 0⟩] scope pos) 0 it acc { cenv with scope := relabel scope X.env }) (RR acc cenv.locals) s₄) X.xe s₃) X.xe s₂) X.xe s₁) X.xe s := by
  refine thn (hi pins s σ H _ I h) fun xv s1 h1 => thn h1 fun itv s2 h2 => ?_
  obtain ⟨it, fp, tnn, J, H2, e, I2, T, st2, f2, q⟩ := h2
  subst e
  have hD : H2 s2.heap.objs.size = none := I2.hok.fresh (Nat.le_refl _)
  obtain ⟨W, ⟨m0, w0⟩, turnW⟩ := q _ hD
  refine wpAny_newObj_type (new_env1 ?_)
  rw [S.lay, S.push]
  obtain ⟨h₁, eh₁⟩ : ∃ h₁, h₁ = ((s2.heap.push { cls := .type "list", data := .seq ([] : List Value).toArray }).push { cls := .type "dict", data := .dict #[] }).push { cls := .type "cell", data := .cell none } := ⟨_, rfl⟩
  have hns₁ : h₁.Ns (s2.heap.push { cls := .type "list", data := .seq ([] : List Value).toArray }).objs.size (fun _ => none) := by
    rw [eh₁]
    exact (Heap.Ns.new _ (.type "dict")).keeps fun b o e => Heap.get?_push_of_some _ e
  have hcell₁ : h₁.get? ((s2.heap.push { cls := .type "list", data := .seq ([] : List Value).toArray }).objs.size + 1) = some { cls := .type "cell", data := .cell none } := by
    rw [eh₁, ← Heap.size_push (s2.heap.push { cls := .type "list", data := .seq ([] : List Value).toArray }) { cls := .type "dict", data := .dict #[] }]
    exact Heap.get?_push_size _ rfl
  rw [← eh₁]
  have I3 : Inv X pins σ (upd H2 s2.heap.objs.size (.lst [])) { s2 with heap := s2.heap.push { cls := .type "list", data := .seq ([] : List Value).toArray }, toks := s2.toks } := I2.lnew (its := []) .nil (Nat.zero_le _)
  have obj2 : ∀ b ∈ fp, ∃ o, s2.heap.get? b = some o := fun b hb => let ⟨o, e, _⟩ := T.obj 0 _ st2 b hb; ⟨o, e⟩
  have ltf : ∀ b ∈ fp, b < s2.heap.objs.size := fun b hb => let ⟨o, e⟩ := obj2 b hb; Heap.lt_size e
  have size3 : (s2.heap.push { cls := .type "list", data := .seq ([] : List Value).toArray }).objs.size = s2.heap.objs.size + 1 := Heap.size_push _ _
  have hfp3 : ∀ b ∈ fp, FpOk X pins (upd H2 s2.heap.objs.size (.lst [])) b ∧ b < (s2.heap.push { cls := .type "list", data := .seq ([] : List Value).toArray }).objs.size := fun b hb =>
    ⟨⟨by rw [upd_ne (Nat.ne_of_lt (ltf b hb))]; exact (f2 b hb).1, (f2 b hb).2⟩, by rw [size3]; exact Nat.lt_succ_of_lt (ltf b hb)⟩
  have old : ∀ b o, (s2.heap.push { cls := .type "list", data := .seq ([] : List Value).toArray }).get? b = some o → h₁.get? b = some o := fun b o e => by
    rw [eh₁]
    exact Heap.get?_push_of_some _ (Heap.get?_push_of_some _ e)
  have I4 := compIn1 (s4 := { s2 with heap := h₁, toks := s2.toks }) (fp := fp) S I3 rfl hfp3 ⟨rfl, rfl⟩ hns₁ hcell₁ old
  have st4 : tnn 0 h₁ := T.keep 0 _ _ st2 fun b hb o e => old b o (Heap.get?_push_of_some _ e)
  have stat : ∀ {ps : List (Addr × Obj)} {H' : Hp}, ps = [] → (∀ b ∈ fp, H' b = none) → ∀ b ∈ fp, FpOk (compCx1 X scope cl x (tn ++ fn) (s2.heap.push { cls := .type "list", data := .seq ([] : List Value).toArray }).objs.size fp pins
      { s2 with heap := s2.heap.push { cls := .type "list", data := .seq ([] : List Value).toArray }, toks := s2.toks } (upd H2 s2.heap.objs.size (.lst []))) ps H' b := fun {ps H'} e hn b hb => by
    subst e
    obtain ⟨⟨_, f1, f2', f3, f4, f5⟩, lt⟩ := hfp3 b hb
    refine ⟨hn b hb, Nat.ne_of_lt lt, fun mm => ?_, .inl hb, fun y c e => (by
      rcases lk1 e with ⟨e1, f1⟩ | e
      · rw [f1]; exact Nat.ne_of_gt (Nat.lt_succ_of_lt lt)
      · exact f4 y c (S.cells y c e)), fun p hp => ?_⟩
    · rcases List.mem_cons.mp (I3.stkSub b mm) with z | z
      · exact f1 z
      · exact f2' z
    · rw [List.append_nil] at hp
      exact f5 p hp
  have loop : codeAny (model X.prog X.w) X.A (.compLoop (.ListComp elt [⟨target, iter, ifs, 0⟩] scope pos) 0 (.ref it) (.ref s2.heap.objs.size)
      (compEnvC scope ((x, (s2.heap.push { cls := .type "list", data := .seq ([] : List Value).toArray }).objs.size + 1) :: cl) (s2.heap.push { cls := .type "list", data := .seq ([] : List Value).toArray }).objs.size X.env)) (RR (.ref s2.heap.objs.size) (s2.heap.push { cls := .type "list", data := .seq ([] : List Value).toArray }).objs.size)
      { s2 with heap := h₁, toks := s2.toks } := by
    refine comp_loop (fun n s' => ∃ i ts H', ts.length = tn.length ∧ Inv (compCx1 X scope cl x (tn ++ fn) (s2.heap.push { cls := .type "list", data := .seq ([] : List Value).toArray }).objs.size fp pins
      { s2 with heap := s2.heap.push { cls := .type "list", data := .seq ([] : List Value).toArray }, toks := s2.toks } (upd H2 s2.heap.objs.size (.lst []))) [] (ts ++ fv.map fun j => (σ[j]?).join) H' s' ∧ tnn i s'.heap ∧ (∀ b ∈ fp, H' b = none) ∧ W i n H') ?_ m0
      ⟨0, _, _, List.length_replicate, I4, st4, fun b hb => (hfp3 b hb).1.1, w0⟩
    rintro n s' ⟨i, ts, H', hts, I', st', fr', w'⟩
    rcases turnW i n H' w' with ⟨stop, qn⟩ | ⟨go, N, hN, step⟩
    · refine thn (T.done (compCx1 X scope cl x (tn ++ fn) (s2.heap.push { cls := .type "list", data := .seq ([] : List Value).toArray }).objs.size fp pins
          { s2 with heap := s2.heap.push { cls := .type "list", data := .seq ([] : List Value).toArray }, toks := s2.toks } (upd H2 s2.heap.objs.size (.lst []))) rfl rfl rfl hc i [] s' _ H' _ I' (stat rfl fr') st' stop) fun r s5 ⟨hr, I5⟩ => ?_
      subst hr
      obtain ⟨m5, hn5, _⟩ := id I5.loc
      have J5 : Inv X pins σ H' s5 := I3.call' (ch := fp) I5.os I5.base I5.hok I5.bare fun b hb => let ⟨⟨_, f1, _, f3, f4, f5⟩, _⟩ := hfp3 b hb; ⟨f3, f1, f4, f5⟩
      exact fin _ _ H' s5 m5 hn5 (I3.fpOk (Nat.le_refl _) I5.free) J5 qn
    · refine thn (T.item (compCx1 X scope cl x (tn ++ fn) (s2.heap.push { cls := .type "list", data := .seq ([] : List Value).toArray }).objs.size fp pins
          { s2 with heap := s2.heap.push { cls := .type "list", data := .seq ([] : List Value).toArray }, toks := s2.toks } (upd H2 s2.heap.objs.size (.lst []))) rfl rfl rfl hc i [] s' _ H' _ I' (stat rfl fr') st' go) fun r s5 ⟨u, hr, h5⟩ => ?_
      subst hr
      refine thn h5 fun _ s6 ⟨y, H6, I6, r6, y6, st6, fr6⟩ => ?_
      have I6' := I6.pinned (stat rfl fr6) (T.obj _ _ st6)
      have again : ∀ {s7 : Shared} {H7 : Hp} {ts7 : List (Option V)}, ts7.length = tn.length → Inv (compCx1 X scope cl x (tn ++ fn) (s2.heap.push { cls := .type "list", data := .seq ([] : List Value).toArray }).objs.size fp pins
          { s2 with heap := s2.heap.push { cls := .type "list", data := .seq ([] : List Value).toArray }, toks := s2.toks } (upd H2 s2.heap.objs.size (.lst []))) ([] ++ pinsAt fp s6.heap) (ts7 ++ fv.map fun j => (σ[j]?).join) H7 s7 → N H7 →
          ∃ m, m < n ∧ ∃ i ts H', ts.length = tn.length ∧ Inv (compCx1 X scope cl x (tn ++ fn) (s2.heap.push { cls := .type "list", data := .seq ([] : List Value).toArray }).objs.size fp pins
            { s2 with heap := s2.heap.push { cls := .type "list", data := .seq ([] : List Value).toArray }, toks := s2.toks } (upd H2 s2.heap.objs.size (.lst []))) [] (ts ++ fv.map fun j => (σ[j]?).join) H' s7 ∧ tnn i s7.heap ∧ (∀ b ∈ fp, H' b = none) ∧ W i m H' := fun {s7 H7 ts7} hl7 I7 n7 => by
        obtain ⟨m', hm, w7⟩ := hN H7 n7
        refine ⟨m', hm, i + 1, ts7, H7, hl7, I7.unpinned, T.keep _ _ _ st6 fun b hb o e => (I7.pin (b, o) (List.mem_append_right _ (List.mem_append_right _ (mem_pinsAt hb e)))).1, fun b hb => ?_, w7⟩
        obtain ⟨o, e, _⟩ := T.obj _ _ st6 b hb
        exact (I7.pin (b, o) (List.mem_append_right _ (List.mem_append_right _ (mem_pinsAt hb e)))).2.1
      refine thn (hg _ _ _ _ _ _ s6 _ H6 y u _ I6' r6 (step y H6 ts hts y6)) fun _ s7 ⟨σ7, H7, I7, ⟨ts7, hl7, e7⟩, q7⟩ => ?_
      subst e7
      refine thn (ht _ _ _ _ _ _ s7 _ H7 _ I7 q7) fun ok s8 ⟨H8, I8, q8⟩ => ?_
      cases ok with
      | false =>
        rw [if_neg Bool.false_ne_true] at q8 ⊢
        exact again hl7 I8 q8
      | true =>
        rw [if_pos rfl] at q8 ⊢
        refine thn (he _ _ _ _ _ _ s8 _ H8 _ I8 q8) fun z s9 ⟨yv, H9, I9, r9, ys, hDl, hz, q9⟩ => ?_
        refine thn (mt_append _ s9 _ H9 (.ref s2.heap.objs.size) [yv] (.ref s2.heap.objs.size) [z] (fun _ H10 => N H10) I9 rfl (.cons r9 .nil) ⟨_, ys, yv, rfl, rfl, hDl, hz, q9⟩) fun _ s10 ⟨v10, H10, I10, _, q10⟩ => ?_
        exact again hl7 I10 q10
  exact codeAny_compStart_list loop (T.self _ 0 _ _ _ st4 loop)
theorem pe_comp1 (hc : X.calm = true) (hi : PI X target iter wi) (S : CompOk1 X scope cl x tn fn fv) (hg : ∀ C fp ps s3 H3, PG (compCx1 X scope cl x (tn ++ fn) C fp ps s3 H3) target g)
    (ht : ∀ C fp ps s3 H3, PIfs (compCx1 X scope cl x (tn ++ fn) C fp ps s3 H3) ifs tt) (he : ∀ C fp ps s3 H3, PE (compCx1 X scope cl x (tn ++ fn) C fp ps s3 H3) elt te)
    (hs : ∀ y, foldedSetIterable iter X.env y = pure y := by intro _; rfl) : PE X (.ListComp elt [⟨target, iter, ifs, 0⟩] scope pos) (tCompT wi fv tn.length g tt te) := by
  intro pins s σ H Q I h
  rw [eval_ListComp]
  refine wpAny_comprehension_free (use := none) rfl hs S.clos S.kind S.names ?_
  refine comp_core1 (RR := fun acc C => compPost (model X.prog X.w) X.A X.xe none (EP X pins σ Q) acc C) hc hi S hg ht he I h fun D C H' s' m hns fo J q => ?_
  obtain ⟨f0, f1, _, f3, f4, f5⟩ := fo
  exact ⟨m, hns, fun h' hs' => ⟨.ref D, H', J.turned (t' := s'.toks) (fun b o hb e => (hs'.2 b hb).trans e) f0 f1 f3 f4 f5, rfl, q⟩⟩
end
end L2
namespace L2
open PySem PySem.Spec PyProof.Rows
theorem relabel_free1 {scope : Scope} {env : Env} {cl : List (Str × Addr)} {x : Str} (hc : ∀ y ∈ scope.names, y.2 = .cell → y.1 = x) (h : AllFree cl scope.names) (y : Str) (n : Addr)
    (q : (relabel scope env).names.lookup y = some .cell ∨ (relabel scope env).names.lookup y = some .free) : ∃ c, ((x, n) :: cl).lookup y = some c := by
  have ofx : y = x → ∃ c, ((x, n) :: cl).lookup y = some c := fun e => ⟨n, by rw [e, List.lookup_cons]; simp⟩
  have ofl : (∃ c, cl.lookup y = some c) → ∃ c, ((x, n) :: cl).lookup y = some c := fun ⟨c, e⟩ => by
    by_cases hx : y = x
    · exact ofx hx
    · refine ⟨c, ?_⟩
      rw [List.lookup_cons, beq_false_of_ne hx]
      exact e
  have go : ∀ k, (k = NameKind.cell ∨ k = .free) → (relabel scope env).names.lookup y = some k → ∃ c, ((x, n) :: cl).lookup y = some c := fun k hk e => by
    have m := PySem.mem_of_lookup e
    obtain ⟨⟨n', k'⟩, hm, he⟩ := List.mem_map.mp m
    dsimp only at he
    split at he
    · rename_i z
      cases he
      rw [Bool.and_eq_true, Bool.and_eq_true] at z
      exact ofl (h.get (y, k') hm (beq_iff_eq.mp z.1.1))
    · cases he
      rcases hk with z | z
      · exact ofx (hc _ hm z)
      · exact ofl (h.get _ hm z)
  rcases q with q | q
  · exact go _ (.inl rfl) q
  · exact go _ (.inr rfl) q
theorem compC {X : Cx} {scope : Scope} {cl : List (Str × Addr)} {x : Str} {tn fn : List Str} {fv : List Nat} (kind : scope.kind = .function) (lay : ∀ n, cellsFrom n scope.names cl = (x, n) :: cl) (push : ∀ h, pushCells h scope.names = h.push { cls := .type "cell", data := .cell none })
    (hcell : ∀ y ∈ scope.names, y.2 = .cell → y.1 = x) (names : ∀ y ∈ scope.names, y.2 = .local → scope.names.lookup y.1 = some .local)
    (clos : closureFor scope X.env = pure cl) (free : AllFree cl scope.names) (h : Freed X scope cl fn fv) (nx : x ∉ fn) : CompOk1 X scope cl x tn fn fv :=
  ⟨kind, lay, push, names, clos, h.cells, relabel_free1 hcell free, h.slots, nx, h.len⟩
section
variable {X : Cx} {E : XK} {elt iter target : Expr} {pos : Pos} {scope : Scope} {cl : List (Str × Addr)} {x : Str} {tn fn : List Str} {fv : List Nat} {gi : GA} {g : TG} {u : D → Option (List D)} {ge : GE}
theorem df_compM1 (hc : X.calm = true) (hi : DI X E target iter gi) (S : CompOk1 X scope cl x tn fn fv) (hg : ∀ C fp ps s3 H3, PG (compCx1 X scope cl x (tn ++ fn) C fp ps s3 H3) target g) (ub : UB X.K g u tn.length)
    (he : ∀ C fp ps s3 H3, DE (compCx1 X scope cl x (tn ++ fn) C fp ps s3 H3) E0 elt ge)
    (hs : ∀ y, foldedSetIterable iter X.env y = pure y := by intro _; rfl) : DF X E (.ListComp elt [⟨target, iter, [], 0⟩] scope pos) (gCompM gi fv u ge) := ⟨PE.weak (pe_comp1 (tt := DTT X.K E0 gYes) (te := DTE X.K E0 ge) hc hi.h S hg (fun _ _ _ _ _ => DIfs.h difs_nil) (fun C fp ps s3 H3 => (he C fp ps s3 H3).h) hs) (comp_weakM ub)⟩
end
section
variable {X : Cx} {E : XK} {a b c : Expr} {ga gb gc : GE} {pos : Pos}
theorem chain_w {r r' : R2} {h h' : D → D → (D → Prop) → Prop} (o : OpD X.K r h) (o' : OpD X.K r' h') : ∀ σ H Q, DTE X.K E (gChain h h' ga gb gc) σ H Q → tChain r r' (DTE X.K E ga) (DTE X.K E gb) (DTE X.K E gc) σ H Q :=
  fun σ H Q ⟨F, env, Ex, Qd, s, sl, ex, q, fin⟩ => ⟨F, env, Ex, _, s, sl, ex, q, fun d v F1 H1 q1 g1 r1 => ⟨F1, env, Ex, _, g1.sub, sl.grow g1, ex.step g1.hh, q1,
    fun d2 v2 F2 H2 q2 g2 r2 => o F2 H2 v v2 d d2 _ _ g2.sub (Rep.mono g2.ff _ r1) r2 q2 fun d3 v3 F3 H3 q3 g3 r3 => by
      cases d3 with
      | bl k =>
        refine ⟨k, r3, ?_⟩
        cases k with
        | true =>
          dsimp only at q3; rw [if_pos rfl] at q3 ⊢
          exact ⟨F3, env, Ex, _, g3.sub, ((sl.grow g1).grow g2).grow g3, ((ex.step g1.hh).step g2.hh).step g3.hh, q3, fun d4 v4 F4 H4 q4 g4 r4 => o' F4 H4 v2 v4 d2 d4 Qd Q g4.sub (Rep.mono (g3.ff.trans g4.ff) _ r2) r4 q4 (fin.step (((g1.trans g2).trans g3).trans g4))⟩
        | false => dsimp only at q3; rw [if_neg Bool.false_ne_true] at q3 ⊢; exact fin _ _ F3 H3 q3 ((g1.trans g2).trans g3) rfl
      | _ => exact (show False from q3).elim⟩⟩
theorem dt_lelt (ha : DE X E a ga) (hb : DE X E b gb) (hc : DE X E c gc) (hm : lastMarks [.LtE, .Lt] [b, c] = false := by rfl) : DT X E (.Compare a [.LtE, .Lt] [b, c] pos) (gTest (gChain hLe hLt ga gb gc)) := ⟨
  PT.weak (pt_chain op_le op_lt ha.h hb.h hc.h hm) fun σ H Q ⟨F, env, Ex, Qd, s, sl, ex, q, fin⟩ => chain_w (h := hLe) (h' := hLt) (od_ii (g := fun i j => .bl (decide (i ≤ j))) fun _ _ _ => rfl) (od_ii (g := fun i j => .bl (decide (i < j))) fun _ _ _ => rfl) σ H _ ⟨F, env, Ex, _, s, sl, ex, q, fun d v F' H' p g' r => by
    obtain ⟨k, rfl, pk⟩ := bl_of p r
    exact ⟨k, rfl, fin k F' H' pk g'⟩⟩⟩
end
end L2
namespace L2
open PySem PySem.Spec PyProof.Rows
def swpN : Nat → List Int → List Int
  | 0, xs => match xs with
    | x :: y :: t => y :: x :: t
    | xs => xs
  | p + 1, xs => match xs with
    | [] => []
    | x :: t => x :: swpN p t
abbrev swp (xs : List Int) (p : Nat) : List Int := swpN p xs
def inv : List Int → Nat
  | [] => 0
  | x :: t => cnt x t + inv t
def swps (xs : List Int) (ps : List Nat) : List Int := ps.foldl swp xs
structure SwSt (os g : List Int) (ps : List Nat) : Prop where
  to : swps os ps = g
  cnt : inv g + ps.length = inv os
  inr : ∀ p ∈ ps, p + 1 < os.length
end L2
namespace L2
open PySem PySem.Spec PyProof.Rows
section
variable {M : Model} {A : Around} {E : Value → Shared → Prop} {s : Shared}
end
section
variable {X : Cx} {E : XK}
end
section
variable {X : Cx} {elt iter target : Expr} {pos : Pos} {ifs : List Expr} {scope : Scope} {cl : List (Str × Addr)} {tn fn : List Str} {fv : List Nat} {wi : TI} {g : TG} {tt : TT} {te : TE} {pins : List (Addr × Obj)} {σ : St} {H : Hp} {s : Shared}
end
end L2
namespace L2
open PySem PySem.Spec PyProof.Rows
section
variable {X : Cx} {E : XK} {elt iter target : Expr} {pos : Pos} {ifs : List Expr} {scope : Scope} {cl : List (Str × Addr)} {tn fn : List Str} {fv : List Nat} {gi : GA} {g : TG} {u : D → Option (List D)} {ge : GE}
end
end L2
namespace L2
open PySem PySem.Spec PyProof.Rows
def ordD (ns : List Int) : D := .lst (ns.map D.int)
def allNsc2 (d : D) : Bool := nsc d && match d with
  | .lst xs => xs.all allNsc
  | _ => true
theorem ordD_inj {a b : List Int} (h : ordD a = ordD b) : a = b := map_int_inj (D.lst.inj h)
theorem map_ordD_inj : ∀ {os ps : List (List Int)}, os.map ordD = ps.map ordD → os = ps
  | [], [], _ => rfl
  | [], _ :: _, h => by cases h
  | _ :: _, [], h => by cases h
  | o :: os, p :: ps, h => by
    rw [List.map_cons, List.map_cons] at h
    rw [ordD_inj (List.cons.inj h).1, map_ordD_inj (List.cons.inj h).2]
theorem allNsc_ord (ns : List Int) : allNsc (ordD ns) = true := by
  show (true && (ns.map D.int).all nsc) = true
  rw [Bool.true_and, List.all_eq_true]
  intro x hx
  obtain ⟨n, _, rfl⟩ := List.mem_map.mp hx
  rfl
end L2
namespace L2
open PySem PySem.Spec PyProof.Rows
end L2
namespace L2
open PySem PySem.Spec PyProof.Rows
section
variable {K : PySem.W.Frag} {F : Hp}
end
section
variable {X : Cx} {E : XK} {pos p : Pos} {a b c e : Expr} {ga gb : GE} {rest : List Stmt} {t : GS}
end
end L2
namespace L2
open PySem PySem.Spec PyProof.Rows
section
variable {X : Cx} {E : XK} {pos p : Pos} {a b c e o : Expr} {ga gb : GE} {rest : List Stmt} {t : GS}
end
end L2
namespace L2
open PySem PySem.Spec PyProof.Rows
section
variable {prog : Program} {w : World} {A : Around} {E : Value → Shared → Prop} {s : Shared} {d it : Addr} {es : Array DictEntry} {i ep : Nat}
end
section
variable {X : Cx}
end
end L2
namespace L2
open PySem PySem.Spec PyProof.Rows
section
variable {X : Cx} {E : XK} {pos p : Pos} {e : Expr}
end
end L2
namespace HT
open PySem PyProof.Rows
def lexLe : List Int → List Int → Bool
  | [], _ => true
  | _ :: _, [] => false
  | a :: as, c :: cs => if a = c then lexLe as cs else decide (a ≤ c)
theorem rcLe_int (A : Around) (s : Shared) (a : Int) (t : Tok) (c : Int) (u : Tok) (prog : Program) (w : World) (E : Value → Shared → Prop) (Q : Value → Shared → Prop) (h : Q (.bool (decide (a ≤ c))) s) :
    wpAny (model prog w) A (richCompare .LtE (.int a t) (.int c u)) Q E s :=
  (PyProof.Rows.le_int h : wpAny (model prog w) A (compareOp .LtE (.int a t) (.int c u)) Q E s)
section
open PySem.SeqAt
open PySem.AutoSeq1 (wpAny_loadPart')
open PySem.MeetsSeq PySem.MeetsSeq2 PySem.MeetsSeq3
end
end HT
namespace L2
open PySem PySem.Spec PyProof.Rows
section
variable {X : Cx}
end
end L2
namespace L2
open PySem PySem.Spec PyProof.Rows
section
variable {X : Cx} {E : XK} {pos : Pos} {a b : Expr} {ga gb : GE}
end
end L2
namespace L2
open PySem PySem.Spec PyProof.Rows
def slLe (u v : List Int) : Prop := u.length < v.length ∨ (u.length = v.length ∧ HT.lexLe u v = true)
def byW (os : List (List Int)) (m : Nat) (w : List Int) : List Int := w.foldl (fun row a => comp row (os.getD a.toNat [])) (uptoL m)
def okW (c : Nat) (w : List Int) : Prop := ∀ a ∈ w, 0 ≤ a ∧ a < (c : Nat)
structure Tab (os : List (List Int)) (m i a : Nat) (ks ws : List (List Int)) : Prop where
  len : ws.length = ks.length
  nd : ks.Nodup
  first : ks[0]? = some (uptoL m) ∧ ws[0]? = some []
  make : ∀ (j : Nat) k w, ks[j]? = some k → ws[j]? = some w → byW os m w = k ∧ okW os.length w
  rise : ∀ (j l : Nat) u v, j < l → ws[j]? = some u → ws[l]? = some v → slLe u v ∧ u ≠ v
  below : ∀ u v, u ∈ ws → ws[i]? = some v → slLe u (v ++ [((a : Nat) : Int)])
  clos : ∀ (j b : Nat) k w, (j < i ∨ (j = i ∧ b < a)) → b < os.length → ks[j]? = some k → ws[j]? = some w → ∃ (l : Nat) (v : List Int), ks[l]? = some (comp k (os.getD b [])) ∧ ws[l]? = some v ∧ slLe v (w ++ [((b : Nat) : Int)])
end L2
namespace L2
open PySem PySem.Spec PyProof.Rows
structure OkOs (os : List (List Int)) (m : Nat) : Prop where
  m1 : 1 ≤ m
  m5 : m ≤ 5
  c1 : 1 ≤ os.length
  c4 : os.length ≤ 4
  perm : ∀ o ∈ os, o.Perm (uptoL m)
theorem allNsc2_ords (os : List (List Int)) : allNsc2 (.lst (os.map ordD)) = true := by
  show (true && (os.map ordD).all allNsc) = true
  rw [Bool.true_and, List.all_eq_true]
  intro x hx
  obtain ⟨o, _, rfl⟩ := List.mem_map.mp hx
  exact allNsc_ord o
end L2
namespace L2
open PySem PySem.Spec PyProof.Rows
section
variable {os : List (List Int)} {m : Nat}
end
end L2
namespace L2
open PySem PySem.Spec PyProof.Rows
theorem okDs_ords : ∀ os : List (List Int), okDs (os.map ordD) = true
  | [] => rfl
  | o :: os => by
    show (okDs (o.map D.int) && okDs (os.map ordD)) = true
    rw [okDs_ints, okDs_ords os]
    rfl
theorem hiDs_ords : ∀ os : List (List Int), hiDs (os.map ordD) ≤ 1
  | [] => Nat.zero_le _
  | o :: os => by
    show max (hiDs (o.map D.int) + 1) (hiDs (os.map ordD)) ≤ 1
    rw [hiDs_ints]
    exact Nat.max_le.mpr ⟨Nat.le_refl _, hiDs_ords os⟩
theorem cmpDs_ords : ∀ os ps : List (List Int), cmpDs (os.map ordD) (ps.map ordD) = true
  | [], _ => rfl
  | _ :: _, [] => rfl
  | o :: os, p :: ps => by
    show (((o.map D.int).length != (p.map D.int).length || cmpDs (o.map D.int) (p.map D.int)) && cmpDs (os.map ordD) (ps.map ordD)) = true
    rw [cmpDs_ints, cmpDs_ords os ps, Bool.or_true]
    rfl
end L2
namespace L2
open PySem PySem.Spec PyProof.Rows
section
variable {os : List (List Int)} {m : Nat}
end
end L2
namespace L2
open PySem PySem.Spec PyProof.Rows
theorem SlotOk.frzG {K : PySem.W.Frag} {F F' H : Hp} {t : DS} {o : Option V} (z : SlotOk K F H t o) (ff : Same F F') (ne : isOwn t = true → ∀ b, has t o b → F' b = none) : SlotOk K F' H t o := by
  cases t with
  | un => trivial
  | sh d => obtain ⟨v, y1, y2⟩ := z; exact ⟨v, y1, Rep.mono ff _ y2⟩
  | own es => obtain ⟨b, ys, y1, y2, y3, y4⟩ := z; exact ⟨b, ys, y1, ne rfl b y1, y3, Reps.mono ff _ y4⟩
  | dic es => obtain ⟨b, ys, y1, y2, y3, y4, y5⟩ := z; exact ⟨b, ys, y1, ne rfl b y1, y3, y4, Reps.mono ff _ y5⟩
  | dct ks es => obtain ⟨b, ys, y1, y2, y3, y4, y5⟩ := z; exact ⟨b, ys, y1, ne rfl b y1, y3, y4, Reps.mono ff _ y5⟩
  | obj v fp R =>
    obtain ⟨e, f, lc, r⟩ := z
    exact ⟨e, fun b m => ⟨ne rfl b m, (f b m).2⟩, lc, r⟩
def lays (F H : Hp) (as : List Addr) : Hp := fun b => if b ∈ as then H b else F b
theorem lays_in {F H : Hp} {as : List Addr} {b : Addr} (h : b ∈ as) : lays F H as b = H b := if_pos h
theorem lays_out {F H : Hp} {as : List Addr} {b : Addr} (h : b ∉ as) : lays F H as b = F b := if_neg h
theorem lays_ff {F H : Hp} {as : List Addr} (h : ∀ a ∈ as, F a = none) : Same F (lays F H as) := fun b o e => by
  have hb : b ∉ as := fun m => by rw [h b m] at e; cases e
  rw [lays_out hb]
  exact e
theorem lays_sub {F H : Hp} {as : List Addr} (s : Same F H) : Same (lays F H as) H := fun b o e => by
  by_cases hb : b ∈ as
  · rwa [lays_in hb] at e
  · rw [lays_out hb] at e
    exact s _ _ e
theorem Grow.lays {F0 H0 F H : Hp} {as : List Addr} (g : Grow F0 H0 F H) (h : ∀ a ∈ as, F a = none) (h0 : ∀ a ∈ as, H0 a = none) : Grow F0 H0 (lays F H as) H :=
  ⟨g.hh, g.ff.trans (lays_ff h), lays_sub g.sub, fun b e n => by
    by_cases hb : b ∈ as
    · exact .inl (h0 b hb)
    · rw [lays_out hb] at n
      exact g.new b e n⟩
def TblR (a : Addr) (as : List Addr) (rows : List (List Int)) (H : Hp) : Prop := H a = some (.lst (as.map V.ref)) ∧ as.length = rows.length ∧ (∀ (j : Nat) x r, as[j]? = some x → rows[j]? = some r → H x = some (.lst (r.map V.int))) ∧ (a :: as).Nodup
def tblS (a : Addr) (as : List Addr) (rows : List (List Int)) : DS := .obj (.ref a) (a :: as) (TblR a as rows)
theorem tbl_cong {a : Addr} {as : List Addr} {rows : List (List Int)} {H1 H2 : Hp} (e : ∀ b ∈ a :: as, H2 b = H1 b) : TblR a as rows H1 → TblR a as rows H2 := fun ⟨h1, h2, h3, h4⟩ =>
  ⟨by rw [e a List.mem_cons_self]; exact h1, h2, fun j x r e1 e2 => by rw [e x (List.mem_cons_of_mem _ (List.mem_of_getElem? e1))]; exact h3 j x r e1 e2, h4⟩
theorem tbl_local (a : Addr) (as : List Addr) (rows : List (List Int)) : Local (a :: as) (TblR a as rows) := fun H1 H2 e _ h => tbl_cong e h
theorem tbl_there {a : Addr} {as : List Addr} {rows : List (List Int)} {H : Hp} (h : TblR a as rows H) : ∀ b ∈ a :: as, ∃ u, H b = some u ∧ ∀ xs, u ≠ .tup xs := fun b m => by
  rcases List.mem_cons.mp m with rfl | m
  · exact ⟨_, h.1, fun _ z => nomatch z⟩
  · obtain ⟨j, hj, rfl⟩ := List.getElem_of_mem m
    have hr : j < rows.length := by rw [← h.2.1]; exact hj
    exact ⟨_, h.2.2.1 j _ _ (List.getElem?_eq_getElem hj) (List.getElem?_eq_getElem hr), fun _ z => nomatch z⟩
theorem tbl_ok {K : PySem.W.Frag} {F H : Hp} {a : Addr} {as : List Addr} {rows : List (List Int)} (h : TblR a as rows H) (f : ∀ b ∈ a :: as, F b = none) : SlotOk K F H (tblS a as rows) (some (.ref a)) :=
  ⟨rfl, fun b m => ⟨f b m, tbl_there h b m⟩, tbl_local a as rows, h⟩
theorem tbl_reps {K : PySem.W.Frag} {F : Hp} : ∀ {as : List Addr} {rows : List (List Int)}, as.length = rows.length → (∀ (j : Nat) x r, as[j]? = some x → rows[j]? = some r → F x = some (.lst (r.map V.int))) → Reps K F (rows.map ordD) (as.map V.ref)
  | [], [], _, _ => rfl
  | [], _ :: _, e, _ => by simp at e
  | _ :: _, [], e, _ => by simp at e
  | x :: as, r :: rows, e, h => ⟨.ref x, as.map V.ref, rfl, ⟨x, _, rfl, h 0 x r rfl rfl, Reps.ints r⟩, tbl_reps (by simpa using e) fun j x' r' e1 e2 => h (j + 1) x' r' e1 e2⟩
theorem tbl_rep {K : PySem.W.Frag} {F : Hp} {a : Addr} {as : List Addr} {rows : List (List Int)} (h : TblR a as rows F) : Rep K F (.lst (rows.map ordD)) (.ref a) := ⟨a, _, rfl, h.1, tbl_reps h.2.1 h.2.2.1⟩
theorem Slots.drops {K : PySem.W.Frag} {F F' H : Hp} {σ : St} {env : DEnv} {i : Nat} {s s' : DS} (sl : Slots K F H σ env) (e : env[i]? = some s) (ff : Same F F') (ne : ∀ (j : Nat) t b, j ≠ i → env[j]? = some t → isOwn t = true → has t (σ[j]?).join b → F' b = none) (no : isOwn s' = true → ∀ b, has s' (σ[i]?).join b → isOwn s = true ∧ has s (σ[i]?).join b) (ok : SlotOk K F' H s' (σ[i]?).join) : Slots K F' H σ (env.set i s') := by
  have get : ∀ {j : Nat} {t : DS} {b : Addr}, (env.set i s')[j]? = some t → isOwn t = true → has t (σ[j]?).join b → ∃ t', env[j]? = some t' ∧ isOwn t' = true ∧ has t' (σ[j]?).join b := fun {j t b} q ot hb => by
    by_cases hj : j = i
    · subst hj
      rw [List.getElem?_set_self (List.getElem?_eq_some_iff.mp e).1] at q
      cases q
      obtain ⟨h1, h2⟩ := no ot b hb
      exact ⟨s, e, h1, h2⟩
    · rw [List.getElem?_set_ne (Ne.symm hj)] at q
      exact ⟨t, q, ot, hb⟩
  refine ⟨by rw [List.length_set, sl.len], fun j t q => ?_, fun j k s1 t1 b z1 z2 o1 o2 h1 h2 => ?_⟩
  · by_cases hj : j = i
    · subst hj
      rw [List.getElem?_set_self (List.getElem?_eq_some_iff.mp e).1] at q
      cases q
      exact ok
    · rw [List.getElem?_set_ne (Ne.symm hj)] at q
      exact (sl.ok j t q).frzG ff fun ot b hb => ne j t b hj q ot hb
  · obtain ⟨t1', q1, ot1, y1⟩ := get z1 o1 h1
    obtain ⟨t2', q2, ot2, y2⟩ := get z2 o2 h2
    exact sl.apart j k t1' t2' b q1 q2 ot1 ot2 y1 y2
theorem Fresh.drops {H0 : Hp} {σ : St} {env : DEnv} {i : Nat} {s s' : DS} (fr : Fresh H0 σ env) (e : env[i]? = some s) (no : isOwn s' = true → ∀ b, has s' (σ[i]?).join b → isOwn s = true ∧ has s (σ[i]?).join b) : Fresh H0 σ (env.set i s') := fun j t b q ot hb => by
  by_cases hj : j = i
  · subst hj
    rw [List.getElem?_set_self (List.getElem?_eq_some_iff.mp e).1] at q
    cases q
    obtain ⟨h1, h2⟩ := no ot b hb
    exact fr j s b e h1 h2
  · rw [List.getElem?_set_ne (Ne.symm hj)] at q
    exact fr j t b q ot hb
theorem Slots.offT {K : PySem.W.Frag} {F H : Hp} {σ : St} {env : DEnv} {i j : Nat} {s t : DS} {b : Addr} (sl : Slots K F H σ env) (e : env[i]? = some s) (os : isOwn s = true) (hj : j ≠ i) (q : env[j]? = some t) (ot : isOwn t = true) (hb : has t (σ[j]?).join b) : ¬ has s (σ[i]?).join b := fun z => hj (sl.apart j i t s b q e ot os hb z)
section
variable {X : Cx} {E : XK} {pos p p2 : Pos} {e : Expr} {rest : List Stmt} {t : GS} {g : GE}
def gTbl (i : Nat) (g : GS) : GS := fun Dd Ex env => env[i]? = some (.own []) ∧ ∀ a, g Dd Ex (env.set i (tblS a [] []))
theorem dss_tbl (i : Nat) (h : DSs X E rest t) : DSs X E rest (gTbl i t) := ⟨fun F0 H0 s0 => PSs.weak (h.h F0 H0 s0) fun Dn σ H ⟨F, env, Ex, Dd, gr, sl, fr, ex, q, en⟩ => by
  obtain ⟨e, q⟩ := q
  obtain ⟨a, xs, e1, f, l, r⟩ := sl.ok i _ e
  have hx : xs = [] := r
  subst hx
  have no : isOwn (tblS a [] []) = true → ∀ b, has (tblS a [] []) (σ[i]?).join b → isOwn (DS.own []) = true ∧ has (DS.own []) (σ[i]?).join b := fun _ b hb => by
    have hb : b ∈ [a] := hb
    rw [List.mem_singleton.mp hb]
    exact ⟨rfl, e1⟩
  refine ⟨F, _, Ex, Dd, gr, sl.drops e (Same.refl _) (fun j t b hj q' ot hb => ((sl.ok j t q').there ot hb).1) no ?_, fr.drops e no, ex, q a, en⟩
  rw [e1]
  exact tbl_ok ⟨l, rfl, fun j x r e1 => by simp at e1, by simp⟩ fun b hb => by rw [List.mem_singleton.mp hb]; exact f⟩
def gTblF (i : Nat) (g : GS) : GS := fun Dd Ex env => ∃ a as rows, env[i]? = some (tblS a as rows) ∧ g Dd Ex (env.set i (.sh (.lst (rows.map ordD))))
theorem dss_tblF (i : Nat) (h : DSs X E rest t) : DSs X E rest (gTblF i t) := ⟨fun F0 H0 s0 => PSs.weak (h.h F0 H0 s0) fun Dn σ H ⟨F, env, Ex, Dd, gr, sl, fr, ex, q, en⟩ => by
  obtain ⟨a, as, rows, e, q⟩ := q
  obtain ⟨e1, f, lc, r⟩ := sl.ok i _ e
  have fF : ∀ b ∈ a :: as, F b = none := fun b m => (f b m).1
  have no : isOwn (DS.sh (.lst (rows.map ordD))) = true → ∀ b, has (DS.sh (.lst (rows.map ordD))) (σ[i]?).join b → isOwn (tblS a as rows) = true ∧ has (tblS a as rows) (σ[i]?).join b := fun z => nomatch z
  refine ⟨lays F H (a :: as), _, Ex, Dd, gr.lays fF fun b m => fr i _ b e rfl m, sl.drops e (lays_ff fF) (fun j t b hj q' ot hb => ?_) no ?_, fr.drops e no, ex, q, en⟩
  · rw [lays_out (sl.offT e rfl hj q' ot hb)]
    exact ((sl.ok j t q').there ot hb).1
  · exact ⟨.ref a, e1, tbl_rep (tbl_cong (fun b m => lays_in m) r)⟩⟩
end
end L2
namespace L2
open PySem PySem.Spec PyProof.Rows
theorem Slots.chg {K : PySem.W.Frag} {F F' H H' : Hp} {σ : St} {env : DEnv} {i : Nat} {s s' : DS} (sl : Slots K F H σ env) (e : env[i]? = some s) (oth : ∀ (j : Nat) t, j ≠ i → env[j]? = some t → SlotOk K F' H' t (σ[j]?).join)
    (ap : ∀ (j : Nat) t b, j ≠ i → env[j]? = some t → isOwn t = true → has t (σ[j]?).join b → isOwn s' = true → ¬ has s' (σ[i]?).join b) (ok : SlotOk K F' H' s' (σ[i]?).join) : Slots K F' H' σ (env.set i s') := by
  have get : ∀ {j : Nat} {t : DS}, (env.set i s')[j]? = some t → (j = i ∧ t = s') ∨ (j ≠ i ∧ env[j]? = some t) := fun {j t} q => by
    by_cases hj : j = i
    · subst hj
      rw [List.getElem?_set_self (List.getElem?_eq_some_iff.mp e).1] at q
      cases q
      exact .inl ⟨rfl, rfl⟩
    · rw [List.getElem?_set_ne (Ne.symm hj)] at q
      exact .inr ⟨hj, q⟩
  refine ⟨by rw [List.length_set, sl.len], fun j t q => ?_, fun j k s1 t1 b z1 z2 o1 o2 h1 h2 => ?_⟩
  · rcases get q with ⟨rfl, rfl⟩ | ⟨hj, q⟩
    · exact ok
    · exact oth j t hj q
  · rcases get z1 with ⟨rfl, rfl⟩ | ⟨hj, q1⟩
    · rcases get z2 with ⟨rfl, rfl⟩ | ⟨hk, q2⟩
      · rfl
      · exact (ap k t1 b hk q2 o2 h2 o1 h1).elim
    · rcases get z2 with ⟨rfl, rfl⟩ | ⟨hk, q2⟩
      · exact (ap j s1 b hj q1 o1 h1 o2 h2).elim
      · exact sl.apart j k s1 t1 b q1 q2 o1 o2 h1 h2
theorem Fresh.chg {H0 : Hp} {σ : St} {env : DEnv} {i : Nat} {s s' : DS} (fr : Fresh H0 σ env) (e : env[i]? = some s) (h : isOwn s' = true → ∀ b, has s' (σ[i]?).join b → H0 b = none) : Fresh H0 σ (env.set i s') := fun j t b q ot hb => by
  by_cases hj : j = i
  · subst hj
    rw [List.getElem?_set_self (List.getElem?_eq_some_iff.mp e).1] at q
    cases q
    exact h ot b hb
  · rw [List.getElem?_set_ne (Ne.symm hj)] at q
    exact fr j t b q ot hb
theorem mem_snoc3 {α : Type} {a b c : α} {as : List α} (h : c ∈ a :: (as ++ [b])) : c ∈ a :: as ∨ c = b := by
  rcases List.mem_cons.mp h with z | z
  · exact .inl (z ▸ List.mem_cons_self)
  · rcases List.mem_append.mp z with z | z
    · exact .inl (List.mem_cons_of_mem _ z)
    · exact .inr (List.mem_singleton.mp z)
theorem TblR.snoc {a b : Addr} {as : List Addr} {rows : List (List Int)} {ns : List Int} {H : Hp} (h : TblR a as rows H) (hb : b ∉ a :: as) (hl : H b = some (.lst (ns.map V.int))) : TblR a (as ++ [b]) (rows ++ [ns]) (upd H a (.lst ((as ++ [b]).map V.ref))) := by
  obtain ⟨h1, h2, h3, h4⟩ := h
  obtain ⟨n1, n2⟩ := List.nodup_cons.mp h4
  have nba : b ≠ a := fun z => hb (z ▸ List.mem_cons_self)
  have nb : b ∉ as := fun z => hb (List.mem_cons_of_mem _ z)
  refine ⟨upd_same, by simp [h2], fun j x r e1 e2 => ?_, ?_⟩
  · by_cases hj : j < as.length
    · rw [List.getElem?_append_left hj] at e1
      rw [List.getElem?_append_left (by omega)] at e2
      have nx : x ≠ a := fun z => n1 (z ▸ List.mem_of_getElem? e1)
      rw [upd_ne nx]
      exact h3 j x r e1 e2
    · rw [List.getElem?_append_right (by omega)] at e1
      rw [List.getElem?_append_right (by omega)] at e2
      have lt := (List.getElem?_eq_some_iff.mp e1).1
      have ej : j - as.length = 0 := by simp at lt; omega
      have ej' : j - rows.length = 0 := by omega
      rw [ej] at e1
      rw [ej'] at e2
      cases Option.some.inj e1
      cases Option.some.inj e2
      rw [upd_ne nba]
      exact hl
  · refine List.nodup_cons.mpr ⟨fun m => ?_, List.nodup_append.mpr ⟨n2, by simp, fun x hx y hy z => ?_⟩⟩
    · rcases List.mem_append.mp m with z | z
      · exact n1 z
      · exact nba (List.mem_singleton.mp z).symm
    · rw [List.mem_singleton.mp hy] at z
      exact nb (z ▸ hx)
section
variable {X : Cx} {E : XK} {pos p p2 : Pos} {e : Expr} {rest : List Stmt} {t : GS} {g ge gk gl : GE}
theorem tbl_lent {K : PySem.W.Frag} {F H : Hp} {σ : St} {env : DEnv} {i : Nat} {a : Addr} {as : List Addr} {rows : List (List Int)} (s : Same F H) (sl : Slots K F H σ env) (e0 : env[i]? = some (tblS a as rows)) : ∃ F', Same F' H ∧ Slots K F' H σ (env.set i (.sh (.lst (rows.map ordD)))) := by
  obtain ⟨e1, f, lc, r⟩ := sl.ok i _ e0
  have fF : ∀ b ∈ a :: as, F b = none := fun b m => (f b m).1
  refine ⟨lays F H (a :: as), lays_sub s, sl.drops e0 (lays_ff fF) (fun j t b hj q' ot hb => ?_) (fun z => nomatch z) ⟨.ref a, e1, tbl_rep (tbl_cong (fun b m => lays_in m) r)⟩⟩
  rw [lays_out (sl.offT e0 rfl hj q' ot hb)]
  exact ((sl.ok j t q').there ot hb).1
def gLendI (i : Nat) (g : GE) : GE := fun env Ex Q => ∃ a as rows, env[i]? = some (tblS a as rows) ∧ g (env.set i (.sh (.lst (rows.map ordD)))) Ex fun d => ∃ n : Int, d = .int n ∧ Q (.int n)
theorem de_lendI (i : Nat) (h : DE X E e g) : DE X E e (gLendI i g) := ⟨PE.weak h.h fun σ H Q ⟨F, env, Ex, Qd, s, sl, ex, q, fin⟩ => by
  obtain ⟨a, as, rows, e0, q⟩ := q
  obtain ⟨F', s', sl'⟩ := tbl_lent s sl e0
  refine ⟨F', _, Ex, _, s', sl', ex, q, fun d v F1 H1 p g' r => ?_⟩
  obtain ⟨n, rfl, p⟩ := p
  exact fin _ v F H1 p (Grow.still s g'.hh) r⟩
def gAppRow (i j : Nat) : GS := fun Dd _ env => ∃ a as rows ns, env[i]? = some (tblS a as rows) ∧ env[j]? = some (.own (ns.map D.int)) ∧ i ≠ j ∧ as.length < sizeLine ∧ ∀ b, Dd.nx ((env.set j .un).set i (tblS a (as ++ [b]) (rows ++ [ns])))
theorem ds_appRow {i j : Nat} {x y : Str} {np np2 apos cpos : Pos} (hN : X.N[i]? = some x) (hv : Vis X.env.scope x) (hN2 : X.N[j]? = some y) (hv2 : Vis X.env.scope y) (hd : (x == ("__debug__" : Str)) = false := by decide) (hcd : (x == ("__classdict__" : Str)) = false := by decide) (hd2 : (y == ("__debug__" : Str)) = false := by decide) (hcd2 : (y == ("__classdict__" : Str)) = false := by decide)
    (hs1 : starEach [.Name y np2] X.env = [(false, eval (.Name y np2) X.env)] := by rfl)
    (hfew : ((backTo cpos (starEach [.Name y np2] X.env)).all (fun x => !x.1) && (backToKw cpos (keywordEach [] X.env)).all (fun x => x.1.isSome)
      && decide ([Expr.Name y np2].length + ([] : List Keyword).length + (if ([] : List Keyword).isEmpty then 0 else 1) < 30)) = true := by rfl)
    (hbase : attributeBase (.Name x np) "append" X.env (eval (.Name x np) X.env) = eval (.Name x np) X.env := by rfl) (hline : (apos.endLine == cpos.line) = true := by rfl)
    (hs : swapsWith (.Call (.Attribute (.Name x np) "append" apos) [.Name y np2] [] cpos) none pos.line X.env = pure false := by rfl) : DSt X E (.Expr (.Call (.Attribute (.Name x np) "append" apos) [.Name y np2] [] cpos) pos) (gAppRow i j) := ⟨fun F0 H0 s0 =>
  PS.weak (ps_expr (pe_bm PySem.F.plainAttrs_list PySem.F.slot_list_append PySem.F.type_list_append mt_append (pe_var hN hv hd hcd) (pa_cons (pe_var hN2 hv2 hd2 hcd2) pa_nil hs1) hbase hfew hline hs1 rfl) hs) fun Dn σ H ⟨F, env, Ex, Dd, gr, sl, fr, ex, q, en⟩ => by
    obtain ⟨a, as, rows, ns, ei, ej, hij, hz, q⟩ := q
    obtain ⟨e1, f, lc, r⟩ := sl.ok i _ ei
    obtain ⟨b, xs, e2, f2, l2, r2⟩ := sl.ok j _ ej
    cases Reps.ints_eq r2
    have hb : b ∉ a :: as := sl.offT ei rfl (Ne.symm hij) ej rfl e2
    have fF : ∀ c ∈ a :: as, F c = none := fun c m => (f c m).1
    have h0 : H0 a = none := fr i _ a ei rfl List.mem_cons_self
    have fa := fF a List.mem_cons_self
    refine ⟨.ref a, join_some e1, .inl ⟨rfl, _, SqL.of r.1⟩, .ref b, join_some e2, a, _, .ref b, rfl, rfl, r.1, by rw [List.length_map]; exact hz, ?_⟩
    have sl1 : Slots X.K F H σ (env.set j .un) := sl.drops ej (Same.refl _) (fun k t c hk q' ot hc => ((sl.ok k t q').there ot hc).1) (fun z => nomatch z) trivial
    have fr1 : Fresh H0 σ (env.set j .un) := fr.drops ej fun z => nomatch z
    have ei1 : (env.set j .un)[i]? = some (tblS a as rows) := by rw [List.getElem?_set_ne (Ne.symm hij)]; exact ei
    have get : ∀ {k : Nat} {t : DS}, (env.set j .un)[k]? = some t → isOwn t = true → k ≠ j ∧ env[k]? = some t := fun {k t} q' ot => by
      by_cases hk : k = j
      · subst hk
        rw [List.getElem?_set_self (List.getElem?_eq_some_iff.mp ej).1] at q'
        cases q'
        cases ot
      · rw [List.getElem?_set_ne (Ne.symm hk)] at q'
        exact ⟨hk, q'⟩
    have em : (as.map V.ref ++ [V.ref b]) = (as ++ [b]).map V.ref := by simp
    rw [em]
    have hT := r.snoc hb l2
    refine en.nx _ σ F _ (q b) (gr.mut fa h0) (sl1.chg ei1 (fun k t hk q' => (sl1.ok k t q').off (fun ot c hc z => sl1.offT ei1 rfl hk q' ot hc (z ▸ List.mem_cons_self)) fun ys y => by rw [r.1] at y; cases y) (fun k t c hk q' ot hc _ z => ?_) ?_) (fr1.chg ei1 fun _ c z => ?_)
    · rcases mem_snoc3 z with z | z
      · exact sl1.offT ei1 rfl hk q' ot hc z
      · obtain ⟨hkj, qk⟩ := get q' ot
        exact hkj (sl.apart k j t _ c qk ej ot rfl hc (z ▸ e2))
    · rw [e1]
      refine tbl_ok hT fun c m => ?_
      rcases mem_snoc3 m with z | z
      · exact fF c z
      · rw [z]; exact f2
    · rcases mem_snoc3 z with z | z
      · exact fr i _ c ei rfl z
      · rw [z]; exact fr j _ b ej rfl e2⟩
theorem ixN_lt {n j : Nat} (h : j < n) : ixN n (j : Int) = some j := by
  unfold ixN
  rw [if_pos (by omega), if_pos (by omega)]
  simp
def gRetT (i : Nat) : GS := fun Dd _ env => ∃ a as rows, env[i]? = some (tblS a as rows) ∧ Dd.ro (tblS a as rows)
theorem ds_retT {i : Nat} {x : Str} {np : Pos} (hN : X.N[i]? = some x) (hv : Vis X.env.scope x) (hd : (x == ("__debug__" : Str)) = false := by decide) (hcd : (x == ("__classdict__" : Str)) = false := by decide) : DSt X E (.Return (some (.Name x np)) pos) (gRetT i) := ⟨fun F0 H0 s0 =>
  PS.weak (ps_ret (pe_var hN hv hd hcd)) fun Dn σ H ⟨F, env, Ex, Dd, gr, sl, fr, ex, q, en⟩ => by
    obtain ⟨a, as, rows, e, q⟩ := q
    have ok := sl.ok i _ e
    have e1 : (σ[i]?).join = some (.ref a) := ok.1
    rw [e1] at ok
    exact ⟨.ref a, join_some e1, en.ro _ _ F H q gr ok rfl fun b m => fr i _ b e rfl m⟩⟩
end
abbrev DSq := List D → Exs → (List (List Int) → Prop) → Prop
def q2Sp (K : PySem.W.Frag) (n : Nat) (f : DSq) : Sp := fun vs H Q E => ∃ F ds Ex Qd, ds.length = n ∧ Same F H ∧ Reps K F ds vs ∧ ExOk E Ex H ∧ f ds Ex Qd ∧ ∀ rows a as F' H', Qd rows → Grow F H F' H' → TblR a as rows H' → (∀ b ∈ a :: as, F' b = none ∧ H b = none) → Q (.ref a) H'
def tblEnds (Q : List (List Int) → Prop) : DEnds := { nx := fun _ => False, rt := fun _ => False, ro := fun s => ∃ a as rows, s = tblS a as rows ∧ Q rows }
section
variable {P : Program} {w : World} {K : PySem.W.Frag} {mg : Str → Option Value} {base : Heap}
theorem qfn {x qual : Str} {st : Stmt} {f : Addr} {fd : FuncData} {N ps : List Str} {k : Nat} {sp : DSq} (F : Fun K x qual st f fd) (S : FnScope N ps (defScope st))
    (h : ∀ (cdv : Value) (A : Around) (outer : List Env) (s : Shared) (H : Hp) (E : XK), Body (cxOf (CXx P w) P w K mg base N qual (defScope st) f cdv A outer s H E) E → Room k (cxOf (CXx P w) P w K mg base N qual (defScope st) f cdv A outer s H E).A →
      ∃ g, DSs (cxOf (CXx P w) P w K mg base N qual (defScope st) f cdv A outer s H E) E (defBody st) g ∧ ∀ ds Ex Q, ds.length = ps.length → sp ds Ex Q → g (tblEnds Q) Ex (startD N ds)) :
    FnOk P w K mg base (CXx P w) (k + 1) f fd ps (q2Sp K ps.length sp) := by
  refine F.okX S (fun vs H Q E hs => ?_) (fun X cdv A outer s H vs Q E hX b hr hs => ?_)
  · obtain ⟨F, ds, Ex, Qd, hl, _, r, _⟩ := hs
    rw [r.length, hl]
  · subst hX
    obtain ⟨F, ds, Ex, Qd, hl, sm, r, ex, hf, fin⟩ := hs
    obtain ⟨g, hg, q⟩ := h cdv A outer s H E b hr
    refine ⟨_, hg.h F H sm, F, startD N ds, Ex, tblEnds Qd, Grow.refl sm, start_slots r, start_fresh, ex, q ds Ex Qd hl hf, ⟨fun _ _ _ _ p => p.elim, fun _ _ _ _ p => p.elim, fun _ _ _ _ p => p.elim, fun _ _ _ _ p => p.elim, fun _ _ _ _ _ p => p.elim, fun s v F' H' p g' so ow nn => ?_⟩⟩
    obtain ⟨a, as, rows, rfl, p⟩ := p
    obtain ⟨e, f1, _, rr⟩ := so
    cases e
    exact fin rows a as F' H' p g' rr fun b m => ⟨(f1 b m).1, nn b m⟩
end
section
variable {X : Cx} {E : XK} {pos p : Pos} {e : Expr} {es : List Expr}
def gSetQ (i : Nat) (f : DSq) (ga : GA) : GS := fun Dd Ex env => ga env Ex fun ds => f ds Ex fun rows => ∀ a as, Dd.nx (env.set i (tblS a as rows))
theorem ds_setQ {i k n : Nat} {f : Addr} {fd : FuncData} {ps : List Str} {sp : DSq} {x z : Str} {ga : GA} {pos' cpos : Pos} (hN : X.N.Nodup) (hi : X.N[i]? = some z) (hx : Loc X.env.scope z)
    (G : FnOk X.prog X.w X.K X.mg X.base (CXx X.prog X.w) k f fd ps (q2Sp X.K n sp)) (hr : Room k X.A) (hg : Gl X x) (hm : X.mg x = some (.ref f)) (hk : PySem.W.keepIn X.K (.ref f) = true) (hb : Binds X.K fd ps []) (hp : Passes (CXx X.prog X.w) X E) (ha : DA X E (e :: es) ga)
    (hn : (e :: es).length = n := by rfl) (hdb : (x == ("__debug__" : Str)) = false := by decide)
    (hs1 : starEach (e :: es) X.env = (false, eval e X.env) :: starEach es X.env := by rfl) (hpl : (backTo cpos (starEach es X.env)).any (·.1) = false := by rfl)
    (hs : swapsWith (.Call (.Name x p) (e :: es) [] cpos) (some (.Name z pos')) pos.line X.env = pure false := by rfl) (hf : X.fn z = true ∨ X.env.scope.names.lookup z = some .local := by first | exact .inl rfl | exact .inr rfl | assumption) :
    DSt X E (.Assign [.Name z pos'] (.Call (.Name x p) (e :: es) [] cpos) pos) (gSetQ i (fun ds Ex Q => ds.length = n ∧ sp ds Ex Q) ga) := ⟨fun F0 H0 s0 =>
  PS.weak (ps_set (i := i) hN hi hx (pe_call (dvs := []) (E := E) G hr hg hm hk hb .nil hp ha.h hdb hs1 hpl) hs hf) fun Dn σ H ⟨F, env, Ex, Dd, gr, sl, fr, ex, q, en⟩ =>
  ⟨F, env, Ex, _, gr.sub, sl, ex.step gr.hh, q, fun ds vs F1 H1 q1 g1 r1 => ⟨F1, ds, Ex, _, q1.1, g1.sub, by rw [List.append_nil]; exact r1, (ex.step gr.hh).step g1.hh, q1.2, fun rows a as F' H' p g' rr nn => by
    have gg := g1.trans g'
    have h0 : ∀ b ∈ a :: as, H b = none := fun b m => g1.hh.free (nn b m).2
    refine en.nx _ _ F' H' (p a as) (gr.trans gg) ((sl.grow gg).set (tbl_ok rr fun b m => (nn b m).1) fun _ j t c _ q' ot hc z => ?_) (fr.set sl.len fun _ c z => gr.hh.free (h0 c z))
    obtain ⟨_, u, hu, _⟩ := (sl.ok j t q').there ot hc
    rw [h0 c z] at hu
    cases hu⟩⟩⟩
end
end L2
namespace L2
open PySem PySem.Spec PyProof.Rows
section
variable {X : Cx} {E : XK} {pos : Pos} {elt iter target : Expr} {scope : Scope} {cl : List (Str × Addr)} {tn fn : List Str} {fv : List Nat} {gi : GA} {g : TG} {u : D → Option (List D)} {gf : GA}
def gRetC (gi : GA) (fv : List Nat) (u : D → Option (List D)) (gf : GA) : GS := fun Dd Ex env => gi env Ex fun ds => ds.length ≤ sizeLine ∧ ∃ f : D → List Int, (∀ d ∈ ds, ∃ ts, u d = some ts ∧ gf (ts.map DS.sh ++ fv.map (slotV env)) (fun _ => False) fun ys => ys = (f d).map D.int) ∧ ∀ a as, Dd.ro (tblS a as (ds.map f))
theorem comp_tbl (ub : UB X.K g u tn.length) {σ : St} {H : Hp} {Q : VK} {F : Hp} {env : DEnv} {ds : List D} {J : It} {F1 H1 : Hp} {Dl : Addr} (sl : Slots X.K F H σ env) (hlen : ds.length ≤ sizeLine) (f : D → List Int)
    (hf : ∀ d ∈ ds, ∃ ts, u d = some ts ∧ gf (ts.map DS.sh ++ fv.map (slotV env)) (fun _ => False) fun ys => ys = (f d).map D.int)
    (fin : ∀ as F' H', Grow F H F' H' → TblR Dl as (ds.map f) H' → (∀ b ∈ Dl :: as, F' b = none ∧ H b = none) → Q (.ref Dl) H')
    (g1 : Grow F H F1 H1) (jr : JRep X.K J F1 ds) (hD : H1 Dl = none) : CompGT J (fv.map fun j => (σ[j]?).join) tn.length g (DTT X.K E0 gYes) (DTF X.K E0 gf) Q H1 Dl := by
  refine ⟨fun i m H => m = ds.length - i ∧ i ≤ ds.length ∧ ∃ F2 as, Grow F1 H1 F2 H ∧ TblR Dl as ((ds.take i).map f) H ∧ ∀ b ∈ Dl :: as, F2 b = none ∧ H1 b = none,
    ⟨ds.length, by simp, Nat.zero_le _, F1, [], Grow.keep g1.sub hD, ⟨upd_same, by simp, fun j x r e => by simp at e, by simp⟩, fun b m => by rw [List.mem_singleton.mp m]; exact ⟨g1.sub.free hD, hD⟩⟩, ?_⟩
  rintro i m H2 ⟨rfl, hi, F2, as, g2, T2, n2⟩
  obtain ⟨jgo, jstop⟩ := jr F2 H2 g2.ff g2.sub i
  have hys : as.length ≤ i := by
    rw [T2.2.1, List.length_map, List.length_take]
    omega
  by_cases hlt : i < ds.length
  · have hd : ds[i]? = some ds[i] := by simp [hlt]
    obtain ⟨go, yl⟩ := jgo ds[i] hd
    refine .inr ⟨go, fun H' => ∃ F2 as, Grow F1 H1 F2 H' ∧ TblR Dl as ((ds.take (i + 1)).map f) H' ∧ ∀ b ∈ Dl :: as, F2 b = none ∧ H1 b = none, fun H' n => ⟨ds.length - (i + 1), by omega, rfl, hlt, n⟩, fun x H3 ts0 hts y => ?_⟩
    obtain ⟨F3, g3, r3⟩ := yl x H3 y
    obtain ⟨ts, hu, hgt⟩ := hf ds[i] (List.getElem_mem hlt)
    refine ub ds[i] ts x _ ts0 F3 H3 _ g3.sub hu r3 hts fun vs rvs hvs => ⟨⟨vs.map some, by simp [hvs], rfl⟩, ?_⟩
    have bsl := block_slots fv sl ((g1.trans g2).trans g3) rvs
    refine ⟨F3, _, fun _ => False, _, g3.sub, bsl, fun _ z => z.elim, (show gYes _ _ (fun b => b = true) from rfl), fun b F4 H4 q4 g4 => ?_⟩
    subst q4
    rw [if_pos rfl]
    refine ⟨F4, _, fun _ => False, _, g4.sub, bsl.grow g4, fun _ z => z.elim, hgt, fun es a' xs F5 H5 q5 g5 f5 n5 l5 r5 => ?_⟩
    subst q5
    cases Reps.ints_eq r5
    have gg := (g3.trans g4).trans g5
    have T5 : TblR Dl as ((ds.take i).map f) H5 := tbl_cong (fun b m => by
      obtain ⟨v, hv, _⟩ := tbl_there T2 b m
      rw [hv, gg.hh _ _ hv]) T2
    have na : a' ∉ Dl :: as := fun m => by
      obtain ⟨v, hv, _⟩ := tbl_there T2 a' m
      have := (g3.trans g4).hh _ _ hv
      rw [n5] at this
      cases this
    have free : ∀ b ∈ Dl :: as, F5 b = none := fun b m => by
      obtain ⟨v, hv, nt⟩ := tbl_there T2 b m
      cases q : F5 b with
      | none => rfl
      | some _ =>
        rcases gg.new b (n2 b m).1 (by rw [q]; exact fun z => nomatch z) with z | ⟨ys, z⟩
        · rw [z] at hv; cases hv
        · rw [z] at hv; cases hv; exact absurd rfl (nt ys)
    have h1a : H1 a' = none := ((g2.trans g3).trans g4).hh.free n5
    have TS := T5.snoc na l5
    refine ⟨as.map V.ref, T5.1, by rw [List.length_map]; omega, F5, as ++ [a'], (((g2.trans g3).trans g4).trans g5).mut (free Dl List.mem_cons_self) hD, ?_, fun b m => ?_⟩
    · rw [take_next hd, List.map_append]
      have em : (as.map V.ref ++ [V.ref a']) = (as ++ [a']).map V.ref := by simp
      rw [em]
      exact TS
    · rcases mem_snoc3 m with z | z
      · exact ⟨free b z, (n2 b z).2⟩
      · rw [z]; exact ⟨f5, h1a⟩
  · have e : i = ds.length := by omega
    rw [e, List.take_length] at T2
    exact .inl ⟨jstop (by omega), fin as F2 H2 (g1.trans g2) T2 fun b m => ⟨(n2 b m).1, g1.hh.free (n2 b m).2⟩⟩
theorem ds_retC {rpos : Pos} (hc : X.calm = true) (hi : DI X E target iter gi) (S : CompOkT X scope cl tn fn fv) (hg : ∀ C fp ps s3 H3, PG (compCx X scope cl (tn ++ fn) C fp ps s3 H3) target g) (ub : UB X.K g u tn.length)
    (he : ∀ C fp ps s3 H3, DF (compCx X scope cl (tn ++ fn) C fp ps s3 H3) E0 elt gf)
    (hs : ∀ y, foldedSetIterable iter X.env y = pure y := by intro _; rfl) : DSt X E (.Return (some (.ListComp elt [⟨target, iter, [], 0⟩] scope pos)) rpos) (gRetC gi fv u gf) := ⟨fun F0 H0 s0 =>
  PS.weak (ps_ret (pe_compT (tt := DTT X.K E0 gYes) (te := DTF X.K E0 gf) hc hi.h S hg (fun _ _ _ _ _ => DIfs.h difs_nil) (fun C fp ps s3 H3 => (he C fp ps s3 H3).h) hs)) fun Dn σ H ⟨F, env, Ex, Dd, gr, sl, fr, ex, q, en⟩ =>
    ⟨F, env, Ex, _, gr.sub, sl, ex.step gr.hh, q, fun ds J F1 H1 q1 g1 jr => fun Dl hD => by
      obtain ⟨hlen, f, hf, qd⟩ := q1
      exact comp_tbl ub sl hlen f hf (fun as F' H' g' T' nn => en.ro _ _ F' H' (qd Dl as) (gr.trans g') (tbl_ok T' fun b m => (nn b m).1) rfl fun b m => gr.hh.free (nn b m).2) g1 jr hD⟩⟩
end
abbrev DSg := List (List Int) → List D → (D → Prop) → Prop
section
variable {P : Program} {w : World} {K : PySem.W.Frag} {mg : Str → Option Value} {base : Heap}
end
section
variable {X : Cx} {E : XK} {pos p : Pos} {es : List Expr}
end
end L2
namespace L2
open PySem PySem.Spec PyProof.Rows
section
variable {X : Cx} {E : XK} {pos : Pos} {a b : Expr} {ga gb : GE}
end
end L2
namespace L2
open PySem PySem.Spec PyProof.Rows
structure ExcA (K : PySem.W.Frag) (C : Addr) : Prop where
  ga : PySem.W.findIn K (.ref C) "__getattribute__" = some (some (.builtin "BaseException.__getattribute__"))
  gn : PySem.W.findIn K (.ref C) "__getattr__" = some none
  cl : PySem.W.findIn K (.ref C) "__class__" = some (some (.builtin "object.__class__"))
  sg : PySem.W.specialIn K (.builtin "object.__class__") "__get__" = some (some (.builtin "getset_descriptor.__get__"))
  tk : PySem.W.takesIn K (.builtin "object.__class__") = some true
  mo : PySem.W.mroIn K C (.type "object") = some true
  mb : PySem.W.mroIn K C (.type "BaseException") = some true
section
open PySem.Builtin PySem.Builtin.ObjectAttr PySem.Builtin.Getset_descriptor
variable {prog : Program} {w : World} {A : Around} {E : Value → Shared → Prop} {s : Shared} {K : PySem.W.Frag} {ea C : Addr} {o : Obj}
end
end L2
namespace Tb
open PySem PySem.SetTable
def f5 (m i : Nat) : Nat := (i * 5 + 1) % (m + 1)
def way (m : Nat) : Nat → Nat → List Nat
  | 0, _ => []
  | n + 1, i => i :: way m n (f5 m i)
def Msk (m : Nat) : Prop := m ∈ [7, 15, 31, 63, 127, 255, 511]
def adv (t : SetTable) : Nat → Probe → Probe
  | 0, p => p
  | n + 1, p => adv t n (t.advance p)
structure Pok (t : SetTable) (p : Probe) : Prop where
  i : p.i ≤ t.mask
  pt : p.perturb < 2 ^ 64
  more : p.more ≤ 9
  dm : p.dummy = none
def Emp (t : SetTable) (n : Nat) (p : Probe) : Prop := t.slot (adv t n p).j = .empty
inductive Meets (t : SetTable) (n : Nat) : Option Met → Prop
  | emp {j : Nat} : t.slot j = .empty → Meets t n (some (.empty j none))
  | cand {j i n' : Nat} {next : Probe} : t.slot j = .live i → n' < n → Emp t n' next → Pok t next → Meets t n (some (.candidate j i next))
def cnt (o : Array (Option Nat)) (N : Nat) : Nat := ((List.range N).filter fun j => (o.getD j none).isSome).length
structure Lay (m : Nat) (o : Array (Option Nat)) (k : Nat) : Prop where
  size : o.size = m + 1
  cnt : cnt o (m + 1) = k
  lt : ∀ j v, o.getD j none = some v → v < k
end Tb
namespace L2
open PySem PySem.Spec PyProof.Rows
section
variable {prog : Program} {w : World} {A : Around} {E : Value → Shared → Prop} {s : Shared}
abbrev tkd (prog : Program) (w : World) := tupleKind (mixKind prog w)
structure SetAt (prog : Program) (w : World) (h : Heap) (a : Addr) (S : List Key → Prop) (n : Nat) (o : Obj) (es : Array (Int × Value)) (ep : Nat) (t : SetTable) : Prop where
  get : h.get? a = some o
  ex : o.ExactSet
  dat : o.data = .set es ep t
  el : ∀ e ∈ es, ∃ k b, S k ∧ e = ((tkd prog w).hash k, Value.ref b) ∧ IsTupleKey (mixKind prog w) h k b
  size : es.size = n
  pl : t.place.size = n
  dm : t.dummies = #[]
  msk : Tb.Msk t.mask
  few : n * 5 < t.mask * 3
end
end L2
namespace L2
open PySem PySem.Spec PyProof.Rows
section
variable {prog : Program} {w : World} {A : Around} {R : Result → Shared → Prop} {I : Addr} {fp wr : List Addr} {G : Array GenState → Array GenState → Prop} {n : Nat} {P : Nat → Value → Prop} {St : Nat → Shared → Prop}
end
section
variable {prog : Program} {w : World} {A : Around} {E : Value → Shared → Prop} {s : Shared}
abbrev emS (led : Bool) : Obj := { cls := .type "set", dict := none, data := .set #[] 0 (.fresh 0 0 led) }
end
def setO (a : Addr) (n : Nat) : HO := .ext fun h => ∃ o es ep t, h.get? a = some o ∧ o.ExactSet ∧ o.data = .set es ep t ∧ t.fits es.size = true ∧ es.size = n
section
variable {X : Cx}
theorem call_lenT : CallR X (.builtin "len") (fun xs H Q => ∃ a n, xs = [V.ref a] ∧ n ≤ 126 ∧ H a = some (setO a n) ∧ Q (.int n) H) := by
  intro pins s σ H xs us Q I r h
  obtain ⟨a, n, rfl, hb, e, q⟩ := h
  obtain ⟨u, rfl, ru⟩ := vals1 r
  cases ru
  obtain ⟨⟨o, es, ep, t, h1, h2, h3, h4, h5⟩, _, _⟩ := I.hok a _ e
  subst h5
  exact call_len_set h1 h2 h3 h4 (by omega) ⟨.int _, H, I.tok _, ⟨_, rfl⟩, q⟩
end
end L2
namespace L2
open PySem PySem.Spec PyProof.Rows
abbrev Tri := Str × Int × Int
theorem bt_setT : bootBuiltins "set" = some (.type "set") := by decide +kernel
section
variable {X : Cx} {E : XK} {e : Expr} {p p2 pos pos2 : Pos}
end
section
variable {X : Cx} {E : XK} {e : Expr}
end
section
variable {X : Cx} {E : XK} {target elt iter : Expr} {ifs : List Expr} {scope : Scope} {cl : List (Str × Addr)} {tn fn : List Str} {fv : List Nat} {pos : Pos} {g : TG} {u : D → Option (List D)} {gi : GA} {gt : GT} {ge : GE}
end
end L2
namespace L2
open PySem PySem.Spec PyProof.Rows
def tDSet (td ty tx : TE) : TE := fun σ H Q => td σ H fun x H1 => ∃ a, x = .ref a ∧ IsD H1 a ∧ ty σ H1 fun y H2 => tx σ H2 fun z H3 => ∃ kvs k, H3 a = some (.dK kvs) ∧ y = kV k ∧ kvs.length < sizeLine ∧
  (∀ v, valV kvs k = some v → Q v H3) ∧ (valV kvs k = none → Q z (upd H3 a (.dK (putK kvs k z))))
section
variable {X : Cx} {o e f : Expr} {apos cpos : Pos} {td ty tx : TE}
theorem pe_dset (ho : PE X o td) (he : PE X e ty) (hf : PE X f tx) (m : M2 X o "setdefault" apos e f cpos) : PE X (.Call (.Attribute o "setdefault" apos) [e, f] [] cpos) (tDSet td ty tx) := by
  intro pins s σ H Q I h
  refine wpAny_Call_method m.base m.few m.line PySem.F.plainAttrs_dict PySem.F.slot_dict_setdefault PySem.F.type_dict_setdefault (thn (ho pins s σ H _ I h) fun u s1 ⟨x, H1, I1, rx, a, ex, d, q1⟩ => ?_)
  subst ex
  obtain rfl : u = Value.ref a := rx
  obtain ⟨t1, t2, _⟩ := isD_at I1 d
  refine ⟨t1, t2, ?_⟩
  rw [m.trees]
  refine Calls.callWith_builtin rfl (Calls.evalArgs_plain (Calls.spliced_cons (thn (he pins s1 σ H1 _ I1 q1) fun iv s2 ⟨y, H2, I2, ry, q2⟩ =>
    Calls.spliced_cons (thn (hf pins s2 σ H2 _ I2 q2) fun fv s3 ⟨z, H3, I3, rz, kvs, k, eD, ey, lt, qs, qn⟩ => Calls.spliced_nil ?_))))
  subst ey
  obtain ⟨zl, hd, vs, rel, dd⟩ := dk_of I3.hok eD
  have hz : vs.length ≤ sizeLine := by rw [← rel.length]; exact zl
  refine call_meetsIn PySem.F.slot_dict_setdefault dd.typeIs PySem.F.entry_dict_setdefault (PySem.F.args_dict_setdefault_3 _ _ _) (kt_meets_setdefault (mixKind X.prog X.w) a (kV_is ry) hd fv) ⟨vs, dd, hz, fun v hv => ?_, fun hn h' dd' hs => ?_⟩
  · have q := rel.val k
    rw [hv] at q
    cases w : valV kvs k with
    | none => rw [w] at q; exact q.elim
    | some v0 => rw [w] at q; exact ⟨v0, H3, I3.tok _, q, qs v0 w⟩
  · have q := rel.val k
    rw [hn] at q
    cases w : valV kvs k with
    | some v0 => rw [w] at q; exact q.elim
    | none =>
      have hl : (putK kvs k z).length ≤ sizeLine := by have := length_putK kvs k z; omega
      have he : ∃ q, h'.get? a = some q := let ⟨q, _, _, hq, _⟩ := dd'; ⟨q, hq⟩
      exact ⟨z, _, d_write I3 (by rw [eD]; exact True.intro) hs he (dk_new hl hd (rel.put k rz) dd'), rz, qn w⟩
end
def Itd (a : Addr) (o : Obj) (kvs : List (Key × V)) : It :=
  ⟨fun i H => i < kvs.length ∧ H a = some (.frz o (.dK kvs)), fun i H x H' => H' = H ∧ ∃ k v, kvs[i]? = some (k, v) ∧ x = kV k, fun i H => kvs.length ≤ i ∧ H a = some (.frz o (.dK kvs))⟩
theorem relV_key {k : Key} {u : Value} (h : keyIs k u = true) : RelV (kV k) u := by
  rcases keyIs_shape h with ⟨i, t, rfl, rfl⟩ | ⟨x, t, rfl, rfl⟩
  · exact ⟨t, rfl⟩
  · exact ⟨t, rfl⟩
theorem paired_at {α β : Type} {R : α → β → Prop} : ∀ {l1 : List α} {l2 : List β} {i : Nat} {a : α} {b : β}, Paired R l1 l2 → l1[i]? = some a → l2[i]? = some b → R a b
  | _, _, _, _, _, .nil, e, _ => by simp at e
  | _, _, 0, _, _, .cons r _, e, e' => by cases Option.some.inj e; cases Option.some.inj e'; exact r
  | _, _, i + 1, a, b, .cons _ t, e, e' => paired_at (i := i) t (by simpa using e) (by simpa using e')
theorem turn_dict {P : Program} {w : World} {K : PySem.W.Frag} {tg : Expr} (a it : Addr) (o : Obj) (kvs : List (Key × V)) (es : Array DictEntry) (ep : Nat) (hdat : o.data = .dict es ep) : Turn P w K tg (Itd a o kvs) [it] it (fun i h => h.IsKeyIter it a i kvs.length ep) where
  mem := by simp
  obj := fun i h st b hb => by
    have e : b = it := by simpa using hb
    subst e
    obtain ⟨o, e, c, d⟩ := st
    exact ⟨o, e, fun v z => by rw [d] at z; cases z⟩
  keep := fun i h h' st k => st.at fun o e => k it (by simp) o e
  item := by
    intro X hP hw hK hc i pins s σ H E I hf st hg
    subst hP hw hK
    obtain ⟨lt, eH⟩ := hg
    obtain ⟨ho, _, _, vs, rel, dd⟩ := I.hok a _ eH
    obtain ⟨o', es', ep', ho', hx1, hx2, hx3⟩ := dd
    rw [ho] at ho'
    cases ho'
    rw [hdat] at hx2
    cases hx2
    obtain ⟨⟨k, v⟩, hkv⟩ : ∃ p, kvs[i]? = some p := ⟨kvs[i], List.getElem?_eq_getElem lt⟩
    have hl := rel.length
    obtain ⟨⟨k', v'⟩, hkv'⟩ : ∃ p, vs[i]? = some p := ⟨vs[i]'(by omega), List.getElem?_eq_getElem _⟩
    have ek : k = k' := (paired_at rel hkv hkv').1
    subst ek
    obtain ⟨f0, f1, f2, f3, f4, f5⟩ := hf it (by simp)
    rw [hl] at st
    refine wpAny_pyNext_dict_item (knd := mixKind X.prog X.w) (kvs := vs) st ⟨o, es, ho, hx1, hdat, hx3⟩ hkv' fun key h' hkey st' sb => ?_
    have I1 : Inv X pins σ H { s with heap := h' } := I.turned (t' := s.toks) (fun b o hb e => (sb.2 b hb).trans e) f0 f1 f3 f4 f5
    rw [← hl] at st'
    obtain ⟨o2, e2, c2, d2⟩ := id st'
    exact ⟨key, rfl, go_of (s := { s with heap := h' }) e2 c2 d2 (by decide) ⟨kV k, H, I1, relV_key hkey, ⟨rfl, k, v, hkv, rfl⟩, st', fun b hb => (hf b hb).1⟩⟩
  done := by
    intro X hP hw hK hc i pins s σ H E I hf st hg
    subst hP hw hK
    obtain ⟨le, eH⟩ := hg
    obtain ⟨ho, _, _, vs, rel, dd⟩ := I.hok a _ eH
    obtain ⟨o', es', ep', ho', hx1, hx2, hx3⟩ := dd
    rw [ho] at ho'
    cases ho'
    rw [hdat] at hx2
    cases hx2
    obtain ⟨f0, f1, f2, f3, f4, f5⟩ := hf it (by simp)
    have hl := rel.length
    rw [hl] at st
    exact wpAny_pyNext_dict_end (knd := mixKind X.prog X.w) (kvs := vs) (I.ok.hd hc) st ⟨o, es, ho, hx1, hdat, hx3⟩ (List.getElem?_eq_none (by omega)) fun h' eb => ⟨rfl, I.turned (t' := s.toks) (fun b o hb e => eb b o hb e) f0 f1 f3 f4 f5⟩
  self := fun _ _ _ _ _ st h => wpAny_pyIter_keyiter st h
def iDict (td : TE) : TI := fun σ H R => td σ H fun x H1 => ∃ a kvs, x = .ref a ∧ H1 a = some (.dK kvs) ∧ ∀ o, R (Itd a o kvs) (upd H1 a (.frz o (.dK kvs)))
theorem pi_dict {X : Cx} {tg l : Expr} {tl : TE} (hl : PE X l tl) : PI X tg l (iDict tl) := by
  intro pins s σ H R I h
  refine thn (hl pins s σ H _ I h) fun v s1 ⟨x, H1, I1, r1, q1⟩ => ?_
  obtain ⟨a, kvs, e, eD, q⟩ := q1
  subst e
  cases r1
  obtain ⟨zl, hd, vs, rel, dd⟩ := dk_of I1.hok eD
  obtain ⟨o, es, ep, ho, hx1, hx2, hx3⟩ := id dd
  have hlen := rel.length
  refine wpAny_pyIter_dict (knd := mixKind X.prog X.w) (kvs := vs) (ep := ep) hd ⟨o, es, ho, hx1, hx2, hx3⟩ ?_
  have I2 : Inv X pins σ (upd H1 a (.frz o (.dK kvs))) { s1 with heap := s1.heap, toks := s1.toks } := d_write I1 (by rw [eD]; exact True.intro) (Heap.SameBut.refl a _) ⟨o, ho⟩ ⟨ho, zl, hd, vs, rel, dd⟩
  refine ⟨s1.heap.objs.size, [s1.heap.objs.size], _, _, _, rfl, I2.kept (t' := s1.toks) fun b o e => Heap.get?_push_of_some _ e, turn_dict a _ o kvs es ep hx2, ?_, fun b hb => ?_, q o⟩
  · rw [hlen]
    exact ⟨_, Heap.get?_push_size _ rfl, rfl, rfl⟩
  · have e : b = s1.heap.objs.size := by simpa using hb
    subst e
    exact I2.fpOk (Nat.le_refl _) (I2.hok.fresh (Nat.le_refl _))
end L2
namespace L2
open PySem PySem.Spec PyProof.Rows
theorem met_nodup (val : Nat → Int) : ∀ i, (firstMet val i).Nodup
  | 0 => List.nodup_nil
  | i + 1 => by
    rw [firstMet_succ]
    unfold step_dedup
    split
    · exact met_nodup val i
    · rename_i h
      rw [List.nodup_append]
      refine ⟨met_nodup val i, by simp, fun x hx y hy e => h ?_⟩
      rw [List.mem_singleton.mp hy] at e
      rw [List.any_eq_true]
      exact ⟨x, hx, by rw [e]; exact beq_self_eq_true _⟩
theorem met_mem (ns : List Int) (x : Int) : x ∈ firstMet (fun i => ns.getD i 0) ns.length ↔ x ∈ ns := by
  have h := firstMet_any (fun i => ns.getD i 0) ns.length x
  have e : (List.range ns.length).map (fun i => ns.getD i 0) = ns := by
    refine List.ext_getElem (by simp) fun i h1 h2 => ?_
    rw [List.getElem_map, List.getElem_range, List.getD_eq_getElem?_getD, List.getElem?_eq_getElem h2]
    rfl
  rw [e] at h
  have m : ∀ l : List Int, l.any (· == x) = true ↔ x ∈ l := fun l => by
    rw [List.any_eq_true]
    exact ⟨fun ⟨y, hy, q⟩ => by rw [← beq_iff_eq.mp q]; exact hy, fun hy => ⟨x, hy, beq_self_eq_true _⟩⟩
  rw [← m, h, m]
section
variable {X : Cx} {E : XK} {e : Expr} {p p2 pos pos2 : Pos}
theorem call_setI (hc : X.calm = true) : CallR X (.type "set") (fun xs H Q => ∃ p, ∃ ns : List Int, xs = [.ref p] ∧ SqL X.K H p (ns.map V.int) ∧ ns.length ≤ 100 ∧ ∀ (l : List Int), l.Nodup → (∀ x, x ∈ l ↔ x ∈ ns) → ∀ a, H a = none → Q (.ref a) (upd H a (setO a l.length))) := by
  intro pins s σ H xs us Q I r h
  obtain ⟨p, ns, rfl, hq, h100, q⟩ := h
  obtain ⟨u, rfl, ru⟩ := vals1 r
  cases ru
  obtain ⟨its, rv, pl, hz⟩ := I.list hq
  have hi := intsAre_of rv
  have hlen : its.toArray.size = ns.length := by rw [List.size_toArray, ← rv.length, List.length_map]
  refine call_set_list (ns := ns) (I.ok.hd hc) pl.isList hi (by rw [hlen]; unfold scanBound; omega) fun h' tk hS hk => ?_
  rw [hlen] at hS
  obtain ⟨o, es, ep, t, ho, hex, hd, _, _, _, hf, hn⟩ := hS
  refine ⟨.ref s.heap.objs.size, _, I.laid (a := s.heap.objs.size) (o := setO s.heap.objs.size (firstMet (fun i => ns.getD i 0) ns.length).length) (h' := h') (t' := tk) (fun b o e => hk b o (Heap.lt_size e) e) (Nat.le_refl _) ⟨⟨o, es, ep, t, ho, hex, hd, hf, hn⟩, ⟨o, ho⟩, fun h1 h2 ⟨o, es, ep, t, e, r⟩ k => ⟨o, es, ep, t, k o e, r⟩⟩, rfl, q _ (met_nodup _ _) (met_mem ns) _ (I.hok.fresh (Nat.le_refl _))⟩
def hLenSetI (ds : List D) (Q : D → Prop) : Prop := ∃ ns : List Int, ds = [.lst (ns.map D.int)] ∧ ns.length ≤ 100 ∧ ∀ (l : List Int), l.Nodup → (∀ x, x ∈ l ↔ x ∈ ns) → Q (.int (l.length : Nat))
theorem sub_len : ∀ {l m : List Int}, l.Nodup → (∀ x ∈ l, x ∈ m) → l.length ≤ m.length := by
  intro l
  induction l with
  | nil => intro m _ _; exact Nat.zero_le _
  | cons x l ih =>
    intro m nd s
    obtain ⟨n1, n2⟩ := List.nodup_cons.mp nd
    have h1 := s x List.mem_cons_self
    have h2 := ih (m := m.erase x) n2 fun y hy => (List.mem_erase_of_ne (fun e : y = x => n1 (by rw [← e]; exact hy))).mpr (s y (List.mem_cons_of_mem _ hy))
    rw [List.length_erase_of_mem h1] at h2
    have := List.length_pos_of_mem h1
    rw [List.length_cons]
    omega
theorem de_lenSetI {ga : GA} (hc : X.calm = true) (hg : Gl X "len") (hm : X.mg "len" = none) (hg2 : Gl X "set") (hm2 : X.mg "set" = none) (ha : DA X E [e] ga) (he : starEach [e] X.env = [(false, eval e X.env)] := by rfl)
    (he2 : starEach [.Call (.Name "set" p2) [e] [] pos2] X.env = [(false, eval (.Call (.Name "set" p2) [e] [] pos2) X.env)] := by rfl) : DE X E (.Call (.Name "len" p) [.Call (.Name "set" p2) [e] [] pos2] [] pos) (gCB hLenSetI ga) := ⟨
  PE.weak (pe_callB call_lenT hg hm PySem.boot_len (pa_cons (pe_callTy (call_setI hc) hg2 hm2 bt_setT ha.h (by decide) (by decide) he rfl) pa_nil he2) (by decide) (by decide) he2 rfl) fun σ H Q ⟨F, env, Ex, Qd, s, sl, ex, q, fin⟩ =>
  ⟨F, env, Ex, _, s, sl, ex, q, fun ds vs F1 H1 q1 g1 r1 => by
    obtain ⟨ns, rfl, le, q1⟩ := q1
    obtain ⟨x, _, rfl, ⟨l, ys, rfl, hF, rs⟩, e0⟩ := r1
    cases (show _ = [] from e0)
    rw [Reps.ints_eq rs] at hF
    refine ⟨l, ns, rfl, SqL.of (g1.sub _ _ hF), le, fun dl nd mem a ha => ⟨a, dl.length, rfl, ?_, upd_same, ?_⟩⟩
    · have := sub_len nd fun x hx => (mem x).mp hx
      omega
    · exact fin _ _ F1 _ (q1 dl nd mem) (g1.trans (Grow.still g1.sub (fun b o z => by rw [upd_ne (ne_of_none z ha)]; exact z))) rfl⟩⟩
end
end L2
namespace Jn
abbrev Mp := Int → Option Int
def chOf (ps : List (Int × Int)) (i : Int) : List Int := (ps.filter fun p => decide (p.1 = i)).map (·.2)
theorem mem_ch {ps : List (Int × Int)} {i o : Int} : o ∈ chOf ps i ↔ (i, o) ∈ ps := by
  unfold chOf
  rw [List.mem_map]
  constructor
  · rintro ⟨⟨a, b⟩, h, rfl⟩
    obtain ⟨h1, h2⟩ := List.mem_filter.mp h
    have h2 : a = i := of_decide_eq_true h2
    rw [← h2]
    exact h1
  · intro h
    exact ⟨(i, o), List.mem_filter.mpr ⟨h, decide_eq_true rfl⟩, rfl⟩
structure Mt (ps : List (Int × Int)) (m1 m2 : Mp) : Prop where
  to : ∀ i o, m1 i = some o → m2 o = some i
  back : ∀ i o, m2 o = some i → m1 i = some o
  pr : ∀ i o, m1 i = some o → (i, o) ∈ ps
theorem Mt.nil (ps : List (Int × Int)) : Mt ps (fun _ => none) (fun _ => none) := ⟨(fun _ _ h => nomatch h), (fun _ _ h => nomatch h), (fun _ _ h => nomatch h)⟩
def put (m : Mp) (k v : Int) : Mp := fun x => if x = k then some v else m x
theorem put_self (m : Mp) (k v : Int) : put m k v k = some v := if_pos rfl
theorem put_ne {m : Mp} {k v x : Int} (h : x ≠ k) : put m k v x = m x := if_neg h
structure Came (ps : List (Int × Int)) (m2 : Mp) (st : Int) (c : List (Int × Int)) : Prop where
  nd : (c.map (·.1)).Nodup
  by_ : ∀ (k : Nat) o h, c[k]? = some (o, h) → (h, o) ∈ ps ∧ (h = st ∨ ∃ k' o' h', k' < k ∧ c[k']? = some (o', h') ∧ m2 o' = some h)
theorem Came.nil {ps : List (Int × Int)} {m2 : Mp} {st : Int} : Came ps m2 st [] := ⟨List.nodup_nil, fun k o h e => by simp at e⟩
def ky (c : List (Int × Int)) (o : Int) : Prop := ∃ h, (o, h) ∈ c
theorem ky_mem {c : List (Int × Int)} {o : Int} : ky c o ↔ o ∈ c.map (·.1) := by
  rw [List.mem_map]
  constructor
  · rintro ⟨h, m⟩; exact ⟨_, m, rfl⟩
  · rintro ⟨⟨a, h⟩, m, rfl⟩; exact ⟨h, m⟩
def Rch (m2 : Mp) (st : Int) (c : List (Int × Int)) (h : Int) : Prop := h = st ∨ ∃ o', ky c o' ∧ m2 o' = some h
theorem Rch.more {m2 : Mp} {st h : Int} {c : List (Int × Int)} (x : Int × Int) (r : Rch m2 st c h) : Rch m2 st (c ++ [x]) h := by
  rcases r with r | ⟨o, ⟨h', m⟩, e⟩
  · exact .inl r
  · exact .inr ⟨o, ⟨h', List.mem_append_left _ m⟩, e⟩
theorem Came.more {ps : List (Int × Int)} {m2 : Mp} {st : Int} {c : List (Int × Int)} (C : Came ps m2 st c) {o h : Int} (n : ¬ ky c o) (p : (h, o) ∈ ps) (r : Rch m2 st c h) : Came ps m2 st (c ++ [(o, h)]) := by
  refine ⟨?_, fun k x y e => ?_⟩
  · rw [List.map_append, List.nodup_append]
    refine ⟨C.nd, by simp, fun a ha b hb => ?_⟩
    simp only [List.map_cons, List.map_nil, List.mem_singleton] at hb
    subst hb
    exact fun e => n (ky_mem.mpr (e ▸ ha))
  · by_cases hk : k < c.length
    · rw [List.getElem?_append_left hk] at e
      obtain ⟨h1, h2⟩ := C.by_ k x y e
      refine ⟨h1, h2.imp id ?_⟩
      rintro ⟨k', o', h', lt, e', q⟩
      exact ⟨k', o', h', lt, by rw [List.getElem?_append_left (by omega)]; exact e', q⟩
    · rw [List.getElem?_append_right (by omega)] at e
      have hk0 : k - c.length = 0 := by
        have := (List.getElem?_eq_some_iff.mp e).1
        simp at this
        omega
      rw [hk0] at e
      have e := Option.some.inj e
      injection e with e1 e2
      subst e1 e2
      refine ⟨p, r.imp id ?_⟩
      rintro ⟨o', ⟨h', m⟩, q⟩
      obtain ⟨k', hk', e'⟩ := List.getElem_of_mem m
      exact ⟨k', o', h', by omega, by rw [List.getElem?_append_left hk', List.getElem?_eq_getElem hk', e'], q⟩
theorem nd_len : ∀ (l m : List Int), l.Nodup → (∀ x ∈ l, x ∈ m) → l.length ≤ m.length := by
  intro l
  induction l with
  | nil => intro m _ _; exact Nat.zero_le _
  | cons x l ih =>
    intro m nd s
    obtain ⟨n1, n2⟩ := List.nodup_cons.mp nd
    have h1 := s x List.mem_cons_self
    have h2 := ih (m.erase x) n2 fun y hy => (List.mem_erase_of_ne (fun e : y = x => n1 (by rw [← e]; exact hy))).mpr (s y (List.mem_cons_of_mem _ hy))
    rw [List.length_erase_of_mem h1] at h2
    have := List.length_pos_of_mem h1
    rw [List.length_cons]
    omega
theorem Came.len {ps : List (Int × Int)} {m2 : Mp} {st : Int} {c : List (Int × Int)} (C : Came ps m2 st c) : c.length ≤ ps.length := by
  have sub : ∀ x ∈ c.map (·.1), x ∈ ps.map (·.2) := fun x hx => by
    obtain ⟨⟨o, h⟩, m, rfl⟩ := List.mem_map.mp hx
    obtain ⟨k, hk, e⟩ := List.getElem_of_mem m
    obtain ⟨p, _⟩ := C.by_ k o h (by rw [List.getElem?_eq_getElem hk, e])
    exact List.mem_map.mpr ⟨_, p, rfl⟩
  have := nd_len _ _ C.nd sub
  rwa [List.length_map, List.length_map] at this
structure Sh (ps : List (Int × Int)) (m1 m2 : Mp) (o : Int) : Prop where
  to : ∀ i x, m1 i = some x → x ≠ o ∧ m2 x = some i
  back : ∀ i x, m2 x = some i → x ≠ o → m1 i = some x
  pr : ∀ i x, m1 i = some x → (i, x) ∈ ps
theorem Mt.sh {ps : List (Int × Int)} {m1 m2 : Mp} {o : Int} (M : Mt ps m1 m2) (h : m2 o = none) : Sh ps m1 m2 o :=
  ⟨fun i x e => ⟨(fun z => by rw [z] at e; rw [M.to i o e] at h; cases h), M.to i x e⟩, fun i x e _ => M.back i x e, M.pr⟩
theorem Sh.done {ps : List (Int × Int)} {m1 m2 : Mp} {o h : Int} (S : Sh ps m1 m2 o) (p : (h, o) ∈ ps) (l : m1 h = none) : Mt ps (put m1 h o) (put m2 o h) := by
  refine ⟨fun i x e => ?_, fun i x e => ?_, fun i x e => ?_⟩
  · by_cases hi : i = h
    · subst hi; rw [put_self] at e; cases e; exact put_self _ _ _
    · rw [put_ne hi] at e
      obtain ⟨n, q⟩ := S.to i x e
      rw [put_ne n]; exact q
  · by_cases hx : x = o
    · subst hx; rw [put_self] at e; cases e; exact put_self _ _ _
    · rw [put_ne hx] at e
      have q := S.back i x e hx
      have hi : i ≠ h := fun z => by rw [z, l] at q; cases q
      rw [put_ne hi]; exact q
  · by_cases hi : i = h
    · subst hi; rw [put_self] at e; cases e; exact p
    · rw [put_ne hi] at e; exact S.pr i x e
theorem Sh.step {ps : List (Int × Int)} {m1 m2 : Mp} {o h l : Int} (S : Sh ps m1 m2 o) (p : (h, o) ∈ ps) (q : m1 h = some l) : Sh ps (put m1 h o) (put m2 o h) l := by
  obtain ⟨nl, ml⟩ := S.to h l q
  refine ⟨fun i x e => ?_, fun i x e n => ?_, fun i x e => ?_⟩
  · by_cases hi : i = h
    · subst hi; rw [put_self] at e; cases e; exact ⟨Ne.symm nl, put_self _ _ _⟩
    · rw [put_ne hi] at e
      obtain ⟨n, z⟩ := S.to i x e
      refine ⟨fun y => ?_, by rw [put_ne n]; exact z⟩
      rw [y, ml] at z
      exact hi (Option.some.inj z).symm
  · by_cases hx : x = o
    · subst hx; rw [put_self] at e; cases e; exact put_self _ _ _
    · rw [put_ne hx] at e
      have z := S.back i x e hx
      have hi : i ≠ h := fun y => by rw [y, q] at z; exact n (Option.some.inj z).symm
      rw [put_ne hi]; exact z
  · by_cases hi : i = h
    · subst hi; rw [put_self] at e; cases e; exact p
    · rw [put_ne hi] at e; exact S.pr i x e
structure Goes (ps : List (Int × Int)) (n2 : Mp) (st : Int) (c : List (Int × Int)) (dom : Int → Prop) (m1 m2 : Mp) (k : Nat) (o h : Int) : Prop where
  at_ : c[k]? = some (o, h)
  sh : Sh ps m1 m2 o
  same : ∀ k' o' h', k' < k → c[k']? = some (o', h') → m2 o' = n2 o'
  out : m1 st = none
  dom : ∀ i, (m1 i).isSome = true ↔ dom i
theorem Goes.next {ps : List (Int × Int)} {n2 : Mp} {st : Int} {c : List (Int × Int)} {dom : Int → Prop} {m1 m2 : Mp} {k : Nat} {o h : Int} (C : Came ps n2 st c) (G : Goes ps n2 st c dom m1 m2 k o h) :
    (h = st ∧ m1 h = none ∧ Mt ps (put m1 h o) (put m2 o h) ∧ ∀ i, (put m1 h o i).isSome = true ↔ (dom i ∨ i = st)) ∨
    ∃ k' o' h', k' < k ∧ m1 h = some o' ∧ Goes ps n2 st c dom (put m1 h o) (put m2 o h) k' o' h' := by
  obtain ⟨p, r⟩ := C.by_ k o h G.at_
  rcases r with rfl | ⟨k', o', h', lt, e', q⟩
  · refine .inl ⟨rfl, G.out, G.sh.done p G.out, fun i => ?_⟩
    by_cases hi : i = h
    · subst hi; rw [put_self]; exact ⟨fun _ => .inr rfl, fun _ => rfl⟩
    · rw [put_ne hi, G.dom]; exact ⟨.inl, fun z => z.elim id fun y => absurd y hi⟩
  · have q' : m2 o' = some h := by rw [G.same k' o' h' lt e']; exact q
    have ne : o' ≠ o := fun z => by
      subst z
      have := (List.getElem?_inj (i := k') (j := k) (by rw [List.length_map]; exact (List.getElem?_eq_some_iff.mp e').1) C.nd).mp (by rw [List.getElem?_map, List.getElem?_map, e', G.at_]; rfl)
      omega
    have z := G.sh.back h o' q' ne
    have hst : h ≠ st := fun y => by rw [y, G.out] at z; cases z
    refine .inr ⟨k', o', h', lt, z, e', G.sh.step p z, fun k2 o2 h2 lt2 e2 => ?_, by rw [put_ne (Ne.symm hst)]; exact G.out, fun i => ?_⟩
    · have ne2 : o2 ≠ o := fun z => by
        subst z
        have := (List.getElem?_inj (i := k2) (j := k) (by rw [List.length_map]; exact (List.getElem?_eq_some_iff.mp e2).1) C.nd).mp (by rw [List.getElem?_map, List.getElem?_map, e2, G.at_]; rfl)
        omega
      rw [put_ne ne2]
      exact G.same k2 o2 h2 (by omega) e2
    · by_cases hi : i = h
      · subst hi; rw [put_self, ← G.dom, z]; exact Iff.rfl
      · rw [put_ne hi]; exact G.dom i
structure Shut (ps : List (Int × Int)) (m2 : Mp) (st : Int) (c : List (Int × Int)) : Prop where
  came : Came ps m2 st c
  full : ∀ o, ky c o → (m2 o).isSome = true
  shut : ∀ h, Rch m2 st c h → ∀ o, (h, o) ∈ ps → ky c o
structure Open_ (ps : List (Int × Int)) (m2 : Mp) (st : Int) (c : List (Int × Int)) (o h : Int) : Prop where
  came : Came ps m2 st (c ++ [(o, h)])
  free : m2 o = none
theorem Open_.goes {ps : List (Int × Int)} {m1 m2 : Mp} {st o h : Int} {c : List (Int × Int)} (O : Open_ ps m2 st c o h) (M : Mt ps m1 m2) (s : m1 st = none) : Goes ps m2 st (c ++ [(o, h)]) (fun i => (m1 i).isSome = true) m1 m2 c.length o h :=
  ⟨by rw [List.getElem?_append_right (Nat.le_refl _), Nat.sub_self]; rfl, M.sh O.free, fun _ _ _ _ _ => rfl, s, fun _ => Iff.rfl⟩
def cr (m2 : Mp) (c : List (Int × Int)) : List Int := c.map fun x => (m2 x.1).getD 0
theorem cr_at {m2 : Mp} {c : List (Int × Int)} {y : Int} (h : y ∈ cr m2 c) (full : ∀ o, ky c o → (m2 o).isSome = true) : ∃ o, ky c o ∧ m2 o = some y := by
  obtain ⟨x, hx, e⟩ := List.mem_map.mp h
  have yo : ky c x.1 := ⟨x.2, hx⟩
  obtain ⟨i, hi⟩ := Option.isSome_iff_exists.mp (full _ yo)
  rw [hi] at e
  exact ⟨x.1, yo, by rw [hi]; exact congrArg some e⟩
theorem crowd_nd {ps : List (Int × Int)} {m1 m2 : Mp} {st : Int} {c : List (Int × Int)} (M : Mt ps m1 m2) (s : m1 st = none) (S : Shut ps m2 st c) : (st :: cr m2 c).Nodup := by
  refine List.nodup_cons.mpr ⟨fun h => ?_, ?_⟩
  · obtain ⟨o, _, e⟩ := cr_at h S.full
    rw [M.back st o e] at s
    cases s
  · have nd := S.came.nd
    rw [List.nodup_iff_pairwise_ne, List.pairwise_map] at nd
    unfold cr
    rw [List.nodup_iff_pairwise_ne, List.pairwise_map]
    refine List.Pairwise.imp_of_mem (fun {x y} hx hy ne e => ne ?_) nd
    obtain ⟨i, hi⟩ := Option.isSome_iff_exists.mp (S.full x.1 ⟨x.2, hx⟩)
    obtain ⟨j, hj⟩ := Option.isSome_iff_exists.mp (S.full y.1 ⟨y.2, hy⟩)
    rw [hi, hj] at e
    have e : i = j := e
    subst e
    have h1 := M.back i x.1 hi
    have h2 := M.back i y.1 hj
    rw [h1] at h2
    exact Option.some.inj h2
theorem crowd_in {ps : List (Int × Int)} {m1 m2 : Mp} {st : Int} {c : List (Int × Int)} (M : Mt ps m1 m2) (S : Shut ps m2 st c) : ∀ x ∈ st :: cr m2 c, x = st ∨ (m1 x).isSome = true := fun x hx => by
  rcases List.mem_cons.mp hx with rfl | hx
  · exact .inl rfl
  · obtain ⟨o, _, e⟩ := cr_at hx S.full
    exact .inr (by rw [M.back x o e]; rfl)
theorem crowd_outs {ps : List (Int × Int)} {m2 : Mp} {st : Int} {c : List (Int × Int)} (S : Shut ps m2 st c) : ∀ i ∈ st :: cr m2 c, ∀ o, (i, o) ∈ ps → o ∈ c.map (·.1) := fun i hi o ho => by
  refine ky_mem.mp (S.shut i ?_ o ho)
  rcases List.mem_cons.mp hi with rfl | hi
  · exact .inl rfl
  · obtain ⟨o', y, e⟩ := cr_at hi S.full
    exact .inr ⟨o', y, e⟩
end Jn
namespace L2
open PySem PySem.Spec PyProof.Rows
def OkTab (rows : List (List Int)) (c : Nat) : Prop := 1 ≤ rows.length ∧ rows.length ≤ 6 ∧ 1 ≤ c ∧ c ≤ 6 ∧ ∀ r ∈ rows, r.length = c ∧ ∀ x ∈ r, 0 ≤ x ∧ x ≤ 99
def okTabD (d : D) : Prop := ∃ rows c, d = .lst (rows.map ordD) ∧ OkTab rows c
def okRow (d : D) : Bool := lstIn d 1 6 && match d with
  | .lst xs => xs.all fun x => whIn x 0 99
  | _ => true
theorem okRow_ex {d : D} (h : okRow d = true) : ∃ r : List Int, d = ordD r ∧ 1 ≤ r.length ∧ r.length ≤ 6 ∧ ∀ x ∈ r, 0 ≤ x ∧ x ≤ 99 := by
  unfold okRow at h
  rw [Bool.and_eq_true] at h
  cases d with
  | lst xs =>
    have h1 : (decide ((1 : Int) ≤ ((xs.length : Nat) : Int)) && decide (((xs.length : Nat) : Int) ≤ 6)) = true := h.1
    rw [Bool.and_eq_true, decide_eq_true_iff, decide_eq_true_iff] at h1
    have h2 : xs.all (fun x => whIn x 0 99) = true := h.2
    rw [List.all_eq_true] at h2
    obtain ⟨ns, rfl⟩ := ints_of (xs := xs) fun x hx => by
      have := h2 x hx
      cases x <;> first | rfl | cases this
    rw [List.length_map] at h1
    refine ⟨ns, rfl, by omega, by omega, fun x hx => ?_⟩
    have h3 : (decide ((0 : Int) ≤ x) && decide (x ≤ 99)) = true := h2 (.int x) (List.mem_map_of_mem hx)
    rw [Bool.and_eq_true, decide_eq_true_iff, decide_eq_true_iff] at h3
    exact h3
  | _ => cases h.1
theorem okRow_of {r : List Int} (h1 : 1 ≤ r.length) (h6 : r.length ≤ 6) (h : ∀ x ∈ r, 0 ≤ x ∧ x ≤ 99) : okRow (ordD r) = true := by
  show ((decide ((1 : Int) ≤ (((r.map D.int).length : Nat) : Int)) && decide ((((r.map D.int).length : Nat) : Int) ≤ 6)) && (r.map D.int).all fun x => whIn x 0 99) = true
  rw [List.length_map, decide_eq_true (by omega), decide_eq_true (by omega), Bool.and_self, Bool.true_and, List.all_eq_true]
  intro x hx
  obtain ⟨i, hi, rfl⟩ := List.mem_map.mp hx
  show (decide ((0 : Int) ≤ i) && decide (i ≤ 99)) = true
  rw [decide_eq_true (h i hi).1, decide_eq_true (h i hi).2]
  rfl
theorem tab_rows {xs : List D} (h : ∀ x ∈ xs, okRow x = true) : ∃ rows : List (List Int), xs = rows.map ordD ∧ ∀ r ∈ rows, 1 ≤ r.length ∧ r.length ≤ 6 ∧ ∀ x ∈ r, 0 ≤ x ∧ x ≤ 99 := by
  induction xs with
  | nil => exact ⟨[], rfl, fun r hr => nomatch hr⟩
  | cons x xs ih =>
    obtain ⟨rows, e, h1⟩ := ih fun y hy => h y (List.mem_cons_of_mem _ hy)
    obtain ⟨r, e2, h2⟩ := okRow_ex (h x List.mem_cons_self)
    refine ⟨r :: rows, by rw [e, e2]; rfl, fun y hy => ?_⟩
    rcases List.mem_cons.mp hy with rfl | hy
    · exact h2
    · exact h1 y hy
theorem tab_row {d : D} {xs : List D} (h : okTabD (.lst xs)) (hd : d ∈ xs) : okRow d = true := by
  obtain ⟨rows, c, e, o1, o2, o3, o4, o5⟩ := h
  cases e
  obtain ⟨r, hr, rfl⟩ := List.mem_map.mp hd
  obtain ⟨l, h⟩ := o5 r hr
  exact okRow_of (by omega) (by omega) h
theorem tab_len {xs : List D} {a b : List Int} (h : okTabD (.lst xs)) (ha : ordD a ∈ xs) (hb : ordD b ∈ xs) : a.length = b.length := by
  obtain ⟨rows, c, e, o1, o2, o3, o4, o5⟩ := h
  cases e
  obtain ⟨r, hr, e1⟩ := List.mem_map.mp ha
  obtain ⟨r', hr', e2⟩ := List.mem_map.mp hb
  rw [← ordD_inj e1, ← ordD_inj e2, (o5 r hr).1, (o5 r' hr').1]
theorem allNsc2_rows (rows : List (List Int)) : allNsc2 (.lst (rows.map ordD)) = true := allNsc2_ords rows
def colAt (rows : List (List Int)) (c : Nat) : List Int := rows.map fun r => r.getD c 0
def colsT (rows : List (List Int)) (n : Nat) : List (List Int) := (List.range n).map (colAt rows)
def sumsT (rows : List (List Int)) (n : Nat) : List Int := (rows ++ colsT rows n).map List.sum
def isMost (ns : List Int) (m : Int) : Prop := m ∈ ns ∧ ∀ x ∈ ns, x ≤ m
theorem isMost.un {ns : List Int} {a b : Int} (h : isMost ns a) (k : isMost ns b) : a = b := by
  have := h.2 b k.1
  have := k.2 a h.1
  omega
def intOf8 (d : D) : Int := match d with
  | .int i => i
  | _ => 0
def rowOf (d : D) : List Int := match d with
  | .lst ys => ys.map intOf8
  | _ => []
theorem rowOf_ord (r : List Int) : rowOf (ordD r) = r := by
  show (r.map D.int).map intOf8 = r
  rw [List.map_map]
  exact List.map_id' r
theorem rowOf_rows (rows : List (List Int)) : (rows.map ordD).map rowOf = rows := by
  rw [List.map_map]
  have : rows.map (rowOf ∘ ordD) = rows.map id := List.map_congr_left fun r _ => rowOf_ord r
  rw [this, List.map_id]
def fCkRow (bad : Addr) : DSp := fun ds Ex Q => ∃ d, ds = [d] ∧ allNsc d = true ∧ (okRow d = true → Q .non) ∧ (okRow d = false → Ex bad)
def fChkTab (bad : Addr) : DSq := fun ds Ex Q => ∃ d, ds = [d] ∧ allNsc2 d = true ∧ (∀ rows c, d = .lst (rows.map ordD) → OkTab rows c → Q rows) ∧ (¬ okTabD d → Ex bad)
def fColAt8 : DSp := fun ds _ Q => ∃ rows c, ∃ p : Nat, ds = [.lst (rows.map ordD), .int ((p : Nat) : Int)] ∧ OkTab rows c ∧ p < c ∧ Q (ordD (colAt rows p))
def fColsOf : DSp := fun ds _ Q => ∃ rows c, ds = [.lst (rows.map ordD)] ∧ OkTab rows c ∧ Q (.lst ((colsT rows c).map ordD))
def fGreat : DSp := fun ds _ Q => ∃ rows c, ds = [.lst (rows.map ordD)] ∧ OkTab rows c ∧ ∀ m, isMost (sumsT rows c) m → Q (.int m)
def fLTable : DSq := fun ds _ Q => ∃ ns, ds = [.scr ns] ∧ ∀ rows c, OkTab rows c → Q rows
end L2
namespace L2
open PySem PySem.Spec PyProof.Rows
abbrev ItmR (h : Heap) (it d : Addr) (i n ep : Nat) (f0 f1 ok ov : Value) : Prop :=
  h.get? it = some { cls := .type "dict_itemiterator", dict := none, data := .fields #[f0, f1, .ref d, .int i 0, .int n 0, .int ep 0, ok, ov], slots := #[] }
section
variable {prog : Program} {w : World} {K : Type} [DecidableEq K] {knd : PySem.KeyKind prog w K} {A : Around} {E : Value → Shared → Prop} {s : Shared}
end
section
variable {X : Cx} {pins : List (Addr × Obj)} {σ : St} {H : Hp} {s : Shared}
end
end L2
namespace L2
open PySem PySem.Spec PyProof.Rows
abbrev EnR (h : Heap) (e it : Addr) (i : Int) (f0 f1 old : Value) : Prop :=
  h.get? e = some { cls := .type "enumerate", dict := none, data := .fields #[f0, f1, .ref it, rawInt i, .none, old], slots := #[] }
theorem enum_no_len : typeLookup (.type "enumerate") "__len__" = pure none := by rw [typeLookup_type, builtinLookup_eq_fast]; kernel_rfl
theorem enum_no_hint : typeLookup (.type "enumerate") "__length_hint__" = pure none := by rw [typeLookup_type, builtinLookup_eq_fast]; kernel_rfl
section
variable {prog : Program} {w : World} {A : Around} {E : Value → Shared → Prop} {s : Shared}
theorem en_free {e it : Addr} {i : Int} {T : Nat} {c : Bool} {old : Value} {Q : Bool → Shared → Prop} (hz : EnR s.heap e it i (rawInt T) (.bool c) old)
    (h1 : Q true s) (h2 : ∀ h', EnR h' e it i (rawInt T) (.bool true) old → Heap.SameBut e s.heap h' → Q false { s with heap := h' }) : wpAny (model prog w) A (Builtin.SmallTypes.ownedTupleIsFree (.ref e)) Q E s := by
  unfold Builtin.SmallTypes.ownedTupleIsFree
  refine wpAny_bind (wpAny_field hz rfl (x := rawInt T) rfl ?_)
  show wpAny _ _ (loadIfAlive _ >>= _) _ _ _
  refine wpAny_bind (alive_ ?_)
  cases q : s.heap.get? (T : Int).toNat with
  | none => exact wpAny_pure h1
  | some o =>
    show wpAny _ _ (field (.ref e) 1 >>= _) _ _ _
    refine wpAny_bind (wpAny_field hz rfl (x := .bool c) rfl ?_)
    cases c with
    | true => exact wpAny_pure (h2 s.heap hz (Heap.SameBut.refl _ _))
    | false =>
      show wpAny _ _ (setField (.ref e) 1 (.bool true) >>= _) _ _ _
      exact wpAny_bind (wpAny_setField_rec hz (by simp) fun h' hz' hs' => wpAny_pure (h2 h' hz' hs'))
def EnAt (h : Heap) (e it : Addr) (i : Int) : Prop := ∃ old, IsEnum h e it i old ∨ ∃ (T : Nat) (c : Bool), EnR h e it i (rawInt T) (.bool c) old
theorem EnAt.at {h h' : Heap} {e it : Addr} {i : Int} (x : EnAt h e it i) (k : ∀ o, h.get? e = some o → h'.get? e = some o) : EnAt h' e it i := by
  obtain ⟨old, x | ⟨T, c, x⟩⟩ := x
  · exact ⟨old, .inl (k _ x)⟩
  · exact ⟨old, .inr ⟨T, c, k _ x⟩⟩
theorem EnAt.lt {h : Heap} {e it : Addr} {i : Int} (x : EnAt h e it i) : e < h.objs.size := by
  obtain ⟨old, x | ⟨T, c, x⟩⟩ := x
  · exact Heap.lt_size x
  · exact Heap.lt_size x
theorem EnAt.ty {s : Shared} {e it : Addr} {i : Int} (x : EnAt s.heap e it i) : s.TypeIs (.ref e) "enumerate" := by
  obtain ⟨old, x | ⟨T, c, x⟩⟩ := x
  · exact ⟨_, x, rfl⟩
  · exact ⟨_, x, rfl⟩
theorem en_item {e it l : Addr} {i : Nat} {items : Array Value} {x : Value} {Q : Option Value → Shared → Prop}
    (he : EnAt s.heap e it i) (hit : s.heap.IsListIter it l i) (hl : s.heap.IsList l items) (hx : items[i]? = some x) (hne : e ≠ it)
    (hQ : ∀ h', EnAt h' e it ((i : Int) + 1) → h'.IsListIter it l (i + 1) → h'.get? s.heap.objs.size = some { cls := .type "tuple", data := .seq #[.int i s.toks, x] } →
      (∀ b o, b ≠ e → b ≠ it → s.heap.get? b = some o → h'.get? b = some o) → Q (some (.ref s.heap.objs.size)) { s with heap := h', toks := s.toks + 1 }) :
    wpAny (model prog w) A (pyNext (.ref e)) Q E s := by
  have hT := he.ty
  obtain ⟨old, he | ⟨T, c, he⟩⟩ := he
  · exact wpAny_pyNext_enum_item he hit hl hx hne fun h' a1 a2 a3 a4 a5 => hQ h' ⟨x, .inr ⟨_, false, a1⟩⟩ a2 a3 a5
  unfold pyNext
  refine wpAny_bind (wpAny_attempt (wpAny_callSpecial?_slot (name := Str.ofString "__next__") hT F.slot_enumerate_next (wpAny_call_entry F.slot_enumerate_next hT F.entry_enumerate_next ?_ (F.args_enumerate_next_1 _))))
  obtain ⟨hp, g, d, tk, os⟩ := s
  show wpAny _ _ (field (.ref e) 2 >>= _) _ _ _
  refine wpAny_bind (wpAny_field he rfl (x := .ref it) rfl ?_)
  refine wpAny_bind (wpAny_nextOf_list_item hit hl hx fun h₁ hit₁ hs₁ => ?_)
  replace hs₁ : Heap.SameBut it hp h₁ := hs₁
  have he₁ : EnR h₁ e it i (rawInt T) (.bool c) old := (hs₁.2 e hne).trans he
  show wpAny _ _ (field (.ref e) 3 >>= _) _ _ ⟨h₁, g, d, tk, os⟩
  refine wpAny_bind (wpAny_field he₁ rfl (x := rawInt i) rfl ?_)
  show wpAny _ _ (field (.ref e) 4 >>= _) _ _ ⟨h₁, g, d, tk, os⟩
  refine wpAny_bind (wpAny_field he₁ rfl (x := .none) rfl ?_)
  show wpAny _ _ (mkInt i >>= _) _ _ ⟨h₁, g, d, tk, os⟩
  refine wpAny_bind (wpAny_mkInt ?_)
  show wpAny _ _ (setField (.ref e) 3 (rawInt ((i : Int) + 1)) >>= _) _ _ ⟨h₁, g, d, tk + 1, os⟩
  refine wpAny_bind (wpAny_setField_rec he₁ (by simp) fun h₂ he₂ hs₂ => ?_)
  replace hs₂ : Heap.SameBut e h₁ h₂ := hs₂
  replace he₂ : EnR h₂ e it ((i : Int) + 1) (rawInt T) (.bool c) old := he₂
  show wpAny _ _ (setField (.ref e) 4 .none >>= _) _ _ ⟨h₂, g, d, tk + 1, os⟩
  refine wpAny_bind (wpAny_setField_rec he₂ (by simp) fun h₃ he₃ hs₃ => ?_)
  replace hs₃ : Heap.SameBut e h₂ h₃ := hs₃
  replace he₃ : EnR h₃ e it ((i : Int) + 1) (rawInt T) (.bool c) old := he₃
  show wpAny _ _ (newTuple [.int i tk, x] >>= _) _ _ ⟨h₃, g, d, tk + 1, os⟩
  refine wpAny_bind (wpAny_newTuple ?_)
  have he₄ : EnR (h₃.push { cls := .type "tuple", data := .seq #[.int i tk, x] }) e it ((i : Int) + 1) (rawInt T) (.bool c) old := Heap.get?_push_of_some _ he₃
  generalize hh₄ : h₃.push { cls := .type "tuple", data := .seq #[.int i tk, x] } = h₄ at he₄
  have hsz : h₃.objs.size = hp.objs.size := by rw [hs₃.1, hs₂.1, hs₁.1]
  have hel : e < hp.objs.size := Heap.lt_size he
  have ht₄ : h₄.get? hp.objs.size = some { cls := .type "tuple", data := .seq #[.int i tk, x] } := by rw [← hh₄, ← hsz]; exact Heap.get?_push_size _ rfl
  have hk₄ : ∀ b o, b ≠ e → b ≠ it → hp.get? b = some o → h₄.get? b = some o := fun b o hbe hbi hb => by
    rw [← hh₄]; exact Heap.get?_push_of_some _ (hs₃.extBut b o hbe (hs₂.extBut b o hbe (hs₁.extBut b o hbi hb)))
  have hit₄ : h₄.IsListIter it l (i + 1) := by
    rw [← hh₄]; obtain ⟨o, ho, r⟩ := (hit₁.extBut hs₂.extBut (Ne.symm hne)).extBut hs₃.extBut (Ne.symm hne); exact ⟨o, Heap.get?_push_of_some _ ho, r⟩
  show wpAny _ _ (Builtin.SmallTypes.ownedTupleIsFree (.ref e) >>= _) _ _ ⟨h₄, g, d, tk + 1, os⟩
  rw [hsz]
  clear hh₄ he₃ hs₃ he₂ hs₂ he₁ hs₁ hit₁ hsz h₃ h₂ h₁
  have ne : hp.objs.size ≠ e := Nat.ne_of_gt hel
  refine wpAny_bind (en_free (s := ⟨h₄, g, d, tk + 1, os⟩) he₄ ?_ fun g2 z2 s2 => ?_)
  · simp only [if_true]
    refine wpAny_bind (wpAny_rule ?_)
    refine wpAny_bind (wpAny_field he₄ rfl (x := old) rfl ?_)
    refine wpAny_bind (wpAny_setField_rec he₄ (by simp) fun h₅ he₅ hs₅ => ?_)
    replace hs₅ : Heap.SameBut e h₄ h₅ := hs₅
    replace he₅ : EnR h₅ e it ((i : Int) + 1) (rawInt T) (.bool c) x := he₅
    show wpAny _ _ (Builtin.SmallTypes.ownedTupleHandOut (.ref e) (.ref hp.objs.size) >>= _) _ _ ⟨h₅, g, d, tk + 1, os⟩
    refine wpAny_bind ?_
    unfold Builtin.SmallTypes.ownedTupleHandOut
    refine wpAny_bind (wpAny_setField_rec he₅ (by simp) fun h₆ he₆ hs₆ => ?_)
    replace hs₆ : Heap.SameBut e h₅ h₆ := hs₆
    replace he₆ : EnR h₆ e it ((i : Int) + 1) (rawInt hp.objs.size) (.bool c) x := he₆
    refine wpAny_setField_rec he₆ (by simp) fun h₇ he₇ hs₇ => ?_
    replace hs₇ : Heap.SameBut e h₆ h₇ := hs₇
    replace he₇ : EnR h₇ e it ((i : Int) + 1) (rawInt hp.objs.size) (.bool false) x := he₇
    have up : ∀ b o, b ≠ e → h₄.get? b = some o → h₇.get? b = some o := fun b o hb q => hs₇.extBut _ _ hb (hs₆.extBut _ _ hb (hs₅.extBut _ _ hb q))
    refine wpAny_bind (wpAny_letGo (wpAny_pure ⟨_, rfl, wpAny_pure (hQ h₇ ⟨x, .inr ⟨_, false, he₇⟩⟩ ?_ (up _ _ ne ht₄) fun b o hbe hbi hb => up b o hbe (hk₄ b o hbe hbi hb))⟩))
    obtain ⟨o, ho, r⟩ := hit₄
    exact ⟨o, up _ _ (Ne.symm hne) ho, r⟩
  · simp only [Bool.false_eq_true, if_false]
    replace s2 : Heap.SameBut e h₄ g2 := s2
    refine wpAny_pure ⟨_, rfl, wpAny_pure (hQ g2 ⟨old, .inr ⟨_, true, z2⟩⟩ ?_ (s2.extBut _ _ ne ht₄) fun b o hbe hbi hb => s2.extBut _ _ hbe (hk₄ b o hbe hbi hb))⟩
    obtain ⟨o, ho, r⟩ := hit₄
    exact ⟨o, s2.extBut _ _ (Ne.symm hne) ho, r⟩
theorem en_end {e it l : Addr} {i : Nat} {items : Array Value} {Q : Option Value → Shared → Prop} (hh : A.handled = none) (he : EnAt s.heap e it i) (hit : s.heap.IsListIter it l i) (hl : s.heap.IsList l items) (hx : items[i]? = none)
    (hQ : ∀ h', Heap.ExtBut it s.heap h' → Q none { s with heap := h' }) : wpAny (model prog w) A (pyNext (.ref e)) Q E s := by
  have hT := he.ty
  obtain ⟨old, he | ⟨T, c, he⟩⟩ := he
  · exact wpAny_pyNext_enum_end hh he hit hl hx hQ
  unfold pyNext
  refine wpAny_bind (wpAny_attempt (wpAny_callSpecial?_slot (name := Str.ofString "__next__") hT F.slot_enumerate_next (wpAny_call_entry F.slot_enumerate_next hT F.entry_enumerate_next ?_ (F.args_enumerate_next_1 _))))
  show wpAny _ _ (field (.ref e) 2 >>= _) _ _ _
  refine wpAny_bind (wpAny_field he rfl (x := .ref it) rfl ?_)
  refine wpAny_bind (wpAny_nextOf_list_end hh hit hl hx fun h' x he' hx' => ?_)
  obtain ⟨o, ho, hc⟩ := hx'
  refine wpAny_bind (wpAny_isInstance (T := "StopIteration") (b := true) ⟨o, ho, hc⟩ isSubtype_stop ?_)
  exact wpAny_pure (hQ _ he')
def Tups (h : Heap) (items acc : Array Value) (i : Nat) (no : Addr → Prop) : Prop := acc.size = i ∧ ∀ j, j < i → ∃ T t x, acc[j]? = some (.ref T) ∧ ¬ no T ∧ items[j]? = some x ∧ h.get? T = some { cls := .type "tuple", data := .seq #[.int (j : Nat) t, x] }
theorem en_loop {R : Result → Shared → Prop} {e it l S : Addr} {items : Array Value} {res : Value} (hh : A.handled = none) (hne : e ≠ it) (hSe : S ≠ e) (hSi : S ≠ it) (hSl : S ≠ l) (hle : l ≠ e) (hli : l ≠ it) (hz : items.size ≤ sizeLine) (h0 : Heap) (n0 : Nat)
    (hR : ∀ h' tk acc c, (∀ b o, b ≠ S → b ≠ e → b ≠ it → h0.get? b = some o → h'.get? b = some o) → h'.get? S = some { cls := .type "list", dict := none, data := .seq acc c, slots := #[] } → Tups h' items acc items.size (fun T => T = S ∨ T = e ∨ T = it ∨ T < n0) → R (.ok (.ret res)) { s with heap := h', toks := tk }) :
    ∀ (k i : Nat) (h : Heap) (tk : Nat) (acc : Array Value) (c : Nat), items.size - i = k → i ≤ items.size → EnAt h e it i → h.IsListIter it l i → h.IsList l items → h.get? S = some { cls := .type "list", dict := none, data := .seq acc c, slots := #[] } → Tups h items acc i (fun T => T = S ∨ T = e ∨ T = it ∨ T < n0) →
      (∀ b o, b ≠ S → b ≠ e → b ≠ it → h0.get? b = some o → h.get? b = some o) → n0 ≤ h.objs.size → codeAny (model prog w) A (.builtin "list.extend.loop" ⟨[.ref S, .ref e, res], []⟩) R { s with heap := h, toks := tk } := by
  intro k
  induction k with
  | zero =>
    intro i h tk acc c hk hi he hit hl hS ht fr hn0
    have hin : i = items.size := by omega
    subst hin
    refine codeAny_builtin F.entry_extend_loop ?_
    rw [Around.under_plainId F.plain_extend_loop _]
    show wpAny _ A.in1 (pyNext (.ref e) >>= _) _ _ { s with heap := h, toks := tk }
    refine wpAny_bind (en_end (s := { s with heap := h, toks := tk }) hh he hit hl (by simp) fun h' ex => ?_)
    replace ex : Heap.ExtBut it h h' := ex
    refine wpAny_pure (hR h' tk acc c (fun b o b1 b2 b3 q => ex _ _ b3 (fr b o b1 b2 b3 q)) (ex _ _ hSi hS) ⟨ht.1, fun j hj => ?_⟩)
    obtain ⟨T, t, x, a1, a2, a3, a4⟩ := ht.2 j hj
    exact ⟨T, t, x, a1, a2, a3, ex _ _ (fun z => a2 (.inr (.inr (.inl z)))) a4⟩
  | succ k ih =>
    intro i h tk acc c hk hi he hit hl hS ht fr hn0
    have hlt : i < items.size := by omega
    refine codeAny_builtin F.entry_extend_loop ?_
    rw [Around.under_plainId F.plain_extend_loop _]
    show wpAny _ A.in1 (pyNext (.ref e) >>= _) _ _ { s with heap := h, toks := tk }
    refine wpAny_bind (en_item (s := { s with heap := h, toks := tk }) he hit hl (Array.getElem?_eq_getElem hlt) hne fun h' he' hit' hT' k' => ?_)
    replace hT' : h'.get? h.objs.size = some { cls := .type "tuple", data := .seq #[.int i tk, items[i]] } := hT'
    have hS' := k' S _ hSe hSi hS
    have hl' : h'.IsList l items := by
      obtain ⟨o, ho, r⟩ := hl
      exact ⟨o, k' _ _ hle hli ho, r⟩
    have ltS : S < h.objs.size := Heap.lt_size hS
    have lte := he.lt
    have lti : it < h.objs.size := by obtain ⟨o, ho, _⟩ := hit; exact Heap.lt_size ho
    show wpAny _ A.in1 (updateSeq S (·.push (.ref h.objs.size)) >>= _) _ _ _
    refine wpAny_bind ?_
    refine wpAny_updateSeq hS' rfl (wpAny_pure ⟨plainId_quiet F.plain_extend_loop _, ih (i + 1) _ (tk + 1) (acc.push (.ref h.objs.size)) _ (by omega) hlt ?_ ?_ ?_ (Heap.get?_update_self _ hS' rfl) ⟨by rw [Array.size_push, ht.1], fun j hj => ?_⟩ (fun b o b1 b2 b3 q => ?_) ?_⟩)
      (by rw [ht.1]; omega) (by show (acc.push _).size ≤ sizeLine + 1; rw [Array.size_push, ht.1]; omega)
    · have he' : EnAt h' e it ((i + 1 : Nat) : Int) := by rw [show ((i + 1 : Nat) : Int) = (i : Int) + 1 by omega]; exact he'
      exact he'.at fun o q => (Heap.get?_update_other _ _ hSe).trans q
    · obtain ⟨o, ho, r⟩ := hit'
      exact ⟨o, (Heap.get?_update_other _ _ hSi).trans ho, r⟩
    · obtain ⟨o, ho, r⟩ := hl'
      exact ⟨o, (Heap.get?_update_other _ _ hSl).trans ho, r⟩
    · by_cases e1 : j = i
      · subst e1
        exact ⟨h.objs.size, tk, _, by rw [← ht.1]; simp, (fun z => by
          rcases z with z | z | z | z
          · exact absurd z (Nat.ne_of_gt ltS)
          · exact absurd z (Nat.ne_of_gt lte)
          · exact absurd z (Nat.ne_of_gt lti)
          · exact absurd z (Nat.not_lt.mpr hn0)), Array.getElem?_eq_getElem hlt, (Heap.get?_update_other _ _ (Nat.ne_of_lt ltS)).trans hT'⟩
      · obtain ⟨T, t, x, a1, a2, a3, a4⟩ := ht.2 j (by omega)
        refine ⟨T, t, x, ?_, a2, a3, (Heap.get?_update_other _ _ (fun z => a2 (.inl z.symm))).trans (k' _ _ (fun z => a2 (.inr (.inl z))) (fun z => a2 (.inr (.inr (.inl z)))) a4)⟩
        rw [Array.getElem?_push, if_neg (by rw [ht.1]; exact e1)]
        exact a1
    · exact (Heap.get?_update_other _ _ (Ne.symm b1)).trans (k' _ _ b2 b3 (fr b o b1 b2 b3 q))
    · rw [Heap.size_update]
      exact Nat.le_trans hn0 (Nat.le_of_lt (Heap.lt_size hT'))
theorem en_extend {R : Result → Shared → Prop} {e it l S : Addr} {items : Array Value} {res : Value} {c0 n0 : Nat} (hn0 : n0 ≤ s.heap.objs.size) (hh : A.handled = none) (he : IsEnum s.heap e it 0 .none) (hit : s.heap.IsListIter it l 0) (hl : s.heap.IsList l items) (hne : e ≠ it) (hSe : S ≠ e) (hSi : S ≠ it) (hSl : S ≠ l) (hle : l ≠ e) (hli : l ≠ it) (hz : items.size ≤ sizeLine)
    (hS : s.heap.get? S = some { cls := .type "list", data := .seq #[] c0 })
    (hR : ∀ h' tk acc c, (∀ b o, b ≠ S → b ≠ e → b ≠ it → s.heap.get? b = some o → h'.get? b = some o) → h'.get? S = some { cls := .type "list", dict := none, data := .seq acc c, slots := #[] } → Tups h' items acc items.size (fun T => T = S ∨ T = e ∨ T = it ∨ T < n0) → R (.ok (.ret res)) { s with heap := h', toks := tk }) :
    wpAny (model prog w) A.in1 (Builtin.List.listExtendWith (.ref S) (.ref e) res)
      (fun fin s' => match fin with | .done f => R (.ok f) s' | .again c' => c'.quiet = true ∧ codeAny (model prog w) A c' R s') (fun e s' => R (.error e) s') s := by
  have hT : s.TypeIs (.ref e) "enumerate" := ⟨_, he, rfl⟩
  unfold Builtin.List.listExtendWith
  refine wpAny_bind (wpAny_typeOf hT ?_)
  have h1 : Builtin.List.listSameRef (.ref S) (.ref e) = false := by simp [Builtin.List.listSameRef, hSe]
  have h2 : (Value.type "enumerate" == Value.type "list") = false := by decide
  have h3 : (Value.type "enumerate" == Value.type "tuple") = false := by decide
  simp only [h1, h2, h3, Bool.or_false, Bool.false_eq_true, if_false]
  refine wpAny_bind (wpAny_pyIter_enum he ?_)
  refine wpAny_bind (wpAny_holding ?_)
  unfold Builtin.List.listLengthHint
  refine wpAny_bind (wpAny_specialOf hT enum_no_len ?_)
  show wpAny _ A.in1 (specialOf (Value.ref e) (Str.ofString "__length_hint__") >>= _) _ _ _
  refine wpAny_bind (wpAny_specialOf hT enum_no_hint ?_)
  refine wpAny_pure ?_
  show wpAny _ A.in1 (rule "list.extend.makes-room" >>= fun _ => Builtin.List.listTouch (.ref S) >>= fun _ => again (.builtin "list.extend.loop" ⟨[.ref S, .ref e, res], []⟩)) _ _ _
  refine wpAny_bind (wpAny_rule ?_)
  refine wpAny_bind ?_
  show wpAny _ A.in1 (updateSeq S (·.push .none) >>= fun _ => updateSeq S (·.pop)) _ _ _
  refine wpAny_bind (wpAny_updateSeq hS rfl ?_)
  have hS₂ := Heap.get?_update_self (Obj.mapSeq (·.push Value.none)) hS rfl
  refine wpAny_updateSeq hS₂ rfl ?_
  have hS₃ := Heap.get?_update_self (Obj.mapSeq (·.pop)) hS₂ rfl
  have oth : ∀ b o, b ≠ S → s.heap.get? b = some o → ((s.heap.update S (Obj.mapSeq (·.push Value.none))).update S (Obj.mapSeq (·.pop))).get? b = some o := fun b o hb q => (Heap.get?_update_other _ _ (Ne.symm hb)).trans ((Heap.get?_update_other _ _ (Ne.symm hb)).trans q)
  refine wpAny_pure ⟨plainId_quiet F.plain_extend_loop _, en_loop (s := s) hh hne hSe hSi hSl hle hli hz s.heap n0 hR _ 0 _ s.toks #[] _ rfl (Nat.zero_le _) ⟨_, .inl (oth _ _ (Ne.symm hSe) he)⟩ ?_ ?_ hS₃ ⟨rfl, fun j hj => absurd hj (Nat.not_lt_zero _)⟩ (fun b o b1 _ _ q => oth b o b1 q) (by rw [Heap.size_update, Heap.size_update]; exact hn0)⟩
  · obtain ⟨o, ho, r⟩ := hit
    exact ⟨o, oth _ _ (Ne.symm hSi) ho, r⟩
  · obtain ⟨o, ho, r⟩ := hl
    exact ⟨o, oth _ _ (Ne.symm hSl) ho, r⟩
theorem call_list_enum {Q : Value → Shared → Prop} {e it l : Addr} {items : Array Value} (hh : A.handled = none) (he : IsEnum s.heap e it 0 .none) (hit : s.heap.IsListIter it l 0) (hl : s.heap.IsList l items) (hne : e ≠ it) (hz : items.size ≤ sizeLine)
    (hQ : ∀ h' tk acc c, (∀ b o, b ≠ e → b ≠ it → s.heap.get? b = some o → h'.get? b = some o) → h'.get? s.heap.objs.size = some { cls := .type "list", dict := none, data := .seq acc c, slots := #[] } → Tups h' items acc items.size (fun T => T = s.heap.objs.size ∨ T = e ∨ T = it ∨ T < s.heap.objs.size) → Q (.ref s.heap.objs.size) { s with heap := h', toks := tk }) :
    wpAny (model prog w) A (call (.type "list") [.ref e]) Q E s := by
  refine callType_codes (Q₁ := fun obj s₁ => obj = .ref s.heap.objs.size ∧ s₁ = { s with heap := s.heap.push { cls := .type "list", data := .seq #[] } }) F.called_list (F.typeCall_list_1 _) F.entry_list_init
    (code_list_new _ ⟨rfl, rfl⟩) fun obj s₁ h₁ => ?_
  obtain ⟨rfl, rfl⟩ := h₁
  have hS : (s.heap.push { cls := .type "list", data := .seq #[] }).get? s.heap.objs.size = some { cls := .type "list", data := .seq #[] } := Heap.get?_push_size _ rfl
  have lte : e < s.heap.objs.size := Heap.lt_size he
  have lti : it < s.heap.objs.size := by obtain ⟨o, ho, _⟩ := hit; exact Heap.lt_size ho
  have ltl : l < s.heap.objs.size := by obtain ⟨o, ho, _⟩ := hl; exact Heap.lt_size ho
  have hle : l ≠ e := fun z => by
    obtain ⟨o, ho, hc, _⟩ := hl
    rw [z, he] at ho
    cases ho
    exact absurd (Value.type.inj (show Value.type "enumerate" = Value.type "list" from hc)) (by decide)
  have hli : l ≠ it := fun z => by
    obtain ⟨o, ho, hc, _⟩ := hl
    obtain ⟨o', ho', hc', _⟩ := hit
    rw [z, ho'] at ho
    cases ho
    rw [hc'] at hc
    exact absurd (Value.type.inj (show Value.type "list_iterator" = Value.type "list" from hc)) (by decide)
  refine ⟨⟨_, hS, rfl⟩, F.args_list_init_2 _ _, ?_⟩
  show wpAny _ _ (do let old ← Builtin.List.listItems (.ref s.heap.objs.size); Builtin.List.listUpdate (.ref s.heap.objs.size) (fun _ => #[]); letGo old.toList.reverse; Builtin.List.listExtendWith (.ref s.heap.objs.size) (.ref e) .none) _ _ _
  refine wpAny_bind ?_
  unfold Builtin.List.listItems
  refine wpAny_bind (wpAny_seqItems hS rfl (wpAny_pure ?_))
  show wpAny _ _ (updateSeq s.heap.objs.size (fun _ => #[]) >>= fun _ => letGo (#[] : Array Value).toList.reverse >>= fun _ => Builtin.List.listExtendWith (.ref s.heap.objs.size) (.ref e) .none) _ _ _
  refine wpAny_bind (wpAny_updateSeq hS rfl ?_)
  have hS₂ := Heap.get?_update_self (Obj.mapSeq (fun _ => (#[] : Array Value))) hS rfl
  have oth : ∀ b o, b ≠ s.heap.objs.size → s.heap.get? b = some o → ((s.heap.push { cls := .type "list", data := .seq #[] }).update s.heap.objs.size (Obj.mapSeq (fun _ => (#[] : Array Value)))).get? b = some o :=
    fun b o hb q => (Heap.get?_update_other _ _ (Ne.symm hb)).trans (Heap.get?_push_of_some _ q)
  refine wpAny_bind (wpAny_letGo ?_)
  refine en_extend (A := A.in1) (n0 := s.heap.objs.size) (by rw [Heap.size_update, Heap.size_push]; exact Nat.le_succ _) (s := { s with heap := (s.heap.push { cls := .type "list", data := .seq #[] }).update s.heap.objs.size (Obj.mapSeq (fun _ => (#[] : Array Value))) }) hh (oth _ _ (Nat.ne_of_lt lte) he) ?_ ?_ hne (Nat.ne_of_gt lte) (Nat.ne_of_gt lti) (Nat.ne_of_gt ltl) hle hli hz hS₂ fun h' tk acc c k1 k2 k3 => ?_
  · obtain ⟨o, ho, r⟩ := hit
    exact ⟨o, oth _ _ (Nat.ne_of_lt lti) ho, r⟩
  · obtain ⟨o, ho, r⟩ := hl
    exact ⟨o, oth _ _ (Nat.ne_of_lt ltl) ho, r⟩
  · exact ⟨rfl, hQ h' tk acc c (fun b o b2 b3 q => k1 b o (Nat.ne_of_lt (Heap.lt_size q)) b2 b3 (oth b o (Nat.ne_of_lt (Heap.lt_size q)) q)) k2 k3⟩
end
section
variable {X : Cx} {pins : List (Addr × Obj)} {σ : List (Option V)} {H H' : Hp} {s : Shared} {h' : Heap}
theorem Inv.laidG {t' : Nat} (I : Inv X pins σ H s) (k : ∀ b u, s.heap.get? b = some u → h'.get? b = some u) (sm : ∀ b u, H b = some u → H' b = some u) (new : ∀ b, b < s.heap.objs.size → H b = none → H' b = none) (ok : ∀ b u, H b = none → H' b = some u → ObjOk X.prog X.w H' h' b u) : Inv X pins σ H' { s with heap := h', toks := t' } := by
  refine I.un ⟨fun b u q _ _ _ => k b u q, fun b u q _ _ _ => ⟨u.slots, k b u q⟩, fun b u q n _ => new b (Heap.lt_size q) n, fun b u q _ => ⟨u, k b u q⟩, fun b xs q => sm _ _ q, fun b u xs q => sm _ _ q, fun b ps q => ⟨#[], by rw [sm _ _ q]; simp⟩⟩ fun b u e => ?_
  cases q : H b with
  | none => exact ok b u q e
  | some v =>
    have e2 := sm _ _ q
    rw [e] at e2
    cases e2
    exact (I.hok b u q).stay (fun c v _ q => k c v q) (fun c q => sm _ _ q) fun c xs q => sm _ _ q
end
def fstI (o : Option Obj) : Int := match o with
  | some ob => (match ob.data with
    | .seq xs _ => (match xs[0]? with
      | some (Value.int i _) => i
      | _ => 0)
    | _ => 0)
  | none => 0
def tLE (K : PySem.W.Frag) (ta : TA) : TE := fun σ H Q => ta σ H fun vs H1 => ∃ l xs, vs = [.ref l] ∧ SqL K H1 l xs ∧ ∀ (L : Addr) (ts : List Addr) (H' : Hp), Same H1 H' → H1 L = none → ts.length = xs.length → (∀ t ∈ ts, H1 t = none) → H' L = some (.lst (ts.map V.ref)) →
  (∀ (j : Nat) t x, ts[j]? = some t → xs[j]? = some x → H' t = some (.tup [.int ((j : Nat) : Int), x])) → Q (.ref L) H'
theorem bt_listL : bootBuiltins "list" = some (.type "list") := by decide +kernel
section
variable {X : Cx}
theorem pe_listEnum {a : Expr} {ta : TA} {p q pos pos2 : Pos} (hc : X.calm = true) (hg : Gl X "list") (hm : X.mg "list" = none) (hg2 : Gl X "enumerate") (hm2 : X.mg "enumerate" = none) (ha : PA X [a] ta) (hs : starEach [a] X.env = [(false, eval a X.env)] := by rfl)
    (hs2 : starEach [.Call (.Name "enumerate" q) [a] [] pos2] X.env = [(false, eval (.Call (.Name "enumerate" q) [a] [] pos2) X.env)] := by rfl) : PE X (.Call (.Name "list" p) [.Call (.Name "enumerate" q) [a] [] pos2] [] pos) (tLE X.K ta) := by
  intro pins s σ H Q I h
  refine wpAny_Call_Name_kw (ld_blt I hg hm bt_listL ?_ (by decide) (by decide))
  refine PyProof.Rows.callWith_type1 ?_ hs2 rfl
  rw [hs2]
  refine Calls.spliced_cons (wpAny_Call_Name_kw (ld_blt I hg2 hm2 bt_enum ?_ (by decide) (by decide)))
  refine PyProof.Rows.callWith_type1 (thn (ha pos2 pins s σ H _ I h) fun us s1 ⟨vs, H1, I1, r1, q1⟩ => ?_) hs rfl
  obtain ⟨l, xs, e, hq, qq⟩ := q1
  subst e
  obtain ⟨u, rfl, ru⟩ := vals1 r1
  cases ru
  obtain ⟨its, rv, pl, hz⟩ := I1.list hq
  have hlen := rv.length
  refine call_enumerate_list pl.isList fun h2 he hi hsz hk => ?_
  refine Calls.spliced_nil ?_
  have hl2 : h2.IsList l its.toArray := by
    obtain ⟨o, ho, r⟩ := pl.isList
    exact ⟨o, hk _ _ ho, r⟩
  refine call_list_enum (s := { s1 with heap := h2 }) (I1.ok.hd hc) he hi hl2 (Nat.succ_ne_self _) (by rw [List.size_toArray]; omega) fun h3 tk acc c k1 k2 k3 => ?_
  obtain ⟨ka0, kt0⟩ := k3
  have ka : acc.size = its.length := by simpa using ka0
  have kt : ∀ j, j < its.length → ∃ T t x, acc[j]? = some (.ref T) ∧ ¬ (T = h2.objs.size ∨ T = s1.heap.objs.size + 1 ∨ T = s1.heap.objs.size ∨ T < h2.objs.size) ∧ its.toArray[j]? = some x ∧ h3.get? T = some { cls := .type "tuple", data := .seq #[.int (j : Nat) t, x] } := fun j hj => kt0 j (by simpa using hj)
  have kk : ∀ b o, s1.heap.get? b = some o → h3.get? b = some o := fun b o z => k1 b o (Nat.ne_of_lt (Nat.lt_succ_of_lt (Heap.lt_size z))) (Nat.ne_of_lt (Heap.lt_size z)) (hk _ _ z)
  -- the tuples
  let ts : List Addr := acc.toList.map fun v => match v with
    | .ref T => T
    | _ => 0
  have tl : ts.length = xs.length := by
    show (acc.toList.map _).length = _
    rw [List.length_map, Array.length_toList, ka, hlen]
  have at_ : ∀ (j : Nat) t, ts[j]? = some t → ∃ tok x, acc[j]? = some (.ref t) ∧ t ≠ h2.objs.size ∧ h2.objs.size ≤ t ∧ its[j]? = some x ∧ h3.get? t = some { cls := .type "tuple", data := .seq #[.int (j : Nat) tok, x] } := fun j t e => by
    have hj : j < its.length := by have := (List.getElem?_eq_some_iff.mp e).1; omega
    obtain ⟨T, tok, x, a1, a2, a3, a4⟩ := kt j hj
    have e' : ts[j]? = some T := by
      show (acc.toList.map _)[j]? = _
      rw [List.getElem?_map, Array.getElem?_toList, a1]
      rfl
    rw [e] at e'
    cases e'
    refine ⟨tok, x, a1, fun z => a2 (.inl z), ?_, by simpa using a3, a4⟩
    exact Nat.le_of_not_lt fun z => a2 (.inr (.inr (.inr z)))
  have nd : ∀ (j k : Nat) t, ts[j]? = some t → ts[k]? = some t → j = k := fun j k t e1 e2 => by
    obtain ⟨_, _, _, _, _, _, b1⟩ := at_ j t e1
    obtain ⟨_, _, _, _, _, _, b2⟩ := at_ k t e2
    rw [b1] at b2
    have := congrArg fstI b2
    have : ((j : Nat) : Int) = ((k : Nat) : Int) := this
    omega
  let H' : Hp := fun b => if b = h2.objs.size then some (.lst (ts.map V.ref)) else if b ∈ ts then some (.tup [.int ((ts.idxOf b : Nat) : Int), xs.getD (ts.idxOf b) .non]) else H1 b
  have sz2 : h2.objs.size = s1.heap.objs.size + 2 := hsz
  have old : ∀ b, b < s1.heap.objs.size → H' b = H1 b := fun b hb => by
    show (if b = h2.objs.size then _ else if b ∈ ts then _ else H1 b) = _
    rw [if_neg (by omega), if_neg fun m => by
      obtain ⟨j, hj, e⟩ := List.getElem_of_mem m
      obtain ⟨_, _, _, _, le, _⟩ := at_ j b (by rw [List.getElem?_eq_getElem hj, e])
      omega]
  have H1lt : ∀ b u, H1 b = some u → b < s1.heap.objs.size := fun b u z => (I1.hok b u z).lt
  have fresh : ∀ b, s1.heap.objs.size ≤ b → H1 b = none := fun b hb => I1.hok.fresh hb
  have sm : Same H1 H' := fun b u z => by rw [old b (H1lt b u z)]; exact z
  have atT : ∀ (j : Nat) t x, ts[j]? = some t → xs[j]? = some x → H' t = some (.tup [.int ((j : Nat) : Int), x]) := fun j t x e1 e2 => by
    obtain ⟨_, _, _, ne, _⟩ := at_ j t e1
    have m := List.mem_of_getElem? e1
    have ix : ts.idxOf t = j := nd _ _ t (by rw [List.getElem?_eq_getElem (List.idxOf_lt_length_of_mem m), List.getElem_idxOf]) e1
    show (if t = h2.objs.size then _ else if t ∈ ts then some (HO.tup [.int ((ts.idxOf t : Nat) : Int), xs.getD (ts.idxOf t) .non]) else H1 t) = _
    rw [if_neg ne, if_pos m, ix, List.getD_eq_getElem?_getD, e2]
    rfl
  have atL : H' h2.objs.size = some (.lst (ts.map V.ref)) := if_pos rfl
  refine ⟨.ref h2.objs.size, H', I1.laidG (t' := tk) kk sm (fun b hb n => by rw [old b hb]; exact n) (fun b u n e => ?_), rfl, qq h2.objs.size ts H' sm (fresh _ (by omega)) tl (fun t ht => ?_) atL atT⟩
  · by_cases eb : b = h2.objs.size
    · subst eb
      rw [atL] at e
      cases e
      refine ⟨by rw [List.length_map, tl]; exact hz, acc.toList, c, ?_, by simpa using k2⟩
      have key : ∀ (l : List Value) (js : List Addr), l.length = js.length → (∀ (j : Nat) t, js[j]? = some t → l[j]? = some (.ref t)) → Vals (js.map V.ref) l := by
        intro l
        induction l with
        | nil =>
          intro js hl _
          cases js with
          | nil => exact .nil
          | cons => cases hl
        | cons v l ih =>
          intro js hl h
          cases js with
          | nil => cases hl
          | cons t js =>
            have h0 := h 0 t rfl
            cases Option.some.inj h0
            exact .cons rfl (ih js (Nat.succ.inj hl) fun j t' e => h (j + 1) t' e)
      refine key _ _ (by rw [Array.length_toList, ka, tl, hlen]) fun j t e => ?_
      obtain ⟨_, _, a1, _⟩ := at_ j t e
      rw [Array.getElem?_toList]
      exact a1
    · have m : b ∈ ts := by
        refine Decidable.byContradiction fun nm => ?_
        have : H' b = H1 b := by
          show (if b = h2.objs.size then _ else if b ∈ ts then _ else H1 b) = _
          rw [if_neg eb, if_neg nm]
        rw [this, n] at e
        cases e
      obtain ⟨j, hj, ej⟩ := List.getElem_of_mem m
      have ej' : ts[j]? = some b := by rw [List.getElem?_eq_getElem hj, ej]
      obtain ⟨x, hx⟩ : ∃ x, xs[j]? = some x := ⟨_, List.getElem?_eq_getElem (by omega)⟩
      rw [atT j b x ej' hx] at e
      cases e
      obtain ⟨tok, v, _, _, _, a3, a4⟩ := at_ j b ej'
      have rxv : RelV x v := by
        obtain ⟨y, hy, ry⟩ := rv.getE (m := j) (by omega)
        rw [hx] at hy
        cases hy
        rw [List.getElem?_eq_getElem (by omega)] at a3
        rw [← Option.some.inj a3]
        exact ry
      exact ⟨by have := sizeLine_eq; show 2 ≤ sizeLine; omega, [.int (j : Nat) tok, v], .cons ⟨tok, rfl⟩ (.cons rxv .nil), ⟨_, a4, rfl, 0, rfl⟩⟩
  · obtain ⟨j, hj, ej⟩ := List.getElem_of_mem ht
    obtain ⟨_, _, _, _, le, _⟩ := at_ j t (by rw [List.getElem?_eq_getElem hj, ej])
    exact fresh _ (by omega)
end
end L2
namespace L2
def ltP (e f : Int × Int) : Bool := if e.1 = f.1 then decide (e.2 < f.2) else decide (e.1 < f.1)
end L2
namespace HT
open PySem PyProof.Rows L2
section
open PySem.SeqAt
open PySem.AutoSeq1 (wpAny_loadPart')
open PySem.MeetsSeq PySem.MeetsSeq2 PySem.MeetsSeq3
set_option maxHeartbeats 4000000 in
theorem tuple_le_pairs (l b : Addr) (n n2 : Nat) (dd dd2 : Option Addr) (sl sl2 : Array (Option Value)) (e f : Int × Int) (t u t' u' : Tok) :
    Meets (Builtin.«tuple.__le__» ⟨[.ref l, .ref b], []⟩)
      (fun A R s => s.heap.get? l = some { cls := .type "tuple", dict := dd, data := .seq #[.int e.1 t, .int e.2 u] n, slots := sl } ∧ s.heap.get? b = some { cls := .type "tuple", dict := dd2, data := .seq #[.int f.1 t', .int f.2 u'] n2, slots := sl2 } ∧
        R (.ok (.ret (.bool (!ltP f e)))) s) :=
  .of_wp fun prog w A R s h => by
    obtain ⟨hp, g, d, tk, os⟩ := s; obtain ⟨hl, hb, h⟩ := h
    have f2 := AutoSeq1.sub_tuple_tuple
    by_cases h1 : e.1 = f.1
    · have q1 : ∀ {A : Around} {E : Value → Shared → Prop} {Q : Bool → Shared → Prop} {s : Shared}, Q true s → wpAny (model prog w) A (eqBool (.int e.1 t) (.int f.1 t')) Q E s := fun h => wpAny_eqBool_int (by rw [show (e.1 == f.1) = true from beq_iff_eq.mpr h1]; exact h)
      by_cases h2 : e.2 = f.2
      · have q2 : ∀ {A : Around} {E : Value → Shared → Prop} {Q : Bool → Shared → Prop} {s : Shared}, Q true s → wpAny (model prog w) A (eqBool (.int e.2 u) (.int f.2 u')) Q E s := fun h => wpAny_eqBool_int (by rw [show (e.2 == f.2) = true from beq_iff_eq.mpr h2]; exact h)
        have r : (!ltP f e) = true := by unfold ltP; rw [if_pos h1.symm, h2]; simp
        rw [r] at h
        wp_walk using wpAny_loadPart' hl, wpAny_loadPart' hb, q1, q2
        exact ⟨_, rfl, by simpa [Builtin.Tuple.tupleCompareSizes] using h⟩
      · have q2 : ∀ {A : Around} {E : Value → Shared → Prop} {Q : Bool → Shared → Prop} {s : Shared}, Q false s → wpAny (model prog w) A (eqBool (.int e.2 u) (.int f.2 u')) Q E s := fun h => wpAny_eqBool_int (by rw [show (e.2 == f.2) = false from beq_eq_false_iff_ne.mpr h2]; exact h)
        have r : (!ltP f e) = decide (e.2 ≤ f.2) := by
          unfold ltP
          rw [if_pos h1.symm]
          by_cases z : f.2 < e.2
          · rw [decide_eq_true z, decide_eq_false (by omega)]; rfl
          · rw [decide_eq_false z, decide_eq_true (by omega)]; rfl
        rw [r] at h
        have hri := rcLe_int A.in1 ⟨hp, g, d, tk, os⟩ e.2 u f.2 u' prog w
        wp_walk using wpAny_loadPart' hl, wpAny_loadPart' hb, q1, q2, hri
        exact ⟨_, rfl, h⟩
    · have q1 : ∀ {A : Around} {E : Value → Shared → Prop} {Q : Bool → Shared → Prop} {s : Shared}, Q false s → wpAny (model prog w) A (eqBool (.int e.1 t) (.int f.1 t')) Q E s := fun h => wpAny_eqBool_int (by rw [show (e.1 == f.1) = false from beq_eq_false_iff_ne.mpr h1]; exact h)
      have r : (!ltP f e) = decide (e.1 ≤ f.1) := by
        unfold ltP
        rw [if_neg (Ne.symm h1)]
        by_cases z : f.1 < e.1
        · rw [decide_eq_true z, decide_eq_false (by omega)]; rfl
        · rw [decide_eq_false z, decide_eq_true (by omega)]; rfl
      rw [r] at h
      have hri := rcLe_int A.in1 ⟨hp, g, d, tk, os⟩ e.1 t f.1 t' prog w
      wp_walk using wpAny_loadPart' hl, wpAny_loadPart' hb, q1, hri
      exact ⟨_, rfl, h⟩
end
end HT
namespace L2
open PySem PySem.Spec PyProof.Rows
def prV (e : Int × Int) : List V := [.int e.1, .int e.2]
section
variable {X : Cx} {E : XK} {pos : Pos} {a b : Expr} {ga gb : GE}
def rLeP : R2 := fun x y H Q => ∃ a b, ∃ e f : Int × Int, x = .ref a ∧ y = .ref b ∧ H a = some (.tup (prV e)) ∧ H b = some (.tup (prV f)) ∧ Q (.bl (!ltP f e)) H
theorem tup_pr {pins : List (Addr × Obj)} {σ : St} {H : Hp} {s : Shared} {a : Addr} {e : Int × Int} (I : Inv X pins σ H s) (h : H a = some (.tup (prV e))) : ∃ t u n dd sl, s.heap.get? a = some { cls := .type "tuple", dict := dd, data := .seq #[.int e.1 t, .int e.2 u] n, slots := sl } := by
  obtain ⟨its, rv, ⟨o, e1, c, n, d⟩, _⟩ := I.tuple (SqT.of (K := X.K) h)
  unfold prV at rv
  cases rv with
  | cons r0 rr =>
    cases rr with
    | cons r1 r2 =>
      cases r2
      obtain ⟨t0, rfl⟩ := r0
      obtain ⟨t1, rfl⟩ := r1
      obtain ⟨oc, od, odt, osl⟩ := o
      cases c
      cases d
      exact ⟨t0, t1, n, od, osl, e1⟩
theorem op_leP (hu : X.A.units < cLine) : OpR X (compareOp .LtE) rLeP := by
  intro pins s σ H x y v u Q I rx ry h
  obtain ⟨a, b, e, f, rfl, rfl, h1, h2, q⟩ := h
  cases rx
  cases ry
  obtain ⟨t, u, n, dd, sl, o1⟩ := tup_pr I h1
  obtain ⟨t', u', n', dd', sl', o2⟩ := tup_pr I h2
  exact richCompare_meets_room (op := .LtE) ⟨_, o1, rfl⟩ ⟨_, o2, rfl⟩ PySem.F.slot_tuple_le PySem.F.entry_tuple_le (PySem.F.args_tuple_le_2 _ _) (HT.tuple_le_pairs a b n n' dd dd' sl sl' e f t u t' u')
    ⟨o1, o2, show Value.bool (!ltP f e) ≠ Value.notImplemented ∧ _ from ⟨(fun x => nomatch x), ⟨.bl (!ltP f e), H, I, rfl, q⟩⟩⟩ hu
def hLeP (x y : D) (Q : D → Prop) : Prop := ∃ e f : Int × Int, x = .tup [.int e.1, .int e.2] ∧ y = .tup [.int f.1, .int f.2] ∧ Q (.bl (!ltP f e))
theorem rep_pr {K : PySem.W.Frag} {F : Hp} {e : Int × Int} {v : V} (r : Rep K F (.tup [.int e.1, .int e.2]) v) : ∃ a, v = .ref a ∧ F a = some (.tup (prV e)) := by
  obtain ⟨c, xs, rfl, hF, r⟩ := r
  obtain ⟨_, _, rfl, r1, _, _, rfl, r2, r3⟩ := r
  cases (show _ = [] from r3)
  cases (show _ = _ from r1)
  cases (show _ = _ from r2)
  exact ⟨c, rfl, hF⟩
theorem od_leP {K : PySem.W.Frag} : OpD K rLeP hLeP := fun F H x y dx dy Qd Q s rx ry h fin => by
  obtain ⟨e, f, rfl, rfl, q⟩ := h
  obtain ⟨l, rfl, hF⟩ := rep_pr rx
  obtain ⟨m, rfl, hG⟩ := rep_pr ry
  exact ⟨l, m, e, f, rfl, rfl, s _ _ hF, s _ _ hG, fin.now s q rfl⟩
theorem dt_leP (hu : X.A.units + 64 < cLine) (ha : DE X E a ga) (hb : DE X E b gb) : DT X E (.Compare a [.LtE] [b] pos) (gTest (gOp hLeP ga gb)) := dt_cmp (op_leP (by omega)) od_leP ha hb (nomark _)
end
end L2
namespace L2
open PySem PySem.Spec PyProof.Rows
section
variable {X : Cx} {E : XK} {pos : Pos} {elt iter target : Expr} {scope : Scope} {cl : List (Str × Addr)} {tn fn : List Str} {fv : List Nat} {gi : GA} {g : TG} {u : D → Option (List D)} {gf : GA}
def gTblC (i : Nat) (gi : GA) (fv : List Nat) (u : D → Option (List D)) (gf : GA) : GS := fun Dd Ex env => gi env Ex fun ds => ds.length ≤ sizeLine ∧ ∃ f : D → List Int, (∀ d ∈ ds, ∃ ts, u d = some ts ∧ gf (ts.map DS.sh ++ fv.map (slotV env)) (fun _ => False) fun ys => ys = (f d).map D.int) ∧ ∀ a as, Dd.nx (env.set i (tblS a as (ds.map f)))
theorem ds_tblC {i : Nat} {y : Str} {py spos : Pos} (hN : X.N.Nodup) (hj : X.N[i]? = some y) (hy : Loc X.env.scope y) (hc : X.calm = true) (hi : DI X E target iter gi) (S : CompOkT X scope cl tn fn fv)
    (hg : ∀ C fp ps s3 H3, PG (compCx X scope cl (tn ++ fn) C fp ps s3 H3) target g) (ub : UB X.K g u tn.length)
    (he : ∀ C fp ps s3 H3, DF (compCx X scope cl (tn ++ fn) C fp ps s3 H3) E0 elt gf)
    (hsw : swapsWith (.ListComp elt [⟨target, iter, [], 0⟩] scope pos) (some (.Name y py)) spos.line X.env = pure true := by rfl) (hs : ∀ y, foldedSetIterable iter X.env y = pure y := by intro _; rfl)
    (hf : X.fn y = true ∨ X.env.scope.names.lookup y = some .local := by first | exact .inl rfl | exact .inr rfl | assumption) :
    DSt X E (.Assign [.Name y py] (.ListComp elt [⟨target, iter, [], 0⟩] scope pos) spos) (gTblC i gi fv u gf) := ⟨fun F0 H0 s0 =>
  PS.weak (ps_setCT (tt := DTT X.K E0 gYes) (te := DTF X.K E0 gf) hN hj hy hc hi.h S hg (fun _ _ _ _ _ => DIfs.h difs_nil) (fun C fp ps s3 H3 => (he C fp ps s3 H3).h) hsw hs hf) fun Dn σ H ⟨F, env, Ex, Dd, gr, sl, fr, ex, q, en⟩ =>
    ⟨F, env, Ex, _, gr.sub, sl, ex.step gr.hh, q, fun ds J F1 H1 q1 g1 jr => fun Dl hD => by
      obtain ⟨hlen, f, hf', qd⟩ := q1
      refine comp_tbl ub sl hlen f hf' (fun as F' H' gg T' nn => ?_) g1 jr hD
      refine en.nx _ _ F' H' (qd Dl as) (gr.trans gg) ((sl.grow gg).set (tbl_ok T' fun b m => (nn b m).1) fun _ j t c _ q' ot hc z => ?_) (fr.set sl.len fun _ c z => gr.hh.free (nn c z).2)
      obtain ⟨_, v, hv, _⟩ := (sl.ok j t q').there ot hc
      rw [(nn c z).2] at hv
      cases hv⟩⟩
end
section
variable {X : Cx} {E : XK} {pos : Pos}
def gRetTT (i j : Nat) : GS := fun Dd _ env => ∃ a as rows b bs rows2, i ≠ j ∧ env[i]? = some (tblS a as rows) ∧ env[j]? = some (tblS b bs rows2) ∧ rows.length + rows2.length ≤ sizeLine ∧ ∀ c, Dd.ro (tblS c (as ++ bs) (rows ++ rows2))
theorem ds_retTT {i j : Nat} {x y : Str} {np np2 bpos : Pos} (hN : X.N[i]? = some x) (hv : Vis X.env.scope x) (hN2 : X.N[j]? = some y) (hv2 : Vis X.env.scope y) (hd : (x == ("__debug__" : Str)) = false := by decide) (hcd : (x == ("__classdict__" : Str)) = false := by decide) (hd2 : (y == ("__debug__" : Str)) = false := by decide) (hcd2 : (y == ("__classdict__" : Str)) = false := by decide) :
    DSt X E (.Return (some (.BinOp (.Name x np) .Add (.Name y np2) bpos)) pos) (gRetTT i j) := ⟨fun F0 H0 s0 =>
  PS.weak (ps_ret (pe_op op_cat (pe_var hN hv hd hcd) (pe_var hN2 hv2 hd2 hcd2))) fun Dn σ H ⟨F, env, Ex, Dd, gr, sl, fr, ex, q, en⟩ => by
    obtain ⟨a, as, rows, b, bs, rows2, ne, e1, e2, hl, q⟩ := q
    obtain ⟨o1, f1, _, T1⟩ := sl.ok i _ e1
    obtain ⟨o2, f2, _, T2⟩ := sl.ok j _ e2
    have ap : ∀ c, c ∈ a :: as → c ∈ b :: bs → False := fun c m1 m2 => ne (sl.apart i j _ _ c e1 e2 rfl rfl m1 m2)
    refine ⟨.ref a, join_some o1, .ref b, join_some o2, a, b, _, _, rfl, rfl, T1.1, T2.1, by rw [List.length_map, List.length_map, T1.2.1, T2.2.1]; exact hl, fun L hL => ?_⟩
    have there : ∀ c, c ∈ a :: as ∨ c ∈ b :: bs → ∃ w, H c = some w := fun c m => by
      rcases m with m | m
      · obtain ⟨_, w, h, _⟩ := f1 c m; exact ⟨w, h⟩
      · obtain ⟨_, w, h, _⟩ := f2 c m; exact ⟨w, h⟩
    have nL : ∀ c, c ∈ a :: as ∨ c ∈ b :: bs → c ≠ L := fun c m z => by
      obtain ⟨w, h⟩ := there c m
      rw [z, hL] at h
      cases h
    have sL : Same H (upd H L (.lst (as.map V.ref ++ bs.map V.ref))) := fun c w h => by rw [upd_ne (ne_of_none h hL)]; exact h
    have TT : TblR L (as ++ bs) (rows ++ rows2) (upd H L (.lst (as.map V.ref ++ bs.map V.ref))) := by
      refine ⟨by rw [upd_same, List.map_append], by rw [List.length_append, List.length_append, T1.2.1, T2.2.1], fun k c r ec er => ?_, ?_⟩
      · by_cases hk : k < as.length
        · rw [List.getElem?_append_left hk] at ec
          rw [List.getElem?_append_left (by rw [← T1.2.1]; exact hk)] at er
          exact sL _ _ (T1.2.2.1 k c r ec er)
        · rw [List.getElem?_append_right (by omega)] at ec
          rw [List.getElem?_append_right (by rw [← T1.2.1]; omega), ← T1.2.1] at er
          exact sL _ _ (T2.2.2.1 _ c r ec er)
      · have n1 := List.nodup_cons.mp T1.2.2.2
        have n2 := List.nodup_cons.mp T2.2.2.2
        refine List.nodup_cons.mpr ⟨fun m => ?_, ?_⟩
        · rcases List.mem_append.mp m with m | m
          · exact nL L (.inl (List.mem_cons_of_mem _ m)) rfl
          · exact nL L (.inr (List.mem_cons_of_mem _ m)) rfl
        · rw [List.nodup_append]
          exact ⟨n1.2, n2.2, fun c hc c' hc' z => ap c (List.mem_cons_of_mem _ hc) (List.mem_cons_of_mem _ (by rw [z]; exact hc'))⟩
    have F0L : F L = none := (gr.sub).free hL
    refine en.ro _ (.ref L) F (upd H L (.lst (as.map V.ref ++ bs.map V.ref))) (q L) (gr.trans (Grow.still gr.sub sL)) (tbl_ok TT fun c m => ?_) rfl fun c m => ?_
    · rcases List.mem_cons.mp m with rfl | m
      · exact F0L
      · rcases List.mem_append.mp m with m | m
        · exact (f1 c (List.mem_cons_of_mem _ m)).1
        · exact (f2 c (List.mem_cons_of_mem _ m)).1
    · have m : c ∈ L :: (as ++ bs) := m
      rcases List.mem_cons.mp m with rfl | m
      · exact gr.hh.free hL
      · rcases List.mem_append.mp m with m | m
        · exact fr i _ c e1 rfl (List.mem_cons_of_mem _ m)
        · exact fr j _ c e2 rfl (List.mem_cons_of_mem _ m)⟩
end
end L2
namespace L2
open PySem PySem.Spec PyProof.Rows
theorem tbl_putI {K : PySem.W.Frag} {F0 H0 F H : Hp} {σ : St} {env : DEnv} {i : Nat} {a x : Addr} {as : List Addr} {rows : List (List Int)} {k : Nat} (ns : List Int) (gr : Grow F0 H0 F H) (sl : Slots K F H σ env) (fr : Fresh H0 σ env) (ei : env[i]? = some (tblS a as rows)) (ek : as[k]? = some x) :
    Grow F0 H0 F (upd H x (.lst (ns.map V.int))) ∧ Slots K F (upd H x (.lst (ns.map V.int))) σ (env.set i (tblS a as (rows.set k ns))) ∧ Fresh H0 σ (env.set i (tblS a as (rows.set k ns))) := by
  obtain ⟨e1, f, lc, rt⟩ := sl.ok i _ ei
  obtain ⟨r1, r2, r3, r4⟩ := rt
  obtain ⟨n1, n2⟩ := List.nodup_cons.mp r4
  have mx := List.mem_of_getElem? ek
  have nax : a ≠ x := fun z => n1 (z ▸ mx)
  have hk : k < rows.length := by rw [← r2]; exact (List.getElem?_eq_some_iff.mp ek).1
  have hx : ∀ xs, H x ≠ some (.tup xs) := fun xs z => by
    rw [r3 k x _ ek (List.getElem?_eq_getElem hk)] at z
    cases z
  refine ⟨gr.mut ((f x (List.mem_cons_of_mem _ mx)).1) (fr i _ x ei rfl (List.mem_cons_of_mem _ mx)), sl.chg ei (fun j t hj q' => ?_) (fun j t b hj q' ot hb ow z => ?_) ?_, fr.chg ei fun ow b hb => ?_⟩
  · exact (sl.ok j t q').off (fun ot c hc z => sl.offT ei rfl hj q' ot hc (z ▸ List.mem_cons_of_mem _ mx)) hx
  · exact sl.offT ei rfl hj q' ot hb z
  · rw [e1]
    refine tbl_ok ⟨by rw [upd_ne nax]; exact r1, by rw [List.length_set]; exact r2, fun j y r ey er => ?_, r4⟩ fun b m => (f b m).1
    by_cases hjk : k = j
    · subst hjk
      rw [ek] at ey
      cases ey
      rw [List.getElem?_set_self hk] at er
      cases er
      exact upd_same
    · rw [List.getElem?_set_ne hjk] at er
      have nyx : y ≠ x := fun z => by
        subst z
        have h1 := List.pairwise_iff_getElem.mp n2
        obtain ⟨l3, e3⟩ := List.getElem?_eq_some_iff.mp ek
        obtain ⟨l4, e4⟩ := List.getElem?_eq_some_iff.mp ey
        rcases Nat.lt_trichotomy k j with z | z | z
        · exact h1 k j l3 l4 z (e3.trans e4.symm)
        · exact hjk z
        · exact h1 j k l4 l3 z (e4.trans e3.symm)
      rw [upd_ne nyx]
      exact r3 j y r ey er
  · exact fr i _ b ei rfl hb
section
variable {X : Cx} {E : XK} {pos p p2 : Pos} {e : Expr} {ge gk gl : GE}
def gPut2I (i : Nat) (ge gk gl : GE) : GS := fun Dd Ex env => ∃ a as rows, env[i]? = some (tblS a as rows) ∧ ge env Ex fun d => ∃ n : Int, d = .int n ∧ gk env Ex fun k => ∃ (kn : Nat) (row : List Int), k = .int ((kn : Nat) : Int) ∧ rows[kn]? = some row ∧ gl env Ex fun l => ∃ ln : Nat, l = .int ((ln : Nat) : Int) ∧ ln < row.length ∧ Dd.nx (env.set i (tblS a as (rows.set kn (row.set ln n))))
theorem ds_put2I {i : Nat} {x : Str} {np : Pos} {ke le : Expr} (hN : X.N[i]? = some x) (hv : Vis X.env.scope x) (he : DE X E e ge) (hk : DE X E ke gk) (hl : DE X E le gl) (hpk : PlainIx ke) (hd : (x == ("__debug__" : Str)) = false := by decide) (hcd : (x == ("__classdict__" : Str)) = false := by decide)
    (ha : ∀ v, assign (.Subscript (.Subscript (.Name x np) ke p) le p2) X.env v = (do
      let ov ← holding [v] (eval (.Subscript (.Name x np) ke p) X.env)
      let iv ← holding [v, ov] (eval le X.env)
      standAt p2
      holding [v, ov, iv] (setItem ov iv v)
      release [v, ov, iv] []) := by intro _; rfl)
    (hs : swapsWithSole [.Subscript (.Subscript (.Name x np) ke p) le p2] e pos.line X.env = pure false := by rfl) (hw : swappedStores [.Subscript (.Subscript (.Name x np) ke p) le p2] e X.env = pure none := by rfl)
    (h1 : (assignEach [.Subscript (.Subscript (.Name x np) ke p) le p2] X.env).map (·.2) = [assign (.Subscript (.Subscript (.Name x np) ke p) le p2) X.env] := by rfl) : DSt X E (.Assign [.Subscript (.Subscript (.Name x np) ke p) le p2] e pos) (gPut2I i ge gk gl) := ⟨fun F0 H0 s0 =>
  PS.weak (ps_asg he.h (pg_sub (pe_ix ix_list (pe_var hN hv hd hcd) hk.h hpk) hl.h set_list ha) hs hw h1) fun Dn σ H ⟨F, env, Ex, Dd, gr, sl, fr, ex, q, en⟩ => by
    obtain ⟨a, as, rows, ei, q⟩ := q
    refine ⟨F, env, Ex, _, gr.sub, sl, ex.step gr.hh, q, fun d v F1 H1 q1 g1 rv => ?_⟩
    obtain ⟨n, rfl, q1⟩ := q1
    cases (show v = _ from rv)
    have sl1 := sl.grow g1
    obtain ⟨e1, f, lc, r⟩ := sl1.ok i _ ei
    refine ⟨.ref a, join_some e1, F1, env, Ex, _, g1.sub, sl1, (ex.step gr.hh).step g1.hh, q1, fun k vk F2 H2 q2 g2 rk => ?_⟩
    have sl2 := sl1.grow g2
    obtain ⟨_, f2, _, r2⟩ := sl2.ok i _ ei
    have hx : ∀ kn row, rows[kn]? = some row → ∃ x, as[kn]? = some x := fun kn row e => ⟨_, List.getElem?_eq_getElem (by rw [r2.2.1]; exact (List.getElem?_eq_some_iff.mp e).1)⟩
    obtain ⟨kn, row, rfl, hrow, q2⟩ := q2
    cases (show vk = _ from rk)
    obtain ⟨x, ex1⟩ := hx kn row hrow
    refine ⟨a, _, (kn : Int), .ref x, rfl, rfl, SqL.of r2.1, atI_nat (by rw [List.getElem?_map, ex1]; rfl), F2, env, Ex, _, g2.sub, sl2, ((ex.step gr.hh).step g1.hh).step g2.hh, q2, fun l vl F3 H3 q3 g3 rl => ?_⟩
    obtain ⟨ln, rfl, hln, pn⟩ := q3
    cases (show vl = _ from rl)
    have sl3 := sl2.grow g3
    obtain ⟨_, f3, _, r3⟩ := sl3.ok i _ ei
    obtain ⟨G', S', R'⟩ := tbl_putI (row.set ln n) (((gr.trans g1).trans g2).trans g3) sl3 fr ei ex1
    have em : (row.map V.int).set ln (.int n) = (row.set ln n).map V.int := (List.map_set ..).symm
    refine ⟨x, _, (ln : Int), ln, rfl, rfl, r3.2.2.1 kn x row ex1 hrow, ixN_lt (by rw [List.length_map]; exact hln), ?_⟩
    rw [em]
    exact en.nx _ σ F3 _ pn G' S' R'⟩
end
end L2
namespace Jn
structure Tells (m1 : Mp) (c : List (Int × Int)) : Prop where
  nd : (c.map (·.1)).Nodup
  is : ∀ i o, (i, o) ∈ c ↔ m1 i = some o
end Jn
namespace Tm
def ls {α : Type} (l : List α) (f : α → Int) : Int := (l.map f).sum
theorem ls_nil {α : Type} (f : α → Int) : ls ([] : List α) f = 0 := rfl
theorem ls_cons {α : Type} (x : α) (l : List α) (f : α → Int) : ls (x :: l) f = f x + ls l f := by
  unfold ls
  rw [List.map_cons, List.sum_cons]
theorem ls_append {α : Type} (l m : List α) (f : α → Int) : ls (l ++ m) f = ls l f + ls m f := by
  induction l with
  | nil => rw [List.nil_append, ls_nil, Int.zero_add]
  | cons x l ih => rw [List.cons_append, ls_cons, ls_cons, ih, Int.add_assoc]
theorem ls_congr {α : Type} {l : List α} {f g : α → Int} (h : ∀ x ∈ l, f x = g x) : ls l f = ls l g := by
  unfold ls
  rw [List.map_congr_left h]
theorem ls_le {α : Type} {l : List α} {f g : α → Int} (h : ∀ x ∈ l, f x ≤ g x) : ls l f ≤ ls l g := by
  induction l with
  | nil => exact Int.le_refl _
  | cons x l ih =>
    rw [ls_cons, ls_cons]
    exact Int.add_le_add (h x List.mem_cons_self) (ih fun y hy => h y (List.mem_cons_of_mem _ hy))
theorem ls_add {α : Type} (l : List α) (f g : α → Int) : ls l (fun x => f x + g x) = ls l f + ls l g := by
  induction l with
  | nil => rfl
  | cons x l ih => rw [ls_cons, ls_cons, ls_cons, ih]; omega
theorem ls_const {α : Type} (l : List α) (c : Int) : ls l (fun _ => c) = (l.length : Nat) * c := by
  induction l with
  | nil => rw [ls_nil]; simp
  | cons x l ih => rw [ls_cons, ih, List.length_cons, Int.natCast_add, Int.add_mul]; simp; omega
theorem ls_swap {α β : Type} (l : List α) (m : List β) (f : α → β → Int) : ls l (fun x => ls m (f x)) = ls m (fun y => ls l fun x => f x y) := by
  induction l with
  | nil =>
    rw [ls_nil]
    have : ∀ m : List β, ls m (fun _ => (0 : Int)) = 0 := fun m => by rw [ls_const]; simp
    exact (this m).symm
  | cons x l ih =>
    rw [ls_cons, ih, ← ls_add]
    exact ls_congr fun y _ => (ls_cons x l (fun x => f x y)).symm
theorem ls_nonneg {α : Type} {l : List α} {f : α → Int} (h : ∀ x ∈ l, 0 ≤ f x) : 0 ≤ ls l f := by
  have z := ls_le (f := fun _ => (0 : Int)) h
  rw [ls_const] at z
  simpa using z
theorem ls_perm {α : Type} {l m : List α} (h : l.Perm m) (f : α → Int) : ls l f = ls m f := by
  induction h with
  | nil => rfl
  | cons x _ ih => rw [ls_cons, ls_cons, ih]
  | swap x y l => rw [ls_cons, ls_cons, ls_cons, ls_cons]; omega
  | trans _ _ ih1 ih2 => rw [ih1, ih2]
theorem ls_sub {α : Type} [DecidableEq α] {f : α → Int} : ∀ {l m : List α}, l.Nodup → (∀ x ∈ l, x ∈ m) → (∀ x ∈ m, 0 ≤ f x) → ls l f ≤ ls m f
  | [], m, _, _, h => by rw [ls_nil]; exact ls_nonneg h
  | x :: l, m, nd, s, h => by
    obtain ⟨n1, n2⟩ := List.nodup_cons.mp nd
    have hx := s x List.mem_cons_self
    have ih := ls_sub (f := f) (m := m.erase x) n2 (fun y hy => (List.mem_erase_of_ne (fun e : y = x => n1 (by rw [← e]; exact hy))).mpr (s y (List.mem_cons_of_mem _ hy))) (fun y hy => h y (List.mem_of_mem_erase hy))
    have pm : m.Perm (x :: m.erase x) := List.perm_cons_erase hx
    have e : ls m f = f x + ls (m.erase x) f := by
      rw [← ls_cons]
      exact ls_perm pm f
    rw [ls_cons, e]
    omega
theorem ls_filter {α : Type} {f : α → Int} {p : α → Bool} {l : List α} (h : ∀ x ∈ l, p x = false → f x = 0) : ls (l.filter p) f = ls l f := by
  induction l with
  | nil => rfl
  | cons x l ih =>
    have ih := ih fun y hy => h y (List.mem_cons_of_mem _ hy)
    cases e : p x with
    | true => rw [List.filter_cons_of_pos e, ls_cons, ls_cons, ih]
    | false => rw [List.filter_cons_of_neg (by rw [e]; exact Bool.false_ne_true), ls_cons, ih, h x List.mem_cons_self e, Int.zero_add]
abbrev rg (n : Nat) : List Nat := List.range n
structure Ev (n : Nat) (M : Nat → Nat → Int) (left : Int) : Prop where
  nn : ∀ i, i < n → ∀ j, j < n → 0 ≤ M i j
  rw_ : ∀ i, i < n → ls (rg n) (M i) = left
  cl : ∀ j, j < n → ls (rg n) (fun i => M i j) = left
theorem Ev.no_crowd {n : Nat} {M : Nat → Nat → Int} {left : Int} (E : Ev n M left) (hl : 0 < left) {S T : List Nat} (sn : S.Nodup) (sl : ∀ i ∈ S, i < n) (tn : T.Nodup) (tl : ∀ j ∈ T, j < n) (h : ∀ i ∈ S, ∀ j, j < n → 0 < M i j → j ∈ T) : S.length ≤ T.length := by
  have a : ∀ i ∈ S, left ≤ ls T (M i) := fun i hi => by
    rw [← E.rw_ i (sl i hi)]
    have e := ls_filter (f := M i) (p := fun j => decide (0 < M i j)) (l := rg n) fun j hj hp => by
      have := E.nn i (sl i hi) j (List.mem_range.mp hj)
      have := of_decide_eq_false hp
      omega
    rw [← e]
    refine ls_sub (List.nodup_range.filter _) (fun j hj => ?_) (fun j hj => E.nn i (sl i hi) j (tl j hj))
    obtain ⟨h1, h2⟩ := List.mem_filter.mp hj
    exact h i hi j (List.mem_range.mp h1) (of_decide_eq_true h2)
  have b : ∀ j ∈ T, ls S (fun i => M i j) ≤ left := fun j hj => by
    rw [← E.cl j (tl j hj)]
    exact ls_sub sn (fun i hi => List.mem_range.mpr (sl i hi)) fun i hi => E.nn i (List.mem_range.mp hi) j (tl j hj)
  have c : (S.length : Nat) * left ≤ (T.length : Nat) * left := by
    rw [← ls_const S, ← ls_const T]
    refine Int.le_trans (ls_le a) ?_
    rw [ls_swap]
    exact ls_le b
  have d : ((S.length : Nat) : Int) ≤ ((T.length : Nat) : Int) := Int.le_of_mul_le_mul_right c hl
  omega
theorem Ev.off {n : Nat} {M : Nat → Nat → Int} {left len : Int} {c : Nat → Nat} (E : Ev n M left) (ci : ∀ i, i < n → c i < n) (inj : ∀ i, i < n → ∀ j, j < n → c i = c j → i = j) (hl : ∀ i, i < n → len ≤ M i (c i)) :
    Ev n (fun i j => if j = c i then M i j - len else M i j) (left - len) := by
  have one : ∀ (l : List Nat) (k : Nat), l.Nodup → k ∈ l → ∀ f : Nat → Int, ls l (fun j => if j = k then f j - len else f j) = ls l f - len := by
    intro l
    induction l with
    | nil => intro k _ h; cases h
    | cons x l ih =>
      intro k nd h f
      obtain ⟨n1, n2⟩ := List.nodup_cons.mp nd
      rw [ls_cons, ls_cons]
      by_cases e : x = k
      · subst e
        rw [if_pos rfl]
        have : ls l (fun j => if j = x then f j - len else f j) = ls l f := ls_congr fun j hj => if_neg fun z => n1 (by rw [← z]; exact hj)
        rw [this]
        omega
      · rw [if_neg e, ih k n2 ((List.mem_cons.mp h).resolve_left (Ne.symm e)) f]
        omega
  refine ⟨fun i hi j hj => ?_, fun i hi => ?_, fun j hj => ?_⟩
  · have := E.nn i hi j hj
    have := hl i hi
    split
    · rename_i e; subst e; omega
    · assumption
  · rw [one (rg n) (c i) List.nodup_range (List.mem_range.mpr (ci i hi)) (M i), E.rw_ i hi]
  · -- the row that gives at j
    have sur : ∃ i, i < n ∧ c i = j := by
      have nd : ((rg n).map c).Nodup := by
        rw [List.nodup_iff_pairwise_ne, List.pairwise_map]
        have := List.nodup_iff_pairwise_ne.mp (List.nodup_range (n := n))
        exact List.Pairwise.imp_of_mem (fun {x y} hx hy ne e => ne (inj x (List.mem_range.mp hx) y (List.mem_range.mp hy) e)) this
      have sub : ∀ x ∈ (rg n).map c, x ∈ rg n := fun x hx => by
        obtain ⟨i, hi, rfl⟩ := List.mem_map.mp hx
        exact List.mem_range.mpr (ci i (List.mem_range.mp hi))
      have mem : j ∈ (rg n).map c := by
        refine Decidable.byContradiction fun no => ?_
        have z := ls_sub (f := fun _ => (1 : Int)) (l := j :: (rg n).map c) (m := rg n) (List.nodup_cons.mpr ⟨no, nd⟩) (fun x hx => by
          rcases List.mem_cons.mp hx with rfl | hx
          · exact List.mem_range.mpr hj
          · exact sub x hx) (fun _ _ => by decide)
        rw [ls_const, ls_const, List.length_cons, List.length_map] at z
        simp at z
        omega
      obtain ⟨i, hi, e⟩ := List.mem_map.mp mem
      exact ⟨i, List.mem_range.mp hi, e⟩
    obtain ⟨i0, hi0, e0⟩ := sur
    have e : ls (rg n) (fun i => if j = c i then M i j - len else M i j) = ls (rg n) (fun i => if i = i0 then M i j - len else M i j) := ls_congr fun i hi => by
      by_cases h : i = i0
      · rw [if_pos h, if_pos (by rw [h, e0])]
      · rw [if_neg h, if_neg fun z => h (inj i (List.mem_range.mp hi) i0 hi0 (by rw [← z, e0]))]
    rw [e, one (rg n) i0 List.nodup_range (List.mem_range.mpr hi0) (fun i => M i j), E.cl j hj]
end Tm
namespace Tm
open L2
theorem ls_split (a b : Nat) (f : Nat → Int) : ls (rg (a + b)) f = ls (rg a) f + ls (rg b) (fun k => f (a + k)) := by
  have e : rg (a + b) = rg a ++ (rg b).map (a + ·) := List.range_add
  rw [e, ls_append]
  congr 1
  unfold ls
  rw [List.map_map]
  rfl
theorem ls_get (l : List Int) : ls (rg l.length) (fun j => l.getD j 0) = l.sum := by
  have e : (rg l.length).map (fun j => l.getD j 0) = l := by
    refine List.ext_getElem (by simp) fun i h1 h2 => ?_
    rw [List.getElem_map, List.getElem_range, List.getD_eq_getElem?_getD, List.getElem?_eq_getElem h2]
    rfl
  unfold ls
  rw [e]
theorem ls_one {n k : Nat} (h : k < n) (f : Nat → Int) : ls (rg n) (fun j => if j = k then f j else 0) = f k := by
  have go : ∀ l : List Nat, l.Nodup → k ∈ l → ls l (fun j => if j = k then f j else 0) = f k := by
    intro l
    induction l with
    | nil => intro _ z; cases z
    | cons x l ih =>
      intro nd z
      obtain ⟨n1, n2⟩ := List.nodup_cons.mp nd
      rw [ls_cons]
      by_cases e : x = k
      · subst e
        rw [if_pos rfl]
        have : ls l (fun j => if j = x then f j else 0) = ls l (fun _ => 0) := ls_congr fun j hj => if_neg fun z => n1 (by rw [← z]; exact hj)
        rw [this, ls_const]
        simp
      · rw [if_neg e, ih n2 ((List.mem_cons.mp z).resolve_left (Ne.symm e)), Int.zero_add]
  exact go _ List.nodup_range (List.mem_range.mpr h)
theorem ls_one' {n k : Nat} (h : k < n) (f : Nat → Int) : ls (rg n) (fun j => if k = j then f j else 0) = f k := by
  rw [← ls_one h f]
  exact ls_congr fun j _ => by
    by_cases e : j = k
    · rw [if_pos e, if_pos e.symm]
    · rw [if_neg e, if_neg (Ne.symm e)]
def ent (t : List (List Int)) (i j : Nat) : Int := (t.getD i []).getD j 0
def EvM (rows : List (List Int)) (c : Nat) (m : Int) (i j : Nat) : Int :=
  if i < rows.length then (if j < c then ent rows i j else if j - c = i then m - (rows.getD i []).sum else 0)
  else if j < c then (if j = i - rows.length then m - (colAt rows (i - rows.length)).sum else 0) else ent rows (j - c) (i - rows.length)
theorem row_len {rows : List (List Int)} {c i : Nat} (ok : OkTab rows c) (h : i < rows.length) : (rows.getD i []).length = c ∧ rows.getD i [] ∈ rows := by
  have m : rows.getD i [] ∈ rows := by
    rw [List.getD_eq_getElem?_getD, List.getElem?_eq_getElem h]
    exact List.getElem_mem h
  exact ⟨(ok.2.2.2.2 _ m).1, m⟩
theorem row_sum {rows : List (List Int)} {c i : Nat} (ok : OkTab rows c) (h : i < rows.length) : ls (rg c) (ent rows i) = (rows.getD i []).sum := by
  rw [← (row_len ok h).1]
  exact ls_get _
theorem col_sum (rows : List (List Int)) (k : Nat) : ls (rg rows.length) (fun i => ent rows i k) = (colAt rows k).sum := by
  have l : (colAt rows k).length = rows.length := List.length_map _
  rw [← ls_get (colAt rows k), l]
  refine ls_congr fun i hi => ?_
  have hi := List.mem_range.mp hi
  unfold ent colAt
  rw [List.getD_eq_getElem?_getD, List.getD_eq_getElem?_getD (l := List.map _ _), List.getElem?_map, List.getElem?_eq_getElem hi, List.getD_eq_getElem?_getD, List.getElem?_eq_getElem hi]
  rfl
theorem ent_nn {rows : List (List Int)} {c i j : Nat} (ok : OkTab rows c) : 0 ≤ ent rows i j := by
  unfold ent
  by_cases hi : i < rows.length
  · obtain ⟨l, m⟩ := row_len ok hi
    by_cases hj : j < (rows.getD i []).length
    · rw [List.getD_eq_getElem?_getD (l := rows.getD i []), List.getElem?_eq_getElem hj]
      exact ((ok.2.2.2.2 _ m).2 _ (List.getElem_mem hj)).1
    · rw [List.getD_eq_getElem?_getD (l := rows.getD i []), List.getElem?_eq_none (by omega)]
      exact Int.le_refl _
  · rw [List.getD_eq_getElem?_getD, List.getD_eq_getElem?_getD (l := rows), List.getElem?_eq_none (l := rows) (by omega)]
    exact Int.le_refl _
theorem ev_even {rows : List (List Int)} {c : Nat} {m : Int} (ok : OkTab rows c) (hm : isMost (sumsT rows c) m) : Ev (rows.length + c) (EvM rows c m) m := by
  have rs : ∀ i, i < rows.length → (rows.getD i []).sum ≤ m := fun i hi => hm.2 _ (List.mem_map.mpr ⟨_, List.mem_append_left _ (row_len ok hi).2, rfl⟩)
  have cs : ∀ k, k < c → (colAt rows k).sum ≤ m := fun k hk => hm.2 _ (List.mem_map.mpr ⟨_, List.mem_append_right _ (List.mem_map.mpr ⟨k, List.mem_range.mpr hk, rfl⟩), rfl⟩)
  refine ⟨fun i hi j hj => ?_, fun i hi => ?_, fun j hj => ?_⟩
  · unfold EvM
    split
    · rename_i h
      split
      · exact ent_nn ok
      · split
        · have := rs i h; omega
        · exact Int.le_refl _
    · rename_i h
      split
      · rename_i h2
        split
        · have := cs (i - rows.length) (by omega); omega
        · exact Int.le_refl _
      · exact ent_nn ok
  · rw [Nat.add_comm rows.length c, ls_split]
    by_cases h : i < rows.length
    · have e1 : ls (rg c) (EvM rows c m i) = (rows.getD i []).sum := by
        rw [← row_sum ok h]
        refine ls_congr fun j hj => ?_
        unfold EvM
        rw [if_pos h, if_pos (List.mem_range.mp hj)]
      have e2 : ls (rg rows.length) (fun k => EvM rows c m i (c + k)) = m - (rows.getD i []).sum := by
        rw [← ls_one h fun _ => m - (rows.getD i []).sum]
        refine ls_congr fun k _ => ?_
        unfold EvM
        rw [if_pos h, if_neg (by omega), show c + k - c = k by omega]
      rw [e1, e2]
      omega
    · have hk : i - rows.length < c := by omega
      have e1 : ls (rg c) (EvM rows c m i) = m - (colAt rows (i - rows.length)).sum := by
        rw [← ls_one hk fun _ => m - (colAt rows (i - rows.length)).sum]
        refine ls_congr fun j hj => ?_
        unfold EvM
        rw [if_neg h, if_pos (List.mem_range.mp hj)]
      have e2 : ls (rg rows.length) (fun k => EvM rows c m i (c + k)) = (colAt rows (i - rows.length)).sum := by
        rw [← col_sum]
        refine ls_congr fun k _ => ?_
        unfold EvM
        rw [if_neg h, if_neg (by omega), show c + k - c = k by omega]
      rw [e1, e2]
      omega
  · rw [ls_split]
    by_cases h : j < c
    · have e1 : ls (rg rows.length) (fun i => EvM rows c m i j) = (colAt rows j).sum := by
        rw [← col_sum]
        refine ls_congr fun i hi => ?_
        unfold EvM
        rw [if_pos (List.mem_range.mp hi), if_pos h]
      have e2 : ls (rg c) (fun k => EvM rows c m (rows.length + k) j) = m - (colAt rows j).sum := by
        rw [← ls_one' h fun k => m - (colAt rows k).sum]
        refine ls_congr fun k _ => ?_
        unfold EvM
        rw [if_neg (by omega), if_pos h, show rows.length + k - rows.length = k by omega]
      rw [e1, e2]
      omega
    · have hr : j - c < rows.length := by omega
      have e1 : ls (rg rows.length) (fun i => EvM rows c m i j) = m - (rows.getD (j - c) []).sum := by
        rw [← ls_one' hr fun i => m - (rows.getD i []).sum]
        refine ls_congr fun i hi => ?_
        unfold EvM
        rw [if_pos (List.mem_range.mp hi), if_neg h]
      have e2 : ls (rg c) (fun k => EvM rows c m (rows.length + k) j) = (rows.getD (j - c) []).sum := by
        rw [← row_sum ok hr]
        refine ls_congr fun k _ => ?_
        unfold EvM
        rw [if_neg (by omega), if_neg h, show rows.length + k - rows.length = k by omega]
      rw [e1, e2]
      omega
def np (n : Nat) (M : Nat → Nat → Int) : Int := ls (rg n) fun i => ls (rg n) fun j => if 0 < M i j then 1 else 0
theorem ls_lt {l : List Nat} {f g : Nat → Int} {x : Nat} (hx : x ∈ l) (h : ∀ y ∈ l, f y ≤ g y) (hs : f x + 1 ≤ g x) : ls l f + 1 ≤ ls l g := by
  induction l with
  | nil => cases hx
  | cons y l ih =>
    rw [ls_cons, ls_cons]
    have h0 := h y List.mem_cons_self
    have hl : ls l f ≤ ls l g := ls_le fun z hz => h z (List.mem_cons_of_mem _ hz)
    rcases List.mem_cons.mp hx with rfl | hx
    · omega
    · have := ih hx fun z hz => h z (List.mem_cons_of_mem _ hz)
      omega
theorem np_nn (n : Nat) (M : Nat → Nat → Int) : 0 ≤ np n M := ls_nonneg fun i _ => ls_nonneg fun j _ => by split <;> decide
theorem np_le (n : Nat) (M : Nat → Nat → Int) : np n M ≤ (n : Nat) * ((n : Nat) : Int) := by
  have h : np n M ≤ ls (rg n) fun _ => ls (rg n) fun _ => (1 : Int) := ls_le fun i _ => ls_le fun j _ => by split <;> decide
  rw [ls_const, ls_const] at h
  simpa using h
theorem np_off {n : Nat} {M : Nat → Nat → Int} {len : Int} {c : Nat → Nat} {i0 : Nat} (ci : ∀ i, i < n → c i < n) (hl : 1 ≤ len) (h0 : i0 < n) (e0 : M i0 (c i0) = len) :
    np n (fun i j => if j = c i then M i j - len else M i j) + 1 ≤ np n M := by
  have le : ∀ i j, (if 0 < (if j = c i then M i j - len else M i j) then (1 : Int) else 0) ≤ if 0 < M i j then 1 else 0 := fun i j => by
    by_cases e : j = c i
    · rw [if_pos e]
      split
      · rw [if_pos (by omega)]; exact Int.le_refl _
      · split <;> decide
    · rw [if_neg e]; exact Int.le_refl _
  refine ls_lt (List.mem_range.mpr h0) (fun i _ => ls_le fun j _ => le i j) ?_
  refine ls_lt (List.mem_range.mpr (ci i0 h0)) (fun j _ => le i0 j) ?_
  show (if 0 < (if c i0 = c i0 then M i0 (c i0) - len else M i0 (c i0)) then (1 : Int) else 0) + 1 ≤ if 0 < M i0 (c i0) then 1 else 0
  rw [if_pos rfl, e0, if_neg (by omega), if_pos (by omega)]
  decide
end Tm
namespace Tm
open L2
abbrev Spell := Int × List (Int × Int)
def inS (r q : Nat) (s : Spell) : Int := if (((r : Nat) : Int), ((q : Nat) : Int)) ∈ s.2 then s.1 else 0
structure SpOk (R c : Nat) (s : Spell) : Prop where
  len : 1 ≤ s.1
  at_ : ∀ p ∈ s.2, 0 ≤ p.1 ∧ p.1 < (R : Nat) ∧ 0 ≤ p.2 ∧ p.2 < (c : Nat)
  rise : s.2.Pairwise (fun x y => x.1 < y.1)
  outs : (s.2.map (·.2)).Nodup
structure Loop (rows : List (List Int)) (c : Nat) (due : Int) (T : List (List Int)) (left : Int) (sp : List Spell) : Prop where
  tl : T.length = rows.length + c
  rl : ∀ r ∈ T, r.length = rows.length + c
  ev : Ev (rows.length + c) (ent T) left
  sm : ls sp (·.1) + left = due
  cell : ∀ r, r < rows.length → ∀ q, q < c → ent T r q + ls sp (inS r q) = ent rows r q
  ok : ∀ s ∈ sp, SpOk rows.length c s
  cnt : ((sp.length : Nat) : Int) + np (rows.length + c) (ent T) ≤ ((rows.length + c : Nat) : Int) * ((rows.length + c : Nat) : Int)
def prs (cf : Nat → Nat) (n : Nat) : List (Int × Int) := (rg n).map fun i => (((i : Nat) : Int), ((cf i : Nat) : Int))
def within (R c : Nat) (l : List (Int × Int)) : List (Int × Int) := l.filter fun p => decide (p.1 < (R : Nat)) && decide (p.2 < (c : Nat))
theorem Ev.congr {n : Nat} {M M' : Nat → Nat → Int} {l : Int} (E : Ev n M l) (h : ∀ i, i < n → ∀ j, j < n → M' i j = M i j) : Ev n M' l := by
  refine ⟨fun i hi j hj => by rw [h i hi j hj]; exact E.nn i hi j hj, fun i hi => ?_, fun j hj => ?_⟩
  · rw [← E.rw_ i hi]
    exact ls_congr fun j hj => h i hi j (List.mem_range.mp hj)
  · rw [← E.cl j hj]
    exact ls_congr fun i hi => h i (List.mem_range.mp hi) j hj
theorem np.congr {n : Nat} {M M' : Nat → Nat → Int} (h : ∀ i, i < n → ∀ j, j < n → M' i j = M i j) : np n M' = np n M := ls_congr fun i hi => ls_congr fun j hj => by rw [h i (List.mem_range.mp hi) j (List.mem_range.mp hj)]
theorem Ev.left_nn {n : Nat} {M : Nat → Nat → Int} {l : Int} (E : Ev n M l) (h : 0 < n) : 0 ≤ l := by
  rw [← E.rw_ 0 h]
  exact ls_nonneg fun j hj => E.nn 0 h j (List.mem_range.mp hj)
theorem mem_prs {cf : Nat → Nat} {n r q : Nat} (h : r < n) : (((r : Nat) : Int), ((q : Nat) : Int)) ∈ prs cf n ↔ q = cf r := by
  unfold prs
  rw [List.mem_map]
  constructor
  · rintro ⟨i, _, e⟩
    have e1 : i = r := by have := (Prod.mk.inj e).1; omega
    have e2 := (Prod.mk.inj e).2
    rw [e1] at e2
    omega
  · rintro rfl
    exact ⟨r, List.mem_range.mpr h, rfl⟩
theorem mem_within {R c : Nat} {l : List (Int × Int)} {r q : Nat} (hr : r < R) (hq : q < c) : (((r : Nat) : Int), ((q : Nat) : Int)) ∈ within R c l ↔ (((r : Nat) : Int), ((q : Nat) : Int)) ∈ l := by
  unfold within
  rw [List.mem_filter]
  refine ⟨fun h => h.1, fun h => ⟨h, ?_⟩⟩
  rw [decide_eq_true (show ((r : Nat) : Int) < (R : Nat) by omega), decide_eq_true (show ((q : Nat) : Int) < (c : Nat) by omega)]
  rfl
theorem within_ok {R c n : Nat} {cf : Nat → Nat} {len : Int} (hl : 1 ≤ len) (inj : ∀ i, i < n → ∀ j, j < n → cf i = cf j → i = j) : SpOk R c (len, within R c (prs cf n)) := by
  refine ⟨hl, fun p hp => ?_, ?_, ?_⟩
  · obtain ⟨h1, h2⟩ := List.mem_filter.mp hp
    obtain ⟨i, _, rfl⟩ := List.mem_map.mp h1
    rw [Bool.and_eq_true, decide_eq_true_iff, decide_eq_true_iff] at h2
    exact ⟨Int.natCast_nonneg _, h2.1, Int.natCast_nonneg _, h2.2⟩
  · refine List.Pairwise.filter _ ?_
    unfold prs
    rw [List.pairwise_map]
    exact (List.pairwise_lt_range (n := n)).imp fun h => by show ((_ : Nat) : Int) < ((_ : Nat) : Int); omega
  · have nd : ((prs cf n).map (·.2)).Nodup := by
      unfold prs
      rw [List.map_map, List.nodup_iff_pairwise_ne, List.pairwise_map]
      have := List.nodup_iff_pairwise_ne.mp (List.nodup_range (n := n))
      exact List.Pairwise.imp_of_mem (fun {x y} hx hy ne e => ne (inj x (List.mem_range.mp hx) y (List.mem_range.mp hy) (by
        have e : ((cf x : Nat) : Int) = ((cf y : Nat) : Int) := e
        omega))) this
    exact List.Nodup.sublist (List.Sublist.map _ List.filter_sublist) nd
theorem Loop.start {rows : List (List Int)} {c : Nat} {m : Int} {T : List (List Int)} (ok : OkTab rows c) (hm : isMost (sumsT rows c) m) (tl : T.length = rows.length + c) (rl : ∀ r ∈ T, r.length = rows.length + c) (e : ∀ i, i < rows.length + c → ∀ j, j < rows.length + c → ent T i j = EvM rows c m i j) : Loop rows c m T m [] := by
  refine ⟨tl, rl, (ev_even ok hm).congr e, by rw [ls_nil]; omega, fun r hr q hq => ?_, (fun s h => by cases h), ?_⟩
  · rw [ls_nil, e r (by omega) q (by omega)]
    unfold EvM
    rw [if_pos hr, if_pos hq]
    omega
  · have := np_le (rows.length + c) (ent T)
    rw [List.length_nil]
    omega
theorem Loop.step {rows : List (List Int)} {c : Nat} {due left len : Int} {T T' : List (List Int)} {sp : List Spell} {cf : Nat → Nat} {i0 : Nat} (L : Loop rows c due T left sp) (tl : T'.length = rows.length + c) (rl : ∀ r ∈ T', r.length = rows.length + c)
    (ci : ∀ i, i < rows.length + c → cf i < rows.length + c) (inj : ∀ i, i < rows.length + c → ∀ j, j < rows.length + c → cf i = cf j → i = j) (h1 : 1 ≤ len) (hl : ∀ i, i < rows.length + c → len ≤ ent T i (cf i)) (h0 : i0 < rows.length + c) (e0 : ent T i0 (cf i0) = len)
    (e : ∀ i, i < rows.length + c → ∀ j, j < rows.length + c → ent T' i j = if j = cf i then ent T i j - len else ent T i j) :
    Loop rows c due T' (left - len) (sp ++ [(len, within rows.length c (prs cf (rows.length + c)))]) ∧ np (rows.length + c) (ent T') + 1 ≤ np (rows.length + c) (ent T) := by
  have npl : np (rows.length + c) (ent T') + 1 ≤ np (rows.length + c) (ent T) := by
    rw [np.congr e]
    exact np_off ci h1 h0 e0
  refine ⟨⟨tl, rl, (L.ev.off ci inj hl).congr e, ?_, fun r hr q hq => ?_, fun s hs => ?_, ?_⟩, npl⟩
  · have := L.sm
    rw [ls_append, ls_cons, ls_nil]
    show _ + (len + 0) + _ = _
    omega
  · have := L.cell r hr q hq
    rw [ls_append, ls_cons, ls_nil, e r (by omega) q (by omega)]
    have mm : inS r q (len, within rows.length c (prs cf (rows.length + c))) = if q = cf r then len else 0 := by
      unfold inS
      by_cases h : q = cf r
      · rw [if_pos h, if_pos ((mem_within hr hq).mpr ((mem_prs (by omega)).mpr h))]
      · rw [if_neg h, if_neg fun z => h ((mem_prs (by omega)).mp ((mem_within hr hq).mp z))]
    rw [mm]
    split <;> omega
  · rcases List.mem_append.mp hs with h | h
    · exact L.ok s h
    · rw [List.mem_singleton.mp h]
      exact within_ok h1 inj
  · have := L.cnt
    rw [List.length_append, List.length_singleton]
    omega
theorem Loop.done {rows : List (List Int)} {c : Nat} {due : Int} {T : List (List Int)} {sp : List Spell} (L : Loop rows c due T 0 sp) : ls sp (·.1) = due ∧ (∀ r, r < rows.length → ∀ q, q < c → ls sp (inS r q) = ent rows r q) ∧ sp.length ≤ (rows.length + c) * (rows.length + c) := by
  have z : ∀ {l : List Nat} {f : Nat → Int}, (∀ x ∈ l, 0 ≤ f x) → ls l f = 0 → ∀ x ∈ l, f x = 0 := by
    intro l
    induction l with
    | nil => intro f _ _ x h; cases h
    | cons y l ih =>
      intro f nn e x hx
      rw [ls_cons] at e
      have h1 := nn y List.mem_cons_self
      have h2 : 0 ≤ ls l f := ls_nonneg fun z hz => nn z (List.mem_cons_of_mem _ hz)
      rcases List.mem_cons.mp hx with rfl | hx
      · omega
      · exact ih (fun z hz => nn z (List.mem_cons_of_mem _ hz)) (by omega) x hx
  refine ⟨by have := L.sm; omega, fun r hr q hq => ?_, ?_⟩
  · have h := L.cell r hr q hq
    have e := z (fun j hj => L.ev.nn r (by omega) j (List.mem_range.mp hj)) (L.ev.rw_ r (by omega)) q (List.mem_range.mpr (by omega))
    omega
  · have h := L.cnt
    have n := np_nn (rows.length + c) (ent T)
    have : ((sp.length : Nat) : Int) ≤ (((rows.length + c) * (rows.length + c) : Nat) : Int) := by
      rw [Int.natCast_mul]
      omega
    omega
end Tm
namespace Jn
open PySem L2
def top (i : Nat) : Stmt := PySem.Challenge.pw_switchhall_k09_whole_timetables.main.body.getD (i + 7) (.Pass ⟨0, 0, 0, 0⟩)
abbrev sChoices : Stmt := top 1
abbrev sInit : Stmt := inClass (top 2) 0
abbrev sAdmit : Stmt := inClass (top 2) 1
abbrev sSearch : Stmt := inClass (top 2) 2
abbrev sShift : Stmt := inClass (top 2) 3
abbrev sCrowd : Stmt := inClass (top 2) 4
abbrev sFilled : Stmt := top 3
set_option genInjectivity false in
set_option genSizeOf false in
structure Ad where
  (choices filled init admit search shift crowd join : Addr)
set_option genInjectivity false in
set_option genSizeOf false in
structure Fd where
  (choices filled init admit search shift crowd : FuncData)
structure JTxt (K : PySem.W.Frag) (mg : Str → Option Value) (a : Ad) (d : Fd) : Prop where
  sorted_ : mg "sorted" = none
  g_choices : mg "choices_by_inlet" = some (.ref a.choices)
  g_filled : mg "filled" = some (.ref a.filled)
  g_join : mg "Joining" = some (.ref a.join)
  f_choices : Fun K "choices_by_inlet" "choices_by_inlet" sChoices a.choices d.choices
  f_filled : Fun K "filled" "filled" sFilled a.filled d.filled
  f_init : Fun K "__init__" "Joining.__init__" sInit a.init d.init
  f_admit : Fun K "admit" "Joining.admit" sAdmit a.admit d.admit
  f_search : Fun K "search" "Joining.search" sSearch a.search d.search
  f_shift : Fun K "shift" "Joining.shift" sShift a.shift d.shift
  f_crowd : Fun K "crowd_round" "Joining.crowd_round" sCrowd a.crowd d.crowd
  b_choices : Binds K d.choices ["pairs"] []
  b_filled : Binds K d.filled ["pairs", "inlets"] []
  b_init : Binds K d.init ["self", "pairs"] []
  b_admit : Binds K d.admit ["self", "inlet"] []
  b_search : Binds K d.search ["self", "inlet"] []
  b_shift : Binds K d.shift ["self", "free", "came_by"] []
  b_crowd : Binds K d.crowd ["self", "inlet"] []
  cls : Cls K a.join
  nC : NoAttr K a.join "choices"
  nA : NoAttr K a.join "outlet_by_inlet"
  nB : NoAttr K a.join "inlet_by_outlet"
  mkH : Mk K a.join a.init
  m_admit : Meth K a.join "admit" a.admit
  m_search : Meth K a.join "search" a.search
  m_shift : Meth K a.join "shift" a.shift
  m_crowd : Meth K a.join "crowd_round" a.crowd
def fl (D A B : Addr) : List (Str × V) := [("choices", .ref D), ("outlet_by_inlet", .ref A), ("inlet_by_outlet", .ref B)]
theorem fl_C (D A B : Addr) : (fl D A B).lookup ("choices" : Str) = some (.ref D) := by rfl
theorem fl_A (D A B : Addr) : (fl D A B).lookup ("outlet_by_inlet" : Str) = some (.ref A) := by rfl
theorem fl_B (D A B : Addr) : (fl D A B).lookup ("inlet_by_outlet" : Str) = some (.ref B) := by rfl
theorem fl_admit (D A B : Addr) : (fl D A B).lookup ("admit" : Str) = none := by rfl
theorem fl_search (D A B : Addr) : (fl D A B).lookup ("search" : Str) = none := by rfl
theorem fl_shift (D A B : Addr) : (fl D A B).lookup ("shift" : Str) = none := by rfl
theorem fl_crowd (D A B : Addr) : (fl D A B).lookup ("crowd_round" : Str) = none := by rfl
structure Jg where
  (p D A B : Addr)
def KM (kvs : List (Key × V)) (m : Mp) : Prop := ∀ i, valV kvs (Sum.inl i : Key) = (m i).map V.int
theorem KM.put {kvs : List (Key × V)} {m : Mp} (h : KM kvs m) (k v : Int) : KM (putK kvs (Sum.inl k) (.int v)) (Jn.put m k v) := fun i => by
  rw [valV_put]
  by_cases e : i = k
  · subst e; rw [if_pos rfl, put_self]; rfl
  · rw [if_neg (fun z => e (Sum.inl.inj z)), put_ne e]; exact h i
def ChAt (H : Hp) (kvs : List (Key × V)) (ps : List (Int × Int)) : Prop := ∀ i, (chOf ps i = [] ∧ valV kvs (Sum.inl i : Key) = none) ∨ ∃ la, valV kvs (Sum.inl i : Key) = some (.ref la) ∧ H la = some (.lst ((chOf ps i).map V.int))
structure JnG (C : Addr) (H : Hp) (g : Jg) (ps : List (Int × Int)) (m1 m2 : Mp) (n : Nat) : Prop where
  ob : ∃ dx, H g.p = some (.ins C dx (fl g.D g.A g.B))
  ch : ∃ kvs, H g.D = some (.dK kvs) ∧ ChAt H kvs ps
  m1 : ∃ kvs, H g.A = some (.dK kvs) ∧ KM kvs m1 ∧ kvs.length ≤ n
  m2 : ∃ kvs, H g.B = some (.dK kvs) ∧ KM kvs m2 ∧ kvs.length ≤ n
  nAB : g.A ≠ g.B
  nAD : g.A ≠ g.D
  nBD : g.B ≠ g.D
theorem JnG.same {C : Addr} {H H' : Hp} {g : Jg} {ps : List (Int × Int)} {m1 m2 : Mp} {n : Nat} (h : JnG C H g ps m1 m2 n) (s : Same H H') : JnG C H' g ps m1 m2 n := by
  obtain ⟨dx, ob⟩ := h.ob
  obtain ⟨k0, c1, c2⟩ := h.ch
  obtain ⟨k1, a1, a2⟩ := h.m1
  obtain ⟨k2, b1, b2⟩ := h.m2
  exact ⟨⟨dx, s _ _ ob⟩, ⟨k0, s _ _ c1, fun i => (c2 i).imp id fun ⟨la, x, y⟩ => ⟨la, x, s _ _ y⟩⟩, ⟨k1, s _ _ a1, a2⟩, ⟨k2, s _ _ b1, b2⟩, h.nAB, h.nAD, h.nBD⟩
theorem JnG.setA {C : Addr} {H : Hp} {g : Jg} {ps : List (Int × Int)} {m1 m2 : Mp} {n : Nat} (h : JnG C H g ps m1 m2 n) {kvs : List (Key × V)} (e : H g.A = some (.dK kvs)) (i o : Int) : JnG C (upd H g.A (.dK (putK kvs (Sum.inl i) (.int o)))) g ps (Jn.put m1 i o) m2 (n + 1) := by
  obtain ⟨dx, ob⟩ := h.ob
  obtain ⟨k0, c1, c2⟩ := h.ch
  obtain ⟨k1, a1, a2, a3⟩ := h.m1
  obtain ⟨k2, b1, b2, b3⟩ := h.m2
  rw [e] at a1
  cases a1
  have hl := length_putK kvs (Sum.inl i : Key) (.int o)
  exact ⟨⟨dx, by rw [upd_ne (ne_of ob e (by simp))]; exact ob⟩, ⟨k0, by rw [upd_ne (Ne.symm h.nAD)]; exact c1, fun i => (c2 i).imp id fun ⟨la, x, y⟩ => ⟨la, x, by rw [upd_ne (ne_of y e (by simp))]; exact y⟩⟩, ⟨_, upd_same, a2.put i o, by omega⟩, ⟨k2, by rw [upd_ne (Ne.symm h.nAB)]; exact b1, b2, by omega⟩, h.nAB, h.nAD, h.nBD⟩
theorem JnG.setB {C : Addr} {H : Hp} {g : Jg} {ps : List (Int × Int)} {m1 m2 : Mp} {n : Nat} (h : JnG C H g ps m1 m2 n) {kvs : List (Key × V)} (e : H g.B = some (.dK kvs)) (o i : Int) : JnG C (upd H g.B (.dK (putK kvs (Sum.inl o) (.int i)))) g ps m1 (Jn.put m2 o i) (n + 1) := by
  obtain ⟨dx, ob⟩ := h.ob
  obtain ⟨k0, c1, c2⟩ := h.ch
  obtain ⟨k1, a1, a2, a3⟩ := h.m1
  obtain ⟨k2, b1, b2, b3⟩ := h.m2
  rw [e] at b1
  cases b1
  have hl := length_putK kvs (Sum.inl o : Key) (.int i)
  exact ⟨⟨dx, by rw [upd_ne (ne_of ob e (by simp))]; exact ob⟩, ⟨k0, by rw [upd_ne (Ne.symm h.nBD)]; exact c1, fun i => (c2 i).imp id fun ⟨la, x, y⟩ => ⟨la, x, by rw [upd_ne (ne_of y e (by simp))]; exact y⟩⟩, ⟨k1, by rw [upd_ne h.nAB]; exact a1, a2, by omega⟩, ⟨_, upd_same, b2.put o i, by omega⟩, h.nAB, h.nAD, h.nBD⟩
def kk (x : Int × Int) : Key × V := (Sum.inl x.1, .int x.2)
theorem val_kk : ∀ {c : List (Int × Int)} {k : Nat} {o h : Int}, (c.map (·.1)).Nodup → c[k]? = some (o, h) → valV (c.map kk) (Sum.inl o : Key) = some (.int h)
  | [], k, o, h, _, e => by simp at e
  | x :: c, 0, o, h, _, e => by cases Option.some.inj e; exact valV_pos rfl
  | x :: c, k + 1, o, h, nd, e => by
    obtain ⟨n1, n2⟩ := List.nodup_cons.mp nd
    have e : c[k]? = some (o, h) := e
    rw [List.map_cons, valV_neg (p := kk x) (fun z => n1 (List.mem_map.mpr ⟨(o, h), List.mem_of_getElem? e, (Sum.inl.inj z).symm⟩))]
    exact val_kk n2 e
theorem val_kk_none : ∀ {c : List (Int × Int)} {o : Int}, ¬ ky c o → valV (c.map kk) (Sum.inl o : Key) = none
  | [], o, _ => rfl
  | x :: c, o, n => by
    rw [List.map_cons, valV_neg (p := kk x) (fun z => n ⟨x.2, by rw [← Sum.inl.inj z]; exact List.mem_cons_self⟩)]
    exact val_kk_none fun ⟨h, m⟩ => n ⟨h, List.mem_cons_of_mem _ m⟩
theorem val_kk_some {c : List (Int × Int)} {o : Int} (nd : (c.map (·.1)).Nodup) (y : ky c o) : ∃ h, valV (c.map kk) (Sum.inl o : Key) = some (.int h) := by
  obtain ⟨h, m⟩ := y
  obtain ⟨k, hk, e⟩ := List.getElem_of_mem m
  exact ⟨h, val_kk nd (by rw [List.getElem?_eq_getElem hk, e])⟩
section
variable {P : Program} {w : World} {K : PySem.W.Frag} {mg : Str → Option Value} {base : Heap} {a : Ad} {d : Fd}
def spSearch (a : Ad) : Sp := fun vs H Q _ => ∃ g ps m1 m2 n st, vs = [.ref g.p, .int st] ∧ JnG a.join H g ps m1 m2 n ∧ ps.length ≤ 150 ∧
  (∀ c T cb H', Shut ps m2 st c → Same H H' → H T = none → H cb = none → T ≠ cb → H' T = some (.tup [.non, .ref cb]) → H' cb = some (.dK (c.map kk)) → Q (.ref T) H') ∧
  ∀ c o h T cb H', Open_ ps m2 st c o h → Same H H' → H T = none → H cb = none → T ≠ cb → H' T = some (.tup [.int o, .ref cb]) → H' cb = some (.dK ((c ++ [(o, h)]).map kk)) → Q (.ref T) H'
theorem scSearch : FnScope ["self", "inlet", "came_by", "waiting", "here", "outlet"] ["self", "inlet"] (defScope sSearch) := ⟨rfl, rfl, rfl, by decide +kernel, rfl, by decide +kernel, by decide +kernel⟩
theorem ok_search (T : JTxt K mg a d) : FnOk P w K mg base (CXx P w) 1 a.search d.search ["self", "inlet"] (spSearch a) := by
  refine T.f_search.okN scSearch (fun vs H Q E h => ?_) (fun cdv A outer s H vs Q E hr h => ?_)
  · obtain ⟨g, ps, m1, m2, n, st, rfl, _⟩ := h
    rfl
  · obtain ⟨g, ps, m1, m2, n, st, rfl, hG, h63, qs, qo⟩ := h
    have hu := hu_of hr
    have hsl : sizeLine = 16777216 := sizeLine_eq
    refine ⟨_, pss_cons (ps_set (i := 2) scSearch.nd rfl (Or.inl rfl) pe_dnewK)
      (pss_cons (ps_set (i := 3) scSearch.nd rfl (Or.inl rfl) (pe_lst (pa_cons (pv 1) pa_nil)))
      (pss_cons (ps_while PassesOwn.never (pt_truth (pv 3) (fun _ => rfl))
        (pss_cons (ps_set (i := 4) scSearch.nd rfl (Or.inl rfl) (pe_bm0 PySem.F.plainAttrs_list PySem.F.slot_list_pop PySem.F.type_list_pop mt_pop (pv 3)))
        (pss_one (ps_for PassesOwn.never rfl (pi_list (pe_dget2 hu (pe_fld (pv 0) rfl) (pv 4) (pe_lst pa_nil) ⟨rfl, rfl, rfl, rfl⟩)) (pg_name (i := 5) scSearch.nd rfl (Or.inl rfl))
          (pss_cons (ps_if (pt_cmp (pc_din hu (pv 5) (pv 2)) rfl) (pss_one ps_continue) pss_nil)
          (pss_cons (ps_dput hu (pv 2) (pv 5) (pv 4) rfl)
          (pss_cons (ps_if (pt_cmp (pc_dnotin hu (pv 5) (pe_fld (pv 0) rfl)) rfl) (pss_one (ps_ret (pe_tup (pa_cons (pv 5) (pa_cons (pv 2) pa_nil))))) pss_nil)
          (pss_one (ps_expr (pe_bm PySem.F.plainAttrs_list PySem.F.slot_list_append PySem.F.type_list_append mt_append (pv 3) (pa_cons (pe_dget hu (pe_fld (pv 0) rfl) (pv 5) (fun _ _ => rfl)) pa_nil)))))))))))
      (pss_one (ps_ret (pe_tup (pa_cons pe_non (pa_cons (pv 2) pa_nil))))))), ?_⟩
    obtain ⟨dx, ob⟩ := hG.ob
    obtain ⟨kC, hD, hCh⟩ := hG.ch
    obtain ⟨kB, hB, kmB, lB⟩ := hG.m2
    -- came_by = {}, waiting = [inlet]
    refine fun cb hcb => ⟨_, rfl, by show 1 ≤ sizeLine; omega, fun wl hwl => ?_⟩
    have s1 : Same H (upd H cb (.dK [])) := fun b u z => by rw [upd_ne (ne_of_none z hcb)]; exact z
    have s2 : Same H (upd (upd H cb (.dK [])) wl (.lst [.int st])) := fun b u z => by rw [upd_ne (ne_of_none (s1 _ _ z) hwl)]; exact s1 _ _ z
    have hwl0 : H wl = none := s1.free hwl
    have nwc : wl ≠ cb := fun z => by rw [z, upd_same] at hwl; cases hwl
    refine ⟨fun m σ H' => ∃ (c : List (Int × Int)) (ws : List Int) (v4 v5 : Option V), σ = [some (.ref g.p), some (.int st), some (.ref cb), some (.ref wl), v4, v5] ∧ Same H H' ∧ H' cb = some (.dK (c.map kk)) ∧ H' wl = some (.lst (ws.map V.int)) ∧ Came ps m2 st c ∧ (∀ o, ky c o → (m2 o).isSome = true) ∧ (∀ h ∈ ws, Rch m2 st c h) ∧ (∀ h, Rch m2 st c h → h ∈ ws ∨ ∀ o, (h, o) ∈ ps → ky c o) ∧ m = 2 * (ps.length - c.length) + ws.length ∧ m ≤ 301,
      ⟨_, [], [st], _, _, rfl, s2, by rw [upd_ne (Ne.symm nwc), upd_same]; rfl, upd_same, Came.nil, (fun o ⟨_, m⟩ => nomatch m), (fun h m => .inl (List.mem_singleton.mp m)), (fun h r => by
        rcases r with r | ⟨_, ⟨_, m⟩, _⟩
        · exact .inl (by rw [r]; exact List.mem_cons_self)
        · cases m), rfl, by show 2 * (ps.length - 0) + 1 ≤ 301; omega⟩, ?_⟩
    rintro m σ H' ⟨c, ws, v4, v5, rfl, sm, hc, hw, C, full, rw_, cl, rfl, m127⟩
    refine ⟨_, rfl, !(ws.map V.int).isEmpty, .inl ⟨_, SqL.of hw, rfl⟩, ?_⟩
    rcases List.eq_nil_or_concat ws with rfl | ⟨w', h0, rfl⟩
    · -- none waits
      rw [if_neg (by decide)]
      refine ⟨_, rfl, by show 2 ≤ sizeLine; omega, fun T hT => ?_⟩
      have nT : T ≠ cb := fun z => by rw [z, hc] at hT; cases hT
      refine qs c T cb _ ⟨C, full, fun h r => (cl h r).elim (fun z => nomatch z) id⟩ (fun b u z => by rw [upd_ne (ne_of_none (sm _ _ z) hT)]; exact sm _ _ z) (sm.free hT) hcb nT upd_same (by rw [upd_ne (Ne.symm nT)]; exact hc)
    · rw [List.concat_eq_append] at hw rw_ cl m127 ⊢
      rw [if_pos (by rw [List.map_append]; cases w' <;> rfl)]
      obtain ⟨M0, hM0⟩ : ∃ M0, M0 = 2 * (ps.length - c.length) + (w' ++ [h0]).length := ⟨_, rfl⟩
      rw [← hM0] at m127 ⊢
      refine ⟨fun σ' H2 => ∃ m', m' < M0 ∧ ∃ (c : List (Int × Int)) (ws : List Int) (v4 v5 : Option V), σ' = [some (.ref g.p), some (.int st), some (.ref cb), some (.ref wl), v4, v5] ∧ Same H H2 ∧ H2 cb = some (.dK (c.map kk)) ∧ H2 wl = some (.lst (ws.map V.int)) ∧ Came ps m2 st c ∧ (∀ o, ky c o → (m2 o).isSome = true) ∧ (∀ h ∈ ws, Rch m2 st c h) ∧ (∀ h, Rch m2 st c h → h ∈ ws ∨ ∀ o, (h, o) ∈ ps → ky c o) ∧ m' = 2 * (ps.length - c.length) + ws.length ∧ m' ≤ 301, fun σ' H2 z => z, ?_⟩
      -- here = waiting.pop()
      refine ⟨_, rfl, .inl ⟨rfl, _, SqL.of hw⟩, wl, _, .int h0, rfl, rfl, hw, by rw [List.map_append, List.length_append, List.getElem?_append_right (by simp)]; simp, ?_⟩
      have r0 : Rch m2 st c h0 := rw_ h0 (List.mem_append_right _ List.mem_cons_self)
      obtain ⟨H3, eH3⟩ : ∃ H3, H3 = upd H' wl (.lst ((w' ++ [h0]).map V.int).dropLast) := ⟨_, rfl⟩
      rw [← eH3]
      have hw3 : H3 wl = some (.lst (w'.map V.int)) := by
        rw [eH3, upd_same, List.map_append]
        show some (HO.lst (List.dropLast (w'.map V.int ++ [.int h0]))) = _
        rw [List.dropLast_concat]
      have s3 : Same H H3 := fun b u z => by rw [eH3, upd_ne (ne_of_none z hwl0)]; exact sm _ _ z
      have hc3 : H3 cb = some (.dK (c.map kk)) := by rw [eH3, upd_ne (Ne.symm nwc)]; exact hc
      -- for outlet in self.choices.get(here, [])
      refine ⟨_, rfl, g.p, a.join, dx, _, _, rfl, s3 _ _ ob, T.cls, T.nC, fl_C _ _ _, g.D, rfl, .inl ⟨kC, .inl (s3 _ _ hD)⟩, _, rfl, Nat.zero_le _, fun le hle => ⟨_, DGet.k (k := Sum.inl h0) (by rw [upd_ne (ne_of_none (s3 _ _ hD) hle)]; exact s3 _ _ hD), ?_⟩⟩
      obtain ⟨H4, eH4⟩ : ∃ H4, H4 = upd H3 le (.lst []) := ⟨_, rfl⟩
      rw [← eH4]
      have s34 : Same H3 H4 := fun b u z => by rw [eH4, upd_ne (ne_of_none z hle)]; exact z
      obtain ⟨al, eal, hal, nal⟩ : ∃ al, (valV kC (Sum.inl h0 : Key)).getD (.ref le) = .ref al ∧ H4 al = some (.lst ((chOf ps h0).map V.int)) ∧ al ≠ wl := by
        rcases hCh h0 with ⟨e1, e2⟩ | ⟨la, e1, e2⟩
        · exact ⟨le, by rw [e2]; rfl, by rw [eH4, upd_same, e1]; rfl, fun z => by rw [z, hw3] at hle; cases hle⟩
        · exact ⟨la, by rw [e1]; rfl, s34 _ _ (s3 _ _ e2), fun z => by rw [z, hwl0] at e2; cases e2⟩
      refine ⟨al, eal, ⟨_, SqL.of hal⟩, fun i m' σ H5 => ∃ (c : List (Int × Int)) (ws : List Int) (v5 : Option V), σ = [some (.ref g.p), some (.int st), some (.ref cb), some (.ref wl), some (.int h0), v5] ∧ Same H H5 ∧ H5 cb = some (.dK (c.map kk)) ∧ H5 wl = some (.lst (ws.map V.int)) ∧ H5 al = some (.lst ((chOf ps h0).map V.int)) ∧ Came ps m2 st c ∧ (∀ o, ky c o → (m2 o).isSome = true) ∧ (∀ h ∈ ws, Rch m2 st c h) ∧ Rch m2 st c h0 ∧ (∀ h, Rch m2 st c h → h ∈ ws ∨ h = h0 ∨ ∀ o, (h, o) ∈ ps → ky c o) ∧ (∀ (j : Nat) o, j < i → (chOf ps h0)[j]? = some o → ky c o) ∧ i ≤ (chOf ps h0).length ∧ m' = (chOf ps h0).length - i ∧ 2 * (ps.length - c.length) + ws.length < M0,
        ⟨_, c, w', v5, rfl, s3.trans s34, s34 _ _ hc3, s34 _ _ hw3, hal, C, full, fun h hh => rw_ h (List.mem_append_left _ hh), r0, fun h r => ?_, (fun j o lt => absurd lt (Nat.not_lt_zero _)), Nat.zero_le _, rfl, ?_⟩, ?_⟩
      · rcases cl h r with z | z
        · rcases List.mem_append.mp z with z | z
          · exact .inl z
          · exact .inr (.inl (List.mem_singleton.mp z))
        · exact .inr (.inr z)
      · rw [hM0, List.length_append, List.length_singleton]; omega
      rintro i m' σ H5 ⟨c, ws, v5, rfl, sm, hc, hw, hal, C, full, rw_, r0, cl, past, ile, rfl, mea⟩
      by_cases hi : i < (chOf ps h0).length
      case neg =>
        refine .inl ⟨⟨_, SqL.of hal, by rw [List.length_map]; omega⟩, _, mea, c, ws, _, _, rfl, sm, hc, hw, C, full, rw_, fun h r => ?_, rfl, by omega⟩
        rcases cl h r with z | z | z
        · exact .inl z
        · refine .inr fun o ho => ?_
          rw [z] at ho
          obtain ⟨j, hj, e⟩ := List.getElem_of_mem (mem_ch.mpr ho)
          exact past j o (by omega) (by rw [List.getElem?_eq_getElem hj, e])
        · exact .inr z
      obtain ⟨o, ho⟩ : ∃ o, (chOf ps h0)[i]? = some o := ⟨_, List.getElem?_eq_getElem hi⟩
      have hp : (h0, o) ∈ ps := mem_ch.mp (List.mem_of_getElem? ho)
      refine .inr ⟨⟨_, .int o, SqL.of hal, by rw [List.getElem?_map, ho]; rfl⟩, fun σ' H6 => ∃ m', m' < (chOf ps h0).length - i ∧ ∃ (c : List (Int × Int)) (ws : List Int) (v5 : Option V), σ' = [some (.ref g.p), some (.int st), some (.ref cb), some (.ref wl), some (.int h0), v5] ∧ Same H H6 ∧ H6 cb = some (.dK (c.map kk)) ∧ H6 wl = some (.lst (ws.map V.int)) ∧ H6 al = some (.lst ((chOf ps h0).map V.int)) ∧ Came ps m2 st c ∧ (∀ o, ky c o → (m2 o).isSome = true) ∧ (∀ h ∈ ws, Rch m2 st c h) ∧ Rch m2 st c h0 ∧ (∀ h, Rch m2 st c h → h ∈ ws ∨ h = h0 ∨ ∀ o, (h, o) ∈ ps → ky c o) ∧ (∀ (j : Nat) o, j < i + 1 → (chOf ps h0)[j]? = some o → ky c o) ∧ i + 1 ≤ (chOf ps h0).length ∧ m' = (chOf ps h0).length - (i + 1) ∧ 2 * (ps.length - c.length) + ws.length < M0, fun σ' H6 z => z, ?_⟩
      rintro x H6 ⟨rfl, hx⟩
      obtain rfl : x = .int o := by
        have := hx _ (SqL.of hal)
        rw [List.getElem?_map, ho] at this
        exact (Option.some.inj this).symm
      have past' : ∀ (c' : List (Int × Int)), (∀ x, ky c x → ky c' x) → ky c' o → ∀ (j : Nat) o', j < i + 1 → (chOf ps h0)[j]? = some o' → ky c' o' := fun c' up yo j o' lt e => by
        by_cases hj : j = i
        · subst hj; rw [ho] at e; cases e; exact yo
        · exact up _ (past j o' (by omega) e)
      -- if outlet in came_by: continue
      refine ⟨_, rfl, _, rfl, cb, _, rfl, DGet.k (k := Sum.inl o) hc, _, rfl, ?_⟩
      by_cases hk : ky c o
      case pos =>
        obtain ⟨h1, e1⟩ := val_kk_some C.nd hk
        rw [e1]
        exact ⟨_, by omega, c, ws, _, rfl, sm, hc, hw, hal, C, full, rw_, r0, cl, past' c (fun _ z => z) hk, by omega, rfl, mea⟩
      rw [val_kk_none hk]
      -- came_by[outlet] = here
      have C' := C.more hk hp r0
      have cl63 := C'.len
      rw [List.length_append, List.length_singleton] at cl63
      refine ⟨_, rfl, _, rfl, _, rfl, cb, _, rfl, .inl ⟨_, Sum.inl o, hc, rfl, by rw [List.length_map]; omega, rfl⟩, ?_⟩
      obtain ⟨H7, eH7⟩ : ∃ H7, H7 = upd H6 cb (.dK (putK (c.map kk) (Sum.inl o) (.int h0))) := ⟨_, rfl⟩
      rw [← eH7]
      have hc7 : H7 cb = some (.dK ((c ++ [(o, h0)]).map kk)) := by rw [eH7, upd_same, putK_new _ (val_kk_none hk), List.map_append]; rfl
      have s7 : Same H H7 := fun b u z => by rw [eH7, upd_ne (ne_of_none z hcb)]; exact sm _ _ z
      have hw7 : H7 wl = some (.lst (ws.map V.int)) := by rw [eH7, upd_ne nwc]; exact hw
      have hal7 : H7 al = some (.lst ((chOf ps h0).map V.int)) := by rw [eH7, upd_ne (ne_of hal hc (by simp))]; exact hal
      -- if outlet not in self.inlet_by_outlet
      refine ⟨_, rfl, _, rfl, g.p, a.join, dx, _, _, rfl, s7 _ _ ob, T.cls, T.nB, fl_B _ _ _, g.B, _, rfl, DGet.k (k := Sum.inl o) (s7 _ _ hB), _, rfl, ?_⟩
      rw [kmB o]
      cases hm : m2 o with
      | none =>
        refine ⟨_, rfl, _, rfl, by show 2 ≤ sizeLine; omega, fun T hT => ?_⟩
        have nT : T ≠ cb := fun z => by rw [z, hc7] at hT; cases hT
        exact qo c o h0 T cb _ ⟨C', hm⟩ (fun b u z => by rw [upd_ne (ne_of_none (s7 _ _ z) hT)]; exact s7 _ _ z) (s7.free hT) hcb nT upd_same (by rw [upd_ne (Ne.symm nT)]; exact hc7)
      | some h1 =>
        refine ⟨_, rfl, .inl ⟨rfl, _, SqL.of hw7⟩, _, rfl, g.p, a.join, dx, _, _, rfl, s7 _ _ ob, T.cls, T.nB, fl_B _ _ _, _, rfl, g.B, .int h1, rfl, (by
          have z := DGet.k (k := Sum.inl o) (s7 _ _ hB)
          rw [kmB o, hm] at z
          exact z), wl, _, .int h1, rfl, rfl, hw7, by
            have : 2 * (ps.length - c.length) + ws.length < M0 := mea
            rw [List.length_map]
            omega, ?_⟩
        have yo : ky (c ++ [(o, h0)]) o := ⟨h0, List.mem_append_right _ List.mem_cons_self⟩
        have up : ∀ x, ky c x → ky (c ++ [(o, h0)]) x := fun x ⟨h, m⟩ => ⟨h, List.mem_append_left _ m⟩
        have kyc : ∀ x, ky (c ++ [(o, h0)]) x → ky c x ∨ x = o := fun x ⟨h, m⟩ => by
          rcases List.mem_append.mp m with m | m
          · exact .inl ⟨h, m⟩
          · exact .inr (by have := List.mem_singleton.mp m; injection this)
        refine ⟨_, by omega, c ++ [(o, h0)], ws ++ [h1], _, rfl, fun b u z => by rw [upd_ne (ne_of_none z hwl0)]; exact s7 _ _ z, by rw [upd_ne (Ne.symm nwc)]; exact hc7, by rw [upd_same, List.map_append]; rfl, by rw [upd_ne nal]; exact hal7, C', fun x y => ?_, fun h hh => ?_, r0.more _, fun h r => ?_, past' _ up yo, by omega, rfl, ?_⟩
        · rcases kyc x y with y | rfl
          · exact full x y
          · rw [hm]; rfl
        · rcases List.mem_append.mp hh with z | z
          · exact (rw_ h z).more _
          · rw [List.mem_singleton.mp z]; exact .inr ⟨o, yo, hm⟩
        · have old : Rch m2 st c h → h ∈ ws ++ [h1] ∨ h = h0 ∨ ∀ o', (h, o') ∈ ps → ky (c ++ [(o, h0)]) o' := fun r => (cl h r).imp (List.mem_append_left _) fun z => z.imp id fun y o' ho' => up _ (y o' ho')
          rcases r with r | ⟨x, y, e⟩
          · exact old (.inl r)
          · rcases kyc x y with y | rfl
            · exact old (.inr ⟨x, y, e⟩)
            · rw [hm] at e
              exact .inl (by rw [← Option.some.inj e]; exact List.mem_append_right _ List.mem_cons_self)
        · rw [List.length_append, List.length_append, List.length_singleton, List.length_singleton]
          omega
end
end Jn
namespace Jn
open PySem L2
section
variable {P : Program} {w : World} {K : PySem.W.Frag} {mg : Str → Option Value} {base : Heap} {a : Ad} {d : Fd}
def Frm (g : Jg) (H H' : Hp) : Prop := ∀ b u, H b = some u → b ≠ g.A → b ≠ g.B → H' b = some u
def spShift (a : Ad) : Sp := fun vs H Q _ => ∃ g ps m1 m2 n st c dom k o h cb, vs = [.ref g.p, .int o, .ref cb] ∧ JnG a.join H g ps m1 m2 n ∧ n ≤ 1000000 ∧ Came ps m2 st c ∧ c.length ≤ 150 ∧ Goes ps m2 st c dom m1 m2 k o h ∧ H cb = some (.dK (c.map kk)) ∧ cb ≠ g.A ∧ cb ≠ g.B ∧
  ∀ m1' m2' H', Mt ps m1' m2' → (∀ i, (m1' i).isSome = true ↔ (dom i ∨ i = st)) → JnG a.join H' g ps m1' m2' (n + 302) → Frm g H H' → Q .non H'
theorem scShift : FnScope ["self", "free", "came_by", "outlet", "inlet", "left"] ["self", "free", "came_by"] (defScope sShift) := ⟨rfl, rfl, rfl, by decide +kernel, rfl, by decide +kernel, by decide +kernel⟩
theorem ok_shift (T : JTxt K mg a d) : FnOk P w K mg base (CXx P w) 1 a.shift d.shift ["self", "free", "came_by"] (spShift a) := by
  refine T.f_shift.okN scShift (fun vs H Q E h => ?_) (fun cdv A outer s H vs Q E hr h => ?_)
  · obtain ⟨g, ps, m1, m2, n, st, c, dom, k, o, h, cb, rfl, _⟩ := h
    rfl
  · obtain ⟨g, ps, m1, m2, n, st, c, dom, k, o, h, cb, rfl, hG, hn, C, c63, G0, hcb, nA, nB, q⟩ := h
    have hu := hu_of hr
    have hsl : sizeLine = 16777216 := sizeLine_eq
    refine ⟨_, pss_cons (ps_set (i := 3) scShift.nd rfl (Or.inl rfl) (pv 1))
      (pss_one (ps_while PassesOwn.never (pt_cmpR op_notN (pv 3) pe_non (nomark _))
        (pss_cons (ps_set (i := 4) scShift.nd rfl (Or.inl rfl) (pe_dget hu (pv 2) (pv 3) (fun _ _ => rfl)))
        (pss_cons (ps_set (i := 5) scShift.nd rfl (Or.inl rfl) (pe_dget1 hu (pe_fld (pv 0) rfl) (pv 4) ⟨rfl, rfl, rfl, rfl⟩))
        (pss_cons (ps_dput hu (pe_fld (pv 0) rfl) (pv 4) (pv 3) rfl)
        (pss_cons (ps_dput hu (pe_fld (pv 0) rfl) (pv 3) (pv 4) rfl)
        (pss_one (ps_set (i := 3) scShift.nd rfl (Or.inl rfl) (pv 5))))))))), ?_⟩
    have k63 : k < 150 := by have := (List.getElem?_eq_some_iff.mp G0.at_).1; omega
    refine ⟨_, rfl, fun m σ H' => ∃ (n1 n2 : Mp) (v3 : V) (v4 v5 : Option V) (N : Nat), σ = [some (.ref g.p), some (.int o), some (.ref cb), some v3, v4, v5] ∧ JnG a.join H' g ps n1 n2 N ∧ Frm g H H' ∧
      ((m = 0 ∧ v3 = .non ∧ Mt ps n1 n2 ∧ (∀ i, (n1 i).isSome = true ↔ (dom i ∨ i = st)) ∧ N ≤ n + 302) ∨ ∃ k o h, m = k + 1 ∧ v3 = .int o ∧ Goes ps m2 st c dom n1 n2 k o h ∧ N + 2 * k ≤ n + 298),
      ⟨_, m1, m2, .int o, _, _, n, rfl, hG, fun _ _ z _ _ => z, .inr ⟨k, o, h, rfl, rfl, G0, by omega⟩⟩, ?_⟩
    rintro m σ H' ⟨n1, n2, v3, v4, v5, N, rfl, hG', fr, cas⟩
    refine ⟨_, rfl, rfl, _, rfl, ?_⟩
    rcases cas with ⟨rfl, rfl, M, dm, le⟩ | ⟨k, o1, h1, rfl, rfl, G, le⟩
    · rw [if_neg (by decide)]
      refine q n1 n2 H' M dm ?_ fr
      obtain ⟨k1, a1, a2, a3⟩ := hG'.m1
      obtain ⟨k2, b1, b2, b3⟩ := hG'.m2
      exact ⟨hG'.ob, hG'.ch, ⟨k1, a1, a2, by omega⟩, ⟨k2, b1, b2, by omega⟩, hG'.nAB, hG'.nAD, hG'.nBD⟩
    · rw [if_pos (show (!decide (V.int o1 = .non)) = true from rfl)]
      refine ⟨fun σ' H2 => ∃ m', m' < k + 1 ∧ ∃ (n1 n2 : Mp) (v3 : V) (v4 v5 : Option V) (N : Nat), σ' = [some (.ref g.p), some (.int o), some (.ref cb), some v3, v4, v5] ∧ JnG a.join H2 g ps n1 n2 N ∧ Frm g H H2 ∧
        ((m' = 0 ∧ v3 = .non ∧ Mt ps n1 n2 ∧ (∀ i, (n1 i).isSome = true ↔ (dom i ∨ i = st)) ∧ N ≤ n + 302) ∨ ∃ k o h, m' = k + 1 ∧ v3 = .int o ∧ Goes ps m2 st c dom n1 n2 k o h ∧ N + 2 * k ≤ n + 298), fun σ' H2 z => z, ?_⟩
      -- inlet = came_by[outlet]
      have hcb' := fr _ _ hcb nA nB
      have hv := val_kk C.nd G.at_
      refine ⟨_, rfl, _, rfl, cb, .int h1, rfl, (by rw [← hv]; exact DGet.k (k := Sum.inl o1) hcb'), ?_⟩
      -- left = self.outlet_by_inlet.get(inlet)
      obtain ⟨dx, ob⟩ := hG'.ob
      obtain ⟨kA, hA, kmA, lA⟩ := hG'.m1
      refine ⟨_, rfl, g.p, a.join, dx, _, _, rfl, ob, T.cls, T.nA, fl_A _ _ _, g.A, rfl, .inl ⟨kA, .inl hA⟩, _, rfl, _, DGet.k (k := Sum.inl h1) hA, ?_⟩
      rw [kmA h1]
      -- self.outlet_by_inlet[inlet] = outlet
      have GA := hG'.setA hA h1 o1
      refine ⟨_, rfl, _, rfl, g.p, a.join, dx, _, _, rfl, ob, T.cls, T.nA, fl_A _ _ _, _, rfl, g.A, _, rfl, .inl ⟨kA, Sum.inl h1, hA, rfl, by omega, rfl⟩, ?_⟩
      obtain ⟨H3, eH3⟩ : ∃ H3, H3 = upd H' g.A (.dK (putK kA (Sum.inl h1) (.int o1))) := ⟨_, rfl⟩
      rw [← eH3] at GA ⊢
      obtain ⟨dx3, ob3⟩ := GA.ob
      obtain ⟨kB, hB, kmB, lB⟩ := GA.m2
      have GB := GA.setB hB o1 h1
      refine ⟨_, rfl, _, rfl, g.p, a.join, dx3, _, _, rfl, ob3, T.cls, T.nB, fl_B _ _ _, _, rfl, g.B, _, rfl, .inl ⟨kB, Sum.inl o1, hB, rfl, by omega, rfl⟩, ?_⟩
      obtain ⟨H4, eH4⟩ : ∃ H4, H4 = upd H3 g.B (.dK (putK kB (Sum.inl o1) (.int h1))) := ⟨_, rfl⟩
      rw [← eH4] at GB ⊢
      have fr4 : Frm g H H4 := fun b u z x y => by rw [eH4, upd_ne y, eH3, upd_ne x]; exact fr b u z x y
      rcases G.next C with ⟨e1, e2, M, dm⟩ | ⟨k', o', h', lt, e2, G'⟩
      · rw [e2]
        exact ⟨_, rfl, 0, by omega, _, _, .non, _, _, _, rfl, GB, fr4, .inl ⟨rfl, rfl, M, dm, by omega⟩⟩
      · rw [e2]
        exact ⟨_, rfl, k' + 1, by omega, _, _, .int o', _, _, _, rfl, GB, fr4, .inr ⟨k', o', h', rfl, rfl, G', by omega⟩⟩
def spAdmit (a : Ad) : Sp := fun vs H Q _ => ∃ g ps m1 m2 n st, vs = [.ref g.p, .int st] ∧ JnG a.join H g ps m1 m2 n ∧ n ≤ 1000000 ∧ ps.length ≤ 150 ∧ Mt ps m1 m2 ∧ m1 st = none ∧ (∀ c H', Shut ps m2 st c → Same H H' → Q (.bl false) H') ∧
  ∀ m1' m2' H', Mt ps m1' m2' → (∀ i, (m1' i).isSome = true ↔ ((m1 i).isSome = true ∨ i = st)) → JnG a.join H' g ps m1' m2' (n + 302) → Frm g H H' → Q (.bl true) H'
theorem scAdmit : FnScope ["self", "inlet", "found"] ["self", "inlet"] (defScope sAdmit) := ⟨rfl, rfl, rfl, by decide +kernel, rfl, by decide +kernel, by decide +kernel⟩
theorem ok_admit (T : JTxt K mg a d) : FnOk P w K mg base (CXx P w) 2 a.admit d.admit ["self", "inlet"] (spAdmit a) := by
  have GS : FnOk P w K mg base (CXx P w) 1 a.search d.search ["self", "inlet"] (spSearch a) := ok_search T
  have GH : FnOk P w K mg base (CXx P w) 1 a.shift d.shift ["self", "free", "came_by"] (spShift a) := ok_shift T
  refine T.f_admit.okN scAdmit (fun vs H Q E h => ?_) (fun cdv A outer s H vs Q E hr h => ?_)
  · obtain ⟨g, ps, m1, m2, n, st, rfl, _⟩ := h
    rfl
  · obtain ⟨g, ps, m1, m2, n, st, rfl, hG, hn, h63, M, ms, qs, qo⟩ := h
    refine ⟨_, pss_cons (ps_set (i := 2) scAdmit.nd rfl (Or.inl rfl) (pe_meth (pv 0) T.cls T.m_search GS hr T.b_search .nil pass0x (pa_cons (pv 1) pa_nil)))
      (pss_cons (ps_if (pt_cmpR op_isN (pe_ix ix_tup (pv 2) pe_int (fun _ _ => rfl)) pe_non (nomark _)) (pss_one (ps_ret pe_bl)) pss_nil)
      (pss_cons (ps_expr (pe_meth (pv 0) T.cls T.m_shift GH hr T.b_shift .nil pass0x (pa_cons (pe_ix ix_tup (pv 2) pe_int (fun _ _ => rfl)) (pa_cons (pe_ix ix_tup (pv 2) pe_int (fun _ _ => rfl)) pa_nil))))
      (pss_one (ps_ret pe_bl)))), ?_⟩
    obtain ⟨dx, ob⟩ := hG.ob
    refine ⟨_, rfl, g.p, dx, _, rfl, ob, fl_search _ _ _, _, rfl, g, ps, m1, m2, n, st, rfl, hG, h63, fun c T' cb H' S sm hT hcb ne hT' hcb' => ?_, fun c o h T' cb H' O sm hT hcb ne hT' hcb' => ?_⟩
    · refine ⟨_, rfl, T', _, ((0 : Nat) : Int), .non, rfl, rfl, SqT.of hT', atI_nat rfl, rfl, _, rfl, ?_⟩
      exact qs c H' S sm
    · refine ⟨_, rfl, T', _, ((0 : Nat) : Int), .int o, rfl, rfl, SqT.of hT', atI_nat rfl, rfl, _, rfl, ?_⟩
      dsimp only
      rw [if_neg (show ¬ decide (V.int o = .non) = true from fun z => by cases z)]
      have G0 := O.goes M ms
      have hG' := hG.same sm
      obtain ⟨dx', ob'⟩ := hG'.ob
      obtain ⟨kA, hA, _, _⟩ := hG.m1
      obtain ⟨kB, hB, _, _⟩ := hG.m2
      have cl := O.came.len
      refine ⟨_, rfl, g.p, dx', _, rfl, ob', fl_shift _ _ _, _, rfl, T', _, ((0 : Nat) : Int), .int o, rfl, rfl, SqT.of hT', atI_nat rfl, _, rfl, T', _, ((1 : Nat) : Int), .ref cb, rfl, rfl, SqT.of hT', atI_nat rfl, g, ps, m1, m2, n, st, _, _, _, o, h, cb, rfl, hG', hn, O.came, by omega, G0, hcb', (fun z => by rw [z, hA] at hcb; cases hcb), (fun z => by rw [z, hB] at hcb; cases hcb), fun m1' m2' H2 M' dm hG2 fr => ?_⟩
      exact qo m1' m2' H2 M' dm hG2 fun b u z x y => fr b u (sm _ _ z) x y
end
end Jn
namespace L2
open PySem PySem.Spec PyProof.Rows
theorem comp_dict {a : Addr} {o : Obj} {kvs : List (Key × V)} {fv : List (Option V)} {tt : TT} {te : TE} {Q : VK} {H : Hp} {D : Addr} (Pv : Nat → Hp → Prop) (h0 : Pv 0 (upd H D (.lst []))) (hl : ∀ i H, i ≤ kvs.length → Pv i H → H a = some (.frz o (.dK kvs)))
    (hs : ∀ i k v H, kvs[i]? = some (k, v) → Pv i H → tt (some (kV k) :: fv) H fun ok H2 => if ok = true then te (some (kV k) :: fv) H2 fun y H3 => ∃ ys, H3 D = some (.lst ys) ∧ ys.length < sizeLine ∧ Pv (i + 1) (upd H3 D (.lst (ys ++ [y]))) else Pv (i + 1) H2)
    (hd : ∀ H, Pv kvs.length H → Q (.ref D) H) : CompG (Itd a o kvs) fv tt te Q H D := by
  refine ⟨fun i m H => m = kvs.length - i ∧ i ≤ kvs.length ∧ Pv i H, ⟨kvs.length, by simp, Nat.zero_le _, h0⟩, ?_⟩
  rintro i m H ⟨rfl, hi, p⟩
  have q := hl i H hi p
  by_cases hlt : i < kvs.length
  · refine .inr ⟨⟨hlt, q⟩, Pv (i + 1), fun H' p' => ⟨kvs.length - (i + 1), by omega, rfl, hlt, p'⟩, fun x H' y => ?_⟩
    obtain ⟨e, k, v, e2, e3⟩ := y
    subst e e3
    exact hs i k v _ e2 p
  · have e : i = kvs.length := by omega
    subst e
    exact .inl ⟨⟨Nat.le_refl _, q⟩, hd H p⟩
end L2
namespace Jn
open PySem L2
theorem came_in {ps : List (Int × Int)} {m2 : Mp} {st : Int} {c c' : List (Int × Int)} (S : Shut ps m2 st c) (C : Came ps m2 st c') : ∀ (k : Nat) o h, c'[k]? = some (o, h) → ky c o := by
  intro k
  induction k using Nat.strongRecOn with
  | _ k ih =>
    intro o h e
    obtain ⟨p, r⟩ := C.by_ k o h e
    rcases r with rfl | ⟨k', o', h', lt, e', q⟩
    · exact S.shut _ (.inl rfl) o p
    · exact S.shut h (.inr ⟨o', ih k' lt o' h' e', q⟩) o p
theorem not_both {ps : List (Int × Int)} {m2 : Mp} {st o h : Int} {c c' : List (Int × Int)} (S : Shut ps m2 st c) (O : Open_ ps m2 st c' o h) : False := by
  have y := came_in S O.came c'.length o h (by rw [List.getElem?_append_right (Nat.le_refl _), Nat.sub_self]; rfl)
  have := S.full o y
  rw [O.free] at this
  cases this
section
variable {P : Program} {w : World} {K : PySem.W.Frag} {mg : Str → Option Value} {base : Heap} {a : Ad} {d : Fd}
def spCrowd (a : Ad) : Sp := fun vs H Q _ => ∃ g ps m1 m2 n st c0, vs = [.ref g.p, .int st] ∧ JnG a.join H g ps m1 m2 n ∧ ps.length ≤ 150 ∧ Shut ps m2 st c0 ∧
  ∀ c L H', Shut ps m2 st c → Same H H' → H L = none → H' L = some (.lst ((st :: cr m2 c).map V.int)) → Q (.ref L) H'
theorem scCrowd : FnScope ["self", "inlet", "came_by"] ["self", "inlet"] (defScope sCrowd) := ⟨rfl, rfl, rfl, by decide +kernel, rfl, by decide +kernel, by decide +kernel⟩
theorem ok_crowd (T : JTxt K mg a d) : FnOk P w K mg base (CXx P w) 2 a.crowd d.crowd ["self", "inlet"] (spCrowd a) := by
  have GS : FnOk P w K mg base (CXx P w) 1 a.search d.search ["self", "inlet"] (spSearch a) := ok_search T
  refine T.f_crowd.okN scCrowd (fun vs H Q E h => ?_) (fun cdv A outer s H vs Q E hr h => ?_)
  · obtain ⟨g, ps, m1, m2, n, st, c0, rfl, _⟩ := h
    rfl
  · obtain ⟨g, ps, m1, m2, n, st, c0, rfl, hG, h63, S0, q⟩ := h
    have hu := hu_of hr
    have hsl : sizeLine = 16777216 := sizeLine_eq
    refine ⟨_, pss_cons (ps_set (i := 2) scCrowd.nd rfl (Or.inl rfl) (pe_ix ix_tup (pe_meth (pv 0) T.cls T.m_search GS hr T.b_search .nil pass0x (pa_cons (pv 1) pa_nil)) pe_int (fun _ _ => rfl)))
      (pss_one (ps_ret (pe_op op_cat (pe_lst (pa_cons (pv 1) pa_nil)) (by exact pe_comp (te := tDGet (tFld K (tVar 1) "inlet_by_outlet") (tVar 0)) rfl (pi_dict (pv 2)) (comp1 (k := 0) rfl (by decide +kernel) (by decide +kernel) rfl rfl rfl ⟨(fun z => nomatch z), ⟨(fun z => nomatch z), ⟨(fun _ => ⟨_, rfl⟩), trivial⟩⟩⟩ rfl (.inr (.inl rfl)) rfl rfl (by decide +kernel)) (fun _ _ _ _ _ => pifs_nil) (fun _ _ _ _ _ => pe_dget hu (pe_fld (pv 1) rfl) (pv 0) (fun _ _ => rfl)))))), ?_⟩
    obtain ⟨dx, ob⟩ := hG.ob
    refine ⟨_, rfl, g.p, dx, _, rfl, ob, fl_search _ _ _, _, rfl, g, ps, m1, m2, n, st, rfl, hG, h63, fun c T' cb H1 S sm hT hcb ne hT' hcb' => ?_, fun c o h T' cb H1 O sm hT hcb ne hT' hcb' => (not_both S0 O).elim⟩
    refine ⟨T', _, ((1 : Nat) : Int), .ref cb, rfl, rfl, SqT.of hT', atI_nat rfl, ?_⟩
    refine ⟨_, rfl, by show 1 ≤ sizeLine; omega, fun L1 hL1 => ?_⟩
    have sm1 : Same H1 (upd H1 L1 (.lst [.int st])) := fun b u z => by rw [upd_ne (ne_of_none z hL1)]; exact z
    refine ⟨_, rfl, cb, _, rfl, sm1 _ _ hcb', fun oc D hD => ?_⟩
    obtain ⟨H2, eH2⟩ : ∃ H2, H2 = upd (upd H1 L1 (.lst [.int st])) cb (.frz oc (.dK (c.map kk))) := ⟨_, rfl⟩
    rw [← eH2] at hD ⊢
    have s2 : Same H H2 := fun b u z => by rw [eH2, upd_ne (ne_of_none z hcb)]; exact sm1 _ _ (sm _ _ z)
    have nL1c : L1 ≠ cb := fun z => by rw [z, hcb'] at hL1; cases hL1
    have hL2 : H2 L1 = some (.lst [.int st]) := by rw [eH2, upd_ne nL1c, upd_same]
    have hc2 : H2 cb = some (.frz oc (.dK (c.map kk))) := by rw [eH2, upd_same]
    have hD0 : H D = none := s2.free hD
    refine comp_dict (fun i H' => Same H H' ∧ H' L1 = some (.lst [.int st]) ∧ H' cb = some (.frz oc (.dK (c.map kk))) ∧ H' D = some (.lst ((cr m2 (c.take i)).map V.int))) ?_ ?_ ?_ ?_
    · have far : ∀ b u, H2 b = some u → upd H2 D (.lst []) b = some u := fun b u z => by rw [upd_ne (ne_of_none z hD)]; exact z
      exact ⟨fun b u z => far _ _ (s2 _ _ z), far _ _ hL2, far _ _ hc2, upd_same⟩
    · rintro i H' _ ⟨_, _, h, _⟩
      exact h
    · rintro i k v H' hk ⟨sm', hL', hc', hD'⟩
      rw [List.getElem?_map] at hk
      cases e : c[i]? with
      | none => rw [e] at hk; cases hk
      | some x =>
        rw [e] at hk
        obtain ⟨o, h⟩ := x
        cases hk
        have yo : ky c o := ⟨h, List.mem_of_getElem? e⟩
        obtain ⟨i0, hi0⟩ := Option.isSome_iff_exists.mp (S.full o yo)
        obtain ⟨kB, hB, kmB, lB⟩ := hG.m2
        have cl := S.came.len
        have il := (List.getElem?_eq_some_iff.mp e).1
        refine yes (iteT ?_)
        refine ⟨_, rfl, g.p, a.join, dx, _, _, rfl, sm' _ _ ob, T.cls, T.nB, fl_B _ _ _, _, rfl, g.B, .int i0, rfl, (by
          have z := DGet.k (k := Sum.inl o) (sm' _ _ hB)
          rw [kmB o, hi0] at z
          exact z), _, hD', ?_, ?_⟩
        · rw [List.length_map]
          unfold cr
          rw [List.length_map, List.length_take]
          omega
        · have nDL : L1 ≠ D := fun z => by rw [z] at hL2; rw [hD] at hL2; cases hL2
          have nDc : cb ≠ D := fun z => by rw [z] at hc2; rw [hD] at hc2; cases hc2
          refine ⟨fun b u z => by rw [upd_ne (ne_of_none z hD0)]; exact sm' _ _ z, by rw [upd_ne nDL]; exact hL', by rw [upd_ne nDc]; exact hc', ?_⟩
          rw [upd_same, List.take_add_one, e]
          unfold cr
          rw [List.map_append, List.map_append]
          show some (HO.lst (_ ++ [V.int i0])) = some (HO.lst (_ ++ [V.int ((m2 o).getD 0)]))
          rw [hi0]
          rfl
    · rintro H' ⟨sm', hL', hc', hD'⟩
      rw [List.length_map, List.take_length] at hD'
      have cl := S.came.len
      refine ⟨L1, D, _, _, rfl, rfl, hL', hD', by rw [List.length_map]; unfold cr; rw [List.length_map]; show 1 + c.length ≤ sizeLine; omega, fun L hL => ?_⟩
      exact q c L _ S (fun b u z => by rw [upd_ne (ne_of_none (sm' _ _ z) hL)]; exact sm' _ _ z) (sm'.free hL) upd_same
end
end Jn
namespace Jn
open PySem L2
theorem ch_more (qs : List (Int × Int)) (i o j : Int) : chOf (qs ++ [(i, o)]) j = if j = i then chOf qs j ++ [o] else chOf qs j := by
  unfold chOf
  rw [List.filter_append, List.map_append]
  by_cases e : j = i
  · subst e
    rw [if_pos rfl]
    simp
  · rw [if_neg e]
    simp [Ne.symm e]
def PairsAt (K : PySem.W.Frag) (H : Hp) (l : Addr) (ps : List (Int × Int)) : Prop := ∃ ts : List Addr, SqL K H l (ts.map V.ref) ∧ ts.length = ps.length ∧ ∀ (j : Nat) t p, ts[j]? = some t → ps[j]? = some p → H t = some (.tup [.int p.1, .int p.2])
def ChI (H0 H : Hp) (kvs : List (Key × V)) (qs : List (Int × Int)) : Prop := (∀ i, (chOf qs i = [] ∧ valV kvs (Sum.inl i : Key) = none) ∨ ∃ la, valV kvs (Sum.inl i : Key) = some (.ref la) ∧ H la = some (.lst ((chOf qs i).map V.int)) ∧ H0 la = none) ∧
  ∀ i j la, valV kvs (Sum.inl i : Key) = some (.ref la) → valV kvs (Sum.inl j : Key) = some (.ref la) → i = j
section
variable {P : Program} {w : World} {K : PySem.W.Frag} {mg : Str → Option Value} {base : Heap} {a : Ad} {d : Fd}
def spChoices (K : PySem.W.Frag) : Sp := fun vs H Q _ => ∃ l ps, vs = [.ref l] ∧ PairsAt K H l ps ∧ ps.length ≤ 150 ∧ ∀ D kvs H', Same H H' → H D = none → H' D = some (.dK kvs) → ChAt H' kvs ps → Q (.ref D) H'
theorem scChoices : FnScope ["pairs", "choices", "inlet", "outlet"] ["pairs"] (defScope sChoices) := ⟨rfl, rfl, rfl, by decide +kernel, rfl, by decide +kernel, by decide +kernel⟩
theorem ok_choices (T : JTxt K mg a d) : FnOk P w K mg base (CXx P w) 1 a.choices d.choices ["pairs"] (spChoices K) := by
  refine T.f_choices.okN scChoices (fun vs H Q E h => ?_) (fun cdv A outer s H vs Q E hr h => ?_)
  · obtain ⟨l, ps, rfl, _⟩ := h
    rfl
  · obtain ⟨l, ps, rfl, ⟨ts, hl, lts, hts⟩, h63, q⟩ := h
    have hu := hu_of hr
    have hsl : sizeLine = 16777216 := sizeLine_eq
    refine ⟨_, pss_cons (ps_set (i := 1) scChoices.nd rfl (Or.inl rfl) pe_dnewK)
      (pss_cons (ps_for PassesOwn.never rfl (pi_list (pv 0)) (pg_tup (n := 2) rfl (pgs_cons (pg_name (i := 2) scChoices.nd rfl (Or.inl rfl)) (pgs_cons (pg_name (i := 3) scChoices.nd rfl (Or.inl rfl)) pgs_nil)))
        (pss_one (ps_expr (pe_bm PySem.F.plainAttrs_list PySem.F.slot_list_append PySem.F.type_list_append mt_append (pe_dset (pv 1) (pv 2) (pe_lst pa_nil) ⟨rfl, rfl, rfl, rfl⟩) (pa_cons (pv 3) pa_nil)))))
      (pss_one (ps_ret (pv 1)))), ?_⟩
    intro D hD
    have s1 : Same H (upd H D (.dK [])) := fun b u z => by rw [upd_ne (ne_of_none z hD)]; exact z
    refine ⟨_, rfl, l, rfl, ⟨_, s1.seq hl⟩, fun i m σ H' => ∃ (kvs : List (Key × V)) (v2 v3 : Option V), σ = [some (.ref l), some (.ref D), v2, v3] ∧ Same H H' ∧ H' D = some (.dK kvs) ∧ ChI H H' kvs (ps.take i) ∧ kvs.length ≤ i ∧ i ≤ ps.length ∧ m = ps.length - i,
      ⟨_, [], _, _, rfl, s1, upd_same, ⟨fun i => .inl ⟨rfl, rfl⟩, fun i j la z => by cases z⟩, Nat.le_refl _, Nat.zero_le _, rfl⟩, ?_⟩
    rintro i m σ H' ⟨kvs, v2, v3, rfl, sm, hD', CI, lk, le, rfl⟩
    by_cases hi : i < ps.length
    case neg =>
      have ei : i = ps.length := by omega
      subst ei
      rw [List.take_length] at CI
      refine .inl ⟨⟨_, sm.seq hl, by rw [List.length_map]; omega⟩, _, rfl, q D kvs H' sm hD hD' fun j => (CI.1 j).imp id fun ⟨la, x, y, _⟩ => ⟨la, x, y⟩⟩
    obtain ⟨p, hp⟩ : ∃ p, ps[i]? = some p := ⟨_, List.getElem?_eq_getElem hi⟩
    obtain ⟨t, ht⟩ : ∃ t, ts[i]? = some t := ⟨_, List.getElem?_eq_getElem (by omega)⟩
    have htt := hts i t p ht hp
    refine .inr ⟨⟨_, .ref t, sm.seq hl, by rw [List.getElem?_map, ht]; rfl⟩, fun σ' H2 => ∃ m', m' < ps.length - i ∧ ∃ (kvs : List (Key × V)) (v2 v3 : Option V), σ' = [some (.ref l), some (.ref D), v2, v3] ∧ Same H H2 ∧ H2 D = some (.dK kvs) ∧ ChI H H2 kvs (ps.take (i + 1)) ∧ kvs.length ≤ i + 1 ∧ i + 1 ≤ ps.length ∧ m' = ps.length - (i + 1), fun σ' H2 z => z, ?_⟩
    rintro x H2 ⟨rfl, hx⟩
    obtain rfl : x = .ref t := by
      have := hx _ (sm.seq hl)
      rw [List.getElem?_map, ht] at this
      exact (Option.some.inj this).symm
    refine ⟨t, _, rfl, SqT.of (sm _ _ htt), rfl, _, _, rfl, _, _, rfl, rfl, ?_⟩
    -- choices.setdefault(inlet, []).append(outlet)
    refine ⟨_, rfl, D, rfl, .inl ⟨kvs, .inl hD'⟩, _, rfl, Nat.zero_le _, fun le hle => ?_⟩
    obtain ⟨H3, eH3⟩ : ∃ H3, H3 = upd H2 le (.lst []) := ⟨_, rfl⟩
    rw [← eH3]
    have s3 : Same H2 H3 := fun b u z => by rw [eH3, upd_ne (ne_of_none z hle)]; exact z
    have hD3 := s3 _ _ hD'
    have cm : ∀ j, chOf (ps.take (i + 1)) j = if j = p.1 then chOf (ps.take i) j ++ [p.2] else chOf (ps.take i) j := fun j => by
      rw [List.take_add_one, hp]
      exact ch_more _ p.1 p.2 j
    have hle0 : H le = none := sm.free hle
    have c63 : (chOf (ps.take i) p.1).length ≤ 150 := by
      unfold chOf
      rw [List.length_map]
      refine Nat.le_trans (List.length_filter_le _ _) ?_
      rw [List.length_take]
      omega
    refine ⟨kvs, Sum.inl p.1, hD3, rfl, by omega, fun v hv => ?_, fun hn => ?_⟩
    · rcases CI.1 p.1 with ⟨_, e⟩ | ⟨la, e1, e2, e3⟩
      · rw [e] at hv; cases hv
      · rw [e1] at hv
        cases hv
        have e2' := s3 _ _ e2
        refine ⟨.inl ⟨rfl, _, SqL.of e2'⟩, _, rfl, la, _, .int p.2, rfl, rfl, e2', by rw [List.length_map]; omega, ?_⟩
        have nDl : D ≠ la := ne_of hD3 e2' (by simp)
        refine ⟨_, by omega, kvs, _, _, rfl, fun b u z => by rw [upd_ne (ne_of_none z e3)]; exact s3 _ _ (sm _ _ z), by rw [upd_ne nDl]; exact hD3, ⟨fun j => ?_, CI.2⟩, by omega, by omega, rfl⟩
        rw [cm j]
        by_cases hj : j = p.1
        · rw [if_pos hj, hj]
          exact .inr ⟨la, e1, by rw [upd_same, List.map_append]; rfl, e3⟩
        · rw [if_neg hj]
          refine (CI.1 j).imp id ?_
          rintro ⟨lb, f1, f2, f3⟩
          refine ⟨lb, f1, ?_, f3⟩
          rw [upd_ne (fun z => hj (CI.2 j p.1 lb f1 (by rw [z]; exact e1)))]
          exact s3 _ _ f2
    · have e0 : chOf (ps.take i) p.1 = [] := by
        rcases CI.1 p.1 with ⟨e, _⟩ | ⟨la, e1, _⟩
        · exact e
        · rw [hn] at e1; cases e1
      have nle : le ≠ D := fun z => by rw [z, hD'] at hle; cases hle
      have hl4 : upd H3 D (.dK (putK kvs (Sum.inl p.1) (.ref le))) le = some (.lst []) := by rw [upd_ne nle, eH3, upd_same]
      refine ⟨.inl ⟨rfl, _, SqL.of hl4⟩, _, rfl, le, _, .int p.2, rfl, rfl, hl4, by show 0 < sizeLine; omega, ?_⟩
      have hlp := length_putK kvs (Sum.inl p.1 : Key) (.ref le)
      have oldl : ∀ j la, valV kvs (Sum.inl j : Key) = some (.ref la) → la ≠ le ∧ la ≠ D := fun j la e => by
        rcases CI.1 j with ⟨_, z⟩ | ⟨lb, f1, f2, f3⟩
        · rw [z] at e; cases e
        · rw [f1] at e
          cases e
          exact ⟨ne_of_none f2 hle, ne_of f2 hD' (by simp)⟩
      refine ⟨_, by omega, putK kvs (Sum.inl p.1) (.ref le), _, _, rfl, fun b u z => by rw [upd_ne (ne_of_none z hle0), upd_ne (ne_of_none z hD)]; exact s3 _ _ (sm _ _ z), by rw [upd_ne (Ne.symm nle), upd_same], ⟨fun j => ?_, fun j j' la z1 z2 => ?_⟩, by omega, by omega, rfl⟩
      · rw [cm j, valV_put]
        by_cases hj : j = p.1
        · rw [if_pos hj, if_pos (by rw [hj]), hj, e0]
          exact .inr ⟨le, rfl, by rw [upd_same]; rfl, hle0⟩
        · rw [if_neg hj, if_neg (fun z => hj (Sum.inl.inj z))]
          refine (CI.1 j).imp id ?_
          rintro ⟨lb, f1, f2, f3⟩
          obtain ⟨n1, n2⟩ := oldl j lb f1
          exact ⟨lb, f1, by rw [upd_ne n1, upd_ne n2]; exact s3 _ _ f2, f3⟩
      · rw [valV_put] at z1 z2
        by_cases hj : j = p.1
        · rw [if_pos (by rw [hj])] at z1
          cases z1
          by_cases hj' : j' = p.1
          · rw [hj, hj']
          · rw [if_neg (fun z => hj' (Sum.inl.inj z))] at z2
            exact absurd rfl (oldl j' _ z2).1
        · rw [if_neg (fun z => hj (Sum.inl.inj z))] at z1
          by_cases hj' : j' = p.1
          · rw [if_pos (by rw [hj'])] at z2
            cases z2
            exact absurd rfl (oldl j _ z1).1
          · rw [if_neg (fun z => hj' (Sum.inl.inj z))] at z2
            exact CI.2 j j' la z1 z2
def spInit (K : PySem.W.Frag) (a : Ad) : Sp := fun vs H Q _ => ∃ p dx l ps, vs = [.ref p, .ref l] ∧ H p = some (.ins a.join dx []) ∧ PairsAt K H l ps ∧ ps.length ≤ 150 ∧ ∀ g H', g.p = p → JnG a.join H' g ps (fun _ => none) (fun _ => none) 0 → H g.A = none → H g.B = none → (∀ b u, H b = some u → b ≠ p → H' b = some u) → Q .non H'
theorem scInit : FnScope ["self", "pairs"] ["self", "pairs"] (defScope sInit) := ⟨rfl, rfl, rfl, by decide +kernel, rfl, by decide +kernel, by decide +kernel⟩
theorem ok_init (T : JTxt K mg a d) : FnOk P w K mg base (CXx P w) 2 a.init d.init ["self", "pairs"] (spInit K a) := by
  have GC : FnOk P w K mg base (CXx P w) 1 a.choices d.choices ["pairs"] (spChoices K) := ok_choices T
  refine T.f_init.okN scInit (fun vs H Q E h => ?_) (fun cdv A outer s H vs Q E hr h => ?_)
  · obtain ⟨p, dx, l, ps, rfl, _⟩ := h
    rfl
  · obtain ⟨p, dx, l, ps, rfl, hp, hps, h63, q⟩ := h
    refine ⟨_, pss_cons (ps_fld (pv 0) (pe_call GC hr rfl T.g_choices T.f_choices.kp T.b_choices .nil pass0x (pa_cons (pv 1) pa_nil)) rfl)
      (pss_cons (ps_fld (pv 0) pe_dnewK rfl) (pss_one (ps_fld (pv 0) pe_dnewK rfl))), ?_⟩
    refine ⟨_, rfl, l, ps, rfl, hps, h63, fun D kvs H1 s1 hD hD1 ch => ?_⟩
    have p1 := s1 _ _ hp
    refine ⟨_, rfl, p, a.join, dx, [], rfl, p1, T.cls, T.nC, by show 0 < 1000; decide, ?_⟩
    intro A1 hA
    have nAp : A1 ≠ p := fun z => by rw [z, upd_same] at hA; cases hA
    have hA1 : H1 A1 = none := by rw [upd_ne nAp] at hA; exact hA
    refine ⟨_, rfl, p, a.join, dx, _, rfl, by rw [upd_ne (Ne.symm nAp)]; exact upd_same, T.cls, T.nA, by show 1 < 1000; decide, ?_⟩
    intro B1 hB
    have nBp : B1 ≠ p := fun z => by rw [z, upd_same] at hB; cases hB
    have hB2 := hB
    rw [upd_ne nBp] at hB2
    have nBA : B1 ≠ A1 := fun z => by rw [z, upd_same] at hB2; cases hB2
    rw [upd_ne nBA, upd_ne nBp] at hB2
    refine ⟨_, rfl, p, a.join, dx, _, rfl, by rw [upd_ne (Ne.symm nBp)]; exact upd_same, T.cls, T.nB, by show 2 < 1000; decide, ?_⟩
    have nDp : D ≠ p := fun z => by rw [z, hp] at hD; cases hD
    have nDA : D ≠ A1 := ne_of_none hD1 hA1
    have nDB : D ≠ B1 := ne_of_none hD1 hB2
    have far : ∀ b u, H1 b = some u → b ≠ p → upd (upd (upd (upd (upd H1 p (.ins a.join dx (putF "choices" (.ref D) []))) A1 (.dK [])) p (.ins a.join dx (putF "outlet_by_inlet" (.ref A1) (putF "choices" (.ref D) [])))) B1 (.dK [])) p (.ins a.join dx (putF "inlet_by_outlet" (.ref B1) (putF "outlet_by_inlet" (.ref A1) (putF "choices" (.ref D) [])))) b = some u := fun b u z n => by
      rw [upd_ne n, upd_ne (ne_of_none z hB2), upd_ne n, upd_ne (ne_of_none z hA1), upd_ne n]
      exact z
    refine q ⟨p, D, A1, B1⟩ _ rfl ⟨⟨dx, upd_same⟩, ⟨kvs, far _ _ hD1 nDp, fun i => (ch i).imp id fun ⟨la, x, y⟩ => ⟨la, x, far _ _ y (ne_of y p1 (by simp))⟩⟩, ⟨[], ?_, fun i => rfl, Nat.le_refl _⟩, ⟨[], ?_, fun i => rfl, Nat.le_refl _⟩, Ne.symm nBA, Ne.symm nDA, Ne.symm nDB⟩ (s1.free hA1) (s1.free hB2) fun b u z n => far _ _ (s1 _ _ z) n
    · show upd _ p _ A1 = _
      rw [upd_ne nAp, upd_ne (Ne.symm nBA), upd_ne nAp, upd_same]
    · show upd _ p _ B1 = _
      rw [upd_ne nBp, upd_same]
end
end Jn
namespace Jn
open PySem L2
def pairD (p : Int × Int) : D := .tup [.int p.1, .int p.2]
def fFilled : DSp := fun ds _ Q => ∃ (ps : List (Int × Int)) (is : List Int), ds = [.lst (ps.map pairD), .lst (is.map D.int)] ∧ ps.length ≤ 150 ∧ is.length ≤ 62 ∧ is.Nodup ∧
  (∀ m1 m2 st c, Mt ps m1 m2 → st ∈ is → m1 st = none → (∀ i, (m1 i).isSome = true → i ∈ is) → Shut ps m2 st c → Q (.tup [.str "crowd", .lst ((srt (st :: cr m2 c)).map D.int)])) ∧
  ∀ m1 m2, Mt ps m1 m2 → (∀ i ∈ is, (m1 i).isSome = true) → Q (.tup [.str "filled", .lst ((is.map fun i => (m1 i).getD 0).map D.int)])
def spFilled (K : PySem.W.Frag) : Sp := fun vs H Q _ => ∃ (l m : Addr) (ps : List (Int × Int)) (is : List Int), vs = [.ref l, .ref m] ∧ PairsAt K H l ps ∧ SqL K H m (is.map V.int) ∧ ps.length ≤ 150 ∧ is.length ≤ 62 ∧ is.Nodup ∧
  (∀ m1 m2 st c L T H', Mt ps m1 m2 → st ∈ is → m1 st = none → (∀ i, (m1 i).isSome = true → i ∈ is) → Shut ps m2 st c → Same H H' → H L = none → H T = none → T ≠ L → H' L = some (.lst ((srt (st :: cr m2 c)).map V.int)) → H' T = some (.tup [.str "crowd", .ref L]) → Q (.ref T) H') ∧
  ∀ m1 m2 L T H', Mt ps m1 m2 → (∀ i ∈ is, (m1 i).isSome = true) → Same H H' → H L = none → H T = none → T ≠ L → H' L = some (.lst ((is.map fun i => (m1 i).getD 0).map V.int)) → H' T = some (.tup [.str "filled", .ref L]) → Q (.ref T) H'
theorem crowd_len {ps : List (Int × Int)} {m1 m2 : Mp} {st : Int} {c : List (Int × Int)} {is : List Int} (M : Mt ps m1 m2) (s : m1 st = none) (S : Shut ps m2 st c) (hs : st ∈ is) (dm : ∀ i, (m1 i).isSome = true → i ∈ is) : (st :: cr m2 c).length ≤ is.length :=
  nd_len _ _ (crowd_nd M s S) fun x hx => (crowd_in M S x hx).elim (fun e => e ▸ hs) (dm x)
section
variable {P : Program} {w : World} {K : PySem.W.Frag} {mg : Str → Option Value} {base : Heap} {a : Ad} {d : Fd}
theorem scFilled : FnScope ["pairs", "inlets", "joining", "inlet"] ["pairs", "inlets"] (defScope sFilled) := ⟨rfl, rfl, rfl, by decide +kernel, rfl, by decide +kernel, by decide +kernel⟩
theorem ok_filledR (T : JTxt K mg a d) : FnOk P w K mg base (CXx P w) 4 a.filled d.filled ["pairs", "inlets"] (spFilled K) := by
  have GI : FnOk P w K mg base (CXx P w) 2 a.init d.init ["self", "pairs"] (spInit K a) := ok_init T
  have GA : FnOk P w K mg base (CXx P w) 2 a.admit d.admit ["self", "inlet"] (spAdmit a) := ok_admit T
  have GC : FnOk P w K mg base (CXx P w) 2 a.crowd d.crowd ["self", "inlet"] (spCrowd a) := ok_crowd T
  refine T.f_filled.okN scFilled (fun vs H Q E h => ?_) (fun cdv A outer s H vs Q E hr h => ?_)
  · obtain ⟨l, m, ps, is, rfl, _⟩ := h
    rfl
  · obtain ⟨l, m, ps, is, rfl, hps, his, h63, i62, nd, qc, qf⟩ := h
    have hu := hu_of hr
    have hr2 : Room 2 _ := hr.mono (by decide)
    have hsl : sizeLine = 16777216 := sizeLine_eq
    refine ⟨_, pss_cons (ps_set (i := 2) scFilled.nd rfl (Or.inr rfl) (pe_make (dvs := []) T.mkH GI hr rfl T.g_join T.b_init .nil pass0x (pa_cons (pv 0) pa_nil)))
      (pss_cons (ps_for PassesOwn.never rfl (pi_list (pv 1)) (pg_name (i := 3) scFilled.nd rfl (Or.inl rfl))
        (pss_one (ps_if (pt_not (pt_val (pe_meth (pv 2) T.cls T.m_admit GA hr2 T.b_admit .nil pass0x (pa_cons (pv 3) pa_nil))))
          (pss_one (ps_ret (pe_tup (pa_cons pe_str (pa_cons (pe_callB call_sortedL rfl T.sorted_ bt_sortedB (pa_cons (pe_meth (pv 2) T.cls T.m_crowd GC hr2 T.b_crowd .nil pass0x (pa_cons (pv 3) pa_nil)) pa_nil)) pa_nil))))) pss_nil)))
      (pss_one (ps_ret (pe_tup (pa_cons pe_str (pa_cons (by exact pe_comp (te := tDGet (tFld K (tVar 1) "outlet_by_inlet") (tVar 0)) rfl (pi_list (pv 1)) (comp1 (k := 2) rfl (by decide +kernel) (by decide +kernel) rfl rfl rfl ⟨(fun z => nomatch z), ⟨(fun z => nomatch z), ⟨(fun _ => ⟨_, rfl⟩), trivial⟩⟩⟩ rfl (.inr (.inl rfl)) rfl rfl (by decide +kernel)) (fun _ _ _ _ _ => pifs_nil) (fun _ _ _ _ _ => pe_dget hu (pe_fld (pv 1) rfl) (pv 0) (fun _ _ => rfl))) pa_nil)))))), ?_⟩
    -- joining = Joining(pairs)
    refine ⟨_, rfl, fun p dx hp hdx hne => ?_⟩
    have s0 : Same H (upd (upd H dx (.own p)) p (.ins a.join dx [])) := fun b u z => by rw [upd_ne (ne_of_none z hp), upd_ne (ne_of_none z hdx)]; exact z
    refine ⟨p, dx, l, ps, rfl, upd_same, ?_, h63, fun g H1 egp hG hA hB fr => ⟨rfl, ?_⟩⟩
    · obtain ⟨ts, t1, t2, t3⟩ := hps
      exact ⟨ts, s0.seq t1, t2, fun j t x e1 e2 => s0 _ _ (t3 j t x e1 e2)⟩
    subst egp
    have s1 : Same H H1 := fun b u z => fr b u (s0 _ _ z) (ne_of_none z hp)
    have hA0 : H g.A = none := s0.free hA
    have hB0 : H g.B = none := s0.free hB
    -- for inlet in inlets
    refine ⟨_, rfl, m, rfl, ⟨_, s1.seq his⟩, fun i k σ H' => ∃ (m1 m2 : Mp) (v3 : Option V), σ = [some (.ref l), some (.ref m), some (.ref g.p), v3] ∧ JnG a.join H' g ps m1 m2 (302 * i) ∧ Mt ps m1 m2 ∧ (∀ j, (m1 j).isSome = true ↔ j ∈ is.take i) ∧ Same H H' ∧ i ≤ is.length ∧ k = is.length - i,
      ⟨_, _, _, _, rfl, hG, Mt.nil ps, fun j => ⟨(fun z => by cases z), (fun z => by cases z)⟩, s1, Nat.zero_le _, rfl⟩, ?_⟩
    rintro i k σ H' ⟨m1, m2, v3, rfl, hG', M, dm, sm, le, rfl⟩
    by_cases hi : i < is.length
    case neg =>
      have ei : i = is.length := by omega
      subst ei
      rw [List.take_length] at dm
      refine .inl ⟨⟨_, sm.seq his, by rw [List.length_map]; omega⟩, ?_⟩
      -- the comprehension
      refine ⟨_, rfl, m, rfl, ⟨_, sm.seq his⟩, fun D hD => ?_⟩
      have hD0 : H D = none := sm.free hD
      refine comp_list (K := K) (a := m) (xs := is.map V.int) (fun i H2 => Same H' H2 ∧ H2 D = some (.lst (((is.take i).map fun i => (m1 i).getD 0).map V.int))) ?_ ?_ ?_ ?_
      · exact ⟨fun b u z => by rw [upd_ne (ne_of_none z hD)]; exact z, upd_same⟩
      · rintro i H2 _ ⟨z, _⟩
        exact (sm.trans z).seq his
      · rintro i x H2 hx ⟨z, hD2⟩
        rw [List.getElem?_map] at hx
        cases e : is[i]? with
        | none => rw [e] at hx; cases hx
        | some j =>
          rw [e] at hx
          cases Option.some.inj hx
          obtain ⟨oj, hoj⟩ := Option.isSome_iff_exists.mp ((dm j).mpr (List.mem_of_getElem? e))
          obtain ⟨dx', ob⟩ := hG'.ob
          obtain ⟨kA, hAk, kmA, lA⟩ := hG'.m1
          refine yes (iteT ?_)
          refine ⟨_, rfl, g.p, a.join, dx', _, _, rfl, z _ _ ob, T.cls, T.nA, fl_A _ _ _, _, rfl, g.A, .int oj, rfl, (by
            have y := DGet.k (k := Sum.inl j) (z _ _ hAk)
            rw [kmA j, hoj] at y
            exact y), _, hD2, by rw [List.length_map, List.length_map, List.length_take]; omega, fun b u y => by rw [upd_ne (ne_of_none y hD)]; exact z _ _ y, ?_⟩
          rw [upd_same, List.take_add_one, e, List.map_append, List.map_append]
          show some (HO.lst (_ ++ [V.int oj])) = some (HO.lst (_ ++ [V.int ((m1 j).getD 0)]))
          rw [hoj]
          rfl
      · rintro H2 ⟨z, hD2⟩
        rw [List.length_map, List.take_length] at hD2
        refine ⟨by show 2 ≤ sizeLine; omega, fun T' hT => ?_⟩
        have nT : T' ≠ D := fun y => by rw [y, hD2] at hT; cases hT
        have s2 := sm.trans z
        exact qf m1 m2 D T' _ M (fun i hi => (dm i).mpr hi) (fun b u y => by rw [upd_ne (ne_of_none (s2 _ _ y) hT)]; exact s2 _ _ y) hD0 (s2.free hT) nT (by rw [upd_ne (Ne.symm nT)]; exact hD2) upd_same
    obtain ⟨st, hst⟩ : ∃ st, is[i]? = some st := ⟨_, List.getElem?_eq_getElem hi⟩
    have hmem := List.mem_of_getElem? hst
    have ms : m1 st = none := by
      cases e : m1 st with
      | none => rfl
      | some o =>
        have y := (dm st).mp (by rw [e]; rfl)
        obtain ⟨j, hj, ej⟩ := List.getElem_of_mem y
        rw [List.length_take] at hj
        rw [List.getElem_take] at ej
        have := (List.getElem?_inj (i := j) (j := i) (by omega) nd).mp (by rw [hst, List.getElem?_eq_getElem (by omega), ej])
        omega
    have din : ∀ j, (m1 j).isSome = true → j ∈ is := fun j y => List.mem_of_mem_take ((dm j).mp y)
    refine .inr ⟨⟨_, .int st, sm.seq his, by rw [List.getElem?_map, hst]; rfl⟩, fun σ' H2 => ∃ k', k' < is.length - i ∧ ∃ (m1 m2 : Mp) (v3 : Option V), σ' = [some (.ref l), some (.ref m), some (.ref g.p), v3] ∧ JnG a.join H2 g ps m1 m2 (302 * (i + 1)) ∧ Mt ps m1 m2 ∧ (∀ j, (m1 j).isSome = true ↔ j ∈ is.take (i + 1)) ∧ Same H H2 ∧ i + 1 ≤ is.length ∧ k' = is.length - (i + 1), fun σ' H2 z => z, ?_⟩
    rintro x H2 ⟨rfl, hx⟩
    obtain rfl : x = .int st := by
      have := hx _ (sm.seq his)
      rw [List.getElem?_map, hst] at this
      exact (Option.some.inj this).symm
    obtain ⟨dx', ob⟩ := hG'.ob
    refine ⟨_, rfl, g.p, dx', _, rfl, ob, fl_admit _ _ _, _, rfl, g, ps, m1, m2, 302 * i, st, rfl, hG', by omega, h63, M, ms, fun c H3 S s3 => ⟨_, rfl, ?_⟩, fun n1 n2 H3 M' dm' hG3 fr3 => ⟨_, rfl, ?_⟩⟩
    · -- refused: a crowd
      have hG3 := hG'.same s3
      obtain ⟨dx3, ob3⟩ := hG3.ob
      refine ⟨_, rfl, g.p, dx3, _, rfl, ob3, fl_crowd _ _ _, _, rfl, g, ps, m1, m2, 302 * i, st, c, rfl, hG3, h63, S, fun c' L0 H4 S' s4 hL0 hL0' => ?_⟩
      have cl := crowd_len M ms S' hmem din
      refine ⟨L0, _, rfl, SqL.of hL0', by omega, fun L hL => ?_⟩
      have s5 : Same H H4 := (sm.trans s3).trans s4
      have s6 : Same H (upd H4 L (.lst ((srt (st :: cr m2 c')).map V.int))) := fun b u z => by rw [upd_ne (ne_of_none (s5 _ _ z) hL)]; exact s5 _ _ z
      refine ⟨by show 2 ≤ sizeLine; omega, fun T' hT => ?_⟩
      have nT : T' ≠ L := fun y => by rw [y, upd_same] at hT; cases hT
      exact qc m1 m2 st c' L T' _ M hmem ms din S' (fun b u z => by rw [upd_ne (ne_of_none (s6 _ _ z) hT)]; exact s6 _ _ z) (s5.free hL) (s6.free hT) nT (by rw [upd_ne (Ne.symm nT), upd_same]) upd_same
    · refine ⟨_, by omega, n1, n2, _, rfl, by rw [show 302 * (i + 1) = 302 * i + 302 by omega]; exact hG3, M', fun j => ?_, fun b u z => fr3 b u (sm _ _ z) (ne_of_none z hA0) (ne_of_none z hB0), by omega, rfl⟩
      rw [dm' j, dm j, List.take_add_one, hst, List.mem_append]
      exact ⟨fun z => z.imp id fun y => by rw [y]; exact List.mem_cons_self, fun z => z.imp id fun y => List.mem_singleton.mp y⟩
theorem pairs_of {F H : Hp} {l : Addr} {xs : List V} {ps : List (Int × Int)} (s : Same F H) (hl : F l = some (.lst xs)) (r : Reps K F (ps.map pairD) xs) : PairsAt K H l ps := by
  have go : ∀ {ps : List (Int × Int)} {xs : List V}, Reps K F (ps.map pairD) xs → ∃ ts : List Addr, xs = ts.map V.ref ∧ ts.length = ps.length ∧ ∀ (j : Nat) t p, ts[j]? = some t → ps[j]? = some p → F t = some (.tup [.int p.1, .int p.2]) := by
    intro ps
    induction ps with
    | nil => intro xs h; exact ⟨[], h, rfl, fun j t p e => by simp at e⟩
    | cons q ps ih =>
      rintro _ ⟨x, r, rfl, ⟨t, ys, rfl, hF, rs⟩, h⟩
      obtain ⟨ts, e1, e2, e3⟩ := ih h
      obtain ⟨_, _, rfl, r1, _, _, rfl, r2, r3⟩ := rs
      cases (show _ = [] from r3)
      cases (show _ = _ from r1)
      cases (show _ = _ from r2)
      refine ⟨t :: ts, by rw [e1]; rfl, by rw [List.length_cons, e2]; rfl, fun j t' p a1 a2 => ?_⟩
      cases j with
      | zero => cases Option.some.inj a1; cases Option.some.inj a2; exact hF
      | succ j => exact e3 j t' p a1 a2
  obtain ⟨ts, e1, e2, e3⟩ := go r
  subst e1
  exact ⟨ts, SqL.of (s _ _ hl), e2, fun j t p a1 a2 => s _ _ (e3 j t p a1 a2)⟩
theorem ok_filled (T : JTxt K mg a d) : FnOk P w K mg base (CXx P w) 4 a.filled d.filled ["pairs", "inlets"] (dSp K 2 fFilled) := (ok_filledR T).imp fun vs H Q E ⟨F, ds, Ex, Qd, hl, s, r, ex, h, fin⟩ => by
  obtain ⟨ps, is, rfl, h63, i62, nd, qc, qf⟩ := h
  obtain ⟨_, _, rfl, ⟨l, xs, rfl, hF, r1⟩, _, _, rfl, ⟨m, ys, rfl, hF2, r2⟩, r3⟩ := r
  cases (show _ = [] from r3)
  rw [Reps.ints_eq r2] at hF2
  have done : ∀ (x : Str) (ns : List Int) (L T' : Addr) (H' : Hp), Qd (.tup [.str x, .lst (ns.map D.int)]) → Same H H' → H L = none → H T' = none → H' L = some (.lst (ns.map V.int)) → H' T' = some (.tup [.str x, .ref L]) → Q (.ref T') H' := fun x ns L T' H' q s1 hL hT hL' hT' => by
    have gg : Grow F H (lays F H' [L, T']) H' := (Grow.still s s1).lays (fun b m => by
      rcases List.mem_cons.mp m with rfl | m
      · exact s.free hL
      · rw [List.mem_singleton.mp m]; exact s.free hT) (fun b m => by
      rcases List.mem_cons.mp m with rfl | m
      · exact hL
      · rw [List.mem_singleton.mp m]; exact hT)
    exact fin _ _ _ H' q gg ⟨T', _, rfl, by rw [lays_in (List.mem_cons_of_mem _ List.mem_cons_self)]; exact hT', Reps.cons rfl (Reps.cons ⟨L, _, rfl, by rw [lays_in List.mem_cons_self]; exact hL', Reps.ints _⟩ Reps.nil)⟩
  exact ⟨l, m, ps, is, rfl, pairs_of s hF r1, SqL.of (s _ _ hF2), h63, i62, nd, fun m1 m2 st c L T' H' M h1 h2 h3 S s1 hL hT _ hL' hT' => done _ _ L T' H' (qc m1 m2 st c M h1 h2 h3 S) s1 hL hT hL' hT', fun m1 m2 L T' H' M h1 s1 hL hT _ hL' hT' => done _ _ L T' H' (qf m1 m2 M h1) s1 hL hT hL' hT'⟩
end
end Jn
namespace L2
open PySem PySem.Spec PyProof.Rows
section
variable {X : Cx}
def rGetL (K : PySem.W.Frag) : V → V → Hp → VK → Prop := fun o i H Q => ∃ p xs, ∃ j : Nat, ∃ v, o = .ref p ∧ i = .int ((j : Nat) : Int) ∧ SqL K H p xs ∧ xs[j]? = some v ∧ Q v H
theorem get_list : PGet X (rGetL X.K) := by
  intro pins s σ H o i ov iv Q I ro ri h
  obtain ⟨p, xs, j, v, rfl, rfl, hq, hv, q⟩ := h
  cases ro
  obtain ⟨t, rfl⟩ := ri
  obtain ⟨its, r, pl, hz⟩ := I.list hq
  obtain ⟨w, ew, rw'⟩ := r.get hv
  have hsl := sizeLine_eq
  have hl := (List.getElem?_eq_some_iff.mp hv).1
  exact wpAny_getItem_list pl.isList (by omega) (by omega) (by simpa using ew) ⟨v, H, I, rw', q⟩
end
theorem comp_listT {K : PySem.W.Frag} {a : Addr} {xs : List V} {fv : List (Option V)} {nt : Nat} {g : TG} {tt : TT} {te : TE} {Q : VK} {H : Hp} {D : Addr} (Pv : Nat → Hp → Prop) (h0 : Pv 0 (upd H D (.lst []))) (hl : ∀ i H, i ≤ xs.length → Pv i H → SqL K H a xs)
    (hs : ∀ i x H (ts : List (Option V)), xs[i]? = some x → ts.length = nt → Pv i H → g x (ts ++ fv) H fun σ2 H2 => (∃ ts' : List (Option V), ts'.length = nt ∧ σ2 = ts' ++ fv) ∧ tt σ2 H2 fun ok H3 => if ok = true then te σ2 H3 fun y H4 => ∃ ys, H4 D = some (.lst ys) ∧ ys.length < sizeLine ∧ Pv (i + 1) (upd H4 D (.lst (ys ++ [y]))) else Pv (i + 1) H3)
    (hd : ∀ H, Pv xs.length H → Q (.ref D) H) : CompGT (Itl K a) fv nt g tt te Q H D := by
  refine ⟨fun i m H => m = xs.length - i ∧ i ≤ xs.length ∧ Pv i H, ⟨xs.length, by simp, Nat.zero_le _, h0⟩, ?_⟩
  rintro i m H ⟨rfl, hi, p⟩
  have q := hl i H hi p
  by_cases hlt : i < xs.length
  · refine .inr ⟨⟨xs, xs[i], q, by simp [hlt]⟩, Pv (i + 1), fun H' p' => ⟨xs.length - (i + 1), by omega, rfl, hlt, p'⟩, fun x H' ts ht y => ?_⟩
    obtain ⟨e, y⟩ := y
    subst e
    exact hs i x _ ts (y xs q) ht p
  · have e : i = xs.length := by omega
    subst e
    exact .inl ⟨⟨xs, q, Nat.le_refl _⟩, hd H p⟩
theorem tblR_set {a x : Addr} {as : List Addr} {rows : List (List Int)} {H : Hp} {k : Nat} (T : TblR a as rows H) (ek : as[k]? = some x) (ns : List Int) : TblR a as (rows.set k ns) (upd H x (.lst (ns.map V.int))) := by
  obtain ⟨r1, r2, r3, r4⟩ := T
  obtain ⟨n1, n2⟩ := List.nodup_cons.mp r4
  have mx := List.mem_of_getElem? ek
  have nax : a ≠ x := fun z => n1 (z ▸ mx)
  have hk : k < rows.length := by rw [← r2]; exact (List.getElem?_eq_some_iff.mp ek).1
  refine ⟨by rw [upd_ne nax]; exact r1, by rw [List.length_set]; exact r2, fun j y r ey er => ?_, r4⟩
  by_cases hjk : k = j
  · subst hjk
    rw [ek] at ey
    cases ey
    rw [List.getElem?_set_self hk] at er
    cases er
    exact upd_same
  · rw [List.getElem?_set_ne hjk] at er
    have nyx : y ≠ x := fun z => by
      subst z
      have h1 := List.pairwise_iff_getElem.mp n2
      obtain ⟨l3, e3⟩ := List.getElem?_eq_some_iff.mp ek
      obtain ⟨l4, e4⟩ := List.getElem?_eq_some_iff.mp ey
      rcases Nat.lt_trichotomy k j with z | z | z
      · exact h1 k j l3 l4 z (e3.trans e4.symm)
      · exact hjk z
      · exact h1 j k l4 l3 z (e4.trans e3.symm)
    rw [upd_ne nyx]
    exact r3 j y r ey er
end L2
namespace Tm
open PySem L2 Jn
def loneL (x : Int) (p m : Nat) : List Int := (List.range m).map fun k => if k = p then x else 0
theorem lone_len (x : Int) (p m : Nat) : (loneL x p m).length = m := by unfold loneL; simp
theorem lone_get (x : Int) (p m k : Nat) : (loneL x p m).getD k 0 = if k = p ∧ k < m then x else 0 := by
  unfold loneL
  rw [List.getD_eq_getElem?_getD, List.getElem?_map]
  by_cases h : k < m
  · rw [List.getElem?_range h]
    show (if k = p then x else 0) = _
    by_cases e : k = p
    · rw [if_pos e, if_pos ⟨e, h⟩]
    · rw [if_neg e, if_neg fun z => e z.1]
  · rw [List.getElem?_eq_none (by simp; omega), if_neg fun z => h z.2]
    rfl
def leftL (T : List (List Int)) : List (Int × Int) := (List.range T.length).flatMap fun i => ((List.range (T.getD i []).length).filter fun j => decide (0 < ent T i j)).map fun j => (((i : Nat) : Int), ((j : Nat) : Int))
theorem mem_left {T : List (List Int)} {p : Int × Int} : p ∈ leftL T ↔ ∃ i j : Nat, p = (((i : Nat) : Int), ((j : Nat) : Int)) ∧ i < T.length ∧ j < (T.getD i []).length ∧ 0 < ent T i j := by
  unfold leftL
  rw [List.mem_flatMap]
  constructor
  · rintro ⟨i, hi, hp⟩
    obtain ⟨j, hj, rfl⟩ := List.mem_map.mp hp
    obtain ⟨h1, h2⟩ := List.mem_filter.mp hj
    exact ⟨i, j, rfl, List.mem_range.mp hi, List.mem_range.mp h1, of_decide_eq_true h2⟩
  · rintro ⟨i, j, rfl, h1, h2, h3⟩
    exact ⟨i, List.mem_range.mpr h1, List.mem_map.mpr ⟨j, List.mem_filter.mpr ⟨List.mem_range.mpr h2, decide_eq_true h3⟩, rfl⟩⟩
theorem left_len {T : List (List Int)} (h1 : T.length ≤ 12) (h2 : ∀ r ∈ T, r.length ≤ 12) : (leftL T).length ≤ 144 := by
  unfold leftL
  have go : ∀ l : List Nat, (∀ i ∈ l, i < T.length) → (l.flatMap fun i => ((List.range (T.getD i []).length).filter fun j => decide (0 < ent T i j)).map fun j => (((i : Nat) : Int), ((j : Nat) : Int))).length ≤ 12 * l.length := by
    intro l
    induction l with
    | nil => intro _; exact Nat.le_refl _
    | cons i l ih =>
      intro h
      rw [List.flatMap_cons, List.length_append, List.length_map, List.length_cons]
      have a := List.length_filter_le (fun j => decide (0 < ent T i j)) (List.range (T.getD i []).length)
      rw [List.length_range] at a
      have b : (T.getD i []).length ≤ 12 := h2 _ (by
        rw [List.getD_eq_getElem?_getD, List.getElem?_eq_getElem (h i List.mem_cons_self)]
        exact List.getElem_mem _)
      have c := ih fun j hj => h j (List.mem_cons_of_mem _ hj)
      omega
  have := go (List.range T.length) fun i hi => List.mem_range.mp hi
  rw [List.length_range] at this
  omega
def fLone : DSp := fun ds _ Q => ∃ (x : Int) (p m : Nat), ds = [.int x, .int ((p : Nat) : Int), .int ((m : Nat) : Int)] ∧ m ≤ 100 ∧ Q (.lst ((loneL x p m).map D.int))
def fLeft : DSp := fun ds _ Q => ∃ T : List (List Int), ds = [.lst (T.map ordD)] ∧ T.length ≤ 12 ∧ (∀ r ∈ T, r.length ≤ 12) ∧ Q (.lst ((leftL T).map pairD))
def fIn : DSp := fun ds _ Q => ∃ (l : List (Int × Int)) (rows : List (List Int)) (c : Nat), ds = [.lst (l.map pairD), .lst (rows.map ordD)] ∧ OkTab rows c ∧ l.length ≤ 100 ∧ Q (.lst ((within rows.length c l).map pairD))
def fSpell : DSp := fun ds _ Q => ∃ (s : Spell) (R c : Nat), ds = [.tup [.int s.1, .lst (s.2.map pairD)], .int ((R : Nat) : Int), .int ((c : Nat) : Int)] ∧ SpOk R c s ∧ s.2.length ≤ 100 ∧ Q (.bl true)
def spellD (s : Spell) : D := .tup [.int s.1, .lst (s.2.map pairD)]
structure Times (rows : List (List Int)) (c : Nat) (m : Int) (sp : List Spell) : Prop where
  ok : ∀ s ∈ sp, SpOk rows.length c s
  sm : ls sp (·.1) = m
  cell : ∀ r, r < rows.length → ∀ q, q < c → ls sp (inS r q) = ent rows r q
  few : sp.length ≤ (rows.length + c) * (rows.length + c)
def fTime : DSp := fun ds _ Q => ∃ (rows : List (List Int)) (c : Nat), ds = [.lst (rows.map ordD)] ∧ OkTab rows c ∧ ∀ m sp, isMost (sumsT rows c) m → Times rows c m sp → Q (.lst (sp.map spellD))
def fEven : DSq := fun ds _ Q => ∃ (rows : List (List Int)) (c : Nat), ds = [.lst (rows.map ordD)] ∧ OkTab rows c ∧
  ∀ m T, isMost (sumsT rows c) m → T.length = rows.length + c → (∀ r ∈ T, r.length = rows.length + c) → (∀ i, i < rows.length + c → ∀ j, j < rows.length + c → ent T i j = EvM rows c m i j) → Q T
def spOff (K : PySem.W.Frag) : Sp := fun vs H Q _ => ∃ (R p : Addr) (bs ts : List Addr) (T : List (List Int)) (cf : Nat → Nat) (n : Nat), vs = [.ref R, .ref p] ∧ TblR R bs T H ∧ 0 < n ∧ n ≤ 12 ∧ T.length = n ∧ (∀ r ∈ T, r.length = n) ∧ (∀ i, i < n → cf i < n) ∧
  H p = some (.lst (ts.map V.ref)) ∧ ts.length = n ∧ (∀ (j : Nat) t, ts[j]? = some t → H t = some (.tup [.int ((j : Nat) : Int), .int ((cf j : Nat) : Int)])) ∧ p ∉ R :: bs ∧
  ∀ len i0 T' H', i0 < n → ent T i0 (cf i0) = len → (∀ i, i < n → len ≤ ent T i (cf i)) → T'.length = n → (∀ r ∈ T', r.length = n) → (∀ i, i < n → ∀ j, j < n → ent T' i j = if j = cf i then ent T i j - len else ent T i j) → TblR R bs T' H' → (∀ b u, H b = some u → b ∉ R :: bs → H' b = some u) → Q (.int len) H'
theorem dcall {K : PySem.W.Frag} {f : DSp} {n : Nat} {vs : List V} {H : Hp} {Q : VK} {E : XK} {Qd : D → Prop} (ds : List D) (hl : ds.length = n) (r : Reps K H ds vs) (h : f ds (fun _ => False) Qd) (q : ∀ d v F' H', Qd d → Same H H' → Same F' H' → Rep K F' d v → (∀ b, H b = none → F' b ≠ none → H b = none) → Q v H') : dSp K n f vs H Q E :=
  ⟨H, ds, fun _ => False, Qd, hl, Same.refl _, r, (fun C z => z.elim), h, fun d v F' H' qd g rp => q d v F' H' qd g.hh g.sub rp (fun b z _ => z)⟩
def evT (rows : List (List Int)) (c : Nat) (m : Int) : List (List Int) := ((List.range rows.length).map fun i => rows.getD i [] ++ loneL (m - (rows.getD i []).sum) i rows.length) ++ (List.range c).map fun k => loneL (m - (colAt rows k).sum) k c ++ colAt rows k
theorem evT_len (rows : List (List Int)) (c : Nat) (m : Int) : (evT rows c m).length = rows.length + c := by unfold evT; simp
theorem evT_rows {rows : List (List Int)} {c : Nat} (m : Int) (ok : OkTab rows c) : ∀ r ∈ evT rows c m, r.length = rows.length + c := fun r hr => by
  unfold evT at hr
  rcases List.mem_append.mp hr with h | h
  · obtain ⟨i, hi, rfl⟩ := List.mem_map.mp h
    rw [List.length_append, lone_len, (row_len ok (List.mem_range.mp hi)).1]
    omega
  · obtain ⟨k, _, rfl⟩ := List.mem_map.mp h
    rw [List.length_append, lone_len]
    unfold colAt
    rw [List.length_map]
    omega
theorem evT_ent {rows : List (List Int)} {c : Nat} (m : Int) (ok : OkTab rows c) : ∀ i, i < rows.length + c → ∀ j, j < rows.length + c → ent (evT rows c m) i j = EvM rows c m i j := fun i hi j hj => by
  have gapp : ∀ (a b : List Int) (j : Nat), (a ++ b).getD j 0 = if j < a.length then a.getD j 0 else b.getD (j - a.length) 0 := fun a b j => by
    rw [List.getD_eq_getElem?_getD]
    by_cases h : j < a.length
    · rw [List.getElem?_append_left h, if_pos h, List.getD_eq_getElem?_getD]
    · rw [List.getElem?_append_right (by omega), if_neg h, List.getD_eq_getElem?_getD]
  unfold EvM
  by_cases h : i < rows.length
  · have e : (evT rows c m).getD i [] = rows.getD i [] ++ loneL (m - (rows.getD i []).sum) i rows.length := by
      unfold evT
      rw [List.getD_eq_getElem?_getD, List.getElem?_append_left (by simp; exact h), List.getElem?_map, List.getElem?_range h]
      rfl
    rw [if_pos h]
    show ((evT rows c m).getD i []).getD j 0 = _
    rw [e, gapp, (row_len ok h).1]
    by_cases hj' : j < c
    · rw [if_pos hj', if_pos hj']
      rfl
    · rw [if_neg hj', if_neg hj', lone_get]
      by_cases e2 : j - c = i
      · rw [if_pos ⟨e2, by omega⟩, if_pos e2]
      · rw [if_neg fun z => e2 z.1, if_neg e2]
  · have e : (evT rows c m).getD i [] = loneL (m - (colAt rows (i - rows.length)).sum) (i - rows.length) c ++ colAt rows (i - rows.length) := by
      unfold evT
      rw [List.getD_eq_getElem?_getD, List.getElem?_append_right (by simp; omega), List.length_map, List.length_range, List.getElem?_map, List.getElem?_range (by omega)]
      rfl
    rw [if_neg h]
    show ((evT rows c m).getD i []).getD j 0 = _
    rw [e, gapp, lone_len]
    by_cases hj' : j < c
    · rw [if_pos hj', if_pos hj', lone_get]
      by_cases e2 : j = i - rows.length
      · rw [if_pos ⟨e2, hj'⟩, if_pos e2]
      · rw [if_neg fun z => e2 z.1, if_neg e2]
    · rw [if_neg hj', if_neg hj']
      unfold colAt ent
      rw [List.getD_eq_getElem?_getD, List.getElem?_map, List.getD_eq_getElem?_getD (l := rows), List.getElem?_eq_getElem (show j - c < rows.length by omega)]
      rfl
def offT (T : List (List Int)) (cf : Nat → Nat) (len : Int) : Nat → List (List Int)
  | 0 => T
  | i + 1 => (offT T cf len i).set i (((offT T cf len i).getD i []).set (cf i) (ent (offT T cf len i) i (cf i) - len))
theorem off_len (T : List (List Int)) (cf : Nat → Nat) (len : Int) : ∀ i, (offT T cf len i).length = T.length
  | 0 => rfl
  | i + 1 => by
    show ((offT T cf len i).set i _).length = _
    rw [List.length_set]
    exact off_len T cf len i
theorem getD_mem {T : List (List Int)} {i : Nat} (h : i < T.length) : T.getD i [] ∈ T := by
  rw [List.getD_eq_getElem?_getD, List.getElem?_eq_getElem h]
  exact List.getElem_mem h
theorem off_rows {T : List (List Int)} {cf : Nat → Nat} {len : Int} {n : Nat} (tl : T.length = n) (rl : ∀ r ∈ T, r.length = n) : ∀ i, i ≤ n → ∀ r ∈ offT T cf len i, r.length = n
  | 0, _ => rl
  | i + 1, hi => fun r hr => by
    have ih := off_rows (cf := cf) (len := len) tl rl i (by omega)
    have hr : r ∈ (offT T cf len i).set i (((offT T cf len i).getD i []).set (cf i) (ent (offT T cf len i) i (cf i) - len)) := hr
    rcases List.mem_or_eq_of_mem_set hr with h | h
    · exact ih r h
    · rw [h, List.length_set]
      exact ih _ (getD_mem (by rw [off_len]; omega))
theorem ent_set {T : List (List Int)} {i a b q : Nat} {x : Int} (hi : i < T.length) (hq : q < (T.getD i []).length) : ent (T.set i ((T.getD i []).set q x)) a b = if a = i ∧ b = q then x else ent T a b := by
  unfold ent
  by_cases h : a = i
  · subst h
    have e : (T.set a ((T.getD a []).set q x)).getD a [] = (T.getD a []).set q x := by
      rw [List.getD_eq_getElem?_getD, List.getElem?_set_self hi]
      rfl
    rw [e]
    by_cases hb : b = q
    · subst hb
      rw [if_pos ⟨rfl, rfl⟩, List.getD_eq_getElem?_getD, List.getElem?_set_self hq]
      rfl
    · rw [if_neg fun z => hb z.2, List.getD_eq_getElem?_getD, List.getElem?_set_ne (Ne.symm hb), List.getD_eq_getElem?_getD (l := T.getD a [])]
  · rw [if_neg fun z => h z.1]
    have e : (T.set i ((T.getD i []).set q x)).getD a [] = T.getD a [] := by
      rw [List.getD_eq_getElem?_getD, List.getElem?_set_ne (Ne.symm h), List.getD_eq_getElem?_getD]
    rw [e]
theorem off_ent {T : List (List Int)} {cf : Nat → Nat} {len : Int} {n : Nat} (tl : T.length = n) (rl : ∀ r ∈ T, r.length = n) (ci : ∀ i, i < n → cf i < n) : ∀ i, i ≤ n → ∀ a b, ent (offT T cf len i) a b = if a < i ∧ b = cf a then ent T a b - len else ent T a b
  | 0, _, a, b => by rw [if_neg (by omega)]; rfl
  | i + 1, hi, a, b => by
    have ih := off_ent (len := len) tl rl ci i (by omega)
    show ent ((offT T cf len i).set i (((offT T cf len i).getD i []).set (cf i) (ent (offT T cf len i) i (cf i) - len))) a b = _
    have l1 : i < (offT T cf len i).length := by rw [off_len]; omega
    rw [ent_set l1 (by rw [off_rows tl rl i (by omega) _ (getD_mem l1)]; exact ci i (by omega)), ih a b, ih i (cf i)]
    by_cases h : a = i
    · subst h
      by_cases hb : b = cf a
      · rw [if_pos ⟨rfl, hb⟩, if_neg (by omega), if_pos ⟨by omega, hb⟩, hb]
      · rw [if_neg fun z => hb z.2, if_neg fun z => hb z.2, if_neg fun z => hb z.2]
    · rw [if_neg fun z => h z.1]
      by_cases h2 : a < i ∧ b = cf a
      · rw [if_pos h2, if_pos ⟨by omega, h2.2⟩]
      · rw [if_neg h2, if_neg fun z => h2 ⟨by omega, z.2⟩]
theorem no_crowd {T : List (List Int)} {n : Nat} {left : Int} {m1 m2 : Mp} {st : Int} {c : List (Int × Int)} (tl : T.length = n) (rl : ∀ r ∈ T, r.length = n) (E : Ev n (ent T) left) (hl : 0 < left) (M : Mt (leftL T) m1 m2) (hst : ∃ k : Nat, st = ((k : Nat) : Int) ∧ k < n) (ms : m1 st = none) (S : Shut (leftL T) m2 st c) : False := by
  have inr : ∀ {i o : Int}, (i, o) ∈ leftL T → ∃ a b : Nat, i = ((a : Nat) : Int) ∧ o = ((b : Nat) : Int) ∧ a < n ∧ b < n ∧ 0 < ent T a b := fun {i o} h => by
    obtain ⟨a, b, e, h1, h2, h3⟩ := mem_left.mp h
    have m : T.getD a [] ∈ T := by rw [List.getD_eq_getElem?_getD, List.getElem?_eq_getElem h1]; exact List.getElem_mem h1
    rw [rl _ m] at h2
    exact ⟨a, b, (Prod.mk.inj e).1, (Prod.mk.inj e).2, by omega, h2, h3⟩
  have sIn : ∀ x ∈ st :: cr m2 c, ∃ k : Nat, x = ((k : Nat) : Int) ∧ k < n := fun x hx => by
    rcases crowd_in M S x hx with rfl | h
    · exact hst
    · obtain ⟨o, ho⟩ := Option.isSome_iff_exists.mp h
      obtain ⟨a, b, e1, _, h1, _⟩ := inr (M.pr x o ho)
      exact ⟨a, e1, h1⟩
  have tIn : ∀ o ∈ c.map (·.1), ∃ k : Nat, o = ((k : Nat) : Int) ∧ k < n := fun o ho => by
    obtain ⟨x, hx, rfl⟩ := List.mem_map.mp ho
    obtain ⟨k, hk, e⟩ := List.getElem_of_mem hx
    obtain ⟨p, _⟩ := S.came.by_ k x.1 x.2 (by rw [List.getElem?_eq_getElem hk, e])
    obtain ⟨a, b, _, e2, _, h2, _⟩ := inr p
    exact ⟨b, e2, h2⟩
  have ndm : ∀ l : List Int, l.Nodup → (∀ x ∈ l, ∃ k : Nat, x = ((k : Nat) : Int) ∧ k < n) → (l.map Int.toNat).Nodup := fun l nd h => by
    rw [List.nodup_iff_pairwise_ne] at nd ⊢
    rw [List.pairwise_map]
    refine List.Pairwise.imp_of_mem (fun {x y} hx hy ne e => ne ?_) nd
    obtain ⟨a, rfl, _⟩ := h x hx
    obtain ⟨b, rfl, _⟩ := h y hy
    rw [Int.toNat_natCast, Int.toNat_natCast] at e
    rw [e]
  have lt : ∀ l : List Int, (∀ x ∈ l, ∃ k : Nat, x = ((k : Nat) : Int) ∧ k < n) → ∀ j ∈ l.map Int.toNat, j < n := fun l h j hj => by
    obtain ⟨x, hx, rfl⟩ := List.mem_map.mp hj
    obtain ⟨a, rfl, ha⟩ := h x hx
    rw [Int.toNat_natCast]
    exact ha
  have z := E.no_crowd hl (ndm _ (crowd_nd M ms S) sIn) (lt _ sIn) (ndm _ S.came.nd tIn) (lt _ tIn) fun i hi j hj pos => by
    obtain ⟨x, hx, rfl⟩ := List.mem_map.mp hi
    obtain ⟨a, rfl, ha⟩ := sIn x hx
    rw [Int.toNat_natCast] at pos
    have m : T.getD a [] ∈ T := by rw [List.getD_eq_getElem?_getD, List.getElem?_eq_getElem (by omega)]; exact List.getElem_mem _
    have o := crowd_outs S _ hx ((j : Nat) : Int) (mem_left.mpr ⟨a, j, rfl, by omega, by rw [rl _ m]; exact hj, pos⟩)
    exact List.mem_map.mpr ⟨_, o, Int.toNat_natCast j⟩
  rw [List.length_map, List.length_map, List.length_map, List.length_cons] at z
  unfold cr at z
  rw [List.length_map] at z
  omega
theorem joined {T : List (List Int)} {n : Nat} {m1 m2 : Mp} (tl : T.length = n) (rl : ∀ r ∈ T, r.length = n) (M : Mt (leftL T) m1 m2) (all : ∀ i : Nat, i < n → (m1 ((i : Nat) : Int)).isSome = true) :
    ∃ cf : Nat → Nat, (∀ i, i < n → m1 ((i : Nat) : Int) = some ((cf i : Nat) : Int)) ∧ (∀ i, i < n → cf i < n) ∧ (∀ i, i < n → ∀ j, j < n → cf i = cf j → i = j) ∧ ∀ i, i < n → 0 < ent T i (cf i) := by
  have key : ∀ i : Nat, i < n → ∃ b : Nat, m1 ((i : Nat) : Int) = some ((b : Nat) : Int) ∧ b < n ∧ 0 < ent T i b := fun i hi => by
    obtain ⟨o, ho⟩ := Option.isSome_iff_exists.mp (all i hi)
    obtain ⟨a, b, e, h1, h2, h3⟩ := mem_left.mp (M.pr _ _ ho)
    have m : T.getD a [] ∈ T := by rw [List.getD_eq_getElem?_getD, List.getElem?_eq_getElem h1]; exact List.getElem_mem h1
    rw [rl _ m] at h2
    have ea : a = i := by have := (Prod.mk.inj e).1; omega
    subst ea
    exact ⟨b, by rw [ho, (Prod.mk.inj e).2], h2, h3⟩
  refine ⟨fun i => ((m1 ((i : Nat) : Int)).getD 0).toNat, fun i hi => ?_, fun i hi => ?_, fun i hi j hj e => ?_, fun i hi => ?_⟩
  · obtain ⟨b, e, _⟩ := key i hi
    show m1 ((i : Nat) : Int) = some ((((m1 ((i : Nat) : Int)).getD 0).toNat : Nat) : Int)
    rw [e]
    rfl
  · obtain ⟨b, e, h, _⟩ := key i hi
    show ((m1 ((i : Nat) : Int)).getD 0).toNat < n
    rw [e]
    exact (Int.toNat_natCast b).symm ▸ h
  · obtain ⟨b, e1, _⟩ := key i hi
    obtain ⟨b', e2, _⟩ := key j hj
    have e : ((m1 ((i : Nat) : Int)).getD 0).toNat = ((m1 ((j : Nat) : Int)).getD 0).toNat := e
    rw [e1, e2] at e
    have e : (((b : Nat) : Int)).toNat = (((b' : Nat) : Int)).toNat := e
    rw [Int.toNat_natCast, Int.toNat_natCast] at e
    subst e
    have x := M.to _ _ e1
    have y := M.to _ _ e2
    rw [x] at y
    have := Option.some.inj y
    omega
  · obtain ⟨b, e, _, h⟩ := key i hi
    show 0 < ent T i ((m1 ((i : Nat) : Int)).getD 0).toNat
    rw [e]
    exact (Int.toNat_natCast b).symm ▸ h
end Tm
set_option maxHeartbeats 4000000
namespace Ka09
open PySem L2
def top (i : Nat) : Stmt := PySem.Challenge.pw_switchhall_k09_whole_timetables.main.body.getD i (.Pass ⟨0, 0, 0, 0⟩)
abbrev s_whole : Stmt := top 4
abbrev s_win : Stmt := top 5
abbrev s_within : Stmt := top 6
abbrev s_crow : Stmt := top 14
abbrev s_chkt : Stmt := top 15
abbrev s_colat : Stmt := top 16
abbrev s_colsof : Stmt := top 17
abbrev s_great : Stmt := top 18
abbrev s_lone : Stmt := top 19
abbrev s_even : Stmt := top 20
abbrev s_pleft : Stmt := top 21
abbrev s_off : Stmt := top 22
abbrev s_pin : Stmt := top 23
abbrev s_time : Stmt := top 24
abbrev s_cell : Stmt := top 26
abbrev s_mix : Stmt := top 27
abbrev s_lwhole : Stmt := top 28
abbrev s_ltab : Stmt := top 29
abbrev s_spell : Stmt := top 30
abbrev s_law : Stmt := top 31
set_option genInjectivity false in
set_option genSizeOf false in
structure Ad where
  (whole win within crow chkt colat colsof great lone even pleft off pin time cell mix lwhole ltab spell law bad sw choices filled init admit search shift crowd join : Addr)
set_option genInjectivity false in
set_option genSizeOf false in
structure Fd where
  (whole win within crow chkt colat colsof great lone even pleft off pin time cell mix lwhole ltab spell law choices filled init admit search shift crowd : FuncData)
structure Txt (K : PySem.W.Frag) (mg : Str → Option Value) (a : Ad) (d : Fd) : Prop where
  bool_ : mg "bool" = none
  enum_ : mg "enumerate" = none
  int_ : mg "int" = none
  isi : mg "isinstance" = none
  len : mg "len" = none
  list_ : mg "list" = none
  max_ : mg "max" = none
  min_ : mg "min" = none
  range : mg "range" = none
  set_ : mg "set" = none
  sum_ : mg "sum" = none
  tuple_ : mg "tuple" = none
  ends : ∃ t, mg "MOST_ENDS" = some (.int 6 t)
  number : ∃ t, mg "MOST_NUMBER" = some (.int 99 t)
  g_whole : mg "is_whole" = some (.ref a.whole)
  g_win : mg "is_whole_within" = some (.ref a.win)
  g_within : mg "is_list_within" = some (.ref a.within)
  g_crow : mg "check_row" = some (.ref a.crow)
  g_chkt : mg "checked_table" = some (.ref a.chkt)
  g_colat : mg "column_at" = some (.ref a.colat)
  g_colsof : mg "columns_of" = some (.ref a.colsof)
  g_great : mg "greatest_sum" = some (.ref a.great)
  g_lone : mg "lone" = some (.ref a.lone)
  g_even : mg "evened" = some (.ref a.even)
  g_pleft : mg "pairs_left" = some (.ref a.pleft)
  g_off : mg "taken_off" = some (.ref a.off)
  g_pin : mg "pairs_within" = some (.ref a.pin)
  g_time : mg "timetable" = some (.ref a.time)
  g_cell : mg "_law_cell" = some (.ref a.cell)
  g_mix : mg "_law_mix" = some (.ref a.mix)
  g_lwhole : mg "_law_whole" = some (.ref a.lwhole)
  g_ltab : mg "_law_table" = some (.ref a.ltab)
  g_spell : mg "_law_spell" = some (.ref a.spell)
  g_bad : mg "BadTable" = some (.ref a.bad)
  g_sw : mg "SwitchError" = some (.ref a.sw)
  f_whole : Fun K "is_whole" "is_whole" s_whole a.whole d.whole
  b_whole : Binds K d.whole ["value"] []
  f_win : Fun K "is_whole_within" "is_whole_within" s_win a.win d.win
  b_win : Binds K d.win ["value", "least", "most"] []
  f_within : Fun K "is_list_within" "is_list_within" s_within a.within d.within
  b_within : Binds K d.within ["value", "least", "most"] []
  f_crow : Fun K "check_row" "check_row" s_crow a.crow d.crow
  b_crow : Binds K d.crow ["row"] []
  f_chkt : Fun K "checked_table" "checked_table" s_chkt a.chkt d.chkt
  b_chkt : Binds K d.chkt ["table"] []
  f_colat : Fun K "column_at" "column_at" s_colat a.colat d.colat
  b_colat : Binds K d.colat ["table", "place"] []
  f_colsof : Fun K "columns_of" "columns_of" s_colsof a.colsof d.colsof
  b_colsof : Binds K d.colsof ["table"] []
  f_great : Fun K "greatest_sum" "greatest_sum" s_great a.great d.great
  b_great : Binds K d.great ["table"] []
  f_lone : Fun K "lone" "lone" s_lone a.lone d.lone
  b_lone : Binds K d.lone ["number", "place", "many"] []
  f_even : Fun K "evened" "evened" s_even a.even d.even
  b_even : Binds K d.even ["table"] []
  f_pleft : Fun K "pairs_left" "pairs_left" s_pleft a.pleft d.pleft
  b_pleft : Binds K d.pleft ["rest"] []
  f_off : Fun K "taken_off" "taken_off" s_off a.off d.off
  b_off : Binds K d.off ["rest", "pairs"] []
  f_pin : Fun K "pairs_within" "pairs_within" s_pin a.pin d.pin
  b_pin : Binds K d.pin ["pairs", "table"] []
  f_time : Fun K "timetable" "timetable" s_time a.time d.time
  b_time : Binds K d.time ["table"] []
  f_cell : Fun K "_law_cell" "_law_cell" s_cell a.cell d.cell
  b_cell : Binds K d.cell ["_law_script", "_law_k"] []
  f_mix : Fun K "_law_mix" "_law_mix" s_mix a.mix d.mix
  b_mix : Binds K d.mix ["_law_cell_here", "_law_prime", "_law_many"] []
  f_lwhole : Fun K "_law_whole" "_law_whole" s_lwhole a.lwhole d.lwhole
  b_lwhole : Binds K d.lwhole ["_law_found"] []
  f_ltab : Fun K "_law_table" "_law_table" s_ltab a.ltab d.ltab
  b_ltab : Binds K d.ltab ["_law_script"] []
  f_spell : Fun K "_law_spell" "_law_spell" s_spell a.spell d.spell
  b_spell : Binds K d.spell ["_law_one", "_law_rows", "_law_columns"] []
  f_law : Fun K "law" "law" s_law a.law d.law
  b_law : Binds K d.law ["_law_script"] []
  x_bad : Exc K a.bad
  sorted_ : mg "sorted" = none
  g_choices : mg "choices_by_inlet" = some (.ref a.choices)
  g_filled : mg "filled" = some (.ref a.filled)
  g_join : mg "Joining" = some (.ref a.join)
  f_choices : Fun K "choices_by_inlet" "choices_by_inlet" Jn.sChoices a.choices d.choices
  f_filled : Fun K "filled" "filled" Jn.sFilled a.filled d.filled
  f_init : Fun K "__init__" "Joining.__init__" Jn.sInit a.init d.init
  f_admit : Fun K "admit" "Joining.admit" Jn.sAdmit a.admit d.admit
  f_search : Fun K "search" "Joining.search" Jn.sSearch a.search d.search
  f_shift : Fun K "shift" "Joining.shift" Jn.sShift a.shift d.shift
  f_crowd : Fun K "crowd_round" "Joining.crowd_round" Jn.sCrowd a.crowd d.crowd
  b_choices : Binds K d.choices ["pairs"] []
  b_filled : Binds K d.filled ["pairs", "inlets"] []
  b_init : Binds K d.init ["self", "pairs"] []
  b_admit : Binds K d.admit ["self", "inlet"] []
  b_search : Binds K d.search ["self", "inlet"] []
  b_shift : Binds K d.shift ["self", "free", "came_by"] []
  b_crowd : Binds K d.crowd ["self", "inlet"] []
  cls : Cls K a.join
  nC : NoAttr K a.join "choices"
  nA : NoAttr K a.join "outlet_by_inlet"
  nB : NoAttr K a.join "inlet_by_outlet"
  mkH : Mk K a.join a.init
  m_admit : Meth K a.join "admit" a.admit
  m_search : Meth K a.join "search" a.search
  m_shift : Meth K a.join "shift" a.shift
  m_crowd : Meth K a.join "crowd_round" a.crowd
def Ad.h (a : Ad) : Jn.Ad := { choices := a.choices, filled := a.filled, init := a.init, admit := a.admit, search := a.search, shift := a.shift, crowd := a.crowd, join := a.join }
def Fd.h (d : Fd) : Jn.Fd := { choices := d.choices, filled := d.filled, init := d.init, admit := d.admit, search := d.search, shift := d.shift, crowd := d.crowd }
theorem Txt.h {K : PySem.W.Frag} {mg : Str → Option Value} {a : Ad} {d : Fd} (T : Txt K mg a d) : Jn.JTxt K mg a.h d.h := { sorted_ := T.sorted_, g_choices := T.g_choices, g_filled := T.g_filled, g_join := T.g_join, f_choices := T.f_choices, f_filled := T.f_filled, f_init := T.f_init, f_admit := T.f_admit, f_search := T.f_search, f_shift := T.f_shift, f_crowd := T.f_crowd, b_choices := T.b_choices, b_filled := T.b_filled, b_init := T.b_init, b_admit := T.b_admit, b_search := T.b_search, b_shift := T.b_shift, b_crowd := T.b_crowd, cls := T.cls, nC := T.nC, nA := T.nA, nB := T.nB, mkH := T.mkH, m_admit := T.m_admit, m_search := T.m_search, m_shift := T.m_shift, m_crowd := T.m_crowd }
section
variable {P : Program} {w : World} {K : PySem.W.Frag} {mg : Str → Option Value} {base : Heap} {a : Ad} {d : Fd}
theorem S_whole : FnScope ["value"] ["value"] (defScope s_whole) := ⟨rfl, rfl, rfl, by decide +kernel, rfl, by decide +kernel, by decide +kernel⟩
theorem ok_whole (T : Txt K mg a d) : FnOk P w K mg base (CXx P w) 1 a.whole d.whole ["value"] (dSp K 1 (fWhole)) := by
  refine dfn T.f_whole S_whole (fun cdv A outer s H E b hr => ?_)
  have S := S_whole
  refine ⟨_, (dss_one (ds_ret (de_and (de_isi .int rfl rfl T.isi rfl T.int_ (dv 0)) (de_one (de_not (de_isi .bool rfl rfl T.isi rfl T.bool_ (dv 0))))))), fun ds Ex Q hl h => ?_⟩
  obtain ⟨v, rfl, hn, q⟩ := h
  cases v <;> first | exact absurd (show false = true from hn) Bool.false_ne_true | exact q
theorem S_win : FnScope ["value", "least", "most"] ["value", "least", "most"] (defScope s_win) := ⟨rfl, rfl, rfl, by decide +kernel, rfl, by decide +kernel, by decide +kernel⟩
theorem ok_win (T : Txt K mg a d) : FnOk P w K mg base (CXx P w) 2 a.win d.win ["value", "least", "most"] (dSp K 3 (fWIn)) := by
  have G_whole : FnOk P w K mg base (CXx P w) 1 a.whole d.whole ["value"] (dSp K 1 (fWhole)) := ok_whole T
  refine dfn T.f_win S_win (fun cdv A outer s H E b hr => ?_)
  have S := S_win
  refine ⟨_, (dss_one (ds_ret (de_and (de_call G_whole (hr.mono (by first | decide | omega)) rfl T.g_whole T.f_whole.kp T.b_whole b.pass_ (da_cons (dv 0) da_nil)) (de_one (de_lele (dv 1) (dv 0) (dv 2)))))), fun ds Ex Q hl h => ?_⟩
  obtain ⟨v, lo, hi, rfl, hn, q⟩ := h
  cases v with
  | int i =>
    refine ⟨rfl, .int i, rfl, rfl, ?_⟩
    show if decide (lo ≤ i) = true then Q (.bl (decide (i ≤ hi))) else Q (.bl false)
    have q : Q (.bl (decide (lo ≤ i) && decide (i ≤ hi))) := q
    refine ite2 (fun z => ?_) (fun z => ?_)
    · rw [z, Bool.true_and] at q
      exact q
    · rw [Bool.eq_false_iff.mpr z, Bool.false_and] at q
      exact q
  | scr _ => exact absurd (show false = true from hn) Bool.false_ne_true
  | kt _ => exact absurd (show false = true from hn) Bool.false_ne_true
  | dtt _ _ => exact absurd (show false = true from hn) Bool.false_ne_true
  | _ => exact ⟨rfl, _, rfl, rfl, q⟩
theorem S_within : FnScope ["value", "least", "most"] ["value", "least", "most"] (defScope s_within) := ⟨rfl, rfl, rfl, by decide +kernel, rfl, by decide +kernel, by decide +kernel⟩
theorem ok_within (T : Txt K mg a d) : FnOk P w K mg base (CXx P w) 1 a.within d.within ["value", "least", "most"] (dSp K 3 (fListW)) := by
  refine dfn T.f_within S_within (fun cdv A outer s H E b hr => ?_)
  have S := S_within
  refine ⟨_, (dss_one (ds_ret (de_and (de_isi .list rfl rfl T.isi rfl T.list_ (dv 0)) (de_one (de_lele (dv 1) (de_len rfl T.len (da_cons (dv 0) da_nil)) (dv 2)))))), fun ds Ex Q hl h => ?_⟩
  obtain ⟨v, lo, hi, rfl, hn, q⟩ := h
  cases v with
  | lst xs =>
    show if decide (lo ≤ ((xs.length : Nat) : Int)) = true then Q (.bl (decide (((xs.length : Nat) : Int) ≤ hi))) else Q (.bl false)
    have q : Q (.bl (decide (lo ≤ ((xs.length : Nat) : Int)) && decide (((xs.length : Nat) : Int) ≤ hi))) := q
    refine ite2 (fun z => ?_) (fun z => ?_)
    · rw [z, Bool.true_and] at q
      exact q
    · rw [Bool.eq_false_iff.mpr z, Bool.false_and] at q
      exact q
  | scr _ => exact absurd (show false = true from hn) Bool.false_ne_true
  | kt _ => exact absurd (show false = true from hn) Bool.false_ne_true
  | dtt _ _ => exact absurd (show false = true from hn) Bool.false_ne_true
  | _ => exact q
theorem S_crow : FnScope ["row", "number"] ["row"] (defScope s_crow) := ⟨rfl, rfl, rfl, by decide +kernel, rfl, by decide +kernel, by decide +kernel⟩
theorem ok_crow (T : Txt K mg a d) : FnOk P w K mg base (CXx P w) 3 a.crow d.crow ["row"] (dSp K 1 (fCkRow a.bad)) := by
  have G_within : FnOk P w K mg base (CXx P w) 1 a.within d.within ["value", "least", "most"] (dSp K 3 (fListW)) := ok_within T
  have G_win : FnOk P w K mg base (CXx P w) 2 a.win d.win ["value", "least", "most"] (dSp K 3 (fWIn)) := ok_win T
  refine dfn T.f_crow S_crow (fun cdv A outer s H E b hr => ?_)
  have S := S_crow
  refine ⟨_, (dss_cons (ds_if (dt_not (dt_val (de_call G_within (hr.mono (by first | decide | omega)) rfl T.g_within T.f_within.kp T.b_within b.pass_ (da_cons (dv 0) (da_cons de_int (da_cons (de_gint rfl T.ends) da_nil)))))) (dss_one (ds_raise b rfl rfl T.g_bad T.x_bad (da_cons de_str da_nil))) dss_nil) (dss_one (ds_loop b (ds_for (loop_passes b) rfl (di_list (dv 0)) (dg_name (i := 1) S.nd rfl (Or.inl rfl)) (dss_one (ds_if (dt_not (dt_val (de_call G_win (hr.mono (by first | decide | omega)) rfl T.g_win T.f_win.kp T.b_win (loop_pass b) (da_cons (dv 1) (da_cons de_int (da_cons (de_gint rfl T.number) da_nil)))))) (dss_one (ds_raiseL b rfl rfl T.g_bad T.x_bad (da_cons de_str da_nil))) dss_nil)))))), fun ds Ex Q hl h => ?_⟩
  obtain ⟨v, rfl, hn, hq, hx⟩ := h
  have hn' := hn
  unfold allNsc at hn'
  rw [Bool.and_eq_true] at hn'
  obtain ⟨n1, n2⟩ := hn'
  have hsl : sizeLine = 16777216 := sizeLine_eq
  refine ⟨rfl, v, 1, 6, rfl, n1, ?_⟩
  show if (!lstIn v 1 6) = true then (1 ≤ sizeLine ∧ Ex a.bad) else _
  refine ite2 (fun z => ⟨by omega, hx ?_⟩) (fun z => ?_)
  · unfold okRow
    cases e : lstIn v 1 6 with
    | true => rw [e] at z; cases z
    | false => rfl
  · have z : lstIn v 1 6 = true := by
      cases h : lstIn v 1 6
      · rw [h] at z; exact absurd rfl z
      · rfl
    cases v with
    | lst xs =>
      have hnx : ∀ y ∈ xs, nsc y = true := List.all_eq_true.mp n2
      refine ⟨fun k env => (∃ s, env = [.sh (.lst xs), s]) ∧ ∀ y ∈ xs.take k, whIn y 0 99 = true, ⟨⟨_, rfl⟩, fun y hy => by simp at hy⟩, ?_, ?_⟩
      · rintro k y env hy ⟨⟨s, rfl⟩, hk⟩
        refine ⟨rfl, y, 0, 99, rfl, hnx y (List.mem_of_getElem? hy), ?_⟩
        show if (!whIn y 0 99) = true then (1 ≤ sizeLine ∧ Ex a.bad) else _
        refine ite2 (fun w => ⟨by omega, hx ?_⟩) (fun w => ?_)
        · cases e : okRow (.lst xs) with
          | false => rfl
          | true =>
            have e : (lstIn (.lst xs) 1 6 && xs.all fun x => whIn x 0 99) = true := e
            rw [Bool.and_eq_true, List.all_eq_true] at e
            rw [e.2 y (List.mem_of_getElem? hy)] at w
            cases w
        · refine ⟨⟨_, rfl⟩, fun x hx' => ?_⟩
          rw [List.take_add_one, hy] at hx'
          rcases List.mem_append.mp hx' with hx' | hx'
          · exact hk x hx'
          · have e : x = y := by simpa using hx'
            rw [e]
            cases e : whIn y 0 99
            · rw [e] at w; exact absurd rfl w
            · rfl
      · rintro env ⟨⟨s, rfl⟩, hk⟩
        rw [List.take_of_length_le (Nat.le_refl _)] at hk
        refine hq ?_
        show (lstIn (.lst xs) 1 6 && xs.all fun x => whIn x 0 99) = true
        rw [z, Bool.true_and, List.all_eq_true]
        exact hk
    | _ => cases z
theorem S_chkt : FnScope ["table", "row"] ["table"] (defScope s_chkt) := ⟨rfl, rfl, rfl, by decide +kernel, rfl, by decide +kernel, by decide +kernel⟩
theorem ok_chkt (T : Txt K mg a d) : FnOk P w K mg base (CXx P w) 4 a.chkt d.chkt ["table"] (q2Sp K 1 (fChkTab a.bad)) := by
  have G_within : FnOk P w K mg base (CXx P w) 1 a.within d.within ["value", "least", "most"] (dSp K 3 (fListW)) := ok_within T
  have G_crow : FnOk P w K mg base (CXx P w) 3 a.crow d.crow ["row"] (dSp K 1 (fCkRow a.bad)) := ok_crow T
  refine qfn T.f_chkt S_chkt (fun cdv A outer s H E b hr => ?_)
  have S := S_chkt
  refine ⟨_, (dss_cons (ds_if (dt_not (dt_val (de_call G_within (hr.mono (by first | decide | omega)) rfl T.g_within T.f_within.kp T.b_within b.pass_ (da_cons (dv 0) (da_cons de_int (da_cons (de_gint rfl T.ends) da_nil)))))) (dss_one (ds_raise b rfl rfl T.g_bad T.x_bad (da_cons de_str da_nil))) dss_nil) (dss_cons (ds_loop b (ds_for (loop_passes b) rfl (di_list (dv 0)) (dg_name (i := 1) S.nd rfl (Or.inl rfl)) (dss_cons (ds_expr (de_call G_crow (hr.mono (by first | decide | omega)) rfl T.g_crow T.f_crow.kp T.b_crow (loop_pass b) (da_cons (dv 1) da_nil))) (dss_one (ds_if (dt_ne hr.units (de_len rfl T.len (da_cons (dv 1) da_nil)) (de_len rfl T.len (da_cons (de_at (dv 0) de_int) da_nil))) (dss_one (ds_raiseL b rfl rfl T.g_bad T.x_bad (da_cons de_str da_nil))) dss_nil))))) (dss_one (ds_retC rfl (di_list (dv 0)) (compT (cl := []) (tn := ["row"]) (fn := []) (fv := []) rfl (by decide +kernel) (by decide +kernel) rfl (by repeat' (first | exact trivial | refine ⟨(fun _ => ⟨_, rfl⟩), ?_⟩ | refine ⟨(fun z => by cases z), ?_⟩)) .nil) (fun _ _ _ _ _ => pg_name (i := 0) (show (["row"] : List Str).Nodup by decide +kernel) rfl (Or.inl rfl)) ub_name (fun _ _ _ _ _ => (df_list rfl T.list_ (da_cons (dv 0) da_nil))))))), fun ds Ex Q hl h => ?_⟩
  obtain ⟨v, rfl, hn, hq, hx⟩ := h
  have hn' := hn
  unfold allNsc2 at hn'
  rw [Bool.and_eq_true] at hn'
  obtain ⟨n1, n2⟩ := hn'
  have hsl : sizeLine = 16777216 := sizeLine_eq
  refine ⟨rfl, v, 1, 6, rfl, n1, ?_⟩
  show if (!lstIn v 1 6) = true then (1 ≤ sizeLine ∧ Ex a.bad) else _
  refine ite2 (fun z => ⟨by omega, hx ?_⟩) (fun z => ?_)
  · intro ok
    obtain ⟨rows, c, rfl, o1, o2, _⟩ := ok
    have e : lstIn (.lst (rows.map ordD)) 1 6 = true := by
      show (decide ((1 : Int) ≤ (((rows.map ordD).length : Nat) : Int)) && decide ((((rows.map ordD).length : Nat) : Int) ≤ 6)) = true
      rw [List.length_map, decide_eq_true (by omega), decide_eq_true (by omega)]
      rfl
    rw [e] at z
    cases z
  · have z : lstIn v 1 6 = true := by
      cases h : lstIn v 1 6
      · rw [h] at z; exact absurd rfl z
      · rfl
    cases v with
    | lst xs =>
      have z : (decide ((1 : Int) ≤ ((xs.length : Nat) : Int)) && decide (((xs.length : Nat) : Int) ≤ 6)) = true := z
      rw [Bool.and_eq_true, decide_eq_true_iff, decide_eq_true_iff] at z
      obtain ⟨l1, l2⟩ := z
      have hnx : ∀ y ∈ xs, allNsc y = true := List.all_eq_true.mp n2
      obtain ⟨x0, xs', e0⟩ : ∃ x0 xs', xs = x0 :: xs' := by
        cases xs with
        | nil => exact absurd l1 (by show ¬ ((1 : Int) ≤ ((0 : Nat) : Int)); omega)
        | cons x xs => exact ⟨x, xs, rfl⟩
      have m0 : x0 ∈ xs := by rw [e0]; exact List.mem_cons_self
      refine ⟨fun k env => (∃ s, env = [.sh (.lst xs), s]) ∧ (∀ y ∈ xs.take k, okRow y = true) ∧ ∀ r0, x0 = ordD r0 → ∀ r, ordD r ∈ xs.take k → r.length = r0.length, ⟨⟨_, rfl⟩, fun y hy => by simp at hy, fun r0 _ r hr => by simp at hr⟩, ?_, ?_⟩
      · rintro k y env hy ⟨⟨s, rfl⟩, hk, hl⟩
        have my := List.mem_of_getElem? hy
        refine ⟨rfl, y, rfl, hnx y my, fun oy => ?_, fun no => hx fun ok => by rw [tab_row ok my] at no; cases no⟩
        obtain ⟨r, rfl, r1, r6, r9⟩ := okRow_ex oy
        have o0 : okRow x0 = true := by
          cases k with
          | zero =>
            rw [e0] at hy
            have hy : x0 = ordD r := Option.some.inj hy
            rw [hy]
            exact oy
          | succ k => exact hk x0 (by rw [e0]; exact List.mem_cons_self)
        obtain ⟨r0, er0, q1, q6, q9⟩ := okRow_ex o0
        refine ⟨ordD r0, by rw [e0, er0]; exact atI_nat (j := 0) rfl, ?_⟩
        show if (!decide ((((r.map D.int).length : Nat) : Int) = (((r0.map D.int).length : Nat) : Int))) = true then (1 ≤ sizeLine ∧ Ex a.bad) else _
        rw [List.length_map, List.length_map]
        refine ite2 (fun w => ⟨by omega, hx fun ok => ?_⟩) (fun w => ?_)
        · have e := tab_len ok my (by rw [← er0]; exact m0)
          rw [decide_eq_true (by omega)] at w
          cases w
        · have hl0 : r.length = r0.length := by
            by_cases h : ((r.length : Nat) : Int) = ((r0.length : Nat) : Int)
            · omega
            · rw [decide_eq_false h] at w
              exact absurd rfl w
          refine ⟨⟨_, rfl⟩, fun x hx' => ?_, fun q eq u hu => ?_⟩
          · rw [List.take_add_one, hy] at hx'
            rcases List.mem_append.mp hx' with hx' | hx'
            · exact hk x hx'
            · have e : x = ordD r := by simpa using hx'
              rw [e]
              exact oy
          · have e1 : r0 = q := ordD_inj (er0.symm.trans eq)
            subst e1
            rw [List.take_add_one, hy] at hu
            rcases List.mem_append.mp hu with hu | hu
            · exact hl r0 eq u hu
            · have e : ordD u = ordD r := by simpa using hu
              rw [ordD_inj e]
              exact hl0
      · rintro env ⟨⟨s, rfl⟩, hk, hl⟩
        rw [List.take_of_length_le (Nat.le_refl _)] at hk hl
        obtain ⟨rows, er, hr⟩ := tab_rows hk
        obtain ⟨r0, er0, q1, q6, q9⟩ := okRow_ex (hk x0 m0)
        subst er
        rw [List.length_map] at l1 l2
        have ok : OkTab rows r0.length := ⟨by omega, by omega, q1, q6, fun r m => ⟨hl r0 er0 r (List.mem_map_of_mem m), (hr r m).2.2⟩⟩
        refine ⟨by rw [List.length_map]; omega, rowOf, fun y hy => ?_, fun a' as' => ⟨a', as', _, rfl, ?_⟩⟩
        · obtain ⟨r, mr, rfl⟩ := List.mem_map.mp hy
          refine ⟨_, rfl, ?_⟩
          rw [rowOf_ord]
          exact rfl
        · rw [rowOf_rows]
          exact hq rows r0.length rfl ok
    | _ => cases z
theorem S_colat : FnScope ["table", "place"] ["table", "place"] (defScope s_colat) := ⟨rfl, rfl, rfl, by decide +kernel, rfl, by decide +kernel, by decide +kernel⟩
theorem ok_colat (T : Txt K mg a d) : FnOk P w K mg base (CXx P w) 1 a.colat d.colat ["table", "place"] (dSp K 2 (fColAt8)) := by
  refine dfn T.f_colat S_colat (fun cdv A outer s H E b hr => ?_)
  have S := S_colat
  refine ⟨_, (dss_one (ds_ret (DF.de (df_compM rfl (di_list (dv 0)) (compT (cl := [("place", _)]) (tn := ["row"]) (fn := ["place"]) (fv := [1]) rfl (by decide +kernel) (by decide +kernel) rfl (by repeat' (first | exact trivial | refine ⟨(fun _ => ⟨_, rfl⟩), ?_⟩ | refine ⟨(fun z => by cases z), ?_⟩)) (.cons (y := "place") (k := 1) .nil rfl rfl (.inr (.inl rfl)) rfl rfl)) (fun _ _ _ _ _ => pg_name (i := 0) (show (["row", "place"] : List Str).Nodup by decide +kernel) rfl (Or.inl rfl)) ub_name (fun _ _ _ _ _ => (de_at (dv 0) (dv 1))))))), fun ds Ex Q hl h => ?_⟩
  obtain ⟨rows, c, p, rfl, ok, hp, q⟩ := h
  have hsl : sizeLine = 16777216 := sizeLine_eq
  obtain ⟨o1, o2, o3, o4, o5⟩ := ok
  refine ⟨by rw [List.length_map]; omega, (fun x => match x with | .lst ys => ys.getD p .non | x => x), fun y hy => ?_, ?_⟩
  · obtain ⟨r, hr, rfl⟩ := List.mem_map.mp hy
    have hl := (o5 r hr).1
    refine ⟨_, rfl, .int r[p], atI_nat (j := p) (by rw [List.getElem?_map, List.getElem?_eq_getElem (by omega)]; rfl), ?_⟩
    show _ = (r.map D.int).getD p .non
    rw [List.getD_eq_getElem?_getD, List.getElem?_map, List.getElem?_eq_getElem (by omega)]
    rfl
  · have e : (rows.map ordD).map (fun x => match x with | .lst ys => ys.getD p .non | x => x) = (colAt rows p).map D.int := by
      unfold colAt
      rw [List.map_map, List.map_map]
      refine List.map_congr_left fun r hr => ?_
      have hl := (o5 r hr).1
      show (r.map D.int).getD p .non = .int (r.getD p 0)
      rw [List.getD_eq_getElem?_getD, List.getElem?_map, List.getD_eq_getElem?_getD, List.getElem?_eq_getElem (by omega)]
      rfl
    rw [e]
    exact q
theorem S_colsof : FnScope ["table"] ["table"] (defScope s_colsof) := ⟨rfl, rfl, rfl, by decide +kernel, rfl, by decide +kernel, by decide +kernel⟩
theorem ok_colsof (T : Txt K mg a d) : FnOk P w K mg base (CXx P w) 2 a.colsof d.colsof ["table"] (dSp K 1 (fColsOf)) := by
  have G_colat : FnOk P w K mg base (CXx P w) 1 a.colat d.colat ["table", "place"] (dSp K 2 (fColAt8)) := ok_colat T
  refine dfn T.f_colsof S_colsof (fun cdv A outer s H E b hr => ?_)
  have S := S_colsof
  refine ⟨_, (dss_one (ds_ret (DF.de (df_compM rfl (di_range rfl T.range (da_cons (de_len rfl T.len (da_cons (de_at (dv 0) de_int) da_nil)) da_nil)) (compT (cl := [("table", _)]) (tn := ["place"]) (fn := ["table"]) (fv := [0]) rfl (by decide +kernel) (by decide +kernel) rfl (by repeat' (first | exact trivial | refine ⟨(fun _ => ⟨_, rfl⟩), ?_⟩ | refine ⟨(fun z => by cases z), ?_⟩)) (.cons (y := "table") (k := 0) .nil rfl rfl (.inr (.inl rfl)) rfl rfl)) (fun _ _ _ _ _ => pg_name (i := 0) (show (["place", "table"] : List Str).Nodup by decide +kernel) rfl (Or.inl rfl)) ub_name (fun _ _ _ _ _ => (de_call G_colat (hr.mono (by first | decide | omega)) rfl T.g_colat T.f_colat.kp T.b_colat pass0x (da_cons (dv 1) (da_cons (dv 0) da_nil)))))))), fun ds Ex Q hl h => ?_⟩
  obtain ⟨rows, c, rfl, ok, q⟩ := h
  have hsl : sizeLine = 16777216 := sizeLine_eq
  have ok' := ok
  obtain ⟨o1, o2, o3, o4, o5⟩ := ok'
  obtain ⟨r0, rows', e0⟩ : ∃ r0 rows', rows = r0 :: rows' := by
    cases rows with
    | nil => exact absurd o1 (by simp)
    | cons o os => exact ⟨o, os, rfl⟩
  have l0 := (o5 r0 (by rw [e0]; exact List.mem_cons_self)).1
  refine ⟨ordD r0, by rw [e0]; exact atI_nat (j := 0) rfl, ?_⟩
  refine ⟨by show -(2 ^ 62 : Int) ≤ (((r0.map D.int).length : Nat) : Int); omega, by show (((r0.map D.int).length : Nat) : Int) < 2 ^ 62; rw [List.length_map]; omega, ?_⟩
  rw [List.length_map, l0, Int.toNat_natCast]
  refine ⟨by show (intsTo c).length ≤ sizeLine; simp [intsTo]; omega, (fun x => match x with | .int i => ordD (colAt rows i.toNat) | x => x), fun y hy => ?_, ?_⟩
  · obtain ⟨p, hp, rfl⟩ := List.mem_map.mp hy
    have hp := List.mem_range.mp hp
    exact ⟨_, rfl, rfl, rows, c, p, rfl, ok, hp, rfl⟩
  · have e : (intsTo c).map (fun x => match x with | .int i => ordD (colAt rows i.toNat) | x => x) = (colsT rows c).map ordD := by
      unfold intsTo colsT
      rw [List.map_map, List.map_map]
      exact List.map_congr_left fun p _ => by
        show ordD (colAt rows ((p : Nat) : Int).toNat) = _
        rw [Int.toNat_natCast]
        rfl
    rw [e]
    exact q
theorem S_great : FnScope ["table"] ["table"] (defScope s_great) := ⟨rfl, rfl, rfl, by decide +kernel, rfl, by decide +kernel, by decide +kernel⟩
theorem ok_great (T : Txt K mg a d) : FnOk P w K mg base (CXx P w) 3 a.great d.great ["table"] (dSp K 1 (fGreat)) := by
  have G_colsof : FnOk P w K mg base (CXx P w) 2 a.colsof d.colsof ["table"] (dSp K 1 (fColsOf)) := ok_colsof T
  refine dfn T.f_great S_great (fun cdv A outer s H E b hr => ?_)
  have S := S_great
  refine ⟨_, (dss_one (ds_ret (de_max rfl rfl T.max_ (da_cons (DF.de (df_compM rfl (di_list (DF.de (df_cat (dv 0) (de_call G_colsof (hr.mono (by first | decide | omega)) rfl T.g_colsof T.f_colsof.kp T.b_colsof b.pass_ (da_cons (dv 0) da_nil))))) (compT (cl := []) (tn := ["line"]) (fn := []) (fv := []) rfl (by decide +kernel) (by decide +kernel) rfl (by repeat' (first | exact trivial | refine ⟨(fun _ => ⟨_, rfl⟩), ?_⟩ | refine ⟨(fun z => by cases z), ?_⟩)) .nil) (fun _ _ _ _ _ => pg_name (i := 0) (show (["line"] : List Str).Nodup by decide +kernel) rfl (Or.inl rfl)) ub_name (fun _ _ _ _ _ => (de_sum rfl rfl T.sum_ (da_cons (dv 0) da_nil))))) da_nil)))), fun ds Ex Q hl h => ?_⟩
  obtain ⟨rows, c, rfl, ok, q⟩ := h
  have hsl : sizeLine = 16777216 := sizeLine_eq
  have ok' := ok
  obtain ⟨o1, o2, o3, o4, o5⟩ := ok'
  have lc : (colsT rows c).length = c := by simp [colsT]
  refine ⟨rfl, rows, c, rfl, ok, ?_⟩
  refine ⟨by show (rows.map ordD).length + ((colsT rows c).map ordD).length ≤ sizeLine; rw [List.length_map, List.length_map]; omega, ?_⟩
  rw [← List.map_append]
  refine ⟨by rw [List.length_map, List.length_append]; omega, (fun x => .int (rowOf x).sum), fun y hy => ?_, ?_⟩
  · obtain ⟨r, _, rfl⟩ := List.mem_map.mp hy
    refine ⟨_, rfl, r, rfl, ?_⟩
    show _ = D.int (rowOf (ordD r)).sum
    rw [rowOf_ord]
  · refine ⟨sumsT rows c, ?_, ?_, fun m h1 h2 => q m ⟨h1, h2⟩⟩
    · unfold sumsT
      rw [List.map_map, List.map_map]
      exact congrArg (fun l => [D.lst l]) (List.map_congr_left fun r _ => by show D.int (rowOf (ordD r)).sum = _; rw [rowOf_ord]; rfl)
    · unfold sumsT
      rw [List.length_map, List.length_append]
      omega
theorem S_lone : FnScope ["number", "place", "many"] ["number", "place", "many"] (defScope s_lone) := ⟨rfl, rfl, rfl, by decide +kernel, rfl, by decide +kernel, by decide +kernel⟩
theorem ok_lone (T : Txt K mg a d) : FnOk P w K mg base (CXx P w) 1 a.lone d.lone ["number", "place", "many"] (dSp K 3 (Tm.fLone)) := by
  refine dfn T.f_lone S_lone (fun cdv A outer s H E b hr => ?_)
  have S := S_lone
  refine ⟨_, (dss_one (ds_ret (DF.de (df_compM rfl (di_range rfl T.range (da_cons (dv 2) da_nil)) (compT (cl := [("place", _), ("number", _)]) (tn := ["other"]) (fn := ["place", "number"]) (fv := [1, 0]) rfl (by decide +kernel) (by decide +kernel) rfl (by repeat' (first | exact trivial | refine ⟨(fun _ => ⟨_, rfl⟩), ?_⟩ | refine ⟨(fun z => by cases z), ?_⟩)) (.cons (y := "place") (k := 1) (.cons (y := "number") (k := 0) .nil rfl rfl (.inr (.inl rfl)) rfl rfl) rfl rfl (.inr (.inl rfl)) rfl rfl)) (fun _ _ _ _ _ => pg_name (i := 0) (show (["other", "place", "number"] : List Str).Nodup by decide +kernel) rfl (Or.inl rfl)) ub_name (fun _ _ _ _ _ => (de_ifExp (dt_eq hr.units (dv 0) (dv 1)) (dv 2) de_int)))))), fun ds Ex Q hl h => ?_⟩
  obtain ⟨x, p, m, rfl, hm, q⟩ := h
  have hsl : sizeLine = 16777216 := sizeLine_eq
  refine ⟨by omega, by omega, ?_⟩
  rw [Int.toNat_natCast]
  refine ⟨by rw [intsTo_length]; omega, (fun d => match d with
    | .int k => .int (if k.toNat = p then x else 0)
    | d => d), fun y hy => ?_, ?_⟩
  · obtain ⟨k, hk, rfl⟩ := List.mem_map.mp hy
    refine ⟨_, rfl, ?_⟩
    show if decide (((k : Nat) : Int) = ((p : Nat) : Int)) = true then _ else _
    by_cases e : k = p
    · rw [decide_eq_true (by omega)]
      show D.int x = D.int (if (((k : Nat) : Int)).toNat = p then x else 0)
      rw [Int.toNat_natCast, if_pos e]
    · rw [decide_eq_false (by omega)]
      show D.int 0 = D.int (if (((k : Nat) : Int)).toNat = p then x else 0)
      rw [Int.toNat_natCast, if_neg e]
  · have e : (intsTo m).map (fun d => match d with
      | .int k => D.int (if k.toNat = p then x else 0)
      | d => d) = (Tm.loneL x p m).map D.int := by
      unfold intsTo Tm.loneL
      rw [List.map_map, List.map_map]
      refine List.map_congr_left fun k _ => ?_
      show D.int (if (((k : Nat) : Int)).toNat = p then x else 0) = _
      rw [Int.toNat_natCast]
      rfl
    rw [e]
    exact q
theorem S_even : FnScope ["table", "most", "columns", "above", "below"] ["table"] (defScope s_even) := ⟨rfl, rfl, rfl, by decide +kernel, rfl, by decide +kernel, by decide +kernel⟩
theorem ok_even (T : Txt K mg a d) : FnOk P w K mg base (CXx P w) 4 a.even d.even ["table"] (q2Sp K 1 (Tm.fEven)) := by
  have G_great : FnOk P w K mg base (CXx P w) 3 a.great d.great ["table"] (dSp K 1 (fGreat)) := ok_great T
  have G_colsof : FnOk P w K mg base (CXx P w) 2 a.colsof d.colsof ["table"] (dSp K 1 (fColsOf)) := ok_colsof T
  have G_lone : FnOk P w K mg base (CXx P w) 1 a.lone d.lone ["number", "place", "many"] (dSp K 3 (Tm.fLone)) := ok_lone T
  refine qfn T.f_even S_even (fun cdv A outer s H E b hr => ?_)
  have S := S_even
  refine ⟨_, (dss_cons (ds_set (i := 1) S.nd rfl (Or.inr rfl) (de_call G_great (hr.mono (by first | decide | omega)) rfl T.g_great T.f_great.kp T.b_great b.pass_ (da_cons (dv 0) da_nil))) (dss_cons (ds_set (i := 2) S.nd rfl (Or.inr rfl) (de_call G_colsof (hr.mono (by first | decide | omega)) rfl T.g_colsof T.f_colsof.kp T.b_colsof b.pass_ (da_cons (dv 0) da_nil))) (dss_cons (ds_tblC (i := 3) S.nd rfl (Or.inl rfl) rfl (di_enum rfl T.enum_ (da_cons (dv 0) da_nil)) (compT (cl := [("table", _), ("most", _)]) (tn := ["place", "row"]) (fn := ["table", "most"]) (fv := [0, 1]) rfl (by decide +kernel) (by decide +kernel) rfl (by repeat' (first | exact trivial | refine ⟨(fun _ => ⟨_, rfl⟩), ?_⟩ | refine ⟨(fun z => by cases z), ?_⟩)) (.cons (y := "table") (k := 0) (.cons (y := "most") (k := 1) .nil rfl rfl (.inr (.inl rfl)) rfl rfl) rfl rfl (.inr (.inl rfl)) rfl rfl)) (fun _ _ _ _ _ => pg_tup (n := 2) rfl (pgs_cons (pg_name (i := 0) (show (["place", "row", "table", "most"] : List Str).Nodup by decide +kernel) rfl (Or.inl rfl)) (pgs_cons (pg_name (i := 1) (show (["place", "row", "table", "most"] : List Str).Nodup by decide +kernel) rfl (Or.inl rfl)) pgs_nil))) ub_pair (fun _ _ _ _ _ => (df_cat (dv 1) (de_call G_lone (hr.mono (by first | decide | omega)) rfl T.g_lone T.f_lone.kp T.b_lone pass0x (da_cons (de_sub (dv 3) (de_sum rfl rfl T.sum_ (da_cons (dv 1) da_nil))) (da_cons (dv 0) (da_cons (de_len rfl T.len (da_cons (dv 2) da_nil)) da_nil))))))) (dss_cons (ds_tblC (i := 4) S.nd rfl (Or.inl rfl) rfl (di_enum rfl T.enum_ (da_cons (dv 2) da_nil)) (compT (cl := [("most", _), ("columns", _)]) (tn := ["place", "column"]) (fn := ["most", "columns"]) (fv := [1, 2]) rfl (by decide +kernel) (by decide +kernel) rfl (by repeat' (first | exact trivial | refine ⟨(fun _ => ⟨_, rfl⟩), ?_⟩ | refine ⟨(fun z => by cases z), ?_⟩)) (.cons (y := "most") (k := 1) (.cons (y := "columns") (k := 2) .nil rfl rfl (.inr (.inl rfl)) rfl rfl) rfl rfl (.inr (.inl rfl)) rfl rfl)) (fun _ _ _ _ _ => pg_tup (n := 2) rfl (pgs_cons (pg_name (i := 0) (show (["place", "column", "most", "columns"] : List Str).Nodup by decide +kernel) rfl (Or.inl rfl)) (pgs_cons (pg_name (i := 1) (show (["place", "column", "most", "columns"] : List Str).Nodup by decide +kernel) rfl (Or.inl rfl)) pgs_nil))) ub_pair (fun _ _ _ _ _ => (df_cat (de_call G_lone (hr.mono (by first | decide | omega)) rfl T.g_lone T.f_lone.kp T.b_lone pass0x (da_cons (de_sub (dv 2) (de_sum rfl rfl T.sum_ (da_cons (dv 1) da_nil))) (da_cons (dv 0) (da_cons (de_len rfl T.len (da_cons (dv 3) da_nil)) da_nil)))) (dv 1)))) (dss_one (ds_retTT (i := 3) (j := 4) rfl (Or.inl rfl) rfl (Or.inl rfl))))))), fun ds Ex Q hl h => ?_⟩
  obtain ⟨rows, c, rfl, ok, q⟩ := h
  have hsl : sizeLine = 16777216 := sizeLine_eq
  have ok' := ok
  obtain ⟨o1, o2, o3, o4, o5⟩ := ok'
  have lc : (colsT rows c).length = c := by simp [colsT]
  refine ⟨rfl, rows, c, rfl, ok, fun m hm => ⟨rfl, rows, c, rfl, ok, ?_⟩⟩
  have pr : ∀ t : List (List Int), pairI 0 (t.map ordD) = (List.range t.length).map fun j => D.tup [.int ((j : Nat) : Int), ordD (t.getD j [])] := fun t => by
    refine List.ext_getElem? fun j => ?_
    rw [pairI_get, List.getElem?_map, List.getElem?_map]
    by_cases hj : j < t.length
    · have eg : t.getD j [] = t[j] := by rw [List.getD_eq_getElem?_getD, List.getElem?_eq_getElem hj]; rfl
      rw [List.getElem?_eq_getElem hj, List.getElem?_range hj, Nat.zero_add]
      show some (D.tup [.int ((j : Nat) : Int), ordD t[j]]) = some (D.tup [.int ((j : Nat) : Int), ordD (t.getD j [])])
      rw [eg]
    · rw [List.getElem?_eq_none (by omega), List.getElem?_eq_none (by simp; omega)]
      rfl
  refine ⟨by rw [pairI_length, List.length_map]; omega, (fun d => match d with
    | .tup [.int p, r] => rowOf r ++ Tm.loneL (m - (rowOf r).sum) p.toNat rows.length
    | _ => []), fun y hy => ?_, fun a1 as1 => ?_⟩
  · rw [pr rows] at hy
    obtain ⟨i, hi, rfl⟩ := List.mem_map.mp hy
    have hi := List.mem_range.mp hi
    have rl := (Tm.row_len ok hi).1
    refine ⟨_, rfl, rows.getD i [], rfl, rfl, m - (rows.getD i []).sum, i, rows.length, by rw [List.length_map], by omega, ?_⟩
    refine ⟨by rw [List.length_map, List.length_map, Tm.lone_len]; omega, ?_⟩
    show _ = (rowOf (ordD (rows.getD i [])) ++ Tm.loneL (m - (rowOf (ordD (rows.getD i []))).sum) (((i : Nat) : Int)).toNat rows.length).map D.int
    rw [rowOf_ord, Int.toNat_natCast, List.map_append]
  refine ⟨by rw [pairI_length, List.length_map]; omega, (fun d => match d with
    | .tup [.int p, r] => Tm.loneL (m - (rowOf r).sum) p.toNat c ++ rowOf r
    | _ => []), fun y hy => ?_, fun a2 as2 => ?_⟩
  · rw [pr (colsT rows c)] at hy
    obtain ⟨i, hi, rfl⟩ := List.mem_map.mp hy
    have hi := List.mem_range.mp hi
    have cl : ((colsT rows c).getD i []).length = rows.length := by
      unfold colsT
      rw [List.getD_eq_getElem?_getD, List.getElem?_map, List.getElem?_range (by omega)]
      show (colAt rows i).length = _
      unfold colAt
      rw [List.length_map]
    refine ⟨_, rfl, (colsT rows c).getD i [], rfl, rfl, m - ((colsT rows c).getD i []).sum, i, c, by rw [List.length_map, lc], by omega, ?_⟩
    refine ⟨by rw [List.length_map, List.length_map, Tm.lone_len]; omega, ?_⟩
    show _ = (Tm.loneL (m - (rowOf (ordD ((colsT rows c).getD i []))).sum) (((i : Nat) : Int)).toNat c ++ rowOf (ordD ((colsT rows c).getD i []))).map D.int
    rw [rowOf_ord, Int.toNat_natCast, List.map_append]
  have eT : ((pairI 0 (rows.map ordD)).map (fun d => match d with
    | .tup [.int p, r] => rowOf r ++ Tm.loneL (m - (rowOf r).sum) p.toNat rows.length
    | _ => [])) ++ ((pairI 0 ((colsT rows c).map ordD)).map (fun d => match d with
    | .tup [.int p, r] => Tm.loneL (m - (rowOf r).sum) p.toNat c ++ rowOf r
    | _ => [])) = Tm.evT rows c m := by
    unfold Tm.evT
    rw [pr rows, pr (colsT rows c), List.map_map, List.map_map, lc]
    congr 1
    · refine List.map_congr_left fun i _ => ?_
      show rowOf (ordD (rows.getD i [])) ++ Tm.loneL (m - (rowOf (ordD (rows.getD i []))).sum) (((i : Nat) : Int)).toNat rows.length = _
      rw [rowOf_ord, Int.toNat_natCast]
    · refine List.map_congr_left fun k hk => ?_
      have e : (colsT rows c).getD k [] = colAt rows k := by
        unfold colsT
        rw [List.getD_eq_getElem?_getD, List.getElem?_map, List.getElem?_range (List.mem_range.mp hk)]
        rfl
      show Tm.loneL (m - (rowOf (ordD ((colsT rows c).getD k []))).sum) (((k : Nat) : Int)).toNat c ++ rowOf (ordD ((colsT rows c).getD k [])) = _
      rw [rowOf_ord, Int.toNat_natCast, e]
  refine ⟨a1, as1, _, a2, as2, _, by decide, rfl, rfl, by rw [List.length_map, List.length_map, pairI_length, pairI_length, List.length_map, List.length_map]; omega, fun c' => ⟨_, _, _, rfl, ?_⟩⟩
  rw [eT]
  exact q m _ hm (Tm.evT_len rows c m) (Tm.evT_rows m ok) (Tm.evT_ent m ok)
theorem S_pleft : FnScope ["rest", "pairs", "row", "numbers"] ["rest"] (defScope s_pleft) := ⟨rfl, rfl, rfl, by decide +kernel, rfl, by decide +kernel, by decide +kernel⟩
theorem ok_pleft (T : Txt K mg a d) : FnOk P w K mg base (CXx P w) 1 a.pleft d.pleft ["rest"] (dSp K 1 (Tm.fLeft)) := by
  refine dfn T.f_pleft S_pleft (fun cdv A outer s H E b hr => ?_)
  have S := S_pleft
  refine ⟨_, (dss_cons (ds_own (i := 1) S.nd rfl (Or.inl rfl) (df_lst da_nil)) (dss_cons (ds_loop b (ds_for (loop_passes b) rfl (di_enum rfl T.enum_ (da_cons (dv 0) da_nil)) (dg_pair (i := 2) (j := 3) rfl S.nd rfl rfl (Or.inr rfl) (Or.inl rfl)) (dss_one (ds_extendL (i := 1) rfl (Or.inl rfl) (DF.de (df_comp rfl (di_enum rfl T.enum_ (da_cons (dv 3) da_nil)) (compT (cl := [("row", _)]) (tn := ["column", "number"]) (fn := ["row"]) (fv := [2]) rfl (by decide +kernel) (by decide +kernel) rfl (by repeat' (first | exact trivial | refine ⟨(fun _ => ⟨_, rfl⟩), ?_⟩ | refine ⟨(fun z => by cases z), ?_⟩)) (.cons (y := "row") (k := 2) .nil rfl rfl (.inr (.inl rfl)) rfl rfl)) (fun _ _ _ _ _ => pg_tup (n := 2) rfl (pgs_cons (pg_name (i := 0) (show (["column", "number", "row"] : List Str).Nodup by decide +kernel) rfl (Or.inl rfl)) (pgs_cons (pg_name (i := 1) (show (["column", "number", "row"] : List Str).Nodup by decide +kernel) rfl (Or.inl rfl)) pgs_nil))) ub_pair (fun _ _ _ _ _ => (difs_one (dt_gt (dv 1) de_int))) (fun _ _ _ _ _ => (de_tup (da_cons (dv 2) (da_cons (dv 0) da_nil)))))))))) (dss_freeze 1 (dss_one (ds_ret (dv 1)))))), fun ds Ex Q hl h => ?_⟩
  obtain ⟨T, rfl, t12, r12, q⟩ := h
  have hsl : sizeLine = 16777216 := sizeLine_eq
  have pr : ∀ row : List Int, pairI 0 (row.map D.int) = (List.range row.length).map fun j => D.tup [.int ((j : Nat) : Int), .int (row.getD j 0)] := fun row => by
    refine List.ext_getElem? fun j => ?_
    rw [pairI_get, List.getElem?_map, List.getElem?_map]
    by_cases hj : j < row.length
    · have eg : row.getD j 0 = row[j] := by rw [List.getD_eq_getElem?_getD, List.getElem?_eq_getElem hj]; rfl
      rw [List.getElem?_eq_getElem hj, List.getElem?_range hj, Nat.zero_add]
      show some (D.tup [.int ((j : Nat) : Int), .int row[j]]) = some (D.tup [.int ((j : Nat) : Int), .int (row.getD j 0)])
      rw [eg]
    · rw [List.getElem?_eq_none (by omega), List.getElem?_eq_none (by simp; omega)]
      rfl
  let upL : Nat → List (Int × Int) := fun k => (List.range k).flatMap fun i => ((List.range (T.getD i []).length).filter fun j => decide (0 < Tm.ent T i j)).map fun j => (((i : Nat) : Int), ((j : Nat) : Int))
  refine ⟨by show 0 ≤ sizeLine; omega, fun k env => k ≤ T.length ∧ (upL k).length ≤ 12 * k ∧ ∃ s2 s3, env = [.sh (.lst (T.map ordD)), .own ((upL k).map Jn.pairD), s2, s3], ⟨Nat.zero_le _, Nat.zero_le _, _, _, rfl⟩, ?_, ?_⟩
  · rintro k dd env hd ⟨hk, hlen, s2, s3, rfl⟩
    rw [pairI_get, Nat.zero_add, List.getElem?_map] at hd
    cases e : T[k]? with
    | none => rw [e] at hd; cases hd
    | some row =>
      rw [e] at hd
      cases hd
      have kl := (List.getElem?_eq_some_iff.mp e).1
      have rl : row.length ≤ 12 := r12 row (List.mem_of_getElem? e)
      have er : T.getD k [] = row := by rw [List.getD_eq_getElem?_getD, e]; rfl
      have up1 : upL (k + 1) = upL k ++ ((List.range row.length).filter fun j => decide (0 < row.getD j 0)).map fun j => (((k : Nat) : Int), ((j : Nat) : Int)) := by
        show (List.range (k + 1)).flatMap _ = _
        rw [List.range_succ, List.flatMap_append, List.flatMap_cons, List.flatMap_nil, List.append_nil]
        congr 1
        unfold Tm.ent
        rw [er]
      have fl := List.length_filter_le (fun j => decide (0 < row.getD j 0)) (List.range row.length)
      rw [List.length_range] at fl
      refine ⟨by rw [pairI_length, List.length_map]; omega, (fun d => match d with
        | .tup [_, .int n] => decide (n > 0)
        | _ => false), (fun d => match d with
        | .tup [j, _] => .tup [.int ((k : Nat) : Int), j]
        | d => d), fun y hy => ?_, ?_⟩
      · rw [pr row] at hy
        obtain ⟨j, _, rfl⟩ := List.mem_map.mp hy
        exact ⟨_, rfl, rfl, fun _ => ⟨by show 2 ≤ sizeLine; omega, rfl⟩⟩
      · rw [pr row, List.filter_map, List.map_map]
        have em : ((List.range row.length).filter ((fun d => match d with
          | D.tup [_, .int n] => decide (n > 0)
          | _ => false) ∘ fun j => D.tup [.int ((j : Nat) : Int), .int (row.getD j 0)])).map ((fun d => match d with
          | D.tup [j, _] => D.tup [.int ((k : Nat) : Int), j]
          | d => d) ∘ fun j => D.tup [.int ((j : Nat) : Int), .int (row.getD j 0)]) = (((List.range row.length).filter fun j => decide (0 < row.getD j 0)).map fun j => (((k : Nat) : Int), ((j : Nat) : Int))).map Jn.pairD := by
          rw [List.map_map]
          rfl
        rw [em]
        refine ⟨by rw [List.length_map, List.length_map, List.length_map]; omega, by omega, ?_, .sh (.int ((k : Nat) : Int)), .sh (ordD row), ?_⟩
        · rw [up1, List.length_append, List.length_map]; omega
        · rw [up1, List.map_append]
          rfl
  · rintro env ⟨hk, hlen, s2, s3, rfl⟩
    rw [pairI_length, List.length_map]
    exact q
theorem rowInt {r : List Int} {j : Nat} (h : j < r.length) : (r.map V.int)[j]? = some (.int (r.getD j 0)) := by
  rw [List.getElem?_map, List.getD_eq_getElem?_getD, List.getElem?_eq_getElem h]
  rfl
theorem bt_minB : bootBuiltins "min" = some (.builtin "min") := by decide +kernel
theorem ok_off (T : Txt K mg a d) : FnOk P w K mg base (CXx P w) 1 a.off d.off ["rest", "pairs"] (Tm.spOff K) := by
  have S : FnScope ["rest", "pairs", "length", "row", "column"] ["rest", "pairs"] (defScope s_off) := ⟨rfl, rfl, rfl, by decide +kernel, rfl, by decide +kernel, by decide +kernel⟩
  refine T.f_off.okN S (fun vs H Q E h => ?_) (fun cdv A outer s H vs Q E hr h => ?_)
  · obtain ⟨R, p, bs, ts, Tb, cf, n, rfl, _⟩ := h
    rfl
  · obtain ⟨R, p, bs, ts, Tb, cf, n, rfl, hT, n0, n12, tl, rl, ci, hp, lts, hts, np, q⟩ := h
    have hu := hu_of hr
    have hsl : sizeLine = 16777216 := sizeLine_eq
    have nd : (["row", "column", "rest"] : List Str).Nodup := by decide +kernel
    refine ⟨_, pss_cons (ps_set (i := 2) S.nd rfl (Or.inl rfl) (pe_callB (call_minL rfl) rfl T.min_ bt_minB (pa_cons (by exact pe_compT (g := gTup K 2 (gCons (gName 0) (gCons (gName 1) gNil))) (te := tOp (rIxL K) (tOp (rIxL K) (tVar 2) (tVar 0)) (tVar 1)) rfl (pi_list (pv 1)) (compT (cl := [("rest", _)]) (tn := ["row", "column"]) (fn := ["rest"]) (fv := [0]) rfl (by decide +kernel) (by decide +kernel) rfl (by repeat' (first | exact trivial | refine ⟨(fun _ => ⟨_, rfl⟩), ?_⟩ | refine ⟨(fun z => by cases z), ?_⟩)) (.cons (y := "rest") (k := 0) .nil rfl rfl (.inr (.inl rfl)) rfl rfl)) (fun _ _ _ _ _ => by exact pg_tup (n := 2) rfl (pgs_cons (pg_name (i := 0) nd rfl (Or.inl rfl)) (pgs_cons (pg_name (i := 1) nd rfl (Or.inl rfl)) pgs_nil))) (fun _ _ _ _ _ => pifs_nil) (fun _ _ _ _ _ => pe_ix ix_list (pe_ix ix_list (pv 2) (pv 0) (fun _ _ => rfl)) (pv 1) (fun _ _ => rfl))) pa_nil)))
      (pss_cons (ps_for PassesOwn.never rfl (pi_list (pv 1)) (pg_tup (n := 2) rfl (pgs_cons (pg_name (i := 3) S.nd rfl (Or.inl rfl)) (pgs_cons (pg_name (i := 4) S.nd rfl (Or.inl rfl)) pgs_nil)))
        (pss_one (ps_augS (pe_ix ix_list (pv 0) (pv 3) (fun _ _ => rfl)) (pv 4) get_list (pv 2) ip_sub set_list)))
      (pss_one (ps_ret (pv 2)))), ?_⟩
    have rowAt : ∀ (Tx : List (List Int)) (Hx : Hp), TblR R bs Tx Hx → Tx.length = n → ∀ i, i < n → ∃ x, bs[i]? = some x ∧ Hx x = some (.lst ((Tx.getD i []).map V.int)) := fun Tx Hx hx tlx i hi => by
      obtain ⟨x, ex⟩ : ∃ x, bs[i]? = some x := ⟨_, List.getElem?_eq_getElem (by rw [hx.2.1]; omega)⟩
      refine ⟨x, ex, hx.2.2.1 i x _ ex ?_⟩
      rw [List.getD_eq_getElem?_getD, List.getElem?_eq_getElem (by omega)]
      rfl
    -- length = min([..])
    refine ⟨_, rfl, p, rfl, ⟨_, SqL.of hp⟩, fun D hD => ?_⟩
    obtain ⟨vals, evals⟩ : ∃ vals : List Int, vals = (List.range n).map fun i => Tm.ent Tb i (cf i) := ⟨_, rfl⟩
    refine comp_listT (K := K) (a := p) (xs := ts.map V.ref) (fun i H' => Same H H' ∧ H' D = some (.lst ((vals.take i).map V.int))) ?_ ?_ ?_ ?_
    · exact ⟨fun b u z => by rw [upd_ne (ne_of_none z hD)]; exact z, by rw [upd_same]; rfl⟩
    · rintro i H' _ ⟨sm, _⟩
      exact SqL.of (sm _ _ hp)
    · rintro i x H' t0 hx ht ⟨sm, hD'⟩
      rw [List.getElem?_map] at hx
      cases e : ts[i]? with
      | none => rw [e] at hx; cases hx
      | some t =>
        rw [e] at hx
        cases Option.some.inj hx
        have il : i < n := by have := (List.getElem?_eq_some_iff.mp e).1; omega
        obtain ⟨u0, u1, rfl⟩ : ∃ u0 u1, t0 = [u0, u1] := by
          match t0, ht with
          | [u0, u1], _ => exact ⟨u0, u1, rfl⟩
        refine ⟨t, _, rfl, SqT.of (sm _ _ (hts i t e)), rfl, _, _, rfl, _, _, rfl, rfl, ⟨[_, _], rfl, rfl⟩, yes (iteT ?_)⟩
        obtain ⟨x, ex, hx2⟩ := rowAt Tb H hT tl i il
        have hrl : (Tb.getD i []).length = n := rl _ (Tm.getD_mem (by omega))
        refine ⟨_, rfl, _, rfl, R, _, ((i : Nat) : Int), .ref x, rfl, rfl, SqL.of (sm _ _ hT.1), atI_nat (by rw [List.getElem?_map, ex]; rfl), _, rfl, x, _, ((cf i : Nat) : Int), .int (Tm.ent Tb i (cf i)), rfl, rfl, SqL.of (sm _ _ hx2), atI_nat ?_, _, hD', ?_, fun b u z => by rw [upd_ne (ne_of_none z hD)]; exact sm _ _ z, ?_⟩
        · have := ci i il
          exact rowInt (by omega)
        · rw [List.length_map, List.length_take, evals, List.length_map, List.length_range]
          omega
        · have ev : vals[i]? = some (Tm.ent Tb i (cf i)) := by rw [evals, List.getElem?_map, List.getElem?_range il]; rfl
          rw [upd_same, List.take_add_one, ev, List.map_append]
          rfl
    · rintro H1 ⟨s1, hD1⟩
      have vl : vals.length = n := by rw [evals, List.length_map, List.length_range]
      rw [List.length_map, List.take_of_length_le (by omega)] at hD1
      refine ⟨D, vals, rfl, SqL.of hD1, by omega, fun len hm hle => ?_⟩
      obtain ⟨i0, hi0, e0⟩ : ∃ i0, i0 < n ∧ Tm.ent Tb i0 (cf i0) = len := by
        rw [evals] at hm
        obtain ⟨i, hi, e⟩ := List.mem_map.mp hm
        exact ⟨i, List.mem_range.mp hi, e⟩
      have hle2 : ∀ i, i < n → len ≤ Tm.ent Tb i (cf i) := fun i hi => hle _ (by rw [evals]; exact List.mem_map.mpr ⟨i, List.mem_range.mpr hi, rfl⟩)
      have hT1 : TblR R bs Tb H1 := tbl_cong (fun b m => by
        obtain ⟨v, hv, _⟩ := tbl_there hT b m
        rw [hv, s1 _ _ hv]) hT
      -- for row, column in pairs
      refine ⟨_, rfl, p, rfl, ⟨_, SqL.of (s1 _ _ hp)⟩, for_list (K := K) (a := p) (xs := ts.map V.ref) (fun i σ H' => ∃ (v3 v4 : Option V), σ = [some (.ref R), some (.ref p), some (.int len), v3, v4] ∧ TblR R bs (Tm.offT Tb cf len i) H' ∧ ∀ b u, H b = some u → b ∉ R :: bs → H' b = some u) ?_ ?_ ?_ ?_⟩
      · exact ⟨_, _, rfl, hT1, fun b u z _ => s1 _ _ z⟩
      · rintro i σ H' _ ⟨v3, v4, rfl, _, fr⟩
        exact SqL.of (fr _ _ hp np)
      · rintro i x σ H' hx ⟨v3, v4, rfl, hT', fr⟩
        rw [List.getElem?_map] at hx
        cases e : ts[i]? with
        | none => rw [e] at hx; cases hx
        | some t =>
          rw [e] at hx
          cases Option.some.inj hx
          have il : i < n := by have := (List.getElem?_eq_some_iff.mp e).1; omega
          have nt : t ∉ R :: bs := fun m => by
            obtain ⟨v, hv, nv⟩ := tbl_there hT t m
            rw [hts i t e] at hv
            cases hv
            exact absurd rfl (nv _)
          refine ⟨t, _, rfl, SqT.of (fr _ _ (hts i t e) nt), rfl, _, _, rfl, _, _, rfl, rfl, ?_⟩
          have tl' : (Tm.offT Tb cf len i).length = n := by rw [Tm.off_len]; exact tl
          obtain ⟨x, ex, hx2⟩ := rowAt _ H' hT' tl' i il
          have hrl : ((Tm.offT Tb cf len i).getD i []).length = n := Tm.off_rows tl rl i (by omega) _ (Tm.getD_mem (by omega))
          have hc := ci i il
          have gv : (((Tm.offT Tb cf len i).getD i []).map V.int)[cf i]? = some (.int (Tm.ent (Tm.offT Tb cf len i) i (cf i))) := by
            exact rowInt (by omega)
          refine ⟨_, rfl, _, rfl, R, _, ((i : Nat) : Int), .ref x, rfl, rfl, SqL.of hT'.1, atI_nat (by rw [List.getElem?_map, ex]; rfl), _, rfl, x, _, cf i, _, rfl, rfl, SqL.of hx2, gv, _, rfl, _, _, rfl, rfl, x, _, ((cf i : Nat) : Int), cf i, rfl, rfl, hx2, ixN_lt (by rw [List.length_map]; omega), ?_⟩
          have em : ((((Tm.offT Tb cf len i).getD i []).map V.int).set (cf i) (.int (Tm.ent (Tm.offT Tb cf len i) i (cf i) - len))) = ((((Tm.offT Tb cf len i).getD i []).set (cf i) (Tm.ent (Tm.offT Tb cf len i) i (cf i) - len))).map V.int := (List.map_set ..).symm
          have hT2 := tblR_set hT' ex (((Tm.offT Tb cf len i).getD i []).set (cf i) (Tm.ent (Tm.offT Tb cf len i) i (cf i) - len))
          rw [← em] at hT2
          exact ⟨_, _, rfl, hT2, fun b u z nb => by rw [upd_ne (fun y => nb (by rw [y]; exact List.mem_cons_of_mem _ (List.mem_of_getElem? ex)))]; exact fr b u z nb⟩
      · rintro σ H' ⟨v3, v4, rfl, hT', fr⟩
        rw [List.length_map, lts] at hT'
        refine ⟨_, rfl, q len i0 _ H' hi0 e0 hle2 (by rw [Tm.off_len]; exact tl) (Tm.off_rows tl rl n (Nat.le_refl _)) (fun i hi j hj => ?_) hT' fr⟩
        rw [Tm.off_ent tl rl ci n (Nat.le_refl _) i j]
        by_cases e : j = cf i
        · rw [if_pos ⟨hi, e⟩, if_pos e]
        · rw [if_neg fun z => e z.2, if_neg e]
theorem S_pin : FnScope ["pairs", "table"] ["pairs", "table"] (defScope s_pin) := ⟨rfl, rfl, rfl, by decide +kernel, rfl, by decide +kernel, by decide +kernel⟩
theorem ok_pin (T : Txt K mg a d) : FnOk P w K mg base (CXx P w) 1 a.pin d.pin ["pairs", "table"] (dSp K 2 (Tm.fIn)) := by
  refine dfn T.f_pin S_pin (fun cdv A outer s H E b hr => ?_)
  have S := S_pin
  refine ⟨_, (dss_one (ds_ret (DF.de (df_comp rfl (di_list (dv 0)) (compT (cl := [("table", _)]) (tn := ["pair"]) (fn := ["table"]) (fv := [1]) rfl (by decide +kernel) (by decide +kernel) rfl (by repeat' (first | exact trivial | refine ⟨(fun _ => ⟨_, rfl⟩), ?_⟩ | refine ⟨(fun z => by cases z), ?_⟩)) (.cons (y := "table") (k := 1) .nil rfl rfl (.inr (.inl rfl)) rfl rfl)) (fun _ _ _ _ _ => pg_name (i := 0) (show (["pair", "table"] : List Str).Nodup by decide +kernel) rfl (Or.inl rfl)) ub_name (fun _ _ _ _ _ => (difs_one (DW.dt (dw_and (dt_lt (de_at (dv 0) de_int) (de_len rfl T.len (da_cons (dv 1) da_nil))) (dw_and1 (dt_lt (de_at (dv 0) de_int) (de_len rfl T.len (da_cons (de_at (dv 1) de_int) da_nil)))))))) (fun _ _ _ _ _ => (dv 0)))))), fun ds Ex Q hl h => ?_⟩
  obtain ⟨l, rows, c, rfl, ok, l100, q⟩ := h
  have hsl : sizeLine = 16777216 := sizeLine_eq
  have ok' := ok
  obtain ⟨o1, o2, o3, o4, o5⟩ := ok'
  obtain ⟨r0, rows', e0⟩ : ∃ r0 rows', rows = r0 :: rows' := by
    cases rows with
    | nil => exact absurd o1 (by simp)
    | cons o os => exact ⟨o, os, rfl⟩
  have l0 := (o5 r0 (by rw [e0]; exact List.mem_cons_self)).1
  refine ⟨by rw [List.length_map]; omega, (fun d => match d with
    | .tup [.int a, .int b] => decide (a < ((rows.length : Nat) : Int)) && decide (b < ((c : Nat) : Int))
    | _ => false), (fun d => d), fun y hy => ?_, ?_⟩
  · obtain ⟨x, _, rfl⟩ := List.mem_map.mp hy
    refine ⟨_, rfl, .int x.1, atI_nat (j := 0) rfl, ?_⟩
    show if decide (x.1 < (((rows.map ordD).length : Nat) : Int)) = true then _ else _
    rw [List.length_map]
    have pd : ∀ b : Bool, b = (decide (x.1 < ((rows.length : Nat) : Int)) && decide (x.2 < ((c : Nat) : Int))) → (b = (match Jn.pairD x with
      | .tup [.int a, .int b] => decide (a < ((rows.length : Nat) : Int)) && decide (b < ((c : Nat) : Int))
      | _ => false) ∧ (b = true → Jn.pairD x = Jn.pairD x)) := fun b e => ⟨e, fun _ => rfl⟩
    cases h1 : decide (x.1 < ((rows.length : Nat) : Int)) with
    | false => exact pd false (by rw [h1]; rfl)
    | true =>
      refine ⟨.int x.2, atI_nat (j := 1) rfl, ordD r0, by rw [e0]; exact atI_nat (j := 0) rfl, ?_⟩
      refine pd (decide (x.2 < (((r0.map D.int).length : Nat) : Int))) ?_
      rw [h1, List.length_map, l0]
      rfl
  · have e : (((l.map Jn.pairD).filter (fun d => match d with
      | .tup [.int a, .int b] => decide (a < ((rows.length : Nat) : Int)) && decide (b < ((c : Nat) : Int))
      | _ => false)).map (fun d => d)) = (Tm.within rows.length c l).map Jn.pairD := by
      rw [List.map_id', List.filter_map]
      rfl
    rw [e]
    exact q
open Classical in
noncomputable def Fz (F0 H0 : Hp) (O : List Addr) (H : Hp) : Hp := fun b => if (H0 b = none ∧ b ∉ O) ∨ F0 b ≠ none ∨ ∃ xs, H0 b = some (.tup xs) then H b else none
theorem fz_sub {F0 H0 H : Hp} {O : List Addr} : Same (Fz F0 H0 O H) H := fun b u e => by
  unfold Fz at e
  split at e
  · exact e
  · cases e
theorem fz_at {F0 H0 H : Hp} {O : List Addr} {b : Addr} (h : H0 b = none) (n : b ∉ O) : Fz F0 H0 O H b = H b := by
  unfold Fz
  rw [if_pos (.inl ⟨h, n⟩)]
theorem fz_grow {F0 H0 H : Hp} {O : List Addr} (s0 : Same F0 H0) (s : Same H0 H) : Grow F0 H0 (Fz F0 H0 O H) H := by
  refine ⟨s, fun b u e => ?_, fz_sub, fun b e n => ?_⟩
  · unfold Fz
    rw [if_pos (.inr (.inl (by rw [e]; exact fun z => nomatch z)))]
    exact s _ _ (s0 _ _ e)
  · unfold Fz at n
    split at n
    · rename_i z
      rcases z with z | z | z
      · exact .inl z.1
      · exact absurd e z
      · exact .inr z
    · exact absurd rfl n
theorem fz_keep {F0 H0 H H' : Hp} {O : List Addr} (s0 : Same F0 H0) (hO : ∀ b ∈ O, H0 b = none) (h : ∀ b u, b ∉ O → H b = some u → H' b = some u) : Same (Fz F0 H0 O H) (Fz F0 H0 O H') := fun b u e => by
  unfold Fz at e ⊢
  split at e
  · rename_i z
    rw [if_pos z]
    refine h b u (fun m => ?_) e
    rcases z with z | z | ⟨xs, z⟩
    · exact z.2 m
    · exact z (s0.free (hO b m))
    · rw [hO b m] at z; cases z
  · cases e
theorem fz_less {F0 H0 H : Hp} {O O' : List Addr} (h : ∀ b, b ∈ O' → b ∈ O) : Same (Fz F0 H0 O H) (Fz F0 H0 O' H) := fun b u e => by
  unfold Fz at e ⊢
  split at e
  · rename_i z
    rw [if_pos (z.imp (fun y => ⟨y.1, fun m => y.2 (h b m)⟩) id)]
    exact e
  · cases e
theorem fz_new {F0 H0 H F' H' : Hp} {O : List Addr} (s : Same H0 H) (o : ∀ b ∈ O, ∃ xs, H b = some (.lst xs)) (g : Grow (Fz F0 H0 O H) H F' H') : Same F' (Fz F0 H0 O H') := fun b u e => by
  have e' := g.sub _ _ e
  unfold Fz
  refine (if_pos ?_).trans e'
  by_cases z : Fz F0 H0 O H b = none
  · rcases g.new b z (by rw [e]; exact fun y => nomatch y) with y | ⟨xs, y⟩
    · exact .inl ⟨s.free y, fun m => by obtain ⟨_, w⟩ := o b m; rw [y] at w; cases w⟩
    · cases h0 : H0 b with
      | none => exact .inl ⟨rfl, fun m => by obtain ⟨_, w⟩ := o b m; rw [y] at w; cases w⟩
      | some u0 =>
        have w := s _ _ h0
        rw [y] at w
        cases w
        exact .inr (.inr ⟨_, rfl⟩)
  · unfold Fz at z
    split at z
    · assumption
    · exact absurd rfl z
theorem tbl_same {a : Addr} {as : List Addr} {rows : List (List Int)} {H H' : Hp} (h : TblR a as rows H) (s : ∀ b u, b ∈ a :: as → H b = some u → H' b = some u) : TblR a as rows H' := tbl_cong (fun b m => by
  obtain ⟨v, hv, _⟩ := tbl_there h b m
  rw [hv, s _ _ m hv]) h
theorem tbl_lst {a : Addr} {as : List Addr} {rows : List (List Int)} {H : Hp} (h : TblR a as rows H) : ∀ b ∈ a :: as, ∃ xs, H b = some (.lst xs) := fun b m => by
  rcases List.mem_cons.mp m with rfl | m
  · exact ⟨_, h.1⟩
  · obtain ⟨j, hj, e⟩ := List.getElem_of_mem m
    exact ⟨_, h.2.2.1 j b _ (by rw [List.getElem?_eq_getElem hj, e]) (List.getElem?_eq_getElem (by rw [← h.2.1]; exact hj))⟩
theorem bt_lenT : bootBuiltins "len" = some (.builtin "len") := by decide +kernel
theorem ok_time (T : Txt K mg a d) : FnOk P w K mg base (CXx P w) 6 a.time d.time ["table"] (dSp K 1 Tm.fTime) := by
  have S : FnScope ["table", "checked", "rest", "left", "spells", "columns", "pairs", "length"] ["table"] (defScope s_time) := ⟨rfl, rfl, rfl, by decide +kernel, rfl, by decide +kernel, by decide +kernel⟩
  have GC : FnOk P w K mg base (CXx P w) 4 a.chkt d.chkt ["table"] (q2Sp K 1 (fChkTab a.bad)) := ok_chkt T
  have GE : FnOk P w K mg base (CXx P w) 4 a.even d.even ["table"] (q2Sp K 1 (Tm.fEven)) := ok_even T
  have GG : FnOk P w K mg base (CXx P w) 3 a.great d.great ["table"] (dSp K 1 (fGreat)) := ok_great T
  have GL : FnOk P w K mg base (CXx P w) 1 a.pleft d.pleft ["rest"] (dSp K 1 (Tm.fLeft)) := ok_pleft T
  have GF : FnOk P w K mg base (CXx P w) 4 a.filled d.filled ["pairs", "inlets"] (dSp K 2 Jn.fFilled) := Jn.ok_filled T.h
  have GO : FnOk P w K mg base (CXx P w) 1 a.off d.off ["rest", "pairs"] (Tm.spOff K) := ok_off T
  have GI : FnOk P w K mg base (CXx P w) 1 a.pin d.pin ["pairs", "table"] (dSp K 2 (Tm.fIn)) := ok_pin T
  refine T.f_time.okN S (fun vs H Q E h => ?_) (fun cdv A outer s H vs Q E hr h => ?_)
  · obtain ⟨F, ds, Ex, Qd, hl, _, r, _⟩ := h
    exact r.length.trans hl
  · obtain ⟨F, ds, Ex, Qd, hl, s0, r, ex, h, fin⟩ := h
    obtain ⟨rows, c, rfl, ok, q⟩ := h
    obtain ⟨tb, _, rfl, rt, r3⟩ := r
    cases (show _ = [] from r3)
    have hr4 : Room 4 _ := hr.mono (by decide)
    have hr3 : Room 3 _ := hr.mono (by decide)
    have hr1 : Room 1 _ := hr.mono (by decide)
    have hsl : sizeLine = 16777216 := sizeLine_eq
    obtain ⟨r1, r6, c1, c6, rok⟩ := id ok
    refine ⟨_, pss_cons (ps_set (i := 1) S.nd rfl (Or.inl rfl) (pe_call GC hr4 rfl T.g_chkt T.f_chkt.kp T.b_chkt .nil pass0x (pa_cons (pv 0) pa_nil)))
      (pss_cons (ps_set (i := 2) S.nd rfl (Or.inl rfl) (pe_call GE hr4 rfl T.g_even T.f_even.kp T.b_even .nil pass0x (pa_cons (pv 1) pa_nil)))
      (pss_cons (ps_set (i := 3) S.nd rfl (Or.inl rfl) (pe_call GG hr3 rfl T.g_great T.f_great.kp T.b_great .nil pass0x (pa_cons (pv 1) pa_nil)))
      (pss_cons (ps_set (i := 4) S.nd rfl (Or.inl rfl) (pe_lst pa_nil))
      (pss_cons (ps_while PassesOwn.never (pt_cmpR op_gt (pv 3) pe_int (nomark _))
        (pss_cons (ps_set (i := 5) S.nd rfl (Or.inl rfl) (pe_ix ix_tup (pe_call GF hr4 rfl T.g_filled T.f_filled.kp T.b_filled .nil pass0x (pa_cons (pe_call GL hr1 rfl T.g_pleft T.f_pleft.kp T.b_pleft .nil pass0x (pa_cons (pv 2) pa_nil)) (pa_cons (pe_callTy (call_list_rng rfl) rfl T.list_ bt_listT (pa_cons (pe_callTy call_rangeV rfl T.range bt_rangeT (pa_cons (pe_callB call_len_seq rfl T.len bt_lenT (pa_cons (pv 2) pa_nil)) pa_nil)) pa_nil)) pa_nil))) pe_int (fun _ _ => rfl)))
        (pss_cons (ps_set (i := 6) S.nd rfl (Or.inl rfl) (pe_listEnum rfl rfl T.list_ rfl T.enum_ (pa_cons (pv 5) pa_nil)))
        (pss_cons (ps_set (i := 7) S.nd rfl (Or.inl rfl) (pe_call GO hr1 rfl T.g_off T.f_off.kp T.b_off .nil pass0x (pa_cons (pv 2) (pa_cons (pv 6) pa_nil))))
        (pss_cons (ps_aug (i := 3) S.nd rfl (Or.inl rfl) (pv 7) ip_sub)
        (pss_one (ps_expr (pe_bm PySem.F.plainAttrs_list PySem.F.slot_list_append PySem.F.type_list_append mt_append (pv 4) (pa_cons (pe_tup (pa_cons (pv 7) (pa_cons (pe_call GI hr1 rfl T.g_pin T.f_pin.kp T.b_pin .nil pass0x (pa_cons (pv 6) (pa_cons (pv 1) pa_nil))) pa_nil))) pa_nil)))))))))
      (pss_one (ps_ret (pv 4))))))), ?_⟩
    -- checked = checked_table(table)
    refine ⟨_, rfl, F, [.lst (rows.map ordD)], (fun _ => False), (fun R' => R' = rows), rfl, s0, Reps.cons rt Reps.nil, (fun C z => z.elim), ⟨_, rfl, allNsc2_rows rows, (fun rows' c' e _ => (map_ordD_inj (D.lst.inj e)).symm), (fun z => z ⟨rows, c, rfl, ok⟩)⟩, fun rows' C cs F1 H1 e1 g1 T1 fr1 => ?_⟩
    cases e1
    -- rest = evened(checked)
    refine ⟨_, rfl, H1, [.lst (rows.map ordD)], (fun _ => False), (fun R' => ∃ m, isMost (sumsT rows c) m ∧ R'.length = rows.length + c ∧ (∀ r ∈ R', r.length = rows.length + c) ∧ (∀ i, i < rows.length + c → ∀ j, j < rows.length + c → Tm.ent R' i j = Tm.EvM rows c m i j)), rfl, Same.refl _, Reps.cons (tbl_rep T1) Reps.nil, (fun C z => z.elim), ⟨rows, c, rfl, ok, fun m Tt hm tl rl e => ⟨m, hm, tl, rl, e⟩⟩, fun T0 R bs F2 H2 hT0 g2 T2 fr2 => ?_⟩
    obtain ⟨m, hm, tl0, rl0, he0⟩ := hT0
    have L0 := Tm.Loop.start ok hm tl0 rl0 he0
    have T1' : TblR C cs rows H2 := tbl_same T1 fun b u _ z => g2.hh _ _ z
    -- left = greatest_sum(checked)
    refine ⟨_, rfl, Tm.dcall (Qd := fun d => ∃ m', d = .int m' ∧ isMost (sumsT rows c) m') [.lst (rows.map ordD)] rfl (Reps.cons (tbl_rep T1') Reps.nil) ⟨rows, c, rfl, ok, fun m' h' => ⟨m', rfl, h'⟩⟩ (fun dd v F3 H3 hd s3 sF3 rp _ => ?_)⟩
    obtain ⟨m', rfl, hm'⟩ := hd
    cases hm.un hm'
    cases (show _ = _ from rp)
    -- spells = []
    refine ⟨Nat.zero_le _, fun L hL => ?_⟩
    have h02 : Same H H2 := g1.hh.trans g2.hh
    have h03 : Same H H3 := h02.trans s3
    have T2' : TblR R bs T0 H3 := tbl_same T2 fun b u _ z => s3 _ _ z
    have nLR : L ∉ R :: bs := fun z => by
      obtain ⟨v, hv, _⟩ := tbl_there T2' L z
      rw [hL] at hv
      cases hv
    have hO : ∀ b ∈ L :: R :: bs, H b = none := fun b z => by
      rcases List.mem_cons.mp z with rfl | z
      · exact h03.free hL
      · exact g1.hh.free (fr2 b z).2
    have nCO : ∀ b ∈ C :: cs, b ∉ L :: R :: bs := fun b z y => by
      obtain ⟨v, hv, _⟩ := tbl_there T1 b z
      rcases List.mem_cons.mp y with rfl | y
      · rw [s3.free hL |> g2.hh.free] at hv; cases hv
      · rw [(fr2 b y).2] at hv; cases hv
    have n12 : rows.length + c ≤ 12 := by omega
    obtain ⟨W, hW⟩ : ∃ W : Nat → St → Hp → Prop, ∀ k σ H', W k σ H' ↔ ∃ (Tt : List (List Int)) (left : Int) (sp : List Tm.Spell) (xs : List V) (v5 v6 v7 : Option V), k = (Tm.np (rows.length + c) (Tm.ent Tt)).toNat ∧ σ = [some tb, some (.ref C), some (.ref R), some (.int left), some (.ref L), v5, v6, v7] ∧ Tm.Loop rows c m Tt left sp ∧ TblR R bs Tt H' ∧ Same H H' ∧ Rep K (Fz F H (L :: R :: bs) H') (.lst (rows.map ordD)) (.ref C) ∧ H' L = some (.lst xs) ∧ Reps K (Fz F H (L :: R :: bs) H') (sp.map Tm.spellD) xs := ⟨_, fun _ _ _ => Iff.rfl⟩
    have sL : ∀ b u, b ≠ L → H3 b = some u → upd H3 L (.lst []) b = some u := fun b u z e => by rw [upd_ne z]; exact e
    refine ⟨W, ⟨_, (hW _ _ _).mpr ⟨T0, m, [], [], none, none, none, rfl, rfl, L0, tbl_same T2' fun b u z e => sL _ _ (fun y => nLR (y ▸ z)) e, fun b u z => sL _ _ (fun y => by rw [y, h03.free hL] at z; cases z) (h03 _ _ z), ?_, upd_same, Reps.nil⟩⟩, ?_⟩
    · refine tbl_rep (tbl_cong (H1 := upd H3 L (.lst [])) (fun b z => fz_at (fr1 b z).2 (nCO b z)) (tbl_same T1' fun b u z e => sL _ _ (fun y => nCO b z (y ▸ List.mem_cons_self)) (s3 _ _ e)))
    intro k σ H' hw
    obtain ⟨Tt, left, sp, xs, v5, v6, v7, rfl, rfl, LP, hT, sm, rC, hL', rS⟩ := (hW _ _ _).mp hw
    refine ⟨_, rfl, _, _, rfl, rfl, _, rfl, ?_⟩
    show if decide ((0 : Int) < left) = true then _ else _
    by_cases hlt : 0 < left
    case neg =>
      rw [if_neg (by rw [decide_eq_false hlt]; decide)]
      refine ⟨_, rfl, ?_⟩
      have l0 : left = 0 := by have := LP.ev.left_nn (by omega); omega
      subst l0
      obtain ⟨d1, d2, d3⟩ := LP.done
      exact fin (.lst (sp.map Tm.spellD)) (.ref L) (Fz F H (R :: bs) H') H' (q m sp hm ⟨LP.ok, d1, d2, d3⟩) (fz_grow s0 sm) ⟨L, xs, rfl, by rw [fz_at (hO L List.mem_cons_self) nLR]; exact hL', Reps.mono (fz_less fun b z => List.mem_cons_of_mem _ z) _ rS⟩
    rw [if_pos (decide_eq_true hlt)]
    refine ⟨fun σ' H'' => ∃ k', k' < (Tm.np (rows.length + c) (Tm.ent Tt)).toNat ∧ W k' σ' H'', fun _ _ z => z, ?_⟩
    have bl : bs.length = rows.length + c := by rw [hT.2.1]; exact LP.tl
    -- pairs_left(rest)
    refine ⟨_, rfl, Tm.dcall (Qd := fun d => d = .lst ((Tm.leftL Tt).map Jn.pairD)) [.lst (Tt.map ordD)] rfl (Reps.cons (tbl_rep hT) Reps.nil) ⟨Tt, rfl, by rw [LP.tl]; exact n12, fun r z => by rw [LP.rl r z]; exact n12, rfl⟩ (fun dd v F4 Ha hd sa sFa rp _ => ?_)⟩
    cases hd
    -- list(range(len(rest)))
    refine ⟨_, rfl, R, _, rfl, .inl (SqL.of (sa _ _ hT.1)), _, rfl, fun rr hrr => ⟨rr, (bs.map V.ref).length, rfl, upd_same, by rw [List.length_map]; omega, fun ll hll => ?_⟩⟩
    have sb : Same Ha (upd (upd Ha rr (.rng 0 ((bs.map V.ref).length : Nat))) ll (.lst (rngL (bs.map V.ref).length))) := fun b u z => by
      have n1 := ne_of_none z hrr
      have z' : upd Ha rr (.rng 0 ((bs.map V.ref).length : Nat)) b = some u := by rw [upd_ne n1]; exact z
      rw [upd_ne (ne_of_none z' hll)]
      exact z'
    have el : (bs.map V.ref).length = rows.length + c := by rw [List.length_map]; exact bl
    -- filled
    refine Tm.dcall (Qd := fun d => ∃ m1 m2, Jn.Mt (Tm.leftL Tt) m1 m2 ∧ (∀ i : Nat, i < rows.length + c → (m1 ((i : Nat) : Int)).isSome = true) ∧ d = .tup [.str "filled", .lst ((((List.range (rows.length + c)).map fun k => ((k : Nat) : Int)).map fun i => (m1 i).getD 0).map D.int)]) [.lst ((Tm.leftL Tt).map Jn.pairD), .lst (((List.range (rows.length + c)).map fun k => ((k : Nat) : Int)).map D.int)] rfl (Reps.cons (Rep.mono sb _ (Rep.mono sFa _ rp)) (Reps.cons ⟨ll, _, rfl, upd_same, ?_⟩ Reps.nil)) ⟨Tm.leftL Tt, _, rfl, ?_, ?_, ?_, ?_, ?_⟩ (fun dd v F5 Hc hd sc sFc rp2 _ => ?_)
    · have e : rngL (bs.map V.ref).length = (((List.range (rows.length + c)).map fun k => ((k : Nat) : Int)).map V.int) := by
        rw [el, List.map_map]
        rfl
      rw [e]
      exact Reps.ints _
    · have := Tm.left_len (T := Tt) (by rw [LP.tl]; exact n12) fun r z => by rw [LP.rl r z]; exact n12
      omega
    · rw [List.length_map, List.length_range]; omega
    · rw [List.nodup_iff_pairwise_ne, List.pairwise_map]
      exact (List.nodup_iff_pairwise_ne.mp (List.nodup_range (n := rows.length + c))).imp fun ne e => ne (by omega)
    · intro m1 m2 st cc M hst ms _ Sh
      obtain ⟨kk, hkk, rfl⟩ := List.mem_map.mp hst
      exact (Tm.no_crowd LP.tl LP.rl LP.ev hlt M ⟨kk, rfl, List.mem_range.mp hkk⟩ ms Sh).elim
    · intro m1 m2 M all_
      exact ⟨m1, m2, M, fun i hi => all_ _ (List.mem_map.mpr ⟨i, List.mem_range.mpr hi, rfl⟩), rfl⟩
    obtain ⟨m1, m2, M, all_, rfl⟩ := hd
    obtain ⟨cf, hcf, ci, inj, pos⟩ := Tm.joined LP.tl LP.rl M all_
    obtain ⟨tu, ys, rfl, htu, ry⟩ := rp2
    obtain ⟨_, _, rfl, _, _, _, rfl, ⟨lc, zs, rfl, hlc, rz⟩, r4⟩ := ry
    cases (show _ = [] from r4)
    rw [Reps.ints_eq rz] at hlc
    -- [1]
    refine ⟨tu, _, 1, .ref lc, rfl, rfl, SqT.of (sFc _ _ htu), rfl, ?_⟩
    -- pairs = list(enumerate(columns))
    refine ⟨_, rfl, lc, _, rfl, SqL.of (sFc _ _ hlc), fun p ts Hd sd hp0 lts ht0 hpd htd => ?_⟩
    have sHc : Same H' Hc := (sa.trans sb).trans sc
    have freshO : ∀ b, Hc b = none → b ∉ L :: R :: bs := fun b z y => by
      rcases List.mem_cons.mp y with rfl | y
      · rw [sHc.free z] at hL'; cases hL'
      · obtain ⟨v, hv, _⟩ := tbl_there hT b y
        rw [sHc.free z] at hv
        cases hv
    have freshH : ∀ b, Hc b = none → H b = none := fun b z => sm.free (sHc.free z)
    have hTd : TblR R bs Tt Hd := tbl_same hT fun b u _ z => sd _ _ (sHc _ _ z)
    rw [List.length_map, List.length_map, List.length_map, List.length_range] at lts
    have hts : ∀ (j : Nat) t, ts[j]? = some t → Hd t = some (.tup [.int ((j : Nat) : Int), .int ((cf j : Nat) : Int)]) := fun j t e => by
      have jl : j < rows.length + c := by rw [← lts]; exact (List.getElem?_eq_some_iff.mp e).1
      refine htd j t _ e ?_
      rw [List.getElem?_map, List.getElem?_map, List.getElem?_map, List.getElem?_range jl]
      show some (V.int ((m1 ((j : Nat) : Int)).getD 0)) = _
      rw [hcf j jl]
      rfl
    -- length = taken_off(rest, pairs)
    refine ⟨_, rfl, _, rfl, R, p, bs, ts, Tt, cf, rows.length + c, rfl, hTd, by omega, n12, LP.tl, LP.rl, ci, hpd, lts, hts, fun z => freshO p hp0 (List.mem_cons_of_mem _ z), fun len i0 T' He hi0 e0 hle tl' rl' hent hT' fr => ?_⟩
    -- left -= length
    refine ⟨_, rfl, _, rfl, _, _, rfl, rfl, ?_⟩
    -- spells.append((length, pairs_within(pairs, checked)))
    have keepE : ∀ b u, b ∉ L :: R :: bs → H' b = some u → He b = some u := fun b u n e => fr b u (sd _ _ (sHc _ _ e)) fun z => n (List.mem_cons_of_mem _ z)
    have sE : Same H He := fun b u e => keepE b u (fun z => by rw [hO b z] at e; cases e) (sm _ _ e)
    have hLe : He L = some (.lst xs) := fr L _ (sd _ _ (sHc _ _ hL')) nLR
    have fzE := fz_keep (F0 := F) s0 hO keepE
    have atE : ∀ b, Hc b = none → Fz F H (L :: R :: bs) He b = He b := fun b z => fz_at (freshH b z) (freshO b z)
    have rP : Rep K (Fz F H (L :: R :: bs) He) (.lst ((Tm.prs cf (rows.length + c)).map Jn.pairD)) (.ref p) := by
      refine ⟨p, _, rfl, by rw [atE p hp0]; exact fr p _ hpd fun z => freshO p hp0 (List.mem_cons_of_mem _ z), Reps.of ?_ fun j dd x ed ex' => ?_⟩
      · rw [List.length_map, List.length_map]
        unfold Tm.prs
        rw [List.length_map]
        exact lts.trans (List.length_range (n := rows.length + c)).symm
      · rw [List.getElem?_map] at ed ex'
        cases e1 : ts[j]? with
        | none => rw [e1] at ex'; cases ex'
        | some t =>
          rw [e1] at ex'
          cases Option.some.inj ex'
          have jl : j < rows.length + c := by rw [← lts]; exact (List.getElem?_eq_some_iff.mp e1).1
          have ep : (Tm.prs cf (rows.length + c))[j]? = some (((j : Nat) : Int), ((cf j : Nat) : Int)) := by
            unfold Tm.prs
            rw [List.getElem?_map]
            show Option.map _ (List.range (rows.length + c))[j]? = _
            rw [List.getElem?_range jl]
            rfl
          rw [ep] at ed
          cases Option.some.inj ed
          have tf := ht0 t (List.mem_of_getElem? e1)
          exact ⟨t, _, rfl, by rw [atE t tf]; exact fr t _ (hts j t e1) fun z => freshO t tf (List.mem_cons_of_mem _ z), Reps.cons rfl (Reps.cons rfl Reps.nil)⟩
    have pl : (Tm.prs cf (rows.length + c)).length = rows.length + c := by
      unfold Tm.prs
      rw [List.length_map]
      exact List.length_range
    obtain ⟨LP', npl⟩ := LP.step tl' rl' ci inj (len := len) (i0 := i0) (by have := pos i0 hi0; omega) hle hi0 e0 hent
    refine ⟨_, rfl, .inl ⟨rfl, _, SqL.of hLe⟩, _, rfl, _, rfl, _, rfl, Fz F H (L :: R :: bs) He, [.lst ((Tm.prs cf (rows.length + c)).map Jn.pairD), .lst (rows.map ordD)], (fun _ => False), (fun d => d = .lst ((Tm.within rows.length c (Tm.prs cf (rows.length + c))).map Jn.pairD)), rfl, fz_sub, Reps.cons rP (Reps.cons (Rep.mono fzE _ rC) Reps.nil), (fun C z => z.elim), ⟨_, rows, c, rfl, ok, by rw [pl]; omega, rfl⟩, fun dd v F6 Hf hd g6 rp6 => ?_⟩
    cases hd
    refine ⟨by show 2 ≤ sizeLine; omega, fun tp htp => ?_⟩
    have oE : ∀ b ∈ L :: R :: bs, ∃ xs, He b = some (.lst xs) := fun b z => by
      rcases List.mem_cons.mp z with rfl | z
      · exact ⟨_, hLe⟩
      · exact tbl_lst hT' b z
    have s6 := fz_new sE oE g6
    have hLf : Hf L = some (.lst xs) := g6.hh _ _ hLe
    have nLt : tp ≠ L := fun z => by rw [z, hLf] at htp; cases htp
    have keepG : ∀ b u, b ∉ L :: R :: bs → Hf b = some u → upd (upd Hf tp (.tup [.int len, v])) L (.lst (xs ++ [.ref tp])) b = some u := fun b u n e => by
      rw [upd_ne (fun z => n (by rw [z]; exact List.mem_cons_self)), upd_ne (ne_of_none e htp)]
      exact e
    have fzG := fz_keep (F0 := F) s0 hO keepG
    have keepF : Same (Fz F H (L :: R :: bs) He) (Fz F H (L :: R :: bs) Hf) := fz_keep s0 hO fun b u _ e => g6.hh _ _ e
    have xl : xs.length = sp.length := by have := rS.length; rw [List.length_map] at this; exact this
    have spl : sp.length ≤ 144 := by
      have h1 := LP.cnt
      have h2 := Tm.np_nn (rows.length + c) (Tm.ent Tt)
      have h3 : (rows.length + c) * (rows.length + c) ≤ 12 * 12 := Nat.mul_le_mul n12 n12
      have h4 : (((rows.length + c) * (rows.length + c) : Nat) : Int) = ((rows.length + c : Nat) : Int) * ((rows.length + c : Nat) : Int) := Int.natCast_mul _ _
      omega
    refine ⟨L, xs, _, rfl, rfl, by rw [upd_ne (Ne.symm nLt)]; exact hLf, by omega, _, ?_, (hW _ _ _).mpr ⟨T', left - len, _, _, _, _, _, rfl, rfl, LP', ?_, ?_, ?_, upd_same, ?_⟩⟩
    · have h1 := Tm.np_nn (rows.length + c) (Tm.ent T')
      omega
    · refine tbl_same hT' fun b u z e => ?_
      have n1 : b ≠ L := fun y => nLR (y ▸ z)
      have e2 := g6.hh _ _ e
      rw [upd_ne n1, upd_ne (ne_of_none e2 htp)]
      exact e2
    · exact fun b u e => keepG b u (fun z => by rw [hO b z] at e; cases e) (g6.hh _ _ (sE _ _ e))
    · exact Rep.mono fzG _ (Rep.mono keepF _ (Rep.mono fzE _ rC))
    · rw [List.map_append]
      refine Reps.append (Reps.mono fzG _ (Reps.mono keepF _ (Reps.mono fzE _ rS))) (Reps.cons ⟨tp, _, rfl, ?_, Reps.cons rfl (Reps.cons (Rep.mono fzG _ (Rep.mono s6 _ rp6)) Reps.nil)⟩ Reps.nil)
      rw [fz_at (sE.free (g6.hh.free htp)) (fun z => by obtain ⟨_, y⟩ := oE tp z; rw [g6.hh.free htp] at y; cases y), upd_ne nLt, upd_same]
theorem S_cell : FnScope ["_law_script", "_law_k"] ["_law_script", "_law_k"] (defScope s_cell) := ⟨rfl, rfl, rfl, by decide +kernel, rfl, by decide +kernel, by decide +kernel⟩
theorem ok_cell (T : Txt K mg a d) : FnOk P w K mg base (CXx P w) 1 a.cell d.cell ["_law_script", "_law_k"] (dSp K 2 (fCell)) := by
  refine dfn T.f_cell S_cell (fun cdv A outer s H E b hr => ?_)
  have S := S_cell
  refine ⟨_, (dss_cons (ds_if (dt_lt (dv 1) (de_len rfl T.len (da_cons (dv 0) da_nil))) (dss_one (ds_ret (de_at (dv 0) (dv 1)))) dss_nil) (dss_one (ds_ret de_int))), fun ds Ex Q hl h => ?_⟩
  obtain ⟨ns, k, rfl, hk, q⟩ := h
  show if decide (k < ((ns.length : Nat) : Int)) = true then ∃ n, atI ns k = some n ∧ Q (.int n) else Q (.int 0)
  unfold cellAt at q
  refine ite2 (fun z => ?_) (fun z => ?_)
  · have z := of_decide_eq_true z
    rw [if_pos z] at q
    have hlt : k.toNat < ns.length := by omega
    refine ⟨ns.getD k.toNat 0, ?_, q⟩
    have e := atI_nat (xs := ns) (j := k.toNat) (v := ns.getD k.toNat 0) (by rw [List.getD_eq_getElem?_getD, List.getElem?_eq_getElem hlt]; rfl)
    rw [show ((k.toNat : Nat) : Int) = k by omega] at e
    exact e
  · have z : ¬ k < ((ns.length : Nat) : Int) := fun y => z (decide_eq_true y)
    rw [if_neg z] at q
    exact q
theorem S_mix : FnScope ["_law_cell_here", "_law_prime", "_law_many"] ["_law_cell_here", "_law_prime", "_law_many"] (defScope s_mix) := ⟨rfl, rfl, rfl, by decide +kernel, rfl, by decide +kernel, by decide +kernel⟩
theorem ok_mix (T : Txt K mg a d) : FnOk P w K mg base (CXx P w) 1 a.mix d.mix ["_law_cell_here", "_law_prime", "_law_many"] (dSp K 3 (fMix)) := by
  refine dfn T.f_mix S_mix (fun cdv A outer s H E b hr => ?_)
  have S := S_mix
  refine ⟨_, (dss_one (ds_ret (de_mod (de_mod (de_mul (dv 0) de_int) (dv 1)) (dv 2)))), fun ds Ex Q hl h => ?_⟩
  obtain ⟨c, p, m, rfl, hp, hm, q⟩ := h
  exact ⟨.inr ⟨by decide, by decide⟩, hp, hm, q⟩
theorem S_lwhole : FnScope ["_law_found"] ["_law_found"] (defScope s_lwhole) := ⟨rfl, rfl, rfl, by decide +kernel, rfl, by decide +kernel, by decide +kernel⟩
theorem ok_lwhole (T : Txt K mg a d) : FnOk P w K mg base (CXx P w) 1 a.lwhole d.lwhole ["_law_found"] (dSp K 1 (fWhole)) := by
  refine dfn T.f_lwhole S_lwhole (fun cdv A outer s H E b hr => ?_)
  have S := S_lwhole
  refine ⟨_, (dss_one (ds_ret (de_and (de_isi .int rfl rfl T.isi rfl T.int_ (dv 0)) (de_one (de_not (de_isi .bool rfl rfl T.isi rfl T.bool_ (dv 0))))))), fun ds Ex Q hl h => ?_⟩
  obtain ⟨v, rfl, hn, q⟩ := h
  cases v <;> first | exact absurd (show false = true from hn) Bool.false_ne_true | exact q
theorem S_ltab : FnScope ["_law_script", "_law_rows", "_law_columns", "_law_most", "_law_found", "_law_r", "_law_row", "_law_c", "_law_cell_here", "_law_number"] ["_law_script"] (defScope s_ltab) := ⟨rfl, rfl, rfl, by decide +kernel, rfl, by decide +kernel, by decide +kernel⟩
theorem ok_ltab (T : Txt K mg a d) : FnOk P w K mg base (CXx P w) 2 a.ltab d.ltab ["_law_script"] (q2Sp K 1 (fLTable)) := by
  have G_cell : FnOk P w K mg base (CXx P w) 1 a.cell d.cell ["_law_script", "_law_k"] (dSp K 2 (fCell)) := ok_cell T
  have G_mix : FnOk P w K mg base (CXx P w) 1 a.mix d.mix ["_law_cell_here", "_law_prime", "_law_many"] (dSp K 3 (fMix)) := ok_mix T
  refine qfn T.f_ltab S_ltab (fun cdv A outer s H E b hr => ?_)
  have S := S_ltab
  refine ⟨_, (dss_cons (ds_set (i := 1) S.nd rfl (Or.inl rfl) (de_add de_int (de_mod (de_call G_cell (hr.mono (by first | decide | omega)) rfl T.g_cell T.f_cell.kp T.b_cell b.pass_ (da_cons (dv 0) (da_cons de_int da_nil))) de_int))) (dss_cons (ds_set (i := 2) S.nd rfl (Or.inl rfl) (de_add de_int (de_mod (de_call G_cell (hr.mono (by first | decide | omega)) rfl T.g_cell T.f_cell.kp T.b_cell b.pass_ (da_cons (dv 0) (da_cons de_int da_nil))) de_int))) (dss_cons (ds_set (i := 3) S.nd rfl (Or.inl rfl) (de_at (DF.de (df_lst (da_cons de_int (da_cons de_int (da_cons de_int da_nil))))) (de_mod (de_call G_cell (hr.mono (by first | decide | omega)) rfl T.g_cell T.f_cell.kp T.b_cell b.pass_ (da_cons (dv 0) (da_cons de_int da_nil))) de_int))) (dss_cons (ds_own (i := 4) S.nd rfl (Or.inl rfl) (df_lst da_nil)) (dss_tbl 4 (dss_cons (ds_loop b (ds_for (loop_passes b) rfl (di_range rfl T.range (da_cons (dv 1) da_nil)) (dg_name (i := 5) S.nd rfl (Or.inl rfl)) (dss_cons (ds_own (i := 6) S.nd rfl (Or.inl rfl) (df_lst da_nil)) (dss_cons (ds_for (loop_passes b) rfl (di_range rfl T.range (da_cons (dv 2) da_nil)) (dg_name (i := 7) S.nd rfl (Or.inl rfl)) (dss_cons (ds_set (i := 8) S.nd rfl (Or.inl rfl) (de_add (de_add (de_call G_cell (hr.mono (by first | decide | omega)) rfl T.g_cell T.f_cell.kp T.b_cell (loop_pass b) (da_cons (dv 0) (da_cons (de_add de_int (de_mod (de_add (de_mul (dv 2) (dv 5)) (dv 7)) de_int)) da_nil))) (de_mul (de_mul de_int (dv 5)) (dv 5))) (de_mul (de_mul de_int (dv 7)) (dv 7)))) (dss_cons (ds_set (i := 9) S.nd rfl (Or.inl rfl) (de_call G_mix (hr.mono (by first | decide | omega)) rfl T.g_mix T.f_mix.kp T.b_mix (loop_pass b) (da_cons (dv 8) (da_cons de_int (da_cons (dv 3) da_nil))))) (dss_cons (ds_if (dt_eq hr.units (de_call G_mix (hr.mono (by first | decide | omega)) rfl T.g_mix T.f_mix.kp T.b_mix (loop_pass b) (da_cons (dv 8) (da_cons de_int (da_cons de_int da_nil)))) de_int) (dss_one (ds_set (i := 9) S.nd rfl (Or.inl rfl) de_int)) dss_nil) (dss_one (ds_append (i := 6) rfl (Or.inl rfl) (dv 9))))))) (dss_one (ds_appRow (i := 4) (j := 6) rfl (Or.inl rfl) rfl (Or.inl rfl))))))) (dss_one (ds_retT (i := 4) rfl (Or.inl rfl))))))))), fun ds Ex Q hl h => ?_⟩
  obtain ⟨ns, rfl, q⟩ := h
  have hsl : sizeLine = 16777216 := sizeLine_eq
  obtain ⟨nr, hnr, r1, r2⟩ := modN (c := cellAt ns 0) (m := 6) 1 (by decide)
  have hnr : (1 : Int) + cellAt ns 0 % 6 = ((nr : Nat) : Int) := hnr
  obtain ⟨nc, hnc, c1, c2⟩ := modN (c := cellAt ns 1) (m := 6) 1 (by decide)
  have hnc : (1 : Int) + cellAt ns 1 % 6 = ((nc : Nat) : Int) := hnc
  refine ⟨rfl, ns, 0, rfl, by decide, by show (0 : Int) < 6; decide, ?_⟩
  dsimp only [hAdd, hII]
  rw [hnr]
  refine ⟨rfl, ns, 1, rfl, by decide, by show (0 : Int) < 6; decide, ?_⟩
  dsimp only [hAdd, hII]
  rw [hnc]
  refine ⟨by show 3 ≤ sizeLine; omega, rfl, ns, 2, rfl, by decide, by show (0 : Int) < 3; decide, ?_⟩
  obtain ⟨mo, hmo, m1, m2⟩ : ∃ mo : Int, atI [D.int 4, .int 10, .int 100] (cellAt ns 2 % 3) = some (.int mo) ∧ 0 < mo ∧ mo ≤ 100 := by
    have h0 := Int.emod_nonneg (cellAt ns 2) (show (3 : Int) ≠ 0 by decide)
    have h1 := Int.emod_lt_of_pos (cellAt ns 2) (show (0 : Int) < 3 by decide)
    obtain ⟨k, hk⟩ : ∃ k : Nat, cellAt ns 2 % 3 = ((k : Nat) : Int) := ⟨(cellAt ns 2 % 3).toNat, by omega⟩
    rw [hk]
    match k, (show k < 3 by omega) with
    | 0, _ => exact ⟨4, atI_nat (j := 0) rfl, by decide, by decide⟩
    | 1, _ => exact ⟨10, atI_nat (j := 1) rfl, by decide, by decide⟩
    | 2, _ => exact ⟨100, atI_nat (j := 2) rfl, by decide, by decide⟩
  refine ⟨.int mo, hmo, ?_⟩
  refine ⟨by show 0 ≤ sizeLine; omega, rfl, fun a0 => ?_⟩
  refine ⟨by show -(2 ^ 62 : Int) ≤ ((nr : Nat) : Int); omega, by show ((nr : Nat) : Int) < 2 ^ 62; omega, ?_⟩
  rw [Int.toNat_natCast]
  refine ⟨fun k env => ∃ a as rows s5 s6 s7 s8 s9, env = [.sh (.scr ns), .sh (.int (nr : Nat)), .sh (.int (nc : Nat)), .sh (.int mo), tblS a as rows, s5, s6, s7, s8, s9] ∧ as.length = k ∧ rows.length = k ∧ ∀ r ∈ rows, r.length = nc ∧ ∀ x ∈ r, 0 ≤ x ∧ x ≤ 99, ⟨a0, [], [], _, _, _, _, _, rfl, rfl, rfl, fun r hr => nomatch hr⟩, ?_, ?_⟩
  · rintro k dd env hd ⟨a', as, rows, s5, s6, s7, s8, s9, rfl, la, lr, hrows⟩
    obtain ⟨klt, rfl⟩ := intsTo_at hd
    refine ⟨by show 0 ≤ sizeLine; omega, ?_⟩
    refine ⟨by show -(2 ^ 62 : Int) ≤ ((nc : Nat) : Int); omega, by show ((nc : Nat) : Int) < 2 ^ 62; omega, ?_⟩
    rw [Int.toNat_natCast]
    refine ⟨fun j env => ∃ xs s7 s8 s9, env = [.sh (.scr ns), .sh (.int (nr : Nat)), .sh (.int (nc : Nat)), .sh (.int mo), tblS a' as rows, .sh (.int (k : Nat)), .own (xs.map D.int), s7, s8, s9] ∧ xs.length = j ∧ ∀ x ∈ xs, 0 ≤ x ∧ x ≤ 99, ⟨[], _, _, _, rfl, rfl, fun x hx => nomatch hx⟩, ?_, ?_⟩
    · rintro j dd env hd ⟨xs, s7, s8, s9, rfl, lx, hxs⟩
      obtain ⟨jlt, rfl⟩ := intsTo_at hd
      refine ⟨.inl ⟨by omega, by omega⟩, by show (0 : Int) < 36; decide, rfl, ns, _, rfl, ?_, .inl ⟨by decide, by decide⟩, .inr ⟨by omega, by omega⟩, .inl ⟨by decide, by decide⟩, .inr ⟨by omega, by omega⟩, ?_⟩
      · show (0 : Int) ≤ 3 + (((nc : Nat) : Int) * ((k : Nat) : Int) + ((j : Nat) : Int)) % 36
        have := Int.emod_nonneg (((nc : Nat) : Int) * ((k : Nat) : Int) + ((j : Nat) : Int)) (show (36 : Int) ≠ 0 by decide)
        omega
      · obtain ⟨cc, hcc⟩ : ∃ cc : Int, cc = cellAt ns (3 + (((nc : Nat) : Int) * ((k : Nat) : Int) + ((j : Nat) : Int)) % 36) + 17 * ((k : Nat) : Int) * ((k : Nat) : Int) + 5 * ((j : Nat) : Int) * ((j : Nat) : Int) := ⟨_, rfl⟩
        refine ⟨rfl, cc, 9973, mo, by rw [hcc] <;> rfl, by decide, m1, ?_⟩
        dsimp only
        refine seq_key (P := fun e => ∃ c' v, 0 ≤ v ∧ v ≤ 99 ∧ e = [.sh (.scr ns), .sh (.int (nr : Nat)), .sh (.int (nc : Nat)), .sh (.int mo), tblS a' as rows, .sh (.int (k : Nat)), .own (xs.map D.int), .sh (.int (j : Nat)), .sh (.int c'), .sh (.int v)]) ?_ ?_
        rotate_left
        · intro key
          refine ⟨rfl, cc, 9967, 3, by rw [hcc] <;> rfl, by decide, by decide, ?_⟩
          show if decide (cc * 48271 % 9967 % 3 = 0) = true then _ else _
          refine ite2 (fun _ => ?_) (fun _ => ?_)
          · exact key _ ⟨_, 0, by decide, by decide, rfl⟩
          · have h0 := Int.emod_nonneg (cc * 48271 % 9973) (show mo ≠ 0 by omega)
            have h1 := Int.emod_lt_of_pos (cc * 48271 % 9973) m1
            exact key _ ⟨_, _, h0, by omega, rfl⟩
        rintro _ ⟨c', v, v0, v99, rfl⟩
        refine ⟨by rw [List.length_map]; omega, xs ++ [v], _, _, _, by rw [List.map_append]; rfl, by rw [List.length_append, lx]; rfl, fun x hx => ?_⟩
        rcases List.mem_append.mp hx with hx | hx
        · exact hxs x hx
        · rw [List.mem_singleton.mp hx]
          exact ⟨v0, v99⟩
    · rintro env ⟨xs, s7, s8, s9, rfl, lx, hxs⟩
      refine ⟨a', as, rows, xs, rfl, rfl, by decide, by omega, fun b => ⟨a', as ++ [b], rows ++ [xs], _, _, _, _, _, rfl, ?_, ?_, fun r hr => ?_⟩⟩
      · rw [List.length_append, la]; rfl
      · rw [List.length_append, lr]; rfl
      · rcases List.mem_append.mp hr with hr | hr
        · exact hrows r hr
        · rw [List.mem_singleton.mp hr]
          refine ⟨?_, hxs⟩
          rw [lx]
          simp [intsTo]
  · rintro env ⟨a', as, rows, s5, s6, s7, s8, s9, rfl, la, lr, hrows⟩
    have ln : (intsTo nr).length = nr := by simp [intsTo]
    rw [ln] at la lr
    exact ⟨a', as, rows, rfl, a', as, rows, rfl, q rows nc ⟨by omega, by omega, by omega, by omega, hrows⟩⟩
theorem S_spell : FnScope ["_law_one", "_law_rows", "_law_columns", "_law_k", "_law_pair", "_law_ins", "_law_outs"] ["_law_one", "_law_rows", "_law_columns"] (defScope s_spell) := ⟨rfl, rfl, rfl, by decide +kernel, rfl, by decide +kernel, by decide +kernel⟩
theorem ok_spell (T : Txt K mg a d) : FnOk P w K mg base (CXx P w) 2 a.spell d.spell ["_law_one", "_law_rows", "_law_columns"] (dSp K 3 (Tm.fSpell)) := by
  have G_lwhole : FnOk P w K mg base (CXx P w) 1 a.lwhole d.lwhole ["_law_found"] (dSp K 1 (fWhole)) := ok_lwhole T
  refine dfn T.f_spell S_spell (fun cdv A outer s H E b hr => ?_)
  have S := S_spell
  refine ⟨_, (dss_cons (ds_if (DW.dt (dw_or (dt_not (dt_val (de_isi .tuple rfl rfl T.isi rfl T.tuple_ (dv 0)))) (dw_or (dt_ne hr.units (de_len rfl T.len (da_cons (dv 0) da_nil)) de_int) (dw_or (dt_not (dt_val (de_call G_lwhole (hr.mono (by first | decide | omega)) rfl T.g_lwhole T.f_lwhole.kp T.b_lwhole b.pass_ (da_cons (de_at (dv 0) de_int) da_nil)))) (dw_or1 (dt_lt (de_at (dv 0) de_int) de_int)))))) (dss_one (ds_ret de_bl)) dss_nil) (dss_cons (ds_if (dt_not (dt_val (de_isi .list rfl rfl T.isi rfl T.list_ (de_at (dv 0) de_int)))) (dss_one (ds_ret de_bl)) dss_nil) (dss_cons (ds_loop b (ds_for (loop_passes b) rfl (di_enum rfl T.enum_ (da_cons (de_at (dv 0) de_int) da_nil)) (dg_pair (i := 3) (j := 4) rfl S.nd rfl rfl (Or.inl rfl) (Or.inl rfl)) (dss_cons (ds_if (DW.dt (dw_or (dt_not (dt_val (de_isi .tuple rfl rfl T.isi rfl T.tuple_ (dv 4)))) (dw_or (dt_ne hr.units (de_len rfl T.len (da_cons (dv 4) da_nil)) de_int) (dw_or (dt_not (dt_val (de_call G_lwhole (hr.mono (by first | decide | omega)) rfl T.g_lwhole T.f_lwhole.kp T.b_lwhole (loop_pass b) (da_cons (de_at (dv 4) de_int) da_nil)))) (dw_or1 (dt_not (dt_val (de_call G_lwhole (hr.mono (by first | decide | omega)) rfl T.g_lwhole T.f_lwhole.kp T.b_lwhole (loop_pass b) (da_cons (de_at (dv 4) de_int) da_nil))))))))) (dss_one (ds_ret de_bl)) dss_nil) (dss_one (ds_if (DW.dt (dw_or (dt_not (dt_lelt de_int (de_at (dv 4) de_int) (dv 1))) (dw_or (dt_not (dt_lelt de_int (de_at (dv 4) de_int) (dv 2))) (dw_or1 (DW.dt (dw_and (dt_gt (dv 3) de_int) (dw_and1 (dt_leP hr.units (dv 4) (de_at (de_at (dv 0) de_int) (de_sub (dv 3) de_int)))))))))) (dss_one (ds_ret de_bl)) dss_nil))))) (dss_cons (ds_ownCM (i := 5) S.nd rfl (Or.inl rfl) rfl (di_list (de_at (dv 0) de_int)) (compT (cl := []) (tn := ["_law_pair"]) (fn := []) (fv := []) rfl (by decide +kernel) (by decide +kernel) rfl (by repeat' (first | exact trivial | refine ⟨(fun _ => ⟨_, rfl⟩), ?_⟩ | refine ⟨(fun z => by cases z), ?_⟩)) .nil) (fun _ _ _ _ _ => pg_name (i := 0) (show (["_law_pair"] : List Str).Nodup by decide +kernel) rfl (Or.inl rfl)) ub_name (fun _ _ _ _ _ => (de_at (dv 0) de_int))) (dss_cons (ds_ownCM (i := 6) S.nd rfl (Or.inl rfl) rfl (di_list (de_at (dv 0) de_int)) (compT (cl := []) (tn := ["_law_pair"]) (fn := []) (fv := []) rfl (by decide +kernel) (by decide +kernel) rfl (by repeat' (first | exact trivial | refine ⟨(fun _ => ⟨_, rfl⟩), ?_⟩ | refine ⟨(fun z => by cases z), ?_⟩)) .nil) (fun _ _ _ _ _ => pg_name (i := 0) (show (["_law_pair"] : List Str).Nodup by decide +kernel) rfl (Or.inl rfl)) ub_name (fun _ _ _ _ _ => (de_at (dv 0) de_int))) (dss_freeze 5 (dss_freeze 6 (dss_one (ds_ret (de_and (de_eq hr.units (de_lenSetI rfl rfl T.len rfl T.set_ (da_cons (dv 5) da_nil)) (de_len rfl T.len (da_cons (dv 5) da_nil))) (de_one (de_eq hr.units (de_lenSetI rfl rfl T.len rfl T.set_ (da_cons (dv 6) da_nil)) (de_len rfl T.len (da_cons (dv 6) da_nil)))))))))))))), fun ds Ex Q hl h => ?_⟩
  obtain ⟨s, R, c, rfl, ok, l100, q⟩ := h
  have hsl : sizeLine = 16777216 := sizeLine_eq
  obtain ⟨len, prs⟩ := s
  have h1 : 1 ≤ len := ok.len
  refine ⟨.int len, atI_nat (j := 0) rfl, rfl, _, rfl, rfl, .int len, atI_nat (j := 0) rfl, ?_⟩
  show if decide (len < 1) = true then _ else _
  rw [decide_eq_false (by omega)]
  refine ⟨.lst (prs.map Jn.pairD), atI_nat (j := 1) rfl, .lst (prs.map Jn.pairD), atI_nat (j := 1) rfl, ?_⟩
  refine ⟨fun k env => ∃ s1 s2, env = [.sh (.tup [.int len, .lst (prs.map Jn.pairD)]), .sh (.int ((R : Nat) : Int)), .sh (.int ((c : Nat) : Int)), s1, s2, .un, .un], ⟨_, _, rfl⟩, ?_, ?_⟩
  · rintro k dd env hd ⟨s1, s2, rfl⟩
    rw [pairI_get, Nat.zero_add, List.getElem?_map] at hd
    cases e : prs[k]? with
    | none => rw [e] at hd; cases hd
    | some x =>
      rw [e] at hd
      cases hd
      obtain ⟨a1, a2, a3, a4⟩ := ok.at_ x (List.mem_of_getElem? e)
      refine ⟨.int x.1, atI_nat (j := 0) rfl, rfl, _, rfl, rfl, .int x.2, atI_nat (j := 1) rfl, rfl, _, rfl, rfl, ?_⟩
      refine ⟨.int x.1, atI_nat (j := 0) rfl, ?_⟩
      show if decide ((0 : Int) ≤ x.1) = true then _ else _
      rw [decide_eq_true a1]
      show if (!decide (x.1 < ((R : Nat) : Int))) = true then _ else _
      rw [decide_eq_true a2]
      refine ⟨.int x.2, atI_nat (j := 1) rfl, ?_⟩
      show if decide ((0 : Int) ≤ x.2) = true then _ else _
      rw [decide_eq_true a3]
      show if (!decide (x.2 < ((c : Nat) : Int))) = true then _ else _
      rw [decide_eq_true a4]
      show if decide (((k : Nat) : Int) > 0) = true then _ else _
      cases k with
      | zero => exact ⟨_, _, rfl⟩
      | succ m =>
        rw [decide_eq_true (by omega)]
        have hm : m < prs.length := by have := (List.getElem?_eq_some_iff.mp e).1; omega
        obtain ⟨y, hy⟩ : ∃ y, prs[m]? = some y := ⟨_, List.getElem?_eq_getElem hm⟩
        have lt : y.1 < x.1 := by
          have z := List.pairwise_iff_getElem.mp ok.rise m (m + 1) hm (List.getElem?_eq_some_iff.mp e).1 (by omega)
          rw [(List.getElem?_eq_some_iff.mp e).2, (List.getElem?_eq_some_iff.mp hy).2] at z
          exact z
        refine ⟨.lst (prs.map Jn.pairD), atI_nat (j := 1) rfl, Jn.pairD y, ?_, x, y, rfl, rfl, ?_⟩
        · rw [show (((m + 1 : Nat) : Int) - 1) = ((m : Nat) : Int) by omega]
          exact atI_nat (by rw [List.getElem?_map, hy]; rfl)
        · have : ltP y x = true := by
            unfold ltP
            rw [if_neg (by omega), decide_eq_true lt]
          rw [this]
          exact ⟨_, _, rfl⟩
  · rintro env ⟨s1, s2, rfl⟩
    have all_ : ∀ ns : List Int, ns.Nodup → ∀ l : List Int, l.Nodup → (∀ x, x ∈ l ↔ x ∈ ns) → l.length = ns.length := fun ns nd l lnd mem =>
      Nat.le_antisymm (sub_len lnd fun x hx => (mem x).mp hx) (sub_len nd fun x hx => (mem x).mpr hx)
    have ins : (prs.map (·.1)).Nodup := by
      rw [List.nodup_iff_pairwise_ne, List.pairwise_map]
      exact ok.rise.imp fun h e => by omega
    refine ⟨.lst (prs.map Jn.pairD), atI_nat (j := 1) rfl, by rw [List.length_map]; show prs.length ≤ sizeLine; have : prs.length ≤ 100 := l100; omega, (fun d => match d with
      | .tup [x, _] => x
      | d => d), fun y hy => ?_, ?_⟩
    · obtain ⟨x, _, rfl⟩ := List.mem_map.mp hy
      exact ⟨_, rfl, .int x.1, atI_nat (j := 0) rfl, rfl⟩
    have m1 : (prs.map Jn.pairD).map (fun d => match d with
      | .tup [x, _] => x
      | d => d) = (prs.map (·.1)).map D.int := by
      rw [List.map_map, List.map_map]
      rfl
    rw [m1]
    refine ⟨.lst (prs.map Jn.pairD), atI_nat (j := 1) rfl, by rw [List.length_map]; show prs.length ≤ sizeLine; have : prs.length ≤ 100 := l100; omega, (fun d => match d with
      | .tup [_, x] => x
      | d => d), fun y hy => ?_, ?_⟩
    · obtain ⟨x, _, rfl⟩ := List.mem_map.mp hy
      exact ⟨_, rfl, .int x.2, atI_nat (j := 1) rfl, rfl⟩
    have m2 : (prs.map Jn.pairD).map (fun d => match d with
      | .tup [_, x] => x
      | d => d) = (prs.map (·.2)).map D.int := by
      rw [List.map_map, List.map_map]
      rfl
    rw [m2]
    have pl : prs.length ≤ 100 := l100
    refine ⟨_, rfl, by rw [List.length_map]; omega, fun l lnd mem => ?_⟩
    have e1 := all_ _ ins l lnd mem
    show if decide (((l.length : Nat) : Int) = ((((prs.map (·.1)).map D.int).length : Nat) : Int)) = true then _ else _
    rw [List.length_map (f := D.int), e1, decide_eq_true rfl]
    refine ⟨_, rfl, by rw [List.length_map]; omega, fun l2 lnd2 mem2 => ?_⟩
    have e2 := all_ _ ok.outs l2 lnd2 mem2
    show Q (.bl (decide (((l2.length : Nat) : Int) = ((((prs.map (·.2)).map D.int).length : Nat) : Int))))
    rw [List.length_map (f := D.int), e2, decide_eq_true rfl]
    exact q
end
end Ka09
set_option maxHeartbeats 4000000
namespace Ka09
open PySem L2
section
variable {P : Program} {w : World} {K : PySem.W.Frag} {mg : Str → Option Value} {base : Heap} {a : Ad} {d : Fd}
theorem S_law : FnScope ["_law_script", "_law_table_here", "_law_rows", "_law_columns", "_law_kept", "_law_found", "_law_left", "_law_one", "_law_r", "_law_c", "_law_due"] ["_law_script"] (defScope s_law) := ⟨rfl, rfl, rfl, by decide +kernel, rfl, by decide +kernel, by decide +kernel⟩
theorem ok_law (T : Txt K mg a d) : FnOk P w K mg base (CXx P w) 7 a.law d.law ["_law_script"] (dSp K 1 (fLaw)) := by
  have G_ltab : FnOk P w K mg base (CXx P w) 2 a.ltab d.ltab ["_law_script"] (q2Sp K 1 (fLTable)) := ok_ltab T
  have G_time : FnOk P w K mg base (CXx P w) 6 a.time d.time ["table"] (dSp K 1 Tm.fTime) := ok_time T
  have G_spell : FnOk P w K mg base (CXx P w) 2 a.spell d.spell ["_law_one", "_law_rows", "_law_columns"] (dSp K 3 (Tm.fSpell)) := ok_spell T
  refine dfn T.f_law S_law (fun cdv A outer s H E b hr => ?_)
  have S := S_law
  refine ⟨_, (dss_cons (ds_setQ (i := 1) S.nd rfl (Or.inr rfl) G_ltab (hr.mono (by first | decide | omega)) rfl T.g_ltab T.f_ltab.kp T.b_ltab b.pass_ (da_cons (dv 0) da_nil)) (dss_tblF 1 (dss_cons (ds_set (i := 2) S.nd rfl (Or.inl rfl) (de_len rfl T.len (da_cons (dv 1) da_nil))) (dss_cons (ds_set (i := 3) S.nd rfl (Or.inr rfl) (de_len rfl T.len (da_cons (de_at (dv 1) de_int) da_nil))) (dss_cons (ds_ownCM (i := 4) S.nd rfl (Or.inl rfl) rfl (di_list (dv 1)) (compT (cl := []) (tn := ["_law_row"]) (fn := []) (fv := []) rfl (by decide +kernel) (by decide +kernel) rfl (by repeat' (first | exact trivial | refine ⟨(fun _ => ⟨_, rfl⟩), ?_⟩ | refine ⟨(fun z => by cases z), ?_⟩)) .nil) (fun _ _ _ _ _ => pg_name (i := 0) (show (["_law_row"] : List Str).Nodup by decide +kernel) rfl (Or.inl rfl)) ub_name (fun _ _ _ _ _ => (DF.de (df_list rfl T.list_ (da_cons (dv 0) da_nil))))) (dss_freeze 4 (dss_cons (ds_set (i := 5) S.nd rfl (Or.inl rfl) (de_call G_time (hr.mono (by first | decide | omega)) rfl T.g_time T.f_time.kp T.b_time b.pass_ (da_cons (dv 4) da_nil))) (dss_cons (ds_if (DW.dt (dw_or (dt_not (dt_val (de_isi .list rfl rfl T.isi rfl T.list_ (dv 5)))) (dw_or (dt_ne hr.units (dv 4) (dv 1)) (dw_or1 (dt_gt (de_len rfl T.len (da_cons (dv 5) da_nil)) (de_mul (de_add (dv 2) (dv 3)) (de_add (dv 2) (dv 3)))))))) (dss_one (ds_ret de_bl)) dss_nil) (dss_cons (ds_tblC (i := 6) S.nd rfl (Or.inl rfl) rfl (di_list (dv 1)) (compT (cl := []) (tn := ["_law_row"]) (fn := []) (fv := []) rfl (by decide +kernel) (by decide +kernel) rfl (by repeat' (first | exact trivial | refine ⟨(fun _ => ⟨_, rfl⟩), ?_⟩ | refine ⟨(fun z => by cases z), ?_⟩)) .nil) (fun _ _ _ _ _ => pg_name (i := 0) (show (["_law_row"] : List Str).Nodup by decide +kernel) rfl (Or.inl rfl)) ub_name (fun _ _ _ _ _ => (df_list rfl T.list_ (da_cons (dv 0) da_nil)))) (dss_cons (ds_loop b (ds_for (loop_passes b) rfl (di_list (dv 5)) (dg_name (i := 7) S.nd rfl (Or.inl rfl)) (dss_cons (ds_if (dt_not (dt_val (de_call G_spell (hr.mono (by first | decide | omega)) rfl T.g_spell T.f_spell.kp T.b_spell (loop_pass b) (da_cons (dv 7) (da_cons (dv 2) (da_cons (dv 3) da_nil)))))) (dss_one (ds_ret de_bl)) dss_nil) (dss_one (ds_for (loop_passes b) rfl (di_list (de_at (dv 7) de_int)) (dg_pair (i := 8) (j := 9) rfl S.nd rfl rfl (Or.inl rfl) (Or.inl rfl)) (dss_one (ds_put2I (i := 6) rfl (Or.inl rfl) (de_lendI 6 (de_sub (de_at (de_at (dv 6) (dv 8)) (dv 9)) (de_at (dv 7) de_int))) (dv 8) (dv 9) (fun _ _ => rfl)))))))) (dss_tblF 6 (dss_cons (ds_set (i := 10) S.nd rfl (Or.inl rfl) (de_max rfl rfl T.max_ (da_cons (DF.de (df_cat (DF.de (df_compM rfl (di_list (dv 1)) (compT (cl := []) (tn := ["_law_row"]) (fn := []) (fv := []) rfl (by decide +kernel) (by decide +kernel) rfl (by repeat' (first | exact trivial | refine ⟨(fun _ => ⟨_, rfl⟩), ?_⟩ | refine ⟨(fun z => by cases z), ?_⟩)) .nil) (fun _ _ _ _ _ => pg_name (i := 0) (show (["_law_row"] : List Str).Nodup by decide +kernel) rfl (Or.inl rfl)) ub_name (fun _ _ _ _ _ => (de_sum rfl rfl T.sum_ (da_cons (dv 0) da_nil))))) (DF.de (df_compM1 rfl (di_range rfl T.range (da_cons (dv 3) da_nil)) (compC (x := "_law_c") (cl := [("_law_table_here", _)]) (tn := ["_law_c"]) (fn := ["_law_table_here"]) (fv := [1]) rfl (fun _ => rfl) (fun _ => rfl) (by decide +kernel) (by decide +kernel) rfl (by repeat' (first | exact trivial | refine ⟨(fun _ => ⟨_, rfl⟩), ?_⟩ | refine ⟨(fun z => by cases z), ?_⟩)) (.cons (y := "_law_table_here") (k := 1) .nil rfl rfl (.inr (.inl rfl)) rfl rfl) (by decide +kernel)) (fun _ _ _ _ _ => pg_name (i := 0) (show (["_law_c", "_law_table_here"] : List Str).Nodup by decide +kernel) rfl (Or.inr rfl)) ub_name (fun _ _ _ _ _ => (de_sum rfl rfl T.sum_ (da_cons (DF.de (df_compM rfl (di_list (dv 1)) (compT (cl := [("_law_c", _)]) (tn := ["_law_row"]) (fn := ["_law_c"]) (fv := [0]) rfl (by decide +kernel) (by decide +kernel) rfl (by repeat' (first | exact trivial | refine ⟨(fun _ => ⟨_, rfl⟩), ?_⟩ | refine ⟨(fun z => by cases z), ?_⟩)) (.cons (y := "_law_c") (k := 0) .nil rfl rfl (.inr (.inl rfl)) rfl rfl)) (fun _ _ _ _ _ => pg_name (i := 0) (show (["_law_row", "_law_c"] : List Str).Nodup by decide +kernel) rfl (Or.inl rfl)) ub_name (fun _ _ _ _ _ => (de_at (dv 0) (dv 1))))) da_nil))))))) da_nil))) (dss_one (ds_ret (de_and (de_eq hr.units (de_sum rfl rfl T.sum_ (da_cons (DF.de (df_compM rfl (di_list (dv 5)) (compT (cl := []) (tn := ["_law_one"]) (fn := []) (fv := []) rfl (by decide +kernel) (by decide +kernel) rfl (by repeat' (first | exact trivial | refine ⟨(fun _ => ⟨_, rfl⟩), ?_⟩ | refine ⟨(fun z => by cases z), ?_⟩)) .nil) (fun _ _ _ _ _ => pg_name (i := 0) (show (["_law_one"] : List Str).Nodup by decide +kernel) rfl (Or.inl rfl)) ub_name (fun _ _ _ _ _ => (de_at (dv 0) de_int)))) da_nil)) (dv 10)) (de_one (de_eq hr.units (dv 6) (DF.de (df_compM rfl (di_list (dv 1)) (compT (cl := [("_law_columns", _)]) (tn := ["_law_row"]) (fn := ["_law_columns"]) (fv := [3]) rfl (by decide +kernel) (by decide +kernel) rfl (by repeat' (first | exact trivial | refine ⟨(fun _ => ⟨_, rfl⟩), ?_⟩ | refine ⟨(fun z => by cases z), ?_⟩)) (.cons (y := "_law_columns") (k := 3) .nil rfl rfl (.inr (.inl rfl)) rfl rfl)) (fun _ _ _ _ _ => pg_name (i := 0) (show (["_law_row", "_law_columns"] : List Str).Nodup by decide +kernel) rfl (Or.inl rfl)) ub_name (fun _ _ _ _ _ => (DF.de (df_rep (DF.de (df_lst (da_cons de_int da_nil))) (dv 1))))))))))))))))))))))), fun ds Ex Q hl h => ?_⟩
  obtain ⟨ns, rfl, hl63, q⟩ := h
  have hsl : sizeLine = 16777216 := sizeLine_eq
  refine ⟨rfl, ns, rfl, fun rows c ok a0 as0 => ?_⟩
  obtain ⟨o1, o2, o3, o4, o5⟩ := id ok
  have lrows : (rows.map ordD).length = rows.length := List.length_map ..
  obtain ⟨r0, rows2, e0⟩ : ∃ r0 rows2, rows = r0 :: rows2 := by
    cases rows with
    | nil => exact absurd o1 (by simp)
    | cons o os => exact ⟨o, os, rfl⟩
  have l0 := (o5 r0 (by rw [e0]; exact List.mem_cons_self)).1
  have lr0 : (r0.map D.int).length = c := by rw [List.length_map]; exact l0
  have at0 : atI (rows.map ordD) (0 : Int) = some (ordD r0) := by rw [e0]; exact atI_nat (j := 0) rfl
  have gg : (okDs (rows.map ordD) = true ∧ okDs (rows.map ordD) = true ∧ hiDs (rows.map ordD) ≤ 40 ∧ cmpD (.lst (rows.map ordD)) (.lst (rows.map ordD)) = true) := ⟨okDs_ords rows, okDs_ords rows, Nat.le_trans (hiDs_ords rows) (by decide), by
    show ((_ != _) || cmpDs _ _) = true
    rw [cmpDs_ords, Bool.or_true]⟩
  have ee := eqDs_refl _ (okDs_ords rows)
  refine ⟨a0, as0, rows, rfl, ?_⟩
  refine ⟨ordD r0, at0, ?_⟩
  -- _law_kept
  refine ⟨by rw [lrows]; omega, (fun x => x), (fun x hx => ?_), ?_⟩
  · obtain ⟨o, ho, rfl⟩ := List.mem_map.mp hx
    exact ⟨_, rfl, rfl⟩
  rw [List.map_id']
  -- _law_found
  refine ⟨rfl, rows, c, rfl, ok, fun m sp hm tm => ?_⟩
  refine ⟨gg.1, gg.2.1, gg.2.2.1, gg.2.2.2, ?_⟩
  rw [ee]
  refine ⟨by rw [lrows, lr0]; exact .inl ⟨by omega, by omega⟩, ?_⟩
  show if decide (((((rows.map ordD).length : Nat) : Int) + (((r0.map D.int).length : Nat) : Int)) * ((((rows.map ordD).length : Nat) : Int) + (((r0.map D.int).length : Nat) : Int)) < (((sp.map Tm.spellD).length : Nat) : Int)) = true then _ else _
  have few : ¬ ((((rows.map ordD).length : Nat) : Int) + (((r0.map D.int).length : Nat) : Int)) * ((((rows.map ordD).length : Nat) : Int) + (((r0.map D.int).length : Nat) : Int)) < (((sp.map Tm.spellD).length : Nat) : Int) := by
    have h1 := tm.few
    have h4 : (((rows.length + c) * (rows.length + c) : Nat) : Int) = ((rows.length + c : Nat) : Int) * ((rows.length + c : Nat) : Int) := Int.natCast_mul _ _
    rw [lrows, lr0, List.length_map, ← Int.natCast_add]
    omega
  rw [if_neg (by rw [decide_eq_false few]; decide)]
  -- _law_left
  refine ⟨by rw [lrows]; omega, rowOf, (fun x hx => ?_), fun a6 as6 => ?_⟩
  · obtain ⟨o, _, rfl⟩ := List.mem_map.mp hx
    refine ⟨_, rfl, ?_⟩
    show o.map D.int = (rowOf (ordD o)).map D.int
    rw [rowOf_ord]
  rw [rowOf_rows]
  have spl : ∀ s ∈ sp, s.2.length ≤ 6 := fun s hs => by
    have k := (tm.ok s hs).rise
    have a := (tm.ok s hs).at_
    have nd : (s.2.map (·.1)).Nodup := by
      rw [List.nodup_iff_pairwise_ne, List.pairwise_map]
      exact k.imp fun h e => by omega
    have := Jn.nd_len (s.2.map (·.1)) ((List.range rows.length).map fun k => ((k : Nat) : Int)) nd fun x hx => by
      obtain ⟨p, hp, rfl⟩ := List.mem_map.mp hx
      have := a p hp
      exact List.mem_map.mpr ⟨p.1.toNat, List.mem_range.mpr (by omega), by omega⟩
    rw [List.length_map, List.length_map, List.length_range] at this
    omega
  refine ⟨fun k env => ∃ (Tk : List (List Int)) (s7 s8 s9 : DS), Tk.length = rows.length ∧ (∀ r ∈ Tk, r.length = c) ∧ (∀ a, a < rows.length → ∀ b, b < c → Tm.ent Tk a b = Tm.ent rows a b - Tm.ls (sp.take k) (Tm.inS a b)) ∧ env = [.sh (.scr ns), .sh (.lst (rows.map ordD)), .sh (.int (((rows.map ordD).length : Nat) : Int)), .sh (.int (((r0.map D.int).length : Nat) : Int)), .sh (.lst (rows.map ordD)), .sh (.lst (sp.map Tm.spellD)), tblS a6 as6 Tk, s7, s8, s9, .un], ⟨rows, _, _, _, rfl, fun r hr => (o5 r hr).1, fun a _ b _ => ?_, rfl⟩, ?_, ?_⟩
  · rw [List.take_zero, Tm.ls_nil]
    omega
  · rintro k dd env hd ⟨Tk, s7, s8, s9, tl, rl, hent, rfl⟩
    rw [List.getElem?_map] at hd
    cases es : sp[k]? with
    | none => rw [es] at hd; cases hd
    | some s =>
      rw [es] at hd
      cases hd
      have hs := List.mem_of_getElem? es
      have sok := tm.ok s hs
      have s6 := spl s hs
      refine ⟨rfl, s, (rows.map ordD).length, (r0.map D.int).length, rfl, by rw [lrows, lr0]; exact sok, by omega, ?_⟩
      refine ⟨.lst (s.2.map Jn.pairD), atI_nat (j := 1) rfl, fun j env => ∃ (T' : List (List Int)) (s8 s9 : DS), T'.length = rows.length ∧ (∀ r ∈ T', r.length = c) ∧ (∀ a, a < rows.length → ∀ b, b < c → Tm.ent T' a b = Tm.ent Tk a b - if (((a : Nat) : Int), ((b : Nat) : Int)) ∈ s.2.take j then s.1 else 0) ∧ env = [.sh (.scr ns), .sh (.lst (rows.map ordD)), .sh (.int (((rows.map ordD).length : Nat) : Int)), .sh (.int (((r0.map D.int).length : Nat) : Int)), .sh (.lst (rows.map ordD)), .sh (.lst (sp.map Tm.spellD)), tblS a6 as6 T', .sh (Tm.spellD s), s8, s9, .un], ⟨Tk, _, _, tl, rl, fun a _ b _ => ?_, rfl⟩, ?_, ?_⟩
      · rw [List.take_zero, if_neg (fun z => by cases z)]
        omega
      · rintro j dd env hd ⟨T', s8, s9, tl', rl', hent', rfl⟩
        rw [List.getElem?_map] at hd
        cases ep : s.2[j]? with
        | none => rw [ep] at hd; cases hd
        | some p =>
          rw [ep] at hd
          cases hd
          have hp := sok.at_ p (List.mem_of_getElem? ep)
          obtain ⟨x, y, rfl, hx, hy⟩ : ∃ x y : Nat, p = (((x : Nat) : Int), ((y : Nat) : Int)) ∧ x < rows.length ∧ y < c := ⟨p.1.toNat, p.2.toNat, Prod.ext (by show p.1 = ((p.1.toNat : Nat) : Int); omega) (by show p.2 = ((p.2.toNat : Nat) : Int); omega), by omega, by omega⟩
          have xl : x < T'.length := by omega
          have ex : T'[x]? = some (T'.getD x []) := by rw [List.getD_eq_getElem?_getD, List.getElem?_eq_getElem xl]; rfl
          have ly : (T'.getD x []).length = c := rl' _ (Tm.getD_mem xl)
          have ey : ((T'.getD x []).map D.int)[y]? = some (.int (Tm.ent T' x y)) := by
            rw [List.getElem?_map]
            unfold Tm.ent
            rw [List.getD_eq_getElem?_getD (l := T'.getD x []), List.getElem?_eq_getElem (by omega)]
            rfl
          refine ⟨a6, as6, T', rfl, a6, as6, T', rfl, ordD (T'.getD x []), atI_nat (by rw [List.getElem?_map, ex]; rfl), .int (Tm.ent T' x y), atI_nat ey, .int s.1, atI_nat (j := 0) rfl, Tm.ent T' x y - s.1, rfl, Tm.ent T' x y - s.1, rfl, x, _, rfl, ex, y, rfl, by omega, _, _, _, ?_, ?_, ?_, rfl⟩
          · rw [List.length_set]; exact tl'
          · intro r hr
            rcases List.mem_or_eq_of_mem_set hr with h | h
            · exact rl' r h
            · rw [h, List.length_set]; exact ly
          · intro a ha b hb
            rw [Tm.ent_set xl (by omega), List.take_add_one, ep]
            have h2 := hent' a ha b hb
            have nin : ((((x : Nat) : Int), ((y : Nat) : Int)) ∉ s.2.take j) := fun z => by
              obtain ⟨i, hi, e⟩ := List.getElem_of_mem z
              rw [List.length_take] at hi
              rw [List.getElem_take] at e
              have jl := (List.getElem?_eq_some_iff.mp ep).1
              have ej := (List.getElem?_eq_some_iff.mp ep).2
              have := List.pairwise_iff_getElem.mp sok.rise i j (by omega) jl (by omega)
              rw [e, ej] at this
              exact absurd this (by omega)
            by_cases e : a = x ∧ b = y
            · obtain ⟨rfl, rfl⟩ := e
              rw [if_neg nin] at h2
              rw [if_pos ⟨rfl, rfl⟩, if_pos (show ((((a : Nat) : Int), ((b : Nat) : Int)) ∈ s.2.take j ++ (some (((a : Nat) : Int), ((b : Nat) : Int))).toList) from List.mem_append_right _ List.mem_cons_self), h2]
              omega
            · rw [if_neg e, h2]
              congr 1
              have : ((((a : Nat) : Int), ((b : Nat) : Int)) ∈ s.2.take j ++ (some (((x : Nat) : Int), ((y : Nat) : Int))).toList) ↔ ((((a : Nat) : Int), ((b : Nat) : Int)) ∈ s.2.take j) := by
                rw [List.mem_append]
                refine ⟨fun z => z.elim id fun y' => ?_, .inl⟩
                have y' := List.mem_singleton.mp y'
                exact absurd ⟨by have := (Prod.mk.inj y').1; omega, by have := (Prod.mk.inj y').2; omega⟩ e
              by_cases i : ((((a : Nat) : Int), ((b : Nat) : Int)) ∈ s.2.take j)
              · rw [if_pos i, if_pos (this.mpr i)]
              · rw [if_neg i, if_neg fun z => i (this.mp z)]
      · rintro env ⟨T', s8, s9, tl', rl', hent', rfl⟩
        refine ⟨T', _, _, _, tl', rl', fun a ha b hb => ?_, rfl⟩
        have h1 := hent a ha b hb
        have h2 := hent' a ha b hb
        rw [List.length_map, List.take_length] at h2
        rw [List.take_add_one, es, Tm.ls_append]
        show _ = _ - (_ + Tm.ls [s] (Tm.inS a b))
        rw [Tm.ls_cons, Tm.ls_nil]
        unfold Tm.inS at h1 ⊢
        omega
  · rintro env ⟨Tk, s7, s8, s9, tl, rl, hent, rfl⟩
    rw [List.length_map, List.take_length] at hent
    refine ⟨a6, as6, Tk, rfl, ?_⟩
    refine ⟨by rw [lrows]; omega, (fun x => .int (rowOf x).sum), fun y hy => ?_, ?_⟩
    · obtain ⟨r, _, rfl⟩ := List.mem_map.mp hy
      refine ⟨_, rfl, r, rfl, ?_⟩
      show _ = D.int (rowOf (ordD r)).sum
      rw [rowOf_ord]
    refine ⟨by show -(2 ^ 62 : Int) ≤ (((r0.map D.int).length : Nat) : Int); omega, by show (((r0.map D.int).length : Nat) : Int) < 2 ^ 62; rw [List.length_map]; omega, ?_⟩
    rw [lr0, Int.toNat_natCast]
    refine ⟨by rw [intsTo_length]; omega, (fun x => .int (colAt rows (intOf8 x).toNat).sum), fun y hy => ?_, ?_⟩
    · obtain ⟨p, hp, rfl⟩ := List.mem_map.mp hy
      have hp := List.mem_range.mp hp
      refine ⟨_, rfl, by show (rows.map ordD).length ≤ sizeLine; rw [lrows]; omega, (fun x => .int ((rowOf x).getD p 0)), fun y hy => ?_, ?_⟩
      · obtain ⟨r, hr, rfl⟩ := List.mem_map.mp hy
        have hl := (o5 r hr).1
        refine ⟨_, rfl, .int r[p], atI_nat (j := p) (by rw [List.getElem?_map, List.getElem?_eq_getElem (by omega)]; rfl), ?_⟩
        show _ = D.int ((rowOf (ordD r)).getD p 0)
        rw [rowOf_ord, List.getD_eq_getElem?_getD, List.getElem?_eq_getElem (by omega)]
        rfl
      · refine ⟨colAt rows p, ?_, ?_⟩
        · unfold colAt
          rw [List.map_map, List.map_map]
          exact congrArg (fun l => [D.lst l]) (List.map_congr_left fun r _ => by show D.int ((rowOf (ordD r)).getD p 0) = _; rw [rowOf_ord]; rfl)
        · show _ = D.int (colAt rows (((p : Nat) : Int)).toNat).sum
          rw [Int.toNat_natCast]
    refine ⟨by rw [List.length_map, List.length_map, List.length_map, intsTo_length]; omega, ?_⟩
    have es : (rows.map ordD).map (fun x => D.int (rowOf x).sum) ++ (intsTo c).map (fun x => D.int (colAt rows (intOf8 x).toNat).sum) = (sumsT rows c).map D.int := by
      unfold sumsT colsT intsTo
      rw [List.map_append, List.map_append, List.map_map, List.map_map, List.map_map, List.map_map, List.map_map]
      refine congr (congrArg _ (List.map_congr_left fun r _ => ?_)) (List.map_congr_left fun p _ => ?_)
      · show D.int (rowOf (ordD r)).sum = _
        rw [rowOf_ord]
        rfl
      · show D.int (colAt rows (((p : Nat) : Int)).toNat).sum = _
        rw [Int.toNat_natCast]
        rfl
    refine ⟨sumsT rows c, by rw [es], ?_, fun m3 h1 h2 => ?_⟩
    · unfold sumsT
      rw [List.length_map, List.length_append]
      omega
    have em : m3 = m := isMost.un ⟨h1, h2⟩ hm
    subst em
    have spn : sp.length ≤ 144 := by
      have h3 : (rows.length + c) * (rows.length + c) ≤ 12 * 12 := Nat.mul_le_mul (by omega) (by omega)
      have := tm.few
      omega
    refine ⟨by rw [List.length_map]; omega, (fun d => match d with
      | .tup [.int n, _] => .int n
      | d => d), fun y hy => ?_, ?_⟩
    · obtain ⟨s, _, rfl⟩ := List.mem_map.mp hy
      exact ⟨_, rfl, .int s.1, atI_nat (j := 0) rfl, rfl⟩
    refine ⟨sp.map (·.1), by rw [List.map_map, List.map_map]; rfl, ?_⟩
    show if decide ((sp.map (·.1)).sum = m3) = true then _ else _
    rw [if_pos (decide_eq_true (show (sp.map (·.1)).sum = m3 from tm.sm))]
    refine ⟨by rw [lrows]; omega, (fun _ => ordD (List.replicate c 0)), fun y hy => ?_, ?_⟩
    · refine ⟨_, rfl, by show 1 ≤ sizeLine; omega, by show -(2 ^ 63 : Int) ≤ ((c : Nat) : Int); omega, by show ((c : Nat) : Int) < 2 ^ 63; omega, by show 1 * (((c : Nat) : Int)).toNat ≤ sizeLine; omega, ?_⟩
      show D.lst (List.replicate (((c : Nat) : Int)).toNat [D.int 0]).flatten = _
      rw [Int.toNat_natCast, List.flatten_replicate_singleton]
      unfold ordD
      rw [List.map_replicate]
    have ez : (rows.map ordD).map (fun _ => ordD (List.replicate c 0)) = Tk.map ordD := by
      rw [List.map_map]
      refine List.ext_getElem? fun i => ?_
      rw [List.getElem?_map, List.getElem?_map]
      by_cases hi : i < rows.length
      · rw [List.getElem?_eq_getElem hi, List.getElem?_eq_getElem (show i < Tk.length by omega)]
        show some (ordD (List.replicate c 0)) = some (ordD Tk[i])
        have er : Tk[i] = List.replicate c 0 := by
          refine List.eq_replicate_iff.mpr ⟨rl _ (List.getElem_mem _), fun z hz => ?_⟩
          obtain ⟨b, hb, e⟩ := List.getElem_of_mem hz
          have hb' : b < c := by rw [rl _ (List.getElem_mem _)] at hb; exact hb
          have h1 := hent i hi b hb'
          rw [tm.cell i hi b hb'] at h1
          unfold Tm.ent at h1
          rw [List.getD_eq_getElem?_getD (l := Tk), List.getElem?_eq_getElem (show i < Tk.length by omega)] at h1
          have h1 : Tk[i].getD b 0 = _ := h1
          rw [List.getD_eq_getElem?_getD (l := Tk[i]), List.getElem?_eq_getElem hb] at h1
          have h1 : Tk[i][b] = _ := h1
          rw [e] at h1
          omega
        rw [er]
      · rw [List.getElem?_eq_none (by omega), List.getElem?_eq_none (by omega)]
        rfl
    rw [ez]
    refine ⟨okDs_ords Tk, okDs_ords Tk, Nat.le_trans (hiDs_ords Tk) (by decide), by
      show ((_ != _) || cmpDs _ _) = true
      rw [cmpDs_ords, Bool.or_true], ?_⟩
    rw [eqDs_refl _ (okDs_ords Tk)]
    exact q
end
def spLaw (K : PySem.W.Frag) : Sp := fun vs H Q _ => ∃ (s : Addr) (ns : List Int), vs = [.ref s] ∧ SqL K H s (ns.map V.int) ∧ ns.length ≤ 63 ∧ ∀ H', Q (.bl true) H'
theorem ok_lawS {P : Program} {w : World} {K : PySem.W.Frag} {mg : Str → Option Value} {base : Heap} {a : Ad} {d : Fd} (T : Txt K mg a d) : FnOk P w K mg base (CXx P w) 7 a.law d.law ["_law_script"] (spLaw K) := (ok_law T).imp fun vs H Q E ⟨s, ns, e, hq, hl, q⟩ => by
  subst e
  exact ⟨H, [.scr ns], fun _ => False, fun dd => dd = .bl true, rfl, Same.refl _, Reps.cons ⟨s, rfl, hq⟩ Reps.nil, fun _ z => z.elim, ⟨ns, rfl, hl, rfl⟩, fun dd v F' H' e _ r => by subst e; cases (show v = _ from r); exact q H'⟩
end Ka09
set_option maxHeartbeats 4000000
namespace Ka09
open PySem L2
theorem usS {us : List Value} {n : Nat} (h : us.length = n + 1) : ∃ x r, us = x :: r ∧ r.length = n := by
  cases us with
  | nil => cases h
  | cons x r => exact ⟨x, r, rfl, Nat.succ.inj h⟩
theorem us1 {us : List Value} (h : us.length = 1) : ∃ x0, us = [x0] := by
  obtain ⟨x, r, e, h2⟩ := usS h
  rw [List.length_eq_zero_iff.mp h2] at e
  exact ⟨x, e⟩
theorem us2 {us : List Value} (h : us.length = 2) : ∃ x0 x1, us = [x0, x1] := by
  obtain ⟨x0, r, e, h2⟩ := usS h
  obtain ⟨x1, e2⟩ := us1 h2
  exact ⟨x0, x1, by rw [e, e2]⟩
theorem us3 {us : List Value} (h : us.length = 3) : ∃ x0 x1 x2, us = [x0, x1, x2] := by
  obtain ⟨x0, r, e, h2⟩ := usS h
  obtain ⟨x1, x2, e2⟩ := us2 h2
  exact ⟨x0, x1, x2, by rw [e, e2]⟩
theorem all_mk {l : PySem.W.OpenLaw} {w : World} {K : PySem.W.Frag} {h : Heap} {mg : Str → Option Value} {fa : Addr} {f_choices f_filled f_whole f_win f_within f_crow f_chkt f_colat f_colsof f_great f_lone f_even f_pleft f_off f_pin f_time f_cell f_mix f_lwhole f_ltab f_spell f_law f_join f_init f_admit f_search f_shift f_crowd f_bad f_sw : Addr} (X : K.In h) (G : h.Ns mainGlobals mg) (hfa : mg "law" = some (.ref fa))
    {od1 od2 od3 od4 od5 od6 od7 od8 od9 od10 od11 od12 od13 od14 od15 od16 od17 od18 od19 od20 od21 od22 od23 od24 od25 od26 od27 an1 an2 an3 an4 an5 an6 an7 an8 an9 an10 an11 an12 an13 an14 an15 an16 an17 an18 an19 an20 an21 an22 an23 an24 an25 an26 an27 : Option Addr} {sl1 sl2 sl3 sl4 sl5 sl6 sl7 sl8 sl9 sl10 sl11 sl12 sl13 sl14 sl15 sl16 sl17 sl18 sl19 sl20 sl21 sl22 sl23 sl24 sl25 sl26 sl27 : Array (Option Value)} {oc1 oc2 oc3 oc4 oc5 oc6 oc7 oc8 oc9 oc10 oc11 oc12 oc13 oc14 oc15 oc16 oc17 oc18 oc19 oc20 oc21 oc22 oc23 oc24 oc25 oc26 oc27 kV1 kV2 kV3 kV4 kV5 kV6 kV7 kV8 kV9 kV10 kV11 kV12 kV13 kV14 kV15 kV16 kV17 kV18 kV19 kV20 kV21 kV22 kV23 kV24 kV25 kV26 kV27 dc1 dc2 dc3 dc4 dc5 dc6 dc7 dc8 dc9 dc10 dc11 dc12 dc13 dc14 dc15 dc16 dc17 dc18 dc19 dc20 dc21 dc22 dc23 dc24 dc25 dc26 dc27 pm1 pm2 pm3 pm4 pm5 pm6 pm7 pm8 pm9 pm10 pm11 pm12 pm13 pm14 pm15 pm16 pm17 pm18 pm19 pm20 pm21 pm22 pm23 pm24 pm25 pm26 pm27 cd1 cd2 cd3 cd4 cd5 cd6 cd7 cd8 cd9 cd10 cd11 cd12 cd13 cd14 cd15 cd16 cd17 cd18 cd19 cd20 cd21 cd22 cd23 cd24 cd25 cd26 cd27 ct1 ct2 ct3 ct4 ct5 ct6 ct7 ct8 ct9 ct10 ct11 ct12 ct13 ct14 ct15 ct16 ct17 ct18 ct19 ct20 ct21 ct22 ct23 ct24 ct25 ct26 ct27 : Value} {tk_ends tk_number : Tok}
    (a_choices : PySem.W.nsIn K mainGlobals "choices_by_inlet" = some (some (.ref f_choices)))
    (l_choices : K.lookup f_choices = some ⟨oc1, od1, .func (PySem.W.fnOf "choices_by_inlet" "choices_by_inlet" (defArgs Jn.sChoices) (defBody Jn.sChoices) (defScope Jn.sChoices) .none kV1 dc1 pm1 an1 cd1 ct1), sl1⟩)
    (c_choices : PySem.W.codeIn K cd1 "choices_by_inlet" = true)
    (k_choices : PySem.W.keepIn K (.ref f_choices) = true)
    (a_filled : PySem.W.nsIn K mainGlobals "filled" = some (some (.ref f_filled)))
    (l_filled : K.lookup f_filled = some ⟨oc2, od2, .func (PySem.W.fnOf "filled" "filled" (defArgs Jn.sFilled) (defBody Jn.sFilled) (defScope Jn.sFilled) .none kV2 dc2 pm2 an2 cd2 ct2), sl2⟩)
    (c_filled : PySem.W.codeIn K cd2 "filled" = true)
    (k_filled : PySem.W.keepIn K (.ref f_filled) = true)
    (a_whole : PySem.W.nsIn K mainGlobals "is_whole" = some (some (.ref f_whole)))
    (l_whole : K.lookup f_whole = some ⟨oc3, od3, .func (PySem.W.fnOf "is_whole" "is_whole" (defArgs s_whole) (defBody s_whole) (defScope s_whole) .none kV3 dc3 pm3 an3 cd3 ct3), sl3⟩)
    (c_whole : PySem.W.codeIn K cd3 "is_whole" = true)
    (k_whole : PySem.W.keepIn K (.ref f_whole) = true)
    (a_win : PySem.W.nsIn K mainGlobals "is_whole_within" = some (some (.ref f_win)))
    (l_win : K.lookup f_win = some ⟨oc4, od4, .func (PySem.W.fnOf "is_whole_within" "is_whole_within" (defArgs s_win) (defBody s_win) (defScope s_win) .none kV4 dc4 pm4 an4 cd4 ct4), sl4⟩)
    (c_win : PySem.W.codeIn K cd4 "is_whole_within" = true)
    (k_win : PySem.W.keepIn K (.ref f_win) = true)
    (a_within : PySem.W.nsIn K mainGlobals "is_list_within" = some (some (.ref f_within)))
    (l_within : K.lookup f_within = some ⟨oc5, od5, .func (PySem.W.fnOf "is_list_within" "is_list_within" (defArgs s_within) (defBody s_within) (defScope s_within) .none kV5 dc5 pm5 an5 cd5 ct5), sl5⟩)
    (c_within : PySem.W.codeIn K cd5 "is_list_within" = true)
    (k_within : PySem.W.keepIn K (.ref f_within) = true)
    (a_crow : PySem.W.nsIn K mainGlobals "check_row" = some (some (.ref f_crow)))
    (l_crow : K.lookup f_crow = some ⟨oc6, od6, .func (PySem.W.fnOf "check_row" "check_row" (defArgs s_crow) (defBody s_crow) (defScope s_crow) .none kV6 dc6 pm6 an6 cd6 ct6), sl6⟩)
    (c_crow : PySem.W.codeIn K cd6 "check_row" = true)
    (k_crow : PySem.W.keepIn K (.ref f_crow) = true)
    (a_chkt : PySem.W.nsIn K mainGlobals "checked_table" = some (some (.ref f_chkt)))
    (l_chkt : K.lookup f_chkt = some ⟨oc7, od7, .func (PySem.W.fnOf "checked_table" "checked_table" (defArgs s_chkt) (defBody s_chkt) (defScope s_chkt) .none kV7 dc7 pm7 an7 cd7 ct7), sl7⟩)
    (c_chkt : PySem.W.codeIn K cd7 "checked_table" = true)
    (k_chkt : PySem.W.keepIn K (.ref f_chkt) = true)
    (a_colat : PySem.W.nsIn K mainGlobals "column_at" = some (some (.ref f_colat)))
    (l_colat : K.lookup f_colat = some ⟨oc8, od8, .func (PySem.W.fnOf "column_at" "column_at" (defArgs s_colat) (defBody s_colat) (defScope s_colat) .none kV8 dc8 pm8 an8 cd8 ct8), sl8⟩)
    (c_colat : PySem.W.codeIn K cd8 "column_at" = true)
    (k_colat : PySem.W.keepIn K (.ref f_colat) = true)
    (a_colsof : PySem.W.nsIn K mainGlobals "columns_of" = some (some (.ref f_colsof)))
    (l_colsof : K.lookup f_colsof = some ⟨oc9, od9, .func (PySem.W.fnOf "columns_of" "columns_of" (defArgs s_colsof) (defBody s_colsof) (defScope s_colsof) .none kV9 dc9 pm9 an9 cd9 ct9), sl9⟩)
    (c_colsof : PySem.W.codeIn K cd9 "columns_of" = true)
    (k_colsof : PySem.W.keepIn K (.ref f_colsof) = true)
    (a_great : PySem.W.nsIn K mainGlobals "greatest_sum" = some (some (.ref f_great)))
    (l_great : K.lookup f_great = some ⟨oc10, od10, .func (PySem.W.fnOf "greatest_sum" "greatest_sum" (defArgs s_great) (defBody s_great) (defScope s_great) .none kV10 dc10 pm10 an10 cd10 ct10), sl10⟩)
    (c_great : PySem.W.codeIn K cd10 "greatest_sum" = true)
    (k_great : PySem.W.keepIn K (.ref f_great) = true)
    (a_lone : PySem.W.nsIn K mainGlobals "lone" = some (some (.ref f_lone)))
    (l_lone : K.lookup f_lone = some ⟨oc11, od11, .func (PySem.W.fnOf "lone" "lone" (defArgs s_lone) (defBody s_lone) (defScope s_lone) .none kV11 dc11 pm11 an11 cd11 ct11), sl11⟩)
    (c_lone : PySem.W.codeIn K cd11 "lone" = true)
    (k_lone : PySem.W.keepIn K (.ref f_lone) = true)
    (a_even : PySem.W.nsIn K mainGlobals "evened" = some (some (.ref f_even)))
    (l_even : K.lookup f_even = some ⟨oc12, od12, .func (PySem.W.fnOf "evened" "evened" (defArgs s_even) (defBody s_even) (defScope s_even) .none kV12 dc12 pm12 an12 cd12 ct12), sl12⟩)
    (c_even : PySem.W.codeIn K cd12 "evened" = true)
    (k_even : PySem.W.keepIn K (.ref f_even) = true)
    (a_pleft : PySem.W.nsIn K mainGlobals "pairs_left" = some (some (.ref f_pleft)))
    (l_pleft : K.lookup f_pleft = some ⟨oc13, od13, .func (PySem.W.fnOf "pairs_left" "pairs_left" (defArgs s_pleft) (defBody s_pleft) (defScope s_pleft) .none kV13 dc13 pm13 an13 cd13 ct13), sl13⟩)
    (c_pleft : PySem.W.codeIn K cd13 "pairs_left" = true)
    (k_pleft : PySem.W.keepIn K (.ref f_pleft) = true)
    (a_off : PySem.W.nsIn K mainGlobals "taken_off" = some (some (.ref f_off)))
    (l_off : K.lookup f_off = some ⟨oc14, od14, .func (PySem.W.fnOf "taken_off" "taken_off" (defArgs s_off) (defBody s_off) (defScope s_off) .none kV14 dc14 pm14 an14 cd14 ct14), sl14⟩)
    (c_off : PySem.W.codeIn K cd14 "taken_off" = true)
    (k_off : PySem.W.keepIn K (.ref f_off) = true)
    (a_pin : PySem.W.nsIn K mainGlobals "pairs_within" = some (some (.ref f_pin)))
    (l_pin : K.lookup f_pin = some ⟨oc15, od15, .func (PySem.W.fnOf "pairs_within" "pairs_within" (defArgs s_pin) (defBody s_pin) (defScope s_pin) .none kV15 dc15 pm15 an15 cd15 ct15), sl15⟩)
    (c_pin : PySem.W.codeIn K cd15 "pairs_within" = true)
    (k_pin : PySem.W.keepIn K (.ref f_pin) = true)
    (a_time : PySem.W.nsIn K mainGlobals "timetable" = some (some (.ref f_time)))
    (l_time : K.lookup f_time = some ⟨oc16, od16, .func (PySem.W.fnOf "timetable" "timetable" (defArgs s_time) (defBody s_time) (defScope s_time) .none kV16 dc16 pm16 an16 cd16 ct16), sl16⟩)
    (c_time : PySem.W.codeIn K cd16 "timetable" = true)
    (k_time : PySem.W.keepIn K (.ref f_time) = true)
    (a_cell : PySem.W.nsIn K mainGlobals "_law_cell" = some (some (.ref f_cell)))
    (l_cell : K.lookup f_cell = some ⟨oc17, od17, .func (PySem.W.fnOf "_law_cell" "_law_cell" (defArgs s_cell) (defBody s_cell) (defScope s_cell) .none kV17 dc17 pm17 an17 cd17 ct17), sl17⟩)
    (c_cell : PySem.W.codeIn K cd17 "_law_cell" = true)
    (k_cell : PySem.W.keepIn K (.ref f_cell) = true)
    (a_mix : PySem.W.nsIn K mainGlobals "_law_mix" = some (some (.ref f_mix)))
    (l_mix : K.lookup f_mix = some ⟨oc18, od18, .func (PySem.W.fnOf "_law_mix" "_law_mix" (defArgs s_mix) (defBody s_mix) (defScope s_mix) .none kV18 dc18 pm18 an18 cd18 ct18), sl18⟩)
    (c_mix : PySem.W.codeIn K cd18 "_law_mix" = true)
    (k_mix : PySem.W.keepIn K (.ref f_mix) = true)
    (a_lwhole : PySem.W.nsIn K mainGlobals "_law_whole" = some (some (.ref f_lwhole)))
    (l_lwhole : K.lookup f_lwhole = some ⟨oc19, od19, .func (PySem.W.fnOf "_law_whole" "_law_whole" (defArgs s_lwhole) (defBody s_lwhole) (defScope s_lwhole) .none kV19 dc19 pm19 an19 cd19 ct19), sl19⟩)
    (c_lwhole : PySem.W.codeIn K cd19 "_law_whole" = true)
    (k_lwhole : PySem.W.keepIn K (.ref f_lwhole) = true)
    (a_ltab : PySem.W.nsIn K mainGlobals "_law_table" = some (some (.ref f_ltab)))
    (l_ltab : K.lookup f_ltab = some ⟨oc20, od20, .func (PySem.W.fnOf "_law_table" "_law_table" (defArgs s_ltab) (defBody s_ltab) (defScope s_ltab) .none kV20 dc20 pm20 an20 cd20 ct20), sl20⟩)
    (c_ltab : PySem.W.codeIn K cd20 "_law_table" = true)
    (k_ltab : PySem.W.keepIn K (.ref f_ltab) = true)
    (a_spell : PySem.W.nsIn K mainGlobals "_law_spell" = some (some (.ref f_spell)))
    (l_spell : K.lookup f_spell = some ⟨oc21, od21, .func (PySem.W.fnOf "_law_spell" "_law_spell" (defArgs s_spell) (defBody s_spell) (defScope s_spell) .none kV21 dc21 pm21 an21 cd21 ct21), sl21⟩)
    (c_spell : PySem.W.codeIn K cd21 "_law_spell" = true)
    (k_spell : PySem.W.keepIn K (.ref f_spell) = true)
    (a_law : PySem.W.nsIn K mainGlobals "law" = some (some (.ref f_law)))
    (l_law : K.lookup f_law = some ⟨oc22, od22, .func (PySem.W.fnOf "law" "law" (defArgs s_law) (defBody s_law) (defScope s_law) .none kV22 dc22 pm22 an22 cd22 ct22), sl22⟩)
    (c_law : PySem.W.codeIn K cd22 "law" = true)
    (k_law : PySem.W.keepIn K (.ref f_law) = true)
    (a_join : PySem.W.nsIn K mainGlobals "Joining" = some (some (.ref f_join)))
    (a_init : PySem.W.findIn K (.ref f_join) "__init__" = some (some (.ref f_init)))
    (i_init : PySem.W.isFn K (.ref f_init) = true)
    (l_init : K.lookup f_init = some ⟨oc23, od23, .func (PySem.W.fnOf "__init__" "Joining.__init__" (defArgs Jn.sInit) (defBody Jn.sInit) (defScope Jn.sInit) .none kV23 dc23 pm23 an23 cd23 ct23), sl23⟩)
    (c_init : PySem.W.codeIn K cd23 "Joining.__init__" = true)
    (k_init : PySem.W.keepIn K (.ref f_init) = true)
    (a_admit : PySem.W.findIn K (.ref f_join) "admit" = some (some (.ref f_admit)))
    (i_admit : PySem.W.isFn K (.ref f_admit) = true)
    (l_admit : K.lookup f_admit = some ⟨oc24, od24, .func (PySem.W.fnOf "admit" "Joining.admit" (defArgs Jn.sAdmit) (defBody Jn.sAdmit) (defScope Jn.sAdmit) .none kV24 dc24 pm24 an24 cd24 ct24), sl24⟩)
    (c_admit : PySem.W.codeIn K cd24 "Joining.admit" = true)
    (k_admit : PySem.W.keepIn K (.ref f_admit) = true)
    (a_search : PySem.W.findIn K (.ref f_join) "search" = some (some (.ref f_search)))
    (i_search : PySem.W.isFn K (.ref f_search) = true)
    (l_search : K.lookup f_search = some ⟨oc25, od25, .func (PySem.W.fnOf "search" "Joining.search" (defArgs Jn.sSearch) (defBody Jn.sSearch) (defScope Jn.sSearch) .none kV25 dc25 pm25 an25 cd25 ct25), sl25⟩)
    (c_search : PySem.W.codeIn K cd25 "Joining.search" = true)
    (k_search : PySem.W.keepIn K (.ref f_search) = true)
    (a_shift : PySem.W.findIn K (.ref f_join) "shift" = some (some (.ref f_shift)))
    (i_shift : PySem.W.isFn K (.ref f_shift) = true)
    (l_shift : K.lookup f_shift = some ⟨oc26, od26, .func (PySem.W.fnOf "shift" "Joining.shift" (defArgs Jn.sShift) (defBody Jn.sShift) (defScope Jn.sShift) .none kV26 dc26 pm26 an26 cd26 ct26), sl26⟩)
    (c_shift : PySem.W.codeIn K cd26 "Joining.shift" = true)
    (k_shift : PySem.W.keepIn K (.ref f_shift) = true)
    (a_crowd : PySem.W.findIn K (.ref f_join) "crowd_round" = some (some (.ref f_crowd)))
    (i_crowd : PySem.W.isFn K (.ref f_crowd) = true)
    (l_crowd : K.lookup f_crowd = some ⟨oc27, od27, .func (PySem.W.fnOf "crowd_round" "Joining.crowd_round" (defArgs Jn.sCrowd) (defBody Jn.sCrowd) (defScope Jn.sCrowd) .none kV27 dc27 pm27 an27 cd27 ct27), sl27⟩)
    (c_crowd : PySem.W.codeIn K cd27 "Joining.crowd_round" = true)
    (k_crowd : PySem.W.keepIn K (.ref f_crowd) = true)
    (pg : PySem.W.plainGet K f_join Str.empty = true)
    (hdd : PySem.W.hasDictIn K f_join = true)
    (po : PySem.W.plainOver K f_join = true)
    (sa : PySem.W.findIn K (.ref f_join) "__setattr__" = some (some (.builtin "object.__setattr__")))
    (mkk : PySem.W.makesIn K f_join = true)
    (kcc : PySem.W.keepIn K (.ref f_join) = true)
    (n_nC : PySem.W.findIn K (.ref f_join) "choices" = some none)
    (n_nA : PySem.W.findIn K (.ref f_join) "outlet_by_inlet" = some none)
    (n_nB : PySem.W.findIn K (.ref f_join) "inlet_by_outlet" = some none)
    (a_bad : PySem.W.nsIn K mainGlobals "BadTable" = some (some (.ref f_bad)))
    (x_bad : PySem.W.excIn K f_bad [.type "ValueError", .type "Exception", .type "BaseException", .type "object"] "ValueError.__new__" = true)
    (a_sw : PySem.W.nsIn K mainGlobals "SwitchError" = some (some (.ref f_sw)))
    (v_ends : PySem.W.nsIn K mainGlobals "MOST_ENDS" = some (some (.int 6 tk_ends)))
    (v_number : PySem.W.nsIn K mainGlobals "MOST_NUMBER" = some (some (.int 99 tk_number)))
    (z_bool_ : PySem.W.nsIn K mainGlobals "bool" = some none)
    (z_enum_ : PySem.W.nsIn K mainGlobals "enumerate" = some none)
    (z_int_ : PySem.W.nsIn K mainGlobals "int" = some none)
    (z_isi : PySem.W.nsIn K mainGlobals "isinstance" = some none)
    (z_len : PySem.W.nsIn K mainGlobals "len" = some none)
    (z_list_ : PySem.W.nsIn K mainGlobals "list" = some none)
    (z_max_ : PySem.W.nsIn K mainGlobals "max" = some none)
    (z_min_ : PySem.W.nsIn K mainGlobals "min" = some none)
    (z_range : PySem.W.nsIn K mainGlobals "range" = some none)
    (z_set_ : PySem.W.nsIn K mainGlobals "set" = some none)
    (z_sum_ : PySem.W.nsIn K mainGlobals "sum" = some none)
    (z_tuple_ : PySem.W.nsIn K mainGlobals "tuple" = some none)
    (z_sorted_ : PySem.W.nsIn K mainGlobals "sorted" = some none)
    : ∃ fd : FuncData, (∀ (s : Shared) (v : Value), BindsTo s fd ⟨[v], []⟩ [("_law_script", v)]) ∧ ∀ base : Heap, K.In base → base.Ns mainGlobals mg → FnOk l.prog w K mg base (CXx l.prog w) 7 fa fd ["_law_script"] (spLaw K) := by
  have e := hfa.symm.trans (PySem.W.mg_of X G a_law)
  rw [Value.ref.inj (Option.some.inj e)]
  have F_choices := fun_mk (st := Jn.sChoices) l_choices c_choices k_choices
  have b_choices := F_choices.binds (ps := ["pairs"]) fun _ _ _ _ _ _ us hl => (by obtain ⟨_, rfl⟩ := us1 hl; rfl)
  have F_filled := fun_mk (st := Jn.sFilled) l_filled c_filled k_filled
  have b_filled := F_filled.binds (ps := ["pairs", "inlets"]) fun _ _ _ _ _ _ us hl => (by obtain ⟨_, _, rfl⟩ := us2 hl; rfl)
  have F_whole := fun_mk (st := s_whole) l_whole c_whole k_whole
  have b_whole := F_whole.binds (ps := ["value"]) fun _ _ _ _ _ _ us hl => (by obtain ⟨_, rfl⟩ := us1 hl; rfl)
  have F_win := fun_mk (st := s_win) l_win c_win k_win
  have b_win := F_win.binds (ps := ["value", "least", "most"]) fun _ _ _ _ _ _ us hl => (by obtain ⟨_, _, _, rfl⟩ := us3 hl; rfl)
  have F_within := fun_mk (st := s_within) l_within c_within k_within
  have b_within := F_within.binds (ps := ["value", "least", "most"]) fun _ _ _ _ _ _ us hl => (by obtain ⟨_, _, _, rfl⟩ := us3 hl; rfl)
  have F_crow := fun_mk (st := s_crow) l_crow c_crow k_crow
  have b_crow := F_crow.binds (ps := ["row"]) fun _ _ _ _ _ _ us hl => (by obtain ⟨_, rfl⟩ := us1 hl; rfl)
  have F_chkt := fun_mk (st := s_chkt) l_chkt c_chkt k_chkt
  have b_chkt := F_chkt.binds (ps := ["table"]) fun _ _ _ _ _ _ us hl => (by obtain ⟨_, rfl⟩ := us1 hl; rfl)
  have F_colat := fun_mk (st := s_colat) l_colat c_colat k_colat
  have b_colat := F_colat.binds (ps := ["table", "place"]) fun _ _ _ _ _ _ us hl => (by obtain ⟨_, _, rfl⟩ := us2 hl; rfl)
  have F_colsof := fun_mk (st := s_colsof) l_colsof c_colsof k_colsof
  have b_colsof := F_colsof.binds (ps := ["table"]) fun _ _ _ _ _ _ us hl => (by obtain ⟨_, rfl⟩ := us1 hl; rfl)
  have F_great := fun_mk (st := s_great) l_great c_great k_great
  have b_great := F_great.binds (ps := ["table"]) fun _ _ _ _ _ _ us hl => (by obtain ⟨_, rfl⟩ := us1 hl; rfl)
  have F_lone := fun_mk (st := s_lone) l_lone c_lone k_lone
  have b_lone := F_lone.binds (ps := ["number", "place", "many"]) fun _ _ _ _ _ _ us hl => (by obtain ⟨_, _, _, rfl⟩ := us3 hl; rfl)
  have F_even := fun_mk (st := s_even) l_even c_even k_even
  have b_even := F_even.binds (ps := ["table"]) fun _ _ _ _ _ _ us hl => (by obtain ⟨_, rfl⟩ := us1 hl; rfl)
  have F_pleft := fun_mk (st := s_pleft) l_pleft c_pleft k_pleft
  have b_pleft := F_pleft.binds (ps := ["rest"]) fun _ _ _ _ _ _ us hl => (by obtain ⟨_, rfl⟩ := us1 hl; rfl)
  have F_off := fun_mk (st := s_off) l_off c_off k_off
  have b_off := F_off.binds (ps := ["rest", "pairs"]) fun _ _ _ _ _ _ us hl => (by obtain ⟨_, _, rfl⟩ := us2 hl; rfl)
  have F_pin := fun_mk (st := s_pin) l_pin c_pin k_pin
  have b_pin := F_pin.binds (ps := ["pairs", "table"]) fun _ _ _ _ _ _ us hl => (by obtain ⟨_, _, rfl⟩ := us2 hl; rfl)
  have F_time := fun_mk (st := s_time) l_time c_time k_time
  have b_time := F_time.binds (ps := ["table"]) fun _ _ _ _ _ _ us hl => (by obtain ⟨_, rfl⟩ := us1 hl; rfl)
  have F_cell := fun_mk (st := s_cell) l_cell c_cell k_cell
  have b_cell := F_cell.binds (ps := ["_law_script", "_law_k"]) fun _ _ _ _ _ _ us hl => (by obtain ⟨_, _, rfl⟩ := us2 hl; rfl)
  have F_mix := fun_mk (st := s_mix) l_mix c_mix k_mix
  have b_mix := F_mix.binds (ps := ["_law_cell_here", "_law_prime", "_law_many"]) fun _ _ _ _ _ _ us hl => (by obtain ⟨_, _, _, rfl⟩ := us3 hl; rfl)
  have F_lwhole := fun_mk (st := s_lwhole) l_lwhole c_lwhole k_lwhole
  have b_lwhole := F_lwhole.binds (ps := ["_law_found"]) fun _ _ _ _ _ _ us hl => (by obtain ⟨_, rfl⟩ := us1 hl; rfl)
  have F_ltab := fun_mk (st := s_ltab) l_ltab c_ltab k_ltab
  have b_ltab := F_ltab.binds (ps := ["_law_script"]) fun _ _ _ _ _ _ us hl => (by obtain ⟨_, rfl⟩ := us1 hl; rfl)
  have F_spell := fun_mk (st := s_spell) l_spell c_spell k_spell
  have b_spell := F_spell.binds (ps := ["_law_one", "_law_rows", "_law_columns"]) fun _ _ _ _ _ _ us hl => (by obtain ⟨_, _, _, rfl⟩ := us3 hl; rfl)
  have F_law := fun_mk (st := s_law) l_law c_law k_law
  have b_law := F_law.binds (ps := ["_law_script"]) fun _ _ _ _ _ _ us hl => (by obtain ⟨_, rfl⟩ := us1 hl; rfl)
  have F_init := fun_mk (st := Jn.sInit) l_init c_init k_init
  have b_init := F_init.binds (ps := ["self", "pairs"]) fun _ _ _ _ _ _ us hl => (by obtain ⟨_, _, rfl⟩ := us2 hl; rfl)
  have F_admit := fun_mk (st := Jn.sAdmit) l_admit c_admit k_admit
  have b_admit := F_admit.binds (ps := ["self", "inlet"]) fun _ _ _ _ _ _ us hl => (by obtain ⟨_, _, rfl⟩ := us2 hl; rfl)
  have F_search := fun_mk (st := Jn.sSearch) l_search c_search k_search
  have b_search := F_search.binds (ps := ["self", "inlet"]) fun _ _ _ _ _ _ us hl => (by obtain ⟨_, _, rfl⟩ := us2 hl; rfl)
  have F_shift := fun_mk (st := Jn.sShift) l_shift c_shift k_shift
  have b_shift := F_shift.binds (ps := ["self", "free", "came_by"]) fun _ _ _ _ _ _ us hl => (by obtain ⟨_, _, _, rfl⟩ := us3 hl; rfl)
  have F_crowd := fun_mk (st := Jn.sCrowd) l_crowd c_crowd k_crowd
  have b_crowd := F_crowd.binds (ps := ["self", "inlet"]) fun _ _ _ _ _ _ us hl => (by obtain ⟨_, _, rfl⟩ := us2 hl; rfl)
  have T : Txt K mg { choices := f_choices, filled := f_filled, whole := f_whole, win := f_win, within := f_within, crow := f_crow, chkt := f_chkt, colat := f_colat, colsof := f_colsof, great := f_great, lone := f_lone, even := f_even, pleft := f_pleft, off := f_off, pin := f_pin, time := f_time, cell := f_cell, mix := f_mix, lwhole := f_lwhole, ltab := f_ltab, spell := f_spell, law := f_law, join := f_join, init := f_init, admit := f_admit, search := f_search, shift := f_shift, crowd := f_crowd, bad := f_bad, sw := f_sw } { choices := PySem.W.fnOf "choices_by_inlet" "choices_by_inlet" (defArgs Jn.sChoices) (defBody Jn.sChoices) (defScope Jn.sChoices) .none kV1 dc1 pm1 an1 cd1 ct1, filled := PySem.W.fnOf "filled" "filled" (defArgs Jn.sFilled) (defBody Jn.sFilled) (defScope Jn.sFilled) .none kV2 dc2 pm2 an2 cd2 ct2, whole := PySem.W.fnOf "is_whole" "is_whole" (defArgs s_whole) (defBody s_whole) (defScope s_whole) .none kV3 dc3 pm3 an3 cd3 ct3, win := PySem.W.fnOf "is_whole_within" "is_whole_within" (defArgs s_win) (defBody s_win) (defScope s_win) .none kV4 dc4 pm4 an4 cd4 ct4, within := PySem.W.fnOf "is_list_within" "is_list_within" (defArgs s_within) (defBody s_within) (defScope s_within) .none kV5 dc5 pm5 an5 cd5 ct5, crow := PySem.W.fnOf "check_row" "check_row" (defArgs s_crow) (defBody s_crow) (defScope s_crow) .none kV6 dc6 pm6 an6 cd6 ct6, chkt := PySem.W.fnOf "checked_table" "checked_table" (defArgs s_chkt) (defBody s_chkt) (defScope s_chkt) .none kV7 dc7 pm7 an7 cd7 ct7, colat := PySem.W.fnOf "column_at" "column_at" (defArgs s_colat) (defBody s_colat) (defScope s_colat) .none kV8 dc8 pm8 an8 cd8 ct8, colsof := PySem.W.fnOf "columns_of" "columns_of" (defArgs s_colsof) (defBody s_colsof) (defScope s_colsof) .none kV9 dc9 pm9 an9 cd9 ct9, great := PySem.W.fnOf "greatest_sum" "greatest_sum" (defArgs s_great) (defBody s_great) (defScope s_great) .none kV10 dc10 pm10 an10 cd10 ct10, lone := PySem.W.fnOf "lone" "lone" (defArgs s_lone) (defBody s_lone) (defScope s_lone) .none kV11 dc11 pm11 an11 cd11 ct11, even := PySem.W.fnOf "evened" "evened" (defArgs s_even) (defBody s_even) (defScope s_even) .none kV12 dc12 pm12 an12 cd12 ct12, pleft := PySem.W.fnOf "pairs_left" "pairs_left" (defArgs s_pleft) (defBody s_pleft) (defScope s_pleft) .none kV13 dc13 pm13 an13 cd13 ct13, off := PySem.W.fnOf "taken_off" "taken_off" (defArgs s_off) (defBody s_off) (defScope s_off) .none kV14 dc14 pm14 an14 cd14 ct14, pin := PySem.W.fnOf "pairs_within" "pairs_within" (defArgs s_pin) (defBody s_pin) (defScope s_pin) .none kV15 dc15 pm15 an15 cd15 ct15, time := PySem.W.fnOf "timetable" "timetable" (defArgs s_time) (defBody s_time) (defScope s_time) .none kV16 dc16 pm16 an16 cd16 ct16, cell := PySem.W.fnOf "_law_cell" "_law_cell" (defArgs s_cell) (defBody s_cell) (defScope s_cell) .none kV17 dc17 pm17 an17 cd17 ct17, mix := PySem.W.fnOf "_law_mix" "_law_mix" (defArgs s_mix) (defBody s_mix) (defScope s_mix) .none kV18 dc18 pm18 an18 cd18 ct18, lwhole := PySem.W.fnOf "_law_whole" "_law_whole" (defArgs s_lwhole) (defBody s_lwhole) (defScope s_lwhole) .none kV19 dc19 pm19 an19 cd19 ct19, ltab := PySem.W.fnOf "_law_table" "_law_table" (defArgs s_ltab) (defBody s_ltab) (defScope s_ltab) .none kV20 dc20 pm20 an20 cd20 ct20, spell := PySem.W.fnOf "_law_spell" "_law_spell" (defArgs s_spell) (defBody s_spell) (defScope s_spell) .none kV21 dc21 pm21 an21 cd21 ct21, law := PySem.W.fnOf "law" "law" (defArgs s_law) (defBody s_law) (defScope s_law) .none kV22 dc22 pm22 an22 cd22 ct22, init := PySem.W.fnOf "__init__" "Joining.__init__" (defArgs Jn.sInit) (defBody Jn.sInit) (defScope Jn.sInit) .none kV23 dc23 pm23 an23 cd23 ct23, admit := PySem.W.fnOf "admit" "Joining.admit" (defArgs Jn.sAdmit) (defBody Jn.sAdmit) (defScope Jn.sAdmit) .none kV24 dc24 pm24 an24 cd24 ct24, search := PySem.W.fnOf "search" "Joining.search" (defArgs Jn.sSearch) (defBody Jn.sSearch) (defScope Jn.sSearch) .none kV25 dc25 pm25 an25 cd25 ct25, shift := PySem.W.fnOf "shift" "Joining.shift" (defArgs Jn.sShift) (defBody Jn.sShift) (defScope Jn.sShift) .none kV26 dc26 pm26 an26 cd26 ct26, crowd := PySem.W.fnOf "crowd_round" "Joining.crowd_round" (defArgs Jn.sCrowd) (defBody Jn.sCrowd) (defScope Jn.sCrowd) .none kV27 dc27 pm27 an27 cd27 ct27 } := { bool_ := PySem.W.mg_none_of X G z_bool_, enum_ := PySem.W.mg_none_of X G z_enum_, int_ := PySem.W.mg_none_of X G z_int_, isi := PySem.W.mg_none_of X G z_isi, len := PySem.W.mg_none_of X G z_len, list_ := PySem.W.mg_none_of X G z_list_, max_ := PySem.W.mg_none_of X G z_max_, min_ := PySem.W.mg_none_of X G z_min_, range := PySem.W.mg_none_of X G z_range, set_ := PySem.W.mg_none_of X G z_set_, sum_ := PySem.W.mg_none_of X G z_sum_, tuple_ := PySem.W.mg_none_of X G z_tuple_, sorted_ := PySem.W.mg_none_of X G z_sorted_, ends := ⟨_, PySem.W.mg_of X G v_ends⟩, number := ⟨_, PySem.W.mg_of X G v_number⟩, g_choices := PySem.W.mg_of X G a_choices, g_filled := PySem.W.mg_of X G a_filled, g_whole := PySem.W.mg_of X G a_whole, g_win := PySem.W.mg_of X G a_win, g_within := PySem.W.mg_of X G a_within, g_crow := PySem.W.mg_of X G a_crow, g_chkt := PySem.W.mg_of X G a_chkt, g_colat := PySem.W.mg_of X G a_colat, g_colsof := PySem.W.mg_of X G a_colsof, g_great := PySem.W.mg_of X G a_great, g_lone := PySem.W.mg_of X G a_lone, g_even := PySem.W.mg_of X G a_even, g_pleft := PySem.W.mg_of X G a_pleft, g_off := PySem.W.mg_of X G a_off, g_pin := PySem.W.mg_of X G a_pin, g_time := PySem.W.mg_of X G a_time, g_cell := PySem.W.mg_of X G a_cell, g_mix := PySem.W.mg_of X G a_mix, g_lwhole := PySem.W.mg_of X G a_lwhole, g_ltab := PySem.W.mg_of X G a_ltab, g_spell := PySem.W.mg_of X G a_spell, g_join := PySem.W.mg_of X G a_join, g_bad := PySem.W.mg_of X G a_bad, g_sw := PySem.W.mg_of X G a_sw, f_choices := F_choices, f_filled := F_filled, f_whole := F_whole, f_win := F_win, f_within := F_within, f_crow := F_crow, f_chkt := F_chkt, f_colat := F_colat, f_colsof := F_colsof, f_great := F_great, f_lone := F_lone, f_even := F_even, f_pleft := F_pleft, f_off := F_off, f_pin := F_pin, f_time := F_time, f_cell := F_cell, f_mix := F_mix, f_lwhole := F_lwhole, f_ltab := F_ltab, f_spell := F_spell, f_law := F_law, f_init := F_init, f_admit := F_admit, f_search := F_search, f_shift := F_shift, f_crowd := F_crowd, b_choices := b_choices, b_filled := b_filled, b_whole := b_whole, b_win := b_win, b_within := b_within, b_crow := b_crow, b_chkt := b_chkt, b_colat := b_colat, b_colsof := b_colsof, b_great := b_great, b_lone := b_lone, b_even := b_even, b_pleft := b_pleft, b_off := b_off, b_pin := b_pin, b_time := b_time, b_cell := b_cell, b_mix := b_mix, b_lwhole := b_lwhole, b_ltab := b_ltab, b_spell := b_spell, b_law := b_law, b_init := b_init, b_admit := b_admit, b_search := b_search, b_shift := b_shift, b_crowd := b_crowd, cls := ⟨pg, hdd, po, sa⟩, nC := n_nC, nA := n_nA, nB := n_nB, mkH := ⟨mkk, a_init, i_init, kcc⟩, m_admit := ⟨a_admit, i_admit, k_admit⟩, m_search := ⟨a_search, i_search, k_search⟩, m_shift := ⟨a_shift, i_shift, k_shift⟩, m_crowd := ⟨a_crowd, i_crowd, k_crowd⟩, x_bad := ⟨x_bad⟩ }
  exact ⟨_, fun s v => .of_eq rfl, fun base _ _ => ok_lawS T⟩
theorem walk {l : PySem.W.OpenLaw} {q : Program} {loose : List Str} {XP : (Str → Option Value) → Heap → Prop} {YP : World → Heap → Prop} {d : DefRec} {K : Params → PySem.W.Frag} (hn : l.most = some 63) (hdf : d.params.defaults = [])
    (hY : ∀ (w : World) (h : Heap), YP w h → (K w.params).In h)
    (F : ∀ (w : World) (mg : Str → Option Value) (fa : Addr) (h : Heap), (K w.params).In h → h.Ns mainGlobals mg → mg d.name = some (.ref fa) →
      ∃ fd : FuncData, (∀ (s : Shared) (u : Value), BindsTo s fd ⟨[u], []⟩ [("_law_script", u)]) ∧ ∀ base : Heap, (K w.params).In base → base.Ns mainGlobals mg → FnOk l.prog w (K w.params) mg base (CXx l.prog w) 7 fa fd ["_law_script"] (spLaw (K w.params))) :
    PySem.W.WalkO q loose XP YP l.row.toRowW d [] (fun f vs => PySem.call f vs) :=
  L2.walk_of (n := 63) (k := 7) (x := "_law_script") (CX := fun w => CXx l.prog w) (sp := fun w => spLaw (K w.params)) hn (by decide) hdf ⟨rfl, by decide, by decide⟩ hY F (fun _ _ a ns hl _ hS => ⟨a, ns, rfl, hS, hl, fun _ => rfl⟩) fun _ _ _ _ _ z => (by
    obtain ⟨_, _, _, _, _, _, _, _, _, _, _, _, _, q⟩ := z
    exact q)
end Ka09
open PySem PySem.W PyProof.Rows
set_option maxRecDepth 100000 in
set_option maxHeartbeats 0 in
theorem PySem.Challenge.cw_switchhall_k09_whole_timetables_holds : PySem.Challenge.rw_switchhall_k09_whole_timetables.Holds := by
  w_on; o_law; k_head; (case hw => w_witness2)
  k_fill
  refine Ka09.walk (l := PySem.Challenge.rw_switchhall_k09_whole_timetables) rfl rfl (fun w h Y => PySem.W.kIn_of Y) ?F
  case F =>
    intro w mg fa h KX G hmg
    refine' Ka09.all_mk KX G hmg ?a_choices ?l_choices ?c_choices ?k_choices ?a_filled ?l_filled ?c_filled ?k_filled ?a_whole ?l_whole ?c_whole ?k_whole ?a_win ?l_win ?c_win ?k_win ?a_within ?l_within ?c_within ?k_within ?a_crow ?l_crow ?c_crow ?k_crow ?a_chkt ?l_chkt ?c_chkt ?k_chkt ?a_colat ?l_colat ?c_colat ?k_colat ?a_colsof ?l_colsof ?c_colsof ?k_colsof ?a_great ?l_great ?c_great ?k_great ?a_lone ?l_lone ?c_lone ?k_lone ?a_even ?l_even ?c_even ?k_even ?a_pleft ?l_pleft ?c_pleft ?k_pleft ?a_off ?l_off ?c_off ?k_off ?a_pin ?l_pin ?c_pin ?k_pin ?a_time ?l_time ?c_time ?k_time ?a_cell ?l_cell ?c_cell ?k_cell ?a_mix ?l_mix ?c_mix ?k_mix ?a_lwhole ?l_lwhole ?c_lwhole ?k_lwhole ?a_ltab ?l_ltab ?c_ltab ?k_ltab ?a_spell ?l_spell ?c_spell ?k_spell ?a_law ?l_law ?c_law ?k_law ?a_join ?a_init ?i_init ?l_init ?c_init ?k_init ?a_admit ?i_admit ?l_admit ?c_admit ?k_admit ?a_search ?i_search ?l_search ?c_search ?k_search ?a_shift ?i_shift ?l_shift ?c_shift ?k_shift ?a_crowd ?i_crowd ?l_crowd ?c_crowd ?k_crowd ?pg ?hdd ?po ?sa ?mkk ?kcc ?n_nC ?n_nA ?n_nB ?a_bad ?x_bad ?a_sw ?v_ends ?v_number ?z_bool_ ?z_enum_ ?z_int_ ?z_isi ?z_len ?z_list_ ?z_max_ ?z_min_ ?z_range ?z_set_ ?z_sum_ ?z_tuple_ ?z_sorted_
    (case a_choices => k_is)
    (case l_choices => k_is)
    (case c_choices => k_is)
    (case k_choices => k_is)
    (case a_filled => k_is)
    (case l_filled => k_is)
    (case c_filled => k_is)
    (case k_filled => k_is)
    (case a_whole => k_is)
    (case l_whole => k_is)
    (case c_whole => k_is)
    (case k_whole => k_is)
    (case a_win => k_is)
    (case l_win => k_is)
    (case c_win => k_is)
    (case k_win => k_is)
    (case a_within => k_is)
    (case l_within => k_is)
    (case c_within => k_is)
    (case k_within => k_is)
    (case a_crow => k_is)
    (case l_crow => k_is)
    (case c_crow => k_is)
    (case k_crow => k_is)
    (case a_chkt => k_is)
    (case l_chkt => k_is)
    (case c_chkt => k_is)
    (case k_chkt => k_is)
    (case a_colat => k_is)
    (case l_colat => k_is)
    (case c_colat => k_is)
    (case k_colat => k_is)
    (case a_colsof => k_is)
    (case l_colsof => k_is)
    (case c_colsof => k_is)
    (case k_colsof => k_is)
    (case a_great => k_is)
    (case l_great => k_is)
    (case c_great => k_is)
    (case k_great => k_is)
    (case a_lone => k_is)
    (case l_lone => k_is)
    (case c_lone => k_is)
    (case k_lone => k_is)
    (case a_even => k_is)
    (case l_even => k_is)
    (case c_even => k_is)
    (case k_even => k_is)
    (case a_pleft => k_is)
    (case l_pleft => k_is)
    (case c_pleft => k_is)
    (case k_pleft => k_is)
    (case a_off => k_is)
    (case l_off => k_is)
    (case c_off => k_is)
    (case k_off => k_is)
    (case a_pin => k_is)
    (case l_pin => k_is)
    (case c_pin => k_is)
    (case k_pin => k_is)
    (case a_time => k_is)
    (case l_time => k_is)
    (case c_time => k_is)
    (case k_time => k_is)
    (case a_cell => k_is)
    (case l_cell => k_is)
    (case c_cell => k_is)
    (case k_cell => k_is)
    (case a_mix => k_is)
    (case l_mix => k_is)
    (case c_mix => k_is)
    (case k_mix => k_is)
    (case a_lwhole => k_is)
    (case l_lwhole => k_is)
    (case c_lwhole => k_is)
    (case k_lwhole => k_is)
    (case a_ltab => k_is)
    (case l_ltab => k_is)
    (case c_ltab => k_is)
    (case k_ltab => k_is)
    (case a_spell => k_is)
    (case l_spell => k_is)
    (case c_spell => k_is)
    (case k_spell => k_is)
    (case a_law => k_is)
    (case l_law => k_is)
    (case c_law => k_is)
    (case k_law => k_is)
    (case a_join => k_is)
    (case a_init => k_is)
    (case i_init => k_is)
    (case l_init => k_is)
    (case c_init => k_is)
    (case k_init => k_is)
    (case a_admit => k_is)
    (case i_admit => k_is)
    (case l_admit => k_is)
    (case c_admit => k_is)
    (case k_admit => k_is)
    (case a_search => k_is)
    (case i_search => k_is)
    (case l_search => k_is)
    (case c_search => k_is)
    (case k_search => k_is)
    (case a_shift => k_is)
    (case i_shift => k_is)
    (case l_shift => k_is)
    (case c_shift => k_is)
    (case k_shift => k_is)
    (case a_crowd => k_is)
    (case i_crowd => k_is)
    (case l_crowd => k_is)
    (case c_crowd => k_is)
    (case k_crowd => k_is)
    (case pg => k_is)
    (case hdd => k_is)
    (case po => k_is)
    (case sa => k_is)
    (case mkk => k_is)
    (case kcc => k_is)
    (case n_nC => k_is)
    (case n_nA => k_is)
    (case n_nB => k_is)
    (case a_bad => k_is)
    (case x_bad => k_exc)
    (case a_sw => k_is)
    (case v_ends => k_is)
    (case v_number => k_is)
    (case z_bool_ => k_is)
    (case z_enum_ => k_is)
    (case z_int_ => k_is)
    (case z_isi => k_is)
    (case z_len => k_is)
    (case z_list_ => k_is)
    (case z_max_ => k_is)
    (case z_min_ => k_is)
    (case z_range => k_is)
    (case z_set_ => k_is)
    (case z_sum_ => k_is)
    (case z_tuple_ => k_is)
    (case z_sorted_ => k_is)
