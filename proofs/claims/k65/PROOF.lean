import PyProof.Rows.All
import Wide.All
import OpenK.AllK
import Wide.FinOn
import Lean
import PyProof.EqAt
import PyProof.EqKinds
import PyProof.TupleCall
import PySem.Challenge.RW_joinedever_k65_papers_through_moments
import PyProof.Draws
import PyProof.ZipIter
import PyProof.TupleIter
import PyProof.ListRange
import PyProof.CollectWalk
import KE.KSortTup
import KE.KDictSum
import PyProof.Rows.Range3
import KE.KEqDict
import KE.KRevIter
import PyProof.EnumStmt
set_option Elab.async false
set_option linter.all false
set_option maxRecDepth 100000
-- CHANGE: your row's module here, as the last of these rows
namespace L2
open PySem PySem.Spec PyProof.Rows
/-- a key: an int or a str -/
abbrev Key := Sum Int Str
def keyIs : Key → Value → Bool
  | .inl k, v => Value.isInt k v
  | .inr x, v => Value.isStrOf x v
def keyH (w : World) : Key → Int
  | .inl k => hashInt k
  | .inr x => hashStr w x
theorem keyIs_shape : ∀ {k : Key} {v : Value}, keyIs k v = true → (∃ i t, k = Sum.inl i ∧ v = Value.int i t) ∨ (∃ x t, k = Sum.inr x ∧ v = Value.str x t)
  | .inl i, v, h => by
    obtain ⟨t, e⟩ := Value.isInt_shape (k := i) (v := v) h
    exact .inl ⟨i, t, rfl, e⟩
  | .inr x, v, h => by
    obtain ⟨t, e⟩ := Value.isStrOf_shape (x := x) (v := v) h
    exact .inr ⟨x, t, rfl, e⟩
theorem keyIs_int (i : Int) (t : Tok) : keyIs (.inl i) (.int i t) = true := by simp [keyIs, Value.isInt]
theorem keyIs_str (x : Str) (t : Tok) : keyIs (.inr x) (.str x t) = true := by simp [keyIs, Value.isStrOf]
theorem key_ll (a b : Int) : decide ((Sum.inl a : Key) = Sum.inl b) = (a == b) := by
  by_cases e : a = b
  · subst e; simp
  · have h : ¬ (Sum.inl a : Key) = Sum.inl b := fun q => e (Sum.inl.inj q)
    rw [decide_eq_false h]
    exact (beq_eq_false_iff_ne.mpr e).symm
theorem key_rr (a b : Str) : decide ((Sum.inr a : Key) = Sum.inr b) = decide (a = b) := by
  by_cases e : a = b
  · subst e; simp
  · have h : ¬ (Sum.inr a : Key) = Sum.inr b := fun q => e (Sum.inr.inj q)
    rw [decide_eq_false h, decide_eq_false e]
theorem key_lr (a : Int) (b : Str) : decide ((Sum.inl a : Key) = Sum.inr b) = false := decide_eq_false (fun q => nomatch q)
theorem key_rl (a : Str) (b : Int) : decide ((Sum.inr a : Key) = Sum.inl b) = false := decide_eq_false (fun q => nomatch q)

def mixKind (prog : Program) (w : World) : PySem.KeyKind prog w Key where
  is := keyIs
  hash := keyH w
  inj := fun v a b ha hb => by
    rcases keyIs_shape ha with ⟨i, t, rfl, rfl⟩ | ⟨x, t, rfl, rfl⟩
    · rcases keyIs_shape hb with ⟨j, u, rfl, e⟩ | ⟨y, u, rfl, e⟩
      · injection e with e1 _; rw [e1]
      · exact nomatch e
    · rcases keyIs_shape hb with ⟨j, u, rfl, e⟩ | ⟨y, u, rfl, e⟩
      · exact nomatch e
      · injection e with e1 _; rw [e1]
  byValue := fun k v h => by
    rcases keyIs_shape h with ⟨i, t, rfl, rfl⟩ | ⟨x, t, rfl, rfl⟩ <;> rfl
  pyHash := fun hv h => by
    rcases keyIs_shape hv with ⟨i, t, rfl, rfl⟩ | ⟨x, t, rfl, rfl⟩
    · exact wpAny_pyHash_int h
    · exact wpAny_pyHash_str h
  eqBool := fun hu hv h => by
    rcases keyIs_shape hu with ⟨i, t, rfl, rfl⟩ | ⟨x, t, rfl, rfl⟩
    · rcases keyIs_shape hv with ⟨j, u, rfl, rfl⟩ | ⟨y, u, rfl, rfl⟩
      · rw [key_ll] at h; exact wpAny_eqBool_int h
      · rw [key_lr] at h; exact SeqAt.EqAt.int_str i t y u _ _ _ _ h
    · rcases keyIs_shape hv with ⟨j, u, rfl, rfl⟩ | ⟨y, u, rfl, rfl⟩
      · rw [key_rl] at h; exact SeqAt.EqAt.str_int x t j u _ _ _ _ h
      · rw [key_rr] at h; exact wpAny_eqBool_str h
  «strs» := fun k x t v h => by
    rcases keyIs_shape h with ⟨i, u, rfl, e⟩ | ⟨y, u, rfl, e⟩
    · exact nomatch e
    · injection e with e1 _
      subst e1
      cases v <;> rfl

theorem mixKind_int (prog : Program) (w : World) (i : Int) (t : Tok) : (mixKind prog w).is (.inl i) (.int i t) = true := keyIs_int i t
theorem mixKind_str (prog : Program) (w : World) (x : Str) (t : Tok) : (mixKind prog w).is (.inr x) (.str x t) = true := keyIs_str x t
end L2
namespace L2
open PySem PySem.Spec PyProof.Rows
/-- a value, without the heap -/
inductive V where
  | non | bl (b : Bool) | int (i : Int) | str (x : Str) | byt (b : Array UInt8) | flt (b : UInt64) | ref (a : Addr) | ty (n : String)
  deriving DecidableEq

def RelV : V → Value → Prop
  | .non, u => u = Value.none
  | .bl b, u => u = Value.bool b
  | .int i, u => ∃ t, u = Value.int i t
  | .str x, u => ∃ t, u = Value.str x t
  | .byt b, u => ∃ t, u = Value.bytes b t
  | .flt b, u => ∃ t, u = Value.float b t
  | .ref a, u => u = Value.ref a
  | .ty n, u => u = Value.type n

abbrev Vals : List V → List Value → Prop := Paired RelV
theorem Vals.length {xs : List V} {us : List Value} (r : Vals xs us) : xs.length = us.length := Paired.length r
theorem Vals.get : ∀ {xs : List V} {us : List Value} {i : Nat} {x : V}, Vals xs us → xs[i]? = some x → ∃ u, us[i]? = some u ∧ RelV x u
  | _, _, _, _, .nil, e => by simp at e
  | _, _, 0, _, .cons r _, e => by simp at e; subst e; exact ⟨_, rfl, r⟩
  | _, _, i + 1, x, .cons _ t, e => by
    obtain ⟨u, h1, h2⟩ := Vals.get (i := i) (x := x) t (by simpa using e)
    exact ⟨u, by simpa using h1, h2⟩
theorem Vals.set {x : V} {u : Value} (r : RelV x u) : ∀ {xs : List V} {us : List Value} (i : Nat), Vals xs us → Vals (xs.set i x) (us.set i u)
  | _, _, _, .nil => .nil
  | _, _, 0, .cons _ t => .cons r t
  | _, _, i + 1, .cons q t => .cons q (Vals.set r i t)
theorem Vals.append : ∀ {xs ys : List V} {us ws : List Value}, Vals xs us → Vals ys ws → Vals (xs ++ ys) (us ++ ws)
  | _, _, _, _, .nil, s => s
  | _, _, _, _, .cons r t, s => .cons r (Vals.append t s)
theorem Vals.take : ∀ {xs : List V} {us : List Value} (n : Nat), Vals xs us → Vals (xs.take n) (us.take n)
  | _, _, 0, _ => .nil
  | _, _, _ + 1, .nil => .nil
  | _, _, n + 1, .cons r t => .cons r (Vals.take n t)
theorem Vals.drop : ∀ {xs : List V} {us : List Value} (n : Nat), Vals xs us → Vals (xs.drop n) (us.drop n)
  | _, _, 0, r => r
  | _, _, _ + 1, .nil => .nil
  | _, _, n + 1, .cons _ t => Vals.drop n t
def RelO : Option V → Option Value → Prop
  | some v, some u => RelV v u
  | none, none => True
  | _, _ => False
def KV {κ : Type} : List (κ × V) → List (κ × Value) → Prop := Paired fun (p : κ × V) (q : κ × Value) => p.1 = q.1 ∧ RelV p.2 q.2

/-- a key of a dict (00_mix): an int or a text -/
def kV : Key → V
  | .inl i => .int i
  | .inr x => .str x

/-- what stands at a tracked address -/
inductive HO where
  /-- a list -/
  | lst (xs : List V)
  /-- a tuple (never changes) -/
  | tup (xs : List V)
  /-- a dict whose keys are ints and texts; one whose keys are tuples of ints and texts (the empty one is both) -/
  | dK (kvs : List (Key × V)) | dT (kvs : List (List Key × V))
  /-- a set of ints: its members, its size -/
  | set (S : Int → Bool) (n : Nat)
  /-- an instance of the class at C, its dict at dx, its attributes -/
  | ins (C dx : Addr) (fs : List (Str × V))
  /-- the dict of the instance at x -/
  | own (x : Addr)
  /-- the dict of an exception -/
  | xd (fs : List (Str × V))
  /-- a bound method, f of x -/
  | met (f x : Addr)
  /-- a range object lo, lo + 1, .. below hi -/
  | rng (lo hi : Int)
  /-- a thing that is known to the object (the script; a dict while a loop walks it): read, never written while it is so -/
  | frz (o : Obj) (u : HO)
  /-- a code object's table -/
  | tbl (ps : Array Value)
  /-- any other thing, by what is true of its one object (a def of one's own: SetO a S n := HO.ext fun h => ..) -/
  | ext (φ : Heap → Prop)

abbrev Hp := Addr → Option HO
def upd (H : Hp) (a : Addr) (o : HO) : Hp := fun b => if b = a then some o else H b
theorem upd_same {H : Hp} {a : Addr} {o : HO} : upd H a o a = some o := by unfold upd; rw [if_pos rfl]
theorem upd_ne {H : Hp} {a b : Addr} {o : HO} (h : b ≠ a) : upd H a o b = H b := by unfold upd; rw [if_neg h]
theorem upd_upd {H : Hp} {a : Addr} {o u : HO} : upd (upd H a o) a u = upd H a u := by
  funext b; unfold upd; split <;> rfl
/-- two objects of different content stand apart -/
theorem ne_of {H : Hp} {a b : Addr} {o u : HO} (h : H a = some o) (h' : H b = some u) (d : o ≠ u) : a ≠ b := by
  intro e; subst e; rw [h] at h'; exact d (Option.some.inj h')
theorem ne_of_none {H : Hp} {a b : Addr} {o : HO} (h : H a = some o) (h' : H b = none) : a ≠ b := by
  intro e; subst e; rw [h] at h'; cases h'

def IsTupN (h : Heap) (a : Addr) (items : Array Value) : Prop := ∃ o, h.get? a = some o ∧ o.cls = .type "tuple" ∧ o.dict = none ∧ ∃ n, o.data = .seq items n
theorem IsTupN.new (h : Heap) (items : Array Value) : IsTupN (h.push { cls := .type "tuple", data := .seq items }) h.objs.size items := ⟨_, Heap.get?_push_size _ rfl, rfl, rfl, _, rfl⟩
theorem IsTupN.tup {h : Heap} {a : Addr} {items : Array Value} (x : IsTupN h a items) : IsTup h a items := let ⟨o, e, c, _, n, d⟩ := x; ⟨o, e, c, n, d⟩
section
variable (P : Program) (w : World)
def ObjOk (H : Hp) (h : Heap) (a : Addr) : HO → Prop
  | .lst xs => xs.length ≤ sizeLine ∧ ∃ (its : List Value) (n : Nat), Vals xs its ∧ h.get? a = some { cls := .type "list", data := .seq its.toArray n }
  | .tup xs => xs.length ≤ sizeLine ∧ ∃ its : List Value, Vals xs its ∧ IsTupN h a its.toArray
  | .dK kvs => kvs.length ≤ sizeLine ∧ (a == sysModules) = false ∧ ∃ vs, KV kvs vs ∧ h.DictOf (mixKind P w) a vs
  | .dT kvs => kvs.length ≤ sizeLine ∧ (a == sysModules) = false ∧ ∃ xs : List (List Key × Addr × Value),
      Paired (fun (p : List Key × V) (q : List Key × Addr × Value) => p.1 = q.1 ∧ H q.2.1 = some (.tup (p.1.map kV)) ∧ RelV p.2 q.2.2) kvs xs ∧
      ∃ o es ep, h.get? a = some o ∧ o.ExactDict ∧ o.data = .dict es ep ∧ es.toList = xs.map (entryOfKey (tupleKind (mixKind P w))) ∧ (xs.map (·.1)).Nodup
  | .set S n => h.SetOf (intKind P w) a S n
  | .ins C dx fs => H dx = some (.own a) ∧ fs.length ≤ 1000 ∧ dx ≠ a ∧ h.get? a = some (PySem.W.instObj C dx) ∧
      ∃ mA, h.Ns1 dx mA ∧ (∀ f, RelO (fs.lookup f) (mA f)) ∧ PySem.Within mA (fs.map (·.1))
  | .own _ => ∃ o, h.get? a = some o
  | .xd fs => ∃ mA, h.Ns1 a mA ∧ ∀ f, RelO (fs.lookup f) (mA f)
  | .rng lo hi => ∃ t u v, h.get? a = some { cls := .type "range", data := .fields #[.int lo t, .int hi u, .int 1 v] }
  | .frz o u => h.get? a = some o ∧ ObjOk H h a u
  | .tbl ps => h.get? a = some { cls := .none, data := .fields ps }
  | .met f x => h.get? a = some (PySem.W.methodObj (.ref f) (.ref x))
  | .ext φ => φ h ∧ (∃ o, h.get? a = some o) ∧ ∀ h1 h2 : Heap, φ h1 → (∀ o, h1.get? a = some o → h2.get? a = some o) → φ h2
/-- the abstract heap is held -/
def HOk (H : Hp) (h : Heap) : Prop := ∀ a o, H a = some o → ObjOk P w H h a o
end
section
variable {P : Program} {w : World} {H H' : Hp} {h h' : Heap} {a : Addr} {o : HO}
theorem ObjOk.lt (x : ObjOk P w H h a o) : a < h.objs.size := by
  cases o with
  | lst xs => obtain ⟨_, _, _, _, e⟩ := x; exact Heap.lt_size e
  | tup xs => obtain ⟨_, _, _, p⟩ := x; exact p.tup.lt
  | dK kvs => obtain ⟨_, _, _, _, o, _, _, e, _⟩ := x; exact Heap.lt_size e
  | dT kvs => obtain ⟨_, _, _, _, o, _, _, e, _⟩ := x; exact Heap.lt_size e
  | set S n => obtain ⟨o, _, _, _, e, _⟩ := x; exact Heap.lt_size e
  | ins C dx fs => obtain ⟨_, _, _, e, _⟩ := x; exact Heap.lt_size e
  | own y => obtain ⟨_, e⟩ := x; exact Heap.lt_size e
  | xd fs => obtain ⟨_, ⟨_, _, _, e, _⟩, _⟩ := x; exact Heap.lt_size e
  | rng lo hi => obtain ⟨_, _, _, e⟩ := x; exact Heap.lt_size e
  | frz ob u => obtain ⟨e, _⟩ := x; exact Heap.lt_size e
  | tbl ps => exact Heap.lt_size (show h.get? a = some _ from x)
  | met f y => exact Heap.lt_size (show h.get? a = some _ from x)
  | ext φ => obtain ⟨_, ⟨_, e⟩, _⟩ := x; exact Heap.lt_size e
theorem Paired.mapP {α β : Type} {F G : α → β → Prop} : ∀ {l₁ : List α} {l₂ : List β}, Paired F l₁ l₂ → (∀ a b, F a b → G a b) → Paired G l₁ l₂
  | _, _, .nil, _ => .nil
  | _, _, .cons r t, f => .cons (f _ _ r) (Paired.mapP t f)
/-- what an object's description leans on: its own object, its own dict, the tuples -/
theorem ObjOk.stay (x : ObjOk P w H h a o) (k : ∀ b u, (b = a ∨ H b = some (.own a)) → h.get? b = some u → h'.get? b = some u)
    (ho : ∀ b, H b = some (.own a) → H' b = some (.own a)) (ht : ∀ b xs, H b = some (.tup xs) → H' b = some (.tup xs)) : ObjOk P w H' h' a o := by
  induction o with
  | lst xs => obtain ⟨z, its, n, r, e⟩ := x; exact ⟨z, its, n, r, k _ _ (.inl rfl) e⟩
  | tup xs => obtain ⟨z, its, r, ob, e, c⟩ := x; exact ⟨z, its, r, ob, k _ _ (.inl rfl) e, c⟩
  | dK kvs => obtain ⟨z, y, vs, r, ob, es, ep, e, c⟩ := x; exact ⟨z, y, vs, r, ob, es, ep, k _ _ (.inl rfl) e, c⟩
  | dT kvs =>
    obtain ⟨z, y, xs, r, ob, es, ep, e, c⟩ := x
    exact ⟨z, y, xs, Paired.mapP r fun p q z => ⟨z.1, ht _ _ z.2.1, z.2.2⟩, ob, es, ep, k _ _ (.inl rfl) e, c⟩
  | set S n => obtain ⟨ob, es, ep, t, e, c⟩ := x; exact ⟨ob, es, ep, t, k _ _ (.inl rfl) e, c⟩
  | ins C dx fs =>
    obtain ⟨d, z, ne, e, mA, ⟨od, es, ep, e2, c⟩, r⟩ := x
    exact ⟨ho _ d, z, ne, k _ _ (.inl rfl) e, mA, ⟨od, es, ep, k _ _ (.inr d) e2, c⟩, r⟩
  | own y => obtain ⟨ob, e⟩ := x; exact ⟨ob, k _ _ (.inl rfl) e⟩
  | xd fs => obtain ⟨mA, ⟨od, es, ep, e, c⟩, r⟩ := x; exact ⟨mA, ⟨od, es, ep, k _ _ (.inl rfl) e, c⟩, r⟩
  | rng lo hi => obtain ⟨t, u, v, e⟩ := x; exact ⟨t, u, v, k _ _ (.inl rfl) e⟩
  | frz ob u ih => obtain ⟨e, q⟩ := x; exact ⟨k _ _ (.inl rfl) e, ih q⟩
  | tbl ps =>
    have e : h.get? a = some { cls := .none, data := .fields ps } := x
    show h'.get? a = some { cls := .none, data := .fields ps }
    exact k a _ (.inl rfl) e
  | met f y =>
    have e : h.get? a = some (PySem.W.methodObj (.ref f) (.ref y)) := x
    show h'.get? a = some (PySem.W.methodObj (.ref f) (.ref y))
    exact k a _ (.inl rfl) e
  | ext φ => obtain ⟨p, ⟨o, e⟩, st⟩ := x; exact ⟨st _ _ p fun o q => k _ _ (.inl rfl) q, ⟨o, k _ _ (.inl rfl) e⟩, st⟩
theorem HOk.lt (x : HOk P w H h) (e : H a = some o) : a < h.objs.size := (x a o e).lt
theorem HOk.fresh (x : HOk P w H h) (e : h.objs.size ≤ a) : H a = none := by
  cases q : H a with
  | none => rfl
  | some u => exact absurd (Nat.lt_of_lt_of_le (x.lt q) e) (Nat.lt_irrefl _)
/-- every object of the heap is kept -/
theorem HOk.kept (x : HOk P w H h) (k : ∀ b u, h.get? b = some u → h'.get? b = some u) : HOk P w H h' := fun a o e =>
  (x a o e).stay (fun b u _ q => k b u q) (fun _ q => q) fun _ _ q => q
/-- a new object is laid and tracked -/
theorem HOk.laid (x : HOk P w H h) (k : ∀ b u, h.get? b = some u → h'.get? b = some u) (hp : h.objs.size ≤ a) (new : ObjOk P w (upd H a o) h' a o) : HOk P w (upd H a o) h' := fun b u e => by
  have hn := x.fresh hp
  by_cases hb : b = a
  · subst hb; rw [upd_same] at e; cases e; exact new
  · rw [upd_ne hb] at e
    exact (x b u e).stay (fun c v _ q => k c v q) (fun c q => by rw [upd_ne (ne_of_none q hn)]; exact q) fun c xs q => by rw [upd_ne (ne_of_none q hn)]; exact q
end
/-- what may be read as u: it is u, or a known u -/
def Rd (H : Hp) (a : Addr) (u : HO) : Prop := H a = some u ∨ ∃ o, H a = some (.frz o u)
theorem Rd.ok {P : Program} {w : World} {H : Hp} {h : Heap} {a : Addr} {u : HO} (r : Rd H a u) (x : HOk P w H h) : ObjOk P w H h a u := by
  rcases r with r | ⟨o, r⟩
  · exact x a u r
  · obtain ⟨_, q⟩ := x a _ r
    exact q
/-- what may be written -/
def Mut : Option HO → Prop
  | some (.lst _) => True
  | some (.dK _) => True
  | some (.dT _) => True
  | some (.set _ _) => True
  | some (.ins _ _ _) => True
  | some (.ext _) => True
  | _ => False
section
variable {P : Program} {w : World} {H : Hp} {h h' : Heap} {x e : Addr} {o' : HO}
/-- the object at e is changed: x itself, or the dict of the instance x -/
theorem HOk.write (ok : HOk P w H h) (mu : Mut (H x)) (he : e = x ∨ H e = some (.own x)) (k : ∀ b u, b ≠ e → h.get? b = some u → h'.get? b = some u) (heo : ∃ u, h'.get? e = some u)
    (new : ObjOk P w (upd H x o') h' x o') : HOk P w (upd H x o') h' := fun b u q => by
  have nown : ∀ c y, H c = some (.own y) → c ≠ x := fun c y r z => by subst z; rw [r] at mu; exact mu
  have ntup : ∀ c xs, H c = some (.tup xs) → c ≠ x := fun c xs r z => by subst z; rw [r] at mu; exact mu
  by_cases hb : b = x
  · subst hb; rw [upd_same] at q; cases q; exact new
  · rw [upd_ne hb] at q
    by_cases hbe : b = e
    · have q' : H b = some (.own x) := by
        rcases he with z | z
        · exact absurd (hbe.trans z) hb
        · rw [hbe]; exact z
      rw [q] at q'; cases q'
      obtain ⟨v, hv⟩ := heo
      exact ⟨v, by rw [hbe]; exact hv⟩
    · refine (ok b u q).stay (fun c v hc r => k c v ?_ r) (fun c r => by rw [upd_ne (nown c b r)]; exact r) fun c xs r => by rw [upd_ne (ntup c xs r)]; exact r
      rcases hc with rfl | hc
      · exact hbe
      · rintro rfl
        rcases he with z | z
        · exact nown c b hc z
        · rw [hc] at z; cases z; exact hb rfl
end
structure Un (fs ex : List Addr) (H H' : Hp) (h h' : Heap) : Prop where
  keep : ∀ b o, h.get? b = some o → H b = none → b ∉ fs → b ∉ ex → h'.get? b = some o
  slot : ∀ b o, h.get? b = some o → H b = none → b ∈ fs → b ∉ ex → ∃ sl, h'.get? b = some { o with slots := sl }
  free : ∀ b o, h.get? b = some o → H b = none → b ∉ ex → H' b = none
  there : ∀ b o, h.get? b = some o → b ∉ ex → ∃ o', h'.get? b = some o'
  tups : ∀ b xs, H b = some (.tup xs) → H' b = some (.tup xs)
  frzs : ∀ b o u, H b = some (.frz o u) → H' b = some (.frz o u)
  tbls : ∀ b ps, H b = some (.tbl ps) → ∃ more, H' b = some (.tbl (ps ++ more))
section
variable {fs fs' ex ex' : List Addr} {H H1 H2 : Hp} {h h1 h2 h' : Heap} {a x e : Addr} {o : HO}
theorem Un.any (u : Un fs ex H H1 h h1) {b : Addr} {ob : Obj} (q : h.get? b = some ob) (n : H b = none) (hx : b ∉ ex) : ∃ sl, h1.get? b = some { ob with slots := sl } := by
  by_cases hb : b ∈ fs
  · exact u.slot b ob q n hb hx
  · exact ⟨ob.slots, u.keep b ob q n hb hx⟩
theorem Un.kept (k : ∀ b u, h.get? b = some u → h'.get? b = some u) : Un fs ex H H h h' :=
  ⟨fun b ob q _ _ _ => k b ob q, fun b ob q _ _ _ => ⟨ob.slots, k b ob q⟩, fun _ _ _ n _ => n, fun b ob q _ => ⟨ob, k b ob q⟩, fun _ _ q => q, fun _ _ _ q => q, fun _ ps q => ⟨#[], by rw [q]; simp⟩⟩
theorem Un.refl : Un fs ex H H h h := Un.kept fun _ _ q => q
theorem Un.laid (k : ∀ b u, h.get? b = some u → h'.get? b = some u) (hp : h.objs.size ≤ a) (hn : H a = none) : Un fs ex H (upd H a o) h h' where
  keep := fun b u q _ _ _ => k b u q
  slot := fun b u q _ _ _ => ⟨u.slots, k b u q⟩
  free := fun b u q n _ => by rw [upd_ne (Nat.ne_of_lt (Nat.lt_of_lt_of_le (Heap.lt_size q) hp))]; exact n
  there := fun b u q _ => ⟨u, k b u q⟩
  tups := fun b xs q => by rw [upd_ne (ne_of_none q hn)]; exact q
  frzs := fun b u xs q => by rw [upd_ne (ne_of_none q hn)]; exact q
  tbls := fun b ps q => ⟨#[], by rw [upd_ne (ne_of_none q hn), q]; simp⟩
theorem Un.write (mu : Mut (H x)) (he : e = x ∨ H e = some (.own x)) (k : ∀ b u, b ≠ e → h.get? b = some u → h'.get? b = some u) (heo : ∃ u, h'.get? e = some u) : Un fs ex H (upd H x o) h h' := by
  have hx : ∀ b, H b = none → b ≠ x := fun b n z => by subst z; rw [n] at mu; exact mu
  have hb : ∀ b, H b = none → b ≠ e := fun b n z => by
    subst z
    rcases he with r | r
    · exact hx b n r
    · rw [n] at r; cases r
  have hm : ∀ b u, H b = some u → ¬ Mut (some u) → b ≠ x := fun b u q nm z => by subst z; rw [q] at mu; exact nm mu
  refine ⟨fun b u q n _ _ => k b u (hb b n) q, fun b u q n _ _ => ⟨u.slots, k b u (hb b n) q⟩, fun b u q n _ => by rw [upd_ne (hx b n)]; exact n, fun b u q _ => ?_,
    fun b xs q => by rw [upd_ne (hm b _ q fun z => z)]; exact q, fun b u xs q => by rw [upd_ne (hm b _ q fun z => z)]; exact q, fun b ps q => ⟨#[], by rw [upd_ne (hm b _ q fun z => z), q]; simp⟩⟩
  by_cases hbe : b = e
  · subst hbe; exact heo
  · exact ⟨u, k b u hbe q⟩
end
def trk (h : Heap) (H : Hp) : List Addr := (List.range h.objs.size).filter fun a => (H a).isSome
def hidT (h : Heap) (H : Hp) : Heap := PySem.W.hideAll h (trk h H)
theorem hidT_size (h : Heap) (H : Hp) : (hidT h H).objs.size = h.objs.size := PySem.W.hideAll_size _ _
theorem hidT_get {h : Heap} {H : Hp} {b : Addr} {o : Obj} (e : h.get? b = some o) (n : H b = none) : (hidT h H).get? b = some o :=
  PySem.W.hideAll_get _ e fun hm => by
    have q : (H b).isSome = true := (List.mem_filter.mp hm).2
    rw [n] at q; simp at q
theorem of_hidT {h : Heap} {H : Hp} {b : Addr} {o : Obj} (e : (hidT h H).get? b = some o) : h.get? b = some o ∧ H b = none := by
  have e' : h.get? b = some o := PySem.W.of_hideAll (trk h H) e
  refine ⟨e', ?_⟩
  cases q : H b with
  | none => rfl
  | some x =>
    have hm : b ∈ trk h H := List.mem_filter.mpr ⟨List.mem_range.mpr (Heap.lt_size e'), by simp [q]⟩
    have z : (hidT h H).get? b = none := PySem.W.hideAll_none (trk h H) hm
    rw [z] at e; cases e

end L2
namespace L2
open PySem PySem.Spec PyProof.Rows
/-- the module's facts, over the base: the heap at the law's entry without what is tracked there -/
structure Mod (K : PySem.W.Frag) (mg : Str → Option Value) (base : Heap) : Prop where
  kin : K.In base
  glob : base.Ns mainGlobals mg
  blt : ∃ mb, base.Ns builtinsNs mb ∧ ∀ x : Str, x ≠ "__name__" → mb x = bootBuiltins x
  nolimit : base.NoLimit

/-- the context: a def's body (or a comprehension's block) running. base: fixed through the whole law; s₀, H₀: the entry; outer: the frames whose slots others may change (a def's callers); stack: all frames that run;
   ex: iterators that were made ahead of the entry and are walked here (a comprehension's); fn: the names whose cells were made at the entry (a def: all; a comprehension's block: its own); calm: not within an except suite; pn: pins that every state bears; xe: what is wanted of an exception that leaves the code -/
structure Cx where
  prog : Program
  w : World
  K : PySem.W.Frag
  mg : Str → Option Value
  base : Heap
  A : Around
  N : List Str
  s₀ : Shared
  H₀ : Hp
  env : Env
  outer : List Env
  stack : List Env
  ex : List Addr
  fn : Str → Bool
  calm : Bool
  pn : List (Addr × Obj)
  xe : Value → Shared → Prop
/-- the callers' frames -/
def frs (l : List Env) : List Addr := l.filterMap (·.frame)
abbrev Cx.fs (X : Cx) : List Addr := frs X.outer

def Vis (sc : Scope) (x : Str) : Prop := sc.names.lookup x = some .local ∨ sc.names.lookup x = some .cell ∨ sc.names.lookup x = some .free
def Loc (sc : Scope) (x : Str) : Prop := sc.names.lookup x = some .local ∨ sc.names.lookup x = some .cell
def Look (env : Env) (h : Heap) (m : Str → Option Value) (x : Str) (u : Value) : Prop :=
  (env.kindOf x = some .local ∧ m x = some u) ∨ ((env.kindOf x = some .cell ∨ env.kindOf x = some .free) ∧ ∃ c, env.cells.lookup x = some c ∧ h.IsCell c (some u))

structure Cx.Ok (X : Cx) : Prop where
  mod : Mod X.K X.mg X.base
  kind : X.env.scope.kind = .function
  glob : X.env.globals = mainGlobals
  blt : X.env.builtins = builtinsNs
  above : X.s₀.heap.objs.size ≤ X.env.locals
  inj : ∀ x y c, X.env.cells.lookup x = some c → X.env.cells.lookup y = some c → x = y
  has : ∀ x, (X.env.kindOf x = some .cell ∨ X.env.kindOf x = some .free) → ∃ c, X.env.cells.lookup x = some c
  cab : ∀ x c, X.fn x = true → X.env.cells.lookup x = some c → X.s₀.heap.objs.size ≤ c
  hd : X.calm = true → X.A.handled = none
  frames : X.A.frames = some X.stack
  stk : X.stack = X.outer ∨ (X.stack = X.env :: X.outer ∧ X.env.frame = some X.env.locals)
  exf : ∀ b ∈ X.ex, b ≠ X.env.locals ∧ ∀ x c, X.env.cells.lookup x = some c → c ≠ b
  bs : ∀ b o, X.base.get? b = some o → X.s₀.heap.get? b = some o ∧ X.H₀ b = none
  bsz : X.base.objs.size ≤ X.s₀.heap.objs.size
  noex : ∀ b o, X.base.get? b = some o → b ∉ X.ex
  exfs : ∀ b ∈ X.ex, b ∉ X.fs
  funs : X.s₀.heap.FunFrames X.base X.outer
  frf : ∀ b ∈ X.fs, X.H₀ b = none

structure Inv (X : Cx) (pins : List (Addr × Obj)) (σ : List (Option V)) (H : Hp) (s : Shared) : Prop where
  ok : X.Ok
  os : s.os = X.s₀.os
  bare : AllBare s.gens
  base : Un X.fs X.ex X.H₀ H X.s₀.heap s.heap
  loc : ∃ m, s.heap.Ns X.env.locals m ∧ ∀ (i : Nat) (x : Str) (v : V), X.N[i]? = some x → σ[i]? = some (some v) → Vis X.env.scope x → ∃ u, RelV v u ∧ Look X.env s.heap m x u
  cell : ∀ x c, X.env.cells.lookup x = some c → ∃ v, s.heap.IsCell c v
  free : H X.env.locals = none
  freeC : ∀ x c, X.env.cells.lookup x = some c → H c = none
  pin : ∀ p ∈ X.pn ++ pins, s.heap.get? p.1 = some p.2 ∧ H p.1 = none ∧ p.1 ≠ X.env.locals ∧ p.1 ∉ X.fs ∧ ∀ v, p.2.data ≠ .cell v
  hok : HOk X.prog X.w H s.heap
  len : σ.length = X.N.length

section
variable {X : Cx} {pins : List (Addr × Obj)} {σ : List (Option V)} {H H' : Hp} {s : Shared} {h' : Heap}
theorem Cx.Ok.nofr (ok : X.Ok) {b : Addr} {o : Obj} (e : X.base.get? b = some o) : b ∉ X.fs := fun hb => by
  have := (ok.funs.mem hb).1
  rw [e] at this; cases this
theorem Inv.bs (I : Inv X pins σ H s) : ∀ b o, X.base.get? b = some o → s.heap.get? b = some o ∧ H b = none := fun b o e =>
  ⟨I.base.keep b o (I.ok.bs b o e).1 (I.ok.bs b o e).2 (I.ok.nofr e) (I.ok.noex b o e), I.base.free b o (I.ok.bs b o e).1 (I.ok.bs b o e).2 (I.ok.noex b o e)⟩
theorem Inv.bk (I : Inv X pins σ H s) : ∀ b o, X.base.get? b = some o → s.heap.get? b = some o := fun b o e => (I.bs b o e).1
theorem Inv.mod (I : Inv X pins σ H s) : Mod X.K X.mg X.base := I.ok.mod
theorem Inv.kIn (I : Inv X pins σ H s) : X.K.In s.heap := I.ok.mod.kin.keeps I.bk
theorem Inv.lt (I : Inv X pins σ H s) : X.env.locals < s.heap.objs.size := let ⟨_, hn, _⟩ := I.loc; hn.lt
theorem Inv.sz (I : Inv X pins σ H s) : X.s₀.heap.objs.size ≤ s.heap.objs.size := Nat.le_trans I.ok.above (Nat.le_of_lt I.lt)
theorem Inv.nofs (I : Inv X pins σ H s) {a : Addr} (h : s.heap.objs.size ≤ a) : a ∉ X.fs := fun hb => by
  obtain ⟨_, o, ho, _⟩ := I.ok.funs.mem hb
  exact absurd (Nat.lt_of_lt_of_le (Heap.lt_size ho) (Nat.le_trans I.sz h)) (Nat.lt_irrefl _)
theorem Inv.cne (I : Inv X pins σ H s) : ∀ x c, X.env.cells.lookup x = some c → c ≠ X.env.locals := fun x c e z => by
  obtain ⟨v, o, ho, hd⟩ := I.cell x c e
  obtain ⟨m, ⟨o', es, ep, ho', hd', _⟩, _⟩ := I.loc
  rw [z, ho'] at ho; cases ho; rw [hd'] at hd; cases hd
theorem Inv.funs (I : Inv X pins σ H s) : s.heap.FunFrames X.base X.outer := by
  have all : ∀ (l : List Env), (∀ b ∈ frs l, b ∈ X.fs) → X.s₀.heap.FunFrames X.base l → s.heap.FunFrames X.base l := by
    intro l
    induction l with
    | nil => intro _ _; trivial
    | cons env r ih =>
      intro hs hl
      obtain ⟨hk, ⟨L, o, hf, hn, ho, hd⟩, hr⟩ := hl
      have hL : L ∈ X.fs := hs L (by unfold frs; rw [List.filterMap_cons, hf]; exact List.mem_cons_self)
      obtain ⟨sl, e⟩ := I.base.slot L o ho (I.ok.frf L hL) hL fun z => I.ok.exfs L z hL
      exact ⟨hk, ⟨L, _, hf, hn, e, hd⟩, ih (fun b hb => hs b (by unfold frs; rw [List.filterMap_cons, hf]; exact List.mem_cons_of_mem _ hb)) hr⟩
  exact all X.outer (fun _ hb => hb) I.ok.funs

/-- the frames that run, for a call -/
theorem Inv.stack (I : Inv X pins σ H s) : s.heap.FunFrames X.base X.stack := by
  rcases I.ok.stk with e | ⟨e, hf⟩
  · rw [e]; exact I.funs
  · rw [e]
    obtain ⟨m, hn, _⟩ := I.loc
    refine .cons (by rw [I.ok.kind]; decide) hf hn ?_ I.funs
    exact Heap.get?_none_of_le (Nat.le_trans I.ok.bsz I.ok.above)
theorem Inv.stkSub (I : Inv X pins σ H s) : ∀ b ∈ frs X.stack, b ∈ X.env.locals :: X.fs := fun b hb => by
  rcases I.ok.stk with e | ⟨e, hf⟩
  · rw [e] at hb; exact List.mem_cons_of_mem _ hb
  · rw [e] at hb
    unfold frs at hb
    rw [List.filterMap_cons, hf] at hb
    exact hb
theorem Inv.stkFree (I : Inv X pins σ H s) : ∀ b ∈ frs X.stack, H b = none := fun b hb => by
  rcases List.mem_cons.mp (I.stkSub b hb) with e | hb
  · rw [e]; exact I.free
  · obtain ⟨_, o, ho, _⟩ := I.ok.funs.mem hb
    exact I.base.free b o ho (I.ok.frf b hb) fun z => I.ok.exfs b z hb

/-- THE STEP: the untracked objects but the frame and the records at ch are kept (the callers' frames up to slots), the frame's map is kept, the new abstract heap is held -/
theorem Inv.step {g' : Array GenState} {t' : Nat} {d' : Drawn} {ch : List Addr} (I : Inv X pins σ H s)
    (hch : ∀ b ∈ ch, (b ∈ X.ex ∨ X.s₀.heap.objs.size ≤ b) ∧ b ≠ X.env.locals ∧ (∀ x c, X.env.cells.lookup x = some c → c ≠ b) ∧ ∀ p ∈ X.pn ++ pins, p.1 ≠ b)
    (keep : ∀ b o, b ≠ X.env.locals → b ∉ X.fs → b ∉ ch → s.heap.get? b = some o → H b = none → h'.get? b = some o)
    (slot : ∀ b o, b ≠ X.env.locals → b ∈ X.fs → b ∉ ch → s.heap.get? b = some o → H b = none → ∃ sl, h'.get? b = some { o with slots := sl }) (free : ∀ b o, b ∉ ch → s.heap.get? b = some o → H b = none → H' b = none)
    (there : ∀ b o, b ∉ ch → s.heap.get? b = some o → ∃ o', h'.get? b = some o')
    (tups : ∀ b xs, H b = some (.tup xs) → H' b = some (.tup xs)) (frzs : ∀ b o u, H b = some (.frz o u) → H' b = some (.frz o u)) (tbls : ∀ b ps, H b = some (.tbl ps) → ∃ more, H' b = some (.tbl (ps ++ more)))
    (ns : ∀ m, s.heap.Ns X.env.locals m → h'.Ns X.env.locals m) (hok : HOk X.prog X.w H' h') (hg : AllBare g') :
    Inv X pins σ H' { s with heap := h', gens := g', drawn := d', toks := t' } := by
  have neL : ∀ b o, X.s₀.heap.get? b = some o → b ≠ X.env.locals := fun b o e => Nat.ne_of_lt (Nat.lt_of_lt_of_le (Heap.lt_size e) I.ok.above)
  have neC : ∀ b o, X.s₀.heap.get? b = some o → b ∉ X.ex → b ∉ ch := fun b o e hx hb => by
    rcases (hch b hb).1 with z | z
    · exact hx z
    · exact absurd (Nat.lt_of_lt_of_le (Heap.lt_size e) z) (Nat.lt_irrefl _)
  have cellK : ∀ x c, X.env.cells.lookup x = some c → ∀ v, s.heap.IsCell c v → h'.IsCell c v := fun x c e v ⟨o, ho, hd⟩ => by
    have nch : c ∉ ch := fun z => (hch c z).2.2.1 x c e rfl
    by_cases hc : c ∈ X.fs
    · obtain ⟨sl, q⟩ := slot c o (I.cne x c e) hc nch ho (I.freeC x c e)
      exact ⟨_, q, hd⟩
    · exact ⟨o, keep c o (I.cne x c e) hc nch ho (I.freeC x c e), hd⟩
  refine ⟨I.ok, I.os, hg, ⟨fun b o e n hb hx => ?_, fun b o e n hb hx => ?_, fun b o e n hx => ?_, fun b o e hx => ?_, fun b xs e => tups b xs (I.base.tups b xs e), fun b o xs e => frzs b o xs (I.base.frzs b o xs e), fun b ps e => ?_⟩, ?_, fun x c e => ?_, ?_, fun x c e => ?_, fun p hp => ?_, hok, I.len⟩
  · exact keep b o (neL b o e) hb (neC b o e hx) (I.base.keep b o e n hb hx) (I.base.free b o e n hx)
  · obtain ⟨sl, e1⟩ := I.base.slot b o e n hb hx
    obtain ⟨sl', e2⟩ := slot b _ (neL b o e) hb (neC b o e hx) e1 (I.base.free b o e n hx)
    exact ⟨sl', e2⟩
  · obtain ⟨o', e1⟩ := I.base.there b o e hx
    exact free b o' (neC b o e hx) e1 (I.base.free b o e n hx)
  · obtain ⟨o', e1⟩ := I.base.there b o e hx
    exact there b o' (neC b o e hx) e1
  · obtain ⟨m1, e1⟩ := I.base.tbls b ps e
    obtain ⟨m2, e2⟩ := tbls b _ e1
    exact ⟨m1 ++ m2, by rw [e2, Array.append_assoc]⟩
  · obtain ⟨m, hn, hl⟩ := I.loc
    refine ⟨m, ns m hn, fun i x v e1 e2 e3 => ?_⟩
    obtain ⟨u, r, l⟩ := hl i x v e1 e2 e3
    refine ⟨u, r, ?_⟩
    rcases l with l | ⟨k, c, e, z⟩
    · exact .inl l
    · exact .inr ⟨k, c, e, cellK x c e _ z⟩
  · obtain ⟨v, z⟩ := I.cell x c e
    exact ⟨v, cellK x c e v z⟩
  · obtain ⟨m, ⟨o, _, _, ho, _⟩, _⟩ := I.loc
    exact free _ o (fun z => (hch _ z).2.1 rfl) ho I.free
  · obtain ⟨v, o, ho, hd⟩ := I.cell x c e
    exact free c o (fun z => (hch c z).2.2.1 x c e rfl) ho (I.freeC x c e)
  · obtain ⟨e, n, ne, nf, d⟩ := I.pin p hp
    have nch : p.1 ∉ ch := fun z => (hch p.1 z).2.2.2 p hp rfl
    exact ⟨keep p.1 p.2 ne nf nch e n, free p.1 p.2 nch e n, ne, nf, d⟩
/-- .. where the frame's own object is kept too -/
theorem Inv.un {t' : Nat} (I : Inv X pins σ H s) (u : Un X.fs [] H H' s.heap h') (hok : HOk X.prog X.w H' h') : Inv X pins σ H' { s with heap := h', toks := t' } := by
  obtain ⟨m, ⟨o, es, ep, ho, r⟩, _⟩ := id I.loc
  obtain ⟨sl, hL⟩ := u.any ho I.free (by simp)
  exact I.step (g' := s.gens) (d' := s.drawn) (ch := []) (fun _ z => nomatch z) (fun b o _ hb _ e n => u.keep b o e n hb (by simp)) (fun b o _ hb _ e n => u.slot b o e n hb (by simp)) (fun b o _ e n => u.free b o e n (by simp)) (fun b o _ e => u.there b o e (by simp)) u.tups u.frzs u.tbls (fun m' hm => by
    obtain ⟨o', es', ep', ho', r'⟩ := hm
    rw [ho] at ho'; cases ho'
    exact ⟨_, es', ep', hL, r'⟩) hok I.bare
/-- behind a call (or a comprehension's block): the slots of this frame may have changed too, the records at ch may have turned -/
theorem Inv.call {g' : Array GenState} {t' : Nat} {d' : Drawn} {ch : List Addr} (I : Inv X pins σ H s) (u : Un (frs X.stack) ch H H' s.heap h') (hok : HOk X.prog X.w H' h') (hg : AllBare g')
    (hch : ∀ b ∈ ch, (b ∈ X.ex ∨ X.s₀.heap.objs.size ≤ b) ∧ b ≠ X.env.locals ∧ (∀ x c, X.env.cells.lookup x = some c → c ≠ b) ∧ ∀ p ∈ X.pn ++ pins, p.1 ≠ b) :
    Inv X pins σ H' { s with heap := h', gens := g', drawn := d', toks := t' } := by
  obtain ⟨m, ⟨o, es, ep, ho, r⟩, _⟩ := id I.loc
  obtain ⟨sl, hL⟩ := u.any ho I.free fun z => (hch _ z).2.1 rfl
  exact I.step (ch := ch) hch (fun b o hL hb hc e n => u.keep b o e n (fun z => (List.mem_cons.mp (I.stkSub b z)).elim hL hb) hc) (fun b o _ _ hc e n => u.any e n hc) (fun b o hc e n => u.free b o e n hc) (fun b o hc e => u.there b o e hc) u.tups u.frzs u.tbls (fun m' hm => by
    obtain ⟨o', es', ep', ho', r'⟩ := hm
    rw [ho] at ho'; cases ho'
    exact ⟨_, es', ep', hL, r'⟩) hok hg
/-- an untracked record of ours (an iterator) has turned -/
theorem Inv.turned {t' : Nat} {it : Addr} (I : Inv X pins σ H s) (k : ∀ b o, b ≠ it → s.heap.get? b = some o → h'.get? b = some o) (hn : H it = none) (hL : it ≠ X.env.locals)
    (h1 : it ∈ X.ex ∨ X.s₀.heap.objs.size ≤ it) (h2 : ∀ x c, X.env.cells.lookup x = some c → c ≠ it) (h3 : ∀ p ∈ X.pn ++ pins, p.1 ≠ it) : Inv X pins σ H { s with heap := h', toks := t' } := by
  have nit : ∀ b u, H b = some u → b ≠ it := fun b u e z => by rw [z, hn] at e; cases e
  refine I.step (g' := s.gens) (d' := s.drawn) (ch := [it]) (fun b hb => ?_) (fun b o _ _ hc e _ => k b o (fun z => hc (by simp [z])) e) (fun b o _ _ hc e _ => ⟨o.slots, k b o (fun z => hc (by simp [z])) e⟩) (fun _ _ _ _ n => n)
    (fun b o hc e => ⟨o, k b o (fun z => hc (by simp [z])) e⟩) (fun _ _ e => e) (fun _ _ _ e => e) (fun b ps e => ⟨#[], by rw [e]; simp⟩) (fun m hm => ?_) (fun b u e => ?_) I.bare
  · have e : b = it := by simpa using hb
    subst e
    exact ⟨h1, hL, h2, h3⟩
  · obtain ⟨o, es, ep, ho, r⟩ := hm
    exact ⟨o, es, ep, k _ o (Ne.symm hL) ho, r⟩
  · refine (I.hok b u e).stay (fun c v hc q => k c v ?_ q) (fun _ q => q) fun _ _ q => q
    rcases hc with z | z
    · rw [z]; exact nit b u e
    · exact nit c _ z
theorem Inv.tok (I : Inv X pins σ H s) (t : Nat) : Inv X pins σ H { s with toks := t } := I.un (h' := s.heap) (t' := t) Un.refl I.hok
/-- all objects kept -/
theorem Inv.kept {t' : Nat} (I : Inv X pins σ H s) (k : ∀ b u, s.heap.get? b = some u → h'.get? b = some u) : Inv X pins σ H { s with heap := h', toks := t' } := I.un (Un.kept k) (I.hok.kept k)
/-- a new object laid and tracked -/
theorem Inv.laid {a : Addr} {o : HO} {t' : Nat} (I : Inv X pins σ H s) (k : ∀ b u, s.heap.get? b = some u → h'.get? b = some u) (hp : s.heap.objs.size ≤ a) (new : ObjOk X.prog X.w (upd H a o) h' a o) :
    Inv X pins σ (upd H a o) { s with heap := h', toks := t' } := I.un (Un.laid k hp (I.hok.fresh hp)) (I.hok.laid k hp new)
/-- an object written -/
theorem Inv.write {x e : Addr} {o : HO} {t' : Nat} (I : Inv X pins σ H s) (mu : Mut (H x)) (he : e = x ∨ H e = some (.own x)) (k : ∀ b u, b ≠ e → s.heap.get? b = some u → h'.get? b = some u) (heo : ∃ u, h'.get? e = some u)
    (new : ObjOk X.prog X.w (upd H x o) h' x o) : Inv X pins σ (upd H x o) { s with heap := h', toks := t' } := I.un (Un.write mu he k heo) (I.hok.write mu he k heo new)
theorem Inv.pins_of {pins' : List (Addr × Obj)} (I : Inv X pins σ H s) (h : ∀ p ∈ pins', s.heap.get? p.1 = some p.2 ∧ H p.1 = none ∧ p.1 ≠ X.env.locals ∧ p.1 ∉ X.fs ∧ ∀ v, p.2.data ≠ .cell v) : Inv X pins' σ H s :=
  ⟨I.ok, I.os, I.bare, I.base, I.loc, I.cell, I.free, I.freeC, fun p hp => (List.mem_append.mp hp).elim (fun z => I.pin p (List.mem_append_left _ z)) (h p), I.hok, I.len⟩

theorem nodup_ix {N : List Str} (hN : N.Nodup) {i j : Nat} {x : Str} (a : N[i]? = some x) (b : N[j]? = some x) : i = j := by
  obtain ⟨h1, e1⟩ := List.getElem?_eq_some_iff.mp a
  obtain ⟨h2, e2⟩ := List.getElem?_eq_some_iff.mp b
  exact (List.getElem_inj hN).mp (e1.trans e2.symm)

/-- a name is stored; what changed -/
theorem store_ok2 {M : Model} {A : Around} {E : Value → Shared → Prop} {i : Nat} {x : Str} {v : V} {u : Value} {Q : Unit → Shared → Prop} (I : Inv X pins σ H s) (hN : X.N.Nodup) (hi : X.N[i]? = some x) (hx : Loc X.env.scope x) (r : RelV v u)
    (h : ∀ s', Inv X pins (σ.set i (some v)) H s' → (∃ a, Heap.SameBut a s.heap s'.heap ∧ (a = X.env.locals ∨ X.env.cells.lookup x = some a)) → Q () s') (hf : X.fn x = true ∨ X.env.scope.names.lookup x = some .local := by first | exact .inl rfl | exact .inr rfl | assumption) : wpAny M A (storeName X.env x u) Q E s := by
  obtain ⟨m, hn, hl⟩ := id I.loc
  have hcls : (X.env.scope.kind == .class || (X.env.scope.kind == .module && X.env.locals != X.env.globals)) = false := by rw [I.ok.kind]; rfl
  have hiσ : i < σ.length := by rw [I.len]; exact (List.getElem?_eq_some_iff.mp hi).1
  have cne := I.cne
  have tracked : ∀ {a : Addr} {h' : Heap}, (∃ o, s.heap.get? a = some o ∧ H a = none) → Heap.SameBut a s.heap h' → HOk X.prog X.w H h' := fun {a h'} ha hs b ob e => by
    obtain ⟨_, _, hfree⟩ := ha
    refine (I.hok b ob e).stay (fun c w' hc q => (hs.2 c ?_).trans q) (fun _ q => q) fun _ _ q => q
    rintro rfl
    rcases hc with rfl | hc
    · rw [hfree] at e; cases e
    · rw [hfree] at hc; cases hc
  rcases hx with hk | hk
  · refine wpAny_storeName_local hk hn (fun h' hn' hs => ?_) hcls
    obtain ⟨oL, _, _, hoL, _⟩ := id hn
    refine h _ ⟨I.ok, I.os, I.bare, ⟨fun b o e n hb hx => ?_, fun b o e n hb hx => ?_, I.base.free, fun b o e hx => ?_, I.base.tups, I.base.frzs, I.base.tbls⟩, ⟨_, hn', fun j y v' e1 e2 e3 => ?_⟩, fun y c e => ?_, I.free, I.freeC, fun p hp => ?_, tracked ⟨oL, hoL, I.free⟩ hs, by simpa using I.len⟩ ⟨_, hs, .inl rfl⟩
    · exact (hs.2 b (Nat.ne_of_lt (Nat.lt_of_lt_of_le (Heap.lt_size e) I.ok.above))).trans (I.base.keep b o e n hb hx)
    · obtain ⟨sl, e1⟩ := I.base.slot b o e n hb hx
      exact ⟨sl, (hs.2 b (Nat.ne_of_lt (Nat.lt_of_lt_of_le (Heap.lt_size e) I.ok.above))).trans e1⟩
    · obtain ⟨o', e1⟩ := I.base.there b o e hx
      exact ⟨o', (hs.2 b (Nat.ne_of_lt (Nat.lt_of_lt_of_le (Heap.lt_size e) I.ok.above))).trans e1⟩
    · by_cases hj : j = i
      · subst hj
        rw [hi] at e1; cases e1
        rw [List.getElem?_set_self hiσ] at e2
        cases e2
        exact ⟨u, r, .inl ⟨hk, by simp⟩⟩
      · rw [List.getElem?_set_ne (Ne.symm hj)] at e2
        obtain ⟨u', r', q⟩ := hl j y v' e1 e2 e3
        refine ⟨u', r', ?_⟩
        rcases q with ⟨k, e⟩ | ⟨k, c, e, z⟩
        · refine .inl ⟨k, ?_⟩
          have : y ≠ x := fun e => hj (nodup_ix hN e1 (e ▸ hi))
          simp [this, e]
        · exact .inr ⟨k, c, e, z.sameBut hs (cne y c e)⟩
    · obtain ⟨w', z⟩ := I.cell y c e
      exact ⟨w', z.sameBut hs (cne y c e)⟩
    · obtain ⟨e, n, ne, nf, d⟩ := I.pin p hp
      exact ⟨(hs.2 p.1 ne).trans e, n, ne, nf, d⟩
  · have hfn : X.fn x = true := by
      rcases hf with z | z
      · exact z
      · rw [z] at hk; cases hk
    obtain ⟨c, hc⟩ := I.ok.has x (.inl hk)
    obtain ⟨w', z⟩ := I.cell x c hc
    refine wpAny_storeName_cell I.ok.kind hk hc z (fun h' hc' hs => ?_)
    obtain ⟨oc, hoc, hocd⟩ := id z
    refine h { s with heap := h' } ⟨I.ok, I.os, I.bare, ⟨fun b o e n hb hx => ?_, fun b o e n hb hx => ?_, I.base.free, fun b o e hx => ?_, I.base.tups, I.base.frzs, I.base.tbls⟩, ⟨m, hn.sameBut hs (Ne.symm (cne x c hc)), fun j y v' e1 e2 e3 => ?_⟩, fun y c' e => ?_, I.free, I.freeC, fun p hp => ?_, tracked ⟨oc, hoc, I.freeC x c hc⟩ hs, by simpa using I.len⟩ ⟨c, hs, .inr hc⟩
    · exact (hs.2 b (Nat.ne_of_lt (Nat.lt_of_lt_of_le (Heap.lt_size e) (I.ok.cab x c hfn hc)))).trans (I.base.keep b o e n hb hx)
    · obtain ⟨sl, e1⟩ := I.base.slot b o e n hb hx
      exact ⟨sl, (hs.2 b (Nat.ne_of_lt (Nat.lt_of_lt_of_le (Heap.lt_size e) (I.ok.cab x c hfn hc)))).trans e1⟩
    · obtain ⟨o', e1⟩ := I.base.there b o e hx
      exact ⟨o', (hs.2 b (Nat.ne_of_lt (Nat.lt_of_lt_of_le (Heap.lt_size e) (I.ok.cab x c hfn hc)))).trans e1⟩
    · by_cases hj : j = i
      · subst hj
        rw [hi] at e1; cases e1
        rw [List.getElem?_set_self hiσ] at e2
        cases e2
        exact ⟨u, r, .inr ⟨.inl hk, c, hc, hc'⟩⟩
      · rw [List.getElem?_set_ne (Ne.symm hj)] at e2
        obtain ⟨u', r', q⟩ := hl j y v' e1 e2 e3
        refine ⟨u', r', ?_⟩
        rcases q with q | ⟨k, c', e, z'⟩
        · exact .inl q
        · refine .inr ⟨k, c', e, z'.sameBut hs ?_⟩
          rintro rfl
          exact hj (nodup_ix hN e1 (I.ok.inj _ _ _ e hc ▸ hi))
    · by_cases hcc : c' = c
      · subst hcc; exact ⟨_, hc'⟩
      · obtain ⟨w2, z2⟩ := I.cell y c' e
        exact ⟨w2, z2.sameBut hs hcc⟩
    · obtain ⟨e, n, ne, nf, d⟩ := I.pin p hp
      refine ⟨(hs.2 p.1 ?_).trans e, n, ne, nf, d⟩
      intro q
      rw [q, hoc] at e
      have q' : oc = p.2 := Option.some.inj e
      exact d w' (by rw [← q']; exact hocd)
theorem store_ok {M : Model} {A : Around} {E : Value → Shared → Prop} {i : Nat} {x : Str} {v : V} {u : Value} {Q : Unit → Shared → Prop} (I : Inv X pins σ H s) (hN : X.N.Nodup) (hi : X.N[i]? = some x) (hx : Loc X.env.scope x) (r : RelV v u)
    (h : ∀ s', Inv X pins (σ.set i (some v)) H s' → Q () s') (hf : X.fn x = true ∨ X.env.scope.names.lookup x = some .local := by first | exact .inl rfl | exact .inr rfl | assumption) : wpAny M A (storeName X.env x u) Q E s :=
  store_ok2 I hN hi hx r (fun s' I' _ => h s' I') hf
/-- behind a call or a block, the state as it is -/
theorem Inv.call' {s' : Shared} {ch : List Addr} (I : Inv X pins σ H s) (ho : s'.os = s.os) (u : Un (frs X.stack) ch H H' s.heap s'.heap) (hok : HOk X.prog X.w H' s'.heap) (hg : AllBare s'.gens)
    (hch : ∀ b ∈ ch, (b ∈ X.ex ∨ X.s₀.heap.objs.size ≤ b) ∧ b ≠ X.env.locals ∧ (∀ x c, X.env.cells.lookup x = some c → c ≠ b) ∧ ∀ p ∈ X.pn ++ pins, p.1 ≠ b) : Inv X pins σ H' s' := by
  obtain ⟨h', g', d', t', o'⟩ := s'
  have e : o' = s.os := ho
  subst e
  exact I.call (g' := g') (t' := t') (d' := d') u hok hg hch
end
/-- an exception: its class, its own dict's address (where it has one), the abstract heap behind it -/
abbrev XK := Value → Option Addr → Hp → Prop
abbrev St := List (Option V)
abbrev VK := V → Hp → Prop
/-- an expression's reading; a test's; an argument list's -/
abbrev TE := St → Hp → VK → Prop
abbrev TT := St → Hp → (Bool → Hp → Prop) → Prop
abbrev TA := St → Hp → (List V → Hp → Prop) → Prop
/-- what is wanted behind a statement -/
structure Ends where
  nx : St → Hp → Prop
  rt : VK
  bk : St → Hp → Prop := fun _ _ => False
  ct : St → Hp → Prop := fun _ _ => False
abbrev TS := Ends → St → Hp → Prop

def EP (X : Cx) (pins : List (Addr × Obj)) (σ : St) (Q : VK) (u : Value) (s' : Shared) : Prop := ∃ v H', Inv X pins σ H' s' ∧ RelV v u ∧ Q v H'
def TP (X : Cx) (pins : List (Addr × Obj)) (σ : St) (Q : Bool → Hp → Prop) (b : Bool) (s' : Shared) : Prop := ∃ H', Inv X pins σ H' s' ∧ Q b H'
def AP (X : Cx) (pins : List (Addr × Obj)) (σ : St) (Q : List V → Hp → Prop) (us : List Value) (s' : Shared) : Prop := ∃ vs H', Inv X pins σ H' s' ∧ Vals vs us ∧ Q vs H'
def SP (X : Cx) (pins : List (Addr × Obj)) (D : Ends) (f : Flow) (s' : Shared) : Prop :=
  match f with
  | .next => ∃ σ' H', Inv X pins σ' H' s' ∧ D.nx σ' H'
  | .brk => ∃ σ' H', Inv X pins σ' H' s' ∧ D.bk σ' H'
  | .cont => ∃ σ' H', Inv X pins σ' H' s' ∧ D.ct σ' H'
  | .ret u => ∃ v σ' H', Inv X pins σ' H' s' ∧ RelV v u ∧ D.rt v H'

def PE (X : Cx) (e : Expr) (t : TE) : Prop :=
  ∀ (pins : List (Addr × Obj)) (s : Shared) (σ : St) (H : Hp) (Q : VK), Inv X pins σ H s → t σ H Q → wpAny (model X.prog X.w) X.A (eval e X.env) (EP X pins σ Q) X.xe s
def PT (X : Cx) (e : Expr) (t : TT) : Prop :=
  ∀ (pins : List (Addr × Obj)) (s : Shared) (σ : St) (H : Hp) (Q : Bool → Hp → Prop), Inv X pins σ H s → t σ H Q → wpAny (model X.prog X.w) X.A (isTrue e X.env (eval e X.env)) (TP X pins σ Q) X.xe s
/-- a test whatever its 'whole' is (and, or) -/
def PW (X : Cx) (e : Expr) (t : TT) : Prop :=
  ∀ (whole : Sem Value) (pins : List (Addr × Obj)) (s : Shared) (σ : St) (H : Hp) (Q : Bool → Hp → Prop), Inv X pins σ H s → t σ H Q → wpAny (model X.prog X.w) X.A (isTrue e X.env whole) (TP X pins σ Q) X.xe s
theorem PW.pt {X : Cx} {e : Expr} {t : TT} (h : PW X e t) : PT X e t := h _
/-- an argument list (no star), from the left -/
def PA (X : Cx) (es : List Expr) (t : TA) : Prop :=
  ∀ (pos : Pos) (pins : List (Addr × Obj)) (s : Shared) (σ : St) (H : Hp) (Q : List V → Hp → Prop), Inv X pins σ H s → t σ H Q → wpAny (model X.prog X.w) X.A (spliced (backTo pos (starEach es X.env))) (AP X pins σ Q) X.xe s
def PS (X : Cx) (st : Stmt) (t : TS) : Prop :=
  ∀ (pins : List (Addr × Obj)) (s : Shared) (σ : St) (H : Hp) (D : Ends), Inv X pins σ H s → t D σ H → wpAny (model X.prog X.w) X.A (exec st X.env) (SP X pins D) X.xe s
def PSs (X : Cx) (st : List Stmt) (t : TS) : Prop :=
  ∀ (pins : List (Addr × Obj)) (s : Shared) (σ : St) (H : Hp) (D : Ends), Inv X pins σ H s → t D σ H → wpAny (model X.prog X.w) X.A (execs st X.env) (SP X pins D) X.xe s
/-- weaken the end -/
theorem thn {α : Type} {t : Sem α} {Q Q' : α → Shared → Prop} {M : Model} {A : Around} {E : Value → Shared → Prop} {s : Shared} (h : wpAny M A t Q E s) (hQ : ∀ a s, Q a s → Q' a s) : wpAny M A t Q' E s := wpAny_mono h hQ fun _ _ x => x
end L2
namespace L2
open PySem PySem.Spec PyProof.Rows
section
variable {X : Cx}
def tVar (i : Nat) : TE := fun σ H Q => ∃ v, σ[i]? = some (some v) ∧ Q v H
def tC (v : V) : TE := fun _ H Q => Q v H
theorem pe_var {i : Nat} {x : Str} {pos : Pos} (hN : X.N[i]? = some x) (hv : Vis X.env.scope x) (hd : (x == ("__debug__" : Str)) = false := by decide) (hcd : (x == ("__classdict__" : Str)) = false := by decide) : PE X (.Name x pos) (tVar i) := by
  intro pins s σ H Q I h
  obtain ⟨v, e, h⟩ := h
  obtain ⟨m, hn, hl⟩ := I.loc
  obtain ⟨u, r, l⟩ := hl i x v hN e hv
  have fin : EP X pins σ Q u s := ⟨v, H, I, r, h⟩
  rcases l with ⟨hk, hm⟩ | ⟨hk, c, hc, hcell⟩
  · exact wpAny_Name (wpAny_loadName_local I.ok.kind hk hn hm fin) hd
  · rcases hk with hk | hk
    · exact wpAny_Name (wpAny_loadName_cell I.ok.kind hk hc hcell fin) hd
    · exact wpAny_Name (wpAny_loadName_free I.ok.kind hk hc hcell fin hcd) hd
theorem pe_int {i j pos} : PE X (.Constant (.int i) j pos) (tC (.int i)) := fun _ _ _ H _ I h => wpAny_Constant_int ⟨.int i, H, I.tok _, ⟨_, rfl⟩, h⟩
theorem pe_bl {b j pos} : PE X (.Constant (.bool b) j pos) (tC (.bl b)) := fun _ _ _ H _ I h => Constant_bool ⟨.bl b, H, I, rfl, h⟩
theorem pe_non {j pos} : PE X (.Constant .none j pos) (tC .non) := fun _ _ _ H _ I h => Constant_none ⟨.non, H, I, rfl, h⟩
theorem pe_str {x j pos} : PE X (.Constant (.str x) j pos) (tC (.str x)) := fun _ _ _ H _ I h => Calls.Constant_str ⟨.str x, H, I.tok _, ⟨_, rfl⟩, h⟩

/-- a global name of the def -/
def Gl (X : Cx) (x : Str) : Prop := X.env.kindOf x = some .globalImplicit
theorem ld_glob {E : Value → Shared → Prop} {pins : List (Addr × Obj)} {s : Shared} {σ : St} {H : Hp} {x : Str} {u : Value} {pos : Pos} {Q : Value → Shared → Prop} (I : Inv X pins σ H s) (hg : Gl X x) (hm : X.mg x = some u) (h : Q u s)
    (hd : (x == ("__debug__" : Str)) = false := by decide) : wpAny (model X.prog X.w) X.A (eval (.Name x pos) X.env) Q E s :=
  Calls.Name_function_global I.ok.kind hg (Calls.loadGlobal_global (by rw [I.ok.glob]; exact I.mod.glob.keeps I.bk) hm h) hd
theorem ld_blt {E : Value → Shared → Prop} {pins : List (Addr × Obj)} {s : Shared} {σ : St} {H : Hp} {x : Str} {u : Value} {pos : Pos} {Q : Value → Shared → Prop} (I : Inv X pins σ H s) (hg : Gl X x) (hm : X.mg x = none) (hv : bootBuiltins x = some u) (h : Q u s)
    (hn : x ≠ "__name__" := by decide) (hd : (x == ("__debug__" : Str)) = false := by decide) : wpAny (model X.prog X.w) X.A (eval (.Name x pos) X.env) Q E s := by
  obtain ⟨mb, h1, h2⟩ := I.mod.blt
  exact Calls.Name_function_global I.ok.kind hg (Calls.loadGlobal_builtin (by rw [I.ok.glob]; exact I.mod.glob.keeps I.bk) hm (by rw [I.ok.blt]; exact h1.keeps I.bk) ((h2 x hn).trans hv) h) hd
variable {a b : Expr} {ta tb : TE} {pos : Pos}
def PC (X : Cx) (op : CmpOp) (a b : Expr) (t : TE) : Prop :=
  ∀ (pins : List (Addr × Obj)) (s : Shared) (σ : St) (H : Hp) (Q : VK), Inv X pins σ H s → t σ H Q →
    wpAny (model X.prog X.w) X.A (eval a X.env) (fun v s₁ => wpAny (model X.prog X.w) X.A (eval b X.env) (fun u s₂ => wpAny (model X.prog X.w) X.A (compareOp op v u) (EP X pins σ Q) X.xe s₂) X.xe s₁) X.xe s
/-- a comparison as a value, as a test -/
def tB (t : TE) : TT := fun σ H Q => t σ H fun x H1 => ∃ c, x = .bl c ∧ Q c H1
theorem pt_cmp {op : CmpOp} {t : TE} (h : PC X op a b t) (h1 : behindInMarks op b = false := by first | exact nobehind _ (by decide) (by decide) | rfl) : PT X (.Compare a [op] [b] pos) (tB t) := by
  intro pins s σ H Q I hw
  refine wpAny_isTrue_Compare1 (thn (h pins s σ H _ I hw) fun v s1 h1 => thn h1 fun u s2 h2 => thn h2 fun c s3 ⟨x, H1, I1, r1, q1⟩ => ?_) h1
  obtain ⟨d, rfl, q⟩ := q1
  cases r1
  exact wpAny_truthy_bool ⟨H1, I1, q⟩
/-- an expression whose value is a bool, as a test -/
theorem pt_val {e : Expr} {t : TE} (h : PE X e t) (he : ∀ whole, isTrue e X.env whole = (do let v ← whole; standAt e.pos; holding [v] (truthy v)) := by intro _; rfl) : PT X e (tB t) := by
  intro pins s σ H Q I hw
  refine isTrue_plain (thn (h pins s σ H _ I hw) fun v s1 ⟨x, H1, I1, r1, q1⟩ => ?_) (he _)
  obtain ⟨d, rfl, q⟩ := q1
  cases r1
  exact wpAny_truthy_bool ⟨H1, I1, q⟩

variable {tA tB' : TT} {rest : List Expr}
def tAnd (t u : TT) : TT := fun σ H Q => t σ H fun c H1 => if c = true then u σ H1 Q else Q false H1
def tOr (t u : TT) : TT := fun σ H Q => t σ H fun c H1 => if c = true then Q true H1 else u σ H1 Q
def tNot (t : TT) : TT := fun σ H Q => t σ H fun c H1 => Q (!c) H1
theorem pw_and1 (ha : PT X a tA) : PW X (.BoolOp .And [a] pos) tA := by
  intro wh pins s σ H Q I h
  refine isTrue_and (thn (ha pins s σ H Q I h) fun c s1 e => ?_)
  cases c with
  | true => exact isTrue_and_nil e
  | false => exact e
theorem pw_or1 (ha : PT X a tA) : PW X (.BoolOp .Or [a] pos) tA := by
  intro wh pins s σ H Q I h
  refine isTrue_or (thn (ha pins s σ H Q I h) fun c s1 e => ?_)
  cases c with
  | false => exact isTrue_or_nil e
  | true => exact e
theorem pw_and (ha : PT X a tA) (hb : PW X (.BoolOp .And (b :: rest) pos) tB') : PW X (.BoolOp .And (a :: b :: rest) pos) (tAnd tA tB') := by
  intro wh pins s σ H Q I h
  refine isTrue_and (thn (ha pins s σ H _ I h) fun c s1 ⟨H1, I1, q1⟩ => ?_)
  cases c with
  | true => exact hb wh pins s1 σ H1 Q I1 q1
  | false => exact ⟨H1, I1, q1⟩
theorem pw_or (ha : PT X a tA) (hb : PW X (.BoolOp .Or (b :: rest) pos) tB') : PW X (.BoolOp .Or (a :: b :: rest) pos) (tOr tA tB') := by
  intro wh pins s σ H Q I h
  refine isTrue_or (thn (ha pins s σ H _ I h) fun c s1 ⟨H1, I1, q1⟩ => ?_)
  cases c with
  | true => exact ⟨H1, I1, q1⟩
  | false => exact hb wh pins s1 σ H1 Q I1 q1
theorem pt_not (ha : PT X a tA) : PT X (.UnaryOp .Not a pos) (tNot tA) := by
  intro pins s σ H Q I h
  exact isTrue_not (ha pins s σ H (fun c H1 => Q (!c) H1) I h)
/-- .. as values (bools) -/
def tAndV (ta tb : TE) : TE := fun σ H Q => ta σ H fun x H1 => ∃ c, x = .bl c ∧ if c = true then tb σ H1 Q else Q (.bl false) H1
def tNotV (ta : TE) : TE := fun σ H Q => ta σ H fun x H1 => ∃ c, x = .bl c ∧ Q (.bl (!c)) H1
theorem pe_one {op} {t : TE} (h : PE X a t) : PE X (.BoolOp op [a] pos) t := fun pins s σ H Q I hw => BoolOp_one (h pins s σ H Q I hw)
theorem pe_and (ha : PE X a ta) (hb : PE X (.BoolOp .And (b :: rest) pos) tb) : PE X (.BoolOp .And (a :: b :: rest) pos) (tAndV ta tb) := by
  intro pins s σ H Q I h
  refine BoolOp_and (thn (ha pins s σ H _ I h) fun v s1 ⟨x, H1, I1, r1, q1⟩ => ?_)
  obtain ⟨c, rfl, q1⟩ := q1
  cases r1
  refine wpAny_truthy_bool ?_
  cases c with
  | true => exact hb pins s1 σ H1 Q I1 q1
  | false => exact ⟨.bl false, H1, I1, rfl, q1⟩
theorem pe_not (ha : PE X a ta) : PE X (.UnaryOp .Not a pos) (tNotV ta) := by
  intro pins s σ H Q I h
  refine UnaryOp_ (thn (ha pins s σ H _ I h) fun v s1 ⟨x, H1, I1, r1, q1⟩ => ?_)
  obtain ⟨c, rfl, q1⟩ := q1
  cases r1
  exact not_of (wpAny_truthy_bool ⟨.bl (!c), H1, I1, rfl, q1⟩)
/-- a if t else b -/
def tIf (t : TT) (ta tb : TE) : TE := fun σ H Q => t σ H fun c H1 => if c = true then ta σ H1 Q else tb σ H1 Q
theorem pe_ifExp {c : Expr} (hc : PT X c tA) (ha : PE X a ta) (hb : PE X b tb) : PE X (.IfExp c a b pos) (tIf tA ta tb) := by
  intro pins s σ H Q I h
  refine wpAny_IfExp (thn (hc pins s σ H _ I h) fun d s1 ⟨H1, I1, q1⟩ => ?_)
  cases d with
  | true => exact ha pins s1 σ H1 Q I1 q1
  | false => exact hb pins s1 σ H1 Q I1 q1
end
end L2
namespace L2
open PySem PySem.Spec PyProof.Rows
def SqL (K : PySem.W.Frag) (H : Hp) (a : Addr) (xs : List V) : Prop :=
  Rd H a (.lst xs) ∨
    ∃ (o : Obj) (its : Array Value) (n : Nat), K.lookup a = some o ∧ o.cls = .type "list" ∧ o.dict = none ∧ o.data = .seq its n ∧ its.size ≤ sizeLine ∧ Vals xs its.toList
def SqT (K : PySem.W.Frag) (H : Hp) (a : Addr) (xs : List V) : Prop :=
  Rd H a (.tup xs) ∨
    ∃ (o : Obj) (its : Array Value) (n : Nat), K.lookup a = some o ∧ o.cls = .type "tuple" ∧ o.data = .seq its n ∧ its.size ≤ sizeLine ∧ Vals xs its.toList
def absV : Value → Option V
  | .none => some .non
  | .bool b => some (.bl b)
  | .int i _ => some (.int i)
  | .str x _ => some (.str x)
  | .bytes b _ => some (.byt b)
  | .float b _ => some (.flt b)
  | .ref a => some (.ref a)
  | .type n => some (.ty n)
  | _ => none
theorem RelV.abs {x : V} {u : Value} (r : RelV x u) : absV u = some x := by
  cases x with
  | non => cases r; rfl
  | bl _ => cases r; rfl
  | int _ => obtain ⟨t, rfl⟩ := r; rfl
  | str _ => obtain ⟨t, rfl⟩ := r; rfl
  | byt _ => obtain ⟨t, rfl⟩ := r; rfl
  | flt _ => obtain ⟨t, rfl⟩ := r; rfl
  | ref _ => cases r; rfl
  | ty _ => cases r; rfl
theorem RelV.inj {x y : V} {u : Value} (r : RelV x u) (q : RelV y u) : x = y := Option.some.inj (r.abs.symm.trans q.abs)
theorem Vals.inj : ∀ {xs ys : List V} {us : List Value}, Vals xs us → Vals ys us → xs = ys
  | _, _, _, .nil, .nil => rfl
  | _, _, _, .cons r t, .cons r' t' => by rw [r.inj r', Vals.inj t t']
section
variable {X : Cx} {pins : List (Addr × Obj)} {σ : St} {H : Hp} {s : Shared} {a : Addr} {xs ys : List V}
theorem SqL.of {K : PySem.W.Frag} (h : H a = some (.lst xs)) : SqL K H a xs := .inl (.inl h)
theorem SqT.of {K : PySem.W.Frag} (h : H a = some (.tup xs)) : SqT K H a xs := .inl (.inl h)
theorem Inv.list (I : Inv X pins σ H s) (h : SqL X.K H a xs) : ∃ its : List Value, Vals xs its ∧ PlainL s.heap a its.toArray ∧ xs.length ≤ sizeLine := by
  rcases h with h | ⟨o, its, n, hk, hc, hd, hs, hz, r⟩
  · obtain ⟨z, its, n, r, e⟩ := h.ok I.hok
    exact ⟨its, r, ⟨_, n, e, rfl, rfl, rfl⟩, z⟩
  · refine ⟨its.toList, r, ⟨o, n, I.kIn a o hk, hc, hd, by simpa using hs⟩, ?_⟩
    have e := r.length
    simp only [Array.length_toList] at e
    omega
theorem Inv.tuple (I : Inv X pins σ H s) (h : SqT X.K H a xs) : ∃ its : List Value, Vals xs its ∧ IsTup s.heap a its.toArray ∧ xs.length ≤ sizeLine := by
  rcases h with h | ⟨o, its, n, hk, hc, hs, hz, r⟩
  · obtain ⟨z, its, r, p⟩ := h.ok I.hok
    exact ⟨its, r, p.tup, z⟩
  · refine ⟨its.toList, r, ⟨o, I.kIn a o hk, hc, n, by simpa using hs⟩, ?_⟩
    have e := r.length
    simp only [Array.length_toList] at e
    omega
theorem Inv.list_inj (I : Inv X pins σ H s) (h : SqL X.K H a xs) (h' : SqL X.K H a ys) : xs = ys := by
  obtain ⟨its, r, ⟨o, n, e, _, _, d⟩, _⟩ := I.list h
  obtain ⟨its', r', ⟨o', n', e', _, _, d'⟩, _⟩ := I.list h'
  rw [e] at e'; cases e'
  rw [d] at d'
  injection d' with d1 _
  have : its = its' := by simpa using congrArg Array.toList d1
  subst this
  exact r.inj r'
theorem Inv.tuple_inj (I : Inv X pins σ H s) (h : SqT X.K H a xs) (h' : SqT X.K H a ys) : xs = ys := by
  obtain ⟨its, r, ⟨o, e, _, n, d⟩, _⟩ := I.tuple h
  obtain ⟨its', r', ⟨o', e', _, n', d'⟩, _⟩ := I.tuple h'
  rw [e] at e'; cases e'
  rw [d] at d'
  injection d' with d1 _
  have : its = its' := by simpa using congrArg Array.toList d1
  subst this
  exact r.inj r'
end
abbrev Cx.wish (X : Cx) (E : Value → Shared → Prop) : Cx := { X with xe := E }
/-- no exception leaves -/
abbrev Cx.nox (X : Cx) : Cx := X.wish fun _ _ => False
theorem Cx.Ok.wish {X : Cx} (ok : X.Ok) (E : Value → Shared → Prop) : (X.wish E).Ok :=
  ⟨ok.mod, ok.kind, ok.glob, ok.blt, ok.above, ok.inj, ok.has, ok.cab, ok.hd, ok.frames, ok.stk, ok.exf, ok.bs, ok.bsz, ok.noex, ok.exfs, ok.funs, ok.frf⟩
theorem Cx.Ok.unwish {X : Cx} {E : Value → Shared → Prop} (ok : (X.wish E).Ok) : X.Ok :=
  ⟨ok.mod, ok.kind, ok.glob, ok.blt, ok.above, ok.inj, ok.has, ok.cab, ok.hd, ok.frames, ok.stk, ok.exf, ok.bs, ok.bsz, ok.noex, ok.exfs, ok.funs, ok.frf⟩
section
variable {X : Cx} {pins : List (Addr × Obj)} {σ : St} {H : Hp} {s : Shared} {E : Value → Shared → Prop}
theorem Inv.wish (I : Inv X pins σ H s) (E : Value → Shared → Prop) : Inv (X.wish E) pins σ H s := ⟨I.ok.wish E, I.os, I.bare, I.base, I.loc, I.cell, I.free, I.freeC, I.pin, I.hok, I.len⟩
theorem Inv.unwish (I : Inv (X.wish E) pins σ H s) : Inv X pins σ H s := ⟨I.ok.unwish, I.os, I.bare, I.base, I.loc, I.cell, I.free, I.freeC, I.pin, I.hok, I.len⟩
theorem SP.unwish {D : Ends} {f : Flow} {s' : Shared} (h : SP (X.wish E) pins D f s') : SP X pins D f s' := by
  cases f with
  | next => obtain ⟨σ', H', I, q⟩ := h; exact ⟨σ', H', I.unwish, q⟩
  | brk => obtain ⟨σ', H', I, q⟩ := h; exact ⟨σ', H', I.unwish, q⟩
  | cont => obtain ⟨σ', H', I, q⟩ := h; exact ⟨σ', H', I.unwish, q⟩
  | ret u => obtain ⟨v, σ', H', I, r, q⟩ := h; exact ⟨v, σ', H', I.unwish, r, q⟩
theorem PSs.nox {st : List Stmt} {t : TS} (h : PSs X.nox st t) : PSs X st t := fun pins s σ H D I hw =>
  wpAny_mono (h pins s σ H D (I.wish _) hw) (fun _ _ q => q.unwish) fun _ _ z => False.elim z
end
section
variable {X : Cx} {st : Stmt} {rest : List Stmt} {t u : TS} {e : Expr} {te : TE} {pos : Pos}
def tNext : TS := fun D σ H => D.nx σ H
def tSeq (t u : TS) : TS := fun D σ H => t { D with nx := u D } σ H
theorem pss_nil : PSs X [] tNext := fun _ _ σ H _ I h => wpAny_execs_nil ⟨σ, H, I, h⟩
theorem pss_cons (h1 : PS X st t) (h2 : PSs X rest u) : PSs X (st :: rest) (tSeq t u) := by
  intro pins s σ H D I h
  refine wpAny_execs_cons (thn (h1 pins s σ H { D with nx := u D } I h) fun f s1 q => ?_)
  cases f with
  | next =>
    obtain ⟨σ', H', I', q⟩ := q
    exact h2 pins s1 σ' H' D I' q
  | ret v => exact q
  | brk => exact q
  | cont => exact q
theorem pss_one (h1 : PS X st t) : PSs X [st] t := by
  intro pins s σ H D I h
  refine wpAny_execs_cons (thn (h1 pins s σ H D I h) fun f s1 q => ?_)
  cases f with
  | next => exact wpAny_execs_nil q
  | ret v => exact q
  | brk => exact q
  | cont => exact q
/-- in a def's body nothing is shown -/
theorem Inv.quiet {pins : List (Addr × Obj)} {σ : St} {H : Hp} {s : Shared} (I : Inv X pins σ H s) : interactive X.env = false := by simp [interactive, I.ok.kind]
/-- an expression whose value is dropped -/
def tDrop (te : TE) : TS := fun D σ H => te σ H fun _ H1 => D.nx σ H1
theorem ps_expr (he : PE X e te) (hs : swapsWith e none pos.line X.env = pure false := by rfl) : PS X (.Expr e pos) (tDrop te) := by
  intro pins s σ H D I h
  exact wpAny_Expr_any (thn (he pins s σ H _ I h) fun v s1 ⟨x, H1, I1, r1, q1⟩ => ⟨σ, H1, I1, q1⟩) I.quiet hs
def tRet (te : TE) : TS := fun D σ H => te σ H D.rt
theorem ps_ret (he : PE X e te) : PS X (.Return (some e) pos) (tRet te) := by
  intro pins s σ H D I h
  exact wpAny_Return_some (thn (he pins s σ H _ I h) fun v s1 ⟨x, H1, I1, r1, q1⟩ => ⟨x, σ, H1, I1, r1, q1⟩)
def tIfS (c : TT) (t u : TS) : TS := fun D σ H => c σ H fun b H1 => if b = true then t D σ H1 else u D σ H1
theorem ps_if {c : Expr} {a b : List Stmt} {tc : TT} (hc : PT X c tc) (ha : PSs X a t) (hb : PSs X b u) : PS X (.If c a b pos) (tIfS tc t u) := by
  intro pins s σ H D I h
  refine wpAny_If (thn (hc pins s σ H _ I h) fun d s1 ⟨H1, I1, q1⟩ => ?_)
  cases d with
  | true => exact ha pins s1 σ H1 D I1 q1
  | false => exact hb pins s1 σ H1 D I1 q1
end
abbrev TG := V → St → Hp → (St → Hp → Prop) → Prop
abbrev TGs := List V → St → Hp → (St → Hp → Prop) → Prop
def PG (X : Cx) (target : Expr) (t : TG) : Prop :=
  ∀ (pins : List (Addr × Obj)) (s : Shared) (σ : St) (H : Hp) (v : V) (u : Value) (Q : St → Hp → Prop), Inv X pins σ H s → RelV v u → t v σ H Q →
    wpAny (model X.prog X.w) X.A (assign target X.env u) (fun _ s' => ∃ σ' H', Inv X pins σ' H' s' ∧ Q σ' H') X.xe s
/-- several targets, one after another -/
def PGs (X : Cx) (ts : List Expr) (t : TGs) : Prop :=
  ∀ (pins : List (Addr × Obj)) (s : Shared) (σ : St) (H : Hp) (vs : List V) (us : List Value) (Q : St → Hp → Prop), Inv X pins σ H s → Vals vs us → t vs σ H Q →
    wpAny (model X.prog X.w) X.A (assignInOrder ((assignEach ts X.env).map (·.2)) us) (fun _ s' => ∃ σ' H', Inv X pins σ' H' s' ∧ Q σ' H') X.xe s
/-- o[i] = v, by values -/
abbrev TSet := V → V → V → Hp → (Hp → Prop) → Prop
def PSet (X : Cx) (t : TSet) : Prop :=
  ∀ (pins : List (Addr × Obj)) (s : Shared) (σ : St) (H : Hp) (o i v : V) (ov iv u : Value) (Q : Hp → Prop), Inv X pins σ H s → RelV o ov → RelV i iv → RelV v u → t o i v H Q →
    wpAny (model X.prog X.w) X.A (setItem ov iv u) (fun _ s' => ∃ H', Inv X pins σ H' s' ∧ Q H') X.xe s
section
variable {X : Cx} {pos : Pos}
def gName (i : Nat) : TG := fun v σ H Q => Q (σ.set i (some v)) H
theorem pg_name {i : Nat} {x : Str} (hN : X.N.Nodup) (hi : X.N[i]? = some x) (hx : Loc X.env.scope x) (hf : X.fn x = true ∨ X.env.scope.names.lookup x = some .local := by first | exact .inl rfl | exact .inr rfl | assumption) : PG X (.Name x pos) (gName i) := by
  intro pins s σ H v u Q I r h
  exact wpAny_assign_Name (store_ok I hN hi hx r (fun s' I' => ⟨_, H, I', h⟩) hf)
def gNil : TGs := fun vs σ H Q => vs = [] ∧ Q σ H
def gCons (t : TG) (u : TGs) : TGs := fun vs σ H Q => ∃ v r, vs = v :: r ∧ t v σ H fun σ' H' => u r σ' H' Q
theorem pgs_nil : PGs X [] gNil := by
  intro pins s σ H vs us Q I r h
  obtain ⟨e, h⟩ := h
  subst e
  cases r
  exact assignInOrder_nil ⟨σ, H, I, h⟩
theorem pgs_cons {e : Expr} {es : List Expr} {t : TG} {u : TGs} (h1 : PG X e t) (h2 : PGs X es u)
    (hs : (assignEach (e :: es) X.env).map (·.2) = assign e X.env :: (assignEach es X.env).map (·.2) := by rfl) : PGs X (e :: es) (gCons t u) := by
  intro pins s σ H vs us Q I r h
  obtain ⟨v, vr, e1, h⟩ := h
  subst e1
  cases r with
  | cons r rr =>
    rw [hs]
    refine assignInOrder_cons (thn (h1 pins s σ H _ _ _ I r h) fun _ s1 ⟨σ1, H1, I1, q1⟩ => ?_)
    exact h2 pins s1 σ1 H1 _ _ Q I1 rr q1
/-- (a, b, ..) = a tuple of that length -/
def gTup (K : PySem.W.Frag) (n : Nat) (t : TGs) : TG := fun v σ H Q => ∃ a xs, v = .ref a ∧ SqT K H a xs ∧ xs.length = n ∧ t xs σ H Q
theorem pg_tup {es : List Expr} {k : Nat} {t : TGs} {n : Nat} (hc : X.calm = true) (h : PGs X es t)
    (hn : (assignEach es X.env).length = n := by rfl) (hst : (assignEach es X.env).findIdx? (·.1) = none := by rfl) : PG X (.Tuple es k pos) (gTup X.K n t) := by
  intro pins s σ H v u Q I r hw
  obtain ⟨a, xs, e1, hq, hl, hw⟩ := hw
  subst e1
  cases r
  obtain ⟨its, rv, ht, hz⟩ := I.tuple hq
  refine assign_Tuple_tuple (I.ok.hd hc) ht (by simp [hn, ← hl, rv.length]) hst fun h' hx => ?_
  have I1 : Inv X pins σ H { s with heap := h' } := I.kept (t' := s.toks) fun b o e => hx b o (Nat.ne_of_lt (Heap.lt_size e)) e
  exact h pins _ σ H xs _ Q I1 (by simpa using rv) hw
/-- o[i] = .. -/
def gSub (to ti : TE) (t : TSet) : TG := fun v σ H Q => to σ H fun o H1 => ti σ H1 fun i H2 => t o i v H2 fun H3 => Q σ H3
theorem pg_sub {o i : Expr} {to ti : TE} {t : TSet} (ho : PE X o to) (hi : PE X i ti) (hs : PSet X t)
    (ha : ∀ v, assign (.Subscript o i pos) X.env v = (do
      let ov ← holding [v] (eval o X.env)
      let iv ← holding [v, ov] (eval i X.env)
      standAt pos
      holding [v, ov, iv] (setItem ov iv v)
      release [v, ov, iv] []) := by intro _; rfl) : PG X (.Subscript o i pos) (gSub to ti t) := by
  intro pins s σ H v u Q I r h
  rw [ha]
  refine wpAny_bind (wpAny_holding (thn (ho pins s σ H _ I h) fun ov s1 ⟨x, H1, I1, r1, q1⟩ => ?_))
  refine wpAny_bind (wpAny_holding (thn (hi pins s1 σ H1 _ I1 q1) fun iv s2 ⟨y, H2, I2, r2, q2⟩ => ?_))
  refine wpAny_bind (wpAny_standAt (wpAny_bind (wpAny_holding (thn (hs pins s2 σ H2 x y v ov iv u _ I2 r1 r2 r q2) fun _ s3 ⟨H3, I3, q3⟩ => ?_))))
  exact wpAny_release ⟨σ, H3, I3, q3⟩
/-- target = value -/
def tAsg (te : TE) (g : TG) : TS := fun D σ H => te σ H fun x H1 => g x σ H1 D.nx
theorem ps_asg {tg e : Expr} {te : TE} {g : TG} (he : PE X e te) (hg : PG X tg g) (hs : swapsWithSole [tg] e pos.line X.env = pure false := by rfl) (hw : swappedStores [tg] e X.env = pure none := by rfl)
    (h1 : (assignEach [tg] X.env).map (·.2) = [assign tg X.env] := by rfl) : PS X (.Assign [tg] e pos) (tAsg te g) := by
  intro pins s σ H D I h
  refine wpAny_Assign_stores (thn (he pins s σ H _ I h) fun v s1 ⟨x, H1, I1, r1, q1⟩ => ?_) hs hw
  rw [h1]
  exact thn (hg pins s1 σ H1 x v _ I1 r1 q1) fun _ s2 q => q
/-- name = value -/
theorem ps_set {i : Nat} {x : Str} {e : Expr} {te : TE} {pos' : Pos} (hN : X.N.Nodup) (hi : X.N[i]? = some x) (hx : Loc X.env.scope x) (he : PE X e te) (hs : swapsWith e (some (.Name x pos')) pos.line X.env = pure false := by rfl) (hf : X.fn x = true ∨ X.env.scope.names.lookup x = some .local := by first | exact .inl rfl | exact .inr rfl | assumption) :
    PS X (.Assign [.Name x pos'] e pos) (tAsg te (gName i)) := by
  intro pins s σ H D I h
  refine wpAny_Assign_Name (thn (he pins s σ H _ I h) fun v s1 ⟨y, H1, I1, r1, q1⟩ => ?_) hs
  exact store_ok I1 hN hi hx r1 (fun s2 I2 => ⟨_, H1, I2, q1⟩) hf
/-- a, b = x, y with plain local names: stored from the right; the pair itself is not tracked (the opening rows as in PyProof/Rows/TupAssign.lean:23) -/
def tPar (i j : Nat) (ta : TA) : TS := fun D σ H => ta σ H fun vs H1 => ∃ v w, vs = [v, w] ∧ D.nx ((σ.set i (some v)).set j (some w)) H1
theorem ps_par {i j : Nat} {x y : Str} {a b : Expr} {ta : TA} {px py pt : Pos} {kt k2 pt2} (hc : X.calm = true) (hN : X.N.Nodup) (hi : X.N[i]? = some x) (hj : X.N[j]? = some y) (hij : i ≠ j)
    (hx : X.env.scope.names.lookup x = some .local) (hy : X.env.scope.names.lookup y = some .local) (ha : PA X [a, b] ta)
    (hw : swappedStores [.Tuple [.Name x px, .Name y py] kt pt] (.Tuple [a, b] k2 pt2) X.env = pure (some [x, y]))
    (hs : swapsWithSole [.Tuple [.Name x px, .Name y py] kt pt] (.Tuple [a, b] k2 pt2) pos.line X.env = pure false := by rfl) :
    PS X (.Assign [.Tuple [.Name x px, .Name y py] kt pt] (.Tuple [a, b] k2 pt2) pos) (tPar i j ta) := by
  intro pins s σ H D I h
  rw [exec_Assign_arm]
  refine wpAny_bind (wpAny_standAt ?_)
  rw [hs]
  refine wpAny_bind (wpAny_pure ?_)
  rw [if_neg (by decide)]
  refine wpAny_bind (Tuple_ (thn (ha _ pins s σ H _ I h) fun us s1 ⟨vs, H1, I1, r1, q1⟩ => ?_))
  obtain ⟨v, w, e1, q1⟩ := q1
  subst e1
  obtain ⟨u1, u2, rfl, rv, rw'⟩ : ∃ u1 u2, us = [u1, u2] ∧ RelV v u1 ∧ RelV w u2 := by
    cases r1 with
    | cons p q =>
      cases q with
      | cons p' q' =>
        cases q'
        exact ⟨_, _, rfl, p, p'⟩
  refine wpAny_newObj_type ?_ (by show 2 ≤ sizeLine; decide)
  have I2 : Inv X pins σ H1 { s1 with heap := s1.heap.push { cls := .type "tuple", data := .seq [u1, u2].toArray } } := I1.kept (t' := s1.toks) fun b o e => Heap.get?_push_of_some _ e
  rw [hw]
  refine wpAny_bind (wpAny_pure ?_)
  show wpAny (model X.prog X.w) X.A (do rule "assign.swapped-stores"; let items ← unpackItems (.ref s1.heap.objs.size) 2 none; assignInOrder [fun v => bindName X.env y v, fun v => bindName X.env x v] items.reverse; pure Flow.next) _ _ _
  refine wpAny_bind (wpAny_rule (wpAny_bind (unpackItems_tuple (items := #[u1, u2]) (I.ok.hd hc) (IsTup.new s1.heap _) fun h' hx' => ?_)))
  have I3 := I2.kept (h' := h') (t' := s1.toks) fun b o e => hx' b o (Nat.ne_of_lt (Heap.lt_size e)) e
  show wpAny _ _ (assignInOrder [fun v => bindName X.env y v, fun v => bindName X.env x v] [u2, u1] >>= fun _ => pure Flow.next) _ _ _
  refine wpAny_bind (assignInOrder_cons (wpAny_bindName (store_ok I3 hN hj (.inl hy) rw' (fun s2 I4 => ?_) (.inr hy))))
  refine assignInOrder_cons (wpAny_bindName (store_ok I4 hN hi (.inl hx) rv (fun s3 I5 => assignInOrder_nil (wpAny_pure ?_)) (.inr hx)))
  rw [List.set_comm _ _ (Ne.symm hij)] at I5
  exact ⟨_, H1, I5, q1⟩
end
section
variable {X : Cx} {pos : Pos}
/-- the invariant W with its measure -/
def tWhile (c : TT) (tb : TS) : TS := fun D σ H => ∃ W : Nat → St → Hp → Prop, (∃ m, W m σ H) ∧ ∀ m σ H, W m σ H →
  c σ H fun b H1 => if b = true then ∃ N : St → Hp → Prop, (∀ σ' H', N σ' H' → ∃ m', m' < m ∧ W m' σ' H') ∧ tb { D with nx := N, ct := N, bk := D.nx } σ H1 else D.nx σ H1
theorem ps_while {c : Expr} {body : List Stmt} {tc : TT} {tb : TS} (hp : PassesOwn (model X.prog X.w) X.A X.env X.xe) (hc : PT X c tc) (hb : PSs X body tb) : PS X (.While c body [] pos) (tWhile tc tb) := by
  intro pins s σ H D I h
  obtain ⟨W, ⟨m0, w0⟩, turn⟩ := h
  refine wpAny_While (codeAny_whileLoop (fun n s' => ∃ σ' H', Inv X pins σ' H' s' ∧ W n σ' H') ?_ m0 ⟨σ, H, I, w0⟩)
  rintro n s1 ⟨σ1, H1, I1, w1⟩
  refine wpAny_passesOwn hp (thn (hc pins s1 σ1 H1 _ I1 (turn n σ1 H1 w1)) fun b s2 ⟨H2, I2, q2⟩ => ?_)
  cases b with
  | true =>
    obtain ⟨N, hN, q2⟩ := q2
    rw [if_pos rfl]
    refine wpAny_passesOwn hp (thn (hb pins s2 σ1 H2 _ I2 q2) fun f s3 q3 => ?_)
    cases f with
    | next =>
      obtain ⟨σ3, H3, I3, n3⟩ := q3
      obtain ⟨m', hm, w3⟩ := hN σ3 H3 n3
      exact ⟨m', hm, σ3, H3, I3, w3⟩
    | cont =>
      obtain ⟨σ3, H3, I3, n3⟩ := q3
      obtain ⟨m', hm, w3⟩ := hN σ3 H3 n3
      exact ⟨m', hm, σ3, H3, I3, w3⟩
    | brk => exact q3
    | ret v => exact q3
  | false =>
    rw [if_neg Bool.false_ne_true]
    exact wpAny_execs_nil ⟨σ1, H2, I2, q2⟩
end
/-- at turn i: it yields x (the heap may grow), or it stops -/
structure It where
  go : Nat → Hp → Prop
  yld : Nat → Hp → V → Hp → Prop
  stop : Nat → Hp → Prop
/-- the iterator's own objects may turn: they are not the frame's, not pinned, younger than the entry (or a comprehension's own) -/
def FpOk (X : Cx) (pins : List (Addr × Obj)) (H : Hp) (b : Addr) : Prop :=
  H b = none ∧ b ≠ X.env.locals ∧ b ∉ X.fs ∧ (b ∈ X.ex ∨ X.s₀.heap.objs.size ≤ b) ∧ (∀ x c, X.env.cells.lookup x = some c → c ≠ b) ∧ ∀ p ∈ X.pn ++ pins, p.1 ≠ b
theorem Inv.fpOk {X : Cx} {pins : List (Addr × Obj)} {σ : St} {H H' : Hp} {s : Shared} {b : Addr} (I : Inv X pins σ H s) (hb : s.heap.objs.size ≤ b) (hn : H' b = none) : FpOk X pins H' b := by
  refine ⟨hn, Nat.ne_of_gt (Nat.lt_of_lt_of_le I.lt hb), I.nofs hb, .inr (Nat.le_trans I.sz hb), fun x c e z => ?_, fun p hp z => ?_⟩
  · obtain ⟨v, q⟩ := I.cell x c e
    exact absurd (Nat.lt_of_lt_of_le q.lt (by rw [z]; exact hb)) (Nat.lt_irrefl _)
  · exact absurd (Nat.lt_of_lt_of_le (Heap.lt_size (I.pin p hp).1) (by rw [z]; exact hb)) (Nat.lt_irrefl _)
structure Turn (P : Program) (w : World) (K : PySem.W.Frag) (tg : Expr) (J : It) (fp : List Addr) (it : Addr) (tn : Nat → Heap → Prop) : Prop where
  mem : it ∈ fp
  obj : ∀ i h, tn i h → ∀ b ∈ fp, ∃ o, h.get? b = some o ∧ ∀ v, o.data ≠ .cell v
  keep : ∀ i h h', tn i h → (∀ b ∈ fp, ∀ o, h.get? b = some o → h'.get? b = some o) → tn i h'
  item : ∀ (X : Cx), X.prog = P → X.w = w → X.K = K → X.calm = true → ∀ (i : Nat) (pins : List (Addr × Obj)) (s : Shared) (σ : St) (H : Hp) (E : Value → Shared → Prop), Inv X pins σ H s → (∀ b ∈ fp, FpOk X pins H b) → tn i s.heap → J.go i H →
    wpAny (model P w) X.A (pyNext (.ref it)) (fun r s1 => ∃ u, r = some u ∧
      wpAny (model P w) X.A (letOwnedTupleGo tg (.ref it) u) (fun _ s2 => ∃ x H', Inv X pins σ H' s2 ∧ RelV x u ∧ J.yld i H x H' ∧ tn (i + 1) s2.heap ∧ ∀ b ∈ fp, H' b = none) E s1) E s
  done : ∀ (X : Cx), X.prog = P → X.w = w → X.K = K → X.calm = true → ∀ (i : Nat) (pins : List (Addr × Obj)) (s : Shared) (σ : St) (H : Hp) (E : Value → Shared → Prop), Inv X pins σ H s → (∀ b ∈ fp, FpOk X pins H b) → tn i s.heap → J.stop i H →
    wpAny (model P w) X.A (pyNext (.ref it)) (fun r s1 => r = none ∧ Inv X pins σ H s1) E s
  self : ∀ (A : Around) (i : Nat) (s : Shared) (Q : Value → Shared → Prop) (E : Value → Shared → Prop), tn i s.heap → Q (.ref it) s → wpAny (model P w) A (pyIter (.ref it)) Q E s
abbrev TI := St → Hp → (It → Hp → Prop) → Prop
/-- an iterator has come -/
def PIE (X : Cx) (pins : List (Addr × Obj)) (σ : St) (tg : Expr) (R : It → Hp → Prop) (itv : Value) (s2 : Shared) : Prop :=
  ∃ (it : Addr) (fp : List Addr) (tn : Nat → Heap → Prop) (J : It) (H' : Hp), itv = .ref it ∧ Inv X pins σ H' s2 ∧ Turn X.prog X.w X.K tg J fp it tn ∧ tn 0 s2.heap ∧ (∀ b ∈ fp, FpOk X pins H' b) ∧ R J H'
def PI (X : Cx) (tg iter : Expr) (wi : TI) : Prop :=
  ∀ (pins : List (Addr × Obj)) (s : Shared) (σ : St) (H : Hp) (R : It → Hp → Prop), Inv X pins σ H s → wi σ H R →
    wpAny (model X.prog X.w) X.A (eval iter X.env) (fun v s1 => wpAny (model X.prog X.w) X.A (pyIter v) (PIE X pins σ tg R) X.xe s1) X.xe s

/-- the step ahead of the store is nothing for an iterator that keeps no tuple -/
theorem go_of {M : Model} {A : Around} {E : Value → Shared → Prop} {s : Shared} {tg : Expr} {it : Addr} {u : Value} {o : Obj} {n : String} {vs : Array Value} {Q : Unit → Shared → Prop} (ho : s.heap.get? it = some o) (hc : o.cls = .type n) (hd : o.data = .fields vs)
    (hn : ["enumerate", "zip", "dict_itemiterator", "dict_reverseitemiterator", "odict_iterator", "itertools.zip_longest", "itertools.pairwise"].contains n = false) (hQ : Q () s) : wpAny M A (letOwnedTupleGo tg (.ref it) u) Q E s := by
  unfold letOwnedTupleGo
  cases tg <;> first
    | exact wpAny_pure hQ
    | (cases u <;> first
        | exact wpAny_pure hQ
        | (refine wpAny_bind (wpAny_load ho ?_)
           rw [hc, hd]
           show wpAny M A (if (["enumerate", "zip", "dict_itemiterator", "dict_reverseitemiterator", "odict_iterator", "itertools.zip_longest", "itertools.pairwise"].contains n && vs[0]? == some (rawInt _)) = true then _ else _) Q E s
           rw [if_neg (by intro h; rw [hn, Bool.false_and] at h; cases h)]
           exact wpAny_pure hQ))

/-- the list at a, as it stands at each turn (a loop may append to it) -/
def Itl (K : PySem.W.Frag) (a : Addr) : It :=
  ⟨fun i H => ∃ xs x, SqL K H a xs ∧ xs[i]? = some x, fun i H x H' => H' = H ∧ ∀ xs, SqL K H a xs → xs[i]? = some x, fun i H => ∃ xs, SqL K H a xs ∧ xs.length ≤ i⟩
def Itt (K : PySem.W.Frag) (a : Addr) : It :=
  ⟨fun i H => ∃ xs x, SqT K H a xs ∧ xs[i]? = some x, fun i H x H' => H' = H ∧ ∀ xs, SqT K H a xs → xs[i]? = some x, fun i H => ∃ xs, SqT K H a xs ∧ xs.length ≤ i⟩
/-- lo, lo + 1, .. (n of them) -/
def Itr (lo : Int) (n : Nat) : It := ⟨fun i _ => i < n, fun i H x H' => H' = H ∧ x = .int (lo + i), fun i _ => n ≤ i⟩
theorem turn_list {P : Program} {w : World} {K : PySem.W.Frag} {tg : Expr} (a it : Addr) : Turn P w K tg (Itl K a) [it] it (fun i h => h.IsListIter it a i) where
  mem := by simp
  obj := fun i h st b hb => by
    have e : b = it := by simpa using hb
    subst e
    obtain ⟨o, e, c, d⟩ := st
    exact ⟨o, e, fun v z => by rw [d] at z; cases z⟩
  keep := fun i h h' st k => st.at fun o e => k it (by simp) o e
  item := by
    intro X hP hw hK hc i pins s σ H E I hf st hg
    subst hP hw hK
    obtain ⟨xs, x, hq, hx⟩ := hg
    obtain ⟨its, rv, p, hz⟩ := I.list hq
    obtain ⟨u, hu, ru⟩ := rv.get hx
    obtain ⟨f0, f1, f2, f3, f4, f5⟩ := hf it (by simp)
    refine wpAny_pyNext_list_item st p.isList (x := u) (by simpa using hu) fun h' st' sb => ?_
    have I1 : Inv X pins σ H { s with heap := h' } := I.turned (t' := s.toks) (fun b o hb e => (sb.2 b hb).trans e) f0 f1 f3 f4 f5
    obtain ⟨o, e, c, d⟩ := id st'
    exact ⟨u, rfl, go_of (s := { s with heap := h' }) e c d (by decide) ⟨x, H, I1, ru, ⟨rfl, fun ys hy => by rw [I.list_inj hy hq]; exact hx⟩, st', fun b hb => (hf b hb).1⟩⟩
  done := by
    intro X hP hw hK hc i pins s σ H E I hf st hg
    subst hP hw hK
    obtain ⟨xs, hq, hx⟩ := hg
    obtain ⟨its, rv, p, hz⟩ := I.list hq
    obtain ⟨f0, f1, f2, f3, f4, f5⟩ := hf it (by simp)
    have hl := rv.length
    exact wpAny_pyNext_list_end (I.ok.hd hc) st p.isList (by simp; omega) fun h' eb => ⟨rfl, I.turned (t' := s.toks) (fun b o hb e => eb b o hb e) f0 f1 f3 f4 f5⟩
  self := fun _ _ _ _ _ st h => wpAny_pyIter_listiter st h
theorem turn_tuple {P : Program} {w : World} {K : PySem.W.Frag} {tg : Expr} (a it : Addr) : Turn P w K tg (Itt K a) [it] it (fun i h => h.IsTupleIter it a i) where
  mem := by simp
  obj := fun i h st b hb => by
    have e : b = it := by simpa using hb
    subst e
    obtain ⟨o, e, c, d⟩ := st
    exact ⟨o, e, fun v z => by rw [d] at z; cases z⟩
  keep := fun i h h' st k => st.at fun o e => k it (by simp) o e
  item := by
    intro X hP hw hK hc i pins s σ H E I hf st hg
    subst hP hw hK
    obtain ⟨xs, x, hq, hx⟩ := hg
    obtain ⟨its, rv, p, hz⟩ := I.tuple hq
    obtain ⟨u, hu, ru⟩ := rv.get hx
    obtain ⟨f0, f1, f2, f3, f4, f5⟩ := hf it (by simp)
    refine wpAny_pyNext_tuple_item st (show s.heap.IsTuple a its.toArray from p) (x := u) (by simpa using hu) fun h' st' sb => ?_
    have I1 : Inv X pins σ H { s with heap := h' } := I.turned (t' := s.toks) (fun b o hb e => (sb.2 b hb).trans e) f0 f1 f3 f4 f5
    obtain ⟨o, e, c, d⟩ := id st'
    exact ⟨u, rfl, go_of (s := { s with heap := h' }) e c d (by decide) ⟨x, H, I1, ru, ⟨rfl, fun ys hy => by rw [I.tuple_inj hy hq]; exact hx⟩, st', fun b hb => (hf b hb).1⟩⟩
  done := by
    intro X hP hw hK hc i pins s σ H E I hf st hg
    subst hP hw hK
    obtain ⟨xs, hq, hx⟩ := hg
    obtain ⟨its, rv, p, hz⟩ := I.tuple hq
    obtain ⟨f0, f1, f2, f3, f4, f5⟩ := hf it (by simp)
    have hl := rv.length
    exact wpAny_pyNext_tuple_end (I.ok.hd hc) st (show s.heap.IsTuple a its.toArray from p) (by simp; omega) fun h' eb => ⟨rfl, I.turned (t' := s.toks) (fun b o hb e => eb b o hb e) f0 f1 f3 f4 f5⟩
  self := fun _ _ _ _ _ st h => wpAny_pyIter_tupleiter st h
theorem turn_range {P : Program} {w : World} {K : PySem.W.Frag} {tg : Expr} (it : Addr) (lo : Int) (n : Nat) : Turn P w K tg (Itr lo n) [it] it (fun i h => IsRangeIter h it (lo + (i : Nat) * 1) ((n : Int) - (i : Nat)) 1) where
  mem := by simp
  obj := fun i h st b hb => by
    have e : b = it := by simpa using hb
    subst e
    exact ⟨_, st, fun v z => by
      have z' : Data.fields _ = Data.cell v := z
      cases z'⟩
  keep := fun i h h' st k => k it (by simp) _ st
  item := by
    intro X hP hw hK hc i pins s σ H E I hf st hg
    subst hP hw hK
    obtain ⟨f0, f1, f2, f3, f4, f5⟩ := hf it (by simp)
    have W := Walks.range (prog := X.prog) (w := X.w) (I.ok.hd hc) it lo 1 n
    refine W.item i s _ _ hg st fun v h' tk hv st' kk => ?_
    obtain ⟨t, rfl⟩ := hv
    have I1 : Inv X pins σ H { s with heap := h', toks := tk } := I.turned (fun b o hb e => kk b o (by simpa using hb) e) f0 f1 f3 f4 f5
    refine ⟨_, rfl, go_of (s := { s with heap := h', toks := tk }) (n := "range_iterator") st' rfl rfl (by decide) ⟨.int (lo + i), H, I1, ⟨t, ?_⟩, ⟨rfl, rfl⟩, st', fun b hb => (hf b hb).1⟩⟩
    rw [Int.mul_one]
  done := by
    intro X hP hw hK hc i pins s σ H E I hf st hg
    subst hP hw hK
    obtain ⟨f0, f1, f2, f3, f4, f5⟩ := hf it (by simp)
    exact wpAny_pyNext_range_end (I.ok.hd hc) st (by have : n ≤ i := hg; omega) fun h' eb => ⟨rfl, I.turned (t' := s.toks) (fun b o hb e => eb b o hb e) f0 f1 f3 f4 f5⟩
  self := fun _ _ _ _ _ st h => wpAny_pyIter_rangeiter st h
end L2
namespace L2
open PySem PySem.Spec PyProof.Rows
section
variable {X : Cx} {tg : Expr}
def iList (K : PySem.W.Frag) (tl : TE) : TI := fun σ H R => tl σ H fun x H1 => ∃ a, x = .ref a ∧ (∃ xs, SqL K H1 a xs) ∧ R (Itl K a) H1
def iTup (K : PySem.W.Frag) (tl : TE) : TI := fun σ H R => tl σ H fun x H1 => ∃ a, x = .ref a ∧ (∃ xs, SqT K H1 a xs) ∧ R (Itt K a) H1
theorem pi_list {l : Expr} {tl : TE} (hl : PE X l tl) : PI X tg l (iList X.K tl) := by
  intro pins s σ H R I h
  refine thn (hl pins s σ H _ I h) fun v s1 ⟨x, H1, I1, r1, q1⟩ => ?_
  obtain ⟨a, e, ⟨xs, hq⟩, q⟩ := q1
  subst e
  cases r1
  obtain ⟨its, rv, p, hz⟩ := I1.list hq
  refine wpAny_pyIter_list p.isList ?_
  refine ⟨s1.heap.objs.size, [s1.heap.objs.size], _, _, H1, rfl, I1.kept (t' := s1.toks) fun b o e => Heap.get?_push_of_some _ e, turn_list a _, ⟨_, Heap.get?_push_size _ rfl, rfl, rfl⟩, fun b hb => ?_, q⟩
  have e : b = s1.heap.objs.size := by simpa using hb
  subst e
  exact I1.fpOk (Nat.le_refl _) (I1.hok.fresh (Nat.le_refl _))
theorem pi_tup {l : Expr} {tl : TE} (hl : PE X l tl) : PI X tg l (iTup X.K tl) := by
  intro pins s σ H R I h
  refine thn (hl pins s σ H _ I h) fun v s1 ⟨x, H1, I1, r1, q1⟩ => ?_
  obtain ⟨a, e, ⟨xs, hq⟩, q⟩ := q1
  subst e
  cases r1
  obtain ⟨its, rv, p, hz⟩ := I1.tuple hq
  refine wpAny_pyIter_tuple (show s1.heap.IsTuple a its.toArray from p) ?_
  refine ⟨s1.heap.objs.size, [s1.heap.objs.size], _, _, H1, rfl, I1.kept (t' := s1.toks) fun b o e => Heap.get?_push_of_some _ e, turn_tuple a _, ⟨_, Heap.get?_push_size _ rfl, rfl, rfl⟩, fun b hb => ?_, q⟩
  have e : b = s1.heap.objs.size := by simpa using hb
  subst e
  exact I1.fpOk (Nat.le_refl _) (I1.hok.fresh (Nat.le_refl _))
/-- a range object just made, walked -/
theorem range_it {pins : List (Addr × Obj)} {σ : St} {H : Hp} {s : Shared} {R : It → Hp → Prop} {E : Value → Shared → Prop} {lo hi : Int} {t u v : Tok} {tk : Nat} (I : Inv X pins σ H s) (h1 : -(2 ^ 62) ≤ lo) (h2 : lo < 2 ^ 62) (h3 : -(2 ^ 62) ≤ hi) (h4 : hi < 2 ^ 62)
    (q : R (Itr lo (hi - lo).toNat) H) : wpAny (model X.prog X.w) X.A (pyIter (.ref s.heap.objs.size)) (PIE X pins σ tg R) E { s with heap := s.heap.push { cls := .type "range", data := .fields #[.int lo t, .int hi u, .int 1 v] }, toks := tk } := by
  refine wpAny_pyIter_range (IsRange.new ..) (small_one h1 h2 h3 h4) ?_
  have I1 : Inv X pins σ H { s with heap := s.heap.push { cls := .type "range", data := .fields #[.int lo t, .int hi u, .int 1 v] }, toks := tk } := I.kept fun b o e => Heap.get?_push_of_some _ e
  refine ⟨(s.heap.push { cls := .type "range", data := .fields #[.int lo t, .int hi u, .int 1 v] }).objs.size, [(s.heap.push { cls := .type "range", data := .fields #[.int lo t, .int hi u, .int 1 v] }).objs.size], _, _, H, rfl,
    I1.kept (t' := tk) fun b o e => Heap.get?_push_of_some _ e, turn_range _ lo (hi - lo).toNat, ?_, fun b hb => ?_, q⟩
  · have e1 : lo + ((0 : Nat) : Int) * 1 = lo := by simp
    have e2 : (((hi - lo).toNat : Nat) : Int) - ((0 : Nat) : Int) = Builtin.Range.rangeSize lo hi 1 := by rw [rangeSize_one]; split <;> omega
    show IsRangeIter _ _ (lo + ((0 : Nat) : Int) * 1) ((((hi - lo).toNat : Nat) : Int) - ((0 : Nat) : Int)) 1
    rw [e1, e2]
    exact Heap.get?_push_size _ rfl
  · have e : b = (s.heap.push { cls := .type "range", data := .fields #[.int lo t, .int hi u, .int 1 v] }).objs.size := by simpa using hb
    subst e
    exact I1.fpOk (Nat.le_refl _) (I1.hok.fresh (Nat.le_refl _))
def iRng1 (ta : TA) : TI := fun σ H R => ta σ H fun vs H1 => ∃ j : Int, vs = [.int j] ∧ -(2 ^ 62) ≤ j ∧ j < 2 ^ 62 ∧ R (Itr 0 j.toNat) H1
theorem pi_range1 {a : Expr} {ta : TA} {p pos : Pos} (hg : Gl X "range") (hm : X.mg "range" = none) (ha : PA X [a] ta) (hs : starEach [a] X.env = [(false, eval a X.env)] := by rfl) : PI X tg (.Call (.Name "range" p) [a] [] pos) (iRng1 ta) := by
  intro pins s σ H R I h
  refine Call_ (ld_blt I hg hm boot_range (PyProof.Rows.callWith_type1 (thn (ha pos pins s σ H _ I h) fun us s1 ⟨vs, H1, I1, r1, q1⟩ => ?_) hs rfl))
  obtain ⟨j, e, q1, q2, q⟩ := q1
  subst e
  cases r1 with
  | cons r rr =>
    cases rr
    obtain ⟨t, rfl⟩ := r
    exact call_range_1 (range_it I1 (by decide) (by decide) q1 q2 (by simpa using q))
/-- W: the invariant by the turn and a measure; N: what the body is to reach -/
def tFor (wi : TI) (g : TG) (tb : TS) : TS := fun D σ H => wi σ H fun J H1 => ∃ W : Nat → Nat → St → Hp → Prop, (∃ m, W 0 m σ H1) ∧ ∀ i m σ H, W i m σ H →
  (J.stop i H ∧ D.nx σ H) ∨ (J.go i H ∧ ∃ N : St → Hp → Prop, (∀ σ' H', N σ' H' → ∃ m', m' < m ∧ W (i + 1) m' σ' H') ∧ ∀ x H', J.yld i H x H' → g x σ H' fun σ2 H2 => tb { D with nx := N, ct := N, bk := D.nx } σ2 H2)
/-- the records at fp as they stand -/
def pinsAt (fp : List Addr) (h : Heap) : List (Addr × Obj) := fp.filterMap fun b => (h.get? b).map fun o => (b, o)
theorem mem_pinsAt {fp : List Addr} {h : Heap} {b : Addr} {o : Obj} (hb : b ∈ fp) (e : h.get? b = some o) : (b, o) ∈ pinsAt fp h := List.mem_filterMap.mpr ⟨b, hb, by rw [e]; rfl⟩
theorem of_pinsAt {fp : List Addr} {h : Heap} {p : Addr × Obj} (hp : p ∈ pinsAt fp h) : p.1 ∈ fp ∧ h.get? p.1 = some p.2 := by
  obtain ⟨b, hb, e⟩ := List.mem_filterMap.mp hp
  cases q : h.get? b with
  | none => rw [q] at e; cases e
  | some o =>
    rw [q] at e
    have e' : (b, o) = p := Option.some.inj e
    subst e'
    exact ⟨hb, q⟩
theorem Inv.pinned {pins : List (Addr × Obj)} {σ : St} {H : Hp} {s : Shared} {fp : List Addr} (I : Inv X pins σ H s) (hf : ∀ b ∈ fp, FpOk X pins H b) (ho : ∀ b ∈ fp, ∃ o, s.heap.get? b = some o ∧ ∀ v, o.data ≠ .cell v) : Inv X (pins ++ pinsAt fp s.heap) σ H s :=
  I.pins_of fun p hp => (List.mem_append.mp hp).elim (fun z => I.pin p (List.mem_append_right _ z)) fun z => by
    obtain ⟨hb, e⟩ := of_pinsAt z
    obtain ⟨f0, f1, f2, _⟩ := hf p.1 hb
    obtain ⟨o, e', d⟩ := ho p.1 hb
    rw [e] at e'; cases e'
    exact ⟨e, f0, f1, f2, d⟩
theorem Inv.unpinned {pins pl : List (Addr × Obj)} {σ : St} {H : Hp} {s : Shared} (I : Inv X (pins ++ pl) σ H s) : Inv X pins σ H s := I.pins_of fun p hp => I.pin p (List.mem_append_right _ (List.mem_append_left _ hp))
theorem ps_for {iter : Expr} {body : List Stmt} {wi : TI} {g : TG} {tb : TS} {pos : Pos} (hp : PassesOwn (model X.prog X.w) X.A X.env X.xe) (hc : X.calm = true) (hi : PI X tg iter wi) (hg : PG X tg g) (hb : PSs X body tb)
    (hs : ∀ x, foldedSetIterable iter X.env x = pure x := by intro _; rfl) : PS X (.For tg iter body [] pos) (tFor wi g tb) := by
  intro pins s σ H D I h
  refine wpAny_For (thn (hi pins s σ H _ I h) fun v s1 h1 => thn h1 fun itv s2 h2 => ?_) hs
  obtain ⟨it, fp, tn, J, H2, e, I2, T, st2, f2, W, ⟨m0, w0⟩, turn⟩ := h2
  subst e
  -- what stays true of the iterator's objects through the loop
  have stat : ∀ {H' : Hp}, (∀ b ∈ fp, H' b = none) → ∀ b ∈ fp, FpOk X pins H' b := fun hn b hb => ⟨hn b hb, (f2 b hb).2⟩
  refine codeAny_forLoop_any (fun n s' => ∃ i σ' H', Inv X pins σ' H' s' ∧ tn i s'.heap ∧ (∀ b ∈ fp, H' b = none) ∧ W i n σ' H') ?_ m0 ⟨0, σ, H2, I2, st2, fun b hb => (f2 b hb).1, w0⟩
  rintro n s3 ⟨i, σ3, H3, I3, st3, fr3, w3⟩
  rcases turn i n σ3 H3 w3 with ⟨stop, qn⟩ | ⟨go, N, hN, step⟩
  · refine wpAny_passesOwn hp (thn (T.done X rfl rfl rfl hc i pins s3 σ3 H3 X.xe I3 (stat fr3) st3 stop) fun r s4 ⟨hr, I4⟩ => ?_)
    subst hr
    exact wpAny_execs_nil ⟨σ3, H3, I4, qn⟩
  · refine wpAny_passesOwn hp (thn (T.item X rfl rfl rfl hc i pins s3 σ3 H3 X.xe I3 (stat fr3) st3 go) fun r s4 ⟨u, hr, h4⟩ => ?_)
    subst hr
    refine wpAny_passesOwn hp (thn h4 fun _ s5 ⟨x, H5, I5, r5, y5, st5, fr5⟩ => ?_)
    have I5' := I5.pinned (stat fr5) (T.obj _ _ st5)
    refine wpAny_passesOwn hp (thn (hg _ s5 σ3 H5 x u _ I5' r5 (step x H5 y5)) fun _ s6 ⟨σ6, H6, I6, q6⟩ => ?_)
    refine wpAny_passesOwn hp (thn (hb _ s6 σ6 H6 _ I6 q6) fun f s7 q7 => ?_)
    have again : ∀ {σ7 : St} {H7 : Hp}, Inv X (pins ++ pinsAt fp s5.heap) σ7 H7 s7 → N σ7 H7 → ∃ m, m < n ∧ ∃ i σ' H', Inv X pins σ' H' s7 ∧ tn i s7.heap ∧ (∀ b ∈ fp, H' b = none) ∧ W i m σ' H' := fun {σ7 H7} I7 n7 => by
      obtain ⟨m', hm, w7⟩ := hN σ7 H7 n7
      refine ⟨m', hm, i + 1, σ7, H7, I7.unpinned, T.keep _ _ _ st5 fun b hb o e => (I7.pin (b, o) (List.mem_append_right _ (List.mem_append_right _ (mem_pinsAt hb e)))).1, fun b hb => ?_, w7⟩
      obtain ⟨o, e, d⟩ := T.obj _ _ st5 b hb
      exact (I7.pin (b, o) (List.mem_append_right _ (List.mem_append_right _ (mem_pinsAt hb e)))).2.1
    cases f with
    | next => obtain ⟨σ7, H7, I7, n7⟩ := q7; exact again I7 n7
    | cont => obtain ⟨σ7, H7, I7, n7⟩ := q7; exact again I7 n7
    | brk => obtain ⟨σ7, H7, I7, q7⟩ := q7; exact ⟨σ7, H7, I7.unpinned, q7⟩
    | ret v => obtain ⟨x7, σ7, H7, I7, r7, q7⟩ := q7; exact ⟨x7, σ7, H7, I7.unpinned, r7, q7⟩
end
/-- over a list that the body leaves as it is -/
theorem for_list {K : PySem.W.Frag} {a : Addr} {xs : List V} {g : TG} {tb : TS} {D : Ends} {σ : St} {H : Hp} (Pv : Nat → St → Hp → Prop) (h0 : Pv 0 σ H) (hl : ∀ i σ H, i ≤ xs.length → Pv i σ H → SqL K H a xs)
    (hs : ∀ i x σ H, xs[i]? = some x → Pv i σ H → g x σ H fun σ2 H2 => tb { D with nx := Pv (i + 1), ct := Pv (i + 1), bk := D.nx } σ2 H2) (hd : ∀ σ H, Pv xs.length σ H → D.nx σ H) :
    ∃ W : Nat → Nat → St → Hp → Prop, (∃ m, W 0 m σ H) ∧ ∀ i m σ H, W i m σ H →
      ((Itl K a).stop i H ∧ D.nx σ H) ∨ ((Itl K a).go i H ∧ ∃ N : St → Hp → Prop, (∀ σ' H', N σ' H' → ∃ m', m' < m ∧ W (i + 1) m' σ' H') ∧ ∀ x H', (Itl K a).yld i H x H' → g x σ H' fun σ2 H2 => tb { D with nx := N, ct := N, bk := D.nx } σ2 H2) := by
  refine ⟨fun i m σ H => m = xs.length - i ∧ i ≤ xs.length ∧ Pv i σ H, ⟨xs.length, by simp, Nat.zero_le _, h0⟩, ?_⟩
  rintro i m σ H ⟨rfl, hi, p⟩
  have q := hl i σ H hi p
  by_cases hlt : i < xs.length
  · refine .inr ⟨⟨xs, xs[i], q, by simp [hlt]⟩, Pv (i + 1), fun σ' H' p' => ⟨xs.length - (i + 1), by omega, rfl, hlt, p'⟩, fun x H' y => ?_⟩
    obtain ⟨e, y⟩ := y
    subst e
    exact hs i x σ _ (y xs q) p
  · have e : i = xs.length := by omega
    subst e
    exact .inl ⟨⟨xs, q, Nat.le_refl _⟩, hd σ H p⟩
theorem for_tup {K : PySem.W.Frag} {a : Addr} {xs : List V} {g : TG} {tb : TS} {D : Ends} {σ : St} {H : Hp} (Pv : Nat → St → Hp → Prop) (h0 : Pv 0 σ H) (hl : ∀ i σ H, i ≤ xs.length → Pv i σ H → SqT K H a xs)
    (hs : ∀ i x σ H, xs[i]? = some x → Pv i σ H → g x σ H fun σ2 H2 => tb { D with nx := Pv (i + 1), ct := Pv (i + 1), bk := D.nx } σ2 H2) (hd : ∀ σ H, Pv xs.length σ H → D.nx σ H) :
    ∃ W : Nat → Nat → St → Hp → Prop, (∃ m, W 0 m σ H) ∧ ∀ i m σ H, W i m σ H →
      ((Itt K a).stop i H ∧ D.nx σ H) ∨ ((Itt K a).go i H ∧ ∃ N : St → Hp → Prop, (∀ σ' H', N σ' H' → ∃ m', m' < m ∧ W (i + 1) m' σ' H') ∧ ∀ x H', (Itt K a).yld i H x H' → g x σ H' fun σ2 H2 => tb { D with nx := N, ct := N, bk := D.nx } σ2 H2) := by
  refine ⟨fun i m σ H => m = xs.length - i ∧ i ≤ xs.length ∧ Pv i σ H, ⟨xs.length, by simp, Nat.zero_le _, h0⟩, ?_⟩
  rintro i m σ H ⟨rfl, hi, p⟩
  have q := hl i σ H hi p
  by_cases hlt : i < xs.length
  · refine .inr ⟨⟨xs, xs[i], q, by simp [hlt]⟩, Pv (i + 1), fun σ' H' p' => ⟨xs.length - (i + 1), by omega, rfl, hlt, p'⟩, fun x H' y => ?_⟩
    obtain ⟨e, y⟩ := y
    subst e
    exact hs i x σ _ (y xs q) p
  · have e : i = xs.length := by omega
    subst e
    exact .inl ⟨⟨xs, q, Nat.le_refl _⟩, hd σ H p⟩
theorem for_range {lo : Int} {n : Nat} {g : TG} {tb : TS} {D : Ends} {σ : St} {H : Hp} (Pv : Nat → St → Hp → Prop) (h0 : Pv 0 σ H)
    (hs : ∀ i σ H, i < n → Pv i σ H → g (.int (lo + i)) σ H fun σ2 H2 => tb { D with nx := Pv (i + 1), ct := Pv (i + 1), bk := D.nx } σ2 H2) (hd : ∀ σ H, Pv n σ H → D.nx σ H) :
    ∃ W : Nat → Nat → St → Hp → Prop, (∃ m, W 0 m σ H) ∧ ∀ i m σ H, W i m σ H →
      ((Itr lo n).stop i H ∧ D.nx σ H) ∨ ((Itr lo n).go i H ∧ ∃ N : St → Hp → Prop, (∀ σ' H', N σ' H' → ∃ m', m' < m ∧ W (i + 1) m' σ' H') ∧ ∀ x H', (Itr lo n).yld i H x H' → g x σ H' fun σ2 H2 => tb { D with nx := N, ct := N, bk := D.nx } σ2 H2) := by
  refine ⟨fun i m σ H => m = n - i ∧ i ≤ n ∧ Pv i σ H, ⟨n, by simp, Nat.zero_le _, h0⟩, ?_⟩
  rintro i m σ H ⟨rfl, hi, p⟩
  by_cases hlt : i < n
  · refine .inr ⟨hlt, Pv (i + 1), fun σ' H' p' => ⟨n - (i + 1), by omega, rfl, hlt, p'⟩, fun x H' y => ?_⟩
    obtain ⟨e, y⟩ := y
    subst e y
    exact hs i σ _ hlt p
  · have e : i = n := by omega
    subst e
    exact .inl ⟨Nat.le_refl _, hd σ H p⟩
end L2
namespace L2
open PySem PySem.Spec PyProof.Rows
abbrev R2 := V → V → Hp → VK → Prop
/-- a two-place operation on values: f is binaryOp op, inplaceOp op or compareOp op -/
def OpR (X : Cx) (f : Value → Value → Sem Value) (r : R2) : Prop :=
  ∀ (pins : List (Addr × Obj)) (s : Shared) (σ : St) (H : Hp) (x y : V) (v u : Value) (Q : VK), Inv X pins σ H s → RelV x v → RelV y u → r x y H Q →
    wpAny (model X.prog X.w) X.A (f v u) (EP X pins σ Q) X.xe s
/-- a one-place operation -/
def UnR (X : Cx) (f : Value → Sem Value) (r : V → Hp → VK → Prop) : Prop :=
  ∀ (pins : List (Addr × Obj)) (s : Shared) (σ : St) (H : Hp) (x : V) (v : Value) (Q : VK), Inv X pins σ H s → RelV x v → r x H Q →
    wpAny (model X.prog X.w) X.A (f v) (EP X pins σ Q) X.xe s
/-- a call of a value that is known (a builtin, a type) with values -/
def CallR (X : Cx) (f : Value) (r : List V → Hp → VK → Prop) : Prop :=
  ∀ (pins : List (Addr × Obj)) (s : Shared) (σ : St) (H : Hp) (xs : List V) (us : List Value) (Q : VK), Inv X pins σ H s → Vals xs us → r xs H Q →
    wpAny (model X.prog X.w) X.A (call f us) (EP X pins σ Q) X.xe s
/-- a value's truth -/
def TruR (X : Cx) (r : V → Hp → (Bool → Hp → Prop) → Prop) : Prop :=
  ∀ (pins : List (Addr × Obj)) (s : Shared) (σ : St) (H : Hp) (x : V) (v : Value) (Q : Bool → Hp → Prop), Inv X pins σ H s → RelV x v → r x H Q →
    wpAny (model X.prog X.w) X.A (truthy v) (TP X pins σ Q) X.xe s

def tOp (r : R2) (ta tb : TE) : TE := fun σ H Q => ta σ H fun x H1 => tb σ H1 fun y H2 => r x y H2 Q
def tUn (r : V → Hp → VK → Prop) (ta : TE) : TE := fun σ H Q => ta σ H fun x H1 => r x H1 Q
/-- ints in, under C, and a value out -/
def rI (C : Int → Int → Prop) (g : Int → Int → V) : R2 := fun x y H Q => ∃ i j, x = .int i ∧ y = .int j ∧ C i j ∧ Q (g i j) H
def rI0 (g : Int → Int → V) : R2 := fun x y H Q => ∃ i j, x = .int i ∧ y = .int j ∧ Q (g i j) H
def rU (g : Int → V) : V → Hp → VK → Prop := fun x H Q => ∃ i, x = .int i ∧ Q (g i) H

section
variable {X : Cx} {a b c : Expr} {ta tb tc : TE} {pos : Pos}
theorem binT (ha : PE X a ta) (hb : PE X b tb) {pins : List (Addr × Obj)} {s : Shared} {σ : St} {H : Hp} {R : V → V → Hp → Prop} (I : Inv X pins σ H s)
    (h : ta σ H fun x H1 => tb σ H1 fun y H2 => R x y H2) {Q : Value → Shared → Prop} {f : Value → Value → Sem Value}
    (hf : ∀ v u s2 x y H2, Inv X pins σ H2 s2 → RelV x v → RelV y u → R x y H2 → wpAny (model X.prog X.w) X.A (f v u) Q X.xe s2) :
    wpAny (model X.prog X.w) X.A (eval a X.env) (fun v s₁ => wpAny (model X.prog X.w) X.A (eval b X.env) (fun u s₂ => wpAny (model X.prog X.w) X.A (f v u) Q X.xe s₂) X.xe s₁) X.xe s := by
  refine thn (ha pins s σ H _ I h) fun v s1 ⟨x, H1, I1, r1, q1⟩ => ?_
  refine thn (hb pins s1 σ H1 _ I1 q1) fun u s2 ⟨y, H2, I2, r2, q2⟩ => ?_
  exact hf v u s2 x y H2 I2 r1 r2 q2

theorem pe_op {op : Operator} {r : R2} (ho : OpR X (binaryOp op) r) (ha : PE X a ta) (hb : PE X b tb) : PE X (.BinOp a op b pos) (tOp r ta tb) := by
  intro pins s σ H Q I h
  exact wpAny_BinOp (binT ha hb I h fun v u s2 x y H2 I2 rx ry q => ho pins s2 σ H2 x y v u Q I2 rx ry q)
theorem pe_un {op : UnaryOp} {r : V → Hp → VK → Prop} (ho : UnR X (unaryOp op) r) (ha : PE X a ta) : PE X (.UnaryOp op a pos) (tUn r ta) := by
  intro pins s σ H Q I h
  exact UnaryOp_ (thn (ha pins s σ H _ I h) fun v s1 ⟨x, H1, I1, r1, q1⟩ => ho pins s1 σ H1 x v Q I1 r1 q1)
theorem opI {f : Value → Value → Sem Value} {C : Int → Int → Prop} {g : Int → Int → Int}
    (rule : ∀ (i j : Int) (t u : Tok) (s : Shared) (Q : Value → Shared → Prop) (E : Value → Shared → Prop), C i j → Q (.int (g i j) s.toks) { s with toks := s.toks + 1 } → wpAny (model X.prog X.w) X.A (f (.int i t) (.int j u)) Q E s) :
    OpR X f (rI C fun i j => .int (g i j)) := by
  intro pins s σ H x y v u Q I rx ry h
  obtain ⟨i, j, rfl, rfl, hc, q⟩ := h
  obtain ⟨t, rfl⟩ := rx
  obtain ⟨t', rfl⟩ := ry
  exact rule i j t t' s _ _ hc ⟨.int (g i j), H, I.tok _, ⟨_, rfl⟩, q⟩
theorem opI0 {f : Value → Value → Sem Value} {g : Int → Int → Int}
    (rule : ∀ (i j : Int) (t u : Tok) (s : Shared) (Q : Value → Shared → Prop) (E : Value → Shared → Prop), Q (.int (g i j) s.toks) { s with toks := s.toks + 1 } → wpAny (model X.prog X.w) X.A (f (.int i t) (.int j u)) Q E s) :
    OpR X f (rI0 fun i j => .int (g i j)) := by
  intro pins s σ H x y v u Q I rx ry h
  obtain ⟨i, j, rfl, rfl, q⟩ := h
  obtain ⟨t, rfl⟩ := rx
  obtain ⟨t', rfl⟩ := ry
  exact rule i j t t' s _ _ ⟨.int (g i j), H, I.tok _, ⟨_, rfl⟩, q⟩
theorem opB0 {f : Value → Value → Sem Value} {g : Int → Int → Bool}
    (rule : ∀ (i j : Int) (t u : Tok) (s : Shared) (Q : Value → Shared → Prop) (E : Value → Shared → Prop), Q (.bool (g i j)) s → wpAny (model X.prog X.w) X.A (f (.int i t) (.int j u)) Q E s) :
    OpR X f (rI0 fun i j => .bl (g i j)) := by
  intro pins s σ H x y v u Q I rx ry h
  obtain ⟨i, j, rfl, rfl, q⟩ := h
  obtain ⟨t, rfl⟩ := rx
  obtain ⟨t', rfl⟩ := ry
  exact rule i j t t' s _ _ ⟨.bl (g i j), H, I, rfl, q⟩

def CDiv (i j : Int) : Prop := 0 < j ∧ j < 1073741824
def CPow (i j : Int) : Prop := 0 ≤ j ∧ j ≤ 1000000 ∧ i.natAbs < 2 ^ 64
def CMul (i j : Int) : Prop := (-(2 ^ 64) < i ∧ i < 2 ^ 64) ∨ (-(2 ^ 64) < j ∧ j < 2 ^ 64)
theorem CMul.ok {i j : Int} (h : CMul i j) : IntMulOk i j := by
  rcases h with ⟨h1, h2⟩ | ⟨h1, h2⟩
  · exact .of_left (intBits_le_64 h1 h2)
  · exact .of_right (intBits_le_64 h1 h2)
theorem op_add : OpR X (binaryOp .Add) (rI0 fun i j => .int (i + j)) := opI0 fun _ _ _ _ _ _ _ q => add_int q
theorem op_sub : OpR X (binaryOp .Sub) (rI0 fun i j => .int (i - j)) := opI0 fun _ _ _ _ _ _ _ q => sub_int q
theorem op_mul : OpR X (binaryOp .Mult) (rI CMul fun i j => .int (i * j)) := opI fun _ _ _ _ _ _ _ hc q => mul_int q hc.ok
/-- // by a positive divisor -/
theorem op_fdiv : OpR X (binaryOp .FloorDiv) (rI CDiv fun i j => .int (i / j)) := opI fun i j _ _ _ _ _ hc q => by
  have h1 : (0 : Int) < j := hc.1
  have h2 : j < 1073741824 := hc.2
  exact floordiv_int (by omega) (by rw [Int.fdiv_eq_ediv_of_nonneg i (by omega)]; exact q) (.inl (PyProof.noPylong_small (by omega)))
/-- % by a positive divisor of any size -/
theorem op_mod : OpR X (binaryOp .Mod) (rI (fun _ j => 0 < j) fun i j => .int (i % j)) := opI fun i j _ _ _ _ _ hc q => by
  have h1 : (0 : Int) < j := hc
  exact mod_int' (by omega) (by rw [Int.fmod_eq_emod_of_nonneg i (by omega)]; exact q)
theorem op_pow : OpR X (binaryOp .Pow) (rI CPow fun i j => .int (i ^ j.toNat)) := opI fun _ _ _ _ _ _ _ hc q => pow_int_small hc.1 hc.2.1 hc.2.2 q
theorem unI {f : Value → Sem Value} {g : Int → Int}
    (rule : ∀ (i : Int) (t : Tok) (s : Shared) (Q : Value → Shared → Prop) (E : Value → Shared → Prop), Q (.int (g i) s.toks) { s with toks := s.toks + 1 } → wpAny (model X.prog X.w) X.A (f (.int i t)) Q E s) :
    UnR X f (rU fun i => .int (g i)) := by
  intro pins s σ H x v Q I rx h
  obtain ⟨i, rfl, q⟩ := h
  obtain ⟨t, rfl⟩ := rx
  exact rule i t s _ _ ⟨.int (g i), H, I.tok _, ⟨_, rfl⟩, q⟩
theorem un_neg : UnR X (unaryOp .USub) (rU fun i => .int (-i)) := unI fun _ _ _ _ _ q => neg_int q
end
/-- the scalars that == tells apart as data does -/
def scal : V → V → Bool
  | .non, .non => true | .non, .int _ => true | .int _, .non => true | .non, .bl _ => true | .bl _, .non => true | .non, .str _ => true | .str _, .non => true
  | .int _, .int _ => true | .bl _, .bl _ => true | .str _, .str _ => true | .byt _, .byt _ => true
  | .int _, .str _ => true | .str _, .int _ => true | .bl _, .str _ => true | .str _, .bl _ => true
  | _, _ => false
def rEq : R2 := fun x y H Q => scal x y = true ∧ Q (.bl (decide (x = y))) H
def rNe : R2 := fun x y H Q => scal x y = true ∧ Q (.bl (!decide (x = y))) H

theorem dec_int {i j : Int} : decide (V.int i = V.int j) = (i == j) := by
  rw [Bool.eq_iff_iff]
  simp
theorem dec_bl {i j : Bool} : decide (V.bl i = V.bl j) = (i == j) := by
  rw [Bool.eq_iff_iff]
  simp
theorem dec_str {i j : Str} : decide (V.str i = V.str j) = (i == j) := by
  rw [Bool.eq_iff_iff]
  simp
theorem dec_byt {i j : Array UInt8} : decide (V.byt i = V.byt j) = (i.toList == j.toList) := by
  rw [Bool.eq_iff_iff]
  cases i
  cases j
  simp

section
variable {X : Cx} {a b c : Expr} {ta tb tc : TE} {pos : Pos}
theorem fin_bl {pins : List (Addr × Obj)} {σ : St} {H : Hp} {s : Shared} {Q : VK} {k k' : Bool} (I : Inv X pins σ H s) (q : Q (.bl k) H) (e : k = k') : EP X pins σ Q (.bool k') s := by
  subst e
  exact ⟨.bl k, H, I, rfl, q⟩
theorem op_eq : OpR X (compareOp .Eq) rEq := by
  intro pins s σ H x y v u Q I rx ry h
  obtain ⟨hs, q⟩ := h
  cases x with
  | non =>
    cases rx
    cases y with
    | non => cases ry; exact PySem.EqNone.eq_none_none (fin_bl I q (by simp))
    | bl j => cases ry; exact PySem.EqNone.eq_none_bool (fin_bl I q (by simp))
    | int j => obtain ⟨t', rfl⟩ := ry; exact PySem.EqNone.eq_none_int (fin_bl I q (by simp))
    | str j => obtain ⟨t', rfl⟩ := ry; exact PySem.EqNone.eq_none_str (fin_bl I q (by simp))
    | _ => exact absurd (show false = true from hs) Bool.false_ne_true
  | bl i =>
    cases rx
    cases y with
    | non => cases ry; exact PySem.EqNone.eq_bool_none (fin_bl I q (by simp))
    | bl j => cases ry; exact eq_bool (fin_bl I q dec_bl)
    | str j => obtain ⟨t', rfl⟩ := ry; exact PySem.EqMixed.eq_bool_str (fin_bl I q (by simp))
    | _ => exact absurd (show false = true from hs) Bool.false_ne_true
  | int i =>
    obtain ⟨t, rfl⟩ := rx
    cases y with
    | non => cases ry; exact PySem.EqNone.eq_int_none (fin_bl I q (by simp))
    | int j => obtain ⟨t', rfl⟩ := ry; exact eq_int (fin_bl I q dec_int)
    | str j => obtain ⟨t', rfl⟩ := ry; exact PySem.EqMixed.eq_int_str (fin_bl I q (by simp))
    | _ => exact absurd (show false = true from hs) Bool.false_ne_true
  | str i =>
    obtain ⟨t, rfl⟩ := rx
    cases y with
    | non => cases ry; exact PySem.EqNone.eq_str_none (fin_bl I q (by simp))
    | bl j => cases ry; exact PySem.EqMixed.eq_str_bool (fin_bl I q (by simp))
    | int j => obtain ⟨t', rfl⟩ := ry; exact PySem.EqMixed.eq_str_int (fin_bl I q (by simp))
    | str j => obtain ⟨t', rfl⟩ := ry; exact eq_str (fin_bl I q dec_str)
    | _ => exact absurd (show false = true from hs) Bool.false_ne_true
  | byt i =>
    obtain ⟨t, rfl⟩ := rx
    cases y with
    | byt j => obtain ⟨t', rfl⟩ := ry; exact PySem.W.eq_bytes (fin_bl I q dec_byt)
    | _ => exact absurd (show false = true from hs) Bool.false_ne_true
  | _ => cases y <;> exact absurd (show false = true from hs) Bool.false_ne_true
theorem op_ne : OpR X (compareOp .NotEq) rNe := by
  intro pins s σ H x y v u Q I rx ry h
  obtain ⟨hs, q⟩ := h
  cases x with
  | non =>
    cases rx
    cases y with
    | non => cases ry; exact PySem.EqNone.ne_none_none (fin_bl I q (by simp))
    | bl j => cases ry; exact PySem.EqNone.ne_none_bool (fin_bl I q (by simp))
    | int j => obtain ⟨t', rfl⟩ := ry; exact PySem.EqNone.ne_none_int (fin_bl I q (by simp))
    | str j => obtain ⟨t', rfl⟩ := ry; exact PySem.EqNone.ne_none_str (fin_bl I q (by simp))
    | _ => exact absurd (show false = true from hs) Bool.false_ne_true
  | bl i =>
    cases rx
    cases y with
    | non => cases ry; exact PySem.EqNone.ne_bool_none (fin_bl I q (by simp))
    | bl j => cases ry; exact ne_bool (fin_bl I q (congrArg not dec_bl))
    | str j => obtain ⟨t', rfl⟩ := ry; exact PySem.EqMixed.ne_bool_str (fin_bl I q (by simp))
    | _ => exact absurd (show false = true from hs) Bool.false_ne_true
  | int i =>
    obtain ⟨t, rfl⟩ := rx
    cases y with
    | non => cases ry; exact PySem.EqNone.ne_int_none (fin_bl I q (by simp))
    | int j => obtain ⟨t', rfl⟩ := ry; exact ne_int (fin_bl I q (congrArg not dec_int))
    | str j => obtain ⟨t', rfl⟩ := ry; exact PySem.EqMixed.ne_int_str (fin_bl I q (by simp))
    | _ => exact absurd (show false = true from hs) Bool.false_ne_true
  | str i =>
    obtain ⟨t, rfl⟩ := rx
    cases y with
    | non => cases ry; exact PySem.EqNone.ne_str_none (fin_bl I q (by simp))
    | bl j => cases ry; exact PySem.EqMixed.ne_str_bool (fin_bl I q (by simp))
    | int j => obtain ⟨t', rfl⟩ := ry; exact PySem.EqMixed.ne_str_int (fin_bl I q (by simp))
    | str j => obtain ⟨t', rfl⟩ := ry; exact ne_str (fin_bl I q (congrArg not dec_str))
    | _ => exact absurd (show false = true from hs) Bool.false_ne_true
  | byt i =>
    obtain ⟨t, rfl⟩ := rx
    cases y with
    | byt j => obtain ⟨t', rfl⟩ := ry; exact PySem.W.ne_bytes (fin_bl I q (congrArg not dec_byt))
    | _ => exact absurd (show false = true from hs) Bool.false_ne_true
  | _ => cases y <;> exact absurd (show false = true from hs) Bool.false_ne_true

theorem op_lt : OpR X (compareOp .Lt) (rI0 fun i j => .bl (decide (i < j))) := opB0 fun _ _ _ _ _ _ _ q => lt_int q
theorem op_le : OpR X (compareOp .LtE) (rI0 fun i j => .bl (decide (i ≤ j))) := opB0 fun _ _ _ _ _ _ _ q => le_int q
theorem op_gt : OpR X (compareOp .Gt) (rI0 fun i j => .bl (decide (j < i))) := opB0 fun _ _ _ _ _ _ _ q => gt_int q
/-- is None, is not None: the right side a value none -/
theorem op_isN : OpR X (compareOp .Is) (fun x y H Q => y = .non ∧ Q (.bl (decide (x = .non))) H) := by
  intro pins s σ H x y v u Q I rx ry h
  obtain ⟨rfl, q⟩ := h
  cases ry
  refine is_none_gen (fin_bl I q ?_)
  cases x <;> first
    | (cases rx; rfl)
    | (obtain ⟨t, rfl⟩ := rx; rfl)
theorem op_notN : OpR X (compareOp .IsNot) (fun x y H Q => y = .non ∧ Q (.bl (!decide (x = .non))) H) := by
  intro pins s σ H x y v u Q I rx ry h
  obtain ⟨rfl, q⟩ := h
  cases ry
  refine isnot_none_gen (fin_bl I q ?_)
  cases x <;> first
    | (cases rx; rfl)
    | (obtain ⟨t, rfl⟩ := rx; rfl)

theorem nomark (b : Expr) {op : CmpOp} (h : op ≠ .In := by decide) (h2 : op ≠ .NotIn := by decide) : behindInMarks op b = false := by
  have e1 : (op == CmpOp.In) = false := by cases op <;> first | rfl | exact absurd rfl h
  have e2 : (op == CmpOp.NotIn) = false := by cases op <;> first | rfl | exact absurd rfl h2
  cases b <;> simp [behindInMarks, e1, e2]
/-- a comparison as a value; hm: nomark b, or (for in, not in) by with_unfolding_all rfl -/
theorem pe_cmpR {op : CmpOp} {r : R2} (ho : OpR X (compareOp op) r) (ha : PE X a ta) (hb : PE X b tb) (hm : behindInMarks op b = false) : PE X (.Compare a [op] [b] pos) (tOp r ta tb) := by
  intro pins s σ H Q I h
  exact wpAny_Compare1 (binT ha hb I h fun v u s2 x y H2 I2 rx ry q => ho pins s2 σ H2 x y v u Q I2 rx ry q) hm
/-- a reading of a value as a test -/
def tTest (t : TE) : TT := fun σ H Q => t σ H fun x H' => ∃ k, x = .bl k ∧ Q k H'
theorem pt_cmpR {op : CmpOp} {r : R2} (ho : OpR X (compareOp op) r) (ha : PE X a ta) (hb : PE X b tb) (hm : behindInMarks op b = false) : PT X (.Compare a [op] [b] pos) (tTest (tOp r ta tb)) := by
  intro pins s σ H Q I h
  refine wpAny_isTrue_Compare1 (thn (ha pins s σ H _ I h) fun v s1 ⟨x, H1, I1, r1, q1⟩ => thn (hb pins s1 σ H1 _ I1 q1) fun u s2 ⟨y, H2, I2, r2, q2⟩ =>
    thn (ho pins s2 σ H2 x y v u _ I2 r1 r2 q2) fun c s3 ⟨z, H3, I3, r3, k, e, q3⟩ => ?_) hm
  subst e
  cases r3
  exact wpAny_truthy_bool ⟨H3, I3, q3⟩
/-- a op1 b op2 c -/
def tChain (r r' : R2) (ta tb tc : TE) : TE := fun σ H Q => ta σ H fun x H1 => tb σ H1 fun y H2 => r x y H2 fun z H3 => ∃ k, z = .bl k ∧
  (if k = true then tc σ H3 fun w' H4 => r' y w' H4 Q else Q (.bl false) H3)
theorem pt_chain {op op' : CmpOp} {r r' : R2} (ho : OpR X (compareOp op) r) (ho' : OpR X (compareOp op') r') (ha : PE X a ta) (hb : PE X b tb) (hc : PE X c tc)
    (hm : lastMarks [op, op'] [b, c] = false := by with_unfolding_all rfl) : PT X (.Compare a [op, op'] [b, c] pos) (tTest (tChain r r' ta tb tc)) := by
  intro pins s σ H Q I h
  refine isTrue_chain (thn (ha pins s σ H _ I h) fun v s1 ⟨x, H1, I1, r1, q1⟩ => test_link (thn (hb pins s1 σ H1 _ I1 q1) fun u s2 ⟨y, H2, I2, r2, q2⟩ =>
    thn (ho pins s2 σ H2 x y v u _ I2 r1 r2 q2) fun d s3 ⟨z, H3, I3, r3, k, e, q3⟩ => ?_)) hm
  subst e
  cases r3
  refine wpAny_truthy_bool ?_
  cases k with
  | false =>
    obtain ⟨k', e', q'⟩ := q3
    cases e'
    exact ite_ff ⟨H3, I3, q'⟩
  | true =>
    refine ite_tt (test_last (thn (hc pins s3 σ H3 _ I3 q3) fun w' s4 ⟨z', H4, I4, r4, q4⟩ => thn (ho' pins s4 σ H4 y z' u w' _ I4 r2 r4 q4) fun d' s5 ⟨z2, H5, I5, r5, k2, e2, q5⟩ => ?_))
    subst e2
    cases r5
    exact wpAny_truthy_bool ⟨H5, I5, q5⟩

/-- a value's truth by the abstract heap -/
def TruV (K : PySem.W.Frag) (x : V) (H : Hp) (k : Bool) : Prop :=
  match x with
  | .non => k = false
  | .bl b => k = b
  | .int i => k = (i != 0)
  | .str y => y.length ≤ sizeLine ∧ k = ((y.length : Int) != 0)
  | .byt y => y.size ≤ sizeLine ∧ k = ((y.size : Int) != 0)
  | .ref p => (∃ xs, SqL K H p xs ∧ k = !xs.isEmpty) ∨ (∃ xs, SqT K H p xs ∧ k = !xs.isEmpty) ∨ ∃ kvs, H p = some (.dK kvs) ∧ k = !kvs.isEmpty
  | _ => False
theorem isEmpty_kv {κ : Type} {kvs : List (κ × V)} {vs : List (κ × Value)} (r : KV kvs vs) : (!vs.isEmpty) = !kvs.isEmpty := by
  cases r <;> rfl
theorem isEmpty_of {xs : List V} {its : List Value} (r : Vals xs its) : (!its.toArray.isEmpty) = !xs.isEmpty := by
  cases r <;> simp
theorem line63 : (sizeLine : Nat) < 2 ^ 63 := by rw [sizeLine_eq]; decide
theorem tru_ok : TruR X (fun x H Q => ∃ k, TruV X.K x H k ∧ Q k H) := by
  intro pins s σ H x v Q I rx h
  obtain ⟨k, e, q⟩ := h
  have hl := line63
  have hs : sizeLine = 16777216 := sizeLine_eq
  cases x with
  | non =>
    cases rx
    have e' : k = false := e
    subst e'
    exact truthy_none ⟨H, I, q⟩
  | bl b =>
    cases rx
    have e' : k = b := e
    subst e'
    exact wpAny_truthy_bool ⟨H, I, q⟩
  | int i =>
    obtain ⟨t, rfl⟩ := rx
    have e' : k = (i != 0) := e
    subst e'
    exact PySem.P.truthy_int ⟨H, I, q⟩
  | str y =>
    obtain ⟨t, rfl⟩ := rx
    obtain ⟨hy, e'⟩ : y.length ≤ sizeLine ∧ k = ((y.length : Int) != 0) := e
    subst e'
    exact PySem.P.truthy_str (by omega) ⟨H, I.tok _, q⟩
  | byt y =>
    obtain ⟨t, rfl⟩ := rx
    obtain ⟨hy, e'⟩ : y.size ≤ sizeLine ∧ k = ((y.size : Int) != 0) := e
    subst e'
    exact PySem.W.truthy_bytes (by exact Nat.le_trans (by assumption) (by decide)) ⟨H, I.tok _, q⟩
  | ref p =>
    cases rx
    have e' : (∃ xs, SqL X.K H p xs ∧ k = !xs.isEmpty) ∨ (∃ xs, SqT X.K H p xs ∧ k = !xs.isEmpty) ∨ ∃ kvs, H p = some (.dK kvs) ∧ k = !kvs.isEmpty := e
    rcases e' with ⟨xs, hx, e'⟩ | ⟨xs, hx, e'⟩ | ⟨kvs, hx, e'⟩
    · subst e'
      obtain ⟨its, r, pl, hz⟩ := I.list hx
      have hlen := r.length
      exact wpAny_truthy_list pl.isList (by simp only [List.size_toArray]; omega) ⟨H, I.tok _, by rw [isEmpty_of r]; exact q⟩
    · subst e'
      obtain ⟨its, r, pl, hz⟩ := I.tuple hx
      have hlen := r.length
      exact truthy_tuple pl (by simp only [List.size_toArray]; omega) ⟨H, I.tok _, by rw [isEmpty_of r]; exact q⟩
    · subst e'
      obtain ⟨hz, hS, vs, r, m⟩ : kvs.length ≤ sizeLine ∧ (p == sysModules) = false ∧ ∃ vs, KV kvs vs ∧ s.heap.DictOf (mixKind X.prog X.w) p vs := I.hok p _ hx
      have hlen : kvs.length = vs.length := Paired.length r
      exact wpAny_truthy_dict hS m (by omega) ⟨H, I.tok _, by rw [isEmpty_kv r]; exact q⟩
  | _ => exact (show False from e).elim
/-- any expression whose test is its value's truth (a name, a call, a subscript, a field ..: he by fun _ => rfl) -/
theorem pt_truth (ha : PE X a ta) (he : ∀ whole, isTrue a X.env whole = (do let v ← whole; standAt a.pos; holding [v] (truthy v))) :
    PT X a (fun σ H Q => ta σ H fun x H' => ∃ k, TruV X.K x H' k ∧ Q k H') := by
  intro pins s σ H Q I h
  exact isTrue_plain (thn (ha pins s σ H _ I h) fun v s1 ⟨x, H1, I1, r1, q1⟩ => tru_ok pins s1 σ H1 x v Q I1 r1 q1) (he _)

theorem vals1 {x : V} {us : List Value} (r : Vals [x] us) : ∃ u, us = [u] ∧ RelV x u := by
  cases r with
  | cons r1 r2 => cases r2; exact ⟨_, rfl, r1⟩
theorem vals2 {x y : V} {us : List Value} (r : Vals [x, y] us) : ∃ u w', us = [u, w'] ∧ RelV x u ∧ RelV y w' := by
  cases r with
  | cons r1 r2 =>
    cases r2 with
    | cons r3 r4 => cases r4; exact ⟨_, _, rfl, r1, r3⟩
theorem call_max2 (hc : X.calm = true) : CallR X (.builtin "max") (fun xs H Q => ∃ i j, xs = [.int i, .int j] ∧ Q (.int (if j > i then j else i)) H) := by
  intro pins s σ H xs us Q I r h
  obtain ⟨i, j, rfl, q⟩ := h
  obtain ⟨u, w', rfl, ⟨t, rfl⟩, ⟨t', rfl⟩⟩ := vals2 r
  refine max_two_ints (I.ok.hd hc) fun h' tk k => ⟨_, H, I.kept k, ?_, q⟩
  by_cases hj : j > i
  · rw [if_pos hj, if_pos hj]; exact ⟨_, rfl⟩
  · rw [if_neg hj, if_neg hj]; exact ⟨_, rfl⟩
theorem call_min2 (hc : X.calm = true) : CallR X (.builtin "min") (fun xs H Q => ∃ i j, xs = [.int i, .int j] ∧ Q (.int (if j < i then j else i)) H) := by
  intro pins s σ H xs us Q I r h
  obtain ⟨i, j, rfl, q⟩ := h
  obtain ⟨u, w', rfl, ⟨t, rfl⟩, ⟨t', rfl⟩⟩ := vals2 r
  refine min_two_ints (I.ok.hd hc) fun h' tk k => ⟨_, H, I.kept k, ?_, q⟩
  by_cases hj : j < i
  · rw [if_pos hj, if_pos hj]; exact ⟨_, rfl⟩
  · rw [if_neg hj, if_neg hj]; exact ⟨_, rfl⟩
theorem call_int1 : CallR X (.type "int") (fun xs H Q => (∃ i, xs = [.int i] ∧ Q (.int i) H) ∨ ∃ k, xs = [.bl k] ∧ Q (.int (if k then 1 else 0)) H) := by
  intro pins s σ H xs us Q I r h
  rcases h with ⟨i, rfl, q⟩ | ⟨k, rfl, q⟩
  · obtain ⟨u, rfl, t, rfl⟩ := vals1 r
    exact call_int_int ⟨.int i, H, I, ⟨_, rfl⟩, q⟩
  · obtain ⟨u, rfl, r1⟩ := vals1 r
    cases r1
    exact call_int_bool ⟨.int (if k then 1 else 0), H, I.tok _, ⟨_, rfl⟩, q⟩
end
end L2
namespace L2
open PySem PySem.Spec PyProof.Rows
structure ObjM (h : Heap) (x dx C : Addr) (mA : Str → Option Value) : Prop where
  obj : h.get? x = some (PySem.W.instObj C dx)
  ns : h.Ns1 dx mA
  ne : dx ≠ x

theorem lookIn_ns {h : Heap} {dx : Addr} {mA : Str → Option Value} (n : h.Ns1 dx mA) : ∃ od, h.get? dx = some od ∧ ∀ name, PySem.W.lookIn name od = some (mA name) := by
  obtain ⟨o, es, ep, ho, hd, hk, _, hm⟩ := n
  refine ⟨o, ho, fun name => ?_⟩
  have e := hm name
  unfold nsFind findBy at e
  rw [← Array.find?_toList] at e
  unfold PySem.W.lookIn
  rw [hd]
  dsimp only
  split
  · rename_i y q
    rw [q] at e
    exact congrArg some e
  · rename_i q
    rw [q] at e
    have a : es.toList.any (·.refKey) = false := by
      rw [List.any_eq_false]
      intro y hy
      obtain ⟨z, t, hkey⟩ := hk y (Array.mem_toList_iff.mp hy)
      simp [DictEntry.refKey, hkey]
    have a' : ¬ es.toList.any (·.refKey) = true := by rw [a]; exact Bool.false_ne_true
    rw [if_neg a']
    exact congrArg some e

theorem ObjM.look {h : Heap} {x dx C : Addr} {mA : Str → Option Value} (I : ObjM h x dx C mA) : ∃ od, PySem.W.InstAt h x (PySem.W.instObj C dx) C (some od) ∧ ∀ name, PySem.W.lookIn name od = some (mA name) :=
  let ⟨od, ho, hl⟩ := lookIn_ns I.ns
  ⟨od, ⟨I.obj, rfl, rfl, ho⟩, hl⟩

theorem RelO.some_of {v : V} {o : Option Value} (r : RelO (some v) o) : ∃ u, o = some u ∧ RelV v u := by
  cases o with
  | none => exact (show False from r).elim
  | some u => exact ⟨u, rfl, r⟩
section
variable {P : Program} {w : World} {H H' : Hp} {h h' : Heap} {a C dx : Addr} {fs fs' : List (Str × V)}
theorem ins_get (hok : HOk P w H h) (e : H a = some (.ins C dx fs)) : ∃ mA, ObjM h a dx C mA ∧ (∀ f, RelO (fs.lookup f) (mA f)) ∧ PySem.Within mA (fs.map (·.1)) ∧ fs.length ≤ 1000 ∧ H dx = some (.own a) := by
  obtain ⟨d, z, ne, ob, mA, n, r, q⟩ := (show ObjOk P w H h a (.ins C dx fs) from hok a _ e)
  exact ⟨mA, ⟨ob, n, ne⟩, r, q, z, d⟩
end
structure Cls (K : PySem.W.Frag) (C : Addr) : Prop where
  pg : PySem.W.plainGet K C Str.empty = true
  hd : PySem.W.hasDictIn K C = true
  po : PySem.W.plainOver K C = true
  sa : PySem.W.findIn K (.ref C) "__setattr__" = some (some (.builtin "object.__setattr__"))
theorem Cls.get {K : PySem.W.Frag} {C : Addr} (c : Cls K C) (f : Str) : PySem.W.plainGet K C f = true := c.pg
section
variable {X : Cx} {pins : List (Addr × Obj)} {σ : St} {H : Hp} {s : Shared} {A : Around} {E : Value → Shared → Prop} {Q : Value → Shared → Prop} {c : Value} {b : Bool}
/-- the type of a value, as the fragment's deciders take it; for an instance its class -/
inductive TyOf (K : PySem.W.Frag) (H : Hp) : V → Value → Prop where
  | non : TyOf K H .non (.type "NoneType")
  | bl (x : Bool) : TyOf K H (.bl x) (.type "bool")
  | int (i : Int) : TyOf K H (.int i) (.type "int")
  | str (x : Str) : TyOf K H (.str x) (.type "str")
  | flt (x : UInt64) : TyOf K H (.flt x) (.type "float")
  | lst {a : Addr} {xs : List V} (e : H a = some (.lst xs)) : TyOf K H (.ref a) (.type "list")
  | frz {a : Addr} {o : Obj} {xs : List V} (e : H a = some (.frz o (.lst xs))) : TyOf K H (.ref a) (.type "list")
  | tup {a : Addr} {xs : List V} (e : H a = some (.tup xs)) : TyOf K H (.ref a) (.type "tuple")
  | dK {a : Addr} {kvs : List (Key × V)} (e : H a = some (.dK kvs)) : TyOf K H (.ref a) (.type "dict")
  | dT {a : Addr} {kvs : List (List Key × V)} (e : H a = some (.dT kvs)) : TyOf K H (.ref a) (.type "dict")
  | ins {a C dx : Addr} {fs : List (Str × V)} (e : H a = some (.ins C dx fs)) (cl : Cls K C) (ha : PySem.W.findIn K (.ref C) "__class__" = some (some (.builtin "object.__class__")))
      (hn : PySem.W.specialIn K (.builtin "object.__class__") "__get__" = some (some (.builtin "getset_descriptor.__get__"))) (htk : PySem.W.takesIn K (.builtin "object.__class__") = some true)
      (hm : PySem.W.mroIn K C (.type "object") = some true) : TyOf K H (.ref a) (.ref C)
/-- isinstance(x, c) for one class c, a built-in or an own one: kitOne's answer -/
theorem isinst_ok {x : V} {u t : Value} (I : Inv X pins σ H s) (rx : RelV x u) (ty : TyOf X.K H x t) (e : PySem.W.kitOne X.K t c = some b) (h : ∀ tk, Q (.bool b) { s with toks := tk }) :
    wpAny (model X.prog X.w) A (call (.builtin "isinstance") [u, c]) Q E s := by
  cases ty with
  | non => cases (show u = Value.none from rx); exact PySem.W.kia_one PySem.W.kitx_none I.kIn True.intro e (fun z => nomatch z) h
  | bl y => cases (show u = Value.bool y from rx); exact PySem.W.kia_one PySem.W.kitx_bool I.kIn True.intro e (fun z => nomatch z) h
  | int i => obtain ⟨t, q⟩ := (show ∃ t, u = Value.int i t from rx); cases q; exact PySem.W.kia_one PySem.W.kitx_int I.kIn True.intro e (fun z => nomatch z) h
  | str y => obtain ⟨t, q⟩ := (show ∃ t, u = Value.str y t from rx); cases q; exact PySem.W.kia_one PySem.W.kitx_str I.kIn True.intro e (fun z => nomatch z) h
  | flt y => obtain ⟨t, q⟩ := (show ∃ t, u = Value.float y t from rx); cases q; exact PySem.W.kia_one PySem.W.kitx_float I.kIn True.intro e (fun z => nomatch z) h
  | @lst a xs ea =>
    cases (show u = Value.ref a from rx)
    obtain ⟨_, _, n, _, h1⟩ := (show ObjOk X.prog X.w H s.heap a (.lst xs) from I.hok a _ ea)
    exact PySem.W.kia_one PySem.W.kitx_list I.kIn ⟨_, h1, rfl⟩ e (fun z => nomatch z) h
  | @frz a ob xs ea =>
    cases (show u = Value.ref a from rx)
    obtain ⟨_, _, _, n, _, h1⟩ := (show ObjOk X.prog X.w H s.heap a (.frz ob (.lst xs)) from I.hok a _ ea)
    exact PySem.W.kia_one PySem.W.kitx_list I.kIn ⟨_, h1, rfl⟩ e (fun z => nomatch z) h
  | @tup a xs ea =>
    cases (show u = Value.ref a from rx)
    obtain ⟨_, _, _, p⟩ := (show ObjOk X.prog X.w H s.heap a (.tup xs) from I.hok a _ ea)
    obtain ⟨o, h1, h2, _⟩ := p
    exact PySem.W.kia_one PySem.W.kitx_tuple I.kIn ⟨o, h1, h2⟩ e (fun z => nomatch z) h
  | @dK a kvs ea =>
    cases (show u = Value.ref a from rx)
    obtain ⟨_, _, vs, _, p⟩ := (show ObjOk X.prog X.w H s.heap a (.dK kvs) from I.hok a _ ea)
    obtain ⟨o, es, ep, h1, h2, _⟩ := p
    exact PySem.W.kia_one PySem.W.kitx_dict I.kIn ⟨o, h1, h2.1⟩ e (fun z => nomatch z) h
  | @dT a kvs ea =>
    cases (show u = Value.ref a from rx)
    obtain ⟨_, _, xs, _, o, es, ep, h1, h2, _⟩ := (show ObjOk X.prog X.w H s.heap a (.dT kvs) from I.hok a _ ea)
    exact PySem.W.kia_one PySem.W.kitx_dict I.kIn ⟨o, h1, h2.1⟩ e (fun z => nomatch z) h
  | @ins a C dx fs ea cl ha hn htk hm =>
    cases (show u = Value.ref a from rx)
    obtain ⟨mA, O, _⟩ := ins_get I.hok ea
    obtain ⟨od, J, _⟩ := O.look
    exact PySem.W.kia_one (PySem.W.kitx_own (cl.get _) cl.hd ha hn htk hm) I.kIn J e (fun z => nomatch z) h
end
end L2
namespace L2
open PySem PySem.Spec PyProof.Rows
structure Room (k : Nat) (A : Around) : Prop where
  hd : A.handled = none
  dp : A.depth + 3 * k + 5 < recursionLimit
  un : A.units + 16 * k + 200 < cLine
  gd : A.guards = some []
theorem Room.mono {j k : Nat} {A : Around} (r : Room k A) (h : j ≤ k) : Room j A := ⟨r.hd, by have := r.dp; omega, by have := r.un; omega, r.gd⟩
theorem Room.deeper {k : Nat} {A : Around} (r : Room (k + 1) A) (env : Env) : Room k (A.deeper env) :=
  ⟨r.hd, by have := r.dp; show A.depth + 1 + 3 * k + 5 < _; omega, by have := r.un; show A.units + 3 + 16 * k + 200 < _; omega, by show pushGuards [] A.guards = some []; rw [r.gd]; rfl⟩
theorem Room.depth {k : Nat} {A : Around} (r : Room k A) : A.depth < recursionLimit := by have := r.dp; omega
theorem Room.units {k : Nat} {A : Around} (r : Room k A) : A.units + 64 < cLine := by have := r.un; omega
theorem Room.units0 {k : Nat} {A : Around} (r : Room k A) : A.units < cLine := by have := r.un; omega

def tNil : TA := fun _ H Q => Q [] H
def tCons (ta : TE) (tr : TA) : TA := fun σ H Q => ta σ H fun x H1 => tr σ H1 fun xs H2 => Q (x :: xs) H2
section
variable {X : Cx} {e : Expr} {es : List Expr} {te : TE} {t : TA} {pos : Pos}
theorem pa_nil : PA X [] tNil := fun _ _ _ _ H Q I h => Calls.spliced_nil ⟨[], H, I, .nil, h⟩
theorem pa_cons (ha : PE X e te) (hr : PA X es t) (hs : starEach (e :: es) X.env = (false, eval e X.env) :: starEach es X.env := by rfl) : PA X (e :: es) (tCons te t) := by
  intro pos pins s σ H Q I h
  rw [hs]
  show wpAny _ _ (spliced ((false, eval e X.env) :: backTo pos (starEach es X.env))) _ _ s
  refine Calls.spliced_cons (thn (ha pins s σ H _ I h) fun u s1 ⟨x, H1, I1, r1, q1⟩ => ?_)
  exact thn (hr pos pins s1 σ H1 _ I1 q1) fun us s2 ⟨xs, H2, I2, r2, q2⟩ => ⟨x :: xs, H2, I2, .cons r1 r2, q2⟩

/-- a tuple, a list of written items -/
def tTup (t : TA) : TE := fun σ H Q => t σ H fun xs H1 => xs.length ≤ sizeLine ∧ ∀ p, H1 p = none → Q (.ref p) (upd H1 p (.tup xs))
def tLst (t : TA) : TE := fun σ H Q => t σ H fun xs H1 => xs.length ≤ sizeLine ∧ ∀ p, H1 p = none → Q (.ref p) (upd H1 p (.lst xs))
theorem pe_tup {x1} (h : PA X es t) : PE X (.Tuple es x1 pos) (tTup t) := by
  intro pins s σ H Q I hq
  refine wpAny_Tuple_spliced (thn (h pos pins s σ H _ I hq) fun us s1 ⟨xs, H1, I1, r, z, q⟩ => ⟨by rw [← r.length]; exact z, ?_⟩)
  have hf : H1 s1.heap.objs.size = none := I1.hok.fresh (Nat.le_refl _)
  refine ⟨.ref s1.heap.objs.size, upd H1 s1.heap.objs.size (.tup xs), I1.laid (t' := s1.toks) (fun b u e => Heap.get?_push_of_some _ e) (Nat.le_refl _) ?_, rfl, q _ hf⟩
  exact ⟨z, us, r, IsTupN.new _ _⟩
theorem pe_lst (h : PA X es t) : PE X (.List es pos) (tLst t) := by
  intro pins s σ H Q I hq
  refine wpAny_List_spliced (thn (h pos pins s σ H _ I hq) fun us s1 ⟨xs, H1, I1, r, z, q⟩ => ⟨by rw [← r.length]; exact z, ?_⟩)
  have hf : H1 s1.heap.objs.size = none := I1.hok.fresh (Nat.le_refl _)
  refine ⟨.ref s1.heap.objs.size, upd H1 s1.heap.objs.size (.lst xs), I1.laid (t' := s1.toks) (fun b u e => Heap.get?_push_of_some _ e) (Nat.le_refl _) ?_, rfl, q _ hf⟩
  exact ⟨z, us, 0, r, Heap.get?_push_size _ rfl⟩
end
/-- a def's promise: the bound arguments in the parameters' order, the heap, the wanted end, the wanted exception -/
abbrev Sp := List V → Hp → VK → XK → Prop
/-- how an exception lies behind a call (file 08 gives it): the callers' frames, abstract heap and state ahead of the call, the wish, the exception, the state -/
abbrev CXT := List Env → Hp → Shared → XK → Value → Shared → Prop

/-- the state at a call -/
structure Env0 (P : Program) (w : World) (K : PySem.W.Frag) (mg : Str → Option Value) (base : Heap) (A : Around) (outer : List Env) (s : Shared) (H : Hp) : Prop where
  frames : A.frames = some outer
  mod : Mod K mg base
  bs : ∀ b o, base.get? b = some o → s.heap.get? b = some o ∧ H b = none
  bsz : base.objs.size ≤ s.heap.objs.size
  funs : s.heap.FunFrames base outer
  frf : ∀ b ∈ frs outer, H b = none
  hok : HOk P w H s.heap
  bare : AllBare s.gens
/-- a call's end -/
def CE (outer : List Env) (P : Program) (w : World) (H : Hp) (s : Shared) (Q : VK) (u : Value) (s' : Shared) : Prop :=
  ∃ v H', s'.os = s.os ∧ AllBare s'.gens ∧ Un (frs outer) [] H H' s.heap s'.heap ∧ HOk P w H' s'.heap ∧ RelV v u ∧ Q v H'
def CR (CX : CXT) (outer : List Env) (P : Program) (w : World) (H : Hp) (s : Shared) (Q : VK) (E : XK) (r : Result) (s' : Shared) : Prop :=
  match r with
  | .ok (.ret u) => CE outer P w H s Q u s'
  | .ok _ => False
  | .error e => CX outer H s E e s'
structure FnOk (P : Program) (w : World) (K : PySem.W.Frag) (mg : Str → Option Value) (base : Heap) (CX : CXT) (k : Nat) (f : Addr) (fd : FuncData) (ps : List Str) (sp : Sp) : Prop where
  len : ∀ vs H Q E, sp vs H Q E → vs.length = ps.length
  run : ∀ (A : Around) (outer : List Env) (s : Shared) (H : Hp) (args : Args) (us : List Value) (vs : List V) (Q : VK) (E : XK), Room k A → Env0 P w K mg base A outer s H → BindsTo s fd args (ps.zip us) → Vals vs us → sp vs H Q E →
    codeAny (model P w) A (.call (.ref f) args) (CR CX outer P w H s Q E) s
theorem FnOk.mono {P : Program} {w : World} {K : PySem.W.Frag} {mg : Str → Option Value} {base : Heap} {CX : CXT} {j k : Nat} {f : Addr} {fd : FuncData} {ps : List Str} {sp : Sp} (F : FnOk P w K mg base CX j f fd ps sp) (h : j ≤ k) :
    FnOk P w K mg base CX k f fd ps sp := ⟨F.len, fun A outer s H args us vs Q E hr => F.run A outer s H args us vs Q E (hr.mono h)⟩
section
variable {X : Cx} {pins : List (Addr × Obj)} {σ : St} {H : Hp} {s s' : Shared}
/-- from a body: what a callee wants -/
theorem Inv.env0 (I : Inv X pins σ H s) : Env0 X.prog X.w X.K X.mg X.base X.A X.stack s H :=
  ⟨I.ok.frames, I.ok.mod, I.bs, Nat.le_trans I.ok.bsz I.sz, I.stack, I.stkFree, I.hok, I.bare⟩
/-- behind a call -/
theorem Inv.after {Q : VK} {u : Value} (I : Inv X pins σ H s) (h : CE X.stack X.prog X.w H s Q u s') : EP X pins σ Q u s' := by
  obtain ⟨v, H', os, bare, un, hok, r, q⟩ := h
  obtain ⟨hh, g, d, t, os'⟩ := s'
  obtain rfl : os' = s.os := os
  exact ⟨v, H', I.call (h' := hh) (g' := g) (d' := d) (t' := t) (ch := []) un hok bare (fun b z => absurd z (by simp)), r, q⟩
end
/-- f(..): the written arguments, then the defaults dvs; E: what is wanted of an exception -/
def tCall (sp : Sp) (dvs : List V) (E : XK) (t : TA) : TE := fun σ H Q => t σ H fun vs H1 => sp (vs ++ dvs) H1 Q E
/-- how the parameters are bound: us the positional arguments, kw the keywords' values by name, ds the defaults that fill up -/
def Binds (K : PySem.W.Frag) (fd : FuncData) (ps : List Str) (ds : List Value) : Prop :=
  ∀ (s : Shared) (us : List Value), K.In s.heap → (us ++ ds).length = ps.length → BindsTo s fd ⟨us, []⟩ (ps.zip (us ++ ds))
/-- every parameter is given -/
theorem Binds.all {K : PySem.W.Frag} {fd : FuncData} {ps : List Str} (h : ∀ us : List Value, us.length = ps.length → bindArgs fd ⟨us, []⟩ = pure (ps.zip us)) : Binds K fd ps [] := fun s us _ hl => by
  rw [List.append_nil] at hl ⊢
  exact .of_eq (h us hl)

/-- an exception of a callee reaches what this body wants of exceptions -/
def Passes (CX : CXT) (X : Cx) (E : XK) : Prop := ∀ (pins : List (Addr × Obj)) (σ : St) (H : Hp) (s : Shared) (e : Value) (s' : Shared), Inv X pins σ H s → CX X.stack H s E e s' → X.xe e s'

section
variable {X : Cx} {CX : CXT} {k : Nat} {f C : Addr} {fd : FuncData} {ps : List Str} {sp : Sp} {dvs : List V} {ds : List Value} {E : XK} {x m : Str} {p pos apos : Pos} {e o : Expr} {es : List Expr} {ta : TE} {t : TA}
/-- the callee runs -/
theorem run_fn {pins : List (Addr × Obj)} {σ : St} {H : Hp} {s : Shared} {Q : VK} {us : List Value} {vs : List V} (F : FnOk X.prog X.w X.K X.mg X.base CX k f fd ps sp) (hr : Room k X.A) (hb : Binds X.K fd ps ds) (hd : Vals dvs ds) (hx : Passes CX X E)
    (I : Inv X pins σ H s) (r : Vals vs us) (h : sp (vs ++ dvs) H Q E) : wpAny (model X.prog X.w) X.A (call (.ref f) us) (EP X pins σ Q) X.xe s := by
  have r2 : Vals (vs ++ dvs) (us ++ ds) := r.append hd
  have hl : (us ++ ds).length = ps.length := by rw [← r2.length]; exact F.len _ _ _ _ h
  refine wpAny_call (codeAny_mono (F.run X.A X.stack s H ⟨us, []⟩ (us ++ ds) (vs ++ dvs) Q E hr I.env0 (hb s us I.kIn hl) r2 h) fun r s' hq => ?_)
  cases r with
  | error e => exact hx pins σ H s e s' I hq
  | ok fl =>
    cases fl with
    | ret u => exact I.after hq
    | next => exact False.elim hq
    | brk => exact False.elim hq
    | cont => exact False.elim hq

theorem pe_call (F : FnOk X.prog X.w X.K X.mg X.base CX k f fd ps sp) (hr : Room k X.A) (hg : Gl X x) (hm : X.mg x = some (.ref f)) (hk : PySem.W.keepIn X.K (.ref f) = true) (hb : Binds X.K fd ps ds) (hd : Vals dvs ds) (hx : Passes CX X E)
    (ha : PA X (e :: es) t) (hdb : (x == ("__debug__" : Str)) = false := by decide) (he : starEach (e :: es) X.env = (false, eval e X.env) :: starEach es X.env := by rfl) (hpl : (backTo pos (starEach es X.env)).any (·.1) = false := by rfl) :
    PE X (.Call (.Name x p) (e :: es) [] pos) (tCall sp dvs E t) := by
  intro pins s σ H Q I h
  refine wpAny_Call_Name_kw (ld_glob I hg hm ?_ hdb)
  refine PySem.W.callWith_K (h₀ := X.base) I.ok.mod.kin hk (thn (ha pos pins s σ H _ I h) fun us s1 ⟨vs, H1, I1, r, q⟩ => ⟨I1.kIn, ?_⟩) he hpl
  exact run_fn F hr hb hd hx I1 r q
end
section
variable {X : Cx} {CX : CXT} {k : Nat} {f C : Addr} {fd : FuncData} {ps ks : List Str} {sp : Sp} {E : XK} {x m : Str} {p pos apos kpos : Pos} {e o : Expr} {es : List Expr} {kws : List Keyword} {te ta : TE} {t tk : TA} {nm : Option Str}
variable {g : List Value → List Value → List Value} {gV : List V → List V → List V}
end
/-- names: the parameters first -/
structure FnScope (N P : List Str) (sc : Scope) : Prop where
  kind : sc.kind = .function
  co : sc.isCoroutine = false
  gen : sc.isGenerator = false
  nd : N.Nodup
  pre : N.take P.length = P
  par : ∀ x ∈ P, sc.names.lookup x = some .local ∨ sc.names.lookup x = some .cell
  nofree : ∀ y ∈ sc.names, y.2 ≠ .free

theorem bindL_out {kindOf : Str → Option NameKind} {x : Str} : ∀ {binds : List (Str × Value)} {m : Str → Option Value}, (∀ v, (x, v) ∉ binds) → bindL kindOf binds m x = m x
  | [], _, _ => rfl
  | (n, v) :: r, m, h => by
    unfold bindL
    rw [bindL_out fun w hw => h w (List.mem_cons_of_mem _ hw)]
    split
    · have : x ≠ n := by rintro rfl; exact h v List.mem_cons_self
      simp [this]
    · rfl
theorem bindC_out {kindOf : Str → Option NameKind} {x : Str} : ∀ {binds : List (Str × Value)} {m : Str → Option Value}, (∀ v, (x, v) ∉ binds) → bindC kindOf binds m x = m x
  | [], _, _ => rfl
  | (n, v) :: r, m, h => by
    unfold bindC
    rw [bindC_out fun w hw => h w (List.mem_cons_of_mem _ hw)]
    split
    · rfl
    · have : x ≠ n := by rintro rfl; exact h v List.mem_cons_self
      simp [this]
theorem bindL_get {kindOf : Str → Option NameKind} {x : Str} {v : Value} : ∀ {P : List Str} {vs : List Value} {i : Nat} {m : Str → Option Value}, P.Nodup → P[i]? = some x → vs[i]? = some v → kindOf x = some .local →
    bindL kindOf (P.zip vs) m x = some v
  | [], _, _, _, _, h, _, _ => by simp at h
  | _ :: _, [], _, _, _, _, h, _ => by simp at h
  | p :: P, w :: vs, 0, m, nd, h1, h2, hk => by
    simp at h1 h2; subst h1; subst h2
    show bindL kindOf ((p, w) :: P.zip vs) m p = _
    unfold bindL
    rw [bindL_out fun v hv => (List.nodup_cons.mp nd).1 (List.of_mem_zip hv).1, if_pos hk]
    simp
  | p :: P, w :: vs, i + 1, m, nd, h1, h2, hk => by
    show bindL kindOf ((p, w) :: P.zip vs) m x = _
    unfold bindL
    exact bindL_get (i := i) (List.nodup_cons.mp nd).2 (by simpa using h1) (by simpa using h2) hk
theorem bindC_get {kindOf : Str → Option NameKind} {x : Str} {v : Value} : ∀ {P : List Str} {vs : List Value} {i : Nat} {m : Str → Option Value}, P.Nodup → P[i]? = some x → vs[i]? = some v → kindOf x ≠ some .local →
    bindC kindOf (P.zip vs) m x = some v
  | [], _, _, _, _, h, _, _ => by simp at h
  | _ :: _, [], _, _, _, _, h, _ => by simp at h
  | p :: P, w :: vs, 0, m, nd, h1, h2, hk => by
    simp at h1 h2; subst h1; subst h2
    show bindC kindOf ((p, w) :: P.zip vs) m p = _
    unfold bindC
    rw [bindC_out fun v hv => (List.nodup_cons.mp nd).1 (List.of_mem_zip hv).1, if_neg hk]
    simp
  | p :: P, w :: vs, i + 1, m, nd, h1, h2, hk => by
    show bindC kindOf ((p, w) :: P.zip vs) m x = _
    unfold bindC
    exact bindC_get (i := i) (List.nodup_cons.mp nd).2 (by simpa using h1) (by simpa using h2) hk

/-- the names' values at the entry -/
def start (N : List Str) (vs : List V) : St := vs.map some ++ List.replicate (N.length - vs.length) none

/-- the context of a def's body, at its entry; an exception leaves the frame, then lies as CX says -/
def cxOf (CX : CXT) (P : Program) (w : World) (K : PySem.W.Frag) (mg : Str → Option Value) (base : Heap) (N : List Str) (qual : Str) (scope : Scope) (f : Addr) (cd : Value) (A : Around) (outer : List Env) (s : Shared) (H : Hp) (E : XK) : Cx where
  prog := P
  w := w
  K := K
  mg := mg
  base := base
  A := A.deeper (envOfC qual scope s.heap.objs.size f cd)
  N := N
  s₀ := s
  H₀ := H
  env := envOfC qual scope s.heap.objs.size f cd
  outer := outer
  stack := envOfC qual scope s.heap.objs.size f cd :: outer
  ex := []
  calm := true
  fn := fun _ => true
  pn := []
  xe := fun e s' => wpAny (model P w) (A.deeper (envOfC qual scope s.heap.objs.size f cd)) (leaving (envOfC qual scope s.heap.objs.size f cd) e) (fun _ s'' => CX outer H s E e s'') (fun e' s'' => CX outer H s E e' s'') s'

theorem cell_has {sc : Scope} {n : Nat} {x : Str} (h : sc.names.lookup x = some .cell) : ∃ c, (cellsFrom n sc.names []).lookup x = some c := by
  have q := PySem.W.cellsFrom_some sc.names n [] (.inl h)
  exact Option.isSome_iff_exists.mp q

theorem inv_start {CX : CXT} {P : Program} {w : World} {K : PySem.W.Frag} {mg : Str → Option Value} {base : Heap} {N ps : List Str} {qual : Str} {scope : Scope} {f : Addr} {cd : Value} {A : Around} {outer : List Env} {s s1 : Shared} {H : Hp} {E : XK} {us : List Value} {vs : List V}
    (S : FnScope N ps scope) (hd : A.handled = none) (e0 : Env0 P w K mg base A outer s H) (hl : vs.length = ps.length) (r : Vals vs us)
    (x : InCallC s s.heap.objs.size (bindL (envOfC qual scope s.heap.objs.size f cd).kindOf (ps.zip us) fun _ => none) (cellsFrom (s.heap.objs.size + 1) scope.names []) (bindC (envOfC qual scope s.heap.objs.size f cd).kindOf (ps.zip us) fun _ => none) s1) :
    Inv (cxOf CX P w K mg base N qual scope f cd A outer s H E) [] (start N vs) H s1 := by
  have hpl : ps.length ≤ N.length := by have := congrArg List.length S.pre; rw [List.length_take] at this; omega
  obtain ⟨h1, tk, rfl, hk⟩ := x.done
  have noA : ∀ b : Addr, b ∉ (cxOf CX P w K mg base N qual scope f cd A outer s H E).ex := fun b z => absurd (show b ∈ ([] : List Addr) from z) (by simp)
  refine ⟨⟨e0.mod, S.kind, rfl, rfl, Nat.le_refl _, fun y z c h1 h2 => ?_, fun y hy => ?_, fun y c _ h => ?_, fun _ => hd, Around.frames_deeper e0.frames, .inr ⟨rfl, rfl⟩, fun b z => absurd z (noA b), e0.bs, e0.bsz, fun b _ _ => noA b, fun b z => absurd z (noA b), e0.funs, e0.frf⟩,
    rfl, e0.bare, Un.kept hk, ⟨_, x.toInCall.ns, fun i y v h1 h2 h3 => ?_⟩, fun y c h => ⟨_, x.cell y c h⟩, e0.hok.fresh (Nat.le_refl _), fun y c h => ?_, fun p hp => absurd (show p ∈ ([] : List (Addr × Obj)) from hp) (by simp), e0.hok.kept hk, ?_⟩
  · exact name_of_addr x.apart (PySem.mem_of_lookup h1) (PySem.mem_of_lookup h2)
  · have hy : scope.names.lookup y = some .cell ∨ scope.names.lookup y = some .free := hy
    rcases hy with hy | hy
    · exact cell_has hy
    · exact absurd rfl (S.nofree _ (PySem.mem_of_lookup hy))
  · exact Nat.le_of_lt (x.above y c (PySem.mem_of_lookup h))
  · have hi : i < vs.length := by
      unfold start at h2
      by_cases hi : i < vs.length
      · exact hi
      · rw [List.getElem?_append_right (by simpa using hi)] at h2
        rw [List.getElem?_replicate] at h2
        split at h2 <;> cases h2
    have ha : vs[i]? = some v := by
      unfold start at h2
      rw [List.getElem?_append_left (by simpa using hi), List.getElem?_map] at h2
      cases e : vs[i]? with
      | none => rw [e] at h2; cases h2
      | some a => rw [e] at h2; cases h2; rfl
    obtain ⟨u, hu, rv⟩ := r.get ha
    have hp : ps[i]? = some y := by
      rw [← S.pre, List.getElem?_take_of_lt (by omega)]; exact h1
    have ndP : ps.Nodup := by rw [← S.pre]; exact S.nd.sublist (List.take_sublist _ _)
    refine ⟨u, rv, ?_⟩
    rcases S.par y (List.mem_of_getElem? hp) with k | k
    · exact .inl ⟨k, bindL_get ndP hp hu k⟩
    · obtain ⟨c, e⟩ := cell_has (n := s.heap.objs.size + 1) k
      refine .inr ⟨.inl k, c, e, ?_⟩
      have q := x.cell y c e
      rw [bindC_get ndP hp hu (by show scope.names.lookup y ≠ _; rw [k]; decide)] at q
      exact q
  · exact e0.hok.fresh (Nat.le_of_lt (x.above y c (PySem.mem_of_lookup h)))
  · unfold start
    show _ = N.length
    rw [List.length_append, List.length_map, List.length_replicate]
    omega

/-- THE RULE: a def (or a method) of the text, by its body. The body's reading t is chosen for each entry; it is run at the parameters' values -/
theorem fn_of {CX : CXT} {P : Program} {w : World} {K : PySem.W.Frag} {mg : Str → Option Value} {base : Heap} {k : Nat} {f : Addr} {name qual : Str} {params : Arguments} {body : List Stmt} {scope : Scope} {dV kV doc pm cdv ct oc : Value} {an od : Option Addr}
    {osl : Array (Option Value)} {N ps : List Str} {sp : Sp} (lk : K.lookup f = some ⟨oc, od, .func (PySem.W.fnOf name qual params body scope dV kV doc pm an cdv ct), osl⟩) (hcd : PySem.W.codeIn K cdv qual = true) (S : FnScope N ps scope)
    (len : ∀ vs H Q E, sp vs H Q E → vs.length = ps.length)
    (hbody : ∀ (A : Around) (outer : List Env) (s : Shared) (H : Hp) (vs : List V) (Q : VK) (E : XK), Room k (A.deeper (envOfC qual scope s.heap.objs.size f cdv)) → sp vs H Q E →
      ∃ t, PSs (cxOf CX P w K mg base N qual scope f cdv A outer s H E) body t ∧ t { nx := fun _ H' => Q .non H', rt := Q } (start N vs) H) :
    FnOk P w K mg base CX (k + 1) f (PySem.W.fnOf name qual params body scope dV kV doc pm an cdv ct) ps sp := by
  refine ⟨len, fun A outer s H args us vs Q E hr e0 hb r hsp => ?_⟩
  have hl := len _ _ _ _ hsp
  have KX : K.In s.heap := e0.mod.kin.keeps fun b o e => (e0.bs b o e).1
  have lim : s.heap.NoLimit := e0.mod.nolimit.keeps fun b o e => (e0.bs b o e).1
  have hkind : ∀ y ∈ ps.zip us, scope.names.lookup y.1 = some .local ∨ (scope.names.lookup y.1 = some .cell ∧ ((cellsFrom (s.heap.objs.size + 1) scope.names []).lookup y.1).isSome = true) := fun ⟨n, v⟩ hy => by
    rcases S.par n (List.of_mem_zip hy).1 with q | q
    · exact .inl q
    · exact .inr ⟨q, PySem.W.cellsFrom_some _ _ _ (.inl q)⟩
  refine codeAny_call_function hr.depth (KX _ _ lk) rfl S.co S.gen rfl (PySem.W.codeRec_of KX hcd) (hb _ _ _ _ ?_)
  refine wpAny_newFunctionEnv_cells S.kind hkind fun env he s1 x => ?_
  subst he
  refine ⟨lim.keeps x.toInCall.keep, codeAny_func ?_⟩
  obtain ⟨t, ht, hq⟩ := hbody A outer s H vs Q E (hr.deeper _) hsp
  have I : Inv (cxOf CX P w K mg base N qual scope f cdv A outer s H E) [] (start N vs) H s1 := inv_start S hr.hd e0 hl r x
  refine wpAny_mono (ht [] s1 (start N vs) H _ I hq) (fun fl s' hs => ?_) fun e s' hs => hs
  have fin : ∀ {σ' : St} {H' : Hp} {v : V} {u : Value}, Inv (cxOf CX P w K mg base N qual scope f cdv A outer s H E) [] σ' H' s' → RelV v u → Q v H' → CE outer P w H s Q u s' :=
    fun {σ' H' v u} J rv q => ⟨v, H', J.os, J.bare, J.base, J.hok, rv, q⟩
  cases fl with
  | ret u =>
    obtain ⟨v, σ', H', J, rv, q⟩ := hs
    exact fin J rv q
  | next =>
    obtain ⟨σ', H', J, q⟩ := hs
    exact fin (v := V.non) (u := Value.none) J rfl q
  | brk =>
    obtain ⟨_, _, _, q⟩ := hs
    exact False.elim q
  | cont =>
    obtain ⟨_, _, _, q⟩ := hs
    exact False.elim q
end L2
namespace L2
open PySem PySem.Spec PyProof.Rows
section
variable {X : Cx} {x : Str} {p pos : Pos} {e : Expr} {es : List Expr} {t : TA} {id T : String} {r : List V → Hp → VK → Prop}
def tCB (r : List V → Hp → VK → Prop) (t : TA) : TE := fun σ H Q => t σ H fun vs H1 => r vs H1 Q
/-- f(e, ..), f a built-in function -/
theorem pe_callB (hc : CallR X (.builtin id) r) (hg : Gl X x) (hm : X.mg x = none) (hv : bootBuiltins x = some (.builtin id)) (ha : PA X (e :: es) t) (hn : x ≠ "__name__" := by decide) (hdb : (x == ("__debug__" : Str)) = false := by decide)
    (he : starEach (e :: es) X.env = (false, eval e X.env) :: starEach es X.env := by rfl) (hpl : (backTo pos (starEach es X.env)).any (·.1) = false := by rfl) : PE X (.Call (.Name x p) (e :: es) [] pos) (tCB r t) := by
  intro pins s σ H Q I h
  refine wpAny_Call_Name_kw (ld_blt I hg hm hv ?_ hn hdb)
  exact PyProof.Rows.callWith_builtin1 (thn (ha pos pins s σ H _ I h) fun us s1 ⟨vs, H1, I1, r1, q1⟩ => hc pins s1 σ H1 vs us Q I1 r1 q1) he hpl
/-- T(e, ..), T a built-in type -/
theorem pe_callTy (hc : CallR X (.type T) r) (hg : Gl X x) (hm : X.mg x = none) (hv : bootBuiltins x = some (.type T)) (ha : PA X (e :: es) t) (hn : x ≠ "__name__" := by decide) (hdb : (x == ("__debug__" : Str)) = false := by decide)
    (he : starEach (e :: es) X.env = (false, eval e X.env) :: starEach es X.env := by rfl) (hpl : (backTo pos (starEach es X.env)).any (·.1) = false := by rfl) : PE X (.Call (.Name x p) (e :: es) [] pos) (tCB r t) := by
  intro pins s σ H Q I h
  refine wpAny_Call_Name_kw (ld_blt I hg hm hv ?_ hn hdb)
  exact PyProof.Rows.callWith_type1 (thn (ha pos pins s σ H _ I h) fun us s1 ⟨vs, H1, I1, r1, q1⟩ => hc pins s1 σ H1 vs us Q I1 r1 q1) he hpl
end
end L2
namespace HT
open PySem PyProof.Rows
section
open PySem.SeqAt
open PySem.AutoSeq1 (wpAny_loadPart')
open PySem.MeetsSeq PySem.MeetsSeq2 PySem.MeetsSeq3
end
section
variable {prog : Program} {w : World} {A : Around} {E : Value → Shared → Prop} {s : Shared}
/-- t + u, t not empty -/
theorem cat_tup {t b : Addr} {vs ws : List Value} {Q : Value → Shared → Prop} (ht : IsTup s.heap t vs.toArray) (hb : IsTup s.heap b ws.toArray) (hv : vs ≠ [])
    (h1 : ws = [] → Q (.ref t) s) (h2 : ws ≠ [] → Q (.ref s.heap.objs.size) { s with heap := s.heap.push { cls := .type "tuple", data := .seq (vs ++ ws).toArray } })
    (hsz : vs.length + ws.length ≤ sizeLine) : wpAny (model prog w) A (binaryOp .Add (.ref t) (.ref b)) Q E s := by
  obtain ⟨⟨cls, dd, data, sl⟩, ho, hc, n, hd⟩ := id ht
  obtain ⟨⟨cls2, dd2, data2, sl2⟩, ho2, hc2, n2, hd2⟩ := id hb
  simp only at hc hd hc2 hd2
  subst hc hd hc2 hd2
  have e : vs.toArray ++ ws.toArray = (vs ++ ws).toArray := by simp
  by_cases hw : ws = []
  · exact concat_meets ⟨_, ho, rfl⟩ ⟨_, ho2, rfl⟩ noFill_tuple_add seq_tuple_add PySem.F.slot_tuple_add PySem.F.entry_tuple_add (PySem.F.args_tuple_add_2 _ _)
      (tuple_addW1 t b vs.toArray ws.toArray n n2 dd dd2 sl sl2 (by simpa using hv) (by simp [hw])) ⟨ho, ho2, h1 hw⟩
  · refine concat_meets ⟨_, ho, rfl⟩ ⟨_, ho2, rfl⟩ noFill_tuple_add seq_tuple_add PySem.F.slot_tuple_add PySem.F.entry_tuple_add (PySem.F.args_tuple_add_2 _ _)
      (tuple_addW2 t b vs.toArray ws.toArray n n2 dd dd2 sl sl2 (by simpa using hv) (by simpa using hw) (by rw [List.size_toArray, List.size_toArray]; exact hsz)) ⟨ho, ho2, ?_⟩
    rw [e]
    exact h2 hw

/-- a slice's bound as a place among n (d where it is left out) -/
def sIx (n d : Nat) : Option Int → Nat
  | none => d
  | some v => if v < 0 then (v + (n : Int)).toNat else min v.toNat n
theorem sIx_none (n d : Nat) : sIx n d none = d := rfl
theorem sIx_nat (n d k : Nat) : sIx n d (some (k : Int)) = min k n := by
  show (if (k : Int) < 0 then ((k : Int) + (n : Int)).toNat else min (k : Int).toNat n) = min k n
  rw [if_neg (by omega), Int.toNat_natCast]
theorem sIx_le (n d : Nat) (hd : d ≤ n) (o : Option Int) : sIx n d o ≤ n := by
  cases o with
  | none => exact hd
  | some v =>
    show (if v < 0 then (v + (n : Int)).toNat else min v.toNat n) ≤ n
    by_cases hv : v < 0
    · rw [if_pos hv]; omega
    · rw [if_neg hv]; exact Nat.min_le_right _ _
theorem clip_eq (v : Int) (n d : Nat) : (if v < 0 then max (v + (n : Int)) 0 else min v (n : Int)) = ((sIx n d (some v) : Nat) : Int) := by
  show (if v < 0 then max (v + (n : Int)) 0 else min v (n : Int)) = (((if v < 0 then (v + (n : Int)).toNat else min v.toNat n) : Nat) : Int)
  by_cases hv : v < 0
  · simp only [if_pos hv]; omega
  · simp only [if_neg hv]; omega
theorem adjust_gen (lo hi : Option Int) (n : Nat) : Builtin.Slice.sliceAdjust lo hi 1 (n : Int) = (((sIx n 0 lo : Nat) : Int), ((sIx n n hi : Nat) : Int)) := by
  have h1 : ¬ ((1 : Int) < 0) := by decide
  unfold Builtin.Slice.sliceAdjust
  simp only [h1, if_false]
  refine Prod.ext ?_ ?_
  · cases lo with
    | none => rfl
    | some v => exact clip_eq v n 0
  · cases hi with
    | none => rfl
    | some v => exact clip_eq v n n
theorem places_gen (i j : Nat) : Builtin.Slice.slicePlaces (i : Int) (j : Int) 1 = j - i := by
  unfold Builtin.Slice.slicePlaces
  have h1 : (1 : Int) > 0 := by decide
  simp only [h1, if_true, Int.ediv_one]
  split <;> omega
theorem slicePart_ {v : Value} {o : Option Int} {Q : Option Int → Shared → Prop} (p : IsPart v o) (h : Q o s) : wpAny (model prog w) A (Builtin.Slice.slicePartIndex v) Q E s := by
  cases p with
  | none => exact slicePart_none h
  | int i t => exact slicePart_int h
theorem sliceApplied_gen {sl : Addr} {vl vu : Value} {lo hi : Option Int} {n : Nat} {Q : Int × Int × Nat → Shared → Prop} (hs : s.heap.IsSliceOf sl vl vu .none) (pl : IsPart vl lo) (pu : IsPart vu hi)
    (h : Q (((sIx n 0 lo : Nat) : Int), 1, sIx n n hi - sIx n 0 lo) s) : wpAny (model prog w) A (Builtin.Slice.sliceApplied (.ref sl) (pure (n : Int))) Q E s := by
  obtain ⟨os, hos, hcs, hds⟩ := id hs
  unfold Builtin.Slice.sliceApplied Builtin.Slice.sliceFields
  refine wpAny_bind (wpAny_bind (wpAny_field hos hds (x := vl) rfl (wpAny_bind (wpAny_field hos hds (x := vu) rfl (wpAny_bind (wpAny_field hos hds (x := .none) rfl (wpAny_pure ?_)))))))
  refine wpAny_bind (slicePart_none ?_)
  show wpAny _ _ (if ((1 : Int) == 0) = true then _ else _) _ _ s
  rw [if_neg (by decide)]
  refine wpAny_bind (slicePart_ pl (wpAny_bind (slicePart_ pu (wpAny_bind (wpAny_pure ?_)))))
  show wpAny _ _ (match Builtin.Slice.sliceAdjust lo hi 1 (n : Int) with | (lo, hi) => pure (lo, (1 : Int), Builtin.Slice.slicePlaces lo hi 1)) _ _ s
  rw [adjust_gen lo hi n]
  show wpAny _ _ (pure (((sIx n 0 lo : Nat) : Int), (1 : Int), Builtin.Slice.slicePlaces ((sIx n 0 lo : Nat) : Int) ((sIx n n hi : Nat) : Int) 1)) _ _ s
  rw [places_gen]
  exact wpAny_pure h
theorem pick_gen (xs : Array Value) (i k : Nat) : ((List.range k).filterMap fun (m : Nat) => xs[((i : Int) + (m : Int) * 1).toNat]?).toArray = ((xs.toList.drop i).take k).toArray := by
  have e : (fun (m : Nat) => xs[((i : Int) + (m : Int) * 1).toNat]?) = fun m => xs[i + m]? := by
    funext m
    have : ((i : Int) + (m : Int) * 1).toNat = i + m := by omega
    rw [this]
  rw [e]
  have := pick_run xs i k
  rw [List.filterMap_map] at this
  have e2 : ((fun x => xs[x]?) ∘ fun x => i + x) = fun m => xs[i + m]? := rfl
  rw [e2] at this
  rw [this]

theorem getItem_tuple_cut {t sl : Addr} {items : Array Value} {vl vu : Value} {lo hi : Option Int} {Q : Value → Shared → Prop} (ht : IsTup s.heap t items) (hs : s.heap.IsSliceOf sl vl vu .none) (pl : IsPart vl lo) (pu : IsPart vu hi)
    (hw : ¬ (sIx items.size 0 lo = 0 ∧ sIx items.size items.size hi = items.size))
    (h : Q (.ref s.heap.objs.size) { s with heap := s.heap.push { cls := .type "tuple", data := .seq ((items.toList.drop (sIx items.size 0 lo)).take (sIx items.size items.size hi - sIx items.size 0 lo)).toArray } })
    (hsz : items.size ≤ sizeLine) : wpAny (model prog w) A (getItem (.ref t) (.ref sl)) Q E s := by
  have htake : sizeOk (.seq ((items.toList.drop (sIx items.size 0 lo)).take (sIx items.size items.size hi - sIx items.size 0 lo)).toArray) := by
    show ((items.toList.drop (sIx items.size 0 lo)).take (sIx items.size items.size hi - sIx items.size 0 lo)).toArray.size ≤ sizeLine
    rw [List.size_toArray, List.length_take, List.length_drop, Array.length_toList]
    omega
  have hj : sIx items.size items.size hi ≤ items.size := sIx_le _ _ (Nat.le_refl _) hi
  obtain ⟨os, hos, hcs, hds⟩ := id hs
  have hTs : s.TypeIs (.ref sl) "slice" := ⟨os, hos, hcs⟩
  unfold getItem
  try with_reducible refine wpAny_holding ?_
  first | refine wpAny_bind (wpAny_pure ?_) | skip
  refine wpAny_bind (wpAny_sequenceKey ht.typeIs (by decide) ?_)
  refine wpAny_bind (wpAny_callSpecial?_slot (name := Str.ofString "__getitem__") ht.typeIs PyProof.Rows.slot_tuple_getitem
    (wpAny_call_entry PyProof.Rows.slot_tuple_getitem ht.typeIs entry_tuple_getitem ?_ (args_tuple_getitem _ _)))
  show wpAny _ _ (Builtin.Tuple.tupleItemsOf (.ref t) >>= _) _ _ s
  refine wpAny_bind (tupleItemsOf_ ht ?_)
  refine wpAny_bind (wpAny_typeOf hTs ?_)
  rw [if_pos (by decide)]
  refine wpAny_bind (sliceApplied_gen hs pl pu ?_)
  have hno : ¬ ((((sIx items.size 0 lo : Nat) : Int) == 0 && (1 : Int) == 1 && (sIx items.size items.size hi - sIx items.size 0 lo) == items.size) = true) := by
    intro q
    rw [Bool.and_eq_true, Bool.and_eq_true] at q
    have q1 : ((sIx items.size 0 lo : Nat) : Int) = 0 := eq_of_beq q.1.1
    have q2 : sIx items.size items.size hi - sIx items.size 0 lo = items.size := eq_of_beq q.2
    exact hw ⟨by omega, by omega⟩
  show wpAny _ _ (if (((sIx items.size 0 lo : Nat) : Int) == 0 && (1 : Int) == 1 && (sIx items.size items.size hi - sIx items.size 0 lo) == items.size) = true then _ else _) _ _ s
  rw [if_neg hno, pick_gen]
  first
    | exact wpAny_bind (m := Builtin.Tuple.tupleExact _) (wpAny_newObj_type (wpAny_pure ⟨_, rfl, wpAny_pure h⟩) htake)
    | exact wpAny_bind (m := Builtin.Tuple.tupleExact _) (wpAny_newObj_type (wpAny_bind (wpAny_pure (wpAny_pure ⟨_, rfl, wpAny_pure h⟩))) htake)
    | exact wpAny_bind (wpAny_bind (m := Builtin.Tuple.tupleExact _) (wpAny_newObj_type (wpAny_pure (wpAny_pure ⟨_, rfl, wpAny_pure h⟩)) htake))
    | exact wpAny_bind (wpAny_bind (m := Builtin.Tuple.tupleExact _) (wpAny_newObj_type (wpAny_pure ⟨_, rfl, wpAny_pure h⟩) htake))
end
end HT
namespace L2
open PySem PySem.Spec PyProof.Rows
abbrev TO := St → Hp → (Option Int → Hp → Prop) → Prop
/-- a slice's part (left out, or an int) -/
def PO (X : Cx) (e : Option Expr) (t : TO) : Prop :=
  ∀ (pins : List (Addr × Obj)) (s : Shared) (σ : St) (H : Hp) (Q : Option Int → Hp → Prop), Inv X pins σ H s → t σ H Q →
    wpAny (model X.prog X.w) X.A (evalPart e X.env) (fun u s' => ∃ o H', Inv X pins σ H' s' ∧ IsPart u o ∧ Q o H') X.xe s
def tNoPart : TO := fun _ H Q => Q none H
def tPart (t : TE) : TO := fun σ H Q => t σ H fun x H1 => ∃ i, x = .int i ∧ Q (some i) H1

theorem intsAre_of {ns : List Int} : ∀ {us : List Value}, Vals (ns.map V.int) us → IntsAre us ns := by
  induction ns with
  | nil => intro us r; rw [List.map_nil] at r; cases r; exact .nil
  | cons n ns ih =>
    intro us r
    rw [List.map_cons] at r
    cases r with
    | cons r1 r2 =>
      obtain ⟨t, e⟩ := r1
      subst e
      exact .cons n t (ih r2)

section
variable {X : Cx} {e : Expr} {te : TE} {lo hi : Option Expr} {tl th : TO} {pos p2 : Pos}
theorem po_none : PO X none tNoPart := by
  intro pins s σ H Q I h
  rw [evalPart_none]
  exact wpAny_pure ⟨none, H, I, .none, h⟩
theorem po_some (h : PE X e te) : PO X (some e) (tPart te) := by
  intro pins s σ H Q I hw
  rw [evalPart_some]
  refine thn (h pins s σ H _ I hw) fun u s1 ⟨x, H1, I1, r1, q1⟩ => ?_
  obtain ⟨i, rfl, q⟩ := q1
  obtain ⟨t, rfl⟩ := r1
  exact ⟨some i, H1, I1, .int i t, q⟩

/-- what a slice of a value is, by values: the slice object stands at sl -/
def SlR (X : Cx) (r : V → Option Int → Option Int → Hp → VK → Prop) : Prop :=
  ∀ (pins : List (Addr × Obj)) (s : Shared) (σ : St) (H : Hp) (x : V) (v vl vu : Value) (lo hi : Option Int) (sl : Addr) (Q : VK), Inv X pins σ H s → RelV x v → s.heap.IsSliceOf sl vl vu .none → IsPart vl lo → IsPart vu hi → r x lo hi H Q →
    ∃ T id, typeLookup (.type T) "__getitem__" = pure (some (.builtin id)) ∧ s.TypeIs v T ∧ wpAny (model X.prog X.w) X.A (getItem v (.ref sl)) (EP X pins σ Q) X.xe s
def tSl (r : V → Option Int → Option Int → Hp → VK → Prop) (te : TE) (tl th : TO) : TE := fun σ H Q => te σ H fun x H1 => tl σ H1 fun l H2 => th σ H2 fun u H3 => r x l u H3 Q
/-- a[lo:hi], any a -/
theorem pe_slice {r : V → Option Int → Option Int → Hp → VK → Prop} (hr : SlR X r) (he : PE X e te) (hl : PO X lo tl) (hu : PO X hi th) : PE X (.Subscript e (.Slice lo hi none p2) pos) (tSl r te tl th) := by
  intro pins s σ H Q I h
  refine Subscript_ (thn (he pins s σ H _ I h) fun v s1 ⟨x, H1, I1, r1, q1⟩ => ?_)
  refine wpAny_Slice (thn (hl pins s1 σ H1 _ I1 q1) fun vl s2 ⟨l, H2, I2, pl, q2⟩ => thn (hu pins s2 σ H2 _ I2 q2) fun vu s3 ⟨u, H3, I3, pu, q3⟩ => ?_)
  rw [evalPart_none]
  refine wpAny_pure ?_
  have I4 : Inv X pins σ H3 { s3 with heap := s3.heap.push { cls := .type "slice", data := .fields #[vl, vu, .none] } } := I3.kept (t' := s3.toks) fun b ob q => Heap.get?_push_of_some _ q
  obtain ⟨T, id, hT, ht, hg⟩ := hr pins { s3 with heap := s3.heap.push { cls := .type "slice", data := .fields #[vl, vu, .none] } } σ H3 x v vl vu l u s3.heap.objs.size Q I4 r1 (Heap.IsSliceOf.new ..) pl pu q3
  show wpAny (model X.prog X.w) X.A (subscriptTail e (.Slice lo hi none p2) v (.ref s3.heap.objs.size)) (EP X pins σ Q) X.xe { s3 with heap := s3.heap.push { cls := .type "slice", data := .fields #[vl, vu, .none] } }
  exact tail_any (ops := [.ref s3.heap.objs.size, v]) ht hT hg (by with_unfolding_all rfl)

/-- the items of xs[lo:hi] -/
def cutV (xs : List V) (lo hi : Option Int) : List V := (xs.drop (HT.sIx xs.length 0 lo)).take (HT.sIx xs.length xs.length hi - HT.sIx xs.length 0 lo)
theorem cutV_length (xs : List V) (lo hi : Option Int) : (cutV xs lo hi).length ≤ xs.length := by
  unfold cutV
  rw [List.length_take, List.length_drop]
  omega
/-- t[lo:hi], not the whole of it (the whole would be t itself) -/
def rSlT (K : PySem.W.Frag) : V → Option Int → Option Int → Hp → VK → Prop := fun x lo hi H Q => ∃ a xs, x = .ref a ∧ SqT K H a xs ∧
  ¬ (HT.sIx xs.length 0 lo = 0 ∧ HT.sIx xs.length xs.length hi = xs.length) ∧ ∀ p, H p = none → Q (.ref p) (upd H p (.tup (cutV xs lo hi)))
theorem sl_tup : SlR X (rSlT X.K) := by
  intro pins s σ H x v vl vu lo hi sl Q I rx hs pl pu h
  obtain ⟨a, xs, rfl, hx, hw, q⟩ := h
  cases rx
  obtain ⟨its, r, ht, hz⟩ := I.tuple hx
  have hlen : its.toArray.size = xs.length := by rw [List.size_toArray]; exact r.length.symm
  refine ⟨"tuple", _, PyProof.Rows.slot_tuple_getitem.lookup, ht.typeIs, ?_⟩
  refine HT.getItem_tuple_cut ht hs pl pu (by rw [hlen]; exact hw) ?_ (by rw [hlen]; exact hz)
  rw [hlen]
  refine ⟨.ref s.heap.objs.size, _, I.laid (t' := s.toks) (o := .tup (cutV xs lo hi)) (fun b ob q => Heap.get?_push_of_some _ q) (Nat.le_refl _) ?_, rfl, q _ (I.hok.fresh (Nat.le_refl _))⟩
  exact ⟨Nat.le_trans (cutV_length xs lo hi) hz, _, (r.drop (HT.sIx xs.length 0 lo)).take (HT.sIx xs.length xs.length hi - HT.sIx xs.length 0 lo), IsTupN.new _ _⟩

theorem Vals.nil_iff {xs : List V} {us : List Value} (r : Vals xs us) : us = [] ↔ xs = [] := by
  cases r with
  | nil => simp
  | cons _ _ => simp
end
end L2
namespace L2
open PySem PySem.Spec PyProof.Rows
/-- the place that an index of any sign means -/
def ixN (n : Nat) (i : Int) : Option Nat := if 0 ≤ i then (if i < n then some i.toNat else none) else if -(n : Int) ≤ i then some (i + n).toNat else none
def atI {α : Type} (xs : List α) (i : Int) : Option α := (ixN xs.length i).bind fun j => xs[j]?
theorem ixN_seq {n : Nat} {i : Int} {j : Nat} (h : ixN n i = some j) : seqIndex? i n = some j ∧ j < n ∧ -(n : Int) ≤ i ∧ i < n := by
  unfold ixN at h
  by_cases h0 : 0 ≤ i
  · rw [if_pos h0] at h
    by_cases h1 : i < n
    · rw [if_pos h1] at h
      have e : i.toNat = j := Option.some.inj h
      exact ⟨by rw [seqIndex_of h0 h1, e], by omega, by omega, h1⟩
    · rw [if_neg h1] at h; cases h
  · rw [if_neg h0] at h
    by_cases h1 : -(n : Int) ≤ i
    · rw [if_pos h1] at h
      have e : (i + n).toNat = j := Option.some.inj h
      exact ⟨by rw [seqIndex_neg (by omega) h1, e], by omega, h1, by omega⟩
    · rw [if_neg h1] at h; cases h
theorem atI_get {α : Type} {xs : List α} {i : Int} {v : α} (h : atI xs i = some v) : ∃ j, seqIndex? i xs.length = some j ∧ xs[j]? = some v ∧ j < xs.length ∧ -(xs.length : Int) ≤ i ∧ i < xs.length := by
  unfold atI at h
  cases e : ixN xs.length i with
  | none => rw [e] at h; cases h
  | some j =>
    rw [e] at h
    obtain ⟨h1, h2, h3, h4⟩ := ixN_seq e
    exact ⟨j, h1, h, h2, h3, h4⟩
theorem atI_nat {α : Type} {xs : List α} {j : Nat} {v : α} (h : xs[j]? = some v) : atI xs (j : Int) = some v := by
  have hj : j < xs.length := (List.getElem?_eq_some_iff.mp h).1
  have e : ixN xs.length (j : Int) = some j := by
    unfold ixN
    rw [if_pos (by exact Int.natCast_nonneg _), if_pos (by omega)]; simp
  unfold atI; rw [e]; exact h
theorem atI_last {α : Type} (xs : List α) (v : α) : atI (xs ++ [v]) (-1) = some v := by
  have hl : (xs ++ [v]).length = xs.length + 1 := by simp
  have e : ixN (xs ++ [v]).length (-1) = some xs.length := by
    unfold ixN
    rw [hl, if_neg (by decide), if_pos (by omega)]
    congr 1
    omega
  unfold atI
  rw [e]
  show (xs ++ [v])[xs.length]? = some v
  simp

/-- what stands as an index of a plain subscript -/
def PlainIx (b : Expr) : Prop := ∀ o i, subscripted b false o i = operate [o, i] (getItem o i)
/-- a subscript by values -/
def IxR (X : Cx) (r : R2) : Prop :=
  ∀ (value slice : Expr) (pins : List (Addr × Obj)) (s : Shared) (σ : St) (H : Hp) (x y : V) (v u : Value) (Q : VK), Inv X pins σ H s → RelV x v → RelV y u → r x y H Q →
    subscripted slice false v u = operate [v, u] (getItem v u) → wpAny (model X.prog X.w) X.A (subscriptTail value slice v u) (EP X pins σ Q) X.xe s
/-- a call of a builtin's method by values: the receiver, the arguments -/
def MtR (X : Cx) (id : String) (r : V → List V → Hp → VK → Prop) : Prop :=
  ∀ (pins : List (Addr × Obj)) (s : Shared) (σ : St) (H : Hp) (x : V) (xs : List V) (v : Value) (us : List Value) (Q : VK), Inv X pins σ H s → RelV x v → Vals xs us → r x xs H Q →
    wpAny (model X.prog X.w) X.A (call (.builtin id) (v :: us)) (EP X pins σ Q) X.xe s
section
variable {X : Cx} {a b : Expr} {ta tb : TE} {pos : Pos}
/-- a[b] -/
theorem pe_ix {r : R2} (hr : IxR X r) (ha : PE X a ta) (hb : PE X b tb) (hs : PlainIx b) : PE X (.Subscript a b pos) (tOp r ta tb) := by
  intro pins s σ H Q I h
  exact Subscript_ (binT ha hb I h fun v u s2 x y H2 I2 rx ry q => hr a b pins s2 σ H2 x y v u Q I2 rx ry q (hs _ _))

def rIxL (K : PySem.W.Frag) : R2 := fun x y H Q => ∃ p xs i v, x = .ref p ∧ y = .int i ∧ SqL K H p xs ∧ atI xs i = some v ∧ Q v H
def rIxT (K : PySem.W.Frag) : R2 := fun x y H Q => ∃ p xs i v, x = .ref p ∧ y = .int i ∧ SqT K H p xs ∧ atI xs i = some v ∧ Q v H
def rIxS : R2 := fun x y H Q => ∃ z i c, x = .str z ∧ y = .int i ∧ z.length ≤ sizeLine ∧ atI z.cps.toList i = some c ∧ Q (.str ⟨#[c]⟩) H
theorem ix_list : IxR X (rIxL X.K) := by
  intro value slice pins s σ H x y v u Q I rx ry h hs
  obtain ⟨p, xs, i, z, rfl, rfl, hq, he, q⟩ := h
  cases rx
  obtain ⟨t, rfl⟩ := ry
  obtain ⟨its, r, pl, hz⟩ := I.list hq
  obtain ⟨j, h1, h2, h3, h4, h5⟩ := atI_get he
  obtain ⟨w, ew, rw'⟩ := r.get h2
  have hl := r.length
  have hn := line63
  have fin : EP X pins σ Q w s := ⟨z, H, I, rw', q⟩
  by_cases h0 : 0 ≤ i
  · have hj : i.toNat = j := by
      rw [seqIndex_of h0 h5] at h1
      exact Option.some.inj h1
    exact item_listR pl.isList h0 (by omega) (by rw [hj]; simpa using ew) fin hs
  · have hj : (i + (its.toArray.size : Int)).toNat = j := by
      rw [seqIndex_neg (by omega) h4] at h1
      rw [List.size_toArray, ← hl]
      exact Option.some.inj h1
    exact subscriptTail_builtinR (x := w) pl.isList.typeIs slot_list_getitem.lookup
      (wpAny_getItem_list_neg (Q := fun r s' => r = w ∧ EP X pins σ Q r s') pl.isList (by omega) (by rw [List.size_toArray] <;> omega) (by omega) (by rw [hj]; simpa using ew) ⟨rfl, fin⟩) hs
theorem ix_tup : IxR X (rIxT X.K) := by
  intro value slice pins s σ H x y v u Q I rx ry h hs
  obtain ⟨p, xs, i, z, rfl, rfl, hq, he, q⟩ := h
  cases rx
  obtain ⟨t, rfl⟩ := ry
  obtain ⟨its, r, pl, hz⟩ := I.tuple hq
  obtain ⟨j, h1, h2, h3, h4, h5⟩ := atI_get he
  obtain ⟨w, ew, rw'⟩ := r.get h2
  have hl := r.length
  have hn := line63
  have fin : EP X pins σ Q w s := ⟨z, H, I, rw', q⟩
  exact subscriptTail_builtinR (x := w) pl.typeIs slot_tuple_getitem.lookup
    (getItem_tuple (j := j) (Q := fun r s' => r = w ∧ EP X pins σ Q r s') pl (by omega) (by omega) (by rw [List.size_toArray, ← hl]; exact h1) (by simpa using ew) ⟨rfl, fin⟩) hs
theorem ix_str : IxR X rIxS := by
  intro value slice pins s σ H x y v u Q I rx ry h hs
  obtain ⟨z, i, c, rfl, rfl, hz, he, q⟩ := h
  obtain ⟨t, rfl⟩ := rx
  obtain ⟨t', rfl⟩ := ry
  obtain ⟨j, h1, h2, h3, h4, h5⟩ := atI_get he
  have hl : z.cps.toList.length = z.length := by simp [Str.length]
  rw [hl] at h1 h4 h5
  have hn := line63
  exact tail_any (typeIs_str s z t) slot_str_getitem.lookup (getItem_str (c := c) (by
    have e1 : decide (i < -(2 ^ 63 : Int)) = false := decide_eq_false (by omega)
    have e2 : decide (i ≥ 2 ^ 63) = false := decide_eq_false (by omega)
    rw [e1, e2, Bool.or_false]) (by rw [h1]; simpa using h2) ⟨.str ⟨#[c]⟩, H, I.tok _, ⟨_, rfl⟩, q⟩) hs
/-- the list's object behind a store -/
theorem mapSeq_set (its : List Value) (n j : Nat) (u : Value) : Obj.mapSeq (·.setIfInBounds j u) { cls := .type "list", data := .seq its.toArray n } = { cls := .type "list", data := .seq (its.set j u).toArray n } := by
  simp [Obj.mapSeq]
theorem Inv.lst {pins : List (Addr × Obj)} {σ : St} {H : Hp} {s : Shared} {p : Addr} {xs : List V} (I : Inv X pins σ H s) (h : H p = some (.lst xs)) :
    ∃ (its : List Value) (n : Nat), Vals xs its ∧ s.heap.get? p = some { cls := .type "list", data := .seq its.toArray n } ∧ xs.length ≤ sizeLine := by
  obtain ⟨z, its, n, r, e⟩ := I.hok p _ h
  exact ⟨its, n, r, e, z⟩
/-- the list at p is written by an update of its object -/
theorem Inv.lstUpd {pins : List (Addr × Obj)} {σ : St} {H : Hp} {s : Shared} {p : Addr} {xs ys : List V} {its its' : List Value} {n n' : Nat} {f : Obj → Obj} (I : Inv X pins σ H s) (h : H p = some (.lst xs))
    (ho : s.heap.get? p = some { cls := .type "list", data := .seq its.toArray n }) (hf : f { cls := .type "list", data := .seq its.toArray n } = { cls := .type "list", data := .seq its'.toArray n' }) (r : Vals ys its') (hz : ys.length ≤ sizeLine) (t : Nat) :
    Inv X pins σ (upd H p (.lst ys)) { s with heap := s.heap.update p f, toks := t } := by
  have e : (s.heap.update p f).get? p = some { cls := .type "list", data := .seq its'.toArray n' } := by
    rw [Heap.get?_update_self f ho (by rw [hf] <;> rfl), hf]
  refine I.write (x := p) (e := p) (by rw [h]; trivial) (.inl rfl) (fun b u hb q => (Heap.get?_update_other _ _ (Ne.symm hb)).trans q) ⟨_, e⟩ ?_
  exact ⟨hz, its', n', r, e⟩
def rSetL : V → V → V → Hp → (Hp → Prop) → Prop := fun o i v H Q => ∃ p xs k j, o = .ref p ∧ i = .int k ∧ H p = some (.lst xs) ∧ ixN xs.length k = some j ∧ Q (upd H p (.lst (xs.set j v)))
theorem set_list : PSet X rSetL := by
  intro pins s σ H o i v ov iv u Q I ro ri rv h
  obtain ⟨p, xs, k, j, rfl, rfl, hp, hj, q⟩ := h
  cases ro
  obtain ⟨t, rfl⟩ := ri
  obtain ⟨its, n, r, ho, hz⟩ := I.lst hp
  obtain ⟨h1, h2, h3, h4⟩ := ixN_seq hj
  have hl := r.length
  have hn := line63
  have I' : Inv X pins σ (upd H p (.lst (xs.set j v))) { s with heap := s.heap.update p (Obj.mapSeq (·.setIfInBounds j u)) } :=
    I.lstUpd hp ho (mapSeq_set its n j u) (r.set rv j) (by rw [List.length_set]; exact hz) s.toks
  by_cases h0 : 0 ≤ k
  · have hk : k.toNat = j := by
      rw [seqIndex_of h0 h4] at h1
      exact Option.some.inj h1
    exact PySem.W.ki_setAt ho h0 (by omega) (by rw [List.size_toArray, ← hl]; exact h4) (by rw [hk]; exact ⟨_, I', q⟩)
  · have hk : (k + (its.toArray.size : Int)).toNat = j := by
      rw [seqIndex_neg (by omega) h3] at h1
      rw [List.size_toArray, ← hl]
      exact Option.some.inj h1
    exact PySem.W.ki_setBack ho (by omega) (by rw [List.size_toArray, ← hl]; exact h3) (by omega) (by rw [hk]; exact ⟨_, I', q⟩)

theorem slice_bounds (lo hi : Option Int) (n : Nat) : (sliceBounds lo hi none n).1 = ((HT.sIx n 0 lo : Nat) : Int) ∧ (sliceBounds lo hi none n).2.1 = ((HT.sIx n n hi : Nat) : Int) ∧ (sliceBounds lo hi none n).2.2 = 1 := by
  refine ⟨?_, ?_, rfl⟩
  · cases lo with
    | none => simp [sliceBounds, HT.sIx]
    | some i =>
      simp only [sliceBounds, HT.sIx, Option.getD_none, show (1 : Int) > 0 by decide, if_true]
      by_cases h : i < 0
      · simp only [h, if_true] <;> omega
      · simp only [h, if_false] <;> omega
  · cases hi with
    | none => simp [sliceBounds, HT.sIx]
    | some i =>
      simp only [sliceBounds, HT.sIx, Option.getD_none, show (1 : Int) > 0 by decide, if_true]
      by_cases h : i < 0
      · simp only [h, if_true] <;> omega
      · simp only [h, if_false] <;> omega
theorem slicePick_cut (its : List Value) (lo hi : Option Int) : slicePick its.toArray lo hi none = ((its.drop (HT.sIx its.length 0 lo)).take (HT.sIx its.length its.length hi - HT.sIx its.length 0 lo)).toArray := by
  obtain ⟨h1, h2, h3⟩ := slice_bounds lo hi its.toArray.size
  unfold slicePick
  rw [h1, h2, h3]
  simp only [sliceRange_one, pick_run, List.size_toArray] <;> rfl
/-- xs[lo:hi] of a list: a new list -/
def rSlL (K : PySem.W.Frag) : V → Option Int → Option Int → Hp → VK → Prop := fun x lo hi H Q => ∃ a xs, x = .ref a ∧ SqL K H a xs ∧ ∀ p, H p = none → Q (.ref p) (upd H p (.lst (cutV xs lo hi)))
theorem sl_list : SlR X (rSlL X.K) := by
  intro pins s σ H x v vl vu lo hi sl Q I rx hs pl pu h
  obtain ⟨a, xs, rfl, hx, q⟩ := h
  cases rx
  obtain ⟨its, r, ht, hz⟩ := I.list hx
  have hlen := r.length
  refine ⟨"list", _, slot_list_getitem.lookup, ht.isList.typeIs, ?_⟩
  refine wpAny_getItem_list_slice ht.isList hs pl pu .none (by simp) ?_ (by rw [List.size_toArray] <;> omega)
  rw [slicePick_cut, ← hlen]
  refine ⟨.ref s.heap.objs.size, _, I.laid (t' := s.toks) (o := .lst (cutV xs lo hi)) (fun b ob q => Heap.get?_push_of_some _ q) (Nat.le_refl _) ?_, rfl, q _ (I.hok.fresh (Nat.le_refl _))⟩
  exact ⟨Nat.le_trans (cutV_length xs lo hi) hz, _, 0, (r.drop (HT.sIx xs.length 0 lo)).take (HT.sIx xs.length xs.length hi - HT.sIx xs.length 0 lo), Heap.get?_push_size _ rfl⟩

def flatV : V → Bool
  | .non => true
  | .bl _ => true
  | .int _ => true
  | .str _ => true
  | _ => false
/-- == of flat values -/
def eqV : V → V → Bool
  | .non, .non => true
  | .bl a, .bl b => a == b
  | .bl a, .int b => (if a then 1 else 0) == b
  | .int a, .bl b => a == (if b then 1 else 0)
  | .int a, .int b => a == b
  | .str a, .str b => a == b
  | _, _ => false
theorem eqAt_V {A : Around} {s : Shared} {y x : V} {u v : Value} (ry : RelV y u) (rx : RelV x v) (fy : flatV y = true) (fx : flatV x = true) : SeqAt.EqAt A s u v (eqV y x) := by
  cases y with
  | non =>
    cases ry
    cases x with
    | non => cases rx; exact SeqAt.EqAt.same _
    | bl b => cases rx; exact SeqAt.EqAt.none_bool b
    | int b => obtain ⟨t, rfl⟩ := rx; exact SeqAt.EqAt.none_int b t
    | str b => obtain ⟨t, rfl⟩ := rx; exact SeqAt.EqAt.none_str b t
    | _ => exact absurd (show false = true from fx) Bool.false_ne_true
  | bl a =>
    cases ry
    cases x with
    | non => cases rx; exact SeqAt.EqAt.bool_none a
    | bl b => cases rx; exact SeqAt.EqAt.bool_bool a b
    | int b => obtain ⟨t, rfl⟩ := rx; exact SeqAt.EqAt.bool_int a b t
    | str b => obtain ⟨t, rfl⟩ := rx; exact SeqAt.EqAt.bool_str a b t
    | _ => exact absurd (show false = true from fx) Bool.false_ne_true
  | int a =>
    obtain ⟨t', rfl⟩ := ry
    cases x with
    | non => cases rx; exact SeqAt.EqAt.int_none a t'
    | bl b => cases rx; exact SeqAt.EqAt.int_bool a t' b
    | int b => obtain ⟨t, rfl⟩ := rx; exact SeqAt.EqAt.int_int a t' b t
    | str b => obtain ⟨t, rfl⟩ := rx; exact SeqAt.EqAt.int_str a t' b t
    | _ => exact absurd (show false = true from fx) Bool.false_ne_true
  | str a =>
    obtain ⟨t', rfl⟩ := ry
    cases x with
    | non => cases rx; exact SeqAt.EqAt.str_none a t'
    | bl b => cases rx; exact SeqAt.EqAt.str_bool a t' b
    | int b => obtain ⟨t, rfl⟩ := rx; exact SeqAt.EqAt.str_int a t' b t
    | str b => obtain ⟨t, rfl⟩ := rx; exact SeqAt.EqAt.str_str a t' b t
    | _ => exact absurd (show false = true from fx) Bool.false_ne_true
  | _ => exact absurd (show false = true from fy) Bool.false_ne_true
/-- the items' answers, read off the values (a value's own answer does not lean on its token) -/
def eqU (x : V) (u : Value) : Bool := match u with
  | .none => eqV .non x
  | .bool b => eqV (.bl b) x
  | .int i _ => eqV (.int i) x
  | .str z _ => eqV (.str z) x
  | _ => false
theorem eqU_of {x y : V} {u : Value} (r : RelV y u) (f : flatV y = true) : eqU x u = eqV y x := by
  cases y with
  | non => cases r; rfl
  | bl b => cases r; rfl
  | int i => obtain ⟨t, rfl⟩ := r; rfl
  | str z => obtain ⟨t, rfl⟩ := r; rfl
  | _ => exact absurd (show false = true from f) Bool.false_ne_true
theorem any_eqU {x : V} : ∀ {xs : List V} {us : List Value}, Vals xs us → xs.all flatV = true → us.any (eqU x) = xs.any fun y => eqV y x
  | _, _, .nil, _ => rfl
  | y :: xs, u :: us, .cons r t, f => by
    rw [List.all_cons, Bool.and_eq_true] at f
    rw [List.any_cons, List.any_cons, eqU_of r f.1, any_eqU t f.2]
theorem mem_eqAt {A : Around} {s : Shared} {x : V} {v : Value} (rx : RelV x v) (fx : flatV x = true) : ∀ {xs : List V} {us : List Value}, Vals xs us → xs.all flatV = true → ∀ u ∈ us, SeqAt.EqAt A s u v (eqU x u)
  | _, _, .nil, _ => fun u hu => by cases hu
  | y :: xs, u :: us, .cons r t, f => fun u' hu => by
    rw [List.all_cons, Bool.and_eq_true] at f
    rcases List.mem_cons.mp hu with rfl | hu
    · rw [eqU_of r f.1]; exact eqAt_V r rx f.1 fx
    · exact mem_eqAt rx fx t f.2 u' hu
def inV (x : V) (xs : List V) : Bool := xs.any fun y => eqV y x
/-- x in a list or tuple of flat items -/
def rIn (K : PySem.W.Frag) (neg : Bool) : R2 := fun x y H Q => ∃ p xs, y = .ref p ∧ (SqL K H p xs ∨ SqT K H p xs) ∧ flatV x = true ∧ xs.all flatV = true ∧ Q (.bl (if neg then !inV x xs else inV x xs)) H
theorem op_in_seq : OpR X (compareOp .In) (rIn X.K false) := by
  intro pins s σ H x y v u Q I rx ry h
  obtain ⟨p, xs, rfl, hq, fx, fs, q⟩ := h
  cases ry
  rcases hq with hq | hq
  · obtain ⟨its, r, pl, hz⟩ := I.list hq
    refine SeqAt.in_listAt (eqU x) pl.isList (fun w hw => mem_eqAt rx fx r fs w (by simpa using hw)) ⟨.bl _, H, I, rfl, ?_⟩
    rw [show its.toArray.any (eqU x) = its.any (eqU x) by simp, any_eqU r fs]
    exact q
  · obtain ⟨its, r, pl, hz⟩ := I.tuple hq
    refine SeqAt.in_tupleAt (eqU x) pl (fun w hw => mem_eqAt rx fx r fs w (by simpa using hw)) ⟨.bl _, H, I, rfl, ?_⟩
    rw [show its.toArray.any (eqU x) = its.any (eqU x) by simp, any_eqU r fs]
    exact q
theorem op_notIn_seq : OpR X (compareOp .NotIn) (rIn X.K true) := by
  intro pins s σ H x y v u Q I rx ry h
  obtain ⟨p, xs, rfl, hq, fx, fs, q⟩ := h
  cases ry
  rcases hq with hq | hq
  · obtain ⟨its, r, pl, hz⟩ := I.list hq
    refine SeqAt.notIn_listAt (eqU x) pl.isList (fun w hw => mem_eqAt rx fx r fs w (by simpa using hw)) ⟨.bl _, H, I, rfl, ?_⟩
    rw [show its.toArray.any (eqU x) = its.any (eqU x) by simp, any_eqU r fs]
    exact q
  · obtain ⟨its, r, pl, hz⟩ := I.tuple hq
    refine SeqAt.notIn_tupleAt (eqU x) pl (fun w hw => mem_eqAt rx fx r fs w (by simpa using hw)) ⟨.bl _, H, I, rfl, ?_⟩
    rw [show its.toArray.any (eqU x) = its.any (eqU x) by simp, any_eqU r fs]
    exact q
theorem call_len_seq : CallR X (.builtin "len") (fun xs H Q => ∃ p ys, xs = [.ref p] ∧ (SqL X.K H p ys ∨ SqT X.K H p ys) ∧ Q (.int ys.length) H) := by
  intro pins s σ H xs us Q I r h
  obtain ⟨p, ys, rfl, hq, q⟩ := h
  obtain ⟨u, rfl, rx⟩ := vals1 r
  cases rx
  have hn := line63
  rcases hq with hq | hq
  · obtain ⟨its, r', pl, hz⟩ := I.list hq
    have hlen := r'.length
    exact Calls.call_len_list pl.isList (by simp only [List.size_toArray] <;> omega) ⟨.int ys.length, H, I.tok _, ⟨s.toks + 1, by rw [List.size_toArray, hlen]⟩, q⟩
  · obtain ⟨its, r', pl, hz⟩ := I.tuple hq
    have hlen := r'.length
    exact len_tuple pl (by simp only [List.size_toArray] <;> omega) ⟨.int ys.length, H, I.tok _, ⟨s.toks + 1, by rw [List.size_toArray, hlen]⟩, q⟩
theorem call_tuple_of : CallR X (.type "tuple") (fun xs H Q => ∃ p ys, xs = [.ref p] ∧ ((SqL X.K H p ys ∧ ∀ l, H l = none → Q (.ref l) (upd H l (.tup ys))) ∨ (SqT X.K H p ys ∧ Q (.ref p) H))) := by
  intro pins s σ H xs us Q I r h
  obtain ⟨p, ys, rfl, h⟩ := h
  obtain ⟨u, rfl, rx⟩ := vals1 r
  cases rx
  rcases h with ⟨hq, q⟩ | ⟨hq, q⟩
  · obtain ⟨its, r', pl, hz⟩ := I.list hq
    have hlen := r'.length
    refine call_tuple_list pl.isList (fun h' kp => ?_) (by simp only [List.size_toArray] <;> omega)
    have I1 : Inv X pins σ H { s with heap := h' } := I.kept (t' := s.toks) kp
    have I2 : Inv X pins σ (upd H h'.objs.size (.tup ys)) { s with heap := h'.push { cls := .type "tuple", data := .seq its.toArray } } :=
      I1.laid (t' := s.toks) (fun b o e => Heap.get?_push_of_some _ e) (Nat.le_refl _) (show ObjOk X.prog X.w _ _ _ (.tup ys) from ⟨hz, its, r', IsTupN.new _ _⟩)
    exact ⟨.ref h'.objs.size, _, I2, rfl, q _ (I1.hok.fresh (Nat.le_refl _))⟩
  · obtain ⟨its, r', pl, hz⟩ := I.tuple hq
    exact call_tuple_same pl ⟨.ref p, H, I, rfl, q⟩

/-- the value is of that builtin type -/
def tyV (K : PySem.W.Frag) (T : String) (x : V) (H : Hp) : Prop := match x with
  | .str _ => T = "str"
  | .int _ => T = "int"
  | .ref p => (T = "list" ∧ ∃ xs, SqL K H p xs) ∨ (T = "tuple" ∧ ((∃ o, K.lookup p = some o ∧ o.cls = .type "tuple" ∧ o.dict = none) ∨ ∃ xs, H p = some (.tup xs))) ∨
      (T = "dict" ∧ ((∃ kvs, H p = some (.dK kvs)) ∨ ∃ kvs, H p = some (.dT kvs))) ∨ (T = "set" ∧ ∃ S n, H p = some (.set S n))
  | _ => False
theorem tyV_is {pins : List (Addr × Obj)} {σ : St} {H : Hp} {s : Shared} {T : String} {x : V} {v : Value} (I : Inv X pins σ H s) (r : RelV x v) (ty : tyV X.K T x H) :
    s.TypeIs v T ∧ ∀ a, v = .ref a → ∃ ob, s.heap.get? a = some ob ∧ ob.dict = none := by
  cases x with
  | str z =>
    obtain ⟨t, rfl⟩ := r
    cases (show T = "str" from ty)
    exact ⟨typeIs_str s z t, fun _ e => nomatch e⟩
  | int i =>
    obtain ⟨t, rfl⟩ := r
    cases (show T = "int" from ty)
    exact ⟨typeIs_int s i t, fun _ e => nomatch e⟩
  | ref p =>
    cases r
    rcases ty with ⟨rfl, xs, hq⟩ | ⟨rfl, ⟨o, hk, hc, hd⟩ | ⟨xs, hx⟩⟩ | ⟨rfl, hk⟩ | ⟨rfl, S, n, hk⟩
    · obtain ⟨its, _, pl, _⟩ := I.list hq
      refine ⟨pl.isList.typeIs, fun a e => ?_⟩
      cases e
      obtain ⟨o, n, e, c, hd, _⟩ := pl
      exact ⟨o, e, hd⟩
    · refine ⟨⟨o, I.kIn p o hk, hc⟩, fun a e => ?_⟩
      cases e
      exact ⟨o, I.kIn _ o hk, hd⟩
    · obtain ⟨_, _, _, o, e, c, d, _⟩ := (show ObjOk X.prog X.w H s.heap p (.tup xs) from I.hok p _ hx)
      refine ⟨⟨o, e, c⟩, fun a e2 => ?_⟩
      cases e2
      exact ⟨o, e, d⟩
    · have z : ∃ o, s.heap.get? p = some o ∧ o.ExactDict := by
        rcases hk with ⟨kvs, hk⟩ | ⟨kvs, hk⟩
        · obtain ⟨_, _, _, _, o, _, _, e, ex, _⟩ := I.hok p _ hk
          exact ⟨o, e, ex⟩
        · obtain ⟨_, _, _, _, o, _, _, e, ex, _⟩ := I.hok p _ hk
          exact ⟨o, e, ex⟩
      obtain ⟨o, e, ex⟩ := z
      refine ⟨⟨o, e, ex.1⟩, fun a e2 => ?_⟩
      cases e2
      exact ⟨o, e, ex.2.1⟩
    · obtain ⟨o, _, _, _, e, ex, _⟩ := I.hok p _ hk
      refine ⟨⟨o, e, ex.1⟩, fun a e2 => ?_⟩
      cases e2
      exact ⟨o, e, ex.2.1⟩
  | _ => exact False.elim ty
def tBM (K : PySem.W.Frag) (T : String) (r : V → List V → Hp → VK → Prop) (to : TE) (t : TA) : TE := fun σ H Q => to σ H fun x H1 => tyV K T x H1 ∧ t σ H1 fun xs H2 => r x xs H2 Q
variable {o e : Expr} {es : List Expr} {to : TE} {t : TA} {name : Str} {apos cpos : Pos} {T id : String} {r : V → List V → Hp → VK → Prop}
theorem pe_bm (pa : PlainAttrs T) (slot : Slot T name id) (hty : typeOf (.builtin id) = pure (.type "method_descriptor")) (hm : MtR X id r) (ho : PE X o to) (ha : PA X (e :: es) t)
    (hbase : attributeBase o name X.env (eval o X.env) = eval o X.env := by rfl)
    (hfew : ((backTo cpos (starEach (e :: es) X.env)).all (fun x => !x.1) && (backToKw cpos (keywordEach [] X.env)).all (fun x => x.1.isSome)
      && decide ((e :: es).length + ([] : List Keyword).length + (if ([] : List Keyword).isEmpty then 0 else 1) < 30)) = true := by rfl)
    (hline : (apos.endLine == cpos.line) = true := by rfl) (hs : starEach (e :: es) X.env = (false, eval e X.env) :: starEach es X.env := by rfl) (hplain : (backTo cpos (starEach es X.env)).any (·.1) = false := by rfl) :
    PE X (.Call (.Attribute o name apos) (e :: es) [] cpos) (tBM X.K T r to t) := by
  intro pins s σ H Q I h
  refine wpAny_Call_method_late hbase hfew hline rfl (thn (ho pins s σ H _ I h) fun v s1 ⟨x, H1, I1, r1, ty, q1⟩ => ?_)
  obtain ⟨h1, h2⟩ := tyV_is I1 r1 ty
  refine ⟨T, id, pa, slot, hty, h1, h2, ?_⟩
  have hA := ha cpos pins s1 σ H1 _ I1 q1
  rw [hs] at hA ⊢
  refine Calls.callWith_builtin (by show (false || (backTo cpos (starEach es X.env)).any (·.1)) = false; rw [hplain] <;> rfl) (Calls.evalArgs_plain ?_)
  exact thn hA fun us s2 ⟨vs, H2, I2, r2, q2⟩ => hm pins s2 σ H2 x vs v us Q I2 r1 r2 q2
end
end L2
namespace L2
open PySem PySem.Spec PyProof.Rows
def MtM (X : Cx) (id : String) (r : V → List V → Hp → VK → Prop) : Prop :=
  ∀ (pins : List (Addr × Obj)) (s : Shared) (σ : St) (H : Hp) (x : V) (xs : List V) (v : Value) (us : List Value) (Q : VK), Inv X pins σ H s → RelV x v → Vals xs us → r x xs H Q →
    wpAny (model X.prog X.w) X.A (call (.builtin id) (v :: us)) (EP X pins σ Q) X.xe s

theorem Vals.one : ∀ {x : V} {us : List Value}, Vals [x] us → ∃ u, us = [u] ∧ RelV x u
  | _, _, .cons r .nil => ⟨_, rfl, r⟩
theorem Vals.eraseIdx : ∀ {xs : List V} {us : List Value} (i : Nat), Vals xs us → Vals (xs.eraseIdx i) (us.eraseIdx i)
  | _, _, _, .nil => .nil
  | _, _, 0, .cons _ t => t
  | _, _, i + 1, .cons r t => .cons r (Vals.eraseIdx i t)
theorem Vals.rep {xs : List V} {us : List Value} (h : Vals xs us) : ∀ k : Nat, Vals (List.replicate k xs).flatten (List.replicate k us).flatten
  | 0 => .nil
  | k + 1 => by
    rw [List.replicate_succ, List.replicate_succ, List.flatten_cons, List.flatten_cons]
    exact Vals.append h (Vals.rep h k)
theorem len_erase {α : Type} : ∀ (l : List α) (i : Nat), (l.eraseIdx i).length ≤ l.length
  | [], _ => Nat.le_refl _
  | _ :: _, 0 => Nat.le_succ _
  | _ :: r, i + 1 => Nat.succ_le_succ (len_erase r i)
theorem foldl_rep (its : List Value) : ∀ (k : Nat) (acc : List Value),
    List.foldl (fun x1 x2 => x1 ++ x2) acc.toArray (List.replicate k its.toArray) = (acc ++ (List.replicate k its).flatten).toArray
  | 0, acc => by simp
  | k + 1, acc => by
    have e : acc.toArray ++ its.toArray = (acc ++ its).toArray := by simp
    have e2 : (acc ++ its) ++ (List.replicate k its).flatten = acc ++ (List.replicate (k + 1) its).flatten := by
      rw [List.replicate_succ, List.flatten_cons, List.append_assoc]
    rw [← e2, ← foldl_rep its k (acc ++ its), ← e, List.replicate_succ, List.foldl_cons]

section
variable {X : Cx} {pins : List (Addr × Obj)} {σ : St} {H : Hp} {s : Shared} {l b : Addr} {xs ys zs : List V}
theorem Inv.lset {its its' : List Value} {n : Nat} {f : Array Value → Array Value} {t' : Nat} (I : Inv X pins σ H s) (hH : H l = some (.lst xs))
    (e : s.heap.get? l = some { cls := .type "list", data := .seq its.toArray n }) (hf : f its.toArray = its'.toArray) (hv : Vals ys its') (hz : ys.length ≤ sizeLine) :
    Inv X pins σ (upd H l (.lst ys)) { s with heap := s.heap.update l (Obj.mapSeq f), toks := t' } := by
  have q := PySem.IsL.update e f
  rw [hf] at q
  refine I.write (x := l) (e := l) (by rw [hH]; exact trivial) (.inl rfl) (fun b' u hb hu => (Heap.get?_update_other s.heap (Obj.mapSeq f) (Ne.symm hb)).trans hu) ⟨_, q⟩ ?_
  exact ⟨hz, its', _, hv, q⟩
theorem Inv.lnew {its : List Value} {t' : Nat} (I : Inv X pins σ H s) (hv : Vals ys its) (hz : ys.length ≤ sizeLine) :
    Inv X pins σ (upd H s.heap.objs.size (.lst ys)) { s with heap := s.heap.push { cls := .type "list", data := .seq its.toArray }, toks := t' } :=
  I.laid (fun _ _ q => Heap.get?_push_of_some _ q) (Nat.le_refl _) ⟨hz, its, 0, hv, Heap.get?_push_size _ rfl⟩
theorem Inv.fresh (I : Inv X pins σ H s) : H s.heap.objs.size = none := I.hok.fresh (Nat.le_refl _)
theorem Inv.lstM (I : Inv X pins σ H s) (hH : H l = some (.lst xs)) : xs.length ≤ sizeLine ∧ ∃ (its : List Value) (n : Nat), Vals xs its ∧ xs.length = its.length ∧ s.heap.get? l = some { cls := .type "list", data := .seq its.toArray n } := by
  obtain ⟨z, its, n, r, e⟩ := I.hok l _ hH
  exact ⟨z, its, n, r, r.length, e⟩

theorem notLongL {n : Nat} (h : n ≤ sizeLine) : Builtin.List.listTooLong n = false := by
  unfold Builtin.List.listTooLong
  exact decide_eq_false (by omega)
end
section
variable {X : Cx}
def rAppend : V → List V → Hp → VK → Prop := fun x vs H Q => ∃ l xs y, x = .ref l ∧ vs = [y] ∧ H l = some (.lst xs) ∧ xs.length < sizeLine ∧ Q .non (upd H l (.lst (xs ++ [y])))
theorem mt_append : MtM X "list.append" rAppend := by
  intro pins s σ H x vs v us Q I rx rv h
  obtain ⟨l, xs, y, rfl, rfl, hH, hz, q⟩ := h
  cases rx
  obtain ⟨u, rfl, ru⟩ := rv.one
  obtain ⟨z, its, n, r, hl, e⟩ := I.lstM hH
  refine call_meets F.slot_list_append ⟨_, e, rfl⟩ F.entry_list_append (F.args_list_append_2 _ _) (PySem.list_append l its.toArray n u (by rw [List.size_toArray]; omega)) ⟨e, ?_⟩
  refine ⟨.non, _, I.lset (its' := its ++ [u]) hH e (by simp) (r.append (.cons ru .nil)) ?_, rfl, q⟩
  rw [List.length_append, List.length_singleton]
  assumption

def rPopAt : V → List V → Hp → VK → Prop := fun x vs H Q => ∃ l xs i k y, x = .ref l ∧ vs = [.int i] ∧ H l = some (.lst xs) ∧ -(2 ^ 63) ≤ i ∧ i < 2 ^ 63 ∧ seqIndex? i xs.length = some k ∧ xs[k]? = some y ∧ Q y (upd H l (.lst (xs.eraseIdx k)))
theorem mt_popAt : MtM X "list.pop" rPopAt := by
  intro pins s σ H x vs v us Q I rx rv h
  obtain ⟨l, xs, i, k, y, rfl, rfl, hH, h1, h2, hk, hy, q⟩ := h
  cases rx
  obtain ⟨u, rfl, ru⟩ := rv.one
  obtain ⟨t, rfl⟩ := ru
  obtain ⟨z, its, n, r, hl, e⟩ := I.lstM hH
  obtain ⟨w, hw, rw'⟩ := r.get hy
  refine call_meets F.slot_list_pop ⟨_, e, rfl⟩ F.entry_list_pop (F.args_list_pop_2 _ _)
    (MeetsSeq.list_pop_at l its.toArray n i t k w (fitsIndex_both h1 h2) (by rw [List.size_toArray, ← hl]; exact hk) (by rw [← Array.getElem?_toList]; exact hw) (by rw [List.size_toArray]; omega)) ⟨e, ?_⟩
  refine ⟨y, _, I.lset (its' := its.eraseIdx k) hH e ?_ (r.eraseIdx k) ?_, rw', q⟩
  · show its.toArray.eraseIdxIfInBounds k = (its.eraseIdx k).toArray
    rw [List.eraseIdxIfInBounds_toArray]
  · have := len_erase xs k
    exact Nat.le_trans (by assumption) (by assumption)

def rCat : R2 := fun x y H Q => ∃ l b xs zs, x = .ref l ∧ y = .ref b ∧ H l = some (.lst xs) ∧ H b = some (.lst zs) ∧ xs.length + zs.length ≤ sizeLine ∧ ∀ p, H p = none → Q (.ref p) (upd H p (.lst (xs ++ zs)))
theorem op_cat : OpR X (binaryOp .Add) rCat := by
  intro pins s σ H x y v u Q I rx ry h
  obtain ⟨l, b, xs, zs, rfl, rfl, hH, hB, hz, q⟩ := h
  cases rx
  cases ry
  obtain ⟨z, its, n, r, hl, e⟩ := I.lstM hH
  obtain ⟨z2, its2, n2, r2, hl2, e2⟩ := I.lstM hB
  refine PySem.P.add_list e e2 ?_ (by rw [List.size_toArray, List.size_toArray]; omega)
  have ea : its.toArray ++ its2.toArray = (its ++ its2).toArray := by simp
  rw [ea]
  exact ⟨.ref _, _, I.lnew (t' := s.toks) (r.append r2) (by rw [List.length_append]; assumption), rfl, q _ I.fresh⟩
/-- a list times an int (a negative one is nothing) -/
def rRep : R2 := fun x y H Q => ∃ l k xs, x = .ref l ∧ y = .int k ∧ H l = some (.lst xs) ∧ -(2 ^ 63) ≤ k ∧ k < 2 ^ 63 ∧ xs.length * k.toNat ≤ sizeLine ∧
  ∀ p, H p = none → Q (.ref p) (upd H p (.lst (List.replicate k.toNat xs).flatten))
theorem len_rep {α : Type} (xs : List α) (k : Nat) : (List.replicate k xs).flatten.length = k * xs.length := by
  induction k with
  | zero => simp
  | succ k ih => rw [List.replicate_succ, List.flatten_cons, List.length_append, ih, Nat.succ_mul, Nat.add_comm]
theorem op_rep : OpR X (binaryOp .Mult) rRep := by
  intro pins s σ H x y v u Q I rx ry h
  obtain ⟨l, k, xs, rfl, rfl, hH, h1, h2, hz, q⟩ := h
  cases rx
  obtain ⟨t, rfl⟩ := ry
  obtain ⟨z, its, n, r, hl, e⟩ := I.lstM hH
  have hlen : its.toArray.size * k.toNat ≤ sizeLine := by rw [List.size_toArray, ← hl]; exact hz
  have hcap : ¬ its.toArray.size * k.toNat > (2 ^ 63 - 1) / 8 := by
    have : (sizeLine : Nat) ≤ (2 ^ 63 - 1) / 8 := by decide
    omega
  have hfit : ¬ (!Builtin.List.listFitsIndex k) = true := by
    rw [fitsIndex_both h1 h2]
    exact Bool.false_ne_true
  have hlong : ¬ Builtin.List.listTooLong (its.toArray.size * k.toNat) = true := by
    rw [notLongL hlen]
    exact Bool.false_ne_true
  have hnew : List.foldl (fun x1 x2 => x1 ++ x2) #[] (List.replicate (if its.toArray.isEmpty = true then 0 else k.toNat) its.toArray) = (List.replicate k.toNat its).flatten.toArray := by
    have f0 : ∀ m : Nat, List.foldl (fun x1 x2 => x1 ++ x2) #[] (List.replicate m its.toArray) = (List.replicate m its).flatten.toArray := fun m => by
      have := foldl_rep its m []
      rw [List.nil_append] at this
      exact this
    rw [f0]
    cases its with
    | nil => simp
    | cons a r' => rw [if_neg (by simp)]
  refine wpAny_binaryOp_repeat_ref (T := "list") (U := "int") (by decide) ⟨_, e, rfl⟩ (fun s' => typeIs_int s' k t) noFill_list_mul F.fills_int_mul F.slot_int_rmul repeat_list F.slot_int_index.lookup
    (call_meets F.slot_int_rmul (typeIs_int s k t) F.entry_int_rmul (F.args_int_rmul_2 _ _) (int___rmul___int_list k t l its.toArray n)
      ⟨e, rfl, ⟨_, e, rfl⟩, call_meets F.slot_list_mul ⟨_, e, rfl⟩ F.entry_list_mul (F.args_list_mul_2 _ _) (AutoListH.list___mul___list_int_3 l its.toArray n k t hfit hcap hlong) ⟨e, ?_⟩⟩)
  rw [hnew]
  exact ⟨.ref _, _, I.lnew (t' := s.toks) (r.rep k.toNat) (by rw [len_rep, Nat.mul_comm]; exact hz), rfl, q _ I.fresh⟩

end
end L2
namespace L2
open PySem PySem.Spec PyProof.Rows
section
variable {κ : Type} [DecidableEq κ]
def valV (kvs : List (κ × V)) (k : κ) : Option V := (kvs.find? fun kv => decide (kv.1 = k)).map (·.2)
/-- in its place, or at the end -/
def putK (kvs : List (κ × V)) (k : κ) (v : V) : List (κ × V) :=
  if (kvs.any fun kv => decide (kv.1 = k)) = true then kvs.map (fun kv => if kv.1 = k then (kv.1, v) else kv) else kvs ++ [(k, v)]
def dropK (kvs : List (κ × V)) (k : κ) : List (κ × V) := kvs.filter fun kv => decide (kv.1 ≠ k)

theorem valV_pos {p : κ × V} {r : List (κ × V)} {k : κ} (e : p.1 = k) : valV (p :: r) k = some p.2 := by simp [valV, List.find?_cons, e]
theorem valV_neg {p : κ × V} {r : List (κ × V)} {k : κ} (e : ¬ p.1 = k) : valV (p :: r) k = valV r k := by simp [valV, List.find?_cons, e]
theorem valV_any (k : κ) : ∀ kvs : List (κ × V), (kvs.any fun kv => decide (kv.1 = k)) = (valV kvs k).isSome
  | [] => rfl
  | p :: r => by
    rw [List.any_cons]
    by_cases e : p.1 = k
    · simp only [valV_pos e, decide_eq_true e, Bool.true_or, Option.isSome_some]
    · rw [valV_neg e, decide_eq_false e, Bool.false_or]; exact valV_any k r
theorem length_putK (kvs : List (κ × V)) (k : κ) (v : V) : (putK kvs k v).length ≤ kvs.length + 1 := by
  unfold putK
  split
  · rw [List.length_map]; exact Nat.le_add_right _ _
  · rw [List.length_append, List.length_cons, List.length_nil]; exact Nat.add_le_add_left (by decide) _
theorem putK_new {kvs : List (κ × V)} {k : κ} (v : V) (h : valV kvs k = none) : putK kvs k v = kvs ++ [(k, v)] := by
  unfold putK
  rw [valV_any, h]
  exact if_neg (by decide)

theorem RelO.isSome_eq {o : Option V} {u : Option Value} (r : RelO o u) : o.isSome = u.isSome := by
  cases o with
  | none => cases u with
    | none => rfl
    | some _ => exact (show False from r).elim
  | some _ => cases u with
    | none => exact (show False from r).elim
    | some _ => rfl
/-- raw tables of the same keys -/
theorem KV.val {kvs : List (κ × V)} {vs : List (κ × Value)} (r : KV kvs vs) (k : κ) : RelO (valV kvs k) (valueAt vs k) := by
  unfold KV at r
  induction r with
  | nil => exact True.intro
  | @cons p q ps qs h t ih =>
    obtain ⟨h1, h2⟩ := h
    by_cases e : p.1 = k
    · have e' : q.1 = k := h1.symm.trans e
      have b : valueAt (q :: qs) k = some q.2 := by simp [valueAt, List.find?_cons, e']
      rw [valV_pos e, b]; exact h2
    · have e' : ¬ q.1 = k := fun z => e (h1.trans z)
      have b : valueAt (q :: qs) k = valueAt qs k := by simp [valueAt, List.find?_cons, e']
      rw [valV_neg e, b]; exact ih
theorem KV.any {kvs : List (κ × V)} {vs : List (κ × Value)} (r : KV kvs vs) (k : κ) : (kvs.any fun kv => decide (kv.1 = k)) = vs.any fun kv => decide (kv.1 = k) := by
  unfold KV at r
  induction r with
  | nil => rfl
  | cons h t ih => rw [List.any_cons, List.any_cons, ih, h.1]
theorem KV.repl {kvs : List (κ × V)} {vs : List (κ × Value)} (r : KV kvs vs) (k : κ) {y : V} {u : Value} (ry : RelV y u) :
    KV (kvs.map fun kv => if kv.1 = k then (kv.1, y) else kv) (vs.map fun kv => if kv.1 = k then (kv.1, u) else kv) := by
  unfold KV at r ⊢
  induction r with
  | nil => exact .nil
  | @cons p q ps qs h t ih =>
    rw [List.map_cons, List.map_cons]
    refine .cons ?_ ih
    obtain ⟨h1, h2⟩ := h
    by_cases e : p.1 = k
    · rw [if_pos e, if_pos (h1.symm.trans e)]; exact ⟨h1, ry⟩
    · rw [if_neg e, if_neg (fun z => e (h1.trans z))]; exact ⟨h1, h2⟩
theorem KV.put {kvs : List (κ × V)} {vs : List (κ × Value)} (r : KV kvs vs) (k : κ) {y : V} {u : Value} (ry : RelV y u) : KV (putK kvs k y) (stored vs k u) := by
  unfold putK stored
  rw [r.any k]
  by_cases e : (vs.any fun kv => decide (kv.1 = k)) = true
  · rw [if_pos e, if_pos e]; exact r.repl k ry
  · rw [if_neg e, if_neg e]; exact Paired.snoc r ⟨rfl, ry⟩
theorem KV.drop {kvs : List (κ × V)} {vs : List (κ × Value)} (r : KV kvs vs) (k : κ) : KV (dropK kvs k) (without vs k) := by
  unfold KV at r ⊢
  unfold dropK without
  induction r with
  | nil => exact .nil
  | @cons p q ps qs h t ih =>
    obtain ⟨h1, h2⟩ := h
    rw [List.filter_cons, List.filter_cons]
    by_cases e : p.1 = k
    · have a : ¬ decide (p.1 ≠ k) = true := by simp [e]
      have b : ¬ decide (q.1 ≠ k) = true := by simp [h1.symm.trans e]
      rw [if_neg a, if_neg b]; exact ih
    · have e' : ¬ q.1 = k := fun z => e (h1.trans z)
      have a : decide (p.1 ≠ k) = true := by simp [e]
      have b : decide (q.1 ≠ k) = true := by simp [e']
      rw [if_pos a, if_pos b]; exact .cons ⟨h1, h2⟩ ih
theorem KV.length {kvs : List (κ × V)} {vs : List (κ × Value)} (r : KV kvs vs) : kvs.length = vs.length := Paired.length r
theorem dropK_le (kvs : List (κ × V)) (k : κ) : (dropK kvs k).length ≤ kvs.length := List.length_filter_le _ _
end
theorem kV_is {P : Program} {w : World} {k : Key} {u : Value} (r : RelV (kV k) u) : (mixKind P w).is k u = true := by
  cases k with
  | inl i => obtain ⟨t, e⟩ := (show ∃ t, u = Value.int i t from r); subst e; exact mixKind_int P w i t
  | inr x => obtain ⟨t, e⟩ := (show ∃ t, u = Value.str x t from r); subst e; exact mixKind_str P w x t
theorem items_are {P : Program} {w : World} : ∀ {ks : List Key} {us : List Value}, Vals (ks.map kV) us → ItemsAre (mixKind P w) ks us
  | [], _, r => by rw [List.map_nil] at r; cases r; exact .nil
  | k :: ks, _, r => by
    rw [List.map_cons] at r
    cases r with
    | cons h t => exact .cons (kV_is h) (items_are t)

/-- raw entries of a dict with tuple keys -/
abbrev KT (H : Hp) : List (List Key × V) → List (List Key × Addr × Value) → Prop := Paired fun p q => p.1 = q.1 ∧ H q.2.1 = some (.tup (p.1.map kV)) ∧ RelV p.2 q.2.2
theorem KT.val {H : Hp} {kvs : List (List Key × V)} {xs : List (List Key × Addr × Value)} (r : KT H kvs xs) (k : List Key) : RelO (valV kvs k) ((atKey xs k).map (·.2)) := by
  induction r with
  | nil => exact True.intro
  | @cons p q ps qs h t ih =>
    obtain ⟨h1, _, h2⟩ := h
    by_cases e : p.1 = k
    · have e' : q.1 = k := h1.symm.trans e
      have b : atKey (q :: qs) k = some q.2 := by simp [atKey, List.find?_cons, e']
      rw [valV_pos e, b]; exact h2
    · have e' : ¬ q.1 = k := fun z => e (h1.trans z)
      have b : atKey (q :: qs) k = atKey qs k := by simp [atKey, List.find?_cons, e']
      rw [valV_neg e, b]; exact ih
theorem KT.repl {H : Hp} {kvs : List (List Key × V)} {xs : List (List Key × Addr × Value)} (r : KT H kvs xs) (k : List Key) {y : V} {u : Value} (ry : RelV y u) :
    KT H (kvs.map fun kv => if kv.1 = k then (kv.1, y) else kv) (xs.map (putAt k u)) := by
  induction r with
  | nil => exact .nil
  | @cons p q ps qs h t ih =>
    rw [List.map_cons, List.map_cons]
    refine .cons ?_ ih
    obtain ⟨h1, h2, h3⟩ := h
    unfold putAt
    by_cases e : p.1 = k
    · rw [if_pos e, if_pos (h1.symm.trans e)]; exact ⟨h1, h2, ry⟩
    · rw [if_neg e, if_neg (fun z => e (h1.trans z))]; exact ⟨h1, h2, h3⟩
theorem KT.put {H : Hp} {kvs : List (List Key × V)} {xs : List (List Key × Addr × Value)} (r : KT H kvs xs) (k : List Key) {b : Addr} {y : V} {u : Value} (hb : H b = some (.tup (k.map kV))) (ry : RelV y u) :
    KT H (putK kvs k y) (storedH xs k b u) := by
  have e : (kvs.any fun kv => decide (kv.1 = k)) = (atKey xs k).isSome := by
    rw [valV_any, (r.val k).isSome_eq, Option.isSome_map]
  unfold putK storedH
  rw [e]
  by_cases q : (atKey xs k).isSome = true
  · rw [if_pos q, if_pos q]; exact r.repl k ry
  · rw [if_neg q, if_neg q]; exact Paired.snoc r ⟨rfl, hb, ry⟩
theorem KT.keeps {H H' : Hp} {kvs : List (List Key × V)} {xs : List (List Key × Addr × Value)} (r : KT H kvs xs) (ht : ∀ b ys, H b = some (.tup ys) → H' b = some (.tup ys)) : KT H' kvs xs :=
  Paired.mapP r fun _ _ z => ⟨z.1, ht _ _ z.2.1, z.2.2⟩

section
variable {P : Program} {w : World} {H : Hp} {h : Heap} {a : Addr}
theorem rd_of {u : HO} (ok : HOk P w H h) (e : Rd H a u) : ObjOk P w H h a u := e.ok ok
theorem dk_rd {kvs : List (Key × V)} (ok : HOk P w H h) (e : Rd H a (.dK kvs)) : kvs.length ≤ sizeLine ∧ (a == sysModules) = false ∧ ∃ vs, KV kvs vs ∧ h.DictOf (mixKind P w) a vs :=
  show ObjOk P w H h a (.dK kvs) from rd_of ok e
theorem dk_of {kvs : List (Key × V)} (ok : HOk P w H h) (e : H a = some (.dK kvs)) : kvs.length ≤ sizeLine ∧ (a == sysModules) = false ∧ ∃ vs, KV kvs vs ∧ h.DictOf (mixKind P w) a vs := dk_rd ok (.inl e)
/-- a tracked tuple of ints and texts is a key -/
theorem key_of {ks : List Key} (ok : HOk P w H h) (e : H a = some (.tup (ks.map kV))) : (tupleKind (mixKind P w)).is h ks a := by
  obtain ⟨_, its, r, o, h1, h2, _, n, h3⟩ := (show ObjOk P w H h a (.tup (ks.map kV)) from ok a _ e)
  exact ⟨o, its.toArray, n, h1, h2, h3, by simpa using items_are r⟩
theorem dt_rd {kvs : List (List Key × V)} (ok : HOk P w H h) (e : Rd H a (.dT kvs)) : kvs.length ≤ sizeLine ∧ (a == sysModules) = false ∧
    ∃ xs, KT H kvs xs ∧ h.DictOfH (tupleKind (mixKind P w)) a xs := by
  obtain ⟨z, y, xs, r, o, es, ep, h1, h2, h3, h4, h5⟩ := (show ObjOk P w H h a (.dT kvs) from rd_of ok e)
  refine ⟨z, y, xs, r, o, es, ep, h1, h2, h3, h4, fun x hx => ?_, h5⟩
  have all : ∀ {l : List (List Key × V)} {m : List (List Key × Addr × Value)}, KT H l m → ∀ x ∈ m, (tupleKind (mixKind P w)).is h x.1 x.2.1 := by
    intro l m q
    induction q with
    | nil => intro x hx; exact nomatch hx
    | @cons p q ps qs hq t ih =>
      intro x hx
      rcases List.mem_cons.mp hx with e | hx
      · subst e
        exact key_of ok (by rw [← hq.1]; exact hq.2.1)
      · exact ih x hx
  exact all r x hx
theorem dt_of {kvs : List (List Key × V)} (ok : HOk P w H h) (e : H a = some (.dT kvs)) : kvs.length ≤ sizeLine ∧ (a == sysModules) = false ∧
    ∃ xs, KT H kvs xs ∧ h.DictOfH (tupleKind (mixKind P w)) a xs := dt_rd ok (.inl e)
end
/-- what the dict at a holds at the key y -/
def DGet (H : Hp) (a : Addr) (y : V) (r : Option V) : Prop :=
  (∃ kvs k, Rd H a (.dK kvs) ∧ y = kV k ∧ r = valV kvs k) ∨ ∃ kvs k b, Rd H a (.dT kvs) ∧ y = .ref b ∧ H b = some (.tup (k.map kV)) ∧ r = valV kvs k
/-- the heap behind a[y] = v -/
def DPut (H : Hp) (a : Addr) (y v : V) (H' : Hp) : Prop :=
  (∃ kvs k, H a = some (.dK kvs) ∧ y = kV k ∧ kvs.length < sizeLine ∧ H' = upd H a (.dK (putK kvs k v))) ∨
  ∃ kvs k b, H a = some (.dT kvs) ∧ y = .ref b ∧ H b = some (.tup (k.map kV)) ∧ kvs.length < sizeLine ∧ H' = upd H a (.dT (putK kvs k v))
theorem DGet.k {H : Hp} {a : Addr} {kvs : List (Key × V)} {k : Key} (e : H a = some (.dK kvs)) : DGet H a (kV k) (valV kvs k) := .inl ⟨kvs, k, .inl e, rfl, rfl⟩
theorem DPut.k {H : Hp} {a : Addr} {kvs : List (Key × V)} {k : Key} {v : V} (e : H a = some (.dK kvs)) (hl : kvs.length < sizeLine) : DPut H a (kV k) v (upd H a (.dK (putK kvs k v))) := .inl ⟨kvs, k, e, rfl, hl, rfl⟩
section
variable {X : Cx} {pins : List (Addr × Obj)} {σ : St} {H : Hp} {s : Shared} {a : Addr} {y v : V} {u r : Value} {o : Option V} {A : Around} {E : Value → Shared → Prop}
theorem Inv.big (I : Inv X pins σ H s) : sysModules < s.heap.objs.size := by
  have h : mainGlobals < s.heap.objs.size := (I.mod.glob.keeps I.bk).lt
  exact Nat.lt_trans (by decide) h

/-- d[y], there -/
theorem d_getItem {Q : Value → Shared → Prop} (hu : A.units + 1 < cLine) (I : Inv X pins σ H s) (g : DGet H a y (some v)) (ry : RelV y u) (h : ∀ w' s', Inv X pins σ H s' → RelV v w' → Q w' s') :
    wpAny (model X.prog X.w) A (getItem (.ref a) u) Q E s := by
  rcases g with ⟨kvs, k, e, ey, l⟩ | ⟨kvs, k, b, e, ey, eb, l⟩
  · subst ey
    obtain ⟨z, hd, vs, rel, dd⟩ := dk_rd I.hok e
    obtain ⟨w', hw, rw'⟩ := RelO.some_of (v := v) (o := valueAt vs k) (by rw [l]; exact rel.val k)
    exact wpAny_getItem_of (kV_is ry) dd.mapOf hw (h w' _ (I.tok _) rw')
  · subst ey
    cases (show u = Value.ref b from ry)
    obtain ⟨z, hd, xs, rel, dd⟩ := dt_rd I.hok e
    obtain ⟨w', hw, rw'⟩ := RelO.some_of (v := v) (o := (atKey xs k).map (·.2)) (by rw [l]; exact rel.val k)
    obtain ⟨p, hp, hp2⟩ := Option.map_eq_some_iff.mp hw
    refine wpAny_getItem_heap (tupleKind_room_in1 hu) (key_of I.hok eb) dd hp ?_
    rw [hp2]
    exact h w' _ (I.tok _) rw'
theorem d_notIn {Q : Value → Shared → Prop} (hu : A.units + 1 < cLine) (I : Inv X pins σ H s) (g : DGet H a y o) (ry : RelV y u) (h : ∀ s', Inv X pins σ H s' → Q (.bool (!o.isSome)) s') :
    wpAny (model X.prog X.w) A (compareOp .NotIn u (.ref a)) Q E s := by
  rcases g with ⟨kvs, k, e, ey, l⟩ | ⟨kvs, k, b, e, ey, eb, l⟩
  · subst ey
    obtain ⟨z, hd, vs, rel, dd⟩ := dk_rd I.hok e
    refine wpAny_notIn_of (kV_is ry) hd dd.mapOf ?_
    rw [← (rel.val k).isSome_eq, ← l]
    exact h _ (I.tok _)
  · subst ey
    cases (show u = Value.ref b from ry)
    obtain ⟨z, hd, xs, rel, dd⟩ := dt_rd I.hok e
    refine wpAny_notIn_heap (tupleKind_room_in1 hu) (key_of I.hok eb) hd dd ?_
    have q := (rel.val k).isSome_eq
    rw [Option.isSome_map] at q
    rw [← q, ← l]
    exact h _ (I.tok _)
/-- a dict's object is replaced -/
theorem d_write {h' : Heap} {t' : Nat} {ob : HO} (I : Inv X pins σ H s) (mu : Mut (H a)) (hs : Heap.SameBut a s.heap h') (he : ∃ q, h'.get? a = some q) (new : ObjOk X.prog X.w (upd H a ob) h' a ob) :
    Inv X pins σ (upd H a ob) { s with heap := h', toks := t' } :=
  I.write (x := a) (e := a) mu (.inl rfl) (fun b q hb z => (hs.2 b hb).trans z) he new
theorem dk_new {P : Program} {w : World} {H' : Hp} {h' : Heap} {kvs : List (Key × V)} {vs : List (Key × Value)} (z : kvs.length ≤ sizeLine) (hd : (a == sysModules) = false) (rel : KV kvs vs) (dd : h'.DictOf (mixKind P w) a vs) :
    ObjOk P w H' h' a (.dK kvs) := ⟨z, hd, vs, rel, dd⟩
/-- d[y] = v -/
theorem d_setItem {H' : Hp} {Q : Unit → Shared → Prop} (hu : A.units + 1 < cLine) (I : Inv X pins σ H s) (g : DPut H a y v H') (ry : RelV y u) (rv : RelV v r) (h : ∀ s', Inv X pins σ H' s' → Q () s') :
    wpAny (model X.prog X.w) A (setItem (.ref a) u r) Q E s := by
  rcases g with ⟨kvs, k, e, ey, l, eH⟩ | ⟨kvs, k, b, e, ey, eb, l, eH⟩
  · subst ey eH
    obtain ⟨z, hd, vs, rel, dd⟩ := dk_of I.hok e
    have hz : vs.length ≤ sizeLine := by rw [← rel.length]; exact z
    have hl : (putK kvs k v).length ≤ sizeLine := by have := length_putK kvs k v; exact Nat.le_trans (by assumption) (by assumption)
    refine wpAny_setItem_pairs (hsz := hz) (kV_is ry) dd fun h' dd' hs => h _ ?_
    have he : ∃ q, h'.get? a = some q := let ⟨q, _, _, hq, _⟩ := dd'; ⟨q, hq⟩
    exact d_write I (by rw [e]; exact True.intro) hs he (dk_new hl hd (rel.put k rv) dd')
  · subst ey eH
    cases (show u = Value.ref b from ry)
    obtain ⟨z, hd, xs, rel, dd⟩ := dt_of I.hok e
    have hz : xs.length ≤ sizeLine := by rw [← Paired.length rel]; exact z
    have hl : (putK kvs k v).length ≤ sizeLine := by have := length_putK kvs k v; exact Nat.le_trans (by assumption) (by assumption)
    refine wpAny_setItem_heap (hsz := hz) (tupleKind_room_in1 hu) (key_of I.hok eb) dd fun h' dd' hs => h _ ?_
    obtain ⟨q, es, ep, hq, h2, h3, h4, _, h5⟩ := dd'
    refine d_write I (by rw [e]; exact True.intro) hs ⟨q, hq⟩ ⟨hl, hd, _, (rel.put k eb rv).keeps fun c ys ec => ?_, q, es, ep, hq, h2, h3, h4, h5⟩
    rw [upd_ne (ne_of ec e (fun z => nomatch z))]
    exact ec
end
section
variable {X : Cx} {pins : List (Addr × Obj)} {σ : St} {H : Hp} {s : Shared} {a : Addr} {kvs : List (Key × V)} {k : Key} {u : Value} {A : Around} {E : Value → Shared → Prop}
/-- del d[k] -/
theorem d_delItem {Q : Unit → Shared → Prop} (I : Inv X pins σ H s) (e : H a = some (.dK kvs)) (ry : RelV (kV k) u) (l : (valV kvs k).isSome = true) (h : ∀ s', Inv X pins σ (upd H a (.dK (dropK kvs k))) s' → Q () s') :
    wpAny (model X.prog X.w) A (delItem (.ref a) u) Q E s := by
  obtain ⟨z, hd, vs, rel, dd⟩ := dk_of I.hok e
  refine wpAny_delItem_slot dd.typeIs (by decide) PySem.F.slot_dict_delitem
    (call_meetsIn PySem.F.slot_dict_delitem dd.typeIs PySem.F.entry_dict_delitem (PySem.F.args_dict_delitem_2 _ _) (meets_dict_delitem_pairs (mixKind X.prog X.w) a (kV_is ry)) ⟨vs, dd, by rw [← rel.length]; exact z, by rw [← (rel.val k).isSome_eq]; exact l, fun h' dd' hs => h _ ?_⟩)
  have he : ∃ q, h'.get? a = some q := let ⟨q, _, _, hq, _⟩ := dd'; ⟨q, hq⟩
  exact d_write I (by rw [e]; exact True.intro) hs he (dk_new (Nat.le_trans (dropK_le kvs k) z) hd (rel.drop k) dd')
/-- d.pop(k[, x]), there -/
theorem d_pop {v : V} {more : List Value} {Q : Value → Shared → Prop} (I : Inv X pins σ H s) (e : H a = some (.dK kvs)) (ry : RelV (kV k) u) (l : valV kvs k = some v) (hm : more = [] ∨ ∃ x, more = [x])
    (h : ∀ w' s', Inv X pins σ (upd H a (.dK (dropK kvs k))) s' → RelV v w' → Q w' s') : wpAny (model X.prog X.w) A (call (.builtin "dict.pop") (.ref a :: u :: more)) Q E s := by
  obtain ⟨z, hd, vs, rel, dd⟩ := dk_of I.hok e
  obtain ⟨w', hw, rw'⟩ := RelO.some_of (v := v) (o := valueAt vs k) (by rw [← l]; exact rel.val k)
  have hp : (keyPart u).isSome = true := by
    cases k with
    | inl i => obtain ⟨t, q⟩ := (show ∃ t, u = Value.int i t from ry); subst q; rfl
    | inr x => obtain ⟨t, q⟩ := (show ∃ t, u = Value.str x t from ry); subst q; rfl
  have ha : argsOk "dict.pop" ⟨.ref a :: u :: more, []⟩ := by
    rcases hm with q | ⟨x, q⟩
    · subst q; exact PySem.F.args_dict_pop_2 _ _
    · subst q; exact PySem.F.args_dict_pop_3 _ _ _
  refine call_meetsIn PySem.F.slot_dict_pop dd.typeIs PySem.F.entry_dict_pop ha (meets_dict_pop_there (mixKind X.prog X.w) a (kV_is ry) more hm hp)
    ⟨vs, w', dd, by rw [← rel.length]; exact z, hw, fun h' dd' hs => h w' _ ?_ rw'⟩
  have he : ∃ q, h'.get? a = some q := let ⟨q, _, _, hq, _⟩ := dd'; ⟨q, hq⟩
  exact d_write I (by rw [e]; exact True.intro) hs he (dk_new (Nat.le_trans (dropK_le kvs k) z) hd (rel.drop k) dd')
/-- len(d) -/
theorem d_len {Q : Value → Shared → Prop} (I : Inv X pins σ H s) (e : Rd H a (.dK kvs)) (h : ∀ t s', Inv X pins σ H s' → Q (.int kvs.length t) s') : wpAny (model X.prog X.w) A (call (.builtin "len") [.ref a]) Q E s := by
  obtain ⟨z, hd, vs, rel, dd⟩ := dk_rd I.hok e
  refine call_len_dict hd dd (by rw [← rel.length]; rw [sizeLine_eq] at z; omega) ?_
  rw [← rel.length]
  exact h _ _ (I.tok _)
end
/-- the element of a subscription, not a slice -/
def NoSl (i : Expr) : Prop := ∀ ov iv, subscripted i false ov iv = operate [ov, iv] (getItem ov iv)
theorem subD_of {prog : Program} {w : World} {A : Around} {E : Value → Shared → Prop} {s : Shared} {env : Env} {value slice : Expr} {pos : Pos} {T id : String} {Q : Value → Shared → Prop}
    (hl : typeLookup (.type T) "__getitem__" = pure (some (.builtin id))) (hs : NoSl slice)
    (h : wpAny (model prog w) A (eval value env) (fun o s₁ => wpAny (model prog w) A (eval slice env) (fun i s₂ => s₂.TypeIs o T ∧ wpAny (model prog w) A (getItem o i) Q E s₂) E s₁) E s) :
    wpAny (model prog w) A (eval (.Subscript value slice pos) env) Q E s := by
  refine Subscript_ (wpAny_mono h (fun o s₁ h₁ => wpAny_mono h₁ (fun i s₂ h₂ => ?_) fun _ _ x => x) fun _ _ x => x)
  obtain ⟨hT, h₂⟩ := h₂
  unfold subscriptTail
  refine wpAny_bind ?_
  rw [getitemInPython_of_ne hT.not_modules]
  refine wpAny_bind (wpAny_specialOf hT hl ?_)
  have fin : wpAny (model prog w) A (subscripted slice false o i) (fun r s₃ => wpAny (model prog w) A (letTemporaryGo value o r >>= fun _ => pure r) Q E s₃) E s₂ := by
    rw [hs o i]
    exact wpAny_operating (wpAny_mono h₂ (fun r s₃ h₃ => wpAny_bind (wpAny_letTemporaryGo (wpAny_pure h₃))) fun _ _ x => x)
  first
    | exact wpAny_pure (wpAny_bind fin)
    | exact wpAny_bind (wpAny_pure (wpAny_bind fin))
    | exact wpAny_bind fin

theorem dict_typeIs {X : Cx} {pins : List (Addr × Obj)} {σ : St} {H : Hp} {s : Shared} {a : Addr} {y : V} {o : Option V} (I : Inv X pins σ H s) (g : DGet H a y o) : s.TypeIs (.ref a) "dict" := by
  rcases g with ⟨kvs, k, e, _, _⟩ | ⟨kvs, k, b, e, _, _, _⟩
  · obtain ⟨_, _, vs, _, dd⟩ := dk_rd I.hok e
    exact dd.typeIs
  · obtain ⟨_, _, xs, _, dd⟩ := dt_rd I.hok e
    exact dd.typeIs
/-- d[y] -/
def tDGet (td ty : TE) : TE := fun σ H Q => td σ H fun x H1 => ty σ H1 fun y H2 => ∃ a v, x = .ref a ∧ DGet H2 a y (some v) ∧ Q v H2
def tDNotIn (ty td : TE) : TE := fun σ H Q => ty σ H fun y H1 => td σ H1 fun x H2 => ∃ a o, x = .ref a ∧ DGet H2 a y o ∧ Q (.bl (!o.isSome)) H2
/-- d[y] = v -/
def sDPut (td ty tv : TE) : TS := fun D σ H => tv σ H fun v H1 => td σ H1 fun x H2 => ty σ H2 fun y H3 => ∃ a H4, x = .ref a ∧ DPut H3 a y v H4 ∧ D.nx σ H4
/-- del d[y] -/
def sDDel (td ty : TE) : TS := fun D σ H => td σ H fun x H1 => ty σ H1 fun y H2 => ∃ a kvs k, x = .ref a ∧ H2 a = some (.dK kvs) ∧ y = kV k ∧ (valV kvs k).isSome = true ∧ D.nx σ (upd H2 a (.dK (dropK kvs k)))

section
variable {X : Cx} {o i e value : Expr} {pos pos' tpos : Pos} {td ty tv : TE}
theorem pe_dget (hu : X.A.units + 1 < cLine) (ho : PE X o td) (hi : PE X i ty) (hs : NoSl i) : PE X (.Subscript o i pos) (tDGet td ty) := by
  intro pins s σ H Q I h
  refine subD_of PySem.F.slot_dict_getitem.lookup hs (thn (ho pins s σ H _ I h) fun u s1 ⟨x, H1, I1, rx, q1⟩ => thn (hi pins s1 σ H1 _ I1 q1) fun iv s2 ⟨y, H2, I2, ry, a, v, ex, g, q2⟩ => ?_)
  subst ex
  obtain rfl : u = Value.ref a := rx
  exact ⟨dict_typeIs I2 g, d_getItem hu I2 g ry fun w' s3 I3 rw' => ⟨v, H2, I3, rw', q2⟩⟩
theorem pc_dnotin (hu : X.A.units + 1 < cLine) (hi : PE X i ty) (ho : PE X o td) : PC X .NotIn i o (tDNotIn ty td) := by
  intro pins s σ H Q I h
  refine thn (hi pins s σ H _ I h) fun iv s1 ⟨y, H1, I1, ry, q1⟩ => thn (ho pins s1 σ H1 _ I1 q1) fun u s2 ⟨x, H2, I2, rx, a, ov, ex, g, q2⟩ => ?_
  subst ex
  obtain rfl : u = Value.ref a := rx
  exact d_notIn hu I2 g ry fun s3 I3 => ⟨.bl (!ov.isSome), H2, I3, rfl, q2⟩
theorem ps_dput (hu : X.A.units + 1 < cLine) (ho : PE X o td) (hi : PE X i ty) (hv : PE X value tv) (hs : swapsWith value (some (.Subscript o i pos')) pos.line X.env = pure false) :
    PS X (.Assign [.Subscript o i pos'] value pos) (sDPut td ty tv) := by
  intro pins s σ H D I h
  refine wpAny_Assign_Subscript (thn (hv pins s σ H _ I h) fun r s1 ⟨v, H1, I1, rv, q1⟩ => thn (ho pins s1 σ H1 _ I1 q1) fun u s2 ⟨x, H2, I2, rx, q2⟩ => thn (hi pins s2 σ H2 _ I2 q2) fun iv s3 ⟨y, H3, I3, ry, a, H4, ex, g, q3⟩ => ?_) hs
  subst ex
  obtain rfl : u = Value.ref a := rx
  exact d_setItem hu I3 g ry rv fun s4 I4 => ⟨σ, H4, I4, q3⟩
theorem ps_ddel (ho : PE X o td) (hi : PE X i ty) : PS X (.Delete [.Subscript o i tpos] pos) (sDDel td ty) := by
  intro pins s σ H D I h
  refine wpAny_Delete (wpAny_deleteEach_cons (wpAny_delete_Subscript (thn (ho pins s σ H _ I h) fun u s1 ⟨x, H1, I1, rx, q1⟩ => thn (hi pins s1 σ H1 _ I1 q1) fun iv s2 ⟨y, H2, I2, ry, a, kvs, k, ex, e, ey, l, q2⟩ => ?_)))
  subst ex ey
  obtain rfl : u = Value.ref a := rx
  exact d_delItem I2 e ry l fun s3 I3 => wpAny_deleteEach_nil ⟨σ, _, I3, q2⟩
end
theorem dk_empty {P : Program} {w : World} {H : Hp} (h : Heap) (hb : sysModules < h.objs.size) : ObjOk P w H (h.push { cls := .type "dict", data := .dict #[] }) h.objs.size (.dK []) :=
  ⟨Nat.zero_le _, beq_eq_false_iff_ne.mpr (Ne.symm (Nat.ne_of_lt hb)), [], .nil, Heap.DictOf.new h⟩
/-- {}, to be a dict of the kind that is wanted -/
def tDNewK : TE := fun _ H Q => ∀ p, H p = none → Q (.ref p) (upd H p (.dK []))
section
variable {X : Cx} {pos : Pos}
theorem pe_dnewK : PE X (.Dict [] [] pos) tDNewK := fun pins s σ H Q I h =>
  wpAny_Dict_empty ⟨.ref s.heap.objs.size, _, I.laid (a := s.heap.objs.size) (o := .dK []) (t' := s.toks) (fun _ _ q => Heap.get?_push_of_some _ q) (Nat.le_refl _) (dk_empty s.heap I.big), rfl, h _ (I.hok.fresh (Nat.le_refl _))⟩
end
/-- a method call o.m(e) of a built-in, with one argument: what must be seen of the text -/
structure M1 (X : Cx) (o : Expr) (m : Str) (apos : Pos) (e : Expr) (cpos : Pos) : Prop where
  base : attributeBase o m X.env (eval o X.env) = eval o X.env
  few : ((backTo cpos (starEach [e] X.env)).all (fun x => !x.1) && (backToKw cpos (keywordEach [] X.env)).all (fun x => x.1.isSome)
    && decide (([e] : List Expr).length + ([] : List Keyword).length + (if ([] : List Keyword).isEmpty then 0 else 1) < 30)) = true
  line : (apos.endLine == cpos.line) = true
  trees : backTo cpos (starEach [e] X.env) = [(false, eval e X.env)]
/-- a is a dict, whatever its keys -/
def IsD (H : Hp) (a : Addr) : Prop := (∃ kvs, Rd H a (.dK kvs)) ∨ ∃ kvs, Rd H a (.dT kvs)
theorem isD_at {X : Cx} {pins : List (Addr × Obj)} {σ : St} {H : Hp} {s : Shared} {a : Addr} (I : Inv X pins σ H s) (d : IsD H a) :
    s.TypeIs (.ref a) "dict" ∧ (∀ b, Value.ref a = .ref b → ∃ ob, s.heap.get? b = some ob ∧ ob.dict = none) ∧ (a == sysModules) = false := by
  rcases d with ⟨kvs, e⟩ | ⟨kvs, e⟩
  · obtain ⟨_, hd, vs, _, dd⟩ := dk_rd I.hok e
    refine ⟨dd.typeIs, fun b q => ?_, hd⟩
    cases q
    obtain ⟨ob, _, _, h1, h2, _⟩ := dd
    exact ⟨ob, h1, h2.2.1⟩
  · obtain ⟨_, hd, xs, _, dd⟩ := dt_rd I.hok e
    refine ⟨dd.typeIs, fun b q => ?_, hd⟩
    cases q
    obtain ⟨ob, _, _, h1, h2, _⟩ := dd
    exact ⟨ob, h1, h2.2.1⟩

/-- d.pop(k): there; d.pop(k, x): there or not -/
def tDPop1 (td ty : TE) : TE := fun σ H Q => td σ H fun x H1 => ∃ a, x = .ref a ∧ IsD H1 a ∧ ty σ H1 fun y H2 => ∃ kvs k v, H2 a = some (.dK kvs) ∧ y = kV k ∧ valV kvs k = some v ∧ Q v (upd H2 a (.dK (dropK kvs k)))
section
variable {X : Cx} {o e f : Expr} {apos cpos : Pos} {td ty tx : TE}
theorem pe_dpop1 (ho : PE X o td) (he : PE X e ty) (m : M1 X o "pop" apos e cpos) : PE X (.Call (.Attribute o "pop" apos) [e] [] cpos) (tDPop1 td ty) := by
  intro pins s σ H Q I h
  refine wpAny_Call_method m.base m.few m.line PySem.F.plainAttrs_dict PySem.F.slot_dict_pop PySem.F.type_dict_pop (thn (ho pins s σ H _ I h) fun u s1 ⟨x, H1, I1, rx, a, ex, d, q1⟩ => ?_)
  subst ex
  obtain rfl : u = Value.ref a := rx
  obtain ⟨t1, t2, _⟩ := isD_at I1 d
  refine ⟨t1, t2, ?_⟩
  rw [m.trees]
  refine Calls.callWith_builtin rfl (Calls.evalArgs_plain (Calls.spliced_cons (thn (he pins s1 σ H1 _ I1 q1) fun iv s2 ⟨y, H2, I2, ry, kvs, k, v, ea, ey, l, q2⟩ => Calls.spliced_nil ?_)))
  subst ey
  exact d_pop I2 ea ry l (.inl rfl) fun w' s3 I3 rw' => ⟨v, _, I3, rw', q2⟩
end
end L2
namespace Att
open PySem PySem.W PySem.Calls PyProof.Rows
theorem ints_of_wellAll {P : Params} {h : Heap} : ∀ (ns : List Int) (vs : List Value), WellAll P h vs (ns.map WData.int) → IntsAre vs ns := by
  intro ns
  induction ns with
  | nil =>
    intro vs w
    rw [List.map_nil] at w
    cases w
    exact .nil
  | cons n ns ih =>
    intro vs w
    rw [List.map_cons] at w
    cases w with
    | cons a b =>
      cases a
      exact .cons _ _ (ih _ b)

theorem script_of {l : OpenLaw} {n : Nat} (hn : l.most = some n) {P : Params} {h : Heap} {args : List WData} {vals : List Value}
    (hpre : l.row.toRowW.claim.pre args = true) (hwl : WellAll P h vals args) :
    ∃ a vs ns, vals = [Value.ref a] ∧ args = [WData.list (ns.map WData.int)] ∧ h.get? a = some { cls := .type "list", data := .seq vs.toArray } ∧ IntsAre vs ns ∧ ns.length ≤ n := by
  have hsh : WShape.hasAll [] args [.list .int] = true := (pre_splitW hpre).1
  have hc : l.pre.holds [] { args := args } = true := (pre_splitW hpre).2
  obtain ⟨d, r, rfl, h1, h2⟩ := hasAllW_cons hsh
  obtain rfl := hasAllW_nil h2
  obtain ⟨xs, rfl, h3⟩ := hasW_list h1
  obtain ⟨ns, rfl⟩ := items_int h3
  have hlen : ns.length ≤ n := by
    unfold OpenLaw.pre at hc
    have h4 : (WTm.not (.lt (.lit (.int (n : Int))) (.len (.arg 0)))).holds [] { args := [.list (ns.map .int)] } = true := by
      have h4 := (holds_andW hc).1
      rw [hn] at h4
      exact h4
    have h5 := condW_of h4 (w_not (w_lt w_lit (w_len_list (w_arg rfl))))
    rw [List.length_map] at h5
    refine Nat.le_of_not_lt fun q => ?_
    have q' : (n : Int) < ((ns.length : Nat) : Int) := by omega
    first
      | (rw [decide_eq_true q'] at h5; exact absurd h5 (by decide))
      | (simp at h5; omega)
  cases hwl with
  | cons w1 w2 =>
    cases w2
    cases w1 with
    | list ho hall => exact ⟨_, _, ns, rfl, rfl, ho, ints_of_wellAll ns _ hall, hlen⟩

theorem post_true (l : OpenLaw) (args : List WData) : l.row.toRowW.claim.post args (.bool true) args = true :=
  postW_of (r := l.row.toRowW) (X := (true == true))
    (show WShape.has [] (.bool true) .bool = true by first | rfl | decide | simp [WShape.has, WShape.arms, WShape.armsAll])
    (show (WTm.eq .res (.lit (.bool true))).value [] { args := args, res := some (.bool true), after := args } = some (.bool (true == true)) from w_eq_bool (w_res rfl) w_lit) rfl

/-- the same from a codeAny of the CALL (for a layer whose function contracts speak of calls) -/
theorem attach_call {l : OpenLaw} {n : Nat} {q : Program} {loose : List Str} {XP : (Str → Option Value) → Heap → Prop} {YP : World → Heap → Prop} {d : DefRec}
    (hn : l.most = some n) (hdf : d.params.defaults = [])
    (call : ∀ (w : World) (s₀ s₁ : Shared) (mg mb : Str → Option Value) (fa : Addr) (o : Obj) (pm cd doc : Value) (a : Addr) (vs : List Value) (ns : List Int),
      Ground q loose [] XP w s₀ mg mb s₁.heap → YP w s₁.heap →
      s₁.heap.get? fa = some o → o.data = .func (docDef d.name d.params d.body d.scope pm cd doc) → s₁.heap.CodeRec cd d.name → mg d.name = some (.ref fa) →
      s₁.heap.get? a = some { cls := .type "list", data := .seq vs.toArray } → IntsAre vs ns → ns.length ≤ n → s₁.gens = #[] →
      codeAny (model l.prog w) callerA (.call (.ref fa) ⟨[.ref a], []⟩) (fun r s' => r = .ok (.ret (.bool true)) ∧ OldK s₁.heap s'.heap ∧ s'.os = s₁.os ∧ AllBare s'.gens) s₁) :
    WalkO q loose XP YP l.row.toRowW d [] (fun f vs => PySem.call f vs) := by
  intro w s₀ s₁ mg mb G Y fa o pm cd doc dV kV ho hd hcd hD hmg hg args vals as hpre hlay hrd hwl hlo
  obtain rfl : dV = .none := Dflts.none hD hdf
  obtain rfl : kV = .none := Dflts.noKw hD
  obtain ⟨a, vs, ns, rfl, rfl, hobj, hints, hlen⟩ := script_of hn hpre hwl
  refine enter_call (codeAny_mono (call w s₀ s₁ mg mb fa o pm cd doc a vs ns G Y ho (fd_plain hd) hcd hmg hobj hints hlen hg) fun r s' hq => ?_)
  obtain ⟨rfl, h2, h3, h4⟩ := hq
  exact ⟨.inl ⟨.bool true, .bool true, [], rfl, fun _ => rfl, .bool true, post_true l _, fun _ => ⟨List.Pairwise.nil, fun _ hm => (nomatch hm)⟩⟩, h2, h3, h4⟩

end Att
namespace L2
open PySem PySem.Spec PyProof.Rows
theorem vals_ints : ∀ {vs : List Value} {ns : List Int}, IntsAre vs ns → Vals (ns.map V.int) vs
  | _, _, .nil => .nil
  | _, _, .cons n t h => .cons ⟨t, rfl⟩ (vals_ints h)

/-- nothing is tracked but the script, known to the object (or it is an object of the module) -/
def Only (H : Hp) : Prop := ∀ b, H b = none ∨ ∃ o xs, H b = some (.frz o (.lst xs))

/-- THE HEAD: the law's promise, at the heap behind the top. F, the promise of the law's def, may use that base is part of the heap (so K.In base, base.Ns mainGlobals mg stand in Mod) -/
theorem law_call {P : Program} {w : World} {K : PySem.W.Frag} {mg mb : Str → Option Value} {CX : CXT} {k : Nat} {fa a : Addr} {fd : FuncData} {x : Str} {sp : Sp} {s₁ : Shared} {vs : List Value} {ns : List Int}
    (KX : K.In s₁.heap) (hns : s₁.heap.Ns mainGlobals mg) (hb : s₁.heap.Ns builtinsNs mb) (hbb : ∀ x : Str, x ≠ "__name__" → mb x = bootBuiltins x) (hlim : s₁.heap.NoLimit) (hg : s₁.gens = #[])
    (ha : s₁.heap.get? a = some { cls := .type "list", data := .seq vs.toArray }) (hi : IntsAre vs ns) (hl : ns.length ≤ sizeLine) (hr : Room k callerA)
    (F : ∀ base : Heap, K.In base → base.Ns mainGlobals mg → FnOk P w K mg base CX k fa fd [x] sp) (hbind : ∀ (s : Shared) (u : Value), BindsTo s fd ⟨[u], []⟩ [(x, u)])
    (hsp : ∀ H : Hp, Only H → SqL K H a (ns.map V.int) → sp [.ref a] H (fun v _ => v = .bl true) fun _ _ _ => False)
    (hCX : ∀ H e s', CX [] H s₁ (fun _ _ _ => False) e s' → False) :
    codeAny (model P w) callerA (.call (.ref fa) ⟨[.ref a], []⟩) (fun r s' => r = .ok (.ret (.bool true)) ∧ OldK s₁.heap s'.heap ∧ s'.os = s₁.os ∧ AllBare s'.gens) s₁ := by
  have rv := vals_ints hi
  have lenV := hi.length
  -- from an abstract heap in which nothing but the script may be tracked
  have core : ∀ H : Hp, Only H → SqL K H a (ns.map V.int) → HOk P w H s₁.heap → (∀ b, H b ≠ none → b = a) → (H a ≠ none → K.lookup a = none) →
      codeAny (model P w) callerA (.call (.ref fa) ⟨[.ref a], []⟩) (fun r s' => r = .ok (.ret (.bool true)) ∧ OldK s₁.heap s'.heap ∧ s'.os = s₁.os ∧ AllBare s'.gens) s₁ := by
    intro H hO hS hok hA hK
    have base_of : ∀ {b : Addr} {o : Obj}, s₁.heap.get? b = some o → H b = none → (hidT s₁.heap H).get? b = some o := fun e n => hidT_get e n
    have noA : ∀ {b : Addr} {o : Obj} {es : Array DictEntry} {ep : Nat}, s₁.heap.get? b = some o → o.data = .dict es ep → H b = none := fun {b o es ep} e d => by
      cases q : H b with
      | none => rfl
      | some u =>
        have e' : b = a := hA b (by rw [q]; simp)
        subst e'
        rw [ha] at e; cases e
        have d' : Data.seq vs.toArray _ = Data.dict es ep := d
        cases d'
    have nsK : ∀ {b : Addr} {m : Str → Option Value}, s₁.heap.Ns b m → (hidT s₁.heap H).Ns b m := fun {b m} ⟨o, es, ep, e, d, r⟩ => ⟨o, es, ep, base_of e (noA e d), d, r⟩
    have hKb : K.In (hidT s₁.heap H) := fun b o e => base_of (KX b o e) (by
      cases q : H b with
      | none => rfl
      | some u =>
        have e' : b = a := hA b (by rw [q]; simp)
        subst e'
        rw [hK (by rw [q]; simp)] at e; cases e)
    have hM : Mod K mg (hidT s₁.heap H) := ⟨hKb, nsK hns, ⟨mb, nsK hb, hbb⟩, let ⟨mc, h1, h2⟩ := hlim; ⟨mc, nsK h1, h2⟩⟩
    have e0 : Env0 P w K mg (hidT s₁.heap H) callerA [] s₁ H := ⟨rfl, hM, fun b o e => of_hidT e, Nat.le_of_eq (hidT_size _ _), trivial, fun b hb => absurd (show b ∈ ([] : List Addr) from hb) (by simp), hok, .of_eq hg⟩
    refine codeAny_mono ((F _ hKb (nsK hns)).run callerA [] s₁ H ⟨[.ref a], []⟩ [.ref a] [.ref a] _ _ hr e0 (hbind s₁ (.ref a)) (.cons rfl .nil) (hsp H hO hS)) fun r s' h => ?_
    cases r with
    | error e => exact (hCX H e s' h).elim
    | ok fl =>
      cases fl with
      | next => exact False.elim h
      | brk => exact False.elim h
      | cont => exact False.elim h
      | ret u =>
        obtain ⟨v, H', os, bare, un, hok', r', q⟩ := h
        have q' : v = .bl true := q
        subst q'
        obtain rfl : u = Value.bool true := r'
        refine ⟨rfl, OldK.of_keep fun b o e => ?_, os, bare⟩
        cases q : H b with
        | none => exact un.keep b o e q (by intro z; exact absurd (show b ∈ ([] : List Addr) from z) (by simp)) (by simp)
        | some u =>
          rcases hO b with z | ⟨ob, xs, z⟩
          · rw [q] at z; cases z
          · have z2 := un.frzs b ob _ z
            obtain ⟨e1, _⟩ := hok b _ z
            obtain ⟨e2, _⟩ := hok' b _ z2
            rw [e] at e1; cases e1
            exact e2
  cases hk : K.lookup a with
  | some o =>
    -- the script is one of the module's own objects
    have e := KX a o hk
    rw [ha] at e
    cases e
    refine core (fun _ => none) (fun _ => .inl rfl) (.inr ⟨_, vs.toArray, _, hk, rfl, rfl, rfl, by rw [List.size_toArray, lenV]; exact hl, by simpa using rv⟩) (fun b u z => by have z' : (none : Option HO) = some u := z; cases z') (fun b z => absurd rfl z) fun z => absurd rfl z
  | none =>
    refine core (fun b => if b = a then some (.frz { cls := .type "list", data := .seq vs.toArray } (.lst (ns.map V.int))) else none) (fun b => ?_) (.inl (.inr ⟨{ cls := .type "list", data := .seq vs.toArray }, if_pos rfl⟩)) (fun b u z => ?_) (fun b z => ?_) fun _ => hk
    · by_cases hb : b = a
      · exact .inr ⟨_, _, if_pos hb⟩
      · exact .inl (if_neg hb)
    · by_cases hb : b = a
      · have z' := (if_pos hb).symm.trans z
        cases z'
        subst hb
        exact ⟨ha, by rw [List.length_map]; exact hl, vs, _, rv, ha⟩
      · have z' := (if_neg hb).symm.trans z
        cases z'
    · by_cases hb : b = a
      · exact hb
      · exact absurd (if_neg hb) z
end L2
namespace L2
open PySem PySem.Spec PyProof.Rows
/-- the goal that k_head leaves (case hc), from the law's promise. F gives the function object fd (K's own) once, then the promise over every base -/
theorem walk_of {l : PySem.W.OpenLaw} {n k : Nat} {q : Program} {loose : List Str} {XP : (Str → Option Value) → Heap → Prop} {YP : World → Heap → Prop} {d : DefRec} {K : Params → PySem.W.Frag} {CX : World → CXT} {sp : World → Sp} {x : Str}
    (hn : l.most = some n) (hn2 : n ≤ sizeLine) (hdf : d.params.defaults = []) (hr : Room k callerA)
    (hY : ∀ (w : World) (h : Heap), YP w h → (K w.params).In h)
    (F : ∀ (w : World) (mg : Str → Option Value) (fa : Addr) (h : Heap), (K w.params).In h → h.Ns mainGlobals mg → mg d.name = some (.ref fa) →
      ∃ fd : FuncData, (∀ (s : Shared) (u : Value), BindsTo s fd ⟨[u], []⟩ [(x, u)]) ∧
        ∀ base : Heap, (K w.params).In base → base.Ns mainGlobals mg → FnOk l.prog w (K w.params) mg base (CX w) k fa fd [x] (sp w))
    (hsp : ∀ (w : World) (H : Hp) (a : Addr) (ns : List Int), ns.length ≤ n → Only H → SqL (K w.params) H a (ns.map V.int) → sp w [.ref a] H (fun v _ => v = .bl true) fun _ _ _ => False)
    (hCX : ∀ (w : World) (H : Hp) (s : Shared) (e : Value) (s' : Shared), CX w [] H s (fun _ _ _ => False) e s' → False) :
    PySem.W.WalkO q loose XP YP l.row.toRowW d [] (fun f vs => PySem.call f vs) := by
  refine Att.attach_call hn hdf fun w s₀ s₁ mg mb fa o pm cd doc a vs ns G Y ho hd hcd hmg hobj hints hlen hg => ?_
  have KX := hY w _ Y
  obtain ⟨fd, hb, hF⟩ := F w mg fa _ KX G.T.g hmg
  exact law_call KX G.T.g G.T.b G.T.builtins G.T.nolimit hg hobj hints (Nat.le_trans hlen hn2) hr hF hb (fun H hO hS => hsp w H a ns hlen hO hS) fun H e s' => hCX w H s₁ e s'
end L2
/- THE LAST THEOREM (shape; LID, My.* are yours):
   My.Adr: a structure of the addresses that your layer names (classes, functions); My.Txt K t: a structure (Prop) of the equations over K;
   My.txt_mk : {K} {implicit addresses ..} (e1 : nsIn K mainGlobals "law" = some (some (.ref f))) (e2 : K.lookup f = some ⟨oc, od, .func (fnOf "law" "law" params body scope dV kV doc pm an cdv ct), sl⟩) (e3 : codeIn K cdv "law" = true) .. : ∃ t, My.Txt K t
set_option maxRecDepth 100000 in
set_option maxHeartbeats 0 in
theorem PySem.Challenge.cw_LID_holds : PySem.Challenge.rw_LID.Holds := by
  w_on; o_law; k_head; (case hw => w_witness2)
  k_fill
  refine L2.walk_of (l := PySem.Challenge.rw_LID) (n := 63) (k := 40) (x := "script") (CX := fun w => ..) (sp := fun _ => My.sp_law) rfl (by decide) rfl ⟨rfl, by decide, by decide⟩ (fun w h Y => PySem.W.kIn_of Y) ?F ?S ?C
  case F =>
    intro w mg fa h KX G hmg
    have T : ∃ t, My.Txt (L2.KOf KX) t := by
      dsimp only [L2.KOf]                          -- K must stand as «<heap const> w.params» for k_is
      refine' My.txt_mk ?e1 ?e2 ?e3 ..
      (case e1 => PySem.W.k_is)                    -- in the order: a name -> its address -> its object -> its parts
      (case e2 => PySem.W.k_is)
      ..
    obtain ⟨t, T⟩ := T
    have e0 := hmg.symm.trans (PySem.W.mg_of KX G T.law)
    cases e0                                       -- fa is the law's own address
    exact ⟨_, fun s u => .of_eq rfl, fun base kb nb => My.law_fn T kb nb⟩     -- if «.of_eq rfl» comes too early: refine' ⟨_, ?b, fun base kb nb => My.law_fn T kb nb⟩; exact fun s u => .of_eq rfl
  case S => exact fun w H a ns hl hO hS => ..
  case C => exact ..
(the tactic k_is has no namespace: write k_is) -/
namespace L2
open PySem PySem.Spec PyProof.Rows
def defArgs (s : Stmt) : Arguments := match s with
  | .FunctionDef _ a _ _ _ _ _ _ _ _ => a
  | _ => { posonlyargs := [], args := [], vararg := none, kwonlyargs := [], kw_defaults := [], kwarg := none, defaults := [] }
def defBody (s : Stmt) : List Stmt := match s with
  | .FunctionDef _ _ b _ _ _ _ _ _ _ => b
  | _ => []
def defScope (s : Stmt) : Scope := match s with
  | .FunctionDef _ _ _ _ _ _ sc _ _ _ => sc
  | _ => { kind := .function, names := [], isGenerator := false, isCoroutine := false }

abbrev CX0 : CXT := fun _ _ _ _ _ _ => False
abbrev E0 : XK := fun _ _ _ => False
theorem pass0 {X : Cx} : Passes CX0 X E0 := fun _ _ _ _ _ _ _ h => h.elim

structure Fun (K : PySem.W.Frag) (x qual : Str) (st : Stmt) (f : Addr) (fd : FuncData) : Prop where
  ex : ∃ (oc : Value) (od : Option Addr) (kV doc pm : Value) (an : Option Addr) (cdv ct : Value) (osl : Array (Option Value)),
    fd = PySem.W.fnOf x qual (defArgs st) (defBody st) (defScope st) .none kV doc pm an cdv ct ∧ K.lookup f = some ⟨oc, od, .func fd, osl⟩ ∧ PySem.W.codeIn K cdv qual = true
  kp : PySem.W.keepIn K (.ref f) = true
section
variable {P : Program} {w : World} {K : PySem.W.Frag} {mg : Str → Option Value} {base : Heap}
/-- THE RULE for a def: its body as a term of rules, and the reading of that term -/
theorem Fun.ok {x qual : Str} {st : Stmt} {f : Addr} {fd : FuncData} {N ps : List Str} {k : Nat} {sp : Sp} (F : Fun K x qual st f fd) (S : FnScope N ps (defScope st)) (len : ∀ vs H Q E, sp vs H Q E → vs.length = ps.length)
    (hbody : ∀ (cdv : Value) (A : Around) (outer : List Env) (s : Shared) (H : Hp) (vs : List V) (Q : VK) (E : XK), Room k (A.deeper (envOfC qual (defScope st) s.heap.objs.size f cdv)) → sp vs H Q E →
      ∃ t, PSs (cxOf CX0 P w K mg base N qual (defScope st) f cdv A outer s H E).nox (defBody st) t ∧ t { nx := fun _ H' => Q .non H', rt := Q } (start N vs) H) : FnOk P w K mg base CX0 (k + 1) f fd ps sp := by
  obtain ⟨oc, od, kV, doc, pm, an, cdv, ct, osl, rfl, lk, hcd⟩ := F.ex
  refine fn_of lk hcd S len fun A outer s H vs Q E hr hsp => ?_
  obtain ⟨t, h, q⟩ := hbody cdv A outer s H vs Q E hr hsp
  exact ⟨t, h.nox, q⟩
/-- how its arguments bind (no defaults): h is «fun _ _ _ _ _ _ us hl => match us, hl with | [_, _], _ => rfl», one _ a parameter -/
theorem Fun.binds {x qual : Str} {st : Stmt} {f : Addr} {fd : FuncData} {ps : List Str} (F : Fun K x qual st f fd)
    (h : ∀ (kV doc pm : Value) (an : Option Addr) (cdv ct : Value) (us : List Value), us.length = ps.length → bindArgs (PySem.W.fnOf x qual (defArgs st) (defBody st) (defScope st) .none kV doc pm an cdv ct) ⟨us, []⟩ = pure (ps.zip us)) : Binds K fd ps [] := by
  obtain ⟨oc, od, kV, doc, pm, an, cdv, ct, osl, rfl, lk, hcd⟩ := F.ex
  exact .all (h kV doc pm an cdv ct)
theorem fun_mk {x qual : Str} {st : Stmt} {f : Addr} {oc : Value} {od an : Option Addr} {osl : Array (Option Value)} {kV doc pm cdv ct : Value} (l : K.lookup f = some ⟨oc, od, .func (PySem.W.fnOf x qual (defArgs st) (defBody st) (defScope st) .none kV doc pm an cdv ct), osl⟩)
    (c : PySem.W.codeIn K cdv qual = true) (k : PySem.W.keepIn K (.ref f) = true) : Fun K x qual st f (PySem.W.fnOf x qual (defArgs st) (defBody st) (defScope st) .none kV doc pm an cdv ct) := ⟨⟨oc, od, kV, doc, pm, an, cdv, ct, osl, rfl, l, c⟩, k⟩
end
theorem hu_of {A : Around} {k : Nat} (hr : Room k A) : A.units + 1 < cLine := Nat.lt_of_le_of_lt (Nat.add_le_add_left (by decide : 1 ≤ 64) _) hr.units
theorem small1000 {n : Nat} (h : n ≤ 1000) : n < sizeLine := Nat.lt_of_le_of_lt h (by decide)

section
variable {X : Cx}
theorem pv (i : Nat) {x : Str} {pos : Pos} (hN : X.N[i]? = some x := by rfl) (hv : Vis X.env.scope x := by first | exact Or.inl rfl | exact Or.inr (Or.inl rfl) | exact Or.inr (Or.inr rfl)) (hd : (x == ("__debug__" : Str)) = false := by decide)
    (hcd : (x == ("__classdict__" : Str)) = false := by decide) : PE X (.Name x pos) (tVar i) := pe_var hN hv hd hcd
/-- len of a dict -/
theorem call_lenD : CallR X (.builtin "len") (fun xs H Q => ∃ a kvs, xs = [V.ref a] ∧ H a = some (.dK kvs) ∧ Q (.int kvs.length) H) := by
  intro pins s σ H xs us Q I r h
  obtain ⟨a, kvs, rfl, ha, q⟩ := h
  obtain ⟨u, rfl, ru⟩ := vals1 r
  cases ru
  exact d_len I (.inl ha) fun t s' I' => ⟨.int kvs.length, H, I', ⟨t, rfl⟩, q⟩
end
theorem iteF {A B : Prop} (h : B) : if false = true then A else B := by
  rw [if_neg Bool.false_ne_true]
  exact h
theorem iteT {A B : Prop} (h : A) : if true = true then A else B := by
  rw [if_pos rfl]
  exact h
theorem ite2 {c A B : Prop} [Decidable c] (h1 : c → A) (h2 : ¬ c → B) : if c then A else B := by
  by_cases h : c
  · rw [if_pos h]
    exact h1 h
  · rw [if_neg h]
    exact h2 h
/-- all that was tracked is as it was -/
def Same (H H' : Hp) : Prop := ∀ b o, H b = some o → H' b = some o
theorem Same.trans {H H1 H2 : Hp} (a : Same H H1) (b : Same H1 H2) : Same H H2 := fun c o h => b c o (a c o h)
end L2
set_option maxHeartbeats 4000000
namespace L2
open PySem PySem.Spec PyProof.Rows
/-- the cells that a block closes over -/
def closes (env : Env) : List (Str × NameKind) → List (Str × Addr) → List (Str × Addr)
  | [], cs => cs
  | (n, k) :: r, cs => closes env r (if k = .free then (n, (env.cells.lookup n).getD 0) :: cs else cs)
theorem closes_ok {env : Env} : ∀ (ns : List (Str × NameKind)) (cs : List (Str × Addr)), (∀ p ∈ ns, p.2 = .free → (env.cells.lookup p.1).isSome = true) →
    (forIn ns cs fun (x : Str × NameKind) r => (do
      let mut cs := r
      if x.2 == .free then cs := (x.1, ← cellOf env x.1) :: cs
      pure (ForInStep.yield cs) : Sem (ForInStep (List (Str × Addr))))) = pure (closes env ns cs)
  | [], cs, _ => rfl
  | (n, k) :: r, cs, h => by
    have ih := fun cs => closes_ok (env := env) r cs fun p hp => h p (List.mem_cons_of_mem _ hp)
    rw [List.forIn_cons]
    by_cases hk : k = .free
    · subst hk
      have q := h (n, .free) List.mem_cons_self rfl
      obtain ⟨c, hc⟩ := Option.isSome_iff_exists.mp q
      have e : cellOf env n = pure c := by unfold cellOf; rw [hc]
      simp only [e]
      simp [closes, hc, ih]
      have := ih ((n, c) :: cs)
      simpa using this
    · have hb : (k == NameKind.free) = false := by simpa using hk
      simp [closes, hk]
      have := ih cs
      simpa using this
theorem closureFor_closes {scope : Scope} {env : Env} (h : ∀ p ∈ scope.names, p.2 = .free → (env.cells.lookup p.1).isSome = true) : closureFor scope env = pure (closes env scope.names []) := by
  have q := closes_ok (env := env) scope.names [] h
  unfold closureFor
  simp at q ⊢
  exact q
theorem closes_sub {env : Env} : ∀ (ns : List (Str × NameKind)) (cs : List (Str × Addr)), (∀ p ∈ ns, p.2 = .free → (env.cells.lookup p.1).isSome = true) → (∀ y c, cs.lookup y = some c → env.cells.lookup y = some c) →
    ∀ y c, (closes env ns cs).lookup y = some c → env.cells.lookup y = some c
  | [], cs, _, h, y, c, e => h y c e
  | (n, k) :: r, cs, h, hc, y, c, e => by
    unfold closes at e
    refine closes_sub r _ (fun p hp => h p (List.mem_cons_of_mem _ hp)) ?_ y c e
    intro y c e
    by_cases hk : k = .free
    · subst hk
      rw [if_pos rfl] at e
      obtain ⟨d, hd⟩ := Option.isSome_iff_exists.mp (h (n, .free) List.mem_cons_self rfl)
      rw [List.lookup_cons] at e
      cases q : y == n with
      | true =>
        rw [q] at e
        have : y = n := by simpa using q
        subst this
        rw [hd] at e ⊢
        exact e
      | false =>
        rw [q] at e
        exact hc y c e
    · rw [if_neg hk] at e
      exact hc y c e
theorem closes_keep {env : Env} {y : Str} : ∀ (ns : List (Str × NameKind)) (cs : List (Str × Addr)), (cs.lookup y).isSome = true → ((closes env ns cs).lookup y).isSome = true
  | [], cs, h => h
  | (n, k) :: r, cs, h => by
    unfold closes
    refine closes_keep r _ ?_
    split
    · rw [List.lookup_cons]
      split
      · rfl
      · exact h
    · exact h
theorem closes_has {env : Env} {y : Str} : ∀ (ns : List (Str × NameKind)) (cs : List (Str × Addr)), (y, NameKind.free) ∈ ns → ((closes env ns cs).lookup y).isSome = true
  | (n, k) :: r, cs, h => by
    unfold closes
    rcases List.mem_cons.mp h with e | e
    · cases e
      refine closes_keep r _ ?_
      rw [if_pos rfl, List.lookup_cons]
      simp
    · exact closes_has r _ e

/-- the context of a comprehension's block -/
def compCx (X : Cx) (scope : Scope) (N : List Str) (C : Addr) (s : Shared) (H : Hp) (ex : List Addr) (pins : List (Addr × Obj)) : Cx where
  prog := X.prog
  w := X.w
  K := X.K
  mg := X.mg
  base := X.base
  A := X.A
  N := N
  s₀ := s
  H₀ := H
  env := compEnvC scope (closes X.env scope.names []) C X.env
  outer := X.stack
  stack := X.stack
  ex := ex
  fn := fun _ => false
  calm := X.calm
  pn := X.pn ++ pins
  xe := fun _ _ => False
/-- the block's names at its start: the targets, then what it closes over -/
def cst (nT : Nat) (js : List Nat) (σ : St) : St := List.replicate nT none ++ js.map fun j => (σ[j]?).join
/-- what is asked of the block's scope: T the targets' names, F the names it closes over (at the places js of the frame) -/
structure CScope (X : Cx) (scope : Scope) (T F : List Str) (js : List Nat) : Prop where
  kind : scope.kind = .function
  nocell : ∀ y ∈ scope.names, y.2 ≠ .cell
  names : ∀ x ∈ scope.names, x.2 = .local → scope.names.lookup x.1 = some .local
  free : ∀ x ∈ scope.names, x.2 = .free → X.env.kindOf x.1 = some .cell
  loc : ∀ y ∈ T, (relabel scope X.env).names.lookup y = some .local
  cel : ∀ y ∈ F, (relabel scope X.env).names.lookup y = some .cell ∧ X.env.kindOf y = some .cell ∧ (y, NameKind.free) ∈ scope.names
  all : ∀ x ∈ (relabel scope X.env).names, (x.2 = .cell ∨ x.2 = .free) → (x.1, NameKind.free) ∈ scope.names
  js : js.map (fun j => X.N[j]?) = F.map some

section
variable {X : Cx} {scope : Scope} {T F : List Str} {js : List Nat}
theorem comp_inv {pins : List (Addr × Obj)} {σ : St} {H : Hp} {s : Shared} {h1 : Heap} {tk : Nat} {fp : List Addr} {m : Str → Option Value} (S : CScope X scope T F js) (I : Inv X pins σ H s)
    (hn : h1.Ns s.heap.objs.size m) (kk : ∀ b o, s.heap.get? b = some o → h1.get? b = some o) (hf : ∀ b ∈ fp, FpOk X pins H b ∧ ∃ o, s.heap.get? b = some o ∧ ∀ v, o.data ≠ .cell v) :
    Inv (compCx X scope (T ++ F) s.heap.objs.size s H fp pins) [] (cst T.length js σ) H { s with heap := h1, toks := tk } := by
  have sub := closes_sub (env := X.env) scope.names [] (fun p hp hk => by
    obtain ⟨c, e⟩ := I.ok.has p.1 (.inl (S.free p hp hk))
    rw [e]; rfl) (fun y c e => by simp at e)
  have ltC : ∀ y c, X.env.cells.lookup y = some c → c < s.heap.objs.size := fun y c e => by
    obtain ⟨v, z⟩ := I.cell y c e
    exact z.lt
  refine ⟨⟨I.ok.mod, ?_, I.ok.glob, I.ok.blt, Nat.le_refl _, fun x y c e1 e2 => I.ok.inj x y c (sub x c e1) (sub y c e2), fun x hx => ?_, fun x c hx => absurd hx Bool.false_ne_true, I.ok.hd, I.ok.frames, .inl rfl, fun b hb => ?_, I.bs, ?_, fun b o e hb => ?_, fun b hb hs => ?_, I.stack, I.stkFree⟩,
    rfl, I.bare, Un.kept kk, ⟨m, hn, fun i x v e1 e2 e3 => ?_⟩, fun x c e => ?_, I.hok.fresh (Nat.le_refl _), fun x c e => I.freeC x c (sub x c e), fun p hp => ?_, I.hok.kept kk, ?_⟩
  · show (relabel scope X.env).kind = .function
    exact S.kind
  · have hx : (relabel scope X.env).names.lookup x = some .cell ∨ (relabel scope X.env).names.lookup x = some .free := hx
    have hm : (x, NameKind.free) ∈ scope.names := by
      rcases hx with h | h
      · exact S.all _ (PySem.mem_of_lookup h) (.inl rfl)
      · exact S.all _ (PySem.mem_of_lookup h) (.inr rfl)
    exact Option.isSome_iff_exists.mp (closes_has scope.names [] hm)
  · obtain ⟨⟨f0, f1, f2, f3, f4, f5⟩, o, ho, _⟩ := hf b hb
    exact ⟨Nat.ne_of_lt (Heap.lt_size ho), fun x c e => f4 x c (sub x c e)⟩
  · exact Nat.le_trans I.ok.bsz I.sz
  · obtain ⟨⟨f0, f1, f2, f3, f4, f5⟩, _⟩ := hf b hb
    rcases f3 with z | z
    · exact I.ok.noex b o e z
    · exact absurd (Nat.lt_of_lt_of_le (Heap.lt_size e) (Nat.le_trans I.ok.bsz z)) (Nat.lt_irrefl _)
  · obtain ⟨⟨f0, f1, f2, f3, f4, f5⟩, _⟩ := hf b hb
    rcases List.mem_cons.mp (I.stkSub b hs) with z | z
    · exact f1 z
    · exact f2 z
  · -- a name's value
    have hi : T.length ≤ i := by
      by_cases hi : i < T.length
      · unfold cst at e2
        rw [List.getElem?_append_left (by simpa using hi), List.getElem?_replicate] at e2
        split at e2 <;> cases e2
      · exact Nat.not_lt.mp (by assumption)
    obtain ⟨k, rfl⟩ : ∃ k, i = T.length + k := ⟨i - T.length, by omega⟩
    have e1 : (T ++ F)[T.length + k]? = some x := e1
    rw [List.getElem?_append_right (by assumption)] at e1
    have e1 : F[k]? = some x := by simpa using e1
    unfold cst at e2
    rw [List.getElem?_append_right (by simp)] at e2
    have e2 : (js.map fun j => (σ[j]?).join)[k]? = some (some v) := by simpa using e2
    rw [List.getElem?_map] at e2
    cases ej : js[k]? with
    | none => rw [ej] at e2; cases e2
    | some j =>
      rw [ej] at e2
      have e2 : (σ[j]?).join = some v := by simpa using e2
      have e3' : σ[j]? = some (some v) := by
        cases q : σ[j]? with
        | none => rw [q] at e2; cases e2
        | some z => rw [q] at e2; cases z with
          | none => cases e2
          | some z => simp at e2; rw [e2]
      have eN : X.N[j]? = some x := by
        have q := congrArg (fun l => l[k]?) S.js
        simp only [List.getElem?_map, ej, e1] at q
        simpa using q
      obtain ⟨c1, c2, c3⟩ := S.cel x (List.mem_of_getElem? e1)
      obtain ⟨m0, hn0, hl⟩ := I.loc
      obtain ⟨u, ru, lk⟩ := hl j x v eN e3' (.inr (.inl c2))
      refine ⟨u, ru, ?_⟩
      rcases lk with ⟨z, _⟩ | ⟨_, c, ec, hc⟩
      · rw [c2] at z; cases z
      · obtain ⟨c', ec'⟩ := Option.isSome_iff_exists.mp (closes_has (env := X.env) scope.names [] c3)
        have := sub x c' ec'
        rw [ec] at this; cases this
        refine .inr ⟨.inl c1, c, ec', ?_⟩
        obtain ⟨o, ho, hd⟩ := hc
        exact ⟨o, kk _ _ ho, hd⟩
  · obtain ⟨v, o, ho, hd⟩ := I.cell x c (sub x c e)
    exact ⟨v, o, kk _ _ ho, hd⟩
  · have hp : p ∈ (X.pn ++ pins) ++ [] := hp
    rw [List.append_nil] at hp
    obtain ⟨e, n, ne, nf, d⟩ := I.pin p hp
    refine ⟨kk _ _ e, n, Nat.ne_of_lt (Heap.lt_size e), fun z => ?_, d⟩
    rcases List.mem_cons.mp (I.stkSub p.1 z) with q | q
    · exact ne q
    · exact nf q
  · unfold cst
    show _ = (T ++ F).length
    have q := congrArg List.length S.js
    simp at q
    simp [q]
/-- the tests of a clause -/
def PIf (X : Cx) (ifs : List Expr) (t : TT) : Prop :=
  ∀ (pins : List (Addr × Obj)) (s : Shared) (σ : St) (H : Hp) (Q : Bool → Hp → Prop), Inv X pins σ H s → t σ H Q →
    wpAny (model X.prog X.w) X.A (forIn ifs true fun c r => if r = true then do let ok ← isTrue c X.env (eval c X.env); pure (ForInStep.yield ok) else pure (ForInStep.yield r)) (TP X pins σ Q) X.xe s
def tYes : TT := fun _ H Q => Q true H
theorem pif_nil : PIf X [] tYes := fun pins s σ H Q I h => wpAny_tests_nil ⟨H, I, h⟩
theorem pif_one {c : Expr} {t : TT} (h : PT X c t) : PIf X [c] t := fun pins s σ H Q I hw => wpAny_tests_one (h pins s σ H Q I hw)

/-- what a turn of a block is to reach -/
def cturn (g : TG) (ti : TT) (te : TE) (D : Addr) (x : V) (σ : St) (ys : List V) (H : Hp) (N : St → List V → Hp → Prop) : Prop :=
  g x σ H fun σ2 H2 => ti σ2 H2 fun b H3 => if b = true then te σ2 H3 fun y H4 => H4 D = some (.lst ys) ∧ ys.length < sizeLine ∧ N σ2 (ys ++ [y]) (upd H4 D (.lst (ys ++ [y]))) else N σ2 ys H3
/-- the turns of a block, of the iterator J, the new list at D -/
def cgo (J : It) (g : TG) (ti : TT) (te : TE) (D : Addr) (σ : St) (H : Hp) (Q : VK) : Prop :=
  ∃ W : Nat → Nat → St → List V → Hp → Prop, (∃ m, W 0 m σ [] (upd H D (.lst []))) ∧ ∀ i m σ ys H, W i m σ ys H → H D = some (.lst ys) ∧
    ((J.stop i H ∧ Q (.ref D) H) ∨ (J.go i H ∧ ∃ N : St → List V → Hp → Prop, (∀ σ' ys' H', N σ' ys' H' → ∃ m', m' < m ∧ W (i + 1) m' σ' ys' H') ∧ ∀ x H', J.yld i H x H' → cturn g ti te D x σ ys H' N))
def tComp (wi : TI) (g : TG) (ti : TT) (te : TE) (nT : Nat) (js : List Nat) : TE := fun σ H Q => wi σ H fun J H1 => ∀ D, H1 D = none → cgo J g ti te D (cst nT js σ) H1 Q

/-- the block is through: what was there ahead of it is as it was -/
theorem comp_out {pins : List (Addr × Obj)} {σ σ' : St} {H H' : Hp} {s s' : Shared} {h' : Heap} {N : List Str} {fp : List Addr} (I : Inv X pins σ H s) (hf : ∀ b ∈ fp, FpOk X pins H b)
    (J : Inv (compCx X scope N s.heap.objs.size s H fp pins) [] σ' H' s') (sb : Heap.SameBut s.heap.objs.size s'.heap h') : Inv X pins σ H' { s' with heap := h' } := by
  have ne : ∀ b o, s.heap.get? b = some o → b ≠ s.heap.objs.size := fun b o e => Nat.ne_of_lt (Heap.lt_size e)
  have u := J.base
  have u' : Un (frs X.stack) fp H H' s.heap h' :=
    ⟨fun b o e n h1 h2 => sb.extBut b o (ne b o e) (u.keep b o e n h1 h2), fun b o e n h1 h2 => by
      obtain ⟨sl, q⟩ := u.slot b o e n h1 h2
      exact ⟨sl, sb.extBut b _ (ne b o e) q⟩, u.free, fun b o e h => by
      obtain ⟨o', q⟩ := u.there b o e h
      exact ⟨o', sb.extBut b _ (ne b o e) q⟩, u.tups, u.frzs, u.tbls⟩
  have nC : H' s.heap.objs.size = none := J.free
  have hok : HOk X.prog X.w H' h' := fun b o e => by
    refine (J.hok b o e).stay (fun c v hc q => sb.extBut c v ?_ q) (fun _ q => q) fun _ _ q => q
    rcases hc with z | z
    · rw [z]; intro z'; rw [z', nC] at e; cases e
    · intro z'; rw [z', nC] at z; cases z
  exact I.call' (s' := { s' with heap := h' }) J.os u' hok J.bare fun b hb => by
    obtain ⟨f0, f1, f2, f3, f4, f5⟩ := hf b hb
    exact ⟨f3, f1, f4, f5⟩

theorem comp_go {tg elt iter : Expr} {ifs : List Expr} {pos : Pos} {g : TG} {ti : TT} {te : TE} {wi : TI} {pins : List (Addr × Obj)} {σ : St} {H : Hp} {s : Shared} {use : Option (Value → Sem Unit)} {QQ : Value → Shared → Prop} {Q : VK} (S : CScope X scope T F js) (hc : X.calm = true)
    (hi : PI X tg iter wi) (hg : ∀ C s H ex pins, PG (compCx X scope (T ++ F) C s H ex pins) tg g) (hif : ∀ C s H ex pins, PIf (compCx X scope (T ++ F) C s H ex pins) ifs ti) (he : ∀ C s H ex pins, PE (compCx X scope (T ++ F) C s H ex pins) elt te)
    (I : Inv X pins σ H s) (h : tComp wi g ti te T.length js σ H Q)
    (fin : ∀ (D C : Addr) (s' : Shared) (H' : Hp) (m : Str → Option Value), s'.heap.Ns C m → Q (.ref D) H' → FpOk X pins H' C → (∀ h', Heap.SameBut C s'.heap h' → Inv X pins σ H' { s' with heap := h' }) →
      compPost (model X.prog X.w) X.A X.xe use QQ (.ref D) C (.ok .next) s')
    (hs : ∀ x, foldedSetIterable iter X.env x = pure x) :
    wpAny (model X.prog X.w) X.A (comprehension (.ListComp elt [⟨tg, iter, ifs, 0⟩] scope pos) scope X.env (firstIterPos [⟨tg, iter, ifs, 0⟩] pos) (newList []) false (eval iter X.env) use) QQ X.xe s := by
  refine wpAny_comprehension_free (use := use) rfl hs (closureFor_closes fun p hp hk => ?_) S.kind S.names (thn (hi pins s σ H _ I h) fun v s1 h1 => thn h1 fun itv s2 h2 => ?_)
  · obtain ⟨c, e⟩ := I.ok.has p.1 (.inl (S.free p hp hk))
    rw [e]; rfl
  obtain ⟨it, fp, tn, J, H2, rfl, I2, Tn, st2, f2, h2⟩ := h2
  obtain ⟨W, ⟨m0, w0⟩, turn⟩ := h2 s2.heap.objs.size I2.fresh
  refine wpAny_newObj_type (wpAny_newFunctionEnv S.nocell (by intro y hy; simp at hy) (fun h₁ hns₁ hsb₁ => ?_) S.kind)
  have I3 := I2.lnew (t' := s2.toks) (ys := []) (its := []) Paired.nil (Nat.zero_le _)
  generalize hs3 : ({ s2 with heap := s2.heap.push { cls := .type "list", data := .seq ([] : List Value).toArray }, toks := s2.toks } : Shared) = s3 at I3
  have hf3 : ∀ b ∈ fp, FpOk X pins (upd H2 s2.heap.objs.size (.lst [])) b ∧ ∃ o, s3.heap.get? b = some o ∧ ∀ v, o.data ≠ .cell v := fun b hb => by
    obtain ⟨f0, fr⟩ := f2 b hb
    obtain ⟨o, e, d⟩ := Tn.obj _ _ st2 b hb
    refine ⟨⟨by rw [upd_ne (Nat.ne_of_lt (Heap.lt_size e))]; exact f0, fr⟩, o, ?_, d⟩
    rw [← hs3]
    exact Heap.get?_push_of_some _ e
  have e3 : s3.heap = s2.heap.push { cls := .type "list", data := .seq ([] : List Value).toArray } := by rw [← hs3]
  have kk : ∀ b o, s3.heap.get? b = some o → h₁.get? b = some o := fun b o e => by
    rw [e3] at e
    exact hsb₁.extBut b o (Nat.ne_of_lt (Heap.lt_size e)) (Heap.get?_push_of_some _ e)
  have hns : h₁.Ns s3.heap.objs.size (fun x => ([] : List (Str × Value)).reverse.lookup x) := by rw [e3]; exact hns₁
  have I4 := comp_inv (tk := s3.toks + ([] : List (Str × Value)).length) S I3 hns kk hf3
  have stat : ∀ {H' : Hp} {pl : List (Addr × Obj)}, (∀ p ∈ pl, ∀ b ∈ fp, p.1 ≠ b) → (∀ b ∈ fp, H' b = none) → ∀ b ∈ fp, FpOk (compCx X scope (T ++ F) s3.heap.objs.size s3 (upd H2 s2.heap.objs.size (.lst [])) fp pins) pl H' b := fun {H' pl} hp hn b hb => by
    obtain ⟨⟨f0, f1, f2, f3, f4, f5⟩, o, e, d⟩ := hf3 b hb
    obtain ⟨x1, x2⟩ := I4.ok.exf b hb
    refine ⟨hn b hb, x1, I4.ok.exfs b hb, .inl hb, x2, fun p hq => ?_⟩
    rcases List.mem_append.mp hq with z | z
    · exact f5 p z
    · exact hp p z b hb
  have loop : codeAny (model X.prog X.w) X.A (.compLoop (.ListComp elt [⟨tg, iter, ifs, 0⟩] scope pos) 0 (.ref it) (.ref s2.heap.objs.size) (compEnvC scope (closes X.env scope.names []) s3.heap.objs.size X.env))
      (compPost (model X.prog X.w) X.A X.xe use QQ (.ref s2.heap.objs.size) s3.heap.objs.size) { s3 with heap := h₁, toks := s3.toks + ([] : List (Str × Value)).length } := by
    refine codeAny_loop rfl (fun n s' => ∃ i σ' ys H', Inv (compCx X scope (T ++ F) s3.heap.objs.size s3 (upd H2 s2.heap.objs.size (.lst [])) fp pins) [] σ' H' s' ∧ tn i s'.heap ∧ (∀ b ∈ fp, H' b = none) ∧ W i n σ' ys H') ?_ m0 ⟨0, _, [], _, I4, ?_, fun b hb => (hf3 b hb).1.1, w0⟩
    · rintro n s5 ⟨i, σ5, ys, H5, I5, st5, fr5, w5⟩
      show wpAny _ X.A ((compTurn (.ListComp elt [⟨tg, iter, ifs, 0⟩] scope pos) 0 (.ref it) (.ref s2.heap.objs.size) (compEnvC scope (closes X.env scope.names []) s3.heap.objs.size X.env)).onRaise (fun x => do noteFrame x _; theTreesLotGoes x)) _ _ s5
      refine wpAny_noted ?_
      rw [compTurn_list]
      refine wpAny_bind (wpAny_standAt (wpAny_bind ?_))
      obtain ⟨hD, tu⟩ := turn i n σ5 ys H5 w5
      rcases tu with ⟨stop, qq⟩ | ⟨go, NN, hNN, step⟩
      · refine thn (Tn.done (compCx X scope (T ++ F) s3.heap.objs.size s3 (upd H2 s2.heap.objs.size (.lst [])) fp pins) rfl rfl rfl hc i [] s5 σ5 H5 _ I5 (stat (pl := []) (fun _ hp => absurd hp List.not_mem_nil) fr5) st5 stop) fun r s6 ⟨hr, I6⟩ => ?_
        subst hr
        refine wpAny_pure ?_
        obtain ⟨m6, hn6, _⟩ := I6.loc
        have lC : s.heap.objs.size ≤ s.heap.objs.size := Nat.le_refl _
        exact fin _ _ s6 H5 m6 hn6 qq (I3.fpOk (Nat.le_refl _) I6.free) fun h' sb => comp_out I3 (fun b hb => (hf3 b hb).1) I6 sb
      · refine thn (Tn.item (compCx X scope (T ++ F) s3.heap.objs.size s3 (upd H2 s2.heap.objs.size (.lst [])) fp pins) rfl rfl rfl hc i [] s5 σ5 H5 _ I5 (stat (pl := []) (fun _ hp => absurd hp List.not_mem_nil) fr5) st5 go) fun r s6 ⟨u, hr, h6⟩ => ?_
        subst hr
        refine wpAny_bind (thn h6 fun _ s7 ⟨x, H7, I7, r7, y7, st7, fr7⟩ => ?_)
        have I7' := I7.pinned (stat (pl := []) (fun _ hp => absurd hp List.not_mem_nil) fr7) (Tn.obj _ _ st7)
        have back : ∀ {σ8 : St} {H8 : Hp} {s8 : Shared} {ys8 : List V} {m' : Nat}, Inv (compCx X scope (T ++ F) s3.heap.objs.size s3 (upd H2 s2.heap.objs.size (.lst [])) fp pins) ([] ++ pinsAt fp s7.heap) σ8 H8 s8 → m' < n → W (i + 1) m' σ8 ys8 H8 →
            ∃ m, m < n ∧ ∃ i σ' ys H', Inv (compCx X scope (T ++ F) s3.heap.objs.size s3 (upd H2 s2.heap.objs.size (.lst [])) fp pins) [] σ' H' s8 ∧ tn i s8.heap ∧ (∀ b ∈ fp, H' b = none) ∧ W i m σ' ys H' := fun {σ8 H8 s8 ys8 m'} I8 hm w8 => by
          refine ⟨m', hm, i + 1, σ8, ys8, H8, I8.unpinned, Tn.keep _ _ _ st7 fun b hb o e => (I8.pin (b, o) (List.mem_append_right _ (List.mem_append_right _ (mem_pinsAt hb e)))).1, fun b hb => ?_, w8⟩
          obtain ⟨o, e, d⟩ := Tn.obj _ _ st7 b hb
          exact (I8.pin (b, o) (List.mem_append_right _ (List.mem_append_right _ (mem_pinsAt hb e)))).2.1
        refine wpAny_bind (wpAny_mono (hg _ _ _ _ _ _ s7 σ5 H7 x u _ I7' r7 (step x H7 y7)) (fun _ s8 ⟨σ8, H8, I8, q8⟩ => ?_) fun _ _ z => z.elim)
        refine wpAny_bind (wpAny_mono (hif _ _ _ _ _ _ s8 σ8 H8 _ I8 q8) (fun ok s9 ⟨H9, I9, q9⟩ => ?_) fun _ _ z => z.elim)
        cases ok with
        | false =>
          rw [if_neg Bool.false_ne_true] at q9
          obtain ⟨m', hm, w9⟩ := hNN _ _ _ q9
          exact wpAny_pure ⟨rfl, back I9 hm w9⟩
        | true =>
          rw [if_pos rfl] at q9
          refine wpAny_bind (wpAny_bind (wpAny_mono (he _ _ _ _ _ _ s9 σ8 H9 _ I9 q9) (fun yv s10 ⟨y, H10, I10, r10, d10, l10, q10⟩ => ?_) fun _ _ z => z.elim))
          obtain ⟨m', hm, w10⟩ := hNN _ _ _ q10
          obtain ⟨z10, its, n10, rv, el, eo⟩ := I10.lstM d10
          refine wpAny_bind (wpAny_list_append_plain (items := its.toArray) ⟨n10, eo⟩ (fun h' hl' sb' => ?_) (by simp; omega))
          obtain ⟨n11, eo'⟩ := hl'
          have I11 := I10.write (x := s2.heap.objs.size) (e := s2.heap.objs.size) (o := .lst (ys ++ [y])) (t' := s10.toks) (by rw [d10]; exact trivial) (.inl rfl) (fun b o hb e => sb'.extBut b o hb e) ⟨_, eo'⟩ ⟨by simp; assumption, its ++ [yv], n11, rv.append (.cons r10 .nil), by simpa using eo'⟩
          exact wpAny_pure (wpAny_pure ⟨rfl, back I11 hm w10⟩)
    · refine Tn.keep _ _ _ st2 fun b hb o e => kk b o ?_
      rw [e3]
      exact Heap.get?_push_of_some _ e
  have st1 : tn 0 h₁ := Tn.keep _ _ _ st2 fun b hb o e => kk b o (by rw [e3]; exact Heap.get?_push_of_some _ e)
  exact codeAny_compStart_list loop (Tn.self _ 0 _ _ _ st1 loop)

theorem pe_comp {tg elt iter : Expr} {ifs : List Expr} {pos : Pos} {g : TG} {ti : TT} {te : TE} {wi : TI} (S : CScope X scope T F js) (hc : X.calm = true)
    (hi : PI X tg iter wi) (hg : ∀ C s H ex pins, PG (compCx X scope (T ++ F) C s H ex pins) tg g) (hif : ∀ C s H ex pins, PIf (compCx X scope (T ++ F) C s H ex pins) ifs ti) (he : ∀ C s H ex pins, PE (compCx X scope (T ++ F) C s H ex pins) elt te)
    (hs : ∀ x, foldedSetIterable iter X.env x = pure x := by intro _; rfl) : PE X (.ListComp elt [⟨tg, iter, ifs, 0⟩] scope pos) (tComp wi g ti te T.length js) := by
  intro pins s σ H Q I h
  rw [eval_ListComp]
  exact comp_go (use := none) S hc hi hg hif he I h (fun D C s' H' m hn q _ hinv => ⟨m, hn, fun h' sb => ⟨.ref D, H', hinv h' sb, rfl, q⟩⟩) hs
/-- x = [.. for ..]: the frame's slot i -/
theorem ps_comp {i : Nat} {x : Str} {pos' spos : Pos} {tg elt iter : Expr} {ifs : List Expr} {pos : Pos} {g : TG} {ti : TT} {te : TE} {wi : TI} (hN : X.N.Nodup) (hx1 : X.N[i]? = some x) (hx2 : Loc X.env.scope x) (S : CScope X scope T F js) (hc : X.calm = true)
    (hi : PI X tg iter wi) (hg : ∀ C s H ex pins, PG (compCx X scope (T ++ F) C s H ex pins) tg g) (hif : ∀ C s H ex pins, PIf (compCx X scope (T ++ F) C s H ex pins) ifs ti) (he : ∀ C s H ex pins, PE (compCx X scope (T ++ F) C s H ex pins) elt te)
    (hsw : swapsWith (.ListComp elt [⟨tg, iter, ifs, 0⟩] scope pos) (some (.Name x pos')) spos.line X.env = pure true := by rfl)
    (hf : X.fn x = true ∨ X.env.scope.names.lookup x = some .local := by first | exact .inl rfl | exact .inr rfl | assumption)
    (hs : ∀ x, foldedSetIterable iter X.env x = pure x := by intro _; rfl) : PS X (.Assign [.Name x pos'] (.ListComp elt [⟨tg, iter, ifs, 0⟩] scope pos) spos) (tAsg (tComp wi g ti te T.length js) (gName i)) := by
  intro pins s σ H D I h
  rw [exec_Assign_Name_used _ _ _ _ hsw]
  refine wpAny_bind (wpAny_standAt (wpAny_bind ?_))
  show wpAny _ X.A (do let _ ← comprehension (.ListComp elt [⟨tg, iter, ifs, 0⟩] scope pos) scope X.env _ (newList []) false (eval iter X.env) (some (assign (.Name x pos') X.env))) _ _ s
  refine wpAny_bind (wpAny_mono (comp_go (use := some (assign (.Name x pos') X.env)) (QQ := fun _ s' => SP X pins D .next s') S hc hi hg hif he I h (fun d C s' H' m hn q fC hinv => ?_) hs) (fun _ s' hq => wpAny_pure (wpAny_pure hq)) fun _ _ e => e)
  have I1 : Inv X pins σ H' s' := hinv s'.heap (Heap.SameBut.refl ..)
  obtain ⟨oC, es, ep, ho, hd, hr⟩ := id hn
  obtain ⟨f0, f1, f2, f3, f4, f5⟩ := fC
  have I2 : Inv X (pins ++ [(C, oC)]) σ H' s' := I1.pins_of fun p hp => (List.mem_append.mp hp).elim (fun z => I1.pin p (List.mem_append_right _ z)) fun z => by
    have e := List.mem_singleton.mp z
    subst e
    exact ⟨ho, f0, f1, f2, fun v z => by rw [hd] at z; cases z⟩
  show wpAny _ X.A (assign (.Name x pos') X.env (.ref d)) _ _ _
  refine wpAny_assign_Name (store_ok (v := .ref d) I2 hN hx1 hx2 rfl (fun s'' I'' => ?_) hf)
  have e2 := (I''.pin (C, oC) (List.mem_append_right _ (List.mem_append_right _ (List.mem_singleton.mpr rfl)))).1
  refine ⟨m, ⟨oC, es, ep, e2, hd, hr⟩, fun h' sb => ?_⟩
  exact ⟨_, H', I''.unpinned.turned (t' := s''.toks) (it := C) (fun b o hb e => sb.extBut b o hb e) f0 f1 f3 f4 f5, q⟩
end
section
variable {g : TG} {ti : TT} {te : TE} {Q : VK} {D : Addr} {σ : St} {H : Hp}
theorem comp_list {K : PySem.W.Frag} {a : Addr} {xs : List V} (Pv : Nat → St → List V → Hp → Prop) (h0 : Pv 0 σ [] (upd H D (.lst []))) (hl : ∀ i σ ys H, i ≤ xs.length → Pv i σ ys H → SqL K H a xs ∧ H D = some (.lst ys))
    (hs : ∀ i x σ ys H, xs[i]? = some x → Pv i σ ys H → cturn g ti te D x σ ys H (Pv (i + 1))) (hd : ∀ σ ys H, Pv xs.length σ ys H → Q (.ref D) H) :
    cgo (Itl K a) g ti te D σ H Q := by
  refine ⟨fun i m σ ys H => m = xs.length - i ∧ i ≤ xs.length ∧ Pv i σ ys H, ⟨xs.length, by simp, Nat.zero_le _, h0⟩, ?_⟩
  rintro i m σ ys H ⟨rfl, hi, p⟩
  obtain ⟨q, hD⟩ := hl i σ ys H hi p
  refine ⟨hD, ?_⟩
  by_cases hlt : i < xs.length
  · refine .inr ⟨⟨xs, xs[i], q, by simp [hlt]⟩, Pv (i + 1), fun σ' ys' H' p' => ⟨xs.length - (i + 1), by omega, rfl, hlt, p'⟩, fun x H' y => ?_⟩
    obtain ⟨e, y⟩ := y
    subst e
    exact (hs i x σ ys _ (y xs q) p)
  · have e : i = xs.length := by omega
    subst e
    exact .inl ⟨⟨xs, q, Nat.le_refl _⟩, hd σ ys H p⟩
theorem comp_tup {K : PySem.W.Frag} {a : Addr} {xs : List V} (Pv : Nat → St → List V → Hp → Prop) (h0 : Pv 0 σ [] (upd H D (.lst []))) (hl : ∀ i σ ys H, i ≤ xs.length → Pv i σ ys H → SqT K H a xs ∧ H D = some (.lst ys))
    (hs : ∀ i x σ ys H, xs[i]? = some x → Pv i σ ys H → cturn g ti te D x σ ys H (Pv (i + 1))) (hd : ∀ σ ys H, Pv xs.length σ ys H → Q (.ref D) H) :
    cgo (Itt K a) g ti te D σ H Q := by
  refine ⟨fun i m σ ys H => m = xs.length - i ∧ i ≤ xs.length ∧ Pv i σ ys H, ⟨xs.length, by simp, Nat.zero_le _, h0⟩, ?_⟩
  rintro i m σ ys H ⟨rfl, hi, p⟩
  obtain ⟨q, hD⟩ := hl i σ ys H hi p
  refine ⟨hD, ?_⟩
  by_cases hlt : i < xs.length
  · refine .inr ⟨⟨xs, xs[i], q, by simp [hlt]⟩, Pv (i + 1), fun σ' ys' H' p' => ⟨xs.length - (i + 1), by omega, rfl, hlt, p'⟩, fun x H' y => ?_⟩
    obtain ⟨e, y⟩ := y
    subst e
    exact (hs i x σ ys _ (y xs q) p)
  · have e : i = xs.length := by omega
    subst e
    exact .inl ⟨⟨xs, q, Nat.le_refl _⟩, hd σ ys H p⟩
theorem comp_range {lo : Int} {n : Nat} (Pv : Nat → St → List V → Hp → Prop) (h0 : Pv 0 σ [] (upd H D (.lst []))) (hl : ∀ i σ ys H, i ≤ n → Pv i σ ys H → H D = some (.lst ys))
    (hs : ∀ i σ ys H, i < n → Pv i σ ys H → cturn g ti te D (.int (lo + i)) σ ys H (Pv (i + 1))) (hd : ∀ σ ys H, Pv n σ ys H → Q (.ref D) H) :
    cgo (Itr lo n) g ti te D σ H Q := by
  refine ⟨fun i m σ ys H => m = n - i ∧ i ≤ n ∧ Pv i σ ys H, ⟨n, by simp, Nat.zero_le _, h0⟩, ?_⟩
  rintro i m σ ys H ⟨rfl, hi, p⟩
  have hD := hl i σ ys H hi p
  refine ⟨hD, ?_⟩
  by_cases hlt : i < n
  · refine .inr ⟨hlt, Pv (i + 1), fun σ' ys' H' p' => ⟨n - (i + 1), by omega, rfl, hlt, p'⟩, fun x H' y => ?_⟩
    obtain ⟨e, y⟩ := y
    subst e y
    exact (hs i σ ys _ hlt p)
  · have e : i = n := by omega
    subst e
    exact .inl ⟨Nat.le_refl _, hd σ ys H p⟩
end
end L2
set_option maxHeartbeats 4000000
namespace L2
open PySem PySem.Spec PyProof.Rows
mutual
inductive Rep (K : PySem.W.Frag) (H : Hp) : V → PyData → Prop
  | non : Rep K H .non .none
  | bl (b : Bool) : Rep K H (.bl b) (.bool b)
  | int (i : Int) : Rep K H (.int i) (.int i)
  | str (x : Str) : Rep K H (.str x) (.str x)
  | lst {a : Addr} {xs : List V} {ds : List PyData} : SqL K H a xs → RepAll K H xs ds → Rep K H (.ref a) (.list ds)
  | tup {a : Addr} {xs : List V} {ds : List PyData} : SqT K H a xs → RepAll K H xs ds → Rep K H (.ref a) (.tuple ds)
inductive RepAll (K : PySem.W.Frag) (H : Hp) : List V → List PyData → Prop
  | nil : RepAll K H [] []
  | cons {x : V} {xs : List V} {d : PyData} {ds : List PyData} : Rep K H x d → RepAll K H xs ds → RepAll K H (x :: xs) (d :: ds)
end
mutual
theorem Rep.reads {X : Cx} {pins : List (Addr × Obj)} {σ : St} {H : Hp} {s : Shared} (I : Inv X pins σ H s) : ∀ {v : V} {d : PyData} {u : Value}, Rep X.K H v d → RelV v u → ∃ as, Reads s.heap u d as
  | _, _, _, .non, r => by cases r; exact ⟨_, .none⟩
  | _, _, _, .bl b, r => by cases r; exact ⟨_, .bool b⟩
  | _, _, _, .int i, r => by obtain ⟨t, rfl⟩ := r; exact ⟨_, .int i t⟩
  | _, _, _, .str x, r => by obtain ⟨t, rfl⟩ := r; exact ⟨_, .str x t⟩
  | _, _, _, .lst hq hx, r => by
    cases r
    obtain ⟨its, rv, hl, hz⟩ := I.list hq
    obtain ⟨as, ra⟩ := RepAll.reads I hx rv
    obtain ⟨o, ho, hc, n, hd⟩ := hl.isList
    exact ⟨_, .list ho hc hd ra⟩
  | _, _, _, .tup hq hx, r => by
    cases r
    obtain ⟨its, rv, hl, hz⟩ := I.tuple hq
    obtain ⟨as, ra⟩ := RepAll.reads I hx rv
    obtain ⟨o, ho, hc, n, hd⟩ := hl
    exact ⟨_, .tuple ho hc hd ra⟩
theorem RepAll.reads {X : Cx} {pins : List (Addr × Obj)} {σ : St} {H : Hp} {s : Shared} (I : Inv X pins σ H s) : ∀ {xs : List V} {ds : List PyData} {us : List Value}, RepAll X.K H xs ds → Vals xs us → ∃ as, ReadsAll s.heap us ds as
  | _, _, _, .nil, .nil => ⟨_, .nil⟩
  | _, _, _, .cons h t, .cons r rs => by
    obtain ⟨a, ra⟩ := Rep.reads I h r
    obtain ⟨b, rb⟩ := RepAll.reads I t rs
    exact ⟨_, .cons ra rb⟩
end
section
variable {X : Cx} {a b c e : Expr} {ta tb tc te : TE} {pos p2 : Pos}
theorem call_sum (hc : X.calm = true) : CallR X (.builtin "sum") (fun xs H Q => ∃ (p : Addr) (ns : List Int), xs = [.ref p] ∧ SqL X.K H p (ns.map V.int) ∧ Q (.int ns.sum) H) := by
  intro pins s σ H xs us Q I r h
  obtain ⟨p, ns, rfl, hq, q⟩ := h
  obtain ⟨u, rfl, rx⟩ := vals1 r
  cases rx
  obtain ⟨its, rv, hl, hz⟩ := I.list hq
  have hi := intsAre_of rv
  obtain ⟨ys, e⟩ := hi.allInts.items
  have hl' := hl.isList
  rw [e] at hl'
  refine sum_intListG (I.ok.hd hc) hl' fun h' tk t' hk => ⟨.int ns.sum, H, I.kept hk, ⟨t', ?_⟩, q⟩
  have e2 : ys.toList.map (·.1) = ns := by
    have q2 := nums_intItems ys
    rw [← e] at q2
    rw [← q2]
    exact hi.numsOf
  rw [preSum_eq, e2, List.take_of_length_le (by rw [← e2]; simp)]
/-- isinstance(x, T), T a built-in class -/
theorem call_isi : CallR X (.builtin "isinstance") (fun xs H Q => ∃ (x : V) (t : Value) (c : String) (b : Bool), xs = [x, .ty c] ∧ TyOf X.K H x t ∧ PySem.W.kitOne X.K t (.type c) = some b ∧ Q (.bl b) H) := by
  intro pins s σ H xs us Q I r h
  obtain ⟨x, t, c, b, rfl, ty, e, q⟩ := h
  obtain ⟨u, v, rfl, rx, ry⟩ := vals2 r
  cases ry
  exact isinst_ok I rx ty e fun tk => ⟨.bl b, H, I.tok tk, rfl, q⟩
/-- a built-in class by its name -/
theorem pe_ty {x : Str} {T : String} (hg : Gl X x) (hm : X.mg x = none) (hv : bootBuiltins x = some (.type T)) (hn : x ≠ "__name__" := by decide) (hd : (x == ("__debug__" : Str)) = false := by decide) : PE X (.Name x pos) (tC (.ty T)) :=
  fun pins s σ H Q I h => ld_blt I hg hm hv ⟨.ty T, H, I, rfl, h⟩ hn hd
/-- t + u of tuples, whichever is empty -/
def rCatTT (K : PySem.W.Frag) : R2 := fun x y H Q => ∃ (a b : Addr) (xs ys : List V), x = .ref a ∧ y = .ref b ∧ SqT K H a xs ∧ SqT K H b ys ∧ xs.length + ys.length ≤ sizeLine ∧
  (xs = [] → Q (.ref b) H) ∧ (xs ≠ [] → ys = [] → Q (.ref a) H) ∧ (xs ≠ [] → ys ≠ [] → ∀ p, H p = none → Q (.ref p) (upd H p (.tup (xs ++ ys))))
theorem op_catTT : OpR X (binaryOp .Add) (rCatTT X.K) := by
  intro pins s σ H x y u v Q I rx ry h
  obtain ⟨p, q, xs, ys, rfl, rfl, hx, hy, hz, h1, h2, h3⟩ := h
  cases rx; cases ry
  obtain ⟨its, r1, t1, z1⟩ := I.tuple hx
  obtain ⟨its2, r2, t2, z2⟩ := I.tuple hy
  have l1 := r1.length
  have l2 := r2.length
  by_cases e : xs = []
  · subst e
    have ei : its = [] := by cases its with | nil => rfl | cons _ _ => cases l1
    subst ei
    obtain ⟨⟨cls, dd, data, sl⟩, ho, hc, n, hd⟩ := id t1
    obtain ⟨⟨cls2, dd2, data2, sl2⟩, ho2, hc2, n2, hd2⟩ := id t2
    simp only at hc hd hc2 hd2
    subst hc hd hc2 hd2
    exact PySem.concat_meets ⟨_, ho, rfl⟩ ⟨_, ho2, rfl⟩ noFill_tuple_add seq_tuple_add PySem.F.slot_tuple_add PySem.F.entry_tuple_add (PySem.F.args_tuple_add_2 _ _)
      (tuple_addW0 p q _ _ n n2 dd dd2 sl sl2 (by rfl)) ⟨ho, ho2, ⟨.ref q, H, I, rfl, h1 rfl⟩⟩
  · refine HT.cat_tup t1 t2 (fun z => e ((Vals.nil_iff r1).mp z)) (fun z => ⟨.ref p, H, I, rfl, h2 e ((Vals.nil_iff r2).mp z)⟩) (fun z => ?_) (by omega)
    exact ⟨.ref s.heap.objs.size, _, I.laid (t' := s.toks) (o := .tup (xs ++ ys)) (fun b ob q => Heap.get?_push_of_some _ q) (Nat.le_refl _) ⟨by simpa using hz, its ++ its2, r1.append r2, IsTupN.new _ _⟩, rfl, h3 e (fun z' => z ((Vals.nil_iff r2).mpr z')) _ I.fresh⟩
end
section
variable {prog : Program} {w : World} {A : Around} {E : Value → Shared → Prop}
variable {s : Shared}
end
end L2
set_option maxHeartbeats 4000000
namespace L2
open PySem PySem.Spec PyProof.Rows
section
variable {X : Cx} {a b c e : Expr} {ta tb tc te : TE} {pos p2 : Pos}
theorem strsAre_of : ∀ {ys : List Str} {us : List Value}, Vals (ys.map V.str) us → StrsAre us ys
  | [], _, .nil => .nil
  | y :: ys, _, .cons h t => by
    obtain ⟨u, rfl⟩ := h
    exact .cons y u (strsAre_of t)
/-- sep.join(a list of texts) -/
def rJoin (K : PySem.W.Frag) : V → List V → Hp → VK → Prop := fun x vs H Q => ∃ (z : Str) (l : Addr) (ys : List Str), x = .str z ∧ vs = [.ref l] ∧ SqL K H l (ys.map V.str) ∧ (ys.map (·.length)).sum + ys.length * z.length ≤ 16777216 ∧ Q (.str (Txt.join z ys)) H
theorem mt_join : MtM X "str.join" (rJoin X.K) := by
  intro pins s σ H x xs v us Q I rx r h
  obtain ⟨z, l, ys, rfl, rfl, hl, hz, q⟩ := h
  obtain ⟨t, rfl⟩ := rx
  obtain ⟨u, rfl, ru⟩ := vals1 r
  cases ru
  obtain ⟨its, rv, hp, _⟩ := I.list hl
  exact join_list hp.isList (strsAre_of rv) hz fun t' k => ⟨.str _, H, I.tok k, ⟨t', rfl⟩, q⟩
end
def relab (scope osc : Scope) : Scope := { scope with names := scope.names.map fun (n, k) => if (k == .free && osc.kind == .function && osc.names.lookup n == some .cell) then (n, .cell) else (n, k) }
/-- what is asked of a block's scope, osc the def's -/
structure CS (osc scope : Scope) (T F : List Str) : Prop where
  kind : scope.kind = .function
  nocell : ∀ y ∈ scope.names, y.2 ≠ .cell
  names : ∀ x ∈ scope.names, x.2 = .local → scope.names.lookup x.1 = some .local
  free : ∀ x ∈ scope.names, x.2 = .free → osc.names.lookup x.1 = some .cell
  loc : ∀ y ∈ T, (relab scope osc).names.lookup y = some .local
  cel : ∀ y ∈ F, (relab scope osc).names.lookup y = some .cell ∧ osc.names.lookup y = some .cell ∧ (y, NameKind.free) ∈ scope.names
  all : ∀ x ∈ (relab scope osc).names, (x.2 = .cell ∨ x.2 = .free) → (x.1, NameKind.free) ∈ scope.names
theorem CS.to {X : Cx} {scope osc : Scope} {T F : List Str} {js : List Nat} (h : CS osc scope T F) (hj : js.map (fun j => X.N[j]?) = F.map some) (ho : X.env.scope = osc) : CScope X scope T F js := by
  subst ho
  exact ⟨h.kind, h.nocell, h.names, h.free, h.loc, h.cel, h.all, hj⟩
theorem PSs.imp' {X : Cx} {st : List PySem.Stmt} {t t' : TS} (h : PSs X st t) (f : ∀ D σ H, t' D σ H → t D σ H) : PSs X st t' := fun pins s σ H D I h' => h pins s σ H D I (f D σ H h')
end L2
set_option maxHeartbeats 4000000
namespace HT
open PySem PyProof.Rows L2
section
open PySem.SeqAt
open PySem.AutoSeq1 (wpAny_loadPart')
open PySem.MeetsSeq PySem.MeetsSeq2 PySem.MeetsSeq3
end
end HT
namespace L2
open PySem PySem.Spec PyProof.Rows
end L2
set_option maxHeartbeats 4000000
namespace L2
open PySem PySem.Spec PyProof.Rows
section
variable {X : Cx} {pins : List (Addr × Obj)} {σ : St} {H : Hp} {s : Shared}
/-- some untracked records of ours have turned -/
theorem Inv.turnedL {t' : Nat} {h' : Heap} (ch : List Addr) (I : Inv X pins σ H s) (k : ∀ b o, b ∉ ch → s.heap.get? b = some o → h'.get? b = some o) (hf : ∀ b ∈ ch, FpOk X pins H b) : Inv X pins σ H { s with heap := h', toks := t' } := by
  have out : ∀ b u, H b = some u → b ∉ ch := fun b u e z => by rw [(hf b z).1] at e; cases e
  have outL : X.env.locals ∉ ch := fun z => (hf _ z).2.1 rfl
  refine I.step (g' := s.gens) (d' := s.drawn) (ch := ch) (fun b hb => ⟨(hf b hb).2.2.2.1, (hf b hb).2.1, (hf b hb).2.2.2.2.1, (hf b hb).2.2.2.2.2⟩) (fun b o _ _ hc e _ => k b o hc e) (fun b o _ _ hc e _ => ⟨o.slots, k b o hc e⟩)
    (fun _ _ _ _ n => n) (fun b o hc e => ⟨o, k b o hc e⟩) (fun _ _ e => e) (fun _ _ _ e => e) (fun b ps e => ⟨#[], by rw [e]; simp⟩) (fun m hm => ?_) (fun b u e => ?_) I.bare
  · obtain ⟨o, es, ep, ho, r⟩ := hm
    exact ⟨o, es, ep, k _ o outL ho, r⟩
  · refine (I.hok b u e).stay (fun c v hc q => k c v ?_ q) (fun _ q => q) fun _ _ q => q
    rcases hc with z | z
    · rw [z]; exact out b u e
    · exact out c _ z
theorem FpOk.up {b T : Addr} {o : HO} (h : FpOk X pins H b) (n : b ≠ T) : FpOk X pins (upd H T o) b := ⟨by rw [upd_ne n]; exact h.1, h.2⟩
end
end L2
set_option maxHeartbeats 4000000
namespace PySem
open Builtin
end PySem
namespace PySem
open Builtin
/-- the objects of a zip and its two drawers lie apart -/
structure ZAp (z TI TO i1 i2 : Addr) (f1 f2 : List Addr) : Prop where
  a1 : TI ≠ z
  a2 : TO ≠ z
  a3 : i1 ≠ z
  a4 : i2 ≠ z
  a5 : TI ≠ TO
  a6 : TI ≠ i1
  a7 : TI ≠ i2
  a8 : TO ≠ i1
  a9 : TO ≠ i2
  b1 : i1 ≠ i2
  b2 : z ∉ f1
  b3 : z ∉ f2
  b4 : TO ∉ f1
  b5 : TO ∉ f2
  b6 : i1 ∉ f2
  b7 : i2 ∉ f1
section
variable {prog : Program} {w : World} {A : Around} {E : Value → Shared → Prop} {s : Shared} {z TI TO i1 i2 : Addr} {f1 f2 : List Addr} {n1 n2 : Nat} {P1 P2 : Nat → Value → Prop} {S1 S2 : Nat → Heap → Prop}
theorem zip_itemD {k : Nat} {a b : Value} {Q : Value → Shared → Prop} (D : ZAp z TI TO i1 i2 f1 f2) (D1 : Draws prog w A i1 f1 n1 P1 S1) (D2 : Draws prog w A i2 f2 n2 P2 S2)
    (hZ : IsZip s.heap z TI TO .none) (pI : IsPair s.heap TI (.ref i1) (.ref i2)) (pO : IsPair s.heap TO a b) (t1 : S1 k s.heap) (t2 : S2 k s.heap) (l1 : k < n1) (l2 : k < n2)
    (hQ : ∀ h' tk x y, P1 k x → P2 k y → IsZip h' z TI TO (rawInt s.heap.objs.size) → IsPair h' TO x y → S1 (k + 1) h' → S2 (k + 1) h' → IsPair h' s.heap.objs.size x y →
      (∀ c o, c ≠ z → c ≠ TO → c ≠ i1 → c ≠ i2 → s.heap.get? c = some o → h'.get? c = some o) → Q (.ref s.heap.objs.size) { s with heap := h', toks := tk }) :
    wpAny (model prog w) A (Builtin.«zip.__next__» ⟨[.ref z], []⟩) (fun fin s' => ∃ v, fin = .done (.ret v) ∧ Q v s') E s := by
  show wpAny _ _ (field (.ref z) 2 >>= fun _ => _) _ _ _
  refine wpAny_bind (wpAny_field hZ rfl (x := .bool false) rfl ?_)
  show wpAny _ _ (field (.ref z) 3 >>= fun _ => _) _ _ _
  refine wpAny_bind (wpAny_field hZ rfl (x := .ref TI) rfl ?_)
  refine wpAny_bind (wpAny_seqItems pI rfl ?_)
  show wpAny _ _ (Builtin.SmallTypes.ownedTupleIsFree (.ref z) >>= fun _ => _) _ _ _
  refine wpAny_bind ?_
  unfold Builtin.SmallTypes.ownedTupleIsFree
  refine wpAny_bind (wpAny_field hZ rfl (x := .none) rfl (wpAny_pure ?_))
  simp only [if_true]
  refine wpAny_bind (wpAny_rule (wpAny_bind (wpAny_field hZ rfl (x := .ref TO) rfl ?_)))
  refine wpAny_bind (wpAny_setField_rec hZ (by simp) fun g1 zg1 k1 => ?_)
  replace zg1 : IsZip g1 z TI TO .ellipsis := zg1
  refine wpAny_bind ?_
  simp only [List.zipIdx_cons, List.zipIdx_nil, List.forIn_cons, List.forIn_nil]
  refine wpAny_bind (wpAny_bind (wpAny_onRaise ?_))
  show wpAny _ _ (Builtin.SmallTypes.nextOf (.ref i1) >>= fun _ => _) _ _ _
  refine wpAny_bind (D1.item k _ _ _ l1 (D1.frame _ _ _ t1 fun c hc o e => k1.extBut _ _ (fun q => D.b2 (q ▸ hc)) e) fun x g2 tk2 px sg2 k2 => wpAny_pure ?_)
  have pO2 : IsPair g2 TO a b := k2.extBut _ _ D.a8 (k1.extBut _ _ D.a2 pO)
  refine wpAny_bind (wpAny_seqItems pO2 rfl (wpAny_bind (wpAny_updateSeq_pair pO2 fun g3 pO3 k3 => ?_)))
  replace pO3 : IsPair g3 TO x b := pO3
  refine wpAny_bind (wpAny_letGo (wpAny_pure (wpAny_bind (wpAny_bind (wpAny_onRaise ?_)))))
  show wpAny _ _ (Builtin.SmallTypes.nextOf (.ref i2) >>= fun _ => _) _ _ _
  have t2' : S2 k g3 := D2.frame _ _ _ t2 fun c hc o e => k3.extBut _ _ (fun q => D.b5 (q ▸ hc)) (k2.extBut _ _ (fun q => D.b6 (q ▸ hc)) (k1.extBut _ _ (fun q => D.b3 (q ▸ hc)) e))
  refine wpAny_bind (D2.item k _ _ _ l2 t2' fun y g4 tk4 py sg4 k4 => wpAny_pure ?_)
  have pO4 : IsPair g4 TO x b := k4.extBut _ _ D.a9 pO3
  refine wpAny_bind (wpAny_seqItems pO4 rfl (wpAny_bind (wpAny_updateSeq_pair pO4 fun g5 pO5 k5 => ?_)))
  replace pO5 : IsPair g5 TO x y := pO5
  refine wpAny_bind (wpAny_letGo (wpAny_pure (wpAny_pure (wpAny_bind (wpAny_seqItems pO5 rfl (wpAny_bind (wpAny_newTuple ?_)))))))
  have sz : g5.objs.size = s.heap.objs.size := by rw [k5.1, k4.1, k3.1, k2.1, k1.1]
  have zg5 : IsZip g5 z TI TO .ellipsis := k5.extBut _ _ D.a2.symm (k4.extBut _ _ D.a4.symm (k3.extBut _ _ D.a2.symm (k2.extBut _ _ D.a3.symm zg1)))
  have kk : ∀ c o, c ≠ z → c ≠ TO → c ≠ i1 → c ≠ i2 → s.heap.get? c = some o → g5.get? c = some o := fun c o c1 c2 c3 c4 e => k5.extBut _ _ c2 (k4.extBut _ _ c4 (k3.extBut _ _ c2 (k2.extBut _ _ c3 (k1.extBut _ _ c1 e))))
  have u1 : S1 (k + 1) g5 := D1.frame _ _ _ sg2 fun c hc o e => k5.extBut _ _ (fun q => D.b4 (q ▸ hc)) (k4.extBut _ _ (fun q => D.b7 (q ▸ hc)) (k3.extBut _ _ (fun q => D.b4 (q ▸ hc)) e))
  have u2 : S2 (k + 1) g5 := D2.frame _ _ _ sg4 fun c hc o e => k5.extBut _ _ (fun q => D.b5 (q ▸ hc)) e
  have zlt : z < g5.objs.size := Heap.lt_size zg5
  show wpAny _ _ (Builtin.SmallTypes.ownedTupleHandOut (.ref z) (.ref g5.objs.size) >>= fun _ => _) _ _ _
  refine wpAny_bind ?_
  unfold Builtin.SmallTypes.ownedTupleHandOut
  have zg6 : IsZip (g5.push { cls := .type "tuple", data := .seq #[x, y] }) z TI TO .ellipsis := Heap.get?_push_of_some _ zg5
  refine wpAny_bind (wpAny_setField_rec zg6 (by simp) fun g7 zg7 k7 => ?_)
  replace zg7 : IsZip g7 z TI TO (rawInt g5.objs.size) := zg7
  refine wpAny_setField_rec zg7 (by simp) fun g8 zg8 k8 => ?_
  replace zg8 : IsZip g8 z TI TO (rawInt g5.objs.size) := zg8
  have up : ∀ c o, c ≠ z → g5.get? c = some o → g8.get? c = some o := fun c o c1 e => k8.extBut _ _ c1 (k7.extBut _ _ c1 (Heap.get?_push_of_some _ e))
  have pT : IsPair g8 g5.objs.size x y := k8.extBut _ _ (Nat.ne_of_gt zlt) (k7.extBut _ _ (Nat.ne_of_gt zlt) (Heap.get?_push_size _ rfl))
  rw [sz] at zg8 pT
  refine wpAny_pure ⟨_, rfl, ?_⟩
  show Q (.ref g5.objs.size) _
  rw [sz]
  exact hQ g8 _ x y px py zg8 (up _ _ D.a2 pO5) (D1.frame _ _ _ u1 fun c hc o e => up c o (fun q => D.b2 (q ▸ hc)) e) (D2.frame _ _ _ u2 fun c hc o e => up c o (fun q => D.b3 (q ▸ hc)) e) pT fun c o c1 c2 c3 c4 e => up c o c1 (kk c o c1 c2 c3 c4 e)
theorem zip_endD {k : Nat} {a b : Value} {Q : Fin → Shared → Prop} (D : ZAp z TI TO i1 i2 f1 f2) (D1 : Draws prog w A i1 f1 n1 P1 S1) (D2 : Draws prog w A i2 f2 n2 P2 S2)
    (hZ : IsZip s.heap z TI TO .none) (pI : IsPair s.heap TI (.ref i1) (.ref i2)) (pO : IsPair s.heap TO a b) (t1 : S1 k s.heap) (t2 : S2 k s.heap) (hend : k = n1 ∨ (k < n1 ∧ k = n2))
    (hE : ∀ h' tk e, (∀ c o, c ≠ z → c ≠ TO → c ≠ i1 → c ≠ i2 → s.heap.get? c = some o → h'.get? c = some o) → (∃ o, h'.get? e = some o ∧ o.cls = .type "StopIteration") → E (.ref e) { s with heap := h', toks := tk }) :
    wpAny (model prog w) A (Builtin.«zip.__next__» ⟨[.ref z], []⟩) Q E s := by
  show wpAny _ _ (field (.ref z) 2 >>= fun _ => _) _ _ _
  refine wpAny_bind (wpAny_field hZ rfl (x := .bool false) rfl ?_)
  show wpAny _ _ (field (.ref z) 3 >>= fun _ => _) _ _ _
  refine wpAny_bind (wpAny_field hZ rfl (x := .ref TI) rfl ?_)
  refine wpAny_bind (wpAny_seqItems pI rfl ?_)
  show wpAny _ _ (Builtin.SmallTypes.ownedTupleIsFree (.ref z) >>= fun _ => _) _ _ _
  refine wpAny_bind ?_
  unfold Builtin.SmallTypes.ownedTupleIsFree
  refine wpAny_bind (wpAny_field hZ rfl (x := .none) rfl (wpAny_pure ?_))
  simp only [if_true]
  refine wpAny_bind (wpAny_rule (wpAny_bind (wpAny_field hZ rfl (x := .ref TO) rfl ?_)))
  refine wpAny_bind (wpAny_setField_rec hZ (by simp) fun g1 zg1 k1 => ?_)
  replace zg1 : IsZip g1 z TI TO .ellipsis := zg1
  refine wpAny_bind ?_
  simp only [List.zipIdx_cons, List.zipIdx_nil, List.forIn_cons, List.forIn_nil]
  refine wpAny_bind (wpAny_bind (wpAny_onRaise ?_))
  show wpAny _ _ (Builtin.SmallTypes.nextOf (.ref i1) >>= fun _ => _) _ _ _
  have t1' : S1 k g1 := D1.frame _ _ _ t1 fun c hc o e => k1.extBut _ _ (fun q => D.b2 (q ▸ hc)) e
  rcases hend with rfl | ⟨l1, rfl⟩
  · refine wpAny_bind (D1.done _ _ _ t1' fun g2 e k2 he => ?_)
    obtain ⟨oe, ge, ce⟩ := he
    have zg2 : IsZip g2 z TI TO .ellipsis := k2 _ _ D.a3.symm zg1
    have ne : e ≠ z := fun q => by subst q; rw [zg2] at ge; cases ge; simp at ce
    exact wpAny_setField_rec zg2 (by simp) fun g3 _ k3 => hE g3 _ e (fun c o c1 _ c3 _ q => k3.extBut _ _ c1 (k2 _ _ c3 (k1.extBut _ _ c1 q))) ⟨oe, k3.extBut _ _ ne ge, ce⟩
  · refine wpAny_bind (D1.item k _ _ _ l1 t1' fun x g2 tk2 px sg2 k2 => wpAny_pure ?_)
    have pO2 : IsPair g2 TO a b := k2.extBut _ _ D.a8 (k1.extBut _ _ D.a2 pO)
    refine wpAny_bind (wpAny_seqItems pO2 rfl (wpAny_bind (wpAny_updateSeq_pair pO2 fun g3 pO3 k3 => ?_)))
    refine wpAny_bind (wpAny_letGo (wpAny_pure (wpAny_bind (wpAny_bind (wpAny_onRaise ?_)))))
    show wpAny _ _ (Builtin.SmallTypes.nextOf (.ref i2) >>= fun _ => _) _ _ _
    have t2' : S2 k g3 := D2.frame _ _ _ t2 fun c hc o e => k3.extBut _ _ (fun q => D.b5 (q ▸ hc)) (k2.extBut _ _ (fun q => D.b6 (q ▸ hc)) (k1.extBut _ _ (fun q => D.b3 (q ▸ hc)) e))
    refine wpAny_bind (D2.done _ _ _ t2' fun g4 e k4 he => ?_)
    obtain ⟨oe, ge, ce⟩ := he
    have zg4 : IsZip g4 z TI TO .ellipsis := k4 _ _ D.a4.symm (k3.extBut _ _ D.a2.symm (k2.extBut _ _ D.a3.symm zg1))
    have ne : e ≠ z := fun q => by subst q; rw [zg4] at ge; cases ge; simp at ce
    exact wpAny_setField_rec zg4 (by simp) fun g5 _ k5 => hE g5 _ e (fun c o c1 c2 c3 c4 q => k5.extBut _ _ c1 (k4 _ _ c4 (k3.extBut _ _ c2 (k2.extBut _ _ c3 (k1.extBut _ _ c1 q))))) ⟨oe, k5.extBut _ _ ne ge, ce⟩
end
end PySem
namespace PySem
open Builtin
section
variable {prog : Program} {w : World} {A : Around} {E : Value → Shared → Prop} {s : Shared} {z TI TO i1 i2 : Addr} {f1 f2 : List Addr} {n1 n2 : Nat} {P1 P2 : Nat → Value → Prop} {S1 S2 : Nat → Heap → Prop}
theorem pyNext_zip_itemD {k : Nat} {a b : Value} {Q : Option Value → Shared → Prop} (D : ZAp z TI TO i1 i2 f1 f2) (D1 : Draws prog w A.in1 i1 f1 n1 P1 S1) (D2 : Draws prog w A.in1 i2 f2 n2 P2 S2)
    (hZ : IsZip s.heap z TI TO .none) (pI : IsPair s.heap TI (.ref i1) (.ref i2)) (pO : IsPair s.heap TO a b) (t1 : S1 k s.heap) (t2 : S2 k s.heap) (l1 : k < n1) (l2 : k < n2)
    (hQ : ∀ h' tk x y, P1 k x → P2 k y → IsZip h' z TI TO (rawInt s.heap.objs.size) → IsPair h' TO x y → S1 (k + 1) h' → S2 (k + 1) h' → IsPair h' s.heap.objs.size x y →
      (∀ c o, c ≠ z → c ≠ TO → c ≠ i1 → c ≠ i2 → s.heap.get? c = some o → h'.get? c = some o) → Q (some (.ref s.heap.objs.size)) { s with heap := h', toks := tk }) :
    wpAny (model prog w) A (pyNext (.ref z)) Q E s := by
  have tz : s.TypeIs (.ref z) "zip" := ⟨_, hZ, rfl⟩
  unfold pyNext
  exact wpAny_bind (wpAny_attempt (wpAny_callSpecial?_slot (name := Str.ofString "__next__") tz F.slot_zip_next (wpAny_call_entry F.slot_zip_next tz F.entry_zip_next
      (zip_itemD D D1 D2 hZ pI pO t1 t2 l1 l2 fun h' tk x y a1 a2 a3 a4 a5 a6 a7 a8 => wpAny_pure (hQ h' tk x y a1 a2 a3 a4 a5 a6 a7 a8)) (F.args_zip_next_1 _))))
theorem pyNext_zip_endD {k : Nat} {a b : Value} {Q : Option Value → Shared → Prop} (D : ZAp z TI TO i1 i2 f1 f2) (D1 : Draws prog w A.in1 i1 f1 n1 P1 S1) (D2 : Draws prog w A.in1 i2 f2 n2 P2 S2)
    (hZ : IsZip s.heap z TI TO .none) (pI : IsPair s.heap TI (.ref i1) (.ref i2)) (pO : IsPair s.heap TO a b) (t1 : S1 k s.heap) (t2 : S2 k s.heap) (hend : k = n1 ∨ (k < n1 ∧ k = n2))
    (hQ : ∀ h' tk, (∀ c o, c ≠ z → c ≠ TO → c ≠ i1 → c ≠ i2 → s.heap.get? c = some o → h'.get? c = some o) → Q none { s with heap := h', toks := tk }) :
    wpAny (model prog w) A (pyNext (.ref z)) Q E s := by
  have tz : s.TypeIs (.ref z) "zip" := ⟨_, hZ, rfl⟩
  unfold pyNext
  refine wpAny_bind (wpAny_attempt (wpAny_callSpecial?_slot (name := Str.ofString "__next__") tz F.slot_zip_next (wpAny_call_entry F.slot_zip_next tz F.entry_zip_next (zip_endD D D1 D2 hZ pI pO t1 t2 hend fun h' tk e hk he => ?_) (F.args_zip_next_1 _))))
  obtain ⟨o, ho, hc⟩ := he
  exact wpAny_bind (wpAny_isInstance (T := "StopIteration") (b := true) ⟨o, ho, hc⟩ isSubtype_stop (wpAny_pure (hQ _ _ hk)))
end
end PySem
namespace L2
open PySem PySem.Spec PyProof.Rows
theorem zap_of {z TI TO i1 i2 a b : Addr} (nd : [z, TI, TO, i1, i2].Nodup) (na : a ∉ [z, TI, TO, i1, i2]) (nb : b ∉ [z, TI, TO, i1, i2]) : ZAp z TI TO i1 i2 [i1, a] [i2, b] := by
  simp only [List.nodup_cons, List.mem_cons, List.mem_nil_iff, or_false, not_or, List.nodup_nil, and_true, not_false_eq_true] at nd na nb
  obtain ⟨⟨q1, q2, q3, q4⟩, ⟨q5, q6, q7⟩, ⟨q8, q9⟩, q10⟩ := nd
  obtain ⟨r1, r2, r3, r4, r5⟩ := na
  obtain ⟨s1, s2, s3, s4, s5⟩ := nb
  constructor <;> first | exact Ne.symm ‹_› | assumption | (simp only [List.mem_cons, List.mem_nil_iff, or_false, not_or]; constructor <;> first | assumption | exact Ne.symm ‹_›)
end L2
set_option maxHeartbeats 4000000
namespace HT
open PySem PyProof.Rows
section
variable {prog : Program} {w : World} {A : Around} {E : Value → Shared → Prop} {s : Shared}
/-- t[a:b] that is the whole: t itself -/
theorem getItem_tuple_self {t sl : Addr} {items : Array Value} {vl vu : Value} {lo hi : Option Int} {Q : Value → Shared → Prop} (ht : IsTup s.heap t items) (hs : s.heap.IsSliceOf sl vl vu .none) (pl : IsPart vl lo) (pu : IsPart vu hi)
    (hw : sIx items.size 0 lo = 0 ∧ sIx items.size items.size hi = items.size) (h : Q (.ref t) s) : wpAny (model prog w) A (getItem (.ref t) (.ref sl)) Q E s := by
  obtain ⟨os, hos, hcs, hds⟩ := id hs
  have tsl : s.TypeIs (.ref sl) "slice" := ⟨os, hos, hcs⟩
  unfold getItem
  try with_reducible refine wpAny_holding ?_
  first | refine wpAny_bind (wpAny_pure ?_) | skip
  refine wpAny_bind (wpAny_sequenceKey ht.typeIs (by decide) (wpAny_bind (wpAny_callSpecial?_slot (name := Str.ofString "__getitem__") ht.typeIs PyProof.Rows.slot_tuple_getitem (wpAny_call_entry PyProof.Rows.slot_tuple_getitem ht.typeIs entry_tuple_getitem ?_ (args_tuple_getitem _ _)))))
  show wpAny _ _ (Builtin.Tuple.tupleItemsOf (.ref t) >>= fun _ => _) _ _ s
  refine wpAny_bind (tupleItemsOf_ ht (wpAny_bind (wpAny_typeOf tsl ?_)))
  rw [if_pos (by decide)]
  refine wpAny_bind (sliceApplied_gen hs pl pu ?_)
  have yes : (((sIx items.size 0 lo : Nat) : Int) == 0 && (1 : Int) == 1 && (sIx items.size items.size hi - sIx items.size 0 lo) == items.size) = true := by rw [hw.1, hw.2]; simp
  show wpAny _ _ (ite ((((sIx items.size 0 lo : Nat) : Int) == 0 && (1 : Int) == 1 && (sIx items.size items.size hi - sIx items.size 0 lo) == items.size) = true) _ _) _ _ s
  rw [if_pos yes]
  refine wpAny_bind (m := Builtin.Tuple.tupleIsExact (.ref t)) ?_
  unfold Builtin.Tuple.tupleIsExact
  refine wpAny_bind (wpAny_typeOf ht.typeIs (wpAny_pure ?_))
  rw [if_pos (by decide)]
  exact wpAny_bind (wpAny_rule (wpAny_pure ⟨_, rfl, wpAny_pure h⟩))
end
end HT
namespace L2
open PySem PySem.Spec PyProof.Rows
section
variable {X : Cx}
/-- t[lo:hi]: itself where it is the whole, else a new tuple -/
def rSlTA (K : PySem.W.Frag) : V → Option Int → Option Int → Hp → VK → Prop := fun x lo hi H Q => ∃ a xs, x = .ref a ∧ SqT K H a xs ∧
  ((HT.sIx xs.length 0 lo = 0 ∧ HT.sIx xs.length xs.length hi = xs.length) → Q (.ref a) H) ∧ (¬ (HT.sIx xs.length 0 lo = 0 ∧ HT.sIx xs.length xs.length hi = xs.length) → ∀ p, H p = none → Q (.ref p) (upd H p (.tup (cutV xs lo hi))))
theorem sl_tupA : SlR X (rSlTA X.K) := by
  intro pins s σ H x v vl vu lo hi sl Q I rx hs pl pu h
  obtain ⟨a, xs, rfl, hx, q1, q2⟩ := h
  by_cases hw : HT.sIx xs.length 0 lo = 0 ∧ HT.sIx xs.length xs.length hi = xs.length
  · cases rx
    obtain ⟨its, r, ht, hz⟩ := I.tuple hx
    have hlen : its.toArray.size = xs.length := by rw [List.size_toArray]; exact r.length.symm
    exact ⟨"tuple", _, PyProof.Rows.slot_tuple_getitem.lookup, ht.typeIs, HT.getItem_tuple_self ht hs pl pu (by rw [hlen]; exact hw) ⟨.ref a, H, I, rfl, q1 hw⟩⟩
  · exact sl_tup pins s σ H _ v vl vu lo hi sl Q I rx hs pl pu ⟨a, xs, rfl, hx, hw, q2 hw⟩
end
/-- == of any list and an empty one -/
theorem op_eqNil {X : Cx} (hu : X.A.units + 64 < cLine) : OpR X (compareOp .Eq) (fun x y H Q => ∃ (a b : Addr) (xs : List V), x = .ref a ∧ y = .ref b ∧ SqL X.K H a xs ∧ SqL X.K H b [] ∧ Q (.bl xs.isEmpty) H) := by
  intro pins s σ H x y u v Q I rx ry h
  obtain ⟨a, b, xs, rfl, rfl, ha, hb, q⟩ := h
  cases rx
  cases ry
  cases xs with
  | nil =>
    obtain ⟨as, r1⟩ := Rep.reads (u := .ref a) I (Rep.lst ha .nil) rfl
    obtain ⟨bs, r2⟩ := Rep.reads (u := .ref b) I (Rep.lst hb .nil) rfl
    exact SeqAt.compareEq_reads r1 r2 rfl rfl (by simp only [PyData.depth, PyData.depthAll]; omega) ⟨.bl _, H, I, rfl, q⟩
  | cons x xs =>
    obtain ⟨its, r1, h1, _⟩ := I.list ha
    obtain ⟨its2, r2, h2, _⟩ := I.list hb
    have l1 := r1.length
    have l2 := r2.length
    refine SeqAt.eq_list_lengthsAt h1.isList h2.isList (by simp at l1 l2 ⊢; omega) (by omega) ⟨.bl _, H, I, rfl, q⟩
theorem same_new {H : Hp} {p : Addr} {o : HO} (h : H p = none) : Same H (upd H p o) := fun b u e => by rw [upd_ne (ne_of_none e h)]; exact e
theorem same_refl (H : Hp) : Same H H := fun _ _ e => e
theorem small {n : Nat} (h : n ≤ 10000) : n ≤ sizeLine := by rw [sizeLine_eq]; exact Nat.le_trans (by assumption) (by decide)
theorem sqL_same {K : PySem.W.Frag} {H H' : Hp} {a : Addr} {xs : List V} (h : SqL K H a xs) (s : Same H H') : SqL K H' a xs := by
  rcases h with (e | ⟨o, e⟩) | e
  · exact .inl (.inl (s _ _ e))
  · exact .inl (.inr ⟨o, s _ _ e⟩)
  · exact .inr e
theorem none_of {H H' : Hp} {a : Addr} (s : Same H H') (h : H' a = none) : H a = none := by
  cases e : H a with
  | none => rfl
  | some o => rw [s _ _ e] at h; cases h
/-- a tuple of names as a block's target -/
theorem pg_tupK {X : Cx} {es : List Expr} {k : Nat} {t : TGs} {pos : Pos} (K : PySem.W.Frag) (n : Nat) (hK : X.K = K) (hc : X.calm = true) (h : PGs X es t) (hn : (assignEach es X.env).length = n := by rfl) (hst : (assignEach es X.env).findIdx? (·.1) = none := by rfl) : PG X (.Tuple es k pos) (gTup K n t) := by
  subst hK
  exact pg_tup hc h hn hst
end L2
set_option maxHeartbeats 4000000
namespace PySem
open Builtin
end PySem
namespace PySem
open Builtin
end PySem
namespace L2
open PySem PySem.Spec PyProof.Rows
end L2
set_option maxHeartbeats 4000000
namespace PySem
open Builtin
end PySem
namespace L2
open PySem PySem.Spec PyProof.Rows
end L2
namespace PySem
open Builtin
end PySem
namespace L2
open PySem PySem.Spec PyProof.Rows
end L2
set_option maxHeartbeats 400000
namespace L2
open PySem PySem.Spec PyProof.Rows
structure PSo (X : Cx) (st : Stmt) (t : TS) : Prop where
  of : PS X st t
structure PSso (X : Cx) (st : List Stmt) (t : TS) : Prop where
  of : PSs X st t
structure PEo (X : Cx) (e : Expr) (t : TE) : Prop where
  of : PE X e t
structure PAo (X : Cx) (es : List Expr) (t : TA) : Prop where
  of : PA X es t
section
variable {X : Cx} {st : Stmt} {rest : List Stmt} {t u : TS} {e : Expr} {es : List Expr} {te : TE} {ta : TA} {pos : Pos}
theorem psso_cons (h1 : PSo X st t) (h2 : PSso X rest u) : PSso X (st :: rest) (tSeq t u) := ⟨pss_cons h1.of h2.of⟩
theorem psso_one (h1 : PSo X st t) : PSso X [st] t := ⟨pss_one h1.of⟩
theorem pso_of (h : PS X st t) : PSo X st t := ⟨h⟩
theorem peo_of (h : PE X e te) : PEo X e te := ⟨h⟩
theorem peo_int {i : Int} {j : Nat} : PEo X (.Constant (.int i) j pos) (tC (.int i)) := ⟨pe_int⟩
theorem pao_nil : PAo X [] tNil := ⟨pa_nil⟩
theorem pao_cons (ha : PEo X e te) (hr : PAo X es ta) (hs : starEach (e :: es) X.env = (false, eval e X.env) :: starEach es X.env := by rfl) : PAo X (e :: es) (tCons te ta) := ⟨pa_cons ha.of hr.of hs⟩
theorem peo_lst (h : PAo X es ta) : PEo X (.List es pos) (tLst ta) := ⟨pe_lst h.of⟩
end
end L2
set_option maxHeartbeats 1000000
namespace PySem
end PySem
namespace PySem
end PySem
set_option maxHeartbeats 1000000
namespace L2
open PySem PySem.Spec PyProof.Rows
end L2
set_option maxHeartbeats 1000000
namespace HT
open PySem PyProof.Rows
end HT
namespace L2
open PySem PySem.Spec PyProof.Rows
end L2
set_option maxHeartbeats 1000000
namespace Srt
open PySem PySem.W PyProof.Rows
structure Ord (lt : Nat → Nat → Bool) : Prop where
  asym : ∀ a b, lt a b = true → lt b a = false
  ntr : ∀ a b c, lt a b = false → lt b c = false → lt a c = false
def ev {α : Type} (lt : Nat → Nat → Bool) : KasT α → α
  | .ret a => a
  | .ask i j k => ev lt (k (lt i j))
theorem ev_bind {α β : Type} (lt : Nat → Nat → Bool) (f : α → KasT β) : ∀ t : KasT α, ev lt (t.bind f) = ev lt (f (ev lt t))
  | .ret _ => rfl
  | .ask i j k => ev_bind lt f (k (lt i j))
/-- whatever is answered: the asks are of numbers below n, the end is one of P -/
def AsksP {α : Type} (n : Nat) (P : α → Prop) : KasT α → Prop
  | .ret a => P a
  | .ask i j k => i < n ∧ j < n ∧ ∀ b, AsksP n P (k b)
theorem AsksP.bind {α β : Type} {n : Nat} {P : α → Prop} {R : β → Prop} {f : α → KasT β} (hf : ∀ a, P a → AsksP n R (f a)) : ∀ {t : KasT α}, AsksP n P t → AsksP n R (t.bind f)
  | .ret a, h => hf a h
  | .ask i j k, h => ⟨h.1, h.2.1, fun b => AsksP.bind hf (h.2.2 b)⟩
theorem AsksP.ev {α : Type} {n : Nat} {P : α → Prop} (lt : Nat → Nat → Bool) : ∀ {t : KasT α}, AsksP n P t → P (Srt.ev lt t)
  | .ret _, h => h
  | .ask i j k, h => AsksP.ev (n := n) (P := P) lt (t := k (lt i j)) (h.2.2 (lt i j))
theorem AsksP.wp {α : Type} {n : Nat} {P : α → Prop} {cmp : Nat → Nat → (Bool → Shared → Prop) → Shared → Prop} {lt : Nat → Nat → Bool} {s : Shared} (hc : ∀ i j (C : Bool → Shared → Prop), i < n → j < n → C (lt i j) s → cmp i j C s) {Q : α → Shared → Prop} : ∀ {t : KasT α}, AsksP n P t → Q (Srt.ev lt t) s → t.kasWp cmp Q s
  | .ret _, _, q => q
  | .ask i j k, h, q => hc i j _ h.1 h.2.1 (AsksP.wp hc (h.2.2 (lt i j)) q)
abbrev g (p : Array Nat) (k : Nat) : Nat := p.getD k 0
theorem g_eq (p : Array Nat) (k : Nat) : g p k = (p[k]?).getD 0 := by
  show p.getD k 0 = _
  simp [Array.getD_eq_getD_getElem?]
theorem g_rev {p : Array Nat} {i j : Nat} (hj : j ≤ p.size) (k : Nat) : g (kas_rev p i j) k = if i ≤ k ∧ k < j then g p (i + j - 1 - k) else g p k := by
  rw [g_eq]
  unfold kas_rev
  rw [getElem?_mirror_all hj]
  split <;> rw [g_eq]
theorem g_bub {p : Array Nat} {src d : Nat} (hs : src < p.size) (hd : d ≤ src) (k : Nat) : g (bubble p src d) k = if k = src - d then g p src else if src - d < k ∧ k ≤ src then g p (k - 1) else g p k := by
  rw [g_eq, getElem?_bubble hs d hd, g_eq, g_eq, g_eq]
  split
  · rfl
  · split <;> rfl
theorem rev_size (p : Array Nat) (i j : Nat) : (kas_rev p i j).size = p.size := mirror_size _ _ _ _
theorem rev_perm (p : Array Nat) (i j : Nat) : (kas_rev p i j).Perm p := mirror_perm _ _ _ _
def Pm (n : Nat) (p : Array Nat) : Prop := p.Perm (List.range n).toArray
theorem Pm.size {n : Nat} {p : Array Nat} (h : Pm n p) : p.size = n := by
  have := Array.Perm.size_eq h
  simpa using this
theorem Pm.lt {n : Nat} {p : Array Nat} (h : Pm n p) (h0 : 0 < n) (k : Nat) : g p k < n := by
  rw [g_eq]
  cases e : p[k]? with
  | none => exact h0
  | some x =>
    have hx : x ∈ p := Array.mem_of_getElem? e
    have := (Array.Perm.mem_iff h).mp hx
    simpa using this
section
variable {n : Nat} (h0 : 0 < n)
include h0
theorem asks_asc {p : Array Nat} (h : Pm n p) : ∀ f m, AsksP n (fun _ => True) (kas_asc p f m)
  | 0, _ => trivial
  | f + 1, m => ⟨h.lt h0 _, h.lt h0 _, fun b => by cases b <;> first | exact trivial | exact asks_asc h f (m + 1)⟩
theorem asks_desc : ∀ f {p : Array Nat} (m q : Nat), Pm n p → AsksP n (fun r => Pm n r.1) (kas_desc f p m q)
  | 0, _, _, _, h => h
  | f + 1, p, m, q, h => by
    refine ⟨h.lt h0 _, h.lt h0 _, fun b => ?_⟩
    cases b with
    | true =>
      show AsksP n _ (if q > 0 then _ else _)
      by_cases hq : q > 0
      · rw [if_pos hq]; exact asks_desc f _ _ ((rev_perm _ _ _).trans h)
      · rw [if_neg hq]; exact asks_desc f _ _ h
    | false =>
      refine ⟨h.lt h0 _, h.lt h0 _, fun d => ?_⟩
      cases d with
      | true => exact h
      | false => exact asks_desc f _ _ h
theorem asks_tail3 {p : Array Nat} (m nrem : Nat) (h : Pm n p) : AsksP n (fun r => Pm n r.2) (kas_tail3 m nrem p) := by
  have hr : Pm n (kas_rev p 0 m) := (rev_perm _ _ _).trans h
  refine AsksP.bind (n := n) (P := fun _ => True) (R := fun r : Nat × Array Nat => Pm n r.2) (fun k _ => ?_) (asks_asc h0 hr _ _)
  exact hr
theorem asks_descPart {p : Array Nat} (m nrem : Nat) (h : Pm n p) : AsksP n (fun r => Pm n r.2) (kas_descPart m nrem p) :=
  (asks_desc h0 _ _ _ h).bind fun r hr => by
    by_cases hq : r.2.2 > 0
    · rw [if_pos hq]; exact asks_tail3 h0 _ _ ((rev_perm _ _ _).trans hr)
    · rw [if_neg hq]; exact asks_tail3 h0 _ _ hr
theorem asks_count {p : Array Nat} (nrem : Nat) (h : Pm n p) : AsksP n (fun r => Pm n r.2) (kas_count nrem p) :=
  (asks_asc h0 h _ _).bind fun m _ => by
    by_cases h1 : (m == nrem) = true
    · rw [if_pos h1]; exact h
    · rw [if_neg h1]
      by_cases h2 : m > 1
      · rw [if_pos h2]
        refine ⟨h.lt h0 _, h.lt h0 _, fun c => ?_⟩
        cases c with
        | true => exact h
        | false => exact asks_descPart h0 _ _ ((rev_perm _ _ _).trans h)
      · rw [if_neg h2]; exact asks_descPart h0 _ _ h
theorem asks_place {p : Array Nat} (k : Nat) (h : Pm n p) : ∀ f l r, AsksP n (fun _ => True) (kas_place p k f l r)
  | 0, _, _ => trivial
  | f + 1, l, r => by
    show AsksP n _ (if l ≥ r then _ else _)
    by_cases hl : l ≥ r
    · rw [if_pos hl]; trivial
    · rw [if_neg hl]
      refine ⟨h.lt h0 _, h.lt h0 _, fun c => ?_⟩
      cases c with
      | true => exact asks_place k h f _ _
      | false => exact asks_place k h f _ _
theorem asks_bin : ∀ f {p : Array Nat} (k : Nat), Pm n p → AsksP n (Pm n) (kas_bin f p k)
  | 0, _, _, h => h
  | f + 1, p, k, h => (asks_place h0 k h _ _ _).bind fun l _ => asks_bin f (k + 1) ((bubble_perm _ _ _).trans h)
theorem asks_sort : AsksP n (Pm n) (kas_sort n) :=
  (asks_count h0 n (Array.Perm.refl _)).bind fun r hr => by
    by_cases h1 : r.1 < n
    · rw [if_pos h1]; exact asks_bin h0 _ _ hr
    · rw [if_neg h1]; exact hr
end
section
variable {lt : Nat → Nat → Bool} (O : Ord lt)
def Sto (lt : Nat → Nat → Bool) (p : Array Nat) (k : Nat) : Prop := ∀ i j, i ≤ j → j < k → lt (g p j) (g p i) = false
def Dto (lt : Nat → Nat → Bool) (p : Array Nat) (k : Nat) : Prop := ∀ i j, i ≤ j → j < k → lt (g p i) (g p j) = false
def Eqv (lt : Nat → Nat → Bool) (a b : Nat) : Prop := lt a b = false ∧ lt b a = false
include O
theorem irr (a : Nat) : lt a a = false := by
  cases h : lt a a with
  | false => rfl
  | true => have := O.asym a a h; rw [h] at this; cases this
theorem ev_asc {p : Array Nat} : ∀ f m, 1 ≤ m → Sto lt p m → m ≤ ev lt (kas_asc p f m) ∧ ev lt (kas_asc p f m) ≤ m + f ∧ Sto lt p (ev lt (kas_asc p f m)) ∧ (ev lt (kas_asc p f m) < m + f → lt (g p (ev lt (kas_asc p f m))) (g p (ev lt (kas_asc p f m) - 1)) = true)
  | 0, m, _, hs => ⟨Nat.le_refl _, Nat.le_refl _, hs, fun h => absurd h (Nat.lt_irrefl _)⟩
  | f + 1, m, h1, hs => by
    show m ≤ ev lt (if lt (g p m) (g p (m - 1)) = true then .ret m else kas_asc p f (m + 1)) ∧ ev lt (if lt (g p m) (g p (m - 1)) = true then .ret m else kas_asc p f (m + 1)) ≤ m + (f + 1) ∧ Sto lt p (ev lt (if lt (g p m) (g p (m - 1)) = true then .ret m else kas_asc p f (m + 1))) ∧ (ev lt (if lt (g p m) (g p (m - 1)) = true then .ret m else kas_asc p f (m + 1)) < m + (f + 1) → lt (g p (ev lt (if lt (g p m) (g p (m - 1)) = true then .ret m else kas_asc p f (m + 1)))) (g p (ev lt (if lt (g p m) (g p (m - 1)) = true then .ret m else kas_asc p f (m + 1)) - 1)) = true)
    by_cases c : lt (g p m) (g p (m - 1)) = true
    · rw [if_pos c]
      exact ⟨Nat.le_refl _, Nat.le_add_right _ _, hs, fun _ => c⟩
    · rw [if_neg c]
      have c : lt (g p m) (g p (m - 1)) = false := by simpa using c
      have hs' : Sto lt p (m + 1) := fun i j hij hj => by
        by_cases e : j = m
        · subst e
          by_cases e2 : i = j
          · subst e2; exact irr O _
          · exact O.ntr _ _ _ c (hs i (j - 1) (by omega) (by exact Nat.sub_lt (by assumption) (by decide)))
        · exact hs i j hij (by omega)
      obtain ⟨a, b, d, e⟩ := ev_asc f (m + 1) (by exact Nat.lt_succ_of_lt (by assumption)) hs'
      exact ⟨by exact Nat.le_of_lt (by assumption), by omega, d, fun h => e (by omega)⟩
theorem Dto.eqv {p p1 : Array Nat} {k : Nat} (h : Dto lt p k) (he : ∀ i, i < k → Eqv lt (g p1 i) (g p i)) : Dto lt p1 k := fun i j hij hj =>
  O.ntr _ _ _ (he i (by exact Nat.lt_of_le_of_lt (by assumption) (by assumption))).1 (O.ntr _ _ _ (h i j hij hj) (he j hj).2)
/-- the last q + 1 are alike -/
def Blk (lt : Nat → Nat → Bool) (p : Array Nat) (m q : Nat) : Prop := q + 1 ≤ m ∧ ∀ i j, m - (q + 1) ≤ i → i < m → m - (q + 1) ≤ j → j < m → Eqv lt (g p i) (g p j)
theorem rev_blk {p : Array Nat} {m q : Nat} (hm : m ≤ p.size) (hb : Blk lt p m q) : ∀ i, Eqv lt (g (kas_rev p (m - (q + 1)) m) i) (g p i) := fun i => by
  have h1 := hb.1
  rw [g_rev hm]
  split
  · exact hb.2 _ _ (by omega) (by omega) (by omega) (by omega)
  · exact ⟨irr O _, irr O _⟩
theorem ev_desc : ∀ f {p : Array Nat} (m q : Nat), 1 ≤ m → m + f ≤ p.size → Dto lt p m → Blk lt p m q →
    let r := ev lt (kas_desc f p m q); m ≤ r.2.1 ∧ r.2.1 ≤ m + f ∧ r.1.size = p.size ∧ Dto lt r.1 r.2.1 ∧ Blk lt r.1 r.2.1 r.2.2
  | 0, p, m, q, _, _, hd, hb => ⟨Nat.le_refl _, Nat.le_refl _, rfl, hd, hb⟩
  | f + 1, p, m, q, h1, hz, hd, hb => by
    intro r
    have b1 := hb.1
    have single : ∀ (p' : Array Nat), Blk lt p' (m + 1) 0 := fun p' => ⟨by exact Nat.lt_succ_of_lt (by assumption), fun i j a b c d => by
      have : i = j := by omega
      subst this; exact ⟨irr O _, irr O _⟩⟩
    have low : lt (g p (m - 1)) (g p m) = false → Dto lt p (m + 1) := fun c i j hij hj => by
      by_cases e : j = m
      · subst e
        by_cases e2 : i = j
        · subst e2; exact irr O _
        · exact O.ntr _ _ _ (hd i (j - 1) (by omega) (by exact Nat.sub_lt (by assumption) (by decide))) c
      · exact hd i j hij (by omega)
    by_cases c : lt (g p m) (g p (m - 1)) = true
    · have cl := low (O.asym _ _ c)
      by_cases hq : q > 0
      · have e : r = ev lt (kas_desc f (kas_rev p (m - (q + 1)) m) (m + 1) 0) := by
          show ev lt (if lt (g p m) (g p (m - 1)) = true then (if q > 0 then _ else _) else _) = _
          rw [if_pos c, if_pos hq]
        obtain ⟨a, b, s, d, k⟩ := ev_desc f (p := kas_rev p (m - (q + 1)) m) (m + 1) 0 (by exact Nat.lt_succ_of_lt (by assumption)) (by rw [rev_size]; omega) (Dto.eqv O cl fun i _ => rev_blk O (by omega) hb i) (single _)
        rw [e]
        exact ⟨by exact Nat.le_of_lt (by assumption), by omega, by rw [s, rev_size], d, k⟩
      · have e : r = ev lt (kas_desc f p (m + 1) 0) := by
          show ev lt (if lt (g p m) (g p (m - 1)) = true then (if q > 0 then _ else _) else _) = _
          rw [if_pos c, if_neg hq]
        obtain ⟨a, b, s, d, k⟩ := ev_desc f (p := p) (m + 1) 0 (by exact Nat.lt_succ_of_lt (by assumption)) (by omega) cl (single _)
        rw [e]
        exact ⟨by exact Nat.le_of_lt (by assumption), by omega, s, d, k⟩
    · have c' : lt (g p m) (g p (m - 1)) = false := by simpa using c
      by_cases d1 : lt (g p (m - 1)) (g p m) = true
      · have e : r = (p, m, q) := by
          show ev lt (if lt (g p m) (g p (m - 1)) = true then _ else KasT.ask _ _ fun d => if d = true then _ else _) = _
          rw [if_neg c]
          show ev lt (if lt (g p (m - 1)) (g p m) = true then KasT.ret (p, m, q) else _) = _
          rw [if_pos d1]
          rfl
        rw [e]
        exact ⟨Nat.le_refl _, Nat.le_add_right _ _, rfl, hd, hb⟩
      · have d' : lt (g p (m - 1)) (g p m) = false := by simpa using d1
        have e : r = ev lt (kas_desc f p (m + 1) (q + 1)) := by
          show ev lt (if lt (g p m) (g p (m - 1)) = true then _ else KasT.ask _ _ fun d => if d = true then _ else _) = _
          rw [if_neg c]
          show ev lt (if lt (g p (m - 1)) (g p m) = true then KasT.ret (p, m, q) else _) = _
          rw [if_neg d1]
        have blk : Blk lt p (m + 1) (q + 1) := ⟨by exact Nat.succ_le_succ (by assumption), fun i j i1 i2 j1 j2 => by
          have to : ∀ k, m - (q + 1) ≤ k → k < m + 1 → Eqv lt (g p k) (g p (m - 1)) := fun k k1 k2 => by
            by_cases z : k = m
            · subst z; exact ⟨c', d'⟩
            · exact hb.2 k (m - 1) k1 (by omega) (by omega) (by exact Nat.sub_lt (by assumption) (by decide))
          have a := to i (by omega) i2
          have b := to j (by omega) j2
          exact ⟨O.ntr _ _ _ a.1 b.2, O.ntr _ _ _ b.1 a.2⟩⟩
        obtain ⟨a, b, s, d, k⟩ := ev_desc f (p := p) (m + 1) (q + 1) (by exact Nat.lt_succ_of_lt (by assumption)) (by omega) (low d') blk
        rw [e]
        exact ⟨by exact Nat.le_of_lt (by assumption), by omega, s, d, k⟩
theorem Dto.rev {p : Array Nat} {m : Nat} (hm : m ≤ p.size) (h : Dto lt p m) : Sto lt (kas_rev p 0 m) m := fun i j hij hj => by
  rw [g_rev hm, g_rev hm, if_pos ⟨by exact Nat.zero_le _, by assumption⟩, if_pos ⟨by exact Nat.zero_le _, by exact Nat.lt_of_le_of_lt (by assumption) (by assumption)⟩]
  exact h _ _ (by omega) (by omega)
theorem ev_tail3 {p : Array Nat} {m nrem : Nat} (h1 : 1 ≤ m) (hn : m ≤ nrem) (hz : nrem ≤ p.size) (h : Dto lt p m) : let r := ev lt (kas_tail3 m nrem p); 1 ≤ r.1 ∧ r.1 ≤ nrem ∧ Sto lt r.2 r.1 := by
  intro r
  have e : r = (ev lt (kas_asc (kas_rev p 0 m) (nrem - m) m), kas_rev p 0 m) := ev_bind lt _ _
  obtain ⟨a, b, c, _⟩ := ev_asc O (p := kas_rev p 0 m) (nrem - m) m h1 (Dto.rev O (by exact Nat.le_trans (by assumption) (by assumption)) h)
  rw [e]
  exact ⟨by show 1 ≤ _; exact Nat.le_trans (by assumption) (by assumption), by show _ ≤ nrem; omega, c⟩
theorem ev_descPart {p : Array Nat} {m nrem : Nat} (hn : m + 1 ≤ nrem) (hz : nrem ≤ p.size) (h : Dto lt p (m + 1)) : let r := ev lt (kas_descPart m nrem p); 1 ≤ r.1 ∧ r.1 ≤ nrem ∧ Sto lt r.2 r.1 := by
  intro r
  have single : Blk lt p (m + 1) 0 := ⟨by omega, fun i j a b c d => by
    have : i = j := by omega
    subst this; exact ⟨irr O _, irr O _⟩⟩
  obtain ⟨a, b, s, d, k⟩ := ev_desc O (nrem - (m + 1)) (p := p) (m + 1) 0 (by omega) (by omega) h single
  have e : r = ev lt (if (ev lt (kas_desc (nrem - (m + 1)) p (m + 1) 0)).2.2 > 0 then kas_tail3 (ev lt (kas_desc (nrem - (m + 1)) p (m + 1) 0)).2.1 nrem (kas_rev (ev lt (kas_desc (nrem - (m + 1)) p (m + 1) 0)).1 ((ev lt (kas_desc (nrem - (m + 1)) p (m + 1) 0)).2.1 - ((ev lt (kas_desc (nrem - (m + 1)) p (m + 1) 0)).2.2 + 1)) (ev lt (kas_desc (nrem - (m + 1)) p (m + 1) 0)).2.1) else kas_tail3 (ev lt (kas_desc (nrem - (m + 1)) p (m + 1) 0)).2.1 nrem (ev lt (kas_desc (nrem - (m + 1)) p (m + 1) 0)).1) := ev_bind lt _ _
  rw [e]
  generalize ev lt (kas_desc (nrem - (m + 1)) p (m + 1) 0) = x at a b s d k
  by_cases hq : x.2.2 > 0
  · rw [if_pos hq]
    exact ev_tail3 O (by omega) (by omega) (by rw [rev_size]; omega) (Dto.eqv O d fun i _ => rev_blk O (by omega) k i)
  · rw [if_neg hq]
    exact ev_tail3 O (by omega) (by omega) (by omega) d
theorem ev_count {p : Array Nat} {nrem : Nat} (h1 : 1 ≤ nrem) (hz : nrem ≤ p.size) : let r := ev lt (kas_count nrem p); 1 ≤ r.1 ∧ r.1 ≤ nrem ∧ Sto lt r.2 r.1 := by
  intro r
  have s1 : Sto lt p 1 := fun i j hij hj => by
    have a : i = 0 := by omega
    have b : j = 0 := by omega
    subst a b; exact irr O _
  obtain ⟨a, b, c, e⟩ := ev_asc O (p := p) (nrem - 1) 1 (Nat.le_refl _) s1
  have er : r = ev lt ((fun n => if (n == nrem) = true then KasT.ret (n, p) else if n > 1 then KasT.ask (p.getD 0 0) (p.getD (n - 1) 0) fun c => if c = true then KasT.ret (n, p) else kas_descPart n nrem (kas_rev p 0 n) else kas_descPart n nrem p) (ev lt (kas_asc p (nrem - 1) 1))) := ev_bind lt _ _
  rw [er]
  generalize ev lt (kas_asc p (nrem - 1) 1) = m at a b c e
  dsimp only
  by_cases h2 : (m == nrem) = true
  · rw [if_pos h2]
    exact ⟨a, by show m ≤ nrem; omega, c⟩
  · rw [if_neg h2]
    have hm : m < nrem := by
      have : m ≠ nrem := by simpa using h2
      omega
    have last := e (by omega)
    by_cases h3 : m > 1
    · rw [if_pos h3]
      show let r := ev lt (if lt (g p 0) (g p (m - 1)) = true then KasT.ret (m, p) else kas_descPart m nrem (kas_rev p 0 m)); 1 ≤ r.1 ∧ r.1 ≤ nrem ∧ Sto lt r.2 r.1
      by_cases h4 : lt (g p 0) (g p (m - 1)) = true
      · rw [if_pos h4]
        exact ⟨a, by show m ≤ nrem; exact Nat.le_of_lt (by assumption), c⟩
      · rw [if_neg h4]
        have h4 : lt (g p 0) (g p (m - 1)) = false := by simpa using h4
        have all : ∀ i j, i < m → j < m → lt (g p i) (g p j) = false := fun i j hi hj => O.ntr _ _ _ (O.ntr _ _ _ (c 0 i (by exact Nat.zero_le _) hi) h4) (c j (m - 1) (by omega) (by exact Nat.sub_lt (by assumption) (by decide)))
        have blk : Blk lt p m (m - 1) := ⟨by exact Nat.sub_lt (by assumption) (by decide), fun i j _ i2 _ j2 => ⟨all i j i2 j2, all j i j2 i2⟩⟩
        have d1 : Dto lt p (m + 1) := fun i j hij hj => by
          by_cases z : j = m
          · subst z
            by_cases z2 : i = j
            · subst z2; exact irr O _
            · exact O.ntr _ _ _ (all i (j - 1) (by omega) (by exact Nat.sub_lt (by assumption) (by decide))) (O.asym _ _ last)
          · exact all i j (by omega) (by omega)
        have rb := rev_blk O (by omega) blk
        rw [show m - (m - 1 + 1) = 0 by omega] at rb
        exact ev_descPart O (by assumption) (by rw [rev_size]; assumption) (Dto.eqv O d1 fun i _ => rb i)
    · rw [if_neg h3]
      have : m = 1 := by omega
      subst this
      refine ev_descPart O (by assumption) hz fun i j hij hj => ?_
      by_cases z : i = j
      · subst z; exact irr O _
      · have a0 : i = 0 := by omega
        have b1 : j = 1 := by omega
        subst a0 b1
        exact O.asym _ _ last
theorem ev_place {p : Array Nat} {k : Nat} : ∀ f l r, r - l ≤ f → l ≤ r → r ≤ k → (∀ i, i < l → lt (g p k) (g p i) = false) → (∀ i, r ≤ i → i < k → lt (g p k) (g p i) = true) → Sto lt p k →
    let x := ev lt (kas_place p k f l r); x ≤ k ∧ (∀ i, i < x → lt (g p k) (g p i) = false) ∧ ∀ i, x ≤ i → i < k → lt (g p k) (g p i) = true
  | 0, l, r, hf, hlr, hrk, h1, h2, _ => by
    have : l = r := by omega
    subst this
    exact ⟨hrk, h1, h2⟩
  | f + 1, l, r, hf, hlr, hrk, h1, h2, hs => by
    intro x
    by_cases hl : l ≥ r
    · have e : x = l := by
        show ev lt (if l ≥ r then KasT.ret l else _) = l
        rw [if_pos hl]; rfl
      have : l = r := by omega
      subst this
      rw [e]
      exact ⟨hrk, h1, h2⟩
    · by_cases c : lt (g p k) (g p ((l + r) / 2)) = true
      · have e : x = ev lt (kas_place p k f l ((l + r) / 2)) := by
          show ev lt (if l ≥ r then KasT.ret l else KasT.ask _ _ fun c => if c = true then _ else _) = _
          rw [if_neg hl]
          show ev lt (if lt (g p k) (g p ((l + r) / 2)) = true then _ else _) = _
          rw [if_pos c]
        rw [e]
        refine ev_place f l ((l + r) / 2) (by omega) (by omega) (by omega) h1 (fun i i1 i2 => ?_) hs
        cases z : lt (g p k) (g p i) with
        | true => rfl
        | false =>
          have := O.ntr _ _ _ z (hs ((l + r) / 2) i i1 i2)
          rw [c] at this; cases this
      · have c' : lt (g p k) (g p ((l + r) / 2)) = false := by simpa using c
        have e : x = ev lt (kas_place p k f ((l + r) / 2 + 1) r) := by
          show ev lt (if l ≥ r then KasT.ret l else KasT.ask _ _ fun c => if c = true then _ else _) = _
          rw [if_neg hl]
          show ev lt (if lt (g p k) (g p ((l + r) / 2)) = true then _ else _) = _
          rw [if_neg c]
        rw [e]
        refine ev_place f ((l + r) / 2 + 1) r (by omega) (by omega) hrk (fun i i1 => O.ntr _ _ _ c' (hs i ((l + r) / 2) (by omega) (by omega))) h2 hs
theorem ev_bin : ∀ f {p : Array Nat} (k : Nat), k + f = p.size → Sto lt p k → Sto lt (ev lt (kas_bin f p k)) p.size
  | 0, p, k, hz, hs => by
    have : k = p.size := by assumption
    subst this; exact hs
  | f + 1, p, k, hz, hs => by
    have e : ev lt (kas_bin (f + 1) p k) = ev lt (kas_bin f (bubble p k (k - ev lt (kas_place p k k 0 k))) (k + 1)) := ev_bind lt _ _
    obtain ⟨x1, x2, x3⟩ := ev_place O (p := p) (k := k) k 0 k (by exact Nat.le_refl _) (by exact Nat.zero_le _) (Nat.le_refl _) (fun i hi => by omega) (fun i i1 i2 => by omega) hs
    rw [e]
    generalize ev lt (kas_place p k k 0 k) = x at x1 x2 x3
    have hs' : Sto lt (bubble p k (k - x)) (k + 1) := fun i j hij hj => by
      rw [g_bub (by omega) (by exact Nat.sub_le _ _), g_bub (by omega) (by exact Nat.sub_le _ _), show k - (k - x) = x by omega]
      by_cases j1 : j = x
      · rw [if_pos j1]
        by_cases i1 : i = x
        · rw [if_pos i1]; exact irr O _
        · rw [if_neg i1, if_neg (by omega)]
          exact x2 i (by omega)
      · rw [if_neg j1]
        by_cases j2 : x < j ∧ j ≤ k
        · rw [if_pos j2]
          by_cases i1 : i = x
          · rw [if_pos i1]; exact O.asym _ _ (x3 (j - 1) (by omega) (by omega))
          · rw [if_neg i1]
            by_cases i2 : x < i ∧ i ≤ k
            · rw [if_pos i2]; exact hs (i - 1) (j - 1) (by omega) (by omega)
            · rw [if_neg i2]; exact hs i (j - 1) (by omega) (by omega)
        · rw [if_neg j2, if_neg (by omega), if_neg (by omega)]
          exact hs i j hij (by omega)
    have := ev_bin f (p := bubble p k (k - x)) (k + 1) (by rw [bubble_size]; omega) hs'
    rw [bubble_size] at this
    exact this
theorem ev_sort {n : Nat} (h1 : 1 ≤ n) : Sto lt (ev lt (kas_sort n)) n := by
  have hz : (List.range n).toArray.size = n := by simp
  have e : ev lt (kas_sort n) = ev lt ((fun r : Nat × Array Nat => if r.1 < n then kas_bin (n - max r.1 1) r.2 (max r.1 1) else .ret r.2) (ev lt (kas_count n (List.range n).toArray))) := ev_bind lt _ _
  obtain ⟨a, b, c⟩ := ev_count O (p := (List.range n).toArray) h1 (by omega)
  have pm : Pm n (ev lt (kas_count n (List.range n).toArray)).2 := (asks_count (by assumption) n (Array.Perm.refl _)).ev lt
  rw [e]
  generalize ev lt (kas_count n (List.range n).toArray) = r at a b c pm
  dsimp only
  have sz := pm.size
  by_cases h : r.1 < n
  · rw [if_pos h, show max r.1 1 = r.1 by omega]
    have := ev_bin O (n - r.1) (p := r.2) r.1 (by omega) c
    rw [sz] at this
    exact this
  · rw [if_neg h]
    have : r.1 = n := by omega
    rw [this] at c
    exact c
end
end Srt
set_option maxHeartbeats 1000000
namespace Srt
open PySem PySem.W PyProof.Rows
section
variable {prog : Program} {w : World} {A : Around} {E : Value → Shared → Prop} {s : Shared}
theorem list_sort_raw {κ : SortKind} {lt : Nat → Nat → Bool} (O : Ord lt) {a : Addr} {vs : List Value} {n : Nat} {P : PySem.Fin → Shared → Prop} (ho : s.heap.get? a = some (seqObj "list" vs.toArray n)) (h64 : vs.length < 64)
    (hk : ∀ h', (∀ b o, b ≠ a → s.heap.get? b = some o → h'.get? b = some o) → 2 ≤ vs.length → ∀ Q : SortKind → Shared → Prop, Q κ { s with heap := h' } → wpAny (model prog w) A (keyKind' vs.toArray) Q E { s with heap := h' })
    (hc : ∀ h', (∀ b o, b ≠ a → s.heap.get? b = some o → h'.get? b = some o) → ∀ i j (C : Bool → Shared → Prop), i < vs.length → j < vs.length → C (lt i j) { s with heap := h' } → kas_ask prog w A κ vs i j C { s with heap := h' })
    (h : ∀ p : Array Nat, Pm vs.length p → Sto lt p vs.length → P (.done (.ret .none)) { s with heap := sortedHeap s.heap a vs (p.toList.map fun i => vs.getD i Value.none).toArray }) :
    wpAny (model prog w) A (Builtin.«list.sort» ⟨[.ref a], []⟩) P E s := by
  rw [list_sort_plain]
  have ha : a < s.heap.objs.size := Heap.lt_size ho
  refine wpAny_bind (listItems_at ho rfl ?_)
  refine wpAny_bind (listUpdate_at ho rfl ?_ (by rw [List.size_toArray, sizeLine_eq]; omega) (Nat.zero_le _))
  obtain ⟨e1, ho1⟩ : ∃ e1, (s.heap.update a (Obj.mapSeq fun _ => #[])).get? a = some (seqObj "list" #[] e1) := ⟨_, get?_update_seq ho (fun _ => #[])⟩
  refine wpAny_bind (seqEpoch_at ho1 rfl ?_)
  refine wpAny_bind (wpAny_newTuple ?_ (by show vs.length ≤ _; rw [sizeLine_eq]; omega))
  refine wpAny_bind (wpAny_newList ?_ (Nat.zero_le _))
  refine wpAny_holding ?_
  have keep : ∀ b o, b ≠ a → s.heap.get? b = some o → (((s.heap.update a (Obj.mapSeq fun _ => #[])).push (seqObj "tuple" vs.toArray 0)).push (seqObj "list" #[] 0)).get? b = some o := fun b o ne q => by
    have hlt : b < s.heap.objs.size := Heap.lt_size q
    rw [Heap.get?_push_ne _ _ _ (by rw [size_push', Heap.size_update]; exact Nat.ne_of_lt (Nat.lt_succ_of_lt hlt)), Heap.get?_push_ne _ _ _ (by rw [Heap.size_update]; exact Nat.ne_of_lt hlt), Heap.get?_update_ne _ _ _ _ ne]
    exact q
  have ho6 : (((s.heap.update a (Obj.mapSeq fun _ => #[])).push (seqObj "tuple" vs.toArray 0)).push (seqObj "list" #[] 0)).get? a = some (seqObj "list" #[] e1) := by
    rw [Heap.get?_push_ne _ _ _ (by rw [size_push', Heap.size_update]; exact Nat.ne_of_lt (Nat.lt_succ_of_lt ha)), Heap.get?_push_ne _ _ _ (by rw [Heap.size_update]; exact Nat.ne_of_lt ha)]
    exact ho1
  show wpAny (model prog w) A _ P E { s with heap := ((s.heap.update a (Obj.mapSeq fun _ => #[])).push (seqObj "tuple" vs.toArray 0)).push (seqObj "list" #[] 0) }
  dsimp only
  have hsz : vs.toArray.size = vs.length := by simp
  by_cases h2 : vs.toArray.size < 2
  · rw [if_pos h2, if_pos h2]
    refine wpAny_bind (wpAny_pure ?_)
    rw [StateT.run_pure]
    refine wpAny_bind (wpAny_pure ?_)
    dsimp only
    refine wpAny_bind (seqEpoch_at ho6 rfl ?_)
    refine wpAny_bind (listUpdate_at ho6 rfl ?_ (hsz2 := by rw [Array.size_map]; show (pairsOf vs).size ≤ _; rw [pairsOf_size, sizeLine_eq]; omega))
    simp only [bne_self_eq_false, Bool.false_eq_true, if_false]
    have fin := h (List.range vs.length).toArray (Array.Perm.refl _) (fun i j hij hj => by
      have : i = j := by omega
      subst this; exact irr O _)
    have e : (List.range vs.length).toArray.toList.map (fun i => vs.getD i Value.none) = vs := by
      refine List.ext_getElem? fun i => ?_
      simp only [List.getElem?_map]
      by_cases hi : i < vs.length
      · simp [hi]
      · simp [Nat.le_of_not_lt hi]
    rw [e] at fin
    have e2 : (Array.map (fun x => x.snd) (vs.toArray.zip vs.toArray)) = vs.toArray := by
      apply Array.toList_inj.mp
      simp [List.map_snd_zip]
    rw [show Array.map (fun x : Keyed => x.snd) (arrOf (SortSt.mk' general' (vs.toArray.zip vs.toArray) #[] 7 none)) = vs.toArray from e2]
    exact wpAny_pure fin
  · rw [if_neg h2, if_neg h2]
    have h2' : 2 ≤ vs.length := by rw [hsz] at h2; exact Nat.not_lt.mp (by assumption)
    refine wpAny_bind (hk _ keep h2' _ ?_)
    refine wpAny_bind (wpAny_mono (kat_run (ks := vs) (vs := vs) (κ := κ) (Q := fun st' s' => ∃ p : Array Nat, s' = { s with heap := ((s.heap.update a (Obj.mapSeq fun _ => #[])).push (seqObj "tuple" vs.toArray 0)).push (seqObj "list" #[] 0) } ∧ Pm vs.length p ∧ Sto lt p vs.length ∧ arrOf st' = p.map (kas_item (vs.toArray.zip vs.toArray)) ∧ failedOf st' = none)
      rfl h2' h64 (G := fun p s' => s' = { s with heap := ((s.heap.update a (Obj.mapSeq fun _ => #[])).push (seqObj "tuple" vs.toArray 0)).push (seqObj "list" #[] 0) } ∧ Pm vs.length p ∧ Sto lt p vs.length) (fun p st' s' a1 a2 a3 a4 => ⟨p, a4.1, a4.2.1, a4.2.2, a2, a3⟩) ?_) ?_ fun _ _ e => e)
    · exact AsksP.wp (lt := lt) (hc _ keep) (asks_sort (by exact Nat.le_of_lt (by assumption))) ⟨rfl, (asks_sort (by exact Nat.le_of_lt (by assumption))).ev lt, ev_sort O (by exact Nat.le_of_lt (by assumption))⟩
    · rintro ⟨⟨⟩, st'⟩ s' ⟨p, rfl, hp, hs, har, hf⟩
      dsimp only
      rw [kat_snds rfl har]
      refine wpAny_bind (seqEpoch_at ho6 rfl ?_)
      refine wpAny_bind (listUpdate_at ho6 rfl ?_ (Nat.zero_le _) (by rw [List.size_toArray, List.length_map, Array.length_toList, hp.size, sizeLine_eq]; omega))
      rw [hf]
      simp only [bne_self_eq_false, Bool.false_eq_true, if_false]
      exact wpAny_pure (h p hp hs)
/-- sorted of whatever is collected: some vs of which I holds -/
theorem sorted_raw {κ : SortKind} {lt : Nat → Nat → Bool} (O : Ord lt) {v : Value} (I : List Value → Prop) {Q : Value → Shared → Prop} (h64 : ∀ vs, I vs → vs.length < 64)
    (hcol : ∀ (Q : List Value → Shared → Prop), (∀ vs h1 t1, I vs → (∀ b o, s.heap.get? b = some o → h1.get? b = some o) → Q vs { s with heap := h1, toks := t1 }) → wpAny (model prog w) A.in1 (collect v) Q E s)
    (hk : ∀ vs h' t', I vs → (∀ b o, s.heap.get? b = some o → h'.get? b = some o) → 2 ≤ vs.length → ∀ Q : SortKind → Shared → Prop, Q κ { s with heap := h', toks := t' } → wpAny (model prog w) A.in1.in1 (keyKind' vs.toArray) Q E { s with heap := h', toks := t' })
    (hc : ∀ vs h' t', I vs → (∀ b o, s.heap.get? b = some o → h'.get? b = some o) → ∀ i j (C : Bool → Shared → Prop), i < vs.length → j < vs.length → C (lt i j) { s with heap := h', toks := t' } → kas_ask prog w A.in1.in1 κ vs i j C { s with heap := h', toks := t' })
    (h : ∀ vs (p : Array Nat) (h1 h' : Heap) t' l e, I vs → Pm vs.length p → Sto lt p vs.length → (∀ b o, s.heap.get? b = some o → h1.get? b = some o) → (∀ b o, h1.get? b = some o → h'.get? b = some o) → h1.objs.size ≤ l → h'.get? l = some (seqObj "list" (p.toList.map fun i => vs.getD i Value.none).toArray e) → Q (.ref l) { s with heap := h', toks := t' }) :
    wpAny (model prog w) A (call (.builtin "sorted") [v]) Q E s := by
  refine Calls.call_function_entry kind_sorted plain_sorted entry_sorted (args_sorted1 _) ?_
  unfold Builtin.«sorted»
  refine wpAny_bind (m := checkCount "sorted" 1 1 _) (wpAny_pure ?_)
  refine wpAny_bind (hcol _ fun vs h1 t1 hI k1 => ?_)
  have h64 := h64 vs hI
  refine wpAny_bind (wpAny_newList ?_ (by rw [sizeLine_eq]; omega))
  have hoL : (h1.push (seqObj "list" vs.toArray 0)).get? h1.objs.size = some (seqObj "list" vs.toArray 0) := Heap.get?_push_size _ rfl
  show wpAny _ _ _ _ _ { s with heap := h1.push (seqObj "list" vs.toArray 0), toks := t1 }
  have k3 : ∀ b o, h1.get? b = some o → b ≠ h1.objs.size ∧ (h1.push (seqObj "list" vs.toArray 0)).get? b = some o := fun b o q =>
    ⟨Nat.ne_of_lt (Heap.lt_size q), Heap.get?_push_of_some _ q⟩
  have k2 : ∀ b o, s.heap.get? b = some o → b ≠ h1.objs.size ∧ (h1.push (seqObj "list" vs.toArray 0)).get? b = some o := fun b o q => k3 b o (k1 b o q)
  refine wpAny_bind (wpAny_holding (wpAny_call_entry slot_list_sort ⟨_, hoL, rfl⟩ entry_list_sort (list_sort_raw (s := { s with heap := h1.push (seqObj "list" vs.toArray 0), toks := t1 }) (κ := κ) O hoL h64 (fun h' k l2 Q q => ?_) (fun h' k i j C hi hj q => ?_) fun p hp hs => ⟨_, rfl, ?_⟩) (args_list_sort _)))
  · exact hk vs h' t1 hI (fun b o q => k b o (k2 b o q).1 (k2 b o q).2) l2 Q q
  · exact hc vs h' t1 hI (fun b o q => k b o (k2 b o q).1 (k2 b o q).2) i j C hi hj q
  · refine wpAny_pure ⟨_, rfl, ?_⟩
    have hz : h1.objs.size < (h1.push (seqObj "list" vs.toArray 0)).objs.size := by rw [size_push']; exact Nat.lt_succ_self _
    obtain ⟨e, he⟩ : ∃ e, (sortedHeap (h1.push (seqObj "list" vs.toArray 0)) h1.objs.size vs (p.toList.map fun i => vs.getD i Value.none).toArray).get? h1.objs.size = some (seqObj "list" (p.toList.map fun i => vs.getD i Value.none).toArray e) := by
      unfold sortedHeap
      obtain ⟨e1, ho1⟩ : ∃ e1, ((h1.push (seqObj "list" vs.toArray 0)).update h1.objs.size (Obj.mapSeq fun _ => #[])).get? h1.objs.size = some (seqObj "list" #[] e1) := ⟨_, get?_update_seq hoL (fun _ => #[])⟩
      have ho6 : ((((h1.push (seqObj "list" vs.toArray 0)).update h1.objs.size (Obj.mapSeq fun _ => #[])).push (seqObj "tuple" vs.toArray 0)).push (seqObj "list" #[] 0)).get? h1.objs.size = some (seqObj "list" #[] e1) := by
        exact Heap.get?_push_of_some _ (Heap.get?_push_of_some _ ho1)
      exact ⟨_, get?_update_seq ho6 fun _ => _⟩
    refine h vs p h1 _ t1 h1.objs.size e hI hp hs k1 (fun b o q => ?_) (Nat.le_refl _) he
    have q2 := k3 b o q
    unfold sortedHeap
    rw [Heap.get?_update_ne _ _ _ _ q2.1]
    refine Heap.get?_push_of_some _ (Heap.get?_push_of_some _ ?_)
    rw [Heap.get?_update_ne _ _ _ _ q2.1]
    exact q2.2
end
end Srt
set_option maxHeartbeats 1000000
namespace Srt
open PySem PySem.W PyProof.Rows L2
def ltK : Key → Key → Bool
  | .inl a, .inl b => decide (a < b)
  | .inr a, .inr b => decide (a.cps.toList < b.cps.toList)
  | .inl _, .inr _ => true
  | .inr _, .inl _ => false
def ltR : List Key → List Key → Bool
  | x :: xs, y :: ys => if x = y then ltR xs ys else ltK x y
  | [], _ :: _ => true
  | _, [] => false
theorem str_ext {a b : Str} (h : a.cps.toList = b.cps.toList) : a = b := by
  cases a; cases b; simp at h; rw [h]
theorem ltK_irr : ∀ a, ltK a a = false
  | .inl a => by simp [ltK]
  | .inr a => by simp [ltK, List.lt_irrefl]
theorem ltK_tr : ∀ {a b c}, ltK a b = true → ltK b c = true → ltK a c = true
  | .inl a, .inl b, .inl c, h1, h2 => by simp only [ltK, decide_eq_true_eq] at *; omega
  | .inr a, .inr b, .inr c, h1, h2 => by simp only [ltK, decide_eq_true_eq] at *; exact List.lt_trans h1 h2
  | .inl _, .inl _, .inr _, _, _ => rfl
  | .inl _, .inr _, .inr _, _, _ => rfl
  | .inl _, .inr _, .inl _, _, h2 => by simp [ltK] at h2
  | .inr _, .inl _, _, h1, _ => by simp [ltK] at h1
  | .inr _, .inr _, .inl _, _, h2 => by simp [ltK] at h2
theorem ltK_tri : ∀ a b, ltK a b = false → a = b ∨ ltK b a = true
  | .inl a, .inl b, h => by
    simp only [ltK, decide_eq_true_eq, decide_eq_false_iff_not] at *
    rcases Int.lt_trichotomy a b with x | x | x
    · exact absurd x h
    · exact .inl (by rw [x])
    · exact .inr x
  | .inr a, .inr b, h => by
    simp only [ltK, decide_eq_true_eq, decide_eq_false_iff_not] at *
    by_cases e : b.cps.toList < a.cps.toList
    · exact .inr e
    · exact .inl (congrArg Sum.inr (str_ext (List.le_antisymm (List.not_lt.mp e) (List.not_lt.mp h))))
  | .inl _, .inr _, h => by simp [ltK] at h
  | .inr _, .inl _, _ => .inr rfl
theorem ltR_irr : ∀ a, ltR a a = false
  | [] => rfl
  | x :: xs => by simp [ltR, ltR_irr xs]
theorem ltR_tr : ∀ {a b c}, ltR a b = true → ltR b c = true → ltR a c = true
  | _, [], _, h, _ => by simp [ltR] at h
  | _, _ :: _, [], _, h => by simp [ltR] at h
  | [], _ :: _, _ :: _, _, _ => rfl
  | x :: xs, y :: ys, z :: zs, h1, h2 => by
    unfold ltR at h1 h2 ⊢
    by_cases e1 : x = y
    · subst e1
      rw [if_pos rfl] at h1
      by_cases e2 : x = z
      · rw [if_pos e2] at h2 ⊢; exact ltR_tr h1 h2
      · rw [if_neg e2] at h2 ⊢; exact h2
    · rw [if_neg e1] at h1
      by_cases e2 : y = z
      · subst e2
        rw [if_neg e1]; exact h1
      · rw [if_neg e2] at h2
        have := ltK_tr h1 h2
        rw [if_neg (fun e => by rw [e, ltK_irr] at this; cases this)]
        exact this
theorem ltR_tri : ∀ a b, ltR a b = false → a = b ∨ ltR b a = true
  | [], [], _ => .inl rfl
  | [], _ :: _, h => by simp [ltR] at h
  | _ :: _, [], _ => .inr rfl
  | x :: xs, y :: ys, h => by
    unfold ltR at h ⊢
    by_cases e : x = y
    · subst e
      rw [if_pos rfl] at h ⊢
      rcases ltR_tri xs ys h with r | r
      · exact .inl (by rw [r])
      · exact .inr r
    · rw [if_neg e] at h
      rw [if_neg (fun z => e z.symm)]
      exact .inr ((ltK_tri _ _ h).resolve_left e)
theorem ord_rows (f : Nat → List Key) : Ord fun i j => ltR (f i) (f j) where
  asym := fun a b h => by
    cases e : ltR (f b) (f a) with
    | false => rfl
    | true => have := ltR_tr h e; rw [ltR_irr] at this; cases this
  ntr := fun a b c h1 h2 => by
    cases e : ltR (f a) (f c) with
    | false => rfl
    | true =>
      rcases ltR_tri _ _ h1 with r | r
      · rw [r, h2] at e; cases e
      · have := ltR_tr r e; rw [h2] at this; cases this
def isL : Key → Bool
  | .inl _ => true
  | .inr _ => false
section
variable {prog : Program} {w : World} {A : Around} {E : Value → Shared → Prop} {s : Shared}
theorem key_eq : ∀ {x y : Key} {u v : Value} {C : Bool → Shared → Prop}, isL x = isL y → RelV (kV x) u → RelV (kV y) v → C (decide (x = y)) s → wpAny (model prog w) A (eqBool u v) C E s
  | .inl a, .inl b, _, _, C, _, ⟨t, rfl⟩, ⟨t', rfl⟩, h => wpAny_eqBool_int (by
      have : (a == b) = decide ((Sum.inl a : Key) = Sum.inl b) := by simp only [Sum.inl.injEq]; rfl
      rw [this]; exact h)
  | .inr a, .inr b, _, _, C, _, ⟨t, rfl⟩, ⟨t', rfl⟩, h => wpAny_eqBool_str (by
      have : decide (a = b) = decide ((Sum.inr a : Key) = Sum.inr b) := by simp
      rw [this]; exact h)
  | .inl _, .inr _, _, _, _, h, _, _, _ => by cases h
  | .inr _, .inl _, _, _, _, h, _, _, _ => by cases h
theorem key_lt : ∀ {x y : Key} {u v : Value} {b : Bool} {C : Bool → Shared → Prop}, isL x = isL y → RelV (kV x) u → RelV (kV y) v → C (ltK x y) s → wpAny (model prog w) A (oneLt' b u v) C E s
  | .inl a, .inl c, _, _, true, C, _, ⟨t, rfl⟩, ⟨t', rfl⟩, h => oneLt_int h
  | .inl a, .inl c, _, _, false, C, _, ⟨t, rfl⟩, ⟨t', rfl⟩, h => kat_one _ _ (PyProof.Rows.lt_int (show PySem.W.BoolBack C _ s from h))
  | .inr a, .inr c, _, _, true, C, _, ⟨t, rfl⟩, ⟨t', rfl⟩, h => oneLt_str h
  | .inr a, .inr c, _, _, false, C, _, ⟨t, rfl⟩, ⟨t', rfl⟩, h => kat_one _ _ (PySem.P.lt_str (show PySem.W.BoolBack C _ s from h))
  | .inl _, .inr _, _, _, _, _, h, _, _, _ => by cases h
  | .inr _, .inl _, _, _, _, _, h, _, _, _ => by cases h
theorem lex_go {b fin : Bool} {C : Bool → Shared → Prop} (hf : fin = false) : ∀ {x y : List Key} {us vs : List Value} (i : Nat), x.map isL = y.map isL → Vals (x.map kV) us → Vals (y.map kV) vs → C (ltR x y) s → KatLex prog w A b fin C (us.zip vs) i s
  | [], [], _, _, i, _, .nil, .nil, h => by subst hf; exact h
  | [], _ :: _, _, _, _, e, _, _, _ => by cases e
  | _ :: _, [], _, _, _, e, _, _, _ => by cases e
  | x :: xs, y :: ys, _, _, i, e, .cons r1 r2, .cons q1 q2, h => by
    simp only [List.map_cons, List.cons.injEq] at e
    refine kat_cons (key_eq e.1 r1 q1 ?_)
    unfold ltR at h
    by_cases z : x = y
    · rw [decide_eq_true z]
      rw [if_pos z] at h
      exact kat_yes (lex_go hf (i + 1) e.2 r2 q2 h)
    · rw [decide_eq_false z]
      rw [if_neg z] at h
      exact kat_no (key_lt e.1 r1 q1 h)
end
abbrev Row := Addr × List Key
def rRef (q : Row) : V := .ref q.1
theorem tups_of {X : Cx} {pins : List (Addr × Obj)} {σ : L2.St} {H : Hp} {s : Shared} (I : Inv X pins σ H s) : ∀ (ps : List Row), (∀ q ∈ ps, SqT X.K H q.1 (q.2.map kV)) → (∀ q ∈ ps, q.2 ≠ []) →
    ∃ fs, KatTups s.heap (ps.map fun q => Value.ref q.1) fs ∧ fs.length = ps.length ∧ ∀ v ∈ fs, ∃ q ∈ ps, ∃ k r, q.2 = k :: r ∧ RelV (kV k) v
  | [], _, _ => ⟨[], trivial, rfl, fun v h => nomatch h⟩
  | q :: ps, h, h0 => by
    obtain ⟨fs, t, l, f⟩ := tups_of I ps (fun q hq => h q (.tail _ hq)) fun q hq => h0 q (.tail _ hq)
    obtain ⟨its, rv, ⟨o, ho, hc, n, hd⟩, hz⟩ := I.tuple (h q (.head _))
    cases e : q.2 with
    | nil => exact absurd e (h0 q (.head _))
    | cons k r =>
      rw [e, List.map_cons] at rv
      cases rv with
      | @cons _ u _ us ru rr =>
        refine ⟨u :: fs, .cons ho hc hd (by simp) t, by simp [l], fun v hv => ?_⟩
        rcases List.mem_cons.mp hv with rfl | hv
        · exact ⟨q, .head _, k, r, e, ru⟩
        · obtain ⟨q', h1, k', r', h2, h3⟩ := f v hv
          exact ⟨q', .tail _ h1, k', r', h2, h3⟩
theorem looks_key {M : Model} {h : Heap} : ∀ {k : Key} {v : Value}, RelV (kV k) v → Looks M h (typeOf v) (if isL k = true then Value.type "int" else Value.type "str")
  | .inl i, v, ⟨t, e⟩ => by subst e; exact Looks.of_pure rfl
  | .inr x, v, ⟨t, e⟩ => by subst e; exact Looks.of_pure rfl
theorem Pm.toList {n : Nat} {p : Array Nat} (h : Pm n p) : p.toList.Perm (List.range n) := by
  have := (Array.perm_iff_toList_perm).mp h
  simpa using this
theorem map_range_getD {α : Type} (l : List α) (d : α) : (List.range l.length).map (fun i => l.getD i d) = l := by
  refine List.ext_getElem? fun i => ?_
  simp only [List.getElem?_map]
  by_cases hi : i < l.length
  · simp [hi]
  · simp [Nat.le_of_not_lt hi]
theorem Sto.pairwise {lt : Nat → Nat → Bool} {p : Array Nat} {n : Nat} (hz : p.size = n) (h : Sto lt p n) : p.toList.Pairwise fun i j => lt j i = false := by
  rw [List.pairwise_iff_getElem]
  intro i j hi hj hij
  have := h i j (Nat.le_of_lt hij) (by simpa [← hz] using hj)
  simp only [Array.length_toList] at hi hj
  have e1 : g p i = p.toList[i] := by simp [g, Array.getD, hi]
  have e2 : g p j = p.toList[j] := by simp [g, Array.getD, hj]
  rw [e1, e2] at this
  exact this
theorem vals_map {α : Type} (f : α → V) (f' : α → Value) (hf : ∀ a, RelV (f a) (f' a)) : ∀ l : List α, Vals (l.map f) (l.map f')
  | [] => .nil
  | a :: l => .cons (hf a) (vals_map f f' hf l)
theorem sortT_core {X : Cx} {pins : List (Addr × Obj)} {σ : L2.St} {H : Hp} {s : Shared} (I : Inv X pins σ H s) {v : Value} {ps : List Row} {Q : VK} (hT : ∀ q ∈ ps, SqT X.K H q.1 (q.2.map kV)) (hS : ∀ q ∈ ps, ∀ q' ∈ ps, q.2.map isL = q'.2.map isL) (h0 : ∀ q ∈ ps, q.2 ≠ []) (h64 : ps.length < 64)
    (hcol : ∀ (Q : List Value → Shared → Prop), (∀ h1 t1, (∀ b o, s.heap.get? b = some o → h1.get? b = some o) → Q (ps.map fun q => Value.ref q.1) { s with heap := h1, toks := t1 }) → wpAny (model X.prog X.w) X.A.in1 (collect v) Q X.xe s)
    (h : ∀ (l : Addr) (ps' : List Row), H l = none → ps'.Perm ps → ps'.Pairwise (fun a b => ltR b.2 a.2 = false) → Q (.ref l) (upd H l (.lst (ps'.map rRef)))) :
    wpAny (model X.prog X.w) X.A (call (.builtin "sorted") [v]) (EP X pins σ Q) X.xe s := by
  have lz : (ps.map fun q => Value.ref q.1).length = ps.length := List.length_map ..
  refine sorted_raw (κ := tuples' true) (ord_rows fun i => (ps.getD i (0, [])).2) (fun vs => vs = ps.map fun q => Value.ref q.1) (fun vs e => by rw [e, lz]; exact h64) (fun Q hq => hcol Q fun h1 t1 k => hq _ h1 t1 rfl k) ?_ ?_ ?_
  · rintro vs h' t' rfl k l2 Q hq
    rw [lz] at l2
    have I' : Inv X pins σ H { s with heap := h', toks := t' } := I.kept k
    obtain ⟨fs, t, l, f⟩ := tups_of I' ps hT h0
    obtain ⟨q0, r0, e0⟩ : ∃ q0 r0, ps = q0 :: r0 := by
      match ps, l2 with
      | q0 :: r0, _ => exact ⟨q0, r0, rfl⟩
    have m0 : q0 ∈ ps := by rw [e0]; exact .head _
    obtain ⟨k0, r1, e1⟩ : ∃ k0 r1, q0.2 = k0 :: r1 := by
      cases e : q0.2 with
      | nil => exact absurd e (h0 q0 m0)
      | cons k r => exact ⟨k, r, rfl⟩
    refine kat_kind (s := { s with heap := h', toks := t' }) (T := if isL k0 = true then Value.type "int" else Value.type "str") t (by omega) (fun v hv => ?_) (by split <;> rfl) ?_
    · obtain ⟨q, hq, k', r', e', rk⟩ := f v hv
      have := hS q hq q0 m0
      rw [e', e1] at this
      simp only [List.map_cons, List.cons.injEq] at this
      rw [← this.1]
      exact looks_key rk
    · have : ((if isL k0 = true then Value.type "int" else Value.type "str") != Value.type "tuple") = true := by split <;> rfl
      rw [this]; exact hq
  · rintro vs h' t' rfl k i j C hi hj hC
    rw [lz] at hi hj
    have I' : Inv X pins σ H { s with heap := h', toks := t' } := I.kept k
    show wpAny _ _ (keyLt' _ ((ps.map fun q => Value.ref q.1).getD i Value.none) ((ps.map fun q => Value.ref q.1).getD j Value.none)) C _ _
    have ei : (ps.map fun q => Value.ref q.1).getD i Value.none = Value.ref ps[i].1 := by simp [hi]
    have ej : (ps.map fun q => Value.ref q.1).getD j Value.none = Value.ref ps[j].1 := by simp [hj]
    have fi : ps.getD i (0, []) = ps[i] := by simp [hi]
    have fj : ps.getD j (0, []) = ps[j] := by simp [hj]
    rw [ei, ej]
    rw [fi, fj] at hC
    obtain ⟨ui, ri, ⟨oi, hoi, hci, ni, hdi⟩, zi⟩ := I'.tuple (hT ps[i] (List.getElem_mem hi))
    obtain ⟨uj, rj, ⟨oj, hoj, hcj, nj, hdj⟩, zj⟩ := I'.tuple (hT ps[j] (List.getElem_mem hj))
    have sh := hS _ (List.getElem_mem hi) _ (List.getElem_mem hj)
    have el : ui.length = uj.length := by
      rw [← ri.length, ← rj.length, List.length_map, List.length_map]
      simpa using congrArg List.length sh
    refine kat_lt hoi hdi hoj hdj (lex_go (by simp [el]) 0 sh ri rj hC)
  · rintro vs p h1 h' t' l e rfl pm st k1 k zl hl
    have I : Inv X pins σ H { s with heap := h1, toks := t' } := I.kept k1
    have pl := pm.toList
    rw [lz] at pl pm st
    have hz := pm.size
    have mem : ∀ i ∈ p.toList, i < ps.length := fun i hi => by simpa using pl.mem_iff.mp hi
    have e1 : (p.toList.map fun i => (ps.map fun q => Value.ref q.1).getD i Value.none) = (p.toList.map fun i => ps.getD i (0, [])).map fun q => Value.ref q.1 := by
      rw [List.map_map]
      refine List.map_congr_left fun i hi => ?_
      have := mem i hi
      simp [this]
    rw [e1] at hl
    have pp : (p.toList.map fun i => ps.getD i (0, [])).Perm ps := by
      have := pl.map (fun i => ps.getD i ((0, []) : Row))
      rwa [map_range_getD] at this
    have pw : (p.toList.map fun i => ps.getD i ((0, []) : Row)).Pairwise (fun a b => ltR b.2 a.2 = false) := by
      rw [List.pairwise_map]
      exact st.pairwise hz
    refine ⟨.ref l, _, I.laid (t' := t') (o := .lst ((p.toList.map fun i => ps.getD i (0, [])).map rRef)) k zl ⟨?_, _, e, vals_map rRef (fun q => Value.ref q.1) (fun _ => rfl) _, hl⟩, rfl, h l _ (I.hok.fresh zl) pp pw⟩
    rw [List.length_map, pp.length_eq, sizeLine_eq]
    omega
end Srt
set_option maxHeartbeats 1000000
namespace Srt
open PySem PySem.W PyProof.Rows L2
/-- rows of one shape, of tracked tuples -/
structure RowsOk (K : PySem.W.Frag) (H : Hp) (ps : List Row) : Prop where
  at' : ∀ q ∈ ps, SqT K H q.1 (q.2.map kV)
  sh : ∀ q ∈ ps, ∀ q' ∈ ps, q.2.map isL = q'.2.map isL
  ne : ∀ q ∈ ps, q.2 ≠ []
  few : ps.length < 64
section
variable {X : Cx}
/-- sorted(a list of rows) -/
theorem call_sortedT : CallR X (.builtin "sorted") (fun xs H Q => ∃ (p : Addr) (ps : List Row), xs = [.ref p] ∧ SqL X.K H p (ps.map rRef) ∧ RowsOk X.K H ps ∧ ∀ (l : Addr) (ps' : List Row), H l = none → ps'.Perm ps → ps'.Pairwise (fun a b => ltR b.2 a.2 = false) → Q (.ref l) (upd H l (.lst (ps'.map rRef)))) := by
  intro pins s σ H xs us Q I r h
  obtain ⟨p, ps, rfl, hq, ok, q⟩ := h
  obtain ⟨u, rfl, rx⟩ := vals1 r
  cases rx
  obtain ⟨its, rv, hp, hz⟩ := I.list hq
  have e : its = ps.map fun q => Value.ref q.1 := by
    clear hq hp hz q r ok
    induction ps generalizing its with
    | nil => cases rv; rfl
    | cons a ps ih =>
      cases rv with
      | cons ru rr => rw [List.map_cons, ← ih _ rr]; cases ru; rfl
  subst e
  refine sortT_core I ok.at' ok.sh ok.ne ok.few (fun Q hq => collect_list hp.isList (hq _ _ fun b o ho => ?_) (by rw [List.length_map, sizeLine_eq]; have := ok.few; omega)) q
  have hlt : b < s.heap.objs.size := Heap.lt_size ho
  rw [Heap.get?_update_ne _ _ _ _ (Nat.ne_of_lt hlt)]
  exact Heap.get?_push_of_some _ ho
/-- the object that d.values() lays -/
def viewO (d : Addr) : Obj := { cls := .type "dict_values", data := .fields #[.ref d] }
theorem vals_acc {kvs : List (Key × V)} {vs : List (Key × Value)} {ps : List Row} (rel : KV kvs vs) (e : kvs.map (·.2) = ps.map rRef) : vs.map (·.2) = ps.map fun q => Value.ref q.1 := by
  induction rel generalizing ps with
  | nil =>
    cases ps with
    | nil => rfl
    | cons _ _ => cases e
  | @cons a b l1 l2 r t ih =>
    cases ps with
    | nil => cases e
    | cons q ps =>
      simp only [List.map_cons, List.cons.injEq] at e ⊢
      refine ⟨?_, ih e.2⟩
      have := r.2
      rw [e.1] at this
      exact this
/-- sorted(d.values()), of rows -/
theorem call_sortedV (hc : X.calm = true) : CallR X (.builtin "sorted") (fun xs H Q => ∃ (v d : Addr) (kvs : List (Key × V)) (ps : List Row), xs = [.ref v] ∧ H v = some (.frz (viewO d) (.own 0)) ∧ H d = some (.dK kvs) ∧ kvs.map (·.2) = ps.map rRef ∧ RowsOk X.K H ps ∧ ∀ (l : Addr) (ps' : List Row), H l = none → ps'.Perm ps → ps'.Pairwise (fun a b => ltR b.2 a.2 = false) → Q (.ref l) (upd H l (.lst (ps'.map rRef)))) := by
  intro pins s σ H xs us Q I r h
  obtain ⟨v, d, kvs, ps, rfl, hv, hd, e, ok, q⟩ := h
  obtain ⟨u, rfl, rx⟩ := vals1 r
  cases rx
  obtain ⟨z, lo, vs, rel, dd⟩ := dk_of I.hok hd
  obtain ⟨ep, hat⟩ := dd.dictAt
  obtain ⟨ho, _⟩ := (show ObjOk X.prog X.w H s.heap v (.frz (viewO d) (.own 0)) from I.hok v _ hv)
  refine sortT_core I ok.at' ok.sh ok.ne ok.few (fun Q hq => ?_) q
  refine kdu_collect (A := X.A.in1) (kdl_values (knd := mixKind X.prog X.w) (r := v) (kvs := vs) (ep := ep)) (I.ok.hd hc) ⟨⟨_, ho, rfl, rfl⟩, hat⟩ (by rw [← rel.length]; exact z) fun h' tk acc hk hacc => ?_
  have ea : acc.toList = ps.map fun q => Value.ref q.1 := by
    rw [← vals_acc rel e]
    refine List.ext_getElem? fun i => ?_
    rw [List.getElem?_map]
    by_cases hi : i < vs.length
    · have hi' : i < acc.size := by rw [hacc.1]; exact hi
      obtain ⟨k, hx⟩ := hacc.2 i acc[i] (by simp [hi'])
      rw [hx]
      simp [hi']
    · rw [List.getElem?_eq_none (by rw [Array.length_toList, hacc.1]; exact Nat.not_lt.mp (by assumption)), List.getElem?_eq_none (by exact Nat.not_lt.mp (by assumption))]
      rfl
  rw [ea]
  exact hq h' tk hk
/-- sorted(d), d's keys texts -/
theorem call_sortedD (hc : X.calm = true) : CallR X (.builtin "sorted") (fun xs H Q => ∃ (d : Addr) (kvs : List (Key × V)) (ns : List Str), xs = [.ref d] ∧ H d = some (.dK kvs) ∧ kvs.map (·.1) = ns.map Sum.inr ∧ ns.length < 64 ∧ ∀ (l : Addr) (ns' : List Str), H l = none → ns'.Perm ns → ns'.Pairwise (fun a b => ltK (.inr b) (.inr a) = false) → Q (.ref l) (upd H l (.lst (ns'.map V.str)))) := by
  intro pins s σ H xs us Q I r h
  obtain ⟨d, kvs, ns, rfl, hd, e, h64, q⟩ := h
  obtain ⟨u, rfl, rx⟩ := vals1 r
  cases rx
  obtain ⟨z, lo, vs, rel, dd⟩ := dk_of I.hok hd
  obtain ⟨ep, hat⟩ := dd.dictAt
  have ek : vs.map (·.1) = ns.map Sum.inr := by
    rw [← e]
    clear hat dd e q z hd
    induction rel with
    | nil => rfl
    | cons r t ih => rw [List.map_cons, List.map_cons, ih, r.1]
  have len : vs.length = ns.length := by simpa using congrArg List.length ek
  refine sorted_raw (κ := oneType') (ord_rows fun i => [Sum.inr (ns.getD i default)]) (fun us => Vals (ns.map V.str) us) (fun us hu => by have := hu.length; rw [List.length_map] at this; omega) (fun Q hq => ?_) ?_ ?_ ?_
  · refine kdu_collect (A := X.A.in1) (kdl_dict (knd := mixKind X.prog X.w) (kvs := vs) (ep := ep) lo) (I.ok.hd hc) hat (by rw [← rel.length]; exact z) fun h' tk acc hk hacc => hq _ h' tk ?_ hk
    have go : ∀ (vs : List (Key × Value)) (ns : List Str) (us : List Value), vs.map (·.1) = ns.map Sum.inr → us.length = vs.length → (∀ (j : Nat) (u : Value), us[j]? = some u → ∃ k x, vs[j]? = some (k, x) ∧ (mixKind X.prog X.w).is k u = true) → Vals (ns.map V.str) us := by
      intro vs
      induction vs with
      | nil =>
        intro ns us e1 e2 _
        cases ns with
        | nil => cases us with
          | nil => exact .nil
          | cons _ _ => cases e2
        | cons _ _ => cases e1
      | cons p vs ih =>
        intro ns us e1 e2 h
        cases ns with
        | nil => cases e1
        | cons n ns =>
          cases us with
          | nil => cases e2
          | cons u us =>
            simp only [List.map_cons, List.cons.injEq] at e1
            refine .cons ?_ (ih ns us e1.2 (by simpa using e2) fun j u hj => h (j + 1) u (by simpa using hj))
            obtain ⟨k, x, hx, hk⟩ := h 0 u rfl
            simp only [List.getElem?_cons_zero, Option.some.injEq] at hx
            have : k = Sum.inr n := by rw [← e1.1, hx]
            subst this
            rcases keyIs_shape (show keyIs (Sum.inr n) u = true from hk) with ⟨i, t, a, _⟩ | ⟨y, t, a, b⟩
            · cases a
            · cases a; exact ⟨t, b⟩
    exact go vs ns acc.toList ek (by rw [Array.length_toList]; exact hacc.1) fun j u hj => hacc.2 j u (by rw [← Array.getElem?_toList]; exact hj)
  · intro us h' t' hu k l2 Q hq
    refine kas_kind (s := { s with heap := h', toks := t' }) (T := Value.type "str") l2 (fun v hv => ?_) rfl rfl hq
    clear hq l2
    have : ∀ {ns : List Str} {us : List Value}, Vals (ns.map V.str) us → ∀ v ∈ us, ∃ x t, v = Value.str x t := by
      intro ns
      induction ns with
      | nil => intro us hu v hv; cases hu; cases hv
      | cons n ns ih =>
        intro us hu v hv
        cases hu with
        | cons r t =>
          rcases List.mem_cons.mp hv with rfl | hv
          · obtain ⟨t, rfl⟩ := r; exact ⟨_, _, rfl⟩
          · exact ih t v hv
    obtain ⟨x, t, rfl⟩ := this hu v hv
    exact Looks.of_pure rfl
  · intro us h' t' hu k i j C hi hj hC
    have lu := hu.length
    rw [List.length_map] at lu
    obtain ⟨a, ha, ra⟩ := Vals.get hu (i := i) (x := V.str (ns.getD i default)) (by simp [show i < ns.length by omega])
    obtain ⟨b, hb, rb⟩ := Vals.get hu (i := j) (x := V.str (ns.getD j default)) (by simp [show j < ns.length by omega])
    show wpAny _ _ (keyLt' oneType' (us.getD i Value.none) (us.getD j Value.none)) C _ _
    have e1 : us.getD i Value.none = a := by simp [List.getD, ha]
    have e2 : us.getD j Value.none = b := by simp [List.getD, hb]
    rw [e1, e2, keyLt'_oneType]
    refine key_lt (x := Sum.inr (ns.getD i default)) (y := Sum.inr (ns.getD j default)) rfl ra rb ?_
    have : ltR [Sum.inr (ns.getD i default)] [Sum.inr (ns.getD j default)] = ltK (Sum.inr (ns.getD i default)) (Sum.inr (ns.getD j default)) := by
      unfold ltR
      split
      · rename_i e; rw [e, ltK_irr]; rfl
      · rfl
    rw [← this]; exact hC
  · intro us p h1 h' t' l e hu pm st k1 k zl hl
    have lu := hu.length
    rw [List.length_map] at lu
    have I : L2.Inv X pins σ H { s with heap := h1, toks := t' } := I.kept k1
    rw [← lu] at pm st
    have pl := pm.toList
    have pp : (p.toList.map fun i => ns.getD i default).Perm ns := by
      have := pl.map (fun i => ns.getD i (default : Str))
      rwa [map_range_getD] at this
    have pw : (p.toList.map fun i => ns.getD i (default : Str)).Pairwise (fun a b => ltK (.inr b) (.inr a) = false) := by
      rw [List.pairwise_map]
      refine (st.pairwise pm.size).imp fun {a b} hab => ?_
      unfold ltR at hab
      split at hab
      · rename_i e; rw [e]; exact ltK_irr _
      · exact hab
    have mem : ∀ i ∈ p.toList, i < ns.length := fun i hi => by simpa using pl.mem_iff.mp hi
    have vv : Vals ((p.toList.map fun i => ns.getD i default).map V.str) (p.toList.map fun i => us.getD i Value.none) := by
      clear hl pw pp pl st pm
      generalize p.toList = il at mem
      induction il with
      | nil => exact .nil
      | cons i il ih =>
        refine .cons ?_ (ih fun j hj => mem j (.tail _ hj))
        have hi := mem i (.head _)
        obtain ⟨a, ha, ra⟩ := Vals.get hu (i := i) (x := V.str (ns.getD i default)) (by simp [hi])
        have e1 : us.getD i Value.none = a := by simp [List.getD, ha]
        show L2.RelV (V.str (ns.getD i default)) (us.getD i Value.none)
        rw [e1]; exact ra
    refine ⟨.ref l, _, I.laid (t' := t') (o := .lst ((p.toList.map fun i => ns.getD i default).map V.str)) k zl ⟨?_, _, e, vv, hl⟩, rfl, q l _ (I.hok.fresh zl) pp pw⟩
    rw [List.length_map, pp.length_eq, sizeLine_eq]
    omega
/-- d.values() -/
def tDVals (td : TE) : TE := fun σ H Q => td σ H fun x H1 => ∃ a kvs, x = .ref a ∧ H1 a = some (.dK kvs) ∧ ∀ v, H1 v = none → Q (.ref v) (upd H1 v (.frz (viewO a) (.own 0)))
theorem pe_dvals {o : Expr} {td : TE} {apos cpos : Pos} (ho : PE X o td) (hbase : attributeBase o "values" X.env (eval o X.env) = eval o X.env) (hline : (apos.endLine == cpos.line) = true) : PE X (.Call (.Attribute o "values" apos) [] [] cpos) (tDVals td) := by
  intro pins s σ H Q I h
  refine wpAny_Call_method hbase rfl hline PySem.F.plainAttrs_dict PySem.F.slot_dict_values PySem.F.type_dict_values (thn (ho pins s σ H _ I h) fun u s1 ⟨x, H1, I1, rx, a, kvs, ex, d, q1⟩ => ?_)
  subst ex
  obtain rfl : u = Value.ref a := rx
  obtain ⟨t1, t2, _⟩ := isD_at I1 (.inl ⟨kvs, .inl d⟩)
  refine ⟨t1, t2, ?_⟩
  obtain ⟨z, lo, vs, rel, dd⟩ := dk_of I1.hok d
  refine Calls.callWith_builtin rfl (PySem.evalArgs_none ?_)
  exact call_meetsIn PySem.F.slot_dict_values dd.typeIs PySem.F.entry_dict_values (PySem.F.args_dict_values_1 _) (meets_dict_values (mixKind X.prog X.w) a lo) ⟨⟨vs, dd⟩, .ref s1.heap.objs.size, _, I1.laid (t' := s1.toks) (o := .frz (viewO a) (.own 0)) (fun _ _ q => Heap.get?_push_of_some _ q) (Nat.le_refl _) ⟨Heap.get?_push_size _ rfl, _, Heap.get?_push_size _ rfl⟩, rfl, q1 _ I1.fresh⟩
end
end Srt
set_option maxHeartbeats 1000000
namespace L2
open PySem PySem.Spec PyProof.Rows
end L2
set_option maxHeartbeats 1000000
namespace L2
open PySem PySem.Spec PyProof.Rows
end L2
set_option maxHeartbeats 1000000
namespace L2
open PySem PySem.Spec PyProof.Rows
end L2
set_option maxHeartbeats 1000000
namespace L2
open PySem PySem.Spec PyProof.Rows
/-- d != {}: any dict of ints and texts, and an empty one -/
theorem op_neDict {X : Cx} (hu : X.A.units < cLine) : OpR X (compareOp .NotEq) (fun x y H Q => ∃ (a b : Addr) (kvs : List (Key × V)), x = .ref a ∧ y = .ref b ∧ H a = some (.dK kvs) ∧ H b = some (.dK []) ∧ Q (.bl (!kvs.isEmpty)) H) := by
  intro pins s σ H x y u v Q I rx ry h
  obtain ⟨a, b, kvs, rfl, rfl, ha, hb, q⟩ := h
  cases rx
  cases ry
  obtain ⟨z, lo, vs, rel, dd⟩ := dk_of I.hok ha
  obtain ⟨z2, lo2, vs2, rel2, dd2⟩ := dk_of I.hok hb
  cases rel2
  have e := rel.length
  refine PySem.W.keq_ne (r := true) lo lo2 dd dd2 hu (fun l => ?_) ⟨.bl (!kvs.isEmpty), H, I, ?_, q⟩
  · have : vs = [] := List.length_eq_zero_iff.mp l
    subst this
    exact .nil
  · have : (!(vs.length == ([] : List (Key × Value)).length && true)) = !kvs.isEmpty := by
      cases kvs with
      | nil => cases rel; rfl
      | cons _ _ => cases rel; rfl
    rw [this]
    rfl
end L2
set_option maxHeartbeats 1000000
namespace PySem
open PyProof.Rows
end PySem
namespace L2
open PySem PySem.Spec PyProof.Rows
end L2
set_option maxHeartbeats 1000000
namespace PySem
open PyProof.Rows
namespace F
theorem owner_rvd : Manifest.owners.lookup (String.ofList ['d', 'e', 's', 'r', 'e', 'v', 'e', 'r'].reverse) = some Manifest.sig_reversed := by kernel_rfl
theorem slot_rvd_next : Slot "reversed" "__next__" "reversed.__next__" :=
  .of (owner := "reversed") (n := "__next__") (by rw [typeLookup_type, builtinLookup_eq_fast]; kernel_rfl) (by decide +kernel) (by decide +kernel) (by decide +kernel)
    (by first | exact .inl (by decide +kernel) | exact .inr (by decide +kernel)) (by rw [isSubtype_type]; kernel_rfl)
theorem entry_rvd_next : entryFor table "reversed.__next__" = some Builtin.«reversed.__next__» := entryFor_of_tree (by kernel_rfl)
theorem args_rvd_next_1 (a : Value) : argsOk "reversed.__next__" ⟨[a], []⟩ := by
  unfold argsOk; rw [signature?_of (id := "reversed.__next__") (n := ['_', '_', 't', 'x', 'e', 'n', '_', '_']) (o := ['d', 'e', 's', 'r', 'e', 'v', 'e', 'r']) (by kernel_rfl) owner_rvd]; kernel_rfl
theorem slot_rvd_iter : Slot "reversed" "__iter__" "reversed.__iter__" :=
  .of (owner := "reversed") (n := "__iter__") (by rw [typeLookup_type, builtinLookup_eq_fast]; kernel_rfl) (by decide +kernel) (by decide +kernel) (by decide +kernel)
    (by first | exact .inl (by decide +kernel) | exact .inr (by decide +kernel)) (by rw [isSubtype_type]; kernel_rfl)
theorem args_rvd_iter_1 (a : Value) : argsOk "reversed.__iter__" ⟨[a], []⟩ := by
  unfold argsOk; rw [signature?_of (id := "reversed.__iter__") (n := ['_', '_', 'r', 'e', 't', 'i', '_', '_']) (o := ['d', 'e', 's', 'r', 'e', 'v', 'e', 'r']) (by kernel_rfl) owner_rvd]; kernel_rfl
theorem entry_rvd_iter : entryFor table "reversed.__iter__" = some Builtin.«dict_keyiterator.__iter__» :=
  entryFor_alias (id' := "dict_keyiterator.__iter__") (by kernel_rfl) (by first | rfl | decide +kernel | (unfold String.splitOn; simp +decide [String.splitOnAux])) (by decide +kernel) (by kernel_rfl)
theorem slot_rvd_init : Slot "reversed" "__init__" "object.__init__" :=
  .of (owner := "object") (n := "__init__") (by rw [typeLookup_type, builtinLookup_eq_fast]; kernel_rfl) (by decide +kernel) (by decide +kernel) (by decide +kernel)
    (by first | exact .inl (by decide +kernel) | exact .inr (by decide +kernel)) (by rw [isSubtype_type]; kernel_rfl)
theorem called_rvd : TypeCalled "reversed" "reversed.__new__" "object.__init__" :=
  ⟨by decide +kernel, by decide +kernel, ⟨_, _, mro_reversed⟩, made_reversed, by decide +kernel, by rw [isSubtype_type]; kernel_rfl, slot_rvd_init⟩
theorem tuple_no_rev : typeLookup (.type "tuple") "__reversed__" = pure none := by rw [typeLookup_type, builtinLookup_eq_fast]; kernel_rfl
theorem sub_tuple_dict' : isSubtype (.type "tuple") (.type "dict") = pure false := by rw [isSubtype_type]; kernel_rfl
end F
theorem meets_reversed_tup (t : Addr) (items : Array Value) :
    Meets (Builtin.«reversed.__new__» ⟨[.type "reversed", .ref t], []⟩) (fun _ R s => s.heap.IsTuple t items ∧ items.size ≤ sizeLine ∧ ∀ tk, R (.ok (.ret (.ref s.heap.objs.size))) { s with heap := s.heap.push { cls := .type "reversed", data := .fields #[.ref t, rawInt ((items.size : Int) - 1)] }, toks := tk }) :=
  .of_wp fun prog w A R s h => by
    obtain ⟨ht, hz, h⟩ := h
    have hT : s.TypeIs (.ref t) "tuple" := let ⟨o, ho, hc, _⟩ := ht; ⟨o, ho, hc⟩
    unfold Builtin.«reversed.__new__»
    refine wpAny_bind (wpAny_of_eq (newClass_reversed _) ?_)
    try dsimp only
    refine wpAny_bind (wpAny_of_eq (a := ()) (by first | rfl | kernel_rfl) ?_)
    refine wpAny_bind (wpAny_of_eq (a := ()) (by first | rfl | kernel_rfl) ?_)
    try dsimp only
    refine wpAny_bind (wpAny_specialOf hT F.tuple_no_rev ?_)
    try dsimp only
    refine wpAny_bind (wpAny_bind (wpAny_isInstance (T := "tuple") (b := false) hT F.sub_tuple_dict' ?_))
    simp only [Bool.false_eq_true, if_false]
    refine wpAny_bind (wpAny_specialOf hT F.slot_tuple_getitem.lookup ?_)
    show wpAny _ _ (if ["tuple.__getitem__", "str.__getitem__", "bytes.__getitem__", "bytearray.__getitem__", "memoryview.__getitem__", "numpy.ndarray.__getitem__", "sqlite3.Row.__getitem__"].contains "tuple.__getitem__" = true then pure true else _) _ _ _
    rw [if_pos (by decide +kernel)]
    refine wpAny_pure ?_
    show wpAny _ _ (if (!true) = true then _ else _) _ _ _
    rw [if_neg (by decide)]
    have hn := L2.line63
    refine wpAny_bind (PyProof.Rows.len_tuple ht (by omega) ?_)
    refine wpAny_bind (wpAny_of_eq (a := some (items.size : Int)) rfl ?_)
    show wpAny _ _ (Builtin.SmallTypes.newRecord (Value.type "reversed") [Value.ref t, rawInt ((items.size : Int) - 1)] >>= _) _ _ _
    refine wpAny_bind ?_
    show wpAny _ _ (newObj (Value.type "reversed") (.fields #[Value.ref t, rawInt ((items.size : Int) - 1)])) _ _ _
    refine wpAny_newObj_type ?_
    exact wpAny_pure ⟨_, rfl, h _⟩
section
variable {prog : Program} {w : World} {A : Around} {E : Value → Shared → Prop} {s : Shared}
abbrev IsRvd (h : Heap) (it t : Addr) (i : Int) : Prop := h.get? it = some { cls := .type "reversed", dict := none, data := .fields #[.ref t, rawInt i], slots := #[] }
theorem call_reversed_tup {t : Addr} {items : Array Value} {Q : Value → Shared → Prop} (ht : s.heap.IsTuple t items) (hz : items.size ≤ sizeLine)
    (h : ∀ tk, Q (.ref s.heap.objs.size) { s with heap := s.heap.push { cls := .type "reversed", data := .fields #[.ref t, rawInt ((items.size : Int) - 1)] }, toks := tk }) :
    wpAny (model prog w) A (call (.type "reversed") [.ref t]) Q E s :=
  callType_new F.called_rvd (by decide) (F.typeCall_reversed_1 _) (F.newCall_reversed_1 _) (fun obj => F.args_object_init_2 obj _) F.entry_reversed_new (meets_reversed_tup t items) ⟨ht, hz, fun tk => ⟨⟨_, Heap.get?_push_size _ rfl, rfl⟩, h tk⟩⟩
theorem wpAny_pyIter_rvd {it t : Addr} {i : Int} {Q : Value → Shared → Prop} (hit : IsRvd s.heap it t i) (h : Q (.ref it) s) : wpAny (model prog w) A (pyIter (.ref it)) Q E s := by
  have hT : s.TypeIs (.ref it) "reversed" := ⟨_, hit, rfl⟩
  refine wpAny_pyIter_slot hT F.slot_rvd_iter (wpAny_call_entry F.slot_rvd_iter hT F.entry_rvd_iter ?_ (F.args_rvd_iter_1 _))
  show wpAny _ _ (ret (.ref it)) _ _ s
  exact wpAny_pure ⟨_, rfl, "reversed", _, hT, F.slot_rvd_next.lookup, h⟩
theorem wpAny_pyNext_rvd_item {it t : Addr} {i : Nat} {items : Array Value} {x : Value} {Q : Option Value → Shared → Prop} (hit : IsRvd s.heap it t (i : Int)) (ht : s.heap.IsTuple t items) (hz : items.size ≤ sizeLine) (hx : items[i]? = some x)
    (hQ : ∀ h' tk, IsRvd h' it t ((i : Int) - 1) → Heap.SameBut it s.heap h' → Q (some x) { s with heap := h', toks := tk }) : wpAny (model prog w) A (pyNext (.ref it)) Q E s := by
  have hT : s.TypeIs (.ref it) "reversed" := ⟨_, hit, rfl⟩
  have hT2 : s.TypeIs (.ref t) "tuple" := let ⟨o, ho, hc, _⟩ := ht; ⟨o, ho, hc⟩
  unfold pyNext
  refine wpAny_bind (wpAny_attempt (wpAny_callSpecial?_slot (name := Str.ofString "__next__") hT F.slot_rvd_next
    (wpAny_call_entry F.slot_rvd_next hT F.entry_rvd_next ?_ (F.args_rvd_next_1 _))))
  unfold Builtin.«reversed.__next__»
  refine wpAny_bind (wpAny_of_eq (a := (Value.ref it, [])) rfl ?_)
  try dsimp only
  refine wpAny_bind (wpAny_field hit rfl (x := .ref t) rfl ?_)
  refine wpAny_bind (wpAny_field hit rfl (x := rawInt (i : Int)) rfl ?_)
  show wpAny _ _ (if (i : Int) < 0 then _ else _) _ _ s
  rw [if_neg (by omega)]
  refine wpAny_bind (wpAny_specialOf hT2 F.slot_tuple_getitem.lookup ?_)
  rw [if_neg (by decide)]
  refine wpAny_bind (wpAny_mkInt ?_)
  have li : i < items.size := by
    rcases Nat.lt_or_ge i items.size with q | q
    · exact q
    · rw [Array.getElem?_eq_none q] at hx; cases hx
  have hn := L2.line63
  refine wpAny_bind (wpAny_attempt (PyProof.Rows.getItem_tuple (s := { s with toks := s.toks + 1 }) ht (by omega) (by omega) (j := i) ((L2.ixN_seq (show L2.ixN items.size (i : Int) = some i by unfold L2.ixN; rw [if_pos (by omega), if_pos (by omega), Int.toNat_natCast])).1) hx ?_))
  try dsimp only
  refine wpAny_bind (wpAny_field (s := { s with toks := s.toks + 1 }) hit rfl (x := rawInt (i : Int)) rfl ?_)
  show wpAny _ _ (setField (.ref it) 1 (rawInt ((i : Int) - 1)) >>= _) _ _ _
  refine wpAny_bind (wpAny_setField (s := { s with toks := s.toks + 1 }) hit rfl (by simp) ?_)
  refine wpAny_pure ⟨x, rfl, wpAny_pure (hQ _ _ ?_ (Heap.SameBut.update ..))⟩
  exact Heap.get?_update_self _ hit rfl
theorem wpAny_pyNext_rvd_end {it t : Addr} {Q : Option Value → Shared → Prop} (hh : A.handled = none) (hit : IsRvd s.heap it t (-1))
    (hQ : ∀ h', Heap.ExtBut it s.heap h' → Q none { s with heap := h' }) : wpAny (model prog w) A (pyNext (.ref it)) Q E s := by
  have hT : s.TypeIs (.ref it) "reversed" := ⟨_, hit, rfl⟩
  unfold pyNext
  refine wpAny_bind (wpAny_attempt (wpAny_callSpecial?_slot (name := Str.ofString "__next__") hT F.slot_rvd_next
    (wpAny_call_entry F.slot_rvd_next hT F.entry_rvd_next ?_ (F.args_rvd_next_1 _))))
  unfold Builtin.«reversed.__next__»
  refine wpAny_bind (wpAny_of_eq (a := (Value.ref it, [])) rfl ?_)
  try dsimp only
  refine wpAny_bind (wpAny_field hit rfl (x := .ref t) rfl ?_)
  refine wpAny_bind (wpAny_field hit rfl (x := rawInt (-1)) rfl ?_)
  show wpAny _ _ (if (-1 : Int) < 0 then _ else _) _ _ s
  rw [if_pos (by decide)]
  refine wpAny_bind (wpAny_rule ?_)
  have h1 : (s.heap.update it (Obj.mapFields (·.setIfInBounds 1 (rawInt (-1))))).get? it = some { cls := .type "reversed", dict := none, data := .fields #[.ref t, rawInt (-1)], slots := #[] } := Heap.get?_update_self _ hit rfl
  refine wpAny_bind (show wpAny _ _ (setField (.ref it) 1 (rawInt (-1)) >>= fun _ => setField (.ref it) 0 .none) _ _ _ from wpAny_bind (wpAny_setField hit rfl (by simp) (wpAny_setField (s := { s with heap := s.heap.update it (Obj.mapFields (·.setIfInBounds 1 (rawInt (-1)))) }) h1 rfl (by simp) ?_)))
  first
  | show wpAny _ _ (newExc (.type "StopIteration") [] >>= _) _ _ _
  | (refine wpAny_bind ?_; show wpAny _ _ (newExc (.type "StopIteration") [] >>= _) _ _ _)
  refine wpAny_bind ?_
  simp only [newExc, newTuple]
  refine wpAny_bind (wpAny_newObj_type ?_ (by size_fits))
  refine wpAny_bind (m := firstArgMember _ _) (wpAny_of_eq (a := Value.none) (by first | rfl | (simp only [firstArgMember]; rfl)) ?_)
  refine wpAny_newObj_type ?_ (by size_fits)
  simp only [raiseNew]
  refine wpAny_bind (wpAny_handled ?_)
  first | rw [show A.in1.handled = none from hh] | rw [hh]
  refine wpAny_bind (wpAny_pure (wpAny_throw ?_))
  refine wpAny_bind (wpAny_isInstance (T := "StopIteration") (b := true) ⟨_, Heap.get?_push_size _ rfl, rfl⟩ isSubtype_stop ?_)
  refine wpAny_pure (hQ _ ((Heap.ExtBut.push (Heap.ExtBut.push ?_ _) _)))
  exact fun b o hb e => ((Heap.get?_update_other _ _ (Ne.symm hb)).trans ((Heap.get?_update_other _ _ (Ne.symm hb)).trans e))
end
end PySem
namespace L2
open PySem PySem.Spec PyProof.Rows
/-- a tuple of n walked from its end -/
def ItrT (K : PySem.W.Frag) (a : Addr) (n : Nat) : It := ⟨fun i H => i < n ∧ ∃ xs, SqT K H a xs ∧ xs.length = n, fun i H x H' => H' = H ∧ ∀ ys, SqT K H a ys → ys[n - 1 - i]? = some x, fun i _ => n ≤ i⟩
theorem turn_rvd {P : Program} {w : World} {K : PySem.W.Frag} {tg : Expr} (a it : Addr) (n : Nat) : Turn P w K tg (ItrT K a n) [it] it (fun i h => i ≤ n ∧ IsRvd h it a ((n : Int) - 1 - (i : Nat))) where
  mem := by simp
  obj := fun i h st b hb => by
    have e : b = it := by simpa using hb
    subst e
    exact ⟨_, st.2, fun v z => by
      have z' : Data.fields _ = Data.cell v := z
      cases z'⟩
  keep := fun i h h' st k => ⟨st.1, k it (by simp) _ st.2⟩
  item := by
    intro X hP hw hK hc i pins s σ H E I hf st hg
    subst hP hw hK
    obtain ⟨hi, xs, hq, hn⟩ := hg
    obtain ⟨its, rv, p, hz⟩ := I.tuple hq
    have hl := rv.length
    obtain ⟨u, hu, ru⟩ := rv.get (i := n - 1 - i) (x := xs[n - 1 - i]'(by omega)) (List.getElem?_eq_getElem (by omega))
    obtain ⟨f0, f1, f2, f3, f4, f5⟩ := hf it (by simp)
    have e0 : (n : Int) - 1 - (i : Nat) = ((n - 1 - i : Nat) : Int) := by omega
    have st2 := st.2
    rw [e0] at st2
    refine wpAny_pyNext_rvd_item st2 (show s.heap.IsTuple a its.toArray from p) (by rw [List.size_toArray]; omega) (x := u) (by simpa using hu) fun h' tk st' sb => ?_
    have I1 : Inv X pins σ H { s with heap := h', toks := tk } := I.turned (t' := tk) (fun b o hb e => (sb.2 b hb).trans e) f0 f1 f3 f4 f5
    have e1 : ((n - 1 - i : Nat) : Int) - 1 = (n : Int) - 1 - ((i + 1 : Nat) : Int) := by omega
    rw [e1] at st'
    exact ⟨u, rfl, go_of (s := { s with heap := h', toks := tk }) (n := "reversed") st' rfl rfl (by decide) ⟨xs[n - 1 - i]'(by omega), H, I1, ru, ⟨rfl, fun ys hy => by rw [I.tuple_inj hy hq]; exact List.getElem?_eq_getElem (by omega)⟩, ⟨by assumption, st'⟩, fun b hb => (hf b hb).1⟩⟩
  done := by
    intro X hP hw hK hc i pins s σ H E I hf st hg
    subst hP hw hK
    have hg : n ≤ i := hg
    obtain ⟨f0, f1, f2, f3, f4, f5⟩ := hf it (by simp)
    have st2 := st.2
    rw [show (n : Int) - 1 - (i : Nat) = -1 by have := st.1; omega] at st2
    exact wpAny_pyNext_rvd_end (I.ok.hd hc) st2 fun h' eb => ⟨rfl, I.turned (t' := s.toks) (fun b o hb e => eb b o hb e) f0 f1 f3 f4 f5⟩
  self := fun _ _ _ _ _ st h => wpAny_pyIter_rvd st.2 h
section
variable {X : Cx} {tg : Expr}
def iRevT (K : PySem.W.Frag) (ta : TA) : TI := fun σ H R => ta σ H fun vs H1 => ∃ (a : Addr) (xs : List V), vs = [.ref a] ∧ SqT K H1 a xs ∧ R (ItrT K a xs.length) H1
/-- reversed(a tuple) walked -/
theorem pi_revT {e : Expr} {ta : TA} {p pos : Pos} (hg : Gl X "reversed") (hm : X.mg "reversed" = none) (ha : PA X [e] ta) (hs : starEach [e] X.env = [(false, eval e X.env)] := by rfl) : PI X tg (.Call (.Name "reversed" p) [e] [] pos) (iRevT X.K ta) := by
  intro pins s σ H R I h
  refine Call_ (ld_blt I hg hm (u := .type "reversed") (by decide +kernel) (PyProof.Rows.callWith_type1 (thn (ha pos pins s σ H _ I h) fun us s1 ⟨vs, H1, I1, r1, q1⟩ => ?_) hs rfl))
  obtain ⟨a, xs, e, hq, q⟩ := q1
  subst e
  cases r1 with
  | cons r rr =>
    cases rr
    cases r
    obtain ⟨its, rv, p, hz⟩ := I1.tuple hq
    have hl := rv.length
    refine call_reversed_tup (show s1.heap.IsTuple a its.toArray from p) (by rw [List.size_toArray]; omega) fun tk => ?_
    have hit : IsRvd (s1.heap.push { cls := .type "reversed", data := .fields #[.ref a, rawInt ((its.toArray.size : Int) - 1)] }) s1.heap.objs.size a ((its.toArray.size : Int) - 1) := Heap.get?_push_size _ rfl
    refine wpAny_pyIter_rvd (s := { s1 with heap := s1.heap.push { cls := .type "reversed", data := .fields #[.ref a, rawInt ((its.toArray.size : Int) - 1)] }, toks := tk }) hit ?_
    refine ⟨s1.heap.objs.size, [s1.heap.objs.size], _, _, H1, rfl, I1.kept (t' := tk) fun b o e => Heap.get?_push_of_some _ e, turn_rvd a _ xs.length, ⟨Nat.zero_le _, ?_⟩, fun b hb => ?_, q⟩
    · rw [show ((xs.length : Int) - 1 - ((0 : Nat) : Int)) = (its.toArray.size : Int) - 1 by rw [List.size_toArray]; omega]
      exact hit
    · have e : b = s1.heap.objs.size := by simpa using hb
      subst e
      exact I1.fpOk (Nat.le_refl _) (I1.hok.fresh (Nat.le_refl _))
end
theorem for_revT {K : PySem.W.Frag} {a : Addr} {xs : List V} {g : TG} {tb : TS} {D : Ends} {σ : St} {H : Hp} (Pv : Nat → St → Hp → Prop) (h0 : Pv 0 σ H) (hl : ∀ i σ H, i ≤ xs.length → Pv i σ H → SqT K H a xs)
    (hs : ∀ i x σ H, i < xs.length → xs[xs.length - 1 - i]? = some x → Pv i σ H → g x σ H fun σ2 H2 => tb { D with nx := Pv (i + 1), ct := Pv (i + 1), bk := D.nx } σ2 H2) (hd : ∀ σ H, Pv xs.length σ H → D.nx σ H) :
    ∃ W : Nat → Nat → St → Hp → Prop, (∃ m, W 0 m σ H) ∧ ∀ i m σ H, W i m σ H →
      ((ItrT K a xs.length).stop i H ∧ D.nx σ H) ∨ ((ItrT K a xs.length).go i H ∧ ∃ N : St → Hp → Prop, (∀ σ' H', N σ' H' → ∃ m', m' < m ∧ W (i + 1) m' σ' H') ∧ ∀ x H', (ItrT K a xs.length).yld i H x H' → g x σ H' fun σ2 H2 => tb { D with nx := N, ct := N, bk := D.nx } σ2 H2) := by
  refine ⟨fun i m σ H => m = xs.length - i ∧ i ≤ xs.length ∧ Pv i σ H, ⟨xs.length, by simp, Nat.zero_le _, h0⟩, ?_⟩
  rintro i m σ H ⟨rfl, hi, p⟩
  have q := hl i σ H hi p
  by_cases hlt : i < xs.length
  · refine .inr ⟨⟨hlt, xs, q, rfl⟩, Pv (i + 1), fun σ' H' p' => ⟨xs.length - (i + 1), by omega, rfl, hlt, p'⟩, fun x H' y => ?_⟩
    obtain ⟨rfl, y⟩ := y
    exact hs i x σ _ hlt (y xs q) p
  · have e : i = xs.length := by omega
    subst e
    exact .inl ⟨Nat.le_refl _, hd σ H p⟩
end L2
set_option maxHeartbeats 1000000
namespace Wk
open PySem
abbrev T4 := Str × Nat × Nat × Int
/-- what a place's ties lead to -/
def nbT (v : Nat) (t : T4) : List (Str × Nat) := (if t.2.1 = v then [(t.1, t.2.2.1)] else []) ++ (if t.2.2.1 = v then [(t.1, t.2.1)] else [])
def nbrs (S : List T4) (v : Nat) : List (Str × Nat) := S.flatMap (nbT v)
abbrev Ws := List (Option (List Str))
def visit (w : List Str) : List (Str × Nat) → Ws × List Nat → Ws × List Nat
  | [], st => st
  | (n, u) :: r, st => if st.1[u]? = some none then visit w r (st.1.set u (some (w ++ [n])), st.2 ++ [u]) else visit w r st
def bstep (S : List T4) (st : Ws × List Nat) : Ws × List Nat :=
  match st.2 with
  | [] => st
  | h :: rest => visit ((st.1[h]?.join).getD []) (nbrs S h) (st.1, rest)
def binit (N p : Nat) : Ws × List Nat := ((List.replicate N none).set p (some []), [p])
def iter (S : List T4) : Nat → Ws × List Nat → Ws × List Nat
  | 0, st => st
  | n + 1, st => iter S n (bstep S st)
def waysF (N : Nat) (S : List T4) (p : Nat) : Ws := (iter S 64 (binit N p)).1
theorem iter_nil {S : List T4} : ∀ (n : Nat) {ws : Ws}, iter S n (ws, []) = (ws, [])
  | 0, _ => rfl
  | n + 1, ws => iter_nil n (ws := ws)
theorem iter_snoc {S : List T4} : ∀ (n : Nat) (st : Ws × List Nat), iter S (n + 1) st = bstep S (iter S n st)
  | 0, st => rfl
  | n + 1, st => iter_snoc n (bstep S st)
theorem iter_add {S : List T4} (m : Nat) : ∀ (n : Nat) (st : Ws × List Nat), iter S (n + m) st = iter S m (iter S n st)
  | 0, st => by rw [Nat.zero_add]; rfl
  | n + 1, st => by rw [show n + 1 + m = (n + m) + 1 by omega]; exact iter_add m n (bstep S st)
theorem ways_of {N p i : Nat} {S : List T4} {ws : Ws} (h : iter S i (binit N p) = (ws, [])) (hi : i ≤ 64) : waysF N S p = ws := by
  unfold waysF
  rw [show 64 = i + (64 - i) by omega, iter_add, h, iter_nil]
/-- names that lead from a place to a place -/
inductive Lead (S : List T4) (a : Nat) : List Str → Nat → Prop
  | nil : Lead S a [] a
  | snoc {ws : List Str} {b c : Nat} {n : Str} : Lead S a ws b → (n, c) ∈ nbrs S b → Lead S a (ws ++ [n]) c
def nones (ws : Ws) : Nat := ws.countP (· == none)
def Vis (ws : Ws) (v : Nat) (w : List Str) : Prop := ws[v]? = some (some w)
structure PInv (S : List T4) (N p h : Nat) (w : List Str) (st : Ws × List Nat) : Prop where
  len : st.1.length = N
  lead : ∀ v x, Vis st.1 v x → Lead S p x v
  vis : ∀ v ∈ st.2, ∃ x, Vis st.1 v x
  done : ∀ v x, Vis st.1 v x → v ∈ st.2 ∨ v = h ∨ ∀ nb ∈ nbrs S v, ∃ y, Vis st.1 nb.2 y ∧ y.length ≤ x.length + 1
  sorted : st.2.Pairwise fun a b => ∀ x y, Vis st.1 a x → Vis st.1 b y → x.length ≤ y.length
  top : ∀ v x b y, Vis st.1 v x → b ∈ st.2 → Vis st.1 b y → x.length ≤ y.length + 1
  hv : Vis st.1 h w
  ht : ∀ v x, Vis st.1 v x → x.length ≤ w.length + 1
  hb : ∀ b y, b ∈ st.2 → Vis st.1 b y → w.length ≤ y.length
theorem vis_set {ws : Ws} {u : Nat} {z : List Str} (hu : ws[u]? = some none) {v : Nat} {x : List Str} : Vis (ws.set u (some z)) v x ↔ (v = u ∧ x = z) ∨ Vis ws v x := by
  unfold Vis
  have hl : u < ws.length := (List.getElem?_eq_some_iff.mp hu).1
  rw [List.getElem?_set]
  by_cases e : u = v
  · subst e
    rw [if_pos rfl, if_pos hl, hu]
    constructor
    · intro q; left; exact ⟨rfl, by simpa using q.symm⟩
    · rintro (⟨_, rfl⟩ | q)
      · rfl
      · simp at q
  · rw [if_neg e]
    constructor
    · exact .inr
    · rintro (⟨rfl, _⟩ | q)
      · exact absurd rfl e
      · exact q
theorem vis_inj {ws : Ws} {v : Nat} {x y : List Str} (a : Vis ws v x) (b : Vis ws v y) : x = y := by
  unfold Vis at a b; rw [a] at b; simpa using b
theorem visit_ok {S : List T4} {N p h : Nat} {w : List Str} : ∀ (L : List (Str × Nat)) (st : Ws × List Nat), PInv S N p h w st → (∀ nb ∈ L, nb ∈ nbrs S h ∧ nb.2 < N) →
    PInv S N p h w (visit w L st) ∧ (∀ v x, Vis st.1 v x → Vis (visit w L st).1 v x) ∧ (∀ nb ∈ L, ∃ y, Vis (visit w L st).1 nb.2 y ∧ y.length ≤ w.length + 1) ∧ nones (visit w L st).1 + (visit w L st).2.length = nones st.1 + st.2.length
  | [], st, I, _ => ⟨I, fun _ _ e => e, fun nb h => (by cases h), rfl⟩
  | (n, u) :: r, st, I, hL => by
    have hr : ∀ nb ∈ r, nb ∈ nbrs S h ∧ nb.2 < N := fun nb q => hL nb (List.mem_cons_of_mem _ q)
    have hn := hL (n, u) (List.mem_cons_self ..)
    have hu : u < st.1.length := by rw [I.len]; exact hn.2
    unfold visit
    by_cases e : st.1[u]? = some none
    · rw [if_pos e]
      have I' : PInv S N p h w (st.1.set u (some (w ++ [n])), st.2 ++ [u]) := by
        have nu : ∀ x, ¬ Vis st.1 u x := fun x q => by unfold Vis at q; rw [e] at q; simp at q
        refine ⟨by simp [I.len], ?_, ?_, ?_, ?_, ?_, ?_, ?_, ?_⟩
        · intro v x q
          rcases (vis_set e).mp q with ⟨rfl, rfl⟩ | q
          · exact .snoc (I.lead h w I.hv) hn.1
          · exact I.lead v x q
        · intro v q
          rcases List.mem_append.mp q with q | q
          · obtain ⟨x, hx⟩ := I.vis v q; exact ⟨x, (vis_set e).mpr (.inr hx)⟩
          · rw [List.mem_singleton.mp q]; exact ⟨_, (vis_set e).mpr (.inl ⟨rfl, rfl⟩)⟩
        · intro v x q
          rcases (vis_set e).mp q with ⟨rfl, rfl⟩ | q
          · exact .inl (List.mem_append_right _ (List.mem_singleton.mpr rfl))
          · rcases I.done v x q with a | a | a
            · exact .inl (List.mem_append_left _ a)
            · exact .inr (.inl a)
            · exact .inr (.inr fun nb hb => let ⟨y, hy, hl⟩ := a nb hb; ⟨y, (vis_set e).mpr (.inr hy), hl⟩)
        · refine List.pairwise_append.mpr ⟨?_, List.pairwise_singleton .., ?_⟩
          · refine (List.Pairwise.imp_of_mem ?_ I.sorted)
            intro a b ha hb k x y hx hy
            have hx' : Vis st.1 a x := by
              rcases (vis_set e).mp hx with ⟨rfl, _⟩ | q
              · obtain ⟨z, hz⟩ := I.vis _ ha; exact absurd hz (nu z)
              · exact q
            have hy' : Vis st.1 b y := by
              rcases (vis_set e).mp hy with ⟨rfl, _⟩ | q
              · obtain ⟨z, hz⟩ := I.vis _ hb; exact absurd hz (nu z)
              · exact q
            exact k x y hx' hy'
          · intro a ha b hb x y hx hy
            rw [List.mem_singleton.mp hb] at hy
            rcases (vis_set e).mp hy with ⟨_, rfl⟩ | q
            · rcases (vis_set e).mp hx with ⟨_, rfl⟩ | q
              · exact Nat.le_refl _
              · have := I.ht a x q; simp only [List.length_append, List.length_cons, List.length_nil]; assumption
            · exact absurd q (nu y)
        · intro v x b y hx hb hy
          have hx1 : x.length ≤ w.length + 1 := by
            rcases (vis_set e).mp hx with ⟨_, rfl⟩ | q
            · simp
            · exact I.ht v x q
          have hy1 : w.length ≤ y.length := by
            rcases (vis_set e).mp hy with ⟨_, rfl⟩ | q
            · simp
            · rcases List.mem_append.mp hb with hb | hb
              · exact I.hb b y hb q
              · rw [List.mem_singleton.mp hb] at q; exact absurd q (nu y)
          omega
        · exact (vis_set e).mpr (.inr I.hv)
        · intro v x hx
          rcases (vis_set e).mp hx with ⟨_, rfl⟩ | q
          · simp
          · exact I.ht v x q
        · intro b y hb hy
          rcases (vis_set e).mp hy with ⟨_, rfl⟩ | q
          · simp
          · rcases List.mem_append.mp hb with hb | hb
            · exact I.hb b y hb q
            · rw [List.mem_singleton.mp hb] at q; exact absurd q (nu y)
      obtain ⟨a, b, c, d⟩ := visit_ok r _ I' hr
      refine ⟨a, fun v x q => b v x ((vis_set e).mpr (.inr q)), fun nb q => ?_, ?_⟩
      · rcases List.mem_cons.mp q with rfl | q
        · exact ⟨_, b _ _ ((vis_set e).mpr (.inl ⟨rfl, rfl⟩)), by simp⟩
        · exact c nb q
      · rw [d]
        have : nones (st.1.set u (some (w ++ [n]))) + 1 = nones st.1 := by
          unfold nones
          have hg : st.1[u] = none := by have := List.getElem?_eq_some_iff.mp e; exact this.2
          rw [List.countP_set (h := hu), hg]
          have : 0 < st.1.countP (· == none) := List.countP_pos_iff.mpr ⟨none, by rw [← hg]; exact List.getElem_mem hu, rfl⟩
          simp only [beq_self_eq_true, if_true]
          show st.1.countP (· == none) - 1 + 0 + 1 = _
          omega
        simp only [List.length_append, List.length_cons, List.length_nil]
        omega
    · rw [if_neg e]
      obtain ⟨a, b, c, d⟩ := visit_ok r st I hr
      refine ⟨a, b, fun nb q => ?_, d⟩
      rcases List.mem_cons.mp q with rfl | q
      · have : ∃ y, Vis st.1 u y := by
          cases hh : st.1[u]? with
          | none => rw [List.getElem?_eq_getElem hu] at hh; cases hh
          | some z => cases z with
            | none => exact absurd hh e
            | some y => exact ⟨y, hh⟩
        obtain ⟨y, hy⟩ := this
        exact ⟨y, b _ _ hy, I.ht _ _ hy⟩
      · exact c nb q
structure BInv (S : List T4) (N p : Nat) (st : Ws × List Nat) : Prop where
  len : st.1.length = N
  p0 : Vis st.1 p []
  lead : ∀ v x, Vis st.1 v x → Lead S p x v
  vis : ∀ v ∈ st.2, ∃ x, Vis st.1 v x
  done : ∀ v x, Vis st.1 v x → v ∈ st.2 ∨ ∀ nb ∈ nbrs S v, ∃ y, Vis st.1 nb.2 y ∧ y.length ≤ x.length + 1
  sorted : st.2.Pairwise fun a b => ∀ x y, Vis st.1 a x → Vis st.1 b y → x.length ≤ y.length
  top : ∀ v x b y, Vis st.1 v x → b ∈ st.2 → Vis st.1 b y → x.length ≤ y.length + 1
def InN (N : Nat) (S : List T4) : Prop := ∀ t ∈ S, t.2.1 < N ∧ t.2.2.1 < N
theorem nb_lt {N : Nat} {S : List T4} (h : InN N S) {v : Nat} {nb : Str × Nat} (q : nb ∈ nbrs S v) : nb.2 < N := by
  obtain ⟨t, ht, q⟩ := List.mem_flatMap.mp q
  have := h t ht
  unfold nbT at q
  rcases List.mem_append.mp q with q | q
  · split at q
    · rw [List.mem_singleton.mp q]; exact this.2
    · cases q
  · split at q
    · rw [List.mem_singleton.mp q]; exact this.1
    · cases q
theorem binv0 {S : List T4} {N p : Nat} (hp : p < N) : BInv S N p (binit N p) := by
  have hu : (List.replicate N (none : Option (List Str)))[p]? = some none := by rw [List.getElem?_replicate]; rw [if_pos hp]
  have nv : ∀ v x, ¬ Vis (List.replicate N (none : Option (List Str))) v x := fun v x q => by
    unfold Vis at q; rw [List.getElem?_replicate] at q; split at q <;> simp at q
  have key : ∀ v x, Vis (binit N p).1 v x → v = p ∧ x = [] := fun v x q => by
    rcases (vis_set hu).mp q with q | q
    · exact q
    · exact absurd q (nv v x)
  refine ⟨by simp [binit], (vis_set hu).mpr (.inl ⟨rfl, rfl⟩), ?_, ?_, ?_, ?_, ?_⟩
  · intro v x q; obtain ⟨rfl, rfl⟩ := key v x q; exact .nil
  · intro v q; rw [List.mem_singleton.mp q]; exact ⟨_, (vis_set hu).mpr (.inl ⟨rfl, rfl⟩)⟩
  · intro v x q; obtain ⟨rfl, rfl⟩ := key v x q; exact .inl (List.mem_singleton.mpr rfl)
  · exact List.pairwise_singleton ..
  · intro v x b y q _ q2; obtain ⟨rfl, rfl⟩ := key v x q; simp
theorem binit_vis {N p : Nat} (hp : p < N) {v : Nat} {x : List Str} (q : Vis (binit N p).1 v x) : x = [] := by
  have hu : (List.replicate N (none : Option (List Str)))[p]? = some none := by rw [List.getElem?_replicate]; rw [if_pos hp]
  rcases (vis_set hu).mp q with q | q
  · exact q.2
  · unfold Vis at q; rw [List.getElem?_replicate] at q; split at q <;> simp at q
theorem pinv_of {S : List T4} {N p h : Nat} {ws : Ws} {rest : List Nat} (I : BInv S N p (ws, h :: rest)) : ∃ w, Vis ws h w ∧ PInv S N p h w (ws, rest) := by
  obtain ⟨w, hw⟩ := I.vis h (List.mem_cons_self ..)
  refine ⟨w, hw, I.len, I.lead, fun v q => I.vis v (List.mem_cons_of_mem _ q), ?_, (List.pairwise_cons.mp I.sorted).2, fun v x b y a q => I.top v x b y a (List.mem_cons_of_mem _ q), hw, fun v x q => I.top v x h w q (List.mem_cons_self ..) hw, fun b y q hb => (List.pairwise_cons.mp I.sorted).1 b q w y hw hb⟩
  intro v x q
  rcases I.done v x q with a | a
  · rcases List.mem_cons.mp a with rfl | a
    · exact .inr (.inl rfl)
    · exact .inl a
  · exact .inr (.inr a)
theorem bstep_ok {S : List T4} {N p h : Nat} {ws : Ws} {rest : List Nat} (hS : InN N S) (I : BInv S N p (ws, h :: rest)) :
    BInv S N p (bstep S (ws, h :: rest)) ∧ nones (bstep S (ws, h :: rest)).1 + (bstep S (ws, h :: rest)).2.length + 1 = nones ws + (h :: rest).length := by
  obtain ⟨w, hw, J⟩ := pinv_of I
  have e : bstep S (ws, h :: rest) = visit w (nbrs S h) (ws, rest) := by
    show visit ((ws[h]?.join).getD []) (nbrs S h) (ws, rest) = _
    unfold Vis at hw
    rw [hw]; rfl
  rw [e]
  obtain ⟨a, b, c, d⟩ := visit_ok (nbrs S h) (ws, rest) J fun nb q => ⟨q, nb_lt hS q⟩
  refine ⟨⟨a.len, b _ _ I.p0, a.lead, a.vis, ?_, a.sorted, a.top⟩, by rw [d]; rfl⟩
  intro v x q
  rcases a.done v x q with r | rfl | r
  · exact .inl r
  · refine .inr fun nb hb => ?_
    have := vis_inj q a.hv
    subst this
    exact c nb hb
  · exact .inr r
theorem iter_ok {S : List T4} {N p : Nat} (hS : InN N S) : ∀ (n : Nat) (st : Ws × List Nat), BInv S N p st → BInv S N p (iter S n st) ∧ ((iter S n st).2 = [] ∨ nones (iter S n st).1 + (iter S n st).2.length + n = nones st.1 + st.2.length)
  | 0, st, I => ⟨I, .inr rfl⟩
  | n + 1, (ws, []), I => by
    have e : iter S (n + 1) (ws, []) = (ws, []) := iter_nil (n + 1)
    rw [e]; exact ⟨I, .inl rfl⟩
  | n + 1, (ws, h :: rest), I => by
    obtain ⟨a, b⟩ := bstep_ok hS I
    obtain ⟨c, d⟩ := iter_ok hS n _ a
    refine ⟨c, ?_⟩
    rcases d with d | d
    · exact .inl d
    · refine .inr ?_
      show nones (iter S n (bstep S (ws, h :: rest))).1 + (iter S n (bstep S (ws, h :: rest))).2.length + (n + 1) = nones ws + (h :: rest).length
      omega
theorem ways_end {S : List T4} {N p : Nat} (hS : InN N S) (hp : p < N) (hN : N ≤ 60) : ∃ ws, iter S 64 (binit N p) = (ws, []) ∧ BInv S N p (ws, []) := by
  obtain ⟨a, b⟩ := iter_ok hS 64 (binit N p) (binv0 hp)
  have : nones (binit N p).1 + (binit N p).2.length ≤ N + 1 := by
    have : nones (binit N p).1 ≤ (binit N p).1.length := List.countP_le_length
    simp only [binit, List.length_set, List.length_replicate, List.length_singleton] at this ⊢
    exact Nat.succ_le_succ (by assumption)
  have e : (iter S 64 (binit N p)).2 = [] := by
    rcases b with b | b
    · exact b
    · omega
  refine ⟨(iter S 64 (binit N p)).1, Prod.ext rfl e, ?_⟩
  have : iter S 64 (binit N p) = ((iter S 64 (binit N p)).1, []) := Prod.ext rfl e
  rw [this] at a
  exact a
theorem ways_len {S : List T4} {N p : Nat} (hS : InN N S) (hp : p < N) (hN : N ≤ 60) : (waysF N S p).length = N := by
  obtain ⟨ws, e, I⟩ := ways_end hS hp hN
  rw [ways_of e (Nat.le_refl _)]; exact I.len
theorem ways_lead {S : List T4} {N p : Nat} (hS : InN N S) (hp : p < N) (hN : N ≤ 60) {v : Nat} {x : List Str} (h : Vis (waysF N S p) v x) : Lead S p x v := by
  obtain ⟨ws, e, I⟩ := ways_end hS hp hN
  rw [ways_of e (Nat.le_refl _)] at h; exact I.lead v x h
theorem ways_least {S : List T4} {N p : Nat} (hS : InN N S) (hp : p < N) (hN : N ≤ 60) {v : Nat} {x : List Str} (h : Lead S p x v) : ∃ y, Vis (waysF N S p) v y ∧ y.length ≤ x.length := by
  obtain ⟨ws, e, I⟩ := ways_end hS hp hN
  rw [ways_of e (Nat.le_refl _)]
  induction h with
  | nil => exact ⟨[], I.p0, Nat.le_refl _⟩
  | snoc a b ih =>
    obtain ⟨y, hy, hl⟩ := ih
    rcases I.done _ _ hy with q | q
    · cases q
    · obtain ⟨z, hz, hl2⟩ := q _ b
      exact ⟨z, hz, by simp only [List.length_append, List.length_cons, List.length_nil] at hl2 ⊢; omega⟩
/-- the part of a place -/
def partF (N : Nat) (S : List T4) (p : Nat) : List Nat := (List.range N).filter fun v => ((waysF N S p)[v]?.join).isSome
def Reach (S : List T4) (a b : Nat) : Prop := ∃ ws, Lead S a ws b
theorem vis_iff {ws : Ws} {v : Nat} : (ws[v]?.join).isSome = true ↔ ∃ x, Vis ws v x := by
  unfold Vis
  cases ws[v]? with
  | none => simp
  | some z => cases z <;> simp
theorem mem_part {S : List T4} {N p v : Nat} (hS : InN N S) (hp : p < N) (hN : N ≤ 60) : v ∈ partF N S p ↔ v < N ∧ Reach S p v := by
  unfold partF
  rw [List.mem_filter, List.mem_range, vis_iff]
  constructor
  · rintro ⟨a, x, hx⟩; exact ⟨a, x, ways_lead hS hp hN hx⟩
  · rintro ⟨a, x, hx⟩; obtain ⟨y, hy, _⟩ := ways_least hS hp hN hx; exact ⟨a, y, hy⟩
theorem Reach.refl {S : List T4} {a : Nat} : Reach S a a := ⟨[], .nil⟩
theorem nb_symm {S : List T4} {a b : Nat} {n : Str} (h : (n, b) ∈ nbrs S a) : (n, a) ∈ nbrs S b := by
  obtain ⟨t, ht, q⟩ := List.mem_flatMap.mp h
  refine List.mem_flatMap.mpr ⟨t, ht, ?_⟩
  unfold nbT at q ⊢
  rcases List.mem_append.mp q with q | q
  · split at q
    · rename_i e
      have := List.mem_singleton.mp q
      cases this
      refine List.mem_append_right _ ?_
      rw [if_pos rfl, e]; exact List.mem_singleton.mpr rfl
    · cases q
  · split at q
    · rename_i e
      have := List.mem_singleton.mp q
      cases this
      refine List.mem_append_left _ ?_
      rw [if_pos rfl, e]; exact List.mem_singleton.mpr rfl
    · cases q
theorem Reach.trans {S : List T4} {a b c : Nat} (h : Reach S a b) (g : Reach S b c) : Reach S a c := by
  obtain ⟨x, hx⟩ := h
  obtain ⟨y, hy⟩ := g
  induction hy with
  | nil => exact ⟨x, hx⟩
  | snoc _ q ih => obtain ⟨z, hz⟩ := ih; exact ⟨_, .snoc hz q⟩
theorem Reach.step {S : List T4} {a b : Nat} {n : Str} (h : (n, b) ∈ nbrs S a) : Reach S a b := ⟨[] ++ [n], .snoc .nil h⟩
theorem nb_of {S : List T4} {t : T4} (h : t ∈ S) : (t.1, t.2.2.1) ∈ nbrs S t.2.1 := List.mem_flatMap.mpr ⟨t, h, List.mem_append_left _ (by rw [if_pos rfl]; exact List.mem_singleton.mpr rfl)⟩
theorem nb_elim {S : List T4} {a b : Nat} {n : Str} (h : (n, b) ∈ nbrs S a) : ∃ t ∈ S, t.1 = n ∧ ((t.2.1 = a ∧ t.2.2.1 = b) ∨ (t.2.2.1 = a ∧ t.2.1 = b)) := by
  obtain ⟨t, ht, q⟩ := List.mem_flatMap.mp h
  refine ⟨t, ht, ?_⟩
  unfold nbT at q
  rcases List.mem_append.mp q with q | q
  · split at q
    · rename_i e
      have := List.mem_singleton.mp q
      cases this
      exact ⟨rfl, .inl ⟨e, rfl⟩⟩
    · cases q
  · split at q
    · rename_i e
      have := List.mem_singleton.mp q
      cases this
      exact ⟨rfl, .inr ⟨e, rfl⟩⟩
    · cases q
end Wk
set_option maxHeartbeats 1000000
namespace L2
open PySem
theorem while_gh {c : TT} {tb : TS} {D : Ends} {σ : St} {H : Hp} (Pv : Nat → St → Hp → Prop) {m0 : Nat} (h0 : Pv m0 σ H)
    (hs : ∀ m σ H, Pv m σ H → c σ H fun b H1 => if b = true then tb { D with nx := fun σ' H' => ∃ m', m' < m ∧ Pv m' σ' H', ct := fun σ' H' => ∃ m', m' < m ∧ Pv m' σ' H', bk := D.nx } σ H1 else D.nx σ H1)
    (mono : ∀ σ H Q Q', (∀ b H1, Q b H1 → Q' b H1) → c σ H Q → c σ H Q') : tWhile c tb D σ H := by
  refine ⟨Pv, ⟨m0, h0⟩, fun m σ H p => ?_⟩
  refine mono σ H _ _ (fun b H1 q => ?_) (hs m σ H p)
  cases b with
  | true => exact ⟨_, fun _ _ h => h, q⟩
  | false => exact q
theorem same_set {H0 H : Hp} {a : Addr} {o : HO} (s : Same H0 H) (n : H0 a = none) : Same H0 (upd H a o) := fun b u e => by
  rw [upd_ne (ne_of_none e n)]; exact s b u e
theorem inV_ints (x : Int) (zs : List Int) : inV (.int x) (zs.map V.int) = decide (x ∈ zs) := by
  unfold inV
  induction zs with
  | nil => simp
  | cons z zs ih =>
    rw [List.map_cons, List.any_cons, ih]
    have : eqV (.int z) (.int x) = decide (x = z) := by
      show (z == x) = _
      rw [Bool.eq_iff_iff, beq_iff_eq, decide_eq_true_eq]; exact eq_comm
    rw [this, Bool.eq_iff_iff]; simp
theorem flat_ints (ns : List Int) : (ns.map V.int).all flatV = true := by
  induction ns with
  | nil => rfl
  | cons n ns ih => rw [List.map_cons, List.all_cons, ih]; rfl
theorem map_some {α β : Type} {f : α → β} {l : List α} {i : Nat} {x : β} (h : (l.map f)[i]? = some x) : ∃ z, l[i]? = some z ∧ x = f z := by
  rw [List.getElem?_map] at h
  cases q : l[i]? with
  | none => rw [q] at h; cases h
  | some z => rw [q] at h; exact ⟨z, rfl, (Option.some.inj h).symm⟩
theorem ixN_nat {n j : Nat} (h : j < n) : ixN n (j : Int) = some j := by
  unfold ixN
  rw [if_pos (by exact Int.natCast_nonneg _), if_pos (by omega)]; simp
theorem getq {α : Type} {l : List α} {i : Nat} (h : i < l.length) : l[i]? = some l[i] := List.getElem?_eq_getElem h
end L2
namespace Wk
open PySem L2
def tieV (t : T4) : List V := [.str t.1, .int (t.2.1 : Int), .int (t.2.2.1 : Int), .int t.2.2.2]
def TiesAt (H : Hp) (rs : List Addr) (S : List T4) : Prop := rs.length = S.length ∧ ∀ (i : Nat) r t, rs[i]? = some r → S[i]? = some t → H r = some (.tup (tieV t))
theorem TiesAt.same {H H' : Hp} {rs : List Addr} {S : List T4} (h : TiesAt H rs S) (s : Same H H') : TiesAt H' rs S := ⟨h.1, fun i r t a b => s _ _ (h.2 i r t a b)⟩
theorem TiesAt.get {H : Hp} {rs : List Addr} {S : List T4} (h : TiesAt H rs S) {i : Nat} {r : Addr} (hr : rs[i]? = some r) : ∃ t, S[i]? = some t ∧ H r = some (.tup (tieV t)) := by
  have hi : i < S.length := by rw [← h.1]; exact (List.getElem?_eq_some_iff.mp hr).1
  exact ⟨S[i], getq hi, h.2 i r _ hr (getq hi)⟩
def PrsAt (H : Hp) (l : Addr) (ps : List (Str × Nat)) : Prop := ∃ rs : List Addr, H l = some (.lst (rs.map V.ref)) ∧ rs.length = ps.length ∧ ∀ (i : Nat) r q, rs[i]? = some r → ps[i]? = some q → H r = some (.tup [.str q.1, .int (q.2 : Int)])
theorem PrsAt.same {H H' : Hp} {l : Addr} {ps : List (Str × Nat)} (h : PrsAt H l ps) (s : Same H H') : PrsAt H' l ps := let ⟨rs, a, b, c⟩ := h; ⟨rs, s _ _ a, b, fun i r q e f => s _ _ (c i r q e f)⟩
def BesAt (H : Hp) (b : Addr) (N : Nat) (f : Nat → List (Str × Nat)) : Prop := ∃ ls : List Addr, H b = some (.lst (ls.map V.ref)) ∧ ls.length = N ∧ ∀ (v : Nat) l, ls[v]? = some l → PrsAt H l (f v)
theorem BesAt.same {H H' : Hp} {b : Addr} {N : Nat} {f : Nat → List (Str × Nat)} (h : BesAt H b N f) (s : Same H H') : BesAt H' b N f := let ⟨ls, x, y, z⟩ := h; ⟨ls, s _ _ x, y, fun v l e => (z v l e).same s⟩
structure Bes (H0 H : Hp) (b : Addr) (ls : List Addr) (N : Nat) (f : Nat → List (Str × Nat)) : Prop where
  same : Same H0 H
  hb : H b = some (.lst (ls.map V.ref))
  len : ls.length = N
  nd : ls.Nodup
  new : ∀ l ∈ ls, H0 l = none ∧ l ≠ b
  prs : ∀ (v : Nat) l, ls[v]? = some l → PrsAt H l (f v)
theorem nd_ix {ls : List Addr} (h : ls.Nodup) {i j : Nat} {l : Addr} (a : ls[i]? = some l) (b : ls[j]? = some l) : i = j := by
  have hi := (List.getElem?_eq_some_iff.mp a).1
  exact (List.getElem?_inj hi h).mp (by rw [a, b])
theorem Bes.app {H0 H : Hp} {b : Addr} {ls : List Addr} {N v : Nat} {f : Nat → List (Str × Nat)} {l p : Addr} {xs : List V} {n : Str} {u : Nat} (B : Bes H0 H b ls N f) (hv : ls[v]? = some l) (hp : H p = none) (hl : H l = some (.lst xs)) :
    Bes H0 (upd (upd H p (.tup [.str n, .int (u : Int)])) l (.lst (xs ++ [.ref p]))) b ls N (fun x => if x = v then f v ++ [(n, u)] else f x) := by
  have lm : l ∈ ls := List.mem_of_getElem? hv
  have s1 := same_new (o := .tup [.str n, .int (u : Int)]) hp
  have lp : l ≠ p := ne_of_none hl hp
  refine ⟨same_set (B.same.trans s1) (B.new l lm).1, by rw [upd_ne (B.new l lm).2.symm]; exact s1 _ _ B.hb, B.len, B.nd, B.new, fun x k hx => ?_⟩
  obtain ⟨rs, h1, h2, h3⟩ := B.prs x k hx
  have tl : ∀ (r : Addr) ys, H r = some (.tup ys) → upd (upd H p (.tup [.str n, .int (u : Int)])) l (.lst (xs ++ [.ref p])) r = some (.tup ys) := fun r ys e => by
    rw [upd_ne (ne_of e hl (by intro z; cases z))]; exact s1 _ _ e
  by_cases e : x = v
  · subst e
    rw [hv] at hx
    cases hx
    rw [hl] at h1
    injection h1 with h1
    injection h1 with h1
    simp only [if_true]
    refine ⟨rs ++ [p], by rw [upd_same, h1, List.map_append]; rfl, by simp [h2], fun i r q hr hq => ?_⟩
    rw [List.getElem?_append] at hr hq
    by_cases hi : i < rs.length
    · rw [if_pos hi] at hr
      rw [if_pos (by omega)] at hq
      exact tl _ _ (h3 i r q hr hq)
    · rw [if_neg hi] at hr
      rw [if_neg (by omega), ← h2] at hq
      have : i - rs.length = 0 := by
        have := (List.getElem?_eq_some_iff.mp hr).1
        simp at this; assumption
      rw [this] at hr hq
      cases hr
      cases hq
      rw [upd_ne lp.symm]; exact upd_same
  · simp only [if_neg e]
    have kl : k ≠ l := fun q => by subst q; exact e (nd_ix B.nd hx hv)
    exact ⟨rs, by rw [upd_ne kl]; exact s1 _ _ h1, h2, fun i r q hr hq => tl _ _ (h3 i r q hr hq)⟩
theorem nbrs_snoc (S : List T4) (t : T4) (v : Nat) : nbrs (S ++ [t]) v = nbrs S v ++ nbT v t := by unfold nbrs; rw [List.flatMap_append]; simp
theorem nb_two (S : List T4) (t : T4) : (fun x => if x = t.2.2.1 then (fun x => if x = t.2.1 then nbrs S t.2.1 ++ [(t.1, t.2.2.1)] else nbrs S x) t.2.2.1 ++ [(t.1, t.2.1)] else (fun x => if x = t.2.1 then nbrs S t.2.1 ++ [(t.1, t.2.2.1)] else nbrs S x) x) = nbrs (S ++ [t]) := by
  funext x
  rw [nbrs_snoc]
  unfold nbT
  by_cases a : t.2.1 = x
  · subst a
    rw [if_pos rfl]
    by_cases b : t.2.2.1 = t.2.1
    · rw [if_pos b, if_pos b.symm]; dsimp only; rw [if_pos b]; simp
    · rw [if_neg b, if_neg (Ne.symm b)]; dsimp only; rw [if_pos rfl]; simp
  · rw [if_neg a]
    by_cases b : t.2.2.1 = x
    · subst b
      rw [if_pos rfl, if_pos rfl]; dsimp only; rw [if_neg (Ne.symm a)]; simp
    · rw [if_neg b, if_neg (Ne.symm b)]; dsimp only; rw [if_neg (Ne.symm a)]; simp
theorem nbrs_len (S : List T4) (v : Nat) : (nbrs S v).length ≤ 2 * S.length := by
  unfold nbrs
  induction S with
  | nil => simp
  | cons t S ih =>
    rw [List.flatMap_cons, List.length_append, List.length_cons]
    have : (nbT v t).length ≤ 2 := by unfold nbT; rw [List.length_append]; split <;> split <;> simp
    omega
def WayV (H : Hp) (x : V) : Option (List Str) → Prop
  | none => x = .non
  | some w => ∃ r, x = .ref r ∧ H r = some (.tup (w.map V.str))
def WaysAt (H : Hp) (a : Addr) (ws : Ws) : Prop := ∃ xs, H a = some (.lst xs) ∧ xs.length = ws.length ∧ ∀ (i : Nat) x o, xs[i]? = some x → ws[i]? = some o → WayV H x o
theorem WayV.mono {H H' : Hp} {x : V} {o : Option (List Str)} (f : ∀ r ys, H r = some (.tup ys) → H' r = some (.tup ys)) (h : WayV H x o) : WayV H' x o := by
  cases o with
  | none => exact h
  | some w => obtain ⟨r, a, b⟩ := h; exact ⟨r, a, f _ _ b⟩
theorem WaysAt.same {H H' : Hp} {a : Addr} {ws : Ws} (h : WaysAt H a ws) (s : Same H H') : WaysAt H' a ws := let ⟨xs, x, y, z⟩ := h; ⟨xs, s _ _ x, y, fun i u o e f => (z i u o e f).mono fun r ys => s r (.tup ys)⟩
theorem WaysAt.keep {H : Hp} {a l : Addr} {ws : Ws} {ys zs : List V} (h : WaysAt H a ws) (hl : H l = some (.lst ys)) (n : a ≠ l) : WaysAt (upd H l (.lst zs)) a ws := by
  obtain ⟨xs, x, y, z⟩ := h
  exact ⟨xs, by rw [upd_ne n]; exact x, y, fun i u o e f => (z i u o e f).mono fun r ys e => by rw [upd_ne (ne_of e hl (by intro z; cases z))]; exact e⟩
theorem WaysAt.get {H : Hp} {a : Addr} {ws : Ws} (h : WaysAt H a ws) {v : Nat} {o : Option (List Str)} (hv : ws[v]? = some o) : ∃ xs x, H a = some (.lst xs) ∧ xs[v]? = some x ∧ xs.length = ws.length ∧ WayV H x o := by
  obtain ⟨xs, x, y, z⟩ := h
  have hl : v < xs.length := by rw [y]; exact (List.getElem?_eq_some_iff.mp hv).1
  exact ⟨xs, xs[v], x, getq hl, y, z v _ o (getq hl) hv⟩
theorem WaysAt.set {H : Hp} {a r : Addr} {ws : Ws} {xs : List V} {u : Nat} {w : List Str} (h : WaysAt H a ws) (ha : H a = some (.lst xs)) (hr : H r = some (.tup (w.map V.str))) : WaysAt (upd H a (.lst (xs.set u (.ref r)))) a (ws.set u (some w)) := by
  obtain ⟨xs', x, y, z⟩ := h
  rw [ha] at x
  injection x with x
  injection x with x
  subst x
  have tl : ∀ (q : Addr) ys, H q = some (.tup ys) → upd H a (.lst (xs.set u (.ref r))) q = some (.tup ys) := fun q ys e => by
    rw [upd_ne (ne_of e ha (by intro z; cases z))]; exact e
  refine ⟨_, upd_same, by simp [y], fun i x o hx ho => ?_⟩
  rw [List.getElem?_set] at hx ho
  by_cases e : u = i
  · rw [if_pos e] at hx ho
    split at hx
    · rw [if_pos (by omega)] at ho
      cases hx
      cases ho
      exact ⟨r, rfl, tl _ _ hr⟩
    · cases hx
  · rw [if_neg e] at hx ho
    exact (z i x o hx ho).mono tl
def vis1 (w : List Str) (q : Str × Nat) (st : Ws × List Nat) : Ws × List Nat := if st.1[q.2]? = some none then (st.1.set q.2 (some (w ++ [q.1])), st.2 ++ [q.2]) else st
theorem vis1_no {w : List Str} {q : Str × Nat} {st : Ws × List Nat} (h : ¬ st.1[q.2]? = some none) : vis1 w q st = st := if_neg h
theorem vis1_yes {w : List Str} {q : Str × Nat} {st : Ws × List Nat} (h : st.1[q.2]? = some none) : vis1 w q st = (st.1.set q.2 (some (w ++ [q.1])), st.2 ++ [q.2]) := if_pos h
theorem visit_snoc (w : List Str) (q : Str × Nat) : ∀ (L : List (Str × Nat)) (st : Ws × List Nat), visit w (L ++ [q]) st = vis1 w q (visit w L st)
  | [], st => by unfold vis1; show visit w (q :: []) st = _; unfold visit; rfl
  | (n, u) :: r, st => by
    show visit w ((n, u) :: (r ++ [q])) st = _
    unfold visit
    split
    · exact visit_snoc w q r _
    · exact visit_snoc w q r _
theorem visit_vis (w : List Str) : ∀ (L : List (Str × Nat)) (st : Ws × List Nat) {v : Nat} {x : List Str}, Vis st.1 v x → Vis (visit w L st).1 v x
  | [], _, _, _, h => h
  | (n, u) :: r, st, v, x, h => by
    unfold visit
    split
    · rename_i e; exact visit_vis w r _ ((vis_set e).mpr (.inr h))
    · exact visit_vis w r _ h
theorem visit_len (w : List Str) : ∀ (L : List (Str × Nat)) (st : Ws × List Nat), (visit w L st).1.length = st.1.length ∧ (visit w L st).2.length ≤ st.2.length + L.length
  | [], st => ⟨rfl, Nat.le_refl _⟩
  | (n, u) :: r, st => by
    unfold visit
    split
    · obtain ⟨a, b⟩ := visit_len w r (st.1.set u (some (w ++ [n])), st.2 ++ [u])
      refine ⟨by rw [a]; simp, ?_⟩
      simp only [List.length_append, List.length_cons, List.length_nil] at b ⊢
      omega
    · obtain ⟨a, b⟩ := visit_len w r st
      exact ⟨a, by rw [List.length_cons]; exact Nat.le_succ_of_le (by assumption)⟩
/-- a way has no more names than turns -/
theorem bstep_short {S : List T4} {N p h i : Nat} {ws : Ws} {rest : List Nat} (hS : InN N S) (I : BInv S N p (ws, h :: rest)) (hl : ∀ v x, Wk.Vis ws v x → x.length ≤ i) : ∀ v x, Wk.Vis (bstep S (ws, h :: rest)).1 v x → x.length ≤ i + 1 := by
  obtain ⟨w, hw, J⟩ := pinv_of I
  have e : bstep S (ws, h :: rest) = visit w (nbrs S h) (ws, rest) := by
    show visit ((ws[h]?.join).getD []) (nbrs S h) (ws, rest) = _
    unfold Wk.Vis at hw
    rw [hw]; rfl
  rw [e]
  obtain ⟨a, _⟩ := visit_ok (nbrs S h) (ws, rest) J fun nb q => ⟨q, nb_lt hS q⟩
  intro v x q
  have := a.ht v x q
  have := hl h w hw
  omega
theorem refs_inj {xs ys : List Addr} (h : xs.map V.ref = ys.map V.ref) : xs = ys := (List.map_inj_right (fun _ _ h => by injection h)).mp h
end Wk
set_option maxHeartbeats 1000000
namespace Wk
open PySem L2
abbrev LS : Str := Str.ofString "abcdefghijklmnopqrstuvwxyz"
theorem LS_eq : LS.cps.toList = (List.range 26).map (97 + ·) := by decide +kernel
theorem LS_at {v : Int} (h0 : 0 ≤ v) (h1 : v < 26) : atI LS.cps.toList v = some (97 + v.toNat) := by
  obtain ⟨j, rfl⟩ : ∃ j : Nat, v = (j : Int) := ⟨v.toNat, by omega⟩
  have hj : j < 26 := by omega
  refine atI_nat ?_
  rw [LS_eq, List.getElem?_map, List.getElem?_range hj]
  rfl
theorem cat_cps (x y : Str) : (x ++ y).cps.toList = x.cps.toList ++ y.cps.toList := by
  show (x.cps ++ y.cps).toList = _
  rw [Array.toList_append]
/-- one sign as a text -/
def sg (c : Nat) : V := .str ⟨#[c]⟩
theorem sg_map (ws : List Nat) : ws.map sg = (ws.map fun c => (⟨#[c]⟩ : Str)).map V.str := by rw [List.map_map]; rfl
theorem sg_sum (ws : List Nat) : ((ws.map fun c => (⟨#[c]⟩ : Str)).map (·.length)).sum = ws.length := by
  induction ws with
  | nil => rfl
  | cons c ws ih => simp only [List.map_cons, List.sum_cons, List.length_cons, ih]; show 1 + ws.length = _; omega
theorem join_cps : ∀ ws : List Nat, (Txt.join (Str.ofString "") (ws.map fun c => (⟨#[c]⟩ : Str))).cps.toList = ws := by
  have key : ∀ ws : List Nat, (Str.join (Str.ofString "") (ws.map fun c => (⟨#[c]⟩ : Str))).cps.toList = ws := by
    intro ws
    induction ws with
    | nil => rfl
    | cons c ws ih =>
      cases ws with
      | nil => rfl
      | cons d ws =>
        simp only [List.map_cons] at ih ⊢
        rw [Str.join, cat_cps, cat_cps, ih]
        · rfl
        · intro q; cases q
  intro ws
  show (Builtin.Str.glued _ _).cps.toList = _
  rw [StrLaws.glued_eq_join]
  exact key ws
theorem len_cps (z : Str) : z.length = z.cps.toList.length := by show z.cps.size = _; simp
theorem cutV_take {xs : List V} {n : Nat} (h : n ≤ xs.length) : cutV xs none (some (n : Int)) = xs.take n := by
  unfold cutV
  rw [HT.sIx_none, HT.sIx_nat, List.drop_zero, Nat.min_eq_left h, Nat.sub_zero]
theorem cutV_drop {xs : List V} {n : Nat} : cutV xs (some (n : Int)) none = xs.drop n := by
  unfold cutV
  rw [HT.sIx_none, HT.sIx_nat]
  by_cases h : n ≤ xs.length
  · rw [Nat.min_eq_left h, List.take_of_length_le (by rw [List.length_drop]; exact Nat.le_refl _)]
  · rw [Nat.min_eq_right (by omega), List.drop_of_length_le (by exact Nat.le_refl _), List.drop_of_length_le (by omega)]; simp
theorem cutV_mid {xs : List V} {a b : Nat} (h : b ≤ xs.length) (ab : a ≤ b) : cutV xs (some (a : Int)) (some (b : Int)) = (xs.drop a).take (b - a) := by
  unfold cutV
  rw [HT.sIx_nat, HT.sIx_nat, Nat.min_eq_left h, Nat.min_eq_left (by exact Nat.le_trans (by assumption) (by assumption))]
/-- the k-th name: its letters at two places -/
def Nm (at_ f M k : Nat) (z : Str) : Prop := z.cps.toList[at_]? = some (97 + (f + k) % 26) ∧ (26 < M → z.cps.toList[at_ + 1]? = some (97 + (f + k / 26) % 26))
theorem Nm.inj {at_ f M j k : Nat} {z : Str} (a : Nm at_ f M j z) (b : Nm at_ f M k z) (hj : j < M) (hk : k < M) (hM : M ≤ 60) : j = k := by
  have e1 := a.1.symm.trans b.1
  have e1 : 97 + (f + j) % 26 = 97 + (f + k) % 26 := by simpa using e1
  by_cases h : 26 < M
  · have e2 := (a.2 h).symm.trans (b.2 h)
    have e2 : 97 + (f + j / 26) % 26 = 97 + (f + k / 26) % 26 := by simpa using e2
    omega
  · omega
theorem Nm.nodup {at_ f M : Nat} {zs : List Str} (h : ∀ (j : Nat) z, zs[j]? = some z → Nm at_ f M j z) (hl : zs.length ≤ M) (hM : M ≤ 60) : zs.Nodup := by
  rw [List.nodup_iff_pairwise_ne, List.pairwise_iff_getElem]
  intro i j hi hj hij e
  have := Nm.inj (h i _ (getq hi)) (by rw [e]; exact h j _ (getq hj)) (by omega) (by exact Nat.le_trans (by assumption) (by assumption)) hM
  omega
theorem inV_strs (x : Str) (zs : List Str) : inV (.str x) (zs.map V.str) = decide (x ∈ zs) := by
  unfold inV
  induction zs with
  | nil => simp
  | cons z zs ih =>
    rw [List.map_cons, List.any_cons, ih]
    have : eqV (.str z) (.str x) = decide (x = z) := by
      show (z == x) = _
      rw [Bool.eq_iff_iff, beq_iff_eq, decide_eq_true_eq]; exact eq_comm
    rw [this, Bool.eq_iff_iff]; simp
/-- an item of a list, by a drawn number -/
theorem str_item (ns : List Str) {v : Int} (h0 : 0 ≤ v) (h1 : v < (ns.length : Int)) : ∃ y, y ∈ ns ∧ ns[v.toNat]? = some y ∧ atI (ns.map V.str) v = some (.str y) := by
  obtain ⟨j, rfl⟩ : ∃ j : Nat, v = (j : Int) := ⟨v.toNat, by omega⟩
  have hj : j < ns.length := by omega
  exact ⟨ns[j], List.getElem_mem hj, getq (by simpa using hj), atI_nat (by simp [hj])⟩
theorem int_item (ns : List Int) {v : Int} (h0 : 0 ≤ v) (h1 : v < (ns.length : Int)) : ∃ y, y ∈ ns ∧ atI (ns.map V.int) v = some (.int y) := by
  obtain ⟨j, rfl⟩ : ∃ j : Nat, v = (j : Int) := ⟨v.toNat, by omega⟩
  have hj : j < ns.length := by omega
  exact ⟨ns[j], List.getElem_mem hj, atI_nat (by simp [hj])⟩
theorem nat_of {v : Int} (h0 : 0 ≤ v) : ∃ j : Nat, v = (j : Int) := ⟨v.toNat, by omega⟩
end Wk
set_option maxHeartbeats 1000000
namespace Wk
open PySem L2
def endV (t : T4) : List V := [.int (t.2.1 : Int), .int (t.2.2.1 : Int), .int t.2.2.2]
abbrev Ps := List (T4 × Addr)
def psK (ps : Ps) : List (Key × V) := ps.map fun p => (Sum.inr p.1.1, V.ref p.2)
def ThAt (H : Hp) (th : Addr) (ps : Ps) : Prop := H th = some (.dK (psK ps)) ∧ ∀ p ∈ ps, H p.2 = some (.tup (endV p.1))
def TieOk (N : Nat) (t : T4) : Prop := t.2.1 < N ∧ t.2.2.1 < N ∧ t.2.1 ≠ t.2.2.1
structure PsOk (N : Nat) (ps : Ps) : Prop where
  nd : (ps.map (·.1.1)).Nodup
  ok : ∀ p ∈ ps, TieOk N p.1
theorem ThAt.same {H H' : Hp} {th : Addr} {ps : Ps} (h : ThAt H th ps) (s : Same H H') : ThAt H' th ps := ⟨s _ _ h.1, fun p q => s _ _ (h.2 p q)⟩
theorem val_none {ps : Ps} {n : Str} (h : n ∉ ps.map (·.1.1)) : valV (psK ps) (Sum.inr n) = none := by
  unfold psK
  induction ps with
  | nil => rfl
  | cons p ps ih =>
    rw [List.map_cons, List.mem_cons, not_or] at h
    rw [List.map_cons, valV_neg (by intro e; exact h.1 (by injection e with e; exact e.symm))]
    exact ih h.2
theorem val_some {ps : Ps} {p : T4 × Addr} (hp : p ∈ ps) (nd : (ps.map (·.1.1)).Nodup) : valV (psK ps) (Sum.inr p.1.1) = some (.ref p.2) := by
  unfold psK
  induction ps with
  | nil => cases hp
  | cons q ps ih =>
    rw [List.map_cons, List.nodup_cons] at nd
    rw [List.map_cons]
    rcases List.mem_cons.mp hp with rfl | hp
    · exact valV_pos rfl
    · rw [valV_neg (by intro e; injection e with e; exact nd.1 (by rw [e]; exact List.mem_map.mpr ⟨p, hp, rfl⟩))]
      exact ih hp nd.2
theorem val_has {ps : Ps} {n : Str} : (valV (psK ps) (Sum.inr n)).isSome = decide (n ∈ ps.map (·.1.1)) := by
  unfold psK
  induction ps with
  | nil => rfl
  | cons q ps ih =>
    rw [List.map_cons, List.map_cons]
    by_cases e : q.1.1 = n
    · rw [valV_pos (by rw [e])]; simp [e]
    · rw [valV_neg (by intro h; injection h with h; exact e h), ih]
      rw [Bool.eq_iff_iff]; simp [Ne.symm e]
theorem psK_put {ps : Ps} {t : T4} {r : Addr} (h : t.1 ∉ ps.map (·.1.1)) : putK (psK ps) (Sum.inr t.1) (.ref r) = psK (ps ++ [(t, r)]) := by
  rw [putK_new _ (val_none h)]
  unfold psK
  rw [List.map_append]; rfl
theorem psK_keys (ps : Ps) : (psK ps).map (·.1) = (ps.map (·.1.1)).map Sum.inr := by unfold psK; rw [List.map_map, List.map_map]; rfl
theorem mod_ne {N a v : Nat} (ha : a < N) (hv : v < N - 1) : (a + 1 + v) % N ≠ a ∧ (a + 1 + v) % N < N := by
  refine ⟨?_, Nat.mod_lt _ (by omega)⟩
  by_cases h : a + 1 + v < N
  · rw [Nat.mod_eq_of_lt h]; omega
  · rw [Nat.mod_eq_sub_mod (by exact Nat.not_lt.mp (by assumption)), Nat.mod_eq_of_lt (by omega)]; omega
theorem mod_ne1 {N a : Nat} (ha : a < N) (hN : 2 ≤ N) : (a + 1) % N ≠ a ∧ (a + 1) % N < N := by
  have := mod_ne (v := 0) ha (by omega)
  simpa using this
theorem mod_int {a b : Nat} : ((a : Int) % (b : Int)) = ((a % b : Nat) : Int) := by simp
end Wk
namespace L2
open PySem
section
variable {X : Cx} {pos : Pos} {e a b : Expr} {te ta tb : TE} {es : List Expr} {t u : TS} {st : Stmt} {rest : List Stmt}
theorem PE.imp' {t t' : TE} (h : PE X e t) (f : ∀ σ H Q, t' σ H Q → t σ H Q) : PE X e t' := fun pins s σ H Q I h' => h pins s σ H Q I (f σ H Q h')
theorem okO {p : TS → Prop} (h : ∃ t, PSso X rest t ∧ p t) : ∃ t, PSs X rest t ∧ p t := let ⟨t, a, b⟩ := h; ⟨t, a.of, b⟩
theorem pso_ret (he : PEo X e te) : PSo X (.Return (some e) pos) (tRet te) := ⟨ps_ret he.of⟩
theorem peo_ix {r : R2} (hr : IxR X r) (ha : PEo X a ta) (hb : PEo X b tb) (hs : PlainIx b) : PEo X (.Subscript a b pos) (tOp r ta tb) := ⟨pe_ix hr ha.of hb.of hs⟩
theorem peo_op {op : Operator} {r : R2} (ho : OpR X (binaryOp op) r) (ha : PEo X a ta) (hb : PEo X b tb) : PEo X (.BinOp a op b pos) (tOp r ta tb) := ⟨pe_op ho ha.of hb.of⟩
end
end L2
set_option maxHeartbeats 1000000
namespace Wk
open PySem L2
def keysOf (t : T4) : List Key := [.inr t.1, .inl (t.2.1 : Int), .inl (t.2.2.1 : Int), .inl t.2.2.2]
def tieOf : List Key → T4
  | [.inr n, .inl a, .inl b, .inl w] => (n, a.toNat, b.toNat, w)
  | _ => (Str.ofString "", 0, 0, 0)
theorem tieOf_keys (t : T4) : tieOf (keysOf t) = t := by
  obtain ⟨n, a, b, w⟩ := t
  show (n, (a : Int).toNat, (b : Int).toNat, w) = _
  simp
theorem keys_tieV (t : T4) : (keysOf t).map kV = tieV t := rfl
def IsTie (ks : List Key) : Prop := ∃ t, ks = keysOf t
end Wk
namespace L2
open PySem
section
variable {g : TG} {tb : TS} {D : Ends} {σ : St} {H : Hp}
/-- loops whose turns see nothing of the ends but what they may use -/
theorem for_tupH {K : PySem.W.Frag} {a : Addr} {xs : List V} (Pv : Nat → St → Hp → Prop) (h0 : Pv 0 σ H) (hl : ∀ i σ H, i ≤ xs.length → Pv i σ H → SqT K H a xs)
    (hs : ∀ i x σ H, xs[i]? = some x → Pv i σ H → ∀ E : Ends, (∀ σ H, Pv (i + 1) σ H → E.nx σ H) → (∀ v H, D.rt v H → E.rt v H) → g x σ H fun σ2 H2 => tb E σ2 H2) (hd : ∀ σ H, Pv xs.length σ H → D.nx σ H) :
    ∃ W : Nat → Nat → St → Hp → Prop, (∃ m, W 0 m σ H) ∧ ∀ i m σ H, W i m σ H →
      ((Itt K a).stop i H ∧ D.nx σ H) ∨ ((Itt K a).go i H ∧ ∃ N : St → Hp → Prop, (∀ σ' H', N σ' H' → ∃ m', m' < m ∧ W (i + 1) m' σ' H') ∧ ∀ x H', (Itt K a).yld i H x H' → g x σ H' fun σ2 H2 => tb { D with nx := N, ct := N, bk := D.nx } σ2 H2) :=
  for_tup Pv h0 hl (fun i x σ H hx p => hs i x σ H hx p _ (fun _ _ h => h) (fun _ _ h => h)) hd
theorem for_listH {K : PySem.W.Frag} {a : Addr} {xs : List V} (Pv : Nat → St → Hp → Prop) (h0 : Pv 0 σ H) (hl : ∀ i σ H, i ≤ xs.length → Pv i σ H → SqL K H a xs)
    (hs : ∀ i x σ H, xs[i]? = some x → Pv i σ H → ∀ E : Ends, (∀ σ H, Pv (i + 1) σ H → E.nx σ H) → (∀ v H, D.rt v H → E.rt v H) → g x σ H fun σ2 H2 => tb E σ2 H2) (hd : ∀ σ H, Pv xs.length σ H → D.nx σ H) :
    ∃ W : Nat → Nat → St → Hp → Prop, (∃ m, W 0 m σ H) ∧ ∀ i m σ H, W i m σ H →
      ((Itl K a).stop i H ∧ D.nx σ H) ∨ ((Itl K a).go i H ∧ ∃ N : St → Hp → Prop, (∀ σ' H', N σ' H' → ∃ m', m' < m ∧ W (i + 1) m' σ' H') ∧ ∀ x H', (Itl K a).yld i H x H' → g x σ H' fun σ2 H2 => tb { D with nx := N, ct := N, bk := D.nx } σ2 H2) :=
  for_list Pv h0 hl (fun i x σ H hx p => hs i x σ H hx p _ (fun _ _ h => h) (fun _ _ h => h)) hd
theorem for_rangeH {lo : Int} {n : Nat} (Pv : Nat → St → Hp → Prop) (h0 : Pv 0 σ H)
    (hs : ∀ i σ H, i < n → Pv i σ H → ∀ E : Ends, (∀ σ H, Pv (i + 1) σ H → E.nx σ H) → (∀ v H, D.rt v H → E.rt v H) → g (.int (lo + i)) σ H fun σ2 H2 => tb E σ2 H2) (hd : ∀ σ H, Pv n σ H → D.nx σ H) :
    ∃ W : Nat → Nat → St → Hp → Prop, (∃ m, W 0 m σ H) ∧ ∀ i m σ H, W i m σ H →
      ((Itr lo n).stop i H ∧ D.nx σ H) ∨ ((Itr lo n).go i H ∧ ∃ N : St → Hp → Prop, (∀ σ' H', N σ' H' → ∃ m', m' < m ∧ W (i + 1) m' σ' H') ∧ ∀ x H', (Itr lo n).yld i H x H' → g x σ H' fun σ2 H2 => tb { D with nx := N, ct := N, bk := D.nx } σ2 H2) :=
  for_range Pv h0 (fun i σ H hi p => hs i σ H hi p _ (fun _ _ h => h) (fun _ _ h => h)) hd
theorem while_ghH {c : TT} (Pv : Nat → St → Hp → Prop) {m0 : Nat} (h0 : Pv m0 σ H)
    (hs : ∀ m σ H, Pv m σ H → ∀ E : Ends, (∀ m' σ' H', m' < m → Pv m' σ' H' → E.nx σ' H') → (∀ v H, D.rt v H → E.rt v H) → c σ H fun b H1 => if b = true then tb E σ H1 else D.nx σ H1)
    (mono : ∀ σ H Q Q', (∀ b H1, Q b H1 → Q' b H1) → c σ H Q → c σ H Q') : tWhile c tb D σ H :=
  while_gh Pv h0 (fun m σ H p => hs m σ H p _ (fun m' _ _ l h => ⟨m', l, h⟩) (fun _ _ h => h)) mono
end
end L2
set_option maxHeartbeats 1000000
namespace Wk
open PySem L2
/-- names that lead on, from the first one -/
def Walk (S : List T4) : Nat → List Str → Nat → Prop
  | a, [], b => a = b
  | a, n :: ws, b => ∃ c, (n, c) ∈ nbrs S a ∧ Walk S c ws b
theorem Walk.snoc {S : List T4} {b c : Nat} {n : Str} (q : (n, c) ∈ nbrs S b) : ∀ {ws : List Str} {a : Nat}, Walk S a ws b → Walk S a (ws ++ [n]) c
  | [], a, h => by cases (show a = b from h); exact ⟨c, q, rfl⟩
  | m :: ws, a, ⟨d, h1, h2⟩ => ⟨d, h1, Walk.snoc q h2⟩
theorem Lead.walk {S : List T4} {a b : Nat} {xs : List Str} (h : Lead S a xs b) : Walk S a xs b := by
  induction h with
  | nil => rfl
  | snoc _ q ih => exact Walk.snoc q ih
theorem name_inj {S : List T4} (nd : (S.map (·.1)).Nodup) {t t' : T4} (h : t ∈ S) (h' : t' ∈ S) (e : t.1 = t'.1) : t = t' := by
  induction S with
  | nil => cases h
  | cons x S ih =>
    rw [List.map_cons, List.nodup_cons] at nd
    rcases List.mem_cons.mp h with e1 | h1
    · rcases List.mem_cons.mp h' with e2 | h2
      · rw [e1, e2]
      · exact absurd (List.mem_map.mpr ⟨t', h2, by rw [← e, e1]⟩) nd.1
    · rcases List.mem_cons.mp h' with e2 | h2
      · exact absurd (List.mem_map.mpr ⟨t, h1, by rw [e, e2]⟩) nd.1
      · exact ih nd.2 h1 h2
theorem iter_short {S : List T4} {N p : Nat} (hS : InN N S) : ∀ (n : Nat) (st : Ws × List Nat) (i : Nat), BInv S N p st → (∀ v x, Wk.Vis st.1 v x → x.length ≤ i) → ∀ v x, Wk.Vis (iter S n st).1 v x → x.length ≤ i + (nones st.1 + st.2.length)
  | 0, st, i, _, h => fun v x q => by have := h v x q; omega
  | n + 1, (ws, []), i, _, h => fun v x q => by
    rw [iter_nil (n + 1)] at q
    have := h v x q; omega
  | n + 1, (ws, h' :: rest), i, I, h => fun v x q => by
    obtain ⟨a, b⟩ := bstep_ok hS I
    have := iter_short hS n _ (i + 1) a (bstep_short hS I h) v x q
    have e : nones (ws, h' :: rest).1 + (ws, h' :: rest).2.length = nones ws + (h' :: rest).length := rfl
    omega
theorem nones_init {N p : Nat} (hp : p < N) : nones (binit N p).1 + 1 = N := by
  unfold nones binit
  have hl : p < (List.replicate N (none : Option (List Str))).length := by simpa using hp
  have hg : (List.replicate N (none : Option (List Str)))[p] = none := by simp
  rw [List.countP_set (h := hl), hg]
  have : (List.replicate N (none : Option (List Str))).countP (· == none) = N := by simp [List.countP_replicate]
  rw [this]
  simp only [beq_self_eq_true, if_true]
  show N - 1 + 0 + 1 = N
  omega
theorem ways_short {S : List T4} {N p : Nat} (hS : InN N S) (hp : p < N) {v : Nat} {x : List Str} (h : Wk.Vis (waysF N S p) v x) : x.length ≤ N := by
  have := iter_short hS 64 (binit N p) 0 (binv0 hp) (fun v x q => by rw [binit_vis hp q]; simp) v x h
  have := nones_init hp
  have e : (binit N p).2.length = 1 := rfl
  omega
theorem vis_dec {ws : Ws} {v : Nat} (hv : v < ws.length) : (∃ x, Wk.Vis ws v x) ∨ (ws[v]? = some none) := by
  cases h : ws[v]? with
  | none => rw [getq hv] at h; cases h
  | some o => cases o with
    | none => exact .inr rfl
    | some x => exact .inl ⟨x, h⟩
end Wk
set_option maxHeartbeats 1000000
namespace L2
open PySem PySem.Spec PyProof.Rows
end L2
namespace Wk
open PySem L2
inductive Dd where
  | come (m : Int) (t : T4)
  | go (m : Int) (n : Str)
def Dd.vs : Dd → List V
  | .come m t => .str (Str.ofString "come") :: .int m :: tieV t
  | .go m n => [.str (Str.ofString "go"), .int m, .str n]
def Dd.nm : Dd → Str
  | .come _ t => t.1
  | .go _ n => n
def Dd.mo : Dd → Int
  | .come m _ => m
  | .go m _ => m
def stepD (S : List T4) : Dd → List T4
  | .come _ t => S ++ [t]
  | .go _ n => S.filter fun t => decide (t.1 ≠ n)
def thr (ds : List Dd) : List T4 := ds.foldl stepD []
theorem thr_snoc (ds : List Dd) (d : Dd) : thr (ds ++ [d]) = stepD (thr ds) d := by unfold thr; rw [List.foldl_append]; rfl
def DdOk (N : Nat) (S : List T4) : Dd → Prop
  | .come _ t => t.1 ∉ S.map (·.1) ∧ TieOk N t
  | .go _ n => n ∈ S.map (·.1)
structure Right (N : Nat) (ds : List Dd) : Prop where
  ok : ∀ (i : Nat) d, ds[i]? = some d → DdOk N (thr (ds.take i)) d
  len : ds.length ≤ 60
  mo : ∀ d ∈ ds, 0 ≤ d.mo ∧ d.mo ≤ 1000000000
  up : ds.Pairwise fun a b => a.mo ≤ b.mo
  wt : ∀ (m : Int) t, Dd.come m t ∈ ds → 0 ≤ t.2.2.2 ∧ t.2.2.2 ≤ 1000000000
theorem take_snoc {α : Type} {l : List α} {i : Nat} {d : α} (h : l[i]? = some d) : l.take (i + 1) = l.take i ++ [d] := by rw [List.take_add_one, h]; rfl
theorem Right.take {N : Nat} {ds : List Dd} (h : Right N ds) (n : Nat) : Right N (ds.take n) := by
  refine ⟨fun i d e => ?_, by rw [List.length_take]; have := h.len; omega, fun d hd => h.mo d (List.mem_of_mem_take hd), h.up.sublist (List.take_sublist ..), fun m t ht => h.wt m t (List.mem_of_mem_take ht)⟩
  have hi : i < n := by have := (List.getElem?_eq_some_iff.mp e).1; rw [List.length_take] at this; omega
  rw [List.getElem?_take_of_lt hi] at e
  rw [List.take_take, Nat.min_eq_left (by exact Nat.le_of_lt (by assumption))]
  exact h.ok i d e
structure ThrOk (N : Nat) (S : List T4) : Prop where
  nd : (S.map (·.1)).Nodup
  ok : ∀ t ∈ S, TieOk N t
theorem filt_names (n : Str) (S : List T4) : (S.filter fun t => decide (t.1 ≠ n)).map (·.1) = (S.map (·.1)).filter fun m => decide (m ≠ n) := by rw [List.filter_map]; rfl
theorem step_ok {N : Nat} {S : List T4} {d : Dd} (h : ThrOk N S) (g : DdOk N S d) : ThrOk N (stepD S d) := by
  cases d with
  | come m t =>
    refine ⟨?_, fun u hu => ?_⟩
    · show ((S ++ [t]).map (·.1)).Nodup
      rw [List.map_append]
      refine List.nodup_append.mpr ⟨h.nd, List.nodup_cons.mpr ⟨by simp, List.nodup_nil⟩, fun x hx y hy => ?_⟩
      have e := List.mem_singleton.mp hy
      intro q
      exact g.1 (by have e : y = t.1 := e; rw [← e, ← q]; exact hx)
    · rcases List.mem_append.mp hu with q | q
      · exact h.ok u q
      · rw [List.mem_singleton.mp q]; exact g.2
  | go m n =>
    refine ⟨?_, fun u hu => h.ok u (List.mem_filter.mp hu).1⟩
    show ((S.filter fun t => decide (t.1 ≠ n)).map (·.1)).Nodup
    rw [filt_names]
    exact h.nd.sublist List.filter_sublist
theorem thr_ok {N : Nat} {ds : List Dd} (h : Right N ds) : ∀ i, i ≤ ds.length → ThrOk N (thr (ds.take i))
  | 0, _ => ⟨List.nodup_nil, by simp [thr]⟩
  | i + 1, hi => by
    have e := getq (l := ds) (i := i) (by assumption)
    rw [take_snoc e, thr_snoc]
    exact step_ok (thr_ok h i (by exact Nat.le_of_lt (by assumption))) (h.ok i _ e)
theorem thr_len (ds : List Dd) : ∀ i, (thr (ds.take i)).length ≤ i
  | 0 => by simp [thr]
  | i + 1 => by
    cases e : ds[i]? with
    | none =>
      have : ds.length ≤ i := by
        rcases Nat.lt_or_ge i ds.length with h | h
        · rw [getq h] at e; cases e
        · exact h
      have := thr_len ds i
      rw [List.take_of_length_le (by omega)] at this ⊢
      exact Nat.le_succ_of_le (by assumption)
    | some d =>
      rw [take_snoc e, thr_snoc]
      have := thr_len ds i
      cases d with
      | come m t => show (_ ++ [t]).length ≤ _; simp; assumption
      | go m n => exact Nat.le_trans (List.length_filter_le _ _) (by exact Nat.le_succ_of_le (by assumption))
def Srtd (S T : List T4) : Prop := S.Perm T ∧ S.Pairwise fun a b => Srt.ltR (keysOf b) (keysOf a) = false
theorem keys_inj {a b : T4} (h : keysOf a = keysOf b) : a = b := by rw [← tieOf_keys a, ← tieOf_keys b, h]
theorem srtd_unique : ∀ {S S' : List T4}, S.Perm S' → S.Pairwise (fun a b => Srt.ltR (keysOf b) (keysOf a) = false) → S'.Pairwise (fun a b => Srt.ltR (keysOf b) (keysOf a) = false) → S = S'
  | [], S', p, _, _ => (List.nil_perm.mp p).symm ▸ rfl
  | a :: S, [], p, _, _ => absurd p.length_eq (by simp)
  | a :: S, b :: S', p, h, h' => by
    have hab : a = b := by
      have ha : a ∈ b :: S' := p.mem_iff.mp (List.mem_cons_self ..)
      have hb : b ∈ a :: S := p.mem_iff.mpr (List.mem_cons_self ..)
      rcases List.mem_cons.mp ha with e | ha
      · exact e
      · rcases List.mem_cons.mp hb with e | hb
        · exact e.symm
        · have x1 := (List.pairwise_cons.mp h).1 b hb
          have x2 := (List.pairwise_cons.mp h').1 a ha
          rcases Srt.ltR_tri _ _ x1 with e | e
          · exact (keys_inj e).symm
          · rw [e] at x2; cases x2
    subst hab
    rw [srtd_unique ((List.perm_cons a).mp p) (List.pairwise_cons.mp h).2 (List.pairwise_cons.mp h').2]
theorem Srtd.eq {S S' T T' : List T4} (h : Srtd S T) (h' : Srtd S' T') (p : T.Perm T') : S = S' := srtd_unique ((h.1.trans p).trans h'.1.symm) h.2 h'.2
def bk : List Dd → List Str → List T4
  | [], _ => []
  | .come _ t :: r, met => (if t.1 ∉ met then [t] else []) ++ bk r (met ++ [t.1])
  | .go _ n :: r, met => bk r (met ++ [n])
theorem filt_congr2 {S : List T4} {p q : T4 → Bool} (h : ∀ t ∈ S, p t = q t) : S.filter p = S.filter q := List.filter_congr h
theorem bk_perm {N : Nat} : ∀ (n : Nat) (ds : List Dd), ds.length = n → (∀ (i : Nat) d, ds[i]? = some d → DdOk N (thr (ds.take i)) d) → ∀ met, (bk ds.reverse met).Perm ((thr ds).filter fun t => decide (t.1 ∉ met))
  | 0, ds, hl, _, met => by
    have : ds = [] := List.length_eq_zero_iff.mp hl
    subst this
    exact List.Perm.refl _
  | n + 1, ds, hl, h, met => by
    have hn : n < ds.length := by omega
    have e := getq hn
    have es : ds = ds.take n ++ [ds[n]] := by rw [← take_snoc e, List.take_of_length_le (by exact Nat.le_of_eq (by assumption))]
    have hok := h n _ e
    have ih := bk_perm (N := N) n (ds.take n) (by rw [List.length_take]; omega) (fun i d q => by
      have hi : i < n := by have := (List.getElem?_eq_some_iff.mp q).1; rw [List.length_take] at this; omega
      rw [List.getElem?_take_of_lt hi] at q
      rw [List.take_take, Nat.min_eq_left (by exact Nat.le_of_lt (by assumption))]
      exact h i d q)
    rw [es, List.reverse_append, thr_snoc]
    generalize ds.take n = D at hok ih
    cases hd : ds[n] with
    | come m t =>
      rw [hd] at hok
      have hok : t.1 ∉ (thr D).map (·.1) ∧ TieOk N t := hok
      show ((if t.1 ∉ met then [t] else []) ++ bk D.reverse (met ++ [t.1])).Perm (((thr D) ++ [t]).filter _)
      rw [List.filter_append]
      have e1 : (thr D).filter (fun u => decide (u.1 ∉ met ++ [t.1])) = (thr D).filter fun u => decide (u.1 ∉ met) := filt_congr2 fun u hu => by
        have : u.1 ≠ t.1 := fun q => hok.1 (by rw [← q]; exact List.mem_map.mpr ⟨u, hu, rfl⟩)
        simp [this]
      have ih' := ih (met ++ [t.1])
      rw [e1] at ih'
      by_cases g : t.1 ∈ met
      · rw [if_neg (by simpa using g)]
        have : [t].filter (fun u => decide (u.1 ∉ met)) = [] := by simp [g]
        rw [this, List.append_nil]
        exact ih'
      · rw [if_pos g]
        have : [t].filter (fun u => decide (u.1 ∉ met)) = [t] := by simp [g]
        rw [this]
        exact (List.Perm.append_left [t] ih').trans List.perm_append_comm
    | go m nn =>
      show (bk D.reverse (met ++ [nn])).Perm (((thr D).filter fun t => decide (t.1 ≠ nn)).filter _)
      refine (ih (met ++ [nn])).trans ?_
      rw [List.filter_filter]
      refine List.Perm.of_eq (filt_congr2 fun u _ => ?_)
      by_cases a : u.1 ∈ met <;> by_cases b : u.1 = nn <;> simp [a, b]
theorem bk_thr {N : Nat} {ds : List Dd} (h : Right N ds) : (bk ds.reverse []).Perm (thr ds) := by
  have := bk_perm (N := N) ds.length ds rfl h.ok []
  have e : (thr ds).filter (fun t => decide (t.1 ∉ ([] : List Str))) = thr ds := List.filter_eq_self.mpr fun t _ => by simp
  rw [e] at this
  exact this
def DdsAt (H : Hp) (rs : List Addr) (ds : List Dd) : Prop := rs.length = ds.length ∧ ∀ (i : Nat) r d, rs[i]? = some r → ds[i]? = some d → H r = some (.tup d.vs)
theorem DdsAt.mono {H H' : Hp} {rs : List Addr} {ds : List Dd} (h : DdsAt H rs ds) (f : ∀ r xs, H r = some (.tup xs) → H' r = some (.tup xs)) : DdsAt H' rs ds := ⟨h.1, fun i r d a b => f _ _ (h.2 i r d a b)⟩
theorem DdsAt.get {H : Hp} {rs : List Addr} {ds : List Dd} (h : DdsAt H rs ds) {i : Nat} {r : Addr} (hr : rs[i]? = some r) : ∃ d, ds[i]? = some d ∧ H r = some (.tup d.vs) := by
  have hi : i < ds.length := by rw [← h.1]; exact (List.getElem?_eq_some_iff.mp hr).1
  exact ⟨ds[i], getq hi, h.2 i r _ hr (getq hi)⟩
def HistAt (H : Hp) (h : Addr) (N : Nat) (ds : List Dd) : Prop := ∃ (tp : Addr) (rs : List Addr), H h = some (.tup [.int (N : Int), .ref tp]) ∧ H tp = some (.tup (rs.map V.ref)) ∧ DdsAt H rs ds
theorem HistAt.mono {H H' : Hp} {h : Addr} {N : Nat} {ds : List Dd} (x : HistAt H h N ds) (f : ∀ r xs, H r = some (.tup xs) → H' r = some (.tup xs)) : HistAt H' h N ds := let ⟨tp, rs, a, b, c⟩ := x; ⟨tp, rs, f _ _ a, f _ _ b, c.mono f⟩
theorem HistAt.same {H H' : Hp} {h : Addr} {N : Nat} {ds : List Dd} (x : HistAt H h N ds) (s : Same H H') : HistAt H' h N ds := x.mono fun r xs => s r (.tup xs)
end Wk
set_option maxHeartbeats 1000000
namespace Wk
open PySem L2
/-- the first n deeds of a history -/
def tTakeH (K : PySem.W.Frag) (i j : Nat) : TE := fun σ H Q => ∃ (h tp : Addr) (x : V) (n : Nat) (xs : List V), σ[i]? = some (some (.ref h)) ∧ σ[j]? = some (some (.int (n : Int))) ∧ H h = some (.tup [x, .ref tp]) ∧ H tp = some (.tup xs) ∧ n ≤ xs.length ∧ ∀ c H', Same H H' → H' c = some (.tup (xs.take n)) → Q (.ref c) H'
theorem takeH_ok {K : PySem.W.Frag} {i j : Nat} : ∀ σ H Q, tTakeH K i j σ H Q → tSl (rSlTA K) (tOp (rIxT K) (tVar i) (tC (.int 1))) tNoPart (tPart (tVar j)) σ H Q := by
  rintro σ H Q ⟨h, tp, x, n, xs, ei, ej, hh, ht, hn, k⟩
  refine ⟨_, ei, h, _, 1, _, rfl, rfl, SqT.of hh, atI_nat (j := 1) rfl, _, ej, _, rfl, tp, xs, rfl, SqT.of ht, fun w => ?_, fun _ p hp => ?_⟩
  · have := w.2
    rw [HT.sIx_nat, Nat.min_eq_left hn] at this
    exact k tp H (same_refl _) (by rw [this, List.take_length]; exact ht)
  · rw [cutV_take hn]
    exact k p _ (same_new hp) upd_same
/-- ties by their names, whole -/
def ThF (H : Hp) (th : Addr) (ps : Ps) : Prop := H th = some (.dK (psK ps)) ∧ ∀ p ∈ ps, H p.2 = some (.tup (tieV p.1))
theorem psK_drop (n : Str) : ∀ ps : Ps, dropK (psK ps) (.inr n : Key) = psK (ps.filter fun p => decide (p.1.1 ≠ n))
  | [] => rfl
  | p :: ps => by
    have ih := psK_drop n ps
    unfold dropK psK at ih ⊢
    rw [List.map_cons, List.filter_cons, List.filter_cons]
    by_cases z : p.1.1 = n
    · rw [if_neg (by simp [z]), if_neg (by simp [z])]; exact ih
    · rw [if_pos (by simp [z]), if_pos (by simp [z]), List.map_cons, ih]
theorem ps_names (ps : Ps) : (ps.map (·.1)).map (·.1) = ps.map (·.1.1) := by rw [List.map_map]; rfl
theorem ps_filt (n : Str) (ps : Ps) : (ps.filter fun p => decide (p.1.1 ≠ n)).map (·.1) = (ps.map (·.1)).filter fun t => decide (t.1 ≠ n) := by rw [List.filter_map]; rfl
end Wk
set_option maxHeartbeats 1000000
namespace L2
open PySem PySem.Spec PyProof.Rows
end L2
namespace Wk
open PySem L2
/-- a part is closed -/
theorem part_closed {N p : Nat} {S : List T4} (hS : InN N S) (hp : p < N) (hN : N ≤ 60) {t : T4} (ht : t ∈ S) : t.2.1 ∈ partF N S p ↔ t.2.2.1 ∈ partF N S p := by
  rw [mem_part hS hp hN, mem_part hS hp hN]
  have := hS t ht
  constructor
  · rintro ⟨_, h⟩; exact ⟨this.2, h.trans (.step (nb_of ht))⟩
  · rintro ⟨_, h⟩; exact ⟨this.1, h.trans (.step (nb_symm (nb_of ht)))⟩
theorem part_up {N p : Nat} {S : List T4} : (partF N S p).Pairwise (· < ·) := by
  unfold partF
  exact (List.pairwise_lt_range).sublist List.filter_sublist
theorem ways_none {N p q : Nat} {S : List T4} (hS : InN N S) (hp : p < N) (hq : q < N) (hN : N ≤ 60) : (waysF N S p)[q]? = some none ↔ q ∉ partF N S p := by
  have wl := ways_len hS hp hN
  rcases vis_dec (ws := waysF N S p) (v := q) (by omega) with ⟨x, hx⟩ | h
  · unfold Wk.Vis at hx
    rw [hx]
    constructor
    · intro z; simp at z
    · intro z
      exact absurd ((mem_part hS hp hN).mpr ⟨hq, x, ways_lead hS hp hN hx⟩) z
  · rw [h]
    constructor
    · intro _ z
      obtain ⟨_, x, hx⟩ := (mem_part hS hp hN).mp z
      obtain ⟨y, hy, _⟩ := ways_least hS hp hN hx
      unfold Wk.Vis at hy
      rw [h] at hy; simp at hy
    · intro _; rfl
end Wk
set_option maxHeartbeats 4000000
namespace PySem
open Builtin
abbrev zL1 (h : Heap) (a : Addr) : Heap := h.push { cls := .type "list_iterator", data := .fields #[.ref a, .int 0 0] }
abbrev zL2 (h : Heap) (a b : Addr) : Heap := (zL1 h a).push { cls := .type "list_iterator", data := .fields #[.ref b, .int 0 0] }
abbrev zL3 (h : Heap) (a b : Addr) : Heap := (zL2 h a b).push { cls := .type "tuple", data := .seq #[.ref h.objs.size, .ref (zL1 h a).objs.size] }
abbrev zL4 (h : Heap) (a b : Addr) : Heap := (zL3 h a b).push { cls := .type "tuple", data := .seq #[.none, .none] }
abbrev zL5 (h : Heap) (a b : Addr) : Heap := (zL4 h a b).push { cls := .type "zip", data := .fields #[.none, .bool false, .bool false, .ref (zL2 h a b).objs.size, .ref (zL3 h a b).objs.size] }
theorem meets_zip_ll (a b : Addr) (xs ys : Array Value) :
    Meets (Builtin.«zip.__new__» ⟨[.type "zip", .ref a, .ref b], []⟩) (fun _ R s => s.heap.IsList a xs ∧ s.heap.IsList b ys ∧ R (.ok (.ret (.ref (zL4 s.heap a b).objs.size))) { s with heap := zL5 s.heap a b }) :=
  .of_wp fun prog w A R s h => by
    obtain ⟨hp, g, d, tk, os⟩ := s
    obtain ⟨ta, tb, h⟩ := h
    have hsub := sub_zip
    have q1 : Heap.IsList (Shared.heap ⟨hp, g, d, tk, os⟩) a xs := ta
    have q2 : Heap.IsList (Shared.heap ⟨hp.push { cls := .type "list_iterator", data := .fields #[.ref a, .int 0 0] }, g, d, tk, os⟩) b ys := let ⟨o, ho, r⟩ := tb; ⟨o, Heap.get?_push_of_some _ ho, r⟩
    wp_walk using wpAny_pyIter_list q1, wpAny_pyIter_list q2
    exact ⟨_, rfl, h⟩
section
variable {prog : Program} {w : World} {A : Around} {E : Value → Shared → Prop} {s : Shared}
theorem call_zip_ll {a b : Addr} {xs ys : Array Value} {Q : Value → Shared → Prop} (ta : s.heap.IsList a xs) (tb : s.heap.IsList b ys)
    (h : ∀ h', IsZip h' (s.heap.objs.size + 4) (s.heap.objs.size + 2) (s.heap.objs.size + 3) .none → IsPair h' (s.heap.objs.size + 2) (.ref s.heap.objs.size) (.ref (s.heap.objs.size + 1)) → IsPair h' (s.heap.objs.size + 3) .none .none →
      h'.IsListIter s.heap.objs.size a 0 → h'.IsListIter (s.heap.objs.size + 1) b 0 → (∀ c o, s.heap.get? c = some o → h'.get? c = some o) → Q (.ref (s.heap.objs.size + 4)) { s with heap := h' }) :
    wpAny (model prog w) A (call (.type "zip") [.ref a, .ref b]) Q E s := by
  refine callType_new F.called_zip (by decide) (F.typeCall_zip_2 _ _) (F.newCall_zip_2 _ _) (fun obj => F.args_object_init_3 obj _ _) F.entry_zip_new (meets_zip_ll a b xs ys) ⟨ta, tb, ?_⟩
  have y1 : (zL1 s.heap a).objs.size = s.heap.objs.size + 1 := Heap.size_push ..
  have y2 : (zL2 s.heap a b).objs.size = s.heap.objs.size + 2 := by rw [Heap.size_push, y1]
  have y3 : (zL3 s.heap a b).objs.size = s.heap.objs.size + 3 := by rw [Heap.size_push, y2]
  have y4 : (zL4 s.heap a b).objs.size = s.heap.objs.size + 4 := by rw [Heap.size_push, y3]
  have e5 : (zL5 s.heap a b).get? (zL4 s.heap a b).objs.size = some _ := Heap.get?_push_size _ rfl
  have e4 : (zL5 s.heap a b).get? (zL3 s.heap a b).objs.size = some _ := Heap.get?_push_of_some _ (Heap.get?_push_size _ rfl)
  have e3 : (zL5 s.heap a b).get? (zL2 s.heap a b).objs.size = some _ := Heap.get?_push_of_some _ (Heap.get?_push_of_some _ (Heap.get?_push_size _ rfl))
  have e2 : (zL5 s.heap a b).get? (zL1 s.heap a).objs.size = some _ := Heap.get?_push_of_some _ (Heap.get?_push_of_some _ (Heap.get?_push_of_some _ (Heap.get?_push_size _ rfl)))
  have e1 : (zL5 s.heap a b).get? s.heap.objs.size = some _ := Heap.get?_push_of_some _ (Heap.get?_push_of_some _ (Heap.get?_push_of_some _ (Heap.get?_push_of_some _ (Heap.get?_push_size _ rfl))))
  show _ ∧ _
  rw [y2, y3, y4] at e5
  rw [y1, y2] at e3
  rw [y3] at e4
  rw [y1] at e2
  rw [y4]
  refine ⟨⟨_, e5, rfl⟩, h _ e5 e3 e4 ⟨_, e1, rfl, rfl⟩ ⟨_, e2, rfl, rfl⟩ fun c o e => ?_⟩
  exact Heap.get?_push_of_some _ (Heap.get?_push_of_some _ (Heap.get?_push_of_some _ (Heap.get?_push_of_some _ (Heap.get?_push_of_some _ e))))
end
end PySem
namespace L2
open PySem PySem.Spec PyProof.Rows
/-- zip(the tuples at a and b): pairs, each a new tuple -/
def ItzL (K : PySem.W.Frag) (a b : Addr) : It :=
  ⟨fun i H => ∃ xs ys x y, SqL K H a xs ∧ SqL K H b ys ∧ xs[i]? = some x ∧ ys[i]? = some y, fun i H v H' => ∃ T x y, H T = none ∧ v = .ref T ∧ H' = upd H T (.tup [x, y]) ∧ (∀ xs, SqL K H a xs → xs[i]? = some x) ∧ ∀ ys, SqL K H b ys → ys[i]? = some y,
   fun i H => ∃ xs ys, SqL K H a xs ∧ SqL K H b ys ∧ (i = xs.length ∨ (i < xs.length ∧ i = ys.length))⟩
theorem turn_zipL {P : Program} {w : World} {K : PySem.W.Frag} {elts : List Expr} {x1} {pos : Pos} (a b z TI TO i1 i2 : Addr) (nd : [z, TI, TO, i1, i2].Nodup) (na : a ∉ [z, TI, TO, i1, i2]) (nb : b ∉ [z, TI, TO, i1, i2]) : Turn P w K (.Tuple elts x1 pos) (ItzL K a b) [z, TI, TO, i1, i2] z
    (fun i h => IsZip h z TI TO .none ∧ IsPair h TI (.ref i1) (.ref i2) ∧ (∃ u v, IsPair h TO u v) ∧ h.IsListIter i1 a i ∧ h.IsListIter i2 b i) where
  mem := by simp
  obj := fun i h st c hc => by
    obtain ⟨h1, h2, ⟨u, v, h3⟩, ⟨o4, g4, _, d4⟩, ⟨o5, g5, _, d5⟩⟩ := st
    simp only [List.mem_cons, List.mem_nil_iff, or_false] at hc
    rcases hc with rfl | rfl | rfl | rfl | rfl
    · exact ⟨_, h1, fun v q => by cases q⟩
    · exact ⟨_, h2, fun v q => by cases q⟩
    · exact ⟨_, h3, fun v q => by cases q⟩
    · exact ⟨_, g4, fun v q => by rw [d4] at q; cases q⟩
    · exact ⟨_, g5, fun v q => by rw [d5] at q; cases q⟩
  keep := fun i h h' st k => by
    obtain ⟨h1, h2, ⟨u, v, h3⟩, h4, h5⟩ := st
    exact ⟨k z (by simp) _ h1, k TI (by simp) _ h2, ⟨u, v, k TO (by simp) _ h3⟩, h4.at fun o q => k i1 (by simp) o q, h5.at fun o q => k i2 (by simp) o q⟩
  item := by
    intro X hP hw hK hc i pins s σ H E I hf st hg
    subst hP hw hK
    obtain ⟨hZ, pI, ⟨u, v, pO⟩, t1, t2⟩ := st
    obtain ⟨xs, ys, x, y, ha, hb, hx, hy⟩ := hg
    obtain ⟨its, rv, p1, _⟩ := I.list ha
    obtain ⟨jts, rw', p2, _⟩ := I.list hb
    obtain ⟨ux, hux, rx⟩ := rv.get hx
    obtain ⟨uy, huy, ry⟩ := rw'.get hy
    have AP := zap_of nd na nb
    have fresh : H s.heap.objs.size = none := I.hok.fresh (Nat.le_refl _)
    have ltz : ∀ c ∈ [z, TI, TO, i1, i2], c ≠ s.heap.objs.size := by
      intro c hc
      obtain ⟨o4, g4, _⟩ := id t1
      obtain ⟨o5, g5, _⟩ := id t2
      simp only [List.mem_cons, List.mem_nil_iff, or_false] at hc
      rcases hc with rfl | rfl | rfl | rfl | rfl
      · exact Nat.ne_of_lt (Heap.lt_size hZ)
      · exact Nat.ne_of_lt (Heap.lt_size pI)
      · exact Nat.ne_of_lt (Heap.lt_size pO)
      · exact Nat.ne_of_lt (Heap.lt_size g4)
      · exact Nat.ne_of_lt (Heap.lt_size g5)
    refine pyNext_zip_itemD AP (Draws.list (A := X.A.in1) (I.ok.hd hc) i1 a (fun q => na (by simp [q])) its.toArray) (Draws.list (A := X.A.in1) (I.ok.hd hc) i2 b (fun q => nb (by simp [q])) jts.toArray) hZ pI pO ⟨t1, p1.isList⟩ ⟨t2, p2.isList⟩
      (by have := (List.getElem?_eq_some_iff.mp hux).1; simpa using this) (by have := (List.getElem?_eq_some_iff.mp huy).1; simpa using this) fun h' tk xv yv px py z' pO' s1' s2' pT kk => ⟨_, rfl, ?_⟩
    have ex : ux = xv := Option.some.inj (hux.symm.trans (by simpa using px))
    have ey : uy = yv := Option.some.inj (huy.symm.trans (by simpa using py))
    subst ex ey
    refine wpAny_letOwnedTupleGo_zip (s := { s with heap := h', toks := tk }) z' fun h2 z2 sb => ?_
    have I1 : Inv X pins σ (upd H s.heap.objs.size (.tup [x, y])) { s with heap := s.heap.push { cls := .type "tuple", data := .seq #[ux, uy] }, toks := s.toks } :=
      I.laid (o := .tup [x, y]) (fun b ob q => Heap.get?_push_of_some _ q) (Nat.le_refl _) ⟨by rw [sizeLine_eq]; simp, [ux, uy], .cons rx (.cons ry .nil), IsTupN.new _ _⟩
    have I2 := I1.turnedL (h' := h2) (t' := tk) [z, TI, TO, i1, i2] (fun c o hc' q => ?_) (fun c hc' => (hf c hc').up (ltz c hc'))
    · refine ⟨.ref s.heap.objs.size, _, I2, rfl, ⟨_, x, y, fresh, rfl, rfl, fun ys' hy' => by rw [I.list_inj hy' ha]; exact hx, fun ys' hy' => by rw [I.list_inj hy' hb]; exact hy⟩,
        ⟨z2, (sb.2 TI AP.a1).trans (kk _ _ AP.a1 AP.a5 AP.a6 AP.a7 pI), ⟨_, _, (sb.2 TO AP.a2).trans pO'⟩, s1'.1.at fun o q => (sb.2 i1 AP.a3).trans q, s2'.1.at fun o q => (sb.2 i2 AP.a4).trans q⟩, fun c hc' => ?_⟩
      rw [upd_ne (ltz c hc')]; exact (hf c hc').1
    · have c1 : c ≠ z := fun q => hc' (by simp [q])
      have c2 : c ≠ TO := fun q => hc' (by simp [q])
      have c3 : c ≠ i1 := fun q => hc' (by simp [q])
      have c4 : c ≠ i2 := fun q => hc' (by simp [q])
      refine (sb.2 c c1).trans ?_
      by_cases hcs : c = s.heap.objs.size
      · subst hcs
        rw [Heap.get?_push_size _ rfl] at q
        cases q
        exact pT
      · rw [Heap.get?_push_ne _ _ _ hcs] at q
        exact kk c o c1 c2 c3 c4 q
  done := by
    intro X hP hw hK hc i pins s σ H E I hf st hg
    subst hP hw hK
    obtain ⟨hZ, pI, ⟨u, v, pO⟩, t1, t2⟩ := st
    obtain ⟨xs, ys, ha, hb, hend⟩ := hg
    obtain ⟨its, rv, p1, _⟩ := I.list ha
    obtain ⟨jts, rw', p2, _⟩ := I.list hb
    have AP := zap_of nd na nb
    have l1 := rv.length
    have l2 := rw'.length
    refine pyNext_zip_endD AP (Draws.list (A := X.A.in1) (I.ok.hd hc) i1 a (fun q => na (by simp [q])) its.toArray) (Draws.list (A := X.A.in1) (I.ok.hd hc) i2 b (fun q => nb (by simp [q])) jts.toArray) hZ pI pO ⟨t1, p1.isList⟩ ⟨t2, p2.isList⟩
      (by simp only [List.size_toArray]; omega) fun h' tk kk => ⟨rfl, I.turnedL (t' := tk) [z, TI, TO, i1, i2] (fun c o hc' q => ?_) hf⟩
    exact kk c o (fun q => hc' (by simp [q])) (fun q => hc' (by simp [q])) (fun q => hc' (by simp [q])) (fun q => hc' (by simp [q])) q
  self := fun A i s Q E st h => wpAny_pyIter_zip st.1 h
def iZipL (K : PySem.W.Frag) (ta : TA) : TI := fun σ H R => ta σ H fun vs H1 => ∃ a b xs ys, vs = [.ref a, .ref b] ∧ SqL K H1 a xs ∧ SqL K H1 b ys ∧ R (ItzL K a b) H1
theorem pi_zipL {X : Cx} {elts : List Expr} {x1} {tpos : Pos} {e1 e2 : Expr} {ta : TA} {p pos : Pos} (hg : Gl X "zip") (hm : X.mg "zip" = none) (ha : PA X [e1, e2] ta) (hs : starEach [e1, e2] X.env = [(false, eval e1 X.env), (false, eval e2 X.env)] := by rfl) (hs2 : starEach [e2] X.env = [(false, eval e2 X.env)] := by rfl) :
    PI X (.Tuple elts x1 tpos) (.Call (.Name "zip" p) [e1, e2] [] pos) (iZipL X.K ta) := by
  intro pins s σ H R I h
  refine Call_ (ld_blt I hg hm (show bootBuiltins "zip" = some (.type "zip") by decide +kernel) (PyProof.Rows.callWith_type1 (thn (ha pos pins s σ H _ I h) fun us s1 ⟨vs, H1, I1, r1, q1⟩ => ?_) (by rw [hs, hs2]) (by rw [hs2]; rfl)))
  obtain ⟨a, b, xs, ys, e, hqa, hqb, q⟩ := q1
  subst e
  cases r1 with
  | cons r rr =>
    cases rr with
    | cons r' rr =>
      cases rr
      cases r
      cases r'
      obtain ⟨its, rv, p1, _⟩ := I1.list hqa
      obtain ⟨jts, rw', p2, _⟩ := I1.list hqb
      refine call_zip_ll p1.isList p2.isList fun h' hZ pI pO t1 t2 kk => wpAny_pyIter_zip hZ ?_
      obtain ⟨oa, ga, _⟩ := id p1.isList
      obtain ⟨ob, gb, _⟩ := id p2.isList
      have la := Heap.lt_size ga
      have lb := Heap.lt_size gb
      have big : ∀ c ∈ [s1.heap.objs.size + 4, s1.heap.objs.size + 2, s1.heap.objs.size + 3, s1.heap.objs.size, s1.heap.objs.size + 1], s1.heap.objs.size ≤ c := by
        intro c hc
        simp only [List.mem_cons, List.mem_nil_iff, or_false] at hc
        rcases hc with rfl | rfl | rfl | rfl | rfl <;> first | exact Nat.le_add_right _ _ | exact Nat.le_refl _
      refine ⟨s1.heap.objs.size + 4, [s1.heap.objs.size + 4, s1.heap.objs.size + 2, s1.heap.objs.size + 3, s1.heap.objs.size, s1.heap.objs.size + 1], _, _, H1, rfl, I1.kept (t' := s1.toks) kk,
        turn_zipL a b _ _ _ _ _ ?_ (fun q => Nat.lt_irrefl _ (Nat.lt_of_lt_of_le la (big _ q))) (fun q => Nat.lt_irrefl _ (Nat.lt_of_lt_of_le lb (big _ q))), ⟨hZ, pI, ⟨_, _, pO⟩, t1, t2⟩, fun c hc => I1.fpOk (big c hc) (I1.hok.fresh (big c hc)), q⟩
      generalize s1.heap.objs.size = n
      show List.Nodup ([n + 4, n + 2, n + 3, n, n + 1] : List Nat)
      simp
section
variable {g : TG} {ti : TT} {te : TE} {Q : VK} {D : Addr} {σ : St} {H : Hp}
/-- a comprehension over zip of two tuples -/
theorem comp_zipL {K : PySem.W.Frag} {a b : Addr} {xs ys : List V} (Pv : Nat → St → List V → Hp → Prop) (h0 : Pv 0 σ [] (upd H D (.lst []))) (hl : ∀ i σ zs H, i ≤ xs.length → i ≤ ys.length → Pv i σ zs H → SqL K H a xs ∧ SqL K H b ys ∧ H D = some (.lst zs))
    (hs : ∀ i x y σ zs H T, xs[i]? = some x → ys[i]? = some y → Pv i σ zs H → H T = none → cturn g ti te D (.ref T) σ zs (upd H T (.tup [x, y])) (Pv (i + 1))) (hd : ∀ i σ zs H, i = min xs.length ys.length → Pv i σ zs H → Q (.ref D) H) :
    cgo (ItzL K a b) g ti te D σ H Q := by
  refine ⟨fun i m σ zs H => m = xs.length - i ∧ i ≤ xs.length ∧ i ≤ ys.length ∧ Pv i σ zs H, ⟨xs.length, by simp, Nat.zero_le _, Nat.zero_le _, h0⟩, ?_⟩
  rintro i m σ zs H ⟨rfl, hi, hj, p⟩
  obtain ⟨q1, q2, hD⟩ := hl i σ zs H hi hj p
  refine ⟨hD, ?_⟩
  by_cases hlt : i < xs.length ∧ i < ys.length
  · refine .inr ⟨⟨xs, ys, xs[i], ys[i], q1, q2, by simp [hlt.1], by simp [hlt.2]⟩, Pv (i + 1), fun σ' ys' H' p' => ⟨xs.length - (i + 1), by omega, rfl, hlt.1, hlt.2, p'⟩, fun x H' y => ?_⟩
    obtain ⟨T, x, y, hT, rfl, rfl, y1, y2⟩ := y
    exact hs i x y σ zs H T (y1 xs q1) (y2 ys q2) p hT
  · exact .inl ⟨⟨xs, ys, q1, q2, by omega⟩, hd i σ zs H (by omega) p⟩
end
end L2
set_option maxHeartbeats 1000000
namespace Wk
open PySem L2
/-- how many deeds have no greater moment -/
def cntF (ds : List Dd) (m : Int) : Nat := (ds.filter fun d => decide (d.mo ≤ m)).length
theorem cnt_le (ds : List Dd) (m : Int) : cntF ds m ≤ ds.length := List.length_filter_le _ _
theorem cnt_eq {ds : List Dd} {m m' : Int} (h : ∀ d ∈ ds, d.mo ≤ m ↔ d.mo ≤ m') : cntF ds m = cntF ds m' := by
  unfold cntF
  congr 1
  refine List.filter_congr fun d hd => ?_
  rw [Bool.eq_iff_iff, decide_eq_true_eq, decide_eq_true_eq]
  exact h d hd
/-- all moments at which a stretch begins -/
def lowS (ls : List Int) (d : Dd) : List Int := if ls.getLastD 0 < d.mo then ls ++ [d.mo] else ls
def lowsF (ds : List Dd) : List Int := ds.foldl lowS [0]
theorem lows_snoc (ds : List Dd) (d : Dd) : lowsF (ds ++ [d]) = lowS (lowsF ds) d := by unfold lowsF; rw [List.foldl_append]; rfl
theorem lastD_snoc (ls : List Int) (x : Int) : (ls ++ [x]).getLastD 0 = x := by simp
structure LowsOk (ds : List Dd) (ls : List Int) : Prop where
  ne : ls ≠ []
  up : ls.Pairwise (· < ·)
  hd : ls.head? = some 0
  all : ∀ d ∈ ds, d.mo ∈ ls
  top : ∀ d ∈ ds, d.mo ≤ ls.getLastD 0
  last : ∀ x ∈ ls, x ≤ ls.getLastD 0
  len : ls.length ≤ ds.length + 1
  src : ∀ x ∈ ls, x = 0 ∨ ∃ d ∈ ds, d.mo = x
  end' : ls.getLastD 0 = 0 ∨ ∃ d ∈ ds, d.mo = ls.getLastD 0
theorem lows_ok : ∀ (ds : List Dd), (∀ d ∈ ds, 0 ≤ d.mo) → ds.Pairwise (fun a b => a.mo ≤ b.mo) → ∀ n, n ≤ ds.length → LowsOk (ds.take n) (lowsF (ds.take n)) := by
  intro ds h0 up n
  induction n with
  | zero => intro _; exact ⟨by simp [lowsF], by simp [lowsF], rfl, by simp, by simp, by simp [lowsF], by simp [lowsF], by simp [lowsF], .inl rfl⟩
  | succ n ih =>
    intro hn
    have I := ih (by exact Nat.le_of_lt (by assumption))
    have hx : ds[n]? = some ds[n] := List.getElem?_eq_getElem (by assumption)
    have tk := take_snoc hx
    have dm : ds[n] ∈ ds := List.getElem_mem _
    have below : ∀ d ∈ ds.take n, d.mo ≤ (ds[n]).mo := fun d hd => by
      obtain ⟨i, hi, e⟩ := List.mem_iff_getElem.mp hd
      rw [List.length_take] at hi
      rw [List.getElem_take] at e
      rw [← e]
      exact List.pairwise_iff_getElem.mp up i n (by omega) (by assumption) (by omega)
    have d0 := h0 _ dm
    generalize ds[n] = d at tk dm below d0
    rw [tk, lows_snoc]
    unfold lowS
    have lst : ∀ x ∈ lowsF (ds.take n), x ≤ d.mo := fun x hx => by
      rcases I.src x hx with e | ⟨d', hd', e⟩
      · omega
      · rw [← e]; exact below d' hd'
    by_cases g : (lowsF (ds.take n)).getLastD 0 < d.mo
    · rw [if_pos g]
      refine ⟨by simp, ?_, ?_, ?_, ?_, ?_, ?_, ?_, ?_⟩
      · refine List.pairwise_append.mpr ⟨I.up, List.pairwise_singleton _ _, fun x hx y hy => ?_⟩
        rw [List.mem_singleton.mp hy]
        have := I.last x hx
        omega
      · rw [List.head?_append, I.hd]; rfl
      · intro d' hd'
        rcases List.mem_append.mp hd' with h | h
        · exact List.mem_append_left _ (I.all d' h)
        · rw [List.mem_singleton.mp h]; exact List.mem_append_right _ (List.mem_singleton.mpr rfl)
      · intro d' hd'
        rw [lastD_snoc]
        rcases List.mem_append.mp hd' with h | h
        · exact below d' h
        · rw [List.mem_singleton.mp h]; exact Int.le_refl _
      · intro x hx
        rw [lastD_snoc]
        rcases List.mem_append.mp hx with h | h
        · exact lst x h
        · rw [List.mem_singleton.mp h]; exact Int.le_refl _
      · rw [List.length_append, List.length_append]
        have := I.len
        show _ + 1 ≤ _ + 1 + 1
        exact Nat.succ_le_succ (by assumption)
      · intro x hx
        rcases List.mem_append.mp hx with h | h
        · exact (I.src x h).imp id fun ⟨d', h1, h2⟩ => ⟨d', List.mem_append_left _ h1, h2⟩
        · exact .inr ⟨d, List.mem_append_right _ (List.mem_singleton.mpr rfl), (List.mem_singleton.mp h).symm⟩
      · rw [lastD_snoc]
        exact .inr ⟨d, List.mem_append_right _ (List.mem_singleton.mpr rfl), rfl⟩
    · rw [if_neg g]
      have el : (lowsF (ds.take n)).getLastD 0 = d.mo := by
        rcases I.end' with e | ⟨d', hd', e⟩
        · omega
        · have := below d' hd'
          omega
      refine ⟨I.ne, I.up, I.hd, ?_, ?_, I.last, ?_, ?_, ?_⟩
      · intro d' hd'
        rcases List.mem_append.mp hd' with h | h
        · exact I.all d' h
        · rw [List.mem_singleton.mp h, ← el]
          have ne := I.ne
          rw [List.getLastD_eq_getLast?, List.getLast?_eq_some_getLast ne]
          exact List.getLast_mem ne
      · intro d' hd'
        rcases List.mem_append.mp hd' with h | h
        · exact I.top d' h
        · rw [List.mem_singleton.mp h, el]; exact Int.le_refl _
      · rw [List.length_append]
        have := I.len
        exact Nat.le_succ_of_le (by assumption)
      · intro x hx
        exact (I.src x hx).imp id fun ⟨d', h1, h2⟩ => ⟨d', List.mem_append_left _ h1, h2⟩
      · exact .inr ⟨d, List.mem_append_right _ (List.mem_singleton.mpr rfl), el.symm⟩
abbrev Sr := Int × Option Int × Nat
abbrev Pc := Int × Int × Nat
/-- each low with the next one -/
def strG (cnt : Int → Nat) : List Int → List Sr
  | [] => []
  | a :: l => (a, l.head?, cnt a) :: strG cnt l
theorem strG_len (cnt : Int → Nat) : ∀ L, (strG cnt L).length = L.length
  | [] => rfl
  | a :: l => by show _ + 1 = _ + 1; rw [strG_len cnt l]
theorem strG_get (cnt : Int → Nat) : ∀ (L : List Int) (i : Nat) (x : Int), L[i]? = some x → (strG cnt L)[i]? = some (x, L[i + 1]?, cnt x)
  | [], i, x, h => by simp at h
  | a :: l, 0, x, h => by
    cases h
    show some (a, l.head?, cnt a) = some (a, l[0]?, cnt a)
    rw [List.head?_eq_getElem?]
  | a :: l, i + 1, x, h => by
    have h : l[i]? = some x := h
    show (strG cnt l)[i]? = _
    rw [strG_get cnt l i x h]; rfl
def strF (ds : List Dd) : List Sr := strG (cntF ds) (lowsF ds)
/-- what of a stretch lies within -/
def clipF (low high : Int) (r : Sr) : Pc := (if r.1 > low then r.1 else low, match r.2.1 with | none => high | some h => (if high < h then high else h), r.2.2)
def pcsF (low high : Int) (L : List Sr) : List Pc := (L.map (clipF low high)).filter fun p => decide (p.1 < p.2.1)
def Tiles : Int → Int → List Pc → Prop
  | h, e, [] => h = e
  | h, e, p :: ps => p.1 = h ∧ h < p.2.1 ∧ p.2.1 ≤ e ∧ Tiles p.2.1 e ps
theorem pcs_none {cnt : Int → Nat} {low high : Int} : ∀ {L : List Int}, (∀ x ∈ L, high ≤ x) → low ≤ high → pcsF low high (strG cnt L) = []
  | [], _, _ => rfl
  | a :: l, h, g => by
    unfold pcsF
    have ha := h a (List.mem_cons_self ..)
    have t := pcs_none (cnt := cnt) (L := l) (fun x hx => h x (List.mem_cons_of_mem _ hx)) g
    unfold pcsF at t
    show List.filter _ (clipF low high (a, l.head?, cnt a) :: _) = []
    rw [List.filter_cons_of_neg, t]
    have : ¬ (clipF low high (a, l.head?, cnt a)).1 < (clipF low high (a, l.head?, cnt a)).2.1 := by
      unfold clipF
      dsimp only
      have e1 : (if a > low then a else low) ≥ high := by split <;> omega
      cases l.head? with
      | none => dsimp only; omega
      | some z => dsimp only; split <;> omega
    simpa using this
theorem pcs_up {cnt : Int → Nat} {low low' high : Int} : ∀ {L : List Int}, (∀ x ∈ L, low' ≤ x) → low ≤ low' → pcsF low high (strG cnt L) = pcsF low' high (strG cnt L)
  | [], _, _ => rfl
  | a :: l, h, g => by
    have ha := h a (List.mem_cons_self ..)
    have t := pcs_up (cnt := cnt) (high := high) (L := l) (fun x hx => h x (List.mem_cons_of_mem _ hx)) g
    unfold pcsF at t ⊢
    have e : clipF low high (a, l.head?, cnt a) = clipF low' high (a, l.head?, cnt a) := by
      unfold clipF
      dsimp only
      congr 1
      split <;> split <;> omega
    show List.filter _ (clipF low high (a, l.head?, cnt a) :: _) = List.filter _ (clipF low' high (a, l.head?, cnt a) :: _)
    rw [List.filter_cons, List.filter_cons, t, e]
theorem tiles {cnt : Int → Nat} {high : Int} : ∀ {L : List Int} {low : Int}, L ≠ [] → L.Pairwise (· < ·) → (∀ a, L.head? = some a → a ≤ low) → low ≤ high → Tiles low high (pcsF low high (strG cnt L))
  | [], _, h, _, _, _ => absurd rfl h
  | [a], low, _, _, ha, g => by
    have ha := ha a rfl
    unfold pcsF
    have e : clipF low high (a, none, cnt a) = (low, high, cnt a) := by
      unfold clipF
      dsimp only
      rw [if_neg (by omega)]
    show Tiles low high (List.filter _ [clipF low high (a, none, cnt a)])
    rw [e]
    by_cases h : low < high
    · rw [List.filter_cons_of_pos (by simpa using h)]
      exact ⟨rfl, h, Int.le_refl _, rfl⟩
    · rw [List.filter_cons_of_neg (by simpa using h)]
      show low = high
      omega
  | a :: b :: l, low, _, up, ha, g => by
    have ha := ha a rfl
    obtain ⟨u1, u2⟩ := List.pairwise_cons.mp up
    have ub := (List.pairwise_cons.mp u2).1
    have geb : ∀ x ∈ b :: l, b ≤ x := fun x hx => by
      rcases List.mem_cons.mp hx with rfl | h
      · exact Int.le_refl _
      · exact Int.le_of_lt (ub x h)
    have e : clipF low high (a, some b, cnt a) = (low, if high < b then high else b, cnt a) := by
      unfold clipF
      dsimp only
      rw [if_neg (by omega)]
    have split : pcsF low high (strG cnt (a :: b :: l)) = if low < (if high < b then high else b) then (low, (if high < b then high else b), cnt a) :: pcsF low high (strG cnt (b :: l)) else pcsF low high (strG cnt (b :: l)) := by
      have : pcsF low high (strG cnt (a :: b :: l)) = List.filter (fun p => decide (p.1 < p.2.1)) (clipF low high (a, some b, cnt a) :: (strG cnt (b :: l)).map (clipF low high)) := rfl
      rw [this, e, List.filter_cons]
      by_cases h : low < (if high < b then high else b)
      · rw [if_pos (by simpa using h), if_pos h]; rfl
      · rw [if_neg (by simpa using h), if_neg h]; rfl
    rw [split]
    by_cases hb : low < b
    · by_cases hh : high ≤ b
      · have em : (if high < b then high else b) = high := by
          by_cases h : high < b
          · rw [if_pos h]
          · rw [if_neg h]; omega
        rw [em]
        have t := pcs_none (cnt := cnt) (low := low) (high := high) (L := b :: l) (fun x hx => by have := geb x hx; omega) g
        rw [t]
        by_cases h : low < high
        · rw [if_pos h]; exact ⟨rfl, h, Int.le_refl _, rfl⟩
        · rw [if_neg h]; show low = high; omega
      · have em : (if high < b then high else b) = b := if_neg (by omega)
        have hbh : b ≤ high := by omega
        clear split e
        rw [em, if_pos hb]
        refine ⟨rfl, hb, hbh, ?_⟩
        show Tiles b high _
        rw [pcs_up (cnt := cnt) (low := low) (low' := b) geb (by omega)]
        exact tiles (by simp) u2 (fun a h => by cases h; exact Int.le_refl _) hbh
    · rw [if_neg (by split <;> omega)]
      exact tiles (by simp) u2 (fun a h => by cases h; exact Int.not_lt.mp (by assumption)) g
theorem str_gap {cnt : Int → Nat} : ∀ {L : List Int}, L.Pairwise (· < ·) → ∀ r ∈ strG cnt L, r.2.2 = cnt r.1 ∧ r.1 ∈ L ∧ ∀ x ∈ L, x ≤ r.1 ∨ ∃ b, r.2.1 = some b ∧ b ≤ x
  | [], _, r, hr => by cases hr
  | a :: l, up, r, hr => by
    obtain ⟨u1, u2⟩ := List.pairwise_cons.mp up
    rcases List.mem_cons.mp hr with rfl | h
    · refine ⟨rfl, List.mem_cons_self .., fun x hx => ?_⟩
      rcases List.mem_cons.mp hx with rfl | hx
      · exact .inl (Int.le_refl _)
      · cases l with
        | nil => cases hx
        | cons b l =>
          refine .inr ⟨b, rfl, ?_⟩
          rcases List.mem_cons.mp hx with rfl | h
          · exact Int.le_refl _
          · exact Int.le_of_lt ((List.pairwise_cons.mp u2).1 x h)
    · obtain ⟨g1, g2, g3⟩ := str_gap u2 r h
      refine ⟨g1, List.mem_cons_of_mem _ g2, fun x hx => ?_⟩
      rcases List.mem_cons.mp hx with rfl | hx
      · exact .inl (Int.le_of_lt (u1 _ g2))
      · exact g3 x hx
/-- a piece: no deed within it, and the count at its begin -/
theorem pcs_ok {N : Nat} {ds : List Dd} (hR : Right N ds) {low high : Int} {p : Pc} (hp : p ∈ pcsF low high (strF ds)) : p.1 < p.2.1 ∧ p.2.2 = cntF ds p.1 ∧ ∀ d ∈ ds, ¬ (p.1 < d.mo ∧ d.mo < p.2.1) := by
  have LO := lows_ok ds (fun d hd => (hR.mo d hd).1) hR.up ds.length (Nat.le_refl _)
  rw [List.take_length] at LO
  obtain ⟨hm, hlt⟩ := List.mem_filter.mp hp
  obtain ⟨r, hr, rfl⟩ := List.mem_map.mp hm
  have hlt : (clipF low high r).1 < (clipF low high r).2.1 := by simpa using hlt
  obtain ⟨g1, g2, g3⟩ := str_gap LO.up r hr
  have e1 : r.1 ≤ (clipF low high r).1 := by unfold clipF; dsimp only; split <;> omega
  have e2 : ∀ b, r.2.1 = some b → (clipF low high r).2.1 ≤ b := fun b hb => by
    unfold clipF
    rw [hb]
    dsimp only
    split <;> omega
  have key : ∀ d ∈ ds, d.mo ≤ r.1 ∨ (clipF low high r).2.1 ≤ d.mo := fun d hd => by
    rcases g3 _ (LO.all d hd) with h | ⟨b, hb, h⟩
    · exact .inl h
    · exact .inr (Int.le_trans (e2 b hb) h)
  refine ⟨hlt, ?_, fun d hd ⟨h1, h2⟩ => ?_⟩
  · show r.2.2 = _
    rw [g1]
    refine cnt_eq fun d hd => ⟨fun h => by omega, fun h => ?_⟩
    rcases key d hd with k | k
    · exact k
    · omega
  · rcases key d hd with k | k <;> omega
theorem tiles_of {N : Nat} {ds : List Dd} (hR : Right N ds) {low high : Int} (h0 : 0 ≤ low) (h : low ≤ high) : Tiles low high (pcsF low high (strF ds)) := by
  have LO := lows_ok ds (fun d hd => (hR.mo d hd).1) hR.up ds.length (Nat.le_refl _)
  rw [List.take_length] at LO
  exact tiles LO.ne LO.up (fun a ha => by rw [LO.hd] at ha; cases ha; exact h0) h
theorem strF_len {N : Nat} {ds : List Dd} (hR : Right N ds) : (strF ds).length ≤ ds.length + 1 := by
  have LO := lows_ok ds (fun d hd => (hR.mo d hd).1) hR.up ds.length (Nat.le_refl _)
  rw [List.take_length] at LO
  unfold strF
  rw [strG_len]; exact LO.len
theorem pcs_len {low high : Int} {L : List Sr} : (pcsF low high L).length ≤ L.length := by
  unfold pcsF
  exact Nat.le_trans (List.length_filter_le _ _) (by rw [List.length_map]; exact Nat.le_refl _)
end Wk
set_option maxHeartbeats 1000000
namespace L2
open PySem PySem.Spec PyProof.Rows
section
variable {X : Cx}
theorem num_at (ys : Array (Int × Tok)) {i : Nat} (h : i < ys.size) : ∃ t, (intItems ys)[i]? = some (.int (numAt ys i) t) ∧ (ys.toList.map (·.1))[i]? = some (numAt ys i) := by
  refine ⟨ys[i].2, ?_, ?_⟩
  · unfold intItems numAt
    simp [h]
  · unfold numAt
    simp [h]
theorem call_maxL (hc : X.calm = true) : CallR X (.builtin "max") (fun xs H Q => ∃ (p : Addr) (ns : List Int), xs = [.ref p] ∧ SqL X.K H p (ns.map V.int) ∧ ns ≠ [] ∧ ∀ m, m ∈ ns → (∀ n ∈ ns, n ≤ m) → Q (.int m) H) := by
  intro pins s σ H xs us Q I r h
  obtain ⟨p, ns, rfl, hq, hne, q⟩ := h
  obtain ⟨u, rfl, rx⟩ := vals1 r
  cases rx
  obtain ⟨its, rv, hl, hz⟩ := I.list hq
  have hi := intsAre_of rv
  obtain ⟨ys, e⟩ := hi.allInts.items
  have hl' := hl.isList
  rw [e] at hl'
  have e2 : ys.toList.map (·.1) = ns := by
    have q2 := nums_intItems ys
    rw [← e] at q2
    rw [← q2]
    exact hi.numsOf
  have sz : ys.size = ns.length := by rw [← e2]; simp
  have pos : 0 < ys.size := by rw [sz]; exact List.length_pos_iff.mpr hne
  refine max_intList (I.ok.hd hc) hl' pos fun v h' tk hv hk => ?_
  obtain ⟨b1, b2⟩ := argBest_gt (numAt ys) (ys.size - 1)
  obtain ⟨t, g1, g2⟩ := num_at ys (i := argBest (fun i j => decide (numAt ys i > numAt ys j)) (ys.size - 1)) (by omega)
  rw [g1] at hv
  cases hv
  rw [e2] at g2
  refine ⟨.int _, H, I.kept hk, ⟨t, rfl⟩, q _ (List.mem_of_getElem? g2) fun n hn => ?_⟩
  obtain ⟨j, hj, rfl⟩ := List.mem_iff_getElem.mp hn
  obtain ⟨_, _, g3⟩ := num_at ys (i := j) (by omega)
  rw [e2, List.getElem?_eq_getElem hj] at g3
  rw [Option.some.inj g3]
  exact b2 j (by omega)
theorem call_minL (hc : X.calm = true) : CallR X (.builtin "min") (fun xs H Q => ∃ (p : Addr) (ns : List Int), xs = [.ref p] ∧ SqL X.K H p (ns.map V.int) ∧ ns ≠ [] ∧ ∀ m, m ∈ ns → (∀ n ∈ ns, m ≤ n) → Q (.int m) H) := by
  intro pins s σ H xs us Q I r h
  obtain ⟨p, ns, rfl, hq, hne, q⟩ := h
  obtain ⟨u, rfl, rx⟩ := vals1 r
  cases rx
  obtain ⟨its, rv, hl, hz⟩ := I.list hq
  have hi := intsAre_of rv
  obtain ⟨ys, e⟩ := hi.allInts.items
  have hl' := hl.isList
  rw [e] at hl'
  have e2 : ys.toList.map (·.1) = ns := by
    have q2 := nums_intItems ys
    rw [← e] at q2
    rw [← q2]
    exact hi.numsOf
  have sz : ys.size = ns.length := by rw [← e2]; simp
  have pos : 0 < ys.size := by rw [sz]; exact List.length_pos_iff.mpr hne
  refine min_intList (I.ok.hd hc) hl' pos fun v h' tk hv hk => ?_
  obtain ⟨b1, b2⟩ := argBest_lt (numAt ys) (ys.size - 1)
  obtain ⟨t, g1, g2⟩ := num_at ys (i := argBest (fun i j => decide (numAt ys i < numAt ys j)) (ys.size - 1)) (by omega)
  rw [g1] at hv
  cases hv
  rw [e2] at g2
  refine ⟨.int _, H, I.kept hk, ⟨t, rfl⟩, q _ (List.mem_of_getElem? g2) fun n hn => ?_⟩
  obtain ⟨j, hj, rfl⟩ := List.mem_iff_getElem.mp hn
  obtain ⟨_, _, g3⟩ := num_at ys (i := j) (by omega)
  rw [e2, List.getElem?_eq_getElem hj] at g3
  rw [Option.some.inj g3]
  exact b2 j (by omega)
end
end L2
set_option maxHeartbeats 1000000
namespace L2
open PySem PySem.Spec PyProof.Rows
/-- flat things whose equality is that of what they are (no truth beside a number) -/
def Flt : V → V → Bool
  | .non, .non => true
  | .non, .bl _ => true
  | .non, .int _ => true
  | .non, .str _ => true
  | .bl _, .non => true
  | .bl _, .bl _ => true
  | .bl _, .str _ => true
  | .int _, .non => true
  | .int _, .int _ => true
  | .int _, .str _ => true
  | .str _, .non => true
  | .str _, .bl _ => true
  | .str _, .int _ => true
  | .str _, .str _ => true
  | _, _ => false
/-- what == tells of two deep things: tuples, lists, flat ones -/
def Eqs (K : PySem.W.Frag) (H : Hp) : Nat → V → V → Bool → Prop
  | 0, x, y, b => Flt x y = true ∧ b = decide (x = y)
  | n + 1, x, y, b => (Flt x y = true ∧ b = decide (x = y)) ∨
      (∃ (a c : Addr) (xs ys : List V) (e : Nat → Bool), x = .ref a ∧ y = .ref c ∧ ((SqT K H a xs ∧ SqT K H c ys) ∨ (SqL K H a xs ∧ SqL K H c ys)) ∧ (∀ (j : Nat) p q, xs[j]? = some p → ys[j]? = some q → Eqs K H n p q (e j)) ∧ b = ((List.range (min xs.length ys.length)).all e && xs.length == ys.length)) ∨
      (∃ (a : Addr) (xs : List V), x = .ref a ∧ y = .non ∧ SqT K H a xs ∧ b = false) ∨
      (∃ (a : Addr) (xs : List V), x = .non ∧ y = .ref a ∧ SqT K H a xs ∧ b = false)
theorem Eqs.flat {K : PySem.W.Frag} {H : Hp} {n : Nat} {x y : V} (h : Flt x y = true) : Eqs K H n x y (decide (x = y)) := by
  cases n with
  | zero => exact ⟨h, rfl⟩
  | succ n => exact .inl ⟨h, rfl⟩
theorem all_dec {α : Type} [DecidableEq α] {xs ys : List V} {ds es : List α} (l1 : ds.length = xs.length) (l2 : es.length = ys.length) : ((List.range (min xs.length ys.length)).all (fun j => decide (ds[j]? = es[j]?)) && xs.length == ys.length) = decide (ds = es) := by
  by_cases h : xs.length = ys.length
  · rw [Bool.eq_iff_iff, Bool.and_eq_true, List.all_eq_true, decide_eq_true_eq]
    constructor
    · rintro ⟨ha, _⟩
      refine List.ext_getElem? fun i => ?_
      by_cases hi : i < xs.length
      · exact of_decide_eq_true (ha i (List.mem_range.mpr (by omega)))
      · rw [List.getElem?_eq_none (by omega), List.getElem?_eq_none (by omega)]
    · rintro rfl
      exact ⟨fun j _ => decide_eq_true rfl, by simpa using h⟩
  · have : (xs.length == ys.length) = false := by simpa using h
    rw [this, Bool.and_false, decide_eq_false fun e => h (by rw [← l1, ← l2, e])]
theorem Eqs.seq {K : PySem.W.Frag} {H : Hp} {n : Nat} {a c : Addr} {xs ys : List V} {α : Type} [DecidableEq α] {ds es : List α} (hh : (SqT K H a xs ∧ SqT K H c ys) ∨ (SqL K H a xs ∧ SqL K H c ys)) (l1 : ds.length = xs.length) (l2 : es.length = ys.length)
    (h : ∀ (j : Nat) p q d e, xs[j]? = some p → ys[j]? = some q → ds[j]? = some d → es[j]? = some e → Eqs K H n p q (decide (d = e))) : Eqs K H (n + 1) (.ref a) (.ref c) (decide (ds = es)) := by
  refine .inr (.inl ⟨a, c, xs, ys, fun j => decide (ds[j]? = es[j]?), rfl, rfl, hh, fun j p q hp hq => ?_, (all_dec l1 l2).symm⟩)
  have j1 : j < ds.length := by rw [l1]; exact (List.getElem?_eq_some_iff.mp hp).1
  have j2 : j < es.length := by rw [l2]; exact (List.getElem?_eq_some_iff.mp hq).1
  have := h j p q ds[j] es[j] hp hq (List.getElem?_eq_getElem j1) (List.getElem?_eq_getElem j2)
  show Eqs K H n p q (decide (ds[j]? = es[j]?))
  rw [List.getElem?_eq_getElem j1, List.getElem?_eq_getElem j2]
  have e : decide (some ds[j] = some es[j]) = decide (ds[j] = es[j]) := by
    rw [Bool.eq_iff_iff, decide_eq_true_eq, decide_eq_true_eq]
    exact ⟨fun h => Option.some.inj h, fun h => by rw [h]⟩
  rw [e]; exact this
theorem Eqs.flats {K : PySem.W.Frag} {H : Hp} {n : Nat} {a c : Addr} {xs ys : List V} (h1 : SqT K H a xs) (h2 : SqT K H c ys) (h : ∀ x ∈ xs, ∀ y ∈ ys, Flt x y = true) : Eqs K H (n + 1) (.ref a) (.ref c) (decide (xs = ys)) :=
  Eqs.seq (.inl ⟨h1, h2⟩) rfl rfl fun j p q d e hp hq hd he => by
    rw [hp] at hd
    rw [hq] at he
    cases hd
    cases he
    exact Eqs.flat (h _ (List.mem_of_getElem? hp) _ (List.mem_of_getElem? hq))
theorem Eqs.pair {K : PySem.W.Frag} {H : Hp} {n : Nat} {a c : Addr} {x1 x2 y1 y2 : V} {b1 b2 : Bool} (h1 : SqT K H a [x1, x2]) (h2 : SqT K H c [y1, y2]) (e1 : Eqs K H n x1 y1 b1) (e2 : Eqs K H n x2 y2 b2) : Eqs K H (n + 1) (.ref a) (.ref c) (b1 && b2) := by
  refine .inr (.inl ⟨a, c, _, _, fun j => if j = 0 then b1 else b2, rfl, rfl, .inl ⟨h1, h2⟩, fun j p q hp hq => ?_, ?_⟩)
  · match j, hp, hq with
    | 0, hp, hq => cases hp; cases hq; exact e1
    | 1, hp, hq => cases hp; cases hq; exact e2
    | j + 2, hp, _ => simp at hp
  · show (b1 && b2) = ((List.range 2).all (fun j => if j = 0 then b1 else b2) && (2 == 2))
    simp [List.range_succ, List.all_append]
theorem Eqs.three {K : PySem.W.Frag} {H : Hp} {n : Nat} {a c : Addr} {x1 x2 x3 y1 y2 y3 : V} {b1 b2 b3 : Bool} (h1 : SqT K H a [x1, x2, x3]) (h2 : SqT K H c [y1, y2, y3]) (e1 : Eqs K H n x1 y1 b1) (e2 : Eqs K H n x2 y2 b2) (e3 : Eqs K H n x3 y3 b3) : Eqs K H (n + 1) (.ref a) (.ref c) (b1 && b2 && b3) := by
  refine .inr (.inl ⟨a, c, _, _, fun j => if j = 0 then b1 else if j = 1 then b2 else b3, rfl, rfl, .inl ⟨h1, h2⟩, fun j p q hp hq => ?_, ?_⟩)
  · match j, hp, hq with
    | 0, hp, hq => cases hp; cases hq; exact e1
    | 1, hp, hq => cases hp; cases hq; exact e2
    | 2, hp, hq => cases hp; cases hq; exact e3
    | j + 3, hp, _ => simp at hp
  · show (b1 && b2 && b3) = ((List.range 3).all (fun j => if j = 0 then b1 else if j = 1 then b2 else b3) && (3 == 3))
    simp [List.range_succ, List.all_append, Bool.and_assoc]
section
variable {X : Cx} {pins : List (Addr × Obj)} {σ : St} {H : Hp} {s : Shared}
theorem eqs_refl (I : Inv X pins σ H s) : ∀ (n : Nat) {x : V} {b : Bool}, Eqs X.K H n x x b → b = true
  | 0, x, b, ⟨_, e⟩ => by rw [e, decide_eq_true rfl]
  | n + 1, x, b, h => by
    rcases h with ⟨_, e⟩ | ⟨a, c, xs, ys, e, e1, e2, hh, hj, eb⟩ | ⟨a, xs, e1, e2, _⟩ | ⟨a, xs, e1, e2, _⟩
    · rw [e, decide_eq_true rfl]
    · rw [e1] at e2
      injection e2 with e2
      subst e2
      have ex : xs = ys := by
        rcases hh with ⟨h1, h2⟩ | ⟨h1, h2⟩
        · exact I.tuple_inj h1 h2
        · exact I.list_inj h1 h2
      subst ex
      rw [eb, Bool.and_eq_true]
      refine ⟨List.all_eq_true.mpr fun j hj' => ?_, by simp⟩
      have hj' := List.mem_range.mp hj'
      have hjx : j < xs.length := by omega
      exact eqs_refl I n (hj j _ _ (List.getElem?_eq_getElem hjx) (List.getElem?_eq_getElem hjx))
    · rw [e1] at e2; cases e2
    · rw [e1] at e2; cases e2
theorem flt_at {x y : V} {v u : Value} (h : Flt x y = true) (rx : RelV x v) (ry : RelV y u) (A : Around) : SeqAt.EqAt A s v u (decide (x = y)) := by
  have sw : ∀ {b c : Bool}, SeqAt.EqAt A s v u b → b = c → SeqAt.EqAt A s v u c := fun h e => e ▸ h
  cases x <;> cases y <;> simp only [Flt, Bool.false_eq_true] at h <;> simp only [RelV] at rx ry
  · subst rx; subst ry; exact SeqAt.EqAt.same _
  · subst rx; subst ry; exact sw (SeqAt.EqAt.none_bool _) (by simp)
  · obtain ⟨t, rfl⟩ := ry; subst rx; exact sw (SeqAt.EqAt.none_int _ _) (by simp)
  · obtain ⟨t, rfl⟩ := ry; subst rx; exact sw (SeqAt.EqAt.none_str _ _) (by simp)
  · subst rx; subst ry; exact sw (SeqAt.EqAt.bool_none _) (by simp)
  · subst rx; subst ry; exact sw (SeqAt.EqAt.bool_bool _ _) (by rw [Bool.eq_iff_iff]; simp)
  · obtain ⟨t, rfl⟩ := ry; subst rx; exact sw (SeqAt.EqAt.bool_str _ _ _) (by simp)
  · obtain ⟨t, rfl⟩ := rx; subst ry; exact sw (SeqAt.EqAt.int_none _ _) (by simp)
  · obtain ⟨t, rfl⟩ := rx; obtain ⟨t', rfl⟩ := ry; exact sw (SeqAt.EqAt.int_int _ _ _ _) (by rw [Bool.eq_iff_iff]; simp)
  · obtain ⟨t, rfl⟩ := rx; obtain ⟨t', rfl⟩ := ry; exact sw (SeqAt.EqAt.int_str _ _ _ _) (by simp)
  · obtain ⟨t, rfl⟩ := rx; subst ry; exact sw (SeqAt.EqAt.str_none _ _) (by simp)
  · obtain ⟨t, rfl⟩ := rx; subst ry; exact sw (SeqAt.EqAt.str_bool _ _ _) (by simp)
  · obtain ⟨t, rfl⟩ := rx; obtain ⟨t', rfl⟩ := ry; exact sw (SeqAt.EqAt.str_int _ _ _ _) (by simp)
  · obtain ⟨t, rfl⟩ := rx; obtain ⟨t', rfl⟩ := ry; exact sw (SeqAt.EqAt.str_str _ _ _ _) (by rw [Bool.eq_iff_iff]; simp)
theorem val_at {xs : List V} {its : List Value} (r : Vals xs its) {j : Nat} (h : j < its.toArray.size) : ∃ x, xs[j]? = some x ∧ RelV x its.toArray[j] := by
  have l := r.length
  have hj : j < xs.length := by simpa [l] using h
  obtain ⟨v, e, rv⟩ := r.get (i := j) (x := xs[j]) (by simp [hj])
  have w1 : its.toArray[j] = v := by
    have := (List.getElem?_eq_some_iff.mp e).2
    simpa using this
  exact ⟨xs[j], by simp [hj], by rw [w1]; exact rv⟩
theorem in1_units (A : Around) : A.in1.units ≤ A.units + 1 := by first | exact Nat.le_refl _ | exact Nat.le_succ _
/-- == of deep things as the model tells it -/
theorem eqs_at (I : Inv X pins σ H s) : ∀ (n : Nat) {x y : V} {b : Bool} {v u : Value} {A : Around}, A.units + n < cLine → Eqs X.K H n x y b → RelV x v → RelV y u → SeqAt.EqAt A s v u b
  | 0, x, y, b, v, u, A, _, ⟨h, e⟩, rx, ry => by rw [e]; exact flt_at h rx ry A
  | n + 1, x, y, b, v, u, A, hu, h, rx, ry => by
    rcases id h with ⟨h, e⟩ | ⟨a, c, xs, ys, e, rfl, rfl, hh, hj, eb⟩ | ⟨a, xs, rfl, rfl, h1, e⟩ | ⟨a, xs, rfl, rfl, h1, e⟩
    · rw [e]; exact flt_at h rx ry A
    · cases rx
      cases ry
      by_cases hne : a = c
      · subst hne
        rw [eqs_refl I (n + 1) h]
        exact SeqAt.EqAt.same _
      refine SeqAt.EqAt.of_refs hne ?_
      have iu := in1_units A
      rcases hh with ⟨h1, h2⟩ | ⟨h1, h2⟩
      · obtain ⟨its, r1, p1, _⟩ := I.tuple h1
        obtain ⟨its2, r2, p2, _⟩ := I.tuple h2
        have := SeqAt.RcAt.tuples (A := A) (e := e) p1 p2 (by omega) fun j j1 j2 => ?_
        · rw [List.size_toArray, List.size_toArray, ← r1.length, ← r2.length] at this
          rw [eb]; exact this
        · obtain ⟨p, ep, rp⟩ := val_at r1 j1
          obtain ⟨q, eq, rq⟩ := val_at r2 j2
          exact eqs_at I n (by omega) (hj j p q ep eq) rp rq
      · obtain ⟨its, r1, p1, _⟩ := I.list h1
        obtain ⟨its2, r2, p2, _⟩ := I.list h2
        have m1 := r1.length
        have m2 := r2.length
        by_cases hl : xs.length = ys.length
        · have := SeqAt.RcAt.lists (A := A) (e := e) p1.isList p2.isList (by rw [List.size_toArray, List.size_toArray]; omega) (by omega) fun j j1 j2 => ?_
          · rw [List.size_toArray, ← m1] at this
            rw [eb, hl, Nat.min_self, ← hl]
            simpa using this
          · obtain ⟨p, ep, rp⟩ := val_at r1 j1
            obtain ⟨q, eq, rq⟩ := val_at r2 j2
            exact eqs_at I n (by omega) (hj j p q ep eq) rp rq
        · have := SeqAt.RcAt.lists_lengths (A := A) p1.isList p2.isList (by rw [List.size_toArray, List.size_toArray]; simp; omega) (by omega)
          have eb' : b = false := by rw [eb]; simp [hl]
          rw [eb']; exact this
    · cases rx
      cases ry
      obtain ⟨its, r1, p1, _⟩ := I.tuple h1
      rw [e]; exact SeqAt.EqAt.tuple_none p1 (by omega)
    · cases rx
      cases ry
      obtain ⟨its, r1, p1, _⟩ := I.tuple h1
      rw [e]; exact SeqAt.EqAt.none_tuple p1 (by omega)
end
section
variable {X : Cx}
def rNes (K : PySem.W.Frag) : V → V → Hp → VK → Prop := fun x y H Q => ∃ (n : Nat) (b : Bool) (a c : Addr), x = .ref a ∧ y = .ref c ∧ n ≤ 30 ∧ Eqs K H (n + 1) x y b ∧ Q (.bl (!b)) H
theorem op_nes (hu : X.A.units + 64 < cLine) : OpR X (compareOp .NotEq) (rNes X.K) := by
  intro pins s σ H x y v u Q I rx ry h
  obtain ⟨n, b, a, c, rfl, rfl, hn, h, q⟩ := h
  cases rx
  cases ry
  have iu := in1_units X.A
  rcases h with ⟨h, _⟩ | ⟨a', c', xs, ys, e, e1, e2, hh, hj, eb⟩ | ⟨_, _, _, e2, _⟩ | ⟨_, _, e1, _⟩
  · cases h
  · cases e1
    cases e2
    rcases hh with ⟨h1, h2⟩ | ⟨h1, h2⟩
    · obtain ⟨its, r1, p1, _⟩ := I.tuple h1
      obtain ⟨its2, r2, p2, _⟩ := I.tuple h2
      refine (SeqAt.RcNeAt.tuples (A := X.A) (e := e) p1 p2 (by omega) fun j j1 j2 => ?_) X.prog X.w X.xe _ ⟨.bl _, H, I, rfl, ?_⟩
      · obtain ⟨p, ep, rp⟩ := val_at r1 j1
        obtain ⟨q, eq, rq⟩ := val_at r2 j2
        exact eqs_at I n (by omega) (hj j p q ep eq) rp rq
      · rw [List.size_toArray, List.size_toArray, ← r1.length, ← r2.length, ← eb]
        exact q
    · obtain ⟨its, r1, p1, _⟩ := I.list h1
      obtain ⟨its2, r2, p2, _⟩ := I.list h2
      have m1 := r1.length
      have m2 := r2.length
      by_cases hl : xs.length = ys.length
      · refine (SeqAt.RcNeAt.lists (A := X.A) (e := e) p1.isList p2.isList (by rw [List.size_toArray, List.size_toArray]; omega) (by omega) fun j j1 j2 => ?_) X.prog X.w X.xe _ ⟨.bl _, H, I, rfl, ?_⟩
        · obtain ⟨p, ep, rp⟩ := val_at r1 j1
          obtain ⟨q, eq, rq⟩ := val_at r2 j2
          exact eqs_at I n (by omega) (hj j p q ep eq) rp rq
        · have : b = (List.range its.toArray.size).all e := by
            rw [eb, hl, Nat.min_self, ← hl, List.size_toArray, ← m1]
            simp
          rw [← this]; exact q
      · refine (SeqAt.RcNeAt.lists_lengths (A := X.A) p1.isList p2.isList (by rw [List.size_toArray, List.size_toArray]; simp; omega) (by omega)) X.prog X.w X.xe _ ⟨.bl _, H, I, rfl, ?_⟩
        have eb' : b = false := by rw [eb]; simp [hl]
        rw [eb'] at q; exact q
  · cases e2
  · cases e1
end
end L2
set_option maxHeartbeats 1000000
namespace Srt
open PySem PySem.W PyProof.Rows L2
end Srt
set_option maxHeartbeats 1000000
namespace StT
open PySem
/-- places that rise -/
def Up (xs : Array Nat) : Prop := xs.toList.Pairwise (· < ·)
theorem Up.lt {xs : Array Nat} (h : Up xs) {i k a b : Nat} (ik : i < k) (ha : xs[i]? = some a) (hb : xs[k]? = some b) : a < b := by
  rw [← Array.getElem?_toList] at ha hb
  obtain ⟨h1, e1⟩ := List.getElem?_eq_some_iff.mp ha
  obtain ⟨h2, e2⟩ := List.getElem?_eq_some_iff.mp hb
  rw [← e1, ← e2]
  exact List.pairwise_iff_getElem.mp h i k h1 h2 ik
theorem go_ok {xs : Array Nat} {j : Nat} (h : Up xs) : ∀ (fuel lo hi : Nat), lo ≤ hi → hi ≤ xs.size → hi - lo ≤ fuel → (∀ i a, i < lo → xs[i]? = some a → a < j) → (∀ i a, hi ≤ i → xs[i]? = some a → j ≤ a) →
    SetTable.below.go xs j fuel lo hi ≤ xs.size ∧ (∀ i a, i < SetTable.below.go xs j fuel lo hi → xs[i]? = some a → a < j) ∧ ∀ i a, SetTable.below.go xs j fuel lo hi ≤ i → xs[i]? = some a → j ≤ a
  | 0, lo, hi, h1, h2, h3, h4, h5 => by
    have : lo = hi := by omega
    subst this
    exact ⟨h2, h4, h5⟩
  | fuel + 1, lo, hi, h1, h2, h3, h4, h5 => by
    unfold SetTable.below.go
    by_cases c : lo < hi
    · rw [if_pos c]
      have hm : (lo + hi) / 2 < xs.size := by omega
      have hg : xs[(lo + hi) / 2]? = some (xs.getD ((lo + hi) / 2) j) := by
        rw [Array.getD_eq_getD_getElem?, Array.getElem?_eq_getElem hm]; rfl
      dsimp only
      by_cases d : xs.getD ((lo + hi) / 2) j < j
      · rw [if_pos d]
        refine go_ok h fuel _ _ (by omega) h2 (by omega) (fun i a hi' ha => ?_) h5
        rcases Nat.lt_or_eq_of_le (show i ≤ (lo + hi) / 2 by omega) with z | z
        · exact Nat.lt_trans (h.lt z ha hg) d
        · rw [z, hg] at ha; cases ha; exact d
      · rw [if_neg d]
        refine go_ok h fuel _ _ (by omega) (by exact Nat.le_of_lt (by assumption)) (by omega) h4 (fun i a hi' ha => ?_)
        rcases Nat.lt_or_eq_of_le hi' with z | z
        · have := h.lt z hg ha; omega
        · rw [← z, hg] at ha; cases ha; exact Nat.not_lt.mp (by assumption)
    · rw [if_neg c]
      have : lo = hi := by omega
      subst this
      exact ⟨h2, h4, h5⟩
theorem below_ok {xs : Array Nat} (h : Up xs) (j : Nat) : SetTable.below xs j ≤ xs.size ∧ (∀ i a, i < SetTable.below xs j → xs[i]? = some a → a < j) ∧ ∀ i a, SetTable.below xs j ≤ i → xs[i]? = some a → j ≤ a :=
  go_ok h xs.size 0 xs.size (Nat.zero_le _) (Nat.le_refl _) (by exact Nat.le_refl _) (fun i a hi => absurd hi (by omega)) fun i a hi ha => by
    have := (Array.getElem?_eq_some_iff.mp ha).1
    omega
theorem insert_list {α : Type} (xs : Array α) (p : Nat) (x : α) (hp : p ≤ xs.size) : (SetTable.insertAt xs p x).toList = xs.toList.take p ++ [x] ++ xs.toList.drop p := by
  unfold SetTable.insertAt
  rw [Array.toList_append, Array.toList_push]
  congr 1
  · congr 1
    rw [Array.toList_extract]; simp
  · rw [Array.toList_extract]
    simp only [List.extract_eq_drop_take]
    exact List.take_of_length_le (by rw [List.length_drop, Array.length_toList]; exact Nat.le_refl _)
theorem mem_of_idx {xs : Array Nat} {j : Nat} (h : Up xs) (hj : j ∈ xs.toList) : xs[SetTable.below xs j]? = some j := by
  obtain ⟨i, hi⟩ := List.getElem?_of_mem hj
  rw [Array.getElem?_toList] at hi
  obtain ⟨b1, b2, b3⟩ := below_ok h j
  have h1 : SetTable.below xs j ≤ i := by
    rcases Nat.lt_or_ge i (SetTable.below xs j) with z | z
    · exact absurd (b2 i j z hi) (Nat.lt_irrefl _)
    · exact z
  have hl : SetTable.below xs j < xs.size := Nat.lt_of_le_of_lt h1 (Array.getElem?_eq_some_iff.mp hi).1
  have hb := Array.getElem?_eq_getElem hl
  have h2 := b3 _ _ (Nat.le_refl _) hb
  rcases Nat.lt_or_eq_of_le h1 with z | z
  · have := h.lt z hb hi; omega
  · rw [z]; exact hi
theorem up_insert {xs : Array Nat} {j : Nat} (h : Up xs) (hj : j ∉ xs.toList) : Up (SetTable.insertAt xs (SetTable.below xs j) j) := by
  obtain ⟨b1, b2, b3⟩ := below_ok h j
  unfold Up
  rw [insert_list xs _ j b1]
  have lo : ∀ a ∈ xs.toList.take (SetTable.below xs j), a < j := fun a ha => by
    obtain ⟨i, hi⟩ := List.getElem?_of_mem ha
    rw [List.getElem?_take] at hi
    split at hi
    · rename_i z
      rw [Array.getElem?_toList] at hi
      exact b2 i a z hi
    · cases hi
  have hi : ∀ a ∈ xs.toList.drop (SetTable.below xs j), j < a := fun a ha => by
    have hm : a ∈ xs.toList := List.mem_of_mem_drop ha
    obtain ⟨i, hi⟩ := List.getElem?_of_mem ha
    rw [List.getElem?_drop, Array.getElem?_toList] at hi
    have := b3 _ a (Nat.le_add_right _ _) hi
    rcases Nat.lt_or_eq_of_le this with z | z
    · exact z
    · exact absurd (z ▸ hm) hj
  refine List.pairwise_append.mpr ⟨List.pairwise_append.mpr ⟨List.Pairwise.sublist (List.take_sublist ..) h, List.pairwise_singleton .., fun a ha b hb => ?_⟩, List.Pairwise.sublist (List.drop_sublist ..) h, fun a ha b hb => ?_⟩
  · rw [List.mem_singleton.mp hb]; exact lo a ha
  · rcases List.mem_append.mp ha with z | z
    · exact Nat.lt_trans (lo a z) (hi b hb)
    · rw [List.mem_singleton.mp z]; exact hi b hb
/-- a table laid by additions alone -/
structure TOk (t : SetTable) (b : Bool) : Prop where
  up : Up t.place
  nod : t.dummies = #[]
  led : t.led = b
theorem TOk.fresh (b : Bool) : TOk (SetTable.fresh 0 0 b) b := ⟨List.Pairwise.nil, rfl, rfl⟩
theorem TOk.plain {t : SetTable} {b p : Bool} (h : TOk t b) : TOk { t with plain := p } b := ⟨h.up, h.nod, h.led⟩
theorem TOk.standIn {t : SetTable} {b : Bool} (h : TOk t b) (n : Nat) : TOk (t.standIn n) b := by
  refine ⟨?_, rfl, h.led⟩
  show Up (Array.range n)
  unfold Up
  rw [Array.toList_range]
  exact List.pairwise_lt_range
theorem has_nil (j : Nat) : SetTable.has #[] j = false := rfl
theorem slot_cases {t : SetTable} {b : Bool} (h : TOk t b) (j : Nat) : (t.slot j = .empty ∧ j ∉ t.place.toList) ∨ ∃ i, t.slot j = .live i := by
  unfold SetTable.slot
  dsimp only
  by_cases c : (t.place[SetTable.below t.place j]? == some j) = true
  · rw [if_pos c]; exact .inr ⟨_, rfl⟩
  · rw [if_neg c, h.nod, has_nil]
    refine .inl ⟨rfl, fun hm => c ?_⟩
    rw [mem_of_idx h.up hm]; simp
theorem advance_dummy (t : SetTable) (p : SetTable.Probe) : (t.advance p).dummy = p.dummy := by
  unfold SetTable.advance
  split
  · rfl
  · rfl
theorem probe_free {t : SetTable} {b : Bool} (h : TOk t b) {hashAt : Nat → Int} {hh : Int} {j : Nat} {d : Option Nat} : ∀ (fuel : Nat) (p : SetTable.Probe), p.dummy = none → SetTable.probe.go t hashAt hh fuel p = some (.empty j d) → d = none ∧ j ∉ t.place.toList
  | 0, p, _, e => by simp [SetTable.probe.go] at e
  | fuel + 1, p, hp, e => by
    unfold SetTable.probe.go at e
    rcases slot_cases h p.j with ⟨s, hn⟩ | ⟨i, s⟩
    · rw [s] at e
      simp only [Option.some.injEq, SetTable.Met.empty.injEq] at e
      exact ⟨by rw [← e.2, hp], by rw [← e.1]; exact hn⟩
    · rw [s] at e
      dsimp only at e
      split at e
      · cases e
      · exact probe_free h fuel _ (by rw [advance_dummy]; exact hp) e
theorem free_ok {t : SetTable} {b : Bool} (h : TOk t b) {hh : Int} {s : Nat} {wd : Bool} (e : t.freeSlot hh = some (s, wd)) : s ∉ t.place.toList := by
  unfold SetTable.freeSlot at e
  split at e
  · rename_i j d q
    obtain ⟨rfl, hn⟩ := probe_free h _ _ rfl q
    simp only [Option.getD_none, Option.some.injEq, Prod.mk.injEq] at e
    rw [← e.1]; exact hn
  · cases e
theorem TOk.or {t : SetTable} {b : Bool} (h : TOk t b) (n : Nat) : TOk (t.orStandIn n) b := by
  unfold SetTable.orStandIn
  split
  · exact h
  · exact h.standIn n
theorem layNew_ok {t : SetTable} {b : Bool} (h : TOk t b) (es : Array (Int × Value)) (hh : Int) (x : Value) : TOk (layNew t es hh x).2.1 b := by
  unfold layNew
  split
  · rename_i s wd e
    refine TOk.or (t := (t.put s).1) ⟨up_insert h.up (free_ok h e), ?_, h.led⟩ _
    show (if SetTable.has t.dummies s then _ else t.dummies) = #[]
    rw [h.nod, has_nil]; rfl
  · exact h.standIn _
theorem laid_up {mask : Nat} {owner : Array (Option Nat)} : Up ((((List.range (mask + 1)).filterMap fun j => (owner.getD j none).map (j, ·)).map (·.1)).toArray) := by
  unfold Up
  rw [List.toList_toArray]
  have : (((List.range (mask + 1)).filterMap fun j => (owner.getD j none).map (j, ·)).map (·.1)).Sublist (List.range (mask + 1)) := by
    generalize List.range (mask + 1) = l
    induction l with
    | nil => exact List.Sublist.refl _
    | cons a l ih =>
      rw [List.filterMap_cons]
      cases owner.getD a none with
      | none => exact ih.cons a
      | some k => exact ih.cons₂ a
  exact List.Pairwise.sublist this List.pairwise_lt_range
theorem relay_ok {t : SetTable} {b : Bool} (h : TOk t b) (es : Array (Int × Value)) (wanted : Nat) : TOk (relayAll t es wanted).2.1 b := by
  unfold relayAll
  split
  · rename_i t' order e
    have ht : TOk t' b := by
      unfold SetTable.relaid SetTable.laid at e
      cases q : SetTable.layClean (SetTable.sizeAbove wanted - 1) (es.map (·.1)) with
      | none => rw [q] at e; cases e
      | some owner =>
        rw [q] at e
        have e : some (({ mask := SetTable.sizeAbove wanted - 1, place := (((List.range (SetTable.sizeAbove wanted - 1 + 1)).filterMap fun j => (owner.getD j none).map (j, ·)).map (·.1)).toArray, dummies := #[], finger := t.finger, led := t.led, moves := t.movedTo (SetTable.sizeAbove wanted - 1), plain := t.plain } : SetTable), (((List.range (SetTable.sizeAbove wanted - 1 + 1)).filterMap fun j => (owner.getD j none).map (j, ·)).map (·.2)).toArray) = some (t', order) := e
        injection e with e
        injection e with e _
        rw [← e]
        exact ⟨laid_up, rfl, h.led⟩
    dsimp only
    split
    · exact ht
    · exact h.standIn _
  · exact h.standIn _
end StT
set_option maxHeartbeats 1000000
namespace StT
open PySem
section
variable {prog : Program} {w : World} {K : Type} [DecidableEq K] {knd : KeyKind prog w K} {A : Around} {E : Value → Shared → Prop} {s : Shared}
/-- no two alike -/
def Dis (knd : KeyKind prog w K) (l : List (Int × Value)) : Prop := l.Pairwise fun e e' => ∀ k, ¬ (knd.is k e.2 = true ∧ knd.is k e'.2 = true)
theorem Dis.perm {l l' : List (Int × Value)} (h : Dis knd l) (p : l'.Perm l) : Dis knd l' := (p.pairwise_iff fun {x y} z k c => z k ⟨c.2, c.1⟩).mpr h
theorem Dis.push {l : List (Int × Value)} {S : K → Bool} (h : Dis knd l) (mem : ∀ k, S k = true ↔ ∃ e ∈ l, knd.is k e.2 = true) {k : K} {x : Value} {i : Int} (hk : knd.is k x = true) (hS : S k = false) : Dis knd (l ++ [(i, x)]) := by
  refine List.pairwise_append.mpr ⟨h, List.pairwise_singleton .., fun e he e' he' k' c => ?_⟩
  rw [List.mem_singleton.mp he'] at c
  have := knd.inj x k' k c.2 hk
  subst this
  rw [(mem k').mpr ⟨e, he, c.1⟩] at hS
  cases hS
/-- a set whose places rise -/
def SetU (knd : KeyKind prog w K) (h : Heap) (a : Addr) (S : K → Bool) (n : Nat) (b : Bool) : Prop := ∃ o es ep t, h.get? a = some o ∧ o.ExactSet ∧ o.data = .set es ep t ∧ ElemsOf knd es.toList ∧ (∀ k, S k = true ↔ ∃ e ∈ es.toList, knd.is k e.2 = true) ∧ es.size < scanBound ∧ t.fits es.size = true ∧ es.size = n ∧ TOk t b ∧ Dis knd es.toList
theorem SetU.congr {h : Heap} {a : Addr} {S S' : K → Bool} {n n' : Nat} {b : Bool} (x : SetU knd h a S n b) (e : ∀ k, S k = S' k) (en : n = n') : SetU knd h a S' n' b := by
  obtain rfl : S = S' := funext e
  subst en
  exact x
theorem SetU.put {h : Heap} {a : Addr} {o : Obj} {es : Array (Int × Value)} {ep : Nat} {t : SetTable} {b : Bool} (ho : h.get? a = some o) (hex : o.ExactSet) (hd : o.data = .set es ep t) {es' : Array (Int × Value)} {t' : SetTable} {S' : K → Bool} (el : ElemsOf knd es'.toList) (mem : ∀ k, S' k = true ↔ ∃ e ∈ es'.toList, knd.is k e.2 = true) (sz : es'.size < scanBound) (fit : t'.fits es'.size = true) (ok : TOk t' b) (dis : Dis knd es'.toList) :
    (h.update a (Obj.putSet es' t')).get? a = some { o with data := .set es' (ep + 1) t' } ∧ SetU knd (h.update a (Obj.putSet es' t')) a S' es'.size b := by
  have z := (SetOf_store (knd := knd) (es' := es') (t' := t') (S' := S') ho hex hd el mem sz fit).1
  exact ⟨z, _, es', ep + 1, t', z, hex, rfl, el, mem, sz, fit, rfl, ok, dis⟩
theorem add_tail {g : Bool → Sem Unit} (hg : ∀ (c : Bool) (s1 : Shared) (Q1 : Unit → Shared → Prop), Q1 () s1 → wpAny (model prog w) A (g c) Q1 E s1) {a : Addr} {o : Obj} {es : Array (Int × Value)} {ep : Nat} {t : SetTable} {b : Bool} (ho : s.heap.get? a = some o) (hex : o.ExactSet) (hd : o.data = .set es ep t)
    {e1 : Array (Int × Value)} {t1 : SetTable} {S' : K → Bool} (el : ElemsOf knd e1.toList) (mem : ∀ k, S' k = true ↔ ∃ e ∈ e1.toList, knd.is k e.2 = true) (sz : e1.size < scanBound) (fit : t1.fits e1.size = true) (ok : TOk t1 b) (dis : Dis knd e1.toList) {wd : Bool} {R : Option Bool → Shared → Prop}
    (q : ∀ h', Heap.SameBut a s.heap h' → SetU knd h' a S' e1.size b → R (some true) { s with heap := h' }) :
    wpAny (model prog w) A (do
      storeSet a e1 t1
      if (!wd && t1.tooFull) = true then do
        g (relayAll t1 e1 (SetTable.grown e1.size)).2.2
        storeSet a (relayAll t1 e1 (SetTable.grown e1.size)).1 (relayAll t1 e1 (SetTable.grown e1.size)).2.1
        pure (some true)
      else pure (some true)) R E s := by
  refine wpAny_bind (wpAny_storeSet_of ho hd ?_ (fits_of_scanBound sz))
  obtain ⟨ho1, u1⟩ := SetU.put (knd := knd) ho hex hd el mem sz fit ok dis
  have sb1 := Heap.SameBut.update s.heap a (Obj.putSet e1 t1)
  split
  · have pm := relayAll_perm t1 e1 (SetTable.grown e1.size)
    have ft := relayAll_fits t1 e1 (SetTable.grown e1.size)
    have tk := relay_ok ok e1 (SetTable.grown e1.size)
    generalize relayAll t1 e1 (SetTable.grown e1.size) = Rl at pm ft tk ⊢
    obtain ⟨e2, t2, gv⟩ := Rl
    dsimp only at pm ft tk ⊢
    have sz2 : e2.size = e1.size := by rw [← Array.length_toList, pm.length_eq, Array.length_toList]
    have mem2 : ∀ k, S' k = true ↔ ∃ e ∈ e2.toList, knd.is k e.2 = true := fun k => by
      rw [mem k]
      exact ⟨fun ⟨e, he, z⟩ => ⟨e, pm.mem_iff.mpr he, z⟩, fun ⟨e, he, z⟩ => ⟨e, pm.mem_iff.mp he, z⟩⟩
    refine wpAny_bind (hg _ _ _ (wpAny_bind (wpAny_storeSet_of ho1 rfl ?_ (fits_of_scanBound (by omega)))))
    have u2 := (SetU.put (knd := knd) ho1 hex rfl (el.perm pm) mem2 (by omega) ft tk (dis.perm pm)).2
    rw [sz2] at u2
    exact wpAny_pure (q _ (sb1.trans (Heap.SameBut.update _ a _)) u2)
  · exact wpAny_pure (q _ sb1 u1)
theorem add_ok {a : Addr} {S : K → Bool} {n : Nat} {b : Bool} {k : K} {x : Value} {Q : Bool → Shared → Prop} (hk : knd.is k x = true) (hx : x.scannable = true) (hS : SetU knd s.heap a S n b) (hr : n + 1 < scanBound)
    (q : ∀ h', Heap.SameBut a s.heap h' → SetU knd h' a (fun k' => S k' || decide (k' = k)) (if S k then n else n + 1) b → Q (!S k) { s with heap := h' }) : wpAny (model prog w) A (setAddHashed a x (knd.hash k)) Q E s := by
  obtain ⟨o, es, ep, t, ho, hex, hd, el, mem, sz, fit, hn, ok, dis⟩ := hS
  unfold setAddHashed setAddHashedIn
  refine wpAny_holding (wpAny_bind (wpAny_setState_of ho hd fit ?_))
  dsimp only
  rw [byScan_of hx sz el]
  simp only [↓reduceIte]
  unfold setAddByScan
  refine wpAny_bind (wpAny_bind (wpAny_rule (wpAny_bind (wpAny_setScan_of hk ho hd fit el ?_))))
  cases fi : List.findIdx? (fun e => knd.is k e.2) es.toList with
  | some j =>
    dsimp only
    obtain ⟨hj, pj, _⟩ := List.findIdx?_eq_some_iff_getElem.mp fi
    have Sk : S k = true := (mem k).mpr ⟨es.toList[j], List.getElem_mem hj, pj⟩
    refine wpAny_pure (wpAny_pure ?_)
    have z := q s.heap (Heap.SameBut.refl a s.heap) ⟨o, es, ep, t, ho, hex, hd, el, fun k' => by
      rw [Bool.or_eq_true, decide_eq_true_eq, ← mem k']
      constructor
      · rintro (h | rfl)
        · exact h
        · exact Sk
      · exact .inl, sz, fit, by rw [Sk]; exact hn, ok, dis⟩
    rw [Sk] at z
    have es : s = { s with heap := s.heap } := by cases s; rfl
    rw [es]
    exact z
  | none =>
    dsimp only
    have Sk : S k = false := by
      cases c : S k with
      | false => rfl
      | true =>
        obtain ⟨e, he, z⟩ := (mem k).mp c
        have := List.findIdx?_eq_none_iff.mp fi e he
        rw [z] at this
        cases this
    have gw : ∀ (c : Bool) {s1 : Shared} {Q1 : Unit → Shared → Prop}, Q1 () s1 → wpAny (model prog w) A (match c with | true => rule "set.scan.the-table-gave-way" | false => pure ()) Q1 E s1 := fun c s1 Q1 h1 => by
      cases c
      · exact wpAny_pure h1
      · exact wpAny_rule h1
    have pm := layNew_perm t es (knd.hash k) x
    have ft := layNew_fits t es (knd.hash k) x
    have tk := layNew_ok ok es (knd.hash k) x
    generalize layNew t es (knd.hash k) x = L at pm ft tk ⊢
    obtain ⟨e1, t1, wd, gv⟩ := L
    dsimp only at pm ft tk ⊢
    rw [Array.toList_push] at pm
    have el1 : ElemsOf knd e1.toList := (el.push hk hx).perm pm
    have mem1 := mem_push_iff hk mem pm
    have dis1 : Dis knd e1.toList := (dis.push mem hk Sk).perm pm
    have sz1 : e1.size = n + 1 := by rw [← Array.length_toList, pm.length_eq, List.length_append, Array.length_toList, hn]; rfl
    have fin : ∀ h', Heap.SameBut a s.heap h' → SetU knd h' a (fun k' => S k' || decide (k' = k)) e1.size b → Q true { s with heap := h' } := fun h' sb u => by
      have z := q h' sb
      rw [Sk] at z
      rw [sz1] at u
      exact z u
    refine wpAny_bind (gw _ ?_)
    split
    · refine wpAny_bind ?_
      rw [hashByValue_scannable 8 hx]
      refine wpAny_pure ?_
      refine add_tail (b := b) ?_ ho hex hd el1 mem1 (by omega) ?_ ?_ dis1 fun h' sb u => ?_
      · intro c s1 Q1 h1
        cases c <;> first | exact wpAny_pure h1 | exact wpAny_rule h1
      · split
        · exact ft
        · exact SetTable.fits_plain_off ft
      · split
        · exact tk
        · exact tk.plain
      · dsimp only; exact wpAny_pure (fin h' sb u)
    · refine wpAny_bind (wpAny_pure ?_)
      simp only [↓reduceIte]
      refine add_tail (b := b) ?_ ho hex hd el1 mem1 (by omega) ft tk dis1 fun h' sb u => ?_
      · intro c s1 Q1 h1
        cases c <;> first | exact wpAny_pure h1 | exact wpAny_rule h1
      · dsimp only; exact wpAny_pure (fin h' sb u)
end
end StT
set_option maxHeartbeats 3200000
namespace StT
open PySem PyProof.Rows
section
variable {prog : Program} {w : World} {K : Type} [DecidableEq K] {knd : KeyKind prog w K} {A : Around} {E : Value → Shared → Prop} {s : Shared}
theorem SetU.at {h h' : Heap} {a : Addr} {S : K → Bool} {n : Nat} {b : Bool} (x : SetU knd h a S n b) (f : ∀ o, h.get? a = some o → h'.get? a = some o) : SetU knd h' a S n b := let ⟨o, es, ep, t, ho, r⟩ := x; ⟨o, es, ep, t, f o ho, r⟩
/-- which were met among the first i -/
def metF (val : Nat → K) (i : Nat) (k : K) : Bool := (List.range i).any fun j => decide (k = val j)
theorem met_succ (val : Nat → K) (i : Nat) (k : K) : metF val (i + 1) k = (metF val i k || decide (k = val i)) := by
  unfold metF
  rw [List.range_succ, List.any_append]; simp
end
section
variable {prog : Program} {w : World} {K : Type} [DecidableEq K] {knd : KeyKind prog w K} {A : Around} {R : Result → Shared → Prop} {I : Addr} {fp wr : List Addr} {G : Array GenState → Array GenState → Prop} {n : Nat} {P : Nat → Value → Prop} {St : Nat → Shared → Prop}
theorem upd_loop (W : WalksS prog w A.in1 I fp wr G n P St) {T : Addr} (hT : T ∉ fp) {val : Nat → K} (hv : ∀ i v, P i v → knd.is (val i) v = true ∧ v.scannable = true) (hb : n + 1 < scanBound) {b : Bool} :
    ∀ (k i : Nat) (s : Shared), n - i = k → i ≤ n → St i s → (∃ m, m ≤ i ∧ SetU knd s.heap T (metF val i) m b) →
      (∀ s', Moved (T :: wr) G s s' → (∃ m, m ≤ n ∧ SetU knd s'.heap T (metF val n) m b) → R (.ok (.ret .none)) s') →
      codeAny (model prog w) A (.builtin "set.update.loop" ⟨[.ref T, .ref I], []⟩) R s
  | 0, i, s, hk, hi, st, ⟨m, mi, u⟩, q => by
    obtain rfl : i = n := by omega
    have nw : T ∉ wr := fun z => hT (W.sub _ z)
    refine codeAny_builtin F.entry_set_update_loop ?_
    rw [Around.under_plainId F.plain_set_update_loop _]
    refine wpAny_bind (m := pyNext (.ref I)) (W.done s _ _ st fun s' mv => ?_)
    exact wpAny_pure (q s' (mv.mono fun x hx => List.mem_cons_of_mem _ hx) ⟨m, mi, u.at fun o e => mv.heap T o nw e⟩)
  | k + 1, i, s, hk, hi, st, ⟨m, mi, u⟩, q => by
    have lt : i < n := by omega
    have nw : T ∉ wr := fun z => hT (W.sub _ z)
    refine codeAny_builtin F.entry_set_update_loop ?_
    rw [Around.under_plainId F.plain_set_update_loop _]
    refine wpAny_bind (m := pyNext (.ref I)) (W.item i s _ _ lt st fun v s' pv st' mv => ?_)
    obtain ⟨hk1, hk2⟩ := hv i v pv
    have u' := u.at (h' := s'.heap) fun o e => mv.heap T o nw e
    refine wpAny_bind (m := holding [v] (setAdd T v)) (wpAny_holding ?_)
    unfold setAdd
    refine wpAny_holding (wpAny_bind (knd.pyHash hk1 ?_))
    refine add_ok (s := { s' with toks := s'.toks + 1 }) hk1 hk2 u' (by omega) fun h' sb u2 => ?_
    have mv2 : Moved (T :: wr) G s { s' with heap := h', toks := s'.toks + 1 } := (mv.mono fun x hx => List.mem_cons_of_mem _ hx).then_heap (Nat.le_succ _) fun x o hx e => by
      rw [sb.2 x fun z => hx (z ▸ List.mem_cons_self)]; exact e
    refine wpAny_pure ⟨plainId_quiet F.plain_set_update_loop _, upd_loop W hT hv hb k (i + 1) _ (by omega) lt (W.frame _ s' _ _ st' (Nat.le_succ _) fun x hx o e => ?_) ⟨if metF val i (val i) then m else m + 1, ?_, u2.congr (fun k' => (met_succ val i k').symm) rfl⟩ fun s'' m'' u'' => q s'' (Moved.trans W.gtrans mv2 m'') u''⟩
    · rw [sb.2 x fun z => hT (z ▸ hx)]; exact e
    · split <;> omega
end
section
variable {prog : Program} {w : World} {K : Type} [DecidableEq K] {knd : KeyKind prog w K} {A : Around} {E : Value → Shared → Prop} {s : Shared}
/-- whether sets are walked as a text says -/
def byT (w : World) : Bool := w.params.followText "set-order"
theorem set_new (a : Value) {Q1 : Value → Shared → Prop} (q : Q1 (.ref s.heap.objs.size) { s with heap := s.heap.push { cls := .type "set", dict := none, data := .set #[] 0 (.fresh 0 0 (!byT w)) } }) :
    codeAny (model prog w) A (.call (.builtin "set.__new__") ⟨[.type "set", a], []⟩) (wants Q1 E) s := by
  refine codeAny_call_builtin F.plain_set_new F.entry_set_new (wpAny_of_eq (F.newCall_set_1 a) ?_)
  unfold Builtin.«set.__new__» Builtin.Frozenset.newClass
  have hsub := sub_set_self
  obtain ⟨hp, g, d, tk, os⟩ := s
  dsimp only
  wp_walk
  refine wpAny_askSetting (wpAny_pure ?_)
  dsimp only
  simp only [newObj]
  exact wpAny_bind (wpAny_alloc (wpAny_pure (wpAny_pure q)))
end
end StT
set_option maxHeartbeats 3200000
namespace StT
open PySem PyProof.Rows
section
variable {prog : Program} {w : World} {K : Type} [DecidableEq K] {knd : KeyKind prog w K} {A : Around} {E : Value → Shared → Prop} {s : Shared}
theorem call_set_list {l : Addr} {items : Array Value} {Q : Value → Shared → Prop} {val : Nat → K} (hh : A.handled = none) (hl : s.heap.IsList l items) (hv : ∀ i v, items[i]? = some v → knd.is (val i) v = true ∧ v.scannable = true) (hb : items.size + 1 < scanBound)
    (q : ∀ (h' : Heap) (tk m : Nat), m ≤ items.size → SetU knd h' s.heap.objs.size (metF val items.size) m (!byT w) → (∀ b o, s.heap.get? b = some o → h'.get? b = some o) → Q (.ref s.heap.objs.size) { s with heap := h', toks := tk }) : wpAny (model prog w) A (call (.type "set") [.ref l]) Q E s := by
  have cs := F.called_set
  obtain ⟨c, tl, m1⟩ := cs.mro
  have m2 := cs.made
  have m3 := cs.sub
  refine wpAny_call (codeAny_of_tree (wpAny_pure ⟨Code.quiet_builtin _ (by decide +kernel), codeAny_builtin F.entry_type_call ?_⟩))
  rw [Around.under_plain (weight_type_call_type "set" [.ref l] []) rfl]
  have m4 := cs.notType
  have m5 := cs.canCreate
  have m6 := F.typeCall_set_1 (.ref l)
  repeat (any_goals (first | assumption | wp_step))
  have hN : (s.heap.push { cls := .type "set", dict := none, data := .set #[] 0 (.fresh 0 0 (!byT w)) }).get? s.heap.objs.size = some { cls := .type "set", dict := none, data := .set #[] 0 (.fresh 0 0 (!byT w)) } := Heap.get?_push_size _ rfl
  refine codeAny_mono (set_new (.ref l) (E := E) (Q1 := fun v t => v = .ref s.heap.objs.size ∧ t = { s with heap := s.heap.push { cls := .type "set", dict := none, data := .set #[] 0 (.fresh 0 0 (!byT w)) } }) ⟨rfl, rfl⟩) fun r1 t1 z1 => ?_
  rcases r1 with e1 | f1
  · exact z1
  cases f1
  case ret v1 =>
    obtain ⟨rfl, rfl⟩ := z1
    have tS : Shared.TypeIs { s with heap := s.heap.push { cls := .type "set", dict := none, data := .set #[] 0 (.fresh 0 0 (!byT w)) } } (.ref s.heap.objs.size) "set" := ⟨_, hN, rfl⟩
    have m7 := cs.init.lookup
    have m8 := cs.init.bind (.ref s.heap.objs.size)
    repeat (any_goals (first | assumption | wp_step))
    refine codeAny_mono (codeAny_call_builtin (R := wants (fun v t => v = .none ∧ ∃ h' tk m, t = { s with heap := h', toks := tk } ∧ m ≤ items.size ∧ SetU knd h' s.heap.objs.size (metF val items.size) m (!byT w) ∧ ∀ b o, s.heap.get? b = some o → h'.get? b = some o) E) cs.init.plain F.entry_set_init (check_set_init_1 tS ?_)) fun r2 t2 z2 => ?_
    · obtain ⟨⟨c0, d0, da0, s0⟩, g0, hc0, n0, hd0⟩ := id hl
      simp only at hc0 hd0
      subst hc0
      subst hd0
      have g1 : (s.heap.push { cls := .type "set", dict := none, data := .set #[] 0 (.fresh 0 0 (!byT w)) }).get? l = some { cls := .type "list", dict := d0, data := .seq items n0, slots := s0 } := Heap.get?_push_of_some _ g0
      have a1 := F.sub_list_set
      have a2 := F.sub_list_frozenset
      have a3 : (Value.type "list" == Value.type "dict") = false := by decide
      have hl1 : (s.heap.push { cls := .type "set", dict := none, data := .set #[] 0 (.fresh 0 0 (!byT w)) }).IsList l items := ⟨_, g1, rfl, n0, rfl⟩
      unfold Builtin.«set.__init__» noKeywords Builtin.Frozenset.updateFrom
      generalize hI : pyIter = PI
      wp_walk
      subst hI
      refine wpAny_pyIter_list hl1 (wpAny_bind (wpAny_runValue ?_))
      have lS : l < s.heap.objs.size := Heap.lt_size g0
      have h3 : A.in1.in1.in1.handled = none := by simp [hh]
      have nI : l ≠ (s.heap.push { cls := .type "set", dict := none, data := .set #[] 0 (.fresh 0 0 (!byT w)) }).objs.size := by
        rw [Heap.size_push]; exact Nat.ne_of_lt (Nat.lt_succ_of_lt lS)
      have nS : s.heap.objs.size ∉ [(s.heap.push { cls := .type "set", dict := none, data := .set #[] 0 (.fresh 0 0 (!byT w)) }).objs.size, l] := by
        rw [Heap.size_push]
        simp only [List.mem_cons, List.not_mem_nil, or_false, not_or]
        exact ⟨Nat.ne_of_lt (Nat.lt_succ_self _), Nat.ne_of_gt lS⟩
      refine upd_loop ((Walks.list h3 _ l nI items).toS) nS (val := val) (b := !byT w) hv hb (items.size - 0) 0 _ (by omega) (Nat.zero_le _) ⟨⟨_, Heap.get?_push_size _ rfl, rfl, rfl⟩, hl1.push _⟩ ⟨0, Nat.le_refl _, ?_⟩ fun t mv ⟨m, mi, u⟩ => ?_
      · exact ⟨_, #[], 0, _, Heap.get?_push_of_some _ hN, ⟨rfl, rfl, rfl⟩, rfl, fun e he => (by simp at he), fun k => (by simp [metF]), by unfold scanBound; decide, rfl, rfl, TOk.fresh _, List.Pairwise.nil⟩
      · obtain ⟨h', g', d', tk', os'⟩ := t
        obtain rfl : g' = s.gens := mv.gens
        obtain rfl : d' = s.drawn := mv.drawn
        obtain rfl : os' = s.os := mv.os
        refine wpAny_pure (wpAny_pure ⟨rfl, h', tk', m, rfl, mi, u, fun b o e => ?_⟩)
        have lb : b < s.heap.objs.size := Heap.lt_size e
        refine mv.heap b o ?_ (Heap.get?_push_of_some _ (Heap.get?_push_of_some _ e))
        rw [Heap.size_push]
        simp only [List.mem_cons, List.not_mem_nil, or_false, not_or]
        exact ⟨Nat.ne_of_lt lb, Nat.ne_of_lt (Nat.lt_succ_of_lt lb)⟩
    · rcases r2 with e2 | f2
      · exact z2
      cases f2
      case ret v2 =>
        obtain ⟨rfl, h', tk, m, rfl, mi, u, kp⟩ := z2
        repeat (any_goals (first | assumption | wp_step))
        exact q h' tk m mi u kp
      all_goals exact z2.elim
  all_goals exact z1.elim
end
end StT
set_option maxHeartbeats 1000000
namespace StT
open PySem
theorem perm_take {α : Type} {l : List α} {k : Nat} {x : α} (h : l[k]? = some x) : (x :: l.eraseIdx k).Perm l := by
  obtain ⟨hk, rfl⟩ := List.getElem?_eq_some_iff.mp h
  rw [List.eraseIdx_eq_take_drop_succ]
  have e : l = l.take k ++ (l[k] :: l.drop (k + 1)) := by rw [← List.drop_eq_getElem_cons hk, List.take_append_drop]
  conv => rhs; rw [e]
  exact List.perm_middle.symm
theorem pick_go {α : Type} (next : Nat → Nat) : ∀ (fuel k : Nat) (left : List α) (out : Array α), fuel = left.length → (pickOrder.go next fuel k left out).toList.Perm (out.toList ++ left)
  | 0, k, left, out, h => by
    have : left = [] := List.length_eq_zero_iff.mp h.symm
    subst this
    unfold pickOrder.go
    rw [List.append_nil]
  | fuel + 1, k, left, out, h => by
    unfold pickOrder.go
    have hl : next k % left.length < left.length := Nat.mod_lt _ (by omega)
    have hx := List.getElem?_eq_getElem hl
    generalize left[next k % left.length] = x at hx
    rw [hx]
    dsimp only
    refine (pick_go next fuel (k + 1) _ _ (by rw [List.length_eraseIdx, if_pos hl]; omega)).trans ?_
    rw [Array.toList_push, List.append_assoc]
    exact List.Perm.append_left _ (perm_take hx)
theorem pick_perm {α : Type} (next : Nat → Nat) (xs : Array α) : (pickOrder next xs).toList.Perm xs.toList := by
  have := pick_go next xs.size 0 xs.toList #[] (by simp)
  simpa [pickOrder] using this
section
variable {M : Model} {A : Around} {E : Value → Shared → Prop} {s : Shared}
theorem wp_draw {n : Nat} (hn : n ≠ 0) {src : Source} {Q : Nat → Shared → Prop} (q : ∀ i d, i < n → Q i { s with drawn := d }) : wpAny M A (choose src n) Q E s := by
  intro Γ p hΓ
  unfold choose
  rw [Sem.wp_choose]
  exact ⟨hn, q _ _ (Nat.mod_lt _ (Nat.pos_of_ne_zero hn))⟩
theorem draw_perm {α : Type} : ∀ (n : Nat) (xs : List α) (s : Shared) (Q : List α → Shared → Prop), n = xs.length → (∀ ys d, ys.Perm xs → Q ys { s with drawn := d }) → wpAny M A (drawOrder n xs) Q E s
  | 0, xs, s, Q, h, q => by
    have : xs = [] := List.length_eq_zero_iff.mp h.symm
    subst this
    unfold drawOrder
    have := q [] s.drawn (.refl _)
    exact wpAny_pure this
  | n + 1, [], s, Q, h, q => by cases h
  | n + 1, x :: xs, s, Q, h, q => by
    unfold drawOrder
    refine wpAny_bind (wp_draw (by simp) fun i d hi => ?_)
    have hx := List.getElem?_eq_getElem hi
    generalize (x :: xs)[i] = y at hx
    rw [hx]
    dsimp only
    refine wpAny_bind (draw_perm n _ _ _ (by rw [List.length_eraseIdx, if_pos hi]; simp at h ⊢; assumption) fun ys d' pm => ?_)
    exact wpAny_pure (q (y :: ys) d' ((pm.cons y).trans (perm_take hx)))
end
end StT
set_option maxHeartbeats 3200000
namespace StT
open PySem PyProof.Rows
theorem slot_si_next : Slot "set_iterator" "__next__" "set_iterator.__next__" :=
  .of (owner := "set_iterator") (n := "__next__") (by rw [typeLookup_type, builtinLookup_eq_fast]; kernel_rfl) (by decide +kernel) (by decide +kernel) (by decide +kernel) (by first | exact .inl (by decide +kernel) | exact .inr (by decide +kernel)) (by rw [isSubtype_type]; kernel_rfl)
theorem entry_si_next : entryFor table "set_iterator.__next__" = some Builtin.«set_iterator.__next__» := entryFor_of_tree (by kernel_rfl)
theorem args_si_next (a : Value) : argsOk "set_iterator.__next__" ⟨[a], []⟩ := by unfold argsOk; kernel_rfl
theorem entry_s_iter : entryFor table "set.__iter__" = some Builtin.«frozenset.__iter__» := entryFor_alias (id' := "frozenset.__iter__") (by kernel_rfl) rfl (by decide +kernel) (by kernel_rfl)
/-- an iterator over a set, standing behind i items -/
def ItS (h : Heap) (I a : Addr) (first : Value) (i n ep : Nat) : Prop := ∃ o, h.get? I = some o ∧ o.cls = .type "set_iterator" ∧ o.data = .fields #[first, .int (i : Int) 0, .ref a, .int (n : Int) 0, .int (ep : Int) 0]
def SSt (h : Heap) (a : Addr) (es : Array (Int × Value)) (ep : Nat) (t : SetTable) : Prop := ∃ o, h.get? a = some o ∧ o.data = .set es ep t ∧ t.fits es.size = true
theorem ItS.type {s : Shared} {I a : Addr} {first : Value} {i n ep : Nat} (h : ItS s.heap I a first i n ep) : s.TypeIs (.ref I) "set_iterator" := let ⟨o, a, b, _⟩ := h; ⟨o, a, b⟩
section
variable {prog : Program} {w : World} {A : Around} {E : Value → Shared → Prop} {s : Shared} {I a T : Addr} {i n ep : Nat} {first : Value} {es : Array (Int × Value)} {t : SetTable}
theorem setF {o : Obj} {vs : Array Value} {k : Nat} {x : Value} {Q : Unit → Shared → Prop} (ho : s.heap.get? I = some o) (hd : o.data = .fields vs) (hk : k < vs.size)
    (q : ∀ (h' : Heap) (o' : Obj), h'.get? I = some o' → o'.cls = o.cls → o'.data = .fields (vs.setIfInBounds k x) → Heap.SameBut I s.heap h' → Q () { s with heap := h' }) : wpAny (model prog w) A (setField (.ref I) k x) Q E s :=
  wpAny_setField ho hd hk (q _ _ (Heap.get?_update_self _ ho (Obj.isFreed_of_fields (Obj.data_mapFields hd _))) (Obj.cls_mapFields ..) (Obj.data_mapFields hd _) (Heap.SameBut.update ..))
theorem stop_ok (hh : A.handled = none) {X : Fin → Shared → Prop} {Q : Option Value → Shared → Prop} (q : ∀ h', (∀ b o, s.heap.get? b = some o → h'.get? b = some o) → Q none { s with heap := h' }) :
    wpAny (model prog w) A.in1 (newExc (Value.type "StopIteration") [] >>= fun e => raiseNew e) X (fun e s' => wpAny (model prog w) A (isInstance e (Value.type "StopIteration") >>= fun c => if c = true then pure none else throw e) Q E s') s := by
  refine wpAny_bind ?_
  simp only [newExc, newTuple]
  refine wpAny_bind (wpAny_newObj_type (wpAny_bind (m := firstArgMember _ _) (wpAny_of_eq (a := Value.none) (by first | rfl | (simp only [firstArgMember]; rfl)) (wpAny_newObj_type ?_ (by size_fits)))) (by size_fits))
  simp only [raiseNew]
  refine wpAny_bind (wpAny_handled ?_)
  rw [show A.in1.handled = none from hh]
  refine wpAny_bind (wpAny_pure (wpAny_throw ?_))
  refine wpAny_bind (wpAny_isInstance (T := "StopIteration") (b := true) ⟨_, Heap.get?_push_size _ rfl, rfl⟩ isSubtype_stop ?_)
  exact wpAny_pure (q _ fun b o e => Heap.get?_push_of_some _ (Heap.get?_push_of_some _ e))
theorem ask_by {Q : Bool → Shared → Prop} (q : Q (byT w) s) : wpAny (model prog w) A setsByText Q E s := wpAny_bind (wpAny_askSetting (wpAny_pure q))
/-- one step, what the set gives known -/
theorem next_some {first' x : Value} {nx : Nat} {Q : Option Value → Shared → Prop} {slot : Nat} (hI : ItS s.heap I a (.int (slot : Int) 0) i es.size ep) (hS : SSt s.heap a es ep t)
    (sn : ∀ R : Option (Value × Nat) → Shared → Prop, R (some (x, nx)) s → wpAny (model prog w) A.in1 (setNext a slot i ep) R (fun e s' => wpAny (model prog w) A (isInstance e (Value.type "StopIteration") >>= fun c => if c = true then pure none else throw e) Q E s') s)
    (q : ∀ h', ItS h' I a (.int (nx : Int) 0) (i + 1) es.size ep → Heap.SameBut I s.heap h' → Q (some x) { s with heap := h' }) : wpAny (model prog w) A (pyNext (.ref I)) Q E s := by
  obtain ⟨oI, gI, cI, dI⟩ := id hI
  obtain ⟨oS, gS, dS, fit⟩ := id hS
  unfold pyNext
  refine wpAny_bind (wpAny_attempt (wpAny_callSpecial?_slot (name := Str.ofString "__next__") hI.type slot_si_next (wpAny_call_entry slot_si_next hI.type entry_si_next ?_ (args_si_next _))))
  unfold Builtin.«set_iterator.__next__»
  refine wpAny_bind (m := slotArgs _ _ _) (wpAny_pure (wpAny_bind (wpAny_fieldsOf gI dI ?_)))
  dsimp only
  refine wpAny_bind (wpAny_setEntries_of gS dS fit ?_)
  rw [if_neg (by simp)]
  refine wpAny_bind ?_
  rw [Int.toNat_natCast, Int.toNat_natCast, Int.toNat_natCast]
  refine sn _ ?_
  dsimp only
  refine wpAny_bind (setF gI dI (by simp) fun h1 o1 g1 c1 d1 sb1 => ?_)
  refine wpAny_bind (setF (s := { s with heap := h1 }) g1 d1 (by simp) fun h2 o2 g2 c2 d2 sb2 => ?_)
  refine wpAny_pure ⟨x, rfl, wpAny_pure (q h2 ⟨o2, g2, (c2.trans c1).trans cI, ?_⟩ (sb1.trans sb2))⟩
  rw [d2]
  simp [rawInt]
theorem next_none {Q : Option Value → Shared → Prop} {slot : Nat} (hh : A.handled = none) (hI : ItS s.heap I a (.int (slot : Int) 0) i es.size ep) (hS : SSt s.heap a es ep t)
    (sn : ∀ R : Option (Value × Nat) → Shared → Prop, R none s → wpAny (model prog w) A.in1 (setNext a slot i ep) R (fun e s' => wpAny (model prog w) A (isInstance e (Value.type "StopIteration") >>= fun c => if c = true then pure none else throw e) Q E s') s)
    (q : ∀ h', (∀ b o, b ≠ I → s.heap.get? b = some o → h'.get? b = some o) → Q none { s with heap := h' }) : wpAny (model prog w) A (pyNext (.ref I)) Q E s := by
  obtain ⟨oI, gI, cI, dI⟩ := id hI
  obtain ⟨oS, gS, dS, fit⟩ := id hS
  unfold pyNext
  refine wpAny_bind (wpAny_attempt (wpAny_callSpecial?_slot (name := Str.ofString "__next__") hI.type slot_si_next (wpAny_call_entry slot_si_next hI.type entry_si_next ?_ (args_si_next _))))
  unfold Builtin.«set_iterator.__next__»
  refine wpAny_bind (m := slotArgs _ _ _) (wpAny_pure (wpAny_bind (wpAny_fieldsOf gI dI ?_)))
  dsimp only
  refine wpAny_bind (wpAny_setEntries_of gS dS fit ?_)
  rw [if_neg (by simp)]
  refine wpAny_bind ?_
  rw [Int.toNat_natCast, Int.toNat_natCast, Int.toNat_natCast]
  refine sn _ ?_
  dsimp only
  refine wpAny_bind (setF gI dI (by simp) fun h1 o1 g1 c1 d1 sb1 => ?_)
  exact stop_ok (s := { s with heap := h1 }) hh fun h2 k2 => q h2 fun b o nb e => k2 b o (by rw [sb1.2 b nb]; exact e)
theorem drawn_some {x : Value} {Q : Option Value → Shared → Prop} {ps : Array Value} {p : Nat} {u : Tok} {hx : Int} {oT : Obj} {m : Nat} (hI : ItS s.heap I a (.ref T) i es.size ep) (hS : SSt s.heap a es ep t) (gT : s.heap.get? T = some oT) (dT : oT.data = .seq ps m) (hp : ps[i]? = some (.int (p : Int) u)) (ex : es[p]? = some (hx, x))
    (q : ∀ h', ItS h' I a (.ref T) (i + 1) es.size ep → Heap.SameBut I s.heap h' → Q (some x) { s with heap := h' }) : wpAny (model prog w) A (pyNext (.ref I)) Q E s := by
  obtain ⟨oI, gI, cI, dI⟩ := id hI
  obtain ⟨oS, gS, dS, fit⟩ := id hS
  unfold pyNext
  refine wpAny_bind (wpAny_attempt (wpAny_callSpecial?_slot (name := Str.ofString "__next__") hI.type slot_si_next (wpAny_call_entry slot_si_next hI.type entry_si_next ?_ (args_si_next _))))
  unfold Builtin.«set_iterator.__next__»
  refine wpAny_bind (m := slotArgs _ _ _) (wpAny_pure (wpAny_bind (wpAny_fieldsOf gI dI ?_)))
  dsimp only
  refine wpAny_bind (wpAny_setEntries_of gS dS fit ?_)
  rw [if_neg (by simp)]
  refine wpAny_bind (wpAny_seqItems gT dT ?_)
  dsimp only
  rw [Int.toNat_natCast, Int.toNat_natCast, hp]
  dsimp only
  refine wpAny_bind ?_
  unfold setNextDrawn
  refine wpAny_bind (wpAny_setState_of gS dS fit ?_)
  dsimp only
  rw [if_neg (by simp), Int.toNat_natCast, ex]
  refine wpAny_pure (wpAny_bind (setF gI dI (by simp) fun h1 o1 g1 c1 d1 sb1 => ?_))
  refine wpAny_pure ⟨x, rfl, wpAny_pure (q h1 ⟨o1, g1, c1.trans cI, ?_⟩ sb1)⟩
  rw [d1]
  simp [rawInt]
theorem drawn_none {Q : Option Value → Shared → Prop} {ps : Array Value} {oT : Obj} {m : Nat} (hh : A.handled = none) (hI : ItS s.heap I a (.ref T) i es.size ep) (hS : SSt s.heap a es ep t) (gT : s.heap.get? T = some oT) (dT : oT.data = .seq ps m) (hp : ps[i]? = none)
    (q : ∀ h', (∀ b o, b ≠ I → s.heap.get? b = some o → h'.get? b = some o) → Q none { s with heap := h' }) : wpAny (model prog w) A (pyNext (.ref I)) Q E s := by
  obtain ⟨oI, gI, cI, dI⟩ := id hI
  obtain ⟨oS, gS, dS, fit⟩ := id hS
  unfold pyNext
  refine wpAny_bind (wpAny_attempt (wpAny_callSpecial?_slot (name := Str.ofString "__next__") hI.type slot_si_next (wpAny_call_entry slot_si_next hI.type entry_si_next ?_ (args_si_next _))))
  unfold Builtin.«set_iterator.__next__»
  refine wpAny_bind (m := slotArgs _ _ _) (wpAny_pure (wpAny_bind (wpAny_fieldsOf gI dI ?_)))
  dsimp only
  refine wpAny_bind (wpAny_setEntries_of gS dS fit ?_)
  rw [if_neg (by simp)]
  refine wpAny_bind (wpAny_seqItems gT dT ?_)
  dsimp only
  rw [Int.toNat_natCast, hp]
  dsimp only
  refine wpAny_bind (setF gI dI (by simp) fun h1 o1 g1 c1 d1 sb1 => ?_)
  refine wpAny_bind (setF (s := { s with heap := h1 }) g1 d1 (by simp) fun h2 o2 g2 c2 d2 sb2 => ?_)
  exact stop_ok (s := { s with heap := h2 }) hh fun h3 k3 => q h3 fun b o nb e => k3 b o (by rw [sb2.2 b nb, sb1.2 b nb]; exact e)
end
end StT
set_option maxHeartbeats 3200000
namespace StT
open PySem PyProof.Rows
theorem slot_si_iter : Slot "set_iterator" "__iter__" "set_iterator.__iter__" :=
  .of (owner := "set_iterator") (n := "__iter__") (by rw [typeLookup_type, builtinLookup_eq_fast]; kernel_rfl) (by decide +kernel) (by decide +kernel) (by decide +kernel) (by first | exact .inl (by decide +kernel) | exact .inr (by decide +kernel)) (by rw [isSubtype_type]; kernel_rfl)
theorem entry_si_iter : entryFor table "set_iterator.__iter__" = some Builtin.«dict_keyiterator.__iter__» := entryFor_alias (id' := "dict_keyiterator.__iter__") (by kernel_rfl) rfl (by decide +kernel) (by kernel_rfl)
theorem args_si_iter (a : Value) : argsOk "set_iterator.__iter__" ⟨[a], []⟩ := by unfold argsOk; kernel_rfl
theorem below_is {xs : Array Nat} (h : Up xs) {j m : Nat} (hm : m ≤ xs.size) (h1 : ∀ i a, i < m → xs[i]? = some a → a < j) (h2 : ∀ i a, m ≤ i → xs[i]? = some a → j ≤ a) : SetTable.below xs j = m := by
  obtain ⟨b1, b2, b3⟩ := below_ok h j
  rcases Nat.lt_trichotomy (SetTable.below xs j) m with z | z | z
  · have hl : SetTable.below xs j < xs.size := by exact Nat.le_trans (by assumption) (by assumption)
    have e := Array.getElem?_eq_getElem hl
    have := h1 _ _ z e
    have := b3 _ _ (Nat.le_refl _) e
    omega
  · exact z
  · have hl : m < xs.size := by exact Nat.le_trans (by assumption) (by assumption)
    have e := Array.getElem?_eq_getElem hl
    have := b2 _ _ z e
    have := h2 _ _ (Nat.le_refl _) e
    omega
section
variable {prog : Program} {w : World} {A : Around} {E : Value → Shared → Prop} {s : Shared} {I a T : Addr} {i n ep : Nat} {first : Value} {es : Array (Int × Value)} {t : SetTable}
theorem ItS.at {h h' : Heap} (x : ItS h I a first i n ep) (f : ∀ o, h.get? I = some o → h'.get? I = some o) : ItS h' I a first i n ep := let ⟨o, g, r⟩ := x; ⟨o, f o g, r⟩
theorem SSt.at {h h' : Heap} (x : SSt h a es ep t) (f : ∀ o, h.get? a = some o → h'.get? a = some o) : SSt h' a es ep t := let ⟨o, g, r⟩ := x; ⟨o, f o g, r⟩
theorem sn_led {slot : Nat} {R : Option (Value × Nat) → Shared → Prop} (hS : SSt s.heap a es ep t) (by0 : byT w = false) (dr : (!t.plain && decide (es.size > 1)) = false) (led : t.led = true)
    (q : R (match es[SetTable.below t.place slot]?, t.place[SetTable.below t.place slot]? with | some (_, x), some j => some (x, j + 1) | _, _ => none) s) : wpAny (model prog w) A (setNext a slot i ep) R E s := by
  obtain ⟨oS, gS, dS, fit⟩ := id hS
  unfold setNext
  refine wpAny_bind (wpAny_setState_of gS dS fit ?_)
  dsimp only
  refine wpAny_bind (ask_by ?_)
  rw [by0]
  simp only [Bool.false_eq_true, if_false]
  show wpAny _ _ (if (!t.plain && decide (es.size > 1)) = true then _ else _) _ _ _
  rw [dr]
  simp only [Bool.false_eq_true, if_false]
  refine wpAny_bind ?_
  show wpAny _ _ (if (!t.led && !es.isEmpty) = true then _ else _) _ _ _
  rw [led]
  simp only [Bool.not_true, Bool.false_and, Bool.false_eq_true, if_false]
  exact wpAny_pure (wpAny_pure q)
theorem sn_text {slot : Nat} {R : Option (Value × Nat) → Shared → Prop} (hS : SSt s.heap a es ep t) (by1 : byT w = true)
    (q : R (((pickOrder (w.params.setOrder a ep) es)[i]?).map fun e => (e.2, slot)) s) : wpAny (model prog w) A (setNext a slot i ep) R E s := by
  obtain ⟨oS, gS, dS, fit⟩ := id hS
  unfold setNext
  refine wpAny_bind (wpAny_setState_of gS dS fit ?_)
  dsimp only
  refine wpAny_bind (ask_by ?_)
  rw [by1]
  simp only [if_true]
  rw [if_neg (by simp)]
  refine wpAny_bind ?_
  unfold setWalk
  refine wpAny_bind (wpAny_setState_of gS dS fit ?_)
  dsimp only
  refine wpAny_bind (ask_by ?_)
  rw [by1]
  simp only [if_true]
  exact wpAny_bind (wpAny_askSetting (wpAny_pure (wpAny_pure q)))
theorem self_ok {Q : Value → Shared → Prop} (hI : ItS s.heap I a first i n ep) (q : Q (.ref I) s) : wpAny (model prog w) A (pyIter (.ref I)) Q E s := by
  refine wpAny_pyIter_slot hI.type slot_si_iter (wpAny_call_entry slot_si_iter hI.type entry_si_iter ?_ (args_si_iter _))
  exact wpAny_pure ⟨_, rfl, "set_iterator", _, hI.type, slot_si_next.lookup, q⟩
theorem moved_of {h' : Heap} {wr : List Addr} (k : ∀ b o, b ∉ wr → s.heap.get? b = some o → h'.get? b = some o) : Moved wr (fun a b => b = a) s { s with heap := h' } := ⟨k, rfl, rfl, rfl, Nat.le_refl _⟩
theorem walkC (hh : A.handled = none) (hne : a ≠ I) (ok : TOk t true) (by0 : byT w = false) (dr : (!t.plain && decide (es.size > 1)) = false) :
    WalksS prog w A I [I, a] [I] (fun x y => y = x) es.size (fun i v => (es.toList.map (·.2))[i]? = some v) (fun i s => (∃ slot : Nat, ItS s.heap I a (.int (slot : Int) 0) i es.size ep ∧ SetTable.below t.place slot = i) ∧ SSt s.heap a es ep t) where
  sub := fun b hb => by simp at hb; simp [hb]
  grefl := fun _ => rfl
  gtrans := fun _ _ _ h1 h2 => h2.trans h1
  frame := fun i s h' tk st _ k => ⟨let ⟨sl, x, y⟩ := st.1; ⟨sl, x.at fun o e => k I (by simp) o e, y⟩, st.2.at fun o e => k a (by simp) o e⟩
  item := fun i s Q E hi st q => by
    obtain ⟨⟨slot, hI, bl⟩, hS⟩ := st
    obtain ⟨oS, gS, dS, fit⟩ := id hS
    have fit' : t.place.size = es.size := by
      simp only [SetTable.fits, Bool.and_eq_true, beq_iff_eq] at fit
      exact fit.1
    have ex := Array.getElem?_eq_getElem hi
    generalize es[i] = e at ex
    have ej := Array.getElem?_eq_getElem (xs := t.place) (i := i) (by omega)
    generalize t.place[i]'(by omega) = j at ej
    refine next_some (nx := j + 1) (x := e.2) (first' := .none) hI hS (fun R r => sn_led hS by0 dr ok.led ?_) fun h' hI' sb => ?_
    · rw [bl, ex, ej]; exact r
    · refine q _ _ (by rw [List.getElem?_map, Array.getElem?_toList, ex]; rfl) ⟨⟨j + 1, hI', ?_⟩, hS.at fun o g => by rw [sb.2 a hne]; exact g⟩ (moved_of fun b o nb g => by rw [sb.2 b fun z => nb (z ▸ List.mem_singleton.mpr rfl)]; exact g)
      refine below_is ok.up (by omega) (fun k b hk hb => ?_) fun k b hk hb => ?_
      · rcases Nat.lt_or_eq_of_le (show k ≤ i by omega) with z | z
        · have := ok.up.lt z hb ej; exact Nat.lt_succ_of_lt (by assumption)
        · rw [z, ej] at hb; cases hb; exact Nat.le_refl _
      · have := ok.up.lt (show i < k by assumption) ej hb; assumption
  done := fun s Q E st q => by
    obtain ⟨⟨slot, hI, bl⟩, hS⟩ := st
    refine next_none hh hI hS (fun R r => sn_led hS by0 dr ok.led ?_) fun h' k => q _ (moved_of fun b o nb g => k b o (fun z => nb (z ▸ List.mem_singleton.mpr rfl)) g)
    rw [bl, Array.getElem?_eq_none (Nat.le_refl _)]; exact r
  self := fun i s Q E st q => let ⟨⟨_, hI, _⟩, _⟩ := st; self_ok hI q
theorem walkA (hh : A.handled = none) (hne : a ≠ I) (by1 : byT w = true) :
    WalksS prog w A I [I, a] [I] (fun x y => y = x) es.size (fun i v => ((pickOrder (w.params.setOrder a ep) es).toList.map (·.2))[i]? = some v) (fun i s => ItS s.heap I a (.int ((0 : Nat) : Int) 0) i es.size ep ∧ SSt s.heap a es ep t) where
  sub := fun b hb => by simp at hb; simp [hb]
  grefl := fun _ => rfl
  gtrans := fun _ _ _ h1 h2 => h2.trans h1
  frame := fun i s h' tk st _ k => ⟨st.1.at fun o e => k I (by simp) o e, st.2.at fun o e => k a (by simp) o e⟩
  item := fun i s Q E hi st q => by
    have hl : (pickOrder (w.params.setOrder a ep) es).size = es.size := by rw [← Array.length_toList, (pick_perm _ es).length_eq, Array.length_toList]
    have ex := Array.getElem?_eq_getElem (xs := pickOrder (w.params.setOrder a ep) es) (i := i) (by omega)
    generalize (pickOrder (w.params.setOrder a ep) es)[i]'(by omega) = e at ex
    refine next_some (nx := 0) (x := e.2) (first' := .none) st.1 st.2 (fun R r => sn_text st.2 by1 ?_) fun h' hI' sb => ?_
    · rw [ex]; exact r
    · exact q _ _ (by rw [List.getElem?_map, Array.getElem?_toList, ex]; rfl) ⟨hI', st.2.at fun o g => by rw [sb.2 a hne]; exact g⟩ (moved_of fun b o nb g => by rw [sb.2 b fun z => nb (z ▸ List.mem_singleton.mpr rfl)]; exact g)
  done := fun s Q E st q => by
    have hl : (pickOrder (w.params.setOrder a ep) es).size = es.size := by rw [← Array.length_toList, (pick_perm _ es).length_eq, Array.length_toList]
    refine next_none hh st.1 st.2 (fun R r => sn_text st.2 by1 ?_) fun h' k => q _ (moved_of fun b o nb g => k b o (fun z => nb (z ▸ List.mem_singleton.mpr rfl)) g)
    rw [Array.getElem?_eq_none (by exact Nat.le_of_eq (by assumption))]; exact r
  self := fun i s Q E st q => self_ok st.1 q
theorem walkB {ps : List Nat} {m : Nat} (hh : A.handled = none) (hne : a ≠ I) (hT : T ≠ I) (hp : ps.Perm (List.range es.size)) :
    WalksS prog w A I [I, a, T] [I] (fun x y => y = x) es.size (fun i v => (ps.filterMap fun p => (es[p]?).map (·.2))[i]? = some v) (fun i s => ItS s.heap I a (.ref T) i es.size ep ∧ SSt s.heap a es ep t ∧ ∃ o, s.heap.get? T = some o ∧ o.data = .seq (ps.map fun (p : Nat) => Value.int (p : Int) 0).toArray m) where
  sub := fun b hb => by simp at hb; simp [hb]
  grefl := fun _ => rfl
  gtrans := fun _ _ _ h1 h2 => h2.trans h1
  frame := fun i s h' tk st _ k => ⟨st.1.at fun o e => k I (by simp) o e, st.2.1.at fun o e => k a (by simp) o e, let ⟨o, g, d⟩ := st.2.2; ⟨o, k T (by simp) o g, d⟩⟩
  item := fun i s Q E hi st q => by
    obtain ⟨hI, hS, o, g, d⟩ := st
    have hl : ps.length = es.size := by rw [hp.length_eq, List.length_range]
    have ep' := List.getElem?_eq_getElem (l := ps) (i := i) (by omega)
    generalize ps[i]'(by omega) = p at ep'
    have pN : p < es.size := List.mem_range.mp (hp.mem_iff.mp (List.mem_of_getElem? ep'))
    have ex := Array.getElem?_eq_getElem pN
    generalize es[p] = e at ex
    have all : ∀ {l : List Nat}, (∀ x ∈ l, x < es.size) → ∀ (i p : Nat) (e : Int × Value), l[i]? = some p → es[p]? = some e → (l.filterMap fun p => (es[p]?).map (·.2))[i]? = some e.2 := by
      intro l
      induction l with
      | nil => intro _ i p e h; simp at h
      | cons x l ih =>
        intro hl i p e h he
        have hx := Array.getElem?_eq_getElem (hl x (List.mem_cons_self ..))
        rw [List.filterMap_cons, hx]
        cases i with
        | zero =>
          simp only [List.getElem?_cons_zero, Option.some.injEq] at h
          subst h
          rw [he] at hx
          cases hx
          rfl
        | succ i =>
          simp only [List.getElem?_cons_succ] at h
          exact ih (fun y hy => hl y (List.mem_cons_of_mem _ hy)) i p e h he
    refine drawn_some (p := p) (u := 0) (hx := e.1) (x := e.2) hI hS g d (by rw [List.getElem?_toArray, List.getElem?_map, ep']; rfl) ex fun h' hI' sb => ?_
    exact q _ _ (all (fun x hx => List.mem_range.mp (hp.mem_iff.mp hx)) i p e ep' ex) ⟨hI', hS.at fun o g => by rw [sb.2 a hne]; exact g, o, by rw [sb.2 T hT]; exact g, d⟩ (moved_of fun b o nb g => by rw [sb.2 b fun z => nb (z ▸ List.mem_singleton.mpr rfl)]; exact g)
  done := fun s Q E st q => by
    obtain ⟨hI, hS, o, g, d⟩ := st
    have hl : ps.length = es.size := by rw [hp.length_eq, List.length_range]
    exact drawn_none hh hI hS g d (by rw [List.getElem?_toArray, List.getElem?_eq_none (by rw [List.length_map]; exact Nat.le_of_eq (by assumption))]) fun h' k => q _ (moved_of fun b o nb g => k b o (fun z => nb (z ▸ List.mem_singleton.mpr rfl)) g)
  self := fun i s Q E st q => self_ok st.1 q
end
end StT
set_option maxHeartbeats 3200000
namespace StT
open PySem PyProof.Rows
section
variable {prog : Program} {w : World} {A : Around} {E : Value → Shared → Prop} {s : Shared} {a : Addr} {ep : Nat} {es : Array (Int × Value)} {t : SetTable}
/-- a walk over ys, from a new iterator on -/
def WOut (prog : Program) (w : World) (s s2 : Shared) (a I : Addr) (ys : List Value) : Prop := ∃ (fp : List Addr) (St : Nat → Shared → Prop), (∀ B : Around, B.handled = none → WalksS prog w B I fp [I] (fun x y => y = x) ys.length (fun i v => ys[i]? = some v) St) ∧ St 0 s2 ∧ (∀ b ∈ fp, b = a ∨ s.heap.objs.size ≤ b) ∧ s.heap.objs.size ≤ I ∧ (∀ b o, s.heap.get? b = some o → s2.heap.get? b = some o) ∧ s2.gens = s.gens ∧ s2.os = s.os ∧ s2.toks = s.toks
theorem iter_set {Q : Value → Shared → Prop} (hT : s.TypeIs (.ref a) "set") (hS : SSt s.heap a es ep t) (ok : TOk t (!byT w)) (hz : es.size < scanBound)
    (q : ∀ (I : Addr) (s2 : Shared) (ys : List Value), ys.Perm (es.toList.map (·.2)) → WOut prog w s s2 a I ys → Q (.ref I) s2) : wpAny (model prog w) A (pyIter (.ref a)) Q E s := by
  obtain ⟨oS, gS, dS, fit⟩ := id hS
  have la : a < s.heap.objs.size := Heap.lt_size gS
  refine wpAny_pyIter_slot hT F.slot_set_iter (wpAny_call_entry F.slot_set_iter hT entry_s_iter ?_ (F.args_set_iter_1 _))
  unfold Builtin.«frozenset.__iter__» Builtin.Frozenset.slot0 slotArgs
  simp only [List.isEmpty_nil, Bool.not_true, Bool.false_eq_true, ↓reduceIte, bind_assoc, List.length_nil, bne_self_eq_false]
  unfold Builtin.Frozenset.addrOf Builtin.Frozenset.sizeOf
  refine wpAny_bind (wpAny_pure ?_)
  dsimp only
  refine wpAny_bind (wpAny_pure ?_)
  refine wpAny_bind (wpAny_bind (wpAny_setEntries_of gS dS fit (wpAny_pure ?_)))
  unfold setDrawn
  refine wpAny_bind (wpAny_bind (wpAny_setState_of gS dS fit ?_))
  dsimp only
  refine wpAny_bind (ask_by (wpAny_pure ?_))
  show wpAny _ _ (if (!byT w && (!t.plain && decide (es.size > 1))) = true then _ else _) _ _ _
  have zl : es.size ≤ sizeLine := fits_of_scanBound hz
  by_cases c : (!byT w && (!t.plain && decide (es.size > 1))) = true
  · rw [if_pos c]
    refine wpAny_bind (draw_perm es.size (List.range es.size) s _ (by simp) fun ps d pm => ?_)
    have pl : ps.length = es.size := by rw [pm.length_eq, List.length_range]
    simp only [newTuple, newFields]
    refine wpAny_bind (wpAny_newObj_type ?_ (by show (ps.map _).toArray.size ≤ _; rw [List.size_toArray, List.length_map]; omega))
    refine wpAny_bind (wpAny_setEpoch_of (Heap.get?_push_of_some _ gS) dS fit ?_)
    refine wpAny_bind (wpAny_newObj_type (wpAny_pure ⟨_, rfl, "set_iterator", _, ⟨_, Heap.get?_push_size _ rfl, rfl⟩, slot_si_next.lookup, ?_⟩))
    have hl : (ps.filterMap fun p => (es[p]?).map (·.2)).Perm (es.toList.map (·.2)) := by
      have e1 := pm.filterMap fun p => (es[p]?).map (·.2)
      refine e1.trans (List.Perm.of_eq ?_)
      refine List.ext_getElem? fun k => ?_
      have key : ∀ m, m ≤ es.size → ((List.range m).filterMap fun p => (es[p]?).map (·.2)) = (es.toList.take m).map (·.2) := by
        intro m
        induction m with
        | zero => intro _; simp
        | succ m ih =>
          intro hm
          have ex := Array.getElem?_eq_getElem (xs := es) (i := m) (by assumption)
          rw [List.range_succ, List.filterMap_append, ih (by exact Nat.le_of_lt (by assumption)), List.take_add_one, List.map_append, Array.getElem?_toList, ex]
          simp [ex]
      rw [key es.size (Nat.le_refl _), List.take_of_length_le (by simp)]
    have hlen : (ps.filterMap fun p => (es[p]?).map (·.2)).length = es.size := by rw [hl.length_eq, List.length_map, Array.length_toList]
    refine q _ _ (ps.filterMap fun p => (es[p]?).map (·.2)) hl ⟨[(s.heap.push { cls := .type "tuple", data := .seq (ps.map fun (i : Nat) => rawInt (i : Int)).toArray }).objs.size, a, s.heap.objs.size], fun i s' => ItS s'.heap (s.heap.push { cls := .type "tuple", data := .seq (ps.map fun (i : Nat) => rawInt (i : Int)).toArray }).objs.size a (.ref s.heap.objs.size) i es.size ep ∧ SSt s'.heap a es ep t ∧ ∃ o, s'.heap.get? s.heap.objs.size = some o ∧ o.data = .seq (ps.map fun (p : Nat) => Value.int (p : Int) 0).toArray 0, fun B hB => ?_, ?_, ?_, ?_, ?_, rfl, rfl, rfl⟩
    · rw [hlen]
      refine walkB hB ?_ ?_ pm
      · rw [Heap.size_push]; exact Nat.ne_of_lt (Nat.lt_succ_of_lt la)
      · rw [Heap.size_push]; exact Nat.ne_of_lt (Nat.lt_succ_self _)
    · exact ⟨⟨_, Heap.get?_push_size _ rfl, rfl, rfl⟩, ⟨oS, Heap.get?_push_of_some _ (Heap.get?_push_of_some _ gS), dS, fit⟩, _, Heap.get?_push_of_some _ (Heap.get?_push_size _ rfl), rfl⟩
    · intro b hb
      simp only [List.mem_cons, List.not_mem_nil, or_false] at hb
      rcases hb with rfl | rfl | rfl
      · rw [Heap.size_push]; exact .inr (Nat.le_succ _)
      · exact .inl rfl
      · exact .inr (Nat.le_refl _)
    · rw [Heap.size_push]; exact Nat.le_succ _
    · exact fun b o e => Heap.get?_push_of_some _ (Heap.get?_push_of_some _ e)
  · rw [if_neg c]
    refine wpAny_bind (wpAny_pure ?_)
    refine wpAny_bind (wpAny_setEpoch_of gS dS fit ?_)
    simp only [newFields]
    refine wpAny_bind (wpAny_newObj_type (wpAny_pure ⟨_, rfl, "set_iterator", _, ⟨_, Heap.get?_push_size _ rfl, rfl⟩, slot_si_next.lookup, ?_⟩))
    have nI : a ≠ s.heap.objs.size := Nat.ne_of_lt la
    have fpo : ∀ b ∈ [s.heap.objs.size, a], b = a ∨ s.heap.objs.size ≤ b := fun b hb => by
      simp only [List.mem_cons, List.not_mem_nil, or_false] at hb
      rcases hb with rfl | rfl
      · exact .inr (Nat.le_refl _)
      · exact .inl rfl
    cases hb : byT w with
    | true =>
      have hl := (pick_perm (w.params.setOrder a ep) es).map (·.2)
      have hlen : ((pickOrder (w.params.setOrder a ep) es).toList.map (·.2)).length = es.size := by rw [hl.length_eq, List.length_map, Array.length_toList]
      refine q _ _ ((pickOrder (w.params.setOrder a ep) es).toList.map (·.2)) hl ⟨[s.heap.objs.size, a], fun i s' => ItS s'.heap s.heap.objs.size a (.int ((0 : Nat) : Int) 0) i es.size ep ∧ SSt s'.heap a es ep t, fun B hB => ?_, ⟨⟨_, Heap.get?_push_size _ rfl, rfl, rfl⟩, ⟨oS, Heap.get?_push_of_some _ gS, dS, fit⟩⟩, fpo, Nat.le_refl _, fun b o e => Heap.get?_push_of_some _ e, rfl, rfl, rfl⟩
      rw [hlen]
      exact walkA hB nI hb
    | false =>
      rw [hb] at c ok
      have dr : (!t.plain && decide (es.size > 1)) = false := by simpa using c
      have hlen : (es.toList.map (·.2)).length = es.size := by rw [List.length_map, Array.length_toList]
      refine q _ _ (es.toList.map (·.2)) (.refl _) ⟨[s.heap.objs.size, a], fun i s' => (∃ slot : Nat, ItS s'.heap s.heap.objs.size a (.int (slot : Int) 0) i es.size ep ∧ SetTable.below t.place slot = i) ∧ SSt s'.heap a es ep t, fun B hB => ?_, ⟨⟨0, ⟨_, Heap.get?_push_size _ rfl, rfl, rfl⟩, below_is ok.up (Nat.zero_le _) (fun i a h => absurd h (Nat.not_lt_zero _)) fun i a _ _ => Nat.zero_le _⟩, ⟨oS, Heap.get?_push_of_some _ gS, dS, fit⟩⟩, fpo, Nat.le_refl _, fun b o e => Heap.get?_push_of_some _ e, rfl, rfl, rfl⟩
      rw [hlen]
      exact walkC hB nI ok hb dr
end
end StT
set_option maxHeartbeats 3200000
namespace StT
open PySem PyProof.Rows
section
variable {prog : Program} {w : World} {A : Around} {E : Value → Shared → Prop} {s : Shared} {a : Addr} {ep : Nat} {es : Array (Int × Value)} {t : SetTable}
theorem collect_set {Q : List Value → Shared → Prop} (hh : A.handled = none) (hT : s.TypeIs (.ref a) "set") (hS : SSt s.heap a es ep t) (ok : TOk t (!byT w)) (hz : es.size < scanBound)
    (q : ∀ (ys : List Value) (s' : Shared), ys.Perm (es.toList.map (·.2)) → (∀ b o, s.heap.get? b = some o → s'.heap.get? b = some o) → s'.gens = s.gens → s'.os = s.os → Q ys s') : wpAny (model prog w) A (collect (.ref a)) Q E s := by
  obtain ⟨oS, gS, dS, fit⟩ := id hS
  have la : a < s.heap.objs.size := Heap.lt_size gS
  unfold collect
  refine wpAny_bind (wpAny_runValue (codeAny_builtin F.entry_proto_collect ?_))
  rw [Around.under_plainId F.plain_proto_collect _]
  refine wpAny_bind (m := newList []) (wpAny_newObj_type ?_)
  refine wpAny_pure ⟨plainId_quiet F.plain_list_iadd _, codeAny_builtin F.entry_list_iadd ?_⟩
  rw [Around.under_plainId F.plain_list_iadd _]
  obtain ⟨h1, eh1⟩ : ∃ h1, h1 = s.heap.push { cls := .type "list", data := .seq ([] : List Value).toArray } := ⟨_, rfl⟩
  have g1 : h1.get? s.heap.objs.size = some { cls := .type "list", data := .seq ([] : List Value).toArray } := by rw [eh1]; exact Heap.get?_push_size _ rfl
  have k1 : ∀ b o, s.heap.get? b = some o → h1.get? b = some o := fun b o e => by rw [eh1]; exact Heap.get?_push_of_some _ e
  have z1 : h1.objs.size = s.heap.objs.size + 1 := by rw [eh1, Heap.size_push]
  show wpAny _ A.in1 (Builtin.List.listExtendWith (.ref s.heap.objs.size) (.ref a) (.ref s.heap.objs.size)) _ _ { s with heap := s.heap.push { cls := .type "list", data := .seq ([] : List Value).toArray } }
  rw [← eh1]
  have T1 : Shared.TypeIs { s with heap := h1 } (.ref a) "set" := by
    obtain ⟨o, x, y⟩ := hT
    exact ⟨o, k1 _ _ x, y⟩
  unfold Builtin.List.listExtendWith
  refine wpAny_bind (wpAny_typeOf T1 ?_)
  have n1 : Builtin.List.listSameRef (.ref s.heap.objs.size) (.ref a) = false := by
    simp only [Builtin.List.listSameRef, beq_eq_false_iff_ne]
    exact Nat.ne_of_gt la
  have n2 : (Value.type "set" == Value.type "list") = false := by decide
  have n3 : (Value.type "set" == Value.type "tuple") = false := by decide
  simp only [n1, n2, n3, Bool.or_false, Bool.false_eq_true, if_false]
  refine wpAny_bind (iter_set (s := { s with heap := h1 }) T1 (hS.at fun o e => k1 _ _ e) ok hz fun I s2 ys pm W => ?_)
  obtain ⟨fp, St, wk, st0, fpo, Ige, k2, e1, e2, e3⟩ := W
  have T2 : s2.TypeIs (.ref a) "set" := by
    obtain ⟨o, x, y⟩ := T1
    exact ⟨o, k2 _ _ x, y⟩
  refine wpAny_bind (wpAny_holding ?_)
  unfold Builtin.List.listLengthHint
  refine wpAny_bind (wpAny_specialOf T2 F.slot_set_len.lookup ?_)
  generalize hid : ("set.__len__" : String) = id0
  dsimp only
  rw [show splitId id0 = some ("set", "__len__") from by subst hid; decide +kernel]
  dsimp only
  refine wpAny_bind (wpAny_isInstance (b := true) T2 (by rw [isSubtype_type]; kernel_rfl) ?_)
  simp only [Bool.not_true, Bool.false_eq_true, if_false]
  subst hid
  rw [if_pos (by decide +kernel)]
  refine wpAny_bind (wpAny_typeOf T2 (wpAny_pure ?_))
  rw [if_pos (by decide +kernel)]
  refine wpAny_bind (wpAny_rule ?_)
  have g2 := k2 _ _ g1
  have nL : s.heap.objs.size ∉ fp := fun z => by
    rcases fpo _ z with x | x
    · exact absurd x (Nat.ne_of_gt la)
    · rw [z1] at x; exact absurd x (Nat.not_succ_le_self _)
  have nI : s.heap.objs.size ≠ I := fun z => by
    rw [z1, ← z] at Ige
    exact absurd Ige (Nat.not_succ_le_self _)
  refine wpAny_bind ?_
  unfold Builtin.List.listTouch
  refine wpAny_bind (m := updateSeq s.heap.objs.size (·.push .none)) (wpAny_updateSeq g2 rfl ?_)
  have g3 := Heap.get?_update_self (Obj.mapSeq (·.push Value.none)) g2 rfl
  refine wpAny_updateSeq g3 rfl ?_
  have g4 := Heap.get?_update_self (Obj.mapSeq (·.pop)) g3 rfl
  have oth : ∀ b o, b ≠ s.heap.objs.size → s2.heap.get? b = some o → ((s2.heap.update s.heap.objs.size (Obj.mapSeq (·.push Value.none))).update s.heap.objs.size (Obj.mapSeq (·.pop))).get? b = some o := fun b o nb e => by
    rw [Heap.get?_update_other _ _ (Ne.symm nb), Heap.get?_update_other _ _ (Ne.symm nb)]; exact e
  have hB : A.in1.handled = none := by simp [hh]
  have W := wk A.in1 hB
  have ylen : ys.length = es.size := by rw [pm.length_eq, List.length_map, Array.length_toList]
  have yz : ys.length ≤ sizeLine := by rw [ylen]; exact fits_of_scanBound hz
  refine wpAny_pure ⟨plainId_quiet F.plain_extend_loop _, codeAny_extend_loopS W yz s.heap.objs.size nL _ ys.length 0 _ _ _ rfl (Nat.zero_le _) (W.frame 0 s2 _ s2.toks st0 (Nat.le_refl _) fun b hb o e => oth b o (fun z => nL (z ▸ hb)) e) g4 (ItemsOf.nil _) fun s3 acc c mv g5 it => ?_⟩
  refine wpAny_bind (wpAny_load g5 (wpAny_pure ?_))
  have ea : acc.toList = ys := by
    refine List.ext_getElem? fun k => ?_
    rw [Array.getElem?_toList]
    by_cases hk : k < acc.size
    · have e := Array.getElem?_eq_getElem hk
      rw [e]
      exact (it.2 k _ e).symm
    · rw [Array.getElem?_eq_none (by exact Nat.not_lt.mp (by assumption)), List.getElem?_eq_none (by have := it.1; omega)]
  rw [ea]
  refine q ys s3 pm (fun b o e => ?_) ((mv.gens).trans e1) (mv.os.trans e2)
  have lb : b < s.heap.objs.size := Heap.lt_size e
  refine mv.heap b o ?_ (oth b o (Nat.ne_of_lt lb) (k2 _ _ (k1 _ _ e)))
  simp only [List.mem_cons, List.not_mem_nil, or_false, not_or]
  refine ⟨Nat.ne_of_lt lb, fun z => ?_⟩
  rw [z1, ← z] at Ige
  exact absurd (Nat.lt_of_lt_of_le (Nat.lt_succ_of_lt lb) Ige) (Nat.lt_irrefl _)
end
end StT
set_option maxHeartbeats 3200000
namespace Srt
open PySem PySem.W PyProof.Rows
section
variable {prog : Program} {w : World} {A : Around} {E : Value → Shared → Prop} {s : Shared}
/-- sorted of whatever is collected, wherever the draws have come to -/
theorem sorted_any {κ : SortKind} {lt : List Value → Nat → Nat → Bool} (O : ∀ vs, Ord (lt vs)) {v : Value} (I : List Value → Prop) {Q : Value → Shared → Prop} (h64 : ∀ vs, I vs → vs.length < 64)
    (hcol : ∀ (Q : List Value → Shared → Prop), (∀ (vs : List Value) (s1 : Shared), I vs → (∀ b o, s.heap.get? b = some o → s1.heap.get? b = some o) → s1.gens = s.gens → s1.os = s.os → Q vs s1) → wpAny (model prog w) A.in1 (collect v) Q E s)
    (hk : ∀ (vs : List Value) (s1 : Shared), I vs → 2 ≤ vs.length → ∀ Q : SortKind → Shared → Prop, Q κ s1 → wpAny (model prog w) A.in1.in1 (keyKind' vs.toArray) Q E s1)
    (hc : ∀ (vs : List Value) (s1 : Shared), I vs → ∀ i j (C : Bool → Shared → Prop), i < vs.length → j < vs.length → C (lt vs i j) s1 → kas_ask prog w A.in1.in1 κ vs i j C s1)
    (h : ∀ (vs : List Value) (p : Array Nat) (s1 : Shared) (h' : Heap) (l e : Nat), I vs → Pm vs.length p → Sto (lt vs) p vs.length → (∀ b o, s.heap.get? b = some o → s1.heap.get? b = some o) → s1.gens = s.gens → s1.os = s.os → (∀ b o, s1.heap.get? b = some o → h'.get? b = some o) → s1.heap.objs.size ≤ l → h'.get? l = some (seqObj "list" (p.toList.map fun i => vs.getD i Value.none).toArray e) → Q (.ref l) { s1 with heap := h' }) :
    wpAny (model prog w) A (call (.builtin "sorted") [v]) Q E s := by
  refine Calls.call_function_entry kind_sorted plain_sorted entry_sorted (args_sorted1 _) ?_
  unfold Builtin.«sorted»
  refine wpAny_bind (m := checkCount "sorted" 1 1 _) (wpAny_pure ?_)
  refine wpAny_bind (hcol _ fun vs s1 hI k1 eg eo => ?_)
  have h64 := h64 vs hI
  refine wpAny_bind (wpAny_newList ?_ (by rw [sizeLine_eq]; omega))
  have hoL : (s1.heap.push (seqObj "list" vs.toArray 0)).get? s1.heap.objs.size = some (seqObj "list" vs.toArray 0) := Heap.get?_push_size _ rfl
  show wpAny _ _ _ _ _ { s1 with heap := s1.heap.push (seqObj "list" vs.toArray 0) }
  have k3 : ∀ b o, s1.heap.get? b = some o → b ≠ s1.heap.objs.size ∧ (s1.heap.push (seqObj "list" vs.toArray 0)).get? b = some o := fun b o q =>
    ⟨Nat.ne_of_lt (Heap.lt_size q), Heap.get?_push_of_some _ q⟩
  refine wpAny_bind (wpAny_holding (wpAny_call_entry slot_list_sort ⟨_, hoL, rfl⟩ entry_list_sort (list_sort_raw (s := { s1 with heap := s1.heap.push (seqObj "list" vs.toArray 0) }) (κ := κ) (O vs) hoL h64 (fun h' k l2 Q q => ?_) (fun h' k i j C hi hj q => ?_) fun p hp hs => ⟨_, rfl, ?_⟩) (args_list_sort _)))
  · exact hk vs { s1 with heap := h' } hI l2 Q q
  · exact hc vs { s1 with heap := h' } hI i j C hi hj q
  · refine wpAny_pure ⟨_, rfl, ?_⟩
    obtain ⟨e, he⟩ : ∃ e, (sortedHeap (s1.heap.push (seqObj "list" vs.toArray 0)) s1.heap.objs.size vs (p.toList.map fun i => vs.getD i Value.none).toArray).get? s1.heap.objs.size = some (seqObj "list" (p.toList.map fun i => vs.getD i Value.none).toArray e) := by
      unfold sortedHeap
      obtain ⟨e1, ho1⟩ : ∃ e1, ((s1.heap.push (seqObj "list" vs.toArray 0)).update s1.heap.objs.size (Obj.mapSeq fun _ => #[])).get? s1.heap.objs.size = some (seqObj "list" #[] e1) := ⟨_, get?_update_seq hoL (fun _ => #[])⟩
      have ho6 : ((((s1.heap.push (seqObj "list" vs.toArray 0)).update s1.heap.objs.size (Obj.mapSeq fun _ => #[])).push (seqObj "tuple" vs.toArray 0)).push (seqObj "list" #[] 0)).get? s1.heap.objs.size = some (seqObj "list" #[] e1) := Heap.get?_push_of_some _ (Heap.get?_push_of_some _ ho1)
      exact ⟨_, get?_update_seq ho6 fun _ => _⟩
    refine h vs p s1 _ s1.heap.objs.size e hI hp hs k1 eg eo (fun b o q => ?_) (Nat.le_refl _) he
    have q2 := k3 b o q
    unfold sortedHeap
    rw [Heap.get?_update_ne _ _ _ _ q2.1]
    refine Heap.get?_push_of_some _ (Heap.get?_push_of_some _ ?_)
    rw [Heap.get?_update_ne _ _ _ _ q2.1]
    exact q2.2
end
end Srt
namespace StT
open PySem PyProof.Rows L2
theorem Inv.any {X : Cx} {pins : List (Addr × Obj)} {σ : L2.St} {H : Hp} {s s' : Shared} (I : L2.Inv X pins σ H s) (k : ∀ b o, s.heap.get? b = some o → s'.heap.get? b = some o) (hg : s'.gens = s.gens) (ho : s'.os = s.os) : L2.Inv X pins σ H s' := by
  have J := I.kept (t' := s'.toks) k
  exact ⟨J.ok, by rw [ho]; exact J.os, by rw [hg]; exact J.bare, J.base, J.loc, J.cell, J.free, J.freeC, J.pin, J.hok, J.len⟩
/-- the ints of a set's entries -/
theorem ints_of {prog : Program} {w : World} : ∀ {l : List (Int × Value)}, ElemsOf (intKind prog w) l → Dis (intKind prog w) l → ∃ ks : List Int, Vals (ks.map V.int) (l.map (·.2)) ∧ ks.Nodup ∧ ∀ k, k ∈ ks ↔ ∃ e ∈ l, (intKind prog w).is k e.2 = true
  | [], _, _ => ⟨[], .nil, List.nodup_nil, fun k => by simp⟩
  | e :: l, h, d => by
    obtain ⟨ks, v, nd, mem⟩ := ints_of (l := l) (fun x hx => h x (List.mem_cons_of_mem _ hx)) (List.Pairwise.tail d)
    obtain ⟨⟨k, hk, _⟩, _⟩ := h e (List.mem_cons_self ..)
    obtain ⟨t, et⟩ := Value.isInt_shape hk
    refine ⟨k :: ks, .cons ⟨t, et⟩ v, List.nodup_cons.mpr ⟨fun hm => ?_, nd⟩, fun k' => ?_⟩
    · obtain ⟨e', he', z⟩ := (mem k).mp hm
      exact List.rel_of_pairwise_cons d he' k ⟨hk, z⟩
    · rw [List.mem_cons, mem k']
      constructor
      · rintro (rfl | ⟨e', he', z⟩)
        · exact ⟨e, List.mem_cons_self .., hk⟩
        · exact ⟨e', List.mem_cons_of_mem _ he', z⟩
      · rintro ⟨e', he', z⟩
        rcases List.mem_cons.mp he' with rfl | he'
        · exact .inl ((intKind prog w).inj e'.2 k' k z hk)
        · exact .inr ⟨e', he', z⟩
theorem vals_perm {ks : List Int} {us vs : List Value} (v : Vals (ks.map V.int) us) (p : vs.Perm us) : ∃ ks' : List Int, Vals (ks'.map V.int) vs ∧ ks'.Perm ks := by
  induction p generalizing ks with
  | nil => cases ks with
    | nil => exact ⟨[], .nil, .refl _⟩
    | cons _ _ => cases v
  | cons x p ih =>
    cases ks with
    | nil => cases v
    | cons k ks =>
      cases v with
      | cons r t =>
        obtain ⟨ks', v', p'⟩ := ih t
        exact ⟨k :: ks', .cons r v', p'.cons k⟩
  | swap x y l =>
    cases ks with
    | nil => cases v
    | cons k ks =>
      cases v with
      | cons r t =>
        cases ks with
        | nil => cases t
        | cons k2 ks =>
          cases t with
          | cons r2 t2 => exact ⟨k2 :: k :: ks, .cons r2 (.cons r t2), .swap _ _ _⟩
  | trans p1 p2 ih1 ih2 =>
    obtain ⟨k1, v1, q1⟩ := ih2 v
    obtain ⟨k2, v2, q2⟩ := ih1 v1
    exact ⟨k2, v2, q2.trans q1⟩
end StT
set_option maxHeartbeats 3200000
namespace StT
open PySem PySem.W PyProof.Rows L2 Srt
def kOf : Value → Key
  | .int k _ => .inl k
  | .str x _ => .inr x
  | _ => .inl 0
theorem vals_k {ks : List Int} {vs : List Value} (v : Vals (ks.map V.int) vs) {i : Nat} (hi : i < ks.length) : ∃ t, vs.getD i Value.none = .int (ks.getD i 0) t := by
  obtain ⟨a, ha, t, rfl⟩ := Vals.get v (i := i) (x := V.int (ks.getD i 0)) (by simp [hi])
  exact ⟨t, by simp [List.getD, ha]⟩
theorem sorted_set {X : Cx} {pins : List (Addr × Obj)} {σ : L2.St} {H : Hp} {s : Shared} {Q : VK} (I : L2.Inv X pins σ H s) (hh : X.A.handled = none) {s2 : Shared} (k0 : ∀ b o, s.heap.get? b = some o → s2.heap.get? b = some o) (hg : s2.gens = s.gens) (hos : s2.os = s.os) {a : Addr} {S : Int → Bool} {n : Nat} (u : SetU (intKind X.prog X.w) s2.heap a S n (!byT X.w)) (n64 : n < 64)
    (q : ∀ (l : Addr) (ms : List Int), H l = none → ms.Pairwise (· < ·) → (∀ x, x ∈ ms ↔ S x = true) → Q (.ref l) (upd H l (.lst (ms.map V.int)))) : wpAny (model X.prog X.w) X.A (call (.builtin "sorted") [.ref a]) (L2.EP X pins σ Q) X.xe s2 := by
  obtain ⟨o, es, ep, t, ho, hex, hd, el, mem, sz, fit, hn, ok, dis⟩ := u
  obtain ⟨ks, kv, knd, kmem⟩ := ints_of el dis
  have kl : ks.length = n := by
    have e1 : ks.length = es.size := by
      have := kv.length
      simp only [List.length_map, Array.length_toList] at this
      assumption
    omega
  refine sorted_any (κ := oneType') (lt := fun vs i j => ltR [kOf (vs.getD i Value.none)] [kOf (vs.getD j Value.none)]) (fun vs => ord_rows fun i => [kOf (vs.getD i Value.none)]) (fun vs => ∃ ks' : List Int, Vals (ks'.map V.int) vs ∧ ks'.Perm ks) (fun vs ⟨ks', v, p⟩ => ?_) (fun Q hq => ?_) (fun vs s1 ⟨ks', v, p⟩ l2 Q hq => ?_) (fun vs s1 ⟨ks', v, p⟩ i j C hi hj hC => ?_) fun vs pp s1 h' l e ⟨ks', v, p⟩ pm st k1 eg eo k2 zl hl => ?_
  · have := v.length
    rw [List.length_map, p.length_eq] at this
    omega
  · refine collect_set (ep := ep) (es := es) (t := t) (by simp [hh]) ⟨o, ho, hex.1⟩ ⟨o, ho, hd, fit⟩ ok sz fun ys s' pm k eg eo => ?_
    obtain ⟨ks', v', p'⟩ := vals_perm kv pm
    exact hq ys s' ⟨ks', v', p'⟩ k eg eo
  · refine kas_kind (s := s1) (T := Value.type "int") l2 (fun x hx => ?_) rfl rfl hq
    clear hq l2 p
    have : ∀ {ns : List Int} {us : List Value}, Vals (ns.map V.int) us → ∀ v ∈ us, ∃ x t, v = Value.int x t := by
      intro ns
      induction ns with
      | nil => intro us hu v hv; cases hu; cases hv
      | cons n ns ih =>
        intro us hu v hv
        cases hu with
        | cons r t =>
          rcases List.mem_cons.mp hv with rfl | hv
          · obtain ⟨t, rfl⟩ := r; exact ⟨_, _, rfl⟩
          · exact ih t v hv
    obtain ⟨y, t, rfl⟩ := this v x hx
    exact Looks.of_pure rfl
  · have lv := v.length
    rw [List.length_map] at lv
    obtain ⟨t1, e1⟩ := vals_k v (i := i) (by omega)
    obtain ⟨t2, e2⟩ := vals_k v (i := j) (by omega)
    show wpAny _ _ (keyLt' oneType' (vs.getD i Value.none) (vs.getD j Value.none)) C _ _
    rw [e1, e2] at hC ⊢
    rw [keyLt'_oneType]
    refine key_lt (x := Sum.inl (ks'.getD i 0)) (y := Sum.inl (ks'.getD j 0)) rfl ⟨t1, rfl⟩ ⟨t2, rfl⟩ ?_
    have : ltR [Sum.inl (ks'.getD i 0)] [Sum.inl (ks'.getD j 0)] = ltK (Sum.inl (ks'.getD i 0)) (Sum.inl (ks'.getD j 0)) := by
      unfold ltR
      split
      · rename_i e; rw [e, ltK_irr]; rfl
      · rfl
    rw [← this]; exact hC
  · have lv := v.length
    rw [List.length_map] at lv
    have J : L2.Inv X pins σ H s1 := Inv.any I (fun b o z => k1 _ _ (k0 _ _ z)) (eg.trans hg) (eo.trans hos)
    rw [← lv] at pm st
    have pl := pm.toList
    have mem' : ∀ i ∈ pp.toList, i < ks'.length := fun i hi => by simpa using pl.mem_iff.mp hi
    have ppm : (pp.toList.map fun i => ks'.getD i 0).Perm ks' := by
      have := pl.map (fun i => ks'.getD i (0 : Int))
      rwa [map_range_getD] at this
    have nd : (pp.toList.map fun i => ks'.getD i 0).Nodup := (ppm.trans p).nodup_iff.mpr knd
    have pw : (pp.toList.map fun i => ks'.getD i (0 : Int)).Pairwise (· < ·) := by
      have le : (pp.toList.map fun i => ks'.getD i (0 : Int)).Pairwise (· ≤ ·) := by
        rw [List.pairwise_map]
        refine List.Pairwise.imp_of_mem ?_ (st.pairwise pm.size)
        intro x y hx hy hab
        obtain ⟨t1, e1⟩ := vals_k v (mem' x hx)
        obtain ⟨t2, e2⟩ := vals_k v (mem' y hy)
        rw [e1, e2] at hab
        unfold ltR at hab
        split at hab
        · rename_i e; injection e with e; omega
        · have hab : decide (ks'.getD y 0 < ks'.getD x 0) = false := hab
          rw [decide_eq_false_iff_not] at hab
          exact Int.not_lt.mp (by assumption)
      refine List.Pairwise.imp₂ (fun a b h1 h2 => ?_) le nd
      have : a ≠ b := h2
      omega
    have vv : Vals ((pp.toList.map fun i => ks'.getD i 0).map V.int) (pp.toList.map fun i => vs.getD i Value.none) := by
      clear hl pw ppm pl st pm nd
      generalize pp.toList = il at mem'
      induction il with
      | nil => exact .nil
      | cons i il ih =>
        refine .cons ?_ (ih fun j hj => mem' j (.tail _ hj))
        obtain ⟨t1, e1⟩ := vals_k v (mem' i (.head _))
        exact ⟨t1, e1⟩
    refine ⟨.ref l, _, J.laid (t' := s1.toks) (o := .lst ((pp.toList.map fun i => ks'.getD i 0).map V.int)) k2 zl ⟨?_, _, e, vv, hl⟩, rfl, q l _ (J.hok.fresh zl) pw fun x => ?_⟩
    · rw [List.length_map, ppm.length_eq, p.length_eq, kl, sizeLine_eq]; omega
    · rw [(ppm.trans p).mem_iff, kmem x, mem x]
end StT
set_option maxHeartbeats 1000000
namespace L2
open PySem PySem.W PyProof.Rows StT
section
variable {X : Cx} {e : Expr} {te : TE} {p p2 pos pos2 : Pos}
theorem met_mem {ns : List Int} {k : Int} : metF (fun i => ns.getD i 0) ns.length k = true ↔ k ∈ ns := by
  unfold metF
  rw [List.any_eq_true]
  constructor
  · rintro ⟨j, hj, h⟩
    have hj := List.mem_range.mp hj
    rw [decide_eq_true_eq] at h
    rw [h]
    show ns.getD j 0 ∈ ns
    rw [List.getD_eq_getElem?_getD, List.getElem?_eq_getElem hj]
    exact List.getElem_mem hj
  · intro h
    obtain ⟨j, hj, rfl⟩ := List.mem_iff_getElem.mp h
    refine ⟨j, List.mem_range.mpr hj, ?_⟩
    rw [decide_eq_true_eq]
    show ns[j] = ns.getD j 0
    rw [List.getD_eq_getElem?_getD, List.getElem?_eq_getElem hj]; rfl
end
end L2
set_option maxHeartbeats 1000000
namespace L2
open PySem PySem.W PyProof.Rows StT
section
variable {X : Cx} {e : Expr} {te : TE} {p p2 pos pos2 : Pos}
/-- sorted(set(a list of ints)) -/
def tSortSetL (K : PySem.W.Frag) (te : TE) : TE := fun σ H Q => te σ H fun x H1 => ∃ (a : Addr) (ns : List Int), x = .ref a ∧ SqL K H1 a (ns.map V.int) ∧ ns.length < 64 ∧ ∀ (l : Addr) (ms : List Int), H1 l = none → ms.Pairwise (· < ·) → (∀ x, x ∈ ms ↔ x ∈ ns) → Q (.ref l) (upd H1 l (.lst (ms.map V.int)))
theorem pe_sortsetL (hc : X.calm = true) (he0 : PE X e te) (hg : Gl X "sorted") (hm : X.mg "sorted" = none) (hg2 : Gl X "set") (hm2 : X.mg "set" = none)
    (hs1 : starEach [.Call (.Name "set" p2) [e] [] pos2] X.env = [(false, eval (.Call (.Name "set" p2) [e] [] pos2) X.env)] := by rfl) (hs2 : starEach [e] X.env = [(false, eval e X.env)] := by rfl) :
    PE X (.Call (.Name "sorted" p) [.Call (.Name "set" p2) [e] [] pos2] [] pos) (tSortSetL X.K te) := by
  intro pins s σ H Q I h
  refine wpAny_Call_Name_kw (ld_blt I hg hm (show bootBuiltins "sorted" = some (.builtin "sorted") by decide +kernel) ?_ (by decide) (by decide))
  refine PyProof.Rows.callWith_builtin1 (rest := []) ?_ hs1 rfl
  rw [hs1]
  show wpAny _ _ (spliced ((false, eval (.Call (.Name "set" p2) [e] [] pos2) X.env) :: backTo pos (starEach [] X.env))) _ _ s
  refine Calls.spliced_cons ?_
  refine wpAny_Call_Name_kw (ld_blt I hg2 hm2 (show bootBuiltins "set" = some (.type "set") by decide +kernel) ?_ (by decide) (by decide))
  refine PyProof.Rows.callWith_type1 (rest := []) ?_ hs2 rfl
  rw [hs2]
  show wpAny _ _ (spliced ((false, eval e X.env) :: backTo pos2 (starEach [] X.env))) _ _ s
  refine Calls.spliced_cons (thn (he0 pins s σ H _ I h) fun u s1 ⟨x, H1, I1, r1, q1⟩ => Calls.spliced_nil ?_)
  obtain ⟨a, ns, rfl, hq, h64, q⟩ := q1
  cases r1
  have hh : X.A.handled = none := I1.ok.hd hc
  have fin : ∀ (its : List Value) (h' : Heap) (tk m : Nat), its.length = ns.length → m ≤ its.toArray.size → SetU (intKind X.prog X.w) h' s1.heap.objs.size (metF (fun i => ns.getD i 0) its.toArray.size) m (!byT X.w) → (∀ b o, s1.heap.get? b = some o → h'.get? b = some o) → wpAny (model X.prog X.w) X.A (spliced (backTo pos (starEach [] X.env))) (fun vs s2 => wpAny (model X.prog X.w) X.A (call (.builtin "sorted") (.ref s1.heap.objs.size :: vs)) (EP X pins σ Q) X.xe s2) X.xe { s1 with heap := h', toks := tk } := fun its h' tk m le mi u kp => by
    refine Calls.spliced_nil ?_
    have ez : its.toArray.size = ns.length := by rw [List.size_toArray]; exact le
    rw [ez] at mi u
    exact sorted_set I1 hh (s2 := { s1 with heap := h', toks := tk }) kp rfl rfl u (by exact Nat.lt_of_le_of_lt (by assumption) (by assumption)) fun l ms hn pw mm => q l ms hn pw fun x => (mm x).trans met_mem
  have vi : ∀ {its : List Value}, Vals (ns.map V.int) its → ∀ i v, its.toArray[i]? = some v → (intKind X.prog X.w).is (ns.getD i 0) v = true ∧ v.scannable = true := fun {its} rv i v hv => by
    have le := rv.length
    rw [List.length_map] at le
    rw [List.getElem?_toArray] at hv
    have hi := (List.getElem?_eq_some_iff.mp hv).1
    obtain ⟨t, e⟩ := vals_k rv (i := i) (by omega)
    rw [List.getD_eq_getElem?_getD, hv] at e
    have e : v = .int (ns.getD i 0) t := e
    rw [e]
    exact ⟨intKind_is _ _ _ _, rfl⟩
  obtain ⟨its, rv, ht, hz⟩ := I1.list hq
  have le := rv.length
  rw [List.length_map] at le
  exact call_set_list (knd := intKind X.prog X.w) (val := fun i => ns.getD i 0) hh ht.isList (vi rv) (by rw [List.size_toArray]; unfold scanBound; omega) fun h' tk m mi u kp => fin its h' tk m (by exact Eq.symm (by assumption)) mi u kp
end
end L2
set_option maxHeartbeats 1000000
namespace K65
open PySem L2 Wk
def top (i : Nat) : Stmt := PySem.Challenge.pw_joinedever_k65_papers_through_moments.main.body.getD i (.Pass ⟨0, 0, 0, 0⟩)
abbrev sLesser : Stmt := top 1
abbrev sDeedsBy : Stmt := top 3
abbrev sStandB : Stmt := top 4
abbrev sStretches : Stmt := top 5
abbrev sBeside : Stmt := top 7
abbrev sWays : Stmt := top 8
abbrev sPart : Stmt := top 9
abbrev sWay : Stmt := top 11
abbrev sCut : Stmt := top 12
abbrev sPaper : Stmt := top 14
abbrev sWithin : Stmt := top 16
abbrev sThrough : Stmt := top 17
abbrev sCell : Stmt := top 19
abbrev sDeck : Stmt := top 20
abbrev sDraw : Stmt := top 21
abbrev sNames : Stmt := top 22
abbrev sMany : Stmt := top 23
abbrev sWeight : Stmt := top 24
abbrev sTie : Stmt := top 25
abbrev sGap : Stmt := top 26
abbrev sHistory : Stmt := top 27
abbrev sLStand : Stmt := top 28
abbrev sWayR : Stmt := top 29
abbrev sCutR : Stmt := top 30
abbrev sPaperR : Stmt := top 31
abbrev sMoments : Stmt := top 32
abbrev sCount : Stmt := top 33
abbrev sLWithin : Stmt := top 34
abbrev sPieceR : Stmt := top 35
abbrev sLWhole : Stmt := top 36
abbrev sThroughR : Stmt := top 37
abbrev sLaw : Stmt := top 38
structure Txt (mg : Str → Option Value) : Prop where
  isinstance : mg "isinstance" = none
  int : mg "int" = none
  bool : mg "bool" = none
  tuple : mg "tuple" = none
  len : mg "len" = none
  range : mg "range" = none
  sum : mg "sum" = none
  str : mg "str" = none
  max : mg "max" = none
  min : mg "min" = none
  sorted : mg "sorted" = none
  reversed : mg "reversed" = none
  zip : mg "zip" = none
  set : mg "set" = none
/-- a stand of ties -/
def StandAt (H : Hp) (st : Addr) (S : List T4) : Prop := ∃ rs : List Addr, H st = some (.tup (rs.map V.ref)) ∧ TiesAt H rs S
theorem StandAt.same {H H' : Hp} {st : Addr} {S : List T4} (h : StandAt H st S) (s : Same H H') : StandAt H' st S := let ⟨rs, a, b⟩ := h; ⟨rs, s _ _ a, b.same s⟩
def spBeside : Sp := fun vs H Q _ => ∃ (N : Nat) (st : Addr) (S : List T4), vs = [.int (N : Int), .ref st] ∧ StandAt H st S ∧ InN N S ∧ N ≤ 60 ∧ S.length ≤ 100 ∧ ∀ b H', Same H H' → BesAt H' b N (nbrs S) → Q (.ref b) H'
def spWays : Sp := fun vs H Q _ => ∃ (N : Nat) (st : Addr) (S : List T4) (p : Nat), vs = [.int (N : Int), .ref st, .int (p : Int)] ∧ StandAt H st S ∧ InN N S ∧ N ≤ 60 ∧ S.length ≤ 100 ∧ p < N ∧ ∀ a H', Same H H' → WaysAt H' a (waysF N S p) → Q (.ref a) H'
def spPart : Sp := fun vs H Q _ => ∃ (N : Nat) (st : Addr) (S : List T4) (p : Nat), vs = [.int (N : Int), .ref st, .int (p : Int)] ∧ StandAt H st S ∧ InN N S ∧ N ≤ 60 ∧ S.length ≤ 100 ∧ p < N ∧ ∀ a H', Same H H' → H' a = some (.tup (((partF N S p).map Int.ofNat).map V.int)) → Q (.ref a) H'
def spStandB : Sp := fun vs H Q _ => ∃ (h : Addr) (N : Nat) (ds : List Dd) (n : Nat), vs = [.ref h, .int (n : Int)] ∧ HistAt H h N ds ∧ Right N ds ∧ n ≤ ds.length ∧ ∀ st S H', Same H H' → StandAt H' st S → Srtd S (thr (ds.take n)) → Q (.ref st) H'
/-- a sorted list of rows is a sorted stand -/
theorem rows_stand {H H' : Hp} {qs qs' : List Srt.Row} {S : List T4} {st : Addr} (hat : ∀ q ∈ qs, IsTie q.2 ∧ H q.1 = some (.tup (q.2.map kV))) (hS : (qs.map fun q => tieOf q.2).Perm S) (perm : qs'.Perm qs) (srt : qs'.Pairwise fun a b => Srt.ltR b.2 a.2 = false) (s : Same H H') (hst : H' st = some (.tup (qs'.map Srt.rRef))) :
    StandAt H' st (qs'.map fun q => tieOf q.2) ∧ Srtd (qs'.map fun q => tieOf q.2) S := by
  have hk : ∀ q ∈ qs', keysOf (tieOf q.2) = q.2 := fun q hq => by
    obtain ⟨⟨t, e⟩, _⟩ := hat q (perm.mem_iff.mp hq)
    rw [e, tieOf_keys]
  refine ⟨⟨qs'.map (·.1), ?_, ?_⟩, (perm.map _).trans hS, ?_⟩
  · have : (qs'.map (·.1)).map V.ref = qs'.map Srt.rRef := by rw [List.map_map]; rfl
    rw [this]; exact hst
  · refine ⟨by simp, fun i a t ha ht => ?_⟩
    obtain ⟨q, hq, rfl⟩ := map_some ha
    rw [List.getElem?_map, hq] at ht
    cases ht
    obtain ⟨⟨t, e⟩, h9⟩ := hat q (perm.mem_iff.mp (List.mem_of_getElem? hq))
    show _ = some (HO.tup (tieV (tieOf q.2)))
    rw [e, tieOf_keys, ← keys_tieV, ← e]
    exact s _ _ h9
  · rw [List.pairwise_map]
    refine srt.imp_of_mem fun {a b} ha hb h => ?_
    rw [hk a ha, hk b hb]; exact h
def spWay : Sp := fun vs H Q _ => ∃ (N : Nat) (st : Addr) (S : List T4) (p q : Nat), vs = [.int (N : Int), .ref st, .int (p : Int), .int (q : Int)] ∧ StandAt H st S ∧ InN N S ∧ N ≤ 60 ∧ S.length ≤ 100 ∧ p < N ∧ q < N ∧ ∀ x o H', Same H H' → (waysF N S p)[q]? = some o → WayV H' x o → Q x H'
def spCut : Sp := fun vs H Q _ => ∃ (N : Nat) (st : Addr) (S : List T4) (p q : Nat), vs = [.int (N : Int), .ref st, .int (p : Int), .int (q : Int)] ∧ StandAt H st S ∧ InN N S ∧ N ≤ 60 ∧ S.length ≤ 100 ∧ p < N ∧ ∀ x H', Same H H' → (q ∈ partF N S p → x = .non) → (q ∉ partF N S p → ∃ r, x = .ref r ∧ H' r = some (.tup (((partF N S p).map Int.ofNat).map V.int))) → Q x H'
def PaperAt (H : Hp) (r : Addr) (N : Nat) (S : List T4) (p q : Nat) : Prop :=
  (∃ (w : List Str) (a : Addr), (waysF N S p)[q]? = some (some w) ∧ H r = some (.tup [.str (Str.ofString "joined"), .ref a]) ∧ H a = some (.tup (w.map V.str))) ∨
  (∃ a : Addr, (waysF N S p)[q]? = some none ∧ H r = some (.tup [.str (Str.ofString "parted"), .ref a]) ∧ H a = some (.tup (((partF N S p).map Int.ofNat).map V.int)))
theorem PaperAt.mono {H H' : Hp} {r : Addr} {N : Nat} {S : List T4} {p q : Nat} (h : PaperAt H r N S p q) (f : ∀ r xs, H r = some (.tup xs) → H' r = some (.tup xs)) : PaperAt H' r N S p q := by
  rcases h with ⟨w, a, x, y, z⟩ | ⟨a, x, y, z⟩
  · exact .inl ⟨w, a, x, f _ _ y, f _ _ z⟩
  · exact .inr ⟨a, x, f _ _ y, f _ _ z⟩
def spPaper : Sp := fun vs H Q _ => ∃ (h : Addr) (N : Nat) (ds : List Dd) (n p q : Nat), vs = [.ref h, .int (n : Int), .int (p : Int), .int (q : Int)] ∧ HistAt H h N ds ∧ Right N ds ∧ n ≤ ds.length ∧ N ≤ 60 ∧ p < N ∧ q < N ∧ ∀ r S H', Same H H' → Srtd S (thr (ds.take n)) → PaperAt H' r N S p q → Q (.ref r) H'
theorem srtd_in {N : Nat} {ds : List Dd} (hR : Right N ds) {n : Nat} (hn : n ≤ ds.length) {S : List T4} (h : Srtd S (thr (ds.take n))) : InN N S ∧ (S.map (·.1)).Nodup ∧ S.length ≤ 60 := by
  have tk := thr_ok hR n hn
  refine ⟨fun t ht => ?_, ?_, ?_⟩
  · have := tk.ok t (h.1.mem_iff.mp ht)
    exact ⟨this.1, this.2.1⟩
  · rw [List.Perm.nodup_iff (h.1.map _)]; exact tk.nd
  · rw [h.1.length_eq]
    have := thr_len ds n
    have := hR.len
    omega
section
variable {P : Program} {w : World} {K : PySem.W.Frag} {mg : Str → Option Value} {base : Heap}
theorem scStandB : FnScope ["history", "n", "there", "deed", "name"] ["history", "n"] (defScope sStandB) := ⟨rfl, rfl, rfl, by decide +kernel, rfl, by decide +kernel, by decide +kernel⟩
theorem ok_StandB {f : Addr} {fd : FuncData} (F : Fun K "stand_behind" "stand_behind" sStandB f fd) (T : Txt mg) :
    FnOk P w K mg base CX0 1 f fd ["history", "n"] spStandB := by
  refine F.ok scStandB (fun vs H Q E h => ?_) (fun cdv A outer s H vs Q E hr h => ?_)
  · obtain ⟨_, _, _, _, rfl, _⟩ := h; rfl
  · obtain ⟨h, N, ds, n, rfl, ⟨tp, rs, eh, et, hdd⟩, hR, hn, k⟩ := h
    refine ⟨_, pss_cons (ps_set (i := 2) scStandB.nd rfl (Or.inl rfl) pe_dnewK)
      (pss_cons (ps_for PassesOwn.never rfl (pi_tup (PE.imp' (t' := tTakeH K 0 1) (pe_slice sl_tupA (pe_ix ix_tup (pv 0) pe_int (fun _ _ => rfl)) po_none (po_some (pv 1))) takeH_ok)) (pg_name (i := 3) scStandB.nd rfl (Or.inl rfl)) (pss_cons (ps_set (i := 4) scStandB.nd rfl (Or.inl rfl) (pe_ix ix_tup (pv 3) pe_int (fun _ _ => rfl)))
      (pss_one (ps_if (pt_cmpR op_eq (pe_ix ix_tup (pv 3) pe_int (fun _ _ => rfl)) pe_str (nomark _)) (pss_one (ps_dput (hu_of hr) (pv 2) (pv 4) (pe_slice sl_tup (pv 3) (po_some pe_int) po_none) rfl)) (pss_one (ps_ddel (pv 2) (pv 4)))))))
      (pss_one (ps_ret (pe_callTy call_tuple_of (by rfl) T.tuple (by decide +kernel) (pa_cons (pe_callB (Srt.call_sortedV rfl) (by rfl) T.sorted (by decide +kernel) (pa_cons (Srt.pe_dvals (pv 2) rfl rfl) pa_nil)) pa_nil))))), ?_⟩
    refine fun th hth => ?_
    have s1 := same_new (o := .dK []) hth
    have d1 := upd_same (H := H) (a := th) (o := .dK [])
    generalize upd H th (.dK []) = H1 at s1 d1
    have lrs := hdd.1
    refine ⟨h, tp, _, n, rs.map V.ref, rfl, rfl, s1 _ _ eh, s1 _ _ et, by rw [List.length_map]; omega, fun p0 H2 s2 hp0 => ?_⟩
    rw [← List.map_take] at hp0
    have n60 := hR.len
    refine ⟨p0, rfl, ⟨_, SqT.of hp0⟩, for_tup (K := K) (a := p0) (xs := (rs.take n).map V.ref) (fun i σ H3 => ∃ (x3 x4 : Option V) (ps : Ps), σ = [some (.ref h), some (.int (n : Int)), some (.ref th), x3, x4] ∧ Same H H3 ∧ H3 p0 = some (.tup ((rs.take n).map V.ref)) ∧ ThF H3 th ps ∧ ps.map (·.1) = thr (ds.take i)) ⟨none, none, [], rfl, s1.trans s2, hp0, ⟨s2 _ _ d1, by simp⟩, rfl⟩ (fun i σ H3 _ ⟨_, _, _, _, _, e, _⟩ => SqT.of e) ?_ ?_⟩
    · rintro i x σ H3 hx ⟨x3, x4, ps, rfl, s3, p3, T3, fs⟩
      obtain ⟨r, er, rfl⟩ := map_some hx
      have li : i < n := by have := (List.getElem?_eq_some_iff.mp er).1; rw [List.length_take] at this; omega
      rw [List.getElem?_take_of_lt li] at er
      obtain ⟨dd, ed, r0⟩ := hdd.get er
      have r3 := s3 _ _ r0
      have hok := hR.ok i dd ed
      have tl := thr_len ds i
      have pl : ps.length ≤ 60 := by rw [← List.length_map (f := (·.1)), fs]; omega
      have tok := thr_ok hR i (by omega)
      rw [take_snoc ed, thr_snoc]
      cases dd with
      | come m t =>
        have nf : t.1 ∉ ps.map (·.1.1) := by rw [← ps_names, fs]; exact hok.1
        refine ⟨_, rfl, r, _, 2, _, rfl, rfl, SqT.of r3, atI_nat (j := 2) rfl, ?_⟩
        refine ⟨_, rfl, r, _, 0, _, rfl, rfl, SqT.of r3, atI_nat (j := 0) rfl, rfl, _, rfl, iteT ?_⟩
        refine ⟨_, rfl, _, rfl, r, _, rfl, SqT.of r3, (fun q => absurd (show (2 : Nat) = 0 from q.1) (by decide)), fun p hp => ?_⟩
        have ec : cutV (Dd.come m t).vs (some 2) none = tieV t := rfl
        rw [ec]
        have s4 := same_new (o := .tup (tieV t)) hp
        have p4 := upd_same (H := H3) (a := p) (o := .tup (tieV t))
        generalize upd H3 p (.tup (tieV t)) = H4 at s4 p4
        have d4 := s4 _ _ T3.1
        refine ⟨_, rfl, _, rfl, th, _, rfl, DPut.k (k := Sum.inr t.1) d4 (small1000 (by unfold psK; rw [List.length_map]; exact Nat.le_trans (by assumption) (by decide))), ?_⟩
        rw [psK_put nf]
        refine ⟨_, _, ps ++ [(t, p)], rfl, same_set (s3.trans s4) hth, by rw [upd_ne (ne_of (s4 _ _ p3) d4 (by intro z; cases z))]; exact s4 _ _ p3, ⟨upd_same, fun q hq => ?_⟩, by rw [List.map_append, fs]; rfl⟩
        rcases List.mem_append.mp hq with hq | hq
        · rw [upd_ne (ne_of (s4 _ _ (T3.2 q hq)) d4 (by intro z; cases z))]; exact s4 _ _ (T3.2 q hq)
        · rw [List.mem_singleton.mp hq, upd_ne (ne_of p4 d4 (by intro z; cases z))]; exact p4
      | go m nn =>
        refine ⟨_, rfl, r, _, 2, _, rfl, rfl, SqT.of r3, atI_nat (j := 2) rfl, ?_⟩
        refine ⟨_, rfl, r, _, 0, _, rfl, rfl, SqT.of r3, atI_nat (j := 0) rfl, rfl, _, rfl, iteF ?_⟩
        have hin : (valV (psK ps) (Sum.inr nn)).isSome = true := by
          rw [val_has, decide_eq_true_eq, ← ps_names, fs]; exact hok
        refine ⟨_, rfl, _, rfl, th, _, Sum.inr nn, rfl, T3.1, rfl, hin, ?_⟩
        rw [psK_drop]
        refine ⟨_, _, ps.filter (fun p => decide (p.1.1 ≠ nn)), rfl, same_set s3 hth, by rw [upd_ne (ne_of p3 T3.1 (by intro z; cases z))]; exact p3, ⟨upd_same, fun q hq => ?_⟩, by rw [ps_filt, fs]; rfl⟩
        rw [upd_ne (ne_of (T3.2 q (List.mem_filter.mp hq).1) T3.1 (by intro z; cases z))]; exact T3.2 q (List.mem_filter.mp hq).1
    · rintro σ H3 ⟨x3, x4, ps, rfl, s3, p3, T3, fs⟩
      have en : ((rs.take n).map V.ref).length = n := by rw [List.length_map, List.length_take]; omega
      rw [en] at fs
      have tl := thr_len ds n
      have pl : ps.length ≤ 60 := by rw [← List.length_map (f := (·.1)), fs]; omega
      refine ⟨_, rfl, th, _, rfl, T3.1, fun v hv => ?_⟩
      have s4 := same_new (o := .frz (Srt.viewO th) (.own 0)) hv
      have v4 := upd_same (H := H3) (a := v) (o := .frz (Srt.viewO th) (.own 0))
      generalize upd H3 v (.frz (Srt.viewO th) (.own 0)) = H4 at s4 v4
      have hat : ∀ q ∈ ps.map (fun p => ((p.2, keysOf p.1) : Srt.Row)), IsTie q.2 ∧ H4 q.1 = some (.tup (q.2.map kV)) := fun q hq => by
        obtain ⟨p, hp, rfl⟩ := List.mem_map.mp hq
        exact ⟨⟨_, rfl⟩, s4 _ _ (T3.2 p hp)⟩
      refine ⟨v, th, psK ps, ps.map (fun p => ((p.2, keysOf p.1) : Srt.Row)), rfl, v4, s4 _ _ T3.1, ?_, ⟨fun q hq => SqT.of (hat q hq).2, fun q hq q' hq' => ?_, fun q hq => ?_, by rw [List.length_map]; exact Nat.lt_of_le_of_lt (by assumption) (by decide)⟩, fun l ps' hl pp pw => ?_⟩
      · unfold psK
        rw [List.map_map, List.map_map]
        rfl
      · obtain ⟨⟨t, e⟩, _⟩ := hat q hq
        obtain ⟨⟨t', e'⟩, _⟩ := hat q' hq'
        rw [e, e']; rfl
      · obtain ⟨⟨t, e⟩, _⟩ := hat q hq
        rw [e]; simp [keysOf]
      have sl := same_new (o := .lst (ps'.map Srt.rRef)) hl
      have l5 := upd_same (H := H4) (a := l) (o := .lst (ps'.map Srt.rRef))
      generalize upd H4 l (.lst (ps'.map Srt.rRef)) = H5 at sl l5
      refine ⟨l, _, rfl, .inl ⟨SqL.of l5, fun st hst => ?_⟩⟩
      have ss := same_new (o := .tup (ps'.map Srt.rRef)) hst
      have hS : ((ps.map (fun p => ((p.2, keysOf p.1) : Srt.Row))).map fun q => tieOf q.2).Perm (thr (ds.take n)) := by
        rw [List.map_map, ← fs]
        refine List.Perm.of_eq (List.map_congr_left fun p _ => tieOf_keys p.1)
      obtain ⟨x1, x2⟩ := rows_stand hat hS pp pw (sl.trans ss) upd_same
      exact k st _ _ (((s3.trans s4).trans sl).trans ss) x1 x2
theorem scBeside : FnScope ["many", "stand", "beside", "name", "one", "other", "weight"] ["many", "stand"] (defScope sBeside) := ⟨rfl, rfl, rfl, by decide +kernel, rfl, by decide +kernel, by decide +kernel⟩
theorem ok_Beside {f : Addr} {fd : FuncData} (F : Fun K "beside_of" "beside_of" sBeside f fd) (T : Txt mg) :
    FnOk P w K mg base CX0 1 f fd ["many", "stand"] spBeside := by
  refine F.ok scBeside (fun vs H Q E h => ?_) (fun cdv A outer s H vs Q E hr h => ?_)
  · obtain ⟨_, _, _, rfl, _⟩ := h; rfl
  · obtain ⟨N, st, S, rfl, ⟨rs, hst, hrs⟩, hN, N60, S100, k⟩ := h
    refine ⟨_, pss_cons (ps_comp (i := 2) (T := ["place"]) (F := []) (js := []) scBeside.nd rfl (Or.inl rfl) (CS.to (osc := defScope sBeside) ⟨by rfl, by decide +kernel, by decide +kernel, by decide +kernel, by decide +kernel, by decide +kernel, by decide +kernel⟩ rfl rfl) rfl (pi_range1 rfl T.range (pa_cons (pv 0) pa_nil)) (fun _ _ _ _ _ => pg_name (i := 0) (show (["place"] : List Str).Nodup by decide +kernel) rfl (Or.inl rfl)) (fun _ _ _ _ _ => pif_nil) (fun _ _ _ _ _ => pe_lst pa_nil))
      (pss_cons (ps_for PassesOwn.never rfl (pi_tup (pv 1)) (pg_tup rfl (pgs_cons (pg_name (i := 3) scBeside.nd rfl (Or.inl rfl)) (pgs_cons (pg_name (i := 4) scBeside.nd rfl (Or.inl rfl)) (pgs_cons (pg_name (i := 5) scBeside.nd rfl (Or.inl rfl)) (pgs_cons (pg_name (i := 6) scBeside.nd rfl (Or.inl rfl)) pgs_nil))))) (pss_cons (ps_expr (pe_bm PySem.F.plainAttrs_list PySem.F.slot_list_append PySem.F.type_list_append mt_append (pe_ix ix_list (pv 2) (pv 4) (fun _ _ => rfl)) (pa_cons (pe_tup (pa_cons (pv 3) (pa_cons (pv 5) pa_nil))) pa_nil)))
      (pss_one (ps_expr (pe_bm PySem.F.plainAttrs_list PySem.F.slot_list_append PySem.F.type_list_append mt_append (pe_ix ix_list (pv 2) (pv 5) (fun _ _ => rfl)) (pa_cons (pe_tup (pa_cons (pv 3) (pa_cons (pv 4) pa_nil))) pa_nil))))))
      (pss_one (ps_ret (pv 2)))), ?_⟩
    refine ⟨_, rfl, (N : Int), rfl, by omega, by omega, fun D hD => comp_range (lo := 0) (n := (N : Int).toNat) (fun j σ ys H2 => ∃ (u : Option V) (ls : List Addr), σ = [u] ∧ ys = ls.map V.ref ∧ Same H H2 ∧ H2 D = some (.lst ys) ∧ ls.length = j ∧ ls.Nodup ∧ ∀ l ∈ ls, H l = none ∧ l ≠ D ∧ H2 l = some (.lst [])) ⟨none, [], rfl, rfl, same_new hD, upd_same, rfl, List.nodup_nil, by simp⟩ (fun j σ ys H2 _ ⟨_, _, _, _, _, e, _⟩ => e) ?_ ?_⟩
    · rintro j σ ys H2 hj ⟨u, ls, rfl, rfl, s2, d2, ll, nd, hl⟩
      have hj : j < N := by simpa using hj
      refine ⟨small (by simp), fun p hp => ?_⟩
      have pD : p ≠ D := (ne_of_none d2 hp).symm
      refine ⟨by rw [upd_ne pD.symm]; exact d2, small1000 (by simp; omega), _, ls ++ [p], rfl, by rw [List.map_append]; rfl, same_set (s2.trans (same_new hp)) hD, upd_same, by simp [ll], ?_, fun l hl' => ?_⟩
      · refine List.nodup_append.mpr ⟨nd, List.nodup_cons.mpr ⟨by simp, List.nodup_nil⟩, fun x hx y hy => ?_⟩
        rw [List.mem_singleton.mp hy]
        exact ne_of_none (hl x hx).2.2 hp
      · rcases List.mem_append.mp hl' with q | q
        · obtain ⟨h1, h2, h3⟩ := hl l q
          exact ⟨h1, h2, by rw [upd_ne h2, upd_ne (ne_of_none h3 hp)]; exact h3⟩
        · rw [List.mem_singleton.mp q]
          exact ⟨none_of s2 hp, pD, by rw [upd_ne pD]; exact upd_same⟩
    rintro σ ys H2 ⟨u, ls, rfl, rfl, s2, d2, ll, nd, hl⟩
    have ll : ls.length = N := by simpa using ll
    have B0 : Bes H H2 D ls N (nbrs []) := ⟨s2, d2, ll, nd, fun l h => ⟨(hl l h).1, (hl l h).2.1⟩, fun v l h => ⟨[], (hl l (List.mem_of_getElem? h)).2.2, rfl, fun i r q e => (by simp at e)⟩⟩
    refine ⟨_, rfl, st, rfl, ⟨_, SqT.of (s2 _ _ hst)⟩, for_tup (K := K) (a := st) (xs := rs.map V.ref) (fun i σ H3 => ∃ (u3 u4 u5 u6 : Option V), σ = [some (.int (N : Int)), some (.ref st), some (.ref D), u3, u4, u5, u6] ∧ Bes H H3 D ls N (nbrs (S.take i))) ⟨_, _, _, _, rfl, B0⟩ (fun i σ H3 _ ⟨_, _, _, _, _, B⟩ => SqT.of (B.same _ _ hst)) ?_ ?_⟩
    · rintro i x σ H3 hx ⟨u3, u4, u5, u6, rfl, B⟩
      obtain ⟨r, hr', rfl⟩ := map_some hx
      obtain ⟨t, ht, er⟩ := hrs.get hr'
      have er3 := B.same _ _ er
      have tN := hN t (List.mem_of_getElem? ht)
      have h1 : t.2.1 < ls.length := by omega
      have h2 : t.2.2.1 < ls.length := by omega
      have tk : S.take (i + 1) = S.take i ++ [t] := by rw [List.take_add_one, ht]; rfl
      have nl : ∀ v, (nbrs (S.take i) v).length ≤ 200 := fun v => Nat.le_trans (nbrs_len _ _) (by rw [List.length_take]; omega)
      have l1 := getq h1
      have l2 := getq h2
      obtain ⟨rs1, e1, n1, _⟩ := B.prs _ _ l1
      refine ⟨r, _, rfl, SqT.of er3, rfl, _, _, rfl, _, _, rfl, _, _, rfl, _, _, rfl, rfl, ?_⟩
      refine ⟨_, rfl, _, rfl, D, _, _, .ref ls[t.2.1], rfl, rfl, SqL.of B.hb, atI_nat (by rw [List.getElem?_map, l1]; rfl), .inl ⟨rfl, _, SqL.of e1⟩, _, rfl, _, rfl, small (by simp), fun p hp => ?_⟩
      refine ⟨_, _, _, rfl, rfl, same_new hp _ _ e1, small1000 (by rw [List.length_map]; have := nl t.2.1; omega), ?_⟩
      have B1 := B.app (n := t.1) (u := t.2.2.1) l1 hp e1
      generalize upd (upd H3 p _) _ _ = H4 at B1
      obtain ⟨rs2, e2, n2, _⟩ := B1.prs _ _ l2
      refine ⟨_, rfl, _, rfl, D, _, _, .ref ls[t.2.2.1], rfl, rfl, SqL.of B1.hb, atI_nat (by rw [List.getElem?_map, l2]; rfl), .inl ⟨rfl, _, SqL.of e2⟩, _, rfl, _, rfl, small (by simp), fun p' hp' => ?_⟩
      have n3 : rs2.length ≤ 201 := by
        rw [n2]
        split
        · rw [List.length_append]; have := nl t.2.1; simp only [List.length_cons, List.length_nil]; exact Nat.lt_of_le_of_lt (by assumption) (by decide)
        · have := nl t.2.2.1; exact Nat.le_trans (by assumption) (by decide)
      refine ⟨_, _, _, rfl, rfl, same_new hp' _ _ e2, small1000 (by rw [List.length_map]; exact Nat.le_trans (by assumption) (by decide)), _, _, _, _, rfl, ?_⟩
      have B2 := B1.app (n := t.1) (u := t.2.1) l2 hp' e2
      rw [nb_two, ← tk] at B2
      exact B2
    · rintro σ H3 ⟨u3, u4, u5, u6, rfl, B⟩
      rw [List.length_map, hrs.1, List.take_length] at B
      exact ⟨_, rfl, k D H3 B.same ⟨ls, B.hb, B.len, B.prs⟩⟩
theorem scWays : FnScope ["many", "stand", "place", "beside", "ways", "waiting", "here", "name", "there"] ["many", "stand", "place"] (defScope sWays) := ⟨rfl, rfl, rfl, by decide +kernel, rfl, by decide +kernel, by decide +kernel⟩
theorem ok_Ways {f : Addr} {fd : FuncData} (F : Fun K "ways_from" "ways_from" sWays f fd) (T : Txt mg)
    {gBeside : Addr} {fBeside : FuncData} (kBeside : PySem.W.keepIn K (.ref gBeside) = true) (bBeside : Binds K fBeside ["many", "stand"] []) (hBeside : mg "beside_of" = some (.ref gBeside)) (GBeside : FnOk P w K mg base CX0 1 gBeside fBeside ["many", "stand"] spBeside) :
    FnOk P w K mg base CX0 2 f fd ["many", "stand", "place"] spWays := by
  refine F.ok scWays (fun vs H Q E h => ?_) (fun cdv A outer s H vs Q E hr h => ?_)
  · obtain ⟨_, _, _, _, rfl, _⟩ := h; rfl
  · obtain ⟨N, st, S, p, rfl, hst, hN, N60, S100, pN, k⟩ := h
    refine ⟨_, pss_cons (ps_set (i := 3) scWays.nd rfl (Or.inl rfl) (pe_call GBeside hr rfl hBeside kBeside bBeside .nil pass0 (pa_cons (pv 0) (pa_cons (pv 1) pa_nil))))
      (pss_cons (ps_set (i := 4) scWays.nd rfl (Or.inl rfl) (pe_op op_rep (pe_lst (pa_cons pe_non pa_nil)) (pv 0)))
      (pss_cons (ps_asg (pe_tup pa_nil) (pg_sub (pv 4) (pv 2) set_list))
      (pss_cons (ps_set (i := 5) scWays.nd rfl (Or.inl rfl) (pe_lst (pa_cons (pv 2) pa_nil)))
      (pss_cons (ps_while PassesOwn.never (pt_truth (pv 5) (fun _ => rfl)) (pss_cons (ps_set (i := 6) scWays.nd rfl (Or.inl rfl) (pe_bm PySem.F.plainAttrs_list PySem.F.slot_list_pop PySem.F.type_list_pop mt_popAt (pv 5) (pa_cons pe_int pa_nil)))
      (pss_one (ps_for PassesOwn.never rfl (pi_list (pe_ix ix_list (pv 3) (pv 6) (fun _ _ => rfl))) (pg_tup rfl (pgs_cons (pg_name (i := 7) scWays.nd rfl (Or.inl rfl)) (pgs_cons (pg_name (i := 8) scWays.nd rfl (Or.inl rfl)) pgs_nil))) (pss_one (ps_if (pt_cmpR op_isN (pe_ix ix_list (pv 4) (pv 8) (fun _ _ => rfl)) pe_non (nomark _)) (pss_cons (ps_asg (pe_op op_catTT (pe_ix ix_list (pv 4) (pv 6) (fun _ _ => rfl)) (pe_tup (pa_cons (pv 7) pa_nil))) (pg_sub (pv 4) (pv 8) set_list))
      (pss_one (ps_expr (pe_bm PySem.F.plainAttrs_list PySem.F.slot_list_append PySem.F.type_list_append mt_append (pv 5) (pa_cons (pv 8) pa_nil))))) pss_nil))))))
      (pss_one (ps_ret (pv 4))))))), ?_⟩
    refine ⟨_, rfl, _, rfl, N, st, S, rfl, hst, hN, N60, S100, fun b H1 s1 hb => ?_⟩
    refine ⟨small (by simp), fun q hq => ⟨_, rfl, q, _, _, rfl, rfl, upd_same, by omega, by omega, small (by simp only [List.length_cons, List.length_nil]; omega), fun ws hws => ?_⟩⟩
    have fl : (List.replicate (N : Int).toNat [V.non]).flatten = List.replicate N V.non := by rw [List.flatten_replicate_singleton]; rfl
    rw [fl]
    have s2 := (same_new (H := H1) (o := .lst [.non]) hq).trans (same_new (o := .lst (List.replicate N V.non)) hws)
    have nw : H1 ws = none := none_of (same_new (H := H1) (o := .lst [.non]) hq) hws
    have e2 := upd_same (H := upd H1 q (.lst [.non])) (a := ws) (o := .lst (List.replicate N V.non))
    generalize upd (upd H1 q (.lst [.non])) ws (.lst (List.replicate N V.non)) = H2 at s2 e2
    have W2 : WaysAt H2 ws (List.replicate N none) := ⟨_, e2, by simp, fun i x o hx ho => by
      rw [List.getElem?_replicate] at hx ho
      split at hx
      · rename_i hi
        rw [if_pos hi] at ho
        cases hx
        cases ho
        rfl
      · cases hx⟩
    refine ⟨small (by simp), fun e he => ?_⟩
    have s3 := same_new (o := .tup []) he
    have W3 := W2.same s3
    have e3 := s3 _ _ e2
    have t3 := upd_same (H := H2) (a := e) (o := .tup [])
    generalize upd H2 e (.tup []) = H3 at s3 W3 e3 t3
    have W4 : WaysAt (upd H3 ws (.lst ((List.replicate N V.non).set p (.ref e)))) ws (binit N p).1 := WaysAt.set (w := []) W3 e3 t3
    have s4 : Same H1 (upd H3 ws (.lst ((List.replicate N V.non).set p (.ref e)))) := same_set (s2.trans s3) nw
    refine ⟨_, rfl, _, rfl, ws, _, _, p, rfl, rfl, e3, (by have h : ixN (List.replicate N V.non).length (p : Int) = some p := ixN_nat (by simpa using pN); exact h), ?_⟩
    generalize upd H3 ws _ = H4 at W4 s4
    refine ⟨_, rfl, small (by simp), fun wt hwt => ?_⟩
    have s5 := s4.trans (same_new (o := .lst [.int (p : Int)]) hwt)
    have nt : H1 wt = none := none_of s4 hwt
    have W5 := W4.same (same_new (o := .lst [.int (p : Int)]) hwt)
    have t5 := upd_same (H := H4) (a := wt) (o := .lst [.int (p : Int)])
    have wwt : ws ≠ wt := by obtain ⟨xs, hx, _⟩ := W4; exact ne_of_none hx hwt
    generalize upd H4 wt (.lst [.int (p : Int)]) = H5 at s5 W5 t5
    dsimp only [gName, tSeq]
    refine while_ghH (fun m σ H6 => ∃ (i : Nat) (u6 u7 u8 : Option V) (wl : Ws) (tl : List Nat), σ = [some (.int (N : Int)), some (.ref st), some (.int (p : Int)), some (.ref b), some (.ref ws), some (.ref wt), u6, u7, u8] ∧ Same H1 H6 ∧ H6 wt = some (.lst ((tl.map Int.ofNat).map V.int)) ∧ WaysAt H6 ws wl ∧ iter S i (binit N p) = (wl, tl) ∧ BInv S N p (wl, tl) ∧ m = nones wl + tl.length ∧ i + m ≤ 64 ∧ tl.length ≤ 64 ∧ ∀ v x, Wk.Vis wl v x → x.length ≤ i)
      (m0 := nones (binit N p).1 + 1) ⟨0, _, _, _, (binit N p).1, [p], rfl, s5, t5, W5, rfl, binv0 pN, rfl, ?_, by simp, fun v x q => by rw [binit_vis pN q]; simp⟩ ?_ ?_
    · have : nones (binit N p).1 ≤ (binit N p).1.length := List.countP_le_length
      simp only [binit, List.length_set, List.length_replicate] at this ⊢
      omega
    · rintro m σ H6 ⟨i, u6, u7, u8, wl, tl, rfl, s6, t6, W6, it6, I6, hm, hi, tl6, sh6⟩ E6 hE6 _
      refine ⟨_, rfl, _, .inl ⟨_, SqL.of t6, rfl⟩, ?_⟩
      cases tl with
      | nil =>
        refine iteF ?_
        rw [← ways_of it6 (by omega)] at W6
        exact ⟨_, rfl, k ws H6 (s1.trans s6) W6⟩
      | cons h rest =>
        refine iteT ?_
        obtain ⟨w0, hv0, J⟩ := pinv_of I6
        have hh : h < N := by have := (List.getElem?_eq_some_iff.mp hv0).1; rw [← I6.len]; exact this
        refine ⟨_, rfl, .inl ⟨rfl, _, SqL.of t6⟩, wt, _, 0, 0, .int (h : Int), rfl, rfl, t6, by decide, by decide, by simp [seqIndex?], rfl, ?_⟩
        have W7 := W6.keep (zs := (rest.map Int.ofNat).map V.int) t6 wwt
        have s7 : Same H1 (upd H6 wt (.lst ((rest.map Int.ofNat).map V.int))) := same_set s6 nt
        have t7 := upd_same (H := H6) (a := wt) (o := .lst ((rest.map Int.ofNat).map V.int))
        have eH : upd H6 wt (.lst (List.eraseIdx (List.map V.int (List.map Int.ofNat (h :: rest))) 0)) = upd H6 wt (.lst ((rest.map Int.ofNat).map V.int)) := rfl
        rw [eH]
        generalize upd H6 wt (.lst ((rest.map Int.ofNat).map V.int)) = H7 at W7 s7 t7
        obtain ⟨ls, hls, lls, hpr⟩ := hb.same s7
        have hl := getq (l := ls) (i := h) (by omega)
        obtain ⟨rs, er, lr, hr3⟩ := hpr h _ hl
        have w0len : w0.length ≤ 64 := by have := sh6 h w0 hv0; omega
        refine ⟨_, rfl, _, rfl, b, _, _, .ref ls[h], rfl, rfl, SqL.of hls, atI_nat (by rw [List.getElem?_map, hl]; rfl), _, rfl, ⟨_, SqL.of er⟩, ?_⟩
        have key : ∀ H8, Same H1 H8 → H8 ls[h] = some (.lst (rs.map V.ref)) ∧ ∀ (i : Nat) r q, rs[i]? = some r → (nbrs S h)[i]? = some q → H8 r = some (.tup [.str q.1, .int (q.2 : Int)]) := by
          intro H8 s8
          obtain ⟨ls', hls', _, hpr'⟩ := hb
          have e1 : ls' = ls := by
            have := s7 _ _ hls'
            rw [hls] at this
            injection this with this
            injection this with this
            exact (refs_inj this).symm
          subst e1
          obtain ⟨rs', er', lr', hr'⟩ := hpr' h _ hl
          have e2 : rs' = rs := by
            have := s7 _ _ er'
            rw [er] at this
            injection this with this
            injection this with this
            exact (refs_inj this).symm
          subst e2
          exact ⟨s8 _ _ er', fun i r q e f => s8 _ _ (hr' i r q e f)⟩
        refine for_listH (K := K) (a := ls[h]) (xs := rs.map V.ref) (fun j σ H8 => ∃ (u7 u8 : Option V), σ = [some (.int (N : Int)), some (.ref st), some (.int (p : Int)), some (.ref b), some (.ref ws), some (.ref wt), some (.int (h : Int)), u7, u8] ∧ Same H1 H8 ∧ H8 wt = some (.lst (((visit w0 ((nbrs S h).take j) (wl, rest)).2.map Int.ofNat).map V.int)) ∧ WaysAt H8 ws (visit w0 ((nbrs S h).take j) (wl, rest)).1)
          ⟨_, _, rfl, s7, t7, W7⟩ (fun j σ H8 _ ⟨_, _, _, s8, _⟩ => SqL.of (key H8 s8).1) ?_ ?_
        · rintro j x σ H8 hx ⟨u7', u8', rfl, s8, t8, W8⟩ E8 hE8 _
          obtain ⟨r, hr', rfl⟩ := map_some hx
          have hj : j < (nbrs S h).length := by rw [← lr]; exact (List.getElem?_eq_some_iff.mp hr').1
          have hq := getq hj
          have er8 := (key H8 s8).2 j r _ hr' hq
          have tk : (nbrs S h).take (j + 1) = (nbrs S h).take j ++ [(nbrs S h)[j]] := by rw [List.take_add_one, hq]; rfl
          have qN : ((nbrs S h)[j]).2 < N := nb_lt hN (List.getElem_mem hj)
          have jl : j < 201 := by have := nbrs_len S h; omega
          obtain ⟨vl1, vl2⟩ := visit_len w0 ((nbrs S h).take j) (wl, rest)
          have vh := visit_vis w0 ((nbrs S h).take j) (wl, rest) hv0
          rw [tk, visit_snoc] at hE8
          generalize (nbrs S h)[j] = q at er8 qN hE8
          generalize visit w0 ((nbrs S h).take j) (wl, rest) = st' at *
          obtain ⟨wl', tl'⟩ := st'
          dsimp only at *
          have qw : q.2 < wl'.length := by rw [vl1]; show _ < wl.length; rw [I6.len]; exact qN
          refine ⟨r, _, rfl, SqT.of er8, rfl, _, _, rfl, _, _, rfl, rfl, ?_⟩
          obtain ⟨xs, x, hxs, hx', lxs, hxo⟩ := W8.get (getq qw)
          refine ⟨_, rfl, _, rfl, ws, _, _, x, rfl, rfl, SqL.of hxs, atI_nat hx', rfl, _, rfl, ?_⟩
          cases ho : wl'[q.2] with
          | some z =>
            rw [ho] at hxo
            obtain ⟨rz, rfl, _⟩ := hxo
            rw [vis1_no (by dsimp only; rw [getq qw, ho]; simp)] at hE8
            refine ite2 (fun g => absurd g (by simp)) fun _ => ?_
            exact hE8 _ _ ⟨_, _, rfl, s8, t8, W8⟩
          | none =>
            rw [ho] at hxo
            have hxo : x = .non := hxo
            subst hxo
            rw [vis1_yes (by dsimp only; rw [getq qw, ho])] at hE8
            refine ite2 (fun _ => ?_) fun g => absurd (by simp) g
            obtain ⟨xs2, x2, hxs2, hx2, _, hxo2⟩ := W8.get vh
            obtain ⟨r0, rfl, er0⟩ := hxo2
            rw [hxs] at hxs2
            injection hxs2 with hxs2
            injection hxs2 with hxs2
            subst hxs2
            have tl9 : ((tl'.map Int.ofNat).map V.int).length ≤ 1000 := by
              simp only [List.length_map, List.length_take, List.length_cons] at vl2 tl6 ⊢
              omega
            refine ⟨_, rfl, _, rfl, ws, _, _, .ref r0, rfl, rfl, SqL.of hxs, atI_nat hx2, _, rfl, small (by simp), fun p1 hp1 => ?_⟩
            have s9 := same_new (o := .tup [.str q.1]) hp1
            have p9 := upd_same (H := H8) (a := p1) (o := .tup [.str q.1])
            have w9 : w0.length ≤ 100 := by
              have := (J.ht h w0 J.hv); have := w0len; exact Nat.le_trans (by assumption) (by decide)
            generalize upd H8 p1 (.tup [.str q.1]) = H9 at s9 p9
            refine ⟨r0, p1, _, _, rfl, rfl, SqT.of (s9 _ _ er0), SqT.of p9, small (by simp; exact Nat.le_trans (by assumption) (by decide)), fun e => ?_, fun _ e => absurd e (by simp), fun _ _ p2 hp2 => ?_⟩
            · have e0 : w0 = [] := by simpa using e
              have e9 : H9 p1 = some (.tup ((w0 ++ [q.1]).map V.str)) := by rw [e0]; exact p9
              have hxs9 := s9 _ _ hxs
              have W9 := (W8.same s9).set (u := q.2) hxs9 e9
              have t9 := s9 _ _ t8
              refine ⟨_, rfl, _, rfl, ws, _, _, q.2, rfl, rfl, hxs9, ixN_nat (by omega), ?_⟩
              have s10 : Same H1 (upd H9 ws (.lst (xs.set q.2 (.ref p1)))) := same_set (s8.trans s9) nw
              have t10 : upd H9 ws (.lst (xs.set q.2 (.ref p1))) wt = some (.lst ((tl'.map Int.ofNat).map V.int)) := by rw [upd_ne wwt.symm]; exact t9
              generalize upd H9 ws (.lst (xs.set q.2 (.ref p1))) = H10 at W9 s10 t10
              refine ⟨_, rfl, .inl ⟨rfl, _, SqL.of t10⟩, _, rfl, wt, _, _, rfl, rfl, t10, small1000 tl9, hE8 _ _ ⟨_, _, rfl, same_set s10 nt, ?_, W9.keep t10 wwt⟩⟩
              rw [upd_same, List.map_append, List.map_append]; rfl
            · have e9 : upd H9 p2 (.tup (w0.map V.str ++ [.str q.1])) p2 = some (.tup ((w0 ++ [q.1]).map V.str)) := by rw [upd_same, List.map_append]; rfl
              have s9 := s9.trans (same_new (o := .tup (w0.map V.str ++ [.str q.1])) hp2)
              generalize upd H9 p2 (.tup (w0.map V.str ++ [.str q.1])) = H9 at s9 e9
              have hxs9 := s9 _ _ hxs
              have W9 := (W8.same s9).set (u := q.2) hxs9 e9
              have t9 := s9 _ _ t8
              refine ⟨_, rfl, _, rfl, ws, _, _, q.2, rfl, rfl, hxs9, ixN_nat (by omega), ?_⟩
              have s10 : Same H1 (upd H9 ws (.lst (xs.set q.2 (.ref p2)))) := same_set (s8.trans s9) nw
              have t10 : upd H9 ws (.lst (xs.set q.2 (.ref p2))) wt = some (.lst ((tl'.map Int.ofNat).map V.int)) := by rw [upd_ne wwt.symm]; exact t9
              generalize upd H9 ws (.lst (xs.set q.2 (.ref p2))) = H10 at W9 s10 t10
              refine ⟨_, rfl, .inl ⟨rfl, _, SqL.of t10⟩, _, rfl, wt, _, _, rfl, rfl, t10, small1000 tl9, hE8 _ _ ⟨_, _, rfl, same_set s10 nt, ?_, W9.keep t10 wwt⟩⟩
              rw [upd_same, List.map_append, List.map_append]; rfl
        · rintro σ H8 ⟨u7', u8', rfl, s8, t8, W8⟩
          rw [List.length_map, lr, List.take_length] at t8 W8
          have eb : bstep S (wl, h :: rest) = visit w0 (nbrs S h) (wl, rest) := by
            show visit ((wl[h]?.join).getD []) (nbrs S h) (wl, rest) = _
            unfold Wk.Vis at hv0
            rw [hv0]; rfl
          obtain ⟨I8, m8⟩ := bstep_ok hN I6
          have sh8 := bstep_short hN I6 sh6
          have it8 : iter S (i + 1) (binit N p) = visit w0 (nbrs S h) (wl, rest) := by rw [iter_snoc, it6, eb]
          rw [eb] at I8 m8 sh8
          generalize visit w0 (nbrs S h) (wl, rest) = st' at *
          obtain ⟨wl', tl'⟩ := st'
          dsimp only at *
          refine hE6 (nones wl' + tl'.length) _ _ (by omega) ⟨i + 1, _, _, _, wl', tl', rfl, s8, t8, W8, it8, I8, rfl, by omega, by omega, sh8⟩
    · rintro σ H6 Q Q' f ⟨v, e, b', h', q⟩
      exact ⟨v, e, b', h', f _ _ q⟩
theorem scPart : FnScope ["many", "stand", "place", "ways"] ["many", "stand", "place"] (defScope sPart) := ⟨rfl, rfl, rfl, by decide +kernel, rfl, by decide +kernel, by decide +kernel⟩
theorem ok_Part {f : Addr} {fd : FuncData} (F : Fun K "part_of" "part_of" sPart f fd) (T : Txt mg)
    {gWays : Addr} {fWays : FuncData} (kWays : PySem.W.keepIn K (.ref gWays) = true) (bWays : Binds K fWays ["many", "stand", "place"] []) (hWays : mg "ways_from" = some (.ref gWays)) (GWays : FnOk P w K mg base CX0 2 gWays fWays ["many", "stand", "place"] spWays) :
    FnOk P w K mg base CX0 3 f fd ["many", "stand", "place"] spPart := by
  refine F.ok scPart (fun vs H Q E h => ?_) (fun cdv A outer s H vs Q E hr h => ?_)
  · obtain ⟨_, _, _, _, rfl, _⟩ := h; rfl
  · obtain ⟨N, st, S, p, rfl, hst, hN, N60, S100, pN, k⟩ := h
    refine ⟨_, pss_cons (ps_set (i := 3) scPart.nd rfl (Or.inr rfl) (pe_call GWays hr rfl hWays kWays bWays .nil pass0 (pa_cons (pv 0) (pa_cons (pv 1) (pa_cons (pv 2) pa_nil)))))
      (pss_one (ps_ret (pe_callTy call_tuple_of (by rfl) T.tuple (by decide +kernel) (pa_cons (pe_comp (T := ["there"]) (F := ["ways"]) (js := [3]) (CS.to (osc := defScope sPart) ⟨by rfl, by decide +kernel, by decide +kernel, by decide +kernel, by decide +kernel, by decide +kernel, by decide +kernel⟩ rfl rfl) rfl (pi_range1 rfl T.range (pa_cons (pv 0) pa_nil)) (fun _ _ _ _ _ => pg_name (i := 0) (show (["there", "ways"] : List Str).Nodup by decide +kernel) rfl (Or.inl rfl)) (fun _ _ _ _ _ => pif_one (pt_cmpR op_notN (pe_ix (r := rIxL K) ix_list (pv 1) (pv 0) (fun _ _ => rfl)) pe_non (nomark _))) (fun _ _ _ _ _ => pv 0)) pa_nil)))), ?_⟩
    refine ⟨_, rfl, _, rfl, _, rfl, N, st, S, p, rfl, hst, hN, N60, S100, pN, fun a H1 s1 W1 => ?_⟩
    have wl := ways_len hN pN N60
    refine ⟨_, rfl, (N : Int), rfl, by omega, by omega, fun D hD => comp_range (lo := 0) (n := (N : Int).toNat) (fun j σ ys H2 => ∃ (u : Option V), σ = [u, some (.ref a)] ∧ ys = ((((List.range j).filter fun v => ((waysF N S p)[v]?.join).isSome).map Int.ofNat).map V.int) ∧ H2 = upd H1 D (.lst ys)) ⟨none, rfl, rfl, rfl⟩ (fun j σ ys H2 _ ⟨_, _, _, e⟩ => by rw [e]; exact upd_same) ?_ ?_⟩
    · rintro j σ ys H2 hj ⟨u, rfl, rfl, rfl⟩
      have hj : j < N := by simpa using hj
      have hjw : j < (waysF N S p).length := by omega
      obtain ⟨xs, x, hxs, hx, lx, hxo⟩ := (W1.same (same_new (o := .lst ((((List.range j).filter fun v => ((waysF N S p)[v]?.join).isSome).map Int.ofNat).map V.int)) hD)).get (getq hjw)
      refine ⟨_, rfl, _, rfl, a, _, _, x, rfl, rfl, SqL.of hxs, by rw [Int.zero_add]; exact atI_nat hx, rfl, _, rfl, ?_⟩
      have lf : ((List.range j).filter fun v => ((waysF N S p)[v]?.join).isSome).length ≤ 60 := Nat.le_trans (List.length_filter_le _ _) (by rw [List.length_range]; omega)
      cases ho : (waysF N S p)[j] with
      | none =>
        rw [ho] at hxo
        have hxo : x = .non := hxo
        subst hxo
        refine ite2 (fun g => absurd g (by simp)) fun _ => ⟨_, rfl, ?_, ?_⟩
        · rw [List.range_succ, List.filter_append]; simp [getq hjw, ho]
        · rfl
      | some z =>
        rw [ho] at hxo
        obtain ⟨r, rfl, _⟩ := hxo
        refine ite2 (fun _ => ⟨_, rfl, upd_same, small1000 (by simp only [List.length_map]; exact Nat.le_trans (by assumption) (by decide)), _, rfl, ?_, by rw [upd_upd]⟩) fun g => absurd (by simp) g
        rw [List.range_succ, List.filter_append, List.map_append, List.map_append]
        simp [getq hjw, ho]
    · rintro σ ys H2 ⟨u, rfl, rfl, rfl⟩
      exact ⟨D, _, rfl, .inl ⟨SqL.of upd_same, fun l hl => k l _ (s1.trans ((same_new hD).trans (same_new hl))) upd_same⟩⟩
theorem scWay : FnScope ["many", "stand", "one", "other"] ["many", "stand", "one", "other"] (defScope sWay) := ⟨rfl, rfl, rfl, by decide +kernel, rfl, by decide +kernel, by decide +kernel⟩
theorem ok_Way {f : Addr} {fd : FuncData} (F : Fun K "way_between" "way_between" sWay f fd) (T : Txt mg)
    {gWays : Addr} {fWays : FuncData} (kWays : PySem.W.keepIn K (.ref gWays) = true) (bWays : Binds K fWays ["many", "stand", "place"] []) (hWays : mg "ways_from" = some (.ref gWays)) (GWays : FnOk P w K mg base CX0 2 gWays fWays ["many", "stand", "place"] spWays) :
    FnOk P w K mg base CX0 3 f fd ["many", "stand", "one", "other"] spWay := by
  refine F.ok scWay (fun vs H Q E h => ?_) (fun cdv A outer s H vs Q E hr h => ?_)
  · obtain ⟨_, _, _, _, _, rfl, _⟩ := h; rfl
  · obtain ⟨N, st, S, p, q, rfl, hst, hN, N60, S100, pN, qN, k⟩ := h
    refine ⟨_, pss_one (ps_ret (pe_ix ix_list (pe_call GWays hr rfl hWays kWays bWays .nil pass0 (pa_cons (pv 0) (pa_cons (pv 1) (pa_cons (pv 2) pa_nil)))) (pv 3) (fun _ _ => rfl))), ?_⟩
    refine ⟨_, rfl, _, rfl, _, rfl, N, st, S, p, rfl, hst, hN, N60, S100, pN, fun a H1 s1 W1 => ?_⟩
    have wl := ways_len hN pN N60
    have hq := getq (l := waysF N S p) (i := q) (by omega)
    obtain ⟨xs, x, hxs, hx, _, hxo⟩ := W1.get hq
    exact ⟨_, rfl, a, _, _, x, rfl, rfl, SqL.of hxs, atI_nat hx, k x _ H1 s1 hq hxo⟩
theorem scCut : FnScope ["many", "stand", "one", "other", "part"] ["many", "stand", "one", "other"] (defScope sCut) := ⟨rfl, rfl, rfl, by decide +kernel, rfl, by decide +kernel, by decide +kernel⟩
theorem ok_Cut {f : Addr} {fd : FuncData} (F : Fun K "cut_between" "cut_between" sCut f fd) (T : Txt mg)
    {gPart : Addr} {fPart : FuncData} (kPart : PySem.W.keepIn K (.ref gPart) = true) (bPart : Binds K fPart ["many", "stand", "place"] []) (hPart : mg "part_of" = some (.ref gPart)) (GPart : FnOk P w K mg base CX0 3 gPart fPart ["many", "stand", "place"] spPart) :
    FnOk P w K mg base CX0 4 f fd ["many", "stand", "one", "other"] spCut := by
  refine F.ok scCut (fun vs H Q E h => ?_) (fun cdv A outer s H vs Q E hr h => ?_)
  · obtain ⟨_, _, _, _, _, rfl, _⟩ := h; rfl
  · obtain ⟨N, st, S, p, q, rfl, hst, hN, N60, S100, pN, k⟩ := h
    refine ⟨_, pss_cons (ps_set (i := 4) scCut.nd rfl (Or.inl rfl) (pe_call GPart hr rfl hPart kPart bPart .nil pass0 (pa_cons (pv 0) (pa_cons (pv 1) (pa_cons (pv 2) pa_nil)))))
      (pss_one (ps_ret (pe_ifExp (pt_cmpR op_in_seq (pv 3) (pv 4) (by rfl)) pe_non (pv 4)))), ?_⟩
    refine ⟨_, rfl, _, rfl, _, rfl, N, st, S, p, rfl, hst, hN, N60, S100, pN, fun a H1 s1 e1 => ?_⟩
    refine ⟨_, rfl, _, rfl, a, _, rfl, .inr (SqT.of e1), rfl, flat_ints _, _, rfl, ?_⟩
    have e : inV (.int (q : Int)) (((partF N S p).map Int.ofNat).map V.int) = decide (q ∈ partF N S p) := by
      rw [inV_ints, Bool.eq_iff_iff, decide_eq_true_eq, decide_eq_true_eq, List.mem_map]
      constructor
      · rintro ⟨x, hx, e⟩
        have : x = q := by have : (x : Int) = q := e; omega
        rw [← this]; exact hx
      · intro h; exact ⟨q, h, rfl⟩
    show if (inV (.int (q : Int)) (((partF N S p).map Int.ofNat).map V.int)) = true then _ else _
    rw [e]
    by_cases g : q ∈ partF N S p
    · rw [decide_eq_true g]
      exact iteT (k _ H1 s1 (fun _ => rfl) fun h => absurd g h)
    · rw [decide_eq_false g]
      exact iteF ⟨_, rfl, k _ H1 s1 (fun h => absurd h g) fun _ => ⟨a, rfl, e1⟩⟩
theorem scPaper : FnScope ["history", "n", "one", "other", "many", "stand", "way"] ["history", "n", "one", "other"] (defScope sPaper) := ⟨rfl, rfl, rfl, by decide +kernel, rfl, by decide +kernel, by decide +kernel⟩
theorem ok_Paper {f : Addr} {fd : FuncData} (F : Fun K "paper_for" "paper_for" sPaper f fd) (T : Txt mg)
    {gStandB : Addr} {fStandB : FuncData} (kStandB : PySem.W.keepIn K (.ref gStandB) = true) (bStandB : Binds K fStandB ["history", "n"] []) (hStandB : mg "stand_behind" = some (.ref gStandB)) (GStandB : FnOk P w K mg base CX0 4 gStandB fStandB ["history", "n"] spStandB)
    {gWay : Addr} {fWay : FuncData} (kWay : PySem.W.keepIn K (.ref gWay) = true) (bWay : Binds K fWay ["many", "stand", "one", "other"] []) (hWay : mg "way_between" = some (.ref gWay)) (GWay : FnOk P w K mg base CX0 4 gWay fWay ["many", "stand", "one", "other"] spWay)
    {gCut : Addr} {fCut : FuncData} (kCut : PySem.W.keepIn K (.ref gCut) = true) (bCut : Binds K fCut ["many", "stand", "one", "other"] []) (hCut : mg "cut_between" = some (.ref gCut)) (GCut : FnOk P w K mg base CX0 4 gCut fCut ["many", "stand", "one", "other"] spCut) :
    FnOk P w K mg base CX0 5 f fd ["history", "n", "one", "other"] spPaper := by
  refine F.ok scPaper (fun vs H Q E h => ?_) (fun cdv A outer s H vs Q E hr h => ?_)
  · obtain ⟨_, _, _, _, _, _, rfl, _⟩ := h; rfl
  · obtain ⟨h, N, ds, n, p, q, rfl, hh, hR, hn, N60, pN, qN, k⟩ := h
    refine ⟨_, pss_cons (ps_par (i := 4) (j := 5) rfl scPaper.nd rfl rfl (by decide) rfl rfl (pa_cons (pe_ix ix_tup (pv 0) pe_int (fun _ _ => rfl)) (pa_cons (pe_call GStandB hr rfl hStandB kStandB bStandB .nil pass0 (pa_cons (pv 0) (pa_cons (pv 1) pa_nil))) pa_nil)) rfl)
      (pss_cons (ps_set (i := 6) scPaper.nd rfl (Or.inl rfl) (pe_call GWay hr rfl hWay kWay bWay .nil pass0 (pa_cons (pv 4) (pa_cons (pv 5) (pa_cons (pv 2) (pa_cons (pv 3) pa_nil))))))
      (pss_cons (ps_if (pt_cmpR op_isN (pv 6) pe_non (nomark _)) (pss_one (ps_ret (pe_tup (pa_cons pe_str (pa_cons (pe_call GCut hr rfl hCut kCut bCut .nil pass0 (pa_cons (pv 4) (pa_cons (pv 5) (pa_cons (pv 2) (pa_cons (pv 3) pa_nil))))) pa_nil))))) pss_nil)
      (pss_one (ps_ret (pe_tup (pa_cons pe_str (pa_cons (pv 6) pa_nil))))))), ?_⟩
    obtain ⟨tp, rs, eh, et, hdd⟩ := id hh
    refine ⟨_, rfl, h, _, 0, _, rfl, rfl, SqT.of eh, atI_nat (j := 0) rfl, _, rfl, _, rfl, h, N, ds, n, rfl, hh, hR, hn, fun st S H1 s1 hst hs => ⟨_, _, rfl, ?_⟩⟩
    obtain ⟨SN, _, Sl⟩ := srtd_in hR hn hs
    refine ⟨_, rfl, _, rfl, _, rfl, _, rfl, N, st, S, p, q, rfl, hst, SN, N60, by exact Nat.le_trans (by assumption) (by decide), pN, qN, fun x o H2 s2 ho hx => ?_⟩
    cases o with
    | none =>
      cases (show x = .non from hx)
      refine ⟨_, rfl, rfl, _, rfl, iteT ?_⟩
      refine ⟨_, rfl, _, rfl, _, rfl, _, rfl, N, st, S, p, q, rfl, hst.same s2, SN, N60, by exact Nat.le_trans (by assumption) (by decide), pN, fun y H3 s3 _ hy => ?_⟩
      obtain ⟨r, rfl, er⟩ := hy ((ways_none SN pN qN N60).mp ho)
      refine ⟨small (by simp), fun t ht => ?_⟩
      have s4 := same_new (o := .tup [.str (Str.ofString "parted"), .ref r]) ht
      exact k t S _ (((s1.trans s2).trans s3).trans s4) hs (.inr ⟨r, ho, upd_same, s4 _ _ er⟩)
    | some w =>
      obtain ⟨r, rfl, er⟩ := hx
      refine ⟨_, rfl, rfl, _, rfl, iteF ?_⟩
      dsimp only [tNext]
      refine ⟨_, rfl, small (by simp), fun t ht => ?_⟩
      have s4 := same_new (o := .tup [.str (Str.ofString "joined"), .ref r]) ht
      exact k t S _ ((s1.trans s2).trans s4) hs (.inl ⟨w, r, ho, upd_same, s4 _ _ er⟩)
end
end K65
set_option maxHeartbeats 1000000
namespace K65
open PySem L2 Wk
/-- the deck, three whole numbers; b more draws may be asked -/
def DeckAt (H : Hp) (d : Addr) (b : Nat) : Prop := ∃ x S k : Int, H d = some (.lst [.int x, .int S, .int k]) ∧ 0 ≤ k ∧ k + b ≤ 2 ^ 32
theorem DeckAt.mono {H : Hp} {d : Addr} {b b' : Nat} (h : DeckAt H d b) (l : b' ≤ b) : DeckAt H d b' := by
  obtain ⟨x, S, k, h1, h2, h3⟩ := h
  exact ⟨x, S, k, h1, h2, by omega⟩
def But (d : Addr) (H H' : Hp) : Prop := ∀ b o, H b = some o → b ≠ d → H' b = some o
theorem But.trans {d : Addr} {H H1 H2 : Hp} (h : But d H H1) (h' : But d H1 H2) : But d H H2 := fun b o e n => h' b o (h b o e n) n
theorem But.of {d : Addr} {H H' : Hp} (s : Same H H') : But d H H' := fun b o e _ => s b o e
theorem But.refl {d : Addr} {H : Hp} : But d H H := fun _ _ e _ => e
theorem But.tup {d : Addr} {H H' : Hp} (h : But d H H') {n : Nat} (D : DeckAt H d n) {b : Addr} {xs : List V} (e : H b = some (.tup xs)) : H' b = some (.tup xs) := by
  obtain ⟨_, _, _, h1, _⟩ := D
  exact h b _ e fun z => by rw [z, h1] at e; cases e
theorem DeckAt.same {H H' : Hp} {d : Addr} {n : Nat} (h : DeckAt H d n) (s : Same H H') : DeckAt H' d n := by
  obtain ⟨x, S, k, h1, r⟩ := h
  exact ⟨x, S, k, s _ _ h1, r⟩
theorem DeckAt.ne {H : Hp} {d b : Addr} {n : Nat} (h : DeckAt H d n) (e : H b = none) : b ≠ d := by
  obtain ⟨_, _, _, h1, _⟩ := h
  exact (ne_of_none h1 e).symm
theorem DeckAt.upd {H : Hp} {d b : Addr} {o : HO} {m : Nat} (h : DeckAt H d m) (n : b ≠ d) : DeckAt (upd H b o) d m := by
  obtain ⟨x, S, k, h1, r⟩ := h
  exact ⟨x, S, k, by rw [upd_ne n.symm]; exact h1, r⟩
theorem But.set {d : Addr} {H H1 : Hp} {b : Addr} {o : HO} (h : But d H H1) (hb : H b = none) : But d H (upd H1 b o) := fun x u e n => by
  rw [upd_ne (ne_of_none e hb)]; exact h x u e n
theorem But.none {d : Addr} {H H' : Hp} {b : Addr} {n : Nat} (h : But d H H') (w : DeckAt H' d n) (hb : H' b = none) : H b = none := by
  cases e : H b with
  | none => rfl
  | some o => rw [h b o e (w.ne hb)] at hb; cases hb
def spCell (K : PySem.W.Frag) : Sp := fun vs H Q _ => ∃ (s : Addr) (ns : List Int) (k : Nat), vs = [.ref s, .int (k : Int)] ∧ SqL K H s (ns.map V.int) ∧ ns.length ≤ 63 ∧ k < 100 ∧ ∀ v, Q (.int v) H
def spDeck (K : PySem.W.Frag) : Sp := fun vs H Q _ => ∃ (s : Addr) (ns : List Int) (k : Nat), vs = [.ref s, .int (k : Int)] ∧ SqL K H s (ns.map V.int) ∧ ns.length ≤ 63 ∧ k < 100 ∧ ∀ d H', Same H H' → H d = none → DeckAt H' d 100000 → Q (.ref d) H'
def spDraw : Sp := fun vs H Q _ => ∃ (d : Addr) (m : Int) (b : Nat), vs = [.ref d, .int m] ∧ DeckAt H d (b + 1) ∧ 0 < m ∧ m < 1073741824 ∧ ∀ (v : Int) (H' : Hp), 0 ≤ v → v < m → But d H H' → DeckAt H' d b → Q (.int v) H'
section
variable {P : Program} {w : World} {K : PySem.W.Frag} {mg : Str → Option Value} {base : Heap}
theorem scCell : FnScope ["_law_script", "_law_k"] ["_law_script", "_law_k"] (defScope sCell) := ⟨rfl, rfl, rfl, by decide +kernel, rfl, by decide +kernel, by decide +kernel⟩
theorem ok_Cell {f : Addr} {fd : FuncData} (F : Fun K "_law_cell_at" "_law_cell_at" sCell f fd) (T : Txt mg) :
    FnOk P w K mg base CX0 1 f fd ["_law_script", "_law_k"] (spCell K) := by
  refine F.ok scCell (fun vs H Q E h => ?_) (fun cdv A outer s H vs Q E hr h => ?_)
  · obtain ⟨_, _, _, rfl, _⟩ := h; rfl
  · obtain ⟨s, ns, k0, rfl, hS, hl, hk, k⟩ := h
    refine ⟨_, pss_cons (ps_if (pt_cmpR op_lt (pv 1) (pe_callB call_len_seq (by rfl) T.len PySem.boot_len (pa_cons (pv 0) pa_nil)) (nomark _)) (pss_one (ps_ret (pe_ix ix_list (pv 0) (pv 1) (fun _ _ => rfl)))) pss_nil)
      (pss_one (ps_ret (pe_op op_add (pe_op op_mod (pe_callB (call_sum rfl) (by rfl) T.sum PyProof.Rows.boot_sum (pa_cons (pv 0) pa_nil)) pe_int) (pe_op op_mul pe_int (pv 1))))), ?_⟩
    refine ⟨_, rfl, _, rfl, s, _, rfl, .inl hS, _, _, rfl, rfl, _, rfl, ite2 (fun g => ?_) fun g => ?_⟩
    · rw [List.length_map] at g
      have g := of_decide_eq_true g
      exact ⟨_, rfl, _, rfl, s, _, _, .int (ns[k0]'(by omega)), rfl, rfl, hS, atI_nat (by rw [List.getElem?_map, List.getElem?_eq_getElem (by omega)]; rfl), k _⟩
    · dsimp only [tNext]
      exact ⟨_, rfl, s, ns, rfl, hS, _, _, rfl, rfl, (by show (0 : Int) < 2147483647; decide), _, rfl, _, _, rfl, rfl, .inl ⟨by decide, by decide⟩, _, _, rfl, rfl, k _⟩
theorem scDeck : FnScope ["_law_script", "_law_k", "_law_cell"] ["_law_script", "_law_k"] (defScope sDeck) := ⟨rfl, rfl, rfl, by decide +kernel, rfl, by decide +kernel, by decide +kernel⟩
theorem ok_Deck {f : Addr} {fd : FuncData} (F : Fun K "_law_deck" "_law_deck" sDeck f fd) (T : Txt mg)
    {gCell : Addr} {fCell : FuncData} (kCell : PySem.W.keepIn K (.ref gCell) = true) (bCell : Binds K fCell ["_law_script", "_law_k"] []) (hCell : mg "_law_cell_at" = some (.ref gCell)) (GCell : FnOk P w K mg base CX0 1 gCell fCell ["_law_script", "_law_k"] (spCell K)) :
    FnOk P w K mg base CX0 2 f fd ["_law_script", "_law_k"] (spDeck K) := by
  refine F.ok scDeck (fun vs H Q E h => ?_) (fun cdv A outer s H vs Q E hr h => ?_)
  · obtain ⟨_, _, _, rfl, _⟩ := h; rfl
  · obtain ⟨s, ns, k0, rfl, hS, hl, hk, k⟩ := h
    refine ⟨_, pss_cons (ps_set (i := 2) scDeck.nd rfl (Or.inl rfl) (pe_call GCell hr rfl hCell kCell bCell .nil pass0 (pa_cons (pv 0) (pa_cons (pv 1) pa_nil))))
      (pss_cons (ps_if (pt_cmpR op_lt (pv 2) (pe_op op_pow pe_int pe_int) (nomark _)) (pss_one (ps_ret (pe_lst (pa_cons pe_int (pa_cons (pe_op op_mod (pv 2) pe_int) (pa_cons pe_int pa_nil)))))) pss_nil)
      (pss_one (ps_ret (pe_lst (pa_cons (pv 2) (pa_cons (pe_op op_mod (pv 2) pe_int) (pa_cons pe_int pa_nil))))))), ?_⟩
    refine ⟨_, rfl, _, rfl, s, ns, k0, rfl, hS, hl, hk, fun v => ?_⟩
    refine ⟨_, rfl, _, _, rfl, rfl, ⟨by decide, by decide, by decide⟩, _, _, rfl, rfl, _, rfl, ite2 (fun g => ?_) fun g => ?_⟩
    · exact ⟨_, rfl, _, _, rfl, rfl, (by show (0 : Int) < 2305843009213693951; decide), small (by simp), fun d hd => k d _ (same_new hd) hd ⟨_, _, _, upd_same, by decide, by decide⟩⟩
    · dsimp only [tNext]
      exact ⟨_, rfl, _, rfl, _, _, rfl, rfl, (by show (0 : Int) < 2305843009213693951; decide), small (by simp), fun d hd => k d _ (same_new hd) hd ⟨_, _, _, upd_same, by decide, by decide⟩⟩
theorem scDraw : FnScope ["_law_deck_here", "_law_most", "_law_digit", "_law_mixed"] ["_law_deck_here", "_law_most"] (defScope sDraw) := ⟨rfl, rfl, rfl, by decide +kernel, rfl, by decide +kernel, by decide +kernel⟩
theorem ok_Draw {f : Addr} {fd : FuncData} (F : Fun K "_law_draw" "_law_draw" sDraw f fd) (T : Txt mg) :
    FnOk P w K mg base CX0 1 f fd ["_law_deck_here", "_law_most"] spDraw := by
  refine F.ok scDraw (fun vs H Q E h => ?_) (fun cdv A outer s H vs Q E hr h => ?_)
  · obtain ⟨_, _, _, rfl, _⟩ := h; rfl
  · obtain ⟨d, m, b, rfl, ⟨x, S, k0, hd, k00, kb⟩, m0, m1, k⟩ := h
    refine ⟨_, pss_cons (ps_if (pt_cmpR op_gt (pe_ix ix_list (pv 0) pe_int (fun _ _ => rfl)) pe_int (nomark _)) (pss_cons (ps_set (i := 2) scDraw.nd rfl (Or.inl rfl) (pe_op op_mod (pe_ix ix_list (pv 0) pe_int (fun _ _ => rfl)) (pv 1)))
      (pss_cons (ps_asg (pe_op op_fdiv (pe_ix ix_list (pv 0) pe_int (fun _ _ => rfl)) (pv 1)) (pg_sub (pv 0) (pe_int) set_list))
      (pss_one (ps_ret (pv 2))))) pss_nil)
      (pss_cons (ps_asg (pe_op op_add (pe_ix ix_list (pv 0) pe_int (fun _ _ => rfl)) pe_int) (pg_sub (pv 0) (pe_int) set_list))
      (pss_cons (ps_set (i := 3) scDraw.nd rfl (Or.inl rfl) (pe_op op_add (pe_op op_add (pe_ix ix_list (pv 0) pe_int (fun _ _ => rfl)) (pe_op op_mul (pe_op op_mul pe_int (pe_ix ix_list (pv 0) pe_int (fun _ _ => rfl))) (pe_ix ix_list (pv 0) pe_int (fun _ _ => rfl)))) pe_int))
      (pss_cons (ps_set (i := 3) scDraw.nd rfl (Or.inl rfl) (pe_op op_mod (pe_op op_mul (pv 3) pe_int) pe_int))
      (pss_one (ps_ret (pe_op op_mod (pe_op op_fdiv (pe_op op_mod (pe_op op_add (pe_op op_mul (pv 3) (pv 3)) (pe_ix ix_list (pv 0) pe_int (fun _ _ => rfl))) pe_int) pe_int) (pv 1))))))), ?_⟩
    refine ⟨_, rfl, d, _, 0, _, rfl, rfl, SqL.of hd, atI_nat (j := 0) rfl, _, _, rfl, rfl, _, rfl, ite2 (fun g => ?_) fun g => ?_⟩
    · refine ⟨_, rfl, d, _, 0, _, rfl, rfl, SqL.of hd, atI_nat (j := 0) rfl, _, rfl, _, _, rfl, rfl, m0, ?_⟩
      refine ⟨_, rfl, d, _, 0, _, rfl, rfl, SqL.of hd, atI_nat (j := 0) rfl, _, rfl, _, _, rfl, rfl, ⟨m0, by assumption⟩, _, rfl, d, _, 0, 0, rfl, rfl, hd, rfl, ?_⟩
      exact ⟨_, rfl, k _ _ (Int.emod_nonneg _ (by omega)) (Int.emod_lt_of_pos _ m0) (fun c o e n => by rw [upd_ne n]; exact e) ⟨_, S, k0, upd_same, k00, by omega⟩⟩
    · dsimp only [tNext]
      refine ⟨_, rfl, d, _, 2, _, rfl, rfl, SqL.of hd, atI_nat (j := 2) rfl, _, _, rfl, rfl, _, rfl, d, _, 2, 2, rfl, rfl, hd, rfl, ?_⟩
      have h1 : upd H d (.lst (([.int x, .int S, .int k0] : List V).set 2 (.int (k0 + 1)))) d = some (.lst [.int x, .int S, .int (k0 + 1)]) := upd_same
      have b1 : But d H (upd H d (.lst (([.int x, .int S, .int k0] : List V).set 2 (.int (k0 + 1))))) := fun c o e n => by rw [upd_ne n]; exact e
      generalize hH1 : upd H d _ = H1
      rw [hH1] at h1 b1
      clear hH1
      refine ⟨_, rfl, d, _, 1, _, rfl, rfl, SqL.of h1, atI_nat (j := 1) rfl, _, rfl, d, _, 2, _, rfl, rfl, SqL.of h1, atI_nat (j := 2) rfl, _, _, rfl, rfl, .inl ⟨by decide, by decide⟩, _, rfl, d, _, 2, _, rfl, rfl, SqL.of h1, atI_nat (j := 2) rfl, _, _, rfl, rfl, .inr ⟨by omega, by omega⟩, _, _, rfl, rfl, _, _, rfl, rfl, ?_⟩
      dsimp only
      generalize S + 7919 * (k0 + 1) * (k0 + 1) + 1 = z1
      refine ⟨_, rfl, _, _, rfl, rfl, .inr ⟨by decide, by decide⟩, _, _, rfl, rfl, (by show (0 : Int) < 2305843009213693951; decide), ?_⟩
      dsimp only
      have y0 := Int.emod_nonneg (z1 * 1442695040888963407) (show (2305843009213693951 : Int) ≠ 0 by decide)
      have y1 := Int.emod_lt_of_pos (z1 * 1442695040888963407) (show (0 : Int) < 2305843009213693951 by decide)
      generalize z1 * 1442695040888963407 % 2305843009213693951 = z2 at y0 y1
      refine ⟨_, rfl, _, rfl, _, _, rfl, rfl, .inl ⟨by omega, by exact Int.le_trans (by assumption) (by decide)⟩, _, rfl, d, _, 2, _, rfl, rfl, SqL.of h1, atI_nat (j := 2) rfl, _, _, rfl, rfl, _, _, rfl, rfl, (by show (0 : Int) < 2305843009213693921; decide), _, _, rfl, rfl, ⟨by decide, by decide⟩, _, rfl, _, _, rfl, rfl, m0, ?_⟩
      exact k _ _ (Int.emod_nonneg _ (by omega)) (Int.emod_lt_of_pos _ m0) b1 ⟨_, _, _, h1, by omega, by omega⟩
end
end K65
set_option maxHeartbeats 1000000
namespace K65
open PySem L2 Wk
def But2 (d l : Addr) (H H' : Hp) : Prop := ∀ b o, H b = some o → b ≠ d → b ≠ l → H' b = some o
def tNm : TS := fun D σ H => ∃ (d W l hr : Addr) (u1 u2 u3 u5 u7 u9 : Option V) (ws hs : List Nat) (zs : List Str) (b : Nat), σ = [some (.ref d), u1, u2, u3, some (.ref W), u5, some (.ref l), u7, some (.ref hr), u9] ∧ DeckAt H d (b + 1) ∧ H W = some (.lst (ws.map sg)) ∧ H l = some (.lst (zs.map V.str)) ∧ H hr = some (.lst (hs.map sg)) ∧ ws.length = 8 ∧ hs.length ≤ 8 ∧ zs.length < 100 ∧ W ≠ d ∧ l ≠ d ∧ hr ≠ d ∧
  ∀ (z : Str) (u9' : Option V) (H' : Hp), But2 d l H H' → DeckAt H' d b → H' l = some (.lst ((zs ++ [z]).map V.str)) → (∃ r, z.cps.toList = hs ++ r) → z.length ≤ 8 → D.nx [some (.ref d), u1, u2, u3, some (.ref W), u5, some (.ref l), u7, some (.ref hr), u9'] H'
def spNames : Sp := fun vs H Q _ => ∃ (d : Addr) (M b : Nat), vs = [.ref d, .int (M : Int)] ∧ DeckAt H d (b + (10 + M)) ∧ M ≤ 60 ∧ ∀ (l : Addr) (zs : List Str) (H' : Hp), But d H H' → DeckAt H' d b → H l = none → l ≠ d → H' l = some (.lst (zs.map V.str)) → zs.length = M → zs.Nodup → (∀ z ∈ zs, z.length ≤ 8) → Q (.ref l) H'
section
variable {P : Program} {w : World} {K : PySem.W.Frag} {mg : Str → Option Value} {base : Heap}
theorem scNames : FnScope ["_law_deck_here", "_law_many_here", "_law_letters", "_law_at", "_law_word", "_law_first", "_law_names_here", "_law_k", "_law_here", "_law_more"] ["_law_deck_here", "_law_many_here"] (defScope sNames) := ⟨rfl, rfl, rfl, by decide +kernel, rfl, by decide +kernel, by decide +kernel⟩
theorem nm_c1 (f i : Nat) : 97 + (((f : Int) + (0 + (i : Int))) % 26).toNat = 97 + (f + i) % 26 := by omega
theorem nm_c2 (f i : Nat) : 97 + (((f : Int) + (0 + (i : Int)) / 26) % 26).toNat = 97 + (f + i / 26) % 26 := by omega
theorem nm_0 (y : Int) : 0 ≤ y % 26 := Int.emod_nonneg y (by decide)
theorem nm_1 (y : Int) : y % 26 < 26 := Int.emod_lt_of_pos y (by decide)
theorem ok_Names {f : Addr} {fd : FuncData} (F : Fun K "_law_names" "_law_names" sNames f fd) (T : Txt mg)
    {gDraw : Addr} {fDraw : FuncData} (kDraw : PySem.W.keepIn K (.ref gDraw) = true) (bDraw : Binds K fDraw ["_law_deck_here", "_law_most"] []) (hDraw : mg "_law_draw" = some (.ref gDraw)) (GDraw : FnOk P w K mg base CX0 1 gDraw fDraw ["_law_deck_here", "_law_most"] spDraw) :
    FnOk P w K mg base CX0 2 f fd ["_law_deck_here", "_law_many_here"] spNames := by
  refine F.ok scNames (fun vs H Q E h => ?_) (fun cdv A outer s H vs Q E hr h => ?_)
  · obtain ⟨_, _, _, rfl, _⟩ := h; rfl
  · obtain ⟨d, M, b, rfl, hD, M60, k⟩ := h
    refine ⟨_, pss_cons (ps_set (i := 2) scNames.nd rfl (Or.inr rfl) pe_str)
      (pss_cons (ps_set (i := 3) scNames.nd rfl (Or.inl rfl) (pe_call GDraw hr rfl hDraw kDraw bDraw .nil pass0 (pa_cons (pv 0) (pa_cons pe_int pa_nil))))
      (pss_cons (ps_comp (i := 4) (T := ["_law_k"]) (F := ["_law_letters", "_law_deck_here"]) (js := [2, 0]) scNames.nd rfl (Or.inl rfl) (CS.to (osc := defScope sNames) ⟨by rfl, by decide +kernel, by decide +kernel, by decide +kernel, by decide +kernel, by decide +kernel, by decide +kernel⟩ rfl rfl) rfl (pi_range1 rfl T.range (pa_cons pe_int pa_nil)) (fun _ _ _ _ _ => pg_name (i := 0) (show (["_law_k", "_law_letters", "_law_deck_here"] : List Str).Nodup by decide +kernel) rfl (Or.inl rfl)) (fun _ _ _ _ _ => pif_nil) (fun _ _ _ _ _ => pe_ix ix_str (pv 1) (pe_call GDraw hr rfl hDraw kDraw bDraw .nil pass0 (pa_cons (pv 2) (pa_cons pe_int pa_nil))) (fun _ _ => rfl)))
      (pss_cons (ps_set (i := 5) scNames.nd rfl (Or.inl rfl) (pe_call GDraw hr rfl hDraw kDraw bDraw .nil pass0 (pa_cons (pv 0) (pa_cons pe_int pa_nil))))
      (pss_cons (ps_set (i := 6) scNames.nd rfl (Or.inl rfl) (pe_lst pa_nil))
      (pss_cons (ps_for PassesOwn.never rfl (pi_range1 rfl T.range (pa_cons (pv 1) pa_nil)) (pg_name (i := 7) scNames.nd rfl (Or.inl rfl)) (pss_cons (ps_set (i := 8) scNames.nd rfl (Or.inl rfl) (pe_op op_cat (pe_slice sl_list (pv 4) po_none (po_some (pv 3))) (pe_lst (pa_cons (pe_ix ix_str (pv 2) (pe_op op_mod (pe_op op_add (pv 5) (pv 7)) pe_int) (fun _ _ => rfl)) pa_nil))))
      (pss_cons (ps_if (pt_cmpR op_gt (pv 1) pe_int (nomark _)) (pss_one (ps_set (i := 8) scNames.nd rfl (Or.inl rfl) (pe_op op_cat (pv 8) (pe_lst (pa_cons (pe_ix ix_str (pv 2) (pe_op op_mod (pe_op op_add (pv 5) (pe_op op_fdiv (pv 7) pe_int)) pe_int) (fun _ _ => rfl)) pa_nil))))) pss_nil)
      (PSs.imp' (t' := tNm) (pss_cons (ps_set (i := 9) scNames.nd rfl (Or.inl rfl) (pe_op op_add (pe_callB call_len_seq (by rfl) T.len PySem.boot_len (pa_cons (pv 8) pa_nil)) (pe_call GDraw hr rfl hDraw kDraw bDraw .nil pass0 (pa_cons (pv 0) (pa_cons (pe_op op_sub pe_int (pe_callB call_len_seq (by rfl) T.len PySem.boot_len (pa_cons (pv 8) pa_nil))) pa_nil)))))
      (pss_one (ps_expr (pe_bm PySem.F.plainAttrs_list PySem.F.slot_list_append PySem.F.type_list_append mt_append (pv 6) (pa_cons (pe_bm PySem.F.plainAttrs_str PySem.F.slot_str_join PySem.F.type_str_join mt_join pe_str (pa_cons (pe_op op_cat (pv 8) (pe_slice sl_list (pv 4) (po_some (pe_callB call_len_seq (by rfl) T.len PySem.boot_len (pa_cons (pv 8) pa_nil))) (po_some (pv 9)))) pa_nil)) pa_nil))))) ?tail))))
      (pss_one (ps_ret (pv 6)))))))), ?_⟩
    case tail =>
      clear k hD M60
      rintro D σ H ⟨d, W, l, hr', u1, u2, u3, u5, u7, u9, ws, hs, zs, b, rfl, hD, hW, hl, hh, wl, hl8, zl, nW, nl, nh, k⟩
      refine ⟨_, rfl, hr', _, rfl, .inl (SqL.of hh), _, rfl, _, rfl, hr', _, rfl, .inl (SqL.of hh), _, _, rfl, rfl, d, _, b, rfl, hD, by rw [List.length_map]; omega, by rw [List.length_map]; omega, fun v H1 v0 v1 b1 D1 => ⟨_, _, rfl, rfl, ?_⟩⟩
      rw [List.length_map] at v1 ⊢
      obtain ⟨v, rfl⟩ := nat_of v0
      have hW1 := b1 _ _ hW nW
      have hl1 := b1 _ _ hl nl
      have hh1 := b1 _ _ hh nh
      refine ⟨_, rfl, .inl ⟨rfl, _, SqL.of hl1⟩, rfl, _, rfl, _, rfl, _, rfl, hr', _, rfl, .inl (SqL.of hh1), _, rfl, _, rfl, _, rfl, W, _, rfl, SqL.of hW1, fun q hq => ?_⟩
      have ec : cutV (ws.map sg) (some ((hs.map sg).length : Int)) (some ((hs.length : Int) + (v : Int))) = ((ws.drop hs.length).take v).map sg := by
        have e : ((hs.length : Int) + (v : Int)) = ((hs.length + v : Nat) : Int) := by omega
        rw [List.length_map, e, cutV_mid (by rw [List.length_map]; omega) (by exact Nat.le_add_right _ _), List.map_take, List.map_drop]
        congr 1; omega
      rw [ec]
      have rl : ((ws.drop hs.length).take v).length ≤ v := by rw [List.length_take]; omega
      generalize (ws.drop hs.length).take v = r at rl
      have sq := same_new (o := .lst (r.map sg)) hq
      have hq2 := upd_same (H := H1) (a := q) (o := .lst (r.map sg))
      have D2 := D1.same sq
      generalize upd H1 q (.lst (r.map sg)) = H2 at sq hq2 D2
      refine ⟨hr', q, _, _, rfl, rfl, sq _ _ hh1, hq2, small (by simp; omega), fun p hp => ?_⟩
      have sp := same_new (o := .lst (hs.map sg ++ r.map sg)) hp
      have hp3 := upd_same (H := H2) (a := p) (o := .lst (hs.map sg ++ r.map sg))
      have D3 := D2.same sp
      generalize upd H2 p (.lst (hs.map sg ++ r.map sg)) = H3 at sp hp3 D3
      rw [← List.map_append, sg_map] at hp3
      have hz := join_cps (hs ++ r)
      refine ⟨Str.ofString "", p, _, rfl, rfl, SqL.of hp3, ?_, ?_⟩
      · rw [sg_sum, List.length_map, List.length_append]; show _ + _ * 0 ≤ _; omega
      generalize Txt.join (Str.ofString "") ((hs ++ r).map fun c => (⟨#[c]⟩ : Str)) = z at hz
      have hl3 := sp _ _ (sq _ _ hl1)
      refine ⟨l, _, _, rfl, rfl, hl3, small1000 (by simp; omega), ?_⟩
      refine k z _ _ (fun x o e n1 n2 => by rw [upd_ne n2]; exact sp _ _ (sq _ _ (b1 _ _ e n1))) (D3.upd nl) (by rw [upd_same, List.map_append]; rfl) ⟨r, hz⟩ ?_
      rw [len_cps, hz, List.length_append]; omega
    refine ⟨_, rfl, d, 7, b + (9 + M), rfl, hD.mono (by omega), by decide, by decide, fun at_ H1 a0 a1 b1 D1 => ?_⟩
    obtain ⟨at_, rfl⟩ := nat_of a0
    have a7 : at_ < 7 := by omega
    refine ⟨8, rfl, by decide, by decide, fun W hWn => comp_range (lo := 0) (n := 8) (fun j σ ys H2 => ∃ (u : Option V) (ws : List Nat), σ = [u, some (.str LS), some (.ref d)] ∧ But d H1 H2 ∧ DeckAt H2 d (b + (9 + M - j)) ∧ H2 W = some (.lst ys) ∧ ys = ws.map sg ∧ ws.length = j) ?_ (fun j σ ys H2 _ ⟨_, _, _, _, _, e, _⟩ => e) ?_ ?_⟩
    · exact ⟨none, [], rfl, But.of (same_new hWn), (D1.mono (by exact Nat.le_refl _)).upd (D1.ne hWn), upd_same, rfl, rfl⟩
    · rintro j σ ys H2 hj ⟨u, ws, rfl, b2, D2, e2, rfl, wl⟩
      refine ⟨_, rfl, _, rfl, d, 26, b + (9 + M - (j + 1)), rfl, D2.mono (by omega), by decide, by decide, fun x H3 x0 x1 b3 D3 => ?_⟩
      have e3 := b3 _ _ e2 (D1.ne hWn)
      exact ⟨_, x, _, rfl, rfl, small (by decide +kernel), LS_at x0 x1, e3, small1000 (by simp; omega), _, ws ++ [97 + x.toNat], rfl, (b2.trans b3).set hWn, D3.upd (D1.ne hWn), upd_same, by rw [List.map_append]; rfl, by simp [wl]⟩
    rintro σ ys H2 ⟨u, ws, rfl, b2, D2, e2, rfl, wl⟩
    have nW := D1.ne hWn
    refine ⟨_, rfl, d, 26, b + M, rfl, D2.mono (by omega), by decide, by decide, fun f H3 f0 f1 b3 D3 => ?_⟩
    obtain ⟨f, rfl⟩ := nat_of f0
    have e3 := b3 _ _ e2 nW
    have B3 : But d H H3 := (b1.trans b2).trans b3
    refine ⟨small (by simp), fun l hl => ?_⟩
    have nl := D3.ne hl
    have nlW : W ≠ l := ne_of_none e3 hl
    have lH : H l = none := B3.none D3 hl
    refine ⟨_, rfl, (M : Int), rfl, by omega, by omega, for_rangeH (lo := 0) (n := (M : Int).toNat) (fun i σ H5 => ∃ (u7 u8 u9 : Option V) (zs : List Str), σ = [some (.ref d), some (.int (M : Int)), some (.str LS), some (.int (at_ : Int)), some (.ref W), some (.int (f : Int)), some (.ref l), u7, u8, u9] ∧ But d H H5 ∧ DeckAt H5 d (b + (M - i)) ∧ H5 W = some (.lst (ws.map sg)) ∧ H5 l = some (.lst (zs.map V.str)) ∧ zs.length = i ∧ (∀ z ∈ zs, z.length ≤ 8) ∧ ∀ (j : Nat) (y : Str), zs[j]? = some y → Nm at_ f M j y)
      ⟨_, _, _, [], rfl, B3.set lH, (D3.mono (by exact Nat.le_refl _)).upd nl, by rw [upd_ne nlW]; exact e3, upd_same, rfl, by simp, by simp⟩ ?_ ?_⟩
    · rintro i σ H5 hi ⟨u7, u8, u9, zs, rfl, b5, D5, W5, l5, zl, z8, zn⟩ E5 hE5 _
      have hi : i < M := by simpa using hi
      refine ⟨_, rfl, _, rfl, _, rfl, W, _, rfl, SqL.of W5, fun p hp => ?_⟩
      rw [cutV_take (by rw [List.length_map]; omega), ← List.map_take]
      have sp := same_new (o := .lst ((ws.take at_).map sg)) hp
      have hp1 := upd_same (H := H5) (a := p) (o := .lst ((ws.take at_).map sg))
      generalize upd H5 p (.lst ((ws.take at_).map sg)) = H6 at sp hp1
      refine ⟨_, rfl, _, rfl, _, rfl, _, _, rfl, rfl, _, _, rfl, rfl, (by show (0 : Int) < 26; decide), LS, _, _, rfl, rfl, small (by decide +kernel), LS_at (nm_0 _) (nm_1 _), small (by simp), fun q hq => ?_⟩
      rw [nm_c1]
      have sq := same_new (o := .lst [V.str ⟨#[97 + (f + i) % 26]⟩]) hq
      have hq1 := upd_same (H := H6) (a := q) (o := .lst [V.str ⟨#[97 + (f + i) % 26]⟩])
      generalize upd H6 q (.lst [V.str ⟨#[97 + (f + i) % 26]⟩]) = Hq at sq hq1
      refine ⟨p, q, _, _, rfl, rfl, sq _ _ hp1, hq1, small (by simp; omega), fun h hh => ?_⟩
      have sh := same_new (o := .lst ((ws.take at_).map sg ++ [V.str ⟨#[97 + (f + i) % 26]⟩])) hh
      have hh1 := upd_same (H := Hq) (a := h) (o := .lst ((ws.take at_).map sg ++ [V.str ⟨#[97 + (f + i) % 26]⟩]))
      generalize upd Hq h (.lst ((ws.take at_).map sg ++ [V.str ⟨#[97 + (f + i) % 26]⟩])) = H7 at sh hh1
      have S7 := (sp.trans sq).trans sh
      have tl : (ws.take at_).length = at_ := by rw [List.length_take]; omega
      have fin : ∀ (h' : Addr) (hs : List Nat) (H8 : Hp), Same H5 H8 → H8 h' = some (.lst (hs.map sg)) → hs.length ≤ 8 → hs[at_]? = some (97 + (f + i) % 26) → (26 < M → hs[at_ + 1]? = some (97 + (f + i / 26) % 26)) → tNm E5 [some (.ref d), some (.int (M : Int)), some (.str LS), some (.int (at_ : Int)), some (.ref W), some (.int (f : Int)), some (.ref l), some (.int (0 + (i : Int))), some (.ref h'), u9] H8 := by
        intro h' hs H8 s8 e8 h8 g1 g2
        have n8 : h' ≠ d := fun e => by
          obtain ⟨x, S, k', hd, _⟩ := D5.same s8
          rw [e, hd] at e8
          injection e8 with e8
          injection e8 with e8
          match hs, g1, e8 with
          | [], g1, _ => simp at g1
          | y :: ys, _, e8 => rw [List.map_cons] at e8; injection e8 with e8 _; cases e8
        refine ⟨d, W, l, h', _, _, _, _, _, _, ws, hs, zs, b + (M - (i + 1)), rfl, (D5.same s8).mono (by omega), s8 _ _ W5, s8 _ _ l5, e8, wl, h8, by omega, nW, nl, n8, fun z u9' H' bb DD hl' ⟨r, hz⟩ z8' => ?_⟩
        refine hE5 _ _ ⟨_, _, _, zs ++ [z], rfl, fun x o e n => ?_, DD, bb _ _ (s8 _ _ W5) nW nlW, hl', by simp [zl], fun x hx => ?_, fun j y hy => ?_⟩
        · exact bb _ _ (s8 _ _ (b5 _ _ e n)) n (ne_of_none e lH)
        · rcases List.mem_append.mp hx with q | q
          · exact z8 x q
          · rw [List.mem_singleton.mp q]; exact z8'
        · rw [List.getElem?_append] at hy
          split at hy
          · exact zn j y hy
          · have hj : j = i := by
              have := (List.getElem?_eq_some_iff.mp hy).1
              simp at this; omega
            subst hj
            rw [show j - zs.length = 0 by omega] at hy
            have : z = y := by simpa using hy
            subst this
            refine ⟨?_, fun q => ?_⟩
            · rw [hz, List.getElem?_append_left (List.getElem?_eq_some_iff.mp g1).1]; exact g1
            · rw [hz, List.getElem?_append_left (List.getElem?_eq_some_iff.mp (g2 q)).1]; exact g2 q
      have e7 : H7 h = some (.lst ((ws.take at_ ++ [97 + (f + i) % 26]).map sg)) := by rw [hh1, List.map_append]; rfl
      refine ⟨_, rfl, _, _, rfl, rfl, _, rfl, ite2 (fun g => ?_) fun g => ?_⟩
      · refine ⟨_, rfl, _, rfl, _, rfl, _, rfl, _, _, rfl, rfl, ⟨by decide, by decide⟩, _, _, rfl, rfl, _, _, rfl, rfl, (by show (0 : Int) < 26; decide), LS, _, _, rfl, rfl, small (by decide +kernel), LS_at (nm_0 _) (nm_1 _), small (by simp), fun q2 hq2 => ?_⟩
        rw [nm_c2]
        have sq2 := same_new (o := .lst [V.str ⟨#[97 + (f + i / 26) % 26]⟩]) hq2
        have hq3 := upd_same (H := H7) (a := q2) (o := .lst [V.str ⟨#[97 + (f + i / 26) % 26]⟩])
        generalize upd H7 q2 (.lst [V.str ⟨#[97 + (f + i / 26) % 26]⟩]) = H8 at sq2 hq3
        refine ⟨h, q2, _, _, rfl, rfl, sq2 _ _ e7, hq3, small (by simp; omega), fun h2 hh2 => ?_⟩
        refine fin h2 (ws.take at_ ++ [97 + (f + i) % 26] ++ [97 + (f + i / 26) % 26]) _ ((S7.trans sq2).trans (same_new hh2)) (by rw [upd_same, List.map_append (l₂ := [97 + (f + i / 26) % 26])]; rfl) (by simp; omega) ?_ fun _ => ?_
        · rw [List.getElem?_append_left (by simp; omega), List.getElem?_append_right (by exact Nat.le_of_eq (by assumption)), tl]; simp
        · rw [List.getElem?_append_right (by simp; omega)]; simp [tl]
      · have g : ¬ (26 : Int) < (M : Int) := by simpa using g
        refine fin h (ws.take at_ ++ [97 + (f + i) % 26]) H7 S7 e7 (by simp; omega) ?_ fun q => absurd q (by omega)
        rw [List.getElem?_append_right (by exact Nat.le_of_eq (by assumption)), tl]; simp
    · rintro σ H5 ⟨u7, u8, u9, zs, rfl, b5, D5, W5, l5, zl, z8, zn⟩
      have zl : zs.length = M := by simpa using zl
      exact ⟨_, rfl, k l zs H5 b5 (D5.mono (by exact Nat.le_add_right _ _)) lH nl l5 zl (Nm.nodup zn (by exact Nat.le_of_eq (by assumption)) M60) z8⟩
end
end K65
set_option maxHeartbeats 1000000
namespace K65
open PySem L2 Wk
def spMany : Sp := fun vs H Q _ => ∃ (d : Addr) (b : Nat), vs = [.ref d] ∧ DeckAt H d (b + 2) ∧ ∀ (N : Nat) (H' : Hp), But d H H' → DeckAt H' d b → 1 ≤ N → N ≤ 24 → Q (.int (N : Int)) H'
def spWeight : Sp := fun vs H Q _ => ∃ (d : Addr) (b : Nat), vs = [.ref d] ∧ DeckAt H d (b + 2) ∧ ∀ (v : Int) (H' : Hp), But d H H' → DeckAt H' d b → 0 ≤ v → v ≤ 1000000000 → Q (.int v) H'
def spTie : Sp := fun vs H Q _ => ∃ (d th fr : Addr) (N b : Nat) (ln : Bool) (ps : Ps) (fs : List Str), vs = [.ref d, .int (N : Int), .ref th, .ref fr, .bl ln] ∧ DeckAt H d (b + 8) ∧ 2 ≤ N ∧ N ≤ 24 ∧ ThAt H th ps ∧ PsOk N ps ∧ ps.length ≤ 60 ∧ H fr = some (.lst (fs.map V.str)) ∧ 0 < fs.length ∧ fs.length ≤ 100 ∧ th ≠ d ∧ fr ≠ d ∧
  ∀ (t : T4) (r : Addr) (H' : Hp), But d H H' → DeckAt H' d b → t.1 ∈ fs → TieOk N t → 0 ≤ t.2.2.2 → t.2.2.2 ≤ 1000000000 → H' r = some (.tup (tieV t)) → Q (.ref r) H'
def tTie : TS := fun D σ H => ∃ (d : Addr) (u1 u2 u3 u4 u8 u9 : Option V) (n : Str) (one other b : Nat), σ = [some (.ref d), u1, u2, u3, u4, some (.str n), some (.int (one : Int)), some (.int (other : Int)), u8, u9] ∧ DeckAt H d (b + 3) ∧
  ∀ (x y : Nat) (w : Int) (r : Addr) (H' : Hp), ((x = one ∧ y = other) ∨ (x = other ∧ y = one)) → But d H H' → DeckAt H' d b → 0 ≤ w → w ≤ 1000000000 → H' r = some (.tup (tieV (n, x, y, w))) → D.rt (.ref r) H'
theorem th_but {H H' : Hp} {d th : Addr} {ps : Ps} {n : Nat} (h : ThAt H th ps) (b : But d H H') (D : DeckAt H d n) (ne : th ≠ d) : ThAt H' th ps := ⟨b _ _ h.1 ne, fun p q => b.tup D (h.2 p q)⟩
section
variable {P : Program} {w : World} {K : PySem.W.Frag} {mg : Str → Option Value} {base : Heap}
theorem scMany : FnScope ["_law_deck_here", "_law_way"] ["_law_deck_here"] (defScope sMany) := ⟨rfl, rfl, rfl, by decide +kernel, rfl, by decide +kernel, by decide +kernel⟩
theorem ok_Many {f : Addr} {fd : FuncData} (F : Fun K "_law_many" "_law_many" sMany f fd) (T : Txt mg)
    {gDraw : Addr} {fDraw : FuncData} (kDraw : PySem.W.keepIn K (.ref gDraw) = true) (bDraw : Binds K fDraw ["_law_deck_here", "_law_most"] []) (hDraw : mg "_law_draw" = some (.ref gDraw)) (GDraw : FnOk P w K mg base CX0 1 gDraw fDraw ["_law_deck_here", "_law_most"] spDraw) :
    FnOk P w K mg base CX0 2 f fd ["_law_deck_here"] spMany := by
  refine F.ok scMany (fun vs H Q E h => ?_) (fun cdv A outer s H vs Q E hr h => ?_)
  · obtain ⟨_, _, rfl, _⟩ := h; rfl
  · obtain ⟨d, b, rfl, hD, k⟩ := h
    refine ⟨_, pss_cons (ps_set (i := 1) scMany.nd rfl (Or.inl rfl) (pe_call GDraw hr rfl hDraw kDraw bDraw .nil pass0 (pa_cons (pv 0) (pa_cons pe_int pa_nil))))
      (pss_cons (ps_if (pt_cmpR op_eq (pv 1) pe_int (nomark _)) (pss_one (ps_ret pe_int)) pss_nil)
      (pss_cons (ps_if (pt_cmpR op_eq (pv 1) pe_int (nomark _)) (pss_one (ps_ret (pe_op op_add pe_int (pe_call GDraw hr rfl hDraw kDraw bDraw .nil pass0 (pa_cons (pv 0) (pa_cons pe_int pa_nil)))))) pss_nil)
      (pss_one (ps_ret (pe_op op_add pe_int (pe_call GDraw hr rfl hDraw kDraw bDraw .nil pass0 (pa_cons (pv 0) (pa_cons pe_int pa_nil)))))))), ?_⟩
    refine ⟨_, rfl, d, 8, b + 1, rfl, hD, by decide, by decide, fun v H1 v0 v1 b1 D1 => ?_⟩
    refine ⟨_, rfl, rfl, _, rfl, ite2 (fun _ => k 24 H1 b1 (D1.mono (by exact Nat.le_add_right _ _)) (by decide) (by decide)) fun _ => ?_⟩
    dsimp only [tNext]
    refine ⟨_, rfl, rfl, _, rfl, ite2 (fun _ => ⟨_, rfl, d, 24, b, rfl, D1, by decide, by decide, fun x H2 x0 x1 b2 D2 => ⟨_, _, rfl, rfl, ?_⟩⟩) fun _ => ?_⟩
    · obtain ⟨x, rfl⟩ := nat_of x0
      have := k (1 + x) H2 (b1.trans b2) D2 (by exact Nat.le_add_right _ _) (by omega)
      simpa using this
    dsimp only [tNext]
    refine ⟨_, rfl, d, 6, b, rfl, D1, by decide, by decide, fun x H2 x0 x1 b2 D2 => ⟨_, _, rfl, rfl, ?_⟩⟩
    obtain ⟨x, rfl⟩ := nat_of x0
    have := k (2 + x) H2 (b1.trans b2) D2 (by omega) (by omega)
    simpa using this
theorem scWeight : FnScope ["_law_deck_here", "_law_way"] ["_law_deck_here"] (defScope sWeight) := ⟨rfl, rfl, rfl, by decide +kernel, rfl, by decide +kernel, by decide +kernel⟩
theorem ok_Weight {f : Addr} {fd : FuncData} (F : Fun K "_law_weight" "_law_weight" sWeight f fd) (T : Txt mg)
    {gDraw : Addr} {fDraw : FuncData} (kDraw : PySem.W.keepIn K (.ref gDraw) = true) (bDraw : Binds K fDraw ["_law_deck_here", "_law_most"] []) (hDraw : mg "_law_draw" = some (.ref gDraw)) (GDraw : FnOk P w K mg base CX0 1 gDraw fDraw ["_law_deck_here", "_law_most"] spDraw) :
    FnOk P w K mg base CX0 2 f fd ["_law_deck_here"] spWeight := by
  refine F.ok scWeight (fun vs H Q E h => ?_) (fun cdv A outer s H vs Q E hr h => ?_)
  · obtain ⟨_, _, rfl, _⟩ := h; rfl
  · obtain ⟨d, b, rfl, hD, k⟩ := h
    refine okO ⟨_, psso_cons (pso_of (ps_set (i := 1) scWeight.nd rfl (Or.inl rfl) (pe_call GDraw hr rfl hDraw kDraw bDraw .nil pass0 (pa_cons (pv 0) (pa_cons pe_int pa_nil)))))
      (psso_cons (pso_of (ps_if (pt_cmpR op_eq (pv 1) pe_int (nomark _)) (pss_one (ps_ret (pe_call GDraw hr rfl hDraw kDraw bDraw .nil pass0 (pa_cons (pv 0) (pa_cons (pe_op op_add (pe_op op_pow pe_int pe_int) pe_int) pa_nil))))) pss_nil))
      (psso_one (pso_ret (peo_ix ix_list (peo_lst (pao_cons peo_int (pao_cons peo_int (pao_cons peo_int (pao_cons peo_int (pao_cons peo_int (pao_cons peo_int (pao_cons (peo_op op_pow peo_int peo_int) pao_nil)))))))) (peo_of (pv 1)) (fun _ _ => rfl))))), ?_⟩
    refine ⟨_, rfl, d, 8, b + 1, rfl, hD, by decide, by decide, fun v H1 v0 v1 b1 D1 => ?_⟩
    refine ⟨_, rfl, rfl, _, rfl, ite2 (fun _ => ?_) fun g => ?_⟩
    · refine ⟨_, rfl, _, _, rfl, rfl, ⟨by decide, by decide, by decide⟩, _, _, rfl, rfl, d, _, b, rfl, D1, by decide, by decide, fun x H2 x0 x1 b2 D2 => k x H2 (b1.trans b2) D2 x0 (by have : x < 10 ^ 9 + 1 := x1; omega)⟩
    dsimp only [tNext]
    have g : v ≠ 7 := by simpa using g
    refine ⟨_, _, rfl, rfl, ⟨by decide, by decide, by decide⟩, small (by simp), fun q hq => ?_⟩
    obtain ⟨y, hy, iy⟩ := int_item [0, 1, 1, 2, 3, 7, 10 ^ 9] v0 (by show v < 7; omega)
    exact ⟨_, rfl, q, _, v, _, rfl, rfl, SqL.of upd_same, iy, k y _ (b1.trans (But.of (same_new hq))) ((D1.mono (by exact Nat.le_add_right _ _)).upd (D1.ne hq)) (by simp at hy; omega) (by simp at hy; omega)⟩
theorem scTie : FnScope ["_law_deck_here", "_law_many_here", "_law_there", "_law_free", "_law_lined", "_law_name", "_law_one", "_law_other", "_law_way", "_law_like"] ["_law_deck_here", "_law_many_here", "_law_there", "_law_free", "_law_lined"] (defScope sTie) := ⟨rfl, rfl, rfl, by decide +kernel, rfl, by decide +kernel, by decide +kernel⟩
theorem ok_Tie {f : Addr} {fd : FuncData} (F : Fun K "_law_tie" "_law_tie" sTie f fd) (T : Txt mg)
    {gDraw : Addr} {fDraw : FuncData} (kDraw : PySem.W.keepIn K (.ref gDraw) = true) (bDraw : Binds K fDraw ["_law_deck_here", "_law_most"] []) (hDraw : mg "_law_draw" = some (.ref gDraw)) (GDraw : FnOk P w K mg base CX0 2 gDraw fDraw ["_law_deck_here", "_law_most"] spDraw)
    {gWeight : Addr} {fWeight : FuncData} (kWeight : PySem.W.keepIn K (.ref gWeight) = true) (bWeight : Binds K fWeight ["_law_deck_here"] []) (hWeight : mg "_law_weight" = some (.ref gWeight)) (GWeight : FnOk P w K mg base CX0 2 gWeight fWeight ["_law_deck_here"] spWeight) :
    FnOk P w K mg base CX0 3 f fd ["_law_deck_here", "_law_many_here", "_law_there", "_law_free", "_law_lined"] spTie := by
  refine F.ok scTie (fun vs H Q E h => ?_) (fun cdv A outer s H vs Q E hr h => ?_)
  · obtain ⟨_, _, _, _, _, _, _, _, rfl, _⟩ := h; rfl
  · obtain ⟨d, th, fr, N, b, ln, ps, fs, rfl, hD, N2, N24, hT, hP, p60, hF, f0, f100, nth, nfr, k⟩ := h
    refine ⟨_, pss_cons (ps_set (i := 5) scTie.nd rfl (Or.inl rfl) (pe_ix ix_list (pv 3) (pe_call GDraw hr rfl hDraw kDraw bDraw .nil pass0 (pa_cons (pv 0) (pa_cons (pe_callB call_len_seq (by rfl) T.len PySem.boot_len (pa_cons (pv 3) pa_nil)) pa_nil))) (fun _ _ => rfl)))
      (pss_cons (ps_set (i := 6) scTie.nd rfl (Or.inl rfl) (pe_call GDraw hr rfl hDraw kDraw bDraw .nil pass0 (pa_cons (pv 0) (pa_cons (pv 1) pa_nil))))
      (pss_cons (ps_set (i := 7) scTie.nd rfl (Or.inl rfl) (pe_op op_mod (pe_op op_add (pe_op op_add (pv 6) pe_int) (pe_call GDraw hr rfl hDraw kDraw bDraw .nil pass0 (pa_cons (pv 0) (pa_cons (pe_op op_sub (pv 1) pe_int) pa_nil)))) (pv 1)))
      (pss_cons (ps_set (i := 8) scTie.nd rfl (Or.inl rfl) (pe_call GDraw hr rfl hDraw kDraw bDraw .nil pass0 (pa_cons (pv 0) (pa_cons pe_int pa_nil))))
      (pss_cons (ps_if (pt_val (pv 4)) (pss_cons (ps_set (i := 6) scTie.nd rfl (Or.inl rfl) (pe_op op_mod (pe_callB call_lenD (by rfl) T.len PySem.boot_len (pa_cons (pv 2) pa_nil)) (pv 1)))
      (pss_one (ps_set (i := 7) scTie.nd rfl (Or.inl rfl) (pe_op op_mod (pe_op op_add (pv 6) pe_int) (pv 1))))) (pss_one (ps_if (PW.pt (pw_and (pt_cmpR op_eq (pv 8) pe_int (nomark _)) (pw_and1 (pt_cmpR (op_neDict hr.units0) (pv 2) pe_dnewK (nomark _))))) (pss_cons (ps_set (i := 9) scTie.nd rfl (Or.inl rfl) (pe_dget (hu_of hr) (pv 2) (pe_ix ix_list (pe_callB (Srt.call_sortedD rfl) (by rfl) T.sorted (by decide +kernel) (pa_cons (pv 2) pa_nil)) (pe_call GDraw hr rfl hDraw kDraw bDraw .nil pass0 (pa_cons (pv 0) (pa_cons (pe_callB call_lenD (by rfl) T.len PySem.boot_len (pa_cons (pv 2) pa_nil)) pa_nil))) (fun _ _ => rfl)) (fun _ _ => rfl)))
      (pss_cons (ps_set (i := 6) scTie.nd rfl (Or.inl rfl) (pe_ix ix_tup (pv 9) pe_int (fun _ _ => rfl)))
      (pss_one (ps_set (i := 7) scTie.nd rfl (Or.inl rfl) (pe_ix ix_tup (pv 9) pe_int (fun _ _ => rfl)))))) (pss_one (ps_if (pt_cmpR op_eq (pv 8) pe_int (nomark _)) (pss_one (ps_set (i := 7) scTie.nd rfl (Or.inl rfl) (pe_op op_mod (pe_op op_add (pv 6) pe_int) (pv 1)))) pss_nil)))))
      (PSs.imp' (t' := tTie) (pss_cons (ps_if (pt_cmpR op_eq (pe_call GDraw hr rfl hDraw kDraw bDraw .nil pass0 (pa_cons (pv 0) (pa_cons pe_int pa_nil))) pe_int (nomark _)) (pss_one (ps_par (i := 6) (j := 7) rfl scTie.nd rfl rfl (by decide) rfl rfl (pa_cons (pv 7) (pa_cons (pv 6) pa_nil)) rfl)) pss_nil)
      (pss_one (ps_ret (pe_tup (pa_cons (pv 5) (pa_cons (pv 6) (pa_cons (pv 7) (pa_cons (pe_call GWeight hr rfl hWeight kWeight bWeight .nil pass0 (pa_cons (pv 0) pa_nil)) pa_nil)))))))) ?tail))))), ?_⟩
    case tail =>
      clear k hT hP hD hF f0 f100 p60 N2 N24
      rintro D σ H ⟨d, u1, u2, u3, u4, u8, u9, n, one, other, b, rfl, hD, k⟩
      refine ⟨_, rfl, d, 2, b + 2, rfl, hD, by decide, by decide, fun v H1 _ _ b1 D1 => ⟨rfl, _, rfl, ite2 (fun _ => ?_) fun _ => ?_⟩⟩
      · refine ⟨_, rfl, _, rfl, _, _, rfl, ?_⟩
        exact ⟨_, rfl, _, rfl, _, rfl, _, rfl, d, b, rfl, D1, fun w H2 b2 D2 w0 w1 => ⟨small (by simp), fun r hr' => k other one w r _ (.inr ⟨rfl, rfl⟩) ((b1.trans b2).trans (But.of (same_new hr'))) (D2.upd (D2.ne hr')) w0 w1 upd_same⟩⟩
      · exact ⟨_, rfl, _, rfl, _, rfl, _, rfl, d, b, rfl, D1, fun w H2 b2 D2 w0 w1 => ⟨small (by simp), fun r hr' => k one other w r _ (.inl ⟨rfl, rfl⟩) ((b1.trans b2).trans (But.of (same_new hr'))) (D2.upd (D2.ne hr')) w0 w1 upd_same⟩⟩
    refine ⟨_, rfl, _, rfl, _, rfl, fr, _, rfl, .inl (SqL.of hF), d, _, b + 7, rfl, hD, by rw [List.length_map]; omega, by rw [List.length_map]; omega, fun v H1 v0 v1 b1 D1 => ?_⟩
    rw [List.length_map] at v1
    obtain ⟨n, hn, _, an⟩ := str_item fs v0 v1
    refine ⟨fr, _, v, _, rfl, rfl, SqL.of (b1 _ _ hF nfr), an, ?_⟩
    refine ⟨_, rfl, _, rfl, d, _, b + 6, rfl, D1, by omega, by omega, fun one H2 o0 o1 b2 D2 => ?_⟩
    obtain ⟨one, rfl⟩ := nat_of o0
    refine ⟨_, rfl, _, _, rfl, rfl, _, rfl, _, rfl, _, _, rfl, rfl, d, _, b + 5, rfl, D2, by omega, by omega, fun x H3 x0 x1 b3 D3 => ⟨_, _, rfl, rfl, _, rfl, _, _, rfl, rfl, (by show (0 : Int) < N; omega), ?_⟩⟩
    obtain ⟨x, rfl⟩ := nat_of x0
    have om := mod_ne (N := N) (a := one) (v := x) (by omega) (by omega)
    have oe : ((one : Int) + 1 + (x : Int)) % (N : Int) = (((one + 1 + x) % N : Nat) : Int) := by rw [← mod_int]; simp
    dsimp only
    rw [oe]
    generalize (one + 1 + x) % N = other at om
    refine ⟨_, rfl, d, 4, b + 4, rfl, D3, by decide, by decide, fun way H4 w0 w1 b4 D4 => ?_⟩
    have B4 : But d H H4 := ((b1.trans b2).trans b3).trans b4
    have T4 := th_but hT B4 hD nth
    have oN : one < N := by omega
    have fin : ∀ (one other : Nat) (c : Nat) (u4 u8 u9 : Option V) (H5 : Hp), But d H H5 → DeckAt H5 d (b + 3) → TieOk N (n, one, other, 0) → tTie { nx := fun _ _ => True, rt := Q, bk := fun _ _ => True, ct := fun _ _ => True } [some (.ref d), some (.int (N : Int)), some (.ref th), some (.ref fr), u4, some (.str n), some (.int (one : Int)), some (.int (other : Int)), u8, u9] H5 := by
      intro one other c u4 u8 u9 H5 b5 D5 hok
      refine ⟨d, _, _, _, _, _, _, n, one, other, b, rfl, D5, fun x y w r H' hxy b' D' w0 w1 hr' => ?_⟩
      refine k (n, x, y, w) r H' (b5.trans b') D' hn ?_ w0 w1 hr'
      obtain ⟨h1, h2, h3⟩ := hok
      rcases hxy with ⟨rfl, rfl⟩ | ⟨rfl, rfl⟩
      · exact ⟨h1, h2, h3⟩
      · exact ⟨h2, h1, Ne.symm h3⟩
    cases ln with
    | true =>
      refine ⟨_, rfl, _, rfl, iteT ?_⟩
      refine ⟨_, rfl, th, _, rfl, T4.1, _, rfl, _, _, rfl, rfl, (by show (0 : Int) < N; omega), ?_⟩
      dsimp only
      rw [mod_int]
      have hl : (psK ps).length % N < N := Nat.mod_lt _ (by exact Nat.le_of_lt (by assumption))
      generalize (psK ps).length % N = l at hl
      refine ⟨_, rfl, _, _, rfl, rfl, _, rfl, _, _, rfl, rfl, (by show (0 : Int) < N; omega), ?_⟩
      have e : ((l : Int) + 1) % (N : Int) = (((l + 1) % N : Nat) : Int) := by rw [← mod_int]; simp
      dsimp only
      rw [e]
      have := mod_ne1 hl N2
      exact fin l _ 0 _ _ _ H4 B4 (D4.mono (by exact Nat.add_le_add_left (by decide) _)) ⟨hl, this.2, Ne.symm this.1⟩
    | false =>
      refine ⟨_, rfl, _, rfl, iteF ?_⟩
      have rest : ∀ (H5 : Hp), But d H H5 → DeckAt H5 d (b + 3) → (∀ t : TS, True) → tIfS (tTest (tOp rEq (tVar 8) (tC (.int 1)))) (tAsg (tOp (rI (fun _ j => 0 < j) fun i j => .int (i % j)) (tOp (rI0 fun i j => .int (i + j)) (tVar 6) (tC (.int 1))) (tVar 1)) (gName 7)) tNext { nx := fun σ H => tTie { nx := fun _ _ => True, rt := Q, bk := fun _ _ => True, ct := fun _ _ => True } σ H, rt := Q, bk := fun _ _ => True, ct := fun _ _ => True } [some (.ref d), some (.int (N : Int)), some (.ref th), some (.ref fr), some (.bl false), some (.str n), some (.int (one : Int)), some (.int (other : Int)), some (.int way), none] H5 := by
        intro H5 b5 D5 _
        refine ⟨_, rfl, rfl, _, rfl, ite2 (fun _ => ?_) fun _ => ?_⟩
        · refine ⟨_, rfl, _, _, rfl, rfl, _, rfl, _, _, rfl, rfl, (by show (0 : Int) < N; omega), ?_⟩
          have e : ((one : Int) + 1) % (N : Int) = (((one + 1) % N : Nat) : Int) := by rw [← mod_int]; simp
          dsimp only
          rw [e]
          have := mod_ne1 oN N2
          exact fin one _ 0 _ _ _ H5 b5 D5 ⟨oN, this.2, Ne.symm this.1⟩
        · exact fin one other 0 _ _ _ H5 b5 D5 ⟨oN, om.2, Ne.symm om.1⟩
      refine ⟨_, rfl, rfl, _, rfl, ite2 (fun _ => ⟨_, rfl, fun e he => ?_⟩) fun _ => iteF ?_⟩
      rotate_left
      · exact rest H4 B4 (D4.mono (by exact Nat.add_le_add_left (by decide) _)) fun _ => trivial
      have se := same_new (o := .dK []) he
      have e5 := upd_same (H := H4) (a := e) (o := .dK [])
      have D5 := D4.same se
      generalize upd H4 e (.dK []) = H5 at se e5 D5
      have B5 : But d H H5 := B4.trans (But.of se)
      have T5 := T4.same se
      refine ⟨th, e, _, rfl, rfl, T5.1, e5, _, rfl, ite2 (fun g => ?_) fun _ => ?_⟩
      rotate_left
      · exact rest H5 B5 (D5.mono (by exact Nat.add_le_add_left (by decide) _)) fun _ => trivial
      have pne : ps ≠ [] := fun e => by rw [e] at g; simp [psK] at g
      have pl : 0 < ps.length := List.length_pos_iff.mpr pne
      refine ⟨_, rfl, _, rfl, th, _, _, rfl, T5.1, psK_keys ps, by rw [List.length_map]; exact Nat.lt_of_le_of_lt (by assumption) (by decide), fun l ns hl perm _ => ?_⟩
      have sl := same_new (o := .lst (ns.map V.str)) hl
      have l6 := upd_same (H := H5) (a := l) (o := .lst (ns.map V.str))
      have D6 := D5.same sl
      have nl := D5.ne hl
      have T6 := T5.same sl
      generalize upd H5 l (.lst (ns.map V.str)) = H6 at sl l6 D6 T6
      have nsl : ns.length = ps.length := by rw [perm.length_eq, List.length_map]
      have pk : (psK ps).length = ps.length := by unfold psK; rw [List.length_map]
      refine ⟨_, rfl, _, rfl, th, _, rfl, T6.1, d, _, b + 3, rfl, D6, by rw [pk]; omega, by rw [pk]; omega, fun y H7 y0 y1 b7 D7 => ?_⟩
      rw [pk] at y1
      obtain ⟨m, hm, _, am⟩ := str_item ns y0 (by omega)
      have T7 := th_but T6 b7 D6 nth
      obtain ⟨p, hp, rfl⟩ := List.mem_map.mp (perm.mem_iff.mp hm)
      refine ⟨l, _, y, _, rfl, rfl, SqL.of (b7 _ _ l6 nl), am, th, _, rfl, (val_some hp hP.nd) ▸ DGet.k (k := Sum.inr p.1.1) T7.1, ?_⟩
      have ep := T7.2 p hp
      refine ⟨_, rfl, p.2, _, 0, _, rfl, rfl, SqT.of ep, atI_nat (j := 0) rfl, ?_⟩
      refine ⟨_, rfl, p.2, _, 1, _, rfl, rfl, SqT.of ep, atI_nat (j := 1) rfl, ?_⟩
      exact fin p.1.2.1 p.1.2.2.1 0 _ _ _ H7 ((B5.trans (But.of sl)).trans b7) D7 (hP.ok p hp)
end
end K65
set_option maxHeartbeats 1000000
namespace K65
open PySem L2 Wk
def spGap : Sp := fun vs H Q _ => ∃ (d : Addr) (b : Nat), vs = [.ref d] ∧ DeckAt H d (b + 2) ∧ ∀ (v : Int) (H' : Hp), But d H H' → DeckAt H' d b → 0 ≤ v → v ≤ 1000000000 → Q (.int v) H'
structure HI (d de th nm : Addr) (N : Nat) (zs : List Str) (H0 : Hp) (b : Nat) (mo : Int) (ps : Ps) (rs : List Addr) (ds : List Dd) (H : Hp) : Prop where
  bt : But d H0 H
  dk : DeckAt H d b
  hn : H nm = some (.lst (zs.map V.str))
  ht : ThAt H th ps
  po : PsOk N ps
  fs : ps.map (·.1) = thr ds
  hd : H de = some (.lst (rs.map V.ref))
  dd : DdsAt H rs ds
  rt : Right N ds
  m0 : 0 ≤ mo
  m1 : mo ≤ 1000000000
  mu : ∀ x ∈ ds, x.mo ≤ mo
structure HS (d de th nm : Addr) (N : Nat) (zs : List Str) (H0 : Hp) : Prop where
  nde : de ≠ d
  nth : th ≠ d
  nnm : nm ≠ d
  hde : H0 de = none
  hth : H0 th = none
  dnm : de ≠ nm
  znd : zs.Nodup
  zl : zs.length ≤ 60
theorem HI.but {d de th nm : Addr} {N : Nat} {zs : List Str} {H0 H H' : Hp} {b b' : Nat} {mo : Int} {ps : Ps} {rs : List Addr} {ds : List Dd} (I : HI d de th nm N zs H0 b mo ps rs ds H) (S : HS d de th nm N zs H0) (h : But d H H') (D : DeckAt H' d b') : HI d de th nm N zs H0 b' mo ps rs ds H' :=
  { I with bt := I.bt.trans h, dk := D, hn := h _ _ I.hn S.nnm, ht := th_but I.ht h I.dk S.nth, hd := h _ _ I.hd S.nde, dd := I.dd.mono fun r xs e => h.tup I.dk e }
theorem HI.same {d de th nm : Addr} {N : Nat} {zs : List Str} {H0 H H' : Hp} {b : Nat} {mo : Int} {ps : Ps} {rs : List Addr} {ds : List Dd} (I : HI d de th nm N zs H0 b mo ps rs ds H) (S : HS d de th nm N zs H0) (s : Same H H') : HI d de th nm N zs H0 b mo ps rs ds H' := I.but S (But.of s) (I.dk.same s)
theorem right_snoc {N : Nat} {ds : List Dd} {d : Dd} (h : Right N ds) (ok : DdOk N (thr ds) d) (l : ds.length < 60) (m : 0 ≤ d.mo ∧ d.mo ≤ 1000000000) (up : ∀ x ∈ ds, x.mo ≤ d.mo) (wt : ∀ m t, d = .come m t → 0 ≤ t.2.2.2 ∧ t.2.2.2 ≤ 1000000000) : Right N (ds ++ [d]) := by
  refine ⟨fun i x e => ?_, by simp; omega, fun x hx => ?_, ?_, fun m' t hx => ?_⟩
  · rw [List.getElem?_append] at e
    split at e
    · rename_i hi
      rw [List.take_append_of_le_length (by exact Nat.le_of_lt (by assumption))]
      exact h.ok i x e
    · have hi : i - ds.length = 0 := by
        have := (List.getElem?_eq_some_iff.mp e).1
        simp at this; assumption
      rw [hi] at e
      cases e
      rw [show i = ds.length by omega, List.take_left]
      exact ok
  · rcases List.mem_append.mp hx with q | q
    · exact h.mo x q
    · rw [List.mem_singleton.mp q]; exact m
  · refine List.pairwise_append.mpr ⟨h.up, List.pairwise_singleton .., fun x hx y hy => ?_⟩
    rw [List.mem_singleton.mp hy]; exact up x hx
  · rcases List.mem_append.mp hx with q | q
    · exact h.wt m' t q
    · exact wt m' t (List.mem_singleton.mp q).symm
theorem dds_snoc {H H' : Hp} {rs : List Addr} {ds : List Dd} {r : Addr} {d : Dd} (h : DdsAt H rs ds) (f : ∀ a xs, H a = some (.tup xs) → H' a = some (.tup xs)) (hr : H' r = some (.tup d.vs)) : DdsAt H' (rs ++ [r]) (ds ++ [d]) := by
  refine ⟨by simp [h.1], fun i a x ha hx => ?_⟩
  rw [List.getElem?_append] at ha hx
  by_cases hi : i < rs.length
  · rw [if_pos hi] at ha
    rw [if_pos (by rw [← h.1]; exact hi)] at hx
    exact f _ _ (h.2 i a x ha hx)
  · rw [if_neg hi] at ha
    rw [if_neg (by rw [← h.1]; exact hi), ← h.1] at hx
    have : i - rs.length = 0 := by
      have := (List.getElem?_eq_some_iff.mp ha).1
      simp at this; assumption
    rw [this] at ha hx
    cases ha
    cases hx
    exact hr
def hσ (d nm th de : Addr) (N : Nat) (u1 u4 : Option V) (ln : Bool) (mo : Int) (u9 u10 u11 u12 : Option V) : St := [some (.ref d), u1, some (.int (N : Int)), some (.ref nm), u4, some (.bl ln), some (.ref th), some (.int mo), some (.ref de), u9, u10, u11, u12]
def tGo : TS := fun D σ H => ∃ (d de th nm : Addr) (N : Nat) (zs : List Str) (H0 : Hp) (b : Nat) (mo : Int) (ps : Ps) (rs : List Addr) (ds : List Dd) (u1 u4 u9 u10 u11 u12 : Option V) (ln : Bool), σ = hσ d nm th de N u1 u4 ln mo u9 u10 u11 u12 ∧ HS d de th nm N zs H0 ∧ HI d de th nm N zs H0 (b + 1) mo ps rs ds H ∧ 0 < ps.length ∧ ds.length < 60 ∧
  ∀ (u11' : Option V) ps' rs' ds' H', HI d de th nm N zs H0 b mo ps' rs' ds' H' → ds'.length = ds.length + 1 → D.nx (hσ d nm th de N u1 u4 ln mo u9 u10 u11' u12) H'
def tCome : TS := fun D σ H => ∃ (d de th nm fr : Addr) (N : Nat) (zs fz : List Str) (H0 : Hp) (b : Nat) (mo : Int) (ps : Ps) (rs : List Addr) (ds : List Dd) (u1 u4 u9 u11 u12 : Option V) (ln : Bool), σ = hσ d nm th de N u1 u4 ln mo u9 (some (.ref fr)) u11 u12 ∧ HS d de th nm N zs H0 ∧ HI d de th nm N zs H0 (b + 8) mo ps rs ds H ∧ 2 ≤ N ∧ N ≤ 24 ∧ H fr = some (.lst (fz.map V.str)) ∧ fr ≠ d ∧ 0 < fz.length ∧ fz.length ≤ 100 ∧ (∀ n ∈ fz, n ∉ ps.map (·.1.1)) ∧ ds.length < 60 ∧
  ∀ (u12' : Option V) ps' rs' ds' H', HI d de th nm N zs H0 b mo ps' rs' ds' H' → ds'.length = ds.length + 1 → D.nx (hσ d nm th de N u1 u4 ln mo u9 (some (.ref fr)) u11 u12') H'
def spHistory : Sp := fun vs H Q _ => ∃ (d : Addr) (M b : Nat), vs = [.ref d, .int (M : Int)] ∧ M ≤ 60 ∧ DeckAt H d (b + 800) ∧ ∀ (h : Addr) (N : Nat) (ds : List Dd) (H' : Hp), But d H H' → DeckAt H' d b → HistAt H' h N ds → Right N ds → 1 ≤ N → N ≤ 24 → Q (.ref h) H'
def tHist : TS := fun D σ H => ∃ (d nm : Addr) (N b c : Nat) (zs : List Str) (u1 u5 u6 u7 u8 u9 u10 u11 u12 : Option V), σ = [some (.ref d), u1, some (.int (N : Int)), some (.ref nm), some (.int (c : Int)), u5, u6, u7, u8, u9, u10, u11, u12] ∧ c ≤ 60 ∧ DeckAt H d (b + 700) ∧ 1 ≤ N ∧ N ≤ 24 ∧ H nm = some (.lst (zs.map V.str)) ∧ 0 < zs.length ∧ zs.length ≤ 60 ∧ zs.Nodup ∧ nm ≠ d ∧ ∀ (h : Addr) (ds : List Dd) (H' : Hp), But d H H' → DeckAt H' d b → HistAt H' h N ds → Right N ds → D.rt (.ref h) H'
section
variable {P : Program} {w : World} {K : PySem.W.Frag} {mg : Str → Option Value} {base : Heap}
theorem scGap : FnScope ["_law_deck_here", "_law_way"] ["_law_deck_here"] (defScope sGap) := ⟨rfl, rfl, rfl, by decide +kernel, rfl, by decide +kernel, by decide +kernel⟩
theorem ok_Gap {f : Addr} {fd : FuncData} (F : Fun K "_law_gap" "_law_gap" sGap f fd) (T : Txt mg)
    {gDraw : Addr} {fDraw : FuncData} (kDraw : PySem.W.keepIn K (.ref gDraw) = true) (bDraw : Binds K fDraw ["_law_deck_here", "_law_most"] []) (hDraw : mg "_law_draw" = some (.ref gDraw)) (GDraw : FnOk P w K mg base CX0 1 gDraw fDraw ["_law_deck_here", "_law_most"] spDraw) :
    FnOk P w K mg base CX0 2 f fd ["_law_deck_here"] spGap := by
  refine F.ok scGap (fun vs H Q E h => ?_) (fun cdv A outer s H vs Q E hr h => ?_)
  · obtain ⟨_, _, rfl, _⟩ := h; rfl
  · obtain ⟨d, b, rfl, hD, k⟩ := h
    refine okO ⟨_, psso_cons (pso_of (ps_set (i := 1) scGap.nd rfl (Or.inl rfl) (pe_call GDraw hr rfl hDraw kDraw bDraw .nil pass0 (pa_cons (pv 0) (pa_cons pe_int pa_nil)))))
      (psso_cons (pso_of (ps_if (pt_cmpR op_eq (pv 1) pe_int (nomark _)) (pss_one (ps_ret (pe_call GDraw hr rfl hDraw kDraw bDraw .nil pass0 (pa_cons (pv 0) (pa_cons (pe_op op_pow pe_int pe_int) pa_nil))))) pss_nil))
      (psso_one (pso_ret (peo_ix ix_list (peo_lst (pao_cons peo_int (pao_cons peo_int (pao_cons peo_int (pao_cons peo_int (pao_cons peo_int (pao_cons peo_int (pao_cons peo_int pao_nil)))))))) (peo_of (pv 1)) (fun _ _ => rfl))))), ?_⟩
    refine ⟨_, rfl, d, 8, b + 1, rfl, hD, by decide, by decide, fun v H1 v0 v1 b1 D1 => ?_⟩
    refine ⟨_, rfl, rfl, _, rfl, ite2 (fun _ => ?_) fun g => ?_⟩
    · refine ⟨_, rfl, _, _, rfl, rfl, ⟨by decide, by decide, by decide⟩, d, _, b, rfl, D1, by decide, by decide, fun x H2 x0 x1 b2 D2 => k x H2 (b1.trans b2) D2 x0 (by have : x < 10 ^ 9 := x1; omega)⟩
    dsimp only [tNext]
    have g : v ≠ 7 := by simpa using g
    refine ⟨small (by simp), fun q hq => ?_⟩
    obtain ⟨y, hy, iy⟩ := int_item [0, 0, 1, 1, 2, 5, 0] v0 (by show v < 7; omega)
    exact ⟨_, rfl, q, _, v, _, rfl, rfl, SqL.of upd_same, iy, k y _ (b1.trans (But.of (same_new hq))) ((D1.mono (by exact Nat.le_add_right _ _)).upd (D1.ne hq)) (by simp at hy; omega) (by simp at hy; omega)⟩
theorem scHistory : FnScope ["_law_deck_here", "_law_most", "_law_many_here", "_law_names_here", "_law_count_here", "_law_lined", "_law_there", "_law_moment", "_law_deeds", "_law_k", "_law_free", "_law_name", "_law_tie_here"] ["_law_deck_here", "_law_most"] (defScope sHistory) := ⟨rfl, rfl, rfl, by decide +kernel, rfl, by decide +kernel, by decide +kernel⟩
theorem ok_History {f : Addr} {fd : FuncData} (F : Fun K "_law_history" "_law_history" sHistory f fd) (T : Txt mg)
    {gDraw : Addr} {fDraw : FuncData} (kDraw : PySem.W.keepIn K (.ref gDraw) = true) (bDraw : Binds K fDraw ["_law_deck_here", "_law_most"] []) (hDraw : mg "_law_draw" = some (.ref gDraw)) (GDraw : FnOk P w K mg base CX0 3 gDraw fDraw ["_law_deck_here", "_law_most"] spDraw)
    {gNames : Addr} {fNames : FuncData} (kNames : PySem.W.keepIn K (.ref gNames) = true) (bNames : Binds K fNames ["_law_deck_here", "_law_many_here"] []) (hNames : mg "_law_names" = some (.ref gNames)) (GNames : FnOk P w K mg base CX0 3 gNames fNames ["_law_deck_here", "_law_many_here"] spNames)
    {gMany : Addr} {fMany : FuncData} (kMany : PySem.W.keepIn K (.ref gMany) = true) (bMany : Binds K fMany ["_law_deck_here"] []) (hMany : mg "_law_many" = some (.ref gMany)) (GMany : FnOk P w K mg base CX0 3 gMany fMany ["_law_deck_here"] spMany)
    {gGap : Addr} {fGap : FuncData} (kGap : PySem.W.keepIn K (.ref gGap) = true) (bGap : Binds K fGap ["_law_deck_here"] []) (hGap : mg "_law_gap" = some (.ref gGap)) (GGap : FnOk P w K mg base CX0 3 gGap fGap ["_law_deck_here"] spGap)
    {gTie : Addr} {fTie : FuncData} (kTie : PySem.W.keepIn K (.ref gTie) = true) (bTie : Binds K fTie ["_law_deck_here", "_law_many_here", "_law_there", "_law_free", "_law_lined"] []) (hTie : mg "_law_tie" = some (.ref gTie)) (GTie : FnOk P w K mg base CX0 3 gTie fTie ["_law_deck_here", "_law_many_here", "_law_there", "_law_free", "_law_lined"] spTie) :
    FnOk P w K mg base CX0 4 f fd ["_law_deck_here", "_law_most"] spHistory := by
  refine F.ok scHistory (fun vs H Q E h => ?_) (fun cdv A outer s H vs Q E hr h => ?_)
  · obtain ⟨_, _, _, rfl, _⟩ := h; rfl
  · obtain ⟨d, M, b, rfl, M60, hD, k⟩ := h
    refine ⟨_, pss_cons (ps_set (i := 2) scHistory.nd rfl (Or.inl rfl) (pe_call GMany hr rfl hMany kMany bMany .nil pass0 (pa_cons (pv 0) pa_nil)))
      (pss_cons (ps_set (i := 3) scHistory.nd rfl (Or.inl rfl) (pe_call GNames hr rfl hNames kNames bNames .nil pass0 (pa_cons (pv 0) (pa_cons (pe_ix ix_list (pe_lst (pa_cons pe_int (pa_cons pe_int pa_nil))) (pe_callTy call_int1 (by rfl) T.int (by decide +kernel) (pa_cons (pe_cmpR op_eq (pe_call GDraw hr rfl hDraw kDraw bDraw .nil pass0 (pa_cons (pv 0) (pa_cons pe_int pa_nil))) pe_int (nomark _)) pa_nil)) (fun _ _ => rfl)) pa_nil))))
      (pss_cons (ps_set (i := 4) scHistory.nd rfl (Or.inl rfl) (pe_call GDraw hr rfl hDraw kDraw bDraw .nil pass0 (pa_cons (pv 0) (pa_cons pe_int pa_nil))))
      (pss_cons (ps_if (pt_cmpR op_eq (pe_call GDraw hr rfl hDraw kDraw bDraw .nil pass0 (pa_cons (pv 0) (pa_cons pe_int pa_nil))) pe_int (nomark _)) (pss_one (ps_set (i := 4) scHistory.nd rfl (Or.inl rfl) (pv 1))) pss_nil)
      (PSs.imp' (t' := tHist) (pss_cons (ps_set (i := 5) scHistory.nd rfl (Or.inl rfl) (pe_cmpR op_eq (pe_call GDraw hr rfl hDraw kDraw bDraw .nil pass0 (pa_cons (pv 0) (pa_cons pe_int pa_nil))) pe_int (nomark _)))
      (pss_cons (ps_set (i := 6) scHistory.nd rfl (Or.inr rfl) pe_dnewK)
      (pss_cons (ps_set (i := 7) scHistory.nd rfl (Or.inl rfl) pe_int)
      (pss_cons (ps_set (i := 8) scHistory.nd rfl (Or.inl rfl) (pe_lst pa_nil))
      (pss_cons (ps_for PassesOwn.never rfl (pi_range1 rfl T.range (pa_cons (pe_op op_mul (pv 4) (pe_callTy call_int1 (by rfl) T.int (by decide +kernel) (pa_cons (pe_cmpR op_gt (pv 2) pe_int (nomark _)) pa_nil))) pa_nil)) (pg_name (i := 9) scHistory.nd rfl (Or.inl rfl)) (pss_cons (ps_set (i := 7) scHistory.nd rfl (Or.inl rfl) (pe_callB (call_min2 rfl) (by rfl) T.min (by decide +kernel) (pa_cons (pe_op op_pow pe_int pe_int) (pa_cons (pe_op op_add (pv 7) (pe_call GGap hr rfl hGap kGap bGap .nil pass0 (pa_cons (pv 0) pa_nil))) pa_nil))))
      (pss_cons (ps_comp (i := 10) (T := ["_law_name"]) (F := ["_law_there"]) (js := [6]) scHistory.nd rfl (Or.inl rfl) (CS.to (osc := defScope sHistory) ⟨by rfl, by decide +kernel, by decide +kernel, by decide +kernel, by decide +kernel, by decide +kernel, by decide +kernel⟩ rfl rfl) rfl (pi_list (pv 3)) (fun _ _ _ _ _ => pg_name (i := 0) (show (["_law_name", "_law_there"] : List Str).Nodup by decide +kernel) rfl (Or.inl rfl)) (fun _ _ _ _ _ => pif_one (pt_cmp (pc_dnotin (hu_of hr) (pv 0) (pv 1)))) (fun _ _ _ _ _ => pv 0))
      (pss_one (ps_if (PW.pt (pw_and (pt_cmpR (op_neDict hr.units0) (pv 6) pe_dnewK (nomark _)) (pw_and1 (PW.pt (pw_or (pt_cmpR (op_eqNil hr.units) (pv 10) (pe_lst pa_nil) (nomark _)) (pw_or1 (pt_cmpR op_eq (pe_call GDraw hr rfl hDraw kDraw bDraw .nil pass0 (pa_cons (pv 0) (pa_cons (pe_op op_add pe_int (pe_op op_mul pe_int (pe_callTy call_int1 (by rfl) T.int (by decide +kernel) (pa_cons (pv 5) pa_nil)))) pa_nil))) pe_int (nomark _)))))))) (PSs.imp' (t' := tGo) (pss_cons (ps_set (i := 11) scHistory.nd rfl (Or.inl rfl) (pe_ix ix_list (pe_callB (Srt.call_sortedD rfl) (by rfl) T.sorted (by decide +kernel) (pa_cons (pv 6) pa_nil)) (pe_call GDraw hr rfl hDraw kDraw bDraw .nil pass0 (pa_cons (pv 0) (pa_cons (pe_callB call_lenD (by rfl) T.len PySem.boot_len (pa_cons (pv 6) pa_nil)) pa_nil))) (fun _ _ => rfl)))
      (pss_cons (ps_expr (pe_dpop1 (pv 6) (pv 11) ⟨rfl, rfl, rfl, rfl⟩))
      (pss_one (ps_expr (pe_bm PySem.F.plainAttrs_list PySem.F.slot_list_append PySem.F.type_list_append mt_append (pv 8) (pa_cons (pe_tup (pa_cons pe_str (pa_cons (pv 7) (pa_cons (pv 11) pa_nil)))) pa_nil)))))) ?go) (PSs.imp' (t' := tCome) (pss_cons (ps_set (i := 12) scHistory.nd rfl (Or.inl rfl) (pe_call GTie hr rfl hTie kTie bTie .nil pass0 (pa_cons (pv 0) (pa_cons (pv 2) (pa_cons (pv 6) (pa_cons (pv 10) (pa_cons (pv 5) pa_nil)))))))
      (pss_cons (ps_dput (hu_of hr) (pv 6) (pe_ix ix_tup (pv 12) pe_int (fun _ _ => rfl)) (pe_slice sl_tup (pv 12) (po_some pe_int) po_none) rfl)
      (pss_one (ps_expr (pe_bm PySem.F.plainAttrs_list PySem.F.slot_list_append PySem.F.type_list_append mt_append (pv 8) (pa_cons (pe_op op_catTT (pe_tup (pa_cons pe_str (pa_cons (pv 7) pa_nil))) (pv 12)) pa_nil)))))) ?come))))))
      (pss_one (ps_ret (pe_tup (pa_cons (pv 2) (pa_cons (pe_callTy call_tuple_of (by rfl) T.tuple (by decide +kernel) (pa_cons (pv 8) pa_nil)) pa_nil)))))))))) ?tail)))), ?_⟩
    case go =>
      clear k hD M60
      rintro DD σ H ⟨d, de, th, nm, N, zs, H0, b, mo, ps, rs, ds, u1, u4, u9, u10, u11, u12, ln, rfl, S, I, pp, d60, k⟩
      have p60 : ps.length ≤ 60 := by
        rw [← List.length_map (f := (·.1)), I.fs]
        have := thr_len ds ds.length
        rw [List.take_length] at this
        omega
      refine ⟨_, rfl, th, _, _, rfl, I.ht.1, psK_keys ps, by rw [List.length_map]; exact Nat.lt_of_le_of_lt (by assumption) (by decide), fun l ns hl perm _ => ?_⟩
      have sl := same_new (o := .lst (ns.map V.str)) hl
      have l1 := upd_same (H := H) (a := l) (o := .lst (ns.map V.str))
      have nl := I.dk.ne hl
      have I1 := I.same S sl
      generalize upd H l (.lst (ns.map V.str)) = H1 at sl l1 I1
      have nsl : ns.length = ps.length := by rw [perm.length_eq, List.length_map]
      have pk : (psK ps).length = ps.length := by unfold psK; rw [List.length_map]
      refine ⟨_, rfl, _, rfl, th, _, rfl, I1.ht.1, d, _, b, rfl, I1.dk, by rw [pk]; omega, by rw [pk]; omega, fun y H2 y0 y1 b2 D2 => ?_⟩
      rw [pk] at y1
      obtain ⟨m, hm, _, am⟩ := str_item ns y0 (by omega)
      have I2 := I1.but S b2 D2
      have mp := perm.mem_iff.mp hm
      obtain ⟨p, hp, ep⟩ := List.mem_map.mp mp
      refine ⟨l, _, y, _, rfl, rfl, SqL.of (b2 _ _ l1 nl), am, ?_⟩
      have hv := val_some hp I2.po.nd
      refine ⟨_, rfl, th, rfl, .inl ⟨_, .inl I2.ht.1⟩, _, rfl, psK ps, Sum.inr m, .ref p.2, I2.ht.1, rfl, by rw [← ep]; exact hv, ?_⟩
      rw [psK_drop]
      have tup3 : ∀ (a : Addr) xs, H2 a = some (.tup xs) → upd H2 th (.dK (psK (ps.filter fun p => decide (p.1.1 ≠ m)))) a = some (.tup xs) := fun a xs e => by
        rw [upd_ne (ne_of e I2.ht.1 (by intro z; cases z))]; exact e
      have T3 : ThAt (upd H2 th (.dK (psK (ps.filter fun p => decide (p.1.1 ≠ m))))) th (ps.filter fun p => decide (p.1.1 ≠ m)) := ⟨upd_same, fun q hq => tup3 _ _ (I2.ht.2 q (List.mem_filter.mp hq).1)⟩
      have hd3 : upd H2 th (.dK (psK (ps.filter fun p => decide (p.1.1 ≠ m)))) de = some (.lst (rs.map V.ref)) := by rw [upd_ne (ne_of I2.hd I2.ht.1 (by intro z; cases z))]; exact I2.hd
      have hn3 : upd H2 th (.dK (psK (ps.filter fun p => decide (p.1.1 ≠ m)))) nm = some (.lst (zs.map V.str)) := by rw [upd_ne (ne_of I2.hn I2.ht.1 (by intro z; cases z))]; exact I2.hn
      have dk3 := I2.dk.upd (o := .dK (psK (ps.filter fun p => decide (p.1.1 ≠ m)))) S.nth
      have bt3 : But d H0 (upd H2 th (.dK (psK (ps.filter fun p => decide (p.1.1 ≠ m))))) := I2.bt.set S.hth
      have dd3 := I2.dd.mono tup3
      generalize upd H2 th (.dK (psK (ps.filter fun p => decide (p.1.1 ≠ m)))) = H3 at T3 hd3 hn3 dk3 bt3 dd3
      refine ⟨_, rfl, .inl ⟨rfl, _, SqL.of hd3⟩, _, rfl, _, rfl, small (by simp), fun r hr' => ?_⟩
      have s4 := same_new (o := .tup [V.str (Str.ofString "go"), V.int mo, V.str m]) hr'
      have r4 : upd H3 r (.tup [V.str (Str.ofString "go"), V.int mo, V.str m]) r = some (.tup (Dd.go mo m).vs) := upd_same
      have hd4 := s4 _ _ hd3
      have hn4 := s4 _ _ hn3
      have dk4 := dk3.same s4
      have T4' := T3.same s4
      have bt4 := bt3.trans (But.of s4)
      have dd4 := dd3.mono fun a xs => s4 a (.tup xs)
      generalize upd H3 r (.tup [V.str (Str.ofString "go"), V.int mo, V.str m]) = H4 at s4 r4 hd4 hn4 dk4 T4' bt4 dd4
      have tup5 : ∀ (a : Addr) xs, H4 a = some (.tup xs) → upd H4 de (.lst (rs.map V.ref ++ [.ref r])) a = some (.tup xs) := fun a xs e => by
        rw [upd_ne (ne_of e hd4 (by intro z; cases z))]; exact e
      have rl : rs.length = ds.length := dd4.1
      refine ⟨de, _, _, rfl, rfl, hd4, small1000 (by rw [List.length_map]; omega), k _ (ps.filter fun p => decide (p.1.1 ≠ m)) (rs ++ [r]) (ds ++ [.go mo m]) _ ⟨bt4.set S.hde, dk4.upd S.nde, by rw [upd_ne (Ne.symm S.dnm)]; exact hn4, ⟨by rw [upd_ne (ne_of T4'.1 hd4 (by intro z; cases z))]; exact T4'.1, fun q hq => tup5 _ _ (T4'.2 q hq)⟩, ⟨?_, fun q hq => I2.po.ok q (List.mem_filter.mp hq).1⟩, by rw [ps_filt, I2.fs, thr_snoc]; rfl, by rw [upd_same, List.map_append]; rfl, dds_snoc dd4 tup5 (tup5 _ _ r4), right_snoc (d := .go mo m) I2.rt ?_ d60 ⟨I2.m0, I2.m1⟩ I2.mu (fun m' t e => by cases e), I2.m0, I2.m1, fun x hx => ?_⟩ (by simp)⟩
      · have : (ps.filter fun p => decide (p.1.1 ≠ m)).map (·.1.1) = (ps.map (·.1.1)).filter fun x => decide (x ≠ m) := by rw [List.filter_map]; rfl
        rw [this]; exact I2.po.nd.sublist List.filter_sublist
      · show m ∈ (thr ds).map (·.1)
        rw [← I2.fs, ps_names]; exact mp
      · rcases List.mem_append.mp hx with q | q
        · exact I2.mu x q
        · rw [List.mem_singleton.mp q]; exact Int.le_refl _
    case come =>
      clear k hD M60
      rintro DD σ H ⟨d, de, th, nm, fr, N, zs, fz, H0, b, mo, ps, rs, ds, u1, u4, u9, u11, u12, ln, rfl, S, I, N2, N24, hF, nF, f0, f100, fm, d60, k⟩
      have p60 : ps.length ≤ 60 := by
        rw [← List.length_map (f := (·.1)), I.fs]
        have := thr_len ds ds.length
        rw [List.take_length] at this
        omega
      refine ⟨_, rfl, _, rfl, _, rfl, _, rfl, _, rfl, d, th, fr, N, b, ln, ps, fz, rfl, I.dk, N2, N24, I.ht, I.po, p60, hF, f0, f100, S.nth, nF, fun t r H1 b1 D1 tm tok w0 w1 er => ?_⟩
      have I1 := I.but S b1 D1
      refine ⟨_, rfl, _, rfl, r, _, rfl, SqT.of er, (fun q => absurd (show (1 : Nat) = 0 from q.1) (by decide)), fun p hp => ?_⟩
      have ec : cutV (tieV t) (some 1) none = endV t := rfl
      rw [ec]
      have sp := same_new (o := .tup (endV t)) hp
      have p2 := upd_same (H := H1) (a := p) (o := .tup (endV t))
      have I2 := I1.same S sp
      have er2 := sp _ _ er
      generalize upd H1 p (.tup (endV t)) = H2 at sp p2 I2 er2
      refine ⟨_, rfl, _, rfl, r, _, 0, _, rfl, rfl, SqT.of er2, atI_nat (j := 0) rfl, th, _, rfl, DPut.k (k := Sum.inr t.1) I2.ht.1 (small1000 (by unfold psK; rw [List.length_map]; exact Nat.le_trans (by assumption) (by decide))), ?_⟩
      rw [psK_put (fm t.1 tm)]
      have tup3 : ∀ (a : Addr) xs, H2 a = some (.tup xs) → upd H2 th (.dK (psK (ps ++ [(t, p)]))) a = some (.tup xs) := fun a xs e => by
        rw [upd_ne (ne_of e I2.ht.1 (by intro z; cases z))]; exact e
      have T3 : ThAt (upd H2 th (.dK (psK (ps ++ [(t, p)])))) th (ps ++ [(t, p)]) := ⟨upd_same, fun q hq => by
        rcases List.mem_append.mp hq with h | h
        · exact tup3 _ _ (I2.ht.2 q h)
        · rw [List.mem_singleton.mp h]; exact tup3 _ _ p2⟩
      have hd3 : upd H2 th (.dK (psK (ps ++ [(t, p)]))) de = some (.lst (rs.map V.ref)) := by rw [upd_ne (ne_of I2.hd I2.ht.1 (by intro z; cases z))]; exact I2.hd
      have hn3 : upd H2 th (.dK (psK (ps ++ [(t, p)]))) nm = some (.lst (zs.map V.str)) := by rw [upd_ne (ne_of I2.hn I2.ht.1 (by intro z; cases z))]; exact I2.hn
      have dk3 := I2.dk.upd (o := .dK (psK (ps ++ [(t, p)]))) S.nth
      have bt3 : But d H0 (upd H2 th (.dK (psK (ps ++ [(t, p)])))) := I2.bt.set S.hth
      have dd3 := I2.dd.mono tup3
      have er3 := tup3 _ _ er2
      generalize upd H2 th (.dK (psK (ps ++ [(t, p)]))) = H3 at T3 hd3 hn3 dk3 bt3 dd3 er3
      refine ⟨_, rfl, .inl ⟨rfl, _, SqL.of hd3⟩, _, rfl, small (by simp), fun c hc => ?_⟩
      have sc := same_new (o := .tup [.str (Str.ofString "come"), .int mo]) hc
      have c3 := upd_same (H := H3) (a := c) (o := .tup [.str (Str.ofString "come"), .int mo])
      generalize hH3 : upd H3 c (.tup [.str (Str.ofString "come"), .int mo]) = H3' at sc c3
      refine ⟨_, rfl, c, r, _, _, rfl, rfl, SqT.of c3, SqT.of (sc _ _ er3), small (by simp [tieV]), fun e => absurd e (by simp), fun _ e => absurd e (by simp [tieV]), fun _ _ g hg => ?_⟩
      have s4 := sc.trans (same_new (o := .tup ([V.str (Str.ofString "come"), V.int mo] ++ tieV t)) hg)
      have r4 : upd H3' g (.tup ([V.str (Str.ofString "come"), V.int mo] ++ tieV t)) g = some (.tup (Dd.come mo t).vs) := upd_same
      have hd4 := s4 _ _ hd3
      have hn4 := s4 _ _ hn3
      have dk4 := dk3.same s4
      have T4' := T3.same s4
      have bt4 := bt3.trans (But.of s4)
      have dd4 := dd3.mono fun a xs => s4 a (.tup xs)
      generalize upd H3' g (.tup ([V.str (Str.ofString "come"), V.int mo] ++ tieV t)) = H4 at s4 r4 hd4 hn4 dk4 T4' bt4 dd4
      have tup5 : ∀ (a : Addr) xs, H4 a = some (.tup xs) → upd H4 de (.lst (rs.map V.ref ++ [.ref g])) a = some (.tup xs) := fun a xs e => by
        rw [upd_ne (ne_of e hd4 (by intro z; cases z))]; exact e
      have rl : rs.length = ds.length := dd4.1
      refine ⟨de, _, _, rfl, rfl, hd4, small1000 (by rw [List.length_map]; omega), k _ (ps ++ [(t, p)]) (rs ++ [g]) (ds ++ [.come mo t]) _ ⟨bt4.set S.hde, dk4.upd S.nde, by rw [upd_ne (Ne.symm S.dnm)]; exact hn4, ⟨by rw [upd_ne (ne_of T4'.1 hd4 (by intro z; cases z))]; exact T4'.1, fun q hq => tup5 _ _ (T4'.2 q hq)⟩, ⟨?_, fun q hq => ?_⟩, by rw [List.map_append, I2.fs, thr_snoc]; rfl, by rw [upd_same, List.map_append]; rfl, dds_snoc dd4 tup5 (tup5 _ _ r4), right_snoc (d := .come mo t) I2.rt ⟨?_, tok⟩ d60 ⟨I2.m0, I2.m1⟩ I2.mu (fun m' t' e => by cases e; exact ⟨w0, w1⟩), I2.m0, I2.m1, fun x hx => ?_⟩ (by simp)⟩
      · rw [List.map_append]
        refine List.nodup_append.mpr ⟨I2.po.nd, List.nodup_cons.mpr ⟨by simp, List.nodup_nil⟩, fun x hx y hy => ?_⟩
        have e : y = t.1 := List.mem_singleton.mp hy
        intro q
        exact fm t.1 tm (by rw [← e, ← q]; exact hx)
      · rcases List.mem_append.mp hq with h | h
        · exact I2.po.ok q h
        · rw [List.mem_singleton.mp h]; exact tok
      · rw [← I2.fs, ps_names]; exact fm t.1 tm
      · rcases List.mem_append.mp hx with q | q
        · exact I2.mu x q
        · rw [List.mem_singleton.mp q]; exact Int.le_refl _
    case tail =>
      clear k hD M60
      rintro DD σ H0 ⟨d, nm, N, b, c, zs, u1, u5, u6, u7, u8, u9, u10, u11, u12, rfl, c60, hD, N1, N24, hn, z0, zl, znd, nnm, k⟩
      refine ⟨_, rfl, d, 8, b + 699, rfl, hD, by decide, by decide, fun v H1 _ _ b1 D1 => ⟨rfl, ?_⟩⟩
      generalize decide (V.int v = V.int 6) = ln
      intro th hth
      have s2 := same_new (o := .dK []) hth
      have t2 := upd_same (H := H1) (a := th) (o := .dK [])
      have nth := D1.ne hth
      have hth0 : H0 th = none := b1.none D1 hth
      have D2 := D1.same s2
      have B2 := b1.trans (But.of s2)
      have n2 := B2 _ _ hn nnm
      generalize upd H1 th (.dK []) = H2 at s2 t2 D2 B2 n2
      refine ⟨small (by simp), fun de hde => ?_⟩
      have s3 := same_new (o := .lst []) hde
      have e3 := upd_same (H := H2) (a := de) (o := .lst [])
      have nde := D2.ne hde
      have hde0 : H0 de = none := B2.none D2 hde
      have D3 := D2.same s3
      have B3 := B2.trans (But.of s3)
      have n3 := s3 _ _ n2
      have t3 := s3 _ _ t2
      generalize upd H2 de (.lst []) = H3 at s3 e3 D3 B3 n3 t3
      have SS : HS d de th nm N zs H0 := ⟨nde, nth, nnm, hde0, hth0, (ne_of_none hn hde0).symm, znd, zl⟩
      obtain ⟨C, hC, eC, C2⟩ : ∃ C : Nat, C ≤ 60 ∧ (c : Int) * (if decide ((1 : Int) < (N : Int)) = true then (1 : Int) else 0) = (C : Int) ∧ (0 < C → 2 ≤ N) := by
        by_cases g : (1 : Int) < (N : Int)
        · exact ⟨c, c60, by rw [decide_eq_true g]; simp, fun _ => by omega⟩
        · exact ⟨0, by decide, by rw [decide_eq_false g]; simp, fun h => absurd h (by decide)⟩
      refine ⟨_, rfl, _, rfl, _, _, rfl, rfl, .inr ⟨_, rfl, _, _, rfl, rfl, .inl ⟨by omega, by omega⟩, (C : Int), ?_, by omega, by omega, for_rangeH (lo := 0) (n := (C : Int).toNat) (fun i σ H5 => ∃ (u9 u10 u11 u12 : Option V) (mo : Int) (ps : Ps) (rs : List Addr) (ds : List Dd), σ = hσ d nm th de N u1 (some (.int (c : Int))) ln mo u9 u10 u11 u12 ∧ HI d de th nm N zs H0 (b + (C - i) * 11) mo ps rs ds H5 ∧ ds.length = i)
        ⟨_, _, _, _, 0, [], [], [], rfl, ⟨B3, D3.mono (by omega), n3, ⟨t3, by simp⟩, ⟨List.nodup_nil, by simp⟩, rfl, e3, ⟨rfl, fun i r d e => (by simp at e)⟩, ⟨fun i d e => (by simp at e), by simp, by simp, List.Pairwise.nil, fun m t h => (by cases h)⟩, by decide, by decide, by simp⟩, rfl⟩ ?_ ?_⟩⟩
      · rw [← eC]
      · rintro i σ H5 hi ⟨u9', u10', u11', u12', mo, ps, rs, ds, rfl, I, dl⟩ E5 hE5 _
        have hi : i < C := by simpa using hi
        have N2 := C2 (by omega)
        have p60 : ps.length ≤ 60 := by
          rw [← List.length_map (f := (·.1)), I.fs]
          have := thr_len ds ds.length
          rw [List.take_length] at this
          omega
        refine ⟨_, _, rfl, rfl, ⟨by decide, by decide, by decide⟩, _, rfl, _, rfl, d, b + (C - (i + 1)) * 11 + 9, rfl, I.dk.mono (by omega), fun gp H6 b6 D6 g0 g1 => ⟨_, _, rfl, rfl, _, _, rfl, ?_⟩⟩
        have I6 := I.but SS b6 D6
        obtain ⟨mo', em, mm0, mm1, mm2⟩ : ∃ mo' : Int, (if mo + gp < 10 ^ (9 : Int).toNat then mo + gp else 10 ^ (9 : Int).toNat) = mo' ∧ 0 ≤ mo' ∧ mo' ≤ 1000000000 ∧ mo ≤ mo' := by
          have := I.m0
          have := I.m1
          have e9 : (10 : Int) ^ (9 : Int).toNat = 1000000000 := by decide
          rw [e9]
          refine ⟨_, rfl, ?_, ?_, ?_⟩ <;> split <;> omega
        rw [em]
        have I7 : HI d de th nm N zs H0 (b + (C - (i + 1)) * 11 + 9) mo' ps rs ds H6 := { I6 with m0 := mm0, m1 := mm1, mu := fun x hx => Int.le_trans (I6.mu x hx) mm2 }
        clear I I6 em b6 D6
        refine ⟨_, rfl, nm, rfl, ⟨_, SqL.of I7.hn⟩, fun F hF => comp_list (K := K) (a := nm) (xs := zs.map V.str) (fun j σ ys H7 => ∃ (u : Option V), σ = [u, some (.ref th)] ∧ ys = ((zs.take j).filter fun n => !decide (n ∈ ps.map (·.1.1))).map V.str ∧ H7 = upd H6 F (.lst ys)) ⟨none, rfl, rfl, rfl⟩ (fun j σ ys H7 _ ⟨_, _, _, e⟩ => by rw [e]; exact ⟨SqL.of (by rw [upd_ne (ne_of_none I7.hn hF)]; exact I7.hn), upd_same⟩) ?_ ?_⟩
        · rintro j x σ ys H7 hx ⟨u, rfl, rfl, rfl⟩
          obtain ⟨z, hz, rfl⟩ := map_some hx
          have tk : zs.take (j + 1) = zs.take j ++ [z] := by rw [List.take_add_one, hz]; rfl
          have lf : ((zs.take j).filter fun n => !decide (n ∈ ps.map (·.1.1))).length ≤ 60 := Nat.le_trans (List.length_filter_le _ _) (by rw [List.length_take]; omega)
          refine ⟨_, rfl, _, rfl, th, _, rfl, DGet.k (k := Sum.inr z) (same_new hF _ _ I7.ht.1), _, rfl, ?_⟩
          rw [val_has]
          by_cases g : z ∈ ps.map (·.1.1)
          · rw [decide_eq_true g]
            exact iteF ⟨_, rfl, by rw [tk, List.filter_append]; simp [g], rfl⟩
          · rw [decide_eq_false g]
            exact iteT ⟨_, rfl, upd_same, small1000 (by rw [List.length_map]; exact Nat.le_trans (by assumption) (by decide)), _, rfl, by rw [tk, List.filter_append, List.map_append]; simp [g], by rw [upd_upd]⟩
        rintro σ ys H7 ⟨u, rfl, rfl, rfl⟩
        rw [List.length_map, List.take_length]
        have fl : (zs.filter fun n => !decide (n ∈ ps.map (·.1.1))).length ≤ 60 := Nat.le_trans (List.length_filter_le _ _) (by assumption)
        have fm : ∀ n ∈ zs.filter fun n => !decide (n ∈ ps.map (·.1.1)), n ∉ ps.map (·.1.1) := fun n hn => by
          have := (List.mem_filter.mp hn).2
          simpa using this
        have f0 : ps = [] → 0 < (zs.filter fun n => !decide (n ∈ ps.map (·.1.1))).length := fun e => by subst e; rw [List.filter_eq_self.mpr (by simp)]; exact z0
        generalize (zs.filter fun n => !decide (n ∈ ps.map (·.1.1))) = fz at fl fm f0
        have sF := same_new (o := .lst (fz.map V.str)) hF
        have F8 := upd_same (H := H6) (a := F) (o := .lst (fz.map V.str))
        have nF := I7.dk.ne hF
        have I8 := I7.same SS sF
        generalize upd H6 F (.lst (fz.map V.str)) = H8 at sF F8 I8
        clear I7 sF hF
        refine ⟨_, rfl, fun e he => ?_⟩
        have se := same_new (o := .dK []) he
        have e9 := upd_same (H := H8) (a := e) (o := .dK [])
        have I9 := I8.same SS se
        have F9 := se _ _ F8
        generalize upd H8 e (.dK []) = H9 at se e9 I9 F9
        clear I8 F8
        have come : ∀ (HA : Hp) (bb : Nat), HI d de th nm N zs H0 bb mo' ps rs ds HA → b + (C - (i + 1)) * 11 + 8 ≤ bb → HA F = some (.lst (fz.map V.str)) → 0 < fz.length → tCome E5 (hσ d nm th de N u1 (some (.int (c : Int))) ln mo' (some (.int (0 + (i : Int)))) (some (.ref F)) u11' u12') HA := by
          intro HA bb IA hb fA f0'
          exact ⟨d, de, th, nm, F, N, zs, fz, H0, b + (C - (i + 1)) * 11, mo', ps, rs, ds, _, _, _, _, _, ln, rfl, SS, { IA with dk := IA.dk.mono hb }, N2, N24, fA, nF, f0', by exact Nat.le_trans (by assumption) (by decide), fm, by omega, fun u12'' ps' rs' ds' H' I' l' => hE5 _ _ ⟨_, _, _, _, _, ps', rs', ds', rfl, I', by omega⟩⟩
        have go : ∀ (HA : Hp) (bb : Nat), HI d de th nm N zs H0 bb mo' ps rs ds HA → b + (C - (i + 1)) * 11 + 1 ≤ bb → 0 < ps.length → tGo E5 (hσ d nm th de N u1 (some (.int (c : Int))) ln mo' (some (.int (0 + (i : Int)))) (some (.ref F)) u11' u12') HA := by
          intro HA bb IA hb p0
          exact ⟨d, de, th, nm, N, zs, H0, b + (C - (i + 1)) * 11, mo', ps, rs, ds, _, _, _, _, _, _, ln, rfl, SS, { IA with dk := IA.dk.mono hb }, p0, by omega, fun u11'' ps' rs' ds' H' I' l' => hE5 _ _ ⟨_, _, _, _, _, ps', rs', ds', rfl, I', by omega⟩⟩
        refine ⟨th, e, _, rfl, rfl, I9.ht.1, e9, _, rfl, ite2 (fun g => ?_) fun g => iteF ?_⟩
        rotate_left
        · have pe : ps = [] := by
            cases ps with
            | nil => rfl
            | cons q qs => exact absurd (by simp [psK]) g
          exact come H9 _ I9 (by exact Nat.add_le_add_left (by decide) _) F9 (f0 pe)
        have pp : 0 < ps.length := by
          cases ps with
          | nil => exact absurd g (by simp [psK])
          | cons q qs => simp
        refine ⟨_, rfl, small (by simp), fun e2 he2 => ?_⟩
        have se2 := same_new (o := .lst []) he2
        have eA := upd_same (H := H9) (a := e2) (o := .lst [])
        have IA := I9.same SS se2
        have FA := se2 _ _ F9
        generalize upd H9 e2 (.lst []) = HA at se2 eA IA FA
        refine ⟨F, e2, _, rfl, rfl, SqL.of FA, SqL.of eA, _, rfl, ite2 (fun _ => iteT (go HA _ IA (by exact Nat.add_le_add_left (by decide) _) pp)) fun g2 => ?_⟩
        have fp : 0 < fz.length := by
          cases fz with
          | nil => exact absurd (by simp) g2
          | cons q qs => simp
        have hb : (0 : Int) < 3 + 9 * (if ln = true then (1 : Int) else 0) ∧ (3 + 9 * (if ln = true then (1 : Int) else 0)) < 1073741824 := by cases ln <;> decide
        refine ⟨_, rfl, _, rfl, .inr ⟨_, rfl, _, _, rfl, rfl, .inl ⟨by decide, by decide⟩, _, _, rfl, rfl, d, _, b + (C - (i + 1)) * 11 + 8, rfl, IA.dk, hb.1, hb.2, fun v2 HB _ _ bB DB => ⟨rfl, _, rfl, ?_⟩⟩⟩
        have IB := IA.but SS bB DB
        have FB := bB _ _ FA nF
        refine ite2 (fun g3 => ?_) fun g3 => ?_
        · exact go HB _ IB (by exact Nat.add_le_add_left (by decide) _) pp
        · exact come HB _ IB (by exact Nat.add_le_add_left (by decide) _) FB fp
      · rintro σ H5 ⟨u9', u10', u11', u12', mo, ps, rs, ds, rfl, I, dl⟩
        refine ⟨_, rfl, _, rfl, de, _, rfl, .inl ⟨SqL.of I.hd, fun tp htp => ?_⟩⟩
        have s6 := same_new (o := .tup (rs.map V.ref)) htp
        have t6 := upd_same (H := H5) (a := tp) (o := .tup (rs.map V.ref))
        generalize upd H5 tp (.tup (rs.map V.ref)) = H6 at s6 t6
        refine ⟨small (by simp), fun h hh => ?_⟩
        have s7 := same_new (o := .tup [.int (N : Int), .ref tp]) hh
        have S7 := s6.trans s7
        exact k h ds _ (I.bt.trans (But.of S7)) ((I.dk.same S7).mono (by exact Nat.le_add_right _ _)) ⟨tp, rs, upd_same, s7 _ _ t6, I.dd.mono fun a xs => S7 a (.tup xs)⟩ I.rt
    refine ⟨_, rfl, d, b + 798, rfl, hD, fun N H1 b1 D1 N1 N24 => ?_⟩
    refine ⟨_, rfl, small (by simp), fun q hq => ?_⟩
    have sq := same_new (o := .lst [.int 5, .int 40]) hq
    have q2 := upd_same (H := H1) (a := q) (o := .lst [.int 5, .int 40])
    have nq := D1.ne hq
    have D2 := D1.same sq
    generalize upd H1 q (.lst [.int 5, .int 40]) = H2 at sq q2 D2
    refine ⟨_, rfl, d, 8, b + 797, rfl, D2, by decide, by decide, fun v H3 _ _ b3 D3 => ⟨rfl, .inr ⟨_, rfl, ?_⟩⟩⟩
    have q3 := b3 _ _ q2 nq
    have B3 : But d H H3 := (b1.trans (But.of sq)).trans b3
    obtain ⟨nn, an, n0, n60⟩ : ∃ nn : Nat, atI ([.int 5, .int 40] : List V) (if decide (V.int v = V.int 5) = true then 1 else 0) = some (.int (nn : Int)) ∧ 0 < nn ∧ nn ≤ 40 := by
      by_cases g : decide (V.int v = V.int 5) = true
      · rw [if_pos g]; exact ⟨40, rfl, by decide, by decide⟩
      · rw [if_neg g]; exact ⟨5, rfl, by decide, by decide⟩
    refine ⟨q, _, _, _, rfl, rfl, SqL.of q3, an, d, nn, b + 740, rfl, D3.mono (by omega), by exact Nat.le_trans (by assumption) (by decide), fun nm zs H4 b4 D4 nmn nnm n4 zl znd z8 => ?_⟩
    refine ⟨_, rfl, d, 13, b + 739, rfl, D4, by decide, by decide, fun c H5 c0 c1 b5 D5 => ?_⟩
    obtain ⟨c, rfl⟩ := nat_of c0
    have n5 := b5 _ _ n4 nnm
    have B5 := (B3.trans b4).trans b5
    refine ⟨_, rfl, d, 8, b + 738, rfl, D5, by decide, by decide, fun w H6 _ _ b6 D6 => ⟨rfl, _, rfl, ite2 (fun _ => ?_) fun _ => ?_⟩⟩
    · exact ⟨_, rfl, d, nm, N, b, M, zs, _, _, _, _, _, _, _, _, _, rfl, M60, D6.mono (by exact Nat.add_le_add_left (by decide) _), N1, N24, b6 _ _ n5 nnm, by omega, by omega, znd, nnm, fun h ds H' bb DD' hh rr => k h N ds H' ((B5.trans b6).trans bb) DD' hh rr N1 N24⟩
    · exact ⟨d, nm, N, b, c, zs, _, _, _, _, _, _, _, _, _, rfl, by omega, D6.mono (by exact Nat.add_le_add_left (by decide) _), N1, N24, b6 _ _ n5 nnm, by omega, by omega, znd, nnm, fun h ds H' bb DD' hh rr => k h N ds H' ((B5.trans b6).trans bb) DD' hh rr N1 N24⟩
end
end K65
set_option maxHeartbeats 1000000
namespace K65
open PySem L2 Wk
theorem flat_strs (zs : List Str) : (zs.map V.str).all flatV = true := by
  induction zs with
  | nil => rfl
  | cons n ns ih => rw [List.map_cons, List.all_cons, ih]; rfl
def spLStand : Sp := spStandB
theorem rev_get {α : Type} {l : List α} {i : Nat} (h : i < l.length) : l.reverse[i]? = l[l.length - 1 - i]? := List.getElem?_reverse h
theorem bk_come {m : Int} {t : T4} {r : List Dd} {met : List Str} : bk (.come m t :: r) met = (if t.1 ∉ met then [t] else []) ++ bk r (met ++ [t.1]) := rfl
theorem bk_go {m : Int} {n : Str} {r : List Dd} {met : List Str} : bk (.go m n :: r) met = bk r (met ++ [n]) := rfl
section
variable {P : Program} {w : World} {K : PySem.W.Frag} {mg : Str → Option Value} {base : Heap}
theorem scLStand : FnScope ["_law_history_here", "_law_n", "_law_there", "_law_met", "_law_deed"] ["_law_history_here", "_law_n"] (defScope sLStand) := ⟨rfl, rfl, rfl, by decide +kernel, rfl, by decide +kernel, by decide +kernel⟩
theorem ok_LStand {f : Addr} {fd : FuncData} (F : Fun K "_law_stand_behind" "_law_stand_behind" sLStand f fd) (T : Txt mg) :
    FnOk P w K mg base CX0 1 f fd ["_law_history_here", "_law_n"] spLStand := by
  refine F.ok scLStand (fun vs H Q E h => ?_) (fun cdv A outer s H vs Q E hr h => ?_)
  · obtain ⟨_, _, _, _, rfl, _⟩ := h; rfl
  · obtain ⟨h, N, ds, n, rfl, ⟨tp, rs, eh, et, hdd⟩, hR, hn, k⟩ := h
    refine ⟨_, pss_cons (ps_set (i := 2) scLStand.nd rfl (Or.inl rfl) (pe_lst pa_nil))
      (pss_cons (ps_set (i := 3) scLStand.nd rfl (Or.inl rfl) (pe_lst pa_nil))
      (pss_cons (ps_for PassesOwn.never rfl (pi_revT rfl T.reversed (pa_cons (PE.imp' (t' := tTakeH K 0 1) (pe_slice sl_tupA (pe_ix ix_tup (pv 0) pe_int (fun _ _ => rfl)) po_none (po_some (pv 1))) takeH_ok) pa_nil)) (pg_name (i := 4) scLStand.nd rfl (Or.inl rfl)) (pss_cons (ps_if (PW.pt (pw_and (pt_cmpR op_notIn_seq (pe_ix ix_tup (pv 4) pe_int (fun _ _ => rfl)) (pv 3) (by rfl)) (pw_and1 (pt_cmpR op_eq (pe_ix ix_tup (pv 4) pe_int (fun _ _ => rfl)) pe_str (nomark _))))) (pss_one (ps_expr (pe_bm PySem.F.plainAttrs_list PySem.F.slot_list_append PySem.F.type_list_append mt_append (pv 2) (pa_cons (pe_slice sl_tup (pv 4) (po_some pe_int) po_none) pa_nil)))) pss_nil)
      (pss_one (ps_expr (pe_bm PySem.F.plainAttrs_list PySem.F.slot_list_append PySem.F.type_list_append mt_append (pv 3) (pa_cons (pe_ix ix_tup (pv 4) pe_int (fun _ _ => rfl)) pa_nil))))))
      (pss_one (ps_ret (pe_callTy call_tuple_of (by rfl) T.tuple (by decide +kernel) (pa_cons (pe_callB Srt.call_sortedT (by rfl) T.sorted (by decide +kernel) (pa_cons (pv 2) pa_nil)) pa_nil)))))), ?_⟩
    refine ⟨small (by simp), fun th hth => ?_⟩
    have s1 := same_new (o := .lst []) hth
    have t1 := upd_same (H := H) (a := th) (o := .lst [])
    generalize upd H th (.lst []) = H1 at s1 t1
    refine ⟨small (by simp), fun mt hmt => ?_⟩
    have s2 := same_new (o := .lst []) hmt
    have m2 := upd_same (H := H1) (a := mt) (o := .lst [])
    have hmt0 : H mt = none := none_of s1 hmt
    have tm : th ≠ mt := ne_of_none t1 hmt
    have S2 := s1.trans s2
    have t2 := s2 _ _ t1
    generalize upd H1 mt (.lst []) = H2 at s2 m2 S2 t2
    have lrs := hdd.1
    refine ⟨h, tp, _, n, rs.map V.ref, rfl, rfl, S2 _ _ eh, S2 _ _ et, by rw [List.length_map]; omega, fun p0 H3 s3 hp0 => ?_⟩
    rw [← List.map_take] at hp0
    have n60 := hR.len
    have ll : ((rs.take n).map V.ref).length = n := by rw [List.length_map, List.length_take]; omega
    have rl : (ds.take n).reverse.length = n := by rw [List.length_reverse, List.length_take]; omega
    refine ⟨p0, _, rfl, SqT.of hp0, for_revT (K := K) (a := p0) (xs := (rs.take n).map V.ref) (fun i σ H4 => ∃ (u4 : Option V) (as : List Addr) (L : List T4) (ms : List Str), σ = [some (.ref h), some (.int (n : Int)), some (.ref th), some (.ref mt), u4] ∧ Same H H4 ∧ H4 p0 = some (.tup ((rs.take n).map V.ref)) ∧ H4 th = some (.lst (as.map V.ref)) ∧ TiesAt H4 as L ∧ H4 mt = some (.lst (ms.map V.str)) ∧ L ++ bk ((ds.take n).reverse.drop i) ms = bk (ds.take n).reverse [] ∧ ms.length = i ∧ L.length ≤ i) ⟨_, [], [], [], rfl, S2.trans s3, hp0, s3 _ _ t2, ⟨rfl, fun i r t e => (by simp at e)⟩, s3 _ _ m2, rfl, rfl, Nat.le_refl _⟩ (fun i σ H4 _ ⟨_, _, _, _, _, _, e, _⟩ => SqT.of e) ?_ ?_⟩
    · rintro i x σ H4 hi hx ⟨u4, as, L, ms, rfl, s4, p4, t4, R4, m4, eb, ml, Ll⟩
      rw [ll] at hi hx
      obtain ⟨r, er, rfl⟩ := map_some hx
      have ln : n - 1 - i < n := by omega
      rw [List.getElem?_take_of_lt ln] at er
      obtain ⟨dd, ed, r0⟩ := hdd.get er
      have r4 := s4 _ _ r0
      have eR : (ds.take n).reverse[i]? = some dd := by
        rw [rev_get (by rw [List.length_take]; omega), List.length_take, Nat.min_eq_left (by assumption), List.getElem?_take_of_lt ln]
        exact ed
      have dr : (ds.take n).reverse.drop i = dd :: (ds.take n).reverse.drop (i + 1) := by
        have hi' : i < (ds.take n).reverse.length := by omega
        rw [List.drop_eq_getElem_cons hi']
        congr 1
        have := getq hi'
        rw [eR] at this
        exact (Option.some.inj this).symm
      rw [dr] at eb
      generalize (ds.take n).reverse.drop (i + 1) = RR at eb
      have fin : ∀ (as' : List Addr) (L' : List T4) (H5 : Hp) (nm : Str), dd.nm = nm → Same H H5 → H5 p0 = some (.tup ((rs.take n).map V.ref)) → H5 th = some (.lst (as'.map V.ref)) → TiesAt H5 as' L' → H5 mt = some (.lst (ms.map V.str)) → H5 r = some (.tup dd.vs) → L' ++ bk RR (ms ++ [nm]) = bk (ds.take n).reverse [] → L'.length ≤ i + 1 → tDrop (tBM K "list" rAppend (tVar 3) (tCons (tOp (rIxT K) (tVar 4) (tC (.int 2))) tNil)) { nx := fun σ H4 => ∃ (u4 : Option V) (as : List Addr) (L : List T4) (ms : List Str), σ = [some (.ref h), some (.int (n : Int)), some (.ref th), some (.ref mt), u4] ∧ Same H H4 ∧ H4 p0 = some (.tup ((rs.take n).map V.ref)) ∧ H4 th = some (.lst (as.map V.ref)) ∧ TiesAt H4 as L ∧ H4 mt = some (.lst (ms.map V.str)) ∧ L ++ bk RR ms = bk (ds.take n).reverse [] ∧ ms.length = i + 1 ∧ L.length ≤ i + 1, rt := fun _ _ => True, bk := fun _ _ => True, ct := fun _ _ => True } [some (.ref h), some (.int (n : Int)), some (.ref th), some (.ref mt), some (.ref r)] H5 := by
        intro as' L' H5 nm en s5 p5 t5 R5 m5 r5 eb5 l5
        have a2 : atI dd.vs 2 = some (.str nm) := by rw [← en]; cases dd <;> exact atI_nat (j := 2) rfl
        refine ⟨_, rfl, .inl ⟨rfl, _, SqL.of m5⟩, _, rfl, r, _, 2, _, rfl, rfl, SqT.of r5, a2, mt, _, _, rfl, rfl, m5, small1000 (by rw [List.length_map]; omega), _, as', L', ms ++ [nm], rfl, same_set s5 hmt0, by rw [upd_ne (ne_of p5 m5 (by intro z; cases z))]; exact p5, by rw [upd_ne tm]; exact t5, ⟨R5.1, fun j a t e f => by rw [upd_ne (ne_of (R5.2 j a t e f) m5 (by intro z; cases z))]; exact R5.2 j a t e f⟩, by rw [upd_same, List.map_append]; rfl, eb5, by simp [ml], l5⟩
      have a2 : atI dd.vs 2 = some (.str dd.nm) := by cases dd <;> exact atI_nat (j := 2) rfl
      refine ⟨_, rfl, r, _, 2, _, rfl, rfl, SqT.of r4, a2, _, rfl, mt, _, rfl, .inl (SqL.of m4), rfl, flat_strs ms, _, rfl, ?_⟩
      show if (!inV (.str dd.nm) (ms.map V.str)) = true then _ else _
      rw [inV_strs]
      cases dd with
      | come m t =>
        rw [bk_come] at eb
        by_cases g : t.1 ∈ ms
        · rw [show decide ((Dd.come m t).nm ∈ ms) = true from decide_eq_true g]
          refine iteF (iteF ?_)
          rw [if_neg (by simpa using g)] at eb
          exact fin as L H4 t.1 rfl s4 p4 t4 R4 m4 r4 (by simpa using eb) (by exact Nat.le_succ_of_le (by assumption))
        · rw [show decide ((Dd.come m t).nm ∈ ms) = false from decide_eq_false g]
          refine iteT ⟨_, rfl, r, _, 0, _, rfl, rfl, SqT.of r4, atI_nat (j := 0) rfl, rfl, _, rfl, iteT ?_⟩
          rw [if_pos g] at eb
          refine ⟨_, rfl, .inl ⟨rfl, _, SqL.of t4⟩, _, rfl, _, rfl, r, _, rfl, SqT.of r4, (fun q => absurd (show (2 : Nat) = 0 from q.1) (by decide)), fun p hp => ?_⟩
          have ec : cutV (Dd.come m t).vs (some 2) none = tieV t := rfl
          rw [ec]
          have s5 := same_new (o := .tup (tieV t)) hp
          have p5' := upd_same (H := H4) (a := p) (o := .tup (tieV t))
          have t5 := s5 _ _ t4
          have R5 := R4.same s5
          have m5 := s5 _ _ m4
          have r5 := s5 _ _ r4
          have q5 := s5 _ _ p4
          generalize upd H4 p (.tup (tieV t)) = H5 at s5 p5' t5 R5 m5 r5 q5
          have tl : ∀ (a : Addr) xs, H5 a = some (.tup xs) → upd H5 th (.lst (as.map V.ref ++ [.ref p])) a = some (.tup xs) := fun a xs e => by
            rw [upd_ne (ne_of e t5 (by intro z; cases z))]; exact e
          refine ⟨th, _, _, rfl, rfl, t5, small1000 (by rw [List.length_map, R5.1]; omega), ?_⟩
          refine fin (as ++ [p]) (L ++ [t]) _ t.1 rfl (same_set (s4.trans s5) hth) (tl _ _ q5) (by rw [upd_same, List.map_append]; rfl) ⟨by simp [R5.1], fun j a u ha hu => ?_⟩ (by rw [upd_ne tm.symm]; exact m5) (tl _ _ r5) (by rw [← eb]; simp) (by simp; assumption)
          rw [List.getElem?_append] at ha hu
          by_cases hj : j < as.length
          · rw [if_pos hj] at ha
            rw [if_pos (by rw [← R5.1]; exact hj)] at hu
            exact tl _ _ (R5.2 j a u ha hu)
          · rw [if_neg hj] at ha
            rw [if_neg (by rw [← R5.1]; exact hj), ← R5.1] at hu
            have : j - as.length = 0 := by
              have := (List.getElem?_eq_some_iff.mp ha).1
              simp at this; assumption
            rw [this] at ha hu
            cases ha
            cases hu
            exact tl _ _ p5'
      | go m nn =>
        rw [bk_go] at eb
        by_cases g : nn ∈ ms
        · rw [show decide ((Dd.go m nn).nm ∈ ms) = true from decide_eq_true g]
          exact iteF (iteF (fin as L H4 nn rfl s4 p4 t4 R4 m4 r4 eb (by exact Nat.le_succ_of_le (by assumption))))
        · rw [show decide ((Dd.go m nn).nm ∈ ms) = false from decide_eq_false g]
          exact iteT ⟨_, rfl, r, _, 0, _, rfl, rfl, SqT.of r4, atI_nat (j := 0) rfl, rfl, _, rfl, iteF (fin as L H4 nn rfl s4 p4 t4 R4 m4 r4 eb (by exact Nat.le_succ_of_le (by assumption)))⟩
    · rintro σ H4 ⟨u4, as, L, ms, rfl, s4, p4, t4, R4, m4, eb, ml, Ll⟩
      rw [ll] at eb Ll
      rw [List.drop_of_length_le (by exact Nat.le_of_eq (by assumption))] at eb
      have eL : L = bk (ds.take n).reverse [] := by rw [← eb]; show L = L ++ []; rw [List.append_nil]
      have pL : L.Perm (thr (ds.take n)) := by rw [eL]; exact bk_thr (hR.take n)
      have hz : ((as.zip L).map fun q => ((q.1, keysOf q.2) : Srt.Row)).map Srt.rRef = as.map V.ref := by
        rw [List.map_map]
        have : (Srt.rRef ∘ fun q : Addr × T4 => ((q.1, keysOf q.2) : Srt.Row)) = V.ref ∘ Prod.fst := rfl
        rw [this, ← List.map_map, List.map_fst_zip (Nat.le_of_eq R4.1)]
      have hat : ∀ q ∈ (as.zip L).map fun q => ((q.1, keysOf q.2) : Srt.Row), IsTie q.2 ∧ H4 q.1 = some (.tup (q.2.map kV)) := fun q hq => by
        obtain ⟨⟨r, t⟩, hm, rfl⟩ := List.mem_map.mp hq
        obtain ⟨j, hj, e⟩ := List.mem_iff_getElem.mp hm
        rw [List.getElem_zip] at e
        cases e
        have h1 : j < as.length := by rw [List.length_zip] at hj; omega
        have h2 : j < L.length := by rw [List.length_zip] at hj; omega
        exact ⟨⟨_, rfl⟩, R4.2 j _ _ (getq h1) (getq h2)⟩
      have hS : (((as.zip L).map fun q => ((q.1, keysOf q.2) : Srt.Row)).map (fun q => tieOf q.2)).Perm (thr (ds.take n)) := by
        rw [List.map_map]
        have : ((fun q : Srt.Row => tieOf q.2) ∘ fun q : Addr × T4 => ((q.1, keysOf q.2) : Srt.Row)) = Prod.snd := by funext q; exact tieOf_keys q.2
        rw [this, List.map_snd_zip (Nat.le_of_eq R4.1.symm)]; exact pL
      have hlz : ((as.zip L).map fun q => ((q.1, keysOf q.2) : Srt.Row)).length ≤ 60 := by rw [List.length_map, List.length_zip]; omega
      generalize ((as.zip L).map fun q => ((q.1, keysOf q.2) : Srt.Row)) = qs at hz hat hS hlz
      refine ⟨_, rfl, th, qs, rfl, SqL.of (by rw [hz]; exact t4), ⟨fun q hq => SqT.of (hat q hq).2, fun q hq q' hq' => ?_, fun q hq => ?_, by exact Nat.lt_of_le_of_lt (by assumption) (by decide)⟩, fun l qs' hl' perm srt => ?_⟩
      · obtain ⟨⟨t, e⟩, _⟩ := hat q hq
        obtain ⟨⟨t', e'⟩, _⟩ := hat q' hq'
        rw [e, e']; rfl
      · obtain ⟨⟨t, e⟩, _⟩ := hat q hq
        rw [e]; simp [keysOf]
      have sl := same_new (o := .lst (qs'.map Srt.rRef)) hl'
      have l10 := upd_same (H := H4) (a := l) (o := .lst (qs'.map Srt.rRef))
      generalize upd H4 l (.lst (qs'.map Srt.rRef)) = H5 at sl l10
      refine ⟨l, _, rfl, .inl ⟨SqL.of l10, fun st hst => ?_⟩⟩
      have ss := same_new (o := .tup (qs'.map Srt.rRef)) hst
      obtain ⟨x1, x2⟩ := rows_stand hat hS perm srt (sl.trans ss) upd_same
      exact k st _ _ ((s4.trans sl).trans ss) x1 x2
end
end K65
set_option maxHeartbeats 1000000
namespace K65
open PySem L2 Wk
def rIsiK (K : PySem.W.Frag) : List V → Hp → VK → Prop := fun xs H Q => ∃ (x : V) (t : Value) (c : String) (b : Bool), xs = [x, .ty c] ∧ TyOf K H x t ∧ PySem.W.kitOne K t (.type c) = some b ∧ Q (.bl b) H
def spWayR : Sp := fun vs H Q _ => ∃ (st wa : Addr) (S : List T4) (ws : List Str) (p q : Nat), vs = [.ref st, .int (p : Int), .int (q : Int), .ref wa] ∧ StandAt H st S ∧ S.length ≤ 100 ∧ (S.map (·.1)).Nodup ∧ H wa = some (.tup (ws.map V.str)) ∧ ws.length ≤ 61 ∧ Lead S p ws q ∧ ∀ H', Same H H' → Q (.bl true) H'
def spCutR : Sp := fun vs H Q _ => ∃ (N : Nat) (st cu : Addr) (S : List T4) (p q : Nat), vs = [.int (N : Int), .ref st, .int (p : Int), .int (q : Int), .ref cu] ∧ StandAt H st S ∧ InN N S ∧ N ≤ 60 ∧ S.length ≤ 100 ∧ p < N ∧ q < N ∧ q ∉ partF N S p ∧ H cu = some (.tup (((partF N S p).map Int.ofNat).map V.int)) ∧ ∀ H', Same H H' → Q (.bl true) H'
def spPaperR : Sp := fun vs H Q _ => ∃ (N : Nat) (st r : Addr) (S : List T4) (p q : Nat), vs = [.int (N : Int), .ref st, .int (p : Int), .int (q : Int), .ref r] ∧ StandAt H st S ∧ InN N S ∧ N ≤ 60 ∧ S.length ≤ 100 ∧ (S.map (·.1)).Nodup ∧ p < N ∧ q < N ∧ PaperAt H r N S p q ∧ ∀ H', Same H H' → Q (.bl true) H'
theorem inV_nat (q : Nat) (ps : List Nat) : inV (.int (q : Int)) ((ps.map Int.ofNat).map V.int) = decide (q ∈ ps) := by
  rw [inV_ints, Bool.eq_iff_iff, decide_eq_true_eq, decide_eq_true_eq, List.mem_map]
  constructor
  · rintro ⟨x, hx, e⟩
    have : x = q := by have : (x : Int) = q := e; omega
    rw [← this]; exact hx
  · intro h; exact ⟨q, h, rfl⟩
section
variable {P : Program} {w : World} {K : PySem.W.Frag} {mg : Str → Option Value} {base : Heap}
theorem scWayR : FnScope ["_law_stand", "_law_one", "_law_other", "_law_way", "_law_here", "_law_name", "_law_some"] ["_law_stand", "_law_one", "_law_other", "_law_way"] (defScope sWayR) := ⟨rfl, rfl, rfl, by decide +kernel, rfl, by decide +kernel, by decide +kernel⟩
theorem ok_WayR {f : Addr} {fd : FuncData} (F : Fun K "_law_way_right" "_law_way_right" sWayR f fd) (T : Txt mg) :
    FnOk P w K mg base CX0 1 f fd ["_law_stand", "_law_one", "_law_other", "_law_way"] spWayR := by
  refine F.ok scWayR (fun vs H Q E h => ?_) (fun cdv A outer s H vs Q E hr h => ?_)
  · obtain ⟨_, _, _, _, _, _, rfl, _⟩ := h; rfl
  · obtain ⟨st, wa, S, ws, p, q, rfl, ⟨rs, hst, hrs⟩, S100, nd, hw, w61, hlead, k⟩ := h
    refine ⟨_, pss_cons (ps_if (PW.pt (pw_or (pt_not (pt_val (pe_callB call_isi (by rfl) T.isinstance (by decide +kernel) (pa_cons (pv 3) (pa_cons (pe_ty (T := "tuple") (by rfl) T.tuple (by decide +kernel)) pa_nil))))) (pw_or1 (pt_cmpR op_gt (pe_callB call_len_seq (by rfl) T.len PySem.boot_len (pa_cons (pv 3) pa_nil)) pe_int (nomark _))))) (pss_one (ps_ret pe_bl)) pss_nil)
      (pss_cons (ps_set (i := 4) scWayR.nd rfl (Or.inl rfl) (pv 1))
      (pss_cons (ps_for PassesOwn.never rfl (pi_tup (pv 3)) (pg_name (i := 5) scWayR.nd rfl (Or.inr rfl)) (pss_cons (ps_comp (i := 6) (T := ["_law_tie_here"]) (F := ["_law_name"]) (js := [5]) scWayR.nd rfl (Or.inl rfl) (CS.to (osc := defScope sWayR) ⟨by rfl, by decide +kernel, by decide +kernel, by decide +kernel, by decide +kernel, by decide +kernel, by decide +kernel⟩ rfl rfl) rfl (pi_tup (pv 0)) (fun _ _ _ _ _ => pg_name (i := 0) (show (["_law_tie_here", "_law_name"] : List Str).Nodup by decide +kernel) rfl (Or.inl rfl)) (fun _ _ _ _ _ => pif_one (PW.pt (pw_and (pt_val (pe_callB (r := rIsiK K) call_isi (by rfl) T.isinstance (by decide +kernel) (pa_cons (pv 1) (pa_cons (pe_ty (T := "str") (by rfl) T.str (by decide +kernel)) pa_nil)))) (pw_and1 (pt_cmpR op_eq (pe_ix (r := rIxT K) ix_tup (pv 0) pe_int (fun _ _ => rfl)) (pv 1) (nomark _)))))) (fun _ _ _ _ _ => pv 0))
      (pss_cons (ps_if (PW.pt (pw_or (pt_cmpR (op_eqNil hr.units) (pv 6) (pe_lst pa_nil) (nomark _)) (pw_or1 (pt_cmpR op_notIn_seq (pv 4) (pe_slice sl_tup (pe_ix ix_list (pv 6) pe_int (fun _ _ => rfl)) (po_some pe_int) (po_some pe_int)) (by rfl))))) (pss_one (ps_ret pe_bl)) pss_nil)
      (pss_one (ps_set (i := 4) scWayR.nd rfl (Or.inl rfl) (pe_op op_sub (pe_op op_add (pe_ix ix_tup (pe_ix ix_list (pv 6) pe_int (fun _ _ => rfl)) pe_int (fun _ _ => rfl)) (pe_ix ix_tup (pe_ix ix_list (pv 6) pe_int (fun _ _ => rfl)) pe_int (fun _ _ => rfl))) (pv 4)))))))
      (pss_one (ps_ret (pe_cmpR op_eq (pv 4) (pv 2) (nomark _)))))), ?_⟩
    refine ⟨_, rfl, .ref wa, .type "tuple", "tuple", true, rfl, .tup hw, rfl, _, rfl, iteF ?_⟩
    refine ⟨_, rfl, wa, _, rfl, .inr (SqT.of hw), _, _, rfl, rfl, _, rfl, ?_⟩
    rw [List.length_map]
    refine ite2 (fun g => absurd (of_decide_eq_true g) (by omega)) fun _ => ?_
    dsimp only [tNext]
    refine ⟨_, rfl, ?_⟩
    refine ⟨_, rfl, wa, rfl, ⟨_, SqT.of hw⟩, for_tup (K := K) (a := wa) (xs := ws.map V.str) (fun i σ H5 => ∃ (u5 u6 : Option V) (v : Nat), σ = [some (.ref st), some (.int (p : Int)), some (.int (q : Int)), some (.ref wa), some (.int (v : Int)), u5, u6] ∧ Same H H5 ∧ Walk S v (ws.drop i) q) ⟨_, _, p, rfl, same_refl _, hlead.walk⟩ (fun i σ H5 _ ⟨_, _, _, _, s5, _⟩ => SqT.of (s5 _ _ hw)) ?_ ?_⟩
    rotate_left
    · rintro σ H5 ⟨u5, u6, v, rfl, s5, hv⟩
      rw [List.length_map, List.drop_length] at hv
      have hv : v = q := hv
      subst hv
      refine ⟨_, rfl, _, rfl, rfl, ?_⟩
      rw [decide_eq_true rfl]
      exact k H5 s5
    rintro i x σ H5 hx ⟨u5, u6, v, rfl, s5, hv⟩
    obtain ⟨n, hn, rfl⟩ := map_some hx
    have hi : i < ws.length := (List.getElem?_eq_some_iff.mp hn).1
    have ed : ws.drop i = n :: ws.drop (i + 1) := by
      rw [List.drop_eq_getElem_cons hi]
      congr 1
      have := getq hi
      rw [hn] at this
      exact (Option.some.inj this).symm
    rw [ed] at hv
    obtain ⟨c, hc, hv⟩ := hv
    obtain ⟨t, ht, tn, tc⟩ := nb_elim hc
    have st5 := s5 _ _ hst
    refine ⟨_, rfl, st, rfl, ⟨_, SqT.of st5⟩, fun D hD => comp_tup (K := K) (a := st) (xs := rs.map V.ref) (fun j σ ys H6 => ∃ (u : Option V) (fs : List Addr), σ = [u, some (.str n)] ∧ ys = fs.map V.ref ∧ H6 = upd H5 D (.lst ys) ∧ fs.length ≤ j ∧ (∀ f ∈ fs, ∃ t' ∈ S, t'.1 = n ∧ H5 f = some (.tup (tieV t'))) ∧ ∀ (m : Nat) t', m < j → S[m]? = some t' → t'.1 = n → fs ≠ []) ⟨none, [], rfl, rfl, rfl, Nat.le_refl _, by simp, fun m _ h => absurd h (by omega)⟩ (fun j σ ys H6 _ ⟨_, _, _, _, e, _⟩ => by rw [e]; exact ⟨SqT.of (by rw [upd_ne (ne_of_none st5 hD)]; exact st5), upd_same⟩) ?_ ?_⟩
    · rintro j x σ ys H6 hx ⟨u, fs, rfl, rfl, rfl, fl, fa, fn⟩
      obtain ⟨r, hr', rfl⟩ := map_some hx
      obtain ⟨t', ht', er⟩ := hrs.get hr'
      have er6 := same_new (o := .lst (fs.map V.ref)) hD _ _ (s5 _ _ er)
      have hj : j < 100 := by have := (List.getElem?_eq_some_iff.mp ht').1; exact Nat.le_trans (by assumption) (by assumption)
      refine ⟨_, rfl, .str n, .type "str", "str", true, rfl, .str n, rfl, _, rfl, iteT ?_⟩
      refine ⟨_, rfl, r, _, 0, _, rfl, rfl, SqT.of er6, atI_nat (j := 0) rfl, _, rfl, rfl, _, rfl, ?_⟩
      by_cases g : t'.1 = n
      · rw [show decide (V.str t'.1 = V.str n) = true from decide_eq_true (by rw [g])]
        refine iteT ⟨_, rfl, upd_same, small1000 (by rw [List.length_map]; omega), _, fs ++ [r], rfl, by rw [List.map_append]; rfl, by rw [upd_upd], by simp; assumption, fun f hf => ?_, fun m t2 hm h1 h2 => by simp⟩
        rcases List.mem_append.mp hf with h | h
        · exact fa f h
        · rw [List.mem_singleton.mp h]; exact ⟨t', List.mem_of_getElem? ht', g, s5 _ _ er⟩
      · rw [show decide (V.str t'.1 = V.str n) = false from decide_eq_false (fun e => g (by injection e))]
        refine iteF ⟨_, fs, rfl, rfl, rfl, by exact Nat.le_succ_of_le (by assumption), fa, fun m t2 hm h1 h2 => ?_⟩
        by_cases e : m = j
        · subst e
          rw [ht'] at h1
          cases h1
          exact absurd h2 g
        · exact fn m t2 (by omega) h1 h2
    rintro σ ys H6 ⟨u, fs, rfl, rfl, rfl, fl, fa, fn⟩
    have hf : fs ≠ [] := by
      obtain ⟨m, hm, e⟩ := List.mem_iff_getElem.mp ht
      exact fn m t (by rw [List.length_map, hrs.1]; exact hm) (by rw [getq hm, e]) tn
    obtain ⟨f0, fs', rfl⟩ := List.exists_cons_of_ne_nil hf
    obtain ⟨t', ht', tn', er⟩ := fa f0 (List.mem_cons_self ..)
    have et := name_inj nd ht' ht (by rw [tn', tn])
    subst et
    have sD := same_new (o := .lst ((f0 :: fs').map V.ref)) hD
    have d6 := upd_same (H := H5) (a := D) (o := .lst ((f0 :: fs').map V.ref))
    generalize upd H5 D (.lst ((f0 :: fs').map V.ref)) = H6 at sD d6
    have er6 := sD _ _ er
    refine ⟨_, rfl, small (by simp), fun e he => ?_⟩
    have se := same_new (o := .lst []) he
    have e7 := upd_same (H := H6) (a := e) (o := .lst [])
    have d7 := se _ _ d6
    have er7 := se _ _ er6
    generalize upd H6 e (.lst []) = H7 at se e7 d7 er7
    refine ⟨D, e, _, rfl, rfl, SqL.of d7, SqL.of e7, _, rfl, iteF ?_⟩
    refine ⟨_, rfl, _, rfl, D, _, 0, _, rfl, rfl, SqL.of d7, atI_nat (j := 0) rfl, _, rfl, _, rfl, f0, _, rfl, SqT.of er7, (fun q => absurd (show (1 : Nat) = 0 from q.1) (by decide)), fun c2 hc2 => ?_⟩
    have ec : cutV (tieV t') (some 1) (some 3) = [.int (t'.2.1 : Int), .int (t'.2.2.1 : Int)] := rfl
    rw [ec]
    have s8 := same_new (o := .tup [.int (t'.2.1 : Int), .int (t'.2.2.1 : Int)]) hc2
    have c8 := upd_same (H := H7) (a := c2) (o := .tup [.int (t'.2.1 : Int), .int (t'.2.2.1 : Int)])
    have d8 := s8 _ _ d7
    have er8 := s8 _ _ er7
    generalize upd H7 c2 (.tup [.int (t'.2.1 : Int), .int (t'.2.2.1 : Int)]) = H8 at s8 c8 d8 er8
    refine ⟨c2, _, rfl, .inr (SqT.of c8), rfl, rfl, _, rfl, ?_⟩
    have hin : inV (.int (v : Int)) [.int (t'.2.1 : Int), .int (t'.2.2.1 : Int)] = true := by
      have := inV_ints (v : Int) [(t'.2.1 : Int), (t'.2.2.1 : Int)]
      rw [show ([(t'.2.1 : Int), (t'.2.2.1 : Int)].map V.int) = [.int (t'.2.1 : Int), .int (t'.2.2.1 : Int)] from rfl] at this
      rw [this, decide_eq_true_eq]
      rcases tc with ⟨h, _⟩ | ⟨h, _⟩
      · rw [h]; simp
      · rw [h]; simp
    rw [hin]
    refine iteF ?_
    dsimp only [tNext]
    have : (t'.2.1 : Int) + (t'.2.2.1 : Int) - (v : Int) = (c : Int) := by rcases tc with ⟨h1, h2⟩ | ⟨h1, h2⟩ <;> omega
    exact ⟨_, rfl, D, _, 0, _, rfl, rfl, SqL.of d8, atI_nat (j := 0) rfl, f0, _, 1, _, rfl, rfl, SqT.of er8, atI_nat (j := 1) rfl, _, rfl, D, _, 0, _, rfl, rfl, SqL.of d8, atI_nat (j := 0) rfl, f0, _, 2, _, rfl, rfl, SqT.of er8, atI_nat (j := 2) rfl, _, _, rfl, rfl, _, rfl, _, _, rfl, rfl, some (.str n), some (.ref D), c, by rw [← this]; rfl, ((s5.trans sD).trans se).trans s8, hv⟩
theorem scCutR : FnScope ["_law_many_here", "_law_stand", "_law_one", "_law_other", "_law_cut", "_law_last", "_law_place"] ["_law_many_here", "_law_stand", "_law_one", "_law_other", "_law_cut"] (defScope sCutR) := ⟨rfl, rfl, rfl, by decide +kernel, rfl, by decide +kernel, by decide +kernel⟩
theorem ok_CutR {f : Addr} {fd : FuncData} (F : Fun K "_law_cut_right" "_law_cut_right" sCutR f fd) (T : Txt mg) :
    FnOk P w K mg base CX0 1 f fd ["_law_many_here", "_law_stand", "_law_one", "_law_other", "_law_cut"] spCutR := by
  refine F.ok scCutR (fun vs H Q E h => ?_) (fun cdv A outer s H vs Q E hr h => ?_)
  · obtain ⟨_, _, _, _, _, _, rfl, _⟩ := h; rfl
  · obtain ⟨N, st, cu, S, p, q, rfl, ⟨rs, hst, hrs⟩, SN, N60, S100, pN, qN, hq, hc, k⟩ := h
    refine ⟨_, pss_cons (ps_if (pt_not (pt_val (pe_callB call_isi (by rfl) T.isinstance (by decide +kernel) (pa_cons (pv 4) (pa_cons (pe_ty (T := "tuple") (by rfl) T.tuple (by decide +kernel)) pa_nil))))) (pss_one (ps_ret pe_bl)) pss_nil)
      (pss_cons (ps_set (i := 5) scCutR.nd rfl (Or.inl rfl) (pe_un un_neg pe_int))
      (pss_cons (ps_for PassesOwn.never rfl (pi_tup (pv 4)) (pg_name (i := 6) scCutR.nd rfl (Or.inl rfl)) (pss_cons (ps_if (PW.pt (pw_or (pt_not (pt_val (pe_callB call_isi (by rfl) T.isinstance (by decide +kernel) (pa_cons (pv 6) (pa_cons (pe_ty (T := "int") (by rfl) T.int (by decide +kernel)) pa_nil))))) (pw_or (pt_val (pe_callB call_isi (by rfl) T.isinstance (by decide +kernel) (pa_cons (pv 6) (pa_cons (pe_ty (T := "bool") (by rfl) T.bool (by decide +kernel)) pa_nil)))) (pw_or1 (pt_not (pt_chain op_lt op_lt (pv 5) (pv 6) (pv 0))))))) (pss_one (ps_ret pe_bl)) pss_nil)
      (pss_one (ps_set (i := 5) scCutR.nd rfl (Or.inl rfl) (pv 6)))))
      (pss_cons (ps_if (PW.pt (pw_or (pt_cmpR op_notIn_seq (pv 2) (pv 4) (by rfl)) (pw_or1 (pt_cmpR op_in_seq (pv 3) (pv 4) (by rfl))))) (pss_one (ps_ret pe_bl)) pss_nil)
      (pss_one (ps_ret (pe_cmpR (op_eqNil hr.units) (pe_comp (T := ["_law_tie_here"]) (F := ["_law_cut"]) (js := [4]) (CS.to (osc := defScope sCutR) ⟨by rfl, by decide +kernel, by decide +kernel, by decide +kernel, by decide +kernel, by decide +kernel, by decide +kernel⟩ rfl rfl) rfl (pi_tup (pv 1)) (fun _ _ _ _ _ => pg_name (i := 0) (show (["_law_tie_here", "_law_cut"] : List Str).Nodup by decide +kernel) rfl (Or.inl rfl)) (fun _ _ _ _ _ => pif_one (pt_cmpR op_ne (pe_cmpR (r := rIn K false) op_in_seq (pe_ix (r := rIxT K) ix_tup (pv 0) pe_int (fun _ _ => rfl)) (pv 1) (by rfl)) (pe_cmpR (r := rIn K false) op_in_seq (pe_ix (r := rIxT K) ix_tup (pv 0) pe_int (fun _ _ => rfl)) (pv 1) (by rfl)) (nomark _))) (fun _ _ _ _ _ => pv 0)) (pe_lst pa_nil) (nomark _))))))), ?_⟩
    refine ⟨_, rfl, .ref cu, .type "tuple", "tuple", true, rfl, .tup hc, rfl, _, rfl, iteF ?_⟩
    dsimp only [tNext]
    refine ⟨_, rfl, ?_⟩
    have hup := part_up (N := N) (S := S) (p := p)
    have hlt : ∀ v ∈ partF N S p, v < N := fun v hv => ((mem_part SN pN N60).mp hv).1
    have hin : p ∈ partF N S p := (mem_part SN pN N60).mpr ⟨pN, .refl⟩
    refine ⟨_, rfl, cu, rfl, ⟨_, SqT.of hc⟩, for_tupH (K := K) (a := cu) (xs := ((partF N S p).map Int.ofNat).map V.int) (fun i σ H5 => ∃ (u6 : Option V) (la : Int), σ = [some (.int (N : Int)), some (.ref st), some (.int (p : Int)), some (.int (q : Int)), some (.ref cu), some (.int la), u6] ∧ H5 = H ∧ (i = 0 → la = -1) ∧ (∀ v, 0 < i → (partF N S p)[i - 1]? = some v → la = (v : Int))) ⟨_, -1, rfl, rfl, fun _ => rfl, fun v h => absurd h (by decide)⟩ (fun i σ H5 _ ⟨_, _, _, e, _⟩ => by rw [e]; exact SqT.of hc) ?_ ?_⟩
    · rintro i x σ H5 hx ⟨u6, la, rfl, eHH, l0, l1⟩ E5 hE5 _
      subst eHH
      obtain ⟨z, hz, rfl⟩ := map_some hx
      obtain ⟨v, hv, rfl⟩ := map_some hz
      have hi : i < (partF N S p).length := (List.getElem?_eq_some_iff.mp hv).1
      have hvN := hlt v (List.mem_of_getElem? hv)
      have hla : la < (v : Int) := by
        cases i with
        | zero => rw [l0 rfl]; exact Int.natCast_nonneg _
        | succ i =>
          have hi' : i < (partF N S p).length := by exact Nat.le_of_lt (by assumption)
          rw [l1 _ (by omega) (by show (partF N S p)[i]? = _; exact getq hi')]
          have := List.pairwise_iff_getElem.mp hup i (i + 1) hi' hi (by exact Nat.le_refl _)
          have e2 : (partF N S p)[i + 1] = v := (List.getElem?_eq_some_iff.mp hv).2
          rw [e2] at this
          omega
      refine ⟨_, rfl, .int (v : Int), .type "int", "int", true, rfl, .int _, rfl, _, rfl, iteF ?_⟩
      refine ⟨_, rfl, .int (v : Int), .type "int", "bool", false, rfl, .int _, rfl, _, rfl, iteF ?_⟩
      refine ⟨_, rfl, _, rfl, _, _, rfl, rfl, _, rfl, ?_⟩
      have d1 : decide (la < Int.ofNat v) = true := decide_eq_true hla
      rw [d1]
      refine iteT ⟨_, rfl, _, _, rfl, rfl, _, rfl, ?_⟩
      have d2 : decide (Int.ofNat v < (N : Int)) = true := decide_eq_true (by show (v : Int) < N; omega)
      rw [d2]
      refine iteF ?_
      dsimp only [tNext]
      exact ⟨_, rfl, hE5 _ _ ⟨_, _, rfl, rfl, fun h => absurd h (by omega), fun v' _ h => by rw [Nat.add_sub_cancel, hv] at h; cases h; rfl⟩⟩
    · rintro σ H5 ⟨u6, la, rfl, rfl, l0, l1⟩
      refine ⟨_, rfl, _, rfl, cu, _, rfl, .inr (SqT.of hc), rfl, flat_ints _, _, rfl, ?_⟩
      show if (!inV (.int (p : Int)) (((partF N S p).map Int.ofNat).map V.int)) = true then _ else _
      rw [inV_nat, decide_eq_true hin]
      refine iteF ⟨_, rfl, _, rfl, cu, _, rfl, .inr (SqT.of hc), rfl, flat_ints _, _, rfl, ?_⟩
      show if (inV (.int (q : Int)) (((partF N S p).map Int.ofNat).map V.int)) = true then _ else _
      rw [inV_nat, decide_eq_false hq]
      refine iteF ?_
      dsimp only [tNext]
      refine ⟨_, rfl, st, rfl, ⟨_, SqT.of hst⟩, fun D hD => comp_tup (K := K) (a := st) (xs := rs.map V.ref) (fun j σ ys H6 => ∃ (u : Option V), σ = [u, some (.ref cu)] ∧ ys = [] ∧ H6 = upd H5 D (.lst [])) ⟨none, rfl, rfl, rfl⟩ (fun j σ ys H6 _ ⟨_, _, y, e⟩ => by rw [e, y]; exact ⟨SqT.of (by rw [upd_ne (ne_of_none hst hD)]; exact hst), upd_same⟩) ?_ ?_⟩
      · rintro j x σ ys H6 hx ⟨u, rfl, rfl, rfl⟩
        obtain ⟨r, hr', rfl⟩ := map_some hx
        obtain ⟨t, ht, er⟩ := hrs.get hr'
        have er6 := same_new (o := .lst []) hD _ _ er
        have hc6 := same_new (o := .lst []) hD _ _ hc
        refine ⟨_, rfl, r, _, 1, _, rfl, rfl, SqT.of er6, atI_nat (j := 1) rfl, _, rfl, cu, _, rfl, .inr (SqT.of hc6), rfl, flat_ints _, _, rfl, r, _, 2, _, rfl, rfl, SqT.of er6, atI_nat (j := 2) rfl, _, rfl, cu, _, rfl, .inr (SqT.of hc6), rfl, flat_ints _, rfl, _, rfl, ?_⟩
        have e1 : (if false = true then !inV (.int (t.2.1 : Int)) (((partF N S p).map Int.ofNat).map V.int) else inV (.int (t.2.1 : Int)) (((partF N S p).map Int.ofNat).map V.int)) = decide (t.2.1 ∈ partF N S p) := by rw [if_neg (by decide), inV_nat]
        have e2 : (if false = true then !inV (.int (t.2.2.1 : Int)) (((partF N S p).map Int.ofNat).map V.int) else inV (.int (t.2.2.1 : Int)) (((partF N S p).map Int.ofNat).map V.int)) = decide (t.2.1 ∈ partF N S p) := by
          rw [if_neg (by decide), inV_nat, Bool.eq_iff_iff, decide_eq_true_eq, decide_eq_true_eq]
          exact (part_closed SN pN N60 (List.mem_of_getElem? ht)).symm
        rw [e1, e2]
        refine ite2 (fun g => absurd g (by simp)) fun _ => ⟨_, rfl, rfl, rfl⟩
      · rintro σ ys H6 ⟨u, rfl, rfl, rfl⟩
        have sD := same_new (o := .lst []) hD
        have d6 := upd_same (H := H5) (a := D) (o := .lst [])
        generalize upd H5 D (.lst []) = H6 at sD d6
        refine ⟨small (by simp), fun e he => ?_⟩
        have se := same_new (o := .lst []) he
        exact ⟨D, e, _, rfl, rfl, SqL.of (se _ _ d6), SqL.of upd_same, k _ (sD.trans se)⟩
theorem scPaperR : FnScope ["_law_many_here", "_law_stand", "_law_one", "_law_other", "_law_thing"] ["_law_many_here", "_law_stand", "_law_one", "_law_other", "_law_thing"] (defScope sPaperR) := ⟨rfl, rfl, rfl, by decide +kernel, rfl, by decide +kernel, by decide +kernel⟩
theorem ok_PaperR {f : Addr} {fd : FuncData} (F : Fun K "_law_paper_right" "_law_paper_right" sPaperR f fd) (T : Txt mg)
    {gWayR : Addr} {fWayR : FuncData} (kWayR : PySem.W.keepIn K (.ref gWayR) = true) (bWayR : Binds K fWayR ["_law_stand", "_law_one", "_law_other", "_law_way"] []) (hWayR : mg "_law_way_right" = some (.ref gWayR)) (GWayR : FnOk P w K mg base CX0 1 gWayR fWayR ["_law_stand", "_law_one", "_law_other", "_law_way"] spWayR)
    {gCutR : Addr} {fCutR : FuncData} (kCutR : PySem.W.keepIn K (.ref gCutR) = true) (bCutR : Binds K fCutR ["_law_many_here", "_law_stand", "_law_one", "_law_other", "_law_cut"] []) (hCutR : mg "_law_cut_right" = some (.ref gCutR)) (GCutR : FnOk P w K mg base CX0 1 gCutR fCutR ["_law_many_here", "_law_stand", "_law_one", "_law_other", "_law_cut"] spCutR) :
    FnOk P w K mg base CX0 2 f fd ["_law_many_here", "_law_stand", "_law_one", "_law_other", "_law_thing"] spPaperR := by
  refine F.ok scPaperR (fun vs H Q E h => ?_) (fun cdv A outer s H vs Q E hr h => ?_)
  · obtain ⟨_, _, _, _, _, _, rfl, _⟩ := h; rfl
  · obtain ⟨N, st, r, S, p, q, rfl, hst, SN, N60, S100, nd, pN, qN, hP, k⟩ := h
    refine ⟨_, pss_cons (ps_if (PW.pt (pw_or (pt_not (pt_val (pe_callB call_isi (by rfl) T.isinstance (by decide +kernel) (pa_cons (pv 4) (pa_cons (pe_ty (T := "tuple") (by rfl) T.tuple (by decide +kernel)) pa_nil))))) (pw_or (pt_cmpR op_ne (pe_callB call_len_seq (by rfl) T.len PySem.boot_len (pa_cons (pv 4) pa_nil)) pe_int (nomark _)) (pw_or1 (pt_not (pt_val (pe_callB call_isi (by rfl) T.isinstance (by decide +kernel) (pa_cons (pe_ix ix_tup (pv 4) pe_int (fun _ _ => rfl)) (pa_cons (pe_ty (T := "str") (by rfl) T.str (by decide +kernel)) pa_nil))))))))) (pss_one (ps_ret pe_bl)) pss_nil)
      (pss_cons (ps_if (pt_cmpR op_eq (pe_ix ix_tup (pv 4) pe_int (fun _ _ => rfl)) pe_str (nomark _)) (pss_one (ps_ret (pe_call GWayR hr rfl hWayR kWayR bWayR .nil pass0 (pa_cons (pv 1) (pa_cons (pv 2) (pa_cons (pv 3) (pa_cons (pe_ix ix_tup (pv 4) pe_int (fun _ _ => rfl)) pa_nil))))))) pss_nil)
      (pss_one (ps_ret (pe_and (pe_cmpR op_eq (pe_ix ix_tup (pv 4) pe_int (fun _ _ => rfl)) pe_str (nomark _)) (pe_one (pe_call GCutR hr rfl hCutR kCutR bCutR .nil pass0 (pa_cons (pv 0) (pa_cons (pv 1) (pa_cons (pv 2) (pa_cons (pv 3) (pa_cons (pe_ix ix_tup (pv 4) pe_int (fun _ _ => rfl)) pa_nil))))))))))), ?_⟩
    rcases hP with ⟨w, c, ho, er, ec⟩ | ⟨c, ho, er, ec⟩
    · have hv : Wk.Vis (waysF N S p) q w := ho
      have wl := ways_short SN pN hv
      refine ⟨_, rfl, .ref r, .type "tuple", "tuple", true, rfl, .tup er, rfl, _, rfl, iteF ?_⟩
      refine ⟨_, rfl, r, _, rfl, .inr (SqT.of er), rfl, _, rfl, ite2 (fun g => absurd g (by simp)) fun _ => ?_⟩
      refine ⟨_, rfl, r, _, 0, _, rfl, rfl, SqT.of er, atI_nat (j := 0) rfl, .str _, .type "str", "str", true, rfl, .str _, rfl, _, rfl, iteF ?_⟩
      dsimp only [tNext]
      refine ⟨_, rfl, r, _, 0, _, rfl, rfl, SqT.of er, atI_nat (j := 0) rfl, rfl, _, rfl, ?_⟩
      rw [decide_eq_true rfl]
      refine iteT ?_
      exact ⟨_, rfl, _, rfl, _, rfl, _, rfl, r, _, 1, _, rfl, rfl, SqT.of er, atI_nat (j := 1) rfl, st, c, S, w, p, q, rfl, hst, S100, nd, ec, by omega, ways_lead SN pN N60 hv, k⟩
    · have hq := (ways_none SN pN qN N60).mp ho
      refine ⟨_, rfl, .ref r, .type "tuple", "tuple", true, rfl, .tup er, rfl, _, rfl, iteF ?_⟩
      refine ⟨_, rfl, r, _, rfl, .inr (SqT.of er), rfl, _, rfl, ite2 (fun g => absurd g (by simp)) fun _ => ?_⟩
      refine ⟨_, rfl, r, _, 0, _, rfl, rfl, SqT.of er, atI_nat (j := 0) rfl, .str _, .type "str", "str", true, rfl, .str _, rfl, _, rfl, iteF ?_⟩
      dsimp only [tNext]
      refine ⟨_, rfl, r, _, 0, _, rfl, rfl, SqT.of er, atI_nat (j := 0) rfl, rfl, _, rfl, ?_⟩
      rw [show decide (V.str (Str.ofString "parted") = V.str (Str.ofString "joined")) = false by decide +kernel]
      refine iteF ?_
      dsimp only [tNext]
      refine ⟨_, rfl, r, _, 0, _, rfl, rfl, SqT.of er, atI_nat (j := 0) rfl, rfl, _, rfl, ?_⟩
      rw [decide_eq_true rfl]
      exact iteT ⟨_, rfl, _, rfl, _, rfl, _, rfl, _, rfl, r, _, 1, _, rfl, rfl, SqT.of er, atI_nat (j := 1) rfl, N, st, c, S, p, q, rfl, hst, SN, N60, S100, pN, qN, hq, ec, k⟩
end
end K65
set_option maxHeartbeats 4000000
namespace K65
open PySem L2 Wk
def oV : Option Int → V
  | none => .non
  | some i => .int i
def lesF : Option Int → Option Int → Option Int
  | none, p => p
  | some a, none => some a
  | some a, some b => some (if b < a then b else a)
theorem dvs1 (d : Dd) : d.vs[1]? = some (.int d.mo) := by cases d <;> rfl
theorem at_last1 {ls : List Int} (h : ls ≠ []) : atI (ls.map V.int) (-1) = some (.int (ls.getLastD 0)) := by
  obtain ⟨l, x, rfl⟩ : ∃ l x, ls = l ++ [x] := ⟨ls.dropLast, ls.getLast h, (List.dropLast_concat_getLast h).symm⟩
  rw [List.map_append, lastD_snoc]
  exact atI_last _ _
def srV (r : Sr) : List V := [.int r.1, oV r.2.1, .int (r.2.2 : Int)]
def SrsAt (H : Hp) (rs : List Addr) (L : List Sr) : Prop := rs.length = L.length ∧ ∀ (i : Nat) r x, rs[i]? = some r → L[i]? = some x → H r = some (.tup (srV x))
theorem SrsAt.get {H : Hp} {rs : List Addr} {L : List Sr} (h : SrsAt H rs L) {i : Nat} {r : Addr} (hr : rs[i]? = some r) : ∃ x, L[i]? = some x ∧ H r = some (.tup (srV x)) := by
  have hi : i < L.length := by rw [← h.1]; exact (List.getElem?_eq_some_iff.mp hr).1
  exact ⟨L[i], getq hi, h.2 i r _ hr (getq hi)⟩
theorem SrsAt.same {H H' : Hp} {rs : List Addr} {L : List Sr} (h : SrsAt H rs L) (s : Same H H') : SrsAt H' rs L := ⟨h.1, fun i r x a b => s _ _ (h.2 i r x a b)⟩
theorem srs_snoc {H : Hp} {rs : List Addr} {L : List Sr} {r : Addr} {x : Sr} (h : SrsAt H rs L) (hr : H r = some (.tup (srV x))) : SrsAt H (rs ++ [r]) (L ++ [x]) := by
  refine ⟨by rw [List.length_append, List.length_append, h.1]; rfl, fun i r0 x0 e1 e2 => ?_⟩
  rw [List.getElem?_append] at e1 e2
  rw [h.1] at e1
  split at e1
  · rename_i z
    rw [if_pos z] at e2
    exact h.2 i r0 x0 e1 e2
  · rename_i z
    rw [if_neg z] at e2
    have hz : i - L.length = 0 := by
      have := (List.getElem?_eq_some_iff.mp e1).1
      simp only [List.length_cons, List.length_nil] at this
      omega
    rw [hz] at e1 e2
    cases e1
    cases e2
    exact hr
def spLesser : Sp := fun vs H Q _ => ∃ (o p : Option Int), vs = [oV o, oV p] ∧ Q (oV (lesF o p)) H
def spDeedsBy : Sp := fun vs H Q _ => ∃ (h : Addr) (N : Nat) (ds : List Dd) (m : Int), vs = [.ref h, .int m] ∧ HistAt H h N ds ∧ ds.length ≤ 60 ∧ ∀ H', Same H H' → Q (.int (cntF ds m : Int)) H'
def spStretches : Sp := fun vs H Q _ => ∃ (h : Addr) (N : Nat) (ds : List Dd), vs = [.ref h] ∧ HistAt H h N ds ∧ Right N ds ∧ ∀ (l : Addr) (rs : List Addr) (H' : Hp), Same H H' → H' l = some (.lst (rs.map V.ref)) → SrsAt H' rs (strF ds) → Q (.ref l) H'
section
variable {P : Program} {w : World} {K : PySem.W.Frag} {mg : Str → Option Value} {base : Heap}
theorem scLesser : FnScope ["one", "other"] ["one", "other"] (defScope sLesser) := ⟨rfl, rfl, rfl, by decide +kernel, rfl, by decide +kernel, by decide +kernel⟩
theorem ok_Lesser {f : Addr} {fd : FuncData} (F : Fun K "lesser_end" "lesser_end" sLesser f fd) (T : Txt mg) :
    FnOk P w K mg base CX0 1 f fd ["one", "other"] spLesser := by
  refine F.ok scLesser (fun vs H Q E h => ?_) (fun cdv A outer s H vs Q E hr h => ?_)
  · obtain ⟨_, _, rfl, _⟩ := h; rfl
  · obtain ⟨o, p, rfl, k⟩ := h
    refine ⟨_, pss_cons (ps_if (pt_cmpR op_isN (pv 0) pe_non (nomark _)) (pss_one (ps_ret (pv 1))) pss_nil)
      (pss_cons (ps_if (pt_cmpR op_isN (pv 1) pe_non (nomark _)) (pss_one (ps_ret (pv 0))) pss_nil)
      (pss_one (ps_ret (pe_callB (call_min2 rfl) (by rfl) T.min (by decide +kernel) (pa_cons (pv 0) (pa_cons (pv 1) pa_nil)))))), ?_⟩
    cases o with
    | none => exact ⟨_, rfl, rfl, _, rfl, iteT ⟨_, rfl, k⟩⟩
    | some x =>
      refine ⟨_, rfl, rfl, _, rfl, iteF ?_⟩
      dsimp only [tNext]
      cases p with
      | none => exact ⟨_, rfl, rfl, _, rfl, iteT ⟨_, rfl, k⟩⟩
      | some y =>
        refine ⟨_, rfl, rfl, _, rfl, iteF ?_⟩
        dsimp only [tNext]
        exact ⟨_, rfl, _, rfl, x, y, rfl, k⟩
theorem scDeedsBy : FnScope ["history", "moment"] ["history", "moment"] (defScope sDeedsBy) := ⟨rfl, rfl, rfl, by decide +kernel, rfl, by decide +kernel, by decide +kernel⟩
theorem ok_DeedsBy {f : Addr} {fd : FuncData} (F : Fun K "deeds_by" "deeds_by" sDeedsBy f fd) (T : Txt mg) :
    FnOk P w K mg base CX0 1 f fd ["history", "moment"] spDeedsBy := by
  refine F.ok scDeedsBy (fun vs H Q E h => ?_) (fun cdv A outer s H vs Q E hr h => ?_)
  · obtain ⟨_, _, _, _, rfl, _⟩ := h; rfl
  · obtain ⟨h, N, ds, m, rfl, hh, d60, k⟩ := h
    refine ⟨_, pss_one (ps_ret (pe_callB call_len_seq (by rfl) T.len PySem.boot_len (pa_cons (pe_comp (T := ["deed"]) (F := ["moment"]) (js := [1]) (CS.to (osc := defScope sDeedsBy) ⟨by rfl, by decide +kernel, by decide +kernel, by decide +kernel, by decide +kernel, by decide +kernel, by decide +kernel⟩ rfl rfl) rfl (pi_tup (pe_ix ix_tup (pv 0) pe_int (fun _ _ => rfl))) (fun _ _ _ _ _ => pg_name (i := 0) (show (["deed", "moment"] : List Str).Nodup by decide +kernel) rfl (Or.inl rfl)) (fun _ _ _ _ _ => pif_one (pt_cmpR op_le (pe_ix (r := rIxT K) ix_tup (pv 0) pe_int (fun _ _ => rfl)) (pv 1) (nomark _))) (fun _ _ _ _ _ => pv 0)) pa_nil))), ?_⟩
    obtain ⟨tp, rs, eh, et, hdd⟩ := id hh
    refine ⟨_, rfl, h, _, 1, _, rfl, rfl, SqT.of eh, atI_nat (j := 1) rfl, tp, rfl, ⟨_, SqT.of et⟩, fun D hD => comp_tup (K := K) (a := tp) (xs := rs.map V.ref) (fun j σ ys H6 => ∃ (u : Option V) (fs : List Addr), σ = [u, some (.int m)] ∧ ys = fs.map V.ref ∧ H6 = upd H D (.lst ys) ∧ fs.length = ((ds.take j).filter fun d => decide (d.mo ≤ m)).length) ⟨none, [], rfl, rfl, rfl, rfl⟩ (fun j σ ys H6 _ ⟨_, _, _, _, e, _⟩ => by rw [e]; exact ⟨SqT.of (by rw [upd_ne (ne_of_none et hD)]; exact et), upd_same⟩) ?_ ?_⟩
    · rintro j x σ ys H6 hx ⟨u, fs, rfl, rfl, rfl, fl⟩
      obtain ⟨r, hr', rfl⟩ := map_some hx
      obtain ⟨d, hd, er⟩ := hdd.get hr'
      have er6 := same_new (o := .lst (fs.map V.ref)) hD _ _ er
      have tk := take_snoc hd
      have fl60 : fs.length ≤ 60 := by
        have := List.length_filter_le (fun d : Dd => decide (d.mo ≤ m)) (ds.take j)
        rw [List.length_take] at this
        omega
      refine ⟨_, rfl, r, _, 1, _, rfl, rfl, SqT.of er6, atI_nat (j := 1) (dvs1 d), _, rfl, _, _, rfl, rfl, _, rfl, ?_⟩
      by_cases g : d.mo ≤ m
      · rw [decide_eq_true g]
        refine iteT ⟨_, rfl, upd_same, small1000 (by rw [List.length_map]; exact Nat.le_trans (by assumption) (by decide)), _, fs ++ [r], rfl, by rw [List.map_append]; rfl, by rw [upd_upd], ?_⟩
        rw [tk, List.filter_append, List.length_append, List.length_append, fl, List.filter_cons_of_pos (by simpa using g)]; rfl
      · rw [decide_eq_false g]
        refine iteF ⟨_, fs, rfl, rfl, rfl, ?_⟩
        rw [tk, List.filter_append, List.length_append, fl, List.filter_cons_of_neg (by simpa using g)]; rfl
    · rintro σ ys H6 ⟨u, fs, rfl, rfl, rfl, fl⟩
      rw [List.length_map, hdd.1, List.take_length] at fl
      refine ⟨D, _, rfl, .inl (SqL.of upd_same), ?_⟩
      have := k _ (same_new (o := .lst (fs.map V.ref)) hD)
      unfold cntF at this
      rw [← fl] at this
      rw [List.length_map]
      exact this
theorem scStretches : FnScope ["history", "lows", "deed"] ["history"] (defScope sStretches) := ⟨rfl, rfl, rfl, by decide +kernel, rfl, by decide +kernel, by decide +kernel⟩
theorem ok_Stretches {f : Addr} {fd : FuncData} (F : Fun K "stretches_of" "stretches_of" sStretches f fd) (T : Txt mg)
    {gDeedsBy : Addr} {fDeedsBy : FuncData} (kDeedsBy : PySem.W.keepIn K (.ref gDeedsBy) = true) (bDeedsBy : Binds K fDeedsBy ["history", "moment"] []) (hDeedsBy : mg "deeds_by" = some (.ref gDeedsBy)) (GDeedsBy : FnOk P w K mg base CX0 1 gDeedsBy fDeedsBy ["history", "moment"] spDeedsBy) :
    FnOk P w K mg base CX0 2 f fd ["history"] spStretches := by
  refine F.ok scStretches (fun vs H Q E h => ?_) (fun cdv A outer s H vs Q E hr h => ?_)
  · obtain ⟨_, _, _, rfl, _⟩ := h; rfl
  · obtain ⟨h, N, ds, rfl, hh, hR, k⟩ := h
    refine ⟨_, pss_cons (ps_set (i := 1) scStretches.nd rfl (Or.inl rfl) (pe_lst (pa_cons pe_int pa_nil)))
      (pss_cons (ps_for PassesOwn.never rfl (pi_tup (pe_ix ix_tup (pv 0) pe_int (fun _ _ => rfl))) (pg_name (i := 2) scStretches.nd rfl (Or.inl rfl)) (pss_one (ps_if (pt_cmpR op_gt (pe_ix ix_tup (pv 2) pe_int (fun _ _ => rfl)) (pe_ix ix_list (pv 1) (pe_un un_neg pe_int) (fun _ _ => rfl)) (nomark _)) (pss_one (ps_expr (pe_bm PySem.F.plainAttrs_list PySem.F.slot_list_append PySem.F.type_list_append mt_append (pv 1) (pa_cons (pe_ix ix_tup (pv 2) pe_int (fun _ _ => rfl)) pa_nil)))) pss_nil)))
      (pss_one (ps_ret (pe_comp (T := ["low", "high"]) (F := ["history"]) (js := [0]) (CS.to (osc := defScope sStretches) ⟨by rfl, by decide +kernel, by decide +kernel, by decide +kernel, by decide +kernel, by decide +kernel, by decide +kernel⟩ rfl rfl) rfl (pi_zipL rfl T.zip (pa_cons (pv 1) (pa_cons (pe_op op_cat (pe_slice sl_list (pv 1) (po_some pe_int) po_none) (pe_lst (pa_cons pe_non pa_nil))) pa_nil))) (fun _ _ _ _ _ => pg_tupK K 2 rfl rfl (pgs_cons (pg_name (i := 0) (show (["low", "high", "history"] : List Str).Nodup by decide +kernel) rfl (Or.inl rfl)) (pgs_cons (pg_name (i := 1) (show (["low", "high", "history"] : List Str).Nodup by decide +kernel) rfl (Or.inl rfl)) pgs_nil))) (fun _ _ _ _ _ => pif_nil) (fun _ _ _ _ _ => pe_tup (pa_cons (pv 0) (pa_cons (pv 1) (pa_cons (pe_call GDeedsBy hr rfl hDeedsBy kDeedsBy bDeedsBy .nil pass0 (pa_cons (pv 2) (pa_cons (pv 0) pa_nil))) pa_nil)))))))), ?_⟩
    have d60 := hR.len
    have LO := fun n hn => lows_ok ds (fun d hd => (hR.mo d hd).1) hR.up n hn
    refine ⟨small (by simp), fun l hl => ?_⟩
    have s1 := same_new (o := .lst [.int 0]) hl
    have hh1 := hh.same s1
    obtain ⟨tp, rs, eh, et, hdd⟩ := id hh1
    have hdd1 : DdsAt (upd H l (.lst [.int 0])) rs ds := hdd
    have nlt : l ≠ tp := by
      intro e
      rw [← e, upd_same] at et
      cases et
    refine ⟨_, rfl, h, _, 1, _, rfl, rfl, SqT.of eh, atI_nat (j := 1) rfl, tp, rfl, ⟨_, SqT.of et⟩, for_tup (K := K) (a := tp) (xs := rs.map V.ref) (fun i σ H5 => ∃ (u2 : Option V), σ = [some (.ref h), some (.ref l), u2] ∧ H5 = upd H l (.lst ((lowsF (ds.take i)).map V.int))) ⟨_, rfl, rfl⟩ (fun i σ H5 _ ⟨_, _, e⟩ => by rw [e]; rw [upd_ne (Ne.symm nlt)] at et; exact SqT.of (by rw [upd_ne (Ne.symm nlt)]; exact et)) ?_ ?_⟩
    · rintro i x σ H5 hx ⟨u2, rfl, rfl⟩
      obtain ⟨r, hr', rfl⟩ := map_some hx
      obtain ⟨d, hd, er⟩ := hdd1.get hr'
      have hi : i < ds.length := (List.getElem?_eq_some_iff.mp hd).1
      have I := LO i (by exact Nat.le_of_lt (by assumption))
      have tk := take_snoc hd
      have nr : r ≠ l := by
        intro e
        rw [e, upd_same] at er
        cases er
      rw [upd_ne nr] at er
      have er5 : upd H l (.lst ((lowsF (ds.take i)).map V.int)) r = some (.tup d.vs) := by rw [upd_ne nr]; exact er
      have len := I.len
      rw [List.length_take] at len
      refine ⟨_, rfl, r, _, 1, _, rfl, rfl, SqT.of er5, atI_nat (j := 1) (dvs1 d), _, rfl, _, rfl, l, _, _, _, rfl, rfl, SqL.of upd_same, at_last1 I.ne, _, _, rfl, rfl, _, rfl, ?_⟩
      rw [tk, lows_snoc]
      unfold lowS
      by_cases g : (lowsF (ds.take i)).getLastD 0 < d.mo
      · rw [if_pos g, decide_eq_true (show d.mo > (lowsF (ds.take i)).getLastD 0 from g)]
        exact iteT ⟨_, rfl, .inl ⟨rfl, _, SqL.of upd_same⟩, _, rfl, r, _, 1, _, rfl, rfl, SqT.of er5, atI_nat (j := 1) (dvs1 d), l, _, _, rfl, rfl, upd_same, small1000 (by rw [List.length_map]; omega), _, rfl, by rw [upd_upd, List.map_append]; rfl⟩
      · rw [if_neg g, decide_eq_false (show ¬ d.mo > (lowsF (ds.take i)).getLastD 0 from g)]
        exact iteF ⟨_, rfl, rfl⟩
    · rintro σ H5 ⟨u2, rfl, rfl⟩
      rw [List.length_map, hdd1.1, List.take_length]
      have I := LO ds.length (Nat.le_refl _)
      rw [List.take_length] at I
      have sl := same_new (o := .lst ((lowsF ds).map V.int)) hl
      have l5 := upd_same (H := H) (a := l) (o := .lst ((lowsF ds).map V.int))
      have len := I.len
      generalize upd H l (.lst ((lowsF ds).map V.int)) = H5 at sl l5 ⊢
      refine ⟨_, rfl, _, rfl, _, rfl, l, _, rfl, SqL.of l5, fun c hc => ?_⟩
      rw [show cutV ((lowsF ds).map V.int) (some 1) none = ((lowsF ds).drop 1).map V.int by rw [List.map_drop]; exact cutV_drop (n := 1)]
      have sc := same_new (o := .lst (((lowsF ds).drop 1).map V.int)) hc
      have c6 := upd_same (H := H5) (a := c) (o := .lst (((lowsF ds).drop 1).map V.int))
      generalize upd H5 c (.lst (((lowsF ds).drop 1).map V.int)) = H6 at sc c6 ⊢
      refine ⟨small (by simp), fun n hn => ?_⟩
      have sn := same_new (o := .lst [.non]) hn
      have n7 := upd_same (H := H6) (a := n) (o := .lst [.non])
      have c7 := sn _ _ c6
      generalize upd H6 n (.lst [.non]) = H7 at sn n7 c7 ⊢
      refine ⟨c, n, _, _, rfl, rfl, c7, n7, small (by rw [List.length_map, List.length_drop]; show _ + 1 ≤ _; omega), fun z hz => ?_⟩
      have sz := same_new (o := .lst (((lowsF ds).drop 1).map V.int ++ [.non])) hz
      have z8 := upd_same (H := H7) (a := z) (o := .lst (((lowsF ds).drop 1).map V.int ++ [.non]))
      generalize upd H7 z (.lst (((lowsF ds).drop 1).map V.int ++ [.non])) = H8 at sz z8 ⊢
      have S8 : Same H5 H8 := (sc.trans sn).trans sz
      have l8 := S8 _ _ l5
      have SH : Same H H8 := sl.trans S8
      have hh8 := hh.same SH
      have next : ∀ (i : Nat) y, (((lowsF ds).drop 1).map V.int ++ [.non])[i]? = some y → y = oV ((lowsF ds)[i + 1]?) := fun i y hy => by
        rw [List.getElem?_append] at hy
        split at hy
        · obtain ⟨v, hv, rfl⟩ := map_some hy
          rw [List.getElem?_drop, Nat.add_comm] at hv
          rw [hv]; rfl
        · rename_i g
          have hz0 : i - (((lowsF ds).drop 1).map V.int).length = 0 := by
            have := (List.getElem?_eq_some_iff.mp hy).1
            simp only [List.length_cons, List.length_nil] at this
            omega
          rw [hz0] at hy
          cases hy
          rw [List.length_map, List.length_drop] at g
          rw [List.getElem?_eq_none (by omega)]; rfl
      refine ⟨l, z, _, _, rfl, SqL.of l8, SqL.of z8, fun D hD => comp_zipL (K := K) (a := l) (b := z) (xs := (lowsF ds).map V.int) (ys := ((lowsF ds).drop 1).map V.int ++ [.non]) (fun j σ zs H9 => ∃ (u v : Option V) (rs : List Addr), σ = [u, v, some (.ref h)] ∧ zs = rs.map V.ref ∧ Same H8 H9 ∧ H9 D = some (.lst zs) ∧ SrsAt H9 rs ((strF ds).take j)) ⟨none, none, [], rfl, rfl, same_new hD, upd_same, rfl, fun i r x e => by simp at e⟩ (fun j σ zs H9 _ _ ⟨_, _, _, _, _, s9, e, _⟩ => ⟨SqL.of (s9 _ _ l8), SqL.of (s9 _ _ z8), e⟩) ?_ ?_⟩
      · rintro j x y σ zs H9 TT hx hy ⟨u, v, rs, rfl, rfl, s9, e9, R9⟩ hTT
        obtain ⟨lo, hlo, rfl⟩ := map_some hx
        have hy := next j y hy
        subst hy
        have hj : j < (lowsF ds).length := (List.getElem?_eq_some_iff.mp hlo).1
        have sT := same_new (o := .tup [.int lo, oV ((lowsF ds)[j + 1]?)]) hTT
        have tT := upd_same (H := H9) (a := TT) (o := .tup [.int lo, oV ((lowsF ds)[j + 1]?)])
        generalize upd H9 TT (.tup [.int lo, oV ((lowsF ds)[j + 1]?)]) = HA at sT tT ⊢
        refine ⟨TT, _, rfl, SqT.of tT, rfl, _, _, rfl, _, _, rfl, rfl, ?_⟩
        refine ⟨_, rfl, _, rfl, _, rfl, _, rfl, h, N, ds, lo, rfl, hh8.same (s9.trans sT), d60, fun HB sB => ⟨small (by simp), fun t ht => ?_⟩⟩
        have st := same_new (o := .tup [.int lo, oV ((lowsF ds)[j + 1]?), .int (cntF ds lo : Int)]) ht
        have t9 := upd_same (H := HB) (a := t) (o := .tup [.int lo, oV ((lowsF ds)[j + 1]?), .int (cntF ds lo : Int)])
        have S9 : Same H9 (upd HB t (.tup [.int lo, oV ((lowsF ds)[j + 1]?), .int (cntF ds lo : Int)])) := (sT.trans sB).trans st
        generalize upd HB t (.tup [.int lo, oV ((lowsF ds)[j + 1]?), .int (cntF ds lo : Int)]) = HC at st t9 S9 ⊢
        have eD := S9 _ _ e9
        have rl : rs.length ≤ j := by rw [R9.1, List.length_take]; omega
        have tk : (strF ds).take (j + 1) = (strF ds).take j ++ [(lo, (lowsF ds)[j + 1]?, cntF ds lo)] := take_snoc (strG_get _ _ _ _ hlo)
        refine ⟨eD, small1000 (by rw [List.length_map]; omega), _, _, rs ++ [t], rfl, by rw [List.map_append]; rfl, same_set (s9.trans S9) hD, upd_same, ?_⟩
        rw [tk]
        have R := srs_snoc (x := (lo, (lowsF ds)[j + 1]?, cntF ds lo)) (R9.same S9) t9
        exact ⟨R.1, fun i r x a b => by have e := R.2 i r x a b; rw [upd_ne (ne_of e eD (by intro z; cases z))]; exact e⟩
      · rintro i σ zs H9 hi ⟨u, v, rs, rfl, rfl, s9, e9, R9⟩
        have hfull : (strF ds).take i = strF ds := by
          refine List.take_of_length_le ?_
          unfold strF
          rw [strG_len, hi, List.length_map, List.length_append, List.length_map, List.length_drop]
          show _ ≤ min _ (_ + 1)
          omega
        rw [hfull] at R9
        exact k D rs H9 (SH.trans s9) e9 R9
end
end K65
set_option maxHeartbeats 4000000
namespace K65
open PySem L2 Wk
def pcV (p : Pc) : List V := [.int p.1, .int p.2.1, .int (p.2.2 : Int)]
def PcsA (H : Hp) (rs : List Addr) (L : List Pc) : Prop := rs.length = L.length ∧ ∀ (i : Nat) r x, rs[i]? = some r → L[i]? = some x → H r = some (.tup (pcV x))
theorem rows_snoc {α : Type} {Pp : Addr → α → Prop} {rs : List Addr} {L : List α} {r : Addr} {x : α} (h : rs.length = L.length ∧ ∀ (i : Nat) r x, rs[i]? = some r → L[i]? = some x → Pp r x) (hr : Pp r x) : (rs ++ [r]).length = (L ++ [x]).length ∧ ∀ (i : Nat) r' x', (rs ++ [r])[i]? = some r' → (L ++ [x])[i]? = some x' → Pp r' x' := by
  refine ⟨by rw [List.length_append, List.length_append, h.1]; rfl, fun i r0 x0 e1 e2 => ?_⟩
  rw [List.getElem?_append] at e1 e2
  rw [h.1] at e1
  split at e1
  · rename_i z
    rw [if_pos z] at e2
    exact h.2 i r0 x0 e1 e2
  · rename_i z
    rw [if_neg z] at e2
    have hz : i - L.length = 0 := by
      have := (List.getElem?_eq_some_iff.mp e1).1
      simp only [List.length_cons, List.length_nil] at this
      omega
    rw [hz] at e1 e2
    cases e1
    cases e2
    exact hr
theorem rows_get {α : Type} {Pp : Addr → α → Prop} {rs : List Addr} {L : List α} (h : rs.length = L.length ∧ ∀ (i : Nat) r x, rs[i]? = some r → L[i]? = some x → Pp r x) {i : Nat} {r : Addr} (hr : rs[i]? = some r) : ∃ x, L[i]? = some x ∧ Pp r x := by
  have hi : i < L.length := by rw [← h.1]; exact (List.getElem?_eq_some_iff.mp hr).1
  exact ⟨L[i], getq hi, h.2 i r _ hr (getq hi)⟩
theorem rows_mono {α : Type} {Pp Pq : Addr → α → Prop} {rs : List Addr} {L : List α} (h : rs.length = L.length ∧ ∀ (i : Nat) r x, rs[i]? = some r → L[i]? = some x → Pp r x) (f : ∀ r x, Pp r x → Pq r x) : rs.length = L.length ∧ ∀ (i : Nat) r x, rs[i]? = some r → L[i]? = some x → Pq r x := ⟨h.1, fun i r x a b => f _ _ (h.2 i r x a b)⟩
/-- a piece with its paper -/
def PcAt (H : Hp) (N : Nat) (ds : List Dd) (p q : Nat) (r : Addr) (x : Pc) : Prop := ∃ (pr : Addr) (S : List T4), H r = some (.tup [.int x.1, .int x.2.1, .ref pr]) ∧ Srtd S (thr (ds.take x.2.2)) ∧ PaperAt H pr N S p q
theorem PcAt.mono {H H' : Hp} {N : Nat} {ds : List Dd} {p q : Nat} {r : Addr} {x : Pc} (h : PcAt H N ds p q r x) (f : ∀ r xs, H r = some (.tup xs) → H' r = some (.tup xs)) : PcAt H' N ds p q r x := let ⟨pr, S, a, b, c⟩ := h; ⟨pr, S, f _ _ a, b, c.mono f⟩
def PcsAt (H : Hp) (N : Nat) (ds : List Dd) (p q : Nat) (rs : List Addr) (L : List Pc) : Prop := rs.length = L.length ∧ ∀ (i : Nat) r x, rs[i]? = some r → L[i]? = some x → PcAt H N ds p q r x
def spWithin : Sp := fun vs H Q _ => ∃ (l : Addr) (rs : List Addr) (L : List Sr) (low high : Int), vs = [.ref l, .int low, .int high] ∧ H l = some (.lst (rs.map V.ref)) ∧ SrsAt H rs L ∧ L.length ≤ 61 ∧ ∀ (l' : Addr) (rs' : List Addr) (H' : Hp), Same H H' → H' l' = some (.lst (rs'.map V.ref)) → PcsA H' rs' (pcsF low high L) → Q (.ref l') H'
def spThrough : Sp := fun vs H Q _ => ∃ (h : Addr) (N : Nat) (ds : List Dd) (p q : Nat) (low high : Int), vs = [.ref h, .int (p : Int), .int (q : Int), .int low, .int high] ∧ HistAt H h N ds ∧ Right N ds ∧ N ≤ 60 ∧ p < N ∧ q < N ∧ ∀ (t : Addr) (rs : List Addr) (H' : Hp), Same H H' → H' t = some (.tup (rs.map V.ref)) → PcsAt H' N ds p q rs (pcsF low high (strF ds)) → Q (.ref t) H'
section
variable {P : Program} {w : World} {K : PySem.W.Frag} {mg : Str → Option Value} {base : Heap}
theorem scWithin : FnScope ["stretches", "low", "high", "within"] ["stretches", "low", "high"] (defScope sWithin) := ⟨rfl, rfl, rfl, by decide +kernel, rfl, by decide +kernel, by decide +kernel⟩
theorem ok_Within {f : Addr} {fd : FuncData} (F : Fun K "stretches_within" "stretches_within" sWithin f fd) (T : Txt mg)
    {gLesser : Addr} {fLesser : FuncData} (kLesser : PySem.W.keepIn K (.ref gLesser) = true) (bLesser : Binds K fLesser ["one", "other"] []) (hLesser : mg "lesser_end" = some (.ref gLesser)) (GLesser : FnOk P w K mg base CX0 1 gLesser fLesser ["one", "other"] spLesser) :
    FnOk P w K mg base CX0 2 f fd ["stretches", "low", "high"] spWithin := by
  refine F.ok scWithin (fun vs H Q E h => ?_) (fun cdv A outer s H vs Q E hr h => ?_)
  · obtain ⟨_, _, _, _, _, rfl, _⟩ := h; rfl
  · obtain ⟨l, rs, L, low, high, rfl, el, hR, L61, k⟩ := h
    refine ⟨_, pss_cons (ps_comp (i := 3) (T := ["start", "stop", "n"]) (F := ["low", "high"]) (js := [1, 2]) scWithin.nd rfl (Or.inl rfl) (CS.to (osc := defScope sWithin) ⟨by rfl, by decide +kernel, by decide +kernel, by decide +kernel, by decide +kernel, by decide +kernel, by decide +kernel⟩ rfl rfl) rfl (pi_list (pv 0)) (fun _ _ _ _ _ => pg_tupK K 3 rfl rfl (pgs_cons (pg_name (i := 0) (show (["start", "stop", "n", "low", "high"] : List Str).Nodup by decide +kernel) rfl (Or.inl rfl)) (pgs_cons (pg_name (i := 1) (show (["start", "stop", "n", "low", "high"] : List Str).Nodup by decide +kernel) rfl (Or.inl rfl)) (pgs_cons (pg_name (i := 2) (show (["start", "stop", "n", "low", "high"] : List Str).Nodup by decide +kernel) rfl (Or.inl rfl)) pgs_nil)))) (fun _ _ _ _ _ => pif_nil) (fun _ _ _ _ _ => pe_tup (pa_cons (pe_callB (call_max2 rfl) (by rfl) T.max (by decide +kernel) (pa_cons (pv 3) (pa_cons (pv 0) pa_nil))) (pa_cons (pe_call GLesser hr rfl hLesser kLesser bLesser .nil pass0 (pa_cons (pv 1) (pa_cons (pv 4) pa_nil))) (pa_cons (pv 2) pa_nil)))))
      (pss_one (ps_ret (pe_comp (T := ["start", "stop", "n"]) (F := []) (js := []) (CS.to (osc := defScope sWithin) ⟨by rfl, by decide +kernel, by decide +kernel, by decide +kernel, by decide +kernel, by decide +kernel, by decide +kernel⟩ rfl rfl) rfl (pi_list (pv 3)) (fun _ _ _ _ _ => pg_tupK K 3 rfl rfl (pgs_cons (pg_name (i := 0) (show (["start", "stop", "n"] : List Str).Nodup by decide +kernel) rfl (Or.inl rfl)) (pgs_cons (pg_name (i := 1) (show (["start", "stop", "n"] : List Str).Nodup by decide +kernel) rfl (Or.inl rfl)) (pgs_cons (pg_name (i := 2) (show (["start", "stop", "n"] : List Str).Nodup by decide +kernel) rfl (Or.inl rfl)) pgs_nil)))) (fun _ _ _ _ _ => pif_one (pt_cmpR op_lt (pv 0) (pv 1) (nomark _))) (fun _ _ _ _ _ => pe_tup (pa_cons (pv 0) (pa_cons (pv 1) (pa_cons (pv 2) pa_nil))))))), ?_⟩
    refine ⟨_, rfl, l, rfl, ⟨_, SqL.of el⟩, fun W hW => comp_list (K := K) (a := l) (xs := rs.map V.ref) (fun j σ ys H2 => ∃ (u0 u1 u2 : Option V) (fs : List Addr), σ = [u0, u1, u2, some (.int low), some (.int high)] ∧ ys = fs.map V.ref ∧ Same H H2 ∧ H2 W = some (.lst ys) ∧ PcsA H2 fs ((L.take j).map (clipF low high))) ⟨none, none, none, [], rfl, rfl, same_new hW, upd_same, rfl, fun i r x e => by simp at e⟩ (fun j σ ys H2 _ ⟨_, _, _, _, _, _, s, e, _⟩ => ⟨SqL.of (s _ _ el), e⟩) ?_ ?_⟩
    · rintro j x σ ys H2 hx ⟨u0, u1, u2, fs, rfl, rfl, s2, e2, R2⟩
      obtain ⟨r, hr', rfl⟩ := map_some hx
      obtain ⟨y, hy, er⟩ := hR.get hr'
      have er2 := s2 _ _ er
      have tk := take_snoc hy
      have hj : j < L.length := (List.getElem?_eq_some_iff.mp hy).1
      refine ⟨r, _, rfl, SqT.of er2, rfl, _, _, rfl, _, _, rfl, _, _, rfl, rfl, ?_⟩
      refine ⟨_, rfl, _, rfl, _, _, rfl, _, rfl, _, rfl, y.2.1, some high, rfl, _, rfl, small (by simp), fun t ht => ?_⟩
      have ec : ([.int (if y.1 > low then y.1 else low), oV (lesF y.2.1 (some high)), .int (y.2.2 : Int)] : List V) = pcV (clipF low high y) := by
        unfold pcV clipF
        cases y.2.1 with
        | none => rfl
        | some h => rfl
      rw [ec] 
      have st := same_new (o := .tup (pcV (clipF low high y))) ht
      have t3 := upd_same (H := H2) (a := t) (o := .tup (pcV (clipF low high y)))
      generalize upd H2 t (.tup (pcV (clipF low high y))) = H3 at st t3 ⊢
      have e3 := st _ _ e2
      have fl : fs.length ≤ j := by rw [R2.1, List.length_map, List.length_take]; omega
      refine ⟨e3, small1000 (by rw [List.length_map]; omega), _, _, _, fs ++ [t], rfl, by rw [List.map_append]; rfl, same_set (s2.trans st) hW, upd_same, ?_⟩
      rw [tk, List.map_append]
      exact rows_mono (rows_snoc (Pp := fun r x => H3 r = some (.tup (pcV x))) (rows_mono R2 fun r x e => st _ _ e) t3) fun r x e => by rw [upd_ne (ne_of e e3 (by intro z; cases z))]; exact e
    rintro σ ys H2 ⟨u0, u1, u2, fs, rfl, rfl, s2, e2, R2⟩
    rw [List.length_map, hR.1, List.take_length] at R2
    refine ⟨_, rfl, W, rfl, ⟨_, SqL.of e2⟩, fun D hD => comp_list (K := K) (a := W) (xs := fs.map V.ref) (fun j σ ys H3 => ∃ (u0 u1 u2 : Option V) (gs : List Addr), σ = [u0, u1, u2] ∧ ys = gs.map V.ref ∧ Same H2 H3 ∧ H3 D = some (.lst ys) ∧ PcsA H3 gs (((L.map (clipF low high)).take j).filter fun p => decide (p.1 < p.2.1))) ⟨none, none, none, [], rfl, rfl, same_new hD, upd_same, rfl, fun i r x e => by simp at e⟩ (fun j σ ys H3 _ ⟨_, _, _, _, _, _, s, e, _⟩ => ⟨SqL.of (s _ _ e2), e⟩) ?_ ?_⟩
    · rintro j x σ ys H3 hx ⟨u0, u1, u2, gs, rfl, rfl, s3, e3, R3⟩
      obtain ⟨r, hr', rfl⟩ := map_some hx
      obtain ⟨y, hy, er⟩ := rows_get R2 hr'
      have er3 := s3 _ _ er
      have tk := take_snoc hy
      have hj : j < L.length := by have := (List.getElem?_eq_some_iff.mp hy).1; rw [List.length_map] at this; exact this
      have gl : gs.length ≤ 61 := by
        rw [R3.1]
        refine Nat.le_trans (List.length_filter_le _ _) ?_
        rw [List.length_take, List.length_map]; omega
      refine ⟨r, _, rfl, SqT.of er3, rfl, _, _, rfl, _, _, rfl, _, _, rfl, rfl, ?_⟩
      refine ⟨_, rfl, _, rfl, _, _, rfl, rfl, _, rfl, ?_⟩
      by_cases g : y.1 < y.2.1
      · rw [decide_eq_true g]
        refine iteT ⟨_, rfl, _, rfl, _, rfl, small (by simp), fun t ht => ?_⟩
        have st := same_new (o := .tup (pcV y)) ht
        have t4 := upd_same (H := H3) (a := t) (o := .tup (pcV y))
        rw [show ([.int y.1, .int y.2.1, .int (y.2.2 : Int)] : List V) = pcV y from rfl]
        generalize upd H3 t (.tup (pcV y)) = H4 at st t4 ⊢
        have e4 := st _ _ e3
        refine ⟨e4, small1000 (by rw [List.length_map]; exact Nat.le_trans (by assumption) (by decide)), _, _, _, gs ++ [t], rfl, by rw [List.map_append]; rfl, same_set (s3.trans st) hD, upd_same, ?_⟩
        rw [tk, List.filter_append, List.filter_cons_of_pos (by simpa using g)]
        exact rows_mono (rows_snoc (Pp := fun r x => H4 r = some (.tup (pcV x))) (rows_mono R3 fun r x e => st _ _ e) t4) fun r x e => by rw [upd_ne (ne_of e e4 (by intro z; cases z))]; exact e
      · rw [decide_eq_false g]
        refine iteF ⟨_, _, _, gs, rfl, rfl, s3, e3, ?_⟩
        rw [tk, List.filter_append, List.filter_cons_of_neg (by simpa using g), List.filter_nil, List.append_nil]
        exact R3
    rintro σ ys H3 ⟨u0, u1, u2, gs, rfl, rfl, s3, e3, R3⟩
    rw [List.length_map, R2.1, List.take_length] at R3
    exact k D gs H3 (s2.trans s3) e3 R3
theorem scThrough : FnScope ["history", "one", "other", "low", "high", "stretches"] ["history", "one", "other", "low", "high"] (defScope sThrough) := ⟨rfl, rfl, rfl, by decide +kernel, rfl, by decide +kernel, by decide +kernel⟩
theorem ok_Through {f : Addr} {fd : FuncData} (F : Fun K "papers_through" "papers_through" sThrough f fd) (T : Txt mg)
    {gStretches : Addr} {fStretches : FuncData} (kStretches : PySem.W.keepIn K (.ref gStretches) = true) (bStretches : Binds K fStretches ["history"] []) (hStretches : mg "stretches_of" = some (.ref gStretches)) (GStretches : FnOk P w K mg base CX0 5 gStretches fStretches ["history"] spStretches)
    {gWithin : Addr} {fWithin : FuncData} (kWithin : PySem.W.keepIn K (.ref gWithin) = true) (bWithin : Binds K fWithin ["stretches", "low", "high"] []) (hWithin : mg "stretches_within" = some (.ref gWithin)) (GWithin : FnOk P w K mg base CX0 5 gWithin fWithin ["stretches", "low", "high"] spWithin)
    {gPaper : Addr} {fPaper : FuncData} (kPaper : PySem.W.keepIn K (.ref gPaper) = true) (bPaper : Binds K fPaper ["history", "n", "one", "other"] []) (hPaper : mg "paper_for" = some (.ref gPaper)) (GPaper : FnOk P w K mg base CX0 5 gPaper fPaper ["history", "n", "one", "other"] spPaper) :
    FnOk P w K mg base CX0 6 f fd ["history", "one", "other", "low", "high"] spThrough := by
  refine F.ok scThrough (fun vs H Q E h => ?_) (fun cdv A outer s H vs Q E hr h => ?_)
  · obtain ⟨_, _, _, _, _, _, _, rfl, _⟩ := h; rfl
  · obtain ⟨h, N, ds, p, q, low, high, rfl, hh, hR, N60, pN, qN, k⟩ := h
    refine ⟨_, pss_cons (ps_set (i := 5) scThrough.nd rfl (Or.inl rfl) (pe_call GWithin hr rfl hWithin kWithin bWithin .nil pass0 (pa_cons (pe_call GStretches hr rfl hStretches kStretches bStretches .nil pass0 (pa_cons (pv 0) pa_nil)) (pa_cons (pv 3) (pa_cons (pv 4) pa_nil)))))
      (pss_one (ps_ret (pe_callTy call_tuple_of (by rfl) T.tuple (by decide +kernel) (pa_cons (pe_comp (T := ["start", "stop", "n"]) (F := ["history", "one", "other"]) (js := [0, 1, 2]) (CS.to (osc := defScope sThrough) ⟨by rfl, by decide +kernel, by decide +kernel, by decide +kernel, by decide +kernel, by decide +kernel, by decide +kernel⟩ rfl rfl) rfl (pi_list (pv 5)) (fun _ _ _ _ _ => pg_tupK K 3 rfl rfl (pgs_cons (pg_name (i := 0) (show (["start", "stop", "n", "history", "one", "other"] : List Str).Nodup by decide +kernel) rfl (Or.inl rfl)) (pgs_cons (pg_name (i := 1) (show (["start", "stop", "n", "history", "one", "other"] : List Str).Nodup by decide +kernel) rfl (Or.inl rfl)) (pgs_cons (pg_name (i := 2) (show (["start", "stop", "n", "history", "one", "other"] : List Str).Nodup by decide +kernel) rfl (Or.inl rfl)) pgs_nil)))) (fun _ _ _ _ _ => pif_nil) (fun _ _ _ _ _ => pe_tup (pa_cons (pv 0) (pa_cons (pv 1) (pa_cons (pe_call GPaper hr rfl hPaper kPaper bPaper .nil pass0 (pa_cons (pv 3) (pa_cons (pv 2) (pa_cons (pv 4) (pa_cons (pv 5) pa_nil))))) pa_nil))))) pa_nil)))), ?_⟩
    have d60 := hR.len
    have SL := strF_len hR
    refine ⟨_, rfl, h, N, ds, rfl, hh, hR, fun l0 rs0 H0 s0 e0 R0 => ?_⟩
    refine ⟨_, rfl, _, rfl, l0, rs0, strF ds, low, high, rfl, e0, R0, by omega, fun l rs H1 s1 el R1 => ?_⟩
    have PL := pcs_len (low := low) (high := high) (L := strF ds)
    have hh1 := hh.same (s0.trans s1)
    refine ⟨_, rfl, l, rfl, ⟨_, SqL.of el⟩, fun D hD => comp_list (K := K) (a := l) (xs := rs.map V.ref) (fun j σ ys H2 => ∃ (u0 u1 u2 : Option V) (fs : List Addr), σ = [u0, u1, u2, some (.ref h), some (.int (p : Int)), some (.int (q : Int))] ∧ ys = fs.map V.ref ∧ Same H1 H2 ∧ H2 D = some (.lst ys) ∧ PcsAt H2 N ds p q fs ((pcsF low high (strF ds)).take j)) ⟨none, none, none, [], rfl, rfl, same_new hD, upd_same, rfl, fun i r x e => by simp at e⟩ (fun j σ ys H2 _ ⟨_, _, _, _, _, _, s, e, _⟩ => ⟨SqL.of (s _ _ el), e⟩) ?_ ?_⟩
    · rintro j x σ ys H2 hx ⟨u0, u1, u2, fs, rfl, rfl, s2, e2, R2⟩
      obtain ⟨r, hr', rfl⟩ := map_some hx
      obtain ⟨y, hy, er⟩ := rows_get R1 hr'
      have er2 := s2 _ _ er
      have tk := take_snoc hy
      obtain ⟨_, yc, _⟩ := pcs_ok hR (List.mem_of_getElem? hy)
      have hj : j < (pcsF low high (strF ds)).length := (List.getElem?_eq_some_iff.mp hy).1
      have yl : y.2.2 ≤ ds.length := by rw [yc]; exact cnt_le ds _
      refine ⟨r, _, rfl, SqT.of er2, rfl, _, _, rfl, _, _, rfl, _, _, rfl, rfl, ?_⟩
      refine ⟨_, rfl, _, rfl, _, rfl, _, rfl, _, rfl, _, rfl, h, N, ds, y.2.2, p, q, rfl, hh1.same s2, hR, yl, N60, pN, qN, fun pr S H3 s3 hs hP => ⟨small (by simp), fun t ht => ?_⟩⟩
      have st := same_new (o := .tup [.int y.1, .int y.2.1, .ref pr]) ht
      have t4 := upd_same (H := H3) (a := t) (o := .tup [.int y.1, .int y.2.1, .ref pr])
      generalize upd H3 t (.tup [.int y.1, .int y.2.1, .ref pr]) = H4 at st t4 ⊢
      have S24 := s3.trans st
      have e4 := S24 _ _ e2
      have fl : fs.length ≤ j := by rw [R2.1, List.length_take]; omega
      refine ⟨e4, small1000 (by rw [List.length_map]; omega), _, _, _, fs ++ [t], rfl, by rw [List.map_append]; rfl, same_set (s2.trans S24) hD, upd_same, ?_⟩
      rw [tk]
      exact rows_mono (rows_snoc (Pp := fun r x => PcAt H4 N ds p q r x) (rows_mono R2 fun r x e => e.mono fun a xs => S24 a (.tup xs)) ⟨pr, S, t4, hs, hP.mono fun a xs => st a (.tup xs)⟩) fun r x e => e.mono fun a xs e => by rw [upd_ne (ne_of e e4 (by intro z; cases z))]; exact e
    · rintro σ ys H2 ⟨u0, u1, u2, fs, rfl, rfl, s2, e2, R2⟩
      rw [List.length_map, R1.1, List.take_length] at R2
      refine ⟨D, _, rfl, .inl ⟨SqL.of e2, fun t ht => ?_⟩⟩
      have st := same_new (o := .tup (fs.map V.ref)) ht
      exact k t fs _ (((s0.trans s1).trans s2).trans st) upd_same (rows_mono R2 fun r x e => e.mono fun a xs => st a (.tup xs))
end
end K65
set_option maxHeartbeats 4000000
namespace K65
open PySem L2 Wk
def spCount : Sp := spDeedsBy
def spMoments : Sp := fun vs H Q _ => ∃ (d h : Addr) (N : Nat) (ds : List Dd) (b : Nat), vs = [.ref d, .ref h] ∧ DeckAt H d (b + 4) ∧ HistAt H h N ds ∧ Right N ds ∧ ∀ (r : Addr) (lo hi : Int) (H' : Hp), But d H H' → DeckAt H' d b → H' r = some (.tup [.int lo, .int hi]) → 0 ≤ lo → lo ≤ hi → Q (.ref r) H'
def spLWithin : Sp := fun vs H Q _ => ∃ (h : Addr) (N : Nat) (ds : List Dd) (lo hi : Int), vs = [.ref h, .int lo, .int hi] ∧ HistAt H h N ds ∧ ds.length ≤ 60 ∧ (∀ d ∈ ds, ¬ (lo < d.mo ∧ d.mo < hi)) ∧ ∀ (l : Addr) (H' : Hp), Same H H' → H' l = some (.lst [.int lo]) → Q (.ref l) H'
def spPieceR : Sp := fun vs H Q _ => ∃ (h pa r : Addr) (N : Nat) (ds : List Dd) (p q : Nat) (x : Pc), vs = [.ref h, .ref pa, .ref r] ∧ HistAt H h N ds ∧ Right N ds ∧ N ≤ 60 ∧ p < N ∧ q < N ∧ H pa = some (.tup [.int (p : Int), .int (q : Int)]) ∧ PcAt H N ds p q r x ∧ x.2.2 = cntF ds x.1 ∧ (∀ d ∈ ds, ¬ (x.1 < d.mo ∧ d.mo < x.2.1)) ∧ ∀ H', Same H H' → Q (.bl true) H'
def spLWhole : Sp := fun vs H Q _ => ∃ i : Int, vs = [.int i] ∧ Q (.bl true) H
def spThroughR : Sp := fun vs H Q _ => ∃ (h pa t : Addr) (N : Nat) (ds : List Dd) (p q : Nat) (low high : Int) (rs : List Addr), vs = [.ref h, .ref pa, .int low, .int high, .ref t] ∧ HistAt H h N ds ∧ Right N ds ∧ N ≤ 60 ∧ p < N ∧ q < N ∧ 0 ≤ low ∧ low ≤ high ∧ H pa = some (.tup [.int (p : Int), .int (q : Int)]) ∧ H t = some (.tup (rs.map V.ref)) ∧ PcsAt H N ds p q rs (pcsF low high (strF ds)) ∧ ∀ H', Same H H' → Q (.bl true) H'
theorem tiles_at : ∀ {ps : List Pc} {h e : Int} {i : Nat} {p : Pc}, Tiles h e ps → ps[i]? = some p → p.1 = (if i = 0 then h else ((ps[i - 1]?).map fun p => p.2.1).getD 0) ∧ p.1 < p.2.1 ∧ p.2.1 ≤ e
  | [], _, _, i, p, _, hp => by simp at hp
  | q :: ps, h, e, 0, p, t, hp => by
    cases hp
    obtain ⟨a, b, c, _⟩ := t
    exact ⟨by rw [if_pos rfl]; exact a, by rw [a]; exact b, c⟩
  | q :: ps, h, e, i + 1, p, t, hp => by
    have hp : ps[i]? = some p := hp
    obtain ⟨a, b, c, d⟩ := t
    obtain ⟨x, y, z⟩ := tiles_at d hp
    refine ⟨?_, y, z⟩
    rw [if_neg (by omega)]
    rw [x]
    cases i with
    | zero => rfl
    | succ i => rw [if_neg (by omega)]; rfl
theorem tiles_end : ∀ {ps : List Pc} {h e : Int}, Tiles h e ps → (if ps.length = 0 then h else ((ps[ps.length - 1]?).map fun p => p.2.1).getD 0) = e
  | [], h, e, t => t
  | [q], h, e, ⟨_, _, _, d⟩ => by have d : q.2.1 = e := d; exact d
  | q :: r :: ps, h, e, ⟨_, _, _, d⟩ => by
    have := tiles_end d
    rw [if_neg (by simp)] at this ⊢
    exact this
theorem paper_eqs {K : PySem.W.Frag} {H : Hp} {N : Nat} {S : List T4} {p q : Nat} {r r' : Addr} (h : PaperAt H r N S p q) (h' : PaperAt H r' N S p q) : Eqs K H 2 (.ref r) (.ref r') true := by
  have fs : ∀ (ws : List Str), ∀ x ∈ ws.map V.str, ∀ y ∈ ws.map V.str, Flt x y = true := fun ws x hx y hy => by
    obtain ⟨_, _, rfl⟩ := List.mem_map.mp hx
    obtain ⟨_, _, rfl⟩ := List.mem_map.mp hy
    rfl
  have fi : ∀ (ws : List Int), ∀ x ∈ ws.map V.int, ∀ y ∈ ws.map V.int, Flt x y = true := fun ws x hx y hy => by
    obtain ⟨_, _, rfl⟩ := List.mem_map.mp hx
    obtain ⟨_, _, rfl⟩ := List.mem_map.mp hy
    rfl
  have wd : ∀ (w : Str), Eqs K H 1 (.str w) (.str w) true := fun w => by
    have := Eqs.flat (K := K) (H := H) (n := 1) (x := .str w) (y := .str w) rfl
    rw [decide_eq_true rfl] at this; exact this
  rcases h with ⟨w, c, ho, e1, e2⟩ | ⟨c, ho, e1, e2⟩
  · rcases h' with ⟨w', c', ho', e1', e2'⟩ | ⟨c', ho', e1', e2'⟩
    · rw [ho] at ho'
      cases ho'
      have t := Eqs.flats (K := K) (n := 0) (SqT.of e2) (SqT.of e2') (fs w)
      rw [decide_eq_true rfl] at t
      exact Eqs.pair (SqT.of e1) (SqT.of e1') (wd _) t
    · rw [ho] at ho'; cases ho'
  · rcases h' with ⟨w', c', ho', e1', e2'⟩ | ⟨c', ho', e1', e2'⟩
    · rw [ho] at ho'; cases ho'
    · have t := Eqs.flats (K := K) (n := 0) (SqT.of e2) (SqT.of e2') (fi _)
      rw [decide_eq_true rfl] at t
      exact Eqs.pair (SqT.of e1) (SqT.of e1') (wd _) t
theorem int_eqs {K : PySem.W.Frag} {H : Hp} {n : Nat} (i : Int) : Eqs K H n (.int i) (.int i) true := by
  have := Eqs.flat (K := K) (H := H) (n := n) (x := .int i) (y := .int i) rfl
  rw [decide_eq_true rfl] at this; exact this
theorem pcs_eqs {K : PySem.W.Frag} {H : Hp} {N : Nat} {ds : List Dd} {p q : Nat} {t t' : Addr} {rs rs' : List Addr} {L : List Pc} (e : H t = some (.tup (rs.map V.ref))) (e' : H t' = some (.tup (rs'.map V.ref))) (h : PcsAt H N ds p q rs L) (h' : PcsAt H N ds p q rs' L) : Eqs K H 4 (.ref t) (.ref t') true := by
  have := Eqs.seq (K := K) (n := 3) (ds := L) (es := L) (.inl ⟨SqT.of e, SqT.of e'⟩) (by rw [List.length_map, h.1]) (by rw [List.length_map, h'.1]) fun j x y d f hx hy hd hf => by
    obtain ⟨r, hr, rfl⟩ := map_some hx
    obtain ⟨r', hr', rfl⟩ := map_some hy
    rw [hd] at hf
    cases hf
    rw [decide_eq_true rfl]
    obtain ⟨pr, S, er, hs, hP⟩ := h.2 j r d hr hd
    obtain ⟨pr', S', er', hs', hP'⟩ := h'.2 j r' d hr' hd
    have eS : S = S' := hs.eq hs' (List.Perm.refl _)
    subst eS
    exact Eqs.three (SqT.of er) (SqT.of er') (int_eqs _) (int_eqs _) (paper_eqs hP hP')
  rw [decide_eq_true rfl] at this
  exact this
def spLaw (K : PySem.W.Frag) : Sp := fun vs H Q _ => ∃ (s : Addr) (ns : List Int), vs = [.ref s] ∧ SqL K H s (ns.map V.int) ∧ ns.length ≤ 63 ∧ ∀ H', Q (.bl true) H'
section
variable {P : Program} {w : World} {K : PySem.W.Frag} {mg : Str → Option Value} {base : Heap}
theorem scMoments : FnScope ["_law_deck_here", "_law_history_here", "_law_some", "_law_deed", "_law_pair"] ["_law_deck_here", "_law_history_here"] (defScope sMoments) := ⟨rfl, rfl, rfl, by decide +kernel, rfl, by decide +kernel, by decide +kernel⟩
theorem ok_Moments {f : Addr} {fd : FuncData} (F : Fun K "_law_moments" "_law_moments" sMoments f fd) (T : Txt mg)
    {gDraw : Addr} {fDraw : FuncData} (kDraw : PySem.W.keepIn K (.ref gDraw) = true) (bDraw : Binds K fDraw ["_law_deck_here", "_law_most"] []) (hDraw : mg "_law_draw" = some (.ref gDraw)) (GDraw : FnOk P w K mg base CX0 1 gDraw fDraw ["_law_deck_here", "_law_most"] spDraw) :
    FnOk P w K mg base CX0 2 f fd ["_law_deck_here", "_law_history_here"] spMoments := by
  refine F.ok scMoments (fun vs H Q E h => ?_) (fun cdv A outer s H vs Q E hr h => ?_)
  · obtain ⟨_, _, _, _, _, rfl, _⟩ := h; rfl
  · obtain ⟨d, h, N, ds, b, rfl, hD, hh, hR, k⟩ := h
    refine ⟨_, pss_cons (ps_set (i := 2) scMoments.nd rfl (Or.inl rfl) (pe_lst (pa_cons pe_int (pa_cons (pe_op op_pow pe_int pe_int) (pa_cons (pe_call GDraw hr rfl hDraw kDraw bDraw .nil pass0 (pa_cons (pv 0) (pa_cons (pe_op op_add (pe_op op_pow pe_int pe_int) pe_int) pa_nil))) (pa_cons (pe_call GDraw hr rfl hDraw kDraw bDraw .nil pass0 (pa_cons (pv 0) (pa_cons pe_int pa_nil))) pa_nil))))))
      (pss_cons (ps_for PassesOwn.never rfl (pi_tup (pe_ix ix_tup (pv 1) pe_int (fun _ _ => rfl))) (pg_name (i := 3) scMoments.nd rfl (Or.inl rfl)) (pss_one (ps_set (i := 2) scMoments.nd rfl (Or.inl rfl) (pe_op op_cat (pv 2) (pe_lst (pa_cons (pe_ix ix_tup (pv 3) pe_int (fun _ _ => rfl)) (pa_cons (pe_callB (call_max2 rfl) (by rfl) T.max (by decide +kernel) (pa_cons pe_int (pa_cons (pe_op op_sub (pe_ix ix_tup (pv 3) pe_int (fun _ _ => rfl)) pe_int) pa_nil))) (pa_cons (pe_callB (call_min2 rfl) (by rfl) T.min (by decide +kernel) (pa_cons (pe_op op_pow pe_int pe_int) (pa_cons (pe_op op_add (pe_ix ix_tup (pv 3) pe_int (fun _ _ => rfl)) pe_int) pa_nil))) pa_nil))))))))
      (pss_cons (ps_set (i := 4) scMoments.nd rfl (Or.inl rfl) (pe_lst (pa_cons (pe_ix ix_list (pv 2) (pe_call GDraw hr rfl hDraw kDraw bDraw .nil pass0 (pa_cons (pv 0) (pa_cons (pe_callB call_len_seq (by rfl) T.len PySem.boot_len (pa_cons (pv 2) pa_nil)) pa_nil))) (fun _ _ => rfl)) (pa_cons (pe_ix ix_list (pv 2) (pe_call GDraw hr rfl hDraw kDraw bDraw .nil pass0 (pa_cons (pv 0) (pa_cons (pe_callB call_len_seq (by rfl) T.len PySem.boot_len (pa_cons (pv 2) pa_nil)) pa_nil))) (fun _ _ => rfl)) pa_nil))))
      (pss_one (ps_ret (pe_tup (pa_cons (pe_callB (call_minL rfl) (by rfl) T.min (by decide +kernel) (pa_cons (pv 4) pa_nil)) (pa_cons (pe_callB (call_maxL rfl) (by rfl) T.max (by decide +kernel) (pa_cons (pv 4) pa_nil)) pa_nil))))))), ?_⟩
    have d60 := hR.len
    refine ⟨_, _, rfl, rfl, ⟨by decide, by decide, by decide⟩, _, rfl, _, _, rfl, rfl, ⟨by decide, by decide, by decide⟩, _, _, rfl, rfl, d, _, b + 3, rfl, hD, by decide, by decide, fun v H1 v0 v1 b1 D1 => ?_⟩
    refine ⟨_, rfl, d, 8, b + 2, rfl, D1, by decide, by decide, fun w H2 w0 w1 b2 D2 => ⟨small (by simp), fun l hl => ?_⟩⟩
    have sl := same_new (o := .lst [.int 0, .int (10 ^ (9 : Int).toNat), .int v, .int w]) hl
    have l3 : upd H2 l (.lst [.int 0, .int (10 ^ (9 : Int).toNat), .int v, .int w]) l = some (.lst (([0, 1000000000, v, w] : List Int).map V.int)) := upd_same
    have D3 := D2.same sl
    have nl := D2.ne hl
    have B3 : But d H (upd H2 l (.lst [.int 0, .int (10 ^ (9 : Int).toNat), .int v, .int w])) := (b1.trans b2).trans (But.of sl)
    generalize upd H2 l (.lst [.int 0, .int (10 ^ (9 : Int).toNat), .int v, .int w]) = H3 at sl l3 D3 B3 ⊢
    have hh3 : HistAt H3 h N ds := hh.mono fun r xs e => B3.tup hD e
    obtain ⟨tp, rs, eh, et, hdd⟩ := id hh3
    refine ⟨_, rfl, h, _, 1, _, rfl, rfl, SqT.of eh, atI_nat (j := 1) rfl, tp, rfl, ⟨_, SqT.of et⟩, for_tupH (K := K) (a := tp) (xs := rs.map V.ref) (fun i σ H5 => ∃ (l : Addr) (xs : List Int) (u3 u4 : Option V), σ = [some (.ref d), some (.ref h), some (.ref l), u3, u4] ∧ Same H3 H5 ∧ H5 l = some (.lst (xs.map V.int)) ∧ l ≠ d ∧ xs.length = 4 + 3 * i ∧ ∀ x ∈ xs, 0 ≤ x) ⟨l, [0, 1000000000, v, w], _, _, rfl, same_refl _, l3, nl, rfl, fun x hx => ?_⟩ (fun i σ H5 _ ⟨_, _, _, _, _, s, _⟩ => SqT.of (s _ _ et)) ?_ ?_⟩
    · simp only [List.mem_cons, List.not_mem_nil, or_false] at hx
      rcases hx with rfl | rfl | rfl | rfl <;> omega
    · rintro i x σ H5 hx ⟨l', xs, u3, u4, rfl, s5, l5, nl', xl, x0⟩ E5 hE5 _
      obtain ⟨r, hr', rfl⟩ := map_some hx
      obtain ⟨dd, hd, er⟩ := hdd.get hr'
      have hi : i < ds.length := (List.getElem?_eq_some_iff.mp hd).1
      have m0 := hR.mo dd (List.mem_of_getElem? hd)
      have er5 := s5 _ _ er
      refine ⟨_, rfl, _, rfl, r, _, 1, _, rfl, rfl, SqT.of er5, atI_nat (j := 1) (dvs1 dd), _, rfl, r, _, 1, _, rfl, rfl, SqT.of er5, atI_nat (j := 1) (dvs1 dd), _, _, rfl, rfl, _, _, rfl, _, _, rfl, rfl, ⟨by decide, by decide, by decide⟩, _, rfl, r, _, 1, _, rfl, rfl, SqT.of er5, atI_nat (j := 1) (dvs1 dd), _, _, rfl, rfl, _, _, rfl, small (by simp), fun n hn => ?_⟩
      have eL : ([.int dd.mo, .int (if dd.mo - 1 > 0 then dd.mo - 1 else 0), .int (if dd.mo + 1 < 10 ^ (9 : Int).toNat then dd.mo + 1 else 10 ^ (9 : Int).toNat)] : List V) = ([dd.mo, (if dd.mo - 1 > 0 then dd.mo - 1 else 0), (if dd.mo + 1 < 10 ^ (9 : Int).toNat then dd.mo + 1 else 10 ^ (9 : Int).toNat)] : List Int).map V.int := rfl
      rw [eL]
      have n0 : ∀ y ∈ ([dd.mo, (if dd.mo - 1 > 0 then dd.mo - 1 else 0), (if dd.mo + 1 < 10 ^ (9 : Int).toNat then dd.mo + 1 else 10 ^ (9 : Int).toNat)] : List Int), 0 ≤ y := fun y hy => by
        simp only [List.mem_cons, List.not_mem_nil, or_false] at hy
        rcases hy with rfl | rfl | rfl
        · exact m0.1
        · split <;> omega
        · split
          · omega
          · decide
      have nlen : ([dd.mo, (if dd.mo - 1 > 0 then dd.mo - 1 else 0), (if dd.mo + 1 < 10 ^ (9 : Int).toNat then dd.mo + 1 else 10 ^ (9 : Int).toNat)] : List Int).length = 3 := rfl
      generalize ([dd.mo, (if dd.mo - 1 > 0 then dd.mo - 1 else 0), (if dd.mo + 1 < 10 ^ (9 : Int).toNat then dd.mo + 1 else 10 ^ (9 : Int).toNat)] : List Int) = zs at n0 nlen ⊢
      have sn := same_new (o := .lst (zs.map V.int)) hn
      have n6 := upd_same (H := H5) (a := n) (o := .lst (zs.map V.int))
      have l6 := sn _ _ l5
      generalize upd H5 n (.lst (zs.map V.int)) = H6 at sn n6 l6 ⊢
      refine ⟨l', n, _, _, rfl, rfl, l6, n6, small (by rw [List.length_map, List.length_map]; omega), fun p hp => ?_⟩
      have sp := same_new (o := .lst (xs.map V.int ++ zs.map V.int)) hp
      have np : p ≠ d := (D3.same ((s5.trans sn))).ne hp
      refine hE5 _ _ ⟨p, xs ++ zs, _, _, rfl, (s5.trans sn).trans sp, by rw [upd_same, List.map_append], np, by rw [List.length_append]; omega, fun y hy => ?_⟩
      rcases List.mem_append.mp hy with h1 | h1
      · exact x0 y h1
      · exact n0 y h1
    rintro σ H5 ⟨l', xs, u3, u4, rfl, s5, l5, nl', xl, x0⟩
    have rl := hdd.1
    rw [List.length_map] at xl
    have D5 := D3.same s5
    refine ⟨_, rfl, _, rfl, _, rfl, l', _, rfl, .inl (SqL.of l5), d, _, b + 1, rfl, D5, by rw [List.length_map]; omega, by rw [List.length_map]; omega, fun y H6 y0 y1 b6 D6 => ?_⟩
    rw [List.length_map] at y1
    obtain ⟨y, rfl⟩ := nat_of y0
    have l6 := b6 _ _ l5 nl'
    have hy := getq (l := xs) (i := y) (by omega)
    refine ⟨l', _, _, .int xs[y], rfl, rfl, SqL.of l6, atI_nat (by rw [List.getElem?_map, hy]; rfl), ?_⟩
    refine ⟨_, rfl, _, rfl, _, rfl, l', _, rfl, .inl (SqL.of l6), d, _, b, rfl, D6, by rw [List.length_map]; omega, by rw [List.length_map]; omega, fun z H7 z0 z1 b7 D7 => ?_⟩
    rw [List.length_map] at z1
    obtain ⟨z, rfl⟩ := nat_of z0
    have l7 := b7 _ _ l6 nl'
    have hz := getq (l := xs) (i := z) (by omega)
    refine ⟨l', _, _, .int xs[z], rfl, rfl, SqL.of l7, atI_nat (by rw [List.getElem?_map, hz]; rfl), small (by simp), fun pr hpr => ?_⟩
    have a0 := x0 _ (List.mem_of_getElem? hy)
    have c0 := x0 _ (List.mem_of_getElem? hz)
    generalize xs[y] = v1 at a0 ⊢
    generalize xs[z] = v2 at c0 ⊢
    have sp := same_new (o := .lst [.int v1, .int v2]) hpr
    have p8 : upd H7 pr (.lst [.int v1, .int v2]) pr = some (.lst (([v1, v2] : List Int).map V.int)) := upd_same
    have D8 := D7.same sp
    generalize upd H7 pr (.lst [.int v1, .int v2]) = H8 at sp p8 D8 ⊢
    refine ⟨_, rfl, pr, [v1, v2], rfl, SqL.of p8, by simp, fun lo lom lol => ?_⟩
    refine ⟨_, rfl, pr, [v1, v2], rfl, SqL.of p8, by simp, fun hi him hih => ⟨small (by simp), fun r hr' => ?_⟩⟩
    have sr := same_new (o := .tup [.int lo, .int hi]) hr'
    refine k r lo hi _ (B3.trans ((But.of s5).trans ((b6.trans b7).trans (But.of (sp.trans sr))))) (D8.same sr) upd_same ?_ (hih lo lom)
    simp only [List.mem_cons, List.not_mem_nil, or_false] at lom
    rcases lom with rfl | rfl <;> omega
theorem scCount : FnScope ["_law_history_here", "_law_moment"] ["_law_history_here", "_law_moment"] (defScope sCount) := ⟨rfl, rfl, rfl, by decide +kernel, rfl, by decide +kernel, by decide +kernel⟩
theorem ok_Count {f : Addr} {fd : FuncData} (F : Fun K "_law_count" "_law_count" sCount f fd) (T : Txt mg) :
    FnOk P w K mg base CX0 1 f fd ["_law_history_here", "_law_moment"] spCount := by
  refine F.ok scCount (fun vs H Q E h => ?_) (fun cdv A outer s H vs Q E hr h => ?_)
  · obtain ⟨_, _, _, _, rfl, _⟩ := h; rfl
  · obtain ⟨h, N, ds, m, rfl, hh, d60, k⟩ := h
    refine ⟨_, pss_one (ps_ret (pe_callB call_len_seq (by rfl) T.len PySem.boot_len (pa_cons (pe_comp (T := ["_law_deed"]) (F := ["_law_moment"]) (js := [1]) (CS.to (osc := defScope sCount) ⟨by rfl, by decide +kernel, by decide +kernel, by decide +kernel, by decide +kernel, by decide +kernel, by decide +kernel⟩ rfl rfl) rfl (pi_tup (pe_ix ix_tup (pv 0) pe_int (fun _ _ => rfl))) (fun _ _ _ _ _ => pg_name (i := 0) (show (["_law_deed", "_law_moment"] : List Str).Nodup by decide +kernel) rfl (Or.inl rfl)) (fun _ _ _ _ _ => pif_one (pt_cmpR op_le (pe_ix (r := rIxT K) ix_tup (pv 0) pe_int (fun _ _ => rfl)) (pv 1) (nomark _))) (fun _ _ _ _ _ => pv 0)) pa_nil))), ?_⟩
    obtain ⟨tp, rs, eh, et, hdd⟩ := id hh
    refine ⟨_, rfl, h, _, 1, _, rfl, rfl, SqT.of eh, atI_nat (j := 1) rfl, tp, rfl, ⟨_, SqT.of et⟩, fun D hD => comp_tup (K := K) (a := tp) (xs := rs.map V.ref) (fun j σ ys H6 => ∃ (u : Option V) (fs : List Addr), σ = [u, some (.int m)] ∧ ys = fs.map V.ref ∧ H6 = upd H D (.lst ys) ∧ fs.length = ((ds.take j).filter fun d => decide (d.mo ≤ m)).length) ⟨none, [], rfl, rfl, rfl, rfl⟩ (fun j σ ys H6 _ ⟨_, _, _, _, e, _⟩ => by rw [e]; exact ⟨SqT.of (by rw [upd_ne (ne_of_none et hD)]; exact et), upd_same⟩) ?_ ?_⟩
    · rintro j x σ ys H6 hx ⟨u, fs, rfl, rfl, rfl, fl⟩
      obtain ⟨r, hr', rfl⟩ := map_some hx
      obtain ⟨d, hd, er⟩ := hdd.get hr'
      have er6 := same_new (o := .lst (fs.map V.ref)) hD _ _ er
      have tk := take_snoc hd
      have fl60 : fs.length ≤ 60 := by
        have := List.length_filter_le (fun d : Dd => decide (d.mo ≤ m)) (ds.take j)
        rw [List.length_take] at this
        omega
      refine ⟨_, rfl, r, _, 1, _, rfl, rfl, SqT.of er6, atI_nat (j := 1) (dvs1 d), _, rfl, _, _, rfl, rfl, _, rfl, ?_⟩
      by_cases g : d.mo ≤ m
      · rw [decide_eq_true g]
        refine iteT ⟨_, rfl, upd_same, small1000 (by rw [List.length_map]; exact Nat.le_trans (by assumption) (by decide)), _, fs ++ [r], rfl, by rw [List.map_append]; rfl, by rw [upd_upd], ?_⟩
        rw [tk, List.filter_append, List.length_append, List.length_append, fl, List.filter_cons_of_pos (by simpa using g)]; rfl
      · rw [decide_eq_false g]
        refine iteF ⟨_, fs, rfl, rfl, rfl, ?_⟩
        rw [tk, List.filter_append, List.length_append, fl, List.filter_cons_of_neg (by simpa using g)]; rfl
    · rintro σ ys H6 ⟨u, fs, rfl, rfl, rfl, fl⟩
      rw [List.length_map, hdd.1, List.take_length] at fl
      refine ⟨D, _, rfl, .inl (SqL.of upd_same), ?_⟩
      have := k _ (same_new (o := .lst (fs.map V.ref)) hD)
      unfold cntF at this
      rw [← fl] at this
      rw [List.length_map]
      exact this
theorem scLWithin : FnScope ["_law_history_here", "_law_low", "_law_high"] ["_law_history_here", "_law_low", "_law_high"] (defScope sLWithin) := ⟨rfl, rfl, rfl, by decide +kernel, rfl, by decide +kernel, by decide +kernel⟩
theorem ok_LWithin {f : Addr} {fd : FuncData} (F : Fun K "_law_within" "_law_within" sLWithin f fd) (T : Txt mg) :
    FnOk P w K mg base CX0 1 f fd ["_law_history_here", "_law_low", "_law_high"] spLWithin := by
  refine F.ok scLWithin (fun vs H Q E h => ?_) (fun cdv A outer s H vs Q E hr h => ?_)
  · obtain ⟨_, _, _, _, _, rfl, _⟩ := h; rfl
  · obtain ⟨h, N, ds, lo, hi, rfl, hh, d60, no, k⟩ := h
    refine ⟨_, pss_one (ps_ret (pe_op op_cat (pe_lst (pa_cons (pv 1) pa_nil)) (pe_sortsetL rfl (pe_comp (T := ["_law_deed"]) (F := ["_law_low", "_law_high"]) (js := [1, 2]) (CS.to (osc := defScope sLWithin) ⟨by rfl, by decide +kernel, by decide +kernel, by decide +kernel, by decide +kernel, by decide +kernel, by decide +kernel⟩ rfl rfl) rfl (pi_tup (pe_ix ix_tup (pv 0) pe_int (fun _ _ => rfl))) (fun _ _ _ _ _ => pg_name (i := 0) (show (["_law_deed", "_law_low", "_law_high"] : List Str).Nodup by decide +kernel) rfl (Or.inl rfl)) (fun _ _ _ _ _ => pif_one (pt_chain op_lt op_lt (pv 1) (pe_ix (r := rIxT K) ix_tup (pv 0) pe_int (fun _ _ => rfl)) (pv 2))) (fun _ _ _ _ _ => pe_ix (r := rIxT K) ix_tup (pv 0) pe_int (fun _ _ => rfl))) rfl T.sorted rfl T.set))), ?_⟩
    refine ⟨_, rfl, small (by simp), fun c hc => ?_⟩
    have sc := same_new (o := .lst [.int lo]) hc
    have c1 := upd_same (H := H) (a := c) (o := .lst [.int lo])
    have hh1 := hh.same sc
    generalize upd H c (.lst [.int lo]) = H1 at sc c1 hh1 ⊢
    obtain ⟨tp, rs, eh, et, hdd⟩ := id hh1
    refine ⟨_, rfl, h, _, 1, _, rfl, rfl, SqT.of eh, atI_nat (j := 1) rfl, tp, rfl, ⟨_, SqT.of et⟩, fun D hD => comp_tup (K := K) (a := tp) (xs := rs.map V.ref) (fun j σ ys H6 => ∃ (u : Option V), σ = [u, some (.int lo), some (.int hi)] ∧ ys = [] ∧ H6 = upd H1 D (.lst [])) ⟨none, rfl, rfl, rfl⟩ (fun j σ ys H6 _ ⟨_, _, e1, e⟩ => by rw [e, e1]; exact ⟨SqT.of (by rw [upd_ne (ne_of_none et hD)]; exact et), upd_same⟩) ?_ ?_⟩
    · rintro j x σ ys H6 hx ⟨u, rfl, rfl, rfl⟩
      obtain ⟨r, hr', rfl⟩ := map_some hx
      obtain ⟨d, hd, er⟩ := hdd.get hr'
      have er6 := same_new (o := .lst []) hD _ _ er
      have nod := no d (List.mem_of_getElem? hd)
      refine ⟨_, rfl, _, rfl, r, _, 1, _, rfl, rfl, SqT.of er6, atI_nat (j := 1) (dvs1 d), _, _, rfl, rfl, _, rfl, ?_⟩
      by_cases g : lo < d.mo
      · rw [decide_eq_true g]
        refine iteT ⟨_, rfl, _, _, rfl, rfl, _, rfl, ?_⟩
        rw [decide_eq_false (fun g2 => nod ⟨g, g2⟩)]
        exact iteF ⟨_, rfl, rfl, rfl⟩
      · rw [decide_eq_false g]
        exact iteF ⟨_, rfl, iteF ⟨_, rfl, rfl, rfl⟩⟩
    · rintro σ ys H6 ⟨u, rfl, rfl, rfl⟩
      have sD := same_new (o := .lst []) hD
      have D6 : upd H1 D (.lst []) D = some (.lst (([] : List Int).map V.int)) := upd_same
      generalize upd H1 D (.lst []) = H6 at sD D6 ⊢
      refine ⟨D, [], rfl, SqL.of D6, by decide, fun l ms hl _ mem => ?_⟩
      have em : ms = [] := by
        cases ms with
        | nil => rfl
        | cons m ms => exact absurd ((mem m).mp (List.mem_cons_self ..)) (by simp)
      subst em
      have sl := same_new (o := .lst (([] : List Int).map V.int)) hl
      have l7 := upd_same (H := H6) (a := l) (o := .lst (([] : List Int).map V.int))
      generalize upd H6 l (.lst (([] : List Int).map V.int)) = H7 at sl l7 ⊢
      refine ⟨c, l, _, _, rfl, rfl, sl _ _ (sD _ _ c1), l7, small (by simp), fun p hp => ?_⟩
      exact k p _ (((sc.trans sD).trans sl).trans (same_new hp)) upd_same
theorem scPieceR : FnScope ["_law_history_here", "_law_pair", "_law_piece", "_law_moment", "_law_stand"] ["_law_history_here", "_law_pair", "_law_piece"] (defScope sPieceR) := ⟨rfl, rfl, rfl, by decide +kernel, rfl, by decide +kernel, by decide +kernel⟩
theorem ok_PieceR {f : Addr} {fd : FuncData} (F : Fun K "_law_piece_right" "_law_piece_right" sPieceR f fd) (T : Txt mg)
    {gLWithin : Addr} {fLWithin : FuncData} (kLWithin : PySem.W.keepIn K (.ref gLWithin) = true) (bLWithin : Binds K fLWithin ["_law_history_here", "_law_low", "_law_high"] []) (hLWithin : mg "_law_within" = some (.ref gLWithin)) (GLWithin : FnOk P w K mg base CX0 2 gLWithin fLWithin ["_law_history_here", "_law_low", "_law_high"] spLWithin)
    {gCount : Addr} {fCount : FuncData} (kCount : PySem.W.keepIn K (.ref gCount) = true) (bCount : Binds K fCount ["_law_history_here", "_law_moment"] []) (hCount : mg "_law_count" = some (.ref gCount)) (GCount : FnOk P w K mg base CX0 2 gCount fCount ["_law_history_here", "_law_moment"] spCount)
    {gLStand : Addr} {fLStand : FuncData} (kLStand : PySem.W.keepIn K (.ref gLStand) = true) (bLStand : Binds K fLStand ["_law_history_here", "_law_n"] []) (hLStand : mg "_law_stand_behind" = some (.ref gLStand)) (GLStand : FnOk P w K mg base CX0 2 gLStand fLStand ["_law_history_here", "_law_n"] spLStand)
    {gPaperR : Addr} {fPaperR : FuncData} (kPaperR : PySem.W.keepIn K (.ref gPaperR) = true) (bPaperR : Binds K fPaperR ["_law_many_here", "_law_stand", "_law_one", "_law_other", "_law_thing"] []) (hPaperR : mg "_law_paper_right" = some (.ref gPaperR)) (GPaperR : FnOk P w K mg base CX0 2 gPaperR fPaperR ["_law_many_here", "_law_stand", "_law_one", "_law_other", "_law_thing"] spPaperR) :
    FnOk P w K mg base CX0 3 f fd ["_law_history_here", "_law_pair", "_law_piece"] spPieceR := by
  refine F.ok scPieceR (fun vs H Q E h => ?_) (fun cdv A outer s H vs Q E hr h => ?_)
  · obtain ⟨_, _, _, _, _, _, _, _, rfl, _⟩ := h; rfl
  · obtain ⟨h, pa, r, N, ds, p, q, x, rfl, hh, hR, N60, pN, qN, epa, ⟨pr, S, er, hs, hP⟩, xc, xno, k⟩ := h
    refine ⟨_, pss_cons (ps_for PassesOwn.never rfl (pi_list (pe_call GLWithin hr rfl hLWithin kLWithin bLWithin .nil pass0 (pa_cons (pv 0) (pa_cons (pe_ix ix_tup (pv 2) pe_int (fun _ _ => rfl)) (pa_cons (pe_ix ix_tup (pv 2) pe_int (fun _ _ => rfl)) pa_nil))))) (pg_name (i := 3) scPieceR.nd rfl (Or.inl rfl)) (pss_cons (ps_set (i := 4) scPieceR.nd rfl (Or.inl rfl) (pe_call GLStand hr rfl hLStand kLStand bLStand .nil pass0 (pa_cons (pv 0) (pa_cons (pe_call GCount hr rfl hCount kCount bCount .nil pass0 (pa_cons (pv 0) (pa_cons (pv 3) pa_nil))) pa_nil))))
      (pss_one (ps_if (pt_not (pt_val (pe_call GPaperR hr rfl hPaperR kPaperR bPaperR .nil pass0 (pa_cons (pe_ix ix_tup (pv 0) pe_int (fun _ _ => rfl)) (pa_cons (pv 4) (pa_cons (pe_ix ix_tup (pv 1) pe_int (fun _ _ => rfl)) (pa_cons (pe_ix ix_tup (pv 1) pe_int (fun _ _ => rfl)) (pa_cons (pe_ix ix_tup (pv 2) pe_int (fun _ _ => rfl)) pa_nil)))))))) (pss_one (ps_ret pe_bl)) pss_nil))))
      (pss_one (ps_ret pe_bl)), ?_⟩
    have d60 := hR.len
    refine ⟨_, rfl, _, rfl, r, _, 0, _, rfl, rfl, SqT.of er, atI_nat (j := 0) rfl, _, rfl, r, _, 1, _, rfl, rfl, SqT.of er, atI_nat (j := 1) rfl, h, N, ds, x.1, x.2.1, rfl, hh, d60, xno, fun l H1 s1 el => ?_⟩
    refine ⟨l, rfl, ⟨_, SqL.of el⟩, for_listH (K := K) (a := l) (xs := [.int x.1]) (fun i σ H5 => ∃ (u3 u4 : Option V), σ = [some (.ref h), some (.ref pa), some (.ref r), u3, u4] ∧ Same H1 H5) ⟨_, _, rfl, same_refl _⟩ (fun i σ H5 _ ⟨_, _, _, s⟩ => SqL.of (s _ _ el)) ?_ ?_⟩
    · rintro i z σ H5 hz ⟨u3, u4, rfl, s5⟩ E5 hE5 _
      have ez : z = .int x.1 := by
        have := List.mem_of_getElem? hz
        simpa using this
      subst ez
      have S5 := s1.trans s5
      refine ⟨_, rfl, _, rfl, _, rfl, h, N, ds, x.1, rfl, hh.same S5, d60, fun H6 s6 => ?_⟩
      have S6 := S5.trans s6
      refine ⟨h, N, ds, cntF ds x.1, rfl, hh.same S6, hR, cnt_le ds _, fun st S2 H7 s7 hst hs2 => ?_⟩
      rw [← xc] at hs2
      have eS : S2 = S := hs2.eq hs (List.Perm.refl _)
      subst eS
      have S7 := S6.trans s7
      obtain ⟨SN, snd, Sl⟩ := srtd_in hR (by rw [xc]; exact cnt_le ds _) hs
      obtain ⟨tp, rs, eh, et, hdd⟩ := hh.same S7
      have er7 := S7 _ _ er
      have ep7 := S7 _ _ epa
      refine ⟨_, rfl, h, _, 0, _, rfl, rfl, SqT.of eh, atI_nat (j := 0) rfl, _, rfl, _, rfl, pa, _, 0, _, rfl, rfl, SqT.of ep7, atI_nat (j := 0) rfl, _, rfl, pa, _, 1, _, rfl, rfl, SqT.of ep7, atI_nat (j := 1) rfl, _, rfl, r, _, 2, _, rfl, rfl, SqT.of er7, atI_nat (j := 2) rfl, N, st, pr, S2, p, q, rfl, hst, SN, N60, by exact Nat.le_trans (by assumption) (by decide), snd, pN, qN, hP.mono fun a xs => S7 a (.tup xs), fun H8 s8 => ⟨_, rfl, iteF ?_⟩⟩
      exact hE5 _ _ ⟨_, _, rfl, s5.trans (s6.trans (s7.trans s8))⟩
    · rintro σ H5 ⟨u3, u4, rfl, s5⟩
      exact k H5 (s1.trans s5)
theorem scLWhole : FnScope ["_law_thing"] ["_law_thing"] (defScope sLWhole) := ⟨rfl, rfl, rfl, by decide +kernel, rfl, by decide +kernel, by decide +kernel⟩
theorem ok_LWhole {f : Addr} {fd : FuncData} (F : Fun K "_law_whole" "_law_whole" sLWhole f fd) (T : Txt mg) :
    FnOk P w K mg base CX0 1 f fd ["_law_thing"] spLWhole := by
  refine F.ok scLWhole (fun vs H Q E h => ?_) (fun cdv A outer s H vs Q E hr h => ?_)
  · obtain ⟨_, rfl, _⟩ := h; rfl
  · obtain ⟨i, rfl, k⟩ := h
    refine ⟨_, pss_one (ps_ret (pe_and (pe_callB call_isi (by rfl) T.isinstance (by decide +kernel) (pa_cons (pv 0) (pa_cons (pe_ty (T := "int") (by rfl) T.int (by decide +kernel)) pa_nil))) (pe_one (pe_not (pe_callB call_isi (by rfl) T.isinstance (by decide +kernel) (pa_cons (pv 0) (pa_cons (pe_ty (T := "bool") (by rfl) T.bool (by decide +kernel)) pa_nil))))))), ?_⟩
    exact ⟨_, rfl, .int i, .type "int", "int", true, rfl, .int i, rfl, _, rfl, iteT ⟨_, rfl, .int i, .type "int", "bool", false, rfl, .int i, rfl, _, rfl, k⟩⟩
end
end K65
set_option maxHeartbeats 4000000
namespace K65
open PySem L2 Wk
section
variable {P : Program} {w : World} {K : PySem.W.Frag} {mg : Str → Option Value} {base : Heap}
theorem scThroughR : FnScope ["_law_history_here", "_law_pair", "_law_low", "_law_high", "_law_thing", "_law_here", "_law_piece"] ["_law_history_here", "_law_pair", "_law_low", "_law_high", "_law_thing"] (defScope sThroughR) := ⟨rfl, rfl, rfl, by decide +kernel, rfl, by decide +kernel, by decide +kernel⟩
theorem ok_ThroughR {f : Addr} {fd : FuncData} (F : Fun K "_law_through_right" "_law_through_right" sThroughR f fd) (T : Txt mg)
    {gLWhole : Addr} {fLWhole : FuncData} (kLWhole : PySem.W.keepIn K (.ref gLWhole) = true) (bLWhole : Binds K fLWhole ["_law_thing"] []) (hLWhole : mg "_law_whole" = some (.ref gLWhole)) (GLWhole : FnOk P w K mg base CX0 3 gLWhole fLWhole ["_law_thing"] spLWhole)
    {gPieceR : Addr} {fPieceR : FuncData} (kPieceR : PySem.W.keepIn K (.ref gPieceR) = true) (bPieceR : Binds K fPieceR ["_law_history_here", "_law_pair", "_law_piece"] []) (hPieceR : mg "_law_piece_right" = some (.ref gPieceR)) (GPieceR : FnOk P w K mg base CX0 3 gPieceR fPieceR ["_law_history_here", "_law_pair", "_law_piece"] spPieceR) :
    FnOk P w K mg base CX0 4 f fd ["_law_history_here", "_law_pair", "_law_low", "_law_high", "_law_thing"] spThroughR := by
  refine F.ok scThroughR (fun vs H Q E h => ?_) (fun cdv A outer s H vs Q E hr h => ?_)
  · obtain ⟨_, _, _, _, _, _, _, _, _, _, rfl, _⟩ := h; rfl
  · obtain ⟨h, pa, t, N, ds, p, q, low, high, rs, rfl, hh, hR, N60, pN, qN, l0, lh, epa, et, R, k⟩ := h
    refine ⟨_, pss_cons (ps_if (pt_not (pt_val (pe_callB call_isi (by rfl) T.isinstance (by decide +kernel) (pa_cons (pv 4) (pa_cons (pe_ty (T := "tuple") (by rfl) T.tuple (by decide +kernel)) pa_nil))))) (pss_one (ps_ret pe_bl)) pss_nil)
      (pss_cons (ps_set (i := 5) scThroughR.nd rfl (Or.inl rfl) (pv 2))
      (pss_cons (ps_for PassesOwn.never rfl (pi_tup (pv 4)) (pg_name (i := 6) scThroughR.nd rfl (Or.inl rfl)) (pss_cons (ps_if (PW.pt (pw_or (pt_not (pt_val (pe_callB call_isi (by rfl) T.isinstance (by decide +kernel) (pa_cons (pv 6) (pa_cons (pe_ty (T := "tuple") (by rfl) T.tuple (by decide +kernel)) pa_nil))))) (pw_or (pt_cmpR op_ne (pe_callB call_len_seq (by rfl) T.len PySem.boot_len (pa_cons (pv 6) pa_nil)) pe_int (nomark _)) (pw_or (pt_not (pt_val (pe_call GLWhole hr rfl hLWhole kLWhole bLWhole .nil pass0 (pa_cons (pe_ix ix_tup (pv 6) pe_int (fun _ _ => rfl)) pa_nil)))) (pw_or1 (pt_not (pt_val (pe_call GLWhole hr rfl hLWhole kLWhole bLWhole .nil pass0 (pa_cons (pe_ix ix_tup (pv 6) pe_int (fun _ _ => rfl)) pa_nil))))))))) (pss_one (ps_ret pe_bl)) pss_nil)
      (pss_cons (ps_if (PW.pt (pw_or (pt_cmpR op_ne (pe_ix ix_tup (pv 6) pe_int (fun _ _ => rfl)) (pv 5) (nomark _)) (pw_or (pt_cmpR op_le (pe_ix ix_tup (pv 6) pe_int (fun _ _ => rfl)) (pv 5) (nomark _)) (pw_or (pt_cmpR op_gt (pe_ix ix_tup (pv 6) pe_int (fun _ _ => rfl)) (pv 3) (nomark _)) (pw_or1 (pt_not (pt_val (pe_call GPieceR hr rfl hPieceR kPieceR bPieceR .nil pass0 (pa_cons (pv 0) (pa_cons (pv 1) (pa_cons (pv 6) pa_nil))))))))))) (pss_one (ps_ret pe_bl)) pss_nil)
      (pss_one (ps_set (i := 5) scThroughR.nd rfl (Or.inl rfl) (pe_ix ix_tup (pv 6) pe_int (fun _ _ => rfl)))))))
      (pss_one (ps_ret (pe_cmpR op_eq (pv 5) (pv 3) (nomark _)))))), ?_⟩
    have TT := tiles_of hR l0 lh
    refine ⟨_, rfl, .ref t, .type "tuple", "tuple", true, rfl, .tup et, rfl, _, rfl, iteF ?_⟩
    dsimp only [tNext]
    refine ⟨_, rfl, ?_⟩
    refine ⟨_, rfl, t, rfl, ⟨_, SqT.of et⟩, for_tupH (K := K) (a := t) (xs := rs.map V.ref) (fun i σ H5 => ∃ (u6 : Option V), σ = [some (.ref h), some (.ref pa), some (.int low), some (.int high), some (.ref t), some (.int (if i = 0 then low else (((pcsF low high (strF ds))[i - 1]?).map fun p => p.2.1).getD 0)), u6] ∧ Same H H5) ⟨_, rfl, same_refl _⟩ (fun i σ H5 _ ⟨_, _, s⟩ => SqT.of (s _ _ et)) ?_ ?_⟩
    · rintro i z σ H5 hz ⟨u6, rfl, s5⟩ E5 hE5 _
      obtain ⟨r, hr', rfl⟩ := map_some hz
      obtain ⟨x, hx, hPc⟩ := rows_get R hr'
      obtain ⟨g1, g2, g3⟩ := tiles_at TT hx
      obtain ⟨_, xc, xno⟩ := pcs_ok hR (List.mem_of_getElem? hx)
      have hPc5 := hPc.mono fun a xs => s5 a (.tup xs)
      obtain ⟨pr, S, er, hs, hP⟩ := id hPc5
      rw [← g1]
      refine ⟨_, rfl, .ref r, .type "tuple", "tuple", true, rfl, .tup er, rfl, _, rfl, iteF ?_⟩
      refine ⟨_, rfl, r, _, rfl, .inr (SqT.of er), rfl, _, rfl, ite2 (fun g => absurd g (by simp)) fun _ => ?_⟩
      refine ⟨_, rfl, r, _, 0, _, rfl, rfl, SqT.of er, atI_nat (j := 0) rfl, x.1, rfl, _, rfl, iteF ?_⟩
      refine ⟨_, rfl, r, _, 1, _, rfl, rfl, SqT.of er, atI_nat (j := 1) rfl, x.2.1, rfl, _, rfl, iteF ?_⟩
      dsimp only [tNext]
      refine ⟨_, rfl, r, _, 0, _, rfl, rfl, SqT.of er, atI_nat (j := 0) rfl, _, rfl, rfl, _, rfl, ite2 (fun g => absurd g (by simp)) fun _ => ?_⟩
      refine ⟨_, rfl, r, _, 1, _, rfl, rfl, SqT.of er, atI_nat (j := 1) rfl, _, rfl, _, _, rfl, rfl, _, rfl, ite2 (fun g => absurd (of_decide_eq_true g) (by omega)) fun _ => ?_⟩
      refine ⟨_, rfl, r, _, 1, _, rfl, rfl, SqT.of er, atI_nat (j := 1) rfl, _, rfl, _, _, rfl, rfl, _, rfl, ite2 (fun g => absurd (of_decide_eq_true g) (by omega)) fun _ => ?_⟩
      refine ⟨_, rfl, _, rfl, _, rfl, h, pa, r, N, ds, p, q, x, rfl, hh.same s5, hR, N60, pN, qN, s5 _ _ epa, hPc5, xc, xno, fun H6 s6 => ⟨_, rfl, iteF ?_⟩⟩
      dsimp only [tNext]
      refine ⟨_, rfl, r, _, 1, _, rfl, rfl, SqT.of (s6 _ _ er), atI_nat (j := 1) rfl, hE5 _ _ ⟨some (.ref r), ?_, s5.trans s6⟩⟩
      rw [if_neg (by omega), Nat.add_sub_cancel, hx]; rfl
    · rintro σ H5 ⟨u6, rfl, s5⟩
      rw [List.length_map, R.1, tiles_end TT]
      refine ⟨_, rfl, _, rfl, rfl, ?_⟩
      rw [decide_eq_true rfl]
      exact k H5 s5
theorem scLaw : FnScope ["_law_script", "_law_k", "_law_deck_here", "_law_history_here", "_law_many_here", "_law_deeds", "_law_turn", "_law_pair", "_law_low", "_law_high", "_law_end", "_law_told"] ["_law_script"] (defScope sLaw) := ⟨rfl, rfl, rfl, by decide +kernel, rfl, by decide +kernel, by decide +kernel⟩
theorem ok_Law {f : Addr} {fd : FuncData} (F : Fun K "law" "law" sLaw f fd) (T : Txt mg)
    {gDraw : Addr} {fDraw : FuncData} (kDraw : PySem.W.keepIn K (.ref gDraw) = true) (bDraw : Binds K fDraw ["_law_deck_here", "_law_most"] []) (hDraw : mg "_law_draw" = some (.ref gDraw)) (GDraw : FnOk P w K mg base CX0 6 gDraw fDraw ["_law_deck_here", "_law_most"] spDraw)
    {gDeck : Addr} {fDeck : FuncData} (kDeck : PySem.W.keepIn K (.ref gDeck) = true) (bDeck : Binds K fDeck ["_law_script", "_law_k"] []) (hDeck : mg "_law_deck" = some (.ref gDeck)) (GDeck : FnOk P w K mg base CX0 6 gDeck fDeck ["_law_script", "_law_k"] (spDeck K))
    {gHistory : Addr} {fHistory : FuncData} (kHistory : PySem.W.keepIn K (.ref gHistory) = true) (bHistory : Binds K fHistory ["_law_deck_here", "_law_most"] []) (hHistory : mg "_law_history" = some (.ref gHistory)) (GHistory : FnOk P w K mg base CX0 6 gHistory fHistory ["_law_deck_here", "_law_most"] spHistory)
    {gMoments : Addr} {fMoments : FuncData} (kMoments : PySem.W.keepIn K (.ref gMoments) = true) (bMoments : Binds K fMoments ["_law_deck_here", "_law_history_here"] []) (hMoments : mg "_law_moments" = some (.ref gMoments)) (GMoments : FnOk P w K mg base CX0 6 gMoments fMoments ["_law_deck_here", "_law_history_here"] spMoments)
    {gThrough : Addr} {fThrough : FuncData} (kThrough : PySem.W.keepIn K (.ref gThrough) = true) (bThrough : Binds K fThrough ["history", "one", "other", "low", "high"] []) (hThrough : mg "papers_through" = some (.ref gThrough)) (GThrough : FnOk P w K mg base CX0 6 gThrough fThrough ["history", "one", "other", "low", "high"] spThrough)
    {gThroughR : Addr} {fThroughR : FuncData} (kThroughR : PySem.W.keepIn K (.ref gThroughR) = true) (bThroughR : Binds K fThroughR ["_law_history_here", "_law_pair", "_law_low", "_law_high", "_law_thing"] []) (hThroughR : mg "_law_through_right" = some (.ref gThroughR)) (GThroughR : FnOk P w K mg base CX0 6 gThroughR fThroughR ["_law_history_here", "_law_pair", "_law_low", "_law_high", "_law_thing"] spThroughR) :
    FnOk P w K mg base CX0 7 f fd ["_law_script"] (spLaw K) := by
  refine F.ok scLaw (fun vs H Q E h => ?_) (fun cdv A outer s H vs Q E hr h => ?_)
  · obtain ⟨_, _, rfl, _⟩ := h; rfl
  · obtain ⟨s, ns, rfl, hS, hl, k⟩ := h
    refine ⟨_, pss_cons (ps_for PassesOwn.never rfl (pi_range1 rfl T.range (pa_cons (pe_callB (call_max2 rfl) (by rfl) T.max (by decide +kernel) (pa_cons pe_int (pa_cons (pe_callB (call_min2 rfl) (by rfl) T.min (by decide +kernel) (pa_cons pe_int (pa_cons (pe_callB call_len_seq (by rfl) T.len PySem.boot_len (pa_cons (pv 0) pa_nil)) pa_nil))) pa_nil))) pa_nil)) (pg_name (i := 1) scLaw.nd rfl (Or.inl rfl)) (pss_cons (ps_set (i := 2) scLaw.nd rfl (Or.inl rfl) (pe_call GDeck hr rfl hDeck kDeck bDeck .nil pass0 (pa_cons (pv 0) (pa_cons (pv 1) pa_nil))))
      (pss_cons (ps_set (i := 3) scLaw.nd rfl (Or.inl rfl) (pe_call GHistory hr rfl hHistory kHistory bHistory .nil pass0 (pa_cons (pv 2) (pa_cons pe_int pa_nil))))
      (pss_cons (ps_asg (pv 3) (pg_tup rfl (pgs_cons (pg_name (i := 4) scLaw.nd rfl (Or.inl rfl)) (pgs_cons (pg_name (i := 5) scLaw.nd rfl (Or.inl rfl)) pgs_nil))))
      (pss_one (ps_for PassesOwn.never rfl (pi_range1 rfl T.range (pa_cons pe_int pa_nil)) (pg_name (i := 6) scLaw.nd rfl (Or.inl rfl)) (pss_cons (ps_set (i := 7) scLaw.nd rfl (Or.inl rfl) (pe_tup (pa_cons (pe_call GDraw hr rfl hDraw kDraw bDraw .nil pass0 (pa_cons (pv 2) (pa_cons (pv 4) pa_nil))) (pa_cons (pe_call GDraw hr rfl hDraw kDraw bDraw .nil pass0 (pa_cons (pv 2) (pa_cons (pv 4) pa_nil))) pa_nil))))
      (pss_cons (ps_asg (pe_call GMoments hr rfl hMoments kMoments bMoments .nil pass0 (pa_cons (pv 2) (pa_cons (pv 3) pa_nil))) (pg_tup rfl (pgs_cons (pg_name (i := 8) scLaw.nd rfl (Or.inl rfl)) (pgs_cons (pg_name (i := 9) scLaw.nd rfl (Or.inl rfl)) pgs_nil))))
      (pss_one (ps_for PassesOwn.never rfl (pi_list (pe_lst (pa_cons (pv 9) (pa_cons (pv 8) pa_nil)))) (pg_name (i := 10) scLaw.nd rfl (Or.inl rfl)) (pss_cons (ps_set (i := 11) scLaw.nd rfl (Or.inl rfl) (pe_call GThrough hr rfl hThrough kThrough bThrough .nil pass0 (pa_cons (pv 3) (pa_cons (pe_ix ix_tup (pv 7) pe_int (fun _ _ => rfl)) (pa_cons (pe_ix ix_tup (pv 7) pe_int (fun _ _ => rfl)) (pa_cons (pv 8) (pa_cons (pv 10) pa_nil)))))))
      (pss_cons (ps_if (PW.pt (pw_or (pt_not (pt_val (pe_call GThroughR hr rfl hThroughR kThroughR bThroughR .nil pass0 (pa_cons (pv 3) (pa_cons (pv 7) (pa_cons (pv 8) (pa_cons (pv 10) (pa_cons (pv 11) pa_nil)))))))) (pw_or1 (pt_cmpR op_gt (pe_callB call_len_seq (by rfl) T.len PySem.boot_len (pa_cons (pv 11) pa_nil)) (pe_op op_add (pe_callB call_len_seq (by rfl) T.len PySem.boot_len (pa_cons (pv 5) pa_nil)) pe_int) (nomark _))))) (pss_one (ps_ret pe_bl)) pss_nil)
      (pss_one (ps_if (pt_cmpR (op_nes hr.units) (pe_call GThrough hr rfl hThrough kThrough bThrough .nil pass0 (pa_cons (pv 3) (pa_cons (pe_ix ix_tup (pv 7) pe_int (fun _ _ => rfl)) (pa_cons (pe_ix ix_tup (pv 7) pe_int (fun _ _ => rfl)) (pa_cons (pv 8) (pa_cons (pv 10) pa_nil)))))) (pv 11) (nomark _)) (pss_one (ps_ret pe_bl)) pss_nil))))))))))))))
      (pss_one (ps_ret pe_bl)), ?_⟩
    refine ⟨_, rfl, s, _, rfl, .inl hS, _, _, rfl, _, _, rfl, _, rfl, by split <;> split <;> omega, by split <;> split <;> omega, for_rangeH (lo := 0) (fun i σ H5 => ∃ (u1 u2 u3 u4 u5 u6 u7 u8 u9 u10 u11 : Option V), σ = [some (.ref s), u1, u2, u3, u4, u5, u6, u7, u8, u9, u10, u11] ∧ Same H H5) ⟨_, _, _, _, _, _, _, _, _, _, _, rfl, same_refl _⟩ ?_ ?_⟩
    rotate_left
    · rintro σ H5 ⟨u1, u2, u3, u4, u5, u6, u7, u8, u9, u10, u11, rfl, s5⟩
      exact k H5
    rintro i σ H5 hi ⟨u1, u2, u3, u4, u5, u6, u7, u8, u9, u10, u11, rfl, s5⟩ E1 hE1 _
    have hi : i < 100 := by
      have : (if (if ((ns.map V.int).length : Int) < 3 then ((ns.map V.int).length : Int) else 3) > 1 then (if ((ns.map V.int).length : Int) < 3 then ((ns.map V.int).length : Int) else 3) else 1) ≤ 3 := by split <;> split <;> omega
      omega
    refine ⟨_, rfl, _, rfl, s, ns, i, by rw [Int.zero_add]; rfl, sqL_same hS s5, hl, hi, fun d H6 s6 dn D6 => ?_⟩
    refine ⟨_, rfl, d, 60, 99200, rfl, by decide, D6, fun h N ds H7 b7 D7 hh rr N1 N24 => ?_⟩
    have S7 : ∀ x o, H5 x = some o → H7 x = some o ∧ x ≠ d := fun x o e => ⟨b7 _ _ (s6 _ _ e) (ne_of_none e dn), ne_of_none e dn⟩
    clear b7 D6 s6
    obtain ⟨tp, rs, eh, et, hdd⟩ := id hh
    have n60 := rr.len
    have lrs := hdd.1
    refine ⟨_, rfl, h, _, rfl, SqT.of eh, rfl, _, _, rfl, _, _, rfl, rfl, ?_⟩
    refine ⟨4, rfl, by decide, by decide, for_rangeH (lo := 0) (n := 4) (fun j σ HB => ∃ (u6 u7 u8 u9 u10 u11 : Option V), σ = [some (.ref s), some (.int (0 + (i : Int))), some (.ref d), some (.ref h), some (.int (N : Int)), some (.ref tp), u6, u7, u8, u9, u10, u11] ∧ But d H7 HB ∧ DeckAt HB d (99200 - 6 * j)) ⟨_, _, _, _, _, _, rfl, But.refl, D7⟩ ?_ ?_⟩
    rotate_left
    · rintro σ HB ⟨u6, u7, u8, u9, u10, u11, rfl, bB, DB⟩
      exact hE1 _ _ ⟨_, _, _, _, _, _, _, _, _, _, _, rfl, fun x o e => let ⟨e1, e2⟩ := S7 x o (s5 _ _ e); bB _ _ e1 e2⟩
    rintro j σ HB hj ⟨u6, u7, u8, u9, u10, u11, rfl, bB, DB⟩ E2 hE2 _
    obtain ⟨B, hB⟩ : ∃ B, B = 99200 - 6 * (j + 1) := ⟨_, rfl⟩
    refine ⟨_, rfl, _, rfl, d, (N : Int), B + 5, rfl, DB.mono (by omega), by omega, by omega, fun p HC p0 p1 bC DC => ?_⟩
    refine ⟨_, rfl, _, rfl, d, (N : Int), B + 4, rfl, DC, by omega, by omega, fun q HD q0 q1 bD DD => ⟨small (by simp), fun pa hpa => ?_⟩⟩
    obtain ⟨p, rfl⟩ := nat_of p0
    obtain ⟨q, rfl⟩ := nat_of q0
    have pN : p < N := by omega
    have qN : q < N := by omega
    have sp := same_new (o := .tup [.int (p : Int), .int (q : Int)]) hpa
    have paE := upd_same (H := HD) (a := pa) (o := .tup [.int (p : Int), .int (q : Int)])
    have DE := DD.same sp
    have BE : But d H7 (upd HD pa (.tup [.int (p : Int), .int (q : Int)])) := bB.trans ((bC.trans bD).trans (But.of sp))
    generalize upd HD pa (.tup [.int (p : Int), .int (q : Int)]) = HE at sp paE DE BE ⊢
    have hhE : HistAt HE h N ds := hh.mono fun r xs e => BE.tup D7 e
    refine ⟨_, rfl, _, rfl, d, h, N, ds, B, rfl, DE, hhE, rr, fun r lo hi2 HF bF DF er l0 lh => ?_⟩
    refine ⟨r, _, rfl, SqT.of er, rfl, _, _, rfl, _, _, rfl, rfl, ?_⟩
    have BF := BE.trans bF
    have hhF : HistAt HF h N ds := hh.mono fun r xs e => BF.tup D7 e
    have paF := bF.tup DE paE
    have etF := BF.tup D7 et
    refine ⟨_, rfl, _, rfl, small (by simp), fun L hL => ?_⟩
    have sL := same_new (o := .lst [.int hi2, .int lo]) hL
    have LG := upd_same (H := HF) (a := L) (o := .lst [.int hi2, .int lo])
    generalize upd HF L (.lst [.int hi2, .int lo]) = HG at sL LG ⊢
    refine ⟨L, rfl, ⟨_, SqL.of LG⟩, for_listH (K := K) (a := L) (xs := [.int hi2, .int lo]) (fun m σ HH => ∃ (u10 u11 : Option V), σ = [some (.ref s), some (.int (0 + (i : Int))), some (.ref d), some (.ref h), some (.int (N : Int)), some (.ref tp), some (.int (0 + (j : Int))), some (.ref pa), some (.int lo), some (.int hi2), u10, u11] ∧ Same HG HH) ⟨_, _, rfl, same_refl _⟩ (fun m σ HH _ ⟨_, _, _, s⟩ => SqL.of (s _ _ LG)) ?_ ?_⟩
    rotate_left
    · rintro σ HH ⟨u10, u11, rfl, sH⟩
      exact hE2 _ _ ⟨_, _, _, _, _, _, rfl, BF.trans (But.of (sL.trans sH)), by rw [← hB]; exact DF.same (sL.trans sH)⟩
    rintro m z σ HH hz ⟨u10, u11, rfl, sH⟩ E3 hE3 _
    obtain ⟨en, rfl, le⟩ : ∃ en : Int, z = .int en ∧ lo ≤ en := by
      have := List.mem_of_getElem? hz
      simp only [List.mem_cons, List.not_mem_nil, or_false] at this
      rcases this with rfl | rfl
      · exact ⟨_, rfl, lh⟩
      · exact ⟨_, rfl, Int.le_refl _⟩
    have SH := sL.trans sH
    have paH := SH _ _ paF
    have hhH := hhF.same SH
    refine ⟨_, rfl, _, rfl, pa, _, 0, _, rfl, rfl, SqT.of paH, atI_nat (j := 0) rfl, _, rfl, pa, _, 1, _, rfl, rfl, SqT.of paH, atI_nat (j := 1) rfl, _, rfl, _, rfl, h, N, ds, p, q, lo, en, rfl, hhH, rr, by exact Nat.le_trans (by assumption) (by decide), pN, qN, fun t rs1 HI' sI et1 R1 => ?_⟩
    have PL := Nat.le_trans (pcs_len (low := lo) (high := en) (L := strF ds)) (strF_len rr)
    refine ⟨_, rfl, _, rfl, _, rfl, _, rfl, _, rfl, h, pa, t, N, ds, p, q, lo, en, rs1, rfl, hhH.same sI, rr, by exact Nat.le_trans (by assumption) (by decide), pN, qN, l0, le, sI _ _ paH, et1, R1, fun HJ sJ => ⟨_, rfl, iteF ?_⟩⟩
    have etJ := sJ _ _ et1
    have SJ := SH.trans (sI.trans sJ)
    refine ⟨_, rfl, t, _, rfl, .inr (SqT.of etJ), _, rfl, tp, _, rfl, .inr (SqT.of (SJ _ _ etF)), _, _, rfl, rfl, _, _, rfl, rfl, _, rfl, ite2 (fun g => absurd (of_decide_eq_true g) ?_) fun _ => ?_⟩
    · rw [List.length_map, List.length_map, R1.1]; omega
    dsimp only [tNext]
    have paJ := SJ _ _ paF
    refine ⟨_, rfl, _, rfl, pa, _, 0, _, rfl, rfl, SqT.of paJ, atI_nat (j := 0) rfl, _, rfl, pa, _, 1, _, rfl, rfl, SqT.of paJ, atI_nat (j := 1) rfl, _, rfl, _, rfl, h, N, ds, p, q, lo, en, rfl, hhF.same SJ, rr, by exact Nat.le_trans (by assumption) (by decide), pN, qN, fun t2 rs2 HK sK et2 R2 => ?_⟩
    have R1K : PcsAt HK N ds p q rs1 (pcsF lo en (strF ds)) := rows_mono R1 fun r x e => e.mono fun a xs e => sK _ _ (sJ _ _ e)
    refine ⟨_, rfl, 3, true, t2, t, rfl, rfl, by decide, pcs_eqs et2 (sK _ _ etJ) R2 R1K, _, rfl, iteF ?_⟩
    exact hE3 _ _ ⟨_, _, rfl, sH.trans ((sI.trans sJ).trans sK)⟩
end
end K65
set_option maxHeartbeats 4000000
namespace K65
open PySem L2 Wk
theorem all_mk {l : PySem.W.OpenLaw} {w : World} {K : PySem.W.Frag} {h : Heap} {mg : Str → Option Value} {fa f0 f1 f2 f3 f4 f5 f6 f7 f8 f9 f10 f11 f12 f13 f14 f15 f16 f17 f18 f19 f20 f21 f22 f23 f24 f25 f26 f27 f28 f29 f30 f31 : Addr} (X : K.In h) (G : h.Ns mainGlobals mg) (hfa : mg "law" = some (.ref fa))
    {od0 an0 od1 an1 od2 an2 od3 an3 od4 an4 od5 an5 od6 an6 od7 an7 od8 an8 od9 an9 od10 an10 od11 an11 od12 an12 od13 an13 od14 an14 od15 an15 od16 an16 od17 an17 od18 an18 od19 an19 od20 an20 od21 an21 od22 an22 od23 an23 od24 an24 od25 an25 od26 an26 od27 an27 od28 an28 od29 an29 od30 an30 od31 an31 : Option Addr} {sl0 sl1 sl2 sl3 sl4 sl5 sl6 sl7 sl8 sl9 sl10 sl11 sl12 sl13 sl14 sl15 sl16 sl17 sl18 sl19 sl20 sl21 sl22 sl23 sl24 sl25 sl26 sl27 sl28 sl29 sl30 sl31 : Array (Option Value)} {oc0 kV0 dc0 pm0 cd0 ct0 oc1 kV1 dc1 pm1 cd1 ct1 oc2 kV2 dc2 pm2 cd2 ct2 oc3 kV3 dc3 pm3 cd3 ct3 oc4 kV4 dc4 pm4 cd4 ct4 oc5 kV5 dc5 pm5 cd5 ct5 oc6 kV6 dc6 pm6 cd6 ct6 oc7 kV7 dc7 pm7 cd7 ct7 oc8 kV8 dc8 pm8 cd8 ct8 oc9 kV9 dc9 pm9 cd9 ct9 oc10 kV10 dc10 pm10 cd10 ct10 oc11 kV11 dc11 pm11 cd11 ct11 oc12 kV12 dc12 pm12 cd12 ct12 oc13 kV13 dc13 pm13 cd13 ct13 oc14 kV14 dc14 pm14 cd14 ct14 oc15 kV15 dc15 pm15 cd15 ct15 oc16 kV16 dc16 pm16 cd16 ct16 oc17 kV17 dc17 pm17 cd17 ct17 oc18 kV18 dc18 pm18 cd18 ct18 oc19 kV19 dc19 pm19 cd19 ct19 oc20 kV20 dc20 pm20 cd20 ct20 oc21 kV21 dc21 pm21 cd21 ct21 oc22 kV22 dc22 pm22 cd22 ct22 oc23 kV23 dc23 pm23 cd23 ct23 oc24 kV24 dc24 pm24 cd24 ct24 oc25 kV25 dc25 pm25 cd25 ct25 oc26 kV26 dc26 pm26 cd26 ct26 oc27 kV27 dc27 pm27 cd27 ct27 oc28 kV28 dc28 pm28 cd28 ct28 oc29 kV29 dc29 pm29 cd29 ct29 oc30 kV30 dc30 pm30 cd30 ct30 oc31 kV31 dc31 pm31 cd31 ct31 : Value}
    (a0 : PySem.W.nsIn K mainGlobals "lesser_end" = some (some (.ref f0))) (l0 : K.lookup f0 = some ⟨oc0, od0, .func (PySem.W.fnOf "lesser_end" "lesser_end" (defArgs sLesser) (defBody sLesser) (defScope sLesser) .none kV0 dc0 pm0 an0 cd0 ct0), sl0⟩) (c0 : PySem.W.codeIn K cd0 "lesser_end" = true) (k0 : PySem.W.keepIn K (.ref f0) = true)
    (a1 : PySem.W.nsIn K mainGlobals "deeds_by" = some (some (.ref f1))) (l1 : K.lookup f1 = some ⟨oc1, od1, .func (PySem.W.fnOf "deeds_by" "deeds_by" (defArgs sDeedsBy) (defBody sDeedsBy) (defScope sDeedsBy) .none kV1 dc1 pm1 an1 cd1 ct1), sl1⟩) (c1 : PySem.W.codeIn K cd1 "deeds_by" = true) (k1 : PySem.W.keepIn K (.ref f1) = true)
    (a2 : PySem.W.nsIn K mainGlobals "stand_behind" = some (some (.ref f2))) (l2 : K.lookup f2 = some ⟨oc2, od2, .func (PySem.W.fnOf "stand_behind" "stand_behind" (defArgs sStandB) (defBody sStandB) (defScope sStandB) .none kV2 dc2 pm2 an2 cd2 ct2), sl2⟩) (c2 : PySem.W.codeIn K cd2 "stand_behind" = true) (k2 : PySem.W.keepIn K (.ref f2) = true)
    (a3 : PySem.W.nsIn K mainGlobals "stretches_of" = some (some (.ref f3))) (l3 : K.lookup f3 = some ⟨oc3, od3, .func (PySem.W.fnOf "stretches_of" "stretches_of" (defArgs sStretches) (defBody sStretches) (defScope sStretches) .none kV3 dc3 pm3 an3 cd3 ct3), sl3⟩) (c3 : PySem.W.codeIn K cd3 "stretches_of" = true) (k3 : PySem.W.keepIn K (.ref f3) = true)
    (a4 : PySem.W.nsIn K mainGlobals "beside_of" = some (some (.ref f4))) (l4 : K.lookup f4 = some ⟨oc4, od4, .func (PySem.W.fnOf "beside_of" "beside_of" (defArgs sBeside) (defBody sBeside) (defScope sBeside) .none kV4 dc4 pm4 an4 cd4 ct4), sl4⟩) (c4 : PySem.W.codeIn K cd4 "beside_of" = true) (k4 : PySem.W.keepIn K (.ref f4) = true)
    (a5 : PySem.W.nsIn K mainGlobals "ways_from" = some (some (.ref f5))) (l5 : K.lookup f5 = some ⟨oc5, od5, .func (PySem.W.fnOf "ways_from" "ways_from" (defArgs sWays) (defBody sWays) (defScope sWays) .none kV5 dc5 pm5 an5 cd5 ct5), sl5⟩) (c5 : PySem.W.codeIn K cd5 "ways_from" = true) (k5 : PySem.W.keepIn K (.ref f5) = true)
    (a6 : PySem.W.nsIn K mainGlobals "part_of" = some (some (.ref f6))) (l6 : K.lookup f6 = some ⟨oc6, od6, .func (PySem.W.fnOf "part_of" "part_of" (defArgs sPart) (defBody sPart) (defScope sPart) .none kV6 dc6 pm6 an6 cd6 ct6), sl6⟩) (c6 : PySem.W.codeIn K cd6 "part_of" = true) (k6 : PySem.W.keepIn K (.ref f6) = true)
    (a7 : PySem.W.nsIn K mainGlobals "way_between" = some (some (.ref f7))) (l7 : K.lookup f7 = some ⟨oc7, od7, .func (PySem.W.fnOf "way_between" "way_between" (defArgs sWay) (defBody sWay) (defScope sWay) .none kV7 dc7 pm7 an7 cd7 ct7), sl7⟩) (c7 : PySem.W.codeIn K cd7 "way_between" = true) (k7 : PySem.W.keepIn K (.ref f7) = true)
    (a8 : PySem.W.nsIn K mainGlobals "cut_between" = some (some (.ref f8))) (l8 : K.lookup f8 = some ⟨oc8, od8, .func (PySem.W.fnOf "cut_between" "cut_between" (defArgs sCut) (defBody sCut) (defScope sCut) .none kV8 dc8 pm8 an8 cd8 ct8), sl8⟩) (c8 : PySem.W.codeIn K cd8 "cut_between" = true) (k8 : PySem.W.keepIn K (.ref f8) = true)
    (a9 : PySem.W.nsIn K mainGlobals "paper_for" = some (some (.ref f9))) (l9 : K.lookup f9 = some ⟨oc9, od9, .func (PySem.W.fnOf "paper_for" "paper_for" (defArgs sPaper) (defBody sPaper) (defScope sPaper) .none kV9 dc9 pm9 an9 cd9 ct9), sl9⟩) (c9 : PySem.W.codeIn K cd9 "paper_for" = true) (k9 : PySem.W.keepIn K (.ref f9) = true)
    (a10 : PySem.W.nsIn K mainGlobals "stretches_within" = some (some (.ref f10))) (l10 : K.lookup f10 = some ⟨oc10, od10, .func (PySem.W.fnOf "stretches_within" "stretches_within" (defArgs sWithin) (defBody sWithin) (defScope sWithin) .none kV10 dc10 pm10 an10 cd10 ct10), sl10⟩) (c10 : PySem.W.codeIn K cd10 "stretches_within" = true) (k10 : PySem.W.keepIn K (.ref f10) = true)
    (a11 : PySem.W.nsIn K mainGlobals "papers_through" = some (some (.ref f11))) (l11 : K.lookup f11 = some ⟨oc11, od11, .func (PySem.W.fnOf "papers_through" "papers_through" (defArgs sThrough) (defBody sThrough) (defScope sThrough) .none kV11 dc11 pm11 an11 cd11 ct11), sl11⟩) (c11 : PySem.W.codeIn K cd11 "papers_through" = true) (k11 : PySem.W.keepIn K (.ref f11) = true)
    (a12 : PySem.W.nsIn K mainGlobals "_law_cell_at" = some (some (.ref f12))) (l12 : K.lookup f12 = some ⟨oc12, od12, .func (PySem.W.fnOf "_law_cell_at" "_law_cell_at" (defArgs sCell) (defBody sCell) (defScope sCell) .none kV12 dc12 pm12 an12 cd12 ct12), sl12⟩) (c12 : PySem.W.codeIn K cd12 "_law_cell_at" = true) (k12 : PySem.W.keepIn K (.ref f12) = true)
    (a13 : PySem.W.nsIn K mainGlobals "_law_deck" = some (some (.ref f13))) (l13 : K.lookup f13 = some ⟨oc13, od13, .func (PySem.W.fnOf "_law_deck" "_law_deck" (defArgs sDeck) (defBody sDeck) (defScope sDeck) .none kV13 dc13 pm13 an13 cd13 ct13), sl13⟩) (c13 : PySem.W.codeIn K cd13 "_law_deck" = true) (k13 : PySem.W.keepIn K (.ref f13) = true)
    (a14 : PySem.W.nsIn K mainGlobals "_law_draw" = some (some (.ref f14))) (l14 : K.lookup f14 = some ⟨oc14, od14, .func (PySem.W.fnOf "_law_draw" "_law_draw" (defArgs sDraw) (defBody sDraw) (defScope sDraw) .none kV14 dc14 pm14 an14 cd14 ct14), sl14⟩) (c14 : PySem.W.codeIn K cd14 "_law_draw" = true) (k14 : PySem.W.keepIn K (.ref f14) = true)
    (a15 : PySem.W.nsIn K mainGlobals "_law_names" = some (some (.ref f15))) (l15 : K.lookup f15 = some ⟨oc15, od15, .func (PySem.W.fnOf "_law_names" "_law_names" (defArgs sNames) (defBody sNames) (defScope sNames) .none kV15 dc15 pm15 an15 cd15 ct15), sl15⟩) (c15 : PySem.W.codeIn K cd15 "_law_names" = true) (k15 : PySem.W.keepIn K (.ref f15) = true)
    (a16 : PySem.W.nsIn K mainGlobals "_law_many" = some (some (.ref f16))) (l16 : K.lookup f16 = some ⟨oc16, od16, .func (PySem.W.fnOf "_law_many" "_law_many" (defArgs sMany) (defBody sMany) (defScope sMany) .none kV16 dc16 pm16 an16 cd16 ct16), sl16⟩) (c16 : PySem.W.codeIn K cd16 "_law_many" = true) (k16 : PySem.W.keepIn K (.ref f16) = true)
    (a17 : PySem.W.nsIn K mainGlobals "_law_weight" = some (some (.ref f17))) (l17 : K.lookup f17 = some ⟨oc17, od17, .func (PySem.W.fnOf "_law_weight" "_law_weight" (defArgs sWeight) (defBody sWeight) (defScope sWeight) .none kV17 dc17 pm17 an17 cd17 ct17), sl17⟩) (c17 : PySem.W.codeIn K cd17 "_law_weight" = true) (k17 : PySem.W.keepIn K (.ref f17) = true)
    (a18 : PySem.W.nsIn K mainGlobals "_law_tie" = some (some (.ref f18))) (l18 : K.lookup f18 = some ⟨oc18, od18, .func (PySem.W.fnOf "_law_tie" "_law_tie" (defArgs sTie) (defBody sTie) (defScope sTie) .none kV18 dc18 pm18 an18 cd18 ct18), sl18⟩) (c18 : PySem.W.codeIn K cd18 "_law_tie" = true) (k18 : PySem.W.keepIn K (.ref f18) = true)
    (a19 : PySem.W.nsIn K mainGlobals "_law_gap" = some (some (.ref f19))) (l19 : K.lookup f19 = some ⟨oc19, od19, .func (PySem.W.fnOf "_law_gap" "_law_gap" (defArgs sGap) (defBody sGap) (defScope sGap) .none kV19 dc19 pm19 an19 cd19 ct19), sl19⟩) (c19 : PySem.W.codeIn K cd19 "_law_gap" = true) (k19 : PySem.W.keepIn K (.ref f19) = true)
    (a20 : PySem.W.nsIn K mainGlobals "_law_history" = some (some (.ref f20))) (l20 : K.lookup f20 = some ⟨oc20, od20, .func (PySem.W.fnOf "_law_history" "_law_history" (defArgs sHistory) (defBody sHistory) (defScope sHistory) .none kV20 dc20 pm20 an20 cd20 ct20), sl20⟩) (c20 : PySem.W.codeIn K cd20 "_law_history" = true) (k20 : PySem.W.keepIn K (.ref f20) = true)
    (a21 : PySem.W.nsIn K mainGlobals "_law_stand_behind" = some (some (.ref f21))) (l21 : K.lookup f21 = some ⟨oc21, od21, .func (PySem.W.fnOf "_law_stand_behind" "_law_stand_behind" (defArgs sLStand) (defBody sLStand) (defScope sLStand) .none kV21 dc21 pm21 an21 cd21 ct21), sl21⟩) (c21 : PySem.W.codeIn K cd21 "_law_stand_behind" = true) (k21 : PySem.W.keepIn K (.ref f21) = true)
    (a22 : PySem.W.nsIn K mainGlobals "_law_way_right" = some (some (.ref f22))) (l22 : K.lookup f22 = some ⟨oc22, od22, .func (PySem.W.fnOf "_law_way_right" "_law_way_right" (defArgs sWayR) (defBody sWayR) (defScope sWayR) .none kV22 dc22 pm22 an22 cd22 ct22), sl22⟩) (c22 : PySem.W.codeIn K cd22 "_law_way_right" = true) (k22 : PySem.W.keepIn K (.ref f22) = true)
    (a23 : PySem.W.nsIn K mainGlobals "_law_cut_right" = some (some (.ref f23))) (l23 : K.lookup f23 = some ⟨oc23, od23, .func (PySem.W.fnOf "_law_cut_right" "_law_cut_right" (defArgs sCutR) (defBody sCutR) (defScope sCutR) .none kV23 dc23 pm23 an23 cd23 ct23), sl23⟩) (c23 : PySem.W.codeIn K cd23 "_law_cut_right" = true) (k23 : PySem.W.keepIn K (.ref f23) = true)
    (a24 : PySem.W.nsIn K mainGlobals "_law_paper_right" = some (some (.ref f24))) (l24 : K.lookup f24 = some ⟨oc24, od24, .func (PySem.W.fnOf "_law_paper_right" "_law_paper_right" (defArgs sPaperR) (defBody sPaperR) (defScope sPaperR) .none kV24 dc24 pm24 an24 cd24 ct24), sl24⟩) (c24 : PySem.W.codeIn K cd24 "_law_paper_right" = true) (k24 : PySem.W.keepIn K (.ref f24) = true)
    (a25 : PySem.W.nsIn K mainGlobals "_law_moments" = some (some (.ref f25))) (l25 : K.lookup f25 = some ⟨oc25, od25, .func (PySem.W.fnOf "_law_moments" "_law_moments" (defArgs sMoments) (defBody sMoments) (defScope sMoments) .none kV25 dc25 pm25 an25 cd25 ct25), sl25⟩) (c25 : PySem.W.codeIn K cd25 "_law_moments" = true) (k25 : PySem.W.keepIn K (.ref f25) = true)
    (a26 : PySem.W.nsIn K mainGlobals "_law_count" = some (some (.ref f26))) (l26 : K.lookup f26 = some ⟨oc26, od26, .func (PySem.W.fnOf "_law_count" "_law_count" (defArgs sCount) (defBody sCount) (defScope sCount) .none kV26 dc26 pm26 an26 cd26 ct26), sl26⟩) (c26 : PySem.W.codeIn K cd26 "_law_count" = true) (k26 : PySem.W.keepIn K (.ref f26) = true)
    (a27 : PySem.W.nsIn K mainGlobals "_law_within" = some (some (.ref f27))) (l27 : K.lookup f27 = some ⟨oc27, od27, .func (PySem.W.fnOf "_law_within" "_law_within" (defArgs sLWithin) (defBody sLWithin) (defScope sLWithin) .none kV27 dc27 pm27 an27 cd27 ct27), sl27⟩) (c27 : PySem.W.codeIn K cd27 "_law_within" = true) (k27 : PySem.W.keepIn K (.ref f27) = true)
    (a28 : PySem.W.nsIn K mainGlobals "_law_piece_right" = some (some (.ref f28))) (l28 : K.lookup f28 = some ⟨oc28, od28, .func (PySem.W.fnOf "_law_piece_right" "_law_piece_right" (defArgs sPieceR) (defBody sPieceR) (defScope sPieceR) .none kV28 dc28 pm28 an28 cd28 ct28), sl28⟩) (c28 : PySem.W.codeIn K cd28 "_law_piece_right" = true) (k28 : PySem.W.keepIn K (.ref f28) = true)
    (a29 : PySem.W.nsIn K mainGlobals "_law_whole" = some (some (.ref f29))) (l29 : K.lookup f29 = some ⟨oc29, od29, .func (PySem.W.fnOf "_law_whole" "_law_whole" (defArgs sLWhole) (defBody sLWhole) (defScope sLWhole) .none kV29 dc29 pm29 an29 cd29 ct29), sl29⟩) (c29 : PySem.W.codeIn K cd29 "_law_whole" = true) (k29 : PySem.W.keepIn K (.ref f29) = true)
    (a30 : PySem.W.nsIn K mainGlobals "_law_through_right" = some (some (.ref f30))) (l30 : K.lookup f30 = some ⟨oc30, od30, .func (PySem.W.fnOf "_law_through_right" "_law_through_right" (defArgs sThroughR) (defBody sThroughR) (defScope sThroughR) .none kV30 dc30 pm30 an30 cd30 ct30), sl30⟩) (c30 : PySem.W.codeIn K cd30 "_law_through_right" = true) (k30 : PySem.W.keepIn K (.ref f30) = true)
    (a31 : PySem.W.nsIn K mainGlobals "law" = some (some (.ref f31))) (l31 : K.lookup f31 = some ⟨oc31, od31, .func (PySem.W.fnOf "law" "law" (defArgs sLaw) (defBody sLaw) (defScope sLaw) .none kV31 dc31 pm31 an31 cd31 ct31), sl31⟩) (c31 : PySem.W.codeIn K cd31 "law" = true) (k31 : PySem.W.keepIn K (.ref f31) = true)
    (z0 : PySem.W.nsIn K mainGlobals "isinstance" = some none) (z1 : PySem.W.nsIn K mainGlobals "int" = some none) (z2 : PySem.W.nsIn K mainGlobals "bool" = some none) (z3 : PySem.W.nsIn K mainGlobals "tuple" = some none) (z4 : PySem.W.nsIn K mainGlobals "len" = some none) (z5 : PySem.W.nsIn K mainGlobals "range" = some none) (z6 : PySem.W.nsIn K mainGlobals "sum" = some none) (z7 : PySem.W.nsIn K mainGlobals "str" = some none) (z8 : PySem.W.nsIn K mainGlobals "max" = some none) (z9 : PySem.W.nsIn K mainGlobals "min" = some none) (z10 : PySem.W.nsIn K mainGlobals "sorted" = some none) (z11 : PySem.W.nsIn K mainGlobals "reversed" = some none) (z12 : PySem.W.nsIn K mainGlobals "zip" = some none) (z13 : PySem.W.nsIn K mainGlobals "set" = some none) :
    ∃ fd : FuncData, (∀ (s : Shared) (v : Value), BindsTo s fd ⟨[v], []⟩ [("_law_script", v)]) ∧ ∀ base : Heap, K.In base → base.Ns mainGlobals mg → FnOk l.prog w K mg base CX0 7 fa fd ["_law_script"] (spLaw K) := by
  have e := hfa.symm.trans (PySem.W.mg_of X G a31)
  cases e
  have T : Txt mg := ⟨PySem.W.mg_none_of X G z0, PySem.W.mg_none_of X G z1, PySem.W.mg_none_of X G z2, PySem.W.mg_none_of X G z3, PySem.W.mg_none_of X G z4, PySem.W.mg_none_of X G z5, PySem.W.mg_none_of X G z6, PySem.W.mg_none_of X G z7, PySem.W.mg_none_of X G z8, PySem.W.mg_none_of X G z9, PySem.W.mg_none_of X G z10, PySem.W.mg_none_of X G z11, PySem.W.mg_none_of X G z12, PySem.W.mg_none_of X G z13⟩
  have F0 := fun_mk (st := sLesser) l0 c0 k0
  have b0 := F0.binds (ps := ["one", "other"]) fun _ _ _ _ _ _ us hl => match us, hl with | [_, _], _ => rfl
  have m0 := PySem.W.mg_of X G a0
  have F1 := fun_mk (st := sDeedsBy) l1 c1 k1
  have b1 := F1.binds (ps := ["history", "moment"]) fun _ _ _ _ _ _ us hl => match us, hl with | [_, _], _ => rfl
  have m1 := PySem.W.mg_of X G a1
  have F2 := fun_mk (st := sStandB) l2 c2 k2
  have b2 := F2.binds (ps := ["history", "n"]) fun _ _ _ _ _ _ us hl => match us, hl with | [_, _], _ => rfl
  have m2 := PySem.W.mg_of X G a2
  have F3 := fun_mk (st := sStretches) l3 c3 k3
  have b3 := F3.binds (ps := ["history"]) fun _ _ _ _ _ _ us hl => match us, hl with | [_], _ => rfl
  have m3 := PySem.W.mg_of X G a3
  have F4 := fun_mk (st := sBeside) l4 c4 k4
  have b4 := F4.binds (ps := ["many", "stand"]) fun _ _ _ _ _ _ us hl => match us, hl with | [_, _], _ => rfl
  have m4 := PySem.W.mg_of X G a4
  have F5 := fun_mk (st := sWays) l5 c5 k5
  have b5 := F5.binds (ps := ["many", "stand", "place"]) fun _ _ _ _ _ _ us hl => match us, hl with | [_, _, _], _ => rfl
  have m5 := PySem.W.mg_of X G a5
  have F6 := fun_mk (st := sPart) l6 c6 k6
  have b6 := F6.binds (ps := ["many", "stand", "place"]) fun _ _ _ _ _ _ us hl => match us, hl with | [_, _, _], _ => rfl
  have m6 := PySem.W.mg_of X G a6
  have F7 := fun_mk (st := sWay) l7 c7 k7
  have b7 := F7.binds (ps := ["many", "stand", "one", "other"]) fun _ _ _ _ _ _ us hl => match us, hl with | [_, _, _, _], _ => rfl
  have m7 := PySem.W.mg_of X G a7
  have F8 := fun_mk (st := sCut) l8 c8 k8
  have b8 := F8.binds (ps := ["many", "stand", "one", "other"]) fun _ _ _ _ _ _ us hl => match us, hl with | [_, _, _, _], _ => rfl
  have m8 := PySem.W.mg_of X G a8
  have F9 := fun_mk (st := sPaper) l9 c9 k9
  have b9 := F9.binds (ps := ["history", "n", "one", "other"]) fun _ _ _ _ _ _ us hl => match us, hl with | [_, _, _, _], _ => rfl
  have m9 := PySem.W.mg_of X G a9
  have F10 := fun_mk (st := sWithin) l10 c10 k10
  have b10 := F10.binds (ps := ["stretches", "low", "high"]) fun _ _ _ _ _ _ us hl => match us, hl with | [_, _, _], _ => rfl
  have m10 := PySem.W.mg_of X G a10
  have F11 := fun_mk (st := sThrough) l11 c11 k11
  have b11 := F11.binds (ps := ["history", "one", "other", "low", "high"]) fun _ _ _ _ _ _ us hl => match us, hl with | [_, _, _, _, _], _ => rfl
  have m11 := PySem.W.mg_of X G a11
  have F12 := fun_mk (st := sCell) l12 c12 k12
  have b12 := F12.binds (ps := ["_law_script", "_law_k"]) fun _ _ _ _ _ _ us hl => match us, hl with | [_, _], _ => rfl
  have m12 := PySem.W.mg_of X G a12
  have F13 := fun_mk (st := sDeck) l13 c13 k13
  have b13 := F13.binds (ps := ["_law_script", "_law_k"]) fun _ _ _ _ _ _ us hl => match us, hl with | [_, _], _ => rfl
  have m13 := PySem.W.mg_of X G a13
  have F14 := fun_mk (st := sDraw) l14 c14 k14
  have b14 := F14.binds (ps := ["_law_deck_here", "_law_most"]) fun _ _ _ _ _ _ us hl => match us, hl with | [_, _], _ => rfl
  have m14 := PySem.W.mg_of X G a14
  have F15 := fun_mk (st := sNames) l15 c15 k15
  have b15 := F15.binds (ps := ["_law_deck_here", "_law_many_here"]) fun _ _ _ _ _ _ us hl => match us, hl with | [_, _], _ => rfl
  have m15 := PySem.W.mg_of X G a15
  have F16 := fun_mk (st := sMany) l16 c16 k16
  have b16 := F16.binds (ps := ["_law_deck_here"]) fun _ _ _ _ _ _ us hl => match us, hl with | [_], _ => rfl
  have m16 := PySem.W.mg_of X G a16
  have F17 := fun_mk (st := sWeight) l17 c17 k17
  have b17 := F17.binds (ps := ["_law_deck_here"]) fun _ _ _ _ _ _ us hl => match us, hl with | [_], _ => rfl
  have m17 := PySem.W.mg_of X G a17
  have F18 := fun_mk (st := sTie) l18 c18 k18
  have b18 := F18.binds (ps := ["_law_deck_here", "_law_many_here", "_law_there", "_law_free", "_law_lined"]) fun _ _ _ _ _ _ us hl => match us, hl with | [_, _, _, _, _], _ => rfl
  have m18 := PySem.W.mg_of X G a18
  have F19 := fun_mk (st := sGap) l19 c19 k19
  have b19 := F19.binds (ps := ["_law_deck_here"]) fun _ _ _ _ _ _ us hl => match us, hl with | [_], _ => rfl
  have m19 := PySem.W.mg_of X G a19
  have F20 := fun_mk (st := sHistory) l20 c20 k20
  have b20 := F20.binds (ps := ["_law_deck_here", "_law_most"]) fun _ _ _ _ _ _ us hl => match us, hl with | [_, _], _ => rfl
  have m20 := PySem.W.mg_of X G a20
  have F21 := fun_mk (st := sLStand) l21 c21 k21
  have b21 := F21.binds (ps := ["_law_history_here", "_law_n"]) fun _ _ _ _ _ _ us hl => match us, hl with | [_, _], _ => rfl
  have m21 := PySem.W.mg_of X G a21
  have F22 := fun_mk (st := sWayR) l22 c22 k22
  have b22 := F22.binds (ps := ["_law_stand", "_law_one", "_law_other", "_law_way"]) fun _ _ _ _ _ _ us hl => match us, hl with | [_, _, _, _], _ => rfl
  have m22 := PySem.W.mg_of X G a22
  have F23 := fun_mk (st := sCutR) l23 c23 k23
  have b23 := F23.binds (ps := ["_law_many_here", "_law_stand", "_law_one", "_law_other", "_law_cut"]) fun _ _ _ _ _ _ us hl => match us, hl with | [_, _, _, _, _], _ => rfl
  have m23 := PySem.W.mg_of X G a23
  have F24 := fun_mk (st := sPaperR) l24 c24 k24
  have b24 := F24.binds (ps := ["_law_many_here", "_law_stand", "_law_one", "_law_other", "_law_thing"]) fun _ _ _ _ _ _ us hl => match us, hl with | [_, _, _, _, _], _ => rfl
  have m24 := PySem.W.mg_of X G a24
  have F25 := fun_mk (st := sMoments) l25 c25 k25
  have b25 := F25.binds (ps := ["_law_deck_here", "_law_history_here"]) fun _ _ _ _ _ _ us hl => match us, hl with | [_, _], _ => rfl
  have m25 := PySem.W.mg_of X G a25
  have F26 := fun_mk (st := sCount) l26 c26 k26
  have b26 := F26.binds (ps := ["_law_history_here", "_law_moment"]) fun _ _ _ _ _ _ us hl => match us, hl with | [_, _], _ => rfl
  have m26 := PySem.W.mg_of X G a26
  have F27 := fun_mk (st := sLWithin) l27 c27 k27
  have b27 := F27.binds (ps := ["_law_history_here", "_law_low", "_law_high"]) fun _ _ _ _ _ _ us hl => match us, hl with | [_, _, _], _ => rfl
  have m27 := PySem.W.mg_of X G a27
  have F28 := fun_mk (st := sPieceR) l28 c28 k28
  have b28 := F28.binds (ps := ["_law_history_here", "_law_pair", "_law_piece"]) fun _ _ _ _ _ _ us hl => match us, hl with | [_, _, _], _ => rfl
  have m28 := PySem.W.mg_of X G a28
  have F29 := fun_mk (st := sLWhole) l29 c29 k29
  have b29 := F29.binds (ps := ["_law_thing"]) fun _ _ _ _ _ _ us hl => match us, hl with | [_], _ => rfl
  have m29 := PySem.W.mg_of X G a29
  have F30 := fun_mk (st := sThroughR) l30 c30 k30
  have b30 := F30.binds (ps := ["_law_history_here", "_law_pair", "_law_low", "_law_high", "_law_thing"]) fun _ _ _ _ _ _ us hl => match us, hl with | [_, _, _, _, _], _ => rfl
  have m30 := PySem.W.mg_of X G a30
  have F31 := fun_mk (st := sLaw) l31 c31 k31
  have b31 := F31.binds (ps := ["_law_script"]) fun _ _ _ _ _ _ us hl => match us, hl with | [_], _ => rfl
  have m31 := PySem.W.mg_of X G a31
  refine ⟨PySem.W.fnOf "law" "law" (defArgs sLaw) (defBody sLaw) (defScope sLaw) .none kV31 dc31 pm31 an31 cd31 ct31, fun s v => .of_eq rfl, fun base _ _ => ?_⟩
  have Q0 : FnOk l.prog w K mg base CX0 1 f0 _ ["one", "other"] spLesser := ok_Lesser F0 T 
  have Q1 : FnOk l.prog w K mg base CX0 1 f1 _ ["history", "moment"] spDeedsBy := ok_DeedsBy F1 T 
  have Q2 : FnOk l.prog w K mg base CX0 1 f2 _ ["history", "n"] spStandB := ok_StandB F2 T 
  have Q3 : FnOk l.prog w K mg base CX0 2 f3 _ ["history"] spStretches := ok_Stretches F3 T k1 b1 m1 (Q1.mono (by decide))
  have Q4 : FnOk l.prog w K mg base CX0 1 f4 _ ["many", "stand"] spBeside := ok_Beside F4 T 
  have Q5 : FnOk l.prog w K mg base CX0 2 f5 _ ["many", "stand", "place"] spWays := ok_Ways F5 T k4 b4 m4 (Q4.mono (by decide))
  have Q6 : FnOk l.prog w K mg base CX0 3 f6 _ ["many", "stand", "place"] spPart := ok_Part F6 T k5 b5 m5 (Q5.mono (by decide))
  have Q7 : FnOk l.prog w K mg base CX0 3 f7 _ ["many", "stand", "one", "other"] spWay := ok_Way F7 T k5 b5 m5 (Q5.mono (by decide))
  have Q8 : FnOk l.prog w K mg base CX0 4 f8 _ ["many", "stand", "one", "other"] spCut := ok_Cut F8 T k6 b6 m6 (Q6.mono (by decide))
  have Q9 : FnOk l.prog w K mg base CX0 5 f9 _ ["history", "n", "one", "other"] spPaper := ok_Paper F9 T k2 b2 m2 (Q2.mono (by decide)) k7 b7 m7 (Q7.mono (by decide)) k8 b8 m8 (Q8.mono (by decide))
  have Q10 : FnOk l.prog w K mg base CX0 2 f10 _ ["stretches", "low", "high"] spWithin := ok_Within F10 T k0 b0 m0 (Q0.mono (by decide))
  have Q11 : FnOk l.prog w K mg base CX0 6 f11 _ ["history", "one", "other", "low", "high"] spThrough := ok_Through F11 T k3 b3 m3 (Q3.mono (by decide)) k10 b10 m10 (Q10.mono (by decide)) k9 b9 m9 (Q9.mono (by decide))
  have Q12 : FnOk l.prog w K mg base CX0 1 f12 _ ["_law_script", "_law_k"] (spCell K) := ok_Cell F12 T 
  have Q13 : FnOk l.prog w K mg base CX0 2 f13 _ ["_law_script", "_law_k"] (spDeck K) := ok_Deck F13 T k12 b12 m12 (Q12.mono (by decide))
  have Q14 : FnOk l.prog w K mg base CX0 1 f14 _ ["_law_deck_here", "_law_most"] spDraw := ok_Draw F14 T 
  have Q15 : FnOk l.prog w K mg base CX0 2 f15 _ ["_law_deck_here", "_law_many_here"] spNames := ok_Names F15 T k14 b14 m14 (Q14.mono (by decide))
  have Q16 : FnOk l.prog w K mg base CX0 2 f16 _ ["_law_deck_here"] spMany := ok_Many F16 T k14 b14 m14 (Q14.mono (by decide))
  have Q17 : FnOk l.prog w K mg base CX0 2 f17 _ ["_law_deck_here"] spWeight := ok_Weight F17 T k14 b14 m14 (Q14.mono (by decide))
  have Q18 : FnOk l.prog w K mg base CX0 3 f18 _ ["_law_deck_here", "_law_many_here", "_law_there", "_law_free", "_law_lined"] spTie := ok_Tie F18 T k14 b14 m14 (Q14.mono (by decide)) k17 b17 m17 (Q17.mono (by decide))
  have Q19 : FnOk l.prog w K mg base CX0 2 f19 _ ["_law_deck_here"] spGap := ok_Gap F19 T k14 b14 m14 (Q14.mono (by decide))
  have Q20 : FnOk l.prog w K mg base CX0 4 f20 _ ["_law_deck_here", "_law_most"] spHistory := ok_History F20 T k14 b14 m14 (Q14.mono (by decide)) k15 b15 m15 (Q15.mono (by decide)) k16 b16 m16 (Q16.mono (by decide)) k19 b19 m19 (Q19.mono (by decide)) k18 b18 m18 (Q18.mono (by decide))
  have Q21 : FnOk l.prog w K mg base CX0 1 f21 _ ["_law_history_here", "_law_n"] spLStand := ok_LStand F21 T 
  have Q22 : FnOk l.prog w K mg base CX0 1 f22 _ ["_law_stand", "_law_one", "_law_other", "_law_way"] spWayR := ok_WayR F22 T 
  have Q23 : FnOk l.prog w K mg base CX0 1 f23 _ ["_law_many_here", "_law_stand", "_law_one", "_law_other", "_law_cut"] spCutR := ok_CutR F23 T 
  have Q24 : FnOk l.prog w K mg base CX0 2 f24 _ ["_law_many_here", "_law_stand", "_law_one", "_law_other", "_law_thing"] spPaperR := ok_PaperR F24 T k22 b22 m22 (Q22.mono (by decide)) k23 b23 m23 (Q23.mono (by decide))
  have Q25 : FnOk l.prog w K mg base CX0 2 f25 _ ["_law_deck_here", "_law_history_here"] spMoments := ok_Moments F25 T k14 b14 m14 (Q14.mono (by decide))
  have Q26 : FnOk l.prog w K mg base CX0 1 f26 _ ["_law_history_here", "_law_moment"] spCount := ok_Count F26 T 
  have Q27 : FnOk l.prog w K mg base CX0 1 f27 _ ["_law_history_here", "_law_low", "_law_high"] spLWithin := ok_LWithin F27 T 
  have Q28 : FnOk l.prog w K mg base CX0 3 f28 _ ["_law_history_here", "_law_pair", "_law_piece"] spPieceR := ok_PieceR F28 T k27 b27 m27 (Q27.mono (by decide)) k26 b26 m26 (Q26.mono (by decide)) k21 b21 m21 (Q21.mono (by decide)) k24 b24 m24 (Q24.mono (by decide))
  have Q29 : FnOk l.prog w K mg base CX0 1 f29 _ ["_law_thing"] spLWhole := ok_LWhole F29 T 
  have Q30 : FnOk l.prog w K mg base CX0 4 f30 _ ["_law_history_here", "_law_pair", "_law_low", "_law_high", "_law_thing"] spThroughR := ok_ThroughR F30 T k29 b29 m29 (Q29.mono (by decide)) k28 b28 m28 (Q28.mono (by decide))
  exact ok_Law F31 T k14 b14 m14 (Q14.mono (by decide)) k13 b13 m13 (Q13.mono (by decide)) k20 b20 m20 (Q20.mono (by decide)) k25 b25 m25 (Q25.mono (by decide)) k11 b11 m11 (Q11.mono (by decide)) k30 b30 m30 (Q30.mono (by decide))
theorem walk {l : PySem.W.OpenLaw} {q : Program} {loose : List Str} {XP : (Str → Option Value) → Heap → Prop} {YP : World → Heap → Prop} {d : DefRec} {K : Params → PySem.W.Frag} (hn : l.most = some 63) (hdf : d.params.defaults = [])
    (hY : ∀ (w : World) (h : Heap), YP w h → (K w.params).In h)
    (F : ∀ (w : World) (mg : Str → Option Value) (fa : Addr) (h : Heap), (K w.params).In h → h.Ns mainGlobals mg → mg d.name = some (.ref fa) →
      ∃ fd : FuncData, (∀ (s : Shared) (u : Value), BindsTo s fd ⟨[u], []⟩ [("_law_script", u)]) ∧ ∀ base : Heap, (K w.params).In base → base.Ns mainGlobals mg → FnOk l.prog w (K w.params) mg base CX0 7 fa fd ["_law_script"] (spLaw (K w.params))) :
    PySem.W.WalkO q loose XP YP l.row.toRowW d [] (fun f vs => PySem.call f vs) :=
  L2.walk_of (n := 63) (k := 7) (x := "_law_script") (CX := fun _ => CX0) (sp := fun w => spLaw (K w.params)) hn (by decide) hdf ⟨rfl, by decide, by decide, rfl⟩ hY F (fun _ _ a ns hl _ hS => ⟨a, ns, rfl, hS, hl, fun _ => rfl⟩) fun _ _ _ _ _ z => z
end K65
open PySem PySem.W PyProof.Rows
set_option maxRecDepth 100000 in
set_option maxHeartbeats 0 in
theorem PySem.Challenge.cw_joinedever_k65_papers_through_moments_holds : PySem.Challenge.rw_joinedever_k65_papers_through_moments.Holds := by
  w_on; o_law; k_head; (case hw => w_witness2)
  k_fill
  refine K65.walk (l := PySem.Challenge.rw_joinedever_k65_papers_through_moments) rfl rfl (fun w h Y => PySem.W.kIn_of Y) ?F
  case F =>
    intro w mg fa h KX G hmg
    refine' K65.all_mk KX G hmg ?a0 ?l0 ?c0 ?k0 ?a1 ?l1 ?c1 ?k1 ?a2 ?l2 ?c2 ?k2 ?a3 ?l3 ?c3 ?k3 ?a4 ?l4 ?c4 ?k4 ?a5 ?l5 ?c5 ?k5 ?a6 ?l6 ?c6 ?k6 ?a7 ?l7 ?c7 ?k7 ?a8 ?l8 ?c8 ?k8 ?a9 ?l9 ?c9 ?k9 ?a10 ?l10 ?c10 ?k10 ?a11 ?l11 ?c11 ?k11 ?a12 ?l12 ?c12 ?k12 ?a13 ?l13 ?c13 ?k13 ?a14 ?l14 ?c14 ?k14 ?a15 ?l15 ?c15 ?k15 ?a16 ?l16 ?c16 ?k16 ?a17 ?l17 ?c17 ?k17 ?a18 ?l18 ?c18 ?k18 ?a19 ?l19 ?c19 ?k19 ?a20 ?l20 ?c20 ?k20 ?a21 ?l21 ?c21 ?k21 ?a22 ?l22 ?c22 ?k22 ?a23 ?l23 ?c23 ?k23 ?a24 ?l24 ?c24 ?k24 ?a25 ?l25 ?c25 ?k25 ?a26 ?l26 ?c26 ?k26 ?a27 ?l27 ?c27 ?k27 ?a28 ?l28 ?c28 ?k28 ?a29 ?l29 ?c29 ?k29 ?a30 ?l30 ?c30 ?k30 ?a31 ?l31 ?c31 ?k31 ?z0 ?z1 ?z2 ?z3 ?z4 ?z5 ?z6 ?z7 ?z8 ?z9 ?z10 ?z11 ?z12 ?z13
    (case a0 => k_is)
    (case l0 => k_is)
    (case c0 => k_is)
    (case k0 => k_is)
    (case a1 => k_is)
    (case l1 => k_is)
    (case c1 => k_is)
    (case k1 => k_is)
    (case a2 => k_is)
    (case l2 => k_is)
    (case c2 => k_is)
    (case k2 => k_is)
    (case a3 => k_is)
    (case l3 => k_is)
    (case c3 => k_is)
    (case k3 => k_is)
    (case a4 => k_is)
    (case l4 => k_is)
    (case c4 => k_is)
    (case k4 => k_is)
    (case a5 => k_is)
    (case l5 => k_is)
    (case c5 => k_is)
    (case k5 => k_is)
    (case a6 => k_is)
    (case l6 => k_is)
    (case c6 => k_is)
    (case k6 => k_is)
    (case a7 => k_is)
    (case l7 => k_is)
    (case c7 => k_is)
    (case k7 => k_is)
    (case a8 => k_is)
    (case l8 => k_is)
    (case c8 => k_is)
    (case k8 => k_is)
    (case a9 => k_is)
    (case l9 => k_is)
    (case c9 => k_is)
    (case k9 => k_is)
    (case a10 => k_is)
    (case l10 => k_is)
    (case c10 => k_is)
    (case k10 => k_is)
    (case a11 => k_is)
    (case l11 => k_is)
    (case c11 => k_is)
    (case k11 => k_is)
    (case a12 => k_is)
    (case l12 => k_is)
    (case c12 => k_is)
    (case k12 => k_is)
    (case a13 => k_is)
    (case l13 => k_is)
    (case c13 => k_is)
    (case k13 => k_is)
    (case a14 => k_is)
    (case l14 => k_is)
    (case c14 => k_is)
    (case k14 => k_is)
    (case a15 => k_is)
    (case l15 => k_is)
    (case c15 => k_is)
    (case k15 => k_is)
    (case a16 => k_is)
    (case l16 => k_is)
    (case c16 => k_is)
    (case k16 => k_is)
    (case a17 => k_is)
    (case l17 => k_is)
    (case c17 => k_is)
    (case k17 => k_is)
    (case a18 => k_is)
    (case l18 => k_is)
    (case c18 => k_is)
    (case k18 => k_is)
    (case a19 => k_is)
    (case l19 => k_is)
    (case c19 => k_is)
    (case k19 => k_is)
    (case a20 => k_is)
    (case l20 => k_is)
    (case c20 => k_is)
    (case k20 => k_is)
    (case a21 => k_is)
    (case l21 => k_is)
    (case c21 => k_is)
    (case k21 => k_is)
    (case a22 => k_is)
    (case l22 => k_is)
    (case c22 => k_is)
    (case k22 => k_is)
    (case a23 => k_is)
    (case l23 => k_is)
    (case c23 => k_is)
    (case k23 => k_is)
    (case a24 => k_is)
    (case l24 => k_is)
    (case c24 => k_is)
    (case k24 => k_is)
    (case a25 => k_is)
    (case l25 => k_is)
    (case c25 => k_is)
    (case k25 => k_is)
    (case a26 => k_is)
    (case l26 => k_is)
    (case c26 => k_is)
    (case k26 => k_is)
    (case a27 => k_is)
    (case l27 => k_is)
    (case c27 => k_is)
    (case k27 => k_is)
    (case a28 => k_is)
    (case l28 => k_is)
    (case c28 => k_is)
    (case k28 => k_is)
    (case a29 => k_is)
    (case l29 => k_is)
    (case c29 => k_is)
    (case k29 => k_is)
    (case a30 => k_is)
    (case l30 => k_is)
    (case c30 => k_is)
    (case k30 => k_is)
    (case a31 => k_is)
    (case l31 => k_is)
    (case c31 => k_is)
    (case k31 => k_is)
    (case z0 => k_is)
    (case z1 => k_is)
    (case z2 => k_is)
    (case z3 => k_is)
    (case z4 => k_is)
    (case z5 => k_is)
    (case z6 => k_is)
    (case z7 => k_is)
    (case z8 => k_is)
    (case z9 => k_is)
    (case z10 => k_is)
    (case z11 => k_is)
    (case z12 => k_is)
    (case z13 => k_is)

