import PyProof.Rows.All
import Wide.All
import OpenK.AllK
import Wide.FinOn
import Lean
import PyProof.EqAt
import PyProof.EqKinds
import PyProof.TupleCall
import PySem.Challenge.RW_joinedever_k46_none_is_lighter
import PyProof.Draws
import PyProof.ZipIter
import PyProof.TupleIter
import PyProof.ListRange
import PyProof.CollectWalk
import KE.KSortTup
import KE.KDictSum
import PyProof.Rows.Range3
import KE.KEqDict
import KE.KRevIter
import PyProof.EnumStmt
set_option Elab.async false
set_option linter.all false
set_option maxRecDepth 100000
namespace L2
open PySem PySem.Spec PyProof.Rows
abbrev Key := Sum Int Str
def keyIs : Key → Value → Bool
  | .inl k, v => Value.isInt k v
  | .inr x, v => Value.isStrOf x v
def keyH (w : World) : Key → Int
  | .inl k => hashInt k
  | .inr x => hashStr w x
theorem keyIs_shape : ∀ {k : Key} {v : Value}, keyIs k v = true → (∃ i t, k = Sum.inl i ∧ v = Value.int i t) ∨ (∃ x t, k = Sum.inr x ∧ v = Value.str x t)
  | .inl i, v, h => by
    obtain ⟨t, e⟩ := Value.isInt_shape (k := i) (v := v) h
    exact .inl ⟨i, t, rfl, e⟩
  | .inr x, v, h => by
    obtain ⟨t, e⟩ := Value.isStrOf_shape (x := x) (v := v) h
    exact .inr ⟨x, t, rfl, e⟩
theorem key_ll (a b : Int) : decide ((Sum.inl a : Key) = Sum.inl b) = (a == b) := by
  by_cases e : a = b
  · subst e; simp
  · have h : ¬ (Sum.inl a : Key) = Sum.inl b := fun q => e (Sum.inl.inj q)
    rw [decide_eq_false h]
    exact (beq_eq_false_iff_ne.mpr e).symm
theorem key_rr (a b : Str) : decide ((Sum.inr a : Key) = Sum.inr b) = decide (a = b) := by
  by_cases e : a = b
  · subst e; simp
  · have h : ¬ (Sum.inr a : Key) = Sum.inr b := fun q => e (Sum.inr.inj q)
    rw [decide_eq_false h, decide_eq_false e]
theorem key_lr (a : Int) (b : Str) : decide ((Sum.inl a : Key) = Sum.inr b) = false := decide_eq_false (fun q => nomatch q)
theorem key_rl (a : Str) (b : Int) : decide ((Sum.inr a : Key) = Sum.inl b) = false := decide_eq_false (fun q => nomatch q)
def mixKind (prog : Program) (w : World) : PySem.KeyKind prog w Key where
  is := keyIs
  hash := keyH w
  inj := fun v a b ha hb => by
    rcases keyIs_shape ha with ⟨i, t, rfl, rfl⟩ | ⟨x, t, rfl, rfl⟩
    · rcases keyIs_shape hb with ⟨j, u, rfl, e⟩ | ⟨y, u, rfl, e⟩
      · injection e with e1 _; rw [e1]
      · exact nomatch e
    · rcases keyIs_shape hb with ⟨j, u, rfl, e⟩ | ⟨y, u, rfl, e⟩
      · exact nomatch e
      · injection e with e1 _; rw [e1]
  byValue := fun k v h => by
    rcases keyIs_shape h with ⟨i, t, rfl, rfl⟩ | ⟨x, t, rfl, rfl⟩ <;> rfl
  pyHash := fun hv h => by
    rcases keyIs_shape hv with ⟨i, t, rfl, rfl⟩ | ⟨x, t, rfl, rfl⟩
    · exact wpAny_pyHash_int h
    · exact wpAny_pyHash_str h
  eqBool := fun hu hv h => by
    rcases keyIs_shape hu with ⟨i, t, rfl, rfl⟩ | ⟨x, t, rfl, rfl⟩
    · rcases keyIs_shape hv with ⟨j, u, rfl, rfl⟩ | ⟨y, u, rfl, rfl⟩
      · rw [key_ll] at h; exact wpAny_eqBool_int h
      · rw [key_lr] at h; exact SeqAt.EqAt.int_str i t y u _ _ _ _ h
    · rcases keyIs_shape hv with ⟨j, u, rfl, rfl⟩ | ⟨y, u, rfl, rfl⟩
      · rw [key_rl] at h; exact SeqAt.EqAt.str_int x t j u _ _ _ _ h
      · rw [key_rr] at h; exact wpAny_eqBool_str h
  «strs» := fun k x t v h => by
    rcases keyIs_shape h with ⟨i, u, rfl, e⟩ | ⟨y, u, rfl, e⟩
    · exact nomatch e
    · injection e with e1 _
      subst e1
      cases v <;> rfl
end L2
namespace L2
open PySem PySem.Spec PyProof.Rows
inductive V where
  | non | bl (b : Bool) | int (i : Int) | str (x : Str) | byt (b : Array UInt8) | flt (b : UInt64) | ref (a : Addr) | ty (n : String)
  deriving DecidableEq
def RelV : V → Value → Prop
  | .non, u => u = Value.none
  | .bl b, u => u = Value.bool b
  | .int i, u => ∃ t, u = Value.int i t
  | .str x, u => ∃ t, u = Value.str x t
  | .byt b, u => ∃ t, u = Value.bytes b t
  | .flt b, u => ∃ t, u = Value.float b t
  | .ref a, u => u = Value.ref a
  | .ty n, u => u = Value.type n
abbrev Vals : List V → List Value → Prop := Paired RelV
theorem Vals.length {xs : List V} {us : List Value} (r : Vals xs us) : xs.length = us.length := Paired.length r
theorem Vals.get : ∀ {xs : List V} {us : List Value} {i : Nat} {x : V}, Vals xs us → xs[i]? = some x → ∃ u, us[i]? = some u ∧ RelV x u
  | _, _, _, _, .nil, e => by simp at e
  | _, _, 0, _, .cons r _, e => by simp at e; subst e; exact ⟨_, rfl, r⟩
  | _, _, i + 1, x, .cons _ t, e => by
    obtain ⟨u, h1, h2⟩ := Vals.get (i := i) (x := x) t (by simpa using e)
    exact ⟨u, by simpa using h1, h2⟩
theorem Vals.set {x : V} {u : Value} (r : RelV x u) : ∀ {xs : List V} {us : List Value} (i : Nat), Vals xs us → Vals (xs.set i x) (us.set i u)
  | _, _, _, .nil => .nil
  | _, _, 0, .cons _ t => .cons r t
  | _, _, i + 1, .cons q t => .cons q (Vals.set r i t)
theorem Vals.append : ∀ {xs ys : List V} {us ws : List Value}, Vals xs us → Vals ys ws → Vals (xs ++ ys) (us ++ ws)
  | _, _, _, _, .nil, s => s
  | _, _, _, _, .cons r t, s => .cons r (Vals.append t s)
theorem Vals.take : ∀ {xs : List V} {us : List Value} (n : Nat), Vals xs us → Vals (xs.take n) (us.take n)
  | _, _, 0, _ => .nil
  | _, _, _ + 1, .nil => .nil
  | _, _, n + 1, .cons r t => .cons r (Vals.take n t)
theorem Vals.drop : ∀ {xs : List V} {us : List Value} (n : Nat), Vals xs us → Vals (xs.drop n) (us.drop n)
  | _, _, 0, r => r
  | _, _, _ + 1, .nil => .nil
  | _, _, n + 1, .cons _ t => Vals.drop n t
def RelO : Option V → Option Value → Prop
  | some v, some u => RelV v u
  | none, none => True
  | _, _ => False
def KV {κ : Type} : List (κ × V) → List (κ × Value) → Prop := Paired fun (p : κ × V) (q : κ × Value) => p.1 = q.1 ∧ RelV p.2 q.2
def kV : Key → V
  | .inl i => .int i
  | .inr x => .str x
inductive HO where
  | lst (xs : List V)
  | tup (xs : List V)
  | dK (kvs : List (Key × V)) | dT (kvs : List (List Key × V))
  | set (S : Int → Bool) (n : Nat)
  | ins (C dx : Addr) (fs : List (Str × V))
  | own (x : Addr)
  | xd (fs : List (Str × V))
  | met (f x : Addr)
  | rng (lo hi : Int)
  | frz (o : Obj) (u : HO)
  | tbl (ps : Array Value)
  | ext (φ : Heap → Prop)
abbrev Hp := Addr → Option HO
def upd (H : Hp) (a : Addr) (o : HO) : Hp := fun b => if b = a then some o else H b
theorem upd_same {H : Hp} {a : Addr} {o : HO} : upd H a o a = some o := by unfold upd; rw [if_pos rfl]
theorem upd_ne {H : Hp} {a b : Addr} {o : HO} (h : b ≠ a) : upd H a o b = H b := by unfold upd; rw [if_neg h]
theorem upd_upd {H : Hp} {a : Addr} {o u : HO} : upd (upd H a o) a u = upd H a u := by
  funext b; unfold upd; split <;> rfl
theorem ne_of {H : Hp} {a b : Addr} {o u : HO} (h : H a = some o) (h' : H b = some u) (d : o ≠ u) : a ≠ b := by
  intro e; subst e; rw [h] at h'; exact d (Option.some.inj h')
theorem ne_of_none {H : Hp} {a b : Addr} {o : HO} (h : H a = some o) (h' : H b = none) : a ≠ b := by
  intro e; subst e; rw [h] at h'; cases h'
def IsTupN (h : Heap) (a : Addr) (items : Array Value) : Prop := ∃ o, h.get? a = some o ∧ o.cls = .type "tuple" ∧ o.dict = none ∧ ∃ n, o.data = .seq items n
theorem IsTupN.new (h : Heap) (items : Array Value) : IsTupN (h.push { cls := .type "tuple", data := .seq items }) h.objs.size items := ⟨_, Heap.get?_push_size _ rfl, rfl, rfl, _, rfl⟩
theorem IsTupN.tup {h : Heap} {a : Addr} {items : Array Value} (x : IsTupN h a items) : IsTup h a items := let ⟨o, e, c, _, n, d⟩ := x; ⟨o, e, c, n, d⟩
section
variable (P : Program) (w : World)
def ObjOk (H : Hp) (h : Heap) (a : Addr) : HO → Prop
  | .lst xs => xs.length ≤ sizeLine ∧ ∃ (its : List Value) (n : Nat), Vals xs its ∧ h.get? a = some { cls := .type "list", data := .seq its.toArray n }
  | .tup xs => xs.length ≤ sizeLine ∧ ∃ its : List Value, Vals xs its ∧ IsTupN h a its.toArray
  | .dK kvs => kvs.length ≤ sizeLine ∧ (a == sysModules) = false ∧ ∃ vs, KV kvs vs ∧ h.DictOf (mixKind P w) a vs
  | .dT kvs => kvs.length ≤ sizeLine ∧ (a == sysModules) = false ∧ ∃ xs : List (List Key × Addr × Value),
      Paired (fun (p : List Key × V) (q : List Key × Addr × Value) => p.1 = q.1 ∧ H q.2.1 = some (.tup (p.1.map kV)) ∧ RelV p.2 q.2.2) kvs xs ∧
      ∃ o es ep, h.get? a = some o ∧ o.ExactDict ∧ o.data = .dict es ep ∧ es.toList = xs.map (entryOfKey (tupleKind (mixKind P w))) ∧ (xs.map (·.1)).Nodup
  | .set S n => h.SetOf (intKind P w) a S n
  | .ins C dx fs => H dx = some (.own a) ∧ fs.length ≤ 1000 ∧ dx ≠ a ∧ h.get? a = some (PySem.W.instObj C dx) ∧
      ∃ mA, h.Ns1 dx mA ∧ (∀ f, RelO (fs.lookup f) (mA f)) ∧ PySem.Within mA (fs.map (·.1))
  | .own _ => ∃ o, h.get? a = some o
  | .xd fs => ∃ mA, h.Ns1 a mA ∧ ∀ f, RelO (fs.lookup f) (mA f)
  | .rng lo hi => ∃ t u v, h.get? a = some { cls := .type "range", data := .fields #[.int lo t, .int hi u, .int 1 v] }
  | .frz o u => h.get? a = some o ∧ ObjOk H h a u
  | .tbl ps => h.get? a = some { cls := .none, data := .fields ps }
  | .met f x => h.get? a = some (PySem.W.methodObj (.ref f) (.ref x))
  | .ext φ => φ h ∧ (∃ o, h.get? a = some o) ∧ ∀ h1 h2 : Heap, φ h1 → (∀ o, h1.get? a = some o → h2.get? a = some o) → φ h2
def HOk (H : Hp) (h : Heap) : Prop := ∀ a o, H a = some o → ObjOk P w H h a o
end
section
variable {P : Program} {w : World} {H H' : Hp} {h h' : Heap} {a : Addr} {o : HO}
theorem ObjOk.lt (x : ObjOk P w H h a o) : a < h.objs.size := by
  cases o with
  | lst xs => obtain ⟨_, _, _, _, e⟩ := x; exact Heap.lt_size e
  | tup xs => obtain ⟨_, _, _, p⟩ := x; exact p.tup.lt
  | dK kvs => obtain ⟨_, _, _, _, o, _, _, e, _⟩ := x; exact Heap.lt_size e
  | dT kvs => obtain ⟨_, _, _, _, o, _, _, e, _⟩ := x; exact Heap.lt_size e
  | set S n => obtain ⟨o, _, _, _, e, _⟩ := x; exact Heap.lt_size e
  | ins C dx fs => obtain ⟨_, _, _, e, _⟩ := x; exact Heap.lt_size e
  | own y => obtain ⟨_, e⟩ := x; exact Heap.lt_size e
  | xd fs => obtain ⟨_, ⟨_, _, _, e, _⟩, _⟩ := x; exact Heap.lt_size e
  | rng lo hi => obtain ⟨_, _, _, e⟩ := x; exact Heap.lt_size e
  | frz ob u => obtain ⟨e, _⟩ := x; exact Heap.lt_size e
  | tbl ps => exact Heap.lt_size (show h.get? a = some _ from x)
  | met f y => exact Heap.lt_size (show h.get? a = some _ from x)
  | ext φ => obtain ⟨_, ⟨_, e⟩, _⟩ := x; exact Heap.lt_size e
theorem Paired.mapP {α β : Type} {F G : α → β → Prop} : ∀ {l₁ : List α} {l₂ : List β}, Paired F l₁ l₂ → (∀ a b, F a b → G a b) → Paired G l₁ l₂
  | _, _, .nil, _ => .nil
  | _, _, .cons r t, f => .cons (f _ _ r) (Paired.mapP t f)
theorem ObjOk.stay (x : ObjOk P w H h a o) (k : ∀ b u, (b = a ∨ H b = some (.own a)) → h.get? b = some u → h'.get? b = some u)
    (ho : ∀ b, H b = some (.own a) → H' b = some (.own a)) (ht : ∀ b xs, H b = some (.tup xs) → H' b = some (.tup xs)) : ObjOk P w H' h' a o := by
  induction o with
  | lst xs => obtain ⟨z, its, n, r, e⟩ := x; exact ⟨z, its, n, r, k _ _ (.inl rfl) e⟩
  | tup xs => obtain ⟨z, its, r, ob, e, c⟩ := x; exact ⟨z, its, r, ob, k _ _ (.inl rfl) e, c⟩
  | dK kvs => obtain ⟨z, y, vs, r, ob, es, ep, e, c⟩ := x; exact ⟨z, y, vs, r, ob, es, ep, k _ _ (.inl rfl) e, c⟩
  | dT kvs =>
    obtain ⟨z, y, xs, r, ob, es, ep, e, c⟩ := x
    exact ⟨z, y, xs, Paired.mapP r fun p q z => ⟨z.1, ht _ _ z.2.1, z.2.2⟩, ob, es, ep, k _ _ (.inl rfl) e, c⟩
  | set S n => obtain ⟨ob, es, ep, t, e, c⟩ := x; exact ⟨ob, es, ep, t, k _ _ (.inl rfl) e, c⟩
  | ins C dx fs =>
    obtain ⟨d, z, ne, e, mA, ⟨od, es, ep, e2, c⟩, r⟩ := x
    exact ⟨ho _ d, z, ne, k _ _ (.inl rfl) e, mA, ⟨od, es, ep, k _ _ (.inr d) e2, c⟩, r⟩
  | own y => obtain ⟨ob, e⟩ := x; exact ⟨ob, k _ _ (.inl rfl) e⟩
  | xd fs => obtain ⟨mA, ⟨od, es, ep, e, c⟩, r⟩ := x; exact ⟨mA, ⟨od, es, ep, k _ _ (.inl rfl) e, c⟩, r⟩
  | rng lo hi => obtain ⟨t, u, v, e⟩ := x; exact ⟨t, u, v, k _ _ (.inl rfl) e⟩
  | frz ob u ih => obtain ⟨e, q⟩ := x; exact ⟨k _ _ (.inl rfl) e, ih q⟩
  | tbl ps =>
    have e : h.get? a = some { cls := .none, data := .fields ps } := x
    show h'.get? a = some { cls := .none, data := .fields ps }
    exact k a _ (.inl rfl) e
  | met f y =>
    have e : h.get? a = some (PySem.W.methodObj (.ref f) (.ref y)) := x
    show h'.get? a = some (PySem.W.methodObj (.ref f) (.ref y))
    exact k a _ (.inl rfl) e
  | ext φ => obtain ⟨p, ⟨o, e⟩, st⟩ := x; exact ⟨st _ _ p fun o q => k _ _ (.inl rfl) q, ⟨o, k _ _ (.inl rfl) e⟩, st⟩
theorem HOk.lt (x : HOk P w H h) (e : H a = some o) : a < h.objs.size := (x a o e).lt
theorem HOk.fresh (x : HOk P w H h) (e : h.objs.size ≤ a) : H a = none := by
  cases q : H a with
  | none => rfl
  | some u => exact absurd (Nat.lt_of_lt_of_le (x.lt q) e) (Nat.lt_irrefl _)
theorem HOk.kept (x : HOk P w H h) (k : ∀ b u, h.get? b = some u → h'.get? b = some u) : HOk P w H h' := fun a o e =>
  (x a o e).stay (fun b u _ q => k b u q) (fun _ q => q) fun _ _ q => q
theorem HOk.laid (x : HOk P w H h) (k : ∀ b u, h.get? b = some u → h'.get? b = some u) (hp : h.objs.size ≤ a) (new : ObjOk P w (upd H a o) h' a o) : HOk P w (upd H a o) h' := fun b u e => by
  have hn := x.fresh hp
  by_cases hb : b = a
  · subst hb; rw [upd_same] at e; cases e; exact new
  · rw [upd_ne hb] at e
    exact (x b u e).stay (fun c v _ q => k c v q) (fun c q => by rw [upd_ne (ne_of_none q hn)]; exact q) fun c xs q => by rw [upd_ne (ne_of_none q hn)]; exact q
end
def Rd (H : Hp) (a : Addr) (u : HO) : Prop := H a = some u ∨ ∃ o, H a = some (.frz o u)
theorem Rd.ok {P : Program} {w : World} {H : Hp} {h : Heap} {a : Addr} {u : HO} (r : Rd H a u) (x : HOk P w H h) : ObjOk P w H h a u := by
  rcases r with r | ⟨o, r⟩
  · exact x a u r
  · obtain ⟨_, q⟩ := x a _ r
    exact q
def Mut : Option HO → Prop
  | some (.lst _) => True
  | some (.dK _) => True
  | some (.dT _) => True
  | some (.set _ _) => True
  | some (.ins _ _ _) => True
  | some (.ext _) => True
  | _ => False
section
variable {P : Program} {w : World} {H : Hp} {h h' : Heap} {x e : Addr} {o' : HO}
theorem HOk.write (ok : HOk P w H h) (mu : Mut (H x)) (he : e = x ∨ H e = some (.own x)) (k : ∀ b u, b ≠ e → h.get? b = some u → h'.get? b = some u) (heo : ∃ u, h'.get? e = some u)
    (new : ObjOk P w (upd H x o') h' x o') : HOk P w (upd H x o') h' := fun b u q => by
  have nown : ∀ c y, H c = some (.own y) → c ≠ x := fun c y r z => by subst z; rw [r] at mu; exact mu
  have ntup : ∀ c xs, H c = some (.tup xs) → c ≠ x := fun c xs r z => by subst z; rw [r] at mu; exact mu
  by_cases hb : b = x
  · subst hb; rw [upd_same] at q; cases q; exact new
  · rw [upd_ne hb] at q
    by_cases hbe : b = e
    · have q' : H b = some (.own x) := by
        rcases he with z | z
        · exact absurd (hbe.trans z) hb
        · rw [hbe]; exact z
      rw [q] at q'; cases q'
      obtain ⟨v, hv⟩ := heo
      exact ⟨v, by rw [hbe]; exact hv⟩
    · refine (ok b u q).stay (fun c v hc r => k c v ?_ r) (fun c r => by rw [upd_ne (nown c b r)]; exact r) fun c xs r => by rw [upd_ne (ntup c xs r)]; exact r
      rcases hc with rfl | hc
      · exact hbe
      · rintro rfl
        rcases he with z | z
        · exact nown c b hc z
        · rw [hc] at z; cases z; exact hb rfl
end
structure Un (fs ex : List Addr) (H H' : Hp) (h h' : Heap) : Prop where
  keep : ∀ b o, h.get? b = some o → H b = none → b ∉ fs → b ∉ ex → h'.get? b = some o
  slot : ∀ b o, h.get? b = some o → H b = none → b ∈ fs → b ∉ ex → ∃ sl, h'.get? b = some { o with slots := sl }
  free : ∀ b o, h.get? b = some o → H b = none → b ∉ ex → H' b = none
  there : ∀ b o, h.get? b = some o → b ∉ ex → ∃ o', h'.get? b = some o'
  tups : ∀ b xs, H b = some (.tup xs) → H' b = some (.tup xs)
  frzs : ∀ b o u, H b = some (.frz o u) → H' b = some (.frz o u)
  tbls : ∀ b ps, H b = some (.tbl ps) → ∃ more, H' b = some (.tbl (ps ++ more))
section
variable {fs fs' ex ex' : List Addr} {H H1 H2 : Hp} {h h1 h2 h' : Heap} {a x e : Addr} {o : HO}
theorem Un.any (u : Un fs ex H H1 h h1) {b : Addr} {ob : Obj} (q : h.get? b = some ob) (n : H b = none) (hx : b ∉ ex) : ∃ sl, h1.get? b = some { ob with slots := sl } := by
  by_cases hb : b ∈ fs
  · exact u.slot b ob q n hb hx
  · exact ⟨ob.slots, u.keep b ob q n hb hx⟩
theorem Un.kept (k : ∀ b u, h.get? b = some u → h'.get? b = some u) : Un fs ex H H h h' :=
  ⟨fun b ob q _ _ _ => k b ob q, fun b ob q _ _ _ => ⟨ob.slots, k b ob q⟩, fun _ _ _ n _ => n, fun b ob q _ => ⟨ob, k b ob q⟩, fun _ _ q => q, fun _ _ _ q => q, fun _ ps q => ⟨#[], by rw [q]; simp⟩⟩
theorem Un.refl : Un fs ex H H h h := Un.kept fun _ _ q => q
theorem Un.laid (k : ∀ b u, h.get? b = some u → h'.get? b = some u) (hp : h.objs.size ≤ a) (hn : H a = none) : Un fs ex H (upd H a o) h h' where
  keep := fun b u q _ _ _ => k b u q
  slot := fun b u q _ _ _ => ⟨u.slots, k b u q⟩
  free := fun b u q n _ => by rw [upd_ne (Nat.ne_of_lt (Nat.lt_of_lt_of_le (Heap.lt_size q) hp))]; exact n
  there := fun b u q _ => ⟨u, k b u q⟩
  tups := fun b xs q => by rw [upd_ne (ne_of_none q hn)]; exact q
  frzs := fun b u xs q => by rw [upd_ne (ne_of_none q hn)]; exact q
  tbls := fun b ps q => ⟨#[], by rw [upd_ne (ne_of_none q hn), q]; simp⟩
theorem Un.write (mu : Mut (H x)) (he : e = x ∨ H e = some (.own x)) (k : ∀ b u, b ≠ e → h.get? b = some u → h'.get? b = some u) (heo : ∃ u, h'.get? e = some u) : Un fs ex H (upd H x o) h h' := by
  have hx : ∀ b, H b = none → b ≠ x := fun b n z => by subst z; rw [n] at mu; exact mu
  have hb : ∀ b, H b = none → b ≠ e := fun b n z => by
    subst z
    rcases he with r | r
    · exact hx b n r
    · rw [n] at r; cases r
  have hm : ∀ b u, H b = some u → ¬ Mut (some u) → b ≠ x := fun b u q nm z => by subst z; rw [q] at mu; exact nm mu
  refine ⟨fun b u q n _ _ => k b u (hb b n) q, fun b u q n _ _ => ⟨u.slots, k b u (hb b n) q⟩, fun b u q n _ => by rw [upd_ne (hx b n)]; exact n, fun b u q _ => ?_,
    fun b xs q => by rw [upd_ne (hm b _ q fun z => z)]; exact q, fun b u xs q => by rw [upd_ne (hm b _ q fun z => z)]; exact q, fun b ps q => ⟨#[], by rw [upd_ne (hm b _ q fun z => z), q]; simp⟩⟩
  by_cases hbe : b = e
  · subst hbe; exact heo
  · exact ⟨u, k b u hbe q⟩
end
def trk (h : Heap) (H : Hp) : List Addr := (List.range h.objs.size).filter fun a => (H a).isSome
def hidT (h : Heap) (H : Hp) : Heap := PySem.W.hideAll h (trk h H)
theorem hidT_size (h : Heap) (H : Hp) : (hidT h H).objs.size = h.objs.size := PySem.W.hideAll_size _ _
theorem hidT_get {h : Heap} {H : Hp} {b : Addr} {o : Obj} (e : h.get? b = some o) (n : H b = none) : (hidT h H).get? b = some o :=
  PySem.W.hideAll_get _ e fun hm => by
    have q : (H b).isSome = true := (List.mem_filter.mp hm).2
    rw [n] at q; simp at q
theorem of_hidT {h : Heap} {H : Hp} {b : Addr} {o : Obj} (e : (hidT h H).get? b = some o) : h.get? b = some o ∧ H b = none := by
  have e' : h.get? b = some o := PySem.W.of_hideAll (trk h H) e
  refine ⟨e', ?_⟩
  cases q : H b with
  | none => rfl
  | some x =>
    have hm : b ∈ trk h H := List.mem_filter.mpr ⟨List.mem_range.mpr (Heap.lt_size e'), by simp [q]⟩
    have z : (hidT h H).get? b = none := PySem.W.hideAll_none (trk h H) hm
    rw [z] at e; cases e
end L2
namespace L2
open PySem PySem.Spec PyProof.Rows
structure Mod (K : PySem.W.Frag) (mg : Str → Option Value) (base : Heap) : Prop where
  kin : K.In base
  glob : base.Ns mainGlobals mg
  blt : ∃ mb, base.Ns builtinsNs mb ∧ ∀ x : Str, x ≠ "__name__" → mb x = bootBuiltins x
  nolimit : base.NoLimit
structure Cx where
  prog : Program
  w : World
  K : PySem.W.Frag
  mg : Str → Option Value
  base : Heap
  A : Around
  N : List Str
  s₀ : Shared
  H₀ : Hp
  env : Env
  outer : List Env
  stack : List Env
  ex : List Addr
  fn : Str → Bool
  calm : Bool
  pn : List (Addr × Obj)
  xe : Value → Shared → Prop
def frs (l : List Env) : List Addr := l.filterMap (·.frame)
abbrev Cx.fs (X : Cx) : List Addr := frs X.outer
def Vis (sc : Scope) (x : Str) : Prop := sc.names.lookup x = some .local ∨ sc.names.lookup x = some .cell ∨ sc.names.lookup x = some .free
def Loc (sc : Scope) (x : Str) : Prop := sc.names.lookup x = some .local ∨ sc.names.lookup x = some .cell
def Look (env : Env) (h : Heap) (m : Str → Option Value) (x : Str) (u : Value) : Prop :=
  (env.kindOf x = some .local ∧ m x = some u) ∨ ((env.kindOf x = some .cell ∨ env.kindOf x = some .free) ∧ ∃ c, env.cells.lookup x = some c ∧ h.IsCell c (some u))
structure Cx.Ok (X : Cx) : Prop where
  mod : Mod X.K X.mg X.base
  kind : X.env.scope.kind = .function
  glob : X.env.globals = mainGlobals
  blt : X.env.builtins = builtinsNs
  above : X.s₀.heap.objs.size ≤ X.env.locals
  inj : ∀ x y c, X.env.cells.lookup x = some c → X.env.cells.lookup y = some c → x = y
  has : ∀ x, (X.env.kindOf x = some .cell ∨ X.env.kindOf x = some .free) → ∃ c, X.env.cells.lookup x = some c
  cab : ∀ x c, X.fn x = true → X.env.cells.lookup x = some c → X.s₀.heap.objs.size ≤ c
  hd : X.calm = true → X.A.handled = none
  frames : X.A.frames = some X.stack
  stk : X.stack = X.outer ∨ (X.stack = X.env :: X.outer ∧ X.env.frame = some X.env.locals)
  exf : ∀ b ∈ X.ex, b ≠ X.env.locals ∧ ∀ x c, X.env.cells.lookup x = some c → c ≠ b
  bs : ∀ b o, X.base.get? b = some o → X.s₀.heap.get? b = some o ∧ X.H₀ b = none
  bsz : X.base.objs.size ≤ X.s₀.heap.objs.size
  noex : ∀ b o, X.base.get? b = some o → b ∉ X.ex
  exfs : ∀ b ∈ X.ex, b ∉ X.fs
  funs : X.s₀.heap.FunFrames X.base X.outer
  frf : ∀ b ∈ X.fs, X.H₀ b = none
structure Inv (X : Cx) (pins : List (Addr × Obj)) (σ : List (Option V)) (H : Hp) (s : Shared) : Prop where
  ok : X.Ok
  os : s.os = X.s₀.os
  bare : AllBare s.gens
  base : Un X.fs X.ex X.H₀ H X.s₀.heap s.heap
  loc : ∃ m, s.heap.Ns X.env.locals m ∧ ∀ (i : Nat) (x : Str) (v : V), X.N[i]? = some x → σ[i]? = some (some v) → Vis X.env.scope x → ∃ u, RelV v u ∧ Look X.env s.heap m x u
  cell : ∀ x c, X.env.cells.lookup x = some c → ∃ v, s.heap.IsCell c v
  free : H X.env.locals = none
  freeC : ∀ x c, X.env.cells.lookup x = some c → H c = none
  pin : ∀ p ∈ X.pn ++ pins, s.heap.get? p.1 = some p.2 ∧ H p.1 = none ∧ p.1 ≠ X.env.locals ∧ p.1 ∉ X.fs ∧ ∀ v, p.2.data ≠ .cell v
  hok : HOk X.prog X.w H s.heap
  len : σ.length = X.N.length
section
variable {X : Cx} {pins : List (Addr × Obj)} {σ : List (Option V)} {H H' : Hp} {s : Shared} {h' : Heap}
theorem Cx.Ok.nofr (ok : X.Ok) {b : Addr} {o : Obj} (e : X.base.get? b = some o) : b ∉ X.fs := fun hb => by
  have := (ok.funs.mem hb).1
  rw [e] at this; cases this
theorem Inv.bs (I : Inv X pins σ H s) : ∀ b o, X.base.get? b = some o → s.heap.get? b = some o ∧ H b = none := fun b o e =>
  ⟨I.base.keep b o (I.ok.bs b o e).1 (I.ok.bs b o e).2 (I.ok.nofr e) (I.ok.noex b o e), I.base.free b o (I.ok.bs b o e).1 (I.ok.bs b o e).2 (I.ok.noex b o e)⟩
theorem Inv.bk (I : Inv X pins σ H s) : ∀ b o, X.base.get? b = some o → s.heap.get? b = some o := fun b o e => (I.bs b o e).1
theorem Inv.mod (I : Inv X pins σ H s) : Mod X.K X.mg X.base := I.ok.mod
theorem Inv.kIn (I : Inv X pins σ H s) : X.K.In s.heap := I.ok.mod.kin.keeps I.bk
theorem Inv.lt (I : Inv X pins σ H s) : X.env.locals < s.heap.objs.size := let ⟨_, hn, _⟩ := I.loc; hn.lt
theorem Inv.sz (I : Inv X pins σ H s) : X.s₀.heap.objs.size ≤ s.heap.objs.size := Nat.le_trans I.ok.above (Nat.le_of_lt I.lt)
theorem Inv.nofs (I : Inv X pins σ H s) {a : Addr} (h : s.heap.objs.size ≤ a) : a ∉ X.fs := fun hb => by
  obtain ⟨_, o, ho, _⟩ := I.ok.funs.mem hb
  exact absurd (Nat.lt_of_lt_of_le (Heap.lt_size ho) (Nat.le_trans I.sz h)) (Nat.lt_irrefl _)
theorem Inv.cne (I : Inv X pins σ H s) : ∀ x c, X.env.cells.lookup x = some c → c ≠ X.env.locals := fun x c e z => by
  obtain ⟨v, o, ho, hd⟩ := I.cell x c e
  obtain ⟨m, ⟨o', es, ep, ho', hd', _⟩, _⟩ := I.loc
  rw [z, ho'] at ho; cases ho; rw [hd'] at hd; cases hd
theorem Inv.funs (I : Inv X pins σ H s) : s.heap.FunFrames X.base X.outer := by
  have all : ∀ (l : List Env), (∀ b ∈ frs l, b ∈ X.fs) → X.s₀.heap.FunFrames X.base l → s.heap.FunFrames X.base l := by
    intro l
    induction l with
    | nil => intro _ _; trivial
    | cons env r ih =>
      intro hs hl
      obtain ⟨hk, ⟨L, o, hf, hn, ho, hd⟩, hr⟩ := hl
      have hL : L ∈ X.fs := hs L (by unfold frs; rw [List.filterMap_cons, hf]; exact List.mem_cons_self)
      obtain ⟨sl, e⟩ := I.base.slot L o ho (I.ok.frf L hL) hL fun z => I.ok.exfs L z hL
      exact ⟨hk, ⟨L, _, hf, hn, e, hd⟩, ih (fun b hb => hs b (by unfold frs; rw [List.filterMap_cons, hf]; exact List.mem_cons_of_mem _ hb)) hr⟩
  exact all X.outer (fun _ hb => hb) I.ok.funs
theorem Inv.stack (I : Inv X pins σ H s) : s.heap.FunFrames X.base X.stack := by
  rcases I.ok.stk with e | ⟨e, hf⟩
  · rw [e]; exact I.funs
  · rw [e]
    obtain ⟨m, hn, _⟩ := I.loc
    refine .cons (by rw [I.ok.kind]; decide) hf hn ?_ I.funs
    exact Heap.get?_none_of_le (Nat.le_trans I.ok.bsz I.ok.above)
theorem Inv.stkSub (I : Inv X pins σ H s) : ∀ b ∈ frs X.stack, b ∈ X.env.locals :: X.fs := fun b hb => by
  rcases I.ok.stk with e | ⟨e, hf⟩
  · rw [e] at hb; exact List.mem_cons_of_mem _ hb
  · rw [e] at hb
    unfold frs at hb
    rw [List.filterMap_cons, hf] at hb
    exact hb
theorem Inv.stkFree (I : Inv X pins σ H s) : ∀ b ∈ frs X.stack, H b = none := fun b hb => by
  rcases List.mem_cons.mp (I.stkSub b hb) with e | hb
  · rw [e]; exact I.free
  · obtain ⟨_, o, ho, _⟩ := I.ok.funs.mem hb
    exact I.base.free b o ho (I.ok.frf b hb) fun z => I.ok.exfs b z hb
theorem Inv.step {g' : Array GenState} {t' : Nat} {d' : Drawn} {ch : List Addr} (I : Inv X pins σ H s)
    (hch : ∀ b ∈ ch, (b ∈ X.ex ∨ X.s₀.heap.objs.size ≤ b) ∧ b ≠ X.env.locals ∧ (∀ x c, X.env.cells.lookup x = some c → c ≠ b) ∧ ∀ p ∈ X.pn ++ pins, p.1 ≠ b)
    (keep : ∀ b o, b ≠ X.env.locals → b ∉ X.fs → b ∉ ch → s.heap.get? b = some o → H b = none → h'.get? b = some o)
    (slot : ∀ b o, b ≠ X.env.locals → b ∈ X.fs → b ∉ ch → s.heap.get? b = some o → H b = none → ∃ sl, h'.get? b = some { o with slots := sl }) (free : ∀ b o, b ∉ ch → s.heap.get? b = some o → H b = none → H' b = none)
    (there : ∀ b o, b ∉ ch → s.heap.get? b = some o → ∃ o', h'.get? b = some o')
    (tups : ∀ b xs, H b = some (.tup xs) → H' b = some (.tup xs)) (frzs : ∀ b o u, H b = some (.frz o u) → H' b = some (.frz o u)) (tbls : ∀ b ps, H b = some (.tbl ps) → ∃ more, H' b = some (.tbl (ps ++ more)))
    (ns : ∀ m, s.heap.Ns X.env.locals m → h'.Ns X.env.locals m) (hok : HOk X.prog X.w H' h') (hg : AllBare g') :
    Inv X pins σ H' { s with heap := h', gens := g', drawn := d', toks := t' } := by
  have neL : ∀ b o, X.s₀.heap.get? b = some o → b ≠ X.env.locals := fun b o e => Nat.ne_of_lt (Nat.lt_of_lt_of_le (Heap.lt_size e) I.ok.above)
  have neC : ∀ b o, X.s₀.heap.get? b = some o → b ∉ X.ex → b ∉ ch := fun b o e hx hb => by
    rcases (hch b hb).1 with z | z
    · exact hx z
    · exact absurd (Nat.lt_of_lt_of_le (Heap.lt_size e) z) (Nat.lt_irrefl _)
  have cellK : ∀ x c, X.env.cells.lookup x = some c → ∀ v, s.heap.IsCell c v → h'.IsCell c v := fun x c e v ⟨o, ho, hd⟩ => by
    have nch : c ∉ ch := fun z => (hch c z).2.2.1 x c e rfl
    by_cases hc : c ∈ X.fs
    · obtain ⟨sl, q⟩ := slot c o (I.cne x c e) hc nch ho (I.freeC x c e)
      exact ⟨_, q, hd⟩
    · exact ⟨o, keep c o (I.cne x c e) hc nch ho (I.freeC x c e), hd⟩
  refine ⟨I.ok, I.os, hg, ⟨fun b o e n hb hx => ?_, fun b o e n hb hx => ?_, fun b o e n hx => ?_, fun b o e hx => ?_, fun b xs e => tups b xs (I.base.tups b xs e), fun b o xs e => frzs b o xs (I.base.frzs b o xs e), fun b ps e => ?_⟩, ?_, fun x c e => ?_, ?_, fun x c e => ?_, fun p hp => ?_, hok, I.len⟩
  · exact keep b o (neL b o e) hb (neC b o e hx) (I.base.keep b o e n hb hx) (I.base.free b o e n hx)
  · obtain ⟨sl, e1⟩ := I.base.slot b o e n hb hx
    obtain ⟨sl', e2⟩ := slot b _ (neL b o e) hb (neC b o e hx) e1 (I.base.free b o e n hx)
    exact ⟨sl', e2⟩
  · obtain ⟨o', e1⟩ := I.base.there b o e hx
    exact free b o' (neC b o e hx) e1 (I.base.free b o e n hx)
  · obtain ⟨o', e1⟩ := I.base.there b o e hx
    exact there b o' (neC b o e hx) e1
  · obtain ⟨m1, e1⟩ := I.base.tbls b ps e
    obtain ⟨m2, e2⟩ := tbls b _ e1
    exact ⟨m1 ++ m2, by rw [e2, Array.append_assoc]⟩
  · obtain ⟨m, hn, hl⟩ := I.loc
    refine ⟨m, ns m hn, fun i x v e1 e2 e3 => ?_⟩
    obtain ⟨u, r, l⟩ := hl i x v e1 e2 e3
    refine ⟨u, r, ?_⟩
    rcases l with l | ⟨k, c, e, z⟩
    · exact .inl l
    · exact .inr ⟨k, c, e, cellK x c e _ z⟩
  · obtain ⟨v, z⟩ := I.cell x c e
    exact ⟨v, cellK x c e v z⟩
  · obtain ⟨m, ⟨o, _, _, ho, _⟩, _⟩ := I.loc
    exact free _ o (fun z => (hch _ z).2.1 rfl) ho I.free
  · obtain ⟨v, o, ho, hd⟩ := I.cell x c e
    exact free c o (fun z => (hch c z).2.2.1 x c e rfl) ho (I.freeC x c e)
  · obtain ⟨e, n, ne, nf, d⟩ := I.pin p hp
    have nch : p.1 ∉ ch := fun z => (hch p.1 z).2.2.2 p hp rfl
    exact ⟨keep p.1 p.2 ne nf nch e n, free p.1 p.2 nch e n, ne, nf, d⟩
theorem Inv.un {t' : Nat} (I : Inv X pins σ H s) (u : Un X.fs [] H H' s.heap h') (hok : HOk X.prog X.w H' h') : Inv X pins σ H' { s with heap := h', toks := t' } := by
  obtain ⟨m, ⟨o, es, ep, ho, r⟩, _⟩ := id I.loc
  obtain ⟨sl, hL⟩ := u.any ho I.free (by simp)
  exact I.step (g' := s.gens) (d' := s.drawn) (ch := []) (fun _ z => nomatch z) (fun b o _ hb _ e n => u.keep b o e n hb (by simp)) (fun b o _ hb _ e n => u.slot b o e n hb (by simp)) (fun b o _ e n => u.free b o e n (by simp)) (fun b o _ e => u.there b o e (by simp)) u.tups u.frzs u.tbls (fun m' hm => by
    obtain ⟨o', es', ep', ho', r'⟩ := hm
    rw [ho] at ho'; cases ho'
    exact ⟨_, es', ep', hL, r'⟩) hok I.bare
theorem Inv.call {g' : Array GenState} {t' : Nat} {d' : Drawn} {ch : List Addr} (I : Inv X pins σ H s) (u : Un (frs X.stack) ch H H' s.heap h') (hok : HOk X.prog X.w H' h') (hg : AllBare g')
    (hch : ∀ b ∈ ch, (b ∈ X.ex ∨ X.s₀.heap.objs.size ≤ b) ∧ b ≠ X.env.locals ∧ (∀ x c, X.env.cells.lookup x = some c → c ≠ b) ∧ ∀ p ∈ X.pn ++ pins, p.1 ≠ b) :
    Inv X pins σ H' { s with heap := h', gens := g', drawn := d', toks := t' } := by
  obtain ⟨m, ⟨o, es, ep, ho, r⟩, _⟩ := id I.loc
  obtain ⟨sl, hL⟩ := u.any ho I.free fun z => (hch _ z).2.1 rfl
  exact I.step (ch := ch) hch (fun b o hL hb hc e n => u.keep b o e n (fun z => (List.mem_cons.mp (I.stkSub b z)).elim hL hb) hc) (fun b o _ _ hc e n => u.any e n hc) (fun b o hc e n => u.free b o e n hc) (fun b o hc e => u.there b o e hc) u.tups u.frzs u.tbls (fun m' hm => by
    obtain ⟨o', es', ep', ho', r'⟩ := hm
    rw [ho] at ho'; cases ho'
    exact ⟨_, es', ep', hL, r'⟩) hok hg
theorem Inv.turned {t' : Nat} {it : Addr} (I : Inv X pins σ H s) (k : ∀ b o, b ≠ it → s.heap.get? b = some o → h'.get? b = some o) (hn : H it = none) (hL : it ≠ X.env.locals)
    (h1 : it ∈ X.ex ∨ X.s₀.heap.objs.size ≤ it) (h2 : ∀ x c, X.env.cells.lookup x = some c → c ≠ it) (h3 : ∀ p ∈ X.pn ++ pins, p.1 ≠ it) : Inv X pins σ H { s with heap := h', toks := t' } := by
  have nit : ∀ b u, H b = some u → b ≠ it := fun b u e z => by rw [z, hn] at e; cases e
  refine I.step (g' := s.gens) (d' := s.drawn) (ch := [it]) (fun b hb => ?_) (fun b o _ _ hc e _ => k b o (fun z => hc (by simp [z])) e) (fun b o _ _ hc e _ => ⟨o.slots, k b o (fun z => hc (by simp [z])) e⟩) (fun _ _ _ _ n => n)
    (fun b o hc e => ⟨o, k b o (fun z => hc (by simp [z])) e⟩) (fun _ _ e => e) (fun _ _ _ e => e) (fun b ps e => ⟨#[], by rw [e]; simp⟩) (fun m hm => ?_) (fun b u e => ?_) I.bare
  · have e : b = it := by simpa using hb
    subst e
    exact ⟨h1, hL, h2, h3⟩
  · obtain ⟨o, es, ep, ho, r⟩ := hm
    exact ⟨o, es, ep, k _ o (Ne.symm hL) ho, r⟩
  · refine (I.hok b u e).stay (fun c v hc q => k c v ?_ q) (fun _ q => q) fun _ _ q => q
    rcases hc with z | z
    · rw [z]; exact nit b u e
    · exact nit c _ z
theorem Inv.tok (I : Inv X pins σ H s) (t : Nat) : Inv X pins σ H { s with toks := t } := I.un (h' := s.heap) (t' := t) Un.refl I.hok
theorem Inv.kept {t' : Nat} (I : Inv X pins σ H s) (k : ∀ b u, s.heap.get? b = some u → h'.get? b = some u) : Inv X pins σ H { s with heap := h', toks := t' } := I.un (Un.kept k) (I.hok.kept k)
theorem Inv.laid {a : Addr} {o : HO} {t' : Nat} (I : Inv X pins σ H s) (k : ∀ b u, s.heap.get? b = some u → h'.get? b = some u) (hp : s.heap.objs.size ≤ a) (new : ObjOk X.prog X.w (upd H a o) h' a o) :
    Inv X pins σ (upd H a o) { s with heap := h', toks := t' } := I.un (Un.laid k hp (I.hok.fresh hp)) (I.hok.laid k hp new)
theorem Inv.write {x e : Addr} {o : HO} {t' : Nat} (I : Inv X pins σ H s) (mu : Mut (H x)) (he : e = x ∨ H e = some (.own x)) (k : ∀ b u, b ≠ e → s.heap.get? b = some u → h'.get? b = some u) (heo : ∃ u, h'.get? e = some u)
    (new : ObjOk X.prog X.w (upd H x o) h' x o) : Inv X pins σ (upd H x o) { s with heap := h', toks := t' } := I.un (Un.write mu he k heo) (I.hok.write mu he k heo new)
theorem Inv.pins_of {pins' : List (Addr × Obj)} (I : Inv X pins σ H s) (h : ∀ p ∈ pins', s.heap.get? p.1 = some p.2 ∧ H p.1 = none ∧ p.1 ≠ X.env.locals ∧ p.1 ∉ X.fs ∧ ∀ v, p.2.data ≠ .cell v) : Inv X pins' σ H s :=
  ⟨I.ok, I.os, I.bare, I.base, I.loc, I.cell, I.free, I.freeC, fun p hp => (List.mem_append.mp hp).elim (fun z => I.pin p (List.mem_append_left _ z)) (h p), I.hok, I.len⟩
theorem nodup_ix {N : List Str} (hN : N.Nodup) {i j : Nat} {x : Str} (a : N[i]? = some x) (b : N[j]? = some x) : i = j := by
  obtain ⟨h1, e1⟩ := List.getElem?_eq_some_iff.mp a
  obtain ⟨h2, e2⟩ := List.getElem?_eq_some_iff.mp b
  exact (List.getElem_inj hN).mp (e1.trans e2.symm)
theorem store_ok2 {M : Model} {A : Around} {E : Value → Shared → Prop} {i : Nat} {x : Str} {v : V} {u : Value} {Q : Unit → Shared → Prop} (I : Inv X pins σ H s) (hN : X.N.Nodup) (hi : X.N[i]? = some x) (hx : Loc X.env.scope x) (r : RelV v u)
    (h : ∀ s', Inv X pins (σ.set i (some v)) H s' → (∃ a, Heap.SameBut a s.heap s'.heap ∧ (a = X.env.locals ∨ X.env.cells.lookup x = some a)) → Q () s') (hf : X.fn x = true ∨ X.env.scope.names.lookup x = some .local := by first | exact .inl rfl | exact .inr rfl | assumption) : wpAny M A (storeName X.env x u) Q E s := by
  obtain ⟨m, hn, hl⟩ := id I.loc
  have hcls : (X.env.scope.kind == .class || (X.env.scope.kind == .module && X.env.locals != X.env.globals)) = false := by rw [I.ok.kind]; rfl
  have hiσ : i < σ.length := by rw [I.len]; exact (List.getElem?_eq_some_iff.mp hi).1
  have cne := I.cne
  have tracked : ∀ {a : Addr} {h' : Heap}, (∃ o, s.heap.get? a = some o ∧ H a = none) → Heap.SameBut a s.heap h' → HOk X.prog X.w H h' := fun {a h'} ha hs b ob e => by
    obtain ⟨_, _, hfree⟩ := ha
    refine (I.hok b ob e).stay (fun c w' hc q => (hs.2 c ?_).trans q) (fun _ q => q) fun _ _ q => q
    rintro rfl
    rcases hc with rfl | hc
    · rw [hfree] at e; cases e
    · rw [hfree] at hc; cases hc
  rcases hx with hk | hk
  · refine wpAny_storeName_local hk hn (fun h' hn' hs => ?_) hcls
    obtain ⟨oL, _, _, hoL, _⟩ := id hn
    refine h _ ⟨I.ok, I.os, I.bare, ⟨fun b o e n hb hx => ?_, fun b o e n hb hx => ?_, I.base.free, fun b o e hx => ?_, I.base.tups, I.base.frzs, I.base.tbls⟩, ⟨_, hn', fun j y v' e1 e2 e3 => ?_⟩, fun y c e => ?_, I.free, I.freeC, fun p hp => ?_, tracked ⟨oL, hoL, I.free⟩ hs, by simpa using I.len⟩ ⟨_, hs, .inl rfl⟩
    · exact (hs.2 b (Nat.ne_of_lt (Nat.lt_of_lt_of_le (Heap.lt_size e) I.ok.above))).trans (I.base.keep b o e n hb hx)
    · obtain ⟨sl, e1⟩ := I.base.slot b o e n hb hx
      exact ⟨sl, (hs.2 b (Nat.ne_of_lt (Nat.lt_of_lt_of_le (Heap.lt_size e) I.ok.above))).trans e1⟩
    · obtain ⟨o', e1⟩ := I.base.there b o e hx
      exact ⟨o', (hs.2 b (Nat.ne_of_lt (Nat.lt_of_lt_of_le (Heap.lt_size e) I.ok.above))).trans e1⟩
    · by_cases hj : j = i
      · subst hj
        rw [hi] at e1; cases e1
        rw [List.getElem?_set_self hiσ] at e2
        cases e2
        exact ⟨u, r, .inl ⟨hk, by simp⟩⟩
      · rw [List.getElem?_set_ne (Ne.symm hj)] at e2
        obtain ⟨u', r', q⟩ := hl j y v' e1 e2 e3
        refine ⟨u', r', ?_⟩
        rcases q with ⟨k, e⟩ | ⟨k, c, e, z⟩
        · refine .inl ⟨k, ?_⟩
          have : y ≠ x := fun e => hj (nodup_ix hN e1 (e ▸ hi))
          simp [this, e]
        · exact .inr ⟨k, c, e, z.sameBut hs (cne y c e)⟩
    · obtain ⟨w', z⟩ := I.cell y c e
      exact ⟨w', z.sameBut hs (cne y c e)⟩
    · obtain ⟨e, n, ne, nf, d⟩ := I.pin p hp
      exact ⟨(hs.2 p.1 ne).trans e, n, ne, nf, d⟩
  · have hfn : X.fn x = true := by
      rcases hf with z | z
      · exact z
      · rw [z] at hk; cases hk
    obtain ⟨c, hc⟩ := I.ok.has x (.inl hk)
    obtain ⟨w', z⟩ := I.cell x c hc
    refine wpAny_storeName_cell I.ok.kind hk hc z (fun h' hc' hs => ?_)
    obtain ⟨oc, hoc, hocd⟩ := id z
    refine h { s with heap := h' } ⟨I.ok, I.os, I.bare, ⟨fun b o e n hb hx => ?_, fun b o e n hb hx => ?_, I.base.free, fun b o e hx => ?_, I.base.tups, I.base.frzs, I.base.tbls⟩, ⟨m, hn.sameBut hs (Ne.symm (cne x c hc)), fun j y v' e1 e2 e3 => ?_⟩, fun y c' e => ?_, I.free, I.freeC, fun p hp => ?_, tracked ⟨oc, hoc, I.freeC x c hc⟩ hs, by simpa using I.len⟩ ⟨c, hs, .inr hc⟩
    · exact (hs.2 b (Nat.ne_of_lt (Nat.lt_of_lt_of_le (Heap.lt_size e) (I.ok.cab x c hfn hc)))).trans (I.base.keep b o e n hb hx)
    · obtain ⟨sl, e1⟩ := I.base.slot b o e n hb hx
      exact ⟨sl, (hs.2 b (Nat.ne_of_lt (Nat.lt_of_lt_of_le (Heap.lt_size e) (I.ok.cab x c hfn hc)))).trans e1⟩
    · obtain ⟨o', e1⟩ := I.base.there b o e hx
      exact ⟨o', (hs.2 b (Nat.ne_of_lt (Nat.lt_of_lt_of_le (Heap.lt_size e) (I.ok.cab x c hfn hc)))).trans e1⟩
    · by_cases hj : j = i
      · subst hj
        rw [hi] at e1; cases e1
        rw [List.getElem?_set_self hiσ] at e2
        cases e2
        exact ⟨u, r, .inr ⟨.inl hk, c, hc, hc'⟩⟩
      · rw [List.getElem?_set_ne (Ne.symm hj)] at e2
        obtain ⟨u', r', q⟩ := hl j y v' e1 e2 e3
        refine ⟨u', r', ?_⟩
        rcases q with q | ⟨k, c', e, z'⟩
        · exact .inl q
        · refine .inr ⟨k, c', e, z'.sameBut hs ?_⟩
          rintro rfl
          exact hj (nodup_ix hN e1 (I.ok.inj _ _ _ e hc ▸ hi))
    · by_cases hcc : c' = c
      · subst hcc; exact ⟨_, hc'⟩
      · obtain ⟨w2, z2⟩ := I.cell y c' e
        exact ⟨w2, z2.sameBut hs hcc⟩
    · obtain ⟨e, n, ne, nf, d⟩ := I.pin p hp
      refine ⟨(hs.2 p.1 ?_).trans e, n, ne, nf, d⟩
      intro q
      rw [q, hoc] at e
      have q' : oc = p.2 := Option.some.inj e
      exact d w' (by rw [← q']; exact hocd)
theorem store_ok {M : Model} {A : Around} {E : Value → Shared → Prop} {i : Nat} {x : Str} {v : V} {u : Value} {Q : Unit → Shared → Prop} (I : Inv X pins σ H s) (hN : X.N.Nodup) (hi : X.N[i]? = some x) (hx : Loc X.env.scope x) (r : RelV v u)
    (h : ∀ s', Inv X pins (σ.set i (some v)) H s' → Q () s') (hf : X.fn x = true ∨ X.env.scope.names.lookup x = some .local := by first | exact .inl rfl | exact .inr rfl | assumption) : wpAny M A (storeName X.env x u) Q E s :=
  store_ok2 I hN hi hx r (fun s' I' _ => h s' I') hf
theorem Inv.call' {s' : Shared} {ch : List Addr} (I : Inv X pins σ H s) (ho : s'.os = s.os) (u : Un (frs X.stack) ch H H' s.heap s'.heap) (hok : HOk X.prog X.w H' s'.heap) (hg : AllBare s'.gens)
    (hch : ∀ b ∈ ch, (b ∈ X.ex ∨ X.s₀.heap.objs.size ≤ b) ∧ b ≠ X.env.locals ∧ (∀ x c, X.env.cells.lookup x = some c → c ≠ b) ∧ ∀ p ∈ X.pn ++ pins, p.1 ≠ b) : Inv X pins σ H' s' := by
  obtain ⟨h', g', d', t', o'⟩ := s'
  have e : o' = s.os := ho
  subst e
  exact I.call (g' := g') (t' := t') (d' := d') u hok hg hch
end
abbrev XK := Value → Option Addr → Hp → Prop
abbrev St := List (Option V)
abbrev VK := V → Hp → Prop
abbrev TE := St → Hp → VK → Prop
abbrev TT := St → Hp → (Bool → Hp → Prop) → Prop
abbrev TA := St → Hp → (List V → Hp → Prop) → Prop
structure Ends where
  nx : St → Hp → Prop
  rt : VK
  bk : St → Hp → Prop := fun _ _ => False
  ct : St → Hp → Prop := fun _ _ => False
abbrev TS := Ends → St → Hp → Prop
def EP (X : Cx) (pins : List (Addr × Obj)) (σ : St) (Q : VK) (u : Value) (s' : Shared) : Prop := ∃ v H', Inv X pins σ H' s' ∧ RelV v u ∧ Q v H'
def TP (X : Cx) (pins : List (Addr × Obj)) (σ : St) (Q : Bool → Hp → Prop) (b : Bool) (s' : Shared) : Prop := ∃ H', Inv X pins σ H' s' ∧ Q b H'
def AP (X : Cx) (pins : List (Addr × Obj)) (σ : St) (Q : List V → Hp → Prop) (us : List Value) (s' : Shared) : Prop := ∃ vs H', Inv X pins σ H' s' ∧ Vals vs us ∧ Q vs H'
def SP (X : Cx) (pins : List (Addr × Obj)) (D : Ends) (f : Flow) (s' : Shared) : Prop :=
  match f with
  | .next => ∃ σ' H', Inv X pins σ' H' s' ∧ D.nx σ' H'
  | .brk => ∃ σ' H', Inv X pins σ' H' s' ∧ D.bk σ' H'
  | .cont => ∃ σ' H', Inv X pins σ' H' s' ∧ D.ct σ' H'
  | .ret u => ∃ v σ' H', Inv X pins σ' H' s' ∧ RelV v u ∧ D.rt v H'
def PE (X : Cx) (e : Expr) (t : TE) : Prop :=
  ∀ (pins : List (Addr × Obj)) (s : Shared) (σ : St) (H : Hp) (Q : VK), Inv X pins σ H s → t σ H Q → wpAny (model X.prog X.w) X.A (eval e X.env) (EP X pins σ Q) X.xe s
def PT (X : Cx) (e : Expr) (t : TT) : Prop :=
  ∀ (pins : List (Addr × Obj)) (s : Shared) (σ : St) (H : Hp) (Q : Bool → Hp → Prop), Inv X pins σ H s → t σ H Q → wpAny (model X.prog X.w) X.A (isTrue e X.env (eval e X.env)) (TP X pins σ Q) X.xe s
def PW (X : Cx) (e : Expr) (t : TT) : Prop :=
  ∀ (whole : Sem Value) (pins : List (Addr × Obj)) (s : Shared) (σ : St) (H : Hp) (Q : Bool → Hp → Prop), Inv X pins σ H s → t σ H Q → wpAny (model X.prog X.w) X.A (isTrue e X.env whole) (TP X pins σ Q) X.xe s
theorem PW.pt {X : Cx} {e : Expr} {t : TT} (h : PW X e t) : PT X e t := h _
def PA (X : Cx) (es : List Expr) (t : TA) : Prop :=
  ∀ (pos : Pos) (pins : List (Addr × Obj)) (s : Shared) (σ : St) (H : Hp) (Q : List V → Hp → Prop), Inv X pins σ H s → t σ H Q → wpAny (model X.prog X.w) X.A (spliced (backTo pos (starEach es X.env))) (AP X pins σ Q) X.xe s
def PS (X : Cx) (st : Stmt) (t : TS) : Prop :=
  ∀ (pins : List (Addr × Obj)) (s : Shared) (σ : St) (H : Hp) (D : Ends), Inv X pins σ H s → t D σ H → wpAny (model X.prog X.w) X.A (exec st X.env) (SP X pins D) X.xe s
def PSs (X : Cx) (st : List Stmt) (t : TS) : Prop :=
  ∀ (pins : List (Addr × Obj)) (s : Shared) (σ : St) (H : Hp) (D : Ends), Inv X pins σ H s → t D σ H → wpAny (model X.prog X.w) X.A (execs st X.env) (SP X pins D) X.xe s
theorem thn {α : Type} {t : Sem α} {Q Q' : α → Shared → Prop} {M : Model} {A : Around} {E : Value → Shared → Prop} {s : Shared} (h : wpAny M A t Q E s) (hQ : ∀ a s, Q a s → Q' a s) : wpAny M A t Q' E s := wpAny_mono h hQ fun _ _ x => x
end L2
namespace L2
open PySem PySem.Spec PyProof.Rows
section
variable {X : Cx}
inductive TVarP (i : Nat) (σ : St) (H : Hp) (Q : VK) : Prop
  | mk (v : _) : (σ[i]? = some (some v)) → (Q v H) → TVarP i σ H Q
def tVar (i : Nat) : TE := fun σ H Q => TVarP i σ H Q
def tC (v : V) : TE := fun _ H Q => Q v H
theorem pe_var {i : Nat} {x : Str} {pos : Pos} (hN : X.N[i]? = some x) (hv : Vis X.env.scope x) (hd : (x == ("__debug__" : Str)) = false := by decide) (hcd : (x == ("__classdict__" : Str)) = false := by decide) : PE X (.Name x pos) (tVar i) := by
  intro pins s σ H Q I h
  obtain ⟨v, e, h⟩ := h
  obtain ⟨m, hn, hl⟩ := I.loc
  obtain ⟨u, r, l⟩ := hl i x v hN e hv
  have fin : EP X pins σ Q u s := ⟨v, H, I, r, h⟩
  rcases l with ⟨hk, hm⟩ | ⟨hk, c, hc, hcell⟩
  · exact wpAny_Name (wpAny_loadName_local I.ok.kind hk hn hm fin) hd
  · rcases hk with hk | hk
    · exact wpAny_Name (wpAny_loadName_cell I.ok.kind hk hc hcell fin) hd
    · exact wpAny_Name (wpAny_loadName_free I.ok.kind hk hc hcell fin hcd) hd
theorem pe_int {i j pos} : PE X (.Constant (.int i) j pos) (tC (.int i)) := fun _ _ _ H _ I h => wpAny_Constant_int ⟨.int i, H, I.tok _, ⟨_, rfl⟩, h⟩
theorem pe_bl {b j pos} : PE X (.Constant (.bool b) j pos) (tC (.bl b)) := fun _ _ _ H _ I h => Constant_bool ⟨.bl b, H, I, rfl, h⟩
theorem pe_non {j pos} : PE X (.Constant .none j pos) (tC .non) := fun _ _ _ H _ I h => Constant_none ⟨.non, H, I, rfl, h⟩
theorem pe_str {x j pos} : PE X (.Constant (.str x) j pos) (tC (.str x)) := fun _ _ _ H _ I h => Calls.Constant_str ⟨.str x, H, I.tok _, ⟨_, rfl⟩, h⟩
def Gl (X : Cx) (x : Str) : Prop := X.env.kindOf x = some .globalImplicit
theorem ld_glob {E : Value → Shared → Prop} {pins : List (Addr × Obj)} {s : Shared} {σ : St} {H : Hp} {x : Str} {u : Value} {pos : Pos} {Q : Value → Shared → Prop} (I : Inv X pins σ H s) (hg : Gl X x) (hm : X.mg x = some u) (h : Q u s)
    (hd : (x == ("__debug__" : Str)) = false := by decide) : wpAny (model X.prog X.w) X.A (eval (.Name x pos) X.env) Q E s :=
  Calls.Name_function_global I.ok.kind hg (Calls.loadGlobal_global (by rw [I.ok.glob]; exact I.mod.glob.keeps I.bk) hm h) hd
theorem ld_blt {E : Value → Shared → Prop} {pins : List (Addr × Obj)} {s : Shared} {σ : St} {H : Hp} {x : Str} {u : Value} {pos : Pos} {Q : Value → Shared → Prop} (I : Inv X pins σ H s) (hg : Gl X x) (hm : X.mg x = none) (hv : bootBuiltins x = some u) (h : Q u s)
    (hn : x ≠ "__name__" := by decide) (hd : (x == ("__debug__" : Str)) = false := by decide) : wpAny (model X.prog X.w) X.A (eval (.Name x pos) X.env) Q E s := by
  obtain ⟨mb, h1, h2⟩ := I.mod.blt
  exact Calls.Name_function_global I.ok.kind hg (Calls.loadGlobal_builtin (by rw [I.ok.glob]; exact I.mod.glob.keeps I.bk) hm (by rw [I.ok.blt]; exact h1.keeps I.bk) ((h2 x hn).trans hv) h) hd
variable {a b : Expr} {ta tb : TE} {pos : Pos}
inductive BlP (x : V) (H : Hp) (Q : Bool → Hp → Prop) : Prop
  | mk (c : Bool) : (x = .bl c) → (Q c H) → BlP x H Q
def tB (t : TE) : TT := fun σ H Q => t σ H fun x H1 => BlP x H1 Q
theorem pt_val {e : Expr} {t : TE} (h : PE X e t) (he : ∀ whole, isTrue e X.env whole = (do let v ← whole; standAt e.pos; holding [v] (truthy v)) := by intro _; rfl) : PT X e (tB t) := by
  intro pins s σ H Q I hw
  refine isTrue_plain (thn (h pins s σ H _ I hw) fun v s1 ⟨x, H1, I1, r1, q1⟩ => ?_) (he _)
  obtain ⟨d, rfl, q⟩ := q1
  cases r1
  exact wpAny_truthy_bool ⟨H1, I1, q⟩
variable {tA tB' : TT} {rest : List Expr}
def tAnd (t u : TT) : TT := fun σ H Q => t σ H fun c H1 => if c = true then u σ H1 Q else Q false H1
def tOr (t u : TT) : TT := fun σ H Q => t σ H fun c H1 => if c = true then Q true H1 else u σ H1 Q
def tNot (t : TT) : TT := fun σ H Q => t σ H fun c H1 => Q (!c) H1
theorem pw_and1 (ha : PT X a tA) : PW X (.BoolOp .And [a] pos) tA := by
  intro wh pins s σ H Q I h
  refine isTrue_and (thn (ha pins s σ H Q I h) fun c s1 e => ?_)
  cases c with
  | true => exact isTrue_and_nil e
  | false => exact e
theorem pw_or1 (ha : PT X a tA) : PW X (.BoolOp .Or [a] pos) tA := by
  intro wh pins s σ H Q I h
  refine isTrue_or (thn (ha pins s σ H Q I h) fun c s1 e => ?_)
  cases c with
  | false => exact isTrue_or_nil e
  | true => exact e
theorem pw_and (ha : PT X a tA) (hb : PW X (.BoolOp .And (b :: rest) pos) tB') : PW X (.BoolOp .And (a :: b :: rest) pos) (tAnd tA tB') := by
  intro wh pins s σ H Q I h
  refine isTrue_and (thn (ha pins s σ H _ I h) fun c s1 ⟨H1, I1, q1⟩ => ?_)
  cases c with
  | true => exact hb wh pins s1 σ H1 Q I1 q1
  | false => exact ⟨H1, I1, q1⟩
theorem pw_or (ha : PT X a tA) (hb : PW X (.BoolOp .Or (b :: rest) pos) tB') : PW X (.BoolOp .Or (a :: b :: rest) pos) (tOr tA tB') := by
  intro wh pins s σ H Q I h
  refine isTrue_or (thn (ha pins s σ H _ I h) fun c s1 ⟨H1, I1, q1⟩ => ?_)
  cases c with
  | true => exact ⟨H1, I1, q1⟩
  | false => exact hb wh pins s1 σ H1 Q I1 q1
theorem pt_not (ha : PT X a tA) : PT X (.UnaryOp .Not a pos) (tNot tA) := by
  intro pins s σ H Q I h
  exact isTrue_not (ha pins s σ H (fun c H1 => Q (!c) H1) I h)
def tAndV (ta tb : TE) : TE := fun σ H Q => ta σ H fun x H1 => ∃ c, x = .bl c ∧ if c = true then tb σ H1 Q else Q (.bl false) H1
theorem pe_one {op} {t : TE} (h : PE X a t) : PE X (.BoolOp op [a] pos) t := fun pins s σ H Q I hw => BoolOp_one (h pins s σ H Q I hw)
theorem pe_and (ha : PE X a ta) (hb : PE X (.BoolOp .And (b :: rest) pos) tb) : PE X (.BoolOp .And (a :: b :: rest) pos) (tAndV ta tb) := by
  intro pins s σ H Q I h
  refine BoolOp_and (thn (ha pins s σ H _ I h) fun v s1 ⟨x, H1, I1, r1, q1⟩ => ?_)
  obtain ⟨c, rfl, q1⟩ := q1
  cases r1
  refine wpAny_truthy_bool ?_
  cases c with
  | true => exact hb pins s1 σ H1 Q I1 q1
  | false => exact ⟨.bl false, H1, I1, rfl, q1⟩
end
end L2
namespace L2
open PySem PySem.Spec PyProof.Rows
def SqL (K : PySem.W.Frag) (H : Hp) (a : Addr) (xs : List V) : Prop :=
  Rd H a (.lst xs) ∨
    ∃ (o : Obj) (its : Array Value) (n : Nat), K.lookup a = some o ∧ o.cls = .type "list" ∧ o.dict = none ∧ o.data = .seq its n ∧ its.size ≤ sizeLine ∧ Vals xs its.toList
def SqT (K : PySem.W.Frag) (H : Hp) (a : Addr) (xs : List V) : Prop :=
  Rd H a (.tup xs) ∨
    ∃ (o : Obj) (its : Array Value) (n : Nat), K.lookup a = some o ∧ o.cls = .type "tuple" ∧ o.data = .seq its n ∧ its.size ≤ sizeLine ∧ Vals xs its.toList
def absV : Value → Option V
  | .none => some .non
  | .bool b => some (.bl b)
  | .int i _ => some (.int i)
  | .str x _ => some (.str x)
  | .bytes b _ => some (.byt b)
  | .float b _ => some (.flt b)
  | .ref a => some (.ref a)
  | .type n => some (.ty n)
  | _ => none
theorem RelV.abs {x : V} {u : Value} (r : RelV x u) : absV u = some x := by
  cases x with
  | non => cases r; rfl
  | bl _ => cases r; rfl
  | int _ => obtain ⟨t, rfl⟩ := r; rfl
  | str _ => obtain ⟨t, rfl⟩ := r; rfl
  | byt _ => obtain ⟨t, rfl⟩ := r; rfl
  | flt _ => obtain ⟨t, rfl⟩ := r; rfl
  | ref _ => cases r; rfl
  | ty _ => cases r; rfl
theorem RelV.inj {x y : V} {u : Value} (r : RelV x u) (q : RelV y u) : x = y := Option.some.inj (r.abs.symm.trans q.abs)
theorem Vals.inj : ∀ {xs ys : List V} {us : List Value}, Vals xs us → Vals ys us → xs = ys
  | _, _, _, .nil, .nil => rfl
  | _, _, _, .cons r t, .cons r' t' => by rw [r.inj r', Vals.inj t t']
section
variable {X : Cx} {pins : List (Addr × Obj)} {σ : St} {H : Hp} {s : Shared} {a : Addr} {xs ys : List V}
theorem SqL.of {K : PySem.W.Frag} (h : H a = some (.lst xs)) : SqL K H a xs := .inl (.inl h)
theorem SqT.of {K : PySem.W.Frag} (h : H a = some (.tup xs)) : SqT K H a xs := .inl (.inl h)
theorem Inv.list (I : Inv X pins σ H s) (h : SqL X.K H a xs) : ∃ its : List Value, Vals xs its ∧ PlainL s.heap a its.toArray ∧ xs.length ≤ sizeLine := by
  rcases h with h | ⟨o, its, n, hk, hc, hd, hs, hz, r⟩
  · obtain ⟨z, its, n, r, e⟩ := h.ok I.hok
    exact ⟨its, r, ⟨_, n, e, rfl, rfl, rfl⟩, z⟩
  · refine ⟨its.toList, r, ⟨o, n, I.kIn a o hk, hc, hd, by simpa using hs⟩, ?_⟩
    have e := r.length
    simp only [Array.length_toList] at e
    omega
theorem Inv.tuple (I : Inv X pins σ H s) (h : SqT X.K H a xs) : ∃ its : List Value, Vals xs its ∧ IsTup s.heap a its.toArray ∧ xs.length ≤ sizeLine := by
  rcases h with h | ⟨o, its, n, hk, hc, hs, hz, r⟩
  · obtain ⟨z, its, r, p⟩ := h.ok I.hok
    exact ⟨its, r, p.tup, z⟩
  · refine ⟨its.toList, r, ⟨o, I.kIn a o hk, hc, n, by simpa using hs⟩, ?_⟩
    have e := r.length
    simp only [Array.length_toList] at e
    omega
theorem Inv.list_inj (I : Inv X pins σ H s) (h : SqL X.K H a xs) (h' : SqL X.K H a ys) : xs = ys := by
  obtain ⟨its, r, ⟨o, n, e, _, _, d⟩, _⟩ := I.list h
  obtain ⟨its', r', ⟨o', n', e', _, _, d'⟩, _⟩ := I.list h'
  rw [e] at e'; cases e'
  rw [d] at d'
  injection d' with d1 _
  have : its = its' := by simpa using congrArg Array.toList d1
  subst this
  exact r.inj r'
theorem Inv.tuple_inj (I : Inv X pins σ H s) (h : SqT X.K H a xs) (h' : SqT X.K H a ys) : xs = ys := by
  obtain ⟨its, r, ⟨o, e, _, n, d⟩, _⟩ := I.tuple h
  obtain ⟨its', r', ⟨o', e', _, n', d'⟩, _⟩ := I.tuple h'
  rw [e] at e'; cases e'
  rw [d] at d'
  injection d' with d1 _
  have : its = its' := by simpa using congrArg Array.toList d1
  subst this
  exact r.inj r'
end
abbrev Cx.wish (X : Cx) (E : Value → Shared → Prop) : Cx := { X with xe := E }
abbrev Cx.nox (X : Cx) : Cx := X.wish fun _ _ => False
theorem Cx.Ok.wish {X : Cx} (ok : X.Ok) (E : Value → Shared → Prop) : (X.wish E).Ok :=
  ⟨ok.mod, ok.kind, ok.glob, ok.blt, ok.above, ok.inj, ok.has, ok.cab, ok.hd, ok.frames, ok.stk, ok.exf, ok.bs, ok.bsz, ok.noex, ok.exfs, ok.funs, ok.frf⟩
theorem Cx.Ok.unwish {X : Cx} {E : Value → Shared → Prop} (ok : (X.wish E).Ok) : X.Ok :=
  ⟨ok.mod, ok.kind, ok.glob, ok.blt, ok.above, ok.inj, ok.has, ok.cab, ok.hd, ok.frames, ok.stk, ok.exf, ok.bs, ok.bsz, ok.noex, ok.exfs, ok.funs, ok.frf⟩
section
variable {X : Cx} {pins : List (Addr × Obj)} {σ : St} {H : Hp} {s : Shared} {E : Value → Shared → Prop}
theorem Inv.wish (I : Inv X pins σ H s) (E : Value → Shared → Prop) : Inv (X.wish E) pins σ H s := ⟨I.ok.wish E, I.os, I.bare, I.base, I.loc, I.cell, I.free, I.freeC, I.pin, I.hok, I.len⟩
theorem Inv.unwish (I : Inv (X.wish E) pins σ H s) : Inv X pins σ H s := ⟨I.ok.unwish, I.os, I.bare, I.base, I.loc, I.cell, I.free, I.freeC, I.pin, I.hok, I.len⟩
theorem SP.unwish {D : Ends} {f : Flow} {s' : Shared} (h : SP (X.wish E) pins D f s') : SP X pins D f s' := by
  cases f with
  | next => obtain ⟨σ', H', I, q⟩ := h; exact ⟨σ', H', I.unwish, q⟩
  | brk => obtain ⟨σ', H', I, q⟩ := h; exact ⟨σ', H', I.unwish, q⟩
  | cont => obtain ⟨σ', H', I, q⟩ := h; exact ⟨σ', H', I.unwish, q⟩
  | ret u => obtain ⟨v, σ', H', I, r, q⟩ := h; exact ⟨v, σ', H', I.unwish, r, q⟩
theorem PSs.nox {st : List Stmt} {t : TS} (h : PSs X.nox st t) : PSs X st t := fun pins s σ H D I hw =>
  wpAny_mono (h pins s σ H D (I.wish _) hw) (fun _ _ q => q.unwish) fun _ _ z => False.elim z
end
section
variable {X : Cx} {st : Stmt} {rest : List Stmt} {t u : TS} {e : Expr} {te : TE} {pos : Pos}
def tNext : TS := fun D σ H => D.nx σ H
def tSeq (t u : TS) : TS := fun D σ H => t { D with nx := u D } σ H
theorem pss_nil : PSs X [] tNext := fun _ _ σ H _ I h => wpAny_execs_nil ⟨σ, H, I, h⟩
theorem pss_cons (h1 : PS X st t) (h2 : PSs X rest u) : PSs X (st :: rest) (tSeq t u) := by
  intro pins s σ H D I h
  refine wpAny_execs_cons (thn (h1 pins s σ H { D with nx := u D } I h) fun f s1 q => ?_)
  cases f with
  | next =>
    obtain ⟨σ', H', I', q⟩ := q
    exact h2 pins s1 σ' H' D I' q
  | ret v => exact q
  | brk => exact q
  | cont => exact q
theorem pss_one (h1 : PS X st t) : PSs X [st] t := by
  intro pins s σ H D I h
  refine wpAny_execs_cons (thn (h1 pins s σ H D I h) fun f s1 q => ?_)
  cases f with
  | next => exact wpAny_execs_nil q
  | ret v => exact q
  | brk => exact q
  | cont => exact q
theorem Inv.quiet {pins : List (Addr × Obj)} {σ : St} {H : Hp} {s : Shared} (I : Inv X pins σ H s) : interactive X.env = false := by simp [interactive, I.ok.kind]
def tDrop (te : TE) : TS := fun D σ H => te σ H fun _ H1 => D.nx σ H1
theorem ps_expr (he : PE X e te) (hs : swapsWith e none pos.line X.env = pure false := by rfl) : PS X (.Expr e pos) (tDrop te) := by
  intro pins s σ H D I h
  exact wpAny_Expr_any (thn (he pins s σ H _ I h) fun v s1 ⟨x, H1, I1, r1, q1⟩ => ⟨σ, H1, I1, q1⟩) I.quiet hs
def tRet (te : TE) : TS := fun D σ H => te σ H D.rt
theorem ps_ret (he : PE X e te) : PS X (.Return (some e) pos) (tRet te) := by
  intro pins s σ H D I h
  exact wpAny_Return_some (thn (he pins s σ H _ I h) fun v s1 ⟨x, H1, I1, r1, q1⟩ => ⟨x, σ, H1, I1, r1, q1⟩)
def tIfS (c : TT) (t u : TS) : TS := fun D σ H => c σ H fun b H1 => if b = true then t D σ H1 else u D σ H1
theorem ps_if {c : Expr} {a b : List Stmt} {tc : TT} (hc : PT X c tc) (ha : PSs X a t) (hb : PSs X b u) : PS X (.If c a b pos) (tIfS tc t u) := by
  intro pins s σ H D I h
  refine wpAny_If (thn (hc pins s σ H _ I h) fun d s1 ⟨H1, I1, q1⟩ => ?_)
  cases d with
  | true => exact ha pins s1 σ H1 D I1 q1
  | false => exact hb pins s1 σ H1 D I1 q1
end
abbrev TG := V → St → Hp → (St → Hp → Prop) → Prop
abbrev TGs := List V → St → Hp → (St → Hp → Prop) → Prop
def PG (X : Cx) (target : Expr) (t : TG) : Prop :=
  ∀ (pins : List (Addr × Obj)) (s : Shared) (σ : St) (H : Hp) (v : V) (u : Value) (Q : St → Hp → Prop), Inv X pins σ H s → RelV v u → t v σ H Q →
    wpAny (model X.prog X.w) X.A (assign target X.env u) (fun _ s' => ∃ σ' H', Inv X pins σ' H' s' ∧ Q σ' H') X.xe s
def PGs (X : Cx) (ts : List Expr) (t : TGs) : Prop :=
  ∀ (pins : List (Addr × Obj)) (s : Shared) (σ : St) (H : Hp) (vs : List V) (us : List Value) (Q : St → Hp → Prop), Inv X pins σ H s → Vals vs us → t vs σ H Q →
    wpAny (model X.prog X.w) X.A (assignInOrder ((assignEach ts X.env).map (·.2)) us) (fun _ s' => ∃ σ' H', Inv X pins σ' H' s' ∧ Q σ' H') X.xe s
abbrev TSet := V → V → V → Hp → (Hp → Prop) → Prop
def PSet (X : Cx) (t : TSet) : Prop :=
  ∀ (pins : List (Addr × Obj)) (s : Shared) (σ : St) (H : Hp) (o i v : V) (ov iv u : Value) (Q : Hp → Prop), Inv X pins σ H s → RelV o ov → RelV i iv → RelV v u → t o i v H Q →
    wpAny (model X.prog X.w) X.A (setItem ov iv u) (fun _ s' => ∃ H', Inv X pins σ H' s' ∧ Q H') X.xe s
section
variable {X : Cx} {pos : Pos}
def gName (i : Nat) : TG := fun v σ H Q => Q (σ.set i (some v)) H
theorem pg_name {i : Nat} {x : Str} (hN : X.N.Nodup) (hi : X.N[i]? = some x) (hx : Loc X.env.scope x) (hf : X.fn x = true ∨ X.env.scope.names.lookup x = some .local := by first | exact .inl rfl | exact .inr rfl | assumption) : PG X (.Name x pos) (gName i) := by
  intro pins s σ H v u Q I r h
  exact wpAny_assign_Name (store_ok I hN hi hx r (fun s' I' => ⟨_, H, I', h⟩) hf)
def gNil : TGs := fun vs σ H Q => vs = [] ∧ Q σ H
def gCons (t : TG) (u : TGs) : TGs := fun vs σ H Q => ∃ v r, vs = v :: r ∧ t v σ H fun σ' H' => u r σ' H' Q
theorem pgs_nil : PGs X [] gNil := by
  intro pins s σ H vs us Q I r h
  obtain ⟨e, h⟩ := h
  subst e
  cases r
  exact assignInOrder_nil ⟨σ, H, I, h⟩
theorem pgs_cons {e : Expr} {es : List Expr} {t : TG} {u : TGs} (h1 : PG X e t) (h2 : PGs X es u)
    (hs : (assignEach (e :: es) X.env).map (·.2) = assign e X.env :: (assignEach es X.env).map (·.2) := by rfl) : PGs X (e :: es) (gCons t u) := by
  intro pins s σ H vs us Q I r h
  obtain ⟨v, vr, e1, h⟩ := h
  subst e1
  cases r with
  | cons r rr =>
    rw [hs]
    refine assignInOrder_cons (thn (h1 pins s σ H _ _ _ I r h) fun _ s1 ⟨σ1, H1, I1, q1⟩ => ?_)
    exact h2 pins s1 σ1 H1 _ _ Q I1 rr q1
def gTup (K : PySem.W.Frag) (n : Nat) (t : TGs) : TG := fun v σ H Q => ∃ a xs, v = .ref a ∧ SqT K H a xs ∧ xs.length = n ∧ t xs σ H Q
theorem pg_tup {es : List Expr} {k : Nat} {t : TGs} {n : Nat} (hc : X.calm = true) (h : PGs X es t)
    (hn : (assignEach es X.env).length = n := by rfl) (hst : (assignEach es X.env).findIdx? (·.1) = none := by rfl) : PG X (.Tuple es k pos) (gTup X.K n t) := by
  intro pins s σ H v u Q I r hw
  obtain ⟨a, xs, e1, hq, hl, hw⟩ := hw
  subst e1
  cases r
  obtain ⟨its, rv, ht, hz⟩ := I.tuple hq
  refine assign_Tuple_tuple (I.ok.hd hc) ht (by simp [hn, ← hl, rv.length]) hst fun h' hx => ?_
  have I1 : Inv X pins σ H { s with heap := h' } := I.kept (t' := s.toks) fun b o e => hx b o (Nat.ne_of_lt (Heap.lt_size e)) e
  exact h pins _ σ H xs _ Q I1 (by simpa using rv) hw
def gSub (to ti : TE) (t : TSet) : TG := fun v σ H Q => to σ H fun o H1 => ti σ H1 fun i H2 => t o i v H2 fun H3 => Q σ H3
theorem pg_sub {o i : Expr} {to ti : TE} {t : TSet} (ho : PE X o to) (hi : PE X i ti) (hs : PSet X t)
    (ha : ∀ v, assign (.Subscript o i pos) X.env v = (do
      let ov ← holding [v] (eval o X.env)
      let iv ← holding [v, ov] (eval i X.env)
      standAt pos
      holding [v, ov, iv] (setItem ov iv v)
      release [v, ov, iv] []) := by intro _; rfl) : PG X (.Subscript o i pos) (gSub to ti t) := by
  intro pins s σ H v u Q I r h
  rw [ha]
  refine wpAny_bind (wpAny_holding (thn (ho pins s σ H _ I h) fun ov s1 ⟨x, H1, I1, r1, q1⟩ => ?_))
  refine wpAny_bind (wpAny_holding (thn (hi pins s1 σ H1 _ I1 q1) fun iv s2 ⟨y, H2, I2, r2, q2⟩ => ?_))
  refine wpAny_bind (wpAny_standAt (wpAny_bind (wpAny_holding (thn (hs pins s2 σ H2 x y v ov iv u _ I2 r1 r2 r q2) fun _ s3 ⟨H3, I3, q3⟩ => ?_))))
  exact wpAny_release ⟨σ, H3, I3, q3⟩
def tAsg (te : TE) (g : TG) : TS := fun D σ H => te σ H fun x H1 => g x σ H1 D.nx
theorem ps_asg {tg e : Expr} {te : TE} {g : TG} (he : PE X e te) (hg : PG X tg g) (hs : swapsWithSole [tg] e pos.line X.env = pure false := by rfl) (hw : swappedStores [tg] e X.env = pure none := by rfl)
    (h1 : (assignEach [tg] X.env).map (·.2) = [assign tg X.env] := by rfl) : PS X (.Assign [tg] e pos) (tAsg te g) := by
  intro pins s σ H D I h
  refine wpAny_Assign_stores (thn (he pins s σ H _ I h) fun v s1 ⟨x, H1, I1, r1, q1⟩ => ?_) hs hw
  rw [h1]
  exact thn (hg pins s1 σ H1 x v _ I1 r1 q1) fun _ s2 q => q
theorem ps_set {i : Nat} {x : Str} {e : Expr} {te : TE} {pos' : Pos} (hN : X.N.Nodup) (hi : X.N[i]? = some x) (hx : Loc X.env.scope x) (he : PE X e te) (hs : swapsWith e (some (.Name x pos')) pos.line X.env = pure false := by rfl) (hf : X.fn x = true ∨ X.env.scope.names.lookup x = some .local := by first | exact .inl rfl | exact .inr rfl | assumption) :
    PS X (.Assign [.Name x pos'] e pos) (tAsg te (gName i)) := by
  intro pins s σ H D I h
  refine wpAny_Assign_Name (thn (he pins s σ H _ I h) fun v s1 ⟨y, H1, I1, r1, q1⟩ => ?_) hs
  exact store_ok I1 hN hi hx r1 (fun s2 I2 => ⟨_, H1, I2, q1⟩) hf
end
section
variable {X : Cx} {pos : Pos}
def tWhile (c : TT) (tb : TS) : TS := fun D σ H => ∃ W : Nat → St → Hp → Prop, (∃ m, W m σ H) ∧ ∀ m σ H, W m σ H →
  c σ H fun b H1 => if b = true then ∃ N : St → Hp → Prop, (∀ σ' H', N σ' H' → ∃ m', m' < m ∧ W m' σ' H') ∧ tb { D with nx := N, ct := N, bk := D.nx } σ H1 else D.nx σ H1
theorem ps_while {c : Expr} {body : List Stmt} {tc : TT} {tb : TS} (hp : PassesOwn (model X.prog X.w) X.A X.env X.xe) (hc : PT X c tc) (hb : PSs X body tb) : PS X (.While c body [] pos) (tWhile tc tb) := by
  intro pins s σ H D I h
  obtain ⟨W, ⟨m0, w0⟩, turn⟩ := h
  refine wpAny_While (codeAny_whileLoop (fun n s' => ∃ σ' H', Inv X pins σ' H' s' ∧ W n σ' H') ?_ m0 ⟨σ, H, I, w0⟩)
  rintro n s1 ⟨σ1, H1, I1, w1⟩
  refine wpAny_passesOwn hp (thn (hc pins s1 σ1 H1 _ I1 (turn n σ1 H1 w1)) fun b s2 ⟨H2, I2, q2⟩ => ?_)
  cases b with
  | true =>
    obtain ⟨N, hN, q2⟩ := q2
    rw [if_pos rfl]
    refine wpAny_passesOwn hp (thn (hb pins s2 σ1 H2 _ I2 q2) fun f s3 q3 => ?_)
    cases f with
    | next =>
      obtain ⟨σ3, H3, I3, n3⟩ := q3
      obtain ⟨m', hm, w3⟩ := hN σ3 H3 n3
      exact ⟨m', hm, σ3, H3, I3, w3⟩
    | cont =>
      obtain ⟨σ3, H3, I3, n3⟩ := q3
      obtain ⟨m', hm, w3⟩ := hN σ3 H3 n3
      exact ⟨m', hm, σ3, H3, I3, w3⟩
    | brk => exact q3
    | ret v => exact q3
  | false =>
    rw [if_neg Bool.false_ne_true]
    exact wpAny_execs_nil ⟨σ1, H2, I2, q2⟩
end
structure It where
  go : Nat → Hp → Prop
  yld : Nat → Hp → V → Hp → Prop
  stop : Nat → Hp → Prop
def FpOk (X : Cx) (pins : List (Addr × Obj)) (H : Hp) (b : Addr) : Prop :=
  H b = none ∧ b ≠ X.env.locals ∧ b ∉ X.fs ∧ (b ∈ X.ex ∨ X.s₀.heap.objs.size ≤ b) ∧ (∀ x c, X.env.cells.lookup x = some c → c ≠ b) ∧ ∀ p ∈ X.pn ++ pins, p.1 ≠ b
theorem Inv.fpOk {X : Cx} {pins : List (Addr × Obj)} {σ : St} {H H' : Hp} {s : Shared} {b : Addr} (I : Inv X pins σ H s) (hb : s.heap.objs.size ≤ b) (hn : H' b = none) : FpOk X pins H' b := by
  refine ⟨hn, Nat.ne_of_gt (Nat.lt_of_lt_of_le I.lt hb), I.nofs hb, .inr (Nat.le_trans I.sz hb), fun x c e z => ?_, fun p hp z => ?_⟩
  · obtain ⟨v, q⟩ := I.cell x c e
    exact absurd (Nat.lt_of_lt_of_le q.lt (by rw [z]; exact hb)) (Nat.lt_irrefl _)
  · exact absurd (Nat.lt_of_lt_of_le (Heap.lt_size (I.pin p hp).1) (by rw [z]; exact hb)) (Nat.lt_irrefl _)
structure Turn (P : Program) (w : World) (K : PySem.W.Frag) (tg : Expr) (J : It) (fp : List Addr) (it : Addr) (tn : Nat → Heap → Prop) : Prop where
  mem : it ∈ fp
  obj : ∀ i h, tn i h → ∀ b ∈ fp, ∃ o, h.get? b = some o ∧ ∀ v, o.data ≠ .cell v
  keep : ∀ i h h', tn i h → (∀ b ∈ fp, ∀ o, h.get? b = some o → h'.get? b = some o) → tn i h'
  item : ∀ (X : Cx), X.prog = P → X.w = w → X.K = K → X.calm = true → ∀ (i : Nat) (pins : List (Addr × Obj)) (s : Shared) (σ : St) (H : Hp) (E : Value → Shared → Prop), Inv X pins σ H s → (∀ b ∈ fp, FpOk X pins H b) → tn i s.heap → J.go i H →
    wpAny (model P w) X.A (pyNext (.ref it)) (fun r s1 => ∃ u, r = some u ∧
      wpAny (model P w) X.A (letOwnedTupleGo tg (.ref it) u) (fun _ s2 => ∃ x H', Inv X pins σ H' s2 ∧ RelV x u ∧ J.yld i H x H' ∧ tn (i + 1) s2.heap ∧ ∀ b ∈ fp, H' b = none) E s1) E s
  done : ∀ (X : Cx), X.prog = P → X.w = w → X.K = K → X.calm = true → ∀ (i : Nat) (pins : List (Addr × Obj)) (s : Shared) (σ : St) (H : Hp) (E : Value → Shared → Prop), Inv X pins σ H s → (∀ b ∈ fp, FpOk X pins H b) → tn i s.heap → J.stop i H →
    wpAny (model P w) X.A (pyNext (.ref it)) (fun r s1 => r = none ∧ Inv X pins σ H s1) E s
  self : ∀ (A : Around) (i : Nat) (s : Shared) (Q : Value → Shared → Prop) (E : Value → Shared → Prop), tn i s.heap → Q (.ref it) s → wpAny (model P w) A (pyIter (.ref it)) Q E s
abbrev TI := St → Hp → (It → Hp → Prop) → Prop
def PIE (X : Cx) (pins : List (Addr × Obj)) (σ : St) (tg : Expr) (R : It → Hp → Prop) (itv : Value) (s2 : Shared) : Prop :=
  ∃ (it : Addr) (fp : List Addr) (tn : Nat → Heap → Prop) (J : It) (H' : Hp), itv = .ref it ∧ Inv X pins σ H' s2 ∧ Turn X.prog X.w X.K tg J fp it tn ∧ tn 0 s2.heap ∧ (∀ b ∈ fp, FpOk X pins H' b) ∧ R J H'
def PI (X : Cx) (tg iter : Expr) (wi : TI) : Prop :=
  ∀ (pins : List (Addr × Obj)) (s : Shared) (σ : St) (H : Hp) (R : It → Hp → Prop), Inv X pins σ H s → wi σ H R →
    wpAny (model X.prog X.w) X.A (eval iter X.env) (fun v s1 => wpAny (model X.prog X.w) X.A (pyIter v) (PIE X pins σ tg R) X.xe s1) X.xe s
theorem go_of {M : Model} {A : Around} {E : Value → Shared → Prop} {s : Shared} {tg : Expr} {it : Addr} {u : Value} {o : Obj} {n : String} {vs : Array Value} {Q : Unit → Shared → Prop} (ho : s.heap.get? it = some o) (hc : o.cls = .type n) (hd : o.data = .fields vs)
    (hn : ["enumerate", "zip", "dict_itemiterator", "dict_reverseitemiterator", "odict_iterator", "itertools.zip_longest", "itertools.pairwise"].contains n = false) (hQ : Q () s) : wpAny M A (letOwnedTupleGo tg (.ref it) u) Q E s := by
  unfold letOwnedTupleGo
  cases tg <;> first
    | exact wpAny_pure hQ
    | (cases u <;> first
        | exact wpAny_pure hQ
        | (refine wpAny_bind (wpAny_load ho ?_)
           rw [hc, hd]
           show wpAny M A (if (["enumerate", "zip", "dict_itemiterator", "dict_reverseitemiterator", "odict_iterator", "itertools.zip_longest", "itertools.pairwise"].contains n && vs[0]? == some (rawInt _)) = true then _ else _) Q E s
           rw [if_neg (by intro h; rw [hn, Bool.false_and] at h; cases h)]
           exact wpAny_pure hQ))
def Itl (K : PySem.W.Frag) (a : Addr) : It :=
  ⟨fun i H => ∃ xs x, SqL K H a xs ∧ xs[i]? = some x, fun i H x H' => H' = H ∧ ∀ xs, SqL K H a xs → xs[i]? = some x, fun i H => ∃ xs, SqL K H a xs ∧ xs.length ≤ i⟩
def Itt (K : PySem.W.Frag) (a : Addr) : It :=
  ⟨fun i H => ∃ xs x, SqT K H a xs ∧ xs[i]? = some x, fun i H x H' => H' = H ∧ ∀ xs, SqT K H a xs → xs[i]? = some x, fun i H => ∃ xs, SqT K H a xs ∧ xs.length ≤ i⟩
def Itr (lo : Int) (n : Nat) : It := ⟨fun i _ => i < n, fun i H x H' => H' = H ∧ x = .int (lo + i), fun i _ => n ≤ i⟩
theorem turn_list {P : Program} {w : World} {K : PySem.W.Frag} {tg : Expr} (a it : Addr) : Turn P w K tg (Itl K a) [it] it (fun i h => h.IsListIter it a i) where
  mem := by simp
  obj := fun i h st b hb => by
    have e : b = it := by simpa using hb
    subst e
    obtain ⟨o, e, c, d⟩ := st
    exact ⟨o, e, fun v z => by rw [d] at z; cases z⟩
  keep := fun i h h' st k => st.at fun o e => k it (by simp) o e
  item := by
    intro X hP hw hK hc i pins s σ H E I hf st hg
    subst hP hw hK
    obtain ⟨xs, x, hq, hx⟩ := hg
    obtain ⟨its, rv, p, hz⟩ := I.list hq
    obtain ⟨u, hu, ru⟩ := rv.get hx
    obtain ⟨f0, f1, f2, f3, f4, f5⟩ := hf it (by simp)
    refine wpAny_pyNext_list_item st p.isList (x := u) (by simpa using hu) fun h' st' sb => ?_
    have I1 : Inv X pins σ H { s with heap := h' } := I.turned (t' := s.toks) (fun b o hb e => (sb.2 b hb).trans e) f0 f1 f3 f4 f5
    obtain ⟨o, e, c, d⟩ := id st'
    exact ⟨u, rfl, go_of (s := { s with heap := h' }) e c d (by decide) ⟨x, H, I1, ru, ⟨rfl, fun ys hy => by rw [I.list_inj hy hq]; exact hx⟩, st', fun b hb => (hf b hb).1⟩⟩
  done := by
    intro X hP hw hK hc i pins s σ H E I hf st hg
    subst hP hw hK
    obtain ⟨xs, hq, hx⟩ := hg
    obtain ⟨its, rv, p, hz⟩ := I.list hq
    obtain ⟨f0, f1, f2, f3, f4, f5⟩ := hf it (by simp)
    have hl := rv.length
    exact wpAny_pyNext_list_end (I.ok.hd hc) st p.isList (by simp; omega) fun h' eb => ⟨rfl, I.turned (t' := s.toks) (fun b o hb e => eb b o hb e) f0 f1 f3 f4 f5⟩
  self := fun _ _ _ _ _ st h => wpAny_pyIter_listiter st h
theorem turn_tuple {P : Program} {w : World} {K : PySem.W.Frag} {tg : Expr} (a it : Addr) : Turn P w K tg (Itt K a) [it] it (fun i h => h.IsTupleIter it a i) where
  mem := by simp
  obj := fun i h st b hb => by
    have e : b = it := by simpa using hb
    subst e
    obtain ⟨o, e, c, d⟩ := st
    exact ⟨o, e, fun v z => by rw [d] at z; cases z⟩
  keep := fun i h h' st k => st.at fun o e => k it (by simp) o e
  item := by
    intro X hP hw hK hc i pins s σ H E I hf st hg
    subst hP hw hK
    obtain ⟨xs, x, hq, hx⟩ := hg
    obtain ⟨its, rv, p, hz⟩ := I.tuple hq
    obtain ⟨u, hu, ru⟩ := rv.get hx
    obtain ⟨f0, f1, f2, f3, f4, f5⟩ := hf it (by simp)
    refine wpAny_pyNext_tuple_item st (show s.heap.IsTuple a its.toArray from p) (x := u) (by simpa using hu) fun h' st' sb => ?_
    have I1 : Inv X pins σ H { s with heap := h' } := I.turned (t' := s.toks) (fun b o hb e => (sb.2 b hb).trans e) f0 f1 f3 f4 f5
    obtain ⟨o, e, c, d⟩ := id st'
    exact ⟨u, rfl, go_of (s := { s with heap := h' }) e c d (by decide) ⟨x, H, I1, ru, ⟨rfl, fun ys hy => by rw [I.tuple_inj hy hq]; exact hx⟩, st', fun b hb => (hf b hb).1⟩⟩
  done := by
    intro X hP hw hK hc i pins s σ H E I hf st hg
    subst hP hw hK
    obtain ⟨xs, hq, hx⟩ := hg
    obtain ⟨its, rv, p, hz⟩ := I.tuple hq
    obtain ⟨f0, f1, f2, f3, f4, f5⟩ := hf it (by simp)
    have hl := rv.length
    exact wpAny_pyNext_tuple_end (I.ok.hd hc) st (show s.heap.IsTuple a its.toArray from p) (by simp; omega) fun h' eb => ⟨rfl, I.turned (t' := s.toks) (fun b o hb e => eb b o hb e) f0 f1 f3 f4 f5⟩
  self := fun _ _ _ _ _ st h => wpAny_pyIter_tupleiter st h
theorem turn_range {P : Program} {w : World} {K : PySem.W.Frag} {tg : Expr} (it : Addr) (lo : Int) (n : Nat) : Turn P w K tg (Itr lo n) [it] it (fun i h => IsRangeIter h it (lo + (i : Nat) * 1) ((n : Int) - (i : Nat)) 1) where
  mem := by simp
  obj := fun i h st b hb => by
    have e : b = it := by simpa using hb
    subst e
    exact ⟨_, st, fun v z => by
      have z' : Data.fields _ = Data.cell v := z
      cases z'⟩
  keep := fun i h h' st k => k it (by simp) _ st
  item := by
    intro X hP hw hK hc i pins s σ H E I hf st hg
    subst hP hw hK
    obtain ⟨f0, f1, f2, f3, f4, f5⟩ := hf it (by simp)
    have W := Walks.range (prog := X.prog) (w := X.w) (I.ok.hd hc) it lo 1 n
    refine W.item i s _ _ hg st fun v h' tk hv st' kk => ?_
    obtain ⟨t, rfl⟩ := hv
    have I1 : Inv X pins σ H { s with heap := h', toks := tk } := I.turned (fun b o hb e => kk b o (by simpa using hb) e) f0 f1 f3 f4 f5
    refine ⟨_, rfl, go_of (s := { s with heap := h', toks := tk }) (n := "range_iterator") st' rfl rfl (by decide) ⟨.int (lo + i), H, I1, ⟨t, ?_⟩, ⟨rfl, rfl⟩, st', fun b hb => (hf b hb).1⟩⟩
    rw [Int.mul_one]
  done := by
    intro X hP hw hK hc i pins s σ H E I hf st hg
    subst hP hw hK
    obtain ⟨f0, f1, f2, f3, f4, f5⟩ := hf it (by simp)
    exact wpAny_pyNext_range_end (I.ok.hd hc) st (by have : n ≤ i := hg; omega) fun h' eb => ⟨rfl, I.turned (t' := s.toks) (fun b o hb e => eb b o hb e) f0 f1 f3 f4 f5⟩
  self := fun _ _ _ _ _ st h => wpAny_pyIter_rangeiter st h
end L2
namespace L2
open PySem PySem.Spec PyProof.Rows
section
variable {X : Cx} {tg : Expr}
def iList (K : PySem.W.Frag) (tl : TE) : TI := fun σ H R => tl σ H fun x H1 => ∃ a, x = .ref a ∧ (∃ xs, SqL K H1 a xs) ∧ R (Itl K a) H1
def iTup (K : PySem.W.Frag) (tl : TE) : TI := fun σ H R => tl σ H fun x H1 => ∃ a, x = .ref a ∧ (∃ xs, SqT K H1 a xs) ∧ R (Itt K a) H1
theorem pi_list {l : Expr} {tl : TE} (hl : PE X l tl) : PI X tg l (iList X.K tl) := by
  intro pins s σ H R I h
  refine thn (hl pins s σ H _ I h) fun v s1 ⟨x, H1, I1, r1, q1⟩ => ?_
  obtain ⟨a, e, ⟨xs, hq⟩, q⟩ := q1
  subst e
  cases r1
  obtain ⟨its, rv, p, hz⟩ := I1.list hq
  refine wpAny_pyIter_list p.isList ?_
  refine ⟨s1.heap.objs.size, [s1.heap.objs.size], _, _, H1, rfl, I1.kept (t' := s1.toks) fun b o e => Heap.get?_push_of_some _ e, turn_list a _, ⟨_, Heap.get?_push_size _ rfl, rfl, rfl⟩, fun b hb => ?_, q⟩
  have e : b = s1.heap.objs.size := by simpa using hb
  subst e
  exact I1.fpOk (Nat.le_refl _) (I1.hok.fresh (Nat.le_refl _))
theorem pi_tup {l : Expr} {tl : TE} (hl : PE X l tl) : PI X tg l (iTup X.K tl) := by
  intro pins s σ H R I h
  refine thn (hl pins s σ H _ I h) fun v s1 ⟨x, H1, I1, r1, q1⟩ => ?_
  obtain ⟨a, e, ⟨xs, hq⟩, q⟩ := q1
  subst e
  cases r1
  obtain ⟨its, rv, p, hz⟩ := I1.tuple hq
  refine wpAny_pyIter_tuple (show s1.heap.IsTuple a its.toArray from p) ?_
  refine ⟨s1.heap.objs.size, [s1.heap.objs.size], _, _, H1, rfl, I1.kept (t' := s1.toks) fun b o e => Heap.get?_push_of_some _ e, turn_tuple a _, ⟨_, Heap.get?_push_size _ rfl, rfl, rfl⟩, fun b hb => ?_, q⟩
  have e : b = s1.heap.objs.size := by simpa using hb
  subst e
  exact I1.fpOk (Nat.le_refl _) (I1.hok.fresh (Nat.le_refl _))
theorem range_it {pins : List (Addr × Obj)} {σ : St} {H : Hp} {s : Shared} {R : It → Hp → Prop} {E : Value → Shared → Prop} {lo hi : Int} {t u v : Tok} {tk : Nat} (I : Inv X pins σ H s) (h1 : -(2 ^ 62) ≤ lo) (h2 : lo < 2 ^ 62) (h3 : -(2 ^ 62) ≤ hi) (h4 : hi < 2 ^ 62)
    (q : R (Itr lo (hi - lo).toNat) H) : wpAny (model X.prog X.w) X.A (pyIter (.ref s.heap.objs.size)) (PIE X pins σ tg R) E { s with heap := s.heap.push { cls := .type "range", data := .fields #[.int lo t, .int hi u, .int 1 v] }, toks := tk } := by
  refine wpAny_pyIter_range (IsRange.new ..) (small_one h1 h2 h3 h4) ?_
  have I1 : Inv X pins σ H { s with heap := s.heap.push { cls := .type "range", data := .fields #[.int lo t, .int hi u, .int 1 v] }, toks := tk } := I.kept fun b o e => Heap.get?_push_of_some _ e
  refine ⟨(s.heap.push { cls := .type "range", data := .fields #[.int lo t, .int hi u, .int 1 v] }).objs.size, [(s.heap.push { cls := .type "range", data := .fields #[.int lo t, .int hi u, .int 1 v] }).objs.size], _, _, H, rfl,
    I1.kept (t' := tk) fun b o e => Heap.get?_push_of_some _ e, turn_range _ lo (hi - lo).toNat, ?_, fun b hb => ?_, q⟩
  · have e1 : lo + ((0 : Nat) : Int) * 1 = lo := by simp
    have e2 : (((hi - lo).toNat : Nat) : Int) - ((0 : Nat) : Int) = Builtin.Range.rangeSize lo hi 1 := by rw [rangeSize_one]; split <;> omega
    show IsRangeIter _ _ (lo + ((0 : Nat) : Int) * 1) ((((hi - lo).toNat : Nat) : Int) - ((0 : Nat) : Int)) 1
    rw [e1, e2]
    exact Heap.get?_push_size _ rfl
  · have e : b = (s.heap.push { cls := .type "range", data := .fields #[.int lo t, .int hi u, .int 1 v] }).objs.size := by simpa using hb
    subst e
    exact I1.fpOk (Nat.le_refl _) (I1.hok.fresh (Nat.le_refl _))
def iRng1 (ta : TA) : TI := fun σ H R => ta σ H fun vs H1 => ∃ j : Int, vs = [.int j] ∧ -(2 ^ 62) ≤ j ∧ j < 2 ^ 62 ∧ R (Itr 0 j.toNat) H1
theorem pi_range1 {a : Expr} {ta : TA} {p pos : Pos} (hg : Gl X "range") (hm : X.mg "range" = none) (ha : PA X [a] ta) (hs : starEach [a] X.env = [(false, eval a X.env)] := by rfl) : PI X tg (.Call (.Name "range" p) [a] [] pos) (iRng1 ta) := by
  intro pins s σ H R I h
  refine Call_ (ld_blt I hg hm boot_range (PyProof.Rows.callWith_type1 (thn (ha pos pins s σ H _ I h) fun us s1 ⟨vs, H1, I1, r1, q1⟩ => ?_) hs rfl))
  obtain ⟨j, e, q1, q2, q⟩ := q1
  subst e
  cases r1 with
  | cons r rr =>
    cases rr
    obtain ⟨t, rfl⟩ := r
    exact call_range_1 (range_it I1 (by decide) (by decide) q1 q2 (by simpa using q))
def tFor (wi : TI) (g : TG) (tb : TS) : TS := fun D σ H => wi σ H fun J H1 => ∃ W : Nat → Nat → St → Hp → Prop, (∃ m, W 0 m σ H1) ∧ ∀ i m σ H, W i m σ H →
  (J.stop i H ∧ D.nx σ H) ∨ (J.go i H ∧ ∃ N : St → Hp → Prop, (∀ σ' H', N σ' H' → ∃ m', m' < m ∧ W (i + 1) m' σ' H') ∧ ∀ x H', J.yld i H x H' → g x σ H' fun σ2 H2 => tb { D with nx := N, ct := N, bk := D.nx } σ2 H2)
def pinsAt (fp : List Addr) (h : Heap) : List (Addr × Obj) := fp.filterMap fun b => (h.get? b).map fun o => (b, o)
theorem mem_pinsAt {fp : List Addr} {h : Heap} {b : Addr} {o : Obj} (hb : b ∈ fp) (e : h.get? b = some o) : (b, o) ∈ pinsAt fp h := List.mem_filterMap.mpr ⟨b, hb, by rw [e]; rfl⟩
theorem of_pinsAt {fp : List Addr} {h : Heap} {p : Addr × Obj} (hp : p ∈ pinsAt fp h) : p.1 ∈ fp ∧ h.get? p.1 = some p.2 := by
  obtain ⟨b, hb, e⟩ := List.mem_filterMap.mp hp
  cases q : h.get? b with
  | none => rw [q] at e; cases e
  | some o =>
    rw [q] at e
    have e' : (b, o) = p := Option.some.inj e
    subst e'
    exact ⟨hb, q⟩
theorem Inv.pinned {pins : List (Addr × Obj)} {σ : St} {H : Hp} {s : Shared} {fp : List Addr} (I : Inv X pins σ H s) (hf : ∀ b ∈ fp, FpOk X pins H b) (ho : ∀ b ∈ fp, ∃ o, s.heap.get? b = some o ∧ ∀ v, o.data ≠ .cell v) : Inv X (pins ++ pinsAt fp s.heap) σ H s :=
  I.pins_of fun p hp => (List.mem_append.mp hp).elim (fun z => I.pin p (List.mem_append_right _ z)) fun z => by
    obtain ⟨hb, e⟩ := of_pinsAt z
    obtain ⟨f0, f1, f2, _⟩ := hf p.1 hb
    obtain ⟨o, e', d⟩ := ho p.1 hb
    rw [e] at e'; cases e'
    exact ⟨e, f0, f1, f2, d⟩
theorem Inv.unpinned {pins pl : List (Addr × Obj)} {σ : St} {H : Hp} {s : Shared} (I : Inv X (pins ++ pl) σ H s) : Inv X pins σ H s := I.pins_of fun p hp => I.pin p (List.mem_append_right _ (List.mem_append_left _ hp))
theorem ps_for {iter : Expr} {body : List Stmt} {wi : TI} {g : TG} {tb : TS} {pos : Pos} (hp : PassesOwn (model X.prog X.w) X.A X.env X.xe) (hc : X.calm = true) (hi : PI X tg iter wi) (hg : PG X tg g) (hb : PSs X body tb)
    (hs : ∀ x, foldedSetIterable iter X.env x = pure x := by intro _; rfl) : PS X (.For tg iter body [] pos) (tFor wi g tb) := by
  intro pins s σ H D I h
  refine wpAny_For (thn (hi pins s σ H _ I h) fun v s1 h1 => thn h1 fun itv s2 h2 => ?_) hs
  obtain ⟨it, fp, tn, J, H2, e, I2, T, st2, f2, W, ⟨m0, w0⟩, turn⟩ := h2
  subst e
  have stat : ∀ {H' : Hp}, (∀ b ∈ fp, H' b = none) → ∀ b ∈ fp, FpOk X pins H' b := fun hn b hb => ⟨hn b hb, (f2 b hb).2⟩
  refine codeAny_forLoop_any (fun n s' => ∃ i σ' H', Inv X pins σ' H' s' ∧ tn i s'.heap ∧ (∀ b ∈ fp, H' b = none) ∧ W i n σ' H') ?_ m0 ⟨0, σ, H2, I2, st2, fun b hb => (f2 b hb).1, w0⟩
  rintro n s3 ⟨i, σ3, H3, I3, st3, fr3, w3⟩
  rcases turn i n σ3 H3 w3 with ⟨stop, qn⟩ | ⟨go, N, hN, step⟩
  · refine wpAny_passesOwn hp (thn (T.done X rfl rfl rfl hc i pins s3 σ3 H3 X.xe I3 (stat fr3) st3 stop) fun r s4 ⟨hr, I4⟩ => ?_)
    subst hr
    exact wpAny_execs_nil ⟨σ3, H3, I4, qn⟩
  · refine wpAny_passesOwn hp (thn (T.item X rfl rfl rfl hc i pins s3 σ3 H3 X.xe I3 (stat fr3) st3 go) fun r s4 ⟨u, hr, h4⟩ => ?_)
    subst hr
    refine wpAny_passesOwn hp (thn h4 fun _ s5 ⟨x, H5, I5, r5, y5, st5, fr5⟩ => ?_)
    have I5' := I5.pinned (stat fr5) (T.obj _ _ st5)
    refine wpAny_passesOwn hp (thn (hg _ s5 σ3 H5 x u _ I5' r5 (step x H5 y5)) fun _ s6 ⟨σ6, H6, I6, q6⟩ => ?_)
    refine wpAny_passesOwn hp (thn (hb _ s6 σ6 H6 _ I6 q6) fun f s7 q7 => ?_)
    have again : ∀ {σ7 : St} {H7 : Hp}, Inv X (pins ++ pinsAt fp s5.heap) σ7 H7 s7 → N σ7 H7 → ∃ m, m < n ∧ ∃ i σ' H', Inv X pins σ' H' s7 ∧ tn i s7.heap ∧ (∀ b ∈ fp, H' b = none) ∧ W i m σ' H' := fun {σ7 H7} I7 n7 => by
      obtain ⟨m', hm, w7⟩ := hN σ7 H7 n7
      refine ⟨m', hm, i + 1, σ7, H7, I7.unpinned, T.keep _ _ _ st5 fun b hb o e => (I7.pin (b, o) (List.mem_append_right _ (List.mem_append_right _ (mem_pinsAt hb e)))).1, fun b hb => ?_, w7⟩
      obtain ⟨o, e, d⟩ := T.obj _ _ st5 b hb
      exact (I7.pin (b, o) (List.mem_append_right _ (List.mem_append_right _ (mem_pinsAt hb e)))).2.1
    cases f with
    | next => obtain ⟨σ7, H7, I7, n7⟩ := q7; exact again I7 n7
    | cont => obtain ⟨σ7, H7, I7, n7⟩ := q7; exact again I7 n7
    | brk => obtain ⟨σ7, H7, I7, q7⟩ := q7; exact ⟨σ7, H7, I7.unpinned, q7⟩
    | ret v => obtain ⟨x7, σ7, H7, I7, r7, q7⟩ := q7; exact ⟨x7, σ7, H7, I7.unpinned, r7, q7⟩
end
theorem for_list {K : PySem.W.Frag} {a : Addr} {xs : List V} {g : TG} {tb : TS} {D : Ends} {σ : St} {H : Hp} (Pv : Nat → St → Hp → Prop) (h0 : Pv 0 σ H) (hl : ∀ i σ H, i ≤ xs.length → Pv i σ H → SqL K H a xs)
    (hs : ∀ i x σ H, xs[i]? = some x → Pv i σ H → g x σ H fun σ2 H2 => tb { D with nx := Pv (i + 1), ct := Pv (i + 1), bk := D.nx } σ2 H2) (hd : ∀ σ H, Pv xs.length σ H → D.nx σ H) :
    ∃ W : Nat → Nat → St → Hp → Prop, (∃ m, W 0 m σ H) ∧ ∀ i m σ H, W i m σ H →
      ((Itl K a).stop i H ∧ D.nx σ H) ∨ ((Itl K a).go i H ∧ ∃ N : St → Hp → Prop, (∀ σ' H', N σ' H' → ∃ m', m' < m ∧ W (i + 1) m' σ' H') ∧ ∀ x H', (Itl K a).yld i H x H' → g x σ H' fun σ2 H2 => tb { D with nx := N, ct := N, bk := D.nx } σ2 H2) := by
  refine ⟨fun i m σ H => m = xs.length - i ∧ i ≤ xs.length ∧ Pv i σ H, ⟨xs.length, by simp, Nat.zero_le _, h0⟩, ?_⟩
  rintro i m σ H ⟨rfl, hi, p⟩
  have q := hl i σ H hi p
  by_cases hlt : i < xs.length
  · refine .inr ⟨⟨xs, xs[i], q, by simp [hlt]⟩, Pv (i + 1), fun σ' H' p' => ⟨xs.length - (i + 1), by omega, rfl, hlt, p'⟩, fun x H' y => ?_⟩
    obtain ⟨e, y⟩ := y
    subst e
    exact hs i x σ _ (y xs q) p
  · have e : i = xs.length := by omega
    subst e
    exact .inl ⟨⟨xs, q, Nat.le_refl _⟩, hd σ H p⟩
theorem for_tup {K : PySem.W.Frag} {a : Addr} {xs : List V} {g : TG} {tb : TS} {D : Ends} {σ : St} {H : Hp} (Pv : Nat → St → Hp → Prop) (h0 : Pv 0 σ H) (hl : ∀ i σ H, i ≤ xs.length → Pv i σ H → SqT K H a xs)
    (hs : ∀ i x σ H, xs[i]? = some x → Pv i σ H → g x σ H fun σ2 H2 => tb { D with nx := Pv (i + 1), ct := Pv (i + 1), bk := D.nx } σ2 H2) (hd : ∀ σ H, Pv xs.length σ H → D.nx σ H) :
    ∃ W : Nat → Nat → St → Hp → Prop, (∃ m, W 0 m σ H) ∧ ∀ i m σ H, W i m σ H →
      ((Itt K a).stop i H ∧ D.nx σ H) ∨ ((Itt K a).go i H ∧ ∃ N : St → Hp → Prop, (∀ σ' H', N σ' H' → ∃ m', m' < m ∧ W (i + 1) m' σ' H') ∧ ∀ x H', (Itt K a).yld i H x H' → g x σ H' fun σ2 H2 => tb { D with nx := N, ct := N, bk := D.nx } σ2 H2) := by
  refine ⟨fun i m σ H => m = xs.length - i ∧ i ≤ xs.length ∧ Pv i σ H, ⟨xs.length, by simp, Nat.zero_le _, h0⟩, ?_⟩
  rintro i m σ H ⟨rfl, hi, p⟩
  have q := hl i σ H hi p
  by_cases hlt : i < xs.length
  · refine .inr ⟨⟨xs, xs[i], q, by simp [hlt]⟩, Pv (i + 1), fun σ' H' p' => ⟨xs.length - (i + 1), by omega, rfl, hlt, p'⟩, fun x H' y => ?_⟩
    obtain ⟨e, y⟩ := y
    subst e
    exact hs i x σ _ (y xs q) p
  · have e : i = xs.length := by omega
    subst e
    exact .inl ⟨⟨xs, q, Nat.le_refl _⟩, hd σ H p⟩
theorem for_range {lo : Int} {n : Nat} {g : TG} {tb : TS} {D : Ends} {σ : St} {H : Hp} (Pv : Nat → St → Hp → Prop) (h0 : Pv 0 σ H)
    (hs : ∀ i σ H, i < n → Pv i σ H → g (.int (lo + i)) σ H fun σ2 H2 => tb { D with nx := Pv (i + 1), ct := Pv (i + 1), bk := D.nx } σ2 H2) (hd : ∀ σ H, Pv n σ H → D.nx σ H) :
    ∃ W : Nat → Nat → St → Hp → Prop, (∃ m, W 0 m σ H) ∧ ∀ i m σ H, W i m σ H →
      ((Itr lo n).stop i H ∧ D.nx σ H) ∨ ((Itr lo n).go i H ∧ ∃ N : St → Hp → Prop, (∀ σ' H', N σ' H' → ∃ m', m' < m ∧ W (i + 1) m' σ' H') ∧ ∀ x H', (Itr lo n).yld i H x H' → g x σ H' fun σ2 H2 => tb { D with nx := N, ct := N, bk := D.nx } σ2 H2) := by
  refine ⟨fun i m σ H => m = n - i ∧ i ≤ n ∧ Pv i σ H, ⟨n, by simp, Nat.zero_le _, h0⟩, ?_⟩
  rintro i m σ H ⟨rfl, hi, p⟩
  by_cases hlt : i < n
  · refine .inr ⟨hlt, Pv (i + 1), fun σ' H' p' => ⟨n - (i + 1), by omega, rfl, hlt, p'⟩, fun x H' y => ?_⟩
    obtain ⟨e, y⟩ := y
    subst e y
    exact hs i σ _ hlt p
  · have e : i = n := by omega
    subst e
    exact .inl ⟨Nat.le_refl _, hd σ H p⟩
end L2
namespace L2
open PySem PySem.Spec PyProof.Rows
abbrev R2 := V → V → Hp → VK → Prop
def OpR (X : Cx) (f : Value → Value → Sem Value) (r : R2) : Prop :=
  ∀ (pins : List (Addr × Obj)) (s : Shared) (σ : St) (H : Hp) (x y : V) (v u : Value) (Q : VK), Inv X pins σ H s → RelV x v → RelV y u → r x y H Q →
    wpAny (model X.prog X.w) X.A (f v u) (EP X pins σ Q) X.xe s
def CallR (X : Cx) (f : Value) (r : List V → Hp → VK → Prop) : Prop :=
  ∀ (pins : List (Addr × Obj)) (s : Shared) (σ : St) (H : Hp) (xs : List V) (us : List Value) (Q : VK), Inv X pins σ H s → Vals xs us → r xs H Q →
    wpAny (model X.prog X.w) X.A (call f us) (EP X pins σ Q) X.xe s
def TruR (X : Cx) (r : V → Hp → (Bool → Hp → Prop) → Prop) : Prop :=
  ∀ (pins : List (Addr × Obj)) (s : Shared) (σ : St) (H : Hp) (x : V) (v : Value) (Q : Bool → Hp → Prop), Inv X pins σ H s → RelV x v → r x H Q →
    wpAny (model X.prog X.w) X.A (truthy v) (TP X pins σ Q) X.xe s
def tOp (r : R2) (ta tb : TE) : TE := fun σ H Q => ta σ H fun x H1 => tb σ H1 fun y H2 => r x y H2 Q
inductive RIP (C : Int → Int → Prop) (g : Int → Int → V) (x : V) (y : V) (H : Hp) (Q : VK) : Prop
  | mk (i j : _) : (x = .int i) → (y = .int j) → (C i j) → (Q (g i j) H) → RIP C g x y H Q
def rI (C : Int → Int → Prop) (g : Int → Int → V) : R2 := fun x y H Q => RIP C g x y H Q
inductive RI0P (g : Int → Int → V) (x : V) (y : V) (H : Hp) (Q : VK) : Prop
  | mk (i j : _) : (x = .int i) → (y = .int j) → (Q (g i j) H) → RI0P g x y H Q
def rI0 (g : Int → Int → V) : R2 := fun x y H Q => RI0P g x y H Q
section
variable {X : Cx} {a b c : Expr} {ta tb tc : TE} {pos : Pos}
theorem binT (ha : PE X a ta) (hb : PE X b tb) {pins : List (Addr × Obj)} {s : Shared} {σ : St} {H : Hp} {R : V → V → Hp → Prop} (I : Inv X pins σ H s)
    (h : ta σ H fun x H1 => tb σ H1 fun y H2 => R x y H2) {Q : Value → Shared → Prop} {f : Value → Value → Sem Value}
    (hf : ∀ v u s2 x y H2, Inv X pins σ H2 s2 → RelV x v → RelV y u → R x y H2 → wpAny (model X.prog X.w) X.A (f v u) Q X.xe s2) :
    wpAny (model X.prog X.w) X.A (eval a X.env) (fun v s₁ => wpAny (model X.prog X.w) X.A (eval b X.env) (fun u s₂ => wpAny (model X.prog X.w) X.A (f v u) Q X.xe s₂) X.xe s₁) X.xe s := by
  refine thn (ha pins s σ H _ I h) fun v s1 ⟨x, H1, I1, r1, q1⟩ => ?_
  refine thn (hb pins s1 σ H1 _ I1 q1) fun u s2 ⟨y, H2, I2, r2, q2⟩ => ?_
  exact hf v u s2 x y H2 I2 r1 r2 q2
theorem pe_op {op : Operator} {r : R2} (ho : OpR X (binaryOp op) r) (ha : PE X a ta) (hb : PE X b tb) : PE X (.BinOp a op b pos) (tOp r ta tb) := by
  intro pins s σ H Q I h
  exact wpAny_BinOp (binT ha hb I h fun v u s2 x y H2 I2 rx ry q => ho pins s2 σ H2 x y v u Q I2 rx ry q)
theorem opI {f : Value → Value → Sem Value} {C : Int → Int → Prop} {g : Int → Int → Int}
    (rule : ∀ (i j : Int) (t u : Tok) (s : Shared) (Q : Value → Shared → Prop) (E : Value → Shared → Prop), C i j → Q (.int (g i j) s.toks) { s with toks := s.toks + 1 } → wpAny (model X.prog X.w) X.A (f (.int i t) (.int j u)) Q E s) :
    OpR X f (rI C fun i j => .int (g i j)) := by
  intro pins s σ H x y v u Q I rx ry h
  obtain ⟨i, j, rfl, rfl, hc, q⟩ := h
  obtain ⟨t, rfl⟩ := rx
  obtain ⟨t', rfl⟩ := ry
  exact rule i j t t' s _ _ hc ⟨.int (g i j), H, I.tok _, ⟨_, rfl⟩, q⟩
theorem opI0 {f : Value → Value → Sem Value} {g : Int → Int → Int}
    (rule : ∀ (i j : Int) (t u : Tok) (s : Shared) (Q : Value → Shared → Prop) (E : Value → Shared → Prop), Q (.int (g i j) s.toks) { s with toks := s.toks + 1 } → wpAny (model X.prog X.w) X.A (f (.int i t) (.int j u)) Q E s) :
    OpR X f (rI0 fun i j => .int (g i j)) := by
  intro pins s σ H x y v u Q I rx ry h
  obtain ⟨i, j, rfl, rfl, q⟩ := h
  obtain ⟨t, rfl⟩ := rx
  obtain ⟨t', rfl⟩ := ry
  exact rule i j t t' s _ _ ⟨.int (g i j), H, I.tok _, ⟨_, rfl⟩, q⟩
theorem opB0 {f : Value → Value → Sem Value} {g : Int → Int → Bool}
    (rule : ∀ (i j : Int) (t u : Tok) (s : Shared) (Q : Value → Shared → Prop) (E : Value → Shared → Prop), Q (.bool (g i j)) s → wpAny (model X.prog X.w) X.A (f (.int i t) (.int j u)) Q E s) :
    OpR X f (rI0 fun i j => .bl (g i j)) := by
  intro pins s σ H x y v u Q I rx ry h
  obtain ⟨i, j, rfl, rfl, q⟩ := h
  obtain ⟨t, rfl⟩ := rx
  obtain ⟨t', rfl⟩ := ry
  exact rule i j t t' s _ _ ⟨.bl (g i j), H, I, rfl, q⟩
def CDiv (i j : Int) : Prop := 0 < j ∧ j < 1073741824
def CPow (i j : Int) : Prop := 0 ≤ j ∧ j ≤ 1000000 ∧ i.natAbs < 2 ^ 64
def CMul (i j : Int) : Prop := (-(2 ^ 64) < i ∧ i < 2 ^ 64) ∨ (-(2 ^ 64) < j ∧ j < 2 ^ 64)
theorem CMul.ok {i j : Int} (h : CMul i j) : IntMulOk i j := by
  rcases h with ⟨h1, h2⟩ | ⟨h1, h2⟩
  · exact .of_left (intBits_le_64 h1 h2)
  · exact .of_right (intBits_le_64 h1 h2)
theorem op_add : OpR X (binaryOp .Add) (rI0 fun i j => .int (i + j)) := opI0 fun _ _ _ _ _ _ _ q => add_int q
theorem op_sub : OpR X (binaryOp .Sub) (rI0 fun i j => .int (i - j)) := opI0 fun _ _ _ _ _ _ _ q => sub_int q
theorem op_mul : OpR X (binaryOp .Mult) (rI CMul fun i j => .int (i * j)) := opI fun _ _ _ _ _ _ _ hc q => mul_int q hc.ok
theorem op_fdiv : OpR X (binaryOp .FloorDiv) (rI CDiv fun i j => .int (i / j)) := opI fun i j _ _ _ _ _ hc q => by
  have h1 : (0 : Int) < j := hc.1
  have h2 : j < 1073741824 := hc.2
  exact floordiv_int (by omega) (by rw [Int.fdiv_eq_ediv_of_nonneg i (by omega)]; exact q) (.inl (PyProof.noPylong_small (by omega)))
theorem op_mod : OpR X (binaryOp .Mod) (rI (fun _ j => 0 < j) fun i j => .int (i % j)) := opI fun i j _ _ _ _ _ hc q => by
  have h1 : (0 : Int) < j := hc
  exact mod_int' (by omega) (by rw [Int.fmod_eq_emod_of_nonneg i (by omega)]; exact q)
theorem op_pow : OpR X (binaryOp .Pow) (rI CPow fun i j => .int (i ^ j.toNat)) := opI fun _ _ _ _ _ _ _ hc q => pow_int_small hc.1 hc.2.1 hc.2.2 q
end
def scal : V → V → Bool
  | .non, .non => true | .non, .int _ => true | .int _, .non => true | .non, .bl _ => true | .bl _, .non => true | .non, .str _ => true | .str _, .non => true
  | .int _, .int _ => true | .bl _, .bl _ => true | .str _, .str _ => true | .byt _, .byt _ => true
  | .int _, .str _ => true | .str _, .int _ => true | .bl _, .str _ => true | .str _, .bl _ => true
  | _, _ => false
def rEq : R2 := fun x y H Q => scal x y = true ∧ Q (.bl (decide (x = y))) H
def rNe : R2 := fun x y H Q => scal x y = true ∧ Q (.bl (!decide (x = y))) H
theorem dec_int {i j : Int} : decide (V.int i = V.int j) = (i == j) := by
  rw [Bool.eq_iff_iff]
  simp
theorem dec_bl {i j : Bool} : decide (V.bl i = V.bl j) = (i == j) := by
  rw [Bool.eq_iff_iff]
  simp
theorem dec_str {i j : Str} : decide (V.str i = V.str j) = (i == j) := by
  rw [Bool.eq_iff_iff]
  simp
theorem dec_byt {i j : Array UInt8} : decide (V.byt i = V.byt j) = (i.toList == j.toList) := by
  rw [Bool.eq_iff_iff]
  cases i
  cases j
  simp
section
variable {X : Cx} {a b c : Expr} {ta tb tc : TE} {pos : Pos}
theorem fin_bl {pins : List (Addr × Obj)} {σ : St} {H : Hp} {s : Shared} {Q : VK} {k k' : Bool} (I : Inv X pins σ H s) (q : Q (.bl k) H) (e : k = k') : EP X pins σ Q (.bool k') s := by
  subst e
  exact ⟨.bl k, H, I, rfl, q⟩
theorem op_eq : OpR X (compareOp .Eq) rEq := by
  intro pins s σ H x y v u Q I rx ry h
  obtain ⟨hs, q⟩ := h
  cases x with
  | non =>
    cases rx
    cases y with
    | non => cases ry; exact PySem.EqNone.eq_none_none (fin_bl I q (by simp))
    | bl j => cases ry; exact PySem.EqNone.eq_none_bool (fin_bl I q (by simp))
    | int j => obtain ⟨t', rfl⟩ := ry; exact PySem.EqNone.eq_none_int (fin_bl I q (by simp))
    | str j => obtain ⟨t', rfl⟩ := ry; exact PySem.EqNone.eq_none_str (fin_bl I q (by simp))
    | _ => exact absurd (show false = true from hs) Bool.false_ne_true
  | bl i =>
    cases rx
    cases y with
    | non => cases ry; exact PySem.EqNone.eq_bool_none (fin_bl I q (by simp))
    | bl j => cases ry; exact eq_bool (fin_bl I q dec_bl)
    | str j => obtain ⟨t', rfl⟩ := ry; exact PySem.EqMixed.eq_bool_str (fin_bl I q (by simp))
    | _ => exact absurd (show false = true from hs) Bool.false_ne_true
  | int i =>
    obtain ⟨t, rfl⟩ := rx
    cases y with
    | non => cases ry; exact PySem.EqNone.eq_int_none (fin_bl I q (by simp))
    | int j => obtain ⟨t', rfl⟩ := ry; exact eq_int (fin_bl I q dec_int)
    | str j => obtain ⟨t', rfl⟩ := ry; exact PySem.EqMixed.eq_int_str (fin_bl I q (by simp))
    | _ => exact absurd (show false = true from hs) Bool.false_ne_true
  | str i =>
    obtain ⟨t, rfl⟩ := rx
    cases y with
    | non => cases ry; exact PySem.EqNone.eq_str_none (fin_bl I q (by simp))
    | bl j => cases ry; exact PySem.EqMixed.eq_str_bool (fin_bl I q (by simp))
    | int j => obtain ⟨t', rfl⟩ := ry; exact PySem.EqMixed.eq_str_int (fin_bl I q (by simp))
    | str j => obtain ⟨t', rfl⟩ := ry; exact eq_str (fin_bl I q dec_str)
    | _ => exact absurd (show false = true from hs) Bool.false_ne_true
  | byt i =>
    obtain ⟨t, rfl⟩ := rx
    cases y with
    | byt j => obtain ⟨t', rfl⟩ := ry; exact PySem.W.eq_bytes (fin_bl I q dec_byt)
    | _ => exact absurd (show false = true from hs) Bool.false_ne_true
  | _ => cases y <;> exact absurd (show false = true from hs) Bool.false_ne_true
theorem op_ne : OpR X (compareOp .NotEq) rNe := by
  intro pins s σ H x y v u Q I rx ry h
  obtain ⟨hs, q⟩ := h
  cases x with
  | non =>
    cases rx
    cases y with
    | non => cases ry; exact PySem.EqNone.ne_none_none (fin_bl I q (by simp))
    | bl j => cases ry; exact PySem.EqNone.ne_none_bool (fin_bl I q (by simp))
    | int j => obtain ⟨t', rfl⟩ := ry; exact PySem.EqNone.ne_none_int (fin_bl I q (by simp))
    | str j => obtain ⟨t', rfl⟩ := ry; exact PySem.EqNone.ne_none_str (fin_bl I q (by simp))
    | _ => exact absurd (show false = true from hs) Bool.false_ne_true
  | bl i =>
    cases rx
    cases y with
    | non => cases ry; exact PySem.EqNone.ne_bool_none (fin_bl I q (by simp))
    | bl j => cases ry; exact ne_bool (fin_bl I q (congrArg not dec_bl))
    | str j => obtain ⟨t', rfl⟩ := ry; exact PySem.EqMixed.ne_bool_str (fin_bl I q (by simp))
    | _ => exact absurd (show false = true from hs) Bool.false_ne_true
  | int i =>
    obtain ⟨t, rfl⟩ := rx
    cases y with
    | non => cases ry; exact PySem.EqNone.ne_int_none (fin_bl I q (by simp))
    | int j => obtain ⟨t', rfl⟩ := ry; exact ne_int (fin_bl I q (congrArg not dec_int))
    | str j => obtain ⟨t', rfl⟩ := ry; exact PySem.EqMixed.ne_int_str (fin_bl I q (by simp))
    | _ => exact absurd (show false = true from hs) Bool.false_ne_true
  | str i =>
    obtain ⟨t, rfl⟩ := rx
    cases y with
    | non => cases ry; exact PySem.EqNone.ne_str_none (fin_bl I q (by simp))
    | bl j => cases ry; exact PySem.EqMixed.ne_str_bool (fin_bl I q (by simp))
    | int j => obtain ⟨t', rfl⟩ := ry; exact PySem.EqMixed.ne_str_int (fin_bl I q (by simp))
    | str j => obtain ⟨t', rfl⟩ := ry; exact ne_str (fin_bl I q (congrArg not dec_str))
    | _ => exact absurd (show false = true from hs) Bool.false_ne_true
  | byt i =>
    obtain ⟨t, rfl⟩ := rx
    cases y with
    | byt j => obtain ⟨t', rfl⟩ := ry; exact PySem.W.ne_bytes (fin_bl I q (congrArg not dec_byt))
    | _ => exact absurd (show false = true from hs) Bool.false_ne_true
  | _ => cases y <;> exact absurd (show false = true from hs) Bool.false_ne_true
theorem op_gt : OpR X (compareOp .Gt) (rI0 fun i j => .bl (decide (j < i))) := opB0 fun _ _ _ _ _ _ _ q => gt_int q
theorem op_ge : OpR X (compareOp .GtE) (rI0 fun i j => .bl (decide (j ≤ i))) := opB0 fun _ _ _ _ _ _ _ q => ge_int q
theorem op_isN : OpR X (compareOp .Is) (fun x y H Q => y = .non ∧ Q (.bl (decide (x = .non))) H) := by
  intro pins s σ H x y v u Q I rx ry h
  obtain ⟨rfl, q⟩ := h
  cases ry
  refine is_none_gen (fin_bl I q ?_)
  cases x <;> first
    | (cases rx; rfl)
    | (obtain ⟨t, rfl⟩ := rx; rfl)
theorem op_notN : OpR X (compareOp .IsNot) (fun x y H Q => y = .non ∧ Q (.bl (!decide (x = .non))) H) := by
  intro pins s σ H x y v u Q I rx ry h
  obtain ⟨rfl, q⟩ := h
  cases ry
  refine isnot_none_gen (fin_bl I q ?_)
  cases x <;> first
    | (cases rx; rfl)
    | (obtain ⟨t, rfl⟩ := rx; rfl)
theorem nomark (b : Expr) {op : CmpOp} (h : op ≠ .In := by decide) (h2 : op ≠ .NotIn := by decide) : behindInMarks op b = false := by
  have e1 : (op == CmpOp.In) = false := by cases op <;> first | rfl | exact absurd rfl h
  have e2 : (op == CmpOp.NotIn) = false := by cases op <;> first | rfl | exact absurd rfl h2
  cases b <;> simp [behindInMarks, e1, e2]
theorem pe_cmpR {op : CmpOp} {r : R2} (ho : OpR X (compareOp op) r) (ha : PE X a ta) (hb : PE X b tb) (hm : behindInMarks op b = false) : PE X (.Compare a [op] [b] pos) (tOp r ta tb) := by
  intro pins s σ H Q I h
  exact wpAny_Compare1 (binT ha hb I h fun v u s2 x y H2 I2 rx ry q => ho pins s2 σ H2 x y v u Q I2 rx ry q) hm
def tTest (t : TE) : TT := fun σ H Q => t σ H fun x H' => BlP x H' Q
theorem pt_cmpR {op : CmpOp} {r : R2} (ho : OpR X (compareOp op) r) (ha : PE X a ta) (hb : PE X b tb) (hm : behindInMarks op b = false) : PT X (.Compare a [op] [b] pos) (tTest (tOp r ta tb)) := by
  intro pins s σ H Q I h
  refine wpAny_isTrue_Compare1 (thn (ha pins s σ H _ I h) fun v s1 ⟨x, H1, I1, r1, q1⟩ => thn (hb pins s1 σ H1 _ I1 q1) fun u s2 ⟨y, H2, I2, r2, q2⟩ =>
    thn (ho pins s2 σ H2 x y v u _ I2 r1 r2 q2) fun c s3 ⟨z, H3, I3, r3, k, e, q3⟩ => ?_) hm
  subst e
  cases r3
  exact wpAny_truthy_bool ⟨H3, I3, q3⟩
def TruV (K : PySem.W.Frag) (x : V) (H : Hp) (k : Bool) : Prop :=
  match x with
  | .non => k = false
  | .bl b => k = b
  | .int i => k = (i != 0)
  | .str y => y.length ≤ sizeLine ∧ k = ((y.length : Int) != 0)
  | .byt y => y.size ≤ sizeLine ∧ k = ((y.size : Int) != 0)
  | .ref p => (∃ xs, SqL K H p xs ∧ k = !xs.isEmpty) ∨ (∃ xs, SqT K H p xs ∧ k = !xs.isEmpty) ∨ ∃ kvs, H p = some (.dK kvs) ∧ k = !kvs.isEmpty
  | _ => False
theorem isEmpty_kv {κ : Type} {kvs : List (κ × V)} {vs : List (κ × Value)} (r : KV kvs vs) : (!vs.isEmpty) = !kvs.isEmpty := by
  cases r <;> rfl
theorem isEmpty_of {xs : List V} {its : List Value} (r : Vals xs its) : (!its.toArray.isEmpty) = !xs.isEmpty := by
  cases r <;> simp
theorem line63 : (sizeLine : Nat) < 2 ^ 63 := by rw [sizeLine_eq]; decide
theorem tru_ok : TruR X (fun x H Q => ∃ k, TruV X.K x H k ∧ Q k H) := by
  intro pins s σ H x v Q I rx h
  obtain ⟨k, e, q⟩ := h
  have hl := line63
  have hs : sizeLine = 16777216 := sizeLine_eq
  cases x with
  | non =>
    cases rx
    have e' : k = false := e
    subst e'
    exact truthy_none ⟨H, I, q⟩
  | bl b =>
    cases rx
    have e' : k = b := e
    subst e'
    exact wpAny_truthy_bool ⟨H, I, q⟩
  | int i =>
    obtain ⟨t, rfl⟩ := rx
    have e' : k = (i != 0) := e
    subst e'
    exact PySem.P.truthy_int ⟨H, I, q⟩
  | str y =>
    obtain ⟨t, rfl⟩ := rx
    obtain ⟨hy, e'⟩ : y.length ≤ sizeLine ∧ k = ((y.length : Int) != 0) := e
    subst e'
    exact PySem.P.truthy_str (by omega) ⟨H, I.tok _, q⟩
  | byt y =>
    obtain ⟨t, rfl⟩ := rx
    obtain ⟨hy, e'⟩ : y.size ≤ sizeLine ∧ k = ((y.size : Int) != 0) := e
    subst e'
    exact PySem.W.truthy_bytes (by exact Nat.le_trans (by assumption) (by decide)) ⟨H, I.tok _, q⟩
  | ref p =>
    cases rx
    have e' : (∃ xs, SqL X.K H p xs ∧ k = !xs.isEmpty) ∨ (∃ xs, SqT X.K H p xs ∧ k = !xs.isEmpty) ∨ ∃ kvs, H p = some (.dK kvs) ∧ k = !kvs.isEmpty := e
    rcases e' with ⟨xs, hx, e'⟩ | ⟨xs, hx, e'⟩ | ⟨kvs, hx, e'⟩
    · subst e'
      obtain ⟨its, r, pl, hz⟩ := I.list hx
      have hlen := r.length
      exact wpAny_truthy_list pl.isList (by simp only [List.size_toArray]; omega) ⟨H, I.tok _, by rw [isEmpty_of r]; exact q⟩
    · subst e'
      obtain ⟨its, r, pl, hz⟩ := I.tuple hx
      have hlen := r.length
      exact truthy_tuple pl (by simp only [List.size_toArray]; omega) ⟨H, I.tok _, by rw [isEmpty_of r]; exact q⟩
    · subst e'
      obtain ⟨hz, hS, vs, r, m⟩ : kvs.length ≤ sizeLine ∧ (p == sysModules) = false ∧ ∃ vs, KV kvs vs ∧ s.heap.DictOf (mixKind X.prog X.w) p vs := I.hok p _ hx
      have hlen : kvs.length = vs.length := Paired.length r
      exact wpAny_truthy_dict hS m (by omega) ⟨H, I.tok _, by rw [isEmpty_kv r]; exact q⟩
  | _ => exact (show False from e).elim
theorem pt_truth (ha : PE X a ta) (he : ∀ whole, isTrue a X.env whole = (do let v ← whole; standAt a.pos; holding [v] (truthy v))) :
    PT X a (fun σ H Q => ta σ H fun x H' => ∃ k, TruV X.K x H' k ∧ Q k H') := by
  intro pins s σ H Q I h
  exact isTrue_plain (thn (ha pins s σ H _ I h) fun v s1 ⟨x, H1, I1, r1, q1⟩ => tru_ok pins s1 σ H1 x v Q I1 r1 q1) (he _)
theorem op_add_str : OpR X (binaryOp .Add) (fun x y H Q => ∃ i j, x = .str i ∧ y = .str j ∧ i.length + j.length ≤ sizeLine ∧ Q (.str (i ++ j)) H) := by
  intro pins s σ H x y v u Q I rx ry h
  obtain ⟨i, j, rfl, rfl, hz, q⟩ := h
  obtain ⟨t, rfl⟩ := rx
  obtain ⟨t', rfl⟩ := ry
  exact add_str (fun t' tk => ⟨.str (i ++ j), H, I.tok _, ⟨_, rfl⟩, q⟩) hz
theorem vals1 {x : V} {us : List Value} (r : Vals [x] us) : ∃ u, us = [u] ∧ RelV x u := by
  cases r with
  | cons r1 r2 => cases r2; exact ⟨_, rfl, r1⟩
theorem vals2 {x y : V} {us : List Value} (r : Vals [x, y] us) : ∃ u w', us = [u, w'] ∧ RelV x u ∧ RelV y w' := by
  cases r with
  | cons r1 r2 =>
    cases r2 with
    | cons r3 r4 => cases r4; exact ⟨_, _, rfl, r1, r3⟩
theorem call_min2 (hc : X.calm = true) : CallR X (.builtin "min") (fun xs H Q => ∃ i j, xs = [.int i, .int j] ∧ Q (.int (if j < i then j else i)) H) := by
  intro pins s σ H xs us Q I r h
  obtain ⟨i, j, rfl, q⟩ := h
  obtain ⟨u, w', rfl, ⟨t, rfl⟩, ⟨t', rfl⟩⟩ := vals2 r
  refine min_two_ints (I.ok.hd hc) fun h' tk k => ⟨_, H, I.kept k, ?_, q⟩
  by_cases hj : j < i
  · rw [if_pos hj, if_pos hj]; exact ⟨_, rfl⟩
  · rw [if_neg hj, if_neg hj]; exact ⟨_, rfl⟩
theorem call_int1 : CallR X (.type "int") (fun xs H Q => (∃ i, xs = [.int i] ∧ Q (.int i) H) ∨ ∃ k, xs = [.bl k] ∧ Q (.int (if k then 1 else 0)) H) := by
  intro pins s σ H xs us Q I r h
  rcases h with ⟨i, rfl, q⟩ | ⟨k, rfl, q⟩
  · obtain ⟨u, rfl, t, rfl⟩ := vals1 r
    exact call_int_int ⟨.int i, H, I, ⟨_, rfl⟩, q⟩
  · obtain ⟨u, rfl, r1⟩ := vals1 r
    cases r1
    exact call_int_bool ⟨.int (if k then 1 else 0), H, I.tok _, ⟨_, rfl⟩, q⟩
end
end L2
namespace L2
open PySem PySem.Spec PyProof.Rows
end L2
namespace L2
open PySem PySem.Spec PyProof.Rows
structure Room (k : Nat) (A : Around) : Prop where
  hd : A.handled = none
  dp : A.depth + 3 * k + 5 < recursionLimit
  un : A.units + 16 * k + 200 < cLine
  gd : A.guards = some []
theorem Room.mono {j k : Nat} {A : Around} (r : Room k A) (h : j ≤ k) : Room j A := ⟨r.hd, by have := r.dp; omega, by have := r.un; omega, r.gd⟩
theorem Room.deeper {k : Nat} {A : Around} (r : Room (k + 1) A) (env : Env) : Room k (A.deeper env) :=
  ⟨r.hd, by have := r.dp; show A.depth + 1 + 3 * k + 5 < _; omega, by have := r.un; show A.units + 3 + 16 * k + 200 < _; omega, by show pushGuards [] A.guards = some []; rw [r.gd]; rfl⟩
theorem Room.depth {k : Nat} {A : Around} (r : Room k A) : A.depth < recursionLimit := by have := r.dp; omega
theorem Room.units {k : Nat} {A : Around} (r : Room k A) : A.units + 64 < cLine := by have := r.un; omega
theorem Room.units0 {k : Nat} {A : Around} (r : Room k A) : A.units < cLine := by have := r.un; omega
def tNil : TA := fun _ H Q => Q [] H
def tCons (ta : TE) (tr : TA) : TA := fun σ H Q => ta σ H fun x H1 => tr σ H1 fun xs H2 => Q (x :: xs) H2
section
variable {X : Cx} {e : Expr} {es : List Expr} {te : TE} {t : TA} {pos : Pos}
theorem pa_nil : PA X [] tNil := fun _ _ _ _ H Q I h => Calls.spliced_nil ⟨[], H, I, .nil, h⟩
theorem pa_cons (ha : PE X e te) (hr : PA X es t) (hs : starEach (e :: es) X.env = (false, eval e X.env) :: starEach es X.env := by rfl) : PA X (e :: es) (tCons te t) := by
  intro pos pins s σ H Q I h
  rw [hs]
  show wpAny _ _ (spliced ((false, eval e X.env) :: backTo pos (starEach es X.env))) _ _ s
  refine Calls.spliced_cons (thn (ha pins s σ H _ I h) fun u s1 ⟨x, H1, I1, r1, q1⟩ => ?_)
  exact thn (hr pos pins s1 σ H1 _ I1 q1) fun us s2 ⟨xs, H2, I2, r2, q2⟩ => ⟨x :: xs, H2, I2, .cons r1 r2, q2⟩
def tTup (t : TA) : TE := fun σ H Q => t σ H fun xs H1 => xs.length ≤ sizeLine ∧ ∀ p, H1 p = none → Q (.ref p) (upd H1 p (.tup xs))
def tLst (t : TA) : TE := fun σ H Q => t σ H fun xs H1 => xs.length ≤ sizeLine ∧ ∀ p, H1 p = none → Q (.ref p) (upd H1 p (.lst xs))
theorem pe_tup {x1} (h : PA X es t) : PE X (.Tuple es x1 pos) (tTup t) := by
  intro pins s σ H Q I hq
  refine wpAny_Tuple_spliced (thn (h pos pins s σ H _ I hq) fun us s1 ⟨xs, H1, I1, r, z, q⟩ => ⟨by rw [← r.length]; exact z, ?_⟩)
  have hf : H1 s1.heap.objs.size = none := I1.hok.fresh (Nat.le_refl _)
  refine ⟨.ref s1.heap.objs.size, upd H1 s1.heap.objs.size (.tup xs), I1.laid (t' := s1.toks) (fun b u e => Heap.get?_push_of_some _ e) (Nat.le_refl _) ?_, rfl, q _ hf⟩
  exact ⟨z, us, r, IsTupN.new _ _⟩
theorem pe_lst (h : PA X es t) : PE X (.List es pos) (tLst t) := by
  intro pins s σ H Q I hq
  refine wpAny_List_spliced (thn (h pos pins s σ H _ I hq) fun us s1 ⟨xs, H1, I1, r, z, q⟩ => ⟨by rw [← r.length]; exact z, ?_⟩)
  have hf : H1 s1.heap.objs.size = none := I1.hok.fresh (Nat.le_refl _)
  refine ⟨.ref s1.heap.objs.size, upd H1 s1.heap.objs.size (.lst xs), I1.laid (t' := s1.toks) (fun b u e => Heap.get?_push_of_some _ e) (Nat.le_refl _) ?_, rfl, q _ hf⟩
  exact ⟨z, us, 0, r, Heap.get?_push_size _ rfl⟩
end
abbrev Sp := List V → Hp → VK → XK → Prop
abbrev CXT := List Env → Hp → Shared → XK → Value → Shared → Prop
structure Env0 (P : Program) (w : World) (K : PySem.W.Frag) (mg : Str → Option Value) (base : Heap) (A : Around) (outer : List Env) (s : Shared) (H : Hp) : Prop where
  frames : A.frames = some outer
  mod : Mod K mg base
  bs : ∀ b o, base.get? b = some o → s.heap.get? b = some o ∧ H b = none
  bsz : base.objs.size ≤ s.heap.objs.size
  funs : s.heap.FunFrames base outer
  frf : ∀ b ∈ frs outer, H b = none
  hok : HOk P w H s.heap
  bare : AllBare s.gens
def CE (outer : List Env) (P : Program) (w : World) (H : Hp) (s : Shared) (Q : VK) (u : Value) (s' : Shared) : Prop :=
  ∃ v H', s'.os = s.os ∧ AllBare s'.gens ∧ Un (frs outer) [] H H' s.heap s'.heap ∧ HOk P w H' s'.heap ∧ RelV v u ∧ Q v H'
def CR (CX : CXT) (outer : List Env) (P : Program) (w : World) (H : Hp) (s : Shared) (Q : VK) (E : XK) (r : Result) (s' : Shared) : Prop :=
  match r with
  | .ok (.ret u) => CE outer P w H s Q u s'
  | .ok _ => False
  | .error e => CX outer H s E e s'
structure FnOk (P : Program) (w : World) (K : PySem.W.Frag) (mg : Str → Option Value) (base : Heap) (CX : CXT) (k : Nat) (f : Addr) (fd : FuncData) (ps : List Str) (sp : Sp) : Prop where
  len : ∀ vs H Q E, sp vs H Q E → vs.length = ps.length
  run : ∀ (A : Around) (outer : List Env) (s : Shared) (H : Hp) (args : Args) (us : List Value) (vs : List V) (Q : VK) (E : XK), Room k A → Env0 P w K mg base A outer s H → BindsTo s fd args (ps.zip us) → Vals vs us → sp vs H Q E →
    codeAny (model P w) A (.call (.ref f) args) (CR CX outer P w H s Q E) s
theorem FnOk.mono {P : Program} {w : World} {K : PySem.W.Frag} {mg : Str → Option Value} {base : Heap} {CX : CXT} {j k : Nat} {f : Addr} {fd : FuncData} {ps : List Str} {sp : Sp} (F : FnOk P w K mg base CX j f fd ps sp) (h : j ≤ k) :
    FnOk P w K mg base CX k f fd ps sp := ⟨F.len, fun A outer s H args us vs Q E hr => F.run A outer s H args us vs Q E (hr.mono h)⟩
section
variable {X : Cx} {pins : List (Addr × Obj)} {σ : St} {H : Hp} {s s' : Shared}
theorem Inv.env0 (I : Inv X pins σ H s) : Env0 X.prog X.w X.K X.mg X.base X.A X.stack s H :=
  ⟨I.ok.frames, I.ok.mod, I.bs, Nat.le_trans I.ok.bsz I.sz, I.stack, I.stkFree, I.hok, I.bare⟩
theorem Inv.after {Q : VK} {u : Value} (I : Inv X pins σ H s) (h : CE X.stack X.prog X.w H s Q u s') : EP X pins σ Q u s' := by
  obtain ⟨v, H', os, bare, un, hok, r, q⟩ := h
  obtain ⟨hh, g, d, t, os'⟩ := s'
  obtain rfl : os' = s.os := os
  exact ⟨v, H', I.call (h' := hh) (g' := g) (d' := d) (t' := t) (ch := []) un hok bare (fun b z => absurd z (by simp)), r, q⟩
end
def tCall (sp : Sp) (dvs : List V) (E : XK) (t : TA) : TE := fun σ H Q => t σ H fun vs H1 => sp (vs ++ dvs) H1 Q E
def Binds (K : PySem.W.Frag) (fd : FuncData) (ps : List Str) (ds : List Value) : Prop :=
  ∀ (s : Shared) (us : List Value), K.In s.heap → (us ++ ds).length = ps.length → BindsTo s fd ⟨us, []⟩ (ps.zip (us ++ ds))
theorem Binds.all {K : PySem.W.Frag} {fd : FuncData} {ps : List Str} (h : ∀ us : List Value, us.length = ps.length → bindArgs fd ⟨us, []⟩ = pure (ps.zip us)) : Binds K fd ps [] := fun s us _ hl => by
  rw [List.append_nil] at hl ⊢
  exact .of_eq (h us hl)
def Passes (CX : CXT) (X : Cx) (E : XK) : Prop := ∀ (pins : List (Addr × Obj)) (σ : St) (H : Hp) (s : Shared) (e : Value) (s' : Shared), Inv X pins σ H s → CX X.stack H s E e s' → X.xe e s'
section
variable {X : Cx} {CX : CXT} {k : Nat} {f C : Addr} {fd : FuncData} {ps : List Str} {sp : Sp} {dvs : List V} {ds : List Value} {E : XK} {x m : Str} {p pos apos : Pos} {e o : Expr} {es : List Expr} {ta : TE} {t : TA}
theorem run_fn {pins : List (Addr × Obj)} {σ : St} {H : Hp} {s : Shared} {Q : VK} {us : List Value} {vs : List V} (F : FnOk X.prog X.w X.K X.mg X.base CX k f fd ps sp) (hr : Room k X.A) (hb : Binds X.K fd ps ds) (hd : Vals dvs ds) (hx : Passes CX X E)
    (I : Inv X pins σ H s) (r : Vals vs us) (h : sp (vs ++ dvs) H Q E) : wpAny (model X.prog X.w) X.A (call (.ref f) us) (EP X pins σ Q) X.xe s := by
  have r2 : Vals (vs ++ dvs) (us ++ ds) := r.append hd
  have hl : (us ++ ds).length = ps.length := by rw [← r2.length]; exact F.len _ _ _ _ h
  refine wpAny_call (codeAny_mono (F.run X.A X.stack s H ⟨us, []⟩ (us ++ ds) (vs ++ dvs) Q E hr I.env0 (hb s us I.kIn hl) r2 h) fun r s' hq => ?_)
  cases r with
  | error e => exact hx pins σ H s e s' I hq
  | ok fl =>
    cases fl with
    | ret u => exact I.after hq
    | next => exact False.elim hq
    | brk => exact False.elim hq
    | cont => exact False.elim hq
theorem pe_call (F : FnOk X.prog X.w X.K X.mg X.base CX k f fd ps sp) (hr : Room k X.A) (hg : Gl X x) (hm : X.mg x = some (.ref f)) (hk : PySem.W.keepIn X.K (.ref f) = true) (hb : Binds X.K fd ps ds) (hd : Vals dvs ds) (hx : Passes CX X E)
    (ha : PA X (e :: es) t) (hdb : (x == ("__debug__" : Str)) = false := by decide) (he : starEach (e :: es) X.env = (false, eval e X.env) :: starEach es X.env := by rfl) (hpl : (backTo pos (starEach es X.env)).any (·.1) = false := by rfl) :
    PE X (.Call (.Name x p) (e :: es) [] pos) (tCall sp dvs E t) := by
  intro pins s σ H Q I h
  refine wpAny_Call_Name_kw (ld_glob I hg hm ?_ hdb)
  refine PySem.W.callWith_K (h₀ := X.base) I.ok.mod.kin hk (thn (ha pos pins s σ H _ I h) fun us s1 ⟨vs, H1, I1, r, q⟩ => ⟨I1.kIn, ?_⟩) he hpl
  exact run_fn F hr hb hd hx I1 r q
end
section
variable {X : Cx} {CX : CXT} {k : Nat} {f C : Addr} {fd : FuncData} {ps ks : List Str} {sp : Sp} {E : XK} {x m : Str} {p pos apos kpos : Pos} {e o : Expr} {es : List Expr} {kws : List Keyword} {te ta : TE} {t tk : TA} {nm : Option Str}
variable {g : List Value → List Value → List Value} {gV : List V → List V → List V}
end
structure FnScope (N P : List Str) (sc : Scope) : Prop where
  kind : sc.kind = .function
  co : sc.isCoroutine = false
  gen : sc.isGenerator = false
  nd : N.Nodup
  pre : N.take P.length = P
  par : ∀ x ∈ P, sc.names.lookup x = some .local ∨ sc.names.lookup x = some .cell
  nofree : ∀ y ∈ sc.names, y.2 ≠ .free
theorem bindL_out {kindOf : Str → Option NameKind} {x : Str} : ∀ {binds : List (Str × Value)} {m : Str → Option Value}, (∀ v, (x, v) ∉ binds) → bindL kindOf binds m x = m x
  | [], _, _ => rfl
  | (n, v) :: r, m, h => by
    unfold bindL
    rw [bindL_out fun w hw => h w (List.mem_cons_of_mem _ hw)]
    split
    · have : x ≠ n := by rintro rfl; exact h v List.mem_cons_self
      simp [this]
    · rfl
theorem bindC_out {kindOf : Str → Option NameKind} {x : Str} : ∀ {binds : List (Str × Value)} {m : Str → Option Value}, (∀ v, (x, v) ∉ binds) → bindC kindOf binds m x = m x
  | [], _, _ => rfl
  | (n, v) :: r, m, h => by
    unfold bindC
    rw [bindC_out fun w hw => h w (List.mem_cons_of_mem _ hw)]
    split
    · rfl
    · have : x ≠ n := by rintro rfl; exact h v List.mem_cons_self
      simp [this]
theorem bindL_get {kindOf : Str → Option NameKind} {x : Str} {v : Value} : ∀ {P : List Str} {vs : List Value} {i : Nat} {m : Str → Option Value}, P.Nodup → P[i]? = some x → vs[i]? = some v → kindOf x = some .local →
    bindL kindOf (P.zip vs) m x = some v
  | [], _, _, _, _, h, _, _ => by simp at h
  | _ :: _, [], _, _, _, _, h, _ => by simp at h
  | p :: P, w :: vs, 0, m, nd, h1, h2, hk => by
    simp at h1 h2; subst h1; subst h2
    show bindL kindOf ((p, w) :: P.zip vs) m p = _
    unfold bindL
    rw [bindL_out fun v hv => (List.nodup_cons.mp nd).1 (List.of_mem_zip hv).1, if_pos hk]
    simp
  | p :: P, w :: vs, i + 1, m, nd, h1, h2, hk => by
    show bindL kindOf ((p, w) :: P.zip vs) m x = _
    unfold bindL
    exact bindL_get (i := i) (List.nodup_cons.mp nd).2 (by simpa using h1) (by simpa using h2) hk
theorem bindC_get {kindOf : Str → Option NameKind} {x : Str} {v : Value} : ∀ {P : List Str} {vs : List Value} {i : Nat} {m : Str → Option Value}, P.Nodup → P[i]? = some x → vs[i]? = some v → kindOf x ≠ some .local →
    bindC kindOf (P.zip vs) m x = some v
  | [], _, _, _, _, h, _, _ => by simp at h
  | _ :: _, [], _, _, _, _, h, _ => by simp at h
  | p :: P, w :: vs, 0, m, nd, h1, h2, hk => by
    simp at h1 h2; subst h1; subst h2
    show bindC kindOf ((p, w) :: P.zip vs) m p = _
    unfold bindC
    rw [bindC_out fun v hv => (List.nodup_cons.mp nd).1 (List.of_mem_zip hv).1, if_neg hk]
    simp
  | p :: P, w :: vs, i + 1, m, nd, h1, h2, hk => by
    show bindC kindOf ((p, w) :: P.zip vs) m x = _
    unfold bindC
    exact bindC_get (i := i) (List.nodup_cons.mp nd).2 (by simpa using h1) (by simpa using h2) hk
def start (N : List Str) (vs : List V) : St := vs.map some ++ List.replicate (N.length - vs.length) none
def cxOf (CX : CXT) (P : Program) (w : World) (K : PySem.W.Frag) (mg : Str → Option Value) (base : Heap) (N : List Str) (qual : Str) (scope : Scope) (f : Addr) (cd : Value) (A : Around) (outer : List Env) (s : Shared) (H : Hp) (E : XK) : Cx where
  prog := P
  w := w
  K := K
  mg := mg
  base := base
  A := A.deeper (envOfC qual scope s.heap.objs.size f cd)
  N := N
  s₀ := s
  H₀ := H
  env := envOfC qual scope s.heap.objs.size f cd
  outer := outer
  stack := envOfC qual scope s.heap.objs.size f cd :: outer
  ex := []
  calm := true
  fn := fun _ => true
  pn := []
  xe := fun e s' => wpAny (model P w) (A.deeper (envOfC qual scope s.heap.objs.size f cd)) (leaving (envOfC qual scope s.heap.objs.size f cd) e) (fun _ s'' => CX outer H s E e s'') (fun e' s'' => CX outer H s E e' s'') s'
theorem cell_has {sc : Scope} {n : Nat} {x : Str} (h : sc.names.lookup x = some .cell) : ∃ c, (cellsFrom n sc.names []).lookup x = some c := by
  have q := PySem.W.cellsFrom_some sc.names n [] (.inl h)
  exact Option.isSome_iff_exists.mp q
theorem inv_start {CX : CXT} {P : Program} {w : World} {K : PySem.W.Frag} {mg : Str → Option Value} {base : Heap} {N ps : List Str} {qual : Str} {scope : Scope} {f : Addr} {cd : Value} {A : Around} {outer : List Env} {s s1 : Shared} {H : Hp} {E : XK} {us : List Value} {vs : List V}
    (S : FnScope N ps scope) (hd : A.handled = none) (e0 : Env0 P w K mg base A outer s H) (hl : vs.length = ps.length) (r : Vals vs us)
    (x : InCallC s s.heap.objs.size (bindL (envOfC qual scope s.heap.objs.size f cd).kindOf (ps.zip us) fun _ => none) (cellsFrom (s.heap.objs.size + 1) scope.names []) (bindC (envOfC qual scope s.heap.objs.size f cd).kindOf (ps.zip us) fun _ => none) s1) :
    Inv (cxOf CX P w K mg base N qual scope f cd A outer s H E) [] (start N vs) H s1 := by
  have hpl : ps.length ≤ N.length := by have := congrArg List.length S.pre; rw [List.length_take] at this; omega
  obtain ⟨h1, tk, rfl, hk⟩ := x.done
  have noA : ∀ b : Addr, b ∉ (cxOf CX P w K mg base N qual scope f cd A outer s H E).ex := fun b z => absurd (show b ∈ ([] : List Addr) from z) (by simp)
  refine ⟨⟨e0.mod, S.kind, rfl, rfl, Nat.le_refl _, fun y z c h1 h2 => ?_, fun y hy => ?_, fun y c _ h => ?_, fun _ => hd, Around.frames_deeper e0.frames, .inr ⟨rfl, rfl⟩, fun b z => absurd z (noA b), e0.bs, e0.bsz, fun b _ _ => noA b, fun b z => absurd z (noA b), e0.funs, e0.frf⟩,
    rfl, e0.bare, Un.kept hk, ⟨_, x.toInCall.ns, fun i y v h1 h2 h3 => ?_⟩, fun y c h => ⟨_, x.cell y c h⟩, e0.hok.fresh (Nat.le_refl _), fun y c h => ?_, fun p hp => absurd (show p ∈ ([] : List (Addr × Obj)) from hp) (by simp), e0.hok.kept hk, ?_⟩
  · exact name_of_addr x.apart (PySem.mem_of_lookup h1) (PySem.mem_of_lookup h2)
  · have hy : scope.names.lookup y = some .cell ∨ scope.names.lookup y = some .free := hy
    rcases hy with hy | hy
    · exact cell_has hy
    · exact absurd rfl (S.nofree _ (PySem.mem_of_lookup hy))
  · exact Nat.le_of_lt (x.above y c (PySem.mem_of_lookup h))
  · have hi : i < vs.length := by
      unfold start at h2
      by_cases hi : i < vs.length
      · exact hi
      · rw [List.getElem?_append_right (by simpa using hi)] at h2
        rw [List.getElem?_replicate] at h2
        split at h2 <;> cases h2
    have ha : vs[i]? = some v := by
      unfold start at h2
      rw [List.getElem?_append_left (by simpa using hi), List.getElem?_map] at h2
      cases e : vs[i]? with
      | none => rw [e] at h2; cases h2
      | some a => rw [e] at h2; cases h2; rfl
    obtain ⟨u, hu, rv⟩ := r.get ha
    have hp : ps[i]? = some y := by
      rw [← S.pre, List.getElem?_take_of_lt (by omega)]; exact h1
    have ndP : ps.Nodup := by rw [← S.pre]; exact S.nd.sublist (List.take_sublist _ _)
    refine ⟨u, rv, ?_⟩
    rcases S.par y (List.mem_of_getElem? hp) with k | k
    · exact .inl ⟨k, bindL_get ndP hp hu k⟩
    · obtain ⟨c, e⟩ := cell_has (n := s.heap.objs.size + 1) k
      refine .inr ⟨.inl k, c, e, ?_⟩
      have q := x.cell y c e
      rw [bindC_get ndP hp hu (by show scope.names.lookup y ≠ _; rw [k]; decide)] at q
      exact q
  · exact e0.hok.fresh (Nat.le_of_lt (x.above y c (PySem.mem_of_lookup h)))
  · unfold start
    show _ = N.length
    rw [List.length_append, List.length_map, List.length_replicate]
    omega
theorem fn_of {CX : CXT} {P : Program} {w : World} {K : PySem.W.Frag} {mg : Str → Option Value} {base : Heap} {k : Nat} {f : Addr} {name qual : Str} {params : Arguments} {body : List Stmt} {scope : Scope} {dV kV doc pm cdv ct oc : Value} {an od : Option Addr}
    {osl : Array (Option Value)} {N ps : List Str} {sp : Sp} (lk : K.lookup f = some ⟨oc, od, .func (PySem.W.fnOf name qual params body scope dV kV doc pm an cdv ct), osl⟩) (hcd : PySem.W.codeIn K cdv qual = true) (S : FnScope N ps scope)
    (len : ∀ vs H Q E, sp vs H Q E → vs.length = ps.length)
    (hbody : ∀ (A : Around) (outer : List Env) (s : Shared) (H : Hp) (vs : List V) (Q : VK) (E : XK), Room k (A.deeper (envOfC qual scope s.heap.objs.size f cdv)) → sp vs H Q E →
      ∃ t, PSs (cxOf CX P w K mg base N qual scope f cdv A outer s H E) body t ∧ t { nx := fun _ H' => Q .non H', rt := Q } (start N vs) H) :
    FnOk P w K mg base CX (k + 1) f (PySem.W.fnOf name qual params body scope dV kV doc pm an cdv ct) ps sp := by
  refine ⟨len, fun A outer s H args us vs Q E hr e0 hb r hsp => ?_⟩
  have hl := len _ _ _ _ hsp
  have KX : K.In s.heap := e0.mod.kin.keeps fun b o e => (e0.bs b o e).1
  have lim : s.heap.NoLimit := e0.mod.nolimit.keeps fun b o e => (e0.bs b o e).1
  have hkind : ∀ y ∈ ps.zip us, scope.names.lookup y.1 = some .local ∨ (scope.names.lookup y.1 = some .cell ∧ ((cellsFrom (s.heap.objs.size + 1) scope.names []).lookup y.1).isSome = true) := fun ⟨n, v⟩ hy => by
    rcases S.par n (List.of_mem_zip hy).1 with q | q
    · exact .inl q
    · exact .inr ⟨q, PySem.W.cellsFrom_some _ _ _ (.inl q)⟩
  refine codeAny_call_function hr.depth (KX _ _ lk) rfl S.co S.gen rfl (PySem.W.codeRec_of KX hcd) (hb _ _ _ _ ?_)
  refine wpAny_newFunctionEnv_cells S.kind hkind fun env he s1 x => ?_
  subst he
  refine ⟨lim.keeps x.toInCall.keep, codeAny_func ?_⟩
  obtain ⟨t, ht, hq⟩ := hbody A outer s H vs Q E (hr.deeper _) hsp
  have I : Inv (cxOf CX P w K mg base N qual scope f cdv A outer s H E) [] (start N vs) H s1 := inv_start S hr.hd e0 hl r x
  refine wpAny_mono (ht [] s1 (start N vs) H _ I hq) (fun fl s' hs => ?_) fun e s' hs => hs
  have fin : ∀ {σ' : St} {H' : Hp} {v : V} {u : Value}, Inv (cxOf CX P w K mg base N qual scope f cdv A outer s H E) [] σ' H' s' → RelV v u → Q v H' → CE outer P w H s Q u s' :=
    fun {σ' H' v u} J rv q => ⟨v, H', J.os, J.bare, J.base, J.hok, rv, q⟩
  cases fl with
  | ret u =>
    obtain ⟨v, σ', H', J, rv, q⟩ := hs
    exact fin J rv q
  | next =>
    obtain ⟨σ', H', J, q⟩ := hs
    exact fin (v := V.non) (u := Value.none) J rfl q
  | brk =>
    obtain ⟨_, _, _, q⟩ := hs
    exact False.elim q
  | cont =>
    obtain ⟨_, _, _, q⟩ := hs
    exact False.elim q
end L2
namespace L2
open PySem PySem.Spec PyProof.Rows
section
variable {X : Cx} {x : Str} {p pos : Pos} {e : Expr} {es : List Expr} {t : TA} {id T : String} {r : List V → Hp → VK → Prop}
def tCB (r : List V → Hp → VK → Prop) (t : TA) : TE := fun σ H Q => t σ H fun vs H1 => r vs H1 Q
theorem pe_callB (hc : CallR X (.builtin id) r) (hg : Gl X x) (hm : X.mg x = none) (hv : bootBuiltins x = some (.builtin id)) (ha : PA X (e :: es) t) (hn : x ≠ "__name__" := by decide) (hdb : (x == ("__debug__" : Str)) = false := by decide)
    (he : starEach (e :: es) X.env = (false, eval e X.env) :: starEach es X.env := by rfl) (hpl : (backTo pos (starEach es X.env)).any (·.1) = false := by rfl) : PE X (.Call (.Name x p) (e :: es) [] pos) (tCB r t) := by
  intro pins s σ H Q I h
  refine wpAny_Call_Name_kw (ld_blt I hg hm hv ?_ hn hdb)
  exact PyProof.Rows.callWith_builtin1 (thn (ha pos pins s σ H _ I h) fun us s1 ⟨vs, H1, I1, r1, q1⟩ => hc pins s1 σ H1 vs us Q I1 r1 q1) he hpl
theorem pe_callTy (hc : CallR X (.type T) r) (hg : Gl X x) (hm : X.mg x = none) (hv : bootBuiltins x = some (.type T)) (ha : PA X (e :: es) t) (hn : x ≠ "__name__" := by decide) (hdb : (x == ("__debug__" : Str)) = false := by decide)
    (he : starEach (e :: es) X.env = (false, eval e X.env) :: starEach es X.env := by rfl) (hpl : (backTo pos (starEach es X.env)).any (·.1) = false := by rfl) : PE X (.Call (.Name x p) (e :: es) [] pos) (tCB r t) := by
  intro pins s σ H Q I h
  refine wpAny_Call_Name_kw (ld_blt I hg hm hv ?_ hn hdb)
  exact PyProof.Rows.callWith_type1 (thn (ha pos pins s σ H _ I h) fun us s1 ⟨vs, H1, I1, r1, q1⟩ => hc pins s1 σ H1 vs us Q I1 r1 q1) he hpl
end
end L2
namespace HT
open PySem PyProof.Rows
section
open PySem.SeqAt
open PySem.AutoSeq1 (wpAny_loadPart')
open PySem.MeetsSeq PySem.MeetsSeq2 PySem.MeetsSeq3
end
section
variable {prog : Program} {w : World} {A : Around} {E : Value → Shared → Prop} {s : Shared}
theorem cat_tup {t b : Addr} {vs ws : List Value} {Q : Value → Shared → Prop} (ht : IsTup s.heap t vs.toArray) (hb : IsTup s.heap b ws.toArray) (hv : vs ≠ [])
    (h1 : ws = [] → Q (.ref t) s) (h2 : ws ≠ [] → Q (.ref s.heap.objs.size) { s with heap := s.heap.push { cls := .type "tuple", data := .seq (vs ++ ws).toArray } })
    (hsz : vs.length + ws.length ≤ sizeLine) : wpAny (model prog w) A (binaryOp .Add (.ref t) (.ref b)) Q E s := by
  obtain ⟨⟨cls, dd, data, sl⟩, ho, hc, n, hd⟩ := id ht
  obtain ⟨⟨cls2, dd2, data2, sl2⟩, ho2, hc2, n2, hd2⟩ := id hb
  simp only at hc hd hc2 hd2
  subst hc hd hc2 hd2
  have e : vs.toArray ++ ws.toArray = (vs ++ ws).toArray := by simp
  by_cases hw : ws = []
  · exact concat_meets ⟨_, ho, rfl⟩ ⟨_, ho2, rfl⟩ noFill_tuple_add seq_tuple_add PySem.F.slot_tuple_add PySem.F.entry_tuple_add (PySem.F.args_tuple_add_2 _ _)
      (tuple_addW1 t b vs.toArray ws.toArray n n2 dd dd2 sl sl2 (by simpa using hv) (by simp [hw])) ⟨ho, ho2, h1 hw⟩
  · refine concat_meets ⟨_, ho, rfl⟩ ⟨_, ho2, rfl⟩ noFill_tuple_add seq_tuple_add PySem.F.slot_tuple_add PySem.F.entry_tuple_add (PySem.F.args_tuple_add_2 _ _)
      (tuple_addW2 t b vs.toArray ws.toArray n n2 dd dd2 sl sl2 (by simpa using hv) (by simpa using hw) (by rw [List.size_toArray, List.size_toArray]; exact hsz)) ⟨ho, ho2, ?_⟩
    rw [e]
    exact h2 hw
def sIx (n d : Nat) : Option Int → Nat
  | none => d
  | some v => if v < 0 then (v + (n : Int)).toNat else min v.toNat n
theorem sIx_none (n d : Nat) : sIx n d none = d := rfl
theorem sIx_nat (n d k : Nat) : sIx n d (some (k : Int)) = min k n := by
  show (if (k : Int) < 0 then ((k : Int) + (n : Int)).toNat else min (k : Int).toNat n) = min k n
  rw [if_neg (by omega), Int.toNat_natCast]
end
end HT
namespace L2
open PySem PySem.Spec PyProof.Rows
abbrev TO := St → Hp → (Option Int → Hp → Prop) → Prop
def PO (X : Cx) (e : Option Expr) (t : TO) : Prop :=
  ∀ (pins : List (Addr × Obj)) (s : Shared) (σ : St) (H : Hp) (Q : Option Int → Hp → Prop), Inv X pins σ H s → t σ H Q →
    wpAny (model X.prog X.w) X.A (evalPart e X.env) (fun u s' => ∃ o H', Inv X pins σ H' s' ∧ IsPart u o ∧ Q o H') X.xe s
def tNoPart : TO := fun _ H Q => Q none H
def tPart (t : TE) : TO := fun σ H Q => t σ H fun x H1 => ∃ i, x = .int i ∧ Q (some i) H1
theorem intsAre_of {ns : List Int} : ∀ {us : List Value}, Vals (ns.map V.int) us → IntsAre us ns := by
  induction ns with
  | nil => intro us r; rw [List.map_nil] at r; cases r; exact .nil
  | cons n ns ih =>
    intro us r
    rw [List.map_cons] at r
    cases r with
    | cons r1 r2 =>
      obtain ⟨t, e⟩ := r1
      subst e
      exact .cons n t (ih r2)
section
variable {X : Cx} {e : Expr} {te : TE} {lo hi : Option Expr} {tl th : TO} {pos p2 : Pos}
theorem po_none : PO X none tNoPart := by
  intro pins s σ H Q I h
  rw [evalPart_none]
  exact wpAny_pure ⟨none, H, I, .none, h⟩
theorem po_some (h : PE X e te) : PO X (some e) (tPart te) := by
  intro pins s σ H Q I hw
  rw [evalPart_some]
  refine thn (h pins s σ H _ I hw) fun u s1 ⟨x, H1, I1, r1, q1⟩ => ?_
  obtain ⟨i, rfl, q⟩ := q1
  obtain ⟨t, rfl⟩ := r1
  exact ⟨some i, H1, I1, .int i t, q⟩
def SlR (X : Cx) (r : V → Option Int → Option Int → Hp → VK → Prop) : Prop :=
  ∀ (pins : List (Addr × Obj)) (s : Shared) (σ : St) (H : Hp) (x : V) (v vl vu : Value) (lo hi : Option Int) (sl : Addr) (Q : VK), Inv X pins σ H s → RelV x v → s.heap.IsSliceOf sl vl vu .none → IsPart vl lo → IsPart vu hi → r x lo hi H Q →
    ∃ T id, typeLookup (.type T) "__getitem__" = pure (some (.builtin id)) ∧ s.TypeIs v T ∧ wpAny (model X.prog X.w) X.A (getItem v (.ref sl)) (EP X pins σ Q) X.xe s
def tSl (r : V → Option Int → Option Int → Hp → VK → Prop) (te : TE) (tl th : TO) : TE := fun σ H Q => te σ H fun x H1 => tl σ H1 fun l H2 => th σ H2 fun u H3 => r x l u H3 Q
theorem pe_slice {r : V → Option Int → Option Int → Hp → VK → Prop} (hr : SlR X r) (he : PE X e te) (hl : PO X lo tl) (hu : PO X hi th) : PE X (.Subscript e (.Slice lo hi none p2) pos) (tSl r te tl th) := by
  intro pins s σ H Q I h
  refine Subscript_ (thn (he pins s σ H _ I h) fun v s1 ⟨x, H1, I1, r1, q1⟩ => ?_)
  refine wpAny_Slice (thn (hl pins s1 σ H1 _ I1 q1) fun vl s2 ⟨l, H2, I2, pl, q2⟩ => thn (hu pins s2 σ H2 _ I2 q2) fun vu s3 ⟨u, H3, I3, pu, q3⟩ => ?_)
  rw [evalPart_none]
  refine wpAny_pure ?_
  have I4 : Inv X pins σ H3 { s3 with heap := s3.heap.push { cls := .type "slice", data := .fields #[vl, vu, .none] } } := I3.kept (t' := s3.toks) fun b ob q => Heap.get?_push_of_some _ q
  obtain ⟨T, id, hT, ht, hg⟩ := hr pins { s3 with heap := s3.heap.push { cls := .type "slice", data := .fields #[vl, vu, .none] } } σ H3 x v vl vu l u s3.heap.objs.size Q I4 r1 (Heap.IsSliceOf.new ..) pl pu q3
  show wpAny (model X.prog X.w) X.A (subscriptTail e (.Slice lo hi none p2) v (.ref s3.heap.objs.size)) (EP X pins σ Q) X.xe { s3 with heap := s3.heap.push { cls := .type "slice", data := .fields #[vl, vu, .none] } }
  exact tail_any (ops := [.ref s3.heap.objs.size, v]) ht hT hg (by with_unfolding_all rfl)
def cutV (xs : List V) (lo hi : Option Int) : List V := (xs.drop (HT.sIx xs.length 0 lo)).take (HT.sIx xs.length xs.length hi - HT.sIx xs.length 0 lo)
theorem cutV_length (xs : List V) (lo hi : Option Int) : (cutV xs lo hi).length ≤ xs.length := by
  unfold cutV
  rw [List.length_take, List.length_drop]
  omega
theorem Vals.nil_iff {xs : List V} {us : List Value} (r : Vals xs us) : us = [] ↔ xs = [] := by
  cases r with
  | nil => simp
  | cons _ _ => simp
end
end L2
namespace L2
open PySem PySem.Spec PyProof.Rows
def ixN (n : Nat) (i : Int) : Option Nat := if 0 ≤ i then (if i < n then some i.toNat else none) else if -(n : Int) ≤ i then some (i + n).toNat else none
def atI {α : Type} (xs : List α) (i : Int) : Option α := (ixN xs.length i).bind fun j => xs[j]?
theorem ixN_seq {n : Nat} {i : Int} {j : Nat} (h : ixN n i = some j) : seqIndex? i n = some j ∧ j < n ∧ -(n : Int) ≤ i ∧ i < n := by
  unfold ixN at h
  by_cases h0 : 0 ≤ i
  · rw [if_pos h0] at h
    by_cases h1 : i < n
    · rw [if_pos h1] at h
      have e : i.toNat = j := Option.some.inj h
      exact ⟨by rw [seqIndex_of h0 h1, e], by omega, by omega, h1⟩
    · rw [if_neg h1] at h; cases h
  · rw [if_neg h0] at h
    by_cases h1 : -(n : Int) ≤ i
    · rw [if_pos h1] at h
      have e : (i + n).toNat = j := Option.some.inj h
      exact ⟨by rw [seqIndex_neg (by omega) h1, e], by omega, h1, by omega⟩
    · rw [if_neg h1] at h; cases h
theorem atI_get {α : Type} {xs : List α} {i : Int} {v : α} (h : atI xs i = some v) : ∃ j, seqIndex? i xs.length = some j ∧ xs[j]? = some v ∧ j < xs.length ∧ -(xs.length : Int) ≤ i ∧ i < xs.length := by
  unfold atI at h
  cases e : ixN xs.length i with
  | none => rw [e] at h; cases h
  | some j =>
    rw [e] at h
    obtain ⟨h1, h2, h3, h4⟩ := ixN_seq e
    exact ⟨j, h1, h, h2, h3, h4⟩
theorem atI_nat {α : Type} {xs : List α} {j : Nat} {v : α} (h : xs[j]? = some v) : atI xs (j : Int) = some v := by
  have hj : j < xs.length := (List.getElem?_eq_some_iff.mp h).1
  have e : ixN xs.length (j : Int) = some j := by
    unfold ixN
    rw [if_pos (by exact Int.natCast_nonneg _), if_pos (by omega)]; simp
  unfold atI; rw [e]; exact h
def PlainIx (b : Expr) : Prop := ∀ o i, subscripted b false o i = operate [o, i] (getItem o i)
def IxR (X : Cx) (r : R2) : Prop :=
  ∀ (value slice : Expr) (pins : List (Addr × Obj)) (s : Shared) (σ : St) (H : Hp) (x y : V) (v u : Value) (Q : VK), Inv X pins σ H s → RelV x v → RelV y u → r x y H Q →
    subscripted slice false v u = operate [v, u] (getItem v u) → wpAny (model X.prog X.w) X.A (subscriptTail value slice v u) (EP X pins σ Q) X.xe s
def MtR (X : Cx) (id : String) (r : V → List V → Hp → VK → Prop) : Prop :=
  ∀ (pins : List (Addr × Obj)) (s : Shared) (σ : St) (H : Hp) (x : V) (xs : List V) (v : Value) (us : List Value) (Q : VK), Inv X pins σ H s → RelV x v → Vals xs us → r x xs H Q →
    wpAny (model X.prog X.w) X.A (call (.builtin id) (v :: us)) (EP X pins σ Q) X.xe s
section
variable {X : Cx} {a b : Expr} {ta tb : TE} {pos : Pos}
theorem pe_ix {r : R2} (hr : IxR X r) (ha : PE X a ta) (hb : PE X b tb) (hs : PlainIx b) : PE X (.Subscript a b pos) (tOp r ta tb) := by
  intro pins s σ H Q I h
  exact Subscript_ (binT ha hb I h fun v u s2 x y H2 I2 rx ry q => hr a b pins s2 σ H2 x y v u Q I2 rx ry q (hs _ _))
inductive RIxLP (K : PySem.W.Frag) (x : V) (y : V) (H : Hp) (Q : VK) : Prop
  | mk (p xs i v : _) : (x = .ref p) → (y = .int i) → (SqL K H p xs) → (atI xs i = some v) → (Q v H) → RIxLP K x y H Q
def rIxL (K : PySem.W.Frag) : R2 := fun x y H Q => RIxLP K x y H Q
inductive RIxTP (K : PySem.W.Frag) (x : V) (y : V) (H : Hp) (Q : VK) : Prop
  | mk (p xs i v : _) : (x = .ref p) → (y = .int i) → (SqT K H p xs) → (atI xs i = some v) → (Q v H) → RIxTP K x y H Q
def rIxT (K : PySem.W.Frag) : R2 := fun x y H Q => RIxTP K x y H Q
inductive RIxSP (x : V) (y : V) (H : Hp) (Q : VK) : Prop
  | mk (z i c : _) : (x = .str z) → (y = .int i) → (z.length ≤ sizeLine) → (atI z.cps.toList i = some c) → (Q (.str ⟨#[c]⟩) H) → RIxSP x y H Q
def rIxS : R2 := fun x y H Q => RIxSP x y H Q
theorem ix_list : IxR X (rIxL X.K) := by
  intro value slice pins s σ H x y v u Q I rx ry h hs
  obtain ⟨p, xs, i, z, rfl, rfl, hq, he, q⟩ := h
  cases rx
  obtain ⟨t, rfl⟩ := ry
  obtain ⟨its, r, pl, hz⟩ := I.list hq
  obtain ⟨j, h1, h2, h3, h4, h5⟩ := atI_get he
  obtain ⟨w, ew, rw'⟩ := r.get h2
  have hl := r.length
  have hn := line63
  have fin : EP X pins σ Q w s := ⟨z, H, I, rw', q⟩
  by_cases h0 : 0 ≤ i
  · have hj : i.toNat = j := by
      rw [seqIndex_of h0 h5] at h1
      exact Option.some.inj h1
    exact item_listR pl.isList h0 (by omega) (by rw [hj]; simpa using ew) fin hs
  · have hj : (i + (its.toArray.size : Int)).toNat = j := by
      rw [seqIndex_neg (by omega) h4] at h1
      rw [List.size_toArray, ← hl]
      exact Option.some.inj h1
    exact subscriptTail_builtinR (x := w) pl.isList.typeIs slot_list_getitem.lookup
      (wpAny_getItem_list_neg (Q := fun r s' => r = w ∧ EP X pins σ Q r s') pl.isList (by omega) (by rw [List.size_toArray] <;> omega) (by omega) (by rw [hj]; simpa using ew) ⟨rfl, fin⟩) hs
theorem ix_tup : IxR X (rIxT X.K) := by
  intro value slice pins s σ H x y v u Q I rx ry h hs
  obtain ⟨p, xs, i, z, rfl, rfl, hq, he, q⟩ := h
  cases rx
  obtain ⟨t, rfl⟩ := ry
  obtain ⟨its, r, pl, hz⟩ := I.tuple hq
  obtain ⟨j, h1, h2, h3, h4, h5⟩ := atI_get he
  obtain ⟨w, ew, rw'⟩ := r.get h2
  have hl := r.length
  have hn := line63
  have fin : EP X pins σ Q w s := ⟨z, H, I, rw', q⟩
  exact subscriptTail_builtinR (x := w) pl.typeIs slot_tuple_getitem.lookup
    (getItem_tuple (j := j) (Q := fun r s' => r = w ∧ EP X pins σ Q r s') pl (by omega) (by omega) (by rw [List.size_toArray, ← hl]; exact h1) (by simpa using ew) ⟨rfl, fin⟩) hs
theorem ix_str : IxR X rIxS := by
  intro value slice pins s σ H x y v u Q I rx ry h hs
  obtain ⟨z, i, c, rfl, rfl, hz, he, q⟩ := h
  obtain ⟨t, rfl⟩ := rx
  obtain ⟨t', rfl⟩ := ry
  obtain ⟨j, h1, h2, h3, h4, h5⟩ := atI_get he
  have hl : z.cps.toList.length = z.length := by simp [Str.length]
  rw [hl] at h1 h4 h5
  have hn := line63
  exact tail_any (typeIs_str s z t) slot_str_getitem.lookup (getItem_str (c := c) (by
    have e1 : decide (i < -(2 ^ 63 : Int)) = false := decide_eq_false (by omega)
    have e2 : decide (i ≥ 2 ^ 63) = false := decide_eq_false (by omega)
    rw [e1, e2, Bool.or_false]) (by rw [h1]; simpa using h2) ⟨.str ⟨#[c]⟩, H, I.tok _, ⟨_, rfl⟩, q⟩) hs
theorem mapSeq_set (its : List Value) (n j : Nat) (u : Value) : Obj.mapSeq (·.setIfInBounds j u) { cls := .type "list", data := .seq its.toArray n } = { cls := .type "list", data := .seq (its.set j u).toArray n } := by
  simp [Obj.mapSeq]
theorem Inv.lst {pins : List (Addr × Obj)} {σ : St} {H : Hp} {s : Shared} {p : Addr} {xs : List V} (I : Inv X pins σ H s) (h : H p = some (.lst xs)) :
    ∃ (its : List Value) (n : Nat), Vals xs its ∧ s.heap.get? p = some { cls := .type "list", data := .seq its.toArray n } ∧ xs.length ≤ sizeLine := by
  obtain ⟨z, its, n, r, e⟩ := I.hok p _ h
  exact ⟨its, n, r, e, z⟩
theorem Inv.lstUpd {pins : List (Addr × Obj)} {σ : St} {H : Hp} {s : Shared} {p : Addr} {xs ys : List V} {its its' : List Value} {n n' : Nat} {f : Obj → Obj} (I : Inv X pins σ H s) (h : H p = some (.lst xs))
    (ho : s.heap.get? p = some { cls := .type "list", data := .seq its.toArray n }) (hf : f { cls := .type "list", data := .seq its.toArray n } = { cls := .type "list", data := .seq its'.toArray n' }) (r : Vals ys its') (hz : ys.length ≤ sizeLine) (t : Nat) :
    Inv X pins σ (upd H p (.lst ys)) { s with heap := s.heap.update p f, toks := t } := by
  have e : (s.heap.update p f).get? p = some { cls := .type "list", data := .seq its'.toArray n' } := by
    rw [Heap.get?_update_self f ho (by rw [hf] <;> rfl), hf]
  refine I.write (x := p) (e := p) (by rw [h]; trivial) (.inl rfl) (fun b u hb q => (Heap.get?_update_other _ _ (Ne.symm hb)).trans q) ⟨_, e⟩ ?_
  exact ⟨hz, its', n', r, e⟩
inductive RSetLP (o : V) (i : V) (v : V) (H : Hp) (Q : (Hp → Prop)) : Prop
  | mk (p xs k j : _) : (o = .ref p) → (i = .int k) → (H p = some (.lst xs)) → (ixN xs.length k = some j) → (Q (upd H p (.lst (xs.set j v)))) → RSetLP o i v H Q
def rSetL : V → V → V → Hp → (Hp → Prop) → Prop := fun o i v H Q => RSetLP o i v H Q
theorem set_list : PSet X rSetL := by
  intro pins s σ H o i v ov iv u Q I ro ri rv h
  obtain ⟨p, xs, k, j, rfl, rfl, hp, hj, q⟩ := h
  cases ro
  obtain ⟨t, rfl⟩ := ri
  obtain ⟨its, n, r, ho, hz⟩ := I.lst hp
  obtain ⟨h1, h2, h3, h4⟩ := ixN_seq hj
  have hl := r.length
  have hn := line63
  have I' : Inv X pins σ (upd H p (.lst (xs.set j v))) { s with heap := s.heap.update p (Obj.mapSeq (·.setIfInBounds j u)) } :=
    I.lstUpd hp ho (mapSeq_set its n j u) (r.set rv j) (by rw [List.length_set]; exact hz) s.toks
  by_cases h0 : 0 ≤ k
  · have hk : k.toNat = j := by
      rw [seqIndex_of h0 h4] at h1
      exact Option.some.inj h1
    exact PySem.W.ki_setAt ho h0 (by omega) (by rw [List.size_toArray, ← hl]; exact h4) (by rw [hk]; exact ⟨_, I', q⟩)
  · have hk : (k + (its.toArray.size : Int)).toNat = j := by
      rw [seqIndex_neg (by omega) h3] at h1
      rw [List.size_toArray, ← hl]
      exact Option.some.inj h1
    exact PySem.W.ki_setBack ho (by omega) (by rw [List.size_toArray, ← hl]; exact h3) (by omega) (by rw [hk]; exact ⟨_, I', q⟩)
theorem slice_bounds (lo hi : Option Int) (n : Nat) : (sliceBounds lo hi none n).1 = ((HT.sIx n 0 lo : Nat) : Int) ∧ (sliceBounds lo hi none n).2.1 = ((HT.sIx n n hi : Nat) : Int) ∧ (sliceBounds lo hi none n).2.2 = 1 := by
  refine ⟨?_, ?_, rfl⟩
  · cases lo with
    | none => simp [sliceBounds, HT.sIx]
    | some i =>
      simp only [sliceBounds, HT.sIx, Option.getD_none, show (1 : Int) > 0 by decide, if_true]
      by_cases h : i < 0
      · simp only [h, if_true] <;> omega
      · simp only [h, if_false] <;> omega
  · cases hi with
    | none => simp [sliceBounds, HT.sIx]
    | some i =>
      simp only [sliceBounds, HT.sIx, Option.getD_none, show (1 : Int) > 0 by decide, if_true]
      by_cases h : i < 0
      · simp only [h, if_true] <;> omega
      · simp only [h, if_false] <;> omega
theorem slicePick_cut (its : List Value) (lo hi : Option Int) : slicePick its.toArray lo hi none = ((its.drop (HT.sIx its.length 0 lo)).take (HT.sIx its.length its.length hi - HT.sIx its.length 0 lo)).toArray := by
  obtain ⟨h1, h2, h3⟩ := slice_bounds lo hi its.toArray.size
  unfold slicePick
  rw [h1, h2, h3]
  simp only [sliceRange_one, pick_run, List.size_toArray] <;> rfl
inductive RSlLP (K : PySem.W.Frag) (x : V) (lo : Option Int) (hi : Option Int) (H : Hp) (Q : VK) : Prop
  | mk (a xs : _) : (x = .ref a) → (SqL K H a xs) → (∀ p, H p = none → Q (.ref p) (upd H p (.lst (cutV xs lo hi)))) → RSlLP K x lo hi H Q
def rSlL (K : PySem.W.Frag) : V → Option Int → Option Int → Hp → VK → Prop := fun x lo hi H Q => RSlLP K x lo hi H Q
theorem sl_list : SlR X (rSlL X.K) := by
  intro pins s σ H x v vl vu lo hi sl Q I rx hs pl pu h
  obtain ⟨a, xs, rfl, hx, q⟩ := h
  cases rx
  obtain ⟨its, r, ht, hz⟩ := I.list hx
  have hlen := r.length
  refine ⟨"list", _, slot_list_getitem.lookup, ht.isList.typeIs, ?_⟩
  refine wpAny_getItem_list_slice ht.isList hs pl pu .none (by simp) ?_ (by rw [List.size_toArray] <;> omega)
  rw [slicePick_cut, ← hlen]
  refine ⟨.ref s.heap.objs.size, _, I.laid (t' := s.toks) (o := .lst (cutV xs lo hi)) (fun b ob q => Heap.get?_push_of_some _ q) (Nat.le_refl _) ?_, rfl, q _ (I.hok.fresh (Nat.le_refl _))⟩
  exact ⟨Nat.le_trans (cutV_length xs lo hi) hz, _, 0, (r.drop (HT.sIx xs.length 0 lo)).take (HT.sIx xs.length xs.length hi - HT.sIx xs.length 0 lo), Heap.get?_push_size _ rfl⟩
def flatV : V → Bool
  | .non => true
  | .bl _ => true
  | .int _ => true
  | .str _ => true
  | _ => false
def eqV : V → V → Bool
  | .non, .non => true
  | .bl a, .bl b => a == b
  | .bl a, .int b => (if a then 1 else 0) == b
  | .int a, .bl b => a == (if b then 1 else 0)
  | .int a, .int b => a == b
  | .str a, .str b => a == b
  | _, _ => false
theorem eqAt_V {A : Around} {s : Shared} {y x : V} {u v : Value} (ry : RelV y u) (rx : RelV x v) (fy : flatV y = true) (fx : flatV x = true) : SeqAt.EqAt A s u v (eqV y x) := by
  cases y with
  | non =>
    cases ry
    cases x with
    | non => cases rx; exact SeqAt.EqAt.same _
    | bl b => cases rx; exact SeqAt.EqAt.none_bool b
    | int b => obtain ⟨t, rfl⟩ := rx; exact SeqAt.EqAt.none_int b t
    | str b => obtain ⟨t, rfl⟩ := rx; exact SeqAt.EqAt.none_str b t
    | _ => exact absurd (show false = true from fx) Bool.false_ne_true
  | bl a =>
    cases ry
    cases x with
    | non => cases rx; exact SeqAt.EqAt.bool_none a
    | bl b => cases rx; exact SeqAt.EqAt.bool_bool a b
    | int b => obtain ⟨t, rfl⟩ := rx; exact SeqAt.EqAt.bool_int a b t
    | str b => obtain ⟨t, rfl⟩ := rx; exact SeqAt.EqAt.bool_str a b t
    | _ => exact absurd (show false = true from fx) Bool.false_ne_true
  | int a =>
    obtain ⟨t', rfl⟩ := ry
    cases x with
    | non => cases rx; exact SeqAt.EqAt.int_none a t'
    | bl b => cases rx; exact SeqAt.EqAt.int_bool a t' b
    | int b => obtain ⟨t, rfl⟩ := rx; exact SeqAt.EqAt.int_int a t' b t
    | str b => obtain ⟨t, rfl⟩ := rx; exact SeqAt.EqAt.int_str a t' b t
    | _ => exact absurd (show false = true from fx) Bool.false_ne_true
  | str a =>
    obtain ⟨t', rfl⟩ := ry
    cases x with
    | non => cases rx; exact SeqAt.EqAt.str_none a t'
    | bl b => cases rx; exact SeqAt.EqAt.str_bool a t' b
    | int b => obtain ⟨t, rfl⟩ := rx; exact SeqAt.EqAt.str_int a t' b t
    | str b => obtain ⟨t, rfl⟩ := rx; exact SeqAt.EqAt.str_str a t' b t
    | _ => exact absurd (show false = true from fx) Bool.false_ne_true
  | _ => exact absurd (show false = true from fy) Bool.false_ne_true
def eqU (x : V) (u : Value) : Bool := match u with
  | .none => eqV .non x
  | .bool b => eqV (.bl b) x
  | .int i _ => eqV (.int i) x
  | .str z _ => eqV (.str z) x
  | _ => false
theorem eqU_of {x y : V} {u : Value} (r : RelV y u) (f : flatV y = true) : eqU x u = eqV y x := by
  cases y with
  | non => cases r; rfl
  | bl b => cases r; rfl
  | int i => obtain ⟨t, rfl⟩ := r; rfl
  | str z => obtain ⟨t, rfl⟩ := r; rfl
  | _ => exact absurd (show false = true from f) Bool.false_ne_true
theorem any_eqU {x : V} : ∀ {xs : List V} {us : List Value}, Vals xs us → xs.all flatV = true → us.any (eqU x) = xs.any fun y => eqV y x
  | _, _, .nil, _ => rfl
  | y :: xs, u :: us, .cons r t, f => by
    rw [List.all_cons, Bool.and_eq_true] at f
    rw [List.any_cons, List.any_cons, eqU_of r f.1, any_eqU t f.2]
theorem mem_eqAt {A : Around} {s : Shared} {x : V} {v : Value} (rx : RelV x v) (fx : flatV x = true) : ∀ {xs : List V} {us : List Value}, Vals xs us → xs.all flatV = true → ∀ u ∈ us, SeqAt.EqAt A s u v (eqU x u)
  | _, _, .nil, _ => fun u hu => by cases hu
  | y :: xs, u :: us, .cons r t, f => fun u' hu => by
    rw [List.all_cons, Bool.and_eq_true] at f
    rcases List.mem_cons.mp hu with rfl | hu
    · rw [eqU_of r f.1]; exact eqAt_V r rx f.1 fx
    · exact mem_eqAt rx fx t f.2 u' hu
def inV (x : V) (xs : List V) : Bool := xs.any fun y => eqV y x
inductive RInP (K : PySem.W.Frag) (neg : Bool) (x : V) (y : V) (H : Hp) (Q : VK) : Prop
  | mk (p xs : _) : (y = .ref p) → ((SqL K H p xs ∨ SqT K H p xs)) → (flatV x = true) → (xs.all flatV = true) → (Q (.bl (if neg then !inV x xs else inV x xs)) H) → RInP K neg x y H Q
def rIn (K : PySem.W.Frag) (neg : Bool) : R2 := fun x y H Q => RInP K neg x y H Q
theorem op_in_seq : OpR X (compareOp .In) (rIn X.K false) := by
  intro pins s σ H x y v u Q I rx ry h
  obtain ⟨p, xs, rfl, hq, fx, fs, q⟩ := h
  cases ry
  rcases hq with hq | hq
  · obtain ⟨its, r, pl, hz⟩ := I.list hq
    refine SeqAt.in_listAt (eqU x) pl.isList (fun w hw => mem_eqAt rx fx r fs w (by simpa using hw)) ⟨.bl _, H, I, rfl, ?_⟩
    rw [show its.toArray.any (eqU x) = its.any (eqU x) by simp, any_eqU r fs]
    exact q
  · obtain ⟨its, r, pl, hz⟩ := I.tuple hq
    refine SeqAt.in_tupleAt (eqU x) pl (fun w hw => mem_eqAt rx fx r fs w (by simpa using hw)) ⟨.bl _, H, I, rfl, ?_⟩
    rw [show its.toArray.any (eqU x) = its.any (eqU x) by simp, any_eqU r fs]
    exact q
theorem call_len_seq : CallR X (.builtin "len") (fun xs H Q => ∃ p ys, xs = [.ref p] ∧ (SqL X.K H p ys ∨ SqT X.K H p ys) ∧ Q (.int ys.length) H) := by
  intro pins s σ H xs us Q I r h
  obtain ⟨p, ys, rfl, hq, q⟩ := h
  obtain ⟨u, rfl, rx⟩ := vals1 r
  cases rx
  have hn := line63
  rcases hq with hq | hq
  · obtain ⟨its, r', pl, hz⟩ := I.list hq
    have hlen := r'.length
    exact Calls.call_len_list pl.isList (by simp only [List.size_toArray] <;> omega) ⟨.int ys.length, H, I.tok _, ⟨s.toks + 1, by rw [List.size_toArray, hlen]⟩, q⟩
  · obtain ⟨its, r', pl, hz⟩ := I.tuple hq
    have hlen := r'.length
    exact len_tuple pl (by simp only [List.size_toArray] <;> omega) ⟨.int ys.length, H, I.tok _, ⟨s.toks + 1, by rw [List.size_toArray, hlen]⟩, q⟩
theorem call_list_of : CallR X (.type "list") (fun xs H Q => ∃ p ys, xs = [.ref p] ∧ (SqL X.K H p ys ∨ SqT X.K H p ys) ∧ ∀ l, H l = none → Q (.ref l) (upd H l (.lst ys))) := by
  intro pins s σ H xs us Q I r h
  obtain ⟨p, ys, rfl, hq, q⟩ := h
  obtain ⟨u, rfl, rx⟩ := vals1 r
  cases rx
  have fin : ∀ (its : List Value), Vals ys its → ys.length ≤ sizeLine → ∀ (h' : Heap) (c' : Nat), (∀ b o', s.heap.get? b = some o' → h'.get? b = some o') →
      h'.get? s.heap.objs.size = some { cls := .type "list", dict := none, data := .seq its.toArray c', slots := #[] } → EP X pins σ Q (.ref s.heap.objs.size) { s with heap := h' } := fun its r' hz h' c' kp e =>
    ⟨.ref s.heap.objs.size, _, I.laid (t' := s.toks) kp (Nat.le_refl _) (show ObjOk X.prog X.w _ h' _ (.lst ys) from ⟨hz, its, c', r', e⟩), rfl, q _ (I.hok.fresh (Nat.le_refl _))⟩
  rcases hq with hq | hq
  · obtain ⟨its, r', pl, hz⟩ := I.list hq
    have hlen := r'.length
    obtain ⟨o, ho, hc, n, hd⟩ := pl.isList
    exact call_list_seq p (.inl rfl) ho hc hd (fun h' c' kp e => fin its r' hz h' c' kp e) (by simp only [List.size_toArray] <;> omega)
  · obtain ⟨its, r', pl, hz⟩ := I.tuple hq
    have hlen := r'.length
    obtain ⟨o, ho, hc, n, hd⟩ := pl
    exact call_list_seq p (.inr rfl) ho hc hd (fun h' c' kp e => fin its r' hz h' c' kp e) (by simp only [List.size_toArray] <;> omega)
theorem call_tuple_of : CallR X (.type "tuple") (fun xs H Q => ∃ p ys, xs = [.ref p] ∧ ((SqL X.K H p ys ∧ ∀ l, H l = none → Q (.ref l) (upd H l (.tup ys))) ∨ (SqT X.K H p ys ∧ Q (.ref p) H))) := by
  intro pins s σ H xs us Q I r h
  obtain ⟨p, ys, rfl, h⟩ := h
  obtain ⟨u, rfl, rx⟩ := vals1 r
  cases rx
  rcases h with ⟨hq, q⟩ | ⟨hq, q⟩
  · obtain ⟨its, r', pl, hz⟩ := I.list hq
    have hlen := r'.length
    refine call_tuple_list pl.isList (fun h' kp => ?_) (by simp only [List.size_toArray] <;> omega)
    have I1 : Inv X pins σ H { s with heap := h' } := I.kept (t' := s.toks) kp
    have I2 : Inv X pins σ (upd H h'.objs.size (.tup ys)) { s with heap := h'.push { cls := .type "tuple", data := .seq its.toArray } } :=
      I1.laid (t' := s.toks) (fun b o e => Heap.get?_push_of_some _ e) (Nat.le_refl _) (show ObjOk X.prog X.w _ _ _ (.tup ys) from ⟨hz, its, r', IsTupN.new _ _⟩)
    exact ⟨.ref h'.objs.size, _, I2, rfl, q _ (I1.hok.fresh (Nat.le_refl _))⟩
  · obtain ⟨its, r', pl, hz⟩ := I.tuple hq
    exact call_tuple_same pl ⟨.ref p, H, I, rfl, q⟩
def tyV (K : PySem.W.Frag) (T : String) (x : V) (H : Hp) : Prop := match x with
  | .str _ => T = "str"
  | .int _ => T = "int"
  | .ref p => (T = "list" ∧ ∃ xs, SqL K H p xs) ∨ (T = "tuple" ∧ ((∃ o, K.lookup p = some o ∧ o.cls = .type "tuple" ∧ o.dict = none) ∨ ∃ xs, H p = some (.tup xs))) ∨
      (T = "dict" ∧ ((∃ kvs, H p = some (.dK kvs)) ∨ ∃ kvs, H p = some (.dT kvs))) ∨ (T = "set" ∧ ∃ S n, H p = some (.set S n))
  | _ => False
theorem tyV_is {pins : List (Addr × Obj)} {σ : St} {H : Hp} {s : Shared} {T : String} {x : V} {v : Value} (I : Inv X pins σ H s) (r : RelV x v) (ty : tyV X.K T x H) :
    s.TypeIs v T ∧ ∀ a, v = .ref a → ∃ ob, s.heap.get? a = some ob ∧ ob.dict = none := by
  cases x with
  | str z =>
    obtain ⟨t, rfl⟩ := r
    cases (show T = "str" from ty)
    exact ⟨typeIs_str s z t, fun _ e => nomatch e⟩
  | int i =>
    obtain ⟨t, rfl⟩ := r
    cases (show T = "int" from ty)
    exact ⟨typeIs_int s i t, fun _ e => nomatch e⟩
  | ref p =>
    cases r
    rcases ty with ⟨rfl, xs, hq⟩ | ⟨rfl, ⟨o, hk, hc, hd⟩ | ⟨xs, hx⟩⟩ | ⟨rfl, hk⟩ | ⟨rfl, S, n, hk⟩
    · obtain ⟨its, _, pl, _⟩ := I.list hq
      refine ⟨pl.isList.typeIs, fun a e => ?_⟩
      cases e
      obtain ⟨o, n, e, c, hd, _⟩ := pl
      exact ⟨o, e, hd⟩
    · refine ⟨⟨o, I.kIn p o hk, hc⟩, fun a e => ?_⟩
      cases e
      exact ⟨o, I.kIn _ o hk, hd⟩
    · obtain ⟨_, _, _, o, e, c, d, _⟩ := (show ObjOk X.prog X.w H s.heap p (.tup xs) from I.hok p _ hx)
      refine ⟨⟨o, e, c⟩, fun a e2 => ?_⟩
      cases e2
      exact ⟨o, e, d⟩
    · have z : ∃ o, s.heap.get? p = some o ∧ o.ExactDict := by
        rcases hk with ⟨kvs, hk⟩ | ⟨kvs, hk⟩
        · obtain ⟨_, _, _, _, o, _, _, e, ex, _⟩ := I.hok p _ hk
          exact ⟨o, e, ex⟩
        · obtain ⟨_, _, _, _, o, _, _, e, ex, _⟩ := I.hok p _ hk
          exact ⟨o, e, ex⟩
      obtain ⟨o, e, ex⟩ := z
      refine ⟨⟨o, e, ex.1⟩, fun a e2 => ?_⟩
      cases e2
      exact ⟨o, e, ex.2.1⟩
    · obtain ⟨o, _, _, _, e, ex, _⟩ := I.hok p _ hk
      refine ⟨⟨o, e, ex.1⟩, fun a e2 => ?_⟩
      cases e2
      exact ⟨o, e, ex.2.1⟩
  | _ => exact False.elim ty
def tBM (K : PySem.W.Frag) (T : String) (r : V → List V → Hp → VK → Prop) (to : TE) (t : TA) : TE := fun σ H Q => to σ H fun x H1 => tyV K T x H1 ∧ t σ H1 fun xs H2 => r x xs H2 Q
variable {o e : Expr} {es : List Expr} {to : TE} {t : TA} {name : Str} {apos cpos : Pos} {T id : String} {r : V → List V → Hp → VK → Prop}
theorem pe_bm (pa : PlainAttrs T) (slot : Slot T name id) (hty : typeOf (.builtin id) = pure (.type "method_descriptor")) (hm : MtR X id r) (ho : PE X o to) (ha : PA X (e :: es) t)
    (hbase : attributeBase o name X.env (eval o X.env) = eval o X.env := by rfl)
    (hfew : ((backTo cpos (starEach (e :: es) X.env)).all (fun x => !x.1) && (backToKw cpos (keywordEach [] X.env)).all (fun x => x.1.isSome)
      && decide ((e :: es).length + ([] : List Keyword).length + (if ([] : List Keyword).isEmpty then 0 else 1) < 30)) = true := by rfl)
    (hline : (apos.endLine == cpos.line) = true := by rfl) (hs : starEach (e :: es) X.env = (false, eval e X.env) :: starEach es X.env := by rfl) (hplain : (backTo cpos (starEach es X.env)).any (·.1) = false := by rfl) :
    PE X (.Call (.Attribute o name apos) (e :: es) [] cpos) (tBM X.K T r to t) := by
  intro pins s σ H Q I h
  refine wpAny_Call_method_late hbase hfew hline rfl (thn (ho pins s σ H _ I h) fun v s1 ⟨x, H1, I1, r1, ty, q1⟩ => ?_)
  obtain ⟨h1, h2⟩ := tyV_is I1 r1 ty
  refine ⟨T, id, pa, slot, hty, h1, h2, ?_⟩
  have hA := ha cpos pins s1 σ H1 _ I1 q1
  rw [hs] at hA ⊢
  refine Calls.callWith_builtin (by show (false || (backTo cpos (starEach es X.env)).any (·.1)) = false; rw [hplain] <;> rfl) (Calls.evalArgs_plain ?_)
  exact thn hA fun us s2 ⟨vs, H2, I2, r2, q2⟩ => hm pins s2 σ H2 x vs v us Q I2 r1 r2 q2
end
end L2
namespace L2
open PySem PySem.Spec PyProof.Rows
def MtM (X : Cx) (id : String) (r : V → List V → Hp → VK → Prop) : Prop :=
  ∀ (pins : List (Addr × Obj)) (s : Shared) (σ : St) (H : Hp) (x : V) (xs : List V) (v : Value) (us : List Value) (Q : VK), Inv X pins σ H s → RelV x v → Vals xs us → r x xs H Q →
    wpAny (model X.prog X.w) X.A (call (.builtin id) (v :: us)) (EP X pins σ Q) X.xe s
theorem Vals.one : ∀ {x : V} {us : List Value}, Vals [x] us → ∃ u, us = [u] ∧ RelV x u
  | _, _, .cons r .nil => ⟨_, rfl, r⟩
theorem Vals.eraseIdx : ∀ {xs : List V} {us : List Value} (i : Nat), Vals xs us → Vals (xs.eraseIdx i) (us.eraseIdx i)
  | _, _, _, .nil => .nil
  | _, _, 0, .cons _ t => t
  | _, _, i + 1, .cons r t => .cons r (Vals.eraseIdx i t)
theorem Vals.rep {xs : List V} {us : List Value} (h : Vals xs us) : ∀ k : Nat, Vals (List.replicate k xs).flatten (List.replicate k us).flatten
  | 0 => .nil
  | k + 1 => by
    rw [List.replicate_succ, List.replicate_succ, List.flatten_cons, List.flatten_cons]
    exact Vals.append h (Vals.rep h k)
theorem len_erase {α : Type} : ∀ (l : List α) (i : Nat), (l.eraseIdx i).length ≤ l.length
  | [], _ => Nat.le_refl _
  | _ :: _, 0 => Nat.le_succ _
  | _ :: r, i + 1 => Nat.succ_le_succ (len_erase r i)
theorem foldl_rep (its : List Value) : ∀ (k : Nat) (acc : List Value),
    List.foldl (fun x1 x2 => x1 ++ x2) acc.toArray (List.replicate k its.toArray) = (acc ++ (List.replicate k its).flatten).toArray
  | 0, acc => by simp
  | k + 1, acc => by
    have e : acc.toArray ++ its.toArray = (acc ++ its).toArray := by simp
    have e2 : (acc ++ its) ++ (List.replicate k its).flatten = acc ++ (List.replicate (k + 1) its).flatten := by
      rw [List.replicate_succ, List.flatten_cons, List.append_assoc]
    rw [← e2, ← foldl_rep its k (acc ++ its), ← e, List.replicate_succ, List.foldl_cons]
section
variable {X : Cx} {pins : List (Addr × Obj)} {σ : St} {H : Hp} {s : Shared} {l b : Addr} {xs ys zs : List V}
theorem Inv.lset {its its' : List Value} {n : Nat} {f : Array Value → Array Value} {t' : Nat} (I : Inv X pins σ H s) (hH : H l = some (.lst xs))
    (e : s.heap.get? l = some { cls := .type "list", data := .seq its.toArray n }) (hf : f its.toArray = its'.toArray) (hv : Vals ys its') (hz : ys.length ≤ sizeLine) :
    Inv X pins σ (upd H l (.lst ys)) { s with heap := s.heap.update l (Obj.mapSeq f), toks := t' } := by
  have q := PySem.IsL.update e f
  rw [hf] at q
  refine I.write (x := l) (e := l) (by rw [hH]; exact trivial) (.inl rfl) (fun b' u hb hu => (Heap.get?_update_other s.heap (Obj.mapSeq f) (Ne.symm hb)).trans hu) ⟨_, q⟩ ?_
  exact ⟨hz, its', _, hv, q⟩
theorem Inv.lnew {its : List Value} {t' : Nat} (I : Inv X pins σ H s) (hv : Vals ys its) (hz : ys.length ≤ sizeLine) :
    Inv X pins σ (upd H s.heap.objs.size (.lst ys)) { s with heap := s.heap.push { cls := .type "list", data := .seq its.toArray }, toks := t' } :=
  I.laid (fun _ _ q => Heap.get?_push_of_some _ q) (Nat.le_refl _) ⟨hz, its, 0, hv, Heap.get?_push_size _ rfl⟩
theorem Inv.fresh (I : Inv X pins σ H s) : H s.heap.objs.size = none := I.hok.fresh (Nat.le_refl _)
theorem Inv.lstM (I : Inv X pins σ H s) (hH : H l = some (.lst xs)) : xs.length ≤ sizeLine ∧ ∃ (its : List Value) (n : Nat), Vals xs its ∧ xs.length = its.length ∧ s.heap.get? l = some { cls := .type "list", data := .seq its.toArray n } := by
  obtain ⟨z, its, n, r, e⟩ := I.hok l _ hH
  exact ⟨z, its, n, r, r.length, e⟩
theorem notLongL {n : Nat} (h : n ≤ sizeLine) : Builtin.List.listTooLong n = false := by
  unfold Builtin.List.listTooLong
  exact decide_eq_false (by omega)
end
section
variable {X : Cx}
inductive RAppendP (x : V) (vs : List V) (H : Hp) (Q : VK) : Prop
  | mk (l xs y : _) : (x = .ref l) → (vs = [y]) → (H l = some (.lst xs)) → (xs.length < sizeLine) → (Q .non (upd H l (.lst (xs ++ [y])))) → RAppendP x vs H Q
def rAppend : V → List V → Hp → VK → Prop := fun x vs H Q => RAppendP x vs H Q
theorem mt_append : MtM X "list.append" rAppend := by
  intro pins s σ H x vs v us Q I rx rv h
  obtain ⟨l, xs, y, rfl, rfl, hH, hz, q⟩ := h
  cases rx
  obtain ⟨u, rfl, ru⟩ := rv.one
  obtain ⟨z, its, n, r, hl, e⟩ := I.lstM hH
  refine call_meets F.slot_list_append ⟨_, e, rfl⟩ F.entry_list_append (F.args_list_append_2 _ _) (PySem.list_append l its.toArray n u (by rw [List.size_toArray]; omega)) ⟨e, ?_⟩
  refine ⟨.non, _, I.lset (its' := its ++ [u]) hH e (by simp) (r.append (.cons ru .nil)) ?_, rfl, q⟩
  rw [List.length_append, List.length_singleton]
  assumption
inductive RPopAtP (x : V) (vs : List V) (H : Hp) (Q : VK) : Prop
  | mk (l xs i k y : _) : (x = .ref l) → (vs = [.int i]) → (H l = some (.lst xs)) → (-(2 ^ 63) ≤ i) → (i < 2 ^ 63) → (seqIndex? i xs.length = some k) → (xs[k]? = some y) → (Q y (upd H l (.lst (xs.eraseIdx k)))) → RPopAtP x vs H Q
def rPopAt : V → List V → Hp → VK → Prop := fun x vs H Q => RPopAtP x vs H Q
theorem mt_popAt : MtM X "list.pop" rPopAt := by
  intro pins s σ H x vs v us Q I rx rv h
  obtain ⟨l, xs, i, k, y, rfl, rfl, hH, h1, h2, hk, hy, q⟩ := h
  cases rx
  obtain ⟨u, rfl, ru⟩ := rv.one
  obtain ⟨t, rfl⟩ := ru
  obtain ⟨z, its, n, r, hl, e⟩ := I.lstM hH
  obtain ⟨w, hw, rw'⟩ := r.get hy
  refine call_meets F.slot_list_pop ⟨_, e, rfl⟩ F.entry_list_pop (F.args_list_pop_2 _ _)
    (MeetsSeq.list_pop_at l its.toArray n i t k w (fitsIndex_both h1 h2) (by rw [List.size_toArray, ← hl]; exact hk) (by rw [← Array.getElem?_toList]; exact hw) (by rw [List.size_toArray]; omega)) ⟨e, ?_⟩
  refine ⟨y, _, I.lset (its' := its.eraseIdx k) hH e ?_ (r.eraseIdx k) ?_, rw', q⟩
  · show its.toArray.eraseIdxIfInBounds k = (its.eraseIdx k).toArray
    rw [List.eraseIdxIfInBounds_toArray]
  · have := len_erase xs k
    exact Nat.le_trans (by assumption) (by assumption)
inductive RCatP (x : V) (y : V) (H : Hp) (Q : VK) : Prop
  | mk (l b xs zs : _) : (x = .ref l) → (y = .ref b) → (H l = some (.lst xs)) → (H b = some (.lst zs)) → (xs.length + zs.length ≤ sizeLine) → (∀ p, H p = none → Q (.ref p) (upd H p (.lst (xs ++ zs)))) → RCatP x y H Q
def rCat : R2 := fun x y H Q => RCatP x y H Q
theorem op_cat : OpR X (binaryOp .Add) rCat := by
  intro pins s σ H x y v u Q I rx ry h
  obtain ⟨l, b, xs, zs, rfl, rfl, hH, hB, hz, q⟩ := h
  cases rx
  cases ry
  obtain ⟨z, its, n, r, hl, e⟩ := I.lstM hH
  obtain ⟨z2, its2, n2, r2, hl2, e2⟩ := I.lstM hB
  refine PySem.P.add_list e e2 ?_ (by rw [List.size_toArray, List.size_toArray]; omega)
  have ea : its.toArray ++ its2.toArray = (its ++ its2).toArray := by simp
  rw [ea]
  exact ⟨.ref _, _, I.lnew (t' := s.toks) (r.append r2) (by rw [List.length_append]; assumption), rfl, q _ I.fresh⟩
inductive RRepP (x : V) (y : V) (H : Hp) (Q : VK) : Prop
  | mk (l k xs : _) : (x = .ref l) → (y = .int k) → (H l = some (.lst xs)) → (-(2 ^ 63) ≤ k) → (k < 2 ^ 63) → (xs.length * k.toNat ≤ sizeLine) → (∀ p, H p = none → Q (.ref p) (upd H p (.lst (List.replicate k.toNat xs).flatten))) → RRepP x y H Q
def rRep : R2 := fun x y H Q => RRepP x y H Q
theorem len_rep {α : Type} (xs : List α) (k : Nat) : (List.replicate k xs).flatten.length = k * xs.length := by
  induction k with
  | zero => simp
  | succ k ih => rw [List.replicate_succ, List.flatten_cons, List.length_append, ih, Nat.succ_mul, Nat.add_comm]
theorem op_rep : OpR X (binaryOp .Mult) rRep := by
  intro pins s σ H x y v u Q I rx ry h
  obtain ⟨l, k, xs, rfl, rfl, hH, h1, h2, hz, q⟩ := h
  cases rx
  obtain ⟨t, rfl⟩ := ry
  obtain ⟨z, its, n, r, hl, e⟩ := I.lstM hH
  have hlen : its.toArray.size * k.toNat ≤ sizeLine := by rw [List.size_toArray, ← hl]; exact hz
  have hcap : ¬ its.toArray.size * k.toNat > (2 ^ 63 - 1) / 8 := by
    have : (sizeLine : Nat) ≤ (2 ^ 63 - 1) / 8 := by decide
    omega
  have hfit : ¬ (!Builtin.List.listFitsIndex k) = true := by
    rw [fitsIndex_both h1 h2]
    exact Bool.false_ne_true
  have hlong : ¬ Builtin.List.listTooLong (its.toArray.size * k.toNat) = true := by
    rw [notLongL hlen]
    exact Bool.false_ne_true
  have hnew : List.foldl (fun x1 x2 => x1 ++ x2) #[] (List.replicate (if its.toArray.isEmpty = true then 0 else k.toNat) its.toArray) = (List.replicate k.toNat its).flatten.toArray := by
    have f0 : ∀ m : Nat, List.foldl (fun x1 x2 => x1 ++ x2) #[] (List.replicate m its.toArray) = (List.replicate m its).flatten.toArray := fun m => by
      have := foldl_rep its m []
      rw [List.nil_append] at this
      exact this
    rw [f0]
    cases its with
    | nil => simp
    | cons a r' => rw [if_neg (by simp)]
  refine wpAny_binaryOp_repeat_ref (T := "list") (U := "int") (by decide) ⟨_, e, rfl⟩ (fun s' => typeIs_int s' k t) noFill_list_mul F.fills_int_mul F.slot_int_rmul repeat_list F.slot_int_index.lookup
    (call_meets F.slot_int_rmul (typeIs_int s k t) F.entry_int_rmul (F.args_int_rmul_2 _ _) (int___rmul___int_list k t l its.toArray n)
      ⟨e, rfl, ⟨_, e, rfl⟩, call_meets F.slot_list_mul ⟨_, e, rfl⟩ F.entry_list_mul (F.args_list_mul_2 _ _) (AutoListH.list___mul___list_int_3 l its.toArray n k t hfit hcap hlong) ⟨e, ?_⟩⟩)
  rw [hnew]
  exact ⟨.ref _, _, I.lnew (t' := s.toks) (r.rep k.toNat) (by rw [len_rep, Nat.mul_comm]; exact hz), rfl, q _ I.fresh⟩
end
end L2
namespace L2
open PySem PySem.Spec PyProof.Rows
end L2
namespace Att
open PySem PySem.W PySem.Calls PyProof.Rows
theorem ints_of_wellAll {P : Params} {h : Heap} : ∀ (ns : List Int) (vs : List Value), WellAll P h vs (ns.map WData.int) → IntsAre vs ns := by
  intro ns
  induction ns with
  | nil =>
    intro vs w
    rw [List.map_nil] at w
    cases w
    exact .nil
  | cons n ns ih =>
    intro vs w
    rw [List.map_cons] at w
    cases w with
    | cons a b =>
      cases a
      exact .cons _ _ (ih _ b)
theorem script_of {l : OpenLaw} {n : Nat} (hn : l.most = some n) {P : Params} {h : Heap} {args : List WData} {vals : List Value}
    (hpre : l.row.toRowW.claim.pre args = true) (hwl : WellAll P h vals args) :
    ∃ a vs ns, vals = [Value.ref a] ∧ args = [WData.list (ns.map WData.int)] ∧ h.get? a = some { cls := .type "list", data := .seq vs.toArray } ∧ IntsAre vs ns ∧ ns.length ≤ n := by
  have hsh : WShape.hasAll [] args [.list .int] = true := (pre_splitW hpre).1
  have hc : l.pre.holds [] { args := args } = true := (pre_splitW hpre).2
  obtain ⟨d, r, rfl, h1, h2⟩ := hasAllW_cons hsh
  obtain rfl := hasAllW_nil h2
  obtain ⟨xs, rfl, h3⟩ := hasW_list h1
  obtain ⟨ns, rfl⟩ := items_int h3
  have hlen : ns.length ≤ n := by
    unfold OpenLaw.pre at hc
    have h4 : (WTm.not (.lt (.lit (.int (n : Int))) (.len (.arg 0)))).holds [] { args := [.list (ns.map .int)] } = true := by
      have h4 := (holds_andW hc).1
      rw [hn] at h4
      exact h4
    have h5 := condW_of h4 (w_not (w_lt w_lit (w_len_list (w_arg rfl))))
    rw [List.length_map] at h5
    refine Nat.le_of_not_lt fun q => ?_
    have q' : (n : Int) < ((ns.length : Nat) : Int) := by omega
    first
      | (rw [decide_eq_true q'] at h5; exact absurd h5 (by decide))
      | (simp at h5; omega)
  cases hwl with
  | cons w1 w2 =>
    cases w2
    cases w1 with
    | list ho hall => exact ⟨_, _, ns, rfl, rfl, ho, ints_of_wellAll ns _ hall, hlen⟩
theorem post_true (l : OpenLaw) (args : List WData) : l.row.toRowW.claim.post args (.bool true) args = true :=
  postW_of (r := l.row.toRowW) (X := (true == true))
    (show WShape.has [] (.bool true) .bool = true by first | rfl | decide | simp [WShape.has, WShape.arms, WShape.armsAll])
    (show (WTm.eq .res (.lit (.bool true))).value [] { args := args, res := some (.bool true), after := args } = some (.bool (true == true)) from w_eq_bool (w_res rfl) w_lit) rfl
theorem attach_call {l : OpenLaw} {n : Nat} {q : Program} {loose : List Str} {XP : (Str → Option Value) → Heap → Prop} {YP : World → Heap → Prop} {d : DefRec}
    (hn : l.most = some n) (hdf : d.params.defaults = [])
    (call : ∀ (w : World) (s₀ s₁ : Shared) (mg mb : Str → Option Value) (fa : Addr) (o : Obj) (pm cd doc : Value) (a : Addr) (vs : List Value) (ns : List Int),
      Ground q loose [] XP w s₀ mg mb s₁.heap → YP w s₁.heap →
      s₁.heap.get? fa = some o → o.data = .func (docDef d.name d.params d.body d.scope pm cd doc) → s₁.heap.CodeRec cd d.name → mg d.name = some (.ref fa) →
      s₁.heap.get? a = some { cls := .type "list", data := .seq vs.toArray } → IntsAre vs ns → ns.length ≤ n → s₁.gens = #[] →
      codeAny (model l.prog w) callerA (.call (.ref fa) ⟨[.ref a], []⟩) (fun r s' => r = .ok (.ret (.bool true)) ∧ OldK s₁.heap s'.heap ∧ s'.os = s₁.os ∧ AllBare s'.gens) s₁) :
    WalkO q loose XP YP l.row.toRowW d [] (fun f vs => PySem.call f vs) := by
  intro w s₀ s₁ mg mb G Y fa o pm cd doc dV kV ho hd hcd hD hmg hg args vals as hpre hlay hrd hwl hlo
  obtain rfl : dV = .none := Dflts.none hD hdf
  obtain rfl : kV = .none := Dflts.noKw hD
  obtain ⟨a, vs, ns, rfl, rfl, hobj, hints, hlen⟩ := script_of hn hpre hwl
  refine enter_call (codeAny_mono (call w s₀ s₁ mg mb fa o pm cd doc a vs ns G Y ho (fd_plain hd) hcd hmg hobj hints hlen hg) fun r s' hq => ?_)
  obtain ⟨rfl, h2, h3, h4⟩ := hq
  exact ⟨.inl ⟨.bool true, .bool true, [], rfl, fun _ => rfl, .bool true, post_true l _, fun _ => ⟨List.Pairwise.nil, fun _ hm => (nomatch hm)⟩⟩, h2, h3, h4⟩
end Att
namespace L2
open PySem PySem.Spec PyProof.Rows
theorem vals_ints : ∀ {vs : List Value} {ns : List Int}, IntsAre vs ns → Vals (ns.map V.int) vs
  | _, _, .nil => .nil
  | _, _, .cons n t h => .cons ⟨t, rfl⟩ (vals_ints h)
def Only (H : Hp) : Prop := ∀ b, H b = none ∨ ∃ o xs, H b = some (.frz o (.lst xs))
theorem law_call {P : Program} {w : World} {K : PySem.W.Frag} {mg mb : Str → Option Value} {CX : CXT} {k : Nat} {fa a : Addr} {fd : FuncData} {x : Str} {sp : Sp} {s₁ : Shared} {vs : List Value} {ns : List Int}
    (KX : K.In s₁.heap) (hns : s₁.heap.Ns mainGlobals mg) (hb : s₁.heap.Ns builtinsNs mb) (hbb : ∀ x : Str, x ≠ "__name__" → mb x = bootBuiltins x) (hlim : s₁.heap.NoLimit) (hg : s₁.gens = #[])
    (ha : s₁.heap.get? a = some { cls := .type "list", data := .seq vs.toArray }) (hi : IntsAre vs ns) (hl : ns.length ≤ sizeLine) (hr : Room k callerA)
    (F : ∀ base : Heap, K.In base → base.Ns mainGlobals mg → FnOk P w K mg base CX k fa fd [x] sp) (hbind : ∀ (s : Shared) (u : Value), BindsTo s fd ⟨[u], []⟩ [(x, u)])
    (hsp : ∀ H : Hp, Only H → SqL K H a (ns.map V.int) → sp [.ref a] H (fun v _ => v = .bl true) fun _ _ _ => False)
    (hCX : ∀ H e s', CX [] H s₁ (fun _ _ _ => False) e s' → False) :
    codeAny (model P w) callerA (.call (.ref fa) ⟨[.ref a], []⟩) (fun r s' => r = .ok (.ret (.bool true)) ∧ OldK s₁.heap s'.heap ∧ s'.os = s₁.os ∧ AllBare s'.gens) s₁ := by
  have rv := vals_ints hi
  have lenV := hi.length
  have core : ∀ H : Hp, Only H → SqL K H a (ns.map V.int) → HOk P w H s₁.heap → (∀ b, H b ≠ none → b = a) → (H a ≠ none → K.lookup a = none) →
      codeAny (model P w) callerA (.call (.ref fa) ⟨[.ref a], []⟩) (fun r s' => r = .ok (.ret (.bool true)) ∧ OldK s₁.heap s'.heap ∧ s'.os = s₁.os ∧ AllBare s'.gens) s₁ := by
    intro H hO hS hok hA hK
    have base_of : ∀ {b : Addr} {o : Obj}, s₁.heap.get? b = some o → H b = none → (hidT s₁.heap H).get? b = some o := fun e n => hidT_get e n
    have noA : ∀ {b : Addr} {o : Obj} {es : Array DictEntry} {ep : Nat}, s₁.heap.get? b = some o → o.data = .dict es ep → H b = none := fun {b o es ep} e d => by
      cases q : H b with
      | none => rfl
      | some u =>
        have e' : b = a := hA b (by rw [q]; simp)
        subst e'
        rw [ha] at e; cases e
        have d' : Data.seq vs.toArray _ = Data.dict es ep := d
        cases d'
    have nsK : ∀ {b : Addr} {m : Str → Option Value}, s₁.heap.Ns b m → (hidT s₁.heap H).Ns b m := fun {b m} ⟨o, es, ep, e, d, r⟩ => ⟨o, es, ep, base_of e (noA e d), d, r⟩
    have hKb : K.In (hidT s₁.heap H) := fun b o e => base_of (KX b o e) (by
      cases q : H b with
      | none => rfl
      | some u =>
        have e' : b = a := hA b (by rw [q]; simp)
        subst e'
        rw [hK (by rw [q]; simp)] at e; cases e)
    have hM : Mod K mg (hidT s₁.heap H) := ⟨hKb, nsK hns, ⟨mb, nsK hb, hbb⟩, let ⟨mc, h1, h2⟩ := hlim; ⟨mc, nsK h1, h2⟩⟩
    have e0 : Env0 P w K mg (hidT s₁.heap H) callerA [] s₁ H := ⟨rfl, hM, fun b o e => of_hidT e, Nat.le_of_eq (hidT_size _ _), trivial, fun b hb => absurd (show b ∈ ([] : List Addr) from hb) (by simp), hok, .of_eq hg⟩
    refine codeAny_mono ((F _ hKb (nsK hns)).run callerA [] s₁ H ⟨[.ref a], []⟩ [.ref a] [.ref a] _ _ hr e0 (hbind s₁ (.ref a)) (.cons rfl .nil) (hsp H hO hS)) fun r s' h => ?_
    cases r with
    | error e => exact (hCX H e s' h).elim
    | ok fl =>
      cases fl with
      | next => exact False.elim h
      | brk => exact False.elim h
      | cont => exact False.elim h
      | ret u =>
        obtain ⟨v, H', os, bare, un, hok', r', q⟩ := h
        have q' : v = .bl true := q
        subst q'
        obtain rfl : u = Value.bool true := r'
        refine ⟨rfl, OldK.of_keep fun b o e => ?_, os, bare⟩
        cases q : H b with
        | none => exact un.keep b o e q (by intro z; exact absurd (show b ∈ ([] : List Addr) from z) (by simp)) (by simp)
        | some u =>
          rcases hO b with z | ⟨ob, xs, z⟩
          · rw [q] at z; cases z
          · have z2 := un.frzs b ob _ z
            obtain ⟨e1, _⟩ := hok b _ z
            obtain ⟨e2, _⟩ := hok' b _ z2
            rw [e] at e1; cases e1
            exact e2
  cases hk : K.lookup a with
  | some o =>
    have e := KX a o hk
    rw [ha] at e
    cases e
    refine core (fun _ => none) (fun _ => .inl rfl) (.inr ⟨_, vs.toArray, _, hk, rfl, rfl, rfl, by rw [List.size_toArray, lenV]; exact hl, by simpa using rv⟩) (fun b u z => by have z' : (none : Option HO) = some u := z; cases z') (fun b z => absurd rfl z) fun z => absurd rfl z
  | none =>
    refine core (fun b => if b = a then some (.frz { cls := .type "list", data := .seq vs.toArray } (.lst (ns.map V.int))) else none) (fun b => ?_) (.inl (.inr ⟨{ cls := .type "list", data := .seq vs.toArray }, if_pos rfl⟩)) (fun b u z => ?_) (fun b z => ?_) fun _ => hk
    · by_cases hb : b = a
      · exact .inr ⟨_, _, if_pos hb⟩
      · exact .inl (if_neg hb)
    · by_cases hb : b = a
      · have z' := (if_pos hb).symm.trans z
        cases z'
        subst hb
        exact ⟨ha, by rw [List.length_map]; exact hl, vs, _, rv, ha⟩
      · have z' := (if_neg hb).symm.trans z
        cases z'
    · by_cases hb : b = a
      · exact hb
      · exact absurd (if_neg hb) z
end L2
namespace L2
open PySem PySem.Spec PyProof.Rows
theorem walk_of {l : PySem.W.OpenLaw} {n k : Nat} {q : Program} {loose : List Str} {XP : (Str → Option Value) → Heap → Prop} {YP : World → Heap → Prop} {d : DefRec} {K : Params → PySem.W.Frag} {CX : World → CXT} {sp : World → Sp} {x : Str}
    (hn : l.most = some n) (hn2 : n ≤ sizeLine) (hdf : d.params.defaults = []) (hr : Room k callerA)
    (hY : ∀ (w : World) (h : Heap), YP w h → (K w.params).In h)
    (F : ∀ (w : World) (mg : Str → Option Value) (fa : Addr) (h : Heap), (K w.params).In h → h.Ns mainGlobals mg → mg d.name = some (.ref fa) →
      ∃ fd : FuncData, (∀ (s : Shared) (u : Value), BindsTo s fd ⟨[u], []⟩ [(x, u)]) ∧
        ∀ base : Heap, (K w.params).In base → base.Ns mainGlobals mg → FnOk l.prog w (K w.params) mg base (CX w) k fa fd [x] (sp w))
    (hsp : ∀ (w : World) (H : Hp) (a : Addr) (ns : List Int), ns.length ≤ n → Only H → SqL (K w.params) H a (ns.map V.int) → sp w [.ref a] H (fun v _ => v = .bl true) fun _ _ _ => False)
    (hCX : ∀ (w : World) (H : Hp) (s : Shared) (e : Value) (s' : Shared), CX w [] H s (fun _ _ _ => False) e s' → False) :
    PySem.W.WalkO q loose XP YP l.row.toRowW d [] (fun f vs => PySem.call f vs) := by
  refine Att.attach_call hn hdf fun w s₀ s₁ mg mb fa o pm cd doc a vs ns G Y ho hd hcd hmg hobj hints hlen hg => ?_
  have KX := hY w _ Y
  obtain ⟨fd, hb, hF⟩ := F w mg fa _ KX G.T.g hmg
  exact law_call KX G.T.g G.T.b G.T.builtins G.T.nolimit hg hobj hints (Nat.le_trans hlen hn2) hr hF hb (fun H hO hS => hsp w H a ns hlen hO hS) fun H e s' => hCX w H s₁ e s'
end L2
/- THE LAST THEOREM (shape; LID, My.* are yours):
   My.Adr: a structure of the addresses that your layer names (classes, functions); My.Txt K t: a structure (Prop) of the equations over K;
   My.txt_mk : {K} {implicit addresses ..} (e1 : nsIn K mainGlobals "law" = some (some (.ref f))) (e2 : K.lookup f = some ⟨oc, od, .func (fnOf "law" "law" params body scope dV kV doc pm an cdv ct), sl⟩) (e3 : codeIn K cdv "law" = true) .. : ∃ t, My.Txt K t
set_option maxRecDepth 100000 in
set_option maxHeartbeats 0 in
theorem PySem.Challenge.cw_LID_holds : PySem.Challenge.rw_LID.Holds := by
  w_on; o_law; k_head; (case hw => w_witness2)
  k_fill
  refine L2.walk_of (l := PySem.Challenge.rw_LID) (n := 63) (k := 40) (x := "script") (CX := fun w => ..) (sp := fun _ => My.sp_law) rfl (by decide) rfl ⟨rfl, by decide, by decide⟩ (fun w h Y => PySem.W.kIn_of Y) ?F ?S ?C
  case F =>
    intro w mg fa h KX G hmg
    have T : ∃ t, My.Txt (L2.KOf KX) t := by
      dsimp only [L2.KOf]                          -- K must stand as «<heap const> w.params» for k_is
      refine' My.txt_mk ?e1 ?e2 ?e3 ..
      (case e1 => PySem.W.k_is)                    -- in the order: a name -> its address -> its object -> its parts
      (case e2 => PySem.W.k_is)
      ..
    obtain ⟨t, T⟩ := T
    have e0 := hmg.symm.trans (PySem.W.mg_of KX G T.law)
    cases e0                                       -- fa is the law's own address
    exact ⟨_, fun s u => .of_eq rfl, fun base kb nb => My.law_fn T kb nb⟩     -- if «.of_eq rfl» comes too early: refine' ⟨_, ?b, fun base kb nb => My.law_fn T kb nb⟩; exact fun s u => .of_eq rfl
  case S => exact fun w H a ns hl hO hS => ..
  case C => exact ..
(the tactic k_is has no namespace: write k_is) -/
namespace L2
open PySem PySem.Spec PyProof.Rows
def defArgs (s : Stmt) : Arguments := match s with
  | .FunctionDef _ a _ _ _ _ _ _ _ _ => a
  | _ => { posonlyargs := [], args := [], vararg := none, kwonlyargs := [], kw_defaults := [], kwarg := none, defaults := [] }
def defBody (s : Stmt) : List Stmt := match s with
  | .FunctionDef _ _ b _ _ _ _ _ _ _ => b
  | _ => []
def defScope (s : Stmt) : Scope := match s with
  | .FunctionDef _ _ _ _ _ _ sc _ _ _ => sc
  | _ => { kind := .function, names := [], isGenerator := false, isCoroutine := false }
abbrev CX0 : CXT := fun _ _ _ _ _ _ => False
abbrev E0 : XK := fun _ _ _ => False
theorem pass0 {X : Cx} : Passes CX0 X E0 := fun _ _ _ _ _ _ _ h => h.elim
structure Fun (K : PySem.W.Frag) (x qual : Str) (st : Stmt) (f : Addr) (fd : FuncData) : Prop where
  ex : ∃ (oc : Value) (od : Option Addr) (kV doc pm : Value) (an : Option Addr) (cdv ct : Value) (osl : Array (Option Value)),
    fd = PySem.W.fnOf x qual (defArgs st) (defBody st) (defScope st) .none kV doc pm an cdv ct ∧ K.lookup f = some ⟨oc, od, .func fd, osl⟩ ∧ PySem.W.codeIn K cdv qual = true
  kp : PySem.W.keepIn K (.ref f) = true
section
variable {P : Program} {w : World} {K : PySem.W.Frag} {mg : Str → Option Value} {base : Heap}
theorem Fun.ok {x qual : Str} {st : Stmt} {f : Addr} {fd : FuncData} {N ps : List Str} {k : Nat} {sp : Sp} (F : Fun K x qual st f fd) (S : FnScope N ps (defScope st)) (len : ∀ vs H Q E, sp vs H Q E → vs.length = ps.length)
    (hbody : ∀ (cdv : Value) (A : Around) (outer : List Env) (s : Shared) (H : Hp) (vs : List V) (Q : VK) (E : XK), Room k (A.deeper (envOfC qual (defScope st) s.heap.objs.size f cdv)) → sp vs H Q E →
      ∃ t, PSs (cxOf CX0 P w K mg base N qual (defScope st) f cdv A outer s H E).nox (defBody st) t ∧ t { nx := fun _ H' => Q .non H', rt := Q } (start N vs) H) : FnOk P w K mg base CX0 (k + 1) f fd ps sp := by
  obtain ⟨oc, od, kV, doc, pm, an, cdv, ct, osl, rfl, lk, hcd⟩ := F.ex
  refine fn_of lk hcd S len fun A outer s H vs Q E hr hsp => ?_
  obtain ⟨t, h, q⟩ := hbody cdv A outer s H vs Q E hr hsp
  exact ⟨t, h.nox, q⟩
theorem Fun.binds {x qual : Str} {st : Stmt} {f : Addr} {fd : FuncData} {ps : List Str} (F : Fun K x qual st f fd)
    (h : ∀ (kV doc pm : Value) (an : Option Addr) (cdv ct : Value) (us : List Value), us.length = ps.length → bindArgs (PySem.W.fnOf x qual (defArgs st) (defBody st) (defScope st) .none kV doc pm an cdv ct) ⟨us, []⟩ = pure (ps.zip us)) : Binds K fd ps [] := by
  obtain ⟨oc, od, kV, doc, pm, an, cdv, ct, osl, rfl, lk, hcd⟩ := F.ex
  exact .all (h kV doc pm an cdv ct)
theorem fun_mk {x qual : Str} {st : Stmt} {f : Addr} {oc : Value} {od an : Option Addr} {osl : Array (Option Value)} {kV doc pm cdv ct : Value} (l : K.lookup f = some ⟨oc, od, .func (PySem.W.fnOf x qual (defArgs st) (defBody st) (defScope st) .none kV doc pm an cdv ct), osl⟩)
    (c : PySem.W.codeIn K cdv qual = true) (k : PySem.W.keepIn K (.ref f) = true) : Fun K x qual st f (PySem.W.fnOf x qual (defArgs st) (defBody st) (defScope st) .none kV doc pm an cdv ct) := ⟨⟨oc, od, kV, doc, pm, an, cdv, ct, osl, rfl, l, c⟩, k⟩
end
theorem small1000 {n : Nat} (h : n ≤ 1000) : n < sizeLine := Nat.lt_of_le_of_lt h (by decide)
section
variable {X : Cx}
theorem pv (i : Nat) {x : Str} {pos : Pos} (hN : X.N[i]? = some x := by rfl) (hv : Vis X.env.scope x := by first | exact Or.inl rfl | exact Or.inr (Or.inl rfl) | exact Or.inr (Or.inr rfl)) (hd : (x == ("__debug__" : Str)) = false := by decide)
    (hcd : (x == ("__classdict__" : Str)) = false := by decide) : PE X (.Name x pos) (tVar i) := pe_var hN hv hd hcd
end
theorem iteF {A B : Prop} (h : B) : if false = true then A else B := by
  rw [if_neg Bool.false_ne_true]
  exact h
theorem iteT {A B : Prop} (h : A) : if true = true then A else B := by
  rw [if_pos rfl]
  exact h
theorem ite2 {c A B : Prop} [Decidable c] (h1 : c → A) (h2 : ¬ c → B) : if c then A else B := by
  by_cases h : c
  · rw [if_pos h]
    exact h1 h
  · rw [if_neg h]
    exact h2 h
def Same (H H' : Hp) : Prop := ∀ b o, H b = some o → H' b = some o
theorem Same.trans {H H1 H2 : Hp} (a : Same H H1) (b : Same H1 H2) : Same H H2 := fun c o h => b c o (a c o h)
end L2
set_option maxHeartbeats 4000000
namespace L2
open PySem PySem.Spec PyProof.Rows
def closes (env : Env) : List (Str × NameKind) → List (Str × Addr) → List (Str × Addr)
  | [], cs => cs
  | (n, k) :: r, cs => closes env r (if k = .free then (n, (env.cells.lookup n).getD 0) :: cs else cs)
theorem closes_ok {env : Env} : ∀ (ns : List (Str × NameKind)) (cs : List (Str × Addr)), (∀ p ∈ ns, p.2 = .free → (env.cells.lookup p.1).isSome = true) →
    (forIn ns cs fun (x : Str × NameKind) r => (do
      let mut cs := r
      if x.2 == .free then cs := (x.1, ← cellOf env x.1) :: cs
      pure (ForInStep.yield cs) : Sem (ForInStep (List (Str × Addr))))) = pure (closes env ns cs)
  | [], cs, _ => rfl
  | (n, k) :: r, cs, h => by
    have ih := fun cs => closes_ok (env := env) r cs fun p hp => h p (List.mem_cons_of_mem _ hp)
    rw [List.forIn_cons]
    by_cases hk : k = .free
    · subst hk
      have q := h (n, .free) List.mem_cons_self rfl
      obtain ⟨c, hc⟩ := Option.isSome_iff_exists.mp q
      have e : cellOf env n = pure c := by unfold cellOf; rw [hc]
      simp only [e]
      simp [closes, hc, ih]
      have := ih ((n, c) :: cs)
      simpa using this
    · have hb : (k == NameKind.free) = false := by simpa using hk
      simp [closes, hk]
      have := ih cs
      simpa using this
theorem closureFor_closes {scope : Scope} {env : Env} (h : ∀ p ∈ scope.names, p.2 = .free → (env.cells.lookup p.1).isSome = true) : closureFor scope env = pure (closes env scope.names []) := by
  have q := closes_ok (env := env) scope.names [] h
  unfold closureFor
  simp at q ⊢
  exact q
theorem closes_sub {env : Env} : ∀ (ns : List (Str × NameKind)) (cs : List (Str × Addr)), (∀ p ∈ ns, p.2 = .free → (env.cells.lookup p.1).isSome = true) → (∀ y c, cs.lookup y = some c → env.cells.lookup y = some c) →
    ∀ y c, (closes env ns cs).lookup y = some c → env.cells.lookup y = some c
  | [], cs, _, h, y, c, e => h y c e
  | (n, k) :: r, cs, h, hc, y, c, e => by
    unfold closes at e
    refine closes_sub r _ (fun p hp => h p (List.mem_cons_of_mem _ hp)) ?_ y c e
    intro y c e
    by_cases hk : k = .free
    · subst hk
      rw [if_pos rfl] at e
      obtain ⟨d, hd⟩ := Option.isSome_iff_exists.mp (h (n, .free) List.mem_cons_self rfl)
      rw [List.lookup_cons] at e
      cases q : y == n with
      | true =>
        rw [q] at e
        have : y = n := by simpa using q
        subst this
        rw [hd] at e ⊢
        exact e
      | false =>
        rw [q] at e
        exact hc y c e
    · rw [if_neg hk] at e
      exact hc y c e
theorem closes_keep {env : Env} {y : Str} : ∀ (ns : List (Str × NameKind)) (cs : List (Str × Addr)), (cs.lookup y).isSome = true → ((closes env ns cs).lookup y).isSome = true
  | [], cs, h => h
  | (n, k) :: r, cs, h => by
    unfold closes
    refine closes_keep r _ ?_
    split
    · rw [List.lookup_cons]
      split
      · rfl
      · exact h
    · exact h
theorem closes_has {env : Env} {y : Str} : ∀ (ns : List (Str × NameKind)) (cs : List (Str × Addr)), (y, NameKind.free) ∈ ns → ((closes env ns cs).lookup y).isSome = true
  | (n, k) :: r, cs, h => by
    unfold closes
    rcases List.mem_cons.mp h with e | e
    · cases e
      refine closes_keep r _ ?_
      rw [if_pos rfl, List.lookup_cons]
      simp
    · exact closes_has r _ e
def compCx (X : Cx) (scope : Scope) (N : List Str) (C : Addr) (s : Shared) (H : Hp) (ex : List Addr) (pins : List (Addr × Obj)) : Cx where
  prog := X.prog
  w := X.w
  K := X.K
  mg := X.mg
  base := X.base
  A := X.A
  N := N
  s₀ := s
  H₀ := H
  env := compEnvC scope (closes X.env scope.names []) C X.env
  outer := X.stack
  stack := X.stack
  ex := ex
  fn := fun _ => false
  calm := X.calm
  pn := X.pn ++ pins
  xe := fun _ _ => False
def cst (nT : Nat) (js : List Nat) (σ : St) : St := List.replicate nT none ++ js.map fun j => (σ[j]?).join
structure CScope (X : Cx) (scope : Scope) (T F : List Str) (js : List Nat) : Prop where
  kind : scope.kind = .function
  nocell : ∀ y ∈ scope.names, y.2 ≠ .cell
  names : ∀ x ∈ scope.names, x.2 = .local → scope.names.lookup x.1 = some .local
  free : ∀ x ∈ scope.names, x.2 = .free → X.env.kindOf x.1 = some .cell
  loc : ∀ y ∈ T, (relabel scope X.env).names.lookup y = some .local
  cel : ∀ y ∈ F, (relabel scope X.env).names.lookup y = some .cell ∧ X.env.kindOf y = some .cell ∧ (y, NameKind.free) ∈ scope.names
  all : ∀ x ∈ (relabel scope X.env).names, (x.2 = .cell ∨ x.2 = .free) → (x.1, NameKind.free) ∈ scope.names
  js : js.map (fun j => X.N[j]?) = F.map some
section
variable {X : Cx} {scope : Scope} {T F : List Str} {js : List Nat}
theorem comp_inv {pins : List (Addr × Obj)} {σ : St} {H : Hp} {s : Shared} {h1 : Heap} {tk : Nat} {fp : List Addr} {m : Str → Option Value} (S : CScope X scope T F js) (I : Inv X pins σ H s)
    (hn : h1.Ns s.heap.objs.size m) (kk : ∀ b o, s.heap.get? b = some o → h1.get? b = some o) (hf : ∀ b ∈ fp, FpOk X pins H b ∧ ∃ o, s.heap.get? b = some o ∧ ∀ v, o.data ≠ .cell v) :
    Inv (compCx X scope (T ++ F) s.heap.objs.size s H fp pins) [] (cst T.length js σ) H { s with heap := h1, toks := tk } := by
  have sub := closes_sub (env := X.env) scope.names [] (fun p hp hk => by
    obtain ⟨c, e⟩ := I.ok.has p.1 (.inl (S.free p hp hk))
    rw [e]; rfl) (fun y c e => by simp at e)
  have ltC : ∀ y c, X.env.cells.lookup y = some c → c < s.heap.objs.size := fun y c e => by
    obtain ⟨v, z⟩ := I.cell y c e
    exact z.lt
  refine ⟨⟨I.ok.mod, ?_, I.ok.glob, I.ok.blt, Nat.le_refl _, fun x y c e1 e2 => I.ok.inj x y c (sub x c e1) (sub y c e2), fun x hx => ?_, fun x c hx => absurd hx Bool.false_ne_true, I.ok.hd, I.ok.frames, .inl rfl, fun b hb => ?_, I.bs, ?_, fun b o e hb => ?_, fun b hb hs => ?_, I.stack, I.stkFree⟩,
    rfl, I.bare, Un.kept kk, ⟨m, hn, fun i x v e1 e2 e3 => ?_⟩, fun x c e => ?_, I.hok.fresh (Nat.le_refl _), fun x c e => I.freeC x c (sub x c e), fun p hp => ?_, I.hok.kept kk, ?_⟩
  · show (relabel scope X.env).kind = .function
    exact S.kind
  · have hx : (relabel scope X.env).names.lookup x = some .cell ∨ (relabel scope X.env).names.lookup x = some .free := hx
    have hm : (x, NameKind.free) ∈ scope.names := by
      rcases hx with h | h
      · exact S.all _ (PySem.mem_of_lookup h) (.inl rfl)
      · exact S.all _ (PySem.mem_of_lookup h) (.inr rfl)
    exact Option.isSome_iff_exists.mp (closes_has scope.names [] hm)
  · obtain ⟨⟨f0, f1, f2, f3, f4, f5⟩, o, ho, _⟩ := hf b hb
    exact ⟨Nat.ne_of_lt (Heap.lt_size ho), fun x c e => f4 x c (sub x c e)⟩
  · exact Nat.le_trans I.ok.bsz I.sz
  · obtain ⟨⟨f0, f1, f2, f3, f4, f5⟩, _⟩ := hf b hb
    rcases f3 with z | z
    · exact I.ok.noex b o e z
    · exact absurd (Nat.lt_of_lt_of_le (Heap.lt_size e) (Nat.le_trans I.ok.bsz z)) (Nat.lt_irrefl _)
  · obtain ⟨⟨f0, f1, f2, f3, f4, f5⟩, _⟩ := hf b hb
    rcases List.mem_cons.mp (I.stkSub b hs) with z | z
    · exact f1 z
    · exact f2 z
  · -- a name's value
    have hi : T.length ≤ i := by
      by_cases hi : i < T.length
      · unfold cst at e2
        rw [List.getElem?_append_left (by simpa using hi), List.getElem?_replicate] at e2
        split at e2 <;> cases e2
      · exact Nat.not_lt.mp (by assumption)
    obtain ⟨k, rfl⟩ : ∃ k, i = T.length + k := ⟨i - T.length, by omega⟩
    have e1 : (T ++ F)[T.length + k]? = some x := e1
    rw [List.getElem?_append_right (by assumption)] at e1
    have e1 : F[k]? = some x := by simpa using e1
    unfold cst at e2
    rw [List.getElem?_append_right (by simp)] at e2
    have e2 : (js.map fun j => (σ[j]?).join)[k]? = some (some v) := by simpa using e2
    rw [List.getElem?_map] at e2
    cases ej : js[k]? with
    | none => rw [ej] at e2; cases e2
    | some j =>
      rw [ej] at e2
      have e2 : (σ[j]?).join = some v := by simpa using e2
      have e3' : σ[j]? = some (some v) := by
        cases q : σ[j]? with
        | none => rw [q] at e2; cases e2
        | some z => rw [q] at e2; cases z with
          | none => cases e2
          | some z => simp at e2; rw [e2]
      have eN : X.N[j]? = some x := by
        have q := congrArg (fun l => l[k]?) S.js
        simp only [List.getElem?_map, ej, e1] at q
        simpa using q
      obtain ⟨c1, c2, c3⟩ := S.cel x (List.mem_of_getElem? e1)
      obtain ⟨m0, hn0, hl⟩ := I.loc
      obtain ⟨u, ru, lk⟩ := hl j x v eN e3' (.inr (.inl c2))
      refine ⟨u, ru, ?_⟩
      rcases lk with ⟨z, _⟩ | ⟨_, c, ec, hc⟩
      · rw [c2] at z; cases z
      · obtain ⟨c', ec'⟩ := Option.isSome_iff_exists.mp (closes_has (env := X.env) scope.names [] c3)
        have := sub x c' ec'
        rw [ec] at this; cases this
        refine .inr ⟨.inl c1, c, ec', ?_⟩
        obtain ⟨o, ho, hd⟩ := hc
        exact ⟨o, kk _ _ ho, hd⟩
  · obtain ⟨v, o, ho, hd⟩ := I.cell x c (sub x c e)
    exact ⟨v, o, kk _ _ ho, hd⟩
  · have hp : p ∈ (X.pn ++ pins) ++ [] := hp
    rw [List.append_nil] at hp
    obtain ⟨e, n, ne, nf, d⟩ := I.pin p hp
    refine ⟨kk _ _ e, n, Nat.ne_of_lt (Heap.lt_size e), fun z => ?_, d⟩
    rcases List.mem_cons.mp (I.stkSub p.1 z) with q | q
    · exact ne q
    · exact nf q
  · unfold cst
    show _ = (T ++ F).length
    have q := congrArg List.length S.js
    simp at q
    simp [q]
def PIf (X : Cx) (ifs : List Expr) (t : TT) : Prop :=
  ∀ (pins : List (Addr × Obj)) (s : Shared) (σ : St) (H : Hp) (Q : Bool → Hp → Prop), Inv X pins σ H s → t σ H Q →
    wpAny (model X.prog X.w) X.A (forIn ifs true fun c r => if r = true then do let ok ← isTrue c X.env (eval c X.env); pure (ForInStep.yield ok) else pure (ForInStep.yield r)) (TP X pins σ Q) X.xe s
def tYes : TT := fun _ H Q => Q true H
theorem pif_nil : PIf X [] tYes := fun pins s σ H Q I h => wpAny_tests_nil ⟨H, I, h⟩
theorem pif_one {c : Expr} {t : TT} (h : PT X c t) : PIf X [c] t := fun pins s σ H Q I hw => wpAny_tests_one (h pins s σ H Q I hw)
def cturn (g : TG) (ti : TT) (te : TE) (D : Addr) (x : V) (σ : St) (ys : List V) (H : Hp) (N : St → List V → Hp → Prop) : Prop :=
  g x σ H fun σ2 H2 => ti σ2 H2 fun b H3 => if b = true then te σ2 H3 fun y H4 => H4 D = some (.lst ys) ∧ ys.length < sizeLine ∧ N σ2 (ys ++ [y]) (upd H4 D (.lst (ys ++ [y]))) else N σ2 ys H3
def cgo (J : It) (g : TG) (ti : TT) (te : TE) (D : Addr) (σ : St) (H : Hp) (Q : VK) : Prop :=
  ∃ W : Nat → Nat → St → List V → Hp → Prop, (∃ m, W 0 m σ [] (upd H D (.lst []))) ∧ ∀ i m σ ys H, W i m σ ys H → H D = some (.lst ys) ∧
    ((J.stop i H ∧ Q (.ref D) H) ∨ (J.go i H ∧ ∃ N : St → List V → Hp → Prop, (∀ σ' ys' H', N σ' ys' H' → ∃ m', m' < m ∧ W (i + 1) m' σ' ys' H') ∧ ∀ x H', J.yld i H x H' → cturn g ti te D x σ ys H' N))
def tComp (wi : TI) (g : TG) (ti : TT) (te : TE) (nT : Nat) (js : List Nat) : TE := fun σ H Q => wi σ H fun J H1 => ∀ D, H1 D = none → cgo J g ti te D (cst nT js σ) H1 Q
theorem comp_out {pins : List (Addr × Obj)} {σ σ' : St} {H H' : Hp} {s s' : Shared} {h' : Heap} {N : List Str} {fp : List Addr} (I : Inv X pins σ H s) (hf : ∀ b ∈ fp, FpOk X pins H b)
    (J : Inv (compCx X scope N s.heap.objs.size s H fp pins) [] σ' H' s') (sb : Heap.SameBut s.heap.objs.size s'.heap h') : Inv X pins σ H' { s' with heap := h' } := by
  have ne : ∀ b o, s.heap.get? b = some o → b ≠ s.heap.objs.size := fun b o e => Nat.ne_of_lt (Heap.lt_size e)
  have u := J.base
  have u' : Un (frs X.stack) fp H H' s.heap h' :=
    ⟨fun b o e n h1 h2 => sb.extBut b o (ne b o e) (u.keep b o e n h1 h2), fun b o e n h1 h2 => by
      obtain ⟨sl, q⟩ := u.slot b o e n h1 h2
      exact ⟨sl, sb.extBut b _ (ne b o e) q⟩, u.free, fun b o e h => by
      obtain ⟨o', q⟩ := u.there b o e h
      exact ⟨o', sb.extBut b _ (ne b o e) q⟩, u.tups, u.frzs, u.tbls⟩
  have nC : H' s.heap.objs.size = none := J.free
  have hok : HOk X.prog X.w H' h' := fun b o e => by
    refine (J.hok b o e).stay (fun c v hc q => sb.extBut c v ?_ q) (fun _ q => q) fun _ _ q => q
    rcases hc with z | z
    · rw [z]; intro z'; rw [z', nC] at e; cases e
    · intro z'; rw [z', nC] at z; cases z
  exact I.call' (s' := { s' with heap := h' }) J.os u' hok J.bare fun b hb => by
    obtain ⟨f0, f1, f2, f3, f4, f5⟩ := hf b hb
    exact ⟨f3, f1, f4, f5⟩
theorem comp_go {tg elt iter : Expr} {ifs : List Expr} {pos : Pos} {g : TG} {ti : TT} {te : TE} {wi : TI} {pins : List (Addr × Obj)} {σ : St} {H : Hp} {s : Shared} {use : Option (Value → Sem Unit)} {QQ : Value → Shared → Prop} {Q : VK} (S : CScope X scope T F js) (hc : X.calm = true)
    (hi : PI X tg iter wi) (hg : ∀ C s H ex pins, PG (compCx X scope (T ++ F) C s H ex pins) tg g) (hif : ∀ C s H ex pins, PIf (compCx X scope (T ++ F) C s H ex pins) ifs ti) (he : ∀ C s H ex pins, PE (compCx X scope (T ++ F) C s H ex pins) elt te)
    (I : Inv X pins σ H s) (h : tComp wi g ti te T.length js σ H Q)
    (fin : ∀ (D C : Addr) (s' : Shared) (H' : Hp) (m : Str → Option Value), s'.heap.Ns C m → Q (.ref D) H' → FpOk X pins H' C → (∀ h', Heap.SameBut C s'.heap h' → Inv X pins σ H' { s' with heap := h' }) →
      compPost (model X.prog X.w) X.A X.xe use QQ (.ref D) C (.ok .next) s')
    (hs : ∀ x, foldedSetIterable iter X.env x = pure x) :
    wpAny (model X.prog X.w) X.A (comprehension (.ListComp elt [⟨tg, iter, ifs, 0⟩] scope pos) scope X.env (firstIterPos [⟨tg, iter, ifs, 0⟩] pos) (newList []) false (eval iter X.env) use) QQ X.xe s := by
  refine wpAny_comprehension_free (use := use) rfl hs (closureFor_closes fun p hp hk => ?_) S.kind S.names (thn (hi pins s σ H _ I h) fun v s1 h1 => thn h1 fun itv s2 h2 => ?_)
  · obtain ⟨c, e⟩ := I.ok.has p.1 (.inl (S.free p hp hk))
    rw [e]; rfl
  obtain ⟨it, fp, tn, J, H2, rfl, I2, Tn, st2, f2, h2⟩ := h2
  obtain ⟨W, ⟨m0, w0⟩, turn⟩ := h2 s2.heap.objs.size I2.fresh
  refine wpAny_newObj_type (wpAny_newFunctionEnv S.nocell (by intro y hy; simp at hy) (fun h₁ hns₁ hsb₁ => ?_) S.kind)
  have I3 := I2.lnew (t' := s2.toks) (ys := []) (its := []) Paired.nil (Nat.zero_le _)
  generalize hs3 : ({ s2 with heap := s2.heap.push { cls := .type "list", data := .seq ([] : List Value).toArray }, toks := s2.toks } : Shared) = s3 at I3
  have hf3 : ∀ b ∈ fp, FpOk X pins (upd H2 s2.heap.objs.size (.lst [])) b ∧ ∃ o, s3.heap.get? b = some o ∧ ∀ v, o.data ≠ .cell v := fun b hb => by
    obtain ⟨f0, fr⟩ := f2 b hb
    obtain ⟨o, e, d⟩ := Tn.obj _ _ st2 b hb
    refine ⟨⟨by rw [upd_ne (Nat.ne_of_lt (Heap.lt_size e))]; exact f0, fr⟩, o, ?_, d⟩
    rw [← hs3]
    exact Heap.get?_push_of_some _ e
  have e3 : s3.heap = s2.heap.push { cls := .type "list", data := .seq ([] : List Value).toArray } := by rw [← hs3]
  have kk : ∀ b o, s3.heap.get? b = some o → h₁.get? b = some o := fun b o e => by
    rw [e3] at e
    exact hsb₁.extBut b o (Nat.ne_of_lt (Heap.lt_size e)) (Heap.get?_push_of_some _ e)
  have hns : h₁.Ns s3.heap.objs.size (fun x => ([] : List (Str × Value)).reverse.lookup x) := by rw [e3]; exact hns₁
  have I4 := comp_inv (tk := s3.toks + ([] : List (Str × Value)).length) S I3 hns kk hf3
  have stat : ∀ {H' : Hp} {pl : List (Addr × Obj)}, (∀ p ∈ pl, ∀ b ∈ fp, p.1 ≠ b) → (∀ b ∈ fp, H' b = none) → ∀ b ∈ fp, FpOk (compCx X scope (T ++ F) s3.heap.objs.size s3 (upd H2 s2.heap.objs.size (.lst [])) fp pins) pl H' b := fun {H' pl} hp hn b hb => by
    obtain ⟨⟨f0, f1, f2, f3, f4, f5⟩, o, e, d⟩ := hf3 b hb
    obtain ⟨x1, x2⟩ := I4.ok.exf b hb
    refine ⟨hn b hb, x1, I4.ok.exfs b hb, .inl hb, x2, fun p hq => ?_⟩
    rcases List.mem_append.mp hq with z | z
    · exact f5 p z
    · exact hp p z b hb
  have loop : codeAny (model X.prog X.w) X.A (.compLoop (.ListComp elt [⟨tg, iter, ifs, 0⟩] scope pos) 0 (.ref it) (.ref s2.heap.objs.size) (compEnvC scope (closes X.env scope.names []) s3.heap.objs.size X.env))
      (compPost (model X.prog X.w) X.A X.xe use QQ (.ref s2.heap.objs.size) s3.heap.objs.size) { s3 with heap := h₁, toks := s3.toks + ([] : List (Str × Value)).length } := by
    refine codeAny_loop rfl (fun n s' => ∃ i σ' ys H', Inv (compCx X scope (T ++ F) s3.heap.objs.size s3 (upd H2 s2.heap.objs.size (.lst [])) fp pins) [] σ' H' s' ∧ tn i s'.heap ∧ (∀ b ∈ fp, H' b = none) ∧ W i n σ' ys H') ?_ m0 ⟨0, _, [], _, I4, ?_, fun b hb => (hf3 b hb).1.1, w0⟩
    · rintro n s5 ⟨i, σ5, ys, H5, I5, st5, fr5, w5⟩
      show wpAny _ X.A ((compTurn (.ListComp elt [⟨tg, iter, ifs, 0⟩] scope pos) 0 (.ref it) (.ref s2.heap.objs.size) (compEnvC scope (closes X.env scope.names []) s3.heap.objs.size X.env)).onRaise (fun x => do noteFrame x _; theTreesLotGoes x)) _ _ s5
      refine wpAny_noted ?_
      rw [compTurn_list]
      refine wpAny_bind (wpAny_standAt (wpAny_bind ?_))
      obtain ⟨hD, tu⟩ := turn i n σ5 ys H5 w5
      rcases tu with ⟨stop, qq⟩ | ⟨go, NN, hNN, step⟩
      · refine thn (Tn.done (compCx X scope (T ++ F) s3.heap.objs.size s3 (upd H2 s2.heap.objs.size (.lst [])) fp pins) rfl rfl rfl hc i [] s5 σ5 H5 _ I5 (stat (pl := []) (fun _ hp => absurd hp List.not_mem_nil) fr5) st5 stop) fun r s6 ⟨hr, I6⟩ => ?_
        subst hr
        refine wpAny_pure ?_
        obtain ⟨m6, hn6, _⟩ := I6.loc
        have lC : s.heap.objs.size ≤ s.heap.objs.size := Nat.le_refl _
        exact fin _ _ s6 H5 m6 hn6 qq (I3.fpOk (Nat.le_refl _) I6.free) fun h' sb => comp_out I3 (fun b hb => (hf3 b hb).1) I6 sb
      · refine thn (Tn.item (compCx X scope (T ++ F) s3.heap.objs.size s3 (upd H2 s2.heap.objs.size (.lst [])) fp pins) rfl rfl rfl hc i [] s5 σ5 H5 _ I5 (stat (pl := []) (fun _ hp => absurd hp List.not_mem_nil) fr5) st5 go) fun r s6 ⟨u, hr, h6⟩ => ?_
        subst hr
        refine wpAny_bind (thn h6 fun _ s7 ⟨x, H7, I7, r7, y7, st7, fr7⟩ => ?_)
        have I7' := I7.pinned (stat (pl := []) (fun _ hp => absurd hp List.not_mem_nil) fr7) (Tn.obj _ _ st7)
        have back : ∀ {σ8 : St} {H8 : Hp} {s8 : Shared} {ys8 : List V} {m' : Nat}, Inv (compCx X scope (T ++ F) s3.heap.objs.size s3 (upd H2 s2.heap.objs.size (.lst [])) fp pins) ([] ++ pinsAt fp s7.heap) σ8 H8 s8 → m' < n → W (i + 1) m' σ8 ys8 H8 →
            ∃ m, m < n ∧ ∃ i σ' ys H', Inv (compCx X scope (T ++ F) s3.heap.objs.size s3 (upd H2 s2.heap.objs.size (.lst [])) fp pins) [] σ' H' s8 ∧ tn i s8.heap ∧ (∀ b ∈ fp, H' b = none) ∧ W i m σ' ys H' := fun {σ8 H8 s8 ys8 m'} I8 hm w8 => by
          refine ⟨m', hm, i + 1, σ8, ys8, H8, I8.unpinned, Tn.keep _ _ _ st7 fun b hb o e => (I8.pin (b, o) (List.mem_append_right _ (List.mem_append_right _ (mem_pinsAt hb e)))).1, fun b hb => ?_, w8⟩
          obtain ⟨o, e, d⟩ := Tn.obj _ _ st7 b hb
          exact (I8.pin (b, o) (List.mem_append_right _ (List.mem_append_right _ (mem_pinsAt hb e)))).2.1
        refine wpAny_bind (wpAny_mono (hg _ _ _ _ _ _ s7 σ5 H7 x u _ I7' r7 (step x H7 y7)) (fun _ s8 ⟨σ8, H8, I8, q8⟩ => ?_) fun _ _ z => z.elim)
        refine wpAny_bind (wpAny_mono (hif _ _ _ _ _ _ s8 σ8 H8 _ I8 q8) (fun ok s9 ⟨H9, I9, q9⟩ => ?_) fun _ _ z => z.elim)
        cases ok with
        | false =>
          rw [if_neg Bool.false_ne_true] at q9
          obtain ⟨m', hm, w9⟩ := hNN _ _ _ q9
          exact wpAny_pure ⟨rfl, back I9 hm w9⟩
        | true =>
          rw [if_pos rfl] at q9
          refine wpAny_bind (wpAny_bind (wpAny_mono (he _ _ _ _ _ _ s9 σ8 H9 _ I9 q9) (fun yv s10 ⟨y, H10, I10, r10, d10, l10, q10⟩ => ?_) fun _ _ z => z.elim))
          obtain ⟨m', hm, w10⟩ := hNN _ _ _ q10
          obtain ⟨z10, its, n10, rv, el, eo⟩ := I10.lstM d10
          refine wpAny_bind (wpAny_list_append_plain (items := its.toArray) ⟨n10, eo⟩ (fun h' hl' sb' => ?_) (by simp; omega))
          obtain ⟨n11, eo'⟩ := hl'
          have I11 := I10.write (x := s2.heap.objs.size) (e := s2.heap.objs.size) (o := .lst (ys ++ [y])) (t' := s10.toks) (by rw [d10]; exact trivial) (.inl rfl) (fun b o hb e => sb'.extBut b o hb e) ⟨_, eo'⟩ ⟨by simp; assumption, its ++ [yv], n11, rv.append (.cons r10 .nil), by simpa using eo'⟩
          exact wpAny_pure (wpAny_pure ⟨rfl, back I11 hm w10⟩)
    · refine Tn.keep _ _ _ st2 fun b hb o e => kk b o ?_
      rw [e3]
      exact Heap.get?_push_of_some _ e
  have st1 : tn 0 h₁ := Tn.keep _ _ _ st2 fun b hb o e => kk b o (by rw [e3]; exact Heap.get?_push_of_some _ e)
  exact codeAny_compStart_list loop (Tn.self _ 0 _ _ _ st1 loop)
theorem pe_comp {tg elt iter : Expr} {ifs : List Expr} {pos : Pos} {g : TG} {ti : TT} {te : TE} {wi : TI} (S : CScope X scope T F js) (hc : X.calm = true)
    (hi : PI X tg iter wi) (hg : ∀ C s H ex pins, PG (compCx X scope (T ++ F) C s H ex pins) tg g) (hif : ∀ C s H ex pins, PIf (compCx X scope (T ++ F) C s H ex pins) ifs ti) (he : ∀ C s H ex pins, PE (compCx X scope (T ++ F) C s H ex pins) elt te)
    (hs : ∀ x, foldedSetIterable iter X.env x = pure x := by intro _; rfl) : PE X (.ListComp elt [⟨tg, iter, ifs, 0⟩] scope pos) (tComp wi g ti te T.length js) := by
  intro pins s σ H Q I h
  rw [eval_ListComp]
  exact comp_go (use := none) S hc hi hg hif he I h (fun D C s' H' m hn q _ hinv => ⟨m, hn, fun h' sb => ⟨.ref D, H', hinv h' sb, rfl, q⟩⟩) hs
theorem ps_comp {i : Nat} {x : Str} {pos' spos : Pos} {tg elt iter : Expr} {ifs : List Expr} {pos : Pos} {g : TG} {ti : TT} {te : TE} {wi : TI} (hN : X.N.Nodup) (hx1 : X.N[i]? = some x) (hx2 : Loc X.env.scope x) (S : CScope X scope T F js) (hc : X.calm = true)
    (hi : PI X tg iter wi) (hg : ∀ C s H ex pins, PG (compCx X scope (T ++ F) C s H ex pins) tg g) (hif : ∀ C s H ex pins, PIf (compCx X scope (T ++ F) C s H ex pins) ifs ti) (he : ∀ C s H ex pins, PE (compCx X scope (T ++ F) C s H ex pins) elt te)
    (hsw : swapsWith (.ListComp elt [⟨tg, iter, ifs, 0⟩] scope pos) (some (.Name x pos')) spos.line X.env = pure true := by rfl)
    (hf : X.fn x = true ∨ X.env.scope.names.lookup x = some .local := by first | exact .inl rfl | exact .inr rfl | assumption)
    (hs : ∀ x, foldedSetIterable iter X.env x = pure x := by intro _; rfl) : PS X (.Assign [.Name x pos'] (.ListComp elt [⟨tg, iter, ifs, 0⟩] scope pos) spos) (tAsg (tComp wi g ti te T.length js) (gName i)) := by
  intro pins s σ H D I h
  rw [exec_Assign_Name_used _ _ _ _ hsw]
  refine wpAny_bind (wpAny_standAt (wpAny_bind ?_))
  show wpAny _ X.A (do let _ ← comprehension (.ListComp elt [⟨tg, iter, ifs, 0⟩] scope pos) scope X.env _ (newList []) false (eval iter X.env) (some (assign (.Name x pos') X.env))) _ _ s
  refine wpAny_bind (wpAny_mono (comp_go (use := some (assign (.Name x pos') X.env)) (QQ := fun _ s' => SP X pins D .next s') S hc hi hg hif he I h (fun d C s' H' m hn q fC hinv => ?_) hs) (fun _ s' hq => wpAny_pure (wpAny_pure hq)) fun _ _ e => e)
  have I1 : Inv X pins σ H' s' := hinv s'.heap (Heap.SameBut.refl ..)
  obtain ⟨oC, es, ep, ho, hd, hr⟩ := id hn
  obtain ⟨f0, f1, f2, f3, f4, f5⟩ := fC
  have I2 : Inv X (pins ++ [(C, oC)]) σ H' s' := I1.pins_of fun p hp => (List.mem_append.mp hp).elim (fun z => I1.pin p (List.mem_append_right _ z)) fun z => by
    have e := List.mem_singleton.mp z
    subst e
    exact ⟨ho, f0, f1, f2, fun v z => by rw [hd] at z; cases z⟩
  show wpAny _ X.A (assign (.Name x pos') X.env (.ref d)) _ _ _
  refine wpAny_assign_Name (store_ok (v := .ref d) I2 hN hx1 hx2 rfl (fun s'' I'' => ?_) hf)
  have e2 := (I''.pin (C, oC) (List.mem_append_right _ (List.mem_append_right _ (List.mem_singleton.mpr rfl)))).1
  refine ⟨m, ⟨oC, es, ep, e2, hd, hr⟩, fun h' sb => ?_⟩
  exact ⟨_, H', I''.unpinned.turned (t' := s''.toks) (it := C) (fun b o hb e => sb.extBut b o hb e) f0 f1 f3 f4 f5, q⟩
end
section
variable {g : TG} {ti : TT} {te : TE} {Q : VK} {D : Addr} {σ : St} {H : Hp}
theorem comp_list {K : PySem.W.Frag} {a : Addr} {xs : List V} (Pv : Nat → St → List V → Hp → Prop) (h0 : Pv 0 σ [] (upd H D (.lst []))) (hl : ∀ i σ ys H, i ≤ xs.length → Pv i σ ys H → SqL K H a xs ∧ H D = some (.lst ys))
    (hs : ∀ i x σ ys H, xs[i]? = some x → Pv i σ ys H → cturn g ti te D x σ ys H (Pv (i + 1))) (hd : ∀ σ ys H, Pv xs.length σ ys H → Q (.ref D) H) :
    cgo (Itl K a) g ti te D σ H Q := by
  refine ⟨fun i m σ ys H => m = xs.length - i ∧ i ≤ xs.length ∧ Pv i σ ys H, ⟨xs.length, by simp, Nat.zero_le _, h0⟩, ?_⟩
  rintro i m σ ys H ⟨rfl, hi, p⟩
  obtain ⟨q, hD⟩ := hl i σ ys H hi p
  refine ⟨hD, ?_⟩
  by_cases hlt : i < xs.length
  · refine .inr ⟨⟨xs, xs[i], q, by simp [hlt]⟩, Pv (i + 1), fun σ' ys' H' p' => ⟨xs.length - (i + 1), by omega, rfl, hlt, p'⟩, fun x H' y => ?_⟩
    obtain ⟨e, y⟩ := y
    subst e
    exact (hs i x σ ys _ (y xs q) p)
  · have e : i = xs.length := by omega
    subst e
    exact .inl ⟨⟨xs, q, Nat.le_refl _⟩, hd σ ys H p⟩
theorem comp_tup {K : PySem.W.Frag} {a : Addr} {xs : List V} (Pv : Nat → St → List V → Hp → Prop) (h0 : Pv 0 σ [] (upd H D (.lst []))) (hl : ∀ i σ ys H, i ≤ xs.length → Pv i σ ys H → SqT K H a xs ∧ H D = some (.lst ys))
    (hs : ∀ i x σ ys H, xs[i]? = some x → Pv i σ ys H → cturn g ti te D x σ ys H (Pv (i + 1))) (hd : ∀ σ ys H, Pv xs.length σ ys H → Q (.ref D) H) :
    cgo (Itt K a) g ti te D σ H Q := by
  refine ⟨fun i m σ ys H => m = xs.length - i ∧ i ≤ xs.length ∧ Pv i σ ys H, ⟨xs.length, by simp, Nat.zero_le _, h0⟩, ?_⟩
  rintro i m σ ys H ⟨rfl, hi, p⟩
  obtain ⟨q, hD⟩ := hl i σ ys H hi p
  refine ⟨hD, ?_⟩
  by_cases hlt : i < xs.length
  · refine .inr ⟨⟨xs, xs[i], q, by simp [hlt]⟩, Pv (i + 1), fun σ' ys' H' p' => ⟨xs.length - (i + 1), by omega, rfl, hlt, p'⟩, fun x H' y => ?_⟩
    obtain ⟨e, y⟩ := y
    subst e
    exact (hs i x σ ys _ (y xs q) p)
  · have e : i = xs.length := by omega
    subst e
    exact .inl ⟨⟨xs, q, Nat.le_refl _⟩, hd σ ys H p⟩
theorem comp_range {lo : Int} {n : Nat} (Pv : Nat → St → List V → Hp → Prop) (h0 : Pv 0 σ [] (upd H D (.lst []))) (hl : ∀ i σ ys H, i ≤ n → Pv i σ ys H → H D = some (.lst ys))
    (hs : ∀ i σ ys H, i < n → Pv i σ ys H → cturn g ti te D (.int (lo + i)) σ ys H (Pv (i + 1))) (hd : ∀ σ ys H, Pv n σ ys H → Q (.ref D) H) :
    cgo (Itr lo n) g ti te D σ H Q := by
  refine ⟨fun i m σ ys H => m = n - i ∧ i ≤ n ∧ Pv i σ ys H, ⟨n, by simp, Nat.zero_le _, h0⟩, ?_⟩
  rintro i m σ ys H ⟨rfl, hi, p⟩
  have hD := hl i σ ys H hi p
  refine ⟨hD, ?_⟩
  by_cases hlt : i < n
  · refine .inr ⟨hlt, Pv (i + 1), fun σ' ys' H' p' => ⟨n - (i + 1), by omega, rfl, hlt, p'⟩, fun x H' y => ?_⟩
    obtain ⟨e, y⟩ := y
    subst e y
    exact (hs i σ ys _ hlt p)
  · have e : i = n := by omega
    subst e
    exact .inl ⟨Nat.le_refl _, hd σ ys H p⟩
end
end L2
set_option maxHeartbeats 4000000
namespace L2
open PySem PySem.Spec PyProof.Rows
mutual
inductive Rep (K : PySem.W.Frag) (H : Hp) : V → PyData → Prop
  | non : Rep K H .non .none
  | bl (b : Bool) : Rep K H (.bl b) (.bool b)
  | int (i : Int) : Rep K H (.int i) (.int i)
  | str (x : Str) : Rep K H (.str x) (.str x)
  | lst {a : Addr} {xs : List V} {ds : List PyData} : SqL K H a xs → RepAll K H xs ds → Rep K H (.ref a) (.list ds)
  | tup {a : Addr} {xs : List V} {ds : List PyData} : SqT K H a xs → RepAll K H xs ds → Rep K H (.ref a) (.tuple ds)
inductive RepAll (K : PySem.W.Frag) (H : Hp) : List V → List PyData → Prop
  | nil : RepAll K H [] []
  | cons {x : V} {xs : List V} {d : PyData} {ds : List PyData} : Rep K H x d → RepAll K H xs ds → RepAll K H (x :: xs) (d :: ds)
end
mutual
theorem Rep.reads {X : Cx} {pins : List (Addr × Obj)} {σ : St} {H : Hp} {s : Shared} (I : Inv X pins σ H s) : ∀ {v : V} {d : PyData} {u : Value}, Rep X.K H v d → RelV v u → ∃ as, Reads s.heap u d as
  | _, _, _, .non, r => by cases r; exact ⟨_, .none⟩
  | _, _, _, .bl b, r => by cases r; exact ⟨_, .bool b⟩
  | _, _, _, .int i, r => by obtain ⟨t, rfl⟩ := r; exact ⟨_, .int i t⟩
  | _, _, _, .str x, r => by obtain ⟨t, rfl⟩ := r; exact ⟨_, .str x t⟩
  | _, _, _, .lst hq hx, r => by
    cases r
    obtain ⟨its, rv, hl, hz⟩ := I.list hq
    obtain ⟨as, ra⟩ := RepAll.reads I hx rv
    obtain ⟨o, ho, hc, n, hd⟩ := hl.isList
    exact ⟨_, .list ho hc hd ra⟩
  | _, _, _, .tup hq hx, r => by
    cases r
    obtain ⟨its, rv, hl, hz⟩ := I.tuple hq
    obtain ⟨as, ra⟩ := RepAll.reads I hx rv
    obtain ⟨o, ho, hc, n, hd⟩ := hl
    exact ⟨_, .tuple ho hc hd ra⟩
theorem RepAll.reads {X : Cx} {pins : List (Addr × Obj)} {σ : St} {H : Hp} {s : Shared} (I : Inv X pins σ H s) : ∀ {xs : List V} {ds : List PyData} {us : List Value}, RepAll X.K H xs ds → Vals xs us → ∃ as, ReadsAll s.heap us ds as
  | _, _, _, .nil, .nil => ⟨_, .nil⟩
  | _, _, _, .cons h t, .cons r rs => by
    obtain ⟨a, ra⟩ := Rep.reads I h r
    obtain ⟨b, rb⟩ := RepAll.reads I t rs
    exact ⟨_, .cons ra rb⟩
end
section
variable {X : Cx} {a b c e : Expr} {ta tb tc te : TE} {pos p2 : Pos}
theorem call_sum (hc : X.calm = true) : CallR X (.builtin "sum") (fun xs H Q => ∃ (p : Addr) (ns : List Int), xs = [.ref p] ∧ SqL X.K H p (ns.map V.int) ∧ Q (.int ns.sum) H) := by
  intro pins s σ H xs us Q I r h
  obtain ⟨p, ns, rfl, hq, q⟩ := h
  obtain ⟨u, rfl, rx⟩ := vals1 r
  cases rx
  obtain ⟨its, rv, hl, hz⟩ := I.list hq
  have hi := intsAre_of rv
  obtain ⟨ys, e⟩ := hi.allInts.items
  have hl' := hl.isList
  rw [e] at hl'
  refine sum_intListG (I.ok.hd hc) hl' fun h' tk t' hk => ⟨.int ns.sum, H, I.kept hk, ⟨t', ?_⟩, q⟩
  have e2 : ys.toList.map (·.1) = ns := by
    have q2 := nums_intItems ys
    rw [← e] at q2
    rw [← q2]
    exact hi.numsOf
  rw [preSum_eq, e2, List.take_of_length_le (by rw [← e2]; simp)]
def rints (i : Int) (n : Nat) : List Int := (List.range n).map fun (k : Nat) => i + (k : Int)
theorem call_list_rng (hc : X.calm = true) : CallR X (.type "list") (fun xs H Q => ∃ (p : Addr) (i j : Int), xs = [.ref p] ∧ H p = some (.rng i j) ∧ (-(2 ^ 62) ≤ i ∧ i < 2 ^ 62 ∧ -(2 ^ 62) ≤ j ∧ j < 2 ^ 62) ∧ j - i ≤ 1000000 ∧ ∀ l, H l = none → Q (.ref l) (upd H l (.lst ((rints i (j - i).toNat).map V.int)))) := by
  intro pins s σ H xs us Q I r h
  obtain ⟨p, i, j, rfl, hp, ⟨b1, b2, b3, b4⟩, hj, q⟩ := h
  obtain ⟨u, rfl, rx⟩ := vals1 r
  cases rx
  obtain ⟨t, u, v, ho⟩ := (show ObjOk X.prog X.w H s.heap p (.rng i j) from I.hok p _ hp)
  refine call_list_range (n := (j - i).toNat) (I.ok.hd hc) (show IsRange s.heap p i j 1 t u v from ho) (small_one b1 b2 b3 b4) (by rw [rangeSize_one]; split <;> omega) (by omega) fun h' tk acc c' hk hS hacc => ?_
  have len : acc.toList.length = (j - i).toNat := by simpa using hacc.1
  refine ⟨.ref s.heap.objs.size, _, I.laid (o := .lst ((rints i (j - i).toNat).map V.int)) hk (Nat.le_refl _) ⟨?_, acc.toList, c', ?_, by simpa using hS⟩, rfl, q _ I.fresh⟩
  · simp [rints, sizeLine_eq]; exact Int.le_trans (by assumption) (by decide)
  · have key : ∀ (l : List Value) (k : Nat) (i : Int), (∀ (n : Nat) (x : Value), l[n]? = some x → ∃ t, x = .int (i + n) t) → l.length = k → Vals ((rints i k).map V.int) l := by
      intro l
      induction l with
      | nil => intro k i _ e; cases e; exact .nil
      | cons x l ih =>
        intro k i h e
        cases k with
        | zero => cases e
        | succ k =>
          have h0 := h 0 x rfl
          have e1 : rints i (k + 1) = i :: rints (i + 1) k := by
            simp only [rints, List.range_succ_eq_map, List.map_cons, List.map_map]
            refine congr (congrArg List.cons (by simp)) (List.map_congr_left fun a _ => ?_)
            simp only [Function.comp]; omega
          rw [e1]
          refine .cons (by obtain ⟨t, q⟩ := h0; exact ⟨t, by simpa using q⟩) (ih k (i + 1) (fun n y hy => ?_) (by simpa using e))
          obtain ⟨t, q⟩ := h (n + 1) y (by simpa using hy)
          exact ⟨t, by rw [q]; congr 1; omega⟩
    refine key acc.toList _ i (fun n x hx => ?_) len
    obtain ⟨t, q⟩ := hacc.2 n x (by simpa using hx)
    exact ⟨t, by rw [q, Int.mul_one]⟩
inductive RCatTTP (K : PySem.W.Frag) (x : V) (y : V) (H : Hp) (Q : VK) : Prop
  | mk (a b : Addr) (xs ys : List V) : (x = .ref a) → (y = .ref b) → (SqT K H a xs) → (SqT K H b ys) → (xs.length + ys.length ≤ sizeLine) → ((xs = [] → Q (.ref b) H)) → ((xs ≠ [] → ys = [] → Q (.ref a) H)) → ((xs ≠ [] → ys ≠ [] → ∀ p, H p = none → Q (.ref p) (upd H p (.tup (xs ++ ys))))) → RCatTTP K x y H Q
def rCatTT (K : PySem.W.Frag) : R2 := fun x y H Q => RCatTTP K x y H Q
theorem op_catTT : OpR X (binaryOp .Add) (rCatTT X.K) := by
  intro pins s σ H x y u v Q I rx ry h
  obtain ⟨p, q, xs, ys, rfl, rfl, hx, hy, hz, h1, h2, h3⟩ := h
  cases rx; cases ry
  obtain ⟨its, r1, t1, z1⟩ := I.tuple hx
  obtain ⟨its2, r2, t2, z2⟩ := I.tuple hy
  have l1 := r1.length
  have l2 := r2.length
  by_cases e : xs = []
  · subst e
    have ei : its = [] := by cases its with | nil => rfl | cons _ _ => cases l1
    subst ei
    obtain ⟨⟨cls, dd, data, sl⟩, ho, hc, n, hd⟩ := id t1
    obtain ⟨⟨cls2, dd2, data2, sl2⟩, ho2, hc2, n2, hd2⟩ := id t2
    simp only at hc hd hc2 hd2
    subst hc hd hc2 hd2
    exact PySem.concat_meets ⟨_, ho, rfl⟩ ⟨_, ho2, rfl⟩ noFill_tuple_add seq_tuple_add PySem.F.slot_tuple_add PySem.F.entry_tuple_add (PySem.F.args_tuple_add_2 _ _)
      (tuple_addW0 p q _ _ n n2 dd dd2 sl sl2 (by rfl)) ⟨ho, ho2, ⟨.ref q, H, I, rfl, h1 rfl⟩⟩
  · refine HT.cat_tup t1 t2 (fun z => e ((Vals.nil_iff r1).mp z)) (fun z => ⟨.ref p, H, I, rfl, h2 e ((Vals.nil_iff r2).mp z)⟩) (fun z => ?_) (by omega)
    exact ⟨.ref s.heap.objs.size, _, I.laid (t' := s.toks) (o := .tup (xs ++ ys)) (fun b ob q => Heap.get?_push_of_some _ q) (Nat.le_refl _) ⟨by simpa using hz, its ++ its2, r1.append r2, IsTupN.new _ _⟩, rfl, h3 e (fun z' => z ((Vals.nil_iff r2).mpr z')) _ I.fresh⟩
end
section
variable {prog : Program} {w : World} {A : Around} {E : Value → Shared → Prop}
variable {s : Shared}
end
end L2
set_option maxHeartbeats 4000000
namespace L2
open PySem PySem.Spec PyProof.Rows
section
variable {X : Cx} {a b c e : Expr} {ta tb tc te : TE} {pos p2 : Pos}
inductive RSlSP (x : V) (lo : Option Int) (hi : Option Int) (H : Hp) (Q : VK) : Prop
  | mk (z : _) : (x = .str z) → (z.length ≤ sizeLine) → (Q (.str (Txt.slice z lo hi)) H) → RSlSP x lo hi H Q
def rSlS : V → Option Int → Option Int → Hp → VK → Prop := fun x lo hi H Q => RSlSP x lo hi H Q
theorem sl_str : SlR X rSlS := by
  intro pins s σ H x v vl vu lo hi sl Q I rx hs pl pu h
  obtain ⟨z, rfl, hz, q⟩ := h
  obtain ⟨t, rfl⟩ := rx
  refine ⟨"str", _, PySem.F.slot_str_getitem.lookup, typeIs_str _ _ _, ?_⟩
  have fin : ∀ t' k, EP X pins σ Q (.str (Txt.slice z lo hi) t') { s with toks := k } := fun t' k => ⟨.str _, H, I.tok k, ⟨t', rfl⟩, q⟩
  cases pl with
  | none =>
    cases pu with
    | none => exact wpAny_getItem_str_slice (l := none) (u := none) (st := none) hs rfl (post_val_or_str ⟨Nat.le_trans (Txt.slice_le z _ _) hz, fin⟩)
    | int j tj => exact wpAny_getItem_str_slice (l := none) (u := some (j, tj)) (st := none) hs rfl (post_val_or_str ⟨Nat.le_trans (Txt.slice_le z _ _) hz, fin⟩)
  | int i ti =>
    cases pu with
    | none => exact wpAny_getItem_str_slice (l := some (i, ti)) (u := none) (st := none) hs rfl (post_val_or_str ⟨Nat.le_trans (Txt.slice_le z _ _) hz, fin⟩)
    | int j tj => exact wpAny_getItem_str_slice (l := some (i, ti)) (u := some (j, tj)) (st := none) hs rfl (post_val_or_str ⟨Nat.le_trans (Txt.slice_le z _ _) hz, fin⟩)
theorem strsAre_of : ∀ {ys : List Str} {us : List Value}, Vals (ys.map V.str) us → StrsAre us ys
  | [], _, .nil => .nil
  | y :: ys, _, .cons h t => by
    obtain ⟨u, rfl⟩ := h
    exact .cons y u (strsAre_of t)
inductive RJoinP (K : PySem.W.Frag) (x : V) (vs : List V) (H : Hp) (Q : VK) : Prop
  | mk (z : Str) (l : Addr) (ys : List Str) : (x = .str z) → (vs = [.ref l]) → (SqL K H l (ys.map V.str)) → ((ys.map (·.length)).sum + ys.length * z.length ≤ 16777216) → (Q (.str (Txt.join z ys)) H) → RJoinP K x vs H Q
def rJoin (K : PySem.W.Frag) : V → List V → Hp → VK → Prop := fun x vs H Q => RJoinP K x vs H Q
theorem mt_join : MtM X "str.join" (rJoin X.K) := by
  intro pins s σ H x xs v us Q I rx r h
  obtain ⟨z, l, ys, rfl, rfl, hl, hz, q⟩ := h
  obtain ⟨t, rfl⟩ := rx
  obtain ⟨u, rfl, ru⟩ := vals1 r
  cases ru
  obtain ⟨its, rv, hp, _⟩ := I.list hl
  exact join_list hp.isList (strsAre_of rv) hz fun t' k => ⟨.str _, H, I.tok k, ⟨t', rfl⟩, q⟩
end
def relab (scope osc : Scope) : Scope := { scope with names := scope.names.map fun (n, k) => if (k == .free && osc.kind == .function && osc.names.lookup n == some .cell) then (n, .cell) else (n, k) }
structure CS (osc scope : Scope) (T F : List Str) : Prop where
  kind : scope.kind = .function
  nocell : ∀ y ∈ scope.names, y.2 ≠ .cell
  names : ∀ x ∈ scope.names, x.2 = .local → scope.names.lookup x.1 = some .local
  free : ∀ x ∈ scope.names, x.2 = .free → osc.names.lookup x.1 = some .cell
  loc : ∀ y ∈ T, (relab scope osc).names.lookup y = some .local
  cel : ∀ y ∈ F, (relab scope osc).names.lookup y = some .cell ∧ osc.names.lookup y = some .cell ∧ (y, NameKind.free) ∈ scope.names
  all : ∀ x ∈ (relab scope osc).names, (x.2 = .cell ∨ x.2 = .free) → (x.1, NameKind.free) ∈ scope.names
theorem CS.to {X : Cx} {scope osc : Scope} {T F : List Str} {js : List Nat} (h : CS osc scope T F) (hj : js.map (fun j => X.N[j]?) = F.map some) (ho : X.env.scope = osc) : CScope X scope T F js := by
  subst ho
  exact ⟨h.kind, h.nocell, h.names, h.free, h.loc, h.cel, h.all, hj⟩
theorem PSs.imp' {X : Cx} {st : List PySem.Stmt} {t t' : TS} (h : PSs X st t) (f : ∀ D σ H, t' D σ H → t D σ H) : PSs X st t' := fun pins s σ H D I h' => h pins s σ H D I (f D σ H h')
end L2
set_option maxHeartbeats 4000000
namespace L2
open PySem PySem.Spec PyProof.Rows
section
variable {X : Cx} {pins : List (Addr × Obj)} {σ : St} {H : Hp} {s : Shared}
theorem Inv.turnedL {t' : Nat} {h' : Heap} (ch : List Addr) (I : Inv X pins σ H s) (k : ∀ b o, b ∉ ch → s.heap.get? b = some o → h'.get? b = some o) (hf : ∀ b ∈ ch, FpOk X pins H b) : Inv X pins σ H { s with heap := h', toks := t' } := by
  have out : ∀ b u, H b = some u → b ∉ ch := fun b u e z => by rw [(hf b z).1] at e; cases e
  have outL : X.env.locals ∉ ch := fun z => (hf _ z).2.1 rfl
  refine I.step (g' := s.gens) (d' := s.drawn) (ch := ch) (fun b hb => ⟨(hf b hb).2.2.2.1, (hf b hb).2.1, (hf b hb).2.2.2.2.1, (hf b hb).2.2.2.2.2⟩) (fun b o _ _ hc e _ => k b o hc e) (fun b o _ _ hc e _ => ⟨o.slots, k b o hc e⟩)
    (fun _ _ _ _ n => n) (fun b o hc e => ⟨o, k b o hc e⟩) (fun _ _ e => e) (fun _ _ _ e => e) (fun b ps e => ⟨#[], by rw [e]; simp⟩) (fun m hm => ?_) (fun b u e => ?_) I.bare
  · obtain ⟨o, es, ep, ho, r⟩ := hm
    exact ⟨o, es, ep, k _ o outL ho, r⟩
  · refine (I.hok b u e).stay (fun c v hc q => k c v ?_ q) (fun _ q => q) fun _ _ q => q
    rcases hc with z | z
    · rw [z]; exact out b u e
    · exact out c _ z
theorem FpOk.up {b T : Addr} {o : HO} (h : FpOk X pins H b) (n : b ≠ T) : FpOk X pins (upd H T o) b := ⟨by rw [upd_ne n]; exact h.1, h.2⟩
end
def Ite (K : PySem.W.Frag) (a : Addr) : It :=
  ⟨fun i H => ∃ xs x, SqL K H a xs ∧ xs[i]? = some x, fun i H v H' => ∃ T x, H T = none ∧ v = .ref T ∧ H' = upd H T (.tup [.int i, x]) ∧ ∀ xs, SqL K H a xs → xs[i]? = some x, fun i H => ∃ xs, SqL K H a xs ∧ xs.length ≤ i⟩
theorem turn_enum {P : Program} {w : World} {K : PySem.W.Frag} {elts : List Expr} {x1} {pos : Pos} (a e it : Addr) (hei : e ≠ it) : Turn P w K (.Tuple elts x1 pos) (Ite K a) [e, it] e (fun i h => (∃ old, IsEnum h e it i old) ∧ h.IsListIter it a i) where
  mem := by simp
  obj := fun i h st b hb => by
    obtain ⟨⟨old, he⟩, o, ho, hc, hd⟩ := st
    rcases List.mem_cons.mp hb with rfl | hb
    · exact ⟨_, he, fun v z => by cases z⟩
    · have : b = it := by simpa using hb
      subst this
      exact ⟨o, ho, fun v z => by rw [hd] at z; cases z⟩
  keep := fun i h h' st k => ⟨let ⟨old, he⟩ := st.1; ⟨old, k e (by simp) _ he⟩, st.2.at fun o q => k it (by simp) o q⟩
  item := by
    intro X hP hw hK hc i pins s σ H E I hf st hg
    subst hP hw hK
    obtain ⟨⟨old, he⟩, hit⟩ := st
    obtain ⟨xs, x, hq, hx⟩ := hg
    obtain ⟨its, rv, p, hz⟩ := I.list hq
    obtain ⟨u, hu, ru⟩ := rv.get hx
    have fresh : H s.heap.objs.size = none := I.hok.fresh (Nat.le_refl _)
    have elt : e < s.heap.objs.size := Heap.lt_size he
    have ilt : it < s.heap.objs.size := by obtain ⟨_, q, _⟩ := hit; exact Heap.lt_size q
    refine wpAny_pyNext_enum_item he hit p.isList (x := u) (by simpa using hu) hei fun h' eo it' hT hsz kk => ⟨_, rfl, ?_⟩
    refine wpAny_letOwnedTupleGo_enum (s := { s with heap := h', toks := s.toks + 1 }) eo fun h2 e2 sb => ?_
    have I1 : Inv X pins σ (upd H s.heap.objs.size (.tup [.int i, x])) { s with heap := s.heap.push { cls := .type "tuple", data := .seq #[.int i s.toks, u] }, toks := s.toks } :=
      I.laid (o := .tup [.int i, x]) (fun b ob q => Heap.get?_push_of_some _ q) (Nat.le_refl _) ⟨by rw [sizeLine_eq]; simp, [.int i s.toks, u], .cons ⟨_, rfl⟩ (.cons ru .nil), IsTupN.new _ _⟩
    have I2 := I1.turnedL (h' := h2) (t' := s.toks + 1) [e, it] (fun b o hb q => ?_) (fun b hb => ?_)
    · refine ⟨.ref s.heap.objs.size, _, I2, rfl, ⟨_, x, fresh, rfl, rfl, fun ys hy => by rw [I.list_inj hy hq]; exact hx⟩, ⟨⟨_, by simpa using e2⟩, it'.at fun o q => (sb.2 it hei.symm).trans q⟩, fun b hb => ?_⟩
      rcases List.mem_cons.mp hb with rfl | hb
      · rw [upd_ne (Nat.ne_of_lt elt)]; exact (hf _ (by simp)).1
      · have : b = it := by simpa using hb
        subst this
        rw [upd_ne (Nat.ne_of_lt ilt)]; exact (hf _ (by simp)).1
    · have b1 : b ≠ e := fun z => hb (by simp [z])
      have b2 : b ≠ it := fun z => hb (by simp [z])
      refine (sb.2 b b1).trans ?_
      by_cases hbs : b = s.heap.objs.size
      · subst hbs
        rw [Heap.get?_push_size _ rfl] at q
        cases q
        exact hT
      · rw [Heap.get?_push_ne _ _ _ hbs] at q
        exact kk b o b1 b2 q
    · rcases List.mem_cons.mp hb with rfl | hb
      · exact (hf _ (by simp)).up (Nat.ne_of_lt elt)
      · have : b = it := by simpa using hb
        subst this
        exact (hf _ (by simp)).up (Nat.ne_of_lt ilt)
  done := by
    intro X hP hw hK hc i pins s σ H E I hf st hg
    subst hP hw hK
    obtain ⟨⟨old, he⟩, hit⟩ := st
    obtain ⟨xs, hq, hx⟩ := hg
    obtain ⟨its, rv, p, hz⟩ := I.list hq
    have hl := rv.length
    exact wpAny_pyNext_enum_end (I.ok.hd hc) he hit p.isList (by simp; omega) fun h' eb => ⟨rfl, I.turnedL (t' := s.toks) [e, it] (fun b o hb q => eb b o (fun z => hb (by simp [z])) q) hf⟩
  self := fun A i s Q E st h => let ⟨⟨old, he⟩, _⟩ := st; wpAny_pyIter_enum he h
def iEnum (K : PySem.W.Frag) (ta : TA) : TI := fun σ H R => ta σ H fun vs H1 => ∃ a xs, vs = [.ref a] ∧ SqL K H1 a xs ∧ R (Ite K a) H1
theorem pi_enumL {X : Cx} {elts : List Expr} {x1} {tpos : Pos} {a : Expr} {ta : TA} {p pos : Pos} (hg : Gl X "enumerate") (hm : X.mg "enumerate" = none) (ha : PA X [a] ta) (hs : starEach [a] X.env = [(false, eval a X.env)] := by rfl) :
    PI X (.Tuple elts x1 tpos) (.Call (.Name "enumerate" p) [a] [] pos) (iEnum X.K ta) := by
  intro pins s σ H R I h
  refine Call_ (ld_blt I hg hm (show bootBuiltins "enumerate" = some (.type "enumerate") by decide +kernel) (PyProof.Rows.callWith_type1 (thn (ha pos pins s σ H _ I h) fun us s1 ⟨vs, H1, I1, r1, q1⟩ => ?_) hs rfl))
  obtain ⟨l, xs, e, hq, q⟩ := q1
  subst e
  obtain ⟨u, rfl, ru⟩ := vals1 r1
  cases ru
  obtain ⟨its, rv, pl, hz⟩ := I1.list hq
  refine call_enumerate_list pl.isList fun h' he hit hsz kk => wpAny_pyIter_enum he ?_
  refine ⟨s1.heap.objs.size + 1, [s1.heap.objs.size + 1, s1.heap.objs.size], _, _, H1, rfl, I1.kept (t' := s1.toks) kk, turn_enum l _ _ (Nat.succ_ne_self _), ⟨⟨_, he⟩, hit⟩, fun b hb => ?_, q⟩
  have hb : s1.heap.objs.size ≤ b := by
    rcases List.mem_cons.mp hb with rfl | hb
    · exact Nat.le_succ _
    · have : b = s1.heap.objs.size := by simpa using hb
      exact Nat.le_of_eq this.symm
  exact I1.fpOk hb (I1.hok.fresh hb)
section
variable {g : TG} {ti : TT} {te : TE} {Q : VK} {D : Addr} {σ : St} {H : Hp}
theorem for_enum {K : PySem.W.Frag} {a : Addr} {xs : List V} {g : TG} {tb : TS} {D : Ends} {σ : St} {H : Hp} (Pv : Nat → St → Hp → Prop) (h0 : Pv 0 σ H) (hl : ∀ i σ H, i ≤ xs.length → Pv i σ H → SqL K H a xs)
    (hs : ∀ i x σ H T, xs[i]? = some x → Pv i σ H → H T = none → g (.ref T) σ (upd H T (.tup [.int (i : Nat), x])) fun σ2 H2 => tb { D with nx := Pv (i + 1), ct := Pv (i + 1), bk := D.nx } σ2 H2) (hd : ∀ σ H, Pv xs.length σ H → D.nx σ H) :
    ∃ W : Nat → Nat → St → Hp → Prop, (∃ m, W 0 m σ H) ∧ ∀ i m σ H, W i m σ H →
      ((Ite K a).stop i H ∧ D.nx σ H) ∨ ((Ite K a).go i H ∧ ∃ N : St → Hp → Prop, (∀ σ' H', N σ' H' → ∃ m', m' < m ∧ W (i + 1) m' σ' H') ∧ ∀ x H', (Ite K a).yld i H x H' → g x σ H' fun σ2 H2 => tb { D with nx := N, ct := N, bk := D.nx } σ2 H2) := by
  refine ⟨fun i m σ H => m = xs.length - i ∧ i ≤ xs.length ∧ Pv i σ H, ⟨xs.length, by simp, Nat.zero_le _, h0⟩, ?_⟩
  rintro i m σ H ⟨rfl, hi, p⟩
  have q := hl i σ H hi p
  by_cases hlt : i < xs.length
  · refine .inr ⟨⟨xs, xs[i], q, by simp [hlt]⟩, Pv (i + 1), fun σ' H' p' => ⟨xs.length - (i + 1), by omega, rfl, hlt, p'⟩, fun x H' y => ?_⟩
    obtain ⟨T, z, hT, rfl, rfl, y⟩ := y
    exact hs i z σ H T (y xs q) p hT
  · have e : i = xs.length := by omega
    subst e
    exact .inl ⟨⟨xs, q, Nat.le_refl _⟩, hd σ H p⟩
end
end L2
set_option maxHeartbeats 4000000
namespace PySem
open Builtin
end PySem
namespace PySem
open Builtin
end PySem
namespace PySem
open Builtin
end PySem
namespace L2
open PySem PySem.Spec PyProof.Rows
end L2
set_option maxHeartbeats 4000000
namespace HT
open PySem PyProof.Rows
end HT
namespace L2
open PySem PySem.Spec PyProof.Rows
theorem op_eqNil {X : Cx} (hu : X.A.units + 64 < cLine) : OpR X (compareOp .Eq) (fun x y H Q => ∃ (a b : Addr) (xs : List V), x = .ref a ∧ y = .ref b ∧ SqL X.K H a xs ∧ SqL X.K H b [] ∧ Q (.bl xs.isEmpty) H) := by
  intro pins s σ H x y u v Q I rx ry h
  obtain ⟨a, b, xs, rfl, rfl, ha, hb, q⟩ := h
  cases rx
  cases ry
  cases xs with
  | nil =>
    obtain ⟨as, r1⟩ := Rep.reads (u := .ref a) I (Rep.lst ha .nil) rfl
    obtain ⟨bs, r2⟩ := Rep.reads (u := .ref b) I (Rep.lst hb .nil) rfl
    exact SeqAt.compareEq_reads r1 r2 rfl rfl (by simp only [PyData.depth, PyData.depthAll]; omega) ⟨.bl _, H, I, rfl, q⟩
  | cons x xs =>
    obtain ⟨its, r1, h1, _⟩ := I.list ha
    obtain ⟨its2, r2, h2, _⟩ := I.list hb
    have l1 := r1.length
    have l2 := r2.length
    refine SeqAt.eq_list_lengthsAt h1.isList h2.isList (by simp at l1 l2 ⊢; omega) (by omega) ⟨.bl _, H, I, rfl, q⟩
theorem same_new {H : Hp} {p : Addr} {o : HO} (h : H p = none) : Same H (upd H p o) := fun b u e => by rw [upd_ne (ne_of_none e h)]; exact e
theorem same_refl (H : Hp) : Same H H := fun _ _ e => e
theorem small {n : Nat} (h : n ≤ 10000) : n ≤ sizeLine := by rw [sizeLine_eq]; exact Nat.le_trans (by assumption) (by decide)
theorem none_of {H H' : Hp} {a : Addr} (s : Same H H') (h : H' a = none) : H a = none := by
  cases e : H a with
  | none => rfl
  | some o => rw [s _ _ e] at h; cases h
theorem pg_tupK {X : Cx} {es : List Expr} {k : Nat} {t : TGs} {pos : Pos} (K : PySem.W.Frag) (n : Nat) (hK : X.K = K) (hc : X.calm = true) (h : PGs X es t) (hn : (assignEach es X.env).length = n := by rfl) (hst : (assignEach es X.env).findIdx? (·.1) = none := by rfl) : PG X (.Tuple es k pos) (gTup K n t) := by
  subst hK
  exact pg_tup hc h hn hst
end L2
set_option maxHeartbeats 4000000
namespace PySem
open Builtin
end PySem
namespace PySem
open Builtin
end PySem
namespace L2
open PySem PySem.Spec PyProof.Rows
section
variable {X : Cx}
theorem call_range1 : CallR X (.type "range") (fun xs H Q => ∃ j : Int, xs = [.int j] ∧ ∀ l, H l = none → Q (.ref l) (upd H l (.rng 0 j))) := by
  intro pins s σ H xs us Q I r h
  obtain ⟨j, rfl, q⟩ := h
  obtain ⟨u, rfl, ⟨t, rfl⟩⟩ := vals1 r
  exact call_range_1 ⟨.ref s.heap.objs.size, _, I.laid (o := .rng 0 j) (fun _ _ q => Heap.get?_push_of_some _ q) (Nat.le_refl _) ⟨_, _, _, Heap.get?_push_size _ rfl⟩, rfl, q _ I.fresh⟩
end
end L2
set_option maxHeartbeats 4000000
namespace PySem
open Builtin
end PySem
namespace L2
open PySem PySem.Spec PyProof.Rows
end L2
namespace PySem
open Builtin
end PySem
namespace L2
open PySem PySem.Spec PyProof.Rows
end L2
set_option maxHeartbeats 1000000
namespace Srt
open PySem PySem.W PyProof.Rows
structure Ord (lt : Nat → Nat → Bool) : Prop where
  asym : ∀ a b, lt a b = true → lt b a = false
  ntr : ∀ a b c, lt a b = false → lt b c = false → lt a c = false
def ev {α : Type} (lt : Nat → Nat → Bool) : KasT α → α
  | .ret a => a
  | .ask i j k => ev lt (k (lt i j))
theorem ev_bind {α β : Type} (lt : Nat → Nat → Bool) (f : α → KasT β) : ∀ t : KasT α, ev lt (t.bind f) = ev lt (f (ev lt t))
  | .ret _ => rfl
  | .ask i j k => ev_bind lt f (k (lt i j))
def AsksP {α : Type} (n : Nat) (P : α → Prop) : KasT α → Prop
  | .ret a => P a
  | .ask i j k => i < n ∧ j < n ∧ ∀ b, AsksP n P (k b)
theorem AsksP.bind {α β : Type} {n : Nat} {P : α → Prop} {R : β → Prop} {f : α → KasT β} (hf : ∀ a, P a → AsksP n R (f a)) : ∀ {t : KasT α}, AsksP n P t → AsksP n R (t.bind f)
  | .ret a, h => hf a h
  | .ask i j k, h => ⟨h.1, h.2.1, fun b => AsksP.bind hf (h.2.2 b)⟩
theorem AsksP.ev {α : Type} {n : Nat} {P : α → Prop} (lt : Nat → Nat → Bool) : ∀ {t : KasT α}, AsksP n P t → P (Srt.ev lt t)
  | .ret _, h => h
  | .ask i j k, h => AsksP.ev (n := n) (P := P) lt (t := k (lt i j)) (h.2.2 (lt i j))
theorem AsksP.wp {α : Type} {n : Nat} {P : α → Prop} {cmp : Nat → Nat → (Bool → Shared → Prop) → Shared → Prop} {lt : Nat → Nat → Bool} {s : Shared} (hc : ∀ i j (C : Bool → Shared → Prop), i < n → j < n → C (lt i j) s → cmp i j C s) {Q : α → Shared → Prop} : ∀ {t : KasT α}, AsksP n P t → Q (Srt.ev lt t) s → t.kasWp cmp Q s
  | .ret _, _, q => q
  | .ask i j k, h, q => hc i j _ h.1 h.2.1 (AsksP.wp hc (h.2.2 (lt i j)) q)
abbrev g (p : Array Nat) (k : Nat) : Nat := p.getD k 0
theorem g_eq (p : Array Nat) (k : Nat) : g p k = (p[k]?).getD 0 := by
  show p.getD k 0 = _
  simp [Array.getD_eq_getD_getElem?]
theorem g_rev {p : Array Nat} {i j : Nat} (hj : j ≤ p.size) (k : Nat) : g (kas_rev p i j) k = if i ≤ k ∧ k < j then g p (i + j - 1 - k) else g p k := by
  rw [g_eq]
  unfold kas_rev
  rw [getElem?_mirror_all hj]
  split <;> rw [g_eq]
theorem g_bub {p : Array Nat} {src d : Nat} (hs : src < p.size) (hd : d ≤ src) (k : Nat) : g (bubble p src d) k = if k = src - d then g p src else if src - d < k ∧ k ≤ src then g p (k - 1) else g p k := by
  rw [g_eq, getElem?_bubble hs d hd, g_eq, g_eq, g_eq]
  split
  · rfl
  · split <;> rfl
theorem rev_size (p : Array Nat) (i j : Nat) : (kas_rev p i j).size = p.size := mirror_size _ _ _ _
theorem rev_perm (p : Array Nat) (i j : Nat) : (kas_rev p i j).Perm p := mirror_perm _ _ _ _
def Pm (n : Nat) (p : Array Nat) : Prop := p.Perm (List.range n).toArray
theorem Pm.size {n : Nat} {p : Array Nat} (h : Pm n p) : p.size = n := by
  have := Array.Perm.size_eq h
  simpa using this
theorem Pm.lt {n : Nat} {p : Array Nat} (h : Pm n p) (h0 : 0 < n) (k : Nat) : g p k < n := by
  rw [g_eq]
  cases e : p[k]? with
  | none => exact h0
  | some x =>
    have hx : x ∈ p := Array.mem_of_getElem? e
    have := (Array.Perm.mem_iff h).mp hx
    simpa using this
section
variable {n : Nat} (h0 : 0 < n)
include h0
theorem asks_asc {p : Array Nat} (h : Pm n p) : ∀ f m, AsksP n (fun _ => True) (kas_asc p f m)
  | 0, _ => trivial
  | f + 1, m => ⟨h.lt h0 _, h.lt h0 _, fun b => by cases b <;> first | exact trivial | exact asks_asc h f (m + 1)⟩
theorem asks_desc : ∀ f {p : Array Nat} (m q : Nat), Pm n p → AsksP n (fun r => Pm n r.1) (kas_desc f p m q)
  | 0, _, _, _, h => h
  | f + 1, p, m, q, h => by
    refine ⟨h.lt h0 _, h.lt h0 _, fun b => ?_⟩
    cases b with
    | true =>
      show AsksP n _ (if q > 0 then _ else _)
      by_cases hq : q > 0
      · rw [if_pos hq]; exact asks_desc f _ _ ((rev_perm _ _ _).trans h)
      · rw [if_neg hq]; exact asks_desc f _ _ h
    | false =>
      refine ⟨h.lt h0 _, h.lt h0 _, fun d => ?_⟩
      cases d with
      | true => exact h
      | false => exact asks_desc f _ _ h
theorem asks_tail3 {p : Array Nat} (m nrem : Nat) (h : Pm n p) : AsksP n (fun r => Pm n r.2) (kas_tail3 m nrem p) := by
  have hr : Pm n (kas_rev p 0 m) := (rev_perm _ _ _).trans h
  refine AsksP.bind (n := n) (P := fun _ => True) (R := fun r : Nat × Array Nat => Pm n r.2) (fun k _ => ?_) (asks_asc h0 hr _ _)
  exact hr
theorem asks_descPart {p : Array Nat} (m nrem : Nat) (h : Pm n p) : AsksP n (fun r => Pm n r.2) (kas_descPart m nrem p) :=
  (asks_desc h0 _ _ _ h).bind fun r hr => by
    by_cases hq : r.2.2 > 0
    · rw [if_pos hq]; exact asks_tail3 h0 _ _ ((rev_perm _ _ _).trans hr)
    · rw [if_neg hq]; exact asks_tail3 h0 _ _ hr
theorem asks_count {p : Array Nat} (nrem : Nat) (h : Pm n p) : AsksP n (fun r => Pm n r.2) (kas_count nrem p) :=
  (asks_asc h0 h _ _).bind fun m _ => by
    by_cases h1 : (m == nrem) = true
    · rw [if_pos h1]; exact h
    · rw [if_neg h1]
      by_cases h2 : m > 1
      · rw [if_pos h2]
        refine ⟨h.lt h0 _, h.lt h0 _, fun c => ?_⟩
        cases c with
        | true => exact h
        | false => exact asks_descPart h0 _ _ ((rev_perm _ _ _).trans h)
      · rw [if_neg h2]; exact asks_descPart h0 _ _ h
theorem asks_place {p : Array Nat} (k : Nat) (h : Pm n p) : ∀ f l r, AsksP n (fun _ => True) (kas_place p k f l r)
  | 0, _, _ => trivial
  | f + 1, l, r => by
    show AsksP n _ (if l ≥ r then _ else _)
    by_cases hl : l ≥ r
    · rw [if_pos hl]; trivial
    · rw [if_neg hl]
      refine ⟨h.lt h0 _, h.lt h0 _, fun c => ?_⟩
      cases c with
      | true => exact asks_place k h f _ _
      | false => exact asks_place k h f _ _
theorem asks_bin : ∀ f {p : Array Nat} (k : Nat), Pm n p → AsksP n (Pm n) (kas_bin f p k)
  | 0, _, _, h => h
  | f + 1, p, k, h => (asks_place h0 k h _ _ _).bind fun l _ => asks_bin f (k + 1) ((bubble_perm _ _ _).trans h)
theorem asks_sort : AsksP n (Pm n) (kas_sort n) :=
  (asks_count h0 n (Array.Perm.refl _)).bind fun r hr => by
    by_cases h1 : r.1 < n
    · rw [if_pos h1]; exact asks_bin h0 _ _ hr
    · rw [if_neg h1]; exact hr
end
section
variable {lt : Nat → Nat → Bool} (O : Ord lt)
def Sto (lt : Nat → Nat → Bool) (p : Array Nat) (k : Nat) : Prop := ∀ i j, i ≤ j → j < k → lt (g p j) (g p i) = false
def Dto (lt : Nat → Nat → Bool) (p : Array Nat) (k : Nat) : Prop := ∀ i j, i ≤ j → j < k → lt (g p i) (g p j) = false
def Eqv (lt : Nat → Nat → Bool) (a b : Nat) : Prop := lt a b = false ∧ lt b a = false
include O
theorem irr (a : Nat) : lt a a = false := by
  cases h : lt a a with
  | false => rfl
  | true => have := O.asym a a h; rw [h] at this; cases this
theorem ev_asc {p : Array Nat} : ∀ f m, 1 ≤ m → Sto lt p m → m ≤ ev lt (kas_asc p f m) ∧ ev lt (kas_asc p f m) ≤ m + f ∧ Sto lt p (ev lt (kas_asc p f m)) ∧ (ev lt (kas_asc p f m) < m + f → lt (g p (ev lt (kas_asc p f m))) (g p (ev lt (kas_asc p f m) - 1)) = true)
  | 0, m, _, hs => ⟨Nat.le_refl _, Nat.le_refl _, hs, fun h => absurd h (Nat.lt_irrefl _)⟩
  | f + 1, m, h1, hs => by
    show m ≤ ev lt (if lt (g p m) (g p (m - 1)) = true then .ret m else kas_asc p f (m + 1)) ∧ ev lt (if lt (g p m) (g p (m - 1)) = true then .ret m else kas_asc p f (m + 1)) ≤ m + (f + 1) ∧ Sto lt p (ev lt (if lt (g p m) (g p (m - 1)) = true then .ret m else kas_asc p f (m + 1))) ∧ (ev lt (if lt (g p m) (g p (m - 1)) = true then .ret m else kas_asc p f (m + 1)) < m + (f + 1) → lt (g p (ev lt (if lt (g p m) (g p (m - 1)) = true then .ret m else kas_asc p f (m + 1)))) (g p (ev lt (if lt (g p m) (g p (m - 1)) = true then .ret m else kas_asc p f (m + 1)) - 1)) = true)
    by_cases c : lt (g p m) (g p (m - 1)) = true
    · rw [if_pos c]
      exact ⟨Nat.le_refl _, Nat.le_add_right _ _, hs, fun _ => c⟩
    · rw [if_neg c]
      have c : lt (g p m) (g p (m - 1)) = false := by simpa using c
      have hs' : Sto lt p (m + 1) := fun i j hij hj => by
        by_cases e : j = m
        · subst e
          by_cases e2 : i = j
          · subst e2; exact irr O _
          · exact O.ntr _ _ _ c (hs i (j - 1) (by omega) (by exact Nat.sub_lt (by assumption) (by decide)))
        · exact hs i j hij (by omega)
      obtain ⟨a, b, d, e⟩ := ev_asc f (m + 1) (by exact Nat.lt_succ_of_lt (by assumption)) hs'
      exact ⟨by exact Nat.le_of_lt (by assumption), by omega, d, fun h => e (by omega)⟩
theorem Dto.eqv {p p1 : Array Nat} {k : Nat} (h : Dto lt p k) (he : ∀ i, i < k → Eqv lt (g p1 i) (g p i)) : Dto lt p1 k := fun i j hij hj =>
  O.ntr _ _ _ (he i (by exact Nat.lt_of_le_of_lt (by assumption) (by assumption))).1 (O.ntr _ _ _ (h i j hij hj) (he j hj).2)
def Blk (lt : Nat → Nat → Bool) (p : Array Nat) (m q : Nat) : Prop := q + 1 ≤ m ∧ ∀ i j, m - (q + 1) ≤ i → i < m → m - (q + 1) ≤ j → j < m → Eqv lt (g p i) (g p j)
theorem rev_blk {p : Array Nat} {m q : Nat} (hm : m ≤ p.size) (hb : Blk lt p m q) : ∀ i, Eqv lt (g (kas_rev p (m - (q + 1)) m) i) (g p i) := fun i => by
  have h1 := hb.1
  rw [g_rev hm]
  split
  · exact hb.2 _ _ (by omega) (by omega) (by omega) (by omega)
  · exact ⟨irr O _, irr O _⟩
theorem ev_desc : ∀ f {p : Array Nat} (m q : Nat), 1 ≤ m → m + f ≤ p.size → Dto lt p m → Blk lt p m q →
    let r := ev lt (kas_desc f p m q); m ≤ r.2.1 ∧ r.2.1 ≤ m + f ∧ r.1.size = p.size ∧ Dto lt r.1 r.2.1 ∧ Blk lt r.1 r.2.1 r.2.2
  | 0, p, m, q, _, _, hd, hb => ⟨Nat.le_refl _, Nat.le_refl _, rfl, hd, hb⟩
  | f + 1, p, m, q, h1, hz, hd, hb => by
    intro r
    have b1 := hb.1
    have single : ∀ (p' : Array Nat), Blk lt p' (m + 1) 0 := fun p' => ⟨by exact Nat.lt_succ_of_lt (by assumption), fun i j a b c d => by
      have : i = j := by omega
      subst this; exact ⟨irr O _, irr O _⟩⟩
    have low : lt (g p (m - 1)) (g p m) = false → Dto lt p (m + 1) := fun c i j hij hj => by
      by_cases e : j = m
      · subst e
        by_cases e2 : i = j
        · subst e2; exact irr O _
        · exact O.ntr _ _ _ (hd i (j - 1) (by omega) (by exact Nat.sub_lt (by assumption) (by decide))) c
      · exact hd i j hij (by omega)
    by_cases c : lt (g p m) (g p (m - 1)) = true
    · have cl := low (O.asym _ _ c)
      by_cases hq : q > 0
      · have e : r = ev lt (kas_desc f (kas_rev p (m - (q + 1)) m) (m + 1) 0) := by
          show ev lt (if lt (g p m) (g p (m - 1)) = true then (if q > 0 then _ else _) else _) = _
          rw [if_pos c, if_pos hq]
        obtain ⟨a, b, s, d, k⟩ := ev_desc f (p := kas_rev p (m - (q + 1)) m) (m + 1) 0 (by exact Nat.lt_succ_of_lt (by assumption)) (by rw [rev_size]; omega) (Dto.eqv O cl fun i _ => rev_blk O (by omega) hb i) (single _)
        rw [e]
        exact ⟨by exact Nat.le_of_lt (by assumption), by omega, by rw [s, rev_size], d, k⟩
      · have e : r = ev lt (kas_desc f p (m + 1) 0) := by
          show ev lt (if lt (g p m) (g p (m - 1)) = true then (if q > 0 then _ else _) else _) = _
          rw [if_pos c, if_neg hq]
        obtain ⟨a, b, s, d, k⟩ := ev_desc f (p := p) (m + 1) 0 (by exact Nat.lt_succ_of_lt (by assumption)) (by omega) cl (single _)
        rw [e]
        exact ⟨by exact Nat.le_of_lt (by assumption), by omega, s, d, k⟩
    · have c' : lt (g p m) (g p (m - 1)) = false := by simpa using c
      by_cases d1 : lt (g p (m - 1)) (g p m) = true
      · have e : r = (p, m, q) := by
          show ev lt (if lt (g p m) (g p (m - 1)) = true then _ else KasT.ask _ _ fun d => if d = true then _ else _) = _
          rw [if_neg c]
          show ev lt (if lt (g p (m - 1)) (g p m) = true then KasT.ret (p, m, q) else _) = _
          rw [if_pos d1]
          rfl
        rw [e]
        exact ⟨Nat.le_refl _, Nat.le_add_right _ _, rfl, hd, hb⟩
      · have d' : lt (g p (m - 1)) (g p m) = false := by simpa using d1
        have e : r = ev lt (kas_desc f p (m + 1) (q + 1)) := by
          show ev lt (if lt (g p m) (g p (m - 1)) = true then _ else KasT.ask _ _ fun d => if d = true then _ else _) = _
          rw [if_neg c]
          show ev lt (if lt (g p (m - 1)) (g p m) = true then KasT.ret (p, m, q) else _) = _
          rw [if_neg d1]
        have blk : Blk lt p (m + 1) (q + 1) := ⟨by exact Nat.succ_le_succ (by assumption), fun i j i1 i2 j1 j2 => by
          have to : ∀ k, m - (q + 1) ≤ k → k < m + 1 → Eqv lt (g p k) (g p (m - 1)) := fun k k1 k2 => by
            by_cases z : k = m
            · subst z; exact ⟨c', d'⟩
            · exact hb.2 k (m - 1) k1 (by omega) (by omega) (by exact Nat.sub_lt (by assumption) (by decide))
          have a := to i (by omega) i2
          have b := to j (by omega) j2
          exact ⟨O.ntr _ _ _ a.1 b.2, O.ntr _ _ _ b.1 a.2⟩⟩
        obtain ⟨a, b, s, d, k⟩ := ev_desc f (p := p) (m + 1) (q + 1) (by exact Nat.lt_succ_of_lt (by assumption)) (by omega) (low d') blk
        rw [e]
        exact ⟨by exact Nat.le_of_lt (by assumption), by omega, s, d, k⟩
theorem Dto.rev {p : Array Nat} {m : Nat} (hm : m ≤ p.size) (h : Dto lt p m) : Sto lt (kas_rev p 0 m) m := fun i j hij hj => by
  rw [g_rev hm, g_rev hm, if_pos ⟨by exact Nat.zero_le _, by assumption⟩, if_pos ⟨by exact Nat.zero_le _, by exact Nat.lt_of_le_of_lt (by assumption) (by assumption)⟩]
  exact h _ _ (by omega) (by omega)
theorem ev_tail3 {p : Array Nat} {m nrem : Nat} (h1 : 1 ≤ m) (hn : m ≤ nrem) (hz : nrem ≤ p.size) (h : Dto lt p m) : let r := ev lt (kas_tail3 m nrem p); 1 ≤ r.1 ∧ r.1 ≤ nrem ∧ Sto lt r.2 r.1 := by
  intro r
  have e : r = (ev lt (kas_asc (kas_rev p 0 m) (nrem - m) m), kas_rev p 0 m) := ev_bind lt _ _
  obtain ⟨a, b, c, _⟩ := ev_asc O (p := kas_rev p 0 m) (nrem - m) m h1 (Dto.rev O (by exact Nat.le_trans (by assumption) (by assumption)) h)
  rw [e]
  exact ⟨by show 1 ≤ _; exact Nat.le_trans (by assumption) (by assumption), by show _ ≤ nrem; omega, c⟩
theorem ev_descPart {p : Array Nat} {m nrem : Nat} (hn : m + 1 ≤ nrem) (hz : nrem ≤ p.size) (h : Dto lt p (m + 1)) : let r := ev lt (kas_descPart m nrem p); 1 ≤ r.1 ∧ r.1 ≤ nrem ∧ Sto lt r.2 r.1 := by
  intro r
  have single : Blk lt p (m + 1) 0 := ⟨by omega, fun i j a b c d => by
    have : i = j := by omega
    subst this; exact ⟨irr O _, irr O _⟩⟩
  obtain ⟨a, b, s, d, k⟩ := ev_desc O (nrem - (m + 1)) (p := p) (m + 1) 0 (by omega) (by omega) h single
  have e : r = ev lt (if (ev lt (kas_desc (nrem - (m + 1)) p (m + 1) 0)).2.2 > 0 then kas_tail3 (ev lt (kas_desc (nrem - (m + 1)) p (m + 1) 0)).2.1 nrem (kas_rev (ev lt (kas_desc (nrem - (m + 1)) p (m + 1) 0)).1 ((ev lt (kas_desc (nrem - (m + 1)) p (m + 1) 0)).2.1 - ((ev lt (kas_desc (nrem - (m + 1)) p (m + 1) 0)).2.2 + 1)) (ev lt (kas_desc (nrem - (m + 1)) p (m + 1) 0)).2.1) else kas_tail3 (ev lt (kas_desc (nrem - (m + 1)) p (m + 1) 0)).2.1 nrem (ev lt (kas_desc (nrem - (m + 1)) p (m + 1) 0)).1) := ev_bind lt _ _
  rw [e]
  generalize ev lt (kas_desc (nrem - (m + 1)) p (m + 1) 0) = x at a b s d k
  by_cases hq : x.2.2 > 0
  · rw [if_pos hq]
    exact ev_tail3 O (by omega) (by omega) (by rw [rev_size]; omega) (Dto.eqv O d fun i _ => rev_blk O (by omega) k i)
  · rw [if_neg hq]
    exact ev_tail3 O (by omega) (by omega) (by omega) d
theorem ev_count {p : Array Nat} {nrem : Nat} (h1 : 1 ≤ nrem) (hz : nrem ≤ p.size) : let r := ev lt (kas_count nrem p); 1 ≤ r.1 ∧ r.1 ≤ nrem ∧ Sto lt r.2 r.1 := by
  intro r
  have s1 : Sto lt p 1 := fun i j hij hj => by
    have a : i = 0 := by omega
    have b : j = 0 := by omega
    subst a b; exact irr O _
  obtain ⟨a, b, c, e⟩ := ev_asc O (p := p) (nrem - 1) 1 (Nat.le_refl _) s1
  have er : r = ev lt ((fun n => if (n == nrem) = true then KasT.ret (n, p) else if n > 1 then KasT.ask (p.getD 0 0) (p.getD (n - 1) 0) fun c => if c = true then KasT.ret (n, p) else kas_descPart n nrem (kas_rev p 0 n) else kas_descPart n nrem p) (ev lt (kas_asc p (nrem - 1) 1))) := ev_bind lt _ _
  rw [er]
  generalize ev lt (kas_asc p (nrem - 1) 1) = m at a b c e
  dsimp only
  by_cases h2 : (m == nrem) = true
  · rw [if_pos h2]
    exact ⟨a, by show m ≤ nrem; omega, c⟩
  · rw [if_neg h2]
    have hm : m < nrem := by
      have : m ≠ nrem := by simpa using h2
      omega
    have last := e (by omega)
    by_cases h3 : m > 1
    · rw [if_pos h3]
      show let r := ev lt (if lt (g p 0) (g p (m - 1)) = true then KasT.ret (m, p) else kas_descPart m nrem (kas_rev p 0 m)); 1 ≤ r.1 ∧ r.1 ≤ nrem ∧ Sto lt r.2 r.1
      by_cases h4 : lt (g p 0) (g p (m - 1)) = true
      · rw [if_pos h4]
        exact ⟨a, by show m ≤ nrem; exact Nat.le_of_lt (by assumption), c⟩
      · rw [if_neg h4]
        have h4 : lt (g p 0) (g p (m - 1)) = false := by simpa using h4
        have all : ∀ i j, i < m → j < m → lt (g p i) (g p j) = false := fun i j hi hj => O.ntr _ _ _ (O.ntr _ _ _ (c 0 i (by exact Nat.zero_le _) hi) h4) (c j (m - 1) (by omega) (by exact Nat.sub_lt (by assumption) (by decide)))
        have blk : Blk lt p m (m - 1) := ⟨by exact Nat.sub_lt (by assumption) (by decide), fun i j _ i2 _ j2 => ⟨all i j i2 j2, all j i j2 i2⟩⟩
        have d1 : Dto lt p (m + 1) := fun i j hij hj => by
          by_cases z : j = m
          · subst z
            by_cases z2 : i = j
            · subst z2; exact irr O _
            · exact O.ntr _ _ _ (all i (j - 1) (by omega) (by exact Nat.sub_lt (by assumption) (by decide))) (O.asym _ _ last)
          · exact all i j (by omega) (by omega)
        have rb := rev_blk O (by omega) blk
        rw [show m - (m - 1 + 1) = 0 by omega] at rb
        exact ev_descPart O (by assumption) (by rw [rev_size]; assumption) (Dto.eqv O d1 fun i _ => rb i)
    · rw [if_neg h3]
      have : m = 1 := by omega
      subst this
      refine ev_descPart O (by assumption) hz fun i j hij hj => ?_
      by_cases z : i = j
      · subst z; exact irr O _
      · have a0 : i = 0 := by omega
        have b1 : j = 1 := by omega
        subst a0 b1
        exact O.asym _ _ last
theorem ev_place {p : Array Nat} {k : Nat} : ∀ f l r, r - l ≤ f → l ≤ r → r ≤ k → (∀ i, i < l → lt (g p k) (g p i) = false) → (∀ i, r ≤ i → i < k → lt (g p k) (g p i) = true) → Sto lt p k →
    let x := ev lt (kas_place p k f l r); x ≤ k ∧ (∀ i, i < x → lt (g p k) (g p i) = false) ∧ ∀ i, x ≤ i → i < k → lt (g p k) (g p i) = true
  | 0, l, r, hf, hlr, hrk, h1, h2, _ => by
    have : l = r := by omega
    subst this
    exact ⟨hrk, h1, h2⟩
  | f + 1, l, r, hf, hlr, hrk, h1, h2, hs => by
    intro x
    by_cases hl : l ≥ r
    · have e : x = l := by
        show ev lt (if l ≥ r then KasT.ret l else _) = l
        rw [if_pos hl]; rfl
      have : l = r := by omega
      subst this
      rw [e]
      exact ⟨hrk, h1, h2⟩
    · by_cases c : lt (g p k) (g p ((l + r) / 2)) = true
      · have e : x = ev lt (kas_place p k f l ((l + r) / 2)) := by
          show ev lt (if l ≥ r then KasT.ret l else KasT.ask _ _ fun c => if c = true then _ else _) = _
          rw [if_neg hl]
          show ev lt (if lt (g p k) (g p ((l + r) / 2)) = true then _ else _) = _
          rw [if_pos c]
        rw [e]
        refine ev_place f l ((l + r) / 2) (by omega) (by omega) (by omega) h1 (fun i i1 i2 => ?_) hs
        cases z : lt (g p k) (g p i) with
        | true => rfl
        | false =>
          have := O.ntr _ _ _ z (hs ((l + r) / 2) i i1 i2)
          rw [c] at this; cases this
      · have c' : lt (g p k) (g p ((l + r) / 2)) = false := by simpa using c
        have e : x = ev lt (kas_place p k f ((l + r) / 2 + 1) r) := by
          show ev lt (if l ≥ r then KasT.ret l else KasT.ask _ _ fun c => if c = true then _ else _) = _
          rw [if_neg hl]
          show ev lt (if lt (g p k) (g p ((l + r) / 2)) = true then _ else _) = _
          rw [if_neg c]
        rw [e]
        refine ev_place f ((l + r) / 2 + 1) r (by omega) (by omega) hrk (fun i i1 => O.ntr _ _ _ c' (hs i ((l + r) / 2) (by omega) (by omega))) h2 hs
theorem ev_bin : ∀ f {p : Array Nat} (k : Nat), k + f = p.size → Sto lt p k → Sto lt (ev lt (kas_bin f p k)) p.size
  | 0, p, k, hz, hs => by
    have : k = p.size := by assumption
    subst this; exact hs
  | f + 1, p, k, hz, hs => by
    have e : ev lt (kas_bin (f + 1) p k) = ev lt (kas_bin f (bubble p k (k - ev lt (kas_place p k k 0 k))) (k + 1)) := ev_bind lt _ _
    obtain ⟨x1, x2, x3⟩ := ev_place O (p := p) (k := k) k 0 k (by exact Nat.le_refl _) (by exact Nat.zero_le _) (Nat.le_refl _) (fun i hi => by omega) (fun i i1 i2 => by omega) hs
    rw [e]
    generalize ev lt (kas_place p k k 0 k) = x at x1 x2 x3
    have hs' : Sto lt (bubble p k (k - x)) (k + 1) := fun i j hij hj => by
      rw [g_bub (by omega) (by exact Nat.sub_le _ _), g_bub (by omega) (by exact Nat.sub_le _ _), show k - (k - x) = x by omega]
      by_cases j1 : j = x
      · rw [if_pos j1]
        by_cases i1 : i = x
        · rw [if_pos i1]; exact irr O _
        · rw [if_neg i1, if_neg (by omega)]
          exact x2 i (by omega)
      · rw [if_neg j1]
        by_cases j2 : x < j ∧ j ≤ k
        · rw [if_pos j2]
          by_cases i1 : i = x
          · rw [if_pos i1]; exact O.asym _ _ (x3 (j - 1) (by omega) (by omega))
          · rw [if_neg i1]
            by_cases i2 : x < i ∧ i ≤ k
            · rw [if_pos i2]; exact hs (i - 1) (j - 1) (by omega) (by omega)
            · rw [if_neg i2]; exact hs i (j - 1) (by omega) (by omega)
        · rw [if_neg j2, if_neg (by omega), if_neg (by omega)]
          exact hs i j hij (by omega)
    have := ev_bin f (p := bubble p k (k - x)) (k + 1) (by rw [bubble_size]; omega) hs'
    rw [bubble_size] at this
    exact this
theorem ev_sort {n : Nat} (h1 : 1 ≤ n) : Sto lt (ev lt (kas_sort n)) n := by
  have hz : (List.range n).toArray.size = n := by simp
  have e : ev lt (kas_sort n) = ev lt ((fun r : Nat × Array Nat => if r.1 < n then kas_bin (n - max r.1 1) r.2 (max r.1 1) else .ret r.2) (ev lt (kas_count n (List.range n).toArray))) := ev_bind lt _ _
  obtain ⟨a, b, c⟩ := ev_count O (p := (List.range n).toArray) h1 (by omega)
  have pm : Pm n (ev lt (kas_count n (List.range n).toArray)).2 := (asks_count (by assumption) n (Array.Perm.refl _)).ev lt
  rw [e]
  generalize ev lt (kas_count n (List.range n).toArray) = r at a b c pm
  dsimp only
  have sz := pm.size
  by_cases h : r.1 < n
  · rw [if_pos h, show max r.1 1 = r.1 by omega]
    have := ev_bin O (n - r.1) (p := r.2) r.1 (by omega) c
    rw [sz] at this
    exact this
  · rw [if_neg h]
    have : r.1 = n := by omega
    rw [this] at c
    exact c
end
end Srt
set_option maxHeartbeats 1000000
namespace Srt
open PySem PySem.W PyProof.Rows
section
variable {prog : Program} {w : World} {A : Around} {E : Value → Shared → Prop} {s : Shared}
theorem list_sort_raw {κ : SortKind} {lt : Nat → Nat → Bool} (O : Ord lt) {a : Addr} {vs : List Value} {n : Nat} {P : PySem.Fin → Shared → Prop} (ho : s.heap.get? a = some (seqObj "list" vs.toArray n)) (h64 : vs.length < 64)
    (hk : ∀ h', (∀ b o, b ≠ a → s.heap.get? b = some o → h'.get? b = some o) → 2 ≤ vs.length → ∀ Q : SortKind → Shared → Prop, Q κ { s with heap := h' } → wpAny (model prog w) A (keyKind' vs.toArray) Q E { s with heap := h' })
    (hc : ∀ h', (∀ b o, b ≠ a → s.heap.get? b = some o → h'.get? b = some o) → ∀ i j (C : Bool → Shared → Prop), i < vs.length → j < vs.length → C (lt i j) { s with heap := h' } → kas_ask prog w A κ vs i j C { s with heap := h' })
    (h : ∀ p : Array Nat, Pm vs.length p → Sto lt p vs.length → P (.done (.ret .none)) { s with heap := sortedHeap s.heap a vs (p.toList.map fun i => vs.getD i Value.none).toArray }) :
    wpAny (model prog w) A (Builtin.«list.sort» ⟨[.ref a], []⟩) P E s := by
  rw [list_sort_plain]
  have ha : a < s.heap.objs.size := Heap.lt_size ho
  refine wpAny_bind (listItems_at ho rfl ?_)
  refine wpAny_bind (listUpdate_at ho rfl ?_ (by rw [List.size_toArray, sizeLine_eq]; omega) (Nat.zero_le _))
  obtain ⟨e1, ho1⟩ : ∃ e1, (s.heap.update a (Obj.mapSeq fun _ => #[])).get? a = some (seqObj "list" #[] e1) := ⟨_, get?_update_seq ho (fun _ => #[])⟩
  refine wpAny_bind (seqEpoch_at ho1 rfl ?_)
  refine wpAny_bind (wpAny_newTuple ?_ (by show vs.length ≤ _; rw [sizeLine_eq]; omega))
  refine wpAny_bind (wpAny_newList ?_ (Nat.zero_le _))
  refine wpAny_holding ?_
  have keep : ∀ b o, b ≠ a → s.heap.get? b = some o → (((s.heap.update a (Obj.mapSeq fun _ => #[])).push (seqObj "tuple" vs.toArray 0)).push (seqObj "list" #[] 0)).get? b = some o := fun b o ne q => by
    have hlt : b < s.heap.objs.size := Heap.lt_size q
    rw [Heap.get?_push_ne _ _ _ (by rw [size_push', Heap.size_update]; exact Nat.ne_of_lt (Nat.lt_succ_of_lt hlt)), Heap.get?_push_ne _ _ _ (by rw [Heap.size_update]; exact Nat.ne_of_lt hlt), Heap.get?_update_ne _ _ _ _ ne]
    exact q
  have ho6 : (((s.heap.update a (Obj.mapSeq fun _ => #[])).push (seqObj "tuple" vs.toArray 0)).push (seqObj "list" #[] 0)).get? a = some (seqObj "list" #[] e1) := by
    rw [Heap.get?_push_ne _ _ _ (by rw [size_push', Heap.size_update]; exact Nat.ne_of_lt (Nat.lt_succ_of_lt ha)), Heap.get?_push_ne _ _ _ (by rw [Heap.size_update]; exact Nat.ne_of_lt ha)]
    exact ho1
  show wpAny (model prog w) A _ P E { s with heap := ((s.heap.update a (Obj.mapSeq fun _ => #[])).push (seqObj "tuple" vs.toArray 0)).push (seqObj "list" #[] 0) }
  dsimp only
  have hsz : vs.toArray.size = vs.length := by simp
  by_cases h2 : vs.toArray.size < 2
  · rw [if_pos h2, if_pos h2]
    refine wpAny_bind (wpAny_pure ?_)
    rw [StateT.run_pure]
    refine wpAny_bind (wpAny_pure ?_)
    dsimp only
    refine wpAny_bind (seqEpoch_at ho6 rfl ?_)
    refine wpAny_bind (listUpdate_at ho6 rfl ?_ (hsz2 := by rw [Array.size_map]; show (pairsOf vs).size ≤ _; rw [pairsOf_size, sizeLine_eq]; omega))
    simp only [bne_self_eq_false, Bool.false_eq_true, if_false]
    have fin := h (List.range vs.length).toArray (Array.Perm.refl _) (fun i j hij hj => by
      have : i = j := by omega
      subst this; exact irr O _)
    have e : (List.range vs.length).toArray.toList.map (fun i => vs.getD i Value.none) = vs := by
      refine List.ext_getElem? fun i => ?_
      simp only [List.getElem?_map]
      by_cases hi : i < vs.length
      · simp [hi]
      · simp [Nat.le_of_not_lt hi]
    rw [e] at fin
    have e2 : (Array.map (fun x => x.snd) (vs.toArray.zip vs.toArray)) = vs.toArray := by
      apply Array.toList_inj.mp
      simp [List.map_snd_zip]
    rw [show Array.map (fun x : Keyed => x.snd) (arrOf (SortSt.mk' general' (vs.toArray.zip vs.toArray) #[] 7 none)) = vs.toArray from e2]
    exact wpAny_pure fin
  · rw [if_neg h2, if_neg h2]
    have h2' : 2 ≤ vs.length := by rw [hsz] at h2; exact Nat.not_lt.mp (by assumption)
    refine wpAny_bind (hk _ keep h2' _ ?_)
    refine wpAny_bind (wpAny_mono (kat_run (ks := vs) (vs := vs) (κ := κ) (Q := fun st' s' => ∃ p : Array Nat, s' = { s with heap := ((s.heap.update a (Obj.mapSeq fun _ => #[])).push (seqObj "tuple" vs.toArray 0)).push (seqObj "list" #[] 0) } ∧ Pm vs.length p ∧ Sto lt p vs.length ∧ arrOf st' = p.map (kas_item (vs.toArray.zip vs.toArray)) ∧ failedOf st' = none)
      rfl h2' h64 (G := fun p s' => s' = { s with heap := ((s.heap.update a (Obj.mapSeq fun _ => #[])).push (seqObj "tuple" vs.toArray 0)).push (seqObj "list" #[] 0) } ∧ Pm vs.length p ∧ Sto lt p vs.length) (fun p st' s' a1 a2 a3 a4 => ⟨p, a4.1, a4.2.1, a4.2.2, a2, a3⟩) ?_) ?_ fun _ _ e => e)
    · exact AsksP.wp (lt := lt) (hc _ keep) (asks_sort (by exact Nat.le_of_lt (by assumption))) ⟨rfl, (asks_sort (by exact Nat.le_of_lt (by assumption))).ev lt, ev_sort O (by exact Nat.le_of_lt (by assumption))⟩
    · rintro ⟨⟨⟩, st'⟩ s' ⟨p, rfl, hp, hs, har, hf⟩
      dsimp only
      rw [kat_snds rfl har]
      refine wpAny_bind (seqEpoch_at ho6 rfl ?_)
      refine wpAny_bind (listUpdate_at ho6 rfl ?_ (Nat.zero_le _) (by rw [List.size_toArray, List.length_map, Array.length_toList, hp.size, sizeLine_eq]; omega))
      rw [hf]
      simp only [bne_self_eq_false, Bool.false_eq_true, if_false]
      exact wpAny_pure (h p hp hs)
theorem sorted_raw {κ : SortKind} {lt : Nat → Nat → Bool} (O : Ord lt) {v : Value} (I : List Value → Prop) {Q : Value → Shared → Prop} (h64 : ∀ vs, I vs → vs.length < 64)
    (hcol : ∀ (Q : List Value → Shared → Prop), (∀ vs h1 t1, I vs → (∀ b o, s.heap.get? b = some o → h1.get? b = some o) → Q vs { s with heap := h1, toks := t1 }) → wpAny (model prog w) A.in1 (collect v) Q E s)
    (hk : ∀ vs h' t', I vs → (∀ b o, s.heap.get? b = some o → h'.get? b = some o) → 2 ≤ vs.length → ∀ Q : SortKind → Shared → Prop, Q κ { s with heap := h', toks := t' } → wpAny (model prog w) A.in1.in1 (keyKind' vs.toArray) Q E { s with heap := h', toks := t' })
    (hc : ∀ vs h' t', I vs → (∀ b o, s.heap.get? b = some o → h'.get? b = some o) → ∀ i j (C : Bool → Shared → Prop), i < vs.length → j < vs.length → C (lt i j) { s with heap := h', toks := t' } → kas_ask prog w A.in1.in1 κ vs i j C { s with heap := h', toks := t' })
    (h : ∀ vs (p : Array Nat) (h1 h' : Heap) t' l e, I vs → Pm vs.length p → Sto lt p vs.length → (∀ b o, s.heap.get? b = some o → h1.get? b = some o) → (∀ b o, h1.get? b = some o → h'.get? b = some o) → h1.objs.size ≤ l → h'.get? l = some (seqObj "list" (p.toList.map fun i => vs.getD i Value.none).toArray e) → Q (.ref l) { s with heap := h', toks := t' }) :
    wpAny (model prog w) A (call (.builtin "sorted") [v]) Q E s := by
  refine Calls.call_function_entry kind_sorted plain_sorted entry_sorted (args_sorted1 _) ?_
  unfold Builtin.«sorted»
  refine wpAny_bind (m := checkCount "sorted" 1 1 _) (wpAny_pure ?_)
  refine wpAny_bind (hcol _ fun vs h1 t1 hI k1 => ?_)
  have h64 := h64 vs hI
  refine wpAny_bind (wpAny_newList ?_ (by rw [sizeLine_eq]; omega))
  have hoL : (h1.push (seqObj "list" vs.toArray 0)).get? h1.objs.size = some (seqObj "list" vs.toArray 0) := Heap.get?_push_size _ rfl
  show wpAny _ _ _ _ _ { s with heap := h1.push (seqObj "list" vs.toArray 0), toks := t1 }
  have k3 : ∀ b o, h1.get? b = some o → b ≠ h1.objs.size ∧ (h1.push (seqObj "list" vs.toArray 0)).get? b = some o := fun b o q =>
    ⟨Nat.ne_of_lt (Heap.lt_size q), Heap.get?_push_of_some _ q⟩
  have k2 : ∀ b o, s.heap.get? b = some o → b ≠ h1.objs.size ∧ (h1.push (seqObj "list" vs.toArray 0)).get? b = some o := fun b o q => k3 b o (k1 b o q)
  refine wpAny_bind (wpAny_holding (wpAny_call_entry slot_list_sort ⟨_, hoL, rfl⟩ entry_list_sort (list_sort_raw (s := { s with heap := h1.push (seqObj "list" vs.toArray 0), toks := t1 }) (κ := κ) O hoL h64 (fun h' k l2 Q q => ?_) (fun h' k i j C hi hj q => ?_) fun p hp hs => ⟨_, rfl, ?_⟩) (args_list_sort _)))
  · exact hk vs h' t1 hI (fun b o q => k b o (k2 b o q).1 (k2 b o q).2) l2 Q q
  · exact hc vs h' t1 hI (fun b o q => k b o (k2 b o q).1 (k2 b o q).2) i j C hi hj q
  · refine wpAny_pure ⟨_, rfl, ?_⟩
    have hz : h1.objs.size < (h1.push (seqObj "list" vs.toArray 0)).objs.size := by rw [size_push']; exact Nat.lt_succ_self _
    obtain ⟨e, he⟩ : ∃ e, (sortedHeap (h1.push (seqObj "list" vs.toArray 0)) h1.objs.size vs (p.toList.map fun i => vs.getD i Value.none).toArray).get? h1.objs.size = some (seqObj "list" (p.toList.map fun i => vs.getD i Value.none).toArray e) := by
      unfold sortedHeap
      obtain ⟨e1, ho1⟩ : ∃ e1, ((h1.push (seqObj "list" vs.toArray 0)).update h1.objs.size (Obj.mapSeq fun _ => #[])).get? h1.objs.size = some (seqObj "list" #[] e1) := ⟨_, get?_update_seq hoL (fun _ => #[])⟩
      have ho6 : ((((h1.push (seqObj "list" vs.toArray 0)).update h1.objs.size (Obj.mapSeq fun _ => #[])).push (seqObj "tuple" vs.toArray 0)).push (seqObj "list" #[] 0)).get? h1.objs.size = some (seqObj "list" #[] e1) := by
        exact Heap.get?_push_of_some _ (Heap.get?_push_of_some _ ho1)
      exact ⟨_, get?_update_seq ho6 fun _ => _⟩
    refine h vs p h1 _ t1 h1.objs.size e hI hp hs k1 (fun b o q => ?_) (Nat.le_refl _) he
    have q2 := k3 b o q
    unfold sortedHeap
    rw [Heap.get?_update_ne _ _ _ _ q2.1]
    refine Heap.get?_push_of_some _ (Heap.get?_push_of_some _ ?_)
    rw [Heap.get?_update_ne _ _ _ _ q2.1]
    exact q2.2
end
end Srt
set_option maxHeartbeats 1000000
namespace Srt
open PySem PySem.W PyProof.Rows L2
def ltK : Key → Key → Bool
  | .inl a, .inl b => decide (a < b)
  | .inr a, .inr b => decide (a.cps.toList < b.cps.toList)
  | .inl _, .inr _ => true
  | .inr _, .inl _ => false
def ltR : List Key → List Key → Bool
  | x :: xs, y :: ys => if x = y then ltR xs ys else ltK x y
  | [], _ :: _ => true
  | _, [] => false
theorem str_ext {a b : Str} (h : a.cps.toList = b.cps.toList) : a = b := by
  cases a; cases b; simp at h; rw [h]
theorem ltK_irr : ∀ a, ltK a a = false
  | .inl a => by simp [ltK]
  | .inr a => by simp [ltK, List.lt_irrefl]
theorem ltK_tr : ∀ {a b c}, ltK a b = true → ltK b c = true → ltK a c = true
  | .inl a, .inl b, .inl c, h1, h2 => by simp only [ltK, decide_eq_true_eq] at *; omega
  | .inr a, .inr b, .inr c, h1, h2 => by simp only [ltK, decide_eq_true_eq] at *; exact List.lt_trans h1 h2
  | .inl _, .inl _, .inr _, _, _ => rfl
  | .inl _, .inr _, .inr _, _, _ => rfl
  | .inl _, .inr _, .inl _, _, h2 => by simp [ltK] at h2
  | .inr _, .inl _, _, h1, _ => by simp [ltK] at h1
  | .inr _, .inr _, .inl _, _, h2 => by simp [ltK] at h2
theorem ltK_tri : ∀ a b, ltK a b = false → a = b ∨ ltK b a = true
  | .inl a, .inl b, h => by
    simp only [ltK, decide_eq_true_eq, decide_eq_false_iff_not] at *
    rcases Int.lt_trichotomy a b with x | x | x
    · exact absurd x h
    · exact .inl (by rw [x])
    · exact .inr x
  | .inr a, .inr b, h => by
    simp only [ltK, decide_eq_true_eq, decide_eq_false_iff_not] at *
    by_cases e : b.cps.toList < a.cps.toList
    · exact .inr e
    · exact .inl (congrArg Sum.inr (str_ext (List.le_antisymm (List.not_lt.mp e) (List.not_lt.mp h))))
  | .inl _, .inr _, h => by simp [ltK] at h
  | .inr _, .inl _, _ => .inr rfl
theorem ltR_irr : ∀ a, ltR a a = false
  | [] => rfl
  | x :: xs => by simp [ltR, ltR_irr xs]
theorem ltR_tr : ∀ {a b c}, ltR a b = true → ltR b c = true → ltR a c = true
  | _, [], _, h, _ => by simp [ltR] at h
  | _, _ :: _, [], _, h => by simp [ltR] at h
  | [], _ :: _, _ :: _, _, _ => rfl
  | x :: xs, y :: ys, z :: zs, h1, h2 => by
    unfold ltR at h1 h2 ⊢
    by_cases e1 : x = y
    · subst e1
      rw [if_pos rfl] at h1
      by_cases e2 : x = z
      · rw [if_pos e2] at h2 ⊢; exact ltR_tr h1 h2
      · rw [if_neg e2] at h2 ⊢; exact h2
    · rw [if_neg e1] at h1
      by_cases e2 : y = z
      · subst e2
        rw [if_neg e1]; exact h1
      · rw [if_neg e2] at h2
        have := ltK_tr h1 h2
        rw [if_neg (fun e => by rw [e, ltK_irr] at this; cases this)]
        exact this
theorem ltR_tri : ∀ a b, ltR a b = false → a = b ∨ ltR b a = true
  | [], [], _ => .inl rfl
  | [], _ :: _, h => by simp [ltR] at h
  | _ :: _, [], _ => .inr rfl
  | x :: xs, y :: ys, h => by
    unfold ltR at h ⊢
    by_cases e : x = y
    · subst e
      rw [if_pos rfl] at h ⊢
      rcases ltR_tri xs ys h with r | r
      · exact .inl (by rw [r])
      · exact .inr r
    · rw [if_neg e] at h
      rw [if_neg (fun z => e z.symm)]
      exact .inr ((ltK_tri _ _ h).resolve_left e)
theorem ord_rows (f : Nat → List Key) : Ord fun i j => ltR (f i) (f j) where
  asym := fun a b h => by
    cases e : ltR (f b) (f a) with
    | false => rfl
    | true => have := ltR_tr h e; rw [ltR_irr] at this; cases this
  ntr := fun a b c h1 h2 => by
    cases e : ltR (f a) (f c) with
    | false => rfl
    | true =>
      rcases ltR_tri _ _ h1 with r | r
      · rw [r, h2] at e; cases e
      · have := ltR_tr r e; rw [h2] at this; cases this
def isL : Key → Bool
  | .inl _ => true
  | .inr _ => false
section
variable {prog : Program} {w : World} {A : Around} {E : Value → Shared → Prop} {s : Shared}
theorem key_eq : ∀ {x y : Key} {u v : Value} {C : Bool → Shared → Prop}, isL x = isL y → RelV (kV x) u → RelV (kV y) v → C (decide (x = y)) s → wpAny (model prog w) A (eqBool u v) C E s
  | .inl a, .inl b, _, _, C, _, ⟨t, rfl⟩, ⟨t', rfl⟩, h => wpAny_eqBool_int (by
      have : (a == b) = decide ((Sum.inl a : Key) = Sum.inl b) := by simp only [Sum.inl.injEq]; rfl
      rw [this]; exact h)
  | .inr a, .inr b, _, _, C, _, ⟨t, rfl⟩, ⟨t', rfl⟩, h => wpAny_eqBool_str (by
      have : decide (a = b) = decide ((Sum.inr a : Key) = Sum.inr b) := by simp
      rw [this]; exact h)
  | .inl _, .inr _, _, _, _, h, _, _, _ => by cases h
  | .inr _, .inl _, _, _, _, h, _, _, _ => by cases h
theorem key_lt : ∀ {x y : Key} {u v : Value} {b : Bool} {C : Bool → Shared → Prop}, isL x = isL y → RelV (kV x) u → RelV (kV y) v → C (ltK x y) s → wpAny (model prog w) A (oneLt' b u v) C E s
  | .inl a, .inl c, _, _, true, C, _, ⟨t, rfl⟩, ⟨t', rfl⟩, h => oneLt_int h
  | .inl a, .inl c, _, _, false, C, _, ⟨t, rfl⟩, ⟨t', rfl⟩, h => kat_one _ _ (PyProof.Rows.lt_int (show PySem.W.BoolBack C _ s from h))
  | .inr a, .inr c, _, _, true, C, _, ⟨t, rfl⟩, ⟨t', rfl⟩, h => oneLt_str h
  | .inr a, .inr c, _, _, false, C, _, ⟨t, rfl⟩, ⟨t', rfl⟩, h => kat_one _ _ (PySem.P.lt_str (show PySem.W.BoolBack C _ s from h))
  | .inl _, .inr _, _, _, _, _, h, _, _, _ => by cases h
  | .inr _, .inl _, _, _, _, _, h, _, _, _ => by cases h
theorem lex_go {b fin : Bool} {C : Bool → Shared → Prop} (hf : fin = false) : ∀ {x y : List Key} {us vs : List Value} (i : Nat), x.map isL = y.map isL → Vals (x.map kV) us → Vals (y.map kV) vs → C (ltR x y) s → KatLex prog w A b fin C (us.zip vs) i s
  | [], [], _, _, i, _, .nil, .nil, h => by subst hf; exact h
  | [], _ :: _, _, _, _, e, _, _, _ => by cases e
  | _ :: _, [], _, _, _, e, _, _, _ => by cases e
  | x :: xs, y :: ys, _, _, i, e, .cons r1 r2, .cons q1 q2, h => by
    simp only [List.map_cons, List.cons.injEq] at e
    refine kat_cons (key_eq e.1 r1 q1 ?_)
    unfold ltR at h
    by_cases z : x = y
    · rw [decide_eq_true z]
      rw [if_pos z] at h
      exact kat_yes (lex_go hf (i + 1) e.2 r2 q2 h)
    · rw [decide_eq_false z]
      rw [if_neg z] at h
      exact kat_no (key_lt e.1 r1 q1 h)
end
abbrev Row := Addr × List Key
def rRef (q : Row) : V := .ref q.1
theorem tups_of {X : Cx} {pins : List (Addr × Obj)} {σ : L2.St} {H : Hp} {s : Shared} (I : Inv X pins σ H s) : ∀ (ps : List Row), (∀ q ∈ ps, SqT X.K H q.1 (q.2.map kV)) → (∀ q ∈ ps, q.2 ≠ []) →
    ∃ fs, KatTups s.heap (ps.map fun q => Value.ref q.1) fs ∧ fs.length = ps.length ∧ ∀ v ∈ fs, ∃ q ∈ ps, ∃ k r, q.2 = k :: r ∧ RelV (kV k) v
  | [], _, _ => ⟨[], trivial, rfl, fun v h => nomatch h⟩
  | q :: ps, h, h0 => by
    obtain ⟨fs, t, l, f⟩ := tups_of I ps (fun q hq => h q (.tail _ hq)) fun q hq => h0 q (.tail _ hq)
    obtain ⟨its, rv, ⟨o, ho, hc, n, hd⟩, hz⟩ := I.tuple (h q (.head _))
    cases e : q.2 with
    | nil => exact absurd e (h0 q (.head _))
    | cons k r =>
      rw [e, List.map_cons] at rv
      cases rv with
      | @cons _ u _ us ru rr =>
        refine ⟨u :: fs, .cons ho hc hd (by simp) t, by simp [l], fun v hv => ?_⟩
        rcases List.mem_cons.mp hv with rfl | hv
        · exact ⟨q, .head _, k, r, e, ru⟩
        · obtain ⟨q', h1, k', r', h2, h3⟩ := f v hv
          exact ⟨q', .tail _ h1, k', r', h2, h3⟩
theorem looks_key {M : Model} {h : Heap} : ∀ {k : Key} {v : Value}, RelV (kV k) v → Looks M h (typeOf v) (if isL k = true then Value.type "int" else Value.type "str")
  | .inl i, v, ⟨t, e⟩ => by subst e; exact Looks.of_pure rfl
  | .inr x, v, ⟨t, e⟩ => by subst e; exact Looks.of_pure rfl
theorem Pm.toList {n : Nat} {p : Array Nat} (h : Pm n p) : p.toList.Perm (List.range n) := by
  have := (Array.perm_iff_toList_perm).mp h
  simpa using this
theorem map_range_getD {α : Type} (l : List α) (d : α) : (List.range l.length).map (fun i => l.getD i d) = l := by
  refine List.ext_getElem? fun i => ?_
  simp only [List.getElem?_map]
  by_cases hi : i < l.length
  · simp [hi]
  · simp [Nat.le_of_not_lt hi]
theorem Sto.pairwise {lt : Nat → Nat → Bool} {p : Array Nat} {n : Nat} (hz : p.size = n) (h : Sto lt p n) : p.toList.Pairwise fun i j => lt j i = false := by
  rw [List.pairwise_iff_getElem]
  intro i j hi hj hij
  have := h i j (Nat.le_of_lt hij) (by simpa [← hz] using hj)
  simp only [Array.length_toList] at hi hj
  have e1 : g p i = p.toList[i] := by simp [g, Array.getD, hi]
  have e2 : g p j = p.toList[j] := by simp [g, Array.getD, hj]
  rw [e1, e2] at this
  exact this
theorem vals_map {α : Type} (f : α → V) (f' : α → Value) (hf : ∀ a, RelV (f a) (f' a)) : ∀ l : List α, Vals (l.map f) (l.map f')
  | [] => .nil
  | a :: l => .cons (hf a) (vals_map f f' hf l)
theorem sortT_core {X : Cx} {pins : List (Addr × Obj)} {σ : L2.St} {H : Hp} {s : Shared} (I : Inv X pins σ H s) {v : Value} {ps : List Row} {Q : VK} (hT : ∀ q ∈ ps, SqT X.K H q.1 (q.2.map kV)) (hS : ∀ q ∈ ps, ∀ q' ∈ ps, q.2.map isL = q'.2.map isL) (h0 : ∀ q ∈ ps, q.2 ≠ []) (h64 : ps.length < 64)
    (hcol : ∀ (Q : List Value → Shared → Prop), (∀ h1 t1, (∀ b o, s.heap.get? b = some o → h1.get? b = some o) → Q (ps.map fun q => Value.ref q.1) { s with heap := h1, toks := t1 }) → wpAny (model X.prog X.w) X.A.in1 (collect v) Q X.xe s)
    (h : ∀ (l : Addr) (ps' : List Row), H l = none → ps'.Perm ps → ps'.Pairwise (fun a b => ltR b.2 a.2 = false) → Q (.ref l) (upd H l (.lst (ps'.map rRef)))) :
    wpAny (model X.prog X.w) X.A (call (.builtin "sorted") [v]) (EP X pins σ Q) X.xe s := by
  have lz : (ps.map fun q => Value.ref q.1).length = ps.length := List.length_map ..
  refine sorted_raw (κ := tuples' true) (ord_rows fun i => (ps.getD i (0, [])).2) (fun vs => vs = ps.map fun q => Value.ref q.1) (fun vs e => by rw [e, lz]; exact h64) (fun Q hq => hcol Q fun h1 t1 k => hq _ h1 t1 rfl k) ?_ ?_ ?_
  · rintro vs h' t' rfl k l2 Q hq
    rw [lz] at l2
    have I' : Inv X pins σ H { s with heap := h', toks := t' } := I.kept k
    obtain ⟨fs, t, l, f⟩ := tups_of I' ps hT h0
    obtain ⟨q0, r0, e0⟩ : ∃ q0 r0, ps = q0 :: r0 := by
      match ps, l2 with
      | q0 :: r0, _ => exact ⟨q0, r0, rfl⟩
    have m0 : q0 ∈ ps := by rw [e0]; exact .head _
    obtain ⟨k0, r1, e1⟩ : ∃ k0 r1, q0.2 = k0 :: r1 := by
      cases e : q0.2 with
      | nil => exact absurd e (h0 q0 m0)
      | cons k r => exact ⟨k, r, rfl⟩
    refine kat_kind (s := { s with heap := h', toks := t' }) (T := if isL k0 = true then Value.type "int" else Value.type "str") t (by omega) (fun v hv => ?_) (by split <;> rfl) ?_
    · obtain ⟨q, hq, k', r', e', rk⟩ := f v hv
      have := hS q hq q0 m0
      rw [e', e1] at this
      simp only [List.map_cons, List.cons.injEq] at this
      rw [← this.1]
      exact looks_key rk
    · have : ((if isL k0 = true then Value.type "int" else Value.type "str") != Value.type "tuple") = true := by split <;> rfl
      rw [this]; exact hq
  · rintro vs h' t' rfl k i j C hi hj hC
    rw [lz] at hi hj
    have I' : Inv X pins σ H { s with heap := h', toks := t' } := I.kept k
    show wpAny _ _ (keyLt' _ ((ps.map fun q => Value.ref q.1).getD i Value.none) ((ps.map fun q => Value.ref q.1).getD j Value.none)) C _ _
    have ei : (ps.map fun q => Value.ref q.1).getD i Value.none = Value.ref ps[i].1 := by simp [hi]
    have ej : (ps.map fun q => Value.ref q.1).getD j Value.none = Value.ref ps[j].1 := by simp [hj]
    have fi : ps.getD i (0, []) = ps[i] := by simp [hi]
    have fj : ps.getD j (0, []) = ps[j] := by simp [hj]
    rw [ei, ej]
    rw [fi, fj] at hC
    obtain ⟨ui, ri, ⟨oi, hoi, hci, ni, hdi⟩, zi⟩ := I'.tuple (hT ps[i] (List.getElem_mem hi))
    obtain ⟨uj, rj, ⟨oj, hoj, hcj, nj, hdj⟩, zj⟩ := I'.tuple (hT ps[j] (List.getElem_mem hj))
    have sh := hS _ (List.getElem_mem hi) _ (List.getElem_mem hj)
    have el : ui.length = uj.length := by
      rw [← ri.length, ← rj.length, List.length_map, List.length_map]
      simpa using congrArg List.length sh
    refine kat_lt hoi hdi hoj hdj (lex_go (by simp [el]) 0 sh ri rj hC)
  · rintro vs p h1 h' t' l e rfl pm st k1 k zl hl
    have I : Inv X pins σ H { s with heap := h1, toks := t' } := I.kept k1
    have pl := pm.toList
    rw [lz] at pl pm st
    have hz := pm.size
    have mem : ∀ i ∈ p.toList, i < ps.length := fun i hi => by simpa using pl.mem_iff.mp hi
    have e1 : (p.toList.map fun i => (ps.map fun q => Value.ref q.1).getD i Value.none) = (p.toList.map fun i => ps.getD i (0, [])).map fun q => Value.ref q.1 := by
      rw [List.map_map]
      refine List.map_congr_left fun i hi => ?_
      have := mem i hi
      simp [this]
    rw [e1] at hl
    have pp : (p.toList.map fun i => ps.getD i (0, [])).Perm ps := by
      have := pl.map (fun i => ps.getD i ((0, []) : Row))
      rwa [map_range_getD] at this
    have pw : (p.toList.map fun i => ps.getD i ((0, []) : Row)).Pairwise (fun a b => ltR b.2 a.2 = false) := by
      rw [List.pairwise_map]
      exact st.pairwise hz
    refine ⟨.ref l, _, I.laid (t' := t') (o := .lst ((p.toList.map fun i => ps.getD i (0, [])).map rRef)) k zl ⟨?_, _, e, vals_map rRef (fun q => Value.ref q.1) (fun _ => rfl) _, hl⟩, rfl, h l _ (I.hok.fresh zl) pp pw⟩
    rw [List.length_map, pp.length_eq, sizeLine_eq]
    omega
end Srt
set_option maxHeartbeats 1000000
namespace Srt
open PySem PySem.W PyProof.Rows L2
structure RowsOk (K : PySem.W.Frag) (H : Hp) (ps : List Row) : Prop where
  at' : ∀ q ∈ ps, SqT K H q.1 (q.2.map kV)
  sh : ∀ q ∈ ps, ∀ q' ∈ ps, q.2.map isL = q'.2.map isL
  ne : ∀ q ∈ ps, q.2 ≠ []
  few : ps.length < 64
section
variable {X : Cx}
theorem call_sortedT : CallR X (.builtin "sorted") (fun xs H Q => ∃ (p : Addr) (ps : List Row), xs = [.ref p] ∧ SqL X.K H p (ps.map rRef) ∧ RowsOk X.K H ps ∧ ∀ (l : Addr) (ps' : List Row), H l = none → ps'.Perm ps → ps'.Pairwise (fun a b => ltR b.2 a.2 = false) → Q (.ref l) (upd H l (.lst (ps'.map rRef)))) := by
  intro pins s σ H xs us Q I r h
  obtain ⟨p, ps, rfl, hq, ok, q⟩ := h
  obtain ⟨u, rfl, rx⟩ := vals1 r
  cases rx
  obtain ⟨its, rv, hp, hz⟩ := I.list hq
  have e : its = ps.map fun q => Value.ref q.1 := by
    clear hq hp hz q r ok
    induction ps generalizing its with
    | nil => cases rv; rfl
    | cons a ps ih =>
      cases rv with
      | cons ru rr => rw [List.map_cons, ← ih _ rr]; cases ru; rfl
  subst e
  refine sortT_core I ok.at' ok.sh ok.ne ok.few (fun Q hq => collect_list hp.isList (hq _ _ fun b o ho => ?_) (by rw [List.length_map, sizeLine_eq]; have := ok.few; omega)) q
  have hlt : b < s.heap.objs.size := Heap.lt_size ho
  rw [Heap.get?_update_ne _ _ _ _ (Nat.ne_of_lt hlt)]
  exact Heap.get?_push_of_some _ ho
end
end Srt
set_option maxHeartbeats 1000000
namespace Srt
open PySem PySem.W PyProof.Rows L2
section
variable {X : Cx}
theorem call_sortedS : CallR X (.builtin "sorted") (fun xs H Q => ∃ (p : Addr) (ns : List Str), xs = [.ref p] ∧ SqL X.K H p (ns.map V.str) ∧ ns.length < 64 ∧ ∀ (l : Addr) (ns' : List Str), H l = none → ns'.Perm ns → ns'.Pairwise (fun a b => ltK (.inr b) (.inr a) = false) → Q (.ref l) (upd H l (.lst (ns'.map V.str)))) := by
  intro pins s σ H xs us Q I r h
  obtain ⟨p, ns, rfl, hq, h64, q⟩ := h
  obtain ⟨u, rfl, rx⟩ := vals1 r
  cases rx
  obtain ⟨its, rv, hp, hz⟩ := I.list hq
  have len : its.length = ns.length := by have := rv.length; rw [List.length_map] at this; omega
  refine sorted_raw (κ := oneType') (ord_rows fun i => [Sum.inr (ns.getD i default)]) (fun us => Vals (ns.map V.str) us) (fun us hu => by have := hu.length; rw [List.length_map] at this; omega) (fun Q hq => collect_list hp.isList (hq _ _ _ (by simpa using rv) fun b o ho => ?_) (by rw [sizeLine_eq]; omega)) ?_ ?_ ?_
  · have hlt : b < s.heap.objs.size := Heap.lt_size ho
    rw [Heap.get?_update_ne _ _ _ _ (Nat.ne_of_lt hlt)]
    exact Heap.get?_push_of_some _ ho
  · intro us h' t' hu k l2 Q hq
    refine kas_kind (s := { s with heap := h', toks := t' }) (T := Value.type "str") l2 (fun v hv => ?_) rfl rfl hq
    clear hq l2
    have : ∀ {ns : List Str} {us : List Value}, Vals (ns.map V.str) us → ∀ v ∈ us, ∃ x t, v = Value.str x t := by
      intro ns
      induction ns with
      | nil => intro us hu v hv; cases hu; cases hv
      | cons n ns ih =>
        intro us hu v hv
        cases hu with
        | cons r t =>
          rcases List.mem_cons.mp hv with rfl | hv
          · obtain ⟨t, rfl⟩ := r; exact ⟨_, _, rfl⟩
          · exact ih t v hv
    obtain ⟨x, t, rfl⟩ := this hu v hv
    exact Looks.of_pure rfl
  · intro us h' t' hu k i j C hi hj hC
    have lu := hu.length
    rw [List.length_map] at lu
    obtain ⟨a, ha, ra⟩ := Vals.get hu (i := i) (x := V.str (ns.getD i default)) (by simp [show i < ns.length by omega])
    obtain ⟨b, hb, rb⟩ := Vals.get hu (i := j) (x := V.str (ns.getD j default)) (by simp [show j < ns.length by omega])
    show wpAny _ _ (keyLt' oneType' (us.getD i Value.none) (us.getD j Value.none)) C _ _
    have e1 : us.getD i Value.none = a := by simp [List.getD, ha]
    have e2 : us.getD j Value.none = b := by simp [List.getD, hb]
    rw [e1, e2, keyLt'_oneType]
    refine key_lt (x := Sum.inr (ns.getD i default)) (y := Sum.inr (ns.getD j default)) rfl ra rb ?_
    have : ltR [Sum.inr (ns.getD i default)] [Sum.inr (ns.getD j default)] = ltK (Sum.inr (ns.getD i default)) (Sum.inr (ns.getD j default)) := by
      unfold ltR
      split
      · rename_i e; rw [e, ltK_irr]; rfl
      · rfl
    rw [← this]; exact hC
  · intro us p h1 h' t' l e hu pm st k1 k zl hl
    have lu := hu.length
    rw [List.length_map] at lu
    have I : L2.Inv X pins σ H { s with heap := h1, toks := t' } := I.kept k1
    rw [← lu] at pm st
    have pl := pm.toList
    have pp : (p.toList.map fun i => ns.getD i default).Perm ns := by
      have := pl.map (fun i => ns.getD i (default : Str))
      rwa [map_range_getD] at this
    have pw : (p.toList.map fun i => ns.getD i (default : Str)).Pairwise (fun a b => ltK (.inr b) (.inr a) = false) := by
      rw [List.pairwise_map]
      refine (st.pairwise pm.size).imp fun {a b} hab => ?_
      unfold ltR at hab
      split at hab
      · rename_i e; rw [e]; exact ltK_irr _
      · exact hab
    have mem : ∀ i ∈ p.toList, i < ns.length := fun i hi => by simpa using pl.mem_iff.mp hi
    have vv : Vals ((p.toList.map fun i => ns.getD i default).map V.str) (p.toList.map fun i => us.getD i Value.none) := by
      clear hl pw pp pl st pm
      generalize p.toList = il at mem
      induction il with
      | nil => exact .nil
      | cons i il ih =>
        refine .cons ?_ (ih fun j hj => mem j (.tail _ hj))
        have hi := mem i (.head _)
        obtain ⟨a, ha, ra⟩ := Vals.get hu (i := i) (x := V.str (ns.getD i default)) (by simp [hi])
        have e1 : us.getD i Value.none = a := by simp [List.getD, ha]
        show L2.RelV (V.str (ns.getD i default)) (us.getD i Value.none)
        rw [e1]; exact ra
    refine ⟨.ref l, _, I.laid (t' := t') (o := .lst ((p.toList.map fun i => ns.getD i default).map V.str)) k zl ⟨?_, _, e, vv, hl⟩, rfl, q l _ (I.hok.fresh zl) pp pw⟩
    rw [List.length_map, pp.length_eq, sizeLine_eq]
    omega
end
end Srt
set_option maxHeartbeats 1000000
namespace L2
open PySem PySem.Spec PyProof.Rows
end L2
set_option maxHeartbeats 400000
namespace L2
open PySem PySem.Spec PyProof.Rows
end L2
set_option maxHeartbeats 1000000
namespace PySem
end PySem
namespace PySem
end PySem
set_option maxHeartbeats 1000000
namespace L2
open PySem PySem.Spec PyProof.Rows
end L2
set_option maxHeartbeats 1000000
namespace HT
open PySem PyProof.Rows
end HT
namespace L2
open PySem PySem.Spec PyProof.Rows
end L2
set_option maxHeartbeats 4000000
namespace HT
open PySem PyProof.Rows L2
def ltV : V → V → Bool
  | .int a, .int b => decide (a < b)
  | .str a, .str b => decide (a.cps.toList < b.cps.toList)
  | _, _ => false
def Alike : V → V → Prop
  | .int _, .int _ => True
  | .str _, .str _ => True
  | _, _ => False
def AllAlike : List V → List V → Prop
  | x :: xs, y :: ys => Alike x y ∧ AllAlike xs ys
  | _, _ => True
def lexV : List V → List V → Bool
  | [], [] => false
  | [], _ :: _ => true
  | _ :: _, [] => false
  | x :: xs, y :: ys => if x = y then lexV xs ys else ltV x y
theorem lexV_cons (x y : V) (xs ys : List V) : lexV (x :: xs) (y :: ys) = if x = y then lexV xs ys else ltV x y := by rw [lexV]
theorem lexV_nil_nil : lexV [] [] = false := by rw [lexV]
theorem lexV_nil_cons (y : V) (ys : List V) : lexV [] (y :: ys) = true := by rw [lexV]
theorem lexV_cons_nil (x : V) (xs : List V) : lexV (x :: xs) [] = false := by rw [lexV]
theorem alike_at {x y : V} {v w : Value} (h : Alike x y) (rx : RelV x v) (ry : RelV y w) (A : Around) (s : Shared) : (∃ e, SeqAt.EqAt A s v w e ∧ (e = true ↔ x = y)) ∧
    ∀ (prog : Program) (wo : World) (E Q : Value → Shared → Prop), Q (.bool (ltV x y)) s → wpAny (model prog wo) A (richCompare .Lt v w) Q E s := by
  cases x <;> cases y <;> simp only [Alike] at h
  · obtain ⟨t, rfl⟩ := rx
    obtain ⟨u, rfl⟩ := ry
    rename_i a b
    refine ⟨⟨(a == b), SeqAt.EqAt.int_int a t b u, by simp⟩, fun prog wo E Q q => ?_⟩
    exact (PyProof.Rows.lt_int q : wpAny (model prog wo) A (compareOp .Lt (.int a t) (.int b u)) Q E s)
  · obtain ⟨t, rfl⟩ := rx
    obtain ⟨u, rfl⟩ := ry
    rename_i a b
    refine ⟨⟨(a == b), SeqAt.EqAt.str_str a t b u, by simp⟩, fun prog wo E Q q => ?_⟩
    exact (PySem.P.lt_str q : wpAny (model prog wo) A (compareOp .Lt (.str a t) (.str b u)) Q E s)
section
open PySem.SeqAt
open PySem.AutoSeq1 (wpAny_loadPart')
open PySem.MeetsSeq PySem.MeetsSeq2 PySem.MeetsSeq3
theorem tuple_lt_mix (l b : Addr) (items items2 : Array Value) (n n2 : Nat) (dd dd2 : Option Addr) (sl sl2 : Array (Option Value)) (xs ys : List V) (hi : Vals xs items.toList) (hj : Vals ys items2.toList) (hal : AllAlike xs ys) :
    Meets (Builtin.«tuple.__lt__» ⟨[.ref l, .ref b], []⟩)
      (fun _ R s => s.heap.get? l = some { cls := .type "tuple", dict := dd, data := .seq items n, slots := sl } ∧ s.heap.get? b = some { cls := .type "tuple", dict := dd2, data := .seq items2 n2, slots := sl2 } ∧
        R (.ok (.ret (.bool (lexV xs ys)))) s) :=
  .of_wp fun prog w A R s h => by
    obtain ⟨hp, g, d, tk, os⟩ := s; obtain ⟨hl, hb, h⟩ := h
    have f2 := AutoSeq1.sub_tuple_tuple
    have z1 : items.size = xs.length := by rw [hi.length]; simp
    have z2 : items2.size = ys.length := by rw [hj.length]; simp
    wp_walk using wpAny_loadPart' hl, wpAny_loadPart' hb, wpAny_forIn_list _ (fun rest b s' => b.1 = none ∧ s' = ⟨hp, g, d, tk, os⟩ ∧ ∃ (vs ws : List Value) (ns' ms' : List V), rest = vs.zip ws ∧
      Vals ns' vs ∧ Vals ms' ws ∧ AllAlike ns' ms' ∧ ns'.length + items2.size = ms'.length + items.size ∧ R (.ok (.ret (.bool (lexV ns' ms')))) ⟨hp, g, d, tk, os⟩) _
    case turn =>
      rintro ⟨y, x⟩ rest b s' ⟨hb', rfl, vs, ws, ns', ms', hz, hvi, hwi, hal', hlen, hR⟩
      cases hvi with
      | nil => rw [List.zip_nil_left] at hz; cases hz
      | cons ra hvi' =>
        cases hwi with
        | nil => rw [List.zip_nil_right] at hz; cases hz
        | cons rb hwi' =>
          rw [List.zip_cons_cons] at hz
          injection hz with hyx hrest
          injection hyx with hy hx
          subst hy hx
          rw [lexV_cons] at hR
          simp only [List.length_cons] at hlen
          obtain ⟨⟨e, he, hiff⟩, hri⟩ := alike_at hal'.1 ra rb A.in1 ⟨hp, g, d, tk, os⟩
          refine wpAny_bind (he prog w _ _ ?_)
          cases e with
          | true =>
            rw [if_pos (hiff.mp rfl)] at hR
            wp_walk
            exact ⟨rfl, rfl, _, _, _, _, hrest, hvi', hwi', hal'.2, by omega, hR⟩
          | false =>
            rw [if_neg (fun q => absurd (hiff.mpr q) Bool.false_ne_true)] at hR
            have hri := hri prog w
            wp_walk using hri
            exact ⟨_, rfl, by simpa using hR⟩
    case fin =>
      rintro ⟨b1, b2⟩ s' ⟨hb', rfl, vs, ws, ns', ms', hz, hvi, hwi, hal', hlen, hR⟩
      simp only at hb'
      subst hb'
      have hv : lexV ns' ms' = decide (items.size < items2.size) := by
        cases hvi with
        | nil =>
          cases hwi with
          | nil =>
            simp only [List.length_nil] at hlen
            rw [lexV_nil_nil]
            exact (decide_eq_false (by omega)).symm
          | cons rc hw =>
            simp only [List.length_nil, List.length_cons] at hlen
            rw [lexV_nil_cons]
            exact (decide_eq_true (by omega)).symm
        | cons ra hv =>
          cases hwi with
          | nil =>
            simp only [List.length_nil, List.length_cons] at hlen
            rw [lexV_cons_nil]
            exact (decide_eq_false (by omega)).symm
          | cons rc hw =>
            rw [List.zip_cons_cons] at hz
            cases hz
      rw [hv] at hR
      wp_walk
      exact ⟨_, rfl, by simpa [Builtin.Tuple.tupleCompareSizes] using hR⟩
    case h =>
      exact ⟨rfl, rfl, items.toList, items2.toList, xs, ys, rfl, hi, hj, hal, by omega, h⟩
end
theorem lt_tupMix {prog : Program} {w : World} {A : Around} {E : Value → Shared → Prop} {s : Shared} {l b : Addr} {items items2 : Array Value} {xs ys : List V} {Q : Value → Shared → Prop} (hl : IsTup s.heap l items) (hb : IsTup s.heap b items2) (hi : Vals xs items.toList) (hj : Vals ys items2.toList) (hal : AllAlike xs ys)
    (hu : A.units < cLine) (h : Q (.bool (lexV xs ys)) s) : wpAny (model prog w) A (compareOp .Lt (.ref l) (.ref b)) Q E s := by
  obtain ⟨⟨cls, dd, data, sl⟩, ho, hc, n, hd⟩ := id hl
  obtain ⟨⟨cls2, dd2, data2, sl2⟩, ho2, hc2, n2, hd2⟩ := id hb
  simp only at hc hd hc2 hd2
  subst hc hd hc2 hd2
  exact richCompare_meets_room (op := .Lt) ⟨_, ho, rfl⟩ ⟨_, ho2, rfl⟩ PySem.F.slot_tuple_lt PySem.F.entry_tuple_lt (PySem.F.args_tuple_lt_2 _ _) (tuple_lt_mix l b items items2 n n2 dd dd2 sl sl2 xs ys hi hj hal)
    ⟨ho, ho2, show Value.bool (lexV xs ys) ≠ Value.notImplemented ∧ Q (.bool (lexV xs ys)) s from ⟨(fun x => nomatch x), h⟩⟩ hu
end HT
namespace L2
open PySem PySem.Spec PyProof.Rows
section
variable {X : Cx}
inductive RLtMP (K : PySem.W.Frag) (x : V) (y : V) (H : Hp) (Q : VK) : Prop
  | mk (a b xs ys : _) : (x = .ref a) → (y = .ref b) → (SqT K H a xs) → (SqT K H b ys) → (HT.AllAlike xs ys) → (Q (.bl (HT.lexV xs ys)) H) → RLtMP K x y H Q
def rLtM (K : PySem.W.Frag) : R2 := fun x y H Q => RLtMP K x y H Q
theorem op_ltM (hu : X.A.units < cLine) : OpR X (compareOp .Lt) (rLtM X.K) := by
  intro pins s σ H x y v u Q I rx ry h
  obtain ⟨a, b, xs, ys, rfl, rfl, ha, hb, hal, q⟩ := h
  cases rx
  cases ry
  obtain ⟨its, r1, p1, _⟩ := I.tuple ha
  obtain ⟨its2, r2, p2, _⟩ := I.tuple hb
  exact HT.lt_tupMix p1 p2 (by simpa using r1) (by simpa using r2) hal hu ⟨.bl _, H, I, rfl, q⟩
theorem op_mulS : OpR X (binaryOp .Mult) (fun x y H Q => ∃ z k, x = .str z ∧ y = .int k ∧ ((k = 0 ∧ Q (.str Str.empty) H) ∨ (k = 1 ∧ Q (.str z) H))) := by
  intro pins s σ H x y v u Q I rx ry h
  obtain ⟨z, k, rfl, rfl, h⟩ := h
  obtain ⟨t, rfl⟩ := rx
  obtain ⟨t2, rfl⟩ := ry
  rcases h with ⟨rfl, q⟩ | ⟨rfl, q⟩
  · exact PySem.P.mul_str_none (by decide) (by decide) ⟨.str _, H, I.tok _, ⟨_, rfl⟩, q⟩
  · refine PySem.P.mul_str (by decide) (fun _ e => by simp at e) (fun _ e => by simp at e) ?_
    rw [if_neg (by decide), if_pos (by simp)]
    exact ⟨.str _, H, I, ⟨_, rfl⟩, q⟩
inductive RIndexSP (x : V) (vs : List V) (H : Hp) (Q : VK) : Prop
  | mk (z y : Str) (i : Nat) (rest : List Nat) : (x = .str z) → (vs = [.str y]) → (Builtin.Str.occurrences z y 0 z.length 1 = i :: rest) → (Q (.int i) H) → RIndexSP x vs H Q
def rIndexS : V → List V → Hp → VK → Prop := fun x vs H Q => RIndexSP x vs H Q
theorem mt_indexS : MtM X "str.index" rIndexS := by
  intro pins s σ H x xs v us Q I rx r h
  obtain ⟨z, y, i, rest, rfl, rfl, ho, q⟩ := h
  obtain ⟨t, rfl⟩ := rx
  obtain ⟨u, rfl, ⟨t2, rfl⟩⟩ := vals1 r
  refine call_gives PySem.F.slot_str_index (typeIs_str _ _ _) PySem.F.entry_str_index (PySem.F.args_str_index_2 _ _) (gives_str_index z y t t2 i rest ho) ?_
  exact ⟨.int i, H, I.tok _, ⟨_, rfl⟩, q⟩
inductive RInsert0P (x : V) (vs : List V) (H : Hp) (Q : VK) : Prop
  | mk (l xs y : _) : (x = .ref l) → (vs = [.int 0, y]) → (H l = some (.lst xs)) → (xs.length < sizeLine) → (Q .non (upd H l (.lst (y :: xs)))) → RInsert0P x vs H Q
def rInsert0 : V → List V → Hp → VK → Prop := fun x vs H Q => RInsert0P x vs H Q
theorem mt_insert0 : MtM X "list.insert" rInsert0 := by
  intro pins s σ H x vs v us Q I rx rv h
  obtain ⟨l, xs, y, rfl, rfl, hH, hz, q⟩ := h
  cases rx
  cases rv with
  | cons r1 rv =>
    cases rv with
    | cons r2 rv =>
      cases rv
      obtain ⟨t, rfl⟩ := r1
      rename_i u2
      obtain ⟨z, its, n, r, hl, e⟩ := I.lstM hH
      refine call_meets PySem.F.slot_list_insert ⟨_, e, rfl⟩ PySem.F.entry_list_insert (PySem.F.args_list_insert_3 _ _ _) (AutoSeq1.list_insert_list_int_val_1 l its.toArray n 0 t u2 (by decide) (by rw [List.size_toArray]; omega)) ⟨e, ?_⟩
      refine ⟨.non, _, I.lset (its' := u2 :: its) hH e ?_ (.cons r2 r) ?_, rfl, q⟩
      · simp
      · rw [List.length_cons]; omega
end
end L2
set_option maxHeartbeats 1000000
namespace L2
open PySem PySem.Spec PyProof.Rows
end L2
set_option maxHeartbeats 1000000
namespace L2
open PySem PySem.Spec PyProof.Rows
end L2
set_option maxHeartbeats 1000000
namespace L2
open PySem PySem.Spec PyProof.Rows
end L2
set_option maxHeartbeats 1000000
namespace PySem
open PyProof.Rows
end PySem
namespace L2
open PySem PySem.Spec PyProof.Rows
end L2
set_option maxHeartbeats 1000000
namespace PySem
open PyProof.Rows
namespace F
end F
end PySem
namespace L2
open PySem PySem.Spec PyProof.Rows
end L2
set_option maxHeartbeats 1000000
namespace Wk
open PySem
abbrev T4 := Str × Nat × Nat × Int
def nbT (v : Nat) (t : T4) : List (Str × Nat) := (if t.2.1 = v then [(t.1, t.2.2.1)] else []) ++ (if t.2.2.1 = v then [(t.1, t.2.1)] else [])
def nbrs (S : List T4) (v : Nat) : List (Str × Nat) := S.flatMap (nbT v)
abbrev Ws := List (Option (List Str))
def visit (w : List Str) : List (Str × Nat) → Ws × List Nat → Ws × List Nat
  | [], st => st
  | (n, u) :: r, st => if st.1[u]? = some none then visit w r (st.1.set u (some (w ++ [n])), st.2 ++ [u]) else visit w r st
def bstep (S : List T4) (st : Ws × List Nat) : Ws × List Nat :=
  match st.2 with
  | [] => st
  | h :: rest => visit ((st.1[h]?.join).getD []) (nbrs S h) (st.1, rest)
def binit (N p : Nat) : Ws × List Nat := ((List.replicate N none).set p (some []), [p])
def iter (S : List T4) : Nat → Ws × List Nat → Ws × List Nat
  | 0, st => st
  | n + 1, st => iter S n (bstep S st)
def waysF (N : Nat) (S : List T4) (p : Nat) : Ws := (iter S 64 (binit N p)).1
theorem iter_nil {S : List T4} : ∀ (n : Nat) {ws : Ws}, iter S n (ws, []) = (ws, [])
  | 0, _ => rfl
  | n + 1, ws => iter_nil n (ws := ws)
theorem iter_snoc {S : List T4} : ∀ (n : Nat) (st : Ws × List Nat), iter S (n + 1) st = bstep S (iter S n st)
  | 0, st => rfl
  | n + 1, st => iter_snoc n (bstep S st)
theorem iter_add {S : List T4} (m : Nat) : ∀ (n : Nat) (st : Ws × List Nat), iter S (n + m) st = iter S m (iter S n st)
  | 0, st => by rw [Nat.zero_add]; rfl
  | n + 1, st => by rw [show n + 1 + m = (n + m) + 1 by omega]; exact iter_add m n (bstep S st)
theorem ways_of {N p i : Nat} {S : List T4} {ws : Ws} (h : iter S i (binit N p) = (ws, [])) (hi : i ≤ 64) : waysF N S p = ws := by
  unfold waysF
  rw [show 64 = i + (64 - i) by omega, iter_add, h, iter_nil]
inductive Lead (S : List T4) (a : Nat) : List Str → Nat → Prop
  | nil : Lead S a [] a
  | snoc {ws : List Str} {b c : Nat} {n : Str} : Lead S a ws b → (n, c) ∈ nbrs S b → Lead S a (ws ++ [n]) c
def nones (ws : Ws) : Nat := ws.countP (· == none)
def Vis (ws : Ws) (v : Nat) (w : List Str) : Prop := ws[v]? = some (some w)
structure PInv (S : List T4) (N p h : Nat) (w : List Str) (st : Ws × List Nat) : Prop where
  len : st.1.length = N
  lead : ∀ v x, Vis st.1 v x → Lead S p x v
  vis : ∀ v ∈ st.2, ∃ x, Vis st.1 v x
  done : ∀ v x, Vis st.1 v x → v ∈ st.2 ∨ v = h ∨ ∀ nb ∈ nbrs S v, ∃ y, Vis st.1 nb.2 y ∧ y.length ≤ x.length + 1
  sorted : st.2.Pairwise fun a b => ∀ x y, Vis st.1 a x → Vis st.1 b y → x.length ≤ y.length
  top : ∀ v x b y, Vis st.1 v x → b ∈ st.2 → Vis st.1 b y → x.length ≤ y.length + 1
  hv : Vis st.1 h w
  ht : ∀ v x, Vis st.1 v x → x.length ≤ w.length + 1
  hb : ∀ b y, b ∈ st.2 → Vis st.1 b y → w.length ≤ y.length
theorem vis_set {ws : Ws} {u : Nat} {z : List Str} (hu : ws[u]? = some none) {v : Nat} {x : List Str} : Vis (ws.set u (some z)) v x ↔ (v = u ∧ x = z) ∨ Vis ws v x := by
  unfold Vis
  have hl : u < ws.length := (List.getElem?_eq_some_iff.mp hu).1
  rw [List.getElem?_set]
  by_cases e : u = v
  · subst e
    rw [if_pos rfl, if_pos hl, hu]
    constructor
    · intro q; left; exact ⟨rfl, by simpa using q.symm⟩
    · rintro (⟨_, rfl⟩ | q)
      · rfl
      · simp at q
  · rw [if_neg e]
    constructor
    · exact .inr
    · rintro (⟨rfl, _⟩ | q)
      · exact absurd rfl e
      · exact q
theorem vis_inj {ws : Ws} {v : Nat} {x y : List Str} (a : Vis ws v x) (b : Vis ws v y) : x = y := by
  unfold Vis at a b; rw [a] at b; simpa using b
theorem visit_ok {S : List T4} {N p h : Nat} {w : List Str} : ∀ (L : List (Str × Nat)) (st : Ws × List Nat), PInv S N p h w st → (∀ nb ∈ L, nb ∈ nbrs S h ∧ nb.2 < N) →
    PInv S N p h w (visit w L st) ∧ (∀ v x, Vis st.1 v x → Vis (visit w L st).1 v x) ∧ (∀ nb ∈ L, ∃ y, Vis (visit w L st).1 nb.2 y ∧ y.length ≤ w.length + 1) ∧ nones (visit w L st).1 + (visit w L st).2.length = nones st.1 + st.2.length
  | [], st, I, _ => ⟨I, fun _ _ e => e, fun nb h => (by cases h), rfl⟩
  | (n, u) :: r, st, I, hL => by
    have hr : ∀ nb ∈ r, nb ∈ nbrs S h ∧ nb.2 < N := fun nb q => hL nb (List.mem_cons_of_mem _ q)
    have hn := hL (n, u) (List.mem_cons_self ..)
    have hu : u < st.1.length := by rw [I.len]; exact hn.2
    unfold visit
    by_cases e : st.1[u]? = some none
    · rw [if_pos e]
      have I' : PInv S N p h w (st.1.set u (some (w ++ [n])), st.2 ++ [u]) := by
        have nu : ∀ x, ¬ Vis st.1 u x := fun x q => by unfold Vis at q; rw [e] at q; simp at q
        refine ⟨by simp [I.len], ?_, ?_, ?_, ?_, ?_, ?_, ?_, ?_⟩
        · intro v x q
          rcases (vis_set e).mp q with ⟨rfl, rfl⟩ | q
          · exact .snoc (I.lead h w I.hv) hn.1
          · exact I.lead v x q
        · intro v q
          rcases List.mem_append.mp q with q | q
          · obtain ⟨x, hx⟩ := I.vis v q; exact ⟨x, (vis_set e).mpr (.inr hx)⟩
          · rw [List.mem_singleton.mp q]; exact ⟨_, (vis_set e).mpr (.inl ⟨rfl, rfl⟩)⟩
        · intro v x q
          rcases (vis_set e).mp q with ⟨rfl, rfl⟩ | q
          · exact .inl (List.mem_append_right _ (List.mem_singleton.mpr rfl))
          · rcases I.done v x q with a | a | a
            · exact .inl (List.mem_append_left _ a)
            · exact .inr (.inl a)
            · exact .inr (.inr fun nb hb => let ⟨y, hy, hl⟩ := a nb hb; ⟨y, (vis_set e).mpr (.inr hy), hl⟩)
        · refine List.pairwise_append.mpr ⟨?_, List.pairwise_singleton .., ?_⟩
          · refine (List.Pairwise.imp_of_mem ?_ I.sorted)
            intro a b ha hb k x y hx hy
            have hx' : Vis st.1 a x := by
              rcases (vis_set e).mp hx with ⟨rfl, _⟩ | q
              · obtain ⟨z, hz⟩ := I.vis _ ha; exact absurd hz (nu z)
              · exact q
            have hy' : Vis st.1 b y := by
              rcases (vis_set e).mp hy with ⟨rfl, _⟩ | q
              · obtain ⟨z, hz⟩ := I.vis _ hb; exact absurd hz (nu z)
              · exact q
            exact k x y hx' hy'
          · intro a ha b hb x y hx hy
            rw [List.mem_singleton.mp hb] at hy
            rcases (vis_set e).mp hy with ⟨_, rfl⟩ | q
            · rcases (vis_set e).mp hx with ⟨_, rfl⟩ | q
              · exact Nat.le_refl _
              · have := I.ht a x q; simp only [List.length_append, List.length_cons, List.length_nil]; assumption
            · exact absurd q (nu y)
        · intro v x b y hx hb hy
          have hx1 : x.length ≤ w.length + 1 := by
            rcases (vis_set e).mp hx with ⟨_, rfl⟩ | q
            · simp
            · exact I.ht v x q
          have hy1 : w.length ≤ y.length := by
            rcases (vis_set e).mp hy with ⟨_, rfl⟩ | q
            · simp
            · rcases List.mem_append.mp hb with hb | hb
              · exact I.hb b y hb q
              · rw [List.mem_singleton.mp hb] at q; exact absurd q (nu y)
          omega
        · exact (vis_set e).mpr (.inr I.hv)
        · intro v x hx
          rcases (vis_set e).mp hx with ⟨_, rfl⟩ | q
          · simp
          · exact I.ht v x q
        · intro b y hb hy
          rcases (vis_set e).mp hy with ⟨_, rfl⟩ | q
          · simp
          · rcases List.mem_append.mp hb with hb | hb
            · exact I.hb b y hb q
            · rw [List.mem_singleton.mp hb] at q; exact absurd q (nu y)
      obtain ⟨a, b, c, d⟩ := visit_ok r _ I' hr
      refine ⟨a, fun v x q => b v x ((vis_set e).mpr (.inr q)), fun nb q => ?_, ?_⟩
      · rcases List.mem_cons.mp q with rfl | q
        · exact ⟨_, b _ _ ((vis_set e).mpr (.inl ⟨rfl, rfl⟩)), by simp⟩
        · exact c nb q
      · rw [d]
        have : nones (st.1.set u (some (w ++ [n]))) + 1 = nones st.1 := by
          unfold nones
          have hg : st.1[u] = none := by have := List.getElem?_eq_some_iff.mp e; exact this.2
          rw [List.countP_set (h := hu), hg]
          have : 0 < st.1.countP (· == none) := List.countP_pos_iff.mpr ⟨none, by rw [← hg]; exact List.getElem_mem hu, rfl⟩
          simp only [beq_self_eq_true, if_true]
          show st.1.countP (· == none) - 1 + 0 + 1 = _
          omega
        simp only [List.length_append, List.length_cons, List.length_nil]
        omega
    · rw [if_neg e]
      obtain ⟨a, b, c, d⟩ := visit_ok r st I hr
      refine ⟨a, b, fun nb q => ?_, d⟩
      rcases List.mem_cons.mp q with rfl | q
      · have : ∃ y, Vis st.1 u y := by
          cases hh : st.1[u]? with
          | none => rw [List.getElem?_eq_getElem hu] at hh; cases hh
          | some z => cases z with
            | none => exact absurd hh e
            | some y => exact ⟨y, hh⟩
        obtain ⟨y, hy⟩ := this
        exact ⟨y, b _ _ hy, I.ht _ _ hy⟩
      · exact c nb q
structure BInv (S : List T4) (N p : Nat) (st : Ws × List Nat) : Prop where
  len : st.1.length = N
  p0 : Vis st.1 p []
  lead : ∀ v x, Vis st.1 v x → Lead S p x v
  vis : ∀ v ∈ st.2, ∃ x, Vis st.1 v x
  done : ∀ v x, Vis st.1 v x → v ∈ st.2 ∨ ∀ nb ∈ nbrs S v, ∃ y, Vis st.1 nb.2 y ∧ y.length ≤ x.length + 1
  sorted : st.2.Pairwise fun a b => ∀ x y, Vis st.1 a x → Vis st.1 b y → x.length ≤ y.length
  top : ∀ v x b y, Vis st.1 v x → b ∈ st.2 → Vis st.1 b y → x.length ≤ y.length + 1
def InN (N : Nat) (S : List T4) : Prop := ∀ t ∈ S, t.2.1 < N ∧ t.2.2.1 < N
theorem nb_lt {N : Nat} {S : List T4} (h : InN N S) {v : Nat} {nb : Str × Nat} (q : nb ∈ nbrs S v) : nb.2 < N := by
  obtain ⟨t, ht, q⟩ := List.mem_flatMap.mp q
  have := h t ht
  unfold nbT at q
  rcases List.mem_append.mp q with q | q
  · split at q
    · rw [List.mem_singleton.mp q]; exact this.2
    · cases q
  · split at q
    · rw [List.mem_singleton.mp q]; exact this.1
    · cases q
theorem binv0 {S : List T4} {N p : Nat} (hp : p < N) : BInv S N p (binit N p) := by
  have hu : (List.replicate N (none : Option (List Str)))[p]? = some none := by rw [List.getElem?_replicate]; rw [if_pos hp]
  have nv : ∀ v x, ¬ Vis (List.replicate N (none : Option (List Str))) v x := fun v x q => by
    unfold Vis at q; rw [List.getElem?_replicate] at q; split at q <;> simp at q
  have key : ∀ v x, Vis (binit N p).1 v x → v = p ∧ x = [] := fun v x q => by
    rcases (vis_set hu).mp q with q | q
    · exact q
    · exact absurd q (nv v x)
  refine ⟨by simp [binit], (vis_set hu).mpr (.inl ⟨rfl, rfl⟩), ?_, ?_, ?_, ?_, ?_⟩
  · intro v x q; obtain ⟨rfl, rfl⟩ := key v x q; exact .nil
  · intro v q; rw [List.mem_singleton.mp q]; exact ⟨_, (vis_set hu).mpr (.inl ⟨rfl, rfl⟩)⟩
  · intro v x q; obtain ⟨rfl, rfl⟩ := key v x q; exact .inl (List.mem_singleton.mpr rfl)
  · exact List.pairwise_singleton ..
  · intro v x b y q _ q2; obtain ⟨rfl, rfl⟩ := key v x q; simp
theorem binit_vis {N p : Nat} (hp : p < N) {v : Nat} {x : List Str} (q : Vis (binit N p).1 v x) : x = [] := by
  have hu : (List.replicate N (none : Option (List Str)))[p]? = some none := by rw [List.getElem?_replicate]; rw [if_pos hp]
  rcases (vis_set hu).mp q with q | q
  · exact q.2
  · unfold Vis at q; rw [List.getElem?_replicate] at q; split at q <;> simp at q
theorem pinv_of {S : List T4} {N p h : Nat} {ws : Ws} {rest : List Nat} (I : BInv S N p (ws, h :: rest)) : ∃ w, Vis ws h w ∧ PInv S N p h w (ws, rest) := by
  obtain ⟨w, hw⟩ := I.vis h (List.mem_cons_self ..)
  refine ⟨w, hw, I.len, I.lead, fun v q => I.vis v (List.mem_cons_of_mem _ q), ?_, (List.pairwise_cons.mp I.sorted).2, fun v x b y a q => I.top v x b y a (List.mem_cons_of_mem _ q), hw, fun v x q => I.top v x h w q (List.mem_cons_self ..) hw, fun b y q hb => (List.pairwise_cons.mp I.sorted).1 b q w y hw hb⟩
  intro v x q
  rcases I.done v x q with a | a
  · rcases List.mem_cons.mp a with rfl | a
    · exact .inr (.inl rfl)
    · exact .inl a
  · exact .inr (.inr a)
theorem bstep_ok {S : List T4} {N p h : Nat} {ws : Ws} {rest : List Nat} (hS : InN N S) (I : BInv S N p (ws, h :: rest)) :
    BInv S N p (bstep S (ws, h :: rest)) ∧ nones (bstep S (ws, h :: rest)).1 + (bstep S (ws, h :: rest)).2.length + 1 = nones ws + (h :: rest).length := by
  obtain ⟨w, hw, J⟩ := pinv_of I
  have e : bstep S (ws, h :: rest) = visit w (nbrs S h) (ws, rest) := by
    show visit ((ws[h]?.join).getD []) (nbrs S h) (ws, rest) = _
    unfold Vis at hw
    rw [hw]; rfl
  rw [e]
  obtain ⟨a, b, c, d⟩ := visit_ok (nbrs S h) (ws, rest) J fun nb q => ⟨q, nb_lt hS q⟩
  refine ⟨⟨a.len, b _ _ I.p0, a.lead, a.vis, ?_, a.sorted, a.top⟩, by rw [d]; rfl⟩
  intro v x q
  rcases a.done v x q with r | rfl | r
  · exact .inl r
  · refine .inr fun nb hb => ?_
    have := vis_inj q a.hv
    subst this
    exact c nb hb
  · exact .inr r
theorem iter_ok {S : List T4} {N p : Nat} (hS : InN N S) : ∀ (n : Nat) (st : Ws × List Nat), BInv S N p st → BInv S N p (iter S n st) ∧ ((iter S n st).2 = [] ∨ nones (iter S n st).1 + (iter S n st).2.length + n = nones st.1 + st.2.length)
  | 0, st, I => ⟨I, .inr rfl⟩
  | n + 1, (ws, []), I => by
    have e : iter S (n + 1) (ws, []) = (ws, []) := iter_nil (n + 1)
    rw [e]; exact ⟨I, .inl rfl⟩
  | n + 1, (ws, h :: rest), I => by
    obtain ⟨a, b⟩ := bstep_ok hS I
    obtain ⟨c, d⟩ := iter_ok hS n _ a
    refine ⟨c, ?_⟩
    rcases d with d | d
    · exact .inl d
    · refine .inr ?_
      show nones (iter S n (bstep S (ws, h :: rest))).1 + (iter S n (bstep S (ws, h :: rest))).2.length + (n + 1) = nones ws + (h :: rest).length
      omega
theorem ways_end {S : List T4} {N p : Nat} (hS : InN N S) (hp : p < N) (hN : N ≤ 60) : ∃ ws, iter S 64 (binit N p) = (ws, []) ∧ BInv S N p (ws, []) := by
  obtain ⟨a, b⟩ := iter_ok hS 64 (binit N p) (binv0 hp)
  have : nones (binit N p).1 + (binit N p).2.length ≤ N + 1 := by
    have : nones (binit N p).1 ≤ (binit N p).1.length := List.countP_le_length
    simp only [binit, List.length_set, List.length_replicate, List.length_singleton] at this ⊢
    exact Nat.succ_le_succ (by assumption)
  have e : (iter S 64 (binit N p)).2 = [] := by
    rcases b with b | b
    · exact b
    · omega
  refine ⟨(iter S 64 (binit N p)).1, Prod.ext rfl e, ?_⟩
  have : iter S 64 (binit N p) = ((iter S 64 (binit N p)).1, []) := Prod.ext rfl e
  rw [this] at a
  exact a
theorem ways_len {S : List T4} {N p : Nat} (hS : InN N S) (hp : p < N) (hN : N ≤ 60) : (waysF N S p).length = N := by
  obtain ⟨ws, e, I⟩ := ways_end hS hp hN
  rw [ways_of e (Nat.le_refl _)]; exact I.len
theorem ways_lead {S : List T4} {N p : Nat} (hS : InN N S) (hp : p < N) (hN : N ≤ 60) {v : Nat} {x : List Str} (h : Vis (waysF N S p) v x) : Lead S p x v := by
  obtain ⟨ws, e, I⟩ := ways_end hS hp hN
  rw [ways_of e (Nat.le_refl _)] at h; exact I.lead v x h
theorem ways_least {S : List T4} {N p : Nat} (hS : InN N S) (hp : p < N) (hN : N ≤ 60) {v : Nat} {x : List Str} (h : Lead S p x v) : ∃ y, Vis (waysF N S p) v y ∧ y.length ≤ x.length := by
  obtain ⟨ws, e, I⟩ := ways_end hS hp hN
  rw [ways_of e (Nat.le_refl _)]
  induction h with
  | nil => exact ⟨[], I.p0, Nat.le_refl _⟩
  | snoc a b ih =>
    obtain ⟨y, hy, hl⟩ := ih
    rcases I.done _ _ hy with q | q
    · cases q
    · obtain ⟨z, hz, hl2⟩ := q _ b
      exact ⟨z, hz, by simp only [List.length_append, List.length_cons, List.length_nil] at hl2 ⊢; omega⟩
def partF (N : Nat) (S : List T4) (p : Nat) : List Nat := (List.range N).filter fun v => ((waysF N S p)[v]?.join).isSome
def Reach (S : List T4) (a b : Nat) : Prop := ∃ ws, Lead S a ws b
theorem vis_iff {ws : Ws} {v : Nat} : (ws[v]?.join).isSome = true ↔ ∃ x, Vis ws v x := by
  unfold Vis
  cases ws[v]? with
  | none => simp
  | some z => cases z <;> simp
theorem mem_part {S : List T4} {N p v : Nat} (hS : InN N S) (hp : p < N) (hN : N ≤ 60) : v ∈ partF N S p ↔ v < N ∧ Reach S p v := by
  unfold partF
  rw [List.mem_filter, List.mem_range, vis_iff]
  constructor
  · rintro ⟨a, x, hx⟩; exact ⟨a, x, ways_lead hS hp hN hx⟩
  · rintro ⟨a, x, hx⟩; obtain ⟨y, hy, _⟩ := ways_least hS hp hN hx; exact ⟨a, y, hy⟩
theorem Reach.refl {S : List T4} {a : Nat} : Reach S a a := ⟨[], .nil⟩
theorem nb_symm {S : List T4} {a b : Nat} {n : Str} (h : (n, b) ∈ nbrs S a) : (n, a) ∈ nbrs S b := by
  obtain ⟨t, ht, q⟩ := List.mem_flatMap.mp h
  refine List.mem_flatMap.mpr ⟨t, ht, ?_⟩
  unfold nbT at q ⊢
  rcases List.mem_append.mp q with q | q
  · split at q
    · rename_i e
      have := List.mem_singleton.mp q
      cases this
      refine List.mem_append_right _ ?_
      rw [if_pos rfl, e]; exact List.mem_singleton.mpr rfl
    · cases q
  · split at q
    · rename_i e
      have := List.mem_singleton.mp q
      cases this
      refine List.mem_append_left _ ?_
      rw [if_pos rfl, e]; exact List.mem_singleton.mpr rfl
    · cases q
theorem Reach.trans {S : List T4} {a b c : Nat} (h : Reach S a b) (g : Reach S b c) : Reach S a c := by
  obtain ⟨x, hx⟩ := h
  obtain ⟨y, hy⟩ := g
  induction hy with
  | nil => exact ⟨x, hx⟩
  | snoc _ q ih => obtain ⟨z, hz⟩ := ih; exact ⟨_, .snoc hz q⟩
theorem Reach.step {S : List T4} {a b : Nat} {n : Str} (h : (n, b) ∈ nbrs S a) : Reach S a b := ⟨[] ++ [n], .snoc .nil h⟩
theorem Reach.symm {S : List T4} {a b : Nat} (h : Reach S a b) : Reach S b a := by
  obtain ⟨x, hx⟩ := h
  induction hx with
  | nil => exact .refl
  | snoc _ q ih => exact (Reach.step (nb_symm q)).trans ih
theorem nb_of {S : List T4} {t : T4} (h : t ∈ S) : (t.1, t.2.2.1) ∈ nbrs S t.2.1 := List.mem_flatMap.mpr ⟨t, h, List.mem_append_left _ (by rw [if_pos rfl]; exact List.mem_singleton.mpr rfl)⟩
theorem nb_elim {S : List T4} {a b : Nat} {n : Str} (h : (n, b) ∈ nbrs S a) : ∃ t ∈ S, t.1 = n ∧ ((t.2.1 = a ∧ t.2.2.1 = b) ∨ (t.2.2.1 = a ∧ t.2.1 = b)) := by
  obtain ⟨t, ht, q⟩ := List.mem_flatMap.mp h
  refine ⟨t, ht, ?_⟩
  unfold nbT at q
  rcases List.mem_append.mp q with q | q
  · split at q
    · rename_i e
      have := List.mem_singleton.mp q
      cases this
      exact ⟨rfl, .inl ⟨e, rfl⟩⟩
    · cases q
  · split at q
    · rename_i e
      have := List.mem_singleton.mp q
      cases this
      exact ⟨rfl, .inr ⟨e, rfl⟩⟩
    · cases q
def relab (l : List Nat) (lo hi : Nat) : List Nat := l.map fun x => if x = hi then lo else x
theorem relab_get {l : List Nat} {lo hi v : Nat} (hv : v < l.length) : (relab l lo hi).getD v 0 = if l.getD v 0 = hi then lo else l.getD v 0 := by
  unfold relab
  rw [List.getD_eq_getElem?_getD, List.getElem?_map, List.getElem?_eq_getElem hv, List.getD_eq_getElem?_getD, List.getElem?_eq_getElem hv]; rfl
theorem nbrs_mono {S S' : List T4} (h : ∀ t ∈ S, t ∈ S') {v : Nat} {nb : Str × Nat} (q : nb ∈ nbrs S v) : nb ∈ nbrs S' v := by
  obtain ⟨t, ht, q⟩ := List.mem_flatMap.mp q
  exact List.mem_flatMap.mpr ⟨t, h t ht, q⟩
theorem Reach.mono {S S' : List T4} (h : ∀ t ∈ S, t ∈ S') {a b : Nat} (q : Reach S a b) : Reach S' a b := by
  obtain ⟨x, hx⟩ := q
  induction hx with
  | nil => exact .refl
  | snoc _ q ih => exact ih.trans (.step (nbrs_mono h q))
end Wk
set_option maxHeartbeats 1000000
namespace L2
open PySem
theorem while_gh {c : TT} {tb : TS} {D : Ends} {σ : St} {H : Hp} (Pv : Nat → St → Hp → Prop) {m0 : Nat} (h0 : Pv m0 σ H)
    (hs : ∀ m σ H, Pv m σ H → c σ H fun b H1 => if b = true then tb { D with nx := fun σ' H' => ∃ m', m' < m ∧ Pv m' σ' H', ct := fun σ' H' => ∃ m', m' < m ∧ Pv m' σ' H', bk := D.nx } σ H1 else D.nx σ H1)
    (mono : ∀ σ H Q Q', (∀ b H1, Q b H1 → Q' b H1) → c σ H Q → c σ H Q') : tWhile c tb D σ H := by
  refine ⟨Pv, ⟨m0, h0⟩, fun m σ H p => ?_⟩
  refine mono σ H _ _ (fun b H1 q => ?_) (hs m σ H p)
  cases b with
  | true => exact ⟨_, fun _ _ h => h, q⟩
  | false => exact q
theorem same_set {H0 H : Hp} {a : Addr} {o : HO} (s : Same H0 H) (n : H0 a = none) : Same H0 (upd H a o) := fun b u e => by
  rw [upd_ne (ne_of_none e n)]; exact s b u e
theorem inV_ints (x : Int) (zs : List Int) : inV (.int x) (zs.map V.int) = decide (x ∈ zs) := by
  unfold inV
  induction zs with
  | nil => simp
  | cons z zs ih =>
    rw [List.map_cons, List.any_cons, ih]
    have : eqV (.int z) (.int x) = decide (x = z) := by
      show (z == x) = _
      rw [Bool.eq_iff_iff, beq_iff_eq, decide_eq_true_eq]; exact eq_comm
    rw [this, Bool.eq_iff_iff]; simp
theorem flat_ints (ns : List Int) : (ns.map V.int).all flatV = true := by
  induction ns with
  | nil => rfl
  | cons n ns ih => rw [List.map_cons, List.all_cons, ih]; rfl
theorem map_some {α β : Type} {f : α → β} {l : List α} {i : Nat} {x : β} (h : (l.map f)[i]? = some x) : ∃ z, l[i]? = some z ∧ x = f z := by
  rw [List.getElem?_map] at h
  cases q : l[i]? with
  | none => rw [q] at h; cases h
  | some z => rw [q] at h; exact ⟨z, rfl, (Option.some.inj h).symm⟩
theorem ixN_nat {n j : Nat} (h : j < n) : ixN n (j : Int) = some j := by
  unfold ixN
  rw [if_pos (by exact Int.natCast_nonneg _), if_pos (by omega)]; simp
theorem getq {α : Type} {l : List α} {i : Nat} (h : i < l.length) : l[i]? = some l[i] := List.getElem?_eq_getElem h
end L2
namespace Wk
open PySem L2
def tieV (t : T4) : List V := [.str t.1, .int (t.2.1 : Int), .int (t.2.2.1 : Int), .int t.2.2.2]
def TiesAt (H : Hp) (rs : List Addr) (S : List T4) : Prop := rs.length = S.length ∧ ∀ (i : Nat) r t, rs[i]? = some r → S[i]? = some t → H r = some (.tup (tieV t))
theorem TiesAt.same {H H' : Hp} {rs : List Addr} {S : List T4} (h : TiesAt H rs S) (s : Same H H') : TiesAt H' rs S := ⟨h.1, fun i r t a b => s _ _ (h.2 i r t a b)⟩
theorem TiesAt.get {H : Hp} {rs : List Addr} {S : List T4} (h : TiesAt H rs S) {i : Nat} {r : Addr} (hr : rs[i]? = some r) : ∃ t, S[i]? = some t ∧ H r = some (.tup (tieV t)) := by
  have hi : i < S.length := by rw [← h.1]; exact (List.getElem?_eq_some_iff.mp hr).1
  exact ⟨S[i], getq hi, h.2 i r _ hr (getq hi)⟩
def PrsAt (H : Hp) (l : Addr) (ps : List (Str × Nat)) : Prop := ∃ rs : List Addr, H l = some (.lst (rs.map V.ref)) ∧ rs.length = ps.length ∧ ∀ (i : Nat) r q, rs[i]? = some r → ps[i]? = some q → H r = some (.tup [.str q.1, .int (q.2 : Int)])
theorem PrsAt.same {H H' : Hp} {l : Addr} {ps : List (Str × Nat)} (h : PrsAt H l ps) (s : Same H H') : PrsAt H' l ps := let ⟨rs, a, b, c⟩ := h; ⟨rs, s _ _ a, b, fun i r q e f => s _ _ (c i r q e f)⟩
def BesAt (H : Hp) (b : Addr) (N : Nat) (f : Nat → List (Str × Nat)) : Prop := ∃ ls : List Addr, H b = some (.lst (ls.map V.ref)) ∧ ls.length = N ∧ ∀ (v : Nat) l, ls[v]? = some l → PrsAt H l (f v)
theorem BesAt.same {H H' : Hp} {b : Addr} {N : Nat} {f : Nat → List (Str × Nat)} (h : BesAt H b N f) (s : Same H H') : BesAt H' b N f := let ⟨ls, x, y, z⟩ := h; ⟨ls, s _ _ x, y, fun v l e => (z v l e).same s⟩
structure Bes (H0 H : Hp) (b : Addr) (ls : List Addr) (N : Nat) (f : Nat → List (Str × Nat)) : Prop where
  same : Same H0 H
  hb : H b = some (.lst (ls.map V.ref))
  len : ls.length = N
  nd : ls.Nodup
  new : ∀ l ∈ ls, H0 l = none ∧ l ≠ b
  prs : ∀ (v : Nat) l, ls[v]? = some l → PrsAt H l (f v)
theorem nd_ix {ls : List Addr} (h : ls.Nodup) {i j : Nat} {l : Addr} (a : ls[i]? = some l) (b : ls[j]? = some l) : i = j := by
  have hi := (List.getElem?_eq_some_iff.mp a).1
  exact (List.getElem?_inj hi h).mp (by rw [a, b])
theorem Bes.app {H0 H : Hp} {b : Addr} {ls : List Addr} {N v : Nat} {f : Nat → List (Str × Nat)} {l p : Addr} {xs : List V} {n : Str} {u : Nat} (B : Bes H0 H b ls N f) (hv : ls[v]? = some l) (hp : H p = none) (hl : H l = some (.lst xs)) :
    Bes H0 (upd (upd H p (.tup [.str n, .int (u : Int)])) l (.lst (xs ++ [.ref p]))) b ls N (fun x => if x = v then f v ++ [(n, u)] else f x) := by
  have lm : l ∈ ls := List.mem_of_getElem? hv
  have s1 := same_new (o := .tup [.str n, .int (u : Int)]) hp
  have lp : l ≠ p := ne_of_none hl hp
  refine ⟨same_set (B.same.trans s1) (B.new l lm).1, by rw [upd_ne (B.new l lm).2.symm]; exact s1 _ _ B.hb, B.len, B.nd, B.new, fun x k hx => ?_⟩
  obtain ⟨rs, h1, h2, h3⟩ := B.prs x k hx
  have tl : ∀ (r : Addr) ys, H r = some (.tup ys) → upd (upd H p (.tup [.str n, .int (u : Int)])) l (.lst (xs ++ [.ref p])) r = some (.tup ys) := fun r ys e => by
    rw [upd_ne (ne_of e hl (by intro z; cases z))]; exact s1 _ _ e
  by_cases e : x = v
  · subst e
    rw [hv] at hx
    cases hx
    rw [hl] at h1
    injection h1 with h1
    injection h1 with h1
    simp only [if_true]
    refine ⟨rs ++ [p], by rw [upd_same, h1, List.map_append]; rfl, by simp [h2], fun i r q hr hq => ?_⟩
    rw [List.getElem?_append] at hr hq
    by_cases hi : i < rs.length
    · rw [if_pos hi] at hr
      rw [if_pos (by omega)] at hq
      exact tl _ _ (h3 i r q hr hq)
    · rw [if_neg hi] at hr
      rw [if_neg (by omega), ← h2] at hq
      have : i - rs.length = 0 := by
        have := (List.getElem?_eq_some_iff.mp hr).1
        simp at this; assumption
      rw [this] at hr hq
      cases hr
      cases hq
      rw [upd_ne lp.symm]; exact upd_same
  · simp only [if_neg e]
    have kl : k ≠ l := fun q => by subst q; exact e (nd_ix B.nd hx hv)
    exact ⟨rs, by rw [upd_ne kl]; exact s1 _ _ h1, h2, fun i r q hr hq => tl _ _ (h3 i r q hr hq)⟩
theorem nbrs_snoc (S : List T4) (t : T4) (v : Nat) : nbrs (S ++ [t]) v = nbrs S v ++ nbT v t := by unfold nbrs; rw [List.flatMap_append]; simp
theorem nb_two (S : List T4) (t : T4) : (fun x => if x = t.2.2.1 then (fun x => if x = t.2.1 then nbrs S t.2.1 ++ [(t.1, t.2.2.1)] else nbrs S x) t.2.2.1 ++ [(t.1, t.2.1)] else (fun x => if x = t.2.1 then nbrs S t.2.1 ++ [(t.1, t.2.2.1)] else nbrs S x) x) = nbrs (S ++ [t]) := by
  funext x
  rw [nbrs_snoc]
  unfold nbT
  by_cases a : t.2.1 = x
  · subst a
    rw [if_pos rfl]
    by_cases b : t.2.2.1 = t.2.1
    · rw [if_pos b, if_pos b.symm]; dsimp only; rw [if_pos b]; simp
    · rw [if_neg b, if_neg (Ne.symm b)]; dsimp only; rw [if_pos rfl]; simp
  · rw [if_neg a]
    by_cases b : t.2.2.1 = x
    · subst b
      rw [if_pos rfl, if_pos rfl]; dsimp only; rw [if_neg (Ne.symm a)]; simp
    · rw [if_neg b, if_neg (Ne.symm b)]; dsimp only; rw [if_neg (Ne.symm a)]; simp
theorem nbrs_len (S : List T4) (v : Nat) : (nbrs S v).length ≤ 2 * S.length := by
  unfold nbrs
  induction S with
  | nil => simp
  | cons t S ih =>
    rw [List.flatMap_cons, List.length_append, List.length_cons]
    have : (nbT v t).length ≤ 2 := by unfold nbT; rw [List.length_append]; split <;> split <;> simp
    omega
def WayV (H : Hp) (x : V) : Option (List Str) → Prop
  | none => x = .non
  | some w => ∃ r, x = .ref r ∧ H r = some (.tup (w.map V.str))
def WaysAt (H : Hp) (a : Addr) (ws : Ws) : Prop := ∃ xs, H a = some (.lst xs) ∧ xs.length = ws.length ∧ ∀ (i : Nat) x o, xs[i]? = some x → ws[i]? = some o → WayV H x o
theorem WayV.mono {H H' : Hp} {x : V} {o : Option (List Str)} (f : ∀ r ys, H r = some (.tup ys) → H' r = some (.tup ys)) (h : WayV H x o) : WayV H' x o := by
  cases o with
  | none => exact h
  | some w => obtain ⟨r, a, b⟩ := h; exact ⟨r, a, f _ _ b⟩
theorem WaysAt.same {H H' : Hp} {a : Addr} {ws : Ws} (h : WaysAt H a ws) (s : Same H H') : WaysAt H' a ws := let ⟨xs, x, y, z⟩ := h; ⟨xs, s _ _ x, y, fun i u o e f => (z i u o e f).mono fun r ys => s r (.tup ys)⟩
theorem WaysAt.keep {H : Hp} {a l : Addr} {ws : Ws} {ys zs : List V} (h : WaysAt H a ws) (hl : H l = some (.lst ys)) (n : a ≠ l) : WaysAt (upd H l (.lst zs)) a ws := by
  obtain ⟨xs, x, y, z⟩ := h
  exact ⟨xs, by rw [upd_ne n]; exact x, y, fun i u o e f => (z i u o e f).mono fun r ys e => by rw [upd_ne (ne_of e hl (by intro z; cases z))]; exact e⟩
theorem WaysAt.get {H : Hp} {a : Addr} {ws : Ws} (h : WaysAt H a ws) {v : Nat} {o : Option (List Str)} (hv : ws[v]? = some o) : ∃ xs x, H a = some (.lst xs) ∧ xs[v]? = some x ∧ xs.length = ws.length ∧ WayV H x o := by
  obtain ⟨xs, x, y, z⟩ := h
  have hl : v < xs.length := by rw [y]; exact (List.getElem?_eq_some_iff.mp hv).1
  exact ⟨xs, xs[v], x, getq hl, y, z v _ o (getq hl) hv⟩
theorem WaysAt.set {H : Hp} {a r : Addr} {ws : Ws} {xs : List V} {u : Nat} {w : List Str} (h : WaysAt H a ws) (ha : H a = some (.lst xs)) (hr : H r = some (.tup (w.map V.str))) : WaysAt (upd H a (.lst (xs.set u (.ref r)))) a (ws.set u (some w)) := by
  obtain ⟨xs', x, y, z⟩ := h
  rw [ha] at x
  injection x with x
  injection x with x
  subst x
  have tl : ∀ (q : Addr) ys, H q = some (.tup ys) → upd H a (.lst (xs.set u (.ref r))) q = some (.tup ys) := fun q ys e => by
    rw [upd_ne (ne_of e ha (by intro z; cases z))]; exact e
  refine ⟨_, upd_same, by simp [y], fun i x o hx ho => ?_⟩
  rw [List.getElem?_set] at hx ho
  by_cases e : u = i
  · rw [if_pos e] at hx ho
    split at hx
    · rw [if_pos (by omega)] at ho
      cases hx
      cases ho
      exact ⟨r, rfl, tl _ _ hr⟩
    · cases hx
  · rw [if_neg e] at hx ho
    exact (z i x o hx ho).mono tl
def vis1 (w : List Str) (q : Str × Nat) (st : Ws × List Nat) : Ws × List Nat := if st.1[q.2]? = some none then (st.1.set q.2 (some (w ++ [q.1])), st.2 ++ [q.2]) else st
theorem vis1_no {w : List Str} {q : Str × Nat} {st : Ws × List Nat} (h : ¬ st.1[q.2]? = some none) : vis1 w q st = st := if_neg h
theorem vis1_yes {w : List Str} {q : Str × Nat} {st : Ws × List Nat} (h : st.1[q.2]? = some none) : vis1 w q st = (st.1.set q.2 (some (w ++ [q.1])), st.2 ++ [q.2]) := if_pos h
theorem visit_snoc (w : List Str) (q : Str × Nat) : ∀ (L : List (Str × Nat)) (st : Ws × List Nat), visit w (L ++ [q]) st = vis1 w q (visit w L st)
  | [], st => by unfold vis1; show visit w (q :: []) st = _; unfold visit; rfl
  | (n, u) :: r, st => by
    show visit w ((n, u) :: (r ++ [q])) st = _
    unfold visit
    split
    · exact visit_snoc w q r _
    · exact visit_snoc w q r _
theorem visit_vis (w : List Str) : ∀ (L : List (Str × Nat)) (st : Ws × List Nat) {v : Nat} {x : List Str}, Vis st.1 v x → Vis (visit w L st).1 v x
  | [], _, _, _, h => h
  | (n, u) :: r, st, v, x, h => by
    unfold visit
    split
    · rename_i e; exact visit_vis w r _ ((vis_set e).mpr (.inr h))
    · exact visit_vis w r _ h
theorem visit_len (w : List Str) : ∀ (L : List (Str × Nat)) (st : Ws × List Nat), (visit w L st).1.length = st.1.length ∧ (visit w L st).2.length ≤ st.2.length + L.length
  | [], st => ⟨rfl, Nat.le_refl _⟩
  | (n, u) :: r, st => by
    unfold visit
    split
    · obtain ⟨a, b⟩ := visit_len w r (st.1.set u (some (w ++ [n])), st.2 ++ [u])
      refine ⟨by rw [a]; simp, ?_⟩
      simp only [List.length_append, List.length_cons, List.length_nil] at b ⊢
      omega
    · obtain ⟨a, b⟩ := visit_len w r st
      exact ⟨a, by rw [List.length_cons]; exact Nat.le_succ_of_le (by assumption)⟩
theorem bstep_short {S : List T4} {N p h i : Nat} {ws : Ws} {rest : List Nat} (hS : InN N S) (I : BInv S N p (ws, h :: rest)) (hl : ∀ v x, Wk.Vis ws v x → x.length ≤ i) : ∀ v x, Wk.Vis (bstep S (ws, h :: rest)).1 v x → x.length ≤ i + 1 := by
  obtain ⟨w, hw, J⟩ := pinv_of I
  have e : bstep S (ws, h :: rest) = visit w (nbrs S h) (ws, rest) := by
    show visit ((ws[h]?.join).getD []) (nbrs S h) (ws, rest) = _
    unfold Wk.Vis at hw
    rw [hw]; rfl
  rw [e]
  obtain ⟨a, _⟩ := visit_ok (nbrs S h) (ws, rest) J fun nb q => ⟨q, nb_lt hS q⟩
  intro v x q
  have := a.ht v x q
  have := hl h w hw
  omega
theorem refs_inj {xs ys : List Addr} (h : xs.map V.ref = ys.map V.ref) : xs = ys := (List.map_inj_right (fun _ _ h => by injection h)).mp h
end Wk
set_option maxHeartbeats 1000000
namespace Wk
open PySem L2
abbrev LS : Str := Str.ofString "abcdefghijklmnopqrstuvwxyz"
theorem LS_eq : LS.cps.toList = (List.range 26).map (97 + ·) := by decide +kernel
theorem LS_at {v : Int} (h0 : 0 ≤ v) (h1 : v < 26) : atI LS.cps.toList v = some (97 + v.toNat) := by
  obtain ⟨j, rfl⟩ : ∃ j : Nat, v = (j : Int) := ⟨v.toNat, by omega⟩
  have hj : j < 26 := by omega
  refine atI_nat ?_
  rw [LS_eq, List.getElem?_map, List.getElem?_range hj]
  rfl
theorem cat_cps (x y : Str) : (x ++ y).cps.toList = x.cps.toList ++ y.cps.toList := by
  show (x.cps ++ y.cps).toList = _
  rw [Array.toList_append]
theorem join_cps : ∀ ws : List Nat, (Txt.join (Str.ofString "") (ws.map fun c => (⟨#[c]⟩ : Str))).cps.toList = ws := by
  have key : ∀ ws : List Nat, (Str.join (Str.ofString "") (ws.map fun c => (⟨#[c]⟩ : Str))).cps.toList = ws := by
    intro ws
    induction ws with
    | nil => rfl
    | cons c ws ih =>
      cases ws with
      | nil => rfl
      | cons d ws =>
        simp only [List.map_cons] at ih ⊢
        rw [Str.join, cat_cps, cat_cps, ih]
        · rfl
        · intro q; cases q
  intro ws
  show (Builtin.Str.glued _ _).cps.toList = _
  rw [StrLaws.glued_eq_join]
  exact key ws
theorem cutV_take {xs : List V} {n : Nat} (h : n ≤ xs.length) : cutV xs none (some (n : Int)) = xs.take n := by
  unfold cutV
  rw [HT.sIx_none, HT.sIx_nat, List.drop_zero, Nat.min_eq_left h, Nat.sub_zero]
theorem inV_strs (x : Str) (zs : List Str) : inV (.str x) (zs.map V.str) = decide (x ∈ zs) := by
  unfold inV
  induction zs with
  | nil => simp
  | cons z zs ih =>
    rw [List.map_cons, List.any_cons, ih]
    have : eqV (.str z) (.str x) = decide (x = z) := by
      show (z == x) = _
      rw [Bool.eq_iff_iff, beq_iff_eq, decide_eq_true_eq]; exact eq_comm
    rw [this, Bool.eq_iff_iff]; simp
theorem nat_of {v : Int} (h0 : 0 ≤ v) : ∃ j : Nat, v = (j : Int) := ⟨v.toNat, by omega⟩
end Wk
set_option maxHeartbeats 1000000
namespace Wk
open PySem L2
end Wk
namespace L2
open PySem
end L2
set_option maxHeartbeats 1000000
namespace Wk
open PySem L2
theorem rints_nat (N : Nat) : (rints 0 ((N : Int) - 0).toNat).map V.int = ((List.range N).map Int.ofNat).map V.int := by
  unfold rints
  rw [show ((N : Int) - 0).toNat = N by omega, List.map_map, List.map_map]
  refine List.map_congr_left fun k _ => ?_
  show V.int (0 + (k : Int)) = V.int (k : Int)
  rw [Int.zero_add]
theorem ints_at {l : List Nat} {v : Nat} (h : v < l.length) : atI ((l.map Int.ofNat).map V.int) (v : Int) = some (.int ((l.getD v 0 : Nat) : Int)) := by
  refine atI_nat ?_
  rw [List.getElem?_map, List.getElem?_map, getq h, List.getD_eq_getElem?_getD, getq h]; rfl
def keysOf (t : T4) : List Key := [.inr t.1, .inl (t.2.1 : Int), .inl (t.2.2.1 : Int), .inl t.2.2.2]
def tieOf : List Key → T4
  | [.inr n, .inl a, .inl b, .inl w] => (n, a.toNat, b.toNat, w)
  | _ => (Str.ofString "", 0, 0, 0)
theorem tieOf_keys (t : T4) : tieOf (keysOf t) = t := by
  obtain ⟨n, a, b, w⟩ := t
  show (n, (a : Int).toNat, (b : Int).toNat, w) = _
  simp
theorem keys_tieV (t : T4) : (keysOf t).map kV = tieV t := rfl
def IsTie (ks : List Key) : Prop := ∃ t, ks = keysOf t
end Wk
set_option maxHeartbeats 1000000
namespace Wk
open PySem L2
def aheadB (u t : T4) : Bool := HT.lexV [.int u.2.2.2, .str u.1] [.int t.2.2.2, .str t.1]
def aheadF (S : List T4) (t : T4) : List T4 := S.filter fun u => aheadB u t
def keepF (N : Nat) (S : List T4) (t : T4) : Bool := !decide (t.2.2.1 ∈ partF N (aheadF S t) t.2.1)
def lightF (N : Nat) (S : List T4) : List Str := (S.filter (keepF N S)).map (·.1)
def labG (l : List Nat) (t : T4) : List Nat := relab l (l.getD t.2.1 0) (l.getD t.2.2.1 0)
structure LabOk (N : Nat) (P : List T4) (l : List Nat) : Prop where
  len : l.length = N
  iff : ∀ u v, u < N → v < N → (l.getD u 0 = l.getD v 0 ↔ Reach P u v)
theorem lab0 (N : Nat) : LabOk N [] (List.range N) := by
  refine ⟨List.length_range .., fun u v hu hv => ?_⟩
  rw [List.getD_eq_getElem?_getD, List.getElem?_range hu, List.getD_eq_getElem?_getD, List.getElem?_range hv]
  constructor
  · intro e
    have : u = v := e
    subst this; exact .refl
  · rintro ⟨x, hx⟩
    cases hx with
    | nil => rfl
    | snoc _ q => simp [nbrs] at q
theorem lab_step {N : Nat} {P : List T4} {l : List Nat} (h : LabOk N P l) (hP : InN N P) {t : T4} (h1 : t.2.1 < N) (h2 : t.2.2.1 < N) : LabOk N (P ++ [t]) (labG l t) := by
  have hl := h.len
  have mono : ∀ {a b}, Reach P a b → Reach (P ++ [t]) a b := fun r => r.mono fun x hx => List.mem_append_left _ hx
  have tie : Reach (P ++ [t]) t.2.1 t.2.2.1 := .step (nb_of (List.mem_append_right _ (List.mem_singleton.mpr rfl)))
  have hN : InN N (P ++ [t]) := fun x hx => by
    rcases List.mem_append.mp hx with hx | hx
    · exact hP x hx
    · rw [List.mem_singleton.mp hx]; exact ⟨h1, h2⟩
  have g : ∀ v, v < N → (labG l t).getD v 0 = if l.getD v 0 = l.getD t.2.2.1 0 then l.getD t.2.1 0 else l.getD v 0 := fun v hv => relab_get (by omega)
  refine ⟨by unfold labG relab; rw [List.length_map]; exact hl, fun u v hu hv => ?_⟩
  rw [g u hu, g v hv]
  constructor
  · intro e
    by_cases a : l.getD u 0 = l.getD t.2.2.1 0
    · by_cases b : l.getD v 0 = l.getD t.2.2.1 0
      · exact mono ((h.iff u v hu hv).mp (a.trans b.symm))
      · rw [if_pos a, if_neg b] at e
        exact ((mono ((h.iff u _ hu h2).mp a)).trans tie.symm).trans (mono ((h.iff _ v h1 hv).mp e))
    · by_cases b : l.getD v 0 = l.getD t.2.2.1 0
      · rw [if_neg a, if_pos b] at e
        exact ((mono ((h.iff u _ hu h1).mp e)).trans tie).trans (mono ((h.iff v _ hv h2).mp b)).symm
      · rw [if_neg a, if_neg b] at e
        exact mono ((h.iff u v hu hv).mp e)
  · rintro ⟨x, hx⟩
    rw [← g u hu, ← g v hv]
    clear hv
    induction hx with
    | nil => rfl
    | @snoc ws b c n a q ih =>
      have hb : b < N := by
        cases a with
        | nil => exact hu
        | snoc _ r => exact nb_lt hN r
      have hc : c < N := nb_lt hN q
      refine ih.trans ?_
      obtain ⟨t', ht', _, hh⟩ := nb_elim q
      have key : (labG l t).getD t'.2.1 0 = (labG l t).getD t'.2.2.1 0 := by
        rcases List.mem_append.mp ht' with ht' | ht'
        · have := hP t' ht'
          rw [g _ this.1, g _ this.2, (h.iff _ _ this.1 this.2).mpr (.step (nb_of ht'))]
        · rw [List.mem_singleton.mp ht', g _ h1, g _ h2, if_pos rfl]
          split
          · rfl
          · rfl
      rcases hh with ⟨rfl, rfl⟩ | ⟨rfl, rfl⟩
      · exact key
      · exact key.symm
theorem ahead_in {N : Nat} {S : List T4} (h : InN N S) (t : T4) : InN N (aheadF S t) := fun u hu => h u (List.mem_filter.mp hu).1
theorem keep_iff {N : Nat} {S : List T4} (hS : InN N S) (hN : N ≤ 60) {t : T4} (h1 : t.2.1 < N) (h2 : t.2.2.1 < N) : keepF N S t = true ↔ ¬ Reach (aheadF S t) t.2.1 t.2.2.1 := by
  unfold keepF
  rw [Bool.not_eq_true', decide_eq_false_iff_not, mem_part (ahead_in hS t) h1 hN]
  exact ⟨fun h r => h ⟨h2, r⟩, fun h r => h r.2⟩
def NmS (zs : List Str) : Prop := zs.Pairwise fun a b => Srt.ltK (.inr b) (.inr a) = false
theorem nms_unique {xs ys : List Str} (p : xs.Perm ys) (hx : NmS xs) (hy : NmS ys) : xs = ys := by
  induction xs generalizing ys with
  | nil => rw [List.Perm.nil_eq p]
  | cons a xs ih =>
    cases ys with
    | nil => exact absurd p.symm (by simp)
    | cons b ys =>
      have hx' := List.pairwise_cons.mp hx
      have hy' := List.pairwise_cons.mp hy
      have e : a = b := by
        have ha : a ∈ b :: ys := p.mem_iff.mp (List.mem_cons_self ..)
        have hb : b ∈ a :: xs := p.mem_iff.mpr (List.mem_cons_self ..)
        rcases List.mem_cons.mp ha with h | h
        · exact h
        rcases List.mem_cons.mp hb with g | g
        · exact g.symm
        have q1 := hy'.1 a h
        have q2 := hx'.1 b g
        rcases Srt.ltK_tri _ _ q1 with z | z
        · injection z
        · rw [z] at q2; cases q2
      subst e
      rw [ih (List.perm_cons a |>.mp p) hx'.2 hy'.2]
end Wk
set_option maxHeartbeats 1000000
namespace Wk
open PySem L2
noncomputable def leastB (P : List T4) (v : Nat) : Bool := @decide (∀ u, u < v → ¬ Reach P u v) (Classical.propDecidable _)
noncomputable def clsF (N : Nat) (P : List T4) : Nat := (List.range N).countP (leastB P)
theorem least_iff {P : List T4} {v : Nat} : leastB P v = true ↔ ∀ u, u < v → ¬ Reach P u v := by
  unfold leastB
  exact @decide_eq_true_iff _ (Classical.propDecidable _)
theorem cls_mono {N : Nat} {P R : List T4} (h : ∀ a b, a < N → b < N → Reach P a b → Reach R a b) : clsF N R ≤ clsF N P := by
  unfold clsF
  refine List.countP_mono_left fun v hv q => ?_
  have hv := List.mem_range.mp hv
  rw [least_iff] at q ⊢
  exact fun u hu r => q u hu (h u v (by omega) hv r)
theorem cls_nil (N : Nat) : clsF N [] = N := by
  unfold clsF
  have : ∀ v ∈ List.range N, leastB [] v = true := fun v _ => by
    rw [least_iff]
    rintro u hu ⟨x, hx⟩
    cases hx with
    | nil => omega
    | snoc _ q => simp [nbrs] at q
  rw [List.countP_eq_length.mpr this, List.length_range]
theorem least_of {P : List T4} : ∀ v : Nat, ∃ m, m ≤ v ∧ Reach P m v ∧ leastB P m = true := by
  intro v
  induction v using Nat.strongRecOn with
  | _ v ih =>
    by_cases h : leastB P v = true
    · exact ⟨v, Nat.le_refl _, .refl, h⟩
    · rw [least_iff] at h
      simp only [Classical.not_forall, Classical.not_not] at h
      obtain ⟨u, hu, r⟩ := h
      obtain ⟨m, hm, rm, lm⟩ := ih u hu
      exact ⟨m, by omega, rm.trans r, lm⟩
theorem least_uniq {P : List T4} {m n : Nat} (hm : leastB P m = true) (hn : leastB P n = true) (r : Reach P m n) : m = n := by
  rw [least_iff] at hm hn
  rcases Nat.lt_trichotomy m n with h | h | h
  · exact absurd r (hn m h)
  · exact h
  · exact absurd r.symm (hm n h)
theorem reach_snoc {P : List T4} {t : T4} {a b : Nat} : Reach (P ++ [t]) a b ↔ Reach P a b ∨ (Reach P a t.2.1 ∧ Reach P t.2.2.1 b) ∨ (Reach P a t.2.2.1 ∧ Reach P t.2.1 b) := by
  have mono : ∀ {a b}, Reach P a b → Reach (P ++ [t]) a b := fun r => r.mono fun x hx => List.mem_append_left _ hx
  have tie : Reach (P ++ [t]) t.2.1 t.2.2.1 := .step (nb_of (List.mem_append_right _ (List.mem_singleton.mpr rfl)))
  constructor
  · rintro ⟨x, hx⟩
    induction hx with
    | nil => exact .inl .refl
    | @snoc ws b c n _ q ih =>
      obtain ⟨t', ht', _, hh⟩ := nb_elim q
      rcases List.mem_append.mp ht' with ht' | ht'
      · have st : Reach P b c := by
          rcases hh with ⟨rfl, rfl⟩ | ⟨rfl, rfl⟩
          · exact .step (nb_of ht')
          · exact (Reach.step (nb_of ht')).symm
        rcases ih with h | ⟨h1, h2⟩ | ⟨h1, h2⟩
        · exact .inl (h.trans st)
        · exact .inr (.inl ⟨h1, h2.trans st⟩)
        · exact .inr (.inr ⟨h1, h2.trans st⟩)
      · rw [List.mem_singleton.mp ht'] at hh
        rcases hh with ⟨e1, e2⟩ | ⟨e1, e2⟩
        · subst e1; subst e2
          rcases ih with h | ⟨h1, h2⟩ | ⟨h1, h2⟩
          · exact .inr (.inl ⟨h, .refl⟩)
          · exact .inr (.inl ⟨h1, .refl⟩)
          · exact .inl h1
        · subst e1; subst e2
          rcases ih with h | ⟨h1, h2⟩ | ⟨h1, h2⟩
          · exact .inr (.inr ⟨h, .refl⟩)
          · exact .inl h1
          · exact .inr (.inr ⟨h1, .refl⟩)
  · rintro (h | ⟨h1, h2⟩ | ⟨h1, h2⟩)
    · exact mono h
    · exact ((mono h1).trans tie).trans (mono h2)
    · exact ((mono h1).trans tie.symm).trans (mono h2)
theorem countP_one {p q : Nat → Bool} {x N : Nat} (hx : x < N) (px : p x = true) (h : ∀ v, v < N → (q v = true ↔ p v = true ∧ v ≠ x)) : (List.range N).countP q + 1 = (List.range N).countP p := by
  induction N with
  | zero => omega
  | succ N ih =>
    rw [List.range_succ, List.countP_append, List.countP_append, List.countP_singleton, List.countP_singleton]
    by_cases e : x = N
    · subst e
      have hq : q x = false := by
        cases z : q x with
        | false => rfl
        | true => exact absurd rfl ((h x hx).mp z).2
      have : (List.range x).countP q = (List.range x).countP p := List.countP_congr fun v hv => by
        have hv := List.mem_range.mp hv
        rw [h v (by omega)]
        exact ⟨fun z => z.1, fun z => ⟨z, by omega⟩⟩
      rw [this, hq, px]; simp
    · have := ih (by omega) fun v hv => h v (by omega)
      have e2 : q N = p N := by
        rw [Bool.eq_iff_iff, h N (by omega)]
        exact ⟨fun z => z.1, fun z => ⟨z, Ne.symm e⟩⟩
      rw [e2]; omega
theorem cls_less {N : Nat} {P : List T4} {t : T4} (h1 : t.2.1 < N) (h2 : t.2.2.1 < N) (h : ¬ Reach P t.2.1 t.2.2.1) : clsF N (P ++ [t]) + 1 = clsF N P := by
  obtain ⟨m1, l1, r1, k1⟩ := least_of (P := P) t.2.1
  obtain ⟨m2, l2, r2, k2⟩ := least_of (P := P) t.2.2.1
  have hne : m1 ≠ m2 := fun e => h (r1.symm.trans (e ▸ r2))
  have mono : ∀ {a b}, Reach P a b → Reach (P ++ [t]) a b := fun r => r.mono fun x hx => List.mem_append_left _ hx
  have tie : Reach (P ++ [t]) t.2.1 t.2.2.1 := .step (nb_of (List.mem_append_right _ (List.mem_singleton.mpr rfl)))
  have r12 : Reach (P ++ [t]) m1 m2 := ((mono r1).trans tie).trans (mono r2).symm
  refine countP_one (x := max m1 m2) (by omega) ?_ fun v hv => ?_
  · rcases Nat.le_total m1 m2 with q | q
    · rw [Nat.max_eq_right q]; exact k2
    · rw [Nat.max_eq_left q]; exact k1
  constructor
  · intro q
    rw [least_iff] at q
    refine ⟨least_iff.mpr fun u hu r => q u hu (mono r), fun e => ?_⟩
    rcases Nat.lt_or_gt_of_ne hne with z | z
    · rw [Nat.max_eq_right (by omega)] at e
      exact q m1 (by omega) (e ▸ r12)
    · rw [Nat.max_eq_left (by omega)] at e
      exact q m2 (by omega) (e ▸ r12.symm)
  · rintro ⟨q, hx⟩
    have q' := q
    rw [least_iff] at q ⊢
    intro u hu r
    rcases reach_snoc.mp r with z | ⟨z1, z2⟩ | ⟨z1, z2⟩
    · exact q u hu z
    · -- v is the least of the other's class, u of the one's
      have ev : m2 = v := least_uniq k2 q' (r2.trans z2)
      have : m1 ≤ u := by
        obtain ⟨m, lm, rm, km⟩ := least_of (P := P) u
        have : m1 = m := least_uniq k1 km (r1.trans (z1.symm.trans rm.symm))
        omega
      omega
    · have ev : m1 = v := least_uniq k1 q' (r1.trans z2)
      have : m2 ≤ u := by
        obtain ⟨m, lm, rm, km⟩ := least_of (P := P) u
        have : m2 = m := least_uniq k2 km (r2.trans (z1.symm.trans rm.symm))
        omega
      omega
def Bare : List T4 → List T4 → Prop
  | _, [] => True
  | P, t :: T => ¬ Reach P t.2.1 t.2.2.1 ∧ Bare (P ++ [t]) T
theorem bare_cls {N : Nat} : ∀ (T P : List T4), InN N T → Bare P T → clsF N (P ++ T) + T.length = clsF N P
  | [], P, _, _ => by rw [List.append_nil]; rfl
  | t :: T, P, hT, h => by
    have ht := hT t (List.mem_cons_self ..)
    have e1 := cls_less ht.1 ht.2 h.1
    have e2 := bare_cls T (P ++ [t]) (fun x hx => hT x (List.mem_cons_of_mem _ hx)) h.2
    rw [List.append_assoc] at e2
    have e2 : clsF N (P ++ (t :: T)) + T.length = clsF N (P ++ [t]) := e2
    rw [List.length_cons]; omega
theorem forest_size {N : Nat} {T : List T4} (hT : InN N T) (h : Bare [] T) : clsF N T + T.length = N := by
  have := bare_cls T [] hT h
  rw [cls_nil] at this
  exact this
theorem forest_le {N : Nat} {T G : List T4} (hT : InN N T) (hG : InN N G) (bT : Bare [] T) (bG : Bare [] G) (h : ∀ a b, a < N → b < N → Reach T a b → Reach G a b) : T.length ≤ G.length := by
  have e1 := forest_size hT bT
  have e2 := forest_size hG bG
  have := cls_mono h
  omega
end Wk
set_option maxHeartbeats 1000000
namespace Wk
open PySem L2
theorem name_inj {S : List T4} (nd : (S.map (·.1)).Nodup) {t t' : T4} (h : t ∈ S) (h' : t' ∈ S) (e : t.1 = t'.1) : t = t' := by
  induction S with
  | nil => cases h
  | cons x S ih =>
    rw [List.map_cons, List.nodup_cons] at nd
    rcases List.mem_cons.mp h with e1 | h1
    · rcases List.mem_cons.mp h' with e2 | h2
      · rw [e1, e2]
      · exact absurd (List.mem_map.mpr ⟨t', h2, by rw [← e, e1]⟩) nd.1
    · rcases List.mem_cons.mp h' with e2 | h2
      · exact absurd (List.mem_map.mpr ⟨t, h1, by rw [e, e2]⟩) nd.1
      · exact ih nd.2 h1 h2
end Wk
set_option maxHeartbeats 1000000
namespace Wk
open PySem L2
def rk (u : T4) : List Key := [.inl u.2.2.2, .inr u.1]
theorem ah_rk (u t : T4) : aheadB u t = Srt.ltR (rk u) (rk t) := by
  unfold rk aheadB
  rw [HT.lexV_cons]
  unfold Srt.ltR
  by_cases e : u.2.2.2 = t.2.2.2
  · rw [if_pos (by rw [e]), if_pos (by rw [e]), HT.lexV_cons]
    unfold Srt.ltR
    by_cases e2 : u.1 = t.1
    · rw [if_pos (by rw [e2]), if_pos (by rw [e2]), HT.lexV_nil_nil]
      rfl
    · rw [if_neg (by intro z; injection z with z; exact e2 z), if_neg (by intro z; injection z with z; exact e2 z)]
      rfl
  · rw [if_neg (by intro z; injection z with z; exact e z), if_neg (by intro z; injection z with z; exact e z)]
    rfl
theorem ah_irr (u : T4) : aheadB u u = false := by
  unfold aheadB
  rw [HT.lexV_cons, if_pos rfl, HT.lexV_cons, if_pos rfl, HT.lexV_nil_nil]
theorem ah_tr {a b c : T4} (h : aheadB a b = true) (g : aheadB b c = true) : aheadB a c = true := by
  rw [ah_rk] at *
  exact Srt.ltR_tr h g
theorem ah_tri {u v : T4} (h : u.1 ≠ v.1) (g : aheadB u v = false) : aheadB v u = true := by
  rw [ah_rk] at *
  rcases Srt.ltR_tri _ _ g with e | e
  · unfold rk at e
    injection e with _ e
    injection e with e _
    injection e with e
    exact absurd e h
  · exact e
theorem ah_asym {u v : T4} (h : aheadB u v = true) : aheadB v u = false := by
  cases g : aheadB v u with
  | false => rfl
  | true => have := ah_tr h g; rw [ah_irr] at this; cases this
theorem reach_ties {S R : List T4} (h : ∀ t ∈ S, Reach R t.2.1 t.2.2.1) {a b : Nat} (r : Reach S a b) : Reach R a b := by
  obtain ⟨x, hx⟩ := r
  induction hx with
  | nil => exact .refl
  | snoc _ q ih =>
    obtain ⟨t, ht, _, ⟨e1, e2⟩ | ⟨e1, e2⟩⟩ := nb_elim q
    · exact ih.trans (e1 ▸ e2 ▸ h t ht)
    · exact ih.trans (e1 ▸ e2 ▸ (h t ht).symm)
theorem reach_tie {R : List T4} {t : T4} (ht : t ∈ R) : Reach R t.2.1 t.2.2.1 := .step (nb_of ht)
def foF (N : Nat) (S : List T4) : List T4 := S.filter (keepF N S)
theorem fo_mem {N : Nat} {S : List T4} {u : T4} : u ∈ foF N S ↔ u ∈ S ∧ keepF N S u = true := List.mem_filter
theorem fo_in {N : Nat} {S : List T4} (h : InN N S) : InN N (foF N S) := fun u hu => h u (fo_mem.mp hu).1
theorem ahm {S : List T4} {u t : T4} : u ∈ aheadF S t ↔ u ∈ S ∧ aheadB u t = true := List.mem_filter
theorem ah_len {S : List T4} {u v : T4} (hv : v ∈ aheadF S u) : (aheadF S v).length < (aheadF S u).length := by
  have e : aheadF S v = (aheadF S u).filter fun z => aheadB z v := by
    unfold aheadF
    rw [List.filter_filter]
    refine List.filter_congr fun z hz => ?_
    cases g : aheadB z v with
    | false => rfl
    | true => rw [ah_tr g (ahm.mp hv).2]; rfl
  rw [e]
  refine List.length_filter_lt_length_iff_exists.mpr ⟨v, hv, ?_⟩
  rw [ah_irr]; simp
theorem not_keep {N : Nat} {S : List T4} (hS : InN N S) (hN : N ≤ 60) {t : T4} (ht : t ∈ S) (h : ¬ keepF N S t = true) : Reach (aheadF S t) t.2.1 t.2.2.1 := by
  rcases Classical.em (Reach (aheadF S t) t.2.1 t.2.2.1) with r | r
  · exact r
  · exact absurd ((keep_iff hS hN (hS t ht).1 (hS t ht).2).mpr r) h
theorem fo_tie {N : Nat} {S : List T4} (hS : InN N S) (hN : N ≤ 60) (y : T4) : ∀ (n : Nat) (u : T4), u ∈ S → (aheadF S u).length ≤ n → aheadB u y = true → Reach (aheadF (foF N S) y) u.2.1 u.2.2.1 := by
  intro n
  induction n with
  | zero =>
    intro u hu hl hy
    by_cases k : keepF N S u = true
    · exact reach_tie (ahm.mpr ⟨fo_mem.mpr ⟨hu, k⟩, hy⟩)
    · refine reach_ties (fun v hv => ?_) (not_keep hS hN hu k)
      rw [List.eq_nil_of_length_eq_zero (Nat.le_zero.mp hl)] at hv
      cases hv
  | succ n ih =>
    intro u hu hl hy
    by_cases k : keepF N S u = true
    · exact reach_tie (ahm.mpr ⟨fo_mem.mpr ⟨hu, k⟩, hy⟩)
    · refine reach_ties (fun v hv => ?_) (not_keep hS hN hu k)
      exact ih v (ahm.mp hv).1 (by have := ah_len hv; omega) (ah_tr (ahm.mp hv).2 hy)
theorem ahead_fo {N : Nat} {S : List T4} (hS : InN N S) (hN : N ≤ 60) (y : T4) {a b : Nat} : Reach (aheadF S y) a b ↔ Reach (aheadF (foF N S) y) a b :=
  ⟨reach_ties fun t ht => fo_tie hS hN y _ t (ahm.mp ht).1 (Nat.le_refl _) (ahm.mp ht).2, fun r => r.mono fun t ht => ahm.mpr ⟨(fo_mem.mp (ahm.mp ht).1).1, (ahm.mp ht).2⟩⟩
theorem max_ex : ∀ (G : List T4), G ≠ [] → (G.map (·.1)).Nodup → ∃ m ∈ G, ∀ u ∈ G, u ≠ m → aheadB u m = true
  | [], h, _ => absurd rfl h
  | [t], _, _ => ⟨t, List.mem_singleton.mpr rfl, fun u hu ne => absurd (List.mem_singleton.mp hu) ne⟩
  | t :: s :: G, _, nd => by
    have nd' := List.nodup_cons.mp nd
    obtain ⟨m, hm, h⟩ := max_ex (s :: G) (by simp) nd'.2
    have ne : t.1 ≠ m.1 := fun z => nd'.1 (by show t.1 ∈ _; rw [z]; exact List.mem_map_of_mem hm)
    cases g : aheadB t m with
    | true =>
      refine ⟨m, List.mem_cons_of_mem _ hm, fun u hu nu => ?_⟩
      rcases List.mem_cons.mp hu with rfl | hu
      · exact g
      · exact h u hu nu
    | false =>
      have g2 := ah_tri ne g
      refine ⟨t, List.mem_cons_self .., fun u hu nu => ?_⟩
      rcases List.mem_cons.mp hu with rfl | hu
      · exact absurd rfl nu
      · by_cases e : u = m
        · exact e ▸ g2
        · exact ah_tr (h u hu e) g2
def wo (G : List T4) (n : Str) : List T4 := G.filter fun u => decide (u.1 ≠ n)
theorem wom {G : List T4} {n : Str} {u : T4} : u ∈ wo G n ↔ u ∈ G ∧ u.1 ≠ n := by unfold wo; rw [List.mem_filter, decide_eq_true_eq]
theorem wo_nd {G : List T4} {n : Str} (h : (G.map (·.1)).Nodup) : ((wo G n).map (·.1)).Nodup := h.sublist (List.filter_sublist.map _)
theorem bridge : ∀ (n : Nat) (G : List T4), G.length ≤ n → (G.map (·.1)).Nodup → (∀ u ∈ G, ¬ Reach (aheadF G u) u.2.1 u.2.2.1) → ∀ x ∈ G, ¬ Reach (wo G x.1) x.2.1 x.2.2.1 := by
  intro n
  induction n with
  | zero => intro G hl _ _ x hx; rw [List.eq_nil_of_length_eq_zero (Nat.le_zero.mp hl)] at hx; cases hx
  | succ n ih =>
    intro G hl nd hG x hx
    obtain ⟨m, hm, mx⟩ := max_ex G (by rintro rfl; cases hx) nd
    have wm : ∀ u ∈ wo G m.1, u ∈ aheadF G m := fun u hu => ahm.mpr ⟨(wom.mp hu).1, mx u (wom.mp hu).1 fun z => (wom.mp hu).2 (z ▸ rfl)⟩
    by_cases e : x = m
    · subst e
      exact fun r => hG x hx (r.mono wm)
    have en : x.1 ≠ m.1 := fun z => e (name_inj nd hx hm z)
    have l' : (wo G m.1).length ≤ n := by
      have : (wo G m.1).length < G.length := List.length_filter_lt_length_iff_exists.mpr ⟨m, hm, by simp⟩
      omega
    have I := ih (wo G m.1) l' (wo_nd nd) (fun u hu r => hG u (wom.mp hu).1 (r.mono fun v hv => ahm.mpr ⟨(wom.mp (ahm.mp hv).1).1, (ahm.mp hv).2⟩)) x (wom.mpr ⟨hx, en⟩)
    intro r
    have r2 : Reach (wo (wo G m.1) x.1 ++ [m]) x.2.1 x.2.2.1 := r.mono fun u hu => by
      by_cases z : u.1 = m.1
      · exact List.mem_append_right _ (List.mem_singleton.mpr (name_inj nd (wom.mp hu).1 hm z))
      · exact List.mem_append_left _ (wom.mpr ⟨wom.mpr ⟨(wom.mp hu).1, z⟩, (wom.mp hu).2⟩)
    have up : ∀ {a b}, Reach (wo (wo G m.1) x.1) a b → Reach (wo G m.1) a b := fun r => r.mono fun u hu => (wom.mp hu).1
    have tx : Reach (wo G m.1) x.2.1 x.2.2.1 := reach_tie (wom.mpr ⟨hx, en⟩)
    rcases reach_snoc.mp r2 with q | ⟨q1, q2⟩ | ⟨q1, q2⟩
    · exact I q
    · exact hG m hm (Reach.mono wm (((up q1).symm.trans tx).trans (up q2).symm))
    · exact hG m hm (Reach.mono wm (((up q2).trans tx.symm).trans (up q1)))
theorem fo_bridge {N : Nat} {S : List T4} (hS : InN N S) (hN : N ≤ 60) (nd : (S.map (·.1)).Nodup) {x : T4} (hx : x ∈ foF N S) : ¬ Reach (wo (foF N S) x.1) x.2.1 x.2.2.1 := by
  refine bridge _ _ (Nat.le_refl _) (nd.sublist (List.filter_sublist.map _)) (fun u hu r => ?_) x hx
  exact (keep_iff hS hN (hS u (fo_mem.mp hu).1).1 (hS u (fo_mem.mp hu).1).2).mp (fo_mem.mp hu).2 ((ahead_fo hS hN u).mpr r)
section
variable {N : Nat} {S S' : List T4} {t : T4} (hS : InN N S) (hN : N ≤ 60) (nd : (S.map (·.1)).Nodup) (hS' : InN N S') (hm : ∀ u, u ∈ S' ↔ u ∈ S ∨ u = t)
include hS hN hS' hm
end
section
variable {N : Nat} {S S' : List T4} {x : T4} (hS : InN N S) (hN : N ≤ 60) (nd : (S.map (·.1)).Nodup) (hx : x ∈ S) (hm : ∀ u, u ∈ S' ↔ u ∈ S ∧ u.1 ≠ x.1)
include hS hN nd hx hm
end
end Wk
set_option maxHeartbeats 1000000
namespace Wk
open PySem L2
theorem mem_light {N : Nat} {S : List T4} {n : Str} : n ∈ lightF N S ↔ ∃ y ∈ S, keepF N S y = true ∧ y.1 = n := by
  unfold lightF
  rw [List.mem_map]
  exact ⟨fun ⟨y, hy, e⟩ => ⟨y, (List.mem_filter.mp hy).1, (List.mem_filter.mp hy).2, e⟩, fun ⟨y, h1, h2, e⟩ => ⟨y, List.mem_filter.mpr ⟨h1, h2⟩, e⟩⟩
theorem light_srt {N : Nat} {S : List T4} (h : NmS (S.map (·.1))) : NmS (lightF N S) := List.Pairwise.sublist (List.filter_sublist.map _) h
theorem named_fo {N : Nat} {S : List T4} (nd : (S.map (·.1)).Nodup) : (S.filter fun t => decide (t.1 ∈ lightF N S)) = foF N S := by
  unfold foF
  refine List.filter_congr fun t ht => ?_
  rw [Bool.eq_iff_iff, decide_eq_true_eq, mem_light]
  exact ⟨fun ⟨y, hy, k, e⟩ => by rw [← name_inj nd hy ht e]; exact k, fun k => ⟨t, ht, k, rfl⟩⟩
section
variable {N : Nat} {S S' : List T4} {t : T4} (hS : InN N S) (hN : N ≤ 60) (nd : (S.map (·.1)).Nodup) (hn : t.1 ∉ S.map (·.1)) (hp : S'.Perm (S ++ [t])) (hS' : InN N S') (sr' : NmS (S'.map (·.1)))
include hS hN nd hn hp hS' sr'
end
section
variable {N : Nat} {S : List T4} {x : T4} (hS : InN N S) (hN : N ≤ 60) (nd : (S.map (·.1)).Nodup) (sr : NmS (S.map (·.1))) (hx : x ∈ S)
include hS hN nd sr hx
end
end Wk
set_option maxHeartbeats 1000000
namespace L2
open PySem PySem.Spec PyProof.Rows
def Flt : V → V → Bool
  | .non, .non => true
  | .non, .bl _ => true
  | .non, .int _ => true
  | .non, .str _ => true
  | .bl _, .non => true
  | .bl _, .bl _ => true
  | .bl _, .str _ => true
  | .int _, .non => true
  | .int _, .int _ => true
  | .int _, .str _ => true
  | .str _, .non => true
  | .str _, .bl _ => true
  | .str _, .int _ => true
  | .str _, .str _ => true
  | _, _ => false
def Eqs (K : PySem.W.Frag) (H : Hp) : Nat → V → V → Bool → Prop
  | 0, x, y, b => Flt x y = true ∧ b = decide (x = y)
  | n + 1, x, y, b => (Flt x y = true ∧ b = decide (x = y)) ∨
      (∃ (a c : Addr) (xs ys : List V) (e : Nat → Bool), x = .ref a ∧ y = .ref c ∧ ((SqT K H a xs ∧ SqT K H c ys) ∨ (SqL K H a xs ∧ SqL K H c ys)) ∧ (∀ (j : Nat) p q, xs[j]? = some p → ys[j]? = some q → Eqs K H n p q (e j)) ∧ b = ((List.range (min xs.length ys.length)).all e && xs.length == ys.length)) ∨
      (∃ (a : Addr) (xs : List V), x = .ref a ∧ y = .non ∧ SqT K H a xs ∧ b = false) ∨
      (∃ (a : Addr) (xs : List V), x = .non ∧ y = .ref a ∧ SqT K H a xs ∧ b = false)
theorem Eqs.flat {K : PySem.W.Frag} {H : Hp} {n : Nat} {x y : V} (h : Flt x y = true) : Eqs K H n x y (decide (x = y)) := by
  cases n with
  | zero => exact ⟨h, rfl⟩
  | succ n => exact .inl ⟨h, rfl⟩
theorem all_dec {α : Type} [DecidableEq α] {xs ys : List V} {ds es : List α} (l1 : ds.length = xs.length) (l2 : es.length = ys.length) : ((List.range (min xs.length ys.length)).all (fun j => decide (ds[j]? = es[j]?)) && xs.length == ys.length) = decide (ds = es) := by
  by_cases h : xs.length = ys.length
  · rw [Bool.eq_iff_iff, Bool.and_eq_true, List.all_eq_true, decide_eq_true_eq]
    constructor
    · rintro ⟨ha, _⟩
      refine List.ext_getElem? fun i => ?_
      by_cases hi : i < xs.length
      · exact of_decide_eq_true (ha i (List.mem_range.mpr (by omega)))
      · rw [List.getElem?_eq_none (by omega), List.getElem?_eq_none (by omega)]
    · rintro rfl
      exact ⟨fun j _ => decide_eq_true rfl, by simpa using h⟩
  · have : (xs.length == ys.length) = false := by simpa using h
    rw [this, Bool.and_false, decide_eq_false fun e => h (by rw [← l1, ← l2, e])]
theorem Eqs.seq {K : PySem.W.Frag} {H : Hp} {n : Nat} {a c : Addr} {xs ys : List V} {α : Type} [DecidableEq α] {ds es : List α} (hh : (SqT K H a xs ∧ SqT K H c ys) ∨ (SqL K H a xs ∧ SqL K H c ys)) (l1 : ds.length = xs.length) (l2 : es.length = ys.length)
    (h : ∀ (j : Nat) p q d e, xs[j]? = some p → ys[j]? = some q → ds[j]? = some d → es[j]? = some e → Eqs K H n p q (decide (d = e))) : Eqs K H (n + 1) (.ref a) (.ref c) (decide (ds = es)) := by
  refine .inr (.inl ⟨a, c, xs, ys, fun j => decide (ds[j]? = es[j]?), rfl, rfl, hh, fun j p q hp hq => ?_, (all_dec l1 l2).symm⟩)
  have j1 : j < ds.length := by rw [l1]; exact (List.getElem?_eq_some_iff.mp hp).1
  have j2 : j < es.length := by rw [l2]; exact (List.getElem?_eq_some_iff.mp hq).1
  have := h j p q ds[j] es[j] hp hq (List.getElem?_eq_getElem j1) (List.getElem?_eq_getElem j2)
  show Eqs K H n p q (decide (ds[j]? = es[j]?))
  rw [List.getElem?_eq_getElem j1, List.getElem?_eq_getElem j2]
  have e : decide (some ds[j] = some es[j]) = decide (ds[j] = es[j]) := by
    rw [Bool.eq_iff_iff, decide_eq_true_eq, decide_eq_true_eq]
    exact ⟨fun h => Option.some.inj h, fun h => by rw [h]⟩
  rw [e]; exact this
theorem Eqs.flats {K : PySem.W.Frag} {H : Hp} {n : Nat} {a c : Addr} {xs ys : List V} (h1 : SqT K H a xs) (h2 : SqT K H c ys) (h : ∀ x ∈ xs, ∀ y ∈ ys, Flt x y = true) : Eqs K H (n + 1) (.ref a) (.ref c) (decide (xs = ys)) :=
  Eqs.seq (.inl ⟨h1, h2⟩) rfl rfl fun j p q d e hp hq hd he => by
    rw [hp] at hd
    rw [hq] at he
    cases hd
    cases he
    exact Eqs.flat (h _ (List.mem_of_getElem? hp) _ (List.mem_of_getElem? hq))
theorem Eqs.pair {K : PySem.W.Frag} {H : Hp} {n : Nat} {a c : Addr} {x1 x2 y1 y2 : V} {b1 b2 : Bool} (h1 : SqT K H a [x1, x2]) (h2 : SqT K H c [y1, y2]) (e1 : Eqs K H n x1 y1 b1) (e2 : Eqs K H n x2 y2 b2) : Eqs K H (n + 1) (.ref a) (.ref c) (b1 && b2) := by
  refine .inr (.inl ⟨a, c, _, _, fun j => if j = 0 then b1 else b2, rfl, rfl, .inl ⟨h1, h2⟩, fun j p q hp hq => ?_, ?_⟩)
  · match j, hp, hq with
    | 0, hp, hq => cases hp; cases hq; exact e1
    | 1, hp, hq => cases hp; cases hq; exact e2
    | j + 2, hp, _ => simp at hp
  · show (b1 && b2) = ((List.range 2).all (fun j => if j = 0 then b1 else b2) && (2 == 2))
    simp [List.range_succ, List.all_append]
section
variable {X : Cx} {pins : List (Addr × Obj)} {σ : St} {H : Hp} {s : Shared}
theorem eqs_refl (I : Inv X pins σ H s) : ∀ (n : Nat) {x : V} {b : Bool}, Eqs X.K H n x x b → b = true
  | 0, x, b, ⟨_, e⟩ => by rw [e, decide_eq_true rfl]
  | n + 1, x, b, h => by
    rcases h with ⟨_, e⟩ | ⟨a, c, xs, ys, e, e1, e2, hh, hj, eb⟩ | ⟨a, xs, e1, e2, _⟩ | ⟨a, xs, e1, e2, _⟩
    · rw [e, decide_eq_true rfl]
    · rw [e1] at e2
      injection e2 with e2
      subst e2
      have ex : xs = ys := by
        rcases hh with ⟨h1, h2⟩ | ⟨h1, h2⟩
        · exact I.tuple_inj h1 h2
        · exact I.list_inj h1 h2
      subst ex
      rw [eb, Bool.and_eq_true]
      refine ⟨List.all_eq_true.mpr fun j hj' => ?_, by simp⟩
      have hj' := List.mem_range.mp hj'
      have hjx : j < xs.length := by omega
      exact eqs_refl I n (hj j _ _ (List.getElem?_eq_getElem hjx) (List.getElem?_eq_getElem hjx))
    · rw [e1] at e2; cases e2
    · rw [e1] at e2; cases e2
theorem flt_at {x y : V} {v u : Value} (h : Flt x y = true) (rx : RelV x v) (ry : RelV y u) (A : Around) : SeqAt.EqAt A s v u (decide (x = y)) := by
  have sw : ∀ {b c : Bool}, SeqAt.EqAt A s v u b → b = c → SeqAt.EqAt A s v u c := fun h e => e ▸ h
  cases x <;> cases y <;> simp only [Flt, Bool.false_eq_true] at h <;> simp only [RelV] at rx ry
  · subst rx; subst ry; exact SeqAt.EqAt.same _
  · subst rx; subst ry; exact sw (SeqAt.EqAt.none_bool _) (by simp)
  · obtain ⟨t, rfl⟩ := ry; subst rx; exact sw (SeqAt.EqAt.none_int _ _) (by simp)
  · obtain ⟨t, rfl⟩ := ry; subst rx; exact sw (SeqAt.EqAt.none_str _ _) (by simp)
  · subst rx; subst ry; exact sw (SeqAt.EqAt.bool_none _) (by simp)
  · subst rx; subst ry; exact sw (SeqAt.EqAt.bool_bool _ _) (by rw [Bool.eq_iff_iff]; simp)
  · obtain ⟨t, rfl⟩ := ry; subst rx; exact sw (SeqAt.EqAt.bool_str _ _ _) (by simp)
  · obtain ⟨t, rfl⟩ := rx; subst ry; exact sw (SeqAt.EqAt.int_none _ _) (by simp)
  · obtain ⟨t, rfl⟩ := rx; obtain ⟨t', rfl⟩ := ry; exact sw (SeqAt.EqAt.int_int _ _ _ _) (by rw [Bool.eq_iff_iff]; simp)
  · obtain ⟨t, rfl⟩ := rx; obtain ⟨t', rfl⟩ := ry; exact sw (SeqAt.EqAt.int_str _ _ _ _) (by simp)
  · obtain ⟨t, rfl⟩ := rx; subst ry; exact sw (SeqAt.EqAt.str_none _ _) (by simp)
  · obtain ⟨t, rfl⟩ := rx; subst ry; exact sw (SeqAt.EqAt.str_bool _ _ _) (by simp)
  · obtain ⟨t, rfl⟩ := rx; obtain ⟨t', rfl⟩ := ry; exact sw (SeqAt.EqAt.str_int _ _ _ _) (by simp)
  · obtain ⟨t, rfl⟩ := rx; obtain ⟨t', rfl⟩ := ry; exact sw (SeqAt.EqAt.str_str _ _ _ _) (by rw [Bool.eq_iff_iff]; simp)
theorem val_at {xs : List V} {its : List Value} (r : Vals xs its) {j : Nat} (h : j < its.toArray.size) : ∃ x, xs[j]? = some x ∧ RelV x its.toArray[j] := by
  have l := r.length
  have hj : j < xs.length := by simpa [l] using h
  obtain ⟨v, e, rv⟩ := r.get (i := j) (x := xs[j]) (by simp [hj])
  have w1 : its.toArray[j] = v := by
    have := (List.getElem?_eq_some_iff.mp e).2
    simpa using this
  exact ⟨xs[j], by simp [hj], by rw [w1]; exact rv⟩
theorem in1_units (A : Around) : A.in1.units ≤ A.units + 1 := by first | exact Nat.le_refl _ | exact Nat.le_succ _
theorem eqs_at (I : Inv X pins σ H s) : ∀ (n : Nat) {x y : V} {b : Bool} {v u : Value} {A : Around}, A.units + n < cLine → Eqs X.K H n x y b → RelV x v → RelV y u → SeqAt.EqAt A s v u b
  | 0, x, y, b, v, u, A, _, ⟨h, e⟩, rx, ry => by rw [e]; exact flt_at h rx ry A
  | n + 1, x, y, b, v, u, A, hu, h, rx, ry => by
    rcases id h with ⟨h, e⟩ | ⟨a, c, xs, ys, e, rfl, rfl, hh, hj, eb⟩ | ⟨a, xs, rfl, rfl, h1, e⟩ | ⟨a, xs, rfl, rfl, h1, e⟩
    · rw [e]; exact flt_at h rx ry A
    · cases rx
      cases ry
      by_cases hne : a = c
      · subst hne
        rw [eqs_refl I (n + 1) h]
        exact SeqAt.EqAt.same _
      refine SeqAt.EqAt.of_refs hne ?_
      have iu := in1_units A
      rcases hh with ⟨h1, h2⟩ | ⟨h1, h2⟩
      · obtain ⟨its, r1, p1, _⟩ := I.tuple h1
        obtain ⟨its2, r2, p2, _⟩ := I.tuple h2
        have := SeqAt.RcAt.tuples (A := A) (e := e) p1 p2 (by omega) fun j j1 j2 => ?_
        · rw [List.size_toArray, List.size_toArray, ← r1.length, ← r2.length] at this
          rw [eb]; exact this
        · obtain ⟨p, ep, rp⟩ := val_at r1 j1
          obtain ⟨q, eq, rq⟩ := val_at r2 j2
          exact eqs_at I n (by omega) (hj j p q ep eq) rp rq
      · obtain ⟨its, r1, p1, _⟩ := I.list h1
        obtain ⟨its2, r2, p2, _⟩ := I.list h2
        have m1 := r1.length
        have m2 := r2.length
        by_cases hl : xs.length = ys.length
        · have := SeqAt.RcAt.lists (A := A) (e := e) p1.isList p2.isList (by rw [List.size_toArray, List.size_toArray]; omega) (by omega) fun j j1 j2 => ?_
          · rw [List.size_toArray, ← m1] at this
            rw [eb, hl, Nat.min_self, ← hl]
            simpa using this
          · obtain ⟨p, ep, rp⟩ := val_at r1 j1
            obtain ⟨q, eq, rq⟩ := val_at r2 j2
            exact eqs_at I n (by omega) (hj j p q ep eq) rp rq
        · have := SeqAt.RcAt.lists_lengths (A := A) p1.isList p2.isList (by rw [List.size_toArray, List.size_toArray]; simp; omega) (by omega)
          have eb' : b = false := by rw [eb]; simp [hl]
          rw [eb']; exact this
    · cases rx
      cases ry
      obtain ⟨its, r1, p1, _⟩ := I.tuple h1
      rw [e]; exact SeqAt.EqAt.tuple_none p1 (by omega)
    · cases rx
      cases ry
      obtain ⟨its, r1, p1, _⟩ := I.tuple h1
      rw [e]; exact SeqAt.EqAt.none_tuple p1 (by omega)
end
section
variable {X : Cx}
inductive REqsP (K : PySem.W.Frag) (x : V) (y : V) (H : Hp) (Q : VK) : Prop
  | mk (n : Nat) (b : Bool) (a c : Addr) : (x = .ref a) → (y = .ref c) → (n ≤ 30) → (Eqs K H (n + 1) x y b) → (Q (.bl b) H) → REqsP K x y H Q
def rEqs (K : PySem.W.Frag) : V → V → Hp → VK → Prop := fun x y H Q => REqsP K x y H Q
inductive RNesP (K : PySem.W.Frag) (x : V) (y : V) (H : Hp) (Q : VK) : Prop
  | mk (n : Nat) (b : Bool) (a c : Addr) : (x = .ref a) → (y = .ref c) → (n ≤ 30) → (Eqs K H (n + 1) x y b) → (Q (.bl (!b)) H) → RNesP K x y H Q
def rNes (K : PySem.W.Frag) : V → V → Hp → VK → Prop := fun x y H Q => RNesP K x y H Q
theorem op_eqs (hu : X.A.units + 64 < cLine) : OpR X (compareOp .Eq) (rEqs X.K) := by
  intro pins s σ H x y v u Q I rx ry h
  obtain ⟨n, b, a, c, rfl, rfl, hn, h, q⟩ := h
  cases rx
  cases ry
  have iu := in1_units X.A
  rcases h with ⟨h, _⟩ | ⟨a', c', xs, ys, e, e1, e2, hh, hj, eb⟩ | ⟨_, _, _, e2, _⟩ | ⟨_, _, e1, _⟩
  · cases h
  · cases e1
    cases e2
    rcases hh with ⟨h1, h2⟩ | ⟨h1, h2⟩
    · obtain ⟨its, r1, p1, _⟩ := I.tuple h1
      obtain ⟨its2, r2, p2, _⟩ := I.tuple h2
      refine (SeqAt.RcAt.tuples (A := X.A) (e := e) p1 p2 (by omega) fun j j1 j2 => ?_) X.prog X.w X.xe _ ⟨.bl _, H, I, rfl, ?_⟩
      · obtain ⟨p, ep, rp⟩ := val_at r1 j1
        obtain ⟨q, eq, rq⟩ := val_at r2 j2
        exact eqs_at I n (by omega) (hj j p q ep eq) rp rq
      · rw [List.size_toArray, List.size_toArray, ← r1.length, ← r2.length, ← eb]
        exact q
    · obtain ⟨its, r1, p1, _⟩ := I.list h1
      obtain ⟨its2, r2, p2, _⟩ := I.list h2
      have m1 := r1.length
      have m2 := r2.length
      by_cases hl : xs.length = ys.length
      · refine (SeqAt.RcAt.lists (A := X.A) (e := e) p1.isList p2.isList (by rw [List.size_toArray, List.size_toArray]; omega) (by omega) fun j j1 j2 => ?_) X.prog X.w X.xe _ ⟨.bl _, H, I, rfl, ?_⟩
        · obtain ⟨p, ep, rp⟩ := val_at r1 j1
          obtain ⟨q, eq, rq⟩ := val_at r2 j2
          exact eqs_at I n (by omega) (hj j p q ep eq) rp rq
        · have : b = (List.range its.toArray.size).all e := by
            rw [eb, hl, Nat.min_self, ← hl, List.size_toArray, ← m1]
            simp
          rw [← this]; exact q
      · refine (SeqAt.RcAt.lists_lengths (A := X.A) p1.isList p2.isList (by rw [List.size_toArray, List.size_toArray]; simp; omega) (by omega)) X.prog X.w X.xe _ ⟨.bl _, H, I, rfl, ?_⟩
        have eb' : b = false := by rw [eb]; simp [hl]
        rw [← eb']; exact q
  · cases e2
  · cases e1
theorem op_nes (hu : X.A.units + 64 < cLine) : OpR X (compareOp .NotEq) (rNes X.K) := by
  intro pins s σ H x y v u Q I rx ry h
  obtain ⟨n, b, a, c, rfl, rfl, hn, h, q⟩ := h
  cases rx
  cases ry
  have iu := in1_units X.A
  rcases h with ⟨h, _⟩ | ⟨a', c', xs, ys, e, e1, e2, hh, hj, eb⟩ | ⟨_, _, _, e2, _⟩ | ⟨_, _, e1, _⟩
  · cases h
  · cases e1
    cases e2
    rcases hh with ⟨h1, h2⟩ | ⟨h1, h2⟩
    · obtain ⟨its, r1, p1, _⟩ := I.tuple h1
      obtain ⟨its2, r2, p2, _⟩ := I.tuple h2
      refine (SeqAt.RcNeAt.tuples (A := X.A) (e := e) p1 p2 (by omega) fun j j1 j2 => ?_) X.prog X.w X.xe _ ⟨.bl _, H, I, rfl, ?_⟩
      · obtain ⟨p, ep, rp⟩ := val_at r1 j1
        obtain ⟨q, eq, rq⟩ := val_at r2 j2
        exact eqs_at I n (by omega) (hj j p q ep eq) rp rq
      · rw [List.size_toArray, List.size_toArray, ← r1.length, ← r2.length, ← eb]
        exact q
    · obtain ⟨its, r1, p1, _⟩ := I.list h1
      obtain ⟨its2, r2, p2, _⟩ := I.list h2
      have m1 := r1.length
      have m2 := r2.length
      by_cases hl : xs.length = ys.length
      · refine (SeqAt.RcNeAt.lists (A := X.A) (e := e) p1.isList p2.isList (by rw [List.size_toArray, List.size_toArray]; omega) (by omega) fun j j1 j2 => ?_) X.prog X.w X.xe _ ⟨.bl _, H, I, rfl, ?_⟩
        · obtain ⟨p, ep, rp⟩ := val_at r1 j1
          obtain ⟨q, eq, rq⟩ := val_at r2 j2
          exact eqs_at I n (by omega) (hj j p q ep eq) rp rq
        · have : b = (List.range its.toArray.size).all e := by
            rw [eb, hl, Nat.min_self, ← hl, List.size_toArray, ← m1]
            simp
          rw [← this]; exact q
      · refine (SeqAt.RcNeAt.lists_lengths (A := X.A) p1.isList p2.isList (by rw [List.size_toArray, List.size_toArray]; simp; omega) (by omega)) X.prog X.w X.xe _ ⟨.bl _, H, I, rfl, ?_⟩
        have eb' : b = false := by rw [eb]; simp [hl]
        rw [eb'] at q; exact q
  · cases e2
  · cases e1
end
end L2
set_option maxHeartbeats 4000000
namespace HT
open PySem PyProof.Rows L2
abbrev Rw := Int × Str
def rwV (r : Rw) : List V := [.int r.1, .str r.2]
def ltRow (a b : Rw) : Bool := lexV (rwV a) (rwV b)
def lexRows : List Rw → List Rw → Bool
  | x :: xs, y :: ys => if x = y then lexRows xs ys else ltRow x y
  | _, _ => false
def LtAt (A : Around) (s : Shared) (v u : Value) (b : Bool) : Prop := ∀ (prog : Program) (w : World) (E Q : Value → Shared → Prop), Q (.bool b) s → wpAny (model prog w) A (richCompare .Lt v u) Q E s
section
open PySem.SeqAt
open PySem.AutoSeq1 (wpAny_loadPart')
open PySem.MeetsSeq PySem.MeetsSeq2 PySem.MeetsSeq3
theorem lt_loopAt (l b : Addr) (items items2 : Array Value) (n n2 : Nat) (dd dd2 : Option Addr) (sl sl2 : Array (Option Value)) (hsz : items.size = items2.size) (xs ys : List Rw) (hx : xs.length = items.size) (hy : ys.length = items.size) (k : Nat) : ∀ i : Nat, items.size - i = k →
    Meets (Builtin.«list.__eq__.loop» ⟨[.ref l, .ref b, rawInt (i : Nat), rawInt 0], []⟩)
      (fun A R s => s.heap.get? l = some { cls := .type "list", dict := dd, data := .seq items n, slots := sl } ∧ s.heap.get? b = some { cls := .type "list", dict := dd2, data := .seq items2 n2, slots := sl2 } ∧
        (∀ (j : Nat) (h1 : j < items.size) (h2 : j < items2.size) x y, xs[j]? = some x → ys[j]? = some y → EqAt A.in1 s items[j] items2[j] (decide (x = y)) ∧ LtAt A.in1 s items[j] items2[j] (ltRow x y)) ∧
        R (.ok (.ret (.bool (lexRows (xs.drop i) (ys.drop i))))) s) := by
  induction k with
  | zero =>
    intro i hk prog w A R s h
    obtain ⟨hp, g, d, tk, os⟩ := s; obtain ⟨hl, hb, he, h⟩ := h
    wp_walk using wpAny_loadPart' hl, wpAny_loadPart' hb
    have hi1 : items[((i : Nat) : Int).toNat]? = none := by simp; omega
    have hi2 : items2[((i : Nat) : Int).toNat]? = none := by simp; omega
    have hd : xs.drop i = [] := List.drop_eq_nil_of_le (by omega)
    rw [hd] at h
    rw [hi1, hi2]
    wp_walk using wpAny_loadPart' hl, wpAny_loadPart' hb
    show R (.ok (.ret (.bool (decide (items.size < items2.size))))) _
    rw [hsz, decide_eq_false (Nat.lt_irrefl _)]
    exact h
  | succ k ih =>
    intro i hk prog w A R s h
    obtain ⟨hp, g, d, tk, os⟩ := s; obtain ⟨hl, hb, he, h⟩ := h
    wp_walk using wpAny_loadPart' hl, wpAny_loadPart' hb
    have hlt : i < items.size := by omega
    have hlt2 : i < items2.size := by omega
    have hi1 : items[((i : Nat) : Int).toNat]? = some items[i] := by simp [hlt]
    have hi2 : items2[((i : Nat) : Int).toNat]? = some items2[i] := by simp [hlt2]
    have hx1 : i < xs.length := by omega
    have hy1 : i < ys.length := by omega
    have hc : ((i : Int) + 1) = ((i + 1 : Nat) : Int) := by push_cast; rfl
    obtain ⟨e1, e2⟩ := he i hlt hlt2 xs[i] ys[i] (List.getElem?_eq_getElem hx1) (List.getElem?_eq_getElem hy1)
    rw [List.drop_eq_getElem_cons hx1, List.drop_eq_getElem_cons hy1] at h
    unfold lexRows at h
    rw [hi1, hi2]
    refine wpAny_bind (e1 prog w _ _ ?_)
    by_cases g' : xs[i] = ys[i]
    · rw [if_pos g'] at h
      rw [decide_eq_true g']
      wp_walk
      rw [hc]
      exact ⟨plainId_quiet plain_eq_loop _, codeAny_builtin entry_eq_loop (by
        rw [Around.under_plainId plain_eq_loop _]
        exact ih (i + 1) (by omega) prog w A R _ ⟨hl, hb, he, h⟩)⟩
    · rw [if_neg g'] at h
      rw [decide_eq_false g']
      wp_walk using wpAny_loadPart' hl, wpAny_loadPart' hb
      rw [hi1, hi2]
      have e2 := e2 prog w
      wp_walk using e2
      exact h
theorem list_ltAt (l b : Addr) (items items2 : Array Value) (n n2 : Nat) (dd dd2 : Option Addr) (sl sl2 : Array (Option Value)) (hsz : items.size = items2.size) (xs ys : List Rw) (hx : xs.length = items.size) (hy : ys.length = items.size) :
    Meets (Builtin.«list.__lt__» ⟨[.ref l, .ref b], []⟩)
      (fun A R s => s.heap.get? l = some { cls := .type "list", dict := dd, data := .seq items n, slots := sl } ∧ s.heap.get? b = some { cls := .type "list", dict := dd2, data := .seq items2 n2, slots := sl2 } ∧
        (∀ (j : Nat) (h1 : j < items.size) (h2 : j < items2.size) x y, xs[j]? = some x → ys[j]? = some y → EqAt A.in1 s items[j] items2[j] (decide (x = y)) ∧ LtAt A.in1 s items[j] items2[j] (ltRow x y)) ∧
        R (.ok (.ret (.bool (lexRows xs ys)))) s) := by
  intro prog w A R s h
  obtain ⟨hp, g, d, tk, os⟩ := s; obtain ⟨hl, hb, he, h⟩ := h
  have f3 := AutoSeq1.sub_list_list
  wp_walk using wpAny_loadPart' hl, wpAny_loadPart' hb
  exact ⟨plainId_quiet plain_eq_loop _, codeAny_builtin entry_eq_loop (by
    rw [Around.under_plainId plain_eq_loop _]
    exact lt_loopAt l b items items2 n n2 dd dd2 sl sl2 hsz xs ys hx hy _ 0 rfl prog w A R _ ⟨hl, hb, he, h⟩)⟩
end
theorem lt_lists {A : Around} {s : Shared} {l b : Addr} {items items2 : Array Value} {xs ys : List Rw} (hl : s.heap.IsList l items) (hb : s.heap.IsList b items2) (hsz : items.size = items2.size) (hx : xs.length = items.size) (hy : ys.length = items.size) (hu : A.units < cLine)
    (he : ∀ (j : Nat) (h1 : j < items.size) (h2 : j < items2.size) x y, xs[j]? = some x → ys[j]? = some y → SeqAt.EqAt A.in1 s items[j] items2[j] (decide (x = y)) ∧ LtAt A.in1 s items[j] items2[j] (ltRow x y)) : LtAt A s (.ref l) (.ref b) (lexRows xs ys) := fun prog w E Q h => by
  obtain ⟨⟨cls, dd, data, sl⟩, ho, hc, n, hd⟩ := id hl
  obtain ⟨⟨cls2, dd2, data2, sl2⟩, ho2, hc2, n2, hd2⟩ := id hb
  simp only at hc hd hc2 hd2
  subst hc hd hc2 hd2
  exact richCompare_meets_room (op := .Lt) ⟨_, ho, rfl⟩ ⟨_, ho2, rfl⟩ PySem.F.slot_list_lt PySem.F.entry_list_lt (PySem.F.args_list_lt_2 _ _) (list_ltAt l b items items2 n n2 dd dd2 sl sl2 hsz xs ys hx hy)
    ⟨ho, ho2, he, show Value.bool (lexRows xs ys) ≠ Value.notImplemented ∧ Q (.bool (lexRows xs ys)) s from ⟨(fun x => nomatch x), h⟩⟩ hu
inductive CmpL (A : Around) (s : Shared) : List Value → List Value → Bool → Prop
  | nil : CmpL A s [] [] false
  | eq {v u : Value} {vs us : List Value} {b : Bool} : SeqAt.EqAt A s v u true → CmpL A s vs us b → CmpL A s (v :: vs) (u :: us) b
  | ne {v u : Value} {vs us : List Value} {b : Bool} : SeqAt.EqAt A s v u false → LtAt A s v u b → vs.length = us.length → CmpL A s (v :: vs) (u :: us) b
theorem CmpL.len {A : Around} {s : Shared} {vs us : List Value} {b : Bool} (h : CmpL A s vs us b) : vs.length = us.length := by
  induction h with
  | nil => rfl
  | eq _ _ ih => simp [ih]
  | ne _ _ e => simp [e]
section
open PySem.SeqAt
open PySem.AutoSeq1 (wpAny_loadPart')
open PySem.MeetsSeq PySem.MeetsSeq2 PySem.MeetsSeq3
theorem tuple_ltC (l b : Addr) (items items2 : Array Value) (n n2 : Nat) (dd dd2 : Option Addr) (sl sl2 : Array (Option Value)) (bb : Bool) :
    Meets (Builtin.«tuple.__lt__» ⟨[.ref l, .ref b], []⟩)
      (fun A R s => s.heap.get? l = some { cls := .type "tuple", dict := dd, data := .seq items n, slots := sl } ∧ s.heap.get? b = some { cls := .type "tuple", dict := dd2, data := .seq items2 n2, slots := sl2 } ∧
        CmpL A.in1 s items.toList items2.toList bb ∧ R (.ok (.ret (.bool bb))) s) :=
  .of_wp fun prog w A R s h => by
    obtain ⟨hp, g, d, tk, os⟩ := s; obtain ⟨hl, hb, hc, h⟩ := h
    have f2 := AutoSeq1.sub_tuple_tuple
    have z1 : items.size = items2.size := by have := hc.len; simpa using this
    wp_walk using wpAny_loadPart' hl, wpAny_loadPart' hb, wpAny_forIn_list _ (fun rest b s' => b.1 = none ∧ s' = ⟨hp, g, d, tk, os⟩ ∧ ∃ (vs ws : List Value) (c : Bool), rest = vs.zip ws ∧
      CmpL A.in1 ⟨hp, g, d, tk, os⟩ vs ws c ∧ R (.ok (.ret (.bool c))) ⟨hp, g, d, tk, os⟩) _
    case turn =>
      rintro ⟨y, x⟩ rest b s' ⟨hb', rfl, vs, ws, c, hz, hC, hR⟩
      cases hC with
      | nil => rw [List.zip_nil_left] at hz; cases hz
      | eq he hC' =>
        rw [List.zip_cons_cons] at hz
        injection hz with hyx hrest
        injection hyx with hy hx
        subst hy hx
        refine wpAny_bind (he prog w _ _ ?_)
        wp_walk
        exact ⟨rfl, rfl, _, _, _, hrest, hC', hR⟩
      | ne he hlt hlen =>
        rw [List.zip_cons_cons] at hz
        injection hz with hyx hrest
        injection hyx with hy hx
        subst hy hx
        refine wpAny_bind (he prog w _ _ ?_)
        have hlt := hlt prog w
        wp_walk using hlt
        exact ⟨_, rfl, by simpa using hR⟩
    case fin =>
      rintro ⟨b1, b2⟩ s' ⟨hb', rfl, vs, ws, c, hz, hC, hR⟩
      simp only at hb'
      subst hb'
      have hv : c = decide (items.size < items2.size) := by
        cases hC with
        | nil => exact (decide_eq_false (by omega)).symm
        | eq _ _ => rw [List.zip_cons_cons] at hz; cases hz
        | ne _ _ _ => rw [List.zip_cons_cons] at hz; cases hz
      rw [hv] at hR
      wp_walk
      exact ⟨_, rfl, by simpa [Builtin.Tuple.tupleCompareSizes] using hR⟩
    case h =>
      exact ⟨rfl, rfl, items.toList, items2.toList, bb, rfl, hc, h⟩
end
theorem lt_tupC {A : Around} {s : Shared} {l b : Addr} {items items2 : Array Value} {bb : Bool} (hl : IsTup s.heap l items) (hb : IsTup s.heap b items2) (hc : CmpL A.in1 s items.toList items2.toList bb) (hu : A.units < cLine) : LtAt A s (.ref l) (.ref b) bb := fun prog w E Q h => by
  obtain ⟨⟨cls, dd, data, sl⟩, ho, hc', n, hd⟩ := id hl
  obtain ⟨⟨cls2, dd2, data2, sl2⟩, ho2, hc2, n2, hd2⟩ := id hb
  simp only at hc' hd hc2 hd2
  subst hc' hd hc2 hd2
  exact richCompare_meets_room (op := .Lt) ⟨_, ho, rfl⟩ ⟨_, ho2, rfl⟩ PySem.F.slot_tuple_lt PySem.F.entry_tuple_lt (PySem.F.args_tuple_lt_2 _ _) (tuple_ltC l b items items2 n n2 dd dd2 sl sl2 bb)
    ⟨ho, ho2, hc, show Value.bool bb ≠ Value.notImplemented ∧ Q (.bool bb) s from ⟨(fun x => nomatch x), h⟩⟩ hu
theorem lexRows_self : ∀ xs : List Rw, lexRows xs xs = false
  | [] => rfl
  | x :: xs => by unfold lexRows; rw [if_pos rfl, lexRows_self xs]
end HT
namespace L2
open PySem PySem.Spec PyProof.Rows
def RowsL (K : PySem.W.Frag) (H : Hp) (ps : List Addr) (xs : List HT.Rw) : Prop := ps.length = xs.length ∧ ∀ (i : Nat) p r, ps[i]? = some p → xs[i]? = some r → SqT K H p (HT.rwV r)
section
variable {X : Cx}
theorem in1_le (A : Around) : A.in1.units ≤ A.units + 1 := in1_units A
theorem op_ltP (hu : X.A.units + 64 < cLine) : OpR X (compareOp .Lt) (fun x y H Q => ∃ (a b l l' : Addr) (m m' : Int) (ps ps' : List Addr) (xs ys : List HT.Rw), x = .ref a ∧ y = .ref b ∧ SqT X.K H a [.int m, .ref l] ∧ SqT X.K H b [.int m', .ref l'] ∧
    SqL X.K H l (ps.map V.ref) ∧ SqL X.K H l' (ps'.map V.ref) ∧ RowsL X.K H ps xs ∧ RowsL X.K H ps' ys ∧ xs.length = ys.length ∧ Q (.bl (decide (m < m') || (decide (m = m') && HT.lexRows xs ys))) H) := by
  intro pins s σ H x y v u Q I rx ry h
  obtain ⟨a, b, l, l', m, m', ps, ps', xs, ys, rfl, rfl, ha, hb, hl, hl', hp, hp', hlen, q⟩ := h
  cases rx
  cases ry
  obtain ⟨its, r1, p1, _⟩ := I.tuple ha
  obtain ⟨its2, r2, p2, _⟩ := I.tuple hb
  have u1 := in1_le X.A
  have u2 := in1_le X.A.in1
  cases r1 with | cons ra r1 => cases r1 with | cons rb r1 => cases r1 with | nil =>
  cases r2 with | cons sa r2 => cases r2 with | cons sb r2 => cases r2 with | nil =>
  obtain ⟨t, rfl⟩ := (show ∃ t, _ = Value.int m t from ra)
  obtain ⟨t', rfl⟩ := (show ∃ t', _ = Value.int m' t' from sa)
  cases (show _ = Value.ref l from rb)
  cases (show _ = Value.ref l' from sb)
  have fin : wpAny (model X.prog X.w) X.A (compareOp .Lt (.ref a) (.ref b)) (fun r s' => r = .bool (decide (m < m') || (decide (m = m') && HT.lexRows xs ys)) ∧ s' = s) X.xe s := by
    refine HT.lt_tupC (A := X.A) (bb := decide (m < m') || (decide (m = m') && HT.lexRows xs ys)) p1 p2 ?_ (by omega) X.prog X.w X.xe _ ⟨rfl, rfl⟩
    by_cases e : m = m'
    · subst e
      rw [decide_eq_false (Int.lt_irrefl m), decide_eq_true rfl, Bool.false_or, Bool.true_and]
      refine .eq (by simpa using SeqAt.EqAt.int_int (A := X.A.in1) (s := s) m t m t') ?_
      have eqs : Eqs X.K H 2 (.ref l) (.ref l') (decide (xs = ys)) := Eqs.seq (.inr ⟨hl, hl'⟩) (by rw [List.length_map, hp.1]) (by rw [List.length_map, hp'.1]) fun j p q d e hp1 hq1 hd he => by
        obtain ⟨pa, hpa, rfl⟩ : ∃ z, ps[j]? = some z ∧ p = V.ref z := by
          rw [List.getElem?_map] at hp1
          cases g : ps[j]? with
          | none => rw [g] at hp1; cases hp1
          | some z => rw [g] at hp1; exact ⟨z, rfl, (Option.some.inj hp1).symm⟩
        obtain ⟨qa, hqa, rfl⟩ : ∃ z, ps'[j]? = some z ∧ q = V.ref z := by
          rw [List.getElem?_map] at hq1
          cases g : ps'[j]? with
          | none => rw [g] at hq1; cases hq1
          | some z => rw [g] at hq1; exact ⟨z, rfl, (Option.some.inj hq1).symm⟩
        have h1 := hp.2 j pa d hpa hd
        have h2 := hp'.2 j qa e hqa he
        have := Eqs.pair (K := X.K) (n := 0) h1 h2 (Eqs.flat (x := .int d.1) (y := .int e.1) rfl) (Eqs.flat (x := .str d.2) (y := .str e.2) rfl)
        have ee : (decide (V.int d.1 = V.int e.1) && decide (V.str d.2 = V.str e.2)) = decide (d = e) := by
          obtain ⟨d1, d2⟩ := d
          obtain ⟨e1, e2⟩ := e
          rw [Bool.eq_iff_iff, Bool.and_eq_true, decide_eq_true_eq, decide_eq_true_eq, decide_eq_true_eq]
          constructor
          · rintro ⟨a, b⟩; injection a with a; injection b with b; exact Prod.ext a b
          · intro h; injection h with a b; rw [a, b]; exact ⟨rfl, rfl⟩
        rwa [ee] at this
      have ea := eqs_at I 2 (A := X.A.in1) (by omega) eqs (show RelV (.ref l) (.ref l) from rfl) (show RelV (.ref l') (.ref l') from rfl)
      by_cases exy : xs = ys
      · subst exy
        rw [decide_eq_true rfl] at ea
        rw [HT.lexRows_self]
        exact .eq ea .nil
      · rw [decide_eq_false exy] at ea
        refine .ne ea ?_ rfl
        obtain ⟨ia, ra', pla, _⟩ := I.list hl
        obtain ⟨ib, rb', plb, _⟩ := I.list hl'
        have la : ia.length = ps.length := by have := ra'.length; rw [List.length_map] at this; omega
        have lb : ib.length = ps'.length := by have := rb'.length; rw [List.length_map] at this; omega
        have h1 := hp.1
        have h2 := hp'.1
        refine HT.lt_lists (A := X.A.in1) pla.isList plb.isList (by simp; omega) (by simp; omega) (by simp; omega) (by omega) fun j j1 j2 x y hx hy => ?_
        have j1' : j < ps.length := by simpa [la] using j1
        have j2' : j < ps'.length := by simpa [lb] using j2
        have e1 : ia.toArray[j] = .ref ps[j] := by
          obtain ⟨w, hw, rw'⟩ := Vals.get ra' (i := j) (x := V.ref ps[j]) (by rw [List.getElem?_map, List.getElem?_eq_getElem j1']; rfl)
          have : ia[j]? = some ia.toArray[j] := by simp
          rw [this] at hw
          rw [Option.some.inj hw]; exact rw'
        have e2 : ib.toArray[j] = .ref ps'[j] := by
          obtain ⟨w, hw, rw'⟩ := Vals.get rb' (i := j) (x := V.ref ps'[j]) (by rw [List.getElem?_map, List.getElem?_eq_getElem j2']; rfl)
          have : ib[j]? = some ib.toArray[j] := by simp
          rw [this] at hw
          rw [Option.some.inj hw]; exact rw'
        rw [e1, e2]
        have t1 := hp.2 j ps[j] x (List.getElem?_eq_getElem j1') hx
        have t2 := hp'.2 j ps'[j] y (List.getElem?_eq_getElem j2') hy
        have := Eqs.pair (K := X.K) (n := 0) t1 t2 (Eqs.flat (x := .int x.1) (y := .int y.1) rfl) (Eqs.flat (x := .str x.2) (y := .str y.2) rfl)
        have ee : (decide (V.int x.1 = V.int y.1) && decide (V.str x.2 = V.str y.2)) = decide (x = y) := by
          obtain ⟨d1, d2⟩ := x
          obtain ⟨e1, e2⟩ := y
          rw [Bool.eq_iff_iff, Bool.and_eq_true, decide_eq_true_eq, decide_eq_true_eq, decide_eq_true_eq]
          constructor
          · rintro ⟨a, b⟩; injection a with a; injection b with b; exact Prod.ext a b
          · intro h; injection h with a b; rw [a, b]; exact ⟨rfl, rfl⟩
        rw [ee] at this
        refine ⟨eqs_at I 1 (A := X.A.in1.in1) (by omega) this (show RelV (.ref _) (.ref _) from rfl) (show RelV (.ref _) (.ref _) from rfl), fun prog w E Q h => ?_⟩
        obtain ⟨i1, q1, z1, _⟩ := I.tuple t1
        obtain ⟨i2, q2, z2, _⟩ := I.tuple t2
        exact HT.lt_tupMix (A := X.A.in1.in1) (xs := HT.rwV x) (ys := HT.rwV y) z1 z2 (by simpa using q1) (by simpa using q2) ⟨trivial, trivial, trivial⟩ (by omega) h
    · rw [decide_eq_false e, Bool.false_and, Bool.or_false]
      refine .ne (by have := SeqAt.EqAt.int_int (A := X.A.in1) (s := s) m t m' t'; rwa [show (m == m') = false by simpa using e] at this) (fun prog w E Q h => ?_) rfl
      exact (PyProof.Rows.lt_int h : wpAny (model prog w) X.A.in1 (compareOp .Lt (.int m t) (.int m' t')) Q E s)
  refine thn fin fun r s' ⟨e1, e2⟩ => ?_
  subst e1 e2
  exact ⟨.bl _, H, I, rfl, q⟩
end
end L2
set_option maxHeartbeats 1000000
namespace Wk
open PySem L2
def Fst (A : List T4) : Prop := ∀ x ∈ A, ¬ Reach (wo A x.1) x.2.1 x.2.2.1
theorem fst_snoc {P : List T4} {t : T4} (h : Fst P) (nd : (P.map (·.1)).Nodup) (tn : t.1 ∉ P.map (·.1)) (ht : ¬ Reach P t.2.1 t.2.2.1) : Fst (P ++ [t]) := by
  intro x hx r
  rcases List.mem_append.mp hx with z | z
  · have ne : x.1 ≠ t.1 := fun e => tn (e ▸ List.mem_map_of_mem z)
    have r2 : Reach (wo P x.1 ++ [t]) x.2.1 x.2.2.1 := r.mono fun u hu => by
      rcases List.mem_append.mp (wom.mp hu).1 with y | y
      · exact List.mem_append_left _ (wom.mpr ⟨y, (wom.mp hu).2⟩)
      · exact List.mem_append_right _ y
    have up : ∀ {a b}, Reach (wo P x.1) a b → Reach P a b := fun r => r.mono fun u hu => (wom.mp hu).1
    have tx : Reach P x.2.1 x.2.2.1 := reach_tie z
    rcases reach_snoc.mp r2 with q | ⟨q1, q2⟩ | ⟨q1, q2⟩
    · exact h x z q
    · exact ht (((up q1).symm.trans tx).trans (up q2).symm)
    · exact ht (((up q2).trans tx.symm).trans (up q1))
  · rw [List.mem_singleton.mp z] at r
    refine ht (r.mono fun u hu => ?_)
    rcases List.mem_append.mp (wom.mp hu).1 with y | y
    · exact y
    · rw [List.mem_singleton.mp y] at hu; exact absurd rfl (wom.mp hu).2
theorem bare_fst : ∀ (T P : List T4), ((P ++ T).map (·.1)).Nodup → Fst P → Bare P T → Fst (P ++ T)
  | [], P, _, h, _ => by rw [List.append_nil]; exact h
  | t :: T, P, nd, h, ⟨b1, b2⟩ => by
    have e : P ++ t :: T = (P ++ [t]) ++ T := by rw [List.append_assoc]; rfl
    rw [e] at nd ⊢
    have nd1 : ((P ++ [t]).map (·.1)).Nodup := nd.sublist ((List.sublist_append_left _ _).map _)
    rw [List.map_append] at nd1
    have nd2 := List.nodup_append.mp nd1
    exact bare_fst T (P ++ [t]) nd (fst_snoc h nd2.1 (fun z => nd2.2.2 _ z _ (by simp) rfl) b1) b2
theorem fst_bare {A : List T4} (h : Fst A) : ∀ (T P : List T4), (∀ u ∈ P ++ T, u ∈ A) → ((P ++ T).map (·.1)).Nodup → Bare P T
  | [], _, _, _ => trivial
  | t :: T, P, hA, nd => by
    have e : P ++ t :: T = (P ++ [t]) ++ T := by rw [List.append_assoc]; rfl
    refine ⟨fun r => h t (hA t (by simp)) (r.mono fun u hu => wom.mpr ⟨hA u (List.mem_append_left _ hu), fun z => ?_⟩), ?_⟩
    · rw [List.map_append] at nd
      exact (List.nodup_append.mp nd).2.2 _ (List.mem_map_of_mem hu) _ (by simp) z
    · rw [e] at nd hA
      exact fst_bare h T (P ++ [t]) hA nd
theorem bare_snoc : ∀ (T P : List T4) (t : T4), Bare P (T ++ [t]) ↔ Bare P T ∧ ¬ Reach (P ++ T) t.2.1 t.2.2.1
  | [], P, t => by rw [List.append_nil]; exact ⟨fun h => ⟨trivial, h.1⟩, fun h => ⟨h.2, trivial⟩⟩
  | x :: T, P, t => by
    have ih := bare_snoc T (P ++ [x]) t
    rw [List.append_assoc] at ih
    show (_ ∧ Bare (P ++ [x]) (T ++ [t])) ↔ (_ ∧ Bare (P ++ [x]) T) ∧ _
    rw [ih]
    exact ⟨fun ⟨a, b, c⟩ => ⟨⟨a, b⟩, c⟩, fun ⟨⟨a, b⟩, c⟩ => ⟨a, b, c⟩⟩
theorem fo_all {N : Nat} {S : List T4} (hS : InN N S) (hN : N ≤ 60) {a b : Nat} : Reach S a b ↔ Reach (foF N S) a b := by
  refine ⟨reach_ties fun u hu => ?_, fun r => r.mono fun u hu => (fo_mem.mp hu).1⟩
  by_cases k : keepF N S u = true
  · exact reach_tie (fo_mem.mpr ⟨hu, k⟩)
  · exact ((ahead_fo hS hN u).mp (not_keep hS hN hu k)).mono fun v hv => (ahm.mp hv).1
theorem fo_fst {N : Nat} {S : List T4} (hS : InN N S) (hN : N ≤ 60) (nd : (S.map (·.1)).Nodup) : Fst (foF N S) := fun x hx => fo_bridge hS hN nd hx
def Asc (cs : List T4) : Prop := cs.Pairwise fun a b => aheadB a b = true
def LeL : List T4 → List T4 → Prop
  | f :: fs, c :: cs => (f = c ∨ aheadB f c = true) ∧ LeL fs cs
  | [], [] => True
  | _, _ => False
theorem leL_of : ∀ {fs cs : List T4}, fs.length = cs.length → (∀ (i : Nat) f c, fs[i]? = some f → cs[i]? = some c → f = c ∨ aheadB f c = true) → LeL fs cs
  | [], [], _, _ => trivial
  | [], _ :: _, h, _ => by simp at h
  | _ :: _, [], h, _ => by simp at h
  | f :: fs, c :: cs, h, g => ⟨g 0 f c rfl rfl, leL_of (by simpa using h) fun i f' c' a b => g (i + 1) f' c' (by simpa using a) (by simpa using b)⟩
def rowR (t : T4) : HT.Rw := (t.2.2.2, t.1)
theorem ltRow_ah (a b : T4) : HT.ltRow (rowR a) (rowR b) = aheadB a b := rfl
def sumW (cs : List T4) : Int := (cs.map fun t => t.2.2.2).sum
theorem ah_w {a b : T4} (h : aheadB a b = true) : a.2.2.2 ≤ b.2.2.2 := by
  unfold aheadB at h
  rw [HT.lexV_cons] at h
  split at h
  · rename_i e; injection e with e; omega
  · have : decide (a.2.2.2 < b.2.2.2) = true := h
    have := of_decide_eq_true this
    omega
theorem sum_le : ∀ {fs cs : List T4}, LeL fs cs → sumW fs ≤ sumW cs
  | [], [], _ => Int.le_refl _
  | [], _ :: _, h => h.elim
  | _ :: _, [], h => h.elim
  | f :: fs, c :: cs, ⟨h, g⟩ => by
    have ih := sum_le g
    unfold sumW at ih ⊢
    rw [List.map_cons, List.map_cons, List.sum_cons, List.sum_cons]
    have : f.2.2.2 ≤ c.2.2.2 := by
      rcases h with rfl | h
      · exact Int.le_refl _
      · exact ah_w h
    omega
theorem lex_le : ∀ {fs cs : List T4}, LeL fs cs → fs = cs ∨ (HT.lexRows (fs.map rowR) (cs.map rowR) = true ∧ HT.lexRows (cs.map rowR) (fs.map rowR) = false)
  | [], [], _ => .inl rfl
  | [], _ :: _, h => h.elim
  | _ :: _, [], h => h.elim
  | f :: fs, c :: cs, ⟨h, g⟩ => by
    rcases h with rfl | h
    · rcases lex_le g with rfl | ⟨e1, e2⟩
      · exact .inl rfl
      · refine .inr ⟨?_, ?_⟩
        · rw [List.map_cons, List.map_cons]; unfold HT.lexRows; rw [if_pos rfl]; exact e1
        · rw [List.map_cons, List.map_cons]; unfold HT.lexRows; rw [if_pos rfl]; exact e2
    · have ne : rowR f ≠ rowR c := fun e => by
        have := ltRow_ah f c
        rw [e, h] at this
        have z := ah_irr c
        rw [← ltRow_ah, this] at z; cases z
      refine .inr ⟨?_, ?_⟩
      · rw [List.map_cons, List.map_cons]; unfold HT.lexRows; rw [if_neg ne, ltRow_ah]; exact h
      · rw [List.map_cons, List.map_cons]; unfold HT.lexRows; rw [if_neg (Ne.symm ne), ltRow_ah]; exact ah_asym h
def rkB (a b : List T4) : Bool := decide (sumW a < sumW b) || (decide (sumW a = sumW b) && HT.lexRows (a.map rowR) (b.map rowR))
theorem rk_lt {fs cs : List T4} (h : LeL fs cs) (ne : fs ≠ cs) : rkB fs cs = true ∧ rkB cs fs = false := by
  have s := sum_le h
  obtain ⟨e1, e2⟩ := (lex_le h).resolve_left ne
  unfold rkB
  rw [e1, e2]
  by_cases g : sumW fs < sumW cs
  · rw [decide_eq_true g, decide_eq_false (show ¬ sumW cs < sumW fs by omega)]; exact ⟨rfl, by simp⟩
  · have e : sumW fs = sumW cs := by omega
    rw [e, decide_eq_false (Int.lt_irrefl _), decide_eq_true rfl]; exact ⟨rfl, rfl⟩
structure Cand (N : Nat) (S C : List T4) : Prop where
  sub : ∀ u ∈ C, u ∈ S
  nd : (C.map (·.1)).Nodup
  fo : Fst C
  al : ∀ a b, a < N → b < N → (Reach C a b ↔ Reach S a b)
theorem cand_len {N : Nat} {S C D : List T4} (hS : InN N S) (hC : Cand N S C) (hD : Cand N S D) : C.length ≤ D.length :=
  forest_le (fun u hu => hS u (hC.sub u hu)) (fun u hu => hS u (hD.sub u hu)) (fst_bare hC.fo C [] (fun u hu => hu) hC.nd) (fst_bare hD.fo D [] (fun u hu => hu) hD.nd) fun a b ha hb r => (hD.al a b ha hb).mpr ((hC.al a b ha hb).mp r)
theorem fo_cand {N : Nat} {S : List T4} (hS : InN N S) (hN : N ≤ 60) (nd : (S.map (·.1)).Nodup) : Cand N S (foF N S) :=
  ⟨fun u hu => (fo_mem.mp hu).1, nd.sublist (List.filter_sublist.map _), fo_fst hS hN nd, fun a b _ _ => (fo_all hS hN).symm⟩
theorem cand_le {N : Nat} {S C fs cs : List T4} (hS : InN N S) (hN : N ≤ 60) (nd : (S.map (·.1)).Nodup) (hC : Cand N S C) (pf : fs.Perm (foF N S)) (af : Asc fs) (pc : cs.Perm C) (ac : Asc cs) : LeL fs cs := by
  have hF := fo_cand hS hN nd
  have hl : fs.length = cs.length := by
    rw [pf.length_eq, pc.length_eq]
    exact Nat.le_antisymm (cand_len hS hF hC) (cand_len hS hC hF)
  refine leL_of hl fun i f c ef ec => ?_
  rcases Classical.em (f = c ∨ aheadB f c = true) with g | g
  · exact g
  exfalso
  have cS : c ∈ S := hC.sub c (pc.mem_iff.mp (List.mem_of_getElem? ec))
  have fF : f ∈ foF N S := pf.mem_iff.mp (List.mem_of_getElem? ef)
  have fS := (fo_mem.mp fF).1
  have ne : f.1 ≠ c.1 := fun z => g (.inl (name_inj nd fS cS z))
  have cf : aheadB c f = true := by
    cases h : aheadB f c with
    | true => exact absurd (.inr h) g
    | false => exact ah_tri ne h
  obtain ⟨p, hp⟩ : ∃ p : T4 → Bool, p = fun u => aheadB u c || decide (u = c) := ⟨_, rfl⟩
  have hi : i < cs.length := (List.getElem?_eq_some_iff.mp ec).1
  have hi' : i < fs.length := (List.getElem?_eq_some_iff.mp ef).1
  have mT : ∀ u ∈ cs.take (i + 1), u ∈ C := fun u hu => pc.mem_iff.mp (List.mem_of_mem_take hu)
  have ndc : (cs.map (·.1)).Nodup := (pc.map _).nodup_iff.mpr hC.nd
  have lT : ∀ u ∈ cs.take (i + 1), aheadB u c = true ∨ u = c := fun u hu => by
    rw [List.take_add_one, ec] at hu
    rcases List.mem_append.mp hu with z | z
    · left
      have e : cs = cs.take i ++ c :: cs.drop (i + 1) := by
        have := List.getElem?_eq_some_iff.mp ec
        rw [← this.2, ← List.drop_eq_getElem_cons this.1, List.take_append_drop]
      have ac' := ac
      unfold Asc at ac'
      rw [e] at ac'
      exact (List.pairwise_append.mp ac').2.2 u z c (by simp)
    · right; exact List.mem_singleton.mp z
  have bT : Bare [] (cs.take (i + 1)) := fst_bare hC.fo _ [] (fun u hu => mT u hu) (ndc.sublist ((List.take_sublist ..).map _))
  have bG : Bare [] ((foF N S).filter p) := fst_bare hF.fo _ [] (fun u hu => (List.mem_filter.mp hu).1) (hF.nd.sublist (List.filter_sublist.map _))
  have rG : ∀ a b, a < N → b < N → Reach (cs.take (i + 1)) a b → Reach ((foF N S).filter p) a b := fun a b _ _ => reach_ties fun u hu => by
    have uS := hC.sub u (mT u hu)
    have pu : p u = true := by
      rw [hp]
      rcases lT u hu with z | z
      · show (_ || _) = true; rw [z]; rfl
      · show (_ || _) = true; rw [decide_eq_true z, Bool.or_true]
    by_cases k : keepF N S u = true
    · exact reach_tie (List.mem_filter.mpr ⟨fo_mem.mpr ⟨uS, k⟩, pu⟩)
    · refine ((ahead_fo hS hN u).mp (not_keep hS hN uS k)).mono fun v hv => List.mem_filter.mpr ⟨(ahm.mp hv).1, ?_⟩
      have vc : aheadB v c = true := by
        rcases lT u hu with z | z
        · exact ah_tr (ahm.mp hv).2 z
        · rw [← z]; exact (ahm.mp hv).2
      rw [hp]; show (_ || _) = true; rw [vc]; rfl
  have le := forest_le (N := N) (fun u hu => hS u (hC.sub u (mT u hu))) (fun u hu => hS u (fo_mem.mp (List.mem_filter.mp hu).1).1) bT bG rG
  rw [List.length_take, Nat.min_eq_left (by omega)] at le
  have pl : ((foF N S).filter p).length = (fs.filter p).length := (pf.filter p).length_eq.symm
  have e : fs = fs.take i ++ f :: fs.drop (i + 1) := by
    have := List.getElem?_eq_some_iff.mp ef
    rw [← this.2, ← List.drop_eq_getElem_cons this.1, List.take_append_drop]
  have tail : (f :: fs.drop (i + 1)).filter p = [] := List.filter_eq_nil_iff.mpr fun u hu => by
    have fu : u = f ∨ aheadB f u = true := by
      rcases List.mem_cons.mp hu with z | z
      · exact .inl z
      · unfold Asc at af
        rw [e] at af
        exact .inr ((List.pairwise_cons.mp (List.pairwise_append.mp af).2.1).1 u z)
    have cu : aheadB c u = true := by
      rcases fu with rfl | z
      · exact cf
      · exact ah_tr cf z
    rw [hp]
    show ¬ (_ || _) = true
    rw [ah_asym cu, decide_eq_false (fun z => by rw [z, ah_irr] at cu; cases cu)]
    decide
  have : (fs.filter p).length ≤ i := by
    rw [e, List.filter_append, tail, List.append_nil]
    exact Nat.le_trans (List.length_filter_le ..) (by rw [List.length_take]; omega)
  omega
def stepL (L : List (List T4)) (t : T4) : List (List T4) := L ++ L.map (· ++ [t])
def setsF (S : List T4) : List (List T4) := S.foldl stepL [[]]
theorem sets_snoc (S : List T4) (t : T4) : setsF (S ++ [t]) = stepL (setsF S) t := by unfold setsF; rw [List.foldl_append]; rfl
theorem sets_sub : ∀ (n : Nat) (S A : List T4), S.length = n → A ∈ setsF S → A.Sublist S
  | 0, S, A, h, hA => by
    have : S = [] := List.length_eq_zero_iff.mp h
    subst this
    have : A = [] := by simpa [setsF] using hA
    rw [this]; exact List.Sublist.refl _
  | n + 1, S, A, h, hA => by
    have ne : S ≠ [] := fun e => by rw [e] at h; cases h
    obtain ⟨S', t, rfl⟩ : ∃ S' t, S = S' ++ [t] := ⟨_, _, (List.dropLast_concat_getLast ne).symm⟩
    have hl : S'.length = n := by simpa using h
    rw [sets_snoc] at hA
    rcases List.mem_append.mp hA with z | z
    · exact (sets_sub n S' A hl z).trans (List.sublist_append_left _ _)
    · obtain ⟨B, hB, rfl⟩ := List.mem_map.mp z
      exact (sets_sub n S' B hl hB).append (List.Sublist.refl _)
theorem sets_filt (p : T4 → Bool) : ∀ (n : Nat) (S : List T4), S.length = n → S.filter p ∈ setsF S
  | 0, S, h => by
    have : S = [] := List.length_eq_zero_iff.mp h
    subst this
    simp [setsF]
  | n + 1, S, h => by
    have ne : S ≠ [] := fun e => by rw [e] at h; cases h
    obtain ⟨S', t, rfl⟩ : ∃ S' t, S = S' ++ [t] := ⟨_, _, (List.dropLast_concat_getLast ne).symm⟩
    have ih := sets_filt p n S' (by simpa using h)
    rw [sets_snoc, List.filter_append]
    unfold stepL
    cases g : p t with
    | true =>
      refine List.mem_append_right _ (List.mem_map.mpr ⟨_, ih, ?_⟩)
      simp [g]
    | false =>
      refine List.mem_append_left _ ?_
      simpa [g] using ih
theorem sets_len : ∀ (n : Nat) (S : List T4), S.length = n → (setsF S).length = 2 ^ n
  | 0, S, h => by
    have : S = [] := List.length_eq_zero_iff.mp h
    subst this; rfl
  | n + 1, S, h => by
    have ne : S ≠ [] := fun e => by rw [e] at h; cases h
    obtain ⟨S', t, rfl⟩ : ∃ S' t, S = S' ++ [t] := ⟨_, _, (List.dropLast_concat_getLast ne).symm⟩
    rw [sets_snoc]
    unfold stepL
    rw [List.length_append, List.length_map, sets_len n S' (by simpa using h)]
    omega
end Wk
set_option maxHeartbeats 1000000
namespace L2
open PySem PySem.Spec PyProof.Rows
section
variable {X : Cx}
theorem num_at (ys : Array (Int × Tok)) {i : Nat} (h : i < ys.size) : ∃ t, (intItems ys)[i]? = some (.int (numAt ys i) t) ∧ (ys.toList.map (·.1))[i]? = some (numAt ys i) := by
  refine ⟨ys[i].2, ?_, ?_⟩
  · unfold intItems numAt
    simp [h]
  · unfold numAt
    simp [h]
theorem call_maxL (hc : X.calm = true) : CallR X (.builtin "max") (fun xs H Q => ∃ (p : Addr) (ns : List Int), xs = [.ref p] ∧ SqL X.K H p (ns.map V.int) ∧ ns ≠ [] ∧ ∀ m, m ∈ ns → (∀ n ∈ ns, n ≤ m) → Q (.int m) H) := by
  intro pins s σ H xs us Q I r h
  obtain ⟨p, ns, rfl, hq, hne, q⟩ := h
  obtain ⟨u, rfl, rx⟩ := vals1 r
  cases rx
  obtain ⟨its, rv, hl, hz⟩ := I.list hq
  have hi := intsAre_of rv
  obtain ⟨ys, e⟩ := hi.allInts.items
  have hl' := hl.isList
  rw [e] at hl'
  have e2 : ys.toList.map (·.1) = ns := by
    have q2 := nums_intItems ys
    rw [← e] at q2
    rw [← q2]
    exact hi.numsOf
  have sz : ys.size = ns.length := by rw [← e2]; simp
  have pos : 0 < ys.size := by rw [sz]; exact List.length_pos_iff.mpr hne
  refine max_intList (I.ok.hd hc) hl' pos fun v h' tk hv hk => ?_
  obtain ⟨b1, b2⟩ := argBest_gt (numAt ys) (ys.size - 1)
  obtain ⟨t, g1, g2⟩ := num_at ys (i := argBest (fun i j => decide (numAt ys i > numAt ys j)) (ys.size - 1)) (by omega)
  rw [g1] at hv
  cases hv
  rw [e2] at g2
  refine ⟨.int _, H, I.kept hk, ⟨t, rfl⟩, q _ (List.mem_of_getElem? g2) fun n hn => ?_⟩
  obtain ⟨j, hj, rfl⟩ := List.mem_iff_getElem.mp hn
  obtain ⟨_, _, g3⟩ := num_at ys (i := j) (by omega)
  rw [e2, List.getElem?_eq_getElem hj] at g3
  rw [Option.some.inj g3]
  exact b2 j (by omega)
end
end L2
set_option maxHeartbeats 1000000
namespace L2
open PySem PySem.Spec PyProof.Rows
end L2
set_option maxHeartbeats 1000000
namespace L2
open PySem PySem.Spec PyProof.Rows
end L2
namespace Wk
open PySem L2
def Srtd (S T : List T4) : Prop := S.Perm T ∧ S.Pairwise fun a b => Srt.ltR (keysOf b) (keysOf a) = false
end Wk
set_option maxHeartbeats 1000000
namespace Wk
open PySem L2
end Wk
set_option maxHeartbeats 1000000
namespace L2
open PySem PySem.Spec PyProof.Rows
end L2
namespace Wk
open PySem L2
end Wk
set_option maxHeartbeats 1000000
namespace HT
open PySem PyProof.Rows
end HT
namespace L2
open PySem PySem.Spec PyProof.Rows
end L2
namespace Wk
open PySem L2
theorem cat_any {K : PySem.W.Frag} {H : Hp} {Q : VK} {a b : Addr} {xs ys : List V} (ha : H a = some (.tup xs)) (hb : H b = some (.tup ys)) (hl : xs.length + ys.length ≤ 10000)
    (k : ∀ t H', Same H H' → H' t = some (.tup (xs ++ ys)) → Q (.ref t) H') : rCatTT K (.ref a) (.ref b) H Q := by
  refine ⟨a, b, _, _, rfl, rfl, SqT.of ha, SqT.of hb, small hl, fun e => k b H (same_refl H) ?_, fun _ e => k a H (same_refl H) ?_, fun _ _ p hp => k p _ (same_new hp) upd_same⟩
  · rw [e]; exact hb
  · rw [e, List.append_nil]; exact ha
end Wk
set_option maxHeartbeats 1000000
namespace K46
open PySem L2 Wk
def top (i : Nat) : Stmt := PySem.Challenge.pw_joinedever_k46_none_is_lighter.main.body.getD i (.Pass ⟨0, 0, 0, 0⟩)
abbrev sBeside : Stmt := top 1
abbrev sWays : Stmt := top 2
abbrev sPart : Stmt := top 3
abbrev sJoined : Stmt := top 4
abbrev sRank : Stmt := top 6
abbrev sAhead : Stmt := top 7
abbrev sTAhead : Stmt := top 8
abbrev sLight : Stmt := top 9
abbrev sWell : Stmt := top 11
abbrev sDraw : Stmt := top 12
abbrev sNames : Stmt := top 13
abbrev sWeight : Stmt := top 14
abbrev sPair : Stmt := top 15
abbrev sStand : Stmt := top 16
abbrev sLLab : Stmt := top 17
abbrev sLAl : Stmt := top 18
abbrev sBest : Stmt := top 19
abbrev sLaw : Stmt := top 20
structure Txt (mg : Str → Option Value) : Prop where
  int : mg "int" = none
  tuple : mg "tuple" = none
  len : mg "len" = none
  range : mg "range" = none
  sum : mg "sum" = none
  max : mg "max" = none
  min : mg "min" = none
  sorted : mg "sorted" = none
  list : mg "list" = none
  enumerate : mg "enumerate" = none
  set : mg "set" = none
def StandAt (H : Hp) (st : Addr) (S : List T4) : Prop := ∃ rs : List Addr, H st = some (.lst (rs.map V.ref)) ∧ TiesAt H rs S
def spBeside : Sp := fun vs H Q _ => ∃ (N : Nat) (st : Addr) (S : List T4), vs = [.int (N : Int), .ref st] ∧ StandAt H st S ∧ InN N S ∧ N ≤ 60 ∧ S.length ≤ 100 ∧ ∀ b H', Same H H' → BesAt H' b N (nbrs S) → Q (.ref b) H'
def spWays : Sp := fun vs H Q _ => ∃ (N : Nat) (st : Addr) (S : List T4) (p : Nat), vs = [.int (N : Int), .ref st, .int (p : Int)] ∧ StandAt H st S ∧ InN N S ∧ N ≤ 60 ∧ S.length ≤ 100 ∧ p < N ∧ ∀ a H', Same H H' → WaysAt H' a (waysF N S p) → Q (.ref a) H'
def spPart : Sp := fun vs H Q _ => ∃ (N : Nat) (st : Addr) (S : List T4) (p : Nat), vs = [.int (N : Int), .ref st, .int (p : Int)] ∧ StandAt H st S ∧ InN N S ∧ N ≤ 60 ∧ S.length ≤ 100 ∧ p < N ∧ ∀ a H', Same H H' → H' a = some (.tup (((partF N S p).map Int.ofNat).map V.int)) → Q (.ref a) H'
def spJoined : Sp := fun vs H Q _ => ∃ (N : Nat) (st : Addr) (S : List T4) (p q : Nat), vs = [.int (N : Int), .ref st, .int (p : Int), .int (q : Int)] ∧ StandAt H st S ∧ InN N S ∧ N ≤ 60 ∧ S.length ≤ 100 ∧ p < N ∧ ∀ H', Same H H' → Q (.bl (decide (q ∈ partF N S p))) H'
def StandT (H : Hp) (st : Addr) (S : List T4) : Prop := ∃ rs : List Addr, H st = some (.tup (rs.map V.ref)) ∧ TiesAt H rs S
theorem StandT.mono {H H' : Hp} {st : Addr} {S : List T4} (h : StandT H st S) (f : ∀ r zs, H r = some (.tup zs) → H' r = some (.tup zs)) : StandT H' st S := let ⟨rs, a, b⟩ := h; ⟨rs, f _ _ a, b.1, fun i r t e g => f _ _ (b.2 i r t e g)⟩
theorem StandT.same {H H' : Hp} {st : Addr} {S : List T4} (h : StandT H st S) (s : Same H H') : StandT H' st S := h.mono fun r zs e => s _ _ e
def spRank : Sp := fun vs H Q _ => ∃ (r : Addr) (t : T4), vs = [.ref r] ∧ H r = some (.tup (tieV t)) ∧ ∀ p H', Same H H' → H' p = some (.tup [.int t.2.2.2, .str t.1]) → Q (.ref p) H'
def spAhead : Sp := fun vs H Q _ => ∃ (r r2 : Addr) (t u : T4), vs = [.ref r, .ref r2] ∧ H r = some (.tup (tieV t)) ∧ H r2 = some (.tup (tieV u)) ∧ ∀ H', Same H H' → Q (.bl (aheadB t u)) H'
def spTAhead : Sp := fun vs H Q _ => ∃ (st r : Addr) (S : List T4) (t : T4), vs = [.ref st, .ref r] ∧ StandT H st S ∧ S.length ≤ 100 ∧ H r = some (.tup (tieV t)) ∧ ∀ l H', Same H H' → StandAt H' l (aheadF S t) → Q (.ref l) H'
def spLight : Sp := fun vs H Q _ => ∃ (N : Nat) (st : Addr) (S : List T4), vs = [.int (N : Int), .ref st] ∧ StandT H st S ∧ InN N S ∧ N ≤ 60 ∧ S.length ≤ 100 ∧ ∀ r H', Same H H' → H' r = some (.tup ((lightF N S).map V.str)) → Q (.ref r) H'
section
variable {P : Program} {w : World} {K : PySem.W.Frag} {mg : Str → Option Value} {base : Heap}
theorem scBeside : FnScope ["many", "stand", "beside", "name", "one", "other", "weight"] ["many", "stand"] (defScope sBeside) := ⟨rfl, rfl, rfl, by decide +kernel, rfl, by decide +kernel, by decide +kernel⟩
theorem ok_Beside {f : Addr} {fd : FuncData} (F : Fun K "beside_of" "beside_of" sBeside f fd) (T : Txt mg) :
    FnOk P w K mg base CX0 1 f fd ["many", "stand"] spBeside := by
  refine F.ok scBeside (fun vs H Q E h => ?_) (fun cdv A outer s H vs Q E hr h => ?_)
  · obtain ⟨_, _, _, rfl, _⟩ := h; rfl
  · obtain ⟨N, st, S, rfl, ⟨rs, hst, hrs⟩, hN, N60, S100, k⟩ := h
    refine ⟨_, pss_cons (ps_comp (i := 2) (T := ["place"]) (F := []) (js := []) scBeside.nd rfl (Or.inl rfl) (CS.to (osc := defScope sBeside) ⟨by rfl, by decide +kernel, by decide +kernel, by decide +kernel, by decide +kernel, by decide +kernel, by decide +kernel⟩ rfl rfl) rfl (pi_range1 rfl T.range (pa_cons (pv 0) pa_nil)) (fun _ _ _ _ _ => pg_name (i := 0) (show (["place"] : List Str).Nodup by decide +kernel) rfl (Or.inl rfl)) (fun _ _ _ _ _ => pif_nil) (fun _ _ _ _ _ => pe_lst pa_nil))
      (pss_cons (ps_for PassesOwn.never rfl (pi_list (pv 1)) (pg_tup rfl (pgs_cons (pg_name (i := 3) scBeside.nd rfl (Or.inl rfl)) (pgs_cons (pg_name (i := 4) scBeside.nd rfl (Or.inl rfl)) (pgs_cons (pg_name (i := 5) scBeside.nd rfl (Or.inl rfl)) (pgs_cons (pg_name (i := 6) scBeside.nd rfl (Or.inl rfl)) pgs_nil))))) (pss_cons (ps_expr (pe_bm PySem.F.plainAttrs_list PySem.F.slot_list_append PySem.F.type_list_append mt_append (pe_ix ix_list (pv 2) (pv 4) (fun _ _ => rfl)) (pa_cons (pe_tup (pa_cons (pv 3) (pa_cons (pv 5) pa_nil))) pa_nil)))
      (pss_one (ps_expr (pe_bm PySem.F.plainAttrs_list PySem.F.slot_list_append PySem.F.type_list_append mt_append (pe_ix ix_list (pv 2) (pv 5) (fun _ _ => rfl)) (pa_cons (pe_tup (pa_cons (pv 3) (pa_cons (pv 4) pa_nil))) pa_nil))))))
      (pss_one (ps_ret (pv 2)))), ?_⟩
    refine ⟨_, rfl, (N : Int), rfl, by omega, by omega, fun D hD => comp_range (lo := 0) (n := (N : Int).toNat) (fun j σ ys H2 => ∃ (u : Option V) (ls : List Addr), σ = [u] ∧ ys = ls.map V.ref ∧ Same H H2 ∧ H2 D = some (.lst ys) ∧ ls.length = j ∧ ls.Nodup ∧ ∀ l ∈ ls, H l = none ∧ l ≠ D ∧ H2 l = some (.lst [])) ⟨none, [], rfl, rfl, same_new hD, upd_same, rfl, List.nodup_nil, by simp⟩ (fun j σ ys H2 _ ⟨_, _, _, _, _, e, _⟩ => e) ?_ ?_⟩
    · rintro j σ ys H2 hj ⟨u, ls, rfl, rfl, s2, d2, ll, nd, hl⟩
      have hj : j < N := by simpa using hj
      refine ⟨small (by simp), fun p hp => ?_⟩
      have pD : p ≠ D := (ne_of_none d2 hp).symm
      refine ⟨by rw [upd_ne pD.symm]; exact d2, small1000 (by simp; omega), _, ls ++ [p], rfl, by rw [List.map_append]; rfl, same_set (s2.trans (same_new hp)) hD, upd_same, by simp [ll], ?_, fun l hl' => ?_⟩
      · refine List.nodup_append.mpr ⟨nd, List.nodup_cons.mpr ⟨by simp, List.nodup_nil⟩, fun x hx y hy => ?_⟩
        rw [List.mem_singleton.mp hy]
        exact ne_of_none (hl x hx).2.2 hp
      · rcases List.mem_append.mp hl' with q | q
        · obtain ⟨h1, h2, h3⟩ := hl l q
          exact ⟨h1, h2, by rw [upd_ne h2, upd_ne (ne_of_none h3 hp)]; exact h3⟩
        · rw [List.mem_singleton.mp q]
          exact ⟨none_of s2 hp, pD, by rw [upd_ne pD]; exact upd_same⟩
    rintro σ ys H2 ⟨u, ls, rfl, rfl, s2, d2, ll, nd, hl⟩
    have ll : ls.length = N := by simpa using ll
    have B0 : Bes H H2 D ls N (nbrs []) := ⟨s2, d2, ll, nd, fun l h => ⟨(hl l h).1, (hl l h).2.1⟩, fun v l h => ⟨[], (hl l (List.mem_of_getElem? h)).2.2, rfl, fun i r q e => (by simp at e)⟩⟩
    refine ⟨_, rfl, st, rfl, ⟨_, SqL.of (s2 _ _ hst)⟩, for_list (K := K) (a := st) (xs := rs.map V.ref) (fun i σ H3 => ∃ (u3 u4 u5 u6 : Option V), σ = [some (.int (N : Int)), some (.ref st), some (.ref D), u3, u4, u5, u6] ∧ Bes H H3 D ls N (nbrs (S.take i))) ⟨_, _, _, _, rfl, B0⟩ (fun i σ H3 _ ⟨_, _, _, _, _, B⟩ => SqL.of (B.same _ _ hst)) ?_ ?_⟩
    · rintro i x σ H3 hx ⟨u3, u4, u5, u6, rfl, B⟩
      obtain ⟨r, hr', rfl⟩ := map_some hx
      obtain ⟨t, ht, er⟩ := hrs.get hr'
      have er3 := B.same _ _ er
      have tN := hN t (List.mem_of_getElem? ht)
      have h1 : t.2.1 < ls.length := by omega
      have h2 : t.2.2.1 < ls.length := by omega
      have tk : S.take (i + 1) = S.take i ++ [t] := by rw [List.take_add_one, ht]; rfl
      have nl : ∀ v, (nbrs (S.take i) v).length ≤ 200 := fun v => Nat.le_trans (nbrs_len _ _) (by rw [List.length_take]; omega)
      have l1 := getq h1
      have l2 := getq h2
      obtain ⟨rs1, e1, n1, _⟩ := B.prs _ _ l1
      refine ⟨r, _, rfl, SqT.of er3, rfl, _, _, rfl, _, _, rfl, _, _, rfl, _, _, rfl, rfl, ?_⟩
      refine ⟨_, rfl, _, rfl, D, _, _, .ref ls[t.2.1], rfl, rfl, SqL.of B.hb, atI_nat (by rw [List.getElem?_map, l1]; rfl), .inl ⟨rfl, _, SqL.of e1⟩, _, rfl, _, rfl, small (by simp), fun p hp => ?_⟩
      refine ⟨_, _, _, rfl, rfl, same_new hp _ _ e1, small1000 (by rw [List.length_map]; have := nl t.2.1; omega), ?_⟩
      have B1 := B.app (n := t.1) (u := t.2.2.1) l1 hp e1
      generalize upd (upd H3 p _) _ _ = H4 at B1
      obtain ⟨rs2, e2, n2, _⟩ := B1.prs _ _ l2
      refine ⟨_, rfl, _, rfl, D, _, _, .ref ls[t.2.2.1], rfl, rfl, SqL.of B1.hb, atI_nat (by rw [List.getElem?_map, l2]; rfl), .inl ⟨rfl, _, SqL.of e2⟩, _, rfl, _, rfl, small (by simp), fun p' hp' => ?_⟩
      have n3 : rs2.length ≤ 201 := by
        rw [n2]
        split
        · rw [List.length_append]; have := nl t.2.1; simp only [List.length_cons, List.length_nil]; omega
        · have := nl t.2.2.1; omega
      refine ⟨_, _, _, rfl, rfl, same_new hp' _ _ e2, small1000 (by rw [List.length_map]; omega), _, _, _, _, rfl, ?_⟩
      have B2 := B1.app (n := t.1) (u := t.2.1) l2 hp' e2
      rw [nb_two, ← tk] at B2
      exact B2
    · rintro σ H3 ⟨u3, u4, u5, u6, rfl, B⟩
      rw [List.length_map, hrs.1, List.take_length] at B
      exact ⟨_, rfl, k D H3 B.same ⟨ls, B.hb, B.len, B.prs⟩⟩
theorem scWays : FnScope ["many", "stand", "place", "beside", "ways", "waiting", "here", "name", "there"] ["many", "stand", "place"] (defScope sWays) := ⟨rfl, rfl, rfl, by decide +kernel, rfl, by decide +kernel, by decide +kernel⟩
theorem ok_Ways {f : Addr} {fd : FuncData} (F : Fun K "ways_from" "ways_from" sWays f fd) (T : Txt mg)
    {gBeside : Addr} {fBeside : FuncData} (kBeside : PySem.W.keepIn K (.ref gBeside) = true) (bBeside : Binds K fBeside ["many", "stand"] []) (hBeside : mg "beside_of" = some (.ref gBeside)) (GBeside : FnOk P w K mg base CX0 1 gBeside fBeside ["many", "stand"] spBeside) :
    FnOk P w K mg base CX0 2 f fd ["many", "stand", "place"] spWays := by
  refine F.ok scWays (fun vs H Q E h => ?_) (fun cdv A outer s H vs Q E hr h => ?_)
  · obtain ⟨_, _, _, _, rfl, _⟩ := h; rfl
  · obtain ⟨N, st, S, p, rfl, hst, hN, N60, S100, pN, k⟩ := h
    refine ⟨_, pss_cons (ps_set (i := 3) scWays.nd rfl (Or.inl rfl) (pe_call GBeside hr rfl hBeside kBeside bBeside .nil pass0 (pa_cons (pv 0) (pa_cons (pv 1) pa_nil))))
      (pss_cons (ps_set (i := 4) scWays.nd rfl (Or.inl rfl) (pe_op op_rep (pe_lst (pa_cons pe_non pa_nil)) (pv 0)))
      (pss_cons (ps_asg (pe_tup pa_nil) (pg_sub (pv 4) (pv 2) set_list))
      (pss_cons (ps_set (i := 5) scWays.nd rfl (Or.inl rfl) (pe_lst (pa_cons (pv 2) pa_nil)))
      (pss_cons (ps_while PassesOwn.never (pt_truth (pv 5) (fun _ => rfl)) (pss_cons (ps_set (i := 6) scWays.nd rfl (Or.inl rfl) (pe_bm PySem.F.plainAttrs_list PySem.F.slot_list_pop PySem.F.type_list_pop mt_popAt (pv 5) (pa_cons pe_int pa_nil)))
      (pss_one (ps_for PassesOwn.never rfl (pi_list (pe_ix ix_list (pv 3) (pv 6) (fun _ _ => rfl))) (pg_tup rfl (pgs_cons (pg_name (i := 7) scWays.nd rfl (Or.inl rfl)) (pgs_cons (pg_name (i := 8) scWays.nd rfl (Or.inl rfl)) pgs_nil))) (pss_one (ps_if (pt_cmpR op_isN (pe_ix ix_list (pv 4) (pv 8) (fun _ _ => rfl)) pe_non (nomark _)) (pss_cons (ps_asg (pe_op op_catTT (pe_ix ix_list (pv 4) (pv 6) (fun _ _ => rfl)) (pe_tup (pa_cons (pv 7) pa_nil))) (pg_sub (pv 4) (pv 8) set_list))
      (pss_one (ps_expr (pe_bm PySem.F.plainAttrs_list PySem.F.slot_list_append PySem.F.type_list_append mt_append (pv 5) (pa_cons (pv 8) pa_nil))))) pss_nil))))))
      (pss_one (ps_ret (pv 4))))))), ?_⟩
    refine ⟨_, rfl, _, rfl, N, st, S, rfl, hst, hN, N60, S100, fun b H1 s1 hb => ?_⟩
    refine ⟨small (by simp), fun q hq => ⟨_, rfl, q, _, _, rfl, rfl, upd_same, by omega, by omega, small (by simp only [List.length_cons, List.length_nil]; omega), fun ws hws => ?_⟩⟩
    have fl : (List.replicate (N : Int).toNat [V.non]).flatten = List.replicate N V.non := by rw [List.flatten_replicate_singleton]; rfl
    rw [fl]
    have s2 := (same_new (H := H1) (o := .lst [.non]) hq).trans (same_new (o := .lst (List.replicate N V.non)) hws)
    have nw : H1 ws = none := none_of (same_new (H := H1) (o := .lst [.non]) hq) hws
    have e2 := upd_same (H := upd H1 q (.lst [.non])) (a := ws) (o := .lst (List.replicate N V.non))
    generalize upd (upd H1 q (.lst [.non])) ws (.lst (List.replicate N V.non)) = H2 at s2 e2
    have W2 : WaysAt H2 ws (List.replicate N none) := ⟨_, e2, by simp, fun i x o hx ho => by
      rw [List.getElem?_replicate] at hx ho
      split at hx
      · rename_i hi
        rw [if_pos hi] at ho
        cases hx
        cases ho
        rfl
      · cases hx⟩
    refine ⟨small (by simp), fun e he => ?_⟩
    have s3 := same_new (o := .tup []) he
    have W3 := W2.same s3
    have e3 := s3 _ _ e2
    have t3 := upd_same (H := H2) (a := e) (o := .tup [])
    generalize upd H2 e (.tup []) = H3 at s3 W3 e3 t3
    have W4 : WaysAt (upd H3 ws (.lst ((List.replicate N V.non).set p (.ref e)))) ws (binit N p).1 := WaysAt.set (w := []) W3 e3 t3
    have s4 : Same H1 (upd H3 ws (.lst ((List.replicate N V.non).set p (.ref e)))) := same_set (s2.trans s3) nw
    refine ⟨_, rfl, _, rfl, ws, _, _, p, rfl, rfl, e3, (by have h : ixN (List.replicate N V.non).length (p : Int) = some p := ixN_nat (by simpa using pN); exact h), ?_⟩
    generalize upd H3 ws _ = H4 at W4 s4
    refine ⟨_, rfl, small (by simp), fun wt hwt => ?_⟩
    have s5 := s4.trans (same_new (o := .lst [.int (p : Int)]) hwt)
    have nt : H1 wt = none := none_of s4 hwt
    have W5 := W4.same (same_new (o := .lst [.int (p : Int)]) hwt)
    have t5 := upd_same (H := H4) (a := wt) (o := .lst [.int (p : Int)])
    have wwt : ws ≠ wt := by obtain ⟨xs, hx, _⟩ := W4; exact ne_of_none hx hwt
    generalize upd H4 wt (.lst [.int (p : Int)]) = H5 at s5 W5 t5
    dsimp only [gName, tSeq]
    refine while_gh (fun m σ H6 => ∃ (i : Nat) (u6 u7 u8 : Option V) (wl : Ws) (tl : List Nat), σ = [some (.int (N : Int)), some (.ref st), some (.int (p : Int)), some (.ref b), some (.ref ws), some (.ref wt), u6, u7, u8] ∧ Same H1 H6 ∧ H6 wt = some (.lst ((tl.map Int.ofNat).map V.int)) ∧ WaysAt H6 ws wl ∧ iter S i (binit N p) = (wl, tl) ∧ BInv S N p (wl, tl) ∧ m = nones wl + tl.length ∧ i + m ≤ 64 ∧ tl.length ≤ 64 ∧ ∀ v x, Wk.Vis wl v x → x.length ≤ i)
      (m0 := nones (binit N p).1 + 1) ⟨0, _, _, _, (binit N p).1, [p], rfl, s5, t5, W5, rfl, binv0 pN, rfl, ?_, by simp, fun v x q => by rw [binit_vis pN q]; simp⟩ ?_ ?_
    · have : nones (binit N p).1 ≤ (binit N p).1.length := List.countP_le_length
      simp only [binit, List.length_set, List.length_replicate] at this ⊢
      omega
    · rintro m σ H6 ⟨i, u6, u7, u8, wl, tl, rfl, s6, t6, W6, it6, I6, hm, hi, tl6, sh6⟩
      refine ⟨_, rfl, _, .inl ⟨_, SqL.of t6, rfl⟩, ?_⟩
      cases tl with
      | nil =>
        refine iteF ?_
        rw [← ways_of it6 (by omega)] at W6
        exact ⟨_, rfl, k ws H6 (s1.trans s6) W6⟩
      | cons h rest =>
        refine iteT ?_
        obtain ⟨w0, hv0, J⟩ := pinv_of I6
        have hh : h < N := by have := (List.getElem?_eq_some_iff.mp hv0).1; rw [← I6.len]; exact this
        refine ⟨_, rfl, .inl ⟨rfl, _, SqL.of t6⟩, wt, _, 0, 0, .int (h : Int), rfl, rfl, t6, by decide, by decide, by simp [seqIndex?], rfl, ?_⟩
        have W7 := W6.keep (zs := (rest.map Int.ofNat).map V.int) t6 wwt
        have s7 : Same H1 (upd H6 wt (.lst ((rest.map Int.ofNat).map V.int))) := same_set s6 nt
        have t7 := upd_same (H := H6) (a := wt) (o := .lst ((rest.map Int.ofNat).map V.int))
        have eH : upd H6 wt (.lst (List.eraseIdx (List.map V.int (List.map Int.ofNat (h :: rest))) 0)) = upd H6 wt (.lst ((rest.map Int.ofNat).map V.int)) := rfl
        rw [eH]
        generalize upd H6 wt (.lst ((rest.map Int.ofNat).map V.int)) = H7 at W7 s7 t7
        obtain ⟨ls, hls, lls, hpr⟩ := hb.same s7
        have hl := getq (l := ls) (i := h) (by omega)
        obtain ⟨rs, er, lr, hr3⟩ := hpr h _ hl
        have w0len : w0.length ≤ 64 := by have := sh6 h w0 hv0; omega
        refine ⟨_, rfl, _, rfl, b, _, _, .ref ls[h], rfl, rfl, SqL.of hls, atI_nat (by rw [List.getElem?_map, hl]; rfl), _, rfl, ⟨_, SqL.of er⟩, ?_⟩
        have key : ∀ H8, Same H1 H8 → H8 ls[h] = some (.lst (rs.map V.ref)) ∧ ∀ (i : Nat) r q, rs[i]? = some r → (nbrs S h)[i]? = some q → H8 r = some (.tup [.str q.1, .int (q.2 : Int)]) := by
          intro H8 s8
          obtain ⟨ls', hls', _, hpr'⟩ := hb
          have e1 : ls' = ls := by
            have := s7 _ _ hls'
            rw [hls] at this
            injection this with this
            injection this with this
            exact (refs_inj this).symm
          subst e1
          obtain ⟨rs', er', lr', hr'⟩ := hpr' h _ hl
          have e2 : rs' = rs := by
            have := s7 _ _ er'
            rw [er] at this
            injection this with this
            injection this with this
            exact (refs_inj this).symm
          subst e2
          exact ⟨s8 _ _ er', fun i r q e f => s8 _ _ (hr' i r q e f)⟩
        refine for_list (K := K) (a := ls[h]) (xs := rs.map V.ref) (fun j σ H8 => ∃ (u7 u8 : Option V), σ = [some (.int (N : Int)), some (.ref st), some (.int (p : Int)), some (.ref b), some (.ref ws), some (.ref wt), some (.int (h : Int)), u7, u8] ∧ Same H1 H8 ∧ H8 wt = some (.lst (((visit w0 ((nbrs S h).take j) (wl, rest)).2.map Int.ofNat).map V.int)) ∧ WaysAt H8 ws (visit w0 ((nbrs S h).take j) (wl, rest)).1)
          ⟨_, _, rfl, s7, t7, W7⟩ (fun j σ H8 _ ⟨_, _, _, s8, _⟩ => SqL.of (key H8 s8).1) ?_ ?_
        · rintro j x σ H8 hx ⟨u7', u8', rfl, s8, t8, W8⟩
          obtain ⟨r, hr', rfl⟩ := map_some hx
          have hj : j < (nbrs S h).length := by rw [← lr]; exact (List.getElem?_eq_some_iff.mp hr').1
          have hq := getq hj
          have er8 := (key H8 s8).2 j r _ hr' hq
          have tk : (nbrs S h).take (j + 1) = (nbrs S h).take j ++ [(nbrs S h)[j]] := by rw [List.take_add_one, hq]; rfl
          have qN : ((nbrs S h)[j]).2 < N := nb_lt hN (List.getElem_mem hj)
          have jl : j < 201 := by have := nbrs_len S h; omega
          obtain ⟨vl1, vl2⟩ := visit_len w0 ((nbrs S h).take j) (wl, rest)
          have vh := visit_vis w0 ((nbrs S h).take j) (wl, rest) hv0
          rw [tk, visit_snoc]
          generalize (nbrs S h)[j] = q at er8 qN
          generalize visit w0 ((nbrs S h).take j) (wl, rest) = st' at *
          obtain ⟨wl', tl'⟩ := st'
          dsimp only at *
          have qw : q.2 < wl'.length := by rw [vl1]; show _ < wl.length; rw [I6.len]; exact qN
          refine ⟨r, _, rfl, SqT.of er8, rfl, _, _, rfl, _, _, rfl, rfl, ?_⟩
          obtain ⟨xs, x, hxs, hx', lxs, hxo⟩ := W8.get (getq qw)
          refine ⟨_, rfl, _, rfl, ws, _, _, x, rfl, rfl, SqL.of hxs, atI_nat hx', rfl, _, rfl, ?_⟩
          cases ho : wl'[q.2] with
          | some z =>
            rw [ho] at hxo
            obtain ⟨rz, rfl, _⟩ := hxo
            rw [vis1_no (by dsimp only; rw [getq qw, ho]; simp)]
            refine ite2 (fun g => absurd g (by simp)) fun _ => ?_
            exact ⟨_, _, rfl, s8, t8, W8⟩
          | none =>
            rw [ho] at hxo
            have hxo : x = .non := hxo
            subst hxo
            rw [vis1_yes (by dsimp only; rw [getq qw, ho])]
            refine ite2 (fun _ => ?_) fun g => absurd (by simp) g
            obtain ⟨xs2, x2, hxs2, hx2, _, hxo2⟩ := W8.get vh
            obtain ⟨r0, rfl, er0⟩ := hxo2
            rw [hxs] at hxs2
            injection hxs2 with hxs2
            injection hxs2 with hxs2
            subst hxs2
            have tl9 : ((tl'.map Int.ofNat).map V.int).length ≤ 1000 := by
              simp only [List.length_map, List.length_take, List.length_cons] at vl2 tl6 ⊢
              omega
            refine ⟨_, rfl, _, rfl, ws, _, _, .ref r0, rfl, rfl, SqL.of hxs, atI_nat hx2, _, rfl, small (by simp), fun p1 hp1 => ?_⟩
            have s9 := same_new (o := .tup [.str q.1]) hp1
            have p9 := upd_same (H := H8) (a := p1) (o := .tup [.str q.1])
            have w9 : w0.length ≤ 100 := by
              have := (J.ht h w0 J.hv); have := w0len; omega
            generalize upd H8 p1 (.tup [.str q.1]) = H9 at s9 p9
            refine ⟨r0, p1, _, _, rfl, rfl, SqT.of (s9 _ _ er0), SqT.of p9, small (by simp; omega), fun e => ?_, fun _ e => absurd e (by simp), fun _ _ p2 hp2 => ?_⟩
            · have e0 : w0 = [] := by simpa using e
              have e9 : H9 p1 = some (.tup ((w0 ++ [q.1]).map V.str)) := by rw [e0]; exact p9
              have hxs9 := s9 _ _ hxs
              have W9 := (W8.same s9).set (u := q.2) hxs9 e9
              have t9 := s9 _ _ t8
              refine ⟨_, rfl, _, rfl, ws, _, _, q.2, rfl, rfl, hxs9, ixN_nat (by omega), ?_⟩
              have s10 : Same H1 (upd H9 ws (.lst (xs.set q.2 (.ref p1)))) := same_set (s8.trans s9) nw
              have t10 : upd H9 ws (.lst (xs.set q.2 (.ref p1))) wt = some (.lst ((tl'.map Int.ofNat).map V.int)) := by rw [upd_ne wwt.symm]; exact t9
              generalize upd H9 ws (.lst (xs.set q.2 (.ref p1))) = H10 at W9 s10 t10
              refine ⟨_, rfl, .inl ⟨rfl, _, SqL.of t10⟩, _, rfl, wt, _, _, rfl, rfl, t10, small1000 tl9, _, _, rfl, same_set s10 nt, ?_, W9.keep t10 wwt⟩
              rw [upd_same, List.map_append, List.map_append]; rfl
            · have e9 : upd H9 p2 (.tup (w0.map V.str ++ [.str q.1])) p2 = some (.tup ((w0 ++ [q.1]).map V.str)) := by rw [upd_same, List.map_append]; rfl
              have s9 := s9.trans (same_new (o := .tup (w0.map V.str ++ [.str q.1])) hp2)
              generalize upd H9 p2 (.tup (w0.map V.str ++ [.str q.1])) = H9 at s9 e9
              have hxs9 := s9 _ _ hxs
              have W9 := (W8.same s9).set (u := q.2) hxs9 e9
              have t9 := s9 _ _ t8
              refine ⟨_, rfl, _, rfl, ws, _, _, q.2, rfl, rfl, hxs9, ixN_nat (by omega), ?_⟩
              have s10 : Same H1 (upd H9 ws (.lst (xs.set q.2 (.ref p2)))) := same_set (s8.trans s9) nw
              have t10 : upd H9 ws (.lst (xs.set q.2 (.ref p2))) wt = some (.lst ((tl'.map Int.ofNat).map V.int)) := by rw [upd_ne wwt.symm]; exact t9
              generalize upd H9 ws (.lst (xs.set q.2 (.ref p2))) = H10 at W9 s10 t10
              refine ⟨_, rfl, .inl ⟨rfl, _, SqL.of t10⟩, _, rfl, wt, _, _, rfl, rfl, t10, small1000 tl9, _, _, rfl, same_set s10 nt, ?_, W9.keep t10 wwt⟩
              rw [upd_same, List.map_append, List.map_append]; rfl
        · rintro σ H8 ⟨u7', u8', rfl, s8, t8, W8⟩
          rw [List.length_map, lr, List.take_length] at t8 W8
          have eb : bstep S (wl, h :: rest) = visit w0 (nbrs S h) (wl, rest) := by
            show visit ((wl[h]?.join).getD []) (nbrs S h) (wl, rest) = _
            unfold Wk.Vis at hv0
            rw [hv0]; rfl
          obtain ⟨I8, m8⟩ := bstep_ok hN I6
          have sh8 := bstep_short hN I6 sh6
          have it8 : iter S (i + 1) (binit N p) = visit w0 (nbrs S h) (wl, rest) := by rw [iter_snoc, it6, eb]
          rw [eb] at I8 m8 sh8
          generalize visit w0 (nbrs S h) (wl, rest) = st' at *
          obtain ⟨wl', tl'⟩ := st'
          dsimp only at *
          refine ⟨nones wl' + tl'.length, by omega, i + 1, _, _, _, wl', tl', rfl, s8, t8, W8, it8, I8, rfl, by omega, by omega, sh8⟩
    · rintro σ H6 Q Q' f ⟨v, e, b', h', q⟩
      exact ⟨v, e, b', h', f _ _ q⟩
theorem scPart : FnScope ["many", "stand", "place", "ways"] ["many", "stand", "place"] (defScope sPart) := ⟨rfl, rfl, rfl, by decide +kernel, rfl, by decide +kernel, by decide +kernel⟩
theorem ok_Part {f : Addr} {fd : FuncData} (F : Fun K "part_of" "part_of" sPart f fd) (T : Txt mg)
    {gWays : Addr} {fWays : FuncData} (kWays : PySem.W.keepIn K (.ref gWays) = true) (bWays : Binds K fWays ["many", "stand", "place"] []) (hWays : mg "ways_from" = some (.ref gWays)) (GWays : FnOk P w K mg base CX0 2 gWays fWays ["many", "stand", "place"] spWays) :
    FnOk P w K mg base CX0 3 f fd ["many", "stand", "place"] spPart := by
  refine F.ok scPart (fun vs H Q E h => ?_) (fun cdv A outer s H vs Q E hr h => ?_)
  · obtain ⟨_, _, _, _, rfl, _⟩ := h; rfl
  · obtain ⟨N, st, S, p, rfl, hst, hN, N60, S100, pN, k⟩ := h
    refine ⟨_, pss_cons (ps_set (i := 3) scPart.nd rfl (Or.inr rfl) (pe_call GWays hr rfl hWays kWays bWays .nil pass0 (pa_cons (pv 0) (pa_cons (pv 1) (pa_cons (pv 2) pa_nil)))))
      (pss_one (ps_ret (pe_callTy call_tuple_of (by rfl) T.tuple (by decide +kernel) (pa_cons (pe_comp (T := ["there"]) (F := ["ways"]) (js := [3]) (CS.to (osc := defScope sPart) ⟨by rfl, by decide +kernel, by decide +kernel, by decide +kernel, by decide +kernel, by decide +kernel, by decide +kernel⟩ rfl rfl) rfl (pi_range1 rfl T.range (pa_cons (pv 0) pa_nil)) (fun _ _ _ _ _ => pg_name (i := 0) (show (["there", "ways"] : List Str).Nodup by decide +kernel) rfl (Or.inl rfl)) (fun _ _ _ _ _ => pif_one (pt_cmpR op_notN (pe_ix (r := rIxL K) ix_list (pv 1) (pv 0) (fun _ _ => rfl)) pe_non (nomark _))) (fun _ _ _ _ _ => pv 0)) pa_nil)))), ?_⟩
    refine ⟨_, rfl, _, rfl, _, rfl, N, st, S, p, rfl, hst, hN, N60, S100, pN, fun a H1 s1 W1 => ?_⟩
    have wl := ways_len hN pN N60
    refine ⟨_, rfl, (N : Int), rfl, by omega, by omega, fun D hD => comp_range (lo := 0) (n := (N : Int).toNat) (fun j σ ys H2 => ∃ (u : Option V), σ = [u, some (.ref a)] ∧ ys = ((((List.range j).filter fun v => ((waysF N S p)[v]?.join).isSome).map Int.ofNat).map V.int) ∧ H2 = upd H1 D (.lst ys)) ⟨none, rfl, rfl, rfl⟩ (fun j σ ys H2 _ ⟨_, _, _, e⟩ => by rw [e]; exact upd_same) ?_ ?_⟩
    · rintro j σ ys H2 hj ⟨u, rfl, rfl, rfl⟩
      have hj : j < N := by simpa using hj
      have hjw : j < (waysF N S p).length := by omega
      obtain ⟨xs, x, hxs, hx, lx, hxo⟩ := (W1.same (same_new (o := .lst ((((List.range j).filter fun v => ((waysF N S p)[v]?.join).isSome).map Int.ofNat).map V.int)) hD)).get (getq hjw)
      refine ⟨_, rfl, _, rfl, a, _, _, x, rfl, rfl, SqL.of hxs, by rw [Int.zero_add]; exact atI_nat hx, rfl, _, rfl, ?_⟩
      have lf : ((List.range j).filter fun v => ((waysF N S p)[v]?.join).isSome).length ≤ 60 := Nat.le_trans (List.length_filter_le _ _) (by rw [List.length_range]; omega)
      cases ho : (waysF N S p)[j] with
      | none =>
        rw [ho] at hxo
        have hxo : x = .non := hxo
        subst hxo
        refine ite2 (fun g => absurd g (by simp)) fun _ => ⟨_, rfl, ?_, ?_⟩
        · rw [List.range_succ, List.filter_append]; simp [getq hjw, ho]
        · rfl
      | some z =>
        rw [ho] at hxo
        obtain ⟨r, rfl, _⟩ := hxo
        refine ite2 (fun _ => ⟨_, rfl, upd_same, small1000 (by simp only [List.length_map]; omega), _, rfl, ?_, by rw [upd_upd]⟩) fun g => absurd (by simp) g
        rw [List.range_succ, List.filter_append, List.map_append, List.map_append]
        simp [getq hjw, ho]
    · rintro σ ys H2 ⟨u, rfl, rfl, rfl⟩
      exact ⟨D, _, rfl, .inl ⟨SqL.of upd_same, fun l hl => k l _ (s1.trans ((same_new hD).trans (same_new hl))) upd_same⟩⟩
theorem scJoined : FnScope ["many", "stand", "one", "other"] ["many", "stand", "one", "other"] (defScope sJoined) := ⟨rfl, rfl, rfl, by decide +kernel, rfl, by decide +kernel, by decide +kernel⟩
theorem ok_Joined {f : Addr} {fd : FuncData} (F : Fun K "are_joined" "are_joined" sJoined f fd) (T : Txt mg)
    {gPart : Addr} {fPart : FuncData} (kPart : PySem.W.keepIn K (.ref gPart) = true) (bPart : Binds K fPart ["many", "stand", "place"] []) (hPart : mg "part_of" = some (.ref gPart)) (GPart : FnOk P w K mg base CX0 3 gPart fPart ["many", "stand", "place"] spPart) :
    FnOk P w K mg base CX0 4 f fd ["many", "stand", "one", "other"] spJoined := by
  refine F.ok scJoined (fun vs H Q E h => ?_) (fun cdv A outer s H vs Q E hr h => ?_)
  · obtain ⟨_, _, _, _, _, rfl, _⟩ := h; rfl
  · obtain ⟨N, st, S, p, q, rfl, hst, hN, N60, S100, pN, k⟩ := h
    refine ⟨_, pss_one (ps_ret (pe_cmpR op_in_seq (pv 3) (pe_call GPart hr rfl hPart kPart bPart .nil pass0 (pa_cons (pv 0) (pa_cons (pv 1) (pa_cons (pv 2) pa_nil)))) (by rfl))), ?_⟩
    refine ⟨_, rfl, _, rfl, _, rfl, _, rfl, N, st, S, p, rfl, hst, hN, N60, S100, pN, fun a H1 s1 e1 => ⟨a, _, rfl, .inr (SqT.of e1), rfl, flat_ints _, ?_⟩⟩
    have e : inV (.int (q : Int)) (((partF N S p).map Int.ofNat).map V.int) = decide (q ∈ partF N S p) := by
      rw [inV_ints, Bool.eq_iff_iff, decide_eq_true_eq, decide_eq_true_eq, List.mem_map]
      constructor
      · rintro ⟨x, hx, e⟩
        have : x = q := by have : (x : Int) = q := e; omega
        rw [← this]; exact hx
      · intro h; exact ⟨q, h, rfl⟩
    show Q (.bl (inV (.int (q : Int)) (((partF N S p).map Int.ofNat).map V.int))) H1
    rw [e]
    exact k _ s1
theorem scRank : FnScope ["tie"] ["tie"] (defScope sRank) := ⟨rfl, rfl, rfl, by decide +kernel, rfl, by decide +kernel, by decide +kernel⟩
theorem ok_Rank {f : Addr} {fd : FuncData} (F : Fun K "rank_of" "rank_of" sRank f fd) (T : Txt mg) :
    FnOk P w K mg base CX0 1 f fd ["tie"] spRank := by
  refine F.ok scRank (fun vs H Q E h => ?_) (fun cdv A outer s H vs Q E hr h => ?_)
  · obtain ⟨_, _, rfl, _⟩ := h; rfl
  · obtain ⟨r, t, rfl, hr', k⟩ := h
    refine ⟨_, pss_one (ps_ret (pe_tup (pa_cons (pe_ix ix_tup (pv 0) pe_int (fun _ _ => rfl)) (pa_cons (pe_ix ix_tup (pv 0) pe_int (fun _ _ => rfl)) pa_nil)))), ?_⟩
    exact ⟨_, rfl, r, _, 3, _, rfl, rfl, SqT.of hr', atI_nat (j := 3) rfl, _, rfl, r, _, 0, _, rfl, rfl, SqT.of hr', atI_nat (j := 0) rfl, small (by simp), fun p hp => k p _ (same_new hp) upd_same⟩
theorem scAhead : FnScope ["tie", "other"] ["tie", "other"] (defScope sAhead) := ⟨rfl, rfl, rfl, by decide +kernel, rfl, by decide +kernel, by decide +kernel⟩
theorem ok_Ahead {f : Addr} {fd : FuncData} (F : Fun K "is_ahead" "is_ahead" sAhead f fd) (T : Txt mg)
    {gRank : Addr} {fRank : FuncData} (kRank : PySem.W.keepIn K (.ref gRank) = true) (bRank : Binds K fRank ["tie"] []) (hRank : mg "rank_of" = some (.ref gRank)) (GRank : FnOk P w K mg base CX0 1 gRank fRank ["tie"] spRank) :
    FnOk P w K mg base CX0 2 f fd ["tie", "other"] spAhead := by
  refine F.ok scAhead (fun vs H Q E h => ?_) (fun cdv A outer s H vs Q E hr h => ?_)
  · obtain ⟨_, _, _, _, rfl, _⟩ := h; rfl
  · obtain ⟨r, r2, t, u, rfl, h1, h2, k⟩ := h
    refine ⟨_, pss_one (ps_ret (pe_cmpR (op_ltM hr.units0) (pe_call GRank hr rfl hRank kRank bRank .nil pass0 (pa_cons (pv 0) pa_nil)) (pe_call GRank hr rfl hRank kRank bRank .nil pass0 (pa_cons (pv 1) pa_nil)) (nomark _))), ?_⟩
    refine ⟨_, rfl, r, t, rfl, h1, fun p1 H1 s1 e1 => ?_⟩
    refine ⟨_, rfl, r2, u, rfl, s1 _ _ h2, fun p2 H2 s2 e2 => ?_⟩
    exact ⟨p1, p2, _, _, rfl, rfl, SqT.of (s2 _ _ e1), SqT.of e2, ⟨trivial, trivial, trivial⟩, k _ (s1.trans s2)⟩
theorem scTAhead : FnScope ["stand", "tie"] ["stand", "tie"] (defScope sTAhead) := ⟨rfl, rfl, rfl, by decide +kernel, rfl, by decide +kernel, by decide +kernel⟩
theorem ok_TAhead {f : Addr} {fd : FuncData} (F : Fun K "ties_ahead" "ties_ahead" sTAhead f fd) (T : Txt mg)
    {gAhead : Addr} {fAhead : FuncData} (kAhead : PySem.W.keepIn K (.ref gAhead) = true) (bAhead : Binds K fAhead ["tie", "other"] []) (hAhead : mg "is_ahead" = some (.ref gAhead)) (GAhead : FnOk P w K mg base CX0 2 gAhead fAhead ["tie", "other"] spAhead) :
    FnOk P w K mg base CX0 3 f fd ["stand", "tie"] spTAhead := by
  refine F.ok scTAhead (fun vs H Q E h => ?_) (fun cdv A outer s H vs Q E hr h => ?_)
  · obtain ⟨_, _, _, _, rfl, _⟩ := h; rfl
  · obtain ⟨st, r, S, t, rfl, ⟨rs, hst, hrs⟩, S100, ht, k⟩ := h
    refine ⟨_, pss_one (ps_ret (pe_comp (T := ["other"]) (F := ["tie"]) (js := [1]) (CS.to (osc := defScope sTAhead) ⟨by rfl, by decide +kernel, by decide +kernel, by decide +kernel, by decide +kernel, by decide +kernel, by decide +kernel⟩ rfl rfl) rfl (pi_tup (pv 0)) (fun _ _ _ _ _ => pg_name (i := 0) (show (["other", "tie"] : List Str).Nodup by decide +kernel) rfl (Or.inl rfl)) (fun _ _ _ _ _ => pif_one (pt_val (pe_call GAhead hr rfl hAhead kAhead bAhead .nil pass0 (pa_cons (pv 0) (pa_cons (pv 1) pa_nil))))) (fun _ _ _ _ _ => pv 0))), ?_⟩
    refine ⟨_, rfl, st, rfl, ⟨_, SqT.of hst⟩, fun D hD => comp_tup (K := K) (a := st) (xs := rs.map V.ref) (fun j σ ys H6 => ∃ (u : Option V) (fs : List Addr), σ = [u, some (.ref r)] ∧ ys = fs.map V.ref ∧ Same H H6 ∧ H6 D = some (.lst ys) ∧ TiesAt H6 fs (aheadF (S.take j) t)) ⟨none, [], rfl, rfl, same_new hD, upd_same, rfl, fun i r t e => by simp at e⟩ (fun j σ ys H6 _ ⟨_, _, _, _, e, f, _⟩ => ⟨SqT.of (e _ _ hst), f⟩) ?_ ?_⟩
    · rintro j x σ ys H6 hx ⟨u, fs, rfl, rfl, s6, D6, ft⟩
      obtain ⟨q, hq, rfl⟩ := map_some hx
      obtain ⟨t', ht', er⟩ := hrs.get hq
      have hj : j < 100 := by have := (List.getElem?_eq_some_iff.mp ht').1; omega
      have tk : S.take (j + 1) = S.take j ++ [t'] := by rw [List.take_add_one, ht']; rfl
      have fl : fs.length ≤ j := by
        rw [ft.1]
        unfold aheadF
        exact Nat.le_trans (List.length_filter_le ..) (by rw [List.length_take]; omega)
      have ea : aheadF (S.take (j + 1)) t = aheadF (S.take j) t ++ (if aheadB t' t = true then [t'] else []) := by
        rw [tk]; unfold aheadF; rw [List.filter_append, List.filter_cons, List.filter_nil]
      refine ⟨_, rfl, _, rfl, q, r, t', t, rfl, s6 _ _ er, s6 _ _ ht, fun H7 s7 => ⟨_, rfl, ?_⟩⟩
      have D7 := s7 _ _ D6
      have ft7 := ft.same s7
      have er7 := s7 _ _ (s6 _ _ er)
      refine ite2 (fun g => ?_) fun g => ?_
      · refine ⟨_, rfl, D7, small1000 (by rw [List.length_map]; omega), _, fs ++ [q], rfl, by rw [List.map_append]; rfl, same_set (s6.trans s7) hD, upd_same, ?_⟩
        rw [ea, if_pos g]
        refine ⟨by rw [List.length_append, List.length_append, ft.1]; rfl, fun i r0 t0 e1 e2 => ?_⟩
        have key : H7 r0 = some (.tup (tieV t0)) := by
          rw [List.getElem?_append] at e1 e2
          rw [ft.1] at e1
          split at e1
          · rename_i z
            rw [if_pos z] at e2
            exact ft7.2 i r0 t0 e1 e2
          · rename_i z
            rw [if_neg z] at e2
            have hz : i - (aheadF (S.take j) t).length = 0 := by
              have := (List.getElem?_eq_some_iff.mp e1).1
              simp only [List.length_cons, List.length_nil] at this
              omega
            rw [hz] at e1 e2
            cases e1
            cases e2
            exact er7
        rw [upd_ne (ne_of key D7 (by intro z; cases z))]
        exact key
      · refine ⟨_, fs, rfl, rfl, s6.trans s7, D7, ?_⟩
        rw [ea, if_neg g, List.append_nil]
        exact ft7
    · rintro σ ys H6 ⟨u, fs, rfl, rfl, s6, D6, ft⟩
      rw [List.length_map, hrs.1, List.take_length] at ft
      exact k D H6 s6 ⟨fs, D6, ft⟩
theorem scLight : FnScope ["many", "stand"] ["many", "stand"] (defScope sLight) := ⟨rfl, rfl, rfl, by decide +kernel, rfl, by decide +kernel, by decide +kernel⟩
theorem ok_Light {f : Addr} {fd : FuncData} (F : Fun K "lightest" "lightest" sLight f fd) (T : Txt mg)
    {gJoined : Addr} {fJoined : FuncData} (kJoined : PySem.W.keepIn K (.ref gJoined) = true) (bJoined : Binds K fJoined ["many", "stand", "one", "other"] []) (hJoined : mg "are_joined" = some (.ref gJoined)) (GJoined : FnOk P w K mg base CX0 4 gJoined fJoined ["many", "stand", "one", "other"] spJoined)
    {gTAhead : Addr} {fTAhead : FuncData} (kTAhead : PySem.W.keepIn K (.ref gTAhead) = true) (bTAhead : Binds K fTAhead ["stand", "tie"] []) (hTAhead : mg "ties_ahead" = some (.ref gTAhead)) (GTAhead : FnOk P w K mg base CX0 4 gTAhead fTAhead ["stand", "tie"] spTAhead) :
    FnOk P w K mg base CX0 5 f fd ["many", "stand"] spLight := by
  refine F.ok scLight (fun vs H Q E h => ?_) (fun cdv A outer s H vs Q E hr h => ?_)
  · obtain ⟨_, _, _, rfl, _⟩ := h; rfl
  · obtain ⟨N, st, S, rfl, ⟨rs, hst, hrs⟩, SN, N60, S100, k⟩ := h
    refine ⟨_, pss_one (ps_ret (pe_callTy call_tuple_of (by rfl) T.tuple (by decide +kernel) (pa_cons (pe_comp (T := ["tie"]) (F := ["many", "stand"]) (js := [0, 1]) (CS.to (osc := defScope sLight) ⟨by rfl, by decide +kernel, by decide +kernel, by decide +kernel, by decide +kernel, by decide +kernel, by decide +kernel⟩ rfl rfl) rfl (pi_tup (pv 1)) (fun _ _ _ _ _ => pg_name (i := 0) (show (["tie", "many", "stand"] : List Str).Nodup by decide +kernel) rfl (Or.inl rfl)) (fun _ _ _ _ _ => pif_one (pt_not (pt_val (pe_call GJoined hr rfl hJoined kJoined bJoined .nil pass0 (pa_cons (pv 1) (pa_cons (pe_call GTAhead hr rfl hTAhead kTAhead bTAhead .nil pass0 (pa_cons (pv 2) (pa_cons (pv 0) pa_nil))) (pa_cons (pe_ix (r := rIxT K) ix_tup (pv 0) pe_int (fun _ _ => rfl)) (pa_cons (pe_ix (r := rIxT K) ix_tup (pv 0) pe_int (fun _ _ => rfl)) pa_nil)))))))) (fun _ _ _ _ _ => pe_ix (r := rIxT K) ix_tup (pv 0) pe_int (fun _ _ => rfl))) pa_nil))), ?_⟩
    refine ⟨_, rfl, st, rfl, ⟨_, SqT.of hst⟩, fun D hD => comp_tup (K := K) (a := st) (xs := rs.map V.ref) (fun j σ ys H6 => ∃ (u : Option V), σ = [u, some (.int (N : Int)), some (.ref st)] ∧ ys = (((S.take j).filter (keepF N S)).map (·.1)).map V.str ∧ Same H H6 ∧ H6 D = some (.lst ys)) ⟨none, rfl, rfl, same_new hD, upd_same⟩ (fun j σ ys H6 _ ⟨_, _, _, e, f⟩ => ⟨SqT.of (e _ _ hst), f⟩) ?_ ?_⟩
    · rintro j x σ ys H6 hx ⟨u, rfl, rfl, s6, D6⟩
      obtain ⟨q, hq, rfl⟩ := map_some hx
      obtain ⟨t, ht, er⟩ := hrs.get hq
      have tm := List.mem_of_getElem? ht
      have hj : j < 100 := by have := (List.getElem?_eq_some_iff.mp ht).1; omega
      have tk : S.take (j + 1) = S.take j ++ [t] := by rw [List.take_add_one, ht]; rfl
      have ea : ((S.take (j + 1)).filter (keepF N S)).map (·.1) = ((S.take j).filter (keepF N S)).map (·.1) ++ (if keepF N S t = true then [t.1] else []) := by
        rw [tk, List.filter_append, List.map_append, List.filter_cons, List.filter_nil]
        split <;> rfl
      have fl : (((S.take j).filter (keepF N S)).map (·.1)).length ≤ j := by
        rw [List.length_map]
        exact Nat.le_trans (List.length_filter_le ..) (by rw [List.length_take]; omega)
      have er6 := s6 _ _ er
      refine ⟨_, rfl, _, rfl, _, rfl, st, q, S, t, rfl, ⟨rs, s6 _ _ hst, hrs.same s6⟩, S100, er6, fun l H7 s7 hl => ?_⟩
      have er7 := s7 _ _ er6
      have hA := ahead_in SN t
      have tN := SN t tm
      refine ⟨_, rfl, q, _, 1, _, rfl, rfl, SqT.of er7, atI_nat (j := 1) rfl, _, rfl, q, _, 2, _, rfl, rfl, SqT.of er7, atI_nat (j := 2) rfl, N, l, aheadF S t, t.2.1, t.2.2.1, rfl, hl, hA, N60, ?_, tN.1, fun H8 s8 => ⟨_, rfl, ?_⟩⟩
      · unfold aheadF; exact Nat.le_trans (List.length_filter_le ..) S100
      have D8 := s8 _ _ (s7 _ _ D6)
      have er8 := s8 _ _ er7
      have S8 := (s6.trans s7).trans s8
      have ek : keepF N S t = !decide (t.2.2.1 ∈ partF N (aheadF S t) t.2.1) := rfl
      by_cases g : t.2.2.1 ∈ partF N (aheadF S t) t.2.1
      · rw [decide_eq_true g] at ek ⊢
        refine iteF ⟨_, rfl, ?_, S8, ?_⟩
        · rw [ea, ek]; simp
        · exact D8
      · rw [decide_eq_false g] at ek ⊢
        refine iteT ⟨_, rfl, q, _, 0, _, rfl, rfl, SqT.of er8, atI_nat (j := 0) rfl, D8, small1000 (by rw [List.length_map]; omega), _, rfl, ?_, same_set S8 hD, ?_⟩
        · rw [ea, ek]; simp
        · exact upd_same
    · rintro σ ys H6 ⟨u, rfl, rfl, s6, D6⟩
      rw [List.length_map, hrs.1, List.take_length] at D6
      exact ⟨D, _, rfl, .inl ⟨SqL.of D6, fun r hr' => k r _ (s6.trans (same_new hr')) upd_same⟩⟩
end
end K46
set_option maxHeartbeats 4000000
namespace K46
open PySem L2 Wk
def WellAt (H : Hp) (a c : Addr) : Prop := ∃ (cs : List Int) (S k : Int), H a = some (.lst [.ref c, .int S, .int k]) ∧ H c = some (.lst (cs.map V.int)) ∧ cs.length ≤ 63 ∧ a ≠ c
def But (a c : Addr) (H H' : Hp) : Prop := ∀ b o, H b = some o → b ≠ a → b ≠ c → H' b = some o
theorem But.trans {a c : Addr} {H H1 H2 : Hp} (h : But a c H H1) (h' : But a c H1 H2) : But a c H H2 := fun b o e n m => h' b o (h b o e n m) n m
theorem But.refl {a c : Addr} {H : Hp} : But a c H H := fun _ _ e _ _ => e
def spWell (K : PySem.W.Frag) : Sp := fun vs H Q _ => ∃ (s : Addr) (ns : List Int), vs = [.ref s] ∧ SqL K H s (ns.map V.int) ∧ ns.length ≤ 63 ∧ ∀ (a c : Addr) (H' : Hp), Same H H' → H a = none → H c = none → WellAt H' a c → Q (.ref a) H'
def spDraw : Sp := fun vs H Q _ => ∃ (a c : Addr) (m : Int), vs = [.ref a, .int m] ∧ WellAt H a c ∧ 0 < m ∧ m < 1073741824 ∧ ∀ (v : Int) (H' : Hp), 0 ≤ v → v < m → But a c H H' → WellAt H' a c → Q (.int v) H'
theorem cut_ints {ns : List Int} {lo hi : Option Int} : ∃ ms : List Int, cutV (ns.map V.int) lo hi = ms.map V.int ∧ ms.length ≤ ns.length := by
  refine ⟨(ns.drop (HT.sIx ns.length 0 lo)).take (HT.sIx ns.length ns.length hi - HT.sIx ns.length 0 lo), ?_, ?_⟩
  · unfold cutV; rw [List.length_map, List.map_take, List.map_drop]
  · rw [List.length_take, List.length_drop]; omega
theorem sqL_same {K : PySem.W.Frag} {H H' : Hp} {a : Addr} {xs : List V} (h : SqL K H a xs) (s : Same H H') : SqL K H' a xs := by
  rcases h with (e | ⟨o, e⟩) | e
  · exact .inl (.inl (s _ _ e))
  · exact .inl (.inr ⟨o, s _ _ e⟩)
  · exact .inr e
theorem occ_all : ∀ j, j < 26 → ∃ rest, Builtin.Str.occurrences LS ⟨#[97 + j]⟩ 0 LS.length 1 = j :: rest := by
  intro j hj
  have : ∀ j : Fin 26, (Builtin.Str.occurrences LS ⟨#[97 + j.1]⟩ 0 LS.length 1).head? = some j.1 := by decide +kernel
  have h := this ⟨j, hj⟩
  cases e : Builtin.Str.occurrences LS ⟨#[97 + j]⟩ 0 LS.length 1 with
  | nil => rw [e] at h; cases h
  | cons x r =>
    rw [e] at h
    have : x = j := by simpa using h
    subst this
    exact ⟨r, rfl⟩
theorem cat_len (x y : Str) : (x ++ y).length = x.length + y.length := by
  show (x.cps ++ y.cps).size = _
  rw [Array.size_append]; rfl
theorem len_toList (z : Str) : z.length = z.cps.toList.length := by simp [Str.length]
def IsStep (st : Int) : Prop := st = 1 ∨ st = 3 ∨ st = 5 ∨ st = 7 ∨ st = 9 ∨ st = 11
theorem step_of {v : Int} (h0 : 0 ≤ v) (h1 : v < 6) : ∃ st, atI ([.int 1, .int 3, .int 5, .int 7, .int 9, .int 11] : List V) v = some (.int st) ∧ IsStep st := by
  obtain ⟨j, rfl⟩ : ∃ j : Nat, v = (j : Int) := ⟨v.toNat, by omega⟩
  have hj : j < 6 := by omega
  match j, hj with
  | 0, _ => exact ⟨1, rfl, .inl rfl⟩
  | 1, _ => exact ⟨3, rfl, .inr (.inl rfl)⟩
  | 2, _ => exact ⟨5, rfl, .inr (.inr (.inl rfl))⟩
  | 3, _ => exact ⟨7, rfl, .inr (.inr (.inr (.inl rfl)))⟩
  | 4, _ => exact ⟨9, rfl, .inr (.inr (.inr (.inr (.inl rfl))))⟩
  | 5, _ => exact ⟨11, rfl, .inr (.inr (.inr (.inr (.inr rfl))))⟩
def cc (i0 st : Int) (k : Nat) : Nat := 97 + ((i0 + st * (0 + (k : Int))) % 26).toNat
theorem WellAt.ne {H : Hp} {a c b : Addr} (h : WellAt H a c) (hb : H b = none) : b ≠ a ∧ b ≠ c := by
  obtain ⟨_, _, _, h1, h2, _⟩ := h
  exact ⟨(ne_of_none h1 hb).symm, (ne_of_none h2 hb).symm⟩
theorem WellAt.same {H H' : Hp} {a c : Addr} (h : WellAt H a c) (s : Same H H') : WellAt H' a c := by
  obtain ⟨cs, S, k, h1, h2, r⟩ := h
  exact ⟨cs, S, k, s _ _ h1, s _ _ h2, r⟩
theorem WellAt.upd {H : Hp} {a c b : Addr} {o : HO} (h : WellAt H a c) (n : b ≠ a ∧ b ≠ c) : WellAt (upd H b o) a c := by
  obtain ⟨cs, S, k, h1, h2, r⟩ := h
  exact ⟨cs, S, k, by rw [upd_ne n.1.symm]; exact h1, by rw [upd_ne n.2.symm]; exact h2, r⟩
theorem But.of {a c : Addr} {H H' : Hp} (s : Same H H') : But a c H H' := fun b o e _ _ => s b o e
theorem But.set {a c : Addr} {H H1 : Hp} {b : Addr} {o : HO} (h : But a c H H1) (hb : H b = none) : But a c H (upd H1 b o) := fun x u e n m => by
  rw [upd_ne (ne_of_none e hb)]; exact h x u e n m
theorem But.none {a c : Addr} {H H' : Hp} {b : Addr} (h : But a c H H') (w : WellAt H' a c) (hb : H' b = none) : H b = none := by
  cases e : H b with
  | none => rfl
  | some o =>
    have n := w.ne hb
    rw [h b o e n.1 n.2] at hb
    cases hb
theorem But.tup {a c : Addr} {H H' : Hp} (h : But a c H H') (w : WellAt H a c) {b : Addr} {xs : List V} (e : H b = some (.tup xs)) : H' b = some (.tup xs) := by
  obtain ⟨_, _, _, h1, h2, _⟩ := w
  exact h _ _ e (ne_of e h1 (by intro z; cases z)) (ne_of e h2 (by intro z; cases z))
def dd (j1 : Int) (k : Nat) : Nat := 97 + ((j1 + (0 + (k : Int)) / 26) % 26).toNat
def Wd (way : Int) (c d i : Nat) (z : Str) : Prop := (way = 0 → z.cps.toList = c :: (if 25 < i then [d] else [])) ∧ (way = 1 → ∃ p, z.cps.toList = c :: d :: p) ∧ (way = 2 → ∃ p, z.cps.toList = p ++ [d, c])
theorem cd_inj {i0 st j1 : Int} (hs : IsStep st) {j k : Nat} (hj : j < 60) (hk : k < 60) (e1 : cc i0 st j = cc i0 st k) (e2 : dd j1 j = dd j1 k) : j = k := by
  unfold cc at e1
  unfold dd at e2
  rcases hs with rfl | rfl | rfl | rfl | rfl | rfl <;> omega
theorem cd_low {i0 st : Int} (hs : IsStep st) {j k : Nat} (hj : j ≤ 25) (hk : k ≤ 25) (e1 : cc i0 st j = cc i0 st k) : j = k := by
  unfold cc at e1
  rcases hs with rfl | rfl | rfl | rfl | rfl | rfl <;> omega
theorem wd_inj {way i0 st j1 : Int} (hw : way = 0 ∨ way = 1 ∨ way = 2) (hs : IsStep st) {j k : Nat} (hj : j < 60) (hk : k < 60) {z : Str} (a : Wd way (cc i0 st j) (dd j1 j) j z) (b : Wd way (cc i0 st k) (dd j1 k) k z) : j = k := by
  rcases hw with h | h | h
  · have e := (a.1 h).symm.trans (b.1 h)
    injection e with e1 e2
    by_cases g : 25 < j
    · by_cases g' : 25 < k
      · rw [if_pos g, if_pos g'] at e2
        injection e2 with e2
        exact cd_inj hs hj hk e1 e2
      · rw [if_pos g, if_neg g'] at e2; cases e2
    · by_cases g' : 25 < k
      · rw [if_neg g, if_pos g'] at e2; cases e2
      · exact cd_low hs (by omega) (by omega) e1
  · obtain ⟨p, e⟩ := a.2.1 h
    obtain ⟨p', e'⟩ := b.2.1 h
    have e := e.symm.trans e'
    injection e with e1 e2
    injection e2 with e2 _
    exact cd_inj hs hj hk e1 e2
  · obtain ⟨p, e⟩ := a.2.2 h
    obtain ⟨p', e'⟩ := b.2.2 h
    have e := e.symm.trans e'
    have := (List.append_inj' e rfl).2
    injection this with e2 e3
    injection e3 with e1 _
    exact cd_inj hs hj hk e1 e2
theorem wd_nodup {way i0 st j1 : Int} (hw : way = 0 ∨ way = 1 ∨ way = 2) (hs : IsStep st) {zs : List Str} (hl : zs.length ≤ 60) (h : ∀ (j : Nat) (y : Str), zs[j]? = some y → Wd way (cc i0 st j) (dd j1 j) j y) : zs.Nodup := by
  rw [List.nodup_iff_pairwise_ne, List.pairwise_iff_getElem]
  intro i j hi hj hij e
  have h1 := h i zs[i] (getq hi)
  have h2 := h j zs[j] (getq hj)
  rw [e] at h1
  exact absurd (wd_inj hw hs (by omega) (by omega) h1 h2) (by omega)
def spNames : Sp := fun vs H Q _ => ∃ (a c : Addr) (N : Nat), vs = [.ref a, .int (N : Int)] ∧ WellAt H a c ∧ N ≤ 60 ∧ ∀ (l : Addr) (zs : List Str) (H' : Hp), But a c H H' → WellAt H' a c → H' l = some (.lst (zs.map V.str)) → l ≠ a → l ≠ c → zs.length = N → zs.Nodup → Q (.ref l) H'
def spWeight : Sp := fun vs H Q _ => ∃ (a c : Addr) (h : Int), vs = [.ref a, .int h] ∧ WellAt H a c ∧ ∀ (v : Int) (H' : Hp), But a c H H' → WellAt H' a c → v ≤ 1000000000 → Q (.int v) H'
def spPair : Sp := fun vs H Q _ => ∃ (a c : Addr) (sh : Int) (N k : Nat), vs = [.ref a, .int sh, .int (N : Int), .int (k : Int)] ∧ WellAt H a c ∧ 0 ≤ sh ∧ sh < 4 ∧ 2 ≤ N ∧ N ≤ 24 ∧ ∀ (p q : Nat) (r : Addr) (H' : Hp), But a c H H' → WellAt H' a c → p < N → q < N → H' r = some (.tup [.int (p : Int), .int (q : Int)]) → Q (.ref r) H'
section
variable {P : Program} {w : World} {K : PySem.W.Frag} {mg : Str → Option Value} {base : Heap}
theorem scWell : FnScope ["_law_script", "_law_seed", "_law_cell"] ["_law_script"] (defScope sWell) := ⟨rfl, rfl, rfl, by decide +kernel, rfl, by decide +kernel, by decide +kernel⟩
theorem ok_Well {f : Addr} {fd : FuncData} (F : Fun K "_law_well" "_law_well" sWell f fd) (T : Txt mg) :
    FnOk P w K mg base CX0 1 f fd ["_law_script"] (spWell K) := by
  refine F.ok scWell (fun vs H Q E h => ?_) (fun cdv A outer s H vs Q E hr h => ?_)
  · obtain ⟨_, _, rfl, _⟩ := h; rfl
  · obtain ⟨sa, ns, rfl, hS, hl, k⟩ := h
    refine ⟨_, pss_cons (ps_set (i := 1) scWell.nd rfl (Or.inl rfl) pe_int)
      (pss_cons (ps_for PassesOwn.never rfl (pi_list (pe_slice sl_list (pv 0) po_none (po_some pe_int))) (pg_name (i := 2) scWell.nd rfl (Or.inl rfl)) (pss_one (ps_set (i := 1) scWell.nd rfl (Or.inl rfl) (pe_op op_mod (pe_op op_add (pe_op op_add (pe_op op_mul (pv 1) pe_int) (pe_op op_mod (pv 2) pe_int)) pe_int) pe_int))))
      (pss_one (ps_ret (pe_lst (pa_cons (pe_callTy call_list_of (by rfl) T.list (by decide +kernel) (pa_cons (pe_slice sl_list (pv 0) po_none (po_some pe_int)) pa_nil)) (pa_cons (pv 1) (pa_cons pe_int pa_nil))))))), ?_⟩
    obtain ⟨ms, em, lm⟩ := cut_ints (ns := ns) (lo := none) (hi := some 63)
    refine ⟨_, rfl, _, rfl, sa, _, rfl, hS, fun q hq => ?_⟩
    rw [em]
    refine ⟨q, rfl, ⟨_, SqL.of upd_same⟩, for_list (K := K) (a := q) (xs := ms.map V.int) (fun i σ H1 => ∃ (S : Int) (u : Option V), σ = [some (.ref sa), some (.int S), u] ∧ H1 = upd H q (.lst (ms.map V.int))) ⟨17, none, rfl, rfl⟩ (fun i σ H1 _ ⟨_, _, _, e⟩ => by rw [e]; exact SqL.of upd_same) ?_ ?_⟩
    · rintro i x σ H1 hx ⟨S, u, rfl, rfl⟩
      obtain ⟨m, rfl⟩ : ∃ m, x = .int m := by
        rw [List.getElem?_map] at hx
        cases hq : ms[i]? with
        | none => rw [hq] at hx; cases hx
        | some z => rw [hq] at hx; exact ⟨z, (Option.some.inj hx).symm⟩
      exact ⟨_, rfl, _, _, rfl, rfl, .inr ⟨by decide, by decide⟩, _, rfl, _, _, rfl, rfl, (by show (0 : Int) < 2147483629; decide), _, _, rfl, rfl, _, _, rfl, rfl, _, _, rfl, rfl, (by show (0 : Int) < 2147483629; decide), _, _, rfl, rfl⟩
    · rintro σ H1 ⟨S, u, rfl, rfl⟩
      refine ⟨_, rfl, _, rfl, sa, _, rfl, sqL_same hS (same_new hq), fun q2 hq2 => ?_⟩
      rw [em]
      refine ⟨q2, _, rfl, .inl (SqL.of upd_same), fun c hc => ⟨_, rfl, small (by simp), fun a ha => ?_⟩⟩
      have s1 := ((same_new (o := .lst (ms.map V.int)) hq).trans (same_new (o := .lst (ms.map V.int)) hq2)).trans (same_new (o := .lst (ms.map V.int)) hc)
      have hca : c ≠ a := ne_of_none (upd_same (a := c)) ha
      have nn : ∀ {H1 H2 : Hp} {r : Addr}, Same H1 H2 → H2 r = none → H1 r = none := fun {H1 H2 r} s e => by
        cases hh : H1 r with
        | none => rfl
        | some o => rw [s _ _ hh] at e; cases e
      exact k a c _ (s1.trans (same_new ha)) (nn s1 ha) (nn ((same_new (o := .lst (ms.map V.int)) hq).trans (same_new (o := .lst (ms.map V.int)) hq2)) hc) ⟨ms, _, _, upd_same, by rw [upd_ne hca]; exact upd_same, by omega, hca.symm⟩
theorem scDraw : FnScope ["_law_well_here", "_law_most", "_law_number", "_law_cell"] ["_law_well_here", "_law_most"] (defScope sDraw) := ⟨rfl, rfl, rfl, by decide +kernel, rfl, by decide +kernel, by decide +kernel⟩
theorem ok_Draw {f : Addr} {fd : FuncData} (F : Fun K "_law_draw" "_law_draw" sDraw f fd) (T : Txt mg) :
    FnOk P w K mg base CX0 1 f fd ["_law_well_here", "_law_most"] spDraw := by
  refine F.ok scDraw (fun vs H Q E h => ?_) (fun cdv A outer s H vs Q E hr h => ?_)
  · obtain ⟨_, _, _, rfl, _⟩ := h; rfl
  · obtain ⟨a, c, m, rfl, ⟨cs, S, k0, ha, hc, cl, nac⟩, m0, m1, k⟩ := h
    refine ⟨_, pss_cons (ps_asg (pe_op op_add (pe_ix ix_list (pv 0) pe_int (fun _ _ => rfl)) pe_int) (pg_sub (pv 0) (pe_int) set_list))
      (pss_cons (ps_if (pt_cmpR (op_eqNil hr.units) (pe_ix ix_list (pv 0) pe_int (fun _ _ => rfl)) (pe_lst pa_nil) (nomark _)) (pss_cons (ps_set (i := 2) scDraw.nd rfl (Or.inl rfl) (pe_op op_mod (pe_op op_mul (pe_op op_add (pe_ix ix_list (pv 0) pe_int (fun _ _ => rfl)) (pe_op op_mul pe_int (pe_ix ix_list (pv 0) pe_int (fun _ _ => rfl)))) pe_int) pe_int))
      (pss_cons (ps_set (i := 2) scDraw.nd rfl (Or.inl rfl) (pe_op op_mod (pe_op op_add (pe_op op_mul (pv 2) (pv 2)) (pe_op op_mul pe_int (pe_ix ix_list (pv 0) pe_int (fun _ _ => rfl)))) pe_int))
      (pss_one (ps_ret (pe_op op_mod (pe_op op_fdiv (pe_op op_mod (pe_op op_mul (pv 2) pe_int) pe_int) pe_int) (pv 1)))))) pss_nil)
      (pss_cons (ps_set (i := 3) scDraw.nd rfl (Or.inl rfl) (pe_bm PySem.F.plainAttrs_list PySem.F.slot_list_pop PySem.F.type_list_pop mt_popAt (pe_ix ix_list (pv 0) pe_int (fun _ _ => rfl)) (pa_cons pe_int pa_nil)))
      (pss_cons (ps_if (pt_cmpR op_ge (pv 3) (pe_op op_pow pe_int pe_int) (nomark _)) (pss_cons (ps_expr (pe_bm PySem.F.plainAttrs_list PySem.F.slot_list_insert PySem.F.type_list_insert mt_insert0 (pe_ix ix_list (pv 0) pe_int (fun _ _ => rfl)) (pa_cons pe_int (pa_cons (pe_op op_fdiv (pv 3) (pv 1)) pa_nil))))
      (pss_one (ps_ret (pe_op op_mod (pv 3) (pv 1))))) pss_nil)
      (pss_cons (ps_set (i := 2) scDraw.nd rfl (Or.inl rfl) (pe_op op_mod (pe_op op_mul (pe_op op_add (pe_op op_mod (pv 3) pe_int) (pe_op op_mul pe_int (pe_ix ix_list (pv 0) pe_int (fun _ _ => rfl)))) pe_int) pe_int))
      (pss_cons (ps_set (i := 2) scDraw.nd rfl (Or.inl rfl) (pe_op op_mod (pe_op op_add (pe_op op_mul (pv 2) (pv 2)) (pe_op op_mul pe_int (pv 2))) pe_int))
      (pss_one (ps_ret (pe_op op_mod (pe_op op_fdiv (pe_op op_mod (pe_op op_mul (pv 2) pe_int) pe_int) pe_int) (pv 1))))))))), ?_⟩
    refine ⟨_, rfl, a, _, 2, _, rfl, rfl, SqL.of ha, rfl, _, _, rfl, rfl, _, rfl, a, _, 2, 2, rfl, rfl, ha, rfl, ?_⟩
    generalize hH1 : upd H a _ = H1
    have ha1 : H1 a = some (.lst [.ref c, .int S, .int (k0 + 1)]) := by rw [← hH1]; exact upd_same
    have hc1 : H1 c = some (.lst (cs.map V.int)) := by rw [← hH1, upd_ne nac.symm]; exact hc
    have b1 : But a c H H1 := fun b o e n1 n2 => by rw [← hH1, upd_ne n1]; exact e
    clear hH1
    refine ⟨_, rfl, a, _, 0, _, rfl, rfl, SqL.of ha1, rfl, small (by simp), fun n hn => ?_⟩
    have sn := same_new (H := H1) (o := .lst []) hn
    have ln := upd_same (H := H1) (a := n) (o := .lst [])
    have ha2 := sn _ _ ha1
    have hc2 := sn _ _ hc1
    have b2 : But a c H (upd H1 n (.lst [])) := fun b o e n1 n2 => sn _ _ (b1 b o e n1 n2)
    generalize upd H1 n (.lst []) = H2 at sn ln ha2 hc2 b2
    refine ⟨c, n, _, rfl, rfl, SqL.of hc2, SqL.of ln, _, rfl, ?_⟩
    cases cs with
    | nil =>
      refine iteT ?_
      refine ⟨_, rfl, a, _, 1, _, rfl, rfl, SqL.of ha2, rfl, _, rfl, a, _, 2, _, rfl, rfl, SqL.of ha2, rfl, _, _, rfl, rfl, .inl ⟨by decide, by decide⟩, _, _, rfl, rfl, _, _, rfl, rfl, .inr ⟨by decide, by decide⟩, _, _, rfl, rfl, (by show (0 : Int) < 2147483647; decide), ?_⟩
      generalize (S + 7919 * (k0 + 1)) * 48271 = z1
      have y0 := Int.emod_nonneg z1 (show (2147483647 : Int) ≠ 0 by decide)
      have y1 := Int.emod_lt_of_pos z1 (show (0 : Int) < 2147483647 by decide)
      generalize z1 % 2147483647 = z2 at y0 y1
      refine ⟨_, rfl, _, rfl, _, _, rfl, rfl, .inl ⟨by omega, by omega⟩, _, rfl, a, _, 2, _, rfl, rfl, SqL.of ha2, rfl, _, _, rfl, rfl, .inl ⟨by decide, by decide⟩, _, _, rfl, rfl, _, _, rfl, rfl, (by show (0 : Int) < 2147483629; decide), ?_⟩
      generalize (z2 * z2 + 69621 * (k0 + 1)) % 2147483629 = z3
      refine ⟨_, rfl, _, _, rfl, rfl, .inr ⟨by decide, by decide⟩, _, _, rfl, rfl, (by show (0 : Int) < 2147483647; decide), _, _, rfl, rfl, ⟨by decide, by decide⟩, _, rfl, _, _, rfl, rfl, m0, ?_⟩
      exact k _ _ (Int.emod_nonneg _ (by omega)) (Int.emod_lt_of_pos _ m0) b2 ⟨[], _, _, ha2, hc2, by simp, nac⟩
    | cons x cs =>
      refine iteF ?_
      dsimp only [tNext]
      have lc : cs.length ≤ 62 := by simp only [List.length_cons] at cl; omega
      refine ⟨_, rfl, a, _, 0, _, rfl, rfl, SqL.of ha2, rfl, .inl ⟨rfl, _, SqL.of hc2⟩, c, _, 0, 0, .int x, rfl, rfl, hc2, by decide, by decide, by simp [seqIndex?], rfl, ?_⟩
      generalize hH3 : upd H2 c _ = H3
      have hc3 : H3 c = some (.lst (cs.map V.int)) := by rw [← hH3]; exact upd_same
      have ha3 : H3 a = some (.lst [.ref c, .int S, .int (k0 + 1)]) := by rw [← hH3, upd_ne nac]; exact ha2
      have b3 : But a c H H3 := fun b o e n1 n2 => by rw [← hH3, upd_ne n2]; exact b2 b o e n1 n2
      clear hH3
      refine ⟨_, rfl, _, _, rfl, rfl, ⟨by decide, by decide, by decide⟩, _, _, rfl, rfl, _, rfl, ?_⟩
      refine ite2 (fun g => ?_) (fun g => ?_)
      · refine ⟨_, rfl, a, _, 0, _, rfl, rfl, SqL.of ha3, rfl, .inl ⟨rfl, _, SqL.of hc3⟩, _, rfl, _, rfl, _, _, rfl, rfl, ⟨m0, by omega⟩, c, _, _, rfl, rfl, hc3, small1000 (by simp; omega), ?_⟩
        refine ⟨_, rfl, _, rfl, _, _, rfl, rfl, m0, ?_⟩
        exact k _ _ (Int.emod_nonneg _ (by omega)) (Int.emod_lt_of_pos _ m0) (fun b o e n1 n2 => by rw [upd_ne n2]; exact b3 b o e n1 n2) ⟨(x / m) :: cs, _, _, by rw [upd_ne nac]; exact ha3, upd_same, by simp; omega, nac⟩
      · dsimp only [tNext]
        refine ⟨_, rfl, _, _, rfl, rfl, (by show (0 : Int) < 2147483647; decide), _, rfl, a, _, 2, _, rfl, rfl, SqL.of ha3, rfl, _, _, rfl, rfl, .inl ⟨by decide, by decide⟩, _, _, rfl, rfl, _, _, rfl, rfl, .inr ⟨by decide, by decide⟩, _, _, rfl, rfl, (by show (0 : Int) < 2147483647; decide), ?_⟩
        generalize (x % 2147483647 + 7919 * (k0 + 1)) * 48271 = z1
        have y0 := Int.emod_nonneg z1 (show (2147483647 : Int) ≠ 0 by decide)
        have y1 := Int.emod_lt_of_pos z1 (show (0 : Int) < 2147483647 by decide)
        generalize z1 % 2147483647 = z2 at y0 y1
        refine ⟨_, rfl, _, rfl, _, _, rfl, rfl, .inl ⟨by omega, by omega⟩, _, rfl, _, _, rfl, rfl, .inl ⟨by decide, by decide⟩, _, _, rfl, rfl, _, _, rfl, rfl, (by show (0 : Int) < 2147483629; decide), ?_⟩
        generalize (z2 * z2 + 69621 * z2) % 2147483629 = z3
        refine ⟨_, rfl, _, _, rfl, rfl, .inr ⟨by decide, by decide⟩, _, _, rfl, rfl, (by show (0 : Int) < 2147483647; decide), _, _, rfl, rfl, ⟨by decide, by decide⟩, _, rfl, _, _, rfl, rfl, m0, ?_⟩
        exact k _ _ (Int.emod_nonneg _ (by omega)) (Int.emod_lt_of_pos _ m0) b3 ⟨cs, _, _, ha3, hc3, by omega, nac⟩
end
end K46
set_option maxHeartbeats 4000000
namespace K46
open PySem L2 Wk
section
variable {P : Program} {w : World} {K : PySem.W.Frag} {mg : Str → Option Value} {base : Heap}
theorem scNames : FnScope ["_law_well_here", "_law_many", "_law_letters", "_law_stem", "_law_step", "_law_way", "_law_found", "_law_k", "_law_first", "_law_second", "_law_word"] ["_law_well_here", "_law_many"] (defScope sNames) := ⟨rfl, rfl, rfl, by decide +kernel, rfl, by decide +kernel, by decide +kernel⟩
theorem ok_Names {f : Addr} {fd : FuncData} (F : Fun K "_law_names" "_law_names" sNames f fd) (T : Txt mg)
    {gDraw : Addr} {fDraw : FuncData} (kDraw : PySem.W.keepIn K (.ref gDraw) = true) (bDraw : Binds K fDraw ["_law_well_here", "_law_most"] []) (hDraw : mg "_law_draw" = some (.ref gDraw)) (GDraw : FnOk P w K mg base CX0 1 gDraw fDraw ["_law_well_here", "_law_most"] spDraw) :
    FnOk P w K mg base CX0 2 f fd ["_law_well_here", "_law_many"] spNames := by
  refine F.ok scNames (fun vs H Q E h => ?_) (fun cdv A outer s H vs Q E hr h => ?_)
  · obtain ⟨_, _, _, rfl, _⟩ := h; rfl
  · obtain ⟨a, c, N, rfl, hw, hN, k⟩ := h
    refine ⟨_, pss_cons (ps_set (i := 2) scNames.nd rfl (Or.inr rfl) pe_str)
      (pss_cons (ps_set (i := 3) scNames.nd rfl (Or.inl rfl) (pe_bm PySem.F.plainAttrs_str PySem.F.slot_str_join PySem.F.type_str_join mt_join pe_str (pa_cons (pe_comp (T := ["_law_k"]) (F := ["_law_letters", "_law_well_here"]) (js := [2, 0]) (CS.to (osc := defScope sNames) ⟨by rfl, by decide +kernel, by decide +kernel, by decide +kernel, by decide +kernel, by decide +kernel, by decide +kernel⟩ rfl rfl) rfl (pi_range1 rfl T.range (pa_cons pe_int pa_nil)) (fun _ _ _ _ _ => pg_name (i := 0) (show (["_law_k", "_law_letters", "_law_well_here"] : List Str).Nodup by decide +kernel) rfl (Or.inl rfl)) (fun _ _ _ _ _ => pif_nil) (fun _ _ _ _ _ => pe_ix ix_str (pv 1) (pe_call GDraw hr rfl hDraw kDraw bDraw .nil pass0 (pa_cons (pv 2) (pa_cons pe_int pa_nil))) (fun _ _ => rfl))) pa_nil)))
      (pss_cons (ps_set (i := 4) scNames.nd rfl (Or.inl rfl) (pe_ix ix_list (pe_lst (pa_cons pe_int (pa_cons pe_int (pa_cons pe_int (pa_cons pe_int (pa_cons pe_int (pa_cons pe_int pa_nil))))))) (pe_call GDraw hr rfl hDraw kDraw bDraw .nil pass0 (pa_cons (pv 0) (pa_cons pe_int pa_nil))) (fun _ _ => rfl)))
      (pss_cons (ps_set (i := 5) scNames.nd rfl (Or.inl rfl) (pe_call GDraw hr rfl hDraw kDraw bDraw .nil pass0 (pa_cons (pv 0) (pa_cons pe_int pa_nil))))
      (pss_cons (ps_set (i := 6) scNames.nd rfl (Or.inl rfl) (pe_lst pa_nil))
      (pss_cons (ps_for PassesOwn.never rfl (pi_range1 rfl T.range (pa_cons (pv 1) pa_nil)) (pg_name (i := 7) scNames.nd rfl (Or.inl rfl)) (pss_cons (ps_set (i := 8) scNames.nd rfl (Or.inl rfl) (pe_ix ix_str (pv 2) (pe_op op_mod (pe_op op_add (pe_bm PySem.F.plainAttrs_str PySem.F.slot_str_index PySem.F.type_str_index mt_indexS (pv 2) (pa_cons (pe_ix ix_str (pv 3) pe_int (fun _ _ => rfl)) pa_nil)) (pe_op op_mul (pv 4) (pv 7))) pe_int) (fun _ _ => rfl)))
      (pss_cons (ps_set (i := 9) scNames.nd rfl (Or.inl rfl) (pe_ix ix_str (pv 2) (pe_op op_mod (pe_op op_add (pe_bm PySem.F.plainAttrs_str PySem.F.slot_str_index PySem.F.type_str_index mt_indexS (pv 2) (pa_cons (pe_ix ix_str (pv 3) pe_int (fun _ _ => rfl)) pa_nil)) (pe_op op_fdiv (pv 7) pe_int)) pe_int) (fun _ _ => rfl)))
      (pss_cons (ps_set (i := 10) scNames.nd rfl (Or.inl rfl) (pe_op op_add_str (pv 8) (pe_op op_mulS (pv 9) (pe_callTy call_int1 (by rfl) T.int (by decide +kernel) (pa_cons (pe_cmpR op_gt (pv 7) pe_int (nomark _)) pa_nil)))))
      (pss_cons (ps_if (pt_cmpR op_eq (pv 5) pe_int (nomark _)) (pss_one (ps_set (i := 10) scNames.nd rfl (Or.inl rfl) (pe_op op_add_str (pe_op op_add_str (pv 8) (pv 9)) (pe_slice sl_str (pv 3) (po_some pe_int) (po_some (pe_op op_add pe_int (pe_op op_mod (pv 7) pe_int))))))) pss_nil)
      (pss_cons (ps_if (pt_cmpR op_eq (pv 5) pe_int (nomark _)) (pss_one (ps_set (i := 10) scNames.nd rfl (Or.inl rfl) (pe_op op_add_str (pe_op op_add_str (pe_slice sl_str (pv 3) (po_some pe_int) (po_some (pe_op op_sub pe_int (pe_op op_mod (pv 7) pe_int)))) (pv 9)) (pv 8)))) pss_nil)
      (pss_one (ps_expr (pe_bm PySem.F.plainAttrs_list PySem.F.slot_list_append PySem.F.type_list_append mt_append (pv 6) (pa_cons (pv 10) pa_nil))))))))))
      (pss_one (ps_ret (pv 6)))))))), ?_⟩
    refine ⟨rfl, 8, rfl, by decide, by decide, fun D hD => comp_range (lo := 0) (n := 8) (fun j σ ys H2 => ∃ (u : Option V) (ws : List Nat), σ = [u, some (.str LS), some (.ref a)] ∧ But a c H H2 ∧ WellAt H2 a c ∧ H2 D = some (.lst ys) ∧ ys = ws.map (fun c => V.str ⟨#[c]⟩) ∧ ws.length = j ∧ ∀ x ∈ ws, 97 ≤ x ∧ x < 123) ?_ (fun j σ ys H2 _ ⟨_, _, _, _, _, e, _⟩ => e) ?_ ?_⟩
    · exact ⟨none, [], rfl, But.of (same_new hD), hw.upd (hw.ne hD), upd_same, rfl, rfl, by simp⟩
    · rintro j σ ys H2 hj ⟨u, ws, rfl, b2, w2, e2, rfl, wl, wb⟩
      refine ⟨_, rfl, _, rfl, a, c, 26, rfl, w2, by decide, by decide, fun x H3 x0 x1 b3 w3 => ?_⟩
      have e3 := b3 _ _ e2 (hw.ne hD).1 (hw.ne hD).2
      refine ⟨_, x, _, rfl, rfl, small (by decide +kernel), LS_at x0 x1, e3, small1000 (by simp; omega), _, ws ++ [97 + x.toNat], rfl, (b2.trans b3).set hD, w3.upd (hw.ne hD), upd_same, by simp, by simp [wl], fun y hy => ?_⟩
      rcases List.mem_append.mp hy with q | q
      · exact wb y q
      · have := List.mem_singleton.mp q
        omega
    rintro σ ys H2 ⟨u, ws, rfl, b2, w2, e2, rfl, wl, wb⟩
    have hz := join_cps ws
    have ez : (ws.map fun c => V.str ⟨#[c]⟩) = ((ws.map fun c => (⟨#[c]⟩ : Str)).map V.str) := by rw [List.map_map]; rfl
    refine ⟨_, D, _, rfl, rfl, SqL.of (by rw [← ez]; exact e2), ?_, ?_⟩
    · have : ∀ ws : List Nat, ((ws.map fun c => (⟨#[c]⟩ : Str)).map (·.length)).sum = ws.length := by
        intro ws
        induction ws with
        | nil => rfl
        | cons c ws ih => simp only [List.map_cons, List.sum_cons, List.length_cons, ih]; show 1 + ws.length = _; omega
      rw [this, List.length_map]; show _ + _ * 0 ≤ _; omega
    generalize Txt.join (Str.ofString "") (ws.map fun c => (⟨#[c]⟩ : Str)) = z at hz
    have zl : z.length = 8 := by rw [len_toList, hz, wl]
    obtain ⟨j0, hj0, a0⟩ : ∃ j0 : Nat, j0 < 26 ∧ atI z.cps.toList 0 = some (97 + j0) := by
      match ws, wl, wb, hz with
      | x :: r, _, wb, hz =>
        have := wb x (by simp)
        exact ⟨x - 97, by omega, by rw [hz, show 97 + (x - 97) = x by omega]; exact atI_nat (j := 0) rfl⟩
    obtain ⟨j1, hj1, a1⟩ : ∃ j1 : Nat, j1 < 26 ∧ atI z.cps.toList 1 = some (97 + j1) := by
      match ws, wl, wb, hz with
      | x :: y :: r, _, wb, hz =>
        have := wb y (by simp)
        exact ⟨y - 97, by omega, by rw [hz, show 97 + (y - 97) = y by omega]; exact atI_nat (j := 1) rfl⟩
    obtain ⟨r0, o0⟩ := occ_all j0 hj0
    obtain ⟨r1, o1⟩ := occ_all j1 hj1
    refine ⟨small (by simp), fun q hq => ?_⟩
    have w2q := w2.upd (o := .lst [.int 1, .int 3, .int 5, .int 7, .int 9, .int 11]) (w2.ne hq)
    refine ⟨_, rfl, a, c, 6, rfl, w2q, by decide, by decide, fun x H3 x0 x1 b3 w3 => ?_⟩
    obtain ⟨st, hst, ist⟩ := step_of x0 x1
    have q3 := b3 _ _ upd_same (w2.ne hq).1 (w2.ne hq).2
    refine ⟨q, _, x, _, rfl, rfl, SqL.of q3, hst, ?_⟩
    refine ⟨_, rfl, a, c, 3, rfl, w3, by decide, by decide, fun way H4 y0 y1 b4 w4 => ?_⟩
    refine ⟨small (by simp), fun l hl => ?_⟩
    have B4 : But a c H H4 := ((b2.trans (But.of (same_new hq))).trans b3).trans b4
    have lH : H l = none := B4.none w4 hl
    have ln := w4.ne hl
    refine ⟨_, rfl, (N : Int), rfl, by omega, by omega, for_range (lo := 0) (n := (N : Int).toNat) (fun i σ H5 => ∃ (u7 u8 u9 u10 : Option V) (zs : List Str), σ = [some (.ref a), some (.int (N : Int)), some (.str LS), some (.str z), some (.int st), some (.int way), some (.ref l), u7, u8, u9, u10] ∧ But a c H H5 ∧ WellAt H5 a c ∧ H5 l = some (.lst (zs.map V.str)) ∧ zs.length = i ∧ (∀ z ∈ zs, z.length ≤ 100) ∧ ∀ (j : Nat) (y : Str), zs[j]? = some y → Wd way (cc (j0 : Int) st j) (dd (j1 : Int) j) j y)
      ⟨_, _, _, _, [], rfl, (B4.trans (But.of (same_new hl))), w4.upd ln, upd_same, rfl, by simp, by simp⟩ ?_ ?_⟩
    · rintro i σ H5 hi ⟨u7, u8, u9, u10, zs, rfl, b5, w5, l5, zsl, zsb, zsw⟩
      have hi : i < N := by simpa using hi
      have m0 := Int.emod_nonneg ((j0 : Int) + st * (0 + (i : Int))) (show (26 : Int) ≠ 0 by decide)
      have m1 := Int.emod_lt_of_pos ((j0 : Int) + st * (0 + (i : Int))) (show (0 : Int) < 26 by decide)
      have s0 := Int.emod_nonneg ((j1 : Int) + (0 + (i : Int)) / 26) (show (26 : Int) ≠ 0 by decide)
      have s1 := Int.emod_lt_of_pos ((j1 : Int) + (0 + (i : Int)) / 26) (show (0 : Int) < 26 by decide)
      have bst : -(2 ^ 64) < st ∧ st < 2 ^ 64 := by rcases ist with rfl | rfl | rfl | rfl | rfl | rfl <;> omega
      refine ⟨_, rfl, _, rfl, rfl, _, rfl, z, 0, _, rfl, rfl, small (by omega), a0, LS, _, j0, r0, rfl, rfl, o0, _, rfl, _, rfl, _, _, rfl, rfl, .inl bst, _, _, rfl, rfl, _, _, rfl, rfl, (by show (0 : Int) < 26; decide), LS, _, _, rfl, rfl, small (by decide +kernel), LS_at m0 m1, ?_⟩
      refine ⟨_, rfl, _, rfl, rfl, _, rfl, z, 1, _, rfl, rfl, small (by omega), a1, LS, _, j1, r1, rfl, rfl, o1, _, rfl, _, _, rfl, rfl, ⟨by decide, by decide⟩, _, _, rfl, rfl, _, _, rfl, rfl, (by show (0 : Int) < 26; decide), LS, _, _, rfl, rfl, small (by decide +kernel), LS_at s0 s1, ?_⟩
      have edd : 97 + (((j1 : Int) + (0 + (i : Int)) / 26) % 26).toNat = dd (j1 : Int) i := rfl
      rw [edd]
      generalize hdd : dd (j1 : Int) i = d
      change TVarP _ _ _ _
      have ecc : 97 + (((j0 : Int) + st * (0 + (i : Int))) % 26).toNat = cc (j0 : Int) st i := rfl
      rw [ecc]
      generalize hcc : cc (j0 : Int) st i = e
      have fin : ∀ (y : Str), y.length ≤ 100 → Wd way e d i y → ∃ (u7 u8 u9 u10 : Option V) (zs' : List Str), [some (.ref a), some (.int (N : Int)), some (.str LS), some (.str z), some (.int st), some (.int way), some (.ref l), some (.int (0 + (i : Int))), some (.str ⟨#[e]⟩), some (.str ⟨#[d]⟩), some (.str y)] = [some (.ref a), some (.int (N : Int)), some (.str LS), some (.str z), some (.int st), some (.int way), some (.ref l), u7, u8, u9, u10] ∧ But a c H (upd H5 l (.lst (zs.map V.str ++ [.str y]))) ∧ WellAt (upd H5 l (.lst (zs.map V.str ++ [.str y]))) a c ∧ upd H5 l (.lst (zs.map V.str ++ [.str y])) l = some (.lst (zs'.map V.str)) ∧ zs'.length = i + 1 ∧ (∀ z ∈ zs', z.length ≤ 100) ∧ ∀ (j : Nat) (y : Str), zs'[j]? = some y → Wd way (cc (j0 : Int) st j) (dd (j1 : Int) j) j y := by
        intro y hy hW
        refine ⟨_, _, _, _, zs ++ [y], rfl, b5.set lH, w5.upd ln, by rw [upd_same, List.map_append]; rfl, by simp [zsl], fun x hx => ?_, fun j x hx => ?_⟩
        · rcases List.mem_append.mp hx with q | q
          · exact zsb x q
          · rw [List.mem_singleton.mp q]; exact hy
        · rw [List.getElem?_append] at hx
          split at hx
          · exact zsw j x hx
          · have hj : j = i := by
              have := (List.getElem?_eq_some_iff.mp hx).1
              simp at this; omega
            subst hj
            rw [show j - zs.length = 0 by omega] at hx
            have : y = x := by simpa using hx
            rw [← this, hcc, hdd]; exact hW
      have e1 : (⟨#[e]⟩ : Str).length = 1 := rfl
      have d1 : (⟨#[d]⟩ : Str).length = 1 := rfl
      have hsl : ∀ lo hi, (Txt.slice z lo hi).length ≤ 8 := fun lo hi => Nat.le_trans (Txt.slice_le z lo hi) (by omega)
      have hw3 : way = 0 ∨ way = 1 ∨ way = 2 := by omega
      by_cases c25 : (25 : Int) < 0 + (i : Int)
      · refine ⟨_, rfl, _, rfl, _, rfl, _, _, rfl, rfl, .inr ⟨_, rfl, _, _, rfl, rfl, .inr ⟨by rw [decide_eq_true c25]; rfl, _, _, rfl, rfl, small (by omega), ?_⟩⟩⟩
        rcases hw3 with rfl | rfl | rfl
        · refine ⟨_, rfl, rfl, _, rfl, ite2 (fun c => absurd c (by simp)) fun _ => ?_⟩
          dsimp only [tNext]
          refine ⟨_, rfl, rfl, _, rfl, ite2 (fun c => absurd c (by simp)) fun _ => ?_⟩
          dsimp only [tNext]
          exact ⟨_, rfl, .inl ⟨rfl, _, SqL.of l5⟩, _, rfl, l, _, _, rfl, rfl, l5, small1000 (by simp; omega), fin _ (by rw [cat_len]; omega) ⟨fun _ => by rw [cat_cps, if_pos (by omega)]; rfl, fun h => absurd h (by decide), fun h => absurd h (by decide)⟩⟩
        · refine ⟨_, rfl, rfl, _, rfl, ite2 (fun _ => ?_) fun c => absurd (by simp) c⟩
          have s8 := hsl (some 2) (some (2 + (0 + (i : Int)) % 7))
          refine ⟨_, rfl, _, rfl, _, _, rfl, rfl, small (by omega), _, rfl, _, rfl, _, rfl, _, _, rfl, rfl, (by show (0 : Int) < 7; decide), _, _, rfl, rfl, _, rfl, z, rfl, small (by omega), _, _, rfl, rfl, small (by rw [cat_len]; omega), ?_⟩
          refine ⟨_, rfl, rfl, _, rfl, ite2 (fun c => absurd c (by simp)) fun _ => ?_⟩
          dsimp only [tNext]
          exact ⟨_, rfl, .inl ⟨rfl, _, SqL.of l5⟩, _, rfl, l, _, _, rfl, rfl, l5, small1000 (by simp; omega), fin _ (by rw [cat_len, cat_len]; omega) ⟨fun h => absurd h (by decide), fun _ => ⟨_, by rw [cat_cps, cat_cps]; rfl⟩, fun h => absurd h (by decide)⟩⟩
        · refine ⟨_, rfl, rfl, _, rfl, ite2 (fun c => absurd c (by simp)) fun _ => ?_⟩
          dsimp only [tNext]
          refine ⟨_, rfl, rfl, _, rfl, ite2 (fun _ => ?_) fun c => absurd (by simp) c⟩
          have s8 := hsl (some 2) (some (8 - (0 + (i : Int)) % 3))
          refine ⟨_, rfl, _, rfl, _, rfl, _, _, rfl, rfl, (by show (0 : Int) < 3; decide), _, _, rfl, rfl, _, rfl, z, rfl, small (by omega), _, rfl, _, _, rfl, rfl, small (by omega), _, rfl, _, _, rfl, rfl, small (by rw [cat_len]; omega), ?_⟩
          exact ⟨_, rfl, .inl ⟨rfl, _, SqL.of l5⟩, _, rfl, l, _, _, rfl, rfl, l5, small1000 (by simp; omega), fin _ (by rw [cat_len, cat_len]; omega) ⟨fun h => absurd h (by decide), fun h => absurd h (by decide), fun _ => ⟨_, by rw [cat_cps, cat_cps, List.append_assoc]; rfl⟩⟩⟩
      · refine ⟨_, rfl, _, rfl, _, rfl, _, _, rfl, rfl, .inr ⟨_, rfl, _, _, rfl, rfl, .inl ⟨by rw [decide_eq_false c25]; rfl, _, _, rfl, rfl, small (by show 1 + 0 ≤ _; omega), ?_⟩⟩⟩
        rcases hw3 with rfl | rfl | rfl
        · refine ⟨_, rfl, rfl, _, rfl, ite2 (fun c => absurd c (by simp)) fun _ => ?_⟩
          dsimp only [tNext]
          refine ⟨_, rfl, rfl, _, rfl, ite2 (fun c => absurd c (by simp)) fun _ => ?_⟩
          dsimp only [tNext]
          exact ⟨_, rfl, .inl ⟨rfl, _, SqL.of l5⟩, _, rfl, l, _, _, rfl, rfl, l5, small1000 (by simp; omega), fin _ (by rw [cat_len]; show 1 + 0 ≤ 100; omega) ⟨fun _ => by rw [cat_cps, if_neg (by omega)]; rfl, fun h => absurd h (by decide), fun h => absurd h (by decide)⟩⟩
        · refine ⟨_, rfl, rfl, _, rfl, ite2 (fun _ => ?_) fun c => absurd (by simp) c⟩
          have s8 := hsl (some 2) (some (2 + (0 + (i : Int)) % 7))
          refine ⟨_, rfl, _, rfl, _, _, rfl, rfl, small (by omega), _, rfl, _, rfl, _, rfl, _, _, rfl, rfl, (by show (0 : Int) < 7; decide), _, _, rfl, rfl, _, rfl, z, rfl, small (by omega), _, _, rfl, rfl, small (by rw [cat_len]; omega), ?_⟩
          refine ⟨_, rfl, rfl, _, rfl, ite2 (fun c => absurd c (by simp)) fun _ => ?_⟩
          dsimp only [tNext]
          exact ⟨_, rfl, .inl ⟨rfl, _, SqL.of l5⟩, _, rfl, l, _, _, rfl, rfl, l5, small1000 (by simp; omega), fin _ (by rw [cat_len, cat_len]; omega) ⟨fun h => absurd h (by decide), fun _ => ⟨_, by rw [cat_cps, cat_cps]; rfl⟩, fun h => absurd h (by decide)⟩⟩
        · refine ⟨_, rfl, rfl, _, rfl, ite2 (fun c => absurd c (by simp)) fun _ => ?_⟩
          dsimp only [tNext]
          refine ⟨_, rfl, rfl, _, rfl, ite2 (fun _ => ?_) fun c => absurd (by simp) c⟩
          have s8 := hsl (some 2) (some (8 - (0 + (i : Int)) % 3))
          refine ⟨_, rfl, _, rfl, _, rfl, _, _, rfl, rfl, (by show (0 : Int) < 3; decide), _, _, rfl, rfl, _, rfl, z, rfl, small (by omega), _, rfl, _, _, rfl, rfl, small (by omega), _, rfl, _, _, rfl, rfl, small (by rw [cat_len]; omega), ?_⟩
          exact ⟨_, rfl, .inl ⟨rfl, _, SqL.of l5⟩, _, rfl, l, _, _, rfl, rfl, l5, small1000 (by simp; omega), fin _ (by rw [cat_len, cat_len]; omega) ⟨fun h => absurd h (by decide), fun h => absurd h (by decide), fun _ => ⟨_, by rw [cat_cps, cat_cps, List.append_assoc]; rfl⟩⟩⟩
    · rintro σ H5 ⟨u7, u8, u9, u10, zs, rfl, b5, w5, l5, zsl, zsb, zsw⟩
      exact ⟨_, rfl, k l zs H5 b5 w5 l5 ln.1 ln.2 (by simpa using zsl) (wd_nodup (by omega) ist (by rw [show zs.length = N by simpa using zsl]; exact hN) zsw)⟩
end
end K46
set_option maxHeartbeats 4000000
namespace K46
open PySem L2 Wk
section
variable {P : Program} {w : World} {K : PySem.W.Frag} {mg : Str → Option Value} {base : Heap}
theorem scWeight : FnScope ["_law_well_here", "_law_heavy"] ["_law_well_here", "_law_heavy"] (defScope sWeight) := ⟨rfl, rfl, rfl, by decide +kernel, rfl, by decide +kernel, by decide +kernel⟩
theorem ok_Weight {f : Addr} {fd : FuncData} (F : Fun K "_law_weight" "_law_weight" sWeight f fd) (T : Txt mg)
    {gDraw : Addr} {fDraw : FuncData} (kDraw : PySem.W.keepIn K (.ref gDraw) = true) (bDraw : Binds K fDraw ["_law_well_here", "_law_most"] []) (hDraw : mg "_law_draw" = some (.ref gDraw)) (GDraw : FnOk P w K mg base CX0 1 gDraw fDraw ["_law_well_here", "_law_most"] spDraw) :
    FnOk P w K mg base CX0 2 f fd ["_law_well_here", "_law_heavy"] spWeight := by
  refine F.ok scWeight (fun vs H Q E h => ?_) (fun cdv A outer s H vs Q E hr h => ?_)
  · obtain ⟨_, _, _, rfl, _⟩ := h; rfl
  · obtain ⟨a, c, hv, rfl, hw, k⟩ := h
    refine ⟨_, pss_cons (ps_if (pt_cmpR op_eq (pv 1) pe_int (nomark _)) (pss_one (ps_ret pe_int)) pss_nil)
      (pss_cons (ps_if (pt_cmpR op_eq (pv 1) pe_int (nomark _)) (pss_one (ps_ret (pe_call GDraw hr rfl hDraw kDraw bDraw .nil pass0 (pa_cons (pv 0) (pa_cons pe_int pa_nil))))) pss_nil)
      (pss_cons (ps_if (pt_cmpR op_eq (pv 1) pe_int (nomark _)) (pss_one (ps_ret (pe_ix ix_list (pe_lst (pa_cons pe_int (pa_cons (pe_op op_pow pe_int pe_int) (pa_cons (pe_op op_sub (pe_op op_pow pe_int pe_int) pe_int) (pa_cons pe_int pa_nil))))) (pe_call GDraw hr rfl hDraw kDraw bDraw .nil pass0 (pa_cons (pv 0) (pa_cons pe_int pa_nil))) (fun _ _ => rfl)))) pss_nil)
      (pss_one (ps_ret (pe_call GDraw hr rfl hDraw kDraw bDraw .nil pass0 (pa_cons (pv 0) (pa_cons (pe_op op_add (pe_op op_pow pe_int pe_int) pe_int) pa_nil))))))), ?_⟩
    refine ⟨_, rfl, rfl, _, rfl, ite2 (fun _ => k _ H But.refl hw (by decide)) fun _ => ?_⟩
    dsimp only [tNext]
    refine ⟨_, rfl, rfl, _, rfl, ite2 (fun _ => ?_) fun _ => ?_⟩
    · exact ⟨_, rfl, a, c, 3, rfl, hw, by decide, by decide, fun v H' _ v1 b' w' => k v H' b' w' (by omega)⟩
    dsimp only [tNext]
    refine ⟨_, rfl, rfl, _, rfl, ite2 (fun _ => ?_) fun _ => ?_⟩
    · refine ⟨_, _, rfl, rfl, ⟨by decide, by decide, by decide⟩, _, _, rfl, rfl, ⟨by decide, by decide, by decide⟩, _, _, rfl, rfl, small (by simp), fun q hq => ?_⟩
      refine ⟨_, rfl, a, c, 4, rfl, hw.upd (hw.ne hq), by decide, by decide, fun v H' v0 v1 b' w' => ?_⟩
      have q' := b' _ _ upd_same (hw.ne hq).1 (hw.ne hq).2
      have hx : ∃ x : Int, atI ([.int 0, .int (10 ^ (9 : Int).toNat), .int (10 ^ (9 : Int).toNat - 1), .int 1] : List V) v = some (.int x) ∧ x ≤ 1000000000 := by
        rcases (show v = 0 ∨ v = 1 ∨ v = 2 ∨ v = 3 by omega) with rfl | rfl | rfl | rfl
        · exact ⟨_, rfl, by decide⟩
        · exact ⟨_, rfl, by decide⟩
        · exact ⟨_, rfl, by decide⟩
        · exact ⟨_, rfl, by decide⟩
      obtain ⟨x, hx, xb⟩ := hx
      exact ⟨q, _, v, _, rfl, rfl, SqL.of q', hx, k _ _ ((But.of (same_new hq)).trans b') w' xb⟩
    dsimp only [tNext]
    have e9 : (10 : Int) ^ (9 : Int).toNat = 1000000000 := by decide
    exact ⟨_, rfl, _, _, rfl, rfl, ⟨by decide, by decide, by decide⟩, _, _, rfl, rfl, a, c, _, rfl, hw, by decide, by decide, fun v H' _ v1 b' w' => k v H' b' w' (by rw [e9] at v1; omega)⟩
theorem scPair : FnScope ["_law_well_here", "_law_shape", "_law_many", "_law_k", "_law_few", "_law_one"] ["_law_well_here", "_law_shape", "_law_many", "_law_k"] (defScope sPair) := ⟨rfl, rfl, rfl, by decide +kernel, rfl, by decide +kernel, by decide +kernel⟩
theorem ok_Pair {f : Addr} {fd : FuncData} (F : Fun K "_law_pair" "_law_pair" sPair f fd) (T : Txt mg)
    {gDraw : Addr} {fDraw : FuncData} (kDraw : PySem.W.keepIn K (.ref gDraw) = true) (bDraw : Binds K fDraw ["_law_well_here", "_law_most"] []) (hDraw : mg "_law_draw" = some (.ref gDraw)) (GDraw : FnOk P w K mg base CX0 1 gDraw fDraw ["_law_well_here", "_law_most"] spDraw) :
    FnOk P w K mg base CX0 2 f fd ["_law_well_here", "_law_shape", "_law_many", "_law_k"] spPair := by
  refine F.ok scPair (fun vs H Q E h => ?_) (fun cdv A outer s H vs Q E hr h => ?_)
  · obtain ⟨_, _, _, _, _, rfl, _⟩ := h; rfl
  · obtain ⟨a, c, sh, N, k, rfl, hw, h0, h4, N2, N24, kk⟩ := h
    refine ⟨_, pss_cons (ps_if (pt_cmpR op_eq (pv 1) pe_int (nomark _)) (pss_one (ps_ret (pe_tup (pa_cons (pe_op op_mod (pv 3) (pv 2)) (pa_cons (pe_op op_mod (pe_op op_add (pv 3) pe_int) (pv 2)) pa_nil))))) pss_nil)
      (pss_cons (ps_if (pt_cmpR op_eq (pv 1) pe_int (nomark _)) (pss_one (ps_ret (pe_tup (pa_cons (pe_op op_add pe_int (pe_op op_mod (pv 3) (pe_op op_sub (pv 2) pe_int))) (pa_cons pe_int pa_nil))))) pss_nil)
      (pss_cons (ps_set (i := 4) scPair.nd rfl (Or.inl rfl) (pe_ix ix_list (pe_lst (pa_cons (pv 2) (pa_cons (pv 2) (pa_cons (pv 2) (pa_cons (pe_callB (call_min2 rfl) (by rfl) T.min (by decide +kernel) (pa_cons (pv 2) (pa_cons pe_int pa_nil))) pa_nil))))) (pv 1) (fun _ _ => rfl)))
      (pss_cons (ps_set (i := 5) scPair.nd rfl (Or.inl rfl) (pe_call GDraw hr rfl hDraw kDraw bDraw .nil pass0 (pa_cons (pv 0) (pa_cons (pv 4) pa_nil))))
      (pss_one (ps_ret (pe_tup (pa_cons (pv 5) (pa_cons (pe_op op_mod (pe_op op_add (pe_op op_add (pv 5) pe_int) (pe_call GDraw hr rfl hDraw kDraw bDraw .nil pass0 (pa_cons (pv 0) (pa_cons (pe_op op_sub (pv 4) pe_int) pa_nil)))) (pv 4)) pa_nil)))))))), ?_⟩
    have mi : ∀ (x y : Nat), ((x : Int) % (y : Int)) = ((x % y : Nat) : Int) := fun x y => by simp
    refine ⟨_, rfl, rfl, _, rfl, ite2 (fun _ => ?_) fun g1 => ?_⟩
    · refine ⟨_, rfl, _, rfl, _, _, rfl, rfl, (by show (0 : Int) < N; omega), _, rfl, _, _, rfl, rfl, _, rfl, _, _, rfl, rfl, (by show (0 : Int) < N; omega), small (by simp), fun r hr' => ?_⟩
      have e1 := mi k N
      have e2 := mi (k + 1) N
      rw [show (((k + 1 : Nat) : Int)) = (k : Int) + 1 by omega] at e2
      refine kk (k % N) ((k + 1) % N) r _ (But.of (same_new hr')) (hw.upd (hw.ne hr')) (Nat.mod_lt _ (by omega)) (Nat.mod_lt _ (by omega)) ?_
      rw [upd_same, ← e1, ← e2]
    dsimp only [tNext]
    refine ⟨_, rfl, rfl, _, rfl, ite2 (fun _ => ?_) fun g2 => ?_⟩
    · refine ⟨_, rfl, _, rfl, _, _, rfl, rfl, _, _, rfl, rfl, (by show (0 : Int) < (N : Int) - 1; omega), _, _, rfl, rfl, small (by simp), fun r hr' => ?_⟩
      have e1 := mi k (N - 1)
      have l1 : k % (N - 1) < N - 1 := Nat.mod_lt _ (by omega)
      refine kk (1 + k % (N - 1)) 0 r _ (But.of (same_new hr')) (hw.upd (hw.ne hr')) (by omega) (by omega) ?_
      rw [upd_same]
      have e3 : ((1 + k % (N - 1) : Nat) : Int) = 1 + (k : Int) % ((N : Int) - 1) := by
        rw [show ((N : Int) - 1) = ((N - 1 : Nat) : Int) by omega, e1]; omega
      rw [e3]; rfl
    dsimp only [tNext]
    refine ⟨_, rfl, _, rfl, _, rfl, _, rfl, _, _, rfl, small (by simp), fun q hq => ?_⟩
    obtain ⟨HA, eA⟩ : ∃ HA : Hp, HA = upd H q (.lst [.int (N : Int), .int (N : Int), .int (N : Int), .int (if (3 : Int) < (N : Int) then 3 else (N : Int))]) := ⟨_, rfl⟩
    have qA : HA q = some (.lst [.int (N : Int), .int (N : Int), .int (N : Int), .int (if (3 : Int) < (N : Int) then 3 else (N : Int))]) := by rw [eA]; exact upd_same
    have wA : WellAt HA a c := by rw [eA]; exact hw.upd (hw.ne hq)
    have bA : But a c H HA := by rw [eA]; exact But.of (same_new hq)
    obtain ⟨fw, hf, f2, fN⟩ : ∃ fw : Nat, atI [V.int (N : Int), .int (N : Int), .int (N : Int), .int (if (3 : Int) < (N : Int) then 3 else (N : Int))] sh = some (.int (fw : Int)) ∧ 2 ≤ fw ∧ fw ≤ N := by
      rcases (show sh = 0 ∨ sh = 1 ∨ sh = 2 ∨ sh = 3 by omega) with rfl | rfl | rfl | rfl
      · exact ⟨N, rfl, N2, Nat.le_refl _⟩
      · exact ⟨N, rfl, N2, Nat.le_refl _⟩
      · exact ⟨N, rfl, N2, Nat.le_refl _⟩
      · by_cases z : (3 : Int) < (N : Int)
        · exact ⟨3, by rw [if_pos z]; rfl, by omega, by omega⟩
        · exact ⟨N, by rw [if_neg z]; rfl, N2, Nat.le_refl _⟩
    refine ⟨_, rfl, q, _, sh, _, rfl, rfl, SqL.of (by rw [eA] at qA; exact qA), hf, ?_⟩
    rw [← eA]
    refine ⟨_, rfl, _, rfl, a, c, (fw : Int), rfl, wA, by omega, by omega, fun p HB p0 p1 bB wB => ?_⟩
    obtain ⟨p, rfl⟩ := nat_of p0
    refine ⟨_, rfl, _, rfl, _, _, rfl, rfl, _, rfl, _, rfl, _, _, rfl, rfl, a, c, _, rfl, wB, by omega, by omega, fun y HC y0 y1 bC wC => ⟨_, _, rfl, rfl, _, rfl, _, _, rfl, rfl, (by show (0 : Int) < fw; omega), small (by simp), fun r hr' => ?_⟩⟩
    obtain ⟨y, rfl⟩ := nat_of y0
    have e2 := mi (p + 1 + y) fw
    rw [show (((p + 1 + y : Nat) : Int)) = (p : Int) + 1 + (y : Int) by omega] at e2
    have l2 : (p + 1 + y) % fw < fw := Nat.mod_lt _ (by omega)
    refine kk p ((p + 1 + y) % fw) r _ (((bA.trans bB).trans bC).trans (But.of (same_new hr'))) (wC.upd (wC.ne hr')) (by omega) (by omega) ?_
    rw [upd_same, ← e2]
end
end K46
set_option maxHeartbeats 2000000
namespace K46
open PySem L2 Wk
theorem rows_stand {H H' : Hp} {qs qs' : List Srt.Row} {S : List T4} {st : Addr} (hat : ∀ q ∈ qs, IsTie q.2 ∧ H q.1 = some (.tup (q.2.map kV))) (hS : (qs.map fun q => tieOf q.2).Perm S) (perm : qs'.Perm qs) (srt : qs'.Pairwise fun a b => Srt.ltR b.2 a.2 = false) (s : Same H H') (hst : H' st = some (.tup (qs'.map Srt.rRef))) :
    StandT H' st (qs'.map fun q => tieOf q.2) ∧ Srtd (qs'.map fun q => tieOf q.2) S := by
  have hk : ∀ q ∈ qs', keysOf (tieOf q.2) = q.2 := fun q hq => by
    obtain ⟨⟨t, e⟩, _⟩ := hat q (perm.mem_iff.mp hq)
    rw [e, tieOf_keys]
  refine ⟨⟨qs'.map (·.1), ?_, ?_⟩, (perm.map _).trans hS, ?_⟩
  · have : (qs'.map (·.1)).map V.ref = qs'.map Srt.rRef := by rw [List.map_map]; rfl
    rw [this]; exact hst
  · refine ⟨by simp, fun i a t ha ht => ?_⟩
    obtain ⟨q, hq, rfl⟩ := map_some ha
    rw [List.getElem?_map, hq] at ht
    cases ht
    obtain ⟨⟨t, e⟩, h9⟩ := hat q (perm.mem_iff.mp (List.mem_of_getElem? hq))
    show _ = some (HO.tup (tieV (tieOf q.2)))
    rw [e, tieOf_keys, ← keys_tieV, ← e]
    exact s _ _ h9
  · rw [List.pairwise_map]
    refine srt.imp_of_mem fun {a b} ha hb h => ?_
    rw [hk a ha, hk b hb]; exact h
theorem ties_snoc {H : Hp} {as : List Addr} {S : List T4} (h : TiesAt H as S) {r : Addr} {t : T4} (hr : H r = some (.tup (tieV t))) : TiesAt H (as ++ [r]) (S ++ [t]) := by
  refine ⟨by rw [List.length_append, List.length_append, h.1]; rfl, fun i r0 t0 e1 e2 => ?_⟩
  rw [List.getElem?_append] at e1 e2
  rw [h.1] at e1
  split at e1
  · rename_i z
    rw [if_pos z] at e2
    exact h.2 i r0 t0 e1 e2
  · rename_i z
    rw [if_neg z] at e2
    have hz : i - S.length = 0 := by
      have := (List.getElem?_eq_some_iff.mp e1).1
      simp only [List.length_cons, List.length_nil] at this
      omega
    rw [hz] at e1 e2
    cases e1
    cases e2
    exact hr
theorem ties_mono {H H' : Hp} {as : List Addr} {S : List T4} (h : TiesAt H as S) (f : ∀ r zs, H r = some (.tup zs) → H' r = some (.tup zs)) : TiesAt H' as S := ⟨h.1, fun i r t a b => f _ _ (h.2 i r t a b)⟩
def WIn (N : Nat) (S : List T4) : Prop := ∀ t ∈ S, (t.2.1 < N ∧ t.2.2.1 < N) ∧ t.2.2.2 ≤ 1000000000
structure StS (N : Nat) (S : List T4) : Prop where
  inn : InN N S
  nd : (S.map (·.1)).Nodup
  srt : NmS (S.map (·.1))
  len : S.length ≤ 60
theorem nms_of {S T : List T4} (h : Srtd S T) : NmS (S.map (·.1)) := by
  unfold NmS
  rw [List.pairwise_map]
  refine h.2.imp fun {a b} e => ?_
  unfold keysOf at e
  unfold Srt.ltR at e
  split at e
  · rename_i z; rw [z]; exact Srt.ltK_irr _
  · exact e
def spStand : Sp := fun vs H Q _ => ∃ (a c nm : Addr) (N : Nat) (zs : List Str), vs = [.ref a, .int (N : Int), .ref nm] ∧ WellAt H a c ∧ 1 ≤ N ∧ N ≤ 24 ∧ H nm = some (.lst (zs.map V.str)) ∧ nm ≠ a ∧ nm ≠ c ∧ zs.Nodup ∧ zs.length ≤ 60 ∧ ∀ st S H', But a c H H' → WellAt H' a c → StandT H' st S → StS N S → S.length ≤ zs.length → (∀ t ∈ S, t.2.2.2 ≤ 1000000000) → Q (.ref st) H'
theorem zip_rows {H : Hp} {as : List Addr} {S : List T4} (f : T4 → List Key) (hl : as.length = S.length) (h : ∀ (i : Nat) r t, as[i]? = some r → S[i]? = some t → H r = some (.tup ((f t).map kV))) :
    ((as.zip S).map fun q => ((q.1, f q.2) : Srt.Row)).map Srt.rRef = as.map V.ref ∧ (∀ q ∈ (as.zip S).map fun q => ((q.1, f q.2) : Srt.Row), (∃ t ∈ S, q.2 = f t) ∧ H q.1 = some (.tup (q.2.map kV))) ∧ (as.zip S).map Prod.snd = S := by
  refine ⟨?_, fun q hq => ?_, List.map_snd_zip (Nat.le_of_eq hl.symm)⟩
  · rw [List.map_map]
    have e : (as.zip S).map Prod.fst = as := List.map_fst_zip (Nat.le_of_eq hl)
    have : (Srt.rRef ∘ fun q : Addr × T4 => ((q.1, f q.2) : Srt.Row)) = V.ref ∘ Prod.fst := by funext q; rfl
    rw [this, ← List.map_map, e]
  · obtain ⟨p, hp, rfl⟩ := List.mem_map.mp hq
    obtain ⟨i, hi, e⟩ := List.mem_iff_getElem.mp hp
    rw [List.length_zip] at hi
    rw [List.getElem_zip] at e
    rw [← e]
    exact ⟨⟨_, List.getElem_mem (by omega), rfl⟩, h i _ _ (getq (by omega)) (getq (by omega))⟩
section
variable {P : Program} {w : World} {K : PySem.W.Frag} {mg : Str → Option Value} {base : Heap}
theorem scStand : FnScope ["_law_well_here", "_law_many", "_law_names_here", "_law_shape", "_law_heavy", "_law_ties", "_law_k", "_law_name", "_law_one", "_law_other"] ["_law_well_here", "_law_many", "_law_names_here"] (defScope sStand) := ⟨rfl, rfl, rfl, by decide +kernel, rfl, by decide +kernel, by decide +kernel⟩
theorem ok_Stand {f : Addr} {fd : FuncData} (F : Fun K "_law_stand" "_law_stand" sStand f fd) (T : Txt mg)
    {gDraw : Addr} {fDraw : FuncData} (kDraw : PySem.W.keepIn K (.ref gDraw) = true) (bDraw : Binds K fDraw ["_law_well_here", "_law_most"] []) (hDraw : mg "_law_draw" = some (.ref gDraw)) (GDraw : FnOk P w K mg base CX0 2 gDraw fDraw ["_law_well_here", "_law_most"] spDraw)
    {gPair : Addr} {fPair : FuncData} (kPair : PySem.W.keepIn K (.ref gPair) = true) (bPair : Binds K fPair ["_law_well_here", "_law_shape", "_law_many", "_law_k"] []) (hPair : mg "_law_pair" = some (.ref gPair)) (GPair : FnOk P w K mg base CX0 2 gPair fPair ["_law_well_here", "_law_shape", "_law_many", "_law_k"] spPair)
    {gWeight : Addr} {fWeight : FuncData} (kWeight : PySem.W.keepIn K (.ref gWeight) = true) (bWeight : Binds K fWeight ["_law_well_here", "_law_heavy"] []) (hWeight : mg "_law_weight" = some (.ref gWeight)) (GWeight : FnOk P w K mg base CX0 2 gWeight fWeight ["_law_well_here", "_law_heavy"] spWeight) :
    FnOk P w K mg base CX0 3 f fd ["_law_well_here", "_law_many", "_law_names_here"] spStand := by
  refine F.ok scStand (fun vs H Q E h => ?_) (fun cdv A outer s H vs Q E hr h => ?_)
  · obtain ⟨_, _, _, _, _, rfl, _⟩ := h; rfl
  · obtain ⟨a, c, nm, N, zs, rfl, hw, N1, N24, hn, nna, nnc, znd, zl, k⟩ := h
    refine ⟨_, pss_cons (ps_set (i := 3) scStand.nd rfl (Or.inl rfl) (pe_call GDraw hr rfl hDraw kDraw bDraw .nil pass0 (pa_cons (pv 0) (pa_cons pe_int pa_nil))))
      (pss_cons (ps_set (i := 4) scStand.nd rfl (Or.inl rfl) (pe_call GDraw hr rfl hDraw kDraw bDraw .nil pass0 (pa_cons (pv 0) (pa_cons pe_int pa_nil))))
      (pss_cons (ps_set (i := 5) scStand.nd rfl (Or.inl rfl) (pe_lst pa_nil))
      (pss_cons (ps_for PassesOwn.never rfl (pi_enumL rfl T.enumerate (pa_cons (pe_slice sl_list (pv 2) po_none (po_some (pe_op op_mul (pe_callB call_len_seq (by rfl) T.len PySem.boot_len (pa_cons (pv 2) pa_nil)) (pe_callTy call_int1 (by rfl) T.int (by decide +kernel) (pa_cons (pe_cmpR op_gt (pv 1) pe_int (nomark _)) pa_nil))))) pa_nil)) (pg_tup rfl (pgs_cons (pg_name (i := 6) scStand.nd rfl (Or.inl rfl)) (pgs_cons (pg_name (i := 7) scStand.nd rfl (Or.inl rfl)) pgs_nil))) (pss_cons (ps_asg (pe_call GPair hr rfl hPair kPair bPair .nil pass0 (pa_cons (pv 0) (pa_cons (pv 3) (pa_cons (pv 1) (pa_cons (pv 6) pa_nil))))) (pg_tup rfl (pgs_cons (pg_name (i := 8) scStand.nd rfl (Or.inl rfl)) (pgs_cons (pg_name (i := 9) scStand.nd rfl (Or.inl rfl)) pgs_nil))))
      (pss_one (ps_expr (pe_bm PySem.F.plainAttrs_list PySem.F.slot_list_append PySem.F.type_list_append mt_append (pv 5) (pa_cons (pe_tup (pa_cons (pv 7) (pa_cons (pv 8) (pa_cons (pv 9) (pa_cons (pe_call GWeight hr rfl hWeight kWeight bWeight .nil pass0 (pa_cons (pv 0) (pa_cons (pv 4) pa_nil))) pa_nil))))) pa_nil))))))
      (pss_one (ps_ret (pe_callTy call_tuple_of (by rfl) T.tuple (by decide +kernel) (pa_cons (pe_callB Srt.call_sortedT (by rfl) T.sorted (by decide +kernel) (pa_cons (pv 5) pa_nil)) pa_nil))))))), ?_⟩
    refine ⟨_, rfl, a, c, 4, rfl, hw, by decide, by decide, fun sh H1 sh0 sh1 b1 w1 => ?_⟩
    refine ⟨_, rfl, a, c, 4, rfl, w1, by decide, by decide, fun hv H2 _ _ b2 w2 => ?_⟩
    refine ⟨small (by simp), fun L hL => ?_⟩
    have B2 := b1.trans b2
    have n2 := B2 _ _ hn nna nnc
    have s3 := same_new (o := .lst []) hL
    have L3 := upd_same (H := H2) (a := L) (o := .lst [])
    have nL := w2.ne hL
    have w3 := w2.upd (o := .lst []) nL
    have hL0 : H L = none := B2.none w2 hL
    have n3 := s3 _ _ n2
    have B3 : But a c H (upd H2 L (.lst [])) := B2.trans (But.of s3)
    generalize upd H2 L (.lst []) = H3 at s3 L3 w3 n3 B3
    obtain ⟨C, hC, eC, C2⟩ : ∃ C : Nat, C ≤ zs.length ∧ ((zs.map V.str).length : Int) * (if decide ((1 : Int) < (N : Int)) = true then (1 : Int) else 0) = (C : Int) ∧ (0 < C → 2 ≤ N) := by
      by_cases g : (1 : Int) < (N : Int)
      · exact ⟨zs.length, Nat.le_refl _, by rw [decide_eq_true g]; simp, fun _ => by omega⟩
      · exact ⟨0, by omega, by rw [decide_eq_false g]; simp, fun h => absurd h (by omega)⟩
    have ecut : cutV (zs.map V.str) none (some (((zs.map V.str).length : Int) * (if decide ((1 : Int) < (N : Int)) = true then (1 : Int) else 0))) = (zs.take C).map V.str := by rw [eC, cutV_take (by simpa using hC), List.map_take]
    have ll : ((zs.map V.str).length : Int) ≤ 60 := by rw [List.length_map]; omega
    refine ⟨_, rfl, _, rfl, nm, _, rfl, .inl (SqL.of n3), _, rfl, _, _, rfl, rfl, .inr ⟨_, rfl, _, _, rfl, rfl, .inl ⟨by omega, by omega⟩, _, rfl, nm, _, rfl, SqL.of n3, fun q hq => ?_⟩⟩
    rw [ecut]
    have s4 := same_new (o := .lst ((zs.take C).map V.str)) hq
    have q4 := upd_same (H := H3) (a := q) (o := .lst ((zs.take C).map V.str))
    have nq := w3.ne hq
    have w4 := w3.upd (o := .lst ((zs.take C).map V.str)) nq
    have L4 := s4 _ _ L3
    have qL : q ≠ L := (ne_of_none L3 hq).symm
    have B4 : But a c H (upd H3 q (.lst ((zs.take C).map V.str))) := B3.trans (But.of s4)
    generalize upd H3 q (.lst ((zs.take C).map V.str)) = H4 at s4 q4 w4 L4 B4
    refine ⟨q, _, rfl, SqL.of q4, for_enum (K := K) (a := q) (xs := (zs.take C).map V.str) (fun i σ H5 => ∃ (u6 u7 u8 u9 : Option V) (as : List Addr) (S : List T4), σ = [some (.ref a), some (.int (N : Int)), some (.ref nm), some (.int sh), some (.int hv), some (.ref L), u6, u7, u8, u9] ∧ But a c H H5 ∧ WellAt H5 a c ∧ H5 q = some (.lst ((zs.take C).map V.str)) ∧ H5 L = some (.lst (as.map V.ref)) ∧ TiesAt H5 as S ∧ S.map (·.1) = zs.take i ∧ WIn N S) ⟨_, _, _, _, [], [], rfl, B4, w4, q4, L4, ⟨rfl, fun i r t e => by simp at e⟩, rfl, fun t ht => by cases ht⟩ (fun i σ H5 _ ⟨_, _, _, _, _, _, _, _, _, e, _⟩ => SqL.of e) ?_ ?_⟩
    · rintro i x σ H5 T0 hx ⟨u6, u7, u8, u9, as, S, rfl, b5, w5, q5, L5, t5, sn, inn⟩ hT
      obtain ⟨z, hz, rfl⟩ := map_some hx
      have hiC : i < C := by have := (List.getElem?_eq_some_iff.mp hz).1; rw [List.length_take] at this; omega
      rw [List.getElem?_take_of_lt hiC] at hz
      have N2 := C2 (by omega)
      have al : as.length ≤ 60 := by
        rw [t5.1, ← List.length_map (f := (·.1)), sn, List.length_take]; omega
      have s6 := same_new (o := .tup [.int (i : Int), .str z]) hT
      have T6 := upd_same (H := H5) (a := T0) (o := .tup [.int (i : Int), .str z])
      have w6 := w5.same s6
      generalize upd H5 T0 (.tup [.int (i : Int), .str z]) = H6 at s6 T6 w6
      refine ⟨T0, _, rfl, SqT.of T6, rfl, _, _, rfl, _, _, rfl, rfl, ?_⟩
      refine ⟨_, rfl, _, rfl, _, rfl, _, rfl, a, c, sh, N, i, rfl, w6, sh0, sh1, N2, N24, fun p p' r H7 b7 w7 pN qN er => ?_⟩
      refine ⟨r, _, rfl, SqT.of er, rfl, _, _, rfl, _, _, rfl, rfl, ?_⟩
      have q7 := b7 _ _ (s6 _ _ q5) nq.1 nq.2
      have L7 := b7 _ _ (s6 _ _ L5) nL.1 nL.2
      have t7 := ties_mono t5 fun r zs e => b7.tup w6 (s6 _ _ e)
      refine ⟨_, rfl, .inl ⟨rfl, _, SqL.of L7⟩, _, rfl, _, rfl, _, rfl, _, rfl, _, rfl, a, c, hv, rfl, w7, fun wv H8 b8 w8 wB => ⟨small (by simp), fun rt hrt => ?_⟩⟩
      have q8 := b8 _ _ q7 nq.1 nq.2
      have L8 := b8 _ _ L7 nL.1 nL.2
      have t8 := ties_mono t7 fun r zs e => b8.tup w7 e
      have s9 := same_new (o := .tup [.str z, .int (p : Int), .int (p' : Int), .int wv]) hrt
      have r9 : upd H8 rt (.tup [.str z, .int (p : Int), .int (p' : Int), .int wv]) rt = some (.tup (tieV (z, p, p', wv))) := upd_same
      have q9 := s9 _ _ q8
      have L9 := s9 _ _ L8
      have t9 := t8.same s9
      have w9 := w8.same s9
      have b9 : But a c H (upd H8 rt (.tup [.str z, .int (p : Int), .int (p' : Int), .int wv])) := ((b5.trans (But.of s6)).trans (b7.trans b8)).trans (But.of s9)
      generalize upd H8 rt (.tup [.str z, .int (p : Int), .int (p' : Int), .int wv]) = H9 at s9 r9 q9 L9 t9 w9 b9
      have kT : ∀ r zs', H9 r = some (.tup zs') → upd H9 L (.lst (as.map V.ref ++ [.ref rt])) r = some (.tup zs') := fun r zs' e => by rw [upd_ne (ne_of e L9 (by intro z; cases z))]; exact e
      refine ⟨L, _, _, rfl, rfl, L9, small1000 (by rw [List.length_map]; omega), _, _, _, _, as ++ [rt], S ++ [(z, p, p', wv)], rfl, b9.set hL0, w9.upd nL, by rw [upd_ne qL]; exact q9, by rw [upd_same, List.map_append]; rfl, ties_mono (ties_snoc t9 r9) kT, ?_, fun t ht => ?_⟩
      · rw [List.map_append, sn, List.take_add_one, hz]; rfl
      · rcases List.mem_append.mp ht with h | h
        · exact inn t h
        · rw [List.mem_singleton.mp h]; exact ⟨⟨pN, qN⟩, wB⟩
    · rintro σ H5 ⟨u6, u7, u8, u9, as, S, rfl, b5, w5, q5, L5, t5, sn, inn⟩
      have el : ((zs.take C).map V.str).length = C := by rw [List.length_map, List.length_take]; omega
      rw [el] at sn
      have Sl : S.length ≤ 60 := by rw [← List.length_map (f := (·.1)), sn, List.length_take]; omega
      obtain ⟨hz, hat, hsn⟩ := zip_rows keysOf t5.1 t5.2
      have hS : (((as.zip S).map fun q => ((q.1, keysOf q.2) : Srt.Row)).map (fun q => tieOf q.2)).Perm S := by
        rw [List.map_map]
        have : ((fun q : Srt.Row => tieOf q.2) ∘ fun q : Addr × T4 => ((q.1, keysOf q.2) : Srt.Row)) = Prod.snd := by funext q; exact tieOf_keys q.2
        rw [this, hsn]
      have hlz : ((as.zip S).map fun q => ((q.1, keysOf q.2) : Srt.Row)).length ≤ 60 := by rw [List.length_map, List.length_zip]; omega
      have hat' : ∀ q ∈ (as.zip S).map fun q => ((q.1, keysOf q.2) : Srt.Row), IsTie q.2 ∧ H5 q.1 = some (.tup (q.2.map kV)) := fun q hq => by
        obtain ⟨⟨t, _, e⟩, h⟩ := hat q hq
        exact ⟨⟨t, e⟩, h⟩
      generalize ((as.zip S).map fun q => ((q.1, keysOf q.2) : Srt.Row)) = qs at hz hat' hS hlz
      refine ⟨_, rfl, L, qs, rfl, SqL.of (by rw [hz]; exact L5), ⟨fun q hq => SqT.of (hat' q hq).2, fun q hq q' hq' => ?_, fun q hq => ?_, by omega⟩, fun l qs' hl' perm srt => ?_⟩
      · obtain ⟨⟨t, e⟩, _⟩ := hat' q hq
        obtain ⟨⟨t', e'⟩, _⟩ := hat' q' hq'
        rw [e, e']; rfl
      · obtain ⟨⟨t, e⟩, _⟩ := hat' q hq
        rw [e]; simp [keysOf]
      have sl := same_new (o := .lst (qs'.map Srt.rRef)) hl'
      have l10 := upd_same (H := H5) (a := l) (o := .lst (qs'.map Srt.rRef))
      generalize upd H5 l (.lst (qs'.map Srt.rRef)) = H6 at sl l10
      refine ⟨l, _, rfl, .inl ⟨SqL.of l10, fun st hst => ?_⟩⟩
      have ss := same_new (o := .tup (qs'.map Srt.rRef)) hst
      obtain ⟨x1, x2⟩ := rows_stand hat' hS perm srt (sl.trans ss) upd_same
      have xn := nms_of x2
      have xp := x2.1
      refine k st _ _ (b5.trans (But.of (sl.trans ss))) (w5.same (sl.trans ss)) x1 ⟨fun t ht => (inn t (xp.mem_iff.mp ht)).1, ?_, xn, by rw [xp.length_eq]; exact Sl⟩ (by rw [xp.length_eq, ← List.length_map (f := (·.1)), sn, List.length_take]; omega) (fun t ht => (inn t (xp.mem_iff.mp ht)).2)
      rw [(xp.map _).nodup_iff, sn]
      exact znd.sublist (List.take_sublist ..)
end
end K46
set_option maxHeartbeats 4000000
namespace K46
open PySem L2 Wk
def spLLab : Sp := fun vs H Q _ => ∃ (N : Nat) (st : Addr) (S : List T4), vs = [.int (N : Int), .ref st] ∧ StandT H st S ∧ InN N S ∧ N ≤ 60 ∧ ∀ (r l : Addr) (labs : List Nat) (b : Bool) (H' : Hp), Same H H' → H' r = some (.tup [.ref l, .bl b]) → H' l = some (.lst ((labs.map Int.ofNat).map V.int)) → LabOk N S labs → (b = true ↔ Bare [] S) → Q (.ref r) H'
def tLab : TS := fun D σ H => ∃ (st lb : Addr) (N p f0 : Nat) (G1 : List Nat) (b : Bool) (u4 u5 u6 u7 : Option V), σ = [some (.int (N : Int)), some (.ref st), some (.ref lb), some (.bl b), u4, u5, u6, u7, some (.int (p : Int)), some (.int (f0 : Int))] ∧ H lb = some (.lst ((G1.map Int.ofNat).map V.int)) ∧ G1.length ≤ 60 ∧
  ∀ l H', Same H H' → H' l = some (.lst (((Wk.relab G1 p f0).map Int.ofNat).map V.int)) → D.nx [some (.int (N : Int)), some (.ref st), some (.ref l), some (.bl b), u4, u5, u6, u7, some (.int (p : Int)), some (.int (f0 : Int))] H'
def spLAl : Sp := fun vs H Q _ => ∃ (a b : Addr) (la lb : List Nat), vs = [.ref a, .ref b] ∧ H a = some (.lst ((la.map Int.ofNat).map V.int)) ∧ H b = some (.lst ((lb.map Int.ofNat).map V.int)) ∧ la.length = lb.length ∧ la.length ≤ 60 ∧ ∀ (c : Bool) (H' : Hp), Same H H' → (c = true ↔ ∀ k j, k < la.length → j < k → (la.getD k 0 = la.getD j 0 ↔ lb.getD k 0 = lb.getD j 0)) → Q (.bl c) H'
section
variable {P : Program} {w : World} {K : PySem.W.Frag} {mg : Str → Option Value} {base : Heap}
theorem scLLab : FnScope ["_law_many", "_law_ties", "_law_labels_here", "_law_bare", "_law_name", "_law_one", "_law_other", "_law_weight_here", "_law_here", "_law_far"] ["_law_many", "_law_ties"] (defScope sLLab) := ⟨rfl, rfl, rfl, by decide +kernel, rfl, by decide +kernel, by decide +kernel⟩
theorem ok_LLab {f : Addr} {fd : FuncData} (F : Fun K "_law_labels" "_law_labels" sLLab f fd) (T : Txt mg) :
    FnOk P w K mg base CX0 1 f fd ["_law_many", "_law_ties"] spLLab := by
  refine F.ok scLLab (fun vs H Q E h => ?_) (fun cdv A outer s H vs Q E hr h => ?_)
  · obtain ⟨_, _, _, rfl, _⟩ := h; rfl
  · obtain ⟨N, st, S, rfl, ⟨rs, hst, hrs⟩, hN, N60, k⟩ := h
    refine ⟨_, pss_cons (ps_set (i := 2) scLLab.nd rfl (Or.inl rfl) (pe_callTy (call_list_rng rfl) (by rfl) T.list (by decide +kernel) (pa_cons (pe_callTy call_range1 (by rfl) T.range (by decide +kernel) (pa_cons (pv 0) pa_nil)) pa_nil)))
      (pss_cons (ps_set (i := 3) scLLab.nd rfl (Or.inl rfl) pe_bl)
      (pss_cons (ps_for PassesOwn.never rfl (pi_tup (pv 1)) (pg_tup rfl (pgs_cons (pg_name (i := 4) scLLab.nd rfl (Or.inl rfl)) (pgs_cons (pg_name (i := 5) scLLab.nd rfl (Or.inl rfl)) (pgs_cons (pg_name (i := 6) scLLab.nd rfl (Or.inl rfl)) (pgs_cons (pg_name (i := 7) scLLab.nd rfl (Or.inl rfl)) pgs_nil))))) (pss_cons (ps_set (i := 8) scLLab.nd rfl (Or.inr rfl) (pe_ix ix_list (pv 2) (pv 5) (fun _ _ => rfl)))
      (pss_cons (ps_set (i := 9) scLLab.nd rfl (Or.inr rfl) (pe_ix ix_list (pv 2) (pv 6) (fun _ _ => rfl)))
      (pss_cons (ps_set (i := 3) scLLab.nd rfl (Or.inl rfl) (pe_and (pv 3) (pe_one (pe_cmpR op_ne (pv 8) (pv 9) (nomark _)))))
      (PSs.imp' (t' := tLab) (pss_one (ps_comp (i := 2) (T := ["_law_label"]) (F := ["_law_here", "_law_far"]) (js := [8, 9]) scLLab.nd rfl (Or.inl rfl) (CS.to (osc := defScope sLLab) ⟨by rfl, by decide +kernel, by decide +kernel, by decide +kernel, by decide +kernel, by decide +kernel, by decide +kernel⟩ rfl rfl) rfl (pi_list (pv 2)) (fun _ _ _ _ _ => pg_name (i := 0) (show (["_law_label", "_law_here", "_law_far"] : List Str).Nodup by decide +kernel) rfl (Or.inl rfl)) (fun _ _ _ _ _ => pif_nil) (fun _ _ _ _ _ => pe_ix (r := rIxL K) ix_list (pe_lst (pa_cons (pv 0) (pa_cons (pv 1) pa_nil))) (pe_callTy call_int1 (by rfl) T.int (by decide +kernel) (pa_cons (pe_cmpR op_eq (pv 0) (pv 2) (nomark _)) pa_nil)) (fun _ _ => rfl)))) ?lab)))))
      (pss_one (ps_ret (pe_tup (pa_cons (pv 2) (pa_cons (pv 3) pa_nil))))))), ?_⟩
    case lab =>
      rintro D σ H ⟨st, lb, N, p, f0, G1, b, u4, u5, u6, u7, rfl, l9, Gl, k⟩
      refine ⟨_, rfl, lb, rfl, ⟨_, SqL.of l9⟩, fun D' hD' => comp_list (K := K) (a := lb) (xs := (G1.map Int.ofNat).map V.int) (fun j σ ys HA => ∃ (u : Option V), σ = [u, some (.int (p : Int)), some (.int (f0 : Int))] ∧ ys = (((Wk.relab G1 p f0).take j).map Int.ofNat).map V.int ∧ Same H HA ∧ HA D' = some (.lst ys)) ⟨none, rfl, rfl, same_new hD', upd_same⟩ (fun j σ ys HA _ ⟨_, _, _, e, e'⟩ => ⟨SqL.of (e _ _ l9), e'⟩) ?_ ?_⟩
      · rintro j x σ ys HA hx ⟨u, rfl, rfl, sA, dA⟩
        obtain ⟨z', hz', rfl⟩ := map_some hx
        obtain ⟨z, hzz, rfl⟩ := map_some hz'
        have hj : j < G1.length := (List.getElem?_eq_some_iff.mp hzz).1
        have tk2 : (Wk.relab G1 p f0).take (j + 1) = (Wk.relab G1 p f0).take j ++ [if z = f0 then p else z] := by
          rw [List.take_add_one]
          congr 1
          show (G1.map _)[j]?.toList = _
          rw [List.getElem?_map, hzz]; rfl
        have lt : (((Wk.relab G1 p f0).take j).map Int.ofNat).length ≤ 100 := by rw [List.length_map, List.length_take]; omega
        refine ⟨_, rfl, _, rfl, small (by simp), fun w hw => ?_⟩
        have sw := same_new (o := .lst [.int (Int.ofNat z), .int (p : Int)]) hw
        have w1 := upd_same (H := HA) (a := w) (o := .lst [.int (Int.ofNat z), .int (p : Int)])
        have dB := sw _ _ dA
        generalize upd HA w (.lst [.int (Int.ofNat z), .int (p : Int)]) = HB at sw w1 dB
        refine ⟨_, rfl, _, rfl, rfl, .inr ⟨_, rfl, ?_⟩⟩
        have an : atI [V.int (Int.ofNat z), .int (p : Int)] (if decide (V.int (Int.ofNat z) = V.int (f0 : Int)) = true then 1 else 0) = some (.int (Int.ofNat (if z = f0 then p else z))) := by
          by_cases gz : z = f0
          · rw [if_pos gz, decide_eq_true (by rw [gz]; rfl)]; rfl
          · rw [if_neg gz, decide_eq_false (fun e => gz (by injection e with e; have : (z : Int) = f0 := e; omega))]; rfl
        exact ⟨w, _, _, _, rfl, rfl, SqL.of w1, an, dB, small1000 (by rw [List.length_map]; omega), _, rfl, by rw [tk2, List.map_append, List.map_append]; rfl, same_set (sA.trans sw) hD', upd_same⟩
      · rintro σ ys HA ⟨u, rfl, rfl, sA, dA⟩
        have lt : (Wk.relab G1 p f0).take ((G1.map Int.ofNat).map V.int).length = Wk.relab G1 p f0 := List.take_of_length_le (by unfold Wk.relab; simp)
        rw [lt] at dA
        exact k D' HA sA dA
    refine ⟨_, rfl, (N : Int), rfl, fun q hq => ⟨q, 0, (N : Int), rfl, upd_same, ⟨by omega, by omega, by omega, by omega⟩, by omega, fun la hla => ?_⟩⟩
    rw [rints_nat]
    have s1 := (same_new (H := H) (o := .rng 0 (N : Int)) hq).trans (same_new (o := .lst (((List.range N).map Int.ofNat).map V.int)) hla)
    have l1 := upd_same (H := upd H q (.rng 0 (N : Int))) (a := la) (o := .lst (((List.range N).map Int.ofNat).map V.int))
    generalize upd (upd H q (.rng 0 (N : Int))) la (.lst (((List.range N).map Int.ofNat).map V.int)) = H1 at s1 l1
    refine ⟨_, rfl, st, rfl, ⟨_, SqT.of (s1 _ _ hst)⟩, for_tup (K := K) (a := st) (xs := rs.map V.ref) (fun i σ H5 => ∃ (lb : Addr) (labs : List Nat) (b : Bool) (u4 u5 u6 u7 u8 u9 : Option V), σ = [some (.int (N : Int)), some (.ref st), some (.ref lb), some (.bl b), u4, u5, u6, u7, u8, u9] ∧ Same H H5 ∧ H5 lb = some (.lst ((labs.map Int.ofNat).map V.int)) ∧ LabOk N (S.take i) labs ∧ (b = true ↔ Bare [] (S.take i))) ⟨la, List.range N, true, _, _, _, _, _, _, rfl, s1, l1, lab0 N, fun _ => trivial, fun _ => rfl⟩ (fun i σ H5 _ ⟨_, _, _, _, _, _, _, _, _, _, e, _⟩ => SqT.of (e _ _ hst)) ?_ ?_⟩
    · rintro i x σ H5 hx ⟨lb, G1, b, u4, u5, u6, u7, u8, u9, rfl, s5, l5, lab, hb⟩
      obtain ⟨r, hr', rfl⟩ := map_some hx
      obtain ⟨t, ht, er⟩ := hrs.get hr'
      have tN := hN t (List.mem_of_getElem? ht)
      have gl := lab.len
      have a1 := ints_at (l := G1) (v := t.2.1) (by omega)
      have a2 := ints_at (l := G1) (v := t.2.2.1) (by omega)
      have tk : S.take (i + 1) = S.take i ++ [t] := by rw [List.take_add_one, ht]; rfl
      have hP : InN N (S.take i) := fun x hx => hN x (List.mem_of_mem_take hx)
      have lab' := lab_step lab hP tN.1 tN.2
      have key := lab.iff _ _ tN.1 tN.2
      refine ⟨r, _, rfl, SqT.of (s5 _ _ er), rfl, _, _, rfl, _, _, rfl, _, _, rfl, _, _, rfl, rfl, ?_⟩
      refine ⟨_, rfl, _, rfl, lb, _, _, _, rfl, rfl, SqL.of l5, a1, ?_⟩
      refine ⟨_, rfl, _, rfl, lb, _, _, _, rfl, rfl, SqL.of l5, a2, ?_⟩
      have nxt : ∀ (D : Ends) (b' : Bool), (b' = true ↔ Bare [] (S.take (i + 1))) → (∀ σ H', (∃ (lb : Addr) (labs : List Nat) (b : Bool) (u4 u5 u6 u7 u8 u9 : Option V), σ = [some (.int (N : Int)), some (.ref st), some (.ref lb), some (.bl b), u4, u5, u6, u7, u8, u9] ∧ Same H H' ∧ H' lb = some (.lst ((labs.map Int.ofNat).map V.int)) ∧ LabOk N (S.take (i + 1)) labs ∧ (b = true ↔ Bare [] (S.take (i + 1)))) → D.nx σ H') →
          tLab D [some (.int (N : Int)), some (.ref st), some (.ref lb), some (.bl b'), some (.str t.1), some (.int (t.2.1 : Int)), some (.int (t.2.2.1 : Int)), some (.int t.2.2.2), some (.int ((G1.getD t.2.1 0 : Nat) : Int)), some (.int ((G1.getD t.2.2.1 0 : Nat) : Int))] H5 := fun D b' hb' hD => ⟨st, lb, N, _, _, G1, b', _, _, _, _, rfl, l5, by omega, fun l H' s' e' => hD _ H' ⟨l, _, b', _, _, _, _, _, _, rfl, s5.trans s', e', by rw [tk]; exact lab', hb'⟩⟩
      have hbs : Bare [] (S.take (i + 1)) ↔ Bare [] (S.take i) ∧ ¬ G1.getD t.2.1 0 = G1.getD t.2.2.1 0 := by rw [tk, bare_snoc, List.nil_append, key]
      refine ⟨_, rfl, b, rfl, ?_⟩
      cases b with
      | true =>
        refine iteT ⟨_, rfl, _, rfl, rfl, ?_⟩
        refine nxt _ _ ?_ fun σ H' h => h
        rw [hbs, ← hb]
        by_cases g : G1.getD t.2.1 0 = G1.getD t.2.2.1 0
        · rw [g, decide_eq_true rfl]; simp
        · rw [decide_eq_false (fun e => g (by injection e with e; omega))]; simpa using g
      | false =>
        refine iteF ?_
        refine nxt _ _ ?_ fun σ H' h => h
        rw [hbs, ← hb]; simp
    · rintro σ H5 ⟨lb, labs, b, u4, u5, u6, u7, u8, u9, rfl, s5, l5, lab, hb⟩
      rw [List.length_map, hrs.1, List.take_length] at lab hb
      exact ⟨_, rfl, _, rfl, small (by simp), fun r hr' => k r lb labs b _ (s5.trans (same_new hr')) upd_same (same_new hr' _ _ l5) lab hb⟩
theorem scLAl : FnScope ["_law_one", "_law_other", "_law_k", "_law_j"] ["_law_one", "_law_other"] (defScope sLAl) := ⟨rfl, rfl, rfl, by decide +kernel, rfl, by decide +kernel, by decide +kernel⟩
theorem ok_LAl {f : Addr} {fd : FuncData} (F : Fun K "_law_alike" "_law_alike" sLAl f fd) (T : Txt mg) :
    FnOk P w K mg base CX0 1 f fd ["_law_one", "_law_other"] spLAl := by
  refine F.ok scLAl (fun vs H Q E h => ?_) (fun cdv A outer s H vs Q E hr h => ?_)
  · obtain ⟨_, _, _, _, rfl, _⟩ := h; rfl
  · obtain ⟨a, b, la, lb, rfl, ha, hb, hl, l60, k⟩ := h
    refine ⟨_, pss_cons (ps_for PassesOwn.never rfl (pi_range1 rfl T.range (pa_cons (pe_callB call_len_seq (by rfl) T.len PySem.boot_len (pa_cons (pv 0) pa_nil)) pa_nil)) (pg_name (i := 2) scLAl.nd rfl (Or.inl rfl)) (pss_one (ps_for PassesOwn.never rfl (pi_range1 rfl T.range (pa_cons (pv 2) pa_nil)) (pg_name (i := 3) scLAl.nd rfl (Or.inl rfl)) (pss_one (ps_if (pt_cmpR op_ne (pe_cmpR op_eq (pe_ix ix_list (pv 0) (pv 2) (fun _ _ => rfl)) (pe_ix ix_list (pv 0) (pv 3) (fun _ _ => rfl)) (nomark _)) (pe_cmpR op_eq (pe_ix ix_list (pv 1) (pv 2) (fun _ _ => rfl)) (pe_ix ix_list (pv 1) (pv 3) (fun _ _ => rfl)) (nomark _)) (nomark _)) (pss_one (ps_ret pe_bl)) pss_nil)))))
      (pss_one (ps_ret pe_bl)), ?_⟩
    have ll : ((((la.map Int.ofNat).map V.int).length : Nat) : Int) = la.length := by rw [List.length_map, List.length_map]
    refine ⟨_, rfl, a, _, rfl, .inl (SqL.of ha), _, rfl, by rw [ll]; omega, by rw [ll]; omega, ?_⟩
    rw [ll]
    refine for_range (lo := 0) (n := (la.length : Int).toNat) (fun i σ H5 => ∃ (u2 u3 : Option V), σ = [some (.ref a), some (.ref b), u2, u3] ∧ Same H H5 ∧ ∀ k j, k < i → j < k → (la.getD k 0 = la.getD j 0 ↔ lb.getD k 0 = lb.getD j 0)) ⟨_, _, rfl, same_refl H, fun k j h => absurd h (by omega)⟩ ?_ ?_
    · rintro i σ H5 hi ⟨u2, u3, rfl, s5, I⟩
      have hi : i < la.length := by simpa using hi
      refine ⟨_, rfl, (0 + (i : Int)), rfl, by omega, by omega, ?_⟩
      rw [show (0 + (i : Int)).toNat = i by omega]
      refine for_range (lo := 0) (n := i) (fun j σ H6 => ∃ (u3 : Option V), σ = [some (.ref a), some (.ref b), some (.int (0 + (i : Int))), u3] ∧ Same H H6 ∧ ∀ j', j' < j → (la.getD i 0 = la.getD j' 0 ↔ lb.getD i 0 = lb.getD j' 0)) ⟨_, rfl, s5, fun j' h => absurd h (by omega)⟩ ?_ ?_
      · rintro j σ H6 hj ⟨u3, rfl, s6, J⟩
        have a1 := ints_at (l := la) (v := i) hi
        have a2 := ints_at (l := la) (v := j) (by omega)
        have b1 := ints_at (l := lb) (v := i) (by omega)
        have b2 := ints_at (l := lb) (v := j) (by omega)
        rw [show ((i : Nat) : Int) = 0 + (i : Int) by omega] at a1 b1
        rw [show ((j : Nat) : Int) = 0 + (j : Int) by omega] at a2 b2
        refine ⟨_, rfl, _, rfl, a, _, _, _, rfl, rfl, SqL.of (s6 _ _ ha), a1, _, rfl, _, rfl, a, _, _, _, rfl, rfl, SqL.of (s6 _ _ ha), a2, rfl, _, rfl, _, rfl, b, _, _, _, rfl, rfl, SqL.of (s6 _ _ hb), b1, _, rfl, _, rfl, b, _, _, _, rfl, rfl, SqL.of (s6 _ _ hb), b2, rfl, rfl, _, rfl, ?_⟩
        have iv : ∀ x y : Nat, decide (V.int (x : Int) = V.int (y : Int)) = decide (x = y) := fun x y => by
          rw [Bool.eq_iff_iff, decide_eq_true_eq, decide_eq_true_eq]
          exact ⟨fun h => by injection h with h; omega, fun h => by rw [h]⟩
        rw [iv, iv]
        by_cases g : (la.getD i 0 = la.getD j 0 ↔ lb.getD i 0 = lb.getD j 0)
        · have e : (!decide (V.bl (decide (la.getD i 0 = la.getD j 0)) = V.bl (decide (lb.getD i 0 = lb.getD j 0)))) = false := by
            rw [show decide (la.getD i 0 = la.getD j 0) = decide (lb.getD i 0 = lb.getD j 0) from decide_eq_decide.mpr g]; simp
          rw [e]
          refine iteF ?_
          refine ⟨_, rfl, s6, fun j' hj' => ?_⟩
          by_cases e : j' = j
          · rw [e]; exact g
          · exact J j' (by omega)
        · have e : (!decide (V.bl (decide (la.getD i 0 = la.getD j 0)) = V.bl (decide (lb.getD i 0 = lb.getD j 0)))) = true := by
            rw [decide_eq_false (fun h => g (by injection h with h; exact decide_eq_decide.mp h))]; rfl
          rw [e]
          refine iteT ?_
          refine k false H6 s6 ⟨fun h => absurd h (by decide), fun h => absurd (h i j hi (by omega)) g⟩
      · rintro σ H6 ⟨u3, rfl, s6, J⟩
        refine ⟨_, _, rfl, s6, fun k j hk hj => ?_⟩
        by_cases e : k = i
        · rw [e]; exact J j (by omega)
        · exact I k j (by omega) hj
    · rintro σ H5 ⟨u2, u3, rfl, s5, I⟩
      rw [show (la.length : Int).toNat = la.length by omega] at I
      exact k true H5 s5 ⟨fun _ => I, fun _ => rfl⟩
end
end K46
set_option maxHeartbeats 8000000
namespace K46
open PySem L2 Wk
theorem sum_perm {l l' : List Int} (p : l.Perm l') : l.sum = l'.sum := by
  induction p with
  | nil => rfl
  | cons x _ ih => simp [ih]
  | swap x y l => simp; omega
  | trans _ _ a b => exact a.trans b
def SetsAt (H : Hp) (ls : List Addr) (L : List (List T4)) : Prop := ls.length = L.length ∧ ∀ (i : Nat) l A, ls[i]? = some l → L[i]? = some A → StandT H l A
theorem SetsAt.same {H H' : Hp} {ls : List Addr} {L : List (List T4)} (h : SetsAt H ls L) (s : Same H H') : SetsAt H' ls L := ⟨h.1, fun i l A a b => (h.2 i l A a b).same s⟩
theorem SetsAt.mono {H H' : Hp} {ls : List Addr} {L : List (List T4)} (h : SetsAt H ls L) (f : ∀ r zs, H r = some (.tup zs) → H' r = some (.tup zs)) : SetsAt H' ls L := ⟨h.1, fun i l A a b => (h.2 i l A a b).mono f⟩
theorem snoc_at {α : Type} {l : List α} {x y : α} {j : Nat} (h : (l ++ [x])[j]? = some y) : l[j]? = some y ∨ (j = l.length ∧ y = x) := by
  rw [List.getElem?_append] at h
  split at h
  · exact .inl h
  · rename_i z
    have hz : j - l.length = 0 := by
      have := (List.getElem?_eq_some_iff.mp h).1
      simp only [List.length_cons, List.length_nil] at this
      omega
    rw [hz] at h
    exact .inr ⟨by omega, (Option.some.inj h).symm⟩
theorem sets_push {H : Hp} {ls : List Addr} {L : List (List T4)} (h : SetsAt H ls L) {l : Addr} {A : List T4} (g : StandT H l A) : SetsAt H (ls ++ [l]) (L ++ [A]) := by
  refine ⟨by rw [List.length_append, List.length_append, h.1]; rfl, fun i l' A' e1 e2 => ?_⟩
  rcases snoc_at e1 with z1 | ⟨z1, rfl⟩
  · rcases snoc_at e2 with z2 | ⟨z2, _⟩
    · exact h.2 i l' A' z1 z2
    · have := (List.getElem?_eq_some_iff.mp z1).1; rw [h.1] at this; omega
  · rcases snoc_at e2 with z2 | ⟨_, rfl⟩
    · have := (List.getElem?_eq_some_iff.mp z2).1; rw [← h.1] at this; omega
    · exact g
theorem sets_app {H : Hp} {ls ms : List Addr} {L M : List (List T4)} (h : SetsAt H ls L) (g : SetsAt H ms M) : SetsAt H (ls ++ ms) (L ++ M) := by
  refine ⟨by rw [List.length_append, List.length_append, h.1, g.1], fun i r t a b => ?_⟩
  rw [List.getElem?_append] at a b
  rw [h.1] at a
  split at a
  · rename_i z
    rw [if_pos z] at b
    exact h.2 i r t a b
  · rename_i z
    rw [if_neg z] at b
    exact g.2 _ r t a b
def RksAt (H : Hp) (ps : List Addr) (cs : List T4) : Prop := ps.length = cs.length ∧ ∀ (i : Nat) p c, ps[i]? = some p → cs[i]? = some c → H p = some (.tup (HT.rwV (rowR c)))
theorem RksAt.same {H H' : Hp} {ps : List Addr} {cs : List T4} (h : RksAt H ps cs) (s : Same H H') : RksAt H' ps cs := ⟨h.1, fun i p c a b => s _ _ (h.2 i p c a b)⟩
theorem rks_rows {K : PySem.W.Frag} {H : Hp} {ps : List Addr} {cs : List T4} (h : RksAt H ps cs) : RowsL K H ps (cs.map rowR) := ⟨by rw [List.length_map]; exact h.1, fun i p r e1 e2 => by
  obtain ⟨c, hc, rfl⟩ := map_some e2
  exact SqT.of (h.2 i p c e1 hc)⟩
theorem sort_ranks {K : PySem.W.Frag} {H : Hp} {as : List Addr} {C : List T4} (nd : (C.map (·.1)).Nodup) (h : RksAt H as C) (Cl : C.length ≤ 60) : ∃ qs : List Srt.Row, qs.map Srt.rRef = as.map V.ref ∧ Srt.RowsOk K H qs ∧
    ∀ qs' : List Srt.Row, qs'.Perm qs → qs'.Pairwise (fun a b => Srt.ltR b.2 a.2 = false) → ∃ cs : List T4, cs.Perm C ∧ Asc cs ∧ RksAt H (qs'.map (·.1)) cs := by
  obtain ⟨hz, hat, hsn⟩ := zip_rows rk h.1 h.2
  obtain ⟨qs, hqs⟩ : ∃ qs, qs = (as.zip C).map fun q => ((q.1, rk q.2) : Srt.Row) := ⟨_, rfl⟩
  rw [← hqs] at hz hat
  have ql : qs.length ≤ 60 := by rw [hqs, List.length_map, List.length_zip]; omega
  obtain ⟨g, hg⟩ : ∃ g : Srt.Row → T4, g = fun q => (C.find? fun t => decide (rk t = q.2)).getD default := ⟨_, rfl⟩
  have gt : ∀ (q : Srt.Row) t, t ∈ C → q.2 = rk t → g q = t := fun q t ht e => by
    rw [hg]
    show (C.find? fun t => decide (rk t = q.2)).getD default = t
    cases f : C.find? fun t => decide (rk t = q.2) with
    | none =>
      have := List.find?_eq_none.mp f t ht
      rw [e] at this; simp at this
    | some u =>
      have hu := List.mem_of_find?_eq_some f
      have hr : rk u = q.2 := by simpa using List.find?_some f
      rw [e] at hr
      unfold rk at hr
      injection hr with _ hr
      injection hr with hr _
      injection hr with hr
      exact name_inj nd hu ht hr
  have gC : qs.map g = C := by
    have : (as.zip C).map (g ∘ fun q : Addr × T4 => ((q.1, rk q.2) : Srt.Row)) = (as.zip C).map Prod.snd := List.map_congr_left fun q hq => gt _ q.2 (List.of_mem_zip hq).2 rfl
    rw [hqs, List.map_map, this, hsn]
  refine ⟨qs, hz, ⟨fun q hq => SqT.of (hat q hq).2, fun q hq q' hq' => ?_, fun q hq => ?_, by omega⟩, fun qs' perm srt => ?_⟩
  · obtain ⟨⟨t, _, e⟩, _⟩ := hat q hq
    obtain ⟨⟨t', _, e'⟩, _⟩ := hat q' hq'
    rw [e, e']; rfl
  · obtain ⟨⟨t, _, e⟩, _⟩ := hat q hq
    rw [e]; simp [rk]
  · have pC : (qs'.map g).Perm C := by rw [← gC]; exact perm.map g
    have nd' : ((qs'.map g).map (·.1)).Nodup := (pC.map _).nodup_iff.mpr nd
    refine ⟨qs'.map g, pC, ?_, by rw [List.length_map, List.length_map], fun i p c e1 e2 => ?_⟩
    · unfold Asc
      rw [List.pairwise_map]
      have h2 : qs'.Pairwise fun a b => (g a).1 ≠ (g b).1 := by
        unfold List.Nodup at nd'
        rw [List.pairwise_map, List.pairwise_map] at nd'
        exact nd'
      refine (srt.and h2).imp_of_mem fun {x y} hx hy hxy => ?_
      obtain ⟨⟨tx, mx, ex⟩, _⟩ := hat x (perm.mem_iff.mp hx)
      obtain ⟨⟨ty, my, ey⟩, _⟩ := hat y (perm.mem_iff.mp hy)
      obtain ⟨s1, s2⟩ := hxy
      rw [gt x tx mx ex, gt y ty my ey] at s2
      rw [gt x tx mx ex, gt y ty my ey]
      rw [ex, ey, ← ah_rk] at s1
      exact ah_tri (Ne.symm s2) s1
    · obtain ⟨q, hq, rfl⟩ := map_some e1
      rw [List.getElem?_map, hq] at e2
      obtain ⟨⟨t, mt, et⟩, he⟩ := hat q (perm.mem_iff.mp (List.mem_of_getElem? hq))
      have : c = t := by rw [← Option.some.inj e2]; exact gt q t mt et
      rw [this]
      rw [et] at he; exact he
def BestOk (N : Nat) (S : List T4) (H : Hp) (bv : V) (dn : List (List T4)) : Prop := (bv = .non ∧ ∀ C ∈ dn, ¬ Cand N S C) ∨ ∃ (b l : Addr) (ps : List Addr) (cs C : List T4), bv = .ref b ∧ Cand N S C ∧ cs.Perm C ∧ Asc cs ∧ H b = some (.tup [.int (sumW cs), .ref l]) ∧ H l = some (.lst (ps.map V.ref)) ∧ RksAt H ps cs ∧ (foF N S ∈ dn → cs.Perm (foF N S))
theorem BestOk.same {N : Nat} {S : List T4} {H H' : Hp} {bv : V} {dn : List (List T4)} (h : BestOk N S H bv dn) (s : Same H H') : BestOk N S H' bv dn := h.imp id fun ⟨b, l, ps, cs, C, a1, a2, a3, a4, a5, a6, a7, a8⟩ => ⟨b, l, ps, cs, C, a1, a2, a3, a4, s _ _ a5, s _ _ a6, a7.same s, a8⟩
theorem cand_iff {N : Nat} {S C : List T4} (hS : InN N S) (nd : (S.map (·.1)).Nodup) (sub : C.Sublist S) {lc ls : List Nat} (h1 : LabOk N C lc) (h2 : LabOk N S ls) : (Bare [] C ∧ ∀ k j, k < lc.length → j < k → (lc.getD k 0 = lc.getD j 0 ↔ ls.getD k 0 = ls.getD j 0)) ↔ Cand N S C := by
  have ndC : (C.map (·.1)).Nodup := nd.sublist (sub.map _)
  constructor
  · rintro ⟨b, al⟩
    refine ⟨fun u hu => sub.subset hu, ndC, ?_, fun x y hx hy => ?_⟩
    · have := bare_fst C [] (by simpa using ndC) (fun x hx => by cases hx) b
      simpa using this
    · rcases Nat.lt_trichotomy x y with z | z | z
      · have := al y x (by rw [h1.len]; exact hy) z
        rw [h1.iff _ _ hy hx, h2.iff _ _ hy hx] at this
        exact ⟨fun r => (this.mp r.symm).symm, fun r => (this.mpr r.symm).symm⟩
      · subst z; exact ⟨fun _ => .refl, fun _ => .refl⟩
      · have := al x y (by rw [h1.len]; exact hx) z
        rw [h1.iff _ _ hx hy, h2.iff _ _ hx hy] at this
        exact this
  · intro h
    refine ⟨fst_bare h.fo C [] (fun u hu => hu) (by simpa using ndC), fun k j hk hj => ?_⟩
    rw [h1.len] at hk
    rw [h1.iff _ _ hk (by omega), h2.iff _ _ hk (by omega)]
    exact h.al k j hk (by omega)
def spBest : Sp := fun vs H Q _ => ∃ (N : Nat) (st : Addr) (S : List T4), vs = [.int (N : Int), .ref st] ∧ StandT H st S ∧ StS N S ∧ N ≤ 60 ∧ S.length ≤ 7 ∧ ∀ r H', Same H H' → H' r = some (.tup ((lightF N S).map V.str)) → Q (.ref r) H'
theorem fo_len {N : Nat} {S : List T4} : (foF N S).length ≤ S.length := List.length_filter_le ..
section
variable {P : Program} {w : World} {K : PySem.W.Frag} {mg : Str → Option Value} {base : Heap}
theorem scBest : FnScope ["_law_many", "_law_stand_here", "_law_whole", "_law_sets", "_law_tie", "_law_best_here", "_law_ties", "_law_labels_here", "_law_bare", "_law_rank"] ["_law_many", "_law_stand_here"] (defScope sBest) := ⟨rfl, rfl, rfl, by decide +kernel, rfl, by decide +kernel, by decide +kernel⟩
theorem ok_Best {f : Addr} {fd : FuncData} (F : Fun K "_law_best" "_law_best" sBest f fd) (T : Txt mg)
    {gLLab : Addr} {fLLab : FuncData} (kLLab : PySem.W.keepIn K (.ref gLLab) = true) (bLLab : Binds K fLLab ["_law_many", "_law_ties"] []) (hLLab : mg "_law_labels" = some (.ref gLLab)) (GLLab : FnOk P w K mg base CX0 1 gLLab fLLab ["_law_many", "_law_ties"] spLLab)
    {gLAl : Addr} {fLAl : FuncData} (kLAl : PySem.W.keepIn K (.ref gLAl) = true) (bLAl : Binds K fLAl ["_law_one", "_law_other"] []) (hLAl : mg "_law_alike" = some (.ref gLAl)) (GLAl : FnOk P w K mg base CX0 1 gLAl fLAl ["_law_one", "_law_other"] spLAl) :
    FnOk P w K mg base CX0 2 f fd ["_law_many", "_law_stand_here"] spBest := by
  refine F.ok scBest (fun vs H Q E h => ?_) (fun cdv A outer s H vs Q E hr h => ?_)
  · obtain ⟨_, _, _, rfl, _⟩ := h; rfl
  · obtain ⟨N, st, S, rfl, hst, hS, N60, S7, k⟩ := h
    refine ⟨_, pss_cons (ps_set (i := 2) scBest.nd rfl (Or.inl rfl) (pe_ix ix_tup (pe_call GLLab hr rfl hLLab kLLab bLLab .nil pass0 (pa_cons (pv 0) (pa_cons (pv 1) pa_nil))) pe_int (fun _ _ => rfl)))
      (pss_cons (ps_set (i := 3) scBest.nd rfl (Or.inl rfl) (pe_lst (pa_cons (pe_tup pa_nil) pa_nil)))
      (pss_cons (ps_for PassesOwn.never rfl (pi_tup (pv 1)) (pg_name (i := 4) scBest.nd rfl (Or.inr rfl)) (pss_one (ps_set (i := 3) scBest.nd rfl (Or.inl rfl) (pe_op op_cat (pv 3) (pe_comp (T := ["_law_ties"]) (F := ["_law_tie"]) (js := [4]) (CS.to (osc := defScope sBest) ⟨by rfl, by decide +kernel, by decide +kernel, by decide +kernel, by decide +kernel, by decide +kernel, by decide +kernel⟩ rfl rfl) rfl (pi_list (pv 3)) (fun _ _ _ _ _ => pg_name (i := 0) (show (["_law_ties", "_law_tie"] : List Str).Nodup by decide +kernel) rfl (Or.inl rfl)) (fun _ _ _ _ _ => pif_nil) (fun _ _ _ _ _ => pe_op (r := rCatTT K) op_catTT (pv 0) (pe_tup (pa_cons (pv 1) pa_nil))))))))
      (pss_cons (ps_set (i := 5) scBest.nd rfl (Or.inl rfl) pe_non)
      (pss_cons (ps_for PassesOwn.never rfl (pi_list (pv 3)) (pg_name (i := 6) scBest.nd rfl (Or.inl rfl)) (pss_cons (ps_asg (pe_call GLLab hr rfl hLLab kLLab bLLab .nil pass0 (pa_cons (pv 0) (pa_cons (pv 6) pa_nil))) (pg_tup rfl (pgs_cons (pg_name (i := 7) scBest.nd rfl (Or.inl rfl)) (pgs_cons (pg_name (i := 8) scBest.nd rfl (Or.inl rfl)) pgs_nil))))
      (pss_one (ps_if (PW.pt (pw_and (pt_val (pv 8)) (pw_and1 (pt_val (pe_call GLAl hr rfl hLAl kLAl bLAl .nil pass0 (pa_cons (pv 7) (pa_cons (pv 2) pa_nil))))))) (pss_cons (ps_set (i := 9) scBest.nd rfl (Or.inl rfl) (pe_tup (pa_cons (pe_callB (call_sum rfl) (by rfl) T.sum PyProof.Rows.boot_sum (pa_cons (pe_comp (T := ["_law_tie"]) (F := []) (js := []) (CS.to (osc := defScope sBest) ⟨by rfl, by decide +kernel, by decide +kernel, by decide +kernel, by decide +kernel, by decide +kernel, by decide +kernel⟩ rfl rfl) rfl (pi_tup (pv 6)) (fun _ _ _ _ _ => pg_name (i := 0) (show (["_law_tie"] : List Str).Nodup by decide +kernel) rfl (Or.inl rfl)) (fun _ _ _ _ _ => pif_nil) (fun _ _ _ _ _ => pe_ix (r := rIxT K) ix_tup (pv 0) pe_int (fun _ _ => rfl))) pa_nil)) (pa_cons (pe_callB Srt.call_sortedT (by rfl) T.sorted (by decide +kernel) (pa_cons (pe_comp (T := ["_law_tie"]) (F := []) (js := []) (CS.to (osc := defScope sBest) ⟨by rfl, by decide +kernel, by decide +kernel, by decide +kernel, by decide +kernel, by decide +kernel, by decide +kernel⟩ rfl rfl) rfl (pi_tup (pv 6)) (fun _ _ _ _ _ => pg_name (i := 0) (show (["_law_tie"] : List Str).Nodup by decide +kernel) rfl (Or.inl rfl)) (fun _ _ _ _ _ => pif_nil) (fun _ _ _ _ _ => pe_tup (pa_cons (pe_ix (r := rIxT K) ix_tup (pv 0) pe_int (fun _ _ => rfl)) (pa_cons (pe_ix (r := rIxT K) ix_tup (pv 0) pe_int (fun _ _ => rfl)) pa_nil)))) pa_nil)) pa_nil))))
      (pss_one (ps_if (PW.pt (pw_or (pt_cmpR op_isN (pv 5) pe_non (nomark _)) (pw_or1 (pt_cmpR (op_ltP hr.units) (pv 9) (pv 5) (nomark _))))) (pss_one (ps_set (i := 5) scBest.nd rfl (Or.inl rfl) (pv 9))) pss_nil))) pss_nil))))
      (pss_one (ps_ret (pe_callTy call_tuple_of (by rfl) T.tuple (by decide +kernel) (pa_cons (pe_callB Srt.call_sortedS (by rfl) T.sorted (by decide +kernel) (pa_cons (pe_comp (T := ["_law_weight_here", "_law_name"]) (F := []) (js := []) (CS.to (osc := defScope sBest) ⟨by rfl, by decide +kernel, by decide +kernel, by decide +kernel, by decide +kernel, by decide +kernel, by decide +kernel⟩ rfl rfl) rfl (pi_list (pe_ix ix_tup (pv 5) pe_int (fun _ _ => rfl))) (fun _ _ _ _ _ => pg_tupK K 2 rfl rfl (pgs_cons (pg_name (i := 0) (show (["_law_weight_here", "_law_name"] : List Str).Nodup by decide +kernel) rfl (Or.inl rfl)) (pgs_cons (pg_name (i := 1) (show (["_law_weight_here", "_law_name"] : List Str).Nodup by decide +kernel) rfl (Or.inl rfl)) pgs_nil))) (fun _ _ _ _ _ => pif_nil) (fun _ _ _ _ _ => pv 1)) pa_nil)) pa_nil)))))))), ?_⟩
    obtain ⟨rs, est, hrs⟩ := id hst
    have SN := hS.inn
    refine ⟨_, rfl, _, rfl, N, st, S, rfl, hst, SN, N60, fun r0 wl ws b0 H1 s1 e1 l1 labW _ => ?_⟩
    refine ⟨r0, _, 0, _, rfl, rfl, SqT.of e1, atI_nat (j := 0) rfl, ?_⟩
    refine ⟨small (by simp), fun q hq => ⟨small (by simp), fun sl hsl => ?_⟩⟩
    have s2 := same_new (o := .tup []) hq
    have s3 := same_new (o := .lst [.ref q]) hsl
    have e3 := upd_same (H := upd H1 q (.tup [])) (a := sl) (o := .lst [.ref q])
    have q3 := s3 _ _ (upd_same (H := H1) (a := q) (o := .tup []))
    have S3 := s1.trans (s2.trans s3)
    have l3 := s3 _ _ (s2 _ _ l1)
    generalize upd (upd H1 q (.tup [])) sl (.lst [.ref q]) = H3 at s3 e3 q3 S3 l3
    have A0 : SetsAt H3 [q] (setsF []) := ⟨rfl, fun i l A x y => by
      cases i with
      | zero =>
        cases x
        cases y
        exact ⟨[], q3, rfl, fun i r t e => by simp at e⟩
      | succ i => simp at x⟩
    refine ⟨_, rfl, st, rfl, ⟨_, SqT.of (S3 _ _ est)⟩, for_tup (K := K) (a := st) (xs := rs.map V.ref) (fun i σ H5 => ∃ (u4 u5 u6 u7 u8 u9 : Option V) (sl : Addr) (ls : List Addr), σ = [some (.int (N : Int)), some (.ref st), some (.ref wl), some (.ref sl), u4, u5, u6, u7, u8, u9] ∧ Same H3 H5 ∧ H5 sl = some (.lst (ls.map V.ref)) ∧ SetsAt H5 ls (setsF (S.take i))) ⟨_, _, _, _, _, _, sl, [q], rfl, same_refl H3, e3, A0⟩ (fun i σ H5 _ ⟨_, _, _, _, _, _, _, _, _, e, _⟩ => SqT.of (e _ _ (S3 _ _ est))) ?_ ?_⟩
    · rintro i x σ H5 hx ⟨u4, u5, u6, u7, u8, u9, sl, ls, rfl, s5, e5, A5⟩
      obtain ⟨r, hr', rfl⟩ := map_some hx
      obtain ⟨t, ht, er0⟩ := hrs.get hr'
      have hi : i < S.length := (List.getElem?_eq_some_iff.mp ht).1
      have er := s5 _ _ (S3 _ _ er0)
      have L128 : (setsF (S.take i)).length ≤ 128 := by
        rw [sets_len i _ (by rw [List.length_take]; omega)]
        exact Nat.le_trans (Nat.pow_le_pow_right (by decide) (show i ≤ 7 by omega)) (by decide)
      have lsl : ls.length ≤ 128 := by rw [A5.1]; exact L128
      obtain ⟨L, hL⟩ : ∃ L, L = setsF (S.take i) := ⟨_, rfl⟩
      rw [← hL] at A5
      have tl : ∀ A ∈ L, A.length ≤ 7 := fun A hA => by
        rw [hL] at hA
        have := (sets_sub _ _ A rfl hA).length_le
        rw [List.length_take] at this
        omega
      refine ⟨_, rfl, _, rfl, sl, rfl, ⟨_, SqL.of e5⟩, fun D hD => comp_list (K := K) (a := sl) (xs := ls.map V.ref) (fun j σ ys H6 => ∃ (u : Option V) (ms : List Addr), σ = [u, some (.ref r)] ∧ ys = ms.map V.ref ∧ Same H5 H6 ∧ H6 D = some (.lst ys) ∧ SetsAt H6 ms ((L.take j).map (· ++ [t]))) ⟨none, [], rfl, rfl, same_new hD, upd_same, rfl, fun i l A e => by simp at e⟩ (fun j σ ys H6 _ ⟨_, _, _, _, e, f, _⟩ => ⟨SqL.of (e _ _ e5), f⟩) ?_ ?_⟩
      · rintro j x σ ys H6 hx ⟨u, ms, rfl, rfl, s6, D6, A6⟩
        obtain ⟨l, hl, rfl⟩ := map_some hx
        have hj : j < ls.length := (List.getElem?_eq_some_iff.mp hl).1
        obtain ⟨A, hA⟩ : ∃ A, L[j]? = some A := ⟨_, getq (by rw [← A5.1]; exact hj)⟩
        obtain ⟨as, ea, ta⟩ := (A5.2 j l A hl hA).same s6
        have al := tl A (List.mem_of_getElem? hA)
        have ml : ms.length ≤ 128 := by rw [A6.1, List.length_map, List.length_take]; omega
        refine ⟨_, rfl, _, rfl, small (by simp), fun q1 h1 => ?_⟩
        have s7 := same_new (o := .tup [.ref r]) h1
        have e7 := upd_same (H := H6) (a := q1) (o := .tup [.ref r])
        generalize upd H6 q1 (.tup [.ref r]) = H7 at s7 e7
        refine cat_any (s7 _ _ ea) e7 (by rw [List.length_map, ta.1]; simp only [List.length_cons, List.length_nil]; omega) fun c H8 s8 e8 => ?_
        rw [show as.map V.ref ++ [.ref r] = (as ++ [r]).map V.ref by rw [List.map_append]; rfl] at e8
        have S8 := s7.trans s8
        have st8 : StandT H8 c (A ++ [t]) := ⟨as ++ [r], e8, ties_snoc (ta.same S8) (S8 _ _ (s6 _ _ er))⟩
        have D8 := S8 _ _ D6
        have kT : ∀ r zs', H8 r = some (.tup zs') → upd H8 D (.lst (ms.map V.ref ++ [.ref c])) r = some (.tup zs') := fun r zs' e => by rw [upd_ne (ne_of e D8 (by intro z; cases z))]; exact e
        refine ⟨D8, small1000 (by rw [List.length_map]; omega), _, ms ++ [c], rfl, by rw [List.map_append]; rfl, same_set (s6.trans S8) hD, upd_same, ?_⟩
        rw [List.take_add_one, hA, List.map_append]
        exact (sets_push (A6.same S8) st8).mono kT
      rintro σ ys H6 ⟨u, ms, rfl, rfl, s6, D6, A6⟩
      rw [List.length_map, A5.1, List.take_length] at A6
      have ml : ms.length ≤ 128 := by rw [A6.1, List.length_map, hL]; exact L128
      refine ⟨sl, D, _, _, rfl, rfl, s6 _ _ e5, D6, small (by rw [List.length_map, List.length_map]; omega), fun nl hnl => ?_⟩
      have s7 := same_new (o := .lst (ls.map V.ref ++ ms.map V.ref)) hnl
      refine ⟨_, _, _, _, _, _, nl, ls ++ ms, rfl, (s5.trans s6).trans s7, by rw [upd_same, List.map_append], ?_⟩
      rw [List.take_add_one, ht]
      show SetsAt _ _ (setsF (S.take i ++ [t]))
      rw [sets_snoc, ← hL]
      exact sets_app ((A5.same s6).same s7) (A6.same s7)
    rintro σ H5 ⟨u4, u5, u6, u7, u8, u9, sl, ls, rfl, s5, e5, A5⟩
    rw [List.length_map, hrs.1, List.take_length] at A5
    clear e3 q3 hsl A0
    have S5 := S3.trans s5
    have l5 := s5 _ _ l3
    obtain ⟨L, hL⟩ : ∃ L, L = setsF S := ⟨_, rfl⟩
    rw [← hL] at A5
    have hF : foF N S ∈ L := by rw [hL]; exact sets_filt _ _ S rfl
    have subL : ∀ C ∈ L, C.Sublist S := fun C hC => sets_sub _ S C rfl (by rw [← hL]; exact hC)
    refine ⟨_, rfl, sl, rfl, ⟨_, SqL.of e5⟩, for_list (K := K) (a := sl) (xs := ls.map V.ref) (fun i σ H6 => ∃ (u6 u7 u8 u9 : Option V) (bv : V), σ = [some (.int (N : Int)), some (.ref st), some (.ref wl), some (.ref sl), u4, some bv, u6, u7, u8, u9] ∧ Same H5 H6 ∧ BestOk N S H6 bv (L.take i)) ⟨_, _, _, _, .non, rfl, same_refl H5, .inl ⟨rfl, fun C hC => by simp at hC⟩⟩ (fun i σ H6 _ ⟨_, _, _, _, _, _, e, _⟩ => SqL.of (e _ _ e5)) ?_ ?_⟩
    · rintro i x σ H6 hx ⟨u6, u7, u8, u9, bv, rfl, s6, B6⟩
      obtain ⟨l, hl, rfl⟩ := map_some hx
      have hi : i < ls.length := (List.getElem?_eq_some_iff.mp hl).1
      obtain ⟨C, hC⟩ : ∃ C, L[i]? = some C := ⟨_, getq (by rw [← A5.1]; exact hi)⟩
      have CL := List.mem_of_getElem? hC
      have sub := subL C CL
      have CN : InN N C := fun u hu => SN u (sub.subset hu)
      have Cl : C.length ≤ 7 := Nat.le_trans sub.length_le S7
      have ndC : (C.map (·.1)).Nodup := hS.nd.sublist (sub.map _)
      have stC := (A5.2 i l C hl hC).same s6
      have tkL : L.take (i + 1) = L.take i ++ [C] := by rw [List.take_add_one, hC]; rfl
      refine ⟨_, rfl, _, rfl, N, l, C, rfl, stC, CN, N60, fun r1 lc cs1 b1 H7 s7 e7 l7 labC hb1 => ?_⟩
      refine ⟨r1, _, rfl, SqT.of e7, rfl, _, _, rfl, _, _, rfl, rfl, ?_⟩
      have ci := cand_iff SN hS.nd sub labC labW
      have skip : ∀ (HX : Hp) (u6 u7 u8 u9 : Option V), Same H5 HX → BestOk N S HX bv (L.take i) → ¬ Cand N S C → ∃ (u6' u7' u8' u9' : Option V) (bv' : V), [some (.int (N : Int)), some (.ref st), some (.ref wl), some (.ref sl), u4, some bv, u6, u7, u8, u9] = [some (.int (N : Int)), some (.ref st), some (.ref wl), some (.ref sl), u4, some bv', u6', u7', u8', u9'] ∧ Same H5 HX ∧ BestOk N S HX bv' (L.take (i + 1)) := fun HX u6 u7 u8 u9 sX BX nc => ⟨_, _, _, _, bv, rfl, sX, by
        rw [tkL]
        rcases BX with ⟨e, h⟩ | ⟨b, l, ps, cs, C', a1, a2, a3, a4, a5, a6, a7, a8⟩
        · exact .inl ⟨e, fun D hD => (List.mem_append.mp hD).elim (h D) fun z => by rw [List.mem_singleton.mp z]; exact nc⟩
        · exact .inr ⟨b, l, ps, cs, C', a1, a2, a3, a4, a5, a6, a7, fun hF' => (List.mem_append.mp hF').elim a8 fun z => absurd (List.mem_singleton.mp z ▸ fo_cand SN N60 hS.nd) nc⟩⟩
      refine ⟨_, rfl, b1, rfl, ?_⟩
      cases b1 with
      | false =>
        refine iteF (iteF ?_)
        exact skip H7 _ _ _ _ (s6.trans s7) (B6.same s7) fun h => absurd (hb1.mpr (ci.mpr h).1) (by decide)
      | true =>
        refine iteT ?_
        refine ⟨_, rfl, _, rfl, lc, wl, cs1, ws, rfl, l7, s7 _ _ (s6 _ _ l5), by rw [labC.len, labW.len], by rw [labC.len]; exact N60, fun c H8 s8 hc => ?_⟩
        refine ⟨c, rfl, ?_⟩
        have s68 := s7.trans s8
        have B8 := B6.same s68
        cases c with
        | false =>
          refine iteF ?_
          exact skip H8 _ _ _ _ (s6.trans s68) B8 fun h => absurd (hc.mpr (ci.mpr h).2) (by decide)
        | true =>
          refine iteT ?_
          have cand : Cand N S C := ci.mp ⟨hb1.mp rfl, hc.mp rfl⟩
          obtain ⟨as, ea, ta⟩ := stC.same s68
          refine ⟨_, rfl, l, rfl, ⟨_, SqT.of ea⟩, fun D hD => comp_tup (K := K) (a := l) (xs := as.map V.ref) (fun j σ ys H9 => ∃ (u : Option V), σ = [u] ∧ ys = ((C.take j).map fun t => t.2.2.2).map V.int ∧ Same H8 H9 ∧ H9 D = some (.lst ys)) ⟨none, rfl, rfl, same_new hD, upd_same⟩ (fun j σ ys H9 _ ⟨_, _, _, e, f⟩ => ⟨SqT.of (e _ _ ea), f⟩) ?_ ?_⟩
          · rintro j x' σ ys H9 hx' ⟨u, rfl, rfl, s9, D9⟩
            obtain ⟨r, hr', rfl⟩ := map_some hx'
            obtain ⟨t, ht, er'⟩ := ta.get hr'
            have hj : j < C.length := (List.getElem?_eq_some_iff.mp ht).1
            exact ⟨_, rfl, r, _, 3, _, rfl, rfl, SqT.of (s9 _ _ er'), atI_nat (j := 3) rfl, D9, small1000 (by rw [List.length_map, List.length_map, List.length_take]; omega), _, rfl, by rw [List.take_add_one, ht, List.map_append, List.map_append]; rfl, same_set s9 hD, upd_same⟩
          rintro σ ys H9 ⟨u, rfl, rfl, s9, D9⟩
          rw [List.length_map, ta.1, List.take_length] at D9
          refine ⟨D, _, rfl, SqL.of D9, ?_⟩
          have ea9 := s9 _ _ ea
          have ta9 := ta.same s9
          refine ⟨_, rfl, l, rfl, ⟨_, SqT.of ea9⟩, fun D2 hD2 => comp_tup (K := K) (a := l) (xs := as.map V.ref) (fun j σ ys HA => ∃ (u : Option V) (ps : List Addr), σ = [u] ∧ ys = ps.map V.ref ∧ Same H9 HA ∧ HA D2 = some (.lst ys) ∧ RksAt HA ps (C.take j)) ⟨none, [], rfl, rfl, same_new hD2, upd_same, rfl, fun i p c e => by simp at e⟩ (fun j σ ys HA _ ⟨_, _, _, _, e, f, _⟩ => ⟨SqT.of (e _ _ ea9), f⟩) ?_ ?_⟩
          · rintro j x' σ ys HA hx' ⟨u, ps, rfl, rfl, sA, DA, pA⟩
            obtain ⟨r, hr', rfl⟩ := map_some hx'
            obtain ⟨t, ht, er'⟩ := ta9.get hr'
            have hj : j < C.length := (List.getElem?_eq_some_iff.mp ht).1
            have erA := sA _ _ er'
            have pl : ps.length ≤ 7 := by rw [pA.1, List.length_take]; omega
            refine ⟨_, rfl, r, _, 3, _, rfl, rfl, SqT.of erA, atI_nat (j := 3) rfl, _, rfl, r, _, 0, _, rfl, rfl, SqT.of erA, atI_nat (j := 0) rfl, small (by simp), fun p hp => ?_⟩
            have sB := same_new (o := .tup [.int t.2.2.2, .str t.1]) hp
            have pB : upd HA p (.tup [.int t.2.2.2, .str t.1]) p = some (.tup (HT.rwV (rowR t))) := upd_same
            have DB := sB _ _ DA
            have pA' := pA.same sB
            generalize upd HA p (.tup [.int t.2.2.2, .str t.1]) = HB at sB pB DB pA'
            have kT : ∀ r zs', HB r = some (.tup zs') → upd HB D2 (.lst (ps.map V.ref ++ [.ref p])) r = some (.tup zs') := fun r zs' e => by rw [upd_ne (ne_of e DB (by intro z; cases z))]; exact e
            refine ⟨DB, small1000 (by rw [List.length_map]; omega), _, ps ++ [p], rfl, by rw [List.map_append]; rfl, same_set (sA.trans sB) hD2, upd_same, ?_⟩
            rw [List.take_add_one, ht]
            refine ⟨by rw [List.length_append, pA.1]; show _ = (C.take j ++ [t]).length; rw [List.length_append]; rfl, fun i' p' c' e1 e2 => ?_⟩
            have e2 : (C.take j ++ [t])[i']? = some c' := e2
            rcases snoc_at e1 with z1 | ⟨z1, rfl⟩
            · rcases snoc_at e2 with z2 | ⟨z2, _⟩
              · exact kT _ _ (pA'.2 i' p' c' z1 z2)
              · have := (List.getElem?_eq_some_iff.mp z1).1; rw [pA.1] at this; omega
            · rcases snoc_at e2 with z2 | ⟨_, rfl⟩
              · have := (List.getElem?_eq_some_iff.mp z2).1; rw [← pA.1] at this; omega
              · exact kT _ _ pB
          rintro σ ys HA ⟨u2, ps, rfl, rfl, sA, DA, pA⟩
          rw [List.length_map, ta.1, List.take_length] at pA
          obtain ⟨qs, eqs, rok, fin⟩ := sort_ranks (K := K) ndC pA (by omega)
          rw [← eqs] at DA
          refine ⟨D2, qs, rfl, SqL.of DA, rok, fun sr qs' hsr perm srt => ?_⟩
          obtain ⟨cs, pcs, acs, rcs⟩ := fin qs' perm srt
          have sB := same_new (o := .lst (qs'.map Srt.rRef)) hsr
          have eB := upd_same (H := HA) (a := sr) (o := .lst (qs'.map Srt.rRef))
          have rB := rcs.same sB
          generalize upd HA sr (.lst (qs'.map Srt.rRef)) = HB at sB eB rB
          rw [show qs'.map Srt.rRef = (qs'.map (·.1)).map V.ref by rw [List.map_map]; rfl] at eB
          have esum : (C.map fun t => t.2.2.2).sum = sumW cs := (sum_perm (pcs.map _)).symm
          refine ⟨small (by simp), fun rkA hrk => ?_⟩
          have sC := same_new (o := .tup [.int (C.map fun t => t.2.2.2).sum, .ref sr]) hrk
          have eC := upd_same (H := HB) (a := rkA) (o := .tup [.int (C.map fun t => t.2.2.2).sum, .ref sr])
          generalize upd HB rkA (.tup [.int (C.map fun t => t.2.2.2).sum, .ref sr]) = HC at sC eC
          rw [esum] at eC
          have S8C := ((s9.trans sA).trans sB).trans sC
          have BC := B8.same S8C
          have S5C := (s6.trans s68).trans S8C
          have eB' := sC _ _ eB
          have rB' := rB.same sC
          have new : (foF N S ∈ L.take (i + 1) → cs.Perm (foF N S)) → ∃ (u6' u7' u8' u9' : Option V) (bv' : V), [some (.int (N : Int)), some (.ref st), some (.ref wl), some (.ref sl), u4, some (.ref rkA), some (.ref l), some (.ref lc), some (.bl true), some (.ref rkA)] = [some (.int (N : Int)), some (.ref st), some (.ref wl), some (.ref sl), u4, some bv', u6', u7', u8', u9'] ∧ Same H5 HC ∧ BestOk N S HC bv' (L.take (i + 1)) := fun h => ⟨_, _, _, _, .ref rkA, rfl, S5C, .inr ⟨rkA, sr, _, cs, C, rfl, cand, pcs, acs, eC, eB', rB', h⟩⟩
          rcases BC with ⟨rfl, hno⟩ | ⟨b, lb, ps2, cs2, C2, rfl, cd2, p2, a2, eb2, el2, r2, f2⟩
          · refine ⟨_, rfl, rfl, _, rfl, iteT (iteT ?_)⟩
            refine ⟨_, rfl, new fun hF' => ?_⟩
            rw [tkL] at hF'
            rcases List.mem_append.mp hF' with z | z
            · exact absurd (fo_cand SN N60 hS.nd) (hno _ z)
            · rw [List.mem_singleton.mp z]; exact pcs
          · refine ⟨_, rfl, rfl, _, rfl, iteF ?_⟩
            have len : (cs.map rowR).length = (cs2.map rowR).length := by
              rw [List.length_map, List.length_map, pcs.length_eq, p2.length_eq]
              exact Nat.le_antisymm (cand_len SN cand cd2) (cand_len SN cd2 cand)
            refine ⟨_, rfl, _, rfl, rkA, b, sr, lb, sumW cs, sumW cs2, _, ps2, cs.map rowR, cs2.map rowR, rfl, rfl, SqT.of eC, SqT.of eb2, SqL.of eB', SqL.of el2, rks_rows rB', rks_rows r2, len, _, rfl, ?_⟩
            have ern : (decide (sumW cs < sumW cs2) || (decide (sumW cs = sumW cs2) && HT.lexRows (cs.map rowR) (cs2.map rowR))) = rkB cs cs2 := rfl
            rw [ern]
            have vs : ∀ {ds D : List T4}, Cand N S D → ds.Perm D → Asc ds → ∀ {fs : List T4}, fs.Perm (foF N S) → Asc fs → ¬ ds.Perm (foF N S) → rkB fs ds = true ∧ rkB ds fs = false := fun {ds D} cD pD aD {fs} pf af np => rk_lt (cand_le SN N60 hS.nd cD pf af pD aD) fun e => np (e ▸ pf)
            cases g : rkB cs cs2 with
            | true =>
              refine iteT ⟨_, rfl, new fun hF' => ?_⟩
              rw [tkL] at hF'
              rcases List.mem_append.mp hF' with z | z
              · rcases Classical.em (cs.Perm (foF N S)) with np | np
                · exact np
                · have := (vs cand pcs acs (f2 z) a2 np).2
                  rw [g] at this; cases this
              · rw [List.mem_singleton.mp z]; exact pcs
            | false =>
              refine iteF ?_
              refine ⟨_, _, _, _, .ref b, rfl, S5C, .inr ⟨b, lb, ps2, cs2, C2, rfl, cd2, p2, a2, eb2, el2, r2, fun hF' => ?_⟩⟩
              rw [tkL] at hF'
              rcases List.mem_append.mp hF' with z | z
              · exact f2 z
              · have z := List.mem_singleton.mp z
                rcases Classical.em (cs2.Perm (foF N S)) with np | np
                · exact np
                · have := (vs cd2 p2 a2 (z ▸ pcs) acs np).1
                  rw [g] at this; cases this
    · rintro σ H6 ⟨u6, u7, u8, u9, bv, rfl, s6, B6⟩
      rw [List.length_map, A5.1, List.take_length] at B6
      rcases B6 with ⟨_, hno⟩ | ⟨b, lb, ps, cs, C, rfl, cd, pc, ac, eb, el, rp, f⟩
      · exact absurd (fo_cand SN N60 hS.nd) (hno _ hF)
      have pf := f hF
      have csl : cs.length ≤ 7 := by rw [pf.length_eq]; exact Nat.le_trans fo_len S7
      refine ⟨_, rfl, b, _, 1, _, rfl, rfl, SqT.of eb, atI_nat (j := 1) rfl, lb, rfl, ⟨_, SqL.of el⟩, fun D hD => comp_list (K := K) (a := lb) (xs := ps.map V.ref) (fun j σ ys H7 => ∃ (u v : Option V), σ = [u, v] ∧ ys = ((cs.take j).map (·.1)).map V.str ∧ Same H6 H7 ∧ H7 D = some (.lst ys)) ⟨none, none, rfl, rfl, same_new hD, upd_same⟩ (fun j σ ys H7 _ ⟨_, _, _, _, e, f⟩ => ⟨SqL.of (e _ _ el), f⟩) ?_ ?_⟩
      · rintro j x σ ys H7 hx ⟨u, v, rfl, rfl, s7, D7⟩
        obtain ⟨p, hp, rfl⟩ := map_some hx
        have hj : j < ps.length := (List.getElem?_eq_some_iff.mp hp).1
        obtain ⟨c, hc⟩ : ∃ c, cs[j]? = some c := ⟨_, getq (by rw [← rp.1]; exact hj)⟩
        have ep := s7 _ _ (rp.2 j p c hp hc)
        refine ⟨p, _, rfl, SqT.of ep, rfl, _, _, rfl, _, _, rfl, rfl, ?_⟩
        exact ⟨_, rfl, D7, small1000 (by rw [List.length_map, List.length_map, List.length_take]; omega), _, _, rfl, by rw [List.take_add_one, hc, List.map_append, List.map_append]; rfl, same_set s7 hD, upd_same⟩
      rintro σ ys H7 ⟨u, v, rfl, rfl, s7, D7⟩
      rw [List.length_map, rp.1, List.take_length] at D7
      refine ⟨D, _, rfl, SqL.of D7, by rw [List.length_map]; omega, fun sr zs hsr pz hz => ?_⟩
      have s8 := same_new (o := .lst (zs.map V.str)) hsr
      have e8 := upd_same (H := H7) (a := sr) (o := .lst (zs.map V.str))
      generalize upd H7 sr (.lst (zs.map V.str)) = H8 at s8 e8
      have ez : zs = lightF N S := nms_unique (pz.trans (pf.map _)) hz (light_srt hS.srt)
      refine ⟨sr, _, rfl, .inl ⟨SqL.of e8, fun r hr' => k r _ ((S5.trans s6).trans ((s7.trans s8).trans (same_new hr'))) ?_⟩⟩
      rw [upd_same, ez]
end
end K46
set_option maxHeartbeats 8000000
namespace K46
open PySem L2 Wk
theorem light_map {N : Nat} {S : List T4} (f : T4 → T4) (hS : InN N S) (hf : InN N (S.map f)) (hN : N ≤ 60) (nm : ∀ t, (f t).1 = t.1) (ah : ∀ u t, aheadB (f u) (f t) = aheadB u t)
    (rc : ∀ t ∈ S, (Reach ((aheadF S t).map f) (f t).2.1 (f t).2.2.1 ↔ Reach (aheadF S t) t.2.1 t.2.2.1)) : lightF N (S.map f) = lightF N S := by
  unfold lightF
  rw [List.filter_map, List.map_map]
  have e : (fun t : T4 => t.1) ∘ f = fun t => t.1 := by funext t; exact nm t
  rw [e]
  congr 1
  refine List.filter_congr fun t ht => ?_
  have h1 := hS t ht
  have h2 := hf (f t) (List.mem_map_of_mem ht)
  show keepF N (S.map f) (f t) = keepF N S t
  rw [Bool.eq_iff_iff, keep_iff hf hN h2.1 h2.2, keep_iff hS hN h1.1 h1.2]
  have ea : aheadF (S.map f) (f t) = (aheadF S t).map f := by
    unfold aheadF
    rw [List.filter_map]
    congr 1
    exact List.filter_congr fun u _ => ah u t
  rw [ea]
  exact not_congr (rc t ht)
def mvT (m : Int) (t : T4) : T4 := (t.1, t.2.1, t.2.2.1, t.2.2.2 + m)
theorem mv_ah (m : Int) (u t : T4) : aheadB (mvT m u) (mvT m t) = aheadB u t := by
  obtain ⟨n, p, q, w⟩ := u
  obtain ⟨n', p', q', w'⟩ := t
  show HT.lexV [.int (w + m), .str n] [.int (w' + m), .str n'] = HT.lexV [.int w, .str n] [.int w', .str n']
  rw [HT.lexV_cons (V.int (w + m)), HT.lexV_cons (V.int w)]
  by_cases e : w = w'
  · subst e
    rw [if_pos rfl, if_pos rfl]
  · rw [if_neg (show ¬ V.int (w + m) = V.int (w' + m) by intro z; injection z with z; exact e (by omega)), if_neg (show ¬ V.int w = V.int w' by intro z; injection z with z; exact e z)]
    show decide (w + m < w' + m) = decide (w < w')
    rw [Bool.eq_iff_iff, decide_eq_true_eq, decide_eq_true_eq]
    omega
theorem light_mv {N : Nat} {S : List T4} (hS : InN N S) (hN : N ≤ 60) (m : Int) : lightF N (S.map (mvT m)) = lightF N S := by
  refine light_map (mvT m) hS (fun t ht => ?_) hN (fun _ => rfl) (mv_ah m) fun t _ => ?_
  · obtain ⟨u, hu, rfl⟩ := List.mem_map.mp ht
    exact hS u hu
  · constructor
    · refine reach_ties fun v hv => ?_
      obtain ⟨u, hu, rfl⟩ := List.mem_map.mp hv
      show Reach _ u.2.1 u.2.2.1
      exact reach_tie hu
    · refine reach_ties fun v hv => ?_
      exact reach_tie (t := mvT m v) (List.mem_map_of_mem hv)
def rtT (N s : Nat) (t : T4) : T4 := (t.1, (t.2.1 + s) % N, (t.2.2.1 + s) % N, t.2.2.2)
theorem rt_reach {N s : Nat} {A : List T4} {a b : Nat} (h : Reach A a b) : Reach (A.map (rtT N s)) ((a + s) % N) ((b + s) % N) := by
  obtain ⟨x, hx⟩ := h
  induction hx with
  | nil => exact .refl
  | snoc _ q ih =>
    obtain ⟨t, ht, _, z⟩ := nb_elim q
    have r := reach_tie (t := rtT N s t) (List.mem_map_of_mem ht)
    rcases z with ⟨rfl, rfl⟩ | ⟨rfl, rfl⟩
    · exact ih.trans r
    · exact ih.trans r.symm
theorem rt_back {N s a : Nat} (hs : s < N) (ha : a < N) : ((a + s) % N + (N - s)) % N = a := by
  by_cases g : a + s < N
  · rw [Nat.mod_eq_of_lt g, show a + s + (N - s) = a + N by omega, Nat.add_mod_right, Nat.mod_eq_of_lt ha]
  · have e : (a + s) % N = a + s - N := by rw [Nat.mod_eq_sub_mod (by omega), Nat.mod_eq_of_lt (by omega)]
    rw [e, show a + s - N + (N - s) = a by omega, Nat.mod_eq_of_lt ha]
theorem light_rt {N s : Nat} {S : List T4} (hS : InN N S) (hN : N ≤ 60) (hs : s < N) : lightF N (S.map (rtT N s)) = lightF N S := by
  have n0 : 0 < N := by omega
  refine light_map (rtT N s) hS (fun t ht => ?_) hN (fun _ => rfl) (fun _ _ => rfl) fun t ht => ?_
  · obtain ⟨u, hu, rfl⟩ := List.mem_map.mp ht
    exact ⟨Nat.mod_lt _ n0, Nat.mod_lt _ n0⟩
  · refine ⟨fun r => ?_, fun r => rt_reach r⟩
    have r2 := rt_reach (N := N) (s := N - s) r
    have hA := ahead_in hS t
    have e : ((aheadF S t).map (rtT N s)).map (rtT N (N - s)) = aheadF S t := by
      rw [List.map_map]
      have : ∀ u ∈ aheadF S t, (rtT N (N - s) ∘ rtT N s) u = id u := fun u hu => by
        obtain ⟨n, p, q, w⟩ := u
        have h1 : p < N := (hA _ hu).1
        have h2 : q < N := (hA _ hu).2
        show (n, ((p + s) % N + (N - s)) % N, ((q + s) % N + (N - s)) % N, w) = (n, p, q, w)
        rw [rt_back hs h1, rt_back hs h2]
      rw [List.map_congr_left this, List.map_id]
    rw [e] at r2
    have h1 := hS t ht
    have e1 : ((rtT N s t).2.1 + (N - s)) % N = t.2.1 := rt_back hs h1.1
    have e2 : ((rtT N s t).2.2.1 + (N - s)) % N = t.2.2.1 := rt_back hs h1.2
    rw [e1, e2] at r2
    exact r2
theorem light_fo {N : Nat} {S : List T4} (hS : InN N S) (hN : N ≤ 60) : lightF N (foF N S) = lightF N S := by
  show ((foF N S).filter (keepF N (foF N S))).map (·.1) = (foF N S).map (·.1)
  rw [List.filter_eq_self.mpr fun t ht => ?_]
  have h1 := hS t (fo_mem.mp ht).1
  rw [keep_iff (fo_in hS) hN h1.1 h1.2, ← ahead_fo hS hN t]
  exact (keep_iff hS hN h1.1 h1.2).mp (fo_mem.mp ht).2
theorem filt_push {H7 : Hp} {D : Addr} {fs : List Addr} {S : List T4} {j : Nat} {p : T4 → Bool} {ys zs : List V} {r : Addr} {t : T4} (ft : TiesAt H7 fs ((S.take j).filter p)) (ht : S[j]? = some t) (er : H7 r = some (.tup (tieV t))) (D7 : H7 D = some (.lst ys)) (g : p t = true) : TiesAt (upd H7 D (.lst zs)) (fs ++ [r]) ((S.take (j + 1)).filter p) := by
  have e : (S.take (j + 1)).filter p = (S.take j).filter p ++ [t] := by rw [List.take_add_one, ht, List.filter_append]; simp [g]
  rw [e]
  exact ties_mono (ties_snoc ft er) fun r zs e => by rw [upd_ne (ne_of e D7 (by intro z; cases z))]; exact e
theorem filt_skip {H7 : Hp} {fs : List Addr} {S : List T4} {j : Nat} {p : T4 → Bool} {t : T4} (ft : TiesAt H7 fs ((S.take j).filter p)) (ht : S[j]? = some t) (g : p t = false) : TiesAt H7 fs ((S.take (j + 1)).filter p) := by
  have e : (S.take (j + 1)).filter p = (S.take j).filter p := by rw [List.take_add_one, ht, List.filter_append]; simp [g]
  rw [e]; exact ft
def nmB (ns : List Str) (t : T4) : Bool := decide (t.1 ∈ ns)
theorem flat_strs (zs : List Str) : (zs.map V.str).all flatV = true := by simp [flatV]
theorem flt_strs (zs : List Str) : ∀ x ∈ zs.map V.str, ∀ y ∈ zs.map V.str, Flt x y = true := fun x hx y hy => by
  obtain ⟨a, _, rfl⟩ := List.mem_map.mp hx
  obtain ⟨b, _, rfl⟩ := List.mem_map.mp hy
  rfl
theorem StandT.but {a c : Addr} {H H' : Hp} {st : Addr} {S : List T4} (h : StandT H st S) (w : WellAt H a c) (b : But a c H H') : StandT H' st S := h.mono fun r zs e => b.tup w e
theorem map_push {H7 : Hp} {D : Addr} {fs : List Addr} {S : List T4} {j : Nat} {f : T4 → T4} {ys zs : List V} {r : Addr} {t : T4} (ft : TiesAt H7 fs ((S.take j).map f)) (ht : S[j]? = some t) (er : H7 r = some (.tup (tieV (f t)))) (D7 : H7 D = some (.lst ys)) : TiesAt (upd H7 D (.lst zs)) (fs ++ [r]) ((S.take (j + 1)).map f) := by
  have e : (S.take (j + 1)).map f = (S.take j).map f ++ [f t] := by rw [List.take_add_one, ht, List.map_append]; rfl
  rw [e]
  exact ties_mono (ties_snoc ft er) fun r zs e => by rw [upd_ne (ne_of e D7 (by intro z; cases z))]; exact e
def spLaw (K : PySem.W.Frag) : Sp := fun vs H Q _ => ∃ (s : Addr) (ns : List Int), vs = [.ref s] ∧ SqL K H s (ns.map V.int) ∧ ns.length ≤ 63 ∧ ∀ H', Q (.bl true) H'
section
variable {P : Program} {w : World} {K : PySem.W.Frag} {mg : Str → Option Value} {base : Heap}
theorem scLaw : FnScope ["_law_script", "_law_well_here", "_law_many", "_law_stand_here", "_law_found", "_law_more", "_law_moved", "_law_step", "_law_away", "_law_left"] ["_law_script"] (defScope sLaw) := ⟨rfl, rfl, rfl, by decide +kernel, rfl, by decide +kernel, by decide +kernel⟩
theorem ok_Law {f : Addr} {fd : FuncData} (F : Fun K "law" "law" sLaw f fd) (T : Txt mg)
    {gWell : Addr} {fWell : FuncData} (kWell : PySem.W.keepIn K (.ref gWell) = true) (bWell : Binds K fWell ["_law_script"] []) (hWell : mg "_law_well" = some (.ref gWell)) (GWell : FnOk P w K mg base CX0 5 gWell fWell ["_law_script"] (spWell K))
    {gDraw : Addr} {fDraw : FuncData} (kDraw : PySem.W.keepIn K (.ref gDraw) = true) (bDraw : Binds K fDraw ["_law_well_here", "_law_most"] []) (hDraw : mg "_law_draw" = some (.ref gDraw)) (GDraw : FnOk P w K mg base CX0 5 gDraw fDraw ["_law_well_here", "_law_most"] spDraw)
    {gStand : Addr} {fStand : FuncData} (kStand : PySem.W.keepIn K (.ref gStand) = true) (bStand : Binds K fStand ["_law_well_here", "_law_many", "_law_names_here"] []) (hStand : mg "_law_stand" = some (.ref gStand)) (GStand : FnOk P w K mg base CX0 5 gStand fStand ["_law_well_here", "_law_many", "_law_names_here"] spStand)
    {gNames : Addr} {fNames : FuncData} (kNames : PySem.W.keepIn K (.ref gNames) = true) (bNames : Binds K fNames ["_law_well_here", "_law_many"] []) (hNames : mg "_law_names" = some (.ref gNames)) (GNames : FnOk P w K mg base CX0 5 gNames fNames ["_law_well_here", "_law_many"] spNames)
    {gLight : Addr} {fLight : FuncData} (kLight : PySem.W.keepIn K (.ref gLight) = true) (bLight : Binds K fLight ["many", "stand"] []) (hLight : mg "lightest" = some (.ref gLight)) (GLight : FnOk P w K mg base CX0 5 gLight fLight ["many", "stand"] spLight)
    {gBest : Addr} {fBest : FuncData} (kBest : PySem.W.keepIn K (.ref gBest) = true) (bBest : Binds K fBest ["_law_many", "_law_stand_here"] []) (hBest : mg "_law_best" = some (.ref gBest)) (GBest : FnOk P w K mg base CX0 5 gBest fBest ["_law_many", "_law_stand_here"] spBest) :
    FnOk P w K mg base CX0 6 f fd ["_law_script"] (spLaw K) := by
  refine F.ok scLaw (fun vs H Q E h => ?_) (fun cdv A outer s H vs Q E hr h => ?_)
  · obtain ⟨_, _, rfl, _⟩ := h; rfl
  · obtain ⟨s, ns, rfl, hS, hl, k⟩ := h
    refine ⟨_, pss_cons (ps_set (i := 1) scLaw.nd rfl (Or.inl rfl) (pe_call GWell hr rfl hWell kWell bWell .nil pass0 (pa_cons (pv 0) pa_nil)))
      (pss_cons (ps_set (i := 2) scLaw.nd rfl (Or.inr rfl) (pe_op op_add pe_int (pe_call GDraw hr rfl hDraw kDraw bDraw .nil pass0 (pa_cons (pv 1) (pa_cons pe_int pa_nil)))))
      (pss_cons (ps_set (i := 3) scLaw.nd rfl (Or.inl rfl) (pe_call GStand hr rfl hStand kStand bStand .nil pass0 (pa_cons (pv 1) (pa_cons (pv 2) (pa_cons (pe_call GNames hr rfl hNames kNames bNames .nil pass0 (pa_cons (pv 1) (pa_cons (pe_call GDraw hr rfl hDraw kDraw bDraw .nil pass0 (pa_cons (pv 1) (pa_cons pe_int pa_nil))) pa_nil))) pa_nil)))))
      (pss_cons (ps_set (i := 4) scLaw.nd rfl (Or.inr rfl) (pe_call GLight hr rfl hLight kLight bLight .nil pass0 (pa_cons (pv 2) (pa_cons (pv 3) pa_nil))))
      (pss_cons (ps_if (pt_cmpR (op_nes hr.units) (pv 4) (pe_call GBest hr rfl hBest kBest bBest .nil pass0 (pa_cons (pv 2) (pa_cons (pv 3) pa_nil))) (nomark _)) (pss_one (ps_ret pe_bl)) pss_nil)
      (pss_cons (ps_set (i := 5) scLaw.nd rfl (Or.inr rfl) (pe_call GDraw hr rfl hDraw kDraw bDraw .nil pass0 (pa_cons (pv 1) (pa_cons (pe_op op_sub (pe_op op_add pe_int (pe_op op_pow pe_int pe_int)) (pe_callB (call_maxL rfl) (by rfl) T.max (by decide +kernel) (pa_cons (pe_op op_cat (pe_lst (pa_cons pe_int pa_nil)) (pe_comp (T := ["_law_tie"]) (F := []) (js := []) (CS.to (osc := defScope sLaw) ⟨by rfl, by decide +kernel, by decide +kernel, by decide +kernel, by decide +kernel, by decide +kernel, by decide +kernel⟩ rfl rfl) rfl (pi_tup (pv 3)) (fun _ _ _ _ _ => pg_name (i := 0) (show (["_law_tie"] : List Str).Nodup by decide +kernel) rfl (Or.inl rfl)) (fun _ _ _ _ _ => pif_nil) (fun _ _ _ _ _ => pe_ix (r := rIxT K) ix_tup (pv 0) pe_int (fun _ _ => rfl)))) pa_nil))) pa_nil))))
      (pss_cons (ps_set (i := 6) scLaw.nd rfl (Or.inl rfl) (pe_callTy call_tuple_of (by rfl) T.tuple (by decide +kernel) (pa_cons (pe_comp (T := ["_law_name", "_law_one", "_law_other", "_law_weight_here"]) (F := ["_law_more"]) (js := [5]) (CS.to (osc := defScope sLaw) ⟨by rfl, by decide +kernel, by decide +kernel, by decide +kernel, by decide +kernel, by decide +kernel, by decide +kernel⟩ rfl rfl) rfl (pi_tup (pv 3)) (fun _ _ _ _ _ => pg_tupK K 4 rfl rfl (pgs_cons (pg_name (i := 0) (show (["_law_name", "_law_one", "_law_other", "_law_weight_here", "_law_more"] : List Str).Nodup by decide +kernel) rfl (Or.inl rfl)) (pgs_cons (pg_name (i := 1) (show (["_law_name", "_law_one", "_law_other", "_law_weight_here", "_law_more"] : List Str).Nodup by decide +kernel) rfl (Or.inl rfl)) (pgs_cons (pg_name (i := 2) (show (["_law_name", "_law_one", "_law_other", "_law_weight_here", "_law_more"] : List Str).Nodup by decide +kernel) rfl (Or.inl rfl)) (pgs_cons (pg_name (i := 3) (show (["_law_name", "_law_one", "_law_other", "_law_weight_here", "_law_more"] : List Str).Nodup by decide +kernel) rfl (Or.inl rfl)) pgs_nil))))) (fun _ _ _ _ _ => pif_nil) (fun _ _ _ _ _ => pe_tup (pa_cons (pv 0) (pa_cons (pv 1) (pa_cons (pv 2) (pa_cons (pe_op op_add (pv 3) (pv 4)) pa_nil)))))) pa_nil)))
      (pss_cons (ps_set (i := 7) scLaw.nd rfl (Or.inr rfl) (pe_call GDraw hr rfl hDraw kDraw bDraw .nil pass0 (pa_cons (pv 1) (pa_cons (pv 2) pa_nil))))
      (pss_cons (ps_set (i := 8) scLaw.nd rfl (Or.inl rfl) (pe_callTy call_tuple_of (by rfl) T.tuple (by decide +kernel) (pa_cons (pe_comp (T := ["_law_name", "_law_one", "_law_other", "_law_weight_here"]) (F := ["_law_many", "_law_step"]) (js := [2, 7]) (CS.to (osc := defScope sLaw) ⟨by rfl, by decide +kernel, by decide +kernel, by decide +kernel, by decide +kernel, by decide +kernel, by decide +kernel⟩ rfl rfl) rfl (pi_tup (pv 3)) (fun _ _ _ _ _ => pg_tupK K 4 rfl rfl (pgs_cons (pg_name (i := 0) (show (["_law_name", "_law_one", "_law_other", "_law_weight_here", "_law_many", "_law_step"] : List Str).Nodup by decide +kernel) rfl (Or.inl rfl)) (pgs_cons (pg_name (i := 1) (show (["_law_name", "_law_one", "_law_other", "_law_weight_here", "_law_many", "_law_step"] : List Str).Nodup by decide +kernel) rfl (Or.inl rfl)) (pgs_cons (pg_name (i := 2) (show (["_law_name", "_law_one", "_law_other", "_law_weight_here", "_law_many", "_law_step"] : List Str).Nodup by decide +kernel) rfl (Or.inl rfl)) (pgs_cons (pg_name (i := 3) (show (["_law_name", "_law_one", "_law_other", "_law_weight_here", "_law_many", "_law_step"] : List Str).Nodup by decide +kernel) rfl (Or.inl rfl)) pgs_nil))))) (fun _ _ _ _ _ => pif_nil) (fun _ _ _ _ _ => pe_tup (pa_cons (pv 0) (pa_cons (pe_op op_mod (pe_op op_add (pv 1) (pv 5)) (pv 4)) (pa_cons (pe_op op_mod (pe_op op_add (pv 2) (pv 5)) (pv 4)) (pa_cons (pv 3) pa_nil)))))) pa_nil)))
      (pss_cons (ps_set (i := 9) scLaw.nd rfl (Or.inl rfl) (pe_callTy call_tuple_of (by rfl) T.tuple (by decide +kernel) (pa_cons (pe_comp (T := ["_law_tie"]) (F := ["_law_found"]) (js := [4]) (CS.to (osc := defScope sLaw) ⟨by rfl, by decide +kernel, by decide +kernel, by decide +kernel, by decide +kernel, by decide +kernel, by decide +kernel⟩ rfl rfl) rfl (pi_tup (pv 3)) (fun _ _ _ _ _ => pg_name (i := 0) (show (["_law_tie", "_law_found"] : List Str).Nodup by decide +kernel) rfl (Or.inl rfl)) (fun _ _ _ _ _ => pif_one (pt_cmpR (r := rIn K false) op_in_seq (pe_ix (r := rIxT K) ix_tup (pv 0) pe_int (fun _ _ => rfl)) (pv 1) (by rfl))) (fun _ _ _ _ _ => pv 0)) pa_nil)))
      (pss_one (ps_ret (pe_cmpR (op_eqs hr.units) (pe_comp (T := ["_law_some"]) (F := ["_law_many"]) (js := [2]) (CS.to (osc := defScope sLaw) ⟨by rfl, by decide +kernel, by decide +kernel, by decide +kernel, by decide +kernel, by decide +kernel, by decide +kernel⟩ rfl rfl) rfl (pi_tup (pe_tup (pa_cons (pv 6) (pa_cons (pv 8) (pa_cons (pv 9) pa_nil))))) (fun _ _ _ _ _ => pg_name (i := 0) (show (["_law_some", "_law_many"] : List Str).Nodup by decide +kernel) rfl (Or.inl rfl)) (fun _ _ _ _ _ => pif_nil) (fun _ _ _ _ _ => pe_call GLight hr rfl hLight kLight bLight .nil pass0 (pa_cons (pv 1) (pa_cons (pv 0) pa_nil)))) (pe_op op_rep (pe_lst (pa_cons (pv 4) pa_nil)) pe_int) (nomark _))))))))))))), ?_⟩
    refine ⟨_, rfl, s, ns, rfl, hS, hl, fun a c H1 s1 an cn w1 => ?_⟩
    refine ⟨_, rfl, a, c, 6, rfl, w1, by decide, by decide, fun v H2 v0 v1 b2 w2 => ⟨_, _, rfl, rfl, ?_⟩⟩
    obtain ⟨v, rfl⟩ := nat_of v0
    obtain ⟨N, hN⟩ : ∃ N : Nat, N = 1 + v := ⟨_, rfl⟩
    have N1 : 1 ≤ N := by omega
    have N6 : N ≤ 6 := by omega
    rw [show (1 : Int) + (v : Int) = (N : Int) by omega]
    refine ⟨_, rfl, _, rfl, _, rfl, _, rfl, a, c, 8, rfl, w2, by decide, by decide, fun x H3 x0 x1 b3 w3 => ?_⟩
    obtain ⟨x, rfl⟩ := nat_of x0
    refine ⟨a, c, x, rfl, w3, by omega, fun nm zs H4 b4 w4 n4 nna nnc zl znd => ?_⟩
    refine ⟨a, c, nm, N, zs, rfl, w4, N1, by omega, n4, nna, nnc, znd, by omega, fun st S H5 b5 w5 hst hS Sl wB => ?_⟩
    have S7 : S.length ≤ 7 := by omega
    have SN := hS.inn
    have N60 : N ≤ 60 := by omega
    refine ⟨_, rfl, _, rfl, N, st, S, rfl, hst, SN, N60, by omega, fun fo H6 s6 e6 => ?_⟩
    refine ⟨_, rfl, _, rfl, _, rfl, N, st, S, rfl, hst.same s6, hS, N60, S7, fun be H7 s7 e7 => ?_⟩
    have eqA := Eqs.flats (K := K) (n := 0) (SqT.of (s7 _ _ e6)) (SqT.of e7) (flt_strs _)
    rw [decide_eq_true rfl] at eqA
    refine ⟨0, true, fo, be, rfl, rfl, by decide, eqA, _, rfl, iteF ?_⟩
    dsimp only [tNext]
    have S57 := s6.trans s7
    have hst7 := hst.same S57
    have w7 := w5.same S57
    have fo7 := s7 _ _ e6
    obtain ⟨rs, est7, hrs7⟩ := id hst7
    clear eqA e7 e6 S57 hst
    have t9 : (10 : Int) ^ (9 : Int).toNat = 1000000000 := by decide
    refine ⟨_, rfl, _, _, rfl, rfl, ⟨by decide, by decide, by decide⟩, _, _, rfl, rfl, small (by simp), fun q hq => ?_⟩
    have s8 := same_new (o := .lst [.int 0]) hq
    have q8 := upd_same (H := H7) (a := q) (o := .lst [.int 0])
    generalize upd H7 q (.lst [.int 0]) = H8 at s8 q8
    have est8 := s8 _ _ est7
    have hrs8 := hrs7.same s8
    refine ⟨_, rfl, st, rfl, ⟨_, SqT.of est8⟩, fun D hD => comp_tup (K := K) (a := st) (xs := rs.map V.ref) (fun j σ ys H9 => ∃ (u : Option V), σ = [u] ∧ ys = ((S.take j).map fun t => t.2.2.2).map V.int ∧ Same H8 H9 ∧ H9 D = some (.lst ys)) ⟨none, rfl, rfl, same_new hD, upd_same⟩ (fun j σ ys H9 _ ⟨_, _, _, e, f⟩ => ⟨SqT.of (e _ _ est8), f⟩) ?_ ?_⟩
    · rintro j x' σ ys H9 hx' ⟨u, rfl, rfl, s9, D9⟩
      obtain ⟨r, hr', rfl⟩ := map_some hx'
      obtain ⟨t, ht, er'⟩ := hrs8.get hr'
      have hj : j < S.length := (List.getElem?_eq_some_iff.mp ht).1
      exact ⟨_, rfl, r, _, 3, _, rfl, rfl, SqT.of (s9 _ _ er'), atI_nat (j := 3) rfl, D9, small1000 (by rw [List.length_map, List.length_map, List.length_take]; omega), _, rfl, by rw [List.take_add_one, ht, List.map_append, List.map_append]; rfl, same_set s9 hD, upd_same⟩
    rintro σ ys H9 ⟨u, rfl, rfl, s9, D9⟩
    rw [List.length_map, hrs8.1, List.take_length] at D9
    refine ⟨q, D, _, _, rfl, rfl, s9 _ _ q8, D9, small (by rw [List.length_map, List.length_map]; simp; omega), fun ml hml => ?_⟩
    have sA := same_new (o := .lst ([.int 0] ++ (S.map fun t => t.2.2.2).map V.int)) hml
    have eA : upd H9 ml (.lst ([.int 0] ++ (S.map fun t => t.2.2.2).map V.int)) ml = some (.lst ((0 :: S.map fun t => t.2.2.2).map V.int)) := upd_same
    generalize upd H9 ml (.lst ([.int 0] ++ (S.map fun t => t.2.2.2).map V.int)) = HA at sA eA
    have S7A := (s8.trans s9).trans sA
    refine ⟨ml, _, rfl, SqL.of eA, by simp, fun m mm mle => ?_⟩
    have m0 : 0 ≤ m := mle 0 (List.mem_cons_self ..)
    have m9 : m ≤ 1000000000 := by
      rcases List.mem_cons.mp mm with z | z
      · omega
      · obtain ⟨t, ht, rfl⟩ := List.mem_map.mp z
        exact wB t ht
    have wA := w7.same S7A
    refine ⟨_, _, rfl, rfl, a, c, _, rfl, wA, by rw [t9]; omega, by rw [t9]; omega, fun more HB _ _ bB wB' => ?_⟩
    have hstB := (hst7.same S7A).but wA bB
    have foB := bB.tup wA (S7A _ _ fo7)
    clear eA sA S7A s9 D9 hD s8 q8 est8 hrs8 est7 hrs7
    obtain ⟨rs, estB, hrsB⟩ := id hstB
    refine ⟨_, rfl, st, rfl, ⟨_, SqT.of estB⟩, fun D hD => comp_tup (K := K) (a := st) (xs := rs.map V.ref) (fun j σ ys H6 => ∃ (u0 u1 u2 u3 : Option V) (as : List Addr), σ = [u0, u1, u2, u3, some (.int more)] ∧ ys = as.map V.ref ∧ Same HB H6 ∧ H6 D = some (.lst ys) ∧ TiesAt H6 as ((S.take j).map (mvT more))) ⟨none, none, none, none, [], rfl, rfl, same_new hD, upd_same, rfl, fun i r t e => by simp at e⟩ (fun j σ ys H6 _ ⟨_, _, _, _, _, _, _, e, g, _⟩ => ⟨SqT.of (e _ _ estB), g⟩) ?_ ?_⟩
    · rintro j x σ ys H6 hx ⟨u0, u1, u2, u3, as, rfl, rfl, s6, D6, ta⟩
      obtain ⟨r, hr', rfl⟩ := map_some hx
      obtain ⟨t, ht, er⟩ := hrsB.get hr'
      have hj : j < S.length := (List.getElem?_eq_some_iff.mp ht).1
      have al : as.length ≤ j := by rw [ta.1, List.length_map, List.length_take]; omega
      have er6 := s6 _ _ er
      refine ⟨r, _, rfl, SqT.of er6, rfl, _, _, rfl, _, _, rfl, _, _, rfl, _, _, rfl, rfl, ?_⟩
      refine ⟨_, rfl, _, rfl, _, rfl, _, rfl, _, rfl, _, _, rfl, rfl, small (by simp), fun p hp => ?_⟩
      have s7 := same_new (o := .tup [.str t.1, .int (t.2.1 : Int), .int (t.2.2.1 : Int), .int (t.2.2.2 + more)]) hp
      have p7 : upd H6 p (.tup [.str t.1, .int (t.2.1 : Int), .int (t.2.2.1 : Int), .int (t.2.2.2 + more)]) p = some (.tup (tieV ((mvT more) t))) := by rw [upd_same]; rfl
      have D7 := s7 _ _ D6
      have ta7 := ta.same s7
      generalize upd H6 p (.tup [.str t.1, .int (t.2.1 : Int), .int (t.2.2.1 : Int), .int (t.2.2.2 + more)]) = H7 at s7 p7 D7 ta7
      exact ⟨D7, small1000 (by rw [List.length_map]; omega), _, _, _, _, as ++ [p], rfl, by rw [List.map_append]; rfl, same_set (s6.trans s7) hD, upd_same, map_push ta7 ht p7 D7⟩
    rintro σ ys HCa ⟨u0, u1, u2, u3, asC, rfl, rfl, sCa, D6, ta⟩
    rw [List.length_map, hrsB.1, List.take_length] at ta
    refine ⟨D, _, rfl, .inl ⟨SqL.of D6, fun tuC htu => ?_⟩⟩
    have sCb := same_new (o := .tup (asC.map V.ref)) htu
    have stC : StandT (upd HCa tuC (.tup (asC.map V.ref))) tuC (S.map (mvT more)) := ⟨asC, upd_same, ta.same sCb⟩
    have sC := sCa.trans sCb
    generalize upd HCa tuC (.tup (asC.map V.ref)) = HC at sCb stC sC
    clear D6 hD ta
    have hstC := hstB.same sC
    have wC := wB'.same sC
    refine ⟨_, rfl, _, rfl, a, c, _, rfl, wC, by omega, by omega, fun sp HD sp0 sp1 bD wD => ?_⟩
    obtain ⟨sp, rfl⟩ := nat_of sp0
    have spN : sp < N := by omega
    have hstD := hstC.but wC bD
    have moD := stC.but wC bD
    have foD := bD.tup wC (sC _ _ foB)
    clear estB hrsB hstB hstC stC asC
    obtain ⟨rs, estD, hrsD⟩ := id hstD
    have mi : ∀ x : Nat, (((x : Int) + (sp : Int)) % (N : Int)) = (((x + sp) % N : Nat) : Int) := fun x => by rw [← Int.natCast_add]; simp
    refine ⟨_, rfl, st, rfl, ⟨_, SqT.of estD⟩, fun D hD => comp_tup (K := K) (a := st) (xs := rs.map V.ref) (fun j σ ys H6 => ∃ (u0 u1 u2 u3 : Option V) (as : List Addr), σ = [u0, u1, u2, u3, some (.int (N : Int)), some (.int (sp : Int))] ∧ ys = as.map V.ref ∧ Same HD H6 ∧ H6 D = some (.lst ys) ∧ TiesAt H6 as ((S.take j).map (rtT N sp))) ⟨none, none, none, none, [], rfl, rfl, same_new hD, upd_same, rfl, fun i r t e => by simp at e⟩ (fun j σ ys H6 _ ⟨_, _, _, _, _, _, _, e, g, _⟩ => ⟨SqT.of (e _ _ estD), g⟩) ?_ ?_⟩
    · rintro j x σ ys H6 hx ⟨u0, u1, u2, u3, as, rfl, rfl, s6, D6, ta⟩
      obtain ⟨r, hr', rfl⟩ := map_some hx
      obtain ⟨t, ht, er⟩ := hrsD.get hr'
      have hj : j < S.length := (List.getElem?_eq_some_iff.mp ht).1
      have al : as.length ≤ j := by rw [ta.1, List.length_map, List.length_take]; omega
      have er6 := s6 _ _ er
      refine ⟨r, _, rfl, SqT.of er6, rfl, _, _, rfl, _, _, rfl, _, _, rfl, _, _, rfl, rfl, ?_⟩
      refine ⟨_, rfl, _, rfl, _, rfl, _, _, rfl, rfl, _, rfl, _, _, rfl, rfl, (by show (0 : Int) < N; omega), _, rfl, _, rfl, _, _, rfl, rfl, _, rfl, _, _, rfl, rfl, (by show (0 : Int) < N; omega), _, rfl, small (by simp), fun p hp => ?_⟩
      have s7 := same_new (o := .tup [.str t.1, .int (((t.2.1 : Int) + (sp : Int)) % (N : Int)), .int (((t.2.2.1 : Int) + (sp : Int)) % (N : Int)), .int t.2.2.2]) hp
      have p7 : upd H6 p (.tup [.str t.1, .int (((t.2.1 : Int) + (sp : Int)) % (N : Int)), .int (((t.2.2.1 : Int) + (sp : Int)) % (N : Int)), .int t.2.2.2]) p = some (.tup (tieV ((rtT N sp) t))) := by rw [upd_same, mi, mi]; rfl
      have D7 := s7 _ _ D6
      have ta7 := ta.same s7
      generalize upd H6 p (.tup [.str t.1, .int (((t.2.1 : Int) + (sp : Int)) % (N : Int)), .int (((t.2.2.1 : Int) + (sp : Int)) % (N : Int)), .int t.2.2.2]) = H7 at s7 p7 D7 ta7
      exact ⟨D7, small1000 (by rw [List.length_map]; omega), _, _, _, _, as ++ [p], rfl, by rw [List.map_append]; rfl, same_set (s6.trans s7) hD, upd_same, map_push ta7 ht p7 D7⟩
    rintro σ ys HEa ⟨u0, u1, u2, u3, asE, rfl, rfl, sEa, D6, ta⟩
    rw [List.length_map, hrsD.1, List.take_length] at ta
    refine ⟨D, _, rfl, .inl ⟨SqL.of D6, fun tuE htu => ?_⟩⟩
    have sEb := same_new (o := .tup (asE.map V.ref)) htu
    have stE : StandT (upd HEa tuE (.tup (asE.map V.ref))) tuE (S.map (rtT N sp)) := ⟨asE, upd_same, ta.same sEb⟩
    have sE := sEa.trans sEb
    generalize upd HEa tuE (.tup (asE.map V.ref)) = HE at sEb stE sE
    clear D6 hD ta
    have foE := sE _ _ foD
    have moE := moD.same sE
    obtain ⟨rs2, estE, hrsE⟩ := hstD.same sE
    refine ⟨_, rfl, st, rfl, ⟨_, SqT.of estE⟩, fun D hD => comp_tup (K := K) (a := st) (xs := rs2.map V.ref) (fun j σ ys H6 => ∃ (u : Option V) (fs : List Addr), σ = [u, some (.ref fo)] ∧ ys = fs.map V.ref ∧ Same HE H6 ∧ H6 D = some (.lst ys) ∧ fs.length ≤ j ∧ TiesAt H6 fs ((S.take j).filter (nmB (lightF N S)))) ⟨none, [], rfl, rfl, same_new hD, upd_same, Nat.le_refl _, rfl, fun i r t e => by simp at e⟩ (fun j σ ys H6 _ ⟨_, _, _, _, e, f, _⟩ => ⟨SqT.of (e _ _ estE), f⟩) ?_ ?_⟩
    · rintro j x σ ys H6 hx ⟨u, fs, rfl, rfl, s6, D6, fl, ft⟩
      obtain ⟨r, hr', rfl⟩ := map_some hx
      obtain ⟨t, ht, er⟩ := hrsE.get hr'
      have hj : j < S.length := (List.getElem?_eq_some_iff.mp ht).1
      have er6 := s6 _ _ er
      have hc6 := s6 _ _ foE
      refine ⟨_, rfl, r, _, 0, _, rfl, rfl, SqT.of er6, atI_nat (j := 0) rfl, _, rfl, fo, _, rfl, .inr (SqT.of hc6), rfl, flat_strs _, _, rfl, ?_⟩
      have eb : (if false = true then !inV (.str t.1) ((lightF N S).map V.str) else inV (.str t.1) ((lightF N S).map V.str)) = nmB (lightF N S) t := by rw [if_neg (by decide), inV_strs]; rfl
      rw [eb]
      cases hg : nmB (lightF N S) t with
      | true => exact iteT ⟨_, rfl, D6, small1000 (by rw [List.length_map]; omega), _, fs ++ [r], rfl, by rw [List.map_append]; rfl, same_set s6 hD, upd_same, by rw [List.length_append]; show _ + 1 ≤ _; omega, filt_push ft ht er6 D6 hg⟩
      | false => exact iteF ⟨_, fs, rfl, rfl, s6, D6, by omega, filt_skip ft ht hg⟩
    rintro σ ys HF ⟨u, fs, rfl, rfl, sF, DF, _, ft⟩
    rw [List.length_map, hrsE.1, List.take_length, show S.filter (nmB (lightF N S)) = foF N S from named_fo hS.nd] at ft
    refine ⟨D, _, rfl, .inl ⟨SqL.of DF, fun lf hlf => ?_⟩⟩
    have sG := same_new (o := .tup (fs.map V.ref)) hlf
    have stG : StandT (upd HF lf (.tup (fs.map V.ref))) lf (foF N S) := ⟨fs, upd_same, ft.same sG⟩
    have SEG := sF.trans sG
    generalize upd HF lf (.tup (fs.map V.ref)) = HG at sG stG SEG
    clear DF hD ft
    have foG := SEG _ _ foE
    have moG := moE.same SEG
    have awG := stE.same SEG
    refine ⟨_, rfl, _, rfl, _, rfl, small (by simp), fun tt htt => ?_⟩
    have sH := same_new (o := .tup [.ref tuC, .ref tuE, .ref lf]) htt
    have eH := upd_same (H := HG) (a := tt) (o := .tup [.ref tuC, .ref tuE, .ref lf])
    generalize upd HG tt (.tup [.ref tuC, .ref tuE, .ref lf]) = HH at sH eH
    have all : ∀ x ∈ ([.ref tuC, .ref tuE, .ref lf] : List V), ∃ (p : Addr) (R : List T4), x = .ref p ∧ StandT HH p R ∧ InN N R ∧ R.length ≤ 7 ∧ lightF N R = lightF N S := fun x hx => by
      rcases List.mem_cons.mp hx with rfl | hx
      · exact ⟨tuC, _, rfl, moG.same sH, (fun t ht => by obtain ⟨u, hu, rfl⟩ := List.mem_map.mp ht; exact SN u hu), by rw [List.length_map]; exact S7, light_mv SN N60 more⟩
      rcases List.mem_cons.mp hx with rfl | hx
      · exact ⟨tuE, _, rfl, awG.same sH, (fun t ht => by obtain ⟨u, hu, rfl⟩ := List.mem_map.mp ht; exact ⟨Nat.mod_lt _ (by omega), Nat.mod_lt _ (by omega)⟩), by rw [List.length_map]; exact S7, light_rt SN N60 spN⟩
      · rw [List.mem_singleton.mp hx]
        exact ⟨lf, _, rfl, stG.same sH, fo_in SN, Nat.le_trans fo_len S7, light_fo SN N60⟩
    refine ⟨tt, rfl, ⟨_, SqT.of eH⟩, fun D hD => comp_tup (K := K) (a := tt) (xs := [.ref tuC, .ref tuE, .ref lf]) (fun j σ ys HI => ∃ (u : Option V) (gs : List Addr), σ = [u, some (.int (N : Int))] ∧ ys = gs.map V.ref ∧ Same HH HI ∧ HI D = some (.lst ys) ∧ gs.length = j ∧ ∀ g ∈ gs, HI g = some (.tup ((lightF N S).map V.str))) ⟨none, [], rfl, rfl, same_new hD, upd_same, rfl, fun g hg => by cases hg⟩ (fun j σ ys HI _ ⟨_, _, _, _, e, f, _⟩ => ⟨SqT.of (e _ _ eH), f⟩) ?_ ?_⟩
    · rintro j x σ ys HI hx ⟨u, gs, rfl, rfl, sI, DI, gl, hg⟩
      have hj : j < 3 := (List.getElem?_eq_some_iff.mp hx).1
      obtain ⟨p, R, rfl, hR, RN, Rl, eR⟩ := all x (List.mem_of_getElem? hx)
      refine ⟨_, rfl, _, rfl, N, p, R, rfl, hR.same sI, RN, N60, by omega, fun g HJ sJ eJ => ?_⟩
      rw [eR] at eJ
      have DJ := sJ _ _ DI
      have kT : ∀ r zs', HJ r = some (.tup zs') → upd HJ D (.lst (gs.map V.ref ++ [.ref g])) r = some (.tup zs') := fun r zs' e => by rw [upd_ne (ne_of e DJ (by intro z; cases z))]; exact e
      refine ⟨DJ, small1000 (by rw [List.length_map]; omega), _, gs ++ [g], rfl, by rw [List.map_append]; rfl, same_set (sI.trans sJ) hD, upd_same, by rw [List.length_append, gl]; rfl, fun g' hg' => ?_⟩
      rcases List.mem_append.mp hg' with z | z
      · exact kT _ _ (sJ _ _ (hg g' z))
      · rw [List.mem_singleton.mp z]; exact kT _ _ eJ
    rintro σ ys HI ⟨u, gs, rfl, rfl, sI, DI, gl, hg⟩
    have gl : gs.length = 3 := gl
    refine ⟨_, rfl, small (by simp), fun q1 hq1 => ?_⟩
    have sJ := same_new (o := .lst [.ref fo]) hq1
    have qJ := upd_same (H := HI) (a := q1) (o := .lst [.ref fo])
    generalize upd HI q1 (.lst [.ref fo]) = HJ at sJ qJ
    refine ⟨q1, _, _, rfl, rfl, qJ, by decide, by decide, small (by simp), fun q2 hq2 => ?_⟩
    have sK := same_new (o := .lst (List.replicate (3 : Int).toNat [V.ref fo]).flatten) hq2
    have qK : upd HJ q2 (.lst (List.replicate (3 : Int).toNat [V.ref fo]).flatten) q2 = some (.lst [.ref fo, .ref fo, .ref fo]) := upd_same
    generalize upd HJ q2 (.lst (List.replicate (3 : Int).toNat [V.ref fo]).flatten) = HK at sK qK
    have SIK := sJ.trans sK
    have foK := SIK _ _ (sI _ _ (sH _ _ foG))
    have eqB := Eqs.seq (K := K) (H := HK) (n := 1) (a := D) (c := q2) (ds := List.replicate 3 ()) (es := List.replicate 3 ()) (.inr ⟨SqL.of (SIK _ _ DI), SqL.of qK⟩) (by simp [gl]) (by simp) fun j p q u v hp hq _ _ => by
      obtain ⟨g, hgj, rfl⟩ := map_some hp
      have eq : q = .ref fo := by
        have := List.mem_of_getElem? hq
        simpa using this
      subst eq
      have t := Eqs.flats (K := K) (n := 0) (SqT.of (SIK _ _ (hg g (List.mem_of_getElem? hgj)))) (SqT.of foK) (flt_strs _)
      rw [decide_eq_true rfl] at t
      rw [decide_eq_true (by rfl)]
      exact t
    rw [decide_eq_true rfl] at eqB
    exact ⟨1, true, D, q2, rfl, rfl, by decide, eqB, k _⟩
end
end K46
set_option maxHeartbeats 4000000
namespace K46
open PySem L2 Wk
theorem us1 {fd : FuncData} {ps : List Str} (hp : ps.length = 1) (h : ∀ a0 : Value, bindArgs fd ⟨[a0], []⟩ = pure (ps.zip [a0])) : ∀ us : List Value, us.length = ps.length → bindArgs fd ⟨us, []⟩ = pure (ps.zip us) := fun us hl => match us, hl.trans hp with | [a0], _ => h a0
theorem us2 {fd : FuncData} {ps : List Str} (hp : ps.length = 2) (h : ∀ a0 a1 : Value, bindArgs fd ⟨[a0, a1], []⟩ = pure (ps.zip [a0, a1])) : ∀ us : List Value, us.length = ps.length → bindArgs fd ⟨us, []⟩ = pure (ps.zip us) := fun us hl => match us, hl.trans hp with | [a0, a1], _ => h a0 a1
theorem us3 {fd : FuncData} {ps : List Str} (hp : ps.length = 3) (h : ∀ a0 a1 a2 : Value, bindArgs fd ⟨[a0, a1, a2], []⟩ = pure (ps.zip [a0, a1, a2])) : ∀ us : List Value, us.length = ps.length → bindArgs fd ⟨us, []⟩ = pure (ps.zip us) := fun us hl => match us, hl.trans hp with | [a0, a1, a2], _ => h a0 a1 a2
theorem us4 {fd : FuncData} {ps : List Str} (hp : ps.length = 4) (h : ∀ a0 a1 a2 a3 : Value, bindArgs fd ⟨[a0, a1, a2, a3], []⟩ = pure (ps.zip [a0, a1, a2, a3])) : ∀ us : List Value, us.length = ps.length → bindArgs fd ⟨us, []⟩ = pure (ps.zip us) := fun us hl => match us, hl.trans hp with | [a0, a1, a2, a3], _ => h a0 a1 a2 a3
theorem all_mk {l : PySem.W.OpenLaw} {w : World} {K : PySem.W.Frag} {h : Heap} {mg : Str → Option Value} {fa f0 f1 f2 f3 f4 f5 f6 f7 f8 f9 f10 f11 f12 f13 f14 f15 f16 f17 : Addr} (X : K.In h) (G : h.Ns mainGlobals mg) (hfa : mg "law" = some (.ref fa))
    {od0 an0 od1 an1 od2 an2 od3 an3 od4 an4 od5 an5 od6 an6 od7 an7 od8 an8 od9 an9 od10 an10 od11 an11 od12 an12 od13 an13 od14 an14 od15 an15 od16 an16 od17 an17 : Option Addr} {sl0 sl1 sl2 sl3 sl4 sl5 sl6 sl7 sl8 sl9 sl10 sl11 sl12 sl13 sl14 sl15 sl16 sl17 : Array (Option Value)} {oc0 kV0 dc0 pm0 cd0 ct0 oc1 kV1 dc1 pm1 cd1 ct1 oc2 kV2 dc2 pm2 cd2 ct2 oc3 kV3 dc3 pm3 cd3 ct3 oc4 kV4 dc4 pm4 cd4 ct4 oc5 kV5 dc5 pm5 cd5 ct5 oc6 kV6 dc6 pm6 cd6 ct6 oc7 kV7 dc7 pm7 cd7 ct7 oc8 kV8 dc8 pm8 cd8 ct8 oc9 kV9 dc9 pm9 cd9 ct9 oc10 kV10 dc10 pm10 cd10 ct10 oc11 kV11 dc11 pm11 cd11 ct11 oc12 kV12 dc12 pm12 cd12 ct12 oc13 kV13 dc13 pm13 cd13 ct13 oc14 kV14 dc14 pm14 cd14 ct14 oc15 kV15 dc15 pm15 cd15 ct15 oc16 kV16 dc16 pm16 cd16 ct16 oc17 kV17 dc17 pm17 cd17 ct17 : Value}
    (a0 : PySem.W.nsIn K mainGlobals "beside_of" = some (some (.ref f0))) (l0 : K.lookup f0 = some ⟨oc0, od0, .func (PySem.W.fnOf "beside_of" "beside_of" (defArgs sBeside) (defBody sBeside) (defScope sBeside) .none kV0 dc0 pm0 an0 cd0 ct0), sl0⟩) (c0 : PySem.W.codeIn K cd0 "beside_of" = true) (k0 : PySem.W.keepIn K (.ref f0) = true)
    (a1 : PySem.W.nsIn K mainGlobals "ways_from" = some (some (.ref f1))) (l1 : K.lookup f1 = some ⟨oc1, od1, .func (PySem.W.fnOf "ways_from" "ways_from" (defArgs sWays) (defBody sWays) (defScope sWays) .none kV1 dc1 pm1 an1 cd1 ct1), sl1⟩) (c1 : PySem.W.codeIn K cd1 "ways_from" = true) (k1 : PySem.W.keepIn K (.ref f1) = true)
    (a2 : PySem.W.nsIn K mainGlobals "part_of" = some (some (.ref f2))) (l2 : K.lookup f2 = some ⟨oc2, od2, .func (PySem.W.fnOf "part_of" "part_of" (defArgs sPart) (defBody sPart) (defScope sPart) .none kV2 dc2 pm2 an2 cd2 ct2), sl2⟩) (c2 : PySem.W.codeIn K cd2 "part_of" = true) (k2 : PySem.W.keepIn K (.ref f2) = true)
    (a3 : PySem.W.nsIn K mainGlobals "are_joined" = some (some (.ref f3))) (l3 : K.lookup f3 = some ⟨oc3, od3, .func (PySem.W.fnOf "are_joined" "are_joined" (defArgs sJoined) (defBody sJoined) (defScope sJoined) .none kV3 dc3 pm3 an3 cd3 ct3), sl3⟩) (c3 : PySem.W.codeIn K cd3 "are_joined" = true) (k3 : PySem.W.keepIn K (.ref f3) = true)
    (a4 : PySem.W.nsIn K mainGlobals "rank_of" = some (some (.ref f4))) (l4 : K.lookup f4 = some ⟨oc4, od4, .func (PySem.W.fnOf "rank_of" "rank_of" (defArgs sRank) (defBody sRank) (defScope sRank) .none kV4 dc4 pm4 an4 cd4 ct4), sl4⟩) (c4 : PySem.W.codeIn K cd4 "rank_of" = true) (k4 : PySem.W.keepIn K (.ref f4) = true)
    (a5 : PySem.W.nsIn K mainGlobals "is_ahead" = some (some (.ref f5))) (l5 : K.lookup f5 = some ⟨oc5, od5, .func (PySem.W.fnOf "is_ahead" "is_ahead" (defArgs sAhead) (defBody sAhead) (defScope sAhead) .none kV5 dc5 pm5 an5 cd5 ct5), sl5⟩) (c5 : PySem.W.codeIn K cd5 "is_ahead" = true) (k5 : PySem.W.keepIn K (.ref f5) = true)
    (a6 : PySem.W.nsIn K mainGlobals "ties_ahead" = some (some (.ref f6))) (l6 : K.lookup f6 = some ⟨oc6, od6, .func (PySem.W.fnOf "ties_ahead" "ties_ahead" (defArgs sTAhead) (defBody sTAhead) (defScope sTAhead) .none kV6 dc6 pm6 an6 cd6 ct6), sl6⟩) (c6 : PySem.W.codeIn K cd6 "ties_ahead" = true) (k6 : PySem.W.keepIn K (.ref f6) = true)
    (a7 : PySem.W.nsIn K mainGlobals "lightest" = some (some (.ref f7))) (l7 : K.lookup f7 = some ⟨oc7, od7, .func (PySem.W.fnOf "lightest" "lightest" (defArgs sLight) (defBody sLight) (defScope sLight) .none kV7 dc7 pm7 an7 cd7 ct7), sl7⟩) (c7 : PySem.W.codeIn K cd7 "lightest" = true) (k7 : PySem.W.keepIn K (.ref f7) = true)
    (a8 : PySem.W.nsIn K mainGlobals "_law_well" = some (some (.ref f8))) (l8 : K.lookup f8 = some ⟨oc8, od8, .func (PySem.W.fnOf "_law_well" "_law_well" (defArgs sWell) (defBody sWell) (defScope sWell) .none kV8 dc8 pm8 an8 cd8 ct8), sl8⟩) (c8 : PySem.W.codeIn K cd8 "_law_well" = true) (k8 : PySem.W.keepIn K (.ref f8) = true)
    (a9 : PySem.W.nsIn K mainGlobals "_law_draw" = some (some (.ref f9))) (l9 : K.lookup f9 = some ⟨oc9, od9, .func (PySem.W.fnOf "_law_draw" "_law_draw" (defArgs sDraw) (defBody sDraw) (defScope sDraw) .none kV9 dc9 pm9 an9 cd9 ct9), sl9⟩) (c9 : PySem.W.codeIn K cd9 "_law_draw" = true) (k9 : PySem.W.keepIn K (.ref f9) = true)
    (a10 : PySem.W.nsIn K mainGlobals "_law_names" = some (some (.ref f10))) (l10 : K.lookup f10 = some ⟨oc10, od10, .func (PySem.W.fnOf "_law_names" "_law_names" (defArgs sNames) (defBody sNames) (defScope sNames) .none kV10 dc10 pm10 an10 cd10 ct10), sl10⟩) (c10 : PySem.W.codeIn K cd10 "_law_names" = true) (k10 : PySem.W.keepIn K (.ref f10) = true)
    (a11 : PySem.W.nsIn K mainGlobals "_law_weight" = some (some (.ref f11))) (l11 : K.lookup f11 = some ⟨oc11, od11, .func (PySem.W.fnOf "_law_weight" "_law_weight" (defArgs sWeight) (defBody sWeight) (defScope sWeight) .none kV11 dc11 pm11 an11 cd11 ct11), sl11⟩) (c11 : PySem.W.codeIn K cd11 "_law_weight" = true) (k11 : PySem.W.keepIn K (.ref f11) = true)
    (a12 : PySem.W.nsIn K mainGlobals "_law_pair" = some (some (.ref f12))) (l12 : K.lookup f12 = some ⟨oc12, od12, .func (PySem.W.fnOf "_law_pair" "_law_pair" (defArgs sPair) (defBody sPair) (defScope sPair) .none kV12 dc12 pm12 an12 cd12 ct12), sl12⟩) (c12 : PySem.W.codeIn K cd12 "_law_pair" = true) (k12 : PySem.W.keepIn K (.ref f12) = true)
    (a13 : PySem.W.nsIn K mainGlobals "_law_stand" = some (some (.ref f13))) (l13 : K.lookup f13 = some ⟨oc13, od13, .func (PySem.W.fnOf "_law_stand" "_law_stand" (defArgs sStand) (defBody sStand) (defScope sStand) .none kV13 dc13 pm13 an13 cd13 ct13), sl13⟩) (c13 : PySem.W.codeIn K cd13 "_law_stand" = true) (k13 : PySem.W.keepIn K (.ref f13) = true)
    (a14 : PySem.W.nsIn K mainGlobals "_law_labels" = some (some (.ref f14))) (l14 : K.lookup f14 = some ⟨oc14, od14, .func (PySem.W.fnOf "_law_labels" "_law_labels" (defArgs sLLab) (defBody sLLab) (defScope sLLab) .none kV14 dc14 pm14 an14 cd14 ct14), sl14⟩) (c14 : PySem.W.codeIn K cd14 "_law_labels" = true) (k14 : PySem.W.keepIn K (.ref f14) = true)
    (a15 : PySem.W.nsIn K mainGlobals "_law_alike" = some (some (.ref f15))) (l15 : K.lookup f15 = some ⟨oc15, od15, .func (PySem.W.fnOf "_law_alike" "_law_alike" (defArgs sLAl) (defBody sLAl) (defScope sLAl) .none kV15 dc15 pm15 an15 cd15 ct15), sl15⟩) (c15 : PySem.W.codeIn K cd15 "_law_alike" = true) (k15 : PySem.W.keepIn K (.ref f15) = true)
    (a16 : PySem.W.nsIn K mainGlobals "_law_best" = some (some (.ref f16))) (l16 : K.lookup f16 = some ⟨oc16, od16, .func (PySem.W.fnOf "_law_best" "_law_best" (defArgs sBest) (defBody sBest) (defScope sBest) .none kV16 dc16 pm16 an16 cd16 ct16), sl16⟩) (c16 : PySem.W.codeIn K cd16 "_law_best" = true) (k16 : PySem.W.keepIn K (.ref f16) = true)
    (a17 : PySem.W.nsIn K mainGlobals "law" = some (some (.ref f17))) (l17 : K.lookup f17 = some ⟨oc17, od17, .func (PySem.W.fnOf "law" "law" (defArgs sLaw) (defBody sLaw) (defScope sLaw) .none kV17 dc17 pm17 an17 cd17 ct17), sl17⟩) (c17 : PySem.W.codeIn K cd17 "law" = true) (k17 : PySem.W.keepIn K (.ref f17) = true)
    (z0 : PySem.W.nsIn K mainGlobals "int" = some none) (z1 : PySem.W.nsIn K mainGlobals "tuple" = some none) (z2 : PySem.W.nsIn K mainGlobals "len" = some none) (z3 : PySem.W.nsIn K mainGlobals "range" = some none) (z4 : PySem.W.nsIn K mainGlobals "sum" = some none) (z5 : PySem.W.nsIn K mainGlobals "max" = some none) (z6 : PySem.W.nsIn K mainGlobals "min" = some none) (z7 : PySem.W.nsIn K mainGlobals "sorted" = some none) (z8 : PySem.W.nsIn K mainGlobals "list" = some none) (z9 : PySem.W.nsIn K mainGlobals "enumerate" = some none) (z10 : PySem.W.nsIn K mainGlobals "set" = some none) :
    ∃ fd : FuncData, (∀ (s : Shared) (v : Value), BindsTo s fd ⟨[v], []⟩ [("_law_script", v)]) ∧ ∀ base : Heap, K.In base → base.Ns mainGlobals mg → FnOk l.prog w K mg base CX0 6 fa fd ["_law_script"] (spLaw K) := by
  have e := hfa.symm.trans (PySem.W.mg_of X G a17)
  cases e
  have T : Txt mg := ⟨PySem.W.mg_none_of X G z0, PySem.W.mg_none_of X G z1, PySem.W.mg_none_of X G z2, PySem.W.mg_none_of X G z3, PySem.W.mg_none_of X G z4, PySem.W.mg_none_of X G z5, PySem.W.mg_none_of X G z6, PySem.W.mg_none_of X G z7, PySem.W.mg_none_of X G z8, PySem.W.mg_none_of X G z9, PySem.W.mg_none_of X G z10⟩
  have F0 := fun_mk (st := sBeside) l0 c0 k0
  have b0 := F0.binds (ps := ["many", "stand"]) fun _ _ _ _ _ _ => us2 rfl fun _ _ => rfl
  have m0 := PySem.W.mg_of X G a0
  have F1 := fun_mk (st := sWays) l1 c1 k1
  have b1 := F1.binds (ps := ["many", "stand", "place"]) fun _ _ _ _ _ _ => us3 rfl fun _ _ _ => rfl
  have m1 := PySem.W.mg_of X G a1
  have F2 := fun_mk (st := sPart) l2 c2 k2
  have b2 := F2.binds (ps := ["many", "stand", "place"]) fun _ _ _ _ _ _ => us3 rfl fun _ _ _ => rfl
  have m2 := PySem.W.mg_of X G a2
  have F3 := fun_mk (st := sJoined) l3 c3 k3
  have b3 := F3.binds (ps := ["many", "stand", "one", "other"]) fun _ _ _ _ _ _ => us4 rfl fun _ _ _ _ => rfl
  have m3 := PySem.W.mg_of X G a3
  have F4 := fun_mk (st := sRank) l4 c4 k4
  have b4 := F4.binds (ps := ["tie"]) fun _ _ _ _ _ _ => us1 rfl fun _ => rfl
  have m4 := PySem.W.mg_of X G a4
  have F5 := fun_mk (st := sAhead) l5 c5 k5
  have b5 := F5.binds (ps := ["tie", "other"]) fun _ _ _ _ _ _ => us2 rfl fun _ _ => rfl
  have m5 := PySem.W.mg_of X G a5
  have F6 := fun_mk (st := sTAhead) l6 c6 k6
  have b6 := F6.binds (ps := ["stand", "tie"]) fun _ _ _ _ _ _ => us2 rfl fun _ _ => rfl
  have m6 := PySem.W.mg_of X G a6
  have F7 := fun_mk (st := sLight) l7 c7 k7
  have b7 := F7.binds (ps := ["many", "stand"]) fun _ _ _ _ _ _ => us2 rfl fun _ _ => rfl
  have m7 := PySem.W.mg_of X G a7
  have F8 := fun_mk (st := sWell) l8 c8 k8
  have b8 := F8.binds (ps := ["_law_script"]) fun _ _ _ _ _ _ => us1 rfl fun _ => rfl
  have m8 := PySem.W.mg_of X G a8
  have F9 := fun_mk (st := sDraw) l9 c9 k9
  have b9 := F9.binds (ps := ["_law_well_here", "_law_most"]) fun _ _ _ _ _ _ => us2 rfl fun _ _ => rfl
  have m9 := PySem.W.mg_of X G a9
  have F10 := fun_mk (st := sNames) l10 c10 k10
  have b10 := F10.binds (ps := ["_law_well_here", "_law_many"]) fun _ _ _ _ _ _ => us2 rfl fun _ _ => rfl
  have m10 := PySem.W.mg_of X G a10
  have F11 := fun_mk (st := sWeight) l11 c11 k11
  have b11 := F11.binds (ps := ["_law_well_here", "_law_heavy"]) fun _ _ _ _ _ _ => us2 rfl fun _ _ => rfl
  have m11 := PySem.W.mg_of X G a11
  have F12 := fun_mk (st := sPair) l12 c12 k12
  have b12 := F12.binds (ps := ["_law_well_here", "_law_shape", "_law_many", "_law_k"]) fun _ _ _ _ _ _ => us4 rfl fun _ _ _ _ => rfl
  have m12 := PySem.W.mg_of X G a12
  have F13 := fun_mk (st := sStand) l13 c13 k13
  have b13 := F13.binds (ps := ["_law_well_here", "_law_many", "_law_names_here"]) fun _ _ _ _ _ _ => us3 rfl fun _ _ _ => rfl
  have m13 := PySem.W.mg_of X G a13
  have F14 := fun_mk (st := sLLab) l14 c14 k14
  have b14 := F14.binds (ps := ["_law_many", "_law_ties"]) fun _ _ _ _ _ _ => us2 rfl fun _ _ => rfl
  have m14 := PySem.W.mg_of X G a14
  have F15 := fun_mk (st := sLAl) l15 c15 k15
  have b15 := F15.binds (ps := ["_law_one", "_law_other"]) fun _ _ _ _ _ _ => us2 rfl fun _ _ => rfl
  have m15 := PySem.W.mg_of X G a15
  have F16 := fun_mk (st := sBest) l16 c16 k16
  have b16 := F16.binds (ps := ["_law_many", "_law_stand_here"]) fun _ _ _ _ _ _ => us2 rfl fun _ _ => rfl
  have m16 := PySem.W.mg_of X G a16
  have F17 := fun_mk (st := sLaw) l17 c17 k17
  have b17 := F17.binds (ps := ["_law_script"]) fun _ _ _ _ _ _ => us1 rfl fun _ => rfl
  have m17 := PySem.W.mg_of X G a17
  refine ⟨PySem.W.fnOf "law" "law" (defArgs sLaw) (defBody sLaw) (defScope sLaw) .none kV17 dc17 pm17 an17 cd17 ct17, fun s v => .of_eq rfl, fun base _ _ => ?_⟩
  have Q0 : FnOk l.prog w K mg base CX0 1 f0 _ ["many", "stand"] spBeside := ok_Beside F0 T 
  have Q1 : FnOk l.prog w K mg base CX0 2 f1 _ ["many", "stand", "place"] spWays := ok_Ways F1 T k0 b0 m0 (Q0.mono (by decide))
  have Q2 : FnOk l.prog w K mg base CX0 3 f2 _ ["many", "stand", "place"] spPart := ok_Part F2 T k1 b1 m1 (Q1.mono (by decide))
  have Q3 : FnOk l.prog w K mg base CX0 4 f3 _ ["many", "stand", "one", "other"] spJoined := ok_Joined F3 T k2 b2 m2 (Q2.mono (by decide))
  have Q4 : FnOk l.prog w K mg base CX0 1 f4 _ ["tie"] spRank := ok_Rank F4 T 
  have Q5 : FnOk l.prog w K mg base CX0 2 f5 _ ["tie", "other"] spAhead := ok_Ahead F5 T k4 b4 m4 (Q4.mono (by decide))
  have Q6 : FnOk l.prog w K mg base CX0 3 f6 _ ["stand", "tie"] spTAhead := ok_TAhead F6 T k5 b5 m5 (Q5.mono (by decide))
  have Q7 : FnOk l.prog w K mg base CX0 5 f7 _ ["many", "stand"] spLight := ok_Light F7 T k3 b3 m3 (Q3.mono (by decide)) k6 b6 m6 (Q6.mono (by decide))
  have Q8 : FnOk l.prog w K mg base CX0 1 f8 _ ["_law_script"] (spWell K) := ok_Well F8 T 
  have Q9 : FnOk l.prog w K mg base CX0 1 f9 _ ["_law_well_here", "_law_most"] spDraw := ok_Draw F9 T 
  have Q10 : FnOk l.prog w K mg base CX0 2 f10 _ ["_law_well_here", "_law_many"] spNames := ok_Names F10 T k9 b9 m9 (Q9.mono (by decide))
  have Q11 : FnOk l.prog w K mg base CX0 2 f11 _ ["_law_well_here", "_law_heavy"] spWeight := ok_Weight F11 T k9 b9 m9 (Q9.mono (by decide))
  have Q12 : FnOk l.prog w K mg base CX0 2 f12 _ ["_law_well_here", "_law_shape", "_law_many", "_law_k"] spPair := ok_Pair F12 T k9 b9 m9 (Q9.mono (by decide))
  have Q13 : FnOk l.prog w K mg base CX0 3 f13 _ ["_law_well_here", "_law_many", "_law_names_here"] spStand := ok_Stand F13 T k9 b9 m9 (Q9.mono (by decide)) k12 b12 m12 (Q12.mono (by decide)) k11 b11 m11 (Q11.mono (by decide))
  have Q14 : FnOk l.prog w K mg base CX0 1 f14 _ ["_law_many", "_law_ties"] spLLab := ok_LLab F14 T 
  have Q15 : FnOk l.prog w K mg base CX0 1 f15 _ ["_law_one", "_law_other"] spLAl := ok_LAl F15 T 
  have Q16 : FnOk l.prog w K mg base CX0 2 f16 _ ["_law_many", "_law_stand_here"] spBest := ok_Best F16 T k14 b14 m14 (Q14.mono (by decide)) k15 b15 m15 (Q15.mono (by decide))
  exact ok_Law F17 T k8 b8 m8 (Q8.mono (by decide)) k9 b9 m9 (Q9.mono (by decide)) k13 b13 m13 (Q13.mono (by decide)) k10 b10 m10 (Q10.mono (by decide)) k7 b7 m7 (Q7.mono (by decide)) k16 b16 m16 (Q16.mono (by decide))
theorem walk {l : PySem.W.OpenLaw} {q : Program} {loose : List Str} {XP : (Str → Option Value) → Heap → Prop} {YP : World → Heap → Prop} {d : DefRec} {K : Params → PySem.W.Frag} (hn : l.most = some 63) (hdf : d.params.defaults = [])
    (hY : ∀ (w : World) (h : Heap), YP w h → (K w.params).In h)
    (F : ∀ (w : World) (mg : Str → Option Value) (fa : Addr) (h : Heap), (K w.params).In h → h.Ns mainGlobals mg → mg d.name = some (.ref fa) →
      ∃ fd : FuncData, (∀ (s : Shared) (u : Value), BindsTo s fd ⟨[u], []⟩ [("_law_script", u)]) ∧ ∀ base : Heap, (K w.params).In base → base.Ns mainGlobals mg → FnOk l.prog w (K w.params) mg base CX0 6 fa fd ["_law_script"] (spLaw (K w.params))) :
    PySem.W.WalkO q loose XP YP l.row.toRowW d [] (fun f vs => PySem.call f vs) :=
  L2.walk_of (n := 63) (k := 6) (x := "_law_script") (CX := fun _ => CX0) (sp := fun w => spLaw (K w.params)) hn (by decide) hdf ⟨rfl, by decide, by decide, rfl⟩ hY F (fun _ _ a ns hl _ hS => ⟨a, ns, rfl, hS, hl, fun _ => rfl⟩) fun _ _ _ _ _ z => z
end K46
open PySem PySem.W PyProof.Rows
set_option maxRecDepth 100000 in
set_option maxHeartbeats 0 in
theorem PySem.Challenge.cw_joinedever_k46_none_is_lighter_holds : PySem.Challenge.rw_joinedever_k46_none_is_lighter.Holds := by
  w_on; o_law; k_head; (case hw => w_witness2)
  k_fill
  refine K46.walk (l := PySem.Challenge.rw_joinedever_k46_none_is_lighter) rfl rfl (fun w h Y => PySem.W.kIn_of Y) ?F
  case F =>
    intro w mg fa h KX G hmg
    refine' K46.all_mk KX G hmg ?a0 ?l0 ?c0 ?k0 ?a1 ?l1 ?c1 ?k1 ?a2 ?l2 ?c2 ?k2 ?a3 ?l3 ?c3 ?k3 ?a4 ?l4 ?c4 ?k4 ?a5 ?l5 ?c5 ?k5 ?a6 ?l6 ?c6 ?k6 ?a7 ?l7 ?c7 ?k7 ?a8 ?l8 ?c8 ?k8 ?a9 ?l9 ?c9 ?k9 ?a10 ?l10 ?c10 ?k10 ?a11 ?l11 ?c11 ?k11 ?a12 ?l12 ?c12 ?k12 ?a13 ?l13 ?c13 ?k13 ?a14 ?l14 ?c14 ?k14 ?a15 ?l15 ?c15 ?k15 ?a16 ?l16 ?c16 ?k16 ?a17 ?l17 ?c17 ?k17 ?z0 ?z1 ?z2 ?z3 ?z4 ?z5 ?z6 ?z7 ?z8 ?z9 ?z10
    (case a0 => k_is)
    (case l0 => k_is)
    (case c0 => k_is)
    (case k0 => k_is)
    (case a1 => k_is)
    (case l1 => k_is)
    (case c1 => k_is)
    (case k1 => k_is)
    (case a2 => k_is)
    (case l2 => k_is)
    (case c2 => k_is)
    (case k2 => k_is)
    (case a3 => k_is)
    (case l3 => k_is)
    (case c3 => k_is)
    (case k3 => k_is)
    (case a4 => k_is)
    (case l4 => k_is)
    (case c4 => k_is)
    (case k4 => k_is)
    (case a5 => k_is)
    (case l5 => k_is)
    (case c5 => k_is)
    (case k5 => k_is)
    (case a6 => k_is)
    (case l6 => k_is)
    (case c6 => k_is)
    (case k6 => k_is)
    (case a7 => k_is)
    (case l7 => k_is)
    (case c7 => k_is)
    (case k7 => k_is)
    (case a8 => k_is)
    (case l8 => k_is)
    (case c8 => k_is)
    (case k8 => k_is)
    (case a9 => k_is)
    (case l9 => k_is)
    (case c9 => k_is)
    (case k9 => k_is)
    (case a10 => k_is)
    (case l10 => k_is)
    (case c10 => k_is)
    (case k10 => k_is)
    (case a11 => k_is)
    (case l11 => k_is)
    (case c11 => k_is)
    (case k11 => k_is)
    (case a12 => k_is)
    (case l12 => k_is)
    (case c12 => k_is)
    (case k12 => k_is)
    (case a13 => k_is)
    (case l13 => k_is)
    (case c13 => k_is)
    (case k13 => k_is)
    (case a14 => k_is)
    (case l14 => k_is)
    (case c14 => k_is)
    (case k14 => k_is)
    (case a15 => k_is)
    (case l15 => k_is)
    (case c15 => k_is)
    (case k15 => k_is)
    (case a16 => k_is)
    (case l16 => k_is)
    (case c16 => k_is)
    (case k16 => k_is)
    (case a17 => k_is)
    (case l17 => k_is)
    (case c17 => k_is)
    (case k17 => k_is)
    (case z0 => k_is)
    (case z1 => k_is)
    (case z2 => k_is)
    (case z3 => k_is)
    (case z4 => k_is)
    (case z5 => k_is)
    (case z6 => k_is)
    (case z7 => k_is)
    (case z8 => k_is)
    (case z9 => k_is)
    (case z10 => k_is)
