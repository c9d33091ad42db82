import PyProof.Rows.All
import Wide.All
import OpenK.AllK
import Wide.FinOn
import Lean
import PyProof.EqAt
import PyProof.EqKinds
import PyProof.TupleCall
import PySem.Challenge.RW_joinedever_k20_two_by_turns
import PyProof.Draws
import PyProof.ZipIter
import PyProof.TupleIter
import PyProof.ListRange
import PyProof.CollectWalk
import KE.KSortTup
import KE.KDictSum
import PyProof.Rows.Range3
import KE.KEqDict
import KE.KRevIter
import PyProof.EnumStmt
set_option Elab.async false
set_option linter.all false
set_option maxRecDepth 100000
namespace L2
open PySem PySem.Spec PyProof.Rows
abbrev Key := Sum Int Str
def keyIs : Key → Value → Bool
  | .inl k, v => Value.isInt k v
  | .inr x, v => Value.isStrOf x v
def keyH (w : World) : Key → Int
  | .inl k => hashInt k
  | .inr x => hashStr w x
theorem keyIs_shape : ∀ {k : Key} {v : Value}, keyIs k v = true → (∃ i t, k = Sum.inl i ∧ v = Value.int i t) ∨ (∃ x t, k = Sum.inr x ∧ v = Value.str x t)
  | .inl i, v, h => by
    obtain ⟨t, e⟩ := Value.isInt_shape (k := i) (v := v) h
    exact .inl ⟨i, t, rfl, e⟩
  | .inr x, v, h => by
    obtain ⟨t, e⟩ := Value.isStrOf_shape (x := x) (v := v) h
    exact .inr ⟨x, t, rfl, e⟩
theorem keyIs_int (i : Int) (t : Tok) : keyIs (.inl i) (.int i t) = true := by simp [keyIs, Value.isInt]
theorem keyIs_str (x : Str) (t : Tok) : keyIs (.inr x) (.str x t) = true := by simp [keyIs, Value.isStrOf]
theorem key_ll (a b : Int) : decide ((Sum.inl a : Key) = Sum.inl b) = (a == b) := by
  by_cases e : a = b
  · subst e; simp
  · have h : ¬ (Sum.inl a : Key) = Sum.inl b := fun q => e (Sum.inl.inj q)
    rw [decide_eq_false h]
    exact (beq_eq_false_iff_ne.mpr e).symm
theorem key_rr (a b : Str) : decide ((Sum.inr a : Key) = Sum.inr b) = decide (a = b) := by
  by_cases e : a = b
  · subst e; simp
  · have h : ¬ (Sum.inr a : Key) = Sum.inr b := fun q => e (Sum.inr.inj q)
    rw [decide_eq_false h, decide_eq_false e]
theorem key_lr (a : Int) (b : Str) : decide ((Sum.inl a : Key) = Sum.inr b) = false := decide_eq_false (fun q => nomatch q)
theorem key_rl (a : Str) (b : Int) : decide ((Sum.inr a : Key) = Sum.inl b) = false := decide_eq_false (fun q => nomatch q)
def mixKind (prog : Program) (w : World) : PySem.KeyKind prog w Key where
  is := keyIs
  hash := keyH w
  inj := fun v a b ha hb => by
    rcases keyIs_shape ha with ⟨i, t, rfl, rfl⟩ | ⟨x, t, rfl, rfl⟩
    · rcases keyIs_shape hb with ⟨j, u, rfl, e⟩ | ⟨y, u, rfl, e⟩
      · injection e with e1 _; rw [e1]
      · exact nomatch e
    · rcases keyIs_shape hb with ⟨j, u, rfl, e⟩ | ⟨y, u, rfl, e⟩
      · exact nomatch e
      · injection e with e1 _; rw [e1]
  byValue := fun k v h => by
    rcases keyIs_shape h with ⟨i, t, rfl, rfl⟩ | ⟨x, t, rfl, rfl⟩ <;> rfl
  pyHash := fun hv h => by
    rcases keyIs_shape hv with ⟨i, t, rfl, rfl⟩ | ⟨x, t, rfl, rfl⟩
    · exact wpAny_pyHash_int h
    · exact wpAny_pyHash_str h
  eqBool := fun hu hv h => by
    rcases keyIs_shape hu with ⟨i, t, rfl, rfl⟩ | ⟨x, t, rfl, rfl⟩
    · rcases keyIs_shape hv with ⟨j, u, rfl, rfl⟩ | ⟨y, u, rfl, rfl⟩
      · rw [key_ll] at h; exact wpAny_eqBool_int h
      · rw [key_lr] at h; exact SeqAt.EqAt.int_str i t y u _ _ _ _ h
    · rcases keyIs_shape hv with ⟨j, u, rfl, rfl⟩ | ⟨y, u, rfl, rfl⟩
      · rw [key_rl] at h; exact SeqAt.EqAt.str_int x t j u _ _ _ _ h
      · rw [key_rr] at h; exact wpAny_eqBool_str h
  «strs» := fun k x t v h => by
    rcases keyIs_shape h with ⟨i, u, rfl, e⟩ | ⟨y, u, rfl, e⟩
    · exact nomatch e
    · injection e with e1 _
      subst e1
      cases v <;> rfl
theorem mixKind_int (prog : Program) (w : World) (i : Int) (t : Tok) : (mixKind prog w).is (.inl i) (.int i t) = true := keyIs_int i t
theorem mixKind_str (prog : Program) (w : World) (x : Str) (t : Tok) : (mixKind prog w).is (.inr x) (.str x t) = true := keyIs_str x t
end L2
namespace L2
open PySem PySem.Spec PyProof.Rows
inductive V where
  | non | bl (b : Bool) | int (i : Int) | str (x : Str) | byt (b : Array UInt8) | flt (b : UInt64) | ref (a : Addr) | ty (n : String)
  deriving DecidableEq
def RelV : V → Value → Prop
  | .non, u => u = Value.none
  | .bl b, u => u = Value.bool b
  | .int i, u => ∃ t, u = Value.int i t
  | .str x, u => ∃ t, u = Value.str x t
  | .byt b, u => ∃ t, u = Value.bytes b t
  | .flt b, u => ∃ t, u = Value.float b t
  | .ref a, u => u = Value.ref a
  | .ty n, u => u = Value.type n
abbrev Vals : List V → List Value → Prop := Paired RelV
theorem Vals.length {xs : List V} {us : List Value} (r : Vals xs us) : xs.length = us.length := Paired.length r
theorem Vals.get : ∀ {xs : List V} {us : List Value} {i : Nat} {x : V}, Vals xs us → xs[i]? = some x → ∃ u, us[i]? = some u ∧ RelV x u
  | _, _, _, _, .nil, e => by simp at e
  | _, _, 0, _, .cons r _, e => by simp at e; subst e; exact ⟨_, rfl, r⟩
  | _, _, i + 1, x, .cons _ t, e => by
    obtain ⟨u, h1, h2⟩ := Vals.get (i := i) (x := x) t (by simpa using e)
    exact ⟨u, by simpa using h1, h2⟩
theorem Vals.set {x : V} {u : Value} (r : RelV x u) : ∀ {xs : List V} {us : List Value} (i : Nat), Vals xs us → Vals (xs.set i x) (us.set i u)
  | _, _, _, .nil => .nil
  | _, _, 0, .cons _ t => .cons r t
  | _, _, i + 1, .cons q t => .cons q (Vals.set r i t)
theorem Vals.append : ∀ {xs ys : List V} {us ws : List Value}, Vals xs us → Vals ys ws → Vals (xs ++ ys) (us ++ ws)
  | _, _, _, _, .nil, s => s
  | _, _, _, _, .cons r t, s => .cons r (Vals.append t s)
theorem Vals.take : ∀ {xs : List V} {us : List Value} (n : Nat), Vals xs us → Vals (xs.take n) (us.take n)
  | _, _, 0, _ => .nil
  | _, _, _ + 1, .nil => .nil
  | _, _, n + 1, .cons r t => .cons r (Vals.take n t)
theorem Vals.drop : ∀ {xs : List V} {us : List Value} (n : Nat), Vals xs us → Vals (xs.drop n) (us.drop n)
  | _, _, 0, r => r
  | _, _, _ + 1, .nil => .nil
  | _, _, n + 1, .cons _ t => Vals.drop n t
def RelO : Option V → Option Value → Prop
  | some v, some u => RelV v u
  | none, none => True
  | _, _ => False
def KV {κ : Type} : List (κ × V) → List (κ × Value) → Prop := Paired fun (p : κ × V) (q : κ × Value) => p.1 = q.1 ∧ RelV p.2 q.2
def kV : Key → V
  | .inl i => .int i
  | .inr x => .str x
inductive HO where
  | lst (xs : List V)
  | tup (xs : List V)
  | dK (kvs : List (Key × V)) | dT (kvs : List (List Key × V))
  | set (S : Int → Bool) (n : Nat)
  | ins (C dx : Addr) (fs : List (Str × V))
  | own (x : Addr)
  | xd (fs : List (Str × V))
  | met (f x : Addr)
  | rng (lo hi : Int)
  | frz (o : Obj) (u : HO)
  | tbl (ps : Array Value)
  | ext (φ : Heap → Prop)
abbrev Hp := Addr → Option HO
def upd (H : Hp) (a : Addr) (o : HO) : Hp := fun b => if b = a then some o else H b
theorem upd_same {H : Hp} {a : Addr} {o : HO} : upd H a o a = some o := by unfold upd; rw [if_pos rfl]
theorem upd_ne {H : Hp} {a b : Addr} {o : HO} (h : b ≠ a) : upd H a o b = H b := by unfold upd; rw [if_neg h]
theorem ne_of {H : Hp} {a b : Addr} {o u : HO} (h : H a = some o) (h' : H b = some u) (d : o ≠ u) : a ≠ b := by
  intro e; subst e; rw [h] at h'; exact d (Option.some.inj h')
theorem ne_of_none {H : Hp} {a b : Addr} {o : HO} (h : H a = some o) (h' : H b = none) : a ≠ b := by
  intro e; subst e; rw [h] at h'; cases h'
def IsTupN (h : Heap) (a : Addr) (items : Array Value) : Prop := ∃ o, h.get? a = some o ∧ o.cls = .type "tuple" ∧ o.dict = none ∧ ∃ n, o.data = .seq items n
theorem IsTupN.new (h : Heap) (items : Array Value) : IsTupN (h.push { cls := .type "tuple", data := .seq items }) h.objs.size items := ⟨_, Heap.get?_push_size _ rfl, rfl, rfl, _, rfl⟩
theorem IsTupN.tup {h : Heap} {a : Addr} {items : Array Value} (x : IsTupN h a items) : IsTup h a items := let ⟨o, e, c, _, n, d⟩ := x; ⟨o, e, c, n, d⟩
section
variable (P : Program) (w : World)
def ObjOk (H : Hp) (h : Heap) (a : Addr) : HO → Prop
  | .lst xs => xs.length ≤ sizeLine ∧ ∃ (its : List Value) (n : Nat), Vals xs its ∧ h.get? a = some { cls := .type "list", data := .seq its.toArray n }
  | .tup xs => xs.length ≤ sizeLine ∧ ∃ its : List Value, Vals xs its ∧ IsTupN h a its.toArray
  | .dK kvs => kvs.length ≤ sizeLine ∧ (a == sysModules) = false ∧ ∃ vs, KV kvs vs ∧ h.DictOf (mixKind P w) a vs
  | .dT kvs => kvs.length ≤ sizeLine ∧ (a == sysModules) = false ∧ ∃ xs : List (List Key × Addr × Value),
      Paired (fun (p : List Key × V) (q : List Key × Addr × Value) => p.1 = q.1 ∧ H q.2.1 = some (.tup (p.1.map kV)) ∧ RelV p.2 q.2.2) kvs xs ∧
      ∃ o es ep, h.get? a = some o ∧ o.ExactDict ∧ o.data = .dict es ep ∧ es.toList = xs.map (entryOfKey (tupleKind (mixKind P w))) ∧ (xs.map (·.1)).Nodup
  | .set S n => h.SetOf (intKind P w) a S n
  | .ins C dx fs => H dx = some (.own a) ∧ fs.length ≤ 1000 ∧ dx ≠ a ∧ h.get? a = some (PySem.W.instObj C dx) ∧
      ∃ mA, h.Ns1 dx mA ∧ (∀ f, RelO (fs.lookup f) (mA f)) ∧ PySem.Within mA (fs.map (·.1))
  | .own _ => ∃ o, h.get? a = some o
  | .xd fs => ∃ mA, h.Ns1 a mA ∧ ∀ f, RelO (fs.lookup f) (mA f)
  | .rng lo hi => ∃ t u v, h.get? a = some { cls := .type "range", data := .fields #[.int lo t, .int hi u, .int 1 v] }
  | .frz o u => h.get? a = some o ∧ ObjOk H h a u
  | .tbl ps => h.get? a = some { cls := .none, data := .fields ps }
  | .met f x => h.get? a = some (PySem.W.methodObj (.ref f) (.ref x))
  | .ext φ => φ h ∧ (∃ o, h.get? a = some o) ∧ ∀ h1 h2 : Heap, φ h1 → (∀ o, h1.get? a = some o → h2.get? a = some o) → φ h2
def HOk (H : Hp) (h : Heap) : Prop := ∀ a o, H a = some o → ObjOk P w H h a o
end
section
variable {P : Program} {w : World} {H H' : Hp} {h h' : Heap} {a : Addr} {o : HO}
theorem ObjOk.lt (x : ObjOk P w H h a o) : a < h.objs.size := by
  cases o with
  | lst xs => obtain ⟨_, _, _, _, e⟩ := x; exact Heap.lt_size e
  | tup xs => obtain ⟨_, _, _, p⟩ := x; exact p.tup.lt
  | dK kvs => obtain ⟨_, _, _, _, o, _, _, e, _⟩ := x; exact Heap.lt_size e
  | dT kvs => obtain ⟨_, _, _, _, o, _, _, e, _⟩ := x; exact Heap.lt_size e
  | set S n => obtain ⟨o, _, _, _, e, _⟩ := x; exact Heap.lt_size e
  | ins C dx fs => obtain ⟨_, _, _, e, _⟩ := x; exact Heap.lt_size e
  | own y => obtain ⟨_, e⟩ := x; exact Heap.lt_size e
  | xd fs => obtain ⟨_, ⟨_, _, _, e, _⟩, _⟩ := x; exact Heap.lt_size e
  | rng lo hi => obtain ⟨_, _, _, e⟩ := x; exact Heap.lt_size e
  | frz ob u => obtain ⟨e, _⟩ := x; exact Heap.lt_size e
  | tbl ps => exact Heap.lt_size (show h.get? a = some _ from x)
  | met f y => exact Heap.lt_size (show h.get? a = some _ from x)
  | ext φ => obtain ⟨_, ⟨_, e⟩, _⟩ := x; exact Heap.lt_size e
theorem Paired.mapP {α β : Type} {F G : α → β → Prop} : ∀ {l₁ : List α} {l₂ : List β}, Paired F l₁ l₂ → (∀ a b, F a b → G a b) → Paired G l₁ l₂
  | _, _, .nil, _ => .nil
  | _, _, .cons r t, f => .cons (f _ _ r) (Paired.mapP t f)
theorem ObjOk.stay (x : ObjOk P w H h a o) (k : ∀ b u, (b = a ∨ H b = some (.own a)) → h.get? b = some u → h'.get? b = some u)
    (ho : ∀ b, H b = some (.own a) → H' b = some (.own a)) (ht : ∀ b xs, H b = some (.tup xs) → H' b = some (.tup xs)) : ObjOk P w H' h' a o := by
  induction o with
  | lst xs => obtain ⟨z, its, n, r, e⟩ := x; exact ⟨z, its, n, r, k _ _ (.inl rfl) e⟩
  | tup xs => obtain ⟨z, its, r, ob, e, c⟩ := x; exact ⟨z, its, r, ob, k _ _ (.inl rfl) e, c⟩
  | dK kvs => obtain ⟨z, y, vs, r, ob, es, ep, e, c⟩ := x; exact ⟨z, y, vs, r, ob, es, ep, k _ _ (.inl rfl) e, c⟩
  | dT kvs =>
    obtain ⟨z, y, xs, r, ob, es, ep, e, c⟩ := x
    exact ⟨z, y, xs, Paired.mapP r fun p q z => ⟨z.1, ht _ _ z.2.1, z.2.2⟩, ob, es, ep, k _ _ (.inl rfl) e, c⟩
  | set S n => obtain ⟨ob, es, ep, t, e, c⟩ := x; exact ⟨ob, es, ep, t, k _ _ (.inl rfl) e, c⟩
  | ins C dx fs =>
    obtain ⟨d, z, ne, e, mA, ⟨od, es, ep, e2, c⟩, r⟩ := x
    exact ⟨ho _ d, z, ne, k _ _ (.inl rfl) e, mA, ⟨od, es, ep, k _ _ (.inr d) e2, c⟩, r⟩
  | own y => obtain ⟨ob, e⟩ := x; exact ⟨ob, k _ _ (.inl rfl) e⟩
  | xd fs => obtain ⟨mA, ⟨od, es, ep, e, c⟩, r⟩ := x; exact ⟨mA, ⟨od, es, ep, k _ _ (.inl rfl) e, c⟩, r⟩
  | rng lo hi => obtain ⟨t, u, v, e⟩ := x; exact ⟨t, u, v, k _ _ (.inl rfl) e⟩
  | frz ob u ih => obtain ⟨e, q⟩ := x; exact ⟨k _ _ (.inl rfl) e, ih q⟩
  | tbl ps =>
    have e : h.get? a = some { cls := .none, data := .fields ps } := x
    show h'.get? a = some { cls := .none, data := .fields ps }
    exact k a _ (.inl rfl) e
  | met f y =>
    have e : h.get? a = some (PySem.W.methodObj (.ref f) (.ref y)) := x
    show h'.get? a = some (PySem.W.methodObj (.ref f) (.ref y))
    exact k a _ (.inl rfl) e
  | ext φ => obtain ⟨p, ⟨o, e⟩, st⟩ := x; exact ⟨st _ _ p fun o q => k _ _ (.inl rfl) q, ⟨o, k _ _ (.inl rfl) e⟩, st⟩
theorem HOk.lt (x : HOk P w H h) (e : H a = some o) : a < h.objs.size := (x a o e).lt
theorem HOk.fresh (x : HOk P w H h) (e : h.objs.size ≤ a) : H a = none := by
  cases q : H a with
  | none => rfl
  | some u => exact absurd (Nat.lt_of_lt_of_le (x.lt q) e) (Nat.lt_irrefl _)
theorem HOk.kept (x : HOk P w H h) (k : ∀ b u, h.get? b = some u → h'.get? b = some u) : HOk P w H h' := fun a o e =>
  (x a o e).stay (fun b u _ q => k b u q) (fun _ q => q) fun _ _ q => q
theorem HOk.laid (x : HOk P w H h) (k : ∀ b u, h.get? b = some u → h'.get? b = some u) (hp : h.objs.size ≤ a) (new : ObjOk P w (upd H a o) h' a o) : HOk P w (upd H a o) h' := fun b u e => by
  have hn := x.fresh hp
  by_cases hb : b = a
  · subst hb; rw [upd_same] at e; cases e; exact new
  · rw [upd_ne hb] at e
    exact (x b u e).stay (fun c v _ q => k c v q) (fun c q => by rw [upd_ne (ne_of_none q hn)]; exact q) fun c xs q => by rw [upd_ne (ne_of_none q hn)]; exact q
end
def Rd (H : Hp) (a : Addr) (u : HO) : Prop := H a = some u ∨ ∃ o, H a = some (.frz o u)
theorem Rd.ok {P : Program} {w : World} {H : Hp} {h : Heap} {a : Addr} {u : HO} (r : Rd H a u) (x : HOk P w H h) : ObjOk P w H h a u := by
  rcases r with r | ⟨o, r⟩
  · exact x a u r
  · obtain ⟨_, q⟩ := x a _ r
    exact q
def Mut : Option HO → Prop
  | some (.lst _) => True
  | some (.dK _) => True
  | some (.dT _) => True
  | some (.set _ _) => True
  | some (.ins _ _ _) => True
  | some (.ext _) => True
  | _ => False
section
variable {P : Program} {w : World} {H : Hp} {h h' : Heap} {x e : Addr} {o' : HO}
theorem HOk.write (ok : HOk P w H h) (mu : Mut (H x)) (he : e = x ∨ H e = some (.own x)) (k : ∀ b u, b ≠ e → h.get? b = some u → h'.get? b = some u) (heo : ∃ u, h'.get? e = some u)
    (new : ObjOk P w (upd H x o') h' x o') : HOk P w (upd H x o') h' := fun b u q => by
  have nown : ∀ c y, H c = some (.own y) → c ≠ x := fun c y r z => by subst z; rw [r] at mu; exact mu
  have ntup : ∀ c xs, H c = some (.tup xs) → c ≠ x := fun c xs r z => by subst z; rw [r] at mu; exact mu
  by_cases hb : b = x
  · subst hb; rw [upd_same] at q; cases q; exact new
  · rw [upd_ne hb] at q
    by_cases hbe : b = e
    · have q' : H b = some (.own x) := by
        rcases he with z | z
        · exact absurd (hbe.trans z) hb
        · rw [hbe]; exact z
      rw [q] at q'; cases q'
      obtain ⟨v, hv⟩ := heo
      exact ⟨v, by rw [hbe]; exact hv⟩
    · refine (ok b u q).stay (fun c v hc r => k c v ?_ r) (fun c r => by rw [upd_ne (nown c b r)]; exact r) fun c xs r => by rw [upd_ne (ntup c xs r)]; exact r
      rcases hc with rfl | hc
      · exact hbe
      · rintro rfl
        rcases he with z | z
        · exact nown c b hc z
        · rw [hc] at z; cases z; exact hb rfl
end
structure Un (fs ex : List Addr) (H H' : Hp) (h h' : Heap) : Prop where
  keep : ∀ b o, h.get? b = some o → H b = none → b ∉ fs → b ∉ ex → h'.get? b = some o
  slot : ∀ b o, h.get? b = some o → H b = none → b ∈ fs → b ∉ ex → ∃ sl, h'.get? b = some { o with slots := sl }
  free : ∀ b o, h.get? b = some o → H b = none → b ∉ ex → H' b = none
  there : ∀ b o, h.get? b = some o → b ∉ ex → ∃ o', h'.get? b = some o'
  tups : ∀ b xs, H b = some (.tup xs) → H' b = some (.tup xs)
  frzs : ∀ b o u, H b = some (.frz o u) → H' b = some (.frz o u)
  tbls : ∀ b ps, H b = some (.tbl ps) → ∃ more, H' b = some (.tbl (ps ++ more))
section
variable {fs fs' ex ex' : List Addr} {H H1 H2 : Hp} {h h1 h2 h' : Heap} {a x e : Addr} {o : HO}
theorem Un.any (u : Un fs ex H H1 h h1) {b : Addr} {ob : Obj} (q : h.get? b = some ob) (n : H b = none) (hx : b ∉ ex) : ∃ sl, h1.get? b = some { ob with slots := sl } := by
  by_cases hb : b ∈ fs
  · exact u.slot b ob q n hb hx
  · exact ⟨ob.slots, u.keep b ob q n hb hx⟩
theorem Un.trans (a : Un fs ex H H1 h h1) (b : Un fs ex H1 H2 h1 h2) : Un fs ex H H2 h h2 where
  keep := fun c ob q n hc hx => b.keep c ob (a.keep c ob q n hc hx) (a.free c ob q n hx) hc hx
  slot := fun c ob q n hc hx => by
    obtain ⟨sl, e1⟩ := a.slot c ob q n hc hx
    obtain ⟨sl', e2⟩ := b.slot c _ e1 (a.free c ob q n hx) hc hx
    exact ⟨sl', e2⟩
  free := fun c ob q n hx => by
    obtain ⟨o', e1⟩ := a.there c ob q hx
    exact b.free c o' e1 (a.free c ob q n hx) hx
  there := fun c ob q hx => by
    obtain ⟨o', e1⟩ := a.there c ob q hx
    exact b.there c o' e1 hx
  tups := fun c xs q => b.tups c xs (a.tups c xs q)
  frzs := fun c ob xs q => b.frzs c ob xs (a.frzs c ob xs q)
  tbls := fun c ps q => by
    obtain ⟨m1, e1⟩ := a.tbls c ps q
    obtain ⟨m2, e2⟩ := b.tbls c _ e1
    exact ⟨m1 ++ m2, by rw [e2, Array.append_assoc]⟩
theorem Un.kept (k : ∀ b u, h.get? b = some u → h'.get? b = some u) : Un fs ex H H h h' :=
  ⟨fun b ob q _ _ _ => k b ob q, fun b ob q _ _ _ => ⟨ob.slots, k b ob q⟩, fun _ _ _ n _ => n, fun b ob q _ => ⟨ob, k b ob q⟩, fun _ _ q => q, fun _ _ _ q => q, fun _ ps q => ⟨#[], by rw [q]; simp⟩⟩
theorem Un.refl : Un fs ex H H h h := Un.kept fun _ _ q => q
theorem Un.laid (k : ∀ b u, h.get? b = some u → h'.get? b = some u) (hp : h.objs.size ≤ a) (hn : H a = none) : Un fs ex H (upd H a o) h h' where
  keep := fun b u q _ _ _ => k b u q
  slot := fun b u q _ _ _ => ⟨u.slots, k b u q⟩
  free := fun b u q n _ => by rw [upd_ne (Nat.ne_of_lt (Nat.lt_of_lt_of_le (Heap.lt_size q) hp))]; exact n
  there := fun b u q _ => ⟨u, k b u q⟩
  tups := fun b xs q => by rw [upd_ne (ne_of_none q hn)]; exact q
  frzs := fun b u xs q => by rw [upd_ne (ne_of_none q hn)]; exact q
  tbls := fun b ps q => ⟨#[], by rw [upd_ne (ne_of_none q hn), q]; simp⟩
theorem Un.write (mu : Mut (H x)) (he : e = x ∨ H e = some (.own x)) (k : ∀ b u, b ≠ e → h.get? b = some u → h'.get? b = some u) (heo : ∃ u, h'.get? e = some u) : Un fs ex H (upd H x o) h h' := by
  have hx : ∀ b, H b = none → b ≠ x := fun b n z => by subst z; rw [n] at mu; exact mu
  have hb : ∀ b, H b = none → b ≠ e := fun b n z => by
    subst z
    rcases he with r | r
    · exact hx b n r
    · rw [n] at r; cases r
  have hm : ∀ b u, H b = some u → ¬ Mut (some u) → b ≠ x := fun b u q nm z => by subst z; rw [q] at mu; exact nm mu
  refine ⟨fun b u q n _ _ => k b u (hb b n) q, fun b u q n _ _ => ⟨u.slots, k b u (hb b n) q⟩, fun b u q n _ => by rw [upd_ne (hx b n)]; exact n, fun b u q _ => ?_,
    fun b xs q => by rw [upd_ne (hm b _ q fun z => z)]; exact q, fun b u xs q => by rw [upd_ne (hm b _ q fun z => z)]; exact q, fun b ps q => ⟨#[], by rw [upd_ne (hm b _ q fun z => z), q]; simp⟩⟩
  by_cases hbe : b = e
  · subst hbe; exact heo
  · exact ⟨u, k b u hbe q⟩
end
def trk (h : Heap) (H : Hp) : List Addr := (List.range h.objs.size).filter fun a => (H a).isSome
def hidT (h : Heap) (H : Hp) : Heap := PySem.W.hideAll h (trk h H)
theorem hidT_size (h : Heap) (H : Hp) : (hidT h H).objs.size = h.objs.size := PySem.W.hideAll_size _ _
theorem hidT_get {h : Heap} {H : Hp} {b : Addr} {o : Obj} (e : h.get? b = some o) (n : H b = none) : (hidT h H).get? b = some o :=
  PySem.W.hideAll_get _ e fun hm => by
    have q : (H b).isSome = true := (List.mem_filter.mp hm).2
    rw [n] at q; simp at q
theorem of_hidT {h : Heap} {H : Hp} {b : Addr} {o : Obj} (e : (hidT h H).get? b = some o) : h.get? b = some o ∧ H b = none := by
  have e' : h.get? b = some o := PySem.W.of_hideAll (trk h H) e
  refine ⟨e', ?_⟩
  cases q : H b with
  | none => rfl
  | some x =>
    have hm : b ∈ trk h H := List.mem_filter.mpr ⟨List.mem_range.mpr (Heap.lt_size e'), by simp [q]⟩
    have z : (hidT h H).get? b = none := PySem.W.hideAll_none (trk h H) hm
    rw [z] at e; cases e
end L2
namespace L2
open PySem PySem.Spec PyProof.Rows
structure Mod (K : PySem.W.Frag) (mg : Str → Option Value) (base : Heap) : Prop where
  kin : K.In base
  glob : base.Ns mainGlobals mg
  blt : ∃ mb, base.Ns builtinsNs mb ∧ ∀ x : Str, x ≠ "__name__" → mb x = bootBuiltins x
  nolimit : base.NoLimit
structure Cx where
  prog : Program
  w : World
  K : PySem.W.Frag
  mg : Str → Option Value
  base : Heap
  A : Around
  N : List Str
  s₀ : Shared
  H₀ : Hp
  env : Env
  outer : List Env
  stack : List Env
  ex : List Addr
  fn : Str → Bool
  calm : Bool
  pn : List (Addr × Obj)
  xe : Value → Shared → Prop
def frs (l : List Env) : List Addr := l.filterMap (·.frame)
abbrev Cx.fs (X : Cx) : List Addr := frs X.outer
def Vis (sc : Scope) (x : Str) : Prop := sc.names.lookup x = some .local ∨ sc.names.lookup x = some .cell ∨ sc.names.lookup x = some .free
def Loc (sc : Scope) (x : Str) : Prop := sc.names.lookup x = some .local ∨ sc.names.lookup x = some .cell
def Look (env : Env) (h : Heap) (m : Str → Option Value) (x : Str) (u : Value) : Prop :=
  (env.kindOf x = some .local ∧ m x = some u) ∨ ((env.kindOf x = some .cell ∨ env.kindOf x = some .free) ∧ ∃ c, env.cells.lookup x = some c ∧ h.IsCell c (some u))
structure Cx.Ok (X : Cx) : Prop where
  mod : Mod X.K X.mg X.base
  kind : X.env.scope.kind = .function
  glob : X.env.globals = mainGlobals
  blt : X.env.builtins = builtinsNs
  above : X.s₀.heap.objs.size ≤ X.env.locals
  inj : ∀ x y c, X.env.cells.lookup x = some c → X.env.cells.lookup y = some c → x = y
  has : ∀ x, (X.env.kindOf x = some .cell ∨ X.env.kindOf x = some .free) → ∃ c, X.env.cells.lookup x = some c
  cab : ∀ x c, X.fn x = true → X.env.cells.lookup x = some c → X.s₀.heap.objs.size ≤ c
  hd : X.calm = true → X.A.handled = none
  frames : X.A.frames = some X.stack
  stk : X.stack = X.outer ∨ (X.stack = X.env :: X.outer ∧ X.env.frame = some X.env.locals)
  exf : ∀ b ∈ X.ex, b ≠ X.env.locals ∧ ∀ x c, X.env.cells.lookup x = some c → c ≠ b
  bs : ∀ b o, X.base.get? b = some o → X.s₀.heap.get? b = some o ∧ X.H₀ b = none
  bsz : X.base.objs.size ≤ X.s₀.heap.objs.size
  noex : ∀ b o, X.base.get? b = some o → b ∉ X.ex
  exfs : ∀ b ∈ X.ex, b ∉ X.fs
  funs : X.s₀.heap.FunFrames X.base X.outer
  frf : ∀ b ∈ X.fs, X.H₀ b = none
structure Inv (X : Cx) (pins : List (Addr × Obj)) (σ : List (Option V)) (H : Hp) (s : Shared) : Prop where
  ok : X.Ok
  os : s.os = X.s₀.os
  bare : AllBare s.gens
  base : Un X.fs X.ex X.H₀ H X.s₀.heap s.heap
  loc : ∃ m, s.heap.Ns X.env.locals m ∧ ∀ (i : Nat) (x : Str) (v : V), X.N[i]? = some x → σ[i]? = some (some v) → Vis X.env.scope x → ∃ u, RelV v u ∧ Look X.env s.heap m x u
  cell : ∀ x c, X.env.cells.lookup x = some c → ∃ v, s.heap.IsCell c v
  free : H X.env.locals = none
  freeC : ∀ x c, X.env.cells.lookup x = some c → H c = none
  pin : ∀ p ∈ X.pn ++ pins, s.heap.get? p.1 = some p.2 ∧ H p.1 = none ∧ p.1 ≠ X.env.locals ∧ p.1 ∉ X.fs ∧ ∀ v, p.2.data ≠ .cell v
  hok : HOk X.prog X.w H s.heap
  len : σ.length = X.N.length
section
variable {X : Cx} {pins : List (Addr × Obj)} {σ : List (Option V)} {H H' : Hp} {s : Shared} {h' : Heap}
theorem Cx.Ok.nofr (ok : X.Ok) {b : Addr} {o : Obj} (e : X.base.get? b = some o) : b ∉ X.fs := fun hb => by
  have := (ok.funs.mem hb).1
  rw [e] at this; cases this
theorem Inv.bs (I : Inv X pins σ H s) : ∀ b o, X.base.get? b = some o → s.heap.get? b = some o ∧ H b = none := fun b o e =>
  ⟨I.base.keep b o (I.ok.bs b o e).1 (I.ok.bs b o e).2 (I.ok.nofr e) (I.ok.noex b o e), I.base.free b o (I.ok.bs b o e).1 (I.ok.bs b o e).2 (I.ok.noex b o e)⟩
theorem Inv.bk (I : Inv X pins σ H s) : ∀ b o, X.base.get? b = some o → s.heap.get? b = some o := fun b o e => (I.bs b o e).1
theorem Inv.mod (I : Inv X pins σ H s) : Mod X.K X.mg X.base := I.ok.mod
theorem Inv.kIn (I : Inv X pins σ H s) : X.K.In s.heap := I.ok.mod.kin.keeps I.bk
theorem Inv.lt (I : Inv X pins σ H s) : X.env.locals < s.heap.objs.size := let ⟨_, hn, _⟩ := I.loc; hn.lt
theorem Inv.sz (I : Inv X pins σ H s) : X.s₀.heap.objs.size ≤ s.heap.objs.size := Nat.le_trans I.ok.above (Nat.le_of_lt I.lt)
theorem Inv.nofs (I : Inv X pins σ H s) {a : Addr} (h : s.heap.objs.size ≤ a) : a ∉ X.fs := fun hb => by
  obtain ⟨_, o, ho, _⟩ := I.ok.funs.mem hb
  exact absurd (Nat.lt_of_lt_of_le (Heap.lt_size ho) (Nat.le_trans I.sz h)) (Nat.lt_irrefl _)
theorem Inv.cne (I : Inv X pins σ H s) : ∀ x c, X.env.cells.lookup x = some c → c ≠ X.env.locals := fun x c e z => by
  obtain ⟨v, o, ho, hd⟩ := I.cell x c e
  obtain ⟨m, ⟨o', es, ep, ho', hd', _⟩, _⟩ := I.loc
  rw [z, ho'] at ho; cases ho; rw [hd'] at hd; cases hd
theorem Inv.funs (I : Inv X pins σ H s) : s.heap.FunFrames X.base X.outer := by
  have all : ∀ (l : List Env), (∀ b ∈ frs l, b ∈ X.fs) → X.s₀.heap.FunFrames X.base l → s.heap.FunFrames X.base l := by
    intro l
    induction l with
    | nil => intro _ _; trivial
    | cons env r ih =>
      intro hs hl
      obtain ⟨hk, ⟨L, o, hf, hn, ho, hd⟩, hr⟩ := hl
      have hL : L ∈ X.fs := hs L (by unfold frs; rw [List.filterMap_cons, hf]; exact List.mem_cons_self)
      obtain ⟨sl, e⟩ := I.base.slot L o ho (I.ok.frf L hL) hL fun z => I.ok.exfs L z hL
      exact ⟨hk, ⟨L, _, hf, hn, e, hd⟩, ih (fun b hb => hs b (by unfold frs; rw [List.filterMap_cons, hf]; exact List.mem_cons_of_mem _ hb)) hr⟩
  exact all X.outer (fun _ hb => hb) I.ok.funs
theorem Inv.stack (I : Inv X pins σ H s) : s.heap.FunFrames X.base X.stack := by
  rcases I.ok.stk with e | ⟨e, hf⟩
  · rw [e]; exact I.funs
  · rw [e]
    obtain ⟨m, hn, _⟩ := I.loc
    refine .cons (by rw [I.ok.kind]; decide) hf hn ?_ I.funs
    exact Heap.get?_none_of_le (Nat.le_trans I.ok.bsz I.ok.above)
theorem Inv.stkSub (I : Inv X pins σ H s) : ∀ b ∈ frs X.stack, b ∈ X.env.locals :: X.fs := fun b hb => by
  rcases I.ok.stk with e | ⟨e, hf⟩
  · rw [e] at hb; exact List.mem_cons_of_mem _ hb
  · rw [e] at hb
    unfold frs at hb
    rw [List.filterMap_cons, hf] at hb
    exact hb
theorem Inv.stkFree (I : Inv X pins σ H s) : ∀ b ∈ frs X.stack, H b = none := fun b hb => by
  rcases List.mem_cons.mp (I.stkSub b hb) with e | hb
  · rw [e]; exact I.free
  · obtain ⟨_, o, ho, _⟩ := I.ok.funs.mem hb
    exact I.base.free b o ho (I.ok.frf b hb) fun z => I.ok.exfs b z hb
theorem Inv.step {g' : Array GenState} {t' : Nat} {d' : Drawn} {ch : List Addr} (I : Inv X pins σ H s)
    (hch : ∀ b ∈ ch, (b ∈ X.ex ∨ X.s₀.heap.objs.size ≤ b) ∧ b ≠ X.env.locals ∧ (∀ x c, X.env.cells.lookup x = some c → c ≠ b) ∧ ∀ p ∈ X.pn ++ pins, p.1 ≠ b)
    (keep : ∀ b o, b ≠ X.env.locals → b ∉ X.fs → b ∉ ch → s.heap.get? b = some o → H b = none → h'.get? b = some o)
    (slot : ∀ b o, b ≠ X.env.locals → b ∈ X.fs → b ∉ ch → s.heap.get? b = some o → H b = none → ∃ sl, h'.get? b = some { o with slots := sl }) (free : ∀ b o, b ∉ ch → s.heap.get? b = some o → H b = none → H' b = none)
    (there : ∀ b o, b ∉ ch → s.heap.get? b = some o → ∃ o', h'.get? b = some o')
    (tups : ∀ b xs, H b = some (.tup xs) → H' b = some (.tup xs)) (frzs : ∀ b o u, H b = some (.frz o u) → H' b = some (.frz o u)) (tbls : ∀ b ps, H b = some (.tbl ps) → ∃ more, H' b = some (.tbl (ps ++ more)))
    (ns : ∀ m, s.heap.Ns X.env.locals m → h'.Ns X.env.locals m) (hok : HOk X.prog X.w H' h') (hg : AllBare g') :
    Inv X pins σ H' { s with heap := h', gens := g', drawn := d', toks := t' } := by
  have neL : ∀ b o, X.s₀.heap.get? b = some o → b ≠ X.env.locals := fun b o e => Nat.ne_of_lt (Nat.lt_of_lt_of_le (Heap.lt_size e) I.ok.above)
  have neC : ∀ b o, X.s₀.heap.get? b = some o → b ∉ X.ex → b ∉ ch := fun b o e hx hb => by
    rcases (hch b hb).1 with z | z
    · exact hx z
    · exact absurd (Nat.lt_of_lt_of_le (Heap.lt_size e) z) (Nat.lt_irrefl _)
  have cellK : ∀ x c, X.env.cells.lookup x = some c → ∀ v, s.heap.IsCell c v → h'.IsCell c v := fun x c e v ⟨o, ho, hd⟩ => by
    have nch : c ∉ ch := fun z => (hch c z).2.2.1 x c e rfl
    by_cases hc : c ∈ X.fs
    · obtain ⟨sl, q⟩ := slot c o (I.cne x c e) hc nch ho (I.freeC x c e)
      exact ⟨_, q, hd⟩
    · exact ⟨o, keep c o (I.cne x c e) hc nch ho (I.freeC x c e), hd⟩
  refine ⟨I.ok, I.os, hg, ⟨fun b o e n hb hx => ?_, fun b o e n hb hx => ?_, fun b o e n hx => ?_, fun b o e hx => ?_, fun b xs e => tups b xs (I.base.tups b xs e), fun b o xs e => frzs b o xs (I.base.frzs b o xs e), fun b ps e => ?_⟩, ?_, fun x c e => ?_, ?_, fun x c e => ?_, fun p hp => ?_, hok, I.len⟩
  · exact keep b o (neL b o e) hb (neC b o e hx) (I.base.keep b o e n hb hx) (I.base.free b o e n hx)
  · obtain ⟨sl, e1⟩ := I.base.slot b o e n hb hx
    obtain ⟨sl', e2⟩ := slot b _ (neL b o e) hb (neC b o e hx) e1 (I.base.free b o e n hx)
    exact ⟨sl', e2⟩
  · obtain ⟨o', e1⟩ := I.base.there b o e hx
    exact free b o' (neC b o e hx) e1 (I.base.free b o e n hx)
  · obtain ⟨o', e1⟩ := I.base.there b o e hx
    exact there b o' (neC b o e hx) e1
  · obtain ⟨m1, e1⟩ := I.base.tbls b ps e
    obtain ⟨m2, e2⟩ := tbls b _ e1
    exact ⟨m1 ++ m2, by rw [e2, Array.append_assoc]⟩
  · obtain ⟨m, hn, hl⟩ := I.loc
    refine ⟨m, ns m hn, fun i x v e1 e2 e3 => ?_⟩
    obtain ⟨u, r, l⟩ := hl i x v e1 e2 e3
    refine ⟨u, r, ?_⟩
    rcases l with l | ⟨k, c, e, z⟩
    · exact .inl l
    · exact .inr ⟨k, c, e, cellK x c e _ z⟩
  · obtain ⟨v, z⟩ := I.cell x c e
    exact ⟨v, cellK x c e v z⟩
  · obtain ⟨m, ⟨o, _, _, ho, _⟩, _⟩ := I.loc
    exact free _ o (fun z => (hch _ z).2.1 rfl) ho I.free
  · obtain ⟨v, o, ho, hd⟩ := I.cell x c e
    exact free c o (fun z => (hch c z).2.2.1 x c e rfl) ho (I.freeC x c e)
  · obtain ⟨e, n, ne, nf, d⟩ := I.pin p hp
    have nch : p.1 ∉ ch := fun z => (hch p.1 z).2.2.2 p hp rfl
    exact ⟨keep p.1 p.2 ne nf nch e n, free p.1 p.2 nch e n, ne, nf, d⟩
theorem Inv.un {t' : Nat} (I : Inv X pins σ H s) (u : Un X.fs [] H H' s.heap h') (hok : HOk X.prog X.w H' h') : Inv X pins σ H' { s with heap := h', toks := t' } := by
  obtain ⟨m, ⟨o, es, ep, ho, r⟩, _⟩ := id I.loc
  obtain ⟨sl, hL⟩ := u.any ho I.free (by simp)
  exact I.step (g' := s.gens) (d' := s.drawn) (ch := []) (fun _ z => nomatch z) (fun b o _ hb _ e n => u.keep b o e n hb (by simp)) (fun b o _ hb _ e n => u.slot b o e n hb (by simp)) (fun b o _ e n => u.free b o e n (by simp)) (fun b o _ e => u.there b o e (by simp)) u.tups u.frzs u.tbls (fun m' hm => by
    obtain ⟨o', es', ep', ho', r'⟩ := hm
    rw [ho] at ho'; cases ho'
    exact ⟨_, es', ep', hL, r'⟩) hok I.bare
theorem Inv.call {g' : Array GenState} {t' : Nat} {d' : Drawn} {ch : List Addr} (I : Inv X pins σ H s) (u : Un (frs X.stack) ch H H' s.heap h') (hok : HOk X.prog X.w H' h') (hg : AllBare g')
    (hch : ∀ b ∈ ch, (b ∈ X.ex ∨ X.s₀.heap.objs.size ≤ b) ∧ b ≠ X.env.locals ∧ (∀ x c, X.env.cells.lookup x = some c → c ≠ b) ∧ ∀ p ∈ X.pn ++ pins, p.1 ≠ b) :
    Inv X pins σ H' { s with heap := h', gens := g', drawn := d', toks := t' } := by
  obtain ⟨m, ⟨o, es, ep, ho, r⟩, _⟩ := id I.loc
  obtain ⟨sl, hL⟩ := u.any ho I.free fun z => (hch _ z).2.1 rfl
  exact I.step (ch := ch) hch (fun b o hL hb hc e n => u.keep b o e n (fun z => (List.mem_cons.mp (I.stkSub b z)).elim hL hb) hc) (fun b o _ _ hc e n => u.any e n hc) (fun b o hc e n => u.free b o e n hc) (fun b o hc e => u.there b o e hc) u.tups u.frzs u.tbls (fun m' hm => by
    obtain ⟨o', es', ep', ho', r'⟩ := hm
    rw [ho] at ho'; cases ho'
    exact ⟨_, es', ep', hL, r'⟩) hok hg
theorem Inv.turned {t' : Nat} {it : Addr} (I : Inv X pins σ H s) (k : ∀ b o, b ≠ it → s.heap.get? b = some o → h'.get? b = some o) (hn : H it = none) (hL : it ≠ X.env.locals)
    (h1 : it ∈ X.ex ∨ X.s₀.heap.objs.size ≤ it) (h2 : ∀ x c, X.env.cells.lookup x = some c → c ≠ it) (h3 : ∀ p ∈ X.pn ++ pins, p.1 ≠ it) : Inv X pins σ H { s with heap := h', toks := t' } := by
  have nit : ∀ b u, H b = some u → b ≠ it := fun b u e z => by rw [z, hn] at e; cases e
  refine I.step (g' := s.gens) (d' := s.drawn) (ch := [it]) (fun b hb => ?_) (fun b o _ _ hc e _ => k b o (fun z => hc (by simp [z])) e) (fun b o _ _ hc e _ => ⟨o.slots, k b o (fun z => hc (by simp [z])) e⟩) (fun _ _ _ _ n => n)
    (fun b o hc e => ⟨o, k b o (fun z => hc (by simp [z])) e⟩) (fun _ _ e => e) (fun _ _ _ e => e) (fun b ps e => ⟨#[], by rw [e]; simp⟩) (fun m hm => ?_) (fun b u e => ?_) I.bare
  · have e : b = it := by simpa using hb
    subst e
    exact ⟨h1, hL, h2, h3⟩
  · obtain ⟨o, es, ep, ho, r⟩ := hm
    exact ⟨o, es, ep, k _ o (Ne.symm hL) ho, r⟩
  · refine (I.hok b u e).stay (fun c v hc q => k c v ?_ q) (fun _ q => q) fun _ _ q => q
    rcases hc with z | z
    · rw [z]; exact nit b u e
    · exact nit c _ z
theorem Inv.tok (I : Inv X pins σ H s) (t : Nat) : Inv X pins σ H { s with toks := t } := I.un (h' := s.heap) (t' := t) Un.refl I.hok
theorem Inv.kept {t' : Nat} (I : Inv X pins σ H s) (k : ∀ b u, s.heap.get? b = some u → h'.get? b = some u) : Inv X pins σ H { s with heap := h', toks := t' } := I.un (Un.kept k) (I.hok.kept k)
theorem Inv.laid {a : Addr} {o : HO} {t' : Nat} (I : Inv X pins σ H s) (k : ∀ b u, s.heap.get? b = some u → h'.get? b = some u) (hp : s.heap.objs.size ≤ a) (new : ObjOk X.prog X.w (upd H a o) h' a o) :
    Inv X pins σ (upd H a o) { s with heap := h', toks := t' } := I.un (Un.laid k hp (I.hok.fresh hp)) (I.hok.laid k hp new)
theorem Inv.write {x e : Addr} {o : HO} {t' : Nat} (I : Inv X pins σ H s) (mu : Mut (H x)) (he : e = x ∨ H e = some (.own x)) (k : ∀ b u, b ≠ e → s.heap.get? b = some u → h'.get? b = some u) (heo : ∃ u, h'.get? e = some u)
    (new : ObjOk X.prog X.w (upd H x o) h' x o) : Inv X pins σ (upd H x o) { s with heap := h', toks := t' } := I.un (Un.write mu he k heo) (I.hok.write mu he k heo new)
theorem Inv.pins_of {pins' : List (Addr × Obj)} (I : Inv X pins σ H s) (h : ∀ p ∈ pins', s.heap.get? p.1 = some p.2 ∧ H p.1 = none ∧ p.1 ≠ X.env.locals ∧ p.1 ∉ X.fs ∧ ∀ v, p.2.data ≠ .cell v) : Inv X pins' σ H s :=
  ⟨I.ok, I.os, I.bare, I.base, I.loc, I.cell, I.free, I.freeC, fun p hp => (List.mem_append.mp hp).elim (fun z => I.pin p (List.mem_append_left _ z)) (h p), I.hok, I.len⟩
theorem nodup_ix {N : List Str} (hN : N.Nodup) {i j : Nat} {x : Str} (a : N[i]? = some x) (b : N[j]? = some x) : i = j := by
  obtain ⟨h1, e1⟩ := List.getElem?_eq_some_iff.mp a
  obtain ⟨h2, e2⟩ := List.getElem?_eq_some_iff.mp b
  exact (List.getElem_inj hN).mp (e1.trans e2.symm)
theorem store_ok2 {M : Model} {A : Around} {E : Value → Shared → Prop} {i : Nat} {x : Str} {v : V} {u : Value} {Q : Unit → Shared → Prop} (I : Inv X pins σ H s) (hN : X.N.Nodup) (hi : X.N[i]? = some x) (hx : Loc X.env.scope x) (r : RelV v u)
    (h : ∀ s', Inv X pins (σ.set i (some v)) H s' → (∃ a, Heap.SameBut a s.heap s'.heap ∧ (a = X.env.locals ∨ X.env.cells.lookup x = some a)) → Q () s') (hf : X.fn x = true ∨ X.env.scope.names.lookup x = some .local := by first | exact .inl rfl | exact .inr rfl | assumption) : wpAny M A (storeName X.env x u) Q E s := by
  obtain ⟨m, hn, hl⟩ := id I.loc
  have hcls : (X.env.scope.kind == .class || (X.env.scope.kind == .module && X.env.locals != X.env.globals)) = false := by rw [I.ok.kind]; rfl
  have hiσ : i < σ.length := by rw [I.len]; exact (List.getElem?_eq_some_iff.mp hi).1
  have cne := I.cne
  have tracked : ∀ {a : Addr} {h' : Heap}, (∃ o, s.heap.get? a = some o ∧ H a = none) → Heap.SameBut a s.heap h' → HOk X.prog X.w H h' := fun {a h'} ha hs b ob e => by
    obtain ⟨_, _, hfree⟩ := ha
    refine (I.hok b ob e).stay (fun c w' hc q => (hs.2 c ?_).trans q) (fun _ q => q) fun _ _ q => q
    rintro rfl
    rcases hc with rfl | hc
    · rw [hfree] at e; cases e
    · rw [hfree] at hc; cases hc
  rcases hx with hk | hk
  · refine wpAny_storeName_local hk hn (fun h' hn' hs => ?_) hcls
    obtain ⟨oL, _, _, hoL, _⟩ := id hn
    refine h _ ⟨I.ok, I.os, I.bare, ⟨fun b o e n hb hx => ?_, fun b o e n hb hx => ?_, I.base.free, fun b o e hx => ?_, I.base.tups, I.base.frzs, I.base.tbls⟩, ⟨_, hn', fun j y v' e1 e2 e3 => ?_⟩, fun y c e => ?_, I.free, I.freeC, fun p hp => ?_, tracked ⟨oL, hoL, I.free⟩ hs, by simpa using I.len⟩ ⟨_, hs, .inl rfl⟩
    · exact (hs.2 b (Nat.ne_of_lt (Nat.lt_of_lt_of_le (Heap.lt_size e) I.ok.above))).trans (I.base.keep b o e n hb hx)
    · obtain ⟨sl, e1⟩ := I.base.slot b o e n hb hx
      exact ⟨sl, (hs.2 b (Nat.ne_of_lt (Nat.lt_of_lt_of_le (Heap.lt_size e) I.ok.above))).trans e1⟩
    · obtain ⟨o', e1⟩ := I.base.there b o e hx
      exact ⟨o', (hs.2 b (Nat.ne_of_lt (Nat.lt_of_lt_of_le (Heap.lt_size e) I.ok.above))).trans e1⟩
    · by_cases hj : j = i
      · subst hj
        rw [hi] at e1; cases e1
        rw [List.getElem?_set_self hiσ] at e2
        cases e2
        exact ⟨u, r, .inl ⟨hk, by simp⟩⟩
      · rw [List.getElem?_set_ne (Ne.symm hj)] at e2
        obtain ⟨u', r', q⟩ := hl j y v' e1 e2 e3
        refine ⟨u', r', ?_⟩
        rcases q with ⟨k, e⟩ | ⟨k, c, e, z⟩
        · refine .inl ⟨k, ?_⟩
          have : y ≠ x := fun e => hj (nodup_ix hN e1 (e ▸ hi))
          simp [this, e]
        · exact .inr ⟨k, c, e, z.sameBut hs (cne y c e)⟩
    · obtain ⟨w', z⟩ := I.cell y c e
      exact ⟨w', z.sameBut hs (cne y c e)⟩
    · obtain ⟨e, n, ne, nf, d⟩ := I.pin p hp
      exact ⟨(hs.2 p.1 ne).trans e, n, ne, nf, d⟩
  · have hfn : X.fn x = true := by
      rcases hf with z | z
      · exact z
      · rw [z] at hk; cases hk
    obtain ⟨c, hc⟩ := I.ok.has x (.inl hk)
    obtain ⟨w', z⟩ := I.cell x c hc
    refine wpAny_storeName_cell I.ok.kind hk hc z (fun h' hc' hs => ?_)
    obtain ⟨oc, hoc, hocd⟩ := id z
    refine h { s with heap := h' } ⟨I.ok, I.os, I.bare, ⟨fun b o e n hb hx => ?_, fun b o e n hb hx => ?_, I.base.free, fun b o e hx => ?_, I.base.tups, I.base.frzs, I.base.tbls⟩, ⟨m, hn.sameBut hs (Ne.symm (cne x c hc)), fun j y v' e1 e2 e3 => ?_⟩, fun y c' e => ?_, I.free, I.freeC, fun p hp => ?_, tracked ⟨oc, hoc, I.freeC x c hc⟩ hs, by simpa using I.len⟩ ⟨c, hs, .inr hc⟩
    · exact (hs.2 b (Nat.ne_of_lt (Nat.lt_of_lt_of_le (Heap.lt_size e) (I.ok.cab x c hfn hc)))).trans (I.base.keep b o e n hb hx)
    · obtain ⟨sl, e1⟩ := I.base.slot b o e n hb hx
      exact ⟨sl, (hs.2 b (Nat.ne_of_lt (Nat.lt_of_lt_of_le (Heap.lt_size e) (I.ok.cab x c hfn hc)))).trans e1⟩
    · obtain ⟨o', e1⟩ := I.base.there b o e hx
      exact ⟨o', (hs.2 b (Nat.ne_of_lt (Nat.lt_of_lt_of_le (Heap.lt_size e) (I.ok.cab x c hfn hc)))).trans e1⟩
    · by_cases hj : j = i
      · subst hj
        rw [hi] at e1; cases e1
        rw [List.getElem?_set_self hiσ] at e2
        cases e2
        exact ⟨u, r, .inr ⟨.inl hk, c, hc, hc'⟩⟩
      · rw [List.getElem?_set_ne (Ne.symm hj)] at e2
        obtain ⟨u', r', q⟩ := hl j y v' e1 e2 e3
        refine ⟨u', r', ?_⟩
        rcases q with q | ⟨k, c', e, z'⟩
        · exact .inl q
        · refine .inr ⟨k, c', e, z'.sameBut hs ?_⟩
          rintro rfl
          exact hj (nodup_ix hN e1 (I.ok.inj _ _ _ e hc ▸ hi))
    · by_cases hcc : c' = c
      · subst hcc; exact ⟨_, hc'⟩
      · obtain ⟨w2, z2⟩ := I.cell y c' e
        exact ⟨w2, z2.sameBut hs hcc⟩
    · obtain ⟨e, n, ne, nf, d⟩ := I.pin p hp
      refine ⟨(hs.2 p.1 ?_).trans e, n, ne, nf, d⟩
      intro q
      rw [q, hoc] at e
      have q' : oc = p.2 := Option.some.inj e
      exact d w' (by rw [← q']; exact hocd)
theorem store_ok {M : Model} {A : Around} {E : Value → Shared → Prop} {i : Nat} {x : Str} {v : V} {u : Value} {Q : Unit → Shared → Prop} (I : Inv X pins σ H s) (hN : X.N.Nodup) (hi : X.N[i]? = some x) (hx : Loc X.env.scope x) (r : RelV v u)
    (h : ∀ s', Inv X pins (σ.set i (some v)) H s' → Q () s') (hf : X.fn x = true ∨ X.env.scope.names.lookup x = some .local := by first | exact .inl rfl | exact .inr rfl | assumption) : wpAny M A (storeName X.env x u) Q E s :=
  store_ok2 I hN hi hx r (fun s' I' _ => h s' I') hf
theorem Inv.call' {s' : Shared} {ch : List Addr} (I : Inv X pins σ H s) (ho : s'.os = s.os) (u : Un (frs X.stack) ch H H' s.heap s'.heap) (hok : HOk X.prog X.w H' s'.heap) (hg : AllBare s'.gens)
    (hch : ∀ b ∈ ch, (b ∈ X.ex ∨ X.s₀.heap.objs.size ≤ b) ∧ b ≠ X.env.locals ∧ (∀ x c, X.env.cells.lookup x = some c → c ≠ b) ∧ ∀ p ∈ X.pn ++ pins, p.1 ≠ b) : Inv X pins σ H' s' := by
  obtain ⟨h', g', d', t', o'⟩ := s'
  have e : o' = s.os := ho
  subst e
  exact I.call (g' := g') (t' := t') (d' := d') u hok hg hch
end
abbrev XK := Value → Option Addr → Hp → Prop
abbrev St := List (Option V)
abbrev VK := V → Hp → Prop
abbrev TE := St → Hp → VK → Prop
abbrev TT := St → Hp → (Bool → Hp → Prop) → Prop
abbrev TA := St → Hp → (List V → Hp → Prop) → Prop
structure Ends where
  nx : St → Hp → Prop
  rt : VK
  bk : St → Hp → Prop := fun _ _ => False
  ct : St → Hp → Prop := fun _ _ => False
abbrev TS := Ends → St → Hp → Prop
def EP (X : Cx) (pins : List (Addr × Obj)) (σ : St) (Q : VK) (u : Value) (s' : Shared) : Prop := ∃ v H', Inv X pins σ H' s' ∧ RelV v u ∧ Q v H'
def TP (X : Cx) (pins : List (Addr × Obj)) (σ : St) (Q : Bool → Hp → Prop) (b : Bool) (s' : Shared) : Prop := ∃ H', Inv X pins σ H' s' ∧ Q b H'
def AP (X : Cx) (pins : List (Addr × Obj)) (σ : St) (Q : List V → Hp → Prop) (us : List Value) (s' : Shared) : Prop := ∃ vs H', Inv X pins σ H' s' ∧ Vals vs us ∧ Q vs H'
def SP (X : Cx) (pins : List (Addr × Obj)) (D : Ends) (f : Flow) (s' : Shared) : Prop :=
  match f with
  | .next => ∃ σ' H', Inv X pins σ' H' s' ∧ D.nx σ' H'
  | .brk => ∃ σ' H', Inv X pins σ' H' s' ∧ D.bk σ' H'
  | .cont => ∃ σ' H', Inv X pins σ' H' s' ∧ D.ct σ' H'
  | .ret u => ∃ v σ' H', Inv X pins σ' H' s' ∧ RelV v u ∧ D.rt v H'
def PE (X : Cx) (e : Expr) (t : TE) : Prop :=
  ∀ (pins : List (Addr × Obj)) (s : Shared) (σ : St) (H : Hp) (Q : VK), Inv X pins σ H s → t σ H Q → wpAny (model X.prog X.w) X.A (eval e X.env) (EP X pins σ Q) X.xe s
def PT (X : Cx) (e : Expr) (t : TT) : Prop :=
  ∀ (pins : List (Addr × Obj)) (s : Shared) (σ : St) (H : Hp) (Q : Bool → Hp → Prop), Inv X pins σ H s → t σ H Q → wpAny (model X.prog X.w) X.A (isTrue e X.env (eval e X.env)) (TP X pins σ Q) X.xe s
def PW (X : Cx) (e : Expr) (t : TT) : Prop :=
  ∀ (whole : Sem Value) (pins : List (Addr × Obj)) (s : Shared) (σ : St) (H : Hp) (Q : Bool → Hp → Prop), Inv X pins σ H s → t σ H Q → wpAny (model X.prog X.w) X.A (isTrue e X.env whole) (TP X pins σ Q) X.xe s
theorem PW.pt {X : Cx} {e : Expr} {t : TT} (h : PW X e t) : PT X e t := h _
def PA (X : Cx) (es : List Expr) (t : TA) : Prop :=
  ∀ (pos : Pos) (pins : List (Addr × Obj)) (s : Shared) (σ : St) (H : Hp) (Q : List V → Hp → Prop), Inv X pins σ H s → t σ H Q → wpAny (model X.prog X.w) X.A (spliced (backTo pos (starEach es X.env))) (AP X pins σ Q) X.xe s
def PS (X : Cx) (st : Stmt) (t : TS) : Prop :=
  ∀ (pins : List (Addr × Obj)) (s : Shared) (σ : St) (H : Hp) (D : Ends), Inv X pins σ H s → t D σ H → wpAny (model X.prog X.w) X.A (exec st X.env) (SP X pins D) X.xe s
def PSs (X : Cx) (st : List Stmt) (t : TS) : Prop :=
  ∀ (pins : List (Addr × Obj)) (s : Shared) (σ : St) (H : Hp) (D : Ends), Inv X pins σ H s → t D σ H → wpAny (model X.prog X.w) X.A (execs st X.env) (SP X pins D) X.xe s
theorem thn {α : Type} {t : Sem α} {Q Q' : α → Shared → Prop} {M : Model} {A : Around} {E : Value → Shared → Prop} {s : Shared} (h : wpAny M A t Q E s) (hQ : ∀ a s, Q a s → Q' a s) : wpAny M A t Q' E s := wpAny_mono h hQ fun _ _ x => x
end L2
namespace L2
open PySem PySem.Spec PyProof.Rows
section
variable {X : Cx}
inductive TVarP (i : Nat) (σ : St) (H : Hp) (Q : VK) : Prop
  | mk (v : _) : (σ[i]? = some (some v)) → (Q v H) → TVarP i σ H Q
def tVar (i : Nat) : TE := fun σ H Q => TVarP i σ H Q
def tC (v : V) : TE := fun _ H Q => Q v H
theorem pe_var {i : Nat} {x : Str} {pos : Pos} (hN : X.N[i]? = some x) (hv : Vis X.env.scope x) (hd : (x == ("__debug__" : Str)) = false := by decide) (hcd : (x == ("__classdict__" : Str)) = false := by decide) : PE X (.Name x pos) (tVar i) := by
  intro pins s σ H Q I h
  obtain ⟨v, e, h⟩ := h
  obtain ⟨m, hn, hl⟩ := I.loc
  obtain ⟨u, r, l⟩ := hl i x v hN e hv
  have fin : EP X pins σ Q u s := ⟨v, H, I, r, h⟩
  rcases l with ⟨hk, hm⟩ | ⟨hk, c, hc, hcell⟩
  · exact wpAny_Name (wpAny_loadName_local I.ok.kind hk hn hm fin) hd
  · rcases hk with hk | hk
    · exact wpAny_Name (wpAny_loadName_cell I.ok.kind hk hc hcell fin) hd
    · exact wpAny_Name (wpAny_loadName_free I.ok.kind hk hc hcell fin hcd) hd
theorem pe_int {i j pos} : PE X (.Constant (.int i) j pos) (tC (.int i)) := fun _ _ _ H _ I h => wpAny_Constant_int ⟨.int i, H, I.tok _, ⟨_, rfl⟩, h⟩
theorem pe_bl {b j pos} : PE X (.Constant (.bool b) j pos) (tC (.bl b)) := fun _ _ _ H _ I h => Constant_bool ⟨.bl b, H, I, rfl, h⟩
theorem pe_non {j pos} : PE X (.Constant .none j pos) (tC .non) := fun _ _ _ H _ I h => Constant_none ⟨.non, H, I, rfl, h⟩
theorem pe_str {x j pos} : PE X (.Constant (.str x) j pos) (tC (.str x)) := fun _ _ _ H _ I h => Calls.Constant_str ⟨.str x, H, I.tok _, ⟨_, rfl⟩, h⟩
def Gl (X : Cx) (x : Str) : Prop := X.env.kindOf x = some .globalImplicit
theorem ld_glob {E : Value → Shared → Prop} {pins : List (Addr × Obj)} {s : Shared} {σ : St} {H : Hp} {x : Str} {u : Value} {pos : Pos} {Q : Value → Shared → Prop} (I : Inv X pins σ H s) (hg : Gl X x) (hm : X.mg x = some u) (h : Q u s)
    (hd : (x == ("__debug__" : Str)) = false := by decide) : wpAny (model X.prog X.w) X.A (eval (.Name x pos) X.env) Q E s :=
  Calls.Name_function_global I.ok.kind hg (Calls.loadGlobal_global (by rw [I.ok.glob]; exact I.mod.glob.keeps I.bk) hm h) hd
theorem ld_blt {E : Value → Shared → Prop} {pins : List (Addr × Obj)} {s : Shared} {σ : St} {H : Hp} {x : Str} {u : Value} {pos : Pos} {Q : Value → Shared → Prop} (I : Inv X pins σ H s) (hg : Gl X x) (hm : X.mg x = none) (hv : bootBuiltins x = some u) (h : Q u s)
    (hn : x ≠ "__name__" := by decide) (hd : (x == ("__debug__" : Str)) = false := by decide) : wpAny (model X.prog X.w) X.A (eval (.Name x pos) X.env) Q E s := by
  obtain ⟨mb, h1, h2⟩ := I.mod.blt
  exact Calls.Name_function_global I.ok.kind hg (Calls.loadGlobal_builtin (by rw [I.ok.glob]; exact I.mod.glob.keeps I.bk) hm (by rw [I.ok.blt]; exact h1.keeps I.bk) ((h2 x hn).trans hv) h) hd
variable {a b : Expr} {ta tb : TE} {pos : Pos}
inductive BlP (x : V) (H : Hp) (Q : Bool → Hp → Prop) : Prop
  | mk (c : Bool) : (x = .bl c) → (Q c H) → BlP x H Q
def tB (t : TE) : TT := fun σ H Q => t σ H fun x H1 => BlP x H1 Q
theorem pt_val {e : Expr} {t : TE} (h : PE X e t) (he : ∀ whole, isTrue e X.env whole = (do let v ← whole; standAt e.pos; holding [v] (truthy v)) := by intro _; rfl) : PT X e (tB t) := by
  intro pins s σ H Q I hw
  refine isTrue_plain (thn (h pins s σ H _ I hw) fun v s1 ⟨x, H1, I1, r1, q1⟩ => ?_) (he _)
  obtain ⟨d, rfl, q⟩ := q1
  cases r1
  exact wpAny_truthy_bool ⟨H1, I1, q⟩
variable {tA tB' : TT} {rest : List Expr}
def tAnd (t u : TT) : TT := fun σ H Q => t σ H fun c H1 => if c = true then u σ H1 Q else Q false H1
def tOr (t u : TT) : TT := fun σ H Q => t σ H fun c H1 => if c = true then Q true H1 else u σ H1 Q
def tNot (t : TT) : TT := fun σ H Q => t σ H fun c H1 => Q (!c) H1
theorem pw_and1 (ha : PT X a tA) : PW X (.BoolOp .And [a] pos) tA := by
  intro wh pins s σ H Q I h
  refine isTrue_and (thn (ha pins s σ H Q I h) fun c s1 e => ?_)
  cases c with
  | true => exact isTrue_and_nil e
  | false => exact e
theorem pw_or1 (ha : PT X a tA) : PW X (.BoolOp .Or [a] pos) tA := by
  intro wh pins s σ H Q I h
  refine isTrue_or (thn (ha pins s σ H Q I h) fun c s1 e => ?_)
  cases c with
  | false => exact isTrue_or_nil e
  | true => exact e
theorem pw_and (ha : PT X a tA) (hb : PW X (.BoolOp .And (b :: rest) pos) tB') : PW X (.BoolOp .And (a :: b :: rest) pos) (tAnd tA tB') := by
  intro wh pins s σ H Q I h
  refine isTrue_and (thn (ha pins s σ H _ I h) fun c s1 ⟨H1, I1, q1⟩ => ?_)
  cases c with
  | true => exact hb wh pins s1 σ H1 Q I1 q1
  | false => exact ⟨H1, I1, q1⟩
theorem pw_or (ha : PT X a tA) (hb : PW X (.BoolOp .Or (b :: rest) pos) tB') : PW X (.BoolOp .Or (a :: b :: rest) pos) (tOr tA tB') := by
  intro wh pins s σ H Q I h
  refine isTrue_or (thn (ha pins s σ H _ I h) fun c s1 ⟨H1, I1, q1⟩ => ?_)
  cases c with
  | true => exact ⟨H1, I1, q1⟩
  | false => exact hb wh pins s1 σ H1 Q I1 q1
theorem pt_not (ha : PT X a tA) : PT X (.UnaryOp .Not a pos) (tNot tA) := by
  intro pins s σ H Q I h
  exact isTrue_not (ha pins s σ H (fun c H1 => Q (!c) H1) I h)
def tAndV (ta tb : TE) : TE := fun σ H Q => ta σ H fun x H1 => ∃ c, x = .bl c ∧ if c = true then tb σ H1 Q else Q (.bl false) H1
def tOrV (ta tb : TE) : TE := fun σ H Q => ta σ H fun x H1 => ∃ c, x = .bl c ∧ if c = true then Q (.bl true) H1 else tb σ H1 Q
def tNotV (ta : TE) : TE := fun σ H Q => ta σ H fun x H1 => ∃ c, x = .bl c ∧ Q (.bl (!c)) H1
theorem pe_one {op} {t : TE} (h : PE X a t) : PE X (.BoolOp op [a] pos) t := fun pins s σ H Q I hw => BoolOp_one (h pins s σ H Q I hw)
theorem pe_and (ha : PE X a ta) (hb : PE X (.BoolOp .And (b :: rest) pos) tb) : PE X (.BoolOp .And (a :: b :: rest) pos) (tAndV ta tb) := by
  intro pins s σ H Q I h
  refine BoolOp_and (thn (ha pins s σ H _ I h) fun v s1 ⟨x, H1, I1, r1, q1⟩ => ?_)
  obtain ⟨c, rfl, q1⟩ := q1
  cases r1
  refine wpAny_truthy_bool ?_
  cases c with
  | true => exact hb pins s1 σ H1 Q I1 q1
  | false => exact ⟨.bl false, H1, I1, rfl, q1⟩
theorem pe_or (ha : PE X a ta) (hb : PE X (.BoolOp .Or (b :: rest) pos) tb) : PE X (.BoolOp .Or (a :: b :: rest) pos) (tOrV ta tb) := by
  intro pins s σ H Q I h
  refine BoolOp_or (thn (ha pins s σ H _ I h) fun v s1 ⟨x, H1, I1, r1, q1⟩ => ?_)
  obtain ⟨c, rfl, q1⟩ := q1
  cases r1
  refine wpAny_truthy_bool ?_
  cases c with
  | false => exact hb pins s1 σ H1 Q I1 q1
  | true => exact ⟨.bl true, H1, I1, rfl, q1⟩
theorem pe_not (ha : PE X a ta) : PE X (.UnaryOp .Not a pos) (tNotV ta) := by
  intro pins s σ H Q I h
  refine UnaryOp_ (thn (ha pins s σ H _ I h) fun v s1 ⟨x, H1, I1, r1, q1⟩ => ?_)
  obtain ⟨c, rfl, q1⟩ := q1
  cases r1
  exact not_of (wpAny_truthy_bool ⟨.bl (!c), H1, I1, rfl, q1⟩)
def tIf (t : TT) (ta tb : TE) : TE := fun σ H Q => t σ H fun c H1 => if c = true then ta σ H1 Q else tb σ H1 Q
theorem pe_ifExp {c : Expr} (hc : PT X c tA) (ha : PE X a ta) (hb : PE X b tb) : PE X (.IfExp c a b pos) (tIf tA ta tb) := by
  intro pins s σ H Q I h
  refine wpAny_IfExp (thn (hc pins s σ H _ I h) fun d s1 ⟨H1, I1, q1⟩ => ?_)
  cases d with
  | true => exact ha pins s1 σ H1 Q I1 q1
  | false => exact hb pins s1 σ H1 Q I1 q1
end
end L2
namespace L2
open PySem PySem.Spec PyProof.Rows
def SqL (K : PySem.W.Frag) (H : Hp) (a : Addr) (xs : List V) : Prop :=
  Rd H a (.lst xs) ∨
    ∃ (o : Obj) (its : Array Value) (n : Nat), K.lookup a = some o ∧ o.cls = .type "list" ∧ o.dict = none ∧ o.data = .seq its n ∧ its.size ≤ sizeLine ∧ Vals xs its.toList
def SqT (K : PySem.W.Frag) (H : Hp) (a : Addr) (xs : List V) : Prop :=
  Rd H a (.tup xs) ∨
    ∃ (o : Obj) (its : Array Value) (n : Nat), K.lookup a = some o ∧ o.cls = .type "tuple" ∧ o.data = .seq its n ∧ its.size ≤ sizeLine ∧ Vals xs its.toList
def absV : Value → Option V
  | .none => some .non
  | .bool b => some (.bl b)
  | .int i _ => some (.int i)
  | .str x _ => some (.str x)
  | .bytes b _ => some (.byt b)
  | .float b _ => some (.flt b)
  | .ref a => some (.ref a)
  | .type n => some (.ty n)
  | _ => none
theorem RelV.abs {x : V} {u : Value} (r : RelV x u) : absV u = some x := by
  cases x with
  | non => cases r; rfl
  | bl _ => cases r; rfl
  | int _ => obtain ⟨t, rfl⟩ := r; rfl
  | str _ => obtain ⟨t, rfl⟩ := r; rfl
  | byt _ => obtain ⟨t, rfl⟩ := r; rfl
  | flt _ => obtain ⟨t, rfl⟩ := r; rfl
  | ref _ => cases r; rfl
  | ty _ => cases r; rfl
theorem RelV.inj {x y : V} {u : Value} (r : RelV x u) (q : RelV y u) : x = y := Option.some.inj (r.abs.symm.trans q.abs)
theorem Vals.inj : ∀ {xs ys : List V} {us : List Value}, Vals xs us → Vals ys us → xs = ys
  | _, _, _, .nil, .nil => rfl
  | _, _, _, .cons r t, .cons r' t' => by rw [r.inj r', Vals.inj t t']
section
variable {X : Cx} {pins : List (Addr × Obj)} {σ : St} {H : Hp} {s : Shared} {a : Addr} {xs ys : List V}
theorem SqL.of {K : PySem.W.Frag} (h : H a = some (.lst xs)) : SqL K H a xs := .inl (.inl h)
theorem SqT.of {K : PySem.W.Frag} (h : H a = some (.tup xs)) : SqT K H a xs := .inl (.inl h)
theorem Inv.list (I : Inv X pins σ H s) (h : SqL X.K H a xs) : ∃ its : List Value, Vals xs its ∧ PlainL s.heap a its.toArray ∧ xs.length ≤ sizeLine := by
  rcases h with h | ⟨o, its, n, hk, hc, hd, hs, hz, r⟩
  · obtain ⟨z, its, n, r, e⟩ := h.ok I.hok
    exact ⟨its, r, ⟨_, n, e, rfl, rfl, rfl⟩, z⟩
  · refine ⟨its.toList, r, ⟨o, n, I.kIn a o hk, hc, hd, by simpa using hs⟩, ?_⟩
    have e := r.length
    simp only [Array.length_toList] at e
    omega
theorem Inv.tuple (I : Inv X pins σ H s) (h : SqT X.K H a xs) : ∃ its : List Value, Vals xs its ∧ IsTup s.heap a its.toArray ∧ xs.length ≤ sizeLine := by
  rcases h with h | ⟨o, its, n, hk, hc, hs, hz, r⟩
  · obtain ⟨z, its, r, p⟩ := h.ok I.hok
    exact ⟨its, r, p.tup, z⟩
  · refine ⟨its.toList, r, ⟨o, I.kIn a o hk, hc, n, by simpa using hs⟩, ?_⟩
    have e := r.length
    simp only [Array.length_toList] at e
    omega
theorem Inv.list_inj (I : Inv X pins σ H s) (h : SqL X.K H a xs) (h' : SqL X.K H a ys) : xs = ys := by
  obtain ⟨its, r, ⟨o, n, e, _, _, d⟩, _⟩ := I.list h
  obtain ⟨its', r', ⟨o', n', e', _, _, d'⟩, _⟩ := I.list h'
  rw [e] at e'; cases e'
  rw [d] at d'
  injection d' with d1 _
  have : its = its' := by simpa using congrArg Array.toList d1
  subst this
  exact r.inj r'
theorem Inv.tuple_inj (I : Inv X pins σ H s) (h : SqT X.K H a xs) (h' : SqT X.K H a ys) : xs = ys := by
  obtain ⟨its, r, ⟨o, e, _, n, d⟩, _⟩ := I.tuple h
  obtain ⟨its', r', ⟨o', e', _, n', d'⟩, _⟩ := I.tuple h'
  rw [e] at e'; cases e'
  rw [d] at d'
  injection d' with d1 _
  have : its = its' := by simpa using congrArg Array.toList d1
  subst this
  exact r.inj r'
end
abbrev Cx.wish (X : Cx) (E : Value → Shared → Prop) : Cx := { X with xe := E }
abbrev Cx.nox (X : Cx) : Cx := X.wish fun _ _ => False
theorem Cx.Ok.wish {X : Cx} (ok : X.Ok) (E : Value → Shared → Prop) : (X.wish E).Ok :=
  ⟨ok.mod, ok.kind, ok.glob, ok.blt, ok.above, ok.inj, ok.has, ok.cab, ok.hd, ok.frames, ok.stk, ok.exf, ok.bs, ok.bsz, ok.noex, ok.exfs, ok.funs, ok.frf⟩
theorem Cx.Ok.unwish {X : Cx} {E : Value → Shared → Prop} (ok : (X.wish E).Ok) : X.Ok :=
  ⟨ok.mod, ok.kind, ok.glob, ok.blt, ok.above, ok.inj, ok.has, ok.cab, ok.hd, ok.frames, ok.stk, ok.exf, ok.bs, ok.bsz, ok.noex, ok.exfs, ok.funs, ok.frf⟩
section
variable {X : Cx} {pins : List (Addr × Obj)} {σ : St} {H : Hp} {s : Shared} {E : Value → Shared → Prop}
theorem Inv.wish (I : Inv X pins σ H s) (E : Value → Shared → Prop) : Inv (X.wish E) pins σ H s := ⟨I.ok.wish E, I.os, I.bare, I.base, I.loc, I.cell, I.free, I.freeC, I.pin, I.hok, I.len⟩
theorem Inv.unwish (I : Inv (X.wish E) pins σ H s) : Inv X pins σ H s := ⟨I.ok.unwish, I.os, I.bare, I.base, I.loc, I.cell, I.free, I.freeC, I.pin, I.hok, I.len⟩
theorem SP.unwish {D : Ends} {f : Flow} {s' : Shared} (h : SP (X.wish E) pins D f s') : SP X pins D f s' := by
  cases f with
  | next => obtain ⟨σ', H', I, q⟩ := h; exact ⟨σ', H', I.unwish, q⟩
  | brk => obtain ⟨σ', H', I, q⟩ := h; exact ⟨σ', H', I.unwish, q⟩
  | cont => obtain ⟨σ', H', I, q⟩ := h; exact ⟨σ', H', I.unwish, q⟩
  | ret u => obtain ⟨v, σ', H', I, r, q⟩ := h; exact ⟨v, σ', H', I.unwish, r, q⟩
theorem PSs.nox {st : List Stmt} {t : TS} (h : PSs X.nox st t) : PSs X st t := fun pins s σ H D I hw =>
  wpAny_mono (h pins s σ H D (I.wish _) hw) (fun _ _ q => q.unwish) fun _ _ z => False.elim z
end
section
variable {X : Cx} {st : Stmt} {rest : List Stmt} {t u : TS} {e : Expr} {te : TE} {pos : Pos}
def tNext : TS := fun D σ H => D.nx σ H
def tSeq (t u : TS) : TS := fun D σ H => t { D with nx := u D } σ H
theorem pss_nil : PSs X [] tNext := fun _ _ σ H _ I h => wpAny_execs_nil ⟨σ, H, I, h⟩
theorem pss_cons (h1 : PS X st t) (h2 : PSs X rest u) : PSs X (st :: rest) (tSeq t u) := by
  intro pins s σ H D I h
  refine wpAny_execs_cons (thn (h1 pins s σ H { D with nx := u D } I h) fun f s1 q => ?_)
  cases f with
  | next =>
    obtain ⟨σ', H', I', q⟩ := q
    exact h2 pins s1 σ' H' D I' q
  | ret v => exact q
  | brk => exact q
  | cont => exact q
theorem pss_one (h1 : PS X st t) : PSs X [st] t := by
  intro pins s σ H D I h
  refine wpAny_execs_cons (thn (h1 pins s σ H D I h) fun f s1 q => ?_)
  cases f with
  | next => exact wpAny_execs_nil q
  | ret v => exact q
  | brk => exact q
  | cont => exact q
theorem Inv.quiet {pins : List (Addr × Obj)} {σ : St} {H : Hp} {s : Shared} (I : Inv X pins σ H s) : interactive X.env = false := by simp [interactive, I.ok.kind]
def tDrop (te : TE) : TS := fun D σ H => te σ H fun _ H1 => D.nx σ H1
theorem ps_expr (he : PE X e te) (hs : swapsWith e none pos.line X.env = pure false := by rfl) : PS X (.Expr e pos) (tDrop te) := by
  intro pins s σ H D I h
  exact wpAny_Expr_any (thn (he pins s σ H _ I h) fun v s1 ⟨x, H1, I1, r1, q1⟩ => ⟨σ, H1, I1, q1⟩) I.quiet hs
def tRet (te : TE) : TS := fun D σ H => te σ H D.rt
theorem ps_ret (he : PE X e te) : PS X (.Return (some e) pos) (tRet te) := by
  intro pins s σ H D I h
  exact wpAny_Return_some (thn (he pins s σ H _ I h) fun v s1 ⟨x, H1, I1, r1, q1⟩ => ⟨x, σ, H1, I1, r1, q1⟩)
def tIfS (c : TT) (t u : TS) : TS := fun D σ H => c σ H fun b H1 => if b = true then t D σ H1 else u D σ H1
theorem ps_if {c : Expr} {a b : List Stmt} {tc : TT} (hc : PT X c tc) (ha : PSs X a t) (hb : PSs X b u) : PS X (.If c a b pos) (tIfS tc t u) := by
  intro pins s σ H D I h
  refine wpAny_If (thn (hc pins s σ H _ I h) fun d s1 ⟨H1, I1, q1⟩ => ?_)
  cases d with
  | true => exact ha pins s1 σ H1 D I1 q1
  | false => exact hb pins s1 σ H1 D I1 q1
def tNever : TS := fun _ _ _ => False
theorem ps_never : PS X st tNever := fun _ _ _ _ _ _ h => h.elim
theorem pss_never {sts : List Stmt} : PSs X sts tNever := fun _ _ _ _ _ _ h => h.elim
end
abbrev TG := V → St → Hp → (St → Hp → Prop) → Prop
abbrev TGs := List V → St → Hp → (St → Hp → Prop) → Prop
def PG (X : Cx) (target : Expr) (t : TG) : Prop :=
  ∀ (pins : List (Addr × Obj)) (s : Shared) (σ : St) (H : Hp) (v : V) (u : Value) (Q : St → Hp → Prop), Inv X pins σ H s → RelV v u → t v σ H Q →
    wpAny (model X.prog X.w) X.A (assign target X.env u) (fun _ s' => ∃ σ' H', Inv X pins σ' H' s' ∧ Q σ' H') X.xe s
def PGs (X : Cx) (ts : List Expr) (t : TGs) : Prop :=
  ∀ (pins : List (Addr × Obj)) (s : Shared) (σ : St) (H : Hp) (vs : List V) (us : List Value) (Q : St → Hp → Prop), Inv X pins σ H s → Vals vs us → t vs σ H Q →
    wpAny (model X.prog X.w) X.A (assignInOrder ((assignEach ts X.env).map (·.2)) us) (fun _ s' => ∃ σ' H', Inv X pins σ' H' s' ∧ Q σ' H') X.xe s
abbrev TSet := V → V → V → Hp → (Hp → Prop) → Prop
def PSet (X : Cx) (t : TSet) : Prop :=
  ∀ (pins : List (Addr × Obj)) (s : Shared) (σ : St) (H : Hp) (o i v : V) (ov iv u : Value) (Q : Hp → Prop), Inv X pins σ H s → RelV o ov → RelV i iv → RelV v u → t o i v H Q →
    wpAny (model X.prog X.w) X.A (setItem ov iv u) (fun _ s' => ∃ H', Inv X pins σ H' s' ∧ Q H') X.xe s
abbrev TIp := V → V → Hp → VK → Prop
def PIp (X : Cx) (op : Operator) (t : TIp) : Prop :=
  ∀ (pins : List (Addr × Obj)) (s : Shared) (σ : St) (H : Hp) (x y : V) (v u : Value) (Q : VK), Inv X pins σ H s → RelV x v → RelV y u → t x y H Q →
    wpAny (model X.prog X.w) X.A (inplaceOp op v u) (EP X pins σ Q) X.xe s
section
variable {X : Cx} {pos : Pos}
def gName (i : Nat) : TG := fun v σ H Q => Q (σ.set i (some v)) H
theorem pg_name {i : Nat} {x : Str} (hN : X.N.Nodup) (hi : X.N[i]? = some x) (hx : Loc X.env.scope x) (hf : X.fn x = true ∨ X.env.scope.names.lookup x = some .local := by first | exact .inl rfl | exact .inr rfl | assumption) : PG X (.Name x pos) (gName i) := by
  intro pins s σ H v u Q I r h
  exact wpAny_assign_Name (store_ok I hN hi hx r (fun s' I' => ⟨_, H, I', h⟩) hf)
def gNil : TGs := fun vs σ H Q => vs = [] ∧ Q σ H
def gCons (t : TG) (u : TGs) : TGs := fun vs σ H Q => ∃ v r, vs = v :: r ∧ t v σ H fun σ' H' => u r σ' H' Q
theorem pgs_nil : PGs X [] gNil := by
  intro pins s σ H vs us Q I r h
  obtain ⟨e, h⟩ := h
  subst e
  cases r
  exact assignInOrder_nil ⟨σ, H, I, h⟩
theorem pgs_cons {e : Expr} {es : List Expr} {t : TG} {u : TGs} (h1 : PG X e t) (h2 : PGs X es u)
    (hs : (assignEach (e :: es) X.env).map (·.2) = assign e X.env :: (assignEach es X.env).map (·.2) := by rfl) : PGs X (e :: es) (gCons t u) := by
  intro pins s σ H vs us Q I r h
  obtain ⟨v, vr, e1, h⟩ := h
  subst e1
  cases r with
  | cons r rr =>
    rw [hs]
    refine assignInOrder_cons (thn (h1 pins s σ H _ _ _ I r h) fun _ s1 ⟨σ1, H1, I1, q1⟩ => ?_)
    exact h2 pins s1 σ1 H1 _ _ Q I1 rr q1
def gTup (K : PySem.W.Frag) (n : Nat) (t : TGs) : TG := fun v σ H Q => ∃ a xs, v = .ref a ∧ SqT K H a xs ∧ xs.length = n ∧ t xs σ H Q
theorem pg_tup {es : List Expr} {k : Nat} {t : TGs} {n : Nat} (hc : X.calm = true) (h : PGs X es t)
    (hn : (assignEach es X.env).length = n := by rfl) (hst : (assignEach es X.env).findIdx? (·.1) = none := by rfl) : PG X (.Tuple es k pos) (gTup X.K n t) := by
  intro pins s σ H v u Q I r hw
  obtain ⟨a, xs, e1, hq, hl, hw⟩ := hw
  subst e1
  cases r
  obtain ⟨its, rv, ht, hz⟩ := I.tuple hq
  refine assign_Tuple_tuple (I.ok.hd hc) ht (by simp [hn, ← hl, rv.length]) hst fun h' hx => ?_
  have I1 : Inv X pins σ H { s with heap := h' } := I.kept (t' := s.toks) fun b o e => hx b o (Nat.ne_of_lt (Heap.lt_size e)) e
  exact h pins _ σ H xs _ Q I1 (by simpa using rv) hw
def gSub (to ti : TE) (t : TSet) : TG := fun v σ H Q => to σ H fun o H1 => ti σ H1 fun i H2 => t o i v H2 fun H3 => Q σ H3
theorem pg_sub {o i : Expr} {to ti : TE} {t : TSet} (ho : PE X o to) (hi : PE X i ti) (hs : PSet X t)
    (ha : ∀ v, assign (.Subscript o i pos) X.env v = (do
      let ov ← holding [v] (eval o X.env)
      let iv ← holding [v, ov] (eval i X.env)
      standAt pos
      holding [v, ov, iv] (setItem ov iv v)
      release [v, ov, iv] []) := by intro _; rfl) : PG X (.Subscript o i pos) (gSub to ti t) := by
  intro pins s σ H v u Q I r h
  rw [ha]
  refine wpAny_bind (wpAny_holding (thn (ho pins s σ H _ I h) fun ov s1 ⟨x, H1, I1, r1, q1⟩ => ?_))
  refine wpAny_bind (wpAny_holding (thn (hi pins s1 σ H1 _ I1 q1) fun iv s2 ⟨y, H2, I2, r2, q2⟩ => ?_))
  refine wpAny_bind (wpAny_standAt (wpAny_bind (wpAny_holding (thn (hs pins s2 σ H2 x y v ov iv u _ I2 r1 r2 r q2) fun _ s3 ⟨H3, I3, q3⟩ => ?_))))
  exact wpAny_release ⟨σ, H3, I3, q3⟩
def tAsg (te : TE) (g : TG) : TS := fun D σ H => te σ H fun x H1 => g x σ H1 D.nx
theorem ps_asg {tg e : Expr} {te : TE} {g : TG} (he : PE X e te) (hg : PG X tg g) (hs : swapsWithSole [tg] e pos.line X.env = pure false := by rfl) (hw : swappedStores [tg] e X.env = pure none := by rfl)
    (h1 : (assignEach [tg] X.env).map (·.2) = [assign tg X.env] := by rfl) : PS X (.Assign [tg] e pos) (tAsg te g) := by
  intro pins s σ H D I h
  refine wpAny_Assign_stores (thn (he pins s σ H _ I h) fun v s1 ⟨x, H1, I1, r1, q1⟩ => ?_) hs hw
  rw [h1]
  exact thn (hg pins s1 σ H1 x v _ I1 r1 q1) fun _ s2 q => q
theorem ps_set {i : Nat} {x : Str} {e : Expr} {te : TE} {pos' : Pos} (hN : X.N.Nodup) (hi : X.N[i]? = some x) (hx : Loc X.env.scope x) (he : PE X e te) (hs : swapsWith e (some (.Name x pos')) pos.line X.env = pure false := by rfl) (hf : X.fn x = true ∨ X.env.scope.names.lookup x = some .local := by first | exact .inl rfl | exact .inr rfl | assumption) :
    PS X (.Assign [.Name x pos'] e pos) (tAsg te (gName i)) := by
  intro pins s σ H D I h
  refine wpAny_Assign_Name (thn (he pins s σ H _ I h) fun v s1 ⟨y, H1, I1, r1, q1⟩ => ?_) hs
  exact store_ok I1 hN hi hx r1 (fun s2 I2 => ⟨_, H1, I2, q1⟩) hf
def tPar (i j : Nat) (ta : TA) : TS := fun D σ H => ta σ H fun vs H1 => ∃ v w, vs = [v, w] ∧ D.nx ((σ.set i (some v)).set j (some w)) H1
theorem ps_par {i j : Nat} {x y : Str} {a b : Expr} {ta : TA} {px py pt : Pos} {kt k2 pt2} (hc : X.calm = true) (hN : X.N.Nodup) (hi : X.N[i]? = some x) (hj : X.N[j]? = some y) (hij : i ≠ j)
    (hx : X.env.scope.names.lookup x = some .local) (hy : X.env.scope.names.lookup y = some .local) (ha : PA X [a, b] ta)
    (hw : swappedStores [.Tuple [.Name x px, .Name y py] kt pt] (.Tuple [a, b] k2 pt2) X.env = pure (some [x, y]))
    (hs : swapsWithSole [.Tuple [.Name x px, .Name y py] kt pt] (.Tuple [a, b] k2 pt2) pos.line X.env = pure false := by rfl) :
    PS X (.Assign [.Tuple [.Name x px, .Name y py] kt pt] (.Tuple [a, b] k2 pt2) pos) (tPar i j ta) := by
  intro pins s σ H D I h
  rw [exec_Assign_arm]
  refine wpAny_bind (wpAny_standAt ?_)
  rw [hs]
  refine wpAny_bind (wpAny_pure ?_)
  rw [if_neg (by decide)]
  refine wpAny_bind (Tuple_ (thn (ha _ pins s σ H _ I h) fun us s1 ⟨vs, H1, I1, r1, q1⟩ => ?_))
  obtain ⟨v, w, e1, q1⟩ := q1
  subst e1
  obtain ⟨u1, u2, rfl, rv, rw'⟩ : ∃ u1 u2, us = [u1, u2] ∧ RelV v u1 ∧ RelV w u2 := by
    cases r1 with
    | cons p q =>
      cases q with
      | cons p' q' =>
        cases q'
        exact ⟨_, _, rfl, p, p'⟩
  refine wpAny_newObj_type ?_ (by show 2 ≤ sizeLine; decide)
  have I2 : Inv X pins σ H1 { s1 with heap := s1.heap.push { cls := .type "tuple", data := .seq [u1, u2].toArray } } := I1.kept (t' := s1.toks) fun b o e => Heap.get?_push_of_some _ e
  rw [hw]
  refine wpAny_bind (wpAny_pure ?_)
  show wpAny (model X.prog X.w) X.A (do rule "assign.swapped-stores"; let items ← unpackItems (.ref s1.heap.objs.size) 2 none; assignInOrder [fun v => bindName X.env y v, fun v => bindName X.env x v] items.reverse; pure Flow.next) _ _ _
  refine wpAny_bind (wpAny_rule (wpAny_bind (unpackItems_tuple (items := #[u1, u2]) (I.ok.hd hc) (IsTup.new s1.heap _) fun h' hx' => ?_)))
  have I3 := I2.kept (h' := h') (t' := s1.toks) fun b o e => hx' b o (Nat.ne_of_lt (Heap.lt_size e)) e
  show wpAny _ _ (assignInOrder [fun v => bindName X.env y v, fun v => bindName X.env x v] [u2, u1] >>= fun _ => pure Flow.next) _ _ _
  refine wpAny_bind (assignInOrder_cons (wpAny_bindName (store_ok I3 hN hj (.inl hy) rw' (fun s2 I4 => ?_) (.inr hy))))
  refine assignInOrder_cons (wpAny_bindName (store_ok I4 hN hi (.inl hx) rv (fun s3 I5 => assignInOrder_nil (wpAny_pure ?_)) (.inr hx)))
  rw [List.set_comm _ _ (Ne.symm hij)] at I5
  exact ⟨_, H1, I5, q1⟩
def tAug (i : Nat) (te : TE) (ti : TIp) : TS := fun D σ H => ∃ x, σ[i]? = some (some x) ∧ te σ H fun y H1 => ti x y H1 fun z H2 => D.nx (σ.set i (some z)) H2
theorem ps_aug {i : Nat} {x : Str} {e : Expr} {te : TE} {op : Operator} {ti : TIp} {pos' : Pos} (hN : X.N.Nodup) (hi : X.N[i]? = some x) (hx : Loc X.env.scope x) (he : PE X e te) (ho : PIp X op ti) (hf : X.fn x = true ∨ X.env.scope.names.lookup x = some .local := by first | exact .inl rfl | exact .inr rfl | assumption) :
    PS X (.AugAssign (.Name x pos') op e pos) (tAug i te ti) := by
  intro pins s σ H D I h
  obtain ⟨v, e1, h⟩ := h
  obtain ⟨m, hn, hl⟩ := I.loc
  have vis : Vis X.env.scope x := by rcases hx with k | k; exact .inl k; exact .inr (.inl k)
  obtain ⟨u, r, l⟩ := hl i x v hi e1 vis
  refine wpAny_AugAssign_Name ?_
  have go : wpAny (model X.prog X.w) X.A (eval e X.env) (fun w s₂ => wpAny (model X.prog X.w) X.A (inplaceOp op u w) (fun r s₃ => wpAny (model X.prog X.w) X.A (storeName X.env x r) (fun _ => SP X pins D .next) X.xe s₃) X.xe s₂) X.xe s := by
    refine thn (he pins s σ H _ I h) fun w s1 ⟨y, H1, I1, r1, q1⟩ => ?_
    refine thn (ho pins s1 σ H1 v y u w _ I1 r r1 q1) fun z s2 ⟨zv, H2, I2, r2, q2⟩ => ?_
    exact store_ok I2 hN hi hx r2 (fun s3 I3 => ⟨_, H2, I3, q2⟩) hf
  rcases l with ⟨hk, hm⟩ | ⟨hk, c, hc, hcell⟩
  · exact wpAny_loadName_local I.ok.kind hk hn hm go
  · rcases hk with hk | hk
    · exact wpAny_loadName_cell I.ok.kind hk hc hcell go
    · rcases hx with k | k
      · have : X.env.scope.names.lookup x = some .free := hk
        rw [k] at this; cases this
      · have : X.env.scope.names.lookup x = some .free := hk
        rw [k] at this; cases this
def ipI (f : Int → Int → Int) : TIp := fun x y H Q => ∃ i j, x = .int i ∧ y = .int j ∧ Q (.int (f i j)) H
theorem ip_add : PIp X .Add (ipI fun i j => i + j) := by
  intro pins s σ H x y v u Q I r1 r2 h
  obtain ⟨i, j, e1, e2, q⟩ := h
  subst e1; subst e2
  obtain ⟨t, rfl⟩ := r1
  obtain ⟨t', rfl⟩ := r2
  exact iadd_int ⟨.int _, H, I.tok _, ⟨_, rfl⟩, q⟩
end
structure It where
  go : Nat → Hp → Prop
  yld : Nat → Hp → V → Hp → Prop
  stop : Nat → Hp → Prop
def FpOk (X : Cx) (pins : List (Addr × Obj)) (H : Hp) (b : Addr) : Prop :=
  H b = none ∧ b ≠ X.env.locals ∧ b ∉ X.fs ∧ (b ∈ X.ex ∨ X.s₀.heap.objs.size ≤ b) ∧ (∀ x c, X.env.cells.lookup x = some c → c ≠ b) ∧ ∀ p ∈ X.pn ++ pins, p.1 ≠ b
theorem Inv.fpOk {X : Cx} {pins : List (Addr × Obj)} {σ : St} {H H' : Hp} {s : Shared} {b : Addr} (I : Inv X pins σ H s) (hb : s.heap.objs.size ≤ b) (hn : H' b = none) : FpOk X pins H' b := by
  refine ⟨hn, Nat.ne_of_gt (Nat.lt_of_lt_of_le I.lt hb), I.nofs hb, .inr (Nat.le_trans I.sz hb), fun x c e z => ?_, fun p hp z => ?_⟩
  · obtain ⟨v, q⟩ := I.cell x c e
    exact absurd (Nat.lt_of_lt_of_le q.lt (by rw [z]; exact hb)) (Nat.lt_irrefl _)
  · exact absurd (Nat.lt_of_lt_of_le (Heap.lt_size (I.pin p hp).1) (by rw [z]; exact hb)) (Nat.lt_irrefl _)
structure Turn (P : Program) (w : World) (K : PySem.W.Frag) (tg : Expr) (J : It) (fp : List Addr) (it : Addr) (tn : Nat → Heap → Prop) : Prop where
  mem : it ∈ fp
  obj : ∀ i h, tn i h → ∀ b ∈ fp, ∃ o, h.get? b = some o ∧ ∀ v, o.data ≠ .cell v
  keep : ∀ i h h', tn i h → (∀ b ∈ fp, ∀ o, h.get? b = some o → h'.get? b = some o) → tn i h'
  item : ∀ (X : Cx), X.prog = P → X.w = w → X.K = K → X.calm = true → ∀ (i : Nat) (pins : List (Addr × Obj)) (s : Shared) (σ : St) (H : Hp) (E : Value → Shared → Prop), Inv X pins σ H s → (∀ b ∈ fp, FpOk X pins H b) → tn i s.heap → J.go i H →
    wpAny (model P w) X.A (pyNext (.ref it)) (fun r s1 => ∃ u, r = some u ∧
      wpAny (model P w) X.A (letOwnedTupleGo tg (.ref it) u) (fun _ s2 => ∃ x H', Inv X pins σ H' s2 ∧ RelV x u ∧ J.yld i H x H' ∧ tn (i + 1) s2.heap ∧ ∀ b ∈ fp, H' b = none) E s1) E s
  done : ∀ (X : Cx), X.prog = P → X.w = w → X.K = K → X.calm = true → ∀ (i : Nat) (pins : List (Addr × Obj)) (s : Shared) (σ : St) (H : Hp) (E : Value → Shared → Prop), Inv X pins σ H s → (∀ b ∈ fp, FpOk X pins H b) → tn i s.heap → J.stop i H →
    wpAny (model P w) X.A (pyNext (.ref it)) (fun r s1 => r = none ∧ Inv X pins σ H s1) E s
  self : ∀ (A : Around) (i : Nat) (s : Shared) (Q : Value → Shared → Prop) (E : Value → Shared → Prop), tn i s.heap → Q (.ref it) s → wpAny (model P w) A (pyIter (.ref it)) Q E s
abbrev TI := St → Hp → (It → Hp → Prop) → Prop
def PIE (X : Cx) (pins : List (Addr × Obj)) (σ : St) (tg : Expr) (R : It → Hp → Prop) (itv : Value) (s2 : Shared) : Prop :=
  ∃ (it : Addr) (fp : List Addr) (tn : Nat → Heap → Prop) (J : It) (H' : Hp), itv = .ref it ∧ Inv X pins σ H' s2 ∧ Turn X.prog X.w X.K tg J fp it tn ∧ tn 0 s2.heap ∧ (∀ b ∈ fp, FpOk X pins H' b) ∧ R J H'
def PI (X : Cx) (tg iter : Expr) (wi : TI) : Prop :=
  ∀ (pins : List (Addr × Obj)) (s : Shared) (σ : St) (H : Hp) (R : It → Hp → Prop), Inv X pins σ H s → wi σ H R →
    wpAny (model X.prog X.w) X.A (eval iter X.env) (fun v s1 => wpAny (model X.prog X.w) X.A (pyIter v) (PIE X pins σ tg R) X.xe s1) X.xe s
theorem go_of {M : Model} {A : Around} {E : Value → Shared → Prop} {s : Shared} {tg : Expr} {it : Addr} {u : Value} {o : Obj} {n : String} {vs : Array Value} {Q : Unit → Shared → Prop} (ho : s.heap.get? it = some o) (hc : o.cls = .type n) (hd : o.data = .fields vs)
    (hn : ["enumerate", "zip", "dict_itemiterator", "dict_reverseitemiterator", "odict_iterator", "itertools.zip_longest", "itertools.pairwise"].contains n = false) (hQ : Q () s) : wpAny M A (letOwnedTupleGo tg (.ref it) u) Q E s := by
  unfold letOwnedTupleGo
  cases tg <;> first
    | exact wpAny_pure hQ
    | (cases u <;> first
        | exact wpAny_pure hQ
        | (refine wpAny_bind (wpAny_load ho ?_)
           rw [hc, hd]
           show wpAny M A (if (["enumerate", "zip", "dict_itemiterator", "dict_reverseitemiterator", "odict_iterator", "itertools.zip_longest", "itertools.pairwise"].contains n && vs[0]? == some (rawInt _)) = true then _ else _) Q E s
           rw [if_neg (by intro h; rw [hn, Bool.false_and] at h; cases h)]
           exact wpAny_pure hQ))
def Itl (K : PySem.W.Frag) (a : Addr) : It :=
  ⟨fun i H => ∃ xs x, SqL K H a xs ∧ xs[i]? = some x, fun i H x H' => H' = H ∧ ∀ xs, SqL K H a xs → xs[i]? = some x, fun i H => ∃ xs, SqL K H a xs ∧ xs.length ≤ i⟩
def Itt (K : PySem.W.Frag) (a : Addr) : It :=
  ⟨fun i H => ∃ xs x, SqT K H a xs ∧ xs[i]? = some x, fun i H x H' => H' = H ∧ ∀ xs, SqT K H a xs → xs[i]? = some x, fun i H => ∃ xs, SqT K H a xs ∧ xs.length ≤ i⟩
def Itr (lo : Int) (n : Nat) : It := ⟨fun i _ => i < n, fun i H x H' => H' = H ∧ x = .int (lo + i), fun i _ => n ≤ i⟩
theorem turn_list {P : Program} {w : World} {K : PySem.W.Frag} {tg : Expr} (a it : Addr) : Turn P w K tg (Itl K a) [it] it (fun i h => h.IsListIter it a i) where
  mem := by simp
  obj := fun i h st b hb => by
    have e : b = it := by simpa using hb
    subst e
    obtain ⟨o, e, c, d⟩ := st
    exact ⟨o, e, fun v z => by rw [d] at z; cases z⟩
  keep := fun i h h' st k => st.at fun o e => k it (by simp) o e
  item := by
    intro X hP hw hK hc i pins s σ H E I hf st hg
    subst hP hw hK
    obtain ⟨xs, x, hq, hx⟩ := hg
    obtain ⟨its, rv, p, hz⟩ := I.list hq
    obtain ⟨u, hu, ru⟩ := rv.get hx
    obtain ⟨f0, f1, f2, f3, f4, f5⟩ := hf it (by simp)
    refine wpAny_pyNext_list_item st p.isList (x := u) (by simpa using hu) fun h' st' sb => ?_
    have I1 : Inv X pins σ H { s with heap := h' } := I.turned (t' := s.toks) (fun b o hb e => (sb.2 b hb).trans e) f0 f1 f3 f4 f5
    obtain ⟨o, e, c, d⟩ := id st'
    exact ⟨u, rfl, go_of (s := { s with heap := h' }) e c d (by decide) ⟨x, H, I1, ru, ⟨rfl, fun ys hy => by rw [I.list_inj hy hq]; exact hx⟩, st', fun b hb => (hf b hb).1⟩⟩
  done := by
    intro X hP hw hK hc i pins s σ H E I hf st hg
    subst hP hw hK
    obtain ⟨xs, hq, hx⟩ := hg
    obtain ⟨its, rv, p, hz⟩ := I.list hq
    obtain ⟨f0, f1, f2, f3, f4, f5⟩ := hf it (by simp)
    have hl := rv.length
    exact wpAny_pyNext_list_end (I.ok.hd hc) st p.isList (by simp; omega) fun h' eb => ⟨rfl, I.turned (t' := s.toks) (fun b o hb e => eb b o hb e) f0 f1 f3 f4 f5⟩
  self := fun _ _ _ _ _ st h => wpAny_pyIter_listiter st h
theorem turn_tuple {P : Program} {w : World} {K : PySem.W.Frag} {tg : Expr} (a it : Addr) : Turn P w K tg (Itt K a) [it] it (fun i h => h.IsTupleIter it a i) where
  mem := by simp
  obj := fun i h st b hb => by
    have e : b = it := by simpa using hb
    subst e
    obtain ⟨o, e, c, d⟩ := st
    exact ⟨o, e, fun v z => by rw [d] at z; cases z⟩
  keep := fun i h h' st k => st.at fun o e => k it (by simp) o e
  item := by
    intro X hP hw hK hc i pins s σ H E I hf st hg
    subst hP hw hK
    obtain ⟨xs, x, hq, hx⟩ := hg
    obtain ⟨its, rv, p, hz⟩ := I.tuple hq
    obtain ⟨u, hu, ru⟩ := rv.get hx
    obtain ⟨f0, f1, f2, f3, f4, f5⟩ := hf it (by simp)
    refine wpAny_pyNext_tuple_item st (show s.heap.IsTuple a its.toArray from p) (x := u) (by simpa using hu) fun h' st' sb => ?_
    have I1 : Inv X pins σ H { s with heap := h' } := I.turned (t' := s.toks) (fun b o hb e => (sb.2 b hb).trans e) f0 f1 f3 f4 f5
    obtain ⟨o, e, c, d⟩ := id st'
    exact ⟨u, rfl, go_of (s := { s with heap := h' }) e c d (by decide) ⟨x, H, I1, ru, ⟨rfl, fun ys hy => by rw [I.tuple_inj hy hq]; exact hx⟩, st', fun b hb => (hf b hb).1⟩⟩
  done := by
    intro X hP hw hK hc i pins s σ H E I hf st hg
    subst hP hw hK
    obtain ⟨xs, hq, hx⟩ := hg
    obtain ⟨its, rv, p, hz⟩ := I.tuple hq
    obtain ⟨f0, f1, f2, f3, f4, f5⟩ := hf it (by simp)
    have hl := rv.length
    exact wpAny_pyNext_tuple_end (I.ok.hd hc) st (show s.heap.IsTuple a its.toArray from p) (by simp; omega) fun h' eb => ⟨rfl, I.turned (t' := s.toks) (fun b o hb e => eb b o hb e) f0 f1 f3 f4 f5⟩
  self := fun _ _ _ _ _ st h => wpAny_pyIter_tupleiter st h
theorem turn_range {P : Program} {w : World} {K : PySem.W.Frag} {tg : Expr} (it : Addr) (lo : Int) (n : Nat) : Turn P w K tg (Itr lo n) [it] it (fun i h => IsRangeIter h it (lo + (i : Nat) * 1) ((n : Int) - (i : Nat)) 1) where
  mem := by simp
  obj := fun i h st b hb => by
    have e : b = it := by simpa using hb
    subst e
    exact ⟨_, st, fun v z => by
      have z' : Data.fields _ = Data.cell v := z
      cases z'⟩
  keep := fun i h h' st k => k it (by simp) _ st
  item := by
    intro X hP hw hK hc i pins s σ H E I hf st hg
    subst hP hw hK
    obtain ⟨f0, f1, f2, f3, f4, f5⟩ := hf it (by simp)
    have W := Walks.range (prog := X.prog) (w := X.w) (I.ok.hd hc) it lo 1 n
    refine W.item i s _ _ hg st fun v h' tk hv st' kk => ?_
    obtain ⟨t, rfl⟩ := hv
    have I1 : Inv X pins σ H { s with heap := h', toks := tk } := I.turned (fun b o hb e => kk b o (by simpa using hb) e) f0 f1 f3 f4 f5
    refine ⟨_, rfl, go_of (s := { s with heap := h', toks := tk }) (n := "range_iterator") st' rfl rfl (by decide) ⟨.int (lo + i), H, I1, ⟨t, ?_⟩, ⟨rfl, rfl⟩, st', fun b hb => (hf b hb).1⟩⟩
    rw [Int.mul_one]
  done := by
    intro X hP hw hK hc i pins s σ H E I hf st hg
    subst hP hw hK
    obtain ⟨f0, f1, f2, f3, f4, f5⟩ := hf it (by simp)
    exact wpAny_pyNext_range_end (I.ok.hd hc) st (by have : n ≤ i := hg; omega) fun h' eb => ⟨rfl, I.turned (t' := s.toks) (fun b o hb e => eb b o hb e) f0 f1 f3 f4 f5⟩
  self := fun _ _ _ _ _ st h => wpAny_pyIter_rangeiter st h
end L2
namespace L2
open PySem PySem.Spec PyProof.Rows
section
variable {X : Cx} {tg : Expr}
def iList (K : PySem.W.Frag) (tl : TE) : TI := fun σ H R => tl σ H fun x H1 => ∃ a, x = .ref a ∧ (∃ xs, SqL K H1 a xs) ∧ R (Itl K a) H1
def iTup (K : PySem.W.Frag) (tl : TE) : TI := fun σ H R => tl σ H fun x H1 => ∃ a, x = .ref a ∧ (∃ xs, SqT K H1 a xs) ∧ R (Itt K a) H1
theorem pi_list {l : Expr} {tl : TE} (hl : PE X l tl) : PI X tg l (iList X.K tl) := by
  intro pins s σ H R I h
  refine thn (hl pins s σ H _ I h) fun v s1 ⟨x, H1, I1, r1, q1⟩ => ?_
  obtain ⟨a, e, ⟨xs, hq⟩, q⟩ := q1
  subst e
  cases r1
  obtain ⟨its, rv, p, hz⟩ := I1.list hq
  refine wpAny_pyIter_list p.isList ?_
  refine ⟨s1.heap.objs.size, [s1.heap.objs.size], _, _, H1, rfl, I1.kept (t' := s1.toks) fun b o e => Heap.get?_push_of_some _ e, turn_list a _, ⟨_, Heap.get?_push_size _ rfl, rfl, rfl⟩, fun b hb => ?_, q⟩
  have e : b = s1.heap.objs.size := by simpa using hb
  subst e
  exact I1.fpOk (Nat.le_refl _) (I1.hok.fresh (Nat.le_refl _))
theorem pi_tup {l : Expr} {tl : TE} (hl : PE X l tl) : PI X tg l (iTup X.K tl) := by
  intro pins s σ H R I h
  refine thn (hl pins s σ H _ I h) fun v s1 ⟨x, H1, I1, r1, q1⟩ => ?_
  obtain ⟨a, e, ⟨xs, hq⟩, q⟩ := q1
  subst e
  cases r1
  obtain ⟨its, rv, p, hz⟩ := I1.tuple hq
  refine wpAny_pyIter_tuple (show s1.heap.IsTuple a its.toArray from p) ?_
  refine ⟨s1.heap.objs.size, [s1.heap.objs.size], _, _, H1, rfl, I1.kept (t' := s1.toks) fun b o e => Heap.get?_push_of_some _ e, turn_tuple a _, ⟨_, Heap.get?_push_size _ rfl, rfl, rfl⟩, fun b hb => ?_, q⟩
  have e : b = s1.heap.objs.size := by simpa using hb
  subst e
  exact I1.fpOk (Nat.le_refl _) (I1.hok.fresh (Nat.le_refl _))
theorem range_it {pins : List (Addr × Obj)} {σ : St} {H : Hp} {s : Shared} {R : It → Hp → Prop} {E : Value → Shared → Prop} {lo hi : Int} {t u v : Tok} {tk : Nat} (I : Inv X pins σ H s) (h1 : -(2 ^ 62) ≤ lo) (h2 : lo < 2 ^ 62) (h3 : -(2 ^ 62) ≤ hi) (h4 : hi < 2 ^ 62)
    (q : R (Itr lo (hi - lo).toNat) H) : wpAny (model X.prog X.w) X.A (pyIter (.ref s.heap.objs.size)) (PIE X pins σ tg R) E { s with heap := s.heap.push { cls := .type "range", data := .fields #[.int lo t, .int hi u, .int 1 v] }, toks := tk } := by
  refine wpAny_pyIter_range (IsRange.new ..) (small_one h1 h2 h3 h4) ?_
  have I1 : Inv X pins σ H { s with heap := s.heap.push { cls := .type "range", data := .fields #[.int lo t, .int hi u, .int 1 v] }, toks := tk } := I.kept fun b o e => Heap.get?_push_of_some _ e
  refine ⟨(s.heap.push { cls := .type "range", data := .fields #[.int lo t, .int hi u, .int 1 v] }).objs.size, [(s.heap.push { cls := .type "range", data := .fields #[.int lo t, .int hi u, .int 1 v] }).objs.size], _, _, H, rfl,
    I1.kept (t' := tk) fun b o e => Heap.get?_push_of_some _ e, turn_range _ lo (hi - lo).toNat, ?_, fun b hb => ?_, q⟩
  · have e1 : lo + ((0 : Nat) : Int) * 1 = lo := by simp
    have e2 : (((hi - lo).toNat : Nat) : Int) - ((0 : Nat) : Int) = Builtin.Range.rangeSize lo hi 1 := by rw [rangeSize_one]; split <;> omega
    show IsRangeIter _ _ (lo + ((0 : Nat) : Int) * 1) ((((hi - lo).toNat : Nat) : Int) - ((0 : Nat) : Int)) 1
    rw [e1, e2]
    exact Heap.get?_push_size _ rfl
  · have e : b = (s.heap.push { cls := .type "range", data := .fields #[.int lo t, .int hi u, .int 1 v] }).objs.size := by simpa using hb
    subst e
    exact I1.fpOk (Nat.le_refl _) (I1.hok.fresh (Nat.le_refl _))
def iRng1 (ta : TA) : TI := fun σ H R => ta σ H fun vs H1 => ∃ j : Int, vs = [.int j] ∧ -(2 ^ 62) ≤ j ∧ j < 2 ^ 62 ∧ R (Itr 0 j.toNat) H1
theorem pi_range1 {a : Expr} {ta : TA} {p pos : Pos} (hg : Gl X "range") (hm : X.mg "range" = none) (ha : PA X [a] ta) (hs : starEach [a] X.env = [(false, eval a X.env)] := by rfl) : PI X tg (.Call (.Name "range" p) [a] [] pos) (iRng1 ta) := by
  intro pins s σ H R I h
  refine Call_ (ld_blt I hg hm boot_range (PyProof.Rows.callWith_type1 (thn (ha pos pins s σ H _ I h) fun us s1 ⟨vs, H1, I1, r1, q1⟩ => ?_) hs rfl))
  obtain ⟨j, e, q1, q2, q⟩ := q1
  subst e
  cases r1 with
  | cons r rr =>
    cases rr
    obtain ⟨t, rfl⟩ := r
    exact call_range_1 (range_it I1 (by decide) (by decide) q1 q2 (by simpa using q))
def tFor (wi : TI) (g : TG) (tb : TS) : TS := fun D σ H => wi σ H fun J H1 => ∃ W : Nat → Nat → St → Hp → Prop, (∃ m, W 0 m σ H1) ∧ ∀ i m σ H, W i m σ H →
  (J.stop i H ∧ D.nx σ H) ∨ (J.go i H ∧ ∃ N : St → Hp → Prop, (∀ σ' H', N σ' H' → ∃ m', m' < m ∧ W (i + 1) m' σ' H') ∧ ∀ x H', J.yld i H x H' → g x σ H' fun σ2 H2 => tb { D with nx := N, ct := N, bk := D.nx } σ2 H2)
def pinsAt (fp : List Addr) (h : Heap) : List (Addr × Obj) := fp.filterMap fun b => (h.get? b).map fun o => (b, o)
theorem mem_pinsAt {fp : List Addr} {h : Heap} {b : Addr} {o : Obj} (hb : b ∈ fp) (e : h.get? b = some o) : (b, o) ∈ pinsAt fp h := List.mem_filterMap.mpr ⟨b, hb, by rw [e]; rfl⟩
theorem of_pinsAt {fp : List Addr} {h : Heap} {p : Addr × Obj} (hp : p ∈ pinsAt fp h) : p.1 ∈ fp ∧ h.get? p.1 = some p.2 := by
  obtain ⟨b, hb, e⟩ := List.mem_filterMap.mp hp
  cases q : h.get? b with
  | none => rw [q] at e; cases e
  | some o =>
    rw [q] at e
    have e' : (b, o) = p := Option.some.inj e
    subst e'
    exact ⟨hb, q⟩
theorem Inv.pinned {pins : List (Addr × Obj)} {σ : St} {H : Hp} {s : Shared} {fp : List Addr} (I : Inv X pins σ H s) (hf : ∀ b ∈ fp, FpOk X pins H b) (ho : ∀ b ∈ fp, ∃ o, s.heap.get? b = some o ∧ ∀ v, o.data ≠ .cell v) : Inv X (pins ++ pinsAt fp s.heap) σ H s :=
  I.pins_of fun p hp => (List.mem_append.mp hp).elim (fun z => I.pin p (List.mem_append_right _ z)) fun z => by
    obtain ⟨hb, e⟩ := of_pinsAt z
    obtain ⟨f0, f1, f2, _⟩ := hf p.1 hb
    obtain ⟨o, e', d⟩ := ho p.1 hb
    rw [e] at e'; cases e'
    exact ⟨e, f0, f1, f2, d⟩
theorem Inv.unpinned {pins pl : List (Addr × Obj)} {σ : St} {H : Hp} {s : Shared} (I : Inv X (pins ++ pl) σ H s) : Inv X pins σ H s := I.pins_of fun p hp => I.pin p (List.mem_append_right _ (List.mem_append_left _ hp))
theorem ps_for {iter : Expr} {body : List Stmt} {wi : TI} {g : TG} {tb : TS} {pos : Pos} (hp : PassesOwn (model X.prog X.w) X.A X.env X.xe) (hc : X.calm = true) (hi : PI X tg iter wi) (hg : PG X tg g) (hb : PSs X body tb)
    (hs : ∀ x, foldedSetIterable iter X.env x = pure x := by intro _; rfl) : PS X (.For tg iter body [] pos) (tFor wi g tb) := by
  intro pins s σ H D I h
  refine wpAny_For (thn (hi pins s σ H _ I h) fun v s1 h1 => thn h1 fun itv s2 h2 => ?_) hs
  obtain ⟨it, fp, tn, J, H2, e, I2, T, st2, f2, W, ⟨m0, w0⟩, turn⟩ := h2
  subst e
  have stat : ∀ {H' : Hp}, (∀ b ∈ fp, H' b = none) → ∀ b ∈ fp, FpOk X pins H' b := fun hn b hb => ⟨hn b hb, (f2 b hb).2⟩
  refine codeAny_forLoop_any (fun n s' => ∃ i σ' H', Inv X pins σ' H' s' ∧ tn i s'.heap ∧ (∀ b ∈ fp, H' b = none) ∧ W i n σ' H') ?_ m0 ⟨0, σ, H2, I2, st2, fun b hb => (f2 b hb).1, w0⟩
  rintro n s3 ⟨i, σ3, H3, I3, st3, fr3, w3⟩
  rcases turn i n σ3 H3 w3 with ⟨stop, qn⟩ | ⟨go, N, hN, step⟩
  · refine wpAny_passesOwn hp (thn (T.done X rfl rfl rfl hc i pins s3 σ3 H3 X.xe I3 (stat fr3) st3 stop) fun r s4 ⟨hr, I4⟩ => ?_)
    subst hr
    exact wpAny_execs_nil ⟨σ3, H3, I4, qn⟩
  · refine wpAny_passesOwn hp (thn (T.item X rfl rfl rfl hc i pins s3 σ3 H3 X.xe I3 (stat fr3) st3 go) fun r s4 ⟨u, hr, h4⟩ => ?_)
    subst hr
    refine wpAny_passesOwn hp (thn h4 fun _ s5 ⟨x, H5, I5, r5, y5, st5, fr5⟩ => ?_)
    have I5' := I5.pinned (stat fr5) (T.obj _ _ st5)
    refine wpAny_passesOwn hp (thn (hg _ s5 σ3 H5 x u _ I5' r5 (step x H5 y5)) fun _ s6 ⟨σ6, H6, I6, q6⟩ => ?_)
    refine wpAny_passesOwn hp (thn (hb _ s6 σ6 H6 _ I6 q6) fun f s7 q7 => ?_)
    have again : ∀ {σ7 : St} {H7 : Hp}, Inv X (pins ++ pinsAt fp s5.heap) σ7 H7 s7 → N σ7 H7 → ∃ m, m < n ∧ ∃ i σ' H', Inv X pins σ' H' s7 ∧ tn i s7.heap ∧ (∀ b ∈ fp, H' b = none) ∧ W i m σ' H' := fun {σ7 H7} I7 n7 => by
      obtain ⟨m', hm, w7⟩ := hN σ7 H7 n7
      refine ⟨m', hm, i + 1, σ7, H7, I7.unpinned, T.keep _ _ _ st5 fun b hb o e => (I7.pin (b, o) (List.mem_append_right _ (List.mem_append_right _ (mem_pinsAt hb e)))).1, fun b hb => ?_, w7⟩
      obtain ⟨o, e, d⟩ := T.obj _ _ st5 b hb
      exact (I7.pin (b, o) (List.mem_append_right _ (List.mem_append_right _ (mem_pinsAt hb e)))).2.1
    cases f with
    | next => obtain ⟨σ7, H7, I7, n7⟩ := q7; exact again I7 n7
    | cont => obtain ⟨σ7, H7, I7, n7⟩ := q7; exact again I7 n7
    | brk => obtain ⟨σ7, H7, I7, q7⟩ := q7; exact ⟨σ7, H7, I7.unpinned, q7⟩
    | ret v => obtain ⟨x7, σ7, H7, I7, r7, q7⟩ := q7; exact ⟨x7, σ7, H7, I7.unpinned, r7, q7⟩
end
theorem for_list {K : PySem.W.Frag} {a : Addr} {xs : List V} {g : TG} {tb : TS} {D : Ends} {σ : St} {H : Hp} (Pv : Nat → St → Hp → Prop) (h0 : Pv 0 σ H) (hl : ∀ i σ H, i ≤ xs.length → Pv i σ H → SqL K H a xs)
    (hs : ∀ i x σ H, xs[i]? = some x → Pv i σ H → g x σ H fun σ2 H2 => tb { D with nx := Pv (i + 1), ct := Pv (i + 1), bk := D.nx } σ2 H2) (hd : ∀ σ H, Pv xs.length σ H → D.nx σ H) :
    ∃ W : Nat → Nat → St → Hp → Prop, (∃ m, W 0 m σ H) ∧ ∀ i m σ H, W i m σ H →
      ((Itl K a).stop i H ∧ D.nx σ H) ∨ ((Itl K a).go i H ∧ ∃ N : St → Hp → Prop, (∀ σ' H', N σ' H' → ∃ m', m' < m ∧ W (i + 1) m' σ' H') ∧ ∀ x H', (Itl K a).yld i H x H' → g x σ H' fun σ2 H2 => tb { D with nx := N, ct := N, bk := D.nx } σ2 H2) := by
  refine ⟨fun i m σ H => m = xs.length - i ∧ i ≤ xs.length ∧ Pv i σ H, ⟨xs.length, by simp, Nat.zero_le _, h0⟩, ?_⟩
  rintro i m σ H ⟨rfl, hi, p⟩
  have q := hl i σ H hi p
  by_cases hlt : i < xs.length
  · refine .inr ⟨⟨xs, xs[i], q, by simp [hlt]⟩, Pv (i + 1), fun σ' H' p' => ⟨xs.length - (i + 1), by omega, rfl, hlt, p'⟩, fun x H' y => ?_⟩
    obtain ⟨e, y⟩ := y
    subst e
    exact hs i x σ _ (y xs q) p
  · have e : i = xs.length := by omega
    subst e
    exact .inl ⟨⟨xs, q, Nat.le_refl _⟩, hd σ H p⟩
theorem for_tup {K : PySem.W.Frag} {a : Addr} {xs : List V} {g : TG} {tb : TS} {D : Ends} {σ : St} {H : Hp} (Pv : Nat → St → Hp → Prop) (h0 : Pv 0 σ H) (hl : ∀ i σ H, i ≤ xs.length → Pv i σ H → SqT K H a xs)
    (hs : ∀ i x σ H, xs[i]? = some x → Pv i σ H → g x σ H fun σ2 H2 => tb { D with nx := Pv (i + 1), ct := Pv (i + 1), bk := D.nx } σ2 H2) (hd : ∀ σ H, Pv xs.length σ H → D.nx σ H) :
    ∃ W : Nat → Nat → St → Hp → Prop, (∃ m, W 0 m σ H) ∧ ∀ i m σ H, W i m σ H →
      ((Itt K a).stop i H ∧ D.nx σ H) ∨ ((Itt K a).go i H ∧ ∃ N : St → Hp → Prop, (∀ σ' H', N σ' H' → ∃ m', m' < m ∧ W (i + 1) m' σ' H') ∧ ∀ x H', (Itt K a).yld i H x H' → g x σ H' fun σ2 H2 => tb { D with nx := N, ct := N, bk := D.nx } σ2 H2) := by
  refine ⟨fun i m σ H => m = xs.length - i ∧ i ≤ xs.length ∧ Pv i σ H, ⟨xs.length, by simp, Nat.zero_le _, h0⟩, ?_⟩
  rintro i m σ H ⟨rfl, hi, p⟩
  have q := hl i σ H hi p
  by_cases hlt : i < xs.length
  · refine .inr ⟨⟨xs, xs[i], q, by simp [hlt]⟩, Pv (i + 1), fun σ' H' p' => ⟨xs.length - (i + 1), by omega, rfl, hlt, p'⟩, fun x H' y => ?_⟩
    obtain ⟨e, y⟩ := y
    subst e
    exact hs i x σ _ (y xs q) p
  · have e : i = xs.length := by omega
    subst e
    exact .inl ⟨⟨xs, q, Nat.le_refl _⟩, hd σ H p⟩
theorem for_range {lo : Int} {n : Nat} {g : TG} {tb : TS} {D : Ends} {σ : St} {H : Hp} (Pv : Nat → St → Hp → Prop) (h0 : Pv 0 σ H)
    (hs : ∀ i σ H, i < n → Pv i σ H → g (.int (lo + i)) σ H fun σ2 H2 => tb { D with nx := Pv (i + 1), ct := Pv (i + 1), bk := D.nx } σ2 H2) (hd : ∀ σ H, Pv n σ H → D.nx σ H) :
    ∃ W : Nat → Nat → St → Hp → Prop, (∃ m, W 0 m σ H) ∧ ∀ i m σ H, W i m σ H →
      ((Itr lo n).stop i H ∧ D.nx σ H) ∨ ((Itr lo n).go i H ∧ ∃ N : St → Hp → Prop, (∀ σ' H', N σ' H' → ∃ m', m' < m ∧ W (i + 1) m' σ' H') ∧ ∀ x H', (Itr lo n).yld i H x H' → g x σ H' fun σ2 H2 => tb { D with nx := N, ct := N, bk := D.nx } σ2 H2) := by
  refine ⟨fun i m σ H => m = n - i ∧ i ≤ n ∧ Pv i σ H, ⟨n, by simp, Nat.zero_le _, h0⟩, ?_⟩
  rintro i m σ H ⟨rfl, hi, p⟩
  by_cases hlt : i < n
  · refine .inr ⟨hlt, Pv (i + 1), fun σ' H' p' => ⟨n - (i + 1), by omega, rfl, hlt, p'⟩, fun x H' y => ?_⟩
    obtain ⟨e, y⟩ := y
    subst e y
    exact hs i σ _ hlt p
  · have e : i = n := by omega
    subst e
    exact .inl ⟨Nat.le_refl _, hd σ H p⟩
end L2
namespace L2
open PySem PySem.Spec PyProof.Rows
abbrev R2 := V → V → Hp → VK → Prop
def OpR (X : Cx) (f : Value → Value → Sem Value) (r : R2) : Prop :=
  ∀ (pins : List (Addr × Obj)) (s : Shared) (σ : St) (H : Hp) (x y : V) (v u : Value) (Q : VK), Inv X pins σ H s → RelV x v → RelV y u → r x y H Q →
    wpAny (model X.prog X.w) X.A (f v u) (EP X pins σ Q) X.xe s
def UnR (X : Cx) (f : Value → Sem Value) (r : V → Hp → VK → Prop) : Prop :=
  ∀ (pins : List (Addr × Obj)) (s : Shared) (σ : St) (H : Hp) (x : V) (v : Value) (Q : VK), Inv X pins σ H s → RelV x v → r x H Q →
    wpAny (model X.prog X.w) X.A (f v) (EP X pins σ Q) X.xe s
def CallR (X : Cx) (f : Value) (r : List V → Hp → VK → Prop) : Prop :=
  ∀ (pins : List (Addr × Obj)) (s : Shared) (σ : St) (H : Hp) (xs : List V) (us : List Value) (Q : VK), Inv X pins σ H s → Vals xs us → r xs H Q →
    wpAny (model X.prog X.w) X.A (call f us) (EP X pins σ Q) X.xe s
def tOp (r : R2) (ta tb : TE) : TE := fun σ H Q => ta σ H fun x H1 => tb σ H1 fun y H2 => r x y H2 Q
def tUn (r : V → Hp → VK → Prop) (ta : TE) : TE := fun σ H Q => ta σ H fun x H1 => r x H1 Q
inductive RIP (C : Int → Int → Prop) (g : Int → Int → V) (x : V) (y : V) (H : Hp) (Q : VK) : Prop
  | mk (i j : _) : (x = .int i) → (y = .int j) → (C i j) → (Q (g i j) H) → RIP C g x y H Q
def rI (C : Int → Int → Prop) (g : Int → Int → V) : R2 := fun x y H Q => RIP C g x y H Q
inductive RI0P (g : Int → Int → V) (x : V) (y : V) (H : Hp) (Q : VK) : Prop
  | mk (i j : _) : (x = .int i) → (y = .int j) → (Q (g i j) H) → RI0P g x y H Q
def rI0 (g : Int → Int → V) : R2 := fun x y H Q => RI0P g x y H Q
inductive RUP (g : Int → V) (x : V) (H : Hp) (Q : VK) : Prop
  | mk (i : _) : (x = .int i) → (Q (g i) H) → RUP g x H Q
def rU (g : Int → V) : V → Hp → VK → Prop := fun x H Q => RUP g x H Q
section
variable {X : Cx} {a b c : Expr} {ta tb tc : TE} {pos : Pos}
theorem binT (ha : PE X a ta) (hb : PE X b tb) {pins : List (Addr × Obj)} {s : Shared} {σ : St} {H : Hp} {R : V → V → Hp → Prop} (I : Inv X pins σ H s)
    (h : ta σ H fun x H1 => tb σ H1 fun y H2 => R x y H2) {Q : Value → Shared → Prop} {f : Value → Value → Sem Value}
    (hf : ∀ v u s2 x y H2, Inv X pins σ H2 s2 → RelV x v → RelV y u → R x y H2 → wpAny (model X.prog X.w) X.A (f v u) Q X.xe s2) :
    wpAny (model X.prog X.w) X.A (eval a X.env) (fun v s₁ => wpAny (model X.prog X.w) X.A (eval b X.env) (fun u s₂ => wpAny (model X.prog X.w) X.A (f v u) Q X.xe s₂) X.xe s₁) X.xe s := by
  refine thn (ha pins s σ H _ I h) fun v s1 ⟨x, H1, I1, r1, q1⟩ => ?_
  refine thn (hb pins s1 σ H1 _ I1 q1) fun u s2 ⟨y, H2, I2, r2, q2⟩ => ?_
  exact hf v u s2 x y H2 I2 r1 r2 q2
theorem pe_op {op : Operator} {r : R2} (ho : OpR X (binaryOp op) r) (ha : PE X a ta) (hb : PE X b tb) : PE X (.BinOp a op b pos) (tOp r ta tb) := by
  intro pins s σ H Q I h
  exact wpAny_BinOp (binT ha hb I h fun v u s2 x y H2 I2 rx ry q => ho pins s2 σ H2 x y v u Q I2 rx ry q)
theorem pe_un {op : UnaryOp} {r : V → Hp → VK → Prop} (ho : UnR X (unaryOp op) r) (ha : PE X a ta) : PE X (.UnaryOp op a pos) (tUn r ta) := by
  intro pins s σ H Q I h
  exact UnaryOp_ (thn (ha pins s σ H _ I h) fun v s1 ⟨x, H1, I1, r1, q1⟩ => ho pins s1 σ H1 x v Q I1 r1 q1)
theorem opI {f : Value → Value → Sem Value} {C : Int → Int → Prop} {g : Int → Int → Int}
    (rule : ∀ (i j : Int) (t u : Tok) (s : Shared) (Q : Value → Shared → Prop) (E : Value → Shared → Prop), C i j → Q (.int (g i j) s.toks) { s with toks := s.toks + 1 } → wpAny (model X.prog X.w) X.A (f (.int i t) (.int j u)) Q E s) :
    OpR X f (rI C fun i j => .int (g i j)) := by
  intro pins s σ H x y v u Q I rx ry h
  obtain ⟨i, j, rfl, rfl, hc, q⟩ := h
  obtain ⟨t, rfl⟩ := rx
  obtain ⟨t', rfl⟩ := ry
  exact rule i j t t' s _ _ hc ⟨.int (g i j), H, I.tok _, ⟨_, rfl⟩, q⟩
theorem opI0 {f : Value → Value → Sem Value} {g : Int → Int → Int}
    (rule : ∀ (i j : Int) (t u : Tok) (s : Shared) (Q : Value → Shared → Prop) (E : Value → Shared → Prop), Q (.int (g i j) s.toks) { s with toks := s.toks + 1 } → wpAny (model X.prog X.w) X.A (f (.int i t) (.int j u)) Q E s) :
    OpR X f (rI0 fun i j => .int (g i j)) := by
  intro pins s σ H x y v u Q I rx ry h
  obtain ⟨i, j, rfl, rfl, q⟩ := h
  obtain ⟨t, rfl⟩ := rx
  obtain ⟨t', rfl⟩ := ry
  exact rule i j t t' s _ _ ⟨.int (g i j), H, I.tok _, ⟨_, rfl⟩, q⟩
theorem opB0 {f : Value → Value → Sem Value} {g : Int → Int → Bool}
    (rule : ∀ (i j : Int) (t u : Tok) (s : Shared) (Q : Value → Shared → Prop) (E : Value → Shared → Prop), Q (.bool (g i j)) s → wpAny (model X.prog X.w) X.A (f (.int i t) (.int j u)) Q E s) :
    OpR X f (rI0 fun i j => .bl (g i j)) := by
  intro pins s σ H x y v u Q I rx ry h
  obtain ⟨i, j, rfl, rfl, q⟩ := h
  obtain ⟨t, rfl⟩ := rx
  obtain ⟨t', rfl⟩ := ry
  exact rule i j t t' s _ _ ⟨.bl (g i j), H, I, rfl, q⟩
def CDiv (i j : Int) : Prop := 0 < j ∧ j < 1073741824
def CPow (i j : Int) : Prop := 0 ≤ j ∧ j ≤ 1000000 ∧ i.natAbs < 2 ^ 64
def CMul (i j : Int) : Prop := (-(2 ^ 64) < i ∧ i < 2 ^ 64) ∨ (-(2 ^ 64) < j ∧ j < 2 ^ 64)
theorem CMul.ok {i j : Int} (h : CMul i j) : IntMulOk i j := by
  rcases h with ⟨h1, h2⟩ | ⟨h1, h2⟩
  · exact .of_left (intBits_le_64 h1 h2)
  · exact .of_right (intBits_le_64 h1 h2)
theorem op_add : OpR X (binaryOp .Add) (rI0 fun i j => .int (i + j)) := opI0 fun _ _ _ _ _ _ _ q => add_int q
theorem op_sub : OpR X (binaryOp .Sub) (rI0 fun i j => .int (i - j)) := opI0 fun _ _ _ _ _ _ _ q => sub_int q
theorem op_mul : OpR X (binaryOp .Mult) (rI CMul fun i j => .int (i * j)) := opI fun _ _ _ _ _ _ _ hc q => mul_int q hc.ok
theorem op_fdiv : OpR X (binaryOp .FloorDiv) (rI CDiv fun i j => .int (i / j)) := opI fun i j _ _ _ _ _ hc q => by
  have h1 : (0 : Int) < j := hc.1
  have h2 : j < 1073741824 := hc.2
  exact floordiv_int (by omega) (by rw [Int.fdiv_eq_ediv_of_nonneg i (by omega)]; exact q) (.inl (PyProof.noPylong_small (by omega)))
theorem op_mod : OpR X (binaryOp .Mod) (rI (fun _ j => 0 < j) fun i j => .int (i % j)) := opI fun i j _ _ _ _ _ hc q => by
  have h1 : (0 : Int) < j := hc
  exact mod_int' (by omega) (by rw [Int.fmod_eq_emod_of_nonneg i (by omega)]; exact q)
theorem op_pow : OpR X (binaryOp .Pow) (rI CPow fun i j => .int (i ^ j.toNat)) := opI fun _ _ _ _ _ _ _ hc q => pow_int_small hc.1 hc.2.1 hc.2.2 q
theorem op_xor : OpR X (binaryOp .BitXor) (rI0 fun i j => .int (Builtin.bitXor i j)) := opI0 fun _ _ _ _ _ _ _ q => xor_int q
theorem unI {f : Value → Sem Value} {g : Int → Int}
    (rule : ∀ (i : Int) (t : Tok) (s : Shared) (Q : Value → Shared → Prop) (E : Value → Shared → Prop), Q (.int (g i) s.toks) { s with toks := s.toks + 1 } → wpAny (model X.prog X.w) X.A (f (.int i t)) Q E s) :
    UnR X f (rU fun i => .int (g i)) := by
  intro pins s σ H x v Q I rx h
  obtain ⟨i, rfl, q⟩ := h
  obtain ⟨t, rfl⟩ := rx
  exact rule i t s _ _ ⟨.int (g i), H, I.tok _, ⟨_, rfl⟩, q⟩
theorem un_neg : UnR X (unaryOp .USub) (rU fun i => .int (-i)) := unI fun _ _ _ _ _ q => neg_int q
end
def scal : V → V → Bool
  | .non, .non => true | .non, .int _ => true | .int _, .non => true | .non, .bl _ => true | .bl _, .non => true | .non, .str _ => true | .str _, .non => true
  | .int _, .int _ => true | .bl _, .bl _ => true | .str _, .str _ => true | .byt _, .byt _ => true
  | .int _, .str _ => true | .str _, .int _ => true | .bl _, .str _ => true | .str _, .bl _ => true
  | _, _ => false
def rEq : R2 := fun x y H Q => scal x y = true ∧ Q (.bl (decide (x = y))) H
def rNe : R2 := fun x y H Q => scal x y = true ∧ Q (.bl (!decide (x = y))) H
theorem dec_int {i j : Int} : decide (V.int i = V.int j) = (i == j) := by
  rw [Bool.eq_iff_iff]
  simp
theorem dec_bl {i j : Bool} : decide (V.bl i = V.bl j) = (i == j) := by
  rw [Bool.eq_iff_iff]
  simp
theorem dec_str {i j : Str} : decide (V.str i = V.str j) = (i == j) := by
  rw [Bool.eq_iff_iff]
  simp
theorem dec_byt {i j : Array UInt8} : decide (V.byt i = V.byt j) = (i.toList == j.toList) := by
  rw [Bool.eq_iff_iff]
  cases i
  cases j
  simp
section
variable {X : Cx} {a b c : Expr} {ta tb tc : TE} {pos : Pos}
theorem fin_bl {pins : List (Addr × Obj)} {σ : St} {H : Hp} {s : Shared} {Q : VK} {k k' : Bool} (I : Inv X pins σ H s) (q : Q (.bl k) H) (e : k = k') : EP X pins σ Q (.bool k') s := by
  subst e
  exact ⟨.bl k, H, I, rfl, q⟩
theorem op_eq : OpR X (compareOp .Eq) rEq := by
  intro pins s σ H x y v u Q I rx ry h
  obtain ⟨hs, q⟩ := h
  cases x with
  | non =>
    cases rx
    cases y with
    | non => cases ry; exact PySem.EqNone.eq_none_none (fin_bl I q (by simp))
    | bl j => cases ry; exact PySem.EqNone.eq_none_bool (fin_bl I q (by simp))
    | int j => obtain ⟨t', rfl⟩ := ry; exact PySem.EqNone.eq_none_int (fin_bl I q (by simp))
    | str j => obtain ⟨t', rfl⟩ := ry; exact PySem.EqNone.eq_none_str (fin_bl I q (by simp))
    | _ => exact absurd (show false = true from hs) Bool.false_ne_true
  | bl i =>
    cases rx
    cases y with
    | non => cases ry; exact PySem.EqNone.eq_bool_none (fin_bl I q (by simp))
    | bl j => cases ry; exact eq_bool (fin_bl I q dec_bl)
    | str j => obtain ⟨t', rfl⟩ := ry; exact PySem.EqMixed.eq_bool_str (fin_bl I q (by simp))
    | _ => exact absurd (show false = true from hs) Bool.false_ne_true
  | int i =>
    obtain ⟨t, rfl⟩ := rx
    cases y with
    | non => cases ry; exact PySem.EqNone.eq_int_none (fin_bl I q (by simp))
    | int j => obtain ⟨t', rfl⟩ := ry; exact eq_int (fin_bl I q dec_int)
    | str j => obtain ⟨t', rfl⟩ := ry; exact PySem.EqMixed.eq_int_str (fin_bl I q (by simp))
    | _ => exact absurd (show false = true from hs) Bool.false_ne_true
  | str i =>
    obtain ⟨t, rfl⟩ := rx
    cases y with
    | non => cases ry; exact PySem.EqNone.eq_str_none (fin_bl I q (by simp))
    | bl j => cases ry; exact PySem.EqMixed.eq_str_bool (fin_bl I q (by simp))
    | int j => obtain ⟨t', rfl⟩ := ry; exact PySem.EqMixed.eq_str_int (fin_bl I q (by simp))
    | str j => obtain ⟨t', rfl⟩ := ry; exact eq_str (fin_bl I q dec_str)
    | _ => exact absurd (show false = true from hs) Bool.false_ne_true
  | byt i =>
    obtain ⟨t, rfl⟩ := rx
    cases y with
    | byt j => obtain ⟨t', rfl⟩ := ry; exact PySem.W.eq_bytes (fin_bl I q dec_byt)
    | _ => exact absurd (show false = true from hs) Bool.false_ne_true
  | _ => cases y <;> exact absurd (show false = true from hs) Bool.false_ne_true
theorem op_ne : OpR X (compareOp .NotEq) rNe := by
  intro pins s σ H x y v u Q I rx ry h
  obtain ⟨hs, q⟩ := h
  cases x with
  | non =>
    cases rx
    cases y with
    | non => cases ry; exact PySem.EqNone.ne_none_none (fin_bl I q (by simp))
    | bl j => cases ry; exact PySem.EqNone.ne_none_bool (fin_bl I q (by simp))
    | int j => obtain ⟨t', rfl⟩ := ry; exact PySem.EqNone.ne_none_int (fin_bl I q (by simp))
    | str j => obtain ⟨t', rfl⟩ := ry; exact PySem.EqNone.ne_none_str (fin_bl I q (by simp))
    | _ => exact absurd (show false = true from hs) Bool.false_ne_true
  | bl i =>
    cases rx
    cases y with
    | non => cases ry; exact PySem.EqNone.ne_bool_none (fin_bl I q (by simp))
    | bl j => cases ry; exact ne_bool (fin_bl I q (congrArg not dec_bl))
    | str j => obtain ⟨t', rfl⟩ := ry; exact PySem.EqMixed.ne_bool_str (fin_bl I q (by simp))
    | _ => exact absurd (show false = true from hs) Bool.false_ne_true
  | int i =>
    obtain ⟨t, rfl⟩ := rx
    cases y with
    | non => cases ry; exact PySem.EqNone.ne_int_none (fin_bl I q (by simp))
    | int j => obtain ⟨t', rfl⟩ := ry; exact ne_int (fin_bl I q (congrArg not dec_int))
    | str j => obtain ⟨t', rfl⟩ := ry; exact PySem.EqMixed.ne_int_str (fin_bl I q (by simp))
    | _ => exact absurd (show false = true from hs) Bool.false_ne_true
  | str i =>
    obtain ⟨t, rfl⟩ := rx
    cases y with
    | non => cases ry; exact PySem.EqNone.ne_str_none (fin_bl I q (by simp))
    | bl j => cases ry; exact PySem.EqMixed.ne_str_bool (fin_bl I q (by simp))
    | int j => obtain ⟨t', rfl⟩ := ry; exact PySem.EqMixed.ne_str_int (fin_bl I q (by simp))
    | str j => obtain ⟨t', rfl⟩ := ry; exact ne_str (fin_bl I q (congrArg not dec_str))
    | _ => exact absurd (show false = true from hs) Bool.false_ne_true
  | byt i =>
    obtain ⟨t, rfl⟩ := rx
    cases y with
    | byt j => obtain ⟨t', rfl⟩ := ry; exact PySem.W.ne_bytes (fin_bl I q (congrArg not dec_byt))
    | _ => exact absurd (show false = true from hs) Bool.false_ne_true
  | _ => cases y <;> exact absurd (show false = true from hs) Bool.false_ne_true
theorem op_lt : OpR X (compareOp .Lt) (rI0 fun i j => .bl (decide (i < j))) := opB0 fun _ _ _ _ _ _ _ q => lt_int q
theorem op_le : OpR X (compareOp .LtE) (rI0 fun i j => .bl (decide (i ≤ j))) := opB0 fun _ _ _ _ _ _ _ q => le_int q
theorem op_gt : OpR X (compareOp .Gt) (rI0 fun i j => .bl (decide (j < i))) := opB0 fun _ _ _ _ _ _ _ q => gt_int q
theorem op_ge : OpR X (compareOp .GtE) (rI0 fun i j => .bl (decide (j ≤ i))) := opB0 fun _ _ _ _ _ _ _ q => ge_int q
theorem op_isN : OpR X (compareOp .Is) (fun x y H Q => y = .non ∧ Q (.bl (decide (x = .non))) H) := by
  intro pins s σ H x y v u Q I rx ry h
  obtain ⟨rfl, q⟩ := h
  cases ry
  refine is_none_gen (fin_bl I q ?_)
  cases x <;> first
    | (cases rx; rfl)
    | (obtain ⟨t, rfl⟩ := rx; rfl)
theorem nomark (b : Expr) {op : CmpOp} (h : op ≠ .In := by decide) (h2 : op ≠ .NotIn := by decide) : behindInMarks op b = false := by
  have e1 : (op == CmpOp.In) = false := by cases op <;> first | rfl | exact absurd rfl h
  have e2 : (op == CmpOp.NotIn) = false := by cases op <;> first | rfl | exact absurd rfl h2
  cases b <;> simp [behindInMarks, e1, e2]
theorem pe_cmpR {op : CmpOp} {r : R2} (ho : OpR X (compareOp op) r) (ha : PE X a ta) (hb : PE X b tb) (hm : behindInMarks op b = false) : PE X (.Compare a [op] [b] pos) (tOp r ta tb) := by
  intro pins s σ H Q I h
  exact wpAny_Compare1 (binT ha hb I h fun v u s2 x y H2 I2 rx ry q => ho pins s2 σ H2 x y v u Q I2 rx ry q) hm
def tTest (t : TE) : TT := fun σ H Q => t σ H fun x H' => BlP x H' Q
theorem pt_cmpR {op : CmpOp} {r : R2} (ho : OpR X (compareOp op) r) (ha : PE X a ta) (hb : PE X b tb) (hm : behindInMarks op b = false) : PT X (.Compare a [op] [b] pos) (tTest (tOp r ta tb)) := by
  intro pins s σ H Q I h
  refine wpAny_isTrue_Compare1 (thn (ha pins s σ H _ I h) fun v s1 ⟨x, H1, I1, r1, q1⟩ => thn (hb pins s1 σ H1 _ I1 q1) fun u s2 ⟨y, H2, I2, r2, q2⟩ =>
    thn (ho pins s2 σ H2 x y v u _ I2 r1 r2 q2) fun c s3 ⟨z, H3, I3, r3, k, e, q3⟩ => ?_) hm
  subst e
  cases r3
  exact wpAny_truthy_bool ⟨H3, I3, q3⟩
def tChain (r r' : R2) (ta tb tc : TE) : TE := fun σ H Q => ta σ H fun x H1 => tb σ H1 fun y H2 => r x y H2 fun z H3 => ∃ k, z = .bl k ∧
  (if k = true then tc σ H3 fun w' H4 => r' y w' H4 Q else Q (.bl false) H3)
theorem pe_chain {op op' : CmpOp} {r r' : R2} (ho : OpR X (compareOp op) r) (ho' : OpR X (compareOp op') r') (ha : PE X a ta) (hb : PE X b tb) (hc : PE X c tc)
    (hm : lastMarks [op, op'] [b, c] = false := by with_unfolding_all rfl) : PE X (.Compare a [op, op'] [b, c] pos) (tChain r r' ta tb tc) := by
  intro pins s σ H Q I h
  refine Compare_chain (thn (ha pins s σ H _ I h) fun v s1 ⟨x, H1, I1, r1, q1⟩ => chain_link (thn (hb pins s1 σ H1 _ I1 q1) fun u s2 ⟨y, H2, I2, r2, q2⟩ =>
    thn (ho pins s2 σ H2 x y v u _ I2 r1 r2 q2) fun d s3 ⟨z, H3, I3, r3, k, e, q3⟩ => ?_)) hm
  subst e
  cases r3
  refine wpAny_truthy_bool ?_
  cases k with
  | false => exact ite_ff ⟨.bl false, H3, I3, rfl, q3⟩
  | true => exact ite_tt (chain_last (thn (hc pins s3 σ H3 _ I3 q3) fun w' s4 ⟨z', H4, I4, r4, q4⟩ => ho' pins s4 σ H4 y z' u w' Q I4 r2 r4 q4))
theorem line63 : (sizeLine : Nat) < 2 ^ 63 := by rw [sizeLine_eq]; decide
theorem vals1 {x : V} {us : List Value} (r : Vals [x] us) : ∃ u, us = [u] ∧ RelV x u := by
  cases r with
  | cons r1 r2 => cases r2; exact ⟨_, rfl, r1⟩
theorem vals2 {x y : V} {us : List Value} (r : Vals [x, y] us) : ∃ u w', us = [u, w'] ∧ RelV x u ∧ RelV y w' := by
  cases r with
  | cons r1 r2 =>
    cases r2 with
    | cons r3 r4 => cases r4; exact ⟨_, _, rfl, r1, r3⟩
theorem call_max2 (hc : X.calm = true) : CallR X (.builtin "max") (fun xs H Q => ∃ i j, xs = [.int i, .int j] ∧ Q (.int (if j > i then j else i)) H) := by
  intro pins s σ H xs us Q I r h
  obtain ⟨i, j, rfl, q⟩ := h
  obtain ⟨u, w', rfl, ⟨t, rfl⟩, ⟨t', rfl⟩⟩ := vals2 r
  refine max_two_ints (I.ok.hd hc) fun h' tk k => ⟨_, H, I.kept k, ?_, q⟩
  by_cases hj : j > i
  · rw [if_pos hj, if_pos hj]; exact ⟨_, rfl⟩
  · rw [if_neg hj, if_neg hj]; exact ⟨_, rfl⟩
theorem call_min2 (hc : X.calm = true) : CallR X (.builtin "min") (fun xs H Q => ∃ i j, xs = [.int i, .int j] ∧ Q (.int (if j < i then j else i)) H) := by
  intro pins s σ H xs us Q I r h
  obtain ⟨i, j, rfl, q⟩ := h
  obtain ⟨u, w', rfl, ⟨t, rfl⟩, ⟨t', rfl⟩⟩ := vals2 r
  refine min_two_ints (I.ok.hd hc) fun h' tk k => ⟨_, H, I.kept k, ?_, q⟩
  by_cases hj : j < i
  · rw [if_pos hj, if_pos hj]; exact ⟨_, rfl⟩
  · rw [if_neg hj, if_neg hj]; exact ⟨_, rfl⟩
theorem call_int1 : CallR X (.type "int") (fun xs H Q => (∃ i, xs = [.int i] ∧ Q (.int i) H) ∨ ∃ k, xs = [.bl k] ∧ Q (.int (if k then 1 else 0)) H) := by
  intro pins s σ H xs us Q I r h
  rcases h with ⟨i, rfl, q⟩ | ⟨k, rfl, q⟩
  · obtain ⟨u, rfl, t, rfl⟩ := vals1 r
    exact call_int_int ⟨.int i, H, I, ⟨_, rfl⟩, q⟩
  · obtain ⟨u, rfl, r1⟩ := vals1 r
    cases r1
    exact call_int_bool ⟨.int (if k then 1 else 0), H, I.tok _, ⟨_, rfl⟩, q⟩
end
end L2
namespace L2
open PySem PySem.Spec PyProof.Rows
structure ObjM (h : Heap) (x dx C : Addr) (mA : Str → Option Value) : Prop where
  obj : h.get? x = some (PySem.W.instObj C dx)
  ns : h.Ns1 dx mA
  ne : dx ≠ x
theorem lookIn_ns {h : Heap} {dx : Addr} {mA : Str → Option Value} (n : h.Ns1 dx mA) : ∃ od, h.get? dx = some od ∧ ∀ name, PySem.W.lookIn name od = some (mA name) := by
  obtain ⟨o, es, ep, ho, hd, hk, _, hm⟩ := n
  refine ⟨o, ho, fun name => ?_⟩
  have e := hm name
  unfold nsFind findBy at e
  rw [← Array.find?_toList] at e
  unfold PySem.W.lookIn
  rw [hd]
  dsimp only
  split
  · rename_i y q
    rw [q] at e
    exact congrArg some e
  · rename_i q
    rw [q] at e
    have a : es.toList.any (·.refKey) = false := by
      rw [List.any_eq_false]
      intro y hy
      obtain ⟨z, t, hkey⟩ := hk y (Array.mem_toList_iff.mp hy)
      simp [DictEntry.refKey, hkey]
    have a' : ¬ es.toList.any (·.refKey) = true := by rw [a]; exact Bool.false_ne_true
    rw [if_neg a']
    exact congrArg some e
theorem ObjM.look {h : Heap} {x dx C : Addr} {mA : Str → Option Value} (I : ObjM h x dx C mA) : ∃ od, PySem.W.InstAt h x (PySem.W.instObj C dx) C (some od) ∧ ∀ name, PySem.W.lookIn name od = some (mA name) :=
  let ⟨od, ho, hl⟩ := lookIn_ns I.ns
  ⟨od, ⟨I.obj, rfl, rfl, ho⟩, hl⟩
section
variable {prog : Program} {w : World} {A : Around} {E : Value → Shared → Prop} {s : Shared} {K : PySem.W.Frag} {x dx C f : Addr} {mA : Str → Option Value} {name : Str} {v : Value}
theorem get_map {expr : Bool} {Q : Value → Shared → Prop} (X : K.In s.heap) (I : ObjM s.heap x dx C mA) (hg : PySem.W.plainGet K C name = true) (hh : PySem.W.hasDictIn K C = true)
    (ha : PySem.W.findIn K (.ref C) name = some none) (hv : mA name = some v) (hv' : PySem.W.handedIn v = true) (h : Q v { s with toks := s.toks + 1 }) :
    wpAny (model prog w) A (getAttr (.ref x) name expr) Q E s := by
  obtain ⟨od, J, hl⟩ := I.look
  exact PySem.W.get_value X J (PySem.W.plainGet_of hg).1 (PySem.W.findObj_own hh ha rfl (by rw [hl, hv])) hv' h
theorem get_meth {pl : Sem Bool} {Q : Value × List Value → Shared → Prop} (X : K.In s.heap) (I : ObjM s.heap x dx C mA) (hg : PySem.W.plainGet K C name = true)
    (hf : PySem.W.findIn K (.ref C) name = some (some (.ref f))) (ht : PySem.W.isFn K (.ref f) = true) (hv : mA name = none) (h : Q (.ref f, [.ref x]) s) :
    wpAny (model prog w) A (getMethod (.ref x) name pl) Q E s := by
  obtain ⟨od, J, hl⟩ := I.look
  exact PySem.W.method_fn X J (PySem.W.plainGet_of hg).1 (PySem.W.plainGet_of hg).2 hf (beq_iff_eq.mp ht) (by show (PySem.W.lookIn name od).map (·.isSome) = some false; rw [hl, hv]; rfl) h
theorem set_map {ns : List Str} {Q : Unit → Shared → Prop} (X : K.In s.heap) (I : ObjM s.heap x dx C mA)
    (hs : PySem.W.findIn K (.ref C) "__setattr__" = some (some (.builtin "object.__setattr__"))) (hp : PySem.W.plainOver K C = true) (ht : PySem.W.takerIn K C name = some none) (hh : PySem.W.hasDictIn K C = true)
    (hw : PySem.Within mA ns) (hsz : ns.length ≤ sizeLine)
    (h : ∀ h', ObjM h' x dx C (fun y => if y = name then some v else mA y) → Heap.SameBut dx s.heap h' → Q () { s with heap := h', toks := s.toks + 2 }) :
    wpAny (model prog w) A (setAttr (.ref x) name v) Q E s := by
  obtain ⟨od, J, hl⟩ := I.look
  refine PySem.W.set_plain X J hs (PySem.W.osa_open (s := { s with toks := s.toks + 1 }) (r := none) X J hp ht fun b => ?_)
  obtain ⟨cd, hc, hd'⟩ := PySem.W.any_some hh
  have hx : s.heap.get? x = some ⟨.ref C, some dx, .plain, #[]⟩ := I.obj
  refine wpAny_bind (wpAny_pure (wpAny_bind (wpAny_bind (wpAny_loadPart hx (wpAny_bind (PySem.W.Looks.here (s := { s with toks := s.toks + 1 }) (PySem.W.looks_clsIn X hc) ?_))))))
  rw [hd']
  refine wpAny_pure (a := some dx) (wpAny_bind (wpAny_pure (wpAny_bind ?_)))
  refine wpAny_nsSet1 (s := { s with toks := s.toks + 1 }) I.ns fun h' hn2 hs2 => ?_
  obtain ⟨oD, esD, epD, hoD, hdD, hcD⟩ := hn2.count (PySem.Within.cons name v hw)
  refine wpAny_bind (wpAny_lookBehind hoD (by rw [hdD]; exact pastItsLine_dict (Nat.le_trans hcD (by rw [List.length_cons]; exact Nat.lt_of_le_of_lt (by assumption) (by decide)))) ?_)
  exact wpAny_pure (h _ ⟨(hs2.2 _ (Ne.symm I.ne)).trans I.obj, hn2, I.ne⟩ hs2)
theorem make_map {R : Result → Shared → Prop} {vs : List Value} {kw : List (Str × Value)} (X : K.In s.heap) (hm : PySem.W.makesIn K C = true)
    (hi : PySem.W.findIn K (.ref C) "__init__" = some (some (.ref f))) (hf : PySem.W.typeIn K (.ref f) = some (.type "function"))
    (h : codeAny (model prog w) (A.under (.builtin "type.__call__" ⟨.ref C :: vs, kw⟩)) (.call (.ref f) ⟨.ref (s.heap.objs.size + 1) :: vs, kw⟩) (PySem.W.InitBack (s.heap.objs.size + 1) R)
      { s with heap := (s.heap.push PySem.W.emptyDict).push (PySem.W.instObj C s.heap.objs.size) }) :
    codeAny (model prog w) A (.call (.ref C) ⟨vs, kw⟩) R s := by
  obtain ⟨hh, g, d, t, os⟩ := s
  exact PySem.W.make_core (PySem.W.makes_of X hm) (PySem.W.looks_findIn X hi) (fun self => PySem.W.bind_fn X self hf) (.inl rfl) h
end
def putF (f : Str) (v : V) : List (Str × V) → List (Str × V)
  | [] => [(f, v)]
  | (g, x) :: r => if g = f then (g, v) :: r else (g, x) :: putF f v r
theorem lookup_putF (f g : Str) (v : V) : ∀ fs : List (Str × V), (putF f v fs).lookup g = if g = f then some v else fs.lookup g
  | [] => by
    show List.lookup g [(f, v)] = _
    by_cases h : g = f
    · have hb : (g == f) = true := beq_iff_eq.mpr h
      simp only [List.lookup, hb, if_pos h]
    · have hb : (g == f) = false := beq_eq_false_iff_ne.mpr h
      simp only [List.lookup, hb, if_neg h]
  | (k, x) :: r => by
    have ih := lookup_putF f g v r
    rw [show putF f v ((k, x) :: r) = (if k = f then (k, v) :: r else (k, x) :: putF f v r) from rfl]
    by_cases hk : k = f
    · rw [if_pos hk]
      by_cases h : g = k
      · have hb : (g == k) = true := beq_iff_eq.mpr h
        simp only [List.lookup, hb, if_pos (h.trans hk)]
      · have hb : (g == k) = false := beq_eq_false_iff_ne.mpr h
        simp only [List.lookup, hb, if_neg (fun e : g = f => h (e.trans hk.symm))]
    · rw [if_neg hk]
      by_cases h : g = k
      · have hb : (g == k) = true := beq_iff_eq.mpr h
        simp only [List.lookup, hb, if_neg (fun e : g = f => hk (h.symm.trans e))]
      · have hb : (g == k) = false := beq_eq_false_iff_ne.mpr h
        simp only [List.lookup, hb]
        exact ih
theorem keys_putF (f : Str) (v : V) : ∀ fs : List (Str × V), f ∈ (putF f v fs).map (·.1) ∧ ∀ g, g ∈ fs.map (·.1) → g ∈ (putF f v fs).map (·.1)
  | [] => ⟨by simp [putF], fun g h => by simp at h⟩
  | (k, x) :: r => by
    obtain ⟨i1, i2⟩ := keys_putF f v r
    rw [show putF f v ((k, x) :: r) = (if k = f then (k, v) :: r else (k, x) :: putF f v r) from rfl]
    by_cases hk : k = f
    · rw [if_pos hk]
      subst hk
      exact ⟨by simp, fun g h => by simpa using h⟩
    · rw [if_neg hk]
      refine ⟨?_, fun g h => ?_⟩
      · rw [List.map_cons]
        exact List.mem_cons_of_mem _ i1
      · rw [List.map_cons] at h ⊢
        rcases List.mem_cons.mp h with e | e
        · exact List.mem_cons.mpr (.inl e)
        · exact List.mem_cons_of_mem _ (i2 g e)
theorem length_putF (f : Str) (v : V) : ∀ fs : List (Str × V), (putF f v fs).length ≤ fs.length + 1
  | [] => by simp [putF]
  | (k, x) :: r => by
    have ih := length_putF f v r
    rw [show putF f v ((k, x) :: r) = (if k = f then (k, v) :: r else (k, x) :: putF f v r) from rfl]
    by_cases hk : k = f
    · rw [if_pos hk, List.length_cons, List.length_cons]; exact Nat.le_add_right _ _
    · rw [if_neg hk, List.length_cons, List.length_cons]; exact Nat.succ_le_succ (by assumption)
theorem RelO.some_of {v : V} {o : Option Value} (r : RelO (some v) o) : ∃ u, o = some u ∧ RelV v u := by
  cases o with
  | none => exact (show False from r).elim
  | some u => exact ⟨u, rfl, r⟩
theorem RelO.none_of {o : Option Value} (r : RelO none o) : o = none := by
  cases o with
  | none => rfl
  | some u => exact (show False from r).elim
theorem handed_of {v : V} {u : Value} (r : RelV v u) : PySem.W.handedIn u = true := by
  cases v with
  | non => cases (show u = Value.none from r); rfl
  | bl b => cases (show u = Value.bool b from r); rfl
  | int i => obtain ⟨t, e⟩ := (show ∃ t, u = Value.int i t from r); cases e; rfl
  | str x => obtain ⟨t, e⟩ := (show ∃ t, u = Value.str x t from r); cases e; rfl
  | byt b => obtain ⟨t, e⟩ := (show ∃ t, u = Value.bytes b t from r); cases e; rfl
  | flt b => obtain ⟨t, e⟩ := (show ∃ t, u = Value.float b t from r); cases e; rfl
  | ref a => cases (show u = Value.ref a from r); rfl
  | ty n => cases (show u = Value.type n from r); rfl
section
variable {P : Program} {w : World} {H H' : Hp} {h h' : Heap} {a C dx : Addr} {fs fs' : List (Str × V)}
theorem ins_get (hok : HOk P w H h) (e : H a = some (.ins C dx fs)) : ∃ mA, ObjM h a dx C mA ∧ (∀ f, RelO (fs.lookup f) (mA f)) ∧ PySem.Within mA (fs.map (·.1)) ∧ fs.length ≤ 1000 ∧ H dx = some (.own a) := by
  obtain ⟨d, z, ne, ob, mA, n, r, q⟩ := (show ObjOk P w H h a (.ins C dx fs) from hok a _ e)
  exact ⟨mA, ⟨ob, n, ne⟩, r, q, z, d⟩
end
structure Cls (K : PySem.W.Frag) (C : Addr) : Prop where
  pg : PySem.W.plainGet K C Str.empty = true
  hd : PySem.W.hasDictIn K C = true
  po : PySem.W.plainOver K C = true
  sa : PySem.W.findIn K (.ref C) "__setattr__" = some (some (.builtin "object.__setattr__"))
theorem Cls.get {K : PySem.W.Frag} {C : Addr} (c : Cls K C) (f : Str) : PySem.W.plainGet K C f = true := c.pg
def NoAttr (K : PySem.W.Frag) (C : Addr) (f : Str) : Prop := PySem.W.findIn K (.ref C) f = some none
theorem NoAttr.taker {K : PySem.W.Frag} {C : Addr} {f : Str} (n : NoAttr K C f) : PySem.W.takerIn K C f = some none := by
  unfold PySem.W.takerIn
  rw [show PySem.W.findIn K (.ref C) f = some none from n]
  rfl
structure Meth (K : PySem.W.Frag) (C : Addr) (m : Str) (f : Addr) : Prop where
  at_ : PySem.W.findIn K (.ref C) m = some (some (.ref f))
  fn : PySem.W.isFn K (.ref f) = true
  kp : PySem.W.keepIn K (.ref f) = true
section
variable {X : Cx} {pins : List (Addr × Obj)} {σ : St} {H : Hp} {s : Shared} {a C dx : Addr} {fs : List (Str × V)} {f : Str} {v : V} {A : Around} {E : Value → Shared → Prop}
theorem getattr_ok {b : Bool} {Q : Value → Shared → Prop} (I : Inv X pins σ H s) (e : H a = some (.ins C dx fs)) (c : Cls X.K C) (n : NoAttr X.K C f) (l : fs.lookup f = some v)
    (h : ∀ u s', Inv X pins σ H s' → RelV v u → Q u s') : wpAny (model X.prog X.w) A (getAttr (.ref a) f b) Q E s := by
  obtain ⟨mA, O, r, _, _, _⟩ := ins_get I.hok e
  obtain ⟨u, hu, ru⟩ := RelO.some_of (v := v) (o := mA f) (by rw [← l]; exact r f)
  exact get_map I.kIn O (c.get f) c.hd n hu (handed_of ru) (h u _ (I.tok _) ru)
theorem getmeth_ok {m : Str} {g : Addr} {pl : Sem Bool} {Q : Value × List Value → Shared → Prop} (I : Inv X pins σ H s) (e : H a = some (.ins C dx fs)) (c : Cls X.K C) (k : Meth X.K C m g) (l : fs.lookup m = none)
    (h : Q (.ref g, [.ref a]) s) : wpAny (model X.prog X.w) A (getMethod (.ref a) m pl) Q E s := by
  obtain ⟨mA, O, r, _, _, _⟩ := ins_get I.hok e
  have hn : mA m = none := RelO.none_of (by rw [← l]; exact r m)
  exact get_meth I.kIn O (c.get m) k.at_ k.fn hn h
theorem setattr_ok {y : V} {u : Value} {Q : Unit → Shared → Prop} (I : Inv X pins σ H s) (e : H a = some (.ins C dx fs)) (c : Cls X.K C) (n : NoAttr X.K C f) (hl : fs.length < 1000) (ry : RelV y u)
    (h : ∀ s', Inv X pins σ (upd H a (.ins C dx (putF f y fs))) s' → Q () s') : wpAny (model X.prog X.w) A (setAttr (.ref a) f u) Q E s := by
  obtain ⟨mA, O, r, wi, _, ho⟩ := ins_get I.hok e
  have hz : (fs.map (·.1)).length ≤ sizeLine := by rw [List.length_map, sizeLine_eq]; exact Nat.le_trans (by assumption) (by decide)
  refine set_map I.kIn O c.sa c.po n.taker c.hd wi hz fun h' O' sb => h _ ?_
  have hd : ∃ o, h'.get? dx = some o := let ⟨o, _, _, e', _⟩ := O'.ns; ⟨o, e'⟩
  refine I.write (x := a) (e := dx) (by rw [e]; exact True.intro) (.inr ho) (fun b q hb z => (sb.2 b hb).trans z) hd ?_
  refine ⟨by rw [upd_ne O.ne]; exact ho, ?_, O.ne, O'.obj, _, O'.ns, fun g => ?_, fun g hg => ?_⟩
  · have := length_putF f y fs; exact Nat.le_trans (by assumption) (by assumption)
  · show RelO ((putF f y fs).lookup g) (if g = f then some u else mA g)
    rw [lookup_putF]
    by_cases q : g = f
    · rw [if_pos q, if_pos q]; exact ry
    · rw [if_neg q, if_neg q]; exact r g
  · by_cases q : g = f
    · rw [q]; exact (keys_putF f y fs).1
    · refine (keys_putF f y fs).2 g (wi g fun z => hg ?_)
      show (if g = f then some u else mA g) = none
      rw [if_neg q]; exact z
theorem Inv.made (I : Inv X pins σ H s) : Inv X pins σ (upd (upd H s.heap.objs.size (.own (s.heap.objs.size + 1))) (s.heap.objs.size + 1) (.ins C s.heap.objs.size []))
    { s with heap := (s.heap.push PySem.W.emptyDict).push (PySem.W.instObj C s.heap.objs.size) } := by
  have e1 : (s.heap.push PySem.W.emptyDict).get? s.heap.objs.size = some PySem.W.emptyDict := Heap.get?_push_size s.heap rfl
  have e2 : ((s.heap.push PySem.W.emptyDict).push (PySem.W.instObj C s.heap.objs.size)).get? (s.heap.objs.size + 1) = some (PySem.W.instObj C s.heap.objs.size) := by
    have := Heap.get?_push_size (s.heap.push PySem.W.emptyDict) (o := PySem.W.instObj C s.heap.objs.size) rfl
    rwa [Heap.size_push] at this
  have e3 : (s.heap.push PySem.W.emptyDict).Ns s.heap.objs.size (fun _ => none) := ⟨PySem.W.emptyDict, #[], _, e1, rfl, (fun e he => absurd he (by simp)), fun _ => rfl⟩
  have I1 := I.laid (a := s.heap.objs.size) (o := .own (s.heap.objs.size + 1)) (h' := s.heap.push PySem.W.emptyDict) (t' := s.toks) (fun b u q => Heap.get?_push_of_some _ q) (Nat.le_refl _) ⟨_, e1⟩
  refine I1.laid (a := s.heap.objs.size + 1) (o := .ins C s.heap.objs.size []) (t' := s.toks) (fun b u q => Heap.get?_push_of_some _ q) (Nat.le_of_eq (Heap.size_push _ _)) ?_
  have ne : s.heap.objs.size ≠ s.heap.objs.size + 1 := Nat.ne_of_lt (Nat.lt_succ_self _)
  refine ⟨by rw [upd_ne ne, upd_same], Nat.zero_le _, ne, e2, fun _ => none, (Heap.Ns1.of_empty e3).at fun o q => Heap.get?_push_of_some _ q, fun _ => True.intro, fun y hy => absurd rfl hy⟩
theorem attr_of {prog : Program} {w : World} {env : Env} {e : Expr} {f : Str} {pos : Pos} {s : Shared} {Q : Value → Shared → Prop} (hb : attributeBase e f env (eval e env) = eval e env)
    (h : wpAny (model prog w) A (eval e env) (fun o s₁ => wpAny (model prog w) A (getAttr o f true) Q E s₁) E s) : wpAny (model prog w) A (eval (.Attribute e f pos) env) Q E s :=
  Attribute_any_ h (by rw [arm_eval_Attribute, hb])
end
def tFld (K : PySem.W.Frag) (ta : TE) (f : Str) : TE := fun σ H Q => ta σ H fun x H1 => ∃ a C dx fs v, x = .ref a ∧ H1 a = some (.ins C dx fs) ∧ Cls K C ∧ NoAttr K C f ∧ fs.lookup f = some v ∧ Q v H1
def sFld (K : PySem.W.Frag) (ta tv : TE) (f : Str) : TS := fun D σ H => tv σ H fun y H1 => ta σ H1 fun x H2 => ∃ a C dx fs, x = .ref a ∧ H2 a = some (.ins C dx fs) ∧ Cls K C ∧ NoAttr K C f ∧ fs.length < 1000 ∧
  D.nx σ (upd H2 a (.ins C dx (putF f y fs)))
section
variable {X : Cx} {o e value : Expr} {f : Str} {pos pos' tpos : Pos} {ta tv : TE}
theorem pe_fld (he : PE X e ta) (hb : attributeBase e f X.env (eval e X.env) = eval e X.env) : PE X (.Attribute e f pos) (tFld X.K ta f) := by
  intro pins s σ H Q I h
  refine attr_of hb (thn (he pins s σ H _ I h) fun u s1 ⟨x, H1, I1, rx, a, C, dx, fs, v, ex, ea, c, n, l, q⟩ => ?_)
  subst ex
  obtain rfl : u = Value.ref a := rx
  exact getattr_ok I1 ea c n l fun u' s2 I2 ru => ⟨v, H1, I2, ru, q⟩
theorem ps_fld (ha : PE X o ta) (hv : PE X value tv) (hs : swapsWith value (some (.Attribute o f pos')) pos.line X.env = pure false) : PS X (.Assign [.Attribute o f pos'] value pos) (sFld X.K ta tv f) := by
  intro pins s σ H D I h
  refine plainObj_wpAny_Assign_Attribute (thn (hv pins s σ H _ I h) fun u s1 ⟨y, H1, I1, ry, q⟩ => thn (ha pins s1 σ H1 _ I1 q) fun ov s2 ⟨x, H2, I2, rx, a, C, dx, fs, ex, ea, c, n, l, q2⟩ => ?_) hs
  subst ex
  obtain rfl : ov = Value.ref a := rx
  exact setattr_ok I2 ea c n l ry fun s3 I3 => ⟨σ, _, I3, q2⟩
end
section
variable {X : Cx} {pins : List (Addr × Obj)} {σ : St} {H : Hp} {s : Shared} {A : Around} {E : Value → Shared → Prop} {Q : Value → Shared → Prop} {c : Value} {b : Bool}
inductive TyOf (K : PySem.W.Frag) (H : Hp) : V → Value → Prop where
  | non : TyOf K H .non (.type "NoneType")
  | bl (x : Bool) : TyOf K H (.bl x) (.type "bool")
  | int (i : Int) : TyOf K H (.int i) (.type "int")
  | str (x : Str) : TyOf K H (.str x) (.type "str")
  | flt (x : UInt64) : TyOf K H (.flt x) (.type "float")
  | lst {a : Addr} {xs : List V} (e : H a = some (.lst xs)) : TyOf K H (.ref a) (.type "list")
  | frz {a : Addr} {o : Obj} {xs : List V} (e : H a = some (.frz o (.lst xs))) : TyOf K H (.ref a) (.type "list")
  | tup {a : Addr} {xs : List V} (e : H a = some (.tup xs)) : TyOf K H (.ref a) (.type "tuple")
  | dK {a : Addr} {kvs : List (Key × V)} (e : H a = some (.dK kvs)) : TyOf K H (.ref a) (.type "dict")
  | dT {a : Addr} {kvs : List (List Key × V)} (e : H a = some (.dT kvs)) : TyOf K H (.ref a) (.type "dict")
  | ins {a C dx : Addr} {fs : List (Str × V)} (e : H a = some (.ins C dx fs)) (cl : Cls K C) (ha : PySem.W.findIn K (.ref C) "__class__" = some (some (.builtin "object.__class__")))
      (hn : PySem.W.specialIn K (.builtin "object.__class__") "__get__" = some (some (.builtin "getset_descriptor.__get__"))) (htk : PySem.W.takesIn K (.builtin "object.__class__") = some true)
      (hm : PySem.W.mroIn K C (.type "object") = some true) : TyOf K H (.ref a) (.ref C)
theorem isinst_ok {x : V} {u t : Value} (I : Inv X pins σ H s) (rx : RelV x u) (ty : TyOf X.K H x t) (e : PySem.W.kitOne X.K t c = some b) (h : ∀ tk, Q (.bool b) { s with toks := tk }) :
    wpAny (model X.prog X.w) A (call (.builtin "isinstance") [u, c]) Q E s := by
  cases ty with
  | non => cases (show u = Value.none from rx); exact PySem.W.kia_one PySem.W.kitx_none I.kIn True.intro e (fun z => nomatch z) h
  | bl y => cases (show u = Value.bool y from rx); exact PySem.W.kia_one PySem.W.kitx_bool I.kIn True.intro e (fun z => nomatch z) h
  | int i => obtain ⟨t, q⟩ := (show ∃ t, u = Value.int i t from rx); cases q; exact PySem.W.kia_one PySem.W.kitx_int I.kIn True.intro e (fun z => nomatch z) h
  | str y => obtain ⟨t, q⟩ := (show ∃ t, u = Value.str y t from rx); cases q; exact PySem.W.kia_one PySem.W.kitx_str I.kIn True.intro e (fun z => nomatch z) h
  | flt y => obtain ⟨t, q⟩ := (show ∃ t, u = Value.float y t from rx); cases q; exact PySem.W.kia_one PySem.W.kitx_float I.kIn True.intro e (fun z => nomatch z) h
  | @lst a xs ea =>
    cases (show u = Value.ref a from rx)
    obtain ⟨_, _, n, _, h1⟩ := (show ObjOk X.prog X.w H s.heap a (.lst xs) from I.hok a _ ea)
    exact PySem.W.kia_one PySem.W.kitx_list I.kIn ⟨_, h1, rfl⟩ e (fun z => nomatch z) h
  | @frz a ob xs ea =>
    cases (show u = Value.ref a from rx)
    obtain ⟨_, _, _, n, _, h1⟩ := (show ObjOk X.prog X.w H s.heap a (.frz ob (.lst xs)) from I.hok a _ ea)
    exact PySem.W.kia_one PySem.W.kitx_list I.kIn ⟨_, h1, rfl⟩ e (fun z => nomatch z) h
  | @tup a xs ea =>
    cases (show u = Value.ref a from rx)
    obtain ⟨_, _, _, p⟩ := (show ObjOk X.prog X.w H s.heap a (.tup xs) from I.hok a _ ea)
    obtain ⟨o, h1, h2, _⟩ := p
    exact PySem.W.kia_one PySem.W.kitx_tuple I.kIn ⟨o, h1, h2⟩ e (fun z => nomatch z) h
  | @dK a kvs ea =>
    cases (show u = Value.ref a from rx)
    obtain ⟨_, _, vs, _, p⟩ := (show ObjOk X.prog X.w H s.heap a (.dK kvs) from I.hok a _ ea)
    obtain ⟨o, es, ep, h1, h2, _⟩ := p
    exact PySem.W.kia_one PySem.W.kitx_dict I.kIn ⟨o, h1, h2.1⟩ e (fun z => nomatch z) h
  | @dT a kvs ea =>
    cases (show u = Value.ref a from rx)
    obtain ⟨_, _, xs, _, o, es, ep, h1, h2, _⟩ := (show ObjOk X.prog X.w H s.heap a (.dT kvs) from I.hok a _ ea)
    exact PySem.W.kia_one PySem.W.kitx_dict I.kIn ⟨o, h1, h2.1⟩ e (fun z => nomatch z) h
  | @ins a C dx fs ea cl ha hn htk hm =>
    cases (show u = Value.ref a from rx)
    obtain ⟨mA, O, _⟩ := ins_get I.hok ea
    obtain ⟨od, J, _⟩ := O.look
    exact PySem.W.kia_one (PySem.W.kitx_own (cl.get _) cl.hd ha hn htk hm) I.kIn J e (fun z => nomatch z) h
end
end L2
namespace L2
open PySem PySem.Spec PyProof.Rows
structure Room (k : Nat) (A : Around) : Prop where
  hd : A.handled = none
  dp : A.depth + 3 * k + 5 < recursionLimit
  un : A.units + 16 * k + 200 < cLine
  gd : A.guards = some []
theorem Room.mono {j k : Nat} {A : Around} (r : Room k A) (h : j ≤ k) : Room j A := ⟨r.hd, by have := r.dp; omega, by have := r.un; omega, r.gd⟩
theorem Room.deeper {k : Nat} {A : Around} (r : Room (k + 1) A) (env : Env) : Room k (A.deeper env) :=
  ⟨r.hd, by have := r.dp; show A.depth + 1 + 3 * k + 5 < _; omega, by have := r.un; show A.units + 3 + 16 * k + 200 < _; omega, by show pushGuards [] A.guards = some []; rw [r.gd]; rfl⟩
theorem make_depth {A : Around} {C : Addr} {us : List Value} {kw : List (Str × Value)} : (A.under (.builtin "type.__call__" ⟨.ref C :: us, kw⟩)).depth = A.depth + 1 := by
  first | rfl | simp [Around.under, Code.weight, Code.isCreation, Code.isGuard, Code.isCaller, Code.frames, Code.isFrame, guardIds]
theorem make_units {A : Around} {C : Addr} {us : List Value} {kw : List (Str × Value)} : (A.under (.builtin "type.__call__" ⟨.ref C :: us, kw⟩)).units = A.units + 1 := by
  first | rfl | simp [Around.under, Code.cUnits, Code.frames, Code.isFrame]
theorem make_guards {A : Around} {C : Addr} {us : List Value} {kw : List (Str × Value)} : (A.under (.builtin "type.__call__" ⟨.ref C :: us, kw⟩)).guards = A.guards := by
  cases h : A.guards <;> simp [Around.under, Code.guards, Code.isGuard, guardIds, pushGuards, h]
theorem Room.make {k : Nat} {A : Around} (r : Room (k + 1) A) (C : Addr) (us : List Value) (kw : List (Str × Value)) : Room k (A.under (.builtin "type.__call__" ⟨.ref C :: us, kw⟩)) :=
  ⟨r.hd, by have := r.dp; rw [make_depth]; omega, by have := r.un; rw [make_units]; omega, by rw [make_guards]; exact r.gd⟩
theorem Room.depth {k : Nat} {A : Around} (r : Room k A) : A.depth < recursionLimit := by have := r.dp; omega
theorem Room.units {k : Nat} {A : Around} (r : Room k A) : A.units + 64 < cLine := by have := r.un; omega
def tNil : TA := fun _ H Q => Q [] H
def tCons (ta : TE) (tr : TA) : TA := fun σ H Q => ta σ H fun x H1 => tr σ H1 fun xs H2 => Q (x :: xs) H2
section
variable {X : Cx} {e : Expr} {es : List Expr} {te : TE} {t : TA} {pos : Pos}
theorem pa_nil : PA X [] tNil := fun _ _ _ _ H Q I h => Calls.spliced_nil ⟨[], H, I, .nil, h⟩
theorem pa_cons (ha : PE X e te) (hr : PA X es t) (hs : starEach (e :: es) X.env = (false, eval e X.env) :: starEach es X.env := by rfl) : PA X (e :: es) (tCons te t) := by
  intro pos pins s σ H Q I h
  rw [hs]
  show wpAny _ _ (spliced ((false, eval e X.env) :: backTo pos (starEach es X.env))) _ _ s
  refine Calls.spliced_cons (thn (ha pins s σ H _ I h) fun u s1 ⟨x, H1, I1, r1, q1⟩ => ?_)
  exact thn (hr pos pins s1 σ H1 _ I1 q1) fun us s2 ⟨xs, H2, I2, r2, q2⟩ => ⟨x :: xs, H2, I2, .cons r1 r2, q2⟩
def tTup (t : TA) : TE := fun σ H Q => t σ H fun xs H1 => xs.length ≤ sizeLine ∧ ∀ p, H1 p = none → Q (.ref p) (upd H1 p (.tup xs))
def tLst (t : TA) : TE := fun σ H Q => t σ H fun xs H1 => xs.length ≤ sizeLine ∧ ∀ p, H1 p = none → Q (.ref p) (upd H1 p (.lst xs))
theorem pe_tup {x1} (h : PA X es t) : PE X (.Tuple es x1 pos) (tTup t) := by
  intro pins s σ H Q I hq
  refine wpAny_Tuple_spliced (thn (h pos pins s σ H _ I hq) fun us s1 ⟨xs, H1, I1, r, z, q⟩ => ⟨by rw [← r.length]; exact z, ?_⟩)
  have hf : H1 s1.heap.objs.size = none := I1.hok.fresh (Nat.le_refl _)
  refine ⟨.ref s1.heap.objs.size, upd H1 s1.heap.objs.size (.tup xs), I1.laid (t' := s1.toks) (fun b u e => Heap.get?_push_of_some _ e) (Nat.le_refl _) ?_, rfl, q _ hf⟩
  exact ⟨z, us, r, IsTupN.new _ _⟩
theorem pe_lst (h : PA X es t) : PE X (.List es pos) (tLst t) := by
  intro pins s σ H Q I hq
  refine wpAny_List_spliced (thn (h pos pins s σ H _ I hq) fun us s1 ⟨xs, H1, I1, r, z, q⟩ => ⟨by rw [← r.length]; exact z, ?_⟩)
  have hf : H1 s1.heap.objs.size = none := I1.hok.fresh (Nat.le_refl _)
  refine ⟨.ref s1.heap.objs.size, upd H1 s1.heap.objs.size (.lst xs), I1.laid (t' := s1.toks) (fun b u e => Heap.get?_push_of_some _ e) (Nat.le_refl _) ?_, rfl, q _ hf⟩
  exact ⟨z, us, 0, r, Heap.get?_push_size _ rfl⟩
end
abbrev Sp := List V → Hp → VK → XK → Prop
abbrev CXT := List Env → Hp → Shared → XK → Value → Shared → Prop
structure Env0 (P : Program) (w : World) (K : PySem.W.Frag) (mg : Str → Option Value) (base : Heap) (A : Around) (outer : List Env) (s : Shared) (H : Hp) : Prop where
  frames : A.frames = some outer
  mod : Mod K mg base
  bs : ∀ b o, base.get? b = some o → s.heap.get? b = some o ∧ H b = none
  bsz : base.objs.size ≤ s.heap.objs.size
  funs : s.heap.FunFrames base outer
  frf : ∀ b ∈ frs outer, H b = none
  hok : HOk P w H s.heap
  bare : AllBare s.gens
def CE (outer : List Env) (P : Program) (w : World) (H : Hp) (s : Shared) (Q : VK) (u : Value) (s' : Shared) : Prop :=
  ∃ v H', s'.os = s.os ∧ AllBare s'.gens ∧ Un (frs outer) [] H H' s.heap s'.heap ∧ HOk P w H' s'.heap ∧ RelV v u ∧ Q v H'
def CR (CX : CXT) (outer : List Env) (P : Program) (w : World) (H : Hp) (s : Shared) (Q : VK) (E : XK) (r : Result) (s' : Shared) : Prop :=
  match r with
  | .ok (.ret u) => CE outer P w H s Q u s'
  | .ok _ => False
  | .error e => CX outer H s E e s'
structure FnOk (P : Program) (w : World) (K : PySem.W.Frag) (mg : Str → Option Value) (base : Heap) (CX : CXT) (k : Nat) (f : Addr) (fd : FuncData) (ps : List Str) (sp : Sp) : Prop where
  len : ∀ vs H Q E, sp vs H Q E → vs.length = ps.length
  run : ∀ (A : Around) (outer : List Env) (s : Shared) (H : Hp) (args : Args) (us : List Value) (vs : List V) (Q : VK) (E : XK), Room k A → Env0 P w K mg base A outer s H → BindsTo s fd args (ps.zip us) → Vals vs us → sp vs H Q E →
    codeAny (model P w) A (.call (.ref f) args) (CR CX outer P w H s Q E) s
theorem FnOk.mono {P : Program} {w : World} {K : PySem.W.Frag} {mg : Str → Option Value} {base : Heap} {CX : CXT} {j k : Nat} {f : Addr} {fd : FuncData} {ps : List Str} {sp : Sp} (F : FnOk P w K mg base CX j f fd ps sp) (h : j ≤ k) :
    FnOk P w K mg base CX k f fd ps sp := ⟨F.len, fun A outer s H args us vs Q E hr => F.run A outer s H args us vs Q E (hr.mono h)⟩
theorem Env0.make {P : Program} {w : World} {K : PySem.W.Frag} {mg : Str → Option Value} {base : Heap} {A : Around} {outer : List Env} {s : Shared} {H : Hp} (e : Env0 P w K mg base A outer s H) (C : Addr) (us : List Value) (kw : List (Str × Value)) :
    Env0 P w K mg base (A.under (.builtin "type.__call__" ⟨.ref C :: us, kw⟩)) outer s H := ⟨by first | exact e.frames | (simpa [Around.under, Code.envs, Code.isFrame, pushEnvs] using e.frames), e.mod, e.bs, e.bsz, e.funs, e.frf, e.hok, e.bare⟩
section
variable {X : Cx} {pins : List (Addr × Obj)} {σ : St} {H : Hp} {s s' : Shared}
theorem Inv.env0 (I : Inv X pins σ H s) : Env0 X.prog X.w X.K X.mg X.base X.A X.stack s H :=
  ⟨I.ok.frames, I.ok.mod, I.bs, Nat.le_trans I.ok.bsz I.sz, I.stack, I.stkFree, I.hok, I.bare⟩
theorem Inv.after {Q : VK} {u : Value} (I : Inv X pins σ H s) (h : CE X.stack X.prog X.w H s Q u s') : EP X pins σ Q u s' := by
  obtain ⟨v, H', os, bare, un, hok, r, q⟩ := h
  obtain ⟨hh, g, d, t, os'⟩ := s'
  obtain rfl : os' = s.os := os
  exact ⟨v, H', I.call (h' := hh) (g' := g) (d' := d) (t' := t) (ch := []) un hok bare (fun b z => absurd z (by simp)), r, q⟩
end
def tCall (sp : Sp) (dvs : List V) (E : XK) (t : TA) : TE := fun σ H Q => t σ H fun vs H1 => sp (vs ++ dvs) H1 Q E
def tMeth (C : Addr) (m : Str) (sp : Sp) (dvs : List V) (E : XK) (ta : TE) (t : TA) : TE := fun σ H Q => ta σ H fun x H1 => ∃ a dx fs, x = .ref a ∧ H1 a = some (.ins C dx fs) ∧ fs.lookup m = none ∧
  t σ H1 fun vs H2 => sp (x :: (vs ++ dvs)) H2 Q E
def tMake (C : Addr) (sp : Sp) (dvs : List V) (E : XK) (t : TA) : TE := fun σ H Q => t σ H fun vs H1 => ∀ x dx, H1 x = none → H1 dx = none → dx ≠ x →
  sp (.ref x :: (vs ++ dvs)) (upd (upd H1 dx (.own x)) x (.ins C dx [])) (fun v H2 => v = .non ∧ Q (.ref x) H2) E
def Binds (K : PySem.W.Frag) (fd : FuncData) (ps : List Str) (ds : List Value) : Prop :=
  ∀ (s : Shared) (us : List Value), K.In s.heap → (us ++ ds).length = ps.length → BindsTo s fd ⟨us, []⟩ (ps.zip (us ++ ds))
theorem Binds.all {K : PySem.W.Frag} {fd : FuncData} {ps : List Str} (h : ∀ us : List Value, us.length = ps.length → bindArgs fd ⟨us, []⟩ = pure (ps.zip us)) : Binds K fd ps [] := fun s us _ hl => by
  rw [List.append_nil] at hl ⊢
  exact .of_eq (h us hl)
def Passes (CX : CXT) (X : Cx) (E : XK) : Prop := ∀ (pins : List (Addr × Obj)) (σ : St) (H : Hp) (s : Shared) (e : Value) (s' : Shared), Inv X pins σ H s → CX X.stack H s E e s' → X.xe e s'
section
variable {X : Cx} {CX : CXT} {k : Nat} {f C : Addr} {fd : FuncData} {ps : List Str} {sp : Sp} {dvs : List V} {ds : List Value} {E : XK} {x m : Str} {p pos apos : Pos} {e o : Expr} {es : List Expr} {ta : TE} {t : TA}
theorem run_fn {pins : List (Addr × Obj)} {σ : St} {H : Hp} {s : Shared} {Q : VK} {us : List Value} {vs : List V} (F : FnOk X.prog X.w X.K X.mg X.base CX k f fd ps sp) (hr : Room k X.A) (hb : Binds X.K fd ps ds) (hd : Vals dvs ds) (hx : Passes CX X E)
    (I : Inv X pins σ H s) (r : Vals vs us) (h : sp (vs ++ dvs) H Q E) : wpAny (model X.prog X.w) X.A (call (.ref f) us) (EP X pins σ Q) X.xe s := by
  have r2 : Vals (vs ++ dvs) (us ++ ds) := r.append hd
  have hl : (us ++ ds).length = ps.length := by rw [← r2.length]; exact F.len _ _ _ _ h
  refine wpAny_call (codeAny_mono (F.run X.A X.stack s H ⟨us, []⟩ (us ++ ds) (vs ++ dvs) Q E hr I.env0 (hb s us I.kIn hl) r2 h) fun r s' hq => ?_)
  cases r with
  | error e => exact hx pins σ H s e s' I hq
  | ok fl =>
    cases fl with
    | ret u => exact I.after hq
    | next => exact False.elim hq
    | brk => exact False.elim hq
    | cont => exact False.elim hq
theorem pe_call (F : FnOk X.prog X.w X.K X.mg X.base CX k f fd ps sp) (hr : Room k X.A) (hg : Gl X x) (hm : X.mg x = some (.ref f)) (hk : PySem.W.keepIn X.K (.ref f) = true) (hb : Binds X.K fd ps ds) (hd : Vals dvs ds) (hx : Passes CX X E)
    (ha : PA X (e :: es) t) (hdb : (x == ("__debug__" : Str)) = false := by decide) (he : starEach (e :: es) X.env = (false, eval e X.env) :: starEach es X.env := by rfl) (hpl : (backTo pos (starEach es X.env)).any (·.1) = false := by rfl) :
    PE X (.Call (.Name x p) (e :: es) [] pos) (tCall sp dvs E t) := by
  intro pins s σ H Q I h
  refine wpAny_Call_Name_kw (ld_glob I hg hm ?_ hdb)
  refine PySem.W.callWith_K (h₀ := X.base) I.ok.mod.kin hk (thn (ha pos pins s σ H _ I h) fun us s1 ⟨vs, H1, I1, r, q⟩ => ⟨I1.kIn, ?_⟩) he hpl
  exact run_fn F hr hb hd hx I1 r q
theorem pe_meth {pl : Sem Bool} (he : PE X o ta) (c : Cls X.K C) (hm : Meth X.K C m f) (F : FnOk X.prog X.w X.K X.mg X.base CX k f fd ps sp) (hr : Room k X.A) (hb : Binds X.K fd ps ds) (hd : Vals dvs ds) (hx : Passes CX X E) (ha : PA X (e :: es) t)
    (hst : starEach (e :: es) X.env = (false, eval e X.env) :: starEach es X.env := by rfl) (hpl : (backTo pos (starEach es X.env)).any (·.1) = false := by rfl)
    (ht : eval (.Call (.Attribute o m apos) (e :: es) [] pos) X.env = (do
      let ov ← eval o X.env
      standAt apos.atName
      let (f, first) ← holding [ov] (getMethod ov m pl)
      callWith pos f first (backTo pos (starEach (e :: es) X.env)) (backToKw pos (keywordEach [] X.env))) := by rfl) :
    PE X (.Call (.Attribute o m apos) (e :: es) [] pos) (tMeth C m sp dvs E ta t) := by
  intro pins s σ H Q I h
  refine PySem.W.methodCall_KW (pl := pl) (thn (he pins s σ H _ I h) fun u s1 ⟨x, H1, I1, rx, a, dx, fs, ex, ea, l, q⟩ => ?_) ht
  subst ex
  obtain rfl : u = Value.ref a := rx
  refine getmeth_ok I1 ea c hm l ?_
  refine PySem.W.callWith_K (first := [.ref a]) (h₀ := X.base) I.ok.mod.kin hm.kp (thn (ha pos pins s1 σ H1 _ I1 q) fun us s2 ⟨vs, H2, I2, r, q2⟩ => ⟨I2.kIn, ?_⟩) hst hpl
  exact run_fn (us := .ref a :: us) (vs := .ref a :: vs) F hr hb hd hx I2 (.cons rfl r) q2
theorem pe_meth0 {pl : Sem Bool} (he : PE X o ta) (c : Cls X.K C) (hm : Meth X.K C m f) (F : FnOk X.prog X.w X.K X.mg X.base CX k f fd ps sp) (hr : Room k X.A) (hb : Binds X.K fd ps ds) (hd : Vals dvs ds) (hx : Passes CX X E)
    (ht : eval (.Call (.Attribute o m apos) [] [] pos) X.env = (do
      let ov ← eval o X.env
      standAt apos.atName
      let (f, first) ← holding [ov] (getMethod ov m pl)
      callWith pos f first (backTo pos (starEach [] X.env)) (backToKw pos (keywordEach [] X.env))) := by rfl) :
    PE X (.Call (.Attribute o m apos) [] [] pos) (tMeth C m sp dvs E ta tNil) := by
  intro pins s σ H Q I h
  refine PySem.W.methodCall_KW (pl := pl) (thn (he pins s σ H _ I h) fun u s1 ⟨x, H1, I1, rx, a, dx, fs, ex, ea, l, q⟩ => ?_) ht
  subst ex
  obtain rfl : u = Value.ref a := rx
  refine getmeth_ok I1 ea c hm l ?_
  exact PySem.W.callWith_K0 (first := [.ref a]) I1.kIn hm.kp (run_fn (us := [.ref a]) (vs := [.ref a]) F hr hb hd hx I1 (.cons rfl .nil) q)
structure Mk (K : PySem.W.Frag) (C f : Addr) : Prop where
  makes : PySem.W.makesIn K C = true
  init : PySem.W.findIn K (.ref C) "__init__" = some (some (.ref f))
  fn : PySem.W.isFn K (.ref f) = true
  kp : PySem.W.keepIn K (.ref C) = true
theorem run_make {pins : List (Addr × Obj)} {σ : St} {H : Hp} {s : Shared} {Q : VK} {us : List Value} {vs : List V} (M : Mk X.K C f) (F : FnOk X.prog X.w X.K X.mg X.base CX k f fd ps sp) (hr : Room (k + 1) X.A) (hb : Binds X.K fd ps ds) (hd : Vals dvs ds)
    (hx : Passes CX X E) (I : Inv X pins σ H s) (r : Vals vs us)
    (h : ∀ x dx, H x = none → H dx = none → dx ≠ x → sp (.ref x :: (vs ++ dvs)) (upd (upd H dx (.own x)) x (.ins C dx [])) (fun v H2 => v = .non ∧ Q (.ref x) H2) E) :
    wpAny (model X.prog X.w) X.A (call (.ref C) us) (EP X pins σ Q) X.xe s := by
  have hq := h (s.heap.objs.size + 1) s.heap.objs.size (I.hok.fresh (Nat.le_succ _)) (I.hok.fresh (Nat.le_refl _)) (Nat.ne_of_lt (Nat.lt_succ_self _))
  have I2 := Inv.made (C := C) I
  have r2 : Vals (V.ref (s.heap.objs.size + 1) :: (vs ++ dvs)) (Value.ref (s.heap.objs.size + 1) :: (us ++ ds)) := .cons rfl (r.append hd)
  have hl : (Value.ref (s.heap.objs.size + 1) :: us ++ ds).length = ps.length := by
    have e := r2.length
    rw [F.len _ _ _ _ hq] at e
    exact e.symm
  refine wpAny_call (make_map (f := f) I.kIn M.makes M.init (beq_iff_eq.mp M.fn) (codeAny_mono (F.run _ X.stack _ _ ⟨Value.ref (s.heap.objs.size + 1) :: us, []⟩ (Value.ref (s.heap.objs.size + 1) :: (us ++ ds)) _ _ E (hr.make C us [])
    (I2.env0.make C us []) (hb _ (Value.ref (s.heap.objs.size + 1) :: us) I2.kIn hl) r2 hq) fun r s' hq' => ?_))
  cases r with
  | error e => exact hx pins σ _ _ e s' I2 hq'
  | ok fl =>
    cases fl with
    | ret u =>
      obtain ⟨v, H', I3, rv, ev, q3⟩ := I2.after hq'
      subst ev
      exact ⟨rv, ⟨V.ref (s.heap.objs.size + 1), H', I3, rfl, q3⟩⟩
    | next => exact False.elim hq'
    | brk => exact False.elim hq'
    | cont => exact False.elim hq'
theorem pe_make (M : Mk X.K C f) (F : FnOk X.prog X.w X.K X.mg X.base CX k f fd ps sp) (hr : Room (k + 1) X.A) (hg : Gl X x) (hm : X.mg x = some (.ref C)) (hb : Binds X.K fd ps ds) (hd : Vals dvs ds) (hx : Passes CX X E)
    (ha : PA X (e :: es) t) (hdb : (x == ("__debug__" : Str)) = false := by decide) (he : starEach (e :: es) X.env = (false, eval e X.env) :: starEach es X.env := by rfl) (hpl : (backTo pos (starEach es X.env)).any (·.1) = false := by rfl) :
    PE X (.Call (.Name x p) (e :: es) [] pos) (tMake C sp dvs E t) := by
  intro pins s σ H Q I h
  refine wpAny_Call_Name_kw (ld_glob I hg hm ?_ hdb)
  refine PySem.W.callWith_K (h₀ := X.base) I.ok.mod.kin M.kp (thn (ha pos pins s σ H _ I h) fun us s1 ⟨vs, H1, I1, r, q⟩ => ⟨I1.kIn, ?_⟩) he hpl
  exact run_make M F hr hb hd hx I1 r q
end
section
variable {X : Cx} {CX : CXT} {k : Nat} {f C : Addr} {fd : FuncData} {ps ks : List Str} {sp : Sp} {E : XK} {x m : Str} {p pos apos kpos : Pos} {e o : Expr} {es : List Expr} {kws : List Keyword} {te ta : TE} {t tk : TA} {nm : Option Str}
variable {g : List Value → List Value → List Value} {gV : List V → List V → List V}
end
structure FnScope (N P : List Str) (sc : Scope) : Prop where
  kind : sc.kind = .function
  co : sc.isCoroutine = false
  gen : sc.isGenerator = false
  nd : N.Nodup
  pre : N.take P.length = P
  par : ∀ x ∈ P, sc.names.lookup x = some .local ∨ sc.names.lookup x = some .cell
  nofree : ∀ y ∈ sc.names, y.2 ≠ .free
theorem bindL_out {kindOf : Str → Option NameKind} {x : Str} : ∀ {binds : List (Str × Value)} {m : Str → Option Value}, (∀ v, (x, v) ∉ binds) → bindL kindOf binds m x = m x
  | [], _, _ => rfl
  | (n, v) :: r, m, h => by
    unfold bindL
    rw [bindL_out fun w hw => h w (List.mem_cons_of_mem _ hw)]
    split
    · have : x ≠ n := by rintro rfl; exact h v List.mem_cons_self
      simp [this]
    · rfl
theorem bindC_out {kindOf : Str → Option NameKind} {x : Str} : ∀ {binds : List (Str × Value)} {m : Str → Option Value}, (∀ v, (x, v) ∉ binds) → bindC kindOf binds m x = m x
  | [], _, _ => rfl
  | (n, v) :: r, m, h => by
    unfold bindC
    rw [bindC_out fun w hw => h w (List.mem_cons_of_mem _ hw)]
    split
    · rfl
    · have : x ≠ n := by rintro rfl; exact h v List.mem_cons_self
      simp [this]
theorem bindL_get {kindOf : Str → Option NameKind} {x : Str} {v : Value} : ∀ {P : List Str} {vs : List Value} {i : Nat} {m : Str → Option Value}, P.Nodup → P[i]? = some x → vs[i]? = some v → kindOf x = some .local →
    bindL kindOf (P.zip vs) m x = some v
  | [], _, _, _, _, h, _, _ => by simp at h
  | _ :: _, [], _, _, _, _, h, _ => by simp at h
  | p :: P, w :: vs, 0, m, nd, h1, h2, hk => by
    simp at h1 h2; subst h1; subst h2
    show bindL kindOf ((p, w) :: P.zip vs) m p = _
    unfold bindL
    rw [bindL_out fun v hv => (List.nodup_cons.mp nd).1 (List.of_mem_zip hv).1, if_pos hk]
    simp
  | p :: P, w :: vs, i + 1, m, nd, h1, h2, hk => by
    show bindL kindOf ((p, w) :: P.zip vs) m x = _
    unfold bindL
    exact bindL_get (i := i) (List.nodup_cons.mp nd).2 (by simpa using h1) (by simpa using h2) hk
theorem bindC_get {kindOf : Str → Option NameKind} {x : Str} {v : Value} : ∀ {P : List Str} {vs : List Value} {i : Nat} {m : Str → Option Value}, P.Nodup → P[i]? = some x → vs[i]? = some v → kindOf x ≠ some .local →
    bindC kindOf (P.zip vs) m x = some v
  | [], _, _, _, _, h, _, _ => by simp at h
  | _ :: _, [], _, _, _, _, h, _ => by simp at h
  | p :: P, w :: vs, 0, m, nd, h1, h2, hk => by
    simp at h1 h2; subst h1; subst h2
    show bindC kindOf ((p, w) :: P.zip vs) m p = _
    unfold bindC
    rw [bindC_out fun v hv => (List.nodup_cons.mp nd).1 (List.of_mem_zip hv).1, if_neg hk]
    simp
  | p :: P, w :: vs, i + 1, m, nd, h1, h2, hk => by
    show bindC kindOf ((p, w) :: P.zip vs) m x = _
    unfold bindC
    exact bindC_get (i := i) (List.nodup_cons.mp nd).2 (by simpa using h1) (by simpa using h2) hk
def start (N : List Str) (vs : List V) : St := vs.map some ++ List.replicate (N.length - vs.length) none
def cxOf (CX : CXT) (P : Program) (w : World) (K : PySem.W.Frag) (mg : Str → Option Value) (base : Heap) (N : List Str) (qual : Str) (scope : Scope) (f : Addr) (cd : Value) (A : Around) (outer : List Env) (s : Shared) (H : Hp) (E : XK) : Cx where
  prog := P
  w := w
  K := K
  mg := mg
  base := base
  A := A.deeper (envOfC qual scope s.heap.objs.size f cd)
  N := N
  s₀ := s
  H₀ := H
  env := envOfC qual scope s.heap.objs.size f cd
  outer := outer
  stack := envOfC qual scope s.heap.objs.size f cd :: outer
  ex := []
  calm := true
  fn := fun _ => true
  pn := []
  xe := fun e s' => wpAny (model P w) (A.deeper (envOfC qual scope s.heap.objs.size f cd)) (leaving (envOfC qual scope s.heap.objs.size f cd) e) (fun _ s'' => CX outer H s E e s'') (fun e' s'' => CX outer H s E e' s'') s'
theorem cell_has {sc : Scope} {n : Nat} {x : Str} (h : sc.names.lookup x = some .cell) : ∃ c, (cellsFrom n sc.names []).lookup x = some c := by
  have q := PySem.W.cellsFrom_some sc.names n [] (.inl h)
  exact Option.isSome_iff_exists.mp q
theorem inv_start {CX : CXT} {P : Program} {w : World} {K : PySem.W.Frag} {mg : Str → Option Value} {base : Heap} {N ps : List Str} {qual : Str} {scope : Scope} {f : Addr} {cd : Value} {A : Around} {outer : List Env} {s s1 : Shared} {H : Hp} {E : XK} {us : List Value} {vs : List V}
    (S : FnScope N ps scope) (hd : A.handled = none) (e0 : Env0 P w K mg base A outer s H) (hl : vs.length = ps.length) (r : Vals vs us)
    (x : InCallC s s.heap.objs.size (bindL (envOfC qual scope s.heap.objs.size f cd).kindOf (ps.zip us) fun _ => none) (cellsFrom (s.heap.objs.size + 1) scope.names []) (bindC (envOfC qual scope s.heap.objs.size f cd).kindOf (ps.zip us) fun _ => none) s1) :
    Inv (cxOf CX P w K mg base N qual scope f cd A outer s H E) [] (start N vs) H s1 := by
  have hpl : ps.length ≤ N.length := by have := congrArg List.length S.pre; rw [List.length_take] at this; omega
  obtain ⟨h1, tk, rfl, hk⟩ := x.done
  have noA : ∀ b : Addr, b ∉ (cxOf CX P w K mg base N qual scope f cd A outer s H E).ex := fun b z => absurd (show b ∈ ([] : List Addr) from z) (by simp)
  refine ⟨⟨e0.mod, S.kind, rfl, rfl, Nat.le_refl _, fun y z c h1 h2 => ?_, fun y hy => ?_, fun y c _ h => ?_, fun _ => hd, Around.frames_deeper e0.frames, .inr ⟨rfl, rfl⟩, fun b z => absurd z (noA b), e0.bs, e0.bsz, fun b _ _ => noA b, fun b z => absurd z (noA b), e0.funs, e0.frf⟩,
    rfl, e0.bare, Un.kept hk, ⟨_, x.toInCall.ns, fun i y v h1 h2 h3 => ?_⟩, fun y c h => ⟨_, x.cell y c h⟩, e0.hok.fresh (Nat.le_refl _), fun y c h => ?_, fun p hp => absurd (show p ∈ ([] : List (Addr × Obj)) from hp) (by simp), e0.hok.kept hk, ?_⟩
  · exact name_of_addr x.apart (PySem.mem_of_lookup h1) (PySem.mem_of_lookup h2)
  · have hy : scope.names.lookup y = some .cell ∨ scope.names.lookup y = some .free := hy
    rcases hy with hy | hy
    · exact cell_has hy
    · exact absurd rfl (S.nofree _ (PySem.mem_of_lookup hy))
  · exact Nat.le_of_lt (x.above y c (PySem.mem_of_lookup h))
  · have hi : i < vs.length := by
      unfold start at h2
      by_cases hi : i < vs.length
      · exact hi
      · rw [List.getElem?_append_right (by simpa using hi)] at h2
        rw [List.getElem?_replicate] at h2
        split at h2 <;> cases h2
    have ha : vs[i]? = some v := by
      unfold start at h2
      rw [List.getElem?_append_left (by simpa using hi), List.getElem?_map] at h2
      cases e : vs[i]? with
      | none => rw [e] at h2; cases h2
      | some a => rw [e] at h2; cases h2; rfl
    obtain ⟨u, hu, rv⟩ := r.get ha
    have hp : ps[i]? = some y := by
      rw [← S.pre, List.getElem?_take_of_lt (by omega)]; exact h1
    have ndP : ps.Nodup := by rw [← S.pre]; exact S.nd.sublist (List.take_sublist _ _)
    refine ⟨u, rv, ?_⟩
    rcases S.par y (List.mem_of_getElem? hp) with k | k
    · exact .inl ⟨k, bindL_get ndP hp hu k⟩
    · obtain ⟨c, e⟩ := cell_has (n := s.heap.objs.size + 1) k
      refine .inr ⟨.inl k, c, e, ?_⟩
      have q := x.cell y c e
      rw [bindC_get ndP hp hu (by show scope.names.lookup y ≠ _; rw [k]; decide)] at q
      exact q
  · exact e0.hok.fresh (Nat.le_of_lt (x.above y c (PySem.mem_of_lookup h)))
  · unfold start
    show _ = N.length
    rw [List.length_append, List.length_map, List.length_replicate]
    omega
theorem fn_of {CX : CXT} {P : Program} {w : World} {K : PySem.W.Frag} {mg : Str → Option Value} {base : Heap} {k : Nat} {f : Addr} {name qual : Str} {params : Arguments} {body : List Stmt} {scope : Scope} {dV kV doc pm cdv ct oc : Value} {an od : Option Addr}
    {osl : Array (Option Value)} {N ps : List Str} {sp : Sp} (lk : K.lookup f = some ⟨oc, od, .func (PySem.W.fnOf name qual params body scope dV kV doc pm an cdv ct), osl⟩) (hcd : PySem.W.codeIn K cdv qual = true) (S : FnScope N ps scope)
    (len : ∀ vs H Q E, sp vs H Q E → vs.length = ps.length)
    (hbody : ∀ (A : Around) (outer : List Env) (s : Shared) (H : Hp) (vs : List V) (Q : VK) (E : XK), Room k (A.deeper (envOfC qual scope s.heap.objs.size f cdv)) → sp vs H Q E →
      ∃ t, PSs (cxOf CX P w K mg base N qual scope f cdv A outer s H E) body t ∧ t { nx := fun _ H' => Q .non H', rt := Q } (start N vs) H) :
    FnOk P w K mg base CX (k + 1) f (PySem.W.fnOf name qual params body scope dV kV doc pm an cdv ct) ps sp := by
  refine ⟨len, fun A outer s H args us vs Q E hr e0 hb r hsp => ?_⟩
  have hl := len _ _ _ _ hsp
  have KX : K.In s.heap := e0.mod.kin.keeps fun b o e => (e0.bs b o e).1
  have lim : s.heap.NoLimit := e0.mod.nolimit.keeps fun b o e => (e0.bs b o e).1
  have hkind : ∀ y ∈ ps.zip us, scope.names.lookup y.1 = some .local ∨ (scope.names.lookup y.1 = some .cell ∧ ((cellsFrom (s.heap.objs.size + 1) scope.names []).lookup y.1).isSome = true) := fun ⟨n, v⟩ hy => by
    rcases S.par n (List.of_mem_zip hy).1 with q | q
    · exact .inl q
    · exact .inr ⟨q, PySem.W.cellsFrom_some _ _ _ (.inl q)⟩
  refine codeAny_call_function hr.depth (KX _ _ lk) rfl S.co S.gen rfl (PySem.W.codeRec_of KX hcd) (hb _ _ _ _ ?_)
  refine wpAny_newFunctionEnv_cells S.kind hkind fun env he s1 x => ?_
  subst he
  refine ⟨lim.keeps x.toInCall.keep, codeAny_func ?_⟩
  obtain ⟨t, ht, hq⟩ := hbody A outer s H vs Q E (hr.deeper _) hsp
  have I : Inv (cxOf CX P w K mg base N qual scope f cdv A outer s H E) [] (start N vs) H s1 := inv_start S hr.hd e0 hl r x
  refine wpAny_mono (ht [] s1 (start N vs) H _ I hq) (fun fl s' hs => ?_) fun e s' hs => hs
  have fin : ∀ {σ' : St} {H' : Hp} {v : V} {u : Value}, Inv (cxOf CX P w K mg base N qual scope f cdv A outer s H E) [] σ' H' s' → RelV v u → Q v H' → CE outer P w H s Q u s' :=
    fun {σ' H' v u} J rv q => ⟨v, H', J.os, J.bare, J.base, J.hok, rv, q⟩
  cases fl with
  | ret u =>
    obtain ⟨v, σ', H', J, rv, q⟩ := hs
    exact fin J rv q
  | next =>
    obtain ⟨σ', H', J, q⟩ := hs
    exact fin (v := V.non) (u := Value.none) J rfl q
  | brk =>
    obtain ⟨_, _, _, q⟩ := hs
    exact False.elim q
  | cont =>
    obtain ⟨_, _, _, q⟩ := hs
    exact False.elim q
end L2
namespace L2
open PySem PySem.Spec PyProof.Rows
section
variable {X : Cx} {x : Str} {p pos : Pos} {e : Expr} {es : List Expr} {t : TA} {id T : String} {r : List V → Hp → VK → Prop}
def tCB (r : List V → Hp → VK → Prop) (t : TA) : TE := fun σ H Q => t σ H fun vs H1 => r vs H1 Q
theorem pe_callB (hc : CallR X (.builtin id) r) (hg : Gl X x) (hm : X.mg x = none) (hv : bootBuiltins x = some (.builtin id)) (ha : PA X (e :: es) t) (hn : x ≠ "__name__" := by decide) (hdb : (x == ("__debug__" : Str)) = false := by decide)
    (he : starEach (e :: es) X.env = (false, eval e X.env) :: starEach es X.env := by rfl) (hpl : (backTo pos (starEach es X.env)).any (·.1) = false := by rfl) : PE X (.Call (.Name x p) (e :: es) [] pos) (tCB r t) := by
  intro pins s σ H Q I h
  refine wpAny_Call_Name_kw (ld_blt I hg hm hv ?_ hn hdb)
  exact PyProof.Rows.callWith_builtin1 (thn (ha pos pins s σ H _ I h) fun us s1 ⟨vs, H1, I1, r1, q1⟩ => hc pins s1 σ H1 vs us Q I1 r1 q1) he hpl
theorem pe_callTy (hc : CallR X (.type T) r) (hg : Gl X x) (hm : X.mg x = none) (hv : bootBuiltins x = some (.type T)) (ha : PA X (e :: es) t) (hn : x ≠ "__name__" := by decide) (hdb : (x == ("__debug__" : Str)) = false := by decide)
    (he : starEach (e :: es) X.env = (false, eval e X.env) :: starEach es X.env := by rfl) (hpl : (backTo pos (starEach es X.env)).any (·.1) = false := by rfl) : PE X (.Call (.Name x p) (e :: es) [] pos) (tCB r t) := by
  intro pins s σ H Q I h
  refine wpAny_Call_Name_kw (ld_blt I hg hm hv ?_ hn hdb)
  exact PyProof.Rows.callWith_type1 (thn (ha pos pins s σ H _ I h) fun us s1 ⟨vs, H1, I1, r1, q1⟩ => hc pins s1 σ H1 vs us Q I1 r1 q1) he hpl
end
end L2
namespace HT
open PySem PyProof.Rows
section
open PySem.SeqAt
open PySem.AutoSeq1 (wpAny_loadPart')
open PySem.MeetsSeq PySem.MeetsSeq2 PySem.MeetsSeq3
end
section
variable {prog : Program} {w : World} {A : Around} {E : Value → Shared → Prop} {s : Shared}
theorem cat_tup {t b : Addr} {vs ws : List Value} {Q : Value → Shared → Prop} (ht : IsTup s.heap t vs.toArray) (hb : IsTup s.heap b ws.toArray) (hv : vs ≠ [])
    (h1 : ws = [] → Q (.ref t) s) (h2 : ws ≠ [] → Q (.ref s.heap.objs.size) { s with heap := s.heap.push { cls := .type "tuple", data := .seq (vs ++ ws).toArray } })
    (hsz : vs.length + ws.length ≤ sizeLine) : wpAny (model prog w) A (binaryOp .Add (.ref t) (.ref b)) Q E s := by
  obtain ⟨⟨cls, dd, data, sl⟩, ho, hc, n, hd⟩ := id ht
  obtain ⟨⟨cls2, dd2, data2, sl2⟩, ho2, hc2, n2, hd2⟩ := id hb
  simp only at hc hd hc2 hd2
  subst hc hd hc2 hd2
  have e : vs.toArray ++ ws.toArray = (vs ++ ws).toArray := by simp
  by_cases hw : ws = []
  · exact concat_meets ⟨_, ho, rfl⟩ ⟨_, ho2, rfl⟩ noFill_tuple_add seq_tuple_add PySem.F.slot_tuple_add PySem.F.entry_tuple_add (PySem.F.args_tuple_add_2 _ _)
      (tuple_addW1 t b vs.toArray ws.toArray n n2 dd dd2 sl sl2 (by simpa using hv) (by simp [hw])) ⟨ho, ho2, h1 hw⟩
  · refine concat_meets ⟨_, ho, rfl⟩ ⟨_, ho2, rfl⟩ noFill_tuple_add seq_tuple_add PySem.F.slot_tuple_add PySem.F.entry_tuple_add (PySem.F.args_tuple_add_2 _ _)
      (tuple_addW2 t b vs.toArray ws.toArray n n2 dd dd2 sl sl2 (by simpa using hv) (by simpa using hw) (by rw [List.size_toArray, List.size_toArray]; exact hsz)) ⟨ho, ho2, ?_⟩
    rw [e]
    exact h2 hw
def sIx (n d : Nat) : Option Int → Nat
  | none => d
  | some v => if v < 0 then (v + (n : Int)).toNat else min v.toNat n
end
end HT
namespace L2
open PySem PySem.Spec PyProof.Rows
abbrev TO := St → Hp → (Option Int → Hp → Prop) → Prop
def PO (X : Cx) (e : Option Expr) (t : TO) : Prop :=
  ∀ (pins : List (Addr × Obj)) (s : Shared) (σ : St) (H : Hp) (Q : Option Int → Hp → Prop), Inv X pins σ H s → t σ H Q →
    wpAny (model X.prog X.w) X.A (evalPart e X.env) (fun u s' => ∃ o H', Inv X pins σ H' s' ∧ IsPart u o ∧ Q o H') X.xe s
def tNoPart : TO := fun _ H Q => Q none H
def tPart (t : TE) : TO := fun σ H Q => t σ H fun x H1 => ∃ i, x = .int i ∧ Q (some i) H1
section
variable {X : Cx} {e : Expr} {te : TE} {lo hi : Option Expr} {tl th : TO} {pos p2 : Pos}
theorem po_none : PO X none tNoPart := by
  intro pins s σ H Q I h
  rw [evalPart_none]
  exact wpAny_pure ⟨none, H, I, .none, h⟩
theorem po_some (h : PE X e te) : PO X (some e) (tPart te) := by
  intro pins s σ H Q I hw
  rw [evalPart_some]
  refine thn (h pins s σ H _ I hw) fun u s1 ⟨x, H1, I1, r1, q1⟩ => ?_
  obtain ⟨i, rfl, q⟩ := q1
  obtain ⟨t, rfl⟩ := r1
  exact ⟨some i, H1, I1, .int i t, q⟩
def SlR (X : Cx) (r : V → Option Int → Option Int → Hp → VK → Prop) : Prop :=
  ∀ (pins : List (Addr × Obj)) (s : Shared) (σ : St) (H : Hp) (x : V) (v vl vu : Value) (lo hi : Option Int) (sl : Addr) (Q : VK), Inv X pins σ H s → RelV x v → s.heap.IsSliceOf sl vl vu .none → IsPart vl lo → IsPart vu hi → r x lo hi H Q →
    ∃ T id, typeLookup (.type T) "__getitem__" = pure (some (.builtin id)) ∧ s.TypeIs v T ∧ wpAny (model X.prog X.w) X.A (getItem v (.ref sl)) (EP X pins σ Q) X.xe s
def tSl (r : V → Option Int → Option Int → Hp → VK → Prop) (te : TE) (tl th : TO) : TE := fun σ H Q => te σ H fun x H1 => tl σ H1 fun l H2 => th σ H2 fun u H3 => r x l u H3 Q
theorem pe_slice {r : V → Option Int → Option Int → Hp → VK → Prop} (hr : SlR X r) (he : PE X e te) (hl : PO X lo tl) (hu : PO X hi th) : PE X (.Subscript e (.Slice lo hi none p2) pos) (tSl r te tl th) := by
  intro pins s σ H Q I h
  refine Subscript_ (thn (he pins s σ H _ I h) fun v s1 ⟨x, H1, I1, r1, q1⟩ => ?_)
  refine wpAny_Slice (thn (hl pins s1 σ H1 _ I1 q1) fun vl s2 ⟨l, H2, I2, pl, q2⟩ => thn (hu pins s2 σ H2 _ I2 q2) fun vu s3 ⟨u, H3, I3, pu, q3⟩ => ?_)
  rw [evalPart_none]
  refine wpAny_pure ?_
  have I4 : Inv X pins σ H3 { s3 with heap := s3.heap.push { cls := .type "slice", data := .fields #[vl, vu, .none] } } := I3.kept (t' := s3.toks) fun b ob q => Heap.get?_push_of_some _ q
  obtain ⟨T, id, hT, ht, hg⟩ := hr pins { s3 with heap := s3.heap.push { cls := .type "slice", data := .fields #[vl, vu, .none] } } σ H3 x v vl vu l u s3.heap.objs.size Q I4 r1 (Heap.IsSliceOf.new ..) pl pu q3
  show wpAny (model X.prog X.w) X.A (subscriptTail e (.Slice lo hi none p2) v (.ref s3.heap.objs.size)) (EP X pins σ Q) X.xe { s3 with heap := s3.heap.push { cls := .type "slice", data := .fields #[vl, vu, .none] } }
  exact tail_any (ops := [.ref s3.heap.objs.size, v]) ht hT hg (by with_unfolding_all rfl)
def cutV (xs : List V) (lo hi : Option Int) : List V := (xs.drop (HT.sIx xs.length 0 lo)).take (HT.sIx xs.length xs.length hi - HT.sIx xs.length 0 lo)
theorem cutV_length (xs : List V) (lo hi : Option Int) : (cutV xs lo hi).length ≤ xs.length := by
  unfold cutV
  rw [List.length_take, List.length_drop]
  omega
theorem Vals.nil_iff {xs : List V} {us : List Value} (r : Vals xs us) : us = [] ↔ xs = [] := by
  cases r with
  | nil => simp
  | cons _ _ => simp
end
end L2
namespace L2
open PySem PySem.Spec PyProof.Rows
def ixN (n : Nat) (i : Int) : Option Nat := if 0 ≤ i then (if i < n then some i.toNat else none) else if -(n : Int) ≤ i then some (i + n).toNat else none
def atI {α : Type} (xs : List α) (i : Int) : Option α := (ixN xs.length i).bind fun j => xs[j]?
theorem ixN_seq {n : Nat} {i : Int} {j : Nat} (h : ixN n i = some j) : seqIndex? i n = some j ∧ j < n ∧ -(n : Int) ≤ i ∧ i < n := by
  unfold ixN at h
  by_cases h0 : 0 ≤ i
  · rw [if_pos h0] at h
    by_cases h1 : i < n
    · rw [if_pos h1] at h
      have e : i.toNat = j := Option.some.inj h
      exact ⟨by rw [seqIndex_of h0 h1, e], by omega, by omega, h1⟩
    · rw [if_neg h1] at h; cases h
  · rw [if_neg h0] at h
    by_cases h1 : -(n : Int) ≤ i
    · rw [if_pos h1] at h
      have e : (i + n).toNat = j := Option.some.inj h
      exact ⟨by rw [seqIndex_neg (by omega) h1, e], by omega, h1, by omega⟩
    · rw [if_neg h1] at h; cases h
theorem atI_get {α : Type} {xs : List α} {i : Int} {v : α} (h : atI xs i = some v) : ∃ j, seqIndex? i xs.length = some j ∧ xs[j]? = some v ∧ j < xs.length ∧ -(xs.length : Int) ≤ i ∧ i < xs.length := by
  unfold atI at h
  cases e : ixN xs.length i with
  | none => rw [e] at h; cases h
  | some j =>
    rw [e] at h
    obtain ⟨h1, h2, h3, h4⟩ := ixN_seq e
    exact ⟨j, h1, h, h2, h3, h4⟩
theorem atI_nat {α : Type} {xs : List α} {j : Nat} {v : α} (h : xs[j]? = some v) : atI xs (j : Int) = some v := by
  have hj : j < xs.length := (List.getElem?_eq_some_iff.mp h).1
  have e : ixN xs.length (j : Int) = some j := by
    unfold ixN
    rw [if_pos (by exact Int.natCast_nonneg _), if_pos (by omega)]; simp
  unfold atI; rw [e]; exact h
def PlainIx (b : Expr) : Prop := ∀ o i, subscripted b false o i = operate [o, i] (getItem o i)
def IxR (X : Cx) (r : R2) : Prop :=
  ∀ (value slice : Expr) (pins : List (Addr × Obj)) (s : Shared) (σ : St) (H : Hp) (x y : V) (v u : Value) (Q : VK), Inv X pins σ H s → RelV x v → RelV y u → r x y H Q →
    subscripted slice false v u = operate [v, u] (getItem v u) → wpAny (model X.prog X.w) X.A (subscriptTail value slice v u) (EP X pins σ Q) X.xe s
def MtR (X : Cx) (id : String) (r : V → List V → Hp → VK → Prop) : Prop :=
  ∀ (pins : List (Addr × Obj)) (s : Shared) (σ : St) (H : Hp) (x : V) (xs : List V) (v : Value) (us : List Value) (Q : VK), Inv X pins σ H s → RelV x v → Vals xs us → r x xs H Q →
    wpAny (model X.prog X.w) X.A (call (.builtin id) (v :: us)) (EP X pins σ Q) X.xe s
section
variable {X : Cx} {a b : Expr} {ta tb : TE} {pos : Pos}
theorem pe_ix {r : R2} (hr : IxR X r) (ha : PE X a ta) (hb : PE X b tb) (hs : PlainIx b) : PE X (.Subscript a b pos) (tOp r ta tb) := by
  intro pins s σ H Q I h
  exact Subscript_ (binT ha hb I h fun v u s2 x y H2 I2 rx ry q => hr a b pins s2 σ H2 x y v u Q I2 rx ry q (hs _ _))
inductive RIxLP (K : PySem.W.Frag) (x : V) (y : V) (H : Hp) (Q : VK) : Prop
  | mk (p xs i v : _) : (x = .ref p) → (y = .int i) → (SqL K H p xs) → (atI xs i = some v) → (Q v H) → RIxLP K x y H Q
def rIxL (K : PySem.W.Frag) : R2 := fun x y H Q => RIxLP K x y H Q
inductive RIxTP (K : PySem.W.Frag) (x : V) (y : V) (H : Hp) (Q : VK) : Prop
  | mk (p xs i v : _) : (x = .ref p) → (y = .int i) → (SqT K H p xs) → (atI xs i = some v) → (Q v H) → RIxTP K x y H Q
def rIxT (K : PySem.W.Frag) : R2 := fun x y H Q => RIxTP K x y H Q
theorem ix_list : IxR X (rIxL X.K) := by
  intro value slice pins s σ H x y v u Q I rx ry h hs
  obtain ⟨p, xs, i, z, rfl, rfl, hq, he, q⟩ := h
  cases rx
  obtain ⟨t, rfl⟩ := ry
  obtain ⟨its, r, pl, hz⟩ := I.list hq
  obtain ⟨j, h1, h2, h3, h4, h5⟩ := atI_get he
  obtain ⟨w, ew, rw'⟩ := r.get h2
  have hl := r.length
  have hn := line63
  have fin : EP X pins σ Q w s := ⟨z, H, I, rw', q⟩
  by_cases h0 : 0 ≤ i
  · have hj : i.toNat = j := by
      rw [seqIndex_of h0 h5] at h1
      exact Option.some.inj h1
    exact item_listR pl.isList h0 (by omega) (by rw [hj]; simpa using ew) fin hs
  · have hj : (i + (its.toArray.size : Int)).toNat = j := by
      rw [seqIndex_neg (by omega) h4] at h1
      rw [List.size_toArray, ← hl]
      exact Option.some.inj h1
    exact subscriptTail_builtinR (x := w) pl.isList.typeIs slot_list_getitem.lookup
      (wpAny_getItem_list_neg (Q := fun r s' => r = w ∧ EP X pins σ Q r s') pl.isList (by omega) (by rw [List.size_toArray] <;> omega) (by omega) (by rw [hj]; simpa using ew) ⟨rfl, fin⟩) hs
theorem ix_tup : IxR X (rIxT X.K) := by
  intro value slice pins s σ H x y v u Q I rx ry h hs
  obtain ⟨p, xs, i, z, rfl, rfl, hq, he, q⟩ := h
  cases rx
  obtain ⟨t, rfl⟩ := ry
  obtain ⟨its, r, pl, hz⟩ := I.tuple hq
  obtain ⟨j, h1, h2, h3, h4, h5⟩ := atI_get he
  obtain ⟨w, ew, rw'⟩ := r.get h2
  have hl := r.length
  have hn := line63
  have fin : EP X pins σ Q w s := ⟨z, H, I, rw', q⟩
  exact subscriptTail_builtinR (x := w) pl.typeIs slot_tuple_getitem.lookup
    (getItem_tuple (j := j) (Q := fun r s' => r = w ∧ EP X pins σ Q r s') pl (by omega) (by omega) (by rw [List.size_toArray, ← hl]; exact h1) (by simpa using ew) ⟨rfl, fin⟩) hs
theorem mapSeq_set (its : List Value) (n j : Nat) (u : Value) : Obj.mapSeq (·.setIfInBounds j u) { cls := .type "list", data := .seq its.toArray n } = { cls := .type "list", data := .seq (its.set j u).toArray n } := by
  simp [Obj.mapSeq]
theorem Inv.lst {pins : List (Addr × Obj)} {σ : St} {H : Hp} {s : Shared} {p : Addr} {xs : List V} (I : Inv X pins σ H s) (h : H p = some (.lst xs)) :
    ∃ (its : List Value) (n : Nat), Vals xs its ∧ s.heap.get? p = some { cls := .type "list", data := .seq its.toArray n } ∧ xs.length ≤ sizeLine := by
  obtain ⟨z, its, n, r, e⟩ := I.hok p _ h
  exact ⟨its, n, r, e, z⟩
theorem Inv.lstUpd {pins : List (Addr × Obj)} {σ : St} {H : Hp} {s : Shared} {p : Addr} {xs ys : List V} {its its' : List Value} {n n' : Nat} {f : Obj → Obj} (I : Inv X pins σ H s) (h : H p = some (.lst xs))
    (ho : s.heap.get? p = some { cls := .type "list", data := .seq its.toArray n }) (hf : f { cls := .type "list", data := .seq its.toArray n } = { cls := .type "list", data := .seq its'.toArray n' }) (r : Vals ys its') (hz : ys.length ≤ sizeLine) (t : Nat) :
    Inv X pins σ (upd H p (.lst ys)) { s with heap := s.heap.update p f, toks := t } := by
  have e : (s.heap.update p f).get? p = some { cls := .type "list", data := .seq its'.toArray n' } := by
    rw [Heap.get?_update_self f ho (by rw [hf] <;> rfl), hf]
  refine I.write (x := p) (e := p) (by rw [h]; trivial) (.inl rfl) (fun b u hb q => (Heap.get?_update_other _ _ (Ne.symm hb)).trans q) ⟨_, e⟩ ?_
  exact ⟨hz, its', n', r, e⟩
inductive RSetLP (o : V) (i : V) (v : V) (H : Hp) (Q : (Hp → Prop)) : Prop
  | mk (p xs k j : _) : (o = .ref p) → (i = .int k) → (H p = some (.lst xs)) → (ixN xs.length k = some j) → (Q (upd H p (.lst (xs.set j v)))) → RSetLP o i v H Q
def rSetL : V → V → V → Hp → (Hp → Prop) → Prop := fun o i v H Q => RSetLP o i v H Q
theorem set_list : PSet X rSetL := by
  intro pins s σ H o i v ov iv u Q I ro ri rv h
  obtain ⟨p, xs, k, j, rfl, rfl, hp, hj, q⟩ := h
  cases ro
  obtain ⟨t, rfl⟩ := ri
  obtain ⟨its, n, r, ho, hz⟩ := I.lst hp
  obtain ⟨h1, h2, h3, h4⟩ := ixN_seq hj
  have hl := r.length
  have hn := line63
  have I' : Inv X pins σ (upd H p (.lst (xs.set j v))) { s with heap := s.heap.update p (Obj.mapSeq (·.setIfInBounds j u)) } :=
    I.lstUpd hp ho (mapSeq_set its n j u) (r.set rv j) (by rw [List.length_set]; exact hz) s.toks
  by_cases h0 : 0 ≤ k
  · have hk : k.toNat = j := by
      rw [seqIndex_of h0 h4] at h1
      exact Option.some.inj h1
    exact PySem.W.ki_setAt ho h0 (by omega) (by rw [List.size_toArray, ← hl]; exact h4) (by rw [hk]; exact ⟨_, I', q⟩)
  · have hk : (k + (its.toArray.size : Int)).toNat = j := by
      rw [seqIndex_neg (by omega) h3] at h1
      rw [List.size_toArray, ← hl]
      exact Option.some.inj h1
    exact PySem.W.ki_setBack ho (by omega) (by rw [List.size_toArray, ← hl]; exact h3) (by omega) (by rw [hk]; exact ⟨_, I', q⟩)
theorem slice_bounds (lo hi : Option Int) (n : Nat) : (sliceBounds lo hi none n).1 = ((HT.sIx n 0 lo : Nat) : Int) ∧ (sliceBounds lo hi none n).2.1 = ((HT.sIx n n hi : Nat) : Int) ∧ (sliceBounds lo hi none n).2.2 = 1 := by
  refine ⟨?_, ?_, rfl⟩
  · cases lo with
    | none => simp [sliceBounds, HT.sIx]
    | some i =>
      simp only [sliceBounds, HT.sIx, Option.getD_none, show (1 : Int) > 0 by decide, if_true]
      by_cases h : i < 0
      · simp only [h, if_true] <;> omega
      · simp only [h, if_false] <;> omega
  · cases hi with
    | none => simp [sliceBounds, HT.sIx]
    | some i =>
      simp only [sliceBounds, HT.sIx, Option.getD_none, show (1 : Int) > 0 by decide, if_true]
      by_cases h : i < 0
      · simp only [h, if_true] <;> omega
      · simp only [h, if_false] <;> omega
theorem slicePick_cut (its : List Value) (lo hi : Option Int) : slicePick its.toArray lo hi none = ((its.drop (HT.sIx its.length 0 lo)).take (HT.sIx its.length its.length hi - HT.sIx its.length 0 lo)).toArray := by
  obtain ⟨h1, h2, h3⟩ := slice_bounds lo hi its.toArray.size
  unfold slicePick
  rw [h1, h2, h3]
  simp only [sliceRange_one, pick_run, List.size_toArray] <;> rfl
inductive RSlLP (K : PySem.W.Frag) (x : V) (lo : Option Int) (hi : Option Int) (H : Hp) (Q : VK) : Prop
  | mk (a xs : _) : (x = .ref a) → (SqL K H a xs) → (∀ p, H p = none → Q (.ref p) (upd H p (.lst (cutV xs lo hi)))) → RSlLP K x lo hi H Q
def rSlL (K : PySem.W.Frag) : V → Option Int → Option Int → Hp → VK → Prop := fun x lo hi H Q => RSlLP K x lo hi H Q
theorem sl_list : SlR X (rSlL X.K) := by
  intro pins s σ H x v vl vu lo hi sl Q I rx hs pl pu h
  obtain ⟨a, xs, rfl, hx, q⟩ := h
  cases rx
  obtain ⟨its, r, ht, hz⟩ := I.list hx
  have hlen := r.length
  refine ⟨"list", _, slot_list_getitem.lookup, ht.isList.typeIs, ?_⟩
  refine wpAny_getItem_list_slice ht.isList hs pl pu .none (by simp) ?_ (by rw [List.size_toArray] <;> omega)
  rw [slicePick_cut, ← hlen]
  refine ⟨.ref s.heap.objs.size, _, I.laid (t' := s.toks) (o := .lst (cutV xs lo hi)) (fun b ob q => Heap.get?_push_of_some _ q) (Nat.le_refl _) ?_, rfl, q _ (I.hok.fresh (Nat.le_refl _))⟩
  exact ⟨Nat.le_trans (cutV_length xs lo hi) hz, _, 0, (r.drop (HT.sIx xs.length 0 lo)).take (HT.sIx xs.length xs.length hi - HT.sIx xs.length 0 lo), Heap.get?_push_size _ rfl⟩
def flatV : V → Bool
  | .non => true
  | .bl _ => true
  | .int _ => true
  | .str _ => true
  | _ => false
def eqV : V → V → Bool
  | .non, .non => true
  | .bl a, .bl b => a == b
  | .bl a, .int b => (if a then 1 else 0) == b
  | .int a, .bl b => a == (if b then 1 else 0)
  | .int a, .int b => a == b
  | .str a, .str b => a == b
  | _, _ => false
theorem eqAt_V {A : Around} {s : Shared} {y x : V} {u v : Value} (ry : RelV y u) (rx : RelV x v) (fy : flatV y = true) (fx : flatV x = true) : SeqAt.EqAt A s u v (eqV y x) := by
  cases y with
  | non =>
    cases ry
    cases x with
    | non => cases rx; exact SeqAt.EqAt.same _
    | bl b => cases rx; exact SeqAt.EqAt.none_bool b
    | int b => obtain ⟨t, rfl⟩ := rx; exact SeqAt.EqAt.none_int b t
    | str b => obtain ⟨t, rfl⟩ := rx; exact SeqAt.EqAt.none_str b t
    | _ => exact absurd (show false = true from fx) Bool.false_ne_true
  | bl a =>
    cases ry
    cases x with
    | non => cases rx; exact SeqAt.EqAt.bool_none a
    | bl b => cases rx; exact SeqAt.EqAt.bool_bool a b
    | int b => obtain ⟨t, rfl⟩ := rx; exact SeqAt.EqAt.bool_int a b t
    | str b => obtain ⟨t, rfl⟩ := rx; exact SeqAt.EqAt.bool_str a b t
    | _ => exact absurd (show false = true from fx) Bool.false_ne_true
  | int a =>
    obtain ⟨t', rfl⟩ := ry
    cases x with
    | non => cases rx; exact SeqAt.EqAt.int_none a t'
    | bl b => cases rx; exact SeqAt.EqAt.int_bool a t' b
    | int b => obtain ⟨t, rfl⟩ := rx; exact SeqAt.EqAt.int_int a t' b t
    | str b => obtain ⟨t, rfl⟩ := rx; exact SeqAt.EqAt.int_str a t' b t
    | _ => exact absurd (show false = true from fx) Bool.false_ne_true
  | str a =>
    obtain ⟨t', rfl⟩ := ry
    cases x with
    | non => cases rx; exact SeqAt.EqAt.str_none a t'
    | bl b => cases rx; exact SeqAt.EqAt.str_bool a t' b
    | int b => obtain ⟨t, rfl⟩ := rx; exact SeqAt.EqAt.str_int a t' b t
    | str b => obtain ⟨t, rfl⟩ := rx; exact SeqAt.EqAt.str_str a t' b t
    | _ => exact absurd (show false = true from fx) Bool.false_ne_true
  | _ => exact absurd (show false = true from fy) Bool.false_ne_true
def eqU (x : V) (u : Value) : Bool := match u with
  | .none => eqV .non x
  | .bool b => eqV (.bl b) x
  | .int i _ => eqV (.int i) x
  | .str z _ => eqV (.str z) x
  | _ => false
theorem eqU_of {x y : V} {u : Value} (r : RelV y u) (f : flatV y = true) : eqU x u = eqV y x := by
  cases y with
  | non => cases r; rfl
  | bl b => cases r; rfl
  | int i => obtain ⟨t, rfl⟩ := r; rfl
  | str z => obtain ⟨t, rfl⟩ := r; rfl
  | _ => exact absurd (show false = true from f) Bool.false_ne_true
theorem any_eqU {x : V} : ∀ {xs : List V} {us : List Value}, Vals xs us → xs.all flatV = true → us.any (eqU x) = xs.any fun y => eqV y x
  | _, _, .nil, _ => rfl
  | y :: xs, u :: us, .cons r t, f => by
    rw [List.all_cons, Bool.and_eq_true] at f
    rw [List.any_cons, List.any_cons, eqU_of r f.1, any_eqU t f.2]
theorem mem_eqAt {A : Around} {s : Shared} {x : V} {v : Value} (rx : RelV x v) (fx : flatV x = true) : ∀ {xs : List V} {us : List Value}, Vals xs us → xs.all flatV = true → ∀ u ∈ us, SeqAt.EqAt A s u v (eqU x u)
  | _, _, .nil, _ => fun u hu => by cases hu
  | y :: xs, u :: us, .cons r t, f => fun u' hu => by
    rw [List.all_cons, Bool.and_eq_true] at f
    rcases List.mem_cons.mp hu with rfl | hu
    · rw [eqU_of r f.1]; exact eqAt_V r rx f.1 fx
    · exact mem_eqAt rx fx t f.2 u' hu
def inV (x : V) (xs : List V) : Bool := xs.any fun y => eqV y x
inductive RInP (K : PySem.W.Frag) (neg : Bool) (x : V) (y : V) (H : Hp) (Q : VK) : Prop
  | mk (p xs : _) : (y = .ref p) → ((SqL K H p xs ∨ SqT K H p xs)) → (flatV x = true) → (xs.all flatV = true) → (Q (.bl (if neg then !inV x xs else inV x xs)) H) → RInP K neg x y H Q
def rIn (K : PySem.W.Frag) (neg : Bool) : R2 := fun x y H Q => RInP K neg x y H Q
theorem op_in_seq : OpR X (compareOp .In) (rIn X.K false) := by
  intro pins s σ H x y v u Q I rx ry h
  obtain ⟨p, xs, rfl, hq, fx, fs, q⟩ := h
  cases ry
  rcases hq with hq | hq
  · obtain ⟨its, r, pl, hz⟩ := I.list hq
    refine SeqAt.in_listAt (eqU x) pl.isList (fun w hw => mem_eqAt rx fx r fs w (by simpa using hw)) ⟨.bl _, H, I, rfl, ?_⟩
    rw [show its.toArray.any (eqU x) = its.any (eqU x) by simp, any_eqU r fs]
    exact q
  · obtain ⟨its, r, pl, hz⟩ := I.tuple hq
    refine SeqAt.in_tupleAt (eqU x) pl (fun w hw => mem_eqAt rx fx r fs w (by simpa using hw)) ⟨.bl _, H, I, rfl, ?_⟩
    rw [show its.toArray.any (eqU x) = its.any (eqU x) by simp, any_eqU r fs]
    exact q
theorem call_len_seq : CallR X (.builtin "len") (fun xs H Q => ∃ p ys, xs = [.ref p] ∧ (SqL X.K H p ys ∨ SqT X.K H p ys) ∧ Q (.int ys.length) H) := by
  intro pins s σ H xs us Q I r h
  obtain ⟨p, ys, rfl, hq, q⟩ := h
  obtain ⟨u, rfl, rx⟩ := vals1 r
  cases rx
  have hn := line63
  rcases hq with hq | hq
  · obtain ⟨its, r', pl, hz⟩ := I.list hq
    have hlen := r'.length
    exact Calls.call_len_list pl.isList (by simp only [List.size_toArray] <;> omega) ⟨.int ys.length, H, I.tok _, ⟨s.toks + 1, by rw [List.size_toArray, hlen]⟩, q⟩
  · obtain ⟨its, r', pl, hz⟩ := I.tuple hq
    have hlen := r'.length
    exact len_tuple pl (by simp only [List.size_toArray] <;> omega) ⟨.int ys.length, H, I.tok _, ⟨s.toks + 1, by rw [List.size_toArray, hlen]⟩, q⟩
theorem call_list_of : CallR X (.type "list") (fun xs H Q => ∃ p ys, xs = [.ref p] ∧ (SqL X.K H p ys ∨ SqT X.K H p ys) ∧ ∀ l, H l = none → Q (.ref l) (upd H l (.lst ys))) := by
  intro pins s σ H xs us Q I r h
  obtain ⟨p, ys, rfl, hq, q⟩ := h
  obtain ⟨u, rfl, rx⟩ := vals1 r
  cases rx
  have fin : ∀ (its : List Value), Vals ys its → ys.length ≤ sizeLine → ∀ (h' : Heap) (c' : Nat), (∀ b o', s.heap.get? b = some o' → h'.get? b = some o') →
      h'.get? s.heap.objs.size = some { cls := .type "list", dict := none, data := .seq its.toArray c', slots := #[] } → EP X pins σ Q (.ref s.heap.objs.size) { s with heap := h' } := fun its r' hz h' c' kp e =>
    ⟨.ref s.heap.objs.size, _, I.laid (t' := s.toks) kp (Nat.le_refl _) (show ObjOk X.prog X.w _ h' _ (.lst ys) from ⟨hz, its, c', r', e⟩), rfl, q _ (I.hok.fresh (Nat.le_refl _))⟩
  rcases hq with hq | hq
  · obtain ⟨its, r', pl, hz⟩ := I.list hq
    have hlen := r'.length
    obtain ⟨o, ho, hc, n, hd⟩ := pl.isList
    exact call_list_seq p (.inl rfl) ho hc hd (fun h' c' kp e => fin its r' hz h' c' kp e) (by simp only [List.size_toArray] <;> omega)
  · obtain ⟨its, r', pl, hz⟩ := I.tuple hq
    have hlen := r'.length
    obtain ⟨o, ho, hc, n, hd⟩ := pl
    exact call_list_seq p (.inr rfl) ho hc hd (fun h' c' kp e => fin its r' hz h' c' kp e) (by simp only [List.size_toArray] <;> omega)
theorem call_tuple_of : CallR X (.type "tuple") (fun xs H Q => ∃ p ys, xs = [.ref p] ∧ ((SqL X.K H p ys ∧ ∀ l, H l = none → Q (.ref l) (upd H l (.tup ys))) ∨ (SqT X.K H p ys ∧ Q (.ref p) H))) := by
  intro pins s σ H xs us Q I r h
  obtain ⟨p, ys, rfl, h⟩ := h
  obtain ⟨u, rfl, rx⟩ := vals1 r
  cases rx
  rcases h with ⟨hq, q⟩ | ⟨hq, q⟩
  · obtain ⟨its, r', pl, hz⟩ := I.list hq
    have hlen := r'.length
    refine call_tuple_list pl.isList (fun h' kp => ?_) (by simp only [List.size_toArray] <;> omega)
    have I1 : Inv X pins σ H { s with heap := h' } := I.kept (t' := s.toks) kp
    have I2 : Inv X pins σ (upd H h'.objs.size (.tup ys)) { s with heap := h'.push { cls := .type "tuple", data := .seq its.toArray } } :=
      I1.laid (t' := s.toks) (fun b o e => Heap.get?_push_of_some _ e) (Nat.le_refl _) (show ObjOk X.prog X.w _ _ _ (.tup ys) from ⟨hz, its, r', IsTupN.new _ _⟩)
    exact ⟨.ref h'.objs.size, _, I2, rfl, q _ (I1.hok.fresh (Nat.le_refl _))⟩
  · obtain ⟨its, r', pl, hz⟩ := I.tuple hq
    exact call_tuple_same pl ⟨.ref p, H, I, rfl, q⟩
def tyV (K : PySem.W.Frag) (T : String) (x : V) (H : Hp) : Prop := match x with
  | .str _ => T = "str"
  | .int _ => T = "int"
  | .ref p => (T = "list" ∧ ∃ xs, SqL K H p xs) ∨ (T = "tuple" ∧ ((∃ o, K.lookup p = some o ∧ o.cls = .type "tuple" ∧ o.dict = none) ∨ ∃ xs, H p = some (.tup xs))) ∨
      (T = "dict" ∧ ((∃ kvs, H p = some (.dK kvs)) ∨ ∃ kvs, H p = some (.dT kvs))) ∨ (T = "set" ∧ ∃ S n, H p = some (.set S n))
  | _ => False
theorem tyV_is {pins : List (Addr × Obj)} {σ : St} {H : Hp} {s : Shared} {T : String} {x : V} {v : Value} (I : Inv X pins σ H s) (r : RelV x v) (ty : tyV X.K T x H) :
    s.TypeIs v T ∧ ∀ a, v = .ref a → ∃ ob, s.heap.get? a = some ob ∧ ob.dict = none := by
  cases x with
  | str z =>
    obtain ⟨t, rfl⟩ := r
    cases (show T = "str" from ty)
    exact ⟨typeIs_str s z t, fun _ e => nomatch e⟩
  | int i =>
    obtain ⟨t, rfl⟩ := r
    cases (show T = "int" from ty)
    exact ⟨typeIs_int s i t, fun _ e => nomatch e⟩
  | ref p =>
    cases r
    rcases ty with ⟨rfl, xs, hq⟩ | ⟨rfl, ⟨o, hk, hc, hd⟩ | ⟨xs, hx⟩⟩ | ⟨rfl, hk⟩ | ⟨rfl, S, n, hk⟩
    · obtain ⟨its, _, pl, _⟩ := I.list hq
      refine ⟨pl.isList.typeIs, fun a e => ?_⟩
      cases e
      obtain ⟨o, n, e, c, hd, _⟩ := pl
      exact ⟨o, e, hd⟩
    · refine ⟨⟨o, I.kIn p o hk, hc⟩, fun a e => ?_⟩
      cases e
      exact ⟨o, I.kIn _ o hk, hd⟩
    · obtain ⟨_, _, _, o, e, c, d, _⟩ := (show ObjOk X.prog X.w H s.heap p (.tup xs) from I.hok p _ hx)
      refine ⟨⟨o, e, c⟩, fun a e2 => ?_⟩
      cases e2
      exact ⟨o, e, d⟩
    · have z : ∃ o, s.heap.get? p = some o ∧ o.ExactDict := by
        rcases hk with ⟨kvs, hk⟩ | ⟨kvs, hk⟩
        · obtain ⟨_, _, _, _, o, _, _, e, ex, _⟩ := I.hok p _ hk
          exact ⟨o, e, ex⟩
        · obtain ⟨_, _, _, _, o, _, _, e, ex, _⟩ := I.hok p _ hk
          exact ⟨o, e, ex⟩
      obtain ⟨o, e, ex⟩ := z
      refine ⟨⟨o, e, ex.1⟩, fun a e2 => ?_⟩
      cases e2
      exact ⟨o, e, ex.2.1⟩
    · obtain ⟨o, _, _, _, e, ex, _⟩ := I.hok p _ hk
      refine ⟨⟨o, e, ex.1⟩, fun a e2 => ?_⟩
      cases e2
      exact ⟨o, e, ex.2.1⟩
  | _ => exact False.elim ty
def tBM (K : PySem.W.Frag) (T : String) (r : V → List V → Hp → VK → Prop) (to : TE) (t : TA) : TE := fun σ H Q => to σ H fun x H1 => tyV K T x H1 ∧ t σ H1 fun xs H2 => r x xs H2 Q
variable {o e : Expr} {es : List Expr} {to : TE} {t : TA} {name : Str} {apos cpos : Pos} {T id : String} {r : V → List V → Hp → VK → Prop}
theorem pe_bm (pa : PlainAttrs T) (slot : Slot T name id) (hty : typeOf (.builtin id) = pure (.type "method_descriptor")) (hm : MtR X id r) (ho : PE X o to) (ha : PA X (e :: es) t)
    (hbase : attributeBase o name X.env (eval o X.env) = eval o X.env := by rfl)
    (hfew : ((backTo cpos (starEach (e :: es) X.env)).all (fun x => !x.1) && (backToKw cpos (keywordEach [] X.env)).all (fun x => x.1.isSome)
      && decide ((e :: es).length + ([] : List Keyword).length + (if ([] : List Keyword).isEmpty then 0 else 1) < 30)) = true := by rfl)
    (hline : (apos.endLine == cpos.line) = true := by rfl) (hs : starEach (e :: es) X.env = (false, eval e X.env) :: starEach es X.env := by rfl) (hplain : (backTo cpos (starEach es X.env)).any (·.1) = false := by rfl) :
    PE X (.Call (.Attribute o name apos) (e :: es) [] cpos) (tBM X.K T r to t) := by
  intro pins s σ H Q I h
  refine wpAny_Call_method_late hbase hfew hline rfl (thn (ho pins s σ H _ I h) fun v s1 ⟨x, H1, I1, r1, ty, q1⟩ => ?_)
  obtain ⟨h1, h2⟩ := tyV_is I1 r1 ty
  refine ⟨T, id, pa, slot, hty, h1, h2, ?_⟩
  have hA := ha cpos pins s1 σ H1 _ I1 q1
  rw [hs] at hA ⊢
  refine Calls.callWith_builtin (by show (false || (backTo cpos (starEach es X.env)).any (·.1)) = false; rw [hplain] <;> rfl) (Calls.evalArgs_plain ?_)
  exact thn hA fun us s2 ⟨vs, H2, I2, r2, q2⟩ => hm pins s2 σ H2 x vs v us Q I2 r1 r2 q2
end
end L2
namespace L2
open PySem PySem.Spec PyProof.Rows
def MtM (X : Cx) (id : String) (r : V → List V → Hp → VK → Prop) : Prop :=
  ∀ (pins : List (Addr × Obj)) (s : Shared) (σ : St) (H : Hp) (x : V) (xs : List V) (v : Value) (us : List Value) (Q : VK), Inv X pins σ H s → RelV x v → Vals xs us → r x xs H Q →
    wpAny (model X.prog X.w) X.A (call (.builtin id) (v :: us)) (EP X pins σ Q) X.xe s
theorem Vals.one : ∀ {x : V} {us : List Value}, Vals [x] us → ∃ u, us = [u] ∧ RelV x u
  | _, _, .cons r .nil => ⟨_, rfl, r⟩
theorem Vals.eraseIdx : ∀ {xs : List V} {us : List Value} (i : Nat), Vals xs us → Vals (xs.eraseIdx i) (us.eraseIdx i)
  | _, _, _, .nil => .nil
  | _, _, 0, .cons _ t => t
  | _, _, i + 1, .cons r t => .cons r (Vals.eraseIdx i t)
theorem Vals.reverse {xs : List V} {us : List Value} (h : Vals xs us) : Vals xs.reverse us.reverse := by
  induction h with
  | nil => exact .nil
  | cons r t ih => rw [List.reverse_cons, List.reverse_cons]; exact Vals.append ih (.cons r .nil)
theorem Vals.rep {xs : List V} {us : List Value} (h : Vals xs us) : ∀ k : Nat, Vals (List.replicate k xs).flatten (List.replicate k us).flatten
  | 0 => .nil
  | k + 1 => by
    rw [List.replicate_succ, List.replicate_succ, List.flatten_cons, List.flatten_cons]
    exact Vals.append h (Vals.rep h k)
theorem foldl_rep (its : List Value) : ∀ (k : Nat) (acc : List Value),
    List.foldl (fun x1 x2 => x1 ++ x2) acc.toArray (List.replicate k its.toArray) = (acc ++ (List.replicate k its).flatten).toArray
  | 0, acc => by simp
  | k + 1, acc => by
    have e : acc.toArray ++ its.toArray = (acc ++ its).toArray := by simp
    have e2 : (acc ++ its) ++ (List.replicate k its).flatten = acc ++ (List.replicate (k + 1) its).flatten := by
      rw [List.replicate_succ, List.flatten_cons, List.append_assoc]
    rw [← e2, ← foldl_rep its k (acc ++ its), ← e, List.replicate_succ, List.foldl_cons]
section
variable {X : Cx} {pins : List (Addr × Obj)} {σ : St} {H : Hp} {s : Shared} {l b : Addr} {xs ys zs : List V}
theorem Inv.lset {its its' : List Value} {n : Nat} {f : Array Value → Array Value} {t' : Nat} (I : Inv X pins σ H s) (hH : H l = some (.lst xs))
    (e : s.heap.get? l = some { cls := .type "list", data := .seq its.toArray n }) (hf : f its.toArray = its'.toArray) (hv : Vals ys its') (hz : ys.length ≤ sizeLine) :
    Inv X pins σ (upd H l (.lst ys)) { s with heap := s.heap.update l (Obj.mapSeq f), toks := t' } := by
  have q := PySem.IsL.update e f
  rw [hf] at q
  refine I.write (x := l) (e := l) (by rw [hH]; exact trivial) (.inl rfl) (fun b' u hb hu => (Heap.get?_update_other s.heap (Obj.mapSeq f) (Ne.symm hb)).trans hu) ⟨_, q⟩ ?_
  exact ⟨hz, its', _, hv, q⟩
theorem Inv.lnew {its : List Value} {t' : Nat} (I : Inv X pins σ H s) (hv : Vals ys its) (hz : ys.length ≤ sizeLine) :
    Inv X pins σ (upd H s.heap.objs.size (.lst ys)) { s with heap := s.heap.push { cls := .type "list", data := .seq its.toArray }, toks := t' } :=
  I.laid (fun _ _ q => Heap.get?_push_of_some _ q) (Nat.le_refl _) ⟨hz, its, 0, hv, Heap.get?_push_size _ rfl⟩
theorem Inv.fresh (I : Inv X pins σ H s) : H s.heap.objs.size = none := I.hok.fresh (Nat.le_refl _)
theorem Inv.lstM (I : Inv X pins σ H s) (hH : H l = some (.lst xs)) : xs.length ≤ sizeLine ∧ ∃ (its : List Value) (n : Nat), Vals xs its ∧ xs.length = its.length ∧ s.heap.get? l = some { cls := .type "list", data := .seq its.toArray n } := by
  obtain ⟨z, its, n, r, e⟩ := I.hok l _ hH
  exact ⟨z, its, n, r, r.length, e⟩
theorem notLongL {n : Nat} (h : n ≤ sizeLine) : Builtin.List.listTooLong n = false := by
  unfold Builtin.List.listTooLong
  exact decide_eq_false (by omega)
end
section
variable {X : Cx}
inductive RAppendP (x : V) (vs : List V) (H : Hp) (Q : VK) : Prop
  | mk (l xs y : _) : (x = .ref l) → (vs = [y]) → (H l = some (.lst xs)) → (xs.length < sizeLine) → (Q .non (upd H l (.lst (xs ++ [y])))) → RAppendP x vs H Q
def rAppend : V → List V → Hp → VK → Prop := fun x vs H Q => RAppendP x vs H Q
theorem mt_append : MtM X "list.append" rAppend := by
  intro pins s σ H x vs v us Q I rx rv h
  obtain ⟨l, xs, y, rfl, rfl, hH, hz, q⟩ := h
  cases rx
  obtain ⟨u, rfl, ru⟩ := rv.one
  obtain ⟨z, its, n, r, hl, e⟩ := I.lstM hH
  refine call_meets F.slot_list_append ⟨_, e, rfl⟩ F.entry_list_append (F.args_list_append_2 _ _) (PySem.list_append l its.toArray n u (by rw [List.size_toArray]; omega)) ⟨e, ?_⟩
  refine ⟨.non, _, I.lset (its' := its ++ [u]) hH e (by simp) (r.append (.cons ru .nil)) ?_, rfl, q⟩
  rw [List.length_append, List.length_singleton]
  assumption
inductive RExtendP (x : V) (vs : List V) (H : Hp) (Q : VK) : Prop
  | mk (l b xs zs : _) : (x = .ref l) → (vs = [.ref b]) → (H l = some (.lst xs)) → (H b = some (.lst zs)) → (xs.length + zs.length ≤ sizeLine) → (Q .non (upd H l (.lst (xs ++ zs)))) → RExtendP x vs H Q
def rExtend : V → List V → Hp → VK → Prop := fun x vs H Q => RExtendP x vs H Q
theorem mt_extend : MtM X "list.extend" rExtend := by
  intro pins s σ H x vs v us Q I rx rv h
  obtain ⟨l, b, xs, zs, rfl, rfl, hH, hB, hz, q⟩ := h
  cases rx
  obtain ⟨u, rfl, ru⟩ := rv.one
  cases ru
  obtain ⟨z, its, n, r, hl, e⟩ := I.lstM hH
  obtain ⟨z2, its2, n2, r2, hl2, e2⟩ := I.lstM hB
  have hsz : its.toArray.size + its2.toArray.size ≤ sizeLine := by rw [List.size_toArray, List.size_toArray]; omega
  have hlong : ¬ (!its.toArray.isEmpty && Builtin.List.listTooLong (its.toArray.size + its2.toArray.size)) = true := by
    rw [notLongL hsz, Bool.and_false]
    exact Bool.false_ne_true
  refine call_meets F.slot_list_extend ⟨_, e, rfl⟩ F.entry_list_extend (F.args_list_extend_2 _ _)
    (AutoSeq1.list_extend_list_list_0 l its.toArray n b its2.toArray n2 hlong (by rw [List.size_toArray]; omega) (by exact Nat.le_trans (by assumption) (by decide))) ⟨e, e2, ?_⟩
  refine ⟨.non, _, I.lset (its' := its ++ its2) hH e (by simp) (r.append r2) ?_, rfl, q⟩
  rw [List.length_append]
  assumption
inductive RCatP (x : V) (y : V) (H : Hp) (Q : VK) : Prop
  | mk (l b xs zs : _) : (x = .ref l) → (y = .ref b) → (H l = some (.lst xs)) → (H b = some (.lst zs)) → (xs.length + zs.length ≤ sizeLine) → (∀ p, H p = none → Q (.ref p) (upd H p (.lst (xs ++ zs)))) → RCatP x y H Q
def rCat : R2 := fun x y H Q => RCatP x y H Q
theorem op_cat : OpR X (binaryOp .Add) rCat := by
  intro pins s σ H x y v u Q I rx ry h
  obtain ⟨l, b, xs, zs, rfl, rfl, hH, hB, hz, q⟩ := h
  cases rx
  cases ry
  obtain ⟨z, its, n, r, hl, e⟩ := I.lstM hH
  obtain ⟨z2, its2, n2, r2, hl2, e2⟩ := I.lstM hB
  refine PySem.P.add_list e e2 ?_ (by rw [List.size_toArray, List.size_toArray]; omega)
  have ea : its.toArray ++ its2.toArray = (its ++ its2).toArray := by simp
  rw [ea]
  exact ⟨.ref _, _, I.lnew (t' := s.toks) (r.append r2) (by rw [List.length_append]; assumption), rfl, q _ I.fresh⟩
inductive RRepP (x : V) (y : V) (H : Hp) (Q : VK) : Prop
  | mk (l k xs : _) : (x = .ref l) → (y = .int k) → (H l = some (.lst xs)) → (-(2 ^ 63) ≤ k) → (k < 2 ^ 63) → (xs.length * k.toNat ≤ sizeLine) → (∀ p, H p = none → Q (.ref p) (upd H p (.lst (List.replicate k.toNat xs).flatten))) → RRepP x y H Q
def rRep : R2 := fun x y H Q => RRepP x y H Q
theorem len_rep {α : Type} (xs : List α) (k : Nat) : (List.replicate k xs).flatten.length = k * xs.length := by
  induction k with
  | zero => simp
  | succ k ih => rw [List.replicate_succ, List.flatten_cons, List.length_append, ih, Nat.succ_mul, Nat.add_comm]
theorem op_rep : OpR X (binaryOp .Mult) rRep := by
  intro pins s σ H x y v u Q I rx ry h
  obtain ⟨l, k, xs, rfl, rfl, hH, h1, h2, hz, q⟩ := h
  cases rx
  obtain ⟨t, rfl⟩ := ry
  obtain ⟨z, its, n, r, hl, e⟩ := I.lstM hH
  have hlen : its.toArray.size * k.toNat ≤ sizeLine := by rw [List.size_toArray, ← hl]; exact hz
  have hcap : ¬ its.toArray.size * k.toNat > (2 ^ 63 - 1) / 8 := by
    have : (sizeLine : Nat) ≤ (2 ^ 63 - 1) / 8 := by decide
    omega
  have hfit : ¬ (!Builtin.List.listFitsIndex k) = true := by
    rw [fitsIndex_both h1 h2]
    exact Bool.false_ne_true
  have hlong : ¬ Builtin.List.listTooLong (its.toArray.size * k.toNat) = true := by
    rw [notLongL hlen]
    exact Bool.false_ne_true
  have hnew : List.foldl (fun x1 x2 => x1 ++ x2) #[] (List.replicate (if its.toArray.isEmpty = true then 0 else k.toNat) its.toArray) = (List.replicate k.toNat its).flatten.toArray := by
    have f0 : ∀ m : Nat, List.foldl (fun x1 x2 => x1 ++ x2) #[] (List.replicate m its.toArray) = (List.replicate m its).flatten.toArray := fun m => by
      have := foldl_rep its m []
      rw [List.nil_append] at this
      exact this
    rw [f0]
    cases its with
    | nil => simp
    | cons a r' => rw [if_neg (by simp)]
  refine wpAny_binaryOp_repeat_ref (T := "list") (U := "int") (by decide) ⟨_, e, rfl⟩ (fun s' => typeIs_int s' k t) noFill_list_mul F.fills_int_mul F.slot_int_rmul repeat_list F.slot_int_index.lookup
    (call_meets F.slot_int_rmul (typeIs_int s k t) F.entry_int_rmul (F.args_int_rmul_2 _ _) (int___rmul___int_list k t l its.toArray n)
      ⟨e, rfl, ⟨_, e, rfl⟩, call_meets F.slot_list_mul ⟨_, e, rfl⟩ F.entry_list_mul (F.args_list_mul_2 _ _) (AutoListH.list___mul___list_int_3 l its.toArray n k t hfit hcap hlong) ⟨e, ?_⟩⟩)
  rw [hnew]
  exact ⟨.ref _, _, I.lnew (t' := s.toks) (r.rep k.toNat) (by rw [len_rep, Nat.mul_comm]; exact hz), rfl, q _ I.fresh⟩
end
end L2
namespace L2
open PySem PySem.Spec PyProof.Rows
section
variable {κ : Type} [DecidableEq κ]
def valV (kvs : List (κ × V)) (k : κ) : Option V := (kvs.find? fun kv => decide (kv.1 = k)).map (·.2)
def putK (kvs : List (κ × V)) (k : κ) (v : V) : List (κ × V) :=
  if (kvs.any fun kv => decide (kv.1 = k)) = true then kvs.map (fun kv => if kv.1 = k then (kv.1, v) else kv) else kvs ++ [(k, v)]
theorem valV_pos {p : κ × V} {r : List (κ × V)} {k : κ} (e : p.1 = k) : valV (p :: r) k = some p.2 := by simp [valV, List.find?_cons, e]
theorem valV_neg {p : κ × V} {r : List (κ × V)} {k : κ} (e : ¬ p.1 = k) : valV (p :: r) k = valV r k := by simp [valV, List.find?_cons, e]
theorem valV_any (k : κ) : ∀ kvs : List (κ × V), (kvs.any fun kv => decide (kv.1 = k)) = (valV kvs k).isSome
  | [] => rfl
  | p :: r => by
    rw [List.any_cons]
    by_cases e : p.1 = k
    · simp only [valV_pos e, decide_eq_true e, Bool.true_or, Option.isSome_some]
    · rw [valV_neg e, decide_eq_false e, Bool.false_or]; exact valV_any k r
theorem length_putK (kvs : List (κ × V)) (k : κ) (v : V) : (putK kvs k v).length ≤ kvs.length + 1 := by
  unfold putK
  split
  · rw [List.length_map]; exact Nat.le_add_right _ _
  · rw [List.length_append, List.length_cons, List.length_nil]; exact Nat.add_le_add_left (by decide) _
theorem RelO.isSome_eq {o : Option V} {u : Option Value} (r : RelO o u) : o.isSome = u.isSome := by
  cases o with
  | none => cases u with
    | none => rfl
    | some _ => exact (show False from r).elim
  | some _ => cases u with
    | none => exact (show False from r).elim
    | some _ => rfl
theorem KV.val {kvs : List (κ × V)} {vs : List (κ × Value)} (r : KV kvs vs) (k : κ) : RelO (valV kvs k) (valueAt vs k) := by
  unfold KV at r
  induction r with
  | nil => exact True.intro
  | @cons p q ps qs h t ih =>
    obtain ⟨h1, h2⟩ := h
    by_cases e : p.1 = k
    · have e' : q.1 = k := h1.symm.trans e
      have b : valueAt (q :: qs) k = some q.2 := by simp [valueAt, List.find?_cons, e']
      rw [valV_pos e, b]; exact h2
    · have e' : ¬ q.1 = k := fun z => e (h1.trans z)
      have b : valueAt (q :: qs) k = valueAt qs k := by simp [valueAt, List.find?_cons, e']
      rw [valV_neg e, b]; exact ih
theorem KV.any {kvs : List (κ × V)} {vs : List (κ × Value)} (r : KV kvs vs) (k : κ) : (kvs.any fun kv => decide (kv.1 = k)) = vs.any fun kv => decide (kv.1 = k) := by
  unfold KV at r
  induction r with
  | nil => rfl
  | cons h t ih => rw [List.any_cons, List.any_cons, ih, h.1]
theorem KV.repl {kvs : List (κ × V)} {vs : List (κ × Value)} (r : KV kvs vs) (k : κ) {y : V} {u : Value} (ry : RelV y u) :
    KV (kvs.map fun kv => if kv.1 = k then (kv.1, y) else kv) (vs.map fun kv => if kv.1 = k then (kv.1, u) else kv) := by
  unfold KV at r ⊢
  induction r with
  | nil => exact .nil
  | @cons p q ps qs h t ih =>
    rw [List.map_cons, List.map_cons]
    refine .cons ?_ ih
    obtain ⟨h1, h2⟩ := h
    by_cases e : p.1 = k
    · rw [if_pos e, if_pos (h1.symm.trans e)]; exact ⟨h1, ry⟩
    · rw [if_neg e, if_neg (fun z => e (h1.trans z))]; exact ⟨h1, h2⟩
theorem KV.put {kvs : List (κ × V)} {vs : List (κ × Value)} (r : KV kvs vs) (k : κ) {y : V} {u : Value} (ry : RelV y u) : KV (putK kvs k y) (stored vs k u) := by
  unfold putK stored
  rw [r.any k]
  by_cases e : (vs.any fun kv => decide (kv.1 = k)) = true
  · rw [if_pos e, if_pos e]; exact r.repl k ry
  · rw [if_neg e, if_neg e]; exact Paired.snoc r ⟨rfl, ry⟩
theorem KV.length {kvs : List (κ × V)} {vs : List (κ × Value)} (r : KV kvs vs) : kvs.length = vs.length := Paired.length r
end
theorem kV_is {P : Program} {w : World} {k : Key} {u : Value} (r : RelV (kV k) u) : (mixKind P w).is k u = true := by
  cases k with
  | inl i => obtain ⟨t, e⟩ := (show ∃ t, u = Value.int i t from r); subst e; exact mixKind_int P w i t
  | inr x => obtain ⟨t, e⟩ := (show ∃ t, u = Value.str x t from r); subst e; exact mixKind_str P w x t
theorem items_are {P : Program} {w : World} : ∀ {ks : List Key} {us : List Value}, Vals (ks.map kV) us → ItemsAre (mixKind P w) ks us
  | [], _, r => by rw [List.map_nil] at r; cases r; exact .nil
  | k :: ks, _, r => by
    rw [List.map_cons] at r
    cases r with
    | cons h t => exact .cons (kV_is h) (items_are t)
abbrev KT (H : Hp) : List (List Key × V) → List (List Key × Addr × Value) → Prop := Paired fun p q => p.1 = q.1 ∧ H q.2.1 = some (.tup (p.1.map kV)) ∧ RelV p.2 q.2.2
theorem KT.val {H : Hp} {kvs : List (List Key × V)} {xs : List (List Key × Addr × Value)} (r : KT H kvs xs) (k : List Key) : RelO (valV kvs k) ((atKey xs k).map (·.2)) := by
  induction r with
  | nil => exact True.intro
  | @cons p q ps qs h t ih =>
    obtain ⟨h1, _, h2⟩ := h
    by_cases e : p.1 = k
    · have e' : q.1 = k := h1.symm.trans e
      have b : atKey (q :: qs) k = some q.2 := by simp [atKey, List.find?_cons, e']
      rw [valV_pos e, b]; exact h2
    · have e' : ¬ q.1 = k := fun z => e (h1.trans z)
      have b : atKey (q :: qs) k = atKey qs k := by simp [atKey, List.find?_cons, e']
      rw [valV_neg e, b]; exact ih
theorem KT.repl {H : Hp} {kvs : List (List Key × V)} {xs : List (List Key × Addr × Value)} (r : KT H kvs xs) (k : List Key) {y : V} {u : Value} (ry : RelV y u) :
    KT H (kvs.map fun kv => if kv.1 = k then (kv.1, y) else kv) (xs.map (putAt k u)) := by
  induction r with
  | nil => exact .nil
  | @cons p q ps qs h t ih =>
    rw [List.map_cons, List.map_cons]
    refine .cons ?_ ih
    obtain ⟨h1, h2, h3⟩ := h
    unfold putAt
    by_cases e : p.1 = k
    · rw [if_pos e, if_pos (h1.symm.trans e)]; exact ⟨h1, h2, ry⟩
    · rw [if_neg e, if_neg (fun z => e (h1.trans z))]; exact ⟨h1, h2, h3⟩
theorem KT.put {H : Hp} {kvs : List (List Key × V)} {xs : List (List Key × Addr × Value)} (r : KT H kvs xs) (k : List Key) {b : Addr} {y : V} {u : Value} (hb : H b = some (.tup (k.map kV))) (ry : RelV y u) :
    KT H (putK kvs k y) (storedH xs k b u) := by
  have e : (kvs.any fun kv => decide (kv.1 = k)) = (atKey xs k).isSome := by
    rw [valV_any, (r.val k).isSome_eq, Option.isSome_map]
  unfold putK storedH
  rw [e]
  by_cases q : (atKey xs k).isSome = true
  · rw [if_pos q, if_pos q]; exact r.repl k ry
  · rw [if_neg q, if_neg q]; exact Paired.snoc r ⟨rfl, hb, ry⟩
theorem KT.keeps {H H' : Hp} {kvs : List (List Key × V)} {xs : List (List Key × Addr × Value)} (r : KT H kvs xs) (ht : ∀ b ys, H b = some (.tup ys) → H' b = some (.tup ys)) : KT H' kvs xs :=
  Paired.mapP r fun _ _ z => ⟨z.1, ht _ _ z.2.1, z.2.2⟩
section
variable {P : Program} {w : World} {H : Hp} {h : Heap} {a : Addr}
theorem rd_of {u : HO} (ok : HOk P w H h) (e : Rd H a u) : ObjOk P w H h a u := e.ok ok
theorem dk_rd {kvs : List (Key × V)} (ok : HOk P w H h) (e : Rd H a (.dK kvs)) : kvs.length ≤ sizeLine ∧ (a == sysModules) = false ∧ ∃ vs, KV kvs vs ∧ h.DictOf (mixKind P w) a vs :=
  show ObjOk P w H h a (.dK kvs) from rd_of ok e
theorem dk_of {kvs : List (Key × V)} (ok : HOk P w H h) (e : H a = some (.dK kvs)) : kvs.length ≤ sizeLine ∧ (a == sysModules) = false ∧ ∃ vs, KV kvs vs ∧ h.DictOf (mixKind P w) a vs := dk_rd ok (.inl e)
theorem key_of {ks : List Key} (ok : HOk P w H h) (e : H a = some (.tup (ks.map kV))) : (tupleKind (mixKind P w)).is h ks a := by
  obtain ⟨_, its, r, o, h1, h2, _, n, h3⟩ := (show ObjOk P w H h a (.tup (ks.map kV)) from ok a _ e)
  exact ⟨o, its.toArray, n, h1, h2, h3, by simpa using items_are r⟩
theorem dt_rd {kvs : List (List Key × V)} (ok : HOk P w H h) (e : Rd H a (.dT kvs)) : kvs.length ≤ sizeLine ∧ (a == sysModules) = false ∧
    ∃ xs, KT H kvs xs ∧ h.DictOfH (tupleKind (mixKind P w)) a xs := by
  obtain ⟨z, y, xs, r, o, es, ep, h1, h2, h3, h4, h5⟩ := (show ObjOk P w H h a (.dT kvs) from rd_of ok e)
  refine ⟨z, y, xs, r, o, es, ep, h1, h2, h3, h4, fun x hx => ?_, h5⟩
  have all : ∀ {l : List (List Key × V)} {m : List (List Key × Addr × Value)}, KT H l m → ∀ x ∈ m, (tupleKind (mixKind P w)).is h x.1 x.2.1 := by
    intro l m q
    induction q with
    | nil => intro x hx; exact nomatch hx
    | @cons p q ps qs hq t ih =>
      intro x hx
      rcases List.mem_cons.mp hx with e | hx
      · subst e
        exact key_of ok (by rw [← hq.1]; exact hq.2.1)
      · exact ih x hx
  exact all r x hx
theorem dt_of {kvs : List (List Key × V)} (ok : HOk P w H h) (e : H a = some (.dT kvs)) : kvs.length ≤ sizeLine ∧ (a == sysModules) = false ∧
    ∃ xs, KT H kvs xs ∧ h.DictOfH (tupleKind (mixKind P w)) a xs := dt_rd ok (.inl e)
end
def DGet (H : Hp) (a : Addr) (y : V) (r : Option V) : Prop :=
  (∃ kvs k, Rd H a (.dK kvs) ∧ y = kV k ∧ r = valV kvs k) ∨ ∃ kvs k b, Rd H a (.dT kvs) ∧ y = .ref b ∧ H b = some (.tup (k.map kV)) ∧ r = valV kvs k
def DPut (H : Hp) (a : Addr) (y v : V) (H' : Hp) : Prop :=
  (∃ kvs k, H a = some (.dK kvs) ∧ y = kV k ∧ kvs.length < sizeLine ∧ H' = upd H a (.dK (putK kvs k v))) ∨
  ∃ kvs k b, H a = some (.dT kvs) ∧ y = .ref b ∧ H b = some (.tup (k.map kV)) ∧ kvs.length < sizeLine ∧ H' = upd H a (.dT (putK kvs k v))
theorem DGet.k {H : Hp} {a : Addr} {kvs : List (Key × V)} {k : Key} (e : H a = some (.dK kvs)) : DGet H a (kV k) (valV kvs k) := .inl ⟨kvs, k, .inl e, rfl, rfl⟩
section
variable {X : Cx} {pins : List (Addr × Obj)} {σ : St} {H : Hp} {s : Shared} {a : Addr} {y v : V} {u r : Value} {o : Option V} {A : Around} {E : Value → Shared → Prop}
theorem Inv.big (I : Inv X pins σ H s) : sysModules < s.heap.objs.size := by
  have h : mainGlobals < s.heap.objs.size := (I.mod.glob.keeps I.bk).lt
  exact Nat.lt_trans (by decide) h
theorem d_getItem {Q : Value → Shared → Prop} (hu : A.units + 1 < cLine) (I : Inv X pins σ H s) (g : DGet H a y (some v)) (ry : RelV y u) (h : ∀ w' s', Inv X pins σ H s' → RelV v w' → Q w' s') :
    wpAny (model X.prog X.w) A (getItem (.ref a) u) Q E s := by
  rcases g with ⟨kvs, k, e, ey, l⟩ | ⟨kvs, k, b, e, ey, eb, l⟩
  · subst ey
    obtain ⟨z, hd, vs, rel, dd⟩ := dk_rd I.hok e
    obtain ⟨w', hw, rw'⟩ := RelO.some_of (v := v) (o := valueAt vs k) (by rw [l]; exact rel.val k)
    exact wpAny_getItem_of (kV_is ry) dd.mapOf hw (h w' _ (I.tok _) rw')
  · subst ey
    cases (show u = Value.ref b from ry)
    obtain ⟨z, hd, xs, rel, dd⟩ := dt_rd I.hok e
    obtain ⟨w', hw, rw'⟩ := RelO.some_of (v := v) (o := (atKey xs k).map (·.2)) (by rw [l]; exact rel.val k)
    obtain ⟨p, hp, hp2⟩ := Option.map_eq_some_iff.mp hw
    refine wpAny_getItem_heap (tupleKind_room_in1 hu) (key_of I.hok eb) dd hp ?_
    rw [hp2]
    exact h w' _ (I.tok _) rw'
theorem d_write {h' : Heap} {t' : Nat} {ob : HO} (I : Inv X pins σ H s) (mu : Mut (H a)) (hs : Heap.SameBut a s.heap h') (he : ∃ q, h'.get? a = some q) (new : ObjOk X.prog X.w (upd H a ob) h' a ob) :
    Inv X pins σ (upd H a ob) { s with heap := h', toks := t' } :=
  I.write (x := a) (e := a) mu (.inl rfl) (fun b q hb z => (hs.2 b hb).trans z) he new
theorem dk_new {P : Program} {w : World} {H' : Hp} {h' : Heap} {kvs : List (Key × V)} {vs : List (Key × Value)} (z : kvs.length ≤ sizeLine) (hd : (a == sysModules) = false) (rel : KV kvs vs) (dd : h'.DictOf (mixKind P w) a vs) :
    ObjOk P w H' h' a (.dK kvs) := ⟨z, hd, vs, rel, dd⟩
theorem d_setItem {H' : Hp} {Q : Unit → Shared → Prop} (hu : A.units + 1 < cLine) (I : Inv X pins σ H s) (g : DPut H a y v H') (ry : RelV y u) (rv : RelV v r) (h : ∀ s', Inv X pins σ H' s' → Q () s') :
    wpAny (model X.prog X.w) A (setItem (.ref a) u r) Q E s := by
  rcases g with ⟨kvs, k, e, ey, l, eH⟩ | ⟨kvs, k, b, e, ey, eb, l, eH⟩
  · subst ey eH
    obtain ⟨z, hd, vs, rel, dd⟩ := dk_of I.hok e
    have hz : vs.length ≤ sizeLine := by rw [← rel.length]; exact z
    have hl : (putK kvs k v).length ≤ sizeLine := by have := length_putK kvs k v; exact Nat.le_trans (by assumption) (by assumption)
    refine wpAny_setItem_pairs (hsz := hz) (kV_is ry) dd fun h' dd' hs => h _ ?_
    have he : ∃ q, h'.get? a = some q := let ⟨q, _, _, hq, _⟩ := dd'; ⟨q, hq⟩
    exact d_write I (by rw [e]; exact True.intro) hs he (dk_new hl hd (rel.put k rv) dd')
  · subst ey eH
    cases (show u = Value.ref b from ry)
    obtain ⟨z, hd, xs, rel, dd⟩ := dt_of I.hok e
    have hz : xs.length ≤ sizeLine := by rw [← Paired.length rel]; exact z
    have hl : (putK kvs k v).length ≤ sizeLine := by have := length_putK kvs k v; exact Nat.le_trans (by assumption) (by assumption)
    refine wpAny_setItem_heap (hsz := hz) (tupleKind_room_in1 hu) (key_of I.hok eb) dd fun h' dd' hs => h _ ?_
    obtain ⟨q, es, ep, hq, h2, h3, h4, _, h5⟩ := dd'
    refine d_write I (by rw [e]; exact True.intro) hs ⟨q, hq⟩ ⟨hl, hd, _, (rel.put k eb rv).keeps fun c ys ec => ?_, q, es, ep, hq, h2, h3, h4, h5⟩
    rw [upd_ne (ne_of ec e (fun z => nomatch z))]
    exact ec
end
def NoSl (i : Expr) : Prop := ∀ ov iv, subscripted i false ov iv = operate [ov, iv] (getItem ov iv)
theorem subD_of {prog : Program} {w : World} {A : Around} {E : Value → Shared → Prop} {s : Shared} {env : Env} {value slice : Expr} {pos : Pos} {T id : String} {Q : Value → Shared → Prop}
    (hl : typeLookup (.type T) "__getitem__" = pure (some (.builtin id))) (hs : NoSl slice)
    (h : wpAny (model prog w) A (eval value env) (fun o s₁ => wpAny (model prog w) A (eval slice env) (fun i s₂ => s₂.TypeIs o T ∧ wpAny (model prog w) A (getItem o i) Q E s₂) E s₁) E s) :
    wpAny (model prog w) A (eval (.Subscript value slice pos) env) Q E s := by
  refine Subscript_ (wpAny_mono h (fun o s₁ h₁ => wpAny_mono h₁ (fun i s₂ h₂ => ?_) fun _ _ x => x) fun _ _ x => x)
  obtain ⟨hT, h₂⟩ := h₂
  unfold subscriptTail
  refine wpAny_bind ?_
  rw [getitemInPython_of_ne hT.not_modules]
  refine wpAny_bind (wpAny_specialOf hT hl ?_)
  have fin : wpAny (model prog w) A (subscripted slice false o i) (fun r s₃ => wpAny (model prog w) A (letTemporaryGo value o r >>= fun _ => pure r) Q E s₃) E s₂ := by
    rw [hs o i]
    exact wpAny_operating (wpAny_mono h₂ (fun r s₃ h₃ => wpAny_bind (wpAny_letTemporaryGo (wpAny_pure h₃))) fun _ _ x => x)
  first
    | exact wpAny_pure (wpAny_bind fin)
    | exact wpAny_bind (wpAny_pure (wpAny_bind fin))
    | exact wpAny_bind fin
theorem dict_typeIs {X : Cx} {pins : List (Addr × Obj)} {σ : St} {H : Hp} {s : Shared} {a : Addr} {y : V} {o : Option V} (I : Inv X pins σ H s) (g : DGet H a y o) : s.TypeIs (.ref a) "dict" := by
  rcases g with ⟨kvs, k, e, _, _⟩ | ⟨kvs, k, b, e, _, _, _⟩
  · obtain ⟨_, _, vs, _, dd⟩ := dk_rd I.hok e
    exact dd.typeIs
  · obtain ⟨_, _, xs, _, dd⟩ := dt_rd I.hok e
    exact dd.typeIs
def tDGet (td ty : TE) : TE := fun σ H Q => td σ H fun x H1 => ty σ H1 fun y H2 => ∃ a v, x = .ref a ∧ DGet H2 a y (some v) ∧ Q v H2
def sDPut (td ty tv : TE) : TS := fun D σ H => tv σ H fun v H1 => td σ H1 fun x H2 => ty σ H2 fun y H3 => ∃ a H4, x = .ref a ∧ DPut H3 a y v H4 ∧ D.nx σ H4
section
variable {X : Cx} {o i e value : Expr} {pos pos' tpos : Pos} {td ty tv : TE}
theorem pe_dget (hu : X.A.units + 1 < cLine) (ho : PE X o td) (hi : PE X i ty) (hs : NoSl i) : PE X (.Subscript o i pos) (tDGet td ty) := by
  intro pins s σ H Q I h
  refine subD_of PySem.F.slot_dict_getitem.lookup hs (thn (ho pins s σ H _ I h) fun u s1 ⟨x, H1, I1, rx, q1⟩ => thn (hi pins s1 σ H1 _ I1 q1) fun iv s2 ⟨y, H2, I2, ry, a, v, ex, g, q2⟩ => ?_)
  subst ex
  obtain rfl : u = Value.ref a := rx
  exact ⟨dict_typeIs I2 g, d_getItem hu I2 g ry fun w' s3 I3 rw' => ⟨v, H2, I3, rw', q2⟩⟩
theorem ps_dput (hu : X.A.units + 1 < cLine) (ho : PE X o td) (hi : PE X i ty) (hv : PE X value tv) (hs : swapsWith value (some (.Subscript o i pos')) pos.line X.env = pure false) :
    PS X (.Assign [.Subscript o i pos'] value pos) (sDPut td ty tv) := by
  intro pins s σ H D I h
  refine wpAny_Assign_Subscript (thn (hv pins s σ H _ I h) fun r s1 ⟨v, H1, I1, rv, q1⟩ => thn (ho pins s1 σ H1 _ I1 q1) fun u s2 ⟨x, H2, I2, rx, q2⟩ => thn (hi pins s2 σ H2 _ I2 q2) fun iv s3 ⟨y, H3, I3, ry, a, H4, ex, g, q3⟩ => ?_) hs
  subst ex
  obtain rfl : u = Value.ref a := rx
  exact d_setItem hu I3 g ry rv fun s4 I4 => ⟨σ, H4, I4, q3⟩
end
theorem dk_empty {P : Program} {w : World} {H : Hp} (h : Heap) (hb : sysModules < h.objs.size) : ObjOk P w H (h.push { cls := .type "dict", data := .dict #[] }) h.objs.size (.dK []) :=
  ⟨Nat.zero_le _, beq_eq_false_iff_ne.mpr (Ne.symm (Nat.ne_of_lt hb)), [], .nil, Heap.DictOf.new h⟩
def tPairs : List (TE × TE) → St → Hp → (List (V × V) → Hp → Prop) → Prop
  | [], _, H, Q => Q [] H
  | (tk, tv) :: r, σ, H, Q => tk σ H fun x H1 => tv σ H1 fun y H2 => tPairs r σ H2 fun ps H3 => Q ((x, y) :: ps) H3
abbrev VV : List (V × V) → List (Value × Value) → Prop := Paired fun p q => RelV p.1 q.1 ∧ RelV p.2 q.2
def PPs (X : Cx) (pos : Pos) (keys : List (Option Expr)) (values : List Expr) (trs : List (TE × TE)) : Prop :=
  ∀ (pins : List (Addr × Obj)) (s : Shared) (σ : St) (H : Hp) (Q : List (V × V) → Hp → Prop), Inv X pins σ H s → tPairs trs σ H Q →
    wpAny (model X.prog X.w) X.A (evalPairs (pairTrees keys values X.env pos)) (fun vs s' => ∃ ps H', Inv X pins σ H' s' ∧ VV ps vs ∧ Q ps H') X.xe s
theorem pps_nil {X : Cx} {pos : Pos} : PPs X pos [] [] [] := fun pins s σ H Q I h => pairTrees_nil_walk ⟨[], H, I, .nil, h⟩
theorem pps_cons {X : Cx} {pos : Pos} {k v : Expr} {ks : List (Option Expr)} {vs : List Expr} {tk tv : TE} {trs : List (TE × TE)} (hk : PE X k tk) (hv : PE X v tv) (hr : PPs X pos ks vs trs) :
    PPs X pos (some k :: ks) (v :: vs) ((tk, tv) :: trs) := fun pins s σ H Q I h =>
  pairTrees_cons_walk (thn (hk pins s σ H _ I h) fun u s1 ⟨x, H1, I1, rx, q1⟩ => thn (hv pins s1 σ H1 _ I1 q1) fun w2 s2 ⟨y, H2, I2, ry, q2⟩ =>
    thn (hr pins s2 σ H2 _ I2 q2) fun ws s3 ⟨ps, H3, I3, rel, q3⟩ => ⟨(x, y) :: ps, H3, I3, .cons ⟨rx, ry⟩ rel, q3⟩)
def mergeK (kvs more : List (Key × V)) : List (Key × V) := more.foldl (fun acc kv => putK acc kv.1 kv.2) kvs
theorem KV.merge : ∀ {more : List (Key × V)} {rs : List (Key × Value)} {kvs : List (Key × V)} {vs : List (Key × Value)}, KV more rs → KV kvs vs → KV (mergeK kvs more) (merged vs rs) := by
  intro more rs kvs vs r
  unfold KV at r
  induction r generalizing kvs vs with
  | nil => intro q; exact q
  | @cons p q ps qs h t ih =>
    intro r0
    have e : KV (putK kvs p.1 p.2) (stored vs q.1 q.2) := by
      have := r0.put p.1 h.2
      rw [← h.1]; exact this
    exact ih e
theorem length_mergeK : ∀ (more kvs : List (Key × V)), (mergeK kvs more).length ≤ kvs.length + more.length
  | [], kvs => by show kvs.length ≤ kvs.length + 0; exact Nat.le_add_right _ _
  | p :: r, kvs => by
    have h1 := length_mergeK r (putK kvs p.1 p.2)
    have h2 := length_putK kvs p.1 p.2
    show (mergeK (putK kvs p.1 p.2) r).length ≤ _
    rw [List.length_cons]; omega
theorem carries_of {P : Program} {w : World} : ∀ {kvs : List (Key × V)} {ws : List (Value × Value)}, VV (kvs.map fun kv => (kV kv.1, kv.2)) ws → ∃ rs, Carries (mixKind P w) ws rs ∧ KV kvs rs
  | [], _, r => by rw [List.map_nil] at r; cases r; exact ⟨[], True.intro, .nil⟩
  | p :: kvs, _, r => by
    rw [List.map_cons] at r
    cases r with
    | @cons a b as bs h t =>
      obtain ⟨rs, c, q⟩ := carries_of (P := P) (w := w) t
      obtain ⟨b1, b2⟩ := b
      exact ⟨(p.1, b2) :: rs, ⟨kV_is h.1, rfl, c⟩, .cons ⟨rfl, h.2⟩ q⟩
def tDisp (trs : List (TE × TE)) : TE := fun σ H Q => ∀ p, H p = none → tPairs trs σ (upd H p (.dK [])) fun ps H2 => H2 p = some (.dK []) ∧ ∃ kvs : List (Key × V), ps = kvs.map (fun kv => (kV kv.1, kv.2)) ∧ kvs.length ≤ 15 ∧ Q (.ref p) (upd H2 p (.dK (mergeK [] kvs)))
theorem pe_disp {X : Cx} {pos : Pos} {keys : List (Option Expr)} {values : List Expr} {trs : List (TE × TE)} (h : PPs X pos keys values trs) (hall : keys.all (·.isSome) = true) (hl : keys.length = values.length) (h0 : keys ≠ [])
    (h15 : keys.length ≤ 15) : PE X (.Dict keys values pos) (tDisp trs) := by
  intro pins s σ H Q I q
  have hn := I.hok.fresh (Nat.le_refl s.heap.objs.size)
  have I1 := I.laid (a := s.heap.objs.size) (o := .dK []) (h' := s.heap.push { cls := .type "dict", data := .dict #[] }) (t' := s.toks) (fun _ _ q => Heap.get?_push_of_some _ q) (Nat.le_refl _) (dk_empty s.heap I.big)
  refine wpAny_Dict_walk (knd := mixKind X.prog X.w) hall hl h0 h15 (thn (h pins _ σ _ _ I1 (q _ hn)) fun ws s2 ⟨ps, H2, I2, rel, e, kvs, ep, lk, q2⟩ => ?_)
  subst ep
  obtain ⟨rs, c, rk⟩ := carries_of (P := X.prog) (w := X.w) rel
  obtain ⟨z, hd, vs0, r0, dd⟩ := dk_of I2.hok e
  cases r0
  refine ⟨rs, c, dd, fun h' dd' hs => ⟨.ref s.heap.objs.size, _, ?_, rfl, q2⟩⟩
  have hz : (mergeK [] kvs).length ≤ sizeLine := by
    have h1 := length_mergeK kvs []
    rw [List.length_nil] at h1
    rw [sizeLine_eq]; omega
  have he : ∃ q, h'.get? s.heap.objs.size = some q := let ⟨q, _, _, hq, _⟩ := dd'; ⟨q, hq⟩
  exact d_write I2 (by rw [e]; exact True.intro) hs he (dk_new hz hd (rk.merge .nil) dd')
end L2
namespace Att
open PySem PySem.W PySem.Calls PyProof.Rows
theorem ints_of_wellAll {P : Params} {h : Heap} : ∀ (ns : List Int) (vs : List Value), WellAll P h vs (ns.map WData.int) → IntsAre vs ns := by
  intro ns
  induction ns with
  | nil =>
    intro vs w
    rw [List.map_nil] at w
    cases w
    exact .nil
  | cons n ns ih =>
    intro vs w
    rw [List.map_cons] at w
    cases w with
    | cons a b =>
      cases a
      exact .cons _ _ (ih _ b)
theorem script_of {l : OpenLaw} {n : Nat} (hn : l.most = some n) {P : Params} {h : Heap} {args : List WData} {vals : List Value}
    (hpre : l.row.toRowW.claim.pre args = true) (hwl : WellAll P h vals args) :
    ∃ a vs ns, vals = [Value.ref a] ∧ args = [WData.list (ns.map WData.int)] ∧ h.get? a = some { cls := .type "list", data := .seq vs.toArray } ∧ IntsAre vs ns ∧ ns.length ≤ n := by
  have hsh : WShape.hasAll [] args [.list .int] = true := (pre_splitW hpre).1
  have hc : l.pre.holds [] { args := args } = true := (pre_splitW hpre).2
  obtain ⟨d, r, rfl, h1, h2⟩ := hasAllW_cons hsh
  obtain rfl := hasAllW_nil h2
  obtain ⟨xs, rfl, h3⟩ := hasW_list h1
  obtain ⟨ns, rfl⟩ := items_int h3
  have hlen : ns.length ≤ n := by
    unfold OpenLaw.pre at hc
    have h4 : (WTm.not (.lt (.lit (.int (n : Int))) (.len (.arg 0)))).holds [] { args := [.list (ns.map .int)] } = true := by
      have h4 := (holds_andW hc).1
      rw [hn] at h4
      exact h4
    have h5 := condW_of h4 (w_not (w_lt w_lit (w_len_list (w_arg rfl))))
    rw [List.length_map] at h5
    refine Nat.le_of_not_lt fun q => ?_
    have q' : (n : Int) < ((ns.length : Nat) : Int) := by omega
    first
      | (rw [decide_eq_true q'] at h5; exact absurd h5 (by decide))
      | (simp at h5; omega)
  cases hwl with
  | cons w1 w2 =>
    cases w2
    cases w1 with
    | list ho hall => exact ⟨_, _, ns, rfl, rfl, ho, ints_of_wellAll ns _ hall, hlen⟩
theorem post_true (l : OpenLaw) (args : List WData) : l.row.toRowW.claim.post args (.bool true) args = true :=
  postW_of (r := l.row.toRowW) (X := (true == true))
    (show WShape.has [] (.bool true) .bool = true by first | rfl | decide | simp [WShape.has, WShape.arms, WShape.armsAll])
    (show (WTm.eq .res (.lit (.bool true))).value [] { args := args, res := some (.bool true), after := args } = some (.bool (true == true)) from w_eq_bool (w_res rfl) w_lit) rfl
theorem attach_call {l : OpenLaw} {n : Nat} {q : Program} {loose : List Str} {XP : (Str → Option Value) → Heap → Prop} {YP : World → Heap → Prop} {d : DefRec}
    (hn : l.most = some n) (hdf : d.params.defaults = [])
    (call : ∀ (w : World) (s₀ s₁ : Shared) (mg mb : Str → Option Value) (fa : Addr) (o : Obj) (pm cd doc : Value) (a : Addr) (vs : List Value) (ns : List Int),
      Ground q loose [] XP w s₀ mg mb s₁.heap → YP w s₁.heap →
      s₁.heap.get? fa = some o → o.data = .func (docDef d.name d.params d.body d.scope pm cd doc) → s₁.heap.CodeRec cd d.name → mg d.name = some (.ref fa) →
      s₁.heap.get? a = some { cls := .type "list", data := .seq vs.toArray } → IntsAre vs ns → ns.length ≤ n → s₁.gens = #[] →
      codeAny (model l.prog w) callerA (.call (.ref fa) ⟨[.ref a], []⟩) (fun r s' => r = .ok (.ret (.bool true)) ∧ OldK s₁.heap s'.heap ∧ s'.os = s₁.os ∧ AllBare s'.gens) s₁) :
    WalkO q loose XP YP l.row.toRowW d [] (fun f vs => PySem.call f vs) := by
  intro w s₀ s₁ mg mb G Y fa o pm cd doc dV kV ho hd hcd hD hmg hg args vals as hpre hlay hrd hwl hlo
  obtain rfl : dV = .none := Dflts.none hD hdf
  obtain rfl : kV = .none := Dflts.noKw hD
  obtain ⟨a, vs, ns, rfl, rfl, hobj, hints, hlen⟩ := script_of hn hpre hwl
  refine enter_call (codeAny_mono (call w s₀ s₁ mg mb fa o pm cd doc a vs ns G Y ho (fd_plain hd) hcd hmg hobj hints hlen hg) fun r s' hq => ?_)
  obtain ⟨rfl, h2, h3, h4⟩ := hq
  exact ⟨.inl ⟨.bool true, .bool true, [], rfl, fun _ => rfl, .bool true, post_true l _, fun _ => ⟨List.Pairwise.nil, fun _ hm => (nomatch hm)⟩⟩, h2, h3, h4⟩
end Att
namespace L2
open PySem PySem.Spec PyProof.Rows
theorem vals_ints : ∀ {vs : List Value} {ns : List Int}, IntsAre vs ns → Vals (ns.map V.int) vs
  | _, _, .nil => .nil
  | _, _, .cons n t h => .cons ⟨t, rfl⟩ (vals_ints h)
def Only (H : Hp) : Prop := ∀ b, H b = none ∨ ∃ o xs, H b = some (.frz o (.lst xs))
theorem law_call {P : Program} {w : World} {K : PySem.W.Frag} {mg mb : Str → Option Value} {CX : CXT} {k : Nat} {fa a : Addr} {fd : FuncData} {x : Str} {sp : Sp} {s₁ : Shared} {vs : List Value} {ns : List Int}
    (KX : K.In s₁.heap) (hns : s₁.heap.Ns mainGlobals mg) (hb : s₁.heap.Ns builtinsNs mb) (hbb : ∀ x : Str, x ≠ "__name__" → mb x = bootBuiltins x) (hlim : s₁.heap.NoLimit) (hg : s₁.gens = #[])
    (ha : s₁.heap.get? a = some { cls := .type "list", data := .seq vs.toArray }) (hi : IntsAre vs ns) (hl : ns.length ≤ sizeLine) (hr : Room k callerA)
    (F : ∀ base : Heap, K.In base → base.Ns mainGlobals mg → FnOk P w K mg base CX k fa fd [x] sp) (hbind : ∀ (s : Shared) (u : Value), BindsTo s fd ⟨[u], []⟩ [(x, u)])
    (hsp : ∀ H : Hp, Only H → SqL K H a (ns.map V.int) → sp [.ref a] H (fun v _ => v = .bl true) fun _ _ _ => False)
    (hCX : ∀ H e s', CX [] H s₁ (fun _ _ _ => False) e s' → False) :
    codeAny (model P w) callerA (.call (.ref fa) ⟨[.ref a], []⟩) (fun r s' => r = .ok (.ret (.bool true)) ∧ OldK s₁.heap s'.heap ∧ s'.os = s₁.os ∧ AllBare s'.gens) s₁ := by
  have rv := vals_ints hi
  have lenV := hi.length
  have core : ∀ H : Hp, Only H → SqL K H a (ns.map V.int) → HOk P w H s₁.heap → (∀ b, H b ≠ none → b = a) → (H a ≠ none → K.lookup a = none) →
      codeAny (model P w) callerA (.call (.ref fa) ⟨[.ref a], []⟩) (fun r s' => r = .ok (.ret (.bool true)) ∧ OldK s₁.heap s'.heap ∧ s'.os = s₁.os ∧ AllBare s'.gens) s₁ := by
    intro H hO hS hok hA hK
    have base_of : ∀ {b : Addr} {o : Obj}, s₁.heap.get? b = some o → H b = none → (hidT s₁.heap H).get? b = some o := fun e n => hidT_get e n
    have noA : ∀ {b : Addr} {o : Obj} {es : Array DictEntry} {ep : Nat}, s₁.heap.get? b = some o → o.data = .dict es ep → H b = none := fun {b o es ep} e d => by
      cases q : H b with
      | none => rfl
      | some u =>
        have e' : b = a := hA b (by rw [q]; simp)
        subst e'
        rw [ha] at e; cases e
        have d' : Data.seq vs.toArray _ = Data.dict es ep := d
        cases d'
    have nsK : ∀ {b : Addr} {m : Str → Option Value}, s₁.heap.Ns b m → (hidT s₁.heap H).Ns b m := fun {b m} ⟨o, es, ep, e, d, r⟩ => ⟨o, es, ep, base_of e (noA e d), d, r⟩
    have hKb : K.In (hidT s₁.heap H) := fun b o e => base_of (KX b o e) (by
      cases q : H b with
      | none => rfl
      | some u =>
        have e' : b = a := hA b (by rw [q]; simp)
        subst e'
        rw [hK (by rw [q]; simp)] at e; cases e)
    have hM : Mod K mg (hidT s₁.heap H) := ⟨hKb, nsK hns, ⟨mb, nsK hb, hbb⟩, let ⟨mc, h1, h2⟩ := hlim; ⟨mc, nsK h1, h2⟩⟩
    have e0 : Env0 P w K mg (hidT s₁.heap H) callerA [] s₁ H := ⟨rfl, hM, fun b o e => of_hidT e, Nat.le_of_eq (hidT_size _ _), trivial, fun b hb => absurd (show b ∈ ([] : List Addr) from hb) (by simp), hok, .of_eq hg⟩
    refine codeAny_mono ((F _ hKb (nsK hns)).run callerA [] s₁ H ⟨[.ref a], []⟩ [.ref a] [.ref a] _ _ hr e0 (hbind s₁ (.ref a)) (.cons rfl .nil) (hsp H hO hS)) fun r s' h => ?_
    cases r with
    | error e => exact (hCX H e s' h).elim
    | ok fl =>
      cases fl with
      | next => exact False.elim h
      | brk => exact False.elim h
      | cont => exact False.elim h
      | ret u =>
        obtain ⟨v, H', os, bare, un, hok', r', q⟩ := h
        have q' : v = .bl true := q
        subst q'
        obtain rfl : u = Value.bool true := r'
        refine ⟨rfl, OldK.of_keep fun b o e => ?_, os, bare⟩
        cases q : H b with
        | none => exact un.keep b o e q (by intro z; exact absurd (show b ∈ ([] : List Addr) from z) (by simp)) (by simp)
        | some u =>
          rcases hO b with z | ⟨ob, xs, z⟩
          · rw [q] at z; cases z
          · have z2 := un.frzs b ob _ z
            obtain ⟨e1, _⟩ := hok b _ z
            obtain ⟨e2, _⟩ := hok' b _ z2
            rw [e] at e1; cases e1
            exact e2
  cases hk : K.lookup a with
  | some o =>
    have e := KX a o hk
    rw [ha] at e
    cases e
    refine core (fun _ => none) (fun _ => .inl rfl) (.inr ⟨_, vs.toArray, _, hk, rfl, rfl, rfl, by rw [List.size_toArray, lenV]; exact hl, by simpa using rv⟩) (fun b u z => by have z' : (none : Option HO) = some u := z; cases z') (fun b z => absurd rfl z) fun z => absurd rfl z
  | none =>
    refine core (fun b => if b = a then some (.frz { cls := .type "list", data := .seq vs.toArray } (.lst (ns.map V.int))) else none) (fun b => ?_) (.inl (.inr ⟨{ cls := .type "list", data := .seq vs.toArray }, if_pos rfl⟩)) (fun b u z => ?_) (fun b z => ?_) fun _ => hk
    · by_cases hb : b = a
      · exact .inr ⟨_, _, if_pos hb⟩
      · exact .inl (if_neg hb)
    · by_cases hb : b = a
      · have z' := (if_pos hb).symm.trans z
        cases z'
        subst hb
        exact ⟨ha, by rw [List.length_map]; exact hl, vs, _, rv, ha⟩
      · have z' := (if_neg hb).symm.trans z
        cases z'
    · by_cases hb : b = a
      · exact hb
      · exact absurd (if_neg hb) z
end L2
namespace L2
open PySem PySem.Spec PyProof.Rows
theorem walk_of {l : PySem.W.OpenLaw} {n k : Nat} {q : Program} {loose : List Str} {XP : (Str → Option Value) → Heap → Prop} {YP : World → Heap → Prop} {d : DefRec} {K : Params → PySem.W.Frag} {CX : World → CXT} {sp : World → Sp} {x : Str}
    (hn : l.most = some n) (hn2 : n ≤ sizeLine) (hdf : d.params.defaults = []) (hr : Room k callerA)
    (hY : ∀ (w : World) (h : Heap), YP w h → (K w.params).In h)
    (F : ∀ (w : World) (mg : Str → Option Value) (fa : Addr) (h : Heap), (K w.params).In h → h.Ns mainGlobals mg → mg d.name = some (.ref fa) →
      ∃ fd : FuncData, (∀ (s : Shared) (u : Value), BindsTo s fd ⟨[u], []⟩ [(x, u)]) ∧
        ∀ base : Heap, (K w.params).In base → base.Ns mainGlobals mg → FnOk l.prog w (K w.params) mg base (CX w) k fa fd [x] (sp w))
    (hsp : ∀ (w : World) (H : Hp) (a : Addr) (ns : List Int), ns.length ≤ n → Only H → SqL (K w.params) H a (ns.map V.int) → sp w [.ref a] H (fun v _ => v = .bl true) fun _ _ _ => False)
    (hCX : ∀ (w : World) (H : Hp) (s : Shared) (e : Value) (s' : Shared), CX w [] H s (fun _ _ _ => False) e s' → False) :
    PySem.W.WalkO q loose XP YP l.row.toRowW d [] (fun f vs => PySem.call f vs) := by
  refine Att.attach_call hn hdf fun w s₀ s₁ mg mb fa o pm cd doc a vs ns G Y ho hd hcd hmg hobj hints hlen hg => ?_
  have KX := hY w _ Y
  obtain ⟨fd, hb, hF⟩ := F w mg fa _ KX G.T.g hmg
  exact law_call KX G.T.g G.T.b G.T.builtins G.T.nolimit hg hobj hints (Nat.le_trans hlen hn2) hr hF hb (fun H hO hS => hsp w H a ns hlen hO hS) fun H e s' => hCX w H s₁ e s'
end L2
/- THE LAST THEOREM (shape; LID, My.* are yours):
   My.Adr: a structure of the addresses that your layer names (classes, functions); My.Txt K t: a structure (Prop) of the equations over K;
   My.txt_mk : {K} {implicit addresses ..} (e1 : nsIn K mainGlobals "law" = some (some (.ref f))) (e2 : K.lookup f = some ⟨oc, od, .func (fnOf "law" "law" params body scope dV kV doc pm an cdv ct), sl⟩) (e3 : codeIn K cdv "law" = true) .. : ∃ t, My.Txt K t
set_option maxRecDepth 100000 in
set_option maxHeartbeats 0 in
theorem PySem.Challenge.cw_LID_holds : PySem.Challenge.rw_LID.Holds := by
  w_on; o_law; k_head; (case hw => w_witness2)
  k_fill
  refine L2.walk_of (l := PySem.Challenge.rw_LID) (n := 63) (k := 40) (x := "script") (CX := fun w => ..) (sp := fun _ => My.sp_law) rfl (by decide) rfl ⟨rfl, by decide, by decide⟩ (fun w h Y => PySem.W.kIn_of Y) ?F ?S ?C
  case F =>
    intro w mg fa h KX G hmg
    have T : ∃ t, My.Txt (L2.KOf KX) t := by
      dsimp only [L2.KOf]                          -- K must stand as «<heap const> w.params» for k_is
      refine' My.txt_mk ?e1 ?e2 ?e3 ..
      (case e1 => PySem.W.k_is)                    -- in the order: a name -> its address -> its object -> its parts
      (case e2 => PySem.W.k_is)
      ..
    obtain ⟨t, T⟩ := T
    have e0 := hmg.symm.trans (PySem.W.mg_of KX G T.law)
    cases e0                                       -- fa is the law's own address
    exact ⟨_, fun s u => .of_eq rfl, fun base kb nb => My.law_fn T kb nb⟩     -- if «.of_eq rfl» comes too early: refine' ⟨_, ?b, fun base kb nb => My.law_fn T kb nb⟩; exact fun s u => .of_eq rfl
  case S => exact fun w H a ns hl hO hS => ..
  case C => exact ..
(the tactic k_is has no namespace: write k_is) -/
namespace L2
open PySem PySem.Spec PyProof.Rows
def defArgs (s : Stmt) : Arguments := match s with
  | .FunctionDef _ a _ _ _ _ _ _ _ _ => a
  | _ => { posonlyargs := [], args := [], vararg := none, kwonlyargs := [], kw_defaults := [], kwarg := none, defaults := [] }
def defBody (s : Stmt) : List Stmt := match s with
  | .FunctionDef _ _ b _ _ _ _ _ _ _ => b
  | _ => []
def defScope (s : Stmt) : Scope := match s with
  | .FunctionDef _ _ _ _ _ _ sc _ _ _ => sc
  | _ => { kind := .function, names := [], isGenerator := false, isCoroutine := false }
abbrev CX0 : CXT := fun _ _ _ _ _ _ => False
abbrev E0 : XK := fun _ _ _ => False
theorem pass0 {X : Cx} : Passes CX0 X E0 := fun _ _ _ _ _ _ _ h => h.elim
structure Fun (K : PySem.W.Frag) (x qual : Str) (st : Stmt) (f : Addr) (fd : FuncData) : Prop where
  ex : ∃ (oc : Value) (od : Option Addr) (kV doc pm : Value) (an : Option Addr) (cdv ct : Value) (osl : Array (Option Value)),
    fd = PySem.W.fnOf x qual (defArgs st) (defBody st) (defScope st) .none kV doc pm an cdv ct ∧ K.lookup f = some ⟨oc, od, .func fd, osl⟩ ∧ PySem.W.codeIn K cdv qual = true
  kp : PySem.W.keepIn K (.ref f) = true
section
variable {P : Program} {w : World} {K : PySem.W.Frag} {mg : Str → Option Value} {base : Heap}
theorem Fun.ok {x qual : Str} {st : Stmt} {f : Addr} {fd : FuncData} {N ps : List Str} {k : Nat} {sp : Sp} (F : Fun K x qual st f fd) (S : FnScope N ps (defScope st)) (len : ∀ vs H Q E, sp vs H Q E → vs.length = ps.length)
    (hbody : ∀ (cdv : Value) (A : Around) (outer : List Env) (s : Shared) (H : Hp) (vs : List V) (Q : VK) (E : XK), Room k (A.deeper (envOfC qual (defScope st) s.heap.objs.size f cdv)) → sp vs H Q E →
      ∃ t, PSs (cxOf CX0 P w K mg base N qual (defScope st) f cdv A outer s H E).nox (defBody st) t ∧ t { nx := fun _ H' => Q .non H', rt := Q } (start N vs) H) : FnOk P w K mg base CX0 (k + 1) f fd ps sp := by
  obtain ⟨oc, od, kV, doc, pm, an, cdv, ct, osl, rfl, lk, hcd⟩ := F.ex
  refine fn_of lk hcd S len fun A outer s H vs Q E hr hsp => ?_
  obtain ⟨t, h, q⟩ := hbody cdv A outer s H vs Q E hr hsp
  exact ⟨t, h.nox, q⟩
theorem Fun.binds {x qual : Str} {st : Stmt} {f : Addr} {fd : FuncData} {ps : List Str} (F : Fun K x qual st f fd)
    (h : ∀ (kV doc pm : Value) (an : Option Addr) (cdv ct : Value) (us : List Value), us.length = ps.length → bindArgs (PySem.W.fnOf x qual (defArgs st) (defBody st) (defScope st) .none kV doc pm an cdv ct) ⟨us, []⟩ = pure (ps.zip us)) : Binds K fd ps [] := by
  obtain ⟨oc, od, kV, doc, pm, an, cdv, ct, osl, rfl, lk, hcd⟩ := F.ex
  exact .all (h kV doc pm an cdv ct)
theorem fun_mk {x qual : Str} {st : Stmt} {f : Addr} {oc : Value} {od an : Option Addr} {osl : Array (Option Value)} {kV doc pm cdv ct : Value} (l : K.lookup f = some ⟨oc, od, .func (PySem.W.fnOf x qual (defArgs st) (defBody st) (defScope st) .none kV doc pm an cdv ct), osl⟩)
    (c : PySem.W.codeIn K cdv qual = true) (k : PySem.W.keepIn K (.ref f) = true) : Fun K x qual st f (PySem.W.fnOf x qual (defArgs st) (defBody st) (defScope st) .none kV doc pm an cdv ct) := ⟨⟨oc, od, kV, doc, pm, an, cdv, ct, osl, rfl, l, c⟩, k⟩
end
theorem hu_of {A : Around} {k : Nat} (hr : Room k A) : A.units + 1 < cLine := Nat.lt_of_le_of_lt (Nat.add_le_add_left (by decide : 1 ≤ 64) _) hr.units
theorem small1000 {n : Nat} (h : n ≤ 1000) : n < sizeLine := Nat.lt_of_le_of_lt h (by decide)
section
variable {X : Cx}
theorem pv (i : Nat) {x : Str} {pos : Pos} (hN : X.N[i]? = some x := by rfl) (hv : Vis X.env.scope x := by first | exact Or.inl rfl | exact Or.inr (Or.inl rfl) | exact Or.inr (Or.inr rfl)) (hd : (x == ("__debug__" : Str)) = false := by decide)
    (hcd : (x == ("__classdict__" : Str)) = false := by decide) : PE X (.Name x pos) (tVar i) := pe_var hN hv hd hcd
end
theorem iteF {A B : Prop} (h : B) : if false = true then A else B := by
  rw [if_neg Bool.false_ne_true]
  exact h
theorem iteT {A B : Prop} (h : A) : if true = true then A else B := by
  rw [if_pos rfl]
  exact h
theorem ite2 {c A B : Prop} [Decidable c] (h1 : c → A) (h2 : ¬ c → B) : if c then A else B := by
  by_cases h : c
  · rw [if_pos h]
    exact h1 h
  · rw [if_neg h]
    exact h2 h
def Same (H H' : Hp) : Prop := ∀ b o, H b = some o → H' b = some o
theorem Same.trans {H H1 H2 : Hp} (a : Same H H1) (b : Same H1 H2) : Same H H2 := fun c o h => b c o (a c o h)
end L2
set_option maxHeartbeats 4000000
namespace L2
open PySem PySem.Spec PyProof.Rows
def closes (env : Env) : List (Str × NameKind) → List (Str × Addr) → List (Str × Addr)
  | [], cs => cs
  | (n, k) :: r, cs => closes env r (if k = .free then (n, (env.cells.lookup n).getD 0) :: cs else cs)
theorem closes_ok {env : Env} : ∀ (ns : List (Str × NameKind)) (cs : List (Str × Addr)), (∀ p ∈ ns, p.2 = .free → (env.cells.lookup p.1).isSome = true) →
    (forIn ns cs fun (x : Str × NameKind) r => (do
      let mut cs := r
      if x.2 == .free then cs := (x.1, ← cellOf env x.1) :: cs
      pure (ForInStep.yield cs) : Sem (ForInStep (List (Str × Addr))))) = pure (closes env ns cs)
  | [], cs, _ => rfl
  | (n, k) :: r, cs, h => by
    have ih := fun cs => closes_ok (env := env) r cs fun p hp => h p (List.mem_cons_of_mem _ hp)
    rw [List.forIn_cons]
    by_cases hk : k = .free
    · subst hk
      have q := h (n, .free) List.mem_cons_self rfl
      obtain ⟨c, hc⟩ := Option.isSome_iff_exists.mp q
      have e : cellOf env n = pure c := by unfold cellOf; rw [hc]
      simp only [e]
      simp [closes, hc, ih]
      have := ih ((n, c) :: cs)
      simpa using this
    · have hb : (k == NameKind.free) = false := by simpa using hk
      simp [closes, hk]
      have := ih cs
      simpa using this
theorem closureFor_closes {scope : Scope} {env : Env} (h : ∀ p ∈ scope.names, p.2 = .free → (env.cells.lookup p.1).isSome = true) : closureFor scope env = pure (closes env scope.names []) := by
  have q := closes_ok (env := env) scope.names [] h
  unfold closureFor
  simp at q ⊢
  exact q
theorem closes_sub {env : Env} : ∀ (ns : List (Str × NameKind)) (cs : List (Str × Addr)), (∀ p ∈ ns, p.2 = .free → (env.cells.lookup p.1).isSome = true) → (∀ y c, cs.lookup y = some c → env.cells.lookup y = some c) →
    ∀ y c, (closes env ns cs).lookup y = some c → env.cells.lookup y = some c
  | [], cs, _, h, y, c, e => h y c e
  | (n, k) :: r, cs, h, hc, y, c, e => by
    unfold closes at e
    refine closes_sub r _ (fun p hp => h p (List.mem_cons_of_mem _ hp)) ?_ y c e
    intro y c e
    by_cases hk : k = .free
    · subst hk
      rw [if_pos rfl] at e
      obtain ⟨d, hd⟩ := Option.isSome_iff_exists.mp (h (n, .free) List.mem_cons_self rfl)
      rw [List.lookup_cons] at e
      cases q : y == n with
      | true =>
        rw [q] at e
        have : y = n := by simpa using q
        subst this
        rw [hd] at e ⊢
        exact e
      | false =>
        rw [q] at e
        exact hc y c e
    · rw [if_neg hk] at e
      exact hc y c e
theorem closes_keep {env : Env} {y : Str} : ∀ (ns : List (Str × NameKind)) (cs : List (Str × Addr)), (cs.lookup y).isSome = true → ((closes env ns cs).lookup y).isSome = true
  | [], cs, h => h
  | (n, k) :: r, cs, h => by
    unfold closes
    refine closes_keep r _ ?_
    split
    · rw [List.lookup_cons]
      split
      · rfl
      · exact h
    · exact h
theorem closes_has {env : Env} {y : Str} : ∀ (ns : List (Str × NameKind)) (cs : List (Str × Addr)), (y, NameKind.free) ∈ ns → ((closes env ns cs).lookup y).isSome = true
  | (n, k) :: r, cs, h => by
    unfold closes
    rcases List.mem_cons.mp h with e | e
    · cases e
      refine closes_keep r _ ?_
      rw [if_pos rfl, List.lookup_cons]
      simp
    · exact closes_has r _ e
def compCx (X : Cx) (scope : Scope) (N : List Str) (C : Addr) (s : Shared) (H : Hp) (ex : List Addr) (pins : List (Addr × Obj)) : Cx where
  prog := X.prog
  w := X.w
  K := X.K
  mg := X.mg
  base := X.base
  A := X.A
  N := N
  s₀ := s
  H₀ := H
  env := compEnvC scope (closes X.env scope.names []) C X.env
  outer := X.stack
  stack := X.stack
  ex := ex
  fn := fun _ => false
  calm := X.calm
  pn := X.pn ++ pins
  xe := fun _ _ => False
def cst (nT : Nat) (js : List Nat) (σ : St) : St := List.replicate nT none ++ js.map fun j => (σ[j]?).join
structure CScope (X : Cx) (scope : Scope) (T F : List Str) (js : List Nat) : Prop where
  kind : scope.kind = .function
  nocell : ∀ y ∈ scope.names, y.2 ≠ .cell
  names : ∀ x ∈ scope.names, x.2 = .local → scope.names.lookup x.1 = some .local
  free : ∀ x ∈ scope.names, x.2 = .free → X.env.kindOf x.1 = some .cell
  loc : ∀ y ∈ T, (relabel scope X.env).names.lookup y = some .local
  cel : ∀ y ∈ F, (relabel scope X.env).names.lookup y = some .cell ∧ X.env.kindOf y = some .cell ∧ (y, NameKind.free) ∈ scope.names
  all : ∀ x ∈ (relabel scope X.env).names, (x.2 = .cell ∨ x.2 = .free) → (x.1, NameKind.free) ∈ scope.names
  js : js.map (fun j => X.N[j]?) = F.map some
section
variable {X : Cx} {scope : Scope} {T F : List Str} {js : List Nat}
theorem comp_inv {pins : List (Addr × Obj)} {σ : St} {H : Hp} {s : Shared} {h1 : Heap} {tk : Nat} {fp : List Addr} {m : Str → Option Value} (S : CScope X scope T F js) (I : Inv X pins σ H s)
    (hn : h1.Ns s.heap.objs.size m) (kk : ∀ b o, s.heap.get? b = some o → h1.get? b = some o) (hf : ∀ b ∈ fp, FpOk X pins H b ∧ ∃ o, s.heap.get? b = some o ∧ ∀ v, o.data ≠ .cell v) :
    Inv (compCx X scope (T ++ F) s.heap.objs.size s H fp pins) [] (cst T.length js σ) H { s with heap := h1, toks := tk } := by
  have sub := closes_sub (env := X.env) scope.names [] (fun p hp hk => by
    obtain ⟨c, e⟩ := I.ok.has p.1 (.inl (S.free p hp hk))
    rw [e]; rfl) (fun y c e => by simp at e)
  have ltC : ∀ y c, X.env.cells.lookup y = some c → c < s.heap.objs.size := fun y c e => by
    obtain ⟨v, z⟩ := I.cell y c e
    exact z.lt
  refine ⟨⟨I.ok.mod, ?_, I.ok.glob, I.ok.blt, Nat.le_refl _, fun x y c e1 e2 => I.ok.inj x y c (sub x c e1) (sub y c e2), fun x hx => ?_, fun x c hx => absurd hx Bool.false_ne_true, I.ok.hd, I.ok.frames, .inl rfl, fun b hb => ?_, I.bs, ?_, fun b o e hb => ?_, fun b hb hs => ?_, I.stack, I.stkFree⟩,
    rfl, I.bare, Un.kept kk, ⟨m, hn, fun i x v e1 e2 e3 => ?_⟩, fun x c e => ?_, I.hok.fresh (Nat.le_refl _), fun x c e => I.freeC x c (sub x c e), fun p hp => ?_, I.hok.kept kk, ?_⟩
  · show (relabel scope X.env).kind = .function
    exact S.kind
  · have hx : (relabel scope X.env).names.lookup x = some .cell ∨ (relabel scope X.env).names.lookup x = some .free := hx
    have hm : (x, NameKind.free) ∈ scope.names := by
      rcases hx with h | h
      · exact S.all _ (PySem.mem_of_lookup h) (.inl rfl)
      · exact S.all _ (PySem.mem_of_lookup h) (.inr rfl)
    exact Option.isSome_iff_exists.mp (closes_has scope.names [] hm)
  · obtain ⟨⟨f0, f1, f2, f3, f4, f5⟩, o, ho, _⟩ := hf b hb
    exact ⟨Nat.ne_of_lt (Heap.lt_size ho), fun x c e => f4 x c (sub x c e)⟩
  · exact Nat.le_trans I.ok.bsz I.sz
  · obtain ⟨⟨f0, f1, f2, f3, f4, f5⟩, _⟩ := hf b hb
    rcases f3 with z | z
    · exact I.ok.noex b o e z
    · exact absurd (Nat.lt_of_lt_of_le (Heap.lt_size e) (Nat.le_trans I.ok.bsz z)) (Nat.lt_irrefl _)
  · obtain ⟨⟨f0, f1, f2, f3, f4, f5⟩, _⟩ := hf b hb
    rcases List.mem_cons.mp (I.stkSub b hs) with z | z
    · exact f1 z
    · exact f2 z
  · -- a name's value
    have hi : T.length ≤ i := by
      by_cases hi : i < T.length
      · unfold cst at e2
        rw [List.getElem?_append_left (by simpa using hi), List.getElem?_replicate] at e2
        split at e2 <;> cases e2
      · exact Nat.not_lt.mp (by assumption)
    obtain ⟨k, rfl⟩ : ∃ k, i = T.length + k := ⟨i - T.length, by omega⟩
    have e1 : (T ++ F)[T.length + k]? = some x := e1
    rw [List.getElem?_append_right (by assumption)] at e1
    have e1 : F[k]? = some x := by simpa using e1
    unfold cst at e2
    rw [List.getElem?_append_right (by simp)] at e2
    have e2 : (js.map fun j => (σ[j]?).join)[k]? = some (some v) := by simpa using e2
    rw [List.getElem?_map] at e2
    cases ej : js[k]? with
    | none => rw [ej] at e2; cases e2
    | some j =>
      rw [ej] at e2
      have e2 : (σ[j]?).join = some v := by simpa using e2
      have e3' : σ[j]? = some (some v) := by
        cases q : σ[j]? with
        | none => rw [q] at e2; cases e2
        | some z => rw [q] at e2; cases z with
          | none => cases e2
          | some z => simp at e2; rw [e2]
      have eN : X.N[j]? = some x := by
        have q := congrArg (fun l => l[k]?) S.js
        simp only [List.getElem?_map, ej, e1] at q
        simpa using q
      obtain ⟨c1, c2, c3⟩ := S.cel x (List.mem_of_getElem? e1)
      obtain ⟨m0, hn0, hl⟩ := I.loc
      obtain ⟨u, ru, lk⟩ := hl j x v eN e3' (.inr (.inl c2))
      refine ⟨u, ru, ?_⟩
      rcases lk with ⟨z, _⟩ | ⟨_, c, ec, hc⟩
      · rw [c2] at z; cases z
      · obtain ⟨c', ec'⟩ := Option.isSome_iff_exists.mp (closes_has (env := X.env) scope.names [] c3)
        have := sub x c' ec'
        rw [ec] at this; cases this
        refine .inr ⟨.inl c1, c, ec', ?_⟩
        obtain ⟨o, ho, hd⟩ := hc
        exact ⟨o, kk _ _ ho, hd⟩
  · obtain ⟨v, o, ho, hd⟩ := I.cell x c (sub x c e)
    exact ⟨v, o, kk _ _ ho, hd⟩
  · have hp : p ∈ (X.pn ++ pins) ++ [] := hp
    rw [List.append_nil] at hp
    obtain ⟨e, n, ne, nf, d⟩ := I.pin p hp
    refine ⟨kk _ _ e, n, Nat.ne_of_lt (Heap.lt_size e), fun z => ?_, d⟩
    rcases List.mem_cons.mp (I.stkSub p.1 z) with q | q
    · exact ne q
    · exact nf q
  · unfold cst
    show _ = (T ++ F).length
    have q := congrArg List.length S.js
    simp at q
    simp [q]
def PIf (X : Cx) (ifs : List Expr) (t : TT) : Prop :=
  ∀ (pins : List (Addr × Obj)) (s : Shared) (σ : St) (H : Hp) (Q : Bool → Hp → Prop), Inv X pins σ H s → t σ H Q →
    wpAny (model X.prog X.w) X.A (forIn ifs true fun c r => if r = true then do let ok ← isTrue c X.env (eval c X.env); pure (ForInStep.yield ok) else pure (ForInStep.yield r)) (TP X pins σ Q) X.xe s
def tYes : TT := fun _ H Q => Q true H
theorem pif_nil : PIf X [] tYes := fun pins s σ H Q I h => wpAny_tests_nil ⟨H, I, h⟩
theorem pif_one {c : Expr} {t : TT} (h : PT X c t) : PIf X [c] t := fun pins s σ H Q I hw => wpAny_tests_one (h pins s σ H Q I hw)
def cturn (g : TG) (ti : TT) (te : TE) (D : Addr) (x : V) (σ : St) (ys : List V) (H : Hp) (N : St → List V → Hp → Prop) : Prop :=
  g x σ H fun σ2 H2 => ti σ2 H2 fun b H3 => if b = true then te σ2 H3 fun y H4 => H4 D = some (.lst ys) ∧ ys.length < sizeLine ∧ N σ2 (ys ++ [y]) (upd H4 D (.lst (ys ++ [y]))) else N σ2 ys H3
def cgo (J : It) (g : TG) (ti : TT) (te : TE) (D : Addr) (σ : St) (H : Hp) (Q : VK) : Prop :=
  ∃ W : Nat → Nat → St → List V → Hp → Prop, (∃ m, W 0 m σ [] (upd H D (.lst []))) ∧ ∀ i m σ ys H, W i m σ ys H → H D = some (.lst ys) ∧
    ((J.stop i H ∧ Q (.ref D) H) ∨ (J.go i H ∧ ∃ N : St → List V → Hp → Prop, (∀ σ' ys' H', N σ' ys' H' → ∃ m', m' < m ∧ W (i + 1) m' σ' ys' H') ∧ ∀ x H', J.yld i H x H' → cturn g ti te D x σ ys H' N))
def tComp (wi : TI) (g : TG) (ti : TT) (te : TE) (nT : Nat) (js : List Nat) : TE := fun σ H Q => wi σ H fun J H1 => ∀ D, H1 D = none → cgo J g ti te D (cst nT js σ) H1 Q
theorem comp_out {pins : List (Addr × Obj)} {σ σ' : St} {H H' : Hp} {s s' : Shared} {h' : Heap} {N : List Str} {fp : List Addr} (I : Inv X pins σ H s) (hf : ∀ b ∈ fp, FpOk X pins H b)
    (J : Inv (compCx X scope N s.heap.objs.size s H fp pins) [] σ' H' s') (sb : Heap.SameBut s.heap.objs.size s'.heap h') : Inv X pins σ H' { s' with heap := h' } := by
  have ne : ∀ b o, s.heap.get? b = some o → b ≠ s.heap.objs.size := fun b o e => Nat.ne_of_lt (Heap.lt_size e)
  have u := J.base
  have u' : Un (frs X.stack) fp H H' s.heap h' :=
    ⟨fun b o e n h1 h2 => sb.extBut b o (ne b o e) (u.keep b o e n h1 h2), fun b o e n h1 h2 => by
      obtain ⟨sl, q⟩ := u.slot b o e n h1 h2
      exact ⟨sl, sb.extBut b _ (ne b o e) q⟩, u.free, fun b o e h => by
      obtain ⟨o', q⟩ := u.there b o e h
      exact ⟨o', sb.extBut b _ (ne b o e) q⟩, u.tups, u.frzs, u.tbls⟩
  have nC : H' s.heap.objs.size = none := J.free
  have hok : HOk X.prog X.w H' h' := fun b o e => by
    refine (J.hok b o e).stay (fun c v hc q => sb.extBut c v ?_ q) (fun _ q => q) fun _ _ q => q
    rcases hc with z | z
    · rw [z]; intro z'; rw [z', nC] at e; cases e
    · intro z'; rw [z', nC] at z; cases z
  exact I.call' (s' := { s' with heap := h' }) J.os u' hok J.bare fun b hb => by
    obtain ⟨f0, f1, f2, f3, f4, f5⟩ := hf b hb
    exact ⟨f3, f1, f4, f5⟩
theorem comp_go {tg elt iter : Expr} {ifs : List Expr} {pos : Pos} {g : TG} {ti : TT} {te : TE} {wi : TI} {pins : List (Addr × Obj)} {σ : St} {H : Hp} {s : Shared} {use : Option (Value → Sem Unit)} {QQ : Value → Shared → Prop} {Q : VK} (S : CScope X scope T F js) (hc : X.calm = true)
    (hi : PI X tg iter wi) (hg : ∀ C s H ex pins, PG (compCx X scope (T ++ F) C s H ex pins) tg g) (hif : ∀ C s H ex pins, PIf (compCx X scope (T ++ F) C s H ex pins) ifs ti) (he : ∀ C s H ex pins, PE (compCx X scope (T ++ F) C s H ex pins) elt te)
    (I : Inv X pins σ H s) (h : tComp wi g ti te T.length js σ H Q)
    (fin : ∀ (D C : Addr) (s' : Shared) (H' : Hp) (m : Str → Option Value), s'.heap.Ns C m → Q (.ref D) H' → FpOk X pins H' C → (∀ h', Heap.SameBut C s'.heap h' → Inv X pins σ H' { s' with heap := h' }) →
      compPost (model X.prog X.w) X.A X.xe use QQ (.ref D) C (.ok .next) s')
    (hs : ∀ x, foldedSetIterable iter X.env x = pure x) :
    wpAny (model X.prog X.w) X.A (comprehension (.ListComp elt [⟨tg, iter, ifs, 0⟩] scope pos) scope X.env (firstIterPos [⟨tg, iter, ifs, 0⟩] pos) (newList []) false (eval iter X.env) use) QQ X.xe s := by
  refine wpAny_comprehension_free (use := use) rfl hs (closureFor_closes fun p hp hk => ?_) S.kind S.names (thn (hi pins s σ H _ I h) fun v s1 h1 => thn h1 fun itv s2 h2 => ?_)
  · obtain ⟨c, e⟩ := I.ok.has p.1 (.inl (S.free p hp hk))
    rw [e]; rfl
  obtain ⟨it, fp, tn, J, H2, rfl, I2, Tn, st2, f2, h2⟩ := h2
  obtain ⟨W, ⟨m0, w0⟩, turn⟩ := h2 s2.heap.objs.size I2.fresh
  refine wpAny_newObj_type (wpAny_newFunctionEnv S.nocell (by intro y hy; simp at hy) (fun h₁ hns₁ hsb₁ => ?_) S.kind)
  have I3 := I2.lnew (t' := s2.toks) (ys := []) (its := []) Paired.nil (Nat.zero_le _)
  generalize hs3 : ({ s2 with heap := s2.heap.push { cls := .type "list", data := .seq ([] : List Value).toArray }, toks := s2.toks } : Shared) = s3 at I3
  have hf3 : ∀ b ∈ fp, FpOk X pins (upd H2 s2.heap.objs.size (.lst [])) b ∧ ∃ o, s3.heap.get? b = some o ∧ ∀ v, o.data ≠ .cell v := fun b hb => by
    obtain ⟨f0, fr⟩ := f2 b hb
    obtain ⟨o, e, d⟩ := Tn.obj _ _ st2 b hb
    refine ⟨⟨by rw [upd_ne (Nat.ne_of_lt (Heap.lt_size e))]; exact f0, fr⟩, o, ?_, d⟩
    rw [← hs3]
    exact Heap.get?_push_of_some _ e
  have e3 : s3.heap = s2.heap.push { cls := .type "list", data := .seq ([] : List Value).toArray } := by rw [← hs3]
  have kk : ∀ b o, s3.heap.get? b = some o → h₁.get? b = some o := fun b o e => by
    rw [e3] at e
    exact hsb₁.extBut b o (Nat.ne_of_lt (Heap.lt_size e)) (Heap.get?_push_of_some _ e)
  have hns : h₁.Ns s3.heap.objs.size (fun x => ([] : List (Str × Value)).reverse.lookup x) := by rw [e3]; exact hns₁
  have I4 := comp_inv (tk := s3.toks + ([] : List (Str × Value)).length) S I3 hns kk hf3
  have stat : ∀ {H' : Hp} {pl : List (Addr × Obj)}, (∀ p ∈ pl, ∀ b ∈ fp, p.1 ≠ b) → (∀ b ∈ fp, H' b = none) → ∀ b ∈ fp, FpOk (compCx X scope (T ++ F) s3.heap.objs.size s3 (upd H2 s2.heap.objs.size (.lst [])) fp pins) pl H' b := fun {H' pl} hp hn b hb => by
    obtain ⟨⟨f0, f1, f2, f3, f4, f5⟩, o, e, d⟩ := hf3 b hb
    obtain ⟨x1, x2⟩ := I4.ok.exf b hb
    refine ⟨hn b hb, x1, I4.ok.exfs b hb, .inl hb, x2, fun p hq => ?_⟩
    rcases List.mem_append.mp hq with z | z
    · exact f5 p z
    · exact hp p z b hb
  have loop : codeAny (model X.prog X.w) X.A (.compLoop (.ListComp elt [⟨tg, iter, ifs, 0⟩] scope pos) 0 (.ref it) (.ref s2.heap.objs.size) (compEnvC scope (closes X.env scope.names []) s3.heap.objs.size X.env))
      (compPost (model X.prog X.w) X.A X.xe use QQ (.ref s2.heap.objs.size) s3.heap.objs.size) { s3 with heap := h₁, toks := s3.toks + ([] : List (Str × Value)).length } := by
    refine codeAny_loop rfl (fun n s' => ∃ i σ' ys H', Inv (compCx X scope (T ++ F) s3.heap.objs.size s3 (upd H2 s2.heap.objs.size (.lst [])) fp pins) [] σ' H' s' ∧ tn i s'.heap ∧ (∀ b ∈ fp, H' b = none) ∧ W i n σ' ys H') ?_ m0 ⟨0, _, [], _, I4, ?_, fun b hb => (hf3 b hb).1.1, w0⟩
    · rintro n s5 ⟨i, σ5, ys, H5, I5, st5, fr5, w5⟩
      show wpAny _ X.A ((compTurn (.ListComp elt [⟨tg, iter, ifs, 0⟩] scope pos) 0 (.ref it) (.ref s2.heap.objs.size) (compEnvC scope (closes X.env scope.names []) s3.heap.objs.size X.env)).onRaise (fun x => do noteFrame x _; theTreesLotGoes x)) _ _ s5
      refine wpAny_noted ?_
      rw [compTurn_list]
      refine wpAny_bind (wpAny_standAt (wpAny_bind ?_))
      obtain ⟨hD, tu⟩ := turn i n σ5 ys H5 w5
      rcases tu with ⟨stop, qq⟩ | ⟨go, NN, hNN, step⟩
      · refine thn (Tn.done (compCx X scope (T ++ F) s3.heap.objs.size s3 (upd H2 s2.heap.objs.size (.lst [])) fp pins) rfl rfl rfl hc i [] s5 σ5 H5 _ I5 (stat (pl := []) (fun _ hp => absurd hp List.not_mem_nil) fr5) st5 stop) fun r s6 ⟨hr, I6⟩ => ?_
        subst hr
        refine wpAny_pure ?_
        obtain ⟨m6, hn6, _⟩ := I6.loc
        have lC : s.heap.objs.size ≤ s.heap.objs.size := Nat.le_refl _
        exact fin _ _ s6 H5 m6 hn6 qq (I3.fpOk (Nat.le_refl _) I6.free) fun h' sb => comp_out I3 (fun b hb => (hf3 b hb).1) I6 sb
      · refine thn (Tn.item (compCx X scope (T ++ F) s3.heap.objs.size s3 (upd H2 s2.heap.objs.size (.lst [])) fp pins) rfl rfl rfl hc i [] s5 σ5 H5 _ I5 (stat (pl := []) (fun _ hp => absurd hp List.not_mem_nil) fr5) st5 go) fun r s6 ⟨u, hr, h6⟩ => ?_
        subst hr
        refine wpAny_bind (thn h6 fun _ s7 ⟨x, H7, I7, r7, y7, st7, fr7⟩ => ?_)
        have I7' := I7.pinned (stat (pl := []) (fun _ hp => absurd hp List.not_mem_nil) fr7) (Tn.obj _ _ st7)
        have back : ∀ {σ8 : St} {H8 : Hp} {s8 : Shared} {ys8 : List V} {m' : Nat}, Inv (compCx X scope (T ++ F) s3.heap.objs.size s3 (upd H2 s2.heap.objs.size (.lst [])) fp pins) ([] ++ pinsAt fp s7.heap) σ8 H8 s8 → m' < n → W (i + 1) m' σ8 ys8 H8 →
            ∃ m, m < n ∧ ∃ i σ' ys H', Inv (compCx X scope (T ++ F) s3.heap.objs.size s3 (upd H2 s2.heap.objs.size (.lst [])) fp pins) [] σ' H' s8 ∧ tn i s8.heap ∧ (∀ b ∈ fp, H' b = none) ∧ W i m σ' ys H' := fun {σ8 H8 s8 ys8 m'} I8 hm w8 => by
          refine ⟨m', hm, i + 1, σ8, ys8, H8, I8.unpinned, Tn.keep _ _ _ st7 fun b hb o e => (I8.pin (b, o) (List.mem_append_right _ (List.mem_append_right _ (mem_pinsAt hb e)))).1, fun b hb => ?_, w8⟩
          obtain ⟨o, e, d⟩ := Tn.obj _ _ st7 b hb
          exact (I8.pin (b, o) (List.mem_append_right _ (List.mem_append_right _ (mem_pinsAt hb e)))).2.1
        refine wpAny_bind (wpAny_mono (hg _ _ _ _ _ _ s7 σ5 H7 x u _ I7' r7 (step x H7 y7)) (fun _ s8 ⟨σ8, H8, I8, q8⟩ => ?_) fun _ _ z => z.elim)
        refine wpAny_bind (wpAny_mono (hif _ _ _ _ _ _ s8 σ8 H8 _ I8 q8) (fun ok s9 ⟨H9, I9, q9⟩ => ?_) fun _ _ z => z.elim)
        cases ok with
        | false =>
          rw [if_neg Bool.false_ne_true] at q9
          obtain ⟨m', hm, w9⟩ := hNN _ _ _ q9
          exact wpAny_pure ⟨rfl, back I9 hm w9⟩
        | true =>
          rw [if_pos rfl] at q9
          refine wpAny_bind (wpAny_bind (wpAny_mono (he _ _ _ _ _ _ s9 σ8 H9 _ I9 q9) (fun yv s10 ⟨y, H10, I10, r10, d10, l10, q10⟩ => ?_) fun _ _ z => z.elim))
          obtain ⟨m', hm, w10⟩ := hNN _ _ _ q10
          obtain ⟨z10, its, n10, rv, el, eo⟩ := I10.lstM d10
          refine wpAny_bind (wpAny_list_append_plain (items := its.toArray) ⟨n10, eo⟩ (fun h' hl' sb' => ?_) (by simp; omega))
          obtain ⟨n11, eo'⟩ := hl'
          have I11 := I10.write (x := s2.heap.objs.size) (e := s2.heap.objs.size) (o := .lst (ys ++ [y])) (t' := s10.toks) (by rw [d10]; exact trivial) (.inl rfl) (fun b o hb e => sb'.extBut b o hb e) ⟨_, eo'⟩ ⟨by simp; assumption, its ++ [yv], n11, rv.append (.cons r10 .nil), by simpa using eo'⟩
          exact wpAny_pure (wpAny_pure ⟨rfl, back I11 hm w10⟩)
    · refine Tn.keep _ _ _ st2 fun b hb o e => kk b o ?_
      rw [e3]
      exact Heap.get?_push_of_some _ e
  have st1 : tn 0 h₁ := Tn.keep _ _ _ st2 fun b hb o e => kk b o (by rw [e3]; exact Heap.get?_push_of_some _ e)
  exact codeAny_compStart_list loop (Tn.self _ 0 _ _ _ st1 loop)
theorem pe_comp {tg elt iter : Expr} {ifs : List Expr} {pos : Pos} {g : TG} {ti : TT} {te : TE} {wi : TI} (S : CScope X scope T F js) (hc : X.calm = true)
    (hi : PI X tg iter wi) (hg : ∀ C s H ex pins, PG (compCx X scope (T ++ F) C s H ex pins) tg g) (hif : ∀ C s H ex pins, PIf (compCx X scope (T ++ F) C s H ex pins) ifs ti) (he : ∀ C s H ex pins, PE (compCx X scope (T ++ F) C s H ex pins) elt te)
    (hs : ∀ x, foldedSetIterable iter X.env x = pure x := by intro _; rfl) : PE X (.ListComp elt [⟨tg, iter, ifs, 0⟩] scope pos) (tComp wi g ti te T.length js) := by
  intro pins s σ H Q I h
  rw [eval_ListComp]
  exact comp_go (use := none) S hc hi hg hif he I h (fun D C s' H' m hn q _ hinv => ⟨m, hn, fun h' sb => ⟨.ref D, H', hinv h' sb, rfl, q⟩⟩) hs
theorem ps_comp {i : Nat} {x : Str} {pos' spos : Pos} {tg elt iter : Expr} {ifs : List Expr} {pos : Pos} {g : TG} {ti : TT} {te : TE} {wi : TI} (hN : X.N.Nodup) (hx1 : X.N[i]? = some x) (hx2 : Loc X.env.scope x) (S : CScope X scope T F js) (hc : X.calm = true)
    (hi : PI X tg iter wi) (hg : ∀ C s H ex pins, PG (compCx X scope (T ++ F) C s H ex pins) tg g) (hif : ∀ C s H ex pins, PIf (compCx X scope (T ++ F) C s H ex pins) ifs ti) (he : ∀ C s H ex pins, PE (compCx X scope (T ++ F) C s H ex pins) elt te)
    (hsw : swapsWith (.ListComp elt [⟨tg, iter, ifs, 0⟩] scope pos) (some (.Name x pos')) spos.line X.env = pure true := by rfl)
    (hf : X.fn x = true ∨ X.env.scope.names.lookup x = some .local := by first | exact .inl rfl | exact .inr rfl | assumption)
    (hs : ∀ x, foldedSetIterable iter X.env x = pure x := by intro _; rfl) : PS X (.Assign [.Name x pos'] (.ListComp elt [⟨tg, iter, ifs, 0⟩] scope pos) spos) (tAsg (tComp wi g ti te T.length js) (gName i)) := by
  intro pins s σ H D I h
  rw [exec_Assign_Name_used _ _ _ _ hsw]
  refine wpAny_bind (wpAny_standAt (wpAny_bind ?_))
  show wpAny _ X.A (do let _ ← comprehension (.ListComp elt [⟨tg, iter, ifs, 0⟩] scope pos) scope X.env _ (newList []) false (eval iter X.env) (some (assign (.Name x pos') X.env))) _ _ s
  refine wpAny_bind (wpAny_mono (comp_go (use := some (assign (.Name x pos') X.env)) (QQ := fun _ s' => SP X pins D .next s') S hc hi hg hif he I h (fun d C s' H' m hn q fC hinv => ?_) hs) (fun _ s' hq => wpAny_pure (wpAny_pure hq)) fun _ _ e => e)
  have I1 : Inv X pins σ H' s' := hinv s'.heap (Heap.SameBut.refl ..)
  obtain ⟨oC, es, ep, ho, hd, hr⟩ := id hn
  obtain ⟨f0, f1, f2, f3, f4, f5⟩ := fC
  have I2 : Inv X (pins ++ [(C, oC)]) σ H' s' := I1.pins_of fun p hp => (List.mem_append.mp hp).elim (fun z => I1.pin p (List.mem_append_right _ z)) fun z => by
    have e := List.mem_singleton.mp z
    subst e
    exact ⟨ho, f0, f1, f2, fun v z => by rw [hd] at z; cases z⟩
  show wpAny _ X.A (assign (.Name x pos') X.env (.ref d)) _ _ _
  refine wpAny_assign_Name (store_ok (v := .ref d) I2 hN hx1 hx2 rfl (fun s'' I'' => ?_) hf)
  have e2 := (I''.pin (C, oC) (List.mem_append_right _ (List.mem_append_right _ (List.mem_singleton.mpr rfl)))).1
  refine ⟨m, ⟨oC, es, ep, e2, hd, hr⟩, fun h' sb => ?_⟩
  exact ⟨_, H', I''.unpinned.turned (t' := s''.toks) (it := C) (fun b o hb e => sb.extBut b o hb e) f0 f1 f3 f4 f5, q⟩
end
section
variable {g : TG} {ti : TT} {te : TE} {Q : VK} {D : Addr} {σ : St} {H : Hp}
theorem comp_list {K : PySem.W.Frag} {a : Addr} {xs : List V} (Pv : Nat → St → List V → Hp → Prop) (h0 : Pv 0 σ [] (upd H D (.lst []))) (hl : ∀ i σ ys H, i ≤ xs.length → Pv i σ ys H → SqL K H a xs ∧ H D = some (.lst ys))
    (hs : ∀ i x σ ys H, xs[i]? = some x → Pv i σ ys H → cturn g ti te D x σ ys H (Pv (i + 1))) (hd : ∀ σ ys H, Pv xs.length σ ys H → Q (.ref D) H) :
    cgo (Itl K a) g ti te D σ H Q := by
  refine ⟨fun i m σ ys H => m = xs.length - i ∧ i ≤ xs.length ∧ Pv i σ ys H, ⟨xs.length, by simp, Nat.zero_le _, h0⟩, ?_⟩
  rintro i m σ ys H ⟨rfl, hi, p⟩
  obtain ⟨q, hD⟩ := hl i σ ys H hi p
  refine ⟨hD, ?_⟩
  by_cases hlt : i < xs.length
  · refine .inr ⟨⟨xs, xs[i], q, by simp [hlt]⟩, Pv (i + 1), fun σ' ys' H' p' => ⟨xs.length - (i + 1), by omega, rfl, hlt, p'⟩, fun x H' y => ?_⟩
    obtain ⟨e, y⟩ := y
    subst e
    exact (hs i x σ ys _ (y xs q) p)
  · have e : i = xs.length := by omega
    subst e
    exact .inl ⟨⟨xs, q, Nat.le_refl _⟩, hd σ ys H p⟩
theorem comp_tup {K : PySem.W.Frag} {a : Addr} {xs : List V} (Pv : Nat → St → List V → Hp → Prop) (h0 : Pv 0 σ [] (upd H D (.lst []))) (hl : ∀ i σ ys H, i ≤ xs.length → Pv i σ ys H → SqT K H a xs ∧ H D = some (.lst ys))
    (hs : ∀ i x σ ys H, xs[i]? = some x → Pv i σ ys H → cturn g ti te D x σ ys H (Pv (i + 1))) (hd : ∀ σ ys H, Pv xs.length σ ys H → Q (.ref D) H) :
    cgo (Itt K a) g ti te D σ H Q := by
  refine ⟨fun i m σ ys H => m = xs.length - i ∧ i ≤ xs.length ∧ Pv i σ ys H, ⟨xs.length, by simp, Nat.zero_le _, h0⟩, ?_⟩
  rintro i m σ ys H ⟨rfl, hi, p⟩
  obtain ⟨q, hD⟩ := hl i σ ys H hi p
  refine ⟨hD, ?_⟩
  by_cases hlt : i < xs.length
  · refine .inr ⟨⟨xs, xs[i], q, by simp [hlt]⟩, Pv (i + 1), fun σ' ys' H' p' => ⟨xs.length - (i + 1), by omega, rfl, hlt, p'⟩, fun x H' y => ?_⟩
    obtain ⟨e, y⟩ := y
    subst e
    exact (hs i x σ ys _ (y xs q) p)
  · have e : i = xs.length := by omega
    subst e
    exact .inl ⟨⟨xs, q, Nat.le_refl _⟩, hd σ ys H p⟩
theorem comp_range {lo : Int} {n : Nat} (Pv : Nat → St → List V → Hp → Prop) (h0 : Pv 0 σ [] (upd H D (.lst []))) (hl : ∀ i σ ys H, i ≤ n → Pv i σ ys H → H D = some (.lst ys))
    (hs : ∀ i σ ys H, i < n → Pv i σ ys H → cturn g ti te D (.int (lo + i)) σ ys H (Pv (i + 1))) (hd : ∀ σ ys H, Pv n σ ys H → Q (.ref D) H) :
    cgo (Itr lo n) g ti te D σ H Q := by
  refine ⟨fun i m σ ys H => m = n - i ∧ i ≤ n ∧ Pv i σ ys H, ⟨n, by simp, Nat.zero_le _, h0⟩, ?_⟩
  rintro i m σ ys H ⟨rfl, hi, p⟩
  have hD := hl i σ ys H hi p
  refine ⟨hD, ?_⟩
  by_cases hlt : i < n
  · refine .inr ⟨hlt, Pv (i + 1), fun σ' ys' H' p' => ⟨n - (i + 1), by omega, rfl, hlt, p'⟩, fun x H' y => ?_⟩
    obtain ⟨e, y⟩ := y
    subst e y
    exact (hs i σ ys _ hlt p)
  · have e : i = n := by omega
    subst e
    exact .inl ⟨Nat.le_refl _, hd σ ys H p⟩
end
end L2
set_option maxHeartbeats 4000000
namespace L2
open PySem PySem.Spec PyProof.Rows
mutual
inductive Rep (K : PySem.W.Frag) (H : Hp) : V → PyData → Prop
  | non : Rep K H .non .none
  | bl (b : Bool) : Rep K H (.bl b) (.bool b)
  | int (i : Int) : Rep K H (.int i) (.int i)
  | str (x : Str) : Rep K H (.str x) (.str x)
  | lst {a : Addr} {xs : List V} {ds : List PyData} : SqL K H a xs → RepAll K H xs ds → Rep K H (.ref a) (.list ds)
  | tup {a : Addr} {xs : List V} {ds : List PyData} : SqT K H a xs → RepAll K H xs ds → Rep K H (.ref a) (.tuple ds)
inductive RepAll (K : PySem.W.Frag) (H : Hp) : List V → List PyData → Prop
  | nil : RepAll K H [] []
  | cons {x : V} {xs : List V} {d : PyData} {ds : List PyData} : Rep K H x d → RepAll K H xs ds → RepAll K H (x :: xs) (d :: ds)
end
mutual
theorem Rep.reads {X : Cx} {pins : List (Addr × Obj)} {σ : St} {H : Hp} {s : Shared} (I : Inv X pins σ H s) : ∀ {v : V} {d : PyData} {u : Value}, Rep X.K H v d → RelV v u → ∃ as, Reads s.heap u d as
  | _, _, _, .non, r => by cases r; exact ⟨_, .none⟩
  | _, _, _, .bl b, r => by cases r; exact ⟨_, .bool b⟩
  | _, _, _, .int i, r => by obtain ⟨t, rfl⟩ := r; exact ⟨_, .int i t⟩
  | _, _, _, .str x, r => by obtain ⟨t, rfl⟩ := r; exact ⟨_, .str x t⟩
  | _, _, _, .lst hq hx, r => by
    cases r
    obtain ⟨its, rv, hl, hz⟩ := I.list hq
    obtain ⟨as, ra⟩ := RepAll.reads I hx rv
    obtain ⟨o, ho, hc, n, hd⟩ := hl.isList
    exact ⟨_, .list ho hc hd ra⟩
  | _, _, _, .tup hq hx, r => by
    cases r
    obtain ⟨its, rv, hl, hz⟩ := I.tuple hq
    obtain ⟨as, ra⟩ := RepAll.reads I hx rv
    obtain ⟨o, ho, hc, n, hd⟩ := hl
    exact ⟨_, .tuple ho hc hd ra⟩
theorem RepAll.reads {X : Cx} {pins : List (Addr × Obj)} {σ : St} {H : Hp} {s : Shared} (I : Inv X pins σ H s) : ∀ {xs : List V} {ds : List PyData} {us : List Value}, RepAll X.K H xs ds → Vals xs us → ∃ as, ReadsAll s.heap us ds as
  | _, _, _, .nil, .nil => ⟨_, .nil⟩
  | _, _, _, .cons h t, .cons r rs => by
    obtain ⟨a, ra⟩ := Rep.reads I h r
    obtain ⟨b, rb⟩ := RepAll.reads I t rs
    exact ⟨_, .cons ra rb⟩
end
section
variable {X : Cx} {a b c e : Expr} {ta tb tc te : TE} {pos p2 : Pos}
inductive REqDP (K : PySem.W.Frag) (x : V) (y : V) (H : Hp) (Q : VK) : Prop
  | mk (da db : _) : (Rep K H x da) → (Rep K H y db) → (da.canLay0 = true) → (db.canLay0 = true) → (da.depth ≤ 20) → (Q (.bl (PyData.eqv da db)) H) → REqDP K x y H Q
def rEqD (K : PySem.W.Frag) : R2 := fun x y H Q => REqDP K x y H Q
inductive RNeDP (K : PySem.W.Frag) (x : V) (y : V) (H : Hp) (Q : VK) : Prop
  | mk (da db : _) : (Rep K H x da) → (Rep K H y db) → (da.canLay0 = true) → (db.canLay0 = true) → (da.depth ≤ 20) → (Q (.bl (!PyData.eqv da db)) H) → RNeDP K x y H Q
def rNeD (K : PySem.W.Frag) : R2 := fun x y H Q => RNeDP K x y H Q
theorem op_eqD (hu : X.A.units + 64 < cLine) : OpR X (compareOp .Eq) (rEqD X.K) := by
  intro pins s σ H x y u v Q I rx ry h
  obtain ⟨da, db, h1, h2, h3, h4, h5, q⟩ := h
  obtain ⟨as, r1⟩ := h1.reads I rx
  obtain ⟨bs, r2⟩ := h2.reads I ry
  exact SeqAt.compareEq_reads r1 r2 h3 h4 (by omega) ⟨.bl _, H, I, rfl, q⟩
theorem op_neD (hu : X.A.units + 64 < cLine) : OpR X (compareOp .NotEq) (rNeD X.K) := by
  intro pins s σ H x y u v Q I rx ry h
  obtain ⟨da, db, h1, h2, h3, h4, h5, q⟩ := h
  obtain ⟨as, r1⟩ := h1.reads I rx
  obtain ⟨bs, r2⟩ := h2.reads I ry
  exact SeqAt.compareNe_reads r1 r2 h3 h4 (by omega) ⟨.bl _, H, I, rfl, q⟩
theorem call_isi : CallR X (.builtin "isinstance") (fun xs H Q => ∃ (x : V) (t : Value) (c : String) (b : Bool), xs = [x, .ty c] ∧ TyOf X.K H x t ∧ PySem.W.kitOne X.K t (.type c) = some b ∧ Q (.bl b) H) := by
  intro pins s σ H xs us Q I r h
  obtain ⟨x, t, c, b, rfl, ty, e, q⟩ := h
  obtain ⟨u, v, rfl, rx, ry⟩ := vals2 r
  cases ry
  exact isinst_ok I rx ty e fun tk => ⟨.bl b, H, I.tok tk, rfl, q⟩
theorem pe_ty {x : Str} {T : String} (hg : Gl X x) (hm : X.mg x = none) (hv : bootBuiltins x = some (.type T)) (hn : x ≠ "__name__" := by decide) (hd : (x == ("__debug__" : Str)) = false := by decide) : PE X (.Name x pos) (tC (.ty T)) :=
  fun pins s σ H Q I h => ld_blt I hg hm hv ⟨.ty T, H, I, rfl, h⟩ hn hd
def rints (i : Int) (n : Nat) : List Int := (List.range n).map fun (k : Nat) => i + (k : Int)
theorem call_list_rng (hc : X.calm = true) : CallR X (.type "list") (fun xs H Q => ∃ (p : Addr) (i j : Int), xs = [.ref p] ∧ H p = some (.rng i j) ∧ (-(2 ^ 62) ≤ i ∧ i < 2 ^ 62 ∧ -(2 ^ 62) ≤ j ∧ j < 2 ^ 62) ∧ j - i ≤ 1000000 ∧ ∀ l, H l = none → Q (.ref l) (upd H l (.lst ((rints i (j - i).toNat).map V.int)))) := by
  intro pins s σ H xs us Q I r h
  obtain ⟨p, i, j, rfl, hp, ⟨b1, b2, b3, b4⟩, hj, q⟩ := h
  obtain ⟨u, rfl, rx⟩ := vals1 r
  cases rx
  obtain ⟨t, u, v, ho⟩ := (show ObjOk X.prog X.w H s.heap p (.rng i j) from I.hok p _ hp)
  refine call_list_range (n := (j - i).toNat) (I.ok.hd hc) (show IsRange s.heap p i j 1 t u v from ho) (small_one b1 b2 b3 b4) (by rw [rangeSize_one]; split <;> omega) (by omega) fun h' tk acc c' hk hS hacc => ?_
  have len : acc.toList.length = (j - i).toNat := by simpa using hacc.1
  refine ⟨.ref s.heap.objs.size, _, I.laid (o := .lst ((rints i (j - i).toNat).map V.int)) hk (Nat.le_refl _) ⟨?_, acc.toList, c', ?_, by simpa using hS⟩, rfl, q _ I.fresh⟩
  · simp [rints, sizeLine_eq]; exact Int.le_trans (by assumption) (by decide)
  · have key : ∀ (l : List Value) (k : Nat) (i : Int), (∀ (n : Nat) (x : Value), l[n]? = some x → ∃ t, x = .int (i + n) t) → l.length = k → Vals ((rints i k).map V.int) l := by
      intro l
      induction l with
      | nil => intro k i _ e; cases e; exact .nil
      | cons x l ih =>
        intro k i h e
        cases k with
        | zero => cases e
        | succ k =>
          have h0 := h 0 x rfl
          have e1 : rints i (k + 1) = i :: rints (i + 1) k := by
            simp only [rints, List.range_succ_eq_map, List.map_cons, List.map_map]
            refine congr (congrArg List.cons (by simp)) (List.map_congr_left fun a _ => ?_)
            simp only [Function.comp]; omega
          rw [e1]
          refine .cons (by obtain ⟨t, q⟩ := h0; exact ⟨t, by simpa using q⟩) (ih k (i + 1) (fun n y hy => ?_) (by simpa using e))
          obtain ⟨t, q⟩ := h (n + 1) y (by simpa using hy)
          exact ⟨t, by rw [q]; congr 1; omega⟩
    refine key acc.toList _ i (fun n x hx => ?_) len
    obtain ⟨t, q⟩ := hacc.2 n x (by simpa using hx)
    exact ⟨t, by rw [q, Int.mul_one]⟩
inductive RCatTTP (K : PySem.W.Frag) (x : V) (y : V) (H : Hp) (Q : VK) : Prop
  | mk (a b : Addr) (xs ys : List V) : (x = .ref a) → (y = .ref b) → (SqT K H a xs) → (SqT K H b ys) → (xs.length + ys.length ≤ sizeLine) → ((xs = [] → Q (.ref b) H)) → ((xs ≠ [] → ys = [] → Q (.ref a) H)) → ((xs ≠ [] → ys ≠ [] → ∀ p, H p = none → Q (.ref p) (upd H p (.tup (xs ++ ys))))) → RCatTTP K x y H Q
def rCatTT (K : PySem.W.Frag) : R2 := fun x y H Q => RCatTTP K x y H Q
theorem op_catTT : OpR X (binaryOp .Add) (rCatTT X.K) := by
  intro pins s σ H x y u v Q I rx ry h
  obtain ⟨p, q, xs, ys, rfl, rfl, hx, hy, hz, h1, h2, h3⟩ := h
  cases rx; cases ry
  obtain ⟨its, r1, t1, z1⟩ := I.tuple hx
  obtain ⟨its2, r2, t2, z2⟩ := I.tuple hy
  have l1 := r1.length
  have l2 := r2.length
  by_cases e : xs = []
  · subst e
    have ei : its = [] := by cases its with | nil => rfl | cons _ _ => cases l1
    subst ei
    obtain ⟨⟨cls, dd, data, sl⟩, ho, hc, n, hd⟩ := id t1
    obtain ⟨⟨cls2, dd2, data2, sl2⟩, ho2, hc2, n2, hd2⟩ := id t2
    simp only at hc hd hc2 hd2
    subst hc hd hc2 hd2
    exact PySem.concat_meets ⟨_, ho, rfl⟩ ⟨_, ho2, rfl⟩ noFill_tuple_add seq_tuple_add PySem.F.slot_tuple_add PySem.F.entry_tuple_add (PySem.F.args_tuple_add_2 _ _)
      (tuple_addW0 p q _ _ n n2 dd dd2 sl sl2 (by rfl)) ⟨ho, ho2, ⟨.ref q, H, I, rfl, h1 rfl⟩⟩
  · refine HT.cat_tup t1 t2 (fun z => e ((Vals.nil_iff r1).mp z)) (fun z => ⟨.ref p, H, I, rfl, h2 e ((Vals.nil_iff r2).mp z)⟩) (fun z => ?_) (by omega)
    exact ⟨.ref s.heap.objs.size, _, I.laid (t' := s.toks) (o := .tup (xs ++ ys)) (fun b ob q => Heap.get?_push_of_some _ q) (Nat.le_refl _) ⟨by simpa using hz, its ++ its2, r1.append r2, IsTupN.new _ _⟩, rfl, h3 e (fun z' => z ((Vals.nil_iff r2).mpr z')) _ I.fresh⟩
end
section
variable {prog : Program} {w : World} {A : Around} {E : Value → Shared → Prop}
variable {s : Shared}
end
end L2
set_option maxHeartbeats 4000000
namespace L2
open PySem PySem.Spec PyProof.Rows
def relab (scope osc : Scope) : Scope := { scope with names := scope.names.map fun (n, k) => if (k == .free && osc.kind == .function && osc.names.lookup n == some .cell) then (n, .cell) else (n, k) }
structure CS (osc scope : Scope) (T F : List Str) : Prop where
  kind : scope.kind = .function
  nocell : ∀ y ∈ scope.names, y.2 ≠ .cell
  names : ∀ x ∈ scope.names, x.2 = .local → scope.names.lookup x.1 = some .local
  free : ∀ x ∈ scope.names, x.2 = .free → osc.names.lookup x.1 = some .cell
  loc : ∀ y ∈ T, (relab scope osc).names.lookup y = some .local
  cel : ∀ y ∈ F, (relab scope osc).names.lookup y = some .cell ∧ osc.names.lookup y = some .cell ∧ (y, NameKind.free) ∈ scope.names
  all : ∀ x ∈ (relab scope osc).names, (x.2 = .cell ∨ x.2 = .free) → (x.1, NameKind.free) ∈ scope.names
theorem CS.to {X : Cx} {scope osc : Scope} {T F : List Str} {js : List Nat} (h : CS osc scope T F) (hj : js.map (fun j => X.N[j]?) = F.map some) (ho : X.env.scope = osc) : CScope X scope T F js := by
  subst ho
  exact ⟨h.kind, h.nocell, h.names, h.free, h.loc, h.cel, h.all, hj⟩
theorem PSs.imp' {X : Cx} {st : List PySem.Stmt} {t t' : TS} (h : PSs X st t) (f : ∀ D σ H, t' D σ H → t D σ H) : PSs X st t' := fun pins s σ H D I h' => h pins s σ H D I (f D σ H h')
end L2
set_option maxHeartbeats 4000000
namespace L2
open PySem PySem.Spec PyProof.Rows
section
variable {X : Cx} {pins : List (Addr × Obj)} {σ : St} {H : Hp} {s : Shared}
theorem Inv.turnedL {t' : Nat} {h' : Heap} (ch : List Addr) (I : Inv X pins σ H s) (k : ∀ b o, b ∉ ch → s.heap.get? b = some o → h'.get? b = some o) (hf : ∀ b ∈ ch, FpOk X pins H b) : Inv X pins σ H { s with heap := h', toks := t' } := by
  have out : ∀ b u, H b = some u → b ∉ ch := fun b u e z => by rw [(hf b z).1] at e; cases e
  have outL : X.env.locals ∉ ch := fun z => (hf _ z).2.1 rfl
  refine I.step (g' := s.gens) (d' := s.drawn) (ch := ch) (fun b hb => ⟨(hf b hb).2.2.2.1, (hf b hb).2.1, (hf b hb).2.2.2.2.1, (hf b hb).2.2.2.2.2⟩) (fun b o _ _ hc e _ => k b o hc e) (fun b o _ _ hc e _ => ⟨o.slots, k b o hc e⟩)
    (fun _ _ _ _ n => n) (fun b o hc e => ⟨o, k b o hc e⟩) (fun _ _ e => e) (fun _ _ _ e => e) (fun b ps e => ⟨#[], by rw [e]; simp⟩) (fun m hm => ?_) (fun b u e => ?_) I.bare
  · obtain ⟨o, es, ep, ho, r⟩ := hm
    exact ⟨o, es, ep, k _ o outL ho, r⟩
  · refine (I.hok b u e).stay (fun c v hc q => k c v ?_ q) (fun _ q => q) fun _ _ q => q
    rcases hc with z | z
    · rw [z]; exact out b u e
    · exact out c _ z
theorem FpOk.up {b T : Addr} {o : HO} (h : FpOk X pins H b) (n : b ≠ T) : FpOk X pins (upd H T o) b := ⟨by rw [upd_ne n]; exact h.1, h.2⟩
end
end L2
set_option maxHeartbeats 4000000
namespace PySem
open Builtin
section
variable {prog : Program} {w : World} {A : Around} {E : Value → Shared → Prop} {s : Shared}
theorem nextOf_tup {it t : Addr} {i : Nat} {its : Array Value} {x : Value} {Q : Value → Shared → Prop} (hi : s.heap.IsTupleIter it t i) (ht : s.heap.IsTuple t its) (hx : its[i]? = some x)
    (hQ : ∀ h', h'.IsTupleIter it t (i + 1) → Heap.SameBut it s.heap h' → Q x { s with heap := h' }) : wpAny (model prog w) A (Builtin.SmallTypes.nextOf (.ref it)) Q E s := by
  obtain ⟨oi, gi, ci, di⟩ := id hi
  obtain ⟨ot, gt, _, nt, dt⟩ := ht
  unfold Builtin.SmallTypes.nextOf
  refine wpAny_bind (wpAny_callSpecial?_slot (name := Str.ofString "__next__") hi.typeIs F.slot_tuple_iterator_next (wpAny_call_entry F.slot_tuple_iterator_next hi.typeIs F.entry_tuple_iterator_next ?_ (F.args_tuple_iterator_next_1 _)))
  show wpAny _ _ (field (.ref it) 0 >>= fun _ => _) _ _ s
  refine wpAny_bind (wpAny_field gi di (x := .ref t) rfl ?_)
  show wpAny _ _ (ite ((Value.ref t == Value.none) = true) _ _) _ _ s
  have ng : ¬ ((Value.ref t == Value.none) = true) := Bool.false_ne_true
  rw [if_neg ng]
  show wpAny _ _ (field (.ref it) 1 >>= fun _ => _) _ _ s
  refine wpAny_bind (wpAny_field gi di (x := .int i 0) rfl ?_)
  show wpAny _ _ (seqItems? (.ref t) >>= fun _ => _) _ _ s
  refine wpAny_bind (wpAny_seqItems gt dt ?_)
  simp only [Int.toNat_natCast, hx]
  refine wpAny_bind (wpAny_setField gi di (by simp) (wpAny_pure ⟨x, rfl, wpAny_pure (hQ _ ⟨_, Heap.get?_update_self _ gi (Obj.isFreed_of_fields (Obj.data_mapFields di _)), (Obj.cls_mapFields ..).trans ci, ?_⟩ (Heap.SameBut.update ..))⟩))
  rw [Obj.data_mapFields di]
  simp [rawInt]
theorem nextOf_tup_end {it t : Addr} {i : Nat} {its : Array Value} {Q : Value → Shared → Prop} (hh : A.handled = none) (hi : s.heap.IsTupleIter it t i) (ht : s.heap.IsTuple t its) (hx : its[i]? = none)
    (hE : ∀ h' e, Heap.ExtBut it s.heap h' → (∃ o, h'.get? e = some o ∧ o.cls = .type "StopIteration") → E (.ref e) { s with heap := h' }) : wpAny (model prog w) A (Builtin.SmallTypes.nextOf (.ref it)) Q E s := by
  obtain ⟨oi, gi, ci, di⟩ := id hi
  obtain ⟨ot, gt, _, nt, dt⟩ := ht
  unfold Builtin.SmallTypes.nextOf
  refine wpAny_bind (wpAny_callSpecial?_slot (name := Str.ofString "__next__") hi.typeIs F.slot_tuple_iterator_next (wpAny_call_entry F.slot_tuple_iterator_next hi.typeIs F.entry_tuple_iterator_next ?_ (F.args_tuple_iterator_next_1 _)))
  show wpAny _ _ (field (.ref it) 0 >>= fun _ => _) _ _ s
  refine wpAny_bind (wpAny_field gi di (x := .ref t) rfl ?_)
  show wpAny _ _ (ite ((Value.ref t == Value.none) = true) _ _) _ _ s
  have ng : ¬ ((Value.ref t == Value.none) = true) := Bool.false_ne_true
  rw [if_neg ng]
  show wpAny _ _ (field (.ref it) 1 >>= fun _ => _) _ _ s
  refine wpAny_bind (wpAny_field gi di (x := .int i 0) rfl ?_)
  show wpAny _ _ (seqItems? (.ref t) >>= fun _ => _) _ _ s
  refine wpAny_bind (wpAny_seqItems gt dt ?_)
  simp only [Int.toNat_natCast, hx]
  refine wpAny_bind (wpAny_rule (wpAny_bind (wpAny_setField gi di (by simp) ?_)))
  show wpAny _ _ (newExc (.type "StopIteration") [] >>= fun _ => _) _ _ _
  refine wpAny_bind ?_
  simp only [newExc, newTuple]
  refine wpAny_bind (wpAny_newObj_type ?_ (by size_fits))
  refine wpAny_bind (m := firstArgMember _ _) (wpAny_of_eq (a := Value.none) (by first | rfl | (simp only [firstArgMember]; rfl)) ?_)
  refine wpAny_newObj_type ?_ (by size_fits)
  simp only [raiseNew]
  refine wpAny_bind (wpAny_handled ?_)
  first | rw [show A.in1.handled = none from hh] | rw [hh]
  exact wpAny_bind (wpAny_pure (wpAny_throw (hE _ _ (((Heap.SameBut.update ..).extBut.push _).push _) ⟨_, Heap.get?_push_size _ rfl, rfl⟩)))
theorem Draws.tup {prog : Program} {w : World} {A : Around} (hh : A.handled = none) (it t : Addr) (hne : t ≠ it) (its : Array Value) :
    Draws prog w A it [it, t] its.size (fun i v => its[i]? = some v) (fun i h => h.IsTupleIter it t i ∧ h.IsTuple t its) where
  live := fun _ _ st => ⟨st.1.choose, st.1.choose_spec.1⟩
  frame := fun _ _ _ st hk => ⟨st.1.at fun o e => hk it (by simp) o e, let ⟨o, ho, r⟩ := st.2; ⟨o, hk t (by simp) o ho, r⟩⟩
  item := fun i s Q E hi st hQ => by
    refine nextOf_tup st.1 st.2 (x := its[i]) (by simp [hi]) fun h' hit' hs' => ?_
    exact hQ _ h' s.toks (by simp [hi]) ⟨hit', let ⟨o, ho, r⟩ := st.2; ⟨o, hs'.extBut _ _ hne ho, r⟩⟩ hs'
  done := fun s Q E st hE => nextOf_tup_end hh st.1 st.2 (by simp) hE
end
end PySem
namespace PySem
open Builtin
structure ZAp (z TI TO i1 i2 : Addr) (f1 f2 : List Addr) : Prop where
  a1 : TI ≠ z
  a2 : TO ≠ z
  a3 : i1 ≠ z
  a4 : i2 ≠ z
  a5 : TI ≠ TO
  a6 : TI ≠ i1
  a7 : TI ≠ i2
  a8 : TO ≠ i1
  a9 : TO ≠ i2
  b1 : i1 ≠ i2
  b2 : z ∉ f1
  b3 : z ∉ f2
  b4 : TO ∉ f1
  b5 : TO ∉ f2
  b6 : i1 ∉ f2
  b7 : i2 ∉ f1
section
variable {prog : Program} {w : World} {A : Around} {E : Value → Shared → Prop} {s : Shared} {z TI TO i1 i2 : Addr} {f1 f2 : List Addr} {n1 n2 : Nat} {P1 P2 : Nat → Value → Prop} {S1 S2 : Nat → Heap → Prop}
theorem zip_itemD {k : Nat} {a b : Value} {Q : Value → Shared → Prop} (D : ZAp z TI TO i1 i2 f1 f2) (D1 : Draws prog w A i1 f1 n1 P1 S1) (D2 : Draws prog w A i2 f2 n2 P2 S2)
    (hZ : IsZip s.heap z TI TO .none) (pI : IsPair s.heap TI (.ref i1) (.ref i2)) (pO : IsPair s.heap TO a b) (t1 : S1 k s.heap) (t2 : S2 k s.heap) (l1 : k < n1) (l2 : k < n2)
    (hQ : ∀ h' tk x y, P1 k x → P2 k y → IsZip h' z TI TO (rawInt s.heap.objs.size) → IsPair h' TO x y → S1 (k + 1) h' → S2 (k + 1) h' → IsPair h' s.heap.objs.size x y →
      (∀ c o, c ≠ z → c ≠ TO → c ≠ i1 → c ≠ i2 → s.heap.get? c = some o → h'.get? c = some o) → Q (.ref s.heap.objs.size) { s with heap := h', toks := tk }) :
    wpAny (model prog w) A (Builtin.«zip.__next__» ⟨[.ref z], []⟩) (fun fin s' => ∃ v, fin = .done (.ret v) ∧ Q v s') E s := by
  show wpAny _ _ (field (.ref z) 2 >>= fun _ => _) _ _ _
  refine wpAny_bind (wpAny_field hZ rfl (x := .bool false) rfl ?_)
  show wpAny _ _ (field (.ref z) 3 >>= fun _ => _) _ _ _
  refine wpAny_bind (wpAny_field hZ rfl (x := .ref TI) rfl ?_)
  refine wpAny_bind (wpAny_seqItems pI rfl ?_)
  show wpAny _ _ (Builtin.SmallTypes.ownedTupleIsFree (.ref z) >>= fun _ => _) _ _ _
  refine wpAny_bind ?_
  unfold Builtin.SmallTypes.ownedTupleIsFree
  refine wpAny_bind (wpAny_field hZ rfl (x := .none) rfl (wpAny_pure ?_))
  simp only [if_true]
  refine wpAny_bind (wpAny_rule (wpAny_bind (wpAny_field hZ rfl (x := .ref TO) rfl ?_)))
  refine wpAny_bind (wpAny_setField_rec hZ (by simp) fun g1 zg1 k1 => ?_)
  replace zg1 : IsZip g1 z TI TO .ellipsis := zg1
  refine wpAny_bind ?_
  simp only [List.zipIdx_cons, List.zipIdx_nil, List.forIn_cons, List.forIn_nil]
  refine wpAny_bind (wpAny_bind (wpAny_onRaise ?_))
  show wpAny _ _ (Builtin.SmallTypes.nextOf (.ref i1) >>= fun _ => _) _ _ _
  refine wpAny_bind (D1.item k _ _ _ l1 (D1.frame _ _ _ t1 fun c hc o e => k1.extBut _ _ (fun q => D.b2 (q ▸ hc)) e) fun x g2 tk2 px sg2 k2 => wpAny_pure ?_)
  have pO2 : IsPair g2 TO a b := k2.extBut _ _ D.a8 (k1.extBut _ _ D.a2 pO)
  refine wpAny_bind (wpAny_seqItems pO2 rfl (wpAny_bind (wpAny_updateSeq_pair pO2 fun g3 pO3 k3 => ?_)))
  replace pO3 : IsPair g3 TO x b := pO3
  refine wpAny_bind (wpAny_letGo (wpAny_pure (wpAny_bind (wpAny_bind (wpAny_onRaise ?_)))))
  show wpAny _ _ (Builtin.SmallTypes.nextOf (.ref i2) >>= fun _ => _) _ _ _
  have t2' : S2 k g3 := D2.frame _ _ _ t2 fun c hc o e => k3.extBut _ _ (fun q => D.b5 (q ▸ hc)) (k2.extBut _ _ (fun q => D.b6 (q ▸ hc)) (k1.extBut _ _ (fun q => D.b3 (q ▸ hc)) e))
  refine wpAny_bind (D2.item k _ _ _ l2 t2' fun y g4 tk4 py sg4 k4 => wpAny_pure ?_)
  have pO4 : IsPair g4 TO x b := k4.extBut _ _ D.a9 pO3
  refine wpAny_bind (wpAny_seqItems pO4 rfl (wpAny_bind (wpAny_updateSeq_pair pO4 fun g5 pO5 k5 => ?_)))
  replace pO5 : IsPair g5 TO x y := pO5
  refine wpAny_bind (wpAny_letGo (wpAny_pure (wpAny_pure (wpAny_bind (wpAny_seqItems pO5 rfl (wpAny_bind (wpAny_newTuple ?_)))))))
  have sz : g5.objs.size = s.heap.objs.size := by rw [k5.1, k4.1, k3.1, k2.1, k1.1]
  have zg5 : IsZip g5 z TI TO .ellipsis := k5.extBut _ _ D.a2.symm (k4.extBut _ _ D.a4.symm (k3.extBut _ _ D.a2.symm (k2.extBut _ _ D.a3.symm zg1)))
  have kk : ∀ c o, c ≠ z → c ≠ TO → c ≠ i1 → c ≠ i2 → s.heap.get? c = some o → g5.get? c = some o := fun c o c1 c2 c3 c4 e => k5.extBut _ _ c2 (k4.extBut _ _ c4 (k3.extBut _ _ c2 (k2.extBut _ _ c3 (k1.extBut _ _ c1 e))))
  have u1 : S1 (k + 1) g5 := D1.frame _ _ _ sg2 fun c hc o e => k5.extBut _ _ (fun q => D.b4 (q ▸ hc)) (k4.extBut _ _ (fun q => D.b7 (q ▸ hc)) (k3.extBut _ _ (fun q => D.b4 (q ▸ hc)) e))
  have u2 : S2 (k + 1) g5 := D2.frame _ _ _ sg4 fun c hc o e => k5.extBut _ _ (fun q => D.b5 (q ▸ hc)) e
  have zlt : z < g5.objs.size := Heap.lt_size zg5
  show wpAny _ _ (Builtin.SmallTypes.ownedTupleHandOut (.ref z) (.ref g5.objs.size) >>= fun _ => _) _ _ _
  refine wpAny_bind ?_
  unfold Builtin.SmallTypes.ownedTupleHandOut
  have zg6 : IsZip (g5.push { cls := .type "tuple", data := .seq #[x, y] }) z TI TO .ellipsis := Heap.get?_push_of_some _ zg5
  refine wpAny_bind (wpAny_setField_rec zg6 (by simp) fun g7 zg7 k7 => ?_)
  replace zg7 : IsZip g7 z TI TO (rawInt g5.objs.size) := zg7
  refine wpAny_setField_rec zg7 (by simp) fun g8 zg8 k8 => ?_
  replace zg8 : IsZip g8 z TI TO (rawInt g5.objs.size) := zg8
  have up : ∀ c o, c ≠ z → g5.get? c = some o → g8.get? c = some o := fun c o c1 e => k8.extBut _ _ c1 (k7.extBut _ _ c1 (Heap.get?_push_of_some _ e))
  have pT : IsPair g8 g5.objs.size x y := k8.extBut _ _ (Nat.ne_of_gt zlt) (k7.extBut _ _ (Nat.ne_of_gt zlt) (Heap.get?_push_size _ rfl))
  rw [sz] at zg8 pT
  refine wpAny_pure ⟨_, rfl, ?_⟩
  show Q (.ref g5.objs.size) _
  rw [sz]
  exact hQ g8 _ x y px py zg8 (up _ _ D.a2 pO5) (D1.frame _ _ _ u1 fun c hc o e => up c o (fun q => D.b2 (q ▸ hc)) e) (D2.frame _ _ _ u2 fun c hc o e => up c o (fun q => D.b3 (q ▸ hc)) e) pT fun c o c1 c2 c3 c4 e => up c o c1 (kk c o c1 c2 c3 c4 e)
theorem zip_endD {k : Nat} {a b : Value} {Q : Fin → Shared → Prop} (D : ZAp z TI TO i1 i2 f1 f2) (D1 : Draws prog w A i1 f1 n1 P1 S1) (D2 : Draws prog w A i2 f2 n2 P2 S2)
    (hZ : IsZip s.heap z TI TO .none) (pI : IsPair s.heap TI (.ref i1) (.ref i2)) (pO : IsPair s.heap TO a b) (t1 : S1 k s.heap) (t2 : S2 k s.heap) (hend : k = n1 ∨ (k < n1 ∧ k = n2))
    (hE : ∀ h' tk e, (∀ c o, c ≠ z → c ≠ TO → c ≠ i1 → c ≠ i2 → s.heap.get? c = some o → h'.get? c = some o) → (∃ o, h'.get? e = some o ∧ o.cls = .type "StopIteration") → E (.ref e) { s with heap := h', toks := tk }) :
    wpAny (model prog w) A (Builtin.«zip.__next__» ⟨[.ref z], []⟩) Q E s := by
  show wpAny _ _ (field (.ref z) 2 >>= fun _ => _) _ _ _
  refine wpAny_bind (wpAny_field hZ rfl (x := .bool false) rfl ?_)
  show wpAny _ _ (field (.ref z) 3 >>= fun _ => _) _ _ _
  refine wpAny_bind (wpAny_field hZ rfl (x := .ref TI) rfl ?_)
  refine wpAny_bind (wpAny_seqItems pI rfl ?_)
  show wpAny _ _ (Builtin.SmallTypes.ownedTupleIsFree (.ref z) >>= fun _ => _) _ _ _
  refine wpAny_bind ?_
  unfold Builtin.SmallTypes.ownedTupleIsFree
  refine wpAny_bind (wpAny_field hZ rfl (x := .none) rfl (wpAny_pure ?_))
  simp only [if_true]
  refine wpAny_bind (wpAny_rule (wpAny_bind (wpAny_field hZ rfl (x := .ref TO) rfl ?_)))
  refine wpAny_bind (wpAny_setField_rec hZ (by simp) fun g1 zg1 k1 => ?_)
  replace zg1 : IsZip g1 z TI TO .ellipsis := zg1
  refine wpAny_bind ?_
  simp only [List.zipIdx_cons, List.zipIdx_nil, List.forIn_cons, List.forIn_nil]
  refine wpAny_bind (wpAny_bind (wpAny_onRaise ?_))
  show wpAny _ _ (Builtin.SmallTypes.nextOf (.ref i1) >>= fun _ => _) _ _ _
  have t1' : S1 k g1 := D1.frame _ _ _ t1 fun c hc o e => k1.extBut _ _ (fun q => D.b2 (q ▸ hc)) e
  rcases hend with rfl | ⟨l1, rfl⟩
  · refine wpAny_bind (D1.done _ _ _ t1' fun g2 e k2 he => ?_)
    obtain ⟨oe, ge, ce⟩ := he
    have zg2 : IsZip g2 z TI TO .ellipsis := k2 _ _ D.a3.symm zg1
    have ne : e ≠ z := fun q => by subst q; rw [zg2] at ge; cases ge; simp at ce
    exact wpAny_setField_rec zg2 (by simp) fun g3 _ k3 => hE g3 _ e (fun c o c1 _ c3 _ q => k3.extBut _ _ c1 (k2 _ _ c3 (k1.extBut _ _ c1 q))) ⟨oe, k3.extBut _ _ ne ge, ce⟩
  · refine wpAny_bind (D1.item k _ _ _ l1 t1' fun x g2 tk2 px sg2 k2 => wpAny_pure ?_)
    have pO2 : IsPair g2 TO a b := k2.extBut _ _ D.a8 (k1.extBut _ _ D.a2 pO)
    refine wpAny_bind (wpAny_seqItems pO2 rfl (wpAny_bind (wpAny_updateSeq_pair pO2 fun g3 pO3 k3 => ?_)))
    refine wpAny_bind (wpAny_letGo (wpAny_pure (wpAny_bind (wpAny_bind (wpAny_onRaise ?_)))))
    show wpAny _ _ (Builtin.SmallTypes.nextOf (.ref i2) >>= fun _ => _) _ _ _
    have t2' : S2 k g3 := D2.frame _ _ _ t2 fun c hc o e => k3.extBut _ _ (fun q => D.b5 (q ▸ hc)) (k2.extBut _ _ (fun q => D.b6 (q ▸ hc)) (k1.extBut _ _ (fun q => D.b3 (q ▸ hc)) e))
    refine wpAny_bind (D2.done _ _ _ t2' fun g4 e k4 he => ?_)
    obtain ⟨oe, ge, ce⟩ := he
    have zg4 : IsZip g4 z TI TO .ellipsis := k4 _ _ D.a4.symm (k3.extBut _ _ D.a2.symm (k2.extBut _ _ D.a3.symm zg1))
    have ne : e ≠ z := fun q => by subst q; rw [zg4] at ge; cases ge; simp at ce
    exact wpAny_setField_rec zg4 (by simp) fun g5 _ k5 => hE g5 _ e (fun c o c1 c2 c3 c4 q => k5.extBut _ _ c1 (k4 _ _ c4 (k3.extBut _ _ c2 (k2.extBut _ _ c3 (k1.extBut _ _ c1 q))))) ⟨oe, k5.extBut _ _ ne ge, ce⟩
end
end PySem
namespace PySem
open Builtin
section
variable {prog : Program} {w : World} {A : Around} {E : Value → Shared → Prop} {s : Shared} {z TI TO i1 i2 : Addr} {f1 f2 : List Addr} {n1 n2 : Nat} {P1 P2 : Nat → Value → Prop} {S1 S2 : Nat → Heap → Prop}
theorem pyNext_zip_itemD {k : Nat} {a b : Value} {Q : Option Value → Shared → Prop} (D : ZAp z TI TO i1 i2 f1 f2) (D1 : Draws prog w A.in1 i1 f1 n1 P1 S1) (D2 : Draws prog w A.in1 i2 f2 n2 P2 S2)
    (hZ : IsZip s.heap z TI TO .none) (pI : IsPair s.heap TI (.ref i1) (.ref i2)) (pO : IsPair s.heap TO a b) (t1 : S1 k s.heap) (t2 : S2 k s.heap) (l1 : k < n1) (l2 : k < n2)
    (hQ : ∀ h' tk x y, P1 k x → P2 k y → IsZip h' z TI TO (rawInt s.heap.objs.size) → IsPair h' TO x y → S1 (k + 1) h' → S2 (k + 1) h' → IsPair h' s.heap.objs.size x y →
      (∀ c o, c ≠ z → c ≠ TO → c ≠ i1 → c ≠ i2 → s.heap.get? c = some o → h'.get? c = some o) → Q (some (.ref s.heap.objs.size)) { s with heap := h', toks := tk }) :
    wpAny (model prog w) A (pyNext (.ref z)) Q E s := by
  have tz : s.TypeIs (.ref z) "zip" := ⟨_, hZ, rfl⟩
  unfold pyNext
  exact wpAny_bind (wpAny_attempt (wpAny_callSpecial?_slot (name := Str.ofString "__next__") tz F.slot_zip_next (wpAny_call_entry F.slot_zip_next tz F.entry_zip_next
      (zip_itemD D D1 D2 hZ pI pO t1 t2 l1 l2 fun h' tk x y a1 a2 a3 a4 a5 a6 a7 a8 => wpAny_pure (hQ h' tk x y a1 a2 a3 a4 a5 a6 a7 a8)) (F.args_zip_next_1 _))))
theorem pyNext_zip_endD {k : Nat} {a b : Value} {Q : Option Value → Shared → Prop} (D : ZAp z TI TO i1 i2 f1 f2) (D1 : Draws prog w A.in1 i1 f1 n1 P1 S1) (D2 : Draws prog w A.in1 i2 f2 n2 P2 S2)
    (hZ : IsZip s.heap z TI TO .none) (pI : IsPair s.heap TI (.ref i1) (.ref i2)) (pO : IsPair s.heap TO a b) (t1 : S1 k s.heap) (t2 : S2 k s.heap) (hend : k = n1 ∨ (k < n1 ∧ k = n2))
    (hQ : ∀ h' tk, (∀ c o, c ≠ z → c ≠ TO → c ≠ i1 → c ≠ i2 → s.heap.get? c = some o → h'.get? c = some o) → Q none { s with heap := h', toks := tk }) :
    wpAny (model prog w) A (pyNext (.ref z)) Q E s := by
  have tz : s.TypeIs (.ref z) "zip" := ⟨_, hZ, rfl⟩
  unfold pyNext
  refine wpAny_bind (wpAny_attempt (wpAny_callSpecial?_slot (name := Str.ofString "__next__") tz F.slot_zip_next (wpAny_call_entry F.slot_zip_next tz F.entry_zip_next (zip_endD D D1 D2 hZ pI pO t1 t2 hend fun h' tk e hk he => ?_) (F.args_zip_next_1 _))))
  obtain ⟨o, ho, hc⟩ := he
  exact wpAny_bind (wpAny_isInstance (T := "StopIteration") (b := true) ⟨o, ho, hc⟩ isSubtype_stop (wpAny_pure (hQ _ _ hk)))
end
abbrev zT1 (h : Heap) (a : Addr) : Heap := h.push { cls := .type "tuple_iterator", data := .fields #[.ref a, .int 0 0] }
abbrev zT2 (h : Heap) (a b : Addr) : Heap := (zT1 h a).push { cls := .type "tuple_iterator", data := .fields #[.ref b, .int 0 0] }
abbrev zT3 (h : Heap) (a b : Addr) : Heap := (zT2 h a b).push { cls := .type "tuple", data := .seq #[.ref h.objs.size, .ref (zT1 h a).objs.size] }
abbrev zT4 (h : Heap) (a b : Addr) : Heap := (zT3 h a b).push { cls := .type "tuple", data := .seq #[.none, .none] }
abbrev zT5 (h : Heap) (a b : Addr) : Heap := (zT4 h a b).push { cls := .type "zip", data := .fields #[.none, .bool false, .bool false, .ref (zT2 h a b).objs.size, .ref (zT3 h a b).objs.size] }
theorem meets_zip_tt (a b : Addr) (xs ys : Array Value) :
    Meets (Builtin.«zip.__new__» ⟨[.type "zip", .ref a, .ref b], []⟩) (fun _ R s => s.heap.IsTuple a xs ∧ s.heap.IsTuple b ys ∧ R (.ok (.ret (.ref (zT4 s.heap a b).objs.size))) { s with heap := zT5 s.heap a b }) :=
  .of_wp fun prog w A R s h => by
    obtain ⟨hp, g, d, tk, os⟩ := s
    obtain ⟨ta, tb, h⟩ := h
    have hsub := sub_zip
    have q1 : Heap.IsTuple (Shared.heap ⟨hp, g, d, tk, os⟩) a xs := ta
    have q2 : Heap.IsTuple (Shared.heap ⟨hp.push { cls := .type "tuple_iterator", data := .fields #[.ref a, .int 0 0] }, g, d, tk, os⟩) b ys := let ⟨o, ho, r⟩ := tb; ⟨o, Heap.get?_push_of_some _ ho, r⟩
    wp_walk using wpAny_pyIter_tuple q1, wpAny_pyIter_tuple q2
    exact ⟨_, rfl, h⟩
section
variable {prog : Program} {w : World} {A : Around} {E : Value → Shared → Prop} {s : Shared}
theorem call_zip_tt {a b : Addr} {xs ys : Array Value} {Q : Value → Shared → Prop} (ta : s.heap.IsTuple a xs) (tb : s.heap.IsTuple b ys)
    (h : ∀ h', IsZip h' (s.heap.objs.size + 4) (s.heap.objs.size + 2) (s.heap.objs.size + 3) .none → IsPair h' (s.heap.objs.size + 2) (.ref s.heap.objs.size) (.ref (s.heap.objs.size + 1)) → IsPair h' (s.heap.objs.size + 3) .none .none →
      h'.IsTupleIter s.heap.objs.size a 0 → h'.IsTupleIter (s.heap.objs.size + 1) b 0 → (∀ c o, s.heap.get? c = some o → h'.get? c = some o) → Q (.ref (s.heap.objs.size + 4)) { s with heap := h' }) :
    wpAny (model prog w) A (call (.type "zip") [.ref a, .ref b]) Q E s := by
  refine callType_new F.called_zip (by decide) (F.typeCall_zip_2 _ _) (F.newCall_zip_2 _ _) (fun obj => F.args_object_init_3 obj _ _) F.entry_zip_new (meets_zip_tt a b xs ys) ⟨ta, tb, ?_⟩
  have y1 : (zT1 s.heap a).objs.size = s.heap.objs.size + 1 := Heap.size_push ..
  have y2 : (zT2 s.heap a b).objs.size = s.heap.objs.size + 2 := by rw [Heap.size_push, y1]
  have y3 : (zT3 s.heap a b).objs.size = s.heap.objs.size + 3 := by rw [Heap.size_push, y2]
  have y4 : (zT4 s.heap a b).objs.size = s.heap.objs.size + 4 := by rw [Heap.size_push, y3]
  have e5 : (zT5 s.heap a b).get? (zT4 s.heap a b).objs.size = some _ := Heap.get?_push_size _ rfl
  have e4 : (zT5 s.heap a b).get? (zT3 s.heap a b).objs.size = some _ := Heap.get?_push_of_some _ (Heap.get?_push_size _ rfl)
  have e3 : (zT5 s.heap a b).get? (zT2 s.heap a b).objs.size = some _ := Heap.get?_push_of_some _ (Heap.get?_push_of_some _ (Heap.get?_push_size _ rfl))
  have e2 : (zT5 s.heap a b).get? (zT1 s.heap a).objs.size = some _ := Heap.get?_push_of_some _ (Heap.get?_push_of_some _ (Heap.get?_push_of_some _ (Heap.get?_push_size _ rfl)))
  have e1 : (zT5 s.heap a b).get? s.heap.objs.size = some _ := Heap.get?_push_of_some _ (Heap.get?_push_of_some _ (Heap.get?_push_of_some _ (Heap.get?_push_of_some _ (Heap.get?_push_size _ rfl))))
  show _ ∧ _
  rw [y2, y3, y4] at e5
  rw [y1, y2] at e3
  rw [y3] at e4
  rw [y1] at e2
  rw [y4]
  refine ⟨⟨_, e5, rfl⟩, h _ e5 e3 e4 ⟨_, e1, rfl, rfl⟩ ⟨_, e2, rfl, rfl⟩ fun c o e => ?_⟩
  exact Heap.get?_push_of_some _ (Heap.get?_push_of_some _ (Heap.get?_push_of_some _ (Heap.get?_push_of_some _ (Heap.get?_push_of_some _ e))))
end
end PySem
namespace L2
open PySem PySem.Spec PyProof.Rows
def Itz (K : PySem.W.Frag) (a b : Addr) : It :=
  ⟨fun i H => ∃ xs ys x y, SqT K H a xs ∧ SqT K H b ys ∧ xs[i]? = some x ∧ ys[i]? = some y, fun i H v H' => ∃ T x y, H T = none ∧ v = .ref T ∧ H' = upd H T (.tup [x, y]) ∧ (∀ xs, SqT K H a xs → xs[i]? = some x) ∧ ∀ ys, SqT K H b ys → ys[i]? = some y,
   fun i H => ∃ xs ys, SqT K H a xs ∧ SqT K H b ys ∧ (i = xs.length ∨ (i < xs.length ∧ i = ys.length))⟩
theorem zap_of {z TI TO i1 i2 a b : Addr} (nd : [z, TI, TO, i1, i2].Nodup) (na : a ∉ [z, TI, TO, i1, i2]) (nb : b ∉ [z, TI, TO, i1, i2]) : ZAp z TI TO i1 i2 [i1, a] [i2, b] := by
  simp only [List.nodup_cons, List.mem_cons, List.mem_nil_iff, or_false, not_or, List.nodup_nil, and_true, not_false_eq_true] at nd na nb
  obtain ⟨⟨q1, q2, q3, q4⟩, ⟨q5, q6, q7⟩, ⟨q8, q9⟩, q10⟩ := nd
  obtain ⟨r1, r2, r3, r4, r5⟩ := na
  obtain ⟨s1, s2, s3, s4, s5⟩ := nb
  constructor <;> first | exact Ne.symm ‹_› | assumption | (simp only [List.mem_cons, List.mem_nil_iff, or_false, not_or]; constructor <;> first | assumption | exact Ne.symm ‹_›)
theorem turn_zip {P : Program} {w : World} {K : PySem.W.Frag} {elts : List Expr} {x1} {pos : Pos} (a b z TI TO i1 i2 : Addr) (nd : [z, TI, TO, i1, i2].Nodup) (na : a ∉ [z, TI, TO, i1, i2]) (nb : b ∉ [z, TI, TO, i1, i2]) : Turn P w K (.Tuple elts x1 pos) (Itz K a b) [z, TI, TO, i1, i2] z
    (fun i h => IsZip h z TI TO .none ∧ IsPair h TI (.ref i1) (.ref i2) ∧ (∃ u v, IsPair h TO u v) ∧ h.IsTupleIter i1 a i ∧ h.IsTupleIter i2 b i) where
  mem := by simp
  obj := fun i h st c hc => by
    obtain ⟨h1, h2, ⟨u, v, h3⟩, ⟨o4, g4, _, d4⟩, ⟨o5, g5, _, d5⟩⟩ := st
    simp only [List.mem_cons, List.mem_nil_iff, or_false] at hc
    rcases hc with rfl | rfl | rfl | rfl | rfl
    · exact ⟨_, h1, fun v q => by cases q⟩
    · exact ⟨_, h2, fun v q => by cases q⟩
    · exact ⟨_, h3, fun v q => by cases q⟩
    · exact ⟨_, g4, fun v q => by rw [d4] at q; cases q⟩
    · exact ⟨_, g5, fun v q => by rw [d5] at q; cases q⟩
  keep := fun i h h' st k => by
    obtain ⟨h1, h2, ⟨u, v, h3⟩, h4, h5⟩ := st
    exact ⟨k z (by simp) _ h1, k TI (by simp) _ h2, ⟨u, v, k TO (by simp) _ h3⟩, h4.at fun o q => k i1 (by simp) o q, h5.at fun o q => k i2 (by simp) o q⟩
  item := by
    intro X hP hw hK hc i pins s σ H E I hf st hg
    subst hP hw hK
    obtain ⟨hZ, pI, ⟨u, v, pO⟩, t1, t2⟩ := st
    obtain ⟨xs, ys, x, y, ha, hb, hx, hy⟩ := hg
    obtain ⟨its, rv, p1, _⟩ := I.tuple ha
    obtain ⟨jts, rw', p2, _⟩ := I.tuple hb
    obtain ⟨ux, hux, rx⟩ := rv.get hx
    obtain ⟨uy, huy, ry⟩ := rw'.get hy
    have AP := zap_of nd na nb
    have fresh : H s.heap.objs.size = none := I.hok.fresh (Nat.le_refl _)
    have ltz : ∀ c ∈ [z, TI, TO, i1, i2], c ≠ s.heap.objs.size := by
      intro c hc
      obtain ⟨o4, g4, _⟩ := id t1
      obtain ⟨o5, g5, _⟩ := id t2
      simp only [List.mem_cons, List.mem_nil_iff, or_false] at hc
      rcases hc with rfl | rfl | rfl | rfl | rfl
      · exact Nat.ne_of_lt (Heap.lt_size hZ)
      · exact Nat.ne_of_lt (Heap.lt_size pI)
      · exact Nat.ne_of_lt (Heap.lt_size pO)
      · exact Nat.ne_of_lt (Heap.lt_size g4)
      · exact Nat.ne_of_lt (Heap.lt_size g5)
    refine pyNext_zip_itemD AP (Draws.tup (A := X.A.in1) (I.ok.hd hc) i1 a (fun q => na (by simp [q])) its.toArray) (Draws.tup (A := X.A.in1) (I.ok.hd hc) i2 b (fun q => nb (by simp [q])) jts.toArray) hZ pI pO ⟨t1, p1⟩ ⟨t2, p2⟩
      (by have := (List.getElem?_eq_some_iff.mp hux).1; simpa using this) (by have := (List.getElem?_eq_some_iff.mp huy).1; simpa using this) fun h' tk xv yv px py z' pO' s1' s2' pT kk => ⟨_, rfl, ?_⟩
    have ex : ux = xv := Option.some.inj (hux.symm.trans (by simpa using px))
    have ey : uy = yv := Option.some.inj (huy.symm.trans (by simpa using py))
    subst ex ey
    refine wpAny_letOwnedTupleGo_zip (s := { s with heap := h', toks := tk }) z' fun h2 z2 sb => ?_
    have I1 : Inv X pins σ (upd H s.heap.objs.size (.tup [x, y])) { s with heap := s.heap.push { cls := .type "tuple", data := .seq #[ux, uy] }, toks := s.toks } :=
      I.laid (o := .tup [x, y]) (fun b ob q => Heap.get?_push_of_some _ q) (Nat.le_refl _) ⟨by rw [sizeLine_eq]; simp, [ux, uy], .cons rx (.cons ry .nil), IsTupN.new _ _⟩
    have I2 := I1.turnedL (h' := h2) (t' := tk) [z, TI, TO, i1, i2] (fun c o hc' q => ?_) (fun c hc' => (hf c hc').up (ltz c hc'))
    · refine ⟨.ref s.heap.objs.size, _, I2, rfl, ⟨_, x, y, fresh, rfl, rfl, fun ys' hy' => by rw [I.tuple_inj hy' ha]; exact hx, fun ys' hy' => by rw [I.tuple_inj hy' hb]; exact hy⟩,
        ⟨z2, (sb.2 TI AP.a1).trans (kk _ _ AP.a1 AP.a5 AP.a6 AP.a7 pI), ⟨_, _, (sb.2 TO AP.a2).trans pO'⟩, s1'.1.at fun o q => (sb.2 i1 AP.a3).trans q, s2'.1.at fun o q => (sb.2 i2 AP.a4).trans q⟩, fun c hc' => ?_⟩
      rw [upd_ne (ltz c hc')]; exact (hf c hc').1
    · have c1 : c ≠ z := fun q => hc' (by simp [q])
      have c2 : c ≠ TO := fun q => hc' (by simp [q])
      have c3 : c ≠ i1 := fun q => hc' (by simp [q])
      have c4 : c ≠ i2 := fun q => hc' (by simp [q])
      refine (sb.2 c c1).trans ?_
      by_cases hcs : c = s.heap.objs.size
      · subst hcs
        rw [Heap.get?_push_size _ rfl] at q
        cases q
        exact pT
      · rw [Heap.get?_push_ne _ _ _ hcs] at q
        exact kk c o c1 c2 c3 c4 q
  done := by
    intro X hP hw hK hc i pins s σ H E I hf st hg
    subst hP hw hK
    obtain ⟨hZ, pI, ⟨u, v, pO⟩, t1, t2⟩ := st
    obtain ⟨xs, ys, ha, hb, hend⟩ := hg
    obtain ⟨its, rv, p1, _⟩ := I.tuple ha
    obtain ⟨jts, rw', p2, _⟩ := I.tuple hb
    have AP := zap_of nd na nb
    have l1 := rv.length
    have l2 := rw'.length
    refine pyNext_zip_endD AP (Draws.tup (A := X.A.in1) (I.ok.hd hc) i1 a (fun q => na (by simp [q])) its.toArray) (Draws.tup (A := X.A.in1) (I.ok.hd hc) i2 b (fun q => nb (by simp [q])) jts.toArray) hZ pI pO ⟨t1, p1⟩ ⟨t2, p2⟩
      (by simp only [List.size_toArray]; omega) fun h' tk kk => ⟨rfl, I.turnedL (t' := tk) [z, TI, TO, i1, i2] (fun c o hc' q => ?_) hf⟩
    exact kk c o (fun q => hc' (by simp [q])) (fun q => hc' (by simp [q])) (fun q => hc' (by simp [q])) (fun q => hc' (by simp [q])) q
  self := fun A i s Q E st h => wpAny_pyIter_zip st.1 h
def iZip (K : PySem.W.Frag) (ta : TA) : TI := fun σ H R => ta σ H fun vs H1 => ∃ a b xs ys, vs = [.ref a, .ref b] ∧ SqT K H1 a xs ∧ SqT K H1 b ys ∧ R (Itz K a b) H1
theorem pi_zip {X : Cx} {elts : List Expr} {x1} {tpos : Pos} {e1 e2 : Expr} {ta : TA} {p pos : Pos} (hg : Gl X "zip") (hm : X.mg "zip" = none) (ha : PA X [e1, e2] ta) (hs : starEach [e1, e2] X.env = [(false, eval e1 X.env), (false, eval e2 X.env)] := by rfl) (hs2 : starEach [e2] X.env = [(false, eval e2 X.env)] := by rfl) :
    PI X (.Tuple elts x1 tpos) (.Call (.Name "zip" p) [e1, e2] [] pos) (iZip X.K ta) := by
  intro pins s σ H R I h
  refine Call_ (ld_blt I hg hm (show bootBuiltins "zip" = some (.type "zip") by decide +kernel) (PyProof.Rows.callWith_type1 (thn (ha pos pins s σ H _ I h) fun us s1 ⟨vs, H1, I1, r1, q1⟩ => ?_) (by rw [hs, hs2]) (by rw [hs2]; rfl)))
  obtain ⟨a, b, xs, ys, e, hqa, hqb, q⟩ := q1
  subst e
  cases r1 with
  | cons r rr =>
    cases rr with
    | cons r' rr =>
      cases rr
      cases r
      cases r'
      obtain ⟨its, rv, p1, _⟩ := I1.tuple hqa
      obtain ⟨jts, rw', p2, _⟩ := I1.tuple hqb
      refine call_zip_tt p1 p2 fun h' hZ pI pO t1 t2 kk => wpAny_pyIter_zip hZ ?_
      obtain ⟨oa, ga, _⟩ := id p1
      obtain ⟨ob, gb, _⟩ := id p2
      have la := Heap.lt_size ga
      have lb := Heap.lt_size gb
      have big : ∀ c ∈ [s1.heap.objs.size + 4, s1.heap.objs.size + 2, s1.heap.objs.size + 3, s1.heap.objs.size, s1.heap.objs.size + 1], s1.heap.objs.size ≤ c := by
        intro c hc
        simp only [List.mem_cons, List.mem_nil_iff, or_false] at hc
        rcases hc with rfl | rfl | rfl | rfl | rfl <;> first | exact Nat.le_add_right _ _ | exact Nat.le_refl _
      refine ⟨s1.heap.objs.size + 4, [s1.heap.objs.size + 4, s1.heap.objs.size + 2, s1.heap.objs.size + 3, s1.heap.objs.size, s1.heap.objs.size + 1], _, _, H1, rfl, I1.kept (t' := s1.toks) kk,
        turn_zip a b _ _ _ _ _ ?_ (fun q => Nat.lt_irrefl _ (Nat.lt_of_lt_of_le la (big _ q))) (fun q => Nat.lt_irrefl _ (Nat.lt_of_lt_of_le lb (big _ q))), ⟨hZ, pI, ⟨_, _, pO⟩, t1, t2⟩, fun c hc => I1.fpOk (big c hc) (I1.hok.fresh (big c hc)), q⟩
      generalize s1.heap.objs.size = n
      show List.Nodup ([n + 4, n + 2, n + 3, n, n + 1] : List Nat)
      simp
section
variable {g : TG} {ti : TT} {te : TE} {Q : VK} {D : Addr} {σ : St} {H : Hp}
theorem comp_zip {K : PySem.W.Frag} {a b : Addr} {xs ys : List V} (Pv : Nat → St → List V → Hp → Prop) (h0 : Pv 0 σ [] (upd H D (.lst []))) (hl : ∀ i σ zs H, i ≤ xs.length → i ≤ ys.length → Pv i σ zs H → SqT K H a xs ∧ SqT K H b ys ∧ H D = some (.lst zs))
    (hs : ∀ i x y σ zs H T, xs[i]? = some x → ys[i]? = some y → Pv i σ zs H → H T = none → cturn g ti te D (.ref T) σ zs (upd H T (.tup [x, y])) (Pv (i + 1))) (hd : ∀ i σ zs H, i = min xs.length ys.length → Pv i σ zs H → Q (.ref D) H) :
    cgo (Itz K a b) g ti te D σ H Q := by
  refine ⟨fun i m σ zs H => m = xs.length - i ∧ i ≤ xs.length ∧ i ≤ ys.length ∧ Pv i σ zs H, ⟨xs.length, by simp, Nat.zero_le _, Nat.zero_le _, h0⟩, ?_⟩
  rintro i m σ zs H ⟨rfl, hi, hj, p⟩
  obtain ⟨q1, q2, hD⟩ := hl i σ zs H hi hj p
  refine ⟨hD, ?_⟩
  by_cases hlt : i < xs.length ∧ i < ys.length
  · refine .inr ⟨⟨xs, ys, xs[i], ys[i], q1, q2, by simp [hlt.1], by simp [hlt.2]⟩, Pv (i + 1), fun σ' ys' H' p' => ⟨xs.length - (i + 1), by omega, rfl, hlt.1, hlt.2, p'⟩, fun x H' y => ?_⟩
    obtain ⟨T, x, y, hT, rfl, rfl, y1, y2⟩ := y
    exact hs i x y σ zs H T (y1 xs q1) (y2 ys q2) p hT
  · exact .inl ⟨⟨xs, ys, q1, q2, by omega⟩, hd i σ zs H (by omega) p⟩
end
end L2
set_option maxHeartbeats 4000000
namespace HT
open PySem PyProof.Rows
end HT
namespace L2
open PySem PySem.Spec PyProof.Rows
theorem op_eqNil {X : Cx} (hu : X.A.units + 64 < cLine) : OpR X (compareOp .Eq) (fun x y H Q => ∃ (a b : Addr) (xs : List V), x = .ref a ∧ y = .ref b ∧ SqL X.K H a xs ∧ SqL X.K H b [] ∧ Q (.bl xs.isEmpty) H) := by
  intro pins s σ H x y u v Q I rx ry h
  obtain ⟨a, b, xs, rfl, rfl, ha, hb, q⟩ := h
  cases rx
  cases ry
  cases xs with
  | nil =>
    obtain ⟨as, r1⟩ := Rep.reads (u := .ref a) I (Rep.lst ha .nil) rfl
    obtain ⟨bs, r2⟩ := Rep.reads (u := .ref b) I (Rep.lst hb .nil) rfl
    exact SeqAt.compareEq_reads r1 r2 rfl rfl (by simp only [PyData.depth, PyData.depthAll]; omega) ⟨.bl _, H, I, rfl, q⟩
  | cons x xs =>
    obtain ⟨its, r1, h1, _⟩ := I.list ha
    obtain ⟨its2, r2, h2, _⟩ := I.list hb
    have l1 := r1.length
    have l2 := r2.length
    refine SeqAt.eq_list_lengthsAt h1.isList h2.isList (by simp at l1 l2 ⊢; omega) (by omega) ⟨.bl _, H, I, rfl, q⟩
theorem same_new {H : Hp} {p : Addr} {o : HO} (h : H p = none) : Same H (upd H p o) := fun b u e => by rw [upd_ne (ne_of_none e h)]; exact e
theorem same_refl (H : Hp) : Same H H := fun _ _ e => e
theorem small {n : Nat} (h : n ≤ 10000) : n ≤ sizeLine := by rw [sizeLine_eq]; exact Nat.le_trans (by assumption) (by decide)
theorem sqL_same {K : PySem.W.Frag} {H H' : Hp} {a : Addr} {xs : List V} (h : SqL K H a xs) (s : Same H H') : SqL K H' a xs := by
  rcases h with (e | ⟨o, e⟩) | e
  · exact .inl (.inl (s _ _ e))
  · exact .inl (.inr ⟨o, s _ _ e⟩)
  · exact .inr e
theorem none_of {H H' : Hp} {a : Addr} (s : Same H H') (h : H' a = none) : H a = none := by
  cases e : H a with
  | none => rfl
  | some o => rw [s _ _ e] at h; cases h
theorem pg_tupK {X : Cx} {es : List Expr} {k : Nat} {t : TGs} {pos : Pos} (K : PySem.W.Frag) (n : Nat) (hK : X.K = K) (hc : X.calm = true) (h : PGs X es t) (hn : (assignEach es X.env).length = n := by rfl) (hst : (assignEach es X.env).findIdx? (·.1) = none := by rfl) : PG X (.Tuple es k pos) (gTup K n t) := by
  subst hK
  exact pg_tup hc h hn hst
end L2
set_option maxHeartbeats 4000000
namespace PySem
open Builtin
section
variable {prog : Program} {w : World} {A : Around} {E : Value → Shared → Prop} {s : Shared}
theorem collect_rng {Q : List Value → Shared → Prop} {r : Addr} {a b c : Int} {t u v : Tok} {n : Nat} (hh : A.handled = none) (hr : IsRange s.heap r a b c t u v) (hsmall : Builtin.Range.small a b c = true) (hn : Builtin.Range.rangeSize a b c = n) (hlen : n ≤ 2 ^ 24)
    (hQ : ∀ (h' : Heap) (tk : Nat) (acc : Array Value), (∀ b o, s.heap.get? b = some o → h'.get? b = some o) → ItemsOf (fun i v => ∃ t, v = .int (a + i * c) t) acc n → Q acc.toList { s with heap := h', toks := tk }) : wpAny (model prog w) A (collect (.ref r)) Q E s := by
  unfold collect
  refine wpAny_bind (wpAny_runValue (codeAny_builtin F.entry_proto_collect ?_))
  rw [Around.under_plainId F.plain_proto_collect _]
  show wpAny _ A.in1 (newList [] >>= fun l => again (.builtin "list.__iadd__" ⟨[l, .ref r], []⟩)) _ _ s
  refine wpAny_bind (wpAny_newObj_type (wpAny_pure ⟨plainId_quiet F.plain_list_iadd _, codeAny_builtin F.entry_list_iadd ?_⟩))
  rw [Around.under_plainId F.plain_list_iadd _]
  show wpAny _ A.in1 (Builtin.List.listExtendWith (.ref s.heap.objs.size) (.ref r) (.ref s.heap.objs.size)) _ _ _
  have oS : (s.heap.push { cls := .type "list", data := .seq ([] : List Value).toArray }).get? s.heap.objs.size = some { cls := .type "list", data := .seq ([] : List Value).toArray } := Heap.get?_push_size _ rfl
  have key := wpAny_extend_range (prog := prog) (w := w) (A := A) (s := { s with heap := s.heap.push { cls := .type "list", data := .seq ([] : List Value).toArray } })
    (R := fun r' s' => ∃ (h' : Heap) (tk : Nat) (acc : Array Value) (c' : Nat), r' = .ok (.ret (.ref s.heap.objs.size)) ∧ s' = { s with heap := h', toks := tk } ∧ (∀ b o, s.heap.get? b = some o → h'.get? b = some o) ∧ h'.get? s.heap.objs.size = some { cls := .type "list", dict := none, data := .seq acc c', slots := #[] } ∧ ItemsOf (fun i v => ∃ t, v = .int (a + i * c) t) acc n)
    hh (Heap.get?_push_of_some _ hr) hsmall hn hlen s.heap.objs.size (.ref s.heap.objs.size) _ oS fun h' tk acc' c' hk hS' hacc => ⟨h', tk, acc', c', rfl, rfl, fun b o e => hk b o (Nat.ne_of_lt (Heap.lt_size e)) (Heap.get?_push_of_some _ e), hS', hacc⟩
  have out : ∀ (r' : Result) (s' : Shared), (∃ (h' : Heap) (tk : Nat) (acc : Array Value) (c' : Nat), r' = .ok (.ret (.ref s.heap.objs.size)) ∧ s' = { s with heap := h', toks := tk } ∧ (∀ b o, s.heap.get? b = some o → h'.get? b = some o) ∧ h'.get? s.heap.objs.size = some { cls := .type "list", dict := none, data := .seq acc c', slots := #[] } ∧ ItemsOf (fun i v => ∃ t, v = .int (a + i * c) t) acc n) →
      ∃ (acc : Array Value) (c' : Nat), r' = .ok (.ret (.ref s.heap.objs.size)) ∧ s'.heap.get? s.heap.objs.size = some { cls := .type "list", dict := none, data := .seq acc c', slots := #[] } ∧ Q acc.toList s' := by
    rintro r' s' ⟨h', tk, acc, c', e1, rfl, e3, e4, e5⟩
    exact ⟨acc, c', e1, e4, hQ h' tk acc e3 e5⟩
  refine wpAny_mono key (fun fin s' hf => ?_) fun e s' he => ?_
  · cases fin with
    | done f =>
      obtain ⟨acc, c', e1, e2, e3⟩ := out _ _ hf
      cases e1
      show wpAny _ A (load s.heap.objs.size >>= fun _ => _) _ _ _
      exact wpAny_bind (wpAny_load e2 (wpAny_pure e3))
    | again c' =>
      refine ⟨hf.1, codeAny_mono hf.2 fun r' s' h' => ?_⟩
      obtain ⟨acc, c', e1, e2, e3⟩ := out _ _ h'
      subst e1
      show wpAny _ A (load s.heap.objs.size >>= fun _ => _) _ _ _
      exact wpAny_bind (wpAny_load e2 (wpAny_pure e3))
  · obtain ⟨_, _, e1, _⟩ := out _ _ he
    cases e1
end
theorem meets_tuple_rng (r : Addr) (a b c : Int) (t u v : Tok) (n : Nat) (hsmall : Builtin.Range.small a b c = true) (hn : Builtin.Range.rangeSize a b c = n) (hlen : n ≤ 2 ^ 24) (hz : n ≤ sizeLine) :
    Meets (Builtin.«tuple.__new__» ⟨[.type "tuple", .ref r], []⟩)
      (fun A R s => A.handled = none ∧ IsRange s.heap r a b c t u v ∧ ∀ (h' : Heap) (tk : Nat) (acc : Array Value), (∀ b o, s.heap.get? b = some o → h'.get? b = some o) → ItemsOf (fun i v => ∃ t, v = .int (a + i * c) t) acc n →
        R (.ok (.ret (.ref h'.objs.size))) { s with heap := h'.push { cls := .type "tuple", data := .seq acc }, toks := tk }) :=
  .of_wp fun prog w A R s h => by
    obtain ⟨hh, hr, h⟩ := h
    have hsub := sub_tuple_self
    have hinit := init_tuple_lookup
    have hmh := madeHere_tuple
    have tr : s.TypeIs (.ref r) "range" := ⟨_, hr, rfl⟩
    have hh1 : A.in1.handled = none := hh
    wp_walk using wpAny_typeOf tr, collect_rng hh1 hr hsmall hn hlen
    intro h' tk acc hk hacc
    show wpAny _ _ (Builtin.Tuple.tupleExact acc.toList.toArray >>= fun v => ret v) _ _ _
    unfold Builtin.Tuple.tupleExact
    refine wpAny_bind (wpAny_newObj_type ?_ (show acc.toList.toArray.size ≤ sizeLine by simp only [Array.toArray_toList]; rw [hacc.1]; exact hz))
    refine wpAny_pure ⟨_, rfl, ?_⟩
    have e : acc.toList.toArray = acc := by simp
    rw [e]
    exact h h' tk acc hk hacc
section
variable {prog : Program} {w : World} {A : Around} {E : Value → Shared → Prop} {s : Shared}
theorem call_tuple_rng' {Q : Value → Shared → Prop} {r : Addr} {a b c : Int} {t u v : Tok} {n : Nat} (hh : A.handled = none) (hr : IsRange s.heap r a b c t u v) (hsmall : Builtin.Range.small a b c = true) (hn : Builtin.Range.rangeSize a b c = n) (hlen : n ≤ 2 ^ 24) (hz : n ≤ sizeLine)
    (h : ∀ (h' : Heap) (tk : Nat) (acc : Array Value), (∀ b o, s.heap.get? b = some o → h'.get? b = some o) → ItemsOf (fun i v => ∃ t, v = .int (a + i * c) t) acc n → Q (.ref h'.objs.size) { s with heap := h'.push { cls := .type "tuple", data := .seq acc }, toks := tk }) :
    wpAny (model prog w) A (call (.type "tuple") [.ref r]) Q E s :=
  callType_new F.called_tuple (by decide) (F.typeCall_tuple_1 _) (F.newCall_tuple_1 _) (fun obj => F.args_object_init_2 obj _) F.entry_tuple_new (meets_tuple_rng r a b c t u v n hsmall hn hlen hz) ⟨hh, hr, fun h' tk acc hk hacc => ⟨⟨_, Heap.get?_push_size _ rfl, rfl⟩, h h' tk acc hk hacc⟩⟩
end
end PySem
namespace PySem
open Builtin
theorem removeAt_loop (l : Addr) (items : Array Value) (n : Nat) (x : Value) (e : Value → Bool) (j : Nat) (hj : j < items.size) (yes : e items[j] = true) (k : Nat) (hz : items.size ≤ sizeLine) :
    ∀ i : Nat, j - i = k → i ≤ j → (∀ m (hm : m < items.size), i ≤ m → m < j → e items[m] = false) → Meets (Builtin.«list.remove.loop» ⟨[.ref l, x, rawInt i], []⟩)
      (fun A R s => s.heap.get? l = some { cls := .type "list", dict := none, data := .seq items n, slots := #[] } ∧ (∀ y, y ∈ items → SeqAt.EqAt A.in1 s y x (e y)) ∧ R (.ok (.ret .none)) { s with heap := s.heap.update l (Obj.mapSeq fun xs => xs.eraseIdxIfInBounds j) }) := by
  induction k with
  | zero =>
    intro i hk hij hno prog w A R s h
    obtain ⟨hp, g, d, tk, os⟩ := s
    obtain ⟨hl, he, h⟩ := h
    have ij : i = j := by omega
    subst ij
    wp_walk using AutoSeq1.wpAny_loadPart' hl
    have at_i : items[((i : Nat) : Int).toNat]? = some items[i] := by simp [hj]
    rw [at_i]
    refine wpAny_bind (he _ (Array.getElem_mem hj) prog w _ _ ?_)
    rw [yes]
    have z2 : (items.eraseIdxIfInBounds i).size ≤ sizeLine + 1 := Nat.le_trans (MeetsSeq.size_erased items _) (Nat.le_succ_of_le hz)
    wp_walk using (wpAny_updateSeq hl rfl (hz := hz) (_hz' := z2)), AutoSeq1.wpAny_loadPart' hl
    simpa using h
  | succ k ih =>
    intro i hk hij hno prog w A R s h
    obtain ⟨hp, g, d, tk, os⟩ := s
    obtain ⟨hl, he, h⟩ := h
    have ilt : i < items.size := by omega
    wp_walk using AutoSeq1.wpAny_loadPart' hl
    have at_i : items[((i : Nat) : Int).toNat]? = some items[i] := by simp [ilt]
    have succ_i : ((i : Int) + 1) = ((i + 1 : Nat) : Int) := by push_cast; rfl
    rw [at_i]
    refine wpAny_bind (he _ (Array.getElem_mem ilt) prog w _ _ ?_)
    rw [hno i ilt (Nat.le_refl _) (by omega)]
    wp_walk
    rw [succ_i]
    exact ⟨plainId_quiet MeetsSeq.plain_remove_loop _, codeAny_builtin MeetsSeq.entry_remove_loop (by
      rw [Around.under_plainId MeetsSeq.plain_remove_loop _]
      exact ih (i + 1) (by omega) (by omega) (fun m hm h1 h2 => hno m hm (by omega) h2) prog w A R _ ⟨hl, he, h⟩)⟩
theorem list_removeAt (l : Addr) (items : Array Value) (n : Nat) (x : Value) (e : Value → Bool) (j : Nat) (hj : j < items.size) (yes : e items[j] = true) (hno : ∀ m (hm : m < items.size), m < j → e items[m] = false) (hz : items.size ≤ sizeLine) :
    Meets (Builtin.«list.remove» ⟨[.ref l, x], []⟩)
      (fun A R s => s.heap.get? l = some { cls := .type "list", dict := none, data := .seq items n, slots := #[] } ∧ (∀ y, y ∈ items → SeqAt.EqAt A.in1 s y x (e y)) ∧ R (.ok (.ret .none)) { s with heap := s.heap.update l (Obj.mapSeq fun xs => xs.eraseIdxIfInBounds j) }) := by
  intro prog w A R s h
  obtain ⟨hp, g, d, tk, os⟩ := s
  obtain ⟨hl, he, h⟩ := h
  wp_walk using AutoSeq1.wpAny_loadPart' hl
  exact ⟨plainId_quiet MeetsSeq.plain_remove_loop _, codeAny_builtin MeetsSeq.entry_remove_loop (by
    rw [Around.under_plainId MeetsSeq.plain_remove_loop _]
    exact removeAt_loop l items n x e j hj yes _ hz 0 rfl (Nat.zero_le _) (fun m hm _ h2 => hno m hm h2) prog w A R _ ⟨hl, he, h⟩)⟩
end PySem
namespace L2
open PySem PySem.Spec PyProof.Rows
section
variable {X : Cx}
theorem countP_vals {i : Int} : ∀ {ns : List Int} {us : List Value}, Vals (ns.map V.int) us → us.countP (fun v => match v with | .int j _ => j == i | _ => false) = ns.count i
  | [], _, .nil => rfl
  | n :: ns, _, .cons h t => by
    obtain ⟨u, rfl⟩ := h
    rw [List.countP_cons, List.count_cons, countP_vals t]
inductive RCountTP (K : PySem.W.Frag) (x : V) (vs : List V) (H : Hp) (Q : VK) : Prop
  | mk (a : Addr) (ns : List Int) (i : Int) : (x = .ref a) → (vs = [.int i]) → (SqT K H a (ns.map V.int)) → (Q (.int (ns.count i : Nat)) H) → RCountTP K x vs H Q
def rCountT (K : PySem.W.Frag) : V → List V → Hp → VK → Prop := fun x vs H Q => RCountTP K x vs H Q
theorem mt_countT : MtM X "tuple.count" (rCountT X.K) := by
  intro pins s σ H x xs v us Q I rx r h
  obtain ⟨a, ns, i, rfl, rfl, ha, q⟩ := h
  cases rx
  obtain ⟨u, rfl, ⟨t, rfl⟩⟩ := vals1 r
  obtain ⟨its, rv, p, hz⟩ := I.tuple ha
  obtain ⟨⟨cls, dd, data, sl⟩, ho, hc, n, hd⟩ := id p
  simp only at hc hd
  subst hc hd
  refine call_meets PySem.F.slot_tuple_count ⟨_, ho, rfl⟩ PySem.F.entry_tuple_count (PySem.F.args_tuple_count_2 _ _) (SeqAt.tuple_countAt a its.toArray n dd sl (.int i t) (fun v => match v with | .int j _ => j == i | _ => false)) ⟨ho, ?_, ?_⟩
  · intro y hy
    have hy : y ∈ its := by simpa using hy
    have : ∀ {ns : List Int} {us : List Value}, Vals (ns.map V.int) us → ∀ y ∈ us, ∃ j t', y = .int j t' := by
      intro ns us hv
      induction ns generalizing us with
      | nil => cases hv; intro y hy; cases hy
      | cons n ns ih =>
        cases hv with
        | cons h tl =>
          intro y hy
          rcases List.mem_cons.mp hy with rfl | hy
          · obtain ⟨u, rfl⟩ := h; exact ⟨n, u, rfl⟩
          · exact ih tl y hy
    obtain ⟨j, t', rfl⟩ := this rv y hy
    exact SeqAt.EqAt.int_int j t' i t
  · refine ⟨.int _, H, I.tok _, ⟨_, rfl⟩, ?_⟩
    have := countP_vals (i := i) rv
    simp only [List.toList_toArray]
    rw [this]
    exact q
theorem call_range1 : CallR X (.type "range") (fun xs H Q => ∃ j : Int, xs = [.int j] ∧ ∀ l, H l = none → Q (.ref l) (upd H l (.rng 0 j))) := by
  intro pins s σ H xs us Q I r h
  obtain ⟨j, rfl, q⟩ := h
  obtain ⟨u, rfl, ⟨t, rfl⟩⟩ := vals1 r
  exact call_range_1 ⟨.ref s.heap.objs.size, _, I.laid (o := .rng 0 j) (fun _ _ q => Heap.get?_push_of_some _ q) (Nat.le_refl _) ⟨_, _, _, Heap.get?_push_size _ rfl⟩, rfl, q _ I.fresh⟩
theorem vals_rng : ∀ (l : List Value) (k : Nat) (i : Int), (∀ (n : Nat) (x : Value), l[n]? = some x → ∃ t, x = .int (i + n) t) → l.length = k → Vals ((rints i k).map V.int) l := by
  intro l
  induction l with
  | nil => intro k i _ e; cases e; exact .nil
  | cons x l ih =>
    intro k i h e
    cases k with
    | zero => cases e
    | succ k =>
      have h0 := h 0 x rfl
      have e1 : rints i (k + 1) = i :: rints (i + 1) k := by
        simp only [rints, List.range_succ_eq_map, List.map_cons, List.map_map]
        refine congr (congrArg List.cons (by simp)) (List.map_congr_left fun a _ => ?_)
        simp only [Function.comp]; omega
      rw [e1]
      refine .cons (by obtain ⟨t, q⟩ := h0; exact ⟨t, by simpa using q⟩) (ih k (i + 1) (fun n y hy => ?_) (by simpa using e))
      obtain ⟨t, q⟩ := h (n + 1) y (by simpa using hy)
      exact ⟨t, by rw [q]; congr 1; omega⟩
theorem call_tuple_rng (hc : X.calm = true) : CallR X (.type "tuple") (fun xs H Q => ∃ (p : Addr) (j : Int), xs = [.ref p] ∧ H p = some (.rng 0 j) ∧ 0 ≤ j ∧ j ≤ 1000 ∧ ∀ l H', Same H H' → H' l = some (.tup ((rints 0 j.toNat).map V.int)) → Q (.ref l) H') := by
  intro pins s σ H xs us Q I r h
  obtain ⟨p, j, rfl, hp, b1, b2, q⟩ := h
  obtain ⟨u, rfl, rx⟩ := vals1 r
  cases rx
  obtain ⟨t, u, v, ho⟩ := (show ObjOk X.prog X.w H s.heap p (.rng 0 j) from I.hok p _ hp)
  refine call_tuple_rng' (n := j.toNat) (I.ok.hd hc) (show IsRange s.heap p 0 j 1 t u v from ho) (small_one (by decide) (by decide) (by omega) (by omega)) (by rw [rangeSize_one]; split <;> omega) (by omega) (by rw [sizeLine_eq]; omega) fun h' tk acc hk hacc => ?_
  have I1 : Inv X pins σ H { s with heap := h', toks := tk } := I.kept hk
  have fr : H h'.objs.size = none := I1.hok.fresh (Nat.le_refl _)
  refine ⟨.ref h'.objs.size, _, I1.laid (o := .tup ((rints 0 j.toNat).map V.int)) (t' := tk) (fun b ob q => Heap.get?_push_of_some _ q) (Nat.le_refl _) ⟨by simp [rints, sizeLine_eq]; omega, acc.toList, ?_, ?_⟩, rfl, q _ _ (same_new fr) upd_same⟩
  · refine vals_rng acc.toList _ 0 (fun n x hx => ?_) (by simpa using hacc.1)
    obtain ⟨t, q⟩ := hacc.2 n x (by simpa using hx)
    exact ⟨t, by rw [q, Int.mul_one]⟩
  · exact ⟨_, Heap.get?_push_size _ rfl, rfl, rfl, 0, by simp⟩
end
end L2
set_option maxHeartbeats 4000000
namespace PySem
open Builtin
theorem noFill_tup_mul : fillsNumberSlot (.type "tuple") "mul" = pure false := fillsNumberSlot_seq (id := "tuple.__mul__") (r := some (.builtin "tuple.__rmul__")) F.slot_tuple_mul.lookup (by decide +kernel) F.slot_tuple_rmul.lookup (by decide +kernel)
theorem repeat_tup : seqRepeat? (.type "tuple") = pure (some (.builtin "tuple.__mul__")) := by
  unfold seqRepeat?
  rw [seqSlot_of (T := "tuple") (name := "__mul__") (id := "tuple.__mul__") F.slot_tuple_mul.lookup (by decide +kernel), seqSlot_of (T := "tuple") (name := "__rmul__") (id := "tuple.__rmul__") F.slot_tuple_rmul.lookup (by decide +kernel)]
  rfl
theorem int_rmul_tup (a : Int) (t : Tok) (l : Addr) (items : Array Value) (n : Nat) (dd : Option Addr) (sl : Array (Option Value)) :
    Meets (Builtin.«int.__rmul__» ⟨[.int a t, .ref l], []⟩) (fun _ R s => s.heap.get? l = some { cls := .type "tuple", dict := dd, data := .seq items n, slots := sl } ∧ R (.ok (.ret Value.notImplemented)) s) :=
  .of_wp fun prog w A R s h => by
    obtain ⟨hp, g, d, tk, os⟩ := s
    obtain ⟨hl, h⟩ := h
    wp_walk
    exact ⟨_, rfl, h⟩
theorem tup_mul (l : Addr) (items : Array Value) (n : Nat) (dd : Option Addr) (sl : Array (Option Value)) (k : Int) (t : Tok) (hk : 1 ≤ k) (hk2 : k ≤ 1000) (h1 : items.size = 1) :
    Meets (Builtin.«tuple.__mul__» ⟨[.ref l, .int k t], []⟩) (fun _ R s => s.heap.get? l = some { cls := .type "tuple", dict := dd, data := .seq items n, slots := sl } ∧ (k = 1 → R (.ok (.ret (.ref l))) s) ∧
      (k ≠ 1 → R (.ok (.ret (.ref s.heap.objs.size))) { s with heap := s.heap.push { cls := .type "tuple", data := .seq ((List.replicate k.toNat items).foldl (· ++ ·) #[]) } })) :=
  .of_wp fun prog w A R s h => by
    obtain ⟨hp, g, d, tk, os⟩ := s
    obtain ⟨hl, q1, q2⟩ := h
    have f1 := AutoSeq1.idx_int
    have b1 : (decide (k < -(2 ^ 63)) || decide (k ≥ 2 ^ 63)) = false := by rw [decide_eq_false (by omega), decide_eq_false (by omega)]; rfl
    have b2 : items.isEmpty = false := by rw [Array.isEmpty]; simp [h1]
    have hT : Shared.TypeIs ⟨hp, g, d, tk, os⟩ (.ref l) "tuple" := ⟨_, hl, rfl⟩
    by_cases hk1 : k = 1
    · subst hk1
      have z := q1 rfl
      wp_walk using AutoSeq1.wpAny_loadPart' hl, wpAny_typeOf hT
      exact ⟨_, rfl, z⟩
    · have z := q2 hk1
      have c1 : (items.isEmpty || k == 1) = false := by rw [b2]; simpa using hk1
      have c2 : (decide (k ≤ 0) || items.isEmpty) = false := by rw [b2, decide_eq_false (by omega)]; rfl
      have c3 : ¬ ((items.size : Int) * k > (2 ^ 63 - 1) / 8) := by rw [h1]; omega
      have c4 : Builtin.Tuple.tupleTooMany ((items.size : Int) * k) = false := by unfold Builtin.Tuple.tupleTooMany; rw [h1, sizeLine_eq]; exact decide_eq_false (by omega)
      wp_walk using AutoSeq1.wpAny_loadPart' hl, wpAny_typeOf hT
      rw [if_neg (by rw [b1]; decide)]
      wp_walk using AutoSeq1.wpAny_loadPart' hl, wpAny_typeOf hT
      rw [if_neg (by rw [c2]; decide)]
      wp_walk using AutoSeq1.wpAny_loadPart' hl, wpAny_typeOf hT
      rw [if_neg c3]
      wp_walk using AutoSeq1.wpAny_loadPart' hl, wpAny_typeOf hT
      rw [if_neg (by rw [c4]; decide)]
      have len : ((List.replicate k.toNat items).foldl (· ++ ·) #[]).size ≤ sizeLine := by
        have key : ∀ (m : Nat) (acc : Array Value), ((List.replicate m items).foldl (· ++ ·) acc).size = acc.size + m := by
          intro m
          induction m with
          | zero => intro acc; rfl
          | succ m ih => intro acc; rw [List.replicate_succ, List.foldl_cons, ih, Array.size_append, h1]; omega
        rw [key, sizeLine_eq]
        simp
        omega
      refine wpAny_bind (m := Builtin.Tuple.tupleExact _) ?_
      unfold Builtin.Tuple.tupleExact
      exact wpAny_newObj_type (wpAny_pure ⟨_, rfl, z⟩) len
end PySem
namespace L2
open PySem PySem.Spec PyProof.Rows
section
variable {X : Cx}
theorem foldl_one (u : Value) : ∀ (m : Nat) (acc : Array Value), (List.replicate m (#[u] : Array Value)).foldl (· ++ ·) acc = (acc.toList ++ List.replicate m u).toArray := by
  intro m
  induction m with
  | zero => intro acc; simp
  | succ m ih => intro acc; rw [List.replicate_succ, List.foldl_cons, ih, List.replicate_succ]; simp
theorem vals_rep {x : V} {u : Value} (r : RelV x u) : ∀ m : Nat, Vals (List.replicate m x) (List.replicate m u)
  | 0 => .nil
  | m + 1 => by rw [List.replicate_succ, List.replicate_succ]; exact .cons r (vals_rep r m)
theorem op_repT1 : OpR X (binaryOp .Mult) (fun x y H Q => ∃ (a : Addr) (z : V) (k : Int), x = .ref a ∧ y = .int k ∧ SqT X.K H a [z] ∧ 1 ≤ k ∧ k ≤ 1000 ∧ (k = 1 → Q (.ref a) H) ∧ (k ≠ 1 → ∀ p, H p = none → Q (.ref p) (upd H p (.tup (List.replicate k.toNat z))))) := by
  intro pins s σ H x y v u Q I rx ry h
  obtain ⟨a, z, k, rfl, rfl, ha, k1, k2, q1, q2⟩ := h
  cases rx
  obtain ⟨t, rfl⟩ := ry
  obtain ⟨its, rv, p, hz⟩ := I.tuple ha
  obtain ⟨u0, rfl, ru⟩ := vals1 rv
  obtain ⟨⟨cls, dd, data, sl⟩, ho, hc, n, hd⟩ := id p
  simp only at hc hd
  subst hc hd
  refine wpAny_binaryOp_repeat_ref (T := "tuple") (U := "int") (by decide) ⟨_, ho, rfl⟩ (fun s' => typeIs_int s' k t) noFill_tup_mul PySem.F.fills_int_mul PySem.F.slot_int_rmul repeat_tup PySem.F.slot_int_index.lookup
    (call_meets PySem.F.slot_int_rmul (typeIs_int s k t) PySem.F.entry_int_rmul (PySem.F.args_int_rmul_2 _ _) (int_rmul_tup k t a _ n dd sl)
      ⟨ho, rfl, ⟨_, ho, rfl⟩, call_meets PySem.F.slot_tuple_mul ⟨_, ho, rfl⟩ PySem.F.entry_tuple_mul (PySem.F.args_tuple_mul_2 _ _) (tup_mul a _ n dd sl k t k1 k2 (by simp)) ⟨ho, fun e => ?_, fun e => ?_⟩⟩)
  · exact ⟨.ref a, H, I, rfl, q1 e⟩
  · refine ⟨.ref s.heap.objs.size, _, I.laid (o := .tup (List.replicate k.toNat z)) (fun b ob q => Heap.get?_push_of_some _ q) (Nat.le_refl _) ⟨by simp [sizeLine_eq]; omega, List.replicate k.toNat u0, vals_rep ru _, ?_⟩, rfl, q2 e _ I.fresh⟩
    have e := foldl_one u0 k.toNat #[]
    rw [show ([u0].toArray : Array Value) = #[u0] from rfl, e]
    simp only [List.nil_append]
    exact IsTupN.new _ _
end
section
variable {X : Cx}
theorem op_repT2 : OpR X (binaryOp .Mult) (fun x y H Q => ∃ (a : Addr) (z : V) (k : Int), x = .ref a ∧ y = .int k ∧ H a = some (.tup [z]) ∧ 1 ≤ k ∧ k ≤ 1000 ∧ ∀ p H', Same H H' → H' p = some (.tup (List.replicate k.toNat z)) → Q (.ref p) H') := by
  intro pins s σ H x y v u Q I rx ry h
  obtain ⟨a, z, k, hx, hy, ha, k1, k2, q⟩ := h
  exact op_repT1 pins s σ H x y v u Q I rx ry ⟨a, z, k, hx, hy, SqT.of ha, k1, k2, fun e => q a H (same_refl H) (by rw [ha, e]; rfl), fun _ p hp => q p _ (same_new hp) upd_same⟩
end
def IteT (K : PySem.W.Frag) (a : Addr) : It :=
  ⟨fun i H => ∃ xs x, SqT K H a xs ∧ xs[i]? = some x, fun i H v H' => ∃ T x, H T = none ∧ v = .ref T ∧ H' = upd H T (.tup [.int i, x]) ∧ ∀ xs, SqT K H a xs → xs[i]? = some x, fun i H => ∃ xs, SqT K H a xs ∧ i = xs.length⟩
theorem turn_enumT {P : Program} {w : World} {K : PySem.W.Frag} {elts : List Expr} {x1} {pos : Pos} (a e it : Addr) (hei : e ≠ it) (hae : a ≠ e) (hai : a ≠ it) : Turn P w K (.Tuple elts x1 pos) (IteT K a) [e, it] e (fun i h => (∃ old, IsEnum h e it i old) ∧ h.IsTupleIter it a i) where
  mem := by simp
  obj := fun i h st b hb => by
    obtain ⟨⟨old, he⟩, o, ho, hc, hd⟩ := st
    rcases List.mem_cons.mp hb with rfl | hb
    · exact ⟨_, he, fun v z => by cases z⟩
    · have : b = it := by simpa using hb
      subst this
      exact ⟨o, ho, fun v z => by rw [hd] at z; cases z⟩
  keep := fun i h h' st k => ⟨let ⟨old, he⟩ := st.1; ⟨old, k e (by simp) _ he⟩, st.2.at fun o q => k it (by simp) o q⟩
  item := by
    intro X hP hw hK hc i pins s σ H E I hf st hg
    subst hP hw hK
    obtain ⟨⟨old, he⟩, hit⟩ := st
    obtain ⟨xs, x, hq, hx⟩ := hg
    obtain ⟨its, rv, p, hz⟩ := I.tuple hq
    obtain ⟨u, hu, ru⟩ := rv.get hx
    have fresh : H s.heap.objs.size = none := I.hok.fresh (Nat.le_refl _)
    have elt : e < s.heap.objs.size := Heap.lt_size he
    have ilt : it < s.heap.objs.size := by obtain ⟨_, q, _⟩ := hit; exact Heap.lt_size q
    have hil : i < its.toArray.size := by have := (List.getElem?_eq_some_iff.mp hu).1; simpa using this
    refine wpAny_pyNext_enum_itemD (Draws.tup (A := X.A.in1) (I.ok.hd hc) it a hai its.toArray) he ⟨hit, p⟩ hil hei (by simp only [List.mem_cons, List.mem_nil_iff, or_false, not_or]; exact ⟨hei, hae.symm⟩) fun uv h' tk pu eo it' hT hsz kk => ⟨_, rfl, ?_⟩
    have eu : u = uv := Option.some.inj (hu.symm.trans (by simpa using pu))
    subst eu
    refine wpAny_letOwnedTupleGo_enum (s := { s with heap := h', toks := tk + 1 }) eo fun h2 e2 sb => ?_
    have I1 : Inv X pins σ (upd H s.heap.objs.size (.tup [.int i, x])) { s with heap := s.heap.push { cls := .type "tuple", data := .seq #[.int i tk, u] }, toks := s.toks } :=
      I.laid (o := .tup [.int i, x]) (fun b ob q => Heap.get?_push_of_some _ q) (Nat.le_refl _) ⟨by rw [sizeLine_eq]; simp, [.int i tk, u], .cons ⟨_, rfl⟩ (.cons ru .nil), IsTupN.new _ _⟩
    have I2 := I1.turnedL (h' := h2) (t' := tk + 1) [e, it] (fun b o hb q => ?_) (fun b hb => ?_)
    · refine ⟨.ref s.heap.objs.size, _, I2, rfl, ⟨_, x, fresh, rfl, rfl, fun ys hy => by rw [I.tuple_inj hy hq]; exact hx⟩, ⟨⟨_, by simpa using e2⟩, it'.1.at fun o q => (sb.2 it hei.symm).trans q⟩, fun b hb => ?_⟩
      rcases List.mem_cons.mp hb with rfl | hb
      · rw [upd_ne (Nat.ne_of_lt elt)]; exact (hf _ (by simp)).1
      · have : b = it := by simpa using hb
        subst this
        rw [upd_ne (Nat.ne_of_lt ilt)]; exact (hf _ (by simp)).1
    · have b1 : b ≠ e := fun z => hb (by simp [z])
      have b2 : b ≠ it := fun z => hb (by simp [z])
      refine (sb.2 b b1).trans ?_
      by_cases hbs : b = s.heap.objs.size
      · subst hbs
        rw [Heap.get?_push_size _ rfl] at q
        cases q
        exact hT
      · rw [Heap.get?_push_ne _ _ _ hbs] at q
        exact kk b o b1 b2 q
    · rcases List.mem_cons.mp hb with rfl | hb
      · exact (hf _ (by simp)).up (Nat.ne_of_lt elt)
      · have : b = it := by simpa using hb
        subst this
        exact (hf _ (by simp)).up (Nat.ne_of_lt ilt)
  done := by
    intro X hP hw hK hc i pins s σ H E I hf st hg
    subst hP hw hK
    obtain ⟨⟨old, he⟩, hit⟩ := st
    obtain ⟨xs, hq, hx⟩ := hg
    obtain ⟨its, rv, p, hz⟩ := I.tuple hq
    have hl := rv.length
    have hn : i = its.toArray.size := by simp; omega
    subst hn
    exact wpAny_pyNext_enum_endD (Draws.tup (A := X.A.in1) (I.ok.hd hc) it a hai its.toArray) he ⟨hit, p⟩ fun h' eb => ⟨rfl, I.turnedL (t' := s.toks) [e, it] (fun b o hb q => eb b o (fun z => hb (by simp [z])) q) hf⟩
  self := fun A i s Q E st h => let ⟨⟨old, he⟩, _⟩ := st; wpAny_pyIter_enum he h
end L2
namespace PySem
open Builtin
theorem meets_enumerate_newT (a : Addr) (items : Array Value) (n : Nat) (dd : Option Addr) (sl : Array (Option Value)) :
    Meets (Builtin.«enumerate.__new__» ⟨[.type "enumerate", .ref a], []⟩) (fun _ R s => s.heap.get? a = some { cls := .type "tuple", dict := dd, data := .seq items n, slots := sl } ∧
      R (.ok (.ret (.ref (s.heap.push { cls := .type "tuple_iterator", data := .fields #[.ref a, .int 0 0] }).objs.size)))
        { s with heap := (s.heap.push { cls := .type "tuple_iterator", data := .fields #[.ref a, .int 0 0] }).push { cls := .type "enumerate", data := .fields #[.none, .bool false, .ref s.heap.objs.size, rawInt 0, .none, .none] } }) :=
  .of_wp fun prog w A R s h => by
    obtain ⟨hp, g, d, tk, os⟩ := s
    obtain ⟨ha, h⟩ := h
    have hsub := sub_enumerate
    have tA : Heap.IsTuple (Shared.heap ⟨hp, g, d, tk, os⟩) a items := ⟨_, ha, rfl, n, rfl⟩
    wp_walk using AutoSeq1.wpAny_loadPart' ha
    refine wpAny_stack_any fun st => wpAny_pure ?_
    split
    · rename_i c _ _ _ _ _
      cases (c == Value.type "enumerate") <;> (wp_walk using AutoSeq1.wpAny_loadPart' ha, wpAny_pyIter_tuple tA; exact ⟨_, rfl, h⟩)
    · wp_walk using AutoSeq1.wpAny_loadPart' ha, wpAny_pyIter_tuple tA
      exact ⟨_, rfl, h⟩
theorem call_enumerate_tup {prog : Program} {w : World} {A : Around} {E : Value → Shared → Prop} {s : Shared} {a : Addr} {items : Array Value} {Q : Value → Shared → Prop} (tA : s.heap.IsTuple a items)
    (h : ∀ h', IsEnum h' (s.heap.objs.size + 1) s.heap.objs.size 0 .none → h'.IsTupleIter s.heap.objs.size a 0 → (∀ b o, s.heap.get? b = some o → h'.get? b = some o) → Q (.ref (s.heap.objs.size + 1)) { s with heap := h' }) :
    wpAny (model prog w) A (call (.type "enumerate") [.ref a]) Q E s := by
  obtain ⟨⟨c, dd, dt, sl⟩, ha, hc, n, hd⟩ := tA
  replace hc : c = .type "tuple" := hc
  replace hd : dt = .seq items n := hd
  subst hc hd
  refine callType_new F.called_enumerate (by decide) (F.typeCall_enumerate_1 _) (F.newCall_enumerate_1 _) (fun obj => F.args_object_init_2 obj _) F.entry_enumerate_new (meets_enumerate_newT a items n dd sl) ⟨ha, ?_⟩
  have y1 : (s.heap.push { cls := .type "tuple_iterator", data := .fields #[.ref a, .int 0 0] }).objs.size = s.heap.objs.size + 1 := Heap.size_push ..
  have e1 : ((s.heap.push { cls := .type "tuple_iterator", data := .fields #[.ref a, .int 0 0] }).push { cls := .type "enumerate", data := .fields #[.none, .bool false, .ref s.heap.objs.size, rawInt 0, .none, .none] }).get? (s.heap.push { cls := .type "tuple_iterator", data := .fields #[.ref a, .int 0 0] }).objs.size = some _ := Heap.get?_push_size _ rfl
  have e2 : ((s.heap.push { cls := .type "tuple_iterator", data := .fields #[.ref a, .int 0 0] }).push { cls := .type "enumerate", data := .fields #[.none, .bool false, .ref s.heap.objs.size, rawInt 0, .none, .none] }).get? s.heap.objs.size = some _ := Heap.get?_push_of_some _ (Heap.get?_push_size _ rfl)
  show _ ∧ _
  rw [y1] at e1 ⊢
  exact ⟨⟨_, e1, rfl⟩, h _ e1 ⟨_, e2, rfl, rfl⟩ fun b o e => Heap.get?_push_of_some _ (Heap.get?_push_of_some _ e)⟩
end PySem
namespace L2
open PySem PySem.Spec PyProof.Rows
def iEnumT (K : PySem.W.Frag) (ta : TA) : TI := fun σ H R => ta σ H fun vs H1 => ∃ a xs, vs = [.ref a] ∧ SqT K H1 a xs ∧ R (IteT K a) H1
theorem pi_enumT {X : Cx} {elts : List Expr} {x1} {tpos : Pos} {a : Expr} {ta : TA} {p pos : Pos} (hg : Gl X "enumerate") (hm : X.mg "enumerate" = none) (ha : PA X [a] ta) (hs : starEach [a] X.env = [(false, eval a X.env)] := by rfl) :
    PI X (.Tuple elts x1 tpos) (.Call (.Name "enumerate" p) [a] [] pos) (iEnumT X.K ta) := by
  intro pins s σ H R I h
  refine Call_ (ld_blt I hg hm (show bootBuiltins "enumerate" = some (.type "enumerate") by decide +kernel) (PyProof.Rows.callWith_type1 (thn (ha pos pins s σ H _ I h) fun us s1 ⟨vs, H1, I1, r1, q1⟩ => ?_) hs rfl))
  obtain ⟨l, xs, e, hq, q⟩ := q1
  subst e
  obtain ⟨u, rfl, ru⟩ := vals1 r1
  cases ru
  obtain ⟨its, rv, pl, hz⟩ := I1.tuple hq
  refine call_enumerate_tup pl fun h' he hit kk => wpAny_pyIter_enum he ?_
  obtain ⟨ol, gl, _⟩ := id pl
  have ll := Heap.lt_size gl
  refine ⟨s1.heap.objs.size + 1, [s1.heap.objs.size + 1, s1.heap.objs.size], _, _, H1, rfl, I1.kept (t' := s1.toks) kk, turn_enumT l _ _ (Nat.succ_ne_self _) (Nat.ne_of_lt (Nat.lt_succ_of_lt ll)) (Nat.ne_of_lt ll), ⟨⟨_, he⟩, hit⟩, fun b hb => ?_, q⟩
  have hb : s1.heap.objs.size ≤ b := by
    rcases List.mem_cons.mp hb with rfl | hb
    · exact Nat.le_succ _
    · have : b = s1.heap.objs.size := by simpa using hb
      exact Nat.le_of_eq this.symm
  exact I1.fpOk hb (I1.hok.fresh hb)
section
variable {g : TG} {ti : TT} {te : TE} {Q : VK} {D : Addr} {σ : St} {H : Hp}
theorem comp_enumT {K : PySem.W.Frag} {a : Addr} {xs : List V} (Pv : Nat → St → List V → Hp → Prop) (h0 : Pv 0 σ [] (upd H D (.lst []))) (hl : ∀ i σ ys H, i ≤ xs.length → Pv i σ ys H → SqT K H a xs ∧ H D = some (.lst ys))
    (hs : ∀ i x σ ys H T, xs[i]? = some x → Pv i σ ys H → H T = none → cturn g ti te D (.ref T) σ ys (upd H T (.tup [.int (i : Nat), x])) (Pv (i + 1))) (hd : ∀ σ ys H, Pv xs.length σ ys H → Q (.ref D) H) :
    cgo (IteT K a) g ti te D σ H Q := by
  refine ⟨fun i m σ ys H => m = xs.length - i ∧ i ≤ xs.length ∧ Pv i σ ys H, ⟨xs.length, by simp, Nat.zero_le _, h0⟩, ?_⟩
  rintro i m σ ys H ⟨rfl, hi, p⟩
  obtain ⟨q, hD⟩ := hl i σ ys H hi p
  refine ⟨hD, ?_⟩
  by_cases hlt : i < xs.length
  · refine .inr ⟨⟨xs, xs[i], q, by simp [hlt]⟩, Pv (i + 1), fun σ' ys' H' p' => ⟨xs.length - (i + 1), by omega, rfl, hlt, p'⟩, fun x H' y => ?_⟩
    obtain ⟨T, z, hT, rfl, rfl, y⟩ := y
    exact hs i z σ ys H T (y xs q) p hT
  · have e : i = xs.length := by omega
    subst e
    exact .inl ⟨⟨xs, q, rfl⟩, hd σ ys H p⟩
end
section
variable {X : Cx}
theorem map_erase {α β : Type} (f : α → β) : ∀ (l : List α) (j : Nat), (l.eraseIdx j).map f = (l.map f).eraseIdx j
  | [], _ => by simp
  | _ :: _, 0 => by simp
  | _ :: l, j + 1 => by simp [map_erase f l j]
inductive RRemoveP (K : PySem.W.Frag) (x : V) (vs : List V) (H : Hp) (Q : VK) : Prop
  | mk (l : Addr) (ps : List (Addr × List Int)) (j : Nat) (a : Addr) (q : List Int) : (x = .ref l) → (vs = [.ref a]) → (H l = some (.lst (ps.map fun p => V.ref p.1))) → ((∀ p ∈ ps, H p.1 = some (.lst (p.2.map V.int)))) → (ps[j]? = some (a, q)) → ((∀ (m : Nat) (p : Addr × List Int), m < j → ps[m]? = some p → p.2 ≠ q)) → (Q .non (upd H l (.lst ((ps.eraseIdx j).map fun p => V.ref p.1)))) → RRemoveP K x vs H Q
def rRemove (K : PySem.W.Frag) : V → List V → Hp → VK → Prop := fun x vs H Q => RRemoveP K x vs H Q
theorem mt_remove (hu : X.A.units + 64 < cLine) : MtM X "list.remove" (rRemove X.K) := by
  intro pins s σ H x vs v us Q I rx rv h
  obtain ⟨l, ps, j, a, q, rfl, rfl, hH, hps, hj, hno, k⟩ := h
  cases rx
  obtain ⟨u, rfl, ru⟩ := rv.one
  cases ru
  obtain ⟨z, its, n, r, hl, e⟩ := I.lstM hH
  have hjl : j < ps.length := (List.getElem?_eq_some_iff.mp hj).1
  have itsl : its.length = ps.length := by rw [← hl, List.length_map]
  have item : ∀ (m : Nat) (p : Addr × List Int), ps[m]? = some p → its[m]? = some (.ref p.1) := fun m p hp => by
    obtain ⟨u, hu, ru⟩ := r.get (i := m) (x := .ref p.1) (by rw [List.getElem?_map, hp]; rfl)
    cases ru
    exact hu
  let tst : Value → Bool := fun v => match v with
    | .ref b => match H b with
      | some (.lst xs) => decide (xs = q.map V.int)
      | _ => false
    | _ => false
  have tst_at : ∀ p ∈ ps, tst (.ref p.1) = decide (p.2 = q) := fun p hp => by
    show (match H p.1 with | some (.lst xs) => decide (xs = q.map V.int) | _ => false) = _
    rw [hps p hp]
    show decide (p.2.map V.int = q.map V.int) = _
    have inj : p.2.map V.int = q.map V.int ↔ p.2 = q := ⟨fun h => by
      have : (p.2.map V.int).map (fun v => match v with | .int i => i | _ => 0) = (q.map V.int).map (fun v => match v with | .int i => i | _ => 0) := by rw [h]
      simpa [List.map_map, Function.comp_def] using this, fun h => by rw [h]⟩
    simp only [inj]
  have hja := item j _ hj
  have memj : (a, q) ∈ ps := List.mem_of_getElem? hj
  have aj : its.toArray[j]'(by simp; omega) = .ref a := by
    have := (List.getElem?_eq_some_iff.mp hja).2
    simpa using this
  refine call_meets PySem.F.slot_list_remove ⟨_, e, rfl⟩ PySem.F.entry_list_remove (PySem.F.args_list_remove_2 _ _) (list_removeAt l its.toArray n (.ref a) tst j (by simp; omega) ?_ ?_ (by simp; omega)) ⟨e, ?_, ?_⟩
  · rw [aj, tst_at _ memj]; simp
  · intro m hm hmj
    have hm' : m < ps.length := by simpa [itsl] using hm
    have hp : ps[m]? = some ps[m] := by simp [hm']
    have := (List.getElem?_eq_some_iff.mp (item m _ hp)).2
    rw [show its.toArray[m] = .ref ps[m].1 by simpa using this, tst_at _ (List.getElem_mem hm')]
    exact decide_eq_false (hno m _ hmj hp)
  · intro y hy
    have hy : y ∈ its := by simpa using hy
    obtain ⟨m, hm, rfl⟩ := List.getElem_of_mem hy
    have hm' : m < ps.length := by omega
    have hp : ps[m]? = some ps[m] := by simp [hm']
    have e1 : its[m] = .ref ps[m].1 := (List.getElem?_eq_some_iff.mp (item m _ hp)).2
    rw [e1, tst_at _ (List.getElem_mem hm')]
    have lay : ∀ ns : List Int, (PyData.list (ns.map PyData.int)).canLay0 = true := fun ns => by
      show PyData.canLayAll0 _ = true
      induction ns with
      | nil => rfl
      | cons n ns ih => show (true && PyData.canLayAll0 _) = true; rw [ih]; rfl
    have repI : ∀ (b : Addr) (ns : List Int), H b = some (.lst (ns.map V.int)) → Rep X.K H (.ref b) (.list (ns.map PyData.int)) := fun b ns hb => by
      refine .lst (SqL.of hb) ?_
      clear hb
      induction ns with
      | nil => exact .nil
      | cons n ns ih => exact .cons (.int n) ih
    obtain ⟨as1, r1⟩ := (repI _ _ (hps _ (List.getElem_mem hm'))).reads (u := .ref ps[m].1) I rfl
    obtain ⟨as2, r2⟩ := (repI _ _ (hps _ memj)).reads (u := .ref a) I rfl
    have dep : ∀ ns : List Int, (PyData.list (ns.map PyData.int)).depth ≤ 2 := fun ns => by
      have : PyData.depthAll (ns.map PyData.int) ≤ 1 := by
        induction ns with
        | nil => simp [PyData.depthAll]
        | cons n ns ih => simp only [List.map_cons, PyData.depthAll, PyData.depth]; omega
      simp only [PyData.depth]; omega
    have eqi : PyData.eqv (.list (ps[m].2.map PyData.int)) (.list (q.map PyData.int)) = decide (ps[m].2 = q) := by
      rw [PyData.eqv]
      have : ∀ xs ys : List Int, PyData.eqvAll (xs.map PyData.int) (ys.map PyData.int) = decide (xs = ys) := by
        intro xs
        induction xs with
        | nil => intro ys; cases ys <;> simp [PyData.eqvAll]
        | cons x xs ih =>
          intro ys
          cases ys with
          | nil => simp [PyData.eqvAll]
          | cons y ys =>
            simp only [List.map_cons, PyData.eqvAll, PyData.eqv, ih]
            rw [Bool.eq_iff_iff]
            simp
      exact this _ _
    rw [← eqi]
    refine SeqAt.eqAt_reads _ _ X.A.in1 s _ _ as1 as2 r1 r2 (lay _) (lay _) ?_
    have d1 := dep ps[m].2
    have d2 := dep q
    show X.A.units + 1 + min _ _ < cLine
    omega
  · refine ⟨.non, _, I.lset (its' := its.eraseIdx j) hH e ?_ ?_ ?_, rfl, k⟩
    · show its.toArray.eraseIdxIfInBounds j = (its.eraseIdx j).toArray
      rw [List.eraseIdxIfInBounds_toArray]
    · have := r.eraseIdx j
      rw [show (ps.eraseIdx j).map (fun p => V.ref p.1) = (ps.map fun p => V.ref p.1).eraseIdx j by rw [map_erase]]
      exact this
    · simp [List.length_eraseIdx]
      rw [List.length_map] at z
      split <;> omega
end
end L2
set_option maxHeartbeats 1000000
namespace Srt
open PySem PySem.W PyProof.Rows
structure Ord (lt : Nat → Nat → Bool) : Prop where
  asym : ∀ a b, lt a b = true → lt b a = false
  ntr : ∀ a b c, lt a b = false → lt b c = false → lt a c = false
def ev {α : Type} (lt : Nat → Nat → Bool) : KasT α → α
  | .ret a => a
  | .ask i j k => ev lt (k (lt i j))
theorem ev_bind {α β : Type} (lt : Nat → Nat → Bool) (f : α → KasT β) : ∀ t : KasT α, ev lt (t.bind f) = ev lt (f (ev lt t))
  | .ret _ => rfl
  | .ask i j k => ev_bind lt f (k (lt i j))
def AsksP {α : Type} (n : Nat) (P : α → Prop) : KasT α → Prop
  | .ret a => P a
  | .ask i j k => i < n ∧ j < n ∧ ∀ b, AsksP n P (k b)
theorem AsksP.bind {α β : Type} {n : Nat} {P : α → Prop} {R : β → Prop} {f : α → KasT β} (hf : ∀ a, P a → AsksP n R (f a)) : ∀ {t : KasT α}, AsksP n P t → AsksP n R (t.bind f)
  | .ret a, h => hf a h
  | .ask i j k, h => ⟨h.1, h.2.1, fun b => AsksP.bind hf (h.2.2 b)⟩
theorem AsksP.ev {α : Type} {n : Nat} {P : α → Prop} (lt : Nat → Nat → Bool) : ∀ {t : KasT α}, AsksP n P t → P (Srt.ev lt t)
  | .ret _, h => h
  | .ask i j k, h => AsksP.ev (n := n) (P := P) lt (t := k (lt i j)) (h.2.2 (lt i j))
theorem AsksP.wp {α : Type} {n : Nat} {P : α → Prop} {cmp : Nat → Nat → (Bool → Shared → Prop) → Shared → Prop} {lt : Nat → Nat → Bool} {s : Shared} (hc : ∀ i j (C : Bool → Shared → Prop), i < n → j < n → C (lt i j) s → cmp i j C s) {Q : α → Shared → Prop} : ∀ {t : KasT α}, AsksP n P t → Q (Srt.ev lt t) s → t.kasWp cmp Q s
  | .ret _, _, q => q
  | .ask i j k, h, q => hc i j _ h.1 h.2.1 (AsksP.wp hc (h.2.2 (lt i j)) q)
abbrev g (p : Array Nat) (k : Nat) : Nat := p.getD k 0
theorem g_eq (p : Array Nat) (k : Nat) : g p k = (p[k]?).getD 0 := by
  show p.getD k 0 = _
  simp [Array.getD_eq_getD_getElem?]
theorem g_rev {p : Array Nat} {i j : Nat} (hj : j ≤ p.size) (k : Nat) : g (kas_rev p i j) k = if i ≤ k ∧ k < j then g p (i + j - 1 - k) else g p k := by
  rw [g_eq]
  unfold kas_rev
  rw [getElem?_mirror_all hj]
  split <;> rw [g_eq]
theorem g_bub {p : Array Nat} {src d : Nat} (hs : src < p.size) (hd : d ≤ src) (k : Nat) : g (bubble p src d) k = if k = src - d then g p src else if src - d < k ∧ k ≤ src then g p (k - 1) else g p k := by
  rw [g_eq, getElem?_bubble hs d hd, g_eq, g_eq, g_eq]
  split
  · rfl
  · split <;> rfl
theorem rev_size (p : Array Nat) (i j : Nat) : (kas_rev p i j).size = p.size := mirror_size _ _ _ _
theorem rev_perm (p : Array Nat) (i j : Nat) : (kas_rev p i j).Perm p := mirror_perm _ _ _ _
def Pm (n : Nat) (p : Array Nat) : Prop := p.Perm (List.range n).toArray
theorem Pm.size {n : Nat} {p : Array Nat} (h : Pm n p) : p.size = n := by
  have := Array.Perm.size_eq h
  simpa using this
theorem Pm.lt {n : Nat} {p : Array Nat} (h : Pm n p) (h0 : 0 < n) (k : Nat) : g p k < n := by
  rw [g_eq]
  cases e : p[k]? with
  | none => exact h0
  | some x =>
    have hx : x ∈ p := Array.mem_of_getElem? e
    have := (Array.Perm.mem_iff h).mp hx
    simpa using this
section
variable {n : Nat} (h0 : 0 < n)
include h0
theorem asks_asc {p : Array Nat} (h : Pm n p) : ∀ f m, AsksP n (fun _ => True) (kas_asc p f m)
  | 0, _ => trivial
  | f + 1, m => ⟨h.lt h0 _, h.lt h0 _, fun b => by cases b <;> first | exact trivial | exact asks_asc h f (m + 1)⟩
theorem asks_desc : ∀ f {p : Array Nat} (m q : Nat), Pm n p → AsksP n (fun r => Pm n r.1) (kas_desc f p m q)
  | 0, _, _, _, h => h
  | f + 1, p, m, q, h => by
    refine ⟨h.lt h0 _, h.lt h0 _, fun b => ?_⟩
    cases b with
    | true =>
      show AsksP n _ (if q > 0 then _ else _)
      by_cases hq : q > 0
      · rw [if_pos hq]; exact asks_desc f _ _ ((rev_perm _ _ _).trans h)
      · rw [if_neg hq]; exact asks_desc f _ _ h
    | false =>
      refine ⟨h.lt h0 _, h.lt h0 _, fun d => ?_⟩
      cases d with
      | true => exact h
      | false => exact asks_desc f _ _ h
theorem asks_tail3 {p : Array Nat} (m nrem : Nat) (h : Pm n p) : AsksP n (fun r => Pm n r.2) (kas_tail3 m nrem p) := by
  have hr : Pm n (kas_rev p 0 m) := (rev_perm _ _ _).trans h
  refine AsksP.bind (n := n) (P := fun _ => True) (R := fun r : Nat × Array Nat => Pm n r.2) (fun k _ => ?_) (asks_asc h0 hr _ _)
  exact hr
theorem asks_descPart {p : Array Nat} (m nrem : Nat) (h : Pm n p) : AsksP n (fun r => Pm n r.2) (kas_descPart m nrem p) :=
  (asks_desc h0 _ _ _ h).bind fun r hr => by
    by_cases hq : r.2.2 > 0
    · rw [if_pos hq]; exact asks_tail3 h0 _ _ ((rev_perm _ _ _).trans hr)
    · rw [if_neg hq]; exact asks_tail3 h0 _ _ hr
theorem asks_count {p : Array Nat} (nrem : Nat) (h : Pm n p) : AsksP n (fun r => Pm n r.2) (kas_count nrem p) :=
  (asks_asc h0 h _ _).bind fun m _ => by
    by_cases h1 : (m == nrem) = true
    · rw [if_pos h1]; exact h
    · rw [if_neg h1]
      by_cases h2 : m > 1
      · rw [if_pos h2]
        refine ⟨h.lt h0 _, h.lt h0 _, fun c => ?_⟩
        cases c with
        | true => exact h
        | false => exact asks_descPart h0 _ _ ((rev_perm _ _ _).trans h)
      · rw [if_neg h2]; exact asks_descPart h0 _ _ h
theorem asks_place {p : Array Nat} (k : Nat) (h : Pm n p) : ∀ f l r, AsksP n (fun _ => True) (kas_place p k f l r)
  | 0, _, _ => trivial
  | f + 1, l, r => by
    show AsksP n _ (if l ≥ r then _ else _)
    by_cases hl : l ≥ r
    · rw [if_pos hl]; trivial
    · rw [if_neg hl]
      refine ⟨h.lt h0 _, h.lt h0 _, fun c => ?_⟩
      cases c with
      | true => exact asks_place k h f _ _
      | false => exact asks_place k h f _ _
theorem asks_bin : ∀ f {p : Array Nat} (k : Nat), Pm n p → AsksP n (Pm n) (kas_bin f p k)
  | 0, _, _, h => h
  | f + 1, p, k, h => (asks_place h0 k h _ _ _).bind fun l _ => asks_bin f (k + 1) ((bubble_perm _ _ _).trans h)
theorem asks_sort : AsksP n (Pm n) (kas_sort n) :=
  (asks_count h0 n (Array.Perm.refl _)).bind fun r hr => by
    by_cases h1 : r.1 < n
    · rw [if_pos h1]; exact asks_bin h0 _ _ hr
    · rw [if_neg h1]; exact hr
end
section
variable {lt : Nat → Nat → Bool} (O : Ord lt)
def Sto (lt : Nat → Nat → Bool) (p : Array Nat) (k : Nat) : Prop := ∀ i j, i ≤ j → j < k → lt (g p j) (g p i) = false
def Dto (lt : Nat → Nat → Bool) (p : Array Nat) (k : Nat) : Prop := ∀ i j, i ≤ j → j < k → lt (g p i) (g p j) = false
def Eqv (lt : Nat → Nat → Bool) (a b : Nat) : Prop := lt a b = false ∧ lt b a = false
include O
theorem irr (a : Nat) : lt a a = false := by
  cases h : lt a a with
  | false => rfl
  | true => have := O.asym a a h; rw [h] at this; cases this
theorem ev_asc {p : Array Nat} : ∀ f m, 1 ≤ m → Sto lt p m → m ≤ ev lt (kas_asc p f m) ∧ ev lt (kas_asc p f m) ≤ m + f ∧ Sto lt p (ev lt (kas_asc p f m)) ∧ (ev lt (kas_asc p f m) < m + f → lt (g p (ev lt (kas_asc p f m))) (g p (ev lt (kas_asc p f m) - 1)) = true)
  | 0, m, _, hs => ⟨Nat.le_refl _, Nat.le_refl _, hs, fun h => absurd h (Nat.lt_irrefl _)⟩
  | f + 1, m, h1, hs => by
    show m ≤ ev lt (if lt (g p m) (g p (m - 1)) = true then .ret m else kas_asc p f (m + 1)) ∧ ev lt (if lt (g p m) (g p (m - 1)) = true then .ret m else kas_asc p f (m + 1)) ≤ m + (f + 1) ∧ Sto lt p (ev lt (if lt (g p m) (g p (m - 1)) = true then .ret m else kas_asc p f (m + 1))) ∧ (ev lt (if lt (g p m) (g p (m - 1)) = true then .ret m else kas_asc p f (m + 1)) < m + (f + 1) → lt (g p (ev lt (if lt (g p m) (g p (m - 1)) = true then .ret m else kas_asc p f (m + 1)))) (g p (ev lt (if lt (g p m) (g p (m - 1)) = true then .ret m else kas_asc p f (m + 1)) - 1)) = true)
    by_cases c : lt (g p m) (g p (m - 1)) = true
    · rw [if_pos c]
      exact ⟨Nat.le_refl _, Nat.le_add_right _ _, hs, fun _ => c⟩
    · rw [if_neg c]
      have c : lt (g p m) (g p (m - 1)) = false := by simpa using c
      have hs' : Sto lt p (m + 1) := fun i j hij hj => by
        by_cases e : j = m
        · subst e
          by_cases e2 : i = j
          · subst e2; exact irr O _
          · exact O.ntr _ _ _ c (hs i (j - 1) (by omega) (by exact Nat.sub_lt (by assumption) (by decide)))
        · exact hs i j hij (by omega)
      obtain ⟨a, b, d, e⟩ := ev_asc f (m + 1) (by exact Nat.lt_succ_of_lt (by assumption)) hs'
      exact ⟨by exact Nat.le_of_lt (by assumption), by omega, d, fun h => e (by omega)⟩
theorem Dto.eqv {p p1 : Array Nat} {k : Nat} (h : Dto lt p k) (he : ∀ i, i < k → Eqv lt (g p1 i) (g p i)) : Dto lt p1 k := fun i j hij hj =>
  O.ntr _ _ _ (he i (by exact Nat.lt_of_le_of_lt (by assumption) (by assumption))).1 (O.ntr _ _ _ (h i j hij hj) (he j hj).2)
def Blk (lt : Nat → Nat → Bool) (p : Array Nat) (m q : Nat) : Prop := q + 1 ≤ m ∧ ∀ i j, m - (q + 1) ≤ i → i < m → m - (q + 1) ≤ j → j < m → Eqv lt (g p i) (g p j)
theorem rev_blk {p : Array Nat} {m q : Nat} (hm : m ≤ p.size) (hb : Blk lt p m q) : ∀ i, Eqv lt (g (kas_rev p (m - (q + 1)) m) i) (g p i) := fun i => by
  have h1 := hb.1
  rw [g_rev hm]
  split
  · exact hb.2 _ _ (by omega) (by omega) (by omega) (by omega)
  · exact ⟨irr O _, irr O _⟩
theorem ev_desc : ∀ f {p : Array Nat} (m q : Nat), 1 ≤ m → m + f ≤ p.size → Dto lt p m → Blk lt p m q →
    let r := ev lt (kas_desc f p m q); m ≤ r.2.1 ∧ r.2.1 ≤ m + f ∧ r.1.size = p.size ∧ Dto lt r.1 r.2.1 ∧ Blk lt r.1 r.2.1 r.2.2
  | 0, p, m, q, _, _, hd, hb => ⟨Nat.le_refl _, Nat.le_refl _, rfl, hd, hb⟩
  | f + 1, p, m, q, h1, hz, hd, hb => by
    intro r
    have b1 := hb.1
    have single : ∀ (p' : Array Nat), Blk lt p' (m + 1) 0 := fun p' => ⟨by exact Nat.lt_succ_of_lt (by assumption), fun i j a b c d => by
      have : i = j := by omega
      subst this; exact ⟨irr O _, irr O _⟩⟩
    have low : lt (g p (m - 1)) (g p m) = false → Dto lt p (m + 1) := fun c i j hij hj => by
      by_cases e : j = m
      · subst e
        by_cases e2 : i = j
        · subst e2; exact irr O _
        · exact O.ntr _ _ _ (hd i (j - 1) (by omega) (by exact Nat.sub_lt (by assumption) (by decide))) c
      · exact hd i j hij (by omega)
    by_cases c : lt (g p m) (g p (m - 1)) = true
    · have cl := low (O.asym _ _ c)
      by_cases hq : q > 0
      · have e : r = ev lt (kas_desc f (kas_rev p (m - (q + 1)) m) (m + 1) 0) := by
          show ev lt (if lt (g p m) (g p (m - 1)) = true then (if q > 0 then _ else _) else _) = _
          rw [if_pos c, if_pos hq]
        obtain ⟨a, b, s, d, k⟩ := ev_desc f (p := kas_rev p (m - (q + 1)) m) (m + 1) 0 (by exact Nat.lt_succ_of_lt (by assumption)) (by rw [rev_size]; omega) (Dto.eqv O cl fun i _ => rev_blk O (by omega) hb i) (single _)
        rw [e]
        exact ⟨by exact Nat.le_of_lt (by assumption), by omega, by rw [s, rev_size], d, k⟩
      · have e : r = ev lt (kas_desc f p (m + 1) 0) := by
          show ev lt (if lt (g p m) (g p (m - 1)) = true then (if q > 0 then _ else _) else _) = _
          rw [if_pos c, if_neg hq]
        obtain ⟨a, b, s, d, k⟩ := ev_desc f (p := p) (m + 1) 0 (by exact Nat.lt_succ_of_lt (by assumption)) (by omega) cl (single _)
        rw [e]
        exact ⟨by exact Nat.le_of_lt (by assumption), by omega, s, d, k⟩
    · have c' : lt (g p m) (g p (m - 1)) = false := by simpa using c
      by_cases d1 : lt (g p (m - 1)) (g p m) = true
      · have e : r = (p, m, q) := by
          show ev lt (if lt (g p m) (g p (m - 1)) = true then _ else KasT.ask _ _ fun d => if d = true then _ else _) = _
          rw [if_neg c]
          show ev lt (if lt (g p (m - 1)) (g p m) = true then KasT.ret (p, m, q) else _) = _
          rw [if_pos d1]
          rfl
        rw [e]
        exact ⟨Nat.le_refl _, Nat.le_add_right _ _, rfl, hd, hb⟩
      · have d' : lt (g p (m - 1)) (g p m) = false := by simpa using d1
        have e : r = ev lt (kas_desc f p (m + 1) (q + 1)) := by
          show ev lt (if lt (g p m) (g p (m - 1)) = true then _ else KasT.ask _ _ fun d => if d = true then _ else _) = _
          rw [if_neg c]
          show ev lt (if lt (g p (m - 1)) (g p m) = true then KasT.ret (p, m, q) else _) = _
          rw [if_neg d1]
        have blk : Blk lt p (m + 1) (q + 1) := ⟨by exact Nat.succ_le_succ (by assumption), fun i j i1 i2 j1 j2 => by
          have to : ∀ k, m - (q + 1) ≤ k → k < m + 1 → Eqv lt (g p k) (g p (m - 1)) := fun k k1 k2 => by
            by_cases z : k = m
            · subst z; exact ⟨c', d'⟩
            · exact hb.2 k (m - 1) k1 (by omega) (by omega) (by exact Nat.sub_lt (by assumption) (by decide))
          have a := to i (by omega) i2
          have b := to j (by omega) j2
          exact ⟨O.ntr _ _ _ a.1 b.2, O.ntr _ _ _ b.1 a.2⟩⟩
        obtain ⟨a, b, s, d, k⟩ := ev_desc f (p := p) (m + 1) (q + 1) (by exact Nat.lt_succ_of_lt (by assumption)) (by omega) (low d') blk
        rw [e]
        exact ⟨by exact Nat.le_of_lt (by assumption), by omega, s, d, k⟩
theorem Dto.rev {p : Array Nat} {m : Nat} (hm : m ≤ p.size) (h : Dto lt p m) : Sto lt (kas_rev p 0 m) m := fun i j hij hj => by
  rw [g_rev hm, g_rev hm, if_pos ⟨by exact Nat.zero_le _, by assumption⟩, if_pos ⟨by exact Nat.zero_le _, by exact Nat.lt_of_le_of_lt (by assumption) (by assumption)⟩]
  exact h _ _ (by omega) (by omega)
theorem ev_tail3 {p : Array Nat} {m nrem : Nat} (h1 : 1 ≤ m) (hn : m ≤ nrem) (hz : nrem ≤ p.size) (h : Dto lt p m) : let r := ev lt (kas_tail3 m nrem p); 1 ≤ r.1 ∧ r.1 ≤ nrem ∧ Sto lt r.2 r.1 := by
  intro r
  have e : r = (ev lt (kas_asc (kas_rev p 0 m) (nrem - m) m), kas_rev p 0 m) := ev_bind lt _ _
  obtain ⟨a, b, c, _⟩ := ev_asc O (p := kas_rev p 0 m) (nrem - m) m h1 (Dto.rev O (by exact Nat.le_trans (by assumption) (by assumption)) h)
  rw [e]
  exact ⟨by show 1 ≤ _; exact Nat.le_trans (by assumption) (by assumption), by show _ ≤ nrem; omega, c⟩
theorem ev_descPart {p : Array Nat} {m nrem : Nat} (hn : m + 1 ≤ nrem) (hz : nrem ≤ p.size) (h : Dto lt p (m + 1)) : let r := ev lt (kas_descPart m nrem p); 1 ≤ r.1 ∧ r.1 ≤ nrem ∧ Sto lt r.2 r.1 := by
  intro r
  have single : Blk lt p (m + 1) 0 := ⟨by omega, fun i j a b c d => by
    have : i = j := by omega
    subst this; exact ⟨irr O _, irr O _⟩⟩
  obtain ⟨a, b, s, d, k⟩ := ev_desc O (nrem - (m + 1)) (p := p) (m + 1) 0 (by omega) (by omega) h single
  have e : r = ev lt (if (ev lt (kas_desc (nrem - (m + 1)) p (m + 1) 0)).2.2 > 0 then kas_tail3 (ev lt (kas_desc (nrem - (m + 1)) p (m + 1) 0)).2.1 nrem (kas_rev (ev lt (kas_desc (nrem - (m + 1)) p (m + 1) 0)).1 ((ev lt (kas_desc (nrem - (m + 1)) p (m + 1) 0)).2.1 - ((ev lt (kas_desc (nrem - (m + 1)) p (m + 1) 0)).2.2 + 1)) (ev lt (kas_desc (nrem - (m + 1)) p (m + 1) 0)).2.1) else kas_tail3 (ev lt (kas_desc (nrem - (m + 1)) p (m + 1) 0)).2.1 nrem (ev lt (kas_desc (nrem - (m + 1)) p (m + 1) 0)).1) := ev_bind lt _ _
  rw [e]
  generalize ev lt (kas_desc (nrem - (m + 1)) p (m + 1) 0) = x at a b s d k
  by_cases hq : x.2.2 > 0
  · rw [if_pos hq]
    exact ev_tail3 O (by omega) (by omega) (by rw [rev_size]; omega) (Dto.eqv O d fun i _ => rev_blk O (by omega) k i)
  · rw [if_neg hq]
    exact ev_tail3 O (by omega) (by omega) (by omega) d
theorem ev_count {p : Array Nat} {nrem : Nat} (h1 : 1 ≤ nrem) (hz : nrem ≤ p.size) : let r := ev lt (kas_count nrem p); 1 ≤ r.1 ∧ r.1 ≤ nrem ∧ Sto lt r.2 r.1 := by
  intro r
  have s1 : Sto lt p 1 := fun i j hij hj => by
    have a : i = 0 := by omega
    have b : j = 0 := by omega
    subst a b; exact irr O _
  obtain ⟨a, b, c, e⟩ := ev_asc O (p := p) (nrem - 1) 1 (Nat.le_refl _) s1
  have er : r = ev lt ((fun n => if (n == nrem) = true then KasT.ret (n, p) else if n > 1 then KasT.ask (p.getD 0 0) (p.getD (n - 1) 0) fun c => if c = true then KasT.ret (n, p) else kas_descPart n nrem (kas_rev p 0 n) else kas_descPart n nrem p) (ev lt (kas_asc p (nrem - 1) 1))) := ev_bind lt _ _
  rw [er]
  generalize ev lt (kas_asc p (nrem - 1) 1) = m at a b c e
  dsimp only
  by_cases h2 : (m == nrem) = true
  · rw [if_pos h2]
    exact ⟨a, by show m ≤ nrem; omega, c⟩
  · rw [if_neg h2]
    have hm : m < nrem := by
      have : m ≠ nrem := by simpa using h2
      omega
    have last := e (by omega)
    by_cases h3 : m > 1
    · rw [if_pos h3]
      show let r := ev lt (if lt (g p 0) (g p (m - 1)) = true then KasT.ret (m, p) else kas_descPart m nrem (kas_rev p 0 m)); 1 ≤ r.1 ∧ r.1 ≤ nrem ∧ Sto lt r.2 r.1
      by_cases h4 : lt (g p 0) (g p (m - 1)) = true
      · rw [if_pos h4]
        exact ⟨a, by show m ≤ nrem; exact Nat.le_of_lt (by assumption), c⟩
      · rw [if_neg h4]
        have h4 : lt (g p 0) (g p (m - 1)) = false := by simpa using h4
        have all : ∀ i j, i < m → j < m → lt (g p i) (g p j) = false := fun i j hi hj => O.ntr _ _ _ (O.ntr _ _ _ (c 0 i (by exact Nat.zero_le _) hi) h4) (c j (m - 1) (by omega) (by exact Nat.sub_lt (by assumption) (by decide)))
        have blk : Blk lt p m (m - 1) := ⟨by exact Nat.sub_lt (by assumption) (by decide), fun i j _ i2 _ j2 => ⟨all i j i2 j2, all j i j2 i2⟩⟩
        have d1 : Dto lt p (m + 1) := fun i j hij hj => by
          by_cases z : j = m
          · subst z
            by_cases z2 : i = j
            · subst z2; exact irr O _
            · exact O.ntr _ _ _ (all i (j - 1) (by omega) (by exact Nat.sub_lt (by assumption) (by decide))) (O.asym _ _ last)
          · exact all i j (by omega) (by omega)
        have rb := rev_blk O (by omega) blk
        rw [show m - (m - 1 + 1) = 0 by omega] at rb
        exact ev_descPart O (by assumption) (by rw [rev_size]; assumption) (Dto.eqv O d1 fun i _ => rb i)
    · rw [if_neg h3]
      have : m = 1 := by omega
      subst this
      refine ev_descPart O (by assumption) hz fun i j hij hj => ?_
      by_cases z : i = j
      · subst z; exact irr O _
      · have a0 : i = 0 := by omega
        have b1 : j = 1 := by omega
        subst a0 b1
        exact O.asym _ _ last
theorem ev_place {p : Array Nat} {k : Nat} : ∀ f l r, r - l ≤ f → l ≤ r → r ≤ k → (∀ i, i < l → lt (g p k) (g p i) = false) → (∀ i, r ≤ i → i < k → lt (g p k) (g p i) = true) → Sto lt p k →
    let x := ev lt (kas_place p k f l r); x ≤ k ∧ (∀ i, i < x → lt (g p k) (g p i) = false) ∧ ∀ i, x ≤ i → i < k → lt (g p k) (g p i) = true
  | 0, l, r, hf, hlr, hrk, h1, h2, _ => by
    have : l = r := by omega
    subst this
    exact ⟨hrk, h1, h2⟩
  | f + 1, l, r, hf, hlr, hrk, h1, h2, hs => by
    intro x
    by_cases hl : l ≥ r
    · have e : x = l := by
        show ev lt (if l ≥ r then KasT.ret l else _) = l
        rw [if_pos hl]; rfl
      have : l = r := by omega
      subst this
      rw [e]
      exact ⟨hrk, h1, h2⟩
    · by_cases c : lt (g p k) (g p ((l + r) / 2)) = true
      · have e : x = ev lt (kas_place p k f l ((l + r) / 2)) := by
          show ev lt (if l ≥ r then KasT.ret l else KasT.ask _ _ fun c => if c = true then _ else _) = _
          rw [if_neg hl]
          show ev lt (if lt (g p k) (g p ((l + r) / 2)) = true then _ else _) = _
          rw [if_pos c]
        rw [e]
        refine ev_place f l ((l + r) / 2) (by omega) (by omega) (by omega) h1 (fun i i1 i2 => ?_) hs
        cases z : lt (g p k) (g p i) with
        | true => rfl
        | false =>
          have := O.ntr _ _ _ z (hs ((l + r) / 2) i i1 i2)
          rw [c] at this; cases this
      · have c' : lt (g p k) (g p ((l + r) / 2)) = false := by simpa using c
        have e : x = ev lt (kas_place p k f ((l + r) / 2 + 1) r) := by
          show ev lt (if l ≥ r then KasT.ret l else KasT.ask _ _ fun c => if c = true then _ else _) = _
          rw [if_neg hl]
          show ev lt (if lt (g p k) (g p ((l + r) / 2)) = true then _ else _) = _
          rw [if_neg c]
        rw [e]
        refine ev_place f ((l + r) / 2 + 1) r (by omega) (by omega) hrk (fun i i1 => O.ntr _ _ _ c' (hs i ((l + r) / 2) (by omega) (by omega))) h2 hs
theorem ev_bin : ∀ f {p : Array Nat} (k : Nat), k + f = p.size → Sto lt p k → Sto lt (ev lt (kas_bin f p k)) p.size
  | 0, p, k, hz, hs => by
    have : k = p.size := by assumption
    subst this; exact hs
  | f + 1, p, k, hz, hs => by
    have e : ev lt (kas_bin (f + 1) p k) = ev lt (kas_bin f (bubble p k (k - ev lt (kas_place p k k 0 k))) (k + 1)) := ev_bind lt _ _
    obtain ⟨x1, x2, x3⟩ := ev_place O (p := p) (k := k) k 0 k (by exact Nat.le_refl _) (by exact Nat.zero_le _) (Nat.le_refl _) (fun i hi => by omega) (fun i i1 i2 => by omega) hs
    rw [e]
    generalize ev lt (kas_place p k k 0 k) = x at x1 x2 x3
    have hs' : Sto lt (bubble p k (k - x)) (k + 1) := fun i j hij hj => by
      rw [g_bub (by omega) (by exact Nat.sub_le _ _), g_bub (by omega) (by exact Nat.sub_le _ _), show k - (k - x) = x by omega]
      by_cases j1 : j = x
      · rw [if_pos j1]
        by_cases i1 : i = x
        · rw [if_pos i1]; exact irr O _
        · rw [if_neg i1, if_neg (by omega)]
          exact x2 i (by omega)
      · rw [if_neg j1]
        by_cases j2 : x < j ∧ j ≤ k
        · rw [if_pos j2]
          by_cases i1 : i = x
          · rw [if_pos i1]; exact O.asym _ _ (x3 (j - 1) (by omega) (by omega))
          · rw [if_neg i1]
            by_cases i2 : x < i ∧ i ≤ k
            · rw [if_pos i2]; exact hs (i - 1) (j - 1) (by omega) (by omega)
            · rw [if_neg i2]; exact hs i (j - 1) (by omega) (by omega)
        · rw [if_neg j2, if_neg (by omega), if_neg (by omega)]
          exact hs i j hij (by omega)
    have := ev_bin f (p := bubble p k (k - x)) (k + 1) (by rw [bubble_size]; omega) hs'
    rw [bubble_size] at this
    exact this
theorem ev_sort {n : Nat} (h1 : 1 ≤ n) : Sto lt (ev lt (kas_sort n)) n := by
  have hz : (List.range n).toArray.size = n := by simp
  have e : ev lt (kas_sort n) = ev lt ((fun r : Nat × Array Nat => if r.1 < n then kas_bin (n - max r.1 1) r.2 (max r.1 1) else .ret r.2) (ev lt (kas_count n (List.range n).toArray))) := ev_bind lt _ _
  obtain ⟨a, b, c⟩ := ev_count O (p := (List.range n).toArray) h1 (by omega)
  have pm : Pm n (ev lt (kas_count n (List.range n).toArray)).2 := (asks_count (by assumption) n (Array.Perm.refl _)).ev lt
  rw [e]
  generalize ev lt (kas_count n (List.range n).toArray) = r at a b c pm
  dsimp only
  have sz := pm.size
  by_cases h : r.1 < n
  · rw [if_pos h, show max r.1 1 = r.1 by omega]
    have := ev_bin O (n - r.1) (p := r.2) r.1 (by omega) c
    rw [sz] at this
    exact this
  · rw [if_neg h]
    have : r.1 = n := by omega
    rw [this] at c
    exact c
end
end Srt
set_option maxHeartbeats 1000000
namespace Srt
open PySem PySem.W PyProof.Rows
section
variable {prog : Program} {w : World} {A : Around} {E : Value → Shared → Prop} {s : Shared}
theorem list_sort_raw {κ : SortKind} {lt : Nat → Nat → Bool} (O : Ord lt) {a : Addr} {vs : List Value} {n : Nat} {P : PySem.Fin → Shared → Prop} (ho : s.heap.get? a = some (seqObj "list" vs.toArray n)) (h64 : vs.length < 64)
    (hk : ∀ h', (∀ b o, b ≠ a → s.heap.get? b = some o → h'.get? b = some o) → 2 ≤ vs.length → ∀ Q : SortKind → Shared → Prop, Q κ { s with heap := h' } → wpAny (model prog w) A (keyKind' vs.toArray) Q E { s with heap := h' })
    (hc : ∀ h', (∀ b o, b ≠ a → s.heap.get? b = some o → h'.get? b = some o) → ∀ i j (C : Bool → Shared → Prop), i < vs.length → j < vs.length → C (lt i j) { s with heap := h' } → kas_ask prog w A κ vs i j C { s with heap := h' })
    (h : ∀ p : Array Nat, Pm vs.length p → Sto lt p vs.length → P (.done (.ret .none)) { s with heap := sortedHeap s.heap a vs (p.toList.map fun i => vs.getD i Value.none).toArray }) :
    wpAny (model prog w) A (Builtin.«list.sort» ⟨[.ref a], []⟩) P E s := by
  rw [list_sort_plain]
  have ha : a < s.heap.objs.size := Heap.lt_size ho
  refine wpAny_bind (listItems_at ho rfl ?_)
  refine wpAny_bind (listUpdate_at ho rfl ?_ (by rw [List.size_toArray, sizeLine_eq]; omega) (Nat.zero_le _))
  obtain ⟨e1, ho1⟩ : ∃ e1, (s.heap.update a (Obj.mapSeq fun _ => #[])).get? a = some (seqObj "list" #[] e1) := ⟨_, get?_update_seq ho (fun _ => #[])⟩
  refine wpAny_bind (seqEpoch_at ho1 rfl ?_)
  refine wpAny_bind (wpAny_newTuple ?_ (by show vs.length ≤ _; rw [sizeLine_eq]; omega))
  refine wpAny_bind (wpAny_newList ?_ (Nat.zero_le _))
  refine wpAny_holding ?_
  have keep : ∀ b o, b ≠ a → s.heap.get? b = some o → (((s.heap.update a (Obj.mapSeq fun _ => #[])).push (seqObj "tuple" vs.toArray 0)).push (seqObj "list" #[] 0)).get? b = some o := fun b o ne q => by
    have hlt : b < s.heap.objs.size := Heap.lt_size q
    rw [Heap.get?_push_ne _ _ _ (by rw [size_push', Heap.size_update]; exact Nat.ne_of_lt (Nat.lt_succ_of_lt hlt)), Heap.get?_push_ne _ _ _ (by rw [Heap.size_update]; exact Nat.ne_of_lt hlt), Heap.get?_update_ne _ _ _ _ ne]
    exact q
  have ho6 : (((s.heap.update a (Obj.mapSeq fun _ => #[])).push (seqObj "tuple" vs.toArray 0)).push (seqObj "list" #[] 0)).get? a = some (seqObj "list" #[] e1) := by
    rw [Heap.get?_push_ne _ _ _ (by rw [size_push', Heap.size_update]; exact Nat.ne_of_lt (Nat.lt_succ_of_lt ha)), Heap.get?_push_ne _ _ _ (by rw [Heap.size_update]; exact Nat.ne_of_lt ha)]
    exact ho1
  show wpAny (model prog w) A _ P E { s with heap := ((s.heap.update a (Obj.mapSeq fun _ => #[])).push (seqObj "tuple" vs.toArray 0)).push (seqObj "list" #[] 0) }
  dsimp only
  have hsz : vs.toArray.size = vs.length := by simp
  by_cases h2 : vs.toArray.size < 2
  · rw [if_pos h2, if_pos h2]
    refine wpAny_bind (wpAny_pure ?_)
    rw [StateT.run_pure]
    refine wpAny_bind (wpAny_pure ?_)
    dsimp only
    refine wpAny_bind (seqEpoch_at ho6 rfl ?_)
    refine wpAny_bind (listUpdate_at ho6 rfl ?_ (hsz2 := by rw [Array.size_map]; show (pairsOf vs).size ≤ _; rw [pairsOf_size, sizeLine_eq]; omega))
    simp only [bne_self_eq_false, Bool.false_eq_true, if_false]
    have fin := h (List.range vs.length).toArray (Array.Perm.refl _) (fun i j hij hj => by
      have : i = j := by omega
      subst this; exact irr O _)
    have e : (List.range vs.length).toArray.toList.map (fun i => vs.getD i Value.none) = vs := by
      refine List.ext_getElem? fun i => ?_
      simp only [List.getElem?_map]
      by_cases hi : i < vs.length
      · simp [hi]
      · simp [Nat.le_of_not_lt hi]
    rw [e] at fin
    have e2 : (Array.map (fun x => x.snd) (vs.toArray.zip vs.toArray)) = vs.toArray := by
      apply Array.toList_inj.mp
      simp [List.map_snd_zip]
    rw [show Array.map (fun x : Keyed => x.snd) (arrOf (SortSt.mk' general' (vs.toArray.zip vs.toArray) #[] 7 none)) = vs.toArray from e2]
    exact wpAny_pure fin
  · rw [if_neg h2, if_neg h2]
    have h2' : 2 ≤ vs.length := by rw [hsz] at h2; exact Nat.not_lt.mp (by assumption)
    refine wpAny_bind (hk _ keep h2' _ ?_)
    refine wpAny_bind (wpAny_mono (kat_run (ks := vs) (vs := vs) (κ := κ) (Q := fun st' s' => ∃ p : Array Nat, s' = { s with heap := ((s.heap.update a (Obj.mapSeq fun _ => #[])).push (seqObj "tuple" vs.toArray 0)).push (seqObj "list" #[] 0) } ∧ Pm vs.length p ∧ Sto lt p vs.length ∧ arrOf st' = p.map (kas_item (vs.toArray.zip vs.toArray)) ∧ failedOf st' = none)
      rfl h2' h64 (G := fun p s' => s' = { s with heap := ((s.heap.update a (Obj.mapSeq fun _ => #[])).push (seqObj "tuple" vs.toArray 0)).push (seqObj "list" #[] 0) } ∧ Pm vs.length p ∧ Sto lt p vs.length) (fun p st' s' a1 a2 a3 a4 => ⟨p, a4.1, a4.2.1, a4.2.2, a2, a3⟩) ?_) ?_ fun _ _ e => e)
    · exact AsksP.wp (lt := lt) (hc _ keep) (asks_sort (by exact Nat.le_of_lt (by assumption))) ⟨rfl, (asks_sort (by exact Nat.le_of_lt (by assumption))).ev lt, ev_sort O (by exact Nat.le_of_lt (by assumption))⟩
    · rintro ⟨⟨⟩, st'⟩ s' ⟨p, rfl, hp, hs, har, hf⟩
      dsimp only
      rw [kat_snds rfl har]
      refine wpAny_bind (seqEpoch_at ho6 rfl ?_)
      refine wpAny_bind (listUpdate_at ho6 rfl ?_ (Nat.zero_le _) (by rw [List.size_toArray, List.length_map, Array.length_toList, hp.size, sizeLine_eq]; omega))
      rw [hf]
      simp only [bne_self_eq_false, Bool.false_eq_true, if_false]
      exact wpAny_pure (h p hp hs)
theorem sorted_raw {κ : SortKind} {lt : Nat → Nat → Bool} (O : Ord lt) {v : Value} (I : List Value → Prop) {Q : Value → Shared → Prop} (h64 : ∀ vs, I vs → vs.length < 64)
    (hcol : ∀ (Q : List Value → Shared → Prop), (∀ vs h1 t1, I vs → (∀ b o, s.heap.get? b = some o → h1.get? b = some o) → Q vs { s with heap := h1, toks := t1 }) → wpAny (model prog w) A.in1 (collect v) Q E s)
    (hk : ∀ vs h' t', I vs → (∀ b o, s.heap.get? b = some o → h'.get? b = some o) → 2 ≤ vs.length → ∀ Q : SortKind → Shared → Prop, Q κ { s with heap := h', toks := t' } → wpAny (model prog w) A.in1.in1 (keyKind' vs.toArray) Q E { s with heap := h', toks := t' })
    (hc : ∀ vs h' t', I vs → (∀ b o, s.heap.get? b = some o → h'.get? b = some o) → ∀ i j (C : Bool → Shared → Prop), i < vs.length → j < vs.length → C (lt i j) { s with heap := h', toks := t' } → kas_ask prog w A.in1.in1 κ vs i j C { s with heap := h', toks := t' })
    (h : ∀ vs (p : Array Nat) (h1 h' : Heap) t' l e, I vs → Pm vs.length p → Sto lt p vs.length → (∀ b o, s.heap.get? b = some o → h1.get? b = some o) → (∀ b o, h1.get? b = some o → h'.get? b = some o) → h1.objs.size ≤ l → h'.get? l = some (seqObj "list" (p.toList.map fun i => vs.getD i Value.none).toArray e) → Q (.ref l) { s with heap := h', toks := t' }) :
    wpAny (model prog w) A (call (.builtin "sorted") [v]) Q E s := by
  refine Calls.call_function_entry kind_sorted plain_sorted entry_sorted (args_sorted1 _) ?_
  unfold Builtin.«sorted»
  refine wpAny_bind (m := checkCount "sorted" 1 1 _) (wpAny_pure ?_)
  refine wpAny_bind (hcol _ fun vs h1 t1 hI k1 => ?_)
  have h64 := h64 vs hI
  refine wpAny_bind (wpAny_newList ?_ (by rw [sizeLine_eq]; omega))
  have hoL : (h1.push (seqObj "list" vs.toArray 0)).get? h1.objs.size = some (seqObj "list" vs.toArray 0) := Heap.get?_push_size _ rfl
  show wpAny _ _ _ _ _ { s with heap := h1.push (seqObj "list" vs.toArray 0), toks := t1 }
  have k3 : ∀ b o, h1.get? b = some o → b ≠ h1.objs.size ∧ (h1.push (seqObj "list" vs.toArray 0)).get? b = some o := fun b o q =>
    ⟨Nat.ne_of_lt (Heap.lt_size q), Heap.get?_push_of_some _ q⟩
  have k2 : ∀ b o, s.heap.get? b = some o → b ≠ h1.objs.size ∧ (h1.push (seqObj "list" vs.toArray 0)).get? b = some o := fun b o q => k3 b o (k1 b o q)
  refine wpAny_bind (wpAny_holding (wpAny_call_entry slot_list_sort ⟨_, hoL, rfl⟩ entry_list_sort (list_sort_raw (s := { s with heap := h1.push (seqObj "list" vs.toArray 0), toks := t1 }) (κ := κ) O hoL h64 (fun h' k l2 Q q => ?_) (fun h' k i j C hi hj q => ?_) fun p hp hs => ⟨_, rfl, ?_⟩) (args_list_sort _)))
  · exact hk vs h' t1 hI (fun b o q => k b o (k2 b o q).1 (k2 b o q).2) l2 Q q
  · exact hc vs h' t1 hI (fun b o q => k b o (k2 b o q).1 (k2 b o q).2) i j C hi hj q
  · refine wpAny_pure ⟨_, rfl, ?_⟩
    have hz : h1.objs.size < (h1.push (seqObj "list" vs.toArray 0)).objs.size := by rw [size_push']; exact Nat.lt_succ_self _
    obtain ⟨e, he⟩ : ∃ e, (sortedHeap (h1.push (seqObj "list" vs.toArray 0)) h1.objs.size vs (p.toList.map fun i => vs.getD i Value.none).toArray).get? h1.objs.size = some (seqObj "list" (p.toList.map fun i => vs.getD i Value.none).toArray e) := by
      unfold sortedHeap
      obtain ⟨e1, ho1⟩ : ∃ e1, ((h1.push (seqObj "list" vs.toArray 0)).update h1.objs.size (Obj.mapSeq fun _ => #[])).get? h1.objs.size = some (seqObj "list" #[] e1) := ⟨_, get?_update_seq hoL (fun _ => #[])⟩
      have ho6 : ((((h1.push (seqObj "list" vs.toArray 0)).update h1.objs.size (Obj.mapSeq fun _ => #[])).push (seqObj "tuple" vs.toArray 0)).push (seqObj "list" #[] 0)).get? h1.objs.size = some (seqObj "list" #[] e1) := by
        exact Heap.get?_push_of_some _ (Heap.get?_push_of_some _ ho1)
      exact ⟨_, get?_update_seq ho6 fun _ => _⟩
    refine h vs p h1 _ t1 h1.objs.size e hI hp hs k1 (fun b o q => ?_) (Nat.le_refl _) he
    have q2 := k3 b o q
    unfold sortedHeap
    rw [Heap.get?_update_ne _ _ _ _ q2.1]
    refine Heap.get?_push_of_some _ (Heap.get?_push_of_some _ ?_)
    rw [Heap.get?_update_ne _ _ _ _ q2.1]
    exact q2.2
end
end Srt
set_option maxHeartbeats 1000000
namespace Srt
open PySem PySem.W PyProof.Rows L2
def ltK : Key → Key → Bool
  | .inl a, .inl b => decide (a < b)
  | .inr a, .inr b => decide (a.cps.toList < b.cps.toList)
  | .inl _, .inr _ => true
  | .inr _, .inl _ => false
def ltR : List Key → List Key → Bool
  | x :: xs, y :: ys => if x = y then ltR xs ys else ltK x y
  | [], _ :: _ => true
  | _, [] => false
theorem str_ext {a b : Str} (h : a.cps.toList = b.cps.toList) : a = b := by
  cases a; cases b; simp at h; rw [h]
theorem ltK_irr : ∀ a, ltK a a = false
  | .inl a => by simp [ltK]
  | .inr a => by simp [ltK, List.lt_irrefl]
theorem ltK_tr : ∀ {a b c}, ltK a b = true → ltK b c = true → ltK a c = true
  | .inl a, .inl b, .inl c, h1, h2 => by simp only [ltK, decide_eq_true_eq] at *; omega
  | .inr a, .inr b, .inr c, h1, h2 => by simp only [ltK, decide_eq_true_eq] at *; exact List.lt_trans h1 h2
  | .inl _, .inl _, .inr _, _, _ => rfl
  | .inl _, .inr _, .inr _, _, _ => rfl
  | .inl _, .inr _, .inl _, _, h2 => by simp [ltK] at h2
  | .inr _, .inl _, _, h1, _ => by simp [ltK] at h1
  | .inr _, .inr _, .inl _, _, h2 => by simp [ltK] at h2
theorem ltK_tri : ∀ a b, ltK a b = false → a = b ∨ ltK b a = true
  | .inl a, .inl b, h => by
    simp only [ltK, decide_eq_true_eq, decide_eq_false_iff_not] at *
    rcases Int.lt_trichotomy a b with x | x | x
    · exact absurd x h
    · exact .inl (by rw [x])
    · exact .inr x
  | .inr a, .inr b, h => by
    simp only [ltK, decide_eq_true_eq, decide_eq_false_iff_not] at *
    by_cases e : b.cps.toList < a.cps.toList
    · exact .inr e
    · exact .inl (congrArg Sum.inr (str_ext (List.le_antisymm (List.not_lt.mp e) (List.not_lt.mp h))))
  | .inl _, .inr _, h => by simp [ltK] at h
  | .inr _, .inl _, _ => .inr rfl
theorem ltR_irr : ∀ a, ltR a a = false
  | [] => rfl
  | x :: xs => by simp [ltR, ltR_irr xs]
theorem ltR_tr : ∀ {a b c}, ltR a b = true → ltR b c = true → ltR a c = true
  | _, [], _, h, _ => by simp [ltR] at h
  | _, _ :: _, [], _, h => by simp [ltR] at h
  | [], _ :: _, _ :: _, _, _ => rfl
  | x :: xs, y :: ys, z :: zs, h1, h2 => by
    unfold ltR at h1 h2 ⊢
    by_cases e1 : x = y
    · subst e1
      rw [if_pos rfl] at h1
      by_cases e2 : x = z
      · rw [if_pos e2] at h2 ⊢; exact ltR_tr h1 h2
      · rw [if_neg e2] at h2 ⊢; exact h2
    · rw [if_neg e1] at h1
      by_cases e2 : y = z
      · subst e2
        rw [if_neg e1]; exact h1
      · rw [if_neg e2] at h2
        have := ltK_tr h1 h2
        rw [if_neg (fun e => by rw [e, ltK_irr] at this; cases this)]
        exact this
theorem ltR_tri : ∀ a b, ltR a b = false → a = b ∨ ltR b a = true
  | [], [], _ => .inl rfl
  | [], _ :: _, h => by simp [ltR] at h
  | _ :: _, [], _ => .inr rfl
  | x :: xs, y :: ys, h => by
    unfold ltR at h ⊢
    by_cases e : x = y
    · subst e
      rw [if_pos rfl] at h ⊢
      rcases ltR_tri xs ys h with r | r
      · exact .inl (by rw [r])
      · exact .inr r
    · rw [if_neg e] at h
      rw [if_neg (fun z => e z.symm)]
      exact .inr ((ltK_tri _ _ h).resolve_left e)
theorem ord_rows (f : Nat → List Key) : Ord fun i j => ltR (f i) (f j) where
  asym := fun a b h => by
    cases e : ltR (f b) (f a) with
    | false => rfl
    | true => have := ltR_tr h e; rw [ltR_irr] at this; cases this
  ntr := fun a b c h1 h2 => by
    cases e : ltR (f a) (f c) with
    | false => rfl
    | true =>
      rcases ltR_tri _ _ h1 with r | r
      · rw [r, h2] at e; cases e
      · have := ltR_tr r e; rw [h2] at this; cases this
def isL : Key → Bool
  | .inl _ => true
  | .inr _ => false
section
variable {prog : Program} {w : World} {A : Around} {E : Value → Shared → Prop} {s : Shared}
theorem key_eq : ∀ {x y : Key} {u v : Value} {C : Bool → Shared → Prop}, isL x = isL y → RelV (kV x) u → RelV (kV y) v → C (decide (x = y)) s → wpAny (model prog w) A (eqBool u v) C E s
  | .inl a, .inl b, _, _, C, _, ⟨t, rfl⟩, ⟨t', rfl⟩, h => wpAny_eqBool_int (by
      have : (a == b) = decide ((Sum.inl a : Key) = Sum.inl b) := by simp only [Sum.inl.injEq]; rfl
      rw [this]; exact h)
  | .inr a, .inr b, _, _, C, _, ⟨t, rfl⟩, ⟨t', rfl⟩, h => wpAny_eqBool_str (by
      have : decide (a = b) = decide ((Sum.inr a : Key) = Sum.inr b) := by simp
      rw [this]; exact h)
  | .inl _, .inr _, _, _, _, h, _, _, _ => by cases h
  | .inr _, .inl _, _, _, _, h, _, _, _ => by cases h
theorem key_lt : ∀ {x y : Key} {u v : Value} {b : Bool} {C : Bool → Shared → Prop}, isL x = isL y → RelV (kV x) u → RelV (kV y) v → C (ltK x y) s → wpAny (model prog w) A (oneLt' b u v) C E s
  | .inl a, .inl c, _, _, true, C, _, ⟨t, rfl⟩, ⟨t', rfl⟩, h => oneLt_int h
  | .inl a, .inl c, _, _, false, C, _, ⟨t, rfl⟩, ⟨t', rfl⟩, h => kat_one _ _ (PyProof.Rows.lt_int (show PySem.W.BoolBack C _ s from h))
  | .inr a, .inr c, _, _, true, C, _, ⟨t, rfl⟩, ⟨t', rfl⟩, h => oneLt_str h
  | .inr a, .inr c, _, _, false, C, _, ⟨t, rfl⟩, ⟨t', rfl⟩, h => kat_one _ _ (PySem.P.lt_str (show PySem.W.BoolBack C _ s from h))
  | .inl _, .inr _, _, _, _, _, h, _, _, _ => by cases h
  | .inr _, .inl _, _, _, _, _, h, _, _, _ => by cases h
theorem lex_go {b fin : Bool} {C : Bool → Shared → Prop} (hf : fin = false) : ∀ {x y : List Key} {us vs : List Value} (i : Nat), x.map isL = y.map isL → Vals (x.map kV) us → Vals (y.map kV) vs → C (ltR x y) s → KatLex prog w A b fin C (us.zip vs) i s
  | [], [], _, _, i, _, .nil, .nil, h => by subst hf; exact h
  | [], _ :: _, _, _, _, e, _, _, _ => by cases e
  | _ :: _, [], _, _, _, e, _, _, _ => by cases e
  | x :: xs, y :: ys, _, _, i, e, .cons r1 r2, .cons q1 q2, h => by
    simp only [List.map_cons, List.cons.injEq] at e
    refine kat_cons (key_eq e.1 r1 q1 ?_)
    unfold ltR at h
    by_cases z : x = y
    · rw [decide_eq_true z]
      rw [if_pos z] at h
      exact kat_yes (lex_go hf (i + 1) e.2 r2 q2 h)
    · rw [decide_eq_false z]
      rw [if_neg z] at h
      exact kat_no (key_lt e.1 r1 q1 h)
end
abbrev Row := Addr × List Key
def rRef (q : Row) : V := .ref q.1
theorem tups_of {X : Cx} {pins : List (Addr × Obj)} {σ : L2.St} {H : Hp} {s : Shared} (I : Inv X pins σ H s) : ∀ (ps : List Row), (∀ q ∈ ps, SqT X.K H q.1 (q.2.map kV)) → (∀ q ∈ ps, q.2 ≠ []) →
    ∃ fs, KatTups s.heap (ps.map fun q => Value.ref q.1) fs ∧ fs.length = ps.length ∧ ∀ v ∈ fs, ∃ q ∈ ps, ∃ k r, q.2 = k :: r ∧ RelV (kV k) v
  | [], _, _ => ⟨[], trivial, rfl, fun v h => nomatch h⟩
  | q :: ps, h, h0 => by
    obtain ⟨fs, t, l, f⟩ := tups_of I ps (fun q hq => h q (.tail _ hq)) fun q hq => h0 q (.tail _ hq)
    obtain ⟨its, rv, ⟨o, ho, hc, n, hd⟩, hz⟩ := I.tuple (h q (.head _))
    cases e : q.2 with
    | nil => exact absurd e (h0 q (.head _))
    | cons k r =>
      rw [e, List.map_cons] at rv
      cases rv with
      | @cons _ u _ us ru rr =>
        refine ⟨u :: fs, .cons ho hc hd (by simp) t, by simp [l], fun v hv => ?_⟩
        rcases List.mem_cons.mp hv with rfl | hv
        · exact ⟨q, .head _, k, r, e, ru⟩
        · obtain ⟨q', h1, k', r', h2, h3⟩ := f v hv
          exact ⟨q', .tail _ h1, k', r', h2, h3⟩
theorem looks_key {M : Model} {h : Heap} : ∀ {k : Key} {v : Value}, RelV (kV k) v → Looks M h (typeOf v) (if isL k = true then Value.type "int" else Value.type "str")
  | .inl i, v, ⟨t, e⟩ => by subst e; exact Looks.of_pure rfl
  | .inr x, v, ⟨t, e⟩ => by subst e; exact Looks.of_pure rfl
theorem Pm.toList {n : Nat} {p : Array Nat} (h : Pm n p) : p.toList.Perm (List.range n) := by
  have := (Array.perm_iff_toList_perm).mp h
  simpa using this
theorem map_range_getD {α : Type} (l : List α) (d : α) : (List.range l.length).map (fun i => l.getD i d) = l := by
  refine List.ext_getElem? fun i => ?_
  simp only [List.getElem?_map]
  by_cases hi : i < l.length
  · simp [hi]
  · simp [Nat.le_of_not_lt hi]
theorem Sto.pairwise {lt : Nat → Nat → Bool} {p : Array Nat} {n : Nat} (hz : p.size = n) (h : Sto lt p n) : p.toList.Pairwise fun i j => lt j i = false := by
  rw [List.pairwise_iff_getElem]
  intro i j hi hj hij
  have := h i j (Nat.le_of_lt hij) (by simpa [← hz] using hj)
  simp only [Array.length_toList] at hi hj
  have e1 : g p i = p.toList[i] := by simp [g, Array.getD, hi]
  have e2 : g p j = p.toList[j] := by simp [g, Array.getD, hj]
  rw [e1, e2] at this
  exact this
theorem vals_map {α : Type} (f : α → V) (f' : α → Value) (hf : ∀ a, RelV (f a) (f' a)) : ∀ l : List α, Vals (l.map f) (l.map f')
  | [] => .nil
  | a :: l => .cons (hf a) (vals_map f f' hf l)
theorem sortT_core {X : Cx} {pins : List (Addr × Obj)} {σ : L2.St} {H : Hp} {s : Shared} (I : Inv X pins σ H s) {v : Value} {ps : List Row} {Q : VK} (hT : ∀ q ∈ ps, SqT X.K H q.1 (q.2.map kV)) (hS : ∀ q ∈ ps, ∀ q' ∈ ps, q.2.map isL = q'.2.map isL) (h0 : ∀ q ∈ ps, q.2 ≠ []) (h64 : ps.length < 64)
    (hcol : ∀ (Q : List Value → Shared → Prop), (∀ h1 t1, (∀ b o, s.heap.get? b = some o → h1.get? b = some o) → Q (ps.map fun q => Value.ref q.1) { s with heap := h1, toks := t1 }) → wpAny (model X.prog X.w) X.A.in1 (collect v) Q X.xe s)
    (h : ∀ (l : Addr) (ps' : List Row), H l = none → ps'.Perm ps → ps'.Pairwise (fun a b => ltR b.2 a.2 = false) → Q (.ref l) (upd H l (.lst (ps'.map rRef)))) :
    wpAny (model X.prog X.w) X.A (call (.builtin "sorted") [v]) (EP X pins σ Q) X.xe s := by
  have lz : (ps.map fun q => Value.ref q.1).length = ps.length := List.length_map ..
  refine sorted_raw (κ := tuples' true) (ord_rows fun i => (ps.getD i (0, [])).2) (fun vs => vs = ps.map fun q => Value.ref q.1) (fun vs e => by rw [e, lz]; exact h64) (fun Q hq => hcol Q fun h1 t1 k => hq _ h1 t1 rfl k) ?_ ?_ ?_
  · rintro vs h' t' rfl k l2 Q hq
    rw [lz] at l2
    have I' : Inv X pins σ H { s with heap := h', toks := t' } := I.kept k
    obtain ⟨fs, t, l, f⟩ := tups_of I' ps hT h0
    obtain ⟨q0, r0, e0⟩ : ∃ q0 r0, ps = q0 :: r0 := by
      match ps, l2 with
      | q0 :: r0, _ => exact ⟨q0, r0, rfl⟩
    have m0 : q0 ∈ ps := by rw [e0]; exact .head _
    obtain ⟨k0, r1, e1⟩ : ∃ k0 r1, q0.2 = k0 :: r1 := by
      cases e : q0.2 with
      | nil => exact absurd e (h0 q0 m0)
      | cons k r => exact ⟨k, r, rfl⟩
    refine kat_kind (s := { s with heap := h', toks := t' }) (T := if isL k0 = true then Value.type "int" else Value.type "str") t (by omega) (fun v hv => ?_) (by split <;> rfl) ?_
    · obtain ⟨q, hq, k', r', e', rk⟩ := f v hv
      have := hS q hq q0 m0
      rw [e', e1] at this
      simp only [List.map_cons, List.cons.injEq] at this
      rw [← this.1]
      exact looks_key rk
    · have : ((if isL k0 = true then Value.type "int" else Value.type "str") != Value.type "tuple") = true := by split <;> rfl
      rw [this]; exact hq
  · rintro vs h' t' rfl k i j C hi hj hC
    rw [lz] at hi hj
    have I' : Inv X pins σ H { s with heap := h', toks := t' } := I.kept k
    show wpAny _ _ (keyLt' _ ((ps.map fun q => Value.ref q.1).getD i Value.none) ((ps.map fun q => Value.ref q.1).getD j Value.none)) C _ _
    have ei : (ps.map fun q => Value.ref q.1).getD i Value.none = Value.ref ps[i].1 := by simp [hi]
    have ej : (ps.map fun q => Value.ref q.1).getD j Value.none = Value.ref ps[j].1 := by simp [hj]
    have fi : ps.getD i (0, []) = ps[i] := by simp [hi]
    have fj : ps.getD j (0, []) = ps[j] := by simp [hj]
    rw [ei, ej]
    rw [fi, fj] at hC
    obtain ⟨ui, ri, ⟨oi, hoi, hci, ni, hdi⟩, zi⟩ := I'.tuple (hT ps[i] (List.getElem_mem hi))
    obtain ⟨uj, rj, ⟨oj, hoj, hcj, nj, hdj⟩, zj⟩ := I'.tuple (hT ps[j] (List.getElem_mem hj))
    have sh := hS _ (List.getElem_mem hi) _ (List.getElem_mem hj)
    have el : ui.length = uj.length := by
      rw [← ri.length, ← rj.length, List.length_map, List.length_map]
      simpa using congrArg List.length sh
    refine kat_lt hoi hdi hoj hdj (lex_go (by simp [el]) 0 sh ri rj hC)
  · rintro vs p h1 h' t' l e rfl pm st k1 k zl hl
    have I : Inv X pins σ H { s with heap := h1, toks := t' } := I.kept k1
    have pl := pm.toList
    rw [lz] at pl pm st
    have hz := pm.size
    have mem : ∀ i ∈ p.toList, i < ps.length := fun i hi => by simpa using pl.mem_iff.mp hi
    have e1 : (p.toList.map fun i => (ps.map fun q => Value.ref q.1).getD i Value.none) = (p.toList.map fun i => ps.getD i (0, [])).map fun q => Value.ref q.1 := by
      rw [List.map_map]
      refine List.map_congr_left fun i hi => ?_
      have := mem i hi
      simp [this]
    rw [e1] at hl
    have pp : (p.toList.map fun i => ps.getD i (0, [])).Perm ps := by
      have := pl.map (fun i => ps.getD i ((0, []) : Row))
      rwa [map_range_getD] at this
    have pw : (p.toList.map fun i => ps.getD i ((0, []) : Row)).Pairwise (fun a b => ltR b.2 a.2 = false) := by
      rw [List.pairwise_map]
      exact st.pairwise hz
    refine ⟨.ref l, _, I.laid (t' := t') (o := .lst ((p.toList.map fun i => ps.getD i (0, [])).map rRef)) k zl ⟨?_, _, e, vals_map rRef (fun q => Value.ref q.1) (fun _ => rfl) _, hl⟩, rfl, h l _ (I.hok.fresh zl) pp pw⟩
    rw [List.length_map, pp.length_eq, sizeLine_eq]
    omega
end Srt
set_option maxHeartbeats 1000000
namespace Srt
open PySem PySem.W PyProof.Rows L2
structure RowsOk (K : PySem.W.Frag) (H : Hp) (ps : List Row) : Prop where
  at' : ∀ q ∈ ps, SqT K H q.1 (q.2.map kV)
  sh : ∀ q ∈ ps, ∀ q' ∈ ps, q.2.map isL = q'.2.map isL
  ne : ∀ q ∈ ps, q.2 ≠ []
  few : ps.length < 64
section
variable {X : Cx}
theorem call_sortedT : CallR X (.builtin "sorted") (fun xs H Q => ∃ (p : Addr) (ps : List Row), xs = [.ref p] ∧ SqL X.K H p (ps.map rRef) ∧ RowsOk X.K H ps ∧ ∀ (l : Addr) (ps' : List Row), H l = none → ps'.Perm ps → ps'.Pairwise (fun a b => ltR b.2 a.2 = false) → Q (.ref l) (upd H l (.lst (ps'.map rRef)))) := by
  intro pins s σ H xs us Q I r h
  obtain ⟨p, ps, rfl, hq, ok, q⟩ := h
  obtain ⟨u, rfl, rx⟩ := vals1 r
  cases rx
  obtain ⟨its, rv, hp, hz⟩ := I.list hq
  have e : its = ps.map fun q => Value.ref q.1 := by
    clear hq hp hz q r ok
    induction ps generalizing its with
    | nil => cases rv; rfl
    | cons a ps ih =>
      cases rv with
      | cons ru rr => rw [List.map_cons, ← ih _ rr]; cases ru; rfl
  subst e
  refine sortT_core I ok.at' ok.sh ok.ne ok.few (fun Q hq => collect_list hp.isList (hq _ _ fun b o ho => ?_) (by rw [List.length_map, sizeLine_eq]; have := ok.few; omega)) q
  have hlt : b < s.heap.objs.size := Heap.lt_size ho
  rw [Heap.get?_update_ne _ _ _ _ (Nat.ne_of_lt hlt)]
  exact Heap.get?_push_of_some _ ho
end
end Srt
set_option maxHeartbeats 1000000
namespace L2
open PySem PySem.Spec PyProof.Rows
end L2
set_option maxHeartbeats 400000
namespace L2
open PySem PySem.Spec PyProof.Rows
end L2
set_option maxHeartbeats 1000000
namespace PySem
end PySem
namespace PySem
end PySem
set_option maxHeartbeats 1000000
namespace L2
open PySem PySem.Spec PyProof.Rows
end L2
set_option maxHeartbeats 1000000
namespace HT
open PySem PyProof.Rows
end HT
namespace L2
open PySem PySem.Spec PyProof.Rows
end L2
set_option maxHeartbeats 4000000
namespace HT
open PySem PyProof.Rows L2
section
open PySem.SeqAt
open PySem.AutoSeq1 (wpAny_loadPart')
open PySem.MeetsSeq PySem.MeetsSeq2 PySem.MeetsSeq3
end
end HT
namespace L2
open PySem PySem.Spec PyProof.Rows
end L2
set_option maxHeartbeats 1000000
namespace L2
open PySem PySem.Spec PyProof.Rows
theorem op_neNil {X : Cx} (hu : X.A.units + 64 < cLine) : OpR X (compareOp .NotEq) (fun x y H Q => ∃ (a b : Addr) (xs : List V), x = .ref a ∧ y = .ref b ∧ SqL X.K H a xs ∧ SqL X.K H b [] ∧ Q (.bl (!xs.isEmpty)) H) := by
  intro pins s σ H x y u v Q I rx ry h
  obtain ⟨a, b, xs, rfl, rfl, ha, hb, q⟩ := h
  cases rx
  cases ry
  cases xs with
  | nil => exact op_neD hu pins s σ H (.ref a) (.ref b) _ _ Q I rfl rfl ⟨.list [], .list [], .lst ha .nil, .lst hb .nil, rfl, rfl, by decide, q⟩
  | cons x xs =>
    obtain ⟨its, r1, h1, _⟩ := I.list ha
    obtain ⟨its2, r2, h2, _⟩ := I.list hb
    have l1 := r1.length
    have l2 := r2.length
    refine SeqAt.RcNeAt.lists_lengths h1.isList h2.isList (by simp at l1 l2 ⊢; omega) (by omega) X.prog X.w _ _ ⟨.bl _, H, I, rfl, q⟩
end L2
set_option maxHeartbeats 1000000
namespace L2
open PySem PySem.Spec PyProof.Rows
end L2
set_option maxHeartbeats 1000000
namespace L2
open PySem PySem.Spec PyProof.Rows
end L2
set_option maxHeartbeats 1000000
namespace PySem
open PyProof.Rows
end PySem
namespace L2
open PySem PySem.Spec PyProof.Rows
end L2
set_option maxHeartbeats 1000000
namespace PySem
open PyProof.Rows
namespace F
end F
end PySem
namespace L2
open PySem PySem.Spec PyProof.Rows
end L2
set_option maxHeartbeats 1000000
namespace Wk
open PySem
end Wk
set_option maxHeartbeats 1000000
namespace L2
open PySem
end L2
namespace Wk
open PySem L2
end Wk
set_option maxHeartbeats 1000000
namespace Wk
open PySem L2
end Wk
set_option maxHeartbeats 1000000
namespace Wk
open PySem L2
end Wk
namespace L2
open PySem
end L2
set_option maxHeartbeats 1000000
namespace Wk
open PySem L2
end Wk
set_option maxHeartbeats 1000000
namespace L2
open PySem PySem.Spec PyProof.Rows
end L2
namespace Wk
open PySem L2
end Wk
set_option maxHeartbeats 1000000
namespace Wk
open PySem L2
end Wk
set_option maxHeartbeats 1000000
namespace Wk
open PySem L2
end Wk
set_option maxHeartbeats 1000000
namespace L2
open PySem PySem.Spec PyProof.Rows
end L2
namespace Wk
open PySem L2
end Wk
set_option maxHeartbeats 1000000
namespace HT
open PySem PyProof.Rows
end HT
namespace L2
open PySem PySem.Spec PyProof.Rows
end L2
namespace Wk
open PySem L2
end Wk
set_option maxHeartbeats 1000000
namespace PySem
open PySem.Spec PyProof.Rows
end PySem
namespace L2
open PySem PySem.Spec PyProof.Rows
section
variable {X : Cx} {e : Expr} {te : TE} {p2 pos : Pos}
def tRev1 (K : PySem.W.Frag) (te : TE) (ts : TO) : TE := fun σ H Q => te σ H fun x H1 => ts σ H1 fun o H2 => (o = some 1 ∨ o = some (-1)) ∧ ∃ (a : Addr) (xs : List V), x = .ref a ∧ SqL K H2 a xs ∧ ∀ p, H2 p = none → Q (.ref p) (upd H2 p (.lst (if o = some 1 then xs else xs.reverse)))
theorem pick_one (its : List Value) : slicePick its.toArray none none (some 1) = its.toArray := by
  have h := slicePick_cut its none none
  have e : slicePick its.toArray none none (some 1) = slicePick its.toArray none none none := rfl
  rw [e, h]
  simp [HT.sIx]
theorem pe_rev1 {st : Expr} {ts : TO} (he : PE X e te) (hs : PO X (some st) ts) (ops : Value → Value → List Value) (hsub : ∀ o i, subscripted (.Slice none none (some st) p2) false o i = operate (ops o i) (getItem o i)) : PE X (.Subscript e (.Slice none none (some st) p2) pos) (tRev1 X.K te ts) := by
  intro pins s σ H Q I h
  refine Subscript_ (thn (he pins s σ H _ I h) fun v s1 ⟨x, H1, I1, r1, q1⟩ => ?_)
  refine wpAny_Slice ?_
  rw [evalPart_none]
  refine wpAny_pure (wpAny_pure (thn (hs pins s1 σ H1 _ I1 q1) fun vs s2 ⟨o, H2, I2, ps, q2⟩ => ?_))
  obtain ⟨ho, a, xs, rfl, hq, q⟩ := q2
  cases r1
  have I4 : Inv X pins σ H2 { s2 with heap := s2.heap.push { cls := .type "slice", data := .fields #[.none, .none, vs] } } := I2.kept (t' := s2.toks) fun b ob q => Heap.get?_push_of_some _ q
  obtain ⟨its, r, ht, hz⟩ := I4.list hq
  have hlen := r.length
  show wpAny (model X.prog X.w) X.A (subscriptTail e (.Slice none none (some st) p2) (.ref a) (.ref s2.heap.objs.size)) (EP X pins σ Q) X.xe { s2 with heap := s2.heap.push { cls := .type "slice", data := .fields #[.none, .none, vs] } }
  refine tail_any (ops := ops (.ref a) (.ref s2.heap.objs.size)) ht.isList.typeIs slot_list_getitem.lookup ?_ (hsub _ _)
  rcases ho with rfl | rfl
  · refine wpAny_getItem_list_slice ht.isList (Heap.IsSliceOf.new ..) .none .none ps (by decide) ?_ (by rw [List.size_toArray] <;> omega)
    rw [pick_one]
    refine ⟨.ref _, _, I4.laid (t' := s2.toks) (o := .lst xs) (fun b ob q => Heap.get?_push_of_some _ q) (Nat.le_refl _) ⟨hz, its, 0, r, Heap.get?_push_size _ rfl⟩, rfl, ?_⟩
    have := q _ I4.fresh
    rw [if_pos rfl] at this
    exact this
  · refine wpAny_getItem_list_slice ht.isList (Heap.IsSliceOf.new ..) .none .none ps (by decide) ?_ (by rw [List.size_toArray] <;> omega)
    rw [PySem.W.krv_pick]
    refine ⟨.ref _, _, I4.laid (t' := s2.toks) (o := .lst xs.reverse) (fun b ob q => Heap.get?_push_of_some _ q) (Nat.le_refl _) ⟨by simpa using hz, its.reverse, 0, r.reverse, Heap.get?_push_size _ rfl⟩, rfl, ?_⟩
    have := q _ I4.fresh
    rw [if_neg (by decide)] at this
    exact this
end
end L2
set_option maxHeartbeats 4000000
namespace L2
open PySem PySem.Spec PyProof.Rows
end L2
set_option maxHeartbeats 1000000
namespace L2
open PySem PySem.Spec PyProof.Rows
def Flt : V → V → Bool
  | .non, .non => true
  | .non, .bl _ => true
  | .non, .int _ => true
  | .non, .str _ => true
  | .bl _, .non => true
  | .bl _, .bl _ => true
  | .bl _, .str _ => true
  | .int _, .non => true
  | .int _, .int _ => true
  | .int _, .str _ => true
  | .str _, .non => true
  | .str _, .bl _ => true
  | .str _, .int _ => true
  | .str _, .str _ => true
  | _, _ => false
def Eqs (K : PySem.W.Frag) (H : Hp) : Nat → V → V → Bool → Prop
  | 0, x, y, b => Flt x y = true ∧ b = decide (x = y)
  | n + 1, x, y, b => (Flt x y = true ∧ b = decide (x = y)) ∨
      (∃ (a c : Addr) (xs ys : List V) (e : Nat → Bool), x = .ref a ∧ y = .ref c ∧ ((SqT K H a xs ∧ SqT K H c ys) ∨ (SqL K H a xs ∧ SqL K H c ys)) ∧ (∀ (j : Nat) p q, xs[j]? = some p → ys[j]? = some q → Eqs K H n p q (e j)) ∧ b = ((List.range (min xs.length ys.length)).all e && xs.length == ys.length)) ∨
      (∃ (a : Addr) (xs : List V), x = .ref a ∧ y = .non ∧ SqT K H a xs ∧ b = false) ∨
      (∃ (a : Addr) (xs : List V), x = .non ∧ y = .ref a ∧ SqT K H a xs ∧ b = false)
theorem Eqs.flat {K : PySem.W.Frag} {H : Hp} {n : Nat} {x y : V} (h : Flt x y = true) : Eqs K H n x y (decide (x = y)) := by
  cases n with
  | zero => exact ⟨h, rfl⟩
  | succ n => exact .inl ⟨h, rfl⟩
theorem Eqs.three {K : PySem.W.Frag} {H : Hp} {n : Nat} {a c : Addr} {x1 x2 x3 y1 y2 y3 : V} {b1 b2 b3 : Bool} (h1 : SqT K H a [x1, x2, x3]) (h2 : SqT K H c [y1, y2, y3]) (e1 : Eqs K H n x1 y1 b1) (e2 : Eqs K H n x2 y2 b2) (e3 : Eqs K H n x3 y3 b3) : Eqs K H (n + 1) (.ref a) (.ref c) (b1 && b2 && b3) := by
  refine .inr (.inl ⟨a, c, _, _, fun j => if j = 0 then b1 else if j = 1 then b2 else b3, rfl, rfl, .inl ⟨h1, h2⟩, fun j p q hp hq => ?_, ?_⟩)
  · match j, hp, hq with
    | 0, hp, hq => cases hp; cases hq; exact e1
    | 1, hp, hq => cases hp; cases hq; exact e2
    | 2, hp, hq => cases hp; cases hq; exact e3
    | j + 3, hp, _ => simp at hp
  · show (b1 && b2 && b3) = ((List.range 3).all (fun j => if j = 0 then b1 else if j = 1 then b2 else b3) && (3 == 3))
    simp [List.range_succ, List.all_append, Bool.and_assoc]
section
variable {X : Cx} {pins : List (Addr × Obj)} {σ : St} {H : Hp} {s : Shared}
theorem eqs_refl (I : Inv X pins σ H s) : ∀ (n : Nat) {x : V} {b : Bool}, Eqs X.K H n x x b → b = true
  | 0, x, b, ⟨_, e⟩ => by rw [e, decide_eq_true rfl]
  | n + 1, x, b, h => by
    rcases h with ⟨_, e⟩ | ⟨a, c, xs, ys, e, e1, e2, hh, hj, eb⟩ | ⟨a, xs, e1, e2, _⟩ | ⟨a, xs, e1, e2, _⟩
    · rw [e, decide_eq_true rfl]
    · rw [e1] at e2
      injection e2 with e2
      subst e2
      have ex : xs = ys := by
        rcases hh with ⟨h1, h2⟩ | ⟨h1, h2⟩
        · exact I.tuple_inj h1 h2
        · exact I.list_inj h1 h2
      subst ex
      rw [eb, Bool.and_eq_true]
      refine ⟨List.all_eq_true.mpr fun j hj' => ?_, by simp⟩
      have hj' := List.mem_range.mp hj'
      have hjx : j < xs.length := by omega
      exact eqs_refl I n (hj j _ _ (List.getElem?_eq_getElem hjx) (List.getElem?_eq_getElem hjx))
    · rw [e1] at e2; cases e2
    · rw [e1] at e2; cases e2
theorem flt_at {x y : V} {v u : Value} (h : Flt x y = true) (rx : RelV x v) (ry : RelV y u) (A : Around) : SeqAt.EqAt A s v u (decide (x = y)) := by
  have sw : ∀ {b c : Bool}, SeqAt.EqAt A s v u b → b = c → SeqAt.EqAt A s v u c := fun h e => e ▸ h
  cases x <;> cases y <;> simp only [Flt, Bool.false_eq_true] at h <;> simp only [RelV] at rx ry
  · subst rx; subst ry; exact SeqAt.EqAt.same _
  · subst rx; subst ry; exact sw (SeqAt.EqAt.none_bool _) (by simp)
  · obtain ⟨t, rfl⟩ := ry; subst rx; exact sw (SeqAt.EqAt.none_int _ _) (by simp)
  · obtain ⟨t, rfl⟩ := ry; subst rx; exact sw (SeqAt.EqAt.none_str _ _) (by simp)
  · subst rx; subst ry; exact sw (SeqAt.EqAt.bool_none _) (by simp)
  · subst rx; subst ry; exact sw (SeqAt.EqAt.bool_bool _ _) (by rw [Bool.eq_iff_iff]; simp)
  · obtain ⟨t, rfl⟩ := ry; subst rx; exact sw (SeqAt.EqAt.bool_str _ _ _) (by simp)
  · obtain ⟨t, rfl⟩ := rx; subst ry; exact sw (SeqAt.EqAt.int_none _ _) (by simp)
  · obtain ⟨t, rfl⟩ := rx; obtain ⟨t', rfl⟩ := ry; exact sw (SeqAt.EqAt.int_int _ _ _ _) (by rw [Bool.eq_iff_iff]; simp)
  · obtain ⟨t, rfl⟩ := rx; obtain ⟨t', rfl⟩ := ry; exact sw (SeqAt.EqAt.int_str _ _ _ _) (by simp)
  · obtain ⟨t, rfl⟩ := rx; subst ry; exact sw (SeqAt.EqAt.str_none _ _) (by simp)
  · obtain ⟨t, rfl⟩ := rx; subst ry; exact sw (SeqAt.EqAt.str_bool _ _ _) (by simp)
  · obtain ⟨t, rfl⟩ := rx; obtain ⟨t', rfl⟩ := ry; exact sw (SeqAt.EqAt.str_int _ _ _ _) (by simp)
  · obtain ⟨t, rfl⟩ := rx; obtain ⟨t', rfl⟩ := ry; exact sw (SeqAt.EqAt.str_str _ _ _ _) (by rw [Bool.eq_iff_iff]; simp)
theorem val_at {xs : List V} {its : List Value} (r : Vals xs its) {j : Nat} (h : j < its.toArray.size) : ∃ x, xs[j]? = some x ∧ RelV x its.toArray[j] := by
  have l := r.length
  have hj : j < xs.length := by simpa [l] using h
  obtain ⟨v, e, rv⟩ := r.get (i := j) (x := xs[j]) (by simp [hj])
  have w1 : its.toArray[j] = v := by
    have := (List.getElem?_eq_some_iff.mp e).2
    simpa using this
  exact ⟨xs[j], by simp [hj], by rw [w1]; exact rv⟩
theorem in1_units (A : Around) : A.in1.units ≤ A.units + 1 := by first | exact Nat.le_refl _ | exact Nat.le_succ _
theorem eqs_at (I : Inv X pins σ H s) : ∀ (n : Nat) {x y : V} {b : Bool} {v u : Value} {A : Around}, A.units + n < cLine → Eqs X.K H n x y b → RelV x v → RelV y u → SeqAt.EqAt A s v u b
  | 0, x, y, b, v, u, A, _, ⟨h, e⟩, rx, ry => by rw [e]; exact flt_at h rx ry A
  | n + 1, x, y, b, v, u, A, hu, h, rx, ry => by
    rcases id h with ⟨h, e⟩ | ⟨a, c, xs, ys, e, rfl, rfl, hh, hj, eb⟩ | ⟨a, xs, rfl, rfl, h1, e⟩ | ⟨a, xs, rfl, rfl, h1, e⟩
    · rw [e]; exact flt_at h rx ry A
    · cases rx
      cases ry
      by_cases hne : a = c
      · subst hne
        rw [eqs_refl I (n + 1) h]
        exact SeqAt.EqAt.same _
      refine SeqAt.EqAt.of_refs hne ?_
      have iu := in1_units A
      rcases hh with ⟨h1, h2⟩ | ⟨h1, h2⟩
      · obtain ⟨its, r1, p1, _⟩ := I.tuple h1
        obtain ⟨its2, r2, p2, _⟩ := I.tuple h2
        have := SeqAt.RcAt.tuples (A := A) (e := e) p1 p2 (by omega) fun j j1 j2 => ?_
        · rw [List.size_toArray, List.size_toArray, ← r1.length, ← r2.length] at this
          rw [eb]; exact this
        · obtain ⟨p, ep, rp⟩ := val_at r1 j1
          obtain ⟨q, eq, rq⟩ := val_at r2 j2
          exact eqs_at I n (by omega) (hj j p q ep eq) rp rq
      · obtain ⟨its, r1, p1, _⟩ := I.list h1
        obtain ⟨its2, r2, p2, _⟩ := I.list h2
        have m1 := r1.length
        have m2 := r2.length
        by_cases hl : xs.length = ys.length
        · have := SeqAt.RcAt.lists (A := A) (e := e) p1.isList p2.isList (by rw [List.size_toArray, List.size_toArray]; omega) (by omega) fun j j1 j2 => ?_
          · rw [List.size_toArray, ← m1] at this
            rw [eb, hl, Nat.min_self, ← hl]
            simpa using this
          · obtain ⟨p, ep, rp⟩ := val_at r1 j1
            obtain ⟨q, eq, rq⟩ := val_at r2 j2
            exact eqs_at I n (by omega) (hj j p q ep eq) rp rq
        · have := SeqAt.RcAt.lists_lengths (A := A) p1.isList p2.isList (by rw [List.size_toArray, List.size_toArray]; simp; omega) (by omega)
          have eb' : b = false := by rw [eb]; simp [hl]
          rw [eb']; exact this
    · cases rx
      cases ry
      obtain ⟨its, r1, p1, _⟩ := I.tuple h1
      rw [e]; exact SeqAt.EqAt.tuple_none p1 (by omega)
    · cases rx
      cases ry
      obtain ⟨its, r1, p1, _⟩ := I.tuple h1
      rw [e]; exact SeqAt.EqAt.none_tuple p1 (by omega)
end
section
variable {X : Cx}
inductive REqsP (K : PySem.W.Frag) (x : V) (y : V) (H : Hp) (Q : VK) : Prop
  | mk (n : Nat) (b : Bool) (a c : Addr) : (x = .ref a) → (y = .ref c) → (n ≤ 30) → (Eqs K H (n + 1) x y b) → (Q (.bl b) H) → REqsP K x y H Q
def rEqs (K : PySem.W.Frag) : V → V → Hp → VK → Prop := fun x y H Q => REqsP K x y H Q
inductive RNesP (K : PySem.W.Frag) (x : V) (y : V) (H : Hp) (Q : VK) : Prop
  | mk (n : Nat) (b : Bool) (a c : Addr) : (x = .ref a) → (y = .ref c) → (n ≤ 30) → (Eqs K H (n + 1) x y b) → (Q (.bl (!b)) H) → RNesP K x y H Q
def rNes (K : PySem.W.Frag) : V → V → Hp → VK → Prop := fun x y H Q => RNesP K x y H Q
theorem op_eqs (hu : X.A.units + 64 < cLine) : OpR X (compareOp .Eq) (rEqs X.K) := by
  intro pins s σ H x y v u Q I rx ry h
  obtain ⟨n, b, a, c, rfl, rfl, hn, h, q⟩ := h
  cases rx
  cases ry
  have iu := in1_units X.A
  rcases h with ⟨h, _⟩ | ⟨a', c', xs, ys, e, e1, e2, hh, hj, eb⟩ | ⟨_, _, _, e2, _⟩ | ⟨_, _, e1, _⟩
  · cases h
  · cases e1
    cases e2
    rcases hh with ⟨h1, h2⟩ | ⟨h1, h2⟩
    · obtain ⟨its, r1, p1, _⟩ := I.tuple h1
      obtain ⟨its2, r2, p2, _⟩ := I.tuple h2
      refine (SeqAt.RcAt.tuples (A := X.A) (e := e) p1 p2 (by omega) fun j j1 j2 => ?_) X.prog X.w X.xe _ ⟨.bl _, H, I, rfl, ?_⟩
      · obtain ⟨p, ep, rp⟩ := val_at r1 j1
        obtain ⟨q, eq, rq⟩ := val_at r2 j2
        exact eqs_at I n (by omega) (hj j p q ep eq) rp rq
      · rw [List.size_toArray, List.size_toArray, ← r1.length, ← r2.length, ← eb]
        exact q
    · obtain ⟨its, r1, p1, _⟩ := I.list h1
      obtain ⟨its2, r2, p2, _⟩ := I.list h2
      have m1 := r1.length
      have m2 := r2.length
      by_cases hl : xs.length = ys.length
      · refine (SeqAt.RcAt.lists (A := X.A) (e := e) p1.isList p2.isList (by rw [List.size_toArray, List.size_toArray]; omega) (by omega) fun j j1 j2 => ?_) X.prog X.w X.xe _ ⟨.bl _, H, I, rfl, ?_⟩
        · obtain ⟨p, ep, rp⟩ := val_at r1 j1
          obtain ⟨q, eq, rq⟩ := val_at r2 j2
          exact eqs_at I n (by omega) (hj j p q ep eq) rp rq
        · have : b = (List.range its.toArray.size).all e := by
            rw [eb, hl, Nat.min_self, ← hl, List.size_toArray, ← m1]
            simp
          rw [← this]; exact q
      · refine (SeqAt.RcAt.lists_lengths (A := X.A) p1.isList p2.isList (by rw [List.size_toArray, List.size_toArray]; simp; omega) (by omega)) X.prog X.w X.xe _ ⟨.bl _, H, I, rfl, ?_⟩
        have eb' : b = false := by rw [eb]; simp [hl]
        rw [← eb']; exact q
  · cases e2
  · cases e1
theorem op_nes (hu : X.A.units + 64 < cLine) : OpR X (compareOp .NotEq) (rNes X.K) := by
  intro pins s σ H x y v u Q I rx ry h
  obtain ⟨n, b, a, c, rfl, rfl, hn, h, q⟩ := h
  cases rx
  cases ry
  have iu := in1_units X.A
  rcases h with ⟨h, _⟩ | ⟨a', c', xs, ys, e, e1, e2, hh, hj, eb⟩ | ⟨_, _, _, e2, _⟩ | ⟨_, _, e1, _⟩
  · cases h
  · cases e1
    cases e2
    rcases hh with ⟨h1, h2⟩ | ⟨h1, h2⟩
    · obtain ⟨its, r1, p1, _⟩ := I.tuple h1
      obtain ⟨its2, r2, p2, _⟩ := I.tuple h2
      refine (SeqAt.RcNeAt.tuples (A := X.A) (e := e) p1 p2 (by omega) fun j j1 j2 => ?_) X.prog X.w X.xe _ ⟨.bl _, H, I, rfl, ?_⟩
      · obtain ⟨p, ep, rp⟩ := val_at r1 j1
        obtain ⟨q, eq, rq⟩ := val_at r2 j2
        exact eqs_at I n (by omega) (hj j p q ep eq) rp rq
      · rw [List.size_toArray, List.size_toArray, ← r1.length, ← r2.length, ← eb]
        exact q
    · obtain ⟨its, r1, p1, _⟩ := I.list h1
      obtain ⟨its2, r2, p2, _⟩ := I.list h2
      have m1 := r1.length
      have m2 := r2.length
      by_cases hl : xs.length = ys.length
      · refine (SeqAt.RcNeAt.lists (A := X.A) (e := e) p1.isList p2.isList (by rw [List.size_toArray, List.size_toArray]; omega) (by omega) fun j j1 j2 => ?_) X.prog X.w X.xe _ ⟨.bl _, H, I, rfl, ?_⟩
        · obtain ⟨p, ep, rp⟩ := val_at r1 j1
          obtain ⟨q, eq, rq⟩ := val_at r2 j2
          exact eqs_at I n (by omega) (hj j p q ep eq) rp rq
        · have : b = (List.range its.toArray.size).all e := by
            rw [eb, hl, Nat.min_self, ← hl, List.size_toArray, ← m1]
            simp
          rw [← this]; exact q
      · refine (SeqAt.RcNeAt.lists_lengths (A := X.A) p1.isList p2.isList (by rw [List.size_toArray, List.size_toArray]; simp; omega) (by omega)) X.prog X.w X.xe _ ⟨.bl _, H, I, rfl, ?_⟩
        have eb' : b = false := by rw [eb]; simp [hl]
        rw [eb'] at q; exact q
  · cases e2
  · cases e1
end
end L2
set_option maxHeartbeats 4000000
namespace L2
open PySem PySem.Spec PyProof.Rows
abbrev vE : List Value := [.type "ValueError", .type "Exception", .type "BaseException", .type "object"]
inductive Tl : List Value → Prop
  | base : Tl vE
  | own {A : Addr} {tl : List Value} : Tl tl → Tl (.ref A :: tl)
theorem Tl.has {tl : List Value} (T : Tl tl) {X : String} {b : Bool} (hb : vE.contains (.type X) = b) : tl.contains (.type X) = b := by
  induction T with
  | base => exact hb
  | own _ ih => rw [List.contains_cons, ih]; rfl
theorem Tl.refuse {tl : List Value} (T : Tl tl) (self : Value) : refuseLoop self "__setattr__" tl = pure () := by
  induction T with
  | base => exact PySem.F.store_ValueError.passes self
  | own _ ih => rw [refuseLoop_ref]; exact ih
structure XAt (K : PySem.W.Frag) (C : Addr) (bm : List Value) : Prop where
  at_ : ∃ nm q N bs sn sub ab col dd k0 k1 k2 k3 k5, K.lookup C = some (excClassObj nm q C N bs bm true sn sub ab col dd k0 k1 k2 k3 k5 "ValueError.__new__")
  tl : Tl bm
structure XCls (K : PySem.W.Frag) (C : Addr) (bm : List Value) : Prop extends XAt K C bm where
  sa : PySem.W.findIn K (.ref C) "__setattr__" = some (some (.builtin "object.__setattr__"))
  kp : PySem.W.keepIn K (.ref C) = true
end L2
namespace PySem
open Sem (wp)
open L2 (Tl XAt)
section
variable {prog : Program} {w : World} {A : Around} {E : Value → Shared → Prop} {h : Heap} {g : Array GenState} {d : Drawn} {t : Nat} {os : OsState} {K : PySem.W.Frag}
variable {nm q : Str} {C N f : Addr} {bs bm : List Value} {hdct : Bool} {sn : List Str} {sub : List Value} {ab : Bool} {col : Option Bool} {dd : Option Addr} {k0 k1 k2 k3 k5 : Option Value}
theorem check_newX (T : Tl bm) {M : Model} {rest : List Value} {Q : Unit → Shared → Prop} (hC : h.get? C = some (excClassObj nm q C N bs bm hdct sn sub ab col dd k0 k1 k2 k3 k5 "ValueError.__new__"))
    (hq : Q () ⟨h, g, d, t, os⟩) : wpAny M A (checkBuiltinCall "ValueError.__new__" ⟨.ref C :: rest, []⟩) Q E ⟨h, g, d, t, os⟩ := by
  have F := PySem.F.excBase_ValueError
  have hcont : (Value.ref C :: bm).contains (.type "ValueError") = true := by rw [List.contains_cons, T.has F.hasB, Bool.or_true]
  have hstar := F.noStar
  simp only [checkBuiltinCall, F.newKind, F.newSplit, F.newRow]
  repeat (first | refine wpAny_loadPart_at hC ?_ | (refine wpAny_isSubtype_exc hC ?_; rw [hcont]) | refine wpAny_staticBase_exc hC ?_ | refine wpAny_madeBy_exc hC ?_ | simp only [bne_self_eq_false, Bool.false_eq_true, if_false] | wp_step)
  exact hq
theorem exc_newX (T : Tl bm) {rest : List Value} {R : Result → Shared → Prop} (hC : h.get? C = some (excClassObj nm q C N bs bm hdct sn sub ab col dd k0 k1 k2 k3 k5 "ValueError.__new__"))
    (hq : R (.ok (.ret (.ref (h.objs.size + 1)))) ⟨(h.push { cls := .type "tuple", data := .seq rest.toArray }).push { cls := .ref C, data := .fields #[.ref h.objs.size, .none, .none, .none, .bool false, .none] }, g, d, t, os⟩) (hrest : rest.length ≤ sizeLine) :
    codeAny (model prog w) A (.builtin "ValueError.__new__" ⟨.ref C :: rest, []⟩) R ⟨h, g, d, t, os⟩ := by
  have F := PySem.F.excBase_ValueError
  have hends := F.ends
  have hcB : (Value.ref C :: bm).contains (.type "ValueError") = true := by rw [List.contains_cons, T.has F.hasB, Bool.or_true]
  have hcA : (Value.ref C :: bm).contains (.type "AttributeError") = false := by rw [List.contains_cons, T.has F.noAttr]; rfl
  have hcN : (Value.ref C :: bm).contains (.type "NameError") = false := by rw [List.contains_cons, T.has F.noName]; rfl
  refine codeAny_builtinAt F.entry ?_
  unfold Builtin.«BaseException.__new__»
  refine wpAt_bind ?_
  show wpAt _ _ _ (stack >>= _) _ _ _
  refine wpAt_bind (wpAt_stack fun p below => wpAt_of_wpAny ?_)
  wp_walk
  refine wpAt_of_wpAny ?_
  rw [F.owner]
  repeat (first | with_reducible refine wpAny_madeHere_exc F.canon hC ?_ | with_reducible refine wpAny_loadPart_at hC ?_ | (with_reducible refine wpAny_isSubtype_exc hC ?_; first | rw [hcB] | rw [hcA] | rw [hcN]) | wp_step)
  show R _ _
  rw [Heap.size_push]
  exact hq
theorem type_callX (X : K.In h) (T : Tl bm) (hC : h.get? C = some (excClassObj nm q C N bs bm hdct sn sub ab col dd k0 k1 k2 k3 k5 "ValueError.__new__")) (hi : PySem.W.findIn K (.ref C) "__init__" = some (some (.ref f))) (hf : PySem.W.isFn K (.ref f) = true) {rest : List Value} {Q : Fin → Shared → Prop} (hrest : rest.length ≤ sizeLine)
    (hq : wpAny (model prog w) A (call (.ref f) (.ref (h.objs.size + 1) :: rest)) (fun r s' => r = .none ∧ Q (.done (.ret (.ref (h.objs.size + 1)))) s') E
      ⟨(h.push { cls := .type "tuple", data := .seq rest.toArray }).push { cls := .ref C, data := .fields #[.ref h.objs.size, .none, .none, .none, .bool false, .none] }, g, d, t, os⟩) :
    wpAny (model prog w) A (Builtin.«type.__call__» ⟨.ref C :: rest, []⟩) Q E ⟨h, g, d, t, os⟩ := by
  have F := PySem.F.excBase_ValueError
  repeat (first | with_reducible refine wpAny_loadPart_at hC ?_ | with_reducible refine wpAny_madeBy_exc hC ?_ | wp_step)
  refine codeAny_call_builtin_code (Code.quiet_builtin _ F.quiet) (check_newX T hC ?_)
  refine exc_newX T hC ?_ hrest
  show wpAny _ _ _ _ _ _
  have k : ∀ b o, h.get? b = some o → ((h.push { cls := .type "tuple", data := .seq rest.toArray }).push { cls := .ref C, data := .fields #[.ref h.objs.size, .none, .none, .none, .bool false, .none] }).get? b = some o := fun b o e => Heap.get?_push_of_some _ (Heap.get?_push_of_some _ e)
  have hC₁ := k _ _ hC
  have hget : ((h.push { cls := .type "tuple", data := .seq rest.toArray }).push { cls := .ref C, data := .fields #[.ref h.objs.size, .none, .none, .none, .bool false, .none] }).get? (h.objs.size + 1) = some { cls := .ref C, data := .fields #[.ref h.objs.size, .none, .none, .none, .bool false, .none] } := by heap_get
  have hcC : (Value.ref C :: bm).contains (.ref C) = true := by simp
  have X₁ : K.In ((h.push { cls := .type "tuple", data := .seq rest.toArray }).push { cls := .ref C, data := .fields #[.ref h.objs.size, .none, .none, .none, .bool false, .none] }) := X.keeps k
  have i1 := PySem.W.looks_findIn (M := model prog w) X₁ hi
  have b1 := PySem.W.bind_fn (M := model prog w) X₁ (.ref (h.objs.size + 1)) (beq_iff_eq.mp hf)
  unfold isInstance
  repeat (first | with_reducible refine wpAny_loadPart_at hget ?_ | (with_reducible refine wpAny_isSubtype_exc hC₁ ?_; rw [hcC]) | wp_step)
  show wpAny _ _ (typeLookup (.ref C) _) _ _ _
  refine i1.here ?_
  refine wpAny_holding (wpAny_bind (b1.here ?_))
  refine wpAny_bind (wpAny_mono hq (fun r s' hr => ?_) fun _ _ x => x)
  obtain ⟨rfl, hQ⟩ := hr
  wp_walk
  exact hQ
theorem exc_call (X : K.In h) (c : XAt K C bm) (hi : PySem.W.findIn K (.ref C) "__init__" = some (some (.ref f))) (hf : PySem.W.isFn K (.ref f) = true) {rest : List Value} {Q : Value → Shared → Prop} (hrest : rest.length ≤ sizeLine)
    (hq : wpAny (model prog w) (A.under (.builtin "type.__call__" ⟨.ref C :: rest, []⟩)) (call (.ref f) (.ref (h.objs.size + 1) :: rest)) (fun r s' => r = .none ∧ Q (.ref (h.objs.size + 1)) s') E
      ⟨(h.push { cls := .type "tuple", data := .seq rest.toArray }).push { cls := .ref C, data := .fields #[.ref h.objs.size, .none, .none, .none, .bool false, .none] }, g, d, t, os⟩) :
    wpAny (model prog w) A (call (.ref C) rest) Q E ⟨h, g, d, t, os⟩ := by
  obtain ⟨nm, q, N, bs, sn, sub, ab, col, dd, k0, k1, k2, k3, k5, lk⟩ := c.at_
  have hC := X _ _ lk
  have f1 := tc_lookup
  have f2 := tc_bind (.ref C)
  have hT : (⟨h, g, d, t, os⟩ : Shared).TypeIs (.ref C) "type" := ⟨_, hC, rfl⟩
  refine wpAny_call (codeAny_of_tree ?_)
  show wpAny _ _ (callAny (.ref C) _) _ _ _
  repeat (any_goals (first | assumption | with_reducible refine wpAny_loadPart_at hC ?_ | wp_step))
  refine ⟨rfl, ?_⟩
  exact codeAny_call_builtin_at (Code.quiet_builtin _ (by decide +kernel)) entry_typeCall (wpAny_check_type_call_sub hC (type_callX (hrest := hrest) X c.tl hC hi hf hq))
end
end PySem
set_option maxHeartbeats 4000000
namespace L2
open PySem PySem.Spec PyProof.Rows
def ExcV (e C : Addr) (od : Option Addr) (vs : Array Value) (h : Heap) : Prop := ∃ oe, h.get? e = some oe ∧ oe.cls = .ref C ∧ oe.dict = od ∧ oe.data = .fields vs
def ExcO (e C : Addr) (od : Option Addr) (h : Heap) : Prop := ∃ oe vs, h.get? e = some oe ∧ oe.cls = .ref C ∧ oe.dict = od ∧ oe.data = .fields vs
def XdO (d : Addr) (fs : List (Str × V)) (h : Heap) : Prop := ∃ mA, h.Ns1 d mA ∧ (∀ f, RelO (fs.lookup f) (mA f)) ∧ PySem.Within mA (fs.map (·.1))
theorem ExcV.ok {P : Program} {w : World} {H : Hp} {h : Heap} {e C : Addr} {od : Option Addr} {vs : Array Value} (x : ExcV e C od vs h) : ObjOk P w H h e (.ext (ExcV e C od vs)) :=
  ⟨x, let ⟨oe, h1, _⟩ := x; ⟨oe, h1⟩, fun _ _ ⟨oe, h1, r⟩ k => ⟨oe, k oe h1, r⟩⟩
theorem ExcO.ok {P : Program} {w : World} {H : Hp} {h : Heap} {e C : Addr} {od : Option Addr} (x : ExcO e C od h) : ObjOk P w H h e (.ext (ExcO e C od)) :=
  ⟨x, let ⟨oe, _, h1, _⟩ := x; ⟨oe, h1⟩, fun _ _ ⟨oe, vs, h1, r⟩ k => ⟨oe, vs, k oe h1, r⟩⟩
theorem XdO.ok {P : Program} {w : World} {H : Hp} {h : Heap} {d : Addr} {fs : List (Str × V)} (x : XdO d fs h) : ObjOk P w H h d (.ext (XdO d fs)) :=
  ⟨x, let ⟨_, ⟨o, _, _, h1, _⟩, _⟩ := x; ⟨o, h1⟩, fun h1 h2 ⟨mA, n, r⟩ k => ⟨mA, n.at fun o q => k o q, r⟩⟩
theorem XAt.cls {K : PySem.W.Frag} {C : Addr} {bm : List Value} (c : XAt K C bm) : ∃ cd : ClassData, PySem.W.clsIn K C = some cd ∧ cd.mro = .ref C :: bm ∧ cd.hasDict = true := by
  obtain ⟨nm, q, N, bs, sn, sub, ab, col, dd, k0, k1, k2, k3, k5, lk⟩ := c.at_
  refine ⟨{ name := nm, bases := bs, mro := .ref C :: bm, ns := N, qualname := q, hasDict := true, slotNames := sn, subclasses := sub, abstract := ab, collection := col, hasDel := false }, ?_, rfl, rfl⟩
  unfold PySem.W.clsIn
  rw [lk]
theorem osa_openX {prog : Program} {w : World} {A : Around} {s : Shared} {K : PySem.W.Frag} {x C : Addr} {bm : List Value} {R : Result → Shared → Prop} {ox : Obj} {od : Option Obj} {name : Str} {tk : Tok} {v : Value} (X : K.In s.heap) (I : PySem.W.InstAt s.heap x ox C od) (c : XAt K C bm) (ht : PySem.W.findIn K (.ref C) name = some none)
    (h : wpAny (model prog w) A.in1 (Builtin.ObjectAttr.storeInOwnDict (.ref x) (.ref C) (.str name tk) name v false)
      (fun fin s' => match fin with | .done f => R (.ok f) s' | .again c' => c'.quiet = true ∧ codeAny (model prog w) A c' R s') (fun e s' => R (.error e) s') s) :
    codeAny (model prog w) A (.call (.builtin "object.__setattr__") ⟨[.ref x, .str name tk, v], []⟩) R s := by
  have SF := PySem.F.store_object
  obtain ⟨cd, hc, hcm, _⟩ := c.cls
  have ho : (Value.ref C :: bm).contains (.type "object") = true := by rw [List.contains_cons, c.tl.has (by decide +kernel : vE.contains (.type "object") = true), Bool.or_true]
  have sub : PySem.W.Looks (model prog w) s.heap (isInstance (.ref x) (.type "object")) true := I.type.andThen (PySem.W.looks_mroIn X (by unfold PySem.W.mroIn; rw [hc, Option.bind_some, hcm]; exact congrArg some ho))
  refine codeAny_call_builtin SF.slot.plain SF.entry (@PySem.W.check_slot (model prog w) _ _ s "object.__setattr__" "object" "__setattr__" (.ref x) [.str name tk, v] [] _ SF.kind SF.split sub (SF.args (.ref x) (.str name tk) v) ?_)
  have hm : PySem.W.Looks (model prog w) s.heap (mroOf (.ref C)) (Value.ref C :: bm) := hcm ▸ ((PySem.W.looks_clsIn X hc).andThen .now)
  have L3 : PySem.W.Looks (model prog w) s.heap (Builtin.ObjectAttr.storeTaker? none) none := .now
  rw [PySem.W.osa_eq, refuse_eq]
  refine wpAny_bind (wpAny_bind (I.type.here (wpAny_bind (hm.here ?_))))
  rw [refuseLoop_ref, c.tl.refuse]
  exact wpAny_pure (wpAny_bind (I.type.here (wpAny_bind ((PySem.W.looks_findIn X ht).here (wpAny_bind (L3.here h))))))
section
variable {X : Cx} {pins : List (Addr × Obj)} {σ : St} {H : Hp} {s : Shared} {e C d : Addr} {bm : List Value} {f : Str} {y : V} {u : Value} {A : Around} {E : Value → Shared → Prop} {vs : Array Value} {Q : Unit → Shared → Prop}
theorem setattrX_new (I : Inv X pins σ H s) (he : H e = some (.ext (ExcV e C none vs))) (c : XCls X.K C bm) (n : NoAttr X.K C f) (ry : RelV y u)
    (h : ∀ d s', H d = none → d ≠ e → Inv X pins σ (upd (upd (upd H d (.ext (XdO d []))) e (.ext (ExcV e C (some d) vs))) d (.ext (XdO d [(f, y)]))) s' → Q () s') : wpAny (model X.prog X.w) A (setAttr (.ref e) f u) Q E s := by
  obtain ⟨⟨oe, hx, hcl, hdn, hdat⟩, _, _⟩ := I.hok e _ he
  have J : PySem.W.InstAt s.heap e oe C none := ⟨hx, hcl, by unfold PySem.W.notCls; rw [hdat], by rw [hdn]; trivial⟩
  refine PySem.W.set_plain I.kIn J c.sa (osa_openX (s := { s with toks := s.toks + 1 }) I.kIn J c.toXAt n ?_)
  obtain ⟨cd, hc, _, hd'⟩ := c.toXAt.cls
  refine wpAny_bind (wpAny_pure (wpAny_bind (wpAny_bind (wpAny_loadPart hx ?_))))
  rw [hcl]
  refine wpAny_bind (PySem.W.Looks.here (s := { s with toks := s.toks + 1 }) (PySem.W.looks_clsIn I.kIn hc) ?_)
  rw [hd', hdn]
  rw [hdat]
  have hxs : e ≠ s.heap.objs.size := Nat.ne_of_lt (Heap.lt_size hx)
  have hx₁ := Heap.get?_push_of_some (h := s.heap) { cls := .type "dict", data := .dict #[] } hx
  refine wpAny_bind (wpAny_alloc' ?_)
  refine wpAny_bind (wpAny_update' hx₁ ?_)
  refine wpAny_pure ?_
  have hgd0 : (s.heap.push { cls := .type "dict", data := .dict #[] }).get? s.heap.objs.size = some { cls := .type "dict", data := .dict #[] } := Heap.get?_push_at rfl rfl
  have hn0 : (s.heap.push { cls := .type "dict", data := .dict #[] }).Ns s.heap.objs.size (fun _ => none) := ⟨_, #[], _, hgd0, rfl, fun e he => absurd he (by simp), fun _ => rfl⟩
  have I1 : Inv X pins σ (upd H s.heap.objs.size (.ext (XdO s.heap.objs.size []))) { s with heap := s.heap.push { cls := .type "dict", data := .dict #[] }, toks := s.toks + 1 } :=
    I.laid (fun b u q => Heap.get?_push_of_some _ q) (Nat.le_refl _) (XdO.ok ⟨fun _ => none, Heap.Ns1.of_empty hn0, fun _ => True.intro, fun y hy => absurd rfl hy⟩)
  have hx2 : ((s.heap.push { cls := .type "dict", data := .dict #[] }).update e fun o => { cls := o.cls, dict := some s.heap.objs.size, data := o.data, slots := o.slots }).get? e = some { cls := oe.cls, dict := some s.heap.objs.size, data := oe.data, slots := oe.slots } :=
    Heap.get?_update_self _ hx₁ (by rw [hdat]; rfl)
  have I2 : Inv X pins σ (upd (upd H s.heap.objs.size (.ext (XdO s.heap.objs.size []))) e (.ext (ExcV e C (some s.heap.objs.size) vs)))
      { s with heap := (s.heap.push { cls := .type "dict", data := .dict #[] }).update e fun o => { cls := o.cls, dict := some s.heap.objs.size, data := o.data, slots := o.slots }, toks := s.toks + 1 } :=
    I1.write (x := e) (e := e) (by rw [upd_ne hxs, he]; exact True.intro) (.inl rfl) (fun b u hb q => (Heap.get?_update_ne _ _ _ _ hb).trans q) ⟨_, hx2⟩ (ExcV.ok ⟨_, hx2, hcl, rfl, hdat⟩)
  have hnd : ((s.heap.push { cls := .type "dict", data := .dict #[] }).update e fun o => { cls := o.cls, dict := some s.heap.objs.size, data := o.data, slots := o.slots }).Ns s.heap.objs.size (fun _ => none) :=
    ⟨_, #[], _, (Heap.get?_update_ne _ _ _ _ hxs.symm).trans hgd0, rfl, fun e he => absurd he (by simp), fun _ => rfl⟩
  show wpAny _ _ (Builtin.ObjectAttr.storeInDict s.heap.objs.size (.str f s.toks) f u) _ _ _
  unfold Builtin.ObjectAttr.storeInDict Builtin.ObjectAttr.newKeyGuard
  refine wpAny_bind (wpAny_pure (wpAny_bind (wpAny_nsSet1 (Heap.Ns1.of_empty hnd) fun h' hn' hs => ?_)))
  obtain ⟨oD, esD, epD, hoD, hdD, hcD⟩ := hn'.count (Within.cons f u Within.nil)
  refine wpAny_bind (wpAny_lookBehind hoD (by rw [hdD]; exact pastItsLine_dict (Nat.le_trans hcD (by rw [List.length_cons, List.length_nil, sizeLine_eq]; omega))) ?_)
  refine wpAny_pure (h s.heap.objs.size _ (I.hok.fresh (Nat.le_refl _)) hxs.symm (I2.write (x := s.heap.objs.size) (e := s.heap.objs.size) (by rw [upd_ne hxs.symm, upd_same]; exact True.intro) (.inl rfl) (fun b o hb q => (hs.2 b hb).trans q) ⟨_, hoD⟩ (XdO.ok ⟨_, hn', fun g => ?_, fun g hg => ?_⟩)))
  · show RelO (List.lookup g [(f, y)]) (if g = f then some u else none)
    by_cases q : g = f
    · subst q; rw [if_pos rfl]; simp; exact ry
    · rw [if_neg q]; simp [List.lookup_cons, beq_false_of_ne q]; trivial
  · by_cases q : g = f
    · rw [q]; simp
    · exact absurd (if_neg q) hg
end
end L2
set_option maxHeartbeats 4000000
namespace PySem
open Sem (wp)
structure NF (fr : List Addr) (e : Addr) (T? : Option Addr) (h h' : Heap) (oe : Obj) (vs : Array Value) (fl : Value) : Prop where
  keep : ∀ b o, h.get? b = some o → b ≠ e → T? ≠ some b → b ∉ fr → h'.get? b = some o
  slot : ∀ b o, h.get? b = some o → b ≠ e → T? ≠ some b → ∃ sl, h'.get? b = some { o with slots := sl }
  exc : ∃ oe' vs' T', h'.get? e = some oe' ∧ oe'.cls = oe.cls ∧ oe'.dict = oe.dict ∧ oe'.data = .fields vs' ∧ vs'[0]? = vs[0]? ∧ vs'[1]? = some (.ref T') ∧ T' ≠ e ∧ h.get? T' = none ∧
    ∃ oT ts, h'.get? T' = some oT ∧ oT.data = .fields ts ∧ ts[3]? = some fl
section
variable {M : Model} {A : Around} {E : Value → Shared → Prop} {s : Shared} {base : Heap} {env : Env} {outer : List Env} {L e : Addr} {oe : Obj} {vs : Array Value} {Q : Unit → Shared → Prop}
theorem dict_mapFields (o : Obj) (g : Array Value → Array Value) : (o.mapFields g).dict = o.dict := by
  unfold Obj.mapFields; split <;> rfl
theorem entry_NF {head : Value} {hadNext : Bool} (hfr : A.frames = some (env :: outer)) (hl : s.heap.FunFrames base (env :: outer)) (hf : env.frame = some L)
    (he : s.heap.get? e = some oe) (hd : oe.data = .fields vs) (hsz : 1 < vs.size)
    (h : ∀ h', NF ((env :: outer).filterMap (·.frame)) e none s.heap h' oe vs (rawInt L) → Q () { s with heap := h' }) :
    wpAny M A (do let a ← frameOf env; let pl ← entryPlaceOf L hadNext; let b ← EntryCells.newEntry head a .none (rawInt L) .none pl; setField (.ref e) 1 b) Q E s := by
  have hene : e ∉ (env :: outer).filterMap (·.frame) := fun hm => by
    obtain ⟨_, o, ho, hnf⟩ := hl.mem hm
    rw [he] at ho; injection ho with ho; subst ho; exact hnf vs hd
  refine wpAny_bind (wpAny_frameOf_fun hfr hl hf fun h₁ hs₁ => ?_)
  refine wpAny_bind (wpAny_entryPlaceOf fun pl hpl => ?_)
  unfold EntryCells.newEntry newFields
  refine wpAny_bind (wpAny_newObj_type ?_ (hpl.sizeOk5 _ _ _ _ _))
  have he₁ : h₁.get? e = some oe := (hs₁.2.1 e hene).trans he
  have he₂ := Heap.get?_push_of_some (h := h₁) { cls := .type "traceback", dict := none, data := .fields ([head, .ref L, .none, rawInt L, .none] ++ (if pl.isEmpty then List.replicate 6 Value.none else pl)).toArray } he₁
  refine wpAny_setField he₂ hd hsz (h _ ?_)
  have hTe : h₁.objs.size ≠ e := Nat.ne_of_gt (Heap.lt_size he₁)
  have hd₃ := Obj.data_mapFields hd (·.setIfInBounds 1 (Value.ref h₁.objs.size))
  have he₃ := Heap.get?_update_self (Obj.mapFields (·.setIfInBounds 1 (Value.ref h₁.objs.size))) he₂ (Obj.isFreed_of_fields hd₃)
  have hT₃ := (Heap.get?_update_other (h₁.push { cls := .type "traceback", dict := none, data := .fields ([head, .ref L, .none, rawInt L, .none] ++ (if pl.isEmpty then List.replicate 6 Value.none else pl)).toArray })
    (Obj.mapFields (·.setIfInBounds 1 (Value.ref h₁.objs.size))) (Ne.symm hTe)).trans (Heap.get?_push_size h₁ rfl)
  have keep : ∀ b o, b ≠ e → h₁.get? b = some o →
      ((h₁.push { cls := .type "traceback", dict := none, data := .fields ([head, .ref L, .none, rawInt L, .none] ++ (if pl.isEmpty then List.replicate 6 Value.none else pl)).toArray }).update e (Obj.mapFields (·.setIfInBounds 1 (Value.ref h₁.objs.size)))).get? b = some o :=
    fun b o hbe hb => by
      rw [Heap.get?_update_other _ _ (Ne.symm hbe)]
      exact Heap.get?_push_of_some _ hb
  refine ⟨fun b o hb hbe _ hfr => keep b o hbe ((hs₁.2.1 b hfr).trans hb), fun b o hb hbe _ => ?_, _, _, h₁.objs.size, he₃, Obj.cls_mapFields _ _, dict_mapFields _ _, hd₃, by rw [Array.getElem?_setIfInBounds_ne (by decide)], by simp [hsz], hTe, ?_, _, _, hT₃, rfl, ?_⟩
  · obtain ⟨sl, hs⟩ := hs₁.2.2 b o hb
    exact ⟨sl, keep b _ hbe hs⟩
  · rw [hs₁.1]; exact Heap.get?_none_of_le (Nat.le_refl _)
  · first | (simp; done) | (rcases hpl with rfl | ⟨_, _, _, _, _, _, _, rfl⟩ <;> simp)
def Trc (h : Heap) (e : Addr) (vs : Array Value) (T? : Option Addr) : Prop :=
  (vs[1]? = some .none ∧ T? = none) ∨ ∃ T oT ts, T? = some T ∧ vs[1]? = some (.ref T) ∧ T ≠ e ∧ h.get? T = some oT ∧ oT.data = .fields ts ∧ ts[3]? = some .none
theorem noteFrame_NF {T? : Option Addr} (hfr : A.frames = some (env :: outer)) (hl : s.heap.FunFrames base (env :: outer)) (hf : env.frame = some L)
    (he : s.heap.get? e = some oe) (hd : oe.data = .fields vs) (ht : Trc s.heap e vs T?)
    (h : ∀ h', NF ((env :: outer).filterMap (·.frame)) e T? s.heap h' oe vs (rawInt L) → Q () { s with heap := h' }) : wpAny M A (noteFrame (.ref e) env) Q E s := by
  unfold noteFrame
  simp only [hf]
  rcases ht with ⟨h1, rfl⟩ | ⟨T, oT, ts, rfl, h1, hTe, hT, hdT, h3⟩
  · refine wpAny_bind (wpAny_field he hd h1 ?_)
    rw [if_neg (by decide)]
    exact entry_NF hfr hl hf he hd (Array.getElem?_eq_some_iff.mp h1).1 h
  · refine wpAny_bind (wpAny_field he hd h1 ?_)
    rw [if_pos (show (Value.ref T != Value.none) = true from by simp)]
    refine wpAny_bind (wpAny_field hT hdT h3 ?_)
    rw [if_neg (show ¬ ((Value.none == rawInt L) = true) from by simp [rawInt])]
    refine wpAny_bind (wpAny_setField hT hdT (Array.getElem?_eq_some_iff.mp h3).1 ?_)
    have other : ∀ b, b ≠ T → (s.heap.update T (Obj.mapFields (·.setIfInBounds 3 Value.none))).get? b = s.heap.get? b := fun b hb => Heap.get?_update_other _ _ (Ne.symm hb)
    have noRecord : ∀ b o, s.heap.get? b = some o → (∀ vs, o.data ≠ .fields vs) → b ≠ T := fun b o hb hnf q => by
      rw [q, hT] at hb; injection hb with hb; subst hb; exact hnf ts hdT
    have hT' := Heap.get?_update_self (Obj.mapFields (·.setIfInBounds 3 Value.none)) hT (Obj.isFreed_of_fields (Obj.data_mapFields hdT _))
    refine entry_NF hfr (hl.of_keeps fun b o hb hnf => ⟨o, (other b (noRecord b o hb hnf)).trans hb, rfl⟩) hf ((other e (Ne.symm hTe)).trans he) hd (Array.getElem?_eq_some_iff.mp h1).1 fun h' N => h h' ?_
    obtain ⟨k1, k2, oe', vs', T', x1, x2, x3, x4, x5, x6, x7, x8, x9⟩ := N
    refine ⟨fun b o hb hbe hbT hfr => ?_, fun b o hb hbe hbT => ?_, oe', vs', T', x1, x2, x3, x4, x5, x6, x7, ?_, x9⟩
    · exact k1 b o ((other b fun z => hbT (by rw [z])).trans hb) hbe (by simp) hfr
    · exact k2 b o ((other b fun z => hbT (by rw [z])).trans hb) hbe (by simp)
    · by_cases hq : T' = T
      · rw [hq, hT'] at x8; cases x8
      · rw [← other T' hq]; exact x8
theorem flight_NF {h : Heap} {T? : Option Addr} {fr : List Addr} {fl : Value} (N : NF fr e T? h s.heap oe vs fl) (hq : ∀ h', NF fr e T? h h' oe vs .none → Q () { s with heap := h' }) : wpAny M A (setFlight (.ref e) none) Q E s := by
  obtain ⟨k1, k2, oe', vs', T', x1, x2, x3, x4, x5, x6, x7, x8, oT, ts, y1, y2, y3⟩ := N
  have hsz3 : 3 < ts.size := (Array.getElem?_eq_some_iff.mp y3).1
  have other : ∀ b, b ≠ T' → (s.heap.update T' (Obj.mapFields (·.setIfInBounds 3 ((none : Option Addr).elim Value.none fun f => rawInt f)))).get? b = s.heap.get? b :=
    fun b hb => Heap.get?_update_other _ _ (Ne.symm hb)
  have hne : ∀ b o, h.get? b = some o → b ≠ T' := fun b o hb z => by rw [z, x8] at hb; cases hb
  unfold setFlight
  refine wpAny_bind (wpAny_field x1 x4 x6 ?_)
  rw [if_pos (show (Value.ref T' != Value.none) = true from by simp)]
  refine wpAny_setField y1 y2 hsz3 (hq _ ⟨fun b o hb h1 h2 h3 => (other b (hne b o hb)).trans (k1 b o hb h1 h2 h3), fun b o hb h1 h2 => ?_, oe', vs', T', (other e (Ne.symm x7)).trans x1, x2, x3, x4, x5, x6, x7, x8, _, _, Heap.get?_update_self _ y1 (Obj.isFreed_of_fields (Obj.data_mapFields y2 _)), Obj.data_mapFields y2 _, by simp [hsz3]⟩)
  obtain ⟨sl, q⟩ := k2 b o hb h1 h2
  exact ⟨sl, (other b (hne b o hb)).trans q⟩
theorem leaving_NF {T? : Option Addr} (hfr : A.frames = some (env :: outer)) (hl : s.heap.FunFrames base (env :: outer)) (hf : env.frame = some L)
    (he : s.heap.get? e = some oe) (hd : oe.data = .fields vs) (ht : Trc s.heap e vs T?)
    (h : ∀ h', NF ((env :: outer).filterMap (·.frame)) e T? s.heap h' oe vs .none → Q () { s with heap := h' }) : wpAny M A (leaving env (.ref e)) Q E s := by
  unfold leaving
  refine wpAny_bind (noteFrame_NF hfr hl hf he hd ht fun h' N => flight_NF (s := { s with heap := h' }) N h)
end
end PySem
set_option maxHeartbeats 4000000
namespace L2
open PySem PySem.Spec PyProof.Rows
theorem ObjOk.thereX {P : Program} {w : World} {H : Hp} {h : Heap} {a : Addr} {o : HO} (x : ObjOk P w H h a o) : ∃ u, h.get? a = some u := by
  cases o with
  | lst xs => obtain ⟨_, _, _, _, e⟩ := x; exact ⟨_, e⟩
  | tup xs => obtain ⟨_, _, _, o, e, _⟩ := x; exact ⟨_, e⟩
  | dK kvs => obtain ⟨_, _, _, _, o, _, _, e, _⟩ := x; exact ⟨_, e⟩
  | dT kvs => obtain ⟨_, _, _, _, o, _, _, e, _⟩ := x; exact ⟨_, e⟩
  | set S n => obtain ⟨o, _, _, _, e, _⟩ := x; exact ⟨_, e⟩
  | ins C dx fs => obtain ⟨_, _, _, e, _⟩ := x; exact ⟨_, e⟩
  | own y => exact x
  | xd fs => obtain ⟨_, ⟨_, _, _, e, _⟩, _⟩ := x; exact ⟨_, e⟩
  | rng lo hi => obtain ⟨_, _, _, e⟩ := x; exact ⟨_, e⟩
  | frz ob u => obtain ⟨e, _⟩ := x; exact ⟨_, e⟩
  | tbl ps => exact ⟨_, x⟩
  | met f y => exact ⟨_, x⟩
  | ext φ => obtain ⟨_, e, _⟩ := x; exact e
structure CXD (P : Program) (w : World) (outer : List Env) (H : Hp) (s : Shared) (s' : Shared) (e C : Addr) (od : Option Addr) (H' : Hp) (oe : Obj) (vs : Array Value) (T? : Option Addr) : Prop where
  os : s'.os = s.os
  bare : AllBare s'.gens
  un : Un (frs outer) [] H H' s.heap s'.heap
  hok : HOk P w H' s'.heap
  at_ : H' e = some (.ext (ExcO e C od))
  new : s.heap.get? e = none
  obj : s'.heap.get? e = some oe
  dat : oe.data = .fields vs
  trc : Trc s'.heap e vs T?
  tn : ∀ T, T? = some T → H' T = none ∧ s.heap.get? T = none
def CXU (P : Program) (w : World) : CXT := fun outer H s E ev s' => ∃ e C od H' oe vs T?, ev = .ref e ∧ CXD P w outer H s s' e C od H' oe vs T? ∧ E (.ref C) (some e) H'
section
variable {P : Program} {w : World} {outer : List Env} {H H' : Hp} {s s' : Shared} {e C : Addr} {od : Option Addr} {oe : Obj} {vs : Array Value} {T? : Option Addr} {h' : Heap} {fl : Value}
theorem CXD.noted (c : CXD P w outer H s s' e C od H' oe vs T?) (fr : ∀ b ∈ frs outer, H' b = none) (N : NF (frs outer) e T? s'.heap h' oe vs fl) :
    Un (frs outer) [] H H' s.heap h' ∧ HOk P w H' h' ∧ ∃ oe' vs' T', h'.get? e = some oe' ∧ oe'.data = .fields vs' ∧ vs'[1]? = some (.ref T') ∧ T' ≠ e ∧ H' T' = none ∧ s.heap.get? T' = none ∧ ∃ oT ts, h'.get? T' = some oT ∧ oT.data = .fields ts ∧ ts[3]? = some fl := by
  have ne : ∀ b o, s.heap.get? b = some o → b ≠ e := fun b o q z => by rw [z, c.new] at q; cases q
  have nT : ∀ b o, s.heap.get? b = some o → T? ≠ some b := fun b o q z => by rw [(c.tn b z).2] at q; cases q
  obtain ⟨oe', vs', T', x1, x2, x3, x4, x5, x6, x7, x8, x9⟩ := N.exc
  have hT' : H' T' = none := by
    cases q : H' T' with
    | none => rfl
    | some o =>
      obtain ⟨u, z⟩ := (c.hok T' o q).thereX
      rw [x8] at z; cases z
  refine ⟨⟨fun b o q n hb hx => N.keep b o (c.un.keep b o q n hb hx) (ne b o q) (nT b o q) hb, fun b o q n hb hx => ?_, c.un.free, fun b o q hx => ?_, c.un.tups, c.un.frzs, c.un.tbls⟩, fun b o q => ?_, oe', vs', T', x1, x4, x6, x7, hT', ?_, x9⟩
  · obtain ⟨sl, q1⟩ := c.un.slot b o q n hb hx
    obtain ⟨sl', q2⟩ := N.slot b _ q1 (ne b o q) (nT b o q)
    exact ⟨sl', q2⟩
  · obtain ⟨o', q1⟩ := c.un.there b o q hx
    obtain ⟨sl', q2⟩ := N.slot b _ q1 (ne b o q) (nT b o q)
    exact ⟨_, q2⟩
  · by_cases hb : b = e
    · subst hb
      rw [c.at_] at q; cases q
      obtain ⟨⟨oe2, vs2, z1, z2, z3, z4⟩, _, _⟩ := c.hok b _ c.at_
      rw [c.obj] at z1; cases z1
      exact ExcO.ok ⟨oe', vs', x1, x2.trans z2, x3.trans z3, x4⟩
    · refine (c.hok b o q).stay (fun x v hx r => N.keep x v r ?_ ?_ ?_) (fun _ q => q) fun _ _ q => q
      · rcases hx with z | z
        · rw [z]; exact hb
        · intro z2; rw [z2, c.at_] at z; cases z
      · intro z2
        have z3 := (c.tn x z2).1
        rcases hx with z | z
        · rw [z, q] at z3; cases z3
        · rw [z] at z3; cases z3
      · intro z2
        have z3 := fr x z2
        rcases hx with z | z
        · rw [z, q] at z3; cases z3
        · rw [z] at z3; cases z3
  · cases q : s.heap.get? T' with
    | none => rfl
    | some o =>
      obtain ⟨o', q1⟩ := c.un.there T' o q (by simp)
      rw [x8] at q1; cases q1
end
def XPq (X : Cx) (pins : List (Addr × Obj)) (σ : St) (E : XK) (ev : Value) (s1 : Shared) : Prop := ∃ s H, Inv X pins σ H s ∧ CXU X.prog X.w X.stack H s E ev s1
def XE (X : Cx) (pins : List (Addr × Obj)) (Ex : St → XK) (ev : Value) (s1 : Shared) : Prop := X.xe ev s1 ∨ ∃ σ', XPq X pins σ' (Ex σ') ev s1
abbrev TEX := XK → TE
abbrev TSX := (St → XK) → TS
def PEX (X : Cx) (e : Expr) (t : TEX) : Prop := ∀ (pins : List (Addr × Obj)) (s : Shared) (σ : St) (H : Hp) (Q : VK) (E : XK), Inv X pins σ H s → t E σ H Q →
  wpAny (model X.prog X.w) X.A (eval e X.env) (EP X pins σ Q) (fun ev s1 => X.xe ev s1 ∨ XPq X pins σ E ev s1) s
def PSX (X : Cx) (st : Stmt) (t : TSX) : Prop := ∀ (pins : List (Addr × Obj)) (s : Shared) (σ : St) (H : Hp) (D : Ends) (Ex : St → XK), Inv X pins σ H s → t Ex D σ H →
  wpAny (model X.prog X.w) X.A (exec st X.env) (SP X pins D) (XE X pins Ex) s
def PSXs (X : Cx) (st : List Stmt) (t : TSX) : Prop := ∀ (pins : List (Addr × Obj)) (s : Shared) (σ : St) (H : Hp) (D : Ends) (Ex : St → XK), Inv X pins σ H s → t Ex D σ H →
  wpAny (model X.prog X.w) X.A (execs st X.env) (SP X pins D) (XE X pins Ex) s
section
variable {X : Cx} {st : Stmt} {rest : List Stmt} {t u : TSX} {e : Expr} {pos : Pos}
theorem psxs_of {sts : List Stmt} {t : TS} (h : PSs X sts t) : PSXs X sts fun _ => t := fun pins s σ H D Ex I hw => wpAny_mono (h pins s σ H D I hw) (fun _ _ q => q) fun _ _ z => .inl z
theorem psxs_nil : PSXs X [] fun _ => tNext := psxs_of pss_nil
theorem psxs_cons (h1 : PSX X st t) (h2 : PSXs X rest u) : PSXs X (st :: rest) fun Ex => tSeq (t Ex) (u Ex) := by
  intro pins s σ H D Ex I h
  refine wpAny_execs_cons (thn (h1 pins s σ H { D with nx := u Ex D } Ex I h) fun f s1 q => ?_)
  cases f with
  | next =>
    obtain ⟨σ', H', I', q⟩ := q
    exact h2 pins s1 σ' H' D Ex I' q
  | ret v => exact q
  | brk => exact q
  | cont => exact q
theorem psxs_one (h1 : PSX X st t) : PSXs X [st] t := by
  intro pins s σ H D Ex I h
  refine wpAny_execs_cons (thn (h1 pins s σ H D Ex I h) fun f s1 q => ?_)
  cases f with
  | next => exact wpAny_execs_nil q
  | ret v => exact q
  | brk => exact q
  | cont => exact q
theorem psx_if {c : Expr} {a b : List Stmt} {tc : TT} (hc : PT X c tc) (ha : PSXs X a t) (hb : PSXs X b u) : PSX X (.If c a b pos) fun Ex => tIfS tc (t Ex) (u Ex) := by
  intro pins s σ H D Ex I h
  refine wpAny_If (wpAny_mono (hc pins s σ H _ I h) (fun d s1 ⟨H1, I1, q1⟩ => ?_) fun _ _ z => .inl z)
  cases d with
  | true => exact ha pins s1 σ H1 D Ex I1 q1
  | false => exact hb pins s1 σ H1 D Ex I1 q1
theorem psx_expr {t : TEX} (he : PEX X e t) (hs : swapsWith e none pos.line X.env = pure false := by rfl) : PSX X (.Expr e pos) fun Ex D σ H => t (Ex σ) σ H fun _ H1 => D.nx σ H1 := by
  intro pins s σ H D Ex I h
  exact wpAny_Expr_any (wpAny_mono (he pins s σ H _ (Ex σ) I h) (fun v s1 ⟨x, H1, I1, r1, q1⟩ => ⟨σ, H1, I1, q1⟩) fun _ _ z => z.elim .inl fun z => .inr ⟨σ, z⟩) I.quiet hs
end
section
variable {X : Cx} {k : Nat} {f C : Addr} {fd : FuncData} {ps : List Str} {sp : Sp} {x m : Str} {p pos apos : Pos} {e o : Expr} {es : List Expr} {ta : TE} {t : TA}
theorem run_fnX {pins : List (Addr × Obj)} {σ : St} {H : Hp} {s : Shared} {Q : VK} {E : XK} {us : List Value} {vs : List V} (F : FnOk X.prog X.w X.K X.mg X.base (CXU X.prog X.w) k f fd ps sp) (hr : Room k X.A) (hb : Binds X.K fd ps [])
    (I : Inv X pins σ H s) (r : Vals vs us) (h : sp vs H Q E) : wpAny (model X.prog X.w) X.A (call (.ref f) us) (EP X pins σ Q) (fun ev s1 => X.xe ev s1 ∨ XPq X pins σ E ev s1) s := by
  have hl : (us ++ []).length = ps.length := by rw [List.append_nil, ← r.length]; exact F.len _ _ _ _ h
  refine wpAny_call (codeAny_mono (F.run X.A X.stack s H ⟨us, []⟩ (us ++ []) vs Q E hr I.env0 (hb s us I.kIn hl) (by rw [List.append_nil]; exact r) h) fun r s' hq => ?_)
  cases r with
  | error e => exact .inr ⟨s, H, I, hq⟩
  | ok fl =>
    cases fl with
    | ret u => exact I.after hq
    | next => exact False.elim hq
    | brk => exact False.elim hq
    | cont => exact False.elim hq
theorem pex_meth {pl : Sem Bool} (he : PE X o ta) (c : Cls X.K C) (hm : Meth X.K C m f) (F : FnOk X.prog X.w X.K X.mg X.base (CXU X.prog X.w) k f fd ps sp) (hr : Room k X.A) (hb : Binds X.K fd ps []) (ha : PA X (e :: es) t)
    (hst : starEach (e :: es) X.env = (false, eval e X.env) :: starEach es X.env := by rfl) (hpl : (backTo pos (starEach es X.env)).any (·.1) = false := by rfl)
    (ht : eval (.Call (.Attribute o m apos) (e :: es) [] pos) X.env = (do
      let ov ← eval o X.env
      standAt apos.atName
      let (f, first) ← holding [ov] (getMethod ov m pl)
      callWith pos f first (backTo pos (starEach (e :: es) X.env)) (backToKw pos (keywordEach [] X.env))) := by rfl) :
    PEX X (.Call (.Attribute o m apos) (e :: es) [] pos) fun E σ H Q => ta σ H fun x H1 => ∃ a dx fs, x = .ref a ∧ H1 a = some (.ins C dx fs) ∧ fs.lookup m = none ∧ t σ H1 fun vs H2 => sp (x :: vs) H2 Q E := by
  intro pins s σ H Q E I h
  refine PySem.W.methodCall_KW (pl := pl) (wpAny_mono (he pins s σ H _ I h) (fun u s1 ⟨x, H1, I1, rx, a, dx, fs, ex, ea, l, q⟩ => ?_) fun _ _ z => .inl z) ht
  subst ex
  obtain rfl : u = Value.ref a := rx
  refine getmeth_ok I1 ea c hm l ?_
  refine PySem.W.callWith_K (first := [.ref a]) (h₀ := X.base) I.ok.mod.kin hm.kp (wpAny_mono (ha pos pins s1 σ H1 _ I1 q) (fun us s2 ⟨vs, H2, I2, r, q2⟩ => ⟨I2.kIn, ?_⟩) fun _ _ z => .inl z) hst hpl
  exact run_fnX (us := .ref a :: us) (vs := .ref a :: vs) F hr hb I2 (.cons rfl r) q2
end
end L2
set_option maxHeartbeats 4000000
namespace PySem
open Sem (wp)
open L2 (Tl XAt)
section
variable {M : Model} {A : Around} {E : Value → Shared → Prop} {s : Shared} {env : Env} {K : PySem.W.Frag} {C : Addr} {bm : List Value}
theorem raiseX {x : Expr} {pos : Pos} {Q : Flow → Shared → Prop} (c : XAt K C bm) (hh : A.handled = none)
    (h : wpAny M A (eval x env) (fun v s₁ => ∃ e t od sl, v = .ref e ∧ K.In s₁.heap ∧ s₁.heap.get? e = some { cls := .ref C, dict := od, data := .fields #[.ref t, .none, .none, .none, .bool false, .none], slots := sl } ∧ E (.ref e) s₁) E s) :
    wpAny M A (exec (.Raise (some x) none pos) env) Q E s := by
  obtain ⟨nm, q, N, bs, sn, sub, ab, col, dd, k0, k1, k2, k3, k5, lk⟩ := c.at_
  have hcB : (Value.ref C :: bm).contains (.type "BaseException") = true := by rw [List.contains_cons, c.tl.has (by decide +kernel : L2.vE.contains (.type "BaseException") = true), Bool.or_true]
  have core : wpAny M A (raiseStmt env (some (do let v ← eval x env; standAt pos; pure v)) none) Q E s := by
    unfold raiseStmt
    refine wpAny_bind (wpAny_bind (wpAny_mono h (fun v s₁ h₁ => wpAny_bind (wpAny_standAt (wpAny_pure ?_))) fun _ _ x => x))
    obtain ⟨e, t, od, sl, rfl, X, he, hE⟩ := h₁
    have hC := X _ _ lk
    obtain ⟨hp, g, d, tk, os⟩ := s₁
    repeat (first | with_reducible refine wpAny_loadPart_at he ?_ | with_reducible refine wpAny_loadPart_at hC ?_ | (with_reducible refine wpAny_isSubtype_exc hC ?_; rw [hcB]) | wp_step)
    exact wpAny_raiseNew_none hh hE
  rw [arm_exec_Raise]
  first
    | exact wpAny_bind (wpAny_standAt core)
    | (simp only [evalOpt, Option.map]; exact wpAny_bind (wpAny_standAt core))
theorem excMatchesX {h : Heap} {g : Array GenState} {d : Drawn} {t : Nat} {os : OsState} {e D : Addr} {bmD : List Value} {oe : Obj} {Q : Bool → Shared → Prop} (X : K.In h) (c : XAt K C bm) (cD : XAt K D bmD) (hsub : (Value.ref C :: bm).contains (.ref D) = true)
    (he : h.get? e = some oe) (hcls : oe.cls = .ref C) (hq : Q true ⟨h, g, d, t, os⟩) : wpAny M A (excMatches (.ref e) (.ref D)) Q E ⟨h, g, d, t, os⟩ := by
  obtain ⟨nm, q, N, bs, sn, sub, ab, col, dd, k0, k1, k2, k3, k5, lk⟩ := c.at_
  obtain ⟨nm', q', N', bs', sn', sub', ab', col', dd', k0', k1', k2', k3', k5', lk'⟩ := cD.at_
  have hC := X _ _ lk
  have hD := X _ _ lk'
  have hcB : (Value.ref D :: bmD).contains (.type "BaseException") = true := by rw [List.contains_cons, cD.tl.has (by decide +kernel : L2.vE.contains (.type "BaseException") = true), Bool.or_true]
  have f := tc_notTuple
  unfold excMatches
  repeat (first | (with_reducible refine wpAny_loadPart_at he ?_; rw [hcls]) | with_reducible refine wpAny_loadPart_at hD ?_ | (with_reducible refine wpAny_isSubtype_exc hD ?_; rw [hcB]) | (with_reducible refine wpAny_isSubtype_exc hC ?_; rw [hsub]) | wp_step)
  exact hq
end
end PySem
namespace L2
open PySem PySem.Spec PyProof.Rows
abbrev xvs (tt : Addr) : Array Value := #[.ref tt, .none, .none, .none, .bool false, .none]
def tRaise (C : Addr) (sp : Sp) (t : TA) : TSX := fun Ex D σ H => t σ H fun vs H1 => vs.length ≤ 1000 ∧ ∀ ex tt, H1 ex = none → sp (.ref ex :: vs) (upd H1 ex (.ext (ExcV ex C none (xvs tt))))
  (fun v H2 => v = .non ∧ ∃ od, H2 ex = some (.ext (ExcV ex C od (xvs tt))) ∧ Ex σ (.ref C) (some ex) (upd H2 ex (.ext (ExcO ex C od)))) E0
section
variable {X : Cx} {k : Nat} {f C : Addr} {fd : FuncData} {ps : List Str} {sp : Sp} {x m : Str} {p pos apos rpos : Pos} {e o : Expr} {es : List Expr} {ta : TE} {t : TA} {bm : List Value}
theorem psx_raise (c : XCls X.K C bm) (hi : PySem.W.findIn X.K (.ref C) "__init__" = some (some (.ref f))) (hf : PySem.W.isFn X.K (.ref f) = true) (F : FnOk X.prog X.w X.K X.mg X.base CX0 k f fd ps sp) (hr : Room (k + 1) X.A) (hg : Gl X x) (hm : X.mg x = some (.ref C)) (hb : Binds X.K fd ps [])
    (ha : PA X (e :: es) t) (hdb : (x == ("__debug__" : Str)) = false := by decide) (he : starEach (e :: es) X.env = (false, eval e X.env) :: starEach es X.env := by rfl) (hpl : (backTo pos (starEach es X.env)).any (·.1) = false := by rfl) :
    PSX X (.Raise (some (.Call (.Name x p) (e :: es) [] pos)) none rpos) (tRaise C sp t) := by
  intro pins s σ H D Ex I h
  refine raiseX c.toXAt hr.hd ?_
  refine wpAny_Call_Name_kw (ld_glob I hg hm ?_ hdb)
  refine PySem.W.callWith_K (h₀ := X.base) I.ok.mod.kin c.kp (wpAny_mono (ha pos pins s σ H _ I h) (fun us s1 ⟨vs, H1, I1, r, hlen, q⟩ => ⟨I1.kIn, ?_⟩) fun _ _ z => .inl z) he hpl
  obtain ⟨h1, g1, d1, t1, o1⟩ := s1
  have hul : us.length ≤ sizeLine := by rw [← r.length, sizeLine_eq]; exact Nat.le_trans hlen (by decide)
  refine exc_call (h := h1) I1.kIn c.toXAt hi hf (by simpa using hul) ?_
  have hq := q (h1.objs.size + 1) h1.objs.size (I1.hok.fresh (Nat.le_succ _))
  have hget : ((h1.push { cls := .type "tuple", data := .seq us.toArray }).push { cls := .ref C, data := .fields #[.ref h1.objs.size, .none, .none, .none, .bool false, .none] }).get? (h1.objs.size + 1) = some { cls := .ref C, data := .fields #[.ref h1.objs.size, .none, .none, .none, .bool false, .none] } := by heap_get
  have kk : ∀ b o, h1.get? b = some o → ((h1.push { cls := .type "tuple", data := .seq us.toArray }).push { cls := .ref C, data := .fields #[.ref h1.objs.size, .none, .none, .none, .bool false, .none] }).get? b = some o := fun b o e => Heap.get?_push_of_some _ (Heap.get?_push_of_some _ e)
  have I2 : Inv X pins σ (upd H1 (h1.objs.size + 1) (.ext (ExcV (h1.objs.size + 1) C none (xvs h1.objs.size)))) ⟨(h1.push { cls := .type "tuple", data := .seq us.toArray }).push { cls := .ref C, data := .fields #[.ref h1.objs.size, .none, .none, .none, .bool false, .none] }, g1, d1, t1, o1⟩ :=
    I1.laid (a := h1.objs.size + 1) (t' := t1) kk (Nat.le_succ _) (ExcV.ok ⟨_, hget, rfl, rfl, rfl⟩)
  have r2 : Vals (V.ref (h1.objs.size + 1) :: vs) (Value.ref (h1.objs.size + 1) :: us) := .cons rfl r
  have hl : (Value.ref (h1.objs.size + 1) :: us ++ []).length = ps.length := by
    rw [List.append_nil, ← r2.length]; exact F.len _ _ _ _ hq
  show wpAny _ _ (call (.ref f) (Value.ref (h1.objs.size + 1) :: us)) _ _ _
  refine wpAny_call (codeAny_mono (F.run _ X.stack _ _ ⟨Value.ref (h1.objs.size + 1) :: us, []⟩ (Value.ref (h1.objs.size + 1) :: us ++ []) _ _ E0 (hr.make C us []) (I2.env0.make C us []) (hb _ (Value.ref (h1.objs.size + 1) :: us) I2.kIn hl) (by rw [List.append_nil]; exact r2) hq) fun r s' hq' => ?_)
  cases r with
  | error e => exact False.elim hq'
  | ok fl =>
    cases fl with
    | next => exact False.elim hq'
    | brk => exact False.elim hq'
    | cont => exact False.elim hq'
    | ret u =>
      obtain ⟨v, H', os, bare, un, hok, rv, ev, od, hex, hE⟩ := hq'
      subst ev
      refine ⟨rv, ?_⟩
      obtain ⟨⟨oe, z1, z2, z3, z4⟩, _, _⟩ := hok _ _ hex
      have kin : X.K.In s'.heap := (I2.call' os un hok bare (fun b z => absurd z (by simp))).kIn
      have z1' : s'.heap.get? (h1.objs.size + 1) = some { cls := .ref C, dict := od, data := .fields #[.ref h1.objs.size, .none, .none, .none, .bool false, .none], slots := oe.slots } := by
        rw [z1, ← z2, ← z3, ← z4]
      refine ⟨_, _, _, _, rfl, kin, z1', .inr ⟨σ, ⟨h1, g1, d1, t1, o1⟩, H1, I1, h1.objs.size + 1, C, od, _, oe, _, none, rfl, ⟨os, bare, ?_, ?_, upd_same, Heap.get?_none_of_le (Nat.le_succ _), z1, z4, .inl ⟨rfl, rfl⟩, fun T z => by cases z⟩, hE⟩⟩
      · exact ((Un.laid kk (Nat.le_succ _) (I1.hok.fresh (Nat.le_succ _))).trans un).trans (Un.write (x := h1.objs.size + 1) (e := h1.objs.size + 1) (by rw [hex]; exact True.intro) (.inl rfl) (fun b u _ q => q) ⟨_, z1⟩)
      · exact hok.write (x := h1.objs.size + 1) (e := h1.objs.size + 1) (by rw [hex]; exact True.intro) (.inl rfl) (fun b u _ q => q) ⟨_, z1⟩ (ExcO.ok ⟨oe, _, z1, z2, z3, z4⟩)
end
theorem leaveX {X : Cx} {pins : List (Addr × Obj)} {σ : St} {H : Hp} {s s1 : Shared} {E : XK} {ev : Value} {M : Model} {A : Around} {F : Value → Shared → Prop} (I : Inv X pins σ H s) (c : CXU X.prog X.w X.stack H s E ev s1) (hst : X.stack = X.env :: X.outer) (hfr : X.env.frame = some X.env.locals) (hex : X.ex = []) (hA : A.frames = some (X.env :: X.outer)) :
    wpAny M A (leaving X.env ev) (fun _ s'' => CXU X.prog X.w X.outer X.H₀ X.s₀ E ev s'') F s1 := by
  obtain ⟨e, C, od, H', oe, vs, T?, rfl, c, hE⟩ := c
  have I1 : Inv X pins σ H' s1 := I.call' c.os c.un c.hok c.bare (fun b z => absurd z (by simp))
  have hfun := I1.stack
  rw [hst] at hfun
  refine leaving_NF hA hfun hfr c.obj c.dat c.trc fun h' N => ?_
  have N' : NF (frs X.stack) e T? s1.heap h' oe vs .none := by rw [hst]; exact N
  obtain ⟨un, hok, oe', vs', T', x1, x2, x3, x4, x5, x6, oT, ts, y1, y2, y3⟩ := c.noted I1.stkFree N'
  have I2 : Inv X pins σ H' { s1 with heap := h' } := I.call' (s' := { s1 with heap := h' }) c.os un hok c.bare (fun b z => absurd z (by simp))
  have un2 := I2.base
  rw [hex] at un2
  have old : ∀ b, s.heap.get? b = none → X.s₀.heap.get? b = none := fun b hb => by
    cases q : X.s₀.heap.get? b with
    | none => rfl
    | some o =>
      obtain ⟨o', q1⟩ := I.base.there b o q (by rw [hex]; simp)
      rw [hb] at q1; cases q1
  exact ⟨e, C, od, H', oe', vs', some T', rfl, ⟨I2.os, I2.bare, un2, hok, c.at_, old e c.new, x1, x2, .inr ⟨T', oT, ts, rfl, x3, x4, y1, y2, y3⟩, fun T z => by cases z; exact ⟨x5, old _ x6⟩⟩, hE⟩
theorem Fun.okX {P : Program} {w : World} {K : PySem.W.Frag} {mg : Str → Option Value} {base : Heap} {x qual : Str} {st : Stmt} {f : Addr} {fd : FuncData} {N ps : List Str} {k : Nat} {sp : Sp} (F : Fun K x qual st f fd) (S : FnScope N ps (defScope st)) (len : ∀ vs H Q E, sp vs H Q E → vs.length = ps.length)
    (hbody : ∀ (cdv : Value) (A : Around) (outer : List Env) (s : Shared) (H : Hp) (vs : List V) (Q : VK) (E : XK), Room k (A.deeper (envOfC qual (defScope st) s.heap.objs.size f cdv)) → sp vs H Q E →
      ∃ t, PSXs (cxOf (CXU P w) P w K mg base N qual (defScope st) f cdv A outer s H E).nox (defBody st) t ∧ t (fun _ => E) { nx := fun _ H' => Q .non H', rt := Q } (start N vs) H) : FnOk P w K mg base (CXU P w) (k + 1) f fd ps sp := by
  obtain ⟨oc, od, kV, doc, pm, an, cdv, ct, osl, rfl, lk, hcd⟩ := F.ex
  refine fn_of lk hcd S len fun A outer s H vs Q E hr hsp => ?_
  obtain ⟨t, h, q⟩ := hbody cdv A outer s H vs Q E hr hsp
  refine ⟨t (fun _ => E), fun pins s1 σ H1 D I hw => ?_, q⟩
  refine wpAny_mono (h pins s1 σ H1 D (fun _ => E) (I.wish _) hw) (fun _ _ q => q.unwish) fun ev s2 z => ?_
  rcases z with z | ⟨σ', s3, H3, I3, z⟩
  · exact False.elim z
  · exact leaveX (X := cxOf (CXU P w) P w K mg base N qual (defScope st) f cdv A outer s H E) I3.unwish z rfl rfl rfl I.ok.frames
end L2
set_option maxHeartbeats 4000000
namespace L2
open PySem PySem.Spec PyProof.Rows
abbrev Cx.hold (X : Cx) (ev : Value) : Cx := { X with A := X.A.mark (some ev), calm := false, xe := fun _ _ => False }
section
variable {X : Cx} {pins : List (Addr × Obj)} {σ : St} {H : Hp} {s : Shared} {ev : Value}
theorem Inv.hold (I : Inv X pins σ H s) (ev : Value) : Inv (X.hold ev) pins σ H s :=
  ⟨⟨I.ok.mod, I.ok.kind, I.ok.glob, I.ok.blt, I.ok.above, I.ok.inj, I.ok.has, I.ok.cab, fun z => Bool.noConfusion z, I.ok.frames, I.ok.stk, I.ok.exf, I.ok.bs, I.ok.bsz, I.ok.noex, I.ok.exfs, I.ok.funs, I.ok.frf⟩, I.os, I.bare, I.base, I.loc, I.cell, I.free, I.freeC, I.pin, I.hok, I.len⟩
theorem Inv.unhold (ok : X.Ok) (I : Inv (X.hold ev) pins σ H s) : Inv X pins σ H s := ⟨ok, I.os, I.bare, I.base, I.loc, I.cell, I.free, I.freeC, I.pin, I.hok, I.len⟩
theorem SP.unhold (ok : X.Ok) {D : Ends} {f : Flow} (h : SP (X.hold ev) pins D f s) : SP X pins D f s := by
  cases f with
  | next => obtain ⟨σ', H', I, q⟩ := h; exact ⟨σ', H', I.unhold ok, q⟩
  | brk => obtain ⟨σ', H', I, q⟩ := h; exact ⟨σ', H', I.unhold ok, q⟩
  | cont => obtain ⟨σ', H', I, q⟩ := h; exact ⟨σ', H', I.unhold ok, q⟩
  | ret u => obtain ⟨v, σ', H', I, r, q⟩ := h; exact ⟨v, σ', H', I.unhold ok, r, q⟩
theorem caughtX {s1 : Shared} {E : XK} {ev : Value} {M : Model} {A : Around} {F : Value → Shared → Prop} {Q : Unit → Shared → Prop} (I : Inv X pins σ H s) (c : CXU X.prog X.w X.stack H s E ev s1) (hst : X.stack = X.env :: X.outer) (hfr : X.env.frame = some X.env.locals) (hA : A.frames = some (X.env :: X.outer))
    (h : ∀ s3 e C od H' oe (vs : Option Addr × Array Value), ev = .ref e → Inv X pins σ H' s3 → H' e = some (.ext (ExcO e C od)) → NF (frs X.stack) e vs.1 s1.heap s3.heap oe vs.2 .none → E (.ref C) (some e) H' → (∀ h', NF (frs X.stack) e vs.1 s1.heap h' oe vs.2 .none → Inv X pins σ H' { s3 with heap := h' }) → Q () s3) :
    wpAny M A (noteFrame ev X.env) (fun _ s2 => wpAny M A (setFlight ev none) Q F s2) F s1 := by
  obtain ⟨e, C, od, H', oe, vs, T?, rfl, c, hE⟩ := c
  have I1 : Inv X pins σ H' s1 := I.call' c.os c.un c.hok c.bare (fun b z => absurd z (by simp))
  have hfun := I1.stack
  rw [hst] at hfun
  refine noteFrame_NF hA hfun hfr c.obj c.dat c.trc fun h' N => flight_NF (s := { s1 with heap := h' }) N fun h3 N3 => ?_
  have inv : ∀ h', NF (frs X.stack) e T? s1.heap h' oe vs .none → Inv X pins σ H' { s1 with heap := h' } := fun h' N' => by
    obtain ⟨un, hok, _⟩ := c.noted I1.stkFree N'
    exact I.call' (s' := { s1 with heap := h' }) c.os un hok c.bare (fun b z => absurd z (by simp))
  have N3' : NF (frs X.stack) e T? s1.heap h3 oe vs .none := by rw [hst]; exact N3
  exact h { s1 with heap := h3 } e C od H' oe (T?, vs) rfl (inv h3 N3') c.at_ N3' hE inv
end
def tTry (K : PySem.W.Frag) (D : Addr) (tb : TSX) (ts : TS) : TS := fun En σ H => tb (fun σ' cls oe H' => ∃ C e bm, cls = .ref C ∧ oe = some e ∧ XAt K C bm ∧ (Value.ref C :: bm).contains (.ref D) = true ∧ ts En σ' H') En σ H
theorem ps_try {X : Cx} {body : List Stmt} {b₀ : Stmt} {suite : List Stmt} {x : Str} {np hpos pos : Pos} {D : Addr} {bmD : List Value} {tb : TSX} {ts : TS} (hx : ∀ ev s, ¬ X.xe ev s) (hst : X.stack = X.env :: X.outer) (hfr : X.env.frame = some X.env.locals) (hb : PSXs X body tb) (cD : XAt X.K D bmD)
    (hg : Gl X x) (hm : X.mg x = some (.ref D)) (hs : ∀ ev, PSs (X.hold ev) (b₀ :: suite) ts) (hd : (x == ("__debug__" : Str)) = false := by decide) : PS X (.Try body [.ExceptHandler (some (.Name x np)) none (b₀ :: suite) hpos] [] [] pos) (tTry X.K D tb ts) := by
  intro pins s σ H En I h
  have hA : X.A.frames = some (X.env :: X.outer) := I.ok.frames.trans (by rw [hst])
  refine wpAny_Try_except (wpAny_mono (hb pins s σ H En _ I h) (fun f s1 q => ?_) fun ev s1 z => ?_)
  · cases f with
    | next => exact wpAny_execs_nil q
    | ret v => exact q
    | brk => exact q
    | cont => exact q
  rcases z with z | ⟨σ', s', H₁, I', z⟩
  · exact absurd z (hx _ _)
  refine caughtX I' z hst hfr hA fun s3 e C od H' oe vs hev I3 hat N hE inv => ?_
  subst hev
  obtain ⟨C', e', bm, z1, z2, cC, hsub, hts⟩ := hE
  cases z1
  refine wpAny_handleBy_cons (codeAny_handlers_test (ld_glob (X := X.hold (.ref e)) (I3.hold _) hg hm ?_ hd)) (by intro q; cases q)
  obtain ⟨⟨oe', vs', y1, y2, y3, y4⟩, _, _⟩ := I3.hok e _ hat
  obtain ⟨h3, g3, d3, t3, o3⟩ := s3
  refine excMatchesX I3.kIn cC cD hsub y1 y2 ?_
  refine codeAny_handlers_suite (flight_NF (s := ⟨h3, g3, d3, t3, o3⟩) N fun h4 N4 => ?_)
  have I4 := inv h4 N4
  exact wpAny_mono (hs (.ref e) pins _ σ' H' En (I4.hold _) hts) (fun f s5 q => q.unhold I4.ok) fun _ _ z => False.elim z
end L2
set_option maxHeartbeats 4000000
namespace L2
open PySem PySem.Spec PyProof.Rows
def sXF (K : PySem.W.Frag) (ta tv : TE) (f : Str) : TS := fun D σ H => tv σ H fun y H1 => ta σ H1 fun x H2 => ∃ (e C : Addr) (bm : List Value) (vs : Array Value), x = .ref e ∧ H2 e = some (.ext (ExcV e C none vs)) ∧ XCls K C bm ∧ NoAttr K C f ∧
  ∀ d, H2 d = none → d ≠ e → D.nx σ (upd (upd (upd H2 d (.ext (XdO d []))) e (.ext (ExcV e C (some d) vs))) d (.ext (XdO d [(f, y)])))
section
variable {X : Cx} {o e value : Expr} {f : Str} {pos pos' : Pos} {ta tv : TE}
theorem ps_xf (ha : PE X o ta) (hv : PE X value tv) (hs : swapsWith value (some (.Attribute o f pos')) pos.line X.env = pure false := by rfl) : PS X (.Assign [.Attribute o f pos'] value pos) (sXF X.K ta tv f) := by
  intro pins s σ H D I h
  refine plainObj_wpAny_Assign_Attribute (thn (hv pins s σ H _ I h) fun u s1 ⟨y, H1, I1, ry, q⟩ => thn (ha pins s1 σ H1 _ I1 q) fun ov s2 ⟨x, H2, I2, rx, a, C, bm, vs, ex, ea, c, n, q2⟩ => ?_) hs
  subst ex
  obtain rfl : ov = Value.ref a := rx
  exact setattrX_new I2 ea c n ry fun d s3 hd hne I3 => ⟨σ, _, I3, q2 d hd hne⟩
end
end L2
set_option maxHeartbeats 4000000
namespace PySem
open Sem (wp)
end PySem
namespace L2
open PySem PySem.Spec PyProof.Rows
end L2
set_option maxHeartbeats 4000000
namespace K20
open PySem L2 Wk
def top (i : Nat) : Stmt := PySem.Challenge.pw_joinedever_k20_two_by_turns.main.body.getD i (.Pass ⟨0, 0, 0, 0⟩)
def meth (i j : Nat) : Stmt := match top i with
  | .ClassDef (body := b) .. => b.getD j (.Pass ⟨0, 0, 0, 0⟩)
  | s => s
abbrev sWhole : Stmt := top 4
abbrev sWithin : Stmt := top 5
abbrev sStays : Stmt := top 7
abbrev sJp : Stmt := top 8
abbrev sInit : Stmt := meth 9 0
abbrev sJoin : Stmt := meth 9 1
abbrev sTop : Stmt := meth 9 2
abbrev sSide : Stmt := meth 9 3
abbrev sSize : Stmt := meth 9 4
abbrev sParts : Stmt := meth 9 5
abbrev sOdd : Stmt := meth 9 6
abbrev sJoins : Stmt := meth 9 7
abbrev sShown : Stmt := meth 9 8
abbrev sBack : Stmt := meth 9 9
abbrev sCell : Stmt := top 11
abbrev sOpen : Stmt := top 12
abbrev sDraw : Stmt := top 13
abbrev sRare : Stmt := top 14
abbrev sTwo : Stmt := top 15
abbrev sBegin : Stmt := top 16
abbrev sDo : Stmt := top 17
abbrev sDue : Stmt := top 18
abbrev sWholes : Stmt := top 20
abbrev sShownR : Stmt := top 21
abbrev sPlaceR : Stmt := top 22
abbrev sMade : Stmt := top 19
abbrev sRight : Stmt := top 27
abbrev sLaw : Stmt := top 28
abbrev sNInit : Stmt := meth 2 0
abbrev sRefuses : Stmt := top 23
abbrev sStepped : Stmt := top 24
abbrev sAsked : Stmt := top 25
abbrev sAlike : Stmt := top 26
structure Txt (K : PySem.W.Frag) (mg : Str → Option Value) (C I N J B : Addr) : Prop where
  cl : Cls K C
  nS : NoAttr K C "states"
  mkC : Mk K C I
  mgC : mg "Takes" = some (.ref C)
  xN : XCls K N (.ref B :: vE)
  xB : XAt K B vE
  nT : NoAttr K N "thing"
  iN : PySem.W.findIn K (.ref N) "__init__" = some (some (.ref J))
  fN : PySem.W.isFn K (.ref J) = true
  mgN : mg "NoMark" = some (.ref N)
  mgB : mg "TieError" = some (.ref B)
  isinstance : mg "isinstance" = none
  int : mg "int" = none
  bool : mg "bool" = none
  tuple : mg "tuple" = none
  len : mg "len" = none
  range : mg "range" = none
  max : mg "max" = none
  min : mg "min" = none
  zip : mg "zip" = none
  sorted : mg "sorted" = none
  list : mg "list" = none
  enumerate : mg "enumerate" = none
structure S3 where
  tops : List Int
  sides : List Int
  odds : Int
def staysB (tops : List Int) (a b : Int) : Bool := decide (0 < (tops.count a : Int) - (tops.count b : Int)) || (decide ((tops.count a : Int) - (tops.count b : Int) = 0) && decide (a < b))
def newTops (tops : List Int) (kept taken : Int) : List Int := tops.map fun t => if t = taken then kept else t
def newSides (tops sides : List Int) (taken turn : Int) : List Int := List.zipWith (fun t s => if t = taken then Builtin.bitXor s turn else s) tops sides
def kt (tops : List Int) (a b : Int) : Int × Int := if staysB tops a b then (a, b) else (b, a)
def turnOf (s t : Int) : Int := if s = t then 1 else 0
def joinS (st : S3) (i j : Nat) : S3 × Bool :=
  let a := st.tops.getD i 0
  let b := st.tops.getD j 0
  if a = b then (⟨st.tops, st.sides, st.odds + turnOf (st.sides.getD i 0) (st.sides.getD j 0)⟩, false)
  else (⟨newTops st.tops (kt st.tops a b).1 (kt st.tops a b).2, newSides st.tops st.sides (kt st.tops a b).2 (turnOf (st.sides.getD i 0) (st.sides.getD j 0)), st.odds⟩, true)
def partsN (tops : List Int) : Nat := ((List.range tops.length).filter fun p => decide (tops.getD p 0 = (p : Nat))).length
def StAt (H : Hp) (r : Addr) (st : S3) : Prop := ∃ a b : Addr, H r = some (.tup [.ref a, .ref b, .int st.odds]) ∧ H a = some (.tup (st.tops.map V.int)) ∧ H b = some (.tup (st.sides.map V.int))
def TupS (H H' : Hp) : Prop := ∀ b xs, H b = some (.tup xs) → H' b = some (.tup xs)
theorem StAt.tup {H H' : Hp} {r : Addr} {st : S3} (h : StAt H r st) (t : TupS H H') : StAt H' r st := by
  obtain ⟨a, b, h1, h2, h3⟩ := h
  exact ⟨a, b, t _ _ h1, t _ _ h2, t _ _ h3⟩
def StsAt (H : Hp) : List Addr → List S3 → Prop
  | [], [] => True
  | r :: rs, st :: sts => StAt H r st ∧ StsAt H rs sts
  | _, _ => False
theorem StsAt.tup {H H' : Hp} (t : TupS H H') : ∀ {rs : List Addr} {sts : List S3}, StsAt H rs sts → StsAt H' rs sts
  | [], [], _ => trivial
  | _ :: _, _ :: _, h => ⟨h.1.tup t, StsAt.tup t h.2⟩
theorem StsAt.snoc {H : Hp} {r : Addr} {st : S3} (t : StAt H r st) : ∀ {rs : List Addr} {sts : List S3}, StsAt H rs sts → StsAt H (rs ++ [r]) (sts ++ [st])
  | [], [], _ => ⟨t, trivial⟩
  | _ :: _, _ :: _, h => ⟨h.1, StsAt.snoc t h.2⟩
theorem StsAt.len {H : Hp} : ∀ {rs : List Addr} {sts : List S3}, StsAt H rs sts → rs.length = sts.length
  | [], [], _ => rfl
  | _ :: _, _ :: _, h => by simp [StsAt.len h.2]
theorem StsAt.take {H : Hp} (k : Nat) : ∀ {rs : List Addr} {sts : List S3}, StsAt H rs sts → StsAt H (rs.take k) (sts.take k) := by
  induction k with
  | zero => intro rs sts _; simp [StsAt]
  | succ k ih =>
    intro rs sts h
    match rs, sts, h with
    | [], [], _ => exact trivial
    | _ :: _, _ :: _, h => exact ⟨h.1, ih h.2⟩
theorem StsAt.last {H : Hp} : ∀ {rs : List Addr} {pre : List S3} {st : S3}, StsAt H rs (pre ++ [st]) → ∃ rs' r, rs = rs' ++ [r] ∧ StAt H r st ∧ StsAt H rs' pre
  | [], [], _, h => h.elim
  | [], _ :: _, _, h => h.elim
  | r :: rs, [], st, h => by
    match rs, h with
    | [], h => exact ⟨[], r, rfl, h.1, trivial⟩
    | _ :: _, h => exact h.2.elim
  | r :: rs, p :: pre, st, h => by
    obtain ⟨rs', r', e, h1, h2⟩ := StsAt.last (pre := pre) h.2
    exact ⟨r :: rs', r', by rw [e]; rfl, h1, h.1, h2⟩
def flds (S : Addr) : List (Str × V) := putF "states" (.ref S) []
theorem flds_at (S : Addr) : (flds S).lookup ("states" : Str) = some (.ref S) := by
  unfold flds
  rw [lookup_putF, if_pos rfl]
theorem flds_no (S : Addr) {m : Str} (h : ¬ m = "states") : (flds S).lookup m = none := by
  unfold flds
  rw [lookup_putF, if_neg h]
  rfl
theorem flds_put (S S' : Addr) : putF "states" (.ref S') (flds S) = flds S' := by
  unfold flds
  show (if ("states" : Str) = "states" then _ else _) = _
  rw [if_pos rfl]
  rfl
structure TkAt (C : Addr) (H : Hp) (x S : Addr) (sts : List S3) : Prop where
  ob : ∃ dx, H x = some (.ins C dx (flds S))
  st : ∃ rs : List Addr, H S = some (.lst (rs.map V.ref)) ∧ StsAt H rs sts
  le : sts.length ≤ 200
structure Ok (n : Nat) (st : S3) : Prop where
  t : st.tops.length = n
  s : st.sides.length = n
  n1 : 1 ≤ n
  n2 : n ≤ 24
def spWhole : Sp := fun vs H Q _ => ∃ i : Int, vs = [.int i] ∧ Q (.bl true) H
def spWithin : Sp := fun vs H Q _ => ∃ i lo hi : Int, vs = [.int i, .int lo, .int hi] ∧ lo ≤ i ∧ i ≤ hi ∧ Q (.bl true) H
def spStays (K : PySem.W.Frag) : Sp := fun vs H Q _ => ∃ (t : Addr) (tops : List Int) (a b : Int), vs = [.ref t, .int a, .int b] ∧ H t = some (.tup (tops.map V.int)) ∧ Q (.bl (staysB tops a b)) H
def spJp (K : PySem.W.Frag) : Sp := fun vs H Q _ => ∃ (t s : Addr) (st : S3) (n i j : Nat), vs = [.ref t, .ref s, .int (i : Nat), .int (j : Nat)] ∧ H t = some (.tup (st.tops.map V.int)) ∧ H s = some (.tup (st.sides.map V.int)) ∧ Ok n st ∧ i < n ∧ j < n ∧
  ∀ (r a b : Addr) (H' : Hp), Same H H' → H' r = some (.tup [.ref a, .ref b]) → H' a = some (.tup ((newTops st.tops (kt st.tops (st.tops.getD i 0) (st.tops.getD j 0)).1 (kt st.tops (st.tops.getD i 0) (st.tops.getD j 0)).2).map V.int)) →
    H' b = some (.tup ((newSides st.tops st.sides (kt st.tops (st.tops.getD i 0) (st.tops.getD j 0)).2 (turnOf (st.sides.getD i 0) (st.sides.getD j 0))).map V.int)) → Q (.ref r) H'
def start3 (m : Int) : S3 := ⟨rints 0 m.toNat, List.replicate m.toNat 0, 0⟩
def spInit (C : Addr) : Sp := fun vs H Q _ => ∃ (x dx : Addr) (m : Int), vs = [.ref x, .int m] ∧ H x = some (.ins C dx []) ∧ 1 ≤ m ∧ m ≤ 24 ∧ ∀ (S : Addr) (H' : Hp), H S = none → TkAt C H' x S [start3 m] → (∀ b o, H b = some o → b ≠ x → H' b = some o) → Q .non H'
def spShown (C : Addr) : Sp := fun vs H Q _ => ∃ (x S : Addr) (pre : List S3) (st : S3), vs = [.ref x] ∧ TkAt C H x S (pre ++ [st]) ∧ ∀ r, StAt H r st → Q (.ref r) H
def spTop (C : Addr) : Sp := fun vs H Q _ => ∃ (x S : Addr) (pre : List S3) (st : S3) (n i : Nat), vs = [.ref x, .int (i : Nat)] ∧ TkAt C H x S (pre ++ [st]) ∧ Ok n st ∧ i < n ∧ Q (.int (st.tops.getD i 0)) H
def spSide (C : Addr) : Sp := fun vs H Q _ => ∃ (x S : Addr) (pre : List S3) (st : S3) (n i : Nat), vs = [.ref x, .int (i : Nat)] ∧ TkAt C H x S (pre ++ [st]) ∧ Ok n st ∧ i < n ∧ Q (.int (st.sides.getD i 0)) H
def spSize (C : Addr) : Sp := fun vs H Q _ => ∃ (x S : Addr) (pre : List S3) (st : S3) (n i : Nat), vs = [.ref x, .int (i : Nat)] ∧ TkAt C H x S (pre ++ [st]) ∧ Ok n st ∧ i < n ∧ Q (.int (st.tops.count (st.tops.getD i 0) : Nat)) H
def spOdd (C : Addr) : Sp := fun vs H Q _ => ∃ (x S : Addr) (pre : List S3) (st : S3), vs = [.ref x] ∧ TkAt C H x S (pre ++ [st]) ∧ Q (.int st.odds) H
def spJoins (C : Addr) : Sp := fun vs H Q _ => ∃ (x S : Addr) (sts : List S3), vs = [.ref x] ∧ TkAt C H x S sts ∧ Q (.int ((sts.length : Int) - 1)) H
def spParts (C : Addr) : Sp := fun vs H Q _ => ∃ (x S : Addr) (pre : List S3) (st : S3) (n : Nat), vs = [.ref x] ∧ TkAt C H x S (pre ++ [st]) ∧ Ok n st ∧ ∀ H', Same H H' → Q (.int (partsN st.tops : Nat)) H'
def spJoin (C : Addr) : Sp := fun vs H Q _ => ∃ (x S : Addr) (pre : List S3) (st : S3) (n i j : Nat), vs = [.ref x, .int (i : Nat), .int (j : Nat)] ∧ TkAt C H x S (pre ++ [st]) ∧ pre.length ≤ 150 ∧ Ok n st ∧ i < n ∧ j < n ∧
  ∀ H', (∀ b o, H b = some o → b ≠ S → H' b = some o) → TkAt C H' x S (pre ++ [st] ++ [(joinS st i j).1]) → Q (.bl (joinS st i j).2) H'
def spBack (C : Addr) : Sp := fun vs H Q _ => ∃ (x S : Addr) (sts : List S3) (k : Nat), vs = [.ref x, .int (k : Nat)] ∧ TkAt C H x S sts ∧ k < sts.length ∧ ∀ (S' : Addr) (H' : Hp), H S' = none → (∀ b o, H b = some o → b ≠ x → H' b = some o) → TkAt C H' x S' (sts.take (k + 1)) → Q .non H'
theorem getD_at {ns : List Int} {i : Nat} (h : i < ns.length) : atI (ns.map V.int) (i : Int) = some (.int (ns.getD i 0)) := atI_nat (by rw [List.getElem?_map, List.getElem?_eq_getElem h]; simp [List.getD, h])
theorem at_last {r : V} {xs : List V} : atI (xs ++ [r]) (-1) = some r := by
  unfold atI ixN
  rw [if_neg (by decide), if_pos (by simp; omega)]
  have : ((-1 : Int) + ((xs ++ [r]).length : Int)).toNat = xs.length := by simp; omega
  rw [this]
  simp
section
variable {P : Program} {w : World} {K : PySem.W.Frag} {mg : Str → Option Value} {base : Heap} {C I N J B : Addr}
theorem scWhole : FnScope ["thing"] ["thing"] (defScope sWhole) := ⟨rfl, rfl, rfl, by decide +kernel, rfl, by decide +kernel, by decide +kernel⟩
theorem ok_Whole {f : Addr} {fd : FuncData} (F : Fun K "is_whole" "is_whole" sWhole f fd) (T : Txt K mg C I N J B) :
    FnOk P w K mg base CX0 1 f fd ["thing"] spWhole := by
  refine F.ok scWhole (fun vs H Q E h => ?_) (fun cdv A outer s H vs Q E hr h => ?_)
  · obtain ⟨_, rfl, _⟩ := h; rfl
  · obtain ⟨i, rfl, k⟩ := h
    refine ⟨_, pss_one (ps_ret (pe_and (pe_callB call_isi (by rfl) T.isinstance (by decide +kernel) (pa_cons (pv 0) (pa_cons (pe_ty (T := "int") (by rfl) T.int (by decide +kernel)) pa_nil))) (pe_one (pe_not (pe_callB call_isi (by rfl) T.isinstance (by decide +kernel) (pa_cons (pv 0) (pa_cons (pe_ty (T := "bool") (by rfl) T.bool (by decide +kernel)) pa_nil))))))), ?_⟩
    exact ⟨_, rfl, _, _, "int", true, rfl, .int i, rfl, _, rfl, iteT ⟨_, rfl, _, _, "bool", false, rfl, .int i, rfl, _, rfl, k⟩⟩
theorem scWithin : FnScope ["thing", "low", "high"] ["thing", "low", "high"] (defScope sWithin) := ⟨rfl, rfl, rfl, by decide +kernel, rfl, by decide +kernel, by decide +kernel⟩
theorem ok_Within {f : Addr} {fd : FuncData} (F : Fun K "is_within" "is_within" sWithin f fd) (T : Txt K mg C I N J B)
    {gWhole : Addr} {fWhole : FuncData} (kWhole : PySem.W.keepIn K (.ref gWhole) = true) (bWhole : Binds K fWhole ["thing"] []) (hWhole : mg "is_whole" = some (.ref gWhole)) (GWhole : FnOk P w K mg base CX0 1 gWhole fWhole ["thing"] spWhole) :
    FnOk P w K mg base CX0 2 f fd ["thing", "low", "high"] spWithin := by
  refine F.ok scWithin (fun vs H Q E h => ?_) (fun cdv A outer s H vs Q E hr h => ?_)
  · obtain ⟨_, _, _, rfl, _⟩ := h; rfl
  · obtain ⟨i, lo, hi, rfl, h1, h2, k⟩ := h
    refine ⟨_, pss_one (ps_ret (pe_and (pe_call GWhole hr rfl hWhole kWhole bWhole .nil pass0 (pa_cons (pv 0) pa_nil)) (pe_one (pe_chain op_le op_le (pv 1) (pv 0) (pv 2))))), ?_⟩
    refine ⟨_, rfl, i, rfl, _, rfl, iteT ⟨_, rfl, _, rfl, _, _, rfl, rfl, _, rfl, ?_⟩⟩
    rw [decide_eq_true h1]
    refine iteT ⟨_, rfl, _, _, rfl, rfl, ?_⟩
    show Q (.bl (decide (i ≤ hi))) H
    rw [decide_eq_true h2]
    exact k
theorem scStays : FnScope ["tops", "one", "other", "more"] ["tops", "one", "other"] (defScope sStays) := ⟨rfl, rfl, rfl, by decide +kernel, rfl, by decide +kernel, by decide +kernel⟩
theorem ok_Stays {f : Addr} {fd : FuncData} (F : Fun K "stays" "stays" sStays f fd) (T : Txt K mg C I N J B) :
    FnOk P w K mg base CX0 1 f fd ["tops", "one", "other"] (spStays K) := by
  refine F.ok scStays (fun vs H Q E h => ?_) (fun cdv A outer s H vs Q E hr h => ?_)
  · obtain ⟨_, _, _, _, rfl, _⟩ := h; rfl
  · obtain ⟨t, tops, a, b, rfl, ht, k⟩ := h
    refine ⟨_, pss_cons (ps_set (i := 3) scStays.nd rfl (Or.inl rfl) (pe_op op_sub (pe_bm PySem.F.plainAttrs_tuple PySem.F.slot_tuple_count PySem.F.type_tuple_count mt_countT (pv 0) (pa_cons (pv 1) pa_nil)) (pe_bm PySem.F.plainAttrs_tuple PySem.F.slot_tuple_count PySem.F.type_tuple_count mt_countT (pv 0) (pa_cons (pv 2) pa_nil))))
      (pss_one (ps_ret (pe_or (pe_cmpR op_gt (pv 3) pe_int (nomark _)) (pe_one (pe_and (pe_cmpR op_eq (pv 3) pe_int (nomark _)) (pe_one (pe_cmpR op_lt (pv 1) (pv 2) (nomark _)))))))), ?_⟩
    refine ⟨_, rfl, .inr (.inl ⟨rfl, .inr ⟨_, ht⟩⟩), _, rfl, t, tops, a, rfl, rfl, SqT.of ht, _, rfl, .inr (.inl ⟨rfl, .inr ⟨_, ht⟩⟩), _, rfl, t, tops, b, rfl, rfl, SqT.of ht, _, _, rfl, rfl, ?_⟩
    refine ⟨_, rfl, _, _, rfl, rfl, _, rfl, ite2 (fun c => ?_) fun c => ?_⟩
    · have e : staysB tops a b = true := by unfold staysB; rw [c]; rfl
      rw [e] at k
      exact k
    · have c : decide (0 < (tops.count a : Int) - (tops.count b : Int)) = false := by simpa using c
      refine ⟨_, rfl, rfl, _, rfl, ite2 (fun c2 => ?_) fun c2 => ?_⟩
      · have c2 : (tops.count a : Int) - (tops.count b : Int) = 0 := by simpa using c2
        have e : staysB tops a b = decide (a < b) := by unfold staysB; rw [c, decide_eq_true c2]; rfl
        rw [e] at k
        exact ⟨_, rfl, _, rfl, _, _, rfl, rfl, k⟩
      · have c2 : ¬ (tops.count a : Int) - (tops.count b : Int) = 0 := by simpa using c2
        have e : staysB tops a b = false := by unfold staysB; rw [c, decide_eq_false c2]; rfl
        rw [e] at k
        exact k
def tTail : TS := fun D σ H => ∃ (t s : Addr) (tops sides : List Int) (i j kept taken turn : Int) (n : Nat), σ = [some (.ref t), some (.ref s), some (.int i), some (.int j), some (.int kept), some (.int taken), some (.int turn), none, none] ∧ H t = some (.tup (tops.map V.int)) ∧ H s = some (.tup (sides.map V.int)) ∧ tops.length = n ∧ sides.length = n ∧ n ≤ 24 ∧
  ∀ (r a b : Addr) (H' : Hp), Same H H' → H' r = some (.tup [.ref a, .ref b]) → H' a = some (.tup ((newTops tops kept taken).map V.int)) → H' b = some (.tup ((newSides tops sides taken turn).map V.int)) → D.rt (.ref r) H'
theorem int_of {ms : List Int} {j : Nat} {x : V} (h : (ms.map V.int)[j]? = some x) : ∃ c, ms[j]? = some c ∧ x = .int c := by
  rw [List.getElem?_map] at h
  cases hq : ms[j]? with
  | none => rw [hq] at h; cases h
  | some z => rw [hq] at h; exact ⟨z, rfl, (Option.some.inj h).symm⟩
theorem scJp : FnScope ["tops", "sides", "one", "other", "kept", "taken", "turn", "new_tops", "new_sides"] ["tops", "sides", "one", "other"] (defScope sJp) := ⟨rfl, rfl, rfl, by decide +kernel, rfl, by decide +kernel, by decide +kernel⟩
theorem ok_Jp {f : Addr} {fd : FuncData} (F : Fun K "joined_parts" "joined_parts" sJp f fd) (T : Txt K mg C I N J B)
    {gStays : Addr} {fStays : FuncData} (kStays : PySem.W.keepIn K (.ref gStays) = true) (bStays : Binds K fStays ["tops", "one", "other"] []) (hStays : mg "stays" = some (.ref gStays)) (GStays : FnOk P w K mg base CX0 1 gStays fStays ["tops", "one", "other"] (spStays K)) :
    FnOk P w K mg base CX0 2 f fd ["tops", "sides", "one", "other"] (spJp K) := by
  refine F.ok scJp (fun vs H Q E h => ?_) (fun cdv A outer s H vs Q E hr h => ?_)
  · obtain ⟨_, _, _, _, _, _, rfl, _⟩ := h; rfl
  · obtain ⟨t, s', st, n, i, j, rfl, ht, hs, ok, hi, hj, k⟩ := h
    refine ⟨_, pss_cons (ps_asg (pe_tup (pa_cons (pe_ix ix_tup (pv 0) (pv 2) (fun _ _ => rfl)) (pa_cons (pe_ix ix_tup (pv 0) (pv 3) (fun _ _ => rfl)) pa_nil))) (pg_tup rfl (pgs_cons (pg_name (i := 4) scJp.nd rfl (Or.inr rfl)) (pgs_cons (pg_name (i := 5) scJp.nd rfl (Or.inr rfl)) pgs_nil))))
      (pss_cons (ps_if (pt_not (pt_val (pe_call GStays hr rfl hStays kStays bStays .nil pass0 (pa_cons (pv 0) (pa_cons (pv 4) (pa_cons (pv 5) pa_nil)))))) (pss_one (ps_asg (pe_tup (pa_cons (pv 5) (pa_cons (pv 4) pa_nil))) (pg_tup rfl (pgs_cons (pg_name (i := 4) scJp.nd rfl (Or.inr rfl)) (pgs_cons (pg_name (i := 5) scJp.nd rfl (Or.inr rfl)) pgs_nil))))) pss_nil)
      (pss_cons (ps_set (i := 6) scJp.nd rfl (Or.inr rfl) (pe_ifExp (pt_cmpR op_eq (pe_ix ix_tup (pv 1) (pv 2) (fun _ _ => rfl)) (pe_ix ix_tup (pv 1) (pv 3) (fun _ _ => rfl)) (nomark _)) pe_int pe_int))
      (PSs.imp' (t' := tTail) (pss_cons (ps_comp (i := 7) (T := ["top"]) (F := ["kept", "taken"]) (js := [4, 5]) scJp.nd rfl (Or.inl rfl) (CS.to (osc := defScope sJp) ⟨by rfl, by decide +kernel, by decide +kernel, by decide +kernel, by decide +kernel, by decide +kernel, by decide +kernel⟩ rfl rfl) rfl (pi_tup (pv 0)) (fun _ _ _ _ _ => pg_name (i := 0) (show (["top", "kept", "taken"] : List Str).Nodup by decide +kernel) rfl (Or.inl rfl)) (fun _ _ _ _ _ => pif_nil) (fun _ _ _ _ _ => pe_ifExp (pt_cmpR op_eq (pv 0) (pv 2) (nomark _)) (pv 1) (pv 0)))
      (pss_cons (ps_comp (i := 8) (T := ["top", "side"]) (F := ["taken", "turn"]) (js := [5, 6]) scJp.nd rfl (Or.inl rfl) (CS.to (osc := defScope sJp) ⟨by rfl, by decide +kernel, by decide +kernel, by decide +kernel, by decide +kernel, by decide +kernel, by decide +kernel⟩ rfl rfl) rfl (pi_zip rfl T.zip (pa_cons (pv 0) (pa_cons (pv 1) pa_nil))) (fun _ _ _ _ _ => pg_tupK K 2 rfl rfl (pgs_cons (pg_name (i := 0) (show (["top", "side", "taken", "turn"] : List Str).Nodup by decide +kernel) rfl (Or.inl rfl)) (pgs_cons (pg_name (i := 1) (show (["top", "side", "taken", "turn"] : List Str).Nodup by decide +kernel) rfl (Or.inl rfl)) pgs_nil))) (fun _ _ _ _ _ => pif_nil) (fun _ _ _ _ _ => pe_ifExp (pt_cmpR op_eq (pv 0) (pv 2) (nomark _)) (pe_op op_xor (pv 1) (pv 3)) (pv 1)))
      (pss_one (ps_ret (pe_tup (pa_cons (pe_callTy call_tuple_of (by rfl) T.tuple (by decide +kernel) (pa_cons (pv 7) pa_nil)) (pa_cons (pe_callTy call_tuple_of (by rfl) T.tuple (by decide +kernel) (pa_cons (pv 8) pa_nil)) pa_nil))))))) ?tail))), ?_⟩
    case tail =>
      rintro D σ H ⟨t, s', tops, sides, i, j, kept, taken, turn, n, rfl, ht, hs, tl, sl, n2, k⟩
      refine ⟨_, rfl, t, rfl, ⟨_, SqT.of ht⟩, fun D1 hD1 => comp_tup (K := K) (a := t) (xs := tops.map V.int) (fun j σ ys H2 => ∃ u : Option V, σ = [u, some (.int kept), some (.int taken)] ∧ Same H H2 ∧ H2 D1 = some (.lst ys) ∧ ys = ((newTops tops kept taken).take j).map V.int)
        ⟨none, rfl, same_new hD1, upd_same, rfl⟩ (fun j σ ys H2 _ ⟨_, _, s2, e, _⟩ => ⟨SqT.of (s2 _ _ ht), e⟩) ?_ ?_⟩
      · rintro m x σ ys H2 hx ⟨u, rfl, s2, e2, rfl⟩
        obtain ⟨c, hc, rfl⟩ := int_of hx
        have ml : m < tops.length := (List.getElem?_eq_some_iff.mp hc).1
        have nx : (newTops tops kept taken)[m]? = some (if c = taken then kept else c) := by unfold newTops; rw [List.getElem?_map, hc]; rfl
        refine ⟨_, rfl, _, rfl, rfl, _, rfl, ite2 (fun g => ?_) fun g => ?_⟩
        · have g : c = taken := by simpa using g
          rw [if_pos g] at nx
          exact ⟨_, rfl, e2, small1000 (by simp; omega), _, rfl, fun b o e => by rw [upd_ne (ne_of_none e hD1)]; exact s2 _ _ e, upd_same, by rw [List.take_add_one, nx]; simp⟩
        · have g : ¬ c = taken := by simpa using g
          rw [if_neg g] at nx
          exact ⟨_, rfl, e2, small1000 (by simp; omega), _, rfl, fun b o e => by rw [upd_ne (ne_of_none e hD1)]; exact s2 _ _ e, upd_same, by rw [List.take_add_one, nx]; simp⟩
      rintro σ ys H2 ⟨u, rfl, s2, e2, rfl⟩
      rw [List.take_of_length_le (by simp [newTops])] at e2
      refine ⟨_, rfl, _, rfl, t, s', _, _, rfl, SqT.of (s2 _ _ ht), SqT.of (s2 _ _ hs), fun D2 hD2 => comp_zip (K := K) (a := t) (b := s') (xs := tops.map V.int) (ys := sides.map V.int) (fun j σ ys H3 => ∃ u1 u2 : Option V, σ = [u1, u2, some (.int taken), some (.int turn)] ∧ Same H2 H3 ∧ H3 D2 = some (.lst ys) ∧ ys = ((newSides tops sides taken turn).take j).map V.int)
        ⟨none, none, rfl, same_new hD2, upd_same, rfl⟩ (fun j σ ys H3 _ _ ⟨_, _, _, s3, e, _⟩ => ⟨SqT.of (s3 _ _ (s2 _ _ ht)), SqT.of (s3 _ _ (s2 _ _ hs)), e⟩) ?_ ?_⟩
      · rintro m x y σ ys H3 T' hx hy ⟨u1, u2, rfl, s3, e3, rfl⟩ hT
        obtain ⟨c, hc, rfl⟩ := int_of hx
        obtain ⟨d, hd, rfl⟩ := int_of hy
        have ml : m < tops.length := (List.getElem?_eq_some_iff.mp hc).1
        have nx : (newSides tops sides taken turn)[m]? = some (if c = taken then Builtin.bitXor d turn else d) := by unfold newSides; rw [List.getElem?_zipWith, hc, hd]
        have s4 := s3.trans (same_new (o := .tup [.int c, .int d]) hT)
        have T4 := upd_same (H := H3) (a := T') (o := .tup [.int c, .int d])
        have D4 := same_new (o := .tup [.int c, .int d]) hT _ _ e3
        generalize upd H3 T' (.tup [.int c, .int d]) = H4 at s4 T4 D4
        refine ⟨T', _, rfl, SqT.of T4, rfl, _, _, rfl, _, _, rfl, rfl, ?_⟩
        have ll : (((newSides tops sides taken turn).take m).map V.int).length ≤ 24 := by simp [newSides]; omega
        refine ⟨_, rfl, _, rfl, rfl, _, rfl, ite2 (fun g => ?_) fun g => ?_⟩
        · have g : c = taken := by simpa using g
          rw [if_pos g] at nx
          exact ⟨_, rfl, _, rfl, _, _, rfl, rfl, D4, small1000 (by omega), _, _, rfl, fun b o e => by rw [upd_ne (ne_of_none e hD2)]; exact s4 _ _ e, upd_same, by rw [List.take_add_one, nx]; simp⟩
        · have g : ¬ c = taken := by simpa using g
          rw [if_neg g] at nx
          exact ⟨_, rfl, D4, small1000 (by omega), _, _, rfl, fun b o e => by rw [upd_ne (ne_of_none e hD2)]; exact s4 _ _ e, upd_same, by rw [List.take_add_one, nx]; simp⟩
      rintro m σ ys H3 hm ⟨u1, u2, rfl, s3, e3, rfl⟩
      rw [List.take_of_length_le (by simp [newSides, hm])] at e3
      refine ⟨_, rfl, D1, _, rfl, .inl ⟨SqL.of (s3 _ _ e2), fun q hq => ⟨_, rfl, D2, _, rfl, .inl ⟨SqL.of (same_new hq _ _ e3), fun q2 hq2 => ⟨small (by simp), fun r hr' => ?_⟩⟩⟩⟩⟩
      exact k r q q2 _ (((s2.trans s3).trans (same_new hq)).trans ((same_new hq2).trans (same_new hr'))) upd_same (same_new hr' _ _ (same_new hq2 _ _ upd_same)) (same_new hr' _ _ upd_same)
    have gi := getD_at (ns := st.tops) (i := i) (by rw [ok.t]; exact hi)
    have gj := getD_at (ns := st.tops) (i := j) (by rw [ok.t]; exact hj)
    have si := getD_at (ns := st.sides) (i := i) (by rw [ok.s]; exact hi)
    have sj := getD_at (ns := st.sides) (i := j) (by rw [ok.s]; exact hj)
    refine ⟨_, rfl, _, rfl, t, _, _, _, rfl, rfl, SqT.of ht, gi, _, rfl, _, rfl, t, _, _, _, rfl, rfl, SqT.of ht, gj, small (by simp), fun p hp => ⟨p, _, rfl, SqT.of upd_same, rfl, _, _, rfl, _, _, rfl, rfl, ?_⟩⟩
    have s1 := same_new (o := .tup [.int (st.tops.getD i 0), .int (st.tops.getD j 0)]) hp
    generalize upd H p (.tup [.int (st.tops.getD i 0), .int (st.tops.getD j 0)]) = H1 at s1
    refine ⟨_, rfl, _, rfl, _, rfl, t, st.tops, _, _, rfl, s1 _ _ ht, _, rfl, ite2 (fun c => ?_) fun c => ?_⟩
    · have c : staysB st.tops (st.tops.getD i 0) (st.tops.getD j 0) = false := by simpa using c
      have ek : kt st.tops (st.tops.getD i 0) (st.tops.getD j 0) = (st.tops.getD j 0, st.tops.getD i 0) := by unfold kt; rw [c]; rfl
      rw [ek] at k
      refine ⟨_, rfl, _, rfl, small (by simp), fun p2 hp2 => ⟨p2, _, rfl, SqT.of upd_same, rfl, _, _, rfl, _, _, rfl, rfl, ?_⟩⟩
      have s2 := s1.trans (same_new (o := .tup [.int (st.tops.getD j 0), .int (st.tops.getD i 0)]) hp2)
      generalize upd H1 p2 (.tup [.int (st.tops.getD j 0), .int (st.tops.getD i 0)]) = H2 at s2
      refine ⟨_, rfl, _, rfl, s', _, _, _, rfl, rfl, SqT.of (s2 _ _ hs), si, _, rfl, _, rfl, s', _, _, _, rfl, rfl, SqT.of (s2 _ _ hs), sj, rfl, _, rfl, ite2 (fun g => ?_) fun g => ?_⟩
      · have g : st.sides.getD i 0 = st.sides.getD j 0 := by simpa using g
        have eg : turnOf (st.sides.getD i 0) (st.sides.getD j 0) = 1 := by unfold turnOf; rw [if_pos g]
        rw [eg] at k
        exact ⟨t, s', st.tops, st.sides, _, _, _, _, 1, n, rfl, s2 _ _ ht, s2 _ _ hs, ok.t, ok.s, ok.n2, fun r a b H' s3 => k r a b H' (s2.trans s3)⟩
      · have g : ¬ st.sides.getD i 0 = st.sides.getD j 0 := by simpa using g
        have eg : turnOf (st.sides.getD i 0) (st.sides.getD j 0) = 0 := by unfold turnOf; rw [if_neg g]
        rw [eg] at k
        exact ⟨t, s', st.tops, st.sides, _, _, _, _, 0, n, rfl, s2 _ _ ht, s2 _ _ hs, ok.t, ok.s, ok.n2, fun r a b H' s3 => k r a b H' (s2.trans s3)⟩
    · have c : staysB st.tops (st.tops.getD i 0) (st.tops.getD j 0) = true := by simpa using c
      have ek : kt st.tops (st.tops.getD i 0) (st.tops.getD j 0) = (st.tops.getD i 0, st.tops.getD j 0) := by unfold kt; rw [c]; rfl
      rw [ek] at k
      dsimp only [tNext]
      refine ⟨_, rfl, _, rfl, s', _, _, _, rfl, rfl, SqT.of (s1 _ _ hs), si, _, rfl, _, rfl, s', _, _, _, rfl, rfl, SqT.of (s1 _ _ hs), sj, rfl, _, rfl, ite2 (fun g => ?_) fun g => ?_⟩
      · have g : st.sides.getD i 0 = st.sides.getD j 0 := by simpa using g
        have eg : turnOf (st.sides.getD i 0) (st.sides.getD j 0) = 1 := by unfold turnOf; rw [if_pos g]
        rw [eg] at k
        exact ⟨t, s', st.tops, st.sides, _, _, _, _, 1, n, rfl, s1 _ _ ht, s1 _ _ hs, ok.t, ok.s, ok.n2, fun r a b H' s3 => k r a b H' (s1.trans s3)⟩
      · have g : ¬ st.sides.getD i 0 = st.sides.getD j 0 := by simpa using g
        have eg : turnOf (st.sides.getD i 0) (st.sides.getD j 0) = 0 := by unfold turnOf; rw [if_neg g]
        rw [eg] at k
        exact ⟨t, s', st.tops, st.sides, _, _, _, _, 0, n, rfl, s1 _ _ ht, s1 _ _ hs, ok.t, ok.s, ok.n2, fun r a b H' s3 => k r a b H' (s1.trans s3)⟩
end
end K20
set_option maxHeartbeats 4000000
namespace K20
open PySem L2 Wk
theorem tupS_same {H H' : Hp} (s : Same H H') : TupS H H' := fun b xs e => s _ _ e
theorem TkAt.same {C : Addr} {H H' : Hp} {x S : Addr} {sts : List S3} (h : TkAt C H x S sts) (s : Same H H') : TkAt C H' x S sts := by
  obtain ⟨⟨dx, e1⟩, ⟨rs, e2, e3⟩, l⟩ := h
  exact ⟨⟨dx, s _ _ e1⟩, ⟨rs, s _ _ e2, e3.tup (tupS_same s)⟩, l⟩
theorem at0 {x : V} {xs : List V} : atI (x :: xs) 0 = some x := atI_nat (j := 0) rfl
theorem at1 {x y : V} {xs : List V} : atI (x :: y :: xs) 1 = some y := atI_nat (j := 1) rfl
theorem at2 {x y z : V} {xs : List V} : atI (x :: y :: z :: xs) 2 = some z := atI_nat (j := 2) rfl
def tTailJ (C : Addr) : TS := fun D σ H => ∃ (x S a b : Addr) (sts : List S3) (nw : S3) (i j : Int) (bb : Bool), σ = [some (.ref x), some (.int i), some (.int j), some (.ref a), some (.ref b), some (.int nw.odds), some (.bl bb)] ∧ TkAt C H x S sts ∧ sts.length ≤ 160 ∧ H a = some (.tup (nw.tops.map V.int)) ∧ H b = some (.tup (nw.sides.map V.int)) ∧
  ∀ H', (∀ c o, H c = some o → c ≠ S → H' c = some o) → TkAt C H' x S (sts ++ [nw]) → D.rt (.bl bb) H'
section
variable {P : Program} {w : World} {K : PySem.W.Frag} {mg : Str → Option Value} {base : Heap} {C I N J B : Addr}
theorem scInit : FnScope ["self", "many"] ["self", "many"] (defScope sInit) := ⟨rfl, rfl, rfl, by decide +kernel, rfl, by decide +kernel, by decide +kernel⟩
theorem ok_Init {f : Addr} {fd : FuncData} (F : Fun K "__init__" "Takes.__init__" sInit f fd) (T : Txt K mg C I N J B) :
    FnOk P w K mg base CX0 1 f fd ["self", "many"] (spInit C) := by
  refine F.ok scInit (fun vs H Q E h => ?_) (fun cdv A outer s H vs Q E hr h => ?_)
  · obtain ⟨_, _, _, rfl, _⟩ := h; rfl
  · obtain ⟨x, dx, m, rfl, hx, m1, m2, k⟩ := h
    refine ⟨_, pss_one (ps_fld (pv 0) (pe_lst (pa_cons (pe_tup (pa_cons (pe_callTy (call_tuple_rng rfl) (by rfl) T.tuple (by decide +kernel) (pa_cons (pe_callTy call_range1 (by rfl) T.range (by decide +kernel) (pa_cons (pv 1) pa_nil)) pa_nil)) (pa_cons (pe_op op_repT2 (pe_tup (pa_cons pe_int pa_nil)) (pv 1)) (pa_cons pe_int pa_nil)))) pa_nil)) rfl), ?_⟩
    refine ⟨_, rfl, m, rfl, fun g hg => ⟨g, m, rfl, upd_same, by omega, by omega, fun a H1 s1 e1 => ?_⟩⟩
    have s1' := (same_new (o := .rng 0 m) hg).trans s1
    refine ⟨small (by simp), fun z hz => ⟨_, rfl, z, .int 0, m, rfl, rfl, upd_same, m1, by omega, fun b H2 s2 e2 => ⟨small (by simp), fun r hr' => ⟨small (by simp), fun S hS => ?_⟩⟩⟩⟩
    have sA := (s1'.trans (same_new (o := .tup [.int 0]) hz)).trans s2
    have sB := sA.trans (same_new (o := .tup [.ref a, .ref b, .int 0]) hr')
    have sC := sB.trans (same_new (o := .lst [.ref r]) hS)
    have eS := upd_same (H := upd H2 r (.tup [.ref a, .ref b, .int 0])) (a := S) (o := .lst [.ref r])
    have er := same_new (o := .lst [.ref r]) hS _ _ (upd_same (H := H2) (a := r) (o := .tup [.ref a, .ref b, .int 0]))
    have ea := same_new (o := .lst [.ref r]) hS _ _ (same_new (o := .tup [.ref a, .ref b, .int 0]) hr' _ _ (s2 _ _ (same_new (o := .tup [.int 0]) hz _ _ e1)))
    have eb := same_new (o := .lst [.ref r]) hS _ _ (same_new (o := .tup [.ref a, .ref b, .int 0]) hr' _ _ e2)
    have nS : H S = none := none_of sB hS
    generalize upd (upd H2 r (.tup [.ref a, .ref b, .int 0])) S (.lst [.ref r]) = H3 at sC eS er ea eb
    have x3 := sC _ _ hx
    have xS : x ≠ S := ne_of x3 eS (by intro z; cases z)
    have xr : x ≠ r := ne_of x3 er (by intro z; cases z)
    have xa : x ≠ a := ne_of x3 ea (by intro z; cases z)
    have xb : x ≠ b := ne_of x3 eb (by intro z; cases z)
    refine ⟨_, rfl, x, C, dx, [], rfl, x3, T.cl, T.nS, by simp, ?_⟩
    refine k S _ nS ⟨⟨dx, upd_same⟩, ⟨[r], by rw [upd_ne xS.symm]; exact eS, ⟨a, b, by rw [upd_ne xr.symm]; exact er, by rw [upd_ne xa.symm]; exact ea, by rw [upd_ne xb.symm, eb]; simp [start3]⟩, trivial⟩, by simp⟩ fun c o e n => by rw [upd_ne n]; exact sC _ _ e
theorem scShown : FnScope ["self"] ["self"] (defScope sShown) := ⟨rfl, rfl, rfl, by decide +kernel, rfl, by decide +kernel, by decide +kernel⟩
theorem ok_Shown {f : Addr} {fd : FuncData} (F : Fun K "shown" "Takes.shown" sShown f fd) (T : Txt K mg C I N J B) :
    FnOk P w K mg base CX0 1 f fd ["self"] (spShown C) := by
  refine F.ok scShown (fun vs H Q E h => ?_) (fun cdv A outer s H vs Q E hr h => ?_)
  · obtain ⟨_, _, _, _, rfl, _⟩ := h; rfl
  · obtain ⟨x, S, pre, st, rfl, hT, k⟩ := h
    refine ⟨_, pss_one (ps_ret (pe_ix ix_list (pe_fld (pv 0) rfl) (pe_un un_neg pe_int) (fun _ _ => rfl))), ?_⟩
    obtain ⟨⟨dx, e1⟩, ⟨rs, e2, e3⟩, l⟩ := id hT
    obtain ⟨rs', r, rfl, h1, h2⟩ := e3.last
    refine ⟨_, rfl, x, C, dx, _, _, rfl, e1, T.cl, T.nS, flds_at S, _, rfl, S, _, -1, _, rfl, rfl, SqL.of e2, ?_, k r h1⟩
    rw [List.map_append]
    exact at_last
theorem scTop : FnScope ["self", "place"] ["self", "place"] (defScope sTop) := ⟨rfl, rfl, rfl, by decide +kernel, rfl, by decide +kernel, by decide +kernel⟩
theorem ok_Top {f : Addr} {fd : FuncData} (F : Fun K "top" "Takes.top" sTop f fd) (T : Txt K mg C I N J B)
    {gShown : Addr} {fShown : FuncData} (bShown : Binds K fShown ["self"] []) (hShown : Meth K C "shown" gShown) (GShown : FnOk P w K mg base CX0 1 gShown fShown ["self"] (spShown C)) :
    FnOk P w K mg base CX0 2 f fd ["self", "place"] (spTop C) := by
  refine F.ok scTop (fun vs H Q E h => ?_) (fun cdv A outer s H vs Q E hr h => ?_)
  · obtain ⟨_, _, _, _, _, _, rfl, _⟩ := h; rfl
  · obtain ⟨x, S, pre, st, n, i, rfl, hT, ok, hi, k⟩ := h
    refine ⟨_, pss_one (ps_ret (pe_ix ix_tup (pe_ix ix_tup (pe_meth0 (pv 0) T.cl hShown GShown hr bShown .nil pass0) pe_int (fun _ _ => rfl)) (pv 1) (fun _ _ => rfl))), ?_⟩
    obtain ⟨⟨dx, e1⟩, _, _⟩ := id hT
    refine ⟨_, rfl, x, dx, _, rfl, e1, flds_no S (by decide +kernel), x, S, pre, st, rfl, hT, fun r hst => ?_⟩
    obtain ⟨a, b, h1, h2, h3⟩ := hst
    exact ⟨r, _, 0, _, rfl, rfl, SqT.of h1, at0, _, rfl, _, _, _, _, rfl, rfl, SqT.of h2, getD_at (by rw [ok.t]; exact hi), k⟩
theorem scSide : FnScope ["self", "place"] ["self", "place"] (defScope sSide) := ⟨rfl, rfl, rfl, by decide +kernel, rfl, by decide +kernel, by decide +kernel⟩
theorem ok_Side {f : Addr} {fd : FuncData} (F : Fun K "side" "Takes.side" sSide f fd) (T : Txt K mg C I N J B)
    {gShown : Addr} {fShown : FuncData} (bShown : Binds K fShown ["self"] []) (hShown : Meth K C "shown" gShown) (GShown : FnOk P w K mg base CX0 1 gShown fShown ["self"] (spShown C)) :
    FnOk P w K mg base CX0 2 f fd ["self", "place"] (spSide C) := by
  refine F.ok scSide (fun vs H Q E h => ?_) (fun cdv A outer s H vs Q E hr h => ?_)
  · obtain ⟨_, _, _, _, _, _, rfl, _⟩ := h; rfl
  · obtain ⟨x, S, pre, st, n, i, rfl, hT, ok, hi, k⟩ := h
    refine ⟨_, pss_one (ps_ret (pe_ix ix_tup (pe_ix ix_tup (pe_meth0 (pv 0) T.cl hShown GShown hr bShown .nil pass0) pe_int (fun _ _ => rfl)) (pv 1) (fun _ _ => rfl))), ?_⟩
    obtain ⟨⟨dx, e1⟩, _, _⟩ := id hT
    refine ⟨_, rfl, x, dx, _, rfl, e1, flds_no S (by decide +kernel), x, S, pre, st, rfl, hT, fun r hst => ?_⟩
    obtain ⟨a, b, h1, h2, h3⟩ := hst
    exact ⟨r, _, 1, _, rfl, rfl, SqT.of h1, at1, _, rfl, _, _, _, _, rfl, rfl, SqT.of h3, getD_at (by rw [ok.s]; exact hi), k⟩
theorem scOdd : FnScope ["self"] ["self"] (defScope sOdd) := ⟨rfl, rfl, rfl, by decide +kernel, rfl, by decide +kernel, by decide +kernel⟩
theorem ok_Odd {f : Addr} {fd : FuncData} (F : Fun K "odd" "Takes.odd" sOdd f fd) (T : Txt K mg C I N J B)
    {gShown : Addr} {fShown : FuncData} (bShown : Binds K fShown ["self"] []) (hShown : Meth K C "shown" gShown) (GShown : FnOk P w K mg base CX0 1 gShown fShown ["self"] (spShown C)) :
    FnOk P w K mg base CX0 2 f fd ["self"] (spOdd C) := by
  refine F.ok scOdd (fun vs H Q E h => ?_) (fun cdv A outer s H vs Q E hr h => ?_)
  · obtain ⟨_, _, _, _, rfl, _⟩ := h; rfl
  · obtain ⟨x, S, pre, st, rfl, hT, k⟩ := h
    refine ⟨_, pss_one (ps_ret (pe_ix ix_tup (pe_meth0 (pv 0) T.cl hShown GShown hr bShown .nil pass0) pe_int (fun _ _ => rfl))), ?_⟩
    obtain ⟨⟨dx, e1⟩, _, _⟩ := id hT
    refine ⟨_, rfl, x, dx, _, rfl, e1, flds_no S (by decide +kernel), x, S, pre, st, rfl, hT, fun r hst => ?_⟩
    obtain ⟨a, b, h1, h2, h3⟩ := hst
    exact ⟨r, _, 2, _, rfl, rfl, SqT.of h1, at2, k⟩
theorem scJoins : FnScope ["self"] ["self"] (defScope sJoins) := ⟨rfl, rfl, rfl, by decide +kernel, rfl, by decide +kernel, by decide +kernel⟩
theorem ok_Joins {f : Addr} {fd : FuncData} (F : Fun K "joins" "Takes.joins" sJoins f fd) (T : Txt K mg C I N J B) :
    FnOk P w K mg base CX0 1 f fd ["self"] (spJoins C) := by
  refine F.ok scJoins (fun vs H Q E h => ?_) (fun cdv A outer s H vs Q E hr h => ?_)
  · obtain ⟨_, _, _, rfl, _⟩ := h; rfl
  · obtain ⟨x, S, sts, rfl, hT, k⟩ := h
    refine ⟨_, pss_one (ps_ret (pe_op op_sub (pe_callB call_len_seq (by rfl) T.len PySem.boot_len (pa_cons (pe_fld (pv 0) rfl) pa_nil)) pe_int)), ?_⟩
    obtain ⟨⟨dx, e1⟩, ⟨rs, e2, e3⟩, l⟩ := id hT
    refine ⟨_, rfl, x, C, dx, _, _, rfl, e1, T.cl, T.nS, flds_at S, S, _, rfl, .inl (SqL.of e2), _, _, rfl, rfl, ?_⟩
    show Q (.int (((rs.map V.ref).length : Int) - 1)) H
    rw [List.length_map, e3.len]
    exact k
theorem scSize : FnScope ["self", "place"] ["self", "place"] (defScope sSize) := ⟨rfl, rfl, rfl, by decide +kernel, rfl, by decide +kernel, by decide +kernel⟩
theorem ok_Size {f : Addr} {fd : FuncData} (F : Fun K "size" "Takes.size" sSize f fd) (T : Txt K mg C I N J B)
    {gShown : Addr} {fShown : FuncData} (bShown : Binds K fShown ["self"] []) (hShown : Meth K C "shown" gShown) (GShown : FnOk P w K mg base CX0 2 gShown fShown ["self"] (spShown C))
    {gTop : Addr} {fTop : FuncData} (bTop : Binds K fTop ["self", "place"] []) (hTop : Meth K C "top" gTop) (GTop : FnOk P w K mg base CX0 2 gTop fTop ["self", "place"] (spTop C)) :
    FnOk P w K mg base CX0 3 f fd ["self", "place"] (spSize C) := by
  refine F.ok scSize (fun vs H Q E h => ?_) (fun cdv A outer s H vs Q E hr h => ?_)
  · obtain ⟨_, _, _, _, _, _, rfl, _⟩ := h; rfl
  · obtain ⟨x, S, pre, st, n, i, rfl, hT, ok, hi, k⟩ := h
    refine ⟨_, pss_one (ps_ret (pe_bm PySem.F.plainAttrs_tuple PySem.F.slot_tuple_count PySem.F.type_tuple_count mt_countT (pe_ix ix_tup (pe_meth0 (pv 0) T.cl hShown GShown hr bShown .nil pass0) pe_int (fun _ _ => rfl)) (pa_cons (pe_meth (pv 0) T.cl hTop GTop hr bTop .nil pass0 (pa_cons (pv 1) pa_nil)) pa_nil))), ?_⟩
    obtain ⟨⟨dx, e1⟩, _, _⟩ := id hT
    refine ⟨_, rfl, x, dx, _, rfl, e1, flds_no S (by decide +kernel), x, S, pre, st, rfl, hT, fun r hst => ?_⟩
    obtain ⟨a, b, h1, h2, h3⟩ := hst
    refine ⟨r, _, 0, _, rfl, rfl, SqT.of h1, at0, .inr (.inl ⟨rfl, .inr ⟨_, h2⟩⟩), _, rfl, x, dx, _, rfl, e1, flds_no S (by decide +kernel), _, rfl, x, S, pre, st, n, i, rfl, hT, ok, hi, ?_⟩
    exact ⟨a, st.tops, _, rfl, rfl, SqT.of h2, k⟩
theorem scParts : FnScope ["self"] ["self"] (defScope sParts) := ⟨rfl, rfl, rfl, by decide +kernel, rfl, by decide +kernel, by decide +kernel⟩
theorem ok_Parts {f : Addr} {fd : FuncData} (F : Fun K "parts" "Takes.parts" sParts f fd) (T : Txt K mg C I N J B)
    {gShown : Addr} {fShown : FuncData} (bShown : Binds K fShown ["self"] []) (hShown : Meth K C "shown" gShown) (GShown : FnOk P w K mg base CX0 1 gShown fShown ["self"] (spShown C)) :
    FnOk P w K mg base CX0 2 f fd ["self"] (spParts C) := by
  refine F.ok scParts (fun vs H Q E h => ?_) (fun cdv A outer s H vs Q E hr h => ?_)
  · obtain ⟨_, _, _, _, _, rfl, _⟩ := h; rfl
  · obtain ⟨x, S, pre, st, n, rfl, hT, ok, k⟩ := h
    refine ⟨_, pss_one (ps_ret (pe_callB call_len_seq (by rfl) T.len PySem.boot_len (pa_cons (pe_comp (T := ["place", "top"]) (F := []) (js := []) (CS.to (osc := defScope sParts) ⟨by rfl, by decide +kernel, by decide +kernel, by decide +kernel, by decide +kernel, by decide +kernel, by decide +kernel⟩ rfl rfl) rfl (pi_enumT rfl T.enumerate (pa_cons (pe_ix ix_tup (pe_meth0 (pv 0) T.cl hShown GShown hr bShown .nil pass0) pe_int (fun _ _ => rfl)) pa_nil)) (fun _ _ _ _ _ => pg_tupK K 2 rfl rfl (pgs_cons (pg_name (i := 0) (show (["place", "top"] : List Str).Nodup by decide +kernel) rfl (Or.inl rfl)) (pgs_cons (pg_name (i := 1) (show (["place", "top"] : List Str).Nodup by decide +kernel) rfl (Or.inl rfl)) pgs_nil))) (fun _ _ _ _ _ => pif_one (pt_cmpR op_eq (pv 1) (pv 0) (nomark _))) (fun _ _ _ _ _ => pv 0)) pa_nil))), ?_⟩
    obtain ⟨⟨dx, e1⟩, _, _⟩ := id hT
    refine ⟨_, rfl, x, dx, _, rfl, e1, flds_no S (by decide +kernel), x, S, pre, st, rfl, hT, fun r hst => ?_⟩
    obtain ⟨a, b, h1, h2, h3⟩ := hst
    refine ⟨r, _, 0, _, rfl, rfl, SqT.of h1, at0, a, _, rfl, SqT.of h2, fun D hD => comp_enumT (K := K) (a := a) (xs := st.tops.map V.int) (fun j σ ys H2 => ∃ u1 u2 : Option V, σ = [u1, u2] ∧ Same H H2 ∧ H2 D = some (.lst ys) ∧ ys = ((List.range j).filter fun p => decide (st.tops.getD p 0 = (p : Nat))).map fun p => V.int (p : Nat))
      ⟨none, none, rfl, same_new hD, upd_same, rfl⟩ (fun j σ ys H2 _ ⟨_, _, _, s2, e, _⟩ => ⟨SqT.of (s2 _ _ h2), e⟩) ?_ ?_⟩
    · rintro j v σ ys H2 T' hv ⟨u1, u2, rfl, s2, e2, rfl⟩ hT'
      obtain ⟨c, hc, rfl⟩ := int_of hv
      have jl : j < st.tops.length := (List.getElem?_eq_some_iff.mp hc).1
      have gd : st.tops.getD j 0 = c := by simp [List.getD, hc]
      have s4 := s2.trans (same_new (o := .tup [.int (j : Nat), .int c]) hT')
      have T4 := upd_same (H := H2) (a := T') (o := .tup [.int (j : Nat), .int c])
      have D4 := same_new (o := .tup [.int (j : Nat), .int c]) hT' _ _ e2
      generalize upd H2 T' (.tup [.int (j : Nat), .int c]) = H4 at s4 T4 D4
      refine ⟨T', _, rfl, SqT.of T4, rfl, _, _, rfl, _, _, rfl, rfl, ?_⟩
      have ll : (((List.range j).filter fun p => decide (st.tops.getD p 0 = (p : Nat))).map fun p => V.int ((p : Nat) : Int)).length ≤ 24 := by
        rw [List.length_map]
        refine Nat.le_trans (List.length_filter_le _ _) ?_
        have := ok.t
        have := ok.n2
        simp; omega
      refine ⟨_, rfl, _, rfl, rfl, _, rfl, ite2 (fun g => ?_) fun g => ?_⟩
      · have g : c = (j : Int) := by simpa using g
        refine ⟨_, rfl, D4, small1000 (by omega), _, _, rfl, fun b o e => by rw [upd_ne (ne_of_none e hD)]; exact s4 _ _ e, upd_same, ?_⟩
        rw [List.range_succ, List.filter_append, List.map_append]
        have f1 : List.filter (fun p => decide (st.tops.getD p 0 = ((p : Nat) : Int))) [j] = [j] := by rw [List.filter_cons, if_pos (by rw [gd, g]; simp)]; rfl
        rw [f1]
        rfl
      · have g : ¬ c = (j : Int) := by simpa using g
        refine ⟨_, _, rfl, s4, D4, ?_⟩
        rw [List.range_succ, List.filter_append, List.map_append]
        have f1 : List.filter (fun p => decide (st.tops.getD p 0 = ((p : Nat) : Int))) [j] = [] := by rw [List.filter_cons, if_neg (by rw [gd]; simpa using g)]; rfl
        rw [f1]
        simp
    rintro σ ys H2 ⟨u1, u2, rfl, s2, e2, rfl⟩
    refine ⟨D, _, rfl, .inl (SqL.of e2), ?_⟩
    show Q (.int _) H2
    rw [List.length_map, List.length_map]
    exact k H2 s2
theorem scJoin : FnScope ["self", "one", "other", "tops", "sides", "odds", "is_new"] ["self", "one", "other"] (defScope sJoin) := ⟨rfl, rfl, rfl, by decide +kernel, rfl, by decide +kernel, by decide +kernel⟩
theorem ok_Join {f : Addr} {fd : FuncData} (F : Fun K "join" "Takes.join" sJoin f fd) (T : Txt K mg C I N J B)
    {gShown : Addr} {fShown : FuncData} (bShown : Binds K fShown ["self"] []) (hShown : Meth K C "shown" gShown) (GShown : FnOk P w K mg base CX0 2 gShown fShown ["self"] (spShown C))
    {gJp : Addr} {fJp : FuncData} (kJp : PySem.W.keepIn K (.ref gJp) = true) (bJp : Binds K fJp ["tops", "sides", "one", "other"] []) (hJp : mg "joined_parts" = some (.ref gJp)) (GJp : FnOk P w K mg base CX0 2 gJp fJp ["tops", "sides", "one", "other"] (spJp K)) :
    FnOk P w K mg base CX0 3 f fd ["self", "one", "other"] (spJoin C) := by
  refine F.ok scJoin (fun vs H Q E h => ?_) (fun cdv A outer s H vs Q E hr h => ?_)
  · obtain ⟨_, _, _, _, _, _, _, rfl, _⟩ := h; rfl
  · obtain ⟨x, S, pre, st, n, i, j, rfl, hT, pl, ok, hi, hj, k⟩ := h
    refine ⟨_, pss_cons (ps_asg (pe_meth0 (pv 0) T.cl hShown GShown hr bShown .nil pass0) (pg_tup rfl (pgs_cons (pg_name (i := 3) scJoin.nd rfl (Or.inl rfl)) (pgs_cons (pg_name (i := 4) scJoin.nd rfl (Or.inl rfl)) (pgs_cons (pg_name (i := 5) scJoin.nd rfl (Or.inl rfl)) pgs_nil)))))
      (pss_cons (ps_set (i := 6) scJoin.nd rfl (Or.inl rfl) (pe_cmpR op_ne (pe_ix ix_tup (pv 3) (pv 1) (fun _ _ => rfl)) (pe_ix ix_tup (pv 3) (pv 2) (fun _ _ => rfl)) (nomark _)))
      (pss_cons (ps_if (pt_val (pv 6)) (pss_one (ps_asg (pe_call GJp hr rfl hJp kJp bJp .nil pass0 (pa_cons (pv 3) (pa_cons (pv 4) (pa_cons (pv 1) (pa_cons (pv 2) pa_nil))))) (pg_tup rfl (pgs_cons (pg_name (i := 3) scJoin.nd rfl (Or.inl rfl)) (pgs_cons (pg_name (i := 4) scJoin.nd rfl (Or.inl rfl)) pgs_nil))))) (pss_one (ps_if (pt_cmpR op_eq (pe_ix ix_tup (pv 4) (pv 1) (fun _ _ => rfl)) (pe_ix ix_tup (pv 4) (pv 2) (fun _ _ => rfl)) (nomark _)) (pss_one (ps_aug (i := 5) scJoin.nd rfl (Or.inl rfl) pe_int ip_add)) pss_nil)))
      (PSs.imp' (t' := tTailJ C) (pss_cons (ps_expr (pe_bm PySem.F.plainAttrs_list PySem.F.slot_list_append PySem.F.type_list_append mt_append (pe_fld (pv 0) rfl) (pa_cons (pe_tup (pa_cons (pv 3) (pa_cons (pv 4) (pa_cons (pv 5) pa_nil)))) pa_nil)))
      (pss_one (ps_ret (pv 6)))) ?tail))), ?_⟩
    case tail =>
      rintro D σ H ⟨x, S, a, b, sts, nw, i, j, bb, rfl, hT, sl, ha, hb, k⟩
      obtain ⟨⟨dx, e1⟩, ⟨rs, e2, e3⟩, l⟩ := id hT
      have rl := e3.len
      refine ⟨_, rfl, x, C, dx, _, _, rfl, e1, T.cl, T.nS, flds_at S, .inl ⟨rfl, _, SqL.of e2⟩, _, rfl, _, rfl, _, rfl, small (by simp), fun r hr' => ?_⟩
      have s1 := same_new (o := .tup [.ref a, .ref b, .int nw.odds]) hr'
      have r1 := upd_same (H := H) (a := r) (o := .tup [.ref a, .ref b, .int nw.odds])
      have S1 := s1 _ _ e2
      generalize upd H r (.tup [.ref a, .ref b, .int nw.odds]) = H1 at s1 r1 S1
      refine ⟨S, _, _, rfl, rfl, S1, small1000 (by simp; omega), ?_⟩
      have up : ∀ c o, H c = some o → c ≠ S → upd H1 S (.lst (rs.map V.ref ++ [.ref r])) c = some o := fun c o e nc => by rw [upd_ne nc]; exact s1 _ _ e
      have tup : TupS H1 (upd H1 S (.lst (rs.map V.ref ++ [.ref r]))) := fun c xs e => by rw [upd_ne (ne_of e S1 (by intro z; cases z))]; exact e
      refine ⟨_, rfl, k _ up ⟨⟨dx, up _ _ e1 (ne_of e1 e2 (by intro z; cases z))⟩, ⟨rs ++ [r], by rw [upd_same, List.map_append]; rfl, StsAt.snoc ⟨a, b, tup _ _ r1, tup _ _ (s1 _ _ ha), tup _ _ (s1 _ _ hb)⟩ ((e3.tup (tupS_same s1)).tup tup)⟩, by simp; omega⟩⟩
    obtain ⟨⟨dx, e1⟩, _, _⟩ := id hT
    refine ⟨_, rfl, x, dx, _, rfl, e1, flds_no S (by decide +kernel), x, S, pre, st, rfl, hT, fun r hst => ?_⟩
    obtain ⟨a, b, h1, h2, h3⟩ := id hst
    refine ⟨r, _, rfl, SqT.of h1, rfl, _, _, rfl, _, _, rfl, _, _, rfl, rfl, ?_⟩
    have gi := getD_at (ns := st.tops) (i := i) (by rw [ok.t]; exact hi)
    have gj := getD_at (ns := st.tops) (i := j) (by rw [ok.t]; exact hj)
    have si := getD_at (ns := st.sides) (i := i) (by rw [ok.s]; exact hi)
    have sj := getD_at (ns := st.sides) (i := j) (by rw [ok.s]; exact hj)
    refine ⟨_, rfl, _, rfl, a, _, _, _, rfl, rfl, SqT.of h2, gi, _, rfl, _, rfl, a, _, _, _, rfl, rfl, SqT.of h2, gj, rfl, ?_⟩
    by_cases hab : st.tops.getD i 0 = st.tops.getD j 0
    · have ej : joinS st i j = (⟨st.tops, st.sides, st.odds + turnOf (st.sides.getD i 0) (st.sides.getD j 0)⟩, false) := by unfold joinS; simp only; rw [if_pos hab]
      rw [ej] at k
      rw [hab, decide_eq_true rfl]
      refine ⟨_, rfl, false, rfl, iteF ?_⟩
      refine ⟨_, rfl, _, rfl, b, _, _, _, rfl, rfl, SqT.of h3, si, _, rfl, _, rfl, b, _, _, _, rfl, rfl, SqT.of h3, sj, rfl, _, rfl, ite2 (fun g => ?_) fun g => ?_⟩
      · have g : st.sides.getD i 0 = st.sides.getD j 0 := by simpa using g
        have eg : turnOf (st.sides.getD i 0) (st.sides.getD j 0) = 1 := by unfold turnOf; rw [if_pos g]
        rw [eg] at k
        exact ⟨_, rfl, _, _, rfl, rfl, x, S, a, b, _, ⟨st.tops, st.sides, st.odds + 1⟩, _, _, false, rfl, hT, by simp; omega, h2, h3, k⟩
      · have g : ¬ st.sides.getD i 0 = st.sides.getD j 0 := by simpa using g
        have eg : turnOf (st.sides.getD i 0) (st.sides.getD j 0) = 0 := by unfold turnOf; rw [if_neg g]
        rw [eg, Int.add_zero] at k
        exact ⟨x, S, a, b, _, ⟨st.tops, st.sides, st.odds⟩, _, _, false, rfl, hT, by simp; omega, h2, h3, k⟩
    · have ej : joinS st i j = (⟨newTops st.tops (kt st.tops (st.tops.getD i 0) (st.tops.getD j 0)).1 (kt st.tops (st.tops.getD i 0) (st.tops.getD j 0)).2, newSides st.tops st.sides (kt st.tops (st.tops.getD i 0) (st.tops.getD j 0)).2 (turnOf (st.sides.getD i 0) (st.sides.getD j 0)), st.odds⟩, true) := by unfold joinS; simp only; rw [if_neg hab]
      rw [ej] at k
      rw [decide_eq_false (show ¬ V.int (st.tops.getD i 0) = V.int (st.tops.getD j 0) by simpa using hab)]
      refine ⟨_, rfl, true, rfl, iteT ?_⟩
      refine ⟨_, rfl, _, rfl, _, rfl, _, rfl, a, b, st, n, i, j, rfl, h2, h3, ok, hi, hj, fun r2 a2 b2 H1 s1 g1 g2 g3 => ?_⟩
      refine ⟨r2, _, rfl, SqT.of g1, rfl, _, _, rfl, _, _, rfl, rfl, ?_⟩
      exact ⟨x, S, a2, b2, _, ⟨newTops st.tops (kt st.tops (st.tops.getD i 0) (st.tops.getD j 0)).1 (kt st.tops (st.tops.getD i 0) (st.tops.getD j 0)).2, newSides st.tops st.sides (kt st.tops (st.tops.getD i 0) (st.tops.getD j 0)).2 (turnOf (st.sides.getD i 0) (st.sides.getD j 0)), st.odds⟩, _, _, true, rfl, hT.same s1, by simp; omega, g2, g3, fun H' u T' => k H' (fun c o e nc => u c o (s1 _ _ e) nc) T'⟩
theorem scBack : FnScope ["self", "thing"] ["self", "thing"] (defScope sBack) := ⟨rfl, rfl, rfl, by decide +kernel, rfl, by decide +kernel, by decide +kernel⟩
theorem ok_Back {f : Addr} {fd : FuncData} (F : Fun K "back" "Takes.back" sBack f fd) (T : Txt K mg C I N J B)
    {gWithin : Addr} {fWithin : FuncData} (kWithin : PySem.W.keepIn K (.ref gWithin) = true) (bWithin : Binds K fWithin ["thing", "low", "high"] []) (hWithin : mg "is_within" = some (.ref gWithin)) (GWithin : FnOk P w K mg base CX0 2 gWithin fWithin ["thing", "low", "high"] spWithin)
    {gJoins : Addr} {fJoins : FuncData} (bJoins : Binds K fJoins ["self"] []) (hJoins : Meth K C "joins" gJoins) (GJoins : FnOk P w K mg base CX0 2 gJoins fJoins ["self"] (spJoins C)) :
    FnOk P w K mg base CX0 3 f fd ["self", "thing"] (spBack C) := by
  refine F.ok scBack (fun vs H Q E h => ?_) (fun cdv A outer s H vs Q E hr h => ?_)
  · obtain ⟨_, _, _, _, rfl, _⟩ := h; rfl
  · obtain ⟨x, S, sts, kk, rfl, hT, hk, k⟩ := h
    refine ⟨_, pss_cons (ps_if (pt_not (pt_val (pe_call GWithin hr rfl hWithin kWithin bWithin .nil pass0 (pa_cons (pv 1) (pa_cons pe_int (pa_cons (pe_meth0 (pv 0) T.cl hJoins GJoins hr bJoins .nil pass0) pa_nil)))))) (pss_one ps_never) pss_nil)
      (pss_one (ps_fld (pv 0) (pe_slice sl_list (pe_fld (pv 0) rfl) po_none (po_some (pe_op op_add (pv 1) pe_int))) rfl)), ?_⟩
    obtain ⟨⟨dx, e1⟩, ⟨rs, e2, e3⟩, l⟩ := id hT
    have rl := e3.len
    refine ⟨_, rfl, _, rfl, x, dx, _, rfl, e1, flds_no S (by decide +kernel), x, S, sts, rfl, hT, _, _, _, rfl, by omega, by omega, true, rfl, iteF ?_⟩
    dsimp only [tNext]
    refine ⟨_, rfl, x, C, dx, _, _, rfl, e1, T.cl, T.nS, flds_at S, _, rfl, _, _, rfl, rfl, _, rfl, S, _, rfl, SqL.of e2, fun p hp => ?_⟩
    have cut : cutV (rs.map V.ref) none (some ((kk : Int) + 1)) = (rs.take (kk + 1)).map V.ref := by
      unfold cutV
      simp only [HT.sIx, List.drop_zero, Nat.sub_zero]
      rw [if_neg (by omega), List.map_take, show min ((kk : Int) + 1).toNat (rs.map V.ref).length = kk + 1 by simp; omega]
    rw [cut]
    have s1 := same_new (o := .lst ((rs.take (kk + 1)).map V.ref)) hp
    have p1 := upd_same (H := H) (a := p) (o := .lst ((rs.take (kk + 1)).map V.ref))
    generalize upd H p (.lst ((rs.take (kk + 1)).map V.ref)) = H1 at s1 p1
    have x1 := s1 _ _ e1
    refine ⟨_, rfl, x, C, dx, _, rfl, x1, T.cl, T.nS, (show 1 < 1000 by decide), ?_⟩
    have tup : TupS H (upd H1 x (.ins C dx (flds p))) := fun c xs e => by rw [upd_ne (ne_of (s1 _ _ e) x1 (by intro z; cases z))]; exact s1 _ _ e
    rw [flds_put]
    exact k p _ hp (fun c o e nc => by rw [upd_ne nc]; exact s1 _ _ e) ⟨⟨dx, upd_same⟩, ⟨rs.take (kk + 1), by rw [upd_ne (ne_of p1 x1 (by intro z; cases z))]; exact p1, (e3.take _).tup tup⟩, by rw [List.length_take]; omega⟩
end
end K20
set_option maxHeartbeats 4000000
namespace K20
def hd (q : List Int) : Int := q.headD 0
structure Good (n : Nat) (qs : List (List Int)) (st : S3) : Prop where
  ok : Ok n st
  el : ∀ q ∈ qs, q ≠ [] ∧ ∀ p ∈ q, 0 ≤ p ∧ p < n ∧ st.tops.getD p.toNat 0 = hd q
  cov : ∀ p : Nat, p < n → ∃ q ∈ qs, (p : Int) ∈ q
  nd : (qs.map hd).Nodup
  cnt : ∀ q ∈ qs, st.tops.count (hd q) = q.length
  num : partsN st.tops = qs.length
  sd : ∀ s ∈ st.sides, s = 0 ∨ s = 1
  nq : ∀ q ∈ qs, q.Nodup
theorem hd_mem {q : List Int} (h : q ≠ []) : hd q ∈ q := by
  cases q with
  | nil => exact absurd rfl h
  | cons a q => exact List.mem_cons_self ..
theorem nodup_inj {α β : Type} {f : α → β} : ∀ {l : List α}, (l.map f).Nodup → ∀ {a b : α}, a ∈ l → b ∈ l → f a = f b → a = b
  | [], _, a, b, ha, _, _ => by cases ha
  | x :: l, h, a, b, ha, hb, e => by
    rw [List.map_cons, List.nodup_cons] at h
    rcases List.mem_cons.mp ha with e1 | ha'
    · rcases List.mem_cons.mp hb with e2 | hb'
      · rw [e1, e2]
      · exact absurd (show f x ∈ l.map f from List.mem_map.mpr ⟨b, hb', by rw [← e1, e]⟩) h.1
    · rcases List.mem_cons.mp hb with e2 | hb'
      · exact absurd (show f x ∈ l.map f from List.mem_map.mpr ⟨a, ha', by rw [← e2, e]⟩) h.1
      · exact nodup_inj h.2 ha' hb' e
theorem Good.same {n : Nat} {qs : List (List Int)} {st : S3} (g : Good n qs st) {q q' : List Int} {p : Int} (h : q ∈ qs) (h' : q' ∈ qs) (hp : p ∈ q) (hp' : p ∈ q') : q = q' :=
  nodup_inj g.nd h h' (((g.el q h).2 p hp).2.2.symm.trans ((g.el q' h').2 p hp').2.2)
theorem Good.top {n : Nat} {qs : List (List Int)} {st : S3} (g : Good n qs st) {q : List Int} {p : Int} (h : q ∈ qs) : p ∈ q ↔ 0 ≤ p ∧ p < n ∧ st.tops.getD p.toNat 0 = hd q := by
  refine ⟨(g.el q h).2 p, fun ⟨h0, h1, h2⟩ => ?_⟩
  obtain ⟨q', hq', hp⟩ := g.cov p.toNat (by omega)
  rw [show ((p.toNat : Nat) : Int) = p by omega] at hp
  have := ((g.el q' hq').2 p hp).2.2
  rw [h2] at this
  rw [nodup_inj g.nd h hq' this]
  exact hp
theorem count_new (tops : List Int) {kept taken h : Int} (hn : kept ≠ taken) : (newTops tops kept taken).count h = if h = kept then tops.count kept + tops.count taken else if h = taken then 0 else tops.count h := by
  induction tops with
  | nil => simp [newTops]
  | cons t tops ih =>
    unfold newTops at ih ⊢
    rw [List.map_cons, List.count_cons, ih]
    simp only [List.count_cons]
    by_cases e1 : t = taken
    · subst e1
      by_cases e2 : h = kept
      · subst e2; simp [hn.symm]; omega
      · by_cases e3 : h = t
        · subst e3; simp [e2, hn]
        · simp [e2, e3, Ne.symm e2, Ne.symm e3]
    · by_cases e2 : h = kept
      · subst e2
        by_cases e4 : t = h
        · subst e4; simp [e1]; omega
        · simp [e1, e4]
      · by_cases e3 : h = taken
        · subst e3; simp [e1, e2]
        · by_cases e4 : t = h
          · subst e4; simp [e1, e2]
          · simp [e1, e2, e3, e4]
theorem getD_new (tops : List Int) (kept taken : Int) {p : Nat} (h : p < tops.length) : (newTops tops kept taken).getD p 0 = if tops.getD p 0 = taken then kept else tops.getD p 0 := by
  unfold newTops
  simp [List.getD, h]
theorem parts_new (tops : List Int) {kept taken : Int} {k t : Nat} (hk : kept = (k : Int)) (ht : taken = (t : Int)) (kl : k < tops.length) (tl : t < tops.length) (hkk : tops.getD k 0 = kept) (htt : tops.getD t 0 = taken) (hn : kept ≠ taken) :
    partsN (newTops tops kept taken) + 1 = partsN tops := by
  unfold partsN
  have len : (newTops tops kept taken).length = tops.length := by simp [newTops]
  rw [len]
  have e : (List.range tops.length).filter (fun p => decide ((newTops tops kept taken).getD p 0 = ((p : Nat) : Int))) = ((List.range tops.length).filter (fun p => decide (tops.getD p 0 = ((p : Nat) : Int)))).filter (· != t) := by
    rw [List.filter_filter]
    refine List.filter_congr fun p hp => ?_
    have hp := List.mem_range.mp hp
    rw [getD_new tops kept taken hp, Bool.eq_iff_iff]
    simp only [decide_eq_true_eq, Bool.and_eq_true, bne_iff_ne, ne_eq]
    by_cases c : tops.getD p 0 = taken
    · rw [if_pos c, c]
      constructor
      · intro q
        exfalso
        have : p = k := by omega
        subst this
        rw [hkk] at c
        exact hn c
      · rintro ⟨h1, h2⟩
        exfalso
        exact h1 (by omega)
    · rw [if_neg c]
      constructor
      · intro q
        exact ⟨fun z => by subst z; exact c htt, q⟩
      · exact fun q => q.2
  rw [e, ← List.Nodup.erase_eq_filter (List.Pairwise.filter _ List.nodup_range), List.length_erase_of_mem (List.mem_filter.mpr ⟨List.mem_range.mpr tl, by rw [htt, ht]; simp⟩)]
  have : 0 < ((List.range tops.length).filter (fun p => decide (tops.getD p 0 = ((p : Nat) : Int)))).length := List.length_pos_of_mem (a := t) (List.mem_filter.mpr ⟨List.mem_range.mpr tl, by rw [htt, ht]; simp⟩)
  omega
theorem Good.join {n : Nat} {qs qs' : List (List Int)} {st : S3} {qk qt : List Int} {turn : Int} (g : Good n qs st) (hk : qk ∈ qs) (ht : qt ∈ qs) (hne : qk ≠ qt) (tu : turn = 0 ∨ turn = 1)
    (a1 : ∀ q ∈ qs', q = qk ++ qt ∨ (q ∈ qs ∧ q ≠ qk ∧ q ≠ qt)) (a2 : qk ++ qt ∈ qs') (a3 : ∀ q ∈ qs, q ≠ qk → q ≠ qt → q ∈ qs') (a4 : (qs'.map hd).Nodup) (a5 : qs'.length + 1 = qs.length) :
    Good n qs' ⟨newTops st.tops (hd qk) (hd qt), newSides st.tops st.sides (hd qt) turn, st.odds⟩ := by
  have hkn := (g.el qk hk).1
  have htn := (g.el qt ht).1
  have hh : hd qk ≠ hd qt := fun e => hne (nodup_inj g.nd hk ht e)
  have hda : hd (qk ++ qt) = hd qk := by
    cases qk with
    | nil => exact absurd rfl hkn
    | cons a q => rfl
  have pk := (g.el qk hk).2 _ (hd_mem hkn)
  have pt := (g.el qt ht).2 _ (hd_mem htn)
  refine ⟨⟨by simp [newTops, g.ok.t], by simp [newSides, g.ok.t, g.ok.s], g.ok.n1, g.ok.n2⟩, fun q hq => ?_, fun p hp => ?_, a4, fun q hq => ?_, ?_, fun s hs => ?_, fun q hq => ?_⟩
  · rcases a1 q hq with rfl | ⟨h1, h2, h3⟩
    · refine ⟨by simp [hkn], fun p hp => ?_⟩
      rw [hda]
      rcases List.mem_append.mp hp with hp | hp
      · obtain ⟨b0, b1, b2⟩ := (g.el qk hk).2 p hp
        refine ⟨b0, b1, ?_⟩
        show (newTops st.tops (hd qk) (hd qt)).getD p.toNat 0 = _
        rw [getD_new _ _ _ (by rw [g.ok.t]; omega), b2, if_neg hh]
      · obtain ⟨b0, b1, b2⟩ := (g.el qt ht).2 p hp
        refine ⟨b0, b1, ?_⟩
        show (newTops st.tops (hd qk) (hd qt)).getD p.toNat 0 = _
        rw [getD_new _ _ _ (by rw [g.ok.t]; omega), b2, if_pos rfl]
    · refine ⟨(g.el q h1).1, fun p hp => ?_⟩
      obtain ⟨b0, b1, b2⟩ := (g.el q h1).2 p hp
      refine ⟨b0, b1, ?_⟩
      show (newTops st.tops (hd qk) (hd qt)).getD p.toNat 0 = _
      rw [getD_new _ _ _ (by rw [g.ok.t]; omega), b2, if_neg fun e => h3 (nodup_inj g.nd h1 ht e)]
  · obtain ⟨q, hq, hp⟩ := g.cov p hp
    by_cases e1 : q = qk
    · exact ⟨_, a2, List.mem_append_left _ (e1 ▸ hp)⟩
    · by_cases e2 : q = qt
      · exact ⟨_, a2, List.mem_append_right _ (e2 ▸ hp)⟩
      · exact ⟨q, a3 q hq e1 e2, hp⟩
  · show (newTops st.tops (hd qk) (hd qt)).count (hd q) = _
    rw [count_new _ hh]
    rcases a1 q hq with rfl | ⟨h1, h2, h3⟩
    · rw [hda, if_pos rfl, g.cnt qk hk, g.cnt qt ht, List.length_append]
    · rw [if_neg fun e => h2 (nodup_inj g.nd h1 hk e), if_neg fun e => h3 (nodup_inj g.nd h1 ht e), g.cnt q h1]
  · show partsN (newTops st.tops (hd qk) (hd qt)) = _
    have := parts_new st.tops (kept := hd qk) (taken := hd qt) (k := (hd qk).toNat) (t := (hd qt).toNat) (by omega) (by omega) (by rw [g.ok.t]; omega) (by rw [g.ok.t]; omega) pk.2.2 pt.2.2 hh
    have := g.num
    omega
  · have hs : s ∈ newSides st.tops st.sides (hd qt) turn := hs
    unfold newSides at hs
    rw [List.zipWith_eq_zipWith_take_min] at hs
    obtain ⟨⟨t, s'⟩, h1, rfl⟩ := List.mem_map.mp (show s ∈ (List.zip _ _).map (fun x => if x.1 = hd qt then PySem.Builtin.bitXor x.2 turn else x.2) by rw [List.zip, List.map_zipWith]; exact hs)
    have hs' := g.sd s' (List.mem_of_mem_take (List.of_mem_zip h1).2)
    dsimp only
    split
    · rcases hs' with rfl | rfl <;> rcases tu with rfl | rfl <;> decide
    · exact hs'
  · rcases a1 q hq with rfl | ⟨h1, h2, h3⟩
    · refine List.nodup_append.mpr ⟨g.nq qk hk, g.nq qt ht, fun a ha b hb e => ?_⟩
      subst e
      exact hne (g.same hk ht ha hb)
    · exact g.nq q h1
theorem xor01 {s t : Int} (hs : s = 0 ∨ s = 1) : PySem.Builtin.bitXor s 1 = 1 - s ∧ PySem.Builtin.bitXor s 0 = s := by
  rcases hs with rfl | rfl <;> decide
end K20
set_option maxHeartbeats 4000000
namespace L2
open PySem
def rIsiK (K : PySem.W.Frag) : List V → Hp → VK → Prop := fun xs H Q => ∃ (x : V) (t : Value) (c : String) (b : Bool), xs = [x, .ty c] ∧ TyOf K H x t ∧ PySem.W.kitOne K t (.type c) = some b ∧ Q (.bl b) H
end L2
namespace K20
open PySem L2
def DeckAt (H : Hp) (a : Addr) (n : Nat) : Prop := ∃ A B k : Int, H a = some (.lst [.int A, .int B, .int k]) ∧ 0 ≤ k ∧ k ≤ (n : Int)
def But (a : Addr) (H H' : Hp) : Prop := ∀ b o, H b = some o → b ≠ a → H' b = some o
theorem But.trans {a : Addr} {H H1 H2 : Hp} (h : But a H H1) (h' : But a H1 H2) : But a H H2 := fun b o e n => h' b o (h b o e n) n
theorem DeckAt.ne {H : Hp} {a b : Addr} {n : Nat} (h : DeckAt H a n) (hb : H b = none) : b ≠ a := by
  obtain ⟨_, _, _, h, _⟩ := h
  exact (ne_of_none h hb).symm
theorem DeckAt.same {H H' : Hp} {a : Addr} {n : Nat} (h : DeckAt H a n) (s : Same H H') : DeckAt H' a n := by
  obtain ⟨A, B, k, h, r⟩ := h
  exact ⟨A, B, k, s _ _ h, r⟩
theorem DeckAt.mono {H : Hp} {a : Addr} {n m : Nat} (h : DeckAt H a n) (hm : n ≤ m) : DeckAt H a m := by
  obtain ⟨A, B, k, h, r, q⟩ := h
  exact ⟨A, B, k, h, r, by omega⟩
def kvs3 (P Sd : Addr) (odd : Int) : List (Key × V) := [(.inr "parts", .ref P), (.inr "sides", .ref Sd), (.inr "odd", .int odd)]
structure ModelAt (H : Hp) (d P Sd : Addr) (ps : List (Addr × List Int)) (sides : List Int) (odd : Int) : Prop where
  d : H d = some (.dK (kvs3 P Sd odd))
  p : H P = some (.lst (ps.map fun p => V.ref p.1))
  s : H Sd = some (.lst (sides.map V.int))
  e : ∀ p ∈ ps, H p.1 = some (.lst (p.2.map V.int))
  n : (P :: Sd :: ps.map (·.1)).Nodup
theorem ModelAt.same {H H' : Hp} {d P Sd : Addr} {ps : List (Addr × List Int)} {sides : List Int} {odd : Int} (h : ModelAt H d P Sd ps sides odd) (s : Same H H') : ModelAt H' d P Sd ps sides odd := ⟨s _ _ h.d, s _ _ h.p, s _ _ h.s, fun p hp => s _ _ (h.e p hp), h.n⟩
theorem get_parts (P Sd : Addr) (odd : Int) : valV (kvs3 P Sd odd) (.inr "parts") = some (.ref P) := by
  unfold kvs3
  rfl
theorem get_sides (P Sd : Addr) (odd : Int) : valV (kvs3 P Sd odd) (.inr "sides") = some (.ref Sd) := by
  unfold kvs3
  rfl
theorem get_odd (P Sd : Addr) (odd : Int) : valV (kvs3 P Sd odd) (.inr "odd") = some (.int odd) := by
  unfold kvs3
  rfl
theorem put_odd (P Sd : Addr) (odd z : Int) : putK (kvs3 P Sd odd) (.inr "odd") (.int z) = kvs3 P Sd z := by
  unfold kvs3
  rfl
def spCell (K : PySem.W.Frag) : Sp := fun vs H Q _ => ∃ (s : Addr) (ns : List Int) (k : Nat), vs = [.ref s, .int (k : Nat)] ∧ SqL K H s (ns.map V.int) ∧ ∀ v, Q (.int v) H
def spOpen : Sp := fun vs H Q _ => ∃ c : Int, vs = [.int c] ∧ ∀ (a : Addr) (H' : Hp), Same H H' → H a = none → DeckAt H' a 0 → Q (.ref a) H'
def spDraw : Sp := fun vs H Q _ => ∃ (a : Addr) (n : Nat) (m : Int), vs = [.ref a, .int m] ∧ DeckAt H a n ∧ n ≤ 1000000 ∧ 0 < m ∧ m < 1000000 ∧ ∀ (v : Int) (H' : Hp), 0 ≤ v → v < m → But a H H' → DeckAt H' a (n + 1) → Q (.int v) H'
def spRare : Sp := fun vs H Q _ => ∃ (a : Addr) (n : Nat) (o g : Int), vs = [.ref a, .int o, .int g] ∧ DeckAt H a n ∧ n ≤ 100000 ∧ ∀ (v : Int) (H' : Hp), (v = o ∨ v = g) → But a H H' → DeckAt H' a (n + 1) → Q (.int v) H'
def spTwo : Sp := fun vs H Q _ => ∃ (a : Addr) (n : Nat) (m : Int), vs = [.ref a, .int m] ∧ DeckAt H a n ∧ n ≤ 100000 ∧ 2 ≤ m ∧ m ≤ 24 ∧ ∀ (p : Addr) (i j : Nat) (H' : Hp), But a H H' → DeckAt H' a (n + 2) → H' p = some (.tup [.int (i : Nat), .int (j : Nat)]) → (i : Int) < m → (j : Int) < m → Q (.ref p) H'
def spWholes : Sp := fun vs H Q _ => ∃ (l : Addr) (ns : List Int), vs = [.ref l] ∧ H l = some (.lst (ns.map V.int)) ∧ ∀ H', Same H H' → Q (.bl true) H'
section
variable {P : Program} {w : World} {K : PySem.W.Frag} {mg : Str → Option Value} {base : Heap} {C I N J B : Addr}
theorem scCell : FnScope ["_law_script", "_law_k"] ["_law_script", "_law_k"] (defScope sCell) := ⟨rfl, rfl, rfl, by decide +kernel, rfl, by decide +kernel, by decide +kernel⟩
theorem ok_Cell {f : Addr} {fd : FuncData} (F : Fun K "_law_cell_at" "_law_cell_at" sCell f fd) (T : Txt K mg C I N J B) :
    FnOk P w K mg base CX0 1 f fd ["_law_script", "_law_k"] (spCell K) := by
  refine F.ok scCell (fun vs H Q E h => ?_) (fun cdv A outer s H vs Q E hr h => ?_)
  · obtain ⟨_, _, _, rfl, _⟩ := h; rfl
  · obtain ⟨sa, ns, j, rfl, hS, k⟩ := h
    refine ⟨_, pss_cons (ps_if (pt_cmpR op_lt (pv 1) (pe_callB call_len_seq (by rfl) T.len PySem.boot_len (pa_cons (pv 0) pa_nil)) (nomark _)) (pss_one (ps_ret (pe_ix ix_list (pv 0) (pv 1) (fun _ _ => rfl)))) pss_nil)
      (pss_one (ps_ret (pe_op op_add (pe_op op_mul pe_int (pv 1)) pe_int))), ?_⟩
    refine ⟨_, rfl, _, rfl, sa, _, rfl, .inl hS, _, _, rfl, rfl, _, rfl, ite2 (fun c => ?_) fun c => ?_⟩
    · have c : j < ns.length := by simpa using c
      exact ⟨_, rfl, _, rfl, sa, _, _, .int ns[j], rfl, rfl, hS, atI_nat (by simp [c]), k _⟩
    · exact ⟨_, rfl, _, _, rfl, rfl, .inl ⟨by decide, by decide⟩, _, _, rfl, rfl, k _⟩
theorem scOpen : FnScope ["_law_cell"] ["_law_cell"] (defScope sOpen) := ⟨rfl, rfl, rfl, by decide +kernel, rfl, by decide +kernel, by decide +kernel⟩
theorem ok_Open {f : Addr} {fd : FuncData} (F : Fun K "_law_opened" "_law_opened" sOpen f fd) (T : Txt K mg C I N J B) :
    FnOk P w K mg base CX0 1 f fd ["_law_cell"] spOpen := by
  refine F.ok scOpen (fun vs H Q E h => ?_) (fun cdv A outer s H vs Q E hr h => ?_)
  · obtain ⟨_, rfl, _⟩ := h; rfl
  · obtain ⟨c, rfl, k⟩ := h
    refine ⟨_, pss_one (ps_ret (pe_lst (pa_cons (pe_ix ix_list (pe_lst (pa_cons pe_int (pa_cons (pv 0) pa_nil))) (pe_callTy call_int1 (by rfl) T.int (by decide +kernel) (pa_cons (pe_cmpR op_ge (pv 0) (pe_op op_pow pe_int pe_int) (nomark _)) pa_nil)) (fun _ _ => rfl)) (pa_cons (pe_op op_mod (pv 0) pe_int) (pa_cons pe_int pa_nil))))), ?_⟩
    refine ⟨_, rfl, small (by simp), fun q hq => ⟨_, rfl, _, _, rfl, rfl, ⟨by decide, by decide, by decide⟩, _, _, rfl, rfl, .inr ⟨_, rfl, ?_⟩⟩⟩
    have s1 := same_new (o := .lst [.int 0, .int c]) hq
    by_cases g : (10 : Int) ^ (18 : Int).toNat ≤ c
    · rw [decide_eq_true g]
      refine ⟨q, _, 1, _, rfl, rfl, SqL.of upd_same, at1, _, rfl, _, _, rfl, rfl, (by show (0 : Int) < 2147483629; decide), small (by simp), fun a ha => ?_⟩
      exact k a _ (s1.trans (same_new ha)) (none_of s1 ha) ⟨_, _, _, upd_same, by decide, by decide⟩
    · rw [decide_eq_false g]
      refine ⟨q, _, 0, _, rfl, rfl, SqL.of upd_same, at0, _, rfl, _, _, rfl, rfl, (by show (0 : Int) < 2147483629; decide), small (by simp), fun a ha => ?_⟩
      exact k a _ (s1.trans (same_new ha)) (none_of s1 ha) ⟨_, _, _, upd_same, by decide, by decide⟩
theorem scDraw : FnScope ["_law_deck", "_law_most", "_law_got", "_law_number"] ["_law_deck", "_law_most"] (defScope sDraw) := ⟨rfl, rfl, rfl, by decide +kernel, rfl, by decide +kernel, by decide +kernel⟩
theorem ok_Draw {f : Addr} {fd : FuncData} (F : Fun K "_law_draw" "_law_draw" sDraw f fd) (T : Txt K mg C I N J B) :
    FnOk P w K mg base CX0 1 f fd ["_law_deck", "_law_most"] spDraw := by
  refine F.ok scDraw (fun vs H Q E h => ?_) (fun cdv A outer s H vs Q E hr h => ?_)
  · obtain ⟨_, _, _, rfl, _⟩ := h; rfl
  · obtain ⟨a, n, m, rfl, ⟨A0, B0, k0, ha, p0, p1⟩, hn, m0, m1, k⟩ := h
    refine ⟨_, pss_cons (ps_if (pt_cmpR op_gt (pe_ix ix_list (pv 0) pe_int (fun _ _ => rfl)) pe_int (nomark _)) (pss_cons (ps_set (i := 2) scDraw.nd rfl (Or.inl rfl) (pe_op op_mod (pe_ix ix_list (pv 0) pe_int (fun _ _ => rfl)) (pv 1)))
      (pss_cons (ps_asg (pe_op op_fdiv (pe_ix ix_list (pv 0) pe_int (fun _ _ => rfl)) (pv 1)) (pg_sub (pv 0) (pe_int) set_list))
      (pss_one (ps_ret (pv 2))))) pss_nil)
      (pss_cons (ps_asg (pe_op op_add (pe_ix ix_list (pv 0) pe_int (fun _ _ => rfl)) pe_int) (pg_sub (pv 0) (pe_int) set_list))
      (pss_cons (ps_set (i := 3) scDraw.nd rfl (Or.inl rfl) (pe_op op_mod (pe_op op_mul (pe_op op_add (pe_ix ix_list (pv 0) pe_int (fun _ _ => rfl)) (pe_op op_mul (pe_op op_mul pe_int (pe_ix ix_list (pv 0) pe_int (fun _ _ => rfl))) (pe_ix ix_list (pv 0) pe_int (fun _ _ => rfl)))) pe_int) pe_int))
      (pss_cons (ps_set (i := 3) scDraw.nd rfl (Or.inl rfl) (pe_op op_mod (pe_op op_add (pe_op op_add (pe_op op_mul (pv 3) (pv 3)) (pe_op op_mul pe_int (pv 3))) pe_int) pe_int))
      (pss_one (ps_ret (pe_op op_mod (pe_op op_fdiv (pe_op op_mod (pe_op op_mul (pv 3) pe_int) pe_int) pe_int) (pv 1))))))), ?_⟩
    refine ⟨_, rfl, a, _, 0, _, rfl, rfl, SqL.of ha, rfl, _, _, rfl, rfl, _, rfl, ?_⟩
    refine ite2 (fun c => ?_) (fun c => ?_)
    · refine ⟨_, rfl, a, _, 0, _, rfl, rfl, SqL.of ha, rfl, _, rfl, _, _, rfl, rfl, m0, ?_⟩
      refine ⟨_, rfl, a, _, 0, _, rfl, rfl, SqL.of ha, rfl, _, rfl, _, _, rfl, rfl, ⟨m0, by omega⟩, _, rfl, a, _, 0, 0, rfl, rfl, ha, rfl, ?_⟩
      refine ⟨_, rfl, k _ _ (Int.emod_nonneg _ (by omega)) (Int.emod_lt_of_pos _ m0) (fun b o e nb => by rw [upd_ne nb]; exact e) ⟨_, _, _, upd_same, p0, by omega⟩⟩
    · dsimp only [tNext]
      refine ⟨_, rfl, a, _, 2, _, rfl, rfl, SqL.of ha, rfl, _, _, rfl, rfl, _, rfl, a, _, 2, 2, rfl, rfl, ha, rfl, ?_⟩
      generalize hH1 : upd H a _ = H1
      have ha1 : H1 a = some (.lst [.int A0, .int B0, .int (k0 + 1)]) := by rw [← hH1]; exact upd_same
      have bt : But a H H1 := fun b o e nb => by rw [← hH1, upd_ne nb]; exact e
      refine ⟨_, rfl, a, _, 1, _, rfl, rfl, SqL.of ha1, rfl, _, rfl, a, _, 2, _, rfl, rfl, SqL.of ha1, rfl, _, _, rfl, rfl, .inl ⟨by decide, by decide⟩, _, rfl, a, _, 2, _, rfl, rfl, SqL.of ha1, rfl, _, _, rfl, rfl, .inr ⟨by omega, by omega⟩, _, _, rfl, rfl, _, _, rfl, rfl, .inr ⟨by decide, by decide⟩, _, _, rfl, rfl, (by show (0 : Int) < 2147483647; decide), ?_⟩
      generalize (B0 + 7919 * (k0 + 1) * (k0 + 1)) * 48271 = z1
      have y0 := Int.emod_nonneg z1 (show (2147483647 : Int) ≠ 0 by decide)
      have y1 := Int.emod_lt_of_pos z1 (show (0 : Int) < 2147483647 by decide)
      generalize z1 % 2147483647 = z2 at y0 y1
      refine ⟨_, rfl, _, rfl, _, _, rfl, rfl, .inl ⟨by omega, by omega⟩, _, rfl, _, _, rfl, rfl, .inl ⟨by decide, by decide⟩, _, _, rfl, rfl, _, _, rfl, rfl, _, _, rfl, rfl, (by show (0 : Int) < 2147483587; decide), ?_⟩
      generalize (z2 * z2 + 69621 * z2 + 17) % 2147483587 = z3
      refine ⟨_, rfl, _, _, rfl, rfl, .inr ⟨by decide, by decide⟩, _, _, rfl, rfl, (by show (0 : Int) < 2147483629; decide), _, _, rfl, rfl, ⟨by decide, by decide⟩, _, rfl, _, _, rfl, rfl, m0, ?_⟩
      exact k _ _ (Int.emod_nonneg _ (by omega)) (Int.emod_lt_of_pos _ m0) bt ⟨_, _, _, ha1, by omega, by push_cast; omega⟩
theorem scRare : FnScope ["_law_deck", "_law_often", "_law_great"] ["_law_deck", "_law_often", "_law_great"] (defScope sRare) := ⟨rfl, rfl, rfl, by decide +kernel, rfl, by decide +kernel, by decide +kernel⟩
theorem ok_Rare {f : Addr} {fd : FuncData} (F : Fun K "_law_rare" "_law_rare" sRare f fd) (T : Txt K mg C I N J B)
    {gDraw : Addr} {fDraw : FuncData} (kDraw : PySem.W.keepIn K (.ref gDraw) = true) (bDraw : Binds K fDraw ["_law_deck", "_law_most"] []) (hDraw : mg "_law_draw" = some (.ref gDraw)) (GDraw : FnOk P w K mg base CX0 1 gDraw fDraw ["_law_deck", "_law_most"] spDraw) :
    FnOk P w K mg base CX0 2 f fd ["_law_deck", "_law_often", "_law_great"] spRare := by
  refine F.ok scRare (fun vs H Q E h => ?_) (fun cdv A outer s H vs Q E hr h => ?_)
  · obtain ⟨_, _, _, _, rfl, _⟩ := h; rfl
  · obtain ⟨a, n, o, g, rfl, hD, hn, k⟩ := h
    refine ⟨_, pss_one (ps_ret (pe_ix ix_list (pe_lst (pa_cons (pv 1) (pa_cons (pv 2) pa_nil))) (pe_callTy call_int1 (by rfl) T.int (by decide +kernel) (pa_cons (pe_cmpR op_eq (pe_call GDraw hr rfl hDraw kDraw bDraw .nil pass0 (pa_cons (pv 0) (pa_cons pe_int pa_nil))) pe_int (nomark _)) pa_nil)) (fun _ _ => rfl))), ?_⟩
    refine ⟨_, rfl, _, rfl, small (by simp), fun q hq => ?_⟩
    have s1 := same_new (o := .lst [.int o, .int g]) hq
    have q1 := upd_same (H := H) (a := q) (o := .lst [.int o, .int g])
    have qa := hD.ne hq
    generalize upd H q (.lst [.int o, .int g]) = H1 at s1 q1
    refine ⟨_, rfl, a, n, 8, rfl, hD.same s1, by omega, by decide, by decide, fun v H2 v0 v1 b2 D2 => ⟨rfl, .inr ⟨_, rfl, ?_⟩⟩⟩
    have q2 := b2 _ _ q1 qa
    have bb : But a H H2 := fun b o e nb => b2 _ _ (s1 _ _ e) nb
    by_cases c : v = 5
    · subst c
      rw [decide_eq_true rfl]
      exact ⟨q, _, 1, _, rfl, rfl, SqL.of q2, at1, k _ _ (.inr rfl) bb D2⟩
    · rw [decide_eq_false (show ¬ V.int v = V.int 5 by simpa using c)]
      exact ⟨q, _, 0, _, rfl, rfl, SqL.of q2, at0, k _ _ (.inl rfl) bb D2⟩
theorem scTwo : FnScope ["_law_deck", "_law_many", "_law_one"] ["_law_deck", "_law_many"] (defScope sTwo) := ⟨rfl, rfl, rfl, by decide +kernel, rfl, by decide +kernel, by decide +kernel⟩
theorem ok_Two {f : Addr} {fd : FuncData} (F : Fun K "_law_two_of" "_law_two_of" sTwo f fd) (T : Txt K mg C I N J B)
    {gDraw : Addr} {fDraw : FuncData} (kDraw : PySem.W.keepIn K (.ref gDraw) = true) (bDraw : Binds K fDraw ["_law_deck", "_law_most"] []) (hDraw : mg "_law_draw" = some (.ref gDraw)) (GDraw : FnOk P w K mg base CX0 1 gDraw fDraw ["_law_deck", "_law_most"] spDraw) :
    FnOk P w K mg base CX0 2 f fd ["_law_deck", "_law_many"] spTwo := by
  refine F.ok scTwo (fun vs H Q E h => ?_) (fun cdv A outer s H vs Q E hr h => ?_)
  · obtain ⟨_, _, _, rfl, _⟩ := h; rfl
  · obtain ⟨a, n, m, rfl, hD, hn, m2, m3, k⟩ := h
    refine ⟨_, pss_cons (ps_set (i := 2) scTwo.nd rfl (Or.inl rfl) (pe_call GDraw hr rfl hDraw kDraw bDraw .nil pass0 (pa_cons (pv 0) (pa_cons (pv 1) pa_nil))))
      (pss_one (ps_ret (pe_tup (pa_cons (pv 2) (pa_cons (pe_op op_mod (pe_op op_add (pe_op op_add (pv 2) pe_int) (pe_call GDraw hr rfl hDraw kDraw bDraw .nil pass0 (pa_cons (pv 0) (pa_cons (pe_op op_sub (pv 1) pe_int) pa_nil)))) (pv 1)) pa_nil))))), ?_⟩
    refine ⟨_, rfl, _, rfl, a, n, m, rfl, hD, by omega, by omega, by omega, fun v H1 v0 v1 b1 D1 => ?_⟩
    refine ⟨_, rfl, _, rfl, _, _, rfl, rfl, _, rfl, _, rfl, _, _, rfl, rfl, a, n + 1, m - 1, rfl, D1, by omega, by omega, by omega, fun u H2 u0 u1 b2 D2 => ⟨_, _, rfl, rfl, _, rfl, _, _, rfl, rfl, (show 0 < m by omega), small (by simp), fun p hp => ?_⟩⟩
    have e0 := Int.emod_nonneg (v + 1 + u) (show m ≠ 0 by omega)
    have e1 := Int.emod_lt_of_pos (v + 1 + u) (show 0 < m by omega)
    refine k p v.toNat ((v + 1 + u) % m).toNat _ (fun b o e nb => same_new hp _ _ (b2 _ _ (b1 _ _ e nb) nb)) (D2.same (same_new hp)) ?_ (by omega) (by omega)
    rw [upd_same, show ((v.toNat : Nat) : Int) = v by omega, show ((((v + 1 + u) % m).toNat : Nat) : Int) = (v + 1 + u) % m by omega]
theorem scWholes : FnScope ["_law_things", "_law_odd"] ["_law_things"] (defScope sWholes) := ⟨rfl, rfl, rfl, by decide +kernel, rfl, by decide +kernel, by decide +kernel⟩
theorem ok_Wholes {f : Addr} {fd : FuncData} (F : Fun K "_law_are_wholes" "_law_are_wholes" sWholes f fd) (T : Txt K mg C I N J B) :
    FnOk P w K mg base CX0 1 f fd ["_law_things"] spWholes := by
  refine F.ok scWholes (fun vs H Q E h => ?_) (fun cdv A outer s H vs Q E hr h => ?_)
  · obtain ⟨_, _, rfl, _⟩ := h; rfl
  · obtain ⟨l, ns, rfl, hl, k⟩ := h
    refine ⟨_, pss_cons (ps_comp (i := 1) (T := ["_law_one"]) (F := []) (js := []) scWholes.nd rfl (Or.inl rfl) (CS.to (osc := defScope sWholes) ⟨by rfl, by decide +kernel, by decide +kernel, by decide +kernel, by decide +kernel, by decide +kernel, by decide +kernel⟩ rfl rfl) rfl (pi_list (pv 0)) (fun _ _ _ _ _ => pg_name (i := 0) (show (["_law_one"] : List Str).Nodup by decide +kernel) rfl (Or.inl rfl)) (fun _ _ _ _ _ => pif_one (PW.pt (pw_or (pt_val (pe_callB (r := rIsiK K) call_isi (by rfl) T.isinstance (by decide +kernel) (pa_cons (pv 0) (pa_cons (pe_ty (T := "bool") (by rfl) T.bool (by decide +kernel)) pa_nil)))) (pw_or1 (pt_not (pt_val (pe_callB (r := rIsiK K) call_isi (by rfl) T.isinstance (by decide +kernel) (pa_cons (pv 0) (pa_cons (pe_ty (T := "int") (by rfl) T.int (by decide +kernel)) pa_nil))))))))) (fun _ _ _ _ _ => pv 0))
      (pss_one (ps_ret (pe_cmpR (op_eqNil hr.units) (pv 1) (pe_lst pa_nil) (nomark _)))), ?_⟩
    refine ⟨_, rfl, l, rfl, ⟨_, SqL.of hl⟩, fun D hD => comp_list (K := K) (a := l) (xs := ns.map V.int) (fun j σ ys H2 => ∃ u : Option V, σ = [u] ∧ Same H H2 ∧ H2 D = some (.lst []) ∧ ys = []) ⟨none, rfl, same_new hD, upd_same, rfl⟩ (fun j σ ys H2 _ ⟨_, _, s2, e, q⟩ => by rw [q]; exact ⟨SqL.of (s2 _ _ hl), e⟩) ?_ ?_⟩
    · rintro j x σ ys H2 hx ⟨u, rfl, s2, e2, rfl⟩
      obtain ⟨c, hc, rfl⟩ := int_of hx
      exact ⟨_, rfl, _, _, "bool", false, rfl, .int c, rfl, false, rfl, iteF ⟨_, rfl, _, _, "int", true, rfl, .int c, rfl, true, rfl, iteF ⟨_, rfl, s2, e2, rfl⟩⟩⟩
    rintro σ ys H2 ⟨u, rfl, s2, e2, rfl⟩
    exact ⟨_, rfl, small (by simp), fun e he => ⟨D, e, [], rfl, rfl, SqL.of (same_new he _ _ e2), SqL.of upd_same, k _ (s2.trans (same_new he))⟩⟩
def spBegin : Sp := fun vs H Q _ => ∃ m : Int, vs = [.int m] ∧ 1 ≤ m ∧ m ≤ 24 ∧ ∀ (d Pa Sd : Addr) (ps : List (Addr × List Int)) (H' : Hp), Same H H' → ModelAt H' d Pa Sd ps (List.replicate m.toNat 0) 0 → ps.map (·.2) = (List.range m.toNat).map (fun i => [((i : Nat) : Int)]) → (∀ b ∈ d :: Pa :: Sd :: ps.map (·.1), H b = none) → Q (.ref d) H'
theorem rep_flat (n : Nat) (x : V) : (List.replicate n [x]).flatten = List.replicate n x := by
  induction n with
  | zero => rfl
  | succ n ih => rw [List.replicate_succ, List.flatten_cons, ih, List.replicate_succ]; rfl
theorem scBegin : FnScope ["_law_many"] ["_law_many"] (defScope sBegin) := ⟨rfl, rfl, rfl, by decide +kernel, rfl, by decide +kernel, by decide +kernel⟩
theorem ok_Begin {f : Addr} {fd : FuncData} (F : Fun K "_law_begin" "_law_begin" sBegin f fd) (T : Txt K mg C I N J B) :
    FnOk P w K mg base CX0 1 f fd ["_law_many"] spBegin := by
  refine F.ok scBegin (fun vs H Q E h => ?_) (fun cdv A outer s H vs Q E hr h => ?_)
  · obtain ⟨_, rfl, _⟩ := h; rfl
  · obtain ⟨m, rfl, m1, m2, k⟩ := h
    refine ⟨_, pss_one (ps_ret (pe_disp (pps_cons pe_str (pe_comp (T := ["_law_place"]) (F := []) (js := []) (CS.to (osc := defScope sBegin) ⟨by rfl, by decide +kernel, by decide +kernel, by decide +kernel, by decide +kernel, by decide +kernel, by decide +kernel⟩ rfl rfl) rfl (pi_range1 rfl T.range (pa_cons (pv 0) pa_nil)) (fun _ _ _ _ _ => pg_name (i := 0) (show (["_law_place"] : List Str).Nodup by decide +kernel) rfl (Or.inl rfl)) (fun _ _ _ _ _ => pif_nil) (fun _ _ _ _ _ => pe_lst (pa_cons (pv 0) pa_nil))) (pps_cons pe_str (pe_op op_rep (pe_lst (pa_cons pe_int pa_nil)) (pv 0)) (pps_cons pe_str pe_int pps_nil))) rfl rfl (by simp) (by simp))), ?_⟩
    refine fun d hd => ?_
    have s0 := same_new (o := .dK []) hd
    have d0 := upd_same (H := H) (a := d) (o := .dK [])
    generalize upd H d (.dK []) = H0 at s0 d0
    refine ⟨_, rfl, m, rfl, by omega, by omega, fun D hD => comp_range (lo := 0) (n := m.toNat) (fun j σ ys H2 => ∃ (u : Option V) (ps : List (Addr × List Int)), σ = [u] ∧ Same H0 H2 ∧ H2 D = some (.lst ys) ∧ ys = ps.map (fun p => V.ref p.1) ∧ ps.map (·.2) = (List.range j).map (fun i => [((i : Nat) : Int)]) ∧ (∀ p ∈ ps, H2 p.1 = some (.lst (p.2.map V.int)) ∧ H0 p.1 = none) ∧ (D :: ps.map (·.1)).Nodup)
      ⟨none, [], rfl, same_new hD, upd_same, rfl, rfl, by simp, by simp⟩ (fun j σ ys H2 _ ⟨_, _, _, _, e, _⟩ => e) ?_ ?_⟩
    · rintro j σ ys H2 hj ⟨u, ps, rfl, s2, e2, rfl, pe, pc, pn⟩
      have pl : ps.length = j := by have := congrArg List.length pe; simpa using this
      refine ⟨_, rfl, small (by simp), fun q hq => ?_⟩
      have qD : q ≠ D := (ne_of_none e2 hq).symm
      have q0 : H0 q = none := none_of s2 hq
      refine ⟨by rw [upd_ne qD.symm]; exact e2, small1000 (by simp; omega), _, ps ++ [(q, [((j : Nat) : Int)])], rfl, fun b o e => ?_, upd_same, by simp, by rw [List.map_append, pe, List.range_succ, List.map_append]; rfl, fun p hp => ?_, ?_⟩
      · rw [upd_ne (ne_of_none e hD), upd_ne (ne_of_none (s2 _ _ e) hq)]; exact s2 _ _ e
      · rcases List.mem_append.mp hp with h | h
        · obtain ⟨h1, h2⟩ := pc p h
          have pD : p.1 ≠ D := fun z => by
            rw [List.nodup_cons] at pn
            exact pn.1 (List.mem_map.mpr ⟨p, h, z⟩)
          refine ⟨?_, h2⟩
          rw [upd_ne pD, upd_ne (ne_of_none h1 hq)]; exact h1
        · have := List.mem_singleton.mp h
          subst this
          refine ⟨?_, q0⟩
          rw [upd_ne qD, upd_same, Int.zero_add]
          rfl
      · rw [List.map_append, List.nodup_cons]
        rw [List.nodup_cons] at pn
        refine ⟨fun z => ?_, List.nodup_append.mpr ⟨pn.2, by simp, fun a ha b hb e => ?_⟩⟩
        · rcases List.mem_append.mp z with z | z
          · exact pn.1 z
          · exact qD (List.mem_singleton.mp z).symm
        · have hb := List.mem_singleton.mp hb
          obtain ⟨p, hp, rfl⟩ := List.mem_map.mp ha
          have h1 := (pc p hp).1
          rw [show p.1 = q from e.trans hb, hq] at h1
          cases h1
    rintro σ ys H2 ⟨u, ps, rfl, s2, e2, rfl, pe, pc, pn⟩
    refine ⟨small (by simp), fun q hq => ⟨_, rfl, q, m, _, rfl, rfl, upd_same, by omega, by omega, small (by simp; omega), fun Sd hSd => ?_⟩⟩
    rw [rep_flat]
    have s3 := (same_new (o := .lst [V.int 0]) hq).trans (same_new (o := .lst (List.replicate m.toNat (V.int 0))) hSd)
    have S3' := upd_same (H := upd H2 q (.lst [V.int 0])) (a := Sd) (o := .lst (List.replicate m.toNat (V.int 0)))
    have Sn : H2 Sd = none := none_of (same_new hq) hSd
    generalize upd (upd H2 q (.lst [V.int 0])) Sd (.lst (List.replicate m.toNat (V.int 0))) = H3 at s3 S3'
    have d3 := s3 _ _ (s2 _ _ d0)
    refine ⟨d3, [(.inr "parts", .ref D), (.inr "sides", .ref Sd), (.inr "odd", .int 0)], rfl, by simp, ?_⟩
    have nd : ∀ b ∈ D :: Sd :: ps.map (·.1), b ≠ d := by
      intro b hb z
      subst z
      rcases List.mem_cons.mp hb with h | hb
      · rw [h, hD] at d0; cases d0
      · rcases List.mem_cons.mp hb with h | hb
        · rw [← h] at Sn; rw [s2 _ _ d0] at Sn; cases Sn
        · obtain ⟨p, hp, h⟩ := List.mem_map.mp hb
          have := (pc p hp).2
          rw [h, d0] at this; cases this
    refine k d D Sd ps _ (fun b o e => ?_) ⟨upd_same, ?_, ?_, fun p hp => ?_, ?_⟩ pe fun b hb => ?_
    · rw [upd_ne (ne_of_none e hd)]; exact s3 _ _ (s2 _ _ (s0 _ _ e))
    · rw [upd_ne (nd D (by simp))]; exact s3 _ _ e2
    · rw [upd_ne (nd Sd (by simp)), S3']; simp
    · rw [upd_ne (nd p.1 (by simp only [List.mem_cons]; exact .inr (.inr (List.mem_map.mpr ⟨p, hp, rfl⟩))))]; exact s3 _ _ (pc p hp).1
    · rw [List.nodup_cons] at pn ⊢
      refine ⟨fun z => ?_, List.nodup_cons.mpr ⟨fun z => ?_, pn.2⟩⟩
      · rcases List.mem_cons.mp z with z | z
        · rw [← z, e2] at Sn; cases Sn
        · exact pn.1 z
      · obtain ⟨p, hp, h⟩ := List.mem_map.mp z
        rw [← h, (pc p hp).1] at Sn; cases Sn
    · rcases List.mem_cons.mp hb with rfl | hb
      · exact hd
      · rcases List.mem_cons.mp hb with rfl | hb
        · exact none_of s0 hD
        · rcases List.mem_cons.mp hb with rfl | hb
          · exact none_of (s0.trans s2) Sn
          · obtain ⟨p, hp, rfl⟩ := List.mem_map.mp hb
            exact none_of s0 (pc p hp).2
end
end K20
set_option maxHeartbeats 4000000
namespace K20
open PySem L2
theorem ModelAt.gs {H : Hp} {d Pa Sd : Addr} {ps : List (Addr × List Int)} {sides : List Int} {odd : Int} (h : ModelAt H d Pa Sd ps sides odd) : DGet H d (.str "sides") (some (.ref Sd)) := by
  have := DGet.k (k := .inr "sides") h.d
  rw [get_sides] at this
  exact this
theorem ModelAt.gp {H : Hp} {d Pa Sd : Addr} {ps : List (Addr × List Int)} {sides : List Int} {odd : Int} (h : ModelAt H d Pa Sd ps sides odd) : DGet H d (.str "parts") (some (.ref Pa)) := by
  have := DGet.k (k := .inr "parts") h.d
  rw [get_parts] at this
  exact this
theorem ModelAt.go {H : Hp} {d Pa Sd : Addr} {ps : List (Addr × List Int)} {sides : List Int} {odd : Int} (h : ModelAt H d Pa Sd ps sides odd) : DGet H d (.str "odd") (some (.int odd)) := by
  have := DGet.k (k := .inr "odd") h.d
  rw [get_odd] at this
  exact this
def Done (tops ts l : List Int) : Prop := ts.length = tops.length ∧ ∀ p ∈ l, ts.getD p.toNat 0 = tops.getD p.toNat 0
theorem Done.step {tops ts l : List Int} {p v : Int} (h : Done tops ts l) (p0 : 0 ≤ p) (p1 : p < tops.length) (hv : tops.getD p.toNat 0 = v) : Done tops (ts.set p.toNat v) (l ++ [p]) := by
  refine ⟨by simp [h.1], fun r hr => ?_⟩
  have hl := h.1
  by_cases e : p.toNat = r.toNat
  · rw [← e, hv, List.getD_eq_getElem?_getD, List.getElem?_set_self (by omega)]; rfl
  · rw [List.getD_eq_getElem?_getD, List.getElem?_set_ne e]
    rcases List.mem_append.mp hr with hr | hr
    · rw [← h.2 r hr, List.getD_eq_getElem?_getD]
    · exact absurd (by rw [List.mem_singleton.mp hr]) e
theorem Done.all {tops ts l : List Int} (h : Done tops ts l) (hc : ∀ p : Nat, p < tops.length → (p : Int) ∈ l) : ts = tops := by
  refine List.ext_getElem h.1 fun i h1 h2 => ?_
  have := h.2 _ (hc i h2)
  rw [Int.toNat_natCast, List.getD_eq_getElem?_getD, List.getD_eq_getElem?_getD, List.getElem?_eq_getElem h1, List.getElem?_eq_getElem h2] at this
  exact this
theorem ixN_nat {n j : Nat} {i : Int} (h : i = (j : Int)) (hj : j < n) : ixN n i = some j := by
  subst h
  unfold ixN
  simp [hj]
theorem flat_take {qs : List (List Int)} {j : Nat} {q : List Int} (h : qs[j]? = some q) : (qs.take (j + 1)).flatten = (qs.take j).flatten ++ q := by
  obtain ⟨hj, rfl⟩ := List.getElem?_eq_some_iff.mp h
  rw [List.take_succ_eq_append_getElem hj, List.flatten_append]
  simp
def spDue : Sp := fun vs H Q _ => ∃ (d Pa Sd : Addr) (ps : List (Addr × List Int)) (st : S3) (n : Nat), vs = [.ref d] ∧ ModelAt H d Pa Sd ps st.sides st.odds ∧ Good n (ps.map (·.2)) st ∧ ∀ (r : Addr) (H' : Hp), Same H H' → StAt H' r st → Q (.ref r) H'
section
variable {P : Program} {w : World} {K : PySem.W.Frag} {mg : Str → Option Value} {base : Heap} {C I N J B : Addr}
theorem scDue : FnScope ["_law_model", "_law_tops", "_law_part", "_law_place"] ["_law_model"] (defScope sDue) := ⟨rfl, rfl, rfl, by decide +kernel, rfl, by decide +kernel, by decide +kernel⟩
theorem ok_Due {f : Addr} {fd : FuncData} (F : Fun K "_law_due_of" "_law_due_of" sDue f fd) (T : Txt K mg C I N J B) :
    FnOk P w K mg base CX0 1 f fd ["_law_model"] spDue := by
  refine F.ok scDue (fun vs H Q E h => ?_) (fun cdv A outer s H vs Q E hr h => ?_)
  · obtain ⟨_, _, _, _, _, _, rfl, _⟩ := h; rfl
  · obtain ⟨d, Pa, Sd, ps, st, n, rfl, hM, hG, k⟩ := h
    refine ⟨_, pss_cons (ps_set (i := 1) scDue.nd rfl (Or.inl rfl) (pe_op op_rep (pe_lst (pa_cons pe_int pa_nil)) (pe_callB call_len_seq (by rfl) T.len PySem.boot_len (pa_cons (pe_dget (hu_of hr) (pv 0) pe_str (fun _ _ => rfl)) pa_nil))))
      (pss_cons (ps_for PassesOwn.never rfl (pi_list (pe_dget (hu_of hr) (pv 0) pe_str (fun _ _ => rfl))) (pg_name (i := 2) scDue.nd rfl (Or.inl rfl)) (pss_one (ps_for PassesOwn.never rfl (pi_list (pv 2)) (pg_name (i := 3) scDue.nd rfl (Or.inl rfl)) (pss_one (ps_asg (pe_ix ix_list (pv 2) pe_int (fun _ _ => rfl)) (pg_sub (pv 1) (pv 3) set_list))))))
      (pss_one (ps_ret (pe_tup (pa_cons (pe_callTy call_tuple_of (by rfl) T.tuple (by decide +kernel) (pa_cons (pv 1) pa_nil)) (pa_cons (pe_callTy call_tuple_of (by rfl) T.tuple (by decide +kernel) (pa_cons (pe_dget (hu_of hr) (pv 0) pe_str (fun _ _ => rfl)) pa_nil)) (pa_cons (pe_dget (hu_of hr) (pv 0) pe_str (fun _ _ => rfl)) pa_nil))))))), ?_⟩
    have hs := hG.ok.s
    have ht := hG.ok.t
    have n2 := hG.ok.n2
    refine ⟨small (by simp), fun q hq => ⟨_, rfl, d, _, rfl, (hM.same (same_new hq)).gs, Sd, _, rfl, .inl (SqL.of ((hM.same (same_new hq)).s)), q, _, _, rfl, rfl, upd_same, by simp <;> omega, by simp <;> omega, small (by simp; omega), fun L hL => ?_⟩⟩
    have s1 := (same_new (o := .lst [V.int 0]) hq).trans (same_new (o := .lst (List.replicate ((List.length (st.sides.map V.int) : Nat) : Int).toNat [V.int 0]).flatten) hL)
    have l1 := upd_same (H := upd H q (.lst [V.int 0])) (a := L) (o := .lst (List.replicate ((List.length (st.sides.map V.int) : Nat) : Int).toNat [V.int 0]).flatten)
    have Ln : H L = none := none_of (same_new hq) hL
    generalize upd (upd H q (.lst [V.int 0])) L (.lst (List.replicate ((List.length (st.sides.map V.int) : Nat) : Int).toNat [V.int 0]).flatten) = H1 at s1 l1
    rw [rep_flat, show (((st.sides.map V.int).length : Nat) : Int).toNat = n by simp [hs], show List.replicate n (V.int 0) = (List.replicate n (0 : Int)).map V.int by simp] at l1
    refine ⟨_, rfl, d, _, rfl, (hM.same s1).gp, Pa, rfl, ⟨_, SqL.of (hM.same s1).p⟩, for_list (K := K) (a := Pa) (xs := ps.map fun p => V.ref p.1) (fun j σ H2 => ∃ (u w : Option V) (ts : List Int), σ = [some (.ref d), some (.ref L), u, w] ∧ Same H H2 ∧ H2 L = some (.lst (ts.map V.int)) ∧ Done st.tops ts ((ps.map (·.2)).take j).flatten) ⟨none, none, _, rfl, s1, l1, by simp [ht], by simp⟩ (fun j σ H2 _ ⟨_, _, _, _, s2, _⟩ => SqL.of (hM.same s2).p) ?_ ?_⟩
    · rintro j x σ H2 hx ⟨u, w, ts, rfl, s2, l2, hD⟩
      rw [List.getElem?_map] at hx
      obtain ⟨p, hp, rfl⟩ := Option.map_eq_some_iff.mp hx
      have pm : p ∈ ps := List.mem_of_getElem? hp
      have qm : p.2 ∈ ps.map (·.2) := List.mem_map.mpr ⟨p, pm, rfl⟩
      have qj : (ps.map (·.2))[j]? = some p.2 := by rw [List.getElem?_map, hp]; rfl
      obtain ⟨qne, qel⟩ := hG.el _ qm
      have p2 := (hM.same s2).e p pm
      refine ⟨_, rfl, p.1, rfl, ⟨_, SqL.of p2⟩, for_list (K := K) (a := p.1) (xs := p.2.map V.int) (fun i σ H3 => ∃ (w : Option V) (ts : List Int), σ = [some (.ref d), some (.ref L), some (.ref p.1), w] ∧ Same H H3 ∧ H3 L = some (.lst (ts.map V.int)) ∧ Done st.tops ts (((ps.map (·.2)).take j).flatten ++ p.2.take i)) ⟨w, ts, rfl, s2, l2, by simpa using hD⟩ (fun i σ H3 _ ⟨_, _, _, s3, _⟩ => SqL.of ((hM.same s3).e p pm)) ?_ ?_⟩
      · rintro i x σ H3 hx ⟨w, ts, rfl, s3, l3, hD⟩
        obtain ⟨c, hc, rfl⟩ := int_of hx
        have cm := List.mem_of_getElem? hc
        obtain ⟨c0, c1, c2⟩ := qel c cm
        have p3 := (hM.same s3).e p pm
        have h0 : atI (p.2.map V.int) 0 = some (.int (hd p.2)) := by
          cases hq : p.2 with
          | nil => exact absurd hq qne
          | cons a b => exact at0
        refine ⟨_, rfl, p.1, _, 0, _, rfl, rfl, SqL.of p3, h0, _, rfl, _, rfl, L, _, c, c.toNat, rfl, rfl, l3, ixN_nat (by omega) (by rw [List.length_map, hD.1, ht]; omega), ?_⟩
        refine ⟨_, _, rfl, fun b o e => ?_, by rw [upd_same, List.map_set], ?_⟩
        · rw [upd_ne (ne_of_none e Ln)]; exact s3 _ _ e
        · obtain ⟨hi, rfl⟩ := List.getElem?_eq_some_iff.mp hc
          rw [List.take_succ_eq_append_getElem hi, ← List.append_assoc]
          exact hD.step c0 (by rw [ht]; exact c1) c2
      · rintro σ H3 ⟨w, ts, rfl, s3, l3, hD⟩
        refine ⟨_, _, _, rfl, s3, l3, ?_⟩
        rw [flat_take qj]
        rw [List.length_map, List.take_length] at hD
        exact hD
    rintro σ H2 ⟨u, w, ts, rfl, s2, l2, hD⟩
    rw [List.length_map, show (ps.map (·.2)).take ps.length = ps.map (·.2) by rw [← List.length_map (f := (·.2)) (as := ps), List.take_length]] at hD
    have := hD.all fun p hp => by
      obtain ⟨q, hq, hm⟩ := hG.cov p (by omega)
      exact List.mem_flatten.mpr ⟨q, hq, hm⟩
    subst this
    refine ⟨_, rfl, L, _, rfl, .inl ⟨SqL.of l2, fun a ha => ?_⟩⟩
    have s3 := s2.trans (same_new (o := .tup (st.tops.map V.int)) ha)
    have a3 := upd_same (H := H2) (a := a) (o := .tup (st.tops.map V.int))
    generalize upd H2 a (.tup (st.tops.map V.int)) = H3 at s3 a3
    refine ⟨_, rfl, d, _, rfl, (hM.same s3).gs, Sd, _, rfl, .inl ⟨SqL.of (hM.same s3).s, fun b hb => ?_⟩⟩
    have s4 := s3.trans (same_new (o := .tup (st.sides.map V.int)) hb)
    have b4 := upd_same (H := H3) (a := b) (o := .tup (st.sides.map V.int))
    have a4 := same_new (o := .tup (st.sides.map V.int)) hb _ _ a3
    generalize upd H3 b (.tup (st.sides.map V.int)) = H4 at s4 b4 a4
    refine ⟨_, rfl, d, _, rfl, (hM.same s4).go, small (by simp), fun r hr => ?_⟩
    exact k r _ (s4.trans (same_new hr)) ⟨a, b, upd_same, same_new hr _ _ a4, same_new hr _ _ b4⟩
end
end K20
set_option maxHeartbeats 4000000
namespace K20
open PySem L2
def psJ (ps : List (Addr × List Int)) (j : Nat) (ak : Addr) (q : List Int) : List (Addr × List Int) := (ps.eraseIdx j).map fun p => if p.1 = ak then (ak, q) else p
theorem psJ_addr (ps : List (Addr × List Int)) (j : Nat) (ak : Addr) (q : List Int) : (psJ ps j ak q).map (·.1) = (ps.eraseIdx j).map (·.1) := by
  unfold psJ
  rw [List.map_map]
  refine List.map_congr_left fun p _ => ?_
  show (if p.1 = ak then (ak, q) else p).1 = p.1
  by_cases h : p.1 = ak
  · rw [if_pos h, h]
  · rw [if_neg h]
theorem psJ_refs (ps : List (Addr × List Int)) (j : Nat) (ak : Addr) (q : List Int) : ((psJ ps j ak q).map fun p => V.ref p.1) = (ps.eraseIdx j).map fun p => V.ref p.1 := by
  have := congrArg (List.map V.ref) (psJ_addr ps j ak q)
  rw [List.map_map, List.map_map] at this
  exact this
theorem mem_psJ {ps : List (Addr × List Int)} {j : Nat} {ak : Addr} {q : List Int} {x : Addr × List Int} (h : x ∈ psJ ps j ak q) : x = (ak, q) ∨ (x ∈ ps.eraseIdx j ∧ x.1 ≠ ak) := by
  obtain ⟨p, hp, rfl⟩ := List.mem_map.mp h
  show (if p.1 = ak then (ak, q) else p) = (ak, q) ∨ _
  by_cases h : p.1 = ak
  · rw [if_pos h]; exact .inl rfl
  · rw [if_neg h]; exact .inr ⟨hp, h⟩
theorem mem_erase {α : Type} {l : List α} {j : Nat} {x y : α} (hx : x ∈ l) (hy : l[j]? = some y) (hn : x ≠ y) : x ∈ l.eraseIdx j := by
  rw [List.mem_eraseIdx_iff_getElem?]
  obtain ⟨i, hi⟩ := List.mem_iff_getElem?.mp hx
  exact ⟨i, fun e => hn (Option.some.inj (by rw [← hi, ← hy, e])), hi⟩
theorem not_erase {α β : Type} {f : α → β} {l : List α} {j : Nat} {y x : α} (nd : (l.map f).Nodup) (hy : l[j]? = some y) (h : x ∈ l.eraseIdx j) : x ≠ y := by
  rintro rfl
  rw [List.mem_eraseIdx_iff_getElem?] at h
  obtain ⟨i, hn, hi⟩ := h
  obtain ⟨i1, e1⟩ := List.getElem?_eq_some_iff.mp hi
  obtain ⟨j1, e2⟩ := List.getElem?_eq_some_iff.mp hy
  have pw := List.pairwise_iff_getElem.mp nd
  have ee : f l[i] = f l[j] := by rw [e1, e2]
  rcases Nat.lt_trichotomy i j with z | z | z
  · refine pw i j (by simpa using i1) (by simpa using j1) z ?_
    rw [List.getElem_map, List.getElem_map, ee]
  · exact hn z
  · refine pw j i (by simpa using j1) (by simpa using i1) z ?_
    rw [List.getElem_map, List.getElem_map, ee]
theorem parts_join {ps : List (Addr × List Int)} {n : Nat} {st : S3} (g : Good n (ps.map (·.2)) st) (nd : (ps.map (·.1)).Nodup) {j : Nat} {ak ta : Addr} {qk qt : List Int} (hk : (ak, qk) ∈ ps) (hj : ps[j]? = some (ta, qt)) (hne : qk ≠ qt) {turn : Int} (tu : turn = 0 ∨ turn = 1) :
    Good n ((psJ ps j ak (qk ++ qt)).map (·.2)) ⟨newTops st.tops (hd qk) (hd qt), newSides st.tops st.sides (hd qt) turn, st.odds⟩ := by
  have ht : (ta, qt) ∈ ps := List.mem_of_getElem? hj
  have nh : (ps.map fun p => hd p.2).Nodup := by have := g.nd; rw [List.map_map] at this; exact this
  have inj : ∀ {p r : Addr × List Int}, p ∈ ps → r ∈ ps → p.2 = r.2 → p = r := fun hp hr e => nodup_inj nh hp hr (by rw [e])
  have inj1 : ∀ {p r : Addr × List Int}, p ∈ ps → r ∈ ps → p.1 = r.1 → p = r := fun hp hr e => nodup_inj nd hp hr e
  have sub : ∀ {p}, p ∈ ps.eraseIdx j → p ∈ ps := fun h => List.mem_of_mem_eraseIdx h
  have kne : qk ≠ [] := (g.el qk (List.mem_map.mpr ⟨_, hk, rfl⟩)).1
  have hdk : hd (qk ++ qt) = hd qk := by
    cases qk with
    | nil => exact absurd rfl kne
    | cons a b => rfl
  have ke : (ak, qk) ∈ ps.eraseIdx j := mem_erase hk hj fun e => hne (congrArg Prod.snd e)
  refine g.join (List.mem_map.mpr ⟨_, hk, rfl⟩) (List.mem_map.mpr ⟨_, ht, rfl⟩) hne tu (fun q hq => ?_) ?_ (fun q hq n1 n2 => ?_) ?_ ?_
  · obtain ⟨p, hp, rfl⟩ := List.mem_map.mp hq
    rcases mem_psJ hp with rfl | ⟨hp, hn⟩
    · exact .inl rfl
    · refine .inr ⟨List.mem_map.mpr ⟨p, sub hp, rfl⟩, fun e => hn ?_, fun e => not_erase nd hj hp (inj (sub hp) ht e)⟩
      exact congrArg Prod.fst (inj (sub hp) hk e)
  · refine List.mem_map.mpr ⟨(ak, qk ++ qt), List.mem_map.mpr ⟨_, ke, ?_⟩, rfl⟩
    exact if_pos rfl
  · obtain ⟨p, hp, rfl⟩ := List.mem_map.mp hq
    have pe := mem_erase hp hj fun e => n2 (by rw [e])
    refine List.mem_map.mpr ⟨p, List.mem_map.mpr ⟨p, pe, ?_⟩, rfl⟩
    exact if_neg fun e => n1 (congrArg Prod.snd (inj1 hp hk e))
  · have e : ((psJ ps j ak (qk ++ qt)).map (·.2)).map hd = (ps.eraseIdx j).map fun p => hd p.2 := by
      unfold psJ
      rw [List.map_map, List.map_map]
      refine List.map_congr_left fun p hp => ?_
      show hd (if p.1 = ak then (ak, qk ++ qt) else p).2 = hd p.2
      by_cases h : p.1 = ak
      · rw [if_pos h, inj1 (sub hp) hk h]; exact hdk
      · rw [if_neg h]
    rw [e]
    exact ((List.eraseIdx_sublist (l := ps) (k := j)).map _).nodup nh
  · have jl := (List.getElem?_eq_some_iff.mp hj).1
    simp only [psJ, List.length_map, List.length_eraseIdx, if_pos jl]
    omega
theorem Good.odd {n : Nat} {qs : List (List Int)} {st : S3} (g : Good n qs st) (z : Int) : Good n qs ⟨st.tops, st.sides, z⟩ := ⟨⟨g.ok.t, g.ok.s, g.ok.n1, g.ok.n2⟩, g.el, g.cov, g.nd, g.cnt, g.num, g.sd, g.nq⟩
def Turned (sides ts l : List Int) : Prop := ts.length = sides.length ∧ ∀ p : Nat, p < sides.length → ts.getD p 0 = if (p : Int) ∈ l then 1 - sides.getD p 0 else sides.getD p 0
theorem Turned.step {sides ts l : List Int} {p : Int} (h : Turned sides ts l) (p0 : 0 ≤ p) (p1 : p < sides.length) (hn : p ∉ l) : Turned sides (ts.set p.toNat (1 - ts.getD p.toNat 0)) (l ++ [p]) := by
  obtain ⟨k, rfl⟩ := Int.eq_ofNat_of_zero_le p0
  rw [Int.toNat_natCast]
  refine ⟨by simp [h.1], fun r hr => ?_⟩
  have hl := h.1
  by_cases e : k = r
  · subst e
    rw [h.2 k hr, if_neg hn, List.getD_eq_getElem?_getD, List.getElem?_set_self (by omega), if_pos (by simp)]; rfl
  · rw [List.getD_eq_getElem?_getD, List.getElem?_set_ne e, ← List.getD_eq_getElem?_getD, h.2 r hr]
    have : ((r : Int) ∈ l ++ [(k : Int)]) ↔ (r : Int) ∈ l := by
      rw [List.mem_append, List.mem_singleton]
      exact ⟨fun z => z.elim id fun z => absurd (by omega) e, .inl⟩
    simp only [this]
theorem getD_get {l : List Int} {i : Nat} (h : i < l.length) : l.getD i 0 = l[i] := by rw [List.getD_eq_getElem?_getD, List.getElem?_eq_getElem h]; rfl
theorem Turned.all {n : Nat} {qs : List (List Int)} {st : S3} (g : Good n qs st) {q ts : List Int} (hq : q ∈ qs) (h : Turned st.sides ts q) : ts = newSides st.tops st.sides (hd q) 1 := by
  have hs := g.ok.s
  have ht := g.ok.t
  refine List.ext_getElem (by rw [h.1]; simp [newSides]; omega) fun i h1 h2 => ?_
  have hi : i < st.sides.length := by rw [← h.1]; exact h1
  have e := h.2 i hi
  rw [getD_get h1, getD_get hi] at e
  rw [e]
  simp only [newSides, List.getElem_zipWith]
  have tp := g.top (p := (i : Int)) hq
  rw [Int.toNat_natCast, getD_get (show i < st.tops.length by omega)] at tp
  have xo := xor01 (t := 0) (g.sd _ (List.getElem_mem hi))
  by_cases c : (i : Int) ∈ q
  · rw [if_pos c, if_pos (tp.mp c).2.2, xo.1]
  · rw [if_neg c, if_neg fun z => c (tp.mpr ⟨by omega, by omega, z⟩)]
theorem sides_zero {n : Nat} {qs : List (List Int)} {st : S3} (g : Good n qs st) (h : Int) : newSides st.tops st.sides h 0 = st.sides := by
  have hs := g.ok.s
  have ht := g.ok.t
  refine List.ext_getElem (by simp [newSides]; omega) fun i h1 h2 => ?_
  simp only [newSides, List.getElem_zipWith]
  have xo := xor01 (t := 0) (g.sd _ (List.getElem_mem h2))
  rw [xo.2]
  split <;> rfl
def Frm (d Pa Sd : Addr) (as : List Addr) (H H' : Hp) : Prop := ∀ b o, H b = some o → b ∉ d :: Pa :: Sd :: as → H' b = some o
def tTailD : TS := fun D σ H => ∃ (d pr Pa Sd ak ta : Addr) (ps : List (Addr × List Int)) (st : S3) (n : Nat) (qk qt : List Int) (like : Bool), σ = [some (.ref d), some (.ref pr), some (.ref Sd), some (.bl like), some (.ref ak), some (.ref ta), none] ∧
  ModelAt H d Pa Sd ps st.sides st.odds ∧ Good n (ps.map (·.2)) st ∧ (ak, qk) ∈ ps ∧ (ta, qt) ∈ ps ∧ qk ≠ qt ∧
  ∀ (ps' : List (Addr × List Int)) (H' : Hp), Frm d Pa Sd (ps.map (·.1)) H H' → (∀ b ∈ ps'.map (·.1), b ∈ ps.map (·.1)) → ModelAt H' d Pa Sd ps' (newSides st.tops st.sides (hd qt) (if like then 1 else 0)) st.odds →
    Good n (ps'.map (·.2)) ⟨newTops st.tops (hd qk) (hd qt), newSides st.tops st.sides (hd qt) (if like then 1 else 0), st.odds⟩ → D.rt (.bl true) H'
def tTailD2 : TS := fun D σ H => ∃ (d pr Pa Sd ak ta : Addr) (ps : List (Addr × List Int)) (st : S3) (n : Nat) (qk qt : List Int) (like : Bool) (u : Option V), σ = [some (.ref d), some (.ref pr), some (.ref Sd), some (.bl like), some (.ref ak), some (.ref ta), u] ∧
  ModelAt H d Pa Sd ps (newSides st.tops st.sides (hd qt) (if like then 1 else 0)) st.odds ∧ Good n (ps.map (·.2)) st ∧ (ak, qk) ∈ ps ∧ (ta, qt) ∈ ps ∧ qk ≠ qt ∧
  ∀ (ps' : List (Addr × List Int)) (H' : Hp), Frm d Pa Sd (ps.map (·.1)) H H' → (∀ b ∈ ps'.map (·.1), b ∈ ps.map (·.1)) → ModelAt H' d Pa Sd ps' (newSides st.tops st.sides (hd qt) (if like then 1 else 0)) st.odds →
    Good n (ps'.map (·.2)) ⟨newTops st.tops (hd qk) (hd qt), newSides st.tops st.sides (hd qt) (if like then 1 else 0), st.odds⟩ → D.rt (.bl true) H'
end K20
set_option maxHeartbeats 4000000
namespace K20
open PySem L2
theorem flat_ints (ns : List Int) : (ns.map V.int).all flatV = true := by
  rw [List.all_eq_true]
  intro x hx
  obtain ⟨n, _, rfl⟩ := List.mem_map.mp hx
  rfl
theorem in_ints (i : Int) (ns : List Int) : inV (.int i) (ns.map V.int) = decide (i ∈ ns) := by
  unfold inV
  induction ns with
  | nil => rfl
  | cons n ns ih =>
    rw [List.map_cons, List.any_cons, ih]
    rw [show eqV (.int n) (.int i) = decide (n = i) from rfl, Bool.eq_iff_iff, Bool.or_eq_true, decide_eq_true_iff, decide_eq_true_iff, decide_eq_true_iff, List.mem_cons]
    exact or_congr_left eq_comm
theorem layI (ns : List Int) : (PyData.list (ns.map PyData.int)).canLay0 = true := by
  show PyData.canLayAll0 _ = true
  induction ns with
  | nil => rfl
  | cons n ns ih => show (true && PyData.canLayAll0 _) = true; rw [ih]; rfl
theorem repI {K : PySem.W.Frag} {H : Hp} : ∀ ns : List Int, RepAll K H (ns.map V.int) (ns.map PyData.int)
  | [] => .nil
  | n :: ns => .cons (.int n) (repI ns)
theorem depI (ns : List Int) : (PyData.list (ns.map PyData.int)).depth ≤ 20 := by
  have : PyData.depthAll (ns.map PyData.int) ≤ 1 := by
    induction ns with
    | nil => simp [PyData.depthAll]
    | cons n ns ih => simp only [List.map_cons, PyData.depthAll, PyData.depth]; omega
  simp only [PyData.depth]; omega
theorem eqI (xs ys : List Int) : PyData.eqv (.list (xs.map PyData.int)) (.list (ys.map PyData.int)) = decide (xs = ys) := by
  rw [PyData.eqv]
  induction xs generalizing ys with
  | nil => cases ys <;> simp [PyData.eqvAll]
  | cons x xs ih =>
    cases ys with
    | nil => simp [PyData.eqvAll]
    | cons y ys =>
      simp only [List.map_cons, PyData.eqvAll, PyData.eqv, ih]
      rw [Bool.eq_iff_iff]
      simp
theorem hd_at {q : List Int} (h : q ≠ []) : atI (q.map V.int) 0 = some (.int (hd q)) := by
  cases q with
  | nil => exact absurd rfl h
  | cons a b => exact at0
theorem first_mem {α : Type} {l : List α} {f : α → Bool} {x : α} (hx : x ∈ l) (hf : f x = true) : ∃ (y : α) (ys : List α), l.filter f = y :: ys ∧ y ∈ l ∧ f y = true := by
  cases e : l.filter f with
  | nil => exact absurd (List.mem_filter.mpr ⟨hx, hf⟩) (by rw [e]; simp)
  | cons y ys =>
    have : y ∈ l.filter f := by rw [e]; simp
    exact ⟨y, ys, rfl, (List.mem_filter.mp this).1, (List.mem_filter.mp this).2⟩
theorem ModelAt.len {H : Hp} {d Pa Sd : Addr} {ps : List (Addr × List Int)} {sides : List Int} {odd : Int} (h : ModelAt H d Pa Sd ps sides odd) {n : Nat} {st : S3} (g : Good n (ps.map (·.2)) st) : ps.length ≤ 24 := by
  have h1 := g.num
  have h2 : partsN st.tops ≤ st.tops.length := by unfold partsN; exact Nat.le_trans (List.length_filter_le _ _) (by simp)
  have := g.ok.t
  have := g.ok.n2
  rw [List.length_map] at h1
  omega
theorem joinS_eq {st : S3} {i j : Nat} (h : st.tops.getD i 0 = st.tops.getD j 0) : joinS st i j = (⟨st.tops, st.sides, st.odds + turnOf (st.sides.getD i 0) (st.sides.getD j 0)⟩, false) := by
  unfold joinS
  exact if_pos h
theorem joinS_ne {st : S3} {i j : Nat} (h : ¬ st.tops.getD i 0 = st.tops.getD j 0) : joinS st i j = (⟨newTops st.tops (kt st.tops (st.tops.getD i 0) (st.tops.getD j 0)).1 (kt st.tops (st.tops.getD i 0) (st.tops.getD j 0)).2, newSides st.tops st.sides (kt st.tops (st.tops.getD i 0) (st.tops.getD j 0)).2 (turnOf (st.sides.getD i 0) (st.sides.getD j 0)), st.odds⟩, true) := by
  unfold joinS
  exact if_neg h
theorem turn_like (s t : Int) : (if decide (s = t) = true then (1 : Int) else 0) = turnOf s t := by
  unfold turnOf
  simp only [decide_eq_true_eq]
def spDo : Sp := fun vs H Q _ => ∃ (d pr Pa Sd : Addr) (ps : List (Addr × List Int)) (st : S3) (n i j : Nat), vs = [.ref d, .ref pr] ∧ H pr = some (.tup [.int (i : Nat), .int (j : Nat)]) ∧ ModelAt H d Pa Sd ps st.sides st.odds ∧ Good n (ps.map (·.2)) st ∧ i < n ∧ j < n ∧
  ∀ (ps' : List (Addr × List Int)) (H' : Hp), Frm d Pa Sd (ps.map (·.1)) H H' → (∀ b ∈ ps'.map (·.1), b ∈ ps.map (·.1)) → ModelAt H' d Pa Sd ps' (joinS st i j).1.sides (joinS st i j).1.odds → Good n (ps'.map (·.2)) (joinS st i j).1 → Q (.bl (joinS st i j).2) H'
section
variable {P : Program} {w : World} {K : PySem.W.Frag} {mg : Str → Option Value} {base : Heap} {C I N J B : Addr}
theorem scDo : FnScope ["_law_model", "_law_pair", "_law_sides", "_law_like", "_law_here", "_law_there", "_law_place"] ["_law_model", "_law_pair"] (defScope sDo) := ⟨rfl, rfl, rfl, by decide +kernel, rfl, by decide +kernel, by decide +kernel⟩
theorem ok_Do {f : Addr} {fd : FuncData} (F : Fun K "_law_do" "_law_do" sDo f fd) (T : Txt K mg C I N J B) :
    FnOk P w K mg base CX0 1 f fd ["_law_model", "_law_pair"] spDo := by
  refine F.ok scDo (fun vs H Q E h => ?_) (fun cdv A outer s H vs Q E hr h => ?_)
  · obtain ⟨_, _, _, _, _, _, _, _, _, rfl, _⟩ := h; rfl
  · obtain ⟨d, pr, Pa, Sd, ps, st, n, i, j, rfl, hpr, hM, hG, hi, hj, k⟩ := h
    refine ⟨_, pss_cons (ps_set (i := 2) scDo.nd rfl (Or.inl rfl) (pe_dget (hu_of hr) (pv 0) pe_str (fun _ _ => rfl)))
      (pss_cons (ps_set (i := 3) scDo.nd rfl (Or.inl rfl) (pe_cmpR op_eq (pe_ix ix_list (pv 2) (pe_ix ix_tup (pv 1) pe_int (fun _ _ => rfl)) (fun _ _ => rfl)) (pe_ix ix_list (pv 2) (pe_ix ix_tup (pv 1) pe_int (fun _ _ => rfl)) (fun _ _ => rfl)) (nomark _)))
      (pss_cons (ps_set (i := 4) scDo.nd rfl (Or.inl rfl) (pe_ix ix_list (pe_comp (T := ["_law_part"]) (F := ["_law_pair"]) (js := [1]) (CS.to (osc := defScope sDo) ⟨by rfl, by decide +kernel, by decide +kernel, by decide +kernel, by decide +kernel, by decide +kernel, by decide +kernel⟩ rfl rfl) rfl (pi_list (pe_dget (hu_of hr) (pv 0) pe_str (fun _ _ => rfl))) (fun _ _ _ _ _ => pg_name (i := 0) (show (["_law_part", "_law_pair"] : List Str).Nodup by decide +kernel) rfl (Or.inl rfl)) (fun _ _ _ _ _ => pif_one (pt_cmpR (r := rIn K false) op_in_seq (pe_ix (r := rIxT K) ix_tup (pv 1) pe_int (fun _ _ => rfl)) (pv 0) (by rfl))) (fun _ _ _ _ _ => pv 0)) pe_int (fun _ _ => rfl)))
      (pss_cons (ps_set (i := 5) scDo.nd rfl (Or.inl rfl) (pe_ix ix_list (pe_comp (T := ["_law_part"]) (F := ["_law_pair"]) (js := [1]) (CS.to (osc := defScope sDo) ⟨by rfl, by decide +kernel, by decide +kernel, by decide +kernel, by decide +kernel, by decide +kernel, by decide +kernel⟩ rfl rfl) rfl (pi_list (pe_dget (hu_of hr) (pv 0) pe_str (fun _ _ => rfl))) (fun _ _ _ _ _ => pg_name (i := 0) (show (["_law_part", "_law_pair"] : List Str).Nodup by decide +kernel) rfl (Or.inl rfl)) (fun _ _ _ _ _ => pif_one (pt_cmpR (r := rIn K false) op_in_seq (pe_ix (r := rIxT K) ix_tup (pv 1) pe_int (fun _ _ => rfl)) (pv 0) (by rfl))) (fun _ _ _ _ _ => pv 0)) pe_int (fun _ _ => rfl)))
      (pss_cons (ps_if (pt_cmpR (op_eqD hr.units) (pv 4) (pv 5) (nomark _)) (pss_cons (ps_dput (hu_of hr) (pv 0) pe_str (pe_op op_add (pe_dget (hu_of hr) (pv 0) pe_str (fun _ _ => rfl)) (pe_callTy call_int1 (by rfl) T.int (by decide +kernel) (pa_cons (pv 3) pa_nil))) rfl)
      (pss_one (ps_ret pe_bl))) pss_nil)
      (pss_cons (ps_if (PW.pt (pw_or (pt_cmpR op_lt (pe_callB call_len_seq (by rfl) T.len PySem.boot_len (pa_cons (pv 4) pa_nil)) (pe_callB call_len_seq (by rfl) T.len PySem.boot_len (pa_cons (pv 5) pa_nil)) (nomark _)) (pw_or1 (PW.pt (pw_and (pt_cmpR op_eq (pe_callB call_len_seq (by rfl) T.len PySem.boot_len (pa_cons (pv 4) pa_nil)) (pe_callB call_len_seq (by rfl) T.len PySem.boot_len (pa_cons (pv 5) pa_nil)) (nomark _)) (pw_and1 (pt_cmpR op_gt (pe_ix ix_list (pv 4) pe_int (fun _ _ => rfl)) (pe_ix ix_list (pv 5) pe_int (fun _ _ => rfl)) (nomark _)))))))) (pss_one (ps_par (i := 4) (j := 5) rfl scDo.nd rfl rfl (by decide) rfl rfl (pa_cons (pv 5) (pa_cons (pv 4) pa_nil)) rfl)) pss_nil)
      (PSs.imp' (t' := tTailD) (pss_cons (ps_if (pt_val (pv 3)) (pss_one (ps_for PassesOwn.never rfl (pi_list (pv 5)) (pg_name (i := 6) scDo.nd rfl (Or.inl rfl)) (pss_one (ps_asg (pe_op op_sub pe_int (pe_ix ix_list (pv 2) (pv 6) (fun _ _ => rfl))) (pg_sub (pv 2) (pv 6) set_list))))) pss_nil)
      (PSs.imp' (t' := tTailD2) (pss_cons (ps_expr (pe_bm PySem.F.plainAttrs_list PySem.F.slot_list_remove PySem.F.type_list_remove (mt_remove hr.units) (pe_dget (hu_of hr) (pv 0) pe_str (fun _ _ => rfl)) (pa_cons (pv 5) pa_nil)))
      (pss_cons (ps_expr (pe_bm PySem.F.plainAttrs_list PySem.F.slot_list_extend PySem.F.type_list_extend mt_extend (pv 4) (pa_cons (pv 5) pa_nil)))
      (pss_one (ps_ret pe_bl)))) ?tail2)) ?tail)))))), ?_⟩
    case tail2 =>
      rintro D σ H ⟨d, pr, Pa, Sd, ak, ta, ps, st, n, qk, qt, like, u, rfl, hM, hG, hk, ht, hne, k⟩
      obtain ⟨j, hj⟩ := List.mem_iff_getElem?.mp ht
      have hn := hM.n
      rw [List.nodup_cons, List.nodup_cons] at hn
      obtain ⟨nP, nS, nd⟩ := hn
      have nh : (ps.map fun p => hd p.2).Nodup := by have := hG.nd; rw [List.map_map] at this; exact this
      have am : ak ∈ ps.map (·.1) := List.mem_map.mpr ⟨_, hk, rfl⟩
      have aP : ak ≠ Pa := fun e => nP (by rw [← e]; exact List.mem_cons_of_mem _ am)
      have aS : ak ≠ Sd := fun e => nS (by rw [← e]; exact am)
      have tm : ta ∈ ps.map (·.1) := List.mem_map.mpr ⟨_, ht, rfl⟩
      have tP : ta ≠ Pa := fun e => nP (by rw [← e]; exact List.mem_cons_of_mem _ tm)
      have SP : Sd ≠ Pa := fun e => nP (by rw [← e]; exact List.mem_cons_self)
      have dP : d ≠ Pa := fun e => by have := hM.d; rw [e, hM.p] at this; cases this
      have dA : d ≠ ak := fun e => by have := hM.d; rw [e, hM.e _ hk] at this; cases this
      refine ⟨_, rfl, d, _, rfl, hM.gp, .inl ⟨rfl, _, SqL.of hM.p⟩, _, rfl, Pa, ps, j, ta, qt, rfl, rfl, hM.p, hM.e, hj, fun m p hm hp e => ?_, ?_⟩
      · have := nodup_inj nh (List.mem_of_getElem? hp) ht (by show hd p.2 = hd qt; rw [e])
        subst this
        have pw := List.pairwise_iff_getElem.mp nd
        obtain ⟨m1, e1⟩ := List.getElem?_eq_some_iff.mp hp
        obtain ⟨j1, e2⟩ := List.getElem?_eq_some_iff.mp hj
        refine pw m j (by simpa using m1) (by simpa using j1) hm ?_
        rw [List.getElem_map, List.getElem_map, e1, e2]
      generalize hH1 : upd H Pa _ = H1
      have k1 : H1 ak = some (.lst (qk.map V.int)) := by rw [← hH1, upd_ne aP]; exact hM.e _ hk
      have t1 : H1 ta = some (.lst (qt.map V.int)) := by rw [← hH1, upd_ne tP]; exact hM.e _ ht
      have lk : qk.length ≤ 24 := by
        rw [← hG.cnt qk (List.mem_map.mpr ⟨_, hk, rfl⟩)]
        have := List.count_le_length (a := hd qk) (l := st.tops)
        have := hG.ok.t
        have := hG.ok.n2
        omega
      have lt : qt.length ≤ 24 := by
        rw [← hG.cnt qt (List.mem_map.mpr ⟨_, ht, rfl⟩)]
        have := List.count_le_length (a := hd qt) (l := st.tops)
        have := hG.ok.t
        have := hG.ok.n2
        omega
      refine ⟨_, rfl, .inl ⟨rfl, _, SqL.of k1⟩, _, rfl, ak, ta, _, _, rfl, rfl, k1, t1, small (by simp; omega), ?_⟩
      refine k (psJ ps j ak (qk ++ qt)) _ (fun b o e nb => ?_) (fun b hb => ?_) ⟨?_, ?_, ?_, fun p hp => ?_, ?_⟩ (parts_join hG nd hk hj hne (by cases like <;> simp))
      · simp only [List.mem_cons, not_or] at nb
        obtain ⟨n1, n2, n3, n4⟩ := nb
        rw [upd_ne fun z => n4 (by rw [z]; exact am), ← hH1, upd_ne n2]; exact e
      · rw [psJ_addr] at hb
        exact ((List.eraseIdx_sublist ps j).map _).mem hb
      · rw [upd_ne dA, ← hH1, upd_ne dP]; exact hM.d
      · rw [upd_ne aP.symm, ← hH1, upd_same, psJ_refs]
      · rw [upd_ne aS.symm, ← hH1, upd_ne SP]; exact hM.s
      · rcases mem_psJ hp with rfl | ⟨hp, hn⟩
        · rw [upd_same, List.map_append]
        · have pm := List.mem_of_mem_eraseIdx hp
          have pP : p.1 ≠ Pa := fun e => nP (by rw [← e]; exact List.mem_cons_of_mem _ (List.mem_map.mpr ⟨p, pm, rfl⟩))
          rw [upd_ne hn, ← hH1, upd_ne pP]; exact hM.e _ pm
      · rw [psJ_addr]
        exact (((List.eraseIdx_sublist ps j).map _).cons₂ Sd |>.cons₂ Pa).nodup hM.n
    case tail =>
      rintro D σ H ⟨d, pr, Pa, Sd, ak, ta, ps, st, n, qk, qt, like, rfl, hM, hG, hk, ht, hne, k⟩
      have hn := hM.n
      rw [List.nodup_cons, List.nodup_cons] at hn
      obtain ⟨nP, nS, nd⟩ := hn
      have tm : ta ∈ ps.map (·.1) := List.mem_map.mpr ⟨_, ht, rfl⟩
      have tS : ta ≠ Sd := fun e => nS (by rw [← e]; exact tm)
      have SP : Sd ≠ Pa := fun e => nP (by rw [← e]; exact List.mem_cons_self)
      have dS : d ≠ Sd := fun e => by have := hM.d; rw [e, hM.s] at this; cases this
      have qm : qt ∈ ps.map (·.2) := List.mem_map.mpr ⟨_, ht, rfl⟩
      obtain ⟨qne, qel⟩ := hG.el _ qm
      have hs := hG.ok.s
      refine ⟨_, rfl, _, rfl, ite2 (fun g => ?_) fun g => ?_⟩
      · have g : like = true := by simpa using g
        subst g
        refine ⟨_, rfl, ta, rfl, ⟨_, SqL.of (hM.e _ ht)⟩, for_list (K := K) (a := ta) (xs := qt.map V.int) (fun i σ H2 => ∃ (u : Option V) (ts : List Int), σ = [some (.ref d), some (.ref pr), some (.ref Sd), some (.bl true), some (.ref ak), some (.ref ta), u] ∧ But Sd H H2 ∧ H2 Sd = some (.lst (ts.map V.int)) ∧ Turned st.sides ts (qt.take i)) ⟨none, st.sides, rfl, fun b o e _ => e, hM.s, rfl, fun p _ => by simp⟩ (fun i σ H2 _ ⟨_, _, _, b2, _⟩ => SqL.of (b2 _ _ (hM.e _ ht) tS)) ?_ ?_⟩
        · rintro i x σ H2 hx ⟨u, ts, rfl, b2, e2, hT⟩
          obtain ⟨c, hc, rfl⟩ := int_of hx
          obtain ⟨il, ce⟩ := List.getElem?_eq_some_iff.mp hc
          obtain ⟨c0, c1, _⟩ := qel c (List.mem_of_getElem? hc)
          have cl : c.toNat < ts.length := by rw [hT.1]; omega
          have ca : atI (ts.map V.int) c = some (.int (ts.getD c.toNat 0)) := by
            rw [show c = ((c.toNat : Nat) : Int) by omega]
            refine atI_nat ?_
            rw [List.getElem?_map, Int.toNat_natCast, List.getElem?_eq_getElem cl, getD_get cl]
            rfl
          refine ⟨_, rfl, _, rfl, Sd, _, c, _, rfl, rfl, SqL.of e2, ca, _, _, rfl, rfl, _, rfl, _, rfl, Sd, _, c, c.toNat, rfl, rfl, e2, ixN_nat (by omega) (by rw [List.length_map]; exact cl), ?_⟩
          refine ⟨_, _, rfl, fun b o e nb => by rw [upd_ne nb]; exact b2 _ _ e nb, by rw [upd_same, List.map_set], ?_⟩
          rw [List.take_succ_eq_append_getElem il, ce]
          refine hT.step c0 (by omega) fun z => ?_
          obtain ⟨m, hm, em⟩ := List.mem_iff_getElem.mp z
          have pw := List.pairwise_iff_getElem.mp (hG.nq _ qm)
          rw [List.length_take] at hm
          rw [List.getElem_take] at em
          exact pw m i (by omega) il (by omega) (by rw [em, ce])
        · rintro σ H2 ⟨u, ts, rfl, b2, e2, hT⟩
          rw [List.length_map, List.take_length] at hT
          have := hT.all hG qm
          subst this
          refine ⟨d, pr, Pa, Sd, ak, ta, ps, st, n, qk, qt, true, u, rfl, ⟨b2 _ _ hM.d dS, b2 _ _ hM.p SP.symm, e2, fun p hp => b2 _ _ (hM.e p hp) fun e => nS (by rw [← e]; exact List.mem_map.mpr ⟨p, hp, rfl⟩), hM.n⟩, hG, hk, ht, hne, fun ps' H' f1 f2 f3 f4 => k ps' H' (fun b o e nb => f1 b o (b2 _ _ e fun z => nb (by simp [z])) nb) f2 f3 f4⟩
      · have g : like = false := by simpa using g
        subst g
        refine ⟨d, pr, Pa, Sd, ak, ta, ps, st, n, qk, qt, false, none, rfl, ?_, hG, hk, ht, hne, k⟩
        show ModelAt H d Pa Sd ps (newSides st.tops st.sides (hd qt) 0) st.odds
        rw [sides_zero hG]
        exact hM
    have hs := hG.ok.s
    have ht := hG.ok.t
    have lp := hM.len hG
    have n2 := hG.ok.n2
    have sa : ∀ {m : Nat}, m < n → atI (st.sides.map V.int) (m : Int) = some (.int (st.sides.getD m 0)) := fun {m} hm => atI_nat (by rw [List.getElem?_map, List.getElem?_eq_getElem (by omega), getD_get (show m < st.sides.length by omega)]; rfl)
    refine ⟨_, rfl, d, _, rfl, hM.gs, ?_⟩
    refine ⟨_, rfl, _, rfl, pr, _, 0, _, rfl, rfl, SqT.of hpr, at0, Sd, _, (i : Int), _, rfl, rfl, SqL.of hM.s, sa hi, _, rfl, _, rfl, pr, _, 1, _, rfl, rfl, SqT.of hpr, at1, Sd, _, (j : Int), _, rfl, rfl, SqL.of hM.s, sa hj, rfl, ?_⟩
    have lk : decide (V.int (st.sides.getD i 0) = V.int (st.sides.getD j 0)) = decide (st.sides.getD i 0 = st.sides.getD j 0) := by
      rw [Bool.eq_iff_iff]; simp
    rw [lk]
    have fst : ∀ (x : Nat), x < n → ∃ (y : Addr × List Int) (ys : List (Addr × List Int)), ps.filter (fun p => decide ((x : Int) ∈ p.2)) = y :: ys ∧ y ∈ ps ∧ (x : Int) ∈ y.2 := fun x hx => by
      obtain ⟨q, hq, hm⟩ := hG.cov x hx
      obtain ⟨p, hp, rfl⟩ := List.mem_map.mp hq
      obtain ⟨y, ys, h1, h2, h3⟩ := first_mem (f := fun p : Addr × List Int => decide ((x : Int) ∈ p.2)) hp (by simpa using hm)
      exact ⟨y, ys, h1, h2, by simpa using h3⟩
    obtain ⟨⟨ha, qa⟩, ys1, fa, ma, ia⟩ := fst i hi
    obtain ⟨⟨hb, qb⟩, ys2, fb, mb, ib⟩ := fst j hj
    refine ⟨_, rfl, d, _, rfl, hM.gp, Pa, rfl, ⟨_, SqL.of hM.p⟩, fun D1 hD1 => comp_list (K := K) (a := Pa) (xs := ps.map fun p => V.ref p.1) (fun m σ ys H2 => ∃ u : Option V, σ = [u, some (.ref pr)] ∧ Same H H2 ∧ H2 D1 = some (.lst ys) ∧ ys = ((ps.take m).filter (fun p => decide ((i : Int) ∈ p.2))).map (fun p => V.ref p.1))
      ⟨none, rfl, same_new hD1, upd_same, rfl⟩ (fun m σ ys H2 _ ⟨_, _, s2, e, _⟩ => ⟨SqL.of (s2 _ _ hM.p), e⟩) ?_ ?_⟩
    · rintro m x σ ys H2 hx ⟨u, rfl, s2, e2, rfl⟩
      rw [List.getElem?_map] at hx
      obtain ⟨p, hp, rfl⟩ := Option.map_eq_some_iff.mp hx
      obtain ⟨ml, pe⟩ := List.getElem?_eq_some_iff.mp hp
      have pm : p ∈ ps := List.mem_of_getElem? hp
      have ll : (((ps.take m).filter (fun p => decide ((i : Int) ∈ p.2))).map (fun p => V.ref p.1)).length ≤ 24 := by
        rw [List.length_map]
        exact Nat.le_trans (List.length_filter_le _ _) (by rw [List.length_take]; omega)
      refine ⟨_, rfl, pr, _, 0, _, rfl, rfl, SqT.of (s2 _ _ hpr), at0, _, rfl, p.1, _, rfl, .inl (SqL.of (s2 _ _ (hM.e p pm))), rfl, flat_ints _, _, rfl, ?_⟩
      rw [show (if false = true then !inV (.int (i : Int)) (p.2.map V.int) else inV (.int (i : Int)) (p.2.map V.int)) = decide ((i : Int) ∈ p.2) by rw [if_neg Bool.false_ne_true, in_ints]]
      have tk : (ps.take (m + 1)).filter (fun p => decide ((i : Int) ∈ p.2)) = (ps.take m).filter (fun p => decide ((i : Int) ∈ p.2)) ++ (if (i : Int) ∈ p.2 then [p] else []) := by
        rw [List.take_succ_eq_append_getElem ml, pe, List.filter_append, List.filter_cons, List.filter_nil]
        simp only [decide_eq_true_eq]
      refine ite2 (fun g => ?_) fun g => ?_
      · rw [if_pos (by simpa using g)] at tk
        exact ⟨_, rfl, e2, small1000 (by omega), _, rfl, fun b o e => by rw [upd_ne (ne_of_none e hD1)]; exact s2 _ _ e, upd_same, by rw [tk, List.map_append]; rfl⟩
      · rw [if_neg (by simpa using g), List.append_nil] at tk
        exact ⟨_, rfl, s2, e2, by rw [tk]⟩
    rintro σ ys HD1 ⟨u, rfl, sD1, eD1, rfl⟩
    rw [List.length_map, List.take_length, fa] at eD1
    refine ⟨D1, _, 0, _, rfl, rfl, SqL.of eD1, at0, ?_⟩
    have hM1 := hM.same sD1
    have hpr1 := sD1 _ _ hpr
    refine ⟨_, rfl, d, _, rfl, hM1.gp, Pa, rfl, ⟨_, SqL.of hM1.p⟩, fun D2 hD2 => comp_list (K := K) (a := Pa) (xs := ps.map fun p => V.ref p.1) (fun m σ ys H2 => ∃ u : Option V, σ = [u, some (.ref pr)] ∧ Same HD1 H2 ∧ H2 D2 = some (.lst ys) ∧ ys = ((ps.take m).filter (fun p => decide ((j : Int) ∈ p.2))).map (fun p => V.ref p.1))
      ⟨none, rfl, same_new hD2, upd_same, rfl⟩ (fun m σ ys H2 _ ⟨_, _, s2, e, _⟩ => ⟨SqL.of (s2 _ _ hM1.p), e⟩) ?_ ?_⟩
    · rintro m x σ ys H2 hx ⟨u, rfl, s2, e2, rfl⟩
      rw [List.getElem?_map] at hx
      obtain ⟨p, hp, rfl⟩ := Option.map_eq_some_iff.mp hx
      obtain ⟨ml, pe⟩ := List.getElem?_eq_some_iff.mp hp
      have pm : p ∈ ps := List.mem_of_getElem? hp
      have ll : (((ps.take m).filter (fun p => decide ((j : Int) ∈ p.2))).map (fun p => V.ref p.1)).length ≤ 24 := by
        rw [List.length_map]
        exact Nat.le_trans (List.length_filter_le _ _) (by rw [List.length_take]; omega)
      refine ⟨_, rfl, pr, _, 1, _, rfl, rfl, SqT.of (s2 _ _ hpr1), at1, _, rfl, p.1, _, rfl, .inl (SqL.of (s2 _ _ (hM1.e p pm))), rfl, flat_ints _, _, rfl, ?_⟩
      rw [show (if false = true then !inV (.int (j : Int)) (p.2.map V.int) else inV (.int (j : Int)) (p.2.map V.int)) = decide ((j : Int) ∈ p.2) by rw [if_neg Bool.false_ne_true, in_ints]]
      have tk : (ps.take (m + 1)).filter (fun p => decide ((j : Int) ∈ p.2)) = (ps.take m).filter (fun p => decide ((j : Int) ∈ p.2)) ++ (if (j : Int) ∈ p.2 then [p] else []) := by
        rw [List.take_succ_eq_append_getElem ml, pe, List.filter_append, List.filter_cons, List.filter_nil]
        simp only [decide_eq_true_eq]
      refine ite2 (fun g => ?_) fun g => ?_
      · rw [if_pos (by simpa using g)] at tk
        exact ⟨_, rfl, e2, small1000 (by omega), _, rfl, fun b o e => by rw [upd_ne (ne_of_none e hD2)]; exact s2 _ _ e, upd_same, by rw [tk, List.map_append]; rfl⟩
      · rw [if_neg (by simpa using g), List.append_nil] at tk
        exact ⟨_, rfl, s2, e2, by rw [tk]⟩
    rintro σ ys HD2 ⟨u, rfl, sD2, eD2, rfl⟩
    rw [List.length_map, List.take_length, fb] at eD2
    refine ⟨D2, _, 0, _, rfl, rfl, SqL.of eD2, at0, ?_⟩
    have hM2 := hM1.same sD2
    have sH := sD1.trans sD2
    clear sD1 sD2 eD1 eD2 hM hM1
    have ea := hG.el qa (List.mem_map.mpr ⟨_, ma, rfl⟩)
    have eb := hG.el qb (List.mem_map.mpr ⟨_, mb, rfl⟩)
    have ta : st.tops.getD i 0 = hd qa := by have := (ea.2 _ ia).2.2; rwa [Int.toNat_natCast] at this
    have tb : st.tops.getD j 0 = hd qb := by have := (eb.2 _ ib).2.2; rwa [Int.toNat_natCast] at this
    have ca := hG.cnt qa (List.mem_map.mpr ⟨_, ma, rfl⟩)
    have cb := hG.cnt qb (List.mem_map.mpr ⟨_, mb, rfl⟩)
    have hab : hd qa = hd qb → qa = qb := fun e => nodup_inj hG.nd (List.mem_map.mpr ⟨_, ma, rfl⟩) (List.mem_map.mpr ⟨_, mb, rfl⟩) e
    refine ⟨_, rfl, _, rfl, _, _, .lst (SqL.of (hM2.e _ ma)) (repI _), .lst (SqL.of (hM2.e _ mb)) (repI _), layI _, layI _, depI _, _, rfl, ?_⟩
    rw [eqI]
    refine ite2 (fun g => ?_) fun g => ?_
    · have g : qa = qb := by simpa using g
      have ab : st.tops.getD i 0 = st.tops.getD j 0 := by rw [ta, tb, g]
      refine ⟨_, rfl, d, _, rfl, hM2.go, _, rfl, .inr ⟨_, rfl, _, _, rfl, rfl, _, rfl, d, _, rfl, .inl ⟨_, .inr "odd", hM2.d, rfl, small1000 (by simp [kvs3]), rfl⟩, ?_⟩⟩
      rw [put_odd, turn_like]
      rw [joinS_eq ab] at k
      have dn : ∀ {b : Addr} {xs : List V}, HD2 b = some (.lst xs) → b ≠ d := fun {b xs} e z => by rw [z, hM2.d] at e; cases e
      refine k ps _ (fun b o e nb => ?_) (fun _ h => h) ⟨upd_same, ?_, ?_, fun p hp => ?_, hM2.n⟩ (hG.odd _)
      · rw [upd_ne fun z => nb (by simp [z])]; exact sH _ _ e
      · rw [upd_ne (dn hM2.p)]; exact hM2.p
      · rw [upd_ne (dn hM2.s)]; exact hM2.s
      · rw [upd_ne (dn (hM2.e p hp))]; exact hM2.e p hp
    have g : ¬ qa = qb := by simpa using g
    have ab : ¬ st.tops.getD i 0 = st.tops.getD j 0 := by rw [ta, tb]; exact fun e => g (hab e)
    have hn : hd qa ≠ hd qb := fun e => g (hab e)
    have fin : ∀ qk qt, kt st.tops (hd qa) (hd qb) = (hd qk, hd qt) → ∀ (ps' : List (Addr × List Int)) (H' : Hp), Frm d Pa Sd (ps.map (·.1)) HD2 H' → (∀ b ∈ ps'.map (·.1), b ∈ ps.map (·.1)) → ModelAt H' d Pa Sd ps' (newSides st.tops st.sides (hd qt) (if decide (st.sides.getD i 0 = st.sides.getD j 0) = true then 1 else 0)) st.odds →
        Good n (ps'.map (·.2)) ⟨newTops st.tops (hd qk) (hd qt), newSides st.tops st.sides (hd qt) (if decide (st.sides.getD i 0 = st.sides.getD j 0) = true then 1 else 0), st.odds⟩ → Q (.bl true) H' := by
      intro qk qt hkt ps' H' f1 f2 f3 f4
      rw [joinS_ne ab, ta, tb, hkt] at k
      rw [turn_like] at f3 f4
      exact k ps' H' (fun b o e nb => f1 b o (sH _ _ e) nb) f2 f3 f4
    dsimp only [tNext]
    refine ⟨_, rfl, ha, _, rfl, .inl (SqL.of (hM2.e _ ma)), _, rfl, hb, _, rfl, .inl (SqL.of (hM2.e _ mb)), _, _, rfl, rfl, _, rfl, ite2 (fun c => ?_) fun c => ?_⟩
    · have c : qa.length < qb.length := by simpa using c
      refine iteT ⟨_, rfl, _, rfl, _, _, rfl, d, pr, Pa, Sd, hb, ha, ps, st, n, qb, qa, _, rfl, hM2, hG, mb, ma, fun e => g e.symm, fin qb qa ?_⟩
      unfold kt
      rw [if_neg]
      unfold staysB
      rw [ca, cb]
      simp only [Bool.or_eq_true, Bool.and_eq_true, decide_eq_true_eq, not_or, not_and]
      omega
    have c : ¬ qa.length < qb.length := by simpa using c
    refine ⟨_, rfl, ha, _, rfl, .inl (SqL.of (hM2.e _ ma)), _, rfl, hb, _, rfl, .inl (SqL.of (hM2.e _ mb)), rfl, _, rfl, ite2 (fun c2 => ?_) fun c2 => ?_⟩
    · have c2 : ((qa.length : Nat) : Int) = (qb.length : Nat) := by simpa using c2
      refine ⟨_, rfl, ha, _, 0, _, rfl, rfl, SqL.of (hM2.e _ ma), hd_at ea.1, _, rfl, hb, _, 0, _, rfl, rfl, SqL.of (hM2.e _ mb), hd_at eb.1, _, _, rfl, rfl, _, rfl, ite2 (fun c3 => ?_) fun c3 => ?_⟩
      · have c3 : hd qb < hd qa := by simpa using c3
        refine ⟨_, rfl, _, rfl, _, _, rfl, d, pr, Pa, Sd, hb, ha, ps, st, n, qb, qa, _, rfl, hM2, hG, mb, ma, fun e => g e.symm, fin qb qa ?_⟩
        unfold kt
        rw [if_neg]
        unfold staysB
        rw [ca, cb]
        simp only [Bool.or_eq_true, Bool.and_eq_true, decide_eq_true_eq, not_or, not_and]
        omega
      · have c3 : ¬ hd qb < hd qa := by simpa using c3
        refine ⟨d, pr, Pa, Sd, ha, hb, ps, st, n, qa, qb, _, rfl, hM2, hG, ma, mb, g, fin qa qb ?_⟩
        unfold kt
        rw [if_pos]
        unfold staysB
        rw [ca, cb]
        simp only [Bool.or_eq_true, Bool.and_eq_true, decide_eq_true_eq]
        omega
    · have c2 : ¬ ((qa.length : Nat) : Int) = (qb.length : Nat) := by simpa using c2
      refine iteF ⟨d, pr, Pa, Sd, ha, hb, ps, st, n, qa, qb, _, rfl, hM2, hG, ma, mb, g, fin qa qb ?_⟩
      unfold kt
      rw [if_pos]
      unfold staysB
      rw [ca, cb]
      simp only [Bool.or_eq_true, Bool.and_eq_true, decide_eq_true_eq]
      omega
end
end K20
set_option maxHeartbeats 4000000
namespace K20
open PySem L2
def stD (st : S3) : PyData := .tuple [.tuple (st.tops.map PyData.int), .tuple (st.sides.map PyData.int), .int st.odds]
theorem StAt.rep {K : PySem.W.Frag} {H : Hp} {r : Addr} {st : S3} (h : StAt H r st) : Rep K H (.ref r) (stD st) := by
  obtain ⟨a, b, h1, h2, h3⟩ := h
  exact .tup (SqT.of h1) (.cons (.tup (SqT.of h2) (repI _)) (.cons (.tup (SqT.of h3) (repI _)) (.cons (.int _) .nil)))
theorem layA (ns : List Int) : PyData.canLayAll0 (ns.map PyData.int) = true := by
  induction ns with
  | nil => rfl
  | cons n ns ih => show (true && PyData.canLayAll0 _) = true; rw [ih]; rfl
theorem stD_lay (st : S3) : (stD st).canLay0 = true := by
  show (PyData.canLayAll0 _ && (PyData.canLayAll0 _ && (true && true))) = true
  rw [layA, layA]; rfl
theorem depA (ns : List Int) : PyData.depthAll (ns.map PyData.int) ≤ 1 := by
  induction ns with
  | nil => simp [PyData.depthAll]
  | cons n ns ih => simp only [List.map_cons, PyData.depthAll, PyData.depth]; omega
theorem stD_dep (st : S3) : (stD st).depth ≤ 20 := by
  have h1 := depA st.tops
  have h2 := depA st.sides
  simp only [stD, PyData.depth, PyData.depthAll]
  omega
theorem stD_eqv (st : S3) : PyData.eqv (stD st) (stD st) = true := SeqAt.eqv_refl _ (stD_lay st)
theorem repL {K : PySem.W.Frag} {H : Hp} {a : Addr} {ns : List Int} (h : H a = some (.lst (ns.map V.int))) : Rep K H (.ref a) (.list (ns.map PyData.int)) := .lst (SqL.of h) (repI _)
def spShownR (C : Addr) : Sp := fun vs H Q _ => ∃ (x S d Pa Sd : Addr) (pre : List S3) (st : S3) (ps : List (Addr × List Int)) (n : Nat) (z : Int), vs = [.ref x, .ref d, .int z] ∧ TkAt C H x S (pre ++ [st]) ∧ ModelAt H d Pa Sd ps st.sides st.odds ∧ Good n (ps.map (·.2)) st ∧ z = (pre.length : Nat) ∧ ∀ H', Same H H' → Q (.bl true) H'
def spPlaceR (C : Addr) : Sp := fun vs H Q _ => ∃ (x S d Pa Sd : Addr) (pre : List S3) (st : S3) (ps : List (Addr × List Int)) (n i : Nat), vs = [.ref x, .ref d, .int (i : Nat)] ∧ TkAt C H x S (pre ++ [st]) ∧ ModelAt H d Pa Sd ps st.sides st.odds ∧ Good n (ps.map (·.2)) st ∧ i < n ∧ ∀ H', Same H H' → Q (.bl true) H'
section
variable {P : Program} {w : World} {K : PySem.W.Frag} {mg : Str → Option Value} {base : Heap} {C I N J B : Addr}
theorem scShownR : FnScope ["_law_takes", "_law_model", "_law_laid", "_law_told", "_law_counts"] ["_law_takes", "_law_model", "_law_laid"] (defScope sShownR) := ⟨rfl, rfl, rfl, by decide +kernel, rfl, by decide +kernel, by decide +kernel⟩
theorem ok_ShownR {f : Addr} {fd : FuncData} (F : Fun K "_law_shown_right" "_law_shown_right" sShownR f fd) (T : Txt K mg C I N J B)
    {gShown : Addr} {fShown : FuncData} (bShown : Binds K fShown ["self"] []) (hShown : Meth K C "shown" gShown) (GShown : FnOk P w K mg base CX0 3 gShown fShown ["self"] (spShown C))
    {gDue : Addr} {fDue : FuncData} (kDue : PySem.W.keepIn K (.ref gDue) = true) (bDue : Binds K fDue ["_law_model"] []) (hDue : mg "_law_due_of" = some (.ref gDue)) (GDue : FnOk P w K mg base CX0 3 gDue fDue ["_law_model"] spDue)
    {gParts : Addr} {fParts : FuncData} (bParts : Binds K fParts ["self"] []) (hParts : Meth K C "parts" gParts) (GParts : FnOk P w K mg base CX0 3 gParts fParts ["self"] (spParts C))
    {gOdd : Addr} {fOdd : FuncData} (bOdd : Binds K fOdd ["self"] []) (hOdd : Meth K C "odd" gOdd) (GOdd : FnOk P w K mg base CX0 3 gOdd fOdd ["self"] (spOdd C))
    {gJoins : Addr} {fJoins : FuncData} (bJoins : Binds K fJoins ["self"] []) (hJoins : Meth K C "joins" gJoins) (GJoins : FnOk P w K mg base CX0 3 gJoins fJoins ["self"] (spJoins C))
    {gWholes : Addr} {fWholes : FuncData} (kWholes : PySem.W.keepIn K (.ref gWholes) = true) (bWholes : Binds K fWholes ["_law_things"] []) (hWholes : mg "_law_are_wholes" = some (.ref gWholes)) (GWholes : FnOk P w K mg base CX0 3 gWholes fWholes ["_law_things"] spWholes) :
    FnOk P w K mg base CX0 4 f fd ["_law_takes", "_law_model", "_law_laid"] (spShownR C) := by
  refine F.ok scShownR (fun vs H Q E h => ?_) (fun cdv A outer s H vs Q E hr h => ?_)
  · obtain ⟨_, _, _, _, _, _, _, _, _, _, rfl, _⟩ := h; rfl
  · obtain ⟨x, S, d, Pa, Sd, pre, st, ps, n, z, rfl, hT, hM, hG, rfl, k⟩ := h
    refine ⟨_, pss_cons (ps_set (i := 3) scShownR.nd rfl (Or.inl rfl) (pe_meth0 (pv 0) T.cl hShown GShown hr bShown .nil pass0))
      (pss_cons (ps_if (PW.pt (pw_or (pt_not (pt_val (pe_callB call_isi (by rfl) T.isinstance (by decide +kernel) (pa_cons (pv 3) (pa_cons (pe_ty (T := "tuple") (by rfl) T.tuple (by decide +kernel)) pa_nil))))) (pw_or1 (pt_cmpR (op_neD hr.units) (pv 3) (pe_call GDue hr rfl hDue kDue bDue .nil pass0 (pa_cons (pv 1) pa_nil)) (nomark _))))) (pss_one (ps_ret pe_bl)) pss_nil)
      (pss_cons (ps_if (PW.pt (pw_or (pt_not (pt_val (pe_callB call_isi (by rfl) T.isinstance (by decide +kernel) (pa_cons (pe_ix ix_tup (pv 3) pe_int (fun _ _ => rfl)) (pa_cons (pe_ty (T := "tuple") (by rfl) T.tuple (by decide +kernel)) pa_nil))))) (pw_or1 (pt_not (pt_val (pe_callB call_isi (by rfl) T.isinstance (by decide +kernel) (pa_cons (pe_ix ix_tup (pv 3) pe_int (fun _ _ => rfl)) (pa_cons (pe_ty (T := "tuple") (by rfl) T.tuple (by decide +kernel)) pa_nil)))))))) (pss_one (ps_ret pe_bl)) pss_nil)
      (pss_cons (ps_set (i := 4) scShownR.nd rfl (Or.inl rfl) (pe_lst (pa_cons (pe_meth0 (pv 0) T.cl hParts GParts hr bParts .nil pass0) (pa_cons (pe_meth0 (pv 0) T.cl hOdd GOdd hr bOdd .nil pass0) (pa_cons (pe_meth0 (pv 0) T.cl hJoins GJoins hr bJoins .nil pass0) pa_nil)))))
      (pss_cons (ps_if (pt_not (pt_val (pe_call GWholes hr rfl hWholes kWholes bWholes .nil pass0 (pa_cons (pe_op op_cat (pe_op op_cat (pv 4) (pe_lst (pa_cons (pe_ix ix_tup (pv 3) pe_int (fun _ _ => rfl)) pa_nil))) (pe_callTy call_list_of (by rfl) T.list (by decide +kernel) (pa_cons (pe_op op_catTT (pe_ix ix_tup (pv 3) pe_int (fun _ _ => rfl)) (pe_ix ix_tup (pv 3) pe_int (fun _ _ => rfl))) pa_nil))) pa_nil)))) (pss_one (ps_ret pe_bl)) pss_nil)
      (pss_one (ps_ret (pe_cmpR (op_eqD hr.units) (pv 4) (pe_lst (pa_cons (pe_callB call_len_seq (by rfl) T.len PySem.boot_len (pa_cons (pe_dget (hu_of hr) (pv 1) pe_str (fun _ _ => rfl)) pa_nil)) (pa_cons (pe_dget (hu_of hr) (pv 1) pe_str (fun _ _ => rfl)) (pa_cons (pv 2) pa_nil)))) (nomark _)))))))), ?_⟩
    obtain ⟨⟨dx, e1⟩, _, le⟩ := id hT
    refine ⟨_, rfl, x, dx, _, rfl, e1, flds_no S (by decide +kernel), x, S, pre, st, rfl, hT, fun r hst => ?_⟩
    obtain ⟨a, b, r1, r2, r3⟩ := id hst
    refine ⟨_, rfl, _, _, "tuple", true, rfl, .tup r1, rfl, true, rfl, iteF ⟨_, rfl, _, rfl, d, Pa, Sd, ps, st, n, rfl, hM, hG, fun r' H1 s1 hst' => ⟨_, _, (hst.tup (tupS_same s1)).rep, hst'.rep, stD_lay _, stD_lay _, stD_dep _, ?_⟩⟩⟩
    rw [stD_eqv]
    refine ⟨_, rfl, iteF ?_⟩
    have R1 := s1 _ _ r1
    have A1 := s1 _ _ r2
    have B1 := s1 _ _ r3
    refine ⟨_, rfl, r, _, 0, _, rfl, rfl, SqT.of R1, at0, _, _, "tuple", true, rfl, .tup A1, rfl, true, rfl, iteF ⟨_, rfl, r, _, 1, _, rfl, rfl, SqT.of R1, at1, _, _, "tuple", true, rfl, .tup B1, rfl, true, rfl, iteF ?_⟩⟩
    have hT1 := hT.same s1
    refine ⟨_, rfl, x, dx, _, rfl, s1 _ _ e1, flds_no S (by decide +kernel), x, S, pre, st, n, rfl, hT1, hG.ok, fun H2 s2 => ?_⟩
    have hT2 := hT1.same s2
    have E2 := s2 _ _ (s1 _ _ e1)
    refine ⟨_, rfl, x, dx, _, rfl, E2, flds_no S (by decide +kernel), x, S, pre, st, rfl, hT2, _, rfl, x, dx, _, rfl, E2, flds_no S (by decide +kernel), x, S, _, rfl, hT2, small (by simp), fun L hL => ?_⟩
    have s3 := (s1.trans s2).trans (same_new (o := .lst [V.int (partsN st.tops : Nat), V.int st.odds, V.int (((pre ++ [st]).length : Int) - 1)]) hL)
    have L3 := upd_same (H := H2) (a := L) (o := .lst [V.int (partsN st.tops : Nat), V.int st.odds, V.int (((pre ++ [st]).length : Int) - 1)])
    generalize upd H2 L (.lst [V.int (partsN st.tops : Nat), V.int st.odds, V.int (((pre ++ [st]).length : Int) - 1)]) = H3 at s3 L3
    refine ⟨_, rfl, _, rfl, r, _, 2, _, rfl, rfl, SqT.of (s3 _ _ r1), at2, small (by simp), fun q hq => ?_⟩
    have s4 := s3.trans (same_new (o := .lst [V.int st.odds]) hq)
    have L4 := same_new (o := .lst [V.int st.odds]) hq _ _ L3
    have q4 := upd_same (H := H3) (a := q) (o := .lst [V.int st.odds])
    generalize upd H3 q (.lst [V.int st.odds]) = H4 at s4 L4 q4
    refine ⟨L, q, _, _, rfl, rfl, L4, q4, small (by simp), fun L' hL' => ?_⟩
    generalize hzz : ([V.int (partsN st.tops : Nat), V.int st.odds, V.int (((pre ++ [st]).length : Int) - 1)] ++ [V.int st.odds] : List V) = zz
    have s5 := s4.trans (same_new (o := .lst zz) hL')
    have L5 := same_new (o := .lst zz) hL' _ _ L4
    have q5 := upd_same (H := H4) (a := L') (o := .lst zz)
    generalize upd H4 L' (.lst zz) = H5 at s5 L5 q5
    have ht := hG.ok.t
    have hs := hG.ok.s
    have n1 := hG.ok.n1
    have n2 := hG.ok.n2
    refine ⟨_, rfl, r, _, 0, _, rfl, rfl, SqT.of (s5 _ _ r1), at0, _, rfl, r, _, 1, _, rfl, rfl, SqT.of (s5 _ _ r1), at1, a, b, _, _, rfl, rfl, SqT.of (s5 _ _ r2), SqT.of (s5 _ _ r3), small (by simp; omega), fun e => ?_, fun _ e => ?_, fun _ _ p hp => ?_⟩
    · have := congrArg List.length e
      simp at this
      rw [this] at ht
      simp at ht
      omega
    · have := congrArg List.length e
      simp at this
      rw [this] at hs
      simp at hs
      omega
    generalize hyy : st.tops.map V.int ++ st.sides.map V.int = yy
    have s6 := s5.trans (same_new (o := .tup yy) hp)
    have L6 := same_new (o := .tup yy) hp _ _ L5
    have q6 := same_new (o := .tup yy) hp _ _ q5
    have p6 := upd_same (H := H5) (a := p) (o := .tup yy)
    generalize upd H5 p (.tup yy) = H6 at s6 L6 q6 p6
    refine ⟨p, _, rfl, .inr (SqT.of p6), fun l hl => ?_⟩
    have s7 := s6.trans (same_new (o := .lst yy) hl)
    have L7 := same_new (o := .lst yy) hl _ _ L6
    have q7 := same_new (o := .lst yy) hl _ _ q6
    have l7 := upd_same (H := H6) (a := l) (o := .lst yy)
    generalize upd H6 l (.lst yy) = H7 at s7 L7 q7 l7
    have zl : zz.length + yy.length ≤ 100 := by rw [← hzz, ← hyy]; simp; omega
    refine ⟨L', l, _, _, rfl, rfl, q7, l7, small (by omega), fun M hM' => ?_⟩
    have s8 := s7.trans (same_new (o := .lst (zz ++ yy)) hM')
    have L8 := same_new (o := .lst (zz ++ yy)) hM' _ _ L7
    have m8 := upd_same (H := H7) (a := M) (o := .lst (zz ++ yy))
    generalize upd H7 M (.lst (zz ++ yy)) = H8 at s8 L8 m8
    rw [show zz ++ yy = ([((partsN st.tops : Nat) : Int), st.odds, ((pre ++ [st]).length : Int) - 1] ++ [st.odds] ++ (st.tops ++ st.sides)).map V.int by rw [← hzz, ← hyy]; simp] at m8
    refine ⟨M, _, rfl, m8, fun H9 s9 => ⟨true, rfl, iteF ?_⟩⟩
    have s9' := s8.trans s9
    refine ⟨_, rfl, _, rfl, d, _, rfl, (hM.same s9').gp, Pa, _, rfl, .inl (SqL.of (hM.same s9').p), _, rfl, d, _, rfl, (hM.same s9').go, _, rfl, small (by simp), fun q2 hq2 => ?_⟩
    refine ⟨_, _, repL (ns := [((partsN st.tops : Nat) : Int), st.odds, ((pre ++ [st]).length : Int) - 1]) (same_new hq2 _ _ (s9 _ _ L8)), repL (ns := [(((ps.map fun p => V.ref p.1).length : Nat) : Int), st.odds, (pre.length : Nat)]) upd_same, layI _, layI _, depI _, ?_⟩
    rw [eqI, decide_eq_true]
    · exact k _ (s9'.trans (same_new hq2))
    · have := hG.num
      rw [List.length_map] at this
      simp [this]
theorem scPlaceR : FnScope ["_law_takes", "_law_model", "_law_place", "_law_part", "_law_told"] ["_law_takes", "_law_model", "_law_place"] (defScope sPlaceR) := ⟨rfl, rfl, rfl, by decide +kernel, rfl, by decide +kernel, by decide +kernel⟩
theorem ok_PlaceR {f : Addr} {fd : FuncData} (F : Fun K "_law_place_right" "_law_place_right" sPlaceR f fd) (T : Txt K mg C I N J B)
    {gTop : Addr} {fTop : FuncData} (bTop : Binds K fTop ["self", "place"] []) (hTop : Meth K C "top" gTop) (GTop : FnOk P w K mg base CX0 3 gTop fTop ["self", "place"] (spTop C))
    {gSide : Addr} {fSide : FuncData} (bSide : Binds K fSide ["self", "place"] []) (hSide : Meth K C "side" gSide) (GSide : FnOk P w K mg base CX0 3 gSide fSide ["self", "place"] (spSide C))
    {gSize : Addr} {fSize : FuncData} (bSize : Binds K fSize ["self", "place"] []) (hSize : Meth K C "size" gSize) (GSize : FnOk P w K mg base CX0 3 gSize fSize ["self", "place"] (spSize C))
    {gWholes : Addr} {fWholes : FuncData} (kWholes : PySem.W.keepIn K (.ref gWholes) = true) (bWholes : Binds K fWholes ["_law_things"] []) (hWholes : mg "_law_are_wholes" = some (.ref gWholes)) (GWholes : FnOk P w K mg base CX0 3 gWholes fWholes ["_law_things"] spWholes) :
    FnOk P w K mg base CX0 4 f fd ["_law_takes", "_law_model", "_law_place"] (spPlaceR C) := by
  refine F.ok scPlaceR (fun vs H Q E h => ?_) (fun cdv A outer s H vs Q E hr h => ?_)
  · obtain ⟨_, _, _, _, _, _, _, _, _, _, rfl, _⟩ := h; rfl
  · obtain ⟨x, S, d, Pa, Sd, pre, st, ps, n, i, rfl, hT, hM, hG, hi, k⟩ := h
    refine ⟨_, pss_cons (ps_set (i := 3) scPlaceR.nd rfl (Or.inl rfl) (pe_ix ix_list (pe_comp (T := ["_law_one"]) (F := ["_law_place"]) (js := [2]) (CS.to (osc := defScope sPlaceR) ⟨by rfl, by decide +kernel, by decide +kernel, by decide +kernel, by decide +kernel, by decide +kernel, by decide +kernel⟩ rfl rfl) rfl (pi_list (pe_dget (hu_of hr) (pv 1) pe_str (fun _ _ => rfl))) (fun _ _ _ _ _ => pg_name (i := 0) (show (["_law_one", "_law_place"] : List Str).Nodup by decide +kernel) rfl (Or.inl rfl)) (fun _ _ _ _ _ => pif_one (pt_cmpR (r := rIn K false) op_in_seq (pv 1) (pv 0) (by rfl))) (fun _ _ _ _ _ => pv 0)) pe_int (fun _ _ => rfl)))
      (pss_cons (ps_set (i := 4) scPlaceR.nd rfl (Or.inl rfl) (pe_lst (pa_cons (pe_meth (pv 0) T.cl hTop GTop hr bTop .nil pass0 (pa_cons (pv 2) pa_nil)) (pa_cons (pe_meth (pv 0) T.cl hSide GSide hr bSide .nil pass0 (pa_cons (pv 2) pa_nil)) (pa_cons (pe_meth (pv 0) T.cl hSize GSize hr bSize .nil pass0 (pa_cons (pv 2) pa_nil)) pa_nil)))))
      (pss_one (ps_ret (pe_and (pe_call GWholes hr rfl hWholes kWholes bWholes .nil pass0 (pa_cons (pv 4) pa_nil)) (pe_one (pe_cmpR (op_eqD hr.units) (pv 4) (pe_lst (pa_cons (pe_ix ix_list (pv 3) pe_int (fun _ _ => rfl)) (pa_cons (pe_ix ix_list (pe_dget (hu_of hr) (pv 1) pe_str (fun _ _ => rfl)) (pv 2) (fun _ _ => rfl)) (pa_cons (pe_callB call_len_seq (by rfl) T.len PySem.boot_len (pa_cons (pv 3) pa_nil)) pa_nil)))) (nomark _))))))), ?_⟩
    obtain ⟨⟨dx, e1⟩, _, le⟩ := id hT
    have hs := hG.ok.s
    have lp := hM.len hG
    obtain ⟨q, hq, hm⟩ := hG.cov i hi
    obtain ⟨p, hp, rfl⟩ := List.mem_map.mp hq
    obtain ⟨⟨ha, qa⟩, ys1, fa, ma, ia⟩ := first_mem (f := fun p : Addr × List Int => decide ((i : Int) ∈ p.2)) hp (by simpa using hm)
    have ia : (i : Int) ∈ qa := by simpa using ia
    clear hq hm hp
    refine ⟨_, rfl, d, _, rfl, hM.gp, Pa, rfl, ⟨_, SqL.of hM.p⟩, fun D1 hD1 => comp_list (K := K) (a := Pa) (xs := ps.map fun p => V.ref p.1) (fun m σ ys H2 => ∃ u : Option V, σ = [u, some (.int (i : Nat))] ∧ Same H H2 ∧ H2 D1 = some (.lst ys) ∧ ys = ((ps.take m).filter (fun p => decide ((i : Int) ∈ p.2))).map (fun p => V.ref p.1))
      ⟨none, rfl, same_new hD1, upd_same, rfl⟩ (fun m σ ys H2 _ ⟨_, _, s2, e, _⟩ => ⟨SqL.of (s2 _ _ hM.p), e⟩) ?_ ?_⟩
    · rintro m x σ ys H2 hx ⟨u, rfl, s2, e2, rfl⟩
      rw [List.getElem?_map] at hx
      obtain ⟨p, hp, rfl⟩ := Option.map_eq_some_iff.mp hx
      obtain ⟨ml, pe⟩ := List.getElem?_eq_some_iff.mp hp
      have pm : p ∈ ps := List.mem_of_getElem? hp
      have ll : (((ps.take m).filter (fun p => decide ((i : Int) ∈ p.2))).map (fun p => V.ref p.1)).length ≤ 24 := by
        rw [List.length_map]
        exact Nat.le_trans (List.length_filter_le _ _) (by rw [List.length_take]; omega)
      refine ⟨_, rfl, _, rfl, p.1, _, rfl, .inl (SqL.of (s2 _ _ (hM.e p pm))), rfl, flat_ints _, _, rfl, ?_⟩
      rw [show (if false = true then !inV (.int (i : Int)) (p.2.map V.int) else inV (.int (i : Int)) (p.2.map V.int)) = decide ((i : Int) ∈ p.2) by rw [if_neg Bool.false_ne_true, in_ints]]
      have tk : (ps.take (m + 1)).filter (fun p => decide ((i : Int) ∈ p.2)) = (ps.take m).filter (fun p => decide ((i : Int) ∈ p.2)) ++ (if (i : Int) ∈ p.2 then [p] else []) := by
        rw [List.take_succ_eq_append_getElem ml, pe, List.filter_append, List.filter_cons, List.filter_nil]
        simp only [decide_eq_true_eq]
      refine ite2 (fun g => ?_) fun g => ?_
      · rw [if_pos (by simpa using g)] at tk
        exact ⟨_, rfl, e2, small1000 (by omega), _, rfl, fun b o e => by rw [upd_ne (ne_of_none e hD1)]; exact s2 _ _ e, upd_same, by rw [tk, List.map_append]; rfl⟩
      · rw [if_neg (by simpa using g), List.append_nil] at tk
        exact ⟨_, rfl, s2, e2, by rw [tk]⟩
    rintro σ ys H1 ⟨u, rfl, s1, eD1, rfl⟩
    rw [List.length_map, List.take_length, fa] at eD1
    refine ⟨D1, _, 0, _, rfl, rfl, SqL.of eD1, at0, ?_⟩
    have hT1 := hT.same s1
    have E1 := s1 _ _ e1
    refine ⟨_, rfl, x, dx, _, rfl, E1, flds_no S (by decide +kernel), _, rfl, x, S, pre, st, n, i, rfl, hT1, hG.ok, hi, _, rfl, x, dx, _, rfl, E1, flds_no S (by decide +kernel), _, rfl, x, S, pre, st, n, i, rfl, hT1, hG.ok, hi, _, rfl, x, dx, _, rfl, E1, flds_no S (by decide +kernel), _, rfl, x, S, pre, st, n, i, rfl, hT1, hG.ok, hi, small (by simp), fun L hL => ?_⟩
    have s2 := s1.trans (same_new (o := .lst [V.int (st.tops.getD i 0), V.int (st.sides.getD i 0), V.int (st.tops.count (st.tops.getD i 0) : Nat)]) hL)
    have L2 := upd_same (H := H1) (a := L) (o := .lst [V.int (st.tops.getD i 0), V.int (st.sides.getD i 0), V.int (st.tops.count (st.tops.getD i 0) : Nat)])
    generalize upd H1 L (.lst [V.int (st.tops.getD i 0), V.int (st.sides.getD i 0), V.int (st.tops.count (st.tops.getD i 0) : Nat)]) = H2 at s2 L2
    refine ⟨_, rfl, L, [st.tops.getD i 0, st.sides.getD i 0, (st.tops.count (st.tops.getD i 0) : Nat)], rfl, L2, fun H3 s3 => ⟨true, rfl, iteT ?_⟩⟩
    have s3' := s2.trans s3
    have ea := hG.el qa (List.mem_map.mpr ⟨_, ma, rfl⟩)
    have ca := hG.cnt qa (List.mem_map.mpr ⟨_, ma, rfl⟩)
    have ta : st.tops.getD i 0 = hd qa := by have := (ea.2 _ ia).2.2; rwa [Int.toNat_natCast] at this
    have sa : atI (st.sides.map V.int) (i : Int) = some (.int (st.sides.getD i 0)) := atI_nat (by rw [List.getElem?_map, List.getElem?_eq_getElem (by omega), getD_get (show i < st.sides.length by omega)]; rfl)
    have hM3 := hM.same s3'
    refine ⟨_, rfl, _, rfl, ha, _, 0, _, rfl, rfl, SqL.of (hM3.e _ ma), hd_at ea.1, _, rfl, d, _, rfl, hM3.gs, _, rfl, Sd, _, (i : Int), _, rfl, rfl, SqL.of hM3.s, sa, _, rfl, ha, _, rfl, .inl (SqL.of (hM3.e _ ma)), small (by simp), fun q2 hq2 => ?_⟩
    refine ⟨_, _, repL (ns := [st.tops.getD i 0, st.sides.getD i 0, (st.tops.count (st.tops.getD i 0) : Nat)]) (same_new hq2 _ _ (s3 _ _ L2)), repL (ns := [hd qa, st.sides.getD i 0, ((qa.map V.int).length : Nat)]) upd_same, layI _, layI _, depI _, ?_⟩
    rw [eqI, decide_eq_true]
    · exact k _ (s3'.trans (same_new hq2))
    · rw [ta, ca]; simp
end
end K20
set_option maxHeartbeats 4000000
namespace K20
open PySem L2
theorem TkAt.keep {C : Addr} {H H' : Hp} {x S : Addr} {sts : List S3} {A : Addr → Prop} (h : TkAt C H x S sts) (f : ∀ b o, H b = some o → ¬ A b → H' b = some o) (hx : ¬ A x) (hS : ¬ A S) (ht : ∀ b xs, H b = some (.tup xs) → ¬ A b) : TkAt C H' x S sts := by
  obtain ⟨⟨dx, e1⟩, ⟨rs, e2, e3⟩, l⟩ := h
  exact ⟨⟨dx, f _ _ e1 hx⟩, ⟨rs, f _ _ e2 hS, e3.tup fun b xs e => f _ _ e (ht b xs e)⟩, l⟩
theorem count_nodup {l : List Int} (h : l.Nodup) (x : Int) : l.count x ≤ 1 := by
  induction l with
  | nil => simp
  | cons a l ih =>
    rw [List.nodup_cons] at h
    rw [List.count_cons]
    by_cases e : a = x
    · subst e
      rw [List.count_eq_zero.mpr h.1]
      simp
    · have := ih h.2
      simp [e, this]
theorem Good.start {m : Int} (m1 : 1 ≤ m) (m2 : m ≤ 24) {qs : List (List Int)} (hq : qs = (List.range m.toNat).map (fun i => [((i : Nat) : Int)])) : Good m.toNat qs (start3 m) := by
  subst hq
  have gd : ∀ i : Nat, i < m.toNat → (start3 m).tops.getD i 0 = (i : Int) := fun i hi => by
    show (rints 0 m.toNat).getD i 0 = (i : Int)
    unfold rints
    rw [List.getD_eq_getElem?_getD, List.getElem?_map, List.getElem?_range hi]
    show (0 : Int) + (i : Int) = i
    omega
  have ndr : (rints 0 m.toNat).Nodup := by
    unfold rints
    refine List.Pairwise.map _ (fun a b h => ?_) (List.nodup_range (n := m.toNat))
    show ¬ (0 : Int) + (a : Int) = 0 + (b : Int)
    have : a ≠ b := h
    omega
  refine ⟨⟨by simp [start3, rints], by simp [start3], by omega, by omega⟩, fun q hq => ?_, fun p hp => ?_, ?_, fun q hq => ?_, ?_, fun s hs => ?_, fun q hq => ?_⟩
  · obtain ⟨i, hi, rfl⟩ := List.mem_map.mp hq
    have hi := List.mem_range.mp hi
    refine ⟨by simp, fun p hp => ?_⟩
    have := List.mem_singleton.mp hp
    subst this
    refine ⟨by omega, by omega, ?_⟩
    rw [Int.toNat_natCast, gd i hi]
    rfl
  · exact ⟨[(p : Int)], List.mem_map.mpr ⟨p, List.mem_range.mpr hp, rfl⟩, by simp⟩
  · rw [List.map_map]
    refine List.Pairwise.map _ (fun a b h => ?_) (List.nodup_range (n := m.toNat))
    show ¬ (a : Int) = (b : Int)
    have : a ≠ b := h
    omega
  · obtain ⟨i, hi, rfl⟩ := List.mem_map.mp hq
    show (rints 0 m.toNat).count (i : Int) = 1
    have hmem : (i : Int) ∈ rints 0 m.toNat := by
      unfold rints
      exact List.mem_map.mpr ⟨i, hi, by omega⟩
    have h1 := List.count_pos_iff.mpr hmem
    have h2 := count_nodup ndr (i : Int)
    omega
  · unfold partsN
    rw [List.filter_eq_self.mpr]
    · simp [start3, rints]
    · intro p hp
      have : (start3 m).tops.length = m.toNat := by simp [start3, rints]
      rw [this] at hp
      rw [gd p (List.mem_range.mp hp)]
      simp
  · exact .inl (List.eq_of_mem_replicate hs)
  · obtain ⟨i, hi, rfl⟩ := List.mem_map.mp hq
    simp
def fin (s0 : S3) (pr : List (Nat × Nat)) : S3 := pr.foldl (fun st p => (joinS st p.1 p.2).1) s0
theorem fin_snoc (s0 : S3) (pr : List (Nat × Nat)) (p : Nat × Nat) : fin s0 (pr ++ [p]) = (joinS (fin s0 pr) p.1 p.2).1 := by
  unfold fin
  rw [List.foldl_append]
  rfl
def hist (s0 : S3) (pr : List (Nat × Nat)) : List S3 := (List.range (pr.length + 1)).map fun k => fin s0 (pr.take k)
def histP (s0 : S3) (pr : List (Nat × Nat)) : List S3 := (List.range pr.length).map fun k => fin s0 (pr.take k)
theorem hist_last (s0 : S3) (pr : List (Nat × Nat)) : hist s0 pr = histP s0 pr ++ [fin s0 pr] := by
  unfold hist histP
  rw [List.range_succ, List.map_append, List.map_singleton, List.take_length]
theorem histP_len (s0 : S3) (pr : List (Nat × Nat)) : (histP s0 pr).length = pr.length := by
  unfold histP
  simp
theorem hist_len (s0 : S3) (pr : List (Nat × Nat)) : (hist s0 pr).length = pr.length + 1 := by
  unfold hist
  simp
theorem hist_nil (s0 : S3) : hist s0 [] = [s0] := by
  rw [hist_last]
  rfl
theorem histP_snoc (s0 : S3) (pr : List (Nat × Nat)) (p : Nat × Nat) : histP s0 (pr ++ [p]) = hist s0 pr := by
  unfold hist histP
  rw [List.length_append, List.length_singleton]
  refine List.map_congr_left fun k hk => ?_
  have hk := List.mem_range.mp hk
  rw [List.take_append_of_le_length (by omega)]
theorem hist_take (s0 : S3) (pr : List (Nat × Nat)) {k : Nat} (hk : k ≤ pr.length) : (hist s0 pr).take (k + 1) = hist s0 (pr.take k) := by
  unfold hist
  rw [← List.map_take, List.take_range, List.length_take, Nat.min_eq_left (show k + 1 ≤ pr.length + 1 by omega), Nat.min_eq_left hk]
  refine List.map_congr_left fun j hj => ?_
  have hj := List.mem_range.mp hj
  rw [List.take_take, Nat.min_eq_left (by omega)]
def PrsAt (H : Hp) : List Addr → List (Nat × Nat) → Prop
  | [], [] => True
  | r :: rs, p :: pr => H r = some (.tup [.int (p.1 : Nat), .int (p.2 : Nat)]) ∧ PrsAt H rs pr
  | _, _ => False
theorem PrsAt.tup {H H' : Hp} (t : TupS H H') : ∀ {rs : List Addr} {pr : List (Nat × Nat)}, PrsAt H rs pr → PrsAt H' rs pr
  | [], [], _ => trivial
  | _ :: _, _ :: _, h => ⟨t _ _ h.1, PrsAt.tup t h.2⟩
theorem PrsAt.snoc {H : Hp} {r : Addr} {p : Nat × Nat} (t : H r = some (.tup [.int (p.1 : Nat), .int (p.2 : Nat)])) : ∀ {rs : List Addr} {pr : List (Nat × Nat)}, PrsAt H rs pr → PrsAt H (rs ++ [r]) (pr ++ [p])
  | [], [], _ => ⟨t, trivial⟩
  | _ :: _, _ :: _, h => ⟨h.1, PrsAt.snoc t h.2⟩
theorem PrsAt.len {H : Hp} : ∀ {rs : List Addr} {pr : List (Nat × Nat)}, PrsAt H rs pr → rs.length = pr.length
  | [], [], _ => rfl
  | _ :: _, _ :: _, h => by simp [PrsAt.len h.2]
theorem PrsAt.take {H : Hp} (k : Nat) : ∀ {rs : List Addr} {pr : List (Nat × Nat)}, PrsAt H rs pr → PrsAt H (rs.take k) (pr.take k) := by
  induction k with
  | zero => intro rs sts _; simp [PrsAt]
  | succ k ih =>
    intro rs sts h
    match rs, sts, h with
    | [], [], _ => exact trivial
    | _ :: _, _ :: _, h => exact ⟨h.1, ih h.2⟩
theorem PrsAt.get {H : Hp} : ∀ {rs : List Addr} {pr : List (Nat × Nat)} {i : Nat} {r : Addr}, PrsAt H rs pr → rs[i]? = some r → ∃ p, pr[i]? = some p ∧ H r = some (.tup [.int (p.1 : Nat), .int (p.2 : Nat)])
  | [], [], _, _, _, e => by simp at e
  | r' :: _, p :: _, 0, r, h, e => by
    rw [List.getElem?_cons_zero, Option.some.injEq] at e
    subst e
    exact ⟨p, rfl, h.1⟩
  | _ :: rs, _ :: pr, i + 1, r, h, e => by
    rw [List.getElem?_cons_succ] at e
    obtain ⟨p, e1, e2⟩ := PrsAt.get h.2 e
    exact ⟨p, by rw [List.getElem?_cons_succ]; exact e1, e2⟩
theorem take_snoc {α : Type} {l : List α} {i : Nat} {x : α} (h : l[i]? = some x) : l.take (i + 1) = l.take i ++ [x] := by
  rw [List.take_succ, h]
  rfl
def spMade : Sp := fun vs H Q _ => ∃ (m : Int) (L : Addr) (rs : List Addr) (pr : List (Nat × Nat)), vs = [.int m, .ref L] ∧ 1 ≤ m ∧ m ≤ 24 ∧ H L = some (.lst (rs.map V.ref)) ∧ PrsAt H rs pr ∧ (∀ p ∈ pr, p.1 < m.toNat ∧ p.2 < m.toNat) ∧
  ∀ (d Pa Sd : Addr) (ps : List (Addr × List Int)) (H' : Hp), Same H H' → ModelAt H' d Pa Sd ps (fin (start3 m) pr).sides (fin (start3 m) pr).odds → Good m.toNat (ps.map (·.2)) (fin (start3 m) pr) → (∀ b ∈ d :: Pa :: Sd :: ps.map (·.1), H b = none) → Q (.ref d) H'
def spRight : Sp := fun vs H Q _ => ∃ a : Addr, vs = [.ref a] ∧ DeckAt H a 0 ∧ ∀ H', But a H H' → Q (.bl true) H'
section
variable {P : Program} {w : World} {K : PySem.W.Frag} {mg : Str → Option Value} {base : Heap} {C I N J B : Addr}
theorem scMade : FnScope ["_law_many", "_law_pairs", "_law_model", "_law_pair"] ["_law_many", "_law_pairs"] (defScope sMade) := ⟨rfl, rfl, rfl, by decide +kernel, rfl, by decide +kernel, by decide +kernel⟩
theorem ok_Made {f : Addr} {fd : FuncData} (F : Fun K "_law_made" "_law_made" sMade f fd) (T : Txt K mg C I N J B)
    {gBegin : Addr} {fBegin : FuncData} (kBegin : PySem.W.keepIn K (.ref gBegin) = true) (bBegin : Binds K fBegin ["_law_many"] []) (hBegin : mg "_law_begin" = some (.ref gBegin)) (GBegin : FnOk P w K mg base CX0 1 gBegin fBegin ["_law_many"] spBegin)
    {gDo : Addr} {fDo : FuncData} (kDo : PySem.W.keepIn K (.ref gDo) = true) (bDo : Binds K fDo ["_law_model", "_law_pair"] []) (hDo : mg "_law_do" = some (.ref gDo)) (GDo : FnOk P w K mg base CX0 1 gDo fDo ["_law_model", "_law_pair"] spDo) :
    FnOk P w K mg base CX0 2 f fd ["_law_many", "_law_pairs"] spMade := by
  refine F.ok scMade (fun vs H Q E h => ?_) (fun cdv A outer s H vs Q E hr h => ?_)
  · obtain ⟨_, _, _, _, rfl, _⟩ := h; rfl
  · obtain ⟨m, L, rs, pr, rfl, m1, m2, hL, hP, lt, k⟩ := h
    refine ⟨_, pss_cons (ps_set (i := 2) scMade.nd rfl (Or.inl rfl) (pe_call GBegin hr rfl hBegin kBegin bBegin .nil pass0 (pa_cons (pv 0) pa_nil)))
      (pss_cons (ps_for PassesOwn.never rfl (pi_list (pv 1)) (pg_name (i := 3) scMade.nd rfl (Or.inl rfl)) (pss_one (ps_expr (pe_call GDo hr rfl hDo kDo bDo .nil pass0 (pa_cons (pv 2) (pa_cons (pv 3) pa_nil))))))
      (pss_one (ps_ret (pv 2)))), ?_⟩
    refine ⟨_, rfl, m, rfl, m1, m2, fun d Pa Sd ps H1 s1 hM hps fr => ?_⟩
    have G0 := Good.start m1 m2 hps
    have M0 : ModelAt H1 d Pa Sd ps (start3 m).sides (start3 m).odds := hM
    clear hM hps
    have rl := hP.len
    refine ⟨_, rfl, L, rfl, ⟨_, SqL.of (s1 _ _ hL)⟩, for_list (fun i σ H2 => ∃ (u : Option V) (ps : List (Addr × List Int)), σ = [some (.int m), some (.ref L), some (.ref d), u] ∧ Same H H2 ∧ ModelAt H2 d Pa Sd ps (fin (start3 m) (pr.take i)).sides (fin (start3 m) (pr.take i)).odds ∧ Good m.toNat (ps.map (·.2)) (fin (start3 m) (pr.take i)) ∧ ∀ b ∈ d :: Pa :: Sd :: ps.map (·.1), H b = none) ⟨none, ps, rfl, s1, by rw [List.take_zero]; exact M0, by rw [List.take_zero]; exact G0, fr⟩ (fun i σ H2 _ ⟨_, _, _, s, _⟩ => SqL.of (s _ _ hL)) ?_ ?_⟩
    · rintro i v σ H2 hv ⟨u, ps, rfl, s2, M2, G2, f2⟩
      rw [List.getElem?_map] at hv
      cases er : rs[i]? with
      | none => rw [er] at hv; cases hv
      | some r =>
        rw [er] at hv
        cases hv
        obtain ⟨p, ep, hp⟩ := hP.get er
        have lp := lt p (List.mem_of_getElem? ep)
        refine ⟨_, rfl, _, rfl, d, r, Pa, Sd, ps, _, m.toNat, p.1, p.2, rfl, s2 _ _ hp, M2, G2, lp.1, lp.2, fun ps' H3 f3 sub M3 G3 => ?_⟩
        refine ⟨_, ps', rfl, fun b o e => f3 _ _ (s2 _ _ e) fun z => ?_, by rw [take_snoc ep, fin_snoc]; exact M3, by rw [take_snoc ep, fin_snoc]; exact G3, fun b hb => f2 b ?_⟩
        · have := f2 b z
          rw [e] at this; cases this
        · simp only [List.mem_cons] at hb ⊢
          rcases hb with hb | hb | hb | hb
          · exact .inl hb
          · exact .inr (.inl hb)
          · exact .inr (.inr (.inl hb))
          · exact .inr (.inr (.inr (sub b hb)))
    rintro σ H2 ⟨u, ps, rfl, s2, M2, G2, f2⟩
    rw [List.length_map, rl, List.take_length] at M2 G2
    exact ⟨_, rfl, k d Pa Sd ps _ s2 M2 G2 f2⟩
end
end K20
set_option maxHeartbeats 2000000
namespace K20
open PySem L2 Wk
def kinds : List String := ["NoneType", "bool", "int", "str", "tuple", "list", "dict"]
def isInt : V → Bool
  | .int _ => true
  | _ => false
def inside (v : V) (lo hi : Int) : Bool := match v with
  | .int i => decide (lo ≤ i) && decide (i ≤ hi)
  | _ => false
def Thing (K : PySem.W.Frag) (H : Hp) (v : V) : Prop := ∃ c, TyOf K H v (.type c) ∧ c ∈ kinds
def spWholeT (K : PySem.W.Frag) : Sp := fun vs H Q _ => ∃ v : V, vs = [v] ∧ Thing K H v ∧ Q (.bl (isInt v)) H
def spWithinT (K : PySem.W.Frag) : Sp := fun vs H Q _ => ∃ (v : V) (lo hi : Int), vs = [v, .int lo, .int hi] ∧ Thing K H v ∧ Q (.bl (inside v lo hi)) H
structure XcAt (N : Addr) (H : Hp) (e : Addr) (v : V) : Prop where
  ex : ∃ d, H e = some (.ext (ExcO e N (some d))) ∧ H d = some (.ext (XdO d [("thing", v)]))
def spNInit (N : Addr) : Sp := fun vs H Q _ => ∃ (e : Addr) (v : V) (fs : Array Value), vs = [.ref e, v] ∧ H e = some (.ext (ExcV e N none fs)) ∧ ∀ (d : Addr) (H' : Hp), d ≠ e → (∀ b o, H b = some o → b ≠ e → H' b = some o) → H' e = some (.ext (ExcV e N (some d) fs)) → H' d = some (.ext (XdO d [("thing", v)])) → Q .non H'
def spBackX (K : PySem.W.Frag) (C N : Addr) : Sp := fun vs H Q E => ∃ (x S : Addr) (sts : List S3) (v : V), vs = [.ref x, v] ∧ TkAt C H x S sts ∧ Thing K H v ∧ inside v 0 ((sts.length : Int) - 1) = false ∧ ∀ (e : Addr) (H' : Hp), Same H H' → XcAt N H' e v → E (.ref N) (some e) H'
section
variable {P : Program} {w : World} {K : PySem.W.Frag} {mg : Str → Option Value} {base : Heap} {C I N J B : Addr}
theorem ok_WholeT {f : Addr} {fd : FuncData} (F : Fun K "is_whole" "is_whole" sWhole f fd) (T : Txt K mg C I N J B) : FnOk P w K mg base CX0 1 f fd ["thing"] (spWholeT K) := by
  refine F.ok scWhole (fun vs H Q E h => ?_) (fun cdv A outer s H vs Q E hr h => ?_)
  · obtain ⟨_, rfl, _⟩ := h; rfl
  · obtain ⟨v, rfl, ⟨c, ty, hc⟩, k⟩ := h
    refine ⟨_, pss_one (ps_ret (pe_and (pe_callB call_isi (by rfl) T.isinstance (by decide +kernel) (pa_cons (pv 0) (pa_cons (pe_ty (T := "int") (by rfl) T.int (by decide +kernel)) pa_nil))) (pe_one (pe_not (pe_callB call_isi (by rfl) T.isinstance (by decide +kernel) (pa_cons (pv 0) (pa_cons (pe_ty (T := "bool") (by rfl) T.bool (by decide +kernel)) pa_nil))))))), ?_⟩
    cases ty with
    | non => exact ⟨_, rfl, _, _, "int", false, rfl, .non, rfl, _, rfl, iteF k⟩
    | bl y => exact ⟨_, rfl, _, _, "int", true, rfl, .bl y, rfl, _, rfl, iteT ⟨_, rfl, _, _, "bool", true, rfl, .bl y, rfl, _, rfl, k⟩⟩
    | int i => exact ⟨_, rfl, _, _, "int", true, rfl, .int i, rfl, _, rfl, iteT ⟨_, rfl, _, _, "bool", false, rfl, .int i, rfl, _, rfl, k⟩⟩
    | str y => exact ⟨_, rfl, _, _, "int", false, rfl, .str y, rfl, _, rfl, iteF k⟩
    | flt y => exact absurd hc (by decide)
    | lst e => exact ⟨_, rfl, _, _, "int", false, rfl, .lst e, rfl, _, rfl, iteF k⟩
    | frz e => exact ⟨_, rfl, _, _, "int", false, rfl, .frz e, rfl, _, rfl, iteF k⟩
    | tup e => exact ⟨_, rfl, _, _, "int", false, rfl, .tup e, rfl, _, rfl, iteF k⟩
    | dK e => exact ⟨_, rfl, _, _, "int", false, rfl, .dK e, rfl, _, rfl, iteF k⟩
    | dT e => exact ⟨_, rfl, _, _, "int", false, rfl, .dT e, rfl, _, rfl, iteF k⟩
theorem ok_WithinT {f : Addr} {fd : FuncData} (F : Fun K "is_within" "is_within" sWithin f fd) (T : Txt K mg C I N J B)
    {gWhole : Addr} {fWhole : FuncData} (kWhole : PySem.W.keepIn K (.ref gWhole) = true) (bWhole : Binds K fWhole ["thing"] []) (hWhole : mg "is_whole" = some (.ref gWhole)) (GWhole : FnOk P w K mg base CX0 1 gWhole fWhole ["thing"] (spWholeT K)) :
    FnOk P w K mg base CX0 2 f fd ["thing", "low", "high"] (spWithinT K) := by
  refine F.ok scWithin (fun vs H Q E h => ?_) (fun cdv A outer s H vs Q E hr h => ?_)
  · obtain ⟨_, _, _, rfl, _⟩ := h; rfl
  · obtain ⟨v, lo, hi, rfl, ht, k⟩ := h
    refine ⟨_, pss_one (ps_ret (pe_and (pe_call GWhole hr rfl hWhole kWhole bWhole .nil pass0 (pa_cons (pv 0) pa_nil)) (pe_one (pe_chain op_le op_le (pv 1) (pv 0) (pv 2))))), ?_⟩
    refine ⟨_, rfl, v, rfl, ht, _, rfl, ?_⟩
    cases v with
    | int i =>
      refine iteT ⟨_, rfl, _, rfl, _, _, rfl, rfl, _, rfl, ?_⟩
      have k : Q (.bl (decide (lo ≤ i) && decide (i ≤ hi))) H := k
      by_cases g : lo ≤ i
      · rw [decide_eq_true g] at k ⊢
        exact iteT ⟨_, rfl, _, _, rfl, rfl, k⟩
      · rw [decide_eq_false g] at k ⊢
        exact iteF k
    | _ => exact iteF k
theorem scNInit : FnScope ["self", "thing"] ["self", "thing"] (defScope sNInit) := ⟨rfl, rfl, rfl, by decide +kernel, rfl, by decide +kernel, by decide +kernel⟩
theorem ok_NInit {f : Addr} {fd : FuncData} (F : Fun K "__init__" "NoMark.__init__" sNInit f fd) (T : Txt K mg C I N J B) : FnOk P w K mg base CX0 1 f fd ["self", "thing"] (spNInit N) := by
  refine F.ok scNInit (fun vs H Q E h => ?_) (fun cdv A outer s H vs Q E hr h => ?_)
  · obtain ⟨_, _, _, rfl, _⟩ := h; rfl
  · obtain ⟨e, v, fs, rfl, he, k⟩ := h
    refine ⟨_, pss_one (ps_xf (pv 0) (pv 1)), ?_⟩
    refine ⟨_, rfl, _, rfl, e, N, _, fs, rfl, he, T.xN, T.nT, fun d hd hne => ?_⟩
    refine k d _ hne (fun b o hb hbe => ?_) (by rw [upd_ne hne.symm, upd_same]) upd_same
    have nd : b ≠ d := ne_of_none hb hd
    rw [upd_ne nd, upd_ne hbe, upd_ne nd]; exact hb
theorem ok_BackX {f : Addr} {fd : FuncData} (F : Fun K "back" "Takes.back" sBack f fd) (T : Txt K mg C I N J B)
    {gWithin : Addr} {fWithin : FuncData} (kWithin : PySem.W.keepIn K (.ref gWithin) = true) (bWithin : Binds K fWithin ["thing", "low", "high"] []) (hWithin : mg "is_within" = some (.ref gWithin)) (GWithin : FnOk P w K mg base CX0 2 gWithin fWithin ["thing", "low", "high"] (spWithinT K))
    {gJoins : Addr} {fJoins : FuncData} (bJoins : Binds K fJoins ["self"] []) (hJoins : Meth K C "joins" gJoins) (GJoins : FnOk P w K mg base CX0 2 gJoins fJoins ["self"] (spJoins C))
    {fNInit : FuncData} (bNInit : Binds K fNInit ["self", "thing"] []) (GNInit : FnOk P w K mg base CX0 1 J fNInit ["self", "thing"] (spNInit N)) :
    FnOk P w K mg base (CXU P w) 3 f fd ["self", "thing"] (spBackX K C N) := by
  refine F.okX scBack (fun vs H Q E h => ?_) (fun cdv A outer s H vs Q E hr h => ?_)
  · obtain ⟨_, _, _, _, rfl, _⟩ := h; rfl
  · obtain ⟨x, S, sts, v, rfl, hT, ht, hin, k⟩ := h
    refine ⟨_, psxs_cons (psx_if (pt_not (pt_val (pe_call GWithin hr rfl hWithin kWithin bWithin .nil pass0 (pa_cons (pv 1) (pa_cons pe_int (pa_cons (pe_meth0 (pv 0) T.cl hJoins GJoins hr bJoins .nil pass0) pa_nil)))))) (psxs_one (psx_raise T.xN T.iN T.fN GNInit hr rfl T.mgN bNInit (pa_cons (pv 1) pa_nil))) psxs_nil) (psxs_of pss_never), ?_⟩
    obtain ⟨⟨dx, e1⟩, _, _⟩ := id hT
    refine ⟨_, rfl, _, rfl, x, dx, _, rfl, e1, flds_no S (by decide +kernel), x, S, sts, rfl, hT, v, _, _, rfl, ht, ?_⟩
    refine ⟨_, rfl, ?_⟩
    rw [hin]
    refine iteT ⟨_, rfl, (show 1 ≤ 1000 by decide), fun ex tt hex => ?_⟩
    refine ⟨ex, v, _, rfl, upd_same, fun d H' ned hk he hd => ⟨rfl, some d, he, ?_⟩⟩
    refine k ex _ (fun b o hb => ?_) ⟨d, upd_same, by rw [upd_ne ned]; exact hd⟩
    have nb : b ≠ ex := ne_of_none hb hex
    rw [upd_ne nb]
    exact hk b o (by rw [upd_ne nb]; exact hb) nb
end
end K20
set_option maxHeartbeats 2000000
namespace K20
open PySem L2 Wk
structure One (C : Addr) (H : Hp) (x S L : Addr) (m : Int) (rs : List Addr) (pr : List (Nat × Nat)) : Prop where
  tk : TkAt C H x S (hist (start3 m) pr)
  pl : H L = some (.lst (rs.map V.ref))
  pa : PrsAt H rs pr
  lt : ∀ p ∈ pr, p.1 < m.toNat ∧ p.2 < m.toNat
  ln : pr.length ≤ 60
  m1 : 2 ≤ m
  m2 : m ≤ 24
  SL : S ≠ L
theorem One.keep {C : Addr} {H H' : Hp} {x S L : Addr} {m : Int} {rs : List Addr} {pr : List (Nat × Nat)} {A : Addr → Prop} (h : One C H x S L m rs pr) (f : ∀ b o, H b = some o → ¬ A b → H' b = some o) (hx : ¬ A x) (hS : ¬ A S) (hL : ¬ A L) (ht : ∀ b xs, H b = some (.tup xs) → ¬ A b) : One C H' x S L m rs pr :=
  ⟨h.tk.keep f hx hS ht, f _ _ h.pl hL, h.pa.tup fun b xs e => f _ _ e (ht b xs e), h.lt, h.ln, h.m1, h.m2, h.SL⟩
theorem One.same {C : Addr} {H H' : Hp} {x S L : Addr} {m : Int} {rs : List Addr} {pr : List (Nat × Nat)} (h : One C H x S L m rs pr) (s : Same H H') : One C H' x S L m rs pr :=
  h.keep (A := fun _ => False) (fun b o e _ => s b o e) id id id fun _ _ _ => id
theorem One.draw {C : Addr} {H H' : Hp} {a x S L : Addr} {m : Int} {c : Nat} {rs : List Addr} {pr : List (Nat × Nat)} (h : One C H x S L m rs pr) (b : But a H H') (D : DeckAt H a c) (aS : a ≠ S) (aL : a ≠ L) : One C H' x S L m rs pr := by
  obtain ⟨A, B, k, e, _⟩ := D
  obtain ⟨dx, ex⟩ := h.tk.ob
  exact h.keep (A := fun b => b = a) b (fun z => by rw [z, e] at ex; cases ex) aS.symm aL.symm fun b xs eb z => by rw [z, e] at eb; cases eb
theorem Ok.join {n i j : Nat} {st : S3} (h : Ok n st) : Ok n (joinS st i j).1 := by
  by_cases c : st.tops.getD i 0 = st.tops.getD j 0
  · have : (joinS st i j).1 = ⟨st.tops, st.sides, st.odds + turnOf (st.sides.getD i 0) (st.sides.getD j 0)⟩ := by unfold joinS; simp only; rw [if_pos c]
    rw [this]; exact ⟨h.t, h.s, h.n1, h.n2⟩
  · have : (joinS st i j).1 = ⟨newTops st.tops (kt st.tops (st.tops.getD i 0) (st.tops.getD j 0)).1 (kt st.tops (st.tops.getD i 0) (st.tops.getD j 0)).2, newSides st.tops st.sides (kt st.tops (st.tops.getD i 0) (st.tops.getD j 0)).2 (turnOf (st.sides.getD i 0) (st.sides.getD j 0)), st.odds⟩ := by unfold joinS; simp only; rw [if_neg c]
    rw [this]; exact ⟨by simp [newTops, h.t], by simp [newSides, h.t, h.s], h.n1, h.n2⟩
theorem Ok.fin {n : Nat} : ∀ (pr : List (Nat × Nat)) {st : S3}, Ok n st → Ok n (fin st pr)
  | [], _, h => h
  | p :: pr, _, h => Ok.fin pr (h.join (i := p.1) (j := p.2))
theorem ok_fin {m : Int} (m1 : 2 ≤ m) (m2 : m ≤ 24) (pr : List (Nat × Nat)) : Ok m.toNat (fin (start3 m) pr) := Ok.fin pr ⟨by simp [start3, rints], by simp [start3], by omega, by omega⟩
def spRefuses (K : PySem.W.Frag) (C : Addr) : Sp := fun vs H Q _ => ∃ (x S : Addr) (sts : List S3) (v : V), vs = [.ref x, v] ∧ TkAt C H x S sts ∧ Thing K H v ∧ inside v 0 ((sts.length : Int) - 1) = false ∧ ∀ H', Same H H' → Q (.bl true) H'
def spStepped (C : Addr) : Sp := fun vs H Q _ => ∃ (a : Addr) (c : Nat) (x S L : Addr) (m : Int) (rs : List Addr) (pr : List (Nat × Nat)), vs = [.ref a, .ref x, .ref L, .int m] ∧ DeckAt H a c ∧ c ≤ 90000 ∧ One C H x S L m rs pr ∧ a ≠ S ∧ a ≠ L ∧ pr.length < 60 ∧
  ∀ (S' L' : Addr) (rs' : List Addr) (pr' : List (Nat × Nat)) (H' : Hp), DeckAt H' a (c + 4) → One C H' x S' L' m rs' pr' → pr'.length ≤ pr.length + 1 → (∀ b o, H b = some o → b ≠ a → b ≠ x → b ≠ S → H' b = some o) → (S' = S ∨ H S' = none) → (L' = L ∨ H L' = none) → a ≠ S' → a ≠ L' → Q (.ref L') H'
theorem wr_at (K : PySem.W.Frag) (H : Hp) (p : Nat) {v : Int} (h0 : 0 ≤ v) (h1 : v < 2) : ∃ th, atI [.int (-1), .int ((p : Int) + 1)] v = some th ∧ Thing K H th ∧ inside th 0 (((p + 1 : Nat) : Int) - 1) = false := by
  have : v = 0 ∨ v = 1 := by omega
  rcases this with rfl | rfl
  · exact ⟨_, atI_nat (j := 0) rfl, ⟨_, .int _, by decide⟩, rfl⟩
  · refine ⟨_, atI_nat (j := 1) rfl, ⟨_, .int _, by decide⟩, ?_⟩
    have : ¬ ((p : Int) + 1 ≤ ((p + 1 : Nat) : Int) - 1) := by omega
    simp only [inside, decide_eq_false this, Bool.and_false]
section
variable {P : Program} {w : World} {K : PySem.W.Frag} {mg : Str → Option Value} {base : Heap} {C I N J B : Addr}
theorem scRefuses : FnScope ["_law_takes", "_law_mark"] ["_law_takes", "_law_mark"] (defScope sRefuses) := ⟨rfl, rfl, rfl, by decide +kernel, rfl, by decide +kernel, by decide +kernel⟩
theorem ok_Refuses {f : Addr} {fd : FuncData} (F : Fun K "_law_refuses" "_law_refuses" sRefuses f fd) (T : Txt K mg C I N J B)
    {gBack : Addr} {fBack : FuncData} (bBack : Binds K fBack ["self", "thing"] []) (hBack : Meth K C "back" gBack) (GBack : FnOk P w K mg base (CXU P w) 3 gBack fBack ["self", "thing"] (spBackX K C N)) :
    FnOk P w K mg base CX0 4 f fd ["_law_takes", "_law_mark"] (spRefuses K C) := by
  refine F.ok scRefuses (fun vs H Q E h => ?_) (fun cdv A outer s H vs Q E hr h => ?_)
  · obtain ⟨_, _, _, _, rfl, _⟩ := h; rfl
  · obtain ⟨x, S, sts, v, rfl, hT, ht, hin, k⟩ := h
    refine ⟨_, pss_cons (ps_try (fun _ _ z => z) rfl rfl (psxs_one (psx_expr (pex_meth (pv 0) T.cl hBack GBack hr bBack (pa_cons (pv 1) pa_nil)))) T.xB (by rfl) T.mgB (fun ev => pss_one (ps_ret pe_bl))) (pss_one (ps_ret pe_bl)), ?_⟩
    obtain ⟨⟨dx, e1⟩, _, _⟩ := id hT
    refine ⟨_, rfl, x, dx, _, rfl, e1, flds_no S (by decide +kernel), _, rfl, x, S, sts, v, rfl, hT, ht, hin, fun e H2 s2 X2 => ⟨N, e, _, rfl, rfl, T.xN.toXAt, by simp, k H2 s2⟩⟩
theorem scStepped : FnScope ["_law_deck", "_law_takes", "_law_pairs", "_law_many", "_law_way", "_law_wrong", "_law_mark", "_law_pair"] ["_law_deck", "_law_takes", "_law_pairs", "_law_many"] (defScope sStepped) := ⟨rfl, rfl, rfl, by decide +kernel, rfl, by decide +kernel, by decide +kernel⟩
theorem ok_Stepped {f : Addr} {fd : FuncData} (F : Fun K "_law_stepped" "_law_stepped" sStepped f fd) (T : Txt K mg C I N J B)
    {gDraw : Addr} {fDraw : FuncData} (kDraw : PySem.W.keepIn K (.ref gDraw) = true) (bDraw : Binds K fDraw ["_law_deck", "_law_most"] []) (hDraw : mg "_law_draw" = some (.ref gDraw)) (GDraw : FnOk P w K mg base CX0 4 gDraw fDraw ["_law_deck", "_law_most"] spDraw)
    {gRefuses : Addr} {fRefuses : FuncData} (kRefuses : PySem.W.keepIn K (.ref gRefuses) = true) (bRefuses : Binds K fRefuses ["_law_takes", "_law_mark"] []) (hRefuses : mg "_law_refuses" = some (.ref gRefuses)) (GRefuses : FnOk P w K mg base CX0 4 gRefuses fRefuses ["_law_takes", "_law_mark"] (spRefuses K C))
    {gBack : Addr} {fBack : FuncData} (bBack : Binds K fBack ["self", "thing"] []) (hBack : Meth K C "back" gBack) (GBack : FnOk P w K mg base CX0 4 gBack fBack ["self", "thing"] (spBack C))
    {gTwo : Addr} {fTwo : FuncData} (kTwo : PySem.W.keepIn K (.ref gTwo) = true) (bTwo : Binds K fTwo ["_law_deck", "_law_many"] []) (hTwo : mg "_law_two_of" = some (.ref gTwo)) (GTwo : FnOk P w K mg base CX0 4 gTwo fTwo ["_law_deck", "_law_many"] spTwo)
    {gJoin : Addr} {fJoin : FuncData} (bJoin : Binds K fJoin ["self", "one", "other"] []) (hJoin : Meth K C "join" gJoin) (GJoin : FnOk P w K mg base CX0 4 gJoin fJoin ["self", "one", "other"] (spJoin C)) :
    FnOk P w K mg base CX0 5 f fd ["_law_deck", "_law_takes", "_law_pairs", "_law_many"] (spStepped C) := by
  refine F.ok scStepped (fun vs H Q E h => ?_) (fun cdv A outer s H vs Q E hr h => ?_)
  · obtain ⟨_, _, _, _, _, _, _, _, rfl, _⟩ := h; rfl
  · obtain ⟨a, c, x, S, L, m, rs, pr, rfl, hD, hc, O, aS, aL, pl, k⟩ := h
    refine ⟨_, pss_cons (ps_set (i := 4) scStepped.nd rfl (Or.inl rfl) (pe_call GDraw hr rfl hDraw kDraw bDraw .nil pass0 (pa_cons (pv 0) (pa_cons pe_int pa_nil))))
      (pss_cons (ps_if (pt_cmpR op_eq (pv 4) pe_int (nomark _)) (pss_cons (ps_set (i := 5) scStepped.nd rfl (Or.inl rfl) (pe_ix ix_list (pe_lst (pa_cons (pe_un un_neg pe_int) (pa_cons (pe_op op_add (pe_callB call_len_seq (by rfl) T.len PySem.boot_len (pa_cons (pv 2) pa_nil)) pe_int) pa_nil))) (pe_call GDraw hr rfl hDraw kDraw bDraw .nil pass0 (pa_cons (pv 0) (pa_cons pe_int pa_nil))) (fun _ _ => rfl)))
      (pss_one (ps_ret (pe_ifExp (pt_val (pe_call GRefuses hr rfl hRefuses kRefuses bRefuses .nil pass0 (pa_cons (pv 1) (pa_cons (pv 5) pa_nil)))) (pv 2) pe_non)))) pss_nil)
      (pss_cons (ps_if (pt_cmpR op_lt (pv 4) pe_int (nomark _)) (pss_cons (ps_set (i := 6) scStepped.nd rfl (Or.inl rfl) (pe_call GDraw hr rfl hDraw kDraw bDraw .nil pass0 (pa_cons (pv 0) (pa_cons (pe_op op_add (pe_callB call_len_seq (by rfl) T.len PySem.boot_len (pa_cons (pv 2) pa_nil)) pe_int) pa_nil))))
      (pss_cons (ps_expr (pe_meth (pv 1) T.cl hBack GBack hr bBack .nil pass0 (pa_cons (pv 6) pa_nil)))
      (pss_one (ps_ret (pe_slice sl_list (pv 2) po_none (po_some (pv 6))))))) pss_nil)
      (pss_cons (ps_set (i := 7) scStepped.nd rfl (Or.inl rfl) (pe_call GTwo hr rfl hTwo kTwo bTwo .nil pass0 (pa_cons (pv 0) (pa_cons (pv 3) pa_nil))))
      (pss_cons (ps_expr (pe_meth (pv 1) T.cl hJoin GJoin hr bJoin .nil pass0 (pa_cons (pe_ix ix_tup (pv 7) pe_int (fun _ _ => rfl)) (pa_cons (pe_ix ix_tup (pv 7) pe_int (fun _ _ => rfl)) pa_nil))))
      (pss_one (ps_ret (pe_op op_cat (pv 2) (pe_lst (pa_cons (pv 7) pa_nil))))))))), ?_⟩
    have rl := O.pa.len
    refine ⟨_, rfl, a, c, 6, rfl, hD, by omega, by decide, by decide, fun v H1 v0 v1 b1 D1 => ?_⟩
    have O1 := O.draw b1 hD aS aL
    have pl1 := O1.pl
    have hlen : (hist (start3 m) pr).length = pr.length + 1 := hist_len _ _
    refine ⟨_, rfl, rfl, _, rfl, ite2 (fun g => ?_) fun g => ?_⟩
    · refine ⟨_, rfl, _, rfl, L, _, rfl, .inl (SqL.of pl1), _, _, rfl, rfl, small (by simp), fun l hl => ?_⟩
      rw [List.length_map, rl]
      have s2 := same_new (o := .lst [.int (-1), .int ((pr.length : Int) + 1)]) hl
      have l2 := upd_same (H := H1) (a := l) (o := .lst [.int (-1), .int ((pr.length : Int) + 1)])
      have al : l ≠ a := D1.ne hl
      generalize upd H1 l (.lst [.int (-1), .int ((pr.length : Int) + 1)]) = H2 at s2 l2
      have O2 := O1.same s2
      have D2 := D1.same s2
      refine ⟨_, rfl, a, c + 1, 2, rfl, D2, by omega, by decide, by decide, fun v2 H3 v20 v21 b3 D3 => ?_⟩
      have O3 := O2.draw b3 D2 aS aL
      obtain ⟨th, t1, t2, t3⟩ := wr_at K H3 pr.length v20 v21
      refine ⟨l, _, v2, th, rfl, rfl, SqL.of (b3 _ _ l2 al), t1, ?_⟩
      refine ⟨_, rfl, _, rfl, x, S, _, th, rfl, O3.tk, t2, by rw [hlen]; exact t3, fun H4 s4 => ⟨true, rfl, iteT ⟨_, rfl, ?_⟩⟩⟩
      exact k S L rs pr H4 ((D3.same s4).mono (by omega)) (O3.same s4) (by omega) (fun b o e na _ _ => s4 _ _ (b3 _ _ (s2 _ _ (b1 _ _ e na)) na)) (.inl rfl) (.inl rfl) aS aL
    dsimp only [tNext]
    refine ⟨_, rfl, _, _, rfl, rfl, _, rfl, ite2 (fun g2 => ?_) fun g2 => ?_⟩
    · refine ⟨_, rfl, _, rfl, L, _, rfl, .inl (SqL.of pl1), _, _, rfl, rfl, ?_⟩
      rw [List.length_map, rl]
      refine ⟨a, c + 1, _, rfl, D1, by omega, by omega, by omega, fun v2 H2 v20 v21 b2 D2 => ?_⟩
      obtain ⟨mk, rfl⟩ : ∃ mk : Nat, v2 = (mk : Int) := ⟨v2.toNat, by omega⟩
      have mkl : mk ≤ pr.length := by omega
      have O2 := O1.draw b2 D1 aS aL
      obtain ⟨⟨dx, e1⟩, _, _⟩ := id O2.tk
      refine ⟨_, rfl, x, dx, _, rfl, e1, flds_no S (by decide +kernel), _, rfl, x, S, _, mk, rfl, O2.tk, by rw [hlen]; omega, fun S' H3 hS' k3 T3 => ?_⟩
      rw [hist_take (start3 m) pr mkl] at T3
      have nx : ∀ {b : Addr} {xs : List V}, H2 b = some (.lst xs) → b ≠ x := fun {b xs} e z => by rw [z, e1] at e; cases e
      have nt : ∀ {b : Addr} {xs : List V}, H2 b = some (.tup xs) → b ≠ x := fun {b xs} e z => by rw [z, e1] at e; cases e
      have pl3 := k3 _ _ O2.pl (nx O2.pl)
      refine ⟨_, rfl, _, rfl, _, rfl, L, _, rfl, SqL.of pl3, fun p hp => ?_⟩
      have cut : cutV (rs.map V.ref) none (some (mk : Int)) = (rs.take mk).map V.ref := by
        unfold cutV
        simp only [HT.sIx, List.drop_zero, Nat.sub_zero]
        rw [if_neg (by omega), List.map_take, show min (mk : Int).toNat (rs.map V.ref).length = mk by simp; omega]
      rw [cut]
      have s4 := same_new (o := .lst ((rs.take mk).map V.ref)) hp
      have p4 := upd_same (H := H3) (a := p) (o := .lst ((rs.take mk).map V.ref))
      have S3 : ∃ xs, H3 S' = some (.lst xs) := let ⟨_, ⟨ss, e, _⟩, _⟩ := T3; ⟨_, e⟩
      obtain ⟨xs3, S3⟩ := S3
      have pS : p ≠ S' := (ne_of_none S3 hp).symm
      have d3 : DeckAt H3 a (c + 1 + 1) := by
        obtain ⟨A1, A2, A3, e, r⟩ := D2
        exact ⟨A1, A2, A3, k3 _ _ e (nx e), r⟩
      have pa : p ≠ a := d3.ne hp
      generalize upd H3 p (.lst ((rs.take mk).map V.ref)) = H4 at s4 p4
      have t23 : TupS H2 H4 := fun b xs e => s4 _ _ (k3 _ _ e (nt e))
      have old : ∀ b, H2 b = none → b ≠ a → H b = none := fun b hb nb => by
        cases e : H b with
        | none => rfl
        | some o => rw [b2 _ _ (b1 _ _ e nb) nb] at hb; cases hb
      have aS' : a ≠ S' := fun z => by rw [← z] at hS'; obtain ⟨_, _, _, e, _⟩ := D2; rw [e] at hS'; cases hS'
      have pold : H p = none := by
        cases e : H p with
        | none => rfl
        | some o =>
          have e2 := b2 _ _ (b1 _ _ e pa) pa
          by_cases px : p = x
          · obtain ⟨⟨dx3, ex3⟩, _⟩ := T3
            rw [px, ex3] at hp; cases hp
          · rw [k3 _ _ e2 px] at hp; cases hp
      exact k S' p (rs.take mk) (pr.take mk) H4 ((d3.same s4).mono (by omega)) ⟨T3.same s4, p4, (O2.pa.take mk).tup t23, fun q hq => O.lt q (List.mem_of_mem_take hq), by have := O.ln; simp; omega, O.m1, O.m2, pS.symm⟩ (by simp; omega) (fun b o e na nx' _ => s4 _ _ (k3 _ _ (b2 _ _ (b1 _ _ e na) na) nx')) (.inr (old S' hS' aS'.symm)) (.inr pold) aS' pa.symm
    dsimp only [tNext]
    refine ⟨_, rfl, _, rfl, a, c + 1, m, rfl, D1, by omega, O.m1, O.m2, fun p i j H2 b2 D2 hp2 hi hj => ?_⟩
    have O2 := O1.draw b2 D1 aS aL
    obtain ⟨⟨dx, e1⟩, ⟨ss, eS, _⟩, _⟩ := id O2.tk
    have T2 := O2.tk
    rw [hist_last] at T2
    have m1 := O.m1
    have m2 := O.m2
    refine ⟨_, rfl, x, dx, _, rfl, e1, flds_no S (by decide +kernel), _, rfl, p, _, 0, _, rfl, rfl, SqT.of hp2, at0, _, rfl, p, _, 1, _, rfl, rfl, SqT.of hp2, at1, ?_⟩
    refine ⟨x, S, _, _, m.toNat, i, j, rfl, T2, by rw [histP_len]; omega, ok_fin O.m1 O.m2 pr, by omega, by omega, fun H3 k3 T3 => ?_⟩
    rw [← hist_last] at T3
    have eh : hist (start3 m) pr ++ [(joinS (fin (start3 m) pr) i j).1] = hist (start3 m) (pr ++ [(i, j)]) := by
      rw [hist_last (start3 m) (pr ++ [(i, j)]), histP_snoc, fin_snoc]
    rw [eh] at T3
    have nS : ∀ {b : Addr} {xs : List V}, H2 b = some (.tup xs) → b ≠ S := fun {b xs} e z => by rw [z, eS] at e; cases e
    have pl3 := k3 _ _ O2.pl O.SL.symm
    have hp3 := k3 _ _ hp2 (nS hp2)
    have d3 : DeckAt H3 a (c + 1 + 2) := by
      obtain ⟨A1, A2, A3, e, r⟩ := D2
      exact ⟨A1, A2, A3, k3 _ _ e aS, r⟩
    refine ⟨_, rfl, _, rfl, small (by simp), fun l hl => ?_⟩
    have s4 := same_new (o := .lst [.ref p]) hl
    have l4 := upd_same (H := H3) (a := l) (o := .lst [.ref p])
    generalize upd H3 l (.lst [.ref p]) = H4 at s4 l4
    refine ⟨L, l, _, _, rfl, rfl, s4 _ _ pl3, l4, by rw [sizeLine_eq]; have := O.ln; simp; omega, fun q hq => ?_⟩
    have s5 := same_new (o := .lst (rs.map V.ref ++ [.ref p])) hq
    have q5 := upd_same (H := H4) (a := q) (o := .lst (rs.map V.ref ++ [.ref p]))
    have d4 := d3.same s4
    have qa : q ≠ a := d4.ne hq
    have S4 : ∃ xs, H4 S = some (.lst xs) := let ⟨_, ⟨ss, e, _⟩, _⟩ := T3.same s4; ⟨_, e⟩
    obtain ⟨xs4, S4⟩ := S4
    have qS : q ≠ S := (ne_of_none S4 hq).symm
    generalize upd H4 q (.lst (rs.map V.ref ++ [.ref p])) = H5 at s5 q5
    have s35 := s4.trans s5
    have t25 : TupS H2 H5 := fun b xs e => s35 _ _ (k3 _ _ e (nS e))
    have qold : H q = none := by
      cases e : H q with
      | none => rfl
      | some o => rw [s4 _ _ (k3 _ _ (b2 _ _ (b1 _ _ e qa) qa) qS)] at hq; cases hq
    refine k S q (rs ++ [p]) (pr ++ [(i, j)]) H5 ((d4.same s5).mono (by omega)) ⟨T3.same s35, by rw [q5]; simp, (O2.pa.tup t25).snoc (s35 _ _ hp3), fun z hz => ?_, by simp; omega, O.m1, O.m2, qS.symm⟩ (by simp) (fun b o e na _ nS' => s35 _ _ (k3 _ _ (b2 _ _ (b1 _ _ e na) na) nS')) (.inl rfl) (.inr qold) aS qa.symm
    rcases List.mem_append.mp hz with hz | hz
    · exact O.lt z hz
    · cases List.mem_singleton.mp hz; exact ⟨by omega, by omega⟩
end
end K20
set_option maxHeartbeats 2000000
namespace K20
open PySem L2 Wk
def rowK (st : S3) (k : Nat) : List Key := [.inl (k : Int), .inl (st.tops.count (st.tops.getD k 0) : Nat), .inl (st.sides.getD k 0), .inl (st.tops.getD k 0)]
theorem rowK_lt {st : S3} {j k : Nat} (h : Srt.ltR (rowK st k) (rowK st j) = false) : j ≤ k := by
  by_cases e : j ≤ k
  · exact e
  · have ne : ¬ ((Sum.inl (k : Int) : Key) = Sum.inl (j : Int)) := fun z => by have := Sum.inl.inj z; omega
    have : Srt.ltR (rowK st k) (rowK st j) = true := by
      show (if (Sum.inl (k : Int) : Key) = Sum.inl (j : Int) then _ else Srt.ltK (.inl (k : Int)) (.inl (j : Int))) = true
      rw [if_neg ne]
      exact decide_eq_true (by omega)
    rw [this] at h; cases h
theorem rows_sorted {st : S3} {n : Nat} {ks : List Nat} {ps ps' : List Srt.Row} (hk : ks.Perm (List.range n)) (e : ps.map (·.2) = ks.map (rowK st)) (hp : ps'.Perm ps) (hw : ps'.Pairwise fun a b => Srt.ltR b.2 a.2 = false) : ps'.map (·.2) = (List.range n).map (rowK st) := by
  have p1 : (ps'.map (·.2)).Perm ((List.range n).map (rowK st)) := (hp.map _).trans (by rw [e]; exact hk.map _)
  have w1 : (ps'.map (·.2)).Pairwise fun a b => Srt.ltR b a = false := List.pairwise_map.mpr hw
  have w2 : ((List.range n).map (rowK st)).Pairwise fun a b => Srt.ltR b a = false := by
    refine List.pairwise_map.mpr ((List.pairwise_lt_range (n := n)).imp fun {i j} h => ?_)
    have ne : ¬ ((Sum.inl (j : Int) : Key) = Sum.inl (i : Int)) := fun z => by have := Sum.inl.inj z; omega
    show (if (Sum.inl (j : Int) : Key) = Sum.inl (i : Int) then _ else Srt.ltK (.inl (j : Int)) (.inl (i : Int))) = false
    rw [if_neg ne]
    exact decide_eq_false (by omega)
  refine p1.eq_of_pairwise (le := fun a b => Srt.ltR b a = false) (fun a b ha hb h1 h2 => ?_) w1 w2
  obtain ⟨i, _, rfl⟩ := List.mem_map.mp (p1.mem_iff.mp ha)
  obtain ⟨j, _, rfl⟩ := List.mem_map.mp hb
  have := rowK_lt h1
  have := rowK_lt h2
  have : i = j := by omega
  rw [this]
def AskAt (H : Hp) (r : Addr) (n : Nat) (st : S3) (j : Nat) : Prop := ∃ (t l : Addr) (ps : List Srt.Row), H r = some (.tup [.ref t, .ref l, .int st.odds, .int (partsN st.tops : Nat), .int (j : Int)]) ∧ StAt H t st ∧ H l = some (.lst (ps.map Srt.rRef)) ∧ ps.map (·.2) = (List.range n).map (rowK st) ∧ ∀ q ∈ ps, H q.1 = some (.tup (q.2.map kV))
theorem Eqs.alls {K : PySem.W.Frag} {H : Hp} {n : Nat} {a c : Addr} {xs ys : List V} (hh : (SqT K H a xs ∧ SqT K H c ys) ∨ (SqL K H a xs ∧ SqL K H c ys)) (hl : xs.length = ys.length) (h : ∀ (j : Nat) p q, xs[j]? = some p → ys[j]? = some q → Eqs K H n p q true) : Eqs K H (n + 1) (.ref a) (.ref c) true :=
  .inr (.inl ⟨a, c, xs, ys, fun _ => true, rfl, rfl, hh, h, by simp [hl]⟩)
theorem Eqs.flatT {K : PySem.W.Frag} {H : Hp} {n : Nat} {x : V} (h : Flt x x = true) : Eqs K H n x x true := by
  have := Eqs.flat (K := K) (H := H) (n := n) h
  rwa [decide_eq_true rfl] at this
theorem Eqs.intsT {K : PySem.W.Frag} {H : Hp} {n : Nat} {a c : Addr} {xs : List V} (h1 : H a = some (.tup xs)) (h2 : H c = some (.tup xs)) (h : ∀ x ∈ xs, ∃ i, x = .int i) : Eqs K H (n + 1) (.ref a) (.ref c) true := by
  refine Eqs.alls (.inl ⟨SqT.of h1, SqT.of h2⟩) rfl fun j p q hp hq => ?_
  rw [hp] at hq; cases hq
  obtain ⟨i, rfl⟩ := h p (List.mem_of_getElem? hp)
  exact Eqs.flatT rfl
theorem map_ints {ns : List Int} : ∀ x ∈ ns.map V.int, ∃ i, x = V.int i := fun x hx => by
  obtain ⟨i, _, rfl⟩ := List.mem_map.mp hx
  exact ⟨i, rfl⟩
theorem row_ints {st : S3} {k : Nat} : ∀ x ∈ (rowK st k).map kV, ∃ i, x = V.int i := fun x hx => by
  simp only [rowK, List.map_cons, List.map_nil, kV, List.mem_cons, List.not_mem_nil, or_false] at hx
  rcases hx with rfl | rfl | rfl | rfl <;> exact ⟨_, rfl⟩
theorem StAt.eqs {K : PySem.W.Frag} {H : Hp} {n : Nat} {a c : Addr} {st : S3} (h1 : StAt H a st) (h2 : StAt H c st) : Eqs K H (n + 2) (.ref a) (.ref c) true := by
  obtain ⟨a1, a2, x1, x2, x3⟩ := h1
  obtain ⟨c1, c2, y1, y2, y3⟩ := h2
  have := Eqs.three (K := K) (n := n + 1) (SqT.of x1) (SqT.of y1) (Eqs.intsT x2 y2 map_ints) (Eqs.intsT x3 y3 map_ints) (Eqs.flatT (x := .int st.odds) rfl)
  exact this
theorem AskAt.eqs {K : PySem.W.Frag} {H : Hp} {m n j : Nat} {a c : Addr} {st : S3} (h1 : AskAt H a n st j) (h2 : AskAt H c n st j) : Eqs K H (m + 3) (.ref a) (.ref c) true := by
  obtain ⟨a1, a2, ps, x1, x2, x3, x4, x5⟩ := h1
  obtain ⟨c1, c2, ps', y1, y2, y3, y4, y5⟩ := h2
  have hl : ps.length = ps'.length := by
    have e := congrArg List.length (x4.trans y4.symm)
    rwa [List.length_map, List.length_map] at e
  have rows : Eqs K H (m + 2) (.ref a2) (.ref c2) true := by
    refine Eqs.alls (.inr ⟨SqL.of x3, SqL.of y3⟩) (by rw [List.length_map, List.length_map]; exact hl) fun i p q hp hq => ?_
    rw [List.getElem?_map] at hp hq
    cases e1 : ps[i]? with
    | none => rw [e1] at hp; cases hp
    | some r1 =>
      cases e2 : ps'[i]? with
      | none => rw [e2] at hq; cases hq
      | some r2 =>
        rw [e1] at hp; rw [e2] at hq
        cases hp; cases hq
        have f1 : (ps.map (·.2))[i]? = some r1.2 := by rw [List.getElem?_map, e1]; rfl
        have f2 : (ps'.map (·.2))[i]? = some r2.2 := by rw [List.getElem?_map, e2]; rfl
        rw [x4] at f1
        rw [y4, f1] at f2
        have e := Option.some.inj f2
        obtain ⟨k, _, ek⟩ := List.mem_map.mp (List.mem_of_getElem? f1)
        refine Eqs.intsT (x5 r1 (List.mem_of_getElem? e1)) (by rw [e]; exact y5 r2 (List.mem_of_getElem? e2)) ?_
        rw [← ek]; exact row_ints
  refine Eqs.alls (.inl ⟨SqT.of x1, SqT.of y1⟩) rfl fun i p q hp hq => ?_
  match i, hp, hq with
  | 0, hp, hq => cases hp; cases hq; exact x2.eqs y2
  | 1, hp, hq => cases hp; cases hq; exact rows
  | 2, hp, hq => cases hp; cases hq; exact Eqs.flatT rfl
  | 3, hp, hq => cases hp; cases hq; exact Eqs.flatT rfl
  | 4, hp, hq => cases hp; cases hq; exact Eqs.flatT rfl
  | i + 5, hp, _ => simp at hp
theorem AskAt.same {H H' : Hp} {r : Addr} {n j : Nat} {st : S3} (h : AskAt H r n st j) (s : Same H H') : AskAt H' r n st j := by
  obtain ⟨t, l, ps, h1, h2, h3, h4, h5⟩ := h
  exact ⟨t, l, ps, s _ _ h1, h2.tup (tupS_same s), s _ _ h3, h4, fun q hq => s _ _ (h5 q hq)⟩
def spAsked (C : Addr) : Sp := fun vs H Q _ => ∃ (x S : Addr) (pre : List S3) (st : S3) (n : Nat) (t : Int), vs = [.ref x, .int (n : Int), .int t] ∧ (t = 0 ∨ t = 1) ∧ TkAt C H x S (pre ++ [st]) ∧ Ok n st ∧ ∀ (r : Addr) (H' : Hp), Same H H' → AskAt H' r n st pre.length → Q (.ref r) H'
theorem turn_perm (n : Nat) {t : Int} (ht : t = 0 ∨ t = 1) : ∃ ks : List Nat, ks.Perm (List.range n) ∧ (if (some (1 - 2 * t) : Option Int) = some 1 then (rints 0 n).map V.int else ((rints 0 n).map V.int).reverse) = ks.map fun (k : Nat) => V.int (k : Int) := by
  have e : (rints 0 n).map V.int = (List.range n).map fun (k : Nat) => V.int (k : Int) := by
    unfold rints; rw [List.map_map]; refine List.map_congr_left fun k _ => ?_; simp
  rcases ht with rfl | rfl
  · exact ⟨List.range n, List.Perm.refl _, by rw [if_pos (by decide), e]⟩
  · exact ⟨(List.range n).reverse, List.reverse_perm _, by rw [if_neg (by decide), e, List.map_reverse]⟩
section
variable {P : Program} {w : World} {K : PySem.W.Frag} {mg : Str → Option Value} {base : Heap} {C I N J B : Addr}
theorem scAsked : FnScope ["_law_takes", "_law_many", "_law_turn", "_law_told", "_law_k"] ["_law_takes", "_law_many", "_law_turn"] (defScope sAsked) := ⟨rfl, rfl, rfl, by decide +kernel, rfl, by decide +kernel, by decide +kernel⟩
theorem ok_Asked {f : Addr} {fd : FuncData} (F : Fun K "_law_asked" "_law_asked" sAsked f fd) (T : Txt K mg C I N J B)
    {gSize : Addr} {fSize : FuncData} (bSize : Binds K fSize ["self", "place"] []) (hSize : Meth K C "size" gSize) (GSize : FnOk P w K mg base CX0 3 gSize fSize ["self", "place"] (spSize C))
    {gSide : Addr} {fSide : FuncData} (bSide : Binds K fSide ["self", "place"] []) (hSide : Meth K C "side" gSide) (GSide : FnOk P w K mg base CX0 3 gSide fSide ["self", "place"] (spSide C))
    {gTop : Addr} {fTop : FuncData} (bTop : Binds K fTop ["self", "place"] []) (hTop : Meth K C "top" gTop) (GTop : FnOk P w K mg base CX0 3 gTop fTop ["self", "place"] (spTop C))
    {gShown : Addr} {fShown : FuncData} (bShown : Binds K fShown ["self"] []) (hShown : Meth K C "shown" gShown) (GShown : FnOk P w K mg base CX0 3 gShown fShown ["self"] (spShown C))
    {gOdd : Addr} {fOdd : FuncData} (bOdd : Binds K fOdd ["self"] []) (hOdd : Meth K C "odd" gOdd) (GOdd : FnOk P w K mg base CX0 3 gOdd fOdd ["self"] (spOdd C))
    {gParts : Addr} {fParts : FuncData} (bParts : Binds K fParts ["self"] []) (hParts : Meth K C "parts" gParts) (GParts : FnOk P w K mg base CX0 3 gParts fParts ["self"] (spParts C))
    {gJoins : Addr} {fJoins : FuncData} (bJoins : Binds K fJoins ["self"] []) (hJoins : Meth K C "joins" gJoins) (GJoins : FnOk P w K mg base CX0 3 gJoins fJoins ["self"] (spJoins C)) :
    FnOk P w K mg base CX0 4 f fd ["_law_takes", "_law_many", "_law_turn"] (spAsked C) := by
  refine F.ok scAsked (fun vs H Q E h => ?_) (fun cdv A outer s H vs Q E hr h => ?_)
  · obtain ⟨_, _, _, _, _, _, rfl, _⟩ := h; rfl
  · obtain ⟨x, S, pre, st, n, t, rfl, ht, hT, ok, k⟩ := h
    refine ⟨_, pss_cons (ps_set (i := 3) scAsked.nd rfl (Or.inl rfl) (pe_lst pa_nil))
      (pss_cons (ps_for PassesOwn.never rfl (pi_list (pe_rev1 (pe_callTy (call_list_rng rfl) (by rfl) T.list (by decide +kernel) (pa_cons (pe_callTy call_range1 (by rfl) T.range (by decide +kernel) (pa_cons (pv 1) pa_nil)) pa_nil)) (po_some (pe_op op_sub pe_int (pe_op op_mul pe_int (pv 2)))) (fun o i => [o, i]) (fun _ _ => by with_unfolding_all rfl))) (pg_name (i := 4) scAsked.nd rfl (Or.inl rfl)) (pss_one (ps_expr (pe_bm PySem.F.plainAttrs_list PySem.F.slot_list_append PySem.F.type_list_append mt_append (pv 3) (pa_cons (pe_tup (pa_cons (pv 4) (pa_cons (pe_meth (pv 0) T.cl hSize GSize hr bSize .nil pass0 (pa_cons (pv 4) pa_nil)) (pa_cons (pe_meth (pv 0) T.cl hSide GSide hr bSide .nil pass0 (pa_cons (pv 4) pa_nil)) (pa_cons (pe_meth (pv 0) T.cl hTop GTop hr bTop .nil pass0 (pa_cons (pv 4) pa_nil)) pa_nil))))) pa_nil)))))
      (pss_one (ps_ret (pe_tup (pa_cons (pe_meth0 (pv 0) T.cl hShown GShown hr bShown .nil pass0) (pa_cons (pe_callB Srt.call_sortedT (by rfl) T.sorted (by decide +kernel) (pa_cons (pv 3) pa_nil)) (pa_cons (pe_meth0 (pv 0) T.cl hOdd GOdd hr bOdd .nil pass0) (pa_cons (pe_meth0 (pv 0) T.cl hParts GParts hr bParts .nil pass0) (pa_cons (pe_meth0 (pv 0) T.cl hJoins GJoins hr bJoins .nil pass0) pa_nil))))))))), ?_⟩
    obtain ⟨⟨dx, e1⟩, ⟨ss, eS, _⟩, _⟩ := id hT
    have n1 := ok.n1
    have n2 := ok.n2
    refine ⟨small (by simp), fun tl htl => ?_⟩
    have s1 := same_new (o := .lst []) htl
    have tl1 := upd_same (H := H) (a := tl) (o := .lst [])
    generalize upd H tl (.lst []) = H1 at s1 tl1
    refine ⟨_, rfl, (n : Int), rfl, fun g hg => ⟨g, 0, (n : Int), rfl, upd_same, ⟨by omega, by omega, by omega, by omega⟩, by omega, fun l hl => ?_⟩⟩
    have s2 := (same_new (o := .rng 0 n) hg).trans (same_new (o := .lst ((rints 0 ((n : Int) - 0).toNat).map V.int)) hl)
    have l2 := upd_same (H := upd H1 g (.rng 0 n)) (a := l) (o := .lst ((rints 0 ((n : Int) - 0).toNat).map V.int))
    generalize upd (upd H1 g (.rng 0 n)) l (.lst ((rints 0 ((n : Int) - 0).toNat).map V.int)) = H2 at s2 l2
    rw [show ((n : Int) - 0).toNat = n by omega] at l2
    refine ⟨_, rfl, _, _, rfl, rfl, .inl ⟨by decide, by decide⟩, _, _, rfl, rfl, _, rfl, by rcases ht with rfl | rfl <;> decide, l, _, rfl, SqL.of l2, fun p hp => ?_⟩
    obtain ⟨ks, hks, eks⟩ := turn_perm n ht
    rw [eks]
    have s3 := same_new (o := .lst (ks.map fun (k : Nat) => V.int (k : Int))) hp
    have p3 := upd_same (H := H2) (a := p) (o := .lst (ks.map fun (k : Nat) => V.int (k : Int)))
    generalize upd H2 p (.lst (ks.map fun (k : Nat) => V.int (k : Int))) = H3 at s3 p3
    have s13 := s2.trans s3
    have s03 := s1.trans s13
    have tl3 := s13 _ _ tl1
    have tp : tl ≠ p := ne_of_none (s2 _ _ tl1) hp
    have kl : ks.length = n := by rw [hks.length_eq, List.length_range]
    have tlS : tl ≠ S := fun z => by rw [z, eS] at htl; cases htl
    have tlx : tl ≠ x := fun z => by rw [z, e1] at htl; cases htl
    refine ⟨p, rfl, ⟨_, SqL.of p3⟩, for_list (K := K) (xs := ks.map fun (k : Nat) => V.int (k : Int)) (fun i σ H4 => ∃ (u4 : Option V) (ps : List Srt.Row), σ = [some (.ref x), some (.int (n : Int)), some (.int t), some (.ref tl), u4] ∧ (∀ b o, H3 b = some o → b ≠ tl → H4 b = some o) ∧ H4 tl = some (.lst (ps.map Srt.rRef)) ∧ ps.map (·.2) = (ks.take i).map (rowK st) ∧ ∀ q ∈ ps, H4 q.1 = some (.tup (q.2.map kV))) ⟨none, [], rfl, fun b o e _ => e, tl3, rfl, fun q hq => by simp at hq⟩ (fun i σ H4 _ ⟨_, _, _, f, _⟩ => SqL.of (f _ _ p3 tp.symm)) ?_ ?_⟩
    · rintro i v σ H4 hv ⟨u4, ps, rfl, f4, tl4, pe, pq⟩
      obtain ⟨k0, hk0, rfl⟩ : ∃ k0, ks[i]? = some k0 ∧ v = V.int (k0 : Int) := by
        rw [List.getElem?_map] at hv
        cases e : ks[i]? with
        | none => rw [e] at hv; cases hv
        | some k0 => rw [e] at hv; cases hv; exact ⟨k0, rfl, rfl⟩
      have k0n : k0 < n := List.mem_range.mp (hks.mem_iff.mp (List.mem_of_getElem? hk0))
      have il : i < n := by rw [← kl]; exact (List.getElem?_eq_some_iff.mp hk0).1
      have T4 : TkAt C H4 x S (pre ++ [st]) := (hT.same s03).keep (A := fun b => b = tl) f4 tlx.symm tlS.symm fun b xs e z => by rw [z, tl3] at e; cases e
      obtain ⟨⟨dx4, e4⟩, _, _⟩ := id T4
      have pl : ps.length = i := by
        have := congrArg List.length pe
        rw [List.length_map, List.length_map, List.length_take, kl] at this
        omega
      refine ⟨_, rfl, .inl ⟨rfl, _, SqL.of tl4⟩, _, rfl, _, rfl, x, dx4, _, rfl, e4, flds_no S (by decide +kernel), _, rfl, x, S, pre, st, n, k0, rfl, T4, ok, k0n, ?_⟩
      refine ⟨_, rfl, x, dx4, _, rfl, e4, flds_no S (by decide +kernel), _, rfl, x, S, pre, st, n, k0, rfl, T4, ok, k0n, ?_⟩
      refine ⟨_, rfl, x, dx4, _, rfl, e4, flds_no S (by decide +kernel), _, rfl, x, S, pre, st, n, k0, rfl, T4, ok, k0n, ?_⟩
      refine ⟨small (by simp), fun q hq => ?_⟩
      have s5 := same_new (o := .tup ((rowK st k0).map kV)) hq
      have q5 := upd_same (H := H4) (a := q) (o := .tup ((rowK st k0).map kV))
      have ee : upd H4 q (.tup [.int (k0 : Int), .int (st.tops.count (st.tops.getD k0 0) : Nat), .int (st.sides.getD k0 0), .int (st.tops.getD k0 0)]) = upd H4 q (.tup ((rowK st k0).map kV)) := rfl
      rw [ee]
      generalize upd H4 q (.tup ((rowK st k0).map kV)) = H5 at s5 q5
      have tl5 := s5 _ _ tl4
      have qt : q ≠ tl := (ne_of_none tl4 hq).symm
      refine ⟨tl, _, _, rfl, rfl, tl5, small1000 (by simp; omega), ?_⟩
      refine ⟨_, ps ++ [(q, rowK st k0)], rfl, fun b o e nb => by rw [upd_ne nb]; exact s5 _ _ (f4 _ _ e nb), by rw [upd_same]; simp [Srt.rRef], ?_, fun z hz => ?_⟩
      · rw [List.map_append, pe, take_snoc hk0, List.map_append]; rfl
      · rcases List.mem_append.mp hz with hz | hz
        · have := pq z hz
          rw [upd_ne (fun w => by rw [w, tl4] at this; cases this)]
          exact s5 _ _ this
        · cases List.mem_singleton.mp hz
          rw [upd_ne qt]; exact q5
    rintro σ H4 ⟨u4, ps, rfl, f4, tl4, pe, pq⟩
    rw [List.length_map, List.take_of_length_le (Nat.le_refl _)] at pe
    have pl : ps.length = n := by
      have := congrArg List.length pe
      rw [List.length_map, List.length_map, kl] at this
      exact this
    have s04 : Same H H4 := fun b o e => f4 _ _ (s03 _ _ e) (ne_of_none e htl)
    have T4 := hT.same s04
    obtain ⟨⟨dx4, e4⟩, _, _⟩ := id T4
    refine ⟨_, rfl, x, dx4, _, rfl, e4, flds_no S (by decide +kernel), x, S, pre, st, rfl, T4, fun r hst => ?_⟩
    refine ⟨_, rfl, tl, ps, rfl, SqL.of tl4, ⟨fun q hq => SqT.of (pq q hq), fun q hq q' hq' => ?_, fun q hq => ?_, by omega⟩, fun l5 ps' hl5 perm pw => ?_⟩
    · obtain ⟨i, _, ei⟩ := List.mem_map.mp (by rw [← pe]; exact List.mem_map.mpr ⟨q, hq, rfl⟩ : q.2 ∈ ks.map (rowK st))
      obtain ⟨j, _, ej⟩ := List.mem_map.mp (by rw [← pe]; exact List.mem_map.mpr ⟨q', hq', rfl⟩ : q'.2 ∈ ks.map (rowK st))
      rw [← ei, ← ej]; rfl
    · obtain ⟨i, _, ei⟩ := List.mem_map.mp (by rw [← pe]; exact List.mem_map.mpr ⟨q, hq, rfl⟩ : q.2 ∈ ks.map (rowK st))
      rw [← ei]; simp [rowK]
    have rows := rows_sorted hks pe perm pw
    have s5 := same_new (o := .lst (ps'.map Srt.rRef)) hl5
    have l5' := upd_same (H := H4) (a := l5) (o := .lst (ps'.map Srt.rRef))
    generalize upd H4 l5 (.lst (ps'.map Srt.rRef)) = H5 at s5 l5'
    have T5 := T4.same s5
    obtain ⟨⟨dx5, e5⟩, _, _⟩ := id T5
    refine ⟨_, rfl, x, dx5, _, rfl, e5, flds_no S (by decide +kernel), x, S, pre, st, rfl, T5, ?_⟩
    refine ⟨_, rfl, x, dx5, _, rfl, e5, flds_no S (by decide +kernel), x, S, pre, st, n, rfl, T5, ok, fun H6 s6 => ?_⟩
    have T6 := T5.same s6
    obtain ⟨⟨dx6, e6⟩, _, _⟩ := id T6
    refine ⟨_, rfl, x, dx6, _, rfl, e6, flds_no S (by decide +kernel), x, S, _, rfl, T6, ?_⟩
    refine ⟨small (by simp), fun q hq => ?_⟩
    have ej : (((pre ++ [st]).length : Int) - 1) = (pre.length : Int) := by simp
    rw [ej]
    have s7 := same_new (o := .tup [.ref r, .ref l5, .int st.odds, .int (partsN st.tops : Nat), .int (pre.length : Int)]) hq
    have s57 := s6.trans s7
    exact k q _ ((s04.trans s5).trans s57) ⟨r, l5, ps', upd_same, (hst.tup (tupS_same s5)).tup (tupS_same s57), s57 _ _ l5', rows, fun z hz => s57 _ _ (s5 _ _ (pq z (perm.mem_iff.mp hz)))⟩
end
end K20
set_option maxHeartbeats 2000000
namespace K20
open PySem L2 Wk
def ToAt (H : Hp) (t : Addr) : Prop := ∃ (f d : Addr) (st : S3), H t = some (.tup [.ref f, .ref d]) ∧ StAt H f st ∧ StAt H d st
theorem ToAt.tup {H H' : Hp} {t : Addr} (h : ToAt H t) (s : TupS H H') : ToAt H' t := by
  obtain ⟨f, d, st, h1, h2, h3⟩ := h
  exact ⟨f, d, st, s _ _ h1, h2.tup s, h3.tup s⟩
def spAlike (C : Addr) : Sp := fun vs H Q _ => ∃ (a : Addr) (c : Nat) (x S L : Addr) (m : Int) (rs : List Addr) (pr : List (Nat × Nat)) (TO : Addr) (tos : List Addr), vs = [.ref a, .ref x, .int m, .ref L, .ref TO] ∧ DeckAt H a c ∧ c ≤ 90000 ∧ One C H x S L m rs pr ∧ H TO = some (.lst (tos.map V.ref)) ∧ tos.length ≤ 200 ∧ a ≠ S ∧ a ≠ L ∧ a ≠ TO ∧ TO ≠ S ∧ TO ≠ L ∧
  ∀ (t : Addr) (H' : Hp), DeckAt H' a (c + 1) → H' TO = some (.lst ((tos ++ [t]).map V.ref)) → ToAt H' t → (∀ b o, H b = some o → b ≠ a → b ≠ TO → H' b = some o) → Q (.bl true) H'
section
variable {P : Program} {w : World} {K : PySem.W.Frag} {mg : Str → Option Value} {base : Heap} {C I N J B : Addr}
theorem scAlike : FnScope ["_law_deck", "_law_takes", "_law_many", "_law_pairs", "_law_told", "_law_turn", "_law_model"] ["_law_deck", "_law_takes", "_law_many", "_law_pairs", "_law_told"] (defScope sAlike) := ⟨rfl, rfl, rfl, by decide +kernel, rfl, by decide +kernel, by decide +kernel⟩
theorem ok_Alike {f : Addr} {fd : FuncData} (F : Fun K "_law_alike" "_law_alike" sAlike f fd) (T : Txt K mg C I N J B)
    {gDraw : Addr} {fDraw : FuncData} (kDraw : PySem.W.keepIn K (.ref gDraw) = true) (bDraw : Binds K fDraw ["_law_deck", "_law_most"] []) (hDraw : mg "_law_draw" = some (.ref gDraw)) (GDraw : FnOk P w K mg base CX0 4 gDraw fDraw ["_law_deck", "_law_most"] spDraw)
    {gMade : Addr} {fMade : FuncData} (kMade : PySem.W.keepIn K (.ref gMade) = true) (bMade : Binds K fMade ["_law_many", "_law_pairs"] []) (hMade : mg "_law_made" = some (.ref gMade)) (GMade : FnOk P w K mg base CX0 4 gMade fMade ["_law_many", "_law_pairs"] spMade)
    {gShownR : Addr} {fShownR : FuncData} (kShownR : PySem.W.keepIn K (.ref gShownR) = true) (bShownR : Binds K fShownR ["_law_takes", "_law_model", "_law_laid"] []) (hShownR : mg "_law_shown_right" = some (.ref gShownR)) (GShownR : FnOk P w K mg base CX0 4 gShownR fShownR ["_law_takes", "_law_model", "_law_laid"] (spShownR C))
    {gPlaceR : Addr} {fPlaceR : FuncData} (kPlaceR : PySem.W.keepIn K (.ref gPlaceR) = true) (bPlaceR : Binds K fPlaceR ["_law_takes", "_law_model", "_law_place"] []) (hPlaceR : mg "_law_place_right" = some (.ref gPlaceR)) (GPlaceR : FnOk P w K mg base CX0 4 gPlaceR fPlaceR ["_law_takes", "_law_model", "_law_place"] (spPlaceR C))
    {gShown : Addr} {fShown : FuncData} (bShown : Binds K fShown ["self"] []) (hShown : Meth K C "shown" gShown) (GShown : FnOk P w K mg base CX0 4 gShown fShown ["self"] (spShown C))
    {gDue : Addr} {fDue : FuncData} (kDue : PySem.W.keepIn K (.ref gDue) = true) (bDue : Binds K fDue ["_law_model"] []) (hDue : mg "_law_due_of" = some (.ref gDue)) (GDue : FnOk P w K mg base CX0 4 gDue fDue ["_law_model"] spDue)
    {gAsked : Addr} {fAsked : FuncData} (kAsked : PySem.W.keepIn K (.ref gAsked) = true) (bAsked : Binds K fAsked ["_law_takes", "_law_many", "_law_turn"] []) (hAsked : mg "_law_asked" = some (.ref gAsked)) (GAsked : FnOk P w K mg base CX0 4 gAsked fAsked ["_law_takes", "_law_many", "_law_turn"] (spAsked C)) :
    FnOk P w K mg base CX0 5 f fd ["_law_deck", "_law_takes", "_law_many", "_law_pairs", "_law_told"] (spAlike C) := by
  refine F.ok scAlike (fun vs H Q E h => ?_) (fun cdv A outer s H vs Q E hr h => ?_)
  · obtain ⟨_, _, _, _, _, _, _, _, _, _, rfl, _⟩ := h; rfl
  · obtain ⟨a, c, x, S, L, m, rs, pr, TO, tos, rfl, hD, hc, O, hTO, tl, aS, aL, aTO, TS, TL, k⟩ := h
    refine ⟨_, pss_cons (ps_set (i := 5) scAlike.nd rfl (Or.inl rfl) (pe_call GDraw hr rfl hDraw kDraw bDraw .nil pass0 (pa_cons (pv 0) (pa_cons pe_int pa_nil))))
      (pss_cons (ps_set (i := 6) scAlike.nd rfl (Or.inr rfl) (pe_call GMade hr rfl hMade kMade bMade .nil pass0 (pa_cons (pv 2) (pa_cons (pv 3) pa_nil))))
      (pss_cons (ps_if (pt_not (pt_val (pe_call GShownR hr rfl hShownR kShownR bShownR .nil pass0 (pa_cons (pv 1) (pa_cons (pv 6) (pa_cons (pe_callB call_len_seq (by rfl) T.len PySem.boot_len (pa_cons (pv 3) pa_nil)) pa_nil)))))) (pss_one (ps_ret pe_bl)) pss_nil)
      (pss_cons (ps_if (pt_cmpR (op_neNil hr.units) (pe_comp (T := ["_law_k"]) (F := ["_law_takes", "_law_model"]) (js := [1, 6]) (CS.to (osc := defScope sAlike) ⟨by rfl, by decide +kernel, by decide +kernel, by decide +kernel, by decide +kernel, by decide +kernel, by decide +kernel⟩ rfl rfl) rfl (pi_range1 rfl T.range (pa_cons (pv 2) pa_nil)) (fun _ _ _ _ _ => pg_name (i := 0) (show (["_law_k", "_law_takes", "_law_model"] : List Str).Nodup by decide +kernel) rfl (Or.inl rfl)) (fun _ _ _ _ _ => pif_one (pt_not (pt_val (pe_call GPlaceR hr rfl hPlaceR kPlaceR bPlaceR .nil pass0 (pa_cons (pv 1) (pa_cons (pv 2) (pa_cons (pv 0) pa_nil))))))) (fun _ _ _ _ _ => pv 0)) (pe_lst pa_nil) (nomark _)) (pss_one (ps_ret pe_bl)) pss_nil)
      (pss_cons (ps_expr (pe_bm PySem.F.plainAttrs_list PySem.F.slot_list_append PySem.F.type_list_append mt_append (pv 4) (pa_cons (pe_tup (pa_cons (pe_meth0 (pv 1) T.cl hShown GShown hr bShown .nil pass0) (pa_cons (pe_call GDue hr rfl hDue kDue bDue .nil pass0 (pa_cons (pv 6) pa_nil)) pa_nil))) pa_nil)))
      (pss_one (ps_ret (pe_cmpR (op_eqs hr.units) (pe_call GAsked hr rfl hAsked kAsked bAsked .nil pass0 (pa_cons (pv 1) (pa_cons (pv 2) (pa_cons (pv 5) pa_nil)))) (pe_call GAsked hr rfl hAsked kAsked bAsked .nil pass0 (pa_cons (pv 1) (pa_cons (pv 2) (pa_cons (pe_op op_sub pe_int (pv 5)) pa_nil)))) (nomark _)))))))), ?_⟩
    have m1 := O.m1
    have m2 := O.m2
    obtain ⟨n, rfl⟩ : ∃ n : Nat, m = (n : Int) := ⟨m.toNat, by omega⟩
    refine ⟨_, rfl, a, c, 2, rfl, hD, by omega, by decide, by decide, fun v H1 v0 v1 b1 D1 => ?_⟩
    have O1 := O.draw b1 hD aS aL
    have TO1 := b1 _ _ hTO aTO.symm
    have rl := O1.pa.len
    refine ⟨_, rfl, _, rfl, (n : Int), L, rs, pr, rfl, by omega, m2, O1.pl, O1.pa, O1.lt, fun d Pa Sd ps H2 s2 M2 G2 fr2 => ?_⟩
    have O2 := O1.same s2
    have T2 := O2.tk
    rw [hist_last] at T2
    refine ⟨_, rfl, _, rfl, _, rfl, L, _, rfl, .inl (SqL.of O2.pl), x, S, d, Pa, Sd, _, _, ps, n, _, rfl, T2, M2, G2, by rw [List.length_map, rl, histP_len], fun H3 s3 => ⟨true, rfl, iteF ?_⟩⟩
    dsimp only [tNext]
    have T3 := T2.same s3
    have M3 := M2.same s3
    have hn : (n : Int).toNat = n := rfl
    refine ⟨_, rfl, (n : Int), rfl, by omega, by omega, fun Dl hDl => comp_range (n := n) (fun j σ ys H4 => ∃ u1 : Option V, σ = [u1, some (.ref x), some (.ref d)] ∧ Same H3 H4 ∧ H4 Dl = some (.lst ys) ∧ ys = []) ⟨none, rfl, same_new hDl, upd_same, rfl⟩ (fun j σ ys H4 _ ⟨_, _, _, e, _⟩ => e) ?_ ?_⟩
    · rintro j σ ys H4 hj ⟨u1, rfl, s4, e4, rfl⟩
      exact ⟨_, rfl, _, rfl, _, rfl, x, S, d, Pa, Sd, _, _, ps, n, j, by simp, T3.same s4, M3.same s4, G2, hj, fun H5 s5 => ⟨true, rfl, iteF ⟨_, rfl, s4.trans s5, s5 _ _ e4, rfl⟩⟩⟩
    rintro σ ys H4 ⟨u1, rfl, s4, e4, rfl⟩
    refine ⟨small (by simp), fun e he => ?_⟩
    have s5 := same_new (o := .lst []) he
    have e5 := upd_same (H := H4) (a := e) (o := .lst [])
    generalize upd H4 e (.lst []) = H5 at s5 e5
    refine ⟨Dl, e, [], rfl, rfl, SqL.of (s5 _ _ e4), SqL.of e5, _, rfl, iteF ?_⟩
    dsimp only [tNext]
    have s35 := s4.trans s5
    have s25 := s3.trans s35
    have T5 := T3.same s35
    have M5 := M3.same s35
    have TO5 := s25 _ _ (s2 _ _ TO1)
    obtain ⟨⟨dx, e1⟩, ⟨ss, eS, _⟩, _⟩ := id T5
    refine ⟨_, rfl, .inl ⟨rfl, _, SqL.of TO5⟩, _, rfl, x, dx, _, rfl, e1, flds_no S (by decide +kernel), x, S, _, _, rfl, T5, fun r hst => ?_⟩
    refine ⟨_, rfl, d, Pa, Sd, ps, _, n, rfl, M5, G2, fun r2 H6 s6 hst2 => ⟨small (by simp), fun q hq => ?_⟩⟩
    have s7 := same_new (o := .tup [.ref r, .ref r2]) hq
    have q7 := upd_same (H := H6) (a := q) (o := .tup [.ref r, .ref r2])
    generalize upd H6 q (.tup [.ref r, .ref r2]) = H7 at s7 q7
    have s57 := s6.trans s7
    have TO7 := s57 _ _ TO5
    refine ⟨TO, _, _, rfl, rfl, TO7, small1000 (by simp; omega), ?_⟩
    have to7 : ToAt H7 q := ⟨r, r2, _, q7, hst.tup (tupS_same s57), hst2.tup (tupS_same s7)⟩
    have T7 := T5.same s57
    generalize hH8 : upd H7 TO (.lst (tos.map V.ref ++ [.ref q])) = H8
    have k8 : ∀ b o, H7 b = some o → b ≠ TO → H8 b = some o := fun b o e nb => by rw [← hH8, upd_ne nb]; exact e
    have TO8 : H8 TO = some (.lst ((tos ++ [q]).map V.ref)) := by rw [← hH8, upd_same]; simp
    have t78 : TupS H7 H8 := fun b xs e => k8 _ _ e fun z => by rw [z, TO7] at e; cases e
    have T8 : TkAt C H8 x S (histP (start3 (n : Int)) pr ++ [fin (start3 (n : Int)) pr]) := T7.keep (A := fun b => b = TO) k8 (fun z => by rw [← z, s57 _ _ e1] at TO7; cases TO7) TS.symm fun b xs e z => by rw [z, TO7] at e; cases e
    have okf := ok_fin m1 m2 pr
    refine ⟨_, rfl, _, rfl, _, rfl, x, S, _, _, n, v, rfl, by omega, T8, okf, fun r3 H9 s9 A9 => ?_⟩
    refine ⟨_, rfl, _, rfl, _, rfl, _, _, rfl, rfl, x, S, _, _, n, 1 - v, rfl, by omega, T8.same s9, okf, fun r4 H10 s10 A10 => ?_⟩
    have s810 := s9.trans s10
    refine ⟨2, true, r3, r4, rfl, rfl, by decide, (A9.same s10).eqs A10, k q H10 ?_ (s810 _ _ TO8) ((to7.tup t78).tup (tupS_same s810)) fun b o e na nO => s810 _ _ (k8 _ _ (s57 _ _ (s25 _ _ (s2 _ _ (b1 _ _ e na)))) nO)⟩
    obtain ⟨A1, A2, A3, e, r⟩ := D1
    exact ⟨A1, A2, A3, s810 _ _ (k8 _ _ (s57 _ _ (s25 _ _ (s2 _ _ e))) aTO), r⟩
end
end K20
set_option maxHeartbeats 2000000
namespace K20
open PySem L2 Wk
def bi (b : Bool) : Int := if b then 1 else 0
theorem bi_of {v : Int} (h0 : 0 ≤ v) (h1 : v < 2) : ∃ b, v = bi b := by
  have : v = 0 ∨ v = 1 := by omega
  rcases this with rfl | rfl
  · exact ⟨false, rfl⟩
  · exact ⟨true, rfl⟩
theorem bi_at (f : Bool → V) (b : Bool) : atI [f false, f true] (bi b) = some (f b) := by
  cases b
  · exact at0
  · exact at1
def upB {α : Type} (f : Bool → α) (b : Bool) (v : α) : Bool → α := fun i => if i = b then v else f i
theorem upB_same {α : Type} (f : Bool → α) (b : Bool) (v : α) : upB f b v b = v := if_pos rfl
theorem upB_ne {α : Type} (f : Bool → α) {b i : Bool} (v : α) (h : i ≠ b) : upB f b v i = f i := if_neg h
def bn (b : Bool) : Nat := if b then 1 else 0
theorem bi_ix (b : Bool) : ixN 2 (bi b) = some (bn b) := by cases b <;> rfl
structure Two (C : Addr) (H0 H : Hp) (a M TL PL TO : Addr) (x S L : Bool → Addr) (m : Bool → Int) (rs : Bool → List Addr) (pr : Bool → List (Nat × Nat)) (tos : List Addr) (c : Nat) : Prop where
  dk : DeckAt H a c
  one : ∀ i, One C H (x i) (S i) (L i) (m i) (rs i) (pr i)
  hM : H M = some (.lst [.int (m false), .int (m true)])
  hT : H TL = some (.lst [.ref (x false), .ref (x true)])
  hP : H PL = some (.lst [.ref (L false), .ref (L true)])
  hO : H TO = some (.lst (tos.map V.ref))
  to : ∀ t ∈ tos, ToAt H t
  aM : M ≠ a
  aT : TL ≠ a
  aP : PL ≠ a
  aO : TO ≠ a
  MP : M ≠ PL
  MO : M ≠ TO
  TP : TL ≠ PL
  TT : TL ≠ TO
  PO : PL ≠ TO
  aS : ∀ i, S i ≠ a
  aL : ∀ i, L i ≠ a
  SM : ∀ i, S i ≠ M
  ST : ∀ i, S i ≠ TL
  SP : ∀ i, S i ≠ PL
  SO : ∀ i, S i ≠ TO
  LP : ∀ i, L i ≠ PL
  LO : ∀ i, L i ≠ TO
  SS : ∀ i j, i ≠ j → S i ≠ S j
  xx : ∀ i j, i ≠ j → x i ≠ x j
  SL : ∀ i j, S i ≠ L j
  bt : But a H0 H
  fx : ∀ i, H0 (x i) = none
  fS : ∀ i, H0 (S i) = none
  fP : H0 PL = none
  fO : H0 TO = none
section
variable {C : Addr} {H0 H H' : Hp} {a M TL PL TO : Addr} {x S L : Bool → Addr} {m : Bool → Int} {rs : Bool → List Addr} {pr : Bool → List (Nat × Nat)} {tos : List Addr} {c c' : Nat}
theorem Two.ob (W : Two C H0 H a M TL PL TO x S L m rs pr tos c) (i : Bool) : ∃ dx, H (x i) = some (.ins C dx (flds (S i))) := (W.one i).tk.ob
theorem Two.sl (W : Two C H0 H a M TL PL TO x S L m rs pr tos c) (i : Bool) : ∃ xs, H (S i) = some (.lst xs) := let ⟨ss, e, _⟩ := (W.one i).tk.st; ⟨_, e⟩
theorem Two.keep {A : Addr → Prop} (W : Two C H0 H a M TL PL TO x S L m rs pr tos c) (f : ∀ b o, H b = some o → ¬ A b → H' b = some o) (ht : ∀ b xs, H b = some (.tup xs) → ¬ A b) (hx : ∀ i, ¬ A (x i)) (hS : ∀ i, ¬ A (S i)) (hL : ∀ i, ¬ A (L i)) (nM : ¬ A M) (nT : ¬ A TL) (nP : ¬ A PL) (nO : ¬ A TO)
    (dk : DeckAt H' a c') (bt : But a H0 H') : Two C H0 H' a M TL PL TO x S L m rs pr tos c' :=
  { W with dk := dk, one := fun i => (W.one i).keep f (hx i) (hS i) (hL i) ht, hM := f _ _ W.hM nM, hT := f _ _ W.hT nT, hP := f _ _ W.hP nP, hO := f _ _ W.hO nO, to := fun t h => (W.to t h).tup fun b xs e => f _ _ e (ht b xs e), bt := bt }
theorem Two.draw (W : Two C H0 H a M TL PL TO x S L m rs pr tos c) (b : But a H H') (D : DeckAt H' a c') : Two C H0 H' a M TL PL TO x S L m rs pr tos c' := by
  obtain ⟨A1, A2, A3, e, _⟩ := W.dk
  refine W.keep (A := fun q => q = a) b (fun q xs eq z => by rw [z, e] at eq; cases eq) (fun i z => ?_) W.aS W.aL W.aM W.aT W.aP W.aO D (W.bt.trans b)
  obtain ⟨dx, ex⟩ := W.ob i
  rw [z, e] at ex; cases ex
theorem Two.same (W : Two C H0 H a M TL PL TO x S L m rs pr tos c) (s : Same H H') : Two C H0 H' a M TL PL TO x S L m rs pr tos c := W.draw (fun b o e _ => s b o e) (W.dk.same s)
theorem Two.mono (W : Two C H0 H a M TL PL TO x S L m rs pr tos c) (h : c ≤ c') : Two C H0 H a M TL PL TO x S L m rs pr tos c' := { W with dk := W.dk.mono h }
theorem Two.nw (W : Two C H0 H a M TL PL TO x S L m rs pr tos c) {z : Addr} (h : H z = none) : z ≠ a ∧ z ≠ M ∧ z ≠ TL ∧ z ≠ PL ∧ z ≠ TO ∧ (∀ i, z ≠ x i) ∧ (∀ i, z ≠ S i) ∧ (∀ i, z ≠ L i) ∧ H0 z = none := by
  obtain ⟨A1, A2, A3, e, _⟩ := W.dk
  have za := (ne_of_none e h).symm
  refine ⟨za, (ne_of_none W.hM h).symm, (ne_of_none W.hT h).symm, (ne_of_none W.hP h).symm, (ne_of_none W.hO h).symm, fun i => ?_, fun i => ?_, fun i => (ne_of_none (W.one i).pl h).symm, ?_⟩
  · obtain ⟨dx, ex⟩ := W.ob i; exact (ne_of_none ex h).symm
  · obtain ⟨xs, ex⟩ := W.sl i; exact (ne_of_none ex h).symm
  · cases e0 : H0 z with
    | none => rfl
    | some o => rw [W.bt _ _ e0 za] at h; cases h
theorem Two.far {z : Addr} {ys : List V} (W : Two C H0 H a M TL PL TO x S L m rs pr tos c) (hz : H z = some (.lst ys)) (f : ∀ b o, H b = some o → b ≠ z → H' b = some o) (h : z ≠ a ∧ z ≠ M ∧ z ≠ TL ∧ z ≠ PL ∧ z ≠ TO ∧ (∀ i, z ≠ x i) ∧ (∀ i, z ≠ S i) ∧ (∀ i, z ≠ L i) ∧ H0 z = none) : Two C H0 H' a M TL PL TO x S L m rs pr tos c := by
  obtain ⟨h1, h2, h3, h4, h5, h6, h7, h8, h9⟩ := h
  refine W.keep (A := fun q => q = z) f (fun q xs eq e => by rw [e, hz] at eq; cases eq) (fun i => (h6 i).symm) (fun i => (h7 i).symm) (fun i => (h8 i).symm) h2.symm h3.symm h4.symm h5.symm ?_ fun b o e nb => f _ _ (W.bt _ _ e nb) fun q => by rw [q, h9] at e; cases e
  obtain ⟨A1, A2, A3, e, r⟩ := W.dk
  exact ⟨A1, A2, A3, f _ _ e h1.symm, r⟩
theorem Two.step (W : Two C H0 H a M TL PL TO x S L m rs pr tos c) (b : Bool) {S' L' : Addr} {rs' : List Addr} {pr' : List (Nat × Nat)} {H1 : Hp} (D : DeckAt H1 a c') (O : One C H1 (x b) S' L' (m b) rs' pr') (f : ∀ q o, H q = some o → q ≠ a → q ≠ x b → q ≠ S b → H1 q = some o) (hS : S' = S b ∨ H S' = none) (hL : L' = L b ∨ H L' = none) (aS' : a ≠ S') (aL' : a ≠ L') :
    Two C H0 (upd H1 PL (.lst [.ref (upB L b L' false), .ref (upB L b L' true)])) a M TL PL TO x (upB S b S') (upB L b L') m (upB rs b rs') (upB pr b pr') tos c' := by
  obtain ⟨A1, A2, A3, e, _⟩ := W.dk
  obtain ⟨dx, ex⟩ := W.ob b
  obtain ⟨xs, eS⟩ := W.sl b
  have nax : ∀ {q : Addr} {ys : List V}, H q = some (.lst ys) → q ≠ x b := fun {q ys} eq z => by rw [z, ex] at eq; cases eq
  have nt : ∀ {q : Addr} {ys : List V}, H q = some (.tup ys) → q ≠ a ∧ q ≠ x b ∧ q ≠ S b := fun {q ys} eq => ⟨(fun z => by rw [z, e] at eq; cases eq), (fun z => by rw [z, ex] at eq; cases eq), (fun z => by rw [z, eS] at eq; cases eq)⟩
  have P1 := f _ _ W.hP W.aP (nax W.hP) (W.SP b).symm
  have t1 : TupS H H1 := fun q ys eq => f _ _ eq (nt eq).1 (nt eq).2.1 (nt eq).2.2
  have k2 : ∀ q o, H1 q = some o → q ≠ PL → upd H1 PL (.lst [.ref (upB L b L' false), .ref (upB L b L' true)]) q = some o := fun q o eq nq => by rw [upd_ne nq]; exact eq
  have t2 : TupS H1 (upd H1 PL (.lst [.ref (upB L b L' false), .ref (upB L b L' true)])) := fun q ys eq => k2 _ _ eq fun z => by rw [z, P1] at eq; cases eq
  have sf : ∀ {q : Addr} {o : HO}, H q = some o → q ≠ S b → S' ≠ q := fun {q o} eq nq z => by
    rcases hS with h | h
    · exact nq (z.symm.trans h)
    · rw [z, eq] at h; cases h
  have lf : ∀ {q : Addr} {o : HO}, H q = some o → q ≠ L b → L' ≠ q := fun {q o} eq nq z => by
    rcases hL with h | h
    · exact nq (z.symm.trans h)
    · rw [z, eq] at h; cases h
  have LP' : L' ≠ PL := lf W.hP (W.LP b).symm
  have SP' : S' ≠ PL := sf W.hP (W.SP b).symm
  have old : ∀ q, H q = none → q ≠ a → H0 q = none := fun q hq na => by
    cases e0 : H0 q with
    | none => rfl
    | some o => rw [W.bt _ _ e0 na] at hq; cases hq
  have xP : x b ≠ PL := fun z => by rw [z, W.hP] at ex; cases ex
  refine ⟨?_, fun i => ?_, k2 _ _ (f _ _ W.hM W.aM (nax W.hM) (W.SM b).symm) W.MP, k2 _ _ (f _ _ W.hT W.aT (nax W.hT) (W.ST b).symm) W.TP, upd_same, k2 _ _ (f _ _ W.hO W.aO (nax W.hO) (W.SO b).symm) W.PO.symm, fun t h => ((W.to t h).tup t1).tup t2, W.aM, W.aT, W.aP, W.aO, W.MP, W.MO, W.TP, W.TT, W.PO, fun i => ?_, fun i => ?_, fun i => ?_, fun i => ?_, fun i => ?_, fun i => ?_, fun i => ?_, fun i => ?_, fun i j h => ?_, W.xx, fun i j => ?_, fun q o e0 na => ?_, W.fx, fun i => ?_, W.fP, W.fO⟩
  · obtain ⟨B1, B2, B3, e1, r1⟩ := D
    exact ⟨B1, B2, B3, k2 _ _ e1 W.aP.symm, r1⟩
  · by_cases h : i = b
    · subst h
      rw [upB_same, upB_same, upB_same, upB_same]
      obtain ⟨dx1, ex1⟩ := O.tk.ob
      exact O.keep (A := fun q => q = PL) k2 xP SP' LP' fun q ys eq z => by rw [z, P1] at eq; cases eq
    · rw [upB_ne _ _ h, upB_ne _ _ h, upB_ne _ _ h, upB_ne _ _ h]
      obtain ⟨dxi, exi⟩ := W.ob i
      obtain ⟨xsi, eSi⟩ := W.sl i
      have O1 : One C H1 (x i) (S i) (L i) (m i) (rs i) (pr i) := (W.one i).keep (A := fun q => q = a ∨ q = x b ∨ q = S b) (fun q o eq nq => f _ _ eq (fun z => nq (.inl z)) (fun z => nq (.inr (.inl z))) fun z => nq (.inr (.inr z)))
        (fun z => by
          rcases z with z | z | z
          · rw [z, e] at exi; cases exi
          · exact W.xx i b h z
          · rw [z, eS] at exi; cases exi)
        (fun z => by
          rcases z with z | z | z
          · exact W.aS i z
          · rw [z, ex] at eSi; cases eSi
          · exact W.SS i b h z)
        (fun z => by
          rcases z with z | z | z
          · exact W.aL i z
          · exact nax (W.one i).pl z
          · exact W.SL b i z.symm)
        fun q ys eq z => by
          rcases z with z | z | z
          · exact (nt eq).1 z
          · exact (nt eq).2.1 z
          · exact (nt eq).2.2 z
      exact O1.keep (A := fun q => q = PL) k2 (fun z => by rw [z, W.hP] at exi; cases exi) (W.SP i) (W.LP i) fun q ys eq z => by rw [z, P1] at eq; cases eq
  · by_cases h : i = b
    · rw [h, upB_same]; exact aS'.symm
    · rw [upB_ne _ _ h]; exact W.aS i
  · by_cases h : i = b
    · rw [h, upB_same]; exact aL'.symm
    · rw [upB_ne _ _ h]; exact W.aL i
  · by_cases h : i = b
    · rw [h, upB_same]; exact sf W.hM (W.SM b).symm
    · rw [upB_ne _ _ h]; exact W.SM i
  · by_cases h : i = b
    · rw [h, upB_same]; exact sf W.hT (W.ST b).symm
    · rw [upB_ne _ _ h]; exact W.ST i
  · by_cases h : i = b
    · rw [h, upB_same]; exact SP'
    · rw [upB_ne _ _ h]; exact W.SP i
  · by_cases h : i = b
    · rw [h, upB_same]; exact sf W.hO (W.SO b).symm
    · rw [upB_ne _ _ h]; exact W.SO i
  · by_cases h : i = b
    · rw [h, upB_same]; exact LP'
    · rw [upB_ne _ _ h]; exact W.LP i
  · by_cases h : i = b
    · rw [h, upB_same]; exact lf W.hO (W.LO b).symm
    · rw [upB_ne _ _ h]; exact W.LO i
  · by_cases hi : i = b
    · have hj : j ≠ b := fun z => h (hi.trans z.symm)
      obtain ⟨xsj, eSj⟩ := W.sl j
      rw [hi, upB_same, upB_ne _ _ hj]; exact sf eSj (W.SS j b hj)
    · rw [upB_ne _ _ hi]
      obtain ⟨xsi, eSi⟩ := W.sl i
      by_cases hj : j = b
      · rw [hj, upB_same]; exact (sf eSi (W.SS i b hi)).symm
      · rw [upB_ne _ _ hj]; exact W.SS i j h
  · by_cases hi : i = b
    · rw [hi, upB_same]
      by_cases hj : j = b
      · rw [hj, upB_same]; exact O.SL
      · rw [upB_ne _ _ hj]; exact sf (W.one j).pl (W.SL b j).symm
    · rw [upB_ne _ _ hi]
      obtain ⟨xsi, eSi⟩ := W.sl i
      by_cases hj : j = b
      · rw [hj, upB_same]; exact (lf eSi (W.SL i b)).symm
      · rw [upB_ne _ _ hj]; exact W.SL i j
  · refine k2 _ _ (f _ _ (W.bt _ _ e0 na) na (fun z => by rw [z, W.fx b] at e0; cases e0) fun z => by rw [z, W.fS b] at e0; cases e0) fun z => by rw [z, W.fP] at e0; cases e0
  · by_cases h : i = b
    · rw [h, upB_same]
      rcases hS with z | z
      · rw [z]; exact W.fS b
      · exact old _ z aS'.symm
    · rw [upB_ne _ _ h]; exact W.fS i
theorem Two.told (W : Two C H0 H a M TL PL TO x S L m rs pr tos c) {t : Addr} (D : DeckAt H' a c') (hO : H' TO = some (.lst ((tos ++ [t]).map V.ref))) (ht : ToAt H' t) (f : ∀ b o, H b = some o → b ≠ a → b ≠ TO → H' b = some o) : Two C H0 H' a M TL PL TO x S L m rs pr (tos ++ [t]) c' := by
  obtain ⟨A1, A2, A3, e, _⟩ := W.dk
  have nt : ∀ {q : Addr} {ys : List V}, H q = some (.tup ys) → q ≠ a ∧ q ≠ TO := fun {q ys} eq => ⟨(fun z => by rw [z, e] at eq; cases eq), (fun z => by rw [z, W.hO] at eq; cases eq)⟩
  have t1 : TupS H H' := fun q ys eq => f _ _ eq (nt eq).1 (nt eq).2
  refine { W with dk := D, one := fun i => ?_, hM := f _ _ W.hM W.aM W.MO, hT := f _ _ W.hT W.aT W.TT, hP := f _ _ W.hP W.aP W.PO, hO := hO, to := fun q hq => ?_, bt := fun q o e0 na => f _ _ (W.bt _ _ e0 na) na fun z => by rw [z, W.fO] at e0; cases e0 }
  · obtain ⟨dx, ex⟩ := W.ob i
    refine (W.one i).keep (A := fun q => q = a ∨ q = TO) (fun q o eq nq => f _ _ eq (fun z => nq (.inl z)) fun z => nq (.inr z)) (fun z => ?_) (fun z => z.elim (W.aS i) (W.SO i)) (fun z => z.elim (W.aL i) (W.LO i)) fun q ys eq z => z.elim (nt eq).1 (nt eq).2
    rcases z with z | z
    · rw [z, e] at ex; cases ex
    · rw [z, W.hO] at ex; cases ex
  · rcases List.mem_append.mp hq with hq | hq
    · exact (W.to q hq).tup t1
    · cases List.mem_singleton.mp hq; exact ht
end
theorem made_same {C : Addr} {H2 H3 : Hp} {x dx : Addr} (hx : H2 x = none) (hdx : H2 dx = none) (f3 : ∀ b o, (upd (upd H2 dx (.own x)) x (.ins C dx [])) b = some o → b ≠ x → H3 b = some o) : Same H2 H3 := fun b o e =>
  f3 b o (by rw [upd_ne (ne_of_none e hx), upd_ne (ne_of_none e hdx)]; exact e) (ne_of_none e hx)
theorem made_none {C : Addr} {H2 : Hp} {x dx S : Addr} (hx : H2 x = none) (hdx : H2 dx = none) (h : (upd (upd H2 dx (.own x)) x (.ins C dx [])) S = none) : H2 S = none := by
  cases e : H2 S with
  | none => rfl
  | some o => rw [upd_ne (ne_of_none e hx), upd_ne (ne_of_none e hdx), e] at h; cases h
end K20
set_option maxHeartbeats 3000000
namespace K20
open PySem L2 Wk
def spLaw (K : PySem.W.Frag) : Sp := fun vs H Q _ => ∃ (s : Addr) (ns : List Int), vs = [.ref s] ∧ SqL K H s (ns.map V.int) ∧ ns.length ≤ 63 ∧ ∀ H', Q (.bl true) H'
section
variable {P : Program} {w : World} {K : PySem.W.Frag} {mg : Str → Option Value} {base : Heap} {C I N J B : Addr}
theorem scRight : FnScope ["_law_deck", "_law_many", "_law_takes", "_law_pairs", "_law_told", "_law_turn", "_law_at", "_law_k", "_law_anew", "_law_one", "_law_other"] ["_law_deck"] (defScope sRight) := ⟨rfl, rfl, rfl, by decide +kernel, rfl, by decide +kernel, by decide +kernel⟩
theorem ok_Right {f : Addr} {fd : FuncData} (F : Fun K "_law_right" "_law_right" sRight f fd) (T : Txt K mg C I N J B)
    {gDraw : Addr} {fDraw : FuncData} (kDraw : PySem.W.keepIn K (.ref gDraw) = true) (bDraw : Binds K fDraw ["_law_deck", "_law_most"] []) (hDraw : mg "_law_draw" = some (.ref gDraw)) (GDraw : FnOk P w K mg base CX0 5 gDraw fDraw ["_law_deck", "_law_most"] spDraw)
    {fInit : FuncData} (bInit : Binds K fInit ["self", "many"] []) (GInit : FnOk P w K mg base CX0 1 I fInit ["self", "many"] (spInit C))
    {gRare : Addr} {fRare : FuncData} (kRare : PySem.W.keepIn K (.ref gRare) = true) (bRare : Binds K fRare ["_law_deck", "_law_often", "_law_great"] []) (hRare : mg "_law_rare" = some (.ref gRare)) (GRare : FnOk P w K mg base CX0 5 gRare fRare ["_law_deck", "_law_often", "_law_great"] spRare)
    {gStepped : Addr} {fStepped : FuncData} (kStepped : PySem.W.keepIn K (.ref gStepped) = true) (bStepped : Binds K fStepped ["_law_deck", "_law_takes", "_law_pairs", "_law_many"] []) (hStepped : mg "_law_stepped" = some (.ref gStepped)) (GStepped : FnOk P w K mg base CX0 5 gStepped fStepped ["_law_deck", "_law_takes", "_law_pairs", "_law_many"] (spStepped C))
    {gAlike : Addr} {fAlike : FuncData} (kAlike : PySem.W.keepIn K (.ref gAlike) = true) (bAlike : Binds K fAlike ["_law_deck", "_law_takes", "_law_many", "_law_pairs", "_law_told"] []) (hAlike : mg "_law_alike" = some (.ref gAlike)) (GAlike : FnOk P w K mg base CX0 5 gAlike fAlike ["_law_deck", "_law_takes", "_law_many", "_law_pairs", "_law_told"] (spAlike C))
    {gJoin : Addr} {fJoin : FuncData} (bJoin : Binds K fJoin ["self", "one", "other"] []) (hJoin : Meth K C "join" gJoin) (GJoin : FnOk P w K mg base CX0 5 gJoin fJoin ["self", "one", "other"] (spJoin C))
    {gAsked : Addr} {fAsked : FuncData} (kAsked : PySem.W.keepIn K (.ref gAsked) = true) (bAsked : Binds K fAsked ["_law_takes", "_law_many", "_law_turn"] []) (hAsked : mg "_law_asked" = some (.ref gAsked)) (GAsked : FnOk P w K mg base CX0 5 gAsked fAsked ["_law_takes", "_law_many", "_law_turn"] (spAsked C)) :
    FnOk P w K mg base CX0 6 f fd ["_law_deck"] spRight := by
  refine F.ok scRight (fun vs H Q E h => ?_) (fun cdv A outer s H vs Q E hr h => ?_)
  · obtain ⟨_, rfl, _⟩ := h; rfl
  · obtain ⟨a, rfl, hD, k⟩ := h
    refine ⟨_, pss_cons (ps_set (i := 1) scRight.nd rfl (Or.inl rfl) (pe_lst (pa_cons (pe_op op_add pe_int (pe_call GDraw hr rfl hDraw kDraw bDraw .nil pass0 (pa_cons (pv 0) (pa_cons pe_int pa_nil)))) (pa_cons (pe_op op_add pe_int (pe_call GDraw hr rfl hDraw kDraw bDraw .nil pass0 (pa_cons (pv 0) (pa_cons pe_int pa_nil)))) pa_nil))))
      (pss_cons (ps_set (i := 2) scRight.nd rfl (Or.inl rfl) (pe_lst (pa_cons (pe_make T.mkC GInit (hr.mono (by decide)) rfl T.mgC bInit .nil pass0 (pa_cons (pe_ix ix_list (pv 1) pe_int (fun _ _ => rfl)) pa_nil)) (pa_cons (pe_make T.mkC GInit (hr.mono (by decide)) rfl T.mgC bInit .nil pass0 (pa_cons (pe_ix ix_list (pv 1) pe_int (fun _ _ => rfl)) pa_nil)) pa_nil))))
      (pss_cons (ps_set (i := 3) scRight.nd rfl (Or.inl rfl) (pe_lst (pa_cons (pe_lst pa_nil) (pa_cons (pe_lst pa_nil) pa_nil))))
      (pss_cons (ps_set (i := 4) scRight.nd rfl (Or.inl rfl) (pe_lst pa_nil))
      (pss_cons (ps_for PassesOwn.never rfl (pi_range1 rfl T.range (pa_cons (pe_call GRare hr rfl hRare kRare bRare .nil pass0 (pa_cons (pv 0) (pa_cons (pe_call GDraw hr rfl hDraw kDraw bDraw .nil pass0 (pa_cons (pv 0) (pa_cons pe_int pa_nil))) (pa_cons pe_int pa_nil)))) pa_nil)) (pg_name (i := 5) scRight.nd rfl (Or.inl rfl)) (pss_cons (ps_set (i := 6) scRight.nd rfl (Or.inl rfl) (pe_call GDraw hr rfl hDraw kDraw bDraw .nil pass0 (pa_cons (pv 0) (pa_cons pe_int pa_nil))))
      (pss_cons (ps_asg (pe_call GStepped hr rfl hStepped kStepped bStepped .nil pass0 (pa_cons (pv 0) (pa_cons (pe_ix ix_list (pv 2) (pv 6) (fun _ _ => rfl)) (pa_cons (pe_ix ix_list (pv 3) (pv 6) (fun _ _ => rfl)) (pa_cons (pe_ix ix_list (pv 1) (pv 6) (fun _ _ => rfl)) pa_nil))))) (pg_sub (pv 3) (pv 6) set_list))
      (pss_cons (ps_if (pt_cmpR op_isN (pe_ix ix_list (pv 3) (pv 6) (fun _ _ => rfl)) pe_non (nomark _)) (pss_one (ps_ret pe_bl)) pss_nil)
      (pss_one (ps_for PassesOwn.never rfl (pi_tup (pe_tup (pa_cons (pv 6) (pa_cons (pe_op op_sub pe_int (pv 6)) pa_nil)))) (pg_name (i := 7) scRight.nd rfl (Or.inl rfl)) (pss_one (ps_if (pt_not (pt_val (pe_call GAlike hr rfl hAlike kAlike bAlike .nil pass0 (pa_cons (pv 0) (pa_cons (pe_ix ix_list (pv 2) (pv 7) (fun _ _ => rfl)) (pa_cons (pe_ix ix_list (pv 1) (pv 7) (fun _ _ => rfl)) (pa_cons (pe_ix ix_list (pv 3) (pv 7) (fun _ _ => rfl)) (pa_cons (pv 4) pa_nil)))))))) (pss_one (ps_ret pe_bl)) pss_nil))))))))
      (pss_cons (ps_for PassesOwn.never rfl (pi_range1 rfl T.range (pa_cons pe_int pa_nil)) (pg_name (i := 7) scRight.nd rfl (Or.inl rfl)) (pss_cons (ps_set (i := 8) scRight.nd rfl (Or.inl rfl) (pe_make T.mkC GInit (hr.mono (by decide)) rfl T.mgC bInit .nil pass0 (pa_cons (pe_ix ix_list (pv 1) (pv 7) (fun _ _ => rfl)) pa_nil)))
      (pss_cons (ps_for PassesOwn.never rfl (pi_list (pe_ix ix_list (pv 3) (pv 7) (fun _ _ => rfl))) (pg_tup rfl (pgs_cons (pg_name (i := 9) scRight.nd rfl (Or.inl rfl)) (pgs_cons (pg_name (i := 10) scRight.nd rfl (Or.inl rfl)) pgs_nil))) (pss_one (ps_expr (pe_meth (pv 8) T.cl hJoin GJoin hr bJoin .nil pass0 (pa_cons (pv 9) (pa_cons (pv 10) pa_nil))))))
      (pss_one (ps_if (pt_cmpR (op_nes hr.units) (pe_call GAsked hr rfl hAsked kAsked bAsked .nil pass0 (pa_cons (pv 8) (pa_cons (pe_ix ix_list (pv 1) (pv 7) (fun _ _ => rfl)) (pa_cons pe_int pa_nil)))) (pe_call GAsked hr rfl hAsked kAsked bAsked .nil pass0 (pa_cons (pe_ix ix_list (pv 2) (pv 7) (fun _ _ => rfl)) (pa_cons (pe_ix ix_list (pv 1) (pv 7) (fun _ _ => rfl)) (pa_cons pe_int pa_nil)))) (nomark _)) (pss_one (ps_ret pe_bl)) pss_nil)))))
      (pss_one (ps_ret (pe_cmpR (op_eqs hr.units) (pe_comp (T := ["_law_found", "_law_due"]) (F := []) (js := []) (CS.to (osc := defScope sRight) ⟨by rfl, by decide +kernel, by decide +kernel, by decide +kernel, by decide +kernel, by decide +kernel, by decide +kernel⟩ rfl rfl) rfl (pi_list (pv 4)) (fun _ _ _ _ _ => pg_tupK K 2 rfl rfl (pgs_cons (pg_name (i := 0) (show (["_law_found", "_law_due"] : List Str).Nodup by decide +kernel) rfl (Or.inl rfl)) (pgs_cons (pg_name (i := 1) (show (["_law_found", "_law_due"] : List Str).Nodup by decide +kernel) rfl (Or.inl rfl)) pgs_nil))) (fun _ _ _ _ _ => pif_one (pt_cmpR (r := rNes K) (op_nes hr.units) (pv 0) (pv 1) (nomark _))) (fun _ _ _ _ _ => pe_int)) (pe_lst pa_nil) (nomark _))))))))), ?_⟩
    refine ⟨_, rfl, a, 0, 8, rfl, hD, by omega, by decide, by decide, fun v0 H1 v00 v01 b1 D1 => ⟨_, _, rfl, rfl, _, rfl, a, 1, 8, rfl, D1, by omega, by decide, by decide, fun v1 H2 v10 v11 b2 D2 => ⟨_, _, rfl, rfl, small (by simp), fun M hM => ?_⟩⟩⟩
    have sM := same_new (o := .lst [.int (2 + v0), .int (2 + v1)]) hM
    have M3 := upd_same (H := H2) (a := M) (o := .lst [.int (2 + v0), .int (2 + v1)])
    have aM : M ≠ a := D2.ne hM
    have D3 := D2.same sM
    have bt3 : But a H (upd H2 M (.lst [.int (2 + v0), .int (2 + v1)])) := fun b o e na => sM _ _ (b2 _ _ (b1 _ _ e na) na)
    generalize upd H2 M (.lst [.int (2 + v0), .int (2 + v1)]) = H3 at sM M3 D3 bt3
    refine ⟨_, rfl, M, _, 0, _, rfl, rfl, SqL.of M3, at0, fun x0 dx0 hx0 hdx0 hxd0 => ⟨x0, dx0, 2 + v0, rfl, upd_same, by omega, by omega, fun S0 H4 hS0 T4 f4 => ⟨rfl, ?_⟩⟩⟩
    have s4 := made_same hx0 hdx0 f4
    have S03 := made_none hx0 hdx0 hS0
    have M4 := s4 _ _ M3
    refine ⟨_, rfl, M, _, 1, _, rfl, rfl, SqL.of M4, at1, fun x1 dx1 hx1 hdx1 hxd1 => ⟨x1, dx1, 2 + v1, rfl, upd_same, by omega, by omega, fun S1 H5 hS1 T5 f5 => ⟨rfl, small (by simp), fun TL hTL => ?_⟩⟩⟩
    have s5 := made_same hx1 hdx1 f5
    have S14 := made_none hx1 hdx1 hS1
    have s6 := same_new (o := .lst [.ref x0, .ref x1]) hTL
    have TL6 := upd_same (H := H5) (a := TL) (o := .lst [.ref x0, .ref x1])
    generalize upd H5 TL (.lst [.ref x0, .ref x1]) = H6 at s6 TL6
    refine ⟨small (by simp), fun L0 hL0 => ⟨small (by simp), fun L1 hL1 => ⟨small (by simp), fun PL hPL => ?_⟩⟩⟩
    have s7 := same_new (o := .lst []) hL0
    have L07 := upd_same (H := H6) (a := L0) (o := .lst [])
    generalize upd H6 L0 (.lst []) = H7 at s7 L07 hL1 hPL
    have s8 := same_new (o := .lst []) hL1
    have L18 := upd_same (H := H7) (a := L1) (o := .lst [])
    generalize upd H7 L1 (.lst []) = H8 at s8 L18 hPL
    have s9 := same_new (o := .lst [.ref L0, .ref L1]) hPL
    have PL9 := upd_same (H := H8) (a := PL) (o := .lst [.ref L0, .ref L1])
    generalize upd H8 PL (.lst [.ref L0, .ref L1]) = H9 at s9 PL9
    refine ⟨small (by simp), fun TO hTO => ?_⟩
    have s10 := same_new (o := .lst []) hTO
    have TO10 := upd_same (H := H9) (a := TO) (o := .lst [])
    generalize upd H9 TO (.lst []) = H10 at s10 TO10
    have s89 := s8.trans s9
    have s79 := s7.trans s89
    have s69 := s6.trans s79
    have s410 : Same H4 H10 := (s5.trans s69).trans s10
    have s510 : Same H5 H10 := s69.trans s10
    have s310 : Same H3 H10 := s4.trans s410
    obtain ⟨⟨dxA, eA⟩, ⟨ssA, eSA, _⟩, _⟩ := id T4
    obtain ⟨⟨dxB, eB⟩, ⟨ssB, eSB, _⟩, _⟩ := id T5
    have fr : ∀ {b : Addr}, H3 b = none → b ≠ a → H b = none := fun {b} hb na => by
      cases e : H b with
      | none => rfl
      | some o => rw [bt3 _ _ e na] at hb; cases hb
    obtain ⟨A1, A2, A3, ea, _⟩ := id D3
    have ea4 := s4 _ _ ea
    have ea5 := s5 _ _ ea4
    have ea6 := s6 _ _ ea5
    have ea7 := s7 _ _ ea6
    have ea8 := s8 _ _ ea7
    have ea9 := s9 _ _ ea8
    have eSA5 := s5 _ _ eSA
    have eSA6 := s6 _ _ eSA5
    have eSA7 := s7 _ _ eSA6
    have eSA8 := s8 _ _ eSA7
    have eSA9 := s9 _ _ eSA8
    have eSB6 := s6 _ _ eSB
    have eSB7 := s7 _ _ eSB6
    have eSB8 := s8 _ _ eSB7
    have eSB9 := s9 _ _ eSB8
    have s38 : Same H3 H8 := (((s4.trans s5).trans s6).trans s7).trans s8
    have W0 : Two C H H10 a M TL PL TO (fun i => if i then x1 else x0) (fun i => if i then S1 else S0) (fun i => if i then L1 else L0) (fun i => if i then 2 + v1 else 2 + v0) (fun _ => []) (fun _ => []) [] 2 := by
      refine ⟨D3.same s310, fun i => ?_, s310 _ _ M3, s10 _ _ (s79 _ _ TL6), s10 _ _ PL9, TO10, fun t h => by simp at h, aM, (ne_of_none ea5 hTL).symm, (ne_of_none ea8 hPL).symm, (ne_of_none ea9 hTO).symm, ne_of_none (s38 _ _ M3) hPL, ne_of_none (s9 _ _ (s38 _ _ M3)) hTO, ne_of_none (s8 _ _ (s7 _ _ TL6)) hPL, ne_of_none (s79 _ _ TL6) hTO, ne_of_none PL9 hTO, fun i => ?_, fun i => ?_, fun i => ?_, fun i => ?_, fun i => ?_, fun i => ?_, fun i => ?_, fun i => ?_, fun i j h => ?_, fun i j h => ?_, fun i j => ?_, fun b o e na => s310 _ _ (bt3 _ _ e na), fun i => ?_, fun i => ?_, fr (none_of s38 hPL) (ne_of_none ea8 hPL).symm, fr (none_of (s38.trans s9) hTO) (ne_of_none ea9 hTO).symm⟩
      · cases i
        · exact ⟨by rw [hist_nil]; exact T4.same s410, s10 _ _ (s89 _ _ L07), trivial, fun p hp => by simp at hp, by simp, by show (2 : Int) ≤ 2 + v0; omega, by show 2 + v0 ≤ (24 : Int); omega, ne_of_none eSA6 hL0⟩
        · exact ⟨by rw [hist_nil]; exact T5.same s510, s10 _ _ (s9 _ _ L18), trivial, fun p hp => by simp at hp, by simp, by show (2 : Int) ≤ 2 + v1; omega, by show 2 + v1 ≤ (24 : Int); omega, ne_of_none eSB7 hL1⟩
      · cases i
        · exact (ne_of_none ea S03).symm
        · exact (ne_of_none ea4 S14).symm
      · cases i
        · exact (ne_of_none ea6 hL0).symm
        · exact (ne_of_none ea7 hL1).symm
      · cases i
        · exact (ne_of_none M3 S03).symm
        · exact (ne_of_none M4 S14).symm
      · cases i
        · exact ne_of_none eSA5 hTL
        · exact ne_of_none eSB hTL
      · cases i
        · exact ne_of_none eSA8 hPL
        · exact ne_of_none eSB8 hPL
      · cases i
        · exact ne_of_none eSA9 hTO
        · exact ne_of_none eSB9 hTO
      · cases i
        · exact ne_of_none (s8 _ _ L07) hPL
        · exact ne_of_none L18 hPL
      · cases i
        · exact ne_of_none (s89 _ _ L07) hTO
        · exact ne_of_none (s9 _ _ L18) hTO
      · cases i <;> cases j
        · exact absurd rfl h
        · exact ne_of_none eSA S14
        · exact (ne_of_none eSA S14).symm
        · exact absurd rfl h
      · cases i <;> cases j
        · exact absurd rfl h
        · exact ne_of_none eA hx1
        · exact (ne_of_none eA hx1).symm
        · exact absurd rfl h
      · cases i <;> cases j
        · exact ne_of_none eSA6 hL0
        · exact ne_of_none eSA7 hL1
        · exact ne_of_none eSB6 hL0
        · exact ne_of_none eSB7 hL1
      · cases i
        · exact fr hx0 (ne_of_none ea hx0).symm
        · exact fr (none_of s4 hx1) (ne_of_none ea4 hx1).symm
      · cases i
        · exact fr S03 (ne_of_none ea S03).symm
        · exact fr (none_of s4 S14) (ne_of_none ea4 S14).symm
    revert W0
    generalize (fun i : Bool => if i then x1 else x0) = x
    generalize (fun i : Bool => if i then S1 else S0) = S
    generalize (fun i : Bool => if i then L1 else L0) = L
    generalize (fun i : Bool => if i then 2 + v1 else 2 + v0) = m
    intro W0
    refine ⟨_, rfl, _, rfl, a, 2, 15, rfl, W0.dk, by omega, by decide, by decide, fun w0 H11 w00 w01 b11 D11 => ⟨a, 3, w0, 30, rfl, D11, by omega, fun w1 H12 hw b12 D12 => ⟨w1, rfl, by omega, by omega, for_range (lo := 0) (n := w1.toNat) (fun i σ H13 => ∃ (u5 u6 u7 : Option V) (S L : Bool → Addr) (rs : Bool → List Addr) (pr : Bool → List (Nat × Nat)) (tos : List Addr), σ = [some (.ref a), some (.ref M), some (.ref TL), some (.ref PL), some (.ref TO), u5, u6, u7, none, none, none] ∧ Two C H H13 a M TL PL TO x S L m rs pr tos (4 + 7 * i) ∧ (∀ j, (pr j).length ≤ i) ∧ tos.length ≤ 2 * i) ⟨none, none, none, S, L, _, _, [], rfl, (W0.draw b11 D11).draw b12 D12, fun j => by simp, by simp⟩ ?_ ?_⟩⟩⟩
    · rintro i σ H13 hi ⟨u5, u6, u7, S, L, rs, pr, tos, rfl, W1, hpr, htos⟩
      refine ⟨_, rfl, a, _, 2, rfl, W1.dk, by omega, by decide, by decide, fun at0' H14 a00 a01 b14 D14 => ?_⟩
      obtain ⟨b, rfl⟩ := bi_of a00 a01
      have W2 := W1.draw b14 D14
      have hprb := hpr b
      refine ⟨_, rfl, _, rfl, _, rfl, TL, _, _, _, rfl, rfl, SqL.of W2.hT, bi_at (fun j => V.ref (x j)) b, _, rfl, _, rfl, PL, _, _, _, rfl, rfl, SqL.of W2.hP, bi_at (fun j => V.ref (L j)) b, _, rfl, _, rfl, M, _, _, _, rfl, rfl, SqL.of W2.hM, bi_at (fun j => V.int (m j)) b, ?_⟩
      refine ⟨a, _, x b, S b, L b, m b, rs b, pr b, rfl, W2.dk, by omega, W2.one b, (W2.aS b).symm, (W2.aL b).symm, by omega, fun S' L' rs' pr' H15 D15 O15 hl15 f15 hS' hL' aS' aL' => ?_⟩
      obtain ⟨dxb, exb⟩ := W2.ob b
      have P15 := f15 _ _ W2.hP W2.aP (fun z => by rw [← z, W2.hP] at exb; cases exb) (W2.SP b).symm
      refine ⟨_, rfl, _, rfl, PL, _, bi b, bn b, rfl, rfl, P15, bi_ix b, ?_⟩
      have W3 := W2.step b D15 O15 f15 hS' hL' aS' aL'
      have eset : [V.ref (L false), V.ref (L true)].set (bn b) (.ref L') = [.ref (upB L b L' false), .ref (upB L b L' true)] := by cases b <;> rfl
      rw [eset]
      have hpr' : ∀ j, (upB pr b pr' j).length ≤ i + 1 := fun j => by
        by_cases h : j = b
        · rw [h, upB_same]; omega
        · rw [upB_ne _ _ h]; have := hpr j; omega
      revert W3 hpr'
      generalize upd H15 PL (.lst [.ref (upB L b L' false), .ref (upB L b L' true)]) = H16
      generalize upB S b S' = S2
      generalize upB L b L' = L2
      generalize upB rs b rs' = rs2
      generalize upB pr b pr' = pr2
      intro W3 hpr'
      refine ⟨_, rfl, _, rfl, PL, _, _, _, rfl, rfl, SqL.of W3.hP, bi_at (fun j => V.ref (L2 j)) b, rfl, _, rfl, ite2 (fun g => absurd (of_decide_eq_true g) (by intro z; cases z)) fun g => ?_⟩
      dsimp only [tNext]
      refine ⟨_, rfl, _, rfl, _, _, rfl, rfl, small (by simp), fun tp htp => ?_⟩
      have s17 := same_new (o := .tup [.int (bi b), .int (1 - bi b)]) htp
      have tp17 := upd_same (H := H16) (a := tp) (o := .tup [.int (bi b), .int (1 - bi b)])
      generalize upd H16 tp (.tup [.int (bi b), .int (1 - bi b)]) = H17 at s17 tp17
      refine ⟨tp, rfl, ⟨_, SqT.of tp17⟩, for_tup (K := K) (xs := [.int (bi b), .int (1 - bi b)]) (fun j σ H18 => ∃ (u7 : Option V) (tos2 : List Addr), σ = [some (.ref a), some (.ref M), some (.ref TL), some (.ref PL), some (.ref TO), some (.int (0 + (i : Int))), some (.int (bi b)), u7, none, none, none] ∧ Two C H H18 a M TL PL TO x S2 L2 m rs2 pr2 tos2 (4 + 7 * i + 1 + 4 + j) ∧ tos2.length ≤ 2 * i + j ∧ H18 tp = some (.tup [.int (bi b), .int (1 - bi b)])) ⟨u7, tos, rfl, W3.same s17, by omega, tp17⟩ (fun j σ H18 _ ⟨_, _, _, _, _, h⟩ => SqT.of h) ?_ ?_⟩
      · rintro j v σ H18 hv ⟨u7', tos2, rfl, W4, ht4, tp4⟩
        obtain ⟨b2, rfl, hj2⟩ : ∃ b2, v = .int (bi b2) ∧ j < 2 := by
          match j, hv with
          | 0, hv => cases hv; exact ⟨b, rfl, by decide⟩
          | 1, hv => cases hv; exact ⟨!b, by cases b <;> rfl, by decide⟩
          | j + 2, hv => simp at hv
        refine ⟨_, rfl, _, rfl, _, rfl, TL, _, _, _, rfl, rfl, SqL.of W4.hT, bi_at (fun j => V.ref (x j)) b2, _, rfl, _, rfl, M, _, _, _, rfl, rfl, SqL.of W4.hM, bi_at (fun j => V.int (m j)) b2, _, rfl, _, rfl, PL, _, _, _, rfl, rfl, SqL.of W4.hP, bi_at (fun j => V.ref (L2 j)) b2, _, rfl, ?_⟩
        refine ⟨a, _, x b2, S2 b2, L2 b2, m b2, rs2 b2, pr2 b2, TO, tos2, rfl, W4.dk, by omega, W4.one b2, W4.hO, by omega, (W4.aS b2).symm, (W4.aL b2).symm, W4.aO.symm, (W4.SO b2).symm, (W4.LO b2).symm, fun t H19 D19 O19 to19 f19 => ⟨true, rfl, iteF ?_⟩⟩
        obtain ⟨e1, e2, e3, ed, _⟩ := W4.dk
        exact ⟨_, tos2 ++ [t], rfl, W4.told D19 O19 to19 f19, by simp; omega, f19 _ _ tp4 (fun z => by rw [z, ed] at tp4; cases tp4) fun z => by rw [z, W4.hO] at tp4; cases tp4⟩
      · rintro σ H18 ⟨u7', tos2, rfl, W4, ht4, tp4⟩
        have ht4 : tos2.length ≤ 2 * i + 2 := ht4
        have W4 : Two C H H18 a M TL PL TO x S2 L2 m rs2 pr2 tos2 (4 + 7 * i + 1 + 4 + 2) := W4
        exact ⟨_, _, _, S2, L2, rs2, pr2, tos2, rfl, W4.mono (by omega), hpr', by omega⟩
    rintro σ H13 ⟨u5, u6, u7, S, L, rs, pr, tos, rfl, W1, hpr, htos⟩
    have W1 : Two C H H13 a M TL PL TO x S L m rs pr tos 1000 := W1.mono (by omega)
    have htos : tos.length ≤ 60 := by omega
    refine ⟨2, rfl, by decide, by decide, for_range (lo := 0) (n := 2) (fun i σ H14 => ∃ (u7 u8 u9 u10 : Option V), σ = [some (.ref a), some (.ref M), some (.ref TL), some (.ref PL), some (.ref TO), u5, u6, u7, u8, u9, u10] ∧ Two C H H14 a M TL PL TO x S L m rs pr tos 1000) ⟨_, _, _, _, rfl, W1⟩ ?_ ?_⟩
    · rintro i σ H14 hi ⟨u7', u8', u9', u10', rfl, W2⟩
      obtain ⟨b, hb⟩ := bi_of (v := 0 + (i : Int)) (by omega) (by omega)
      dsimp only [gName]
      rw [hb]
      have m1 := (W2.one b).m1
      have m2 := (W2.one b).m2
      refine ⟨_, rfl, _, rfl, M, _, _, _, rfl, rfl, SqL.of W2.hM, bi_at (fun j => V.int (m j)) b, fun y dy hy hdy hyd => ⟨y, dy, m b, rfl, upd_same, by omega, by omega, fun Z H15 hZ T15 f15 => ⟨rfl, ?_⟩⟩⟩
      have s15 := made_same hy hdy f15
      have Z14 := made_none hy hdy hZ
      have zn := W2.nw Z14
      have W3 := W2.same s15
      have O3 := W3.one b
      have rl := O3.pa.len
      refine ⟨_, rfl, _, rfl, PL, _, _, _, rfl, rfl, SqL.of W3.hP, bi_at (fun j => V.ref (L j)) b, L b, rfl, ⟨_, SqL.of O3.pl⟩, for_list (K := K) (xs := (rs b).map V.ref) (fun i σ H16 => ∃ (u9 u10 : Option V), σ = [some (.ref a), some (.ref M), some (.ref TL), some (.ref PL), some (.ref TO), u5, u6, some (.int (bi b)), some (.ref y), u9, u10] ∧ Two C H H16 a M TL PL TO x S L m rs pr tos 1000 ∧ TkAt C H16 y Z (hist (start3 (m b)) ((pr b).take i))) ⟨_, _, rfl, W3, by rw [List.take_zero, hist_nil]; exact T15⟩ (fun i σ H16 _ ⟨_, _, _, h, _⟩ => SqL.of (h.one b).pl) ?_ ?_⟩
      · rintro j v σ H16 hv ⟨u9, u10, rfl, W4, T4'⟩
        rw [List.getElem?_map] at hv
        cases er : (rs b)[j]? with
        | none => rw [er] at hv; cases hv
        | some r =>
          rw [er] at hv
          cases hv
          obtain ⟨p, ep, hp⟩ := (W4.one b).pa.get er
          have lp := (W4.one b).lt p (List.mem_of_getElem? ep)
          have jl : j < (pr b).length := (List.getElem?_eq_some_iff.mp ep).1
          have ln := (W4.one b).ln
          refine ⟨r, _, rfl, SqT.of hp, rfl, _, _, rfl, _, _, rfl, rfl, ?_⟩
          obtain ⟨⟨dy4, e4⟩, ⟨ssZ, eZ, _⟩, _⟩ := id T4'
          rw [hist_last] at T4'
          refine ⟨_, rfl, y, dy4, _, rfl, e4, flds_no Z (by decide +kernel), _, rfl, _, rfl, y, Z, _, _, (m b).toNat, p.1, p.2, rfl, T4', by rw [histP_len]; simp; omega, ok_fin m1 m2 _, lp.1, lp.2, fun H17 k17 T17 => ?_⟩
          have eh : histP (start3 (m b)) ((pr b).take j) ++ [fin (start3 (m b)) ((pr b).take j)] ++ [(joinS (fin (start3 (m b)) ((pr b).take j)) p.1 p.2).1] = hist (start3 (m b)) ((pr b).take (j + 1)) := by
            rw [← hist_last, take_snoc ep, hist_last (start3 (m b)) ((pr b).take j ++ [p]), histP_snoc, fin_snoc]
          rw [eh] at T17
          exact ⟨_, _, rfl, W4.far eZ k17 zn, T17⟩
      rintro σ H16 ⟨u9, u10, rfl, W4, T4'⟩
      rw [List.length_map, rl, List.take_length, hist_last] at T4'
      obtain ⟨nn, hnn⟩ : ∃ nn : Nat, m b = (nn : Int) := ⟨(m b).toNat, by omega⟩
      have okf := ok_fin m1 m2 (pr b)
      have okn : Ok nn (fin (start3 (m b)) (pr b)) := by
        have : (m b).toNat = nn := by omega
        rw [this] at okf; exact okf
      refine ⟨_, rfl, _, rfl, _, rfl, M, _, _, _, rfl, rfl, SqL.of W4.hM, bi_at (fun j => V.int (m j)) b, y, Z, _, _, nn, 0, by rw [hnn]; rfl, .inl rfl, T4', okn, fun r1 H17 s17 A17 => ?_⟩
      have W5 := W4.same s17
      have T5' := (W5.one b).tk
      rw [hist_last] at T5'
      refine ⟨_, rfl, _, rfl, TL, _, _, _, rfl, rfl, SqL.of W5.hT, bi_at (fun j => V.ref (x j)) b, _, rfl, _, rfl, M, _, _, _, rfl, rfl, SqL.of W5.hM, bi_at (fun j => V.int (m j)) b, x b, S b, _, _, nn, 0, by rw [hnn]; rfl, .inl rfl, T5', okn, fun r2 H18 s18 A18 => ?_⟩
      exact ⟨2, true, r1, r2, rfl, rfl, by decide, (A17.same s18).eqs A18, _, rfl, iteF ⟨_, _, _, _, rfl, W5.same s18⟩⟩
    rintro σ H14 ⟨u7', u8', u9', u10', rfl, W2⟩
    refine ⟨_, rfl, TO, rfl, ⟨_, SqL.of W2.hO⟩, fun Dl hDl => comp_list (K := K) (a := TO) (xs := tos.map V.ref) (fun j σ ys H15 => ∃ u1 u2 : Option V, σ = [u1, u2] ∧ Same H14 H15 ∧ H15 Dl = some (.lst ys) ∧ ys = []) ⟨none, none, rfl, same_new hDl, upd_same, rfl⟩ (fun j σ ys H15 _ ⟨_, _, _, s, e, _⟩ => ⟨SqL.of (s _ _ W2.hO), e⟩) ?_ ?_⟩
    · rintro j v σ ys H15 hv ⟨u1, u2, rfl, s15, e15, rfl⟩
      rw [List.getElem?_map] at hv
      cases er : tos[j]? with
      | none => rw [er] at hv; cases hv
      | some t0 =>
        rw [er] at hv
        cases hv
        obtain ⟨f0, d0, st0, h1, h2, h3⟩ := (W2.to t0 (List.mem_of_getElem? er)).tup (tupS_same s15)
        refine ⟨t0, _, rfl, SqT.of h1, rfl, _, _, rfl, _, _, rfl, rfl, ?_⟩
        exact ⟨_, rfl, _, rfl, 1, true, f0, d0, rfl, rfl, by decide, h2.eqs h3, _, rfl, iteF ⟨_, _, rfl, s15, e15, rfl⟩⟩
    rintro σ ys H15 ⟨u1, u2, rfl, s15, e15, rfl⟩
    refine ⟨small (by simp), fun e he => ?_⟩
    have s16 := same_new (o := .lst []) he
    have e16 := upd_same (H := H15) (a := e) (o := .lst [])
    generalize upd H15 e (.lst []) = H16 at s16 e16
    exact ⟨1, true, Dl, e, rfl, rfl, by decide, Eqs.alls (.inr ⟨SqL.of (s16 _ _ e15), SqL.of e16⟩) rfl fun j p q hp => by simp at hp, k H16 fun b o e na => s16 _ _ (s15 _ _ (W2.bt _ _ e na))⟩
end
end K20
set_option maxHeartbeats 1000000
namespace K20
open PySem L2 Wk
section
variable {P : Program} {w : World} {K : PySem.W.Frag} {mg : Str → Option Value} {base : Heap} {C I N J B : Addr}
theorem scLaw : FnScope ["_law_script", "_law_k"] ["_law_script"] (defScope sLaw) := ⟨rfl, rfl, rfl, by decide +kernel, rfl, by decide +kernel, by decide +kernel⟩
theorem ok_Law {f : Addr} {fd : FuncData} (F : Fun K "law" "law" sLaw f fd) (T : Txt K mg C I N J B)
    {gRight : Addr} {fRight : FuncData} (kRight : PySem.W.keepIn K (.ref gRight) = true) (bRight : Binds K fRight ["_law_deck"] []) (hRight : mg "_law_right" = some (.ref gRight)) (GRight : FnOk P w K mg base CX0 6 gRight fRight ["_law_deck"] spRight)
    {gOpen : Addr} {fOpen : FuncData} (kOpen : PySem.W.keepIn K (.ref gOpen) = true) (bOpen : Binds K fOpen ["_law_cell"] []) (hOpen : mg "_law_opened" = some (.ref gOpen)) (GOpen : FnOk P w K mg base CX0 6 gOpen fOpen ["_law_cell"] spOpen)
    {gCell : Addr} {fCell : FuncData} (kCell : PySem.W.keepIn K (.ref gCell) = true) (bCell : Binds K fCell ["_law_script", "_law_k"] []) (hCell : mg "_law_cell_at" = some (.ref gCell)) (GCell : FnOk P w K mg base CX0 6 gCell fCell ["_law_script", "_law_k"] (spCell K)) :
    FnOk P w K mg base CX0 7 f fd ["_law_script"] (spLaw K) := by
  refine F.ok scLaw (fun vs H Q E h => ?_) (fun cdv A outer s H vs Q E hr h => ?_)
  · obtain ⟨_, _, rfl, _⟩ := h; rfl
  · obtain ⟨s, ns, rfl, hS, hl, k⟩ := h
    refine ⟨_, pss_cons (ps_for PassesOwn.never rfl (pi_range1 rfl T.range (pa_cons (pe_callB (call_max2 rfl) (by rfl) T.max (by decide +kernel) (pa_cons pe_int (pa_cons (pe_callB (call_min2 rfl) (by rfl) T.min (by decide +kernel) (pa_cons pe_int (pa_cons (pe_callB call_len_seq (by rfl) T.len PySem.boot_len (pa_cons (pv 0) pa_nil)) pa_nil))) pa_nil))) pa_nil)) (pg_name (i := 1) scLaw.nd rfl (Or.inl rfl)) (pss_one (ps_if (pt_not (pt_val (pe_call GRight hr rfl hRight kRight bRight .nil pass0 (pa_cons (pe_call GOpen hr rfl hOpen kOpen bOpen .nil pass0 (pa_cons (pe_call GCell hr rfl hCell kCell bCell .nil pass0 (pa_cons (pv 0) (pa_cons (pv 1) pa_nil))) pa_nil)) pa_nil)))) (pss_one (ps_ret pe_bl)) pss_nil)))
      (pss_one (ps_ret pe_bl)), ?_⟩
    refine ⟨_, rfl, s, _, rfl, .inl hS, _, _, rfl, _, _, rfl, _, rfl, by split <;> split <;> omega, by split <;> split <;> omega, for_range (lo := 0) (fun i σ H5 => ∃ (u1 : Option V), σ = [some (.ref s), u1] ∧ Same H H5) ⟨_, rfl, same_refl _⟩ ?_ ?_⟩
    rotate_left
    · rintro σ H5 ⟨u1, rfl, s5⟩
      exact k H5
    rintro i σ H5 hi ⟨u1, rfl, s5⟩
    refine ⟨_, rfl, _, rfl, s, ns, i, by rw [Int.zero_add]; rfl, sqL_same hS s5, fun c => ⟨c, rfl, fun d H6 s6 dn D6 => ⟨d, rfl, D6, fun H7 b7 => ⟨true, rfl, iteF ⟨_, rfl, fun b o e => b7 b o (s6 b o (s5 b o e)) (ne_of_none (s5 _ _ e) dn)⟩⟩⟩⟩⟩
end
end K20
set_option maxHeartbeats 4000000
namespace K20
open PySem L2 Wk
theorem us1 {fd : FuncData} {ps : List Str} (hp : ps.length = 1) (h : ∀ a0 : Value, bindArgs fd ⟨[a0], []⟩ = pure (ps.zip [a0])) : ∀ us : List Value, us.length = ps.length → bindArgs fd ⟨us, []⟩ = pure (ps.zip us) := fun us hl => match us, hl.trans hp with | [a0], _ => h a0
theorem us2 {fd : FuncData} {ps : List Str} (hp : ps.length = 2) (h : ∀ a0 a1 : Value, bindArgs fd ⟨[a0, a1], []⟩ = pure (ps.zip [a0, a1])) : ∀ us : List Value, us.length = ps.length → bindArgs fd ⟨us, []⟩ = pure (ps.zip us) := fun us hl => match us, hl.trans hp with | [a0, a1], _ => h a0 a1
theorem us3 {fd : FuncData} {ps : List Str} (hp : ps.length = 3) (h : ∀ a0 a1 a2 : Value, bindArgs fd ⟨[a0, a1, a2], []⟩ = pure (ps.zip [a0, a1, a2])) : ∀ us : List Value, us.length = ps.length → bindArgs fd ⟨us, []⟩ = pure (ps.zip us) := fun us hl => match us, hl.trans hp with | [a0, a1, a2], _ => h a0 a1 a2
theorem us4 {fd : FuncData} {ps : List Str} (hp : ps.length = 4) (h : ∀ a0 a1 a2 a3 : Value, bindArgs fd ⟨[a0, a1, a2, a3], []⟩ = pure (ps.zip [a0, a1, a2, a3])) : ∀ us : List Value, us.length = ps.length → bindArgs fd ⟨us, []⟩ = pure (ps.zip us) := fun us hl => match us, hl.trans hp with | [a0, a1, a2, a3], _ => h a0 a1 a2 a3
theorem us5 {fd : FuncData} {ps : List Str} (hp : ps.length = 5) (h : ∀ a0 a1 a2 a3 a4 : Value, bindArgs fd ⟨[a0, a1, a2, a3, a4], []⟩ = pure (ps.zip [a0, a1, a2, a3, a4])) : ∀ us : List Value, us.length = ps.length → bindArgs fd ⟨us, []⟩ = pure (ps.zip us) := fun us hl => match us, hl.trans hp with | [a0, a1, a2, a3, a4], _ => h a0 a1 a2 a3 a4
theorem all_mk {l : PySem.W.OpenLaw} {w : World} {K : PySem.W.Frag} {h : Heap} {mg : Str → Option Value} {fa C N B f0 f1 f2 f3 f4 f5 f6 f7 f8 f9 f10 f11 f12 f13 f14 f15 f16 f17 f18 f19 f20 f21 f22 f23 f24 f25 f26 f27 f28 f29 f30 f31 f32 : Addr} (X : K.In h) (G : h.Ns mainGlobals mg) (hfa : mg "law" = some (.ref fa))
    {od0 an0 od1 an1 od2 an2 od3 an3 od4 an4 od5 an5 od6 an6 od7 an7 od8 an8 od9 an9 od10 an10 od11 an11 od12 an12 od13 an13 od14 an14 od15 an15 od16 an16 od17 an17 od18 an18 od19 an19 od20 an20 od21 an21 od22 an22 od23 an23 od24 an24 od25 an25 od26 an26 od27 an27 od28 an28 od29 an29 od30 an30 od31 an31 od32 an32 : Option Addr} {sl0 sl1 sl2 sl3 sl4 sl5 sl6 sl7 sl8 sl9 sl10 sl11 sl12 sl13 sl14 sl15 sl16 sl17 sl18 sl19 sl20 sl21 sl22 sl23 sl24 sl25 sl26 sl27 sl28 sl29 sl30 sl31 sl32 : Array (Option Value)} {oc0 kV0 dc0 pm0 cd0 ct0 oc1 kV1 dc1 pm1 cd1 ct1 oc2 kV2 dc2 pm2 cd2 ct2 oc3 kV3 dc3 pm3 cd3 ct3 oc4 kV4 dc4 pm4 cd4 ct4 oc5 kV5 dc5 pm5 cd5 ct5 oc6 kV6 dc6 pm6 cd6 ct6 oc7 kV7 dc7 pm7 cd7 ct7 oc8 kV8 dc8 pm8 cd8 ct8 oc9 kV9 dc9 pm9 cd9 ct9 oc10 kV10 dc10 pm10 cd10 ct10 oc11 kV11 dc11 pm11 cd11 ct11 oc12 kV12 dc12 pm12 cd12 ct12 oc13 kV13 dc13 pm13 cd13 ct13 oc14 kV14 dc14 pm14 cd14 ct14 oc15 kV15 dc15 pm15 cd15 ct15 oc16 kV16 dc16 pm16 cd16 ct16 oc17 kV17 dc17 pm17 cd17 ct17 oc18 kV18 dc18 pm18 cd18 ct18 oc19 kV19 dc19 pm19 cd19 ct19 oc20 kV20 dc20 pm20 cd20 ct20 oc21 kV21 dc21 pm21 cd21 ct21 oc22 kV22 dc22 pm22 cd22 ct22 oc23 kV23 dc23 pm23 cd23 ct23 oc24 kV24 dc24 pm24 cd24 ct24 oc25 kV25 dc25 pm25 cd25 ct25 oc26 kV26 dc26 pm26 cd26 ct26 oc27 kV27 dc27 pm27 cd27 ct27 oc28 kV28 dc28 pm28 cd28 ct28 oc29 kV29 dc29 pm29 cd29 ct29 oc30 kV30 dc30 pm30 cd30 ct30 oc31 kV31 dc31 pm31 cd31 ct31 oc32 kV32 dc32 pm32 cd32 ct32 : Value}
    {nmN qN : Str} {nsN : Addr} {bsN subN : List Value} {snN : List Str} {abN : Bool} {colN : Option Bool} {ddN : Option Addr} {kaN kbN kcN kdN keN : Option Value}
    {nmB qB : Str} {nsB : Addr} {bsB subB : List Value} {snB : List Str} {abB : Bool} {colB : Option Bool} {ddB : Option Addr} {kaB kbB kcB kdB keB : Option Value}
    (aC : PySem.W.nsIn K mainGlobals "Takes" = some (some (.ref C)))
    (aN : PySem.W.nsIn K mainGlobals "NoMark" = some (some (.ref N)))
    (aB : PySem.W.nsIn K mainGlobals "TieError" = some (some (.ref B)))
    (lN : K.lookup N = some (excClassObj nmN qN N nsN bsN [.ref B, .type "ValueError", .type "Exception", .type "BaseException", .type "object"] true snN subN abN colN ddN kaN kbN kcN kdN keN "ValueError.__new__"))
    (lB : K.lookup B = some (excClassObj nmB qB B nsB bsB [.type "ValueError", .type "Exception", .type "BaseException", .type "object"] true snB subB abB colB ddB kaB kbB kcB kdB keB "ValueError.__new__"))
    (saN : PySem.W.findIn K (.ref N) "__setattr__" = some (some (.builtin "object.__setattr__")))
    (kN : PySem.W.keepIn K (.ref N) = true)
    (nN : PySem.W.findIn K (.ref N) "thing" = some none)
    (a0 : PySem.W.nsIn K mainGlobals "is_whole" = some (some (.ref f0)))
    (l0 : K.lookup f0 = some ⟨oc0, od0, .func (PySem.W.fnOf "is_whole" "is_whole" (defArgs sWhole) (defBody sWhole) (defScope sWhole) .none kV0 dc0 pm0 an0 cd0 ct0), sl0⟩)
    (c0 : PySem.W.codeIn K cd0 "is_whole" = true)
    (k0 : PySem.W.keepIn K (.ref f0) = true)
    (a1 : PySem.W.nsIn K mainGlobals "is_within" = some (some (.ref f1)))
    (l1 : K.lookup f1 = some ⟨oc1, od1, .func (PySem.W.fnOf "is_within" "is_within" (defArgs sWithin) (defBody sWithin) (defScope sWithin) .none kV1 dc1 pm1 an1 cd1 ct1), sl1⟩)
    (c1 : PySem.W.codeIn K cd1 "is_within" = true)
    (k1 : PySem.W.keepIn K (.ref f1) = true)
    (a2 : PySem.W.nsIn K mainGlobals "stays" = some (some (.ref f2)))
    (l2 : K.lookup f2 = some ⟨oc2, od2, .func (PySem.W.fnOf "stays" "stays" (defArgs sStays) (defBody sStays) (defScope sStays) .none kV2 dc2 pm2 an2 cd2 ct2), sl2⟩)
    (c2 : PySem.W.codeIn K cd2 "stays" = true)
    (k2 : PySem.W.keepIn K (.ref f2) = true)
    (a3 : PySem.W.nsIn K mainGlobals "joined_parts" = some (some (.ref f3)))
    (l3 : K.lookup f3 = some ⟨oc3, od3, .func (PySem.W.fnOf "joined_parts" "joined_parts" (defArgs sJp) (defBody sJp) (defScope sJp) .none kV3 dc3 pm3 an3 cd3 ct3), sl3⟩)
    (c3 : PySem.W.codeIn K cd3 "joined_parts" = true)
    (k3 : PySem.W.keepIn K (.ref f3) = true)
    (a4 : PySem.W.findIn K (.ref N) "__init__" = some (some (.ref f4)))
    (i4 : PySem.W.isFn K (.ref f4) = true)
    (l4 : K.lookup f4 = some ⟨oc4, od4, .func (PySem.W.fnOf "__init__" "NoMark.__init__" (defArgs sNInit) (defBody sNInit) (defScope sNInit) .none kV4 dc4 pm4 an4 cd4 ct4), sl4⟩)
    (c4 : PySem.W.codeIn K cd4 "NoMark.__init__" = true)
    (k4 : PySem.W.keepIn K (.ref f4) = true)
    (a5 : PySem.W.findIn K (.ref C) "__init__" = some (some (.ref f5)))
    (i5 : PySem.W.isFn K (.ref f5) = true)
    (l5 : K.lookup f5 = some ⟨oc5, od5, .func (PySem.W.fnOf "__init__" "Takes.__init__" (defArgs sInit) (defBody sInit) (defScope sInit) .none kV5 dc5 pm5 an5 cd5 ct5), sl5⟩)
    (c5 : PySem.W.codeIn K cd5 "Takes.__init__" = true)
    (k5 : PySem.W.keepIn K (.ref f5) = true)
    (a6 : PySem.W.findIn K (.ref C) "shown" = some (some (.ref f6)))
    (i6 : PySem.W.isFn K (.ref f6) = true)
    (l6 : K.lookup f6 = some ⟨oc6, od6, .func (PySem.W.fnOf "shown" "Takes.shown" (defArgs sShown) (defBody sShown) (defScope sShown) .none kV6 dc6 pm6 an6 cd6 ct6), sl6⟩)
    (c6 : PySem.W.codeIn K cd6 "Takes.shown" = true)
    (k6 : PySem.W.keepIn K (.ref f6) = true)
    (a7 : PySem.W.findIn K (.ref C) "top" = some (some (.ref f7)))
    (i7 : PySem.W.isFn K (.ref f7) = true)
    (l7 : K.lookup f7 = some ⟨oc7, od7, .func (PySem.W.fnOf "top" "Takes.top" (defArgs sTop) (defBody sTop) (defScope sTop) .none kV7 dc7 pm7 an7 cd7 ct7), sl7⟩)
    (c7 : PySem.W.codeIn K cd7 "Takes.top" = true)
    (k7 : PySem.W.keepIn K (.ref f7) = true)
    (a8 : PySem.W.findIn K (.ref C) "side" = some (some (.ref f8)))
    (i8 : PySem.W.isFn K (.ref f8) = true)
    (l8 : K.lookup f8 = some ⟨oc8, od8, .func (PySem.W.fnOf "side" "Takes.side" (defArgs sSide) (defBody sSide) (defScope sSide) .none kV8 dc8 pm8 an8 cd8 ct8), sl8⟩)
    (c8 : PySem.W.codeIn K cd8 "Takes.side" = true)
    (k8 : PySem.W.keepIn K (.ref f8) = true)
    (a9 : PySem.W.findIn K (.ref C) "odd" = some (some (.ref f9)))
    (i9 : PySem.W.isFn K (.ref f9) = true)
    (l9 : K.lookup f9 = some ⟨oc9, od9, .func (PySem.W.fnOf "odd" "Takes.odd" (defArgs sOdd) (defBody sOdd) (defScope sOdd) .none kV9 dc9 pm9 an9 cd9 ct9), sl9⟩)
    (c9 : PySem.W.codeIn K cd9 "Takes.odd" = true)
    (k9 : PySem.W.keepIn K (.ref f9) = true)
    (a10 : PySem.W.findIn K (.ref C) "joins" = some (some (.ref f10)))
    (i10 : PySem.W.isFn K (.ref f10) = true)
    (l10 : K.lookup f10 = some ⟨oc10, od10, .func (PySem.W.fnOf "joins" "Takes.joins" (defArgs sJoins) (defBody sJoins) (defScope sJoins) .none kV10 dc10 pm10 an10 cd10 ct10), sl10⟩)
    (c10 : PySem.W.codeIn K cd10 "Takes.joins" = true)
    (k10 : PySem.W.keepIn K (.ref f10) = true)
    (a11 : PySem.W.findIn K (.ref C) "size" = some (some (.ref f11)))
    (i11 : PySem.W.isFn K (.ref f11) = true)
    (l11 : K.lookup f11 = some ⟨oc11, od11, .func (PySem.W.fnOf "size" "Takes.size" (defArgs sSize) (defBody sSize) (defScope sSize) .none kV11 dc11 pm11 an11 cd11 ct11), sl11⟩)
    (c11 : PySem.W.codeIn K cd11 "Takes.size" = true)
    (k11 : PySem.W.keepIn K (.ref f11) = true)
    (a12 : PySem.W.findIn K (.ref C) "parts" = some (some (.ref f12)))
    (i12 : PySem.W.isFn K (.ref f12) = true)
    (l12 : K.lookup f12 = some ⟨oc12, od12, .func (PySem.W.fnOf "parts" "Takes.parts" (defArgs sParts) (defBody sParts) (defScope sParts) .none kV12 dc12 pm12 an12 cd12 ct12), sl12⟩)
    (c12 : PySem.W.codeIn K cd12 "Takes.parts" = true)
    (k12 : PySem.W.keepIn K (.ref f12) = true)
    (a13 : PySem.W.findIn K (.ref C) "join" = some (some (.ref f13)))
    (i13 : PySem.W.isFn K (.ref f13) = true)
    (l13 : K.lookup f13 = some ⟨oc13, od13, .func (PySem.W.fnOf "join" "Takes.join" (defArgs sJoin) (defBody sJoin) (defScope sJoin) .none kV13 dc13 pm13 an13 cd13 ct13), sl13⟩)
    (c13 : PySem.W.codeIn K cd13 "Takes.join" = true)
    (k13 : PySem.W.keepIn K (.ref f13) = true)
    (a14 : PySem.W.findIn K (.ref C) "back" = some (some (.ref f14)))
    (i14 : PySem.W.isFn K (.ref f14) = true)
    (l14 : K.lookup f14 = some ⟨oc14, od14, .func (PySem.W.fnOf "back" "Takes.back" (defArgs sBack) (defBody sBack) (defScope sBack) .none kV14 dc14 pm14 an14 cd14 ct14), sl14⟩)
    (c14 : PySem.W.codeIn K cd14 "Takes.back" = true)
    (k14 : PySem.W.keepIn K (.ref f14) = true)
    (a15 : PySem.W.nsIn K mainGlobals "_law_cell_at" = some (some (.ref f15)))
    (l15 : K.lookup f15 = some ⟨oc15, od15, .func (PySem.W.fnOf "_law_cell_at" "_law_cell_at" (defArgs sCell) (defBody sCell) (defScope sCell) .none kV15 dc15 pm15 an15 cd15 ct15), sl15⟩)
    (c15 : PySem.W.codeIn K cd15 "_law_cell_at" = true)
    (k15 : PySem.W.keepIn K (.ref f15) = true)
    (a16 : PySem.W.nsIn K mainGlobals "_law_opened" = some (some (.ref f16)))
    (l16 : K.lookup f16 = some ⟨oc16, od16, .func (PySem.W.fnOf "_law_opened" "_law_opened" (defArgs sOpen) (defBody sOpen) (defScope sOpen) .none kV16 dc16 pm16 an16 cd16 ct16), sl16⟩)
    (c16 : PySem.W.codeIn K cd16 "_law_opened" = true)
    (k16 : PySem.W.keepIn K (.ref f16) = true)
    (a17 : PySem.W.nsIn K mainGlobals "_law_draw" = some (some (.ref f17)))
    (l17 : K.lookup f17 = some ⟨oc17, od17, .func (PySem.W.fnOf "_law_draw" "_law_draw" (defArgs sDraw) (defBody sDraw) (defScope sDraw) .none kV17 dc17 pm17 an17 cd17 ct17), sl17⟩)
    (c17 : PySem.W.codeIn K cd17 "_law_draw" = true)
    (k17 : PySem.W.keepIn K (.ref f17) = true)
    (a18 : PySem.W.nsIn K mainGlobals "_law_rare" = some (some (.ref f18)))
    (l18 : K.lookup f18 = some ⟨oc18, od18, .func (PySem.W.fnOf "_law_rare" "_law_rare" (defArgs sRare) (defBody sRare) (defScope sRare) .none kV18 dc18 pm18 an18 cd18 ct18), sl18⟩)
    (c18 : PySem.W.codeIn K cd18 "_law_rare" = true)
    (k18 : PySem.W.keepIn K (.ref f18) = true)
    (a19 : PySem.W.nsIn K mainGlobals "_law_two_of" = some (some (.ref f19)))
    (l19 : K.lookup f19 = some ⟨oc19, od19, .func (PySem.W.fnOf "_law_two_of" "_law_two_of" (defArgs sTwo) (defBody sTwo) (defScope sTwo) .none kV19 dc19 pm19 an19 cd19 ct19), sl19⟩)
    (c19 : PySem.W.codeIn K cd19 "_law_two_of" = true)
    (k19 : PySem.W.keepIn K (.ref f19) = true)
    (a20 : PySem.W.nsIn K mainGlobals "_law_begin" = some (some (.ref f20)))
    (l20 : K.lookup f20 = some ⟨oc20, od20, .func (PySem.W.fnOf "_law_begin" "_law_begin" (defArgs sBegin) (defBody sBegin) (defScope sBegin) .none kV20 dc20 pm20 an20 cd20 ct20), sl20⟩)
    (c20 : PySem.W.codeIn K cd20 "_law_begin" = true)
    (k20 : PySem.W.keepIn K (.ref f20) = true)
    (a21 : PySem.W.nsIn K mainGlobals "_law_do" = some (some (.ref f21)))
    (l21 : K.lookup f21 = some ⟨oc21, od21, .func (PySem.W.fnOf "_law_do" "_law_do" (defArgs sDo) (defBody sDo) (defScope sDo) .none kV21 dc21 pm21 an21 cd21 ct21), sl21⟩)
    (c21 : PySem.W.codeIn K cd21 "_law_do" = true)
    (k21 : PySem.W.keepIn K (.ref f21) = true)
    (a22 : PySem.W.nsIn K mainGlobals "_law_due_of" = some (some (.ref f22)))
    (l22 : K.lookup f22 = some ⟨oc22, od22, .func (PySem.W.fnOf "_law_due_of" "_law_due_of" (defArgs sDue) (defBody sDue) (defScope sDue) .none kV22 dc22 pm22 an22 cd22 ct22), sl22⟩)
    (c22 : PySem.W.codeIn K cd22 "_law_due_of" = true)
    (k22 : PySem.W.keepIn K (.ref f22) = true)
    (a23 : PySem.W.nsIn K mainGlobals "_law_made" = some (some (.ref f23)))
    (l23 : K.lookup f23 = some ⟨oc23, od23, .func (PySem.W.fnOf "_law_made" "_law_made" (defArgs sMade) (defBody sMade) (defScope sMade) .none kV23 dc23 pm23 an23 cd23 ct23), sl23⟩)
    (c23 : PySem.W.codeIn K cd23 "_law_made" = true)
    (k23 : PySem.W.keepIn K (.ref f23) = true)
    (a24 : PySem.W.nsIn K mainGlobals "_law_are_wholes" = some (some (.ref f24)))
    (l24 : K.lookup f24 = some ⟨oc24, od24, .func (PySem.W.fnOf "_law_are_wholes" "_law_are_wholes" (defArgs sWholes) (defBody sWholes) (defScope sWholes) .none kV24 dc24 pm24 an24 cd24 ct24), sl24⟩)
    (c24 : PySem.W.codeIn K cd24 "_law_are_wholes" = true)
    (k24 : PySem.W.keepIn K (.ref f24) = true)
    (a25 : PySem.W.nsIn K mainGlobals "_law_shown_right" = some (some (.ref f25)))
    (l25 : K.lookup f25 = some ⟨oc25, od25, .func (PySem.W.fnOf "_law_shown_right" "_law_shown_right" (defArgs sShownR) (defBody sShownR) (defScope sShownR) .none kV25 dc25 pm25 an25 cd25 ct25), sl25⟩)
    (c25 : PySem.W.codeIn K cd25 "_law_shown_right" = true)
    (k25 : PySem.W.keepIn K (.ref f25) = true)
    (a26 : PySem.W.nsIn K mainGlobals "_law_place_right" = some (some (.ref f26)))
    (l26 : K.lookup f26 = some ⟨oc26, od26, .func (PySem.W.fnOf "_law_place_right" "_law_place_right" (defArgs sPlaceR) (defBody sPlaceR) (defScope sPlaceR) .none kV26 dc26 pm26 an26 cd26 ct26), sl26⟩)
    (c26 : PySem.W.codeIn K cd26 "_law_place_right" = true)
    (k26 : PySem.W.keepIn K (.ref f26) = true)
    (a27 : PySem.W.nsIn K mainGlobals "_law_refuses" = some (some (.ref f27)))
    (l27 : K.lookup f27 = some ⟨oc27, od27, .func (PySem.W.fnOf "_law_refuses" "_law_refuses" (defArgs sRefuses) (defBody sRefuses) (defScope sRefuses) .none kV27 dc27 pm27 an27 cd27 ct27), sl27⟩)
    (c27 : PySem.W.codeIn K cd27 "_law_refuses" = true)
    (k27 : PySem.W.keepIn K (.ref f27) = true)
    (a28 : PySem.W.nsIn K mainGlobals "_law_stepped" = some (some (.ref f28)))
    (l28 : K.lookup f28 = some ⟨oc28, od28, .func (PySem.W.fnOf "_law_stepped" "_law_stepped" (defArgs sStepped) (defBody sStepped) (defScope sStepped) .none kV28 dc28 pm28 an28 cd28 ct28), sl28⟩)
    (c28 : PySem.W.codeIn K cd28 "_law_stepped" = true)
    (k28 : PySem.W.keepIn K (.ref f28) = true)
    (a29 : PySem.W.nsIn K mainGlobals "_law_asked" = some (some (.ref f29)))
    (l29 : K.lookup f29 = some ⟨oc29, od29, .func (PySem.W.fnOf "_law_asked" "_law_asked" (defArgs sAsked) (defBody sAsked) (defScope sAsked) .none kV29 dc29 pm29 an29 cd29 ct29), sl29⟩)
    (c29 : PySem.W.codeIn K cd29 "_law_asked" = true)
    (k29 : PySem.W.keepIn K (.ref f29) = true)
    (a30 : PySem.W.nsIn K mainGlobals "_law_alike" = some (some (.ref f30)))
    (l30 : K.lookup f30 = some ⟨oc30, od30, .func (PySem.W.fnOf "_law_alike" "_law_alike" (defArgs sAlike) (defBody sAlike) (defScope sAlike) .none kV30 dc30 pm30 an30 cd30 ct30), sl30⟩)
    (c30 : PySem.W.codeIn K cd30 "_law_alike" = true)
    (k30 : PySem.W.keepIn K (.ref f30) = true)
    (a31 : PySem.W.nsIn K mainGlobals "_law_right" = some (some (.ref f31)))
    (l31 : K.lookup f31 = some ⟨oc31, od31, .func (PySem.W.fnOf "_law_right" "_law_right" (defArgs sRight) (defBody sRight) (defScope sRight) .none kV31 dc31 pm31 an31 cd31 ct31), sl31⟩)
    (c31 : PySem.W.codeIn K cd31 "_law_right" = true)
    (k31 : PySem.W.keepIn K (.ref f31) = true)
    (a32 : PySem.W.nsIn K mainGlobals "law" = some (some (.ref f32)))
    (l32 : K.lookup f32 = some ⟨oc32, od32, .func (PySem.W.fnOf "law" "law" (defArgs sLaw) (defBody sLaw) (defScope sLaw) .none kV32 dc32 pm32 an32 cd32 ct32), sl32⟩)
    (c32 : PySem.W.codeIn K cd32 "law" = true)
    (k32 : PySem.W.keepIn K (.ref f32) = true)
    (pg : PySem.W.plainGet K C Str.empty = true)
    (hd : PySem.W.hasDictIn K C = true)
    (po : PySem.W.plainOver K C = true)
    (sa : PySem.W.findIn K (.ref C) "__setattr__" = some (some (.builtin "object.__setattr__")))
    (mk : PySem.W.makesIn K C = true)
    (kc : PySem.W.keepIn K (.ref C) = true)
    (n0 : PySem.W.findIn K (.ref C) "states" = some none)
    (z0 : PySem.W.nsIn K mainGlobals "isinstance" = some none)
    (z1 : PySem.W.nsIn K mainGlobals "int" = some none)
    (z2 : PySem.W.nsIn K mainGlobals "bool" = some none)
    (z3 : PySem.W.nsIn K mainGlobals "tuple" = some none)
    (z4 : PySem.W.nsIn K mainGlobals "len" = some none)
    (z5 : PySem.W.nsIn K mainGlobals "range" = some none)
    (z6 : PySem.W.nsIn K mainGlobals "max" = some none)
    (z7 : PySem.W.nsIn K mainGlobals "min" = some none)
    (z8 : PySem.W.nsIn K mainGlobals "zip" = some none)
    (z9 : PySem.W.nsIn K mainGlobals "sorted" = some none)
    (z10 : PySem.W.nsIn K mainGlobals "list" = some none)
    (z11 : PySem.W.nsIn K mainGlobals "enumerate" = some none) :
    ∃ fd : FuncData, (∀ (s : Shared) (v : Value), BindsTo s fd ⟨[v], []⟩ [("_law_script", v)]) ∧ ∀ base : Heap, K.In base → base.Ns mainGlobals mg → FnOk l.prog w K mg base CX0 7 fa fd ["_law_script"] (spLaw K) := by
  have e := hfa.symm.trans (PySem.W.mg_of X G a32)
  cases e
  have xB : XAt K B vE := ⟨⟨_, _, _, _, _, _, _, _, _, _, _, _, _, _, lB⟩, .base⟩
  have xN : XCls K N (.ref B :: vE) := ⟨⟨⟨_, _, _, _, _, _, _, _, _, _, _, _, _, _, lN⟩, .own .base⟩, saN, kN⟩
  have T : Txt K mg C f5 N f4 B := ⟨⟨pg, hd, po, sa⟩, n0, ⟨mk, a5, i5, kc⟩, PySem.W.mg_of X G aC, xN, xB, nN, a4, i4, PySem.W.mg_of X G aN, PySem.W.mg_of X G aB, PySem.W.mg_none_of X G z0, PySem.W.mg_none_of X G z1, PySem.W.mg_none_of X G z2, PySem.W.mg_none_of X G z3, PySem.W.mg_none_of X G z4, PySem.W.mg_none_of X G z5, PySem.W.mg_none_of X G z6, PySem.W.mg_none_of X G z7, PySem.W.mg_none_of X G z8, PySem.W.mg_none_of X G z9, PySem.W.mg_none_of X G z10, PySem.W.mg_none_of X G z11⟩
  have F0 := fun_mk (st := sWhole) l0 c0 k0
  have b0 := F0.binds (ps := ["thing"]) fun _ _ _ _ _ _ => us1 rfl fun _ => rfl
  have m0 := PySem.W.mg_of X G a0
  have F1 := fun_mk (st := sWithin) l1 c1 k1
  have b1 := F1.binds (ps := ["thing", "low", "high"]) fun _ _ _ _ _ _ => us3 rfl fun _ _ _ => rfl
  have m1 := PySem.W.mg_of X G a1
  have F2 := fun_mk (st := sStays) l2 c2 k2
  have b2 := F2.binds (ps := ["tops", "one", "other"]) fun _ _ _ _ _ _ => us3 rfl fun _ _ _ => rfl
  have m2 := PySem.W.mg_of X G a2
  have F3 := fun_mk (st := sJp) l3 c3 k3
  have b3 := F3.binds (ps := ["tops", "sides", "one", "other"]) fun _ _ _ _ _ _ => us4 rfl fun _ _ _ _ => rfl
  have m3 := PySem.W.mg_of X G a3
  have F4 := fun_mk (st := sNInit) l4 c4 k4
  have b4 := F4.binds (ps := ["self", "thing"]) fun _ _ _ _ _ _ => us2 rfl fun _ _ => rfl
  have F5 := fun_mk (st := sInit) l5 c5 k5
  have b5 := F5.binds (ps := ["self", "many"]) fun _ _ _ _ _ _ => us2 rfl fun _ _ => rfl
  have F6 := fun_mk (st := sShown) l6 c6 k6
  have b6 := F6.binds (ps := ["self"]) fun _ _ _ _ _ _ => us1 rfl fun _ => rfl
  have F7 := fun_mk (st := sTop) l7 c7 k7
  have b7 := F7.binds (ps := ["self", "place"]) fun _ _ _ _ _ _ => us2 rfl fun _ _ => rfl
  have F8 := fun_mk (st := sSide) l8 c8 k8
  have b8 := F8.binds (ps := ["self", "place"]) fun _ _ _ _ _ _ => us2 rfl fun _ _ => rfl
  have F9 := fun_mk (st := sOdd) l9 c9 k9
  have b9 := F9.binds (ps := ["self"]) fun _ _ _ _ _ _ => us1 rfl fun _ => rfl
  have F10 := fun_mk (st := sJoins) l10 c10 k10
  have b10 := F10.binds (ps := ["self"]) fun _ _ _ _ _ _ => us1 rfl fun _ => rfl
  have F11 := fun_mk (st := sSize) l11 c11 k11
  have b11 := F11.binds (ps := ["self", "place"]) fun _ _ _ _ _ _ => us2 rfl fun _ _ => rfl
  have F12 := fun_mk (st := sParts) l12 c12 k12
  have b12 := F12.binds (ps := ["self"]) fun _ _ _ _ _ _ => us1 rfl fun _ => rfl
  have F13 := fun_mk (st := sJoin) l13 c13 k13
  have b13 := F13.binds (ps := ["self", "one", "other"]) fun _ _ _ _ _ _ => us3 rfl fun _ _ _ => rfl
  have F14 := fun_mk (st := sBack) l14 c14 k14
  have b14 := F14.binds (ps := ["self", "thing"]) fun _ _ _ _ _ _ => us2 rfl fun _ _ => rfl
  have F15 := fun_mk (st := sCell) l15 c15 k15
  have b15 := F15.binds (ps := ["_law_script", "_law_k"]) fun _ _ _ _ _ _ => us2 rfl fun _ _ => rfl
  have m15 := PySem.W.mg_of X G a15
  have F16 := fun_mk (st := sOpen) l16 c16 k16
  have b16 := F16.binds (ps := ["_law_cell"]) fun _ _ _ _ _ _ => us1 rfl fun _ => rfl
  have m16 := PySem.W.mg_of X G a16
  have F17 := fun_mk (st := sDraw) l17 c17 k17
  have b17 := F17.binds (ps := ["_law_deck", "_law_most"]) fun _ _ _ _ _ _ => us2 rfl fun _ _ => rfl
  have m17 := PySem.W.mg_of X G a17
  have F18 := fun_mk (st := sRare) l18 c18 k18
  have b18 := F18.binds (ps := ["_law_deck", "_law_often", "_law_great"]) fun _ _ _ _ _ _ => us3 rfl fun _ _ _ => rfl
  have m18 := PySem.W.mg_of X G a18
  have F19 := fun_mk (st := sTwo) l19 c19 k19
  have b19 := F19.binds (ps := ["_law_deck", "_law_many"]) fun _ _ _ _ _ _ => us2 rfl fun _ _ => rfl
  have m19 := PySem.W.mg_of X G a19
  have F20 := fun_mk (st := sBegin) l20 c20 k20
  have b20 := F20.binds (ps := ["_law_many"]) fun _ _ _ _ _ _ => us1 rfl fun _ => rfl
  have m20 := PySem.W.mg_of X G a20
  have F21 := fun_mk (st := sDo) l21 c21 k21
  have b21 := F21.binds (ps := ["_law_model", "_law_pair"]) fun _ _ _ _ _ _ => us2 rfl fun _ _ => rfl
  have m21 := PySem.W.mg_of X G a21
  have F22 := fun_mk (st := sDue) l22 c22 k22
  have b22 := F22.binds (ps := ["_law_model"]) fun _ _ _ _ _ _ => us1 rfl fun _ => rfl
  have m22 := PySem.W.mg_of X G a22
  have F23 := fun_mk (st := sMade) l23 c23 k23
  have b23 := F23.binds (ps := ["_law_many", "_law_pairs"]) fun _ _ _ _ _ _ => us2 rfl fun _ _ => rfl
  have m23 := PySem.W.mg_of X G a23
  have F24 := fun_mk (st := sWholes) l24 c24 k24
  have b24 := F24.binds (ps := ["_law_things"]) fun _ _ _ _ _ _ => us1 rfl fun _ => rfl
  have m24 := PySem.W.mg_of X G a24
  have F25 := fun_mk (st := sShownR) l25 c25 k25
  have b25 := F25.binds (ps := ["_law_takes", "_law_model", "_law_laid"]) fun _ _ _ _ _ _ => us3 rfl fun _ _ _ => rfl
  have m25 := PySem.W.mg_of X G a25
  have F26 := fun_mk (st := sPlaceR) l26 c26 k26
  have b26 := F26.binds (ps := ["_law_takes", "_law_model", "_law_place"]) fun _ _ _ _ _ _ => us3 rfl fun _ _ _ => rfl
  have m26 := PySem.W.mg_of X G a26
  have F27 := fun_mk (st := sRefuses) l27 c27 k27
  have b27 := F27.binds (ps := ["_law_takes", "_law_mark"]) fun _ _ _ _ _ _ => us2 rfl fun _ _ => rfl
  have m27 := PySem.W.mg_of X G a27
  have F28 := fun_mk (st := sStepped) l28 c28 k28
  have b28 := F28.binds (ps := ["_law_deck", "_law_takes", "_law_pairs", "_law_many"]) fun _ _ _ _ _ _ => us4 rfl fun _ _ _ _ => rfl
  have m28 := PySem.W.mg_of X G a28
  have F29 := fun_mk (st := sAsked) l29 c29 k29
  have b29 := F29.binds (ps := ["_law_takes", "_law_many", "_law_turn"]) fun _ _ _ _ _ _ => us3 rfl fun _ _ _ => rfl
  have m29 := PySem.W.mg_of X G a29
  have F30 := fun_mk (st := sAlike) l30 c30 k30
  have b30 := F30.binds (ps := ["_law_deck", "_law_takes", "_law_many", "_law_pairs", "_law_told"]) fun _ _ _ _ _ _ => us5 rfl fun _ _ _ _ _ => rfl
  have m30 := PySem.W.mg_of X G a30
  have F31 := fun_mk (st := sRight) l31 c31 k31
  have b31 := F31.binds (ps := ["_law_deck"]) fun _ _ _ _ _ _ => us1 rfl fun _ => rfl
  have m31 := PySem.W.mg_of X G a31
  have F32 := fun_mk (st := sLaw) l32 c32 k32
  have b32 := F32.binds (ps := ["_law_script"]) fun _ _ _ _ _ _ => us1 rfl fun _ => rfl
  have m32 := PySem.W.mg_of X G a32
  refine ⟨PySem.W.fnOf "law" "law" (defArgs sLaw) (defBody sLaw) (defScope sLaw) .none kV32 dc32 pm32 an32 cd32 ct32, fun s v => .of_eq rfl, fun base _ _ => ?_⟩
  have Q_is_whole : FnOk l.prog w K mg base CX0 1 f0 _ ["thing"] spWhole := ok_Whole F0 T 
  have QwT : FnOk l.prog w K mg base CX0 1 f0 _ ["thing"] (spWholeT K) := ok_WholeT F0 T 
  have Q_is_within : FnOk l.prog w K mg base CX0 2 f1 _ ["thing", "low", "high"] spWithin := ok_Within F1 T k0 b0 m0 (Q_is_whole.mono (by decide))
  have QiT : FnOk l.prog w K mg base CX0 2 f1 _ ["thing", "low", "high"] (spWithinT K) := ok_WithinT F1 T k0 b0 m0 (QwT.mono (by decide))
  have Q_stays : FnOk l.prog w K mg base CX0 1 f2 _ ["tops", "one", "other"] (spStays K) := ok_Stays F2 T 
  have Q_joined_parts : FnOk l.prog w K mg base CX0 2 f3 _ ["tops", "sides", "one", "other"] (spJp K) := ok_Jp F3 T k2 b2 m2 (Q_stays.mono (by decide))
  have Q_NoMark___init__ : FnOk l.prog w K mg base CX0 1 f4 _ ["self", "thing"] (spNInit N) := ok_NInit F4 T 
  have Q_Takes___init__ : FnOk l.prog w K mg base CX0 1 f5 _ ["self", "many"] (spInit C) := ok_Init F5 T 
  have Q_Takes_shown : FnOk l.prog w K mg base CX0 1 f6 _ ["self"] (spShown C) := ok_Shown F6 T 
  have Q_Takes_top : FnOk l.prog w K mg base CX0 2 f7 _ ["self", "place"] (spTop C) := ok_Top F7 T b6 ⟨a6, i6, k6⟩ (Q_Takes_shown.mono (by decide))
  have Q_Takes_side : FnOk l.prog w K mg base CX0 2 f8 _ ["self", "place"] (spSide C) := ok_Side F8 T b6 ⟨a6, i6, k6⟩ (Q_Takes_shown.mono (by decide))
  have Q_Takes_odd : FnOk l.prog w K mg base CX0 2 f9 _ ["self"] (spOdd C) := ok_Odd F9 T b6 ⟨a6, i6, k6⟩ (Q_Takes_shown.mono (by decide))
  have Q_Takes_joins : FnOk l.prog w K mg base CX0 1 f10 _ ["self"] (spJoins C) := ok_Joins F10 T 
  have Q_Takes_size : FnOk l.prog w K mg base CX0 3 f11 _ ["self", "place"] (spSize C) := ok_Size F11 T b6 ⟨a6, i6, k6⟩ (Q_Takes_shown.mono (by decide)) b7 ⟨a7, i7, k7⟩ (Q_Takes_top.mono (by decide))
  have Q_Takes_parts : FnOk l.prog w K mg base CX0 2 f12 _ ["self"] (spParts C) := ok_Parts F12 T b6 ⟨a6, i6, k6⟩ (Q_Takes_shown.mono (by decide))
  have Q_Takes_join : FnOk l.prog w K mg base CX0 3 f13 _ ["self", "one", "other"] (spJoin C) := ok_Join F13 T b6 ⟨a6, i6, k6⟩ (Q_Takes_shown.mono (by decide)) k3 b3 m3 (Q_joined_parts.mono (by decide))
  have Q_Takes_back : FnOk l.prog w K mg base CX0 3 f14 _ ["self", "thing"] (spBack C) := ok_Back F14 T k1 b1 m1 (Q_is_within.mono (by decide)) b10 ⟨a10, i10, k10⟩ (Q_Takes_joins.mono (by decide))
  have QbX : FnOk l.prog w K mg base (CXU l.prog w) 3 f14 _ ["self", "thing"] (spBackX K C N) := ok_BackX F14 T k1 b1 m1 (QiT.mono (by decide)) b10 ⟨a10, i10, k10⟩ (Q_Takes_joins.mono (by decide)) b4 Q_NoMark___init__
  have Q__law_cell_at : FnOk l.prog w K mg base CX0 1 f15 _ ["_law_script", "_law_k"] (spCell K) := ok_Cell F15 T 
  have Q__law_opened : FnOk l.prog w K mg base CX0 1 f16 _ ["_law_cell"] spOpen := ok_Open F16 T 
  have Q__law_draw : FnOk l.prog w K mg base CX0 1 f17 _ ["_law_deck", "_law_most"] spDraw := ok_Draw F17 T 
  have Q__law_rare : FnOk l.prog w K mg base CX0 2 f18 _ ["_law_deck", "_law_often", "_law_great"] spRare := ok_Rare F18 T k17 b17 m17 (Q__law_draw.mono (by decide))
  have Q__law_two_of : FnOk l.prog w K mg base CX0 2 f19 _ ["_law_deck", "_law_many"] spTwo := ok_Two F19 T k17 b17 m17 (Q__law_draw.mono (by decide))
  have Q__law_begin : FnOk l.prog w K mg base CX0 1 f20 _ ["_law_many"] spBegin := ok_Begin F20 T 
  have Q__law_do : FnOk l.prog w K mg base CX0 1 f21 _ ["_law_model", "_law_pair"] spDo := ok_Do F21 T 
  have Q__law_due_of : FnOk l.prog w K mg base CX0 1 f22 _ ["_law_model"] spDue := ok_Due F22 T 
  have Q__law_made : FnOk l.prog w K mg base CX0 2 f23 _ ["_law_many", "_law_pairs"] spMade := ok_Made F23 T k20 b20 m20 (Q__law_begin.mono (by decide)) k21 b21 m21 (Q__law_do.mono (by decide))
  have Q__law_are_wholes : FnOk l.prog w K mg base CX0 1 f24 _ ["_law_things"] spWholes := ok_Wholes F24 T 
  have Q__law_shown_right : FnOk l.prog w K mg base CX0 4 f25 _ ["_law_takes", "_law_model", "_law_laid"] (spShownR C) := ok_ShownR F25 T b6 ⟨a6, i6, k6⟩ (Q_Takes_shown.mono (by decide)) k22 b22 m22 (Q__law_due_of.mono (by decide)) b12 ⟨a12, i12, k12⟩ (Q_Takes_parts.mono (by decide)) b9 ⟨a9, i9, k9⟩ (Q_Takes_odd.mono (by decide)) b10 ⟨a10, i10, k10⟩ (Q_Takes_joins.mono (by decide)) k24 b24 m24 (Q__law_are_wholes.mono (by decide))
  have Q__law_place_right : FnOk l.prog w K mg base CX0 4 f26 _ ["_law_takes", "_law_model", "_law_place"] (spPlaceR C) := ok_PlaceR F26 T b7 ⟨a7, i7, k7⟩ (Q_Takes_top.mono (by decide)) b8 ⟨a8, i8, k8⟩ (Q_Takes_side.mono (by decide)) b11 ⟨a11, i11, k11⟩ (Q_Takes_size.mono (by decide)) k24 b24 m24 (Q__law_are_wholes.mono (by decide))
  have Q__law_refuses : FnOk l.prog w K mg base CX0 4 f27 _ ["_law_takes", "_law_mark"] (spRefuses K C) := ok_Refuses F27 T b14 ⟨a14, i14, k14⟩ (QbX.mono (by decide))
  have Q__law_stepped : FnOk l.prog w K mg base CX0 5 f28 _ ["_law_deck", "_law_takes", "_law_pairs", "_law_many"] (spStepped C) := ok_Stepped F28 T k17 b17 m17 (Q__law_draw.mono (by decide)) k27 b27 m27 (Q__law_refuses.mono (by decide)) b14 ⟨a14, i14, k14⟩ (Q_Takes_back.mono (by decide)) k19 b19 m19 (Q__law_two_of.mono (by decide)) b13 ⟨a13, i13, k13⟩ (Q_Takes_join.mono (by decide))
  have Q__law_asked : FnOk l.prog w K mg base CX0 4 f29 _ ["_law_takes", "_law_many", "_law_turn"] (spAsked C) := ok_Asked F29 T b11 ⟨a11, i11, k11⟩ (Q_Takes_size.mono (by decide)) b8 ⟨a8, i8, k8⟩ (Q_Takes_side.mono (by decide)) b7 ⟨a7, i7, k7⟩ (Q_Takes_top.mono (by decide)) b6 ⟨a6, i6, k6⟩ (Q_Takes_shown.mono (by decide)) b9 ⟨a9, i9, k9⟩ (Q_Takes_odd.mono (by decide)) b12 ⟨a12, i12, k12⟩ (Q_Takes_parts.mono (by decide)) b10 ⟨a10, i10, k10⟩ (Q_Takes_joins.mono (by decide))
  have Q__law_alike : FnOk l.prog w K mg base CX0 5 f30 _ ["_law_deck", "_law_takes", "_law_many", "_law_pairs", "_law_told"] (spAlike C) := ok_Alike F30 T k17 b17 m17 (Q__law_draw.mono (by decide)) k23 b23 m23 (Q__law_made.mono (by decide)) k25 b25 m25 (Q__law_shown_right.mono (by decide)) k26 b26 m26 (Q__law_place_right.mono (by decide)) b6 ⟨a6, i6, k6⟩ (Q_Takes_shown.mono (by decide)) k22 b22 m22 (Q__law_due_of.mono (by decide)) k29 b29 m29 (Q__law_asked.mono (by decide))
  have Q__law_right : FnOk l.prog w K mg base CX0 6 f31 _ ["_law_deck"] spRight := ok_Right F31 T k17 b17 m17 (Q__law_draw.mono (by decide)) b5 Q_Takes___init__ k18 b18 m18 (Q__law_rare.mono (by decide)) k28 b28 m28 (Q__law_stepped.mono (by decide)) k30 b30 m30 (Q__law_alike.mono (by decide)) b13 ⟨a13, i13, k13⟩ (Q_Takes_join.mono (by decide)) k29 b29 m29 (Q__law_asked.mono (by decide))
  exact ok_Law F32 T k31 b31 m31 (Q__law_right.mono (by decide)) k16 b16 m16 (Q__law_opened.mono (by decide)) k15 b15 m15 (Q__law_cell_at.mono (by decide))
theorem walk {l : PySem.W.OpenLaw} {q : Program} {loose : List Str} {XP : (Str → Option Value) → Heap → Prop} {YP : World → Heap → Prop} {d : DefRec} {K : Params → PySem.W.Frag} (hn : l.most = some 63) (hdf : d.params.defaults = [])
    (hY : ∀ (w : World) (h : Heap), YP w h → (K w.params).In h)
    (F : ∀ (w : World) (mg : Str → Option Value) (fa : Addr) (h : Heap), (K w.params).In h → h.Ns mainGlobals mg → mg d.name = some (.ref fa) →
      ∃ fd : FuncData, (∀ (s : Shared) (u : Value), BindsTo s fd ⟨[u], []⟩ [("_law_script", u)]) ∧ ∀ base : Heap, (K w.params).In base → base.Ns mainGlobals mg → FnOk l.prog w (K w.params) mg base CX0 7 fa fd ["_law_script"] (spLaw (K w.params))) :
    PySem.W.WalkO q loose XP YP l.row.toRowW d [] (fun f vs => PySem.call f vs) :=
  L2.walk_of (n := 63) (k := 7) (x := "_law_script") (CX := fun _ => CX0) (sp := fun w => spLaw (K w.params)) hn (by decide) hdf ⟨rfl, by decide, by decide, rfl⟩ hY F (fun _ _ a ns hl _ hS => ⟨a, ns, rfl, hS, hl, fun _ => rfl⟩) fun _ _ _ _ _ z => z
end K20
open PySem PySem.W PyProof.Rows
set_option maxRecDepth 100000 in
set_option maxHeartbeats 0 in
theorem PySem.Challenge.cw_joinedever_k20_two_by_turns_holds : PySem.Challenge.rw_joinedever_k20_two_by_turns.Holds := by
  w_on; o_law; k_head; (case hw => w_witness2)
  k_fill
  refine K20.walk (l := PySem.Challenge.rw_joinedever_k20_two_by_turns) rfl rfl (fun w h Y => PySem.W.kIn_of Y) ?F
  case F =>
    intro w mg fa h KX G hmg
    refine' K20.all_mk KX G hmg ?aC ?aN ?aB ?lN ?lB ?saN ?kN ?nN ?a0 ?l0 ?c0 ?k0 ?a1 ?l1 ?c1 ?k1 ?a2 ?l2 ?c2 ?k2 ?a3 ?l3 ?c3 ?k3 ?a4 ?i4 ?l4 ?c4 ?k4 ?a5 ?i5 ?l5 ?c5 ?k5 ?a6 ?i6 ?l6 ?c6 ?k6 ?a7 ?i7 ?l7 ?c7 ?k7 ?a8 ?i8 ?l8 ?c8 ?k8 ?a9 ?i9 ?l9 ?c9 ?k9 ?a10 ?i10 ?l10 ?c10 ?k10 ?a11 ?i11 ?l11 ?c11 ?k11 ?a12 ?i12 ?l12 ?c12 ?k12 ?a13 ?i13 ?l13 ?c13 ?k13 ?a14 ?i14 ?l14 ?c14 ?k14 ?a15 ?l15 ?c15 ?k15 ?a16 ?l16 ?c16 ?k16 ?a17 ?l17 ?c17 ?k17 ?a18 ?l18 ?c18 ?k18 ?a19 ?l19 ?c19 ?k19 ?a20 ?l20 ?c20 ?k20 ?a21 ?l21 ?c21 ?k21 ?a22 ?l22 ?c22 ?k22 ?a23 ?l23 ?c23 ?k23 ?a24 ?l24 ?c24 ?k24 ?a25 ?l25 ?c25 ?k25 ?a26 ?l26 ?c26 ?k26 ?a27 ?l27 ?c27 ?k27 ?a28 ?l28 ?c28 ?k28 ?a29 ?l29 ?c29 ?k29 ?a30 ?l30 ?c30 ?k30 ?a31 ?l31 ?c31 ?k31 ?a32 ?l32 ?c32 ?k32 ?pg ?hd ?po ?sa ?mk ?kc ?n0 ?z0 ?z1 ?z2 ?z3 ?z4 ?z5 ?z6 ?z7 ?z8 ?z9 ?z10 ?z11
    (case aC => k_is)
    (case aN => k_is)
    (case aB => k_is)
    (case lN => k_is)
    (case lB => k_is)
    (case saN => k_is)
    (case kN => k_is)
    (case nN => k_is)
    (case a0 => k_is)
    (case l0 => k_is)
    (case c0 => k_is)
    (case k0 => k_is)
    (case a1 => k_is)
    (case l1 => k_is)
    (case c1 => k_is)
    (case k1 => k_is)
    (case a2 => k_is)
    (case l2 => k_is)
    (case c2 => k_is)
    (case k2 => k_is)
    (case a3 => k_is)
    (case l3 => k_is)
    (case c3 => k_is)
    (case k3 => k_is)
    (case a4 => k_is)
    (case i4 => k_is)
    (case l4 => k_is)
    (case c4 => k_is)
    (case k4 => k_is)
    (case a5 => k_is)
    (case i5 => k_is)
    (case l5 => k_is)
    (case c5 => k_is)
    (case k5 => k_is)
    (case a6 => k_is)
    (case i6 => k_is)
    (case l6 => k_is)
    (case c6 => k_is)
    (case k6 => k_is)
    (case a7 => k_is)
    (case i7 => k_is)
    (case l7 => k_is)
    (case c7 => k_is)
    (case k7 => k_is)
    (case a8 => k_is)
    (case i8 => k_is)
    (case l8 => k_is)
    (case c8 => k_is)
    (case k8 => k_is)
    (case a9 => k_is)
    (case i9 => k_is)
    (case l9 => k_is)
    (case c9 => k_is)
    (case k9 => k_is)
    (case a10 => k_is)
    (case i10 => k_is)
    (case l10 => k_is)
    (case c10 => k_is)
    (case k10 => k_is)
    (case a11 => k_is)
    (case i11 => k_is)
    (case l11 => k_is)
    (case c11 => k_is)
    (case k11 => k_is)
    (case a12 => k_is)
    (case i12 => k_is)
    (case l12 => k_is)
    (case c12 => k_is)
    (case k12 => k_is)
    (case a13 => k_is)
    (case i13 => k_is)
    (case l13 => k_is)
    (case c13 => k_is)
    (case k13 => k_is)
    (case a14 => k_is)
    (case i14 => k_is)
    (case l14 => k_is)
    (case c14 => k_is)
    (case k14 => k_is)
    (case a15 => k_is)
    (case l15 => k_is)
    (case c15 => k_is)
    (case k15 => k_is)
    (case a16 => k_is)
    (case l16 => k_is)
    (case c16 => k_is)
    (case k16 => k_is)
    (case a17 => k_is)
    (case l17 => k_is)
    (case c17 => k_is)
    (case k17 => k_is)
    (case a18 => k_is)
    (case l18 => k_is)
    (case c18 => k_is)
    (case k18 => k_is)
    (case a19 => k_is)
    (case l19 => k_is)
    (case c19 => k_is)
    (case k19 => k_is)
    (case a20 => k_is)
    (case l20 => k_is)
    (case c20 => k_is)
    (case k20 => k_is)
    (case a21 => k_is)
    (case l21 => k_is)
    (case c21 => k_is)
    (case k21 => k_is)
    (case a22 => k_is)
    (case l22 => k_is)
    (case c22 => k_is)
    (case k22 => k_is)
    (case a23 => k_is)
    (case l23 => k_is)
    (case c23 => k_is)
    (case k23 => k_is)
    (case a24 => k_is)
    (case l24 => k_is)
    (case c24 => k_is)
    (case k24 => k_is)
    (case a25 => k_is)
    (case l25 => k_is)
    (case c25 => k_is)
    (case k25 => k_is)
    (case a26 => k_is)
    (case l26 => k_is)
    (case c26 => k_is)
    (case k26 => k_is)
    (case a27 => k_is)
    (case l27 => k_is)
    (case c27 => k_is)
    (case k27 => k_is)
    (case a28 => k_is)
    (case l28 => k_is)
    (case c28 => k_is)
    (case k28 => k_is)
    (case a29 => k_is)
    (case l29 => k_is)
    (case c29 => k_is)
    (case k29 => k_is)
    (case a30 => k_is)
    (case l30 => k_is)
    (case c30 => k_is)
    (case k30 => k_is)
    (case a31 => k_is)
    (case l31 => k_is)
    (case c31 => k_is)
    (case k31 => k_is)
    (case a32 => k_is)
    (case l32 => k_is)
    (case c32 => k_is)
    (case k32 => k_is)
    (case pg => k_is)
    (case hd => k_is)
    (case po => k_is)
    (case sa => k_is)
    (case mk => k_is)
    (case kc => k_is)
    (case n0 => k_is)
    (case z0 => k_is)
    (case z1 => k_is)
    (case z2 => k_is)
    (case z3 => k_is)
    (case z4 => k_is)
    (case z5 => k_is)
    (case z6 => k_is)
    (case z7 => k_is)
    (case z8 => k_is)
    (case z9 => k_is)
    (case z10 => k_is)
    (case z11 => k_is)
